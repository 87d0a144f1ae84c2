import PyProof.Rows.All
import Wide.All
import OpenK.AllK
import Wide.FinOn
import Lean
import PyProof.EqAt
import PyProof.EqKinds
import PyProof.TupleCall
import PySem.Challenge.RW_royaltree_k17_money_told
set_option bootstrap.genMatcherCode false
set_option genSizeOf false
set_option compiler.extract_closed false
set_option Elab.async false
set_option linter.all false
set_option maxRecDepth 100000
noncomputable section
open And renaming intro->OU
open Array renaming length_toList->ĳ,getD_eq_getD_getElem?->Ÿ,getElem?_eq_getElem->aA,getElem?_toList->aD,getElem?_setIfInBounds_self_of_lt->dD,getElem?_eq_some_iff->eo,perm_iff_toList_perm->eA,getElem?_eq_none->gw,mem_toList_iff->o_,toList_inj->uP,toList->Cb,size_push->N6
open Array.Perm renaming refl->bB
open Bool renaming false_ne_true->ã,and_eq_true->ċ,and_true->ů,false_eq_true->Ŵ,eq_iff_iff->dk,not_eq_true'->dF,or_true->eW,or_eq_true->fE,not_false->gS,false_or->iW,not_true->iX,and_eq_false_iff->oR,and_false->pX,or_eq_false_iff->pY,eq_false_iff->uv,true_and->BS,true_or->DD,and_eq_true_iff->GH,or_false->SF
open Classical renaming propDecidable->kY
open False renaming elim->aJ
open ForInStep renaming yield->bC
open Int renaming gcd->Ţ,toNat_natCast->a7,fmod_eq_emod_of_nonneg->kZ,mul_right_comm->k7,fmod_nonneg_of_pos->ot,mul_comm->ou,fmod_lt_of_pos->tU,gcd_dvd_right->uQ,gcd_dvd_left->wV,eq_of_mul_eq_mul_right->Af,natAbs_dvd_natAbs->GI,one_mul->GS,mul_fdiv_cancel->KU,emod_lt_of_pos->Lo,emod_nonneg->Si,natAbs_mul->SH,le_refl->YG,neg_dvd->YH,neg_mul->YI,not_lt->Z8
open List renaming getElem?_eq_getElem->Å,getElem?_eq_some_iff->Ç,append_assoc->È,length_map->Ê,map_cons->Ô,replicate->Ö,size_toArray->Û,getElem?_append_left->Ý,mem_cons->ß,getElem?_append_right->á,getD_eq_getElem?_getD->ä,getElem?_map->é,mem_singleton->ð,range->ø,getElem?_set_ne->ù,all_eq_true->ú,mem_of_getElem?->ý,not_mem_nil->Ā,length_append->Ă,mem_cons_of_mem->Ċ,getElem?_set_self->Đ,length_cons->ē,map_append->Ĕ,mem_append_right->Ě,lookup_cons->ĥ,toArray->Ħ,getElem_of_mem->ĩ,mem_map->Ļ,all_cons->ľ,mem_cons_self->Ŀ,pairwise_cons->ŀ,any_cons->ŉ,contains_cons->Ő,mem_append->Ŕ,length_take->Ř,take_left->ţ,length_set->Ť,getElem?_take_of_lt->Ű,map_nil->Ų,replicate_succ->ar,nil_append->av,append_nil->a8,nodup_cons->a9,prefix_rfl->a_,all_nil->bu,getElem_inj->bw,length_nil->bZ,length->b_,map_map->cb,mem_append_left->cf,map_congr_left->cE,cons_append->cP,find?_cons->dn,set_append_right->dC,flatten_cons->dH,length_range->dI,pairwise_map->dJ,lookup->eK,any_eq_true->eY,ext_getElem->eZ,getElem_mem->e8,mergeSort_perm->fv,prefix_append->f7,pairwise_mergeSort->f',nodup_append->gU,forIn_cons->jO,mem_filter->jP,mem_filterMap->kR,mem_range->kS,map_id->lJ,reverse_cons->lK,getElem?_replicate->mY,pairwise_singleton->mZ,length_zip->oy,take_left'->oz,mem_iff_getElem->p8,mem_of_mem_take->p_,filterMap_cons->qT,length_reverse->qU,set_comm->ra,lookup_append->sQ,take_sublist->uy,filter_cons->wL,mem_reverse->wM,of_mem_zip->xD,forIn_nil->zS,mapM_cons->zU,drop_eq_getElem_cons->Ag,getElem?_zip_eq_some->Ai,pairwise_iff_getElem->Aj,mapM_nil->BW,map_take->BX,length_eq_zero_iff->Ce,getElem?_eq_none->E2,length_replicate->E3,length_singleton->E4,max?_eq_some_iff->E5,set_getElem_self->E6,set_append_left->GJ,find?_eq_none->KZ,foldl->K0,map_replicate->K1,zip_cons_cons->K4,any_eq_false->Lp,cons_ne_nil->N8,drop_length->N9,length_drop->N_,zipIdx_cons->Oa,any_append->OV,zipIdx_nil->OW,drop_zero->Sj,map_drop->SI,map_set->VG,set_set->VH
open List.Pairwise renaming nil->ow
open List.Sublist renaming append->YJ,refl->YK
open List.cons renaming injEq->aT,inj->KY
open Nat renaming reduceSub->Æ,le_refl->Î,lt_of_lt_of_le->ì,ne_of_lt->ò,zero_le->ÿ,le_trans->đ,le_of_lt->Ġ,ne_of_gt->ħ,lt_irrefl->ŋ,lt_of_le_of_lt->bJ,lt_succ_of_lt->eg,lt_succ_self->fc,le_of_eq->ki,le_succ->mw,le_add_right->m4,lt_trans->oA,not_lt->oB,le_of_succ_le->uS,sub_self->uT,zero_add->uU,add_le_add_left->K5,succ_le_succ->OX,min_eq_left->Sk,not_lt_zero->Sl,add_comm->WD,sub_zero->WG,log2_lt->YL
open Nat.succ renaming inj->f9
open Ne renaming symm->Ō
open Option renaming some->À,isSome_iff_exists->cg,bind_some->cC,map_some->dc,isSome_map->sR,getD_some->uz,isSome_some->GK,getD_none->K6
open Option.some renaming inj->è,injEq->Z9
open Or renaming inl->BY,inr->GL
open PUnit renaming unit->WH
open Prod renaming ext->qa
open PyProof renaming noPylong_of_log2->yy
open PyProof.Rows renaming seqObj->Ē,slot_tuple_getitem->ř,boot_sorted->ŧ,envOfC->aM,callWith_type1->cQ,assignInOrder_cons->dR,listUpdate_at->eM,get?_update_seq->k_,AllBare->n3,seqEpoch_at->n6,SortKind->ph,subscriptTail_builtinR->qm,mirror_perm->tY,IntsAre->ux,assignInOrder_nil->yC,entry_sorted->yG,listItems_at->yH,plain_sorted->yI,envOfC->As,kind_sorted->B6,entry_list_sort->Ci,Subscript_->E8,bubble->Fb,slot_list_sort->Fg,subscriptTail->GY,IsTup->KW,args_sorted1->Lw,keyKind'->O0,entry_tuple_getitem->Sn,args_tuple_getitem->SS,slot_tuple_getitem->SW,StrsAre->VI,unpackItems_tuple->VP,boot_enumerate->YM,boot_zip->YN,callWith_builtin1->YO,callWith_kw->YP,call_function_entry_kw->YQ,formatField_int->YR,ksk_l1->YS,ksk_s1->YT,ksk_t1->YU,kws_cons->YV,kws_nil->YW,list_sort_plain->Zi,args_list_sort->Z'
open PyProof.Rows.IsTup renaming new->uR
open PyProof.Rows.KeyOrd renaming klt_of_klt_of_kle->fu,kle_trans->hI,kle_of_klt->sP,kle_refl->wK,kle_of_not_klt->Cd,kle_antisymm->EZ,kle->VF
open PySem renaming wpAny_bind->Â,wpAny_pure->Ì,starEach->Ï,Shared->Ú,wpAny->Ü,model->à,sizeLine_eq->ĉ,Program->Č,eval->Ė,backTo->Ģ,wpAny_call_entry->Ĩ,World->Ī,compareOp->Į,bootBuiltins->İ,wpAny_callSpecial?_slot->ķ,wpAny_field->ń,wpAny_holding->ő,Around->Œ,wpAny_newObj_type->Š,rawInt->Ŷ,wpAny_Call_Name_kw->af,attributeBase->aB,behindInMarks->aC,wpAny_mono->aE,binaryOp->a',keywordEach->bR,cellsFrom->bS,sysModules->b8,wpAny_rule->b9,Builtin->cD,wpAny_truthy_bool->cG,wpAny_attempt->cR,holding->df,wpAny_seqItems->di,assignEach->dP,tupleKind_room_in1->dS,wpAny_setField_rec->dU,FuncData->eB,wpAny_passesOwn->eD,swapsWith->eN,wpAny_standAt->eO,codeAny->e9,foldedSetIterable->e_,mem_of_lookup->fe,pyNext->gg,backToKw->gz,bindName->gA,wpAny_newList->gB,Keyword->iZ,intKind->i7,wpAny_setField->i9,standAt->jW,swappedStores->jX,swapsWithSole->jY,bindArgs->kj,sliceBounds->kn,Pos->kU,assign->k9,letOwnedTupleGo->la,tupleKind->mx,NameKind->mH,builtinsNs->mM,wpAny_bindName->mN,getItem->n4,IsPair->ov,assignInOrder->oF,getMethod->pj,PlainAttrs->qg,call_meets->qi,closureFor->qj,codeAny_mono->qk,codeAny_builtin->qV,wpAny_execs_nil->qW,IsPart->tV,newFunctionEnv->tZ,wpAny_loadName_local->t5,wpAny_newTuple->t6,wpAny_updateSeq_pair->t9,BindsTo->uu,callerA->uA,wpAny_onRaise->wQ,wpAny_call->w6,wpAny_pyIter_tuple->w8,callWith->yE,call_meetsIn->yF,valueAt->yJ,wpAny_pyIter_list->yK,wpAny_typeOf->yL,DictEntry->Ac,PassesOwn->Ak,codeAmong->Ar,noFill_tuple_add->Au,seqIndex?->Av,setFlight->Aw,wpAny_isInstance->Ax,IsZip->BV,subscripted->B7,wpAny_letGo->B8,Within->Cf,wpAny_updateSeq->Cj,atKey->E_,checkCount->Fc,evalEach->Fd,isSubtype_stop->Fe,isTrue->Ff,wpAny_Name->Fh,call->GV,plainId_quiet->GW,seq_tuple_add->GX,wpAny_comprehension_free->GZ,wpAny_handled->G0,Env->KS,bindC->K8,bindL->K9,field->K',noteFrame->Ld,pushCells->Le,Fin->Lu,concat_meets->Lx,pyIter->LA,setItem->LB,typeOf->LC,wpAny_isTrue_Compare1->Od,compEnvC->OZ,seqIndex_of->O1,unbindBehindTheSuite->O2,wpAny_of_eq->O3,wpAny_throw->O4,wpAny_isSubtype_exc->So,wpAny_loadName_cell->Sq,Result->SO,defaultsOf->SU,typeIs_int->SX,wpAny_Constant_int->SY,newList->VM,slot_list_getitem->VN,unaryOp->VO,wpAny_Call_method->VQ,wpAny_assign_Name->VS,wpAny_loadPart_at->VT,wpAny_pyIter_enum->VU,wpAny_pyIter_slot->VW,wpAny_sequenceKey->VX,TriplesOk->WW,checkBuiltinCall->WX,storeName->WY,updateSeq->WZ,wpAny_Dict_empty->W0,wpAny_execs_cons->W2,wpAny_pyIter_zip->W3,Sem->Za,exec_Assign_arm->Zh,pushCells_keeps->Zj,ZipApart->Z_
open PySem.Around renaming under_plainId->iO,under->sO
open PySem.Builtin.Dict renaming noArgs->YC,showsAll->YD
open PySem.Builtin.Dict_items renaming ownsTuple->N7
open PySem.Builtin.Int renaming intBits->bX,intTooBig->xB
open PySem.Builtin.List renaming listTooLong->jN,listExtendWith->qY,listSameRef->uw
open PySem.Builtin.Range renaming rangeSize->Wx
open PySem.Builtin.Slice renaming slicePlaces->dm,sliceAdjust->iY,sliceApplied->qZ,sliceFields->Wy,slicePartIndex->Wz
open PySem.Builtin.SmallTypes renaming nextOf->ł,ownedTupleIsFree->aI,ownedTupleHandOut->kQ
open PySem.Builtin.Str renaming strKind->qb,tooLong->OY
open PySem.Builtin.Tuple renaming tupleExact->dG,tupleItemsOf->q_,tupleIsExact->WA
open PySem.Calls renaming spliced_cons->fF,call_function_entry->fG,callWith_builtin->gy,spliced_nil->lG,evalArgs_plain->pa,Name_function_global->yx
open PySem.Challenge renaming pw_royaltree_k17_money_told->SK
open PySem.Code renaming isFrame->DE,isGuard->VB,frames->WB
open PySem.EntryCells renaming newEntry->Ad
open PySem.EqMixed renaming eq_bool_str->WI,eq_int_str->WJ,eq_str_bool->WK,eq_str_int->WL,ne_bool_str->WM,ne_int_str->WN,ne_str_bool->WO,ne_str_int->WR
open PySem.EqNone renaming eq_bool_none->YX,eq_int_none->YY,eq_none_bool->YZ,eq_none_int->Y0,eq_none_none->Y1,eq_none_str->Y2,eq_str_none->Y3,ne_bool_none->Y4,ne_int_none->Y5,ne_none_bool->Y6,ne_none_int->Y7,ne_none_none->Y8,ne_none_str->Y9,ne_str_none->Y_
open PySem.F renaming slot_dict_itemiterator_next->Ŭ,slot_dict_keyiterator_next->ű,slot_dict_get->bx,plain_extend_loop->eL,slot_tuple_iterator_next->fb,plainAttrs_list->fB,entry_dict_get->gb,args_tuple_add_2->k8,entry_tuple_add->lL,plainAttrs_dict->lM,slot_tuple_add->mI,args_dict_itemiterator_next_1->oT,args_dict_keyiterator_next_1->pb,entry_dict_itemiterator_next->pd,slot_zip_next->pZ,entry_dict_keyiterator_next->qc,slot_dict_items_iter->uV,excBase_ValueError->wW,entry_extend_loop->xE,args_dict_get_2->zV,args_dict_get_3->zW,attr_ValueError->zX,plain_list_iadd->zY,slot_dict_items->zZ,args_tuple_iterator_next_1->Ae,slot_dict_iter->Al,entry_tuple_iterator_next->BU,slot_list_pop->BZ,slot_tuple_lt->B0,type_dict_get->B1,type_list_pop->B2,args_zip_next_1->Sh,entry_zip_next->SG,slot_int_rmul->VC
open PySem.Flow renaming next->Cc
open PySem.Heap renaming get?_push_of_some->Ä,lt_size->Ó,get?_push_size->Ù,get?_update_other->ê,get?_update_self->Ą,size_push->ĺ,SameBut->eX,size_update->wJ,IsTuple->VE
open PySem.Heap.DictOf renaming new->Z7
open PySem.Heap.IsSliceOf renaming new->VD
open PySem.Heap.IsTuple renaming push->YE
open PySem.Heap.SameBut renaming update->ŵ,refl->YF
open PySem.NameKind renaming free->œ,cell->bY
open PySem.Obj renaming mapSeq->û,mapFields->Ĉ,isFreed_of_fields->dM,data_mapFields->Lr
open PySem.P renaming lt_int->wX
open PySem.Paired renaming length->qf,snoc->SJ
open PySem.PassesOwn renaming never->GN
open PySem.SeqAt renaming EqAt->rh,in_listAt->Oc
open PySem.SeqAt.EqAt renaming same->sS,bool_tuple->yA,none_tuple->yB,bool_list->z0,int_tuple->z7,none_list->z8,str_tuple->z9,int_list->Am,str_list->An,int_str->B3,of_refs->B4,str_int->B5
open PySem.SeqAt.RcAt renaming lists_lengths->wO,tuples->Cg,lists->DG
open PySem.SeqAt.RcNeAt renaming list_str->Zb,lists->Zc,lists_lengths->Zd,tuple_str->Ze,tuples->Zf
open PySem.Shared renaming TypeIs->lH,heap->SQ
open PySem.Str renaming ofString->æ,empty->gp,length_append->gZ
open PySem.Value renaming ref->Ò,none->õ,type->cq,isInt->c_,bool->fH,int->mL,str->u0,builtin->Ao,isStrOf->Ap,float->E9,isStrOf_shape->GO,bytes->VJ
open PySem.W renaming Frag->É,findIn->ą,mg_none_of->ď,nsIn->ĕ,keepIn->į,kia_one->ĵ,fnOf->ō,codeHdIn->ų,emptyDict->ae,instObj->bQ,kat_cons->cz,clsIn->de,codeIn->dN,tabObj->dO,kas_desc->fA,specialIn->gf,plainGet->gY,mg_of->hJ,kas_place->hR,kat_yes->i0,takesIn->i4,kas_descPart->i8,kat_no->jQ,hasDictIn->kW,kas_rev->lN,cellsFrom_some->mJ,isFn->mK,OpenLaw->m3,methodCall_KW->m5,kitOne->oC,kla_fn->oD,lookIn->oE,callWith_K0->pe,plainGet_of->pf,kas_sort->pk,mroIn->qd,callWith_K->qh,kitx_dict->rb,kitx_list->rd,methodObj->rf,plainOver->rg,kat_kind->tX,kat_one->uW,makesIn->uX,takerIn->uY,kat_lt->wY,typeIn->wZ,subIn->yz,codeHd_of_K->DF,kitx_tuple->E7,handedIn->GU,kat_nil->K7,kas_count->La,kas_tail3->Lb,kas_bin->Ly,kitOne->Lz,WalkO->Ob,KasT->WC
open PySem.W.KatTups renaming cons->SM,nil->SN
open PySem.W.Looks renaming of_pure->wN,here->WT,ld->WU
open PySem.W.WData renaming int->Zg
open PySem.W.WShape renaming has->VL
open PySem.Within renaming cons->Y'
open Rat renaming divInt->eQ
open StateT renaming run_pure->Lv
open Sum renaming inr->fg,inl->uZ
open Sum.inl renaming inj->Sm
open Sum.inr renaming inj->kX
open True renaming intro->bD
open _root_ renaming List->Á,if_pos->Ë,reduceIte->Í,Option->Ð,if_neg->Ñ,decide_eq_false->â,decide_eq_true->î,of_decide_eq_true->č,Array->ę,congrArg->Ĳ,decide_eq_true_eq->Ń,Decidable->ś,beq_eq_false_iff_ne->ŝ,decide_true->Ũ,or_false->ao,decide_false->aZ,propext->cF,if_false->fz,if_true->fI,eq_true->i6,beq_iff_eq->jR,DecidableEq->kh,eq_false->km,not_false_eq_true->n5,bne_self_eq_false->yD,beq_self_eq_true->Aq,decide_eq_false_iff_not->K_,of_decide_eq_false->SV
namespace L2
open PySem PySem.Spec PyProof.Rows
abbrev Key:=Sum Int Str
def xY:Key->Value->Bool
 |.inl k,v=>c_ k v
 |.inr x,v=>Ap x v
noncomputable def XA (w:Ī):Key->Int
 |.inl k=>hashInt k
 |.inr x=>hashStr w x
def bO:∀{k:Key}{v:Value},xY k v=true->(∃i t,k=uZ i/\v=mL i t)∨(∃x t,k=fg x/\v=u0 x t)
 |.inl i,v,h=>by
  obtain⟨t,e⟩:=Value.isInt_shape (k:=i) (v:=v) h;exact .inl ⟨i,t,rfl,e⟩
 |.inr x,v,h=>by
  obtain⟨t,e⟩:=GO (x:=x) (v:=v) h;exact .inr ⟨x,t,rfl,e⟩
def FP (i:Int)(t:Tok):xY (.inl i) (.int i t)=true:=by simp[xY,c_]
def FQ (x:Str)(t:Tok):xY (.inr x) (.str x t)=true:=by simp[xY,Ap]
def P5 (a b:Int):decide ((uZ a:Key)=uZ b)=(a == b):=by
 by_cases e:a=b
 ·subst e;simp
 ·have h:¬(uZ a:Key)=uZ b:=λq=>e (Sm q);rw[â h];exact(ŝ.mpr e).symm
def P8 (a b:Str):decide ((fg a:Key)=fg b)=decide (a=b):=by
 by_cases e:a=b
 ·subst e;simp
 ·have h:¬(fg a:Key)=fg b:=λq=>e (kX q);rw[â h,â e]
def P6 (a:Int)(b:Str):decide ((uZ a:Key)=fg b)=false:=â (λq=>nomatch q)
def P7 (a:Str)(b:Int):decide ((fg a:Key)=uZ b)=false:=â (λq=>nomatch q)
def ż (prog:Č)(w:Ī):PySem.KeyKind prog w Key where
 is:=xY
 hash:=XA w
 inj:=λv a b ha hb=>by
  rcases bO ha with⟨i,t,rfl,rfl⟩|⟨x,t,rfl,rfl⟩
  ·rcases bO hb with⟨j,u,rfl,e⟩|⟨y,u,rfl,e⟩
   ·injection e with e1 _;rw[e1]
   ·exact nomatch e
  ·rcases bO hb with⟨j,u,rfl,e⟩|⟨y,u,rfl,e⟩
   ·exact nomatch e
   ·injection e with e1 _;rw[e1]
 byValue:=λk v h=>by
  rcases bO h with⟨i,t,rfl,rfl⟩|⟨x,t,rfl,rfl⟩<;>rfl
 pyHash:=λhv h=>by
  rcases bO hv with⟨i,t,rfl,rfl⟩|⟨x,t,rfl,rfl⟩
  ·exact wpAny_pyHash_int h
  ·exact wpAny_pyHash_str h
 eqBool:=λhu hv h=>by
  rcases bO hu with⟨i,t,rfl,rfl⟩|⟨x,t,rfl,rfl⟩
  ·rcases bO hv with⟨j,u,rfl,rfl⟩|⟨y,u,rfl,rfl⟩
   ·rw[P5]at h;exact wpAny_eqBool_int h
   ·rw[P6]at h;exact B3 i t y u _ _ _ _ h
  ·rcases bO hv with⟨j,u,rfl,rfl⟩|⟨y,u,rfl,rfl⟩
   ·rw[P7]at h;exact B5 x t j u _ _ _ _ h
   ·rw[P8]at h;exact wpAny_eqBool_str h
 «strs»:=λk x t v h=>by
  rcases bO h with⟨i,u,rfl,e⟩|⟨y,u,rfl,e⟩
  ·exact nomatch e
  ·injection e with e1 _
   subst e1;cases v<;>rfl
def tw (prog:Č)(w:Ī)(i:Int)(t:Tok):(ż prog w).is (.inl i) (.int i t)=true:=FP i t
def tD (prog:Č)(w:Ī)(x:Str)(t:Tok):(ż prog w).is (.inr x) (.str x t)=true:=FQ x t
inductive V where
 |Ğ|bl (b:Bool)|int (i:Int)|str (x:Str)|Cu (b:ę UInt8)|Oi (b:UInt64)|ref (a:Addr)|ty (n:String)
 deriving kh
def RelV:V->Value->Prop
 |.Ğ,u=>u=õ
 |.bl b,u=>u=fH b
 |.int i,u=>∃t,u=mL i t
 |.str x,u=>∃t,u=u0 x t
 |.Cu b,u=>∃t,u=VJ b t
 |.Oi b,u=>∃t,u=E9 b t
 |.ref a,u=>u=Ò a
 |.ty n,u=>u=cq n
abbrev Vals:Á V->Á Value->Prop:=Paired RelV
theorem Vals.length (r:Vals xs us):xs.length=us.length:=qf r
theorem Vals.get:∀{xs:Á V}{us:Á Value}{i:Nat}{x:V},Vals xs us->xs[i]?=À x->∃u,us[i]?=À u/\RelV x u
 |_,_,_,_,.nil,e=>by simp at e
 |_,_,0,_,.cons r _,e=>by simp at e;subst e;exact⟨_,rfl,r⟩
 |_,_,i+1,x,.cons _ t,e=>by
  obtain⟨u,a,b⟩:=Vals.get (i:=i) (x:=x) t (by simpa using e);exact⟨u,by simpa using a,b⟩
theorem Vals.set (r:RelV x u):∀{xs:Á V}{us:Á Value}(i:Nat),Vals xs us->Vals (xs.set i x) (us.set i u)
 |_,_,_,.nil=>.nil
 |_,_,0,.cons _ t=>.cons r t
 |_,_,i+1,.cons q t=>.cons q (Vals.set r i t)
theorem Vals.append:∀{xs ys:Á V}{us ws:Á Value},Vals xs us->Vals ys ws->Vals (xs++ys) (us++ws)
 |_,_,_,_,.nil,s=>s
 |_,_,_,_,.cons r t,s=>.cons r (Vals.append t s)
theorem Vals.take:∀{xs:Á V}{us:Á Value}(n:Nat),Vals xs us->Vals (xs.take n) (us.take n)
 |_,_,0,_=>.nil
 |_,_,_+1,.nil=>.nil
 |_,_,n+1,.cons r t=>.cons r (Vals.take n t)
theorem Vals.drop:∀{xs:Á V}{us:Á Value}(n:Nat),Vals xs us->Vals (xs.drop n) (us.drop n)
 |_,_,0,r=>r
 |_,_,_+1,.nil=>.nil
 |_,_,n+1,.cons _ t=>Vals.drop n t
def mQ:Ð V->Ð Value->Prop
 |some v,À u=>RelV v u
 |none,none=>True
 |_,_=>False
def KV {κ:Type}:Á (κ×V)->Á (κ×Value)->Prop:=Paired λ(p:κ×V) (q:κ×Value)=>p.1=q.1/\RelV p.2 q.2
def kV:Key->V
 |.inl i=>.int i
 |.inr x=>.str x
inductive HO where
 |lst (xs:Á V)
 |tup (xs:Á V)
 |dK (kvs:Á (Key×V))|dT (kvs:Á (Á Key×V))
 |set (S:Int->Bool) (n:Nat)
 |ins (C dx:Addr) (fs:Á (Str×V))
 |own (x:Addr)
 |xd (fs:Á (Str×V))
 |met (f x:Addr)
 |Vc (lo hi:Int)
 |iS (o:Obj) (u:HO)
 |qX (ps:ę Value)
 |ext (φ:Heap->Prop)
abbrev Hp:=Addr->Ð HO
def upd (H:Hp)(a:Addr)(o:HO):Hp:=λb=>if b=a then À o else H b
def ă:upd H a o a=À o:=by unfold upd;rw[Ë rfl]
def ç (h:b≠a):upd H a o b=H b:=by unfold upd;rw[Ñ h]
def EU:upd (upd H a o) a u=upd H a u:=by
 funext b;unfold upd;split<;>rfl
def vJ {H:Hp}{a b:Addr}{o u:HO}(h:H a=À o)(h':H b=À u)(d:o≠u):a≠b:=by
 intro e;subst e;rw[h]at h';exact d (è h')
def Ŋ {H:Hp}{a b:Addr}{o:HO}(h:H a=À o)(h':H b=none):a≠b:=by
 intro e;subst e;rw[h]at h';cases h'
section
variable (P:Č)(w:Ī)
def Ş (H:Hp)(h:Heap)(a:Addr):HO->Prop
 |.lst xs=>xs.length<=sizeLine/\∃b n,Vals xs b/\h.get? a=À {cls:=.type "list",data:=.seq b.toArray n}
 |.tup xs=>xs.length<=sizeLine/\∃b:Á Value,Vals xs b/\KW h a b.toArray
 |.dK c=>c.length<=sizeLine/\(a == b8)=false/\∃l,KV c l/\h.DictOf (ż P w) a l
 |.dT c=>c.length<=sizeLine/\(a == b8)=false/\∃xs:Á (Á Key×Addr×Value),
   Paired (λ(p:Á Key×V) (q:Á Key×Addr×Value)=>p.1=q.1/\H q.2.1=À (.tup (p.1.map kV))/\RelV p.2 q.2.2) c xs/\
   ∃o i m,h.get? a=À o/\o.ExactDict/\o.data=.dict i m/\i.toList=xs.map (entryOfKey (mx (ż P w)))/\(xs.map (·.1)).Nodup
 |.set S n=>h.SetOf (i7 P w) a S n
 |.ins C e d=>H e=À (.own a)/\d.length<=1000/\e≠a/\h.get? a=À (bQ C e)/\
   ∃mA,h.Ns1 e mA/\(∀f,mQ (d.lookup f) (mA f))/\Cf mA (d.map (·.1))
 |.own _=>∃o,h.get? a=À o
 |.xd d=>∃mA,h.Ns1 a mA/\∀f,mQ (d.lookup f) (mA f)
 |.Vc lo r=>∃t u v,h.get? a=À {cls:=.type "range",data:=.fields #[.int lo t,.int r u,.int 1 v]}
 |.iS o u=>h.get? a=À o/\Ş H h a u
 |.qX s=>h.get? a=À {cls:=.none,data:=.fields s}
 |.met f x=>h.get? a=À (rf (.ref f) (.ref x))
 |.ext g=>g h/\(∃o,h.get? a=À o)/\∀j k:Heap,g j->(∀o,j.get? a=À o->k.get? a=À o)->g k
def mO (H:Hp)(h:Heap):Prop:=∀a o,H a=À o->Ş P w H h a o
end
section
variable {P:Č}{w:Ī}{H H':Hp}{h h':Heap}{a:Addr}{o:HO}
theorem Ş.lt (x:Ş P w H h a o):a<h.objs.size:=by
 cases o with
 |lst xs=>obtain⟨_,_,_,_,e⟩:=x;exact Ó e
 |tup xs=>obtain⟨_,_,_,p⟩:=x;exact p.lt
 |dK b=>obtain⟨_,_,_,_,o,_,_,e,_⟩:=x;exact Ó e
 |dT b=>obtain⟨_,_,_,_,o,_,_,e,_⟩:=x;exact Ó e
 |set S n=>obtain⟨o,_,_,_,e,_⟩:=x;exact Ó e
 |ins C d c=>obtain⟨_,_,_,e,_⟩:=x;exact Ó e
 |own y=>obtain⟨_,e⟩:=x;exact Ó e
 |xd c=>obtain⟨_,⟨_,_,_,e,_⟩,_⟩:=x;exact Ó e
 |Vc lo g=>obtain⟨_,_,_,e⟩:=x;exact Ó e
 |iS i u=>obtain⟨e,_⟩:=x;exact Ó e
 |qX j=>exact Ó (show h.get? a=À _ from x)
 |met f y=>exact Ó (show h.get? a=À _ from x)
 |ext k=>obtain⟨_,⟨_,e⟩,_⟩:=x;exact Ó e
theorem Paired.Qe:∀{c:Á α}{d:Á e},Paired F c d->(∀a b,F a b->G a b)->Paired G c d
 |_,_,.nil,_=>.nil
 |_,_,.cons r t,f=>.cons (f _ _ r) (Paired.Qe t f)
def Ş.oO (x:Ş P w H h a o)(k:∀b u,(b=a∨H b=À (.own a))->h.get? b=À u->h'.get? b=À u)
  (E:∀b,H b=À (.own a)->H' b=À (.own a)) (F:∀b xs,H b=À (.tup xs)->H' b=À (.tup xs)):Ş P w H' h' a o:=by
 induction o with
 |lst xs=>obtain⟨z,l,n,r,e⟩:=x;exact⟨z,l,n,r,k _ _ (.inl rfl) e⟩
 |tup xs=>obtain⟨z,l,r,g,e,c⟩:=x;exact⟨z,l,r,g,k _ _ (.inl rfl) e,c⟩
 |dK m=>obtain⟨z,y,J,r,g,j,i,e,c⟩:=x;exact⟨z,y,J,r,g,j,i,k _ _ (.inl rfl) e,c⟩
 |dT m=>
  obtain⟨z,y,xs,r,g,j,i,e,c⟩:=x;exact⟨z,y,xs,Paired.Qe r λp q z=>⟨z.1,F _ _ z.2.1,z.2.2⟩,g,j,i,k _ _ (.inl rfl) e,c⟩
 |set S n=>obtain⟨g,j,i,t,e,c⟩:=x;exact⟨g,j,i,t,k _ _ (.inl rfl) e,c⟩
 |ins C L D=>
  obtain⟨d,z,I,e,mA,⟨s,j,i,B,c⟩,r⟩:=x;exact⟨E _ d,z,I,k _ _ (.inl rfl) e,mA,⟨s,j,i,k _ _ (.inr d) B,c⟩,r⟩
 |own y=>obtain⟨g,e⟩:=x;exact⟨g,k _ _ (.inl rfl) e⟩
 |xd D=>obtain⟨mA,⟨s,j,i,e,c⟩,r⟩:=x;exact⟨mA,⟨s,j,i,k _ _ (.inl rfl) e,c⟩,r⟩
 |Vc lo M=>obtain⟨t,u,v,e⟩:=x;exact⟨t,u,v,k _ _ (.inl rfl) e⟩
 |iS g u G=>obtain⟨e,q⟩:=x;exact⟨k _ _ (.inl rfl) e,G q⟩
 |qX A=>
  have e:h.get? a=À {cls:=.none,data:=.fields A}:=x;show h'.get? a=À {cls:=.none,data:=.fields A};exact k a _ (.inl rfl) e
 |met f y=>
  have e:h.get? a=À (rf (.ref f) (.ref y)):=x;show h'.get? a=À (rf (.ref f) (.ref y));exact k a _ (.inl rfl) e
 |ext N=>obtain⟨p,⟨o,e⟩,st⟩:=x;exact⟨st _ _ p λo q=>k _ _ (.inl rfl) q,⟨o,k _ _ (.inl rfl) e⟩,st⟩
theorem mO.lt (x:mO P w H h)(e:H a=À o):a<h.objs.size:=(x a o e).lt
def mO.fresh (x:mO P w H h)(e:h.objs.size<=a):H a=none:=by
 cases q:H a with
 |none=>rfl
 |some u=>exact absurd (ì (x.lt q) e) (ŋ _)
def mO.kept (x:mO P w H h)(k:∀b u,h.get? b=À u->h'.get? b=À u):mO P w H h':=λa o e=>
 (x a o e).oO (λb u _ q=>k b u q) (λ_ q=>q) λ_ _ q=>q
def mO.laid (x:mO P w H h)(k:∀b u,h.get? b=À u->h'.get? b=À u)(i:h.objs.size<=a)(d:Ş P w (upd H a o) h' a o):mO P w (upd H a o) h':=λb u e=>by
 have g:=x.fresh i;by_cases f:b=a
 ·subst f;rw[ă]at e;cases e;exact d
 ·rw[ç f]at e;exact(x b u e).oO (λc v _ q=>k c v q) (λc q=>by rw[ç (Ŋ q g)];exact q) λc xs q=>by rw[ç (Ŋ q g)];exact q
end
def Rd (H:Hp)(a:Addr)(u:HO):Prop:=H a=À u∨∃o,H a=À (.iS o u)
def Rd.ok (r:Rd H a u)(x:mO P w H h):Ş P w H h a u:=by
 rcases r with r|⟨o,r⟩
 ·exact x a u r
 ·obtain⟨_,q⟩:=x a _ r;exact q
def Sw:Ð HO->Prop
 |some (.lst _)=>True
 |some (.dK _)=>True
 |some (.dT _)=>True
 |some (.set _ _)=>True
 |some (.ins _ _ _)=>True
 |some (.ext _)=>True
 |_=>False
section
variable {P:Č}{w:Ī}{H:Hp}{h h':Heap}{x e:Addr}{o':HO}
def mO.write (p:mO P w H h)(i:Sw (H x)) (m:e=x∨H e=À (.own x)) (k:∀b u,b≠e->h.get? b=À u->h'.get? b=À u)(j:∃u,h'.get? e=À u)
  (l:Ş P w (upd H x o') h' x o'):mO P w (upd H x o') h':=λb u q=>by
 have d:∀c y,H c=À (.own y)->c≠x:=λc y r z=>by subst z;rw[r]at i;exact i
 have f:∀c xs,H c=À (.tup xs)->c≠x:=λc xs r z=>by subst z;rw[r]at i;exact i
 by_cases g:b=x
 ·subst g;rw[ă]at q;cases q;exact l
 ·rw[ç g]at q;by_cases a:b=e
  ·have n:H b=À (.own x):=by
    rcases m with z|z
    ·exact absurd (a.trans z) g
    ·rw[a];exact z
   rw[q]at n;cases n;obtain⟨v,o⟩:=j;exact⟨v,by rw[a];exact o⟩
  ·refine(p b u q).oO (λc v hc r=>k c v ?_ r) (λc r=>by rw[ç (d c b r)];exact r) λc xs r=>by rw[ç (f c xs r)];exact r
   rcases hc with rfl|hc
   ·exact a
   ·rintro rfl;rcases m with z|z
    ·exact d c b hc z
    ·rw[hc]at z;cases z;exact g rfl
end
structure Un (fs ex:Á Addr)(H H':Hp)(h h':Heap):Prop where
 keep:∀b o,h.get? b=À o->H b=none->b∉fs->b∉ex->h'.get? b=À o
 slot:∀b o,h.get? b=À o->H b=none->b∈fs->b∉ex->∃sl,h'.get? b=À {o with slots:=sl}
 free:∀b o,h.get? b=À o->H b=none->b∉ex->H' b=none
 there:∀b o,h.get? b=À o->b∉ex->∃o',h'.get? b=À o'
 lE:∀b xs,H b=À (.tup xs)->H' b=À (.tup xs)
 jx:∀b o u,H b=À (.iS o u)->H' b=À (.iS o u)
 wt:∀b ps,H b=À (.qX ps)->∃more,H' b=À (.qX (ps++more))
section
variable {fs fs' ex ex':Á Addr}{H H1 H2:Hp}{h h1 h2 h':Heap}{a x e:Addr}{o:HO}
def Un.any (u:Un fs ex H H1 h h1)(q:h.get? b=À c)(n:H b=none)(f:b∉ex):∃g,h1.get? b=À {c with slots:=g}:=by
 by_cases d:b∈fs
 ·exact u.slot b c q n d f
 ·exact⟨c.slots,u.keep b c q n d f⟩
def Un.kept (k:∀b u,h.get? b=À u->h'.get? b=À u):Un fs ex H H h h':=
 ⟨λb c q _ _ _=>k b c q,λb c q _ _ _=>⟨c.slots,k b c q⟩,λ_ _ _ n _=>n,λb c q _=>⟨c,k b c q⟩,λ_ _ q=>q,λ_ _ _ q=>q,λ_ d q=>⟨#[],by rw[q];simp⟩⟩
def Un.refl:Un fs ex H H h h:=Un.kept λ_ _ q=>q
def Un.laid (k:∀b u,h.get? b=À u->h'.get? b=À u)(hp:h.objs.size<=a)(hn:H a=none):Un fs ex H (upd H a o) h h' where
 keep:=λb u q _ _ _=>k b u q
 slot:=λb u q _ _ _=>⟨u.slots,k b u q⟩
 free:=λb u q n _=>by rw[ç (ò (ì (Ó q) hp))];exact n
 there:=λb u q _=>⟨u,k b u q⟩
 lE:=λb xs q=>by rw[ç (Ŋ q hn)];exact q
 jx:=λb u xs q=>by rw[ç (Ŋ q hn)];exact q
 wt:=λb ps q=>⟨#[],by rw[ç (Ŋ q hn),q];simp⟩
def Un.write (d:Sw (H x)) (l:e=x∨H e=À (.own x)) (k:∀b u,b≠e->h.get? b=À u->h'.get? b=À u)(f:∃u,h'.get? e=À u):Un fs ex H (upd H x o) h h':=by
 have j:∀b,H b=none->b≠x:=λb n z=>by subst z;rw[n]at d;exact d
 have i:∀b,H b=none->b≠e:=λb n z=>by
  subst z;rcases l with r|r
  ·exact j b n r
  ·rw[n]at r;cases r
 have g:∀b u,H b=À u->¬Sw (À u)->b≠x:=λb u q m z=>by subst z;rw[q]at d;exact m d
 refine⟨λb u q n _ _=>k b u (i b n) q,λb u q n _ _=>⟨u.slots,k b u (i b n) q⟩,λb u q n _=>by rw[ç (j b n)];exact n,λb u q _=>?_,
  λb xs q=>by rw[ç (g b _ q λz=>z)];exact q,λb u xs q=>by rw[ç (g b _ q λz=>z)];exact q,λb p q=>⟨#[],by rw[ç (g b _ q λz=>z),q];simp⟩⟩
 by_cases c:b=e
 ·subst c;exact f
 ·exact⟨u,k b u c q⟩
end
def Ll (h:Heap)(H:Hp):Á Addr:=(ø h.objs.size).filter λa=>(H a).isSome
def zi (h:Heap)(H:Hp):Heap:=PySem.W.hideAll h (Ll h H)
def FJ (h:Heap)(H:Hp):(zi h H).objs.size=h.objs.size:=PySem.W.hideAll_size _ _
def Ia (e:h.get? b=À o)(n:H b=none):(zi h H).get? b=À o:=
 PySem.W.hideAll_get _ e λa=>by
  have q:(H b).isSome=true:=(jP.mp a).2;rw[n]at q;simp at q
def MY (e:(zi h H).get? b=À o):h.get? b=À o/\H b=none:=by
 have a:h.get? b=À o:=PySem.W.of_hideAll (Ll h H) e;refine⟨a,?_⟩;cases q:H b with
 |none=>rfl
 |some x=>
  have c:b∈Ll h H:=jP.mpr ⟨kS.mpr (Ó a),by simp[q]⟩;have z:(zi h H).get? b=none:=PySem.W.hideAll_none (Ll h H) c;rw[z]at e;cases e
noncomputable def uC (g h:Heap)(L:Addr):Á (Addr×Obj):=(ø h.objs.size).filterMap λa=>if a=L∨(g.get? a).isSome=true then none else (h.get? a).map λo=>(a,o)
def Bm (c:a≠L)(d:g.get? a=none)(b:h.get? a=À o):(a,o)∈uC g h L:=
 kR.mpr ⟨a,kS.mpr (Ó b),by simp[c,d,b]⟩
def vM (c:p∈uC g h L):p.1≠L/\g.get? p.1=none/\h.get? p.1=À p.2:=by
 obtain⟨b,_,e⟩:=kR.mp c;split at e
 ·cases e
 ·rename_i a;cases q:h.get? b with
  |none=>rw[q]at e;simp at e
  |some u=>
   rw[q]at e;simp only[dc,Z9]at e;subst e;refine⟨λz=>a (.inl z),?_,q⟩;show g.get? b=none;cases r:g.get? b with
   |none=>rfl
   |some v=>exact(a (.inr (by simp[r]))).elim
def Jj:News g L h (uC g h L):=λp d=>let ⟨a,b,c⟩:=vM d;⟨c,a,b⟩
structure Mod (K:É)(mg:Str->Ð Value)(base:Heap):Prop where
 T9:K.In base
 glob:base.Ns mainGlobals mg
 blt:∃mb,base.Ns mM mb/\∀x:Str,x≠"__name__"->mb x=İ x
 nolimit:base.NoLimit
 Jp:base.NoDigits
 bmain:∃bm ob,mg "__builtins__"=À (.ref bm)/\bm≠mM/\base.get? bm=À ob/\ob.cls=.type "module"/\ob.dict=À mM/\ob.data=.plain
structure Cx where
 prog:Č
 w:Ī
 K:É
 mg:Str->Ð Value
 base:Heap
 A:Œ
 N:Á Str
 jV:Ú
 xa:Hp
 env:KS
 outer:Á KS
 stack:Á KS
 ex:Á Addr
 fn:Str->Bool
 calm:Bool
 pn:Á (Addr×Obj)
 xe:Value->Ú->Prop
def z_ (l:Á KS):Á Addr:=l.filterMap (·.frame)
abbrev Cx.fs (X:Cx):Á Addr:=z_ X.outer
def V7 (a:Scope)(x:Str):Prop:=a.names.lookup x=À .local∨a.names.lookup x=À .cell∨a.names.lookup x=À .free
def Loc (a:Scope)(x:Str):Prop:=a.names.lookup x=À .local∨a.names.lookup x=À .cell
def Look (env:KS)(h:Heap)(m:Str->Ð Value)(x:Str)(u:Value):Prop:=
 (env.kindOf x=À .local/\m x=À u)∨((env.kindOf x=À .cell∨env.kindOf x=À .free)/\∃c,env.cells.lookup x=À c/\h.IsCell c (À u))
structure Cx.Ok (X:Cx):Prop where
 mod:Mod X.K X.mg X.base
 kind:X.env.scope.kind=.function
 glob:X.env.globals=mainGlobals
 blt:X.env.builtins=mM
 above:X.jV.heap.objs.size<=X.env.locals
 inj:∀x y c,X.env.cells.lookup x=À c->X.env.cells.lookup y=À c->x=y
 has:∀x,(X.env.kindOf x=À .cell∨X.env.kindOf x=À .free)->∃c,X.env.cells.lookup x=À c
 Og:∀x c,X.fn x=true->X.env.cells.lookup x=À c->X.jV.heap.objs.size<=c
 hd:X.calm=true->X.A.handled=none
 frames:X.A.frames=À X.stack
 RY:X.stack=X.outer∨(X.stack=X.env::X.outer/\X.env.frame=À X.env.locals)
 Tq:∀b∈X.ex,b≠X.env.locals/\∀x c,X.env.cells.lookup x=À c->c≠b
 bs:∀b o,X.base.get? b=À o->X.jV.heap.get? b=À o/\X.xa b=none
 Fo:X.base.objs.size<=X.jV.heap.objs.size
 Bp:∀b o,X.base.get? b=À o->b∉X.ex
 AZ:∀b∈X.ex,b∉X.fs
 pA:X.jV.heap.FunFrames X.base X.outer
 Lj:∀b∈X.fs,X.xa b=none
structure Inv (X:Cx)(þ:Á (Addr×Obj)) (σ:Á (Ð V)) (H:Hp)(s:Ú):Prop where
 ok:X.Ok
 os:s.os=X.jV.os
 bare:n3 s.gens
 base:Un X.fs X.ex X.xa H X.jV.heap s.heap
 loc:∃m,s.heap.Ns X.env.locals m/\∀(i:Nat) (x:Str) (v:V),X.N[i]?=À x->σ[i]?=À (À v)->V7 X.env.scope x->∃u,RelV v u/\Look X.env s.heap m x u
 cell:∀x c,X.env.cells.lookup x=À c->∃v,s.heap.IsCell c v
 free:H X.env.locals=none
 jw:∀x c,X.env.cells.lookup x=À c->H c=none
 pin:∀p∈X.pn++þ,s.heap.get? p.1=À p.2/\H p.1=none/\p.1≠X.env.locals/\p.1∉X.fs/\∀v,p.2.data≠.cell v
 ť:mO X.prog X.w H s.heap
 len:σ.length=X.N.length
section
variable {X:Cx}{þ:Á (Addr×Obj)}{σ:Á (Ð V)}{H H':Hp}{s:Ú}{h':Heap}
def Cx.Ok.XJ (c:X.Ok)(e:X.base.get? b=À o):b∉X.fs:=λa=>by
 have:=(c.pA.mem a).1;rw[e]at this;cases this
theorem Inv.bs (I:Inv X þ σ H s):∀b o,X.base.get? b=À o->s.heap.get? b=À o/\H b=none:=λb o e=>
 ⟨I.base.keep b o (I.ok.bs b o e).1 (I.ok.bs b o e).2 (I.ok.XJ e) (I.ok.Bp b o e),I.base.free b o (I.ok.bs b o e).1 (I.ok.bs b o e).2 (I.ok.Bp b o e)⟩
def Inv.bk (I:Inv X þ σ H s):∀b o,X.base.get? b=À o->s.heap.get? b=À o:=λb o e=>(I.bs b o e).1
theorem Inv.mod (I:Inv X þ σ H s):Mod X.K X.mg X.base:=I.ok.mod
def Inv.md (I:Inv X þ σ H s):X.K.In s.heap:=I.ok.mod.T9.keeps I.bk
theorem Inv.nolimit (I:Inv X þ σ H s):s.heap.NoLimit:=I.ok.mod.nolimit.keeps I.bk
def Inv.fr (I:Inv X þ σ H s):∃m,Fr X.base X.env.locals s.heap m:=
 let ⟨m,a,_⟩:=I.loc
 ⟨m,a,I.bk,đ I.ok.Fo I.ok.above⟩
theorem Inv.lt (I:Inv X þ σ H s):X.env.locals<s.heap.objs.size:=let ⟨_,a,_⟩:=I.loc;a.lt
def Inv.sz (I:Inv X þ σ H s):X.jV.heap.objs.size<=s.heap.objs.size:=đ I.ok.above (Ġ I.lt)
def Inv.XM (I:Inv X þ σ H s)(h:s.heap.objs.size<=a):a∉X.fs:=λb=>by
 obtain⟨_,o,c,_⟩:=I.ok.pA.mem b;exact absurd (ì (Ó c) (đ I.sz h)) (ŋ _)
def Inv.V_ (I:Inv X þ σ H s):∀x c,X.env.cells.lookup x=À c->c≠X.env.locals:=λx c e z=>by
 obtain⟨v,o,d,hd⟩:=I.cell x c e;obtain⟨m,⟨h,g,f,b,a,_⟩,_⟩:=I.loc;rw[z,b]at d;cases d;rw[a]at hd;cases hd
theorem Inv.pA (I:Inv X þ σ H s):s.heap.FunFrames X.base X.outer:=by
 have all:∀(l:Á KS),(∀b∈z_ l,b∈X.fs)->X.jV.heap.FunFrames X.base l->s.heap.FunFrames X.base l:=by
  intro l;induction l with
  |nil=>intro _ _;trivial
  |cons g r k=>
   intro f hl;obtain⟨h,⟨L,o,d,i,j,hd⟩,hr⟩:=hl;have a:L∈X.fs:=f L (by unfold z_;rw[qT,d];exact Ŀ);obtain⟨m,e⟩:=I.base.slot L o j (I.ok.Lj L a) a λz=>I.ok.AZ L z a;exact⟨h,⟨L,_,d,i,e,hd⟩,k (λb c=>f b (by unfold z_;rw[qT,d];exact Ċ _ c)) hr⟩
 exact all X.outer (λ_ c=>c) I.ok.pA
theorem Inv.stack (I:Inv X þ σ H s):s.heap.FunFrames X.base X.stack:=by
 rcases I.ok.RY with e|⟨e,a⟩
 ·rw[e];exact I.pA
 ·rw[e];obtain⟨m,b,_⟩:=I.loc;refine .cons (by rw[I.ok.kind];decide) a b ?_ I.pA;exact Heap.get?_none_of_le (đ I.ok.Fo I.ok.above)
def Inv.Dp (I:Inv X þ σ H s):∀b∈z_ X.stack,b∈X.env.locals::X.fs:=λb a=>by
 rcases I.ok.RY with e|⟨e,c⟩
 ·rw[e]at a;exact Ċ _ a
 ·rw[e]at a;unfold z_ at a;rw[qT,c]at a;exact a
def Inv.uM (I:Inv X þ σ H s):∀b∈z_ X.stack,H b=none:=λb hb=>by
 rcases ß.mp (I.Dp b hb)with e|hb
 ·rw[e];exact I.free
 ·obtain⟨_,o,a,_⟩:=I.ok.pA.mem hb;exact I.base.free b o a (I.ok.Lj b hb) λz=>I.ok.AZ b z hb
def Inv.step {g':ę GenState}{t':Nat}{d':Drawn}{ch:Á Addr}(I:Inv X þ σ H s)
  (h:∀b∈ch,(b∈X.ex∨X.jV.heap.objs.size<=b)/\b≠X.env.locals/\(∀x c,X.env.cells.lookup x=À c->c≠b)/\∀p∈X.pn++þ,p.1≠b)
  (j:∀b o,b≠X.env.locals->b∉X.fs->b∉ch->s.heap.get? b=À o->H b=none->h'.get? b=À o)
  (B:∀b o,b≠X.env.locals->b∈X.fs->b∉ch->s.heap.get? b=À o->H b=none->∃O,h'.get? b=À {o with slots:=O}) (f:∀b o,b∉ch->s.heap.get? b=À o->H b=none->H' b=none)
  (D:∀b o,b∉ch->s.heap.get? b=À o->∃o',h'.get? b=À o')
  (M:∀b xs,H b=À (.tup xs)->H' b=À (.tup xs)) (G:∀b o u,H b=À (.iS o u)->H' b=À (.iS o u)) (L:∀b ps,H b=À (.qX ps)->∃more,H' b=À (.qX (ps++more)))
  (ns:∀m,s.heap.Ns X.env.locals m->h'.Ns X.env.locals m) (N:mO X.prog X.w H' h') (hg:n3 g') :
  Inv X þ σ H' {s with heap:=h',gens:=g',drawn:=d',toks:=t'}:=by
 have J:∀b o,X.jV.heap.get? b=À o->b≠X.env.locals:=λb o e=>ò (ì (Ó e) I.ok.above);have A:∀b o,X.jV.heap.get? b=À o->b∉X.ex->b∉ch:=λb o e a C=>by
  rcases(h b C).1 with z|z
  ·exact a z
  ·exact absurd (ì (Ó e) z) (ŋ _)
 have g:∀x c,X.env.cells.lookup x=À c->∀v,s.heap.IsCell c v->h'.IsCell c v:=λx c e v ⟨o,E,hd⟩=>by
  have t:c∉ch:=λz=>(h c z).2.2.1 x c e rfl;by_cases Q:c∈X.fs
  ·obtain⟨O,q⟩:=B c o (I.V_ x c e) Q t E (I.jw x c e);exact⟨_,q,hd⟩
  ·exact⟨o,j c o (I.V_ x c e) Q t E (I.jw x c e),hd⟩
 refine⟨I.ok,I.os,hg,⟨λb o e n C a=>?_,λb o e n C a=>?_,λb o e n a=>?_,λb o e a=>?_,λb xs e=>M b xs (I.base.lE b xs e),λb o xs e=>G b o xs (I.base.jx b o xs e),λb ps e=>?_⟩,?_,λx c e=>?_,?_,λx c e=>?_,λp T=>?_,N,I.len⟩
 ·exact j b o (J b o e) C (A b o e a) (I.base.keep b o e n C a) (I.base.free b o e n a)
 ·obtain⟨O,y⟩:=I.base.slot b o e n C a;obtain⟨P,F⟩:=B b _ (J b o e) C (A b o e a) y (I.base.free b o e n a);exact⟨P,F⟩
 ·obtain⟨o',y⟩:=I.base.there b o e a;exact f b o' (A b o e a) y (I.base.free b o e n a)
 ·obtain⟨o',y⟩:=I.base.there b o e a;exact D b o' (A b o e a) y
 ·obtain⟨m1,y⟩:=I.base.wt b ps e;obtain⟨m2,F⟩:=L b _ y;exact⟨m1++m2,by rw[F,Array.append_assoc]⟩
 ·obtain⟨m,hn,hl⟩:=I.loc;refine⟨m,ns m hn,λi x v y F Z=>?_⟩;obtain⟨u,r,l⟩:=hl i x v y F Z;refine⟨u,r,?_⟩;rcases l with l|⟨k,c,e,z⟩
  ·exact .inl l
  ·exact .inr ⟨k,c,e,g x c e _ z⟩
 ·obtain⟨v,z⟩:=I.cell x c e;exact⟨v,g x c e v z⟩
 ·obtain⟨m,⟨o,_,_,E,_⟩,_⟩:=I.loc;exact f _ o (λz=>(h _ z).2.1 rfl) E I.free
 ·obtain⟨v,o,E,hd⟩:=I.cell x c e;exact f c o (λz=>(h c z).2.2.1 x c e rfl) E (I.jw x c e)
 ·obtain⟨e,n,U,Y,d⟩:=I.pin p T;have t:p.1∉ch:=λz=>(h p.1 z).2.2.2 p T rfl;exact⟨j p.1 p.2 U Y t e n,f p.1 p.2 t e n,U,Y,d⟩
def Inv.un {t':Nat}(I:Inv X þ σ H s)(u:Un X.fs [] H H' s.heap h')(g:mO X.prog X.w H' h'):Inv X þ σ H' {s with heap:=h',toks:=t'}:=by
 obtain⟨m,⟨o,p,l,h,r⟩,_⟩:=id I.loc;obtain⟨v,i⟩:=u.any h I.free (by simp);exact I.step (g':=s.gens) (d':=s.drawn) (ch:=[]) (λ_ z=>nomatch z) (λb o _ f _ e n=>u.keep b o e n f (by simp)) (λb o _ f _ e n=>u.slot b o e n f (by simp)) (λb o _ e n=>u.free b o e n (by simp)) (λb o _ e=>u.there b o e (by simp)) u.lE u.jx u.wt (λq j=>by
  obtain⟨t,d,c,a,k⟩:=j;rw[h]at a;cases a;exact⟨_,d,c,i,k⟩) g I.bare
def Inv.call {g':ę GenState}{t':Nat}{d':Drawn}{ch:Á Addr}(I:Inv X þ σ H s)(u:Un (z_ X.stack) ch H H' s.heap h') (j:mO X.prog X.w H' h')(q:n3 g')
  (d:∀b∈ch,(b∈X.ex∨X.jV.heap.objs.size<=b)/\b≠X.env.locals/\(∀x c,X.env.cells.lookup x=À c->c≠b)/\∀p∈X.pn++þ,p.1≠b) :
  Inv X þ σ H' {s with heap:=h',gens:=g',drawn:=d',toks:=t'}:=by
 obtain⟨m,⟨o,A,y,k,r⟩,_⟩:=id I.loc;obtain⟨D,i⟩:=u.any k I.free λz=>(d _ z).2.1 rfl;exact I.step (ch:=ch) d (λb o i l a e n=>u.keep b o e n (λz=>(ß.mp (I.Dp b z)).elim i l) a) (λb o _ _ a e n=>u.any e n a) (λb o a e n=>u.free b o e n a) (λb o a e=>u.there b o e a) u.lE u.jx u.wt (λB t=>by
  obtain⟨C,h,g,f,v⟩:=t;rw[k]at f;cases f;exact⟨_,h,g,i,v⟩) j q
def Inv.turned {t':Nat}{a:Addr}(I:Inv X þ σ H s)(k:∀b o,b≠a->s.heap.get? b=À o->h'.get? b=À o)(A:H a=none)(g:a≠X.env.locals)
  (j:a∈X.ex∨X.jV.heap.objs.size<=a) (l:∀x c,X.env.cells.lookup x=À c->c≠a) (t:∀p∈X.pn++þ,p.1≠a):Inv X þ σ H {s with heap:=h',toks:=t'}:=by
 have f:∀b u,H b=À u->b≠a:=λb u e z=>by rw[z,A]at e;cases e
 refine I.step (g':=s.gens) (d':=s.drawn) (ch:=[a]) (λb w=>?_) (λb o _ _ d e _=>k b o (λz=>d (by simp[z])) e) (λb o _ _ d e _=>⟨o.slots,k b o (λz=>d (by simp[z])) e⟩) (λ_ _ _ _ n=>n)
  (λb o d e=>⟨o,k b o (λz=>d (by simp[z])) e⟩) (λ_ _ e=>e) (λ_ _ _ e=>e) (λb C e=>⟨#[],by rw[e];simp⟩) (λm y=>?_) (λb u e=>?_) I.bare
 ·have e:b=a:=by simpa using w
  subst e;exact⟨j,g,l,t⟩
 ·obtain⟨o,i,h,B,r⟩:=y;exact⟨o,i,h,k _ o (Ō g) B,r⟩
 ·refine(I.ť b u e).oO (λc v d q=>k c v ?_ q) (λ_ q=>q) λ_ _ q=>q;rcases d with z|z
  ·rw[z];exact f b u e
  ·exact f c _ z
def Inv.tok (I:Inv X þ σ H s)(t:Nat):Inv X þ σ H {s with toks:=t}:=I.un (h':=s.heap) (t':=t) Un.refl I.ť
theorem Inv.kept (I:Inv X þ σ H s)(k:∀b u,s.heap.get? b=À u->h'.get? b=À u):Inv X þ σ H {s with heap:=h',toks:=t'}:=I.un (Un.kept k) (I.ť.kept k)
theorem Inv.laid (I:Inv X þ σ H s)(k:∀b u,s.heap.get? b=À u->h'.get? b=À u)(c:s.heap.objs.size<=a)(d:Ş X.prog X.w (upd H a o) h' a o) :
  Inv X þ σ (upd H a o) {s with heap:=h',toks:=t'}:=I.un (Un.laid k c (I.ť.fresh c)) (I.ť.laid k c d)
theorem Inv.write (I:Inv X þ σ H s)(f:Sw (H x)) (d:e=x∨H e=À (.own x)) (k:∀b u,b≠e->s.heap.get? b=À u->h'.get? b=À u)(a:∃u,h'.get? e=À u)
  (c:Ş X.prog X.w (upd H x o) h' x o):Inv X þ σ (upd H x o) {s with heap:=h',toks:=t'}:=I.un (Un.write f d k a) (I.ť.write f d k a c)
def Inv.EE (I:Inv X þ σ H s)(h:∀p∈a,s.heap.get? p.1=À p.2/\H p.1=none/\p.1≠X.env.locals/\p.1∉X.fs/\∀v,p.2.data≠.cell v):Inv X a σ H s:=
 ⟨I.ok,I.os,I.bare,I.base,I.loc,I.cell,I.free,I.jw,λp b=>(Ŕ.mp b).elim (λz=>I.pin p (cf _ z)) (h p),I.ť,I.len⟩
def vK {N:Á Str}(e:N.Nodup){i j:Nat}{x:Str}(a:N[i]?=À x)(b:N[j]?=À x):i=j:=by
 obtain⟨f,c⟩:=Ç.mp a;obtain⟨g,d⟩:=Ç.mp b;exact(bw e).mp (c.trans d.symm)
def yp {M:Model}{A:Œ}{E:Value->Ú->Prop}{i:Nat}{x:Str}{v:V}{u:Value}{Q:Unit->Ú->Prop}(I:Inv X þ σ H s)(hN:X.N.Nodup)(U:X.N[i]?=À x)(t:Loc X.env.scope x)(r:RelV v u)
  (h:∀s',Inv X þ (σ.set i (À v)) H s'->(∃a,eX a s.heap s'.heap/\(a=X.env.locals∨X.env.cells.lookup x=À a))->Q () s') (hf:X.fn x=true∨X.env.scope.names.lookup x=À .local:=by first|exact .inl rfl|exact .inr rfl|assumption):Ü M A (WY X.env x u) Q E s:=by
 obtain⟨m,hn,hl⟩:=id I.loc;have T:(X.env.scope.kind == .class||(X.env.scope.kind == .module&&X.env.locals != X.env.globals))=false:=by rw[I.ok.kind];rfl
 have D:i<σ.length:=by rw[I.len];exact(Ç.mp U).1
 have F:=I.V_;have l:∀{a:Addr}{h':Heap},(∃o,s.heap.get? a=À o/\H a=none)->eX a s.heap h'->mO X.prog X.w H h':=λ{a h'} ha f b ob e=>by
  obtain⟨_,_,B⟩:=ha;refine(I.ť b ob e).oO (λc w' hc q=>(f.2 c ?_).trans q) (λ_ q=>q) λ_ _ q=>q;rintro rfl;rcases hc with rfl|hc
  ·rw[B]at e;cases e
  ·rw[B]at hc;cases hc
 rcases t with hk|hk
 ·refine wpAny_storeName_local hk hn (λh' hn' f=>?_) T;obtain⟨oL,_,_,hoL,_⟩:=id hn;refine h _ ⟨I.ok,I.os,I.bare,⟨λb o e n G t=>?_,λb o e n G t=>?_,I.base.free,λb o e t=>?_,I.base.lE,I.base.jx,I.base.wt⟩,⟨_,hn',λj y v' g C e3=>?_⟩,λy c e=>?_,I.free,I.jw,λp hp=>?_,l ⟨oL,hoL,I.free⟩ f,by simpa using I.len⟩ ⟨_,f,.inl rfl⟩
  ·exact(f.2 b (ò (ì (Ó e) I.ok.above))).trans (I.base.keep b o e n G t)
  ·obtain⟨sl,g⟩:=I.base.slot b o e n G t;exact⟨sl,(f.2 b (ò (ì (Ó e) I.ok.above))).trans g⟩
  ·obtain⟨o',g⟩:=I.base.there b o e t;exact⟨o',(f.2 b (ò (ì (Ó e) I.ok.above))).trans g⟩
  ·by_cases L:j=i
   ·subst L;rw[U]at g;cases g;rw[Đ D]at C;cases C;exact⟨u,r,.inl ⟨hk,by simp⟩⟩
   ·rw[ù (Ō L)]at C;obtain⟨u',r',q⟩:=hl j y v' g C e3;refine⟨u',r',?_⟩;rcases q with⟨k,e⟩|⟨k,c,e,z⟩
    ·refine .inl ⟨k,?_⟩;have:y≠x:=λe=>L (vK hN g (e▸U));simp[this,e]
    ·exact .inr ⟨k,c,e,z.sameBut f (F y c e)⟩
  ·obtain⟨w',z⟩:=I.cell y c e;exact⟨w',z.sameBut f (F y c e)⟩
  ·obtain⟨e,n,ne,nf,d⟩:=I.pin p hp;exact⟨(f.2 p.1 ne).trans e,n,ne,nf,d⟩
 ·have J:X.fn x=true:=by
   rcases hf with z|z
   ·exact z
   ·rw[z]at hk;cases hk
  obtain⟨c,hc⟩:=I.ok.has x (.inl hk);obtain⟨w',z⟩:=I.cell x c hc;refine wpAny_storeName_cell I.ok.kind hk hc z (λh' O f=>?_);obtain⟨oc,Y,Z⟩:=id z;refine h {s with heap:=h'} ⟨I.ok,I.os,I.bare,⟨λb o e n G t=>?_,λb o e n G t=>?_,I.base.free,λb o e t=>?_,I.base.lE,I.base.jx,I.base.wt⟩,⟨m,hn.sameBut f (Ō (F x c hc)),λj y v' g C e3=>?_⟩,λy c' e=>?_,I.free,I.jw,λp hp=>?_,l ⟨oc,Y,I.jw x c hc⟩ f,by simpa using I.len⟩ ⟨c,f,.inr hc⟩
  ·exact(f.2 b (ò (ì (Ó e) (I.ok.Og x c J hc)))).trans (I.base.keep b o e n G t)
  ·obtain⟨sl,g⟩:=I.base.slot b o e n G t;exact⟨sl,(f.2 b (ò (ì (Ó e) (I.ok.Og x c J hc)))).trans g⟩
  ·obtain⟨o',g⟩:=I.base.there b o e t;exact⟨o',(f.2 b (ò (ì (Ó e) (I.ok.Og x c J hc)))).trans g⟩
  ·by_cases L:j=i
   ·subst L;rw[U]at g;cases g;rw[Đ D]at C;cases C;exact⟨u,r,.inr ⟨.inl hk,c,hc,O⟩⟩
   ·rw[ù (Ō L)]at C;obtain⟨u',r',q⟩:=hl j y v' g C e3;refine⟨u',r',?_⟩;rcases q with q|⟨k,c',e,z'⟩
    ·exact .inl q
    ·refine .inr ⟨k,c',e,z'.sameBut f ?_⟩;rintro rfl;exact L (vK hN g (I.ok.inj _ _ _ e hc▸U))
  ·by_cases P:c'=c
   ·subst P;exact⟨_,O⟩
   ·obtain⟨w2,z2⟩:=I.cell y c' e;exact⟨w2,z2.sameBut f P⟩
  ·obtain⟨e,n,ne,nf,d⟩:=I.pin p hp;refine⟨(f.2 p.1 ?_).trans e,n,ne,nf,d⟩;intro q;rw[q,Y]at e;have q':oc=p.2:=è e;exact d w' (by rw[<-q'];exact Z)
def fX (I:Inv X þ σ H s)(a:X.N.Nodup)(c:X.N[i]?=À x)(d:Loc X.env.scope x)(r:RelV v u)
  (h:∀s',Inv X þ (σ.set i (À v)) H s'->Q () s') (b:X.fn x=true∨X.env.scope.names.lookup x=À .local:=by first|exact .inl rfl|exact .inr rfl|assumption):Ü M A (WY X.env x u) Q E s:=
 yp I a c d r (λs' B _=>h s' B) b
def Inv.Tc (I:Inv X þ σ H s)(g:s'.os=s.os)(u:Un (z_ X.stack) ch H H' s.heap s'.heap) (d:mO X.prog X.w H' s'.heap)(f:n3 s'.gens)
  (a:∀b∈ch,(b∈X.ex∨X.jV.heap.objs.size<=b)/\b≠X.env.locals/\(∀x c,X.env.cells.lookup x=À c->c≠b)/\∀p∈X.pn++þ,p.1≠b):Inv X þ σ H' s':=by
 obtain⟨h',g',d',t',h⟩:=s';have e:h=s.os:=g;subst e;exact I.call (g':=g') (t':=t') (d':=d') u d f a
end
abbrev XK:=Value->Ð Addr->Hp->Prop
abbrev St:=Á (Ð V)
abbrev VK:=V->Hp->Prop
abbrev TE:=St->Hp->VK->Prop
abbrev TT:=St->Hp->(Bool->Hp->Prop)->Prop
abbrev TA:=St->Hp->(Á V->Hp->Prop)->Prop
structure Ends where
 nx:St->Hp->Prop
 rt:VK
 bk:St->Hp->Prop:=λ_ _=>False
 ct:St->Hp->Prop:=λ_ _=>False
abbrev TS:=Ends->St->Hp->Prop
def EP (X:Cx)(a:Á (Addr×Obj)) (b:St)(Q:VK)(u:Value)(s':Ú):Prop:=∃v A,Inv X a b A s'/\RelV v u/\Q v A
def TP (X:Cx)(a:Á (Addr×Obj)) (c:St)(Q:Bool->Hp->Prop)(b:Bool)(s':Ú):Prop:=∃A,Inv X a c A s'/\Q b A
def AP (X:Cx)(a:Á (Addr×Obj)) (c:St)(Q:Á V->Hp->Prop)(us:Á Value)(s':Ú):Prop:=∃b A,Inv X a c A s'/\Vals b us/\Q b A
def SP (X:Cx)(b:Á (Addr×Obj)) (D:Ends)(f:Flow)(s':Ú):Prop:=
 match f with
 |.next=>∃a A,Inv X b a A s'/\D.nx a A
 |.brk=>∃a A,Inv X b a A s'/\D.bk a A
 |.cont=>∃a A,Inv X b a A s'/\D.ct a A
 |.ret u=>∃v a A,Inv X b a A s'/\RelV v u/\D.rt v A
def PE (X:Cx)(e:Expr)(t:TE):Prop:=
 ∀(a:Á (Addr×Obj)) (s:Ú) (b:St) (H:Hp) (Q:VK),Inv X a b H s->t b H Q->Ü (à X.prog X.w) X.A (Ė e X.env) (EP X a b Q) X.xe s
def PT (X:Cx)(e:Expr)(t:TT):Prop:=
 ∀(a:Á (Addr×Obj)) (s:Ú) (b:St) (H:Hp) (Q:Bool->Hp->Prop),Inv X a b H s->t b H Q->Ü (à X.prog X.w) X.A (Ff e X.env (Ė e X.env)) (TP X a b Q) X.xe s
def PW (X:Cx)(e:Expr)(t:TT):Prop:=
 ∀(b:Za Value) (a:Á (Addr×Obj)) (s:Ú) (c:St) (H:Hp) (Q:Bool->Hp->Prop),Inv X a c H s->t c H Q->Ü (à X.prog X.w) X.A (Ff e X.env b) (TP X a c Q) X.xe s
def PW.pt (h:PW X e t):PT X e t:=h _
def PA (X:Cx)(c:Á Expr)(t:TA):Prop:=
 ∀(pos:kU) (a:Á (Addr×Obj)) (s:Ú) (b:St) (H:Hp) (Q:Á V->Hp->Prop),Inv X a b H s->t b H Q->Ü (à X.prog X.w) X.A (spliced (Ģ pos (Ï c X.env))) (AP X a b Q) X.xe s
def PS (X:Cx)(st:Stmt)(t:TS):Prop:=
 ∀(a:Á (Addr×Obj)) (s:Ú) (b:St) (H:Hp) (D:Ends),Inv X a b H s->t D b H->Ü (à X.prog X.w) X.A (exec st X.env) (SP X a D) X.xe s
def m8 (X:Cx)(st:Á Stmt)(t:TS):Prop:=
 ∀(a:Á (Addr×Obj)) (s:Ú) (b:St) (H:Hp) (D:Ends),Inv X a b H s->t D b H->Ü (à X.prog X.w) X.A (execs st X.env) (SP X a D) X.xe s
def iR {α g:Type}{a b c:α->g->Prop}{P:Prop}(h:∃x y,a x y/\b x y/\c x y)(k:∀x y,a x y->b x y->c x y->P):P:=by
 obtain⟨x,y,d,e,f⟩:=h;exact k x y d e f
def aq (h:Ü M A t Q E s)(b:∀a s,Q a s->B a s):Ü M A t B E s:=aE h b λ_ _ x=>x
section
variable {X:Cx}
def R7 (i:Nat):TE:=λa H Q=>∃v,a[i]?=À (À v)/\Q v H
def tC (v:V):TE:=λ_ H Q=>Q v H
def Rh (j:X.N[i]?=À x)(o:V7 X.env.scope x)(hd:(x == ("__debug__":Str))=false:=by decide) (f:(x == ("__classdict__":Str))=false:=by decide):PE X (.Name x pos) (R7 i):=by
 intro d s p H Q I h;obtain⟨v,e,h⟩:=h;obtain⟨m,n,hl⟩:=I.loc;obtain⟨u,r,l⟩:=hl i x v j e o;have b:EP X d p Q u s:=⟨v,H,I,r,h⟩
 rcases l with⟨hk,k⟩|⟨hk,c,g,a⟩
 ·exact Fh (t5 I.ok.kind hk n k b) hd
 ·rcases hk with hk|hk
  ·exact Fh (Sq I.ok.kind hk g a b) hd
  ·exact Fh (wpAny_loadName_free I.ok.kind hk g a b f) hd
def Q_:PE X (.Constant (.int i) j pos) (tC (.int i)):=λ_ _ _ H _ I h=>SY ⟨.int i,H,I.tok _,⟨_,rfl⟩,h⟩
def UY:PE X (.Constant (.bool b) j pos) (tC (.bl b)):=λ_ _ _ H _ I h=>Constant_bool ⟨.bl b,H,I,rfl,h⟩
def Rb:PE X (.Constant .none j pos) (tC .Ğ):=λ_ _ _ H _ I h=>Constant_none ⟨.Ğ,H,I,rfl,h⟩
def Rg:PE X (.Constant (.str x) j pos) (tC (.str x)):=λ_ _ _ H _ I h=>Calls.Constant_str ⟨.str x,H,I.tok _,⟨_,rfl⟩,h⟩
def Gl (X:Cx)(x:Str):Prop:=X.env.kindOf x=À .globalImplicit
def oj (I:Inv X a d H s)(b:Gl X x)(c:X.mg x=À u)(h:Q u s)
  (hd:(x == ("__debug__":Str))=false:=by decide):Ü (à X.prog X.w) X.A (Ė (.Name x pos) X.env) Q E s:=
 yx I.ok.kind b (Calls.loadGlobal_global (by rw[I.ok.glob];exact I.mod.glob.keeps I.bk) c h) hd
def pE (I:Inv X a j H s)(d:Gl X x)(e:X.mg x=none)(g:İ x=À u)(h:Q u s)
  (f:x≠"__name__":=by decide) (hd:(x == ("__debug__":Str))=false:=by decide):Ü (à X.prog X.w) X.A (Ė (.Name x pos) X.env) Q E s:=by
 obtain⟨i,b,c⟩:=I.mod.blt;exact yx I.ok.kind d (Calls.loadGlobal_builtin (by rw[I.ok.glob];exact I.mod.glob.keeps I.bk) e (by rw[I.ok.blt];exact b.keeps I.bk) ((c x f).trans g) h) hd
def zC (a:Gl X x)(b:X.mg x=À u)(r:RelV v u)(hd:(x == ("__debug__":Str))=false:=by decide):PE X (.Name x pos) (tC v):=
 λ_ _ _ H _ I h=>oj I a b ⟨v,H,I,r,h⟩ hd
def EC (a:Gl X x)(b:X.mg x=none)(d:İ x=À u)(r:RelV v u)(c:x≠"__name__":=by decide)(hd:(x == ("__debug__":Str))=false:=by decide):PE X (.Name x pos) (tC v):=
 λ_ _ _ H _ I h=>pE I a b d ⟨v,H,I,r,h⟩ c hd
variable {a b:Expr}{ta tb:TE}{pos:kU}
def PC (X:Cx)(op:CmpOp)(a b:Expr)(t:TE):Prop:=
 ∀(c:Á (Addr×Obj)) (s:Ú) (f:St) (H:Hp) (Q:VK),Inv X c f H s->t f H Q->
  Ü (à X.prog X.w) X.A (Ė a X.env) (λv d=>Ü (à X.prog X.w) X.A (Ė b X.env) (λu e=>Ü (à X.prog X.w) X.A (Į op v u) (EP X c f Q) X.xe e) X.xe d) X.xe s
def Bo (b:Expr)(h:op≠.In)(e:op≠.NotIn):aC op b=false:=by
 have c:(op == CmpOp.In)=false:=by cases op<;>first|rfl|exact absurd rfl h
 have d:(op == CmpOp.NotIn)=false:=by cases op<;>first|rfl|exact absurd rfl e
 cases b<;>simp[aC,c,d]
def tB (t:TE):TT:=λd H Q=>t d H λx A=>∃c,x=.bl c/\Q c A
def Q7 (h:PC X op a b t)(d:aC op b=false:=by first|exact Bo _ (by decide) (by decide)|rfl):PE X (.Compare a [op] [b] pos) t:=λc s e H Q I hw=>wpAny_Compare1 (h c s e H Q I hw) d
def Dc (h:PC X op a b t)(f:aC op b=false:=by first|exact Bo _ (by decide) (by decide)|rfl):PT X (.Compare a [op] [b] pos) (tB t):=by
 intro e s l H Q I hw;refine Od (aq (h e s l H _ I hw) λv m f=>aq f λu n g=>aq g λc o k=>iR k λx A B j i=>?_) f;obtain⟨d,rfl,q⟩:=i;cases j;exact cG ⟨A,B,q⟩
variable {tA tB':TT}{rest:Á Expr}
def Yh (t u:TT):TT:=λd H Q=>t d H λc A=>if c=true then u d A Q else Q false A
def tOr (t u:TT):TT:=λd H Q=>t d H λc A=>if c=true then Q true A else u d A Q
def Yr (t:TT):TT:=λd H Q=>t d H λc A=>Q (!c) A
def pw_and1 (f:PT X a tA):PW X (.BoolOp .And [a] pos) tA:=by
 intro j d s g H Q I h;refine isTrue_and (aq (f d s g H Q I h) λc i e=>?_);cases c with
 |true=>exact isTrue_and_nil e
 |false=>exact e
def pw_or1 (f:PT X a tA):PW X (.BoolOp .Or [a] pos) tA:=by
 intro j d s g H Q I h;refine isTrue_or (aq (f d s g H Q I h) λc i e=>?_);cases c with
 |false=>exact isTrue_or_nil e
 |true=>exact e
def pw_and (g:PT X a tA)(i:PW X (.BoolOp .And (b::rest) pos) tB'):PW X (.BoolOp .And (a::b::rest) pos) (Yh tA tB'):=by
 intro k d s f H Q I h;refine isTrue_and (aq (g d s f H _ I h) λc j l=>?_);obtain⟨A,B,e⟩:=l;cases c with
 |true=>exact i k d j f A Q B e
 |false=>exact⟨A,B,e⟩
def pw_or (g:PT X a tA)(i:PW X (.BoolOp .Or (b::rest) pos) tB'):PW X (.BoolOp .Or (a::b::rest) pos) (tOr tA tB'):=by
 intro k d s f H Q I h;refine isTrue_or (aq (g d s f H _ I h) λc j l=>?_);obtain⟨A,B,e⟩:=l;cases c with
 |true=>exact⟨A,B,e⟩
 |false=>exact i k d j f A Q B e
def Rz (e:PT X a tA):PT X (.UnaryOp .Not a pos) (Yr tA):=by
 intro d s f H Q I h;exact isTrue_not (e d s f H (λc A=>Q (!c) A) I h)
def Vi (ta tb:TE):TE:=λd H Q=>ta d H λx A=>∃c,x=.bl c/\if c=true then tb d A Q else Q (.bl false) A
def Ys (ta tb:TE):TE:=λd H Q=>ta d H λx A=>∃c,x=.bl c/\if c=true then Q (.bl true) A else tb d A Q
def Vp (ta:TE):TE:=λd H Q=>ta d H λx A=>∃c,x=.bl c/\Q (.bl (!c)) A
def Q6 (g:PE X a ta)(i:PE X (.BoolOp .And (b::rest) pos) tb):PE X (.BoolOp .And (a::b::rest) pos) (Vi ta tb):=by
 intro d s f H Q I h;refine BoolOp_and (aq (g d s f H _ I h) λv k l=>iR l λx A B j e=>?_);obtain⟨c,rfl,e⟩:=e;cases j;refine cG ?_;cases c with
 |true=>exact i d k f A Q B e
 |false=>exact⟨.bl false,A,B,rfl,e⟩
def U2 (g:PE X a ta)(i:PE X (.BoolOp .Or (b::rest) pos) tb):PE X (.BoolOp .Or (a::b::rest) pos) (Ys ta tb):=by
 intro d s f H Q I h;refine BoolOp_or (aq (g d s f H _ I h) λv k l=>iR l λx A B j e=>?_);obtain⟨c,rfl,e⟩:=e;cases j;refine cG ?_;cases c with
 |false=>exact i d k f A Q B e
 |true=>exact⟨.bl true,A,B,rfl,e⟩
def Rf (f:PE X a ta):PE X (.UnaryOp .Not a pos) (Vp ta):=by
 intro d s j H Q I h;refine UnaryOp_ (aq (f d s j H _ I h) λv k i=>iR i λx A B g e=>?_);obtain⟨c,rfl,e⟩:=e;cases g;exact not_of (cG ⟨.bl (!c),A,B,rfl,e⟩)
def tIf (t:TT)(ta tb:TE):TE:=λd H Q=>t d H λc A=>if c=true then ta d A Q else tb d A Q
def JE (l:PT X c tA)(j:PE X a ta)(k:PE X b tb):PE X (.IfExp c a b pos) (tIf tA ta tb):=by
 intro e s f H Q I h;refine wpAny_IfExp (aq (l e s f H _ I h) λd i m=>?_);obtain⟨A,B,g⟩:=m;cases d with
 |true=>exact j e i f A Q B g
 |false=>exact k e i f A Q B g
end
def fC (K:É)(H:Hp)(a:Addr)(xs:Á V):Prop:=
 Rd H a (.lst xs)∨
  ∃o b n,K.lookup a=À o/\o.cls=.type "list"/\o.dict=none/\o.data=.seq b n/\b.size<=sizeLine/\Vals xs b.toList
def gq (K:É)(H:Hp)(a:Addr)(xs:Á V):Prop:=
 Rd H a (.tup xs)∨
  ∃o b n,K.lookup a=À o/\o.cls=.type "tuple"/\o.data=.seq b n/\b.size<=sizeLine/\Vals xs b.toList
noncomputable def W8:Value->Ð V
 |.none=>À .Ğ
 |.bool b=>À (.bl b)
 |.int i _=>À (.int i)
 |.str x _=>À (.str x)
 |.bytes b _=>À (.Cu b)
 |.float b _=>À (.Oi b)
 |.ref a=>À (.ref a)
 |.type n=>À (.ty n)
 |_=>none
def RelV.abs (r:RelV x u):W8 u=À x:=by
 cases x with
 |Ğ=>cases r;rfl
 |bl _=>cases r;rfl
 |int _=>obtain⟨t,rfl⟩:=r;rfl
 |str _=>obtain⟨t,rfl⟩:=r;rfl
 |Cu _=>obtain⟨t,rfl⟩:=r;rfl
 |Oi _=>obtain⟨t,rfl⟩:=r;rfl
 |ref _=>cases r;rfl
 |ty _=>cases r;rfl
theorem RelV.inj (r:RelV x u)(q:RelV y u):x=y:=è (r.abs.symm.trans q.abs)
theorem Vals.inj:∀{xs ys:Á V}{us:Á Value},Vals xs us->Vals ys us->xs=ys
 |_,_,_,.nil,.nil=>rfl
 |_,_,_,.cons r t,.cons a b=>by rw[r.inj a,Vals.inj t b]
section
variable {X:Cx}{þ:Á (Addr×Obj)}{σ:St}{H:Hp}{s:Ú}{a:Addr}{xs ys:Á V}
def fC.of {K:É}(h:H a=À (.lst xs)):fC K H a xs:=.inl (.inl h)
def gq.of {K:É}(h:H a=À (.tup xs)):gq K H a xs:=.inl (.inl h)
def Inv.list (I:Inv X þ σ H s)(h:fC X.K H a xs):∃its:Á Value,Vals xs its/\PlainL s.heap a its.toArray/\xs.length<=sizeLine:=by
 rcases h with h|⟨o,its,n,c,b,hd,d,f,r⟩
 ·obtain⟨z,its,n,r,e⟩:=h.ok I.ť;exact⟨its,r,⟨_,n,e,rfl,rfl,rfl⟩,z⟩
 ·refine⟨its.toList,r,⟨o,n,I.md a o c,b,hd,by simpa using d⟩,?_⟩;have e:=r.length;simp only[ĳ]at e;lia
def Inv.tuple (I:Inv X þ σ H s)(h:gq X.K H a xs):∃its:Á Value,Vals xs its/\KW s.heap a its.toArray/\xs.length<=sizeLine:=by
 rcases h with h|⟨o,its,n,c,b,d,f,r⟩
 ·obtain⟨z,its,r,p⟩:=h.ok I.ť;exact⟨its,r,p,z⟩
 ·refine⟨its.toList,r,⟨o,I.md a o c,b,n,by simpa using d⟩,?_⟩;have e:=r.length;simp only[ĳ]at e;lia
def Inv.vB (I:Inv X þ σ H s)(h:fC X.K H a xs)(h':fC X.K H a ys):xs=ys:=by
 obtain⟨c,r,⟨o,n,e,_,_,d⟩,_⟩:=I.list h;obtain⟨b,i,⟨k,j,g,_,_,f⟩,_⟩:=I.list h';rw[e]at g;cases g;rw[d]at f;injection f with d1 _
 have:c=b:=by simpa using Ĳ Cb d1
 subst this;exact r.inj i
def Inv.sH (I:Inv X þ σ H s)(h:gq X.K H a xs)(h':gq X.K H a ys):xs=ys:=by
 obtain⟨c,r,⟨o,e,_,n,d⟩,_⟩:=I.tuple h;obtain⟨b,i,⟨k,g,_,j,f⟩,_⟩:=I.tuple h';rw[e]at g;cases g;rw[d]at f;injection f with d1 _
 have:c=b:=by simpa using Ĳ Cb d1
 subst this;exact r.inj i
end
section
variable {X:Cx}{þ:Á (Addr×Obj)}{σ:St}{H:Hp}{s:Ú}{E:Value->Ú->Prop}
end
section
variable {X:Cx}{st:Stmt}{rest:Á Stmt}{t u:TS}{e:Expr}{te:TE}{pos:kU}
def Vo:TS:=λD a H=>D.nx a H
def Yv (t u:TS):TS:=λD a H=>t {D with nx:=u D} a H
def Nv:m8 X [] Vo:=λ_ _ a H _ I h=>qW ⟨a,H,I,h⟩
def JU (c:PS X st t)(d:m8 X rest u):m8 X (st::rest) (Yv t u):=by
 intro a s i H D I h;refine W2 (aq (c a s i H {D with nx:=u D} I h) λf g q=>?_);cases f with
 |next=>
  obtain⟨b,A,B,q⟩:=q;exact d a g b A D B q
 |ret v=>exact q
 |brk=>exact q
 |cont=>exact q
def Nw (b:PS X st t):m8 X [st] t:=by
 intro a s c H D I h;refine W2 (aq (b a s c H D I h) λf d q=>?_);cases f with
 |next=>exact qW q
 |ret v=>exact q
 |brk=>exact q
 |cont=>exact q
def Inv.quiet (I:Inv X a b H s):interactive X.env=false:=by simp[interactive,I.ok.kind]
def Vl (te:TE):TS:=λD a H=>te a H λ_ A=>D.nx a A
def Nt (c:PE X e te)(d:eN e none pos.line X.env=pure false:=by rfl):PS X (.Expr e pos) (Vl te):=by
 intro a s b H D I h;exact wpAny_Expr_any (aq (c a s b H _ I h) λv j g=>iR g λx A B i f=>⟨b,A,B,f⟩) I.quiet d
def Yu (te:TE):TS:=λD a H=>te a H D.rt
def Rw (c:PE X e te):PS X (.Return (À e) pos) (Yu te):=by
 intro a s b H D I h;exact wpAny_Return_some (aq (c a s b H _ I h) λv i g=>iR g λx A B f d=>⟨x,b,A,B,f,d⟩)
def Yo (c:TT)(t u:TS):TS:=λD a H=>c a H λb A=>if b=true then t D a A else u D a A
def U4 (m:PT X c n)(k:m8 X a t)(l:m8 X b u):PS X (.If c a b pos) (Yo n t u):=by
 intro f s g H D I h;refine wpAny_If (aq (m f s g H _ I h) λd j o=>?_);obtain⟨A,B,i⟩:=o;cases d with
 |true=>exact k f j g A D B i
 |false=>exact l f j g A D B i
end
abbrev TG:=V->St->Hp->(St->Hp->Prop)->Prop
abbrev Sx:=Á V->St->Hp->(St->Hp->Prop)->Prop
def PG (X:Cx)(a:Expr)(t:TG):Prop:=
 ∀b s d H v u Q,Inv X b d H s->RelV v u->t v d H Q->
  Ü (à X.prog X.w) X.A (k9 a X.env u) (λ_ s'=>∃c B,Inv X b c B s'/\Q c B) X.xe s
def DJ (X:Cx)(ts:Á Expr)(t:Sx):Prop:=
 ∀a s d H c us Q,Inv X a d H s->Vals c us->t c d H Q->
  Ü (à X.prog X.w) X.A (oF ((dP ts X.env).map (·.2)) us) (λ_ s'=>∃b B,Inv X a b B s'/\Q b B) X.xe s
abbrev S4:=V->V->V->Hp->(Hp->Prop)->Prop
def O_ (X:Cx)(t:S4):Prop:=
 ∀a s d H o i v c b u Q,Inv X a d H s->RelV o c->RelV i b->RelV v u->t o i v H Q->
  Ü (à X.prog X.w) X.A (LB c b u) (λ_ s'=>∃B,Inv X a d B s'/\Q B) X.xe s
abbrev V6:=V->V->Hp->VK->Prop
def V5 (X:Cx)(op:Operator)(t:V6):Prop:=
 ∀a s b H x y v u Q,Inv X a b H s->RelV x v->RelV y u->t x y H Q->
  Ü (à X.prog X.w) X.A (inplaceOp op v u) (EP X a b Q) X.xe s
section
variable {X:Cx}{pos:kU}
def D9 (i:Nat):TG:=λv a H Q=>Q (a.set i (À v)) H
def Nf (b:X.N.Nodup)(d:X.N[i]?=À x)(e:Loc X.env.scope x)(c:X.fn x=true∨X.env.scope.names.lookup x=À .local:=by first|exact .inl rfl|exact .inr rfl|assumption):PG X (.Name x pos) (D9 i):=by
 intro a s f H v u Q I r h;exact VS (fX I b d e r (λs' A=>⟨_,H,A,h⟩) c)
def Xf:Sx:=λa b H Q=>a=[]/\Q b H
def Tw (t:TG)(u:Sx):Sx:=λb c H Q=>∃v r,b=v::r/\t v c H λa A=>u r a A Q
def Ng:DJ X [] Xf:=by
 intro a s b H c us Q I r h;obtain⟨e,h⟩:=h;subst e;cases r;exact yC ⟨b,H,I,h⟩
def JK (f:PG X e t)(g:DJ X b u)
  (i:(dP (e::b) X.env).map (·.2)=k9 e X.env::(dP b X.env).map (·.2):=by rfl):DJ X (e::b) (Tw t u):=by
 intro a s n H p us Q I r h;obtain⟨v,o,d,h⟩:=h;subst d;cases r with
 |cons r k=>
  rw[i];refine dR (aq (f a s n H _ _ _ I r h) λ_ l m=>?_);obtain⟨c,A,B,j⟩:=m;exact g a l c A _ _ Q B k j
def Xh (K:É)(n:Nat)(t:Sx):TG:=λv b H Q=>∃a xs,v=.ref a/\gq K H a xs/\xs.length=n/\t xs b H Q
def Ri (l:X.calm=true)(h:DJ X d t)
  (m:(dP d X.env).length=n:=by rfl) (f:(dP d X.env).findIdx? (·.1)=none:=by rfl):PG X (.Tuple d k pos) (Xh X.K n t):=by
 intro c s g H v u Q I r hw;obtain⟨a,xs,i,p,hl,hw⟩:=hw;subst i;cases r;obtain⟨x,rv,q,y⟩:=I.tuple p;refine assign_Tuple_tuple (I.ok.hd l) q (by simp[m,<-hl,rv.length]) f λj w=>?_;have A:Inv X c g H {s with heap:=j}:=I.kept (t':=s.toks) λb o e=>w b o (ò (Ó e)) e;exact h c _ g H xs _ Q A (by simpa using rv) hw
def Xg (c b:TE)(t:S4):TG:=λv a H Q=>c a H λo A=>b a A λi B=>t o i v B λC=>Q a C
def JJ (j:PE X o J)(g:PE X i G)(k:O_ X t)
  (f:∀v,k9 (.Subscript o i pos) X.env v=(do
   let b <-df [v] (Ė o X.env);let c <-df [v,b] (Ė i X.env)
   jW pos
   df [v,b,c] (LB b c v)
   release [v,b,c] []):=by intro _;rfl):PG X (.Subscript o i pos) (Xg J G t):=by
 intro a s e H v u Q I r h;rw[f];refine Â (ő (aq (j a s e H _ I h) λb w d=>iR d λx A D p l=>?_));refine Â (ő (aq (g a w e A _ D l) λc z d=>iR d λy B E q m=>?_));refine Â (eO (Â (ő (aq (k a z e B x y v b c u _ E p q r m) λ_ L d=>?_))));obtain⟨C,F,n⟩:=d;exact wpAny_release ⟨e,C,F,n⟩
def NR (b:TE)(g:TG):TS:=λD a H=>b a H λx A=>g x a A D.nx
def Rn (f:PE X e n)(i:PG X b g)(j:jY [b] e pos.line X.env=pure false:=by rfl)(hw:jX [b] e X.env=pure none:=by rfl)
  (d:(dP [b] X.env).map (·.2)=[k9 b X.env]:=by rfl):PS X (.Assign [b] e pos) (NR n g):=by
 intro a s c H D I h;refine wpAny_Assign_stores (aq (f a s c H _ I h) λv m o=>iR o λx A B l k=>?_) j hw;rw[d];exact aq (i a m c A x v _ B l k) λ_ p q=>q
def Rx (c:X.N.Nodup)(g:X.N[i]?=À x)(k:Loc X.env.scope x)(d:PE X e n)(j:eN e (À (.Name x b)) pos.line X.env=pure false:=by rfl) (f:X.fn x=true∨X.env.scope.names.lookup x=À .local:=by first|exact .inl rfl|exact .inr rfl|assumption) :
  PS X (.Assign [.Name x b] e pos) (NR n (D9 i)):=by
 intro a s p H D I h;refine wpAny_Assign_Name (aq (d a s p H _ I h) λv q o=>iR o λy A B m l=>?_) j;exact fX B c g k m (λr C=>⟨_,A,C,l⟩) f
def Yt (i j:Nat)(b:TA):TS:=λD a H=>b a H λc A=>∃v w,c=[v,w]/\D.nx ((a.set i (À v)).set j (À w)) A
def Rv (U:X.calm=true)(t:X.N.Nodup)(Y:X.N[i]?=À x)(Z:X.N[j]?=À y)(l:i≠j)
  (u:X.env.scope.names.lookup x=À .local) (z:X.env.scope.names.lookup y=À .local) (T:PA X [a,b] ta)
  (hw:jX [.Tuple [.Name x F,.Name y G] E pt] (.Tuple [a,b] k2 k) X.env=pure (À [x,y]))
  (hs:jY [.Tuple [.Name x F,.Name y G] E pt] (.Tuple [a,b] k2 k) pos.line X.env=pure false:=by rfl) :
  PS X (.Assign [.Tuple [.Name x F,.Name y G] E pt] (.Tuple [a,b] k2 k) pos) (Yt i j ta):=by
 intro c s J H D I h;rw[Zh];refine Â (eO ?_);rw[hs];refine Â (Ì ?_);rw[Ñ (by decide)];refine Â (Tuple_ (aq (T _ c s J H _ I h) λus d zz=>iR zz λvs B L r1 n=>?_));obtain⟨v,w,Q,n⟩:=n;subst Q;obtain⟨f,g,rfl,rv,r⟩:∃f g,us=[f,g]/\RelV v f/\RelV w g:=by
  cases r1 with
  |cons p q=>
   cases q with
   |cons p' q'=>
    cases q';exact⟨_,_,rfl,p,p'⟩
 refine Š ?_ (by show 2<=sizeLine;decide);have M:Inv X c J B {d with heap:=d.heap.push {cls:=.type "tuple",data:=.seq [f,g].toArray}}:=L.kept (t':=d.toks) λb o e=>Ä _ e;rw[hw];refine Â (Ì ?_);show Ü (à X.prog X.w) X.A (do rule "assign.swapped-stores";let items <-unpackItems (.ref d.heap.objs.size) 2 none;oF [λv=>gA X.env y v,λv=>gA X.env x v] items.reverse;pure Cc) _ _ _;refine Â (b9 (Â (VP (items:=#[f,g]) (I.ok.hd U) (uR d.heap _) λh' m=>?_)));have O:=M.kept (h':=h') (t':=d.toks) λb o e=>m b o (ò (Ó e)) e;show Ü _ _ (oF [λv=>gA X.env y v,λv=>gA X.env x v] [g,f] >>= λ_=>pure Cc) _ _ _;refine Â (dR (mN (fX O t Z (.inl z) r (λs2 P=>?_) (.inr z))));refine dR (mN (fX P t Y (.inl u) rv (λs3 C=>yC (Ì ?_)) (.inr u)));rw[ra _ _ (Ō l)]at C;exact⟨_,B,C,n⟩
def Yi (i:Nat)(b:TE)(c:V6):TS:=λD a H=>∃x,a[i]?=À (À x)/\b a H λy A=>c x y A λz B=>D.nx (a.set i (À z)) B
def Rq (L:X.N.Nodup)(p:X.N[i]?=À x)(g:Loc X.env.scope x)(O:PE X e te)(U:V5 X op ti)(P:X.fn x=true∨X.env.scope.names.lookup x=À .local:=by first|exact .inl rfl|exact .inr rfl|assumption) :
  PS X (.AugAssign (.Name x q) op e pos) (Yi i te ti):=by
 intro a s t H D I h;obtain⟨v,J,h⟩:=h;obtain⟨m,T,hl⟩:=I.loc;have j:V7 X.env.scope x:=by rcases g with k|k;exact .inl k;exact .inr (.inl k)
 obtain⟨u,r,l⟩:=hl i x v p J j;refine wpAny_AugAssign_Name ?_;have o:Ü (à X.prog X.w) X.A (Ė e X.env) (λw d=>Ü (à X.prog X.w) X.A (inplaceOp op u w) (λr f=>Ü (à X.prog X.w) X.A (WY X.env x r) (λ_=>SP X a D .next) X.xe f) X.xe d) X.xe s:=by
  refine aq (O a s t H _ I h) λw s1 n=>iR n λy B E r1 Y=>?_;refine aq (U a s1 t B v y u w _ E r r1 Y) λz s2 n=>iR n λzv C F r2 Z=>?_;exact fX F L p g r2 (λs3 G=>⟨_,C,G,Z⟩) P
 rcases l with⟨hk,Q⟩|⟨hk,c,M,b⟩
 ·exact t5 I.ok.kind hk T Q o
 ·rcases hk with hk|hk
  ·exact Sq I.ok.kind hk M b o
  ·rcases g with k|k
   ·have:X.env.scope.names.lookup x=À .free:=hk;rw[k]at this;cases this
   ·have:X.env.scope.names.lookup x=À .free:=hk;rw[k]at this;cases this
def ipI (f:Int->Int->Int):V6:=λx y H Q=>∃i j,x=.int i/\y=.int j/\Q (.int (f i j)) H
def P0:V5 X .Add (ipI λi j=>i+j):=by
 intro a s g H x y v u Q I d e h;obtain⟨i,j,b,c,q⟩:=h;subst b;subst c;obtain⟨t,rfl⟩:=d;obtain⟨f,rfl⟩:=e;exact iadd_int ⟨.int _,H,I.tok _,⟨_,rfl⟩,q⟩
def R8 (c:TT)(tb:TS):TS:=λD a H=>∃W:Nat->St->Hp->Prop,(∃m,W m a H)/\∀m a H,W m a H->
 c a H λb B=>if b=true then ∃N:St->Hp->Prop,(∀d A,N d A->∃e,e<m/\W e d A)/\tb {D with nx:=N,ct:=N,bk:=D.nx} a B else D.nx a B
def JT (r:Ak (à X.prog X.w) X.A X.env X.xe) (u:PT X c M)(t:m8 X body tb):PS X (.While c body [] pos) (R8 M tb):=by
 intro a s T H D I h;obtain⟨W,⟨x,O⟩,g⟩:=h;refine wpAny_While (codeAny_whileLoop (λn s'=>∃i E,Inv X a i E s'/\W n i E) ?_ x ⟨T,H,I,O⟩);rintro n y ⟨e,F,L,P⟩;refine eD r (aq (u a y e F _ L (g n e F P)) λb z Q=>?_);obtain⟨G,J,j⟩:=Q;cases b with
 |true=>
  obtain⟨N,q,j⟩:=j;rw[Ë rfl];refine eD r (aq (t a z e G _ J j) λf U k=>?_);cases f with
  |next=>
   obtain⟨d,B,C,o⟩:=k;obtain⟨m,l,p⟩:=q d B o;exact⟨m,l,d,B,C,p⟩
  |cont=>
   obtain⟨d,B,C,o⟩:=k;obtain⟨m,l,p⟩:=q d B o;exact⟨m,l,d,B,C,p⟩
  |brk=>exact k
  |ret v=>exact k
 |false=>
  rw[Ñ ã];exact qW ⟨e,G,J,j⟩
end
structure It where
 go:Nat->Hp->Prop
 Ln:Nat->Hp->V->Hp->Prop
 stop:Nat->Hp->Prop
def t_ (X:Cx)(a:Á (Addr×Obj)) (H:Hp)(b:Addr):Prop:=
 H b=none/\b≠X.env.locals/\b∉X.fs/\(b∈X.ex∨X.jV.heap.objs.size<=b)/\(∀x c,X.env.cells.lookup x=À c->c≠b)/\∀p∈X.pn++a,p.1≠b
def Inv.A3 (I:Inv X d h H s)(a:s.heap.objs.size<=b)(f:H' b=none):t_ X d H' b:=by
 refine⟨f,ħ (ì I.lt a),I.XM a,.inr (đ I.sz a),λx c e z=>?_,λp g z=>?_⟩
 ·obtain⟨v,q⟩:=I.cell x c e;exact absurd (ì q.lt (by rw[z];exact a)) (ŋ _)
 ·exact absurd (ì (Ó (I.pin p g).1) (by rw[z];exact a)) (ŋ _)
structure Turn (P:Č)(w:Ī)(K:É)(tg:Expr)(J:It)(fp:Á Addr)(it:Addr)(tn:Nat->Heap->Prop):Prop where
 mem:it∈fp
 obj:∀i h,tn i h->∀b∈fp,∃o,h.get? b=À o/\∀v,o.data≠.cell v
 keep:∀i h h',tn i h->(∀b∈fp,∀o,h.get? b=À o->h'.get? b=À o)->tn i h'
 item:∀X,X.prog=P->X.w=w->X.K=K->X.calm=true->∀i þ s σ H E,Inv X þ σ H s->(∀b∈fp,t_ X þ H b)->tn i s.heap->J.go i H->
  Ü (à P w) X.A (gg (.ref it)) (λr s1=>∃u,r=À u/\
   Ü (à P w) X.A (la tg (.ref it) u) (λ_ s2=>∃x H',Inv X þ σ H' s2/\RelV x u/\J.Ln i H x H'/\tn (i+1) s2.heap/\∀b∈fp,H' b=none) E s1) E s
 done:∀X,X.prog=P->X.w=w->X.K=K->X.calm=true->∀i þ s σ H E,Inv X þ σ H s->(∀b∈fp,t_ X þ H b)->tn i s.heap->J.stop i H->
  Ü (à P w) X.A (gg (.ref it)) (λr s1=>r=none/\Inv X þ σ H s1) E s
 self:∀A i s Q E,tn i s.heap->Q (.ref it) s->Ü (à P w) A (LA (.ref it)) Q E s
abbrev TI:=St->Hp->(It->Hp->Prop)->Prop
def Zo (X:Cx)(a:Á (Addr×Obj)) (i:St)(h:Expr)(R:It->Hp->Prop)(c:Value)(f:Ú):Prop:=
 ∃e d g J A,c=.ref e/\Inv X a i A f/\Turn X.prog X.w X.K h J d e g/\g 0 f.heap/\(∀b∈d,t_ X a A b)/\R J A
def PI (X:Cx)(e b:Expr)(f:TI):Prop:=
 ∀a s c H R,Inv X a c H s->f c H R->
  Ü (à X.prog X.w) X.A (Ė b X.env) (λv d=>Ü (à X.prog X.w) X.A (LA v) (Zo X a c e R) X.xe d) X.xe s
def Ec (d:s.heap.get? e=À o)(b:o.cls=.type n)(hd:o.data=.fields vs)
    (c:["enumerate","zip","dict_itemiterator","dict_reverseitemiterator","odict_iterator","itertools.zip_longest","itertools.pairwise"].contains n=false) (a:Q () s):Ü M A (la f (.ref e) u) Q E s:=by
  unfold la;cases f<;>first
    |exact Ì a
    | (cases u<;>first
        |exact Ì a
        | (refine Â (wpAny_load d ?_)
           rw[b,hd];show Ü M A (if (["enumerate","zip","dict_itemiterator","dict_reverseitemiterator","odict_iterator","itertools.zip_longest","itertools.pairwise"].contains n&&vs[0]? == À (Ŷ _))=true then _ else _) Q E s;rw[Ñ (by intro h;rw[c,Bool.false_and]at h;cases h)];exact Ì a))
def Ss (K:É)(a:Addr):It:=
 ⟨λi H=>∃xs x,fC K H a xs/\xs[i]?=À x,λi H x A=>A=H/\∀xs,fC K H a xs->xs[i]?=À x,λi H=>∃xs,fC K H a xs/\xs.length<=i⟩
def S1 (K:É)(a:Addr):It:=
 ⟨λi H=>∃xs x,gq K H a xs/\xs[i]?=À x,λi H x A=>A=H/\∀xs,gq K H a xs->xs[i]?=À x,λi H=>∃xs,gq K H a xs/\xs.length<=i⟩
def Su (lo:Int)(n:Nat):It:=⟨λi _=>i<n,λi H x A=>A=H/\x=.int (lo+i),λi _=>n<=i⟩
def yq {P:Č}{w:Ī}{K:É}{tg:Expr}(a it:Addr):Turn P w K tg (Ss K a) [it] it (λi h=>h.IsListIter it a i) where
 mem:=by simp
 obj:=λi h st b hb=>by
  have e:b=it:=by simpa using hb
  subst e;obtain⟨o,e,c,d⟩:=st;exact⟨o,e,λv z=>by rw[d]at z;cases z⟩
 keep:=λi h h' st k=>st.at λo e=>k it (by simp) o e
 item:=by
  intro X hP hw hK hc i þ s σ H E I hf st hg;subst hP hw hK;obtain⟨xs,x,hq,hx⟩:=hg;obtain⟨its,rv,p,hz⟩:=I.list hq;obtain⟨u,hu,ru⟩:=rv.get hx;obtain⟨f0,f1,f2,f3,f4,f5⟩:=hf it (by simp);refine wpAny_pyNext_list_item st p.isList (x:=u) (by simpa using hu) λh' Ka sb=>?_;have I1:Inv X þ σ H {s with heap:=h'}:=I.turned (t':=s.toks) (λb o hb e=>(sb.2 b hb).trans e) f0 f1 f3 f4 f5;obtain⟨o,e,c,d⟩:=id Ka;exact⟨u,rfl,Ec (s:={s with heap:=h'}) e c d (by decide) ⟨x,H,I1,ru,⟨rfl,λys hy=>by rw[I.vB hy hq];exact hx⟩,Ka,λb hb=>(hf b hb).1⟩⟩
 done:=by
  intro X hP hw hK hc i þ s σ H E I hf st hg;subst hP hw hK;obtain⟨xs,hq,hx⟩:=hg;obtain⟨its,rv,p,hz⟩:=I.list hq;obtain⟨f0,f1,f2,f3,f4,f5⟩:=hf it (by simp);have hl:=rv.length;exact wpAny_pyNext_list_end (I.ok.hd hc) st p.isList (by simp;lia) λh' eb=>⟨rfl,I.turned (t':=s.toks) (λb o hb e=>eb b o hb e) f0 f1 f3 f4 f5⟩
 self:=λ_ _ _ _ _ st h=>wpAny_pyIter_listiter st h
def Dw {P:Č}{w:Ī}{K:É}{tg:Expr}(a it:Addr):Turn P w K tg (S1 K a) [it] it (λi h=>h.IsTupleIter it a i) where
 mem:=by simp
 obj:=λi h st b hb=>by
  have e:b=it:=by simpa using hb
  subst e;obtain⟨o,e,c,d⟩:=st;exact⟨o,e,λv z=>by rw[d]at z;cases z⟩
 keep:=λi h h' st k=>st.at λo e=>k it (by simp) o e
 item:=by
  intro X hP hw hK hc i þ s σ H E I hf st hg;subst hP hw hK;obtain⟨xs,x,hq,hx⟩:=hg;obtain⟨its,rv,p,hz⟩:=I.tuple hq;obtain⟨u,hu,ru⟩:=rv.get hx;obtain⟨f0,f1,f2,f3,f4,f5⟩:=hf it (by simp);refine wpAny_pyNext_tuple_item st (show s.heap.IsTuple a its.toArray from p) (x:=u) (by simpa using hu) λh' Ka sb=>?_;have I1:Inv X þ σ H {s with heap:=h'}:=I.turned (t':=s.toks) (λb o hb e=>(sb.2 b hb).trans e) f0 f1 f3 f4 f5;obtain⟨o,e,c,d⟩:=id Ka;exact⟨u,rfl,Ec (s:={s with heap:=h'}) e c d (by decide) ⟨x,H,I1,ru,⟨rfl,λys hy=>by rw[I.sH hy hq];exact hx⟩,Ka,λb hb=>(hf b hb).1⟩⟩
 done:=by
  intro X hP hw hK hc i þ s σ H E I hf st hg;subst hP hw hK;obtain⟨xs,hq,hx⟩:=hg;obtain⟨its,rv,p,hz⟩:=I.tuple hq;obtain⟨f0,f1,f2,f3,f4,f5⟩:=hf it (by simp);have hl:=rv.length;exact wpAny_pyNext_tuple_end (I.ok.hd hc) st (show s.heap.IsTuple a its.toArray from p) (by simp;lia) λh' eb=>⟨rfl,I.turned (t':=s.toks) (λb o hb e=>eb b o hb e) f0 f1 f3 f4 f5⟩
 self:=λ_ _ _ _ _ st h=>wpAny_pyIter_tupleiter st h
def Dv {P:Č}{w:Ī}{K:É}{tg:Expr}(it:Addr)(lo:Int)(n:Nat):Turn P w K tg (Su lo n) [it] it (λi h=>IsRangeIter h it (lo+(i:Nat)*1) ((n:Int)-(i:Nat)) 1) where
 mem:=by simp
 obj:=λi h st b hb=>by
  have e:b=it:=by simpa using hb
  subst e;exact⟨_,st,λv z=>by
   have z':Data.fields _=Data.cell v:=z;cases z'⟩
 keep:=λi h h' st k=>k it (by simp) _ st
 item:=by
  intro X hP hw hK hc i þ s σ H E I hf st hg;subst hP hw hK;obtain⟨f0,f1,f2,f3,f4,f5⟩:=hf it (by simp);have W:=Walks.range (prog:=X.prog) (w:=X.w) (I.ok.hd hc) it lo 1 n;refine W.item i s _ _ hg st λv h' tk hv Ka kk=>?_;obtain⟨t,rfl⟩:=hv;have I1:Inv X þ σ H {s with heap:=h',toks:=tk}:=I.turned (λb o hb e=>kk b o (by simpa using hb) e) f0 f1 f3 f4 f5;refine⟨_,rfl,Ec (s:={s with heap:=h',toks:=tk}) (n:="range_iterator") Ka rfl rfl (by decide) ⟨.int (lo+i),H,I1,⟨t,?_⟩,⟨rfl,rfl⟩,Ka,λb hb=>(hf b hb).1⟩⟩;rw[Int.mul_one]
 done:=by
  intro X hP hw hK hc i þ s σ H E I hf st hg;subst hP hw hK;obtain⟨f0,f1,f2,f3,f4,f5⟩:=hf it (by simp);exact wpAny_pyNext_range_end (I.ok.hd hc) st (by have:n<=i:=hg;lia) λh' eb=>⟨rfl,I.turned (t':=s.toks) (λb o hb e=>eb b o hb e) f0 f1 f3 f4 f5⟩
 self:=λ_ _ _ _ _ st h=>wpAny_pyIter_rangeiter st h
section
variable {X:Cx}{tg:Expr}
def TZ (K:É)(tl:TE):TI:=λb H R=>tl b H λx A=>∃a,x=.ref a/\(∃xs,fC K A a xs)/\R (Ss K a) A
def Nj {l:Expr}{tl:TE}(hl:PE X l tl):PI X tg l (TZ X.K tl):=by
 intro c s n H R I h;refine aq (hl c s n H _ I h) λv d m=>iR m λx B A k j=>?_;obtain⟨a,e,⟨xs,g⟩,q⟩:=j;subst e;cases k;obtain⟨i,rv,p,r⟩:=A.list g;refine yK p.isList ?_;refine⟨d.heap.objs.size,[d.heap.objs.size],_,_,B,rfl,A.kept (t':=d.toks) λb o e=>Ä _ e,yq a _,⟨_,Ù _ rfl,rfl,rfl⟩,λb f=>?_,q⟩;have e:b=d.heap.objs.size:=by simpa using f
 subst e;exact A.A3 (Î _) (A.ť.fresh (Î _))
def JY {c:Á (Addr×Obj)}{f:St}{H:Hp}{s:Ú}{R:It->Hp->Prop}{E:Value->Ú->Prop}{lo a:Int}{t u v:Tok}{d:Nat}(I:Inv X c f H s)(i:-(2^62)<=lo) (j:lo<2^62)(k:-(2^62)<=a) (l:a<2^62)
  (q:R (Su lo (a-lo).toNat) H):Ü (à X.prog X.w) X.A (LA (.ref s.heap.objs.size)) (Zo X c f tg R) E {s with heap:=s.heap.push {cls:=.type "range",data:=.fields #[.int lo t,.int a u,.int 1 v]},toks:=d}:=by
 refine wpAny_pyIter_range (IsRange.new ..) (small_one i j k l) ?_;have B:Inv X c f H {s with heap:=s.heap.push {cls:=.type "range",data:=.fields #[.int lo t,.int a u,.int 1 v]},toks:=d}:=I.kept λb o e=>Ä _ e;refine⟨(s.heap.push {cls:=.type "range",data:=.fields #[.int lo t,.int a u,.int 1 v]}).objs.size,[(s.heap.push {cls:=.type "range",data:=.fields #[.int lo t,.int a u,.int 1 v]}).objs.size],_,_,H,rfl,
  B.kept (t':=d) λb o e=>Ä _ e,Dv _ lo (a-lo).toNat,?_,λb m=>?_,q⟩
 ·have g:lo+((0:Nat):Int)*1=lo:=by simp
  have h:(((a-lo).toNat:Nat):Int)-((0:Nat):Int)=Wx lo a 1:=by rw[rangeSize_one];split<;>lia
  show IsRangeIter _ _ (lo+((0:Nat):Int)*1) ((((a-lo).toNat:Nat):Int)-((0:Nat):Int)) 1;rw[g,h];exact Ù _ rfl
 ·have e:b=(s.heap.push {cls:=.type "range",data:=.fields #[.int lo t,.int a u,.int 1 v]}).objs.size:=by simpa using m
  subst e;exact B.A3 (Î _) (B.ť.fresh (Î _))
def T3 (a:TA):TI:=λc H R=>a c H λb A=>∃j:Int,b=[.int j]/\-(2^62)<=j/\j<2^62/\R (Su 0 j.toNat) A
def Ga {a:Expr}{d:TA}{p pos:kU}(g:Gl X "range")(i:X.mg "range"=none)(f:PA X [a] d)(k:Ï [a] X.env=[(false,Ė a X.env)]:=by rfl):PI X tg (.Call (.Name "range" p) [a] [] pos) (T3 d):=by
 intro b s u H R I h;refine Call_ (pE I g i boot_range (cQ (aq (f pos b s u H _ I h) λus v o=>iR o λw B A m c=>?_) k rfl));obtain⟨j,e,c,l,q⟩:=c;subst e;cases m with
 |cons r n=>
  cases n;obtain⟨t,rfl⟩:=r;exact call_range_1 (JY A (by lia) (by lia) c l (by simpa using q))
def Yn (e:TI)(g:TG)(tb:TS):TS:=λD a H=>e a H λJ B=>∃W:Nat->Nat->St->Hp->Prop,(∃m,W 0 m a B)/\∀i m a H,W i m a H->
 (J.stop i H/\D.nx a H)∨(J.go i H/\∃N:St->Hp->Prop,(∀b A,N b A->∃d,d<m/\W (i+1) d b A)/\∀x A,J.Ln i H x A->g x a A λc C=>tb {D with nx:=N,ct:=N,bk:=D.nx} c C)
def vS (a:Á Addr)(h:Heap):Á (Addr×Obj):=a.filterMap λb=>(h.get? b).map λo=>(b,o)
def mf (c:b∈a)(e:h.get? b=À o):(b,o)∈vS a h:=kR.mpr ⟨b,c,by rw[e];rfl⟩
def F5 (f:p∈vS c h):p.1∈c/\h.get? p.1=À p.2:=by
 obtain⟨b,d,e⟩:=kR.mp f;cases q:h.get? b with
 |none=>rw[q]at e;cases e
 |some o=>
  rw[q]at e;have a:(b,o)=p:=è e;subst a;exact⟨d,q⟩
def Inv.pinned (I:Inv X a n H s)(k:∀b∈f,t_ X a H b)(l:∀b∈f,∃o,s.heap.get? b=À o/\∀v,o.data≠.cell v):Inv X (a++vS f s.heap) n H s:=
 I.EE λp m=>(Ŕ.mp m).elim (λz=>I.pin p (Ě _ z)) λz=>by
  obtain⟨g,e⟩:=F5 z;obtain⟨h,i,j,_⟩:=k p.1 g;obtain⟨o,c,d⟩:=l p.1 g;rw[e]at c;cases c;exact⟨e,h,i,j,d⟩
def Inv.qR (I:Inv X (a++pl) c H s):Inv X a c H s:=I.EE λp b=>I.pin p (Ě _ (cf _ b))
def Ru (L:Ak (à X.prog X.w) X.A X.env X.xe) (hc:X.calm=true)(hi:PI X tg q wi)(hg:PG X tg g)(j:m8 X body tb)
  (hs:∀x,e_ q X.env x=pure x:=by intro _;rfl):PS X (.For tg q body [] pos) (Yn wi g tb):=by
 intro a s σ H D I h;refine wpAny_For (aq (hi a s σ H _ I h) λv s1 h1=>aq h1 λZM s2 h2=>?_) hs;obtain⟨it,F,tn,J,H2,e,I2,T,st2,f2,W,⟨m0,w0⟩,Q⟩:=h2;subst e;have k:∀{E:Hp},(∀b∈F,E b=none)->∀b∈F,t_ X a E b:=λhn b j=>⟨hn b j,(f2 b j).2⟩
 refine codeAny_forLoop_any (λn s'=>∃i l E,Inv X a l E s'/\tn i s'.heap/\(∀b∈F,E b=none)/\W i n l E) ?_ m0 ⟨0,σ,H2,I2,st2,λb j=>(f2 b j).1,w0⟩;rintro n s3 ⟨i,p,U,I3,O,G,w3⟩;rcases Q i n p U w3 with⟨P,qn⟩|⟨go,N,hN,step⟩
 ·refine eD L (aq (T.done X rfl rfl rfl hc i a s3 p U X.xe I3 (k G) O P) λr s4 z=>?_);obtain⟨hr,I4⟩:=z;subst hr;exact qW ⟨p,U,I4,qn⟩
 ·refine eD L (aq (T.item X rfl rfl rfl hc i a s3 p U X.xe I3 (k G) O go) λr s4 z=>?_);obtain⟨u,hr,h4⟩:=z;subst hr;refine eD L (aq h4 λ_ s5 z=>?_);obtain⟨x,H5,I5,r5,y5,y,Z⟩:=z;have Y:=I5.pinned (k Z) (T.obj _ _ y);refine eD L (aq (hg _ s5 p H5 x u _ Y r5 (step x H5 y5)) λ_ s6 z=>?_);obtain⟨σ6,H6,I6,q6⟩:=z;refine eD L (aq (j _ s6 σ6 H6 _ I6 q6) λf s7 t=>?_);have again:∀{c:St}{B:Hp},Inv X (a++vS F s5.heap) c B s7->N c B->∃m,m<n/\∃i l E,Inv X a l E s7/\tn i s7.heap/\(∀b∈F,E b=none)/\W i m l E:=λ{c B} C M=>by
   obtain⟨m',hm,w7⟩:=hN c B M;refine⟨m',hm,i+1,c,B,C.qR,T.keep _ _ _ y λb j o e=>(C.pin (b,o) (Ě _ (Ě _ (mf j e)))).1,λb j=>?_,w7⟩;obtain⟨o,e,d⟩:=T.obj _ _ y b j;exact(C.pin (b,o) (Ě _ (Ě _ (mf j e)))).2.1
  cases f with
  |next=>obtain⟨c,B,C,M⟩:=t;exact again C M
  |cont=>obtain⟨c,B,C,M⟩:=t;exact again C M
  |brk=>obtain⟨c,B,C,t⟩:=t;exact⟨c,B,C.qR,t⟩
  |ret v=>obtain⟨x7,c,B,C,r7,t⟩:=t;exact⟨x7,c,B,C.qR,r7,t⟩
end
abbrev R2:=V->V->Hp->VK->Prop
def jj (X:Cx)(f:Value->Value->Za Value)(r:R2):Prop:=
 ∀a s b H x y v u Q,Inv X a b H s->RelV x v->RelV y u->r x y H Q->
  Ü (à X.prog X.w) X.A (f v u) (EP X a b Q) X.xe s
def S6 (X:Cx)(f:Value->Za Value)(r:V->Hp->VK->Prop):Prop:=
 ∀a s b H x v Q,Inv X a b H s->RelV x v->r x H Q->
  Ü (à X.prog X.w) X.A (f v) (EP X a b Q) X.xe s
def bz (X:Cx)(f:Value)(r:Á V->Hp->VK->Prop):Prop:=
 ∀a s b H xs us Q,Inv X a b H s->Vals xs us->r xs H Q->
  Ü (à X.prog X.w) X.A (call f us) (EP X a b Q) X.xe s
def W7 (X:Cx)(r:V->Hp->(Bool->Hp->Prop)->Prop):Prop:=
 ∀a s b H x v Q,Inv X a b H s->RelV x v->r x H Q->
  Ü (à X.prog X.w) X.A (truthy v) (TP X a b Q) X.xe s
def Vq (r:R2)(b tb:TE):TE:=λa H Q=>b a H λx A=>tb a A λy B=>r x y B Q
def Z2 (r:V->Hp->VK->Prop)(a:TE):TE:=λb H Q=>a b H λx A=>r x A Q
def rI (C:Int->Int->Prop)(g:Int->Int->V):R2:=λx y H Q=>∃i j,x=.int i/\y=.int j/\C i j/\Q (g i j) H
def RB (g:Int->Int->V):R2:=λx y H Q=>∃i j,x=.int i/\y=.int j/\Q (g i j) H
def rU (g:Int->V):V->Hp->VK->Prop:=λx H Q=>∃i,x=.int i/\Q (g i) H
section
variable {X:Cx}{a b c:Expr}{ta tb tc:TE}{pos:kU}
def Pf (l:PE X a ta)(m:PE X b tb){d:Á (Addr×Obj)}{s:Ú}{e:St}{H:Hp}{R:V->V->Hp->Prop}(I:Inv X d e H s)
  (h:ta e H λx C=>tb e C λy B=>R x y B) {Q:Value->Ú->Prop}{f:Value->Value->Za Value}
  (n:∀v u j x y B,Inv X d e B j->RelV x v->RelV y u->R x y B->Ü (à X.prog X.w) X.A (f v u) Q X.xe j) :
  Ü (à X.prog X.w) X.A (Ė a X.env) (λv g=>Ü (à X.prog X.w) X.A (Ė b X.env) (λu i=>Ü (à X.prog X.w) X.A (f v u) Q X.xe i) X.xe g) X.xe s:=by
 refine aq (l d s e H _ I h) λv t k=>iR k λx C D q o=>?_;refine aq (m d t e C _ D o) λu j k=>iR k λy B E r p=>?_;exact n v u j x y B E q r p
def U1 {op:Operator}{r:R2}(g:jj X (a' op) r) (e:PE X a ta)(f:PE X b tb):PE X (.BinOp a op b pos) (Vq r ta tb):=by
 intro d s l H Q I h;exact wpAny_BinOp (Pf e f I h λv u k x y A B i j q=>g d k l A x y v u Q B i j q)
def U3 (g:S6 X (VO op) r) (f:PE X a ta):PE X (.UnaryOp op a pos) (Z2 r ta):=by
 intro d s e H Q I h;exact UnaryOp_ (aq (f d s e H _ I h) λv k l=>iR l λx A B j i=>g d k e A x v Q B j i)
def Wi {f:Value->Value->Za Value}{C:Int->Int->Prop}{g:Int->Int->Int}
  (rule:∀i j t u s Q E,C i j->Q (.int (g i j) s.toks) {s with toks:=s.toks+1}->Ü (à X.prog X.w) X.A (f (.int i t) (.int j u)) Q E s) :
  jj X f (rI C λi j=>.int (g i j)):=by
 intro d s n H x y v u Q I k l h;obtain⟨i,j,rfl,rfl,e,q⟩:=h;obtain⟨t,rfl⟩:=k;obtain⟨m,rfl⟩:=l;exact rule i j t m s _ _ e ⟨.int (g i j),H,I.tok _,⟨_,rfl⟩,q⟩
def XU {f:Value->Value->Za Value}{g:Int->Int->Int}
  (rule:∀i j t u s Q E,Q (.int (g i j) s.toks) {s with toks:=s.toks+1}->Ü (à X.prog X.w) X.A (f (.int i t) (.int j u)) Q E s) :
  jj X f (RB λi j=>.int (g i j)):=by
 intro d s m H x y v u Q I e k h;obtain⟨i,j,rfl,rfl,q⟩:=h;obtain⟨t,rfl⟩:=e;obtain⟨l,rfl⟩:=k;exact rule i j t l s _ _ ⟨.int (g i j),H,I.tok _,⟨_,rfl⟩,q⟩
def M5 {f:Value->Value->Za Value}{g:Int->Int->Bool}
  (rule:∀i j t u s Q E,Q (.bool (g i j)) s->Ü (à X.prog X.w) X.A (f (.int i t) (.int j u)) Q E s) :
  jj X f (RB λi j=>.bl (g i j)):=by
 intro d s m H x y v u Q I e k h;obtain⟨i,j,rfl,rfl,q⟩:=h;obtain⟨t,rfl⟩:=e;obtain⟨l,rfl⟩:=k;exact rule i j t l s _ _ ⟨.bl (g i j),H,I,rfl,q⟩
def LD (i j:Int):Prop:=0<=j/\j<=1000000/\i.natAbs<2^64
def QX:jj X (a' .Add) (RB λi j=>.int (i+j)):=XU λ_ _ _ _ _ _ _ q=>add_int q
def M8:jj X (a' .Mod) (rI (λ_ j=>j≠0) λi j=>.int (i.fmod j)):=Wi λ_ _ _ _ _ _ _ d q=>mod_int' d q
def Q3:jj X (a' .Pow) (rI LD λi j=>.int (i^j.toNat)):=Wi λ_ _ _ _ _ _ _ d q=>pow_int_small d.1 d.2.1 d.2.2 q
def unI {f:Value->Za Value}{g:Int->Int}
  (rule:∀i t s Q E,Q (.int (g i) s.toks) {s with toks:=s.toks+1}->Ü (à X.prog X.w) X.A (f (.int i t)) Q E s) :
  S6 X f (rU λi=>.int (g i)):=by
 intro d s j H x v Q I e h;obtain⟨i,rfl,q⟩:=h;obtain⟨t,rfl⟩:=e;exact rule i t s _ _ ⟨.int (g i),H,I.tok _,⟨_,rfl⟩,q⟩
def Sa:S6 X (VO .USub) (rU λi=>.int (-i)):=unI λ_ _ _ _ _ q=>neg_int q
end
noncomputable def RQ:V->V->Bool
 |.Ğ,.Ğ=>true|.Ğ,.int _=>true|.int _,.Ğ=>true|.Ğ,.bl _=>true|.bl _,.Ğ=>true|.Ğ,.str _=>true|.str _,.Ğ=>true
 |.int _,.int _=>true|.bl _,.bl _=>true|.str _,.str _=>true|.Cu _,.Cu _=>true
 |.int _,.str _=>true|.str _,.int _=>true|.bl _,.str _=>true|.str _,.bl _=>true
 |_,_=>false
def rEq:R2:=λx y H Q=>RQ x y=true/\Q (.bl (decide (x=y))) H
def rNe:R2:=λx y H Q=>RQ x y=true/\Q (.bl (!decide (x=y))) H
def DZ:decide (V.int i=V.int j)=(i == j):=by
 rw[dk];simp
def HA:decide (V.bl i=V.bl j)=(i == j):=by
 rw[dk];simp
def D0:decide (V.str i=V.str j)=(i == j):=by
 rw[dk];simp
def DY:decide (V.Cu i=V.Cu j)=(i.toList == j.toList):=by
 rw[dk];cases i;cases j;simp
section
variable {X:Cx}{a b c:Expr}{ta tb tc:TE}{pos:kU}
def Ū (I:Inv X d g H s)(q:Q (.bl k) H) (e:k=f):EP X d g Q (.bool f) s:=by
 subst e;exact⟨.bl k,H,I,rfl,q⟩
def UQ:jj X (Į .Eq) rEq:=by
 intro k s l H x y v u Q I g d h;obtain⟨f,q⟩:=h;cases x with
 |Ğ=>
  cases g;cases y with
  |Ğ=>cases d;exact Y1 (Ū I q (by simp))
  |bl j=>cases d;exact YZ (Ū I q (by simp))
  |int j=>obtain⟨e,rfl⟩:=d;exact Y0 (Ū I q (by simp))
  |str j=>obtain⟨e,rfl⟩:=d;exact Y2 (Ū I q (by simp))
  |_=>exact absurd (show false=true from f) ã
 |bl i=>
  cases g;cases y with
  |Ğ=>cases d;exact YX (Ū I q (by simp))
  |bl j=>cases d;exact eq_bool (Ū I q HA)
  |str j=>obtain⟨e,rfl⟩:=d;exact WI (Ū I q (by simp))
  |_=>exact absurd (show false=true from f) ã
 |int i=>
  obtain⟨t,rfl⟩:=g;cases y with
  |Ğ=>cases d;exact YY (Ū I q (by simp))
  |int j=>obtain⟨e,rfl⟩:=d;exact eq_int (Ū I q DZ)
  |str j=>obtain⟨e,rfl⟩:=d;exact WJ (Ū I q (by simp))
  |_=>exact absurd (show false=true from f) ã
 |str i=>
  obtain⟨t,rfl⟩:=g;cases y with
  |Ğ=>cases d;exact Y3 (Ū I q (by simp))
  |bl j=>cases d;exact WK (Ū I q (by simp))
  |int j=>obtain⟨e,rfl⟩:=d;exact WL (Ū I q (by simp))
  |str j=>obtain⟨e,rfl⟩:=d;exact eq_str (Ū I q D0)
  |_=>exact absurd (show false=true from f) ã
 |Cu i=>
  obtain⟨t,rfl⟩:=g;cases y with
  |Cu j=>obtain⟨e,rfl⟩:=d;exact PySem.W.eq_bytes (Ū I q DY)
  |_=>exact absurd (show false=true from f) ã
 |_=>cases y<;>exact absurd (show false=true from f) ã
def UX:jj X (Į .NotEq) rNe:=by
 intro k s l H x y v u Q I g d h;obtain⟨f,q⟩:=h;cases x with
 |Ğ=>
  cases g;cases y with
  |Ğ=>cases d;exact Y8 (Ū I q (by simp))
  |bl j=>cases d;exact Y6 (Ū I q (by simp))
  |int j=>obtain⟨e,rfl⟩:=d;exact Y7 (Ū I q (by simp))
  |str j=>obtain⟨e,rfl⟩:=d;exact Y9 (Ū I q (by simp))
  |_=>exact absurd (show false=true from f) ã
 |bl i=>
  cases g;cases y with
  |Ğ=>cases d;exact Y4 (Ū I q (by simp))
  |bl j=>cases d;exact ne_bool (Ū I q (Ĳ not HA))
  |str j=>obtain⟨e,rfl⟩:=d;exact WM (Ū I q (by simp))
  |_=>exact absurd (show false=true from f) ã
 |int i=>
  obtain⟨t,rfl⟩:=g;cases y with
  |Ğ=>cases d;exact Y5 (Ū I q (by simp))
  |int j=>obtain⟨e,rfl⟩:=d;exact ne_int (Ū I q (Ĳ not DZ))
  |str j=>obtain⟨e,rfl⟩:=d;exact WN (Ū I q (by simp))
  |_=>exact absurd (show false=true from f) ã
 |str i=>
  obtain⟨t,rfl⟩:=g;cases y with
  |Ğ=>cases d;exact Y_ (Ū I q (by simp))
  |bl j=>cases d;exact WO (Ū I q (by simp))
  |int j=>obtain⟨e,rfl⟩:=d;exact WR (Ū I q (by simp))
  |str j=>obtain⟨e,rfl⟩:=d;exact ne_str (Ū I q (Ĳ not D0))
  |_=>exact absurd (show false=true from f) ã
 |Cu i=>
  obtain⟨t,rfl⟩:=g;cases y with
  |Cu j=>obtain⟨e,rfl⟩:=d;exact PySem.W.ne_bytes (Ū I q (Ĳ not DY))
  |_=>exact absurd (show false=true from f) ã
 |_=>cases y<;>exact absurd (show false=true from f) ã
def UW:jj X (Į .Lt) (RB λi j=>.bl (decide (i<j))):=M5 λ_ _ _ _ _ _ _ q=>lt_int q
def UT:jj X (Į .LtE) (RB λi j=>.bl (decide (i<=j))):=M5 λ_ _ _ _ _ _ _ q=>le_int q
def US:jj X (Į .Gt) (RB λi j=>.bl (decide (j<i))):=M5 λ_ _ _ _ _ _ _ q=>gt_int q
def UR:jj X (Į .GtE) (RB λi j=>.bl (decide (j<=i))):=M5 λ_ _ _ _ _ _ _ q=>ge_int q
def F9:jj X (Į .Lt) (λx y H Q=>∃i j,x=.str i/\y=.str j/\Q (.bl (decide (i.cps.toList<j.cps.toList))) H):=by
 intro d s k H x y v u Q I e f h;obtain⟨i,j,rfl,rfl,q⟩:=h;obtain⟨t,rfl⟩:=e;obtain⟨g,rfl⟩:=f;exact lt_str (Ū I q rfl)
def Q1:jj X (Į .Is) (λx y H Q=>y=.Ğ/\Q (.bl (decide (x=.Ğ))) H):=by
 intro d s g H x y v u Q I e f h;obtain⟨rfl,q⟩:=h;cases f;refine is_none_gen (Ū I q ?_);cases x<;>first
  |(cases e;rfl)
  |(obtain⟨t,rfl⟩:=e;rfl)
def M' {op:CmpOp}{r:R2}(i:jj X (Į op) r) (e:PE X a ta)(f:PE X b tb)(g:aC op b=false):PE X (.Compare a [op] [b] pos) (Vq r ta tb):=by
 intro d s m H Q I h;exact wpAny_Compare1 (Pf e f I h λv u l x y A B j k q=>i d l m A x y v u Q B j k q) g
def Vt (t:TE):TT:=λd H Q=>t d H λx A=>∃k,x=.bl k/\Q k A
def Nx (m:jj X (Į op) r) (i:PE X a ta)(j:PE X b tb)(l:aC op b=false):PT X (.Compare a [op] [b] pos) (Vt (Vq r ta tb)):=by
 intro d s g H Q I h;refine Od (aq (i d s g H _ I h) λv G f=>iR f λx A D q n=>aq (j d G g A _ D n) λu J f=>iR f λy B E t o=>
  aq (m d J g B x y v u _ E q t o) λc L ⟨z,C,F,w,k,e,p⟩=>?_) l
 subst e;cases w;exact cG ⟨C,F,p⟩
def O' (K:É)(x:V)(H:Hp)(k:Bool):Prop:=
 match x with
 |.Ğ=>k=false
 |.bl b=>k=b
 |.int i=>k=(i != 0)
 |.str y=>y.length<=sizeLine/\k=((y.length:Int) != 0)
 |.Cu y=>y.size<=sizeLine/\k=((y.size:Int) != 0)
 |.ref p=>(∃xs,fC K H p xs/\k=!xs.isEmpty)∨(∃xs,gq K H p xs/\k=!xs.isEmpty)∨∃d,H p=À (.dK d)/\k=!d.isEmpty
 |_=>False
def CI (r:KV kvs vs):(!vs.isEmpty)=!kvs.isEmpty:=by
 cases r<;>rfl
def vu (r:Vals xs its):(!its.toArray.isEmpty)=!xs.isEmpty:=by
 cases r<;>simp
def nI:(sizeLine:Nat)<2^63:=by rw[ĉ];decide
def R9:W7 X (λx H Q=>∃k,O' X.K x H k/\Q k H):=by
 intro A s E H x v Q I j h;obtain⟨k,e,q⟩:=h;have hl:=nI;have D:sizeLine=16777216:=ĉ;cases x with
 |Ğ=>
  cases j;have d:k=false:=e;subst d;exact truthy_none ⟨H,I,q⟩
 |bl b=>
  cases j;have d:k=b:=e;subst d;exact cG ⟨H,I,q⟩
 |int i=>
  obtain⟨t,rfl⟩:=j;have d:k=(i != 0):=e;subst d;exact PySem.P.truthy_int ⟨H,I,q⟩
 |str y=>
  obtain⟨t,rfl⟩:=j;obtain⟨C,d⟩:y.length<=sizeLine/\k=((y.length:Int) != 0):=e;subst d;exact PySem.P.truthy_str (by lia) ⟨H,I.tok _,q⟩
 |Cu y=>
  obtain⟨t,rfl⟩:=j;obtain⟨C,d⟩:y.size<=sizeLine/\k=((y.size:Int) != 0):=e;subst d;exact PySem.W.truthy_bytes (by lia) ⟨H,I.tok _,q⟩
 |ref p=>
  cases j;have d:(∃xs,fC X.K H p xs/\k=!xs.isEmpty)∨(∃xs,gq X.K H p xs/\k=!xs.isEmpty)∨∃f,H p=À (.dK f)/\k=!f.isEmpty:=e;rcases d with⟨xs,l,d⟩|⟨xs,l,d⟩|⟨f,l,d⟩
  ·subst d;obtain⟨o,r,u,z⟩:=I.list l;have g:=r.length;exact wpAny_truthy_list u.isList (by simp only[Û];lia) ⟨H,I.tok _,by rw[vu r];exact q⟩
  ·subst d;obtain⟨o,r,u,z⟩:=I.tuple l;have g:=r.length;exact truthy_tuple u (by simp only[Û];lia) ⟨H,I.tok _,by rw[vu r];exact q⟩
  ·subst d;obtain⟨z,B,n,r,m⟩:f.length<=sizeLine/\(p == b8)=false/\∃n,KV f n/\s.heap.DictOf (ż X.prog X.w) p n:=I.ť p _ l;have g:f.length=n.length:=qf r;exact wpAny_truthy_dict B m (by lia) ⟨H,I.tok _,by rw[CI r];exact q⟩
 |_=>exact(show False from e).elim
def JV (g:PE X a ta)(i:∀d,Ff a X.env d=(do let v <-d;jW a.pos;df [v] (truthy v))) :
  PT X a (λf H Q=>ta f H λx H'=>∃k,O' X.K x H' k/\Q k H'):=by
 intro e s f H Q I h;exact isTrue_plain (aq (g e s f H _ I h) λv m n=>iR n λx A B l j=>R9 e m f A x v Q B l j) (i _)
def C5:jj X (a' .Add) (λx y H Q=>∃i j,x=.str i/\y=.str j/\i.length+j.length<=sizeLine/\Q (.str (i++j)) H):=by
 intro d s m H x y v u Q I f g h;obtain⟨i,j,rfl,rfl,e,q⟩:=h;obtain⟨t,rfl⟩:=f;obtain⟨k,rfl⟩:=g;exact add_str (λk l=>⟨.str (i++j),H,I.tok _,⟨_,rfl⟩,q⟩) e
def vals1 (r:Vals [x] us):∃u,us=[u]/\RelV x u:=by
 cases r with
 |cons d e=>cases e;exact⟨_,rfl,d⟩
def vals2 (r:Vals [x,y] us):∃u d,us=[u,d]/\RelV x u/\RelV y d:=by
 cases r with
 |cons e f=>
  cases f with
  |cons g h=>cases h;exact⟨_,_,rfl,e,g⟩
def Hi:bz X (.builtin "abs") (λxs H Q=>∃i,xs=[.int i]/\Q (.int (if i<0 then -i else i)) H):=by
 intro d s f H xs us Q I r h;obtain⟨i,rfl,q⟩:=h;obtain⟨u,rfl,t,rfl⟩:=vals1 r;exact call_abs_int λu e=>⟨.int (if i<0 then -i else i),H,I.tok _,⟨_,rfl⟩,q⟩
end
structure Cm (h:Heap)(x dx C:Addr)(mA:Str->Ð Value):Prop where
 obj:h.get? x=À (bQ C dx)
 ns:h.Ns1 dx mA
 ne:dx≠x
def FV {h:Heap}{c:Addr}{mA:Str->Ð Value}(n:h.Ns1 c mA):∃od,h.get? c=À od/\∀name,oE name od=À (mA name):=by
 obtain⟨o,d,l,j,hd,g,_,i⟩:=n;refine⟨o,j,λname=>?_⟩;have e:=i name;unfold nsFind findBy at e;rw[<-Array.find?_toList]at e;unfold oE;rw[hd];dsimp only;split
 ·rename_i y q;rw[q]at e;exact Ĳ À e
 ·rename_i q;rw[q]at e;have a:d.toList.any (·.refKey)=false:=by
   rw[Lp];intro y k;obtain⟨z,t,b⟩:=g y (o_.mp k);simp[DictEntry.refKey,b]
  have f:¬d.toList.any (·.refKey)=true:=by rw[a];exact ã
  rw[Ñ f];exact Ĳ À e
def Cm.look (I:Cm h x a C mA):∃od,PySem.W.InstAt h x (bQ C a) C (À od)/\∀name,oE name od=À (mA name):=
 let ⟨od,b,hl⟩:=FV I.ns
 ⟨od,⟨I.obj,rfl,rfl,b⟩,hl⟩
section
variable {prog:Č}{w:Ī}{A:Œ}{E:Value->Ú->Prop}{s:Ú}{K:É}{x dx C f:Addr}{mA:Str->Ð Value}{name:Str}{v:Value}
def get_map (X:K.In s.heap)(I:Cm s.heap x dx C mA)(d:gY K C name=true)(e:kW K C=true)
  (c:ą K (.ref C) name=À none) (g:mA name=À v) (a:GU v=true) (h:Q v {s with toks:=s.toks+1}) :
  Ü (à prog w) A (getAttr (.ref x) name b) Q E s:=by
 obtain⟨i,J,hl⟩:=I.look;exact PySem.W.get_value X J (pf d).1 (PySem.W.findObj_own e c rfl (by rw[hl,g])) a h
def H_ (X:K.In s.heap)(I:Cm s.heap x dx C mA)(a:gY K C name=true)
  (b:ą K (.ref C) name=À (À (.ref f))) (c:mK K (.ref f)=true) (d:mA name=none) (h:Q (.ref f,[.ref x]) s) :
  Ü (à prog w) A (pj (.ref x) name pl) Q E s:=by
 obtain⟨e,J,hl⟩:=I.look;exact PySem.W.method_fn X J (pf a).1 (pf a).2 b (jR.mp c) (by show(oE name e).map (·.isSome)=À false;rw[hl,d];rfl) h
def NJ (X:K.In s.heap)(I:Cm s.heap x dx C mA)
  (p:ą K (.ref C) "__setattr__"=À (À (.builtin "object.__setattr__"))) (o:rg K C=true) (q:uY K C name=À none) (n:kW K C=true)
  (hw:Cf mA ns) (hsz:ns.length<=sizeLine)
  (h:∀h',Cm h' x dx C (λy=>if y=name then À v else mA y)->eX dx s.heap h'->Q () {s with heap:=h',toks:=s.toks+2}) :
  Ü (à prog w) A (setAttr (.ref x) name v) Q E s:=by
 obtain⟨B,J,hl⟩:=I.look;refine PySem.W.set_plain X J p (PySem.W.osa_open (s:={s with toks:=s.toks+1}) (r:=none) X J o q λb=>?_);obtain⟨u,m,g⟩:=PySem.W.any_some n;have t:s.heap.get? x=À ⟨.ref C,À dx,.plain,#[]⟩:=I.obj;refine Â (Ì (Â (Â (wpAny_loadPart t (Â (WT (s:={s with toks:=s.toks+1}) (PySem.W.looks_clsIn X m) ?_))))));rw[g];refine Ì (a:=À dx) (Â (Ì (Â ?_)));refine wpAny_nsSet1 (s:={s with toks:=s.toks+1}) I.ns λh' c d=>?_;obtain⟨z,l,k,j,i,e⟩:=c.count (Y' name v hw);refine Â (wpAny_lookBehind j (by rw[i];exact pastItsLine_dict (đ e (by rw[ē];lia))) ?_);exact Ì (h _ ⟨(d.2 _ (Ō I.ne)).trans I.obj,c,I.ne⟩ d)
def IF (X:K.In s.heap)(i:uX K C=true)
  (e:ą K (.ref C) "__init__"=À (À (.ref f))) (c:wZ K (.ref f)=À (.type "function"))
  (h:e9 (à prog w) (A.under (.builtin "type.__call__" ⟨.ref C::vs,b⟩)) (.call (.ref f) ⟨.ref (s.heap.objs.size+1)::vs,b⟩) (PySem.W.InitBack (s.heap.objs.size+1) R)
   {s with heap:=(s.heap.push ae).push (bQ C s.heap.objs.size)}) :
  e9 (à prog w) A (.call (.ref C) ⟨vs,b⟩) R s:=by
 obtain⟨j,g,d,t,os⟩:=s;exact PySem.W.make_core (PySem.W.makes_of X i) (PySem.W.looks_findIn X e) (λa=>PySem.W.bind_fn X a c) (.inl rfl) h
end
noncomputable def mi (f:Str)(v:V):Á (Str×V)->Á (Str×V)
 |[]=>[(f,v)]
 |(g,x)::r=>if g=f then (g,v)::r else (g,x)::mi f v r
theorem tu (f g:Str)(v:V):∀fs:Á (Str×V),(mi f v fs).lookup g=if g=f then À v else fs.lookup g
 |[]=>by
  show eK g [(f,v)]=_;by_cases h:g=f
  ·have a:(g == f)=true:=jR.mpr h;simp only[eK,a,Ë h]
  ·have a:(g == f)=false:=ŝ.mpr h;simp only[eK,a,Ñ h]
 |(k,x)::r=>by
  have c:=tu f g v r;rw[show mi f v ((k,x)::r)=(if k=f then (k,v)::r else (k,x)::mi f v r)from rfl];by_cases b:k=f
  ·rw[Ë b];by_cases h:g=k
   ·have a:(g == k)=true:=jR.mpr h;simp only[eK,a,Ë (h.trans b)]
   ·have a:(g == k)=false:=ŝ.mpr h;simp only[eK,a,Ñ (λe:g=f=>h (e.trans b.symm))]
  ·rw[Ñ b];by_cases h:g=k
   ·have a:(g == k)=true:=jR.mpr h;simp only[eK,a,Ñ (λe:g=f=>b (h.symm.trans e))]
   ·have a:(g == k)=false:=ŝ.mpr h;simp only[eK,a];exact c
theorem rR (f:Str)(v:V):∀fs:Á (Str×V),f∈(mi f v fs).map (·.1)/\∀g,g∈fs.map (·.1)->g∈(mi f v fs).map (·.1)
 |[]=>⟨by simp[mi],λg h=>by simp at h⟩
 |(k,x)::r=>by
  obtain⟨b,c⟩:=rR f v r;rw[show mi f v ((k,x)::r)=(if k=f then (k,v)::r else (k,x)::mi f v r)from rfl];by_cases a:k=f
  ·rw[Ë a];subst a;exact⟨by simp,λg h=>by simpa using h⟩
  ·rw[Ñ a];refine⟨?_,λg h=>?_⟩
   ·rw[Ô];exact Ċ _ b
   ·rw[Ô]at h⊢;rcases ß.mp h with e|e
    ·exact ß.mpr (.inl e)
    ·exact Ċ _ (c g e)
theorem tr (f:Str)(v:V):∀fs:Á (Str×V),(mi f v fs).length<=fs.length+1
 |[]=>by simp[mi]
 |(k,x)::r=>by
  have b:=tr f v r;rw[show mi f v ((k,x)::r)=(if k=f then (k,v)::r else (k,x)::mi f v r)from rfl];by_cases a:k=f
  ·rw[Ë a,ē,ē];lia
  ·rw[Ñ a,ē,ē];lia
def mQ.some_of (r:mQ (À v) o):∃u,o=À u/\RelV v u:=by
 cases o with
 |none=>exact(show False from r).elim
 |some u=>exact⟨u,rfl,r⟩
def mQ.none_of (r:mQ none o):o=none:=by
 cases o with
 |none=>rfl
 |some u=>exact(show False from r).elim
def FI (r:RelV v u):GU u=true:=by
 cases v with
 |Ğ=>cases (show u=õ from r);rfl
 |bl b=>cases (show u=fH b from r);rfl
 |int i=>obtain⟨t,e⟩:=(show ∃t,u=mL i t from r);cases e;rfl
 |str x=>obtain⟨t,e⟩:=(show ∃t,u=u0 x t from r);cases e;rfl
 |Cu b=>obtain⟨t,e⟩:=(show ∃t,u=VJ b t from r);cases e;rfl
 |Oi b=>obtain⟨t,e⟩:=(show ∃t,u=E9 b t from r);cases e;rfl
 |ref a=>cases (show u=Ò a from r);rfl
 |ty n=>cases (show u=cq n from r);rfl
section
variable {P:Č}{w:Ī}{H H':Hp}{h h':Heap}{a C dx:Addr}{fs fs':Á (Str×V)}
def uH (b:mO P w H h)(e:H a=À (.ins C dx fs)):∃mA,Cm h a dx C mA/\(∀f,mQ (fs.lookup f) (mA f))/\Cf mA (fs.map (·.1))/\fs.length<=1000/\H dx=À (.own a):=by
 obtain⟨d,z,c,g,mA,n,r,q⟩:=(show Ş P w H h a (.ins C dx fs)from b a _ e)
 exact⟨mA,⟨g,n,c⟩,r,q,z,d⟩
end
structure Ay (K:É)(C:Addr):Prop where
 pg:gY K C gp=true
 hd:kW K C=true
 po:rg K C=true
 sa:ą K (.ref C) "__setattr__"=À (À (.builtin "object.__setattr__"))
def Ay.get {K:É}{C:Addr}(c:Ay K C)(f:Str):gY K C f=true:=c.pg
def ko (K:É)(C:Addr)(f:Str):Prop:=ą K (.ref C) f=À none
def ko.Vu {K:É}{C:Addr}{f:Str}(n:ko K C f):uY K C f=À none:=by
 unfold uY;rw[show ą K (.ref C) f=À none from n];rfl
structure Meth (K:É)(C:Addr)(m:Str)(f:Addr):Prop where
 at_:ą K (.ref C) m=À (À (.ref f))
 fn:mK K (.ref f)=true
 kp:į K (.ref f)=true
section
variable {X:Cx}{þ:Á (Addr×Obj)}{σ:St}{H:Hp}{s:Ú}{a C dx:Addr}{fs:Á (Str×V)}{f:Str}{v:V}{A:Œ}{E:Value->Ú->Prop}
def CF (I:Inv X þ σ H s)(e:H a=À (.ins C dx fs)) (c:Ay X.K C)(n:ko X.K C f)(l:fs.lookup f=À v)
  (h:∀u s',Inv X þ σ H s'->RelV v u->Q u s'):Ü (à X.prog X.w) A (getAttr (.ref a) f b) Q E s:=by
 obtain⟨mA,O,r,_,_,_⟩:=uH I.ť e;obtain⟨u,hu,d⟩:=mQ.some_of (v:=v) (o:=mA f) (by rw[<-l];exact r f);exact get_map I.md O (c.get f) c.hd n hu (FI d) (h u _ (I.tok _) d)
def pC (I:Inv X þ σ H s)(e:H a=À (.ins C dx fs)) (c:Ay X.K C)(k:Meth X.K C m g)(l:fs.lookup m=none)
  (h:Q (.ref g,[.ref a]) s):Ü (à X.prog X.w) A (pj (.ref a) m pl) Q E s:=by
 obtain⟨mA,O,r,_,_,_⟩:=uH I.ť e;have b:mA m=none:=mQ.none_of (by rw[<-l];exact r m);exact H_ I.md O (c.get m) k.at_ k.fn b h
def Dk (I:Inv X þ σ H s)(e:H a=À (.ins C dx fs)) (c:Ay X.K C)(n:ko X.K C f)(hl:fs.length<1000)(t:RelV y u)
  (h:∀s',Inv X þ σ (upd H a (.ins C dx (mi f y fs))) s'->Q () s'):Ü (à X.prog X.w) A (setAttr (.ref a) f u) Q E s:=by
 obtain⟨mA,O,r,i,_,d⟩:=uH I.ť e;have p:(fs.map (·.1)).length<=sizeLine:=by rw[Ê,ĉ];lia
 refine NJ I.md O c.sa c.po n.Vu c.hd i p λk B D=>h _ ?_;have hd:∃o,k.get? dx=À o:=let ⟨o,_,_,j,_⟩:=B.ns;⟨o,j⟩;refine I.write (x:=a) (e:=dx) (by rw[e];exact bD) (.inr d) (λb q l z=>(D.2 b l).trans z) hd ?_;refine⟨by rw[ç O.ne];exact d,?_,O.ne,B.obj,_,B.ns,λg=>?_,λg m=>?_⟩
 ·have:=tr f y fs;lia
 ·show mQ ((mi f y fs).lookup g) (if g=f then À u else mA g);rw[tu];by_cases q:g=f
  ·rw[Ë q,Ë q];exact t
  ·rw[Ñ q,Ñ q];exact r g
 ·by_cases q:g=f
  ·rw[q];exact(rR f y fs).1
  ·refine(rR f y fs).2 g (i g λz=>m ?_);show(if g=f then À u else mA g)=none;rw[Ñ q];exact z
def Inv.made (I:Inv X þ σ H s):Inv X þ σ (upd (upd H s.heap.objs.size (.own (s.heap.objs.size+1))) (s.heap.objs.size+1) (.ins C s.heap.objs.size []))
  {s with heap:=(s.heap.push ae).push (bQ C s.heap.objs.size)}:=by
 have c:(s.heap.push ae).get? s.heap.objs.size=À ae:=Ù s.heap rfl;have g:((s.heap.push ae).push (bQ C s.heap.objs.size)).get? (s.heap.objs.size+1)=À (bQ C s.heap.objs.size):=by
  have:=Ù (s.heap.push ae) (o:=bQ C s.heap.objs.size) rfl;rwa [ĺ]at this
 have h:(s.heap.push ae).Ns s.heap.objs.size (λ_=>none):=⟨ae,#[],_,c,rfl,(λe i=>absurd i (by simp)),λ_=>rfl⟩
 have B:=I.laid (a:=s.heap.objs.size) (o:=.own (s.heap.objs.size+1)) (h':=s.heap.push ae) (t':=s.toks) (λb u q=>Ä _ q) (Î _) ⟨_,c⟩;refine B.laid (a:=s.heap.objs.size+1) (o:=.ins C s.heap.objs.size []) (t':=s.toks) (λb u q=>Ä _ q) (ki (ĺ _ _)) ?_;have d:s.heap.objs.size≠s.heap.objs.size+1:=ò (fc _);refine⟨by rw[ç d,ă],ÿ _,d,g,λ_=>none,(Heap.Ns1.of_empty h).at λo q=>Ä _ q,λ_=>bD,λy j=>absurd rfl j⟩
def LI (c:aB e f env (Ė e env)=Ė e env)
  (h:Ü (à prog w) A (Ė e env) (λo b=>Ü (à prog w) A (getAttr o f true) Q E b) E s):Ü (à prog w) A (Ė (.Attribute e f pos) env) Q E s:=
 Attribute_any_ h (by rw[arm_eval_Attribute,c])
end
def Ym (K:É)(d:TE)(f:Str):TE:=λe H Q=>d e H λx A=>∃a C c b v,x=.ref a/\A a=À (.ins C c b)/\Ay K C/\ko K C f/\b.lookup f=À v/\Q v A
def Yb (K:É)(e g:TE)(f:Str):TS:=λD c H=>g c H λy B=>e c B λx A=>∃a C d b,x=.ref a/\A a=À (.ins C d b)/\Ay K C/\ko K C f/\b.length<1000/\
 D.nx c (upd A a (.ins C d (mi f y b)))
section
variable {X:Cx}{o e value:Expr}{f:Str}{pos pos' NV:kU}{ta tv:TE}
def Q8 (j:PE X e ta)(i:aB e f X.env (Ė e X.env)=Ė e X.env):PE X (.Attribute e f pos) (Ym X.K ta f):=by
 intro b s r H Q I h;refine LI i (aq (j b s r H _ I h) λu y p=>?_);obtain⟨x,A,B,m,a,C,t,w,v,g,d,c,n,l,q⟩:=p;subst g;obtain rfl:u=Ò a:=m;exact CF B d c n l λE z D k=>⟨v,A,D,k,q⟩
def Rr (j:PE X o ta)(m:PE X value tv)(k:eN value (À (.Attribute o f pos')) pos.line X.env=pure false):PS X (.Assign [.Attribute o f pos'] value pos) (Yb X.K ta tv f):=by
 intro b s d H D I h;refine plainObj_wpAny_Assign_Attribute (aq (m b s d H _ I h) λu w z=>iR z λy A B v q=>aq (j b w d A _ B q) λp M ⟨x,G,E,t,a,C,J,L,i,g,c,n,l,r⟩=>?_) k;subst i;obtain rfl:p=Ò a:=t;exact Dk E g c n l v λN F=>⟨d,_,F,r⟩
def OD (t:PE X e z)(I:Inv X d i H s)
  (h:z i H λx B=>∃a C j fs g,x=.ref a/\B a=À (.ins C j fs)/\Ay X.K C/\Meth X.K C m g/\fs.lookup m=none/\
   ∀s1,Inv X d i B s1->Ü (à X.prog X.w) X.A (yE pos (.ref g) [.ref a] (Ģ pos (Ï args X.env)) (gz pos (bR [] X.env))) Q X.xe s1)
  (v:Ė (.Call (.Attribute e m b) args [] pos) X.env=(do
   let n <-Ė e X.env
   jW b.atName
   let (f,first) <-df [n] (pj n m pl)
   yE pos f first (Ģ pos (Ï args X.env)) (gz pos (bR [] X.env)))) :
  Ü (à X.prog X.w) X.A (Ė (.Call (.Attribute e m b) args [] pos) X.env) Q X.xe s:=by
 refine m5 (pl:=pl) (aq (t d s i H _ I h) λu s1 ⟨x,B,D,y,a,C,j,fs,g,r,p,c,k,l,q⟩=>?_) v;subst r;obtain rfl:u=Ò a:=y;exact pC D p c k l (q s1 D)
end
section
variable {X:Cx}{þ:Á (Addr×Obj)}{σ:St}{H:Hp}{s:Ú}{A:Œ}{E:Value->Ú->Prop}{Q:Value->Ú->Prop}{c:Value}{b:Bool}
inductive ub (K:É) (H:Hp):V->Value->Prop where
 |Ğ:ub K H .Ğ (.type "NoneType")
 |bl (x:Bool):ub K H (.bl x) (.type "bool")
 |int (i:Int):ub K H (.int i) (.type "int")
 |str (x:Str):ub K H (.str x) (.type "str")
 |Oi (x:UInt64):ub K H (.Oi x) (.type "float")
 |lst {a:Addr}{xs:Á V}(e:H a=À (.lst xs)):ub K H (.ref a) (.type "list")
 |iS {a:Addr}{o:Obj}{xs:Á V}(e:H a=À (.iS o (.lst xs))):ub K H (.ref a) (.type "list")
 |tup {a:Addr}{xs:Á V}(e:H a=À (.tup xs)):ub K H (.ref a) (.type "tuple")
 |dK {a:Addr}{kvs:Á (Key×V)}(e:H a=À (.dK kvs)):ub K H (.ref a) (.type "dict")
 |dT {a:Addr}{kvs:Á (Á Key×V)}(e:H a=À (.dT kvs)):ub K H (.ref a) (.type "dict")
 |ins {a C dx:Addr}{fs:Á (Str×V)}(e:H a=À (.ins C dx fs)) (cl:Ay K C) (ha:ą K (.ref C) "__class__"=À (À (.builtin "object.__class__")))
   (hn:gf K (.builtin "object.__class__") "__get__"=À (À (.builtin "getset_descriptor.__get__"))) (htk:i4 K (.builtin "object.__class__")=À true)
   (hm:qd K C (.type "object")=À true):ub K H (.ref a) (.ref C)
def og (I:Inv X þ σ H s)(f:RelV x u)(L:ub X.K H x t)(e:oC X.K t c=À b)(h:∀G,Q (.bool b) {s with toks:=G}) :
  Ü (à X.prog X.w) A (call (.builtin "isinstance") [u,c]) Q E s:=by
 cases L with
 |Ğ=>cases (show u=õ from f);exact ĵ PySem.W.kitx_none I.md bD e (λz=>nomatch z) h
 |bl y=>cases (show u=fH y from f);exact ĵ PySem.W.kitx_bool I.md bD e (λz=>nomatch z) h
 |int i=>obtain⟨t,q⟩:=(show ∃t,u=mL i t from f);cases q;exact ĵ PySem.W.kitx_int I.md bD e (λz=>nomatch z) h
 |str y=>obtain⟨t,q⟩:=(show ∃t,u=u0 y t from f);cases q;exact ĵ PySem.W.kitx_str I.md bD e (λz=>nomatch z) h
 |Oi y=>obtain⟨t,q⟩:=(show ∃t,u=E9 y t from f);cases q;exact ĵ PySem.W.kitx_float I.md bD e (λz=>nomatch z) h
 |@lst a xs d=>
  cases (show u=Ò a from f);obtain⟨_,_,n,_,g⟩:=(show Ş X.prog X.w H s.heap a (.lst xs)from I.ť a _ d)
  exact ĵ rd I.md ⟨_,g,rfl⟩ e (λz=>nomatch z) h
 |@iS a F xs d=>
  cases (show u=Ò a from f);obtain⟨_,_,_,n,_,g⟩:=(show Ş X.prog X.w H s.heap a (.iS F (.lst xs))from I.ť a _ d)
  exact ĵ rd I.md ⟨_,g,rfl⟩ e (λz=>nomatch z) h
 |@tup a xs d=>
  cases (show u=Ò a from f);obtain⟨_,_,_,p⟩:=(show Ş X.prog X.w H s.heap a (.tup xs)from I.ť a _ d)
  obtain⟨o,g,k,_⟩:=p;exact ĵ E7 I.md ⟨o,g,k⟩ e (λz=>nomatch z) h
 |@dK a j d=>
  cases (show u=Ò a from f);obtain⟨_,_,T,_,p⟩:=(show Ş X.prog X.w H s.heap a (.dK j)from I.ť a _ d)
  obtain⟨o,r,m,g,k,_⟩:=p;exact ĵ rb I.md ⟨o,g,k.1⟩ e (λz=>nomatch z) h
 |@dT a j d=>
  cases (show u=Ò a from f);obtain⟨_,_,xs,_,o,r,m,g,k,_⟩:=(show Ş X.prog X.w H s.heap a (.dT j)from I.ť a _ d)
  exact ĵ rb I.md ⟨o,g,k.1⟩ e (λz=>nomatch z) h
 |@ins a C M N d cl v D l B=>
  cases (show u=Ò a from f);obtain⟨mA,O,_⟩:=uH I.ť d;obtain⟨P,J,_⟩:=O.look;exact ĵ (PySem.W.kitx_own (cl.get _) cl.hd v D l B) I.md J e (λz=>nomatch z) h
end
structure cS (k:Nat)(A:Œ):Prop where
 hd:A.handled=none
 gd:A.guards=À []
 dp:A.depth+3*k+5<recursionLimit
 un:A.units+16*k+200<cLine
def cS.mono (r:cS k A)(h:j<=k):cS j A:=⟨r.hd,r.gd,by have:=r.dp;lia,by have:=r.un;lia⟩
theorem cS.deeper (r:cS (k+1) A) (env:KS):cS k (A.deeper env):=
 ⟨r.hd,r.gd,by have:=r.dp;show A.depth+1+3*k+5<_;lia,by have:=r.un;show A.units+3+16*k+200<_;lia⟩
def CO {A:Œ}{C:Addr}{us:Á Value}{a:Á (Str×Value)}:(A.under (.builtin "type.__call__" ⟨.ref C::us,a⟩)).depth=A.depth+1:=by
 first|rfl|simp[sO,Code.weight,Code.isCreation,VB,Code.isCaller,WB,DE,guardIds]
def CP {A:Œ}{C:Addr}{us:Á Value}{a:Á (Str×Value)}:(A.under (.builtin "type.__call__" ⟨.ref C::us,a⟩)).units=A.units+1:=by
 first|rfl|simp[sO,Code.cUnits,WB,DE]
def Bl {A:Œ}{C:Addr}{us:Á Value}{a:Á (Str×Value)}:(A.under (.builtin "type.__call__" ⟨.ref C::us,a⟩)).guards=A.guards:=by
 first|rfl|simp[sO,Code.guards,pushGuards,VB,guardIds]
def cS.make {k:Nat}{A:Œ}(r:cS (k+1) A) (C:Addr)(us:Á Value)(a:Á (Str×Value)):cS k (A.under (.builtin "type.__call__" ⟨.ref C::us,a⟩)):=
 ⟨r.hd,by rw[Bl];exact r.gd,by have:=r.dp;rw[CO];lia,by have:=r.un;rw[CP];lia⟩
theorem cS.depth (r:cS k A):A.depth<recursionLimit:=by have:=r.dp;lia
theorem cS.units (r:cS k A):A.units+64<cLine:=by have:=r.un;lia
def zN:TA:=λ_ H Q=>Q [] H
def wo (b:TE)(c:TA):TA:=λa H Q=>b a H λx A=>c a A λxs B=>Q (x::xs) B
section
variable {X:Cx}{e:Expr}{es:Á Expr}{te:TE}{t:TA}{pos:kU}
def eJ:PA X [] zN:=λ_ _ _ _ H Q I h=>lG ⟨[],H,I,.nil,h⟩
def aR (d:PE X e te)(hr:PA X es t)(f:Ï (e::es) X.env=(false,Ė e X.env)::Ï es X.env:=by rfl):PA X (e::es) (wo te t):=by
 intro pos a s c H Q I h;rw[f];show Ü _ _ (spliced ((false,Ė e X.env)::Ģ pos (Ï es X.env))) _ _ s;refine fF (aq (d a s c H _ I h) λu l b=>iR b λx A C j g=>?_);exact aq (hr pos a l c A _ C g) λus m b=>iR b λxs B D k i=>⟨x::xs,B,D,.cons j k,i⟩
def Yw (t:TA):TE:=λa H Q=>t a H λxs A=>xs.length<=sizeLine/\∀p,A p=none->Q (.ref p) (upd A p (.tup xs))
def Yq (t:TA):TE:=λa H Q=>t a H λxs A=>xs.length<=sizeLine/\∀p,A p=none->Q (.ref p) (upd A p (.lst xs))
def C7 (h:PA X es t):PE X (.Tuple es x1 pos) (Yw t):=by
 intro a s g H Q I f;refine wpAny_Tuple_spliced (aq (h pos a s g H _ I f) λus c ⟨xs,A,B,r,z,q⟩=>⟨by rw[<-r.length];exact z,?_⟩);have d:A c.heap.objs.size=none:=B.ť.fresh (Î _);refine⟨.ref c.heap.objs.size,upd A c.heap.objs.size (.tup xs),B.laid (t':=c.toks) (λb u e=>Ä _ e) (Î _) ?_,rfl,q _ d⟩;exact⟨z,us,r,⟨_,Ù _ rfl,rfl,_,rfl⟩⟩
def Ra (h:PA X es t):PE X (.List es pos) (Yq t):=by
 intro a s g H Q I f;refine wpAny_List_spliced (aq (h pos a s g H _ I f) λus c ⟨xs,A,B,r,z,q⟩=>⟨by rw[<-r.length];exact z,?_⟩);have d:A c.heap.objs.size=none:=B.ť.fresh (Î _);refine⟨.ref c.heap.objs.size,upd A c.heap.objs.size (.lst xs),B.laid (t':=c.toks) (λb u e=>Ä _ e) (Î _) ?_,rfl,q _ d⟩;exact⟨z,us,0,r,Ù _ rfl⟩
end
abbrev Sp:=Á V->Hp->VK->XK->Prop
abbrev G1:=Á KS->Hp->Ú->XK->Value->Ú->Prop
structure Ck (P:Č)(w:Ī)(K:É)(mg:Str->Ð Value)(base:Heap)(A:Œ)(outer:Á KS)(s:Ú)(H:Hp):Prop where
 frames:A.frames=À outer
 mod:Mod K mg base
 bs:∀b o,base.get? b=À o->s.heap.get? b=À o/\H b=none
 Fo:base.objs.size<=s.heap.objs.size
 pA:s.heap.FunFrames base outer
 Lj:∀b∈z_ outer,H b=none
 ť:mO P w H s.heap
 bare:n3 s.gens
def CE (outer:Á KS)(P:Č)(w:Ī)(H:Hp)(s:Ú)(Q:VK)(u:Value)(s':Ú):Prop:=
 ∃v A,s'.os=s.os/\n3 s'.gens/\Un (z_ outer) [] H A s.heap s'.heap/\mO P w A s'.heap/\RelV v u/\Q v A
def CR (CX:G1)(outer:Á KS)(P:Č)(w:Ī)(H:Hp)(s:Ú)(Q:VK)(E:XK)(r:SO)(s':Ú):Prop:=
 match r with
 |.ok (.ret u)=>CE outer P w H s Q u s'
 |.ok _=>False
 |.error e=>CX outer H s E e s'
structure hU (P:Č)(w:Ī)(K:É)(mg:Str->Ð Value)(base:Heap)(CX:G1)(k:Nat)(f:Addr)(fd:eB)(ps:Á Str)(sp:Sp):Prop where
 len:∀vs H Q E,sp vs H Q E->vs.length=ps.length
 run:∀A outer s H args us vs Q E,cS k A->Ck P w K mg base A outer s H->uu s fd args (ps.zip us)->Vals vs us->sp vs H Q E->
  e9 (à P w) A (.call (.ref f) args) (CR CX outer P w H s Q E) s
def hU.imp {P:Č}{w:Ī}{K:É}{mg:Str->Ð Value}{base:Heap}{CX:G1}{k:Nat}{f:Addr}{d:eB}{ps:Á Str}{sp c:Sp}(F:hU P w K mg base CX k f d ps sp)
  (h:∀vs H Q E,c vs H Q E->sp vs H Q E):hU P w K mg base CX k f d ps c:=
 ⟨λvs H Q E q=>F.len vs H Q E (h _ _ _ _ q),λA a s H b us vs Q E hr g e j i=>F.run A a s H b us vs Q E hr g e j (h _ _ _ _ i)⟩
def Ck.make {P:Č}{w:Ī}{K:É}{mg:Str->Ð Value}{base:Heap}{A:Œ}{outer:Á KS}{s:Ú}{H:Hp}(e:Ck P w K mg base A outer s H)(C:Addr)(us:Á Value)(a:Á (Str×Value)) :
  Ck P w K mg base (A.under (.builtin "type.__call__" ⟨.ref C::us,a⟩)) outer s H:=⟨by first|exact e.frames|(simpa[sO,Code.envs,DE,pushEnvs]using e.frames),e.mod,e.bs,e.Fo,e.pA,e.Lj,e.ť,e.bare⟩
section
variable {X:Cx}{þ:Á (Addr×Obj)}{σ:St}{H:Hp}{s s':Ú}
def Inv.Tp (I:Inv X þ σ H s):Ck X.prog X.w X.K X.mg X.base X.A X.stack s H:=
 ⟨I.ok.frames,I.ok.mod,I.bs,đ I.ok.Fo I.sz,I.stack,I.uM,I.ť,I.bare⟩
def Inv.after (I:Inv X þ σ H s)(h:CE X.stack X.prog X.w H s Q u s'):EP X þ σ Q u s':=by
 obtain⟨v,A,os,a,un,c,r,q⟩:=h;obtain⟨f,g,d,t,e⟩:=s';obtain rfl:e=s.os:=os;exact⟨v,A,I.call (h':=f) (g':=g) (d':=d) (t':=t) (ch:=[]) un c a (λb z=>absurd z (by simp)),r,q⟩
end
def Kd (sp:Sp)(a:Á V)(E:XK)(t:TA):TE:=λc H Q=>t c H λb A=>sp (b++a) A Q E
def Kf (C:Addr)(m:Str)(sp:Sp)(b:Á V)(E:XK)(f:TE)(t:TA):TE:=λd H Q=>f d H λx A=>∃a e c,x=.ref a/\A a=À (.ins C e c)/\c.lookup m=none/\
 t d A λg B=>sp (x::(g++b)) B Q E
def Vn (C:Addr)(sp:Sp)(b:Á V)(E:XK)(t:TA):TE:=λd H Q=>t d H λc A=>∀x a,A x=none->A a=none->a≠x->
 sp (.ref x::(c++b)) (upd (upd A a (.own x)) x (.ins C a [])) (λv B=>v=.Ğ/\Q (.ref x) B) E
def Binds (K:É)(a:eB)(ps:Á Str)(ds:Á Value):Prop:=
 ∀s us,K.In s.heap->(us++ds).length=ps.length->uu s a ⟨us,[]⟩ (ps.zip (us++ds))
def Binds.all {K:É}{a:eB}{ps:Á Str}(h:∀us:Á Value,us.length=ps.length->kj a ⟨us,[]⟩=pure (ps.zip us)):Binds K a ps []:=λs us _ hl=>by
 rw[a8]at hl⊢;exact .of_eq (h us hl)
def Passes (CX:G1)(X:Cx)(E:XK):Prop:=∀a b H s e s',Inv X a b H s->CX X.stack H s E e s'->X.xe e s'
section
variable {X:Cx}{CX:G1}{k:Nat}{f C:Addr}{fd:eB}{ps:Á Str}{sp:Sp}{AS:Á V}{ds:Á Value}{E:XK}{x m:Str}{p pos kr:kU}{e o:Expr}{es:Á Expr}{ta:TE}{t:TA}
def zF (F:hU X.prog X.w X.K X.mg X.base CX k f fd ps sp)(hr:cS k X.A)(i:Binds X.K fd ps ds)(hd:Vals AS ds)(j:Passes CX X E)
  (I:Inv X a d H s) (r:Vals vs us) (h:sp (vs++AS) H Q E):Ü (à X.prog X.w) X.A (call (.ref f) us) (EP X a d Q) X.xe s:=by
 have c:Vals (vs++AS) (us++ds):=r.append hd;have hl:(us++ds).length=ps.length:=by rw[<-c.length];exact F.len _ _ _ _ h
 refine w6 (qk (F.run X.A X.stack s H ⟨us,[]⟩ (us++ds) (vs++AS) Q E hr I.Tp (i s us I.md hl) c h) λr s' b=>?_);cases r with
 |error e=>exact j a d H s e s' I b
 |ok g=>
  cases g with
  |ret u=>exact I.after b
  |next=>exact aJ b
  |brk=>exact aJ b
  |cont=>exact aJ b
def M_ (F:hU X.prog X.w X.K X.mg X.base CX k f fd ps sp)(hr:cS k X.A)(j:Gl X x)(n:X.mg x=À (.ref f)) (l:į X.K (.ref f)=true) (g:Binds X.K fd ps ds)(hd:Vals AS ds)(u:Passes CX X E)
  (d:PA X (e::es) t) (b:(x == ("__debug__":Str))=false:=by decide) (i:Ï (e::es) X.env=(false,Ė e X.env)::Ï es X.env:=by rfl) (c:(Ģ pos (Ï es X.env)).any (·.1)=false:=by rfl) :
  PE X (.Call (.Name x p) (e::es) [] pos) (Kd sp AS E t):=by
 intro a s y H Q I h;refine af (oj I j n ?_ b);refine qh (h₀:=X.base) I.ok.mod.T9 l (aq (d pos a s y H _ I h) λus z v=>iR v λG D B r q=>⟨B.md,?_⟩) i c;exact zF F hr g hd u B r q
def Jz (F:hU X.prog X.w X.K X.mg X.base CX k f fd ps sp)(hr:cS k X.A)(d:Gl X x)(i:X.mg x=À (.ref f)) (g:į X.K (.ref f)=true) (c:Binds X.K fd ps ds)(hd:Vals AS ds)(j:Passes CX X E)
  (a:(x == ("__debug__":Str))=false:=by decide):PE X (.Call (.Name x p) [] [] pos) (Kd sp AS E zN):=by
 intro b s l H Q I h;refine af (oj I d i ?_ a);exact pe I.md g (zF (us:=[]) F hr c hd j I .nil h)
def Nd (L:PE X o ta)(c:Ay X.K C)(i:Meth X.K C m f)(F:hU X.prog X.w X.K X.mg X.base CX k f fd ps sp)(hr:cS k X.A)(J:Binds X.K fd ps ds)(hd:Vals AS ds)(N:Passes CX X E)(z:PA X (e::es) t)
  (g:Ï (e::es) X.env=(false,Ė e X.env)::Ï es X.env:=by rfl) (d:(Ģ pos (Ï es X.env)).any (·.1)=false:=by rfl)
  (M:Ė (.Call (.Attribute o m kr) (e::es) [] pos) X.env=(do
   let j <-Ė o X.env
   jW kr.atName
   let (f,first) <-df [j] (pj j m pl)
   yE pos f first (Ģ pos (Ï (e::es) X.env)) (gz pos (bR [] X.env))):=by rfl) :
  PE X (.Call (.Attribute o m kr) (e::es) [] pos) (Kf C m sp AS E ta t):=by
 intro b s n H Q I h;refine m5 (pl:=pl) (aq (L b s n H _ I h) λu T ⟨x,G,B,P,a,Z,fs,y,v,l,q⟩=>?_) M;subst y;obtain rfl:u=Ò a:=P;refine pC B v c i l ?_;refine qh (first:=[.ref a]) (h₀:=X.base) I.ok.mod.T9 i.kp (aq (z pos b T n G _ B q) λus s2 U=>iR U λvs Y D r O=>⟨D.md,?_⟩) g d;exact zF (us:=.ref a::us) (vs:=.ref a::vs) F hr J hd N D (.cons rfl r) O
def JG (r:PE X o ta)(c:Ay X.K C)(d:Meth X.K C m f)(F:hU X.prog X.w X.K X.mg X.base CX k f fd ps sp)(hr:cS k X.A)(n:Binds X.K fd ps ds)(hd:Vals AS ds)(y:Passes CX X E)
  (v:Ė (.Call (.Attribute o m kr) [] [] pos) X.env=(do
   let g <-Ė o X.env
   jW kr.atName
   let (f,first) <-df [g] (pj g m pl)
   yE pos f first (Ģ pos (Ï [] X.env)) (gz pos (bR [] X.env))):=by rfl) :
  PE X (.Call (.Attribute o m kr) [] [] pos) (Kf C m sp AS E ta zN):=by
 intro b s D H Q I h;refine m5 (pl:=pl) (aq (r b s D H _ I h) λu M ⟨x,G,B,z,a,J,L,j,i,l,q⟩=>?_) v;subst j;obtain rfl:u=Ò a:=z;refine pC B i c d l ?_;exact pe (first:=[.ref a]) B.md d.kp (zF (us:=[.ref a]) (vs:=[.ref a]) F hr n hd y B (.cons rfl .nil) q)
structure Mk (K:É)(C f:Addr):Prop where
 makes:uX K C=true
 init:ą K (.ref C) "__init__"=À (À (.ref f))
 fn:mK K (.ref f)=true
 kp:į K (.ref C)=true
def J1 (M:Mk X.K C f)(F:hU X.prog X.w X.K X.mg X.base CX k f fd ps sp)(hr:cS (k+1) X.A) (n:Binds X.K fd ps ds)(hd:Vals AS ds)
  (q:Passes CX X E) (I:Inv X b i H s) (r:Vals vs us)
  (h:∀x c,H x=none->H c=none->c≠x->sp (.ref x::(vs++AS)) (upd (upd H c (.own x)) x (.ins C c [])) (λv G=>v=.Ğ/\Q (.ref x) G) E) :
  Ü (à X.prog X.w) X.A (call (.ref C) us) (EP X b i Q) X.xe s:=by
 have d:=h (s.heap.objs.size+1) s.heap.objs.size (I.ť.fresh (mw _)) (I.ť.fresh (Î _)) (ò (fc _));have B:=Inv.made (C:=C) I;have g:Vals (V.ref (s.heap.objs.size+1)::(vs++AS)) (Ò (s.heap.objs.size+1)::(us++ds)):=.cons rfl (r.append hd);have hl:(Ò (s.heap.objs.size+1)::us++ds).length=ps.length:=by
  have e:=g.length;rw[F.len _ _ _ _ d]at e;exact e.symm
 refine w6 (IF (f:=f) I.md M.makes M.init (jR.mp M.fn) (qk (F.run _ X.stack _ _ ⟨Ò (s.heap.objs.size+1)::us,[]⟩ (Ò (s.heap.objs.size+1)::(us++ds)) _ _ E (hr.make C us [])
  (B.Tp.make C us []) (n _ (Ò (s.heap.objs.size+1)::us) B.md hl) g d) λr s' a=>?_))
 cases r with
 |error e=>exact q b i _ _ e s' B a
 |ok l=>
  cases l with
  |ret u=>
   obtain⟨v,D,J,rv,j,y⟩:=B.after a;subst j;exact⟨rv,⟨V.ref (s.heap.objs.size+1),D,J,rfl,y⟩⟩
  |next=>exact aJ a
  |brk=>exact aJ a
  |cont=>exact aJ a
def JF (M:Mk X.K C f)(F:hU X.prog X.w X.K X.mg X.base CX k f fd ps sp)(hr:cS (k+1) X.A) (d:Gl X x)(g:X.mg x=À (.ref C)) (c:Binds X.K fd ps ds)(hd:Vals AS ds)(i:Passes CX X E)
  (a:(x == ("__debug__":Str))=false:=by decide):PE X (.Call (.Name x p) [] [] pos) (Vn C sp AS E zN):=by
 intro b s j H Q I h;refine af (oj I d g ?_ a);exact pe I.md M.kp (J1 (us:=[]) M F hr c hd i I .nil h)
end
section
variable {X:Cx}{CX:G1}{k:Nat}{f C:Addr}{fd:eB}{ps ks:Á Str}{sp:Sp}{E:XK}{x m:Str}{p pos kr aad:kU}{e o:Expr}{es:Á Expr}{kws:Á iZ}{te ta:TE}{t tk:TA}{nm:Ð Str}
variable {g:Á Value->Á Value->Á Value}{gV:Á V->Á V->Á V}
end
structure i_ (N P:Á Str)(sc:Scope):Prop where
 kind:sc.kind=.function
 co:sc.isCoroutine=false
 gen:sc.isGenerator=false
 nd:N.Nodup
 pre:N.take P.length=P
 par:∀x∈P,sc.names.lookup x=À .local∨sc.names.lookup x=À .cell
 QS:∀y∈sc.names,y.2≠.free
theorem xK {kindOf:Str->Ð mH}{x:Str}:∀{a:Á (Str×Value)}{m:Str->Ð Value},(∀v,(x,v)∉a)->K9 kindOf a m x=m x
 |[],_,_=>rfl
 |(n,v)::r,m,h=>by
  unfold K9;rw[xK λw hw=>h w (Ċ _ hw)];split
  ·have:x≠n:=by rintro rfl;exact h v Ŀ
   simp[this]
  ·rfl
theorem xI {kindOf:Str->Ð mH}{x:Str}:∀{a:Á (Str×Value)}{m:Str->Ð Value},(∀v,(x,v)∉a)->K8 kindOf a m x=m x
 |[],_,_=>rfl
 |(n,v)::r,m,h=>by
  unfold K8;rw[xI λw hw=>h w (Ċ _ hw)];split
  ·rfl
  ·have:x≠n:=by rintro rfl;exact h v Ŀ
   simp[this]
theorem xJ {kindOf:Str->Ð mH}{x:Str}{v:Value}:∀{P:Á Str}{vs:Á Value}{i:Nat}{m:Str->Ð Value},P.Nodup->P[i]?=À x->vs[i]?=À v->kindOf x=À .local->
  K9 kindOf (P.zip vs) m x=À v
 |[],_,_,_,_,h,_,_=>by simp at h
 |_::_,[],_,_,_,_,h,_=>by simp at h
 |p::P,w::vs,0,m,nd,a,b,c=>by
  simp at a b;subst a;subst b;show K9 kindOf ((p,w)::P.zip vs) m p=_;unfold K9;rw[xK λv d=>(a9.mp nd).1 (xD d).1,Ë c];simp
 |p::P,w::vs,i+1,m,nd,a,b,c=>by
  show K9 kindOf ((p,w)::P.zip vs) m x=_;unfold K9;exact xJ (i:=i) (a9.mp nd).2 (by simpa using a) (by simpa using b) c
theorem xH {kindOf:Str->Ð mH}{x:Str}{v:Value}:∀{P:Á Str}{vs:Á Value}{i:Nat}{m:Str->Ð Value},P.Nodup->P[i]?=À x->vs[i]?=À v->kindOf x≠À .local->
  K8 kindOf (P.zip vs) m x=À v
 |[],_,_,_,_,h,_,_=>by simp at h
 |_::_,[],_,_,_,_,h,_=>by simp at h
 |p::P,w::vs,0,m,nd,a,b,c=>by
  simp at a b;subst a;subst b;show K8 kindOf ((p,w)::P.zip vs) m p=_;unfold K8;rw[xI λv d=>(a9.mp nd).1 (xD d).1,Ñ c];simp
 |p::P,w::vs,i+1,m,nd,a,b,c=>by
  show K8 kindOf ((p,w)::P.zip vs) m x=_;unfold K8;exact xH (i:=i) (a9.mp nd).2 (by simpa using a) (by simpa using b) c
def start (N:Á Str)(vs:Á V):St:=vs.map À++Ö (N.length-vs.length) none
noncomputable def mS (CX:G1)(P:Č)(w:Ī)(K:É)(mg:Str->Ð Value)(base:Heap)(N:Á Str)(qual:Str)(scope:Scope)(f:Addr)(cd:Value)(A:Œ)(outer:Á KS)(s:Ú)(H:Hp)(E:XK):Cx where
 prog:=P
 w:=w
 K:=K
 mg:=mg
 base:=base
 A:=A.deeper (As qual scope s.heap.objs.size f cd)
 N:=N
 jV:=s
 xa:=H
 env:=As qual scope s.heap.objs.size f cd
 outer:=outer
 stack:=As qual scope s.heap.objs.size f cd::outer
 ex:=[]
 calm:=true
 fn:=λ_=>true
 pn:=[]
 xe:=λe s'=>Ü (à P w) (A.deeper (As qual scope s.heap.objs.size f cd)) (leaving (As qual scope s.heap.objs.size f cd) e) (λ_ X'=>CX outer H s E e X') (λe' X'=>CX outer H s E e' X') s'
def AI {a:Scope}{n:Nat}{x:Str}(h:a.names.lookup x=À .cell):∃c,(bS n a.names []).lookup x=À c:=by
 have q:=mJ a.names n [] (.inl h);exact cg.mp q
def FL {CX:G1}{P:Č}{w:Ī}{K:É}{mg:Str->Ð Value}{base:Heap}{N ps:Á Str}{d:Str}{scope:Scope}{f:Addr}{t:Value}{A:Œ}{outer:Á KS}{s s1:Ú}{H:Hp}{E:XK}{us:Á Value}{vs:Á V}
  (S:i_ N ps scope) (hd:A.handled=none) (j:Ck P w K mg base A outer s H) (hl:vs.length=ps.length) (r:Vals vs us)
  (x:InCallC s s.heap.objs.size (K9 (As d scope s.heap.objs.size f t).kindOf (ps.zip us) λ_=>none) (bS (s.heap.objs.size+1) scope.names []) (K8 (As d scope s.heap.objs.size f t).kindOf (ps.zip us) λ_=>none) s1) :
  Inv (mS CX P w K mg base N d scope f t A outer s H E) [] (start N vs) H s1:=by
 have G:ps.length<=N.length:=by have:=Ĳ b_ S.pre;rw[Ř]at this;lia
 obtain⟨B,J,rfl,D⟩:=x.done;have l:∀b:Addr,b∉(mS CX P w K mg base N d scope f t A outer s H E).ex:=λb z=>absurd (show b∈([]:Á Addr)from z) (by simp);refine⟨⟨j.mod,S.kind,rfl,rfl,Î _,λy z c B g=>?_,λy hy=>?_,λy c _ h=>?_,λ_=>hd,Around.frames_deeper j.frames,.inr ⟨rfl,rfl⟩,λb z=>absurd z (l b),j.bs,j.Fo,λb _ _=>l b,λb z=>absurd z (l b),j.pA,j.Lj⟩,
  rfl,j.bare,Un.kept D,⟨_,x.toInCall.ns,λi y v B g I=>?_⟩,λy c h=>⟨_,x.cell y c h⟩,j.ť.fresh (Î _),λy c h=>?_,λp m=>absurd (show p∈([]:Á (Addr×Obj))from m) (by simp),j.ť.kept D,?_⟩
 ·exact name_of_addr x.apart (fe B) (fe g)
 ·have hy:scope.names.lookup y=À .cell∨scope.names.lookup y=À .free:=hy;rcases hy with hy|hy
  ·exact AI hy
  ·exact absurd rfl (S.QS _ (fe hy))
 ·exact Ġ (x.above y c (fe h))
 ·have C:i<vs.length:=by
   unfold start at g;by_cases C:i<vs.length
   ·exact C
   ·rw[á (by simpa using C)]at g;rw[mY]at g;split at g<;>cases g
  have F:vs[i]?=À v:=by
   unfold start at g;rw[Ý (by simpa using C),é]at g;cases e:vs[i]? with
   |none=>rw[e]at g;cases g
   |some a=>rw[e]at g;cases g;rfl
  obtain⟨u,hu,rv⟩:=r.get F;have m:ps[i]?=À y:=by
   rw[<-S.pre,Ű (by lia)];exact B
  have o:ps.Nodup:=by rw[<-S.pre];exact S.nd.sublist (uy _ _)
  refine⟨u,rv,?_⟩;rcases S.par y (ý m)with k|k
  ·exact .inl ⟨k,xJ o m hu k⟩
  ·obtain⟨c,e⟩:=AI (n:=s.heap.objs.size+1) k;refine .inr ⟨.inl k,c,e,?_⟩;have q:=x.cell y c e;rw[xH o m hu (by show scope.names.lookup y≠_;rw[k];decide)]at q;exact q
 ·exact j.ť.fresh (Ġ (x.above y c (fe h)))
 ·unfold start;show _=N.length;rw[Ă,Ê,E3];lia
def Oj {CX:G1}{P:Č}{w:Ī}{K:É}{mg:Str->Ð Value}{base:Heap}{k:Nat}{f:Addr}{name a:Str}{d:Arguments}{body:Á Stmt}{scope:Scope}{O kV l T c ct oc:Value}{L od:Ð Addr}
  {F:ę (Ð Value)}{N ps:Á Str}{sp:Sp}(lk:K.lookup f=À ⟨oc,od,.func (ō name a d body scope O kV l T L c ct),F⟩) (C:dN K c a=true) (S:i_ N ps scope)
  (B:∀vs H Q E,sp vs H Q E->vs.length=ps.length)
  (h:∀A outer s H vs Q E,cS k (A.deeper (As a scope s.heap.objs.size f c))->sp vs H Q E->
   ∃t,m8 (mS CX P w K mg base N a scope f c A outer s H E) body t/\t {nx:=λ_ H'=>Q .Ğ H',rt:=Q} (start N vs) H) :
  hU P w K mg base CX (k+1) f (ō name a d body scope O kV l T L c ct) ps sp:=by
 refine⟨B,λA outer s H M us vs Q E hr m Z r z=>?_⟩;have hl:=B _ _ _ _ z;have G:K.In s.heap:=m.mod.T9.keeps λb o e=>(m.bs b o e).1;have D:s.heap.NoLimit:=m.mod.nolimit.keeps λb o e=>(m.bs b o e).1;have i:∀y∈ps.zip us,scope.names.lookup y.1=À .local∨(scope.names.lookup y.1=À .cell/\((bS (s.heap.objs.size+1) scope.names []).lookup y.1).isSome=true):=λ⟨n,v⟩ hy=>by
  rcases S.par n (xD hy).1 with q|q
  ·exact .inl q
  ·exact .inr ⟨q,mJ _ _ _ (.inl q)⟩
 refine codeAny_call_function hr.depth (G _ _ lk) rfl S.co S.gen rfl (PySem.W.codeRec_of G C) (Z _ _ _ _ ?_);refine wpAny_newFunctionEnv_cells S.kind i λX he U x=>?_;subst he;refine⟨D.keeps x.toInCall.keep,codeAny_func ?_⟩;obtain⟨t,ht,hq⟩:=h A outer s H vs Q E (hr.deeper _) z;have I:Inv (mS CX P w K mg base N a scope f c A outer s H E) [] (start N vs) H U:=FL S hr.hd m hl r x;refine aE (ht [] U (start N vs) H _ I hq) (λY s' j=>?_) λe s' j=>j;have p:∀{g:St}{H':Hp}{v:V}{u:Value},Inv (mS CX P w K mg base N a scope f c A outer s H E) [] g H' s'->RelV v u->Q v H'->CE outer P w H s Q u s':=
  λ{g H' v u} J rv q=>⟨v,H',J.os,J.bare,J.base,J.ť,rv,q⟩
 cases Y with
 |ret u=>
  obtain⟨v,g,H',J,rv,q⟩:=j;exact p J rv q
 |next=>
  obtain⟨g,H',J,q⟩:=j;exact p (v:=V.Ğ) (u:=õ) J rfl q
 |brk=>
  obtain⟨_,_,_,q⟩:=j;exact aJ q
 |cont=>
  obtain⟨_,_,_,q⟩:=j;exact aJ q
section
variable {X:Cx}{x:Str}{p pos:kU}{e:Expr}{es:Á Expr}{t:TA}{id T:String}{r:Á V->Hp->VK->Prop}
def SE (r:Á V->Hp->VK->Prop)(t:TA):TE:=λb H Q=>t b H λa A=>r a A Q
def cZ (g:bz X (.builtin id) r) (j:Gl X x)(k:X.mg x=none)(m:İ x=À (.builtin id)) (f:PA X (e::es) t) (l:x≠"__name__":=by decide)(b:(x == ("__debug__":Str))=false:=by decide)
  (i:Ï (e::es) X.env=(false,Ė e X.env)::Ï es X.env:=by rfl) (c:(Ģ pos (Ï es X.env)).any (·.1)=false:=by rfl):PE X (.Call (.Name x p) (e::es) [] pos) (SE r t):=by
 intro a s d H Q I h;refine af (pE I j k m ?_ l b);exact YO (aq (f pos a s d H _ I h) λus q v=>iR v λu A B o n=>g a q d A u us Q B o n) i c
def F' (g:bz X (.type T) r) (j:Gl X x)(k:X.mg x=none)(m:İ x=À (.type T)) (f:PA X (e::es) t) (l:x≠"__name__":=by decide)(b:(x == ("__debug__":Str))=false:=by decide)
  (i:Ï (e::es) X.env=(false,Ė e X.env)::Ï es X.env:=by rfl) (c:(Ģ pos (Ï es X.env)).any (·.1)=false:=by rfl):PE X (.Call (.Name x p) (e::es) [] pos) (SE r t):=by
 intro a s d H Q I h;refine af (pE I j k m ?_ l b);exact cQ (aq (f pos a s d H _ I h) λus q v=>iR v λu A B o n=>g a q d A u us Q B o n) i c
end
end L2
namespace HT
open PySem PyProof.Rows
section
open PySem.SeqAt
open PySem.AutoSeq1 (wpAny_loadPart')
open PySem.MeetsSeq PySem.MeetsSeq2 PySem.MeetsSeq3
end
section
variable {prog:Č}{w:Ī}{A:Œ}{E:Value->Ú->Prop}{s:Ú}
def LK (u:KW s.heap t vs.toArray)(r:KW s.heap b ws.toArray)(l:vs≠[])
  (p:ws=[]->Q (.ref t) s) (q:ws≠[]->Q (.ref s.heap.objs.size) {s with heap:=s.heap.push {cls:=.type "tuple",data:=.seq (vs++ws).toArray}})
  (hsz:vs.length+ws.length<=sizeLine):Ü (à prog w) A (a' .Add (.ref t) (.ref b)) Q E s:=by
 obtain⟨⟨cls,j,data,o⟩,h,k,n,hd⟩:=id u;obtain⟨⟨i,c,data2,g⟩,a,d,m,f⟩:=id r;simp only at k hd d f;subst k hd d f;have e:vs.toArray++ws.toArray=(vs++ws).toArray:=by simp
 by_cases hw:ws=[]
 ·exact Lx ⟨_,h,rfl⟩ ⟨_,a,rfl⟩ Au GX mI lL (k8 _ _)
   (tuple_addW1 t b vs.toArray ws.toArray n m j c o g (by simpa using l) (by simp[hw])) ⟨h,a,p hw⟩
 ·refine Lx ⟨_,h,rfl⟩ ⟨_,a,rfl⟩ Au GX mI lL (k8 _ _)
   (tuple_addW2 t b vs.toArray ws.toArray n m j c o g (by simpa using l) (by simpa using hw) (by rw[Û,Û];exact hsz)) ⟨h,a,?_⟩
  rw[e];exact q hw
noncomputable def dt (n d:Nat):Ð Int->Nat
 |none=>d
 |some v=>if v<0 then (v+(n:Int)).toNat else min v.toNat n
def J4 (n d:Nat):dt n d none=d:=rfl
def NH (n d k:Nat):dt n d (À (k:Int))=min k n:=by
 show(if (k:Int)<0 then ((k:Int)+(n:Int)).toNat else min (k:Int).toNat n)=min k n;rw[Ñ (by lia),a7]
def RN (n d:Nat)(hd:d<=n)(o:Ð Int):dt n d o<=n:=by
 cases o with
 |none=>exact hd
 |some v=>
  show(if v<0 then (v+(n:Int)).toNat else min v.toNat n)<=n;by_cases a:v<0
  ·rw[Ë a];lia
  ·rw[Ñ a];exact Nat.min_le_right _ _
def DR (v:Int)(n d:Nat):(if v<0 then max (v+(n:Int)) 0 else min v (n:Int))=((dt n d (À v):Nat):Int):=by
 show(if v<0 then max (v+(n:Int)) 0 else min v (n:Int))=(((if v<0 then (v+(n:Int)).toNat else min v.toNat n):Nat):Int)
 by_cases a:v<0
 ·simp only[Ë a];lia
 ·simp only[Ñ a];lia
def Co (lo a:Ð Int)(n:Nat):iY lo a 1 (n:Int)=(((dt n 0 lo:Nat):Int),((dt n n a:Nat):Int)):=by
 have b:¬((1:Int)<0):=by lia
 unfold iY;simp only[b,fz];refine qa ?_ ?_
 ·cases lo with
  |none=>rfl
  |some v=>exact DR v n 0
 ·cases a with
  |none=>rfl
  |some v=>exact DR v n n
def C9 (i j:Nat):dm (i:Int) (j:Int) 1=j-i:=by
 unfold dm;have a:(1:Int) > 0:=by lia
 simp only[a,fI,Int.ediv_one];split<;>lia
def wc (p:tV v o)(h:Q o s):Ü (à prog w) A (Wz v) Q E s:=by
 cases p with
 |none=>exact slicePart_none h
 |int i t=>exact slicePart_int h
def lC {f:Addr}{d e:Value}{lo b:Ð Int}{n:Nat}{Q:Int×Int×Nat->Ú->Prop}(i:s.heap.IsSliceOf f d e .none)(pl:tV d lo)(j:tV e b)
  (h:Q (((dt n 0 lo:Nat):Int),1,dt n n b-dt n 0 lo) s):Ü (à prog w) A (qZ (.ref f) (pure (n:Int))) Q E s:=by
 obtain⟨os,c,g,a⟩:=id i;unfold qZ Wy;refine Â (Â (ń c a (x:=d) rfl (Â (ń c a (x:=e) rfl (Â (ń c a (x:=.none) rfl (Ì ?_)))))));refine Â (slicePart_none ?_);show Ü _ _ (if ((1:Int) == 0)=true then _ else _) _ _ s;rw[Ñ (by decide)];refine Â (wc pl (Â (wc j (Â (Ì ?_)))));show Ü _ _ (match iY lo b 1 (n:Int)with|(lo,b)=>pure (lo,(1:Int),dm lo b 1)) _ _ s;rw[Co lo b n];show Ü _ _ (pure (((dt n 0 lo:Nat):Int),(1:Int),dm ((dt n 0 lo:Nat):Int) ((dt n n b:Nat):Int) 1)) _ _ s;rw[C9];exact Ì h
def JL (xs:ę Value)(i k:Nat):((ø k).filterMap λ(m:Nat)=>xs[((i:Int)+(m:Int)*1).toNat]?).toArray=((xs.toList.drop i).take k).toArray:=by
 have e:(λ(m:Nat)=>xs[((i:Int)+(m:Int)*1).toNat]?)=λm=>xs[i+m]?:=by
  funext m;have:((i:Int)+(m:Int)*1).toNat=i+m:=by lia
  rw[this]
 rw[e];have:=pick_run xs i k;rw[List.filterMap_map]at this;have a:((λx=>xs[x]?) ∘ λx=>i+x)=λm=>xs[i+m]?:=rfl;rw[a]at this;rw[this]
def qv {t i:Addr}{items:ę Value}{k l:Value}{lo b:Ð Int}{Q:Value->Ú->Prop}(c:KW s.heap t items)(j:s.heap.IsSliceOf i k l .none)(pl:tV k lo)(o:tV l b)
  (hw:¬(dt items.size 0 lo=0/\dt items.size items.size b=items.size))
  (h:Q (.ref s.heap.objs.size) {s with heap:=s.heap.push {cls:=.type "tuple",data:=.seq ((items.toList.drop (dt items.size 0 lo)).take (dt items.size items.size b-dt items.size 0 lo)).toArray}})
  (hsz:items.size<=sizeLine):Ü (à prog w) A (n4 (.ref t) (.ref i)) Q E s:=by
 have a:sizeOk (.seq ((items.toList.drop (dt items.size 0 lo)).take (dt items.size items.size b-dt items.size 0 lo)).toArray):=by
  show((items.toList.drop (dt items.size 0 lo)).take (dt items.size items.size b-dt items.size 0 lo)).toArray.size<=sizeLine;rw[Û,Ř,N_,ĳ];lia
 have p:dt items.size items.size b<=items.size:=RN _ _ (Î _) b;obtain⟨os,g,e,n⟩:=id j;have d:s.TypeIs (.ref i) "slice":=⟨os,g,e⟩
 unfold n4;try with_reducible refine ő ?_
 first|refine Â (Ì ?_)|skip
 refine Â (VX c.typeIs (by decide) ?_);refine Â (ķ (name:=æ "__getitem__") c.typeIs ř
  (Ĩ ř c.typeIs Sn ?_ (SS _ _)))
 show Ü _ _ (q_ (.ref t) >>= _) _ _ s;refine Â (tupleItemsOf_ c ?_);refine Â (yL d ?_);rw[Ë (by decide)];refine Â (lC j pl o ?_);have f:¬((((dt items.size 0 lo:Nat):Int) == 0&&(1:Int) == 1&&(dt items.size items.size b-dt items.size 0 lo) == items.size)=true):=by
  intro q;rw[ċ,ċ]at q;have r:((dt items.size 0 lo:Nat):Int)=0:=eq_of_beq q.1.1;have u:dt items.size items.size b-dt items.size 0 lo=items.size:=eq_of_beq q.2;exact hw ⟨by lia,by lia⟩
 show Ü _ _ (if (((dt items.size 0 lo:Nat):Int) == 0&&(1:Int) == 1&&(dt items.size items.size b-dt items.size 0 lo) == items.size)=true then _ else _) _ _ s;rw[Ñ f,JL];first
  |exact Â (m:=dG _) (Š (Ì ⟨_,rfl,Ì h⟩) a)
  |exact Â (m:=dG _) (Š (Â (Ì (Ì ⟨_,rfl,Ì h⟩))) a)
  |exact Â (Â (m:=dG _) (Š (Ì (Ì ⟨_,rfl,Ì h⟩)) a))
  |exact Â (Â (m:=dG _) (Š (Ì ⟨_,rfl,Ì h⟩) a))
end
end HT
namespace L2
open PySem PySem.Spec PyProof.Rows
abbrev TO:=St->Hp->(Ð Int->Hp->Prop)->Prop
def PO (X:Cx)(e:Ð Expr)(t:TO):Prop:=
 ∀a s b H Q,Inv X a b H s->t b H Q->
  Ü (à X.prog X.w) X.A (evalPart e X.env) (λu s'=>∃o B,Inv X a b B s'/\tV u o/\Q o B) X.xe s
def NT:TO:=λ_ H Q=>Q none H
def Vs (t:TE):TO:=λa H Q=>t a H λx A=>∃i,x=.int i/\Q (À i) A
def intsAre_of:∀{us:Á Value},Vals (ns.map V.int) us->ux us ns:=by
 induction ns with
 |nil=>intro us r;rw[Ų]at r;cases r;exact .nil
 |cons n ns a=>
  intro us r;rw[Ô]at r;cases r with
  |cons b c=>
   obtain⟨t,e⟩:=b;subst e;exact .cons n t (a c)
section
variable {X:Cx}{e:Expr}{te:TE}{lo hi:Ð Expr}{tl th:TO}{pos p2:kU}
def Np:PO X none NT:=by
 intro a s b H Q I h;rw[evalPart_none];exact Ì ⟨none,H,I,.none,h⟩
def Nq (h:PE X e te):PO X (À e) (Vs te):=by
 intro a s f H Q I hw;rw[evalPart_some];refine aq (h a s f H _ I hw) λu g d=>iR d λx A B c b=>?_;obtain⟨i,rfl,q⟩:=b;obtain⟨t,rfl⟩:=c;exact⟨À i,A,B,.int i t,q⟩
def S3 (X:Cx)(r:V->Ð Int->Ð Int->Hp->VK->Prop):Prop:=
 ∀a s f H x v c d lo hi b Q,Inv X a f H s->RelV x v->s.heap.IsSliceOf b c d .none->tV c lo->tV d hi->r x lo hi H Q->
  ∃T id,typeLookup (.type T) "__getitem__"=pure (À (.builtin id))/\s.TypeIs v T/\Ü (à X.prog X.w) X.A (n4 v (.ref b)) (EP X a f Q) X.xe s
def tSl (r:V->Ð Int->Ð Int->Hp->VK->Prop)(te:TE)(tl th:TO):TE:=λa H Q=>te a H λx A=>tl a A λl B=>th a B λu C=>r x l u C Q
def JH (hr:S3 X r)(k:PE X e te)(hl:PO X lo tl)(hu:PO X hi th):PE X (.Subscript e (.Slice lo hi none p2) pos) (tSl r te tl th):=by
 intro a s d H Q I h;refine E8 (aq (k a s d H _ I h) λv M f=>iR f λx C E L t=>?_);refine wpAny_Slice (aq (hl a M d C _ E t) λg N f=>iR f λl D F o y=>aq (hu a N d D _ F y) λi c f=>iR f λu B G p z=>?_);rw[evalPart_none];refine Ì ?_;have J:Inv X a d B {c with heap:=c.heap.push {cls:=.type "slice",data:=.fields #[g,i,.none]}}:=G.kept (t':=c.toks) λb O q=>Ä _ q;obtain⟨T,id,j,n,m⟩:=hr a {c with heap:=c.heap.push {cls:=.type "slice",data:=.fields #[g,i,.none]}} d B x v g i l u c.heap.objs.size Q J L (VD ..) o p z;show Ü (à X.prog X.w) X.A (GY e (.Slice lo hi none p2) v (.ref c.heap.objs.size)) (EP X a d Q) X.xe {c with heap:=c.heap.push {cls:=.type "slice",data:=.fields #[g,i,.none]}};exact tail_any (ops:=[.ref c.heap.objs.size,v]) n j m (by with_unfolding_all rfl)
def vd (xs:Á V)(lo hi:Ð Int):Á V:=(xs.drop (HT.dt xs.length 0 lo)).take (HT.dt xs.length xs.length hi-HT.dt xs.length 0 lo)
def sV (xs:Á V)(lo hi:Ð Int):(vd xs lo hi).length<=xs.length:=by
 unfold vd;rw[Ř,N_];lia
def X8 (K:É):V->Ð Int->Ð Int->Hp->VK->Prop:=λx lo hi H Q=>∃a xs,x=.ref a/\gq K H a xs/\
 ¬(HT.dt xs.length 0 lo=0/\HT.dt xs.length xs.length hi=xs.length)/\∀p,H p=none->Q (.ref p) (upd H p (.tup (vd xs lo hi)))
def RU:S3 X (X8 X.K):=by
 intro i s y H x v u w lo hi t Q I n j l m h;obtain⟨a,xs,rfl,k,hw,q⟩:=h;cases n;obtain⟨d,r,f,g⟩:=I.tuple k;have c:d.toArray.size=xs.length:=by rw[Û];exact r.length.symm
 refine⟨"tuple",_,ř.lookup,f.typeIs,?_⟩;refine HT.qv f j l m (by rw[c];exact hw) ?_ (by rw[c];exact g);rw[c];refine⟨.ref s.heap.objs.size,_,I.laid (t':=s.toks) (o:=.tup (vd xs lo hi)) (λb p q=>Ä _ q) (Î _) ?_,rfl,q _ (I.ť.fresh (Î _))⟩;exact⟨đ (sV xs lo hi) g,_,(r.drop (HT.dt xs.length 0 lo)).take (HT.dt xs.length xs.length hi-HT.dt xs.length 0 lo),uR _ _⟩
def U7 (K:É):R2:=λx y H Q=>∃a b xs c,x=.ref a/\y=.ref b/\gq K H a xs/\gq K H b c/\xs≠[]/\xs.length+c.length<=sizeLine/\
 (c=[]->Q (.ref a) H)/\(c≠[]->∀p,H p=none->Q (.ref p) (upd H p (.tup (xs++c))))
def Vals.uK (r:Vals xs us):us=[] ↔ xs=[]:=by
 cases r with
 |nil=>simp
 |cons _ _=>simp
def M7:jj X (a' .Add) (U7 X.K):=by
 intro i s D H x y v u Q I t A h;obtain⟨a,b,xs,B,rfl,rfl,j,k,l,f,p,r⟩:=h;cases t;cases A;obtain⟨m,d,n,_⟩:=I.tuple j;obtain⟨g,c,p2,_⟩:=I.tuple k;refine HT.LK n p2 (λz=>l (d.uK.mp z)) (λz=>⟨.ref a,H,I,rfl,p (c.uK.mp z)⟩) (λz=>?_) (by rw[<-d.length,<-c.length];exact f);refine⟨.ref s.heap.objs.size,_,I.laid (t':=s.toks) (o:=.tup (xs++B)) (λb C q=>Ä _ q) (Î _) ?_,rfl,r (λw=>z (c.uK.mpr w)) _ (I.ť.fresh (Î _))⟩;exact⟨by rw[Ă];exact f,_,d.append c,uR _ _⟩
end
noncomputable def Eg (n:Nat)(i:Int):Ð Nat:=if 0<=i then (if i<n then À i.toNat else none)else if -(n:Int)<=i then À (i+n).toNat else none
def ku {α:Type}(xs:Á α)(i:Int):Ð α:=(Eg xs.length i).bind λj=>xs[j]?
def zm (h:Eg n i=À j):Av i n=À j/\j<n/\-(n:Int)<=i/\i<n:=by
 unfold Eg at h;by_cases b:0<=i
 ·rw[Ë b]at h;by_cases a:i<n
  ·rw[Ë a]at h;have e:i.toNat=j:=è h;exact⟨by rw[O1 b a,e],by lia,by lia,a⟩
  ·rw[Ñ a]at h;cases h
 ·rw[Ñ b]at h;by_cases a:-(n:Int)<=i
  ·rw[Ë a]at h;have e:(i+n).toNat=j:=è h;exact⟨by rw[seqIndex_neg (by lia) a,e],by lia,a,by lia⟩
  ·rw[Ñ a]at h;cases h
def yR (h:ku xs i=À v):∃j,Av i xs.length=À j/\xs[j]?=À v/\j<xs.length/\-(xs.length:Int)<=i/\i<xs.length:=by
 unfold ku at h;cases e:Eg xs.length i with
 |none=>rw[e]at h;cases h
 |some j=>
  rw[e]at h;obtain⟨a,b,c,d⟩:=zm e;exact⟨j,a,h,b,c,d⟩
def j3 {α:Type}{xs:Á α}{j:Nat}{v:α}(h:xs[j]?=À v):ku xs (j:Int)=À v:=by
 have a:j<xs.length:=(Ç.mp h).1;have e:Eg xs.length (j:Int)=À j:=by
  unfold Eg;rw[Ë (by lia),Ë (by lia)];simp
 unfold ku;rw[e];exact h
def DK (b:Expr):Prop:=∀o i,B7 b false o i=operate [o,i] (n4 o i)
def Sv (X:Cx)(r:R2):Prop:=
 ∀c a b s d H x y v u Q,Inv X b d H s->RelV x v->RelV y u->r x y H Q->
  B7 a false v u=operate [v,u] (n4 v u)->Ü (à X.prog X.w) X.A (GY c a v u) (EP X b d Q) X.xe s
def GP (X:Cx)(id:String)(r:V->Á V->Hp->VK->Prop):Prop:=
 ∀a s b H x xs v us Q,Inv X a b H s->RelV x v->Vals xs us->r x xs H Q->
  Ü (à X.prog X.w) X.A (call (.builtin id) (v::us)) (EP X a b Q) X.xe s
section
variable {X:Cx}{a b:Expr}{ta tb:TE}{pos:kU}
def U0 (hr:Sv X r)(d:PE X a ta)(e:PE X b tb)(f:DK b):PE X (.Subscript a b pos) (Vq r ta tb):=by
 intro c s k H Q I h;exact E8 (Pf d e I h λv u j x y A B g i q=>hr a b c j k A x y v u Q B g i q (f _ _))
def X3 (K:É):R2:=λx y H Q=>∃p xs i v,x=.ref p/\y=.int i/\fC K H p xs/\ku xs i=À v/\Q v H
def X5 (K:É):R2:=λx y H Q=>∃p xs i v,x=.ref p/\y=.int i/\gq K H p xs/\ku xs i=À v/\Q v H
def X4:R2:=λx y H Q=>∃z i c,x=.str z/\y=.int i/\z.length<=sizeLine/\ku z.cps.toList i=À c/\Q (.str ⟨#[c]⟩) H
def Eh:Sv X (X3 X.K):=by
 intro n m c s C H x y v u Q I L M h B;obtain⟨p,xs,i,z,rfl,rfl,J,G,q⟩:=h;cases L;obtain⟨t,rfl⟩:=M;obtain⟨g,r,k,P⟩:=I.list J;obtain⟨j,e,D,N,E,F⟩:=yR G;obtain⟨w,o,l⟩:=r.get D;have hl:=r.length;have O:=nI;have d:EP X c C Q w s:=⟨z,H,I,l,q⟩
 by_cases A:0<=i
 ·have f:i.toNat=j:=by
   rw[O1 A F]at e;exact è e
  exact item_listR k.isList A (by lia) (by rw[f];simpa using o) d B
 ·have f:(i+(g.toArray.size:Int)).toNat=j:=by
   rw[seqIndex_neg (by lia) E]at e;rw[Û,<-hl];exact è e
  exact qm (x:=w) k.isList.typeIs VN.lookup
   (wpAny_getItem_list_neg (Q:=λr s'=>r=w/\EP X c C Q r s') k.isList (by lia) (by rw[Û]<;>lia) (by lia) (by rw[f];simpa using o) ⟨rfl,d⟩) B
def P4:Sv X (X5 X.K):=by
 intro g f c s l H x y v u Q I E F h C;obtain⟨p,xs,i,z,rfl,rfl,B,A,q⟩:=h;cases E;obtain⟨t,rfl⟩:=F;obtain⟨D,r,k,N⟩:=I.tuple B;obtain⟨j,n,o,G,J,L⟩:=yR A;obtain⟨w,m,e⟩:=r.get o;have hl:=r.length;have M:=nI;have d:EP X c l Q w s:=⟨z,H,I,e,q⟩
 exact qm (x:=w) k.typeIs SW.lookup
  (getItem_tuple (j:=j) (Q:=λr s'=>r=w/\EP X c l Q r s') k (by lia) (by lia) (by rw[Û,<-hl];exact n) (by simpa using m) ⟨rfl,d⟩) C
def P2:Sv X X4:=by
 intro e d g s F H x y v u Q I w A h r;obtain⟨z,i,c,rfl,rfl,D,p,q⟩:=h;obtain⟨t,rfl⟩:=w;obtain⟨E,rfl⟩:=A;obtain⟨j,f,m,B,n,o⟩:=yR p;have hl:z.cps.toList.length=z.length:=by simp[Str.length]
 rw[hl]at f n o;have C:=nI;exact tail_any (typeIs_str s z t) slot_str_getitem.lookup (getItem_str (c:=c) (by
  have k:decide (i < -(2^63:Int))=false:=â (by lia);have l:decide (i≥2^63)=false:=â (by lia);rw[k,l,SF]) (by rw[f];simpa using m) ⟨.str ⟨#[c]⟩,H,I.tok _,⟨_,rfl⟩,q⟩) r
def CS (its:Á Value)(n j:Nat)(u:Value):û (·.setIfInBounds j u) {cls:=.type "list",data:=.seq its.toArray n}={cls:=.type "list",data:=.seq (its.set j u).toArray n}:=by
 simp[û]
theorem Inv.lst {c:Á (Addr×Obj)}{d:St}{H:Hp}{s:Ú}{p:Addr}{xs:Á V}(I:Inv X c d H s)(h:H p=À (.lst xs)) :
  ∃its n,Vals xs its/\s.heap.get? p=À {cls:=.type "list",data:=.seq its.toArray n}/\xs.length<=sizeLine:=by
 obtain⟨z,its,n,r,e⟩:=I.ť p _ h;exact⟨its,n,r,e,z⟩
def Inv.Qd {c:Á (Addr×Obj)}{i:St}{H:Hp}{s:Ú}{p:Addr}{xs ys:Á V}{its its':Á Value}{n d:Nat}{f:Obj->Obj}(I:Inv X c i H s)(h:H p=À (.lst xs))
  (k:s.heap.get? p=À {cls:=.type "list",data:=.seq its.toArray n}) (g:f {cls:=.type "list",data:=.seq its.toArray n}={cls:=.type "list",data:=.seq its'.toArray d}) (r:Vals ys its') (hz:ys.length<=sizeLine) (t:Nat) :
  Inv X c i (upd H p (.lst ys)) {s with heap:=s.heap.update p f,toks:=t}:=by
 have e:(s.heap.update p f).get? p=À {cls:=.type "list",data:=.seq its'.toArray d}:=by
  rw[Ą f k (by rw[g]<;>rfl),g]
 refine I.write (x:=p) (e:=p) (by rw[h];trivial) (.inl rfl) (λb u j q=>(ê _ _ (Ō j)).trans q) ⟨_,e⟩ ?_;exact⟨hz,its',d,r,e⟩
def U':V->V->V->Hp->(Hp->Prop)->Prop:=λo i v H Q=>∃p xs k j,o=.ref p/\i=.int k/\H p=À (.lst xs)/\Eg xs.length k=À j/\Q (upd H p (.lst (xs.set j v)))
def set_list:O_ X U':=by
 intro d s D H o i v J G u Q I C B rv h;obtain⟨p,xs,k,j,rfl,rfl,x,y,q⟩:=h;cases C;obtain⟨t,rfl⟩:=B;obtain⟨c,n,r,g,z⟩:=I.lst x;obtain⟨e,E,m,w⟩:=zm y;have hl:=r.length;have F:=nI;have A:Inv X d D (upd H p (.lst (xs.set j v))) {s with heap:=s.heap.update p (û (·.setIfInBounds j u))}:=
  I.Qd x g (CS c n j u) (r.set rv j) (by rw[Ť];exact z) s.toks
 by_cases l:0<=k
 ·have f:k.toNat=j:=by
   rw[O1 l w]at e;exact è e
  exact PySem.W.ki_setAt g l (by lia) (by rw[Û,<-hl];exact w) (by rw[f];exact⟨_,A,q⟩)
 ·have f:(k+(c.toArray.size:Int)).toNat=j:=by
   rw[seqIndex_neg (by lia) m]at e;rw[Û,<-hl];exact è e
  exact PySem.W.ki_setBack g (by lia) (by rw[Û,<-hl];exact m) (by lia) (by rw[f];exact⟨_,A,q⟩)
def zH (lo c:Ð Int)(n:Nat):(kn lo c none n).1=((HT.dt n 0 lo:Nat):Int)/\(kn lo c none n).2.1=((HT.dt n n c:Nat):Int)/\(kn lo c none n).2.2=1:=by
 refine⟨?_,?_,rfl⟩
 ·cases lo with
  |none=>simp[kn,HT.dt]
  |some i=>
   simp only[kn,HT.dt,K6,show(1:Int) > 0 by decide,fI];by_cases h:i<0
   ·simp only[h,fI]<;>lia
   ·simp only[h,fz]<;>lia
 ·cases c with
  |none=>simp[kn,HT.dt]
  |some i=>
   simp only[kn,HT.dt,K6,show(1:Int) > 0 by decide,fI];by_cases h:i<0
   ·simp only[h,fI]<;>lia
   ·simp only[h,fz]<;>lia
def xx (its:Á Value)(lo c:Ð Int):slicePick its.toArray lo c none=((its.drop (HT.dt its.length 0 lo)).take (HT.dt its.length its.length c-HT.dt its.length 0 lo)).toArray:=by
 obtain⟨d,e,f⟩:=zH lo c its.toArray.size;unfold slicePick;rw[d,e,f];simp only[sliceRange_one,pick_run,Û]<;>rfl
def X7 (K:É):V->Ð Int->Ð Int->Hp->VK->Prop:=λx lo c H Q=>∃a xs,x=.ref a/\fC K H a xs/\∀p,H p=none->Q (.ref p) (upd H p (.lst (vd xs lo c)))
def EL:S3 X (X7 X.K):=by
 intro f s y H x v u w lo d t Q I n g l m h;obtain⟨a,xs,rfl,i,q⟩:=h;cases n;obtain⟨k,r,e,j⟩:=I.list i;have c:=r.length;refine⟨"list",_,VN.lookup,e.isList.typeIs,?_⟩;refine wpAny_getItem_list_slice e.isList g l m .none (by simp) ?_ (by rw[Û]<;>lia);rw[xx,<-c];refine⟨.ref s.heap.objs.size,_,I.laid (t':=s.toks) (o:=.lst (vd xs lo d)) (λb p q=>Ä _ q) (Î _) ?_,rfl,q _ (I.ť.fresh (Î _))⟩;exact⟨đ (sV xs lo d) j,_,0,(r.drop (HT.dt xs.length 0 lo)).take (HT.dt xs.length xs.length d-HT.dt xs.length 0 lo),Ù _ rfl⟩
def qt:V->Bool
 |.Ğ=>true
 |.bl _=>true
 |.int _=>true
 |.str _=>true
 |_=>false
def kG:V->V->Bool
 |.Ğ,.Ğ=>true
 |.bl a,.bl b=>a == b
 |.bl a,.int b=>(if a then 1 else 0) == b
 |.int a,.bl b=>a == (if b then 1 else 0)
 |.int a,.int b=>a == b
 |.str a,.str b=>a == b
 |_,_=>false
def Ŧ (f:RelV y u)(c:RelV x v)(g:qt y=true)(e:qt x=true):rh A s u v (kG y x):=by
 cases y with
 |Ğ=>
  cases f;cases x with
  |Ğ=>cases c;exact sS _
  |bl b=>cases c;exact SeqAt.EqAt.none_bool b
  |int b=>obtain⟨t,rfl⟩:=c;exact SeqAt.EqAt.none_int b t
  |str b=>obtain⟨t,rfl⟩:=c;exact SeqAt.EqAt.none_str b t
  |_=>exact absurd (show false=true from e) ã
 |bl a=>
  cases f;cases x with
  |Ğ=>cases c;exact SeqAt.EqAt.bool_none a
  |bl b=>cases c;exact SeqAt.EqAt.bool_bool a b
  |int b=>obtain⟨t,rfl⟩:=c;exact SeqAt.EqAt.bool_int a b t
  |str b=>obtain⟨t,rfl⟩:=c;exact SeqAt.EqAt.bool_str a b t
  |_=>exact absurd (show false=true from e) ã
 |int a=>
  obtain⟨d,rfl⟩:=f;cases x with
  |Ğ=>cases c;exact SeqAt.EqAt.int_none a d
  |bl b=>cases c;exact SeqAt.EqAt.int_bool a d b
  |int b=>obtain⟨t,rfl⟩:=c;exact SeqAt.EqAt.int_int a d b t
  |str b=>obtain⟨t,rfl⟩:=c;exact B3 a d b t
  |_=>exact absurd (show false=true from e) ã
 |str a=>
  obtain⟨d,rfl⟩:=f;cases x with
  |Ğ=>cases c;exact SeqAt.EqAt.str_none a d
  |bl b=>cases c;exact SeqAt.EqAt.str_bool a d b
  |int b=>obtain⟨t,rfl⟩:=c;exact B5 a d b t
  |str b=>obtain⟨t,rfl⟩:=c;exact SeqAt.EqAt.str_str a d b t
  |_=>exact absurd (show false=true from e) ã
 |_=>exact absurd (show false=true from g) ã
def L0 (x:V)(u:Value):Bool:=match u with
 |.none=>kG .Ğ x
 |.bool b=>kG (.bl b) x
 |.int i _=>kG (.int i) x
 |.str z _=>kG (.str z) x
 |_=>false
def HP (r:RelV y u)(f:qt y=true):L0 x u=kG y x:=by
 cases y with
 |Ğ=>cases r;rfl
 |bl b=>cases r;rfl
 |int i=>obtain⟨t,rfl⟩:=r;rfl
 |str z=>obtain⟨t,rfl⟩:=r;rfl
 |_=>exact absurd (show false=true from f) ã
theorem yQ:∀{xs:Á V}{us:Á Value},Vals xs us->xs.all qt=true->us.any (L0 x)=xs.any λy=>kG y x
 |_,_,.nil,_=>rfl
 |y::xs,u::us,.cons r t,f=>by
  rw[ľ,ċ]at f;rw[ŉ,ŉ,HP r f.1,yQ t f.2]
theorem vH (d:RelV x v)(c:qt x=true):∀{xs:Á V}{us:Á Value},Vals xs us->xs.all qt=true->∀u∈us,rh A s u v (L0 x u)
 |_,_,.nil,_=>λu hu=>by cases hu
 |y::xs,u::us,.cons r t,f=>λe hu=>by
  rw[ľ,ċ]at f;rcases ß.mp hu with rfl|hu
  ·rw[HP r f.1];exact Ŧ r d f.1 c
  ·exact vH d c t f.2 e hu
def Wf (x:V)(xs:Á V):Bool:=xs.any λy=>kG y x
def rIn (K:É)(c:Bool):R2:=λx y H Q=>∃p xs,y=.ref p/\(fC K H p xs∨gq K H p xs)/\qt x=true/\xs.all qt=true/\Q (.bl (if c then !Wf x xs else Wf x xs)) H
def F8:jj X (Į .In) (rIn X.K false):=by
 intro g s l H x y v u Q I i k h;obtain⟨p,xs,rfl,hq,f,d,q⟩:=h;cases k;rcases hq with hq|hq
 ·obtain⟨c,r,e,j⟩:=I.list hq;refine Oc (L0 x) e.isList (λw hw=>vH i f r d w (by simpa using hw)) ⟨.bl _,H,I,rfl,?_⟩;rw[show c.toArray.any (L0 x)=c.any (L0 x) by simp,yQ r d];exact q
 ·obtain⟨c,r,e,j⟩:=I.tuple hq;refine SeqAt.in_tupleAt (L0 x) e (λw hw=>vH i f r d w (by simpa using hw)) ⟨.bl _,H,I,rfl,?_⟩;rw[show c.toArray.any (L0 x)=c.any (L0 x) by simp,yQ r d];exact q
def yW:bz X (.builtin "len") (λxs H Q=>∃p ys,xs=[.ref p]/\(fC X.K H p ys∨gq X.K H p ys)/\Q (.int ys.length) H):=by
 intro g s l H xs us Q I r h;obtain⟨p,ys,rfl,hq,q⟩:=h;obtain⟨u,rfl,j⟩:=vals1 r;cases j;have k:=nI;rcases hq with hq|hq
 ·obtain⟨d,f,e,i⟩:=I.list hq;have c:=f.length;exact Calls.call_len_list e.isList (by simp only[Û]<;>lia) ⟨.int ys.length,H,I.tok _,⟨s.toks+1,by rw[Û,c]⟩,q⟩
 ·obtain⟨d,f,e,i⟩:=I.tuple hq;have c:=f.length;exact len_tuple e (by simp only[Û]<;>lia) ⟨.int ys.length,H,I.tok _,⟨s.toks+1,by rw[Û,c]⟩,q⟩
def yX:bz X (.builtin "len") (λxs H Q=>∃z,xs=[.str z]/\z.length<=sizeLine/\Q (.int z.length) H):=by
 intro c s f H xs us Q I r h;obtain⟨z,rfl,e,q⟩:=h;obtain⟨u,rfl,t,rfl⟩:=vals1 r;have d:=nI;exact len_str (by lia) ⟨.int z.length,H,I.tok _,⟨_,rfl⟩,q⟩
def yY:bz X (.type "list") (λxs H Q=>∃p ys,xs=[.ref p]/\(fC X.K H p ys∨gq X.K H p ys)/\∀l,H l=none->Q (.ref l) (upd H l (.lst ys))):=by
 intro t s B H xs us Q I r h;obtain⟨p,ys,rfl,hq,q⟩:=h;obtain⟨u,rfl,A⟩:=vals1 r;cases A;have i:∀c,Vals ys c->ys.length<=sizeLine->∀d f,(∀b z,s.heap.get? b=À z->d.get? b=À z)->
   d.get? s.heap.objs.size=À {cls:=.type "list",dict:=none,data:=.seq c.toArray f,slots:=#[]}->EP X t B Q (.ref s.heap.objs.size) {s with heap:=d}:=λc g k d f m e=>
  ⟨.ref s.heap.objs.size,_,I.laid (t':=s.toks) m (Î _) (show Ş X.prog X.w _ d _ (.lst ys)from⟨k,c,f,g,e⟩),rfl,q _ (I.ť.fresh (Î _))⟩
 rcases hq with hq|hq
 ·obtain⟨c,g,y,k⟩:=I.list hq;have j:=g.length;obtain⟨o,x,v,n,hd⟩:=y.isList;exact call_list_seq p (.inl rfl) x v hd (λd f m e=>i c g k d f m e) (by simp only[Û]<;>lia)
 ·obtain⟨c,g,y,k⟩:=I.tuple hq;have j:=g.length;obtain⟨o,x,v,n,hd⟩:=y;exact call_list_seq p (.inr rfl) x v hd (λd f m e=>i c g k d f m e) (by simp only[Û]<;>lia)
def xg:bz X (.type "tuple") (λxs H Q=>∃p ys,xs=[.ref p]/\((fC X.K H p ys/\∀l,H l=none->Q (.ref l) (upd H l (.tup ys)))∨(gq X.K H p ys/\Q (.ref p) H))):=by
 intro c s n H xs us Q I r h;obtain⟨p,ys,rfl,h⟩:=h;obtain⟨u,rfl,v⟩:=vals1 r;cases v;rcases h with⟨g,q⟩|⟨g,q⟩
 ·obtain⟨d,j,i,m⟩:=I.list g;have k:=j.length;refine call_tuple_list i.isList (λf t=>?_) (by simp only[Û]<;>lia);have A:Inv X c n H {s with heap:=f}:=I.kept (t':=s.toks) t;have B:Inv X c n (upd H f.objs.size (.tup ys)) {s with heap:=f.push {cls:=.type "tuple",data:=.seq d.toArray}}:=
   A.laid (t':=s.toks) (λb o e=>Ä _ e) (Î _) (show Ş X.prog X.w _ _ _ (.tup ys)from⟨m,d,j,uR _ _⟩)
  exact⟨.ref f.objs.size,_,B,rfl,q _ (A.ť.fresh (Î _))⟩
 ·obtain⟨d,j,i,m⟩:=I.tuple g;exact call_tuple_same i ⟨.ref p,H,I,rfl,q⟩
def Wn (K:É)(T:String)(x:V)(H:Hp):Prop:=match x with
 |.str _=>T="str"
 |.int _=>T="int"
 |.ref p=>(T="list"/\∃xs,fC K H p xs)∨(T="tuple"/\∃o,K.lookup p=À o/\o.cls=.type "tuple"/\o.dict=none)∨
   (T="dict"/\((∃c,H p=À (.dK c))∨∃c,H p=À (.dT c)))∨(T="set"/\∃S n,H p=À (.set S n))
 |_=>False
def Dy (I:Inv X l y H s)(r:RelV x v)(g:Wn X.K T x H) :
  s.TypeIs v T/\∀a,v=.ref a->∃k,s.heap.get? a=À k/\k.dict=none:=by
 cases x with
 |str z=>
  obtain⟨t,rfl⟩:=r;cases (show T="str" from g);exact⟨typeIs_str s z t,λ_ e=>nomatch e⟩
 |int i=>
  obtain⟨t,rfl⟩:=r;cases (show T="int" from g);exact⟨SX s i t,λ_ e=>nomatch e⟩
 |ref p=>
  cases r;rcases g with⟨rfl,xs,u⟩|⟨rfl,o,d,q,hd⟩|⟨rfl,d⟩|⟨rfl,S,n,d⟩
  ·obtain⟨w,_,m,_⟩:=I.list u;refine⟨m.isList.typeIs,λa e=>?_⟩;cases e;obtain⟨o,n,e,c,hd,_⟩:=m;exact⟨o,e,hd⟩
  ·refine⟨⟨o,I.md p o d,q⟩,λa e=>?_⟩;cases e;exact⟨o,I.md _ o d,hd⟩
  ·have z:∃o,s.heap.get? p=À o/\o.ExactDict:=by
    rcases d with⟨j,d⟩|⟨j,d⟩
    ·obtain⟨_,_,_,_,o,_,_,e,f,_⟩:=I.ť p _ d;exact⟨o,e,f⟩
    ·obtain⟨_,_,_,_,o,_,_,e,f,_⟩:=I.ť p _ d;exact⟨o,e,f⟩
   obtain⟨o,e,f⟩:=z;refine⟨⟨o,e,f.1⟩,λa h=>?_⟩;cases h;exact⟨o,e,f.2.1⟩
  ·obtain⟨o,_,_,_,e,f,_⟩:=I.ť p _ d;refine⟨⟨o,e,f.1⟩,λa h=>?_⟩;cases h;exact⟨o,e,f.2.1⟩
 |_=>exact aJ g
def Yk (K:É)(T:String)(r:V->Á V->Hp->VK->Prop)(c:TE):TE:=λd H Q=>c d H λx A=>Wn K T x A/\r x [] A Q
def Yj (K:É)(T:String)(r:V->Á V->Hp->VK->Prop)(d:TE)(t:TA):TE:=λc H Q=>d c H λx A=>Wn K T x A/\t c A λxs B=>r x xs B Q
variable {o e:Expr}{es:Á Expr}{to:TE}{t:TA}{name:Str}{kr ja:kU}{T id:String}{r:V->Á V->Hp->VK->Prop}
def Jx (q:qg T)(g:Slot T name id)(i:LC (.builtin id)=pure (.type "method_descriptor")) (n:GP X id r)(p:PE X o to)
  (d:aB o name X.env (Ė o X.env)=Ė o X.env:=by rfl) (f:(kr.endLine == ja.line)=true:=by rfl):PE X (.Call (.Attribute o name kr) [] [] ja) (Yk X.K T r to):=by
 intro c s k H Q I h;refine wpAny_Call_method0_late d f (aq (p c s k H _ I h) λv w z=>?_);obtain⟨x,B,A,j,y,u⟩:=z;obtain⟨l,m⟩:=Dy A j y;exact⟨T,id,q,g,i,l,m,gy rfl (PySem.evalArgs_none (n c w k B x [] v [] Q A j .nil u))⟩
def UZ (F:qg T)(j:Slot T name id)(k:LC (.builtin id)=pure (.type "method_descriptor")) (y:GP X id r)(z:PE X o to)(w:PA X (e::es) t)
  (f:aB o name X.env (Ė o X.env)=Ė o X.env:=by rfl)
  (i:((Ģ ja (Ï (e::es) X.env)).all (λx=>!x.1)&&(gz ja (bR [] X.env)).all (λx=>x.1.isSome)
   && decide ((e::es).length+([]:Á iZ).length+(if ([]:Á iZ).isEmpty then 0 else 1)<30))=true:=by rfl)
  (g:(kr.endLine == ja.line)=true:=by rfl) (E:Ï (e::es) X.env=(false,Ė e X.env)::Ï es X.env:=by rfl) (d:(Ģ ja (Ï es X.env)).any (·.1)=false:=by rfl) :
  PE X (.Call (.Attribute o name kr) (e::es) [] ja) (Yj X.K T r to t):=by
 intro c s m H Q I h;refine wpAny_Call_method_late f i g rfl (aq (z c s m H _ I h) λv M l=>?_);obtain⟨x,B,A,p,O,G⟩:=l;obtain⟨q,u⟩:=Dy A p O;refine⟨T,id,F,j,k,q,u,?_⟩;have n:=w ja c M m B _ A G;rw[E]at n⊢;refine gy (by show(false||(Ģ ja (Ï es X.env)).any (·.1))=false;rw[d]<;>rfl) (pa ?_);exact aq n λus N l=>iR l λP C D L J=>y c N m C x P v us Q D p L J
end
def W5 (X:Cx)(id:String)(r:V->Á V->Hp->VK->Prop):Prop:=
 ∀a s b H x xs v us Q,Inv X a b H s->RelV x v->Vals xs us->r x xs H Q->
  Ü (à X.prog X.w) X.A (call (.builtin id) (v::us)) (EP X a b Q) X.xe s
def Vals.one:∀{x:V}{us:Á Value},Vals [x] us->∃u,us=[u]/\RelV x u
 |_,_,.cons r .nil=>⟨_,rfl,r⟩
def Vals.zero:∀{us:Á Value},Vals [] us->us=[]
 |_,.nil=>rfl
theorem Vals.eraseIdx:∀{xs:Á V}{us:Á Value}(i:Nat),Vals xs us->Vals (xs.eraseIdx i) (us.eraseIdx i)
 |_,_,_,.nil=>.nil
 |_,_,0,.cons _ t=>t
 |_,_,i+1,.cons r t=>.cons r (Vals.eraseIdx i t)
theorem Vals.reverse (h:Vals xs us):Vals xs.reverse us.reverse:=by
 induction h with
 |nil=>exact .nil
 |cons r t a=>rw[lK,lK];exact Vals.append a (.cons r .nil)
theorem Vals.rep (h:Vals xs us):∀k:Nat,Vals (Ö k xs).flatten (Ö k us).flatten
 |0=>.nil
 |k+1=>by
  rw[ar,ar,dH,dH];exact Vals.append h (Vals.rep h k)
theorem ya:∀(l:Á α)(i:Nat),(l.eraseIdx i).length<=l.length
 |[],_=>Î _
 |_::_,0=>mw _
 |_::r,i+1=>OX (ya r i)
theorem foldl_rep (its:Á Value):∀k a,
  K0 (λx1 x2=>x1++x2) a.toArray (Ö k its.toArray)=(a++(Ö k its).flatten).toArray
 |0,a=>by simp
 |k+1,a=>by
  have e:a.toArray++its.toArray=(a++its).toArray:=by simp
  have b:(a++its)++(Ö k its).flatten=a++(Ö (k+1) its).flatten:=by
   rw[ar,dH,È]
  rw[<-b,<-foldl_rep its k (a++its),<-e,ar,List.foldl_cons]
section
variable {X:Cx}{þ:Á (Addr×Obj)}{σ:St}{H:Hp}{s:Ú}{l b:Addr}{xs ys zs:Á V}
def Inv.Qc {its its':Á Value}{n:Nat}{f:ę Value->ę Value}{t':Nat}(I:Inv X þ σ H s)(a:H l=À (.lst xs))
  (e:s.heap.get? l=À {cls:=.type "list",data:=.seq its.toArray n}) (d:f its.toArray=its'.toArray) (g:Vals ys its') (hz:ys.length<=sizeLine) :
  Inv X þ σ (upd H l (.lst ys)) {s with heap:=s.heap.update l (û f),toks:=t'}:=by
 have q:=PySem.IsL.update e f;rw[d]at q;refine I.write (x:=l) (e:=l) (by rw[a];exact trivial) (.inl rfl) (λh u c hu=>(ê s.heap (û f) (Ō c)).trans hu) ⟨_,q⟩ ?_;exact⟨hz,its',_,g,q⟩
def Inv.Mn (I:Inv X þ σ H s)(a:Vals ys its)(hz:ys.length<=sizeLine) :
  Inv X þ σ (upd H s.heap.objs.size (.lst ys)) {s with heap:=s.heap.push {cls:=.type "list",data:=.seq its.toArray},toks:=t'}:=
 I.laid (λ_ _ q=>Ä _ q) (Î _) ⟨hz,its,0,a,Ù _ rfl⟩
theorem Inv.fresh (I:Inv X þ σ H s):H s.heap.objs.size=none:=I.ť.fresh (Î _)
def Inv.CM (I:Inv X þ σ H s)(a:H l=À (.lst xs)):xs.length<=sizeLine/\∃its n,Vals xs its/\xs.length=its.length/\s.heap.get? l=À {cls:=.type "list",data:=.seq its.toArray n}:=by
 obtain⟨z,its,n,r,e⟩:=I.ť l _ a;exact⟨z,its,n,r,r.length,e⟩
def Jq (h:n<=sizeLine):jN n=false:=by
 unfold jN;exact â (by lia)
end
section
variable {X:Cx}
def NB:V->Á V->Hp->VK->Prop:=λx a H Q=>∃l xs y,x=.ref l/\a=[y]/\H l=À (.lst xs)/\xs.length<sizeLine/\Q .Ğ (upd H l (.lst (xs++[y])))
def yg:W5 X "list.append" NB:=by
 intro c s j H x i v us Q I f rv h;obtain⟨l,xs,y,rfl,rfl,b,g,q⟩:=h;cases f;obtain⟨u,rfl,d⟩:=rv.one;obtain⟨z,a,n,r,hl,e⟩:=I.CM b;refine qi F.slot_list_append ⟨_,e,rfl⟩ F.entry_list_append (F.args_list_append_2 _ _) (PySem.list_append l a.toArray n u (by rw[Û];lia)) ⟨e,?_⟩;refine⟨.Ğ,_,I.Qc (its':=a++[u]) b e (by simp) (r.append (.cons d .nil)) ?_,rfl,q⟩;rw[Ă,E4];lia
def RC:V->Á V->Hp->VK->Prop:=λx a H Q=>∃l xs i k y,x=.ref l/\a=[.int i]/\H l=À (.lst xs)/\-(2^63)<=i/\i<2^63/\Av i xs.length=À k/\xs[k]?=À y/\Q y (upd H l (.lst (xs.eraseIdx k)))
def Jc:W5 X "list.pop" RC:=by
 intro d s B H x A v us Q I p rv h;obtain⟨l,xs,i,k,y,rfl,rfl,c,f,g,j,m,q⟩:=h;cases p;obtain⟨u,rfl,o⟩:=rv.one;obtain⟨t,rfl⟩:=o;obtain⟨z,a,n,r,hl,e⟩:=I.CM c;obtain⟨w,hw,b⟩:=r.get m;refine qi F.slot_list_pop ⟨_,e,rfl⟩ F.entry_list_pop (F.args_list_pop_2 _ _)
  (MeetsSeq.list_pop_at l a.toArray n i t k w (fitsIndex_both f g) (by rw[Û,<-hl];exact j) (by rw[<-aD];exact hw) (by rw[Û];lia)) ⟨e,?_⟩
 refine⟨y,_,I.Qc (its':=a.eraseIdx k) c e ?_ (r.eraseIdx k) ?_,b,q⟩
 ·show a.toArray.eraseIdxIfInBounds k=(a.eraseIdx k).toArray;rw[List.eraseIdxIfInBounds_toArray]
 ·have:=ya xs k;lia
def JX:V->Á V->Hp->VK->Prop:=λx a H Q=>∃l xs,x=.ref l/\a=[]/\H l=À (.lst xs)/\Q .Ğ (upd H l (.lst xs.reverse))
def CW:W5 X "list.reverse" JX:=by
 intro d s i H x g v us Q I f rv h;obtain⟨l,xs,rfl,rfl,c,q⟩:=h;cases f;have b:=rv.zero;subst b;obtain⟨z,a,n,r,hl,e⟩:=I.CM c;refine qi F.slot_list_reverse ⟨_,e,rfl⟩ F.entry_list_reverse (F.args_list_reverse_1 _) (AutoSeq1.list_reverse_list_0 l a.toArray n (by rw[Û];lia)) ⟨e,?_⟩;refine⟨.Ğ,_,I.Qc (its':=a.reverse) c e (by simp) r.reverse ?_,rfl,q⟩;rw[qU];lia
def X0:R2:=λx y H Q=>∃l b xs a,x=.ref l/\y=.ref b/\H l=À (.lst xs)/\H b=À (.lst a)/\xs.length+a.length<=sizeLine/\∀p,H p=none->Q (.ref p) (upd H p (.lst (xs++a)))
def QY:jj X (a' .Add) X0:=by
 intro d s C H x y v u Q I o p h;obtain⟨l,b,xs,B,rfl,rfl,j,i,t,q⟩:=h;cases o;cases p;obtain⟨z,c,n,r,hl,e⟩:=I.CM j;obtain⟨A,a,w,m,k,f⟩:=I.CM i;refine PySem.P.add_list e f ?_ (by rw[Û,Û];lia);have g:c.toArray++a.toArray=(c++a).toArray:=by simp
 rw[g];exact⟨.ref _,_,I.Mn (t':=s.toks) (r.append m) (by rw[Ă];lia),rfl,q _ I.fresh⟩
def X6:R2:=λx y H Q=>∃l k xs,x=.ref l/\y=.int k/\H l=À (.lst xs)/\-(2^63)<=k/\k<2^63/\xs.length*k.toNat<=sizeLine/\
 ∀p,H p=none->Q (.ref p) (upd H p (.lst (Ö k.toNat xs).flatten))
def len_rep (xs:Á α)(k:Nat):(Ö k xs).flatten.length=k*xs.length:=by
 induction k with
 |zero=>simp
 |succ k a=>rw[ar,dH,Ă,a,Nat.succ_mul,WD]
def Q4:jj X (a' .Mult) X6:=by
 intro o s G H x y v u Q I C D h;obtain⟨l,k,xs,rfl,rfl,B,w,A,j,q⟩:=h;cases C;obtain⟨t,rfl⟩:=D;obtain⟨z,b,n,r,hl,e⟩:=I.CM B;have g:b.toArray.size*k.toNat<=sizeLine:=by rw[Û,<-hl];exact j
 have d:¬b.toArray.size*k.toNat > (2^63-1) / 8:=by
  have:(sizeLine:Nat)<=(2^63-1) / 8:=by decide
  lia
 have f:¬(!Builtin.List.listFitsIndex k)=true:=by
  rw[fitsIndex_both w A];exact ã
 have c:¬jN (b.toArray.size*k.toNat)=true:=by
  rw[Jq g];exact ã
 have i:K0 (λx1 x2=>x1++x2) #[] (Ö (if b.toArray.isEmpty=true then 0 else k.toNat) b.toArray)=(Ö k.toNat b).flatten.toArray:=by
  have p:∀m:Nat,K0 (λx1 x2=>x1++x2) #[] (Ö m b.toArray)=(Ö m b).flatten.toArray:=λm=>by
   have:=foldl_rep b m [];rw[av]at this;exact this
  rw[p];cases b with
  |nil=>simp
  |cons a E=>rw[Ñ (by simp)]
 refine wpAny_binaryOp_repeat_ref (T:="list") (U:="int") (by decide) ⟨_,e,rfl⟩ (λs'=>SX s' k t) noFill_list_mul F.fills_int_mul VC repeat_list F.slot_int_index.lookup
  (qi VC (SX s k t) F.entry_int_rmul (F.args_int_rmul_2 _ _) (int___rmul___int_list k t l b.toArray n)
   ⟨e,rfl,⟨_,e,rfl⟩,qi F.slot_list_mul ⟨_,e,rfl⟩ F.entry_list_mul (F.args_list_mul_2 _ _) (AutoListH.list___mul___list_int_3 l b.toArray n k t f d c) ⟨e,?_⟩⟩)
 rw[i];exact⟨.ref _,_,I.Mn (t':=s.toks) (r.rep k.toNat) (by rw[len_rep,Nat.mul_comm];exact j),rfl,q _ I.fresh⟩
end
section
variable {prog:Č}{w:Ī}{A:Œ}{E:Value->Ú->Prop}{s:Ú}
end
section
variable {X:Cx}
end
section
variable {κ:Type} [kh κ]
noncomputable def jf (kvs:Á (κ×V)) (k:κ):Ð V:=(kvs.find? λa=>decide (a.1=k)).map (·.2)
def putK (kvs:Á (κ×V)) (k:κ)(v:V):Á (κ×V):=
 if (kvs.any λa=>decide (a.1=k))=true then kvs.map (λa=>if a.1=k then (a.1,v)else a)else kvs++[(k,v)]
def nV {p:κ×V}{r:Á (κ×V)}{k:κ}(e:p.1=k):jf (p::r) k=À p.2:=by simp[jf,dn,e]
def nU {p:κ×V}{r:Á (κ×V)}{k:κ}(e:¬p.1=k):jf (p::r) k=jf r k:=by simp[jf,dn,e]
theorem BQ (k:κ):∀kvs:Á (κ×V),(kvs.any λa=>decide (a.1=k))=(jf kvs k).isSome
 |[]=>rfl
 |p::r=>by
  rw[ŉ];by_cases e:p.1=k
  ·simp only[nV e,î e,DD,GK]
  ·rw[nU e,â e,iW];exact BQ k r
def nH (kvs:Á (κ×V)) (k:κ)(v:V):(putK kvs k v).length<=kvs.length+1:=by
 unfold putK;split
 ·rw[Ê];lia
 ·rw[Ă,ē,bZ];lia
def mQ.lr (r:mQ o u):o.isSome=u.isSome:=by
 cases o with
 |none=>cases u with
  |none=>rfl
  |some _=>exact(show False from r).elim
 |some _=>cases u with
  |none=>exact(show False from r).elim
  |some _=>rfl
theorem mQ.getD (r:mQ o u)(a:RelV d d'):RelV (o.getD d) (u.getD d'):=by
 cases o with
 |none=>cases u with
  |none=>exact a
  |some _=>exact(show False from r).elim
 |some _=>cases u with
  |none=>exact(show False from r).elim
  |some _=>exact r
def KV.val {kvs:Á (κ×V)}{vs:Á (κ×Value)}(r:KV kvs vs)(k:κ):mQ (jf kvs k) (yJ vs k):=by
 unfold KV at r;induction r with
 |nil=>exact bD
 |@cons p q i c h t g=>
  obtain⟨d,f⟩:=h;by_cases e:p.1=k
  ·have a:q.1=k:=d.symm.trans e;have b:yJ (q::c) k=À q.2:=by simp[yJ,dn,a]
   rw[nV e,b];exact f
  ·have a:¬q.1=k:=λz=>e (d.trans z);have b:yJ (q::c) k=yJ c k:=by simp[yJ,dn,a]
   rw[nU e,b];exact g
theorem KV.any (r:KV kvs vs)(k:κ):(kvs.any λa=>decide (a.1=k))=vs.any λa=>decide (a.1=k):=by
 unfold KV at r;induction r with
 |nil=>rfl
 |cons h t b=>rw[ŉ,ŉ,b,h.1]
def KV.RJ (r:KV kvs vs)(k:κ)(f:RelV y u) :
  KV (kvs.map λa=>if a.1=k then (a.1,y)else a) (vs.map λa=>if a.1=k then (a.1,u)else a):=by
 unfold KV at r⊢;induction r with
 |nil=>exact .nil
 |@cons p q g i h t d=>
  rw[Ô,Ô];refine .cons ?_ d;obtain⟨b,c⟩:=h;by_cases e:p.1=k
  ·rw[Ë e,Ë (b.symm.trans e)];exact⟨b,f⟩
  ·rw[Ñ e,Ñ (λz=>e (b.trans z))];exact⟨b,c⟩
def KV.put (r:KV kvs vs)(k:κ)(a:RelV y u):KV (putK kvs k y) (stored vs k u):=by
 unfold putK stored;rw[r.any k];by_cases e:(vs.any λb=>decide (b.1=k))=true
 ·rw[Ë e,Ë e];exact r.RJ k a
 ·rw[Ñ e,Ñ e];exact SJ r ⟨rfl,a⟩
theorem KV.length (r:KV kvs vs):kvs.length=vs.length:=qf r
end
def tq (r:RelV (kV k) u):(ż P w).is k u=true:=by
 cases k with
 |inl i=>obtain⟨t,e⟩:=(show ∃t,u=mL i t from r);subst e;exact tw P w i t
 |inr x=>obtain⟨t,e⟩:=(show ∃t,u=u0 x t from r);subst e;exact tD P w x t
theorem xV:∀{ks:Á Key}{us:Á Value},Vals (ks.map kV) us->ItemsAre (ż P w) ks us
 |[],_,r=>by rw[Ų]at r;cases r;exact .nil
 |k::ks,_,r=>by
  rw[Ô]at r;cases r with
  |cons h t=>exact .cons (tq h) (xV t)
abbrev KT (H:Hp):Á (Á Key×V)->Á (Á Key×Addr×Value)->Prop:=Paired λp q=>p.1=q.1/\H q.2.1=À (.tup (p.1.map kV))/\RelV p.2 q.2.2
def KT.val {H:Hp}{kvs:Á (Á Key×V)}{xs:Á (Á Key×Addr×Value)}(r:KT H kvs xs)(k:Á Key):mQ (jf kvs k) ((E_ xs k).map (·.2)):=by
 induction r with
 |nil=>exact bD
 |@cons p q i c h t g=>
  obtain⟨d,_,f⟩:=h;by_cases e:p.1=k
  ·have a:q.1=k:=d.symm.trans e;have b:E_ (q::c) k=À q.2:=by simp[E_,dn,a]
   rw[nV e,b];exact f
  ·have a:¬q.1=k:=λz=>e (d.trans z);have b:E_ (q::c) k=E_ c k:=by simp[E_,dn,a]
   rw[nU e,b];exact g
def KT.RJ (r:KT H kvs xs)(k:Á Key)(g:RelV y u) :
  KT H (kvs.map λb=>if b.1=k then (b.1,y)else b) (xs.map (putAt k u)):=by
 induction r with
 |nil=>exact .nil
 |@cons p q i j h t f=>
  rw[Ô,Ô];refine .cons ?_ f;obtain⟨a,c,d⟩:=h;unfold putAt;by_cases e:p.1=k
  ·rw[Ë e,Ë (a.symm.trans e)];exact⟨a,c,g⟩
  ·rw[Ñ e,Ñ (λz=>e (a.trans z))];exact⟨a,c,d⟩
def KT.put (r:KT H kvs xs)(k:Á Key)(c:H b=À (.tup (k.map kV))) (a:RelV y u) :
  KT H (putK kvs k y) (storedH xs k b u):=by
 have e:(kvs.any λd=>decide (d.1=k))=(E_ xs k).isSome:=by
  rw[BQ,(r.val k).lr,sR]
 unfold putK storedH;rw[e];by_cases q:(E_ xs k).isSome=true
 ·rw[Ë q,Ë q];exact r.RJ k a
 ·rw[Ñ q,Ñ q];exact SJ r ⟨rfl,c,a⟩
def KT.keeps (r:KT H kvs xs)(a:∀b ys,H b=À (.tup ys)->H' b=À (.tup ys)):KT H' kvs xs:=
 Paired.Qe r λ_ _ z=>⟨z.1,a _ _ z.2.1,z.2.2⟩
section
variable {P:Č}{w:Ī}{H:Hp}{h:Heap}{a:Addr}
def OL (b:mO P w H h)(e:Rd H a u):Ş P w H h a u:=e.ok b
def sY (b:mO P w H h)(e:Rd H a (.dK kvs)):kvs.length<=sizeLine/\(a == b8)=false/\∃vs,KV kvs vs/\h.DictOf (ż P w) a vs:=
 show Ş P w H h a (.dK kvs)from OL b e
def HC (b:mO P w H h)(e:H a=À (.dK kvs)):kvs.length<=sizeLine/\(a == b8)=false/\∃vs,KV kvs vs/\h.DictOf (ż P w) a vs:=sY b (.inl e)
def pD (g:mO P w H h)(e:H a=À (.tup (ks.map kV))):(mx (ż P w)).is h ks a:=by
 obtain⟨_,b,r,o,c,d,n,f⟩:=(show Ş P w H h a (.tup (ks.map kV))from g a _ e)
 exact⟨o,b.toArray,n,c,d,f,by simpa using xV r⟩
def s_ (c:mO P w H h)(e:Rd H a (.dT kvs)):kvs.length<=sizeLine/\(a == b8)=false/\
  ∃xs,KT H kvs xs/\h.DictOfH (mx (ż P w)) a xs:=by
 obtain⟨z,y,xs,r,o,f,d,g,i,j,k,n⟩:=(show Ş P w H h a (.dT kvs)from OL c e)
 refine⟨z,y,xs,r,o,f,d,g,i,j,k,λx hx=>?_,n⟩;have all:∀{l:Á (Á Key×V)}{m:Á (Á Key×Addr×Value)},KT H l m->∀x∈m,(mx (ż P w)).is h x.1 x.2.1:=by
  intro l m q;induction q with
  |nil=>intro x hx;exact nomatch hx
  |@cons p q u v b t s=>
   intro x hx;rcases ß.mp hx with e|hx
   ·subst e;exact pD c (by rw[<-b.1];exact b.2.1)
   ·exact s x hx
 exact all r x hx
def Tn (b:mO P w H h)(e:H a=À (.dT kvs)):kvs.length<=sizeLine/\(a == b8)=false/\
  ∃xs,KT H kvs xs/\h.DictOfH (mx (ż P w)) a xs:=s_ b (.inl e)
end
def jh (H:Hp)(a:Addr)(y:V)(r:Ð V):Prop:=
 (∃c k,Rd H a (.dK c)/\y=kV k/\r=jf c k)∨∃c k b,Rd H a (.dT c)/\y=.ref b/\H b=À (.tup (k.map kV))/\r=jf c k
def w_ (H:Hp)(a:Addr)(y v:V)(H':Hp):Prop:=
 (∃c k,H a=À (.dK c)/\y=kV k/\c.length<sizeLine/\H'=upd H a (.dK (putK c k v)))∨
 ∃c k b,H a=À (.dT c)/\y=.ref b/\H b=À (.tup (k.map kV))/\c.length<sizeLine/\H'=upd H a (.dT (putK c k v))
theorem jh.k {H:Hp}{a:Addr}{kvs:Á (Key×V)}{k:Key}(e:H a=À (.dK kvs)):jh H a (kV k) (jf kvs k):=.inl ⟨kvs,k,.inl e,rfl,rfl⟩
def jh.t {H:Hp}{a b:Addr}{kvs:Á (Á Key×V)}{k:Á Key}(e:H a=À (.dT kvs)) (c:H b=À (.tup (k.map kV))):jh H a (.ref b) (jf kvs k):=.inr ⟨kvs,k,b,.inl e,rfl,c,rfl⟩
theorem w_.k {H:Hp}{a:Addr}{kvs:Á (Key×V)}{k:Key}{v:V}(e:H a=À (.dK kvs)) (hl:kvs.length<sizeLine):w_ H a (kV k) v (upd H a (.dK (putK kvs k v))):=.inl ⟨kvs,k,e,rfl,hl,rfl⟩
def w_.t {H:Hp}{a b:Addr}{kvs:Á (Á Key×V)}{k:Á Key}{v:V}(e:H a=À (.dT kvs)) (c:H b=À (.tup (k.map kV))) (hl:kvs.length<sizeLine) :
  w_ H a (.ref b) v (upd H a (.dT (putK kvs k v))):=.inr ⟨kvs,k,b,e,rfl,c,hl,rfl⟩
section
variable {X:Cx}{þ:Á (Addr×Obj)}{σ:St}{H:Hp}{s:Ú}{a:Addr}{y v:V}{u r:Value}{o:Ð V}{A:Œ}{E:Value->Ú->Prop}
def Inv.big (I:Inv X þ σ H s):b8<s.heap.objs.size:=by
 have h:mainGlobals<s.heap.objs.size:=(I.mod.glob.keeps I.bk).lt;exact oA (by decide) h
def FA (hu:A.units+1<cLine)(I:Inv X þ σ H s)(g:jh H a y (À v)) (q:RelV y u)(h:∀f s',Inv X þ σ H s'->RelV v f->Q f s') :
  Ü (à X.prog X.w) A (n4 (.ref a) u) Q E s:=by
 rcases g with⟨n,k,e,j,l⟩|⟨n,k,b,e,j,t,l⟩
 ·subst j;obtain⟨z,hd,B,c,i⟩:=sY I.ť e;obtain⟨f,hw,d⟩:=mQ.some_of (v:=v) (o:=yJ B k) (by rw[l];exact c.val k);exact wpAny_getItem_of (tq q) i.mapOf hw (h f _ (I.tok _) d)
 ·subst j;cases (show u=Ò b from q);obtain⟨z,hd,xs,c,i⟩:=s_ I.ť e;obtain⟨f,hw,d⟩:=mQ.some_of (v:=v) (o:=(E_ xs k).map (·.2)) (by rw[l];exact c.val k);obtain⟨p,x,m⟩:=Option.map_eq_some_iff.mp hw;refine wpAny_getItem_heap (dS hu) (pD I.ť t) i x ?_;rw[m];exact h f _ (I.tok _) d
def Xc (hu:A.units+1<cLine)(I:Inv X þ σ H s)(g:jh H a y o)(j:RelV y u)(h:∀s',Inv X þ σ H s'->Q (.bool o.isSome) s') :
  Ü (à X.prog X.w) A (Į .In u (.ref a)) Q E s:=by
 rcases g with⟨i,k,e,f,l⟩|⟨i,k,b,e,f,m,l⟩
 ·subst f;obtain⟨z,hd,n,c,d⟩:=sY I.ť e;refine wpAny_in_of (tq j) hd d.mapOf ?_;rw[<-(c.val k).lr,<-l];exact h _ (I.tok _)
 ·subst f;cases (show u=Ò b from j);obtain⟨z,hd,xs,c,d⟩:=s_ I.ť e;refine wpAny_in_heap (dS hu) (pD I.ť m) hd d ?_;have q:=(c.val k).lr;rw[sR]at q;rw[<-q,<-l];exact h _ (I.tok _)
def LQ (hu:A.units+1<cLine)(I:Inv X þ σ H s)(g:jh H a y o)(j:RelV y u)(h:∀s',Inv X þ σ H s'->Q (.bool (!o.isSome)) s') :
  Ü (à X.prog X.w) A (Į .NotIn u (.ref a)) Q E s:=by
 rcases g with⟨i,k,e,f,l⟩|⟨i,k,b,e,f,m,l⟩
 ·subst f;obtain⟨z,hd,n,c,d⟩:=sY I.ť e;refine wpAny_notIn_of (tq j) hd d.mapOf ?_;rw[<-(c.val k).lr,<-l];exact h _ (I.tok _)
 ·subst f;cases (show u=Ò b from j);obtain⟨z,hd,xs,c,d⟩:=s_ I.ť e;refine wpAny_notIn_heap (dS hu) (pD I.ť m) hd d ?_;have q:=(c.val k).lr;rw[sR]at q;rw[<-q,<-l];exact h _ (I.tok _)
def y6 (I:Inv X þ σ H s)(i:Sw (H a)) (h:eX a s.heap h')(g:∃q,h'.get? a=À q)(c:Ş X.prog X.w (upd H a d) h' a d) :
  Inv X þ σ (upd H a d) {s with heap:=h',toks:=t'}:=
 I.write (x:=a) (e:=a) i (.inl rfl) (λb q f z=>(h.2 b f).trans z) g c
def HB (z:kvs.length<=sizeLine)(hd:(a == b8)=false) (b:KV kvs vs)(dd:h'.DictOf (ż P w) a vs) :
  Ş P w H' h' a (.dK kvs):=⟨z,hd,vs,b,dd⟩
def xO (hu:A.units+1<cLine)(I:Inv X þ σ H s)(g:w_ H a y v H')(F:RelV y u)(rv:RelV v r)(h:∀s',Inv X þ σ H' s'->Q () s') :
  Ü (à X.prog X.w) A (LB (.ref a) u r) Q E s:=by
 rcases g with⟨d,k,e,p,l,n⟩|⟨d,k,b,e,p,B,l,n⟩
 ·subst p n;obtain⟨z,hd,T,f,m⟩:=HC I.ť e;have x:T.length<=sizeLine:=by rw[<-f.length];exact z
  have hl:(putK d k v).length<=sizeLine:=by have:=nH d k v;lia
  refine wpAny_setItem_pairs (hsz:=x) (tq F) m λD i t=>h _ ?_;have P:∃q,D.get? a=À q:=let ⟨q,_,_,j,_⟩:=i;⟨q,j⟩;exact y6 I (by rw[e];exact bD) t P (HB hl hd (f.put k rv) i)
 ·subst p n;cases (show u=Ò b from F);obtain⟨z,hd,xs,f,m⟩:=Tn I.ť e;have x:xs.length<=sizeLine:=by rw[<-qf f];exact z
  have hl:(putK d k v).length<=sizeLine:=by have:=nH d k v;lia
  refine wpAny_setItem_heap (hsz:=x) (dS hu) (pD I.ť B) m λD i t=>h _ ?_;obtain⟨q,J,G,j,L,M,N,_,O⟩:=i;refine y6 I (by rw[e];exact bD) t ⟨q,j⟩ ⟨hl,hd,_,(f.put k B rv).keeps λc U C=>?_,q,J,G,j,L,M,N,O⟩;rw[ç (vJ C e (λz=>nomatch z))];exact C
end
section
variable {X:Cx}{þ:Á (Addr×Obj)}{σ:St}{H:Hp}{s:Ú}{a:Addr}{kvs:Á (Key×V)}{k:Key}{u:Value}{A:Œ}{E:Value->Ú->Prop}
end
def O8 (i:Expr):Prop:=∀b a,B7 i false b a=operate [b,a] (n4 b a)
def NQ {prog:Č}{w:Ī}{A:Œ}{E:Value->Ú->Prop}{s:Ú}{env:KS}{b a:Expr}{pos:kU}{T id:String}{Q:Value->Ú->Prop}
  (hl:typeLookup (.type T) "__getitem__"=pure (À (.builtin id))) (m:O8 a)
  (h:Ü (à prog w) A (Ė b env) (λo e=>Ü (à prog w) A (Ė a env) (λi c=>c.TypeIs o T/\Ü (à prog w) A (n4 o i) Q E c) E e) E s) :
  Ü (à prog w) A (Ė (.Subscript b a pos) env) Q E s:=by
 refine E8 (aE h (λo e j=>aE j (λi c d=>?_) λ_ _ x=>x) λ_ _ x=>x);obtain⟨l,d⟩:=d;unfold GY;refine Â ?_;rw[getitemInPython_of_ne l.not_modules];refine Â (wpAny_specialOf l hl ?_);have g:Ü (à prog w) A (B7 a false o i) (λr f=>Ü (à prog w) A (letTemporaryGo b o r >>= λ_=>pure r) Q E f) E c:=by
  rw[m o i];exact wpAny_operating (aE d (λr f k=>Â (wpAny_letTemporaryGo (Ì k))) λ_ _ x=>x)
 first
  |exact Ì (Â g)
  |exact Â (Ì (Â g))
  |exact Â g
def AN (I:Inv X f i H s)(g:jh H a y o):s.TypeIs (.ref a) "dict":=by
 rcases g with⟨d,k,e,_,_⟩|⟨d,k,b,e,_,_,_⟩
 ·obtain⟨_,_,h,_,c⟩:=sY I.ť e;exact c.typeIs
 ·obtain⟨_,_,xs,_,c⟩:=s_ I.ť e;exact c.typeIs
def Vj (c d:TE):TE:=λb H Q=>c b H λx B=>d b B λy A=>∃a v,x=.ref a/\jh A a y (À v)/\Q v A
def Yl (d c:TE):TE:=λb H Q=>d b H λy B=>c b B λx A=>∃a o,x=.ref a/\jh A a y o/\Q (.bl o.isSome) A
def NS (d c:TE):TE:=λb H Q=>d b H λy B=>c b B λx A=>∃a o,x=.ref a/\jh A a y o/\Q (.bl (!o.isSome)) A
def Vd (c e d:TE):TS:=λD b H=>d b H λv B=>c b B λx C=>e b C λy E=>∃a A,x=.ref a/\w_ E a y v A/\D.nx b A
section
variable {X:Cx}{o i e value:Expr}{pos pos' NV:kU}{td ty tv:TE}
def ED (hu:X.A.units+1<cLine)(k:PE X o td)(j:PE X i ty)(l:O8 i):PE X (.Subscript o i pos) (Vj td ty):=by
 intro b s d H Q I h;refine NQ PySem.F.slot_dict_getitem.lookup l (aq (k b s d H _ I h) λu r t=>iR t λx C E p m=>aq (j b r d C _ E m) λw z ⟨y,D,B,q,a,v,f,g,n⟩=>?_);subst f;obtain rfl:u=Ò a:=p;exact⟨AN B g,FA hu B g q λL J G c=>⟨v,D,G,c,n⟩⟩
def C6 (hu:X.A.units+1<cLine)(f:PE X i ty)(j:PE X o td):PC X .In i o (Yl ty td):=by
 intro b s c H Q I h;refine aq (f b s c H _ I h) λt q r=>iR r λy B D p l=>aq (j b q c B _ D l) λu v ⟨x,C,E,n,a,k,d,g,m⟩=>?_;subst d;obtain rfl:u=Ò a:=n;exact Xc hu E g p λw F=>⟨.bl k.isSome,C,F,rfl,m⟩
def F_ (hu:X.A.units+1<cLine)(f:PE X i ty)(j:PE X o td):PC X .NotIn i o (NS ty td):=by
 intro b s c H Q I h;refine aq (f b s c H _ I h) λt q r=>iR r λy B D p l=>aq (j b q c B _ D l) λu v ⟨x,C,E,n,a,k,d,g,m⟩=>?_;subst d;obtain rfl:u=Ò a:=n;exact LQ hu E g p λw F=>⟨.bl (!k.isSome),C,F,rfl,m⟩
def EG (hu:X.A.units+1<cLine)(k:PE X o td)(j:PE X i ty)(m:PE X value tv)(l:eN value (À (.Subscript o i pos')) pos.line X.env=pure false) :
  PS X (.Assign [.Subscript o i pos'] value pos) (Vd td ty tv):=by
 intro b s c H D I h;refine wpAny_Assign_Subscript (aq (m b s c H _ I h) λr z d=>iR d λv B F rv n=>aq (k b z c B _ F n) λu M d=>iR d λx C G t p=>aq (j b M c C _ G p) λO P ⟨y,N,J,w,a,E,f,g,q⟩=>?_) l;subst f;obtain rfl:u=Ò a:=t;exact xO hu J g w rv λQ L=>⟨c,E,L,q⟩
end
def AQ (h:Heap)(a:b8<h.objs.size):Ş P w H (h.push {cls:=.type "dict",data:=.dict #[]}) h.objs.size (.dK []):=
 ⟨ÿ _,ŝ.mpr (Ō (ò a)),[],.nil,Z7 h⟩
def HF (h:Heap)(a:b8<h.objs.size):Ş P w H (h.push {cls:=.type "dict",data:=.dict #[]}) h.objs.size (.dT []):=
 ⟨ÿ _,ŝ.mpr (Ō (ò a)),[],.nil,_,#[],0,Ù _ rfl,⟨rfl,rfl,rfl⟩,rfl,rfl,List.nodup_nil⟩
def R3:TE:=λ_ H Q=>∀p,H p=none->Q (.ref p) (upd H p (.dK []))
def R4:TE:=λ_ H Q=>∀p,H p=none->Q (.ref p) (upd H p (.dT []))
section
variable {X:Cx}{pos:kU}
def JC:PE X (.Dict [] [] pos) R3:=λb s c H Q I h=>
 W0 ⟨.ref s.heap.objs.size,_,I.laid (a:=s.heap.objs.size) (o:=.dK []) (t':=s.toks) (λ_ _ q=>Ä _ q) (Î _) (AQ s.heap I.big),rfl,h _ (I.ť.fresh (Î _))⟩
def JD:PE X (.Dict [] [] pos) R4:=λb s c H Q I h=>
 W0 ⟨.ref s.heap.objs.size,_,I.laid (a:=s.heap.objs.size) (o:=.dT []) (t':=s.toks) (λ_ _ q=>Ä _ q) (Î _) (HF s.heap I.big),rfl,h _ (I.ť.fresh (Î _))⟩
end
def zO:Á (TE×TE)->St->Hp->(Á (V×V)->Hp->Prop)->Prop
 |[],_,H,Q=>Q [] H
 |(c,d)::r,a,H,Q=>c a H λx A=>d a A λy B=>zO r a B λb C=>Q ((x,y)::b) C
abbrev VV:Á (V×V)->Á (Value×Value)->Prop:=Paired λp q=>RelV p.1 q.1/\RelV p.2 q.2
def Of (X:Cx)(pos:kU)(c:Á (Ð Expr)) (a:Á Expr)(d:Á (TE×TE)):Prop:=
 ∀b s e H Q,Inv X b e H s->zO d e H Q->
  Ü (à X.prog X.w) X.A (evalPairs (pairTrees c a X.env pos)) (λg s'=>∃f B,Inv X b e B s'/\VV f g/\Q f B) X.xe s
def Nr:Of X pos [] [] []:=λa s b H Q I h=>pairTrees_nil_walk ⟨[],H,I,.nil,h⟩
def JQ (f:PE X k r)(g:PE X v t)(hr:Of X pos ks vs d) :
  Of X pos (À k::ks) (v::vs) ((r,t)::d):=λa s e H Q I h=>
 pairTrees_cons_walk (aq (f a s e H _ I h) λu p b=>iR b λx A D n j=>aq (g a p e A _ D j) λz q b=>iR b λy B E o l=>
  aq (hr a q e B _ E l) λG w b=>iR b λi C F c m=>⟨(x,y)::i,C,F,.cons ⟨n,o⟩ c,m⟩)
def gP (kvs more:Á (Key×V)):Á (Key×V):=more.foldl (λa b=>putK a b.1 b.2) kvs
def KV.merge:∀{more:Á (Key×V)}{rs:Á (Key×Value)}{kvs:Á (Key×V)}{vs:Á (Key×Value)},KV more rs->KV kvs vs->KV (gP kvs more) (merged vs rs):=by
 intro more rs kvs vs r;unfold KV at r;induction r generalizing kvs vs with
 |nil=>intro q;exact q
 |@cons p q b c h t a=>
  intro r0;have e:KV (putK kvs p.1 p.2) (stored vs q.1 q.2):=by
   have:=r0.put p.1 h.2;rw[<-h.1];exact this
  exact a e
theorem oY:∀more kvs,(gP kvs more).length<=kvs.length+more.length
 |[],kvs=>by show kvs.length<=kvs.length+0;lia
 |p::r,kvs=>by
  have a:=oY r (putK kvs p.1 p.2);have b:=nH kvs p.1 p.2;show(gP (putK kvs p.1 p.2) r).length<=_;rw[ē];lia
theorem va:∀{kvs:Á (Key×V)}{ws:Á (Value×Value)},VV (kvs.map λd=>(kV d.1,d.2)) ws->∃rs,Carries (ż P w) ws rs/\KV kvs rs
 |[],_,r=>by rw[Ų]at r;cases r;exact⟨[],bD,.nil⟩
 |p::kvs,_,r=>by
  rw[Ô]at r;cases r with
  |@cons a b f bs h t=>
   obtain⟨rs,c,q⟩:=va (P:=P) (w:=w) t;obtain⟨g,e⟩:=b;exact⟨(p.1,e)::rs,⟨tq h.1,rfl,c⟩,.cons ⟨rfl,h.2⟩ q⟩
def Vk (b:Á (TE×TE)):TE:=λe H Q=>∀p,H p=none->zO b e (upd H p (.dK [])) λd A=>A p=À (.dK [])/\∃a:Á (Key×V),d=a.map (λc=>(kV c.1,c.2))/\a.length<=15/\Q (.ref p) (upd A p (.dK (gP [] a)))
def Nb (h:Of X pos b d m)(g:b.all (·.isSome)=true) (hl:b.length=d.length)(h0:b≠[])
  (k:b.length<=15):PE X (.Dict b d pos) (Vk m):=by
 intro j s J H Q I q;have u:=I.ť.fresh (Î s.heap.objs.size);have B:=I.laid (a:=s.heap.objs.size) (o:=.dK []) (h':=s.heap.push {cls:=.type "dict",data:=.dict #[]}) (t':=s.toks) (λ_ _ q=>Ä _ q) (Î _) (AQ s.heap I.big);refine wpAny_Dict_walk (knd:=ż X.prog X.w) g hl h0 k (aq (h j _ J _ _ B (q _ u)) λT O G=>?_);obtain⟨N,L,A,l,e,i,p,M,C⟩:=G;subst p;obtain⟨E,c,D⟩:=va (P:=X.prog) (w:=X.w) l;obtain⟨z,hd,F,r0,n⟩:=HC A.ť e;cases r0;refine⟨E,c,n,λh' f x=>⟨.ref s.heap.objs.size,_,?_,rfl,C⟩⟩;have y:(gP [] i).length<=sizeLine:=by
  have r:=oY i [];rw[bZ]at r;rw[ĉ];lia
 have t:∃q,h'.get? s.heap.objs.size=À q:=let ⟨q,_,_,v,_⟩:=f;⟨q,v⟩;exact y6 A (by rw[e];exact bD) x t (HB y hd (D.merge .nil) f)
structure M1 (X:Cx)(o:Expr)(m:Str)(kr:kU)(e:Expr)(ja:kU):Prop where
 base:aB o m X.env (Ė o X.env)=Ė o X.env
 Wb:((Ģ ja (Ï [e] X.env)).all (λx=>!x.1)&&(gz ja (bR [] X.env)).all (λx=>x.1.isSome)
  && decide (([e]:Á Expr).length+([]:Á iZ).length+(if ([]:Á iZ).isEmpty then 0 else 1)<30))=true
 line:(kr.endLine == ja.line)=true
 trees:Ģ ja (Ï [e] X.env)=[(false,Ė e X.env)]
structure M2 (X:Cx)(o:Expr)(m:Str)(kr:kU)(e f:Expr)(ja:kU):Prop where
 base:aB o m X.env (Ė o X.env)=Ė o X.env
 Wb:((Ģ ja (Ï [e,f] X.env)).all (λx=>!x.1)&&(gz ja (bR [] X.env)).all (λx=>x.1.isSome)
  && decide (([e,f]:Á Expr).length+([]:Á iZ).length+(if ([]:Á iZ).isEmpty then 0 else 1)<30))=true
 line:(kr.endLine == ja.line)=true
 trees:Ģ ja (Ï [e,f] X.env)=[(false,Ė e X.env),(false,Ė f X.env)]
def V2 (H:Hp)(a:Addr):Prop:=(∃b,Rd H a (.dK b))∨∃b,Rd H a (.dT b)
def vr (I:Inv X j l H s)(d:V2 H a) :
  s.TypeIs (.ref a) "dict"/\(∀b,Ò a=.ref b->∃c,s.heap.get? b=À c/\c.dict=none)/\(a == b8)=false:=by
 rcases d with⟨i,e⟩|⟨i,e⟩
 ·obtain⟨_,hd,k,_,f⟩:=sY I.ť e;refine⟨f.typeIs,λb q=>?_,hd⟩;cases q;obtain⟨c,_,_,g,h,_⟩:=f;exact⟨c,g,h.2.1⟩
 ·obtain⟨_,hd,xs,_,f⟩:=s_ I.ť e;refine⟨f.typeIs,λb q=>?_,hd⟩;cases q;obtain⟨c,_,_,g,h,_⟩:=f;exact⟨c,g,h.2.1⟩
section
variable {X:Cx}{þ:Á (Addr×Obj)}{σ:St}{H:Hp}{s:Ú}{a:Addr}{y d:V}{u r:Value}{o:Ð V}{A:Œ}{E:Value->Ú->Prop}
def Po (hu:A.units+1<cLine)(I:Inv X þ σ H s)(g:jh H a y o)(m:RelV y u)(h:∀n s',Inv X þ σ H s'->RelV (o.getD .Ğ) n->Q n s') :
  Ü (à X.prog X.w) A (call (.builtin "dict.get") [.ref a,u]) Q E s:=by
 rcases g with⟨j,k,e,i,l⟩|⟨j,k,b,e,i,p,l⟩
 ·subst i;obtain⟨z,hd,q,c,f⟩:=sY I.ť e;refine yF bx f.typeIs gb (zV _ _) (meets_dict_get (ż X.prog X.w) a (tq m) hd) ⟨_,f.mapOf,h _ _ (I.tok _) ?_⟩;rw[l];exact(c.val k).getD rfl
 ·subst i;cases (show u=Ò b from m);obtain⟨z,hd,xs,c,f⟩:=s_ I.ť e;refine yF bx f.typeIs gb (zV _ _) (meetsH_dict_get (mx (ż X.prog X.w)) a b hd) ⟨dS hu,k,xs,pD I.ť p,f,h _ _ (I.tok _) ?_⟩;rw[l];exact(c.val k).getD rfl
def Pp (hu:A.units+1<cLine)(I:Inv X þ σ H s)(g:jh H a y o)(n:RelV y u)(m:RelV d r)(h:∀p s',Inv X þ σ H s'->RelV (o.getD d) p->Q p s') :
  Ü (à X.prog X.w) A (call (.builtin "dict.get") [.ref a,u,r]) Q E s:=by
 rcases g with⟨j,k,e,i,l⟩|⟨j,k,b,e,i,q,l⟩
 ·subst i;obtain⟨z,hd,t,c,f⟩:=sY I.ť e;refine yF bx f.typeIs gb (zW _ _ _) (meets_dict_get_default (ż X.prog X.w) a (tq n) hd r) ⟨_,f.mapOf,h _ _ (I.tok _) ?_⟩;rw[l];exact(c.val k).getD m
 ·subst i;cases (show u=Ò b from n);obtain⟨z,hd,xs,c,f⟩:=s_ I.ť e;refine yF bx f.typeIs gb (zW _ _ _) (meetsH_dict_get_default (mx (ż X.prog X.w)) a b hd r) ⟨dS hu,k,xs,pD I.ť q,f,h _ _ (I.tok _) ?_⟩;rw[l];exact(c.val k).getD m
end
def R0 (c d:TE):TE:=λb H Q=>c b H λx A=>∃a,x=.ref a/\V2 A a/\d b A λy B=>∃o,jh B a y o/\Q (o.getD .Ğ) B
def R1 (c e d:TE):TE:=λb H Q=>c b H λx A=>∃a,x=.ref a/\V2 A a/\e b A λy C=>d b C λz B=>∃o,jh B a y o/\Q (o.getD z) B
section
variable {X:Cx}{o e f:Expr}{kr ja:kU}{td ty tx:TE}
def JA (hu:X.A.units+1<cLine)(l:PE X o td)(k:PE X e ty)(m:M1 X o "get" kr e ja):PE X (.Call (.Attribute o "get" kr) [e] [] ja) (R0 td ty):=by
 intro b s i H Q I h;refine VQ m.base m.Wb m.line lM bx B1 (aq (l b s i H _ I h) λu t v=>?_);obtain⟨x,C,B,q,a,j,d,n⟩:=v;subst j;obtain rfl:u=Ò a:=q;obtain⟨t1,t2,_⟩:=vr B d;refine⟨t1,t2,?_⟩;rw[m.trees];refine gy rfl (pa (fF (aq (k b t i C _ B n) λw J ⟨y,D,E,r,z,g,p⟩=>lG ?_)));exact Po hu E g r λM L G c=>⟨_,D,G,c,p⟩
def JB (hu:X.A.units+1<cLine)(p:PE X o td)(l:PE X e ty)(n:PE X f tx)(m:M2 X o "get" kr e f ja):PE X (.Call (.Attribute o "get" kr) [e,f] [] ja) (R1 td ty tx):=by
 intro b s j H Q I h;refine VQ m.base m.Wb m.line lM bx B1 (aq (p b s j H _ I h) λu N i=>?_);obtain⟨x,C,B,v,a,k,d,q⟩:=i;subst k;obtain rfl:u=Ò a:=v;obtain⟨t1,t2,_⟩:=vr B d;refine⟨t1,t2,?_⟩;rw[m.trees];refine gy rfl (pa (fF (aq (l b N j C _ B q) λT O i=>iR i λy D G w r=>
  fF (aq (n b O j D _ G r) λP Y ⟨z,E,J,M,U,g,t⟩=>lG ?_))))
 exact Pp hu J g w M λw' Z L c=>⟨_,E,L,c,t⟩
end
section
variable {X:Cx}{þ:Á (Addr×Obj)}{σ:St}{H:Hp}{s:Ú}{a:Addr}{kvs:Á (Key×V)}{A:Œ}{E:Value->Ú->Prop}
end
section
variable {X:Cx}{þ:Á (Addr×Obj)}{σ:St}{H:Hp}{s:Ú}{a:Addr}{y:V}{u:Value}{A:Œ}{E:Value->Ú->Prop}
end
end L2
namespace Zk
open PySem PySem.W PySem.Calls PyProof.Rows
def ud:∀ns vs,WellAll P h vs (ns.map Zg)->ux vs ns:=by
 intro ns;induction ns with
 |nil=>
  intro vs w;rw[Ų]at w;cases w;exact .nil
 |cons n ns c=>
  intro vs w;rw[Ô]at w;cases w with
  |cons a b=>
   cases a;exact .cons _ _ (c _ b)
def Gm {l:OpenLaw}{n:Nat}(t:l.most=À n){P:Params}{h:Heap}{args:Á WData}{c:Á Value}
  (b:l.row.toRowW.claim.pre args=true) (k:WellAll P h c args) :
  ∃a vs ns,c=[Ò a]/\args=[WData.list (ns.map Zg)]/\h.get? a=À {cls:=.type "list",data:=.seq vs.toArray}/\ux vs ns/\ns.length<=n:=by
 have j:WShape.hasAll [] args [.list .int]=true:=(pre_splitW b).1;have m:l.pre.holds [] {args:=args}=true:=(pre_splitW b).2;obtain⟨d,r,rfl,o,p⟩:=hasAllW_cons j;obtain rfl:=hasAllW_nil p;obtain⟨xs,rfl,s⟩:=hasW_list o;obtain⟨ns,rfl⟩:=items_int s;have f:ns.length<=n:=by
  unfold OpenLaw.pre at m;have g:(WTm.not (.lt (.lit (.int (n:Int))) (.len (.arg 0)))).holds [] {args:=[.list (ns.map .int)]}=true:=by
   have g:=(holds_andW m).1;rw[t]at g;exact g
  have i:=condW_of g (w_not (w_lt w_lit (w_len_list (w_arg rfl))));rw[Ê]at i;refine Nat.le_of_not_lt λq=>?_;have v:(n:Int)<((ns.length:Nat):Int):=by lia
  first
   |(rw[î v]at i;exact absurd i (by decide))
   |(simp at i;lia)
 cases k with
 |cons w x=>
  cases x;cases w with
  |list u e=>exact⟨_,_,ns,rfl,rfl,u,ud ns _ e,f⟩
def Ge (l:OpenLaw)(args:Á WData):l.row.toRowW.claim.post args (.bool true) args=true:=
 postW_of (r:=l.row.toRowW) (X:=(true == true))
  (show VL [] (.bool true) .bool=true by first|rfl|decide|simp[VL,WShape.arms,WShape.armsAll])
  (show(WTm.eq .res (.lit (.bool true))).value [] {args:=args,res:=À (.bool true),after:=args}=À (.bool (true == true))from w_eq_bool (w_res rfl) w_lit) rfl
def AB {l:OpenLaw}{n:Nat}{q:Č}{c:Á Str}{A:(Str->Ð Value)->Heap->Prop}{B:Ī->Heap->Prop}{d:DefRec}
  (N:l.most=À n) (s:d.params.defaults=[])
  (call:∀w jV b mg v h o x m e a vs ns,
   Ground q c [] A w jV mg v b.heap->B w b.heap->
   b.heap.get? h=À o->o.data=.func (docDef d.name d.params d.body d.scope x m e)->b.heap.CodeRec m d.name->mg d.name=À (.ref h)->
   b.heap.get? a=À {cls:=.type "list",data:=.seq vs.toArray}->ux vs ns->ns.length<=n->b.gens=#[]->
   e9 (à l.prog w) uA (.call (.ref h) ⟨[.ref a],[]⟩) (λr s'=>r=.ok (.ret (.bool true))/\OldK b.heap s'.heap/\s'.os=b.os/\n3 s'.gens) b) :
  WalkO q c A B l.row.toRowW d [] (λf vs=>GV f vs):=by
 intro w jV b mg v G Y h o x m e E kV O hd p z t J y D T k C Q u L;obtain rfl:E=.none:=Dflts.none z s;obtain rfl:kV=.none:=Dflts.noKw z;obtain⟨a,vs,ns,rfl,rfl,j,g,i⟩:=Gm N k u;refine enter_call (qk (call w jV b mg v h o x m e a vs ns G Y O (fd_plain hd) p t j g i J) λr s' P=>?_);obtain⟨rfl,F,H,I⟩:=P;exact⟨.inl ⟨.bool true,.bool true,[],rfl,λ_=>rfl,.bool true,Ge l _,λ_=>⟨ow,λ_ M=>(nomatch M)⟩⟩,F,H,I⟩
section
variable {prog:Č}{w:Ī}{A:Œ}{E:Value->Ú->Prop}{s:Ú}{K:Frag}
end
end Zk
namespace L2
open PySem PySem.Spec PyProof.Rows
theorem yt:∀{vs:Á Value}{ns:Á Int},ux vs ns->Vals (ns.map V.int) vs
 |_,_,.nil=>.nil
 |_,_,.cons n t h=>.cons ⟨t,rfl⟩ (yt h)
noncomputable def inClass (s:Stmt)(j:Nat):Stmt:=match s with
 |.ClassDef _ _ _ a _ _ _ _ _ _ _=>a.getD j (.Pass ⟨0,0,0,0⟩)
 |_=>.Pass ⟨0,0,0,0⟩
noncomputable def cH (s:Stmt):Arguments:=match s with
 |.FunctionDef _ a _ _ _ _ _ _ _ _=>a
 |_=>{posonlyargs:=[],args:=[],vararg:=none,kwonlyargs:=[],kw_defaults:=[],kwarg:=none,defaults:=[]}
def aN (s:Stmt):Á Stmt:=match s with
 |.FunctionDef _ _ b _ _ _ _ _ _ _=>b
 |_=>[]
def ě (s:Stmt):Scope:=match s with
 |.FunctionDef _ _ _ _ _ _ a _ _ _=>a
 |_=>{kind:=.function,names:=[],isGenerator:=false,isCoroutine:=false}
abbrev E0:XK:=λ_ _ _=>False
structure G4 (K:É)(x qual:Str)(st:Stmt)(f:Addr)(fd:eB):Prop where
 ex:∃oc od kV doc pm an Zu ct osl,
  fd=ō x qual (cH st) (aN st) (ě st) .none kV doc pm an Zu ct/\K.lookup f=À ⟨oc,od,.func fd,osl⟩/\dN K Zu qual=true
 kp:į K (.ref f)=true
section
variable {P:Č}{w:Ī}{K:É}{mg:Str->Ð Value}{base:Heap}
def G4.binds {x a:Str}{st:Stmt}{f:Addr}{g:eB}{ps:Á Str}(F:G4 K x a st f g)
  (h:∀kV c e d b ct us,us.length=ps.length->kj (ō x a (cH st) (aN st) (ě st) .none kV c e d b ct) ⟨us,[]⟩=pure (ps.zip us)):Binds K g ps []:=by
 obtain⟨l,m,kV,c,e,d,b,ct,j,rfl,k,i⟩:=F.ex;exact .all (h kV c e d b ct)
def zd {x a:Str}{st:Stmt}{f:Addr}{i:Value}{od g:Ð Addr}{e:ę (Ð Value)}{kV d h b ct:Value}(l:K.lookup f=À ⟨i,od,.func (ō x a (cH st) (aN st) (ě st) .none kV d h g b ct),e⟩)
  (c:dN K b a=true) (k:į K (.ref f)=true):G4 K x a st f (ō x a (cH st) (aN st) (ě st) .none kV d h g b ct):=⟨⟨i,od,kV,d,h,g,b,ct,e,rfl,l,c⟩,k⟩
end
def Ot (hr:cS k A):A.units+1<cLine:=bJ (K5 (by decide:1<=64) _) hr.units
def ũ (h:n<=1000):n<sizeLine:=bJ h (by decide)
section
variable {X:Cx}
def pv (i:Nat)(b:X.N[i]?=À x:=by rfl)(c:V7 X.env.scope x:=by first|exact BY rfl|exact GL (BY rfl)|exact GL (GL rfl)) (hd:(x == ("__debug__":Str))=false:=by decide)
  (a:(x == ("__classdict__":Str))=false:=by decide):PE X (.Name x pos) (R7 i):=Rh b c hd a
end
section
variable {κ:Type} [kh κ]
end
end L2
set_option maxHeartbeats 4000000
namespace L2
open PySem PySem.Spec PyProof.Rows
def j2 (X:Cx)(scope:Scope):Á (Str×Ð Nat)->Prop
 |[]=>True
 |(_,none)::r=>j2 X scope r
 |(x,À j)::r=>(X.N[j]?=À x/\scope.names.lookup x=À .free/\(X.env.kindOf x=À .cell∨X.env.kindOf x=À .free))/\j2 X scope r
def Dm (l:Á (Str×Ð Nat)) (a:St):St:=l.map λp=>p.2.bind λj=>(a[j]?).join
theorem j2.get:∀{l:Á (Str×Ð Nat)},j2 X scope l->∀{i:Nat}{x:Str}{j:Nat},l[i]?=À (x,À j)->
  X.N[j]?=À x/\scope.names.lookup x=À .free/\(X.env.kindOf x=À .cell∨X.env.kindOf x=À .free)
 |[],_,i,x,j,e=>by simp at e
 |(y,none)::r,h,0,x,j,e=>by simp at e
 |(y,none)::r,h,i+1,x,j,e=>j2.get (l:=r) h (i:=i) (by simpa using e)
 |(y,À k)::r,h,0,x,j,e=>by
  simp at e;obtain⟨rfl,rfl⟩:=e;exact h.1
 |(y,À k)::r,h,i+1,x,j,e=>j2.get (l:=r) h.2 (i:=i) (by simpa using e)
theorem px (env:KS):∀(names:Á (Str×mH)) (b:Á (Str×Addr)),(∀x∈names,x.2=.free->∃c,env.cells.lookup x.1=À c)->
  ∃cl,(forIn names b (λ(x:Str×mH) (q:Á (Str×Addr))=>(if x.2 == .free then do let a <-cellOf env x.1;pure (bC ((x.1,a)::q))else pure (bC q):Za (ForInStep (Á (Str×Addr))))))=pure cl/\
   (∀y c,cl.lookup y=À c->env.cells.lookup y=À c∨b.lookup y=À c)/\(∀x∈names,x.2=.free->∃c,cl.lookup x.1=À c )/\(∀y,(∃c,b.lookup y=À c)->∃c,cl.lookup y=À c)
 |[],b,h=>⟨b,rfl,λ_ _ e=>.inr e,λ_ hx=>(nomatch hx),λ_ e=>e⟩
 |(n,k)::r,b,h=>by
  by_cases o:k=.free
  ·subst o;obtain⟨c,s⟩:=h (n,.free) Ŀ rfl;obtain⟨cl,i,j,l,f⟩:=px env r ((n,c)::b) λx hx=>h x (Ċ _ hx);have v:cellOf env n=pure c:=by
    unfold cellOf;have m:env.cells.lookup n=À c:=s;rw[m]
   have p:∃t,cl.lookup n=À t:=f n ⟨c,by simp[ĥ]⟩;refine⟨cl,?_,λy d e=>?_,λx hx g=>?_,λy ⟨d,e⟩=>?_⟩
   ·rw[jO];simp only[Aq,fI,v,pure_bind];exact i
   ·rcases j y d e with z|z
    ·exact .inl z
    ·rw[ĥ]at z;split at z
     ·rename_i w;have:y=n:=by simpa using w
      subst this;cases z;exact .inl s
     ·exact .inr z
   ·rcases ß.mp hx with rfl|hx
    ·exact p
    ·exact l x hx g
   ·refine f y ?_;rw[ĥ];split
    ·exact⟨_,rfl⟩
    ·exact⟨d,e⟩
  ·obtain⟨cl,i,j,l,f⟩:=px env r b λx hx=>h x (Ċ _ hx);have u:(k == œ)=false:=by simpa using o
   refine⟨cl,?_,j,λx hx g=>?_,f⟩
   ·rw[jO];simp only[u,Ŵ,fz,pure_bind];exact i
   ·rcases ß.mp hx with rfl|hx
    ·exact absurd g o
    ·exact l x hx g
def oU (h:∀x∈scope.names,x.2=.free->∃c,env.cells.lookup x.1=À c) :
  ∃cl,qj scope env=pure cl/\(∀y c,cl.lookup y=À c->env.cells.lookup y=À c)/\∀x∈scope.names,x.2=.free->∃c,cl.lookup x.1=À c:=by
 obtain⟨cl,b,d,f,_⟩:=px env scope.names [] h;refine⟨cl,?_,λy c e=>(d y c e).elim id λz=>by simp at z,f⟩;unfold qj;have a:=b;simp only[bind_pure_comp]at a⊢;first
  |(rw[a];rfl)
  |(simp only[a];rfl)
  |(simpa using a)
theorem iU {env:KS}:∀{names:Á (Str×mH)}{x:Str},names.lookup x=À .free->
    ((names.map λ(n,k)=>if (k == œ&&env.scope.kind == .function&&env.kindOf n == À .cell)then (n,bY)else (n,k)).lookup x=À .cell∨
     (names.map λ(n,k)=>if (k == œ&&env.scope.kind == .function&&env.kindOf n == À .cell)then (n,bY)else (n,k)).lookup x=À .free)
  |[],_,h=>by simp at h
  |(n,k)::r,x,h=>by
    have c:=@iU env r x;show eK x ((if (k == œ&&env.scope.kind == .function&&env.kindOf n == À .cell)=true then (n,bY)else (n,k))::_)=_∨eK x ((if (k == œ&&env.scope.kind == .function&&env.kindOf n == À .cell)=true then (n,bY)else (n,k))::_)=_;cases a:x == n with
    |true=>
      simp only[ĥ,a]at h;cases h;by_cases b:(œ == œ&&env.scope.kind == .function&&env.kindOf n == À .cell)=true
      · rw[Ë b];left;simp[ĥ,a]
      · rw[Ñ b];right;simp[ĥ,a]
    |false=>
      simp only[ĥ,a]at h;by_cases b:(k == œ&&env.scope.kind == .function&&env.kindOf n == À .cell)=true
      · rw[Ë b];simp only[ĥ,a];exact c h
      · rw[Ñ b];simp only[ĥ,a];exact c h
theorem qO {env:KS}{x:Str}:∀{names:Á (Str×mH)},
    ((names.map λ(n,k)=>if (k == œ&&env.scope.kind == .function&&env.kindOf n == À .cell)then (n,bY)else (n,k)).lookup x=À .cell∨
     (names.map λ(n,k)=>if (k == œ&&env.scope.kind == .function&&env.kindOf n == À .cell)then (n,bY)else (n,k)).lookup x=À .free)->(x,œ)∈names∨names.lookup x=À .cell
  |[],h=>by simp at h
  |(n,k)::r,h=>by
    have e:=@qO env x r;simp only[Ô]at h;by_cases c:(k == œ&&env.scope.kind == .function&&env.kindOf n == À .cell)=true
    · rw[Ë c]at h
      have d:k=.free:=by
        have:=(GH.mp (GH.mp c).1).1;simpa using this
      by_cases b:x=n
      · rw[b,d];exact .inl Ŀ
      · have a:(x == n)=false:=by simpa using b
        simp only[ĥ,a]at h⊢;exact(e h).imp (Ċ _) id
    · rw[Ñ c]at h
      by_cases b:x=n
      · have a:(x == n)=true:=by simpa using b
        simp only[ĥ,a]at h⊢;rcases h with h|h
        · exact .inr h
        · rw[b,è h];exact .inl Ŀ
      · have a:(x == n)=false:=by simpa using b
        simp only[ĥ,a]at h⊢;exact(e h).imp (Ċ _) id
theorem kC:∀names n a more,bS n names (a++more)=bS n names a++more
 |[],_,_,_=>rfl
 |(x,k)::r,n,a,more=>by
  unfold bS;split
  ·exact kC r (n+1) ((x,n)::a) more
  ·exact kC r n a more
theorem kF:∀names n a x c,(x,c)∈bS n names a->(x,bY)∈names∨(x,c)∈a
 |[],_,_,_,_,h=>.inr h
 |(y,k)::r,n,a,x,c,h=>by
  unfold bS at h;split at h
  ·rename_i b;have b:k=.cell:=by simpa using b
   rcases kF r _ _ x c h with z|z
   ·exact .inl (Ċ _ z)
   ·rcases ß.mp z with z|z
    ·cases z;rw[b];exact .inl Ŀ
    ·exact .inr z
  ·exact(kF r _ _ x c h).imp (Ċ _) id
def oK 
  (h:Q (newEnv scope s.heap.objs.size b (bS (s.heap.objs.size+1) scope.names a) d none .none (À outer) 0) {s with heap:=Le (s.heap.push {cls:=.type "dict",data:=.dict #[]}) scope.names}) :
  Ü M A (tZ scope b a [] d none .none (À outer)) Q E s:=by
 simp only[tZ,GK,fI];refine Â (wpAny_alloc ?_);refine Â (wpAny_layCells _ (λg c e=>by cases f:c == bY<;>simp[f]) _ _ _ _ ?_);rw[show({s with heap:=s.heap.push {cls:=.type "dict",data:=.dict #[]}}:Ú).heap.objs.size=s.heap.objs.size+1 from ĺ ..];exact Â (Ì (Ì h))
noncomputable def aw (X:Cx)(l:Á (Str×Ð Nat)) (scope:Scope)(cl:Á (Str×Addr)) (C:Addr)(a:Á Addr)(b:Ú)(A:Hp):Cx:=
 {X with N:=l.map (·.1),jV:=b,xa:=A,env:=OZ scope cl C X.env,outer:=X.stack,ex:=a,fn:=λx=>scope.names.lookup x == À .cell,pn:=[],xe:=λ_ _=>False}
def Lg (X:Cx)(b:Á Expr)(t:TT):Prop:=
 ∀a s d H Q,Inv X a d H s->t d H Q->
  Ü (à X.prog X.w) X.A (forIn b true λc r=>if r=true then do let e <-Ff c X.env (Ė c X.env);pure (bC e)else pure (bC r)) (TP X a d Q) X.xe s
def Yx:TT:=λ_ H Q=>Q true H
def Nl:Lg X [] Yx:=λ_ _ _ H _ I h=>wpAny_tests_nil ⟨H,I,h⟩
def Nm (h:PT X c t):Lg X [c] t:=λa s b H Q I hw=>wpAny_tests_one (h a s b H Q I hw)
def G6 (e i:Expr)(g:Á Expr)(p:kU)(d:Nat)(body:Value->KS->Za Unit):Prop:=
 ∀f b a,compTurn e d f b a=(jW p >>= λ_=>gg f >>= λr=>match r with
  |none=>pure (.done .next)
  |some v=>la i f v >>= λ_=>k9 i a v >>= λ_=>(forIn g true λc r=>if r=true then do let h <-Ff c a (Ė c a);pure (bC h)else pure (bC r)) >>= λh=>
   if h=true then body b a >>= λ_=>again (.compLoop e d f b a)else again (.compLoop e d f b a))
def O5 (e:Expr):Prop:=(∃a b c d,e=.ListComp a b c d)∨∃a b c d,e=.SetComp a b c d
def yZ (H:O5 e)(N:G6 e J G p d body)(I:Nat->Ú->Prop)
  (D:∀n s,I n s->Ü (à prog w) A (gg z) (λr a=>match r with
   |none=>R (.ok .next) a
   |some v=>Ü (à prog w) A (la J z v) (λ_ o=>Ü (à prog w) A (k9 J env v) (λ_ k=>
     Ü (à prog w) A (forIn G true λc r=>if r=true then do let C <-Ff c env (Ė c env);pure (bC C)else pure (bC r)) (λC b=>
      if C=true then Ü (à prog w) A (body g env) (λ_ l=>∃m,m<n/\I m l) (λ_ _=>False) b
      else ∃m,m<n/\I m b) (λ_ _=>False) k) (λ_ _=>False) o) (λ_ _=>False) a) (λ_ _=>False) s)
  (n:Nat) (h:I n s) :
  e9 (à prog w) A (.compLoop e d z g env) R s:=by
 have B:∀{L:Type}{t:Za L}{Q:L->Ú->Prop}{E:Value->Ú->Prop}{s:Ú},Ü (à prog w) A t Q (λ_ _=>False) s->Ü (à prog w) A t Q E s:=λh=>aE h (λ_ _ q=>q) λ_ _ f=>f.elim;refine codeAny_loop rfl I (λn s M=>?_) n h;have hd:(à prog w).den (.compLoop e d z g env)=(compTurn e d z g env).onRaise (λx=>do Ld x env;theTreesLotGoes x):=by rcases H with⟨_,_,_,_,rfl⟩|⟨_,_,_,_,rfl⟩<;>rfl
 have hu:A.under (.compLoop e d z g env)=A:=by rcases H with⟨_,_,_,_,rfl⟩|⟨_,_,_,_,rfl⟩<;>rfl
 rw[hd,hu];refine wpAny_noted ?_;rw[N];refine Â (eO (Â (aq (B (D n s M)) (λr a i=>?_))));cases r with
 |none=>exact Ì i
 |some v=>
  refine Â (aq (B i) λ_ O F=>?_);refine Â (aq (B F) (λ_ k u=>Â (aq (B u) (λC b j=>?_))));cases C with
  |false=>exact Ì ⟨rfl,j⟩
  |true=>exact Â (aq (B j) (λ_ l y=>Ì ⟨rfl,y⟩))
def xi (g:O5 e)(l:(clausesOf e)[d]?=À f) (k:f.is_async=0)
  (h0:e9 (à prog w) A (.compLoop e d b a env) R s)
  (h:Ü (à prog w) A (LA b) (λc s'=>e9 (à prog w) A (.compLoop e d c a env) R s') (λ_ _=>False) s) :
  e9 (à prog w) A (.compStart e d b a env) R s:=by
 refine codeAny_of_tree ?_;have hd:(à prog w).den (.compStart e d b a env)=(compStart e d b a env).onRaise (λx=>do Ld x env;jW theWindowsPlace):=by rcases g with⟨_,_,_,_,rfl⟩|⟨_,_,_,_,rfl⟩<;>rfl
 have hu:A.under (.compStart e d b a env)=A:=by rcases g with⟨_,_,_,_,rfl⟩|⟨_,_,_,_,rfl⟩<;>rfl
 rw[hd,hu];refine wpAny_notedAt ?_;unfold compStart;rw[l];have i:(À f).elim false (λx=>x.is_async != 0)=false:=by show(f.is_async != 0)=false;rw[k];rfl
 rw[i];show Ü _ _ (ask >>= _) _ _ s;refine Â (wpAny_askSetting (wpAny_ite ?_));split
 ·first
   |exact Â (Ì (Ì (OU rfl h0)))
   |exact Ì (OU rfl h0)
 ·exact Â (b9 (Â (eO (Â (aE h (λc s' j=>Ì (OU rfl j)) λ_ _ x=>x.elim)))))
def Oe (l:Á (Str×Ð Nat)) (g:TG)(h:TT)(f:TE)(J:It)(j:St)(B:Hp)(Q:Addr->Hp->Prop):Prop:=
 ∀D,B D=none->∃W:Nat->Nat->Á V->St->Hp->Prop,(∃m,W 0 m [] (Dm l j) (upd B D (.lst [])))/\∀i m c e A,W i m c e A->
  (J.stop i A/\Q D A)∨(J.go i A/\∀x C,J.Ln i A x C->g x e C λa G=>h a G λb E=>
   if b=true then f a E λv F=>F D=À (.lst c)/\c.length<sizeLine/\∃d,d<m/\W (i+1) d (c++[v]) a (upd F D (.lst (c++[v])))else ∃d,d<m/\W (i+1) d c a E)
def RZ (l:Á (Str×Ð Nat)) (d:TI)(g:TG)(c:TT)(b:TE)(a:St)(H:Hp)(Q:Addr->Hp->Prop):Prop:=
 d a H λJ A=>Oe l g c b J a A Q
def Ho {α:Type}{X:Cx}{ifs:Á Expr}{scope:Scope}{cl:Á (Str×Addr)}{l:Á (Str×Ð Nat)}{g:TG}{tt:TT}{body:Value->KS->Za Unit}{gc:Comprehension} 
  (hn:O5 e) (TU:G6 e tg ifs p 0 body) (hgc:(clausesOf e)[0]?=À gc) (has:gc.is_async=0)
  (M:∀y c,cl.lookup y=À c->X.env.cells.lookup y=À c) (TM:∀x∈scope.names,x.2=.free->∃c,cl.lookup x.1=À c)
  (TQ:scope.kind=.function) (TL:∀y∈scope.names,y.2=.cell->scope.names.lookup y.1=À .cell) (Oq:X.calm=true) (Xq:j2 X scope l)
  (hg:∀cl C F f I,PG (aw X l scope cl C F f I) tg g) (ht:∀cl C F f I,Lg (aw X l scope cl C F f I) ifs tt)
  {N:Á (Addr×Obj)}{Z:St}{f:Ú}{F:Á Addr}{tn:Nat->Heap->Prop}{J:It}{Q:Hp->Prop}{RR:Addr->SO->Ú->Prop}{E:Value->Ú->Prop}
  {W:Nat->Nat->α->St->Hp->Prop}{B:Nat->Nat->α->St->Hp->Prop}{y0:α}
  (t:∀cl C F f I N s i m ys Z H,Inv (aw X l scope cl C F f I) N Z H s->B i m ys Z H->
   Ü (à X.prog X.w) X.A (body (.ref D) (OZ scope cl C X.env)) (λ_ s'=>∃m' Wr P H',m'<m/\Inv (aw X l scope cl C F f I) N P H' s'/\W (i+1) m' Wr P H') (λ_ _=>False) s)
  (L:Inv X N Z I f) (T:Turn X.prog X.w X.K tg J F it tn) (Vg:tn 0 f.heap) (G:∀b∈F,t_ X N I b)
  (w0:W 0 m0 y0 (Dm l Z) I)
  (turn:∀i m ys Wu H2,W i m ys Wu H2->(J.stop i H2/\Q H2)∨(J.go i H2/\∀x I,J.Ln i H2 x I->g x Wu I λWv H4=>tt Wv H4 λb H5=>if b=true then B i m ys Wv H5 else ∃m',m'<m/\W (i+1) m' ys Wv H5))
  (Xj:∀C (s':Ú) (H':Hp),Q H'->(∃m,s'.heap.Ns C m)->Inv X N Z H' s'->t_ X N H' C->RR C (.ok .next) s') :
  Ü (à X.prog X.w) X.A (tZ scope X.env.globals cl [] X.env.qual none .none (À X.env)) (λTe s₄=>
   e9 (à X.prog X.w) X.A (.compStart e 0 (.ref it) (.ref D) {Te with scope:=relabel scope X.env}) (RR Te.locals) s₄) E f:=by
 refine oK ?_;have eC:(newEnv scope f.heap.objs.size X.env.globals (bS (f.heap.objs.size+1) scope.names cl) X.env.qual none õ (À X.env) 0).locals=f.heap.objs.size:=rfl;have Xa:=cellsFrom_ok scope.names (f.heap.push {cls:=.type "dict",data:=.dict #[]}) (f.heap.objs.size+1) [] ⟨λ_ _ hm=>(nomatch hm),ow⟩ (by rw[ĺ];exact Î _);rw[ĺ]at Xa;have ecs:bS (f.heap.objs.size+1) scope.names cl=bS (f.heap.objs.size+1) scope.names []++cl:=kC scope.names _ [] cl;have hns:(Le (f.heap.push {cls:=.type "dict",data:=.dict #[]}) scope.names).Ns f.heap.objs.size (λ_=>none):=(Heap.Ns.new f.heap (.type "dict")).keeps (Zj _ _);have old:∀b o,f.heap.get? b=À o->(Le (f.heap.push {cls:=.type "dict",data:=.dict #[]}) scope.names).get? b=À o:=λb o e=>Zj _ _ b o (Ä _ e);rw[ecs]at *
 have ownN:∀x c,(bS (f.heap.objs.size+1) scope.names []).lookup x=À c->scope.names.lookup x=À .cell:=λx c e=>by
  rcases kF _ _ _ _ _ (mem_of_lookup e)with z|z
  ·exact TL _ z rfl
  ·exact nomatch z
 have ownS:∀x,scope.names.lookup x=À .cell->∃c,(bS (f.heap.objs.size+1) scope.names []).lookup x=À c:=λx e=>cg.mp (mJ scope.names _ [] (.inl e));generalize aaa:bS (f.heap.objs.size+1) scope.names []=a at *
 generalize hh4:Le (f.heap.push {cls:=.type "dict",data:=.dict #[]}) scope.names=h4 at *
 generalize hC:f.heap.objs.size=C at *
 have eE:({newEnv scope C X.env.globals (a++cl) X.env.qual none õ (À X.env) 0 with scope:=relabel scope X.env}:KS)=OZ scope (a++cl) C X.env:=rfl;have cs_of:∀x c,(a++cl).lookup x=À c->(a.lookup x=À c/\h4.IsCell c none/\C+1<=c)∨(a.lookup x=none/\cl.lookup x=À c):=λx c e=>by
  rw[sQ]at e;cases q:a.lookup x with
  |none=>rw[q]at e;exact .inr ⟨rfl,e⟩
  |some d=>rw[q]at e;cases e;exact .inl ⟨rfl,Xa.empty x c (mem_of_lookup q)⟩
 have of_cl:∀x c,scope.names.lookup x≠À .cell->cl.lookup x=À c->(a++cl).lookup x=À c:=λx c n e=>by
  rw[sQ];cases q:a.lookup x with
  |none=>exact e
  |some d=>exact(n (ownN x d q)).elim
 have cltC:∀y c,cl.lookup y=À c->c<C:=λy c e=>by
  obtain⟨v,q⟩:=L.cell y c (M y c e);have:=q.lt;rw[hC]at this;exact this
 have fpC:∀b∈F,b≠C:=λb t z=>by
  obtain⟨o,ho,_⟩:=T.obj _ _ Vg b t;exact absurd (Ó ho) (by rw[z,hC];exact ŋ _)
 have cellC:∀y c,(a++cl).lookup y=À c->c≠C:=λy c e z=>by
  rcases cs_of y c e with⟨_,_,q⟩|⟨_,q⟩
  ·rw[z]at q;exact absurd q (Nat.not_succ_le_self _)
  ·exact absurd (cltC y c q) (by rw[z];exact ŋ _)
 have fpB:∀b∈F,b<C:=λb t=>by
  obtain⟨o,ho,_⟩:=T.obj _ _ Vg b t;rw[<-hC];exact Ó ho
 have fpCs:∀b∈F,∀x c,(a++cl).lookup x=À c->c≠b:=λb t x c e z=>by
  rcases cs_of x c e with⟨_,_,q⟩|⟨_,q⟩
  ·rw[z]at q;exact absurd (ì (fpB b t) (uS q)) (ŋ _)
  ·exact(G b t).2.2.2.2.1 x c (M x c q) z
 have H3C:I C=none:=by
  have:=L.fresh;rw[hC]at this;exact this
 have OK:(aw X l scope (a++cl) C F f I).Ok:={
  mod:=L.ok.mod
  kind:=TQ
  glob:=L.ok.glob
  blt:=L.ok.blt
  above:=ki hC
  inj:=λx y c e1 e2=>by
   rcases cs_of x c e1 with⟨p1,_,p3⟩|⟨_,p1⟩<;>rcases cs_of y c e2 with⟨q1,_,q3⟩|⟨_,q1⟩
   ·exact name_of_addr Xa.apart (mem_of_lookup p1) (mem_of_lookup q1)
   ·exact absurd (cltC y c q1) (oB.mpr (uS p3))
   ·exact absurd (cltC x c p1) (oB.mpr (uS q3))
   ·exact L.ok.inj x y c (M x c p1) (M y c q1)
  has:=λx hx=>by
   show ∃c,(a++cl).lookup x=À c
   rw[sQ]
   cases q:a.lookup x with
   |some d=>exact⟨d,rfl⟩
   |none=>
    rcases qO hx with z|z
    ·obtain⟨c,e⟩:=TM (x,.free) z rfl
     exact⟨c,e⟩
    ·obtain⟨c,e⟩:=ownS x z
     rw[q]at e;cases e
  Og:=λx c hf e=>by
   have hf:(scope.names.lookup x == À bY)=true:=hf
   have hf:scope.names.lookup x=À .cell:=by simpa using hf
   obtain⟨d,ed⟩:=ownS x hf
   rcases cs_of x c e with⟨_,_,q⟩|⟨q,_⟩
   ·show f.heap.objs.size<=c
    rw[hC];lia
   ·rw[q]at ed;cases ed
  hd:=L.ok.hd
  frames:=L.ok.frames
  RY:=.inl rfl
  Tq:=λb t=>⟨fpC b t,fpCs b t⟩
  bs:=λb o e=>L.bs b o e
  Fo:=đ L.ok.Fo L.sz
  Bp:=λb o e t=>by
   rcases(G b t).2.2.2.1 with z|z
   ·exact L.ok.Bp b o e z
   ·exact absurd (ì (Ó e) (đ L.ok.Fo z)) (ŋ _)
  AZ:=λb t hz=>by
   rcases ß.mp (L.Dp b hz)with z|z
   ·exact(G b t).2.1 z
   ·exact(G b t).2.2.1 z
  pA:=L.stack
  Lj:=L.uM}
 have fpX:∀{H':Hp},(∀b∈F,H' b=none)->∀b∈F,t_ (aw X l scope (a++cl) C F f I) [] H' b:=λhn b t=>
  ⟨hn b t,fpC b t,OK.AZ b t,.inl t,fpCs b t,λp hp=>nomatch hp⟩
 have I4:Inv (aw X l scope (a++cl) C F f I) [] (Dm l Z) I {f with heap:=h4}:={
  ok:=OK
  os:=rfl
  bare:=L.bare
  base:=Un.kept old
  loc:=by
   refine⟨_,hns,λi x v e1 e2 e3=>?_⟩
   have To:(l.map (·.1))[i]?=À x:=e1
   have Wa:(l.map λp=>p.2.bind λj=>(Z[j]?).join)[i]?=À (À v):=e2
   rw[é]at To Wa
   cases el:l[i]? with
   |none=>rw[el]at To;cases To
   |some p=>
    rw[el]at To Wa
    obtain⟨y,o⟩:=p
    have Xd:y=x:=è To
    subst Xd
    cases o with
    |none=>cases Wa
    |some j=>
     have Y:(Z[j]?).join=À v:=è Wa
     have ej:Z[j]?=À (À v):=by
      cases q:Z[j]? with
      |none=>rw[q]at Y;cases Y
      |some z=>rw[q]at Y;exact Ĳ À Y
     obtain⟨k1,k2,k3⟩:=Xq.get el
     obtain⟨m,hn,hl⟩:=L.loc
     obtain⟨u,r,lk⟩:=hl j y v k1 ej (k3.elim (λz=>.inr (.inl z)) λz=>.inr (.inr z))
     refine⟨u,r,.inr ⟨iU k2,?_⟩⟩
     rcases lk with⟨z,_⟩|⟨_,c,ec,PV⟩
     ·rcases k3 with k3|k3<;>(rw[z]at k3;cases k3)
     ·have hm:(y,œ)∈scope.names:=by
       have:∀{O:Á (Str×mH)},O.lookup y=À œ->(y,œ)∈O:=by
        intro O
        induction O with
        |nil=>intro h;simp at h
        |cons q r ih=>
         intro h
         obtain⟨n,k⟩:=q
         rw[ĥ]at h
         split at h
         ·rename_i hy
          have:y=n:=by simpa using hy
          subst this
          cases h
          exact Ŀ
         ·exact Ċ _ (ih h)
       exact this k2
      obtain⟨c',Zv⟩:=TM _ hm rfl
      have:c'=c:=by
       have:=M _ _ Zv
       rw[ec]at this
       exact(è this).symm
      subst this
      obtain⟨o,ho,hd⟩:=PV
      exact⟨c',of_cl _ _ (by rw[k2];intro z;cases z) Zv,o,old _ _ ho,hd⟩
  cell:=λx c e=>by
   rcases cs_of x c e with⟨_,q,_⟩|⟨_,q⟩
   ·exact⟨none,q⟩
   ·obtain⟨v,o,ho,hd⟩:=L.cell x c (M x c q)
    exact⟨v,o,old _ _ ho,hd⟩
  free:=H3C
  jw:=λx c e=>by
   rcases cs_of x c e with⟨_,_,q⟩|⟨_,q⟩
   ·exact L.ť.fresh (by rw[hC];lia)
   ·exact L.jw x c (M x c q)
  pin:=λp hp=>nomatch hp
  ť:=L.ť.kept old
  len:=by show(List.map _ l).length=(List.map _ l).length;rw[Ê,Ê]}
 have Ye:tn 0 h4:=T.keep _ _ _ Vg λb _ o e=>old b o e;have loop:∀s4:Ú,s4={f with heap:=h4}->
   e9 (à X.prog X.w) X.A (.compLoop e 0 (.ref it) (.ref D) (OZ scope (a++cl) C X.env)) (RR C) s4:=by
  rintro s4 rfl;refine yZ hn TU (λn s'=>∃i ys P H',Inv (aw X l scope (a++cl) C F f I) [] P H' s'/\tn i s'.heap/\(∀b∈F,H' b=none)/\W i n ys P H') ?_ m0
   ⟨0,y0,Dm l Z,I,I4,Ye,λb t=>(G b t).1,w0⟩
  rintro n s5 ⟨i,ys,Ww,H5,I5,Z1,Zx,w5⟩;rcases turn i n ys Ww H5 w5 with⟨stop,q⟩|⟨go,step⟩
  ·refine aq (T.done (aw X l scope (a++cl) C F f I) rfl rfl rfl Oq i [] s5 Ww H5 _ I5 (fpX Zx) Z1 stop) λr s6 zz=>?_;obtain⟨hr,I6⟩:=zz;subst hr;obtain⟨m6,hn6,_⟩:=I6.loc;have u:Un (z_ X.stack) F I H5 f.heap s6.heap:=I6.base;refine Xj C s6 H5 q ⟨m6,hn6⟩ (L.Tc (s':=s6) (ch:=F) I6.os u I6.ť I6.bare λb t=>⟨(G b t).2.2.2.1,(G b t).2.1,(G b t).2.2.2.2.1,(G b t).2.2.2.2.2⟩) ?_;have hle:f.heap.objs.size<=C:=ki hC;have f0:=L.A3 (H':=H5) hle I6.free;exact f0
  ·refine aq (T.item (aw X l scope (a++cl) C F f I) rfl rfl rfl Oq i [] s5 Ww H5 _ I5 (fpX Zx) Z1 go) λr s6 zz=>?_;obtain⟨u,hr,h6⟩:=zz;subst hr;refine aq h6 λ_ s7 zz=>?_;obtain⟨x,H7,I7,r7,y7,Yf,fr7⟩:=zz;have I7':=I7.pinned (fpX fr7) (T.obj _ _ Yf);have back:∀{U:St}{H8:Hp}{s8:Ú},Inv (aw X l scope (a++cl) C F f I) ([]++vS F s7.heap) U H8 s8->Inv (aw X l scope (a++cl) C F f I) [] U H8 s8/\tn (i+1) s8.heap/\∀b∈F,H8 b=none:=λ{U H8 s8} I8=>by
    refine⟨I8.qR,T.keep _ _ _ Yf λb t o e=>(I8.pin (b,o) (Ě _ (Ě _ (mf t e)))).1,λb t=>?_⟩;obtain⟨o,e,d⟩:=T.obj _ _ Yf b t;exact(I8.pin (b,o) (Ě _ (Ě _ (mf t e)))).2.1
   refine aq (hg (a++cl) C F f I _ s7 Ww H7 x u _ I7' r7 (step x H7 y7)) λ_ s8 zz=>?_;obtain⟨U,H8,I8,q8⟩:=zz;refine aq (ht (a++cl) C F f I _ s8 U H8 _ I8 q8) λok s9 zz=>?_;obtain⟨H9,I9,q9⟩:=zz;cases ok with
   |false=>
    rw[Ñ (by decide)]at q9⊢;obtain⟨m',hm,w9⟩:=q9;obtain⟨z1,z2,z3⟩:=back I9;exact⟨m',hm,i+1,ys,U,H9,z1,z2,z3,w9⟩
   |true=>
    rw[Ë rfl]at q9⊢;refine aq (t (a++cl) C F f I _ s9 i n ys U H9 I9 q9) λ_ Ya zz=>?_;obtain⟨m',Wr,P,H',hm,I11,w10⟩:=zz;obtain⟨z1,z2,z3⟩:=back I11;exact⟨m',hm,i+1,Wr,P,_,z1,z2,z3,w10⟩
 exact xi hn hgc has (loop _ rfl) (T.self _ 0 _ _ _ Ye (loop _ rfl))
def LH {Y:Cx}{n:TE}(o:PE Y elt n)(c:Y.xe=λ_ _=>False){ys:Á V}{a:Á (Addr×Obj)}{d:St}{N:V->Hp->Prop}(I:Inv Y a d H s)
  (h:n d H λv F=>F D=À (.lst ys)/\ys.length<sizeLine/\N v (upd F D (.lst (ys++[v])))) :
  Ü (à Y.prog Y.w) Y.A (Ė elt Y.env >>= λx=>call (.builtin "list.append") [.ref D,x] >>= λ_=>pure WH) (λ_ s'=>∃v H',Inv Y a d H' s'/\N v H') (λ_ _=>False) s:=by
 have l:=o a s d H _ I h;rw[c]at l;refine Â (aq l λr j t=>iR t λv B C i g=>?_);obtain⟨b,p,k⟩:=g;have m:=yg _ j d B (.ref D) [v] (.ref D) [r] (λz H'=>z=.Ğ/\H'=upd B D (.lst (ys++[v]))) C rfl (.cons i .nil) ⟨D,ys,v,rfl,rfl,b,p,rfl,rfl⟩;rw[c]at m;refine Â (aq m λ_ q f=>?_);obtain⟨_,G,E,_,_,e⟩:=f;subst e;exact Ì ⟨v,_,E,k⟩
def xN {X:Cx}{Z:Á Expr}{scope:Scope}{cl:Á (Str×Addr)}{l:Á (Str×Ð Nat)}{g:TG}{tt:TT}{te:TE}
  (ZC:qj scope X.env=pure cl) (M:∀y c,cl.lookup y=À c->X.env.cells.lookup y=À c) (O:∀x∈scope.names,x.2=.free->∃c,cl.lookup x.1=À c)
  (t:scope.kind=.function) (r:∀y∈scope.names,y.2=.cell->scope.names.lookup y.1=À .cell) (n:X.calm=true) (Y:j2 X scope l)
  (hg:∀cl C d G F,PG (aw X l scope cl C d G F) tg g) (ht:∀cl C d G F,Lg (aw X l scope cl C d G F) Z tt) (he:∀cl C d G F,PE (aw X l scope cl C d G F) elt te)
  {a:Á (Addr×Obj)}{j:St}{s:Ú}{d:Á Addr}{tn:Nat->Heap->Prop}{J:It}{Q:Addr->Hp->Prop}{RR:Value->Addr->SO->Ú->Prop}{E:Value->Ú->Prop}
  (I:Inv X a j H s) (T:Turn X.prog X.w X.K tg J d it tn) (st:tn 0 s.heap) (P:∀b∈d,t_ X a H b)
  (hw:Oe l g tt te J j H Q)
  (Xj:∀D C (s':Ú) (H':Hp),Q D H'->(∃m,s'.heap.Ns C m)->Inv X a j H' s'->t_ X a H' C->RR (.ref D) C (.ok .next) s') :
  Ü (à X.prog X.w) X.A (VM []) (λf s₃=>Ü (à X.prog X.w) X.A (tZ scope X.env.globals cl [] X.env.qual none .none (À X.env)) (λk s₄=>
   e9 (à X.prog X.w) X.A (.compStart (.ListComp elt [⟨tg,iter,Z,0⟩] scope pos) 0 (.ref it) f {k with scope:=relabel scope X.env}) (RR f k.locals) s₄) E s₃) E s:=by
 refine gB ?_ (by show 0<=sizeLine;exact ÿ _);have I3:Inv X a j (upd H s.heap.objs.size (.lst [])) {s with heap:=s.heap.push {cls:=.type "list",data:=.seq ([]:Á Value).toArray}}:=
  I.Mn (its:=[]) (ys:=[]) (t':=s.toks) .nil (ÿ _)
 have hD:H s.heap.objs.size=none:=I.fresh;obtain⟨W,⟨m0,w0⟩,turn⟩:=hw _ hD;have fpD:∀b∈d,b≠s.heap.objs.size:=λb L z=>by
  obtain⟨o,ho,_⟩:=T.obj _ _ st b L;exact absurd (Ó ho) (by rw[z];exact ŋ _)
 have U:∀b∈d,t_ X a (upd H s.heap.objs.size (.lst [])) b:=λb L=>⟨by rw[ç (fpD b L)];exact(P b L).1,(P b L).2⟩
 have Vg:tn 0 (s.heap.push {cls:=.type "list",data:=.seq ([]:Á Value).toArray}):=T.keep _ _ _ st λb _ o e=>Ä _ e;refine Ho (α:=Á V) (B:=λi m ys j H5=>te j H5 λv H6=>H6 s.heap.objs.size=À (.lst ys)/\ys.length<sizeLine/\∃u,u<m/\W (i+1) u (ys++[v]) j (upd H6 s.heap.objs.size (.lst (ys++[v])))) (Q:=Q s.heap.objs.size) (p:=iter.pos) (body:=λf env=>Ė elt env >>= λx=>call (.builtin "list.append") [f,x] >>= λ_=>pure WH)
  (.inl ⟨_,_,_,_,rfl⟩) (λ_ _ _=>rfl) rfl rfl M O t r n Y hg ht (λcl C d G F a s' i m ys j H I h=>?_) I3 T Vg U w0 turn λC s' H' q=>Xj _ C s' H' q
 refine aq (LH (N:=λv H'=>∃u,u<m/\W (i+1) u (ys++[v]) j H') (he cl C d G F) rfl I h) λ_ Ya ⟨v,H',I',u,hm,w'⟩=>⟨u,_,_,H',hm,I',w'⟩
def Ke (l:Á (Str×Ð Nat)) (c:TI)(g:TG)(b:TT)(a:TE):TE:=λd H Q=>RZ l c g b a d H λD A=>Q (.ref D) A
section
variable {X:Cx}{elt tg iter:Expr}{ifs:Á Expr}{scope:Scope}{pos:kU}{wi:TI}{g:TG}{tt:TT}{te:TE}
structure fw (X:Cx)(scope:Scope)(l:Á (Str×Ð Nat)):Prop where
 kind:scope.kind=.function
 cell:∀y∈scope.names,y.2=.cell->scope.names.lookup y.1=À .cell
 names:∀y∈scope.names,y.2=.local->scope.names.lookup y.1=À .local
 free:∀y∈scope.names,y.2=.free->X.env.kindOf y.1=À .cell∨X.env.kindOf y.1=À .free
 src:j2 X scope l
def Na (l:Á (Str×Ð Nat)) (a:fw X scope l)(d:X.calm=true)(Y:PI X tg iter wi)
  (U:∀cl C f j B,PG (aw X l scope cl C f j B) tg g) (ht:∀cl C f j B,Lg (aw X l scope cl C f j B) ifs tt) (O:∀cl C f j B,PE (aw X l scope cl C f j B) elt te)
  (hs:∀x,e_ iter X.env x=pure x:=by intro _;rfl) :
  PE X (.ListComp elt [⟨tg,iter,ifs,0⟩] scope pos) (Ke l wi g tt te):=by
 intro c s t H Q I h;obtain⟨cl,r,u,y⟩:=oU (scope:=scope) (env:=X.env) λx hx P=>I.ok.has x.1 (a.free x hx P);rw[eval_ListComp];refine GZ (use:=none) rfl hs r a.kind a.names (aq (Y c s t H _ I h) λv s1 L=>aq L λZM s2 M=>?_);obtain⟨it,f,tn,J,H2,e,G,T,p,z,hw⟩:=M;subst e;refine xN (RR:=λk C=>compPost (à X.prog X.w) X.A X.xe none (EP X c t Q) k C) r u y a.kind a.cell d a.src U ht O G T p z hw ?_;intro D C s' E q ⟨m,Z⟩ F i;refine⟨m,Z,λh' n=>?_⟩;exact⟨.ref D,E,F.turned (t':=s'.toks) (λb o N e=>(n.2 b N).trans e) i.1 i.2.1 i.2.2.2.1 i.2.2.2.2.1 i.2.2.2.2.2,rfl,q⟩
def C_ (l:Á (Str×Ð Nat)) (c:fw X scope l)(j:X.calm=true)(hN:X.N.Nodup)(hy:X.N[i]?=À y)(t:X.env.scope.names.lookup y=À .local)(hi:PI X tg iter wi)
  (hg:∀cl C k p B,PG (aw X l scope cl C k p B) tg g) (ht:∀cl C k p B,Lg (aw X l scope cl C k p B) ifs tt) (he:∀cl C k p B,PE (aw X l scope cl C k p B) elt te)
  (M:eN (.ListComp elt [⟨tg,iter,ifs,0⟩] scope pos) (À (.Name y n)) r.line X.env=pure true)
  (hs:∀x,e_ iter X.env x=pure x:=by intro _;rfl) :
  PS X (.Assign [.Name y n] (.ListComp elt [⟨tg,iter,ifs,0⟩] scope pos) r) (NR (Ke l wi g tt te) (D9 i)):=by
 intro d s σ H U I h;obtain⟨cl,Y,e2,e3⟩:=oU (scope:=scope) (env:=X.env) λx t hf=>I.ok.has x.1 (c.free x t hf);rw[exec_Assign_Name_used _ _ _ _ M];refine Â (eO (Â ?_));show Ü _ X.A (do let _ <-comprehension (.ListComp elt [⟨tg,iter,ifs,0⟩] scope pos) scope X.env _ (VM []) false (Ė iter X.env) (À (k9 (.Name y n) X.env))) _ _ s;refine Â (aq (GZ (use:=À (k9 (.Name y n) X.env)) (Q:=λ_ s'=>SP X d U .next s') rfl hs Y c.kind c.names
  (aq (hi d s σ H _ I h) λv s1 h1=>aq h1 λZM s2 h2=>?_)) λ_ s' hq=>Ì (Ì hq))
 obtain⟨it,k,tn,J,H2,e,I2,T,P,f2,hw⟩:=h2;subst e;refine xN (RR:=λu C=>compPost (à X.prog X.w) X.A X.xe (À (k9 (.Name y n) X.env)) (λ_ s'=>SP X d U .next s') u C) Y e2 e3 c.kind c.cell j c.src hg ht he I2 T P f2 hw ?_;intro D C s' Z q ⟨m,hn⟩ I' f;show Ü _ X.A (k9 (.Name y n) X.env (.ref D)) _ _ _;refine VS (yp (v:=.ref D) I' hN hy (.inl t) rfl (λO E hk=>?_) (.inr t));obtain⟨a,L,ha⟩:=hk;have F:C≠a:=by
  rintro rfl;rcases ha with z|z
  ·exact f.2.1 z
  ·exact f.2.2.2.2.1 y _ z rfl
 refine⟨m,hn.sameBut L F,λh' G=>?_⟩;exact⟨_,Z,E.turned (t':=O.toks) (λb o hb e=>(G.2 b hb).trans e) f.1 f.2.1 f.2.2.2.1 f.2.2.2.2.1 f.2.2.2.2.2,q⟩
end
def gi (n:Nat)(i:Int):Prop:=i.natAbs<2^n
def gi.mono (h:gi n i)(k:n<=m):gi m i:=ì h (Nat.pow_le_pow_right (by decide) k)
def gi.mul (h:gi n i)(k:gi m j):gi (n+m) (i*j):=by
 unfold gi at *
 rw[SH,Nat.pow_add];exact Nat.mul_lt_mul'' h k
def gi.add (h:gi n i)(k:gi n j):gi (n+1) (i+j):=by
 unfold gi at *
 have:=Int.natAbs_add_le i j;rw[Nat.pow_succ];lia
def gi.le (h:gi n i)(k:j.natAbs<=i.natAbs):gi n j:=bJ k h
def gi.bits (h:gi n i):bX i<=n:=by
 unfold bX;split
 ·exact ÿ _
 ·rename_i b;have a:i.natAbs≠0:=by
   intro z;apply b;have:i=0:=by lia
   simp[this]
  have:=(YL a).mpr h;lia
def gi.log (h:gi n i)(b:0<n):i.natAbs.log2<n:=by
 by_cases a:i.natAbs=0
 ·rw[a];show Nat.log2 0<n;have:Nat.log2 0=0:=by decide
  rw[this];exact b
 ·exact(YL a).mpr h
def gi.UH (h:gi 60000000 i)(k:gi 60000000 j):IntMulOk i j:=by
 have a:=h.bits;have b:=k.bits;unfold IntMulOk;have e:xB (((bX i+bX j:Nat)):Int)=false:=by
  unfold xB;refine â ?_;show ¬((((bX i+bX j:Nat)):Int) > (((2^27:Nat)):Int));have:(2^27:Nat)=134217728:=by decide
  lia
 simp[e];try (intro _ _;exact_mod_cast e)
def xQ (a:-(2^n)<i) (b:i<2^n):gi n i:=by
 unfold gi;have e:((2^n:Nat):Int)=(2:Int)^n:=by
  rw[Int.natCast_pow];rfl
 have:(i.natAbs:Int)<((2^n:Nat):Int):=by rw[e];lia
 exact_mod_cast this
section
variable {X:Cx}
def M9:jj X (a' .Mult) (rI (λi j=>gi 60000000 i/\gi 60000000 j) λi j=>.int (i*j)):=Wi λ_ _ _ _ _ _ _ a q=>mul_int q (a.1.UH a.2)
def Ju:jj X (a' .FloorDiv) (rI (λ_ j=>j≠0/\gi 9000 j) λi j=>.int (i.fdiv j)):=Wi λ_ _ _ _ _ _ _ a q=>floordiv_int a.1 q (.inl (yy (a.2.log (by decide))))
def yV:bz X (.builtin "divmod") (λxs H Q=>∃i j,xs=[.int i,.int j]/\(0<j/\gi 9000 j)/\∀p,H p=none->Q (.ref p) (upd H p (.tup [.int (i / j),.int (i % j)]))):=by
 intro a s l H xs us Q I r h;obtain⟨i,j,rfl,⟨f,c⟩,q⟩:=h;obtain⟨u,k,rfl,⟨t,rfl⟩,⟨g,rfl⟩⟩:=vals2 r;refine divmod_int (by lia) ?_ (.inl (yy (c.log (by decide))));rw[Int.fdiv_eq_ediv_of_nonneg i (by lia),kZ i (by lia)];have d:H s.heap.objs.size=none:=I.ť.fresh (Î _);refine⟨.ref s.heap.objs.size,_,?_,rfl,q _ d⟩;refine I.laid (λb o e=>Ä _ e) (Î _) ⟨by simp only[ē,bZ];rw[ĉ];decide,[.int (i / j) s.toks,.int (i % j) (s.toks+1)],.cons ⟨_,rfl⟩ (.cons ⟨_,rfl⟩ .nil),?_⟩;exact⟨_,Ù s.heap rfl,rfl,0,rfl⟩
theorem AF:∀{bs:Á Bool}{us:Á Value},Vals (bs.map V.bl) us->∀(i:Nat)(v:Value),us[i]?=À v->∃b:Bool,bs[i]?=À b/\v=fH b
 |[],us,r,i,v,e=>by
  cases r;simp at e
 |b::bs,us,r,i,v,e=>by
  cases r with
  |cons f g=>
   cases i with
   |zero=>
    simp at e;subst e;exact⟨b,rfl,f⟩
   |succ i=>
    obtain⟨a,c,d⟩:=AF g i v (by simpa using e);exact⟨a,by simpa using c,d⟩
def Dd (bs:Á Bool):((ø bs.length).all λi=>(bs[i]?).getD true)=bs.all id:=by
 rw[dk,ú,ú];constructor
 ·intro h b d;obtain⟨i,c,e⟩:=ĩ d;have:=h i (kS.mpr c);simp only[Å c,uz,e]at this;exact this
 ·intro h i c;have a:=kS.mp c;simp only[Å a,uz];exact h _ (e8 a)
def Fp (l:X.calm=true):bz X (.builtin "all") (λxs H Q=>∃(a:Addr) (bs:Á Bool),xs=[.ref a]/\fC X.K H a (bs.map V.bl)/\Q (.bl (bs.all id)) H):=by
 intro g s z H xs us Q I r h;obtain⟨a,bs,rfl,k,q⟩:=h;obtain⟨u,rfl,o⟩:=vals1 r;cases o;obtain⟨c,rv,p,y⟩:=I.list k;have hl:=p.isList;have d:a<s.heap.objs.size:=by obtain⟨_,e,_⟩:=hl;exact Ó e
 refine call_all_walk (yK hl ?_);refine⟨s.heap.objs.size,[s.heap.objs.size,a],[s.heap.objs.size],c.toArray.size,_,_,λi=>(bs[i]?).getD true,rfl,Walks.list (A:=X.A.in1) (I.ok.hd l) _ a (ò d) c.toArray,
  ⟨⟨_,Ù _ rfl,rfl,rfl⟩,hl.push _⟩,λi v s' C B j f=>?_,λw t m=>?_⟩
 ·obtain⟨b,e,rfl⟩:=AF rv i v (by simpa using j);simp only[e,uz]at f;exact cG f
 ·have e:((ø c.toArray.size).all λi=>(bs[i]?).getD true)=bs.all id:=by
   rw[Û,<-rv.length,Ê];exact Dd bs
  rw[e];refine⟨.bl _,H,I.kept (t':=t) λb x e=>m b x (λn=>?_) (Ä _ e),rfl,q⟩;rw[ð.mp n]at e;exact ŋ _ (Ó e)
end
inductive Dt where
 |Ğ|bl (b:Bool)|int (i:Int)|str (x:Str)|tup (l:Á Dt)|lst (l:Á Dt)
mutual
def Dt.dep:Dt->Nat
 |.tup l=>aX l+1
 |.lst l=>aX l+1
 |_=>0
def aX:Á Dt->Nat
 |[]=>0
 |d::r=>max d.dep (aX r)
end
mutual
def cj:Dt->Dt->Bool
 |.Ğ,.Ğ=>true
 |.bl a,.bl b=>a == b
 |.bl a,.int b=>(if a then 1 else 0) == b
 |.int a,.bl b=>a == (if b then 1 else 0)
 |.int a,.int b=>a == b
 |.str a,.str b=>a == b
 |.tup a,.tup b=>jb a b
 |.lst a,.lst b=>jb a b
 |_,_=>false
def jb:Á Dt->Á Dt->Bool
 |[],[]=>true
 |a::r,b::q=>cj a b&&jb r q
 |_,_=>false
end
mutual
def Rep (K:É)(N:Addr->Prop)(H:Hp):Dt->V->Prop
 |.Ğ,v=>v=.Ğ
 |.bl b,v=>v=.bl b
 |.int i,v=>v=.int i
 |.str x,v=>v=.str x
 |.tup l,v=>∃a xs,v=.ref a/\¬N a/\gq K H a xs/\bK K N H l xs
 |.lst l,v=>∃a xs,v=.ref a/\¬N a/\fC K H a xs/\bK K N H l xs
def bK (K:É)(N:Addr->Prop)(H:Hp):Á Dt->Á V->Prop
 |[],xs=>xs=[]
 |d::r,xs=>∃x a,xs=x::a/\Rep K N H d x/\bK K N H r a
end
def xF (N:Addr->Prop)(H H':Hp):Prop:=∀b o,H b=À o->¬N b->H' b=À o
def xF.RW {K:É}{N:Addr->Prop}(s:xF N H H')(n:¬N a)(h:gq K H a xs):gq K H' a xs:=by
 rcases h with(h|⟨o,h⟩)|h
 ·exact .inl (.inl (s _ _ h n))
 ·exact .inl (.inr ⟨o,s _ _ h n⟩)
 ·exact .inr h
def xF.Gw {K:É}{N:Addr->Prop}(s:xF N H H')(n:¬N a)(h:fC K H a xs):fC K H' a xs:=by
 rcases h with(h|⟨o,h⟩)|h
 ·exact .inl (.inl (s _ _ h n))
 ·exact .inl (.inr ⟨o,s _ _ h n⟩)
 ·exact .inr h
mutual
theorem Rep.same {K:É}{N:Addr->Prop}(s:xF N H H'):∀{d:Dt}{v:V},Rep K N H d v->Rep K N H' d v
 |.Ğ,_,h=>h
 |.bl _,_,h=>h
 |.int _,_,h=>h
 |.str _,_,h=>h
 |.tup l,v,h=>by
  unfold Rep at h⊢;obtain⟨a,xs,e,n,q,r⟩:=h;exact⟨a,xs,e,n,s.RW n q,bK.same s r⟩
 |.lst l,v,h=>by
  unfold Rep at h⊢;obtain⟨a,xs,e,n,q,r⟩:=h;exact⟨a,xs,e,n,s.Gw n q,bK.same s r⟩
theorem bK.same {K:É}{N:Addr->Prop}(s:xF N H H'):∀{l:Á Dt}{xs:Á V},bK K N H l xs->bK K N H' l xs
 |[],_,h=>h
 |d::r,xs,h=>by
  unfold bK at h⊢;obtain⟨x,c,e,a,b⟩:=h;exact⟨x,c,e,Rep.same s a,bK.same s b⟩
end
theorem bK.length {K:É}{N:Addr->Prop}:∀{l:Á Dt}{xs:Á V},bK K N H l xs->l.length=xs.length
 |[],xs,h=>by unfold bK at h;rw[h];rfl
 |d::r,xs,h=>by
  unfold bK at h;obtain⟨x,b,rfl,_,a⟩:=h;rw[ē,ē,bK.length a]
theorem bK.get {K:É}{N:Addr->Prop}:∀{l:Á Dt}{xs:Á V}{i:Nat}{d:Dt},bK K N H l xs->l[i]?=À d->∃x,xs[i]?=À x/\Rep K N H d x
 |[],xs,i,d,h,e=>by simp at e
 |d0::r,xs,0,d,h,e=>by
  unfold bK at h;obtain⟨x,g,rfl,c,_⟩:=h;simp at e;subst e;exact⟨x,rfl,c⟩
 |d0::r,xs,i+1,d,h,e=>by
  unfold bK at h;obtain⟨x,g,rfl,_,f⟩:=h;obtain⟨y,a,b⟩:=bK.get (i:=i) f (by simpa using e);exact⟨y,by simpa using a,b⟩
theorem nr:∀{l q:Á Dt},l.length≠q.length->jb l q=false
 |[],[],h=>absurd rfl h
 |[],_::_,_=>by simp[jb]
 |_::_,[],_=>by simp[jb]
 |a::r,b::q,h=>by
  simp only[jb];rw[nr (l:=r) (q:=q) (by simpa using h),pX]
theorem ju:∀{l q:Á Dt},l.length=q.length->jb l q=(ø l.length).all λi=>match l[i]?,q[i]? with|some a,À b=>cj a b|_,_=>true
 |[],[],_=>by simp[jb]
 |a::r,b::q,h=>by
  simp only[jb];rw[ju (l:=r) (q:=q) (by simpa using h),ē,List.range_succ_eq_map,ľ,List.all_map];simp[Function.comp_def]
theorem AM:∀{l:Á Dt}{i:Nat}{d:Dt},l[i]?=À d->d.dep<=aX l
 |[],i,d,e=>by simp at e
 |a::r,0,d,e=>by simp at e;subst e;simp only[aX];exact Nat.le_max_left _ _
 |a::r,i+1,d,e=>by
  have:=AM (l:=r) (i:=i) (d:=d) (by simpa using e);simp only[aX];exact đ this (Nat.le_max_right _ _)
section
variable {X:Cx}{þ:Á (Addr×Obj)}{σ:St}{H:Hp}{s:Ú}{N N':Addr->Prop}
def Bq (I:Inv X þ σ H s)(h:fC X.K H a xs)(k:gq X.K H a ys):False:=by
 obtain⟨g,_,p,_⟩:=I.list h;obtain⟨f,_,q,_⟩:=I.tuple k;obtain⟨o,e,c,_⟩:=p.isList;obtain⟨i,d,b,_⟩:=q;rw[e]at d;cases d;rw[c]at b;injection b with z
 exact absurd z (by decide)
mutual
theorem Rep.inj (I:Inv X þ σ H s):∀{d e:Dt}{v:V},Rep X.K N H d v->Rep X.K N' H e v->d=e
 |.Ğ,.Ğ,_,_,_=>rfl
 |.Ğ,.bl _,_,h,k=>by unfold Rep at h k;rw[h]at k;cases k
 |.Ğ,.int _,_,h,k=>by unfold Rep at h k;rw[h]at k;cases k
 |.Ğ,.str _,_,h,k=>by unfold Rep at h k;rw[h]at k;cases k
 |.Ğ,.tup _,_,h,k=>by unfold Rep at h k;obtain⟨_,_,e,_⟩:=k;rw[h]at e;cases e
 |.Ğ,.lst _,_,h,k=>by unfold Rep at h k;obtain⟨_,_,e,_⟩:=k;rw[h]at e;cases e
 |.bl _,.Ğ,_,h,k=>by unfold Rep at h k;rw[h]at k;cases k
 |.bl x,.bl y,_,h,k=>by unfold Rep at h k;rw[h]at k;cases k;rfl
 |.bl _,.int _,_,h,k=>by unfold Rep at h k;rw[h]at k;cases k
 |.bl _,.str _,_,h,k=>by unfold Rep at h k;rw[h]at k;cases k
 |.bl _,.tup _,_,h,k=>by unfold Rep at h k;obtain⟨_,_,e,_⟩:=k;rw[h]at e;cases e
 |.bl _,.lst _,_,h,k=>by unfold Rep at h k;obtain⟨_,_,e,_⟩:=k;rw[h]at e;cases e
 |.int _,.Ğ,_,h,k=>by unfold Rep at h k;rw[h]at k;cases k
 |.int _,.bl _,_,h,k=>by unfold Rep at h k;rw[h]at k;cases k
 |.int x,.int y,_,h,k=>by unfold Rep at h k;rw[h]at k;cases k;rfl
 |.int _,.str _,_,h,k=>by unfold Rep at h k;rw[h]at k;cases k
 |.int _,.tup _,_,h,k=>by unfold Rep at h k;obtain⟨_,_,e,_⟩:=k;rw[h]at e;cases e
 |.int _,.lst _,_,h,k=>by unfold Rep at h k;obtain⟨_,_,e,_⟩:=k;rw[h]at e;cases e
 |.str _,.Ğ,_,h,k=>by unfold Rep at h k;rw[h]at k;cases k
 |.str _,.bl _,_,h,k=>by unfold Rep at h k;rw[h]at k;cases k
 |.str _,.int _,_,h,k=>by unfold Rep at h k;rw[h]at k;cases k
 |.str x,.str y,_,h,k=>by unfold Rep at h k;rw[h]at k;cases k;rfl
 |.str _,.tup _,_,h,k=>by unfold Rep at h k;obtain⟨_,_,e,_⟩:=k;rw[h]at e;cases e
 |.str _,.lst _,_,h,k=>by unfold Rep at h k;obtain⟨_,_,e,_⟩:=k;rw[h]at e;cases e
 |.tup _,.Ğ,_,h,k=>by unfold Rep at h k;obtain⟨_,_,e,_⟩:=h;rw[k]at e;cases e
 |.tup _,.bl _,_,h,k=>by unfold Rep at h k;obtain⟨_,_,e,_⟩:=h;rw[k]at e;cases e
 |.tup _,.int _,_,h,k=>by unfold Rep at h k;obtain⟨_,_,e,_⟩:=h;rw[k]at e;cases e
 |.tup _,.str _,_,h,k=>by unfold Rep at h k;obtain⟨_,_,e,_⟩:=h;rw[k]at e;cases e
 |.tup l,.tup q,_,h,k=>by
  unfold Rep at h k;obtain⟨a,xs,rfl,_,c,g⟩:=h;obtain⟨b,j,e,_,f,i⟩:=k;cases e;have:=I.sH c f;subst this;rw[bK.inj I g i]
 |.tup _,.lst _,_,h,k=>by unfold Rep at h k;obtain⟨_,_,rfl,_,c,_⟩:=h;obtain⟨_,_,e,_,f,_⟩:=k;cases e;exact(Bq I f c).elim
 |.lst _,.Ğ,_,h,k=>by unfold Rep at h k;obtain⟨_,_,e,_⟩:=h;rw[k]at e;cases e
 |.lst _,.bl _,_,h,k=>by unfold Rep at h k;obtain⟨_,_,e,_⟩:=h;rw[k]at e;cases e
 |.lst _,.int _,_,h,k=>by unfold Rep at h k;obtain⟨_,_,e,_⟩:=h;rw[k]at e;cases e
 |.lst _,.str _,_,h,k=>by unfold Rep at h k;obtain⟨_,_,e,_⟩:=h;rw[k]at e;cases e
 |.lst _,.tup _,_,h,k=>by unfold Rep at h k;obtain⟨_,_,rfl,_,c,_⟩:=h;obtain⟨_,_,e,_,f,_⟩:=k;cases e;exact(Bq I c f).elim
 |.lst l,.lst q,_,h,k=>by
  unfold Rep at h k;obtain⟨a,xs,rfl,_,c,g⟩:=h;obtain⟨b,j,e,_,f,i⟩:=k;cases e;have:=I.vB c f;subst this;rw[bK.inj I g i]
theorem bK.inj (I:Inv X þ σ H s):∀{l q:Á Dt}{xs:Á V},bK X.K N H l xs->bK X.K N' H q xs->l=q
 |[],[],_,_,_=>rfl
 |[],_::_,_,h,k=>by unfold bK at h k;obtain⟨_,_,e,_⟩:=k;rw[h]at e;cases e
 |_::_,[],_,h,k=>by unfold bK at h k;obtain⟨_,_,e,_⟩:=h;rw[k]at e;cases e
 |a::r,b::q,xs,h,k=>by
  unfold bK at h k;obtain⟨x,i,rfl,c,d⟩:=h;obtain⟨y,j,e,f,g⟩:=k;cases e;rw[Rep.inj I c f,bK.inj I d g]
end
mutual
theorem vj:∀d:Dt,cj d d=true
 |.Ğ=>by simp[cj]
 |.bl _=>by simp[cj]
 |.int _=>by simp[cj]
 |.str _=>by simp[cj]
 |.tup l=>by simp only[cj];exact rx l
 |.lst l=>by simp only[cj];exact rx l
theorem rx:∀l:Á Dt,jb l l=true
 |[]=>by simp[jb]
 |d::r=>by simp only[jb,vj d,rx r,Bool.and_self]
end
def lz (E:∀(d e:Dt){v w:V}{u z:Value},d.dep<=k->Rep X.K N H d v->Rep X.K N' H e w->RelV v u->RelV w z->rh A s u z (cj d e))
  {l q:Á Dt}{its c:Á Value}(hd:aX l<=k) (h:bK X.K N H l xs) (h':bK X.K N' H q ys) (r:Vals xs its) (n:Vals ys c) :
  ∀j (g:j<its.toArray.size) (i:j<c.toArray.size),rh A s its.toArray[j] c.toArray[j] (match l[j]?,q[j]? with|some a,À b=>cj a b|_,_=>true):=by
 intro j g i;have F:l.length=its.length:=h.length.trans r.length;have G:q.length=c.length:=h'.length.trans n.length;have f:j<l.length:=by rw[F];simpa using g
 have m:j<q.length:=by rw[G];simpa using i
 obtain⟨x,B,J⟩:=h.get (Å f);obtain⟨y,C,L⟩:=h'.get (Å m);obtain⟨u,t,I⟩:=r.get B;obtain⟨z,D,M⟩:=n.get C;rw[Å f,Å m];have o:its.toArray[j]=u:=by
  have:=Ç.mp t;obtain⟨_,e⟩:=this;simpa using e
 have p:c.toArray[j]=z:=by
  have:=Ç.mp D;obtain⟨_,e⟩:=this;simpa using e
 rw[o,p];exact E _ _ (đ (AM (Å f)) hd) J L I M
def pz {l q:Á Dt}{its c:Á Value}(h:bK X.K N H l xs)(h':bK X.K N' H q ys)(r:Vals xs its)(g:Vals ys c) :
  ((ø (min its.toArray.size c.toArray.size)).all (λj=>match l[j]?,q[j]? with|some a,À b=>cj a b|_,_=>true)&&its.toArray.size == c.toArray.size)=jb l q:=by
 have e:l.length=its.toArray.size:=by simpa using h.length.trans r.length
 have f:q.length=c.toArray.size:=by simpa using h'.length.trans g.length
 rw[<-e,<-f];by_cases d:l.length=q.length
 ·rw[ju d,d,Nat.min_self];simp
 ·rw[nr d];have:(l.length == q.length)=false:=by simpa using d
  rw[this,pX]
set_option hygiene false in
local macro_rules|`(tactic|walk_at"p")=>`(tactic|(unfold Rep at c;subst c;have:=Ŧ (A:=A) (s:=s) r f rfl rfl;simpa[cj,kG]using this))
set_option hygiene false in
local macro_rules|`(tactic|walk_at"r")=>`(tactic|(unfold Rep at c;obtain⟨a,xs,rfl,_,i,_⟩:=c;cases f))
def vi (I:Inv X þ σ H s):∀k A,A.units+k<cLine->∀(d e:Dt) {v w:V}{u z:Value},d.dep<=k->Rep X.K N H d v->Rep X.K N' H e w->RelV v u->RelV w z->rh A s u z (cj d e):=by
 intro k;induction k with
 |zero=>
  intro A Z d e v w u z hd h c r f;have hu:A.units<cLine:=by lia
  cases d with
  |tup l=>exact absurd hd (by simp[Dt.dep])
  |lst l=>exact absurd hd (by simp[Dt.dep])
  |Ğ=>
   unfold Rep at h;subst h;cases e with
   |Ğ=>
    walk_at"p"
   |bl y=>
    walk_at"p"
   |int y=>
    walk_at"p"
   |str y=>
    walk_at"p"
   |tup y=>
    walk_at"r";obtain⟨g,_,p,_⟩:=I.tuple i;cases r;simp only[cj];exact yB p hu
   |lst y=>
    walk_at"r";obtain⟨g,_,p,_⟩:=I.list i;cases r;simp only[cj];exact z8 p.isList hu
  |bl x=>
   unfold Rep at h;subst h;cases e with
   |Ğ=>
    walk_at"p"
   |bl y=>
    walk_at"p"
   |int y=>
    walk_at"p"
   |str y=>
    walk_at"p"
   |tup y=>
    walk_at"r";obtain⟨g,_,p,_⟩:=I.tuple i;cases r;simp only[cj];exact yA x p hu
   |lst y=>
    walk_at"r";obtain⟨g,_,p,_⟩:=I.list i;cases r;simp only[cj];exact z0 x p.isList hu
  |int x=>
   unfold Rep at h;subst h;cases e with
   |Ğ=>
    walk_at"p"
   |bl y=>
    walk_at"p"
   |int y=>
    walk_at"p"
   |str y=>
    walk_at"p"
   |tup y=>
    walk_at"r";obtain⟨g,_,p,_⟩:=I.tuple i;obtain⟨t,rfl⟩:=r;simp only[cj];exact z7 x t p hu
   |lst y=>
    walk_at"r";obtain⟨g,_,p,_⟩:=I.list i;obtain⟨t,rfl⟩:=r;simp only[cj];exact Am x t p.isList hu
  |str x=>
   unfold Rep at h;subst h;cases e with
   |Ğ=>
    walk_at"p"
   |bl y=>
    walk_at"p"
   |int y=>
    walk_at"p"
   |str y=>
    walk_at"p"
   |tup y=>
    walk_at"r";obtain⟨g,_,p,_⟩:=I.tuple i;obtain⟨t,rfl⟩:=r;simp only[cj];exact z9 x t p hu
   |lst y=>
    walk_at"r";obtain⟨g,_,p,_⟩:=I.list i;obtain⟨t,rfl⟩:=r;simp only[cj];exact An x t p.isList hu
 |succ k U=>
  intro A Z d e v w u z hd h c r f;have hu:A.units<cLine:=by lia
  have G:A.in1.units+k<cLine:=by have:A.in1.units=A.units+1:=rfl;lia
  cases d with
  |Ğ=>
   unfold Rep at h;subst h;cases e with
   |Ğ=>
    walk_at"p"
   |bl y=>
    walk_at"p"
   |int y=>
    walk_at"p"
   |str y=>
    walk_at"p"
   |tup y=>
    walk_at"r";obtain⟨g,_,p,_⟩:=I.tuple i;cases r;simp only[cj];exact yB p hu
   |lst y=>
    walk_at"r";obtain⟨g,_,p,_⟩:=I.list i;cases r;simp only[cj];exact z8 p.isList hu
  |bl x=>
   unfold Rep at h;subst h;cases e with
   |Ğ=>
    walk_at"p"
   |bl y=>
    walk_at"p"
   |int y=>
    walk_at"p"
   |str y=>
    walk_at"p"
   |tup y=>
    walk_at"r";obtain⟨g,_,p,_⟩:=I.tuple i;cases r;simp only[cj];exact yA x p hu
   |lst y=>
    walk_at"r";obtain⟨g,_,p,_⟩:=I.list i;cases r;simp only[cj];exact z0 x p.isList hu
  |int x=>
   unfold Rep at h;subst h;cases e with
   |Ğ=>
    walk_at"p"
   |bl y=>
    walk_at"p"
   |int y=>
    walk_at"p"
   |str y=>
    walk_at"p"
   |tup y=>
    walk_at"r";obtain⟨g,_,p,_⟩:=I.tuple i;obtain⟨t,rfl⟩:=r;simp only[cj];exact z7 x t p hu
   |lst y=>
    walk_at"r";obtain⟨g,_,p,_⟩:=I.list i;obtain⟨t,rfl⟩:=r;simp only[cj];exact Am x t p.isList hu
  |str x=>
   unfold Rep at h;subst h;cases e with
   |Ğ=>
    walk_at"p"
   |bl y=>
    walk_at"p"
   |int y=>
    walk_at"p"
   |str y=>
    walk_at"p"
   |tup y=>
    walk_at"r";obtain⟨g,_,p,_⟩:=I.tuple i;obtain⟨t,rfl⟩:=r;simp only[cj];exact z9 x t p hu
   |lst y=>
    walk_at"r";obtain⟨g,_,p,_⟩:=I.list i;obtain⟨t,rfl⟩:=r;simp only[cj];exact An x t p.isList hu
  |tup l=>
   have O:=h;unfold Rep at h;obtain⟨a,xs,rfl,na,i,J⟩:=h;cases r;obtain⟨g,L,m,_⟩:=I.tuple i;have C:aX l<=k:=by simp only[Dt.dep]at hd;lia
   cases e with
   |Ğ=>
    unfold Rep at c;subst c;cases f;simp only[cj];exact SeqAt.EqAt.tuple_none m hu
   |bl y=>
    unfold Rep at c;subst c;cases f;simp only[cj];exact SeqAt.EqAt.tuple_bool y m hu
   |int y=>
    unfold Rep at c;subst c;obtain⟨t,rfl⟩:=f;simp only[cj];exact SeqAt.EqAt.tuple_int y t m hu
   |str y=>
    unfold Rep at c;subst c;obtain⟨t,rfl⟩:=f;simp only[cj];exact SeqAt.EqAt.tuple_str y t m hu
   |tup q=>
    have n:=c;unfold Rep at c;obtain⟨b,T,rfl,Q,D,E⟩:=c;cases f;obtain⟨j,F,B,_⟩:=I.tuple D;by_cases o:a=b
    ·subst o;have:=Rep.inj I O n;rw[<-this,vj];exact sS _
    ·refine B4 o ?_;simp only[cj];have:=Cg (A:=A) (s:=s) m B hu (lz (A:=A.in1) (λd e=>U A.in1 G d e) C J E L F);rw[pz J E L F]at this;exact this
   |lst q=>
    have n:=c;unfold Rep at c;obtain⟨b,T,rfl,Q,D,E⟩:=c;cases f;obtain⟨j,F,B,_⟩:=I.list D;simp only[cj];exact SeqAt.EqAt.tuple_list m B.isList hu
  |lst l=>
   have O:=h;unfold Rep at h;obtain⟨a,xs,rfl,na,i,J⟩:=h;cases r;obtain⟨g,L,m,_⟩:=I.list i;have C:aX l<=k:=by simp only[Dt.dep]at hd;lia
   cases e with
   |Ğ=>
    unfold Rep at c;subst c;cases f;simp only[cj];exact SeqAt.EqAt.list_none m.isList hu
   |bl y=>
    unfold Rep at c;subst c;cases f;simp only[cj];exact SeqAt.EqAt.list_bool y m.isList hu
   |int y=>
    unfold Rep at c;subst c;obtain⟨t,rfl⟩:=f;simp only[cj];exact SeqAt.EqAt.list_int y t m.isList hu
   |str y=>
    unfold Rep at c;subst c;obtain⟨t,rfl⟩:=f;simp only[cj];exact SeqAt.EqAt.list_str y t m.isList hu
   |tup q=>
    have n:=c;unfold Rep at c;obtain⟨b,T,rfl,Q,D,E⟩:=c;cases f;obtain⟨j,F,B,_⟩:=I.tuple D;simp only[cj];exact SeqAt.EqAt.list_tuple m.isList B hu
   |lst q=>
    have n:=c;unfold Rep at c;obtain⟨b,T,rfl,Q,D,E⟩:=c;cases f;obtain⟨j,F,B,_⟩:=I.list D;by_cases o:a=b
    ·subst o;have:=Rep.inj I O n;rw[<-this,vj];exact sS _
    ·refine B4 o ?_;simp only[cj];have P:l.length=g.toArray.size:=by simpa using J.length.trans L.length
     have Y:q.length=j.toArray.size:=by simpa using E.length.trans F.length
     by_cases M:l.length=q.length
     ·have:=DG (A:=A) (s:=s) m.isList B.isList (by rw[<-P,<-Y];exact M) hu (lz (A:=A.in1) (λd e=>U A.in1 G d e) C J E L F);rw[<-P,<-ju M]at this;exact this
     ·rw[nr M];refine wO m.isList B.isList ?_ hu;rw[<-P,<-Y];simpa using M
def U8 (K:É)(a:Bool):R2:=λx y H Q=>∃(N N':Addr->Prop) (l q:Á Dt) (c:Bool),(Rep K N H (if c then .tup l else .lst l) x/\Rep K N' H (if c then .tup q else .lst q) y)/\aX l<=20/\Q (.bl (if a then !jb l q else jb l q)) H
def QZ (hu:X.A.units+30<cLine):jj X (Į .Eq) (U8 X.K false):=by
 intro þ s σ H x y v u Q I G J h;obtain⟨N,N',l,q,c,⟨i,j⟩,hd,t⟩:=h;have g:X.A.units<cLine:=by lia
 have Aa:X.A.in1.units+20<cLine:=by have:X.A.in1.units=X.A.units+1:=rfl;lia
 cases c with
 |true=>
  simp only[fI]at i j;unfold Rep at i j;obtain⟨a,xs,rfl,_,E,n⟩:=i;obtain⟨b,L,rfl,_,C,m⟩:=j;cases G;cases J;obtain⟨k,o,z,_⟩:=I.tuple E;obtain⟨f,p,B,_⟩:=I.tuple C;have:=Cg (A:=X.A) (s:=s) z B g (lz (A:=X.A.in1) (λd e=>vi I 20 X.A.in1 Aa d e) hd n m o p);rw[pz n m o p]at this;exact this X.prog X.w _ _ ⟨.bl _,H,I,rfl,t⟩
 |false=>
  simp only[Ŵ,fz]at i j;unfold Rep at i j;obtain⟨a,xs,rfl,_,E,n⟩:=i;obtain⟨b,L,rfl,_,C,m⟩:=j;cases G;cases J;obtain⟨k,o,z,_⟩:=I.list E;obtain⟨f,p,B,_⟩:=I.list C;have D:l.length=k.toArray.size:=by simpa using n.length.trans o.length
  have F:q.length=f.toArray.size:=by simpa using m.length.trans p.length
  by_cases r:l.length=q.length
  ·have:=DG (A:=X.A) (s:=s) z.isList B.isList (by rw[<-D,<-F];exact r) g (lz (A:=X.A.in1) (λd e=>vi I 20 X.A.in1 Aa d e) hd n m o p);rw[<-D,<-ju r]at this;exact this X.prog X.w _ _ ⟨.bl _,H,I,rfl,t⟩
  ·simp only[nr r]at t;exact wO z.isList B.isList (by rw[<-D,<-F];simpa using r) g X.prog X.w _ _ ⟨.bl _,H,I,rfl,t⟩
def Q2 (hu:X.A.units+30<cLine):jj X (Į .NotEq) (U8 X.K true):=by
 intro þ s σ H x y v u Q I G J h;obtain⟨N,N',l,q,c,⟨i,j⟩,hd,t⟩:=h;have g:X.A.units<cLine:=by lia
 have Aa:X.A.in1.units+20<cLine:=by have:X.A.in1.units=X.A.units+1:=rfl;lia
 cases c with
 |true=>
  simp only[fI]at i j;unfold Rep at i j;obtain⟨a,xs,rfl,_,E,n⟩:=i;obtain⟨b,L,rfl,_,C,m⟩:=j;cases G;cases J;obtain⟨k,o,z,_⟩:=I.tuple E;obtain⟨f,p,B,_⟩:=I.tuple C;have:=Zf (A:=X.A) (s:=s) z B g (lz (A:=X.A.in1) (λd e=>vi I 20 X.A.in1 Aa d e) hd n m o p);rw[pz n m o p]at this;exact this X.prog X.w _ _ ⟨.bl _,H,I,rfl,t⟩
 |false=>
  simp only[Ŵ,fz]at i j;unfold Rep at i j;obtain⟨a,xs,rfl,_,E,n⟩:=i;obtain⟨b,L,rfl,_,C,m⟩:=j;cases G;cases J;obtain⟨k,o,z,_⟩:=I.list E;obtain⟨f,p,B,_⟩:=I.list C;have D:l.length=k.toArray.size:=by simpa using n.length.trans o.length
  have F:q.length=f.toArray.size:=by simpa using m.length.trans p.length
  by_cases r:l.length=q.length
  ·have:=Zc (A:=X.A) (s:=s) z.isList B.isList (by rw[<-D,<-F];exact r) g (lz (A:=X.A.in1) (λd e=>vi I 20 X.A.in1 Aa d e) hd n m o p);rw[<-D,<-ju r]at this;exact this X.prog X.w _ _ ⟨.bl _,H,I,rfl,t⟩
  ·simp only[nr r]at t;exact Zd z.isList B.isList (by rw[<-D,<-F];simpa using r) g X.prog X.w _ _ ⟨.bl _,H,I,rfl,t⟩
end
structure Wk (J:It)(xs:Á V)(ok:Hp->Prop):Prop where
 go:∀i H,ok H->i<xs.length->J.go i H
 stop:∀i H,ok H->i=xs.length->J.stop i H
 Ln:∀i H x H',ok H->J.Ln i H x H'->H'=H/\xs[i]?=À x
theorem j2.any:∀{l:Á (Str×Ð Nat)},j2 X scope l->∀{x:Str},(l.any λp=>p.1 == x&&p.2.isSome)=true->X.env.kindOf x=À .cell∨X.env.kindOf x=À .free
 |[],_,x,e=>by simp at e
 |(y,none)::r,h,x,e=>j2.any (l:=r) h (by simpa using e)
 |(y,À k)::r,h,x,e=>by
  rw[ŉ,fE]at e;rcases e with e|e
  ·have:y=x:=by simpa using e
   subst this;exact h.1.2.2
  ·exact j2.any (l:=r) h.2 e
def fw.of (e:scope.kind=.function)(c:∀y∈scope.names,y.2=.cell->scope.names.lookup y.1=À .cell)(f:∀y∈scope.names,y.2=.local->scope.names.lookup y.1=À .local)
  (d:∀y∈scope.names,y.2=.free->(l.any λp=>p.1 == y.1&&p.2.isSome)=true) (b:j2 X scope l):fw X scope l:=⟨e,c,f,λy g a=>b.any (d y g a),b⟩
def Ts (h:gi 64 i):gi 9000 i:=h.mono (by decide)
def DH (c:Bool)(h:Heap)(i l:Addr)(k:Nat):Prop:=if c=true then h.IsTupleIter i l k else h.IsListIter i l k
def ua (c:Bool)(h:Heap)(l:Addr)(xs:ę Value):Prop:=if c=true then h.IsTuple l xs else h.IsList l xs
def DH.at (x:DH c h i l k)(e:∀o,h.get? i=À o->h'.get? i=À o):DH c h' i l k:=by
 cases c with
 |true=>obtain⟨o,a,r⟩:=(show h.IsTupleIter i l k from x);exact(show h'.IsTupleIter i l k from⟨o,e o a,r⟩)
 |false=>obtain⟨o,a,r⟩:=(show h.IsListIter i l k from x);exact(show h'.IsListIter i l k from⟨o,e o a,r⟩)
def ua.at (x:ua c h l xs)(e:∀o,h.get? l=À o->h'.get? l=À o):ua c h' l xs:=by
 cases c with
 |true=>obtain⟨o,a,r⟩:=(show h.IsTuple l xs from x);exact(show h'.IsTuple l xs from⟨o,e o a,r⟩)
 |false=>obtain⟨o,a,r⟩:=(show h.IsList l xs from x);exact(show h'.IsList l xs from⟨o,e o a,r⟩)
def DH.obj (x:DH c h i l k):∃o,h.get? i=À o/\∀v,o.data≠.cell v:=by
 cases c with
 |true=>obtain⟨o,a,_,d⟩:=(show h.IsTupleIter i l k from x);exact⟨o,a,λv z=>by rw[d]at z;cases z⟩
 |false=>obtain⟨o,a,_,d⟩:=(show h.IsListIter i l k from x);exact⟨o,a,λv z=>by rw[d]at z;cases z⟩
section
variable {prog:Č}{w:Ī}{A:Œ}{E:Value->Ú->Prop}{s:Ú}
def vL (f:DH c s.heap i l k)(hl:ua c s.heap l xs)(g:xs[k]?=À v)
  (e:∀h',DH c h' i l (k+1)->eX i s.heap h'->Q v {s with heap:=h'}):Ü (à prog w) A (ł (.ref i)) Q E s:=by
 cases c with
 |false=>exact wpAny_nextOf_list_item f hl g e
 |true=>
  have a:s.heap.IsTupleIter i l k:=f;obtain⟨o,d,m,b⟩:=id a;obtain⟨p,h,_,n,j⟩:=(show s.heap.IsTuple l xs from hl)
  unfold ł;refine Â (ķ (name:=æ "__next__") a.typeIs fb (Ĩ fb a.typeIs BU ?_ (Ae _)));show Ü _ _ (K' (.ref i) 0 >>= _) _ _ s;refine Â (ń d b (x:=.ref l) rfl ?_);show Ü _ _ (if (Ò l == õ)=true then _ else _) _ _ s;rw[Ñ (show ¬((Ò l == õ)=true)from ã)];show Ü _ _ (K' (.ref i) 1 >>= _) _ _ s;refine Â (ń d b (x:=.int k 0) rfl ?_);show Ü _ _ (seqItems? (.ref l) >>= _) _ _ s;refine Â (di h j ?_);simp only[a7,g];refine Â (i9 d b (by simp) (Ì ⟨v,rfl,Ì (e _ (show Heap.IsTupleIter _ i l (k+1)from ?_) (ŵ ..))⟩));refine⟨_,Ą _ d (dM (Lr b _)),(Obj.cls_mapFields ..).trans m,?_⟩;rw[Lr b];simp[Ŷ]
def Ey (g:A.handled=none)(j:DH c s.heap i l k)(hl:ua c s.heap l xs)(n:xs[k]?=none)
  (h:∀h' e,Heap.ExtBut i s.heap h'->(∃o,h'.get? e=À o/\o.cls=.type "StopIteration")->E (.ref e) {s with heap:=h'}):Ü (à prog w) A (ł (.ref i)) Q E s:=by
 cases c with
 |false=>exact wpAny_nextOf_list_end g j hl n h
 |true=>
  have b:s.heap.IsTupleIter i l k:=j;obtain⟨u,d,r,f⟩:=id b;obtain⟨v,p,_,t,q⟩:=(show s.heap.IsTuple l xs from hl)
  unfold ł;refine Â (ķ (name:=æ "__next__") b.typeIs fb (Ĩ fb b.typeIs BU ?_ (Ae _)));show Ü _ _ (K' (.ref i) 0 >>= _) _ _ s;refine Â (ń d f (x:=.ref l) rfl ?_);show Ü _ _ (if (Ò l == õ)=true then _ else _) _ _ s;rw[Ñ (show ¬((Ò l == õ)=true)from ã)];show Ü _ _ (K' (.ref i) 1 >>= _) _ _ s;refine Â (ń d f (x:=.int k 0) rfl ?_);show Ü _ _ (seqItems? (.ref l) >>= _) _ _ s;refine Â (di p q ?_);simp only[a7,n];refine Â (b9 (Â (i9 d f (by simp) ?_)));show Ü _ _ (newExc (.type "StopIteration") [] >>= _) _ _ _;refine Â ?_;simp only[newExc,newTuple];refine Â (Š ?_ (by size_fits));refine Â (m:=firstArgMember _ _) (O3 (a:=õ) (by first|rfl|(simp only[firstArgMember];rfl)) ?_);refine Š ?_ (by size_fits);simp only[raiseNew];refine Â (G0 ?_);first|rw[show A.in1.handled=none from g]|rw[g]
  refine Â (Ì (O4 ?_));exact h _ _ (((ŵ ..).extBut.push _).push _) ⟨_,Ù _ rfl,rfl⟩
structure ZK (c1 c2:Bool)(h:Heap)(z a b i j l m:Addr)(k:Nat):Prop where
 zz:BV h z a b .none
 ins:ov h a (.ref i) (.ref j)
 out:∃x y,ov h b x y
 i1:DH c1 h i l k
 i2:DH c2 h j m k
def N4 (D:Z_ z a b i j l m)(Z:ZK H I s.heap z a b i j l m k)
  (N:ua H s.heap l xs) (O:ua I s.heap m ys) (hx:xs[k]?=À x) (hy:ys[k]?=À y)
  (hQ:∀h',BV h' z a b (Ŷ s.heap.objs.size)->ov h' a (.ref i) (.ref j)->ov h' b x y->DH H h' i l (k+1)->DH I h' j m (k+1)->ov h' s.heap.objs.size x y->
   (∀d o,d≠z->d≠b->d≠i->d≠j->s.heap.get? d=À o->h'.get? d=À o)->Q (À (.ref s.heap.objs.size)) {s with heap:=h'}) :
  Ü (à prog w) A (gg (.ref z)) Q E s:=by
 obtain⟨g,h,⟨p1,P,M⟩,h1,h2⟩:=Z;have hT:s.TypeIs (.ref z) "zip":=⟨_,g,rfl⟩
 unfold gg;refine Â (cR (ķ (name:=æ "__next__") hT pZ (Ĩ pZ hT SG ?_ (Sh _))));show Ü _ _ (K' (.ref z) 2 >>= _) _ _ _;refine Â (ń g rfl (x:=.bool false) rfl ?_);show Ü _ _ (K' (.ref z) 3 >>= _) _ _ _;refine Â (ń g rfl (x:=.ref a) rfl ?_);refine Â (di h rfl ?_);show Ü _ _ (aI (.ref z) >>= _) _ _ _;refine Â ?_;unfold aI;refine Â (ń g rfl (x:=.none) rfl (Ì ?_));simp only[fI];refine Â (b9 ?_);refine Â (ń g rfl (x:=.ref b) rfl ?_);refine Â (dU g (by simp) λq1 T t1=>?_);replace T:BV q1 z a b .ellipsis:=T;refine Â ?_;simp only[Oa,OW,jO,zS];refine Â (Â (wQ ?_));show Ü _ _ (ł (.ref i) >>= _) _ _ _;refine Â (vL (s:={s with heap:=q1}) (h1.at λo e=>t1.extBut _ _ D.i1z e) (N.at λo e=>t1.extBut _ _ D.l1z e) hx λq2 i2 t2=>Ì ?_);have Y:ov q2 b p1 P:=t2.extBut _ _ D.TOi1 (t1.extBut _ _ D.TOz M);refine Â (di Y rfl ?_);refine Â (t9 Y λq3 G t3=>?_);replace G:ov q3 b x P:=G;refine Â (B8 (Ì ?_));refine Â (Â (wQ ?_));show Ü _ _ (ł (.ref j) >>= _) _ _ _;refine Â (vL (s:={s with heap:=q3}) (h2.at λo e=>t3.extBut _ _ D.TOi2.symm (t2.extBut _ _ D.i12.symm (t1.extBut _ _ D.i2z e)))
  (O.at λo e=>t3.extBut _ _ D.l2TO (t2.extBut _ _ D.l2i1 (t1.extBut _ _ D.l2z e))) hy λq4 j4 p=>Ì ?_)
 have b4:ov q4 b x P:=p.extBut _ _ D.TOi2 G;refine Â (di b4 rfl ?_);refine Â (t9 b4 λc u q=>?_);replace u:ov c b x y:=u;refine Â (B8 (Ì (Ì ?_)));refine Â (di u rfl ?_);refine Â (t6 ?_);have n:c.objs.size=s.heap.objs.size:=by rw[q.1,p.1,t3.1,t2.1,t1.1]
 have z5:BV c z a b .ellipsis:=q.extBut _ _ D.TOz.symm (p.extBut _ _ D.i2z.symm (t3.extBut _ _ D.TOz.symm (t2.extBut _ _ D.i1z.symm T)));have k5:∀d o,d≠z->d≠b->d≠i->d≠j->s.heap.get? d=À o->c.get? d=À o:=λd o f v J L e=>
  q.extBut _ _ v (p.extBut _ _ L (t3.extBut _ _ v (t2.extBut _ _ J (t1.extBut _ _ f e))))
 have i5:DH H c i l (k+1):=i2.at λo e=>q.extBut _ _ D.TOi1.symm (p.extBut _ _ D.i12 (t3.extBut _ _ D.TOi1.symm e));have j5:DH I c j m (k+1):=j4.at λo e=>q.extBut _ _ D.TOi2.symm e;have t:z<c.objs.size:=Ó z5;show Ü _ _ (kQ (.ref z) (.ref c.objs.size) >>= _) _ _ _;refine Â ?_;unfold kQ;have z6:BV (c.push {cls:=.type "tuple",data:=.seq #[x,y]}) z a b .ellipsis:=Ä _ z5;refine Â (dU z6 (by simp) λq7 U t7=>?_);replace U:BV q7 z a b (Ŷ c.objs.size):=U;refine dU U (by simp) λB C t8=>?_;replace C:BV B z a b (Ŷ c.objs.size):=C;have r:∀d o,d≠z->c.get? d=À o->B.get? d=À o:=λd o f e=>t8.extBut _ _ f (t7.extBut _ _ f (Ä _ e));have X:ov B c.objs.size x y:=t8.extBut _ _ (ħ t) (t7.extBut _ _ (ħ t) (Ù _ rfl));rw[n]at C X;refine Ì ⟨_,rfl,Ì ?_⟩;show Q (À (.ref c.objs.size)) _;rw[n];exact hQ B C (r _ _ D.TIz (k5 _ _ D.TIz D.TITO D.TIi1 D.TIi2 h)) (r _ _ D.TOz u) (i5.at λo e=>r _ o D.i1z e) (j5.at λo e=>r _ o D.i2z e) X λd o f v J L e=>r d o f (k5 d o f v J L e)
def Sg (U:A.handled=none)(D:Z_ z a b i j l m)(Z:ZK c1 c2 s.heap z a b i j l m k)
  (t:ua c1 s.heap l xs) (G:ua c2 s.heap m ys) (r:xs[k]?=none∨ys[k]?=none)
  (hQ:∀h',(∀d o,d≠z->d≠b->d≠i->d≠j->s.heap.get? d=À o->h'.get? d=À o)->Q none {s with heap:=h'}):Ü (à prog w) A (gg (.ref z)) Q E s:=by
 obtain⟨p,y,⟨p1,p2,B⟩,O,h2⟩:=Z;have P:s.TypeIs (.ref z) "zip":=⟨_,p,rfl⟩
 unfold gg;have g:∀h' e,(∀d o,d≠z->d≠b->d≠i->d≠j->s.heap.get? d=À o->h'.get? d=À o)->(∃o,h'.get? e=À o/\o.cls=.type "StopIteration")->
   Ü (à prog w) A (do if <-isInstance (.ref e) (.type "StopIteration")then pure none else throw (.ref e):Za (Ð Value)) Q E {s with heap:=h'}:=λh' e hk ⟨o,ho,hc⟩=>
  Â (Ax (T:="StopIteration") (b:=true) ⟨o,ho,hc⟩ Fe (Ì (hQ h' hk)))
 refine Â (cR (ķ (name:=æ "__next__") P pZ (Ĩ pZ P SG ?_ (Sh _))));show Ü _ _ (K' (.ref z) 2 >>= _) _ _ _;refine Â (ń p rfl (x:=.bool false) rfl ?_);show Ü _ _ (K' (.ref z) 3 >>= _) _ _ _;refine Â (ń p rfl (x:=.ref a) rfl ?_);refine Â (di y rfl ?_);show Ü _ _ (aI (.ref z) >>= _) _ _ _;refine Â ?_;unfold aI;refine Â (ń p rfl (x:=.none) rfl (Ì ?_));simp only[fI];refine Â (b9 ?_);refine Â (ń p rfl (x:=.ref b) rfl ?_);refine Â (dU p (by simp) λJ u t1=>?_);replace u:BV J z a b .ellipsis:=u;refine Â ?_;simp only[Oa,OW,jO,zS];refine Â (Â (wQ ?_));show Ü _ _ (ł (.ref i) >>= _) _ _ _;cases H:xs[k]? with
 |none=>
  refine Â (Ey (s:={s with heap:=J}) U (O.at λo e=>t1.extBut _ _ D.i1z e) (t.at λo e=>t1.extBut _ _ D.l1z e) H λL e t2 C=>?_);obtain⟨I,c,f⟩:=C;have z2:BV L z a b .ellipsis:=t2 _ _ D.i1z.symm u;have n:e≠z:=λx=>by subst x;rw[z2]at c;cases c;simp at f
  refine dU z2 (by simp) λM _ t3=>?_;exact g M e (λd o q _ v _ x=>t3.extBut _ _ q (t2 _ _ v (t1.extBut _ _ q x))) ⟨I,t3.extBut _ _ n c,f⟩
 |some x=>
  have hy:ys[k]?=none:=by
   rcases r with h|h
   ·rw[H]at h;cases h
   ·exact h
  refine Â (vL (s:={s with heap:=J}) (O.at λo e=>t1.extBut _ _ D.i1z e) (t.at λo e=>t1.extBut _ _ D.l1z e) H λL i2 t2=>Ì ?_);have N:ov L b p1 p2:=t2.extBut _ _ D.TOi1 (t1.extBut _ _ D.TOz B);refine Â (di N rfl ?_);refine Â (t9 N λM b3 t3=>?_);refine Â (B8 (Ì ?_));refine Â (Â (wQ ?_));show Ü _ _ (ł (.ref j) >>= _) _ _ _;refine Â (Ey (s:={s with heap:=M}) U (h2.at λo e=>t3.extBut _ _ D.TOi2.symm (t2.extBut _ _ D.i12.symm (t1.extBut _ _ D.i2z e)))
   (G.at λo e=>t3.extBut _ _ D.l2TO (t2.extBut _ _ D.l2i1 (t1.extBut _ _ D.l2z e))) hy λq4 e X C=>?_)
  obtain⟨I,c,f⟩:=C;have z4:BV q4 z a b .ellipsis:=X _ _ D.i2z.symm (t3.extBut _ _ D.TOz.symm (t2.extBut _ _ D.i1z.symm u));have n:e≠z:=λx=>by subst x;rw[z4]at c;cases c;simp at f
  refine dU z4 (by simp) λq5 _ Y=>?_;exact g q5 e (λd o q e2 v e4 x=>Y.extBut _ _ q (X _ _ e4 (t3.extBut _ _ e2 (t2.extBut _ _ v (t1.extBut _ _ q x))))) ⟨I,Y.extBut _ _ n c,f⟩
def Ji (l m:Addr)(xs ys:ę Value) :
  Meets (cD.«zip.__new__» ⟨[.type "zip",.ref l,.ref m],[]⟩) (λ_ R s=>s.heap.IsTuple l xs/\s.heap.IsTuple m ys/\
   R (.ok (.ret (.ref (s.heap.objs.size+4)))) {s with heap:=((((s.heap.push {cls:=.type "tuple_iterator",data:=.fields #[.ref l,.int 0 0]}).push {cls:=.type "tuple_iterator",data:=.fields #[.ref m,.int 0 0]}).push
    {cls:=.type "tuple",data:=.seq #[.ref s.heap.objs.size,.ref (s.heap.objs.size+1)]}).push {cls:=.type "tuple",data:=.seq #[.none,.none]}).push {cls:=.type "zip",data:=.fields #[.none,.bool false,.bool false,.ref (s.heap.objs.size+2),.ref (s.heap.objs.size+3)]}}):=
 .of_wp λprog w A R s h=>by
  obtain⟨f,g,d,j,os⟩:=s;obtain⟨c,e,h⟩:=h;have i:=sub_zip;have a:VE (SQ ⟨f,g,d,j,os⟩) l xs:=c;have b:VE (SQ ⟨f.push {cls:=.type "tuple_iterator",data:=.fields #[.ref l,.int 0 0]},g,d,j,os⟩) m ys:=YE e _;wp_walk using w8 a,w8 b
  simp only[ĺ]at h⊢;exact⟨_,rfl,h⟩
def KR (n:ua c s.heap l xs)(q:ua c s.heap m ys)
  (k:∀h',ZK c c h' (s.heap.objs.size+4) (s.heap.objs.size+2) (s.heap.objs.size+3) s.heap.objs.size (s.heap.objs.size+1) l m 0->(∀d o,s.heap.get? d=À o->h'.get? d=À o)->Q (.ref (s.heap.objs.size+4)) {s with heap:=h'}) :
  Ü (à prog w) A (call (.type "zip") [.ref l,.ref m]) Q E s:=by
 cases c with
 |false=>exact call_zip_2 n q λh' B r t u v _ z=>k h' ⟨B,r,⟨_,_,t⟩,u,v⟩ z
 |true=>
  refine callType_new F.called_zip (by decide) (F.typeCall_zip_2 _ _) (F.newCall_zip_2 _ _) (λx=>F.args_object_init_3 x _ _) F.entry_zip_new (Ji l m xs ys) ⟨n,q,?_⟩;have p:∀(h:Heap) (a b g i j:Obj) (d:Addr) (o:Obj),h.get? d=À o->(((((h.push a).push b).push g).push i).push j).get? d=À o:=λh a b g i j d o e=>
   Ä _ (Ä _ (Ä _ (Ä _ (Ä _ e))))
  have y:∀(h:Heap) (a b g i j:Obj),j.isFreed=false->(((((h.push a).push b).push g).push i).push j).get? (h.objs.size+4)=À j:=λh a b g i j f=>by
   have e:h.objs.size+4=((((h.push a).push b).push g).push i).objs.size:=by simp only[ĺ]
   rw[e];exact Ù _ f
  have H:∀(h:Heap) (a b g i j:Obj),i.isFreed=false->(((((h.push a).push b).push g).push i).push j).get? (h.objs.size+3)=À i:=λh a b g i j f=>by
   have e:h.objs.size+3=(((h.push a).push b).push g).objs.size:=by simp only[ĺ]
   rw[e];exact Ä _ (Ù _ f)
  have G:∀(h:Heap) (a b g i j:Obj),g.isFreed=false->(((((h.push a).push b).push g).push i).push j).get? (h.objs.size+2)=À g:=λh a b g i j f=>by
   have e:h.objs.size+2=((h.push a).push b).objs.size:=by simp only[ĺ]
   rw[e];exact Ä _ (Ä _ (Ù _ f))
  have D:∀(h:Heap) (a b g i j:Obj),b.isFreed=false->(((((h.push a).push b).push g).push i).push j).get? (h.objs.size+1)=À b:=λh a b g i j f=>by
   have e:h.objs.size+1=(h.push a).objs.size:=by simp only[ĺ]
   rw[e];exact Ä _ (Ä _ (Ä _ (Ù _ f)))
  have C:∀(h:Heap) (a b g i j:Obj),a.isFreed=false->(((((h.push a).push b).push g).push i).push j).get? h.objs.size=À a:=λh a b g i j f=>
   Ä _ (Ä _ (Ä _ (Ä _ (Ù _ f))))
  exact⟨⟨_,y _ _ _ _ _ _ rfl,rfl⟩,k _ ⟨y _ _ _ _ _ _ rfl,G _ _ _ _ _ _ rfl,⟨_,_,H _ _ _ _ _ _ rfl⟩,⟨_,C _ _ _ _ _ _ rfl,rfl,rfl⟩,⟨_,D _ _ _ _ _ _ rfl,rfl,rfl⟩⟩ λd o e=>p _ _ _ _ _ _ d o e⟩
end
def yM (c:Bool)(K:É)(H:Hp)(a:Addr)(xs:Á V):Prop:=if c=true then gq K H a xs else fC K H a xs
def Inv.NP (I:Inv X b d H s)(h:yM c X.K H a xs):∃its:Á Value,Vals xs its/\ua c s.heap a its.toArray:=by
 cases c with
 |true=>obtain⟨its,r,p,_⟩:=I.tuple (show gq X.K H a xs from h);exact⟨its,r,p⟩
 |false=>obtain⟨its,r,p,_⟩:=I.list (show fC X.K H a xs from h);exact⟨its,r,p.isList⟩
def Inv.zK (I:Inv X b d H s)(h:yM c X.K H a xs)(k:yM c X.K H a ys):xs=ys:=by
 cases c with
 |true=>exact I.sH (show gq X.K H a xs from h) k
 |false=>exact I.vB (show fC X.K H a xs from h) k
def Zn (c:Bool)(K:É)(a b:Addr):It:=
  ⟨λi H=>∃xs d x y,yM c K H a xs/\yM c K H b d/\xs[i]?=À x/\d[i]?=À y,
   λi H v A=>∃T x y,v=.ref T/\H T=none/\A=upd H T (.tup [x,y])/\∀xs d,yM c K H a xs->yM c K H b d->xs[i]?=À x/\d[i]?=À y,
   λi H=>∃xs d,yM c K H a xs/\yM c K H b d/\(xs.length<=i∨d.length<=i)⟩
def Km {K:É}{es:Á Expr}(c:Bool)(l m z a b i j:Addr)(D:Z_ z a b i j l m) :
  Turn P w K (.Tuple es kk NV) (Zn c K l m) [z,a,b,i,j] z (λn h=>ZK c c h z a b i j l m n) where
 mem:=by simp
 obj:=λn h st d hd=>by
  obtain⟨hz,Xk,⟨p1,p2,Xl⟩,h1,h2⟩:=st;simp only[ß,Ā,ao]at hd;rcases hd with rfl|rfl|rfl|rfl|rfl
  ·exact⟨_,hz,λv e=>nomatch e⟩
  ·exact⟨_,Xk,λv e=>nomatch e⟩
  ·exact⟨_,Xl,λv e=>nomatch e⟩
  ·exact h1.obj
  ·exact h2.obj
 keep:=λn h h' st k=>by
  obtain⟨hz,Xk,⟨p1,p2,Xl⟩,h1,h2⟩:=st;exact⟨k z (by simp) _ hz,k a (by simp) _ Xk,⟨p1,p2,k b (by simp) _ Xl⟩,h1.at λo e=>k i (by simp) o e,h2.at λo e=>k j (by simp) o e⟩
 item:=by
  intro X hP hw hK hc n þ s σ H E I hf st hg;subst hP hw hK;obtain⟨xs,ys,x,y,Wc,Wd,hx,hy⟩:=hg;obtain⟨Xy,r1,p1⟩:=I.NP Wc;obtain⟨Xz,r2,p2⟩:=I.NP Wd;obtain⟨u1,e1,X_⟩:=r1.get hx;obtain⟨u2,e2,ru2⟩:=r2.get hy;refine N4 D st p1 p2 (by simpa using e1) (by simpa using e2) λh' z1 a1 b1 i1 j1 T1 kp=>?_;refine⟨_,rfl,wpAny_letOwnedTupleGo_zip (s:={s with heap:=h'}) z1 λh2 z2 t2=>?_⟩;have ZA:H s.heap.objs.size=none:=I.ť.fresh (Î _);have zT:s.heap.objs.size≠z:=ħ (Ó (show s.heap.get? z=À _ from st.zz));have uJ:∀d o,d∉[z,a,b,i,j]->s.heap.get? d=À o->h2.get? d=À o:=λd o hd e=>by
   simp only[ß,Ā,ao,not_or]at hd;exact t2.extBut _ _ hd.1 (kp d o hd.1 hd.2.2.1 hd.2.2.2.1 hd.2.2.2.2 e)
  have T2:ov h2 s.heap.objs.size u1 u2:=t2.extBut _ _ zT T1;have Jl:∀d o,H d=À o->d∉[z,a,b,i,j]:=λd o e hd=>by rw[(hf d hd).1]at e;cases e
  have nT:∀d o,H d=À o->d≠s.heap.objs.size:=λd o e q=>by rw[q,ZA]at e;cases e
  have newOk:mO X.prog X.w (upd H s.heap.objs.size (.tup [x,y])) h2:=by
   intro d o e;by_cases hd:d=s.heap.objs.size
   ·subst hd;rw[ă]at e;cases e;exact⟨by show 2<=sizeLine;decide,[u1,u2],.cons X_ (.cons ru2 .nil),_,T2,rfl,0,rfl⟩
   ·rw[ç hd]at e;refine(I.ť d o e).oO (λq v hq r=>uJ q v ?_ r) (λq r=>by rw[ç (nT q _ r)];exact r) (λq Sf r=>by rw[ç (nT q _ r)];exact r);rcases hq with rfl|hq
    ·exact Jl _ _ e
    ·exact Jl _ _ hq
  have I2:Inv X þ σ (upd H s.heap.objs.size (.tup [x,y])) {s with heap:=h2}:=by
   refine I.step (g':=s.gens) (d':=s.drawn) (t':=s.toks) (ch:=[z,a,b,i,j]) (λd hd=>⟨(hf d hd).2.2.2.1,(hf d hd).2.1,(hf d hd).2.2.2.2.1,(hf d hd).2.2.2.2.2⟩) (λd o _ _ hd e _=>uJ d o hd e) (λd o _ _ hd e _=>⟨o.slots,uJ d o hd e⟩)
    (λd o hd e nn=>by rw[ç (ò (Ó e))];exact nn) (λd o hd e=>⟨o,uJ d o hd e⟩) (λd Sf e=>by rw[ç (nT d _ e)];exact e) (λd o u e=>by rw[ç (nT d _ e)];exact e)
    (λd ps e=>⟨#[],by rw[ç (nT d _ e),e];simp⟩) (λmm hm=>?_) newOk I.bare
   obtain⟨o,Pz,ep,ho,r⟩:=hm;exact⟨o,Pz,ep,uJ _ o (λhd=>(hf _ hd).2.1 rfl) ho,r⟩
  refine⟨.ref s.heap.objs.size,_,I2,rfl,⟨_,x,y,rfl,ZA,rfl,λSf Wr k1 k2=>?_⟩,?_,λd hd=>?_⟩
  ·rw[I.zK k1 Wc,I.zK k2 Wd];exact⟨hx,hy⟩
  ·exact⟨z2,t2.extBut _ _ D.TIz a1,⟨_,_,t2.extBut _ _ D.TOz b1⟩,i1.at λo e=>t2.extBut _ _ D.i1z e,j1.at λo e=>t2.extBut _ _ D.i2z e⟩
  ·have Xo:d≠s.heap.objs.size:=by
    rintro rfl;have lt:∀{q:Addr}{o:Obj},s.heap.get? q=À o->s.heap.objs.size≠q:=λe=>ħ (Ó e);simp only[ß,Ā,ao]at hd;obtain⟨o1,g1,_⟩:=st.i1.obj;obtain⟨o2,g2,_⟩:=st.i2.obj;obtain⟨y1,y2,g3⟩:=st.out;rcases hd with q|q|q|q|q
    ·exact lt st.zz q
    ·exact lt st.ins q
    ·exact lt g3 q
    ·exact lt g1 q
    ·exact lt g2 q
   rw[ç Xo];exact(hf d hd).1
 done:=by
  intro X hP hw hK hc n þ s σ H E I hf st hg;subst hP hw hK;obtain⟨xs,ys,Wc,Wd,hx⟩:=hg;obtain⟨Xy,r1,p1⟩:=I.NP Wc;obtain⟨Xz,r2,p2⟩:=I.NP Wd;have n1:=r1.length;have n2:=r2.length;refine Sg (I.ok.hd hc) D st p1 p2 (hx.elim (λq=>.inl (by simp;lia)) λq=>.inr (by simp;lia)) λh' kp=>⟨rfl,?_⟩
  have uJ:∀d o,d∉[z,a,b,i,j]->s.heap.get? d=À o->h'.get? d=À o:=λd o hd e=>by
   simp only[ß,Ā,ao,not_or]at hd;exact kp d o hd.1 hd.2.2.1 hd.2.2.2.1 hd.2.2.2.2 e
  have Jl:∀d o,H d=À o->d∉[z,a,b,i,j]:=λd o e hd=>by rw[(hf d hd).1]at e;cases e
  have there:∀d o,s.heap.get? d=À o->d∉[z,a,b,i,j]->∃o',h'.get? d=À o':=λd o e hd=>⟨o,uJ d o hd e⟩
  refine I.step (g':=s.gens) (d':=s.drawn) (t':=s.toks) (ch:=[z,a,b,i,j]) (λd hd=>⟨(hf d hd).2.2.2.1,(hf d hd).2.1,(hf d hd).2.2.2.2.1,(hf d hd).2.2.2.2.2⟩) (λd o _ _ hd e _=>uJ d o hd e) (λd o _ _ hd e _=>⟨o.slots,uJ d o hd e⟩)
   (λd o hd e nn=>nn) (λd o hd e=>⟨o,uJ d o hd e⟩) (λd Sf e=>e) (λd o u e=>e) (λd ps e=>⟨#[],by rw[e];simp⟩) (λmm hm=>?_) (λd o e=>?_) I.bare
  ·obtain⟨o,Pz,ep,ho,r⟩:=hm;exact⟨o,Pz,ep,uJ _ o (λhd=>(hf _ hd).2.1 rfl) ho,r⟩
  ·refine(I.ť d o e).oO (λq v hq r=>uJ q v ?_ r) (λ_ r=>r) (λ_ _ r=>r);rcases hq with rfl|hq
   ·exact Jl _ _ e
   ·exact Jl _ _ hq
 self:=λ_ _ _ _ _ st h=>W3 st.zz h
def Xv (K:É)(t:TA):TI:=λf H R=>t f H λd A=>∃c a b,d=[.ref a,.ref b]/\(∃xs,yM c K A a xs)/\(∃e,yM c K A b e)/\R (Zn c K a b) A
def Rk {X:Cx}{C:Á Expr}{w tb:TE}(G:Gl X "zip")(J:X.mg "zip"=none)(E:PE X e1 w)(F:PE X g tb)
  (t:Ï [e1,g] X.env=(false,Ė e1 X.env)::Ï [g] X.env:=by rfl) (l:Ï [g] X.env=[(false,Ė g X.env)]:=by rfl) (k:(Ģ pos (Ï [g] X.env)).any (·.1)=false:=by rfl) :
  PI X (.Tuple C U x) (.Call (.Name "zip" p) [e1,g] [] pos) (Xv X.K (wo w (wo tb zN))):=by
 intro j s T H R I h;refine af (pE I G J YN ?_);refine cQ (aq ((aR E (aR F eJ l) t) pos j s T H _ I h) λus f Q=>iR Q λvs B A P O=>?_) t k;obtain⟨c,a,b,rfl,⟨xs,L⟩,⟨ys,M⟩,q⟩:=O;obtain⟨Y,u2,rfl,o,r⟩:=vals2 P;cases o;cases r;obtain⟨u,_,m⟩:=A.NP L;obtain⟨v,_,n⟩:=A.NP M;have y:a<f.heap.objs.size:=by
  cases c with
  |true=>obtain⟨_,e,_⟩:=(show f.heap.IsTuple a _ from m);exact Ó e
  |false=>obtain⟨_,e,_⟩:=(show f.heap.IsList a _ from m);exact Ó e
 have z:b<f.heap.objs.size:=by
  cases c with
  |true=>obtain⟨_,e,_⟩:=(show f.heap.IsTuple b _ from n);exact Ó e
  |false=>obtain⟨_,e,_⟩:=(show f.heap.IsList b _ from n);exact Ó e
 refine KR m n λD Z N=>?_;refine W3 (s:={f with heap:=D}) Z.zz ?_;refine⟨_,_,_,_,B,rfl,A.kept (t':=f.toks) N,Km c a b _ _ _ _ _ (zipApart_new y z),Z,λd hd=>?_,q⟩;have i:f.heap.objs.size<=d:=by
  simp only[ß,Ā,ao]at hd;rcases hd with rfl|rfl|rfl|rfl|rfl
  ·exact m4 _ _
  ·exact m4 _ _
  ·exact m4 _ _
  ·exact Î _
  ·exact m4 _ _
 exact A.A3 i (A.ť.fresh i)
def Zl (K:É)(a:Addr):It:=
  ⟨λi H=>∃xs x,fC K H a xs/\xs[i]?=À x,
   λi H v A=>∃T x,v=.ref T/\H T=none/\A=upd H T (.tup [.int (i:Int),x])/\∀xs,fC K H a xs->xs[i]?=À x,
   λi H=>∃xs,fC K H a xs/\xs.length<=i⟩
structure EK (h:Heap)(e it l:Addr)(k:Nat):Prop where
 ee:∃old,IsEnum h e it k old
 ii:h.IsListIter it l k
def GB {K:É}{es:Á Expr}(l e it:Addr)(ZD:e≠it) :
  Turn P w K (.Tuple es kk NV) (Zl K l) [e,it] e (λn h=>EK h e it l n) where
 mem:=by simp
 obj:=λn h st d hd=>by
  obtain⟨⟨old,he⟩,o,ho,_,dd⟩:=st;simp only[ß,Ā,ao]at hd;rcases hd with rfl|rfl
  ·exact⟨_,he,λv z=>nomatch z⟩
  ·exact⟨o,ho,λv z=>by rw[dd]at z;cases z⟩
 keep:=λn h h' st k=>by
  obtain⟨⟨old,he⟩,o,ho,r⟩:=st;exact⟨⟨old,k e (by simp) _ he⟩,o,k it (by simp) o ho,r⟩
 item:=by
  intro X hP hw hK hc n þ s σ H E I hf st hg;subst hP hw hK;obtain⟨xs,x,hq,hx⟩:=hg;obtain⟨its,r1,p1⟩:=I.NP (c:=false) hq;obtain⟨u1,e1,X_⟩:=r1.get hx;obtain⟨⟨old,he⟩,hit⟩:=st;have hT:H s.heap.objs.size=none:=I.ť.fresh (Î _);have eT:s.heap.objs.size≠e:=ħ (Ó (show s.heap.get? e=À _ from he));have iT:s.heap.objs.size≠it:=by obtain⟨o,ho,_⟩:=hit;exact ħ (Ó ho)
  refine wpAny_pyNext_enum_item he hit p1 (by simpa using e1) ZD λh' z1 i1 T1 _ kp=>?_;refine⟨_,rfl,wpAny_letOwnedTupleGo_enum (s:={s with heap:=h',toks:=s.toks+1}) z1 λh2 z2 t2=>?_⟩;have uJ:∀d o,d∉[e,it]->s.heap.get? d=À o->h2.get? d=À o:=λd o hd q=>by
   simp only[ß,Ā,ao,not_or]at hd;exact(t2.2 d hd.1).trans (kp d o hd.1 hd.2 q)
  have T2:h2.get? s.heap.objs.size=À {cls:=.type "tuple",data:=.seq #[.int (n:Int) s.toks,u1]}:=(t2.2 _ eT).trans T1;have Jl:∀d o,H d=À o->d∉[e,it]:=λd o q hd=>by rw[(hf d hd).1]at q;cases q
  have nT:∀d o,H d=À o->d≠s.heap.objs.size:=λd o q z=>by rw[z,hT]at q;cases q
  have newOk:mO X.prog X.w (upd H s.heap.objs.size (.tup [.int (n:Int),x])) h2:=by
   intro d o q;by_cases hd:d=s.heap.objs.size
   ·subst hd;rw[ă]at q;cases q;exact⟨by show 2<=sizeLine;decide,[.int (n:Int) s.toks,u1],.cons ⟨_,rfl⟩ (.cons X_ .nil),_,T2,rfl,0,rfl⟩
   ·rw[ç hd]at q;refine(I.ť d o q).oO (λa v ha r=>uJ a v ?_ r) (λa r=>by rw[ç (nT a _ r)];exact r) (λa Sf r=>by rw[ç (nT a _ r)];exact r);rcases ha with rfl|ha
    ·exact Jl _ _ q
    ·exact Jl _ _ ha
  have I2:Inv X þ σ (upd H s.heap.objs.size (.tup [.int (n:Int),x])) {s with heap:=h2,toks:=s.toks+1}:=by
   refine I.step (g':=s.gens) (d':=s.drawn) (t':=s.toks+1) (ch:=[e,it]) (λd hd=>⟨(hf d hd).2.2.2.1,(hf d hd).2.1,(hf d hd).2.2.2.2.1,(hf d hd).2.2.2.2.2⟩) (λd o _ _ hd q _=>uJ d o hd q) (λd o _ _ hd q _=>⟨o.slots,uJ d o hd q⟩)
    (λd o hd q nn=>by rw[ç (ò (Ó q))];exact nn) (λd o hd q=>⟨o,uJ d o hd q⟩) (λd Sf q=>by rw[ç (nT d _ q)];exact q) (λd o u q=>by rw[ç (nT d _ q)];exact q)
    (λd ps q=>⟨#[],by rw[ç (nT d _ q),q];simp⟩) (λmm hm=>?_) newOk I.bare
   obtain⟨o,Pz,ep,ho,r⟩:=hm;exact⟨o,Pz,ep,uJ _ o (λhd=>(hf _ hd).2.1 rfl) ho,r⟩
  refine⟨.ref s.heap.objs.size,_,I2,rfl,⟨_,x,rfl,hT,rfl,λSf k1=>?_⟩,?_,λd hd=>?_⟩
  ·rw[I.zK (c:=false) k1 hq];exact hx
  ·refine⟨⟨_,by simpa using z2⟩,?_⟩;obtain⟨o,ho,r⟩:=i1;exact⟨o,(t2.2 it ZD.symm).trans ho,r⟩
  ·have Xo:d≠s.heap.objs.size:=by
    rintro rfl;simp only[ß,Ā,ao]at hd;rcases hd with q|q
    ·exact eT q
    ·exact iT q
   rw[ç Xo];exact(hf d hd).1
 done:=by
  intro X hP hw hK hc n þ s σ H E I hf st hg;subst hP hw hK;obtain⟨xs,hq,hx⟩:=hg;obtain⟨its,r1,p1⟩:=I.NP (c:=false) hq;have n1:=r1.length;obtain⟨⟨old,he⟩,hit⟩:=st;refine wpAny_pyNext_enum_end (I.ok.hd hc) he hit p1 (by simp;lia) λh' kp=>⟨rfl,?_⟩
  have uJ:∀d o,d∉[e,it]->s.heap.get? d=À o->h'.get? d=À o:=λd o hd q=>by
   simp only[ß,Ā,ao,not_or]at hd;exact kp d o hd.2 q
  have Jl:∀d o,H d=À o->d∉[e,it]:=λd o q hd=>by rw[(hf d hd).1]at q;cases q
  refine I.step (g':=s.gens) (d':=s.drawn) (t':=s.toks) (ch:=[e,it]) (λd hd=>⟨(hf d hd).2.2.2.1,(hf d hd).2.1,(hf d hd).2.2.2.2.1,(hf d hd).2.2.2.2.2⟩) (λd o _ _ hd q _=>uJ d o hd q) (λd o _ _ hd q _=>⟨o.slots,uJ d o hd q⟩)
   (λd o hd q nn=>nn) (λd o hd q=>⟨o,uJ d o hd q⟩) (λd Sf q=>q) (λd o u q=>q) (λd ps q=>⟨#[],by rw[q];simp⟩) (λmm hm=>?_) (λd o q=>?_) I.bare
  ·obtain⟨o,Pz,ep,ho,r⟩:=hm;exact⟨o,Pz,ep,uJ _ o (λhd=>(hf _ hd).2.1 rfl) ho,r⟩
  ·refine(I.ť d o q).oO (λa v ha r=>uJ a v ?_ r) (λ_ r=>r) (λ_ _ r=>r);rcases ha with rfl|ha
   ·exact Jl _ _ q
   ·exact Jl _ _ ha
 self:=λ_ _ _ _ _ st h=>by
  obtain⟨⟨old,he⟩,_⟩:=st;exact VU he h
def TY (K:É)(t:TA):TI:=λc H R=>t c H λb A=>∃a,b=[.ref a]/\(∃xs,fC K A a xs)/\R (Zl K a) A
def Ni {X:Cx}{n:Á Expr}{l:TE}(t:Gl X "enumerate")(u:X.mg "enumerate"=none)(r:PE X e1 l)
  (k:Ï [e1] X.env=(false,Ė e1 X.env)::Ï [] X.env:=by rfl) (g:(Ģ pos (Ï [] X.env)).any (·.1)=false:=by rfl) :
  PI X (.Tuple n J m) (.Call (.Name "enumerate" p) [e1] [] pos) (TY X.K (wo l zN)):=by
 intro e s G H R I h;refine af (pE I t u YM ?_);refine cQ (aq ((aR r eJ k) pos e s G H _ I h) λus f F=>iR F λL B A D C=>?_) k g;obtain⟨a,rfl,⟨xs,v⟩,q⟩:=C;obtain⟨E,rfl,j⟩:=D.one;cases (show E=Ò a from j);obtain⟨w,_,y⟩:=A.NP (c:=false) v;refine call_enumerate_list y λo z i _ x=>?_;refine VU (s:={f with heap:=o}) z ?_;refine⟨_,_,_,_,B,rfl,A.kept (t':=f.toks) x,GB a (f.heap.objs.size+1) f.heap.objs.size (Nat.succ_ne_self _),⟨⟨_,z⟩,i⟩,λd hd=>?_,q⟩;have b:f.heap.objs.size<=d:=by
  simp only[ß,Ā,ao]at hd;rcases hd with rfl|rfl
  ·exact mw _
  ·exact Î _
 exact A.A3 b (A.ť.fresh b)
def gq.const {K:É}{its:ę Value}{xs:Á V}(h:K.lookup a=À ⟨.type "tuple",od,.seq its n,c⟩)(v:Vals xs its.toList)(hz:xs.length<=1000):gq K H a xs:=
 .inr ⟨_,its,n,h,rfl,rfl,by
  have b:xs.length=its.size:=v.length;rw[<-b];exact Ġ (ũ hz),v⟩
open PySem.Builtin.Str in
def RI:V->Á V->Hp->VK->Prop:=λx b H Q=>∃t a,x=.str t/\b=[.str a]/\(decide (t.length<a.length)||decide (strKind t<strKind a))=false/\(a.length == 0)=false/\(occurrences t a 0 t.length (t.length+1)).isEmpty=false/\t.length<=1000/\
 (partsBetween t (occurrences t a 0 t.length (t.length+1)) a.length).length<=1000/\∀l,H l=none->Q (.ref l) (upd H l (.lst ((partsBetween t (occurrences t a 0 t.length (t.length+1)) a.length).map V.str)))
theorem o8:∀n l,Vals (l.map V.str) (strsFrom n l)
 |_,[]=>.nil
 |n,x::r=>.cons ⟨n,rfl⟩ (o8 (n+1) r)
def Jd:GP X "str.split" RI:=by
 intro d s n H x m v us Q I l rv h;obtain⟨t,a,rfl,rfl,f,i,g,j,c,q⟩:=h;obtain⟨e,rfl⟩:=l;obtain⟨u,rfl,k⟩:=rv.one;obtain⟨b,rfl⟩:=k;refine qi F.slot_str_split ((Dy (T:="str") (x:=.str t) I ⟨e,rfl⟩ rfl).1) F.entry_str_split (F.args_str_split_2 _ _) (meets_str_split_sep t a e b f i g (Ġ (ũ j)) (Ġ (ũ c))) ?_;refine⟨.ref s.heap.objs.size,_,I.Mn (t':=_) (o8 s.toks _) ?_,rfl,q _ I.fresh⟩;rw[Ê];exact Ġ (ũ c)
def Jy {X:Cx}{K:É}{c:Á Expr}{k:TE}{t:TA}{T id:String}{r:V->Á V->Hp->VK->Prop}(l:X.K=K)(s:qg T)(i:Slot T name id)(j:LC (.builtin id)=pure (.type "method_descriptor")) (n:GP X id r)(p:PE X o k)(m:PA X (e::c) t)
  (d:aB o name X.env (Ė o X.env)=Ė o X.env:=by rfl)
  (h:((Ģ a (Ï (e::c) X.env)).all (λx=>!x.1)&&(gz a (bR [] X.env)).all (λx=>x.1.isSome)
   && decide ((e::c).length+([]:Á iZ).length+(if ([]:Á iZ).isEmpty then 0 else 1)<30))=true:=by rfl)
  (f:(g.endLine == a.line)=true:=by rfl) (q:Ï (e::c) X.env=(false,Ė e X.env)::Ï c X.env:=by rfl) (b:(Ģ a (Ï c X.env)).any (·.1)=false:=by rfl) :
  PE X (.Call (.Attribute o name g) (e::c) [] a) (Yj K T r k t):=by subst l;exact UZ s i j n p m d h f q b
def T7 {n:Nat}{i:Int}(h0:0<=i)(a:i<n):Av i n=À i.toNat:=by
 have:Eg n i=À i.toNat:=by
  unfold Eg;rw[Ë h0,Ë a]
 exact(zm this).1
end L2
namespace HT
open PySem PyProof.Rows
section
variable {prog:Č}{w:Ī}{A:Œ}{E:Value->Ú->Prop}{s:Ú}
def oH {items:ę Value}{lo c:Ð Int}{Q:Value->Ú->Prop}(a:KW s.heap t items)(g:s.heap.IsSliceOf i n o .none)(pl:tV n lo)(m:tV o c)
  (j:dt items.size 0 lo=0) (k:dt items.size items.size c=items.size) (h:Q (.ref t) s):Ü (à prog w) A (n4 (.ref t) (.ref i)) Q E s:=by
 obtain⟨os,f,e,l⟩:=id g;have d:s.TypeIs (.ref i) "slice":=⟨os,f,e⟩
 unfold n4;try with_reducible refine ő ?_
 first|refine Â (Ì ?_)|skip
 refine Â (VX a.typeIs (by decide) ?_);refine Â (ķ (name:=æ "__getitem__") a.typeIs ř
  (Ĩ ř a.typeIs Sn ?_ (SS _ _)))
 show Ü _ _ (q_ (.ref t) >>= _) _ _ s;refine Â (tupleItemsOf_ a ?_);refine Â (yL d ?_);rw[Ë (by decide)];refine Â (lC g pl m ?_);have b:((((dt items.size 0 lo:Nat):Int) == 0&&(1:Int) == 1&&(dt items.size items.size c-dt items.size 0 lo) == items.size)=true):=by
  rw[j,k];simp
 show Ü _ _ (if (((dt items.size 0 lo:Nat):Int) == 0&&(1:Int) == 1&&(dt items.size items.size c-dt items.size 0 lo) == items.size)=true then _ else _) _ _ s;rw[Ë b];unfold WA;refine Â (Â (yL a.typeIs (Ì ?_)));rw[Ë (by decide)];first
  |exact Â (b9 (Ì ⟨_,rfl,Ì h⟩))
  |exact Â (b9 (Â (Ì (Ì ⟨_,rfl,Ì h⟩))))
end
end HT
namespace L2
open PySem PySem.Spec PyProof.Rows
def RA (K:É):R2:=λx y H Q=>∃a b xs c,x=.ref a/\y=.ref b/\gq K H a xs/\gq K H b c/\c≠[]/\xs.length+c.length<=sizeLine/\
 (xs=[]->Q (.ref b) H)/\(xs≠[]->∀p,H p=none->Q (.ref p) (upd H p (.tup (xs++c))))
def Jt:jj X (a' .Add) (RA X.K):=by
 intro i s Y H x y v u Q I w A h;obtain⟨a,b,xs,U,rfl,rfl,p,q,E,G,N,O⟩:=h;by_cases j:xs=[]
 ·cases w;cases A;obtain⟨f,P,L,_⟩:=I.tuple p;obtain⟨g,Z,M,_⟩:=I.tuple q;obtain⟨⟨B,C,o,T⟩,t,r,n,hd⟩:=id L;obtain⟨⟨m,k,data2,l⟩,e,c,J,d⟩:=id M;simp only at r hd c d;subst r hd c d;have D:f=[]:=P.uK.mpr j;exact Lx ⟨_,t,rfl⟩ ⟨_,e,rfl⟩ Au GX mI lL (k8 _ _)
   (tuple_addW0 a b f.toArray g.toArray n J C k T l (by simp[D])) ⟨t,e,⟨.ref b,H,I,rfl,N j⟩⟩
 ·exact M7 i s Y H (.ref a) (.ref b) v u Q I w A ⟨a,b,xs,U,rfl,rfl,p,q,j,G,λz=>absurd z E,λ_=>O j⟩
def Va (K:É):V->Ð Int->Ð Int->Hp->VK->Prop:=λx lo b H Q=>∃a xs,x=.ref a/\gq K H a xs/\
 ((HT.dt xs.length 0 lo=0/\HT.dt xs.length xs.length b=xs.length)->Q (.ref a) H)/\(¬(HT.dt xs.length 0 lo=0/\HT.dt xs.length xs.length b=xs.length)->∀p,H p=none->Q (.ref p) (upd H p (.tup (vd xs lo b))))
def NK:S3 X (Va X.K):=by
 intro c s t H x v p q lo e o Q I l f j k h;obtain⟨a,xs,rfl,i,m,n⟩:=h;by_cases hw:HT.dt xs.length 0 lo=0/\HT.dt xs.length xs.length e=xs.length
 ·cases l;obtain⟨d,r,g,u⟩:=I.tuple i;have b:d.toArray.size=xs.length:=by rw[Û];exact r.length.symm
  refine⟨"tuple",_,ř.lookup,g.typeIs,?_⟩;exact HT.oH g f j k (by rw[b];exact hw.1) (by rw[b];exact hw.2) ⟨.ref a,H,I,rfl,m hw⟩
 ·exact RU c s t H (.ref a) v p q lo e o Q I l f j k ⟨a,xs,rfl,i,hw,n hw⟩
open PySem.W
section
variable {prog:Č}{w:Ī}{A:Œ}{E:Value->Ú->Prop}{s:Ú}{K:É}{x C:Addr}{ox:Obj}{od:Ð Obj}{name:Str}
structure Pa (K:É)(C:Addr):Prop where
 ga:ą K (.ref C) "__getattribute__"=À (À (.builtin "BaseException.__getattribute__"))
 gx:ą K (.ref C) "__getattr__"=À none
 sb:yz K (.ref C) (.type "BaseException")=À true
def L9:builtinKind "BaseException.__getattribute__"=À .slot:=by decide+kernel
def H0:splitId "BaseException.__getattribute__"=À ("BaseException","__getattribute__"):=by decide+kernel
def Tz:(Ao "BaseException.__getattribute__" == Ao "object.__getattribute__")=false:=by decide+kernel
def KO {a:Value}{Q:Unit->Ú->Prop}(X:K.In s.heap)(I:InstAt s.heap x ox C od)(g:Pa K C)(c:Q () s) :
  Ü (à prog w) A (WX "BaseException.__getattribute__" ⟨[.ref x,a],[]⟩) Q E s:=by
 have B:=I.type (M:=à prog w);have D:=looks_subIn (M:=à prog w) X g.sb;have b:=PySem.F.args_bexc_ga (.ref x) a;simp only[WX,L9,H0];refine Â ?_;unfold isInstance;refine Â (B.here (D.here ?_));rw[Ñ (by decide)];unfold argsOk at b;split at b
 ·rename_i d e;rw[e];dsimp only;rw[b];exact Ì c
 ·rename_i e;rw[e];exact Ì c
def KN {f:Tok}{b a:Value}{Q:Fin->Ú->Prop}(X:K.In s.heap)(I:InstAt s.heap x ox C od)(c:findObj K C od name=À (.bind b a))
  (e:Ü (à prog w) A (call b [a,.ref x,.ref C]) (λv s'=>Q (.done (.ret v)) s') E s) :
  Ü (à prog w) A (cD.«object.__getattribute__» ⟨[.ref x,.str name f],[]⟩) Q E s:=by
 obtain⟨h,g,d,t,os⟩:=s;have B:=I.type (M:=à prog w);have D:=looks_find (M:=à prog w) X I c;unfold cD.«object.__getattribute__»;refine Â (Ì ?_);refine Â (Ì (Â (B.at (Â (D.at ?_)))));show Ü _ _ (df [a] (call b [a,.ref x,.ref C]) >>= ret) _ _ _;exact Â (ő (aq e λv s' z=>Ì z))
def Vy {b:Tok}{fill a:Bool}{Q:Value->Ú->Prop}(X:K.In s.heap)(I:InstAt s.heap x ox C od)(g:Pa K C)
  (e:Ü (à prog w) A.in1 (cD.«object.__getattribute__» ⟨[.ref x,.str name b],[]⟩) (λf s'=>∃v,f=.done (.ret v)/\handedIn v=true/\Q v s') (λ_ _=>False) s) :
  Ü (à prog w) A (getAttrBy (.ref x) (.str name b) fill a) Q E s:=by
 have B:=I.type (M:=à prog w);have D:=looks_findIn (M:=à prog w) X g.ga;have L2:=looks_findIn (M:=à prog w) X g.gx;have d:onTheHeap (Ò C)=true:=rfl;unfold getAttrBy;refine ő (Â (B.here (Â (D.here ?_))));dsimp only;rw[Ñ (by rw[Tz,pX];decide)];unfold getAttrByItsOwn hookBefore;rw[Ë d];refine Â (L2.here (Â (cR (ő ?_))));unfold callGetattribute;rw[Ñ (by rw[show onTheHeap (Ao "BaseException.__getattribute__")=false from rfl,pX];decide)];unfold boundAndCalled;refine Â (O3 (zX.ga.bind (.ref x)) ?_);refine w6 (codeAny_call_builtin zX.ga.plain PySem.F.entry_bexc_ga (KO X I g ?_));refine aE e (λf s' z=>?_) (λ_ _ z=>z.elim);obtain⟨v,rfl,c,q⟩:=z;exact handed_on c q
structure LG (K:É)(C:Addr):Prop extends Pa K C where
 ca:ą K (.ref C) "__class__"=À (À (.builtin "object.__class__"))
 cn:gf K (.builtin "object.__class__") "__get__"=À (À (.builtin "getset_descriptor.__get__"))
 ct:i4 K (.builtin "object.__class__")=À true
 cm:qd K C (.type "object")=À true
 cl:(de K C).isSome=true
def A0 {a c:Value}(b:(de K C).isSome=true) (d:ą K (.ref C) name=À (À a)) (e:gf K a "__get__"=À (À c)) (f:i4 K a=À true):findObj K C od name=À (.bind c a):=by
 obtain⟨g,b⟩:=cg.mp b;simp[findObj,b,d,e,f]
def KP {Q:Ð Value->Ú->Prop}(X:K.In s.heap)(I:InstAt s.heap x ox C od)(g:LG K C)(a:Q (À (.ref C)) {s with toks:=s.toks+1}) :
  Ü (à prog w) A (getAttr? (.ref x) "__class__") Q E s:=by
 unfold getAttr? getAttrBy?;refine Â (wpAny_mkText (Â (cR ?_)));refine Vy (s:={s with toks:=s.toks+1}) X I g.toPa (KN (s:={s with toks:=s.toks+1}) X I (A0 g.cl g.ca g.cn g.ct) (w6 (class_get (s:={s with toks:=s.toks+1}) (ox:=ox) (od:=od) X I g.cm ⟨_,rfl,rfl,?_⟩)));exact Ì a
def DS (a:(de K C).isSome=true):∃b d1 c d,K.lookup C=À ⟨b,d1,.cls c,d⟩:=by
 unfold de at a;split at a
 ·exact⟨_,_,_,_,by assumption⟩
 ·cases a
def Bb (g:LG K C):KitX K (.ref x) (.ref C) (λh=>∃ox od,InstAt h x ox C od) where
 ty:=λ_ _ _ ⟨_,_,I⟩=>I.type
 it:=λ_ _ X _ A' Q' E' s' k' q'=>by
  obtain⟨c1,d1,cd,sl,hl⟩:=DS g.cl;show Ü _ A' (isType (.ref C)) Q' E' s';unfold isType loadHead;exact Â (wpAny_loadPart (k' C _ (X C _ hl)) (Ì q'))
 ne:=λh tp dd its n sl X ZJ=>by
  obtain⟨c1,d1,cd,sl',hl⟩:=DS g.cl;cases e:(Ò C == Ò tp)with
  |false=>rfl
  |true=>
   have e2:C=tp:=Value.ref.inj (jR.mp e);rw[<-e2,X C _ hl]at ZJ;cases ZJ
 ca:=λX ⟨_,_,I⟩ k=>KP X I g k
end
noncomputable abbrev uD:Á Value:=[.type "ValueError",.type "Exception",.type "BaseException",.type "object"]
def Kb (b:ę Ac):Bool:=b.toList.all λa=>match a.key with|.str _ _=>true|_=>false
def Kc (h:Kb b=true):StrKeys b:=by
 intro a c;have q:=ú.mp h a (o_.mpr c);cases k:a.key with
 |str n t=>exact⟨n,t,rfl⟩
 |_=>rw[k]at q;cases q
structure V8 (K:É)(N:Addr)(m:Str->Ð Value):Prop where
 ex:∃nc nd es ep nsl,K.lookup N=À ⟨nc,nd,.dict es ep,nsl⟩/\Kb es=true/\∀x,nsFind es x=m x
def V8.ns {K:É}{h:Heap}(x:V8 K N m)(X:K.In h):h.Ns N m:=by
 obtain⟨d,nd,b,a,c,l,q,e⟩:=x.ex;exact⟨_,b,a,X _ _ l,rfl,Kc q,e⟩
inductive qp (K:É):Á Value->Prop
 |base:qp K uD
 |own {B:Addr}{c0:Value}{dd:Ð Addr}{cd:ClassData}{sl:ę (Ð Value)}{m:Str->Ð Value}{tl:Á Value}(l:K.lookup B=À ⟨c0,dd,.cls cd,sl⟩) (n:V8 K cd.ns m) (i:m "__init__"=none) (t:qp K tl):qp K (.ref B::tl)
def qp.Q5 {K:É}(t:qp K l)(X:K.In h):OwnTail h uD l:=by
 induction t with
 |base=>exact .base
 |own l n i _ a=>exact .own (X _ _ l) (n.ns X) i a
structure jk (K:É)(C:Addr)(nm:Str)(bm:Á Value)(B':Ð Value):Prop where
 ex:∃q N bs sn sub ab col dd k0 k1 k2 k3 k5 m,K.lookup C=À (excClassObj nm q C N bs bm true sn sub ab col dd k0 k1 k2 k3 k5 "ValueError.__new__")/\V8 K N m/\m "__init__"=B'
 tail:qp K bm
section
variable {K:É}{C:Addr}{nm:Str}{bm:Á Value}{B':Ð Value}
def jk.cls (x:jk K C nm bm B'):∃a,de K C=À a/\a.mro=.ref C::bm/\a.hasDict=true/\a.name=nm:=by
 obtain⟨q,N,bs,j,sub,c,b,d,e,f,g,h,i,m,l,_⟩:=x.ex;exact⟨_,by unfold de;rw[l],rfl,rfl,rfl⟩
def jk.Ov (x:jk K C nm bm B'):(de K C).isSome=true:=by
 obtain⟨a,e,_⟩:=x.cls;rw[e];rfl
def jk.mro (x:jk K C nm bm B')(T:Value):yz K (.ref C) T=À ((Ò C::bm).contains T):=by
 obtain⟨b,e,a,_⟩:=x.cls;show qd K C T=_;unfold qd;rw[e,cC,a,Ñ (by simp)]
def jk.Im (x:jk K C nm bm B')(T:Value)(a:(∃n b i,∃D,T=.ref D/\jk K D n b i)∨∃t,T=.type t/\kitMeta t=true):Lz K (.ref C) T=À ((Ò C::bm).contains T):=by
 unfold Lz;by_cases q:(Ò C == T)=true
 ·rw[Ë q,jR.mp q];simp
 ·rw[Ñ q];rcases a with⟨n,b,i,D,rfl,y⟩|⟨t,rfl,y⟩
  ·have z:((de K D).isSome&&wZ K (.ref D) == À (.type "type"))=true:=by
    rw[y.Ov];obtain⟨_,_,_,_,_,_,_,_,_,_,_,_,_,_,l,_⟩:=y.ex;have e:wZ K (.ref D)=À (.type "type"):=by
     show Option.map (λo=>o.cls) (K.lookup D)=_;rw[l];rfl
    rw[e];rfl
   unfold kitCls;dsimp only;rw[Ë z];exact x.mro _
  ·unfold kitCls;dsimp only;rw[Ë y];exact x.mro _
end
def Wq (C e:Addr):HO:=.ext λh=>∃a:Obj,h.get? e=À a/\a.cls=.ref C/\notCls a=true/\a.dict=none
def Z6 (C e b:Addr):HO:=.ext λh=>∃a:Obj,h.get? e=À a/\a.cls=.ref C/\notCls a=true/\a.dict=À b
def Ş.there (x:Ş P w H h a o):∃c,h.get? a=À c:=by
 cases o with
 |lst xs=>obtain⟨_,_,_,_,e⟩:=x;exact⟨_,e⟩
 |tup xs=>obtain⟨_,_,_,c,e,_⟩:=x;exact⟨_,e⟩
 |dK b=>obtain⟨_,_,_,_,o,_,_,e,_⟩:=x;exact⟨_,e⟩
 |dT b=>obtain⟨_,_,_,_,o,_,_,e,_⟩:=x;exact⟨_,e⟩
 |set S n=>obtain⟨o,_,_,_,e,_⟩:=x;exact⟨_,e⟩
 |ins C g d=>obtain⟨_,_,_,e,_⟩:=x;exact⟨_,e⟩
 |own y=>obtain⟨_,e⟩:=x;exact⟨_,e⟩
 |xd d=>obtain⟨_,⟨_,_,_,e,_⟩,_⟩:=x;exact⟨_,e⟩
 |Vc lo i=>obtain⟨_,_,_,e⟩:=x;exact⟨_,e⟩
 |iS c u=>obtain⟨e,_⟩:=x;exact⟨_,e⟩
 |qX j=>exact⟨_,(show h.get? a=À _ from x)⟩
 |met f y=>exact⟨_,(show h.get? a=À _ from x)⟩
 |ext k=>obtain⟨_,⟨_,e⟩,_⟩:=x;exact⟨_,e⟩
section
variable {X:Cx}{þ:Á (Addr×Obj)}{σ:St}{H:Hp}{s:Ú}{h':Heap}{a:Addr}{o:HO}
def Inv.gone (I:Inv X þ σ H s)(b:s.heap.get? a=none):H a=none:=by
 cases q:H a with
 |none=>rfl
 |some u=>
  obtain⟨c,e⟩:=(I.ť a u q).there;rw[b]at e;cases e
def Inv.Ua (I:Inv X þ σ H s)(k:∀b u,s.heap.get? b=À u->h'.get? b=À u)(g:s.heap.get? a=none)(e:Ş X.prog X.w (upd H a o) h' a o):Inv X þ σ (upd H a o) {s with heap:=h',toks:=t'}:=by
 have h:=I.gone g;have i:∀b u,s.heap.get? b=À u->b≠a:=λb u q z=>by subst z;rw[g]at q;cases q
 have d:∀b u,H b=À u->b≠a:=λb u q=>Ŋ q h;refine I.un ⟨λb u q _ _ _=>k b u q,λb u q _ _ _=>⟨u.slots,k b u q⟩,λb u q n _=>by rw[ç (i b u q)];exact n,λb u q _=>⟨u,k b u q⟩,
  λb xs q=>by rw[ç (d b _ q)];exact q,λb u xs q=>by rw[ç (d b _ q)];exact q,λb j q=>⟨#[],by rw[ç (d b _ q),q];simp⟩⟩ λb u q=>?_
 by_cases f:b=a
 ·subst f;rw[ă]at q;cases q;exact e
 ·rw[ç f]at q;exact(I.ť b u q).oO (λc v _ z=>k c v z) (λc z=>by rw[ç (d c _ z)];exact z) λc xs z=>by rw[ç (d c _ z)];exact z
end
def V3 (H:Hp)(e C:Addr):Prop:=H e=À (Wq C e)∨∃a b,H e=À (Z6 C e a)/\H a=À (.xd b)
def V3.inst (x:V3 H e C)(I:Inv X f j H s):∃ox od,InstAt s.heap e ox C od:=by
 rcases x with x|⟨h,i,x,g⟩
 ·obtain⟨⟨ox,a,b,c,d⟩,_⟩:=I.ť _ _ x;exact⟨ox,none,a,b,c,by rw[d];trivial⟩
 ·obtain⟨⟨ox,a,b,c,d⟩,_⟩:=I.ť _ _ x;obtain⟨mA,⟨od,_,_,q,_⟩,_⟩:=I.ť _ _ g;exact⟨ox,À od,a,b,c,by rw[d];exact q⟩
def X2 (K:É):Á V->Hp->VK->Prop:=λxs H Q=>∃e C v c b,xs=[.ref e,v]/\(match v with|.ty n=>c=cq n|.ref a=>c=Ò a|_=>False)/\V3 H e C/\LG K C/\Lz K (.ref C) c=À b/\Q (.bl b) H
def Hk:bz X (.builtin "isinstance") (X2 X.K):=by
 rintro h s t H xs us Q I rv ⟨e,C,v,c,b,rfl,d,k,g,l,q⟩;obtain⟨o,m,J⟩:=k.inst I;cases rv with
 |cons p rv=>
  cases rv with
  |cons i rv=>
   cases rv;cases (show _=Ò e from p);rename_i f;have j:f=c:=by
    cases v with
    |ty n=>exact(show f=cq n from i).trans d.symm
    |ref a=>exact(show f=Ò a from i).trans d.symm
    |_=>exact d.elim
   subst j;exact ĵ (Bb g) I.md ⟨o,m,J⟩ l (λz=>nomatch z) λr=>⟨.bl b,H,I.tok _,rfl,q⟩
end L2
namespace L2
open PySem PySem.Spec PyProof.Rows
theorem zM:∀{a:Á Str}{us:Á Value},Vals (a.map V.str) us->∃l:Á (Str×Tok),strValues l=us/\l.map (·.1)=a
 |[],_,.nil=>⟨[],rfl,rfl⟩
 |x::r,_,.cons ⟨t,e⟩ h=>by
  obtain⟨l,b,c⟩:=zM h;subst e;exact⟨(x,t)::l,by rw[<-b];rfl,by rw[Ô,c]⟩
def RG:Á V->Hp->VK->Prop:=λxs H Q=>∃l b,xs=[.ref l]/\H l=À (.lst (b.map V.str))/\b.length<64/\∀(a:Á Str) d,H d=none->a.Perm b->sortedS a=true->Q (.ref d) (upd H d (.lst (a.map V.str)))
theorem wj:∀{a:Á Str}{us:Á Value},Vals (a.map V.str) us->VI us a
 |[],_,.nil=>.nil
 |x::r,_,.cons ⟨t,e⟩ h=>by subst e;exact .cons x t (wj h)
theorem iM:∀{a:Á Str}{us:Á Value},VI us a->Vals (a.map V.str) us
 |_,_,.nil=>.nil
 |_,_,.cons x t h=>.cons ⟨t,rfl⟩ (iM h)
def u_:bz X (.builtin "sorted") RG:=by
 rintro h s x H xs us Q I rv ⟨l,w,rfl,p,m,q⟩;obtain⟨u,rfl,v⟩:=rv.one;cases (show u=Ò l from v);obtain⟨z,d,n,r,hl,e⟩:=I.CM p;rw[Ê]at hl;refine sorted_strs ⟨_,e,rfl,n,rfl⟩ (wj r) (by lia) λf c i g j=>?_;obtain⟨k,t⟩:=sortedAll_at s.heap d f;have hd:H (s.heap.objs.size+1)=none:=I.ť.fresh (mw _);refine⟨.ref (s.heap.objs.size+1),_,I.laid (a:=s.heap.objs.size+1) (o:=.lst (c.map V.str)) (t':=s.toks) (λb o z=>sortedAll_old z) (mw _) ⟨?_,_,k,iM i,?_⟩,rfl,q c _ hd g j⟩
 ·rw[Ê,g.length_eq];exact Ġ (ũ (by lia))
 ·rw[t]
end L2
namespace Mm
open PySem L2
inductive AV where
 |Ğ|bl (b:Bool)|int (i:Int)|str (x:Str)|tup (xs:Á AV)|ref (i:Nat)|sq (xs:Á AV)
inductive AO where
 |lst (xs:Á AV)|dK (kvs:Á (Key×AV))|dT (kvs:Á (Á Key×AV))|ins (C:Nat) (fs:Á (Str×AV))|exc (C:Nat)|tab (i:Nat) (q:Str)|Ed (kvs:Á (Á Key×AV))
abbrev S:=Á AO
abbrev En:=Á (Ð AV)
structure AX where
 cls:Nat
 fs:Á (Str×AV)
inductive R (α:Type) where
 |ok (a:α) (s:S)|ex (c:AX) (s:S)|bad
noncomputable def R.bind {α b:Type}:R α->(α->S->R b)->R b
 |.ok a s,f=>f a s
 |.ex c s,_=>.ex c s
 |.bad,_=>.bad
inductive RS where
 |nx (e:En) (s:S)|rt (v:AV) (s:S)|bk (e:En) (s:S)|ct (e:En) (s:S)|ex (c:AX) (s:S)|bad
@[simp] theorem ñ (a:α) (s:S) (f:α->S->R b):(R.ok a s).bind f=f a s:=rfl
@[simp] theorem qq (f:α->S->R a):(R.bad:R α).bind f=.bad:=rfl
structure Tx where
 K:É
 cl:Nat->Addr
def Li (K:É)(H:Hp)(a:Addr)(xs:Á V):Prop:=
 (∃o,H a=À (.iS o (.lst xs)))∨∃o b n,K.lookup a=À o/\o.cls=.type "list"/\o.dict=none/\o.data=.seq b n/\b.size<=sizeLine/\Vals xs b.toList
def Li.Gw (h:Li K H a xs):fC K H a xs:=by
 rcases h with h|h
 ·exact .inl (.inr h)
 ·exact .inr h
mutual
def VR (T:Tx)(ρ:Á Addr)(H:Hp):AV->V->Prop
 |.Ğ,x=>x=.Ğ
 |.bl b,x=>x=.bl b
 |.int i,x=>x=.int i
 |.str z,x=>x=.str z
 |.tup xs,x=>∃a c,x=.ref a/\gq T.K H a c/\Ĥ T ρ H xs c
 |.ref i,x=>∃a,ρ[i]?=À a/\x=.ref a
 |.sq xs,x=>∃a c,x=.ref a/\Li T.K H a c/\Ĥ T ρ H xs c
def Ĥ (T:Tx)(ρ:Á Addr)(H:Hp):Á AV->Á V->Prop
 |[],a=>a=[]
 |v::r,a=>∃x b,a=x::b/\VR T ρ H v x/\Ĥ T ρ H r b
end
structure Gr (ρ:Á Addr)(H:Hp)(pW:Á Addr)(H':Hp):Prop where
 pre:ρ <+:pW
 lE:∀b xs,H b=À (.tup xs)->H' b=À (.tup xs)
 jx:∀b o u,H b=À (.iS o u)->H' b=À (.iS o u)
structure Up (ρ:Á Addr)(H:Hp)(pW:Á Addr)(H':Hp):Prop extends Gr ρ H pW H' where
 fr:∀b o,H b=À o->b∉ρ->H' b=À o/\b∉pW
 live:∀b,H' b=none->H b=none
def Up.refl:Up ρ H ρ H:=⟨⟨a_,λ_ _ h=>h,λ_ _ _ h=>h⟩,λ_ _ h n=>⟨h,n⟩,λ_ h=>h⟩
theorem Up.trans (a:Up ρ H d A)(b:Up d A e B):Up ρ H e B:=
 ⟨⟨a.pre.trans b.pre,λc xs h=>b.lE c xs (a.lE c xs h),λc o u h=>b.jx c o u (a.jx c o u h)⟩,λc o h n=>let ⟨f,g⟩:=a.fr c o h n;b.fr c o f g,λc h=>a.live c (b.live c h)⟩
def Up.add (a:Up ρ H c A)(h:H p=none):Up ρ H (c++[p]) A:=
 ⟨⟨a.pre.trans (f7 _ _),a.lE,a.jx⟩,λb o e n=>⟨(a.fr b o e n).1,λz=>by
  rcases Ŕ.mp z with z|z
  ·exact(a.fr b o e n).2 z
  ·rw[ð.mp z,h]at e;cases e⟩,a.live⟩
def zD {α:Type}{ρ b:Á α}(h:ρ <+:b){i:Nat}{a:α}(e:ρ[i]?=À a):b[i]?=À a:=by
 obtain⟨t,rfl⟩:=h;rw[Ý]
 ·exact e
 ·exact(Ç.mp e).1
def Gr.RW (u:Gr ρ H b H')(h:gq K H a vs):gq K H' a vs:=by
 rcases h with(h|⟨o,h⟩)|h
 ·exact .inl (.inl (u.lE _ _ h))
 ·exact .inl (.inr ⟨o,u.jx _ _ _ h⟩)
 ·exact .inr h
def Gr.Vf (u:Gr ρ H b H')(h:Li K H a vs):Li K H' a vs:=by
 rcases h with⟨o,h⟩|h
 ·exact .inl ⟨o,u.jx _ _ _ h⟩
 ·exact .inr h
structure Gs (ρ:Á Addr)(H:Hp)(pW:Á Addr)(H':Hp):Prop where
 pre:ρ <+:pW
 RW:∀{K a vs},gq K H a vs->gq K H' a vs
 Vf:∀{K a vs},Li K H a vs->Li K H' a vs
def Gr.gs (u:Gr ρ H a H'):Gs ρ H a H':=⟨u.pre,u.RW,u.Vf⟩
section
variable {T:Tx}{ρ pW:Á Addr}{H H':Hp}
mutual
theorem VR.gs (u:Gs ρ H pW H'):∀{v:AV}{x:V},VR T ρ H v x->VR T pW H' v x
 |.Ğ,_,h=>h
 |.bl _,_,h=>h
 |.int _,_,h=>h
 |.str _,_,h=>h
 |.ref _,_,h=>by
  unfold VR at *
  obtain⟨a,h,e⟩:=h;exact⟨a,zD u.pre h,e⟩
 |.tup _,_,h=>by
  unfold VR at *
  obtain⟨a,d,e,b,c⟩:=h;exact⟨a,d,e,u.RW b,Ĥ.gs u c⟩
 |.sq _,_,h=>by
  unfold VR at *
  obtain⟨a,d,e,b,c⟩:=h;exact⟨a,d,e,u.Vf b,Ĥ.gs u c⟩
theorem Ĥ.gs (u:Gs ρ H pW H'):∀{l:Á AV}{xs:Á V},Ĥ T ρ H l xs->Ĥ T pW H' l xs
 |[],_,h=>h
 |_::_,_,h=>by
  unfold Ĥ at *
  obtain⟨x,c,e,a,b⟩:=h;exact⟨x,c,e,VR.gs u a,Ĥ.gs u b⟩
end
def VR.gr (u:Gr ρ H pW H')(h:VR T ρ H v x):VR T pW H' v x:=h.gs u.gs
def Ĥ.gr (u:Gr ρ H pW H')(h:Ĥ T ρ H v x):Ĥ T pW H' v x:=h.gs u.gs
def VR.up (u:Up ρ H pW H')(h:VR T ρ H v x):VR T pW H' v x:=h.gr u.toGr
def Ĥ.up (u:Up ρ H pW H')(h:Ĥ T ρ H v x):Ĥ T pW H' v x:=h.gr u.toGr
theorem Ĥ.length:∀{l:Á AV}{xs:Á V},Ĥ T ρ H l xs->l.length=xs.length
 |[],_,h=>by unfold Ĥ at h;subst h;rfl
 |_::_,_,h=>by
  unfold Ĥ at h;obtain⟨x,b,rfl,_,a⟩:=h;simp[Ĥ.length a]
def Ĥ.nil:Ĥ T ρ H [] []:=by unfold Ĥ;rfl
def Ĥ.cons {v:AV}{x:V}{l:Á AV}{xs:Á V}(h:VR T ρ H v x)(k:Ĥ T ρ H l xs):Ĥ T ρ H (v::l) (x::xs):=by
 unfold Ĥ;exact⟨x,xs,rfl,h,k⟩
def Ĥ.nil_inv (h:Ĥ T ρ H [] xs):xs=[]:=by unfold Ĥ at h;exact h
def Ĥ.cons_inv (h:Ĥ T ρ H (v::l) xs):∃x ys,xs=x::ys/\VR T ρ H v x/\Ĥ T ρ H l ys:=by unfold Ĥ at h;exact h
theorem Ĥ.get:∀{l:Á AV}{xs:Á V}{i:Nat}{v:AV},Ĥ T ρ H l xs->l[i]?=À v->∃x,xs[i]?=À x/\VR T ρ H v x
 |[],_,_,_,_,e=>by simp at e
 |_::_,_,0,_,h,e=>by
  obtain⟨x,c,rfl,a,_⟩:=h.cons_inv;simp at e;subst e;exact⟨x,rfl,a⟩
 |_::_,_,i+1,_,h,e=>by
  obtain⟨x,c,rfl,_,b⟩:=h.cons_inv;exact Ĥ.get (i:=i) b (by simpa using e)
theorem Ĥ.append:∀{l q:Á AV}{xs ys:Á V},Ĥ T ρ H l xs->Ĥ T ρ H q ys->Ĥ T ρ H (l++q) (xs++ys)
 |[],_,_,_,h,k=>by cases h.nil_inv;exact k
 |_::_,_,_,_,h,k=>by
  obtain⟨x,c,rfl,a,b⟩:=h.cons_inv;exact .cons a (Ĥ.append b k)
def Ĥ.one (h:VR T ρ H v x):Ĥ T ρ H [v] [x]:=.cons h .nil
theorem Ĥ.set:∀{l:Á AV}{xs:Á V}{v:AV}{x:V}(i:Nat),Ĥ T ρ H l xs->VR T ρ H v x->Ĥ T ρ H (l.set i v) (xs.set i x)
 |[],_,_,_,_,h,_=>by cases h.nil_inv;exact .nil
 |_::_,_,_,_,0,h,k=>by
  obtain⟨x,c,rfl,b,a⟩:=h.cons_inv;exact .cons k a
 |_::_,_,_,_,i+1,h,k=>by
  obtain⟨x,c,rfl,b,a⟩:=h.cons_inv;exact .cons b (Ĥ.set i a k)
theorem Ĥ.drop:∀{l:Á AV}{xs:Á V}(n:Nat),Ĥ T ρ H l xs->Ĥ T ρ H (l.drop n) (xs.drop n)
 |_,_,0,h=>h
 |[],_,_+1,h=>by cases h.nil_inv;exact .nil
 |_::_,_,n+1,h=>by
  obtain⟨x,c,rfl,b,a⟩:=h.cons_inv;exact Ĥ.drop n a
theorem Ĥ.take:∀{l:Á AV}{xs:Á V}(n:Nat),Ĥ T ρ H l xs->Ĥ T ρ H (l.take n) (xs.take n)
 |_,_,0,h=>.nil
 |[],_,_+1,h=>by cases h.nil_inv;exact .nil
 |_::_,_,n+1,h=>by
  obtain⟨x,c,rfl,a,b⟩:=h.cons_inv;exact .cons a (Ĥ.take n b)
theorem Ĥ.reverse:∀{l:Á AV}{xs:Á V},Ĥ T ρ H l xs->Ĥ T ρ H l.reverse xs.reverse
 |[],_,h=>by cases h.nil_inv;exact .nil
 |_::_,_,h=>by
  obtain⟨x,c,rfl,a,b⟩:=h.cons_inv;rw[lK,lK];exact(Ĥ.reverse b).append (.one a)
theorem Ĥ.map {α:Type}{f:α->AV}{g:α->V}(h:∀a,VR T ρ H (f a) (g a)):∀(l:Á α),Ĥ T ρ H (l.map f) (l.map g)
 |[]=>.nil
 |a::r=>.cons (h a) (Ĥ.map h r)
theorem Ĥ.A7:∀{ns:Á Int}{xs:Á V},Ĥ T ρ H (ns.map AV.int) xs->xs=ns.map V.int
 |[],_,h=>h.nil_inv
 |_::_,_,h=>by
  obtain⟨x,c,rfl,a,b⟩:=h.cons_inv;unfold VR at a;rw[a,Ĥ.A7 b];rfl
theorem Ĥ.DP:∀{ns:Á Bool}{xs:Á V},Ĥ T ρ H (ns.map AV.bl) xs->xs=ns.map V.bl
 |[],_,h=>h.nil_inv
 |_::_,_,h=>by
  obtain⟨x,c,rfl,a,b⟩:=h.cons_inv;unfold VR at a;rw[a,Ĥ.DP b];rfl
theorem Ĥ.wm:∀{ns:Á Str}{xs:Á V},Ĥ T ρ H (ns.map AV.str) xs->xs=ns.map V.str
 |[],_,h=>h.nil_inv
 |_::_,_,h=>by
  obtain⟨x,c,rfl,a,b⟩:=h.cons_inv;unfold VR at a;rw[a,Ĥ.wm b];rfl
def cN:VR T ρ H (.int i) (.int i):=by unfold VR;rfl
def dh:VR T ρ H (.bl i) (.bl i):=by unfold VR;rfl
def iN:VR T ρ H (.str i) (.str i):=by unfold VR;rfl
def sL:VR T ρ H .Ğ .Ğ:=by unfold VR;rfl
def pT (h:ρ[i]?=À a):VR T ρ H (.ref i) (.ref a):=by unfold VR;exact⟨a,h,rfl⟩
def jK (h:gq T.K H a vs)(k:Ĥ T ρ H xs vs):VR T ρ H (.tup xs) (.ref a):=by unfold VR;exact⟨a,vs,rfl,h,k⟩
def VR.ck (h:VR T ρ H (.tup xs) x):∃a vs,x=.ref a/\gq T.K H a vs/\Ĥ T ρ H xs vs:=by unfold VR at h;exact h
def VR.fW (h:VR T ρ H (.ref i) x):∃a,ρ[i]?=À a/\x=.ref a:=by unfold VR at h;exact h
def VR.iL (h:VR T ρ H (.sq xs) x):∃a vs,x=.ref a/\Li T.K H a vs/\Ĥ T ρ H xs vs:=by unfold VR at h;exact h
def VR.int_inv (h:VR T ρ H (.int i) x):x=.int i:=by unfold VR at h;exact h
def VR.js (h:VR T ρ H (.bl i) x):x=.bl i:=by unfold VR at h;exact h
def VR.str_inv (h:VR T ρ H (.str i) x):x=.str i:=by unfold VR at h;exact h
def VR.jd (h:VR T ρ H .Ğ x):x=.Ğ:=by unfold VR at h;exact h
def xG (H:Hp)(q:Str)(ps:ę Value):Prop:=WW ps.toList/\∀pos a,Ar pos ps.toList=À a->∃c b u d t,a=.ref c/\H c=À (.iS b u)/\b.data=.fields d/\d[1]?=À (.str q t)
def OR (T:Tx)(ρ:Á Addr)(H:Hp):AO->Addr->Prop
 |.lst xs,a=>∃f,H a=À (.lst f)/\Ĥ T ρ H xs f
 |.dK b,a=>∃c:Á (Key×V),H a=À (.dK c)/\b.map (·.1)=c.map (·.1)/\Ĥ T ρ H (b.map (·.2)) (c.map (·.2))
 |.dT b,a=>∃c:Á (Á Key×V),H a=À (.dT c)/\b.map (·.1)=c.map (·.1)/\Ĥ T ρ H (b.map (·.2)) (c.map (·.2))
 |.ins C d,a=>∃g c,H a=À (.ins (T.cl C) g c)/\d.map (·.1)=c.map (·.1)/\Ĥ T ρ H (d.map (·.2)) (c.map (·.2))
 |.exc C,a=>H a=À (Wq (T.cl C) a)
 |.tab i q,a=>a=T.cl i/\∃e,H a=À (.qX e)/\xG H q e
 |.Ed b,a=>∃o j h c,H a=À (.iS o (.dT c))/\o.data=.dict j h/\b.map (·.1)=c.map (·.1)/\Ĥ T ρ H (b.map (·.2)) (c.map (·.2))
def OR.ex (h:OR T ρ H o a):∃u,H a=À u:=by
 cases o with
 |lst xs=>obtain⟨_,h,_⟩:=h;exact⟨_,h⟩
 |dK xs=>obtain⟨_,h,_⟩:=h;exact⟨_,h⟩
 |dT xs=>obtain⟨_,h,_⟩:=h;exact⟨_,h⟩
 |ins C xs=>obtain⟨_,_,h,_⟩:=h;exact⟨_,h⟩
 |exc C=>exact⟨_,h⟩
 |tab i q=>obtain⟨_,_,h,_⟩:=h;exact⟨_,h⟩
 |Ed xs=>obtain⟨_,_,_,_,h,_⟩:=h;exact⟨_,h⟩
theorem OR.gs (u:Gs ρ H pW H')(tb:∀c b w vs,H c=À (.iS b w)->b.data=.fields vs->H' c=À (.iS b w)) (e:H' a=H a)(h:OR T ρ H o a):OR T pW H' o a:=by
 cases o with
 |lst xs=>obtain⟨vs,h,k⟩:=h;exact⟨vs,e.trans h,k.gs u⟩
 |dK xs=>obtain⟨vs,h,q,k⟩:=h;exact⟨vs,e.trans h,q,k.gs u⟩
 |dT xs=>obtain⟨vs,h,q,k⟩:=h;exact⟨vs,e.trans h,q,k.gs u⟩
 |ins C xs=>obtain⟨j,vs,h,q,k⟩:=h;exact⟨j,vs,e.trans h,q,k.gs u⟩
 |exc C=>exact e.trans h
 |tab i q=>
  obtain⟨n,A,p,r,s⟩:=h;exact⟨n,A,e.trans p,r,λpos g z=>let ⟨c,b,w,vs,t,v,x,f,y⟩:=s pos g z;⟨c,b,w,vs,t,v,tb _ _ _ _ x f,f,y⟩⟩
 |Ed xs=>obtain⟨o,m,l,vs,h,d,q,k⟩:=h;exact⟨o,m,l,vs,e.trans h,d,q,k.gs u⟩
def OR.up (u:Gr ρ H pW H')(e:H' a=H a)(h:OR T ρ H o a):OR T pW H' o a:=h.gs u.gs (λ_ _ _ _ k _=>u.jx _ _ _ k) e
end
structure SR (T:Tx)(ρ:Á Addr)(s:S)(H:Hp):Prop where
 nd:ρ.Nodup
 len:ρ.length=s.length
 obj:∀(i:Nat) (o:AO),s[i]?=À o->∃a,ρ[i]?=À a/\OR T ρ H o a
section
variable {T:Tx}{ρ pW:Á Addr}{s:S}{H H':Hp}
def SR.in (h:SR T ρ s H)(g:a∈ρ):∃u,H a=À u:=by
 obtain⟨i,f,e⟩:=ĩ g;have c:i<s.length:=by rw[<-h.len];exact f
 obtain⟨b,d,q⟩:=h.obj i s[i] (Å c);rw[Å f]at d;cases d;rw[e]at q;exact q.ex
def SR.out (h:SR T ρ s H)(b:H a=none):a∉ρ:=λz=>by
 obtain⟨u,e⟩:=h.in z;rw[b]at e;cases e
def SR.dA (h:SR T ρ s H)(a:H p=none):Up ρ H ρ (upd H p o):=
 ⟨⟨a_,λb xs e=>by rw[ç (Ŋ e a)];exact e,λb o u e=>by rw[ç (Ŋ e a)];exact e⟩,λb u e n=>⟨by rw[ç (Ŋ e a)];exact e,n⟩,λb e=>by
  by_cases c:b=p
  ·rw[c];exact a
  ·rw[ç c]at e;exact e⟩
theorem SR.up (h:SR T ρ s H)(u:Gr ρ H ρ H')(k:∀a∈ρ,H' a=H a):SR T ρ s H':=
 ⟨h.nd,h.len,λi o e=>by
  obtain⟨a,b,q⟩:=h.obj i o e;exact⟨a,b,q.up u (k a (ý b))⟩⟩
def SR.new (h:SR T ρ s H)(b:H p=none):SR T ρ s (upd H p o):=
 h.up (h.dA b).toGr λa c=>ç λe=>h.out b (e▸c)
def SR.add (h:SR T ρ s H)(l:p∉ρ)(k:OR T (ρ++[p]) H o p):SR T (ρ++[p]) (s++[o]) H:=by
 refine⟨gU.mpr ⟨h.nd,by simp,λa g b j e=>l (by rw[ð.mp j]at e;exact e▸g)⟩,by simp[h.len],λi q e=>?_⟩;by_cases c:i<s.length
 ·rw[Ý c]at e;obtain⟨a,f,m⟩:=h.obj i q e;refine⟨a,by rw[Ý (by rw[h.len];exact c)];exact f,?_⟩;exact m.up ⟨f7 _ _,λ_ _ e=>e,λ_ _ _ e=>e⟩ rfl
 ·rw[á (by lia)]at e;have d:i-s.length=0:=by
   have:=(Ç.mp e).1;simp at this;lia
  rw[d]at e;cases e;exact⟨p,by rw[á (by rw[h.len];lia),h.len,d];rfl,k⟩
end
structure Rl (α β:Type) where
 r:Hp->Á Addr->Hp->α->β->Prop
 W9:∀{H H1:Hp}{ρ:Á Addr}{H':Hp}{v:α}{x:β},(∀b,H1 b=none->H b=none)->r H1 ρ H' v x->r H ρ H' v x
abbrev iQ:=AX->Á Addr->S->Hp->Prop
def Out {α b:Type}(T:Tx)(XE:iQ)(d:Rl α b)(ρ:Á Addr)(H:Hp):R α->(b->Hp->Prop)->Prop
 |.ok v s,Q=>∀a A x,Up ρ H a A->SR T a s A->d.r H a A v x->Q x A
 |.ex c s,_=>∀a A,Up ρ H a A->SR T a s A->XE c a s A
 |.bad,_=>False
def Out.up (u:Up ρ H e H')(h:Out T XE f ρ H r Q):Out T XE f e H' r Q:=by
 cases r with
 |ok v s=>exact λa A x d b g=>h a A x (u.trans d) b (f.W9 u.live g)
 |ex c s=>exact λa A d b=>h a A (u.trans d) b
 |bad=>exact h
def Out.imp (h:Out T XE b ρ H r Q)(k:∀x H',Q x H'->B x H'):Out T XE b ρ H r B:=by
 cases r with
 |ok v s=>exact λa A x e d f=>k _ _ (h a A x e d f)
 |ex c s=>exact h
 |bad=>exact h
structure ER (T:Tx)(ρ:Á Addr)(H:Hp)(env:En)(σ:St):Prop where
 len:env.length=σ.length
 get:∀(i:Nat) (v:AV),env[i]?=À (À v)->∃x,σ[i]?=À (À x)/\VR T ρ H v x
theorem ER.up (u:Up ρ H a H')(h:ER T ρ H env c):ER T a H' env c:=
 ⟨h.len,λi v e=>let ⟨x,b,q⟩:=h.get i v e;⟨x,b,q.up u⟩⟩
theorem ER.set (h:ER T ρ H env b)(k:VR T ρ H v x):ER T ρ H (env.set i (À v)) (b.set i (À x)):=by
 refine⟨by simp[h.len],λj w e=>?_⟩;by_cases a:i=j
 ·subst a;have hl:i<env.length:=by
   have:=(Ç.mp e).1;simpa using this
  rw[Đ hl]at e;cases e;exact⟨x,by rw[Đ (by rw[<-h.len];exact hl)],k⟩
 ·rw[ù a]at e⊢;exact h.get j w e
def tG {α c:Type}(T:Tx)(XE:iQ)(d:Rl α c)(m:En->S->R α):St->Hp->(c->Hp->Prop)->Prop:=λe H Q=>
 ∃b a s,SR T b s H/\ER T b H a e/\Out T XE d b H (m a s) Q
def step {g:Rl α o} 
  (j:SR T ρ s H) (f:ER T ρ H env h) (b:Out T XE d ρ H ((m env s).bind k) Q)
  (i:∀v s1 a A x,m env s=.ok v s1->Up ρ H a A->SR T a s1 A->ER T a A env h->g.r H a A v x->Out T XE d a A (k v s1) Q->F x A):tG T XE g m h H F:=by
 refine⟨ρ,env,s,j,f,?_⟩;cases e:m env s with
 |ok v s1=>
  rw[e]at b;exact λa A x u l n=>i v s1 a A x e u l (f.up u) n (Out.up u b)
 |ex c s1=>rw[e]at b;exact b
 |bad=>rw[e]at b;exact b
def Out.here (h:Out T XE a ρ H (.ok v s) Q) (b:SR T ρ s H)(r:a.r H ρ H v x):Q x H:=h ρ H x .refl b r
def ň {α b:Type}{T:Tx}{XE:iQ}{a:Rl α b}{m:En->S->R α}{c:St}{H:Hp}{Q:b->Hp->Prop}{P:Prop}(h:tG T XE a m c H Q)(k:∀ρ env s,SR T ρ s H->ER T ρ H env c->Out T XE a ρ H (m env s) Q->P):P:=by
 obtain⟨ρ,env,s,f,d,e⟩:=h;exact k ρ env s f d e
def PE.imp (h:PE X e t)(k:∀b H Q,t' b H Q->t b H Q):PE X e t':=λa s b H Q I c=>h a s b H Q I (k b H Q c)
def PT.imp (h:PT X e t)(k:∀b H Q,t' b H Q->t b H Q):PT X e t':=λa s b H Q I c=>h a s b H Q I (k b H Q c)
def PW.imp (h:PW X e t)(k:∀b H Q,t' b H Q->t b H Q):PW X e t':=λd a s b H Q I c=>h d a s b H Q I (k b H Q c)
def PA.imp (h:PA X e t)(k:∀b H Q,t' b H Q->t b H Q):PA X e t':=λpos a s b H Q I c=>h pos a s b H Q I (k b H Q c)
def PS.imp (h:PS X e t)(k:∀D b H,t' D b H->t D b H):PS X e t':=λa s b H Q I c=>h a s b H Q I (k Q b H c)
def m8.imp (h:m8 X e t)(k:∀D b H,t' D b H->t D b H):m8 X e t':=λa s b H Q I c=>h a s b H Q I (k Q b H c)
def PI.imp (h:PI X d e t)(k:∀b H R,t' b H R->t b H R):PI X d e t':=λa s b H Q I c=>h a s b H Q I (k b H Q c)
def PG.imp (h:PG X e t)(k:∀v b H Q,t' v b H Q->t v b H Q):PG X e t':=λa s b H v u Q I r c=>h a s b H v u Q I r (k v b H Q c)
def DJ.imp (h:DJ X e t)(k:∀v b H Q,t' v b H Q->t v b H Q):DJ X e t':=λa s b H v u Q I r c=>h a s b H v u Q I r (k v b H Q c)
abbrev Ev:=En->S->R AV
abbrev gh:=En->S->R (Á AV)
abbrev Eb:=En->S->R Bool
structure Lf (i:Int):Prop where
 f:gi 60000000 i
structure O6 (i:Int):Prop where
 f:gi 9000 i
instance {i:Int}:ś (Lf i):=kY _
instance {i:Int}:ś (O6 i):=kY _
def rV (T:Tx):Rl AV V:=⟨λ_ a H v x=>VR T a H v x,λ_ h=>h⟩
def rA (T:Tx):Rl (Á AV) (Á V):=⟨λ_ a H v x=>Ĥ T a H v x,λ_ h=>h⟩
def rB:Rl Bool Bool:=⟨λ_ _ _ b c=>b=c,λ_ h=>h⟩
def rL (T:Tx):Rl (Á AV) V:=⟨λxa c H xs x=>∃a b,x=.ref a/\xa a=none/\a∉c/\H a=À (.lst b)/\Ĥ T c H xs b,λk ⟨a,b,e,h,r⟩=>⟨a,b,e,k a h,r⟩⟩
def rQ (T:Tx):Rl (Á AV) V:=⟨λ_ c H xs x=>∃a b,x=.ref a/\(fC T.K H a b∨gq T.K H a b)/\Ĥ T c H xs b,λ_ h=>h⟩
def Out.ĸ (h:Out T XE (rV T) ρ H (.ok v s) Q) (a:SR T ρ s H)(r:VR T ρ H v x):Q x H:=h ρ H x .refl a r
abbrev tE (T:Tx)(XE:iQ)(m:Ev):TE:=tG T XE (rV T) m
abbrev tL (T:Tx)(XE:iQ)(m:gh):TE:=tG T XE (rL T) m
abbrev tQ (T:Tx)(XE:iQ)(m:gh):TE:=tG T XE (rQ T) m
abbrev tP (T:Tx)(XE:iQ)(m:gh):TA:=tG T XE (rA T) m
abbrev kO (T:Tx)(XE:iQ)(m:Eb):TT:=tG T XE rB m
section
variable {T:Tx}{XE:iQ}{X:Cx}{pos:kU}
def mv (i:Nat):Ev:=λa s=>match a[i]? with
 |some (À v)=>.ok v s
 |_=>.bad
def XD (h:PE X e (R7 i)):PE X e (tE T XE (mv i)):=PE.imp h λl H Q j=>ň j λk c s g f a=>by
 unfold mv at a;split at a
 ·rename_i v d;obtain⟨x,b,q⟩:=f.get i v d;exact⟨x,b,a.ĸ g q⟩
 ·exact a.elim
def mc (v:AV):Ev:=λ_ s=>.ok v s
def Qo:PE X (.Constant (.int i) j pos) (tE T XE (mc (.int i))):=PE.imp Q_ λg H Q d=>ň d λf a s c e b=>b.ĸ c cN
def Um:PE X (.Constant (.bool i) j pos) (tE T XE (mc (.bl i))):=PE.imp UY λg H Q d=>ň d λf a s c e b=>b.ĸ c dh
def Qu:PE X (.Constant .none j pos) (tE T XE (mc .Ğ)):=PE.imp Rb λg H Q d=>ň d λf a s c e b=>b.ĸ c sL
def Qw:PE X (.Constant (.str i) j pos) (tE T XE (mc (.str i))):=PE.imp Rg λg H Q d=>ň d λf a s c e b=>b.ĸ c iN
def MA (c:Gl X x)(d:X.mg x=À u)(r:RelV v u)(g:∀ρ H,VR T ρ H a v)(hd:(x == ("__debug__":Str))=false:=by decide):PE X (.Name x pos) (tE T XE (mc a)):=
 PE.imp (zC c d r hd) λj H Q h=>ň h λρ b s f i e=>e.ĸ f (g ρ H)
def wU (T:Tx)(XE:iQ)(op:AV->AV->S->R AV):R2:=λx y H Q=>∃a v w s,SR T a s H/\VR T a H v x/\VR T a H w y/\Out T XE (rV T) a H (op v w s) Q
def XZ (T:Tx)(XE:iQ)(op:AV->S->R AV):V->Hp->VK->Prop:=λx H Q=>∃a v s,SR T a s H/\VR T a H v x/\Out T XE (rV T) a H (op v s) Q
def Õ (op:AV->AV->S->R AV)(a b:Ev):Ev:=λc s=>(a c s).bind λv d=>(b c d).bind λw e=>op v w e
def az (op:AV->S->R AV)(a:Ev):Ev:=λb s=>(a b s).bind λv c=>op v c
def t2 (h:tE T XE (Õ op a b) u H Q):Vq (wU T XE op) (tE T XE a) (tE T XE b) u H Q:=by
 obtain⟨D,l,s,p,n,o⟩:=h;exact step p n o λv z t A x _ C f c i d=>step f c d λw q k B y _ r g m j e=>⟨k,v,w,q,g,VR.up r i,j,e⟩
def t1 (h:tE T XE (az op a) m H Q):Z2 (XZ T XE op) (tE T XE a) m H Q:=by
 obtain⟨o,f,s,k,i,j⟩:=h;exact step k i j λv l e A x _ n c g d b=>⟨e,v,l,c,d,b⟩
def r4 (c:jj X (a' o) (wU T XE op)) (d:PE X a (tE T XE f)) (e:PE X b (tE T XE g)):PE X (.BinOp a o b pos) (tE T XE (Õ op f g)):=
 PE.imp (U1 c d e) λ_ _ _ h=>t2 h
def Uv (b:S6 X (VO o) (XZ T XE op)) (c:PE X a (tE T XE d)):PE X (.UnaryOp o a pos) (tE T XE (az op d)):=
 PE.imp (U3 b c) λ_ _ _ h=>t1 h
def me (c:jj X (Į o) (wU T XE op)) (d:PE X a (tE T XE g)) (e:PE X b (tE T XE i)) (f:aC o b=false:=by rfl):PE X (.Compare a [o] [b] pos) (tE T XE (Õ op g i)):=
 PE.imp (M' c d e f) λ_ _ _ h=>t2 h
def Us (c:Sv X (wU T XE op)) (d:PE X a (tE T XE g)) (e:PE X b (tE T XE i)) (f:DK b:=by exact λ_ _=>rfl):PE X (.Subscript a b pos) (tE T XE (Õ op g i)):=
 PE.imp (U0 c d e f) λ_ _ _ h=>t2 h
def Out.alloc (h:Out T XE (rV T) ρ H (.ok (.ref s.length) (s++[o])) Q) (a:SR T ρ s H)(b:H p=none)(k:OR T (ρ++[p]) (upd H p u) o p):Q (.ref p) (upd H p u):=by
 have c:SR T (ρ++[p]) (s++[o]) (upd H p u):=(a.new b).add (a.out b) k;exact h _ _ _ ((a.dA b).add b) c (pT (T:=T) (H:=upd H p u) (by rw[á (by rw[a.len];exact Î _),a.len,uT];rfl))
theorem Out.tup {ρ:Á Addr}{H:Hp}{s:S}{xs:Á AV}{vs:Á V}{p:Addr}{Q:VK}(h:Out T XE (rV T) ρ H (.ok (.tup xs) s) Q) (b:SR T ρ s H)(a:H p=none)(k:Ĥ T ρ H xs vs):Q (.ref p) (upd H p (.tup vs)):=
 h _ _ _ (b.dA a) (b.new a) (jK (gq.of ă) (Ĥ.up (b.dA a) k))
theorem Out.lst {ρ:Á Addr}{H:Hp}{s:S}{xs:Á AV}{vs:Á V}{p:Addr}{Q:VK}(h:Out T XE (rL T) ρ H (.ok xs s) Q) (b:SR T ρ s H)(a:H p=none)(k:Ĥ T ρ H xs vs):Q (.ref p) (upd H p (.lst vs)):=
 h _ _ _ (b.dA a) (b.new a) ⟨p,vs,rfl,a,b.out a,ă,Ĥ.up (b.dA a) k⟩
def SR.dg (j:SR T ρ s H)(e:s[i]?=À (.lst xs)) (h:VR T ρ H (.ref i) x):∃a vs,x=.ref a/\ρ[i]?=À a/\H a=À (.lst vs)/\Ĥ T ρ H xs vs:=by
 obtain⟨a,c,vs,f,g⟩:=j.obj i _ e;obtain⟨b,d,rfl⟩:=h.fW;rw[c]at d;cases d;exact⟨a,vs,rfl,c,f,g⟩
def SR.AL (j:SR T ρ s H)(e:s[i]?=À (.dK xs)) (h:VR T ρ H (.ref i) x):∃a vs,x=.ref a/\ρ[i]?=À a/\H a=À (.dK vs)/\xs.map (·.1)=vs.map (·.1)/\Ĥ T ρ H (xs.map (·.2)) (vs.map (·.2)):=by
 obtain⟨a,c,vs,f,g⟩:=j.obj i _ e;obtain⟨b,d,rfl⟩:=h.fW;rw[c]at d;cases d;exact⟨a,vs,rfl,c,f,g⟩
def SR.tM {ρ:Á Addr}{s:S}(j:SR T ρ s H){i:Nat}(e:ρ[i]?=À a){u c:HO}(h0:H a=À c)(f:∀xs,c≠.tup xs)(g:∀o v,c≠.iS o v):Up ρ H ρ (upd H a u):=by
 refine⟨⟨a_,λb xs h=>?_,λb o v h=>?_⟩,λb o h n=>⟨?_,n⟩,λb h=>?_⟩
 ·rw[ç (vJ h h0 λz=>f xs z.symm)];exact h
 ·rw[ç (vJ h h0 λz=>g o v z.symm)];exact h
 ·rw[ç λz=>n (by rw[z];exact ý e)];exact h
 ·by_cases d:b=a
  ·subst d;rw[ă]at h;cases h
  ·rw[ç d]at h;exact h
theorem SR.set (f:SR T ρ s H)(e:ρ[i]?=À a)(n:Up ρ H ρ (upd H a u)) (k:OR T ρ (upd H a u) o a):SR T ρ (s.set i o) (upd H a u):=by
 refine⟨f.nd,by simp[f.len],λj q d=>?_⟩;by_cases c:i=j
 ·subst c;have hl:i<s.length:=by have:=(Ç.mp d).1;simpa using this
  rw[Đ hl]at d;cases d;exact⟨a,e,k⟩
 ·rw[ù c]at d;obtain⟨b,g,m⟩:=f.obj j q d;refine⟨b,g,m.up n.toGr (ç λz=>c ?_)⟩;subst z;have h:=(Ç.mp e)
  have l:=(Ç.mp g)
  exact(bw f.nd).mp (h.2.trans l.2.symm)
def Out.Ś {α d:Type}{b:Rl α d}{ρ:Á Addr}{c:Prop}{_:ś c}{r:R α}{Q:d->Hp->Prop}(h:Out T XE b ρ H (if c then r else .bad) Q):c/\Out T XE b ρ H r Q:=by
 by_cases a:c
 ·rw[Ë a]at h;exact⟨a,h⟩
 ·rw[Ñ a]at h;exact h.elim
noncomputable def need {α a:Type}(o:Ð a)(f:a->R α):R α:=match o with
 |some x=>f x
 |none=>.bad
@[simp] theorem å (x:a) (f:a->R α):need (À x) f=f x:=rfl
def Out.ô (h:Out T XE a ρ H (need o f) Q):∃x,o=À x/\Out T XE a ρ H (f x) Q:=by
 cases o with
 |none=>exact h.elim
 |some x=>exact⟨x,rfl,h⟩
noncomputable def ë (s:S)(i:Nat):Ð (Á AV):=match s[i]? with
 |some (.lst xs)=>À xs
 |_=>none
def ü (h:ë s i=À xs):s[i]?=À (.lst xs):=by
 unfold ë at h;split at h
 ·cases h;assumption
 ·cases h
def aQ (h:s[i]?=À (.lst xs)):ë s i=À xs:=by
 unfold ë;rw[h]
def Ł:AV->AV->S->R AV
 |.int i,.int j,s=>.ok (.int (i+j)) s
 |.str x,.str y,s=>if x.length+y.length<=sizeLine then .ok (.str (x++y)) s else .bad
 |.tup xs,.tup a,s=>if a≠[]/\xs.length+a.length<=sizeLine then .ok (.tup (xs++a)) s else .bad
 |.ref i,.ref j,s=>need (ë s i) λxs=>need (ë s j) λa=>if xs.length+a.length<=sizeLine then .ok (.ref s.length) (s++[.lst (xs++a)])else .bad
 |_,_,_=>.bad
def Ĥ.ne (h:Ĥ T ρ H l xs)(k:l≠[]):xs≠[]:=by
 intro z;have:=h.length;rw[z]at this;exact k (Ce.mp this)
theorem OR.lst {ρ:Á Addr}{H:Hp}{a:Addr}{xs:Á AV}{vs:Á V}(h:H a=À (.lst vs)) (k:Ĥ T ρ H xs vs):OR T ρ H (.lst xs) a:=⟨vs,h,k⟩
def XN (z:X.K=T.K):jj X (a' .Add) (wU T XE Ł):=by
 rintro d s n H x y v u Q I i j ⟨E,a,b,st,e,k,l,c⟩;cases a<;>cases b<;>try exact c.elim
 ·exact QX d s n H x y v u Q I i j ⟨_,_,k.int_inv,l.int_inv,c.ĸ e cN⟩
 ·obtain⟨hl,c⟩:=c.Ś;exact C5 d s n H x y v u Q I i j ⟨_,_,k.str_inv,l.str_inv,hl,c.ĸ e iN⟩
 ·obtain⟨hl,c⟩:=c.Ś;obtain⟨p,m,rfl,o,g⟩:=k.ck;obtain⟨q,w,rfl,h,f⟩:=l.ck;refine Jt d s n H (.ref p) (.ref q) v u Q I i j ⟨p,q,m,w,rfl,rfl,z▸o,z▸h,f.ne hl.1,by rw[<-g.length,<-f.length];exact hl.2,λC=>?_,λ_ r hr=>c.tup e hr (g.append f)⟩;have t:m=[]:=C;subst t;exact c.ĸ e (jK h (g.append f))
 ·obtain⟨xs,A,c⟩:=c.ô;obtain⟨D,B,c⟩:=c.ô;obtain⟨hl,c⟩:=c.Ś;obtain⟨p,m,rfl,_,o,g⟩:=e.dg (ü A) k;obtain⟨q,w,rfl,_,h,f⟩:=e.dg (ü B) l;refine QY d s n H (.ref p) (.ref q) v u Q I i j ⟨p,q,m,w,rfl,rfl,o,h,by rw[<-g.length,<-f.length];exact hl,λr hr=>c.alloc e hr ?_⟩;exact OR.lst ă (Ĥ.gr ((e.dA hr).add hr).toGr (g.append f))
def UP:AV->AV->S->R AV
 |.int i,.int j,s=>.ok (.int (i-j)) s
 |_,_,_=>.bad
def nO:AV->AV->S->R AV
 |.int i,.int j,s=>if Lf i/\Lf j then .ok (.int (i*j)) s else .bad
 |_,_,_=>.bad
def XP:jj X (a' .Mult) (wU T XE nO):=by
 rintro c s k H x y v u Q I e g ⟨l,a,b,st,h,i,j,d⟩;cases a<;>cases b<;>try exact d.elim
 obtain⟨hl,d⟩:=d.Ś;exact M9 c s k H x y v u Q I e g ⟨_,_,i.int_inv,j.int_inv,⟨hl.1.f,hl.2.f⟩,d.ĸ h cN⟩
def sy:AV->AV->S->R AV
 |.int i,.int j,s=>if j≠0/\O6 j then .ok (.int (i.fdiv j)) s else .bad
 |_,_,_=>.bad
def UJ:jj X (a' .FloorDiv) (wU T XE sy):=by
 rintro c s k H x y v u Q I e g ⟨l,a,b,st,h,i,j,d⟩;cases a<;>cases b<;>try exact d.elim
 obtain⟨hl,d⟩:=d.Ś;exact Ju c s k H x y v u Q I e g ⟨_,_,i.int_inv,j.int_inv,⟨hl.1,hl.2.f⟩,d.ĸ h cN⟩
def kb:AV->AV->S->R AV
 |.int i,.int j,s=>if j≠0 then .ok (.int (i.fmod j)) s else .bad
 |_,_,_=>.bad
def oMod:jj X (a' .Mod) (wU T XE kb):=by
 rintro c s j H x y v u Q I e f ⟨k,a,b,st,g,h,i,d⟩;cases a<;>cases b<;>try exact d.elim
 obtain⟨hl,d⟩:=d.Ś;exact M8 c s j H x y v u Q I e f ⟨_,_,h.int_inv,i.int_inv,hl,d.ĸ g cN⟩
instance {i j:Int}:ś (LD i j):=inferInstanceAs (ś (0<=j/\j<=1000000/\i.natAbs<2^64))
def tH:AV->AV->S->R AV
 |.int i,.int j,s=>if LD i j then .ok (.int (i^j.toNat)) s else .bad
 |_,_,_=>.bad
def XS:jj X (a' .Pow) (wU T XE tH):=by
 rintro c s j H x y v u Q I e f ⟨k,a,b,st,g,h,i,d⟩;cases a<;>cases b<;>try exact d.elim
 obtain⟨hl,d⟩:=d.Ś;exact Q3 c s j H x y v u Q I e f ⟨_,_,h.int_inv,i.int_inv,hl,d.ĸ g cN⟩
def tF:AV->S->R AV
 |.int i,s=>.ok (.int (-i)) s
 |_,_=>.bad
def XR:S6 X (VO .USub) (XZ T XE tF):=by
 rintro b s g H x v Q I d ⟨h,a,st,e,f,c⟩;cases a<;>try exact c.elim
 exact Sa b s g H x v Q I d ⟨_,f.int_inv,c.ĸ e cN⟩
noncomputable def C4:AV->AV->S->R AV
 |.int i,.int j,s=>.ok (.bl (decide (i<j))) s
 |.str i,.str j,s=>.ok (.bl (decide (i.cps.toList<j.cps.toList))) s
 |_,_,_=>.bad
def oLt:jj X (Į .Lt) (wU T XE C4):=by
 rintro c s j H x y v u Q I e f ⟨k,a,b,st,g,h,i,d⟩;cases a<;>cases b<;>try exact d.elim
 ·exact UW c s j H x y v u Q I e f ⟨_,_,h.int_inv,i.int_inv,d.ĸ g dh⟩
 ·exact F9 c s j H x y v u Q I e f ⟨_,_,h.str_inv,i.str_inv,d.ĸ g dh⟩
def sA:AV->AV->S->R AV
 |.int i,.int j,s=>.ok (.bl (decide (i<=j))) s
 |_,_,_=>.bad
def oLe:jj X (Į .LtE) (wU T XE sA):=by
 rintro c s j H x y v u Q I e f ⟨k,a,b,st,g,h,i,d⟩;cases a<;>cases b<;>try exact d.elim
 exact UT c s j H x y v u Q I e f ⟨_,_,h.int_inv,i.int_inv,d.ĸ g dh⟩
def C3:AV->AV->S->R AV
 |.int i,.int j,s=>.ok (.bl (decide (j<i))) s
 |_,_,_=>.bad
def ZQ:jj X (Į .Gt) (wU T XE C3):=by
 rintro c s j H x y v u Q I e f ⟨k,a,b,st,g,h,i,d⟩;cases a<;>cases b<;>try exact d.elim
 exact US c s j H x y v u Q I e f ⟨_,_,h.int_inv,i.int_inv,d.ĸ g dh⟩
def F6:AV->AV->S->R AV
 |.int i,.int j,s=>.ok (.bl (decide (j<=i))) s
 |_,_,_=>.bad
def ZP:jj X (Į .GtE) (wU T XE F6):=by
 rintro c s j H x y v u Q I e f ⟨k,a,b,st,g,h,i,d⟩;cases a<;>cases b<;>try exact d.elim
 exact UR c s j H x y v u Q I e f ⟨_,_,h.int_inv,i.int_inv,d.ĸ g dh⟩
def toD:Nat->S->AV->Ð Dt
 |_,_,.Ğ=>À .Ğ
 |_,_,.bl b=>À (.bl b)
 |_,_,.int b=>À (.int b)
 |_,_,.str b=>À (.str b)
 |n+1,s,.tup xs=>(xs.mapM (toD n s)).map .tup
 |n+1,s,.sq xs=>(xs.mapM (toD n s)).map .lst
 |n+1,s,.ref i=>(ë s i).bind λxs=>(xs.mapM (toD n s)).map .lst
 |_,_,_=>none
def CQ (h:(a::l).mapM f=À r):∃b q,f a=À b/\l.mapM f=À q/\r=b::q:=by
 rw[zU]at h;cases c:f a with
 |none=>rw[c]at h;cases h
 |some b=>
  cases d:l.mapM f with
  |none=>rw[c,d]at h;cases h
  |some q=>rw[c,d]at h;cases h;exact⟨b,q,rfl,rfl,rfl⟩
theorem qP (c:∀v d x,f v=À d->VR T ρ H v x->Rep T.K (λ_=>False) H d x):∀{xs:Á AV}{l:Á Dt}{vs:Á V},xs.mapM f=À l->Ĥ T ρ H xs vs->bK T.K (λ_=>False) H l vs
 |[],l,vs,h,k=>by
  rw[BW]at h;cases h;unfold bK;exact k.nil_inv
 |a::r,l,vs,h,k=>by
  obtain⟨b,q,e,g,rfl⟩:=CQ h;obtain⟨x,m,rfl,i,j⟩:=k.cons_inv;unfold bK;exact⟨x,m,rfl,c a b x e i,qP c g j⟩
theorem mq (j:SR T ρ s H):∀n v d x,toD n s v=À d->VR T ρ H v x->Rep T.K (λ_=>False) H d x
 |n,.Ğ,d,x,h,k=>by
  have h:À Dt.Ğ=À d:=by cases n<;>exact h
  cases h;unfold Rep;exact k.jd
 |n,.bl b,d,x,h,k=>by
  have h:À (Dt.bl b)=À d:=by cases n<;>exact h
  cases h;unfold Rep;exact k.js
 |n,.int b,d,x,h,k=>by
  have h:À (Dt.int b)=À d:=by cases n<;>exact h
  cases h;unfold Rep;exact k.int_inv
 |n,.str b,d,x,h,k=>by
  have h:À (Dt.str b)=À d:=by cases n<;>exact h
  cases h;unfold Rep;exact k.str_inv
 |0,.tup xs,d,x,h,k=>by cases h
 |0,.sq xs,d,x,h,k=>by cases h
 |0,.ref xs,d,x,h,k=>by cases h
 |n+1,.tup xs,d,x,h,k=>by
  have h:(xs.mapM (toD n s)).map Dt.tup=À d:=h;obtain⟨a,g,rfl,c,f⟩:=k.ck;cases e:xs.mapM (toD n s)with
  |none=>rw[e]at h;cases h
  |some l=>
   rw[e]at h;cases h;unfold Rep;exact⟨a,g,rfl,λz=>z,c,qP (λv d x=>mq j n v d x) e f⟩
 |n+1,.sq xs,d,x,h,k=>by
  have h:(xs.mapM (toD n s)).map Dt.lst=À d:=h;obtain⟨a,g,rfl,c,f⟩:=k.iL;cases e:xs.mapM (toD n s)with
  |none=>rw[e]at h;cases h
  |some l=>
   rw[e]at h;cases h;unfold Rep;exact⟨a,g,rfl,λz=>z,c.Gw,qP (λv d x=>mq j n v d x) e f⟩
 |n+1,.ref i,d,x,h,k=>by
  have h:(ë s i).bind (λxs=>(xs.mapM (toD n s)).map Dt.lst)=À d:=h;cases m:ë s i with
  |none=>rw[m]at h;cases h
  |some xs=>
   rw[m]at h;have h:(xs.mapM (toD n s)).map Dt.lst=À d:=h;obtain⟨a,g,rfl,_,c,f⟩:=j.dg (ü m) k;cases e:xs.mapM (toD n s)with
   |none=>rw[e]at h;cases h
   |some l=>
    rw[e]at h;cases h;unfold Rep;exact⟨a,g,rfl,λz=>z,fC.of c,qP (λv d x=>mq j n v d x) e f⟩
def HM (s:S):AV->AV->Ð Bool
 |.Ğ,.Ğ=>À true
 |.Ğ,.int _=>À false|.int _,.Ğ=>À false|.Ğ,.bl _=>À false|.bl _,.Ğ=>À false|.Ğ,.str _=>À false|.str _,.Ğ=>À false
 |.int i,.int j=>À (decide (i=j))
 |.bl i,.bl j=>À (decide (i=j))
 |.str i,.str j=>À (decide (i=j))
 |.int _,.str _=>À false|.str _,.int _=>À false|.bl _,.str _=>À false|.str _,.bl _=>À false
 |v,w=>match toD 20 s v,toD 20 s w with
  |some (.tup l),À (.tup q)=>if aX l<=20 then À (jb l q)else none
  |some (.lst l),À (.lst q)=>if aX l<=20 then À (jb l q)else none
  |_,_=>none
def ag (v w:AV)(s:S):R AV:=need (HM s v w) λb=>.ok (.bl b) s
def uo (v w:AV)(s:S):R AV:=need (HM s v w) λb=>.ok (.bl (!b)) s
def G3 (s:S)(v w:AV)(b:Bool):Prop:=∃(c:Bool) (l q:Á Dt),toD 20 s v=À (if c then .tup l else .lst l)/\toD 20 s w=À (if c then .tup q else .lst q)/\aX l<=20/\b=jb l q
def FC (h:(match toD 20 s v,toD 20 s w with
  |some (.tup l),À (.tup q)=>if aX l<=20 then À (jb l q)else none
  |some (.lst l),À (.lst q)=>if aX l<=20 then À (jb l q)else none
  |_,_=>none)=À b):G3 s v w b:=by
 split at h
 ·rename_i l q a c;split at h
  ·rename_i hd;cases h;exact⟨true,l,q,a,c,hd,rfl⟩
  ·cases h
 ·rename_i l q a c;split at h
  ·rename_i hd;cases h;exact⟨false,l,q,a,c,hd,rfl⟩
  ·cases h
 ·cases h
def AW (h:HM s v w=À b)(a:VR T ρ H v x)(c:VR T ρ H w y):(RQ x y=true/\decide (x=y)=b)∨G3 s v w b:=by
  cases v<;>cases w<;>first
    |exact .inr (FC h)
    | (refine .inl ?_
       have h:À _=À b:=h;cases h;first
         |cases a.jd|cases a.int_inv|cases a.js|cases a.str_inv
       first
         |cases c.jd|cases c.int_inv|cases c.js|cases c.str_inv
       refine⟨rfl,?_⟩;first
         |rfl
         |simp)
def oEq (h:X.K=T.K)(hu:X.A.units+30<cLine):jj X (Į .Eq) (wU T XE ag):=by
 rintro d s n H x y v u Q I i j ⟨z,a,b,st,g,k,m,f⟩;obtain⟨c,e,f⟩:=f.ô;rcases AW e k m with⟨r,w⟩|⟨t,l,q,o,p,hd,rfl⟩
 ·exact UQ d s n H x y v u Q I i j ⟨r,by rw[w];exact f.ĸ g dh⟩
 ·refine QZ hu d s n H x y v u Q I i j ⟨λ_=>False,λ_=>False,l,q,t,⟨?_,?_⟩,hd,f.ĸ g dh⟩
  ·exact h▸mq g 20 _ _ _ o k
  ·exact h▸mq g 20 _ _ _ p m
def XQ (h:X.K=T.K)(hu:X.A.units+30<cLine):jj X (Į .NotEq) (wU T XE uo):=by
 rintro d s n H x y v u Q I i j ⟨z,a,b,st,g,k,m,f⟩;obtain⟨c,e,f⟩:=f.ô;rcases AW e k m with⟨r,w⟩|⟨t,l,q,o,p,hd,rfl⟩
 ·exact UX d s n H x y v u Q I i j ⟨r,by rw[w];exact f.ĸ g dh⟩
 ·refine Q2 hu d s n H x y v u Q I i j ⟨λ_=>False,λ_=>False,l,q,t,⟨?_,?_⟩,hd,f.ĸ g dh⟩
  ·exact h▸mq g 20 _ _ _ o k
  ·exact h▸mq g 20 _ _ _ p m
noncomputable def ll:AV->Bool
 |.Ğ=>true
 |_=>false
def o7:AV->AV->S->R AV
 |v,.Ğ,s=>.ok (.bl (ll v)) s
 |_,_,_=>.bad
def M6:AV->AV->S->R AV
 |v,.Ğ,s=>.ok (.bl (!ll v)) s
 |.bl a,.bl b,s=>.ok (.bl (a != b)) s
 |_,_,_=>.bad
def Ij (h:VR T ρ H v x):decide (x=.Ğ)=ll v:=by
 cases v
 ·cases h.jd;rfl
 ·cases h.js;rfl
 ·cases h.int_inv;rfl
 ·cases h.str_inv;rfl
 ·obtain⟨_,_,rfl,_⟩:=h.ck;rfl
 ·obtain⟨_,_,rfl⟩:=h.fW;rfl
 ·obtain⟨_,_,rfl,_⟩:=h.iL;rfl
def UK:jj X (Į .Is) (wU T XE o7):=by
 rintro c s j H x y v u Q I e f ⟨k,a,b,st,g,h,i,d⟩;cases b<;>try (cases a<;>exact d.elim)
 exact Q1 c s j H x y v u Q I e f ⟨i.jd,by rw[Ij h];cases a<;>exact d.ĸ g dh⟩
def Ø:gh:=λ_ s=>.ok [] s
def Ã (a:Ev)(r:gh):gh:=λb s=>(a b s).bind λv c=>(r b c).bind λe d=>.ok (v::e) d
def EB:PA X [] (tP T XE Ø):=PA.imp eJ λf H Q d=>ň d λρ a s c e b=>b.here (x:=[]) c (Ĥ.nil (T:=T) (ρ:=ρ) (H:=H))
def Bv (n:PE X e (tE T XE m)) (hr:PA X b (tP T XE r)) (f:Ï (e::b) X.env=(false,Ė e X.env)::Ï b X.env:=by rfl):PA X (e::b) (tP T XE (Ã m r)):=
 PA.imp (aR n hr f) λG H Q t=>ň t λF k s f o p=>
  step f o p λv C u A x _ E g a i c=>step g a c λw D z B y _ q h l j d=>d.here h (Ĥ.cons (VR.up q i) j)
def cA (r:gh):Ev:=λa s=>(r a s).bind λb c=>if b.length<=sizeLine then .ok (.tup b) c else .bad
def Qx (h:PA X g (tP T XE r)):PE X (.Tuple g k pos) (tE T XE (cA r)):=
 PE.imp (C7 h) λu H Q n=>ň n λt e s m i j=>step m i j λv o d A x _ q c f a b=>by
  obtain⟨hl,b⟩:=b.Ś;have a:Ĥ T d A v x:=a;exact⟨by rw[<-a.length];exact hl,λp l=>b.tup c l a⟩
def ŷ (r:gh):gh:=λa s=>(r a s).bind λb c=>if b.length<=sizeLine then .ok b c else .bad
def QD (h:PA X g (tP T XE r)):PE X (.List g pos) (tL T XE (ŷ r)):=
 PE.imp (Ra h) λt H Q m=>ň m λq e s l i j=>step l i j λv n d A x _ o c f a b=>by
  obtain⟨hl,b⟩:=b.Ś;have a:Ĥ T d A v x:=a;exact⟨by rw[<-a.length];exact hl,λp k=>b.lst c k a⟩
def Ĝ (r:gh):Ev:=λa s=>(r a s).bind λc b=>.ok (.ref b.length) (b++[.lst c])
def Qt (h:PE X e (tL T XE r)):PE X e (tE T XE (Ĝ r)):=
 PE.imp h λB H Q t=>ň t λv f s p o b=>by
  refine⟨v,f,s,p,o,?_⟩;unfold Ĝ at b;cases e:r f s with
  |bad=>rw[e]at b;exact b
  |ex c q=>rw[e]at b;exact b
  |ok w q=>
   rw[e]at b;rintro d A x u i ⟨a,y,j,l,m,n,k⟩;subst j;have g:Gr d A (d++[a]) A:=⟨f7 _ _,λ_ _ z=>z,λ_ _ _ z=>z⟩
   refine b (d++[a]) A (.ref a) (u.add l) (i.add m (OR.lst n (k.gr g))) (pT (T:=T) (H:=A) ?_);rw[á (by rw[i.len];exact Î _),i.len,uT];rfl
def items (v:AV)(s:S):Ð (Á AV):=match v with
 |.tup xs=>À xs
 |.sq xs=>À xs
 |.ref i=>ë s i
 |_=>none
def rP (h:items v s=À xs)(d:SR T ρ s H)(c:VR T ρ H v x):∃a vs,x=.ref a/\(fC T.K H a vs∨gq T.K H a vs)/\Ĥ T ρ H xs vs:=by
 cases v<;>try cases h
 ·obtain⟨a,vs,rfl,b,k⟩:=c.ck;exact⟨a,vs,rfl,.inr b,k⟩
 ·obtain⟨a,vs,rfl,_,b,k⟩:=d.dg (ü h) c;exact⟨a,vs,rfl,.inl (fC.of b),k⟩
 ·obtain⟨a,vs,rfl,b,k⟩:=c.iL;exact⟨a,vs,rfl,.inl b.Gw,k⟩
def vv (m:Ev):gh:=λa s=>(m a s).bind λv b=>need (items v b) λxs=>.ok xs b
def QE (h:PE X e (tE T XE m)):PE X e (tQ T XE (vv m)):=
 PE.imp h λq H Q l=>ň l λp f s k i j=>step k i j λv n d A x _ o b g c a=>by
  obtain⟨xs,e,a⟩:=a.ô;exact a d A x .refl b (rP e b c)
mutual
def AV.low (b:Nat):AV->Bool
 |.ref i=>decide (i<b)
 |.tup xs=>ĭ b xs
 |.sq xs=>ĭ b xs
 |_=>true
def ĭ (b:Nat):Á AV->Bool
 |[]=>true
 |v::r=>v.low b&&ĭ b r
end
mutual
theorem VR.cut (e:f.take b=ρ):∀{v:AV}{x:V},v.low b=true->VR T f H v x->VR T ρ H v x
 |.Ğ,_,_,h=>by unfold VR at *;exact h
 |.bl _,_,_,h=>by unfold VR at *;exact h
 |.int _,_,_,h=>by unfold VR at *;exact h
 |.str _,_,_,h=>by unfold VR at *;exact h
 |.ref i,_,k,h=>by
  obtain⟨a,j,rfl⟩:=h.fW;unfold AV.low at k;exact pT (by rw[<-e,Ű (č k)];exact j)
 |.tup xs,_,k,h=>by
  obtain⟨a,g,rfl,c,d⟩:=h.ck;unfold AV.low at k;exact jK c (Ĥ.cut e k d)
 |.sq xs,_,k,h=>by
  obtain⟨a,g,rfl,c,d⟩:=h.iL;unfold AV.low at k;unfold VR;exact⟨a,g,rfl,c,Ĥ.cut e k d⟩
theorem Ĥ.cut (e:a.take b=ρ):∀{v:Á AV}{x:Á V},ĭ b v=true->Ĥ T a H v x->Ĥ T ρ H v x
 |[],_,_,h=>by cases h.nil_inv;exact .nil
 |_::_,_,k,h=>by
  obtain⟨x,f,rfl,c,d⟩:=h.cons_inv;unfold ĭ at k;rw[ċ]at k;exact .cons (VR.cut e k.1 c) (Ĥ.cut e k.2 d)
end
mutual
theorem VR.low:∀{v:AV}{x:V},VR T ρ H v x->v.low ρ.length=true
 |.Ğ,_,_=>by unfold AV.low;rfl
 |.bl _,_,_=>by unfold AV.low;rfl
 |.int _,_,_=>by unfold AV.low;rfl
 |.str _,_,_=>by unfold AV.low;rfl
 |.ref i,_,h=>by
  obtain⟨a,c,rfl⟩:=h.fW;unfold AV.low;exact î (Ç.mp c).1
 |.tup xs,_,h=>by
  obtain⟨a,e,rfl,d,b⟩:=h.ck;unfold AV.low;exact Ĥ.low b
 |.sq xs,_,h=>by
  obtain⟨a,e,rfl,d,b⟩:=h.iL;unfold AV.low;exact Ĥ.low b
theorem Ĥ.low:∀{v:Á AV}{x:Á V},Ĥ T ρ H v x->ĭ ρ.length v=true
 |[],_,_=>by unfold ĭ;rfl
 |_::_,_,h=>by
  obtain⟨x,c,rfl,a,b⟩:=h.cons_inv;unfold ĭ;rw[VR.low a,Ĥ.low b];rfl
end
noncomputable def AO.low (b:Nat):AO->Bool
 |.lst xs=>ĭ b xs
 |.dK a=>ĭ b (a.map (·.2))
 |.dT a=>ĭ b (a.map (·.2))
 |.ins _ c=>ĭ b (c.map (·.2))
 |.exc _=>true
 |.tab _ _=>true
 |.Ed a=>ĭ b (a.map (·.2))
theorem OR.low (h:OR T ρ H o a):o.low ρ.length=true:=by
 cases o with
 |lst xs=>obtain⟨_,_,k⟩:=h;exact k.low
 |dK xs=>obtain⟨_,_,_,k⟩:=h;exact k.low
 |dT xs=>obtain⟨_,_,_,k⟩:=h;exact k.low
 |ins C xs=>obtain⟨_,_,_,_,k⟩:=h;exact k.low
 |exc C=>rfl
 |tab i q=>rfl
 |Ed xs=>obtain⟨_,_,_,_,_,_,_,k⟩:=h;exact k.low
theorem OR.cut (e:j.take b=ρ)(k:o.low b=true)(h:OR T j H o a):OR T ρ H o a:=by
 cases o with
 |lst xs=>obtain⟨g,c,f⟩:=h;exact⟨g,c,Ĥ.cut e k f⟩
 |dK xs=>obtain⟨g,c,q,f⟩:=h;exact⟨g,c,q,Ĥ.cut e k f⟩
 |dT xs=>obtain⟨g,c,q,f⟩:=h;exact⟨g,c,q,Ĥ.cut e k f⟩
 |ins C xs=>obtain⟨l,g,c,q,f⟩:=h;exact⟨l,g,c,q,Ĥ.cut e k f⟩
 |exc C=>exact h
 |tab i q=>exact h
 |Ed xs=>obtain⟨o,n,m,g,c,d,q,f⟩:=h;exact⟨o,n,m,g,c,d,q,Ĥ.cut e k f⟩
def SR.closed (b:SR T ρ s H):s.all (AO.low s.length)=true:=by
 rw[ú];intro o d;obtain⟨i,c,e⟩:=ĩ d;obtain⟨a,_,q⟩:=b.obj i o (by rw[Å c,e]);rw[<-b.len];exact q.low
theorem SR.cut (j:SR T c s' H)(hl:ρ <+:c)(g:ρ.length=b)(k:(s'.take b).all (AO.low b)=true):SR T ρ (s'.take b) H:=by
 have e:c.take b=ρ:=by obtain⟨t,rfl⟩:=hl;rw[<-g,oz];rfl
 have h:b<=s'.length:=by rw[<-g,<-j.len];exact hl.length_le
 refine⟨?_,by rw[Ř,Sk h];exact g,λi o d=>?_⟩
 ·rw[<-e];exact j.nd.sublist (uy _ _)
 ·have l:i<b:=by have:=(Ç.mp d).1;rw[Ř]at this;lia
  have f:=d;rw[Ű l]at d;obtain⟨a,m,q⟩:=j.obj i o d;refine⟨a,by rw[<-e,Ű l];exact m,q.cut e ?_⟩;exact ú.mp k o (ý f)
def Up.cut (u:Up ρ H a H'):Up ρ H ρ H':=⟨⟨a_,u.lE,u.jx⟩,λb o e n=>⟨(u.fr b o e n).1,n⟩,u.live⟩
def ze (m:Ev):Ev:=λa s=>(m a s).bind λv b=>open Classical in if b.take s.length=s/\v.low s.length=true then .ok v s else .bad
def Uq (h:PE X e (tE T XE m)):PE X e (tE T XE (ze m)):=
 PE.imp h λw H Q r=>ň r λf b s d n a=>by
  refine⟨f,b,s,d,n,?_⟩;unfold ze at a;cases e:m b s with
  |bad=>rw[e]at a;exact a
  |ex c o=>rw[e]at a;exact a
  |ok v o=>
   rw[e]at a;obtain⟨⟨i,j⟩,a⟩:=a.Ś;intro g A x u p q;have l:=d.closed;have k:g.take s.length=f:=by obtain⟨t,rfl⟩:=u.pre;rw[<-d.len,oz];rfl
   refine a f A x u.cut ?_ (VR.cut k j q);have:=p.cut u.pre d.len (by rw[i];exact l);rw[i]at this;exact this
def B_ (m:Ev):Ev:=λa s=>(m a s).bind λv b=>if (b.take s.length).all (AO.low s.length)=true/\v.low s.length=true then .ok v (b.take s.length)else .bad
def Qn (h:PE X e (tE T XE m)):PE X e (tE T XE (B_ m)):=
 PE.imp h λr H Q q=>ň q λf b s d l a=>by
  refine⟨f,b,s,d,l,?_⟩;unfold B_ at a;cases e:m b s with
  |bad=>rw[e]at a;exact a
  |ex c n=>rw[e]at a;exact a
  |ok v n=>
   rw[e]at a;obtain⟨⟨i,j⟩,a⟩:=a.Ś;intro g A x u o p;have k:g.take s.length=f:=by obtain⟨t,rfl⟩:=u.pre;rw[<-d.len,oz];rfl
   exact a f A x u.cut (o.cut u.pre d.len i) (VR.cut k j p)
def fU (m:Ev):gh:=λa s=>(m a s).bind λv b=>match v with
 |.ref k=>need (ë b k) λxs=>if s.length<=k/\(b.take s.length).all (AO.low s.length)=true/\ĭ s.length xs=true then .ok xs (b.take s.length)else .bad
 |_=>.bad
def MM (h:PE X e (tE T XE m)):PE X e (tL T XE (fU m)):=
 PE.imp h λY H Q P=>ň P λl f s i J d=>by
  refine⟨l,f,s,i,J,?_⟩;unfold fU at d;cases e:m f s with
  |bad=>rw[e]at d;exact d
  |ex c M=>rw[e]at d;exact d
  |ok v M=>
   rw[e]at d;cases v with
   |ref k=>
    obtain⟨xs,r,d⟩:=d.ô;obtain⟨⟨U,w,y⟩,d⟩:=d.Ś;intro g A x u n N;obtain⟨a,O,rfl,p,F,L⟩:=n.dg (ü r) N;have E:g.take s.length=l:=by obtain⟨t,rfl⟩:=u.pre;rw[<-i.len,oz];rfl
    have na:a∉l:=λz=>by
     obtain⟨j,q,D⟩:=ĩ z;have B:g[j]?=À a:=zD u.pre (by rw[Å q,D]);have G:=Ç.mp p;have I:=Ç.mp B;have:k=j:=(bw n.nd).mp (G.2.trans I.2.symm);rw[i.len]at q;lia
    refine d l A (.ref a) u.cut (n.cut u.pre i.len w) ⟨a,O,rfl,?_,na,F,Ĥ.cut E y L⟩;cases C:H a with
    |none=>rfl
    |some o=>exact absurd (ý p) (u.fr a o C na).2
   |Ğ=>exact d.elim
   |bl b=>exact d.elim
   |int b=>exact d.elim
   |str b=>exact d.elim
   |tup b=>exact d.elim
   |sq b=>exact d.elim
def xT (h:Out T XE rB ρ H (.ok b s) Q) (a:SR T ρ s H):Q b H:=h ρ H b .refl a rfl
noncomputable def truth (v:AV)(s:S):Ð Bool:=match v with
 |.Ğ=>À false
 |.bl b=>À b
 |.int i=>À (i != 0)
 |.str x=>if x.length<=sizeLine then À ((x.length:Int) != 0)else none
 |.tup xs=>À (!xs.isEmpty)
 |.sq xs=>À (!xs.isEmpty)
 |.ref i=>match s[i]? with
  |some (.lst xs)=>À (!xs.isEmpty)
  |some (.dK xs)=>À (!xs.isEmpty)
  |_=>none
def Ĥ.emp (h:Ĥ T ρ H l xs):l.isEmpty=xs.isEmpty:=by
 cases l with
 |nil=>cases h.nil_inv;rfl
 |cons a r=>obtain⟨x,b,rfl,_⟩:=h.cons_inv;rfl
def GA (h:truth v s=À b)(j:SR T ρ s H)(d:VR T ρ H v x):O' T.K x H b:=by
 cases v with
 |Ğ=>cases d.jd;cases h;rfl
 |bl c=>cases d.js;cases h;rfl
 |int c=>cases d.int_inv;cases h;rfl
 |str c=>
  cases d.str_inv;have h:(if c.length<=sizeLine then À ((c.length:Int) != 0)else none)=À b:=h;split at h
  ·cases h;exact⟨by assumption,rfl⟩
  ·cases h
 |tup c=>
  obtain⟨a,f,rfl,g,k⟩:=d.ck;cases h;exact .inr (.inl ⟨f,g,by rw[k.emp]⟩)
 |sq c=>
  obtain⟨a,f,rfl,g,k⟩:=d.iL;cases h;exact .inl ⟨f,g.Gw,by rw[k.emp]⟩
 |ref i=>
  have h:(match s[i]? with
   |some (.lst xs)=>À (!xs.isEmpty)
   |some (.dK xs)=>À (!xs.isEmpty)
   |_=>none)=À b:=h
  split at h
  ·rename_i xs e;cases h;obtain⟨a,f,rfl,_,g,k⟩:=j.dg e d;exact .inl ⟨f,fC.of g,by rw[k.emp]⟩
  ·rename_i xs e;cases h;obtain⟨a,f,rfl,_,g,l,k⟩:=j.AL e d;refine .inr (.inr ⟨f,g,?_⟩);have:=Ĳ b_ l;rw[Ê,Ê]at this;cases xs<;>cases f<;>first|rfl|(simp at this)
  ·cases h
def cT (m:Ev):Eb:=λa s=>(m a s).bind λv c=>need (truth v c) λb=>.ok b c
def cB (m:Ev):Eb:=λa s=>(m a s).bind λv c=>match v with
 |.bl b=>.ok b c
 |_=>.bad
def XX (k:X.K=T.K)(h:PE X e (tE T XE m)) (f:∀a,Ff e X.env a=(do let v <-a;jW e.pos;df [v] (truthy v)):=by intro _;rfl):PT X e (kO T XE (cT m)):=
 PT.imp (JV h f) λu H Q o=>ň o λt i s n f l=>step n f l λv q p A x _ r d j g c=>by
  obtain⟨b,e,c⟩:=c.ô;exact⟨b,by rw[k];exact GA e d g,xT c d⟩
def EO (h:kO T XE (cB m) l H Q):tE T XE m l H λx H'=>∃k,x=.bl k/\Q k H':=by
 obtain⟨p,e,s,j,g,i⟩:=h;refine step j g i λv n d A x _ o c f a b=>?_;have a:VR T d A v x:=a;cases v<;>try exact b.elim
 exact⟨_,a.js,xT b c⟩
def gX (c:jj X (Į o) (wU T XE op)) (d:PE X a (tE T XE g)) (e:PE X b (tE T XE i)) (f:aC o b=false:=by rfl):PT X (.Compare a [o] [b] pos) (kO T XE (cB (Õ op g i))):=
 PT.imp (Nx c d e f) λj H Q h=>t2 (EO h)
def XC (op e:AV->AV->S->R AV)(a b c:Ev):Ev:=λd s=>(a d s).bind λv g=>(b d g).bind λw h=>(op v w h).bind λr f=>match r with
 |.bl true=>(c d f).bind λz i=>e w z i
 |.bl false=>.ok (.bl false) f
 |_=>.bad
def m_ (a b:Eb):Eb:=λd s=>(a d s).bind λc e=>if c=true then b d e else .ok false e
def Hf (a b:Eb):Eb:=λd s=>(a d s).bind λc e=>if c=true then .ok true e else b d e
def rm (a:Eb):Eb:=λb s=>(a b s).bind λc d=>.ok (!c) d
def IE (c:Eb)(a b:Ev):Ev:=λd s=>(c d s).bind λk e=>if k=true then a d e else b d e
def pw_and1' (h:PT X a (kO T XE m)):PW X (.BoolOp .And [a] pos) (kO T XE m):=pw_and1 h
def pw_or1' (h:PT X a (kO T XE m)):PW X (.BoolOp .Or [a] pos) (kO T XE m):=pw_or1 h
def pw_and' {rest:Á Expr}{m r:Eb}(h:PT X a (kO T XE m)) (k:PW X (.BoolOp .And (b::rest) pos) (kO T XE r)):PW X (.BoolOp .And (a::b::rest) pos) (kO T XE (m_ m r)):=
 PW.imp (pw_and h k) λu H Q p=>ň p λt e s n j l=>step n j l λv o i A x _ q d f g c=>by
  cases (show v=x from g);cases v with
  |true=>exact⟨i,e,o,d,f,c⟩
  |false=>exact xT c d
def pw_or' {rest:Á Expr}{m r:Eb}(h:PT X a (kO T XE m)) (k:PW X (.BoolOp .Or (b::rest) pos) (kO T XE r)):PW X (.BoolOp .Or (a::b::rest) pos) (kO T XE (Hf m r)):=
 PW.imp (pw_or h k) λu H Q p=>ň p λt e s n j l=>step n j l λv o i A x _ q d f g c=>by
  cases (show v=x from g);cases v with
  |true=>exact xT c d
  |false=>exact⟨i,e,o,d,f,c⟩
def NA (h:PT X a (kO T XE m)):PT X (.UnaryOp .Not a pos) (kO T XE (rm m)):=
 PT.imp (Rz h) λq H Q k=>ň k λp e s j g i=>step j g i λv n l A x _ o c f d b=>by
  cases (show v=x from d);exact xT b c
def Ur (n:PT X c (kO T XE i)) (l:PE X a (tE T XE r)) (m:PE X b (tE T XE t)):PE X (.IfExp c a b pos) (tE T XE (IE i r t)):=
 PE.imp (JE n l m) λz H Q u=>ň u λy d s q o p=>step q o p λv k h A x _ w g e j f=>by
  cases (show v=x from j);cases v with
  |true=>exact⟨h,d,k,g,e,f⟩
  |false=>exact⟨h,d,k,g,e,f⟩
def FX (a b:Ev):Ev:=λc s=>(a c s).bind λv d=>match v with
 |.bl true=>b c d
 |.bl false=>.ok (.bl false) d
 |_=>.bad
def Wh (a b:Ev):Ev:=λc s=>(a c s).bind λv d=>match v with
 |.bl true=>.ok (.bl true) d
 |.bl false=>b c d
 |_=>.bad
def Js:AV->S->R AV
 |.bl b,s=>.ok (.bl (!b)) s
 |_,_=>.bad
def Qi {rest:Á Expr}{m r:Ev}(h:PE X a (tE T XE m)) (k:PE X (.BoolOp .And (b::rest) pos) (tE T XE r)):PE X (.BoolOp .And (a::b::rest) pos) (tE T XE (FX m r)):=
 PE.imp (Q6 h k) λu H Q p=>ň p λt g s n j l=>step n j l λv o f A x _ q e i d c=>by
  have d:VR T f A v x:=d;cases v<;>try exact c.elim
  rename_i b _ _;refine⟨b,d.js,?_⟩;cases b with
  |true=>exact⟨f,g,o,e,i,c⟩
  |false=>exact c.ĸ e dh
def Ut {rest:Á Expr}{m r:Ev}(h:PE X a (tE T XE m)) (k:PE X (.BoolOp .Or (b::rest) pos) (tE T XE r)):PE X (.BoolOp .Or (a::b::rest) pos) (tE T XE (Wh m r)):=
 PE.imp (U2 h k) λu H Q p=>ň p λt g s n j l=>step n j l λv o f A x _ q e i d c=>by
  have d:VR T f A v x:=d;cases v<;>try exact c.elim
  rename_i b _ _;refine⟨b,d.js,?_⟩;cases b with
  |true=>exact c.ĸ e dh
  |false=>exact⟨f,g,o,e,i,c⟩
def Qv (h:PE X a (tE T XE m)):PE X (.UnaryOp .Not a pos) (tE T XE (az Js m)):=
 PE.imp (Rf h) λq H Q l=>ň l λp f s k i j=>step k i j λv n e A x _ o d g b c=>by
  have b:VR T e A v x:=b;cases v<;>try exact c.elim
  exact⟨_,b.js,c.ĸ d dh⟩
theorem Ĥ.ku (h:Ĥ T ρ H l xs)(e:ku l i=À v):∃x,L2.ku xs i=À x/\VR T ρ H v x:=by
 unfold L2.ku at *
 rw[<-h.length];cases a:Eg l.length i with
 |none=>rw[a]at e;cases e
 |some j=>rw[a]at e;exact h.get e
def ĝ:AV->AV->S->R AV
 |.tup xs,.int i,s=>need (ku xs i) λv=>.ok v s
 |.sq xs,.int i,s=>need (ku xs i) λv=>.ok v s
 |.ref k,.int i,s=>need (ë s k) λxs=>need (ku xs i) λv=>.ok v s
 |.str z,.int i,s=>if z.length<=sizeLine then need (ku z.cps.toList i) λc=>.ok (.str ⟨#[c]⟩) s else .bad
 |_,_,_=>.bad
def oIx (B:X.K=T.K):Sv X (wU T XE ĝ):=by
 rintro f d h s A H x y v u Q I q r ⟨D,a,b,st,m,t,w,g⟩ o;cases a<;>cases b<;>try exact g.elim
 ·obtain⟨hl,g⟩:=g.Ś;obtain⟨c,e,g⟩:=g.ô;exact P2 f d h s A H x y v u Q I q r ⟨_,_,c,t.str_inv,w.int_inv,hl,e,g.ĸ m iN⟩ o
 ·obtain⟨c,e,g⟩:=g.ô;obtain⟨p,n,rfl,j,k⟩:=t.ck;obtain⟨z,i,l⟩:=k.ku e;exact P4 f d h s A H _ y v u Q I q r ⟨p,n,_,z,rfl,w.int_inv,B▸j,i,g.ĸ m l⟩ o
 ·obtain⟨xs,C,g⟩:=g.ô;obtain⟨c,e,g⟩:=g.ô;obtain⟨p,n,rfl,_,j,k⟩:=m.dg (ü C) t;obtain⟨z,i,l⟩:=k.ku e;exact Eh f d h s A H _ y v u Q I q r ⟨p,n,_,z,rfl,w.int_inv,fC.of j,i,g.ĸ m l⟩ o
 ·obtain⟨c,e,g⟩:=g.ô;obtain⟨p,n,rfl,j,k⟩:=t.iL;obtain⟨z,i,l⟩:=k.ku e;exact Eh f d h s A H _ y v u Q I q r ⟨p,n,_,z,rfl,w.int_inv,B▸j.Gw,i,g.ĸ m l⟩ o
abbrev Eo:=En->S->R (Ð Int)
def rO:Rl (Ð Int) (Ð Int):=⟨λ_ _ _ a b=>a=b,λ_ h=>h⟩
abbrev tO (T:Tx)(XE:iQ)(m:Eo):TO:=tG T XE rO m
def oN:Eo:=λ_ s=>.ok none s
def oS (m:Ev):Eo:=λa s=>(m a s).bind λv b=>match v with
 |.int i=>.ok (À i) b
 |_=>.bad
def PO.imp (h:PO X e t)(k:∀b H Q,t' b H Q->t b H Q):PO X e t':=λa s b H Q I c=>h a s b H Q I (k b H Q c)
def JO:PO X none (tO T XE oN):=PO.imp Np λg H Q d=>ň d λe a s c f b=>b e H none .refl c rfl
def JP (h:PE X e (tE T XE m)):PO X (À e) (tO T XE (oS m)):=
 PO.imp (Nq h) λq H Q l=>ň l λp f s k i j=>step k i j λv n c A x _ o d g a b=>by
  have a:VR T c A v x:=a;cases v<;>try exact b.elim
  exact⟨_,a.int_inv,b c A (À _) .refl d rfl⟩
def iv {α:Type}(xs:Á α)(lo a:Ð Int):Á α:=(xs.drop (HT.dt xs.length 0 lo)).take (HT.dt xs.length xs.length a-HT.dt xs.length 0 lo)
theorem Ĥ.iv (h:Ĥ T ρ H l xs)(lo a:Ð Int):Ĥ T ρ H (iv l lo a) (vd xs lo a):=by
 unfold Mm.iv vd;rw[h.length];exact(h.drop _).take _
def sD (v:AV)(lo a:Ð Int)(s:S):R AV:=match v with
 |.tup xs=>.ok (.tup (iv xs lo a)) s
 |.ref i=>need (ë s i) λxs=>.ok (.ref s.length) (s++[.lst (iv xs lo a)])
 |.sq xs=>.ok (.ref s.length) (s++[.lst (iv xs lo a)])
 |_=>.bad
def rSM (T:Tx)(XE:iQ):V->Ð Int->Ð Int->Hp->VK->Prop:=λx lo b H Q=>∃a v s,SR T a s H/\VR T a H v x/\Out T XE (rV T) a H (sD v lo b s) Q
def LL (h:HT.dt xs.length 0 lo=0/\HT.dt xs.length xs.length a=xs.length):vd xs lo a=xs:=by
 unfold vd;rw[h.1,h.2,WG,Sj,List.take_length]
def oSl (w:X.K=T.K):S3 X (rSM T XE):=by
 rintro b s u H x v r t lo d n Q I m i j l ⟨z,a,st,f,o,e⟩;cases a<;>try exact e.elim
 ·obtain⟨p,h,rfl,g,k⟩:=o.ck;refine NK b s u H _ v r t lo d n Q I m i j l ⟨p,h,rfl,w▸g,λhw=>?_,λ_ q c=>e.tup f c (k.iv lo d)⟩;have:=k.iv lo d;rw[LL hw]at this;exact e.ĸ f (jK g this)
 ·obtain⟨xs,y,e⟩:=e.ô;obtain⟨p,h,rfl,_,g,k⟩:=f.dg (ü y) o;exact EL b s u H _ v r t lo d n Q I m i j l ⟨p,h,rfl,fC.of g,λq c=>e.alloc f c (OR.lst ă (Ĥ.gr ((f.dA c).add c).toGr (k.iv lo d)))⟩
 ·obtain⟨p,h,rfl,g,k⟩:=o.iL;exact EL b s u H _ v r t lo d n Q I m i j l ⟨p,h,rfl,w▸g.Gw,λq c=>e.alloc f c (OR.lst ă (Ĥ.gr ((f.dA c).add c).toGr (k.iv lo d)))⟩
def vG (m:Ev)(lo b:Eo):Ev:=λa s=>(m a s).bind λv c=>(lo a c).bind λl d=>(b a d).bind λh e=>sD v l h e
def Uu (w:X.K=T.K)(c:PE X e (tE T XE m)) (hl:PO X lo (tO T XE E)) (y:PO X z (tO T XE D)):PE X (.Subscript e (.Slice lo z none U) pos) (tE T XE (vG m E D)):=
 PE.imp (JH (oSl (XE:=XE) w) c hl y) λσ H Q J=>ň J λρ r s B c A=>
  step B c A λv Y L N x _ u1 i a n d=>step i a d λl Z M O C _ G j b p f=>step j b f λh F o P u _ I k t q g=>by
   cases (show l=C from p);cases (show h=u from q);exact⟨o,v,F,k,VR.up (G.trans I) n,g⟩
end
abbrev Ms:=En->S->RS
noncomputable def R.bj {α:Type}:R α->(α->S->RS)->RS
 |.ok a s,f=>f a s
 |.ex c s,_=>.ex c s
 |.bad,_=>.bad
@[simp] theorem fP (a:α) (s:S) (f:α->S->RS):(R.ok a s).bj f=f a s:=rfl
def fJ (T:Tx)(XE:iQ)(ρ:Á Addr)(H:Hp):RS->Ends->Prop
 |.nx e s,D=>∀a A b,Up ρ H a A->SR T a s A->ER T a A e b->D.nx b A
 |.rt v s,D=>∀a A x,Up ρ H a A->SR T a s A->VR T a A v x->D.rt x A
 |.bk e s,D=>∀a A b,Up ρ H a A->SR T a s A->ER T a A e b->D.bk b A
 |.ct e s,D=>∀a A b,Up ρ H a A->SR T a s A->ER T a A e b->D.ct b A
 |.ex c s,_=>∀a A,Up ρ H a A->SR T a s A->XE c a s A
 |.bad,_=>False
def fJ.up (u:Up ρ H g H')(h:fJ T XE ρ H r D):fJ T XE g H' r D:=by
 cases r with
 |nx e s=>exact λa A x d b f=>h a A x (u.trans d) b f
 |rt e s=>exact λa A x d b f=>h a A x (u.trans d) b f
 |bk e s=>exact λa A x d b f=>h a A x (u.trans d) b f
 |ct e s=>exact λa A x d b f=>h a A x (u.trans d) b f
 |ex c s=>exact λa A d b=>h a A (u.trans d) b
 |bad=>exact h
def tS (T:Tx)(XE:iQ)(m:Ms):TS:=λD c H=>∃b a s,SR T b s H/\ER T b H a c/\fJ T XE b H (m a s) D
section
variable {T:Tx}{XE:iQ}{X:Cx}{pos:kU}
def dz {f:Rl α n} 
  (i:SR T ρ s H) (d:ER T ρ H env g) (b:fJ T XE ρ H ((m env s).bj k) D)
  (h:∀v s1 a A x,m env s=.ok v s1->Up ρ H a A->SR T a s1 A->ER T a A env g->f.r H a A v x->fJ T XE a A (k v s1) D->F x A):tG T XE f m g H F:=by
 refine⟨ρ,env,s,i,d,?_⟩;cases e:m env s with
 |ok v s1=>
  rw[e]at b;exact λa A x u j l=>h v s1 a A x e u j (d.up u) l (fJ.up u b)
 |ex c s1=>rw[e]at b;exact b
 |bad=>rw[e]at b;exact b
def ı:Ms:=λa s=>.nx a s
def lD {m:Ms}{a:St}{H:Hp}{D:Ends}{P:Prop}(h:tS T XE m D a H)(k:∀ρ env s,SR T ρ s H->ER T ρ H env a->fJ T XE ρ H (m env s) D->P):P:=by
 obtain⟨ρ,env,s,d,b,c⟩:=h;exact k ρ env s d b c
def ā (a b:Ms):Ms:=λc s=>match a c s with
 |.nx e d=>b e d
 |r=>r
def MS:m8 X [] (tS T XE ı):=m8.imp Nv λD g H e=>lD e λf a s d b c=>c f H g .refl d b
def Jb {st:Stmt}{rest:Á Stmt}{a b:Ms}(j:PS X st (tS T XE a)) (k:m8 X rest (tS T XE b)):m8 X (st::rest) (tS T XE (ā a b)):=
 m8.imp (JU j k) λD q H o=>lD o λp d s m l c=>by
  refine⟨p,d,s,m,l,?_⟩;unfold ā at c;cases e:a d s with
  |nx h f=>rw[e]at c;exact λg A x u n i=>⟨g,h,f,n,i,fJ.up u c⟩
  |rt v f=>rw[e]at c;exact c
  |bk v f=>rw[e]at c;exact c
  |ct v f=>rw[e]at c;exact c
  |ex v f=>rw[e]at c;exact c
  |bad=>rw[e]at c;exact c
def MT (b:PS X st (tS T XE a)):m8 X [st] (tS T XE a):=Nw b
def Ŝ (m:Ev):Ms:=λa s=>(m a s).bj λ_ b=>.nx a b
def MP (h:PE X e (tE T XE m)) (c:eN e none pos.line X.env=pure false:=by rfl):PS X (.Expr e pos) (tS T XE (Ŝ m)):=
 PS.imp (Nt h c) λD n H l=>lD l λq g s c i j=>dz c i j λv o f A x _ p d a k b=>b f A n .refl d a
def Ķ (m:Ev):Ms:=λa s=>(m a s).bj λv b=>.rt v b
def QK (h:PE X e (tE T XE m)):PS X (.Return (À e) pos) (tS T XE (Ķ m)):=
 PS.imp (Rw h) λD q H l=>lD l λp f s k i j=>dz k i j λv n d A x _ o b g c a=>a d A x .refl b c
def fD (c:Eb)(a b:Ms):Ms:=λd s=>(c d s).bj λk e=>if k=true then a d e else b d e
def UD (n:PT X c (kO T XE i)) (l:m8 X a (tS T XE r)) (m:m8 X b (tS T XE t)):PS X (.If c a b pos) (tS T XE (fD i r t)):=
 PS.imp (U4 n l m) λD z H u=>lD u λy d s q o p=>dz q o p λv k h A x _ w g e j f=>by
  cases (show v=x from j);cases v with
  |true=>exact⟨h,d,k,g,e,f⟩
  |false=>exact⟨h,d,k,g,e,f⟩
def Ů (i:Nat)(m:Ev):Ms:=λa s=>(m a s).bj λv b=>.nx (a.set i (À v)) b
def G_ (h:tS T XE (Ů i m) D l H):NR (tE T XE m) (D9 i) D l H:=by
 obtain⟨p,f,s,k,g,j⟩:=h;exact dz k g j λv n e A x _ o c a d b=>b e A _ .refl c (a.set d)
def Ja (b:X.N.Nodup)(c:PE X e (tE T XE m)) (f:X.N[i]?=À x:=by rfl)(j:Loc X.env.scope x:=by first|exact BY rfl|exact GL rfl)(g:eN e (À (.Name x a)) pos.line X.env=pure false:=by rfl) (d:X.fn x=true∨X.env.scope.names.lookup x=À .local:=by first|exact .inl rfl|exact .inr rfl|assumption) :
  PS X (.Assign [.Name x a] e pos) (tS T XE (Ů i m)):=PS.imp (Rx b f j c g d) λD k H h=>G_ h
abbrev Mt:=AV->En->S->RS
abbrev O7:=Á AV->En->S->RS
def LZ (Q:St->Hp->Prop):Ends:={nx:=Q,rt:=λ_ _=>False}
def tT (T:Tx)(XE:iQ)(m:Mt):TG:=λx c H Q=>∃b a s v,SR T b s H/\ER T b H a c/\VR T b H v x/\fJ T XE b H (m v a s) (LZ Q)
def Wm (T:Tx)(XE:iQ)(m:O7):Sx:=λxs d H Q=>∃b a s c,SR T b s H/\ER T b H a d/\Ĥ T b H c xs/\fJ T XE b H (m c a s) (LZ Q)
def gN (i:Nat):Mt:=λv a s=>.nx (a.set i (À v)) s
def aY:O7:=λb a s=>match b with
 |[]=>.nx a s
 |_=>.bad
def ï (a:Mt)(r:O7):O7:=λd b s=>match d with
 |v::w=>match a v b s with
  |.nx e c=>r w e c
  |q=>q
 |_=>.bad
def gT (n:Nat)(r:O7):Mt:=λv a s=>match v with
 |.tup b=>if b.length=n then r b a s else .bad
 |_=>.bad
def MF (b:X.N.Nodup)(e:X.N[i]?=À x:=by rfl)(h:Loc X.env.scope x:=by first|exact BY rfl|exact GL rfl)(d:X.fn x=true∨X.env.scope.names.lookup x=À .local:=by first|exact .inl rfl|exact .inr rfl|assumption):PG X (.Name x pos) (tT T XE (gN i)):=
 PG.imp (Nf b e h d) λx l H Q ⟨k,a,s,v,g,c,j,f⟩=>f k H _ .refl g (c.set j)
def MI:DJ X [] (Wm T XE aY):=DJ.imp Ng λxs i H Q ⟨h,c,s,g,e,d,f,b⟩=>by
 cases g with
 |nil=>exact⟨f.nil_inv,b h H _ .refl e d⟩
 |cons a r=>exact b.elim
def IQ (l:PG X e (tT T XE a)) (m:DJ X i (Wm T XE r)) (j:(dP (e::i) X.env).map (·.2)=k9 e X.env::(dP i X.env).map (·.2):=by rfl):DJ X (e::i) (Wm T XE (ï a r)):=
 DJ.imp (JK l m j) λxs B H Q ⟨z,d,s,t,j,n,q,b⟩=>by
  cases t with
  |nil=>exact b.elim
  |cons v w=>
   obtain⟨x,y,rfl,o,p⟩:=q.cons_inv;refine⟨x,y,rfl,z,d,s,v,j,n,o,?_⟩;unfold ï at b;cases e:a v d s with
   |nx k g=>simp only[e]at b;exact λc A x u h f=>⟨c,k,g,w,h,f,p.up u,fJ.up u b⟩
   |rt v g=>simp only[e]at b;exact b
   |bk v g=>simp only[e]at b;exact λc A x u h f=>b c A x u h f
   |ct v g=>simp only[e]at b;exact λc A x u h f=>b c A x u h f
   |ex v g=>simp only[e]at b;exact b
   |bad=>simp only[e]at b;exact b
def QA (l:X.K=T.K)(m:X.calm=true)(h:DJ X e (Wm T XE r)) (p:(dP e X.env).length=n:=by rfl) (f:(dP e X.env).findIdx? (·.1)=none:=by rfl):PG X (.Tuple e k pos) (tT T XE (gT n r)):=
 PG.imp (Ri m h p f) λx w H Q ⟨i,d,s,v,q,o,t,c⟩=>by
  obtain⟨b,rfl⟩:∃b,v=.tup b:=by
   cases v with
   |tup b=>exact⟨b,rfl⟩
   |_=>exact c.elim
  obtain⟨a,u,rfl,j,g⟩:=t.ck;have c:fJ T XE i H (if b.length=n then r b d s else .bad) (LZ Q):=c;by_cases hl:b.length=n
  ·rw[Ë hl]at c;exact⟨a,u,rfl,l▸j,by rw[<-g.length];exact hl,i,d,s,b,q,o,g,c⟩
  ·rw[Ñ hl]at c;exact c.elim
def BF (m:Ev)(g:Mt):Ms:=λa s=>(m a s).bj λv b=>g v a b
def m7 (g:Mt):Prop:=∀v a s,(∃e b,g v a s=.nx e b)∨(∃c b,g v a s=.ex c b)∨g v a s=.bad
def uB (g:O7):Prop:=∀v a s,(∃e b,g v a s=.nx e b)∨(∃c b,g v a s=.ex c b)∨g v a s=.bad
def M0:m7 (gN i):=λv a s=>.inl ⟨_,_,rfl⟩
def QU:uB aY:=λv b s=>by
 cases v with
 |nil=>exact .inl ⟨_,_,rfl⟩
 |cons a r=>exact .inr (.inr rfl)
def MZ (h:m7 a)(k:uB r):uB (ï a r):=λv b s=>by
 cases v with
 |nil=>exact .inr (.inr rfl)
 |cons x w=>
  rcases h x b s with⟨e,c,q⟩|⟨e,c,q⟩|q
  ·have:ï a r (x::w) b s=r w e c:=by unfold ï;simp only[q]
   rw[this];exact k w e c
  ·have:ï a r (x::w) b s=.ex e c:=by unfold ï;simp only[q]
   exact .inr (.inl ⟨_,_,this⟩)
  ·have:ï a r (x::w) b s=.bad:=by unfold ï;simp only[q]
   exact .inr (.inr this)
def QV (k:uB r):m7 (gT n r):=λv a s=>by
 cases v<;>try exact .inr (.inr rfl)
 rename_i b;by_cases hl:b.length=n
 ·have:gT n r (.tup b) a s=r b a s:=Ë hl;rw[this];exact k b a s
 ·have:gT n r (.tup b) a s=.bad:=Ñ hl;exact .inr (.inr this)
def m7.out (k:m7 g)(h:fJ T XE ρ H (g v env s) D):fJ T XE ρ H (g v env s) (LZ D.nx):=by
 rcases k v env s with⟨e,a,q⟩|⟨e,a,q⟩|q<;>rw[q]at h⊢<;>exact h
def QF (d:PE X e (tE T XE m)) (o:PG X a (tT T XE g)) (h:m7 g)(i:jY [a] e pos.line X.env=pure false:=by rfl)(hw:jX [a] e X.env=pure none:=by rfl)
  (n:(dP [a] X.env).map (·.2)=[k9 a X.env]:=by rfl):PS X (.Assign [a] e pos) (tS T XE (BF m g)):=
 PS.imp (Rn d o i hw n) λD w H r=>lD r λu b s i d p=>dz i d p λv q l A x _ t j c k f=>⟨l,b,q,v,j,c,k,h.out f⟩
def mr (i j:Nat)(r:gh):Ms:=λa s=>(r a s).bj λc b=>match c with
 |[v,w]=>.nx ((a.set i (À v)).set j (À w)) b
 |_=>.bad
def QJ (u:X.calm=true)(q:X.N.Nodup)(t:PA X [a,b] (tP T XE r)) (B:X.N[i]?=À x:=by rfl)(C:X.N[j]?=À y:=by rfl)(h:i≠j:=by decide)
  (F:X.env.scope.names.lookup x=À .local:=by rfl) (G:X.env.scope.names.lookup y=À .local:=by rfl)
  (hw:jX [.Tuple [.Name x n,.Name y o] m pt] (.Tuple [a,b] k2 e) X.env=pure (À [x,y]):=by rfl)
  (k:jY [.Tuple [.Name x n,.Name y o] m pt] (.Tuple [a,b] k2 e) pos.line X.env=pure false:=by rfl) :
  PS X (.Assign [.Tuple [.Name x n,.Name y o] m pt] (.Tuple [a,b] k2 e) pos) (tS T XE (mr i j r)):=
 PS.imp (Rv u q B C h F G t hw k) λD Y H O=>lD O λU p s k z E=>dz k z E λv P f A x _ Q l g d c=>by
  have d:Ĥ T f A v x:=d
  match v,d,c with
  |[v,w],d,c=>
   obtain⟨x1,M,rfl,I,k2⟩:=d.cons_inv;obtain⟨x2,M,rfl,L,J⟩:=k2.cons_inv;cases J.nil_inv;exact⟨x1,x2,rfl,c f A _ .refl l ((g.set I).set L)⟩
  |[],_,c=>exact c.elim
  |[_],_,c=>exact c.elim
  |_::_::_::_,_,c=>exact c.elim
def ZY (T:Tx)(XE:iQ)(op:AV->AV->S->R AV):V6:=λx y H Q=>∃a v w s,SR T a s H/\VR T a H v x/\VR T a H w y/\Out T XE (rV T) a H (op v w s) Q
def Gg (i:Nat)(op:AV->AV->S->R AV)(m:Ev):Ms:=λa s=>match a[i]? with
 |some (À v)=>(m a s).bj λw b=>(op v w b).bj λz c=>.nx (a.set i (À z)) c
 |_=>.bad
def QG (E:X.N.Nodup)(b:V5 X o (ZY T XE op)) (d:PE X e (tE T XE m)) (G:X.N[i]?=À x:=by rfl)(J:Loc X.env.scope x:=by first|exact BY rfl|exact GL rfl)(F:X.fn x=true∨X.env.scope.names.lookup x=À .local:=by first|exact .inl rfl|exact .inr rfl|assumption) :
  PS X (.AugAssign (.Name x q) o e pos) (tS T XE (Gg i op m)):=
 PS.imp (Rq E G J d b F) λD U H O=>lD O λQ B s I d b=>by
  unfold Gg at b;split at b
  ·rename_i v C;obtain⟨x,u,k⟩:=d.get i v C;refine⟨x,u,dz I d b λw r n P y _ M g f j a=>⟨n,v,w,r,g,k.up M,j,?_⟩⟩;cases e:op v w r with
   |bad=>rw[e]at a;exact a
   |ex c L=>rw[e]at a;exact a
   |ok z L=>
    rw[e]at a;exact λp A x2 t h l=>a p A _ t h ((f.up t).set l)
  ·exact b.elim
def vR:AV->AV->S->R AV
 |.int i,.int j,s=>.ok (.int (i+j)) s
 |_,_,_=>.bad
def Xt:V5 X .Add (ZY T XE vR):=by
 rintro c s j H x y v u Q I e f ⟨k,a,b,st,g,h,i,d⟩;cases a<;>cases b<;>try exact d.elim
 exact P0 c s j H x y v u Q I e f ⟨_,_,h.int_inv,i.int_inv,d.ĸ g cN⟩
def Lm (c:Eb)(b:Ms):Nat->En->S->RS
 |0,_,_=>.bad
 |n+1,a,s=>(c a s).bj λk f=>if k=true then (match b a f with
   |.nx e d=>Lm c b n e d
   |.ct e d=>Lm c b n e d
   |.bk e d=>.nx e d
   |r=>r)else .nx a f
def NI (f:En->S->Nat)(c:Eb)(b:Ms):Ms:=λa s=>Lm c b (f a s) a s
def QN (f:En->S->Nat)(N:Ak (à X.prog X.w) X.A X.env X.xe) (M:PT X c (kO T XE i)) (L:m8 X body (tS T XE y)):PS X (.While c body [] pos) (tS T XE (NI f i y)):=
 PS.imp (JT N M L) λD z H O=>lD O λg b s F E m=>by
  refine⟨λn z H=>∃g b s,SR T g s H/\ER T g H b z/\fJ T XE g H (Lm i y n b s) D,⟨f b s,g,b,s,F,E,m⟩,?_⟩;rintro n z H ⟨g,b,s,F,E,m⟩;cases n with
  |zero=>exact m.elim
  |succ n=>
   unfold Lm at m;refine dz F E m λv I q J x _ P p l G a=>?_;cases (show v=x from G);cases v with
   |false=>exact a q J z .refl p l
   |true=>
    refine⟨λr B=>∃g b s,SR T g s B/\ER T g B b r/\fJ T XE g B (Lm i y n b s) D,λr B h=>⟨n,fc n,h⟩,q,b,I,p,l,?_⟩;simp only[Ë]at a;cases e:y b I with
    |nx t j=>simp only[e]at a;exact λd C x u o k=>⟨d,t,j,o,k,fJ.up u a⟩
    |ct t j=>simp only[e]at a;exact λd C x u o k=>⟨d,t,j,o,k,fJ.up u a⟩
    |bk t j=>simp only[e]at a;exact λd C x u o k=>a d C x u o k
    |rt v j=>simp only[e]at a;exact a
    |ex v j=>simp only[e]at a;exact a
    |bad=>simp only[e]at a;exact a
end
end Mm
namespace L2
open PySem PySem.Spec PyProof.Rows
def Rj (hl:PE X l tl):PI X t l (λj H R=>tl j H λx B=>∃a,x=.ref a/\(((∃xs,fC X.K B a xs)/\R (Ss X.K a) B)∨((∃xs,gq X.K B a xs)/\R (S1 X.K a) B))):=by
 intro f s j H R I h;refine aq (hl f s j H _ I h) λv c r=>iR r λx B A n m=>?_;obtain⟨a,e,q⟩:=m;subst e;cases n;rcases q with⟨⟨xs,i⟩,q⟩|⟨⟨xs,i⟩,q⟩
 ·obtain⟨d,rv,p,k⟩:=A.list i;refine yK p.isList ?_;refine⟨c.heap.objs.size,[c.heap.objs.size],_,_,B,rfl,A.kept (t':=c.toks) λb o e=>Ä _ e,yq a _,⟨_,Ù _ rfl,rfl,rfl⟩,λb g=>?_,q⟩;have e:b=c.heap.objs.size:=by simpa using g
  subst e;exact A.A3 (Î _) (A.ť.fresh (Î _))
 ·obtain⟨d,rv,p,k⟩:=A.tuple i;refine w8 (show c.heap.IsTuple a d.toArray from p) ?_;refine⟨c.heap.objs.size,[c.heap.objs.size],_,_,B,rfl,A.kept (t':=c.toks) λb o e=>Ä _ e,Dw a _,⟨_,Ù _ rfl,rfl,rfl⟩,λb g=>?_,q⟩;have e:b=c.heap.objs.size:=by simpa using g
  subst e;exact A.A3 (Î _) (A.ť.fresh (Î _))
end L2
namespace Mm
open PySem L2
def Up.mod (u:Up ρ H a H')(h:H D=none)(n:D∉a):Up ρ H a (upd H' D o):=
 ⟨⟨u.pre,λb xs e=>by rw[ç (Ŋ e h)];exact u.lE b xs e,λb p v e=>by rw[ç (Ŋ e h)];exact u.jx b p v e⟩,λb p e k=>⟨by rw[ç (Ŋ e h)];exact(u.fr b p e k).1,(u.fr b p e k).2⟩,λb e=>by
  by_cases c:b=D
  ·rw[c];exact h
  ·rw[ç c]at e;exact u.live b e⟩
def Xi (h:H D=À (.lst xs)):Gr ρ H ρ (upd H D o):=
 ⟨a_,λb a e=>by rw[ç (vJ e h (by intro z;cases z))];exact e,λb p v e=>by rw[ç (vJ e h (by intro z;cases z))];exact e⟩
theorem ER.gr (h:ER T ρ H env c)(u:Gr ρ H a H'):ER T a H' env c:=
 ⟨h.len,λi v e=>let ⟨x,b,q⟩:=h.get i v e;⟨x,b,q.gr u⟩⟩
abbrev Gd:=Á (Nat×Á AV)
def wR (gs:Gd)(s:S):Prop:=∀p∈gs,ë s p.1=À p.2
def D_ (i:Nat)(xs:Á AV)(s:S):wR [(i,xs)] s ↔ ë s i=À xs:=by simp[wR]
structure Walks (T:Tx)(ρ:Á Addr)(H:Hp)(xs:Á AV)(gs:Gd)(J:It):Prop where
 turn:∀pW s' H',Up ρ H pW H'->SR T pW s' H'->wR gs s'->(∀j v,xs[j]?=À v->J.go j H'/\∀x H'',J.Ln j H' x H''->Up pW H' pW H''/\SR T pW s' H''/\VR T pW H'' v x)/\J.stop xs.length H'
abbrev Src:=En->S->R (Á AV×Gd)
def rW (T:Tx):Rl (Á AV×Gd) It:=⟨λ_ a H p J=>Walks T a H p.1 p.2 J,λ_ h=>h⟩
abbrev tW (T:Tx)(XE:iQ)(m:Src):TI:=tG T XE (rW T) m
section
variable {T:Tx}{XE:iQ}{X:Cx}{pos:kU}
def sM (h:H' a=À (.lst vs)∨Li K H' a vs) (l:SR T b s' H')(k:Ĥ T b H' xs vs) :
  (∀j v,xs[j]?=À v->(Ss K a).go j H'/\∀x A,(Ss K a).Ln j H' x A->Up b H' b A/\SR T b s' A/\VR T b A v x)/\(Ss K a).stop xs.length H':=by
 have c:fC K H' a vs:=by rcases h with h|h;exact fC.of h;exact h.Gw
 refine⟨λj v e=>?_,⟨vs,c,by rw[k.length];exact Î _⟩⟩;obtain⟨x,d,i⟩:=k.get e;refine⟨⟨vs,x,c,d⟩,λy A ⟨f,g⟩=>?_⟩;subst f;have:=g vs c;rw[d]at this;cases this;exact⟨.refl,l,i⟩
def Kr (c:gq K H' a vs)(i:SR T b s' H')(k:Ĥ T b H' xs vs) :
  (∀j v,xs[j]?=À v->(S1 K a).go j H'/\∀x A,(S1 K a).Ln j H' x A->Up b H' b A/\SR T b s' A/\VR T b A v x)/\(S1 K a).stop xs.length H':=by
 refine⟨λj v e=>?_,⟨vs,c,by rw[k.length];exact Î _⟩⟩;obtain⟨x,d,h⟩:=k.get e;refine⟨⟨vs,x,c,d⟩,λy A ⟨f,g⟩=>?_⟩;subst f;have:=g vs c;rw[d]at this;cases this;exact⟨.refl,i,h⟩
def xy (r:gh):Src:=λa s=>(r a s).bind λxs b=>.ok (xs,[]) b
def XG (n:X.K=T.K)(h:PE X e (tL T XE r)):PI X D e (tW T XE (xy r)):=
 PI.imp (Nj h) λE H R w=>ň w λy d s p o b=>by
  refine⟨y,d,s,p,o,?_⟩;unfold xy at b;cases e:r d s with
  |bad=>rw[e]at b;exact b
  |ex c q=>rw[e]at b;exact b
  |ok xs q=>
   rw[e]at b;rintro g A x u t ⟨a,v,l,C,m,i,k⟩;subst l;refine⟨a,rfl,⟨v,fC.of i⟩,b g A _ u t ⟨λz s' B j f _=>?_⟩⟩;rw[n];exact sM (.inl (j.fr a _ i m).1) f (k.up j)
def eV (m:Ev):Src:=λb s=>(m b s).bind λv a=>match v with
 |.tup xs=>.ok (xs,[]) a
 |.sq xs=>.ok (xs,[]) a
 |.ref i=>need (ë a i) λxs=>.ok (xs,[(i,xs)]) a
 |_=>.bad
def XH (r:X.K=T.K)(h:PE X e (tE T XE m)):PI X M e (tW T XE (eV m)):=
 PI.imp (Rj h) λQ H R I=>ň I λP y s F D E=>step F D E λv L l A x _ N j z f c=>by
  have f:VR T l A v x:=f;cases v with
  |tup xs=>
   obtain⟨a,p,rfl,n,k⟩:=f.ck;refine⟨a,rfl,.inr ⟨⟨p,r▸n⟩,c l A _ .refl j ⟨λq s' B o d _=>?_⟩⟩⟩;rw[r];exact Kr (o.RW n) d (k.up o)
  |sq xs=>
   obtain⟨a,p,rfl,n,k⟩:=f.iL;refine⟨a,rfl,.inl ⟨⟨p,r▸n.Gw⟩,c l A _ .refl j ⟨λq s' B o d _=>?_⟩⟩⟩;rw[r];exact sM (.inr (o.Vf n)) d (k.up o)
  |ref i=>
   obtain⟨xs,t,c⟩:=c.ô;obtain⟨a,p,rfl,J,n,k⟩:=j.dg (ü t) f;refine⟨a,rfl,.inl ⟨⟨p,fC.of n⟩,c l A _ .refl j ⟨λq s' B o d g=>?_⟩⟩⟩;have u:=(D_ i xs s').mp g;obtain⟨b,O,w,_,C,G⟩:=d.dg (ü u) (VR.up o f);cases w;exact sM (.inl C) d G
  |Ğ=>exact c.elim
  |bl b=>exact c.elim
  |int b=>exact c.elim
  |str b=>exact c.elim
def pP (lo:Int)(n:Nat):Á AV:=(ø n).map λ(i:Nat)=>AV.int (lo+i)
def Kq (f:SR T a s' H') :
  (∀j v,(pP lo n)[j]?=À v->(Su lo n).go j H'/\∀x A,(Su lo n).Ln j H' x A->Up a H' a A/\SR T a s' A/\VR T a A v x)/\(Su lo n).stop (pP lo n).length H':=by
 have hl:(pP lo n).length=n:=by simp[pP]
 refine⟨λj v e=>?_,by rw[hl];exact Î _⟩;have b:j<n:=by have:=(Ç.mp e).1;rw[hl]at this;exact this
 refine⟨b,λy A ⟨c,d⟩=>?_⟩;subst c d;have:(pP lo n)[j]?=À (.int (lo+j)):=by simp[pP,b]
 rw[this]at e;cases e;exact⟨.refl,f,cN⟩
def zL (r:gh):Src:=λa s=>(r a s).bind λc b=>match c with
 |[.int j]=>if -(2^62)<=j/\j<2^62 then .ok (pP 0 j.toNat,[]) b else .bad
 |[.int i,.int j]=>if -(2^62)<=i/\i<2^62/\-(2^62)<=j/\j<2^62 then .ok (pP i (j-i).toNat,[]) b else .bad
 |_=>.bad
def UB (z:X.mg "range"=none)(r:PE X a (tE T XE m)) (u:Gl X "range":=by rfl)(g:Ï [a] X.env=[(false,Ė a X.env)]:=by rfl):PI X L (.Call (.Name "range" p) [a] [] pos) (tW T XE (zL (Ã m Ø))):=
 PI.imp (Ga u z (Bv r EB g) g) λQ H R F=>ň F λP i s g t B=>step g t B λv J f A x e N l n d b=>by
  have d:Ĥ T f A v x:=d;obtain⟨w,rfl⟩:∃w,v=[w]:=by
   unfold Ã Ø at e;cases h:m i s with
   |ok w E=>rw[h]at e;cases e;exact⟨w,rfl⟩
   |ex c E=>rw[h]at e;cases e
   |bad=>rw[h]at e;cases e
  obtain⟨y,O,rfl,C,D⟩:=d.cons_inv;cases D.nil_inv;cases w with
  |int j=>
   obtain⟨⟨o,q⟩,b⟩:=b.Ś;cases C.int_inv;exact⟨j,rfl,o,q,b f A _ .refl l ⟨λG s' I M k _=>Kq k⟩⟩
  |_=>exact b.elim
def forL (tgt:Mt)(body:Ms)(gs:Gd):Á AV->En->S->RS
 |[],a,s=>open Classical in if wR gs s then .nx a s else .bad
 |v::r,a,s=>open Classical in if wR gs s then (match tgt v a s with
   |.nx f e=>(match body f e with
    |.nx b d=>forL tgt body gs r b d
    |.ct b d=>forL tgt body gs r b d
    |.bk b d=>.nx b d
    |q=>q)
   |.ex c e=>.ex c e
   |_=>.bad)else .bad
def v7 (b:Src)(tgt:Mt)(body:Ms):Ms:=λa s=>(b a s).bj λp c=>forL tgt body p.2 p.1 a c
def fJ.Ś {ρ:Á Addr}{c:Prop}{_:ś c}{r:RS}{D:Ends}(h:fJ T XE ρ H (if c then r else .bad) D):c/\fJ T XE ρ H r D:=by
 by_cases a:c
 ·rw[Ë a]at h;exact⟨a,h⟩
 ·rw[Ñ a]at h;exact h.elim
def QI (hp:Ak (à X.prog X.w) X.A X.env X.xe) (hc:X.calm=true)(hi:PI X tg o (tW T XE src)) (hg:PG X tg (tT T XE tgt)) (hb:m8 X body (tS T XE P))
  (hs:∀x,e_ o X.env x=pure x:=by intro _;rfl):PS X (.For tg o body [] pos) (tS T XE (v7 src tgt P)):=
 PS.imp (Ru hp hc hi hg hb hs) λD σ H zz=>lD zz λρ Z s hs he ho=>dz hs he ho λp L k N J _ u1 sr1 Xe Q ho1=>by
  obtain⟨xs,gs⟩:=p;have Q:Walks T k N xs gs J:=Q;refine⟨λi m y B=>m=xs.length-i/\i<=xs.length/\∃b d s',Up k N b B/\SR T b s' B/\ER T b B d y/\fJ T XE b B (forL tgt P gs (xs.drop i) d s') D,⟨_,rfl,ÿ _,k,Z,L,.refl,sr1,Xe,ho1⟩,?_⟩;rintro i m y B ⟨rfl,hi,b,d,s',u',t,I,a⟩;by_cases r:i<xs.length
  ·rw[Ag r]at a;unfold forL at a;obtain⟨q,a⟩:=a.Ś;obtain⟨w1,w2⟩:=(Q.turn b s' B u' t q).1 i xs[i] (Å r);refine .inr ⟨w1,λz C=>∃f n g,Up k N f C/\SR T f g C/\ER T f C n z/\fJ T XE f C (forL tgt P gs (xs.drop (i+1)) n g) D,λz C h2=>⟨xs.length-(i+1),by lia,rfl,r,h2⟩,λx U hy=>?_⟩;obtain⟨y1,y2,y3⟩:=w2 x U hy;refine⟨b,d,s',xs[i],y2,I.up y1,y3,?_⟩;have a:=fJ.up y1 a;cases G:tgt xs[i] d s' with
   |nx e1 L=>
    simp only[G]at a;refine λf C z u2 RX Zw=>⟨f,e1,L,RX,Zw,?_⟩
    have a:=fJ.up u2 a;have M:Up k N f C:=(u'.trans y1).trans u2;cases F:P e1 L with
    |nx O g=>simp only[F]at a;exact λl Y E u j h=>⟨l,O,g,M.trans u,j,h,fJ.up u a⟩
    |ct O g=>simp only[F]at a;exact λl Y E u j h=>⟨l,O,g,M.trans u,j,h,fJ.up u a⟩
    |bk O g=>simp only[F]at a;exact λl Y E u j h=>a l Y E u j h
    |rt v g=>simp only[F]at a;exact a
    |ex v g=>simp only[F]at a;exact a
    |bad=>simp only[F]at a;exact a
   |ex c L=>simp only[G]at a;exact a
   |rt v g=>simp only[G]at a;exact a.elim
   |bk v g=>simp only[G]at a;exact a.elim
   |ct v g=>simp only[G]at a;exact a.elim
   |bad=>simp only[G]at a;exact a.elim
  ·have e:i=xs.length:=by lia
   subst e;rw[N9]at a;unfold forL at a;obtain⟨q,a⟩:=a.Ś;exact .inl ⟨(Q.turn b s' B u' t q).2,a b B y .refl t I⟩
abbrev Lc:=Á (Str×Ð Nat)
def BJ (l:Lc)(env:En):En:=l.map λp=>p.2.bind λj=>(env[j]?).join
def ER.src (h:ER T ρ H env c)(l:Lc):ER T ρ H (BJ l env) (Dm l c):=by
 refine⟨by simp[BJ,Dm],λi v e=>?_⟩;unfold BJ at e;unfold Dm;rw[é]at e⊢;cases b:l[i]? with
 |none=>rw[b]at e;cases e
 |some p=>
  rw[b]at e;obtain⟨n,o⟩:=p;cases o with
  |none=>cases e
  |some j=>
   have e:À ((env[j]?).join)=À (À v):=e;have d:env[j]?=À (À v):=by
    cases a:env[j]? with
    |none=>rw[a]at e;cases e
    |some q=>rw[a]at e;cases e;rfl
   obtain⟨x,f,k⟩:=h.get j v d;exact⟨x,by show À ((c[j]?).join)=_;rw[f];rfl,k⟩
def GQ:iQ:=λ_ _ _ _=>False
def R.calm {α:Type}:R α->R α
 |.ex _ _=>.bad
 |r=>r
@[simp] theorem DQ (a:α) (s:S):(R.ok a s).calm=.ok a s:=rfl
@[simp] theorem AH:(R.bad:R α).calm=.bad:=rfl
def iu:Eb:=λ_ s=>.ok true s
def au (tgt:Mt)(a:Eb)(elt:Ev)(gs:Gd):Á AV->En->S->Á AV->R (Á AV)
 |[],d,s,c=>open Classical in if wR gs s then .ok c s else .bad
 |v::r,d,s,c=>open Classical in if wR gs s then (match tgt v d s with
   |.nx e g=>(a e g).calm.bind λb f=>if b=true then (elt e f).calm.bind λx h=>au tgt a elt gs r e h (c++[x])else au tgt a elt gs r e f c
   |_=>.bad)else .bad
def ak (l:Lc)(c:Src)(tgt:Mt)(b:Eb)(elt:Ev):gh:=λa s=>(c a s).bind λp d=>if p.1.length<=sizeLine then au tgt b elt p.2 p.1 (BJ l a) d []else .bad
def JM:Lg X [] (kO T XE iu):=λa s e H Q I ⟨g,b,st,d,f,c⟩=>Nl a s e H Q I (xT c d)
def JN (h:PT X c (kO T XE m)):Lg X [c] (kO T XE m):=Nm h
def DU (h:tL T XE (ak l src tgt n elt) σ H Q):Ke l (tW T XE src) (tT T GQ tgt) (kO T GQ n) (tE T GQ elt) σ H Q:=by
 obtain⟨ρ,B,s,hs,he,u⟩:=h;refine⟨ρ,B,s,hs,he,?_⟩;unfold ak at u;cases e:src B s with
 |bad=>rw[e]at u;exact u
 |ex c s1=>rw[e]at u;exact u
 |ok p s1=>
  rw[e]at u;obtain⟨xs,gs⟩:=p;obtain⟨y,u⟩:=u.Ś;have y:xs.length<=sizeLine:=y;intro o H1 J u1 w wk D M;have wk:Walks T o H1 xs gs J:=wk;have nD:D∉o:=w.out M;refine⟨λi m O Wt A=>m=xs.length-i/\i<=xs.length/\O.length<=i/\∃f g s' j,Up o H1 f A/\SR T f s' A/\ER T f A g Wt/\A D=À (.lst O)/\D∉f/\Ĥ T f A j O/\Out T XE (rL T) ρ H (au tgt n elt gs (xs.drop i) g s' j) Q,
   ⟨_,rfl,ÿ _,Î _,o,BJ l B,s1,[],w.dA M,w.new M,((he.up u1).up (w.dA M)).src l,ă,nD,.nil,u⟩,?_⟩
  rintro i m O Wt A ⟨rfl,hi,hy,f,g,s',j,u',E,er',hd,Z,ka,d⟩;by_cases t:i<xs.length
  ·rw[Ag t]at d;unfold au at d;obtain⟨C,d⟩:=d.Ś;obtain⟨w1,w2⟩:=(wk.turn f s' A u' E C).1 i xs[i] (Å t);refine .inr ⟨w1,λx H'' hy'=>?_⟩;obtain⟨y1,y2,y3⟩:=w2 x H'' hy';refine⟨f,g,s',xs[i],y2,er'.up y1,y3,?_⟩;have P:=y1.fr D _ hd Z;have ka1:=ka.up y1;cases L:tgt xs[i] g s' with
   |nx I s2=>
    simp only[L]at d;refine λWs H2 Wv u2 RX q=>⟨Ws,I,s2,RX,q,?_⟩
    have U:=u2.fr D _ P.1 P.2;have ka2:=ka1.up u2;cases eb:n I s2 with
    |bad=>simp only[eb,AH,qq]at d;exact d.elim
    |ex c s3=>simp only[eb,R.calm,qq]at d;exact d.elim
    |ok b s3=>
     simp only[eb,DQ,ñ]at d;intro F H3 b' N Z0 eb';cases (show b=b' from eb');have r:=N.fr D _ U.1 U.2;have Y:=ka2.up N;have Z3:Up o H1 F H3:=((u'.trans y1).trans u2).trans N;cases b with
     |false=>
      rw[Ñ (by decide)]at d⊢;exact⟨xs.length-(i+1),by lia,rfl,t,by lia,F,I,s3,j,Z3,Z0,q.up N,r.1,r.2,Y,d⟩
     |true=>
      rw[Ë rfl]at d⊢;refine⟨F,I,s3,Z0,q.up N,?_⟩;cases ev:elt I s3 with
      |bad=>simp only[ev,AH,qq]at d;exact d.elim
      |ex c s4=>simp only[ev,R.calm,qq]at d;exact d.elim
      |ok v s4=>
       simp only[ev,DQ,ñ]at d;intro G H4 x4 u4 sr4 vr4;have k:=u4.fr D _ r.1 r.2;have ka4:=Y.up u4;have g5:Gr G H4 G (upd H4 D (.lst (O++[x4]))):=Xi k.1;refine⟨k.1,by lia,xs.length-(i+1),by lia,rfl,t,by rw[Ă];exact OX hy,G,I,s4,j++[v],(Z3.trans u4).mod M k.2,sr4.up g5 λa ha=>ç λz=>k.2 (z▸ha),((q.up N).up u4).gr g5,ă,k.2,(ka4.append (.one vr4)).gr g5,d⟩
   |ex c s1=>simp only[L]at d;exact d.elim
   |rt v s2=>simp only[L]at d;exact d.elim
   |bk v s2=>simp only[L]at d;exact d.elim
   |ct v s2=>simp only[L]at d;exact d.elim
   |bad=>simp only[L]at d;exact d.elim
  ·have e:i=xs.length:=by lia
   subst e;rw[N9]at d;unfold au at d;obtain⟨C,d⟩:=d.Ś;exact .inl ⟨(wk.turn f s' A u' E C).2,d f A (.ref D) (u1.trans u') E ⟨D,O,rfl,u1.live D M,Z,hd,ka⟩⟩
def ML (l:Lc)(f:fw X scope l)(b:X.calm=true)(n:PI X j a (tW T XE i))
  (m:∀cl C c d A,PG (aw X l scope cl C c d A) j (tT T GQ tgt)) (p:∀cl C c d A,Lg (aw X l scope cl C c d A) g (kO T GQ e)) (k:∀cl C c d A,PE (aw X l scope cl C c d A) elt (tE T GQ q))
  (o:∀x,e_ a X.env x=pure x:=by intro _;rfl):PE X (.ListComp elt [⟨j,a,g,0⟩] scope pos) (tL T XE (ak l i tgt e q)):=
 PE.imp (Na l f b n m p k o) λ_ _ _ h=>DU h
def QP (h:tE T XE (Ĝ r) v H Q):tL T XE r v H Q:=by
 obtain⟨t,f,s,p,o,b⟩:=h;refine⟨t,f,s,p,o,?_⟩;unfold Ĝ at b;cases e:r f s with
 |bad=>rw[e]at b;exact b
 |ex c q=>rw[e]at b;exact b
 |ok w q=>
  rw[e]at b;rintro d A x u i ⟨a,y,j,l,m,n,k⟩;subst j;have g:Gr d A (d++[a]) A:=⟨f7 _ _,λ_ _ z=>z,λ_ _ _ z=>z⟩
  refine b (d++[a]) A (.ref a) (u.add l) (i.add m (OR.lst n (k.gr g))) (pT (T:=T) (H:=A) ?_);rw[á (by rw[i.len];exact Î _),i.len,uT];rfl
def CV (l:Lc)(j:fw X scope l)(b:X.calm=true)(o:X.N.Nodup)(r:PI X n a (tW T XE m))
  (q:∀cl C c e A,PG (aw X l scope cl C c e A) n (tT T GQ tgt)) (t:∀cl C c e A,Lg (aw X l scope cl C c e A) d (kO T GQ g)) (p:∀cl C c e A,PE (aw X l scope cl C c e A) elt (tE T GQ w))
  (v:X.N[i]?=À y:=by rfl) (u:X.env.scope.names.lookup y=À .local:=by rfl)
  (k:eN (.ListComp elt [⟨n,a,d,0⟩] scope pos) (À (.Name y z)) f.line X.env=pure true:=by rfl)
  (s:∀x,e_ a X.env x=pure x:=by intro _;rfl) :
  PS X (.Assign [.Name y z] (.ListComp elt [⟨n,a,d,0⟩] scope pos) f) (tS T XE (Ů i (Ĝ (ak l m tgt g w)))):=
 PS.imp (C_ l j b o v u r q t p k s) λD B H h=>DU (QP (G_ h))
noncomputable def dq (n:Nat)(body:Ms):Á AV->S->R AV:=λa s=>match body (a.map À++Ö (n-a.length) none) s with
 |.rt v b=>.ok v b
 |.nx _ b=>.ok .Ğ b
 |.ex c b=>.ex c b
 |_=>.bad
def AY (N:Á Str)(k:Ĥ T ρ H args vs):ER T ρ H (args.map À++Ö (N.length-args.length) none) (L2.start N vs):=by
 refine⟨by simp[L2.start,k.length],λi v e=>?_⟩;unfold L2.start;have a:i<args.length:=by
  by_cases a:i<args.length
  ·exact a
  ·rw[á (by simpa using a),mY]at e;split at e<;>cases e
 rw[Ý (by simpa using a),é]at e;cases b:args[i]? with
 |none=>rw[b]at e;cases e
 |some w=>
  rw[b]at e;cases e;obtain⟨x,c,q⟩:=k.get b;exact⟨x,by rw[Ý (by simpa[<-k.length]using a),é,c];rfl,q⟩
def ó (n:Nat)(F:Á AV->S->R AV)(r:gh):Ev:=λa s=>(r a s).bind λb c=>if b.length=n then F b c else .bad
end
end Mm
namespace Ro
open PySem L2
def zf (top a:Int):Int:=if a<0 then -((Ţ top a:Nat):Int)else ((Ţ top a:Nat):Int)
def fr (top a:Int):Int×Int:=(top.fdiv (zf top a),a.fdiv (zf top a))
def uG (h:b≠0):0<Ţ t b:=Int.gcd_pos_of_ne_zero_right t h
def CG (t b:Int):(zf t b).natAbs=Ţ t b:=by
 unfold zf;split<;>lia
def FG (t b:Int):zf t b ∣ t:=by
 unfold zf;split
 ·exact(YH).mpr (wV ..)
 ·exact wV ..
def FH (t b:Int):zf t b ∣ b:=by
 unfold zf;split
 ·exact(YH).mpr (uQ ..)
 ·exact uQ ..
def tf {a g:Int}(h:g ∣ a):a.fdiv g*g=a:=Int.fdiv_mul_cancel h
def HK (h:y ∣ x*v)(b:Ţ x y=1):y ∣ v:=by
 have a:y.natAbs ∣ x.natAbs*v.natAbs:=by rw[<-SH];exact GI.mpr h
 have c:Nat.Coprime y.natAbs x.natAbs:=by
  show Nat.gcd y.natAbs x.natAbs=1;rw[Nat.gcd_comm];exact b
 exact GI.mp (c.dvd_of_dvd_mul_left a)
def Tv (t b:Int):(fr t b).1*zf t b=t:=tf (FG t b)
def PQ (t b:Int):(fr t b).2*zf t b=b:=tf (FH t b)
def HX (t b:Int)(h:b≠0):(fr t b).1*b=t*(fr t b).2:=by
 have a:=Tv t b;have c:=PQ t b;generalize (fr t b).1=x at *
 generalize (fr t b).2=y at *
 generalize zf t b=g at *
 subst a;rw[<-c];rw[ou y g,<-Int.mul_assoc,k7]
def PN (t b:Int)(h:b≠0):1<=(fr t b).2:=by
 have f:=PQ t b;have i:=uG (t:=t) h;have d:(zf t b<0/\b<0)∨(0<zf t b/\0<b):=by
  unfold zf;split
  ·left;lia
  ·right;lia
 generalize (fr t b).2=y at *
 generalize zf t b=g at *
 rcases d with⟨a,c⟩|⟨a,c⟩
 ·refine Z8.mp λe=>?_;have:0<=y*g:=Int.mul_nonneg_of_nonpos_of_nonpos (by lia) (by lia);lia
 ·refine Z8.mp λe=>?_;have:y*g<=0:=Int.mul_nonpos_of_nonpos_of_nonneg (by lia) (by lia);lia
def PM (t b:Int)(h:b≠0):Ţ (fr t b).1 (fr t b).2=1:=by
 have a:=Tv t b;have c:=PQ t b;have d:=uG (t:=t) h;have f:=CG t b;have e:Ţ ((fr t b).1*zf t b) ((fr t b).2*zf t b)=Ţ (fr t b).1 (fr t b).2*(zf t b).natAbs:=Int.gcd_mul_right ..;rw[a,c,f]at e;have:1*Ţ t b=Ţ (fr t b).1 (fr t b).2*Ţ t b:=by rw[Nat.one_mul];exact e
 exact(Nat.eq_of_mul_eq_mul_right d this).symm
def L7 (a:b≠0)(n:1<=y)(h:Ţ x y=1)(i:x*b=t*y):fr t b=(x,y):=by
 have o:=PN t b a;have l:=PM t b a;have m:=HX t b a;have e:x*(fr t b).2=(fr t b).1*y:=by
  refine Af a ?_;have d:x*(fr t b).2*b=x*b*(fr t b).2:=k7 ..;have f:(fr t b).1*y*b=(fr t b).1*b*y:=k7 ..;rw[d,f,i,m,k7]
 generalize j:(fr t b).1=u at *
 generalize k:(fr t b).2=v at *
 have d1:y ∣ v:=by
  have:y ∣ x*v:=⟨u,by rw[e,ou]⟩
  exact HK this h
 have d2:v ∣ y:=by
  have:v ∣ u*y:=⟨x,by rw[<-e,ou]⟩
  exact HK this l
 have c:v=y:=Int.dvd_antisymm (by lia) (by lia) d2 d1;have g:u=x:=by
  rw[c]at e;exact(Af (by lia) e).symm
 rw[show fr t b=(u,v)from by rw[<-j,<-k],g,c]
def low (top a:Int):Int×Int:=
 (((if a<0 then -1 else 1)*top).fdiv ((Ţ top a:Nat):Int),((if a<0 then -1 else 1)*a).fdiv ((Ţ top a:Nat):Int))
def Qb (t b:Int)(g:b≠0):low t b=fr t b:=by
 unfold low fr zf;by_cases h:b<0
 ·rw[Ë h,Ë h];have j:=uG (t:=t) g;have d:∀a:Int,((Ţ t b:Nat):Int) ∣ a->(-1*a).fdiv ((Ţ t b:Nat):Int)=a.fdiv (-((Ţ t b:Nat):Int)):=by
   rintro a ⟨c,i⟩;rw[i];have e:(-1*(((Ţ t b:Nat):Int)*c))=(-c)*((Ţ t b:Nat):Int):=by
    rw[YI,GS,ou,YI]
   have f:(((Ţ t b:Nat):Int)*c)=(-c)*(-((Ţ t b:Nat):Int)):=by
    rw[Int.neg_mul_neg,ou]
   rw[e,KU _ (by lia),f,KU _ (by lia)]
  rw[d t (wV ..),d b (uQ ..)]
 ·rw[Ñ h,Ñ h,GS,GS]
def boot_abs:İ "abs"=À (.builtin "abs"):=by decide+kernel
def boot_divmod:İ "divmod"=À (.builtin "divmod"):=by decide+kernel
def boot_list:İ "list"=À (.type "list"):=by decide+kernel
def boot_tuple:İ "tuple"=À (.type "tuple"):=by decide+kernel
def boot_int:İ "int"=À (.type "int"):=by decide+kernel
def boot_bool:İ "bool"=À (.type "bool"):=by decide+kernel
def boot_str:İ "str"=À (.type "str"):=by decide+kernel
def boot_isinstance:İ "isinstance"=À (.builtin "isinstance"):=by decide+kernel
def boot_all:İ "all"=À (.builtin "all"):=by decide+kernel
def kne:¬(("cells":Str)="turn"):=by decide+kernel
def XY:(10:Int)^(18:Int).toNat=1000000000000000000:=by decide+kernel
end Ro
namespace L2
open PySem PySem.Spec PyProof.Rows
def S5 (K:É)(H:Hp)(x:V)(t:String):Prop:=match x with
 |.Ğ=>t="NoneType"
 |.bl _=>t="bool"
 |.int _=>t="int"
 |.str _=>t="str"
 |.ref a=>(t="tuple"/\∃xs,gq K H a xs)∨(t="list"/\∃xs,fC K H a xs)∨(t="dict"/\((∃b,H a=À (.dK b))∨∃b,H a=À (.dT b)))
 |_=>False
def X1 (K:É):Á V->Hp->VK->Prop:=λxs H Q=>∃t x n b,xs=[x,.ty n]/\S5 K H x t/\oC K (.type t) (.type n)=À b/\Q (.bl b) H
def Hj:bz X (.builtin "isinstance") (X1 X.K):=by
 intro i s D H xs us Q I r h;obtain⟨t,x,n,b,rfl,hd,e,q⟩:=h;obtain⟨u,B,rfl,j,w⟩:=vals2 r;obtain rfl:B=cq n:=w;have c:∀A,EP X i D Q (.bool b) {s with toks:=A}:=λA=>⟨.bl b,H,I.tok A,rfl,q⟩
 cases x with
 |Ğ=>cases (show t=_ from hd);exact og I j .Ğ e c
 |bl y=>cases (show t=_ from hd);exact og I j (.bl y) e c
 |int y=>cases (show t=_ from hd);exact og I j (.int y) e c
 |str y=>cases (show t=_ from hd);exact og I j (.str y) e c
 |ref a=>
  cases j;rcases hd with⟨rfl,C,v⟩|⟨rfl,C,v⟩|⟨rfl,g⟩
  ·obtain⟨l,_,p,_⟩:=I.tuple v;obtain⟨o,d,f,_⟩:=p;exact ĵ E7 I.md ⟨o,d,f⟩ e (λz=>nomatch z) c
  ·obtain⟨l,_,p,_⟩:=I.list v;obtain⟨o,d,f,_⟩:=p.isList;exact ĵ rd I.md ⟨o,d,f⟩ e (λz=>nomatch z) c
  ·have z:∃o,s.heap.get? a=À o/\o.ExactDict:=by
    rcases g with⟨m,g⟩|⟨m,g⟩
    ·obtain⟨_,_,_,_,o,_,_,e,k,_⟩:=I.ť a _ g;exact⟨o,e,k⟩
    ·obtain⟨_,_,_,_,o,_,_,e,k,_⟩:=I.ť a _ g;exact⟨o,e,k⟩
   obtain⟨o,d,f⟩:=z;exact ĵ rb I.md ⟨o,d,f.1⟩ e (λz=>nomatch z) c
 |Cu y=>exact aJ hd
 |Oi y=>exact aJ hd
 |ty y=>exact aJ hd
end L2
namespace Mm
open PySem L2
section
variable {T:Tx}{XE:iQ}{X:Cx}{pos:kU}
def U6 (T:Tx)(XE:iQ)(op:Á AV->S->R AV):Á V->Hp->VK->Prop:=λc H Q=>∃b a s,SR T b s H/\Ĥ T b H a c/\Out T XE (rV T) b H (op a s) Q
def Wj {α:Type}(T:Tx)(XE:iQ)(d:Rl α V)(op:Á AV->S->R α):Á V->Hp->VK->Prop:=λe H Q=>∃a b c xs s,e=[.ref a]/\SR T c s H/\(fC T.K H a b∨gq T.K H a b)/\Ĥ T c H xs b/\Out T XE d c H (op xs s) Q
def zr (op:Á AV->S->R AV)(r:gh):Ev:=λa s=>(r a s).bind op
def qe {α:Type}(op:Á AV->S->R α)(r:gh):En->S->R α:=λa s=>(r a s).bind op
def Td (h:tE T XE (zr op r) l H Q):SE (U6 T XE op) (tP T XE r) l H Q:=by
 obtain⟨n,e,s,j,g,i⟩:=h;exact step j g i λv k d A x _ m b f c a=>⟨d,v,k,b,c,a⟩
def Tg (h:tG T XE m (qe op r) p H Q):SE (Wj T XE m op) (wo (tQ T XE r) zN) p H Q:=by
 obtain⟨u,f,s,l,i,j⟩:=h;refine step l i j λv n e A x _ t c g d b=>?_;obtain⟨a,o,rfl,q,k⟩:=d;exact⟨a,o,e,v,n,rfl,c,q,k,b⟩
def Qg {id:String}{op:Á AV->S->R AV}{a:Á Expr}{r:gh}(f:bz X (.builtin id) (U6 T XE op)) (j:X.mg x=none)(l:İ x=À (.builtin id)) (d:PA X (e::a) (tP T XE r)) (i:Gl X x:=by rfl)(k:x≠"__name__":=by decide)(b:(x == ("__debug__":Str))=false:=by decide)
  (g:Ï (e::a) X.env=(false,Ė e X.env)::Ï a X.env:=by rfl) (c:(Ģ pos (Ï a X.env)).any (·.1)=false:=by rfl):PE X (.Call (.Name x p) (e::a) [] pos) (tE T XE (zr op r)):=
 PE.imp (cZ f i j l d k b g c) λ_ _ _ h=>Td h
def UA {α:Type}{d:Rl α V}{id:String}{op:Á AV->S->R α}{r:gh}(g:bz X (.type id) (Wj T XE d op)) (j:X.mg x=none)(l:İ x=À (.type id)) (f:PE X e (tQ T XE r)) (i:Gl X x:=by rfl)(k:x≠"__name__":=by decide)(a:(x == ("__debug__":Str))=false:=by decide)
  (c:Ï [e] X.env=(false,Ė e X.env)::Ï [] X.env:=by rfl) (b:(Ģ pos (Ï [] X.env)).any (·.1)=false:=by rfl):PE X (.Call (.Name x p) [e] [] pos) (tG T XE d (qe op r)):=
 PE.imp (F' g i j l (aR f eJ c) k a c b) λ_ _ _ h=>Tg h
noncomputable def yh:Á AV->S->R AV
 |[.int i],s=>.ok (.int (if i<0 then -i else i)) s
 |_,_=>.bad
def Ĥ.mh (h:Ĥ T ρ H [v] xs):∃x,xs=[x]/\VR T ρ H v x:=by
 obtain⟨x,c,rfl,a,b⟩:=h.cons_inv;cases b.nil_inv;exact⟨x,rfl,a⟩
def Ĥ.two_inv (h:Ĥ T ρ H [v,w] xs):∃x y,xs=[x,y]/\VR T ρ H v x/\VR T ρ H w y:=by
 obtain⟨x,d,rfl,a,b⟩:=h.cons_inv;obtain⟨y,rfl,c⟩:=b.mh;exact⟨x,y,rfl,a,c⟩
def cAbs:bz X (.builtin "abs") (U6 T XE yh):=by
 rintro a s f H xs us Q I r ⟨g,c,st,d,e,b⟩;unfold yh at b;split at b
 ·obtain⟨x,rfl,k⟩:=e.mh;cases k.int_inv;exact Hi a s f H _ us Q I r ⟨_,rfl,b.ĸ d cN⟩
 ·exact b.elim
noncomputable def UO:Á AV->S->R AV
 |[.int i,.int j],s=>.ok (.int (if j<i then j else i)) s
 |_,_=>.bad
def nN:Á AV->S->R AV
 |[.int i,.int j],s=>if 0<j/\O6 j then .ok (.tup [.int (i / j),.int (i % j)]) s else .bad
 |_,_=>.bad
def LJ:bz X (.builtin "divmod") (U6 T XE nN):=by
 rintro b s i H xs us Q I r ⟨j,c,st,g,h,a⟩;unfold nN at a;split at a
 ·obtain⟨x,y,rfl,k,e⟩:=h.two_inv;cases k.int_inv;cases e.int_inv;obtain⟨hl,a⟩:=a.Ś;exact yV b s i H _ us Q I r ⟨_,_,rfl,⟨hl.1,hl.2.f⟩,λp d=>a.tup g d (.cons cN (.one cN))⟩
 ·exact a.elim
def OI:Á AV->S->R AV
 |[.int i],s=>.ok (.int i) s
 |[.bl b],s=>.ok (.int (if b then 1 else 0)) s
 |_,_=>.bad
def jH:Á AV->S->R AV
 |[.str z],s=>if z.length<=sizeLine then .ok (.int z.length) s else .bad
 |[v],s=>need (items v s) λxs=>.ok (.int xs.length) s
 |_,_=>.bad
def W_ (j:X.K=T.K):bz X (.builtin "len") (U6 T XE jH):=by
 rintro c s g H xs us Q I r ⟨n,d,st,f,h,b⟩;have rest:∀v,d=[v]->Out T XE (rV T) n H (need (items v st) λxs=>.ok (.int xs.length) st) Q->Ü (à X.prog X.w) X.A (call (.builtin "len") us) (EP X c g Q) X.xe s:=by
  rintro v rfl b;obtain⟨o,e,b⟩:=b.ô;obtain⟨x,rfl,k⟩:=h.mh;obtain⟨a,m,rfl,i,l⟩:=rP e f k;exact yW c s g H _ us Q I r ⟨a,m,rfl,by rw[j];exact i,by rw[<-l.length];exact b.ĸ f cN⟩
 unfold jH at b;split at b
 ·obtain⟨x,rfl,k⟩:=h.mh;cases k.str_inv;obtain⟨hl,b⟩:=b.Ś;exact yX c s g H _ us Q I r ⟨_,rfl,hl,b.ĸ f cN⟩
 ·exact rest _ rfl b
 ·exact b.elim
noncomputable def mz:Á AV->Ð (Á Int)
 |[]=>À []
 |.int i::r=>(mz r).map (i::·)
 |_::_=>none
noncomputable def xf:Á AV->Ð (Á Bool)
 |[]=>À []
 |.bl i::r=>(xf r).map (i::·)
 |_::_=>none
theorem xU:∀{l:Á AV}{ns:Á Int},mz l=À ns->l=ns.map .int
 |[],_,h=>by cases h;rfl
 |v::r,ns,h=>by
  cases v<;>try cases h
  rename_i i;cases e:mz r with
  |none=>rw[show mz (.int i::r)=(mz r).map (i::·)from rfl,e]at h;cases h
  |some q=>
   rw[show mz (.int i::r)=(mz r).map (i::·)from rfl,e]at h;cases h;rw[xU e];rfl
theorem AD:∀{l:Á AV}{ns:Á Bool},xf l=À ns->l=ns.map .bl
 |[],_,h=>by cases h;rfl
 |v::r,ns,h=>by
  cases v<;>try cases h
  rename_i i;cases e:xf r with
  |none=>rw[show xf (.bl i::r)=(xf r).map (i::·)from rfl,e]at h;cases h
  |some q=>
   rw[show xf (.bl i::r)=(xf r).map (i::·)from rfl,e]at h;cases h;rw[AD e];rfl
@[simp] theorem rM (ns:Á Int):mz (ns.map .int)=À ns:=by
 induction ns with
 |nil=>rfl
 |cons a r b=>show(mz (r.map .int)).map (a::·)=_;rw[b];rfl
def Gf (xs:Á AV)(s:S):R AV:=need (xf xs) λa=>.ok (.bl (a.all id)) s
def SA {α:Type}(T:Tx)(XE:iQ)(d:Rl α V)(op:Á AV->S->R α):Á V->Hp->VK->Prop:=λe H Q=>∃a c b xs s,e=[.ref a]/\SR T b s H/\H a=À (.lst c)/\Ĥ T b H xs c/\Out T XE d b H (op xs s) Q
def Tf (h:tG T XE m (qe op r) p H Q):SE (SA T XE m op) (wo (tL T XE r) zN) p H Q:=by
 obtain⟨u,f,s,l,i,j⟩:=h;refine step l i j λv n e A x _ t c g d b=>?_;obtain⟨a,o,rfl,_,_,q,k⟩:=d;exact⟨a,o,e,v,n,rfl,c,q,k,b⟩
def ue (m:Ev):gh:=λa s=>(m a s).bind λv b=>match v with
 |.ref i=>need (ë b i) λxs=>.ok xs b
 |_=>.bad
def Pk (h:tG T XE t (qe op (ue m)) w H Q):SE (SA T XE t op) (wo (tE T XE m) zN) w H Q:=by
 obtain⟨z,c,s,r,p,n⟩:=h;have e:qe op (ue m) c s=(m c s).bind λv f=>(match v with
   |.ref i=>need (ë f i) λxs=>(.ok xs f:R (Á AV))
   |_=>.bad).bind op:=by
  unfold qe ue;cases m c s<;>rfl
 rw[e]at n;refine step r p n λv f j A x _ y g o d b=>?_;have d:VR T j A v x:=d;cases v with
 |ref i=>
  cases l:ë f i with
  |none=>simp only[l]at b;exact b.elim
  |some xs=>
   simp only[l,å,ñ]at b;obtain⟨a,u,rfl,_,q,k⟩:=g.dg (ü l) d;exact⟨a,u,j,xs,f,rfl,g,q,k,b⟩
 |_=>exact b.elim
def Uz {α:Type}{d:Rl α V}{id:String}{op:Á AV->S->R α}{r:gh}(g:bz X (.builtin id) (SA T XE d op)) (j:X.mg x=none)(l:İ x=À (.builtin id)) (f:PE X e (tL T XE r)) (i:Gl X x:=by rfl)(k:x≠"__name__":=by decide)(a:(x == ("__debug__":Str))=false:=by decide)
  (c:Ï [e] X.env=(false,Ė e X.env)::Ï [] X.env:=by rfl) (b:(Ģ pos (Ï [] X.env)).any (·.1)=false:=by rfl):PE X (.Call (.Name x p) [e] [] pos) (tG T XE d (qe op r)):=
 PE.imp (cZ g i j l (aR f eJ c) k a c b) λ_ _ _ h=>Tf h
def OE {α:Type}{d:Rl α V}{id:String}{op:Á AV->S->R α}{r:Ev}(g:bz X (.builtin id) (SA T XE d op)) (j:X.mg x=none)(l:İ x=À (.builtin id)) (f:PE X e (tE T XE r)) (i:Gl X x:=by rfl)(k:x≠"__name__":=by decide)(a:(x == ("__debug__":Str))=false:=by decide)
  (c:Ï [e] X.env=(false,Ė e X.env)::Ï [] X.env:=by rfl) (b:(Ģ pos (Ï [] X.env)).any (·.1)=false:=by rfl):PE X (.Call (.Name x p) [e] [] pos) (tG T XE d (qe op (ue r))):=
 PE.imp (cZ g i j l (aR f eJ c) k a c b) λ_ _ _ h=>Pk h
def S_ (f:X.calm=true):bz X (.builtin "all") (SA T XE (rV T) Gf):=by
 rintro b s i H xs us Q I r ⟨a,j,m,l,st,e,h,d,k,c⟩;subst e;obtain⟨g,e,c⟩:=c.ô;rw[AD e]at k;rw[k.DP]at d;exact Fp f b s i H _ us Q I r ⟨a,g,rfl,fC.of d,c.ĸ h dh⟩
def vW (xs:Á AV)(s:S):R (Á AV):=.ok xs s
def S' (d:X.K=T.K):bz X (.type "list") (Wj T XE (rL T) vW):=by
 rintro b s i H xs us Q I r ⟨a,h,m,j,st,e,g,c,k,f⟩;subst e;exact yY b s i H _ us Q I r ⟨a,h,rfl,by rw[d];exact c,λl hl=>f.lst g hl k⟩
def mj (xs:Á AV)(s:S):R AV:=.ok (.tup xs) s
def Pg (c:X.K=T.K):bz X (.type "tuple") (Wj T XE (rV T) mj):=by
 rintro b s h H xs us Q I r ⟨a,g,j,i,st,e,f,h1,k,d⟩;subst e;refine xg b s h H _ us Q I r ⟨a,g,rfl,?_⟩;rcases h1 with h1|h1
 ·exact .inl ⟨by rw[c];exact h1,λl hl=>d.tup f hl k⟩
 ·exact .inr ⟨by rw[c];exact h1,d.ĸ f (jK h1 k)⟩
noncomputable def ES (v:AV)(s:S):Ð String:=match v with
 |.Ğ=>À "NoneType"
 |.bl _=>À "bool"
 |.int _=>À "int"
 |.str _=>À "str"
 |.tup _=>À "tuple"
 |.sq _=>À "list"
 |.ref i=>match s[i]? with
  |some (.lst _)=>À "list"
  |some (.dK _)=>À "dict"
  |some (.dT _)=>À "dict"
  |_=>none
def fY:Á String:=["NoneType","bool","int","str","tuple","list","dict"]
def gu (t n:String):Bool:=t == n||(t == "bool" && n == "int")
def P9 (b:t∈fY)(a:n∈fY):oC K (.type t) (.type n)=À (gu t n):=by
 simp only[fY,ß,Ā,ao]at b a;rcases b with rfl|rfl|rfl|rfl|rfl|rfl|rfl<;>rcases a with rfl|rfl|rfl|rfl|rfl|rfl|rfl<;>rfl
def NU (h:ES v s=À t)(m:SR T ρ s H)(j:VR T ρ H v x):S5 T.K H x t/\t∈fY:=by
 cases v with
 |Ğ=>cases j.jd;cases h;exact⟨rfl,by simp[fY]⟩
 |bl c=>cases j.js;cases h;exact⟨rfl,by simp[fY]⟩
 |int c=>cases j.int_inv;cases h;exact⟨rfl,by simp[fY]⟩
 |str c=>cases j.str_inv;cases h;exact⟨rfl,by simp[fY]⟩
 |tup c=>obtain⟨a,f,rfl,d,k⟩:=j.ck;cases h;exact⟨.inl ⟨rfl,f,d⟩,by simp[fY]⟩
 |sq c=>obtain⟨a,f,rfl,d,k⟩:=j.iL;cases h;exact⟨.inr (.inl ⟨rfl,f,d.Gw⟩),by simp[fY]⟩
 |ref i=>
  have h:(match s[i]? with
  |some (.lst _)=>À "list"
  |some (.dK _)=>À "dict"
  |some (.dT _)=>À "dict"
  |_=>none)=À t:=h
  obtain⟨a,l,rfl⟩:=j.fW;split at h
  ·rename_i xs e;cases h;obtain⟨b,g,f,d,_⟩:=m.obj i _ e;rw[l]at g;cases g;exact⟨.inr (.inl ⟨rfl,f,fC.of d⟩),by simp[fY]⟩
  ·rename_i xs e;cases h;obtain⟨b,g,f,d,_⟩:=m.obj i _ e;rw[l]at g;cases g;exact⟨.inr (.inr ⟨rfl,.inl ⟨f,d⟩⟩),by simp[fY]⟩
  ·rename_i xs e;cases h;obtain⟨b,g,f,d,_⟩:=m.obj i _ e;rw[l]at g;cases g;exact⟨.inr (.inr ⟨rfl,.inr ⟨f,d⟩⟩),by simp[fY]⟩
  ·cases h
def eh (n:String)(v:AV)(s:S):R AV:=need (ES v s) λt=>.ok (.bl (gu t n)) s
def Qr (y:X.K=T.K)(C:n∈fY)(B:X.mg "isinstance"=none)(i:X.mg nm=none)(l:İ nm=À (.type n)) (z:PE X e (tE T XE m)) (A:Gl X "isinstance":=by rfl)(h:Gl X nm:=by rfl)(j:nm≠"__name__":=by decide)(f:(nm == ("__debug__":Str))=false:=by decide)
  (d:Ï [e,.Name nm b] X.env=(false,Ė e X.env)::Ï [.Name nm b] X.env:=by rfl) (g:Ï [.Name nm b] X.env=(false,Ė (.Name nm b) X.env)::Ï [] X.env:=by rfl) (k:(Ģ pos (Ï [.Name nm b] X.env)).any (·.1)=false:=by rfl) :
  PE X (.Call (.Name "isinstance" p) [e,.Name nm b] [] pos) (tE T XE (az (eh n) m)):=
 PE.imp (cZ Hj A B Ro.boot_isinstance (aR z (aR (EC (v:=.ty n) h i l rfl j f) eJ g) d) (by decide) (by decide) d k) λN H Q F=>ň F λM q s E d D=>
  step E d D λv J G I x _ L c r o a=>by
   obtain⟨t,e,a⟩:=a.ô;obtain⟨u,w⟩:=NU e c o;exact⟨t,x,n,_,rfl,by rw[y];exact u,P9 w C,a.ĸ c dh⟩
def SD (T:Tx)(XE:iQ)(op:AV->Á AV->S->R AV):V->Á V->Hp->VK->Prop:=λx xs H Q=>∃a v b s,SR T a s H/\VR T a H v x/\Ĥ T a H b xs/\Out T XE (rV T) a H (op v b s) Q
def lu (n:String)(v:AV)(s:S):Ð Unit:=match v,n with
 |.str _,"str"=>À ()
 |.sq _,"list"=>À ()
 |.ref i,"list"=>(ë s i).map λ_=>()
 |.ref i,"dict"=>match s[i]? with
  |some (.dK _)=>À ()
  |some (.dT _)=>À ()
  |_=>none
 |_,_=>none
def qw (h:lu n v s=À ()) (j:SR T ρ s H)(g:VR T ρ H v x):Wn T.K n x H:=by
 unfold lu at h;split at h
 ·cases g.str_inv;rfl
 ·obtain⟨a,d,rfl,c,k⟩:=g.iL;exact .inl ⟨rfl,d,c.Gw⟩
 ·rename_i i;cases e:ë s i with
  |none=>rw[e]at h;cases h
  |some xs=>
   obtain⟨a,d,rfl,_,c,k⟩:=j.dg (ü e) g;exact .inl ⟨rfl,d,fC.of c⟩
 ·rename_i i;obtain⟨a,l,rfl⟩:=g.fW;split at h
  ·rename_i xs e;obtain⟨b,f,d,c,_⟩:=j.obj i _ e;rw[l]at f;cases f;exact .inr (.inr (.inl ⟨rfl,.inl ⟨d,c⟩⟩))
  ·rename_i xs e;obtain⟨b,f,d,c,_⟩:=j.obj i _ e;rw[l]at f;cases f;exact .inr (.inr (.inl ⟨rfl,.inr ⟨d,c⟩⟩))
  ·cases h
 ·cases h
def jT (n:String)(op:AV->Á AV->S->R AV)(o:Ev)(r:gh):Ev:=λa s=>(o a s).bind λv b=>need (lu n v b) λ_=>(r a b).bind λd c=>op v d c
def Qy (h:tE T XE (jT n op o r) z H Q):Yj T.K n (SD T XE op) (tE T XE o) (tP T XE r) z H Q:=by
 obtain⟨E,k,s,q,m,p⟩:=h;refine step q m p λv C y A x _ D b d c a=>?_;obtain⟨_,e,a⟩:=a.ô;exact⟨qw e b c,step b d a λw t j B xs _ u g l i f=>⟨j,v,w,t,g,VR.up u c,i,f⟩⟩
def IM {n id:String}{c:Á Expr}{op:AV->Á AV->S->R AV}{m:Ev}{r:gh}(l:X.K=T.K)(u:qg n)(j:Slot n name id)(k:LC (.builtin id)=pure (.type "method_descriptor")) (q:GP X id (SD T XE op)) (s:PE X o (tE T XE m)) (p:PA X (e::c) (tP T XE r))
  (d:aB o name X.env (Ė o X.env)=Ė o X.env:=by rfl)
  (i:((Ģ a (Ï (e::c) X.env)).all (λx=>!x.1)&&(gz a (bR [] X.env)).all (λx=>x.1.isSome)
   && decide ((e::c).length+([]:Á iZ).length+(if ([]:Á iZ).isEmpty then 0 else 1)<30))=true:=by rfl)
  (f:(g.endLine == a.line)=true:=by rfl) (t:Ï (e::c) X.env=(false,Ė e X.env)::Ï c X.env:=by rfl) (b:(Ģ a (Ï c X.env)).any (·.1)=false:=by rfl) :
  PE X (.Call (.Attribute o name g) (e::c) [] a) (tE T XE (jT n op m r)):=
 PE.imp (Jy l u j k q s p d i f t b) λ_ _ _ h=>Qy h
def ye (n:String)(op:AV->Á AV->S->R AV)(o:Ev):Ev:=λa s=>(o a s).bind λv b=>need (lu n v b) λ_=>op v [] b
def Et {n id:String}{op:AV->Á AV->S->R AV}{m:Ev}(r:X.K=T.K)(y:qg n)(g:Slot n name id)(k:LC (.builtin id)=pure (.type "method_descriptor")) (u:GP X id (SD T XE op)) (j:PE X o (tE T XE m))
  (a:aB o name X.env (Ė o X.env)=Ė o X.env:=by rfl) (b:(d.endLine == f.line)=true:=by rfl):PE X (.Call (.Attribute o name d) [] [] f) (tE T XE (ye n op m)):=
 PE.imp (Jx y g k u j a b) λE H Q A=>ň A λD p s w t j=>step w t j λv z l B x _ C h q i c=>by
  obtain⟨_,e,c⟩:=c.ô;exact⟨by rw[r];exact qw e h i,l,v,[],z,h,i,.nil,c⟩
def Out.Yc (f:Out T XE h ρ H (.ok v (s.set i (.lst ys))) Q) (d:SR T ρ s H)(c:ρ[i]?=À a)(e:H a=À (.lst vs)) (k:Ĥ T ρ H ys ws)(g:h.r H ρ (upd H a (.lst ws)) v x):Q x (upd H a (.lst ws)):=by
 have b:Up ρ H ρ (upd H a (.lst ws)):=d.tM c e (λ_ z=>nomatch z) (λ_ _ z=>nomatch z);exact f ρ _ x b (d.set c b (OR.lst ă (k.up b))) g
def Out.J6 (d:Out T XE (rV T) ρ H (.ok v (s.set i (.lst ys))) Q) (f:SR T ρ s H)(b:ρ[i]?=À a)(c:H a=À (.lst vs)) (k:Ĥ T ρ H ys ws)(e:VR T ρ (upd H a (.lst ws)) v x):Q x (upd H a (.lst ws)):=d.Yc f b c k e
def Ŏ:AV->Á AV->S->R AV
 |.ref i,[w],s=>need (ë s i) λxs=>if xs.length<sizeLine then .ok .Ğ (s.set i (.lst (xs++[w])))else .bad
 |_,_,_=>.bad
def LN:GP X "list.append" (SD T XE Ŏ):=by
 rintro c s n H x xs v us Q I i rv ⟨r,a,o,st,f,j,l,b⟩;unfold Ŏ at b;split at b
 ·obtain⟨q,e,b⟩:=b.ô;obtain⟨hl,b⟩:=b.Ś;obtain⟨p,m,rfl,g,d,k⟩:=f.dg (ü e) j;obtain⟨y,rfl,h⟩:=l.mh;exact yg c s n H _ _ v us Q I i rv ⟨p,m,y,rfl,rfl,d,by rw[<-k.length];exact hl,b.J6 f g d (k.append (.one h)) sL⟩
 ·exact b.elim
def lB:AV->Á AV->S->R AV
 |.ref i,[],s=>need (ë s i) λxs=>.ok .Ğ (s.set i (.lst xs.reverse))
 |_,_,_=>.bad
def Hv:GP X "list.reverse" (SD T XE lB):=by
 rintro c s m H x xs v us Q I h rv ⟨q,a,n,st,f,i,j,b⟩;unfold lB at b;split at b
 ·obtain⟨o,e,b⟩:=b.ô;obtain⟨p,l,rfl,g,d,k⟩:=f.dg (ü e) i;cases j.nil_inv;exact CW c s m H _ _ v us Q I h rv ⟨p,l,rfl,rfl,d,b.J6 f g d k.reverse sL⟩
 ·exact b.elim
def yj:AV->Á AV->S->R AV
 |.ref i,[.int j],s=>need (ë s i) λxs=>if 0<=j/\j<xs.length then need xs[j.toNat]? λy=>.ok y (s.set i (.lst (xs.eraseIdx j.toNat)))else .bad
 |_,_,_=>.bad
theorem Ĥ.erase:∀{l:Á AV}{xs:Á V}(i:Nat),Ĥ T ρ H l xs->Ĥ T ρ H (l.eraseIdx i) (xs.eraseIdx i)
 |[],_,_,h=>by cases h.nil_inv;exact .nil
 |_::_,_,0,h=>by obtain⟨x,b,rfl,_,k⟩:=h.cons_inv;exact k
 |_::_,_,i+1,h=>by obtain⟨x,b,rfl,a,k⟩:=h.cons_inv;exact .cons a (Ĥ.erase i k)
def Ti:GP X "list.pop" (SD T XE yj):=by
 rintro c s D H x xs v us Q I u rv ⟨m,a,G,st,g,A,B,b⟩;unfold yj at b;split at b
 ·rename_i F j;obtain⟨J,e,b⟩:=b.ô;obtain⟨i,b⟩:=b.Ś;obtain⟨y,n,b⟩:=b.ô;obtain⟨p,l,rfl,h,d,k⟩:=g.dg (ü e) A;obtain⟨z,rfl,r⟩:=B.mh;cases r.int_inv;obtain⟨C,f,t⟩:=k.get n;have hl:=k.length;obtain⟨q,_,_,E⟩:=I.list (fC.of d);have o:=nI;have w:Up m H m (upd H p (.lst (l.eraseIdx j.toNat))):=g.tM h d (λ_ z=>nomatch z) (λ_ _ z=>nomatch z);refine Jc c s D H _ _ v us Q I u rv ⟨p,l,j,j.toNat,C,rfl,rfl,d,by lia,by lia,T7 i.1 (by rw[<-hl];exact i.2),f,b.J6 g h d (k.erase _) (VR.up w t)⟩
 ·exact b.elim
section
variable {κ:Type} [kh κ]
noncomputable def ņ:Á (κ×AV)->κ->Ð AV
 |[],_=>none
 |p::r,k=>if p.1=k then À p.2 else ņ r k
def g_ (kvs:Á (κ×AV)) (k:κ)(v:AV):Á (κ×AV):=
 if (kvs.any λa=>decide (a.1=k))=true then kvs.map (λa=>if a.1=k then (a.1,v)else a)else kvs++[(k,v)]
theorem d_ (k:κ):∀{kvs:Á (κ×AV)}{ks:Á (κ×V)},kvs.map (·.1)=ks.map (·.1)->Ĥ T ρ H (kvs.map (·.2)) (ks.map (·.2))->(∀v,ņ kvs k=À v->∃x,jf ks k=À x/\VR T ρ H v x)/\(ņ kvs k=none->jf ks k=none)
 |[],ks,e,h=>by
  cases ks with
  |nil=>exact⟨(λv z=>nomatch z),λ_=>rfl⟩
  |cons a r=>cases e
 |p::r,ks,e,h=>by
  cases ks with
  |nil=>cases e
  |cons q t=>
   rw[Ô,Ô,aT]at e;rw[Ô,Ô]at h;obtain⟨x,j,c,g,i⟩:=h.cons_inv;rw[aT]at c;obtain⟨d,f⟩:=d_ k e.2 (c.2▸i);unfold ņ;by_cases b:p.1=k
   ·rw[Ë b,nV (e.1▸b)];refine⟨λv z=>?_,λz=>nomatch z⟩;cases z;exact⟨q.2,rfl,c.1▸g⟩
   ·rw[Ñ b,nU (λz=>b (e.1.trans z))];exact⟨d,f⟩
def uL (k:κ)(b:VR T ρ H v x)(e:kvs.map (·.1)=ks.map (·.1)) (h:Ĥ T ρ H (kvs.map (·.2)) (ks.map (·.2))) :
  (g_ kvs k v).map (·.1)=(putK ks k x).map (·.1)/\Ĥ T ρ H ((g_ kvs k v).map (·.2)) ((putK ks k x).map (·.2)):=by
 have i:∀{kvs:Á (κ×AV)}{ks:Á (κ×V)},kvs.map (·.1)=ks.map (·.1)->(kvs.any λb=>decide (b.1=k))=(ks.any λb=>decide (b.1=k)):=by
  intro kvs;induction kvs with
  |nil=>intro ks e;cases ks with|nil=>rfl|cons a r=>cases e
  |cons p r g=>
   intro ks e;cases ks with
   |nil=>cases e
   |cons q t=>
    rw[Ô,Ô,aT]at e;rw[ŉ,ŉ,g e.2,e.1]
 unfold g_ putK;rw[i e];by_cases c:(ks.any λb=>decide (b.1=k))=true
 ·rw[Ë c,Ë c];clear c i;induction kvs generalizing ks with
  |nil=>cases ks with|nil=>exact⟨rfl,.nil⟩|cons a r=>cases e
  |cons p r g=>
   cases ks with
   |nil=>cases e
   |cons q t=>
    rw[Ô,Ô,aT]at e;rw[Ô,Ô]at h;obtain⟨y,o,f,m,n⟩:=h.cons_inv;rw[aT]at f;obtain⟨j,l⟩:=g e.2 (f.2▸n);simp only[Ô,e.1];by_cases d:q.1=k
    ·rw[Ë d,Ë d,j];exact⟨rfl,.cons b l⟩
    ·rw[Ñ d,Ñ d,j,e.1];exact⟨rfl,.cons (f.1▸m) l⟩
 ·rw[Ñ c,Ñ c,Ĕ,Ĕ,Ĕ,Ĕ,e];exact⟨rfl,h.append (.one b)⟩
end
noncomputable def fT:AV->Ð Key
 |.int i=>À (.inl i)
 |.str x=>À (.inr x)
 |_=>none
def g8 (h:fT v=À k)(a:VR T ρ H v x):x=kV k:=by
 cases v<;>try cases h
 ·cases a.int_inv;rfl
 ·cases a.str_inv;rfl
def jS (s:S)(i:Nat):Ð (Á (Key×AV)):=match s[i]? with
 |some (.dK xs)=>À xs
 |_=>none
def j6 (h:jS s i=À xs):s[i]?=À (.dK xs):=by
 unfold jS at h;split at h
 ·cases h;assumption
 ·cases h
def iy (h:s[i]?=À (.dK xs)):jS s i=À xs:=by unfold jS;rw[h]
def ġ:AV->AV->S->R AV
 |.ref i,y,s=>need (jS s i) λa=>need (fT y) λk=>need (ņ a k) λv=>.ok v s
 |_,_,_=>.bad
def Mw (hu:X.A.units+1<cLine)(f:PE X o (tE T XE m)) (G:PE X i (tE T XE n)) (h:O8 i:=by exact λ_ _=>rfl):PE X (.Subscript o i pos) (tE T XE (Õ ġ m n)):=
 PE.imp (ED hu f G h) λσ H Q P=>ň P λρ u s h F f=>step h F f λv s1 U Y x _ u1 j e c g=>step j e g λw s2 p B y _ N d C l b=>by
  have c:VR T p B v x:=VR.up N c;cases v with
  |ref i=>
   obtain⟨I,q,b⟩:=b.ô;obtain⟨k,r,b⟩:=b.ô;obtain⟨z,t,b⟩:=b.ô;obtain⟨a,ks,rfl,Z,E,L,M⟩:=d.AL (j6 q) c;obtain⟨O,D,J⟩:=(d_ k L M).1 z t;exact⟨a,O,rfl,by rw[g8 r l,<-D];exact jh.k E,b.ĸ d J⟩
  |_=>exact b.elim
def mC:AV->AV->S->R AV
 |y,.ref i,s=>need (jS s i) λa=>need (fT y) λk=>.ok (.bl (ņ a k).isSome) s
 |_,_,_=>.bad
def pM:AV->AV->S->R AV
 |y,.ref i,s=>need (jS s i) λa=>need (fT y) λk=>.ok (.bl (!(ņ a k).isSome)) s
 |_,_,_=>.bad
def CA {op:AV->AV->S->R AV}{b:Bool->Bool}(j:∀y w s,op y w s=(match w with|.ref i=>need (jS s i) λkvs=>need (fT y) λk=>.ok (.bl (b (ņ kvs k).isSome)) s|_=>.bad)) {m n:Ev}{r:St}{Q:VK}(h:tE T XE (Õ op m n) r H Q) :
  tE T XE m r H λy B=>tE T XE n r B λx A=>∃a o,x=.ref a/\jh A a y o/\Q (.bl (b o.isSome)) A:=by
 obtain⟨ρ,G,s,O,M,N⟩:=h;refine step O M N λv s1 Y B x _ u1 l f p g=>step l f g λw s2 q A y _ P e I d c=>?_;rw[j]at c;have d:VR T q A w y:=d;cases w with
 |ref i=>
  obtain⟨kvs,E,c⟩:=c.ô;obtain⟨k,F,c⟩:=c.ô;obtain⟨a,u,rfl,Z,L,C,D⟩:=e.AL (j6 E) d;have U:=g8 F (VR.up P p);refine⟨a,jf u k,rfl,by rw[U];exact jh.k L,?_⟩;have:(jf u k).isSome=(ņ kvs k).isSome:=by
   cases t:ņ kvs k with
   |none=>rw[(d_ k C D).2 t];rfl
   |some z=>obtain⟨x',J,_⟩:=(d_ k C D).1 z t;rw[J];rfl
  rw[this];exact c.ĸ e dh
 |_=>exact c.elim
def Qk (hu:X.A.units+1<cLine)(c:PE X i (tE T XE m)) (d:PE X o (tE T XE n)) (a:aC .In o=false:=by rfl):PE X (.Compare i [.In] [o] pos) (tE T XE (Õ mC m n)):=
 PE.imp (Q7 (C6 hu c d) a) λe H Q h=>CA (b:=id) (λy w s=>by cases w<;>rfl) h
def Ry (hu:X.A.units+1<cLine)(c:PE X i (tE T XE m)) (d:PE X o (tE T XE n)) (a:aC .In o=false:=by rfl):PT X (.Compare i [.In] [o] pos) (kO T XE (cB (Õ mC m n))):=
 PT.imp (Dc (C6 hu c d) a) λe H Q h=>CA (b:=id) (λy w s=>by cases w<;>rfl) (EO h)
def Nz (hu:X.A.units+1<cLine)(c:PE X i (tE T XE m)) (d:PE X o (tE T XE n)) (a:aC .NotIn o=false:=by rfl):PT X (.Compare i [.NotIn] [o] pos) (kO T XE (cB (Õ pM m n))):=
 PT.imp (Dc (F_ hu c d) a) λe H Q h=>CA (b:=not) (λy w s=>by cases w<;>rfl) (EO h)
def putD (v d y:AV)(env:En)(s:S):RS:=match d with
 |.ref i=>match jS s i,fT y with
  |some a,À k=>if a.length<sizeLine then .nx env (s.set i (.dK (g_ a k v)))else .bad
  |_,_=>.bad
 |_=>.bad
def mG (d y v:Ev):Ms:=λe s=>(v e s).bj λa f=>(d e f).bj λb g=>(y e g).bj λc h=>putD a b c e h
def MO (hu:X.A.units+1<cLine)(C:PE X o (tE T XE m)) (hi:PE X i (tE T XE n)) (hv:PE X e (tE T XE r)) (G:eN e (À (.Subscript o i l)) pos.line X.env=pure false:=by rfl):PS X (.Assign [.Subscript o i l] e pos) (tS T XE (mG m n r)):=
 PS.imp (EG hu C hi hv G) λD σ H zz=>lD zz λρ env s G he C=>dz G he C λv s1 N5 H1 x _ u1 J q h E=>dz J q E λd s2 Ws H2 y _ u2 L t j F=>dz L t F λc s3 f B z _ U g u M b=>by
  have j:VR T f B d y:=VR.up U j;have h:VR T f B v x:=VR.up (u2.trans U) h;unfold putD at b;split at b
  ·split at b
   ·rename_i i I k Y Z;obtain⟨hl,b⟩:=b.Ś;obtain⟨a,P,rfl,N,O,Q,q2⟩:=g.AL (j6 Y) j;have w:I.length=P.length:=by have:=Ĳ b_ Q;simpa using this
    refine⟨a,_,rfl,by rw[g8 Z M];exact w_.k O (by rw[<-w];exact hl),?_⟩;obtain⟨p1,p2⟩:=uL k h Q q2;have p:Up f B f (upd B a (.dK (putK P k x))):=g.tM N O (λ_ z=>nomatch z) (λ_ _ z=>nomatch z);exact b f _ σ p (g.set N p ⟨_,ă,p1,p2.up p⟩) (u.up p)
   ·exact b.elim
  ·exact b.elim
def Jr (d y z:AV)(s:S):R AV:=match d with
 |.ref i=>need (jS s i) λa=>need (fT y) λk=>.ok ((ņ a k).getD z) s
 |_=>.bad
def qD (d y z:Ev):Ev:=λe s=>(d e s).bind λa f=>need (lu "dict" a f) λ_=>(y e f).bind λb g=>(z e g).bind λc h=>Jr a b c h
def Ih (h:lu "dict" v s=À ()) (d:SR T ρ s H)(c:VR T ρ H v x):∃a,x=.ref a/\V2 H a:=by
 have:=qw h d c;cases v with
 |ref i=>
  obtain⟨a,e,rfl⟩:=c.fW;refine⟨a,rfl,?_⟩;rcases this with⟨z,_⟩|⟨z,_⟩|⟨_,⟨b,z⟩|⟨b,z⟩⟩|⟨z,_⟩
  ·exact absurd z (by decide)
  ·exact absurd z (by decide)
  ·exact .inl ⟨b,.inl z⟩
  ·exact .inr ⟨b,.inl z⟩
  ·exact absurd z (by decide)
 |_=>cases h
def Mz (hu:X.A.units+1<cLine)(E:PE X o (tE T XE m)) (D:PE X e (tE T XE n)) (hf:PE X f (tE T XE r)) (q:M2 X o "get" l e f p:=by exact⟨rfl,rfl,rfl,rfl⟩):PE X (.Call (.Attribute o "get" l) [e,f] [] p) (tE T XE (qD m n r)):=
 PE.imp (JB hu E D hf q) λσ H Q zz=>ň zz λρ env s hs D E=>step hs D E λd s1 N5 H1 x _ u1 t B g h=>by
  obtain⟨_,Y,h⟩:=h.ô;obtain⟨a,rfl,hd⟩:=Ih Y t g;refine⟨a,rfl,hd,step t B h λw s2 Ws H2 y _ u2 I C J F=>step I C F λz s3 M U z' _ P j er3 L c=>?_⟩;have g:VR T M U d (.ref a):=VR.up (u2.trans P) g;cases d with
  |ref i=>
   obtain⟨G,Z,c⟩:=c.ô;obtain⟨k,e2,c⟩:=c.ô;obtain⟨b,ks,eb,ea,h1,N,O⟩:=j.AL (j6 Z) g;cases eb;refine⟨jf ks k,by rw[g8 e2 (VR.up P J)];exact jh.k h1,?_⟩;cases u:ņ G k with
   |none=>rw[(d_ k N O).2 u];rw[u]at c;exact c.ĸ j L
   |some v=>obtain⟨x',ex,kx⟩:=(d_ k N O).1 v u;rw[ex];rw[u]at c;exact c.ĸ j kx
  |_=>exact c.elim
def CN:Ev:=λ_ s=>.ok (.ref s.length) (s++[.dK []])
def Uo:PE X (.Dict [] [] pos) (tE T XE CN):=
 PE.imp JC λg H Q ⟨f,a,s,d,e,b⟩ p c=>b.alloc d c ⟨[],ă,rfl,.nil⟩
def EF:Á (Ev×Ev)->En->S->R (Á (AV×AV))
 |[],_,s=>.ok [] s
 |(a,b)::r,c,s=>(a c s).bind λv d=>(b c d).bind λw e=>(EF r c e).bind λl f=>.ok ((v,w)::l) f
def qz:Á (AV×AV)->Ð (Á (Key×AV))
 |[]=>À []
 |(a,b)::r=>(fT a).bind λk=>(qz r).map ((k,b)::·)
def zt (kvs more:Á (Key×AV)):Á (Key×AV):=more.foldl (λa b=>g_ a b.1 b.2) kvs
def gv (l:Á (Ev×Ev)):Ev:=λb s=>(EF l b s).bind λd c=>need (qz d) λa=>if a.length<=15 then .ok (.ref c.length) (c++[.dK (zt [] a)])else .bad
def Zp (T:Tx)(ρ:Á Addr)(H:Hp)(ps:Á (AV×AV)) (xs:Á (V×V)):Prop:=Ĥ T ρ H (ps.map (·.1)) (xs.map (·.1))/\Ĥ T ρ H (ps.map (·.2)) (xs.map (·.2))
def bind_assoc (r:R α)(f:α->S->R b)(g:b->S->R c):(r.bind f).bind g=r.bind λa s=>(f a s).bind g:=by cases r<;>rfl
theorem Bw:∀(l:Á (Ev×Ev)) {ρ:Á Addr}{s:S}{H:Hp}{k:Á (AV×AV)->S->R α}{F:Á (V×V)->Hp->Prop},SR T ρ s H->ER T ρ H env N->Out T XE rl ρ H ((EF l env s).bind k) Q->
  (∀ps s1 c A xs,EF l env s=.ok ps s1->Up ρ H c A->SR T c s1 A->ER T c A env N->Zp T c A ps xs->F xs A)->zO (l.map λp=>(tE T XE p.1,tE T XE p.2)) N H F
 |[],ρ,s,H,k,F,t,j,n,m=>m [] s ρ H [] rfl .refl t j ⟨.nil,.nil⟩
 |(a,b)::r,ρ,s,H,k,F,t,j,n,m=>by
  have e:(EF ((a,b)::r) env s).bind k=(a env s).bind λv s1=>(b env s1).bind λw d=>(EF r env d).bind λl f=>k ((v,w)::l) f:=by
   show((a env s).bind λv s1=>(b env s1).bind λw d=>(EF r env d).bind λl f=>.ok ((v,w)::l) f).bind k=_;rw[bind_assoc];congr 1;funext v s1;rw[bind_assoc];congr 1;funext w d;rw[bind_assoc];rfl
  rw[e]at n;refine step t j n λv s1 c A x u U B g G o=>step B g o λw d Y Z y z L C h I q=>?_;refine Bw r C h q λps f J O xs P E D i M=>m ((v,w)::ps) f J O _ (by have u:a env s=.ok v s1:=u;have z:b env s1=.ok w d:=z;show((a env s).bind λv s1=>(b env s1).bind λw d=>(EF r env d).bind λl f=>.ok ((v,w)::l) f)=_;rw[u,ñ,z,ñ,P,ñ]) ((U.trans L).trans E) D i ⟨?_,?_⟩
  ·exact .cons (VR.up (L.trans E) G) M.1
  ·exact .cons (VR.up E I) M.2
theorem xZ:∀{ps:Á (AV×AV)}{kvs:Á (Key×AV)}{xs:Á (V×V)},qz ps=À kvs->Zp T ρ H ps xs->∃ks:Á (Key×V),xs=ks.map (λi=>(kV i.1,i.2))/\kvs.map (·.1)=ks.map (·.1)/\Ĥ T ρ H (kvs.map (·.2)) (ks.map (·.2))
 |[],kvs,xs,h,c=>by
  cases h;have:=c.1.nil_inv;cases xs with
  |nil=>exact⟨[],rfl,rfl,.nil⟩
  |cons a r=>cases this
 |(a,b)::r,kvs,xs,h,c=>by
  have h:(fT a).bind (λk=>(qz r).map ((k,b)::·))=À kvs:=h;cases d:fT a with
  |none=>rw[d]at h;cases h
  |some k=>
   cases e:qz r with
   |none=>rw[d,e]at h;cases h
   |some q=>
    rw[d,e]at h;cases h;cases xs with
    |nil=>obtain⟨_,_,z,_⟩:=c.1.cons_inv;cases z
    |cons p xs=>
     obtain⟨x1,t,f,j,l⟩:=c.1.cons_inv;obtain⟨x2,u,g,m,n⟩:=c.2.cons_inv;rw[Ô,aT]at f g;obtain⟨ks,rfl,o,s⟩:=xZ e ⟨f.2▸l,g.2▸n⟩;refine⟨(k,p.2)::ks,?_,by rw[Ô,Ô,o],.cons (g.1▸m) s⟩;rw[Ô,<-g8 d (f.1▸j)]
theorem yf:∀{more:Á (Key×AV)}{b:Á (Key×V)}{kvs:Á (Key×AV)}{ks:Á (Key×V)},more.map (·.1)=b.map (·.1)->Ĥ T ρ H (more.map (·.2)) (b.map (·.2))->kvs.map (·.1)=ks.map (·.1)->Ĥ T ρ H (kvs.map (·.2)) (ks.map (·.2))->
  (zt kvs more).map (·.1)=(gP ks b).map (·.1)/\Ĥ T ρ H ((zt kvs more).map (·.2)) ((gP ks b).map (·.2))
 |[],b,kvs,ks,e,h,c,d=>by
  cases b with
  |nil=>exact⟨c,d⟩
  |cons a r=>cases e
 |p::r,b,kvs,ks,e,h,c,d=>by
  cases b with
  |nil=>cases e
  |cons q t=>
   rw[Ô,Ô,aT]at e;rw[Ô,Ô]at h;obtain⟨y,k,z,f,g⟩:=h.cons_inv;rw[aT]at z;obtain⟨i,j⟩:=uL p.1 (z.1▸f) c d;have:=yf (kvs:=g_ kvs p.1 p.2) (ks:=putK ks q.1 q.2) e.2 (z.2▸g) (by rw[<-e.1];exact i) (by rw[<-e.1];exact j);exact this
def Mx (h:Of X pos c f (l.map λp=>(tE T XE p.1,tE T XE p.2))) (k:c.all (·.isSome)=true:=by rfl) (hl:c.length=f.length:=by rfl)(h0:c≠[]:=by decide)(n:c.length<=15:=by decide):PE X (.Dict c f pos) (tE T XE (gv l)):=
 PE.imp (Nb h k hl h0 n) λσ H Q ⟨Y,B,s,r,F,i⟩ p m=>by
  have t:=r.dA (o:=.dK []) m;have J:=r.out m;refine Bw l (r.new m) (F.up t) (Out.up t i) λZ w d A xs L x j C U=>?_;unfold gv at i;rw[L,ñ]at i;obtain⟨kvs,y,i⟩:=i.ô;obtain⟨hl,i⟩:=i.Ś;obtain⟨ks,rfl,u,M⟩:=xZ y U;have hd:=x.fr p _ ă J;have q:kvs.length=ks.length:=by have:=Ĳ b_ u;simpa using this
  refine⟨hd.1,ks,rfl,by rw[<-q];exact hl,?_⟩;obtain⟨G,I⟩:=yf u M (kvs:=[]) (ks:=[]) rfl .nil;have g:Gr d A (d++[p]) (upd A p (.dK (gP [] ks))):=⟨f7 _ _,λb ys e=>by rw[ç (vJ e hd.1 (by intro z;cases z))];exact e,λb o v e=>by rw[ç (vJ e hd.1 (by intro z;cases z))];exact e⟩
  have D:Gr d A d (upd A p (.dK (gP [] ks))):=⟨a_,g.lE,g.jx⟩
  have N:SR T d w (upd A p (.dK (gP [] ks))):=j.up D λa E=>ç λz=>hd.2 (z▸E);have O:SR T (d++[p]) (w++[.dK (zt [] kvs)]) (upd A p (.dK (gP [] ks))):=N.add hd.2 ⟨_,ă,G,I.gr g⟩;have P:Up Y H (d++[p]) (upd A p (.dK (gP [] ks))):=((t.trans x).mod m hd.2).add m;exact i _ _ _ P O (pT (T:=T) (H:=upd A p (.dK (gP [] ks))) (by rw[á (by rw[j.len];exact Î _),j.len,uT];rfl))
def MN:Of X pos [] [] (([]:Á (Ev×Ev)).map λp=>(tE T XE p.1,tE T XE p.2)):=Nr
def IZ (c:PE X k (tE T XE a)) (d:PE X v (tE T XE b)) (hr:Of X pos ks vs (l.map λp=>(tE T XE p.1,tE T XE p.2))):Of X pos (À k::ks) (v::vs) (((a,b)::l).map λp=>(tE T XE p.1,tE T XE p.2)):=JQ c d hr
def nA (o i:Ev):Mt:=λv c s=>(o c s).bj λa e=>(i c e).bj λb d=>match a,b with
 |.ref k,.int j=>match ë d k with
  |some xs=>match Eg xs.length j with
   |some n=>.nx c (d.set k (.lst (xs.set n v)))
   |none=>.bad
  |none=>.bad
 |_,_=>.bad
def MH (t:PE X o (tE T XE m)) (P:PE X i (tE T XE n))
  (N:∀v,k9 (.Subscript o i pos) X.env v=(do
   let h <-df [v] (Ė o X.env);let w <-df [v,h] (Ė i X.env)
   jW pos
   df [v,h,w] (LB h w v)
   release [v,h,w] []):=by intro _;rfl):PG X (.Subscript o i pos) (tT T XE (nA m n)):=
 PG.imp (JJ t P set_list N) λx σ H Q ⟨ρ,M,s,v,U,O,C,t⟩=>by
  refine dz U O t λa s1 Z H1 y _ Y B q f u=>dz B q u λb s2 d A z _ G e r g c=>?_;have f:VR T d A a y:=VR.up G f;have g:VR T d A b z:=g;have C:VR T d A v x:=VR.up (Y.trans G) C;split at c
  ·rename_i k j;split at c
   ·rename_i xs J;split at c
    ·rename_i n L;obtain⟨p,I,rfl,D,E,F⟩:=e.dg (ü J) f;cases g.int_inv;have l:Up d A d (upd A p (.lst (I.set n x))):=e.tM D E (λ_ z=>nomatch z) (λ_ _ z=>nomatch z);exact⟨p,I,_,n,rfl,rfl,E,by rw[<-F.length];exact L,c d _ σ l (e.set D l (OR.lst ă ((F.set n C).up l))) (r.up l)⟩
    ·exact c.elim
   ·exact c.elim
  ·exact c.elim
def M4:m7 (nA o i):=λv d s=>by
 unfold nA;cases o d s with
 |bad=>exact .inr (.inr rfl)
 |ex c e=>exact .inr (.inl ⟨_,_,rfl⟩)
 |ok a e=>
  simp only[fP];cases i d e with
  |bad=>exact .inr (.inr rfl)
  |ex c e=>exact .inr (.inl ⟨_,_,rfl⟩)
  |ok b f=>
   simp only[fP];split
   ·split
    ·split
     ·exact .inl ⟨_,_,rfl⟩
     ·exact .inr (.inr rfl)
    ·exact .inr (.inr rfl)
   ·exact .inr (.inr rfl)
def tj:AV->Bool
 |.Ğ=>true
 |.bl _=>true
 |.int _=>true
 |.str _=>true
 |_=>false
def toV:AV->V
 |.bl b=>.bl b
 |.int b=>.int b
 |.str b=>.str b
 |_=>.Ğ
def toV_eq (h:tj v=true)(k:VR T ρ H v x):x=toV v:=by
 cases v with
 |Ğ=>exact k.jd
 |bl b=>exact k.js
 |int b=>exact k.int_inv
 |str b=>exact k.str_inv
 |_=>cases h
theorem toVs_eq:∀{l:Á AV}{xs:Á V},l.all tj=true->Ĥ T ρ H l xs->xs=l.map toV
 |[],_,_,k=>k.nil_inv
 |v::r,_,h,k=>by
  obtain⟨x,c,rfl,a,b⟩:=k.cons_inv;rw[ľ,ċ]at h;rw[toV_eq h.1 a,toVs_eq h.2 b];rfl
def A2:∀v:AV,qt (toV v)=true:=λv=>by cases v<;>rfl
def Xw (v:AV)(xs:Á AV):Bool:=Wf (toV v) (xs.map toV)
def F7 (v w:AV)(s:S):R AV:=need (items w s) λxs=>if tj v=true/\xs.all tj=true then .ok (.bl (Xw v xs)) s else .bad
def ZR (m:X.K=T.K):jj X (Į .In) (wU T XE F7):=by
 rintro d s t H x y v u Q I n o ⟨z,a,b,st,f,q,r,c⟩;obtain⟨xs,e,c⟩:=c.ô;obtain⟨⟨i,j⟩,c⟩:=c.Ś;obtain⟨p,w,rfl,l,k⟩:=rP e f r;have g:=toV_eq i q;have h:=toVs_eq j k;subst g h;exact F8 d s t H _ _ v u Q I n o ⟨p,_,rfl,by rw[m];exact l,A2 a,by simp[A2],c.ĸ f dh⟩
end
section
variable {T:Tx}{XE:iQ}{X:Cx}{pos:kU}
structure B9 (T:Tx)(mg:Str->Ð Value)(x:Str)(a:AV):Prop where
 ex:∃v u,mg x=À u/\RelV v u/\∀ρ H,VR T ρ H a v
def Qs (h:B9 T X.mg x a)(e:Gl X x:=by rfl)(hd:(x == ("__debug__":Str))=false:=by decide):PE X (.Name x pos) (tE T XE (mc a)):=by
 obtain⟨v,u,b,c,d⟩:=h.ex;exact MA e b c d hd
def TV (r:cS k A):A.units+30<cLine:=by have:=r.un;lia
def TB (m:Eb):Eb:=λa s=>(m a s).bind λv b=>open Classical in if b.take s.length=s then .ok v s else .bad
def U5 (h:PT X e (kO T XE m)):PT X e (kO T XE (TB m)):=
 PT.imp h λp H Q n=>ň n λg b s d i a=>by
  refine⟨g,b,s,d,i,?_⟩;unfold TB at a;cases e:m b s with
  |bad=>rw[e]at a;exact a
  |ex c j=>rw[e]at a;exact a
  |ok v j=>
   rw[e]at a;obtain⟨f,a⟩:=a.Ś;intro o A x u k l;have:=k.cut u.pre d.len (by rw[f];exact d.closed);rw[f]at this;exact a g A x u.cut this l
def ZZ {α:Type}(T:Tx)(XE:iQ)(c:Rl α V)(op:AV->Á AV->S->R α):V->Á V->Hp->VK->Prop:=λx xs H Q=>∃a v b s,SR T a s H/\VR T a H v x/\Ĥ T a H b xs/\Out T XE c a H (op v b s) Q
def HZ {α:Type}(n:String)(op:AV->Á AV->S->R α)(o:Ev)(r:gh):En->S->R α:=λa s=>(o a s).bind λv b=>need (lu n v b) λ_=>(r a b).bind λd c=>op v d c
def Qz {α:Type}{B:Rl α V}{n id:String}{c:Á Expr}{op:AV->Á AV->S->R α}{m:Ev}{r:gh}(E:X.K=T.K)(J:qg n)(j:Slot n name id)(w:LC (.builtin id)=pure (.type "method_descriptor")) (I:GP X id (ZZ T XE B op)) (q:PE X o (tE T XE m)) (F:PA X (e::c) (tP T XE r))
  (d:aB o name X.env (Ė o X.env)=Ė o X.env:=by rfl)
  (i:((Ģ a (Ï (e::c) X.env)).all (λx=>!x.1)&&(gz a (bR [] X.env)).all (λx=>x.1.isSome)
   && decide ((e::c).length+([]:Á iZ).length+(if ([]:Á iZ).isEmpty then 0 else 1)<30))=true:=by rfl)
  (f:(h.endLine == a.line)=true:=by rfl) (u:Ï (e::c) X.env=(false,Ė e X.env)::Ï c X.env:=by rfl) (b:(Ģ a (Ï c X.env)).any (·.1)=false:=by rfl) :
  PE X (.Call (.Attribute o name h) (e::c) [] a) (tG T XE B (HZ n op m r)):=
 PE.imp (Jy E J j w I q F d i f u b) λσ H Q O=>ň O λρ C s u G q=>by
  refine step u G q λv Z P U x _ u1 k p l g=>?_;obtain⟨_,e,g⟩:=g.ô;exact⟨qw e k l,step k p g λN L A Y xs _ M y D z t=>⟨A,v,N,L,y,VR.up M l,z,t⟩⟩
open PySem.Builtin.Str in
noncomputable def qN:AV->Á AV->S->R (Á AV)
 |.str t,[.str a],s=>if (decide (t.length<a.length)||decide (strKind t<strKind a))=false/\(a.length == 0)=false/\(occurrences t a 0 t.length (t.length+1)).isEmpty=false/\t.length<=1000/\(partsBetween t (occurrences t a 0 t.length (t.length+1)) a.length).length<=1000
   then .ok ((partsBetween t (occurrences t a 0 t.length (t.length+1)) a.length).map AV.str) s else .bad
 |_,_,_=>.bad
def Pn:GP X "str.split" (ZZ T XE (rL T) qN):=by
 rintro c s o H x xs v us Q I j rv ⟨q,a,p,st,k,m,n,b⟩;unfold qN at b;split at b
 ·obtain⟨⟨d,e,f,g,h⟩,b⟩:=b.Ś;cases m.str_inv;obtain⟨y,rfl,i⟩:=n.mh;cases i.str_inv;exact Jd c s o H _ _ v us Q I j rv ⟨_,_,rfl,rfl,d,e,f,g,h,λl hl=>b.lst k hl (Ĥ.map (λa=>iN) _)⟩
 ·exact b.elim
def wI (xs ys:Á AV):Á AV:=(xs.zip ys).map λp=>AV.tup [p.1,p.2]
def qr (xs:Á AV):Á AV:=(ø xs.length).zip xs |>.map λp=>AV.tup [.int (p.1:Int),p.2]
def xv (c:Bool)(v:AV)(s:S):Ð (Á AV×Gd):=match v with
 |.tup xs=>if c=true then À (xs,[])else none
 |.sq xs=>if c=true then none else À (xs,[])
 |.ref i=>if c=true then none else (ë s i).map λxs=>(xs,[(i,xs)])
 |_=>none
def wa (h:xv c v s=À (xs,gs)) (r:SR T ρ s H)(m:VR T ρ H v x):∃a,x=.ref a/\(∃vs,yM c T.K H a vs)/\∀d s' H',Up ρ H d H'->SR T d s' H'->wR gs s'->∃vs,yM c T.K H' a vs/\Ĥ T d H' xs vs:=by
 cases v with
 |tup n=>
  have h:(if c=true then À (n,[])else none)=À (xs,gs):=h;split at h
  ·rename_i f;cases h;obtain⟨a,vs,rfl,j,k⟩:=m.ck;refine⟨a,rfl,⟨vs,by unfold yM;rw[Ë f];exact j⟩,λd s' H' u l _=>⟨vs,by unfold yM;rw[Ë f];exact u.RW j,k.up u⟩⟩
  ·cases h
 |sq n=>
  have h:(if c=true then none else À (n,[]))=À (xs,gs):=h;split at h
  ·cases h
  ·rename_i f;cases h;obtain⟨a,vs,rfl,j,k⟩:=m.iL;refine⟨a,rfl,⟨vs,by unfold yM;rw[Ñ f];exact j.Gw⟩,λd s' H' u l _=>⟨vs,by unfold yM;rw[Ñ f];exact(u.Vf j).Gw,k.up u⟩⟩
 |ref i=>
  have h:(if c=true then none else (ë s i).map λxs=>(xs,[(i,xs)]))=À (xs,gs):=h;split at h
  ·cases h
  ·rename_i f;cases e:ë s i with
   |none=>rw[e]at h;cases h
   |some n=>
    rw[e]at h;cases h;obtain⟨a,vs,rfl,w,j,k⟩:=r.dg (ü e) m;refine⟨a,rfl,⟨vs,by unfold yM;rw[Ñ f];exact fC.of j⟩,λd s' H' u l g=>?_⟩;obtain⟨b,t,o,_,p,q⟩:=l.dg (ü ((D_ i _ s').mp g)) (VR.up u m);cases o;exact⟨t,by unfold yM;rw[Ñ f];exact fC.of p,q⟩
 |_=>cases h
def GG (v w:AV)(s:S):Ð (Á AV×Gd):=
 match xv true v s,xv true w s with
 |some (xs,g),À (a,h)=>À (wI xs a,g++h)
 |_,_=>match xv false v s,xv false w s with
  |some (xs,g),À (a,h)=>À (wI xs a,g++h)
  |_,_=>none
def KQ (h:GG v w s=À r):∃c xs g ys h,xv c v s=À (xs,g)/\xv c w s=À (ys,h)/\r=(wI xs ys,g++h):=by
 unfold GG at h;split at h
 ·rename_i xs g ys d a b;cases h;exact⟨true,xs,g,ys,d,a,b,rfl⟩
 ·split at h
  ·rename_i xs g ys d a b;cases h;exact⟨false,xs,g,ys,d,a,b,rfl⟩
  ·cases h
def J9 (a b:Ev):Src:=λc s=>(a c s).bind λv e=>(b c e).bind λw d=>need (GG v w d) λr=>.ok r d
def L8 (k:wR (g++h) s):wR g s/\wR h s:=⟨λp a=>k p (cf _ a),λp a=>k p (Ě _ a)⟩
def QB (A:X.K=T.K)(hm:X.mg "zip"=none)(h1:PE X e1 (tE T XE a)) (h2:PE X k (tE T XE b)) (hg:Gl X "zip":=by rfl)
  (G:Ï [e1,k] X.env=(false,Ė e1 X.env)::Ï [k] X.env:=by rfl) (I:Ï [k] X.env=[(false,Ė k X.env)]:=by rfl) (F:(Ģ pos (Ï [k] X.env)).any (·.1)=false:=by rfl) :
  PI X (.Tuple es kk NV) (.Call (.Name "zip" p) [e1,k] [] pos) (tW T XE (J9 a b)):=
 PI.imp (Rk hg hm h1 h2 G I F) λσ H R zz=>ň zz λρ env s G he ho=>step G he ho λv s1 N5 H1 x _ u1 M o N E=>step M o E λw s2 U H2 y _ u2 i Zw O f=>by
  obtain⟨r,e,f⟩:=f.ô;obtain⟨c,xs,g,n,h,q1,q2,rfl⟩:=KQ e;obtain⟨a1,rfl,x1,w1⟩:=wa q1 i (VR.up u2 N);obtain⟨a2,rfl,x2,w2⟩:=wa q2 i O;refine⟨c,a1,a2,rfl,by rw[A];exact x1,by rw[A];exact x2,f U H2 _ .refl i ⟨λl s' Y u' d gk=>?_⟩⟩;obtain⟨g1,g2⟩:=L8 gk;obtain⟨P,J,k2⟩:=w1 l s' Y u' d g1;obtain⟨Q,L,k4⟩:=w2 l s' Y u' d g2;rw[A];have C:=k2.length;have D:=k4.length;refine⟨λj z t=>?_,⟨P,Q,J,L,?_⟩⟩
  ·have m:j<xs.length/\j<n.length:=by
    have:=(Ç.mp t).1;simp only[wI,Ê,oy]at this;lia
   have u:z=.tup [xs[j],n[j]]:=by
    have q:(wI xs n)[j]?=À (.tup [xs[j],n[j]]):=by
     simp[wI,Ai,m.1,m.2]
    rw[q]at t;exact(è t).symm
   subst u;obtain⟨x3,Z,v3⟩:=k2.get (Å m.1);obtain⟨x4,e4,v4⟩:=k4.get (Å m.2);refine⟨⟨P,Q,x3,x4,J,L,Z,e4⟩,λq H'' ⟨Tt,y1,y2,eq,B,eH,hy⟩=>?_⟩;obtain⟨f1,f2⟩:=hy P Q J L;rw[Z]at f1;rw[e4]at f2;cases f1;cases f2;subst eq eH;exact⟨d.dA B,d.new B,jK (gq.of ă) (Ĥ.up (d.dA B) (.cons v3 (.one v4)))⟩
  ·rw[<-C,<-D];simp only[wI,Ê,oy];lia
end
end Mm
namespace Mm
open PySem PySem.W PyProof.Rows
def dy {α:Type}(lt:Nat->Nat->Bool):WC α->α
 |.ret a=>a
 |.ask i j k=>dy lt (k (lt i j))
theorem jg (lt:Nat->Nat->Bool)(f:α->WC b):∀t:WC α,dy lt (t.bind f)=dy lt (f (dy lt t))
 |.ret a=>rfl
 |.ask i j k=>jg lt f (k (lt i j))
def dZ (lt:Nat->Nat->Bool){c:Prop}{_:ś c}(a b:WC α):dy lt (if c then a else b)=if c then dy lt a else dy lt b:=by split<;>rfl
section
variable {O:KeyOrd}{key:Nat->O.α}
abbrev lI (O:KeyOrd)(key:Nat->O.α):Nat->Nat->Bool:=λi j=>O.blt (key i) (key j)
def Ah (key:Nat->O.α)(x y:Nat):Prop:=O.klt (key x) (key y)∨key x=key y/\x<y
theorem Ah.kle (h:Ah key x y):O.kle (key x) (key y):=by
 rcases h with h|⟨h,_⟩
 ·exact sP h
 ·rw[h];exact wK _
def Ah.OH (h:¬lI O key x y=true)(k:y<x):Ah key y x:=by
 cases e:O.blt (key y) (key x)with
 |true=>exact .inl e
 |false=>exact .inr ⟨O.total _ _ e (by simpa using h),k⟩
theorem Ah.trans (h:Ah key x y)(k:Ah key y z):Ah key x z:=by
 rcases h with h|⟨h,a⟩
 ·exact .inl (fu h k.kle)
 ·rcases k with k|⟨k,b⟩
  ·exact .inl (by rw[h];exact k)
  ·exact .inr ⟨h.trans k,oA a b⟩
abbrev dV (p:ę Nat)(i:Nat):Nat:=p.getD i 0
def Az (key:Nat->O.α)(p:ę Nat)(k:Nat):Prop:=∀i j,i<j->j<k->Ah key (dV p i) (dV p j)
def O9 (key:Nat->O.α)(p:ę Nat)(k:Nat):Prop:=∀i j,i<j->j<k->Ah key (dV p j) (dV p i)
structure Pm (p:ę Nat)(n N:Nat):Prop where
 sz:p.size=N
 le:n<=N
 lo:∀i,i<n->dV p i<n
 hi:∀i,n<=i->i<N->dV p i=i
def qu {p q:ę Nat}(h:p[i]?=q[j]?):p.getD i 0=q.getD j 0:=by
 rw[Ÿ,Ÿ,h]
def hV {p:ę Nat}(b:j<=p.size)(k:Nat):dV (lN p i j) k=if i<=k/\k<j then dV p (i+j-1-k)else dV p k:=by
 have h:=getElem?_mirror_all (xs:=p) (i:=i) (j:=j) b k;split
 ·rename_i a;rw[Ë a]at h;exact qu h
 ·rename_i a;rw[Ñ a]at h;exact qu h
def Pm.rev (h:Pm p n N)(d:j<=n):Pm (lN p i j) n N:=by
 have:=h.sz;have:=h.le;refine⟨(mirror_size _ _ _ _).trans h.sz,h.le,λk c=>?_,λk a b=>?_⟩
 ·rw[hV (by lia)];split
  ·exact h.lo _ (by lia)
  ·exact h.lo _ c
 ·rw[hV (by lia),Ñ (by lia)];exact h.hi k a b
def Pm.succ (h:Pm p n N)(c:n<N):Pm p (n+1) N:=⟨h.sz,c,λi b=>by
 by_cases e:i<n
 ·exact eg (h.lo i e)
 ·rw[h.hi i (by lia) (by lia)];exact b,λi d a=>h.hi i (by lia) a⟩
def J' (d:1<=n)(h:Az key p n)(k:Ah key (dV p (n-1)) (dV p n)):Az key p (n+1):=λi j a f=>by
 by_cases c:j<n
 ·exact h i j a c
 ·have e:j=n:=by lia
  subst e;by_cases b:i=j-1
  ·rw[b];exact k
  ·exact(h i (j-1) (by lia) (by lia)).trans k
theorem Cr:∀f n,1<=n->n+f<=N->Pm p n N->Az key p n->∃r,dy (lI O key) (kas_asc p f n)=r/\Az key p r/\Pm p r N/\n<=r/\r<=n+f/\(r<n+f->lI O key (dV p r) (dV p (r-1))=true)
 |0,n,b,j,a,h=>⟨n,rfl,h,a,Î _,Î _,λz=>absurd z (ŋ _)⟩
 |f+1,n,b,j,a,h=>by
  by_cases c:lI O key (dV p n) (dV p (n-1))=true
  ·refine⟨n,?_,h,a,Î _,by lia,λ_=>c⟩;exact(dZ ..).trans (Ë c)
  ·obtain⟨r,e,d,g,k,l,i⟩:=Cr f (n+1) (by lia) (by lia) (a.succ (by lia)) (J' b h (.OH c (by rw[a.hi n (Î _) (by lia)];exact a.lo _ (by lia))));refine⟨r,?_,d,g,by lia,by lia,λz=>i (by lia)⟩;exact(dZ ..).trans ((Ñ c).trans e)
structure Dn (key:Nat->O.α)(p:ę Nat)(n q N:Nat):Prop where
 pm:Pm p n N
 lq:q+1<=n
 a:O9 key p (n-(q+1))
 b:∀i,i<n-(q+1)->O.klt (key (dV p (n-1))) (key (dV p i))
 c:∀i,n-(q+1)<=i->i<n->key (dV p i)=key (dV p (n-1))
 d:∀i j,n-(q+1)<=i->i<j->j<n->dV p i<dV p j
def Dn.rev (h:Dn key p n q N):O9 key (lN p (n-(q+1)) n) n:=λi j e f=>by
 have:=h.pm.sz;have:=h.pm.le;have:=h.lq;rw[hV (by lia),hV (by lia)];by_cases k:n-(q+1)<=j
 ·rw[Ë ⟨k,f⟩];by_cases g:n-(q+1)<=i
  ·rw[Ë ⟨g,by lia⟩];exact .inr ⟨(h.c _ (by lia) (by lia)).trans (h.c _ (by lia) (by lia)).symm,h.d _ _ (by lia) (by lia) (by lia)⟩
  ·rw[Ñ (by lia)];exact .inl (by rw[h.c _ (by lia) (by lia)];exact h.b i (by lia))
 ·rw[Ñ (by lia),Ñ (by lia)];exact h.a i j e (by lia)
def Dn.one (h:Dn key p n 0 N):O9 key p n:=λi j c d=>by
 by_cases f:j<n-1
 ·exact h.a i j c (by lia)
 ·have e:j=n-1:=by lia
  rw[e];exact .inl (h.b i (by lia))
def Dn.start (d:Pm p n N)(f:1<=n)(c:n<N)(h:O9 key p n)(k:O.klt (key (dV p n)) (key (dV p (n-1)))):Dn key p (n+1) 0 N:=by
 refine⟨d.succ c,by lia,h,λi l=>?_,λi a b=>?_,λi j a b g=>by lia⟩
 ·show O.klt (key (dV p n)) _;by_cases e:i=n-1
  ·rw[e];exact k
  ·exact fu k (h i (n-1) (by lia) (by lia)).kle
 ·rw[show i=n+1-1 by lia]
theorem y_:∀f p n q,n+f<=N->Dn key p n q N->∃r,dy (lI O key) (fA f p n q)=r/\Dn key r.1 r.2.1 r.2.2 N/\n<=r.2.1/\r.2.1<=n+f/\r.1.Perm p
 |0,p,n,q,B,h=>⟨_,rfl,h,Î _,Î _,bB _⟩
 |f+1,p,n,q,B,h=>by
  have I:=h.lq;have J:=h.pm.sz;by_cases c:lI O key (dV p n) (dV p (n-1))=true
  ·have o:∀g:ę Nat,Pm g n N->O9 key g n->g.Perm p->dV g n=dV p n->key (dV g (n-1))=key (dV p (n-1))->∃r,dy (lI O key) (fA f g (n+1) 0)=r/\Dn key r.1 r.2.1 r.2.2 N/\n<=r.2.1/\r.2.1<=n+(f+1)/\r.1.Perm p:=λg C D E F G=>by
    obtain⟨r,e,k,v,w,l⟩:=y_ f g (n+1) 0 (by lia) (.start C (by lia) (by lia) D (by rw[F,G];exact c));exact⟨r,e,k,by lia,by lia,l.trans E⟩
   have e:dy (lI O key) (fA (f+1) p n q)=if q > 0 then dy (lI O key) (fA f (lN p (n-(q+1)) n) (n+1) 0)else dy (lI O key) (fA f p (n+1) 0):=(dZ ..).trans ((Ë c).trans (dZ ..))
   rw[e];by_cases s:q > 0
   ·rw[Ë s];exact o _ (h.pm.rev (Î _)) h.rev (tY _ _ _ _) (by rw[hV (by lia),Ñ (by lia)]) (by rw[hV (by lia),Ë (by lia)];exact h.c _ (by lia) (by lia))
   ·rw[Ñ s];have:q=0:=by lia
    subst this;exact o p h.pm h.one (bB _) rfl rfl
  ·have e:dy (lI O key) (fA (f+1) p n q)=if lI O key (dV p (n-1)) (dV p n)=true then (p,n,q)else dy (lI O key) (fA f p (n+1) (q+1)):=(dZ ..).trans ((Ñ c).trans (dZ (lI O key) (c:=lI O key (dV p (n-1)) (dV p n)=true) (.ret (p,n,q)) (fA f p (n+1) (q+1))))
   rw[e];by_cases d:lI O key (dV p (n-1)) (dV p n)=true
   ·rw[Ë d];exact⟨_,rfl,h,Î _,(by show n<=n+(f+1);lia),bB _⟩
   ·rw[Ñ d];have m:key (dV p n)=key (dV p (n-1)):=O.total _ _ (by simpa using c) (by simpa using d);have x:n+1-(q+1+1)=n-(q+1):=by lia
    have A:dV p n=n:=h.pm.hi n (Î _) (by lia);obtain⟨r,e,k,v,w,l⟩:=y_ f p (n+1) (q+1) (by lia) ⟨h.pm.succ (by lia),by lia,by rw[x];exact h.a,λi u=>by
      show O.klt (key (dV p n)) _;rw[m];exact h.b i (by lia),λi y t=>by
      show _=key (dV p n);by_cases u:i=n
      ·rw[u]
      ·rw[m];exact h.c i (by lia) (by lia),λi j y t H=>by
      by_cases z:j=n
      ·rw[z,A];exact h.pm.lo i (by lia)
      ·exact h.d i j (by lia) t (by lia)⟩
    exact⟨r,e,k,by lia,by lia,l⟩
def Cn (key:Nat->O.α)(N:Nat)(p:ę Nat)(r:Nat×ę Nat):Prop:=Az key r.2 r.1/\1<=r.1/\Pm r.2 r.1 N/\r.2.Perm p
def BM (d:1<=n)(a:Pm p n N)(h:O9 key p n):Cn key N p (dy (lI O key) (Lb n N p)):=by
 have m:=a.sz;have hl:=a.le;have f:Az key (lN p 0 n) n:=λi j k l=>by
  rw[hV (by lia),hV (by lia),Ë (by lia),Ë (by lia)];exact h _ _ (by lia) (by lia)
 obtain⟨r,e,b,c,g,_⟩:=Cr (N-n) n d (by lia) (a.rev (Î _)) f;unfold Lb;rw[jg,e];exact⟨b,(by show 1<=r;lia),c,tY _ _ _ _⟩
def sX (j:1<=n)(k:n<N)(l:Pm p n N)(h:O9 key p n)(hl:O.klt (key (dV p n)) (key (dV p (n-1)))):Cn key N p (dy (lI O key) (i8 n N p)):=by
 obtain⟨r,e,a,m,o,g⟩:=y_ (key:=key) (N-(n+1)) p (n+1) 0 (by lia) (.start l j k h hl);unfold i8;rw[jg,e,dZ];split
 ·obtain⟨b,c,d,f⟩:=BM (by lia) (a.pm.rev (Î _)) a.rev;exact⟨b,c,d,f.trans ((tY _ _ _ _).trans g)⟩
 ·rename_i i;have i:r.2.2=0:=by lia
  rw[i]at a;obtain⟨b,c,d,f⟩:=BM (by lia) a.pm a.one;exact⟨b,c,d,f.trans g⟩
def Hr (w:1<=N)(h:Pm p 1 N):Cn key N p (dy (lI O key) (La N p)):=by
 obtain⟨n,e,b,a,d,v,k⟩:=Cr (key:=key) (p:=p) (N-1) 1 (Î _) (by lia) h (λi j r g=>by lia);have x:=h.sz;unfold La;rw[jg,e,dZ];split
 ·exact⟨b,d,a,bB _⟩
 ·rename_i t;have u:n≠N:=by simpa using t
  have hl:=k (by lia);rw[dZ];split
  ·rename_i r;show Cn key N p (dy (lI O key) (if lI O key (dV p 0) (dV p (n-1))=true then .ret (n,p)else i8 n N (lN p 0 n)));rw[dZ];split
   ·exact⟨b,d,a,bB _⟩
   ·rename_i c;obtain⟨l,m,o,q⟩:=sX (key:=key) (p:=lN p 0 n) d (by lia) (a.rev (Î _)) (λi j g s=>by
      rw[hV (by lia),hV (by lia),Ë (by lia),Ë (by lia)];exact b _ _ (by lia) (by lia))
     (by
      rw[hV (by lia),hV (by lia),Ñ (by lia),Ë (by lia),show 0+n-1-(n-1)=0 by lia];exact fu hl (Cd c))
    exact⟨l,m,o,q.trans (tY _ _ _ _)⟩
  ·have f:n=1:=by lia
   subst f;exact sX (by lia) (by lia) a (λi j g s=>by lia) hl
theorem vU (h:Az key p k)(j:∀i,i<k->dV p i<dV p k):∀f l r,l<=r->r<=k->r-l<=f->(∀i,i<l->Ah key (dV p i) (dV p k))->(∀i,r<=i->i<k->Ah key (dV p k) (dV p i))->
  ∃m,dy (lI O key) (hR p k f l r)=m/\m<=k/\(∀i,i<m->Ah key (dV p i) (dV p k))/\∀i,m<=i->i<k->Ah key (dV p k) (dV p i)
 |0,l,r,s,n,t,b,d=>⟨l,rfl,by lia,b,λi o a=>d i (by lia) a⟩
 |f+1,l,r,s,n,t,b,d=>by
  have e:dy (lI O key) (hR p k (f+1) l r)=if l≥r then l else if lI O key (dV p k) (dV p ((l+r) / 2))=true then dy (lI O key) (hR p k f l ((l+r) / 2))else dy (lI O key) (hR p k f ((l+r) / 2+1) r):=by
   refine(dZ ..).trans ?_;congr 1;exact dZ ..
  rw[e];by_cases hl:l≥r
  ·rw[Ë hl];exact⟨l,rfl,by lia,b,λi o a=>d i (by lia) a⟩
  ·rw[Ñ hl];by_cases c:lI O key (dV p k) (dV p ((l+r) / 2))=true
   ·rw[Ë c];refine vU h j f l ((l+r) / 2) (by lia) (by lia) (by lia) b λi o a=>?_;by_cases q:i=(l+r) / 2
    ·rw[q];exact .inl c
    ·exact Ah.trans (.inl c) (h _ i (by lia) a)
   ·rw[Ñ c];have g:Ah key (dV p ((l+r) / 2)) (dV p k):=.OH c (j _ (by lia));refine vU h j f ((l+r) / 2+1) r (by lia) n (by lia) (λi q=>?_) d;by_cases e:i=(l+r) / 2
    ·rw[e];exact g
    ·exact(h i ((l+r) / 2) (by lia) (by lia)).trans g
def Pd {p:ę Nat}(c:k<p.size)(hl:l<=k)(i:Nat):dV (Fb p k (k-l)) i=if i=l then dV p k else if l<i/\i<=k then dV p (i-1)else dV p i:=by
 have h:=getElem?_bubble (xs:=p) c (k-l) (by lia) i;rw[show k-(k-l)=l by lia]at h;by_cases b:i=l
 ·rw[Ë b]at h⊢;exact qu h
 ·rw[Ñ b]at h⊢;by_cases a:l<i/\i<=k
  ·rw[Ë a]at h⊢;exact qu h
  ·rw[Ñ a]at h⊢;exact qu h
theorem u6:∀f p k,k+f=N->Pm p k N->Az key p k->∃r,dy (lI O key) (Ly f p k)=r/\Az key r N/\r.size=N/\r.Perm p
 |0,p,k,o,a,h=>⟨p,rfl,(by rw[<-o];exact h),a.sz,bB _⟩
 |f+1,p,k,o,a,h=>by
  have B:=a.sz;have s:dV p k=k:=a.hi k (Î _) (by lia);obtain⟨l,e,t,u,v⟩:=vU (key:=key) h (λi b=>by rw[s];exact a.lo i b) k 0 k (ÿ _) (Î _) (by lia) (λi b=>by lia) (λi m n=>by lia);have z:dy (lI O key) (Ly (f+1) p k)=dy (lI O key) (Ly f (Fb p k (k-l)) (k+1)):=by
   show dy (lI O key) ((hR p k k 0 k).bind λl=>Ly f (Fb p k (k-l)) (k+1))=_;rw[jg,e]
  have g:=Pd (p:=p) (k:=k) (by lia) t;have D:Az key (Fb p k (k-l)) (k+1):=λi j m n=>by
   rw[g,g];by_cases b:i=l
   ·rw[Ë b,Ñ (by lia),Ë (by lia)];exact v (j-1) (by lia) (by lia)
   ·rw[Ñ b];by_cases c:l<i/\i<=k
    ·rw[Ë c,Ñ (by lia),Ë (by lia)];exact h _ _ (by lia) (by lia)
    ·rw[Ñ c];by_cases q:j=l
     ·rw[Ë q];exact u i (by lia)
     ·rw[Ñ q];by_cases d:l<j/\j<=k
      ·rw[Ë d];exact h _ _ (by lia) (by lia)
      ·rw[Ñ d];exact h _ _ m (by lia)
  have C:Pm (Fb p k (k-l)) (k+1) N:=by
   refine⟨(bubble_size _ _ _).trans B,by lia,λi b=>?_,λi m n=>?_⟩
   ·rw[g];split
    ·rw[s];lia
    ·split
     ·exact eg (a.lo _ (by lia))
     ·exact eg (a.lo _ (by lia))
   ·rw[g,Ñ (by lia),Ñ (by lia)];exact a.hi i (by lia) n
  obtain⟨r,A,w,x,y⟩:=u6 f (Fb p k (k-l)) (k+1) (by lia) C D;exact⟨r,z.trans A,w,x,y.trans (bubble_perm _ _ _)⟩
def EN (f:1<=n):let r:=dy (lI O key) (pk n);Az key r n/\r.size=n/\r.Perm (Ħ (ø n)):=by
 have m:(Ħ (ø n)).size=n:=by simp
 have g:∀i,i<n->dV (Ħ (ø n)) i=i:=λi a=>by simp[dV,Array.getD,a]
 obtain⟨c,o,b,d⟩:=Hr (key:=key) (p:=Ħ (ø n)) f ⟨m,f,λi a=>by rw[g i (by lia)];exact a,λi _ a=>g i a⟩;unfold pk;rw[jg];generalize dy (lI O key) (La n (Ħ (ø n)))=r at *
 have hl:=b.le;rw[dZ];split
 ·have l:max r.1 1=r.1:=by lia
  rw[l];obtain⟨q,e,h,j,k⟩:=u6 (key:=key) (n-r.1) r.2 r.1 (by lia) b c;rw[e];exact⟨h,j,k.trans d⟩
 ·have:r.1=n:=by lia
  exact⟨(by show Az key r.2 n;rw[<-this];exact c),b.sz,d⟩
end
def qo {α:Type}(n:Nat)(A:α->Prop):WC α->Prop
 |.ret a=>A a
 |.ask i j k=>i<n/\j<n/\∀b,qo n A (k b)
theorem qo.bind {α d:Type}{A:α->Prop}{Pq:d->Prop}{f:α->WC d}(c:∀a,A a->qo n Pq (f a)):∀{t:WC α},qo n A t->qo n Pq (t.bind f)
 |.ret a,h=>c a h
 |.ask i j k,h=>⟨h.1,h.2.1,λb=>qo.bind c (h.2.2 b)⟩
def AllLt (n:Nat)(p:ę Nat):Prop:=∀i,p.getD i 0<n
def allLt_of (a:1<=n)(h:∀x∈p.toList,x<n):AllLt n p:=λi=>by
 rw[Ÿ];cases e:p[i]? with
 |none=>exact a
 |some x=>exact h x (by rw[o_];exact Array.mem_of_getElem? e)
def AllLt.rev (b:1<=n)(h:AllLt n p)(i j:Nat):AllLt n (lN p i j):=allLt_of b λx f=>by
 have:x∈p.toList:=by
  have d:=(tY p i j ((j-i) / 2))
  exact(eA.mp d).mem_iff.mp f
 obtain⟨k,c,e⟩:=ĩ this;have:=h k;rw[Ÿ]at this;have a:p[k]?=À x:=by rw[<-aD,Å c,e]
 rw[a]at this;exact this
def AllLt.bub (b:1<=n)(h:AllLt n p)(i j:Nat):AllLt n (Fb p i j):=allLt_of b λx d=>by
 have:x∈p.toList:=(eA.mp (bubble_perm p i j)).mem_iff.mp d;obtain⟨k,c,e⟩:=ĩ this;have:=h k;rw[Ÿ]at this;have a:p[k]?=À x:=by rw[<-aD,Å c,e]
 rw[a]at this;exact this
theorem Cq (h:AllLt n p):∀f m,qo n (λ_=>True) (kas_asc p f m)
 |0,m=>trivial
 |f+1,m=>⟨h _,h _,λb=>by
  show qo n _ (if b=true then .ret m else kas_asc p f (m+1));split
  ·trivial
  ·exact Cq h f (m+1)⟩
theorem uE (a:1<=n):∀(f:Nat) {p:ę Nat}(m q:Nat),AllLt n p->qo n (λr=>AllLt n r.1) (fA f p m q)
 |0,p,m,q,h=>h
 |f+1,p,m,q,h=>⟨h _,h _,λb=>by
  show qo n _ (if b=true then (if q > 0 then fA f (lN p (m-(q+1)) m) (m+1) 0 else fA f p (m+1) 0)else .ask (p.getD (m-1) 0) (p.getD m 0) λd=>if d=true then .ret (p,m,q)else fA f p (m+1) (q+1));split
  ·split
   ·exact uE a f _ _ (h.rev a _ _)
   ·exact uE a f _ _ h
  ·refine⟨h _,h _,λd=>?_⟩;show qo n _ (if d=true then .ret (p,m,q)else fA f p (m+1) (q+1));split
   ·exact h
   ·exact uE a f _ _ h⟩
def BL (c:1<=n){p:ę Nat}(h:AllLt n p)(m b:Nat):qo n (λr=>AllLt n r.2) (Lb m b p):=by
 have a:=Cq (h.rev c 0 m) (b-m) m;unfold Lb;refine qo.bind (Pq:=λr:Nat×ę Nat=>AllLt n r.2) (λq _=>?_) a;exact h.rev c 0 m
def sW (b:1<=n){p:ę Nat}(h:AllLt n p)(m a:Nat):qo n (λr=>AllLt n r.2) (i8 m a p):=
 qo.bind (λr hr=>by
  show qo n _ (if r.2.2 > 0 then _ else _);split
  ·exact BL b (AllLt.rev b hr _ _) _ _
  ·exact BL b hr _ _) (uE b _ _ _ h)
def Hq (b:1<=n){p:ę Nat}(h:AllLt n p)(a:Nat):qo n (λr=>AllLt n r.2) (La a p):=
 qo.bind (λm _=>by
  show qo n _ (if (m == a)=true then .ret (m,p)else if m > 1 then .ask (p.getD 0 0) (p.getD (m-1) 0) λc=>if c=true then .ret (m,p)else i8 m a (lN p 0 m)else i8 m a p);split
  ·exact h
  ·split
   ·refine⟨h _,h _,λc=>?_⟩;show qo n _ (if c=true then .ret (m,p)else i8 m a (lN p 0 m));split
    ·exact h
    ·exact sW b (h.rev b _ _) _ _
   ·exact sW b h _ _) (Cq h _ _)
theorem vT (h:AllLt n p)(k:Nat):∀f l r,qo n (λ_=>True) (hR p k f l r)
 |0,l,r=>trivial
 |f+1,l,r=>by
  show qo n _ (if l≥r then .ret l else .ask (p.getD k 0) (p.getD ((l+r) / 2) 0) λc=>if c=true then hR p k f l ((l+r) / 2)else hR p k f ((l+r) / 2+1) r);split
  ·trivial
  ·refine⟨h _,h _,λc=>?_⟩;show qo n _ (if c=true then hR p k f l ((l+r) / 2)else hR p k f ((l+r) / 2+1) r);split
   ·exact vT h k f _ _
   ·exact vT h k f _ _
theorem Hc (a:1<=n):∀(f:Nat) {p:ę Nat}(k:Nat),AllLt n p->qo n (λ_=>True) (Ly f p k)
 |0,p,k,h=>trivial
 |f+1,p,k,h=>qo.bind (λl _=>Hc a f _ (h.bub a _ _)) (vT h k k 0 k)
def EM (a:1<=n):qo n (λ_=>True) (pk n):=
 qo.bind (λr hr=>by
  show qo n _ (if r.1<n then _ else _);split
  ·exact Hc a _ _ hr
  ·trivial) (Hq a (allLt_of a λx b=>by simpa using b) n)
theorem KC (c:∀i j C,i<n->j<n->C (lt i j) s->cmp i j C s):∀{t:WC α},qo n (λ_=>True) t->Q (dy lt t) s->t.kasWp cmp Q s
 |.ret a,_,h=>h
 |.ask i j k,b,h=>c i j _ b.1 b.2.1 (KC c (b.2.2 _) h)
section
variable {prog:Č}{w:Ī}{A:Œ}{E:Value->Ú->Prop}{s:Ú}{a:Addr}{vs:Á Value}
def NM {O:KeyOrd}{key:Nat->O.α}{κ:ph}{P:Lu->Ú->Prop}(l:s.heap.get? a=À (Ē "list" vs.toArray n)) (F:2<=vs.length)(q:vs.length<64)
  (t:∀h':Heap,(∀b o,b≠a->s.heap.get? b=À o->h'.get? b=À o)->∀Q:ph->Ú->Prop,Q κ {s with heap:=h'}->Ü (à prog w) A (O0 vs.toArray) Q (λ_ _=>False) {s with heap:=h'})
  (G:∀h':Heap,(∀b o,b≠a->s.heap.get? b=À o->h'.get? b=À o)->∀i j C,i<vs.length->j<vs.length->C (O.blt (key i) (key j)) {s with heap:=h'}->Ü (à prog w) A (keyLt' κ (vs.getD i õ) (vs.getD j õ)) C (λ_ _=>False) {s with heap:=h'})
  (h:∀p:ę Nat,Az key p vs.length->p.size=vs.length->p.Perm (Ħ (ø vs.length))->P (.done (.ret .none)) {s with heap:=sortedHeap s.heap a vs (Ħ (p.toList.map λi=>vs.getD i õ))}) :
  Ü (à prog w) A (cD.«list.sort» ⟨[.ref a],[]⟩) P E s:=by
 have M:a<s.heap.objs.size:=Ó l;obtain⟨m,g⟩:∃m,(s.heap.update a (û λ_=>(#[]:ę Value))).get? a=À (Ē "list" #[] m):=⟨_,k_ l λ_=>#[]⟩
 rw[Zi];refine Â (yH l rfl ?_);refine Â (eM l rfl ?_ (by rw[Û,ĉ];lia) (ÿ _));refine Â (n6 g rfl ?_);refine Â (t6 ?_ (by show vs.length<=_;rw[ĉ];lia));refine Â (gB ?_ (ÿ _));refine ő ?_;show Ü (à prog w) A _ P E {s with heap:=((s.heap.update a (û λ_=>(#[]:ę Value))).push (Ē "tuple" vs.toArray 0)).push (Ē "list" #[] 0)};dsimp only;have f:¬vs.toArray.size<2:=by rw[Û];lia
 rw[Ñ f,Ñ f];have d:∀b o,b≠a->s.heap.get? b=À o->(((s.heap.update a (û λ_=>(#[]:ę Value))).push (Ē "tuple" vs.toArray 0)).push (Ē "list" #[] 0)).get? b=À o:=λb o H e=>
  Ä _ (Ä _ ((ê _ _ (Ō H)).trans e))
 refine Â (aE (t _ d _ ?_) (λκ Z t=>t) λ_ _ x=>x.elim);have ask:=KC (cmp:=kas_ask prog w A κ vs) (lt:=lI O key) (s:={s with heap:=((s.heap.update a (û λ_=>(#[]:ę Value))).push (Ē "tuple" vs.toArray 0)).push (Ē "list" #[] 0)})
  (Q:=λp v=>p=dy (lI O key) (pk vs.length)/\v={s with heap:=((s.heap.update a (û λ_=>(#[]:ę Value))).push (Ē "tuple" vs.toArray 0)).push (Ē "list" #[] 0)}) (λi j C J L hC=>G _ d i j C J L hC) (EM (by lia)) ⟨rfl,rfl⟩
 refine Â (aE (kat_run (Q:=λc s'=>∃p:ę Nat,p.size=vs.length/\arrOf c=p.map (kas_item (vs.toArray.zip vs.toArray))/\failedOf c=none/\p=dy (lI O key) (pk vs.length)/\s'={s with heap:=((s.heap.update a (û λ_=>(#[]:ę Value))).push (Ē "tuple" vs.toArray 0)).push (Ē "list" #[] 0)})
  rfl F q (λT c s' z B D y=>⟨T,z,B,D,y.1,y.2⟩) ask) ?_ λ_ _ e=>e)
 rintro⟨⟨⟩,c⟩ s' ⟨p,N,r,I,rfl,rfl⟩;dsimp only;have k:=kat_snds rfl r;have u:(Ħ ((dy (lI O key) (pk vs.length)).toList.map λi=>vs.getD i õ)).size=vs.length:=by rw[Û,Ê,ĳ,N]
 rw[k];have na:(((s.heap.update a (û λ_=>(#[]:ę Value))).push (Ē "tuple" vs.toArray 0)).push (Ē "list" #[] 0)).get? a=À (Ē "list" #[] m):=Ä _ (Ä _ g);refine Â (n6 na rfl ?_);refine Â (eM na rfl ?_ (ÿ _) (đ (ki u) (by rw[ĉ];lia)));rw[I];simp only[yD,Ŵ,fz];obtain⟨U,X,Y⟩:=EN (key:=key) (n:=vs.length) (by lia);exact Ì (h _ U X Y)
end
end Mm
namespace L2
open PySem PySem.Spec PyProof.Rows
def Ş.pS (x:Ş P w H h a o):∃u,h.get? a=À u:=by
 cases o with
 |lst xs=>obtain⟨_,_,_,_,e⟩:=x;exact⟨_,e⟩
 |tup xs=>obtain⟨_,_,_,⟨_,e,_⟩⟩:=x;exact⟨_,e⟩
 |dK b=>obtain⟨_,_,_,_,o,_,_,e,_⟩:=x;exact⟨_,e⟩
 |dT b=>obtain⟨_,_,_,_,o,_,_,e,_⟩:=x;exact⟨_,e⟩
 |set S n=>obtain⟨o,_,_,_,e,_⟩:=x;exact⟨_,e⟩
 |ins C d c=>obtain⟨_,_,_,e,_⟩:=x;exact⟨_,e⟩
 |own y=>obtain⟨_,e⟩:=x;exact⟨_,e⟩
 |xd c=>obtain⟨_,⟨_,_,_,e,_⟩,_⟩:=x;exact⟨_,e⟩
 |Vc lo g=>obtain⟨_,_,_,e⟩:=x;exact⟨_,e⟩
 |iS i u=>obtain⟨e,_⟩:=x;exact⟨_,e⟩
 |qX j=>exact⟨_,show h.get? a=À _ from x⟩
 |met f y=>exact⟨_,show h.get? a=À _ from x⟩
 |ext k=>obtain⟨_,⟨_,e⟩,_⟩:=x;exact⟨_,e⟩
def Inv.grown (I:Inv X d h H s)(k:∀b u,s.heap.get? b=À u->h'.get? b=À u)(e:∀b u,s.heap.get? b=À u->H' b=H b)
  (f:∀b o,s.heap.get? b=none->H' b=À o->Ş X.prog X.w H' h' b o):Inv X d h H' {s with heap:=h',toks:=t'}:=by
 have a:∀b o,H b=À o->H' b=À o:=λb o z=>by
  obtain⟨u,hu⟩:=(I.ť b o z).pS;rw[e b u hu];exact z
 refine I.un ⟨λb u q _ _ _=>k b u q,λb u q _ _ _=>⟨u.slots,k b u q⟩,λb u q n _=>by rw[e b u q];exact n,λb u q _=>⟨u,k b u q⟩,λb xs q=>a b _ q,λb u xs q=>a b _ q,λb i q=>⟨#[],by rw[a b _ q];simp⟩⟩ λb o z=>?_;cases g:s.heap.get? b with
 |some u=>
  rw[e b u g]at z;exact(I.ť b o z).oO (λc u _ q=>k c u q) (λc q=>a c _ q) λc xs q=>a c _ q
 |none=>exact f b o g z
noncomputable def Bg (a b:Str):Bool:=!decide (b.cps.toList<a.cps.toList)
def FK (a:Str):Á Str->Á Str
 |[]=>[a]
 |b::r=>if Bg a b=true then a::b::r else b::FK a r
def ė:Á Str->Á Str
 |[]=>[]
 |a::r=>FK a (ė r)
theorem rJ (a:Str):∀l,(FK a l).Perm (a::l)
 |[]=>.refl _
 |b::r=>by
  unfold FK;split
  ·exact .refl _
  ·exact((rJ a r).cons b).trans (.swap a b r)
theorem mu:∀l,(ė l).Perm l
 |[]=>.refl _
 |a::r=>(rJ a (ė r)).trans ((mu r).cons a)
abbrev oS:KeyOrd:=strKind.toKeyOrd
abbrev Fw (a:Str):oS.α:=a.cps.toList
def j':Bg a b=true ↔ oS.kle (Fw a) (Fw b):=by
 unfold Bg VF;show(!decide (b.cps.toList<a.cps.toList))=true ↔ decide (b.cps.toList<a.cps.toList)=false;simp
def FU (a b:Str)(h:Bg a b≠true):Bg b a=true:=by
 rw[j'];refine Cd λz=>?_;exact h (j'.mpr (sP z))
def x_ (h:Bg a b=true)(k:Bg b c=true):Bg a c=true:=by
 rw[j']at *
 exact hI h k
def vA (h:Bg a b=true)(k:Bg b a=true):a=b:=by
 rw[j']at *
 have e:a.cps.toList=b.cps.toList:=EZ h k;cases a with|mk x=>cases b with|mk y=>exact Ĳ Str.mk (uP.mp e)
theorem tm (a:Str):∀{l:Á Str},l.Pairwise (λx y=>Bg x y=true)->(FK a l).Pairwise (λx y=>Bg x y=true)
 |[],_=>mZ _ _
 |b::r,h=>by
  unfold FK;split
  ·rename_i c;refine ŀ.mpr ⟨λx hx=>?_,h⟩;rcases ß.mp hx with rfl|hx
   ·exact c
   ·exact x_ c ((ŀ.mp h).1 x hx)
  ·rename_i c;refine ŀ.mpr ⟨λx hx=>?_,tm a (ŀ.mp h).2⟩;rcases ß.mp ((rJ a r).mem_iff.mp hx)with rfl|hx
   ·exact FU _ _ c
   ·exact(ŀ.mp h).1 x hx
theorem qQ:∀l,(ė l).Pairwise (λx y=>Bg x y=true)
 |[]=>ow
 |a::r=>tm a (qQ r)
theorem hE {α:Type}{le:α->α->Bool}(c:∀a b,le a b=true->le b a=true->a=b):∀{l q:Á α},l.Perm q->l.Pairwise (λx y=>le x y=true)->q.Pairwise (λx y=>le x y=true)->l=q
 |[],q,p,_,_=>(List.nil_perm.mp p).symm
 |a::r,q,p,h,k=>by
  cases q with
  |nil=>exact absurd (p.length_eq) (by simp)
  |cons b t=>
   have d:a=b:=by
    rcases ß.mp (p.mem_iff.mp Ŀ)with e|ha
    ·exact e
    ·rcases ß.mp (p.mem_iff.mpr Ŀ)with e|hb
     ·exact e.symm
     ·exact c _ _ ((ŀ.mp h).1 b hb) ((ŀ.mp k).1 a ha)
   subst d;rw[hE c p.cons_inv (ŀ.mp h).2 (ŀ.mp k).2]
def pR {l q:Á Str}(p:l.Perm q)(h:l.Pairwise (λx y=>Bg x y=true)):l=ė q:=
 hE (λ_ _=>vA) (p.trans (mu q).symm) h (qQ q)
theorem je:∀{l:Á Str},sortedS l=true->l.Pairwise (λx y=>Bg x y=true)
 |[],_=>.nil
 |[a],_=>mZ _ _
 |a::b::r,h=>by
  have h:(!ltCps b.cps.toList a.cps.toList&&risingS b r)=true:=h;rw[ċ]at h;have d:(b::r).Pairwise (λx y=>Bg x y=true):=je h.2;have c:Bg a b=true:=by
   have:=h.1;rw[ltCps_eq]at this;exact this
  refine ŀ.mpr ⟨λx hx=>?_,d⟩;rcases ß.mp hx with rfl|hx
  ·exact c
  ·exact x_ c ((ŀ.mp d).1 x hx)
theorem wh:∀{l:Á Value}{ks:Á Str},l.length=ks.length->(∀j (a:j<ks.length),∃t,l[j]?=À (.str ks[j] t))->VI l ks
 |[],[],_,_=>.nil
 |[],_::_,h,_=>by simp at h
 |_::_,[],h,_=>by simp at h
 |v::r,k::q,h,g=>by
  obtain⟨t,e⟩:=g 0 (by simp);simp at e;subst e;exact .cons k t (wh (by simpa using h) λj a=>by
   obtain⟨t,e⟩:=g (j+1) (by simpa using a);exact⟨t,by simpa using e⟩)
def Mh {kvs:Á (Key×V)}(a:KV kvs vs){ks:Á Str}(c:kvs.map (·.1)=ks.map fg) (e:vs[j]?=À (k,x)) (f:j<ks.length):k=fg ks[j]:=by
 have d:(vs.map (·.1))=kvs.map (·.1):=by
  clear c e;unfold KV at a;induction a with
  |nil=>rfl
  |cons h _ g=>rw[Ô,Ô,g,h.1]
 have b:(vs.map (·.1))[j]?=À k:=by rw[é,e];rfl
 rw[d,c,é,Å f]at b;exact(è b).symm
def RD:Á V->Hp->VK->Prop:=λxs H Q=>∃d a b,xs=[.ref d]/\H d=À (.dK a)/\a.map (·.1)=b.map fg/\b.length<64/\∀l,H l=none->Q (.ref l) (upd H l (.lst ((ė b).map V.str)))
def Cv {X:Cx}(hc:X.calm=true):bz X (.builtin "sorted") RD:=by
 rintro P s σ H xs us Q I rv ⟨d,kvs,l,rfl,hH,O,B,q⟩;obtain⟨u,rfl,ru⟩:=rv.one;cases (show u=Ò d from ru);obtain⟨z,hd,T,n,dd⟩:=HC I.ť hH;obtain⟨ep,E⟩:=dd.dictAt;have G:T.length=l.length:=by
  have v:=Ĳ b_ O;have y:=n.length;rw[Ê,Ê]at v;lia
 have hh:=I.ok.hd hc;refine fG B6 yI yG (Lw _) ?_;unfold cD.«sorted»;refine Â (m:=Fc "sorted" 1 1 _) (Ì ?_);refine Â (PySem.W.kdu_collect (A:=X.A.in1) (PySem.W.kdl_dict (knd:=ż X.prog X.w) (kvs:=T) (ep:=ep) hd) hh E (by rw[<-n.length];exact z) λf tk a h g=>?_);have hl:a.toList.length=l.length:=by rw[ĳ,g.1,G]
 have D:VI a.toList l:=wh hl λj N=>by
  have p:j<a.size:=by rw[<-ĳ,hl];exact N
  obtain⟨k,x,r,e2⟩:=g.2 j a[j] (by rw[aA p]);have ek:k=fg l[j]:=Mh n O r N;subst ek;obtain⟨t,et⟩:=GO (show Ap l[j] a[j]=true from e2);exact⟨t,by rw[aD,aA p,et]⟩
 refine Â (gB ?_ (by rw[hl];exact Ġ (ũ (by lia))));have i:(f.push (Ē "list" a.toList.toArray 0)).get? f.objs.size=À (Ē "list" a.toList.toArray 0):=Ù _ rfl;refine Â (ő (Ĩ Fg ⟨_,i,rfl⟩ Ci (list_sort_treeK strKind_oneLt i D.keysOf (λU Y rest e=>keyKind_strs (by rw[<-e];exact D)) (by rw[hl];exact B) λL Z a2=>⟨_,rfl,?_⟩) (Z' _)));obtain⟨J,v,y,h3⟩:=sorted_out_str D Z a2;have r:J=ė l:=pR y (je h3);subst r;have c:∀b u,s.heap.get? b=À u->b≠f.objs.size:=λb u e=>ò (Ó (h b u e));have C:H f.objs.size=none:=by
  cases q0:H f.objs.size with
  |none=>rfl
  |some o=>obtain⟨u,hu⟩:=(I.ť _ o q0).pS;exact absurd rfl (c _ u hu)
 obtain⟨ec,F⟩:=sortedHeap_at i (out:=(arrOf L).map (·.2));refine Ì ⟨_,rfl,.ref f.objs.size,upd H f.objs.size (.lst ((ė l).map V.str)),?_,rfl,q _ C⟩;refine I.grown (λb u e=>?_) (λb u e=>ç (c b u e)) λb o e z=>?_
 ·rw[sortedHeap_old (c b u e) (by rw[ĺ];exact eg (Ó (h b u e)))];exact Ä _ (h b u e)
 ·by_cases M:b=f.objs.size
  ·subst M;rw[ă]at z;cases z;refine⟨by rw[Ê,y.length_eq];exact Ġ (ũ (by lia)),_,ec,iM v,?_⟩;rw[F]
  ·rw[ç M]at z;obtain⟨u,hu⟩:=(I.ť b o z).pS;rw[e]at hu;cases hu
end L2
namespace Mm
open PySem PySem.W PyProof.Rows
section
variable {prog:Č}{w:Ī}{A:Œ}{E:Value->Ú->Prop}{s:Ú}{a:Addr}{vs:Á Value}
def J8 {O:KeyOrd}{key:Nat->O.α}{κ:ph}{P:Lu->Ú->Prop}(d:s.heap.get? a=À (Ē "list" vs.toArray n)) (l:vs.length<64)
  (v:∀h':Heap,2<=vs.length->(∀b o,b≠a->s.heap.get? b=À o->h'.get? b=À o)->∀Q:ph->Ú->Prop,Q κ {s with heap:=h'}->Ü (à prog w) A (O0 vs.toArray) Q (λ_ _=>False) {s with heap:=h'})
  (t:∀h':Heap,(∀b o,b≠a->s.heap.get? b=À o->h'.get? b=À o)->∀i j C,i<vs.length->j<vs.length->C (O.blt (key i) (key j)) {s with heap:=h'}->Ü (à prog w) A (keyLt' κ (vs.getD i õ) (vs.getD j õ)) C (λ_ _=>False) {s with heap:=h'})
  (h:∀p:ę Nat,Az key p vs.length->p.size=vs.length->p.Perm (Ħ (ø vs.length))->P (.done (.ret .none)) {s with heap:=sortedHeap s.heap a vs (Ħ (p.toList.map λi=>vs.getD i õ))}) :
  Ü (à prog w) A (cD.«list.sort» ⟨[.ref a],[]⟩) P E s:=by
 by_cases m:2<=vs.length
 ·exact NM d m l (λh' k=>v h' m k) t h
 ·have x:a<s.heap.objs.size:=Ó d;obtain⟨g,f⟩:∃g,(s.heap.update a (û λ_=>(#[]:ę Value))).get? a=À (Ē "list" #[] g):=⟨_,k_ d λ_=>#[]⟩
  rw[Zi];refine Â (yH d rfl ?_);refine Â (eM d rfl ?_ (by rw[Û,ĉ];lia) (ÿ _));refine Â (n6 f rfl ?_);refine Â (t6 ?_ (by show vs.length<=_;rw[ĉ];lia));refine Â (gB ?_ (ÿ _));refine ő ?_;show Ü (à prog w) A _ P E {s with heap:=((s.heap.update a (û λ_=>(#[]:ę Value))).push (Ē "tuple" vs.toArray 0)).push (Ē "list" #[] 0)};dsimp only;have c:vs.toArray.size<2:=by rw[Û];lia
  rw[Ë c,Ë c];refine Â (Ì ?_);rw[Lv];refine Â (Ì ?_);dsimp only;have na:(((s.heap.update a (û λ_=>(#[]:ę Value))).push (Ē "tuple" vs.toArray 0)).push (Ē "list" #[] 0)).get? a=À (Ē "list" #[] g):=Ä _ (Ä _ f);refine Â (n6 na rfl ?_);refine Â (eM na rfl ?_ (ÿ _) (by rw[Array.size_map];show(pairsOf vs).size<=_;rw[pairsOf_size,ĉ];lia));simp only[yD,Ŵ,fz];have q:=h (Ħ (ø vs.length)) (λi j y z=>by lia) (by simp) (bB _);have e:Ħ ((Ħ (ø vs.length)).toList.map λi=>vs.getD i õ)=(vs.toArray.zip vs.toArray).map (·.2):=by
   apply uP.mp;apply eZ
   ·simp
   ·intro i r B;have u:i<vs.length:=by simpa using r
    simp[u]
  rw[e]at q;exact Ì q
end
end Mm
namespace L2
open PySem PySem.Spec PyProof.Rows
def Ib {as:Á Addr}(nd:as.Nodup)(b:j<as.length):as.idxOf as[j]=j:=by
 have a:=List.idxOf_lt_length_of_mem (e8 b);exact(bw nd).mp (List.getElem_idxOf a)
def nq (h:Q true s):Ü (à prog w) A (eqBool v v) Q E s:=by
 unfold eqBool;refine ő ?_;rw[Ë (Aq v)];exact Â (b9 (Ì h))
end L2
namespace Mm
open PySem L2
noncomputable def ke:Á (Key×AV)->Ð (Á Str)
 |[]=>À []
 |(.inr x,_)::r=>(ke r).map (x::·)
 |_::_=>none
theorem tI:∀{kvs:Á (Key×AV)}{ks:Á Str},ke kvs=À ks->kvs.map (·.1)=ks.map fg
 |[],_,h=>by cases h;rfl
 |(.inr x,v)::r,ks,h=>by
  have h:(ke r).map (x::·)=À ks:=h;cases e:ke r with
  |none=>rw[e]at h;cases h
  |some q=>rw[e]at h;cases h;rw[Ô,tI e];rfl
 |(.inl x,v)::r,ks,h=>by cases h
def pB (m:Ev):gh:=λa s=>(m a s).bind λv d=>match v with
 |.ref i=>need (jS d i) λb=>need (ke b) λc=>if c.length<64 then .ok ((ė c).map .str) d else .bad
 |_=>.bad
section
variable {T:Tx}{XE:iQ}{X:Cx}{pos:kU}
def IT (u:X.mg "sorted"=none)(h:PE X e (tE T XE m)) (f:X.calm=true:=by rfl)(t:Gl X "sorted":=by rfl)(d:Ï [e] X.env=(false,Ė e X.env)::Ï [] X.env:=by rfl) (g:(Ģ pos (Ï [] X.env)).any (·.1)=false:=by rfl) :
  PE X (.Call (.Name "sorted" p) [e] [] pos) (tL T XE (pB m)):=
 PE.imp (cZ (Cv f) t u ŧ (aR h eJ d) (by decide) (by decide) d g) λN H Q D=>ň D λM o s y d w=>step y d w λv J E F x _ L c q j b=>by
  cases v with
  |ref i=>
   obtain⟨A,k,b⟩:=b.ô;obtain⟨z,n,b⟩:=b.ô;obtain⟨hl,b⟩:=b.Ś;obtain⟨a,C,rfl,G,r,B,I⟩:=c.AL (j6 k) j;exact⟨a,C,z,rfl,r,by rw[<-B];exact tI n,hl,λl hl=>b.lst c hl (Ĥ.map (λ_=>iN) _)⟩
  |_=>exact b.elim
end
end Mm
namespace Ro
open PySem L2 Mm
def Zy (env:En):Nat:=match (env[(1:Nat)]?:Ð (Ð AV))with
 |some (À (.int i))=>i.natAbs+1
 |_=>0
def Ol (env:En):Nat:=match (env[(4:Nat)]?:Ð (Ð AV))with
 |some (À (.int i))=>i.natAbs+1
 |_=>0
def oh:AV:=.tup [.int 0,.int 1]
def xX:AV:=.tup [.int 1,.int 1]
def lP:Ms:=
 (ā (Ů 1 (Ĝ (qe vW (vv (vG (mv 0) oN (oS (mc (.int 63))))))))
 (ā (fD (TB (cB (Õ ag (mv 1) (Ĝ (ŷ Ø))))) (Ů 1 (Ĝ (ŷ (Ã (mc (.int 7)) Ø)))) ı)
 (Ķ (gv [((mc (.str "cells")),(mv 1)),((mc (.str "turn")),(mc (.int 0)))]))))
def dX:Á AV->S->R AV:=dq 2 lP
def m9:Ms:=
 (ā (Ů 2 (Õ Ł (Õ ġ (mv 0) (mc (.str "turn"))) (mc (.int 1))))
 (ā (mG (mv 0) (mc (.str "turn")) (mv 2))
 (ā (Ů 3 (Õ kb (mv 2) (zr jH (Ã (Õ ġ (mv 0) (mc (.str "cells"))) Ø))))
 (ā (Ů 4 (Õ ĝ (Õ ġ (mv 0) (mc (.str "cells"))) (mv 3)))
 (ā (fD (cB (Õ F6 (mv 4) (Õ tH (mc (.int 10)) (mc (.int 18))))) (ā (BF (zr nN (Ã (mv 4) (Ã (mv 1) Ø))) (gT 2 (ï (nA (Õ ġ (mv 0) (mc (.str "cells"))) (mv 3)) (ï (gN 6) aY))))
 (Ķ (mv 6))) ı)
 (ā (Ů 5 (Õ kb (Õ nO (Õ Ł (Õ Ł (Õ kb (mv 4) (mc (.int 2147483629))) (Õ nO (Õ nO (mv 2) (mv 2)) (mc (.int 7919)))) (mc (.int 11))) (mc (.int 48271))) (mc (.int 2147483647))))
 (ā (Ů 5 (Õ kb (Õ nO (mv 5) (mv 5)) (mc (.int 2147483587))))
 (Ķ (Õ kb (Õ sy (Õ kb (Õ nO (Õ Ł (mv 5) (Õ nO (mv 2) (mc (.int 104729)))) (mc (.int 39373))) (mc (.int 2147483629))) (mc (.int 64))) (mv 1))))))))))
def í:Á AV->S->R AV:=dq 7 m9
def du (a:Á AV->S->R AV):Ms:=
 (ā (fD (cB (Õ o7 (mv 1) (mc .Ğ))) (Ķ (Õ o7 (mv 0) (mc .Ğ))) ı)
 (ā (fD (Hf (cT (az (eh "list") (mv 1))) (cT (az (eh "tuple") (mv 1)))) (ā (fD (cB (Õ uo (az (eh "list") (mv 0)) (az (eh "list") (mv 1)))) (Ķ (mc (.bl false))) ı)
 (ā (fD (Hf (cB (Õ uo (az (eh "tuple") (mv 0)) (az (eh "tuple") (mv 1)))) (cB (Õ uo (zr jH (Ã (mv 0) Ø)) (zr jH (Ã (mv 1) Ø))))) (Ķ (mc (.bl false))) ı)
 (Ķ (qe Gf (ak [("_law_one",none),("_law_other",none)] (J9 (mv 0) (mv 1)) (gT 2 (ï (gN 0) (ï (gN 1) aY))) iu (ó 2 a (Ã (mv 0) (Ã (mv 1) Ø)))))))) ı)
 (ā (fD (cT (az (eh "str") (mv 1))) (Ķ (FX (az (eh "str") (mv 0)) (Õ ag (mv 0) (mv 1)))) ı)
 (Ķ (FX (az (eh "int") (mv 0)) (FX (az Js (az (eh "bool") (mv 0))) (Õ ag (mv 0) (mv 1))))))))
def Ę:Nat->Á AV->S->R AV
 |0=>λ_ _=>.bad
 |n+1=>dq 2 (du (Ę n))
def ky:Ms:=
 (ā (mr 3 4 (Ã (zr yh (Ã (mv 0) Ø)) (Ã (zr yh (Ã (mv 1) Ø)) Ø)))
 (ā (NI (λa _=>Ol a) (cB (Õ C3 (mv 4) (mc (.int 0)))) (mr 3 4 (Ã (mv 4) (Ã (Õ kb (mv 3) (mv 4)) Ø))))
 (ā (Ů 2 (IE (cB (Õ C4 (mv 1) (mc (.int 0)))) (az tF (mc (.int 1))) (mc (.int 1))))
 (Ķ (cA (Ã (Õ sy (Õ nO (mv 2) (mv 0)) (mv 3)) (Ã (Õ sy (Õ nO (mv 2) (mv 1)) (mv 3)) Ø)))))))
def bU:Á AV->S->R AV:=dq 5 ky
def lR:Ms:=
 (ā (Ů 2 (Ĝ (HZ "str" qN (mc (.str "b aa zebra c quartzes ab m knows d mm likes z ba abcdefgh y zz e x f g hh jj kk pave")) (Ã (mc (.str " ")) Ø))))
 (Ķ (Ĝ (ak [("_law_turn",none),("_law_some",À 2),("_law_state",À 0)] (zL (Ã (mv 1) Ø)) (gN 0) iu (jT "list" yj (mv 1) (Ã (ó 2 í (Ã (mv 2) (Ã (zr jH (Ã (mv 1) Ø)) Ø))) Ø))))))
def dY:Á AV->S->R AV:=dq 3 lR
end Ro
namespace Dx
open PySem PySem.W PyProof.Rows
section
variable {prog:Č}{w:Ī}{A:Œ}{E:Value->Ú->Prop}{s:Ú}
noncomputable abbrev P1 (own:Value)(f:Bool)(d:Addr)(i n ep:Nat)(x y:Value):Obj:={cls:=.type "dict_itemiterator",data:=.fields #[own,.bool f,.ref d,.int i 0,.int n 0,.int ep 0,x,y]}
abbrev pr (e:Ac):Obj:={cls:=.type "tuple",data:=.seq #[e.key,e.val]}
def Wk (h:Heap)(c d S:Addr)(i n ep:Nat):Prop:=∃b f x y,h.get? c=À (P1 b f d i n ep x y)/\(b=.none∨∃(a:Addr) (e:Obj),b=Ŷ a/\h.get? a=À e/\a≠c/\a≠S)
def Ow:N7 ((Manifest.find? "dict_itemiterator").elim "dict_itemiterator" λx=>x.tpName)=true:=by decide+kernel
def vl {h p c:Heap}(l:g<h.objs.size)(s1:eX g h p)(m:eX g (p.push (pr e)) c) (t:c.get? g=À (P1 (Ŷ (a:Addr)) f d i n ep x y)) (r:c.get? a=À u)(k:a≠g)(j:a≠S) :
  Wk c g d S i n ep/\c.get? h.objs.size=À (pr e)/\c.objs.size=h.objs.size+1/\∀b o,b≠g->h.get? b=À o->c.get? b=À o:=
 ⟨⟨_,f,x,y,t,.inr ⟨a,u,rfl,r,k,j⟩⟩,by rw[m.2 _ (ħ l),<-s1.1];exact Ù _ rfl,by rw[m.1,ĺ,s1.1],
  λb o q z=>by rw[m.2 b q];exact Ä _ ((s1.2 b q).trans z)⟩
def F4 {od:Obj}{Q:Ð Value->Ú->Prop}(hw:Wk s.heap c d S i e.size ep)(O:S<s.heap.objs.size)(X:s.heap.get? d=À od)(hd:od.data=.dict e ep)(T:i<e.size)
   (C:∀h',Wk h' c d S (i+1) e.size ep->h'.get? s.heap.objs.size=À (pr e[i])->h'.objs.size=s.heap.objs.size+1->(∀b o,b≠c->s.heap.get? b=À o->h'.get? b=À o)->Q (À (.ref s.heap.objs.size)) {s with heap:=h'}):Ü (à prog w) A (gg (.ref c)) Q E s:=by
  obtain⟨j,g,M,tk,os⟩:=s;obtain⟨o1,o2,o3,o4⟩:=od;simp only at hd;subst hd;obtain⟨G,f,x,y,p,U⟩:=hw;have H:lH ⟨j,g,M,tk,os⟩ (.ref c) "dict_itemiterator":=⟨_,p,rfl⟩
  have m:c<j.objs.size:=Ó p;have N:(if (i:Int)<0 then none else e[(i:Int).toNat]?)=À e[i]:=by rw[Ñ (by lia),a7,aA T]
  unfold gg;refine Â (cR (ķ (name:=æ "__next__") H Ŭ
    (Ĩ Ŭ H pd ?_ (oT _))))
  unfold cD.«dict_itemiterator.__next__»;wp_walk
  rw[N];have k:eX c j (j.update c (Ĉ λx=>x.setIfInBounds (2+1) (Ŷ ((i:Int)+1)))):=ŵ ..;have I:(j.update c (Ĉ λx=>x.setIfInBounds (2+1) (Ŷ ((i:Int)+1)))).get? c=À (P1 G f d (i+1) e.size ep x y):=Ą _ p rfl;rcases U with rfl|⟨a,oa,rfl,P,l,v⟩
  · wp_walk
    rw[Ow,Ë rfl,Ñ (by decide+kernel)];generalize j.update c (Ĉ λx=>x.setIfInBounds (2+1) (Ŷ ((i:Int)+1)))=h at *
    have B:(h.push (pr e[i])).get? c=_:=Ä _ I;have D:=Ą (Ĉ λx=>x.setIfInBounds 6 e[i].key) B rfl;have Y:=Ą (Ĉ λx=>x.setIfInBounds (6+1) e[i].val) D rfl;have Z:=Ą (Ĉ λx=>x.setIfInBounds 0 (Ŷ h.objs.size)) Y rfl;have k6:=Ą (Ĉ λx=>x.setIfInBounds 1 (fH false)) Z rfl;have L:=(((ŵ (h.push (pr e[i])) c (Ĉ λx=>x.setIfInBounds 6 e[i].key)).trans (ŵ _ c (Ĉ λx=>x.setIfInBounds (6+1) e[i].val))).trans (ŵ _ c (Ĉ λx=>x.setIfInBounds 0 (Ŷ h.objs.size)))).trans (ŵ _ c (Ĉ λx=>x.setIfInBounds 1 (fH false)));have z:h.objs.size≠c:=by rw[k.1];exact ħ m
    obtain⟨q,r,t,u⟩:=vl (S:=S) m k L k6 ((L.2 _ z).trans (Ù _ rfl)) z (by rw[k.1];exact ħ O);refine⟨_,rfl,Ì ?_⟩;rw[show h.objs.size=j.objs.size from k.1];rw[show h.objs.size=j.objs.size from k.1]at q r t u;exact C _ q r t u
  · wp_walk
    rw[Ow,Ë rfl,Ñ (by decide+kernel)];generalize j.update c (Ĉ λx=>x.setIfInBounds (2+1) (Ŷ ((i:Int)+1)))=h at *
    have B:(h.push (pr e[i])).get? c=_:=Ä _ I;have n:(h.push (pr e[i])).get? a=À oa:=Ä _ ((k.2 a l).trans P);show Ü _ _ (loadIfAlive ((a:Int).toNat)) _ _ _;rw[a7];refine PySem.W.kdx_alive n ?_;cases f with
    |true=>
      wp_walk
      refine⟨_,rfl,Ì ?_⟩;obtain⟨q,r,t,u⟩:=vl (S:=S) m k (YF _ _) B n l v;rw[show h.objs.size=j.objs.size from k.1];exact C _ q r t u
    |false=>
      wp_walk
      have D:=Ą (Ĉ λx=>x.setIfInBounds 1 (fH true)) B rfl;have J:=ŵ (h.push (pr e[i])) c (Ĉ λx=>x.setIfInBounds 1 (fH true));refine⟨_,rfl,Ì ?_⟩;obtain⟨q,r,t,u⟩:=vl (S:=S) m k J D ((J.2 a l).trans n) l v;rw[show h.objs.size=j.objs.size from k.1];exact C _ q r t u
def F3 {od:Obj}{Q:Ð Value->Ú->Prop}(p:A.handled=none)(c:s.heap.get? h=À (P1 t f d a.size a.size ep x y)) (q:s.heap.get? d=À od)(hd:od.data=.dict a ep)
   (m:∀h',(∀b o,b≠h->s.heap.get? b=À o->h'.get? b=À o)->Q none {s with heap:=h'}):Ü (à prog w) A (gg (.ref h)) Q E s:=by
  obtain⟨r,g,j,u,os⟩:=s;obtain⟨v,z,B,C⟩:=od;simp only at hd;subst hd;have i:lH ⟨r,g,j,u,os⟩ (.ref h) "dict_itemiterator":=⟨_,c,rfl⟩
  have k:(if (a.size:Int)<0 then none else a[(a.size:Int).toNat]?)=none:=by rw[Ñ (by lia),a7,gw (Î _)]
  unfold gg;refine Â (cR (ķ (name:=æ "__next__") i Ŭ
    (Ĩ Ŭ i pd ?_ (oT _))))
  unfold cD.«dict_itemiterator.__next__»;wp_walk
  rw[k];wp_walk
  have l:A.in1.handled=none:=p;simp only[raiseNew];refine Â (G0 ?_);rw[l];refine Â (Ì (O4 ?_));refine Â (Ax (T:="StopIteration") (b:=true) ⟨_,Ù _ rfl,rfl⟩ Fe (Ì (m _ λb o n e=>?_)));exact Ä _ (Ä _ ((ê _ _ (Ō n)).trans e))
def CJ {od:Obj}{Q:Value->Ú->Prop}(e:s.heap.IsItemsView v d)(j:s.heap.get? d=À od)(hd:od.data=.dict h ep)
   (i:Q (.ref s.heap.objs.size) {s with heap:=s.heap.push (P1 .none false d 0 h.size ep .none .none)}):Ü (à prog w) A (LA (.ref v)) Q E s:=by
  obtain⟨l,g,f,m,os⟩:=s;obtain⟨n,o,p,q⟩:=od;simp only at hd;subst hd;have c:=e.typeIs (s:=⟨l,g,f,m,os⟩);obtain⟨⟨r,t,u,x⟩,k,a,b⟩:=e;simp only at a b;subst a b;refine VW c uV (Ĩ uV c PySem.F.entry_dict_items_iter ?_ (PySem.F.args_dict_items_iter_1 _));unfold cD.«dict_items.__iter__»;wp_walk
  exact⟨_,rfl,"dict_itemiterator",_,⟨_,Ù _ rfl,rfl⟩,Ŭ.lookup,i⟩
noncomputable abbrev Im (d:Addr)(i n ep:Nat):Obj:={cls:=.type "dict_keyiterator",data:=.fields #[.ref d,.int i 0,.int n 0,.int ep 0]}
def Jk {od:Obj}{Q:Ð Value->Ú->Prop}(c:s.heap.get? f=À (Im d i a.size ep)) (p:s.heap.get? d=À od)(hd:od.data=.dict a ep)(n:i<a.size)
   (l:∀h',h'.get? f=À (Im d (i+1) a.size ep)->(∀b o,b≠f->s.heap.get? b=À o->h'.get? b=À o)->Q (À a[i].key) {s with heap:=h'}):Ü (à prog w) A (gg (.ref f)) Q E s:=by
  obtain⟨q,g,j,r,os⟩:=s;obtain⟨t,u,v,x⟩:=od;simp only at hd;subst hd;have h:lH ⟨q,g,j,r,os⟩ (.ref f) "dict_keyiterator":=⟨_,c,rfl⟩
  have k:(if (i:Int)<0 then none else a[(i:Int).toNat]?)=À a[i]:=by rw[Ñ (by lia),a7,aA n]
  unfold gg;refine Â (cR (ķ (name:=æ "__next__") h ű
    (Ĩ ű h qc ?_ (pb _))))
  unfold cD.«dict_keyiterator.__next__»;wp_walk
  rw[k];wp_walk
  refine⟨_,rfl,Ì (l _ (Ą _ c rfl) λb o m e=>(ê _ _ (Ō m)).trans e)⟩
def F2 {od:Obj}{Q:Ð Value->Ú->Prop}(p:A.handled=none)(c:s.heap.get? f=À (Im d i a.size ep)) (q:a.size<=i)(r:s.heap.get? d=À od)(hd:od.data=.dict a ep)
   (m:∀h',(∀b o,b≠f->s.heap.get? b=À o->h'.get? b=À o)->Q none {s with heap:=h'}):Ü (à prog w) A (gg (.ref f)) Q E s:=by
  obtain⟨t,g,j,u,os⟩:=s;obtain⟨v,x,y,z⟩:=od;simp only at hd;subst hd;have h:lH ⟨t,g,j,u,os⟩ (.ref f) "dict_keyiterator":=⟨_,c,rfl⟩
  have k:(if (i:Int)<0 then none else a[(i:Int).toNat]?)=none:=by rw[Ñ (by lia),a7,gw q]
  unfold gg;refine Â (cR (ķ (name:=æ "__next__") h ű
    (Ĩ ű h qc ?_ (pb _))))
  unfold cD.«dict_keyiterator.__next__»;wp_walk
  rw[k];wp_walk
  have l:A.in1.handled=none:=p;simp only[raiseNew];refine Â (G0 ?_);rw[l];refine Â (Ì (O4 ?_));refine Â (Ax (T:="StopIteration") (b:=true) ⟨_,Ù _ rfl,rfl⟩ Fe (Ì (m _ λb o n e=>?_)));exact Ä _ (Ä _ ((ê _ _ (Ō n)).trans e))
def FO {od:Obj}{Q:Value->Ú->Prop}(lo:(d == b8)=false) (b:s.heap.get? d=À od)(j:od.ExactDict)(hd:od.data=.dict f ep)
   (h:Q (.ref s.heap.objs.size) {s with heap:=s.heap.push (Im d 0 f.size ep)}):Ü (à prog w) A (LA (.ref d)) Q E s:=by
  obtain⟨i,g,e,k,os⟩:=s;have a:od.cls=.type "dict":=j.1;have c:lH ⟨i,g,e,k,os⟩ (.ref d) "dict":=⟨_,b,a⟩
  obtain⟨l,m,n,o⟩:=od;simp only at hd a;subst hd a;refine VW c Al (Ĩ Al c PySem.F.entry_dict_iter ?_ (PySem.F.args_dict_iter_1 _));unfold cD.«dict.__iter__»;wp_walk
  exact⟨_,rfl,"dict_keyiterator",_,⟨_,Ù _ rfl,rfl⟩,ű.lookup,h⟩
end
end Dx
namespace L2
open PySem PySem.Spec PyProof.Rows
def oI:KeyOrd where
 α:=Int
 blt a b:=decide (a<b)
 irrefl a:=by simp
 trans a b c h k:=by simp at *;lia
 negTrans a b c h:=by simp at *;lia
 total a b h k:=by simp at *;lia
theorem om:∀{as:Á Addr}{us:Á Value},Vals (as.map V.ref) us->us=as.map Ò
 |[],_,h=>by cases h;rfl
 |a::r,_,h=>by
  cases h with
  |cons h t=>rw[Ô,<-om t];exact Ĳ (·::_) h
end L2
namespace Mm
open PySem PySem.W PyProof.Rows
def J_ {O:KeyOrd}{key:Nat->O.α}(h:Az key p p.toList.length):p.toList.Pairwise (Ah key):=by
 rw[Aj];intro i j c b a;have:=h i j a b;unfold dV at this;have g:∀i (h:i<p.toList.length),p.getD i 0=p.toList[i]:=λi h=>by rw[Ÿ,<-aD,Å h];rfl
 rw[g i c,g j b]at this;exact this
theorem sJ {as:Á Addr}:∀{l:Á Nat},(∀i∈l,i<as.length)->L2.Vals (l.map λi=>L2.V.ref (as.getD i 0)) (l.map λi=>(as.map Ò).getD i õ)
 |[],_=>.nil
 |i::r,a=>.cons (by
   have b:i<as.length:=a i Ŀ;show(as.map Ò).getD i õ=Ò (as.getD i 0);simp[b]) (sJ λx c=>a x (Ċ _ c))
section
variable {prog:Č}{w:Ī}{A:Œ}{E:Value->Ú->Prop}{s:Ú}{a:Addr}{vs:Á Value}
def Dl {ns:Á Int}{f:Value}{P:Lu->Ú->Prop}(N:s.heap.get? a=À (Ē "list" vs.toArray n)) (hl:ns.length=vs.length)(TH:vs.length<64)
  (X:∀(i:Nat) (v:Value) (k:Int),vs[i]?=À v->ns[i]?=À k->∀(h:Heap) (m:Nat),(∀b o,b≠a->s.heap.get? b=À o->h.get? b=À o)->
   Ü (à prog w) A (call f [v]) (λu s'=>∃h' Yy t,s'={s with heap:=h',toks:=Yy}/\u=.int k t/\∀b o,h.get? b=À o->h'.get? b=À o) (λ_ _=>False) {s with heap:=h,toks:=m})
  (h:∀(p:ę Nat) (h':Heap) (m c:Nat),Az (O:=L2.oI) (λi=>ns.getD i 0) p vs.length->p.size=vs.length->p.Perm (Ħ (ø vs.length))->(∀b o,b≠a->s.heap.get? b=À o->h'.get? b=À o)->
   h'.get? a=À (Ē "list" (Ħ (p.toList.map λi=>vs.getD i õ)) c)->P (.done (.ret .none)) {s with heap:=h',toks:=m}) :
  Ü (à prog w) A (ksk_tree a f false) P E s:=by
 have hla:a<s.heap.objs.size:=Ó N;obtain⟨y,T⟩:∃y,(s.heap.update a (û λ_=>(#[]:ę Value))).get? a=À (Ē "list" #[] y):=⟨_,k_ N λ_=>#[]⟩
 unfold ksk_tree;refine Â (yH N rfl ?_);refine Â (eM N rfl ?_ (by rw[Û,ĉ];lia) (ÿ _));refine Â (n6 T rfl ?_);refine Â (t6 ?_ (by show vs.length<=_;rw[ĉ];lia));refine Â (gB ?_ (ÿ _));refine ő ?_;have k0:∀b o,b≠a->s.heap.get? b=À o->(((s.heap.update a (û λ_=>(#[]:ę Value))).push (Ē "tuple" vs.toArray 0)).push (Ē "list" #[] 0)).get? b=À o:=λb o r e=>
  Ä _ (Ä _ ((ê _ _ (Ō r)).trans e))
 have a0:(((s.heap.update a (û λ_=>(#[]:ę Value))).push (Ē "tuple" vs.toArray 0)).push (Ē "list" #[] 0)).get? a=À (Ē "list" #[] y):=Ä _ (Ä _ T);have s0:(((s.heap.update a (û λ_=>(#[]:ę Value))).push (Ē "tuple" vs.toArray 0)).push (Ē "list" #[] 0)).get? ((s.heap.update a (û λ_=>(#[]:ę Value))).push (Ē "tuple" vs.toArray 0)).objs.size=À (Ē "list" #[] 0):=Ù _ rfl;have hS:s.heap.objs.size<((s.heap.update a (û λ_=>(#[]:ę Value))).push (Ē "tuple" vs.toArray 0)).objs.size:=by rw[ĺ,wJ];exact fc _
 generalize ((s.heap.update a (û λ_=>(#[]:ę Value))).push (Ē "tuple" vs.toArray 0)).objs.size=S at *
 show Ü (à prog w) A (ksk_rest a f false vs.toArray y (.ref S)) P E {s with heap:=((s.heap.update a (û λ_=>(#[]:ę Value))).push (Ē "tuple" vs.toArray 0)).push (Ē "list" #[] 0),toks:=s.toks};generalize ((s.heap.update a (û λ_=>(#[]:ę Value))).push (Ē "tuple" vs.toArray 0)).push (Ē "list" #[] 0)=h0 at *
 have D:∀b o,s.heap.get? b=À o->b≠S:=λb o e=>ò (oA (Ó e) hS);have I:S≠a:=(D a _ N).symm;have up:∀(g:Heap) (F:ę Value->ę Value) b o,b≠S->g.get? b=À o->(g.update S (û F)).get? b=À o:=λg F b o r e=>(ê _ _ (Ō r)).trans e;unfold ksk_rest;refine Â (b9 ?_);rw[List.forIn_toArray];refine Â (ksk_fold (λi s'=>∃h' m d e,s'={s with heap:=h',toks:=m}/\(∀b o,b≠a->s.heap.get? b=À o->h'.get? b=À o)/\h'.get? S=À (Ē "list" d e)/\h'.get? a=À (Ē "list" #[] y)/\ux d.toList (ns.take i)) vs 0 _
  ⟨h0,s.toks,#[],0,rfl,k0,s0,a0,by simpa using IntsAre.nil⟩ ?step ?done)
 case step=>
  rintro j x s' hx ⟨h',m,d,e,rfl,Z,Y,ha,l⟩;simp only[uU]at l⊢;have hj:j<vs.length:=(Ç.mp hx).1;have L:ns[j]?=À ns[j]:=Å (by lia);have hz:d.size<=vs.length:=by
   have h1:=l.length;rw[ĳ,Ř]at h1;lia
  refine Â (cR (aE (X j x ns[j] hx L h' m Z) (λv U he=>?_) λ_ _ hF=>hF.elim));obtain⟨g,tk2,t2,rfl,rfl,k2⟩:=he;try dsimp only
  have nk:=k2 _ _ Y;obtain⟨c2,hc2⟩:∃c2,(g.update S (û (·.push (.int ns[j] t2)))).get? S=À (Ē "list" (d.push (.int ns[j] t2)) c2):=⟨_,k_ nk (·.push (.int ns[j] t2))⟩
  have ek:ns.take (j+1)=ns.take j++[ns[j]]:=by rw[List.take_add_one,L];simp
  have ea:(d.push (mL ns[j] t2)).toList=d.toList++[mL ns[j] t2]:=by simp
  refine Â (eM nk rfl ?_ (by rw[ĉ];lia) (đ (ki (N6 ..)) (by rw[ĉ];lia)));exact Ì ⟨rfl,_,_,d.push (.int ns[j] t2),c2,rfl,λb o r z=>up _ _ b o (D b o z) (k2 b o (Z b o r z)),hc2,up _ _ _ _ I.symm (k2 _ _ ha),by rw[ea,ek];exact ksk_snoc l⟩
 case done=>
  rintro s' ⟨h',m,d,e,rfl,Z,Y,ha,l⟩;have l:ux d.toList ns:=by rw[List.take_of_length_le (by lia)]at l;exact l
  have B:d.toList.length=vs.length:=by rw[l.length,hl]
  have M:d.size=vs.length:=by rw[<-ĳ,B]
  try dsimp only
  refine Â (yH Y rfl ?_);have H:∀(p:ę Nat) (st:SortSt),Az (O:=L2.oI) (λi=>ns.getD i 0) p vs.length->p.size=vs.length->p.Perm (Ħ (ø vs.length))->(arrOf st).map (·.2)=Ħ (p.toList.map λi=>vs.getD i õ)->failedOf st=none->
    Ü (à prog w) A (ksk_tail a false y (.ref S) st) P E {s with heap:=h',toks:=m}:=λp st q1 q2 q3 q4 q5=>by
   have na:(h'.update S (û λ_=>(#[]:ę Value))).get? a=À (Ē "list" #[] y):=up _ _ _ _ I.symm ha;unfold ksk_tail;try dsimp only
   refine Â (eM Y rfl ?_ (by rw[M,ĉ];lia) (ÿ _));refine Â (B8 ?_);refine Â (n6 na rfl ?_);rw[q4,q5];refine Â (eM na rfl ?_ (ÿ _) (by show(Ħ (p.toList.map _)).size<=_;rw[Û,Ê,ĳ,q2,ĉ];lia));simp only[yD,Ŵ,fz];obtain⟨c3,hc3⟩:∃c3,((h'.update S (û λ_=>(#[]:ę Value))).update a (û λ_=>Ħ (p.toList.map λi=>vs.getD i õ))).get? a=À (Ē "list" (Ħ (p.toList.map λi=>vs.getD i õ)) c3):=⟨_,k_ na _⟩
   exact Ì (h p _ _ c3 q1 q2 q3 (λb o r z=>(ê _ _ (Ō r)).trans (up _ _ b o (D b o z) (Z b o r z))) hc3)
  unfold ksk_end;try dsimp only
  rw[Ñ ã];by_cases G:vs.toArray.size<2
  ·rw[Ë G,Ë G];refine Â (Ì ?_);rw[Lv];refine Â (Ì ?_);rw[Û]at G;refine H (Ħ (ø vs.length)) _ (λi j h3 h4=>by lia) (by simp) (bB _) ?_ rfl;show((if false=true then (d.zip vs.toArray).reverse else d.zip vs.toArray).map (·.2))=_;rw[Ñ ã];apply uP.mp;apply eZ
   ·simp[M]
   ·intro i h5 h6;have l:i<vs.length:=by simpa using h6
    simp[l]
  ·rw[Ñ G,Ñ G];rw[Û]at G;rw[ksk_kind l (by lia)];refine Â (Ì ?_);have g:∀i,i<vs.length->∃t,d.toList.getD i õ=.int (ns.getD i 0) t:=λi J=>by
    obtain⟨t,e⟩:=l.get i ns[i] (Å (by lia));exact⟨t,by rw[ä,e,ä,Å (by lia)];rfl⟩
   have ask:=KC (cmp:=kas_ask prog w A oneType' d.toList) (lt:=lI L2.oI λi=>ns.getD i 0) (s:={s with heap:=h',toks:=m})
    (Q:=λp U=>p=dy (lI L2.oI λi=>ns.getD i 0) (pk vs.length)/\U={s with heap:=h',toks:=m}) (λi j C J hj' hC=>by
     obtain⟨t,ei⟩:=g i J;obtain⟨u,ej⟩:=g j hj';unfold kas_ask;rw[ei,ej];exact kat_lt_int hC) (EM (by lia)) ⟨rfl,rfl⟩
   have ez:d.zip vs.toArray=d.toList.toArray.zip vs.toArray:=by simp
   rw[Ñ ã,ez];refine Â (aE (kat_run (Q:=λq s'=>∃p:ę Nat,p.size=vs.length/\arrOf q=p.map (kas_item (d.toList.toArray.zip vs.toArray))/\failedOf q=none/\p=dy (lI L2.oI λi=>ns.getD i 0) (pk vs.length)/\s'={s with heap:=h',toks:=m})
    B (by lia) TH (λp' q s' a1 a2 a3 a4=>⟨p',a1,a2,a3,a4.1,a4.2⟩) ask) ?_ λ_ _ e=>e)
   rintro⟨⟨⟩,q⟩ s' ⟨p,hp,har,hf,rfl,rfl⟩;obtain⟨q1,q2,q3⟩:=EN (O:=L2.oI) (key:=λi=>ns.getD i 0) (n:=vs.length) (by lia);exact H _ q q1 q2 q3 (kat_snds B har) hf
end
end Mm
namespace L2
open PySem PySem.Spec PyProof.Rows
noncomputable def Uj (O P:KeyOrd):KeyOrd where
 α:=O.α×P.α
 blt a b:=O.blt a.1 b.1||(!O.blt b.1 a.1&&P.blt a.2 b.2)
 irrefl a:=by simp[O.irrefl,P.irrefl]
 trans a b c h k:=by
  simp only[fE,ċ,dF]at h k⊢;rcases h with h|⟨h,h'⟩<;>rcases k with k|⟨k,k'⟩
  ·exact .inl (O.trans _ _ _ h k)
  ·exact .inl (fu h k)
  ·exact .inl (KeyOrd.klt_of_kle_of_klt h k)
  ·exact .inr ⟨hI h k,P.trans _ _ _ h' k'⟩
 negTrans a b c h:=by
  simp only[fE,ċ,dF]at h⊢;rcases h with h|⟨h,h'⟩
  ·exact(O.negTrans _ b.1 _ h).imp .inl .inl
  ·cases e1:O.blt a.1 b.1 with
   |true=>exact .inl (.inl rfl)
   |false=>
    cases e2:O.blt b.1 c.1 with
    |true=>exact .inr (.inl rfl)
    |false=>exact(P.negTrans _ b.2 _ h').imp (λz=>.inr ⟨hI h e2,z⟩) λz=>.inr ⟨hI e1 h,z⟩
 total a b h k:=by
  simp only[pY,oR,Bool.not_eq_false']at h k;have e:=O.total _ _ h.1 k.1;refine qa e (P.total _ _ ?_ ?_)
  ·rcases h.2 with z|z
   ·rw[k.1]at z;cases z
   ·exact z
  ·rcases k.2 with z|z
   ·rw[h.1]at z;cases z
   ·exact z
def yo {X:Cx}{A:Œ}{O:KeyOrd}{κ:ph}{key:Nat->O.α}{as:Á Addr}{K:Value->Ú->Prop}{E:Value->Ú->Prop}(I:Inv X k P H s)(n:as.length<64)
  (J:∀(A:Œ) (h':Heap),2<=as.length->(∀b o,s.heap.get? b=À o->h'.get? b=À o)->∀Q:ph->Ú->Prop,Q κ {s with heap:=h'}->Ü (à X.prog X.w) A (O0 (as.map Ò).toArray) Q (λ_ _=>False) {s with heap:=h'})
  (G:∀(h':Heap),(∀b o,s.heap.get? b=À o->h'.get? b=À o)->∀(i j:Nat) (a b:Addr) C,as[i]?=À a->as[j]?=À b->C (O.blt (key i) (key j)) {s with heap:=h'}->Ü (à X.prog X.w) A.in1 (keyLt' κ (.ref a) (.ref b)) C (λ_ _=>False) {s with heap:=h'})
  (q:∀(p:Á Nat) (l:Addr) (s':Ú),p.Perm (ø as.length)->p.Pairwise (Mm.Ah key)->H l=none->Inv X k P (upd H l (.lst (p.map λi=>V.ref (as.getD i 0)))) s'->K (.ref l) s') :
  Ü (à X.prog X.w) A (VM (as.map Ò) >>= λl=>df [l] (call (.builtin "list.sort") [l]) >>= λ_=>ret l) (λm s'=>∃v,m=.done (.ret v)/\K v s') E s:=by
 have hl:(as.map Ò).length=as.length:=Ê _;refine Â (gB ?_ (by rw[hl];exact Ġ (ũ (by lia))));have c:(s.heap.push (Ē "list" (as.map Ò).toArray 0)).get? s.heap.objs.size=À (Ē "list" (as.map Ò).toArray 0):=Ù _ rfl;have B:∀h':Heap,(∀b o,b≠s.heap.objs.size->(s.heap.push (Ē "list" (as.map Ò).toArray 0)).get? b=À o->h'.get? b=À o)->∀b o,s.heap.get? b=À o->h'.get? b=À o:=λh' f b o e=>f b o (ò (Ó e)) (Ä _ e);refine Â (ő (Ĩ Fg ⟨_,c,rfl⟩ Ci (Mm.J8 (O:=O) (key:=key) (κ:=κ) c (by rw[hl];exact n) ?_ ?_ λp M T N=>⟨_,rfl,?_⟩) (Z' _)))
 ·intro h' y f D L;exact J _ h' (by rw[hl]at y;exact y) (B h' f) D L
 ·intro h' f i j C d t hC;rw[hl]at d t;have g:∀i (h:i<as.length),(as.map Ò).getD i õ=.ref as[i]:=λi h=>by rw[ä,é,Å h];rfl
  rw[g i d,g j t];exact G h' (B h' f) i j _ _ C (Å d) (Å t) hC
 ·have pr:p.toList.Perm (ø as.length):=by
   have:=eA.mp N;rw[hl]at this;simpa using this
  have z:p.toList.length=as.length:=by rw[pr.length_eq,dI]
  have x:∀i∈p.toList,i<as.length:=λi d=>by simpa using pr.mem_iff.mp d
  refine Ì ⟨_,rfl,q p.toList s.heap.objs.size _ pr ?_ (I.ť.fresh (Î _)) ?_⟩
  ·exact Mm.J_ (by rw[z,<-hl];exact M)
  ·obtain⟨F,r⟩:=sortedHeap_at c (out:=Ħ (p.toList.map λi=>(as.map Ò).getD i õ));refine I.laid (a:=s.heap.objs.size) (t':=s.toks) (λb u e=>?_) (Î _) ⟨by rw[Ê,z];exact Ġ (ũ (by lia)),p.toList.map λi=>(as.map Ò).getD i õ,F,?_,r⟩
   ·rw[sortedHeap_old (ò (Ó e)) (by rw[ĺ];exact eg (Ó e))];exact Ä _ e
   ·exact Mm.sJ x
end L2
namespace Dx
open PySem PySem.W PyProof.Rows
structure Got (es:ę Ac)(bot:Addr)(h:Heap)(as:Á Addr):Prop where
 rise:as.Pairwise (· < ·)
 above:∀a∈as,bot<a
 pairs:∀(j:Nat) (a:Addr),as[j]?=À a->∃e,es[j]?=À e/\h.get? a=À (pr e)
def Got.lt (g:Got f b h as)(c:a∈as):a<h.objs.size:=by
 obtain⟨j,d⟩:=List.mem_iff_getElem?.mp c;obtain⟨_,_,e⟩:=g.pairs j a d;exact Ó e
def Got.keep (g:Got f c h as)(k:∀b o,c<b->h.get? b=À o->h'.get? b=À o):Got f c h' as:=⟨g.rise,g.above,λj a d=>by
 obtain⟨e,i,l⟩:=g.pairs j a d;exact⟨e,i,k _ _ (g.above a (ý d)) l⟩⟩
def Got.snoc (g:Got f d h as)(t:h.objs.size=n)(hl:d<n)(r:f[as.length]?=À e)(k:∀b o,d<b->h.get? b=À o->h'.get? b=À o)(q:h'.get? n=À (pr e)):Got f d h' (as++[n]):=by
 subst t;have l:=g.keep k;refine⟨List.pairwise_append.mpr ⟨g.rise,mZ _ _,λa ha b p=>by rw[ð.mp p];exact g.lt ha⟩,λa ha=>?_,λj a c=>?_⟩
 ·rcases Ŕ.mp ha with ha|ha
  ·exact g.above a ha
  ·rw[ð.mp ha];exact hl
 ·rw[List.getElem?_append]at c;split at c
  ·exact l.pairs j a c
  ·rename_i s;cases i:j-as.length with
   |zero=>
    rw[i]at c;cases c;have:j=as.length:=by lia
    subst this;exact⟨e,r,q⟩
   |succ m=>rw[i]at c;cases c
structure Fl (h0 h:Heap)(S I d:Addr)(od:Obj)(es:ę Ac)(ep:Nat)(Zr:ę Value)(c:Nat)(as:Á Addr):Prop where
 wk:Wk h I d S as.length es.size ep
 dd:h.get? d=À od
 ls:h.get? S=À {cls:=.type "list",data:=.seq Zr c}
 ac:Zr.toList=as.map Ò
 got:Got es I h as
 lt:I<h.objs.size
 old:∀b o,b≠S->b≠I->h0.get? b=À o->h.get? b=À o
section
variable {prog:Č}{w:Ī}{A:Œ}{E:Value->Ú->Prop}{s:Ú}{R:SO->Ú->Prop}
def fill {od:Obj}{h0:Heap}(P:A.handled=none)(i:S<I)(G:d≠S)(D:d≠I)(hd:od.data=.dict n ep)(hz:n.size<=sizeLine)(res:Value)
  (N:∀h' l g c as,as.length=n.size->g.toList=as.map Ò->h'.get? S=À {cls:=.type "list",data:=.seq g c}->Got n I h' as->(∀b o,b≠S->b≠I->h0.get? b=À o->h'.get? b=À o)->R (.ok (.ret res)) {s with heap:=h',toks:=l}) :
  ∀(m:Nat) (h:Heap) (l c:Nat) (g:ę Value) (as:Á Addr),n.size-as.length=m->as.length<=n.size->Fl h0 h S I d od n ep g c as->
   e9 (à prog w) A (.builtin "list.extend.loop" ⟨[.ref S,.ref I,res],[]⟩) R {s with heap:=h,toks:=l}:=by
 intro m;induction m with
 |zero=>
  intro h l c g as T Q F;have e:as.length=n.size:=by lia
  obtain⟨C,f,x,y,j,_⟩:=F.wk;rw[e]at j;refine qV xE ?_;rw[iO eL _];refine Â (m:=gg (.ref I)) (F3 (s:={s with heap:=h,toks:=l}) (A:=A.in1) P j F.dd hd λh' k=>?_);exact Ì (N h' l g c as e F.ac (k _ _ (ò i) F.ls) (F.got.keep λb o r z=>k b o (ħ r) z) λb o q p z=>k b o p (F.old b o q p z))
 |succ m U=>
  intro h l c g as T Q F;have u:as.length<n.size:=by lia
  have v:g.size=as.length:=by rw[<-ĳ,F.ac,Ê]
  refine qV xE ?_;rw[iO eL _];refine Â (m:=gg (.ref I)) (F4 (s:={s with heap:=h,toks:=l}) F.wk (Ó F.ls) F.dd hd u λh' Y L M k=>?_);dsimp only at L M k⊢;have B:=k S _ (ò i) F.ls;have t:∀b o,b≠S->h'.get? b=À o->(h'.update S (û (·.push (Ò h.objs.size)))).get? b=À o:=λb o r e=>(ê _ _ (Ō r)).trans e;have H:h.objs.size≠S:=ħ (Ó F.ls);show Ü _ A.in1 (WZ S (·.push (Ò h.objs.size)) >>= _) _ _ _;refine Â (Cj B rfl (Ì ⟨GW eL _,U _ l _ (g.push (.ref h.objs.size)) (as++[h.objs.size]) (by rw[Ă];simp;lia) (by rw[Ă];simp;lia) ⟨?_,t d _ G (k d _ D F.dd),Ą _ B rfl,?_,?_,?_,λb o q p e=>t b o q (k b o p (F.old b o q p e))⟩⟩) (by rw[v];lia) (by show(g.push _).size<=sizeLine+1;rw[N6,v];lia))
  ·obtain⟨C,f,x,y,j,J⟩:=Y;rw[Ă,E4];refine⟨C,f,x,y,t _ _ (ħ i) j,?_⟩;rcases J with J|⟨a,X,e,O,q,p⟩
   ·exact .inl J
   ·exact .inr ⟨a,X,e,t _ _ p O,q,p⟩
  ·rw[Array.toList_push,F.ac,Ĕ];rfl
  ·exact F.got.snoc rfl F.lt (aA u) (λb o r e=>t b o (ħ (oA i r)) (k b o (ħ r) e)) (t _ _ H L)
  ·rw[wJ];rw[M];exact eg F.lt
def zb {od:Obj}(U:A.handled=none)(C:s.heap.IsItemsView r d)(i:s.heap.get? d=À od)(hd:od.data=.dict l ep)(hz:l.size<=sizeLine)(y:S≠r)(p:d≠S)(H:s.heap.get? S=À {cls:=.type "list",data:=.seq #[] c})(res:Value)
  (Q:∀h' q g c as,as.length=l.size->g.toList=as.map Ò->h'.get? S=À {cls:=.type "list",data:=.seq g c}->Got l s.heap.objs.size h' as->(∀b o,b≠S->s.heap.get? b=À o->h'.get? b=À o)->R (.ok (.ret res)) {s with heap:=h',toks:=q}) :
  Ü (à prog w) A.in1 (qY (.ref S) (.ref r) res)
   (λv s'=>match v with|.done f=>R (.ok f) s'|.again t=>t.quiet=true/\e9 (à prog w) A t R s') (λe s'=>R (.error e) s') s:=by
 have n:S<s.heap.objs.size:=Ó H;have B:d<s.heap.objs.size:=Ó i;have P:∀(h:Heap) (c q:Nat),(∀b o,b≠S->(s.heap.push (P1 .none false d 0 l.size ep .none .none)).get? b=À o->h.get? b=À o)->h.get? S=À {cls:=.type "list",data:=.seq #[] c}->
   e9 (à prog w) A (.builtin "list.extend.loop" ⟨[.ref S,.ref s.heap.objs.size,res],[]⟩) R {s with heap:=h,toks:=q}:=λh c q k e=>by
  have G:=k s.heap.objs.size _ (ħ n) (Ù _ rfl);refine fill (h0:=s.heap) U n p (ò B) hd hz res (λh' D g t as J L M N O=>Q h' D g t as J L M N λb o u z=>O b o u (ò (Ó z)) z) l.size h q c #[] [] rfl (ÿ _)
   ⟨⟨_,_,_,_,G,.inl rfl⟩,k d _ p (Ä _ i),e,rfl,⟨.nil,(λ_ z=>nomatch z),λj a z=>by simp at z⟩,Ó G,λb o x _ z=>k b o x (Ä _ z)⟩
 have T:=C.typeIs;unfold qY;have x:uw (.ref S) (.ref r)=false:=by simp[uw,y]
 refine Â (yL T ?_);rw[x];refine Â (CJ C i hd ?_);refine Â (ő (PySem.W.kdx_hint (let ⟨o,X,z,_⟩:=C;⟨o,Ä _ X,z⟩) ?_));have m:=Ä (P1 .none false d 0 l.size ep .none .none) H;dsimp only;rw[Ë (by decide+kernel)];refine Â (b9 (Â ?_));have I:=Ą (û (·.push õ)) m rfl;show Ü _ _ (WZ S (·.push .none) >>= λ_=>WZ S (·.pop)) _ _ _;refine Â (Cj m rfl (Cj (hz:=by seq_fits) I rfl (Ì ⟨GW eL _,P _ _ _ (λb o u e=>?_) (Ą (û (·.pop)) I rfl)⟩)));rw[ê _ _ (Ō u),ê _ _ (Ō u)];exact e
def xh {R:Á Value->Ú->Prop}{od:Obj}(C:A.handled=none)(D:s.heap.IsItemsView r d)(k:s.heap.get? d=À od)(hd:od.data=.dict i ep)(hz:i.size<=sizeLine)
  (h:∀h' f as,(∀b o,s.heap.get? b=À o->h'.get? b=À o)->as.length=i.size->Got i s.heap.objs.size h' as->R (as.map Ò) {s with heap:=h',toks:=f}):Ü (à prog w) A (collect (.ref r)) R E s:=by
 have v:=D;obtain⟨H,l,x⟩:=v;have I:=Ó l;have do_:=Ó k;have G:(s.heap.push {cls:=.type "list",data:=.seq ([]:Á Value).toArray}).get? s.heap.objs.size=À {cls:=.type "list",data:=.seq #[]}:=Ù _ rfl;unfold collect;obtain⟨B,j⟩:∃B:SO->Ú->Prop,B=λq s'=>∃h' f e c as,q=.ok (.ret (.ref s.heap.objs.size))/\s'={s with heap:=h',toks:=f}/\as.length=i.size/\e.toList=as.map Ò/\h'.get? s.heap.objs.size=À {cls:=.type "list",data:=.seq e c}/\Got i s.heap.objs.size h' as/\∀b o,s.heap.get? b=À o->h'.get? b=À o:=⟨_,rfl⟩
 refine Â (wpAny_runValue (qk (R:=B) (qV entry_proto_collect' ?_) ?_))
 ·rw[iO PySem.F.plain_proto_collect _];refine Â (m:=VM []) (Š (Ì ⟨GW zY _,qV entry_list_iadd' ?_⟩));rw[iO zY _];refine zb (s:={s with heap:=s.heap.push {cls:=.type "list",data:=.seq ([]:Á Value).toArray}}) C ⟨H,Ä _ l,x⟩ (Ä _ k) hd hz (ħ I) (ò do_) G _ λh' f e c as n p t g u=>?_;rw[j];exact⟨h',f,e,c,as,rfl,rfl,n,p,t,⟨g.rise,λa y=>bJ (by show _<=(s.heap.push _).objs.size;rw[ĺ];exact mw _) (g.above a y),g.pairs⟩,λb o z=>u b o (ò (Ó z)) (Ä _ z)⟩
 ·intro q s' z;rw[j]at z;obtain⟨h',f,e,c,as,rfl,rfl,n,p,t,g,u⟩:=z;show Ü _ A (load s.heap.objs.size >>= _) _ _ _;refine Â (wpAny_load t (Ì ?_));show R e.toList _;rw[p];exact h h' f as u n g
end
section
variable {prog:Č}{w:Ī}{A:Œ}{E:Value->Ú->Prop}{s:Ú}
def ID {Q:Value->Ú->Prop}(hu:A.units<cLine)(o:s.heap.get? a=À {cls:=.type "tuple",dict:=dd,data:=.seq #[.str x t,.int i u] n,slots:=H})(p:s.heap.get? b=À {cls:=.type "tuple",dict:=l,data:=.seq #[.str y t',.int j r] m,slots:=q})
  (h:Q (.bool (if x == y then decide (i<j)else decide (x.cps.toList<y.cps.toList))) s) (e:(x == y&&i == j)=false):Ü (à prog w) A (Į .Lt (.ref a) (.ref b)) Q E s:=by
 have B:s.TypeIs (.ref a) "tuple":=⟨_,o,rfl⟩
 have C:s.TypeIs (.ref b) "tuple":=⟨_,p,rfl⟩
 show Ü (à prog w) A (richCompare .Lt (.ref a) (.ref b)) Q E s;refine wpAny_richCompare_same_room B C B0 (Ĩ B0 B PySem.F.entry_tuple_lt ?_ (PySem.F.args_tuple_lt_2 _ _)) hu;obtain⟨z,g,v,I,os⟩:=s;unfold cD.«tuple.__lt__»;have f:∀{A:Œ}{E:Value->Ú->Prop}{s:Ú}{Q:Bool->Ú->Prop},Q (x == y) s->Ü (à prog w) A (eqBool (.str x t) (.str y t')) Q E s:=λh=>eqBool_str h;have k:∀{A:Œ}{E:Value->Ú->Prop}{s:Ú}{Q:Bool->Ú->Prop},Q (decide (i=j)) s->Ü (à prog w) A (eqBool (.int i u) (.int j r)) Q E s:=λh=>(i7 prog w).eqBool (a:=i) (b:=j) (by simp[i7,c_]) (by simp[i7,c_]) h;wp_walk
 refine O3 sub_tuple_self ?_;generalize eqBool=D at f k⊢;generalize d:richCompare=G;wp_walk
 simp only[K4,List.zip_nil_right,jO,zS];refine f ?_;cases c:x == y with
 |false=>
  rw[c,Ñ ã]at h;subst d;refine Â (b9 (Â (PySem.P.lt_str ?_)));exact Ì (Ì (Ì ⟨_,rfl,by simp,h⟩))
 |true=>
  rw[c,Ë rfl]at h;rw[c,BS]at e;refine Ì ?_;wp_walk
  refine k ?_;rw[â (by simpa using e)];subst d;refine Â (b9 (Â (wX ?_)));exact Ì (Ì (Ì ⟨_,rfl,by simp,h⟩))
end
end Dx
namespace L2
open PySem PySem.Spec PyProof.Rows
abbrev oP:KeyOrd:=Uj oS oI
abbrev kP (k:Str×Int):oP.α:=(Fw k.1,k.2)
abbrev eI (k:Str×Int):Á Key:=[.inr k.1,.inl k.2]
def nG (z:eI a=eI b):a=b:=by
 have:=KY z;exact qa (kX this.1) (Sm (KY this.2).1)
def vz (a b:Str×Int):Bool:=!oP.blt (kP b) (kP a)
def wd (l:Á (Str×Int)):Á (Str×Int):=l.mergeSort vz
def j_:vz a b=true ↔ oP.kle (kP a) (kP b):=by unfold vz VF;simp
def Bf (h:vz a b=true)(k:vz b a=true):a=b:=by
 have:=EZ (j_.mp h) (j_.mp k);have c:Fw a.1=Fw b.1:=Ĳ (λz:oP.α=>z.1) this;refine qa (vA (j'.mpr ?_) (j'.mpr ?_)) (show a.2=b.2 from Ĳ (λz:oP.α=>z.2) this)
 ·rw[c];exact wK _
 ·rw[c];exact wK _
def we (l:Á (Str×Int)):(wd l).Perm l:=fv l vz
def rY (h:vz a b=true)(k:vz b c=true):vz a c=true:=j_.mpr (hI (j_.mp h) (j_.mp k))
def rX (a b:Str×Int):(vz a b||vz b a)=true:=by
 cases h:vz a b with
 |true=>rfl
 |false=>rw[iW];exact j_.mpr (sP (by unfold vz at h;simpa[KeyOrd.klt]using h))
def zJ (l:Á (Str×Int)):(wd l).Pairwise λa b=>vz a b=true:=
 f' (le:=vz) (λ_ _ _=>rY) rX l
def wg {l q:Á (Str×Int)}(p:l.Perm q)(h:l.Pairwise λa b=>vz a b=true):l=wd q:=
 hE (λ_ _=>Bf) (p.trans (we q).symm) h (zJ q)
def AE (f:(a.1 == b.1&&a.2 == b.2)=false):oP.blt (kP a) (kP b)=if a.1 == b.1 then decide (a.2<b.2)else decide (a.1.cps.toList<b.1.cps.toList):=by
 show(oS.blt (Fw a.1) (Fw b.1)||(!oS.blt (Fw b.1) (Fw a.1)&&decide (a.2<b.2)))=_;cases e:a.1 == b.1 with
 |true=>
  have e:=eq_of_beq e;rw[e,oS.irrefl];rfl
 |false=>
  rw[Ñ ã];cases c:oS.blt (Fw a.1) (Fw b.1)with
  |true=>exact c.symm
  |false=>
   cases d:oS.blt (Fw b.1) (Fw a.1)with
   |true=>exact c.symm
   |false=>
    have:a.1=b.1:=vA (j'.mpr d) (j'.mpr c);rw[this,Aq]at e;cases e
theorem Paired.at {R:α->a->Prop}{l:Á α}{m:Á a}(h:Paired R l m):∀{j:Nat}{q:a},m[j]?=À q->∃p,l[j]?=À p/\R p q:=by
 induction h with
 |nil=>intro j q e;simp at e
 |cons h _ b=>
  intro j q e;cases j with
  |zero=>simp at e;subst e;exact⟨_,rfl,h⟩
  |succ j=>exact b (by simpa using e)
theorem EV {κ:Type} [kh κ] {k:κ}:∀{kvs:Á (κ×V)}{j:Nat},(kvs.map (·.1)).Nodup->kvs[j]?=À (k,y)->jf kvs k=À y
 |[],_,_,e=>by simp at e
 |p::r,0,_,e=>by simp at e;subst e;exact nV rfl
 |p::r,j+1,nd,e=>by
  have e:r[j]?=À (k,y):=by simpa using e
  rw[Ô,a9]at nd;rw[nU λz=>nd.1 (z▸Ļ.mpr ⟨_,ý e,rfl⟩)];exact EV nd.2 e
theorem uI {P:Value->Prop}:∀{as:Á Addr},(∀(j:Nat) (a:Addr),as[j]?=À a->∃(f:Value) (o:Obj) (r:Á Value) (n:Nat),h.get? a=À o/\o.cls=.type "tuple"/\o.data=.seq (f::r).toArray n/\P f)->∃fs,PySem.W.KatTups h (as.map Ò) fs/\(∀v∈fs,P v)/\fs.length=as.length
 |[],_=>⟨[],SN,(λv z=>nomatch z),rfl⟩
 |a::r,g=>by
  obtain⟨f,o,x,n,c,d,e,i⟩:=g 0 a rfl;obtain⟨fs,l,m,p⟩:=uI (as:=r) λj b k=>g (j+1) b (by simpa using k);refine⟨f::fs,SM c d e (by simp) l,λv hv=>?_,by simp[p]⟩;rcases ß.mp hv with rfl|hv
  ·exact i
  ·exact m v hv
def RH:Á V->Hp->VK->Prop:=λxs H Q=>∃(v d:Addr)(c:Á (Á Key×V)) (e:Á (Str×Int)),xs=[.ref v]/\H v=À (.ext λh=>h.IsItemsView v d)/\H d=À (.dT c)/\c.map (·.1)=e.map eI/\e.length<64/\
 ∀l A f,H l=none->(∀b o,H b=À o->A b=À o)->(∀b,A b=none->H b=none)->A l=À (.lst f)->f.length=e.length->
  (∀(j:Nat) (k:Str×Int),(wd e)[j]?=À k->∃a b x,f[j]?=À (.ref a)/\jf c (eI k)=À x/\H b=À (.tup [.str k.1,.int k.2])/\A a=À (.tup [.ref b,x]))->Q (.ref l) A
def zB {X:Cx}(I:Inv X f o H s)(e:H b=À (.tup [.str x,.int i])):∃t u dd n a,s.heap.get? b=À {cls:=.type "tuple",dict:=dd,data:=.seq #[.str x t,.int i u] n,slots:=a}:=by
 obtain⟨_,h,r,⟨l,dd,m,a⟩,g,c,n,d⟩:=(show Ş X.prog X.w H s.heap b (.tup [.str x,.int i])from I.ť b _ e)
 cases r with
 |cons j r=>
  cases r with
  |cons k r=>
   cases r;obtain⟨t,rfl⟩:=j;obtain⟨u,rfl⟩:=k;dsimp only at c d;subst c d;exact⟨t,u,dd,n,a,g⟩
def Cz {X:Cx}(hc:X.calm=true)(hu:X.A.units+2<cLine):bz X (.builtin "sorted") RH:=by
 rintro þ s σ H xs us Q I rv ⟨v,d,g,c,rfl,hv,hH,hk,TH,q⟩;obtain⟨u,rfl,ru⟩:=rv.one;cases (show u=Ò v from ru);obtain⟨z,hd,xs,rel,o,es,ep,h1,h2,h3,h4,h5⟩:=(show Ş X.prog X.w H s.heap d (.dT g)from I.ť d _ hH)
 have TX:s.heap.IsItemsView v d:=(I.ť v _ hv).1;have ZG:g.length=c.length:=by have h1:=Ĳ b_ hk;simpa using h1
 have ZL:g.length=xs.length:=rel.length;have ZE:es.size=c.length:=by rw[<-ĳ,h4,Ê,<-ZL,ZG]
 have nd:c.Nodup:=by
  have e:xs.map (·.1)=c.map eI:=by
   rw[<-hk];clear h4 h5 hk ZG ZL z hH q;induction rel with
   |nil=>rfl
   |cons h _ ih=>rw[Ô,Ô,ih,h.1]
  rw[e]at h5;exact(dJ.mp h5).imp λh z=>h (Ĳ eI z)
 have hh:=I.ok.hd hc;refine fG B6 yI yG (Lw _) ?_;unfold cD.«sorted»;refine Â (m:=Fc "sorted" 1 1 _) (Ì ?_);refine Â (Dx.xh (A:=X.A.in1) hh TX h1 h3 (by rw[ZE];exact Ġ (ũ (by lia))) λhp tk as hkp hal hG=>?_);have hl:as.length=c.length:=by rw[hal,ZE]
 have ndA:as.Nodup:=hG.rise.imp λh=>ò h;have G:∀j (a:Addr),as[j]?=À a->∃(B:j<c.length) (b:Addr) (x:Value) (y:V),g[j]?=À (eI c[j],y)/\(xs[j]?).map (·.2.1)=À b/\RelV y x/\H b=À (.tup [.str c[j].1,.int c[j].2])/\hp.get? a=À {cls:=.type "tuple",data:=.seq #[.ref b,x]}:=λj a Y=>by
  have B:j<c.length:=by rw[<-hl];exact(Ç.mp Y).1
  obtain⟨e,J,e2⟩:=hG.pairs j a Y;rw[<-aD,h4,é]at J;cases e3:xs[j]? with
  |none=>rw[e3]at J;cases J
  |some y=>
   rw[e3]at J;cases J;obtain⟨p,f1,f2,f3,f4⟩:=Paired.at rel e3;have f5:p.1=eI c[j]:=by
    have:(g.map (·.1))[j]?=À p.1:=by rw[é,f1];rfl
    rw[hk,é,Å B]at this;exact(è this).symm
   rw[f5]at f3;exact⟨B,y.2.1,y.2.2,p.2,by rw[f1,<-f5],rfl,f4,f3,e2⟩
 let H1:Hp:=λb=>if b∈as then À (.tup [.ref (((xs[as.idxOf b]?).map (·.2.1)).getD 0),((g[as.idxOf b]?).map (·.2)).getD .Ğ])else H b
 have F:∀b u,s.heap.get? b=À u->b∉as:=λb u e L=>absurd (Ó e) (oB.mpr (Ġ (hG.above b L)));have eas:∀b∈as,H b=none:=λb L=>by
  cases q0:H b with
  |none=>rfl
  |some o=>obtain⟨u,hu⟩:=(I.ť _ o q0).pS;exact absurd L (F b u hu)
 have at1:∀j (a:Addr),as[j]?=À a->∃(B:j<c.length) (b:Addr) (y:V),jf g (eI c[j])=À y/\H b=À (.tup [.str c[j].1,.int c[j].2])/\H1 a=À (.tup [.ref b,y]):=λj a Y=>by
  obtain⟨B,b,x,y,Z,g2,g3,g4,f⟩:=G j a Y;have N:as.idxOf a=j:=by
   obtain⟨hja,ga⟩:=Ç.mp Y;rw[<-ga];exact Ib ndA hja
  refine⟨B,b,y,?_,g4,?_⟩
  ·exact EV (by rw[hk];exact dJ.mpr (nd.imp λh z=>h (nG z))) Z
  ·show(if a∈as then _ else _)=_;rw[Ë (ý Y),N,g2,Z];rfl
 have I1:Inv X þ σ H1 {s with heap:=hp,toks:=tk}:=by
  refine I.grown hkp (λb u e=>Ñ (F b u e)) λb o e z=>?_;have z:(if b∈as then À (HO.tup [.ref (((xs[as.idxOf b]?).map (·.2.1)).getD 0),((g[as.idxOf b]?).map (·.2)).getD .Ğ])else H b)=À o:=z;by_cases L:b∈as
  ·rw[Ë L]at z;obtain⟨j,B,gj⟩:=ĩ L;obtain⟨_,k,x,y,Z,g2,g3,g4,f⟩:=G j b (by rw[Å B,gj]);rw[show as.idxOf b=j by rw[<-gj];exact Ib ndA B,g2,Z]at z;cases z;exact⟨by show 2<=sizeLine;decide,[.ref k,x],.cons rfl (.cons g3 .nil),_,f,rfl,0,rfl⟩
  ·rw[Ñ L]at z;obtain⟨u,hu⟩:=(I.ť _ o z).pS;rw[e]at hu;cases hu
 have r:∀b o,H b=À o->H1 b=À o:=λb o e=>by
  obtain⟨u,hu⟩:=(I.ť _ o e).pS;show(if b∈as then _ else H b)=_;rw[Ñ (F b u hu)];exact e
 have kD:∀i (N:i<c.length),kP (c.getD i (⟨#[]⟩,0))=kP c[i]:=λi N=>by rw[ä,Å N];rfl
 refine yo (A:=X.A.in1) (O:=oP) (κ:=tuples' false) (key:=λi=>kP (c.getD i (⟨#[]⟩,0))) I1 (by rw[hl];exact TH) ?_ ?_ ?_
 ·intro A h' h2 U Q' hq;obtain⟨fs,k1,k2,k3⟩:=uI (h:=h') (P:=λv=>∃(b:Addr) (o:Obj),v=.ref b/\h'.get? b=À o/\o.cls=.type "tuple") (as:=as) λj a Y=>by
   obtain⟨_,b,x,y,_,_,_,g4,f⟩:=G j a Y;obtain⟨t,u,dd,n,sl,e⟩:=zB I1 (r _ _ g4);exact⟨.ref b,_,[x],0,U _ _ f,rfl,rfl,b,_,rfl,U _ _ e,rfl⟩
  refine tX (T:=.type "tuple") k1 (by rw[k3];lia) (λv hv=>?_) (by decide) ?_
  ·obtain⟨b,o,rfl,J,e2⟩:=k2 v hv;rw[<-e2];exact(WU J).andThen .now
  ·have e:(cq "tuple" != cq "tuple")=false:=by decide
   rw[e];exact hq
 ·intro h' U i j a b C ea eb hC;obtain⟨N,k,x,y,_,_,_,f4,f5⟩:=G i a ea;obtain⟨B,k',x',y',_,_,_,g4,f⟩:=G j b eb;obtain⟨t,u,dd,n,sl,J⟩:=zB I1 (r _ _ f4);obtain⟨t',u',dd',n',sl',e2⟩:=zB I1 (r _ _ g4);rw[kD i N,kD j B]at hC;refine wY (U _ _ f5) rfl (U _ _ f) rfl (cz ?_);by_cases ZF:i=j
  ·subst ZF;rw[ea]at eb;cases eb;rw[f5]at f;injection f with f
   injection f with _ _ f _
   injection f with f _
   have f:=Ĳ Cb f;simp at f;obtain⟨rfl,rfl⟩:=f;refine nq (i0 (cz (nq (i0 (K7 ?_)))));rw[oP.irrefl]at hC;exact hC
  ·have ZH:c[i]≠c[j]:=λz=>ZF ((bw nd).mp z);have key:∀{x:Str}{i:Int}{b:Addr}{t u:Tok}{dd:Ð Addr}{n:Nat}{sl:ę (Ð Value)},h'.get? b=À {cls:=.type "tuple",dict:=dd,data:=.seq #[.str x t,.int i u] n,slots:=sl}->IsTupleKey (ż X.prog X.w) h' (eI (x,i)) b:=λ{x i b t u dd n sl} e=>⟨_,_,n,e,rfl,rfl,.cons (tD _ _ x t) (.cons (tw _ _ i u) .nil)⟩
   refine wpAny_eqBool_tuple (x:=eI c[i]) (y:=eI c[j]) (by show X.A.units+1+1<cLine;lia) (key (U _ _ J)) (key (U _ _ e2)) ?_;have L:(c[i].1 == c[j].1&&c[i].2 == c[j].2)=false:=by
    rw[oR];by_cases h1:c[i].1=c[j].1
    ·exact .inr (ŝ.mpr λh2=>ZH (qa h1 h2))
    ·exact .inl (ŝ.mpr h1)
   rw[show decide (eI c[i]=eI c[j])=false from â λz=>ZH (nG z)];refine jQ (uW _ _ (Dx.ID (by show X.A.units+1+1<cLine;lia) (U _ _ J) (U _ _ e2) ?_ L));rw[<-AE L];exact hC
 ·intro p l s' pr Yd E I2;have e:p.map (λi=>c.getD i (⟨#[]⟩,0))=wd c:=by
   refine wg ?_ (dJ.mpr (Yd.imp λh=>j_.mpr h.kle));have h5:=pr.map (λi=>c.getD i (⟨#[]⟩,0));rw[hl]at h5;have e5:(ø c.length).map (λi=>c.getD i (⟨#[]⟩,0))=c:=by
    apply eZ
    ·simp
    ·intro i h6 h7;simp[h7]
   rw[e5]at h5;exact h5
  have hl1:H l=none:=by
   cases q0:H l with
   |none=>rfl
   |some o=>rw[r l o q0]at E;cases E
  refine⟨.ref l,_,I2,rfl,q l _ (p.map λi=>V.ref (as.getD i 0)) hl1 (λb o h=>by rw[ç (Ŋ (r b o h) E)];exact r b o h) (λb h=>?_) ă (by rw[Ê,pr.length_eq,dI,hl]) λj k D=>?_⟩
  ·cases q0:H b with
   |none=>rfl
   |some o=>rw[ç (Ŋ (r b o q0) E),r b o q0]at h;cases h
  ·rw[<-e,é]at D;cases M:p[j]? with
   |none=>rw[M]at D;cases D
   |some i=>
    rw[M]at D;have N:i<as.length:=by simpa using pr.mem_iff.mp (ý M)
    obtain⟨hi',b,y,Z,g2,g3⟩:=at1 i as[i] (Å N);have TN:c[i]=k:=by
     have:c.getD i (⟨#[]⟩,0)=k:=è D;rw[<-this];simp[hi']
    rw[TN]at Z g2;refine⟨as[i],b,y,?_,Z,g2,?_⟩
    ·rw[é,M];show À (V.ref (as.getD i 0))=_;rw[ä,Å N];rfl
    ·rw[ç (Ŋ g3 E)];exact g3
end L2
namespace Mm
open PySem L2
def ur (h:n<=1000):n<=sizeLine:=Ġ (ũ h)
def R.wp {α:Type}:R α->(α->S->Prop)->Prop
 |.ok a s,Q=>Q a s
 |_,_=>False
def RS.wp:RS->(En->S->Prop)->(AV->S->Prop)->Prop
 |.nx e s,N,_=>N e s
 |.rt v s,_,T=>T v s
 |_,_,_=>False
def R.wp.mono {m:R α}(h:m.wp Q)(k:∀a s,Q a s->A a s):m.wp A:=by
 cases m with
 |ok a s=>exact k a s h
 |ex c s=>exact h.elim
 |bad=>exact h.elim
def RS.wp.mono {m:RS}(h:m.wp N T)(k:∀a s,N a s->A a s)(l:∀a s,T a s->B a s):m.wp A B:=by
 cases m with
 |nx a s=>exact k a s h
 |rt a s=>exact l a s h
 |_=>exact h.elim
def R.wp.get {m:R α}(h:m.wp Q):∃a s,m=.ok a s/\Q a s:=by
 cases m with
 |ok a s=>exact⟨a,s,rfl,h⟩
 |ex c s=>exact h.elim
 |bad=>exact h.elim
def R.wp.eq {m:R α}(h:m.wp (λa s'=>a=v/\s'=s)):m=.ok v s:=by
 obtain⟨a,s',e,rfl,rfl⟩:=h.get;exact e
def nW (a:α)(s:S)(Q:α->S->Prop):(R.ok a s).wp Q=Q a s:=rfl
def wp_bind (m:R α)(f:α->S->R b)(Q:b->S->Prop):(m.bind f).wp Q=m.wp λa s=>(f a s).wp Q:=by
 cases m<;>rfl
def bt (m:R α)(f:α->S->RS)(N:En->S->Prop)(T:AV->S->Prop):(m.bj f).wp N T=m.wp λa s=>(f a s).wp N T:=by
 cases m<;>rfl
def EX (m:R α)(Q:α->S->Prop):m.calm.wp Q=m.wp Q:=by
 cases m<;>rfl
def lF {α:Type}(c:Prop){_:ś c}(m:R α)(Q:α->S->Prop):(if c then m else .bad).wp Q=(c/\m.wp Q):=by
 by_cases h:c
 ·rw[Ë h];exact cF ⟨λk=>⟨h,k⟩,λk=>k.2⟩
 ·rw[Ñ h];exact cF ⟨λk=>k.elim,λk=>(h k.1).elim⟩
def Kz (c:Prop){_:ś c}(m:RS)(N:En->S->Prop)(T:AV->S->Prop):(if c then m else .bad).wp N T=(c/\m.wp N T):=by
 by_cases h:c
 ·rw[Ë h];exact cF ⟨λk=>⟨h,k⟩,λk=>k.2⟩
 ·rw[Ñ h];exact cF ⟨λk=>k.elim,λk=>(h k.1).elim⟩
def uN (c:Prop){_:ś c}{α:Type}(m n:R α)(Q:α->S->Prop):(if c then m else n).wp Q=if c then m.wp Q else n.wp Q:=by
 by_cases h:c
 ·rw[Ë h,Ë h]
 ·rw[Ñ h,Ñ h]
def KA (c:Prop){_:ś c}(m n:RS)(N:En->S->Prop)(T:AV->S->Prop):(if c then m else n).wp N T=if c then m.wp N T else n.wp N T:=by
 by_cases h:c
 ·rw[Ë h,Ë h]
 ·rw[Ñ h,Ñ h]
def qS (x:a)(f:a->R α)(Q:α->S->Prop):(need (À x) f).wp Q=(f x).wp Q:=rfl
def Þ:(([]:Á AV).length<=sizeLine)=True/\(∀a:AV,([a].length<=sizeLine)=True)/\(∀a b:AV,([a,b].length<=sizeLine)=True)/\(∀a b c:AV,([a,b,c].length<=sizeLine)=True)/\
  (∀a b c d e f:AV,([a,b,c,d,e,f].length<=sizeLine)=True)/\
  (([]:Á AV).length=0)=True/\(∀a:AV,([a].length=1)=True)/\(∀a b:AV,([a,b].length=2)=True)/\(∀a b c:AV,([a,b,c].length=3)=True):=by
 refine⟨?_,?_,?_,?_,?_,?_,?_,?_,?_⟩<;>intros<;>first|exact i6 rfl|exact i6 (ur (by show(_:Nat)<=1000;simp))
def WS :
  (∀a b env s N T,(ā a b env s).wp N T=(a env s).wp (λe s1=>(b e s1).wp N T) T)/\
  (∀i m env s N T,(Ů i m env s).wp N T=(m env s).wp λv s1=>N (env.set i (À v)) s1)/\
  (∀m env s N T,(Ķ m env s).wp N T=(m env s).wp T)/\
  (∀c a b env s N T,(fD c a b env s).wp N T=(c env s).wp λk s1=>if k=true then (a env s1).wp N T else (b env s1).wp N T)/\
  (∀m env s N T,(Ŝ m env s).wp N T=(m env s).wp λ_ s1=>N env s1)/\
  (∀m g env s N T,(BF m g env s).wp N T=(m env s).wp λv s1=>(g v env s1).wp N T)/\
  (∀i j a b env s N T,(mr i j (Ã a (Ã b Ø)) env s).wp N T=(a env s).wp λv s1=>(b env s1).wp λw h=>N ((env.set i (À v)).set j (À w)) h)/\
  (∀env s N T,(ı env s).wp N T=N env s)/\
  (∀f tgt b env s N T,(v7 f tgt b env s).wp N T=(f env s).wp λp s1=>(forL tgt b p.2 p.1 env s1).wp N T)/\
  (∀d y v env s N T,(mG d y v env s).wp N T=(v env s).wp λa s1=>(d env s1).wp λb h=>(y env h).wp λc l=>(putD a b c env l).wp N T)/\
  (∀i v env s N T,(gN i v env s).wp N T=N (env.set i (À v)) s)/\
  (∀n r vs env s N T,(gT n r (.tup vs) env s).wp N T=(vs.length=n/\(r vs env s).wp N T))/\
  (∀i r v w env s N T,(ï (gN i) r (v::w) env s).wp N T=(r w (env.set i (À v)) s).wp N T)/\
  (∀env s N T,(aY [] env s).wp N T=N env s)/\
  (∀o i r v w env s N,(ï (nA o i) r (v::w) env s).wp N (λ_ _=>False)=(nA o i v env s).wp (λe s1=>(r w e s1).wp N (λ_ _=>False)) (λ_ _=>False))/\
  (∀n b v s Q,(dq n b [v] s).wp Q=(b (À v::Ö (n-1) none) s).wp (λ_ s1=>Q .Ğ s1) Q)/\
  (∀n b v w s Q,(dq n b [v,w] s).wp Q=(b (À v::À w::Ö (n-2) none) s).wp (λ_ s1=>Q .Ğ s1) Q)/\
  (∀n b v w x s Q,(dq n b [v,w,x] s).wp Q=(b (À v::À w::À x::Ö (n-3) none) s).wp (λ_ s1=>Q .Ğ s1) Q):=by
 refine⟨?_,?_,?_,?_,?_,?_,?_,?_,?_,?_,?_,?_,?_,?_,?_,?_,?_,?_⟩<;>intros
 ·rename_i a b env s N T;show(match a env s with|.nx e s1=>b e s1|r=>r).wp N T=_;cases a env s<;>rfl
 ·unfold Ů;rw[bt];rfl
 ·unfold Ķ;rw[bt];rfl
 ·unfold fD;rw[bt];congr 1;funext k s1;exact KA _ _ _ _ _
 ·unfold Ŝ;rw[bt];rfl
 ·unfold BF;rw[bt]
 ·rename_i i j a b env s N T;unfold mr Ã Ø;cases a env s with
  |ok v s1=>
   simp only[ñ,nW];cases b env s1<;>rfl
  |ex c s1=>rfl
  |bad=>rfl
 ·rfl
 ·unfold v7;rw[bt]
 ·unfold mG;rw[bt];congr 1;funext k s1;rw[bt];congr 1;funext k s1;rw[bt]
 ·rfl
 ·exact Kz _ _ _ _
 ·rfl
 ·rfl
 ·rename_i o i r v w env s N;show(match nA o i v env s with|.nx e s1=>r w e s1|q=>q).wp N _=_;cases nA o i v env s<;>rfl
 ·rename_i n b v s Q;show(match b (À v::Ö (n-1) none) s with|.rt v s1=>R.ok v s1|.nx _ s1=>.ok .Ğ s1|.ex c s1=>.ex c s1|_=>.bad).wp Q=_;cases b (À v::Ö (n-1) none) s<;>rfl
 ·rename_i n b v w s Q;show(match b (À v::À w::Ö (n-2) none) s with|.rt v s1=>R.ok v s1|.nx _ s1=>.ok .Ğ s1|.ex c s1=>.ex c s1|_=>.bad).wp Q=_;cases b (À v::À w::Ö (n-2) none) s<;>rfl
 ·rename_i n b v w x s Q;show(match b (À v::À w::À x::Ö (n-3) none) s with|.rt v s1=>R.ok v s1|.nx _ s1=>.ok .Ğ s1|.ex c s1=>.ex c s1|_=>.bad).wp Q=_;cases b (À v::À w::À x::Ö (n-3) none) s<;>rfl
def Kn (v:AV)(s:S):R (Á AV×Gd):=match v with
 |.tup xs=>.ok (xs,[]) s
 |.sq xs=>.ok (xs,[]) s
 |.ref i=>need (ë s i) λxs=>.ok (xs,[(i,xs)]) s
 |_=>.bad
def WE :
  (∀v env s Q,(mc v env s).wp Q=Q v s)/\
  (∀op a b env s Q,(Õ op a b env s).wp Q=(a env s).wp λv s1=>(b env s1).wp λw e=>(op v w e).wp Q)/\
  (∀op a env s Q,(az op a env s).wp Q=(a env s).wp λv s1=>(op v s1).wp Q)/\
  (∀r env s Q,(cA r env s).wp Q=(r env s).wp λvs s1=>vs.length<=sizeLine/\Q (.tup vs) s1)/\
  (∀r env s Q,(ŷ r env s).wp Q=(r env s).wp λvs s1=>vs.length<=sizeLine/\Q vs s1)/\
  (∀r env s Q,(Ĝ r env s).wp Q=(r env s).wp λvs s1=>Q (.ref s1.length) (s1++[.lst vs]))/\
  (∀n F r env s Q,(ó n F r env s).wp Q=(r env s).wp λvs s1=>vs.length=n/\(F vs s1).wp Q)/\
  (∀a r env s Q,(Ã a r env s).wp Q=(a env s).wp λv s1=>(r env s1).wp λvs e=>Q (v::vs) e)/\
  (∀env s Q,(Ø env s).wp Q=Q [] s)/\
  (∀m env s Q,(cB m env s).wp Q=(m env s).wp λv s1=>match v with|.bl b=>Q b s1|_=>False)/\
  (∀m env s Q,(cT m env s).wp Q=(m env s).wp λv s1=>match truth v s1 with|some b=>Q b s1|none=>False)/\
  (∀a env s Q,(rm a env s).wp Q=(a env s).wp λc s1=>Q (!c) s1)/\
  (∀a b env s Q,(m_ a b env s).wp Q=(a env s).wp λc s1=>if c=true then (b env s1).wp Q else Q false s1)/\
  (∀a b env s Q,(Hf a b env s).wp Q=(a env s).wp λc s1=>if c=true then Q true s1 else (b env s1).wp Q)/\
  (∀env s Q,(iu env s).wp Q=Q true s)/\
  (∀c a b env s Q,(IE c a b env s).wp Q=(c env s).wp λk s1=>if k=true then (a env s1).wp Q else (b env s1).wp Q)/\
  (∀op r env s Q,(zr op r env s).wp Q=(r env s).wp λvs s1=>(op vs s1).wp Q)/\
  (∀{α:Type}(op:Á AV->S->R α) (r:gh) (env:En) (s:S) (Q:α->S->Prop),(qe op r env s).wp Q=(r env s).wp λvs s1=>(op vs s1).wp Q)/\
  (∀m env s Q,(vv m env s).wp Q=(m env s).wp λv s1=>(need (items v s1) λxs=>.ok xs s1).wp Q)/\
  (∀r env s Q,(xy r env s).wp Q=(r env s).wp λxs s1=>Q (xs,[]) s1)/\
  (∀m env s Q,(eV m env s).wp Q=(m env s).wp λv s1=>(Kn v s1).wp Q)/\
  (∀l g tgt f elt env s Q,(ak l g tgt f elt env s).wp Q=(g env s).wp λp s1=>p.1.length<=sizeLine/\(au tgt f elt p.2 p.1 (BJ l env) s1 []).wp Q)/\
  (∀n op o r env s Q,(jT n op o r env s).wp Q=(o env s).wp λv s1=>(lu n v s1).isSome=true/\(r env s1).wp λvs e=>(op v vs e).wp Q)/\
  (∀{α:Type}(n:String) (op:AV->Á AV->S->R α) (o:Ev) (r:gh) (env:En) (s:S) (Q:α->S->Prop),(HZ n op o r env s).wp Q=(o env s).wp λv s1=>(lu n v s1).isSome=true/\(r env s1).wp λvs e=>(op v vs e).wp Q)/\
  (∀n op o env s Q,(ye n op o env s).wp Q=(o env s).wp λv s1=>(lu n v s1).isSome=true/\(op v [] s1).wp Q)/\
  (∀d y z env s Q,(qD d y z env s).wp Q=(d env s).wp λa s1=>(lu "dict" a s1).isSome=true/\(y env s1).wp λb e=>(z env e).wp λc j=>(Jr a b c j).wp Q)/\
  (∀env s Q,(CN env s).wp Q=Q (.ref s.length) (s++[.dK []]))/\
  (∀m lo q env s Q,(vG m lo q env s).wp Q=(m env s).wp λv s1=>(lo env s1).wp λl e=>(q env e).wp λh j=>(sD v l h j).wp Q)/\
  (∀env s Q,(oN env s).wp Q=Q none s)/\
  (∀m env s Q,(oS m env s).wp Q=(m env s).wp λv s1=>match v with|.int i=>Q (À i) s1|_=>False)/\
  (∀a b env s Q,(FX a b env s).wp Q=(a env s).wp λv s1=>match v with|.bl true=>(b env s1).wp Q|.bl false=>Q (.bl false) s1|_=>False)/\
  (∀a b env s Q,(Wh a b env s).wp Q=(a env s).wp λv s1=>match v with|.bl true=>Q (.bl true) s1|.bl false=>(b env s1).wp Q|_=>False)/\
  (∀m env s Q,(ze m env s).wp Q=(m env s).wp λv s1=>(s1.take s.length=s/\v.low s.length=true)/\Q v s)/\
  (∀m env s Q,(TB m env s).wp Q=(m env s).wp λv s1=>(s1.take s.length=s)/\Q v s)/\
  (∀m env s Q,(B_ m env s).wp Q=(m env s).wp λv s1=>((s1.take s.length).all (AO.low s.length)=true/\v.low s.length=true)/\Q v (s1.take s.length))/\
  (∀m env s Q,(fU m env s).wp Q=(m env s).wp λv s1=>match v with|.ref k=>(need (ë s1 k) λxs=>if s.length<=k/\(s1.take s.length).all (AO.low s.length)=true/\ĭ s.length xs=true then .ok xs (s1.take s.length)else .bad).wp Q|_=>False):=by
 refine⟨?_,?_,?_,?_,?_,?_,?_,?_,?_,?_,?_,?_,?_,?_,?_,?_,?_,?_,?_,?_,?_,?_,?_,?_,?_,?_,?_,?_,?_,?_,?_,?_,?_,?_,?_,?_⟩<;>intros
 ·rfl
 ·unfold Õ;rw[wp_bind];congr 1;funext v s1;rw[wp_bind]
 ·unfold az;rw[wp_bind]
 ·unfold cA;rw[wp_bind];congr 1;funext v s1;exact lF _ _ _
 ·unfold ŷ;rw[wp_bind];congr 1;funext v s1;exact lF _ _ _
 ·unfold Ĝ;rw[wp_bind];rfl
 ·unfold ó;rw[wp_bind];congr 1;funext v s1;exact lF _ _ _
 ·unfold Ã;rw[wp_bind];congr 1;funext v s1;rw[wp_bind];rfl
 ·rfl
 ·unfold cB;rw[wp_bind];congr 1;funext v s1;cases v<;>rfl
 ·unfold cT;rw[wp_bind];congr 1;funext v s1;cases truth v s1<;>rfl
 ·unfold rm;rw[wp_bind];rfl
 ·unfold m_;rw[wp_bind];congr 1;funext v s1;exact uN _ _ _ _
 ·unfold Hf;rw[wp_bind];congr 1;funext v s1;exact uN _ _ _ _
 ·rfl
 ·unfold IE;rw[wp_bind];congr 1;funext v s1;exact uN _ _ _ _
 ·unfold zr;rw[wp_bind]
 ·unfold qe;rw[wp_bind]
 ·unfold vv;rw[wp_bind]
 ·unfold xy;rw[wp_bind];rfl
 ·unfold eV;rw[wp_bind];rfl
 ·unfold ak;rw[wp_bind];congr 1;funext v s1;exact lF _ _ _
 ·unfold jT;rw[wp_bind];congr 1;funext v s1;cases lu _ v s1 with
  |none=>exact cF ⟨λk=>k.elim,λk=>nomatch k.1⟩
  |some u=>rw[qS,wp_bind];exact cF ⟨λk=>⟨rfl,k⟩,λk=>k.2⟩
 ·unfold HZ;rw[wp_bind];congr 1;funext v s1;cases lu _ v s1 with
  |none=>exact cF ⟨λk=>k.elim,λk=>nomatch k.1⟩
  |some u=>rw[qS,wp_bind];exact cF ⟨λk=>⟨rfl,k⟩,λk=>k.2⟩
 ·unfold ye;rw[wp_bind];congr 1;funext v s1;cases lu _ v s1 with
  |none=>exact cF ⟨λk=>k.elim,λk=>nomatch k.1⟩
  |some u=>rw[qS];exact cF ⟨λk=>⟨rfl,k⟩,λk=>k.2⟩
 ·unfold qD;rw[wp_bind];congr 1;funext v s1;cases lu _ v s1 with
  |none=>exact cF ⟨λk=>k.elim,λk=>nomatch k.1⟩
  |some u=>
   rw[qS,wp_bind];simp only[wp_bind];exact cF ⟨λk=>⟨rfl,k⟩,λk=>k.2⟩
 ·rfl
 ·unfold vG;rw[wp_bind];congr 1;funext v s1;rw[wp_bind];congr 1;funext v s1;rw[wp_bind]
 ·rfl
 ·unfold oS;rw[wp_bind];congr 1;funext v s1;cases v<;>rfl
 ·unfold FX;rw[wp_bind];congr 1;funext v s1;cases v with
  |bl b=>cases b<;>rfl
  |_=>rfl
 ·unfold Wh;rw[wp_bind];congr 1;funext v s1;cases v with
  |bl b=>cases b<;>rfl
  |_=>rfl
 ·unfold ze;rw[wp_bind];congr 1;funext v s1;exact lF _ _ _
 ·unfold TB;rw[wp_bind];congr 1;funext v s1;exact lF _ _ _
 ·unfold B_;rw[wp_bind];congr 1;funext v s1;exact lF _ _ _
 ·unfold fU;rw[wp_bind];congr 1;funext v s1;cases v<;>rfl
theorem nv (I:Á AV->En->S->Prop)(a:∀l env s,I l env s->wR gs s)(h0:∀env s,I [] env s->N env s)
  (f:∀v r env s,I (v::r) env s->(tgt v env s).wp (λe s1=>(b e s1).wp (I r) T) (λ_ _=>False)):∀l env s,I l env s->(forL tgt b gs l env s).wp N T
 |[],env,s,h=>by unfold forL;rw[Ë (a _ _ _ h)];exact h0 env s h
 |v::r,env,s,h=>by
  unfold forL;rw[Ë (a _ _ _ h)];have k:=f v r env s h;revert k;cases tgt v env s with
  |nx c s1=>
   intro k;have k:(b c s1).wp (I r) T:=k;dsimp only;revert k;cases b c s1 with
   |nx d g=>intro k;exact nv I a h0 f r d g k
   |rt d g=>intro k;exact k
   |_=>intro k;exact k.elim
  |_=>intro k;exact k.elim
theorem n7 {tgt:Mt}{b:Eb}{elt:Ev}{gs:Gd}{Q:Á AV->S->Prop}(I:Á AV->Á AV->En->S->Prop)(d:∀l a env s,I l a env s->wR gs s)(h0:∀a env s,I [] a env s->Q a s)
  (g:∀v r a env s,I (v::r) a env s->(tgt v env s).wp (λe s1=>(b e s1).wp λc f=>if c=true then (elt e f).wp λx j=>I r (a++[x]) e j else I r a e f) (λ_ _=>False)):∀l a env s,I l a env s->(au tgt b elt gs l env s a).wp Q
 |[],a,env,s,h=>by unfold au;rw[Ë (d _ _ _ _ h)];exact h0 a env s h
 |v::r,a,env,s,h=>by
  unfold au;rw[Ë (d _ _ _ _ h)];have k:=g v r a env s h;revert k;cases tgt v env s with
  |nx m s1=>
   intro k;dsimp only;rw[wp_bind,EX];refine R.wp.mono k λc f k=>?_;rw[uN,wp_bind,EX];split
   ·rename_i i;rw[Ë i]at k;exact R.wp.mono k λx j k=>n7 I d h0 g r (a++[x]) m j k
   ·rename_i i;rw[Ñ i]at k;exact n7 I d h0 g r a m f k
  |_=>intro k;exact k.elim
def ğ {m:R α}(h:m=.ok v s)(Q:α->S->Prop):m.wp Q=Q v s:=by rw[h];rfl
def oQ {m:RS}(h:m=.nx e s)(N:En->S->Prop)(T:AV->S->Prop):m.wp N T=N e s:=by rw[h];rfl
def Se (f:En->S->Nat)(c:Eb)(b:Ms)(env:En)(s:S)(N:En->S->Prop)(T:AV->S->Prop):(NI f c b env s).wp N T=(Lm c b (f env s) env s).wp N T:=rfl
def Ľ (h:∀K:En->S->Prop,(∀e s,K e s=(b e s).wp N T)->(a env s).wp K T):(ā a b env s).wp N T:=by
 rw[WS.1];exact h _ λ_ _=>rfl
def WV :
  (∀v l s Q,(mv 0 (À v::l) s).wp Q=Q v s)/\
  (∀n x l s Q,(mv (n+1) (x::l) s).wp Q=(mv n l s).wp Q)/\
  (∀i j s Q,(Ł (.int i) (.int j) s).wp Q=Q (.int (i+j)) s)/\
  (∀i j s Q,(UP (.int i) (.int j) s).wp Q=Q (.int (i-j)) s)/\
  (∀i j s Q,(nO (.int i) (.int j) s).wp Q=((Lf i/\Lf j)/\Q (.int (i*j)) s))/\
  (∀i j s Q,(sy (.int i) (.int j) s).wp Q=((j≠0/\O6 j)/\Q (.int (i.fdiv j)) s))/\
  (∀i j s Q,(kb (.int i) (.int j) s).wp Q=(j≠0/\Q (.int (i.fmod j)) s))/\
  (∀i s Q,(tF (.int i) s).wp Q=Q (.int (-i)) s)/\
  (∀b s Q,(Js (.bl b) s).wp Q=Q (.bl (!b)) s)/\
  (∀i j s Q,(C4 (.int i) (.int j) s).wp Q=Q (.bl (decide (i<j))) s)/\
  (∀i j s Q,(sA (.int i) (.int j) s).wp Q=Q (.bl (decide (i<=j))) s)/\
  (∀i j s Q,(C3 (.int i) (.int j) s).wp Q=Q (.bl (decide (j<i))) s)/\
  (∀i j s Q,(F6 (.int i) (.int j) s).wp Q=Q (.bl (decide (j<=i))) s)/\
  (∀i j s Q,(ag (.int i) (.int j) s).wp Q=Q (.bl (decide (i=j))) s)/\
  (∀i j s Q,(uo (.int i) (.int j) s).wp Q=Q (.bl (!decide (i=j))) s)/\
  (∀i j s Q,(ag (.str i) (.str j) s).wp Q=Q (.bl (decide (i=j))) s)/\
  (∀i j s Q,(uo (.str i) (.str j) s).wp Q=Q (.bl (!decide (i=j))) s)/\
  (∀v s Q,(o7 v .Ğ s).wp Q=Q (.bl (ll v)) s)/\
  (∀v s Q,(M6 v .Ğ s).wp Q=Q (.bl (!ll v)) s)/\
  (∀i s Q,(yh [.int i] s).wp Q=Q (.int (if i<0 then -i else i)) s)/\
  (∀i j s Q,(UO [.int i,.int j] s).wp Q=Q (.int (if j<i then j else i)) s)/\
  (∀i s Q,(OI [.int i] s).wp Q=Q (.int i) s)/\
  (∀i s Q,(OI [.bl i] s).wp Q=Q (.int (if i then 1 else 0)) s)/\
  (∀xs i s Q,(ĝ (.tup xs) (.int i) s).wp Q=(need (ku xs i) λv=>.ok v s).wp Q)/\
  (∀k i s Q,(ĝ (.ref k) (.int i) s).wp Q=(need (ë s k) λxs=>need (ku xs i) λv=>.ok v s).wp Q)/\
  (∀{α:Type}(a:α) (s:S) (Q:α->S->Prop),(R.ok a s).wp Q=Q a s)/\
  (∀e s N T,(RS.nx e s).wp N T=N e s)/\
  (∀{α c:Type}(x:c) (f:c->R α) (Q:α->S->Prop),(need (À x) f).wp Q=(f x).wp Q)/\
  (∀xs s Q,(Kn (.tup xs) s).wp Q=Q (xs,[]) s)/\
  (∀i j s Q,(tH (.int i) (.int j) s).wp Q=(LD i j/\Q (.int (i^j.toNat)) s))/\
  (∀i j s Q,(nN [.int i,.int j] s).wp Q=((0<j/\O6 j)/\Q (.tup [.int (i / j),.int (i % j)]) s)):=by
 refine⟨?_,?_,?_,?_,?_,?_,?_,?_,?_,?_,?_,?_,?_,?_,?_,?_,?_,?_,?_,?_,?_,?_,?_,?_,?_,?_,?_,?_,?_,?_,?_⟩<;>intros<;>first|rfl|exact lF _ _ _
def Lq :
  (∀(x y:Ð AV) (l:En),(x::l).set 0 y=y::l)/\
  (∀(x y:Ð AV) (l:En) (n:Nat),(x::l).set (n+1) y=x::l.set n y)/\
  (∀(n:Nat) (x:Ð AV),Ö (n+1) x=x::Ö n x)/\
  (∀(x:Ð AV),Ö 0 x=[])/\
  (∀(a:AV) (l:Á AV),ku (a::l) 0=À a)/\(∀(a b:AV) (l:Á AV),ku (a::b::l) 1=À b)/\(∀(a b c:AV) (l:Á AV),ku (a::b::c::l) 2=À c)/\
  (∀(l:Lc) (env:En),BJ l env=l.map λp=>p.2.bind λj=>(env[j]?).join)/\
  (∀(x:Ð AV) (l:En),(x::l)[0]?=À x)/\
  (∀(x:Ð AV) (l:En) (n:Nat),(x::l)[n+1]?=l[n]?)/\
  (∀{α d:Type}(f:α->d),[].map f=[])/\
  (∀{α d:Type}(f:α->d) (x:α) (l:Á α),(x::l).map f=f x::l.map f)/\
  (∀{α d:Type}(f:α->Ð d),(none:Ð α).bind f=none)/\
  (∀{α d:Type}(f:α->Ð d) (x:α),(À x).bind f=f x)/\
  (∀{α:Type}(x:Ð α),(À x).join=x):=by
 refine⟨?_,?_,?_,?_,?_,?_,?_,?_,?_,?_,?_,?_,?_,?_,?_⟩<;>intros<;>first|rfl|skip
 ·exact j3 (j:=0) rfl
 ·exact j3 (j:=1) rfl
 ·exact j3 (j:=2) rfl
def UU:(∀p:Prop,(True ∧ p)=p) ∧ (∀p:Prop,(p ∧ True)=p) ∧ (∀{α:Type}{_:ś True}(a b:α),(if True then a else b)=a) ∧ (∀{α:Type}{_:ś False}(a b:α),(if False then a else b)=b) ∧ ((false=true)=False) ∧ (∀(p:Prop){_:ś p},(decide p=true)=p) ∧ (∀b:Bool,((!b)=true)=(b=false)) ∧ (∀(p:Prop){_:ś p},(decide p=false)=¬p):=by
 refine⟨λp=>true_and p,λp=>and_true p,λa b=>fI a b,λa b=>fz a b,Ŵ,λp _=>Ń,λb=>dF b,λp _=>cF K_⟩

end Mm
local macro_rules |`(tactic|walk_at"w") => `(tactic|simp only [↓Mm.WS, ↓Mm.WE, ↓Mm.WV, Mm.Lq, Mm.Þ, Mm.UU, Æ, ↓Í])
local macro_rules|`(tactic|simp?[$a:simpLemma,*])=>`(tactic|simp only[↓Mm.WS,↓Mm.WE,↓Mm.WV,Mm.Lq,Mm.Þ,Mm.UU,Æ,↓Í,$a:simpLemma,*])
namespace Ro
open PySem L2 Mm
structure Df (T:Tx)(mg:Str->Ð Value)(x:Str)(st:Stmt):Prop where
 ex:∃f fd,G4 T.K x x st f fd/\mg x=À (.ref f)
def Tj {K:É}{cl:Nat->Addr}{h:Heap}{mg:Str->Ð Value}{x:Str}{st:Stmt}{f:Addr}{i:Value}{od g:Ð Addr}{e:ę (Ð Value)}{kV d j b ct:Value}(X:K.In h)(G:h.Ns mainGlobals mg)(a:ĕ K mainGlobals x=À (À (.ref f)))
  (l:K.lookup f=À ⟨i,od,.func (ō x x (cH st) (aN st) (ě st) .none kV d j g b ct),e⟩) (c:dN K b x=true) (k:į K (.ref f)=true):Df ⟨K,cl⟩ mg x st:=
 ⟨⟨f,_,zd l c k,hJ X G a⟩⟩
def Io (X:K.In h)(G:h.Ns mainGlobals mg)(a:ĕ K mainGlobals x=À (À (.ref f))) (l:K.lookup f=À ⟨.type "tuple",od,.seq d n,e⟩)(v:Vals vs d.toList)(b:vs.length<=1000)(c:∀ρ H,Ĥ ⟨K,cl⟩ ρ H as vs):B9 ⟨K,cl⟩ mg x (.tup as):=
 ⟨.ref f,.ref f,hJ X G a,rfl,λρ H=>jK (gq.const l v b) (c ρ H)⟩
def Ei (X:K.In h)(G:h.Ns mainGlobals mg)(e:ĕ K mainGlobals x=À (À u)) (r:RelV v u)(b:∀ρ H,VR ⟨K,cl⟩ ρ H a v):B9 ⟨K,cl⟩ mg x a:=⟨v,u,hJ X G e,r,b⟩
section
variable {P:Č}{w:Ī}{T:Tx}{mg:Str->Ð Value}{base:Heap}
def Ve (N P:Á Str)(a:Scope):Bool:=decide N.Nodup&&(P.all (λx=>decide (a.names.lookup x=À .local)||decide (a.names.lookup x=À .cell))&&a.names.all λy=>!decide (y.2=.free))
def ŏ {N P:Á Str}{a:Scope}(b:a.kind=.function)(c:a.isCoroutine=false)(d:a.isGenerator=false)(e:N.take P.length=P)(h:Ve N P a=true):i_ N P a:=by
 unfold Ve at h;rw[ċ,ċ,ú,ú]at h;refine⟨b,c,d,č h.1,e,λx f=>?_,λy g=>?_⟩
 ·have:=h.2.1 x f;rw[fE]at this;exact this.imp č č
 ·have:=h.2.2 y g;rw[dF]at this;exact SV this
def len0 {α:Type}{us:Á α}(h:us.length=0):us=[]:=Ce.mp h
def Ub {α:Type}{us:Á α}(h:us.length=1):∃b,us=[b]:=by
 cases us with
 |nil=>cases h
 |cons a us=>
  cases len0 (f9 h);exact⟨a,rfl⟩
def Uc {α:Type}{us:Á α}(h:us.length=2):∃c b,us=[c,b]:=by
 cases us with
 |nil=>cases h
 |cons a us=>
  obtain⟨b,rfl⟩:=Ub (f9 h);exact⟨a,_,rfl⟩
def Ud {α:Type}{us:Á α}(h:us.length=3):∃d b c,us=[d,b,c]:=by
 cases us with
 |nil=>cases h
 |cons a us=>
  obtain⟨b,c,rfl⟩:=Uc (f9 h);exact⟨a,_,_,rfl⟩
def Ue {α:Type}{us:Á α}(h:us.length=4):∃e b c d,us=[e,b,c,d]:=by
 cases us with
 |nil=>cases h
 |cons a us=>
  obtain⟨b,c,d,rfl⟩:=Ud (f9 h);exact⟨a,_,_,_,rfl⟩
def Ug {α:Type}{us:Á α}(h:us.length=5):∃f b c d e,us=[f,b,c,d,e]:=by
 cases us with
 |nil=>cases h
 |cons a us=>
  obtain⟨b,c,d,e,rfl⟩:=Ue (f9 h);exact⟨a,_,_,_,_,rfl⟩
def Uh {α:Type}{us:Á α}(h:us.length=6):∃g b c d e f,us=[g,b,c,d,e,f]:=by
 cases us with
 |nil=>cases h
 |cons a us=>
  obtain⟨b,c,d,e,f,rfl⟩:=Ug (f9 h);exact⟨a,_,_,_,_,_,rfl⟩
def Ui {α:Type}{us:Á α}(h:us.length=7):∃i b c d e f g,us=[i,b,c,d,e,f,g]:=by
 cases us with
 |nil=>cases h
 |cons a us=>
  obtain⟨b,c,d,e,f,g,rfl⟩:=Uh (f9 h);exact⟨a,_,_,_,_,_,_,rfl⟩
end
end Ro
namespace L2
open PySem PySem.Spec PyProof.Rows
theorem Inv.Jp (I:Inv X a b H s):s.heap.NoDigits:=I.ok.mod.Jp.keeps I.bk
def Q9 (g:X.calm=true)(h:PE X e k):PE X (.FormattedValue e (-1) none pos) (λd H Q=>k d H λx A=>(∃i,x=.int i/\i.natAbs<10^4300/\Q (.str (toString i)) A)∨∃t,x=.str t/\t.length<=sizeLine/\Q (.str t) A):=by
 intro a s d H Q I j;refine wpAny_FormattedValue_plain (aq (h a s d H _ I j) λu m l=>iR l λx A B f q=>?_);rcases q with⟨i,rfl,c,q⟩|⟨t,rfl,c,q⟩
 ·obtain⟨t,rfl⟩:=f;exact YR (B.ok.hd g) B.Jp (λ_=>⟨.str _,A,B.tok _,⟨_,rfl⟩,q⟩) λb=>absurd c (oB.mpr b)
 ·obtain⟨n,rfl⟩:=f;exact wpAny_formatField_str ⟨.str _,A,B,⟨_,rfl⟩,q⟩ ⟨.str _,A,B.tok _,⟨_,rfl⟩,q⟩ c
abbrev TJ:=St->Hp->Str->(Str->Hp->Prop)->Prop
def PJ (X:Cx)(e:Á Expr)(t:TJ):Prop:=∀a s d H b Q,Inv X a d H s->t d H b Q->
 Joins (à X.prog X.w) X.A X.xe (Fd e X.env) b (λc f=>∃B,Inv X a d B f/\Q c B) s
def Vm:TJ:=λb H a Q=>Q a H
def R5 (c:TE)(r:TJ):TJ:=λb H a Q=>c b H λx A=>∃y,x=.str y/\(a++y).length<=sizeLine/\r b A (a++y) Q
def Rm:PJ X [] Vm:=λa s c H b Q I h=>⟨H,I,h⟩
def Nn (g:PE X e l)(hr:PJ X b r)(i:Fd (e::b) X.env=Ė e X.env::Fd b X.env:=by rfl):PJ X (e::b) (R5 l r):=by
 intro a s c H d Q I h;rw[i];refine aq (g a s c H _ I h) λu k m=>?_;obtain⟨x,A,B,j,y,f,hl,q⟩:=m;subst f;obtain⟨t,rfl⟩:=j;exact⟨y,t,rfl,hl,hr a k c A _ Q B q⟩
theorem xW:∀{ps:Á (Za Value)}{a:Str}{Q B:Str->Ú->Prop}{s:Ú},Joins M A E ps a Q s->(∀o s,Q o s->B o s)->Joins M A E ps a B s
 |[],_,_,_,_,h,k=>k _ _ h
 |_::_,_,_,_,_,h,k=>aE h (λ_ _ b=>iR b λy t e hl r=>⟨y,t,e,hl,xW r k⟩) λ_ _ x=>x
def Nc (h:PJ X (e1::c::d) t):PE X (.JoinedStr (e1::c::d) pos) (λb H Q=>t b H gp λout A=>out.length<=sizeLine/\Q (.str out) A):=by
 intro a s b H Q I e;exact wpAny_JoinedStr (xW (h a s b H gp _ I e) λout f ⟨A,B,hl,q⟩=>⟨hl,.str out,A,B.tok _,⟨_,rfl⟩,q⟩)
end L2
namespace Mm
open PySem L2
section
variable {T:Tx}{XE:iQ}{X:Cx}{pos:kU}
structure Dg (i:Int):Prop where
 f:i.natAbs<10^4300
instance {i:Int}:ś (Dg i):=kY _
def Yg (i:Int):Str:=æ (toString i)
def iV:AV->S->R AV
 |.int i,s=>if Dg i then .ok (.str (Yg i)) s else .bad
 |.str t,s=>if t.length<=sizeLine then .ok (.str t) s else .bad
 |_,_=>.bad
def Qm (j:X.calm=true)(h:PE X e (tE T XE m)):PE X (.FormattedValue e (-1) none pos) (tE T XE (az iV m)):=
 PE.imp (Q9 j h) λt H Q o=>ň o λr g s n k l=>step n k l λv p d A x _ q c i b a=>by
  have b:VR T d A v x:=b;cases v<;>try exact a.elim
  ·obtain⟨hl,a⟩:=a.Ś;exact .inl ⟨_,b.int_inv,hl.f,a.ĸ c iN⟩
  ·obtain⟨hl,a⟩:=a.Ś;exact .inr ⟨_,b.str_inv,hl,a.ĸ c iN⟩
abbrev Ej:=Str->En->S->R Str
def nE:Ej:=λa _ s=>.ok a s
def aP (m:Ev)(r:Ej):Ej:=λa b s=>(m b s).bind λv c=>match v with
 |.str y=>if (a++y).length<=sizeLine then r (a++y) b c else .bad
 |_=>.bad
def X9:Rl Str Str:=⟨λ_ _ _ a b=>a=b,λ_ h=>h⟩
def tJ (T:Tx)(XE:iQ)(m:Ej):TJ:=λd H b Q=>∃c a s,SR T c s H/\ER T c H a d/\Out T XE X9 c H (m b a s) Q
def PJ.imp (h:PJ X d t)(k:∀c H a Q,t' c H a Q->t c H a Q):PJ X d t':=λb s c H a Q I e=>h b s c H a Q I (k c H a Q e)
def QC:PJ X [] (tJ T XE nE):=PJ.imp Rm λg H a Q ⟨e,b,s,d,f,c⟩=>c e H a .refl d rfl
def MK (i:PE X e (tE T XE m)) (hr:PJ X h (tJ T XE r)) (j:Fd (e::h) X.env=Ė e X.env::Fd h X.env:=by rfl):PJ X (e::h) (tJ T XE (aP m r)):=
 PJ.imp (Nn i hr j) λq H a Q ⟨p,f,s,j,i,l⟩=>step j i l λv n d A x _ o k g c b=>by
  have c:VR T d A v x:=c;cases v<;>try exact b.elim
  obtain⟨hl,b⟩:=b.Ś;exact⟨_,c.str_inv,hl,d,f,n,k,g,b⟩
def g9 (r:Ej):Ev:=λa s=>(r gp a s).bind λt b=>if t.length<=sizeLine then .ok (.str t) b else .bad
def MD (h:PJ X (e1::d::f) (tJ T XE r)):PE X (.JoinedStr (e1::d::f) pos) (tE T XE (g9 r)):=
 PE.imp (Nc h) λo H Q l=>ň l λm b s i g a=>by
  refine⟨m,b,s,i,g,?_⟩;unfold g9 at a;cases e:r gp b s with
  |bad=>rw[e]at a;exact a
  |ex c j=>rw[e]at a;exact a
  |ok t j=>
   rw[e]at a;obtain⟨hl,a⟩:=a.Ś;intro n A x u k ex;cases (show t=x from ex);exact⟨hl,(Out.up u a).ĸ k iN⟩
end
end Mm
namespace L2
open PySem PySem.Spec PySem.W PyProof.Rows
def XT (h:Heap)(e:Addr)(vs:ę Value):Prop:=vs[1]?=À .none∨∃T a b,vs[1]?=À (.ref T)/\T≠e/\h.get? T=À a/\a.data=.fields b/\b[3]?=À .none
structure Way (fs:Á Addr)(e:Addr)(oe:Obj)(h h':Heap):Prop where
 keep:∀b o,h.get? b=À o->b∉fs->b≠e->h'.get? b=À o
 slot:∀b o,h.get? b=À o->b∈fs->∃sl,h'.get? b=À {o with slots:=sl}
 exc:∃vs,h'.get? e=À {oe with data:=.fields vs}/\1<vs.size/\XT h' e vs
def qE (hd:o.data=.fields ts)(b:ts[3]?=À .none):Ĉ (·.setIfInBounds 3 .none) o=o:=by
 obtain⟨c,d,a,f⟩:=o;have hd:a=.fields ts:=hd;subst hd;show Obj.mk c d (.fields (ts.setIfInBounds 3 .none)) f=_;congr 2;apply Array.ext_getElem?;intro i;rw[Array.getElem?_setIfInBounds];split
 ·rename_i e;subst e;split
  ·exact b.symm
  ·rename_i g;rw[gw (by lia)]at b;cases b
 ·rfl
def CT (hd:o.data=.fields ts)(f:ę Value->ę Value):Ĉ f o={o with data:=.fields (f ts)}:=by
 obtain⟨c,d,a,b⟩:=o;have hd:a=.fields ts:=hd;subst hd;rfl
section
variable {M:Model}{A:Œ}{E:Value->Ú->Prop}{s:Ú}
def AU 
  (q:A.frames=À (env::outer)) (hl:s.heap.FunFrames base (env::outer)) (F:env.frame=À L) (y:s.heap.get? e=À h) (hd:h.data=.fields vs) (hz:1<vs.size)
  (G:∀h',Way (z_ (env::outer)) e h s.heap h'->Q () {s with heap:=h'}) :
  Ü M A (do let a <-frameOf env;let pl <-entryPlaceOf L O;let b <-Ad head a .none (Ŷ L) .none pl;setField (.ref e) 1 b) (λ_ s'=>Ü M A (Aw (.ref e) none) Q E s') E s:=by
 have C:e∉z_ (env::outer):=λz=>by
  obtain⟨_,o,B,r⟩:=hl.mem z;rw[y]at B;cases B;exact r vs hd
 refine Â (wpAny_frameOf_fun q hl F λg u=>?_);refine Â (wpAny_entryPlaceOf λpl t=>?_);refine Â ?_;simp only[Ad,newFields];refine Š ?_ (t.sizeOk5 _ _ _ _ _);generalize I:([head,Ò L,õ,Ŷ L,õ]++(if pl.isEmpty then Ö 6 õ else pl)).toArray=c;have J:5<=c.size:=by rw[<-I];simp
 have w:g.get? e=À h:=(u.2.1 e C).trans y;have d:g.objs.size≠e:=ħ (Ó w);have j:(g.push {cls:=.type "traceback",data:=.fields c}).get? e=À h:=Ä _ w;refine i9 j hd hz ?_;have v:(Ĉ (·.setIfInBounds 1 (Ò g.objs.size)) h)={h with data:=.fields (vs.setIfInBounds 1 (.ref g.objs.size))}:=CT hd _;have l:(Ĉ (·.setIfInBounds 1 (Ò g.objs.size)) h).data=.fields (vs.setIfInBounds 1 (.ref g.objs.size)):=by rw[v]
 have k:=Ą (Ĉ (·.setIfInBounds 1 (Ò g.objs.size))) j (dM l);have gT:=(ê (g.push {cls:=.type "traceback",data:=.fields c}) (Ĉ (·.setIfInBounds 1 (Ò g.objs.size))) (Ō d)).trans (Ù g rfl);unfold Aw;refine Â (ń k l (x:=.ref g.objs.size) (by rw[dD hz]) ?_);rw[Ë (by simp)];refine i9 gT rfl (by lia) (G _ ?_);have m:∀b o,g.get? b=À o->b≠e->(((g.push {cls:=.type "traceback",data:=.fields c}).update e (Ĉ (·.setIfInBounds 1 (Ò g.objs.size)))).update g.objs.size (Ĉ (·.setIfInBounds 3 ((none:Ð Addr).elim õ λf=>Ŷ f)))).get? b=À o:=λb o i p=>by
  rw[ê _ _ (ħ (Ó i)),ê _ _ (Ō p)];exact Ä _ i
 refine⟨λb o i n D=>m b o ((u.2.1 b n).trans i) D,λb o i n=>?_,?_⟩
 ·obtain⟨N,H⟩:=u.2.2 b o i;exact⟨N,m b _ H λz=>C (z▸n)⟩
 ·refine⟨vs.setIfInBounds 1 (.ref g.objs.size),?_,by simpa using hz,.inr ⟨g.objs.size,_,_,by rw[dD hz],d,Ą _ gT (dM (by rw[CT (o:={cls:=.type "traceback",data:=.fields c}) (ts:=c) rfl])),by rw[CT (o:={cls:=.type "traceback",data:=.fields c}) (ts:=c) rfl],?_⟩⟩
  ·rw[ê _ _ d,k,v]
  ·rw[dD (by lia)];rfl
def Ek 
  (g:A.frames=À (env::outer)) (hl:s.heap.FunFrames base (env::outer)) (k:env.frame=À L) (j:s.heap.get? e=À l) (hd:l.data=.fields vs) (p:XT s.heap e vs)
  (m:∀h',Way (z_ (env::outer)) e l s.heap h'->Q () {s with heap:=h'}):Ü M A (Ld (.ref e) env) (λ_ s'=>Ü M A (Aw (.ref e) none) Q E s') E s:=by
 unfold Ld;simp only[k];rcases p with d|⟨T,r,t,d,n,i,a,h⟩
 ·refine Â (ń j hd d ?_);rw[Ñ (by decide)];exact AU g hl k j hd (eo.mp d).1 m
 ·refine Â (ń j hd d ?_);rw[Ë (show(Ò T != õ)=true from by simp)];refine Â (ń i a h ?_);rw[Ñ (show ¬((õ == Ŷ L)=true)from by simp[Ŷ])];refine Â (i9 i a (eo.mp h).1 ?_);have same:∀b o,s.heap.get? b=À o->(s.heap.update T (Ĉ (·.setIfInBounds 3 õ))).get? b=À o:=λb o c=>by
   by_cases f:b=T
   ·subst f;rw[i]at c;cases c;have q:=Ą (Ĉ (·.setIfInBounds 3 õ)) i (by rw[qE a h];exact dM a);rw[q,qE a h]
   ·rw[ê _ _ (Ō f)];exact c
  refine AU (s:={s with heap:=s.heap.update T (Ĉ (·.setIfInBounds 3 õ))}) g (hl.of_keeps λb o c _=>⟨o,same b o c,rfl⟩) k (same e l j) hd (eo.mp d).1 λh' W=>m h' ?_;exact⟨λb o c=>W.keep b o (same b o c),λb o c=>W.slot b o (same b o c),W.exc⟩
def Iu 
  (a:A.frames=À (env::outer)) (hl:s.heap.FunFrames base (env::outer)) (d:env.frame=À L) (c:s.heap.get? e=À b) (hd:b.data=.fields vs) (g:XT s.heap e vs)
  (f:∀h',Way (z_ (env::outer)) e b s.heap h'->Q () {s with heap:=h'}):Ü M A (leaving env (.ref e)) Q E s:=by
 unfold leaving;exact Â (Ek a hl d c hd g f)
def FE (i:s.heap.get? e=À m)(hd:m.data=.fields vs)(l:XT s.heap e vs)
  (j:∀h',(∀b o,s.heap.get? b=À o->h'.get? b=À o)->Q () {s with heap:=h'}):Ü M A (Aw (.ref e) none) Q E s:=by
 unfold Aw;rcases l with d|⟨T,n,p,d,k,g,a,f⟩
 ·refine Â (ń i hd d ?_);rw[Ñ (by decide)];exact Ì (j s.heap λ_ _ z=>z)
 ·refine Â (ń i hd d ?_);rw[Ë (show(Ò T != õ)=true from by simp)];refine i9 g a (eo.mp f).1 (j _ λb o h=>?_);by_cases c:b=T
  ·subst c;rw[g]at h;cases h;have q:=Ą (Ĉ (·.setIfInBounds 3 õ)) g (by rw[qE a f];exact dM a);exact q.trans (by rw[qE a f])
  ·exact(ê _ _ (Ō c)).trans h
end
def N3 (C e:Addr)(d:Ð Addr):HO:=.ext λh=>∃a b,h.get? e=À a/\a.cls=.ref C/\a.dict=d/\a.data=.fields b
def Way.ť (W:Way fs e a h h')(l:∀b∈fs,H b=none)(j:H e=À (N3 C e d)) (A:h.get? e=À a)(hc:a.cls=.ref C)(o:a.dict=d)(x:mO P w H h):mO P w H h':=λb u q=>by
 obtain⟨f,g,p,s⟩:=W.exc;by_cases i:b=e
 ·subst i;rw[j]at q;cases q;exact⟨⟨_,f,g,hc,o,rfl⟩,⟨_,g⟩,λt y ⟨n,f,z,r⟩ k=>⟨n,f,k n z,r⟩⟩
 ·refine(x b u q).oO (λc v hc z=>W.keep c v z (λm=>?_) ?_) (λc z=>z) λc xs z=>z
  ·rcases hc with rfl|hc
   ·rw[l c m]at q;cases q
   ·rw[l c m]at hc;cases hc
  ·rintro rfl;rcases hc with rfl|hc
   ·exact i rfl
   ·rw[j]at hc;cases hc
def Way.un (W:Way fs e p h h')(k:H e=À (N3 C e d)) (l:∀b∈fs,b∈f):Un f [] H H h h':=by
 have g:∀b,H b=none->b≠e:=λb n z=>by subst z;rw[k]at n;cases n
 have a:∀b o,h.get? b=À o->b≠e->∃i,h'.get? b=À {o with slots:=i}:=λb o q z=>by
  by_cases m:b∈fs
  ·exact W.slot b o q m
  ·exact⟨o.slots,W.keep b o q m z⟩
 refine⟨λb o q n j _=>W.keep b o q (λz=>j (l b z)) (g b n),λb o q n _ _=>a b o q (g b n),λ_ _ _ n _=>n,λb o q _=>?_,λ_ _ q=>q,λ_ _ _ q=>q,λ_ r q=>⟨#[],by rw[q];simp⟩⟩;by_cases z:b=e
 ·subst z;obtain⟨s,c,_⟩:=W.exc;exact⟨_,c⟩
 ·obtain⟨i,c⟩:=a b o q z;exact⟨_,c⟩
structure Lies (C e:Addr)(d:Ð Addr)(H:Hp)(h:Heap):Prop where
 Ll:H e=À (N3 C e d)
 ex:∃ox vs,h.get? e=À ox/\ox.cls=.ref C/\ox.dict=d/\ox.data=.fields vs/\XT h e vs
def ri (P:Č)(w:Ī):G1:=λa H s E b s'=>∃e C d A,b=.ref e/\s'.os=s.os/\n3 s'.gens/\Un (z_ a) [] H A s.heap s'.heap/\mO P w A s'.heap/\Lies C e d A s'.heap/\E b (À C) A
def Un.way (u:Un fs [] A H h0 h)(W:Way (L::fs) e s h h') (k:H e=À (N3 C e d)) (j:h0.objs.size<=L):Un fs [] A H h0 h':=by
 have l:∀b,H b=none->b≠e:=λb n z=>by subst z;rw[k]at n;cases n
 have nL:∀b o,h0.get? b=À o->b≠L:=λb o q z=>by subst z;exact absurd (Ó q) (oB.mpr j)
 refine⟨λb o q n f a=>W.keep b o (u.keep b o q n f a) (λz=>?_) (l b (u.free b o q n a)),λb o q n f a=>?_,u.free,λb o q a=>?_,u.lE,u.jx,u.wt⟩
 ·rcases ß.mp z with z|z
  ·exact nL b o q z
  ·exact f z
 ·obtain⟨p,g⟩:=u.slot b o q n f a;obtain⟨i,c⟩:=W.slot b _ g (Ċ _ f);exact⟨i,c⟩
 ·obtain⟨r,g⟩:=u.there b o q a;by_cases z:b=e
  ·subst z;obtain⟨t,c,_⟩:=W.exc;exact⟨_,c⟩
  ·by_cases m:b∈L::fs
   ·obtain⟨p,c⟩:=W.slot b _ g m;exact⟨_,c⟩
   ·exact⟨_,W.keep b _ g m z⟩
def Lets (X:Cx)(E:XK):Prop:=∀a b H s e C d,Inv X a b H s->Lies C e d H s.heap->E (.ref e) (À C) H->X.xe (.ref e) s
def Lets.passes (l:Lets X E):Passes (ri X.prog X.w) X E:=by
 rintro b f H s g s' I ⟨e,C,d,A,rfl,os,a,un,c,x,q⟩;obtain⟨v,B,J,r,rfl⟩:=I.after (Q:=λv B=>B=A) (u:=.none) ⟨.Ğ,A,os,a,un,c,rfl,rfl⟩;exact l b f _ s' e C d J x q
def Ml {K:É}{mg:Str->Ð Value}{N:Á Str}{scope:Scope}{outer:Á KS}{E:XK}:Lets (mS (ri P w) P w K mg base N i scope f n A outer s H E) E:=by
 intro h u B s' e C d I x q;obtain⟨p,r,b,c,g,j,k⟩:=x.ex;refine Iu (base:=base) (outer:=outer) I.ok.frames I.stack rfl b j k λo W=>?_;refine⟨e,C,d,B,rfl,I.os,I.bare,I.base.way W x.Ll (Î _),W.ť I.uM x.Ll b c g I.ť,⟨x.Ll,?_⟩,q⟩;obtain⟨a,l,t,m⟩:=W.exc;exact⟨_,a,l,c,g,rfl,m⟩
def RO (C:Addr)(E:XK)(t:TA):TS:=λ_ b H=>t b H λa A=>a.length<=sizeLine/\∀e,A e=none->E (.ref e) (À C) (upd A e (N3 C e none))
def JR (x:jk X.K C nm bm none)(hk:į X.K (.ref C)=true) (Z:Gl X B)(p:X.mg B=À (.ref C)) (U:X.calm=true)(l:Lets X E)(Q:PA X (a::as) t)
  (y:(B == ("__debug__":Str))=false:=by decide) (Y:Ï (a::as) X.env=(false,Ė a X.env)::Ï as X.env:=by rfl) (z:(Ģ c (Ï as X.env)).any (·.1)=false:=by rfl) :
  PS X (.Raise (À (.Call (.Name B np) (a::as) [] c)) none pos) (RO C E t):=by
 intro j s O H D I h;obtain⟨q,N,bs,sn,sub,ab,col,dd,k0,k1,k2,k3,k5,m,G,n,i⟩:=x.ex;have T:bm.contains (.type "BaseException")=true:=(x.tail.Q5 I.md).hasType (X:="BaseException") (b:=true) (by decide+kernel);rw[arm_exec_Raise];refine Â (eO (wpAny_raiseStmt_made_sub (C:=C) (nm:=nm) (q:=q) (N:=N) (bs:=bs) (bm:=bm) (hdct:=true) (sn:=sn) (sub:=sub) (ab:=ab) (col:=col) (dd:=dd) (k0:=k0) (k1:=k1) (k2:=k2) (k3:=k3) (k5:=k5) (newId:="ValueError.__new__") T (I.ok.hd U) (Â (aE (af (oj I Z p ?_ y)) (λv L u=>Â (eO (Ì u))) λ_ _ x=>x))));refine qh (h₀:=X.base) I.ok.mod.T9 hk (aq (Q c j s O H _ I h) λus s1 ⟨M,H1,A,r,hl,q1⟩=>⟨A.md,?_⟩) Y z;obtain⟨hp,g,d,tk,os⟩:=s1;refine wpAny_call_exc_subU (hrest:=by rw[av,<-r.length];exact hl) wW (by decide+kernel) wW (x.tail.Q5 A.md) (A.md _ _ G) (n.ns A.md) i λh' e p=>?_;obtain⟨t,w,_,_⟩:=p.there;have f:hp.get? e=none:=p.new;refine⟨e,t,rfl,p.keeps _ _ (A.md _ _ G),w,?_⟩;refine l j O _ _ e C none (A.Ua (a:=e) (o:=N3 C e none) (t':=tk) p.keeps f ?_) ⟨ă ..,_,_,w,rfl,rfl,rfl,.inl rfl⟩ (q1 e (A.gone f));exact⟨⟨_,_,w,rfl,rfl,rfl⟩,⟨_,w⟩,λh1 h2 ⟨J,M,P,r⟩ k=>⟨J,M,k J P,r⟩⟩
section
variable {M:Model}{A:Œ}{E:Value->Ú->Prop}{K:É}{C D:Addr}{nm nm2:Str}{bm Zs:Á Value}{B' Xx:Ð Value}
def IG (X:K.In s.heap)(x:jk K C nm bm B')(y:jk K D nm2 Zs Xx)(v:s.heap.get? e=À F)(u:F.cls=.ref C)(i:Q ((Ò C::bm).contains (.ref D)) s):Ü M A (excMatches (.ref e) (.ref D)) Q E s:=by
 obtain⟨q1,I,n,G,j,l,a,p,L,N,O,P,T,m1,z,n1,i1⟩:=x.ex;obtain⟨q2,J,o,H,k,m,c,q,U,Y,Z,b3,b5,m2,B,n2,i2⟩:=y.ex;have hC:=X _ _ z;have h:=X _ _ B;have r:(Ò D::Zs).contains (.type "BaseException")=true:=by rw[Ő,(y.tail.Q5 X).hasType (X:="BaseException") (b:=true) (by decide+kernel),eW]
 obtain⟨hp,g,d,t,os⟩:=s;have f:=PySem.tc_notTuple;unfold excMatches
 repeat (first|(with_reducible refine VT v ?_;rw[u])|with_reducible refine VT h ?_|(with_reducible refine So h ?_;rw[r])|with_reducible refine So hC ?_|wp_step)
 cases w:(Ò C::bm).contains (.ref D)<;>(rw[w]at i;wp_walk;exact i)
end
section
variable {X:Cx}{þ:Á (Addr×Obj)}{σ:St}{H:Hp}{s:Ú}
def L_ (I:Inv X þ σ H s)(T:X.N.Nodup)(F:X.N[i]?=À n)(U:X.env.scope.names.lookup n=À .local)
  (h:∀s',Inv X þ (σ.set i none) H s'->Q () s'):Ü M A (do gA X.env n .none;O2 X.env n pos) Q E s:=by
 obtain⟨m,G,hl⟩:=id I.loc;have r:(X.env.scope.kind == .class||(X.env.scope.kind == .module&&X.env.locals != X.env.globals))=false:=by rw[I.ok.kind];rfl
 have t:i<σ.length:=by rw[I.len];exact(Ç.mp F).1
 have l:=I.V_;obtain⟨oL,_,_,Y,_⟩:=id G;refine wpAny_nameGoes_keeps U G r λP v D f=>?_;have a:mO X.prog X.w H P:=λb ob e=>by
  refine(I.ť b ob e).oO (λc L hc q=>(f.2 c ?_).trans q) (λ_ q=>q) λ_ _ q=>q;rintro rfl;rcases hc with rfl|hc
  ·rw[I.free]at e;cases e
  ·rw[I.free]at hc;cases hc
 refine h _ ⟨I.ok,I.os,I.bare,⟨λb o e n B u=>?_,λb o e n B u=>?_,I.base.free,λb o e u=>?_,I.base.lE,I.base.jx,I.base.wt⟩,⟨_,D,λj y v' g x O=>?_⟩,λy c e=>?_,I.free,I.jw,λp Z=>?_,a,by simpa using I.len⟩
 ·exact(f.2 b (ò (ì (Ó e) I.ok.above))).trans (I.base.keep b o e n B u)
 ·obtain⟨sl,g⟩:=I.base.slot b o e n B u;exact⟨sl,(f.2 b (ò (ì (Ó e) I.ok.above))).trans g⟩
 ·obtain⟨o',g⟩:=I.base.there b o e u;exact⟨o',(f.2 b (ò (ì (Ó e) I.ok.above))).trans g⟩
 ·by_cases C:j=i
  ·subst C;rw[Đ t]at x;cases x
  ·rw[ù (Ō C)]at x;obtain⟨u',r',q⟩:=hl j y v' g x O;refine⟨u',r',?_⟩;rcases q with⟨k,e⟩|⟨k,c,e,z⟩
   ·refine .inl ⟨k,?_⟩;have:y≠n:=λe=>C (vK T g (e▸F));simp[this,e]
   ·exact .inr ⟨k,c,e,z.sameBut f (l y c e)⟩
 ·obtain⟨L,z⟩:=I.cell y c e;exact⟨L,z.sameBut f (l y c e)⟩
 ·obtain⟨e,n,J,nf,d⟩:=I.pin p Z;exact⟨(f.2 p.1 J).trans e,n,J,nf,d⟩
noncomputable abbrev Cx.oX (X:Cx)(xe:Value->Ú->Prop)(pn:Á (Addr×Obj)):Cx:={X with xe:=xe,pn:=pn}
noncomputable abbrev Cx.oW (X:Cx)(e:Addr):Cx:={X with A:=X.A.mark (À (.ref e)),calm:=false,xe:=λ_ _=>False}
theorem Inv.oX (I:Inv X þ σ H s):Inv (X.oX xe (X.pn++þ)) [] σ H s:=
 ⟨⟨I.ok.mod,I.ok.kind,I.ok.glob,I.ok.blt,I.ok.above,I.ok.inj,I.ok.has,I.ok.Og,I.ok.hd,I.ok.frames,I.ok.RY,I.ok.Tq,I.ok.bs,I.ok.Fo,I.ok.Bp,I.ok.AZ,I.ok.pA,I.ok.Lj⟩,I.os,I.bare,I.base,I.loc,I.cell,I.free,I.jw,λp a=>I.pin p (by simpa using a),I.ť,I.len⟩
def Inv.Br (I:Inv (X.oX xe (X.pn++þ)) a σ H s):Inv X þ σ H s:=
 ⟨⟨I.ok.mod,I.ok.kind,I.ok.glob,I.ok.blt,I.ok.above,I.ok.inj,I.ok.has,I.ok.Og,I.ok.hd,I.ok.frames,I.ok.RY,I.ok.Tq,I.ok.bs,I.ok.Fo,I.ok.Bp,I.ok.AZ,I.ok.pA,I.ok.Lj⟩,I.os,I.bare,I.base,I.loc,I.cell,I.free,I.jw,λp b=>I.pin p (cf _ b),I.ť,I.len⟩
theorem Inv.oW (I:Inv X þ σ H s):Inv (X.oW e) þ σ H s:=
 ⟨⟨I.ok.mod,I.ok.kind,I.ok.glob,I.ok.blt,I.ok.above,I.ok.inj,I.ok.has,I.ok.Og,(λz=>nomatch z),I.ok.frames,I.ok.RY,I.ok.Tq,I.ok.bs,I.ok.Fo,I.ok.Bp,I.ok.AZ,I.ok.pA,I.ok.Lj⟩,I.os,I.bare,I.base,I.loc,I.cell,I.free,I.jw,I.pin,I.ť,I.len⟩
def Inv.UN (a:X.calm=true->X.A.handled=none)(I:Inv (X.oW e) þ σ H s):Inv X þ σ H s:=
 ⟨⟨I.ok.mod,I.ok.kind,I.ok.glob,I.ok.blt,I.ok.above,I.ok.inj,I.ok.has,I.ok.Og,a,I.ok.frames,I.ok.RY,I.ok.Tq,I.ok.bs,I.ok.Fo,I.ok.Bp,I.ok.AZ,I.ok.pA,I.ok.Lj⟩,I.os,I.bare,I.base,I.loc,I.cell,I.free,I.jw,I.pin,I.ť,I.len⟩
end
def Vx (C e:Addr):Ð Addr->HO
 |none=>Wq C e
 |some a=>Z6 C e a
def Inv.Pj (I:Inv X c o H s)(h:H e=À (N3 C e d)):Inv X c o (upd H e (Vx C e d)) s:=by
 obtain⟨⟨a,q,b,f,g,l⟩,_⟩:=I.ť _ _ h;have j:Sw (H e):=by rw[h];trivial
 have i:notCls a=true:=by unfold notCls;rw[l]
 refine I.un (h':=s.heap) (t':=s.toks) (Un.write j (.inl rfl) (λ_ _ _ z=>z) ⟨_,b⟩) (I.ť.write j (.inl rfl) (λ_ _ _ z=>z) ⟨_,b⟩ ?_);cases d with
 |none=>exact⟨⟨a,b,f,i,g⟩,⟨_,b⟩,λm n ⟨a,z,r⟩ k=>⟨a,k a z,r⟩⟩
 |some p=>exact⟨⟨a,b,f,i,g⟩,⟨_,b⟩,λm n ⟨a,z,r⟩ k=>⟨a,k a z,r⟩⟩
def Om (i:Nat)(D:Ends):Ends where
 nx:=λσ H=>D.nx (σ.set i none) H
 rt:=D.rt
 bk:=λσ H=>D.bk (σ.set i none) H
 ct:=λσ H=>D.ct (σ.set i none) H
def HL (K:É)(N i:Nat)(B:Addr)(ts:TS)(D:Ends):XK:=λf h A=>∃e C d,f=.ref e/\h=À C/\A e=À (N3 C e d)/\(∃g c b,jk K C g c b/\(Ò C::c).contains (.ref B)=true)/\
 ∀a:St,a.length=N->ts (Om i D) (a.set i (À (.ref e))) (upd A e (Vx C e d))
def RP (K:É)(N i:Nat)(A:Addr)(tb:XK->TS)(ts:TS):TS:=λD a H=>tb (HL K N i A ts D) D a H
def JS 
  (hN:X.N.Nodup) (xc:jk X.K P nm bm B') (hm:X.mg xn=À (.ref P)) (hg:Gl X xn)
  (hb:∀xe pn E1,Lets (X.oX xe pn) E1->m8 (X.oX xe pn) body (tb E1)) (hs:∀e,m8 (X.oW e) (y::o) ts)
  (hi:X.N[i]?=À n:=by rfl) (Z:X.env.scope.names.lookup n=À .local:=by rfl) (l:X.stack=X.env::X.outer:=by rfl) (G:X.env.frame=À X.env.locals:=by rfl) (U:(xn == ("__debug__":Str))=false:=by decide) :
  PS X (.Try body [.ExceptHandler (À (.Name xn np)) (À n) (y::o) L] [] [] pos) (RP X.K X.N.length i P tb ts):=by
 intro b s σ H D I h;refine wpAny_Try_except ?_;refine aE (hb (λT s'=>∃e C d a B,T=.ref e/\Inv X b a B s'/\Lies C e d B s'.heap/\HL X.K X.N.length i P ts D T (À C) B) (X.pn++b) _ ?_ [] s σ H D I.oX h) (λf j g=>?_) ?_
 ·exact λZV a B s' e C d J x q=>⟨e,C,d,a,B,rfl,J.Br,x,q⟩
 ·cases f with
  |next=>
   obtain⟨a,B,J,q⟩:=g;exact Ì ⟨a,B,J.Br,q⟩
  |brk=>obtain⟨a,B,J,q⟩:=g;exact⟨a,B,J.Br,q⟩
  |cont=>obtain⟨a,B,J,q⟩:=g;exact⟨a,B,J.Br,q⟩
  |ret u=>obtain⟨v,a,B,J,r,q⟩:=g;exact⟨v,a,B,J.Br,r,q⟩
 ·rintro T j ⟨e,C,d,p,H1,rfl,J,x,e',C',d',z1,z2,he,⟨nm',bm',aac,xC,M⟩,q⟩;cases z1;cases z2;obtain⟨ox,vs,o1,o2,o3,o4,o5⟩:=x.ex;have Y:X.A.frames=À (X.env::X.outer):=by rw[<-l];exact J.ok.frames
  have hl:j.heap.FunFrames X.base (X.env::X.outer):=by rw[<-l];exact J.stack
  refine Ek Y hl G o1 o4 o5 λh' W=>?_;have W:Way (z_ X.stack) e ox j.heap h':=by rw[l];exact W
  have O:Inv X b p H1 {j with heap:=h'}:=J.call (ch:=[]) (g':=j.gens) (d':=j.drawn) (t':=j.toks) (W.un x.Ll λ_ z=>z) (W.ť J.uM x.Ll o1 o2 o3 J.ť) J.bare λ_ z=>nomatch z
  obtain⟨vs',p1,p2,p3⟩:=W.exc;refine wpAny_handleBy_cons (codeAny_handlers_test ?_) (by intro z;cases z);refine oj (X:=X.oW e) O.oW hg hm ?_ U;refine IG O.md xC xc p1 o2 ?_;rw[M];refine codeAny_handlers_suite_as (FE p1 rfl p3 λh2 k=>?_);have J2:Inv X b p H1 {j with heap:=h2}:=O.un (h':=h2) (t':=j.toks) (Un.kept k) (O.ť.kept k);refine fX (J2.Pj he) hN hi (.inl Z) (v:=.ref e) rfl (λs3 J3=>?_) (.inr Z);refine aE (hs e b s3 _ _ (Om i D) J3.oW (q p J.len)) (λf s4 g=>?_) λ_ _ z=>z.elim;have c:∀{a:St}{B:Hp}{Q:Unit->Ú->Prop},Inv (X.oW e) b a B s4->(∀t,Inv X b (a.set i none) B t->Q () t)->Ü (à X.prog X.w) X.A (do gA X.env n .none;O2 X.env n L) Q X.xe s4:=λE k=>L_ (E.UN J.ok.hd) hN hi Z k;cases f with
  |next=>obtain⟨a,B,E,m⟩:=g;exact c E λt F=>⟨_,B,F,m⟩
  |brk=>obtain⟨a,B,E,m⟩:=g;exact c E λt F=>⟨_,B,F,m⟩
  |cont=>obtain⟨a,B,E,m⟩:=g;exact c E λt F=>⟨_,B,F,m⟩
  |ret u=>obtain⟨v,a,B,E,r,m⟩:=g;exact c E λt F=>⟨v,_,B,F,r,m⟩
end L2
namespace Mm
open PySem L2
def oG (T:Tx)(E:XK):iQ:=λc _ _ H=>∀e,H e=none->c.fs=[]->E (.ref e) (À (T.cl c.cls)) (upd H e (N3 (T.cl c.cls) e none))
structure Ls (T:Tx)(X:Cx)(XE:iQ):Prop where
 ex:∃E,Lets X E/\∀c ρ s H,XE c ρ s H->oG T E c ρ s H
section
variable {T:Tx}{XE:iQ}{X:Cx}{pos:kU}
def Sy:Ls T X GQ:=⟨⟨E0,λ_ _ _ _ _ _ _ _ _ z=>z.elim,λ_ _ _ _ z=>z.elim⟩⟩
def Bj:Ls T (mS (ri P w) P w K mg base N a scope f b A outer s H E) (oG T E):=⟨⟨E,Ml,λ_ _ _ _ z=>z⟩⟩
def Jv:Ak (à P w) (A.deeper (aM a scope s.heap.objs.size f b)) (aM a scope s.heap.objs.size f b) (mS (ri P w) P w K mg base N a scope f b A outer s H E).xe:=PassesOwn.leaving
def Ca (T:Tx)(n:Nat)(F:Á AV->S->R AV):Sp:=λc H Q E=>c.length=n/\∃b s a,SR T b s H/\Ĥ T b H a c/\Out T (oG T E) (rV T) b H (F a s) Q
def zc (F:G4 T.K x g st f p)(S:i_ N ps (ě st))
  (q:∀b A outer s H E,cS k (A.deeper (aM g (ě st) s.heap.objs.size f b))->m8 (mS (ri P w) P w T.K mg base N g (ě st) f b A outer s H E) (aN st) (tS T (oG T E) body)) :
  hU P w T.K mg base (ri P w) (k+1) f p ps (Ca T ps.length (dq N.length body)):=by
 obtain⟨L,M,kV,o,O,G,b,ct,t,rfl,r,m⟩:=F.ex;refine Oj r m S (λz H Q E h=>h.1) λA outer s H z Q E hr C=>?_;obtain⟨hl,ρ,i,d,n,y,a⟩:=C;refine⟨_,q b A outer s H E hr,ρ,_,i,n,AY N y,?_⟩;unfold dq at a;cases e:body (d.map À++Ö (N.length-d.length) none) i with
 |nx I l=>simp only[e]at a;exact λj B D u n J=>a j B .Ğ u n (sL (T:=T) (ρ:=j) (H:=B))
 |rt v l=>simp only[e]at a;exact a
 |ex c l=>simp only[e]at a;exact a
 |bk v l=>simp only[e]at a;exact a.elim
 |ct v l=>simp only[e]at a;exact a.elim
 |bad=>simp only[e]at a;exact a.elim
def Out.xe (h:Out T XE b ρ H r Q)(k:∀c ρ s H,XE c ρ s H->A c ρ s H):Out T A b ρ H r Q:=by
 cases r with
 |ok v s=>exact h
 |ex c s=>exact λa B u d=>k _ _ _ _ (h a B u d)
 |bad=>exact h
def Hl (k:∀c ρ s H,XE c ρ s H->oG T E c ρ s H)(h:tE T XE (ó n F r) p H Q):Kd (Ca T n F) [] E (tP T XE r) p H Q:=by
 obtain⟨ρ,g,s,m,j,l⟩:=h;refine step m j l λf o d A xs _ q e i a b=>?_;obtain⟨hl,b⟩:=b.Ś;have a:Ĥ T d A f xs:=a;rw[a8];exact⟨by rw[<-a.length];exact hl,d,o,f,e,a,b.xe k⟩
structure fh (P:Č)(w:Ī)(T:Tx)(mg:Str->Ð Value)(base:Heap)(nm:Str)(n k:Nat)(Fn:Á AV->S->R AV):Prop where
 ex:∃f fd ps,hU P w T.K mg base (ri P w) k f fd ps (Ca T n Fn)/\Binds T.K fd ps []/\mg nm=À (.ref f)/\į T.K (.ref f)=true
def Ul (h:fh X.prog X.w T X.mg X.base x n k B)(hr:cS k X.A)(i:PA X (e::a) (tP T XE r)) (ls:Ls T X XE)(b:X.K=T.K:=by rfl)(o:Gl X x:=by rfl)(c:(x == ("__debug__":Str))=false:=by decide) (m:Ï (e::a) X.env=(false,Ė e X.env)::Ï a X.env:=by rfl) (d:(Ģ pos (Ï a X.env)).any (·.1)=false:=by rfl) :
  PE X (.Call (.Name x p) (e::a) [] pos) (tE T XE (ó n B r)):=by
 obtain⟨f,t,u,G,j,s,q⟩:=h.ex;obtain⟨E,l,g⟩:=ls.ex;exact PE.imp (M_ (E:=E) (by rw[b];exact G) hr o s (by rw[b];exact q) (by rw[b];exact j) .nil l.passes i c m d) λ_ _ _ h=>Hl g h
def Qh (h:fh X.prog X.w T X.mg X.base x 0 k B)(hr:cS k X.A)(ls:Ls T X XE)(a:X.K=T.K:=by rfl)(i:Gl X x:=by rfl)(b:(x == ("__debug__":Str))=false:=by decide) :
  PE X (.Call (.Name x p) [] [] pos) (tE T XE (ó 0 B Ø)):=by
 obtain⟨f,q,t,G,g,m,j⟩:=h.ex;obtain⟨E,l,e⟩:=ls.ex;exact PE.imp (Jz (E:=E) (by rw[a];exact G) hr i m (by rw[a];exact j) (by rw[a];exact g) .nil l.passes b) λu H Q h=>by
  obtain⟨c,d,s,o,r,n⟩:=h;exact⟨rfl,c,s,[],o,.nil,Out.xe (show Out T XE (rV T) c H (B [] s) Q from n) e⟩
def BG (c:Nat)(r:gh):Ms:=λa s=>(r a s).bj λd b=>if d.length<=1000 then .ex ⟨c,[]⟩ b else .bad
def I_ (x:jk T.K (T.cl c) nm bm none) (y:į T.K (.ref (T.cl c))=true) (z:X.mg m=À (.ref (T.cl c))) (ls:Ls T X XE)(u:PA X (a::as) (tP T XE r)) (n:X.K=T.K:=by rfl)(v:X.calm=true:=by rfl)(w:Gl X m:=by rfl)
  (h:(m == ("__debug__":Str))=false:=by decide) (i:Ï (a::as) X.env=(false,Ė a X.env)::Ï as X.env:=by rfl) (j:(Ģ f (Ï as X.env)).any (·.1)=false:=by rfl) :
  PS X (.Raise (À (.Call (.Name m I) (a::as) [] f)) none pos) (tS T XE (BG c r)):=by
 obtain⟨E,l,t⟩:=ls.ex;refine PS.imp (JR (E:=E) (by rw[n];exact x) (by rw[n];exact y) w z v l u h i j) λD N H G=>lD G λM p s F i C=>dz F i C λo J g A xs _ L k q d b=>?_;have d:Ĥ T g A o xs:=d;by_cases hl:o.length<=1000
 ·rw[Ë hl]at b;refine⟨by rw[<-d.length,ĉ];lia,λe B=>t _ _ _ _ (b g A .refl k) e B rfl⟩
 ·rw[Ñ hl]at b;exact b.elim
noncomputable def Oo (i:Nat):RS->RS
 |.nx e s=>.nx (e.set i none) s
 |.bk e s=>.bk (e.set i none) s
 |.ct e s=>.ct (e.set i none) s
 |.rt v s=>.rt v s
 |_=>.bad
def v8 (n i:Nat)(sub:Nat->Bool)(b h:Ms):Ms:=λa s=>match b a s with
 |.ex c d=>if sub c.cls=true then Oo i (h ((Ö n none).set i (À (.ref d.length))) (d++[.exc c.cls]))else .bad
 |r=>r
def ER.unset (h:ER T ρ H env b)(i:Nat):ER T ρ H (env.set i none) (b.set i none):=by
 refine⟨by simp[h.len],λj w e=>?_⟩;by_cases a:i=j
 ·subst a;rw[List.getElem?_set]at e;simp at e
 ·rw[ù a]at e⊢;exact h.get j w e
def EU (H:Hp)(e:Addr)(a b:HO):upd (upd H e a) e b=upd H e b:=by
 funext c;by_cases d:c=e
 ·subst d;rw[ă,ă]
 ·rw[ç d,ç d,ç d]
def QL 
  (hN:X.N.Nodup) (xc:jk T.K CC nm bm E) (hm:X.mg Z=À (.ref CC)) (C:∀c,sub c=true->∃nm bm E,jk T.K (T.cl c) nm bm E/\(Ò (T.cl c)::bm).contains (.ref CC)=true)
  (hb:∀xe pn B,Ls T (X.oX xe pn) B->m8 (X.oX xe pn) body (tS T B b)) (hs:∀e,m8 (X.oW e) (w::p) (tS T GQ h)) (hK:X.K=T.K:=by rfl) (hg:Gl X Z:=by rfl)
  (hi:X.N[i]?=À n:=by rfl) (hx:X.env.scope.names.lookup n=À .local:=by rfl) (hn:X.N.length=N:=by rfl) (U:X.stack=X.env::X.outer:=by rfl) (y:X.env.frame=À X.env.locals:=by rfl) (Q:(Z == ("__debug__":Str))=false:=by decide) :
  PS X (.Try body [.ExceptHandler (À (.Name Z np)) (À n) (w::p) aab] [] [] pos) (tS T XE (v8 N i sub b h)):=by
 refine PS.imp (JS (tb:=λJ=>tS T (oG T J) b) hN (by rw[hK];exact xc) hm hg (λxe pn J l=>hb xe pn _ ⟨⟨J,l,λ_ _ _ _ z=>z⟩⟩) hs hi hx U y Q) λD σ H zz=>?_;obtain⟨ρ,x,s,sr,er,a⟩:=zz;refine⟨ρ,x,s,sr,er,?_⟩;unfold v8 at a;cases r:b x s with
 |nx e o=>simp only[r]at a;exact a
 |rt v o=>simp only[r]at a;exact a
 |bk e o=>simp only[r]at a;exact a
 |ct e o=>simp only[r]at a;exact a
 |bad=>simp only[r]at a;exact a
 |ex c o=>
  simp only[r]at a;intro q L u f e m hfs;by_cases P:sub c.cls=true
  ·rw[Ë P]at a;refine⟨e,T.cl c.cls,none,rfl,rfl,ă ..,by rw[hK];exact C _ P,λWt hl=>?_⟩;rw[EU];have u2:Up ρ H (q++[e]) (upd L e (Vx (T.cl c.cls) e none)):=(u.trans (f.dA m)).add (u.live e m);have Y:SR T (q++[e]) (o++[.exc c.cls]) (upd L e (Vx (T.cl c.cls) e none)):=(f.new m).add (f.out m) (ă ..);have O:ER T (q++[e]) (upd L e (Vx (T.cl c.cls) e none)) ((Ö N none).set i (À (.ref o.length))) (Wt.set i (À (.ref e))):=by
    refine ER.set ⟨by rw[E3,<-hn];exact hl.symm,λj v M=>?_⟩ (pT ?_)
    ·rw[mY]at M;split at M<;>cases M
    ·rw[á (by rw[f.len];lia),f.len];simp
   refine⟨_,_,_,Y,O,?_⟩;have a:=fJ.up u2 a;cases t:h ((Ö N none).set i (À (.ref o.length))) (o++[.exc c.cls])with
   |nx e1 I=>rw[t]at a;exact λk A G F g d=>a k A _ F g (d.unset i)
   |bk e1 I=>rw[t]at a;exact λk A G F g d=>a k A _ F g (d.unset i)
   |ct e1 I=>rw[t]at a;exact λk A G F g d=>a k A _ F g (d.unset i)
   |rt v I=>rw[t]at a;exact a
   |ex c2 I=>rw[t]at a;exact a.elim
   |bad=>rw[t]at a;exact a.elim
  ·rw[Ñ P]at a;exact a.elim
end
end Mm
namespace L2
open PySem PySem.Spec PySem.W PyProof.Rows
def U9 (K:É):Á V->Hp->VK->Prop:=λxs H Q=>∃(e C c:Addr) (a:Á Addr) (b:Bool),xs=[.ref e,.ref c]/\V3 H e C/\LG K C/\H c=À (.tup (a.map V.ref))/\kitAny K (.ref C) (a.map Ò)=À b/\Q (.bl b) H
theorem yu:∀{a:Á Addr}{us:Á Value},Vals (a.map V.ref) us->us=a.map Ò
 |[],_,r=>by cases r;rfl
 |c::a,_,r=>by
  cases r with
  |cons b d=>
   cases (show _=Ò c from b);rw[yu d];rfl
def Fq:bz X (.builtin "isinstance") (U9 X.K):=by
 rintro c s F H xs us Q I rv ⟨e,C,y,A,b,rfl,f,g,d,h,q⟩;obtain⟨t,m,J⟩:=f.inst I;obtain⟨u,D,rfl,v,w⟩:=vals2 rv;cases (show _=Ò e from v);cases (show _=Ò y from w);obtain⟨z,E,x,r,i,j,n,k⟩:=I.ť _ _ d;obtain⟨l,o,a,p⟩:=r;cases (show l=_ from j);cases (show a=_ from k);cases yu x;exact PySem.W.kia_tup (Bb g) I.md ⟨t,m,J⟩ i h (λz=>nomatch z) λB=>⟨.bl b,H,I.tok _,rfl,q⟩
def tK (vs:Á V):TA:=λ_ H Q=>Q vs H
section
variable {X:Cx}{e:Expr}{es:Á Expr}{v:V}{vs:Á V}
def EA:PA X [] (tK []):=λpos a s b H Q I h=>eJ pos a s b H Q I h
def Jw (b:PE X e (tC v)) (c:PA X es (tK vs)) (d:Ï (e::es) X.env=(false,Ė e X.env)::Ï es X.env:=by rfl):PA X (e::es) (tK (v::vs)):=λpos a s f H Q I h=>aR b c d pos a s f H Q I h
end
end L2
namespace Mm
open PySem L2
section
variable {T:Tx}{XE:iQ}{X:Cx}{pos:kU}
def W' (v:V)(c:Value):Prop:=match v with|.ty n=>c=cq n|.ref a=>c=Ò a|_=>False
def bA (a:Nat->Ð Bool)(v:AV)(s:S):R AV:=match v with
 |.ref i=>match s[i]? with
  |some (.exc c)=>need (a c) λb=>.ok (.bl b) s
  |_=>.bad
 |_=>.bad
def Ef (m:SR T ρ s H)(n:VR T ρ H v x)(d:Out T XE (rV T) ρ H (bA f v s) Q) :
  ∃e c b,x=.ref e/\H e=À (Wq (T.cl c) e)/\f c=À b/\Out T XE (rV T) ρ H (.ok (.bl b) s) Q:=by
 unfold bA at d;split at d
 ·rename_i i;obtain⟨a,h,rfl⟩:=n.fW;split at d
  ·rename_i c k;obtain⟨b,j,d⟩:=d.ô;obtain⟨o,g,l⟩:=m.obj _ _ k;rw[h]at g;cases g;exact⟨a,c,b,rfl,l,j,d⟩
  ·exact d.elim
 ·exact d.elim
def IK (F:PE X cl (tC v)) (l:W' v c)(d:∀C b,h C=À b->LG T.K (T.cl C)/\oC T.K (.ref (T.cl C)) c=À b) (B:X.mg "isinstance"=none)(z:PE X e (tE T XE m)) (o:X.K=T.K:=by rfl)(A:Gl X "isinstance":=by rfl)
  (g:Ï [e,cl] X.env=(false,Ė e X.env)::Ï [cl] X.env:=by rfl) (i:Ï [cl] X.env=(false,Ė cl X.env)::Ï [] X.env:=by rfl) (k:(Ģ pos (Ï [cl] X.env)).any (·.1)=false:=by rfl) :
  PE X (.Call (.Name "isinstance" p) [e,cl] [] pos) (tE T XE (az (bA h) m)):=
 PE.imp (cZ Hk A B Ro.boot_isinstance (aR z (aR F eJ i) g) (by decide) (by decide) g k) λU H Q J=>ň J λP q s E g D=>
  step E g D λw N L M x _ O f r n j=>by
   obtain⟨a,C,b,rfl,t,u,y⟩:=Ef f n j;obtain⟨G,I⟩:=d C b u;exact⟨a,T.cl C,v,c,b,rfl,l,.inl t,by rw[o];exact G,by rw[o];exact I,y.ĸ f dh⟩
def MC {g:Á Addr}(F:PA X cls (tK (g.map V.ref))) (hl:g.length<=1000)(d:∀C b,i C=À b->LG T.K (T.cl C)/\PySem.W.kitAny T.K (.ref (T.cl C)) (g.map Ò)=À b) (B:X.mg "isinstance"=none)(z:PE X e (tE T XE m)) (r:X.K=T.K:=by rfl)(A:Gl X "isinstance":=by rfl)
  (h:Ï [e,.Tuple cls x1 f] X.env=(false,Ė e X.env)::Ï [.Tuple cls x1 f] X.env:=by rfl) (j:Ï [.Tuple cls x1 f] X.env=(false,Ė (.Tuple cls x1 f) X.env)::Ï [] X.env:=by rfl) (n:(Ģ pos (Ï [.Tuple cls x1 f] X.env)).any (·.1)=false:=by rfl) :
  PE X (.Call (.Name "isinstance" p) [e,.Tuple cls x1 f] [] pos) (tE T XE (az (bA i) m)):=
 PE.imp (cZ Fq A B Ro.boot_isinstance (aR z (aR (C7 F) eJ j) h) (by decide) (by decide) h n) λY H Q L=>ň L λU t s E h D=>
  step E h D λw O M N x _ P c u o l=>by
   obtain⟨a,C,b,rfl,q,v,y⟩:=Ef c o l;obtain⟨G,I⟩:=d C b v;refine⟨by rw[Ê,ĉ];lia,λJ k=>⟨a,T.cl C,J,g,b,rfl,.inl ?_,by rw[r];exact G,ă ..,by rw[r];exact I,?_⟩⟩
   ·rw[ç (Ŋ q k)];exact q
   ·exact(Out.up (c.dA k) y).ĸ (c.new k) dh
end
open PySem.W
noncomputable def YB:Á Str:=["RoyalError","BadFraction","Taken","NoName","TooMuch","NoRate","NoneLeft","Endless","BadRow"]
def jL (i:Nat):Str:=YB.getD i ""
def KJ (T:Tx)(i:Nat):Á Value:=if i=0 then uD else .ref (T.cl 0)::uD
structure Xs (T:Tx)(mg:Str->Ð Value):Prop where
 c:∀i,i<9->∃B',jk T.K (T.cl i) (jL i) (KJ T i) B'/\(i<7->B'=none)
 is:∀i,i<9->LG T.K (T.cl i)
 kp:∀i,i<9->į T.K (.ref (T.cl i))=true
 gl:∀i,i<9->mg (jL i)=À (.ref (T.cl i))
def KL:∀i,i<9->∀j,j<9->jL i=jL j->i=j:=by decide+kernel
def LF (x:jk K C n b i)(y:jk K C g h k):n=g:=by
 obtain⟨j,d,_,_,e⟩:=x.cls;obtain⟨c,a,_,_,f⟩:=y.cls;rw[d]at a;cases a;exact e.symm.trans f
section
variable {T:Tx}{XE:iQ}{X:Cx}{pos:kU}{mg:Str->Ð Value}
def Xs.inj (x:Xs T mg)(d:i<9)(f:j<9)(e:T.cl i=T.cl j):i=j:=by
 obtain⟨_,a,_⟩:=x.c i d;obtain⟨_,b,_⟩:=x.c j f;rw[e]at a;exact KL i d j f (LF a b)
noncomputable def ö (i c:Nat):Bool:=c == i||i == 0
def Xs.has (x:Xs T mg){c i:Nat}(n:c<9)(k:i<9):(Ò (T.cl c)::KJ T c).contains (.ref (T.cl i))=ö i c:=by
 have l:uD.contains (.ref (T.cl i))=false:=by simp[Ő]
 have f:∀a b:Addr,(Ò a == Ò b)=decide (a=b):=λa b=>by
  by_cases h:a=b
  ·subst h;simp
  ·simp[h]
 unfold ö KJ;rw[Ő,f];by_cases h:c=i
 ·subst h;simp
 ·have j:T.cl i≠T.cl c:=λe=>h (x.inj n k e.symm);by_cases g:c=0
  ·subst g;have:¬i=0:=λe=>h e.symm;simp[j,l,h,this]
  ·rw[Ñ g,Ő,f,l];by_cases d:i=0
   ·subst d;simp
   ·have m:T.cl i≠T.cl 0:=λe=>d (x.inj k (by decide) e);simp[j,m,h,d]
def Xs.Xm (x:Xs T mg)(c:Nat):(Ò (T.cl c)::KJ T c).contains (.type "ValueError")=true:=by
 have b:uD.contains (.type "ValueError")=true:=by decide+kernel
 unfold KJ;by_cases a:c=0
 ·rw[Ë a,Ő,b,eW]
 ·rw[Ñ a,Ő,Ő,b,eW,eW]
theorem Xs.Im (x:Xs T mg){c i:Nat}(d:c<9)(e:i<9):Lz T.K (.ref (T.cl c)) (.ref (T.cl i))=À (ö i c):=by
 obtain⟨_,a,_⟩:=x.c c d;obtain⟨_,b,_⟩:=x.c i e;rw[a.Im _ (.inl ⟨_,_,_,_,rfl,b⟩),x.has d e]
def Xs.XB (x:Xs T mg){c:Nat}(b:c<9):Lz T.K (.ref (T.cl c)) (.type "ValueError")=À true:=by
 obtain⟨_,a,_⟩:=x.c c b;rw[a.Im _ (.inr ⟨_,rfl,by decide+kernel⟩),x.Xm]
theorem Xs.T_ (x:Xs T mg){c:Nat}(b:c<9):∀{a:Á Nat},(∀i∈a,i<9)->kitAny T.K (.ref (T.cl c)) ((a.map T.cl).map Ò)=À (a.any λi=>ö i c)
 |[],_=>rfl
 |i::a,h=>by
  show(match Lz T.K (.ref (T.cl c)) (.ref (T.cl i))with
   |some true=>À true
   |some false=>kitAny T.K (.ref (T.cl c)) ((a.map T.cl).map Ò)
   |none=>none)=_
  rw[x.Im b (h i (.head _)),ŉ];cases ö i c with
  |true=>rfl
  |false=>rw[iW];exact Xs.T_ x b λj d=>h j (.tail _ d)
def pq (i c:Nat):Ð Bool:=if c<9 then À (ö i c)else none
def Fj (c:Nat):Ð Bool:=if c<9 then À true else none
def Fi (a:Á Nat)(c:Nat):Ð Bool:=if c<9 then À (a.any λi=>ö i c)else none
def UE (x:Xs T X.mg)(k:c<7)(ls:Ls T X XE)(j:PA X (a::as) (tP T XE r)) (i:X.K=T.K:=by rfl)(d:X.calm=true:=by rfl)(m:Gl X (jL c):=by rfl)
  (e:(jL c == ("__debug__":Str))=false:=by decide+kernel) (l:Ï (a::as) X.env=(false,Ė a X.env)::Ï as X.env:=by rfl) (f:(Ģ b (Ï as X.env)).any (·.1)=false:=by rfl) :
  PS X (.Raise (À (.Call (.Name (jL c) o) (a::as) [] b)) none pos) (tS T XE (BG c r)):=by
 obtain⟨n,g,h⟩:=x.c c (by lia);cases h k;exact I_ g (x.kp c (by lia)) (x.gl c (by lia)) ls j i d m e l f
def UG {body a:Á Stmt}{d:Stmt}{n:Str}{i f N:Nat}{b h:Ms}(x:Xs T X.mg)(g:f<9)(t:X.N.Nodup)
  (u:∀xe pn A,Ls T (X.oX xe pn) A->m8 (X.oX xe pn) body (tS T A b)) (z:∀e,m8 (X.oW e) (d::a) (tS T GQ h)) (s:X.K=T.K:=by rfl) (v:Gl X (jL f):=by rfl)
  (w:X.N[i]?=À n:=by rfl) (B:X.env.scope.names.lookup n=À .local:=by rfl) (y:X.N.length=N:=by rfl) (m:X.stack=X.env::X.outer:=by rfl) (j:X.env.frame=À X.env.locals:=by rfl) (l:(jL f == ("__debug__":Str))=false:=by decide+kernel) :
  PS X (.Try body [.ExceptHandler (À (.Name (jL f) D)) (À n) (d::a) o] [] [] pos) (tS T XE (v8 N i (λc=>decide (c<9)&&ö f c) b h)):=by
 obtain⟨C,q,_⟩:=x.c f g;refine QL t q (x.gl f g) (λc k=>?_) u z s v w B y m j l;rw[ċ,decide_eq_true_iff]at k;obtain⟨p,r,_⟩:=x.c c k.1;exact⟨_,_,_,r,(x.has k.1 g).trans k.2⟩
def Qp {i:Nat}{m:Ev}(x:Xs T X.mg)(l:i<9)(s:X.mg "isinstance"=none)(o:PE X e (tE T XE m)) (n:X.K=T.K:=by rfl)(r:Gl X "isinstance":=by rfl)(g:Gl X (jL i):=by rfl) (d:(jL i == ("__debug__":Str))=false:=by decide+kernel)
  (q:Ï [e,.Name (jL i) a] X.env=(false,Ė e X.env)::Ï [.Name (jL i) a] X.env:=by rfl) (f:Ï [.Name (jL i) a] X.env=(false,Ė (.Name (jL i) a) X.env)::Ï [] X.env:=by rfl) (j:(Ģ pos (Ï [.Name (jL i) a] X.env)).any (·.1)=false:=by rfl) :
  PE X (.Call (.Name "isinstance" p) [e,.Name (jL i) a] [] pos) (tE T XE (az (bA (pq i)) m)):=
 IK (c:=.ref (T.cl i)) (zC (v:=.ref (T.cl i)) g (x.gl i l) rfl d) rfl (λC b h=>by
  unfold pq at h;split at h
  ·rename_i k;cases h;exact⟨x.is C k,x.Im k l⟩
  ·cases h) s o n r q f j
def uc:İ "ValueError"=À (.type "ValueError"):=by decide+kernel
def Qq {m:Ev}(x:Xs T X.mg)(q:X.mg "isinstance"=none)(g:X.mg "ValueError"=none)(l:PE X e (tE T XE m)) (k:X.K=T.K:=by rfl)(o:Gl X "isinstance":=by rfl)(f:Gl X "ValueError":=by rfl)
  (n:Ï [e,.Name "ValueError" a] X.env=(false,Ė e X.env)::Ï [.Name "ValueError" a] X.env:=by rfl) (d:Ï [.Name "ValueError" a] X.env=(false,Ė (.Name "ValueError" a) X.env)::Ï [] X.env:=by rfl) (i:(Ģ pos (Ï [.Name "ValueError" a] X.env)).any (·.1)=false:=by rfl) :
  PE X (.Call (.Name "isinstance" p) [e,.Name "ValueError" a] [] pos) (tE T XE (az (bA Fj) m)):=
 IK (c:=.type "ValueError") (EC (v:=.ty "ValueError") f g uc rfl) rfl (λC b h=>by
  unfold Fj at h;split at h
  ·rename_i j;cases h;exact⟨x.is C j,x.XB j⟩
  ·cases h) q l k o n d i
def Ez (x:Xs T X.mg)(d:i<9)(h:PA X a (tK ((f.map T.cl).map V.ref))) (c:Gl X (jL i):=by rfl) (b:(jL i == ("__debug__":Str))=false:=by decide+kernel) (e:Ï (.Name (jL i) p::a) X.env=(false,Ė (.Name (jL i) p) X.env)::Ï a X.env:=by rfl) :
  PA X (.Name (jL i) p::a) (tK (((i::f).map T.cl).map V.ref)):=Jw (zC (v:=.ref (T.cl i)) c (x.gl i d) rfl b) h e
def MB {c:Á Nat}{cls:Á Expr}{x1:Nat}{m:Ev}(x:Xs T X.mg)(q:c.all (· < 9)=true) (hl:c.length<=1000)(r:X.mg "isinstance"=none)(s:PA X cls (tK ((c.map T.cl).map V.ref))) (l:PE X e (tE T XE m)) (k:X.K=T.K:=by rfl)(o:Gl X "isinstance":=by rfl)
  (n:Ï [e,.Tuple cls x1 a] X.env=(false,Ė e X.env)::Ï [.Tuple cls x1 a] X.env:=by rfl) (d:Ï [.Tuple cls x1 a] X.env=(false,Ė (.Tuple cls x1 a) X.env)::Ï [] X.env:=by rfl) (g:(Ģ pos (Ï [.Tuple cls x1 a] X.env)).any (·.1)=false:=by rfl) :
  PE X (.Call (.Name "isinstance" p) [e,.Tuple cls x1 a] [] pos) (tE T XE (az (bA (Fi c)) m)):=
 MC s (by rw[Ê];exact hl) (λC b h=>by
  unfold Fi at h;split at h
  ·rename_i j;cases h;exact⟨x.is C j,x.T_ j λi f=>č (ú.mp q i f)⟩
  ·cases h) r l k o n d g
end
end Mm
namespace Ro
open PySem L2 Mm
section
variable {P:Č}{w:Ī}{T:Tx}{mg:Str->Ð Value}{base:Heap}
def aL (N:Á Str)(D:Df T mg x st)(S:i_ N (N.take n) (ě st))
  (e:∀kV b i c a ct us,us.length=(N.take n).length->kj (ō x x (cH st) (aN st) (ě st) .none kV b i c a ct) ⟨us,[]⟩=pure ((N.take n).zip us)) (g:(N.take n).length=n)
  (h:∀f a A outer s H E,cS k (A.deeper (aM x (ě st) s.heap.objs.size f a))->N.Nodup->Ls T (mS (ri P w) P w T.K mg base N x (ě st) f a A outer s H E) (oG T E)->m8 (mS (ri P w) P w T.K mg base N x (ě st) f a A outer s H E) (aN st) (tS T (oG T E) body)) :
  fh P w T mg base x n (k+1) (dq N.length body):=by
 obtain⟨f,d,F,m⟩:=D.ex;have:=zc F S λa A outer s H E hr=>h f a A outer s H E hr S.nd Bj;rw[g]at this;exact⟨f,d,_,this,F.binds e,m,F.kp⟩
def FF (hl:ps.length=n):hU P w T.K mg base (ri P w) k f e ps (Ca T n λ_ _=>.bad):=
 ⟨λd H Q E h=>h.1.trans hl.symm,λA b s H c us d Q E _ _ _ _ h=>by obtain⟨_,g,st,a,_,_,z⟩:=h;exact z.elim⟩
def L4 (ps:Á Str)(D:Df T mg x st)(hl:ps.length=n)
  (e:∀kV b g c a ct us,us.length=ps.length->kj (ō x x (cH st) (aN st) (ě st) .none kV b g c a ct) ⟨us,[]⟩=pure (ps.zip us)):fh P w T mg base x n k λ_ _=>.bad:=by
 obtain⟨f,d,F,m⟩:=D.ex;exact⟨f,d,ps,FF hl,F.binds e,m,F.kp⟩
end
end Ro
namespace Mm
open PySem L2
noncomputable def ym (f:Str)(v:AV):Á (Str×AV)->Á (Str×AV)
 |[]=>[(f,v)]
 |(g,x)::r=>if g=f then (g,v)::r else (g,x)::ym f v r
section
variable {T:Tx}{XE:iQ}{X:Cx}{pos:kU}
def sT (T:Tx)(ρ:Á Addr)(H:Hp)(fs:Á (Str×AV)) (ks:Á (Str×V)):Prop:=fs.map (·.1)=ks.map (·.1)/\Ĥ T ρ H (fs.map (·.2)) (ks.map (·.2))
theorem sT.nil:sT T ρ H [] []:=⟨rfl,.nil⟩
def sT.nil_inv (h:sT T ρ H [] ks):ks=[]:=by
 have:=h.1;cases ks with
 |nil=>rfl
 |cons a r=>simp at this
theorem sT.cons_inv (h:sT T ρ H ((g,v)::fs) ks):∃x r,ks=(g,x)::r/\VR T ρ H v x/\sT T ρ H fs r:=by
 obtain⟨b,c⟩:=h;cases ks with
 |nil=>simp at b
 |cons a r=>
  obtain⟨i,x⟩:=a;simp only[Ô,aT]at b;obtain⟨y,j,e,d,f⟩:=Ĥ.cons_inv (show Ĥ T ρ H (v::fs.map (·.2)) (x::r.map (·.2))from c);cases e;obtain⟨rfl,b⟩:=b;exact⟨x,r,rfl,d,b,f⟩
theorem sT.cons {ρ:Á Addr}{H:Hp}{g:Str}{v:AV}{x:V}{fs:Á (Str×AV)}{ks:Á (Str×V)}(h:VR T ρ H v x)(k:sT T ρ H fs ks):sT T ρ H ((g,v)::fs) ((g,x)::ks):=
 ⟨by simp[k.1],.cons h k.2⟩
theorem sT.get:∀{fs:Á (Str×AV)}{ks:Á (Str×V)},sT T ρ H fs ks->fs.lookup f=À v->∃x,ks.lookup f=À x/\VR T ρ H v x
 |[],_,_,e=>by cases e
 |(g,w)::fs,ks,h,e=>by
  obtain⟨x,r,rfl,a,b⟩:=h.cons_inv;rw[ĥ]at e⊢;by_cases q:(f == g)=true
  ·rw[q]at e⊢;cases e;exact⟨x,rfl,a⟩
  ·rw[uv.mpr q]at e⊢;exact sT.get b e
theorem sT.Ğ:∀{fs:Á (Str×AV)}{ks:Á (Str×V)},sT T ρ H fs ks->fs.lookup f=none->ks.lookup f=none
 |[],_,h,_=>by rw[h.nil_inv];rfl
 |(g,w)::fs,ks,h,e=>by
  obtain⟨x,r,rfl,b,a⟩:=h.cons_inv;rw[ĥ]at e⊢;by_cases q:(f == g)=true
  ·rw[q]at e;cases e
  ·rw[uv.mpr q]at e⊢;exact sT.Ğ a e
theorem sT.put (k:VR T ρ H v x):∀{fs:Á (Str×AV)}{ks:Á (Str×V)},sT T ρ H fs ks->sT T ρ H (ym f v fs) (mi f x ks)
 |[],_,h=>by rw[h.nil_inv];exact .cons k .nil
 |(g,w)::fs,ks,h=>by
  obtain⟨y,r,rfl,b,a⟩:=h.cons_inv;unfold ym mi;by_cases q:g=f
  ·rw[Ë q,Ë q];exact .cons k a
  ·rw[Ñ q,Ñ q];exact .cons b (sT.put k a)
theorem sT.gr (u:Gr ρ H a H')(h:sT T ρ H fs ks):sT T a H' fs ks:=⟨h.1,h.2.gr u⟩
theorem sT.length (h:sT T ρ H fs ks):fs.length=ks.length:=by
 have:=Ĳ b_ h.1;simpa using this
def SR.Ig (m:SR T ρ s H)(e:s[i]?=À (.ins c fs)) (h:VR T ρ H (.ref i) x):∃a d ks,x=.ref a/\ρ[i]?=À a/\H a=À (.ins (T.cl c) d ks)/\sT T ρ H fs ks:=by
 obtain⟨a,f,rfl⟩:=h.fW;obtain⟨b,g,d,ks,j,k,l⟩:=m.obj i _ e;rw[f]at g;cases g;exact⟨a,d,ks,rfl,f,j,k,l⟩
noncomputable def rH (c:Nat)(v:AV)(s:S):Ð (Nat×Á (Str×AV)):=match v with
 |.ref i=>match s[i]? with
  |some (.ins a b)=>if a=c then À (i,b)else none
  |_=>none
 |_=>none
def vq (h:rH c v s=À (i,fs)):v=.ref i/\s[i]?=À (.ins c fs):=by
 unfold rH at h;split at h
 ·rename_i j;split at h
  ·rename_i b a e;split at h
   ·rename_i q;cases h;exact⟨rfl,by rw[e,q]⟩
   ·cases h
  ·cases h
 ·cases h
def ş (c:Nat)(f:Str)(v:AV)(s:S):R AV:=need (rH c v s) λp=>need (p.2.lookup f) λw=>.ok w s
def Ql (cl:Ay T.K (T.cl c)) (na:ko T.K (T.cl c) f) (d:PE X e (tE T XE m)) (n:X.K=T.K:=by rfl)(D:aB e f X.env (Ė e X.env)=Ė e X.env:=by rfl):PE X (.Attribute e f pos) (tE T XE (az (ş c f) m)):=
 PE.imp (Q8 d D) λU H Q I=>ň I λP z s F d E=>step F d E λv N J L x _ O b A l g=>by
  obtain⟨p,q,h⟩:=g.ô;obtain⟨w,r,j⟩:=h.ô;obtain⟨i,M⟩:=p;obtain⟨rfl,t⟩:=vq q;obtain⟨a,o,G,rfl,_,B,C⟩:=b.Ig t l;obtain⟨y,u,k⟩:=C.get r;exact⟨a,T.cl c,o,G,y,rfl,B,n▸cl,n▸na,u,j.ĸ b k⟩
def jI (c:Nat)(f:Str)(d mv:Ev):Ms:=λa s=>(mv a s).bj λy e=>(d a e).bj λx b=>match rH c x b with
 |some p=>if p.2.length<1000 then .nx a (b.set p.1 (.ins c (ym f y p.2)))else .bad
 |none=>.bad
def QH {G mv:Ev}(cl:Ay T.K (T.cl c)) (na:ko T.K (T.cl c) f) (P:PE X o (tE T XE G)) (U:PE X b (tE T XE mv)) (E:X.K=T.K:=by rfl)(Q:eN b (À (.Attribute o f m)) pos.line X.env=pure false:=by rfl) :
  PS X (.Assign [.Attribute o f m] b pos) (tS T XE (jI c f G mv)):=
 PS.imp (Rr P U Q) λD σ H ⟨ρ,L,s,Z,M,h⟩=>dz Z M h λy s1 N5 H1 I _ u1 u r l O=>dz u r O λx Y d A x' _ u2 j t v g=>by
  have l:VR T d A y I:=VR.up u2 l;cases e:rH c x Y with
  |none=>simp only[e]at g;exact g.elim
  |some p=>
   simp only[e]at g;obtain⟨i,N⟩:=p;obtain⟨rfl,J⟩:=vq e;obtain⟨a,q,F,rfl,w,B,C⟩:=j.Ig J v;by_cases hl:N.length<1000
   ·rw[Ë hl]at g;have n:Up d A d (upd A a (.ins (T.cl c) q (mi f I F))):=j.tM w B (λ_ z=>nomatch z) (λ_ _ z=>nomatch z);refine⟨a,T.cl c,q,F,rfl,B,E▸cl,E▸na,by rw[<-C.length];exact hl,g d _ σ n (j.set w n ?_) (t.up n)⟩;have k:=(C.put (f:=f) l).gr n.toGr;exact⟨q,_,ă ..,k.1,k.2⟩
   ·rw[Ñ hl]at g;exact g.elim
def ļ (c:Nat)(m:Str)(n:Nat)(F:Á AV->S->R AV)(e:Ev)(r:gh):Ev:=λa s=>(e a s).bind λx b=>need (rH c x b) λp=>if p.2.lookup m=none then (r a b).bind λd f=>if d.length=n then F (x::d) f else .bad else .bad
structure ji (P:Č)(w:Ī)(T:Tx)(mg:Str->Ð Value)(base:Heap)(c:Nat)(m:Str)(n k:Nat)(Fn:Á AV->S->R AV):Prop where
 ex:∃f fd ps,hU P w T.K mg base (ri P w) k f fd ps (Ca T (n+1) Fn)/\Binds T.K fd ps []/\Meth T.K (T.cl c) m f
def Eu (k:∀c ρ s H,XE c ρ s H->oG T E c ρ s H)(h:tE T XE (ļ c m n F P r) σ H Q):Kf (T.cl c) m (Ca T (n+1) F) [] E (tE T XE P) (tP T XE r) σ H Q:=by
 obtain⟨ρ,D,s,N,L,M⟩:=h;refine step N L M λx s1 w A x' _ u1 g l b e=>?_;obtain⟨p,z,f⟩:=e.ô;obtain⟨o,q⟩:=f.Ś;clear e f;obtain⟨i,fs⟩:=p;obtain⟨rfl,C⟩:=vq z;have b:VR T w A (.ref i) x':=b;obtain⟨a,y,O,rfl,ea,I,J⟩:=g.Ig C b;refine⟨a,y,O,rfl,I,J.Ğ o,?_⟩;refine step g l q λZ U j B xs _ Y v G d t=>?_;obtain⟨hl,u⟩:=t.Ś;have d:Ĥ T j B Z xs:=d;rw[a8];exact⟨by simp[<-d.length,hl],j,U,_,v,.cons (b.up Y) d,u.xe k⟩
def ME (cl:Ay T.K (T.cl c)) (h:ji X.prog X.w T X.mg X.base c m n k B)(hr:cS k X.A)(u:PE X o (tE T XE x)) (q:PA X (e::b) (tP T XE r)) (ls:Ls T X XE)(d:X.K=T.K:=by rfl)
  (i:Ï (e::b) X.env=(false,Ė e X.env)::Ï b X.env:=by rfl) (g:(Ģ pos (Ï b X.env)).any (·.1)=false:=by rfl)
  (v:Ė (.Call (.Attribute o m a) (e::b) [] pos) X.env=(do
   let j <-Ė o X.env
   jW a.atName
   let (f,first) <-df [j] (pj j m pl)
   yE pos f first (Ģ pos (Ï (e::b) X.env)) (gz pos (bR [] X.env))):=by rfl) :
  PE X (.Call (.Attribute o m a) (e::b) [] pos) (tE T XE (ļ c m n B x r)):=by
 obtain⟨f,y,z,G,s,t⟩:=h.ex;obtain⟨E,l,p⟩:=ls.ex;exact PE.imp (Nd (E:=E) (pl:=pl) u (d▸cl) (d▸t) (by rw[d];exact G) hr (by rw[d];exact s) .nil l.passes q i g v) λ_ _ _ h=>Eu p h
def IP (cl:Ay T.K (T.cl c)) (h:ji X.prog X.w T X.mg X.base c m 0 k C)(hr:cS k X.A)(i:PE X o (tE T XE M)) (ls:Ls T X XE)(e:X.K=T.K:=by rfl)
  (I:Ė (.Call (.Attribute o m b) [] [] pos) X.env=(do
   let n <-Ė o X.env
   jW b.atName
   let (f,first) <-df [n] (pj n m pl)
   yE pos f first (Ģ pos (Ï [] X.env)) (gz pos (bR [] X.env))):=by rfl) :
  PE X (.Call (.Attribute o m b) [] [] pos) (tE T XE (ļ c m 0 C M Ø)):=by
 obtain⟨f,N,P,G,y,D⟩:=h.ex;obtain⟨E,l,v⟩:=ls.ex;refine PE.imp (JG (E:=E) (pl:=pl) i (e▸cl) (e▸D) (by rw[e];exact G) hr (by rw[e];exact y) .nil l.passes I) λY H Q h=>?_;obtain⟨ρ,g,s,F,z,i⟩:=Eu v h;refine⟨ρ,g,s,F,z,i.imp λx B ⟨a,p,u,q,r,t,d,j,U,J,O,L⟩=>⟨a,p,u,q,r,t,?_⟩⟩;exact L d B [] .refl J (Ĥ.nil (T:=T) (ρ:=d) (H:=B))
def pH (c:Nat)(F:Á AV->S->R AV):Ev:=λ_ s=>(F [.ref s.length] (s++[.ins c []])).bind λv a=>match v with
 |.Ğ=>.ok (.ref s.length) a
 |_=>.bad
structure S0 (P:Č)(w:Ī)(T:Tx)(mg:Str->Ð Value)(base:Heap)(c:Nat)(nm:Str)(k:Nat)(Fn:Á AV->S->R AV):Prop where
 ex:∃f fd ps,hU P w T.K mg base (ri P w) k f fd ps (Ca T 1 Fn)/\Binds T.K fd ps []/\Mk T.K (T.cl c) f/\mg nm=À (.ref (T.cl c))
def IL (h:S0 X.prog X.w T X.mg X.base c x k C)(hr:cS (k+1) X.A) (ls:Ls T X XE)(o:X.K=T.K:=by rfl)(L:Gl X x:=by rfl)(q:(x == ("__debug__":Str))=false:=by decide):PE X (.Call (.Name x p) [] [] pos) (tE T XE (pH c C)):=by
 obtain⟨f,fd,ps,G,J,M,N⟩:=h.ex;obtain⟨E,l,I⟩:=ls.ex;refine PE.imp (JF (E:=E) (o▸M) (by rw[o];exact G) hr L N (by rw[o];exact J) .nil l.passes q) λσ H Q Z=>ň Z λj F s m he b=>?_;intro a d D hd r;have i:upd H d (.own a) a=none:=by rw[ç (Ō r)];exact D
 have P:Up j H j (upd (upd H d (.own a)) a (.ins (T.cl c) d [])):=(m.dA hd).trans ((m.new hd).dA i);have U:Up j H (j++[a]) (upd (upd H d (.own a)) a (.ins (T.cl c) d [])):=P.add D;have y:SR T (j++[a]) (s++[.ins c []]) (upd (upd H d (.own a)) a (.ins (T.cl c) d [])):=((m.new hd).new i).add ((m.new hd).out i) ⟨d,[],ă ..,rfl,.nil⟩;have n:VR T (j++[a]) (upd (upd H d (.own a)) a (.ins (T.cl c) d [])) (.ref s.length) (.ref a):=pT (by rw[á (by rw[m.len];lia),m.len];simp);refine⟨rfl,j++[a],s++[.ins c []],[.ref s.length],y,.one n,?_⟩;have b:=Out.up U b;unfold pH at b;cases e:C [.ref s.length] (s++[.ins c []])with
 |bad=>rw[e]at b;exact b.elim
 |ex c' O=>rw[e]at b;exact λg B u t=>I _ _ _ _ (b g B u t)
 |ok v O=>
  rw[e]at b;intro g B Y u t z;rw[ñ]at b;have z:VR T g B v Y:=z;cases v with
  |Ğ=>exact⟨z.jd,b g B (.ref a) u t (n.up u)⟩
  |_=>exact b.elim
end
end Mm
namespace Ro
open PySem L2 Mm
structure jZ (T:Tx)(c:Nat)(m qual:Str)(st:Stmt):Prop where
 ex:∃f fd,G4 T.K m qual st f fd/\Meth T.K (T.cl c) m f
structure VZ (T:Tx)(mg:Str->Ð Value)(c:Nat)(nm qual:Str)(st:Stmt):Prop where
 ex:∃f fd,G4 T.K "__init__" qual st f fd/\Mk T.K (T.cl c) f/\mg nm=À (.ref (T.cl c))
structure Bk (T:Tx)(c:Nat)(fs:Á Str):Prop where
 cl:Ay T.K (T.cl c)
 na:∀f∈fs,ko T.K (T.cl c) f
section
variable {P:Č}{w:Ī}{T:Tx}{mg:Str->Ð Value}{base:Heap}
def bV (N:Á Str)(D:jZ T c m b st)(S:i_ N (N.take (n+1)) (ě st))
  (i:∀kV d l e a ct us,us.length=(N.take (n+1)).length->kj (ō m b (cH st) (aN st) (ě st) .none kV d l e a ct) ⟨us,[]⟩=pure ((N.take (n+1)).zip us)) (j:(N.take (n+1)).length=n+1)
  (h:∀f a A outer s H E,cS k (A.deeper (aM b (ě st) s.heap.objs.size f a))->N.Nodup->Ls T (mS (ri P w) P w T.K mg base N b (ě st) f a A outer s H E) (oG T E)->m8 (mS (ri P w) P w T.K mg base N b (ě st) f a A outer s H E) (aN st) (tS T (oG T E) body)) :
  ji P w T mg base c m n (k+1) (dq N.length body):=by
 obtain⟨f,g,F,M⟩:=D.ex;have:=zc F S λa A outer s H E hr=>h f a A outer s H E hr S.nd Bj;rw[j]at this;exact⟨f,g,_,this,F.binds i,M⟩
def PH (N:Á Str)(D:VZ T mg c nm b st)(S:i_ N (N.take 1) (ě st))
  (i:∀kV d m e a ct us,us.length=(N.take 1).length->kj (ō "__init__" b (cH st) (aN st) (ě st) .none kV d m e a ct) ⟨us,[]⟩=pure ((N.take 1).zip us)) (l:(N.take 1).length=1)
  (h:∀f a A outer s H E,cS k (A.deeper (aM b (ě st) s.heap.objs.size f a))->N.Nodup->Ls T (mS (ri P w) P w T.K mg base N b (ě st) f a A outer s H E) (oG T E)->m8 (mS (ri P w) P w T.K mg base N b (ě st) f a A outer s H E) (aN st) (tS T (oG T E) body)) :
  S0 P w T mg base c nm (k+1) (dq N.length body):=by
 obtain⟨f,g,F,M,j⟩:=D.ex;have:=zc F S λa A outer s H E hr=>h f a A outer s H E hr S.nd Bj;rw[l]at this;exact⟨f,g,_,this,F.binds i,M,j⟩
end
end Ro
namespace Mm
open PySem L2
section
variable {T:Tx}{XE:iQ}{X:Cx}{pos:kU}
def zQ:Á AV->Ð (Á Str)
 |[]=>À []
 |.str x::r=>(zQ r).map (x::·)
 |_=>none
theorem wx:∀{l:Á AV}{a:Á Str},zQ l=À a->l=a.map AV.str
 |[],_,h=>by cases h;rfl
 |.str x::r,a,h=>by
  have h:(zQ r).map (x::·)=À a:=h;cases e:zQ r with
  |none=>rw[e]at h;cases h
  |some q=>rw[e]at h;cases h;rw[Ô,<-wx e]
 |.Ğ::_,_,h=>by cases h
 |.bl _::_,_,h=>by cases h
 |.int _::_,_,h=>by cases h
 |.tup _::_,_,h=>by cases h
 |.ref _::_,_,h=>by cases h
 |.sq _::_,_,h=>by cases h
def vo (m:Ev):gh:=λa s=>(m a s).bind λv b=>match v with
 |.ref i=>need (ë b i) λl=>need (zQ l) λc=>if c.length<64 then .ok ((ė c).map .str) b else .bad
 |_=>.bad
def IY (B:X.mg "sorted"=none)(h:PE X e (tE T XE m)) (A:Gl X "sorted":=by rfl)(f:Ï [e] X.env=(false,Ė e X.env)::Ï [] X.env:=by rfl) (o:(Ģ pos (Ï [] X.env)).any (·.1)=false:=by rfl) :
  PE X (.Call (.Name "sorted" p) [e] [] pos) (tL T XE (vo m)):=
 PE.imp (cZ u_ A B ŧ (aR h eJ f) (by decide) (by decide) f o) λU H Q G=>ň G λP w s q f C=>step q f C λv M I J x _ N c y r b=>by
  cases v with
  |ref i=>
   obtain⟨l,t,g⟩:=b.ô;obtain⟨E,u,j⟩:=g.ô;obtain⟨hl,n⟩:=j.Ś;obtain⟨a,O,rfl,L,z,k⟩:=c.dg (ü t) r;rw[wx u]at k;cases k.wm;refine⟨a,E,rfl,z,hl,λF d hd D q=>?_⟩;rw[pR D (je q)];exact n.lst c hd (Ĥ.map (λ_=>iN) _)
  |_=>exact b.elim
def QW (a y:AV)(s:S):R AV:=match a with
 |.ref i=>need (jS s i) λb=>need (fT y) λk=>.ok ((ņ b k).getD .Ğ) s
 |_=>.bad
def yd (d y:Ev):Ev:=λc s=>(d c s).bind λa e=>need (lu "dict" a e) λ_=>(y c e).bind λb f=>QW a b f
def My (hu:X.A.units+1<cLine)(B:PE X o (tE T XE m)) (z:PE X e (tE T XE n)) (q:M1 X o "get" j e l:=by exact⟨rfl,rfl,rfl,rfl⟩):PE X (.Call (.Attribute o "get" j) [e] [] l) (tE T XE (yd m n)):=
 PE.imp (JA hu B z q) λσ H Q zz=>ň zz λρ P s hs z B=>step hs z B λd s1 N5 H1 x _ u1 r u f g=>by
  obtain⟨_,L,g⟩:=g.ô;obtain⟨a,rfl,hd⟩:=Ih L r f;refine⟨a,rfl,hd,step r u g λw s2 F J y _ u2 h U E p=>?_⟩;have f:VR T F J d (.ref a):=VR.up u2 f;cases d with
  |ref i=>
   obtain⟨D,M,C⟩:=p.ô;obtain⟨k,N,c⟩:=C.ô;obtain⟨b,ks,O,ea,Z,G,I⟩:=h.AL (j6 M) f;cases O;refine⟨jf ks k,by rw[g8 N E];exact jh.k Z,?_⟩;cases t:ņ D k with
   |none=>rw[(d_ k G I).2 t];rw[t]at c;exact c.ĸ h sL
   |some v=>obtain⟨x',Y,kx⟩:=(d_ k G I).1 v t;rw[Y];rw[t]at c;exact c.ĸ h kx
  |_=>exact p.elim
def Gx (a:Ev):Src:=λb s=>(a b s).bind λv c=>need (xv false v c) λp=>.ok (qr p.1,p.2) c
def MJ (G:X.K=T.K)(hm:X.mg "enumerate"=none)(Y:PE X e1 (tE T XE a)) (hg:Gl X "enumerate":=by rfl)
  (w:Ï [e1] X.env=(false,Ė e1 X.env)::Ï [] X.env:=by rfl) (u:(Ģ pos (Ï [] X.env)).any (·.1)=false:=by rfl) :
  PI X (.Tuple es kk L) (.Call (.Name "enumerate" p) [e1] [] pos) (tW T XE (Gx a)):=
 PI.imp (Ni hg hm Y w u) λσ H R zz=>ň zz λρ O s w Z ho=>step w Z ho λv s1 B D x _ u1 d Q y o=>by
  obtain⟨r,e,t⟩:=o.ô;obtain⟨xs,g⟩:=r;obtain⟨i,rfl,⟨f,x1⟩,w1⟩:=wa e d y;have x1:fC T.K D i f:=x1;refine⟨i,rfl,⟨f,by rw[G];exact x1⟩,t B D _ .refl d ⟨λA s' C u' b U=>?_⟩⟩;obtain⟨h,c,J⟩:=w1 A s' C u' b U;have c:fC T.K C i h:=c;rw[G];have n:=J.length;refine⟨λj z k=>?_,⟨h,c,?_⟩⟩
  ·have I:j<xs.length:=by
    have:=(Ç.mp k).1;simp only[qr,Ê,oy,dI]at this;lia
   have l:z=.tup [.int (j:Int),xs[j]]:=by
    have q:(qr xs)[j]?=À (.tup [.int (j:Int),xs[j]]):=by
     simp[qr,Ai,I]
    rw[q]at k;exact(è k).symm
   subst l;obtain⟨x3,E,v3⟩:=J.get (Å I);refine⟨⟨h,x3,c,E⟩,λq M ⟨Tt,y1,P,m,N,hy⟩=>?_⟩;have F:=hy h c;rw[E]at F;cases F;subst P N;exact⟨b.dA m,b.new m,jK (gq.of ă) (Ĥ.up (b.dA m) (.cons cN (.one v3)))⟩
  ·rw[<-n];simp only[qr,Ê,oy,dI];lia
def rF (m:gh):gh:=λa s=>(m a s).bind λl c=>need (zQ l) λb=>if b.length<64 then .ok ((ė b).map .str) c else .bad
def IX (w:X.mg "sorted"=none)(h:PE X e (tL T XE m)) (v:Gl X "sorted":=by rfl)(b:Ï [e] X.env=(false,Ė e X.env)::Ï [] X.env:=by rfl) (i:(Ģ pos (Ï [] X.env)).any (·.1)=false:=by rfl) :
  PE X (.Call (.Name "sorted" p) [e] [] pos) (tL T XE (rF m)):=
 PE.imp (cZ u_ v w ŧ (aR h eJ b) (by decide) (by decide) b i) λL H Q C=>ň C λJ r s j b y=>step j b y λl F D E x _ G n t o c=>by
  obtain⟨A,q,f⟩:=c.ô;obtain⟨hl,g⟩:=f.Ś;obtain⟨a,I,rfl,_,_,u,k⟩:=o;rw[wx q]at k;cases k.wm;refine⟨a,A,rfl,u,hl,λB d hd z j=>?_⟩;rw[pR z (je j)];exact g.lst n hd (Ĥ.map (λ_=>iN) _)
end
end Mm
namespace L2
open PySem PySem.Spec PyProof.Rows
abbrev Bx (x:Str)(p:kU):Arguments:={posonlyargs:=[],args:=[{arg:=x,annotation:=none,pos:=p}],vararg:=none,kwonlyargs:=[],kw_defaults:=[],kwarg:=none,defaults:=[]}
abbrev Fm (x:Str)(p1 p2 p3:kU):Expr:=.Subscript (.Name x p1) (.Constant (.int 1) 0 p2) p3
abbrev BH (x:Str):Scope:={kind:=.function,names:=[(x,.local)],isGenerator:=false,isCoroutine:=false,more:=[]}
def S2 (h:Heap)(f:Addr)(q:Str)(a:Arguments)(body:Expr)(scope:Scope):Prop:=∃d c b,h.get? f=À {cls:=.type "function",data:=.func (oD "<lambda>" q a body scope [] d c b)}/\h.CodeRec c q
section
variable {prog:Č}{w:Ī}{A:Œ}{E:Value->Ú->Prop}{s:Ú}
def Ir {Q:Value->Ú->Prop}(C:S2 s.heap f q (Bx x I) (Fm x J L M) (BH x)) (m:s.heap.NoLimit)(d:A.depth<recursionLimit)(F:(x == ("__debug__":Str))=false) (D:KW s.heap t its)(k:its[1]?=À v)
  (B:∀u p g,kj (oD "<lambda>" q (Bx x I) (Fm x J L M) (BH x) [] u p g) ⟨[.ref t],[]⟩=pure [(x,.ref t)])
  (y:∀h' N,(∀b o,s.heap.get? b=À o->h'.get? b=À o)->Q v {s with heap:=h',toks:=N}):Ü (à prog w) A (call (.ref f) [.ref t]) Q E s:=by
 obtain⟨u,p,g,e,l⟩:=C;refine w6 (PySem.W.kla_callFunE d e rfl rfl rfl rfl l ?_);rw[B];refine Ì (wpAny_newFunctionEnv (by simp) (by simp) (λc n h=>⟨m.fresh _ h,?_⟩) rfl);have a:∀b o,s.heap.get? b=À o->c.get? b=À o:=λb o e=>h.extBut b o (ò (Ó e)) (Ä _ e);obtain⟨o,G,H⟩:=D;have i:KW c t its:=⟨o,a _ _ G,H⟩
 have O:1<its.size:=by
  rcases Nat.lt_or_ge 1 its.size with z|z
  ·exact z
  ·rw[gw z]at k;cases k
 refine PySem.W.kla_codeExpr (E8 (Fh (t5 rfl ?_ n (v:=.ref t) ?_ ?_) F))
 ·simp[Env.kindOf,newEnv]
 ·simp
 ·refine SY ?_;exact qm (x:=v) i.typeIs SW.lookup
   (getItem_tuple (j:=1) (Q:=λr s'=>r=v/\Q r s') i (by decide) (by decide) (by simp[Av];lia) k ⟨rfl,y _ _ a⟩) rfl
end
open Mm
def Du {pos:kU}{i:Obj}(h:xG H q ps)(k:∀b o u,H b=À (.iS o u)->H' b=À (.iS o u))
  (m:H' c=À (.iS i u)) (hd:i.data=.fields vs) (n:vs[1]?=À (.str q t)):xG H' q (ps++#[Ŷ pos.line,Ŷ pos.col,.ref c]):=by
 have e:(ps++#[Ŷ pos.line,Ŷ pos.col,.ref c]).toList=ps.toList++[Ŷ pos.line,Ŷ pos.col,.ref c]:=by simp
 refine⟨by rw[e];exact TriplesOk_snoc _ _ _ _ h.1,λp f z=>?_⟩;rw[e]at z;have g:∀l:Á Value,WW l->Ar p (l++[Ŷ pos.line,Ŷ pos.col,.ref c])=À f->Ar p l=À f∨f=.ref c:=by
  intro l hl
  fun_induction WW l with
  |case1=>
   intro z;have z:(if (((pos.line:Int) == p.line)&&((pos.col:Int) == p.col))=true then À (Ò c)else none)=À f:=z;split at z
   ·cases z;exact .inr rfl
   ·cases z
  |case2 a b C d D r s=>
   intro z;simp only[cP,Ar]at z⊢;split at z
   ·rename_i q;rw[Ë q];exact .inl z
   ·rename_i q;rw[Ñ q];exact s hl z
  |case3=>exact hl.elim
 rcases g _ h.1 z with z|rfl
 ·obtain⟨j,y,A,B,t1,v,w,x⟩:=h.2 p f z;exact⟨j,y,A,B,t1,v,k _ _ _ w,x⟩
 ·exact⟨c,i,u,vs,t,rfl,m,hd,n⟩
section
variable {X:Cx}{pos:kU}
structure G5 (H H':Hp)(P:Addr)(q:Str):Prop where
 keep:∀b o,H b=À o->b≠P->H' b=À o
 live:∀b,H' b=none->H b=none
 tab:∃ps,H' P=À (.qX ps)/\xG H' q ps
def Yp (P:Addr)(q:Str):St->Hp->(Addr->Hp->Prop)->Prop:=λ_ H Q=>(∃a,H P=À (.qX a)/\xG H q a)/\∀A f,G5 H A P q->A f=none->Q f A
def P_ 
  (l:X.env.code=.ref c) (hC:ų X.K c P=true) (hq:X.env.qual++"<lambda>"=q) (Z:qj scope X.env=pure []) (Xn:SU i X.env=([],[]))
  (I:Inv X þ σ H s) (h:Yp P q σ H Q) :
  Ü (à X.prog X.w) X.A (Ė (.Lambda i body scope m) X.env) (λv s'=>∃f H',v=.ref f/\Inv X þ σ H' s'/\S2 s'.heap f q i body scope/\Q f H') X.xe s:=by
 obtain⟨⟨y,x,U⟩,hQ⟩:=h;have k:s.heap.get? P=À (dO y):=I.ť P _ x;have E:s.heap.Ns mainGlobals X.mg:=I.mod.glob.keeps I.bk;obtain⟨bm,ob,b1,b2,b3,b4,b5,b6⟩:=I.mod.bmain;have hgP:mainGlobals≠P:=λz=>by
  obtain⟨o,es,ep,e,hd,_⟩:=E;rw[z,k]at e;cases e;cases hd
 have hbP:bm≠P:=λz=>by
  have e:=I.bk _ _ b3;rw[z,k]at e;cases e;cases b4
 have hbG:bm≠mainGlobals:=λz=>by
  obtain⟨o,es,ep,e,hd,_⟩:=I.mod.glob;rw[z,e]at b3;cases b3;rw[hd]at b6;cases b6
 have hB:s.heap.BuiltinsAt X.mg P:=⟨bm,ob,b1,b2,hbG,hbP,I.bk _ _ b3,b4,b5,b6⟩
 have C:PySem.W.CodeHd s.heap c P:=DF I.md hC;refine PySem.W.kla_eval Xn ?_;cases hf:Ar m y.toList with
 |some cv=>
  refine PySem.W.kla_makeFunctionHit (mg:=X.mg) Z I.ok.glob E l C k U.1 hf hB λN p tk hk r=>?_;obtain⟨c1,L,u,vs,t,rfl,J,k3,k4⟩:=U.2 m cv hf;have hcr:s.heap.CodeRec (.ref c1) q:=⟨c1,L,vs,t,rfl,(I.ť c1 _ J).1,k3,k4⟩
  have TN:∀(o:Obj) b u,s.heap.get? b=À u->(p.push o).get? b=À u:=λo b u e=>Ä _ (hk b u e);exact⟨p.objs.size,H,rfl,I.kept (TN _),⟨_,_,_,by rw[<-hq];exact Ù _ rfl,hcr.keeps (TN _)⟩,hQ H _ ⟨λ_ _ e _=>e,λ_ e=>e,y,x,U⟩ (I.ť.fresh r)⟩
 |none=>
  refine PySem.W.kla_makeFunction (mg:=X.mg) Z I.ok.glob E l C k U.1 hf hgP hB λa N p tk hx D F Xp ZI=>?_;obtain⟨c₂,L,vs,t,e2,G,hd,hv⟩:=Xp;cases e2;rw[hq]at hv;have r:s.heap.objs.size<=p.objs.size:=Ġ (bJ D F);have nc:H a=none:=I.ť.fresh D;have ncP:a≠P:=λz=>by rw[z,x]at nc;cases nc
  let B:Hp:=upd (upd H a (.iS L (.own a))) P (.qX (y++#[Ŷ m.line,Ŷ m.col,.ref a]));have J:∀b o,H b=À o->b≠P->B b=À o:=λb o e n=>by
   show upd _ _ _ b=_;rw[ç n,ç (Ŋ e nc)];exact e
  have nP:∀b o,H b=À o->o≠.qX y->b≠P:=λb o e n z=>by subst z;rw[x]at e;exact n (è e).symm
  have g:∀b o,s.heap.get? b=À o->b≠P->∀u:Obj,(p.push u).get? b=À o:=λb o e n u=>Ä _ (hx b o n e);have T:∀b o,s.heap.get? b=À o->H b=none->B b=none:=λb o e n=>by
   show upd _ _ _ b=_;rw[ç (λz=>by rw[z,x]at n;cases n),ç (λz=>by rw[z]at e;exact absurd (Ó e) (oB.mpr D))];exact n
  have eP:B P=À (.qX (y++#[Ŷ m.line,Ŷ m.col,.ref a])):=ă ..;have ec:B a=À (.iS L (.own a)):=by show upd _ _ _ a=_;rw[ç ncP];exact ă ..
  have live:∀b,B b=none->H b=none:=λb e=>by
   by_cases j:b=P
   ·subst j;rw[eP]at e;cases e
   ·by_cases Y:b=a
    ·rw[Y];exact nc
    ·have O:upd (upd H a (.iS L (.own a))) P (.qX (y++#[Ŷ m.line,Ŷ m.col,.ref a])) b=none:=e;rw[ç j,ç Y]at O;exact O
  have ff:∀b o u,H b=À (.iS o u)->B b=À (.iS o u):=λb o u e=>J b _ e (nP b _ e (λz=>nomatch z));have tt:∀b xs,H b=À (.tup xs)->B b=À (.tup xs):=λb xs e=>J b _ e (nP b _ e (λz=>nomatch z));have hf2:B p.objs.size=none:=by
   show upd _ _ _ _=_;rw[ç (λz=>by have:=Ó k;rw[<-z]at this;exact absurd (ì this r) (ŋ _)),ç (λz=>by rw[<-z]at F;exact absurd F (ŋ _))];exact I.ť.fresh r
  let M:=PySem.W.kla_obj "<lambda>" (X.env.qual++"<lambda>") i body scope [] ((X.mg "__name__").getD .none) a N;have un:Un X.fs [] H B s.heap (p.push M):=
   ⟨λb o e n _ _=>g b o e (λz=>by rw[z,x]at n;cases n) M,λb o e n _ _=>⟨o.slots,g b o e (λz=>by rw[z,x]at n;cases n) M⟩,λb o e n _=>T b o e n,λb o e _=>by
     by_cases j:b=P
     ·exact⟨_,by rw[j];exact Ä _ ZI⟩
     ·exact⟨o,g b o e j M⟩,tt,ff,λb ps' e=>by
     by_cases j:b=P
     ·subst j;rw[x]at e;cases e;exact⟨_,eP⟩
     ·exact⟨#[],by rw[J b _ e j];simp⟩⟩
  have ho:mO X.prog X.w B (p.push M):=λb u e=>by
   by_cases j:b=P
   ·subst j;rw[eP]at e;cases e;exact Ä _ ZI
   ·by_cases Y:b=a
    ·subst Y;rw[ec]at e;cases e;exact⟨Ä _ G,⟨_,Ä _ G⟩⟩
    ·have O:upd (upd H a (.iS L (.own a))) P (.qX (y++#[Ŷ m.line,Ŷ m.col,.ref a])) b=À u:=e;rw[ç j,ç Y]at O;refine(I.ť b u O).oO (λd v hd q=>g d v q ?_ M) (λd q=>J d _ q (nP d _ q (λz=>nomatch z))) tt;rcases hd with z|z
     ·rw[z];exact j
     ·exact nP d _ z (λz=>nomatch z)
  exact⟨p.objs.size,B,rfl,I.un un ho,⟨_,_,_,by rw[<-hq];exact Ù _ rfl,a,L,vs,t,rfl,Ä _ G,hd,hv⟩,hQ B _ ⟨J,live,_,eP,Du U ff ec hd hv⟩ hf2⟩
def R6 (K:É)(P:Addr)(q:Str)(t:TE):TE:=λf H Q=>t f H λx A=>∃(l:Addr) (b:Á Addr) (c:Á Int),x=.ref l/\A l=À (.lst (b.map V.ref))/\c.length=b.length/\(∀(j:Nat) (a:Addr) (d:Int),b[j]?=À a->c[j]?=À d->∃y r,gq K A a (y::.int d::r))/\b.length<64/\
 (∃e,A P=À (.qX e)/\xG A q e)/\∀B d (p:Á Nat),G5 A B P q->B d=none->p.Perm (ø b.length)->p.Pairwise (Ah (O:=oI) λi=>c.getD i 0)->Q (.ref d) (upd B d (.lst (p.map λi=>V.ref (b.getD i 0))))
def JI (he:PE X e t)(hm:X.mg "sorted"=none)(hdp:X.A.depth<recursionLimit)
  (C:X.env.code=.ref c) (hC:ų X.K c P=true) (hq:X.env.qual++"<lambda>"=q) (hcl:qj (BH y) X.env=pure []) (J:SU (Bx y p0) X.env=([],[])) (hy:(y == ("__debug__":Str))=false)
  (hb:∀t pm U B,kj (oD "<lambda>" q (Bx y p0) (Fm y p1 p2 p3) (BH y) [] pm U B) ⟨[.ref t],[]⟩=pure [(y,.ref t)]) (hg:Gl X "sorted":=by rfl)
  (hs:Ï [e] X.env=(false,Ė e X.env)::Ï [] X.env:=by rfl) (G:Ģ pos (Ï [e] X.env)=(false,Ė e X.env)::Ģ pos (Ï [] X.env):=by rfl) (TR:(Ģ pos (Ï [e] X.env)).any (·.1)=false:=by rfl) :
  PE X (.Call (.Name "sorted" p) [e] [⟨À (æ "key"),.Lambda (Bx y p0) (Fm y p1 p2 p3) (BH y) lp,j⟩] pos) (R6 X.K P q t):=by
 intro N s σ H Q I h;refine af (pE I hg hm ŧ ?_ (by decide) (by decide));refine YP ?_ G TR;rw[G];refine fF (aq (he N s σ H _ I h) λu s1 zz=>?_);obtain⟨x,H1,I1,r1,l,g,ds,ex,hl,hdl,Xr,TH,ht,hQ⟩:=zz;subst ex;cases (show u=Ò l from r1);refine lG ?_;refine YV ?_;refine aq (P_ (q:=q) (P:=P) (Q:=λf H'=>G5 H1 H' P q) C hC hq hcl J I1 ⟨ht,λH' f k _=>k⟩) λv d ⟨f,E,ev,F,lf,O⟩=>?_;subst ev;refine YW ?_;have nP:∀b o,H1 b=À o->(∀ps,o≠.qX ps)->b≠P:=λb o e n z=>by
  obtain⟨ps,hp,_⟩:=ht;rw[z,hp]at e;exact n ps (è e).symm
 have hl2:E l=À (.lst (g.map V.ref)):=O.keep l _ hl (nP l _ hl (λ_ z=>nomatch z));obtain⟨_,its,n,rel,hL⟩:=(show Ş X.prog X.w E d.heap l (.lst (g.map V.ref))from F.ť l _ hl2)
 have:=om rel;subst this;refine YQ B6 yI yG (YT _ _) ?_;unfold cD.«sorted»;refine Â (m:=Fc "sorted" 1 1 _) (Ì ?_);refine Â (collect_list (A:=X.A.in1) ⟨_,hL,rfl,n,rfl⟩ ?_ (by rw[Ê];exact Ġ (ũ (by lia))));refine Â (gB ?_ (by rw[Ê];exact Ġ (ũ (by lia))));have up:∀b o,d.heap.get? b=À o->(((d.heap.push (Ē "list" #[] 0)).update d.heap.objs.size (û (·++(g.map Ò).toArray))).push (Ē "list" (g.map Ò).toArray 0)).get? b=À o:=λb o e=>by
  refine Ä _ ?_;rw[ê _ _ (ħ (Ó e))];exact Ä _ e
 have hD:d.heap.objs.size<((d.heap.push (Ē "list" #[] 0)).update d.heap.objs.size (û (·++(g.map Ò).toArray))).objs.size:=by rw[wJ,ĺ];exact fc _
 have L:(((d.heap.push (Ē "list" #[] 0)).update d.heap.objs.size (û (·++(g.map Ò).toArray))).push (Ē "list" (g.map Ò).toArray 0)).get? ((d.heap.push (Ē "list" #[] 0)).update d.heap.objs.size (û (·++(g.map Ò).toArray))).objs.size=À (Ē "list" (g.map Ò).toArray 0):=Ù _ rfl;generalize ((d.heap.push (Ē "list" #[] 0)).update d.heap.objs.size (û (·++(g.map Ò).toArray))).objs.size=D at *
 generalize ((d.heap.push (Ē "list" #[] 0)).update d.heap.objs.size (û (·++(g.map Ò).toArray))).push (Ē "list" (g.map Ò).toArray 0)=h0 at *
 have nD:∀b o,d.heap.get? b=À o->b≠D:=λb o e=>ò (oA (Ó e) hD);have T:(g.map Ò).length=g.length:=Ê _;refine Â (ő (wpAny_call_entry_kw Fg ⟨_,L,rfl⟩ Ci ?_ (YS _ _)));show Ü (à X.prog X.w) X.A.in1.in1 (cD.«list.sort» ⟨[.ref D],[(æ "key",.ref f)]⟩) _ _ {d with heap:=h0};rw[YU];refine Mm.Dl (s:={d with heap:=h0}) (ns:=ds) L (by rw[hdl,T]) (by rw[T];exact TH) (λi v k M hk h tk j=>?_) λp h' tk c q1 q2 q3 j ha=>⟨_,rfl,?_⟩
 ·have j:∀b o,d.heap.get? b=À o->h.get? b=À o:=λb o e=>j b o (nD b o e) (up b o e);rw[é]at M;cases ea:g[i]? with
  |none=>rw[ea]at M;cases M
  |some a=>
   rw[ea]at M;cases M;obtain⟨y',r,e⟩:=Xr i a k ea hk;have Y:gq X.K E a (y'::.int k::r):=by
    rcases e with(e|⟨o,e⟩)|e
    ·exact .inl (.inl (O.keep a _ e (nP a _ e (λ_ z=>nomatch z))))
    ·exact .inl (.inr ⟨o,O.keep a _ e (nP a _ e (λ_ z=>nomatch z))⟩)
    ·exact .inr e
   obtain⟨its,e1,⟨o,Y,e3,n,e4⟩,_⟩:=F.tuple Y;cases e1 with
   |cons e5 Z=>
    cases Z with
    |cons Z e7=>
     obtain⟨t',rfl⟩:=Z;obtain⟨pm,U,B,f1,f2⟩:=lf;exact Ir (s:={d with heap:=h,toks:=tk}) ⟨pm,U,B,j _ _ f1,f2.keeps j⟩ (F.nolimit.keeps j) hdp hy ⟨o,j _ _ Y,e3,n,e4⟩ rfl (hb a) λh' Yy k'=>⟨h',Yy,t',rfl,rfl,k'⟩
 ·have j:∀b o,d.heap.get? b=À o->h'.get? b=À o:=λb o e=>j b o (nD b o e) (up b o e);rw[T]at q1 q2 q3;have pr:p.toList.Perm (ø g.length):=by simpa using eA.mp q3
  have pl:p.toList.length=g.length:=by rw[pr.length_eq,dI]
  have plt:∀i∈p.toList,i<g.length:=λi hi=>by simpa using pr.mem_iff.mp hi
  have hn:E D=none:=F.ť.fresh (Ġ hD);refine Ì ⟨_,rfl,.ref D,_,F.laid (a:=D) (o:=.lst (p.toList.map λi=>V.ref (g.getD i 0))) (t':=tk) j (Ġ hD) ⟨by rw[Ê,pl];exact Ġ (ũ (by lia)),p.toList.map λi=>(g.map Ò).getD i õ,c,?_,ha⟩,rfl,hQ E D p.toList O hn pr ?_⟩
  ·exact Mm.sJ plt
  ·exact Mm.J_ (by rw[pl];exact q1)
end
end L2
namespace L2
open PySem PySem.Spec PyProof.Rows
def DI (ts:Á Addr)(H:Hp):Prop:=(∀P∈ts,H P=À (.qX #[]))/\∀b,b∉ts->H b=none∨∃o xs,H b=À (.iS o (.lst xs))
def FR {K:É}{c:Ú} 
  (KX:K.In c.heap) (X:∀q∈ts,c.heap.get? q=À (dO #[])) (hTC:∀q∈ts,isCodeTable c.heap q) (hTK:∀q∈ts,K.lookup q=none)
  (J:c.heap.Ns mainGlobals mg) (f:c.heap.Ns mM mb) (hbb:∀x:Str,x≠"__name__"->mb x=İ x) (I:c.heap.NoLimit) (hdg:c.heap.NoDigits)
  (hbm:∃bm t,mg "__builtins__"=À (.ref bm)/\bm≠mM/\c.heap.get? bm=À t/\t.cls=.type "module"/\t.dict=À mM/\t.data=.plain) (hg:c.gens=#[])
  (G:c.heap.get? a=À {cls:=.type "list",data:=.seq vs.toArray}) (hi:ux vs ns) (hl:ns.length<=sizeLine) (hr:cS k uA)
  (F:∀base:Heap,K.In base->base.Ns mainGlobals mg->hU P w K mg base CX k fa fd [x] sp) (y:∀s u,uu s fd ⟨[u],[]⟩ [(x,u)])
  (hsp:∀H:Hp,DI ts H->fC K H a (ns.map V.int)->sp [.ref a] H (λv _=>v=.bl true) λ_ _ _=>False)
  (hCX:∀H e s',CX [] H c (λ_ _ _=>False) e s'->False) :
  e9 (à P w) uA (.call (.ref fa) ⟨[.ref a],[]⟩) (λr s'=>r=.ok (.ret (.bool true))/\OldK c.heap s'.heap/\s'.os=c.os/\n3 s'.gens) c:=by
 have rv:=yt hi;have M:=hi.length;have N:a∉ts:=λz=>by
  have e:=X a z;rw[G]at e;cases e
 have l:∀H:Hp,DI ts H->fC K H a (ns.map V.int)->mO P w H c.heap->(∀b,H b≠none->b=a∨b∈ts)->(H a≠none->K.lookup a=none)->
   e9 (à P w) uA (.call (.ref fa) ⟨[.ref a],[]⟩) (λr s'=>r=.ok (.ret (.bool true))/\OldK c.heap s'.heap/\s'.os=c.os/\n3 s'.gens) c:=by
  intro H hO hS L hA hK;have base_of:∀{b:Addr}{o:Obj},c.heap.get? b=À o->H b=none->(zi c.heap H).get? b=À o:=λe n=>Ia e n;have O:∀{b:Addr}{o:Obj},c.heap.get? b=À o->o≠{cls:=.type "list",data:=.seq vs.toArray}->o≠dO #[]->H b=none:=λ{b o} e n1 n2=>by
   cases q:H b with
   |none=>rfl
   |some u=>
    rcases hA b (by rw[q];simp)with e'|e'
    ·subst e';rw[G]at e;exact(n1 (è e).symm).elim
    ·rw[X b e']at e;exact(n2 (è e).symm).elim
  have i:∀{b:Addr}{m:Str->Ð Value},c.heap.Ns b m->(zi c.heap H).Ns b m:=λ{b m} ⟨o,es,ep,e,d,r⟩=>⟨o,es,ep,base_of e (O e (λz=>by rw[z]at d;cases d) λz=>by rw[z]at d;cases d),d,r⟩
  have E:K.In (zi c.heap H):=λb o e=>base_of (KX b o e) (by
   cases q:H b with
   |none=>rfl
   |some u=>
    rcases hA b (by rw[q];simp)with e'|e'
    ·subst e';rw[hK (by rw[q];simp)]at e;cases e
    ·rw[hTK b e']at e;cases e)
  have hM:Mod K mg (zi c.heap H):=⟨E,i J,⟨mb,i f,hbb⟩,let ⟨mc,Y,Z⟩:=I;⟨mc,i Y,Z⟩,let ⟨mc,Y,Z⟩:=hdg;⟨mc,i Y,Z⟩,
   let ⟨bm,t,b1,b2,b3,b4,b5,C⟩:=hbm;⟨bm,t,b1,b2,base_of b3 (O b3 (λz=>by rw[z]at C;cases C) λz=>by rw[z]at C;cases C),b4,b5,C⟩⟩
  have e0:Ck P w K mg (zi c.heap H) uA [] c H:=⟨rfl,hM,λb o e=>MY e,ki (FJ _ _),trivial,λb f=>absurd (show b∈([]:Á Addr)from f) (by simp),L,.of_eq hg⟩
  refine qk ((F _ E (i J)).run uA [] c H ⟨[.ref a],[]⟩ [.ref a] [.ref a] _ _ hr e0 (y c (.ref a)) (.cons rfl .nil) (hsp H hO hS)) λr s' h=>?_;cases r with
  |error e=>exact(hCX H e s' h).elim
  |ok fl=>
   cases fl with
   |next=>exact aJ h
   |brk=>exact aJ h
   |cont=>exact aJ h
   |ret u=>
    obtain⟨v,H',os,D,un,p,r',q⟩:=h;have q':v=.bl true:=q;subst q';obtain rfl:u=fH true:=r';have Q:∀b o,c.heap.get? b=À o->s'.heap.get? b=À o∨(b∈ts/\o=dO #[]/\∃g,s'.heap.get? b=À (dO g)):=λb o e=>by
     by_cases f:b∈ts
     ·refine .inr ⟨f,?_,?_⟩
      ·rw[X b f]at e;exact(è e).symm
      ·obtain⟨g,z⟩:=un.wt b _ (hO.1 b f);exact⟨_,p b _ z⟩
     ·rcases hO.2 b f with z|⟨t,xs,z⟩
      ·exact .inl (un.keep b o e z (by intro z;exact absurd (show b∈([]:Á Addr)from z) (by simp)) (by simp))
      ·have z2:=un.jx b t _ z;obtain⟨e1,_⟩:=L b _ z;obtain⟨e2,_⟩:=p b _ z2;rw[e]at e1;cases e1;exact .inl e2
    refine⟨rfl,⟨λb o e=>?_,λb o e=>?_⟩,os,D⟩
    ·rcases Q b o e with z|⟨f,rfl,g,z⟩
     ·exact .inl z
     ·exact .inr (.inl ⟨hTC b f,rfl,#[],g,rfl,by rw[z];simp⟩)
    ·rcases Q b o e with z|⟨_,_,g,z⟩
     ·exact⟨_,z⟩
     ·exact⟨_,z⟩
 have T:∀H:Hp,(∀P∈ts,H P=À (.qX #[]))->∀b∈ts,∀u,H b=À u->Ş P w H c.heap b u:=λH h b f u e=>by
  rw[h b f]at e;cases e;exact X b f
 cases hk:K.lookup a with
 |some o=>
  have e:=KX a o hk;rw[G]at e;cases e;refine l (λb=>if b∈ts then À (.qX #[])else none) ⟨λq A=>Ë A,λb f=>.inl (Ñ f)⟩ (.inr ⟨_,vs.toArray,_,hk,rfl,rfl,rfl,by rw[Û,M];exact hl,by simpa using rv⟩) (λb u z=>?_) (λb z=>?_) λz=>absurd (Ñ N) z
  ·by_cases f:b∈ts
   ·exact T _ (λq A=>Ë A) b f u z
   ·have U:=(Ñ f).symm.trans z;cases U
  ·by_cases f:b∈ts
   ·exact .inr f
   ·exact absurd (Ñ f) z
 |none=>
  have B:∀b,b∉ts->(λb=>if b∈ts then À (HO.qX #[])else if b=a then À (HO.iS {cls:=.type "list",data:=.seq vs.toArray} (.lst (ns.map V.int)))else none) b=if b=a then À (HO.iS {cls:=.type "list",data:=.seq vs.toArray} (.lst (ns.map V.int)))else none:=λb f=>Ñ f
  refine l (λb=>if b∈ts then À (.qX #[])else if b=a then À (.iS {cls:=.type "list",data:=.seq vs.toArray} (.lst (ns.map V.int)))else none) ⟨λq A=>Ë A,λb j=>?_⟩ (.inl (.inr ⟨{cls:=.type "list",data:=.seq vs.toArray},(B a N).trans (Ë rfl)⟩)) (λb u z=>?_) (λb z=>?_) λ_=>hk
  ·by_cases f:b=a
   ·exact .inr ⟨_,_,(B b j).trans (Ë f)⟩
   ·exact .inl ((B b j).trans (Ñ f))
  ·by_cases j:b∈ts
   ·exact T _ (λq A=>Ë A) b j u z
   ·by_cases f:b=a
    ·have U:=((B b j).trans (Ë f)).symm.trans z;cases U;subst f;exact⟨G,by rw[Ê];exact hl,vs,_,rv,G⟩
    ·have U:=((B b j).trans (Ñ f)).symm.trans z;cases U
  ·by_cases j:b∈ts
   ·exact .inr j
   ·by_cases f:b=a
    ·exact .inl f
    ·exact absurd ((B b j).trans (Ñ f)) z
def Ko {l:m3}{j:Á Str}{M:(Str->Ð Value)->Heap->Prop}{A:Ī->Heap->Prop}{d:DefRec}{K:Params->É}{CX:Ī->G1}{sp:Ī->Sp}(ts:Á Addr)
  (hn:l.most=À n) (I:n<=sizeLine) (D:d.params.defaults=[]) (hr:cS k uA)
  (X:∀(w:Ī) (h:Heap),A w h->(K w.params).In h) (U:∀(w:Ī) (h:Heap),A w h->∀q∈ts,h.get? q=À (dO #[]))
  (z:∀(w:Ī) (h:Heap),A w h->∀q∈ts,isCodeTable h q) (C:∀(w:Ī) (h:Heap),(K w.params).In h->∀q∈ts,(K w.params).lookup q=none)
  (F:∀(w:Ī) (mg:Str->Ð Value) (r:Addr) (h:Heap),(K w.params).In h->h.Ns mainGlobals mg->mg d.name=À (.ref r)->
   ∃t:eB,(∀(s:Ú) (u:Value),uu s t ⟨[u],[]⟩ [(x,u)])/\
    ∀base:Heap,(K w.params).In base->base.Ns mainGlobals mg->hU l.prog w (K w.params) mg base (CX w) k r t [x] (sp w))
  (J:∀(w:Ī) (H:Hp) (a:Addr) (ns:Á Int),ns.length<=n->DI ts H->fC (K w.params) H a (ns.map V.int)->sp w [.ref a] H (λv _=>v=.bl true) λ_ _ _=>False)
  (y:∀(w:Ī) (H:Hp) (s:Ú) (e:Value) (s':Ú),CX w [] H s (λ_ _ _=>False) e s'->False) :
  Ob q j M A l.row.toRowW d [] (λf vs=>GV f vs):=by
 refine Zk.AB hn D λw L p mg mb r o pm cd N a vs ns G Y ho hd hcd E m i c hg=>?_;have B:=X w _ Y;obtain⟨t,Z,O⟩:=F w mg r _ B G.T.g E;exact FR B (U w _ Y) (z w _ Y) (C w _ B) G.T.g G.T.b G.T.builtins G.T.nolimit G.T.nodigits G.T.bmain hg m i (đ c I) hr O Z (λH P Q=>J w H a ns c P Q) λH e s'=>y w H p e s'
end L2
namespace Mm
open PySem L2
def tabAt (i:Nat)(q:Str):AO->Bool
 |.tab j r=>decide (j=i/\r=q)
 |_=>false
def Gy (h:tabAt i q o=true):o=.tab i q:=by
 cases o with
 |tab j r=>have h:=č h;rw[h.1,h.2]
 |_=>cases h
def y8:AV->Int
 |.tup (_::.int d::_)=>d
 |_=>0
def vt:AV->Bool
 |.tup (_::.int _::_)=>true
 |_=>false
noncomputable def GR (ds:Á Int)(i j:Nat):Bool:=decide (ds.getD i 0<ds.getD j 0∨ds.getD i 0=ds.getD j 0/\i<=j)
def zo (ds:Á Int):Á Nat:=(ø ds.length).mergeSort (GR ds)
def g7 (ds:Á Int):(zo ds).Perm (ø ds.length):=fv ..
def ma (ds:Á Int):(zo ds).Pairwise λi j=>GR ds i j=true:=
 f' (le:=GR ds) (λa b c h k=>by unfold GR at *;simp only[Ń]at *;lia) (λa b=>by unfold GR;simp only[fE,Ń];lia) _
def A8 {p:Á Nat}(pr:p.Perm (ø ds.length)) (h:p.Pairwise (Ah (O:=oI) λi=>ds.getD i 0)):p=zo ds:=
 hE (le:=GR ds) (λa b h k=>by unfold GR at *;simp only[Ń]at *;lia) (pr.trans (g7 ds).symm) (h.imp λ{i j} h=>by
  unfold GR;rcases h with h|⟨h,k⟩
  ·exact î (.inl (č (show decide (ds.getD i 0<ds.getD j 0)=true from h)))
  ·exact î (.inr ⟨h,Ġ k⟩)) (ma ds)
def pick (l:Á AV)(p:Á Nat):Á AV:=p.map λi=>l.getD i .Ğ
def nz (i:Nat)(q:Str)(m:Ev):gh:=λa s=>(m a s).bind λv b=>match v with
 |.ref k=>need (ë b k) λl=>if l.all vt=true/\l.length<64/\b.any (tabAt i q)=true then .ok (pick l (zo (l.map y8))) b else .bad
 |_=>.bad
section
variable {T:Tx}{XE:iQ}{X:Cx}{pos:kU}
theorem nQ {ρ:Á Addr}{H:Hp}:∀{l:Á AV}{vs:Á V},(∀v∈l,∃xs,v=.tup xs)->Ĥ T ρ H l vs->∃as:Á Addr,vs=as.map V.ref/\as.length=l.length/\∀(j:Nat) (a:Addr) (xs:Á AV),as[j]?=À a->l[j]?=À (.tup xs)->∃ws,gq T.K H a ws/\Ĥ T ρ H xs ws
 |[],vs,_,k=>by
  cases k.nil_inv;exact⟨[],rfl,rfl,λj a d e=>by simp at e⟩
 |v::l,vs,h,k=>by
  obtain⟨x,q,rfl,o,p⟩:=k.cons_inv;obtain⟨as,rfl,g,i⟩:=nQ (λw hw=>h w (.tail _ hw)) p;obtain⟨xs,rfl⟩:=h v (.head _);obtain⟨a,ws,rfl,m,n⟩:=o.ck;refine⟨a::as,rfl,by simp[g],λj b d c f=>?_⟩;cases j with
  |zero=>simp at c f;subst c f;exact⟨ws,m,n⟩
  |succ j=>exact i j b d (by simpa using c) (by simpa using f)
theorem Ĥ.pick {as:Á Addr}(k:Ĥ T ρ H l (as.map V.ref)):∀{p:Á Nat},(∀i∈p,i<as.length)->Ĥ T ρ H (pick l p) (p.map λi=>V.ref (as.getD i 0))
 |[],_=>.nil
 |i::r,c=>by
  have a:=c i (.head _);have hl:i<l.length:=by rw[k.length,Ê];exact a
  refine .cons ?_ (Ĥ.pick k λj e=>c j (.tail _ e));obtain⟨x,b,d⟩:=Ĥ.get k (Å hl);rw[é,Å a]at b;cases b;show VR T ρ H (l.getD i .Ğ) (.ref (as.getD i 0));rw[ä,ä,Å hl,Å a];exact d
def CH (h:vt v=true):∃y d r,v=.tup (y::.int d::r):=by
 unfold vt at h;split at h
 ·exact⟨_,_,_,rfl⟩
 ·cases h
def IV (hm:X.mg "sorted"=none)(Y:X.A.depth<recursionLimit)(w:X.env.code=.ref c)(hC:ų T.K c (T.cl i)=true) (h:PE X e (tE T XE m))
  (hK:X.K=T.K:=by rfl) (hq:X.env.qual++"<lambda>"=q:=by rfl) (U:qj (BH y) X.env=pure []:=by rfl) (E:SU (Bx y p0) X.env=([],[]):=by rfl) (hy:(y == ("__debug__":Str))=false:=by decide)
  (L:∀t pm cv M,kj (oD "<lambda>" q (Bx y p0) (Fm y p1 p2 p3) (BH y) [] pm cv M) ⟨[.ref t],[]⟩=pure [(y,.ref t)]:=by intros;rfl) (hg:Gl X "sorted":=by rfl)
  (hs:Ï [e] X.env=(false,Ė e X.env)::Ï [] X.env:=by rfl) (O:Ģ pos (Ï [e] X.env)=(false,Ė e X.env)::Ģ pos (Ï [] X.env):=by rfl) (TR:(Ģ pos (Ï [e] X.env)).any (·.1)=false:=by rfl) :
  PE X (.Call (.Name "sorted" p) [e] [⟨À (æ "key"),.Lambda (Bx y p0) (Fm y p1 p2 p3) (BH y) lp,kp⟩] pos) (tL T XE (nz i q m)):=
 PE.imp (JI (P:=T.cl i) (q:=q) h hm Y w (by rw[hK];exact hC) hq U E hy L hg hs O TR) λσ H Q zz=>ň zz λρ env s hs he ho=>step hs he ho λv s1 g H1 x _ u1 f Xe Yz F=>by
  cases v with
  |ref k=>
   obtain⟨l,e1,ho2⟩:=F.ô;obtain⟨⟨hd,hl,ht⟩,G⟩:=ho2.Ś;obtain⟨a,vs,rfl,ea,h1,kk⟩:=f.dg (ü e1) Yz;have hd:∀v∈l,∃y d r,v=.tup (y::.int d::r):=λv hv=>CH (ú.mp hd v hv);obtain⟨as,rfl,I,Xr⟩:=nQ (λv hv=>let ⟨y,d,r,z⟩:=hd v hv;⟨_,z⟩) kk;obtain⟨o,ho,hot⟩:=eY.mp ht;cases Gy hot;obtain⟨j,B,ej⟩:=ĩ ho;obtain⟨P,J,rfl,ps,h2,h3⟩:=f.obj j _ (by rw[Å B,ej]);refine⟨a,as,l.map y8,rfl,h1,by rw[Ê,I],λj b d g1 g2=>?_,by rw[I];exact hl,⟨ps,h2,h3⟩,λH2 d p C hd pr Yd=>?_⟩
   ·have B:j<l.length:=by rw[<-I];exact(Ç.mp g1).1
    obtain⟨y,d',r,z⟩:=hd l[j] (e8 B);obtain⟨ws,f1,f2⟩:=Xr j b _ g1 (by rw[Å B,z]);obtain⟨y',ys,rfl,_,f3⟩:=f2.cons_inv;obtain⟨z',zs,rfl,f4,_⟩:=f3.cons_inv;rw[f4.int_inv]at f1;rw[é,Å B,z]at g2;cases g2;exact⟨y',zs,by rw[hK];exact f1⟩
   have nP:∀b o,H1 b=À o->o≠.qX ps->b≠T.cl i:=λb o e n z=>by subst z;rw[h2]at e;exact n (è e).symm
   have mP:T.cl i∈g:=ý J;have up:Up g H1 g H2:=⟨⟨a_,λb xs e=>C.keep b _ e (nP b _ e (λz=>nomatch z)),λb o u e=>C.keep b _ e (nP b _ e (λz=>nomatch z))⟩,λb o e n=>⟨C.keep b o e λz=>n (z▸mP),n⟩,C.live⟩
   have RX:SR T g s1 H2:=⟨f.nd,f.len,λi' o' N=>by
    obtain⟨b,D,q3⟩:=f.obj i' o' N;by_cases L:b=T.cl i
    ·subst L;have Z:i'=j:=by
      have l1:=(Ç.mp D).1;have l2:=(Ç.mp J).1;rw[Å l1]at D;rw[Å l2]at J;have e4:=(è D).trans (è J).symm;have pw:=Aj.mp f.nd;rcases Nat.lt_trichotomy i' j with z|z|z
      ·exact(pw _ _ l1 l2 z e4).elim
      ·exact z
      ·exact(pw _ _ l2 l1 z e4.symm).elim
     subst Z;rw[Å B,ej]at N;cases N;exact⟨_,D,rfl,C.tab⟩
    ·obtain⟨u,eu⟩:=q3.ex;exact⟨b,D,q3.up up.toGr ((C.keep b u eu L).trans eu.symm)⟩⟩
   rw[<-A8 (ds:=l.map y8) (by rw[Ê,<-I];exact pr) Yd]at G;exact(Out.up up G).lst RX hd (Ĥ.up up (Ĥ.pick kk λi hi=>by simpa using pr.mem_iff.mp hi))
  |_=>exact F.elim
end
end Mm
namespace Ro
open PySem L2 Mm
def dlt (r:cS k A):A.depth<recursionLimit:=by have:=r.dp;lia
structure Sr (T:Tx)(mg:Str->Ð Value)(x:Str)(st:Stmt)(i:Nat):Prop where
 ex:∃f fd c,G4 T.K x x st f fd/\mg x=À (.ref f)/\fd.code=.ref c/\ų T.K c (T.cl i)=true
section
variable {P:Č}{w:Ī}{T:Tx}{mg:Str->Ð Value}{base:Heap}
def HS (N:Á Str)(D:Sr T mg x st i)(S:i_ N (N.take n) (ě st))
  (G:∀kV g C y d ct us,us.length=(N.take n).length->kj (ō x x (cH st) (aN st) (ě st) .none kV g C y d ct) ⟨us,[]⟩=pure ((N.take n).zip us)) (I:(N.take n).length=n)
  (h:∀f c A outer s H E,ų T.K c (T.cl i)=true->cS k (A.deeper (aM x (ě st) s.heap.objs.size f (.ref c)))->N.Nodup->Ls T (mS (ri P w) P w T.K mg base N x (ě st) f (.ref c) A outer s H E) (oG T E)->m8 (mS (ri P w) P w T.K mg base N x (ě st) f (.ref c) A outer s H E) (aN st) (tS T (oG T E) body)) :
  fh P w T mg base x n (k+1) (dq N.length body):=by
 obtain⟨f,z,c,F,m,q,hC⟩:=D.ex;have j:hU P w T.K mg base (ri P w) (k+1) f z (N.take n) (Ca T (N.take n).length (dq N.length body)):=by
  obtain⟨oc,od,kV,g,C,y,d,ct,L,rfl,J,r⟩:=F.ex;have q:d=.ref c:=q;subst q;refine Oj J r S (λO H Q E h=>h.1) λA outer s H O Q E hr U=>?_;obtain⟨hl,ρ,l,b,t,M,a⟩:=U;refine⟨_,h f c A outer s H E hC hr S.nd Bj,ρ,_,l,t,AY N M,?_⟩;unfold dq at a;cases e:body (b.map À++Ö (N.length-b.length) none) l with
  |nx Y p=>simp only[e]at a;exact λo B X u t Z=>a o B .Ğ u t (sL (T:=T) (ρ:=o) (H:=B))
  |rt v p=>simp only[e]at a;exact a
  |ex c p=>simp only[e]at a;exact a
  |bk v p=>simp only[e]at a;exact a.elim
  |ct v p=>simp only[e]at a;exact a.elim
  |bad=>simp only[e]at a;exact a.elim
 rw[I]at j;exact⟨f,z,_,j,F.binds G,m,F.kp⟩
def spT (K:É)(ts:Á Addr)(c:Á (Nat×Str)) (b:Á AV->S->R AV):Sp:=λa H Q E=>a.length=1/\∀cl,(c.map λp=>cl p.1)=ts->Ca ⟨K,cl⟩ 1 b a H Q E
def tabS (a:Á (Nat×Str)):S:=a.map λp=>.tab p.1 p.2
def NN {ts:Á Addr}{ns:Á Int}(nd:ts.Nodup)(hl:(l [.sq (ns.map AV.int)] (tabS d)).wp λv _=>v=.bl true) (c:DI ts H)(n:fC K H a (ns.map V.int)):spT K ts d l [.ref a] H (λv _=>v=.bl true) E:=by
 have m:Li K H a (ns.map V.int):=by
  rcases n with h|h
  ·rcases h with h|h
   ·by_cases k:a∈ts
    ·rw[c.1 a k]at h;cases h
    ·rcases c.2 a k with z|⟨o,xs,z⟩
     ·rw[z]at h;cases h
     ·rw[z]at h;cases h
   ·exact .inl h
  ·exact .inr h
 refine⟨rfl,λcl j=>⟨rfl,ts,tabS d,[.sq (ns.map AV.int)],⟨nd,by rw[<-j];simp[tabS],λi o e=>?_⟩,?_,?_⟩⟩
 ·unfold tabS at e;rw[é]at e;cases q:d[i]? with
  |none=>rw[q]at e;cases e
  |some p=>
   rw[q]at e;cases e;have g:ts[i]?=À (cl p.1):=by rw[<-j,é,q];rfl
   exact⟨_,g,rfl,#[],c.1 _ (ý g),trivial,λpos r z=>by cases z⟩
 ·unfold Ĥ;refine⟨_,_,rfl,?_,by unfold Ĥ;rfl⟩;unfold VR;exact⟨a,_,rfl,m,Ĥ.map (λi=>cN) ns⟩
 ·obtain⟨v,s',e,rfl⟩:=hl.get;rw[e];intro f A x _ _ b;have b:VR ⟨K,cl⟩ f A (.bl true) x:=b;unfold VR at b;exact b
def L1 {l:m3}{K:É}{i:Á (Nat×Str)}(e:mg "law"=À (.ref n)) (j:(i.map λp=>cl p.1)=ts) (D:Df ⟨K,cl⟩ mg "law" st)
  (q:∀s v kV b g d a ct,uu s (ō "law" "law" (cH st) (aN st) (ě st) .none kV b g d a ct) ⟨[v],[]⟩ [("_law_script",v)])
  (F:∀base f c,G4 K "law" "law" st f c->hU l.prog w K mg base (ri l.prog w) k f c ["_law_script"] (Ca ⟨K,cl⟩ 1 o)) :
  ∃c:eB,(∀s v,uu s c ⟨[v],[]⟩ [("_law_script",v)])/\∀base:Heap,K.In base->base.Ns mainGlobals mg->hU l.prog w K mg base (ri l.prog w) k n c ["_law_script"] (spT K ts i o):=by
 obtain⟨f,c,G,m⟩:=D.ex;cases m.symm.trans e;refine⟨c,?_,λbase _ _=>(F base _ _ G).imp λz H Q E h=>h.2 cl j⟩;obtain⟨x,y,kV,b,g,d,a,ct,t,rfl,u,r⟩:=G.ex;exact λs v=>q s v kV b g d a ct
end
def Vw {l:m3}{b:Á Str}{C:(Str->Ð Value)->Heap->Prop}{A:Ī->Heap->Prop}{d:DefRec}{K:Params->É}(ts:Á Addr)(p:Á (Nat×Str)) (g:Á AV->S->R AV)(k:Nat)(nd:ts.Nodup)(G:cS k uA)(hl:∀ns:Á Int,(g [.sq (ns.map AV.int)] (tabS p)).wp λv _=>v=.bl true) (I:l.most=À 63)(o:d.params.defaults=[])
  (m:∀(w:Ī) (h:Heap),A w h->(K w.params).In h) (y:∀(w:Ī) (h:Heap),A w h->∀q∈ts,h.get? q=À (dO #[]))
  (i:∀(w:Ī) (h:Heap),(K w.params).In h->∀q∈ts,∃c,ų (K w.params) c q=true) (j:∀(w:Ī) (h:Heap),(K w.params).In h->∀q∈ts,(K w.params).lookup q=none)
  (F:∀(w:Ī) (mg:Str->Ð Value) (r:Addr) (h:Heap),(K w.params).In h->h.Ns mainGlobals mg->mg d.name=À (.ref r)->
   ∃t:eB,(∀(s:Ú) (u:Value),uu s t ⟨[u],[]⟩ [("_law_script",u)])/\∀base:Heap,(K w.params).In base->base.Ns mainGlobals mg->hU l.prog w (K w.params) mg base (ri l.prog w) k r t ["_law_script"] (spT (K w.params) ts p g)) :
  Ob q b C A l.row.toRowW d [] (λf vs=>GV f vs):=
 L2.Ko ts (n:=63) (x:="_law_script") (CX:=λw=>ri l.prog w) (sp:=λw=>spT (K w.params) ts p g) I (by decide) o G m y (λw h Y q B=>by
  obtain⟨c,e⟩:=i w h (m w h Y) q B;exact((DF (m w h Y) e).tab (y w h Y q B)).isCodeTable) j F (λw H a ns _ D E=>NN nd (hl ns) D E) λ_ _ _ _ _ ⟨_,_,_,_,_,_,_,_,_,_,z⟩=>z
end Ro
namespace Mm
open PySem L2
section
variable {T:Tx}{XE:iQ}{X:Cx}{pos:kU}
def set_dict (hu:X.A.units+1<cLine):O_ X (λo i v H Q=>∃a H',o=.ref a/\w_ H a i v H'/\Q H'):=by
 rintro b s j H o i v c f u Q I e d rv ⟨a,H',rfl,g,q⟩;obtain rfl:c=Ò a:=e;exact xO hu I g d rv λh B=>⟨H',B,q⟩
def vp (o i:Ev):Mt:=λv c s=>(o c s).bj λa d=>(i c d).bj λb e=>putD v a b c e
def MG (hu:X.A.units+1<cLine)(r:PE X o (tE T XE m)) (Y:PE X i (tE T XE n))
  (P:∀v,k9 (.Subscript o i pos) X.env v=(do
   let h <-df [v] (Ė o X.env);let w <-df [v,h] (Ė i X.env)
   jW pos
   df [v,h,w] (LB h w v)
   release [v,h,w] []):=by intro _;rfl):PG X (.Subscript o i pos) (tT T XE (vp m n)):=
 PG.imp (JJ r Y (set_dict hu) P) λx σ H Q ⟨ρ,O,s,v,Z,U,E,r⟩=>by
  refine dz Z U r λa s1 N5 H1 y _ u1 D l f t=>dz D l t λb s2 d B z _ L e p g c=>?_;have f:VR T d B a y:=VR.up L f;have g:VR T d B b z:=g;have E:VR T d B v x:=VR.up (u1.trans L) E;unfold putD at c;split at c
  ·split at c
   ·rename_i i C k M N;obtain⟨hl,u⟩:=c.Ś;obtain⟨a,I,rfl,F,G,J,q2⟩:=e.AL (j6 M) f;have q:C.length=I.length:=by have:=Ĳ b_ J;simpa using this
    refine⟨a,_,rfl,by rw[g8 N g];exact w_.k G (by rw[<-q];exact hl),?_⟩;obtain⟨p1,p2⟩:=uL k E J q2;have j:Up d B d (upd B a (.dK (putK I k x))):=e.tM F G (λ_ z=>nomatch z) (λ_ _ z=>nomatch z);exact u d _ σ j (e.set F j ⟨_,ă,p1,p2.up j⟩) (p.up j)
   ·exact c.elim
  ·exact c.elim
def M3:m7 (vp o i):=λv d s=>by
 unfold vp;cases o d s with
 |bad=>exact .inr (.inr rfl)
 |ex c e=>exact .inr (.inl ⟨_,_,rfl⟩)
 |ok a e=>
  simp only[fP];cases i d e with
  |bad=>exact .inr (.inr rfl)
  |ex c e=>exact .inr (.inl ⟨_,_,rfl⟩)
  |ok b f=>
   simp only[fP];unfold putD;split
   ·split
    ·split
     ·exact .inl ⟨_,_,rfl⟩
     ·exact .inr (.inr rfl)
    ·exact .inr (.inr rfl)
   ·exact .inr (.inr rfl)
def yi (v w:AV)(s:S):R AV:=match v,w with
 |.tup _,.str _=>.ok (.bl true) s
 |.ref i,.str _=>need (ë s i) λ_=>.ok (.bl true) s
 |v,w=>uo v w s
def UM (q:X.K=T.K)(hu:X.A.units+30<cLine):jj X (Į .NotEq) (wU T XE yi):=by
 rintro f s B H x y v u Q I l m ⟨z,a,b,st,g,n,o,c⟩;have d:X.A.units<cLine:=by lia
 unfold yi at c;split at c
 ·obtain⟨p,r,rfl,h,k⟩:=n.ck;cases o.str_inv;obtain⟨t,rfl⟩:=m;cases l;obtain⟨i,_,j,_⟩:=I.tuple (q▸h);exact Ze _ _ j d X.prog X.w _ _ ⟨.bl true,H,I,rfl,c.ĸ g dh⟩
 ·obtain⟨xs,e,c⟩:=c.ô;obtain⟨p,r,rfl,_,h,k⟩:=g.dg (ü e) n;cases o.str_inv;obtain⟨t,rfl⟩:=m;cases l;obtain⟨i,_,j,_⟩:=I.list (fC.of h);exact Zb _ _ j.isList d X.prog X.w _ _ ⟨.bl true,H,I,rfl,c.ĸ g dh⟩
 ·exact XQ (T:=T) (XE:=XE) q hu f s B H x y v u Q I l m ⟨z,a,b,st,g,n,o,c⟩
def Dq:eN (.Dict k v p) (À (.Name x q)) n env=pure false:=rfl
def MR (b:X.N.Nodup)(c:PE X (.Dict k v p) (tE T XE (gv l))) (e:X.N[i]?=À x)(f:Loc X.env.scope x)(d:X.fn x=true∨X.env.scope.names.lookup x=À .local) :
  PS X (.Assign [.Name x a] (.Dict k v p) pos) (tS T XE (Ů i (gv l))):=Ja b c e f Dq d
end
end Mm
namespace Ro
open PySem L2 Mm
def Fu (l t:Á Addr)(i:Nat):Addr:=if i<20 then l.getD i 0 else t.getD (i-20) 0
def UC {K:É}{C:Addr}{nm:Str}{bm:Á Value}{b:Ð Value}(x:jk K C nm bm b)(ga:ą K (.ref C) "__getattribute__"=À (À (.builtin "BaseException.__getattribute__"))) (gx:ą K (.ref C) "__getattr__"=À none) (ca:ą K (.ref C) "__class__"=À (À (.builtin "object.__class__")))
  (cn:gf K (.builtin "object.__class__") "__get__"=À (À (.builtin "getset_descriptor.__get__"))) (ct:i4 K (.builtin "object.__class__")=À true):LG K C:=by
 have a:∀{l:Á Value},qp K l->l.contains (.type "BaseException")=true/\l.contains (.type "object")=true:=by
  intro l t;induction t with
  |base=>exact⟨by decide+kernel,by decide+kernel⟩
  |own _ _ _ _ c=>rw[Ő,Ő,c.1,c.2];exact⟨eW _,eW _⟩
 refine {ga:=ga,gx:=gx,sb:=?_,ca:=ca,cn:=cn,ct:=ct,cm:=?_,cl:=x.Ov}
 ·rw[x.mro,Ő,(a x.tail).1,eW]
 ·show yz K (.ref C) (.type "object")=À true;rw[x.mro,Ő,(a x.tail).2,eW]
structure yN (K:É)(mg:Str->Ð Value)(C:Addr)(nm:Str)(bm:Á Value)(B':Ð Value):Prop where
 tl:qp K bm->jk K C nm bm B'/\(B'=none->qp K (.ref C::bm))
 is:jk K C nm bm B'->LG K C
 kp:į K (.ref C)=true
 gl:mg nm=À (.ref C)
def Vz {K:É}{h:Heap}{mg:Str->Ð Value}{C N:Addr}{nm q:Str}{bm bs sub:Á Value}{sn:Á Str}{ab:Bool}{col:Ð Bool}{dd nd:Ð Addr}{f g kc j m b:Ð Value}{o:Value}{c:ę Ac}{ep:Nat}{d:ę (Ð Value)}(X:K.In h)(G:h.Ns mainGlobals mg)
  (a:ĕ K mainGlobals nm=À (À (.ref C))) (l:K.lookup C=À (excClassObj nm q C N bs bm true sn sub ab col dd f g kc j m "ValueError.__new__")) (n:K.lookup N=À ⟨o,nd,.dict c ep,d⟩) (s:Kb c=true) (k:į K (.ref C)=true)
  (ga:ą K (.ref C) "__getattribute__"=À (À (.builtin "BaseException.__getattribute__"))) (gx:ą K (.ref C) "__getattr__"=À none) (ca:ą K (.ref C) "__class__"=À (À (.builtin "object.__class__")))
  (cn:gf K (.builtin "object.__class__") "__get__"=À (À (.builtin "getset_descriptor.__get__"))) (ct:i4 K (.builtin "object.__class__")=À true) (i:nsFind c "__init__"=b):yN K mg C nm bm b:=
 ⟨λt=>⟨⟨⟨_,_,_,_,_,_,_,_,_,_,_,_,_,_,l,⟨_,_,_,_,_,n,s,λ_=>rfl⟩,i⟩,t⟩,λe=>.own l ⟨_,_,_,_,_,n,s,λ_=>rfl⟩ (i.trans e) t⟩,λx=>UC x ga gx ca cn ct,k,hJ X G a⟩
def VA {K:É}{mg:Str->Ð Value}{b e f g j k l m o:Addr}{r t:Á Addr}{M N:Ð Value}(x0:yN K mg b "RoyalError" uD none)(x1:yN K mg e "BadFraction" (.ref b::uD) none) (x2:yN K mg f "Taken" (.ref b::uD) none) (x3:yN K mg g "NoName" (.ref b::uD) none) (x4:yN K mg j "TooMuch" (.ref b::uD) none) (x5:yN K mg k "NoRate" (.ref b::uD) none) (x6:yN K mg l "NoneLeft" (.ref b::uD) none) (x7:yN K mg m "Endless" (.ref b::uD) M) (x8:yN K mg o "BadRow" (.ref b::uD) N) :
  Xs ⟨K,Fu (b::e::f::g::j::k::l::m::o::r) t⟩ mg:=by
 obtain⟨q,d⟩:=x0.tl .base;have c:=d rfl;have s:=(x1.tl c).1;have u:=(x2.tl c).1;have v:=(x3.tl c).1;have w:=(x4.tl c).1;have x:=(x5.tl c).1;have y:=(x6.tl c).1;have z:=(x7.tl c).1;have A:=(x8.tl c).1;have a:∀{p:Nat->Prop},p 0->p 1->p 2->p 3->p 4->p 5->p 6->p 7->p 8->∀i,i<9->p i:=λ{p} B C D E F G H I J i L=>by
  match i,L with
  |0,_=>exact B
  |1,_=>exact C
  |2,_=>exact D
  |3,_=>exact E
  |4,_=>exact F
  |5,_=>exact G
  |6,_=>exact H
  |7,_=>exact I
  |8,_=>exact J
  |n+9,h=>exact absurd h (by omega)
 refine⟨a ⟨_,q,λ_=>rfl⟩ ⟨_,s,λ_=>rfl⟩ ⟨_,u,λ_=>rfl⟩ ⟨_,v,λ_=>rfl⟩ ⟨_,w,λ_=>rfl⟩ ⟨_,x,λ_=>rfl⟩ ⟨_,y,λ_=>rfl⟩ ⟨_,z,λh=>absurd h (by omega)⟩ ⟨_,A,λh=>absurd h (by omega)⟩,
  a (x0.is q) (x1.is s) (x2.is u) (x3.is v) (x4.is w) (x5.is x) (x6.is y) (x7.is z) (x8.is A),a x0.kp x1.kp x2.kp x3.kp x4.kp x5.kp x6.kp x7.kp x8.kp,a x0.gl x1.gl x2.gl x3.gl x4.gl x5.gl x6.gl x7.gl x8.gl⟩
structure VY (K:É)(C:Addr)(fs:Á Str):Prop where
 c:Ay K C
 na:∀f∈fs,ko K C f
def S8 {K:É}{C:Addr}{fs:Á Str}{nm:Str}(a:ĕ K mainGlobals nm=À (À (.ref C))) (b:gY K C gp=true)(hd:kW K C=true)(c:rg K C=true)(d:ą K (.ref C) "__setattr__"=À (À (.builtin "object.__setattr__"))) (na:∀f∈fs,ą K (.ref C) f=À none):VY K C fs:=⟨⟨b,hd,c,d⟩,na⟩
def VY.bk {T:Tx}{C:Addr}{c:Nat}{fs:Á Str}(h:VY T.K C fs)(e:T.cl c=C):Bk T c fs:=⟨by rw[e];exact h.c,λf a=>by rw[e];exact h.na f a⟩
def Pu {K:É}{cl:Nat->Addr}{c:Nat}{C:Addr}{m b:Str}{st:Stmt}{f:Addr}{n:Value}{od i:Ð Addr}{h:ę (Ð Value)}{kV g o d ct:Value}(e:cl c=C)(a:ą K (.ref C) m=À (À (.ref f)))
  (l:K.lookup f=À ⟨n,od,.func (ō m b (cH st) (aN st) (ě st) .none kV g o i d ct),h⟩) (j:dN K d b=true) (k:į K (.ref f)=true) (fn:mK K (.ref f)=true):jZ ⟨K,cl⟩ c m b st:=
 ⟨f,_,zd l j k,by show Meth K (cl c) m f;rw[e];exact⟨a,fn,k⟩⟩
def Pt {K:É}{cl:Nat->Addr}{h:Heap}{mg:Str->Ð Value}{c:Nat}{C:Addr}{nm b:Str}{st:Stmt}{f:Addr}{p:Value}{od m:Ð Addr}{j:ę (Ð Value)}{kV i q d ct:Value}(X:K.In h)(G:h.Ns mainGlobals mg)(e:cl c=C)(g:ĕ K mainGlobals nm=À (À (.ref C))) (a:ą K (.ref C) "__init__"=À (À (.ref f)))
  (l:K.lookup f=À ⟨p,od,.func (ō "__init__" b (cH st) (aN st) (ě st) .none kV i q m d ct),j⟩) (n:dN K d b=true) (k:į K (.ref f)=true) (fn:mK K (.ref f)=true) (o:uX K C=true) (kc:į K (.ref C)=true):VZ ⟨K,cl⟩ mg c nm b st:=
 ⟨f,_,zd l n k,by show Mk K (cl c) f;rw[e];exact⟨o,a,fn,kc⟩,by show mg nm=À (.ref (cl c));rw[e];exact hJ X G g⟩
def Pw {K:É}{cl:Nat->Addr}{h:Heap}{mg:Str->Ð Value}{x:Str}{st:Stmt}{i:Nat}{f b P:Addr}{n:Value}{od j:Ð Addr}{g:ę (Ð Value)}{kV d o ct:Value}(X:K.In h)(G:h.Ns mainGlobals mg)(e:cl i=P)(a:ĕ K mainGlobals x=À (À (.ref f)))
  (l:K.lookup f=À ⟨n,od,.func (ō x x (cH st) (aN st) (ě st) .none kV d o j (.ref b) ct),g⟩) (c:dN K (.ref b) x=true) (k:į K (.ref f)=true) (m:ų K b P=true):Sr ⟨K,cl⟩ mg x st i:=
 ⟨f,_,b,zd l c k,hJ X G a,rfl,by show ų K b (cl i)=true;rw[e];exact m⟩
def OQ {K:É}{x:Str}{st:Stmt}{f b P:Addr}{i:Value}{od g:Ð Addr}{e:ę (Ð Value)}{kV d j ct:Value}(a:ĕ K mainGlobals x=À (À (.ref f)))
  (l:K.lookup f=À ⟨i,od,.func (ō x x (cH st) (aN st) (ě st) .none kV d j g (.ref b) ct),e⟩) (h:ų K b P=true):∃c,ų K c P=true:=⟨b,h⟩
def QQ {p:Str->Prop}:∀f∈([]:Á Str),p f:=λ_ h=>nomatch h
end Ro
namespace L2
open PySem PySem.Spec PyProof.Rows
section
variable {X:Cx}{þ:Á (Addr×Obj)}{σ:St}{H:Hp}{s:Ú}
def Inv.OM (I:Inv X þ σ H s)(e:H a=À u)(n:∀v,X.xa a=À v->(∀xs,v≠.tup xs)/\(∀o w,v≠.iS o w)/\∀ps,v≠.qX ps) (r:∀xs,u≠.tup xs)(t:∀x,u≠.own x)(k:Ş X.prog X.w H s.heap a f):Inv X þ σ (upd H a f) s:=by
 have d:∀b,H b=none->upd H a f b=none:=λb z=>by rw[ç λy=>by rw[y,e]at z;cases z];exact z
 have t1:∀b xs,H b=À (.tup xs)->upd H a f b=À (.tup xs):=λb xs z=>by
  rw[ç λy=>by rw[y,e]at z;exact r _ (è z)];exact z
 have st:∀b o,Ş X.prog X.w H s.heap b o->Ş X.prog X.w (upd H a f) s.heap b o:=λb o z=>z.oO (λ_ _ _ q=>q) (λc q=>by
  rw[ç λy=>by rw[y,e]at q;exact t _ (è q)];exact q) t1
 have g:∀b v,X.xa b=À v->((∃xs,v=.tup xs)∨(∃o w,v=.iS o w)∨∃ps,v=.qX ps)->b≠a:=λb v z q y=>by
  subst y;obtain⟨j,l,m⟩:=n v z;rcases q with⟨_,q⟩|⟨_,_,q⟩|⟨_,q⟩
  ·exact j _ q
  ·exact l _ _ q
  ·exact m _ q
 refine⟨I.ok,I.os,I.bare,⟨I.base.keep,I.base.slot,λb o q n x=>d _ (I.base.free b o q n x),I.base.there,λb xs z=>?_,λb o w z=>?_,λb ps z=>?_⟩,I.loc,I.cell,d _ I.free,λx c z=>d _ (I.jw x c z),λp i=>let ⟨A,B,C⟩:=I.pin p i;⟨A,d _ B,C⟩,λb o z=>?_,I.len⟩
 ·rw[ç (g b _ z (.inl ⟨_,rfl⟩))];exact I.base.lE b xs z
 ·rw[ç (g b _ z (.inr (.inl ⟨_,_,rfl⟩)))];exact I.base.jx b o w z
 ·rw[ç (g b _ z (.inr (.inr ⟨_,rfl⟩)))];exact I.base.wt b ps z
 ·by_cases h:b=a
  ·subst h;rw[ă]at z;cases z;exact st _ _ k
  ·rw[ç h]at z;exact st _ _ (I.ť b o z)
def Inv.Z5 (I:Inv X þ σ H s)(e:H a=À (.dT ks)):∀v,X.xa a=À v->(∀xs,v≠.tup xs)/\(∀o w,v≠.iS o w)/\∀ps,v≠.qX ps:=λv z=>
 ⟨(λxs q=>by subst q;have:=I.base.lE a _ z;rw[e]at this;cases this),(λo w q=>by subst q;have:=I.base.jx a _ _ z;rw[e]at this;cases this),λps q=>by subst q;obtain⟨_,this⟩:=I.base.wt a _ z;rw[e]at this;cases this⟩
end
def Zm (a:Addr)(o:Obj):It:=
 ⟨λi H=>∃b,H a=À (.iS o (.dT b))/\i<b.length,λi H x A=>A=H/\∀b,H a=À (.iS o (.dT b))->∃c p,b[i]?=À c/\x=.ref p/\H p=À (.tup (c.1.map kV)),λi H=>∃b,H a=À (.iS o (.dT b))/\b.length<=i⟩
def A4 {X:Cx}(I:Inv X q z H s)(e:H a=À (.iS o (.dT ks))) (hd:o.data=.dict c ep):s.heap.get? a=À o/\c.size=ks.length/\∀(i:Nat) (h:i<c.size),∃n p,ks[i]?=À n/\c[i].key=.ref p/\H p=À (.tup (n.1.map kV)):=by
 obtain⟨f,_,_,xs,b,y,t,r,g,_,j,k,_⟩:=(show Ş X.prog X.w H s.heap a (.iS o (.dT ks))from I.ť a _ e)
 rw[f]at g;cases g;rw[hd]at j;cases j;have hl:c.size=ks.length:=by rw[<-ĳ,k,Ê,<-b.length]
 refine⟨f,hl,λi l=>?_⟩;have m:i<xs.length:=by rw[<-b.length,<-hl];exact l
 obtain⟨p,u,x,v,_⟩:=Paired.at b (Å m);refine⟨p,xs[i].2.1,u,?_,v⟩;have d:c.toList[i]?=À (entryOfKey (mx (ż X.prog X.w)) xs[i]):=by rw[k,é,Å m];rfl
 rw[aD,aA l]at d;rw[è d];rfl
def Kl {P:Č}{w:Ī}{K:É}{tg:Expr}{o:Obj}(a it:Addr)(hd:o.data=.dict es ep):Turn P w K tg (Zm a o) [it] it (λi h=>h.get? it=À (Dx.Im a i es.size ep)) where
 mem:=by simp
 obj:=λi h st b hb=>by
  have e:b=it:=by simpa using hb
  subst e;exact⟨_,st,(λv z=>nomatch z)⟩
 keep:=λi h h' st k=>k it (by simp) _ st
 item:=by
  intro X hP hw hK hc i þ s σ H E I hf st hg;subst hP hw hK;obtain⟨ks,hq,hx⟩:=hg;obtain⟨h0,hl,hk⟩:=A4 I hq hd;obtain⟨f0,f1,f2,f3,f4,f5⟩:=hf it (by simp);have hi:i<es.size:=by rw[hl];exact hx
  obtain⟨kv,p,k1,k2,k3⟩:=hk i hi;refine Dx.Jk st h0 hd hi λh' Ka sb=>?_;have I1:Inv X þ σ H {s with heap:=h'}:=I.turned (t':=s.toks) sb f0 f1 f3 f4 f5;exact⟨_,rfl,Ec (s:={s with heap:=h'}) Ka rfl rfl (by decide) ⟨.ref p,H,I1,k2,⟨rfl,λys hy=>by rw[hq]at hy;cases hy;exact⟨kv,p,k1,rfl,k3⟩⟩,Ka,λb hb=>(hf b hb).1⟩⟩
 done:=by
  intro X hP hw hK hc i þ s σ H E I hf st hg;subst hP hw hK;obtain⟨ks,hq,hx⟩:=hg;obtain⟨h0,hl,_⟩:=A4 I hq hd;obtain⟨f0,f1,f2,f3,f4,f5⟩:=hf it (by simp);exact Dx.F2 (I.ok.hd hc) st (by rw[hl];exact hx) h0 hd λh' eb=>⟨rfl,I.turned (t':=s.toks) eb f0 f1 f3 f4 f5⟩
 self:=λ_ _ _ _ _ st h=>wpAny_pyIter_keyiter ⟨_,st,rfl,rfl⟩ h
def Xu (tl:TE):TI:=λe H R=>tl e H λx A=>∃a b,x=.ref a/\A a=À (.dT b)/\∀o d c,o.data=.dict d c->R (Zm a o) (upd A a (.iS o (.dT b)))
def Nh {X:Cx}(hl:PE X l tl):PI X G l (Xu tl):=by
 intro c s m H R I h;refine aq (hl c s m H _ I h) λv d E=>iR E λx C A y u=>?_;obtain⟨a,k,e,g,q⟩:=u;subst e;cases y;have j:=(show Ş X.prog X.w C d.heap a (.dT k)from A.ť a _ g)
 obtain⟨_,lo,xs,D,o,p,n,i,r,f,F,_⟩:=id j;refine Dx.FO lo i r f ?_;have B:Inv X c m (upd C a (.iS o (.dT k))) d:=A.OM g (A.Z5 g) (λ_ z=>nomatch z) (λ_ z=>nomatch z) ⟨i,j⟩;refine⟨d.heap.objs.size,[d.heap.objs.size],_,_,_,rfl,B.kept (t':=d.toks) λb o e=>Ä _ e,Kl a _ f,Ù _ rfl,λb t=>?_,q o p n f⟩;have e:b=d.heap.objs.size:=by simpa using t
 subst e;exact B.A3 (Î _) (B.ť.fresh (Î _))
theorem nF {prog:Č}{w:Ī}{A:Œ}{C:Bool->Ú->Prop}(h:C false s):∀(l:Á Value) (i:Nat),PySem.W.KatLex prog w A b false C (l.zip l) i s
 |[],_=>K7 h
 |_::l,i=>cz (nq (i0 (nF h l (i+1))))
end L2
namespace Mm
open PySem L2
def rN (T:Tx):Rl (Á AV) V:=⟨λ_ a H v x=>∃p xs,x=.ref p/\H p=À (.tup xs)/\Ĥ T a H v xs,λ_ h=>h⟩
abbrev tN (T:Tx)(XE:iQ)(m:gh):TE:=tG T XE (rN T) m
def qx:Á AV->Ð (Á Key)
 |[]=>À []
 |v::r=>(fT v).bind λk=>(qx r).map (k::·)
noncomputable def Fz (s:S)(i:Nat):Ð (Á (Á Key×AV)):=match s[i]? with
 |some (.dT xs)=>À xs
 |_=>none
def n9 {s:S}{i:Nat}{xs:Á (Á Key×AV)}(h:Fz s i=À xs):s[i]?=À (.dT xs):=by
 unfold Fz at h;split at h
 ·cases h;assumption
 ·cases h
def Hx {s:S}{i:Nat}{xs:Á (Á Key×AV)}(h:s[i]?=À (.dT xs)):Fz s i=À xs:=by unfold Fz;rw[h]
section
variable {T:Tx}{XE:iQ}{X:Cx}{pos:kU}
theorem oi {ρ:Á Addr}{H:Hp}:∀{vs:Á AV}{ks:Á Key}{xs:Á V},qx vs=À ks->Ĥ T ρ H vs xs->xs=ks.map kV
 |[],ks,xs,h,k=>by
  cases h;unfold Ĥ at k;exact k
 |v::r,ks,xs,h,k=>by
  obtain⟨x,e,rfl,c,d⟩:=k.cons_inv;unfold qx at h;cases a:fT v with
  |none=>rw[a]at h;cases h
  |some q=>
   rw[a]at h;cases b:qx r with
   |none=>rw[b]at h;cases h
   |some t=>
    rw[b]at h;cases h;rw[g8 a c,oi b d];rfl
def SR.Hw {ρ:Á Addr}{H:Hp}{s:S}(j:SR T ρ s H){i:Nat}{xs:Á (Á Key×AV)}(e:s[i]?=À (.dT xs)) {x:V}(h:VR T ρ H (.ref i) x):∃a vs,x=.ref a/\ρ[i]?=À a/\H a=À (.dT vs)/\xs.map (·.1)=vs.map (·.1)/\Ĥ T ρ H (xs.map (·.2)) (vs.map (·.2)):=by
 obtain⟨a,c,vs,f,g⟩:=j.obj i _ e;obtain⟨b,d,rfl⟩:=h.fW;rw[c]at d;cases d;exact⟨a,vs,rfl,c,f,g⟩
def zu (r:gh):gh:=λa s=>(r a s).bind λb c=>if b.length<=sizeLine then .ok b c else .bad
def CU {f:Á Expr}{k:Nat}{r:gh}(h:PA X f (tP T XE r)):PE X (.Tuple f k pos) (tN T XE (zu r)):=
 PE.imp (C7 h) λt H Q ⟨q,g,s,m,j,l⟩=>step m j l λv n e A x _ o c i a b=>by
  obtain⟨hl,b⟩:=b.Ś;have a:Ĥ T e A v x:=a;exact⟨by rw[<-a.length];exact hl,λp d=>b _ _ _ (c.dA d) (c.new d) ⟨p,x,rfl,ă,Ĥ.up (c.dA d) a⟩⟩
def yc (r:gh)(n:Ev):Ev:=λa s=>(zu r a s).bind λf e=>(n a e).bind λd c=>match d with
 |.ref i=>need (Fz c i) λb=>need (qx f) λk=>.ok (.bl (ņ b k).isSome) c
 |_=>.bad
def LU {r:gh}{n:Ev}{u:St}{H:Hp}{Q:VK}(h:tE T XE (yc r n) u H Q) :
  tN T XE (zu r) u H λy B=>tE T XE n u B λx A=>∃a o,x=.ref a/\jh A a y o/\Q (.bl o.isSome) A:=by
 obtain⟨ρ,I,s,Y,N,P⟩:=h;refine step Y N P λvs s1 m B y _ u1 j f l g=>step j f g λw s2 q A x _ Z e J c b=>?_;have c:VR T q A w x:=c;obtain⟨p,xs,rfl,U,vx⟩:=(show ∃p xs,y=.ref p/\B p=À (.tup xs)/\Ĥ T m B vs xs from l)
 cases w with
 |ref i=>
  obtain⟨d,F,b⟩:=b.ô;obtain⟨k,G,b⟩:=b.ô;obtain⟨a,C,rfl,ea,M,D,E⟩:=e.Hw (n9 F) c;have O:A p=À (.tup (k.map kV)):=by rw[<-oi G vx];exact Z.lE p xs U
  refine⟨a,jf C k,rfl,jh.t M O,?_⟩;have:(jf C k).isSome=(ņ d k).isSome:=by
   cases v:ņ d k with
   |none=>rw[(d_ k D E).2 v];rfl
   |some z=>obtain⟨x',L,_⟩:=(d_ k D E).1 z v;rw[L];rfl
  rw[this];exact b.ĸ e dh
 |_=>exact b.elim
def Ny {a:Á Expr}{e:Nat}{f:kU}{o:Expr}{r:gh}{n:Ev}(hu:X.A.units+1<cLine)(c:PA X a (tP T XE r)) (d:PE X o (tE T XE n)) (b:aC .In o=false:=by rfl):PT X (.Compare (.Tuple a e f) [.In] [o] pos) (kO T XE (cB (yc r n))):=
 PT.imp (Dc (C6 hu (CU c) d) b) λg H Q h=>LU (EO h)
def v5 (d:Ev)(r:gh)(v:Ev):Ms:=λe s=>(v e s).bj λa h=>(d e h).bj λb j=>(zu r e j).bj λc g=>match b with
 |.ref i=>match Fz g i,qx c with
  |some f,À k=>if f.length<sizeLine then .nx e (g.set i (.dT (g_ f k a)))else .bad
  |_,_=>.bad
 |_=>.bad
def I0 {o e:Expr}{E:Á Expr}{Y:Nat}{tp g:kU}{m r:Ev}{n:gh}(hu:X.A.units+1<cLine)(G:PE X o (tE T XE m)) (hi:PA X E (tP T XE n)) (hv:PE X e (tE T XE r)) (L:eN e (À (.Subscript o (.Tuple E Y tp) g)) pos.line X.env=pure false:=by rfl) :
  PS X (.Assign [.Subscript o (.Tuple E Y tp) g] e pos) (tS T XE (v5 m n r)):=
 PS.imp (EG hu G (CU hi) hv L) λD σ H ⟨ρ,env,s,L,he,G⟩=>dz L he G λv s1 N5 H1 x _ u1 N u j I=>dz N u I λd s2 Ws H2 y _ u2 O w l J=>dz O w J λc s3 f B z _ u3 h C P b=>by
  have l:VR T f B d y:=VR.up u3 l;have j:VR T f B v x:=VR.up (u2.trans u3) j;obtain⟨p,xs,rfl,hp,vx⟩:=(show ∃p xs,z=.ref p/\B p=À (.tup xs)/\Ĥ T f B c xs from P)
  split at b
  ·split at b
   ·rename_i i _ _ M k e1 e2;obtain⟨hl,b⟩:=b.Ś;obtain⟨a,Z,rfl,Q,U,q1,q2⟩:=h.Hw (n9 e1) l;have F:M.length=Z.length:=by have:=Ĳ b_ q1;simpa using this
    have hk:B p=À (.tup (k.map kV)):=by rw[<-oi e2 vx];exact hp
    refine⟨a,_,rfl,w_.t U hk (by rw[<-F];exact hl),?_⟩;obtain⟨p1,p2⟩:=uL k j q1 q2;have q:Up f B f (upd B a (.dT (putK Z k x))):=h.tM Q U (λ_ z=>nomatch z) (λ_ _ z=>nomatch z);exact b f _ σ q (h.set Q q ⟨_,ă,p1,p2.up q⟩) (C.up q)
   ·exact b.elim
  ·exact b.elim
def FY:Ev:=λ_ s=>.ok (.ref s.length) (s++[.dT []])
def Qj:PE X (.Dict [] [] pos) (tE T XE FY):=
 PE.imp JD λg H Q ⟨f,a,s,d,e,b⟩ p c=>b.alloc d c ⟨[],ă,rfl,.nil⟩
end
end Mm
namespace L2
open PySem PySem.Spec PyProof.Rows
def NC:V->Á V->Hp->VK->Prop:=λx b H Q=>∃d a,x=.ref d/\b=[]/\H d=À (.dT a)/\∀v,H v=none->Q (.ref v) (upd H v (.ext λh=>h.IsItemsView v d))
def F1:GP X "dict.items" NC:=by
 rintro i s A H x xs v us Q I m rv ⟨d,b,rfl,rfl,j,q⟩;cases m;cases rv;obtain⟨z,hd,xs,l,o,p,n,c,f,t,u,y⟩:=(show Ş X.prog X.w H s.heap d (.dT b)from I.ť d _ j)
 have g:s.TypeIs (.ref d) "dict":=⟨o,c,f.1⟩
 refine Ĩ zZ g PySem.F.entry_dict_items ?_ (PySem.F.args_dict_items_1 _);unfold cD.«dict.items» YC YD;refine Â (Â (wpAny_notOrdered_dict g (Ì ?_)));rw[Ñ (by rw[hd];exact ã)];exact Â (Ì (Â (Š (Ì ⟨_,rfl,.ref s.heap.objs.size,_,I.laid (a:=s.heap.objs.size) (o:=.ext λh=>h.IsItemsView s.heap.objs.size d) (t':=s.toks) (λ_ _ q=>Ä _ q) (Î _) ⟨⟨_,Ù _ rfl,rfl,rfl⟩,⟨_,Ù _ rfl⟩,λc f ⟨o,e,r⟩ k=>⟨o,k o e,r⟩⟩,rfl,q _ (I.ť.fresh (Î _))⟩))))
end L2
namespace Mm
open PySem L2
noncomputable def pN:Á (Á Key×AV)->Ð (Á (Str×Int))
 |[]=>À []
 |([.inr x,.inl i],_)::r=>(pN r).map ((x,i)::·)
 |_::_=>none
theorem vV:∀{kvs:Á (Á Key×AV)}{ks:Á (Str×Int)},pN kvs=À ks->kvs.map (·.1)=ks.map eI
 |[],_,h=>by cases h;rfl
 |(k,v)::r,ks,h=>by
  unfold pN at h;split at h
  ·rename_i e;cases e
  ·rename_i x i _ _ e;cases e;cases e:pN r with
   |none=>rw[e]at h;cases h
   |some q=>rw[e]at h;cases h;rw[Ô,vV e];rfl
  ·cases h
def lY (m:Ev):gh:=λb s=>(m b s).bind λv d=>match v with
 |.ref i=>need (Fz d i) λa=>need (pN a) λc=>if c.length<64 then .ok ((wd c).map λk=>.tup [.tup [.str k.1,.int k.2],(ņ a (eI k)).getD .Ğ]) d else .bad
 |_=>.bad
def Hz:AV->Int
 |.tup (.int d::_)=>d
 |_=>0
section
variable {T:Tx}{XE:iQ}{X:Cx}{pos:kU}
def FZ (hm:X.mg "sorted"=none)(hu:X.A.units+2<cLine)(h:PE X e (tE T XE m)) (hcm:X.calm=true:=by rfl)(hg:Gl X "sorted":=by rfl)
  (D:aB e "items" X.env (Ė e X.env)=Ė e X.env:=by rfl) (E:(ap.endLine == cp.line)=true:=by rfl)
  (he:Ï [.Call (.Attribute e "items" ap) [] [] cp] X.env=(false,Ė (.Call (.Attribute e "items" ap) [] [] cp) X.env)::Ï [] X.env:=by rfl) (TR:(Ģ pos (Ï [] X.env)).any (·.1)=false:=by rfl) :
  PE X (.Call (.Name "sorted" p) [.Call (.Attribute e "items" ap) [] [] cp] [] pos) (tL T XE (lY m)):=
 PE.imp (cZ (Cz hcm hu) hg hm ŧ (aR (Jx lM zZ PySem.F.type_dict_items F1 h D E) eJ he) (by decide) (by decide) he TR) λσ H Q zz=>ň zz λρ env s hs he ho=>
  step hs he ho λv s1 t Y x _ u1 B Xe Yz d=>by
   cases v with
   |ref i=>
    obtain⟨P,e1,d⟩:=d.ô;obtain⟨ks,e2,d⟩:=d.ô;obtain⟨hl,d⟩:=d.Ś;obtain⟨a,U,rfl,ea,h1,q1,q2⟩:=B.Hw (n9 e1) Yz;refine⟨.inr (.inr (.inl ⟨rfl,.inr ⟨U,h1⟩⟩)),a,U,rfl,rfl,h1,λv hv=>?_⟩;have h1':Y a=À (.dT U):=h1;refine⟨v,a,U,ks,rfl,ă,by rw[ç (Ŋ h1' hv)];exact h1,by rw[<-q1];exact vV e2,hl,λl C ws M k1 k2 k3 k4 k5=>?_⟩;have f:∀b o,Y b=À o->C b=À o:=λb o e=>k1 b o (by rw[ç (Ŋ e hv)];exact e);have N:Y l=none:=by
     by_cases O:l=v
     ·rw[O];exact hv
     ·rw[ç O]at M;exact M
    have up:Up t Y t C:=⟨⟨a_,λb xs e=>f b _ e,λb o u e=>f b _ e⟩,λb o e n=>⟨f b o e,n⟩,λb e=>by
     have:=k2 b e;by_cases L:b=v
     ·rw[L];exact hv
     ·rw[ç L]at this;exact this⟩
    have RX:SR T t s1 C:=B.up up.toGr λb hb=>by
     obtain⟨u,hu⟩:=B.in hb;rw[hu];exact f b u hu
    refine d t C (.ref l) up RX ⟨l,ws,rfl,N,B.out N,k3,?_⟩;have len:(wd ks).length=ws.length:=by rw[(we ks).length_eq,k4]
    have all:∀(q:Á (Str×Int)) (c:Á V),q.length=c.length->(∀(j:Nat) (k:Str×Int),q[j]?=À k->∃I b x,c[j]?=À (.ref I)/\jf U (eI k)=À x/\C b=À (.tup [.str k.1,.int k.2])/\C I=À (.tup [.ref b,x]))->Ĥ T t C (q.map λk=>AV.tup [.tup [.str k.1,.int k.2],(ņ P (eI k)).getD .Ğ]) c:=by
     intro q;induction q with
     |nil=>intro c y _;cases c with|nil=>exact .nil|cons _ _=>simp at y
     |cons k r ih=>
      intro c y g;cases c with
      |nil=>simp at y
      |cons w c=>
       obtain⟨I,b,x,Z,J,G,f3⟩:=g 0 k rfl;simp at Z;subst Z;refine .cons (jK (gq.of f3) (.cons (jK (gq.of G) (.cons iN (.one cN))) (.one ?_))) (ih c (by simpa using y) λj k' hj=>g (j+1) k' (by simpa using hj));cases ev:ņ P (eI k)with
       |none=>rw[(d_ (eI k) q1 q2).2 ev]at J;cases J
       |some v'=>
        obtain⟨x',ex,kx⟩:=(d_ (eI k) q1 q2).1 v' ev;rw[J]at ex;cases ex;exact VR.up up kx
    exact all _ _ len λj k hj=>by
     obtain⟨I,b,x,Z,J,G,f3⟩:=k5 j k hj;refine⟨I,b,x,Z,J,?_,f3⟩;have:b≠v:=λz=>by rw[z,ă]at G;cases G
     rw[ç this]at G;exact f _ _ G
   |_=>exact d.elim
end
def T8:Key->AV
 |.inl i=>.int i
 |.inr x=>.str x
def tupK (k:Á Key):AV:=.tup (k.map T8)
def BK (m:Ev):Src:=λb s=>(m b s).bind λv c=>match v with
 |.ref i=>need (Fz c i) λa=>.ok (a.map λp=>tupK p.1,[]) (c.set i (.Ed a))
 |_=>.bad
section
variable {T:Tx}{XE:iQ}{X:Cx}{pos:kU}
theorem wy:∀k:Á Key,Ĥ T ρ H (k.map T8) (k.map kV)
 |[]=>.nil
 |.inl i::r=>.cons cN (wy r)
 |.inr x::r=>.cons iN (wy r)
def XF (h:PE X e (tE T XE m)):PI X tg e (tW T XE (BK m)):=
 PI.imp (Nh h) λσ H R zz=>ň zz λρ M s hs Y Z=>step hs Y Z λv s1 d B x _ u1 g O k c=>by
  have k:VR T d B v x:=k;cases v with
  |ref i=>
   obtain⟨b,I,c⟩:=c.ô;obtain⟨a,f,rfl,C,D,t,q2⟩:=g.Hw (n9 I) k;refine⟨a,f,rfl,D,λo P N hd=>?_⟩;have w:Up d B d (upd B a (.iS o (.dT f))):=g.tM C D (λ_ z=>nomatch z) (λ_ _ z=>nomatch z);refine c d _ _ w (g.set C w ⟨o,P,N,f,ă,hd,t,q2.up w⟩) ⟨λy s' G u' u _=>?_⟩;have r:G a=À (.iS o (.dT f)):=u'.jx a _ _ ă;have hl:b.length=f.length:=by have:=Ĳ b_ t;simpa using this
   refine⟨λj v l=>?_,⟨f,r,by rw[Ê,hl];exact Î _⟩⟩;rw[é]at l;have E:j<b.length:=by
    cases z:b[j]? with
    |none=>rw[z]at l;cases l
    |some q=>exact(Ç.mp z).1
   refine⟨⟨f,r,by rw[<-hl];exact E⟩,λx A ⟨J,L⟩=>?_⟩;subst J;obtain⟨F,p,Q,rfl,U⟩:=L f r;refine⟨.refl,u,?_⟩;have n:(b[j]?).map (·.1)=À F.1:=by rw[<-é,t,é,Q];rfl
   rw[Å E]at l n;cases l;have n:b[j].1=F.1:=è n;show VR T y A (tupK b[j].1) _;rw[n];exact jK (gq.of U) (wy _)
  |_=>exact c.elim
def Gh (m:Ev)(b:Ms):Ms:=λa s=>match m a s with
 |.ok (.ref i) _=>match b a s with
  |.nx e d=>match d[i]?,Fz s i with
   |some (.Ed f),À _=>.nx e (d.set i (.dT f))
   |_,_=>.bad
  |.ex c d=>.ex c d
  |_=>.bad
 |_=>.bad
def PU {H:Hp}{o:Obj}(e:H a=À (.iS o (.dT ks))):Gs ρ H ρ (upd H a (.dT ks)):=
 ⟨a_,λ{K b c} h=>by
  rcases h with(h|⟨o,h⟩)|h
  ·exact .inl (.inl (by rw[ç λz=>by rw[z,e]at h;cases h];exact h))
  ·exact .inl (.inr ⟨o,by rw[ç λz=>by rw[z,e]at h;cases h];exact h⟩)
  ·exact .inr h,λ{K b c} h=>by
  rcases h with⟨o,h⟩|h
  ·exact .inl ⟨o,by rw[ç λz=>by rw[z,e]at h;cases h];exact h⟩
  ·exact .inr h⟩
def QM (h:PS X st (tS T XE b)):PS X st (tS T XE (Gh m b)):=by
 intro A s σ H D I ⟨ρ,B,t,hs,he,d⟩;unfold Gh at d;split at d
 ·rename_i i _ _;cases r:b B t with
  |nx e1 N=>
   rw[r]at d;dsimp only at d;split at d
   ·rename_i kvs kv0 e2 e0;obtain⟨a,ea,ks0,Z,_⟩:=hs.obj i _ (n9 e0);refine aq (h A s σ H {nx:=λF P=>∃o U Q E,P a=À (.iS o (.dT E))/\o.data=.dict U Q/\D.nx F (upd P a (.dT E)),rt:=λ_ _=>False} I ⟨ρ,B,t,hs,he,?_⟩) λf s' z=>?_
    ·rw[r];intro O H1 Wu J l M;obtain⟨Y,p,o,U,Q,E,h1,hd,q1,q2⟩:=l.obj i _ e2;have:Y=a:=by rw[zD J.pre ea]at p;exact(è p).symm
     subst this;have g:=PU (ρ:=O) h1;refine⟨o,U,Q,E,h1,hd,d O _ Wu ⟨⟨J.pre,λb xs z=>?_,λb o w z=>?_⟩,λb o z n=>?_,λb z=>?_⟩ ⟨l.nd,by simp[l.len],λj o' G=>?_⟩ ⟨M.len,λj v G=>?_⟩⟩
     ·rw[ç λy=>by rw[y,Z]at z;cases z];exact J.lE b xs z
     ·rw[ç λy=>by rw[y,Z]at z;cases z];exact J.jx b o w z
     ·rw[ç λy=>n (by rw[y];exact ý ea)];exact J.fr b o z n
     ·by_cases hb:b=Y
      ·rw[hb,ă]at z;cases z
      ·rw[ç hb]at z;exact J.live b z
     ·by_cases C:i=j
      ·subst C;have hl:i<N.length:=(Ç.mp e2).1;rw[Đ hl]at G;cases G;exact⟨Y,p,E,ă,q1,q2.gs g⟩
      ·rw[ù C]at G;obtain⟨c,L,q3⟩:=l.obj j o' G;refine⟨c,L,q3.gs g (λc oc w vs z k=>?_) (ç λy=>C ?_)⟩
       ·rw[ç λy=>by rw[y,h1]at z;cases z;rw[hd]at k;cases k];exact z
       ·subst y;exact(bw l.nd).mp ((Ç.mp p).2.trans (Ç.mp L).2.symm)
     ·obtain⟨x,ex,k⟩:=M.get j v G;exact⟨x,ex,k.gs g⟩
    ·cases f with
     |next=>
      obtain⟨F,P,I',o,U,Q,E,L,hd,q⟩:=z;have hk:=(show Ş X.prog X.w P s'.heap a (.iS o (.dT E))from I'.ť a _ L)
      exact⟨F,_,I'.OM L (I.Z5 Z) (λ_ z=>nomatch z) (λ_ z=>nomatch z) hk.2,q⟩
     |brk=>obtain⟨_,_,_,z⟩:=z;exact z.elim
     |cont=>obtain⟨_,_,_,z⟩:=z;exact z.elim
     |ret u=>obtain⟨_,_,_,_,_,z⟩:=z;exact z.elim
   ·exact d.elim
  |ex c N=>
   rw[r]at d;exact h A s σ H D I ⟨ρ,B,t,hs,he,by rw[r];exact d⟩
  |bk e N=>rw[r]at d;exact d.elim
  |ct e N=>rw[r]at d;exact d.elim
  |rt v N=>rw[r]at d;exact d.elim
  |bad=>rw[r]at d;exact d.elim
 ·exact d.elim
end
end Mm
namespace L2
open PySem PySem.Spec PyProof.Rows
def RF (K:É):Á V->Hp->VK->Prop:=λxs H Q=>∃(l:Addr) (b:Á Addr) (c:Á (Str×Int)),xs=[.ref l]/\H l=À (.lst (b.map V.ref))/\c.length=b.length/\(∀(j:Nat) (a:Addr) (k:Str×Int),b[j]?=À a->c[j]?=À k->∃r,gq K H a (.str k.1::.int k.2::r))/\c.Nodup/\b.length<64/\
 ∀(p:Á Nat) (d:Addr),p.Perm (ø b.length)->p.Pairwise (λi j=>vz (c.getD i (⟨#[]⟩,0)) (c.getD j (⟨#[]⟩,0))=true)->H d=none->Q (.ref d) (upd H d (.lst (p.map λi=>V.ref (b.getD i 0))))
def U_ (X:Cx):Á V->Hp->VK->Prop:=λxs H Q=>∃(l:Addr) (c:Á Addr) (O:KeyOrd) (h:ph) (e:Nat->O.α),xs=[.ref l]/\H l=À (.lst (c.map V.ref))/\c.length<64/\
 (∀f k s,Inv X f k H s->(∀(A:Œ) (d:Heap),2<=c.length->(∀b o,s.heap.get? b=À o->d.get? b=À o)->∀Q:ph->Ú->Prop,Q h {s with heap:=d}->Ü (à X.prog X.w) A (O0 (c.map Ò).toArray) Q (λ_ _=>False) {s with heap:=d})/\
  ∀(d:Heap),(∀b o,s.heap.get? b=À o->d.get? b=À o)->∀(i j:Nat) (a b:Addr) C,c[i]?=À a->c[j]?=À b->C (O.blt (e i) (e j)) {s with heap:=d}->Ü (à X.prog X.w) X.A.in1.in1 (keyLt' h (.ref a) (.ref b)) C (λ_ _=>False) {s with heap:=d})/\
 ∀(p:Á Nat) (g:Addr),p.Perm (ø c.length)->p.Pairwise (Mm.Ah e)->H g=none->Q (.ref g) (upd H g (.lst (p.map λi=>V.ref (c.getD i 0))))
def xM {X:Cx}:bz X (.builtin "sorted") (U_ X):=by
 rintro a s j H xs us Q I rv ⟨l,c,O,κ,key,rfl,t,d,x,q⟩;obtain⟨u,rfl,D⟩:=rv.one;cases (show u=Ò l from D);obtain⟨_,y,n,g,v⟩:=(show Ş X.prog X.w H s.heap l (.lst (c.map V.ref))from I.ť l _ t)
 have:=om g;subst this;refine fG B6 yI yG (Lw _) ?_;unfold cD.«sorted»;refine Â (m:=Fc "sorted" 1 1 _) (Ì ?_);refine Â (collect_list (A:=X.A.in1) ⟨_,v,rfl,n,rfl⟩ ?_ (by rw[Ê];exact Ġ (ũ (by lia))));have B:Inv X a j H {s with heap:=(s.heap.push (Ē "list" #[] 0)).update s.heap.objs.size (û (·++(c.map Ò).toArray))}:=I.grown (t':=s.toks) (λb u e=>by
  rw[ê _ _ (ħ (Ó e))];exact Ä _ e) (λ_ _ _=>rfl) λb o e z=>by
   obtain⟨u,hu⟩:=(I.ť _ o z).pS;rw[e]at hu;cases hu
 generalize {s with heap:=(s.heap.push (Ē "list" #[] 0)).update s.heap.objs.size (û (·++(c.map Ò).toArray))}=E at B;obtain⟨k,r⟩:=x a j E B;refine yo (A:=X.A.in1) (O:=O) (κ:=κ) (key:=key) B d k r ?_;intro p i s' pr h f C;exact⟨.ref i,_,C,rfl,q p i pr h f⟩
def Cy {X:Cx}(hc:X.calm=true):bz X (.builtin "sorted") (RF X.K):=by
 rintro d s σ H xs us Q I rv ⟨l,as,c,rfl,hH,hl,ht,nd,M,q⟩;refine xM d s σ H _ us Q I rv ⟨l,as,oP,tuples' true,λi=>kP (c.getD i (⟨#[]⟩,0)),rfl,hH,M,λd σ s1 I1=>?_,?_⟩
 ·have f:∀(j:Nat) (a:Addr),as[j]?=À a->∃(y:j<c.length) (t u:Tok) (r:Á Value) (o:Obj) (n:Nat),s1.heap.get? a=À o/\o.cls=.type "tuple"/\o.data=.seq (.str c[j].1 t::.int c[j].2 u::r).toArray n:=λj a D=>by
   have y:j<c.length:=by rw[hl];exact(Ç.mp D).1
   obtain⟨r,e⟩:=ht j a c[j] D (Å y);obtain⟨its,g,⟨o,B,k,n,e4⟩,_⟩:=I1.tuple e;cases g with
   |cons e5 G=>
    cases G with
    |cons G e7=>
     obtain⟨t,rfl⟩:=e5;obtain⟨u,rfl⟩:=G;exact⟨y,t,u,_,o,n,B,k,e4⟩
  have kD:∀i (E:i<c.length),kP (c.getD i (⟨#[]⟩,0))=kP c[i]:=λi E=>by rw[ä,Å E];rfl
  refine⟨?_,?_⟩
  ·intro A h' h2 F Q' hq;obtain⟨fs,k1,k2,k3⟩:=uI (h:=h') (P:=λv=>∃(i:Str) (t:Tok),v=.str i t) (as:=as) λj a D=>by
    obtain⟨_,t,u,r,o,n,g,B,k⟩:=f j a D;exact⟨_,o,_,n,F _ _ g,B,k,_,t,rfl⟩
   refine tX (T:=.type "str") k1 (by rw[k3];lia) (λv hv=>?_) (by decide) ?_
   ·obtain⟨i,t,rfl⟩:=k2 v hv;exact wN rfl
   ·have e:(cq "str" != cq "tuple")=true:=by decide
    rw[e];exact hq
  ·intro h' F i j a b C ea J hC;obtain⟨E,t,u,r,o,n,g,B,k⟩:=f i a ea;obtain⟨y,t',u',r',o',n',L,f2,m⟩:=f j b J;refine wY (F _ _ g) k (F _ _ L) m ?_;dsimp only at hC;rw[kD i E,kD j y]at hC;by_cases x:i=j
   ·subst x;rw[ea]at J;cases J;rw[g]at L;cases L;rw[k]at m;injection m with m _
    rw[<-m,â (ŋ _)];refine nF ?_ _ _;rw[oP.irrefl]at hC;exact hC
   ·have U:c[i]≠c[j]:=λz=>x ((bw nd).mp z);have N:(c[i].1 == c[j].1&&c[i].2 == c[j].2)=false:=by
     rw[oR];by_cases h1:c[i].1=c[j].1
     ·exact .inr (ŝ.mpr λh2=>U (qa h1 h2))
     ·exact .inl (ŝ.mpr h1)
    rw[AE N]at hC;refine cz (eqBool_str ?_);cases Y:c[i].1 == c[j].1 with
    |false=>
     rw[Y,Ñ ã]at hC;exact jQ (strKind_oneLt _ _ _ _ _ _ _ _ _ rfl rfl hC)
    |true=>
     rw[Y,Ë rfl]at hC;rw[Y,BS]at N;refine i0 (cz ((i7 X.prog X.w).eqBool (a:=c[i].2) (b:=c[j].2) (by simp[i7,c_]) (by simp[i7,c_]) ?_));rw[show decide (c[i].2=c[j].2)=false from â (by simpa using N)];exact jQ (uW _ _ (wX hC))
 ·intro p l' pr Z O;exact q p l' pr (Z.imp λh=>j_.mpr h.kle) O
def Inv.news {X:Cx}{t':Nat}(I:Inv X a p H s)(F:Fr X.base X.env.locals s.heap m)(A:Fr X.base X.env.locals h' m)(B:News X.base X.env.locals h' (uC X.base s.heap X.env.locals)):Inv X a p H {s with heap:=h',toks:=t'}:=by
 have c:∀b o,b≠X.env.locals->s.heap.get? b=À o->h'.get? b=À o:=λb o n e=>by
  cases z:X.base.get? b with
  |some w=>
   have:=F.keep b w z;rw[e]at this;cases this;exact A.keep b _ z
  |none=>exact(B (b,o) (Bm n z e)).1
 have g:∀b u,H b=À u->b≠X.env.locals:=λb u e z=>by rw[z,I.free]at e;cases e
 refine I.step (g':=s.gens) (d':=s.drawn) (ch:=[]) (λ_ z=>nomatch z) (λb o n _ _ e _=>c b o n e) (λb o n _ _ e _=>⟨o.slots,c b o n e⟩) (λb o _ e z=>z) (λb o _ e=>?_) (λb xs e=>e) (λb o w e=>e) (λb q e=>⟨#[],by rw[e];simp⟩) (λk j=>?_) (λb w e=>?_) I.bare
 ·by_cases f:b=X.env.locals
  ·obtain⟨l,_,_,h,_⟩:=A.ns;exact⟨l,by rw[f];exact h⟩
  ·exact⟨o,c b o f e⟩
 ·have i:k=m:=by
   funext y;exact j.agree F.ns y
  rw[i];exact A.ns
 ·refine(I.ť b w e).oO (λd v hd z=>c d v ?_ z) (λd z=>z) (λd xs z=>z);rcases hd with y|y
  ·rw[y];exact g b w e
  ·exact g d _ y
def Ft {X:Cx}(i:X.calm=true):bz X (.builtin "max") (λxs H Q=>∃(a:Addr) (ns:Á Int),xs=[.ref a]/\H a=À (.lst (ns.map V.int))/\0<ns.length/\∀M,M∈ns->(∀a,a∈ns->a<=M)->Q (.int M) H):=by
 rintro b s v H xs us Q I r ⟨a,ns,rfl,f,c,q⟩;obtain⟨u,rfl,k⟩:=vals1 r;cases k;obtain⟨j,rv,p,n⟩:=I.list (fC.of f);obtain⟨m,F⟩:=I.fr;exact max_list_N (I.ok.hd i) F (Jj (g:=X.base) (h:=s.heap) (L:=X.env.locals)) p.isList (intsAre_of rv) c λl M t o A B d e=>⟨.int M,H,I.news F A B,⟨t,rfl⟩,q M d e⟩
theorem bK.at {K:É}:∀{ds:Á Dt}{as:Á Addr},bK K N H ds (as.map V.ref)->ds.length=as.length/\∀(j:Nat) (d:Dt) (a:Addr),ds[j]?=À d->as[j]?=À a->Rep K N H d (.ref a)
 |[],[],_=>⟨rfl,λj d a e=>by simp at e⟩
 |[],_::_,h=>by unfold bK at h;cases h
 |d::ds,[],h=>by unfold bK at h;obtain⟨_,_,z,_⟩:=h;cases z
 |d::ds,a::as,h=>by
  unfold bK at h;obtain⟨x,n,z,k,m⟩:=h;cases z;obtain⟨l,g⟩:=bK.at m;refine⟨by simp[l],λj i f b c=>?_⟩;cases j with
  |zero=>simp at b c;subst b c;exact k
  |succ j=>exact g j i f (by simpa using b) (by simpa using c)
theorem D5:∀{ds:Á Dt}{j:Nat}{d:Dt},ds[j]?=À d->d.dep<=aX ds
 |[],_,_,e=>by simp at e
 |d::r,0,_,e=>by simp at e;subst e;simp only[aX];lia
 |d::r,j+1,a,e=>by
  have:=D5 (ds:=r) (j:=j) (d:=a) (by simpa using e);simp only[aX];lia
theorem G7:∀{ds:Á α}{as:Á e},ds.length=as.length->(∀(j:Nat)(d:α)(a:e),ds[j]?=À d->as[j]?=À a->f a=g d)->as.any f=ds.any g
 |[],[],_,_=>rfl
 |d::ds,a::as,hl,h=>by
  rw[ŉ,ŉ,h 0 d a rfl rfl,G7 (ds:=ds) (as:=as) (by simpa using hl) λj d a b c=>h (j+1) d a (by simpa using b) (by simpa using c)]
def Q0 {X:Cx}(hu:X.A.units+30<cLine):jj X (Į .In) (λx y H Q=>∃(p:Addr) (as:Á Addr) (ds:Á Dt) (b:Dt) (N B:Addr->Prop),y=.ref p/\H p=À (.lst (as.map V.ref))/\bK X.K N H ds (as.map V.ref)/\Rep X.K B H b x/\aX ds<=20/\Q (.bl (ds.any λd=>cj d b)) H):=by
 rintro z s σ H x y v u Q I T U ⟨p,as,ds,b,N,B,rfl,J,hr,L,hd,q⟩;cases U;obtain⟨M,r,P,Z⟩:=I.list (fC.of J);have:=om r;subst this;obtain⟨hl,c⟩:=bK.at hr;obtain⟨e,o⟩:∃e:Value->Bool,∀(j:Nat) (d:Dt) (a:Addr),ds[j]?=À d->as[j]?=À a->e (.ref a)=cj d b:=by
  classical
  refine⟨λu=>decide (∃(j:Nat) (d:Dt) (a:Addr),ds[j]?=À d/\as[j]?=À a/\u=.ref a/\cj d b=true),λj d a f k=>?_⟩;cases h:cj d b with
  |true=>exact î ⟨j,d,a,f,k,rfl,h⟩
  |false=>
   refine â ?_;rintro⟨O,C,Y,D,E,F,m⟩;cases F;rw[Rep.inj I (c O C a D E) (c j d a f k),h]at m;cases m
 refine Oc e P.isList (λw hw=>?_) ⟨.bl _,H,I,rfl,?_⟩
 ·have hw:w∈as.map Ò:=by simpa using hw
  obtain⟨a,G,rfl⟩:=Ļ.mp hw;obtain⟨j,t,rfl⟩:=ĩ G;have n:=Å t;have g:=Å (l:=ds) (i:=j) (by rw[hl];exact t);rw[o j _ _ g n];exact vi I 20 X.A.in1 (by show X.A.units+1+20<_;lia) _ _ (đ (D5 g) hd) (c j _ _ g n) L rfl T
 ·have f:(as.map Ò).toArray.any e=ds.any λd=>cj d b:=by
   rw[<-G7 hl o];simp;rfl
  rw[f];exact q
end L2
namespace Mm
open PySem L2
section
variable {T:Tx}{XE:iQ}{X:Cx}{pos:kU}
def T5:AV->Bool
 |.tup _=>true
 |_=>false
def Md (h:T5 v=true):∃xs,v=.tup xs:=by
 cases v with
 |tup xs=>exact⟨xs,rfl⟩
 |_=>cases h
def BA (xs:Á AV)(s:S):R AV:=need (mz xs) λa=>need a.max? λM=>.ok (.int M) s
def Ta (h:X.calm=true):bz X (.builtin "max") (SA T XE (rV T) BA):=by
 rintro c s l H xs us Q I r ⟨a,m,o,n,st,e,j,f,k,b⟩;subst e;obtain⟨i,e,b⟩:=b.ô;obtain⟨M,d,b⟩:=b.ô;rw[xU e]at k;rw[k.A7]at f;rw[E5]at d;refine Ft h c s l H _ us Q I r ⟨a,i,rfl,f,List.length_pos_of_mem d.1,λA f g=>?_⟩;rw[show A=M by have:=d.2 A f;have:=g M d.1;lia];exact b.ĸ j cN
def Bu:AV->AV->S->R AV
 |v,.ref i,s=>need (toD 20 s v) λb=>need (ë s i) λxs=>need (xs.mapM (toD 20 s)) λa=>if xs.all T5=true/\aX a<=20 then .ok (.bl (a.any λd=>cj d b)) s else .bad
 |_,_,_=>.bad
def XO (j:X.K=T.K)(hu:X.A.units+30<cLine):jj X (Į .In) (wU T XE Bu):=by
 rintro e s F H x y v u Q I z B ⟨E,a,b,st,g,C,D,c⟩;cases b<;>try (cases a<;>exact c.elim)
 rename_i i;have c:Out T XE (rV T) E H (need (toD 20 st a) λh=>need (ë st i) λxs=>need (xs.mapM (toD 20 st)) λf=>if xs.all T5=true/\aX f<=20 then .ok (.bl (f.any λd=>cj d h)) st else .bad) Q:=by cases a<;>exact c
 obtain⟨h,m,c⟩:=c.ô;obtain⟨xs,n,c⟩:=c.ô;obtain⟨f,o,c⟩:=c.ô;obtain⟨⟨q,r⟩,c⟩:=c.Ś;obtain⟨p,G,rfl,_,t,k⟩:=g.dg (ü n) D;obtain⟨l,rfl,_,_⟩:=nQ (λv w=>Md (ú.mp q v w)) k;refine Q0 hu e s F H _ _ v u Q I z B ⟨p,l,f,h,λ_=>False,λ_=>False,rfl,t,?_,?_,r,c.ĸ g dh⟩
 ·exact j▸qP (λv d x=>mq g 20 v d x) o k
 ·exact j▸mq g 20 _ _ _ m C
def vE (d:Ev)(r:gh):Ev:=λa s=>(d a s).bind λb g=>(zu r a g).bind λc f=>match b with
 |.ref i=>need (Fz f i) λe=>need (qx c) λk=>need (ņ e k) λv=>.ok v f
 |_=>.bad
def IJ (hu:X.A.units+1<cLine)(j:PE X o (tE T XE m)) (J:PA X E (tP T XE r)):PE X (.Subscript o (.Tuple E kk tp) pos) (tE T XE (vE m r)):=
 PE.imp (ED hu j (CU J) (λ_ _=>rfl)) λσ H Q zz=>ň zz λρ C s N I j=>step N I j λb s1 N5 H1 x _ u1 n h e l=>step n h l λc s2 g B y _ Z f D q d=>by
  have e:VR T g B b x:=VR.up Z e;obtain⟨p,xs,rfl,M,vx⟩:=(show ∃p xs,y=.ref p/\B p=À (.tup xs)/\Ĥ T g B c xs from q)
  cases b with
  |ref i=>
   obtain⟨O,u,d⟩:=d.ô;obtain⟨k,w,d⟩:=d.ô;obtain⟨v,z,d⟩:=d.ô;obtain⟨a,ks,rfl,ea,G,U,Y⟩:=f.Hw (n9 u) e;obtain⟨x',F,P⟩:=(d_ k U Y).1 v z;have L:B p=À (.tup (k.map kV)):=by rw[<-oi w vx];exact M
   exact⟨a,x',rfl,F▸jh.t G L,d.ĸ f P⟩
  |_=>exact d.elim
noncomputable def xk:AV->Str×Int
 |.tup (.str x::.int i::_)=>(x,i)
 |_=>(⟨#[]⟩,0)
def Wg:AV->Bool
 |.tup (.str _::.int _::_)=>true
 |_=>false
def OC (a b:AV):Bool:=vz (xk a) (xk b)
def ry (m:Ev):gh:=λa s=>(m a s).bind λv b=>match v with
 |.ref k=>need (ë b k) λl=>if l.all Wg=true/\(l.map xk).Nodup/\l.length<64 then .ok (l.mergeSort OC) b else .bad
 |_=>.bad
def Mc (h:Wg v=true):∃y d r,v=.tup (.str y::.int d::r):=by
 unfold Wg at h;split at h
 ·exact⟨_,_,_,rfl⟩
 ·cases h
def Gb {l:Á AV}{p:Á Nat}(pr:p.Perm (ø l.length)):(pick l p).Perm l:=by
 have a:(ø l.length).map (λi=>l.getD i .Ğ)=l:=by
  apply eZ
  ·simp
  ·intro i c b;simp[b]
 have:=pr.map λi=>l.getD i .Ğ;rw[a]at this;exact this
def RV {l:Á AV}{p:Á Nat}(nd:(l.map xk).Nodup) (pr:p.Perm (ø l.length)) (h:p.Pairwise λi j=>vz ((l.map xk).getD i (⟨#[]⟩,0)) ((l.map xk).getD j (⟨#[]⟩,0))=true):pick l p=l.mergeSort OC:=by
 have m:=Gb pr;refine(m.trans (fv l OC).symm).eq_of_pairwise (le:=λa b=>OC a b=true) (λa b f g n o=>?_) ?_ (f' (le:=OC) (λa b c h k=>rY h k) (λa b=>rX _ _) l)
 ·have f:=m.mem_iff.mp f;have g:=(fv l OC).mem_iff.mp g;obtain⟨i,d,rfl⟩:=ĩ f;obtain⟨j,e,rfl⟩:=ĩ g;have:xk l[i]=xk l[j]:=Bf n o;have:i=j:=(bw (xs:=l.map xk) (h₀:=by simpa using d) (h₁:=by simpa using e) nd).mp (by simpa using this);subst this;rfl
 ·refine dJ.mpr (h.imp_of_mem λ{i j} d e h=>?_);have d:i<l.length:=by simpa using pr.mem_iff.mp d
  have e:j<l.length:=by simpa using pr.mem_iff.mp e
  unfold OC;simp[d,e]at h⊢;exact h
def IW (hK:X.K=T.K)(hm:X.mg "sorted"=none)(h:PE X e (tE T XE m)) (o:X.calm=true:=by rfl)(hg:Gl X "sorted":=by rfl)(n:Ï [e] X.env=(false,Ė e X.env)::Ï [] X.env:=by rfl) (u:(Ģ pos (Ï [] X.env)).any (·.1)=false:=by rfl) :
  PE X (.Call (.Name "sorted" p) [e] [] pos) (tL T XE (ry m)):=
 PE.imp (cZ (Cy o) hg hm ŧ (aR h eJ n) (by decide) (by decide) n u) λσ H Q zz=>ň zz λρ O s hs n ho=>step hs n ho λv s1 N5 H1 x _ u1 f P C c=>by
  cases v with
  |ref k=>
   obtain⟨l,N,c⟩:=c.ô;obtain⟨⟨L,D,M⟩,c⟩:=c.Ś;obtain⟨a,vs,rfl,_,h1,I⟩:=f.dg (ü N) C;have hd:∀v∈l,∃y d r,v=.tup (.str y::.int d::r):=λv A=>Mc (ú.mp L v A);obtain⟨J,rfl,g,w⟩:=nQ (λv A=>let ⟨y,d,r,z⟩:=hd v A;⟨_,z⟩) I;refine⟨a,J,l.map xk,rfl,h1,by rw[Ê,g],λj b d F G=>?_,D,by rw[g];exact M,λp l' pr B t=>?_⟩
   ·have q:j<l.length:=by rw[<-g];exact(Ç.mp F).1
    obtain⟨y,d',r,z⟩:=hd l[j] (e8 q);obtain⟨ws,E,U⟩:=w j b _ F (by rw[Å q,z]);obtain⟨y',ys,rfl,f5,Y⟩:=U.cons_inv;obtain⟨z',zs,rfl,Z,_⟩:=Y.cons_inv;rw[Z.int_inv,f5.str_inv]at E;rw[é,Å q,z]at G;cases G;exact⟨zs,by rw[hK];exact E⟩
   ·rw[<-RV D (by rw[<-g];exact pr) B]at c;exact c.lst f t (Ĥ.pick I λi hi=>by simpa using pr.mem_iff.mp hi)
  |_=>exact c.elim
end
end Mm
namespace L2
open PySem PySem.Spec PyProof.Rows
def Vr (i j k:Nat)(b:TA):TS:=λD a H=>b a H λc A=>∃v w z,c=[v,w,z]/\D.nx (((a.set i (À v)).set j (À w)).set k (À z)) A
def Nu (hc:X.calm=true)(r:X.N.Nodup)(hi:X.N[i]?=À x)(hj:X.N[j]?=À y)(hk:X.N[k]?=À z)(t:i≠j)(u:i≠k)(B:j≠k)
  (O:X.env.scope.names.lookup x=À .local) (P:X.env.scope.names.lookup y=À .local) (hz:X.env.scope.names.lookup z=À .local) (ha:PA X [a,b,c] ta)
  (hw:jX [.Tuple [.Name x T,.Name y U,.Name z Y] Q pt] (.Tuple [a,b,c] k2 n) X.env=pure (À [x,y,z]))
  (hs:jY [.Tuple [.Name x T,.Name y U,.Name z Y] Q pt] (.Tuple [a,b,c] k2 n) pos.line X.env=pure false) :
  PS X (.Assign [.Tuple [.Name x T,.Name y U,.Name z Y] Q pt] (.Tuple [a,b,c] k2 n) pos) (Vr i j k ta):=by
 intro d s Z H D I h;rw[Zh];refine Â (eO ?_);rw[hs];refine Â (Ì ?_);rw[Ñ (by decide)];refine Â (Tuple_ (aq (ha _ d s Z H _ I h) λus f zz=>iR zz λvs L I1 r1 G=>?_));obtain⟨v,w,q,e1,G⟩:=G;subst e1;obtain⟨g,l,m,rfl,rv,J,rz⟩:∃g l m,us=[g,l,m]/\RelV v g/\RelV w l/\RelV q m:=by
  cases r1 with
  |cons p q=>
   cases q with
   |cons p' q'=>
    cases q' with
    |cons E F=>
     cases F;exact⟨_,_,_,rfl,p,p',E⟩
 refine Š ?_ (by show 3<=sizeLine;decide);have I2:Inv X d Z L {f with heap:=f.heap.push {cls:=.type "tuple",data:=.seq [g,l,m].toArray}}:=I1.kept (t':=f.toks) λb o e=>Ä _ e;rw[hw];refine Â (Ì ?_);show Ü (à X.prog X.w) X.A (do rule "assign.swapped-stores";let items <-unpackItems (.ref f.heap.objs.size) 3 none;oF [λv=>gA X.env z v,λv=>gA X.env y v,λv=>gA X.env x v] items.reverse;pure Cc) _ _ _;refine Â (b9 (Â (VP (items:=#[g,l,m]) (I.ok.hd hc) (uR f.heap _) λh' C=>?_)));have I3:=I2.kept (h':=h') (t':=f.toks) λb o e=>C b o (ò (Ó e)) e;show Ü _ _ (oF [λv=>gA X.env z v,λv=>gA X.env y v,λv=>gA X.env x v] [m,l,g] >>= λ_=>pure Cc) _ _ _;refine Â (dR (mN (fX I3 r hk (.inl hz) rz (λs2 I4=>?_) (.inr hz))));refine dR (mN (fX I4 r hj (.inl P) J (λs3 I5=>?_) (.inr P)));refine dR (mN (fX I5 r hi (.inl O) rv (λs4 M=>yC (Ì ?_)) (.inr O)));rw[ra _ _ (Ō t),ra _ _ (Ō u),ra _ _ (Ō B)]at M;exact⟨_,L,M,G⟩
end L2
namespace Mm
open PySem L2
section
variable {T:Tx}{XE:iQ}{X:Cx}{pos:kU}
def yn (i j k:Nat)(r:gh):Ms:=λa s=>(r a s).bj λc b=>match c with
 |[v,w,z]=>.nx (((a.set i (À v)).set j (À w)).set k (À z)) b
 |_=>.bad
def MQ (I:X.calm=true)(F:X.N.Nodup)(G:PA X [a,b,c] (tP T XE r)) (L:X.N[i]?=À x:=by rfl)(M:X.N[j]?=À y:=by rfl)(O:X.N[k]?=À z:=by rfl)(l:i≠j:=by decide)(m:i≠k:=by decide)(n:j≠k:=by decide)
  (Q:X.env.scope.names.lookup x=À .local:=by rfl) (U:X.env.scope.names.lookup y=À .local:=by rfl) (hz:X.env.scope.names.lookup z=À .local:=by rfl)
  (hw:jX [.Tuple [.Name x t,.Name y u,.Name z B] q pt] (.Tuple [a,b,c] k2 f) X.env=pure (À [x,y,z]):=by rfl)
  (o:jY [.Tuple [.Name x t,.Name y u,.Name z B] q pt] (.Tuple [a,b,c] k2 f) pos.line X.env=pure false:=by rfl) :
  PS X (.Assign [.Tuple [.Name x t,.Name y u,.Name z B] q pt] (.Tuple [a,b,c] k2 f) pos) (tS T XE (yn i j k r)):=
 PS.imp (Nu I F L M O l m n Q U hz G hw o) λD σ H zz=>lD zz λρ E s o J P=>dz o J P λv s1 g A x _ u1 p h e d=>by
  have e:Ĥ T g A v x:=e
  match v,e,d with
  |[v,w,z],e,d=>
   obtain⟨x1,C,rfl,Y,k2⟩:=e.cons_inv;obtain⟨x2,C,rfl,k4,Z⟩:=k2.cons_inv;obtain⟨x3,C,rfl,k6,k5⟩:=Z.cons_inv;cases k5.nil_inv;exact⟨x1,x2,x3,rfl,d g A _ .refl p (((h.set Y).set k4).set k6)⟩
  |[],_,d=>exact d.elim
  |[_],_,d=>exact d.elim
  |[_,_],_,d=>exact d.elim
  |_::_::_::_::_,_,d=>exact d.elim
end
end Mm
namespace L2
open PySem PySem.Spec PyProof.Rows
section
variable {prog:Č}{w:Ī}{A:Œ}{E:Value->Ú->Prop}{s:Ú}
end
end L2
namespace Mm
open PySem L2
section
variable {T:Tx}{XE:iQ}{X:Cx}{pos:kU}
def kindOf:AV->Bool
 |.tup _=>true
 |_=>false
end
end Mm
namespace L2
open PySem PySem.Spec PyProof.Rows
end L2
namespace Mm
open PySem L2
section
variable {T:Tx}{XE:iQ}{X:Cx}{pos:kU}
def XW:AV->Á AV->S->R AV
 |.str a,[.ref i],s=>need (ë s i) λxs=>need (zQ xs) λb=>if OY (b.toArray.foldl (·+·.length+a.length) 0)=false then .ok (.str (Txt.join a b)) s else .bad
 |_,_,_=>.bad
def ZN (m k:Ev):Ev:=λa s=>(m a s).bind λv c=>(k a c).bind λw b=>match v,w with
 |.ref i,.int (.negSucc 0)=>need (ë b i) λxs=>.ok (.ref b.length) (b++[.lst xs.reverse])
 |_,_=>.bad
def sC:AV->AV->S->R AV
 |.ref i,.int k,s=>need (ë s i) λxs=>if (-1000<=k/\k<=1000)/\xs.length<=1000 then .ok (.ref s.length) (s++[.lst (Ö k.toNat xs).flatten])else .bad
 |_,_,_=>.bad
theorem Ĥ.rep (h:Ĥ T ρ H l xs):∀n:Nat,Ĥ T ρ H (Ö n l).flatten (Ö n xs).flatten
 |0=>by simp;exact .nil
 |n+1=>by rw[ar,dH,ar,dH];exact h.append (Ĥ.rep h n)
def UL:jj X (a' .Mult) (wU T XE sC):=by
 rintro d s o H x y v u Q I j l ⟨z,a,b,st,g,m,n,c⟩;cases a<;>cases b<;>try exact c.elim
 obtain⟨xs,e,c⟩:=c.ô;obtain⟨⟨⟨r,t⟩,w⟩,c⟩:=c.Ś;obtain⟨p,h,rfl,_,i,k⟩:=g.dg (ü e) m;cases n.int_inv;have hl:=k.length;refine Q4 d s o H _ _ v u Q I j l ⟨p,_,h,rfl,rfl,i,by lia,by lia,?_,λq f=>c.alloc g f (OR.lst ă (Ĥ.gr ((g.dA f).add f).toGr (Ĥ.rep k _)))⟩;refine đ (Nat.mul_le_mul (show h.length<=1000 by lia) (show _<=1000 by lia)) ?_;rw[ĉ];decide
end
end Mm
namespace L2
open PySem PySem.Spec PyProof.Rows
abbrev oJ:KeyOrd:=Uj oI oI
def RE (K:É):Á V->Hp->VK->Prop:=λxs H Q=>∃(l:Addr) (b:Á Addr) (c:Á Int),xs=[.ref l]/\H l=À (.lst (b.map V.ref))/\c.length=b.length/\(∀(j:Nat) (a:Addr) (d:Int),b[j]?=À a->c[j]?=À d->∃r,gq K H a (.int d::.int j::r))/\b.length<64/\
 ∀e:Addr,H e=none->Q (.ref e) (upd H e (.lst ((Mm.zo c).map λi=>V.ref (b.getD i 0))))
def Cw {X:Cx}(hc:X.calm=true):bz X (.builtin "sorted") (RE X.K):=by
 rintro c s σ H xs us Q I rv ⟨l,as,ds,rfl,hH,hl,ht,L,q⟩;refine xM c s σ H _ us Q I rv ⟨l,as,oJ,tuples' true,λi=>((ds.getD i 0,(i:Int)):Int×Int),rfl,hH,L,λc σ Z I1=>?_,?_⟩
 ·have d:∀j a,as[j]?=À a->∃t u r o n,Z.heap.get? a=À o/\o.cls=.type "tuple"/\o.data=.seq (.int (ds.getD j 0) t::.int j u::r).toArray n:=λj a B=>by
   have Y:j<ds.length:=by rw[hl];exact(Ç.mp B).1
   obtain⟨r,e⟩:=ht j a ds[j] B (Å Y);obtain⟨its,f,⟨o,x,g,n,e4⟩,_⟩:=I1.tuple e;cases f with
   |cons e5 E=>
    cases E with
    |cons E e7=>
     obtain⟨t,rfl⟩:=e5;obtain⟨u,rfl⟩:=E;exact⟨t,u,_,o,n,x,g,by rw[e4,ä,Å Y];rfl⟩
  refine⟨?_,?_⟩
  ·intro A J h2 D Q' hq;obtain⟨fs,k1,k2,k3⟩:=uI (h:=J) (P:=λv=>∃i t,v=.int i t) (as:=as) λj a B=>by
    obtain⟨t,u,r,o,n,f,x,g⟩:=d j a B;exact⟨_,o,_,n,D _ _ f,x,g,_,t,rfl⟩
   refine tX (T:=.type "int") k1 (by rw[k3];lia) (λv hv=>?_) (by decide) ?_
   ·obtain⟨i,t,rfl⟩:=k2 v hv;exact wN rfl
   ·have e:(cq "int" != cq "tuple")=true:=by decide
    rw[e];exact hq
  ·intro J D i j a b C U F hC;obtain⟨t,u,r,o,n,f,x,g⟩:=d i a U;obtain⟨t',u',r',o',n',G,f2,m⟩:=d j b F;refine wY (D _ _ f) g (D _ _ G) m ?_;by_cases M:i=j
   ·subst M;rw[U]at F;cases F;rw[f]at G;cases G;rw[g]at m;injection m with m _
    rw[<-m,â (ŋ _)];refine nF ?_ _ _;rw[show oJ.blt _ _=false from oJ.irrefl ((ds.getD i 0,(i:Int)):Int×Int)]at hC;exact hC
   ·have hC:C (decide (ds.getD i 0<ds.getD j 0)||(!decide (ds.getD j 0<ds.getD i 0)&&decide ((i:Int)<j))) {Z with heap:=J}:=hC;refine cz ((i7 X.prog X.w).eqBool (a:=ds.getD i 0) (b:=ds.getD j 0) (by simp[i7,c_]) (by simp[i7,c_]) ?_);by_cases hd:ds.getD i 0=ds.getD j 0
    ·rw[hd,â (Int.lt_irrefl _),iW,gS,BS]at hC;rw[î hd];refine i0 (cz ((i7 X.prog X.w).eqBool (a:=(i:Int)) (b:=(j:Int)) (by simp[i7,c_]) (by simp[i7,c_]) ?_));rw[show decide ((i:Int)=j)=false from â (by lia)];exact jQ (uW _ _ (wX hC))
    ·rw[â hd];rw[show(decide (ds.getD i 0<ds.getD j 0)||(!decide (ds.getD j 0<ds.getD i 0)&&decide ((i:Int)<j)))=decide (ds.getD i 0<ds.getD j 0) by
      by_cases y:ds.getD i 0<ds.getD j 0
      ·rw[î y,DD]
      ·rw[â y,î (by lia:ds.getD j 0<ds.getD i 0)];rfl]at hC
     exact jQ (PySem.W.kat_lt_int hC)
 ·intro p l' pr O N;have z:=q l' N;rw[<-Mm.A8 (ds:=ds) (by rw[hl];exact pr) (O.imp λ{i j} h=>by
   rcases h with h|⟨h,k⟩
   ·have h:(decide (ds.getD i 0<ds.getD j 0)||(!decide (ds.getD j 0<ds.getD i 0)&&decide ((i:Int)<j)))=true:=h;simp only[fE,ċ,dF,Ń,K_]at h;rcases h with h|⟨h,k⟩
    ·exact .inl (î h)
    ·by_cases y:ds.getD i 0<ds.getD j 0
     ·exact .inl (î y)
     ·exact .inr ⟨by lia,by lia⟩
   ·exact .inr ⟨Ĳ (λz:Int×Int=>z.1) h,k⟩)]at z
  exact z
end L2
namespace Mm
open PySem L2
noncomputable def FN:Nat->Á AV->Bool
 |_,[]=>true
 |k,.tup (.int _::.int j::_)::r=>decide (j=k)&&FN (k+1) r
 |_,_=>false
theorem Ee:∀{l:Á AV}{k j:Nat}{v:AV},FN k l=true->l[j]?=À v->∃r,v=.tup (.int (Hz v)::.int (k+j:Nat)::r)
 |[],_,_,_,_,e=>by simp at e
 |w::l,k,j,v,h,e=>by
  unfold FN at h;split at h
  ·rename_i a;cases a
  ·rename_i d i r b a;cases a;rw[ċ,Ń]at h;cases j with
   |zero=>simp at e;subst e;exact⟨r,by rw[h.1];rfl⟩
   |succ j=>
    obtain⟨r,e⟩:=Ee h.2 (by simpa using e);exact⟨r,by rw[Nat.add_assoc,WD 1]at e;exact e⟩
  ·cases h
def vn (m:gh):gh:=λa s=>(m a s).bind λl b=>if FN 0 l=true/\l.length<64 then .ok (pick l (zo (l.map Hz))) b else .bad
section
variable {T:Tx}{XE:iQ}{X:Cx}{pos:kU}
def IU (P:X.K=T.K)(Z:X.mg "sorted"=none)(h:PE X e (tL T XE m)) (o:X.calm=true:=by rfl)(U:Gl X "sorted":=by rfl)(n:Ï [e] X.env=(false,Ė e X.env)::Ï [] X.env:=by rfl) (t:(Ģ pos (Ï [] X.env)).any (·.1)=false:=by rfl) :
  PE X (.Call (.Name "sorted" p) [e] [] pos) (tL T XE (vn m)):=
 PE.imp (cZ (Cw o) U Z ŧ (aR h eJ n) (by decide) (by decide) n t) λσ H Q zz=>ň zz λρ G s hs n ho=>step hs n ho λl s1 N5 H1 x _ u1 w I y c=>by
  obtain⟨⟨E,F⟩,c⟩:=c.Ś;obtain⟨a,vs,rfl,_,_,O,k⟩:=y;have hd:∀(j:Nat) (v:AV),l[j]?=À v->∃r,v=.tup (.int (Hz v)::.int (j:Nat)::r):=λj v e=>by
   obtain⟨r,e⟩:=Ee E e;exact⟨r,by rw[uU]at e;exact e⟩
  obtain⟨D,rfl,g,u⟩:=nQ (λv hv=>by
   obtain⟨j,f,rfl⟩:=ĩ hv;obtain⟨r,e⟩:=hd j _ (Å f);exact⟨_,e⟩) k
  refine⟨a,D,l.map Hz,rfl,O,by rw[Ê,g],λj b d B C=>?_,by rw[g];exact F,λl' q=>?_⟩
  ·have f:j<l.length:=by rw[<-g];exact(Ç.mp B).1
   obtain⟨r,z⟩:=hd j _ (Å f);obtain⟨ws,A,J⟩:=u j b _ B (by rw[Å f,<-z]);obtain⟨y',ys,rfl,N,L⟩:=J.cons_inv;obtain⟨z',zs,rfl,M,_⟩:=L.cons_inv;rw[M.int_inv,N.int_inv]at A;rw[é,Å f]at C;cases C;exact⟨zs,by rw[P];exact A⟩
  ·exact c.lst w q (Ĥ.pick k λi Y=>by
    have:=(g7 _).mem_iff.mp Y;rw[g];simpa using this)
end
end Mm
namespace Ro
open PySem L2 Mm
noncomputable def ft:AV:=.str "coin"
def bN:AV:=.int 182
def rk:Ms:=
 (Ķ (Ĝ (nz 20 "by_days.<locals>.<lambda>" (mv 0))))
def aO:Á AV->S->R AV:=dq 1 rk
def lU:Ms:=
 (ā (BF (mv 0) (gT 6 (ï (gN 1) (ï (gN 2) (ï (gN 3) (ï (gN 4) (ï (gN 5) (ï (gN 6) aY))))))))
 (Ķ (IE (cB (Õ ag (mv 1) (mc (.str "sold")))) (mv 4) (az tF (mv 4)))))
def cL:Á AV->S->R AV:=dq 7 lU
def kB:Ms:=
 (ā (Ů 2 (mc (.int 0)))
 (ā (v7 (eV (mv 0)) (gN 3) (fD (cB (Õ ag (Õ ĝ (mv 3) (mc (.int 2))) (mv 1))) (ā (Gg 2 vR (ó 1 cL (Ã (mv 3) Ø)))
 (fD (cB (Õ C4 (mv 2) (mc (.int 0)))) (Ķ (mc (.bl true))) ı)) ı))
 (Ķ (mc (.bl false)))))
def aH:Á AV->S->R AV:=dq 4 kB
def hX:Ms:=
 (ā (jI 9 "keeps" (mv 0) CN)
 (ā (jI 9 "rows" (mv 0) CN)
 (ā (jI 9 "hands" (mv 0) FY)
 (ā (jI 9 "makers" (mv 0) CN)
 (ā (jI 9 "rates" (mv 0) FY)
 (ā (jI 9 "half" (mv 0) (mc bN))
 (ā (jI 9 "money" (mv 0) (Ĝ (ŷ Ø)))
    (jI 9 "debts" (mv 0) (Ĝ (ŷ Ø))))))))))
def ah:Á AV->S->R AV:=dq 1 hX
def fi:Ms:=
 (fD (cB (Õ pM (mv 1) (az (ş 9 "keeps") (mv 0)))) (BG 3 (Ã (g9 (aP (mc (.str "no person is called ")) (aP (az iV (mv 1)) nE))) Ø)) ı)
def ŭ:Á AV->S->R AV:=dq 2 fi
def dW:Ms:=
 (fD (cB (Õ pM (mv 1) (az (ş 9 "rows") (mv 0)))) (BG 3 (Ã (g9 (aP (mc (.str "no work is called ")) (aP (az iV (mv 1)) nE))) Ø)) ı)
def ī:Á AV->S->R AV:=dq 2 dW
def h8:Ms:=
 (Ķ (Wh (Õ mC (mv 1) (az (ş 9 "keeps") (mv 0))) (Õ mC (mv 1) (az (ş 9 "rows") (mv 0)))))
def bG:Á AV->S->R AV:=dq 2 h8
def gF:Ms:=
 (fD (cT (ļ 9 "has_name" 1 bG (mv 0) (Ã (mv 1) Ø))) (BG 2 (Ã (g9 (aP (mc (.str "a person or a work is called ")) (aP (az iV (mv 1)) (aP (mc (.str " already")) nE)))) Ø)) ı)
def ax:Á AV->S->R AV:=dq 2 gF
def fK:Ms:=
 (ā (Ŝ (ļ 9 "need_free" 1 ax (mv 0) (Ã (mv 1) Ø)))
    (mG (az (ş 9 "keeps") (mv 0)) (mv 1) (mc oh)))
def Ź:Á AV->S->R AV:=dq 2 fK
def hY:Ms:=
 (ā (Ŝ (ļ 9 "need_free" 1 ax (mv 0) (Ã (mv 1) Ø)))
    (mG (az (ş 9 "rows") (mv 0)) (mv 1) (cA Ø)))
def aU:Á AV->S->R AV:=dq 2 hY
def eF:Ms:=
 (Ķ (Ĝ (pB (az (ş 9 "keeps") (mv 0)))))
def ſ:Á AV->S->R AV:=dq 1 eF
def fM:Ms:=
 (Ķ (Ĝ (pB (az (ş 9 "rows") (mv 0)))))
def Ŗ:Á AV->S->R AV:=dq 1 fM
def jm:Ms:=
 (ā (Ŝ (ļ 9 "need_work" 1 ī (mv 0) (Ã (mv 1) Ø)))
 (Ķ (Õ ġ (az (ş 9 "rows") (mv 0)) (mv 1))))
def cw:Á AV->S->R AV:=dq 2 jm
def hZ:Ms:=
 (ā (Ŝ (ļ 9 "need_person" 1 ŭ (mv 0) (Ã (mv 1) Ø)))
 (Ķ (Ĝ (ak [("giver",none),("day",none),("name",none),("part",none),("person",À 1)] (xy (lY (az (ş 9 "hands") (mv 0)))) (gT 2 (ï (gT 2 (ï (gN 0) (ï (gN 1) aY))) (ï (gT 2 (ï (gN 2) (ï (gN 3) aY))) aY))) (cB (Õ ag (mv 0) (mv 4))) (cA (Ã (mv 1) (Ã (mv 2) (Ã (mv 3) Ø))))))))
def bF:Á AV->S->R AV:=dq 2 hZ
def h_:Ms:=
 (ā (Ŝ (ļ 9 "need_work" 1 ī (mv 0) (Ã (mv 1) Ø)))
 (Ķ (yd (az (ş 9 "makers") (mv 0)) (mv 1))))
def bH:Á AV->S->R AV:=dq 2 h_
def ie:Ms:=
 (ā (fD (cB (Õ ag (mv 1) (mc ft))) (BG 2 (Ã (mc (.str "a coin is worth a coin")) Ø)) ı)
 (ā (fD (cB (yc (Ã (mv 1) (Ã (mv 2) Ø)) (az (ş 9 "rates") (mv 0)))) (BG 2 (Ã (g9 (aP (az iV (mv 1)) (aP (mc (.str " has a worth of that day already")) nE))) Ø)) ı)
    (v5 (az (ş 9 "rates") (mv 0)) (Ã (mv 1) (Ã (mv 2) Ø)) (mv 3))))
def aW:Á AV->S->R AV:=dq 4 ie
def cV:Ms:=
 (ā (fD (cB (Õ ag (mv 1) (mc ft))) (Ķ (mc xX)) ı)
 (ā (Gh (az (ş 9 "rates") (mv 0)) (Ů 3 (Ĝ (ak [("told",none),("told_day",none),("currency",À 1),("day",À 2)] (BK (az (ş 9 "rates") (mv 0))) (gT 2 (ï (gN 0) (ï (gN 1) aY))) (m_ (cB (Õ ag (mv 0) (mv 2))) (cB (Õ sA (mv 1) (mv 3)))) (mv 1)))))
 (ā (fD (rm (cT (mv 3))) (BG 5 (Ã (g9 (aP (az iV (mv 1)) (aP (mc (.str " has no worth on that day")) nE))) Ø)) ı)
 (Ķ (vE (az (ş 9 "rates") (mv 0)) (Ã (mv 1) (Ã (qe BA (ue (mv 3))) Ø)))))))
def ģ:Á AV->S->R AV:=dq 4 cV
def gG:Ms:=
 (Ķ (Ĝ (ak [("worth",none),("currency",none),("day",none)] (xy (lY (az (ş 9 "rates") (mv 0)))) (gT 2 (ï (gT 2 (ï (gN 1) (ï (gN 2) aY))) (ï (gN 0) aY))) iu (cA (Ã (mv 1) (Ã (mv 2) (Ã (mv 0) Ø)))))))
def bg:Á AV->S->R AV:=dq 1 gG
def jl:Ms:=
 (ā (Ŝ (ļ 9 "need_person" 1 ŭ (mv 0) (Ã (mv 1) Ø)))
 (Ķ (Õ ġ (az (ş 9 "keeps") (mv 0)) (mv 1))))
def cu:Á AV->S->R AV:=dq 2 jl
def ic:Ms:=
  (jI 9 "half" (mv 0) (mv 1))
def aV:Á AV->S->R AV:=dq 2 ic
def gD:Ms:=
 (Ķ (az (ş 9 "half") (mv 0)))
def bf:Á AV->S->R AV:=dq 1 gD
def cU:Ms:=
 (ā (Ŝ (ļ 9 "need_work" 1 ī (mv 0) (Ã (mv 2) Ø)))
 (ā (Ŝ (ļ 9 "worth_of" 2 ģ (mv 0) (Ã (mv 5) (Ã (mv 1) Ø))))
 (Ŝ (jT "list" Ŏ (az (ş 9 "money") (mv 0)) (Ã (cA (Ã (mc (.str "sold")) (Ã (mv 1) (Ã (mv 2) (Ã (mv 3) (Ã (mv 4) (Ã (mv 5) Ø))))))) Ø)))))
def Ņ:Á AV->S->R AV:=dq 6 cU
def bE:Ms:=
 (ā (Ŝ (ļ 9 "need_work" 1 ī (mv 0) (Ã (mv 2) Ø)))
 (ā (Ŝ (ļ 9 "worth_of" 2 ģ (mv 0) (Ã (mv 5) (Ã (mv 1) Ø))))
 (ā (Ů 6 (cA (Ã (mc (.str "back")) (Ã (mv 1) (Ã (mv 2) (Ã (mv 3) (Ã (mv 4) (Ã (mv 5) Ø))))))))
 (ā (fD (cT (ze (ó 2 aH (Ã (Ĝ (fU (ó 1 aO (Ã (Õ Ł (az (ş 9 "money") (mv 0)) (Ĝ (ŷ (Ã (mv 6) Ø)))) Ø)))) (Ã (mv 2) Ø))))) (BG 6 (Ã (g9 (aP (mc (.str "more of ")) (aP (az iV (mv 2)) (aP (mc (.str " would be brought back than were left")) nE)))) Ø)) ı)
 (Ŝ (jT "list" Ŏ (az (ş 9 "money") (mv 0)) (Ã (mv 6) Ø)))))))
def Ĵ:Á AV->S->R AV:=dq 7 bE
def fL:Ms:=
 (Ķ (Ĝ (fU (ó 1 aO (Ã (az (ş 9 "money") (mv 0)) Ø)))))
def ŕ:Á AV->S->R AV:=dq 1 fL
def gC:Ms:=
 (Ķ (Ĝ (fU (ó 1 aO (Ã (az (ş 9 "debts") (mv 0)) Ø)))))
def bc:Á AV->S->R AV:=dq 1 gC
def il:Ms:=
 (Ķ (Ĝ (ak [("_law_day",none),("_law_k",none),("_law_some",À 0)] (xy (vn (ak [("_law_k",none),("_law_one",none)] (Gx (mv 0)) (gT 2 (ï (gN 0) (ï (gN 1) aY))) iu (cA (Ã (Õ ĝ (mv 1) (mc (.int 1))) (Ã (mv 0) Ø)))))) (gT 2 (ï (gN 0) (ï (gN 1) aY))) iu (Õ ĝ (mv 2) (mv 1)))))
def aj:Á AV->S->R AV:=dq 1 il
def lT:Ms:=
 (ā (Ů 3 (IE (cB (Õ ag (mv 1) (mc (.str "coin")))) (cA (Ã (mc (.int 1)) (Ã (mc (.int 1)) Ø))) (mc .Ğ)))
 (ā (v7 (xy (nz 21 "_law_worth.<locals>.<lambda>" (Õ ġ (mv 0) (mc (.str "rates"))))) (gT 3 (ï (gN 4) (ï (gN 5) (ï (gN 6) aY)))) (fD (m_ (cB (Õ ag (mv 4) (mv 1))) (cB (Õ sA (mv 5) (mv 2)))) (Ů 3 (mv 6)) ı))
 (Ķ (mv 3))))
def cK:Á AV->S->R AV:=dq 7 lT
def fO:Ms:=
 (ā (Ů 1 CN)
 (ā (v7 (xy (fU (ó 1 aj (Ã (mv 0) Ø)))) (gT 6 (ï (gN 2) (ï (gN 3) (ï (gN 4) (ï (gN 5) (ï (gN 6) (ï (gN 7) aY))))))) (ā (mG (mv 1) (mv 4) (Õ Ł (qD (mv 1) (mv 4) (mc (.int 0))) (IE (cB (Õ ag (mv 2) (mc (.str "sold")))) (mv 5) (az tF (mv 5)))))
 (fD (cB (Õ C4 (Õ ġ (mv 1) (mv 4)) (mc (.int 0)))) (Ķ (mc (.bl false))) ı)))
 (Ķ (mc (.bl true)))))
def ŗ:Á AV->S->R AV:=dq 8 fO
def iq:Ms:=
 (Ķ (Õ Ł (Ĝ (fU (ó 2 dY (Ã (mv 0) (Ã (mc (.int 7)) Ø))))) (Ĝ (ŷ (Ã (mc (.str "never")) Ø)))))
def bI:Á AV->S->R AV:=dq 1 iq
def rj:Ms:=
 (Ķ (Õ ĝ (mv 1) (ó 2 í (Ã (mv 0) (Ã (zr jH (Ã (mv 1) Ø)) Ø)))))
def bh:Á AV->S->R AV:=dq 2 rj
def jo:Ms:=
 (Ķ (B_ (Õ ĝ (Ĝ (ŷ (Ã (ó 2 í (Ã (mv 0) (Ã (mc (.int 4)) Ø))) (Ã (ó 2 í (Ã (mv 0) (Ã (mc (.int 40)) Ø))) (Ã (ó 2 í (Ã (mv 0) (Ã (mc (.int 10000)) Ø))) Ø))))) (ó 2 í (Ã (mv 0) (Ã (mc (.int 3)) Ø))))))
def ź:Á AV->S->R AV:=dq 1 jo
def gH:Ms:=
 (Ķ (ó 2 bU (Ã (Õ Ł (mc (.int 1)) (ó 2 í (Ã (mv 0) (Ã (mc (.int 1000)) Ø)))) (Ã (Õ Ł (mc (.int 1)) (ó 2 í (Ã (mv 0) (Ã (B_ (Õ ĝ (Ĝ (ŷ (Ã (mc (.int 3)) (Ã (mc (.int 1000)) Ø)))) (ó 2 í (Ã (mv 0) (Ã (mc (.int 2)) Ø))))) Ø)))) Ø))))
def ay:Á AV->S->R AV:=dq 1 gH
def sU:Ms:=
 (ā (yn 5 6 7 (Ã (ó 2 bh (Ã (mv 0) (Ã (mv 1) Ø))) (Ã (ó 2 bh (Ã (mv 0) (Ã (mv 1) Ø))) (Ã (ó 1 ź (Ã (mv 0) Ø)) Ø))))
 (ā (fD (cB (Õ ag (mv 2) (mc (.str "rate")))) (Ķ (cA (Ã (mv 2) (Ã (B_ (Õ ĝ (Ĝ (ŷ (Ã (mc (.str "coin")) (Ã (mc (.str "eur")) (Ã (mc (.str "usd")) (Ã (mc (.str "eur")) (Ã (mc (.str "usd")) Ø))))))) (ó 2 í (Ã (mv 0) (Ã (mc (.int 5)) Ø))))) (Ã (mv 7) (Ã (ó 1 ay (Ã (mv 0) Ø)) Ø)))))) ı)
 (ā (fD (cB (Õ ag (mv 2) (mc (.str "half")))) (Ķ (cA (Ã (mv 2) (Ã (B_ (Õ ĝ (Ĝ (ŷ (Ã (mc (.int 1)) (Ã (mc (.int 400)) (Ã (mc (.int 182)) (Ã (Õ Ł (mc (.int 1)) (ó 2 í (Ã (mv 0) (Ã (mc (.int 400)) Ø)))) Ø)))))) (ó 2 í (Ã (mv 0) (Ã (mc (.int 4)) Ø))))) Ø)))) ı)
 (ā (Ů 3 (Õ Ł (mc (.int 1)) (ó 2 í (Ã (mv 0) (Ã (B_ (Õ ĝ (Ĝ (ŷ (Ã (mc (.int 5)) (Ã (mc (.int 10)) (Ã (Õ tH (mc (.int 10)) (mc (.int 6))) Ø))))) (ó 2 í (Ã (mv 0) (Ã (mc (.int 3)) Ø))))) Ø)))))
 (ā (Ů 4 (Õ Ł (mc (.int 1)) (ó 2 í (Ã (mv 0) (Ã (B_ (Õ ĝ (Ĝ (ŷ (Ã (mc (.int 20)) (Ã (Õ tH (mc (.int 10)) (mc (.int 9))) Ø)))) (ó 2 í (Ã (mv 0) (Ã (mc (.int 2)) Ø))))) Ø)))))
 (Ķ (cA (Ã (mv 2) (Ã (mv 7) (Ã (mv 5) (Ã (mv 3) (Ã (mv 4) (Ã (B_ (Õ ĝ (Ĝ (ŷ (Ã (mc (.str "coin")) (Ã (mc (.str "coin")) (Ã (mc (.str "eur")) (Ã (mc (.str "usd")) (Ã (mc (.str "usd")) Ø))))))) (ó 2 í (Ã (mv 0) (Ã (mc (.int 5)) Ø))))) Ø)))))))))))))
def fy:Á AV->S->R AV:=dq 8 sU
def fx:Ms:=
 (ā (mr 2 3 (Ã (Õ ĝ (mv 1) (mc (.int 0))) (Ã (vG (mv 1) (oS (mc (.int 1))) oN) Ø)))
 (fD (cB (Õ ag (mv 2) (mc (.str "person")))) (Ŝ (ļ 9 "add_person" 1 Ź (mv 0) (Ã (Õ ĝ (mv 3) (mc (.int 0))) Ø))) (fD (cB (Õ ag (mv 2) (mc (.str "work")))) (Ŝ (ļ 9 "add_work" 1 aU (mv 0) (Ã (Õ ĝ (mv 3) (mc (.int 0))) Ø))) (fD (cB (Õ ag (mv 2) (mc (.str "rate")))) (Ŝ (ļ 9 "put_rate" 3 aW (mv 0) (Ã (Õ ĝ (mv 3) (mc (.int 0))) (Ã (Õ ĝ (mv 3) (mc (.int 1))) (Ã (Õ ĝ (mv 3) (mc (.int 2))) Ø))))) (fD (cB (Õ ag (mv 2) (mc (.str "sold")))) (Ŝ (ļ 9 "put_sold" 5 Ņ (mv 0) (Ã (Õ ĝ (mv 3) (mc (.int 0))) (Ã (Õ ĝ (mv 3) (mc (.int 1))) (Ã (Õ ĝ (mv 3) (mc (.int 2))) (Ã (Õ ĝ (mv 3) (mc (.int 3))) (Ã (Õ ĝ (mv 3) (mc (.int 4))) Ø))))))) (fD (cB (Õ ag (mv 2) (mc (.str "back")))) (Ŝ (ļ 9 "put_back" 5 Ĵ (mv 0) (Ã (Õ ĝ (mv 3) (mc (.int 0))) (Ã (Õ ĝ (mv 3) (mc (.int 1))) (Ã (Õ ĝ (mv 3) (mc (.int 2))) (Ã (Õ ĝ (mv 3) (mc (.int 3))) (Ã (Õ ĝ (mv 3) (mc (.int 4))) Ø))))))) (Ŝ (ļ 9 "put_half" 1 aV (mv 0) (Ã (Õ ĝ (mv 3) (mc (.int 0))) Ø)))))))))
def aa:Á AV->S->R AV:=dq 4 fx
def jr:Ms:=
 (ā (Ů 2 (mc .Ğ))
 (ā (v8 6 5 (λc=>decide (c<9)&&ö 0 c) (Ŝ (ó 2 aa (Ã (mv 0) (Ã (mv 1) Ø)))) (Ů 2 (mv 5)))
 (ā (fD (cB (Õ o7 (mv 2) (mc .Ğ))) (Ķ (mc (.str ""))) ı)
 (ā (Ů 3 (Ĝ (ŷ (Ã (az (bA (pq 2)) (mv 2)) (Ã (az (bA (pq 3)) (mv 2)) (Ã (az (bA (pq 4)) (mv 2)) Ø))))))
 (ā (Ů 3 (Õ Ł (mv 3) (Ĝ (ŷ (Ã (az (bA (pq 5)) (mv 2)) (Ã (az (bA (pq 6)) (mv 2)) Ø))))))
 (ā (Ů 4 (Ĝ (ak [("_law_k",none),("_law_told",À 3)] (zL (Ã (mc (.int 5)) Ø)) (gN 0) (cT (Õ ĝ (mv 1) (mv 0))) (ze (Õ ĝ (Ĝ (ŷ (Ã (mc (.str "taken")) (Ã (mc (.str "name")) (Ã (mc (.str "much")) (Ã (mc (.str "rate")) (Ã (mc (.str "left")) Ø))))))) (mv 0))))))
 (ā (fD (Hf (cB (Õ uo (zr jH (Ã (mv 4) Ø)) (mc (.int 1)))) (Hf (cT (az (bA (Fi [1,8,7])) (mv 2))) (rm (cT (az (bA Fj) (mv 2)))))) (Ķ (mc (.str "many"))) ı)
 (Ķ (Õ ĝ (mv 4) (mc (.int 0)))))))))))
def cx:Á AV->S->R AV:=dq 6 jr
def lS:Ms:=
 (ā (Ů 0 (gv [((mc (.str "people")),(Ĝ (ŷ Ø))),((mc (.str "works")),CN),((mc (.str "hands")),(Ĝ (ŷ Ø))),((mc (.str "known")),CN),((mc (.str "rates")),(Ĝ (ŷ Ø))),((mc (.str "keeps")),CN),((mc (.str "half")),(mc (.int 182)))]))
 (ā (BF (cA (Ã (Ĝ (ŷ Ø)) (Ã (Ĝ (ŷ Ø)) Ø))) (gT 2 (ï (vp (mv 0) (mc (.str "money"))) (ï (vp (mv 0) (mc (.str "debts"))) aY))))
 (Ķ (mv 0))))
def cJ:Á AV->S->R AV:=dq 1 lS
def bb:Ms:=
 (ā (fD (cB (Õ pM (Õ ĝ (mv 2) (mc (.int 1))) (Õ ġ (mv 0) (mc (.str "works"))))) (Ķ (mc (.str "name"))) ı)
 (ā (fD (cB (Õ o7 (ó 3 cK (Ã (mv 0) (Ã (Õ ĝ (mv 2) (mc (.int 4))) (Ã (Õ ĝ (mv 2) (mc (.int 0))) Ø)))) (mc .Ğ))) (Ķ (mc (.str "rate"))) ı)
 (ā (Ů 3 (Õ Ł (cA (Ã (mv 1) Ø)) (qe mj (vv (mv 2)))))
 (ā (fD (m_ (cB (Õ ag (mv 1) (mc (.str "back")))) (rm (cT (ze (ó 1 ŗ (Ã (Õ Ł (Õ ġ (mv 0) (mc (.str "money"))) (Ĝ (ŷ (Ã (mv 3) Ø)))) Ø)))))) (Ķ (mc (.str "left"))) ı)
 (ā (Ŝ (jT "list" Ŏ (Õ ġ (mv 0) (mc (.str "money"))) (Ã (mv 3) Ø)))
 (Ķ (mc (.str ""))))))))
def Ĭ:Á AV->S->R AV:=dq 4 bb
def fN:Ms:=
 (ā (fD (cB (Õ ag (mv 1) (mc (.str "rate")))) (ā (Ů 3 (Ĝ (ak [("_law_one",none)] (eV (Õ ġ (mv 0) (mc (.str "rates")))) (gN 0) iu (vG (mv 0) oN (oS (mc (.int 2)))))))
 (ā (fD (Hf (cB (Õ ag (Õ ĝ (mv 2) (mc (.int 0))) (mc (.str "coin")))) (cB (Õ Bu (cA (Ã (Õ ĝ (mv 2) (mc (.int 0))) (Ã (Õ ĝ (mv 2) (mc (.int 1))) Ø))) (mv 3)))) (Ķ (mc (.str "taken"))) ı)
 (Ŝ (jT "list" Ŏ (Õ ġ (mv 0) (mc (.str "rates"))) (Ã (qe mj (vv (mv 2))) Ø))))) ı)
 (Ķ (mc (.str ""))))
def Ż:Á AV->S->R AV:=dq 4 fN
def fj:Ms:=
 (ā (mr 2 3 (Ã (Õ ĝ (mv 1) (mc (.int 0))) (Ã (Ĝ (qe vW (vv (vG (mv 1) (oS (mc (.int 1))) oN)))) Ø)))
 (ā (mr 4 5 (Ã (Õ ġ (mv 0) (mc (.str "people"))) (Ã (Õ ġ (mv 0) (mc (.str "works"))) Ø)))
 (ā (fD (cB (Õ ag (mv 2) (mc (.str "half")))) (ā (mG (mv 0) (mc (.str "half")) (Õ ĝ (mv 3) (mc (.int 0))))
 (Ķ (mc (.str "")))) ı)
 (ā (fD (cB (Õ F7 (mv 2) (cA (Ã (mc (.str "person")) (Ã (mc (.str "work")) Ø))))) (ā (fD (cB (Õ ag (mv 2) (mc (.str "person")))) (Ŝ (jT "list" Ŏ (mv 4) (Ã (Õ ĝ (mv 3) (mc (.int 0))) Ø))) (mG (mv 5) (Õ ĝ (mv 3) (mc (.int 0))) (cA Ø)))
 (Ķ (mc (.str "")))) ı)
 (ā (fD (cB (Õ ag (mv 2) (mc (.str "rate")))) (Ķ (ó 3 Ż (Ã (mv 0) (Ã (mv 2) (Ã (mv 3) Ø))))) ı)
 (Ķ (ó 3 Ĭ (Ã (mv 0) (Ã (mv 2) (Ã (mv 3) Ø))))))))))
def Ĺ:Á AV->S->R AV:=dq 6 fj
def ij:Ms:=
 (ā (mr 2 3 (Ã (ļ 9 "work_names" 0 Ŗ (mv 0) Ø) (Ã (ļ 9 "person_names" 0 ſ (mv 0) Ø) Ø)))
 (ā (Ů 1 (Ĝ (ŷ (Ã (mv 3) (Ã (mv 2) (Ã (Ĝ (ak [("_law_work",none),("_law_book",À 0)] (eV (mv 2)) (gN 0) iu (ļ 9 "rows_of" 1 cw (mv 1) (Ã (mv 0) Ø)))) (Ã (Ĝ (ak [("_law_person",none),("_law_book",À 0)] (eV (mv 3)) (gN 0) iu (ļ 9 "hands_of" 1 bF (mv 1) (Ã (mv 0) Ø)))) Ø)))))))
 (ā (Ů 1 (Õ Ł (mv 1) (Ĝ (ŷ (Ã (Ĝ (ak [("_law_work",none),("_law_book",À 0)] (eV (mv 2)) (gN 0) iu (ļ 9 "known_of" 1 bH (mv 1) (Ã (mv 0) Ø)))) (Ã (Ĝ (ak [("_law_person",none),("_law_book",À 0)] (eV (mv 3)) (gN 0) iu (ļ 9 "keep_of" 1 cu (mv 1) (Ã (mv 0) Ø)))) Ø))))))
 (Ķ (Õ Ł (mv 1) (Ĝ (ŷ (Ã (ļ 9 "rate_list" 0 bg (mv 0) Ø) (Ã (ļ 9 "half_days" 0 bf (mv 0) Ø) (Ã (ļ 9 "money_list" 0 ŕ (mv 0) Ø) (Ã (ļ 9 "debt_list" 0 bc (mv 0) Ø) Ø)))))))))))
def ai:Á AV->S->R AV:=dq 4 ij
def jn:Ms:=
 (ā (mr 2 3 (Ã (Ĝ (pB (Õ ġ (mv 0) (mc (.str "works"))))) (Ã (Ĝ (vo (Õ ġ (mv 0) (mc (.str "people"))))) Ø)))
 (ā (Ů 1 (Ĝ (ŷ (Ã (mv 3) (Ã (mv 2) (Ã (Ĝ (ak [("_law_work",none),("_law_world_here",À 0)] (eV (mv 2)) (gN 0) iu (Õ ġ (Õ ġ (mv 1) (mc (.str "works"))) (mv 0)))) Ø))))))
 (ā (Ŝ (jT "list" Ŏ (mv 1) (Ã (Ĝ (ak [("_law_person",none),("_law_world_here",À 0)] (eV (mv 3)) (gN 0) iu (Ĝ (rF (ak [("_law_one",none),("_law_person",À 0)] (eV (Õ ġ (mv 1) (mc (.str "hands")))) (gN 0) (cB (Õ ag (Õ ĝ (mv 0) (mc (.int 0))) (mv 1))) (vG (mv 0) (oS (mc (.int 1))) oN)))))) Ø)))
 (ā (Ŝ (jT "list" Ŏ (mv 1) (Ã (Ĝ (ak [("_law_work",none),("_law_world_here",À 0)] (eV (mv 2)) (gN 0) iu (yd (Õ ġ (mv 1) (mc (.str "known"))) (mv 0)))) Ø)))
 (ā (Ŝ (jT "list" Ŏ (mv 1) (Ã (Ĝ (ak [("_law_person",none),("_law_world_here",À 0)] (eV (mv 3)) (gN 0) iu (qD (Õ ġ (mv 1) (mc (.str "keeps"))) (mv 0) (cA (Ã (mc (.int 0)) (Ã (mc (.int 1)) Ø)))))) Ø)))
 (ā (Ů 1 (Õ Ł (mv 1) (Ĝ (ŷ (Ã (Ĝ (ry (Õ ġ (mv 0) (mc (.str "rates"))))) (Ã (Õ ġ (mv 0) (mc (.str "half"))) Ø))))))
 (Ķ (Õ Ł (mv 1) (Ĝ (ŷ (Ã (Ĝ (fU (ó 1 aj (Ã (Õ ġ (mv 0) (mc (.str "money"))) Ø)))) (Ã (Ĝ (fU (ó 1 aj (Ã (Õ ġ (mv 0) (mc (.str "debts"))) Ø)))) Ø))))))))))))
def aK:Á AV->S->R AV:=dq 4 jn
def jq:Ms:=
 (ā (Ů 2 (gv [((mc (.str "hand")),(mc (.str "hands"))),((mc (.str "rate")),(mc (.str "rates"))),((mc (.str "debt")),(mc (.str "debts"))),((mc (.str "sold")),(mc (.str "money"))),((mc (.str "back")),(mc (.str "money")))]))
 (ā (Ů 3 (gv [((mc (.str "hand")),(mc (.int 30))),((mc (.str "rate")),(mc (.int 20))),((mc (.str "debt")),(mc (.int 20))),((mc (.str "sold")),(mc (.int 40))),((mc (.str "back")),(mc (.int 40)))]))
 (ā (fD (m_ (cB (Õ mC (mv 1) (mv 2))) (cB (Õ F6 (zr jH (Ã (Õ ġ (mv 0) (Õ ġ (mv 2) (mv 1))) Ø)) (Õ ġ (mv 3) (mv 1))))) (Ķ (mc (.str "half"))) ı)
 (Ķ (mv 1)))))
def bq:Á AV->S->R AV:=dq 4 jq
def kA:Ms:=
 (ā (v7 (zL (Ã (mv 5) Ø)) (gN 6) (ā (Ů 7 (ó 3 fy (Ã (mv 0) (Ã (mv 3) (Ã (ó 2 bq (Ã (mv 2) (Ã (Õ ĝ (mv 4) (ó 2 í (Ã (mv 0) (Ã (zr jH (Ã (mv 4) Ø)) Ø)))) Ø))) Ø)))))
 (ā (Ů 8 (ó 2 Ĺ (Ã (mv 2) (Ã (mv 7) Ø))))
 (ā (fD (rm (cT (ó 2 (Ę 9) (Ã (ó 2 cx (Ã (mv 1) (Ã (mv 7) Ø))) (Ã (mv 8) Ø))))) (Ķ (mc (.bl false))) ı)
 (fD (rm (cT (ze (ó 2 (Ę 9) (Ã (ó 1 ai (Ã (mv 1) Ø)) (Ã (ó 1 aK (Ã (mv 2) Ø)) Ø)))))) (Ķ (mc (.bl false))) ı)))))
 (Ķ (mc (.bl true))))
def aG:Á AV->S->R AV:=dq 9 kA
def lQ:Ms:=
 (ā (mr 3 4 (Ã (pH 9 ah) (Ã (ó 0 cJ Ø) Ø)))
 (ā (v7 (eV (vG (mv 1) oN (oS (mc (.int 7))))) (gN 2) (ā (Ů 5 (cA (Ã (B_ (Õ ĝ (Ĝ (ŷ (Ã (mc (.str "person")) (Ã (mc (.str "work")) Ø)))) (ó 2 í (Ã (mv 0) (Ã (mc (.int 2)) Ø))))) (Ã (mv 2) Ø))))
 (ā (Ŝ (ó 2 Ĺ (Ã (mv 4) (Ã (mv 5) Ø))))
 (Ŝ (ó 2 aa (Ã (mv 3) (Ã (mv 5) Ø)))))))
 (Ķ (cA (Ã (mv 3) (Ã (mv 4) Ø))))))
def cI:Á AV->S->R AV:=dq 6 lQ
def kz:Ms:=
 (v7 (eV (mv 0)) (gN 1) (ā (fD (cT (az (eh "list") (mv 1))) (ā (Ŝ (ye "list" lB (mv 1)))
 (Ŝ (jT "list" Ŏ (mv 1) (Ã (mc (.str "more")) Ø)))) ı)
 (fD (m_ (cT (az (eh "list") (mv 1))) (m_ (cB (Õ yi (Õ ĝ (mv 1) (mc (.int 0))) (mc (.str "more")))) (cT (az (eh "list") (Õ ĝ (mv 1) (mc (.int 0))))))) (Ŝ (jT "list" Ŏ (Õ ĝ (mv 1) (mc (.int 0))) (Ã (mc (.str "more")) Ø))) ı)))
def aF:Á AV->S->R AV:=dq 2 kz
def G':Ms:=
 (ā (Ů 1 (ó 1 dX (Ã (mv 0) Ø)))
 (ā (Ů 2 (Ĝ (fU (ó 1 bI (Ã (mv 1) Ø)))))
 (ā (BF (ó 2 cI (Ã (mv 1) (Ã (mv 2) Ø))) (gT 2 (ï (gN 6) (ï (gN 7) aY))))
 (ā (Ů 3 (Ĝ (ak [("_law_name",none),("_law_world_here",À 7)] (eV (mv 2)) (gN 0) (cB (Õ mC (mv 0) (Õ ġ (mv 1) (mc (.str "works"))))) (mv 0))))
 (ā (fD (rm (cT (B_ (ó 6 aG (Ã (mv 1) (Ã (mv 6) (Ã (mv 7) (Ã (mv 2) (Ã (Ĝ (ŷ (Ã (mc (.str "rate")) Ø))) (Ã (Õ Ł (mc (.int 2)) (ó 2 í (Ã (mv 1) (Ã (mc (.int 4)) Ø)))) Ø)))))))))) (Ķ (mc (.bl false))) ı)
 (ā (Ů 4 (Ĝ (ŷ (Ã (mc (.str "sold")) (Ã (mc (.str "sold")) (Ã (mc (.str "back")) (Ã (mc (.str "sold")) (Ã (mc (.str "back")) (Ã (mc (.str "rate")) (Ã (mc (.str "sold")) (Ã (mc (.str "back")) Ø)))))))))))
 (ā (v7 (zL (Ã (mc (.int 2)) Ø)) (gN 5) (ā (Ů 8 (vG (Õ Ł (Õ sC (vG (mv 3) oN (oS (Õ Ł (mc (.int 1)) (ó 2 í (Ã (mv 1) (Ã (mc (.int 3)) Ø)))))) (mc (.int 3))) (mv 2)) oN (oS (Õ Ł (mc (.int 8)) (ó 2 í (Ã (mv 1) (Ã (mc (.int 9)) Ø)))))))
 (fD (rm (cT (ó 6 aG (Ã (mv 1) (Ã (mv 6) (Ã (mv 7) (Ã (mv 8) (Ã (mv 4) (Ã (Õ Ł (mc (.int 10)) (ó 2 í (Ã (mv 1) (Ã (mc (.int 16)) Ø)))) Ø))))))))) (Ķ (mc (.bl false))) ı)))
 (ā (Ŝ (ze (ó 1 aF (Ã (Ĝ (ŷ (Ã (ļ 9 "money_list" 0 ŕ (mv 6) Ø) (Ã (ļ 9 "work_names" 0 Ŗ (mv 6) Ø) Ø)))) Ø))))
 (Ķ (ze (ó 2 (Ę 9) (Ã (ó 1 ai (Ã (mv 6) Ø)) (Ã (ó 1 aK (Ã (mv 7) Ø)) Ø)))))))))))))
def vk:Á AV->S->R AV:=dq 9 G'
def top (i:Nat):Stmt:=SK.main.body.getD i (.Pass ⟨0,0,0,0⟩)
set_option hygiene false in
local macro_rules |`(tactic|walk_at"a") => `(tactic|(show mg _=none; with_reducible assumption))
def xTm(p:Array Lean.Term)(s:String):Lean.Term:=
 let f a:=match List.reverse a with|[x]=>x|x::y=>Lean.Syntax.mkApp x y.toArray|_=>p[0]!
 f ((((s.replace "(" " ( ").replace ")" " ) ").splitOn " ").foldl (λs t=>match t,s with|"",_=>s|"(",_=>[]::s|")",a::b::r=>(f a::b)::r|")",_=>s|t,a::r=>((match t.toNat? with|some n=>p[n]!|_=>Lean.mkIdent t.toName)::a)::r|_,_=>s) [[]]).head!
set_option hygiene false in
local macro_rules|`(tactic|walk_at"q")=>do
 let p:=#[←`(_),←`(?_),←`((_::_)),←`(by decide),←`([]),←`((by with_reducible assumption:B9 T mg _ _)),←`((by with_reducible assumption:fh P w T mg base _ _ _ _)),←`(by first|with_reducible assumption|exact Sy),←`(by walk_at"a"),←`(by decide+kernel),←`((by with_reducible assumption:ji P w T mg base _ _ _ _ _)),←`((by with_reducible assumption:S0 P w T mg base _ _ _ _)),←`((by decide:2 <= 30)),←`(λ_ _ _ _=>?_),←`(λ_=>?_),←`((HZ "str" qN _ _)),←`((jT "list" Ŏ _ _)),←`((ye "list" lB _)),←`((ye "list" yj _)),←`((jT "list" yj _ _)),←`(by first |exact Ro.boot_int |exact Ro.boot_bool |exact Ro.boot_list |exact Ro.boot_tuple |exact Ro.boot_str),←`(by repeat (first|exact trivial|refine⟨⟨rfl,rfl,by first|exact .inl rfl|exact .inr rfl⟩,?_⟩)),←`(λ_ _ _ _ _=>?_),←`((by first|exact nd|(show List.Nodup (_::_);decide+kernel))),←`(by first|exact Jv|exact GN)]
 let g←(((((("~mv 0,XD(pv 0);PA 0 2(tK 0),Ez xs 3 1;PA 0 4(tK 0),EA;PA 0 2 0,Bv 1 1;EB;Qo;Qw;Qu;Um;~mc 0,Qs 5;~Õ Ł 0 0,r4(XN rfl)1 1;~Õ nO 0 0,r4 XP 1 1;~Õ sy 0 0,r4 UJ 1 1;~Õ kb 0 0,r4 oMod 1 1;~Õ tH 0 0,r4 XS 1 1;~ó 0 0 Ø,Qh 6(hr.mono 1)7;~ó 0 0 0,Ul 6(hr.mono 1)1 7;~az(bA Fj)0,Qq xs 8 8 1;~az(bA(pq 0))0,Qp xs 3 8 1;~az(bA(Fi 0))0,MB xs 3 3 8 1 1;~az(ş 0 0)0,Ql bk.cl(bk.na 0 9)1;~ļ 0 0 0 0 0 Ø,IP bk.cl 10(hr.mono 1)1 7;~ļ 0 0 0 0 0 0,ME bk.cl 10(hr.mono 1)1 1 7;~pH 0 0,IL 11(hr.mono 1)7;^jI 0 0 0 0,QH bk.cl(bk.na 0 9)1 1;~yd 0 0,My Aa 1 1;&vo 0,IY 8 1;&rF 0,IX 8 1;%Gx 0,MJ rfl 8 1;&lY 0,FZ 8(bJ(K5 12 0)hu)1;&vn 0,IU rfl 8 1;&nz 0 0 0,IV 8(dlt hr)rfl hC 1;!Õ Bu 0 0,gX(XO rfl hu)1 1;&ry 0,IW rfl 8 1;~qe BA(ue 0,OE(Ta rfl)8 9 1;~vE 0 0,IJ Aa 1 1;%BK 0,XF 1;^Gh 0 0,QM 1;~Õ yi 0 0,me(UM rfl hu)1 1;!Õ yi 0 0,gX(UM rfl hu)1 1;PG 0 0(tT 0 0(vp 0 0)),MG Aa 1 1;M3;^BG 0 0,UE xs 3 7 1;^v8 0 0 0 0 0,UG xs 3 nd 13 14;~Õ ĝ 0 0,Us(oIx rfl)1 1;~Õ ġ 0 0,Mw Aa 1 1;~cA 0,Qx 1;~Ĝ 0,Qt 1;&ŷ 0,QD 1;~Õ ag 0 0,me(oEq rfl hu)1 1;~Õ uo 0 0,me(XQ rfl hu)1 1;~Õ C4 0 0,me oLt 1 1;~Õ sA 0 0,me oLe 1 1;~Õ C3 0 0,me ZQ 1 1;~Õ F6 0 0,me ZP 1 1;~Õ o7 0 0,me UK 1 1;~Õ F7 0 0,me(ZR rfl)1 1;!Õ ag 0 0,gX(oEq rfl hu)1 1;!Õ uo 0 0,gX(XQ rfl hu)1 1;!Õ C4 0 0,gX oLt 1 1;!Õ sA 0 0,gX oLe 1 1;!Õ C3 0 0,gX ZQ 1 1;!Õ F6 0 0,gX ZP 1 1;!Õ o7 0 0,gX UK 1 1;!Õ F7 0 0,gX(ZR rfl)1 1;~Õ mC 0 0,Qk Aa 1 1;!Õ mC 0 0,Ry Aa 1 1;!Õ pM 0 0,Nz Aa 1 1;U5 1;NA 1;PW.pt(pw_and' 1 1);PW.pt(pw_or' 1 1);pw_and' 1 1;pw_or' 1 1;pw_and1' 1;pw_or1' 1;PT 0 0(kO 0 0(cT 0)),XX rfl 1;Qv 1;~az tF 0,Uv XR 1;Qi 1 1;Ut 1 1;~IE 0 0 0,Ur 1 1 1;Uo;IZ 1 1 1;MN;~vG 0 0 0,Uu rfl 1 1 1;JO;JP 1;Uq 1;Qn 1;MM 1;QE 1;~qD 0 0 0,Mz Aa 1 1 1;PE 0 0(tL 0 0 15),Qz rfl PySem.F.plainAttrs_str PySem.F.slot_str_split PySem.F.type_str_split Pn 1 1;PE 0 0(tE 0 0 16),IM rfl fB PySem.F.slot_list_append PySem.F.type_list_append LN 1 1;PE 0 0(tE 0 0 17),Et rfl fB PySem.F.slot_list_reverse PySem.F.type_list_reverse Hv 1;PE 0 0(tE 0 0 18),Et rfl fB BZ B2 Ti 1;PE 0 0(tE 0 0 19),IM rfl fB BZ B2 Ti 1 1;~zr jH 0,Qg(W_ rfl)8 PySem.boot_len 1;~zr yh 0,Qg cAbs 8 Ro.boot_abs 1;~zr nN 0,Qg LJ 8 Ro.boot_divmod 1;~qe Gf(ue 0,OE(S_ rfl)8 Ro.boot_all 1;~qe Gf 0,Uz(S_ rfl)8 Ro.boot_all 1;&qe vW 0,UA(S' rfl)8 Ro.boot_list 1;~qe mj 0,UA(Pg rfl)8 Ro.boot_tuple 1;&pB 0,IT 8 1;~az(eh 0)0,Qr rfl 3 8 8 20 1;~Õ sC 0 0,r4 UL 1 1;~az iV 0,Qm rfl 1;~g9 0,MD 1;PJ 0 2(tJ 0 0(aP 0 0)),MK 1 1;QC;&ak 0 0 0 0 0,ML 0(fw.of rfl 9 9 9 21)rfl 1 22 22 22;JM;JN 1;%zL(Ã 0 Ø,UB 8 1;%J9 0 0,QB rfl 8 1 1;%xy 0,XG rfl 1;%eV 0,XH rfl 1;PG 0 0(tT 0 0(gN 0)),MF 23;PG 0 0(tT 0 0(gT 0 0)),QA rfl rfl 1;PG 0 0(tT 0 0(nA 0 0)),MH 1 1;DJ 0 2 0,IQ 1 1;MI;M0;QU;M4;MZ 1 1;QV 1;^Ů 0(Ĝ(ak 0 0 0 0 0,CV 0(fw.of rfl 9 9 9 21)rfl nd 1 22 22 22;^Ů 0 0,Ja nd 1;^Ķ 0,QK 1;^fD 0 0 0,UD 1 1 1;^Ŝ 0,MP 1;^v7 0 0 0,QI 24 rfl 1 1 1;^mr 0 0 0,QJ rfl nd 1;^yn 0 0 0 0,MQ rfl nd 1;^BF 0 0,QF 1 1 1;^mG 0 0 0,MO Aa 1 1 1;^v5 0 0 0,I0 Aa 1 1 1;PE 0 0(tE 0 0 FY),Qj;!yc 0 0,Ny Aa 1 1;^Gg 0 vR 0,QG nd Xt 1;^NI 0 0 0,QN 0 24 1 1;m8 0 0(tS 0 0(ā 0 0)),Jb 1 1;m8 0 0(tS 0 0 ı),MS".replace "~" "PE 0 0(tE 0 0(").replace "^" "PS 0 0(tS 0 0(").replace "&" "PE 0 0(tL 0 0(").replace "!" "PT 0 0(kO 0 0(cB(").replace "%" "PI 0 0 0(tW 0 0(").splitOn ";").toArray.mapM λs=>match s.splitOn "," with
 |[x,y]=>`(Lean.Parser.Tactic.tacticSeq|(with_reducible show $(xTm p (x++"))))")));refine $(xTm p y))
 |_=>`(Lean.Parser.Tactic.tacticSeq|with_reducible refine $(xTm p s))
 `(tactic|(first|((with_reducible show(_:Nat)<=_);first|decide|lia)|((with_reducible show PE _ _ (tE _ _ (gv _)));(with_reducible refine Mx ?_ ?_ ?_ ?_ ?_);rotate_left;rfl;rfl;exact N8 _ _;decide)|((with_reducible show PS _ _ (tS _ _ (Ů _ (gv _))));(with_reducible refine MR ?_ ?_ ?_ ?_ ?_);exact nd;rotate_left;rfl;exact BY rfl;exact BY rfl)$[|$g]*|refine MT ?_)<;>walk_at"q")
local macro_rules |`(tactic|walk_at"b") => `(tactic|(intro _ _ _ _ _ _ us hl; first |(cases len0 hl; rfl) |(obtain ⟨_, e⟩ := Ub hl; subst e; rfl) |(obtain ⟨_, _, e⟩ := Uc hl; subst e; rfl) |(obtain ⟨_, _, _, e⟩ := Ud hl; subst e; rfl) |(obtain ⟨_, _, _, _, e⟩ := Ue hl; subst e; rfl) |(obtain ⟨_, _, _, _, _, e⟩ := Ug hl; subst e; rfl) |(obtain ⟨_, _, _, _, _, _, e⟩ := Uh hl; subst e; rfl) |(obtain ⟨_, _, _, _, _, _, _, e⟩ := Ui hl; subst e; rfl)))
set_option hygiene false in
local macro_rules |`(tactic|walk_at"g") => `(tactic|(intro hr nd ls; have Aa := Ot hr; have hu := TV hr; walk_at"q"))
section
variable (P:Č)(w:Ī){T:Tx}{mg:Str->Ð Value}(base:Heap)(xs:Xs T mg)(bk:Bk T 9 ["keeps","rows","hands","makers","rates","half","money","debts"])
variable (cO:mg "ValueError"=none)
variable (wB:mg "abs"=none)
variable (wC:mg "all"=none)
variable (pV:mg "bool"=none)
variable (jM:mg "divmod"=none)
variable (dB:mg "enumerate"=none)
variable (wD:mg "int"=none)
variable (ž:mg "isinstance"=none)
variable (fZ:mg "len"=none)
variable (gR:mg "list"=none)
variable (wF:mg "max"=none)
variable (ef:mg "range"=none)
variable (ū:mg "sorted"=none)
variable (wG:mg "str"=none)
variable (f6:mg "tuple"=none)
variable (wH:mg "zip"=none)
variable (ml:B9 T mg "COIN" ft)
variable (Ž:B9 T mg "FIRST_HALF_DAYS" bN)
variable (gQ:B9 T mg "NOTHING" oh)
variable (vX:B9 T mg "ONE" xX)
variable (gO:fh P w T mg base "by_days" 1 1 aO)
variable (l9:fh P w T mg base "units_more" 1 1 cL)
variable (kK:fh P w T mg base "lacks_units" 2 2 aH)
variable (iz:S0 P w T mg base 9 "Book" 1 ah)
variable (br:ji P w T mg base 9 "need_person" 1 1 ŭ)
variable (š:ji P w T mg base 9 "need_work" 1 1 ī)
variable (iC:ji P w T mg base 9 "has_name" 1 1 bG)
variable (cy:ji P w T mg base 9 "need_free" 1 2 ax)
variable (fR:ji P w T mg base 9 "add_person" 1 3 Ź)
variable (iA:ji P w T mg base 9 "add_work" 1 3 aU)
variable (eG:ji P w T mg base 9 "person_names" 0 1 ſ)
variable (bM:ji P w T mg base 9 "work_names" 0 1 Ŗ)
variable (jz:ji P w T mg base 9 "rows_of" 1 2 cw)
variable (iB:ji P w T mg base 9 "hands_of" 1 2 bF)
variable (iD:ji P w T mg base 9 "known_of" 1 2 bH)
variable (iH:ji P w T mg base 9 "put_rate" 3 1 aW)
variable (cW:ji P w T mg base 9 "worth_of" 2 1 ģ)
variable (gK:ji P w T mg base 9 "rate_list" 0 1 bg)
variable (jy:ji P w T mg base 9 "keep_of" 1 2 cu)
variable (iG:ji P w T mg base 9 "put_half" 1 1 aV)
variable (gJ:ji P w T mg base 9 "half_days" 0 1 bf)
variable (iI:ji P w T mg base 9 "put_sold" 5 2 Ņ)
variable (iF:ji P w T mg base 9 "put_back" 5 3 Ĵ)
variable (bL:ji P w T mg base 9 "money_list" 0 2 ŕ)
variable (gI:ji P w T mg base 9 "debt_list" 0 2 bc)
variable (lZ:fh P w T mg base "_law_begin" 1 1 dX)
variable (Ň:fh P w T mg base "_law_take" 2 1 í)
variable (g0:fh P w T mg base "_law_same" 2 10 (Ę 9))
variable (kH:fh P w T mg base "_law_lowest" 2 1 bU)
variable (l5:fh P w T mg base "_law_names" 2 2 dY)
variable (cY:fh P w T mg base "_law_in_order" 1 1 aj)
variable (l7:fh P w T mg base "_law_worth" 3 1 cK)
variable (fS:fh P w T mg base "_law_never_less" 1 2 ŗ)
variable (iJ:fh P w T mg base "_law_names_of" 1 3 bI)
variable (rG:fh P w T mg base "_law_of" 2 2 bh)
variable (jA:fh P w T mg base "_law_any_day" 1 2 ź)
variable (gL:fh P w T mg base "_law_any_worth" 1 2 ay)
variable (nB:fh P w T mg base "_law_deed" 3 3 fy)
variable (lj:fh P w T mg base "_law_do" 2 4 aa)
variable (jE:fh P w T mg base "_law_refusal" 2 5 cx)
variable (l6:fh P w T mg base "_law_world" 0 1 cJ)
variable (gM:fh P w T mg base "_law_due_money" 3 3 Ĭ)
variable (jC:fh P w T mg base "_law_due_way" 3 1 Ż)
variable (jB:fh P w T mg base "_law_due" 2 4 Ĺ)
variable (cX:fh P w T mg base "_law_all_told" 1 3 ai)
variable (dw:fh P w T mg base "_law_all_due" 1 2 aK)
variable (jD:fh P w T mg base "_law_kind_of" 2 1 bq)
variable (kJ:fh P w T mg base "_law_walked" 6 11 aG)
variable (l0:fh P w T mg base "_law_begun" 2 5 cI)
variable (kI:fh P w T mg base "_law_spoilt" 1 1 aF)
include xs bk ū in
theorem C2 (_:Sr T mg "by_days" (top 16) 20):fh P w T mg base "by_days" 1 1 aO:=by
 unfold aO rk;refine HS (k:=0) ["rows"] (by with_reducible assumption) (ŏ rfl rfl rfl rfl (by decide+kernel)) (by walk_at"b") rfl λ_ _ _ _ _ _ _ hC=>?_;walk_at"g"
local macro_rules|`(tactic|exists $f,$k,$n)=>`(tactic|(refine $f (k:=$k) $n (by with_reducible assumption) (ŏ rfl rfl rfl rfl (by decide+kernel)) (by walk_at"b") rfl λ_ _ _ _ _ _ _=>?_;walk_at"g"))
include xs bk in
theorem xu (_:Df T mg "units_more" (top 17)):fh P w T mg base "units_more" 1 1 cL:=by
 unfold cL lU;exists aL,0,["row","kind","day","work","count","amount","currency"]
include xs bk l9 in
theorem vQ (_:Df T mg "lacks_units" (top 18)):fh P w T mg base "lacks_units" 2 2 aH:=by
 unfold aH kB;exists aL,1,["rows","work","left","row"]
include xs bk Ž in
theorem r6 (_:VZ T mg 9 "Book" "Book.__init__" (inClass (top 19) 0)):S0 P w T mg base 9 "Book" 1 ah:=by
 unfold ah hX;exists PH,0,["self"]
include xs bk in
theorem oM (_:jZ T 9 "need_person" "Book.need_person" (inClass (top 19) 1)):ji P w T mg base 9 "need_person" 1 1 ŭ:=by
 unfold ŭ fi;exists bV,0,["self","name"]
include xs bk in
theorem qJ (_:jZ T 9 "need_work" "Book.need_work" (inClass (top 19) 2)):ji P w T mg base 9 "need_work" 1 1 ī:=by
 unfold ī dW;exists bV,0,["self","name"]
include xs bk in
theorem sf (_:jZ T 9 "has_name" "Book.has_name" (inClass (top 19) 3)):ji P w T mg base 9 "has_name" 1 1 bG:=by
 unfold bG h8;exists bV,0,["self","name"]
include xs bk iC in
theorem qI (_:jZ T 9 "need_free" "Book.need_free" (inClass (top 19) 4)):ji P w T mg base 9 "need_free" 1 2 ax:=by
 unfold ax gF;exists bV,1,["self","name"]
include xs bk gQ cy in
theorem pI (_:jZ T 9 "add_person" "Book.add_person" (inClass (top 19) 5)):ji P w T mg base 9 "add_person" 1 3 Ź:=by
 unfold Ź fK;exists bV,2,["self","name"]
include xs bk cy in
theorem r_ (_:jZ T 9 "add_work" "Book.add_work" (inClass (top 19) 6)):ji P w T mg base 9 "add_work" 1 3 aU:=by
 unfold aU hY;exists bV,2,["self","name"]
include xs bk ū in
theorem nM (_:jZ T 9 "person_names" "Book.person_names" (inClass (top 19) 7)):ji P w T mg base 9 "person_names" 0 1 ſ:=by
 unfold ſ eF;exists bV,0,["self"]
include xs bk ū in
theorem pK (_:jZ T 9 "work_names" "Book.work_names" (inClass (top 19) 8)):ji P w T mg base 9 "work_names" 0 1 Ŗ:=by
 unfold Ŗ fM;exists bV,0,["self"]
include xs bk š in
theorem ug (_:jZ T 9 "rows_of" "Book.rows_of" (inClass (top 19) 10)):ji P w T mg base 9 "rows_of" 1 2 cw:=by
 unfold cw jm;exists bV,1,["self","work"]
include xs bk ū br in
theorem se (_:jZ T 9 "hands_of" "Book.hands_of" (inClass (top 19) 12)):ji P w T mg base 9 "hands_of" 1 2 bF:=by
 unfold bF hZ;exists bV,1,["self","person"]
include xs bk š in
theorem sg (_:jZ T 9 "known_of" "Book.known_of" (inClass (top 19) 14)):ji P w T mg base 9 "known_of" 1 2 bH:=by
 unfold bH h_;exists bV,1,["self","work"]
include xs bk ml in
theorem sj (_:jZ T 9 "put_rate" "Book.put_rate" (inClass (top 19) 15)):ji P w T mg base 9 "put_rate" 3 1 aW:=by
 unfold aW ie;exists bV,0,["self","currency","day","worth"]
include xs bk wF ml vX in
theorem sm (_:jZ T 9 "worth_of" "Book.worth_of" (inClass (top 19) 16)):ji P w T mg base 9 "worth_of" 2 1 ģ:=by
 unfold ģ cV;exists bV,0,["self","currency","day","days"]
include xs bk ū in
theorem qK (_:jZ T 9 "rate_list" "Book.rate_list" (inClass (top 19) 17)):ji P w T mg base 9 "rate_list" 0 1 bg:=by
 unfold bg gG;exists bV,0,["self"]
include xs bk br in
theorem uf (_:jZ T 9 "keep_of" "Book.keep_of" (inClass (top 19) 19)):ji P w T mg base 9 "keep_of" 1 2 cu:=by
 unfold cu jl;exists bV,1,["self","person"]
include xs bk in
theorem si (_:jZ T 9 "put_half" "Book.put_half" (inClass (top 19) 20)):ji P w T mg base 9 "put_half" 1 1 aV:=by
 unfold aV ic;exists bV,0,["self","days"]
include xs bk in
theorem qH (_:jZ T 9 "half_days" "Book.half_days" (inClass (top 19) 21)):ji P w T mg base 9 "half_days" 0 1 bf:=by
 unfold bf gD;exists bV,0,["self"]
include xs bk š cW in
theorem sk (_:jZ T 9 "put_sold" "Book.put_sold" (inClass (top 19) 22)):ji P w T mg base 9 "put_sold" 5 2 Ņ:=by
 unfold Ņ cU;exists bV,1,["self","day","work","count","amount","currency"]
include xs bk gO kK š cW in
theorem sh (_:jZ T 9 "put_back" "Book.put_back" (inClass (top 19) 23)):ji P w T mg base 9 "put_back" 5 3 Ĵ:=by
 unfold Ĵ bE;exists bV,2,["self","day","work","count","amount","currency","row"]
include xs bk gO in
theorem pJ (_:jZ T 9 "money_list" "Book.money_list" (inClass (top 19) 24)):ji P w T mg base 9 "money_list" 0 2 ŕ:=by
 unfold ŕ fL;exists bV,1,["self"]
include xs bk gO in
theorem qG (_:jZ T 9 "debt_list" "Book.debt_list" (inClass (top 19) 26)):ji P w T mg base 9 "debt_list" 0 2 bc:=by
 unfold bc gC;exists bV,1,["self"]
include xs bk gR in
theorem xm (_:Df T mg "_law_begin" (top 21)):fh P w T mg base "_law_begin" 1 1 dX:=by
 unfold dX lP;exists aL,0,["_law_script","_law_cells"]
include xs bk jM fZ in
theorem zA (_:Df T mg "_law_take" (top 22)):fh P w T mg base "_law_take" 2 1 í:=by
 unfold í m9;exists aL,0,["_law_state","_law_many","_law_turn","_law_place","_law_cell","_law_mixed","_law_digit"]
include xs bk wC pV wD ž fZ gR wG f6 wH in
theorem zy (_:Df T mg "_law_same" (top 23)):∀n:Nat,fh P w T mg base "_law_same" 2 (n+1) (Ę n):=by
 intro n;induction n with
 |zero=>exact L4 ["_law_found","_law_due_here"] (by with_reducible assumption) rfl (by walk_at"b")
 |succ n a=>
  unfold Ę du;refine aL (k:=n+1) ["_law_found","_law_due_here"] (by with_reducible assumption) (ŏ rfl rfl rfl rfl (by decide+kernel)) (by walk_at"b") rfl λ_ _ _ _ _ _ _=>?_;walk_at"g"
include xs bk wB in
theorem vN (_:Df T mg "_law_lowest" (top 24)):fh P w T mg base "_law_lowest" 2 1 bU:=by
 unfold bU ky;exists aL,0,["_law_top","_law_below","_law_sign","_law_one","_law_other"]
include xs bk fZ ef Ň in
theorem xq (_:Df T mg "_law_names" (top 25)):fh P w T mg base "_law_names" 2 2 dY:=by
 unfold dY lR;exists aL,1,["_law_state","_law_many","_law_some"]
include xs bk dB ū in
theorem sv (_:Df T mg "_law_in_order" (top 26)):fh P w T mg base "_law_in_order" 1 1 aj:=by
 unfold aj il;exists aL,0,["_law_some"]
include xs bk ū in
theorem xt (_:Sr T mg "_law_worth" (top 27) 21):fh P w T mg base "_law_worth" 3 1 cK:=by
 unfold cK lT;refine HS (k:=0) ["_law_story","_law_currency","_law_day","_law_found","_law_name","_law_begin_here","_law_worth_here"] (by with_reducible assumption) (ŏ rfl rfl rfl rfl (by decide+kernel)) (by walk_at"b") rfl λ_ _ _ _ _ _ _ hC=>?_;walk_at"g"
include xs bk cY in
theorem pL (_:Df T mg "_law_never_less" (top 28)):fh P w T mg base "_law_never_less" 1 2 ŗ:=by
 unfold ŗ fO;exists aL,1,["_law_money","_law_sold","_law_kind","_law_day","_law_work","_law_count","_law_amount","_law_currency"]
include xs bk l5 in
theorem sx (_:Df T mg "_law_names_of" (top 29)):fh P w T mg base "_law_names_of" 1 3 bI:=by
 unfold bI iq;exists aL,2,["_law_state"]
include xs bk fZ Ň in
theorem C1 (_:Df T mg "_law_of" (top 30)):fh P w T mg base "_law_of" 2 2 bh:=by
 unfold bh rj;exists aL,1,["_law_state","_law_some"]
include xs bk Ň in
theorem ui (_:Df T mg "_law_any_day" (top 31)):fh P w T mg base "_law_any_day" 1 2 ź:=by
 unfold ź jo;exists aL,1,["_law_state"]
include xs bk Ň kH in
theorem qL (_:Df T mg "_law_any_worth" (top 32)):fh P w T mg base "_law_any_worth" 1 2 ay:=by
 unfold ay gH;exists aL,1,["_law_state"]
include xs bk Ň rG jA gL in
theorem zx (_:Df T mg "_law_deed" (top 33)):fh P w T mg base "_law_deed" 3 3 fy:=by
 unfold fy sU;exists aL,2,["_law_state","_law_names_here","_law_word","_law_count","_law_amount","_law_one","_law_other","_law_day"]
include xs bk fR iA iH iG iI iF in
theorem C0 (_:Df T mg "_law_do" (top 34)):fh P w T mg base "_law_do" 2 4 aa:=by
 unfold aa fx;exists aL,3,["_law_book","_law_deed_here","_law_word","_law_rest"]
include xs bk cO ž fZ ef lj in
theorem um (_:Df T mg "_law_refusal" (top 35)):fh P w T mg base "_law_refusal" 2 5 cx:=by
 unfold cx jr;exists aL,4,["_law_book","_law_deed_here","_law_caught","_law_told","_law_words","error"]
include xs bk in
theorem xr (_:Df T mg "_law_world" (top 36)):fh P w T mg base "_law_world" 0 1 cJ:=by
 unfold cJ lS;exists aL,0,["_law_found"]
include xs bk f6 l7 fS in
theorem qM (_:Df T mg "_law_due_money" (top 39)):fh P w T mg base "_law_due_money" 3 3 Ĭ:=by
 unfold Ĭ bb;exists aL,2,["_law_world_here","_law_word","_law_rest","_law_row"]
include xs bk f6 in
theorem uj (_:Df T mg "_law_due_way" (top 38)):fh P w T mg base "_law_due_way" 3 1 Ż:=by
 unfold Ż fN;exists aL,0,["_law_world_here","_law_word","_law_rest","_law_told"]
include xs bk gR gM jC in
theorem Bt (_:Df T mg "_law_due" (top 37)):fh P w T mg base "_law_due" 2 4 Ĺ:=by
 unfold Ĺ fj;exists aL,3,["_law_world_here","_law_deed_here","_law_word","_law_rest","_law_people","_law_works"]
include xs bk eG bM jz iB iD gK jy gJ bL gI in
theorem su (_:Df T mg "_law_all_told" (top 40)):fh P w T mg base "_law_all_told" 1 3 ai:=by
 unfold ai ij;exists aL,2,["_law_book","_law_found","_law_works","_law_people"]
include xs bk ū cY in
theorem uh (_:Df T mg "_law_all_due" (top 41)):fh P w T mg base "_law_all_due" 1 2 aK:=by
 unfold aK jn;exists aL,1,["_law_world_here","_law_found","_law_works","_law_people"]
include xs bk fZ in
theorem uk (_:Df T mg "_law_kind_of" (top 42)):fh P w T mg base "_law_kind_of" 2 1 bq:=by
 unfold bq jq;exists aL,0,["_law_world_here","_law_word","_law_some","_law_most"]
include xs bk fZ ef Ň g0 nB jE jB cX dw jD in
theorem vP (_:Df T mg "_law_walked" (top 43)):fh P w T mg base "_law_walked" 6 11 aG:=by
 unfold aG kA;exists aL,10,["_law_state","_law_book","_law_world_here","_law_names_here","_law_words","_law_many","_law_turn","_law_deed_here","_law_due_here"]
include xs bk iz Ň lj l6 jB in
theorem xo (_:Df T mg "_law_begun" (top 44)):fh P w T mg base "_law_begun" 2 5 cI:=by
 unfold cI lQ;exists aL,4,["_law_state","_law_names_here","_law_name","_law_book","_law_world_here","_law_deed_here"]
include xs bk ž gR in
theorem vO (_:Df T mg "_law_spoilt" (top 45)):fh P w T mg base "_law_spoilt" 1 1 aF:=by
 unfold aF kz;exists aL,0,["_law_found","_law_one"]
include xs bk ef bM bL lZ Ň g0 iJ cX dw kJ l0 kI in
theorem QT {f:Addr}{c:eB}(F:G4 T.K "law" "law" (top 46) f c):hU P w T.K mg base (ri P w) 12 f c ["_law_script"] (Ca T 1 vk):=by
 unfold vk G';have S:i_ ["_law_script","_law_state","_law_names_here","_law_some","_law_words","_law_turn","_law_book","_law_world_here","_law_few"] ["_law_script"] (ě (top 46)):=(ŏ rfl rfl rfl rfl (by decide+kernel))
 refine zc (k:=11) F S λb A a s H E hr=>?_;have nd:=S.nd;have ls:Ls T (mS (ri P w) P w T.K mg base ["_law_script","_law_state","_law_names_here","_law_some","_law_words","_law_turn","_law_book","_law_world_here","_law_few"] "law" (ě (top 46)) f b A a s H E) (oG T E):=Bj;have Aa:=Ot hr;have hu:=TV hr;walk_at"q"
end
def Ds (T:Tx)(mg:Str->Ð Value):Prop:=Df T mg "law" (top 46)/\Sr T mg "by_days" (top 16) 20/\Df T mg "units_more" (top 17)/\Df T mg "lacks_units" (top 18)/\VZ T mg 9 "Book" "Book.__init__" (inClass (top 19) 0)/\jZ T 9 "need_person" "Book.need_person" (inClass (top 19) 1)/\jZ T 9 "need_work" "Book.need_work" (inClass (top 19) 2)/\jZ T 9 "has_name" "Book.has_name" (inClass (top 19) 3)/\jZ T 9 "need_free" "Book.need_free" (inClass (top 19) 4)/\jZ T 9 "add_person" "Book.add_person" (inClass (top 19) 5)/\jZ T 9 "add_work" "Book.add_work" (inClass (top 19) 6)/\jZ T 9 "person_names" "Book.person_names" (inClass (top 19) 7)/\jZ T 9 "work_names" "Book.work_names" (inClass (top 19) 8)/\jZ T 9 "rows_of" "Book.rows_of" (inClass (top 19) 10)/\jZ T 9 "hands_of" "Book.hands_of" (inClass (top 19) 12)/\jZ T 9 "known_of" "Book.known_of" (inClass (top 19) 14)/\jZ T 9 "put_rate" "Book.put_rate" (inClass (top 19) 15)/\jZ T 9 "worth_of" "Book.worth_of" (inClass (top 19) 16)/\jZ T 9 "rate_list" "Book.rate_list" (inClass (top 19) 17)/\jZ T 9 "keep_of" "Book.keep_of" (inClass (top 19) 19)/\jZ T 9 "put_half" "Book.put_half" (inClass (top 19) 20)/\jZ T 9 "half_days" "Book.half_days" (inClass (top 19) 21)/\jZ T 9 "put_sold" "Book.put_sold" (inClass (top 19) 22)/\jZ T 9 "put_back" "Book.put_back" (inClass (top 19) 23)/\jZ T 9 "money_list" "Book.money_list" (inClass (top 19) 24)/\jZ T 9 "debt_list" "Book.debt_list" (inClass (top 19) 26)/\Df T mg "_law_begin" (top 21)/\Df T mg "_law_take" (top 22)/\Df T mg "_law_same" (top 23)/\Df T mg "_law_lowest" (top 24)/\Df T mg "_law_names" (top 25)/\Df T mg "_law_in_order" (top 26)/\Sr T mg "_law_worth" (top 27) 21/\Df T mg "_law_never_less" (top 28)/\Df T mg "_law_names_of" (top 29)/\Df T mg "_law_of" (top 30)/\Df T mg "_law_any_day" (top 31)/\Df T mg "_law_any_worth" (top 32)/\Df T mg "_law_deed" (top 33)/\Df T mg "_law_do" (top 34)/\Df T mg "_law_refusal" (top 35)/\Df T mg "_law_world" (top 36)/\Df T mg "_law_due_money" (top 39)/\Df T mg "_law_due_way" (top 38)/\Df T mg "_law_due" (top 37)/\Df T mg "_law_all_told" (top 40)/\Df T mg "_law_all_due" (top 41)/\Df T mg "_law_kind_of" (top 42)/\Df T mg "_law_walked" (top 43)/\Df T mg "_law_begun" (top 44)/\Df T mg "_law_spoilt" (top 45)
def Pc {P:Č}{w:Ī}{T:Tx}{mg:Str->Ð Value}{base:Heap}(xs:Xs T mg)(bk:Bk T 9 ["keeps","rows","hands","makers","rates","half","money","debts"])(cO:mg "ValueError"=none)(wB:mg "abs"=none)(wC:mg "all"=none)(pV:mg "bool"=none)(jM:mg "divmod"=none)(dB:mg "enumerate"=none)(wD:mg "int"=none)(ž:mg "isinstance"=none)(fZ:mg "len"=none)(gR:mg "list"=none)(wF:mg "max"=none)(ef:mg "range"=none)(ū:mg "sorted"=none)(wG:mg "str"=none)(f6:mg "tuple"=none)(wH:mg "zip"=none)(ml:B9 T mg "COIN" ft)(Ž:B9 T mg "FIRST_HALF_DAYS" bN)(gQ:B9 T mg "NOTHING" oh)(vX:B9 T mg "ONE" xX)(D:Ds T mg){f:Addr}{a:eB}(F:G4 T.K "law" "law" (top 46) f a) :
  hU P w T.K mg base (ri P w) 12 f a ["_law_script"] (Ca T 1 vk):=by
 have D:=D.2;have gO:=C2 P w base xs bk ū D.1;have D:=D.2;have l9:=xu P w base xs bk D.1;have D:=D.2;have kK:=vQ P w base xs bk l9 D.1;have D:=D.2;have iz:=r6 P w base xs bk Ž D.1;have D:=D.2;have br:=oM P w base xs bk D.1;have D:=D.2;have š:=qJ P w base xs bk D.1;have D:=D.2;have iC:=sf P w base xs bk D.1;have D:=D.2;have cy:=qI P w base xs bk iC D.1;have D:=D.2;have fR:=pI P w base xs bk gQ cy D.1;have D:=D.2;have iA:=r_ P w base xs bk cy D.1;have D:=D.2;have eG:=nM P w base xs bk ū D.1;have D:=D.2;have bM:=pK P w base xs bk ū D.1;have D:=D.2;have jz:=ug P w base xs bk š D.1;have D:=D.2;have iB:=se P w base xs bk ū br D.1;have D:=D.2;have iD:=sg P w base xs bk š D.1;have D:=D.2;have iH:=sj P w base xs bk ml D.1;have D:=D.2;have cW:=sm P w base xs bk wF ml vX D.1;have D:=D.2;have gK:=qK P w base xs bk ū D.1;have D:=D.2;have jy:=uf P w base xs bk br D.1;have D:=D.2;have iG:=si P w base xs bk D.1;have D:=D.2;have gJ:=qH P w base xs bk D.1;have D:=D.2;have iI:=sk P w base xs bk š cW D.1;have D:=D.2;have iF:=sh P w base xs bk gO kK š cW D.1;have D:=D.2;have bL:=pJ P w base xs bk gO D.1;have D:=D.2;have gI:=qG P w base xs bk gO D.1;have D:=D.2;have lZ:=xm P w base xs bk gR D.1;have D:=D.2;have Ň:=zA P w base xs bk jM fZ D.1;have D:=D.2;have g0:=zy P w base xs bk wC pV wD ž fZ gR wG f6 wH D.1 9;have D:=D.2;have kH:=vN P w base xs bk wB D.1;have D:=D.2;have l5:=xq P w base xs bk fZ ef Ň D.1;have D:=D.2;have cY:=sv P w base xs bk dB ū D.1;have D:=D.2;have l7:=xt P w base xs bk ū D.1;have D:=D.2;have fS:=pL P w base xs bk cY D.1;have D:=D.2;have iJ:=sx P w base xs bk l5 D.1;have D:=D.2;have rG:=C1 P w base xs bk fZ Ň D.1;have D:=D.2;have jA:=ui P w base xs bk Ň D.1;have D:=D.2;have gL:=qL P w base xs bk Ň kH D.1;have D:=D.2;have nB:=zx P w base xs bk Ň rG jA gL D.1;have D:=D.2;have lj:=C0 P w base xs bk fR iA iH iG iI iF D.1;have D:=D.2;have jE:=um P w base xs bk cO ž fZ ef lj D.1;have D:=D.2;have l6:=xr P w base xs bk D.1;have D:=D.2;have gM:=qM P w base xs bk f6 l7 fS D.1;have D:=D.2;have jC:=uj P w base xs bk f6 D.1;have D:=D.2;have jB:=Bt P w base xs bk gR gM jC D.1;have D:=D.2;have cX:=su P w base xs bk eG bM jz iB iD gK jy gJ bL gI D.1;have D:=D.2;have dw:=uh P w base xs bk ū cY D.1;have D:=D.2;have jD:=uk P w base xs bk fZ D.1;have D:=D.2;have kJ:=vP P w base xs bk fZ ef Ň g0 nB jE jB cX dw jD D.1;have D:=D.2;have l0:=xo P w base xs bk iz Ň lj l6 jB D.1;have D:=D.2;have kI:=vO P w base xs bk ž gR D;exact QT P w base xs bk ef bM bL lZ Ň g0 iJ cX dw kJ l0 kI F
def PF {l:m3}{w:Ī}{K:É}{h:Heap}{mg:Str->Ð Value}{q a c d e g i j k m cB n t1:Addr}{r t:Ð Value}(X:K.In h)(G:h.Ns mainGlobals mg)(p:mg "law"=À (.ref q)) (x0:yN K mg a "RoyalError" uD none)(x1:yN K mg c "BadFraction" (.ref a::uD) none) (x2:yN K mg d "Taken" (.ref a::uD) none) (x3:yN K mg e "NoName" (.ref a::uD) none) (x4:yN K mg g "TooMuch" (.ref a::uD) none) (x5:yN K mg i "NoRate" (.ref a::uD) none) (x6:yN K mg j "NoneLeft" (.ref a::uD) none) (x7:yN K mg k "Endless" (.ref a::uD) r) (x8:yN K mg m "BadRow" (.ref a::uD) t) (b:VY K cB ["keeps","rows","hands","makers","rates","half","money","debts"])(cO:ĕ K mainGlobals "ValueError"=À none)(wB:ĕ K mainGlobals "abs"=À none)(wC:ĕ K mainGlobals "all"=À none)(pV:ĕ K mainGlobals "bool"=À none)(jM:ĕ K mainGlobals "divmod"=À none)(dB:ĕ K mainGlobals "enumerate"=À none)(wD:ĕ K mainGlobals "int"=À none)(ž:ĕ K mainGlobals "isinstance"=À none)(fZ:ĕ K mainGlobals "len"=À none)(gR:ĕ K mainGlobals "list"=À none)(wF:ĕ K mainGlobals "max"=À none)(ef:ĕ K mainGlobals "range"=À none)(ū:ĕ K mainGlobals "sorted"=À none)(wG:ĕ K mainGlobals "str"=À none)(f6:ĕ K mainGlobals "tuple"=À none)(wH:ĕ K mainGlobals "zip"=À none)(ml:B9 ⟨K,Fu [a,c,d,e,g,i,j,k,m,cB] [n,t1]⟩ mg "COIN" ft)(Ž:B9 ⟨K,Fu [a,c,d,e,g,i,j,k,m,cB] [n,t1]⟩ mg "FIRST_HALF_DAYS" bN)(gQ:B9 ⟨K,Fu [a,c,d,e,g,i,j,k,m,cB] [n,t1]⟩ mg "NOTHING" oh)(vX:B9 ⟨K,Fu [a,c,d,e,g,i,j,k,m,cB] [n,t1]⟩ mg "ONE" xX)(D:Ds ⟨K,Fu [a,c,d,e,g,i,j,k,m,cB] [n,t1]⟩ mg):∃o:eB,(∀(s:Ú) (v:Value),uu s o ⟨[v],[]⟩ [("_law_script",v)])/\∀base:Heap,K.In base->base.Ns mainGlobals mg->hU l.prog w K mg base (ri l.prog w) 12 q o ["_law_script"] (spT K [n,t1] [(20,"by_days.<locals>.<lambda>"),(21,"_law_worth.<locals>.<lambda>")] vk):=
 L1 p rfl D.1 (λ_ _ _ _ _ _ _ _=>.of_eq rfl) λbase f o F=>Pc (VA x0 x1 x2 x3 x4 x5 x6 x7 x8) (b.bk rfl) (ď X G cO) (ď X G wB) (ď X G wC) (ď X G pV) (ď X G jM) (ď X G dB) (ď X G wD) (ď X G ž) (ď X G fZ) (ď X G gR) (ď X G wF) (ď X G ef) (ď X G ū) (ď X G wG) (ď X G f6) (ď X G wH) ml Ž gQ vX D F
end Ro
namespace Ro
open PySem L2
end Ro
namespace L2
open PySem PySem.Spec PyProof.Rows
end L2
namespace Ro
open PySem L2
abbrev Fs:=Á (Int×Int)
def den:Fs->Int
 |[]=>1
 |f::r=>f.2*den r
def num:Fs->Int
 |[]=>0
 |f::r=>f.1*den r+f.2*num r
def W6 (fs:Fs):Prop:=∀f∈fs,1<=f.2
theorem den_pos:∀{fs:Fs},W6 fs->1<=den fs
 |[],_=>by decide
 |f::r,h=>by
  have b:1<=f.2:=h f Ŀ;have c:=den_pos (fs:=r) λg a=>h g (Ċ _ a);show 1<=f.2*den r;have:=Int.mul_pos (show 0<f.2 by lia) (show 0<den r by lia);lia
abbrev ig (a b:Int):Int:=((Ţ a b:Nat):Int)
open Mm
def fq (q:Rat):AV:=.tup [.int q.num,.int q.den]
def ND (q:Rat):Ţ q.num (q.den:Int)=1:=q.reduced
def NF (q:Rat):(1:Int)<=(q.den:Int):=by have:=q.den_pos;lia
def PR (h:b≠0):fr t b=((eQ t b).num,((eQ t b).den:Int)):=by
 refine L7 h (NF _) (ND _) ?_;have e:=Rat.num_divInt_den (eQ t b);have:=(Rat.divInt_eq_divInt_iff (by have:=(eQ t b).den_pos;lia) h).mp e;exact this
def Cs (h:gi n i)(k:n<=60000000):Lf i:=⟨h.mono k⟩
def IS (h:gi n i)(k:n<=9000):O6 i:=⟨h.mono k⟩
def L6 {x y:Int}(b:0<=x)(a:0<y):0<=x.fmod y/\x.fmod y<y:=by
 rw[kZ _ (by lia)];exact⟨Si _ (by lia),Lo _ a⟩
def L' (b:0<y):ig y (x.fmod y)=ig x y:=by
 rw[kZ _ (by lia)];show((Ţ y (x % y):Nat):Int)=((Ţ x y:Nat):Int)
 congr 1;rw[Int.gcd_comm];have a:=Int.emod_def x y;rw[a,Int.gcd_sub_mul_left_left]
def PX (a b:Int):ig (if a<0 then -a else a) (if b<0 then -b else b)=ig a b:=by
 show((Ţ _ _:Nat):Int)=((Ţ a b:Nat):Int)
 congr 1;split<;>split<;>simp[Int.gcd_neg,Int.neg_gcd]
def T4 (h:b≠0):ig a b≠0:=by have:=uG (t:=a) h;show((Ţ a b:Nat):Int)≠0;lia
def HR (h:b≠0)(f:gi n b):gi n (ig a b):=f.le (by
 show((Ţ a b:Nat):Int).natAbs<=_;rw[Int.natAbs_natCast];exact Nat.le_of_dvd (by lia) (Int.gcd_dvd_natAbs_right a b))
def Ď (s:S)(xs:Á AV):ë (s++[.lst xs]) s.length=À xs:=by
 unfold ë;simp
theorem rM:∀l:Á Int,mz (l.map AV.int)=À l
 |[]=>rfl
 |i::r=>by show(mz (r.map AV.int)).map (i::·)=_;rw[rM r];rfl
end Ro
namespace Mm
open PySem L2
mutual
theorem AV.low.mono (h:b<=c):∀{v:AV},v.low b=true->v.low c=true
 |.ref i,k=>by simp only[AV.low,Ń]at k⊢;lia
 |.tup xs,k=>by simp only[AV.low]at k⊢;exact ĭ.mono h k
 |.sq xs,k=>by simp only[AV.low]at k⊢;exact ĭ.mono h k
 |.Ğ,_=>by simp only[AV.low]
 |.bl _,_=>by simp only[AV.low]
 |.int _,_=>by simp only[AV.low]
 |.str _,_=>by simp only[AV.low]
theorem ĭ.mono (h:b<=c):∀{l:Á AV},ĭ b l=true->ĭ c l=true
 |[],_=>by simp only[ĭ]
 |v::r,k=>by
  simp only[ĭ,ċ]at k⊢;exact⟨AV.low.mono h k.1,ĭ.mono h k.2⟩
end
theorem AO.low.mono (h:b<=c){o:AO}(k:o.low b=true):o.low c=true:=by
 cases o<;>first|exact ĭ.mono h k|rfl
def Cl (s:S):Prop:=s.all (AO.low s.length)=true
def Cl.add {s e:S}(h:Cl s)(k:e.all (AO.low (s.length+e.length))=true):Cl (s++e):=by
 unfold Cl at *
 rw[List.all_append,Ă,k,ů];rw[ú]at h⊢;exact λo a=>AO.low.mono (by lia) (h o a)
theorem Cl.set (h:Cl s)(k:o.low s.length=true):Cl (s.set i o):=by
 unfold Cl at *
 rw[Ť];rw[ú]at h⊢;intro x a;rcases List.mem_or_eq_of_mem_set a with a|rfl
 ·exact h x a
 ·exact k
def ć (h:ë s k=À xs):ë (s++e) k=À xs:=by
 have:=ü h;refine aQ ?_;have a:k<s.length:=(Ç.mp this).1;rw[Ý a];exact this
def Hn (a:ë st i=À xs)(b:ë st j=À ys)(hl:xs.length+ys.length<=sizeLine):Ł (.ref i) (.ref j) st=.ok (.ref st.length) (st++[.lst (xs++ys)]):=by
 show(need (ë st i) λxs=>need (ë st j) λys=>if xs.length+ys.length<=sizeLine then R.ok (AV.ref st.length) (st++[.lst (xs++ys)])else .bad)=_;rw[a,å,b,å,Ë hl]
end Mm
namespace Ro
open PySem L2 Mm
end Ro
namespace Mm
open PySem L2
end Mm
namespace Ro
open PySem L2 Mm
def Gp (l:Á Str):(ė l).length=l.length:=(mu l).length_eq
theorem Bh (A B C:Ð AV):∀n x y s,0<=x->0<=y->y.natAbs<n->
  Lm (cB (Õ C3 (mv 4) (mc (.int 0)))) (mr 3 4 (Ã (mv 4) (Ã (Õ kb (mv 3) (mv 4)) Ø))) n [A,B,C,À (.int x),À (.int y)] s=.nx [A,B,C,À (.int (ig x y)),À (.int 0)] s
 |0,_,_,_,_,_,h=>absurd h (Sl _)
 |n+1,x,y,s,f,g,h=>by
  unfold Lm;have e:cB (Õ C3 (mv 4) (mc (.int 0))) [A,B,C,À (.int x),À (.int y)] s=.ok (decide (0<y)) s:=rfl;rw[e,fP];by_cases b:y=0
  ·subst b;rw[Ñ (by simp)];rw[show ig x 0=x by show((Ţ x 0:Nat):Int)=x;rw[Int.gcd_zero_right];lia]
  ·have a:0<y:=by lia
   obtain⟨i,j⟩:=L6 f a;rw[Ë (by simpa using a)];have c:mr 3 4 (Ã (mv 4) (Ã (Õ kb (mv 3) (mv 4)) Ø)) [A,B,C,À (.int x),À (.int y)] s=.nx [A,B,C,À (.int y),À (.int (x.fmod y))] s:=by
    have d:kb (.int x) (.int y) s=.ok (.int (x.fmod y)) s:=Ë b;show((kb (.int x) (.int y) s).bind _ |>.bind _).bj _=_;rw[d];rfl
   rw[c];show Lm _ _ n _ s=_;rw[Bh A B C n y (x.fmod y) s g i (by lia),L' a]
def HY (A B C X:Ð AV)(y:Int):Ol [A,B,C,X,À (.int y)]=y.natAbs+1:=rfl
def FW (s:S)(h:b≠0)(l:gi 9000 b)(m:gi 60000000 a):bU [.int a,.int b] s=.ok (fq (eQ a b)) s:=by
 have e:=(Qb a b h).trans (PR (t:=a) h);have f:((if b<0 then -1 else 1)*a).fdiv (ig a b)=(eQ a b).num:=Ĳ Prod.fst e;have i:((if b<0 then -1 else 1)*b).fdiv (ig a b)=((eQ a b).den:Int):=Ĳ Prod.snd e;have g:=T4 (a:=a) h;have j:O6 (ig a b):=IS (HR h l) (Î _);have bs:∀c:Prop,[ś c]->Lf (if c then -1 else 1):=λc _=>by
  split
  ·exact Cs (n:=1) (by show(-1:Int).natAbs<2^1;decide) (by decide)
  ·exact Cs (n:=1) (by show(1:Int).natAbs<2^1;decide) (by decide)
 have k:Lf b:=⟨l.mono (by decide)⟩
 have ba:Lf a:=⟨m⟩
 apply R.wp.eq;unfold bU ky;simp?[↓Se,HY];rw[oQ (Bh _ _ _ _ _ _ s (by split<;>lia) (by split<;>lia) (fc _)),PX];walk_at"w";by_cases c:b<0
 ·simp only[c,fI]at f i⊢;have d:=bs True;rw[Ë trivial]at d;refine⟨⟨d,ba⟩,⟨g,j⟩,⟨d,k⟩,⟨g,j⟩,?_⟩;rw[f,i];rfl
 ·simp only[c,fz]at f i⊢;have d:=bs False;rw[Ñ (λz=>z)]at d;refine⟨⟨d,ba⟩,⟨g,j⟩,⟨d,k⟩,⟨g,j⟩,?_⟩;rw[f,i];rfl
end Ro
namespace Mm
open PySem L2
def wA (a:Mt)(r:O7)(v:AV)(w:Á AV)(env:En)(s:S)(N:En->S->Prop)(T:AV->S->Prop):(ï a r (v::w) env s).wp N T=(a v env s).wp (λe s1=>(r w e s1).wp N T) T:=by
 show(match a v env s with|.nx e s1=>r w e s1|q=>q).wp N _=_;cases a v env s<;>rfl
def Ky (o i:Ev)(v:AV)(env:En)(s:S)(N:En->S->Prop)(T:AV->S->Prop):(nA o i v env s).wp N T=(o env s).wp λa s1=>(i env s1).wp λb c=>(match a,b with
 |.ref k,.int j=>match ë c k with
  |some xs=>match Eg xs.length j with
   |some n=>RS.nx env (c.set k (.lst (xs.set n v)))
   |none=>.bad
  |none=>.bad
 |_,_=>.bad).wp N T:=by
 unfold nA;rw[bt];congr 1;funext a s1;rw[bt];try rfl
end Mm
namespace Ro
open PySem L2 Mm
def T':¬((.inr "cells":Key)=.inr "turn"):=λz=>kne (kX z)
noncomputable def xP (c:Nat)(t:Int):Á (Key×AV):=[(.inr "cells",.ref c),(.inr "turn",.int t)]
def HE (c:Nat)(t:Int):ņ (xP c t) (.inr "cells")=À (.ref c):=Ë rfl
def LV (c:Nat)(t:Int):ņ (xP c t) (.inr "turn")=À (.int t):=by
 unfold xP ņ;rw[Ñ T'];exact Ë rfl
def Py (c:Nat)(t u:Int):g_ (xP c t) (.inr "turn") (.int u)=xP c u:=by
 unfold g_ xP;rw[Ë (by simp)];simp only[Ô,Ų,Ñ T',fI]
structure Dr (c d n:Nat)(s:S):Prop where
 ex:∃t cells,s[d]?=À (.dK (xP c t))/\s[c]?=À (.lst (cells.map AV.int))/\cells≠[]/\0<=t/\t<=n
 cl:Cl s
structure Kp (c d:Nat)(s s':S):Prop where
 len:s'.length=s.length
 get:∀i,i≠c->i≠d->s'[i]?=s[i]?
theorem Kp.trans (h:Kp c d s s')(k:Kp c d s' a):Kp c d s a:=⟨k.len.trans h.len,λi b e=>(k.get i b e).trans (h.get i b e)⟩
def Dr.mono (h:Dr c d n s)(k:n<=m):Dr c d m s:=by
 obtain⟨⟨t,a,b,e,f,g,i⟩,cl⟩:=h;exact⟨⟨t,a,b,e,f,g,by lia⟩,cl⟩
def Dr.ne (h:Dr c d n s):c≠d:=by
 obtain⟨⟨t,a,e,b,_⟩,_⟩:=h;rintro rfl;rw[e]at b;cases b
def Dr.Mq (h:Dr c d n s):c<s.length:=by
 obtain⟨⟨t,a,e,b,_⟩,_⟩:=h;exact(Ç.mp b).1
def Dr.Mr (h:Dr c d n s):d<s.length:=by
 obtain⟨⟨t,a,b,e,_⟩,_⟩:=h;exact(Ç.mp b).1
def Dr.app (h:Dr c d n s)(k:Cl (s++e)):Dr c d n (s++e):=by
 have i:=h.Mq;have j:=h.Mr;obtain⟨⟨t,a,b,f,g⟩,cl⟩:=h;exact⟨⟨t,a,by rw[Ý j];exact b,by rw[Ý i];exact f,g⟩,k⟩
theorem Dr.set (h:Dr c d n s)(b:i≠c)(e:i≠d)(k:o.low s.length=true):Dr c d n (s.set i o):=by
 obtain⟨⟨t,a,f,g,j⟩,cl⟩:=h;exact⟨⟨t,a,by rw[ù e];exact f,by rw[ù b];exact g,j⟩,cl.set k⟩
theorem low_ints (b:Nat):∀l:Á Int,ĭ b (l.map AV.int)=true
 |[]=>by simp[ĭ]
 |i::r=>by simp only[Ô,ĭ,low_ints b r];simp[AV.low]
def L3 {x m:Int}(h:0<m)(k:m<=2147483648):gi 31 (x.fmod m):=by
 have a:=ot x h;have b:=tU x h;exact xQ (by lia) (by lia)
def vm (h:0<=i)(k:i<2^n):gi n i:=xQ (by lia) k
def ET (D:Dr c d n s)(hn:n<=1000000000)(B:0<k)(fk:gi 9000 k) :
  (í [.ref d,.int k] s).wp λv s'=>∃r,v=.int r/\0<=r/\r<k/\Dr c d (n+1) s'/\Kp c d s s':=by
 have O:=D.Mq;have ld:=D.Mr;have P:=D.ne;obtain⟨⟨t,a,h1,h2,N,h4,h5⟩,cl⟩:=D;have L:jS s d=À (xP c t):=by unfold jS;rw[h1]
 have g1:ġ (.ref d) (.str "turn") s=.ok (.int t) s:=by
  show(need (jS s d) λf=>need (fT (.str "turn")) λk=>need (ņ f k) λv=>R.ok v s)=_;rw[L,å];rw[show fT (.str "turn")=À (.inr "turn")from rfl,å,LV];rfl
 let b:=s.set d (.dK (xP c (t+1)));have p1:∀l,putD (.int (t+1)) (.ref d) (.str "turn") l s=.nx l b:=λl=>by
  show(match jS s d,fT (.str "turn")with
   |some f,À k=>if f.length<sizeLine then RS.nx l (s.set d (.dK (g_ f k (.int (t+1)))))else .bad
   |_,_=>.bad)=_
  rw[L];show(if (xP c t).length<sizeLine then RS.nx l (s.set d (.dK (g_ (xP c t) (.inr "turn") (.int (t+1)))))else .bad)=_;rw[Ë (ũ (by show(2:Nat)<=1000;lia)),Py]
 have F:b[d]?=À (.dK (xP c (t+1))):=Đ ld;have M:b[c]?=À (.lst (a.map AV.int)):=by show(s.set d _)[c]?=_;rw[ù (Ō P)];exact h2
 have I:ë b c=À (a.map AV.int):=aQ M;have q:Cl b:=cl.set (by simp[AO.low,xP,ĭ,AV.low,O]);have m:Kp c d s b:=⟨Ť,λi _ hi=>ù (Ō hi)⟩
 have G:ġ (.ref d) (.str "cells") b=.ok (.ref c) b:=by
  show(need (jS b d) λf=>need (fT (.str "cells")) λk=>need (ņ f k) λv=>R.ok v b)=_;rw[show jS b d=À (xP c (t+1)) by unfold jS;rw[F],å];rw[show fT (.str "cells")=À (.inr "cells")from rfl,å,HE];rfl
 have hl0:0<a.length:=List.length_pos_iff.mpr N;have y:jH [.ref c] b=.ok (.int a.length) b:=by
  show(need (ë b c) λxs=>R.ok (AV.int xs.length) b)=_;rw[I,å,Ê]
 have u:(0:Int)<a.length:=by lia
 have j0:=ot (t+1) u;have j1:=tU (t+1) u;obtain⟨j,ej⟩:∃j:Nat,(t+1).fmod a.length=j:=⟨((t+1).fmod a.length).toNat,by lia⟩
 have hj:j<a.length:=by lia
 have ix:ku (a.map AV.int) (j:Int)=À (.int a[j]):=j3 (by rw[é,Å hj];rfl);have H:Eg (a.map AV.int).length (j:Int)=À j:=by
  unfold Eg;rw[Ê,Ë (by lia),Ë (by lia)];rfl
 unfold í m9;have gE:ĝ (.ref c) (.int j) b=.ok (.int a[j]) b:=by
  show(need (ë b c) λxs=>need (ku xs j) λv=>R.ok v b)=_;rw[I,å,ix];rfl
 have w:(10:Int)^(18:Int).toNat=1000000000000000000:=XY;have A:gi 31 (t+1):=vm (by lia) (by lia);rw[WS.2.2.2.2.2.2.2.2.2.2.2.2.2.2.2.2.1];refine Ľ λK e=>?_;simp?[↓ğ g1];rw[e];clear e K;refine Ľ λK e=>?_;simp?[↓oQ (p1 _)];rw[e];clear e K;refine Ľ λK e=>?_;simp?[↓ğ G,↓ğ y,ej];refine⟨by lia,?_⟩;rw[e];clear e K;refine Ľ λK e=>?_;simp?[↓ğ G,↓ğ gE];rw[e];clear e K;refine Ľ λK e=>?_;simp?[w];refine⟨⟨by lia,by lia,by decide⟩,?_⟩;split
 ·simp?[↓wA,↓Ky,↓ğ G,I,H];refine⟨⟨B,⟨fk⟩⟩,_,rfl,Si _ (by lia),Lo _ B,⟨⟨t+1,a.set j (a[j] / k),?_,?_,?_,by lia,by lia⟩,?_⟩,?_⟩
  ·rw[ù P];exact F
  ·rw[Đ (by show c<b.length;rw[m.len];exact O),VG]
  ·intro z;have:=Ĳ b_ z;rw[Ť,bZ]at this;lia
  ·refine q.set ?_;rw[<-VG];exact low_ints _ _
  ·exact⟨by rw[Ť];exact m.len,λi Q q2=>by rw[ù (Ō Q)];exact m.get i Q q2⟩
 ·rw[e];clear e K;walk_at"w";have T:gi 31 (a[j].fmod 2147483629):=L3 (by lia) (by lia);have p:gi 13 (7919:Int):=vm (by lia) (by lia);have E:gi 16 (48271:Int):=vm (by lia) (by lia);have o:gi 17 (104729:Int):=vm (by lia) (by lia);have C:gi 16 (39373:Int):=vm (by lia) (by lia);have J:=A.mul A;have U:=J.mul p;have X:gi 76 (a[j].fmod 2147483629+(t+1)*(t+1)*7919):=gi.add (n:=75) (T.mono (by lia)) (U.mono (by lia));have Y:gi 77 (a[j].fmod 2147483629+(t+1)*(t+1)*7919+11):=gi.add X (vm (by lia) (by lia));have Z:∀x:Int,gi 49 (x.fmod 2147483587+(t+1)*104729):=λx=>gi.add (n:=48) ((L3 (by lia) (by lia)).mono (by lia)) ((A.mul o).mono (by lia));have g:∀{n:Nat}{i:Int},gi n i->n<=100->Lf i:=λh k=>Cs h (by lia);refine⟨by decide,⟨g A (by lia),g A (by lia)⟩,⟨g J (by lia),g p (by lia)⟩,⟨g Y (by lia),g E (by lia)⟩,by decide,⟨g (L3 (by lia) (by lia)) (by lia),g (L3 (by lia) (by lia)) (by lia)⟩,by decide,⟨g A (by lia),g o (by lia)⟩,⟨g (Z _) (by lia),g C (by lia)⟩,by decide,⟨by decide,IS (n:=7) (vm (by lia) (by lia)) (by lia)⟩,by lia,_,rfl,ot _ B,tU _ B,⟨⟨t+1,a,F,M,N,by lia,by lia⟩,q⟩,m⟩
def HW:∀{v:AV},tj v=true->∃d,toD n s v=À d/\d.dep=0
 |.Ğ,_=>⟨.Ğ,by unfold toD;rfl,by simp[Dt.dep]⟩
 |.bl b,_=>⟨.bl b,by unfold toD;rfl,by simp[Dt.dep]⟩
 |.int b,_=>⟨.int b,by unfold toD;rfl,by simp[Dt.dep]⟩
 |.str b,_=>⟨.str b,by unfold toD;rfl,by simp[Dt.dep]⟩
theorem xS:∀{l:Á AV},l.all tj=true->∃ds,l.mapM (toD n s)=À ds/\ds.length=l.length/\aX ds=0
 |[],_=>⟨[],rfl,rfl,by simp[aX]⟩
 |v::r,h=>by
  rw[ľ,ċ]at h;obtain⟨d,a,b⟩:=HW (s:=s) (n:=n) h.1;obtain⟨ds,c,e,f⟩:=xS (s:=s) (n:=n) h.2;exact⟨d::ds,by rw[zU,a,c];rfl,by simp[e],by simp[aX,b,f]⟩
def HN (d:ë s i=À xs)(e:ë s j=À [])(f:xs.all tj=true):HM s (.ref i) (.ref j)=À xs.isEmpty:=by
 obtain⟨a,c,b,g⟩:=xS (s:=s) (n:=19) f;have t1:toD 20 s (.ref i)=À (.lst a):=by
  simp only[toD,d,cC,c,dc]
 have t2:toD 20 s (.ref j)=À (.lst []):=by
  simp only[toD,e,cC,BW];rfl
 unfold HM;simp only;rw[t1,t2];dsimp only;rw[Ë (by lia)];congr 1;cases xs with
 |nil=>cases a with
  |nil=>simp[jb]
  |cons=>cases b
 |cons=>cases a with
  |nil=>cases b
  |cons=>simp[jb]
theorem xR:∀l:Á Int,(l.map AV.int).all tj=true
 |[]=>rfl
 |i::r=>by rw[Ô,ľ,xR r];rfl
def Ts (h:0<k)(l:k<1048576):gi 9000 k:=(vm (n:=20) (by lia) (by lia)).mono (by lia)
def OS {k:Int}(h:0<k)(l:k<1048576):(decide (0<k)&&decide (k<1048576))=true:=by rw[î h,î l];rfl
def take1 {c d n:Nat}{s:S}{k:Int}(D:Dr c d n s)(b:n<=1000000000:=by lia)(a:(decide (0<k)&&decide (k<1048576))=true:=by first|rfl|exact OS (by lia) (by lia)) :
  (í [.ref d,.int k] s).wp λv s'=>∃r,v=.int r/\0<=r/\r<k/\Dr c d (n+1) s'/\Kp c d s s':=by
 rw[ċ]at a;exact ET D b (č a.1) (Ts (č a.1) (č a.2))
def uO (m:Ev)(env:En)(s:S)(Q:Á AV×Gd->S->Prop):(zL (Ã m Ø) env s).wp Q=(m env s).wp λv s1=>match v with|.int j=>(-(2^62)<=j/\j<2^62)/\Q (pP 0 j.toNat,[]) s1|_=>False:=by
 unfold zL Ã Ø;simp only[wp_bind,nW];congr 1;funext v s1;cases v<;>first|rfl|exact lF _ _ _
structure Gk (c d:Nat)(s s':S):Prop where
 len:s.length<=s'.length
 get:∀i,i<s.length->i≠c->i≠d->s'[i]?=s[i]?
def Kp.gk (h:Kp c d s s'):Gk c d s s':=⟨by rw[h.len];exact Î _,λi _ a b=>h.get i a b⟩
def Gk.app (c d:Nat)(s e:S):Gk c d s (s++e):=⟨by simp,λi a _ _=>Ý a⟩
theorem Gk.trans (h:Gk c d s s')(k:Gk c d s' a):Gk c d s a:=⟨đ h.len k.len,λi f b e=>(k.get i (ì f h.len) b e).trans (h.get i f b e)⟩
def Gk.lst {c d n i:Nat}{s s':S}{xs:Á AV}(h:Gk c d s s')(a:i≠c)(b:i≠d)(k:ë s i=À xs):ë s' i=À xs:=by
 have e:=ü k;exact aQ ((h.get i (Ç.mp e).1 a b).trans e)
theorem Gk.set (h:Gk c d s s')(f:s.length<=i):Gk c d s (s'.set i o):=⟨by rw[Ť];exact h.len,λj e a b=>by rw[ù (by lia)];exact h.get j e a b⟩
def Gk.cut (h:Gk c d s s')(D:Dr c d n s)(A:Dr c d m s'):Dr c d m (s'.take s.length)/\Kp c d s (s'.take s.length)/\(s'.take s.length).all (AO.low s.length)=true:=by
 have r:=D.Mq;have ld:=D.Mr;have g:(s'.take s.length).length=s.length:=by rw[Ř];have:=h.len;lia
 have l:∀i,i<s.length->(s'.take s.length)[i]?=s'[i]?:=λi a=>Ű a;have cl:=D.cl;obtain⟨⟨t,b,p,q,v,w,x⟩,u⟩:=A;have all:(s'.take s.length).all (AO.low s.length)=true:=by
  rw[ú];intro o y;obtain⟨i,a,e⟩:=p8.mp y;rw[g]at a;have f:(s'.take s.length)[i]?=À o:=by rw[Å (by rw[g];exact a)];rw[e]
  rw[l i a]at f;by_cases j:i=c
  ·subst j;rw[q]at f;cases f;exact low_ints _ _
  by_cases k:i=d
  ·subst k;rw[p]at f;cases f;simp[AO.low,xP,ĭ,AV.low,r]
  rw[h.get i a j k]at f;have:=ú.mp (show s.all (AO.low s.length)=true from cl) o (ý f);exact this
 refine⟨⟨⟨t,b,by rw[l d ld];exact p,by rw[l c r];exact q,v,w,x⟩,?_⟩,⟨g,λi j k=>?_⟩,all⟩
 ·unfold Cl;rw[g];exact all
 ·by_cases a:i<s.length
  ·rw[l i a];exact h.get i a j k
  ·rw[E2 (by rw[g];lia),E2 (by lia)]
def Il {s:S}{i:Nat}{xs:Á AV}{j:Int}(h:ë s i=À xs)(h0:0<=j)(b:j<xs.length):∃v,v∈xs/\ĝ (.ref i) (.int j) s=.ok v s:=by
 obtain⟨n,rfl⟩:∃n:Nat,j=n:=⟨j.toNat,by lia⟩
 have a:n<xs.length:=by lia
 refine⟨xs[n],e8 a,?_⟩;show(need (ë s i) λxs=>need (ku xs n) λv=>R.ok v s)=_;rw[h,å,j3 (Å a)];rfl
def Iz (s:S)(c:0<=a)(d:a<=1000)(e:0<b)(f:b<=1000):bU [.int a,.int b] s=.ok (fq (eQ a b)) s:=FW s (by lia) ((vm (n:=20) (by lia) (by lia)).mono (by lia)) ((vm (n:=20) (by lia) (by lia)).mono (by lia))
def append_at (h:ë s i=À xs)(hl:xs.length<sizeLine):Ŏ (.ref i) [v] s=.ok .Ğ (s.set i (.lst (xs++[v]))):=by
 unfold Ŏ;simp only[h,å,Ë hl]
def iK (h:ë s i=À xs):(lu "list" (.ref i) s).isSome=true:=by
 show((ë s i).map λ_=>()).isSome=true;rw[h];rfl
def qC (h:ë s i=À xs):ë (s.set i (.lst ys)) i=À ys:=by
 refine aQ (Đ ?_);exact(Ç.mp (ü h)).1
noncomputable def kd:Str:="b aa zebra c quartzes ab m knows d mm likes z ba abcdefgh y zz e x f g hh jj kk pave"
open PySem.Builtin.Str in
def zw:Á Str:=partsBetween kd (occurrences kd " " 0 kd.length (kd.length+1)) (" ":Str).length
def Jn:zw.length=24:=by decide+kernel
open PySem.Builtin.Str in
def MV:(decide (kd.length<(" ":Str).length)||decide (qb kd<qb (" ":Str)))=false/\((" ":Str).length == 0)=false/\(occurrences kd " " 0 kd.length (kd.length+1)).isEmpty=false/\kd.length<=1000/\(partsBetween kd (occurrences kd " " 0 kd.length (kd.length+1)) (" ":Str).length).length<=1000:=by decide+kernel
def NO (s:S):qN (.str "b aa zebra c quartzes ab m knows d mm likes z ba abcdefgh y zz e x f g hh jj kk pave") [.str " "] s=.ok (zw.map AV.str) s:=Ë MV
theorem bP (b:Nat):∀l:Á Str,ĭ b (l.map AV.str)=true
 |[]=>by simp[ĭ]
 |i::r=>by simp only[Ô,ĭ,bP b r];simp[AV.low]
def pF (h:ë s i=À xs):jH [.ref i] s=.ok (.int xs.length) s:=by
 show(need (ë s i) λxs=>R.ok (AV.int xs.length) s)=_;rw[h];rfl
theorem HQ (f:α->b):∀(l:Á α) (m:Nat),(l.map f).eraseIdx m=(l.eraseIdx m).map f
 |[],_=>rfl
 |a::r,0=>rfl
 |a::r,m+1=>by show f a::(r.map f).eraseIdx m=f a::(r.eraseIdx m).map f;rw[HQ f r m]
def TG:(gu "int" "list"=false)/\(gu "int" "tuple"=false)/\(gu "int" "str"=false)/\(gu "int" "int"=true)/\(gu "int" "bool"=false)/\
  (gu "str" "list"=false)/\(gu "str" "tuple"=false)/\(gu "str" "str"=true)/\
  (gu "tuple" "list"=false)/\(gu "tuple" "tuple"=true)/\(gu "list" "list"=true)/\(gu "list" "tuple"=false):=by
 refine⟨?_,?_,?_,?_,?_,?_,?_,?_,?_,?_,?_,?_⟩<;>decide+kernel
def Me (n:String)(i:Int)(s:S)(Q:AV->S->Prop):(eh n (.int i) s).wp Q=Q (.bl (gu "int" n)) s:=rfl
def Mf (n:String)(i:Str)(s:S)(Q:AV->S->Prop):(eh n (.str i) s).wp Q=Q (.bl (gu "str" n)) s:=rfl
def Mg (n:String)(i:Á AV)(s:S)(Q:AV->S->Prop):(eh n (.tup i) s).wp Q=Q (.bl (gu "tuple" n)) s:=rfl
def zk (h:ë s i=À xs):eh n (.ref i) s=.ok (.bl (gu "list" n)) s:=by
 have e:=ü h;unfold eh;rw[show ES (.ref i) s=À "list" by simp only[ES,e]];rfl
def jJ (b:Bool)(s:S):truth (.bl b) s=À b:=rfl
def OF (a b:Bool)(s:S)(Q:AV->S->Prop):(uo (.bl a) (.bl b) s).wp Q=Q (.bl (!decide (a=b))) s:=rfl
def EY (a b:Ev)(env:En)(s:S)(Q:Á AV×Gd->S->Prop):(J9 a b env s).wp Q=(a env s).wp λv s1=>(b env s1).wp λw c=>(need (GG v w c) λr=>.ok r c).wp Q:=by
 unfold J9;rw[wp_bind];congr 1;funext v s1;rw[wp_bind]
def same_int (n:Nat)(i:Int)(s:S):Ę (n+1) [.int i,.int i] s=.ok (.bl true) s:=by
 apply R.wp.eq;unfold Ę du;simp?[ll,↓Me,TG,jJ,gS,Ũ]
def same_str (n:Nat)(i:Str)(s:S):Ę (n+1) [.str i,.str i] s=.ok (.bl true) s:=by
 apply R.wp.eq;unfold Ę du;simp?[ll,↓Mf,TG,jJ,gS,Ũ]
theorem yS:∀n:Nat,xf (Ö n (.bl true))=À (Ö n true)
 |0=>rfl
 |n+1=>by rw[ar];show(xf (Ö n (.bl true))).map (true::·)=_;rw[yS n];rfl
def DM (m:Nat):(Ö m true).all id=true:=by
 rw[ú];intro b a;rw[(List.mem_replicate.mp a).2];rfl
def Mj (xs:Á AV)(s:S):jH [.tup xs] s=.ok (.int xs.length) s:=rfl
end Ro
namespace Mm
open PySem L2
def Wo (c:Nat)(m:Str)(n:Nat)(F:Á AV->S->R AV)(b:Ev)(r:gh)(env:En)(s:S)(Q:AV->S->Prop):(ļ c m n F b r env s).wp Q=(b env s).wp λx s1=>match rH c x s1 with
 |some p=>p.2.lookup m=none/\(r env s1).wp λa d=>a.length=n/\(F (x::a) d).wp Q
 |none=>False:=by
 unfold ļ;rw[wp_bind];congr 1;funext x s1;cases rH c x s1 with
 |none=>rfl
 |some p=>
  rw[qS,lF,wp_bind];congr 1;congr 1;funext a d;rw[lF]
def NZ (c:Nat)(f:Str)(b mv:Ev)(env:En)(s:S)(N:En->S->Prop)(T:AV->S->Prop):(jI c f b mv env s).wp N T=(mv env s).wp λy s1=>(b env s1).wp λx a=>match rH c x a with
 |some p=>p.2.length<1000/\N env (a.set p.1 (.ins c (ym f y p.2)))
 |none=>False:=by
 unfold jI;rw[bt];congr 1;funext y s1;rw[bt];congr 1;funext x a;cases rH c x a with
 |none=>rfl
 |some p=>exact Kz _ _ _ _
def GF (a:b env s=.nx e s1)(N:En->S->Prop)(T:AV->S->Prop):(v8 n i sub b h env s).wp N T=N e s1:=by
 unfold v8;rw[a];rfl
def N0 (i:Nat)(r:RS)(N:En->S->Prop)(T:AV->S->Prop):(Oo i r).wp N T=r.wp (λe s=>N (e.set i none) s) T:=by cases r<;>rfl
def GD (a:b env s=.ex c s1)(d:sub c.cls=true)(N:En->S->Prop)(T:AV->S->Prop):(v8 n i sub b h env s).wp N T=(h ((Ö n none).set i (À (.ref s1.length))) (s1++[.exc c.cls])).wp (λe s=>N (e.set i none) s) T:=by
 unfold v8;rw[a];dsimp only;rw[Ë d,N0]
def j9 (h:s[i]?=À (.ins c fs)):rH c (.ref i) s=À (i,fs):=by
 unfold rH;dsimp only;rw[h];dsimp only;rw[Ë rfl]
def fo (h:s[i]?=À (.ins c fs)) (l:fs.lookup f=À v):ş c f (.ref i) s=.ok v s:=by
 unfold ş;rw[j9 h];dsimp only[need];rw[l]
structure At (B:Nat)(m:Á AO)(s:S):Prop where
 get:∀i,i<m.length->s[B+i]?=m[i]?
def At.at (h:At B m s)(e:m[i]?=À o):s[B+i]?=À o:=by
 rw[h.get i (Ç.mp e).1];exact e
def At.len (h:At B m s)(k:0<m.length):B+m.length<=s.length:=by
 have e:=h.get (m.length-1) (by lia);rw[Å (by lia:m.length-1<m.length)]at e;have:=(Ç.mp e).1;lia
def At.app (h:At B m s)(e:S):At B m (s++e):=⟨λi a=>by
 have q:=h.get i a;rw[Å a]at q⊢;rw[Ý (Ç.mp q).1];exact q⟩
def At.new (s e:S):At s.length e (s++e):=⟨λi a=>by rw[á (by lia)];congr 1;lia⟩
theorem At.set (h:At B m s)(i:Nat)(o:AO):At B (m.set i o) (s.set (B+i) o):=⟨λj a=>by
 rw[Ť]at a;by_cases e:i=j
 ·subst e;have q:=h.get i a;rw[Å a]at q;rw[Đ (Ç.mp q).1,Đ a]
 ·rw[ù (by lia),ù e];exact h.get j a⟩
def At.keep (h:At B m s)(k:∀i,B<=i->i<B+m.length->s'[i]?=s[i]?):At B m s':=⟨λi a=>by rw[k _ (by lia) (by lia)];exact h.get i a⟩
mutual
def Rp (b:Nat)(s:S):Dt->AV->Prop
 |.Ğ,v=>v=.Ğ
 |.bl _,_=>False
 |.int i,v=>v=.int i
 |.str x,v=>v=.str x
 |.tup l,v=>∃xs,v=.tup xs/\l.length<=1000/\bT b s l xs
 |.lst l,v=>∃i xs,v=.ref i/\b<=i/\ë s i=À xs/\l.length<=1000/\bT b s l xs
def bT (b:Nat)(s:S):Á Dt->Á AV->Prop
 |[],xs=>xs=[]
 |d::l,xs=>∃x r,xs=x::r/\Rp b s d x/\bT b s l r
end
mutual
theorem Rp.mono (k:∀i xs,ë s i=À xs->ë s' i=À xs):∀{d:Dt}{v:AV},Rp b s d v->Rp b s' d v
 |.Ğ,_,h=>by unfold Rp at h⊢;exact h
 |.bl _,_,h=>by unfold Rp at h;exact h.elim
 |.int _,_,h=>by unfold Rp at h⊢;exact h
 |.str _,_,h=>by unfold Rp at h⊢;exact h
 |.tup l,_,h=>by
  unfold Rp at h⊢;obtain⟨xs,e,hl,h⟩:=h;exact⟨xs,e,hl,bT.mono k h⟩
 |.lst l,_,h=>by
  unfold Rp at h⊢;obtain⟨i,xs,e,c,a,hl,h⟩:=h;exact⟨i,xs,e,c,k i xs a,hl,bT.mono k h⟩
theorem bT.mono (k:∀i xs,ë s i=À xs->ë s' i=À xs):∀{l:Á Dt}{xs:Á AV},bT b s l xs->bT b s' l xs
 |[],_,h=>by unfold bT at h⊢;exact h
 |_::_,_,h=>by
  unfold bT at h⊢;obtain⟨x,r,e,a,c⟩:=h;exact⟨x,r,e,Rp.mono k a,bT.mono k c⟩
end
def Rp.app (h:Rp b s d v)(e:S):Rp b (s++e) d v:=h.mono λ_ _ q=>ć q
def bT.app (h:bT b s l xs)(e:S):bT b (s++e) l xs:=h.mono λ_ _ q=>ć q
def bT.nil:bT b s [] []:=by unfold bT;rfl
def bT.cons {b:Nat}{s:S}{d:Dt}{v:AV}{l:Á Dt}{xs:Á AV}(h:Rp b s d v)(k:bT b s l xs):bT b s (d::l) (v::xs):=by unfold bT;exact⟨v,xs,rfl,h,k⟩
theorem bT.length:∀{l:Á Dt}{xs:Á AV},bT b s l xs->l.length=xs.length
 |[],_,h=>by unfold bT at h;subst h;rfl
 |_::_,_,h=>by
  unfold bT at h;obtain⟨x,r,rfl,_,a⟩:=h;simp[bT.length a]
def nR (s:S)(i:Int):Rp b s (.int i) (.int i):=by unfold Rp;rfl
def sG (s:S)(i:Str):Rp b s (.str i) (.str i):=by unfold Rp;rfl
def JZ (s:S):Rp b s .Ğ .Ğ:=by unfold Rp;rfl
def vY (hl:l.length<=1000)(h:bT b s l xs):Rp b s (.tup l) (.tup xs):=by unfold Rp;exact⟨xs,rfl,hl,h⟩
def pQ (e:ë s i=À xs)(a:b<=i)(hl:l.length<=1000)(h:bT b s l xs):Rp b s (.lst l) (.ref i):=by unfold Rp;exact⟨i,xs,rfl,a,e,hl,h⟩
theorem bT.map:∀{l:Á α},(∀a∈l,Rp b s (f a) (g a))->bT b s (l.map f) (l.map g)
 |[],_=>.nil
 |a::l,h=>.cons (h a (.head _)) (bT.map λb c=>h b (.tail _ c))
end Mm
namespace Ro
open PySem L2 Mm
def v9 (d:wR gs s)(h:∀p∈xs.zip ys,Ę n [p.1,p.2] s=.ok (.bl true) s) (Q:Á AV->S->Prop)(k:∀m,Q (Ö m (.bl true)) s) :
  (au (gT 2 (ï (gN 0) (ï (gN 1) aY))) iu (ó 2 (Ę n) (Ã (mv 0) (Ã (mv 1) Ø))) gs (wI xs ys) [none,none] s []).wp Q:=by
 unfold wI;refine n7 (λg a b st=>st=s/\∃r x y m,(∀p∈r,p∈xs.zip ys)/\g=(r.map λp=>AV.tup [p.1,p.2])/\b=[x,y]/\a=Ö m (.bl true)) ?_ ?_ ?_ _ _ _ _ ⟨rfl,xs.zip ys,none,none,0,λ_ h=>h,rfl,rfl,rfl⟩
 ·rintro _ _ _ st ⟨rfl,_⟩;exact d
 ·rintro a b st ⟨rfl,r,x,y,m,_,e,rfl,rfl⟩;exact k m
 ·rintro v r a b st ⟨rfl,c,x,y,m,hr,e,rfl,rfl⟩;cases c with
  |nil=>cases e
  |cons p c=>
   cases e;simp?[↓ğ (h p (hr p (.head _)))];exact⟨c,_,_,m+1,λx f=>hr x (.tail _ f),rfl,rfl,by rw[List.replicate_succ']⟩
def BR (h:xs.length=ys.length):(wI xs ys).length=xs.length:=by unfold wI;simp[h]
def Gj (hl:xs.length<=sizeLine)(a:xs.length=ys.length)(h:∀p∈xs.zip ys,Ę n [p.1,p.2] s=.ok (.bl true) s):Ę (n+1) [.tup xs,.tup ys] s=.ok (.bl true) s:=by
 apply R.wp.eq;unfold Ę du;simp?[ll,↓Mg,TG,jJ,gS,Ũ,↓OF,iX,↓ğ (Mj _ _),↓EY,GG,xv,a];refine⟨?_,?_⟩
 ·rw[BR a];exact hl
 refine v9 (by intro p b;cases b) h _ λm=>?_;unfold Gf;rw[yS];simp?[DM]
def Gi (hl:xs.length<=sizeLine)(c:xs.length=ys.length)(a:ë s i=À xs)(b:ë s j=À ys)(h:∀p∈xs.zip ys,Ę n [p.1,p.2] s=.ok (.bl true) s):Ę (n+1) [.ref i,.ref j] s=.ok (.bl true) s:=by
 apply R.wp.eq;unfold Ę du;simp?[ll,↓ğ (zk a),↓ğ (zk b),TG,jJ,gS,Ũ,↓OF,iX,↓ğ (pF a),↓ğ (pF b),↓EY,GG,xv,a,b,dc,c];refine⟨?_,?_⟩
 ·rw[BR c];exact hl
 refine v9 ?_ h _ λm=>?_
 ·intro p d;simp only[cP,av,ß,Ā,ao]at d;rcases d with rfl|rfl
  ·exact a
  ·exact b
 unfold Gf;rw[yS];simp?[DM]
def J5 (n:Nat)(s:S):Ę (n+1) [.Ğ,.Ğ] s=.ok (.bl true) s:=by
 apply R.wp.eq;unfold Ę du;simp?[ll]
mutual
theorem EI:∀{d:Dt}{v w:AV}{n:Nat},Rp b s d v->Rp b s d w->d.dep<n->Ę n [v,w] s=.ok (.bl true) s
 |_,_,_,0,_,_,h=>absurd h (Sl _)
 |.Ğ,_,_,n+1,h,k,_=>by unfold Rp at h k;subst h k;exact J5 n s
 |.bl _,_,_,n+1,h,k,_=>by unfold Rp at h;exact h.elim
 |.int _,_,_,n+1,h,k,_=>by unfold Rp at h k;subst h k;exact same_int n _ s
 |.str _,_,_,n+1,h,k,_=>by unfold Rp at h k;subst h k;exact same_str n _ s
 |.tup l,_,_,n+1,h,k,hd=>by
  unfold Rp at h k;obtain⟨xs,rfl,hl,h⟩:=h;obtain⟨g,rfl,_,k⟩:=k;have e:=h.length;have f:=k.length;have hd:aX l+1<n+1:=by simpa[Dt.dep]using hd
  exact Gj (ur (by lia)) (by lia) (v_ h k (by lia))
 |.lst l,_,_,n+1,h,k,hd=>by
  unfold Rp at h k;obtain⟨i,xs,rfl,_,a,hl,h⟩:=h;obtain⟨j,g,rfl,_,c,_,k⟩:=k;have e:=h.length;have f:=k.length;have hd:aX l+1<n+1:=by simpa[Dt.dep]using hd
  exact Gi (ur (by lia)) (by lia) a c (v_ h k (by lia))
theorem v_:∀{l:Á Dt}{xs ys:Á AV}{n:Nat},bT b s l xs->bT b s l ys->aX l<n->∀p∈xs.zip ys,Ę n [p.1,p.2] s=.ok (.bl true) s
 |[],_,_,n,h,k,_=>by
  unfold bT at h;subst h;intro p hp;simp at hp
 |d::l,_,_,n,h,k,hd=>by
  unfold bT at h k;obtain⟨x,r,rfl,a,c⟩:=h;obtain⟨y,t,rfl,e,f⟩:=k;have hd:max d.dep (aX l)<n:=by simpa[aX]using hd
  intro p hp;rw[K4]at hp;rcases ß.mp hp with rfl|hp
  ·exact EI a e (by lia)
  ·exact v_ c f (by lia) p hp
end
def kT {α:Type}(f:α->Str)(g:α->AV)(l:Á α):Á (Key×AV):=l.map λa=>(.inr (f a),g a)
def BP [kh κ] (k:κ)(v:AV)(j:κ):∀l:Á (κ×AV),ņ (g_ l k v) j=if k=j then À v else ņ l j:=by
 have f:∀l:Á (κ×AV),ņ (l++[(k,v)]) j=match ņ l j with|some w=>À w|none=>if k=j then À v else none:=by
  intro l;induction l with
  |nil=>rfl
  |cons p r c=>
   show(if p.1=j then À p.2 else ņ (r++[(k,v)]) j)=_;rw[c];show _=match (if p.1=j then À p.2 else ņ r j)with|some w=>À w|none=>if k=j then À v else none
   by_cases h:p.1=j
   ·rw[Ë h,Ë h]
   ·rw[Ñ h,Ñ h]
 have m:∀l:Á (κ×AV),(l.any λb=>decide (b.1=k))=false->ņ l k=none:=by
  intro l;induction l with
  |nil=>intro _;rfl
  |cons p r c=>
   intro h;rw[ŉ,pY]at h;unfold ņ;rw[Ñ (SV h.1)];exact c h.2
 have i:∀l:Á (κ×AV),(l.any λb=>decide (b.1=k))=true->ņ (l.map λb=>if b.1=k then (b.1,v)else b) j=if k=j then À v else ņ l j:=by
  intro l;induction l with
  |nil=>intro h;cases h
  |cons p r c=>
   intro h;rw[Ô];by_cases e:p.1=k
   ·rw[Ë e];show(if p.1=j then À v else ņ (r.map _) j)=_;rw[e];by_cases a:k=j
    ·rw[Ë a,Ë a]
    ·rw[Ñ a,Ñ a];show _=if p.1=j then À p.2 else ņ r j
     rw[e,Ñ a];clear c h;induction r with
     |nil=>rfl
     |cons q t c=>
      rw[Ô];by_cases g:q.1=k
      ·rw[Ë g];show(if q.1=j then À v else ņ (t.map _) j)=if q.1=j then À q.2 else ņ t j
       rw[g,Ñ a,Ñ a];exact c
      ·rw[Ñ g];show(if q.1=j then À q.2 else ņ (t.map _) j)=if q.1=j then À q.2 else ņ t j
       rw[c]
   ·rw[Ñ e];rw[ŉ,â e,iW]at h;show(if p.1=j then À p.2 else ņ (r.map _) j)=_;rw[c h];show _=if k=j then À v else if p.1=j then À p.2 else ņ r j
    by_cases a:k=j
    ·rw[Ë a,Ë a,Ñ (λz=>e (z.trans a.symm))]
    ·rw[Ñ a,Ñ a]
 intro l;unfold g_;by_cases d:(l.any λb=>decide (b.1=k))=true
 ·rw[Ë d];exact i l d
 ·rw[Ñ d,f];have d:(l.any λb=>decide (b.1=k))=false:=uv.mpr d;by_cases a:k=j
  ·subst a;rw[m l d,Ë rfl]
  ·rw[Ñ a,Ñ a];cases ņ l j<;>rfl
def By [kh κ] (k:κ)(v:AV)(l:Á (κ×AV)):(g_ l k v).length<=l.length+1:=by
 unfold g_;split<;>simp
theorem Dz (f:α->Str)(g:α->AV)(x:Str):∀l:Á α,ņ (kT f g l) (.inr x)=(l.find? λa=>decide (f a=x)).map g
 |[]=>rfl
 |a::r=>by
  show(if (fg (f a):Key)=fg x then À (g a)else ņ (kT f g r) (.inr x))=_;rw[Dz f g x r,dn];by_cases h:f a=x
  ·rw[Ë (by rw[h]),î h];rfl
  ·rw[Ñ (λz=>h (kX z)),â h]
def zR (h:x∈l):ņ (kT id g l) (.inr x)=À (g x):=by
 rw[Dz];cases e:l.find? λa=>decide (id a=x)with
 |none=>
  have:=KZ.mp e x h;simp at this
 |some a=>
  have:=List.find?_some e;have:a=x:=by simpa using this
  rw[this];rfl
def Sb (h:x∉l):ņ (kT id g l) (.inr x)=none:=by
 rw[Dz];have:(l.find? λa=>decide (id a=x))=none:=KZ.mpr λa b=>by
  simp only[id,Ń];intro e;exact h (e▸b)
 rw[this];rfl
theorem zP (f:α->Str)(g:α->AV):∀l:Á α,ke (kT f g l)=À (l.map f)
 |[]=>rfl
 |a::r=>by
  show(ke (kT f g r)).map (f a::·)=_;rw[zP f g r];rfl
def sE (h:x∉l)(d:v=g x):g_ (kT id g l) (.inr x) v=kT id g (l++[x]):=by
 unfold g_;have:((kT id g l).any λe=>decide (e.1=fg x))=false:=by
  rw[Lp];intro p c;obtain⟨a,b,rfl⟩:=Ļ.mp c;simp only[id,Ń];intro z;exact h (kX z▸b)
 rw[this,Ñ (by decide)];unfold kT;rw[Ĕ,d];rfl
noncomputable def jc (a:Int×Int):AV:=.tup [.int a.1,.int a.2]
abbrev Rt:Type:=Str×Int×(Int×Int)
abbrev Mo:Type:=Bool×Int×Str×Int×Int×Str
structure Wl where
 ps:Á Str
 ws:Á Str
 rs:Á Rt
 mn:Á Mo
 h:Int
def Wl.kf (_:Wl)(_:Str):Int×Int:=(0,1)
def Wl.kw (_:Wl):Á (Key×AV):=[]
abbrev rKey (x:Rt):Str×Int:=(x.1,x.2.1)
def rK (x:Rt):Á Key×AV:=(eI (rKey x),jc x.2.2)
def rE (x:Rt):AV:=.tup [.str x.1,.int x.2.1,jc x.2.2]
noncomputable def mW (b:Bool):Str:=if b then "sold" else "back"
def mE (x:Mo):AV:=.tup [.str (mW x.1),.int x.2.1,.str x.2.2.1,.int x.2.2.2.1,.int x.2.2.2.2.1,.str x.2.2.2.2.2]
noncomputable def u7 (B:Nat)(h:Int):Á (Str×AV):=[("keeps",.ref (B+1)),("rows",.ref (B+2)),("hands",.ref (B+3)),("makers",.ref (B+4)),("rates",.ref (B+5)),("half",.int h),("money",.ref (B+6)),("debts",.ref (B+7))]
noncomputable def wz (B:Nat)(h:Int):Á (Key×AV):=[(.inr "people",.ref (B+8)),(.inr "works",.ref (B+9)),(.inr "hands",.ref (B+10)),(.inr "known",.ref (B+11)),(.inr "rates",.ref (B+12)),(.inr "keeps",.ref (B+13)),(.inr "half",.int h),(.inr "money",.ref (B+15)),(.inr "debts",.ref (B+16))]
def mid (B:Nat)(V W:Wl):Á AO:=[.ins 9 (u7 B V.h),.dK (kT id (λp=>jc (V.kf p)) V.ps),.dK (kT id (λ_=>.tup []) V.ws),.dT [],.dK [],.dT (V.rs.map rK),.lst (V.mn.map mE),.lst [],
 .lst (W.ps.map .str),.dK (kT id (λ_=>.tup []) W.ws),.lst [],.dK [],.lst (W.rs.map rE),.dK W.kw,.dK (wz B W.h),.lst (W.mn.map mE),.lst []]
def lg (B:Nat)(h:Int):(u7 B h).lookup (æ "keeps")=À (AV.ref (B+1)):=by rfl
def n_ (B:Nat)(h:Int):(u7 B h).lookup (æ "rows")=À (AV.ref (B+2)):=by rfl
def HV (B:Nat)(h:Int):(u7 B h).lookup (æ "hands")=À (AV.ref (B+3)):=by rfl
def FD (B:Nat)(h:Int):(u7 B h).lookup (æ "makers")=À (AV.ref (B+4)):=by rfl
def nt (B:Nat)(h:Int):(u7 B h).lookup (æ "rates")=À (AV.ref (B+5)):=by rfl
def L5 (B:Nat)(h:Int):(u7 B h).lookup (æ "half")=À (AV.int h):=by rfl
def qs (B:Nat)(h:Int):(u7 B h).lookup (æ "money")=À (AV.ref (B+6)):=by rfl
def HU (B:Nat)(h:Int):(u7 B h).lookup (æ "debts")=À (AV.ref (B+7)):=by rfl
def A1 (B:Nat)(h:Int)(k:((["keeps","rows","hands","makers","rates","half","money","debts"]:Á Str).any λf=>m == f)=false):(u7 B h).lookup m=none:=by
 simp only[ŉ,List.any_nil,SF,pY]at k;obtain⟨a,b,c,d,e,g,i,j⟩:=k;unfold u7;simp only[ĥ,a,b,c,d,e,g,i,j,List.lookup_nil]
section
variable {B:Nat}{V W:Wl}{s:S}
def eR (h:At B (mid B V W) s):s[B]?=À (.ins 9 (u7 B V.h)):=h.at (i:=0) rfl
def lb (h:At B (mid B V W) s):jS s (B+1)=À (kT id (λp=>jc (V.kf p)) V.ps):=iy (h.at (i:=1) rfl)
def n8 (h:At B (mid B V W) s):jS s (B+2)=À (kT id (λ_=>.tup []) V.ws):=iy (h.at (i:=2) rfl)
def Hy (h:At B (mid B V W) s):Fz s (B+3)=À []:=Hx (h.at (i:=3) rfl)
def Fy (h:At B (mid B V W) s):jS s (B+4)=À []:=iy (h.at (i:=4) rfl)
def ni (h:At B (mid B V W) s):Fz s (B+5)=À (V.rs.map rK):=Hx (h.at (i:=5) rfl)
def vC (h:At B (mid B V W) s):ë s (B+6)=À (V.mn.map mE):=aQ (h.at (i:=6) rfl)
def IA (h:At B (mid B V W) s):ë s (B+7)=À []:=aQ (h.at (i:=7) rfl)
def rZ (h:At B (mid B V W) s):ë s (B+8)=À (W.ps.map .str):=aQ (h.at (i:=8) rfl)
def nh (h:At B (mid B V W) s):jS s (B+9)=À (kT id (λ_=>.tup []) W.ws):=iy (h.at (i:=9) rfl)
def IB (h:At B (mid B V W) s):ë s (B+10)=À []:=aQ (h.at (i:=10) rfl)
def Hu (h:At B (mid B V W) s):jS s (B+11)=À []:=iy (h.at (i:=11) rfl)
def nJ (h:At B (mid B V W) s):ë s (B+12)=À (W.rs.map rE):=aQ (h.at (i:=12) rfl)
def Th (h:At B (mid B V W) s):jS s (B+13)=À W.kw:=iy (h.at (i:=13) rfl)
def Oh (h:At B (mid B V W) s):jS s (B+14)=À (wz B W.h):=iy (h.at (i:=14) rfl)
def yb (h:At B (mid B V W) s):ë s (B+15)=À (W.mn.map mE):=aQ (h.at (i:=15) rfl)
def Uk (h:At B (mid B V W) s):ë s (B+16)=À []:=aQ (h.at (i:=16) rfl)
def vf (h:jS s i=À kvs):mC (.str x) (.ref i) s=.ok (.bl (ņ kvs (.inr x)).isSome) s:=by
 show(need (jS s i) λkvs=>need (fT (.str x)) λk=>R.ok (AV.bl (ņ kvs k).isSome) s)=_;rw[h];rfl
def uF (h:jS s i=À kvs):pM (.str x) (.ref i) s=.ok (.bl (!(ņ kvs (.inr x)).isSome)) s:=by
 show(need (jS s i) λkvs=>need (fT (.str x)) λk=>R.ok (AV.bl (!(ņ kvs k).isSome)) s)=_;rw[h];rfl
def ve (h:jS s i=À kvs)(e:ņ kvs (.inr x)=À v):ġ (.ref i) (.str x) s=.ok v s:=by
 show(need (jS s i) λkvs=>need (fT (.str x)) λk=>need (ņ kvs k) λv=>R.ok v s)=_;rw[h,å,show fT (.str x)=À (.inr x)from rfl,å,e];rfl
def l_:(ņ (kT id g l) (.inr x)).isSome=decide (x∈l):=by
 by_cases h:x∈l
 ·rw[zR h,î h];rfl
 ·rw[Sb h,â h];rfl
end
def jv (h:b env s=.rt v s1)(a:env=as.map À++Ö (n-as.length) none:=by rfl):dq n b as s=.ok v s1:=by subst a;unfold dq;rw[h]
def my (h:b env s=.nx e s1)(a:env=as.map À++Ö (n-as.length) none:=by rfl):dq n b as s=.ok .Ğ s1:=by subst a;unfold dq;rw[h]
def nu (h:b env s=.ex c s1)(a:env=as.map À++Ö (n-as.length) none:=by rfl):dq n b as s=.ex c s1:=by subst a;unfold dq;rw[h]
def nS (h:a env s=.ex c s1):ā a b env s=.ex c s1:=by unfold ā;rw[h]
def Ć (h:a env s=.nx e s1):ā a b env s=b e s1:=by unfold ā;rw[h]
def lX (h:m env s=.ex c s1):Ŝ m env s=.ex c s1:=by unfold Ŝ;rw[h];rfl
def a5 (h:m env s=.ok v s1):Ŝ m env s=.nx env s1:=by unfold Ŝ;rw[h];rfl
def jF (h:c env s=.ok true s1):fD c a b env s=a env s1:=by unfold fD;rw[h];rfl
def dj (h:c env s=.ok false s1):fD c a b env s=b env s1:=by unfold fD;rw[h];rfl
def mX:mv 0 (À v::l) s=.ok v s:=rfl
def xl:mv 1 (x::À v::l) s=.ok v s:=rfl
def Ux (h:s[i]?=À (.ins c fs)) (l:fs.lookup m=none)(e1:d env s=.ok (.ref i) s) (a:b env s=.ok v s):ļ c m 1 F d (Ã b Ø) env s=F [.ref i,v] s:=by
 unfold ļ Ã Ø;rw[e1,ñ,j9 h];dsimp only[need];rw[Ë l,a];rfl
def Uw (h:s[i]?=À (.ins c fs)) (l:fs.lookup m=none)(e1:a env s=.ok (.ref i) s):ļ c m 0 F a Ø env s=F [.ref i] s:=by
 unfold ļ Ø;rw[e1,ñ,j9 h];dsimp only[need];rw[Ë l];rfl
def Oz (h:a.length<=1000)(k:x.length<=1000)(e:m env s=.ok (.str x) s) (r:Ej)(Q:AV->S->Prop)(hr:∀t:Str,t.length<=2000->((r t env s).bind λt s1=>if t.length<=sizeLine then R.ok (AV.str t) s1 else .bad).wp Q):(g9 (aP (mc (.str a)) (aP (az iV m) r)) env s).wp Q:=by
 have b:(gp++a).length=a.length:=by rw[gZ];show 0+_=_;lia
 have c:(gp++a++x).length=a.length+x.length:=by rw[gZ,b]
 unfold g9 aP mc az;simp only[ñ];rw[Ë (by rw[b,ĉ];lia)];have d:iV (.str x) s=.ok (.str x) s:=Ë (by rw[ĉ];lia);simp only[e,ñ,d];rw[Ë (by rw[c,ĉ];lia)];exact hr _ (by rw[c];lia)
def join_nil (h:∀t,Q (.str t) s):∀t:Str,t.length<=2000->((nE t env s).bind λt s1=>if t.length<=sizeLine then R.ok (AV.str t) s1 else .bad).wp Q:=λt a=>by
 unfold nE;rw[ñ,Ë (by rw[ĉ];lia)];exact h t
def join_one (c:a.length<=1000)(h:∀t,Q (.str t) s):∀t:Str,t.length<=2000->((aP (mc (.str a)) nE t env s).bind λt s1=>if t.length<=sizeLine then R.ok (AV.str t) s1 else .bad).wp Q:=λt d=>by
 have b:(t++a).length=t.length+a.length:=gZ _ _;unfold aP mc nE;simp only[ñ];rw[Ë (by rw[b,ĉ];lia),ñ,Ë (by rw[b,ĉ];lia)];exact h _
def BE (h:(m env s).wp λ_ s1=>s1=s):BG c (Ã m Ø) env s=.ex ⟨c,[]⟩ s:=by
 obtain⟨v,s1,e,rfl⟩:=h.get;unfold BG Ã Ø;rw[e];rfl
section
variable {B:Nat}{V W:Wl}{s:S}
def mB (h:At B (mid B V W) s) (a:x∈V.ps):ŭ [.ref B,.str x] s=.ok .Ğ s:=by
 unfold ŭ fi;refine my (env:=[À (.ref B),À (.str x)]) (dj (s1:=s) (R.wp.eq ?_));simp?[↓ğ (fo (eR h) (lg B V.h)),↓ğ (uF (lb h)),l_,a,Ũ,iX]
def bW (h:At B (mid B V W) s) (a:x∈V.ws):ī [.ref B,.str x] s=.ok .Ğ s:=by
 unfold ī dW;refine my (env:=[À (.ref B),À (.str x)]) (dj (s1:=s) (R.wp.eq ?_));simp?[↓ğ (fo (eR h) (n_ B V.h)),↓ğ (uF (n8 h)),l_,a,Ũ,iX]
def qF (h:At B (mid B V W) s) (b:x.length<=1000)(a:x∉V.ws):ī [.ref B,.str x] s=.ex ⟨3,[]⟩ s:=by
 unfold ī dW;refine nu (env:=[À (.ref B),À (.str x)]) ((jF (s1:=s) (R.wp.eq ?_)).trans (BE (Oz (by decide) b rfl _ _ (join_nil λ_=>rfl))));simp?[↓ğ (fo (eR h) (n_ B V.h)),↓ğ (uF (n8 h)),l_,a,aZ,gS]
def A5 (h:At B (mid B V W) s) (x:Str):bG [.ref B,.str x] s=.ok (.bl (decide (x∈V.ps∨x∈V.ws))) s:=by
 apply R.wp.eq;unfold bG h8;by_cases a:x∈V.ps
 ·simp?[↓ğ (fo (eR h) (lg B V.h)),↓ğ (vf (lb h)),l_,a,Ũ,true_or]
 ·simp?[↓ğ (fo (eR h) (lg B V.h)),↓ğ (vf (lb h)),l_,a,aZ,false_or,↓ğ (fo (eR h) (n_ B V.h)),↓ğ (vf (n8 h))]
def jG (h:At B (mid B V W) s) (l:((["keeps","rows","hands","makers","rates","half","money","debts"]:Á Str).any λf=>m == f)=false) (e1:c env s=.ok (.ref B) s) (a:b env s=.ok x s):ļ 9 m 1 F c (Ã b Ø) env s=F [.ref B,x] s:=Ux (eR h) (A1 B V.h l) e1 a
def nK (h:At B (mid B V W) s) (l:((["keeps","rows","hands","makers","rates","half","money","debts"]:Á Str).any λf=>m == f)=false) (e1:a env s=.ok (.ref B) s):ļ 9 m 0 F a Ø env s=F [.ref B] s:=Uw (eR h) (A1 B V.h l) e1
def o6 (h:At B (mid B V W) s) (a:¬(x∈V.ps∨x∈V.ws)):ax [.ref B,.str x] s=.ok .Ğ s:=by
 unfold ax gF;refine my (env:=[À (.ref B),À (.str x)]) (dj (s1:=s) (R.wp.eq ?_));simp?[↓ğ ((jG (m:="has_name") h (by decide+kernel) mX xl).trans (A5 h x)),a,aZ,jJ]
def pO (h:jS s i=À kvs)(l:kvs.length<1000):putD v (.ref i) (.str x) env s=.nx env (s.set i (.dK (g_ kvs (.inr x) v))):=by
 show(match jS s i,fT (.str x)with
  |some kvs,À k=>if kvs.length<sizeLine then RS.nx env (s.set i (.dK (g_ kvs k v)))else .bad
  |_,_=>.bad)=_
 rw[h];show(if kvs.length<sizeLine then _ else _)=_;rw[Ë (by rw[ĉ];lia)]
def CK (f:α->Str)(g:α->AV)(l:Á α):(kT f g l).length=l.length:=by unfold kT;rw[Ê]
def u5 (h:At B (mid B V W) s) (a:¬(x∈V.ps∨x∈V.ws)) (hl:V.ps.length<1000)(b:V.kf x=(0,1)):Ź [.ref B,.str x] s=.ok .Ğ (s.set (B+1) (.dK (kT id (λp=>jc (V.kf p)) (V.ps++[x])))):=by
 apply R.wp.eq;unfold Ź fK;simp?[↓ğ ((jG (m:="need_free") h (by decide+kernel) mX xl).trans (o6 h a)),↓ğ (fo (eR h) (lg B V.h)),↓oQ (pO (lb h) (by rw[CK];exact hl))];rw[sE (λz=>a (.inl z)) (by rw[b];rfl)]
def yP (h:At B (mid B V W) s) (a:¬(x∈V.ps∨x∈V.ws)) (hl:V.ws.length<1000):aU [.ref B,.str x] s=.ok .Ğ (s.set (B+2) (.dK (kT id (λ_=>.tup []) (V.ws++[x])))):=by
 apply R.wp.eq;unfold aU hY;simp?[↓ğ ((jG (m:="need_free") h (by decide+kernel) mX xl).trans (o6 h a)),↓ğ (fo (eR h) (n_ B V.h)),↓oQ (pO (n8 h) (by rw[CK];exact hl))];rw[sE (g:=λ_=>.tup []) (λz=>a (.inr z)) rfl]
def Bz (h:At B (mid B V W) s) (d:Int):aV [.ref B,.int d] s=.ok .Ğ (s.set B (.ins 9 (u7 B d))):=by
 apply R.wp.eq;unfold aV ic;simp?[↓NZ,j9 (eR h)];refine⟨by show 8<1000;lia,rfl⟩
def zg (h:At B (mid B V W) s):bf [.ref B] s=.ok (.int V.h) s:=by
 apply R.wp.eq;unfold bf gD;simp?[↓ğ (fo (eR h) (L5 B V.h))]
end
end Ro
namespace Mm
open PySem L2
mutual
theorem Rp.low:∀{d:Dt}{v:AV},Rp b s d v->v.low s.length=true
 |.Ğ,_,h=>by unfold Rp at h;subst h;simp only[AV.low]
 |.bl _,_,h=>by unfold Rp at h;exact h.elim
 |.int _,_,h=>by unfold Rp at h;subst h;simp only[AV.low]
 |.str _,_,h=>by unfold Rp at h;subst h;simp only[AV.low]
 |.tup l,_,h=>by
  unfold Rp at h;obtain⟨xs,rfl,_,h⟩:=h;simp only[AV.low];exact bT.low h
 |.lst l,_,h=>by
  unfold Rp at h;obtain⟨i,xs,rfl,_,a,_⟩:=h;simp only[AV.low,Ń];exact(Ç.mp (ü a)).1
theorem bT.low:∀{l:Á Dt}{xs:Á AV},bT b s l xs->ĭ s.length xs=true
 |[],_,h=>by unfold bT at h;subst h;simp only[ĭ]
 |_::_,_,h=>by
  unfold bT at h;obtain⟨x,r,rfl,a,c⟩:=h;simp only[ĭ,Rp.low a,bT.low c];rfl
end
theorem bT.append:∀{l q:Á Dt}{xs ys:Á AV},bT b s l xs->bT b s q ys->bT b s (l++q) (xs++ys)
 |[],_,_,_,h,k=>by unfold bT at h;subst h;exact k
 |_::_,_,_,_,h,k=>by
  unfold bT at h;obtain⟨x,r,rfl,a,c⟩:=h;exact .cons a (bT.append c k)
def bT.one (h:Rp b s d v):bT b s [d] [v]:=.cons h .nil
def cM (c:Cl s)(h:bT b s l xs):Cl (s++[.lst xs]):=c.add (by
 have:=h.low;simp only[ľ,bu,AO.low,ů];exact ĭ.mono (by simp) this)
def a6 (a:b<=s.length)(hl:l.length<=1000)(h:bT b s l xs):Rp b (s++[.lst xs]) (.lst l) (.ref s.length):=pQ (Ro.Ď s xs) a hl (h.app _)
def nice (b:Nat):AV->Bool
 |.ref i=>decide (b<=i)
 |.sq _=>false
 |_=>true
structure Ct (b:Nat)(s:S):Prop where
 cl:Cl s
 nl:∀i o,b<=i->s[i]?=À o->∃xs,o=.lst xs/\xs.length<=1000/\(∀v∈xs,nice b v=true)/\ĭ i xs=true
 le:b<=s.length
theorem Rp.nice (h:Rp b s d v):nice b v=true:=by
 cases v with
 |ref i=>
  cases d with
  |lst l=>unfold Rp at h;obtain⟨j,xs,e,a,_⟩:=h;cases e;exact î a
  |Ğ=>unfold Rp at h;cases h
  |bl _=>unfold Rp at h;exact h.elim
  |int _=>unfold Rp at h;cases h
  |str _=>unfold Rp at h;cases h
  |tup _=>unfold Rp at h;obtain⟨_,e,_⟩:=h;cases e
 |sq l=>
  cases d with
  |lst l=>unfold Rp at h;obtain⟨j,xs,e,a,_⟩:=h;cases e
  |Ğ=>unfold Rp at h;cases h
  |bl _=>unfold Rp at h;exact h.elim
  |int _=>unfold Rp at h;cases h
  |str _=>unfold Rp at h;cases h
  |tup _=>unfold Rp at h;obtain⟨_,e,_⟩:=h;cases e
 |_=>rfl
theorem bT.nice:∀{l:Á Dt}{xs:Á AV},bT b s l xs->∀v∈xs,nice b v=true
 |[],_,h=>by unfold bT at h;subst h;intro v hv;cases hv
 |_::_,_,h=>by
  unfold bT at h;obtain⟨x,r,rfl,a,c⟩:=h;intro v hv;rcases ß.mp hv with rfl|hv
  ·exact a.nice
  ·exact bT.nice c v hv
def Ct.push (c:Ct b s)(hl:l.length<=1000)(h:bT b s l xs):Ct b (s++[.lst xs]):=⟨cM c.cl h,λi o a e=>by
 by_cases k:i<s.length
 ·rw[Ý k]at e;exact c.nl i o a e
 ·rw[á (by lia)]at e;have d:i-s.length=0:=by
   have:=(Ç.mp e).1;simp at this;lia
  rw[d]at e;cases e;exact⟨xs,rfl,by rw[<-h.length];exact hl,h.nice,by have:=h.low;rwa [show i=s.length by lia]⟩,by have:=c.le;simp;lia⟩
def Ct.start (c:Cl s):Ct s.length s:=⟨c,λi o a e=>absurd (Ç.mp e).1 (by lia),Î _⟩
def yO (h:Rp b s (.lst l) v) (k:Rp b s (.lst q) w) (hl:l.length+q.length<=1000)(e:b<=s.length):∃xs,Ł v w s=.ok (.ref s.length) (s++[.lst xs])/\bT b s (l++q) xs/\Rp b (s++[.lst xs]) (.lst (l++q)) (.ref s.length):=by
 unfold Rp at h k;obtain⟨i,xs,rfl,_,d,_,a⟩:=h;obtain⟨j,g,rfl,_,f,_,c⟩:=k;have m:=a.length;have n:=c.length;refine⟨xs++g,Hn d f (ur (by lia)),a.append c,a6 e (by simp;lia) (a.append c)⟩
def jt:au tgt b elt [] [] env s a=.ok a s:=by unfold au;exact Ë (show wR [] s from λp c=>nomatch c)
def kg (h:ë s i=À xs):Kn (.ref i) s=.ok (xs,[(i,xs)]) s:=by
 show(need (ë s i) λxs=>R.ok (xs,[(i,xs)]) s)=_;rw[h];rfl
def ng {b:Nat}(C:S->Prop){names:Á Str}{i:Nat}{s:S}{elt:Ev}{x0:Ð AV}{rest:En}(f:Str->Dt)(t:ë s i=À (names.map AV.str)) (c:C s)
  (h:∀x∈names,∀e,C (s++e)->(elt (À (.str x)::rest) (s++e)).wp λv s'=>∃j,s'=s++e++j/\C s'/\Rp b s' (f x) v) :
  (au (gN 0) iu elt [(i,names.map AV.str)] (names.map AV.str) (x0::rest) s []).wp λa s'=>∃e,s'=s++e/\C s'/\bT b s' (names.map f) a:=by
 refine n7 (λxs a d st=>∃done r x e,names=done++r/\xs=r.map AV.str/\d=x::rest/\st=s++e/\C st/\bT b st (done.map f) a) ?_ ?_ ?_ _ _ _ _ ⟨[],names,x0,[],rfl,rfl,rfl,by simp,c,.nil⟩
 ·rintro _ _ _ st ⟨_,_,_,e,_,_,_,rfl,_⟩ p u;rw[ð.mp u];exact ć t
 ·rintro a d st ⟨done,r,x,e,g,k,rfl,rfl,l,m⟩;cases r with
  |cons=>cases k
  |nil=>rw[a8]at g;subst g;exact⟨e,rfl,l,m⟩
 ·rintro v r a d st ⟨done,n,x,e,g,k,rfl,rfl,l,m⟩;cases n with
  |nil=>cases k
  |cons y n=>
   cases k;walk_at"w";refine(h y (by rw[g];simp) e l).mono ?_;rintro v s' ⟨j,rfl,o,q⟩;exact⟨done++[y],n,_,e++j,by rw[g];simp,rfl,rfl,by simp,o,by rw[Ĕ];exact(m.app j).append (.one q)⟩
def lV (c:tgt v env s=.nx e1 s)(d:a e1 s=.ok true s)(e:elt e1 s=.ok x s)(f:wR gs s:=by exact λp g=>nomatch g):au tgt a elt gs (v::r) env s b=au tgt a elt gs r e1 s (b++[x]):=by
 rw[au,Ë f,c];dsimp only;rw[d];show(if true=true then (elt e1 s).calm.bind λx h=>au tgt a elt gs r e1 h (b++[x])else au tgt a elt gs r e1 s b)=_;rw[Ë rfl,e];rfl
def da (c:tgt v env s=.nx e1 s)(d:a e1 s=.ok false s)(e:wR gs s:=by exact λp f=>nomatch f):au tgt a elt gs (v::r) env s b=au tgt a elt gs r e1 s b:=by
 rw[au,Ë e,c];dsimp only;rw[d];show(if false=true then (elt e1 s).calm.bind λx g=>au tgt a elt gs r e1 g (b++[x])else au tgt a elt gs r e1 s b)=_;rw[Ñ (by decide)]
end Mm
namespace Ro
open PySem L2 Mm
abbrev Bc:Str:="by_days.<locals>.<lambda>"
abbrev Be:Str:="_law_worth.<locals>.<lambda>"
structure Tb (s:S):Prop where
 a:s.any (tabAt 20 Bc)=true
 b:s.any (tabAt 21 Be)=true
def Tb.app (h:Tb s)(e:S):Tb (s++e):=⟨by rw[OV,h.a];rfl,by rw[OV,h.b];rfl⟩
structure iP (B:Nat)(V W:Wl)(s:S):Prop where
 at_:At B (mid B V W) s
 cl:Cl s
 tab:Tb s
theorem iP.app {B:Nat}{V W:Wl}{s e:S}(h:iP B V W s)(c:Cl (s++e)):iP B V W (s++e):=⟨h.at_.app e,c,h.tab.app e⟩
def xj {B:Nat}{V W:Wl}{s:S}(h:At B (mid B V W) s) {f:Str}{v:AV}{l:En}(k:(u7 B V.h).lookup f=À v):az (ş 9 f) (mv 0) (À (.ref B)::l) s=.ok v s:=by
 unfold az;rw[mX,ñ];exact fo (eR h) k
def zI (h:jS s i=À kvs)(t:ke kvs=À ks)(l:ks.length<64)(e:m env s=.ok (.ref i) s):pB m env s=.ok ((ė ks).map AV.str) s:=by
 unfold pB;rw[e,ñ];dsimp only;rw[h,å,t,å,Ë l]
def jU (l:Á Rt):Á Rt:=l.mergeSort λa b=>vz (rKey a) (rKey b)
def sF (l:Á Rt):(jU l).Perm l:=fv ..
def BB (l:Á Rt):(jU l).length=l.length:=(sF l).length_eq
def BC (l:Á Rt):(jU l).Pairwise λa b=>vz (rKey a) (rKey b)=true:=
 f' (le:=λa b=>vz (rKey a) (rKey b)) (λa b c h k=>rY h k) (λa b=>rX _ _) l
def iE (x:Rt):AV:=.tup [.tup [.str x.1,.int x.2.1],jc x.2.2]
theorem yl:∀l:Á Rt,pN (l.map rK)=À (l.map rKey)
 |[]=>rfl
 |x::r=>by
  show(pN (r.map rK)).map (rKey x::·)=_;rw[yl r];rfl
theorem sI:∀{l:Á Rt}{x:Rt},(l.map rKey).Nodup->x∈l->ņ (l.map rK) (eI (rKey x))=À (jc x.2.2)
 |y::r,x,nd,h=>by
  rw[Ô,a9]at nd;show(if eI (rKey y)=eI (rKey x)then À (jc y.2.2)else ņ (r.map rK) (eI (rKey x)))=_;rcases ß.mp h with rfl|h
  ·rw[Ë rfl]
  ·rw[Ñ λz=>nd.1 (by rw[nG (a:=rKey y) (b:=rKey x) z];exact Ļ.mpr ⟨x,h,rfl⟩)];exact sI nd.2 h
def BI (h:Fz s i=À (l.map rK)) (nd:(l.map rKey).Nodup) (hl:l.length<64)(e:m env s=.ok (.ref i) s):lY m env s=.ok ((jU l).map iE) s:=by
 unfold lY;rw[e,ñ];dsimp only;rw[h,å,yl,å,Ë (by rw[Ê];exact hl)];congr 1;rw[<-wg ((sF l).map rKey) (dJ.mpr (BC l)),cb];refine cE λx a=>?_;show AV.tup [.tup [.str x.1,.int x.2.1],(ņ (l.map rK) (eI (rKey x))).getD .Ğ]=_;rw[sI nd ((sF l).mem_iff.mp a)];rfl
theorem vb (s:S):∀(l:Á Rt) (a b c:Ð AV) (d:Á AV),au (gT 2 (ï (gT 2 (ï (gN 1) (ï (gN 2) aY))) (ï (gN 0) aY))) iu (cA (Ã (mv 1) (Ã (mv 2) (Ã (mv 0) Ø)))) [] (l.map iE) [a,b,c] s d=.ok (d++l.map rE) s
 |[],a,b,c,d=>by rw[Ų,jt];simp
 |x::r,a,b,c,d=>by
  have e:cA (Ã (mv 1) (Ã (mv 2) (Ã (mv 0) Ø))) [À (jc x.2.2),À (.str x.1),À (.int x.2.1)] s=.ok (rE x) s:=by
   apply R.wp.eq;walk_at"w";rfl
  rw[Ô,lV (e1:=[À (jc x.2.2),À (.str x.1),À (.int x.2.1)]) rfl rfl e,vb s r];simp
def Ab:Mo:=(true,0,⟨#[]⟩,0,0,⟨#[]⟩)
def f_ (l:Á Mo):Á Mo:=(zo (l.map (·.2.1))).map λi=>l.getD i Ab
def zp {ds:Á Int}(h:i∈zo ds):i<ds.length:=by simpa using(g7 ds).mem_iff.mp h
def Nk (l:Á Mo)(g:AV->Int)(b:(l.map mE).map g=l.map (·.2.1)):pick (l.map mE) (zo ((l.map mE).map g))=(f_ l).map mE:=by
 unfold pick f_;rw[b,cb];refine cE λi a=>?_;have a:=zp a;rw[Ê]at a;simp[ä,a]
def yT (l:Á Mo):(f_ l).length=l.length:=by
 unfold f_;rw[Ê,(g7 _).length_eq,dI,Ê]
def yU:f_ []=[]:=List.eq_nil_of_length_eq_zero (yT [])
def kM (b:Nat)(l:Á Mo):ĭ b (l.map mE)=true:=by
 induction l with
 |nil=>simp[ĭ]
 |cons x r a=>rw[Ô];simp only[ĭ,a,mE,AV.low];rfl
section
variable {B:Nat}{V W:Wl}{s:S}
def uq (h:At B (mid B V W) s) (l:V.ps.length<64):ſ [.ref B] s=.ok (.ref s.length) (s++[.lst ((ė V.ps).map AV.str)]):=by
 apply R.wp.eq;unfold ſ eF;simp?[↓ğ (zI (lb h) (zP _ _ _) (by rw[lJ];exact l) (xj h (lg B V.h))),lJ]
def o9 (h:At B (mid B V W) s) (l:V.ws.length<64):Ŗ [.ref B] s=.ok (.ref s.length) (s++[.lst ((ė V.ws).map AV.str)]):=by
 apply R.wp.eq;unfold Ŗ fM;simp?[↓ğ (zI (n8 h) (zP _ _ _) (by rw[lJ];exact l) (xj h (n_ B V.h))),lJ]
def BD (h:At B (mid B V W) s) (a:x∈V.ws):cw [.ref B,.str x] s=.ok (.tup []) s:=by
 apply R.wp.eq;unfold cw jm;simp?[↓ğ ((jG (m:="need_work") h (by decide+kernel) mX xl).trans (bW h a)),↓ğ (fo (eR h) (n_ B V.h)),↓ğ (ve (n8 h) (zR a))]
def Ba (h:At B (mid B V W) s) (a:x∈V.ps):cu [.ref B,.str x] s=.ok (jc (V.kf x)) s:=by
 apply R.wp.eq;unfold cu jl;simp?[↓ğ ((jG (m:="need_person") h (by decide+kernel) mX xl).trans (mB h a)),↓ğ (fo (eR h) (lg B V.h)),↓ğ (ve (lb h) (zR a))]
def zh (h:At B (mid B V W) s) {x:Str}(b:x∈V.ps):bF [.ref B,.str x] s=.ok (.ref s.length) (s++[.lst []]):=by
 apply R.wp.eq;unfold bF hZ;have a:∀l,lY (az (ş 9 "hands") (mv 0)) (À (.ref B)::l) s=.ok [] s:=λl=>(BI (l:=[]) (Hy h) .nil (by decide) (xj h (HV B V.h))).trans (by simp[jU]);simp?[↓ğ ((jG (m:="need_person") h (by decide+kernel) mX xl).trans (mB h b)),↓ğ (a _),↓ğ jt,bZ,ÿ]
def vr (h:jS s i=À kvs):(lu "dict" (.ref i) s).isSome=true:=by
 have e:=j6 h;unfold lu;simp only[e];rfl
def D' (h:jS s i=À kvs)(e1:d env s=.ok (.ref i) s) (a:y env s=.ok (.str x) s):yd d y env s=.ok ((ņ kvs (.inr x)).getD .Ğ) s:=by
 obtain⟨u,b⟩:=cg.mp (vr h);unfold yd;rw[e1,ñ,b,å,a,ñ];show(need (jS s i) λkvs=>need (fT (.str x)) λk=>R.ok ((ņ kvs k).getD .Ğ) s)=_;rw[h];rfl
def zq (h:At B (mid B V W) s) {x:Str}(a:x∈V.ws):bH [.ref B,.str x] s=.ok .Ğ s:=by
 apply R.wp.eq;unfold bH h_;simp?[↓ğ ((jG (m:="need_work") h (by decide+kernel) mX xl).trans (bW h a)),↓ğ (D' (Fy h) (xj h (FD B V.h)) xl)];rfl
def zE (h:At B (mid B V W) s) (nd:(V.rs.map rKey).Nodup) (hl:V.rs.length<64):bg [.ref B] s=.ok (.ref s.length) (s++[.lst ((jU V.rs).map rE)]):=by
 apply R.wp.eq;unfold bg gG;simp?[↓ğ (BI (ni h) nd hl (xj h (nt B V.h)))];refine⟨ur (by rw[Ê,BB];lia),?_⟩;rw[ğ (vb s (jU V.rs) _ _ _ _)];exact⟨rfl,rfl⟩
def u9 (h:ë s i=À (l.map mE)) (hl:l.length<64)(t:Tb s):aO [.ref i] s=.ok (.ref s.length) (s++[.lst ((f_ l).map mE)]):=by
 apply R.wp.eq;have e:∀q,nz 20 Bc (mv 0) (À (.ref i)::q) s=.ok ((f_ l).map mE) s:=λq=>by
  unfold nz;rw[mX,ñ];dsimp only;have b:(l.map mE).all vt=true:=by
   rw[ú];intro v c;obtain⟨x,_,rfl⟩:=Ļ.mp c;rfl
  rw[h,å,Ë ⟨b,by rw[Ê];exact hl,t.a⟩,Nk l y8 (by rw[cb];rfl)]
 unfold aO rk;simp?[↓ğ (e _)]
def Ki (c:Cl s)(lo:ĭ s.length xs=true)(e:m env s=.ok (.ref s.length) (s++[.lst xs])):fU m env s=.ok xs s:=by
 apply R.wp.eq;simp?[↓ğ e,Ď,↓lF,ţ];exact⟨Î _,c,lo⟩
def DX (h:iP B V W s)(k:(u7 B V.h).lookup f=À (.ref i)) (a:ë s i=À (l.map mE)) (hl:l.length<64):∀q,fU (ó 1 aO (Ã (az (ş 9 f) (mv 0)) Ø)) (À (.ref B)::q) s=.ok ((f_ l).map mE) s:=λq=>Ki h.cl (kM _ _) (by
 unfold ó Ã Ø;rw[xj h.at_ k];exact u9 a hl h.tab)
def oZ (h:iP B V W s)(hl:V.mn.length<64):ŕ [.ref B] s=.ok (.ref s.length) (s++[.lst ((f_ V.mn).map mE)]):=by
 apply R.wp.eq;unfold ŕ fL;simp?[↓ğ (DX h (qs B V.h) (vC h.at_) hl _)]
def y9 (h:iP B V W s):bc [.ref B] s=.ok (.ref s.length) (s++[.lst []]):=by
 apply R.wp.eq;unfold bc gC;simp?[↓ğ (DX (l:=[]) h (HU B V.h) (IA h.at_) (by decide) _)];rw[yU];rfl
end
noncomputable def rD (x:Rt):Dt:=.tup [.str x.1,.int x.2.1,.tup [.int x.2.2.1,.int x.2.2.2]]
def mD (x:Mo):Dt:=.tup [.str (mW x.1),.int x.2.1,.str x.2.2.1,.int x.2.2.2.1,.int x.2.2.2.2.1,.str x.2.2.2.2.2]
def wu (V:Wl):Á Dt:=[.lst ((ė V.ps).map .str),.lst ((ė V.ws).map .str),.lst ((ė V.ws).map λ_=>.tup []),.lst ((ė V.ps).map λ_=>.lst [])]
def BN (V:Wl):Á Dt:=[.lst ((ė V.ws).map λ_=>.Ğ),.lst ((ė V.ps).map λp=>.tup [.int (V.kf p).1,.int (V.kf p).2])]
def BO (V:Wl):Á Dt:=[.lst ((jU V.rs).map rD),.int V.h,.lst ((f_ V.mn).map mD),.lst []]
def told (V:Wl):Dt:=.lst (wu V++BN V++BO V)
def eU (s:S)(l:Á Str):bT b s (l.map Dt.str) (l.map AV.str):=bT.map λa _=>sG s a
def CY (c:Cl s):Cl (s++[.lst []]):=cM (b:=0) (l:=[]) c .nil
def Jm (c:Ct b s):Ct b (s++[.lst []]):=c.push (l:=[]) (by simp) .nil
def CZ (a:b<=s.length):Rp b (s++[.lst []]) (.lst []) (.ref s.length):=a6 a (by simp) .nil
def Dj (s:S)(a:Int×Int):Rp b s (.tup [.int a.1,.int a.2]) (jc a):=vY (by simp) (.cons (nR s _) (.one (nR s _)))
def oq (s:S)(l:Á Rt):bT b s (l.map rD) (l.map rE):=bT.map λx _=>vY (by simp) (.cons (sG s _) (.cons (nR s _) (.one (Dj s _))))
def oo (s:S)(l:Á Mo):bT b s (l.map mD) (l.map mE):=bT.map λx _=>vY (by simp) (.cons (sG s _) (.cons (nR s _) (.cons (sG s _) (.cons (nR s _) (.cons (nR s _) (.one (sG s _)))))))
def Iv (h:l.length<64):((f_ l).map mD).length<=1000:=by rw[Ê,yT];lia
def Qa (h:l.length<64):((jU l).map rD).length<=1000:=by rw[Ê,BB];lia
def lA:x∈ė l ↔ x∈l:=(mu l).mem_iff
def kL (h:l.length<64)(f:Str->α):((ė l).map f).length<=1000:=by rw[Ê,Gp];lia
def OO (h:l.length<64)(f:Str->α):((ė l).map f).length<=sizeLine:=ur (kL h f)
def Vh:([a,b,c,d].length<=sizeLine)=True:=i6 (ur (by show 4<=1000;lia))
section
variable {B:Nat}{V W:Wl}{s:S}
def AA (hb:b=s.length)(h:iP B V W s)(C:V.ps.length<64)(D:V.ws.length<64)(lh:V.rs.length<64)(lm:V.mn.length<64)(nd:(V.rs.map rKey).Nodup):(ai [.ref B] s).wp λv s'=>∃e,s'=s++e/\Ct b s'/\Rp b s' (told V) v:=by
 have c0:Ct b s:=by rw[hb];exact Ct.start h.cl
 have c1:Ct b (s++[.lst ((ė V.ws).map AV.str)]):=c0.push (kL D Dt.str) (eU _ _);have h1:=h.app c1.cl;have c2:Ct b (s++[.lst ((ė V.ws).map AV.str)]++[.lst ((ė V.ps).map AV.str)]):=c1.push (kL C Dt.str) (eU _ _);have h2:=h1.app c2.cl;have bip:b<=(s++[AO.lst ((ė V.ws).map AV.str)]).length:=c1.le;have biw:b<=s.length:=c0.le;clear hb c0;have hw:ë (s++[.lst ((ė V.ws).map AV.str)]++[.lst ((ė V.ps).map AV.str)]) s.length=À ((ė V.ws).map AV.str):=ć (Ď _ _);have hp:ë (s++[.lst ((ė V.ws).map AV.str)]++[.lst ((ė V.ps).map AV.str)]) (s++[AO.lst ((ė V.ws).map AV.str)]).length=À ((ė V.ps).map AV.str):=Ď _ _;unfold ai ij;rw[WS.2.2.2.2.2.2.2.2.2.2.2.2.2.2.2.1];refine Ľ λK E=>?_;simp?[↓ğ ((nK (m:="work_names") h.at_ (by decide+kernel) mX).trans (o9 h.at_ D)),↓ğ ((nK (m:="person_names") h1.at_ (by decide+kernel) mX).trans (uq h1.at_ C))];rw[E];clear E K;rw[È]at *
 generalize ([AO.lst ((ė V.ws).map AV.str)]++[AO.lst ((ė V.ps).map AV.str)])=e0 at *
 generalize (s++[AO.lst ((ė V.ws).map AV.str)]).length=P at *
 generalize s.length=Y at *
 clear h1 c1;refine Ľ λK E=>?_;simp?[↓ğ (kg hw),Vh];refine⟨OO D _,(ng (b:=b) (Ct b) (λ_=>Dt.tup []) hw c2 ?_).mono ?_⟩
 ·intro x O e d;rw[ğ ((jG (m:="rows_of") (h2.app d.cl).at_ (by decide+kernel) xl mX).trans (BD (h2.app d.cl).at_ (lA.mp O)))];exact⟨[],by simp,d,vY (by simp) .nil⟩
 rintro c s3 ⟨e1,rfl,c3,r3⟩;have c4:=c3.push (kL D _) r3;have p4:=a6 c3.le (kL D _) r3;have X:iP B V W (s++e0++e1++[.lst c]):=by rw[È];exact h2.app (by rw[<-È];exact c4.cl)
 have y:ë (s++e0++e1++[.lst c]) Y=À ((ė V.ws).map AV.str):=ć (ć hw);have f:ë (s++e0++e1++[.lst c]) P=À ((ė V.ps).map AV.str):=ć (ć hp);rw[È,È]at c4 p4 X y f
 (try simp only[È]);(try simp only[È]at c4);(try simp only[È]at p4);(try simp only[È]at X);(try simp only[È]at y);(try simp only[È]at f)
 generalize e0++(e1++[AO.lst c])=k at *
 generalize (s++(e0++e1)).length=ir at *
 clear r3 c3 h2 c2 hw hp;simp?[↓ğ (kg f),Vh];refine⟨OO C _,(ng (b:=b) (Ct b) (λ_=>Dt.lst []) f c4 ?_).mono ?_⟩
 ·intro x O e d;rw[ğ ((jG (m:="hands_of") (X.app d.cl).at_ (by decide+kernel) xl mX).trans (zh (X.app d.cl).at_ (lA.mp O)))];exact⟨_,rfl,Jm d,CZ d.le⟩
 rintro a s5 ⟨i,rfl,c5,r5⟩;have c6:=c5.push (kL C _) r5;have p6:=a6 c5.le (kL C _) r5;have ZW:Rp b (s++k++i++[.lst a]) (.lst ((ė V.ws).map λ_=>.tup [])) (.ref ir):=(p4.app i).app _;have h6:iP B V W (s++k++i++[.lst a]):=by rw[È];exact X.app (by rw[<-È];exact c6.cl)
 have N:ë (s++k++i++[.lst a]) Y=À ((ė V.ws).map AV.str):=ć (ć y);have L:ë (s++k++i++[.lst a]) P=À ((ė V.ps).map AV.str):=ć (ć f);have rA:bT b (s++k++i++[.lst a]) (wu V) [.ref P,.ref Y,.ref ir,.ref (s++k++i).length]:=.cons (pQ L bip (kL C _) (eU _ _)) (.cons (pQ N biw (kL D _) (eU _ _)) (.cons ZW (.one p6)));have c7:=c6.push (show(wu V).length<=1000 by show 4<=1000;lia) rA;have p7:=a6 c6.le (show(wu V).length<=1000 by show 4<=1000;lia) rA;have h7:=h6.app c7.cl;have z:=ć (e:=[.lst [.ref P,.ref Y,.ref ir,.ref (s++k++i).length]]) N;have M:=ć (e:=[.lst [.ref P,.ref Y,.ref ir,.ref (s++k++i).length]]) L;clear rA c6 p6 ZW h6 N L r5 c5 X c4 y f p4
 (try simp only[È]);(try simp only[È]at c7);(try simp only[È]at p7);(try simp only[È]at h7);(try simp only[È]at z);(try simp only[È]at M)
 generalize k++(i++([AO.lst a]++[AO.lst [.ref P,.ref Y,.ref ir,.ref (s++(k++i)).length]]))=e5 at *
 generalize (s++(k++(i++[AO.lst a]))).length=ia at *
 rw[E];clear E K;refine Ľ λK E=>?_;simp?[↓ğ (kg z),Vh];refine⟨OO D _,(ng (b:=b) (Ct b) (λ_=>.Ğ) z c7 ?_).mono ?_⟩
 ·intro x O e d;rw[ğ ((jG (m:="known_of") (h7.app d.cl).at_ (by decide+kernel) xl mX).trans (zq (h7.app d.cl).at_ (lA.mp O)))];exact⟨[],by simp,d,JZ _⟩
 rintro A s8 ⟨U,rfl,c8,r8⟩;have c9:=c8.push (kL D _) r8;have p9:=a6 c8.le (kL D _) r8;have Q:Rp b (s++e5++U++[.lst A]) (.lst (wu V)) (.ref ia):=(p7.app U).app _;have h9:iP B V W (s++e5++U++[.lst A]):=by rw[È];exact h7.app (by rw[<-È];exact c9.cl)
 have w:ë (s++e5++U++[.lst A]) P=À ((ė V.ps).map AV.str):=ć (ć M)
 (try simp only[È]);(try simp only[È]at c9);(try simp only[È]at p9);(try simp only[È]at Q);(try simp only[È]at h9);(try simp only[È]at w)
 generalize e5++(U++[AO.lst A])=n at *
 generalize (s++(e5++U)).length=ik at *
 clear r8 c8 h7 c7 z M p7;simp?[↓ğ (kg w),Vh];refine⟨OO C _,(ng (b:=b) (Ct b) (λp=>Dt.tup [.int (V.kf p).1,.int (V.kf p).2]) w c9 ?_).mono ?_⟩
 ·intro x O e d;rw[ğ ((jG (m:="keep_of") (h9.app d.cl).at_ (by decide+kernel) xl mX).trans (Ba (h9.app d.cl).at_ (lA.mp O)))];exact⟨[],by simp,d,Dj _ _⟩
 rintro g s10 ⟨j,rfl,H,T⟩;have o:=H.push (kL C _) T;have ZS:=a6 H.le (kL C _) T;have F:Rp b (s++n++j++[.lst g]) (.lst (wu V)) (.ref ia):=(Q.app j).app _;have G:Rp b (s++n++j++[.lst g]) (.lst ((ė V.ws).map λ_=>.Ğ)) (.ref ik):=(p9.app j).app _;have TF:iP B V W (s++n++j++[.lst g]):=by rw[È];exact h9.app (by rw[<-È];exact o.cl)
 have rB:bT b (s++n++j++[.lst g]) (BN V) [.ref ik,.ref (s++n++j).length]:=.cons G (.one ZS);have q:=o.push (show(BN V).length<=1000 by show 2<=1000;lia) rB;have ZT:=a6 o.le (show(BN V).length<=1000 by show 2<=1000;lia) rB;obtain⟨ys,ey,ZX,ZU⟩:=yO (F.app [.lst [.ref ik,.ref (s++n++j).length]]) ZT (by show 4+2<=1000;lia) q.le;have r:=q.push (by show 6<=1000;lia) ZX;simp only[<-È];rw[ğ ey];have u:=(TF.app q.cl).app r.cl;clear ZX rB q ZT ey F G ZS TF o T H h9 c9 w p9 Q
 (try simp only[È]);(try simp only[È]at r);(try simp only[È]at ZU);(try simp only[È]at u)
 generalize n++(j++([AO.lst g]++([AO.lst [.ref ik,.ref (s++(n++j)).length]]++[AO.lst ys])))=t at *
 generalize (s++(n++(j++([AO.lst g]++[AO.lst [.ref ik,.ref (s++(n++j)).length]])))).length=ib at *
 rw[E];clear E K;have I:=r.push (Qa lh) (oq _ _);have l:=u.app I.cl;have J:=I.push (Iv lm) (oo _ _);have Zz:=l.app J.cl;have Z:=Jm J;simp?[↓ğ ((nK (m:="rate_list") u.at_ (by decide+kernel) mX).trans (zE u.at_ nd lh)),↓ğ ((nK (m:="half_days") l.at_ (by decide+kernel) mX).trans (zg l.at_)),↓ğ ((nK (m:="money_list") l.at_ (by decide+kernel) mX).trans (oZ l lm)),↓ğ ((nK (m:="debt_list") Zz.at_ (by decide+kernel) mX).trans (y9 Zz)),Vh];have rC:bT b (s++t++[.lst ((jU V.rs).map rE)]++[.lst ((f_ V.mn).map mE)]++[.lst []]) (BO V) [.ref (s++t).length,.int V.h,.ref (s++t++[AO.lst ((jU V.rs).map rE)]).length,.ref (s++t++[AO.lst ((jU V.rs).map rE)]++[AO.lst ((f_ V.mn).map mE)]).length]:=.cons (((a6 r.le (Qa lh) (oq _ _)).app _).app _) (.cons (nR _ _) (.cons ((a6 I.le (Iv lm) (oo _ _)).app _) (.one (CZ J.le))));have Zt:=Z.push (show(BO V).length<=1000 by show 4<=1000;lia) rC;have p17:=a6 Z.le (show(BO V).length<=1000 by show 4<=1000;lia) rC;obtain⟨zs,ez,r18,p18⟩:=yO ((((ZU.app _).app _).app _).app _) p17 (by show 6+4<=1000;lia) Zt.le;have c18:=Zt.push (by show 10<=1000;lia) r18;rw[ğ ez];exact⟨_,by simp only[È];rfl,c18,p18⟩
end
end Ro
namespace Mm
open PySem L2
def Lh (f:Nat)(st:S)(d:Dt)(v:AV):Prop:=f<st.length/\∀o,Rp 0 (st.set f o) d v
def kq (f:Nat)(st:S)(l:Á Dt)(xs:Á AV):Prop:=f<st.length/\∀o,bT 0 (st.set f o) l xs
def EJ {f:Nat}{st e:S}(h:f<st.length)(o:AO):(st++e).set f o=st.set f o++e:=GJ f o h
theorem Lh.app {f:Nat}{st:S}{d:Dt}{v:AV}(h:Lh f st d v)(e:S):Lh f (st++e) d v:=⟨by have:=h.1;simp;lia,λo=>by rw[EJ h.1];exact(h.2 o).app e⟩
theorem kq.app {f:Nat}{st:S}{l:Á Dt}{xs:Á AV}(h:kq f st l xs)(e:S):kq f (st++e) l xs:=⟨by have:=h.1;simp;lia,λo=>by rw[EJ h.1];exact(h.2 o).app e⟩
theorem kq.set (h:kq f st l xs)(o:AO):kq f (st.set f o) l xs:=⟨by rw[Ť];exact h.1,λa=>by rw[VH];exact h.2 a⟩
def kq.RL (h:kq f st l xs):bT 0 st l xs:=by
 have:=h.2 (st[f]'h.1);rwa [E6]at this
theorem kq.append (h:kq f st l xs)(k:kq f st q ys):kq f st (l++q) (xs++ys):=⟨h.1,λo=>(h.2 o).append (k.2 o)⟩
theorem kq.one (h:Lh f st d v):kq f st [d] [v]:=⟨h.1,λo=>.one (h.2 o)⟩
def vD (n:i≠f)(h:ë st i=À xs)(o:AO):ë (st.set f o) i=À xs:=aQ (by rw[ù (Ō n)];exact ü h)
def NG (n:i≠f)(e:ë st i=À xs)(hl:l.length<=1000)(h:kq f st l xs):Lh f st (.lst l) (.ref i):=⟨h.1,λo=>pQ (vD n e o) (ÿ _) hl (h.2 o)⟩
def OJ (hl:l.length<=1000)(h:kq f st l xs):Lh f (st++[.lst xs]) (.lst l) (.ref st.length):=NG (ħ h.1) (Ro.Ď st xs) hl (h.app _)
def PL (Q:Str->AV->Prop):Á Str->Á AV->Prop
 |[],xs=>xs=[]
 |x::r,xs=>∃v t,xs=v::t/\Q x v/\PL Q r t
theorem PL.mono (k:∀x v,Q x v->A x v):∀{l:Á Str}{xs:Á AV},PL Q l xs->PL A l xs
 |[],_,h=>h
 |_::_,_,⟨v,t,e,a,b⟩=>⟨v,t,e,k _ _ a,PL.mono k b⟩
theorem PL.snoc (a:Q y v):∀{l:Á Str}{xs:Á AV},PL Q l xs->PL Q (l++[y]) (xs++[v])
 |[],_,h=>by cases h;exact⟨v,[],rfl,a,rfl⟩
 |_::_,_,⟨w,t,e,b,c⟩=>by cases e;exact⟨w,t++[v],rfl,b,PL.snoc a c⟩
theorem PL.RL:∀{l:Á Str}{xs:Á AV},PL (λx v=>Rp 0 s (f x) v) l xs->bT 0 s (l.map f) xs
 |[],_,h=>by cases h;exact .nil
 |_::_,_,⟨w,t,e,a,b⟩=>by cases e;exact .cons a (PL.RL b)
def Fv {names:Á Str}{i:Nat}{s:S}{elt:Ev}{x0:Ð AV}{rest:En}(P:S->Str->AV->Prop)(mono:∀st e x v,P st x v->P (st++e) x v) (o:ë s i=À (names.map AV.str)) (c:Cl s)
  (h:∀x∈names,∀e,Cl (s++e)->(elt (À (.str x)::rest) (s++e)).wp λv s'=>∃f,s'=s++e++f/\Cl s'/\P s' x v) :
  (au (gN 0) iu elt [(i,names.map AV.str)] (names.map AV.str) (x0::rest) s []).wp λa s'=>∃e,s'=s++e/\Cl s'/\PL (P s') names a:=by
 refine n7 (λxs a b st=>∃done r x e,names=done++r/\xs=r.map AV.str/\b=x::rest/\st=s++e/\Cl st/\PL (P st) done a) ?_ ?_ ?_ _ _ _ _ ⟨[],names,x0,[],rfl,rfl,rfl,by simp,c,rfl⟩
 ·rintro _ _ _ st ⟨_,_,_,e,_,_,_,rfl,_⟩ p t;rw[ð.mp t];exact ć o
 ·rintro a b st ⟨done,r,x,e,d,g,rfl,rfl,j,k⟩;cases r with
  |cons=>cases g
  |nil=>rw[a8]at d;subst d;exact⟨e,rfl,j,k⟩
 ·rintro v r a b st ⟨done,l,x,e,d,g,rfl,rfl,j,k⟩;cases l with
  |nil=>cases g
  |cons y l=>
   cases g;walk_at"w";refine(h y (by rw[d];simp) e j).mono ?_;rintro v s' ⟨f,rfl,m,n⟩;exact⟨done++[y],l,_,e++f,by rw[d];simp,rfl,rfl,by simp,m,PL.snoc n (k.mono λx v q=>mono _ f x v q)⟩
def rn {names:Á Str}{i f:Nat}{s:S}{elt:Ev}{x0:Ð AV}{rest:En}(b:Str->Dt)(k:f<s.length)(j:ë s i=À (names.map AV.str)) (c:Cl s)
  (h:∀x∈names,∀e,Cl (s++e)->(elt (À (.str x)::rest) (s++e)).wp λv s'=>∃g,s'=s++e++g/\Cl s'/\Lh f s' (b x) v) :
  (au (gN 0) iu elt [(i,names.map AV.str)] (names.map AV.str) (x0::rest) s []).wp λa s'=>∃e,s'=s++e/\Cl s'/\kq f s' (names.map b) a:=by
 refine(Fv (λst x v=>Lh f st (b x) v) (λst e x v q=>q.app e) j c h).mono ?_;rintro a s' ⟨e,rfl,d,p⟩;exact⟨e,rfl,d,by simp;lia,λo=>PL.RL (p.mono λx v q=>q.2 o)⟩
def append_at (h:ë s i=À xs)(l:xs.length<1000):Ŏ (.ref i) [v] s=.ok .Ğ (s.set i (.lst (xs++[v]))):=by
 unfold Ŏ;simp only[h,å];rw[Ë (ũ (by lia))]
end Mm
namespace Ro
open PySem L2 Mm
def yw (B:Nat)(h:Int):ņ (wz B h) (.inr "people")=À (.ref (B+8)):=by rfl
def nZ (B:Nat)(h:Int):ņ (wz B h) (.inr "works")=À (.ref (B+9)):=by rfl
def KG (B:Nat)(h:Int):ņ (wz B h) (.inr "hands")=À (.ref (B+10)):=by rfl
def KI (B:Nat)(h:Int):ņ (wz B h) (.inr "known")=À (.ref (B+11)):=by rfl
def nY (B:Nat)(h:Int):ņ (wz B h) (.inr "rates")=À (.ref (B+12)):=by rfl
def KH (B:Nat)(h:Int):ņ (wz B h) (.inr "keeps")=À (.ref (B+13)):=by rfl
def N2 (B:Nat)(h:Int):ņ (wz B h) (.inr "half")=À (.int h):=by rfl
def nX (B:Nat)(h:Int):ņ (wz B h) (.inr "money")=À (.ref (B+15)):=by rfl
def KD (B:Nat)(h:Int):ņ (wz B h) (.inr "debts")=À (.ref (B+16)):=by rfl
def J7 (h:ë s i=À (l.map rE)) (nd:(l.map rKey).Nodup) (hl:l.length<64)(e:m env s=.ok (.ref i) s):ry m env s=.ok ((jU l).map rE) s:=by
 unfold ry;rw[e,ñ];dsimp only;have c:(l.map rE).all Wg=true:=by
  rw[ú];intro v d;obtain⟨x,_,rfl⟩:=Ļ.mp d;rfl
 rw[h,å,Ë ⟨c,by rw[cb];exact nd,by rw[Ê];exact hl⟩];congr 1;exact(List.map_mergeSort (f:=rE) (r:=λa b=>vz (rKey a) (rKey b)) (s:=OC) λ_ _ _ _=>rfl).symm
section
variable {B:Nat}{V W:Wl}{s:S}
def sN (h:At B (mid B V W) s) (e:ņ (wz B W.h) (.inr x)=À v):ġ (.ref (B+14)) (.str x) s=.ok v s:=ve (Oh h) e
def tR (h:At B (mid B V W) s) (e:ņ (wz B W.h) (.inr x)=À v) (a:m env s=.ok (.ref (B+14)) s):Õ ġ m (mc (.str x)) env s=.ok v s:=by
 unfold Õ mc;rw[a,ñ,ñ];exact sN h e
theorem yr:∀l:Á Str,zQ (l.map AV.str)=À l
 |[]=>rfl
 |x::r=>by show(zQ (r.map AV.str)).map (x::·)=_;rw[yr r];rfl
def NL (h:ë s i=À (l.map AV.str)) (hl:l.length<64)(e:m env s=.ok (.ref i) s):vo m env s=.ok ((ė l).map AV.str) s:=by
 unfold vo;rw[e,ñ];dsimp only;rw[h,å,yr,å,Ë hl]
def Gn (e:m env s=.ok [] s):rF m env s=.ok [] s:=by
 unfold rF;rw[e,ñ];rfl
def FT (h:ë s i=À [])(e:m env s=.ok (.ref i) s):ak l (eV m) tgt b elt env s=.ok [] s:=by
 apply R.wp.eq;simp?[↓ğ e,↓ğ (kg h)];have c:∀a,au tgt b elt [(i,[])] [] a s []=.ok [] s:=λa=>by
  unfold au;exact Ë (show wR [(i,[])] s from λp d=>by rw[ð.mp d];exact h)
 rw[ğ (c _)];exact⟨rfl,rfl⟩
def Ea (h:jS s i=À kvs)(e1:d env s=.ok (.ref i) s) (a:y env s=.ok (.str x) s) (b:w env s=.ok z s):qD d y w env s=.ok ((ņ kvs (.inr x)).getD z) s:=by
 obtain⟨u,c⟩:=cg.mp (vr h);unfold qD;rw[e1,ñ,c,å,a,ñ,b,ñ];show(need (jS s i) λkvs=>need (fT (.str x)) λk=>R.ok ((ņ kvs k).getD z) s)=_;rw[h];rfl
theorem vc {rest:En}(d:wR gs s)(F G u w:α->AV):∀(p:Á α) (a b:Ð AV) (c:Á AV),(∀i∈p,(∀a b,tgt (F i) (a::b::rest) s=.nx (À (u i)::À (w i)::rest) s)/\elt (À (u i)::À (w i)::rest) s=.ok (G i) s)->au tgt iu elt gs (p.map F) (a::b::rest) s c=.ok (c++p.map G) s
 |[],a,b,c,_=>by rw[Ų,au,Ë d];simp
 |x::r,a,b,c,h=>by
  rw[Ô,lV ((h x (.head _)).1 a b) rfl (h x (.head _)).2 d,vc d F G u w r _ _ _ λi e=>h i (.tail _ e)];simp
theorem Ii (f:Nat->Int):∀n k,FN k ((List.range' k n).map λi=>.tup [.int (f i),.int i])=true
 |0,_=>rfl
 |n+1,k=>by
  rw[List.range'_succ,Ô];show(decide ((k:Int)=k)&&FN (k+1) _)=true;rw[Ii f n (k+1),î rfl];rfl
def CD (l:Á Mo)(g:Mo->c):((ø l.length).map λi=>g (l.getD i Ab))=l.map g:=by
 apply eZ
 ·simp
 ·intro i b a;have a:i<l.length:=by simpa using a
  simp[ä,a]
def nC (h:ë s i=À (l.map mE)) (hl:l.length<64):aj [.ref i] s=.ok (.ref s.length) (s++[.lst ((f_ l).map mE)]):=by
 apply R.wp.eq;have n:wR [(i,l.map mE)] s:=λp c=>by rw[ð.mp c];exact h
 have m:qr (l.map mE)=(ø l.length).map λi=>.tup [.int i,mE (l.getD i Ab)]:=by
  unfold qr;apply eZ
  ·simp
  ·intro j o b;have b:j<l.length:=by simpa using b
   simp[ä,b]
 have d:∀q,Gx (mv 0) (À (AV.ref i)::q) s=.ok ((ø l.length).map (λi:Nat=>AV.tup [.int i,mE (l.getD i Ab)]),[(i,l.map mE)]) s:=λq=>by
  unfold Gx;rw[mX,ñ];show(need ((ë s i).map λxs=>(xs,[(i,xs)])) λp=>R.ok (qr p.1,p.2) s)=_;rw[h];show R.ok (qr (l.map mE),_) s=_;rw[m]
 have e:=vc (s:=s) (gs:=[(i,l.map mE)]) (rest:=[]) (tgt:=gT 2 (ï (gN 0) (ï (gN 1) aY))) (elt:=cA (Ã (Õ ĝ (mv 1) (mc (.int 1))) (Ã (mv 0) Ø))) n (λi:Nat=>.tup [.int i,mE (l.getD i Ab)]) (λi=>.tup [.int (l.getD i Ab).2.1,.int i]) (λi=>.int i) (λi=>mE (l.getD i Ab)) (ø l.length) none none [] λi _=>⟨λ_ _=>rfl,by
  apply R.wp.eq;unfold mE;walk_at"w"⟩
 have f:∀q,vn (ak [("_law_k",none),("_law_one",none)] (Gx (mv 0)) (gT 2 (ï (gN 0) (ï (gN 1) aY))) iu (cA (Ã (Õ ĝ (mv 1) (mc (.int 1))) (Ã (mv 0) Ø)))) (À (AV.ref i)::q) s=.ok ((zo (l.map (·.2.1))).map λi=>.tup [.int (l.getD i Ab).2.1,.int i]) s:=λq=>by
  unfold vn ak;rw[d,ñ];dsimp only;rw[Ë (ur (by simp;lia)),show BJ [("_law_k",none),("_law_one",none)] (À (AV.ref i)::q)=[none,none]from rfl,e,ñ,av,Ë ⟨by rw[List.range_eq_range'];exact Ii _ _ _,by simp;exact hl⟩];have k:((ø l.length).map λi=>AV.tup [.int (l.getD i Ab).2.1,.int i]).map Hz=l.map (·.2.1):=by
   rw[cb];exact CD l (·.2.1)
  rw[k];unfold pick;congr 1;refine cE λj a=>?_;have a:=zp a;rw[Ê]at a;simp[ä,a]
 have g:=vc (s:=s) (gs:=[]) (rest:=[À (.ref i)]) (tgt:=gT 2 (ï (gN 0) (ï (gN 1) aY))) (elt:=Õ ĝ (mv 2) (mv 1)) (λp c=>nomatch c) (λi:Nat=>.tup [.int (l.getD i Ab).2.1,.int i]) (λi=>mE (l.getD i Ab)) (λi=>.int (l.getD i Ab).2.1) (λi=>.int i) (zo (l.map (·.2.1))) none none [] λj a=>⟨λ_ _=>rfl,by
  have a:=zp a;rw[Ê]at a;show(need (ë s i) λxs=>need (ku xs (j:Int)) λv=>R.ok v s)=_;rw[h,å,j3 (v:=mE (l.getD j Ab)) (by simp[ä,a])];rfl⟩
 unfold aj il;simp?[↓ğ (f _)];refine⟨ur (by rw[Ê,(g7 _).length_eq];simp;lia),?_⟩;rw[ğ g];show AV.ref s.length=_/\s++[AO.lst ([]++_)]=_;unfold f_;rw[av,cb];exact⟨rfl,rfl⟩
def Vv:cA (Ã (mc (.int 0)) (Ã (mc (.int 1)) Ø)) env s=.ok (.tup [.int 0,.int 1]) s:=by
 apply R.wp.eq;walk_at"w"
structure Bd (s:S)(f ip iw:Nat)(P Q:Á AV)(L:Á Dt)(items:Á AV)(st:S):Prop where
 cl:Cl st
 ex:∃e,st=s++e
 fl:s.length<=f
 hp:ë st ip=À P
 np:ip≠f
 hw:ë st iw=À Q
 nw:iw≠f
 hf:ë st f=À items
 rp:kq f st L items
def J0 (o:AO)(h:bT 0 t l xs):kq t.length (t++[o]) l xs:=⟨by simp,λa=>by
 have:(t++[o]).set t.length a=t++[a]:=by rw[dC _ _ (Î _)];simp
 rw[this];exact h.app _⟩
theorem Bd.append {f d g:Nat}{P Q a:Á AV}{L D:Á Dt}{items:Á AV}{st e:S}(h:Bd s f d g P Q L items st)(c:Cl (st++e)) (r:kq f (st++e) D a) (k:D.length<=1000)(hl:items.length<900) :
  Ŏ (AV.ref f) [AV.ref (st++e).length] (st++e++[AO.lst a])=.ok .Ğ ((st++e++[AO.lst a]).set f (AO.lst (items++[AV.ref (st++e).length])))/\
   Bd s f d g P Q (L++[.lst D]) (items++[AV.ref (st++e).length]) ((st++e++[AO.lst a]).set f (AO.lst (items++[AV.ref (st++e).length]))):=by
 have hf:ë (st++e++[AO.lst a]) f=À items:=ć (ć h.hf);have j:Cl (st++e++[AO.lst a]):=cM c r.RL;have l:Lh f (st++e++[AO.lst a]) (.lst D) (.ref (st++e).length):=OJ k r;have i:kq f (st++e++[AO.lst a]) (L++[.lst D]) (items++[AV.ref (st++e).length]):=((h.rp.app e).app _).append (.one l);refine⟨Mm.append_at hf (by lia),?_⟩;obtain⟨b,rfl⟩:=h.ex;exact {
  cl:=j.set (bT.low i.RL)
  ex:=⟨(b++e++[AO.lst a]).set (f-s.length) (AO.lst (items++[AV.ref (s++b++e).length])),by rw[È,È,dC _ _ h.fl];simp only[È]⟩
  fl:=h.fl
  hp:=vD h.np (ć (ć h.hp)) _
  np:=h.np
  hw:=vD h.nw (ć (ć h.hw)) _
  nw:=h.nw
  hf:=qC hf
  rp:=i.set _}
def Cp (h:iP B V W s)(J:W.ps.length<64)(L:W.ws.length<64)(lh:W.rs.length<64)(lm:W.mn.length<64)(nd:(W.rs.map rKey).Nodup) (hk:∀p∈W.ps,(ņ W.kw (.inr p)).getD (.tup [.int 0,.int 1])=jc (W.kf p)):(aK [.ref (B+14)] s).wp λv s'=>∃e,s'=s++e/\Cl s'/\Rp 0 s' (told W) v:=by
 have c1:Cl (s++[.lst ((ė W.ws).map AV.str)]):=cM (b:=0) h.cl (eU _ _);have h1:=h.app c1;have c2:Cl (s++[.lst ((ė W.ws).map AV.str)]++[.lst ((ė W.ps).map AV.str)]):=cM (b:=0) c1 (eU _ _);have h2:=h1.app c2;have hw:ë (s++[.lst ((ė W.ws).map AV.str)]++[.lst ((ė W.ps).map AV.str)]) s.length=À ((ė W.ws).map AV.str):=ć (Ď _ _);have hp:ë (s++[.lst ((ė W.ws).map AV.str)]++[.lst ((ė W.ps).map AV.str)]) (s++[AO.lst ((ė W.ws).map AV.str)]).length=À ((ė W.ps).map AV.str):=Ď _ _;unfold aK jn;rw[WS.2.2.2.2.2.2.2.2.2.2.2.2.2.2.2.1];refine Ľ λK d=>?_;simp?[↓ğ (zI (nh h.at_) (zP _ _ _) (by rw[lJ];exact L) (tR h.at_ (nZ B W.h) mX)),lJ,↓ğ (NL (rZ h1.at_) J (tR h1.at_ (yw B W.h) mX))];rw[d];clear d K;rw[È]at *
 generalize ([AO.lst ((ė W.ws).map AV.str)]++[AO.lst ((ė W.ps).map AV.str)])=k at *
 generalize (s++[AO.lst ((ė W.ws).map AV.str)]).length=y at *
 generalize s.length=F at *
 clear h1 c1;refine Ľ λK d=>?_;simp?[↓ğ (kg hw)];refine⟨OO L _,(ng (b:=0) Cl (λ_=>Dt.tup []) hw c2 ?_).mono ?_⟩
 ·intro x w e j;simp?[↓ğ (sN (h2.app j).at_ (nZ B W.h)),↓ğ (ve (nh (h2.app j).at_) (zR (lA.mp w)))];exact⟨[],by simp,j,vY (by simp) .nil⟩
 rintro a s3 ⟨g,rfl,c3,r3⟩;have c4:=cM c3 r3;have p4:=a6 (ÿ _) (kL L _) r3;have h4:iP B V W (s++k++g++[.lst a]):=by rw[È];exact h2.app (by rw[<-È];exact c4)
 have n:ë (s++k++g++[.lst a]) F=À ((ė W.ws).map AV.str):=ć (ć hw);have m:ë (s++k++g++[.lst a]) y=À ((ė W.ps).map AV.str):=ć (ć hp);have rA:bT 0 (s++k++g++[.lst a]) [.lst ((ė W.ps).map .str),.lst ((ė W.ws).map .str),.lst ((ė W.ws).map λ_=>.tup [])] [.ref y,.ref F,.ref (s++k++g).length]:=.cons (pQ m (ÿ _) (kL J _) (eU _ _)) (.cons (pQ n (ÿ _) (kL L _) (eU _ _)) (.one p4));have A:Bd s (s++k++g++[AO.lst a]).length y F ((ė W.ps).map AV.str) ((ė W.ws).map AV.str) _ _ (s++k++g++[.lst a]++[.lst [.ref y,.ref F,.ref (s++k++g).length]]):={
  cl:=cM c4 rA
  ex:=⟨_,by simp only[È];rfl⟩
  fl:=by simp only[Ă];lia
  hp:=ć m
  np:=ò (Ç.mp (ü m)).1
  hw:=ć n
  nw:=ò (Ç.mp (ü n)).1
  hf:=Ď _ _
  rp:=J0 _ rA}
 clear rA c4 p4 h4 n m r3 c3 h2 c2 hw hp;generalize s++k++g++[AO.lst a]++[AO.lst [.ref y,.ref F,.ref (s++k++g).length]]=i at *
 generalize (s++k++g++[AO.lst a]).length=f at *
 generalize [AV.ref y,.ref F,.ref (s++k++g).length]=z at *
 have X:z.length=3:=by have:=A.rp.RL.length;simpa using this.symm
 have O:iP B V W i:=by obtain⟨e,rfl⟩:=A.ex;exact h.app A.cl
 rw[d];clear d K;refine Ľ λK d=>?_;walk_at"w";refine⟨iK A.hf,?_⟩;simp?[↓ğ (kg A.hp)];refine⟨OO J _,(rn (f:=f) (λ_=>Dt.lst []) A.rp.1 A.hp A.cl ?_).mono ?_⟩
 ·intro x w e j;have b:=O.app j;have en:∀{l c lc tg te el},rF (ak lc (eV (Õ ġ (mv 1) (mc (.str "hands")))) tg te el) (c::À (.ref (B+14))::l) (i++e)=.ok [] (i++e):=λ{l c lc tg te el}=>Gn (FT (IB b.at_) (tR b.at_ (KG B W.h) xl));simp?[↓ğ en];exact⟨_,rfl,CY j,(OJ (l:=[]) (by simp) ⟨(A.rp.app e).1,λo=>.nil⟩:Lh f (i++e++[.lst []]) (.lst []) _)⟩
 rintro hl s5 ⟨e3,rfl,c5,G⟩;obtain⟨u,D2⟩:=A.append c5 G (kL J _) (by lia);rw[ğ u];clear u G c5 O;generalize (i++e3++[AO.lst hl]).set f (.lst (z++[.ref (i++e3).length]))=r at *
 generalize T:z++[AV.ref (i++e3).length]=D at *
 have Y:D.length=4:=by rw[<-T];simp[X]
 clear T X A;have P:iP B V W r:=by obtain⟨e,rfl⟩:=D2.ex;exact h.app D2.cl
 rw[d];clear d K;refine Ľ λK d=>?_;walk_at"w";refine⟨iK D2.hf,?_⟩;simp?[↓ğ (kg D2.hw)];refine⟨OO L _,(rn (f:=f) (λ_=>Dt.Ğ) D2.rp.1 D2.hw D2.cl ?_).mono ?_⟩
 ·intro x w e j;have b:=P.app j;rw[ğ (D' (x:=x) (Hu b.at_) (tR b.at_ (KI B W.h) xl) mX)];exact⟨[],by simp,j,⟨(D2.rp.app e).1,λo=>JZ _⟩⟩
 rintro kl q ⟨e4,rfl,H,Z⟩;obtain⟨u,C⟩:=D2.append H Z (kL L _) (by lia);rw[ğ u];clear u Z H P;generalize (r++e4++[AO.lst kl]).set f (.lst (D++[.ref (r++e4).length]))=t at *
 generalize U:D++[AV.ref (r++e4).length]=E at *
 have li3:E.length=5:=by rw[<-U];simp[Y]
 clear U Y D2;have Q:iP B V W t:=by obtain⟨e,rfl⟩:=C.ex;exact h.app C.cl
 rw[d];clear d K;refine Ľ λK d=>?_;walk_at"w";refine⟨iK C.hf,?_⟩;simp?[↓ğ (kg C.hp)];refine⟨OO J _,(rn (f:=f) (λp=>Dt.tup [.int (W.kf p).1,.int (W.kf p).2]) C.rp.1 C.hp C.cl ?_).mono ?_⟩
 ·intro x w e j;have b:=Q.app j;rw[ğ (Ea (x:=x) (Th b.at_) (tR b.at_ (KH B W.h) xl) mX Vv),hk x (lA.mp w)];exact⟨[],by simp,j,⟨(C.rp.app e).1,λo=>Dj _ _⟩⟩
 rintro ql s7 ⟨e5,rfl,I,r7⟩;obtain⟨u,M⟩:=C.append I r7 (kL J _) (by lia);rw[ğ u];clear u r7 I Q;generalize (t++e5++[AO.lst ql]).set f (.lst (E++[.ref (t++e5).length]))=Ye at *
 generalize E++[AV.ref (t++e5).length]=it4 at *
 clear li3 C;obtain⟨ex,rfl⟩:=M.ex;have b4:iP B V W (s++ex):=h.app M.cl;have N:=b4.app (cM (b:=0) b4.cl (oq _ (jU W.rs)));have g:ry (Õ ġ (mv 0) (mc (.str "rates"))) [À (.ref (B+14)),À (.ref f),À (.ref F),À (.ref y)] (s++ex)=.ok ((jU W.rs).map rE) (s++ex):=J7 (nJ b4.at_) nd lh (tR b4.at_ (nY B W.h) mX);rw[d];clear d K;refine Ľ λK d=>?_;walk_at"w";rw[ğ g,ğ (sN N.at_ (N2 B W.h))];have G:bT 0 (s++ex++[.lst ((jU W.rs).map rE)]) [.lst ((jU W.rs).map rD),.int W.h] [.ref (s++ex).length,.int W.h]:=.cons (a6 (ÿ _) (Qa lh) (oq _ _)) (.one (nR _ _));have p5:Rp 0 (s++ex++[.lst ((jU W.rs).map rE)]) _ (.ref f):=pQ (ć M.hf) (ÿ _) (by show 6<=1000;lia) (M.rp.RL.app _);obtain⟨ys,ey,Z,p6⟩:=yO (p5.app [.lst [.ref (s++ex).length,.int W.h]]) (a6 (ÿ _) (by show 2<=1000;lia) G) (by show 6+2<=1000;lia) (ÿ _);have H:=cM (cM N.cl G) Z;rw[ğ ey,d];clear d K;walk_at"w";have b6:iP B V W (s++ex++[.lst ((jU W.rs).map rE)]++[.lst [.ref (s++ex).length,.int W.h]]++[.lst ys]):=(N.app (cM N.cl G)).app H;clear ey M p5 Z G g N;generalize hs6:s++ex++[AO.lst ((jU W.rs).map rE)]++[AO.lst [.ref (s++ex).length,.int W.h]]++[AO.lst ys]=q at *
 generalize (s++ex++[AO.lst ((jU W.rs).map rE)]++[AO.lst [.ref (s++ex).length,.int W.h]]).length=k6 at *
 have I:=cM (b:=0) H (oo _ (f_ W.mn));have b7:=b6.app I;have c8:=CY I;have en:=nC (l:=[]) (Uk b7.at_) (by decide);rw[yU,Ų]at en;rw[ğ (sN b6.at_ (nX B W.h)),ğ (nC (yb b6.at_) lm)];dsimp only;rw[Ď,å,ţ,Ë ⟨Î _,H,kM _ _⟩,nW,ğ (sN b7.at_ (KD B W.h)),ğ en];dsimp only;rw[Ď,å,ţ,Ë ⟨Î _,I,by simp[ĭ]⟩,nW];have r8:bT 0 (q++[.lst ((f_ W.mn).map mE)]++[.lst []]) [.lst ((f_ W.mn).map mD),.lst []] [.ref q.length,.ref (q++[AO.lst ((f_ W.mn).map mE)]).length]:=.cons ((a6 (ÿ _) (Iv lm) (oo _ _)).app _) (.one (CZ (ÿ _)));obtain⟨zs,ez,r9,p9⟩:=yO (((p6.app [.lst ((f_ W.mn).map mE)]).app [.lst []]).app [.lst [.ref q.length,.ref (q++[AO.lst ((f_ W.mn).map mE)]).length]]) (a6 (ÿ _) (by show 2<=1000;lia) r8) (by show 8+2<=1000;lia) (ÿ _);have c9:=cM (cM c8 r8) r9;rw[ğ ez];have w:∃e,q++[.lst ((f_ W.mn).map mE)]++[.lst []]++[.lst [.ref q.length,.ref (q++[AO.lst ((f_ W.mn).map mE)]).length]]++[.lst zs]=s++e:=by
  rw[<-hs6];simp only[È];exact⟨_,rfl⟩
 obtain⟨e,he⟩:=w;exact⟨e,he,c9,p9⟩
end
noncomputable def un (x:Mo):Int:=if x.1 then x.2.2.2.1 else -x.2.2.2.1
def eS (w:Str):Á Mo->Int->Bool
 |[],_=>false
 |x::r,n=>if x.2.2.1=w then (if n+un x<0 then true else eS w r (n+un x))else eS w r n
def MW:Á Mo->(Str->Int)->Bool
 |[],_=>true
 |x::r,f=>if f x.2.2.1+un x<0 then false else MW r λw=>if w=x.2.2.1 then f x.2.2.1+un x else f w
theorem Ex:∀l f,MW l f=true ↔ ∀w,eS w l (f w)=false
 |[],_=>⟨λ_ _=>rfl,λ_=>rfl⟩
 |x::r,f=>by
  unfold MW;by_cases h:f x.2.2.1+un x<0
  ·rw[Ë h];refine⟨(λz=>nomatch z),λz=>?_⟩;have:=z x.2.2.1;rw[eS,Ë rfl,Ë h]at this;cases this
  ·rw[Ñ h,Ex r];refine forall_congr' λw=>?_;rw[eS];by_cases hw:w=x.2.2.1
   ·rw[Ë hw,Ë hw.symm,hw,Ñ h]
   ·rw[Ñ hw,Ñ (Ō hw)]
theorem rT (h:x.2.2.1≠w):∀A C n,eS w (A++x::C) n=eS w (A++C) n
 |[],C,n=>by rw[av,eS,Ñ h];rfl
 |a::A,C,n=>by simp only[cP,eS,rT h A C]
theorem rS (hu:0<=u):∀l n,eS w l n=false->eS w l (n+u)=false
 |[],_,_=>rfl
 |x::r,n,h=>by
  rw[eS]at h⊢;by_cases b:x.2.2.1=w
  ·rw[Ë b]at h⊢;by_cases a:n+un x<0
   ·rw[Ë a]at h;cases h
   ·rw[Ñ a]at h;rw[Ñ (by lia),show n+u+un x=n+un x+u by lia];exact rS hu r _ h
  ·rw[Ñ b]at h⊢;exact rS hu r _ h
theorem vw (hu:0<=un x):∀A C n,0<=n->eS w (A++C) n=false->eS w (A++x::C) n=false
 |[],C,n,c,h=>by
  rw[av,eS];by_cases b:x.2.2.1=w
  ·rw[Ë b,Ñ (by lia)];exact rS hu C n h
  ·rw[Ñ b];exact h
 |a::A,C,n,c,h=>by
  rw[cP,eS]at h⊢;by_cases b:a.2.2.1=w
  ·rw[Ë b]at h⊢;by_cases d:n+un a<0
   ·rw[Ë d]at h;cases h
   ·rw[Ñ d]at h⊢;exact vw hu A C _ (by lia) h
  ·rw[Ñ b]at h⊢;exact vw hu A C n c h
def AG (l:Á Mo)(x:Mo):∃A C,f_ (l++[x])=A++x::C/\f_ l=A++C:=by
 have m:((l++[x]).map (·.2.1)).length=l.length+1:=by simp
 have g:=g7 ((l++[x]).map (·.2.1));rw[m]at g;have t:l.length∈zo ((l++[x]).map (·.2.1)):=g.mem_iff.mpr (by simp);have nd:(zo ((l++[x]).map (·.2.1))).Nodup:=g.symm.nodup List.nodup_range;obtain⟨A,C,e⟩:=List.append_of_mem t;have f:∀i∈A++C,i<l.length:=λi c=>by
  have r:i∈zo ((l++[x]).map (·.2.1)):=by
   rw[e];rcases Ŕ.mp c with h|h
   ·exact cf _ h
   ·exact Ě _ (.tail _ h)
  have w:i<l.length+1:=by have:=zp r;rwa [m]at this
  have y:i≠l.length:=λz=>by
   rw[e,gU]at nd;subst z;rcases Ŕ.mp c with h|h
   ·exact nd.2.2 _ h _ (.head _) rfl
   ·exact(a9.mp nd.2.1).1 h
  lia
 have n:∀i,i<l.length->(l++[x]).getD i Ab=l.getD i Ab:=λi c=>by
  simp[ä,Ý c]
 have o:∀i,i<l.length->((l++[x]).map (·.2.1)).getD i 0=(l.map (·.2.1)).getD i 0:=λi c=>by
  simp only[ä,é,Ý c]
 have p:A++C=zo (l.map (·.2.1)):=by
  refine hE (le:=GR (l.map (·.2.1))) (λa b h k=>by unfold GR at *;simp only[Ń]at *;lia) ?_ ?_ (ma _)
  ·refine List.Perm.trans ?_ (g7 _).symm;have u:(l.length::(A++C)).Perm (ø (l.length+1)):=List.perm_middle.symm.trans (by rw[<-e];exact g);have v:(ø (l.length+1)).Perm (l.length::ø l.length):=by
    rw[List.range_succ];exact List.perm_append_comm
   rw[Ê];exact(u.trans v).cons_inv
  ·have d:=ma ((l++[x]).map (·.2.1));rw[e]at d;have d:(A++C).Pairwise λi j=>GR ((l++[x]).map (·.2.1)) i j=true:=d.sublist (YJ (YK A) (List.sublist_cons_self _ _));refine d.imp_of_mem λ{i j} c s h=>?_;unfold GR at h⊢;rwa [o i (f i c),o j (f j s)]at h
 have q:(l++[x]).getD l.length Ab=x:=by simp[ä]
 refine⟨A.map λi=>l.getD i Ab,C.map λi=>l.getD i Ab,?_,?_⟩
 ·unfold f_;rw[e,Ĕ,Ô,q];congr 1
  ·exact cE λi c=>n i (f i (cf _ c))
  ·congr 1;exact cE λi c=>n i (f i (Ě _ c))
 ·unfold f_;rw[<-p,Ĕ]
def Sz (l:Á Mo):Prop:=∀w,eS w (f_ l) 0=false
def MX (h:Sz l)(x:Mo):MW (f_ (l++[x])) (λ_=>0)=!eS x.2.2.1 (f_ (l++[x])) 0:=by
 obtain⟨A,C,a,b⟩:=AG l x;rw[dk,Ex,dF];refine⟨λz=>z _,λz w=>?_⟩;by_cases hw:x.2.2.1=w
 ·subst hw;exact z
 ·have:=h w;rw[b]at this;rw[a,rT hw];exact this
def Mu (h:Sz l)(k:0<=un x∨eS x.2.2.1 (f_ (l++[x])) 0=false):Sz (l++[x]):=λw=>by
 obtain⟨A,C,a,b⟩:=AG l x;have hw:=h w;rw[b]at hw;by_cases e:x.2.2.1=w
 ·rcases k with k|k
  ·rw[a];exact vw k A C 0 (YG _) hw
  ·subst e;exact k
 ·rw[a,rT e];exact hw
theorem Ma (x:Str):∀l:Á Str,Xw (.str x) (l.map AV.str)=decide (x∈l)
 |[]=>rfl
 |y::r=>by
  have a:=Ma x r;unfold Xw Wf at a⊢;rw[Ô,Ô,ŉ,a];show(kG (V.str y) (V.str x)||decide (x∈r))=_;have:kG (V.str y) (V.str x)=decide (x=y):=by
   unfold kG;by_cases h:x=y
   ·subst h;simp
   ·have:¬y=x:=λe=>h e.symm;simp[h,this]
  rw[this];by_cases h:x=y<;>by_cases b:x∈r<;>simp[h,b]
section
variable {B:Nat}{V W:Wl}{s:S}
def JW (B:Nat)(h d:Int):g_ (wz B h) (.inr "half") (.int d)=wz B d:=by rfl
def Ox:ĝ (.tup (a::l)) (.int 0) s=.ok a s:=by
 show(need (ku (a::l) 0) λv=>R.ok v s)=_;rw[show ku (a::l) 0=À a from Lq.2.2.2.2.1 a l];rfl
def ix2:ĝ (.tup (a::b::c::l)) (.int 2) s=.ok c s:=by
 show(need (ku (a::b::c::l) 2) λv=>R.ok v s)=_;rw[show ku (a::b::c::l) 2=À c from Lq.2.2.2.2.2.2.1 a b c l];rfl
structure W4 (B:Nat)(s s':S):Prop where
 len:s'.length=s.length
 get:∀i,i<B∨B+17<=i->s'[i]?=s[i]?
 cl:Cl s'
 tab:Tb s'
def DN (h:s.any (tabAt k q)=true) (e:s[i]?=À o)(n:tabAt k q o=false):(s.set i o').any (tabAt k q)=true:=by
 obtain⟨x,f,b⟩:=eY.mp h;obtain⟨j,d,c⟩:=ĩ f;have a:i≠j:=by
  rintro rfl;rw[Å d,c]at e;cases e;rw[n]at b;cases b
 refine eY.mpr ⟨x,?_,b⟩;have:(s.set i o')[j]?=À x:=by rw[ù a,Å d,c]
 exact ý this
def gW (h:iP B V W s)(c:i<17)(e:(mid B V W)[i]?=À o) (n:∀k q,tabAt k q o=false)(l:o'.low s.length=true):W4 B s (s.set (B+i) o'):=
 ⟨Ť,λj d=>ù (by lia),h.cl.set l,DN h.tab.a (h.at_.at e) (n _ _),DN h.tab.b (h.at_.at e) (n _ _)⟩
theorem pG (h:∀x,(g x).low b=true):∀l:Á Str,ĭ b ((kT id g l).map (·.2))=true
 |[]=>by simp[kT,ĭ]
 |x::r=>by
  show ĭ b (g x::(kT id g r).map (·.2))=true;simp only[ĭ,h x,pG h r];rfl
def El (b:Nat)(a:Int×Int):(jc a).low b=true:=by simp[jc,AV.low,ĭ]
theorem fV:∀{l:Á AV},(∀v∈l,v.low b=true)->ĭ b l=true
 |[],_=>by simp[ĭ]
 |v::r,h=>by simp only[ĭ,h v (.head _),fV λw hw=>h w (.tail _ hw)];rfl
end
structure lO (B:Nat)(s s':S):Prop where
 len:s.length<=s'.length
 get:∀i,i<s.length->i<B∨B+17<=i->s'[i]?=s[i]?
def W4.a (h:W4 B s s'):lO B s s':=⟨by rw[h.len];exact Î _,λi _ k=>h.get i k⟩
def lO.app (h:lO B s s')(e:S):lO B s (s'++e):=⟨by have:=h.len;simp;lia,λi a k=>by rw[Ý (by have:=h.len;lia)];exact h.get i a k⟩
def lO.refl (B:Nat)(s:S):lO B s s:=⟨Î _,λ_ _ _=>rfl⟩
theorem lO.trans (h:lO B s s')(k:lO B s' a):lO B s a:=⟨đ h.len k.len,λi b q=>(k.get i (ì b h.len) q).trans (h.get i b q)⟩
section
variable {B:Nat}{V W:Wl}{s:S}
def kN (h:a env s=.rt v s1):ā a b env s=.rt v s1:=by unfold ā;rw[h]
def zG (h:m l s=.ok v s1):Ů i m l s=.nx (l.set i (À v)) s1:=by unfold Ů;rw[h];rfl
def vZ {r:RS}(h:r.wp (λe s'=>e=env/\s'=t) (λ_ _=>False)):r=.nx env t:=by
 cases r with
 |nx e s'=>obtain⟨rfl,rfl⟩:=h;rfl
 |_=>exact h.elim
def Iw (b:Nat)(l:Á Rt):ĭ b (l.map rE)=true:=fV λv a=>by
 obtain⟨x,_,rfl⟩:=Ļ.mp a;simp[rE,jc,AV.low,ĭ]
def A9 (h:ë s j=À (a::l)):ĝ (.ref j) (.int 0) s=.ok a s:=by
 show(need (ë s j) λxs=>need (ku xs 0) λv=>R.ok v s)=_;rw[h,å,show ku (a::l) 0=À a from Lq.2.2.2.2.1 a l];rfl
def Oy (h:ë s j=À (a::b::l)):ĝ (.ref j) (.int 1) s=.ok b s:=by
 show(need (ë s j) λxs=>need (ku xs 1) λv=>R.ok v s)=_;rw[h,å,show ku (a::b::l) 1=À b from Lq.2.2.2.2.2.1 a b l];rfl
def kE (x:Rt):AV:=.tup [.str x.1,.int x.2.1]
noncomputable def kD (x:Rt):Dt:=.tup [.str x.1,.int x.2.1]
theorem DT (c:wR gs s):∀(l:Á Rt) (a:Ð AV) (b:Á AV),au (gN 0) iu (vG (mv 0) oN (oS (mc (.int 2)))) gs (l.map rE) [a] s b=.ok (b++l.map kE) s
 |[],a,b=>by rw[Ų,au,Ë c];simp
 |x::r,a,b=>by
  rw[Ô,lV (e1:=[À (rE x)]) rfl rfl (show vG (mv 0) oN (oS (mc (.int 2))) [À (rE x)] s=.ok (kE x) s from rfl) c,DT c r];simp
theorem toD_kE:∀l:Á Rt,(l.map kE).mapM (toD 20 s)=À (l.map kD)
 |[]=>by rw[Ų,BW];rfl
 |x::r=>by rw[Ô,zU,toD_kE r];rfl
theorem D6:∀l:Á Rt,aX (l.map kD)<=3
 |[]=>by simp[aX]
 |x::r=>by
  have:=D6 r;rw[Ô];simp only[aX,kD,Dt.dep];lia
theorem G8 (y:Rt):∀l:Á Rt,((l.map kD).any λd=>cj d (kD y))=decide (rKey y∈l.map rKey)
 |[]=>rfl
 |x::r=>by
  rw[Ô,ŉ,G8 y r,Ô];have e:cj (kD x) (kD y)=decide (rKey y=rKey x):=by
   rw[dk];simp only[kD,cj,jb,ů,ċ,jR,Ń];exact⟨λh=>qa h.1.symm h.2.symm,λh=>⟨(Ĳ Prod.fst h).symm,(Ĳ Prod.snd h).symm⟩⟩
  rw[e];by_cases a:rKey y=rKey x
  ·rw[î a,DD,î (by rw[a];exact .head _)]
  ·rw[â a,iW];congr 1;rw[ß];exact cF ⟨.inr,λz=>z.resolve_left a⟩
def PY {l:Á Rt}(h:ë s i=À (l.map kE)) (y:Rt):Bu (kE y) (.ref i) s=.ok (.bl (decide (rKey y∈l.map rKey))) s:=by
 have c:(l.map kE).all T5=true:=by
  rw[ú];intro v e;obtain⟨x,_,rfl⟩:=Ļ.mp e;rfl
 show(need (toD 20 s (kE y)) λb=>need (ë s i) λxs=>need (xs.mapM (toD 20 s)) λa=>if xs.all T5=true/\aX a<=20 then R.ok (AV.bl (a.any λd=>cj d b)) s else .bad)=_;rw[show toD 20 s (kE y)=À (kD y)from rfl,å,h,å,toD_kE,å,Ë ⟨c,by have:=D6 l;lia⟩,G8]
def T6 (h:ë s j=À [a,b,c,d,e]):ĝ (.ref j) (.int 4) s=.ok e s:=by
 show(need (ë s j) λxs=>need (ku xs 4) λv=>R.ok v s)=_;rw[h];rfl
def PK (h:(b (À v::À w::Ö (n-2) none) s).wp (λ_ s1=>Q .Ğ s1) Q):(dq n b [v,w] s).wp Q:=by rw[WS.2.2.2.2.2.2.2.2.2.2.2.2.2.2.2.2.1];exact h
def Tu (h:(b (À v::À w::À x::Ö (n-3) none) s).wp (λ_ s1=>Q .Ğ s1) Q):(dq n b [v,w,x] s).wp Q:=by rw[WS.2.2.2.2.2.2.2.2.2.2.2.2.2.2.2.2.2];exact h
def wb (e:m env s=.ok v s)(h:(b (env.set i (À v)) s).wp N T):(ā (Ů i m) b env s).wp N T:=by
 rw[WS.1,WS.2.1,ğ e];exact h
def R_ (e:b env s=.ex c s1)(f:sub c.cls=true)(d:h ((Ö n none).set i (À (.ref s1.length))) (s1++[.exc c.cls])=.nx a g) (hr:(r (a.set i none) g).wp N T):(ā (v8 n i sub b h) r env s).wp N T:=by
 rw[WS.1,GD e f,d];exact hr
def R' (c:b env s=.nx a s1)(hr:(r a s1).wp N T):(ā (v8 n i sub b h) r env s).wp N T:=by
 rw[WS.1,GF c];exact hr
def OA (k:x.length<=1000)(g:a.length<=1000)(e:m env s=.ok (.str x) s) (f:∀t,Q (.str t) s):(g9 (aP (az iV m) (aP (mc (.str a)) nE)) env s).wp Q:=by
 have b:(gp++x).length=x.length:=by rw[gZ];show 0+_=_;lia
 have c:(gp++x++a).length=x.length+a.length:=by rw[gZ,b]
 have d:iV (.str x) s=.ok (.str x) s:=Ë (by rw[ĉ];lia);unfold g9 aP mc az nE;simp only[e,ñ,d];rw[Ë (by rw[b,ĉ];lia)]
 (try simp only[ñ])
 rw[Ë (by rw[c,ĉ];lia),ñ,Ë (by rw[c,ĉ];lia)];exact f _
end
def mR (c:Str)(k:Int)(x:Rt):Prop:=x.1=c/\x.2.1<=k
instance (c:Str) (k:Int) (x:Rt):ś (mR c k x):=inferInstanceAs (ś (_/\_))
def Bs (l:Á Rt)(c:Str)(k:Int):Ð Rt->Prop
 |none=>∀x∈l,¬mR c k x
 |some y=>(y∈l/\mR c k y)/\∀x∈l,mR c k x->x.2.1<=y.2.1
def oV (c:Str):Ð Rt->AV
 |none=>if c="coin" then .tup [.int 1,.int 1]else .Ğ
 |some y=>jc y.2.2
noncomputable def qA (c:Str)(k:Int):Á Rt->Ð Rt->Ð Rt
 |[],o=>o
 |x::r,o=>qA c k r (if mR c k x then À x else o)
theorem vy:∀r o,r.Pairwise (λa b=>a.2.1<=b.2.1)->(∀y,o=À y->mR c k y/\∀x∈r,y.2.1<=x.2.1)->
  (qA c k r o=none/\o=none/\∀x∈r,¬mR c k x)∨∃y,qA c k r o=À y/\mR c k y/\(y∈r∨o=À y)/\(∀x∈r,mR c k x->x.2.1<=y.2.1)/\∀z,o=À z->z.2.1<=y.2.1
 |[],none,_,_=>.inl ⟨rfl,rfl,(λ_ h=>nomatch h)⟩
 |[],À y,_,h=>.inr ⟨y,rfl,(h y rfl).1,.inr rfl,(λ_ h=>nomatch h),λz e=>by cases e;exact YG _⟩
 |x::r,o,p,h=>by
  rw[ŀ]at p;unfold qA;by_cases i:mR c k x
  ·rw[Ë i];rcases vy r (À x) p.2 (λy e=>by cases e;exact⟨i,p.1⟩)with⟨_,z,_⟩|⟨y,d,f,g,m,j⟩
   ·cases z
   ·refine .inr ⟨y,d,f,.inl (g.elim (.tail _) λz=>by cases z;exact .head _),λz hz l=>?_,λz e=>?_⟩
    ·rcases ß.mp hz with rfl|hz
     ·exact j z rfl
     ·exact m z hz l
    ·exact Int.le_trans ((h z e).2 x (.head _)) (j x rfl)
  ·rw[Ñ i];rcases vy r o p.2 (λy e=>⟨(h y e).1,λz hz=>(h y e).2 z (.tail _ hz)⟩)with⟨d,f,g⟩|⟨y,d,f,g,m,j⟩
   ·exact .inl ⟨d,f,λz hz=>by
     rcases ß.mp hz with rfl|hz
     ·exact i
     ·exact g z hz⟩
   ·refine .inr ⟨y,d,f,g.imp (.tail _) id,λz hz l=>?_,j⟩;rcases ß.mp hz with rfl|hz
    ·exact absurd l i
    ·exact m z hz l
def r0:Rt:=(⟨#[]⟩,0,0,1)
def C8 (l:Á Rt):∃r:Á Rt,pick (l.map rE) (zo ((l.map rE).map y8))=r.map rE/\(∀x,x∈r ↔ x∈l)/\r.Pairwise λa b=>a.2.1<=b.2.1:=by
 have e:∀i,((l.map rE).map y8).getD i 0=(l.getD i r0).2.1:=λi=>by
  simp only[ä,é,Option.map_map];cases l[i]?<;>rfl
 have d:∀i,i∈zo ((l.map rE).map y8) ↔ i<l.length:=λi=>by
  rw[(g7 _).mem_iff,kS,Ê,Ê]
 refine⟨(zo ((l.map rE).map y8)).map λi=>l.getD i r0,?_,λx=>?_,?_⟩
 ·unfold pick;refine Eq.trans (cE (g:=λi=>rE (l.getD i r0)) λi c=>?_) (by generalize zo ((l.map rE).map y8)=p;rw[cb];rfl);have c:=(d i).mp c;simp[ä,c]
 ·rw[Ļ];constructor
  ·rintro⟨i,c,rfl⟩;have c:=(d i).mp c;simp[ä,c]
  ·intro f;obtain⟨i,c,rfl⟩:=p8.mp f;exact⟨i,(d i).mpr c,by simp[ä,c]⟩
 ·rw[dJ];refine(ma _).imp λ{i j} h=>?_;have h:=č h;rw[e,e]at h;lia
section
variable {B:Nat}{V W:Wl}{s:S}
def Pb (l:Á Rt):(l.map rE).all vt=true:=by
 rw[ú];intro v a;obtain⟨x,_,rfl⟩:=Ļ.mp a;rfl
def x9 (W:Wl)(hl:W.rs.length<64)(c:Str)(k:Int):∃o,Bs W.rs c k o/\∀{B V s},iP B V W s->cK [.ref (B+14),.str c,.int k] s=.ok (oV c o) s:=by
 obtain⟨r,w,j,A⟩:=C8 W.rs;refine⟨qA c k r none,?_,λ{B V s} h=>?_⟩
 ·rcases vy (c:=c) (k:=k) r none A (λ_ z=>nomatch z)with⟨e,_,h⟩|⟨y,e,d,E,F,_⟩
  ·rw[e];exact λx l=>h x ((j x).mpr l)
  ·rw[e];exact⟨⟨(j y).mp (E.resolve_right λz=>nomatch z),d⟩,λx l=>F x ((j x).mpr l)⟩
 ·have D:nz 21 Be (Õ ġ (mv 0) (mc (.str "rates"))) [À (.ref (B+14)),À (.str c),À (.int k),À (oV c none),none,none,none] s=.ok (r.map rE) s:=by
   unfold nz;rw[tR h.at_ (nY B W.h) mX,ñ];dsimp only;rw[nJ h.at_,å,Ë ⟨Pb _,by rw[Ê];exact hl,h.tab.b⟩,w]
  have u:IE (cB (Õ ag (mv 1) (mc (.str "coin")))) (cA (Ã (mc (.int 1)) (Ã (mc (.int 1)) Ø))) (mc .Ğ) [À (.ref (B+14)),À (.str c),À (.int k),none,none,none,none] s=.ok (oV c none) s:=by
   apply R.wp.eq;unfold oV;by_cases t:c="coin"
   ·simp?[i6 t,Ũ]
   ·simp?[km t,aZ]
  apply R.wp.eq;unfold cK lT;refine Tu (wb u ?_);simp?[↓ğ D];refine nv (λxs a st=>∃q o x4 x5 x6,xs=q.map rE/\a=[À (.ref (B+14)),À (.str c),À (.int k),À (oV c o),x4,x5,x6]/\st=s/\qA c k q o=qA c k r none) ?_ ?_ ?_ _ _ _ ⟨r,none,none,none,none,rfl,rfl,rfl,rfl⟩
  ·rintro _ _ st _ p G;cases G
  ·rintro a st ⟨q,o,x4,x5,x6,i,rfl,rfl,g⟩;cases q with
   |cons _ _=>cases i
   |nil=>
    walk_at"w";rw[<-g];rfl
  ·rintro v H a st ⟨q,o,x4,x5,x6,i,rfl,rfl,g⟩;cases q with
   |nil=>cases i
   |cons x q=>
    cases i;have C:gT 3 (ï (gN 4) (ï (gN 5) (ï (gN 6) aY))) (rE x) [À (.ref (B+14)),À (.str c),À (.int k),À (oV c o),x4,x5,x6] st=.nx [À (.ref (B+14)),À (.str c),À (.int k),À (oV c o),À (.str x.1),À (.int x.2.1),À (jc x.2.2)] st:=rfl;have n:m_ (cB (Õ ag (mv 4) (mv 1))) (cB (Õ sA (mv 5) (mv 2))) [À (.ref (B+14)),À (.str c),À (.int k),À (oV c o),À (.str x.1),À (.int x.2.1),À (jc x.2.2)] st=.ok (decide (mR c k x)) st:=by
     apply R.wp.eq;unfold mR;by_cases d:x.1=c
     ·simp?[i6 d,Ũ]
     ·simp?[km d,aZ];simp
    rw[oQ C];by_cases f:mR c k x
    ·rw[oQ ((jF (n.trans (by rw[î f]))).trans (zG (m:=mv 6) (v:=jc x.2.2) rfl))];exact⟨q,À x,_,_,_,rfl,rfl,rfl,by rw[<-g,qA,Ë f]⟩
    ·rw[oQ ((dj (b:=ı) (n.trans (by rw[â f]))).trans (show ı _ st=.nx _ st from rfl))];exact⟨q,o,_,_,_,rfl,rfl,rfl,by rw[<-g,qA,Ñ f]⟩
theorem ro (c:Str)(k:Int):∀(l:Á Rt) (a b:Ð AV) (d:Á AV),au (gT 2 (ï (gN 0) (ï (gN 1) aY))) (m_ (cB (Õ ag (mv 0) (mv 2))) (cB (Õ sA (mv 1) (mv 3)))) (mv 1) [] (l.map kE) [a,b,À (.str c),À (.int k)] s d=.ok (d++(l.filter λx=>decide (mR c k x)).map λx=>.int x.2.1) s
 |[],a,b,d=>by rw[Ų,jt];simp
 |x::r,a,b,d=>by
  rw[Ô];have e:m_ (cB (Õ ag (mv 0) (mv 2))) (cB (Õ sA (mv 1) (mv 3))) [À (.str x.1),À (.int x.2.1),À (.str c),À (.int k)] s=.ok (decide (mR c k x)) s:=by
   apply R.wp.eq;unfold mR;by_cases g:x.1=c
   ·simp?[i6 g,Ũ]
   ·simp?[km g,aZ];simp
  by_cases f:mR c k x
  ·rw[î f]at e;rw[lV (x:=.int x.2.1) (show gT 2 (ï (gN 0) (ï (gN 1) aY)) (kE x) [a,b,À (.str c),À (.int k)] s=.nx [À (.str x.1),À (.int x.2.1),À (.str c),À (.int k)] s from rfl) e rfl,ro c k r,wL,î f,Ë rfl];simp
  ·rw[â f]at e;rw[da (show gT 2 (ï (gN 0) (ï (gN 1) aY)) (kE x) [a,b,À (.str c),À (.int k)] s=.nx [À (.str x.1),À (.int x.2.1),À (.str c),À (.int k)] s from rfl) e,ro c k r,wL,â f];rfl
def rq (l:Á Rt)(c:Str)(k:Int):Á Int:=(l.filter λx=>decide (mR c k x)).map (·.2.1)
def DW (h:At B (mid B V W) s) (hl:V.rs.length<64)(c:Str)(k:Int):Gh (az (ş 9 "rates") (mv 0)) (Ů 3 (Ĝ (ak [("told",none),("told_day",none),("currency",À 1),("day",À 2)] (BK (az (ş 9 "rates") (mv 0))) (gT 2 (ï (gN 0) (ï (gN 1) aY))) (m_ (cB (Õ ag (mv 0) (mv 2))) (cB (Õ sA (mv 1) (mv 3)))) (mv 1)))) [À (.ref B),À (.str c),À (.int k),none] s=.nx [À (.ref B),À (.str c),À (.int k),À (.ref s.length)] (s++[.lst ((rq V.rs c k).map AV.int)]):=by
 have a:=xj (l:=[À (.str c),À (.int k),none]) h (nt B V.h);have q:B+17<=s.length:=h.len (by show 0<17;lia);have hd:=ni h;have j:(V.rs.map rK).map (λp=>tupK p.1)=V.rs.map kE:=by rw[cb];rfl
 have g:=ro (s:=s.set (B+5) (.Ed (V.rs.map rK))) c k V.rs none none [];have f:Ů 3 (Ĝ (ak [("told",none),("told_day",none),("currency",À 1),("day",À 2)] (BK (az (ş 9 "rates") (mv 0))) (gT 2 (ï (gN 0) (ï (gN 1) aY))) (m_ (cB (Õ ag (mv 0) (mv 2))) (cB (Õ sA (mv 1) (mv 3)))) (mv 1))) [À (.ref B),À (.str c),À (.int k),none] s=.nx [À (.ref B),À (.str c),À (.int k),À (.ref s.length)] (s.set (B+5) (.Ed (V.rs.map rK))++[.lst ((rq V.rs c k).map AV.int)]):=by
  have b:ak [("told",none),("told_day",none),("currency",À 1),("day",À 2)] (BK (az (ş 9 "rates") (mv 0))) (gT 2 (ï (gN 0) (ï (gN 1) aY))) (m_ (cB (Õ ag (mv 0) (mv 2))) (cB (Õ sA (mv 1) (mv 3)))) (mv 1) [À (.ref B),À (.str c),À (.int k),none] s=.ok ((rq V.rs c k).map AV.int) (s.set (B+5) (.Ed (V.rs.map rK))):=by
   unfold ak BK;rw[a,ñ];dsimp only;rw[hd,å,ñ,j];dsimp only;rw[Ë (ur (by rw[Ê];lia))];refine g.trans ?_;unfold rq;rw[cb];rfl
  have d:=zG (i:=3) (m:=Ĝ (ak [("told",none),("told_day",none),("currency",À 1),("day",À 2)] (BK (az (ş 9 "rates") (mv 0))) (gT 2 (ï (gN 0) (ï (gN 1) aY))) (m_ (cB (Õ ag (mv 0) (mv 2))) (cB (Õ sA (mv 1) (mv 3)))) (mv 1))) (l:=[À (.ref B),À (.str c),À (.int k),none]) (v:=.ref s.length) (s1:=s.set (B+5) (.Ed (V.rs.map rK))++[.lst ((rq V.rs c k).map AV.int)]) (s:=s) (by
   apply R.wp.eq;simp?[↓ğ b,Ť])
  exact d
 have n:(s.set (B+5) (.Ed (V.rs.map rK))++[AO.lst ((rq V.rs c k).map AV.int)])[B+5]?=À (.Ed (V.rs.map rK)):=by
  rw[Ý (by rw[Ť];lia),Đ (by lia)]
 unfold Gh;rw[a];dsimp only;rw[f];dsimp only;rw[n,hd];dsimp only;rw[GJ _ _ (by rw[Ť];lia),VH];congr 2;obtain⟨o,e⟩:=Ç.mp (h.at (i:=5) rfl);rw[<-e];exact E6 o
end
end Ro
namespace Mm
open PySem L2
def Uy (h:s[i]?=À (.ins c fs)) (l:fs.lookup m=none)(e1:f env s=.ok (.ref i) s) (d:a env s=.ok v s)(e:b env s=.ok w s):ļ c m 2 F f (Ã a (Ã b Ø)) env s=F [.ref i,v,w] s:=by
 unfold ļ;rw[e1,ñ,j9 h];dsimp only[need];rw[Ë l,show Ã a (Ã b Ø) env s=.ok [v,w] s by unfold Ã Ø;rw[d,ñ,e];rfl];rfl
end Mm
namespace Ro
open PySem L2 Mm
section
variable {B:Nat}{V W:Wl}{s:S}
def LW (h:Bs l c k (À y)):(rq l c k).max? = À y.2.1:=by
 obtain⟨⟨a,b⟩,e⟩:=h;rw[E5];unfold rq;refine⟨Ļ.mpr ⟨y,jP.mpr ⟨a,î b⟩,rfl⟩,λd hd=>?_⟩;obtain⟨x,f,rfl⟩:=Ļ.mp hd;obtain⟨x1,x2⟩:=jP.mp f;exact e x x1 (č x2)
def LX (h:Bs l c k none):rq l c k=[]:=by
 unfold rq;rw[List.map_eq_nil_iff,List.filter_eq_nil_iff];exact λx a z=>h x a (č z)
def DA (h:At B (mid B V W) s) (k:Int):ģ [.ref B,.str "coin",.int k] s=.ok (.tup [.int 1,.int 1]) s:=by
 have a:cB (Õ ag (mv 1) (mc ft)) [À (.ref B),À (.str "coin"),À (.int k),none] s=.ok true s:=R.wp.eq (by unfold ft;walk_at"w");unfold ģ cV;exact jv (env:=[À (.ref B),À (.str "coin"),À (.int k),none]) (kN ((jF a).trans rfl))
def Hg (h:ë s i=À xs)(e:m env s=.ok (.ref i) s):rm (cT m) env s=.ok xs.isEmpty s:=by
 have a:truth (.ref i) s=À (!xs.isEmpty):=by
  unfold truth;dsimp only;rw[ü h]
 apply R.wp.eq;simp?[↓ğ e,a];exact Bool.not_not _
def DB (h:At B (mid B V W) s) (hl:V.rs.length<64){c:Str}{k:Int}(i:c≠"coin")(j:c.length<=1000)(g:Bs V.rs c k none):ģ [.ref B,.str c,.int k] s=.ex ⟨5,[]⟩ (s++[.lst []]):=by
 have e:cB (Õ ag (mv 1) (mc ft)) [À (.ref B),À (.str c),À (.int k),none] s=.ok false s:=R.wp.eq (by unfold ft;walk_at"w";simp[i]);have l:=(dj (a:=Ķ (mc xX)) (b:=ı) e).trans (show ı _ s=.nx _ s from rfl);have d:=DW h hl c k;rw[LX g]at d;have f:=Hg (m:=mv 3) (env:=[À (.ref B),À (.str c),À (.int k),À (.ref s.length)]) (Ď s []) rfl;unfold ģ cV;exact nu (env:=[À (.ref B),À (.str c),À (.int k),none]) ((Ć l).trans ((Ć d).trans (nS ((jF f).trans (BE (OA j (by decide) xl λ_=>rfl))))))
def DC (h:At B (mid B V W) s) (nd:(V.rs.map rKey).Nodup) (hl:V.rs.length<64){c:Str}{k:Int}{y:Rt}(q:c≠"coin")(d:Bs V.rs c k (À y)):ģ [.ref B,.str c,.int k] s=.ok (jc y.2.2) (s++[.lst ((rq V.rs c k).map AV.int)]):=by
 have l:cB (Õ ag (mv 1) (mc ft)) [À (.ref B),À (.str c),À (.int k),none] s=.ok false s:=R.wp.eq (by unfold ft;walk_at"w";simp[q]);have t:=(dj (a:=Ķ (mc xX)) (b:=ı) l).trans (show ı _ s=.nx _ s from rfl);have u:=DW h hl c k;have f:=LW d;have j:=Ď s ((rq V.rs c k).map AV.int);have w:B+17<=s.length:=h.len (by show 0<17;lia);have i:=h.app [AO.lst ((rq V.rs c k).map AV.int)];have g:=Hg (m:=mv 3) (env:=[À (.ref B),À (.str c),À (.int k),À (.ref s.length)]) j rfl;rw[show((rq V.rs c k).map AV.int).isEmpty=false by
  cases e:rq V.rs c k with
  |nil=>rw[e]at f;cases f
  |cons a r=>rfl]at g
 have v:=(dj (a:=BG 5 (Ã (g9 (aP (az iV (mv 1)) (aP (mc (.str " has no worth on that day")) nE))) Ø)) (b:=ı) g).trans (show ı _ (s++[AO.lst ((rq V.rs c k).map AV.int)])=.nx _ (s++[AO.lst ((rq V.rs c k).map AV.int)])from rfl);have p:qe BA (ue (mv 3)) [À (.ref B),À (.str c),À (.int k),À (.ref s.length)] (s++[.lst ((rq V.rs c k).map AV.int)])=.ok (.int y.2.1) (s++[.lst ((rq V.rs c k).map AV.int)]):=by
  unfold qe ue;rw[show mv 3 [À (.ref B),À (.str c),À (.int k),À (.ref s.length)] (s++[.lst ((rq V.rs c k).map AV.int)])=.ok (.ref s.length) (s++[.lst ((rq V.rs c k).map AV.int)])from rfl,ñ];dsimp only;rw[j,å,ñ];unfold BA;rw[Mm.rM,å,f];rfl
 have o:zu (Ã (mv 1) (Ã (qe BA (ue (mv 3))) Ø)) [À (.ref B),À (.str c),À (.int k),À (.ref s.length)] (s++[.lst ((rq V.rs c k).map AV.int)])=.ok [.str c,.int y.2.1] (s++[.lst ((rq V.rs c k).map AV.int)]):=by
  unfold zu;rw[show Ã (mv 1) (Ã (qe BA (ue (mv 3))) Ø) [À (.ref B),À (.str c),À (.int k),À (.ref s.length)] (s++[.lst ((rq V.rs c k).map AV.int)])=.ok [.str c,.int y.2.1] (s++[.lst ((rq V.rs c k).map AV.int)]) by
   unfold Ã Ø;rw[xl,ñ,p,ñ];rfl,ñ,Ë (ur (by simp))]
 have n:vE (az (ş 9 "rates") (mv 0)) (Ã (mv 1) (Ã (qe BA (ue (mv 3))) Ø)) [À (.ref B),À (.str c),À (.int k),À (.ref s.length)] (s++[.lst ((rq V.rs c k).map AV.int)])=.ok (jc y.2.2) (s++[.lst ((rq V.rs c k).map AV.int)]):=by
  unfold vE;rw[xj i (nt B V.h),ñ,o,ñ];dsimp only;rw[ni i,å,show qx [.str c,.int y.2.1]=À (eI (rKey y)) by rw[<-d.1.2.1];rfl,å,sI nd d.1.1,å]
 unfold ģ cV;refine jv (env:=[À (.ref B),À (.str c),À (.int k),none]) ((Ć t).trans ((Ć u).trans ((Ć v).trans ?_)));unfold Ķ;rw[n];rfl
def Mp (b:Nat)(l:Á Int):ĭ b (l.map AV.int)=true:=fV λv a=>by
 obtain⟨x,_,rfl⟩:=Ļ.mp a;simp[AV.low]
def Es:(mW b=æ "sold")=(b=true):=by
 cases b
 ·exact cF ⟨λz=>absurd z (by decide+kernel),(λz=>nomatch z)⟩
 ·exact cF ⟨λ_=>rfl,λ_=>rfl⟩
def OT (x:Mo){env:En}(a:k env s=.ok (.str (mW x.1)) s) (b:m env s=.ok (.int x.2.2.2.1) s):IE (cB (Õ ag k (mc (.str "sold")))) m (az tF m) env s=.ok (.int (un x)) s:=by
 apply R.wp.eq;unfold un;by_cases h:x.1=true
 ·simp?[↓ğ a,Es,h,Ũ,↓ğ b]
 ·simp?[↓ğ a,Es,h,aZ,↓ğ b]
def xA (x:Mo):cL [mE x] s=.ok (.int (un x)) s:=by
 unfold cL lU;refine jv (env:=[À (mE x),none,none,none,none,none,none]) ((Ć (e:=[À (mE x),À (.str (mW x.1)),À (.int x.2.1),À (.str x.2.2.1),À (.int x.2.2.2.1),À (.int x.2.2.2.2.1),À (.str x.2.2.2.2.2)]) (s1:=s) ?_).trans ?_)
 ·apply vZ;unfold mE;walk_at"w";rfl
 ·unfold Ķ;rw[OT x rfl rfl];rfl
def u6 (c:a env s=.ok v s1)(d:b env s1=.ok w e):Õ op a b env s=op v w e:=by
 unfold Õ;rw[c,ñ,d];rfl
def Pe {env:En}(h:env[i]?=À (À a)) (e:m env s=.ok v s1)(b:op a v s1=.ok w c):Gg i op m env s=.nx (env.set i (À w)) c:=by
 unfold Gg;rw[h];dsimp only;rw[e];dsimp only[R.bj];rw[b]
def Iq {w:Str}{l:Á Mo}{i:Nat}(h:ë s i=À (l.map mE)):aH [.ref i,.str w] s=.ok (.bl (eS w l 0)) s:=by
 apply R.wp.eq;unfold aH kB;simp?[↓ğ (kg h)];refine nv (λxs env st=>∃q n x3,xs=q.map mE/\env=[À (.ref i),À (.str w),À (.int n),x3]/\st=s/\eS w q n=eS w l 0) ?_ ?_ ?_ _ _ _ ⟨l,0,none,rfl,rfl,rfl,rfl⟩
 ·rintro _ _ st ⟨_,_,_,_,_,rfl,_⟩ p g;rw[ð.mp g];exact h
 ·rintro env st ⟨q,n,x3,d,rfl,rfl,a⟩;cases q with
  |cons _ _=>cases d
  |nil=>
   walk_at"w";rw[<-a];rfl
 ·rintro v j env st ⟨q,n,x3,d,rfl,rfl,a⟩;cases q with
  |nil=>cases d
  |cons x q=>
   cases d;rw[eS]at a;have e:ĝ (mE x) (.int 2) st=.ok (.str x.2.2.1) st:=ix2;have f:=Pe (i:=2) (op:=vR) (env:=[À (.ref i),À (.str w),À (.int n),À (mE x)]) (s:=st) (m:=ó 1 cL (Ã (mv 3) Ø)) rfl (show _=R.ok (.int (un x)) st from xA x) (show vR (.int n) (.int (un x)) st=.ok (.int (n+un x)) st from rfl);by_cases b:x.2.2.1=w
   ·rw[Ë b]at a;by_cases c:n+un x<0
    ·rw[Ë c]at a;simp?[↓ğ e,i6 b,Ũ,↓oQ f,i6 c];rw[a]
    ·rw[Ñ c]at a;simp?[↓ğ e,i6 b,Ũ,↓oQ f,km c,aZ];exact⟨q,_,_,rfl,rfl,a⟩
   ·rw[Ñ b]at a;simp?[↓ğ e,km b,aZ];exact⟨q,_,_,rfl,rfl,a⟩
def Jf {l:Á Mo}{i:Nat}(c:Cl s)(h:ë s i=À (l.map mE)) (hl:l.length<64):(ŗ [.ref i] s).wp λv s'=>v=.bl (MW (f_ l) λ_=>0)/\s'.take s.length=s:=by
 have D:Cl (s++[.dK []]):=c.add (by simp[AO.low,ĭ]);unfold ŗ fO;simp?[↓ğ (nC (ć (e:=[.dK []]) h) hl),Ď,ţ];rw[Ë ⟨Î _,D,kM _ _⟩,nW];refine nv (λxs env st=>∃q f a x2 x3 x4 x5 x6 x7,xs=q.map mE/\env=[À (.ref i),À (.ref s.length),x2,x3,x4,x5,x6,x7]/\st=s++[.dK a]/\a.length+q.length<=64/\(∀w,(ņ a (.inr w)).getD (.int 0)=.int (f w))/\MW q f=MW (f_ l) λ_=>0) ?_ ?_ ?_ _ _ _ ⟨f_ l,λ_=>0,[],none,none,none,none,none,none,rfl,rfl,rfl,by rw[yT];simp;lia,λ_=>rfl,rfl⟩
 ·rintro _ _ st _ p H;cases H
 ·rintro env st ⟨q,f,a,x2,x3,x4,x5,x6,x7,j,rfl,rfl,_,_,b⟩;cases q with
  |cons _ _=>cases j
  |nil=>exact⟨by rw[<-b];rfl,ţ⟩
 ·rintro v J env st ⟨q,f,a,x2,x3,x4,x5,x6,x7,j,rfl,rfl,G,C,b⟩;cases q with
  |nil=>cases j
  |cons x q=>
   cases j;rw[ē]at G;rw[MW]at b;have hd:jS (s++[.dK a]) s.length=À a:=iy (by rw[á (Î _)];simp);have I:(s++[AO.dK a]).set s.length (.dK (g_ a (.inr x.2.2.1) (.int (f x.2.2.1+un x))))=s++[.dK (g_ a (.inr x.2.2.1) (.int (f x.2.2.1+un x)))]:=by rw[dC _ _ (Î _)];simp
   have o:jS (s++[.dK (g_ a (.inr x.2.2.1) (.int (f x.2.2.1+un x)))]) s.length=À (g_ a (.inr x.2.2.1) (.int (f x.2.2.1+un x))):=iy (by rw[á (Î _)];simp);have E:=OT (s:=s++[.dK a]) (k:=mv 2) (m:=mv 5) (env:=[À (.ref i),À (.ref s.length),À (.str (mW x.1)),À (.int x.2.1),À (.str x.2.2.1),À (.int x.2.2.2.1),À (.int x.2.2.2.2.1),À (.str x.2.2.2.2.2)]) x rfl rfl;have t:=Ea (d:=mv 1) (y:=mv 4) (w:=mc (.int 0)) (z:=.int 0) (x:=x.2.2.1) (env:=[À (.ref i),À (.ref s.length),À (.str (mW x.1)),À (.int x.2.1),À (.str x.2.2.1),À (.int x.2.2.2.1),À (.int x.2.2.2.2.1),À (.str x.2.2.2.2.2)]) hd rfl rfl rfl;rw[C]at t;have n:=pO (env:=[À (.ref i),À (.ref s.length),À (.str (mW x.1)),À (.int x.2.1),À (.str x.2.2.1),À (.int x.2.2.2.1),À (.int x.2.2.2.2.1),À (.str x.2.2.2.2.2)]) (x:=x.2.2.1) (v:=.int (f x.2.2.1+un x)) hd (by lia);rw[I]at n;have u:=ve (x:=x.2.2.1) (v:=.int (f x.2.2.1+un x)) o (by rw[BP,Ë rfl]);have r:∀w,(ņ (g_ a (.inr x.2.2.1) (.int (f x.2.2.1+un x))) (.inr w)).getD (.int 0)=.int (if w=x.2.2.1 then f x.2.2.1+un x else f w):=λw=>by
    rw[BP];by_cases hw:w=x.2.2.1
    ·rw[Ë (by rw[hw]),Ë hw];rfl
    ·rw[Ñ (λz=>hw (kX z).symm),Ñ hw,C]
   have F:gT 6 (ï (gN 2) (ï (gN 3) (ï (gN 4) (ï (gN 5) (ï (gN 6) (ï (gN 7) aY)))))) (mE x) [À (.ref i),À (.ref s.length),x2,x3,x4,x5,x6,x7] (s++[.dK a])=.nx [À (.ref i),À (.ref s.length),À (.str (mW x.1)),À (.int x.2.1),À (.str x.2.2.1),À (.int x.2.2.2.1),À (.int x.2.2.2.2.1),À (.str x.2.2.2.2.2)] (s++[.dK a]):=rfl;have A:Õ Ł (qD (mv 1) (mv 4) (mc (.int 0))) (IE (cB (Õ ag (mv 2) (mc (.str "sold")))) (mv 5) (az tF (mv 5))) [À (.ref i),À (.ref s.length),À (.str (mW x.1)),À (.int x.2.1),À (.str x.2.2.1),À (.int x.2.2.2.1),À (.int x.2.2.2.2.1),À (.str x.2.2.2.2.2)] (s++[.dK a])=.ok (.int (f x.2.2.1+un x)) (s++[.dK a]):=u6 t E;rw[oQ F];by_cases g:f x.2.2.1+un x<0
   ·rw[Ë g]at b;simp?[↓ğ A,↓oQ n,↓ğ u,i6 g,Ũ];exact⟨by rw[<-b],ţ⟩
   ·rw[Ñ g]at b;simp?[↓ğ A,↓oQ n,↓ğ u,km g,aZ];exact⟨q,_,_,_,_,_,_,_,_,rfl,rfl,rfl,by have:=By (.inr x.2.2.1) (.int (f x.2.2.1+un x)) a;lia,r,b⟩
end
inductive De where
 |half (d:Int)|vI (x:Mo)|gn (x:Rt)|person (x:Str)|work (x:Str)
def dv:De->AV
 |.half d=>.tup [.str "half",.int d]
 |.vI x=>mE x
 |.gn x=>.tup [.str "rate",.str x.1,.int x.2.1,jc x.2.2]
 |.person x=>.tup [.str "person",.str x]
 |.work x=>.tup [.str "work",.str x]
def Lk (W:Wl)(x:Rt):Prop:=x.1="coin"∨rKey x∈W.rs.map rKey
instance (W:Wl) (x:Rt):ś (Lk W x):=inferInstanceAs (ś (_∨_))
def QR (l:Á Rt)(c:Str)(k:Int):Prop:=c≠"coin"/\∀y∈l,¬mR c k y
instance (l:Á Rt) (c:Str) (k:Int):ś (QR l c k):=inferInstanceAs (ś (_/\_))
def vF (W:Wl)(x:Mo):Str:=if x.2.2.1∉W.ws then "name" else if QR W.rs x.2.2.2.2.2 x.2.1 then "rate" else if x.1=false/\eS x.2.2.1 (f_ (W.mn++[x])) 0=true then "left" else ""
def nj (W:Wl):De->Str
 |.vI x=>vF W x
 |.gn x=>if Lk W x then "taken" else ""
 |_=>""
def gm (W:Wl):De->Wl
 |.half d=>{W with h:=d}
 |.vI x=>if vF W x="" then {W with mn:=W.mn++[x]}else W
 |.gn x=>if Lk W x then W else {W with rs:=W.rs++[x]}
 |.person x=>{W with ps:=W.ps++[x]}
 |.work x=>{W with ws:=W.ws++[x]}
def De.ok (W:Wl):De->Prop
 |.person x=>¬(x∈W.ps∨x∈W.ws)
 |.work x=>¬(x∈W.ps∨x∈W.ws)
 |_=>True
def De.nm:De->Prop
 |.half _=>True
 |.vI x=>x.2.2.1.length<=1000/\x.2.2.2.2.2.length<=1000/\0<=x.2.2.2.1
 |.gn x=>x.1.length<=1000
 |.person x=>x.length<=1000
 |.work x=>x.length<=1000
structure xb (n m:Nat)(W:Wl):Prop where
 lp:W.ps.length<=n
 lw:W.ws.length<=n
 lh:W.rs.length<=m
 lk:W.mn.length<=m
 nd:(W.rs.map rKey).Nodup
 nc:∀x∈W.rs,x.1≠"coin"
 mo:Sz W.mn
def WQ:((æ "person"=æ "half")=False)/\((æ "work"=æ "half")=False)/\((æ "work"=æ "person")=False)/\((æ "half"=æ "person")=False)/\((æ "half"=æ "work")=False)/\((æ "half"=æ "rate")=False)/\((æ "rate"=æ "half")=False)/\((æ "half"=æ "sold")=False)/\((æ "half"=æ "back")=False)/\(∀b,(mW b=æ "half")=False)/\(∀b,(mW b=æ "rate")=False):=by
 refine⟨?_,?_,?_,?_,?_,?_,?_,?_,?_,λb=>?_,λb=>?_⟩;all_goals first|exact km (by decide+kernel)|(cases b<;>exact km (by decide+kernel))
def Er:(mW b=æ "back")=(b=false):=by
 cases b
 ·exact cF ⟨λ_=>rfl,λ_=>rfl⟩
 ·exact cF ⟨λz=>absurd z (by decide+kernel),(λz=>nomatch z)⟩
section
variable {B:Nat}{V W:Wl}{s:S}
noncomputable abbrev dE (B:Nat)(d:AV)(w:Str)(n:Nat):En:=[À (.ref (B+14)),À d,À (.str w),À (.ref n),À (.ref (B+8)),À (.ref (B+9))]
def vg (a:ĝ d (.int 0) s=.ok (.str w) s) (b:sD d (À 1) none s=.ok (.tup r) s):mr 2 3 (Ã (Õ ĝ (mv 1) (mc (.int 0))) (Ã (Ĝ (qe vW (vv (vG (mv 1) (oS (mc (.int 1))) oN)))) Ø)) [À x,À d,none,none,none,none] s=.nx [À x,À d,À (.str w),À (.ref s.length),none,none] (s++[.lst r]):=by
 apply vZ;simp?[↓ğ a,↓ğ b,items,vW]
def vh (h:iP B V W s):mr 4 5 (Ã (Õ ġ (mv 0) (mc (.str "people"))) (Ã (Õ ġ (mv 0) (mc (.str "works"))) Ø)) [À (.ref (B+14)),À d,À (.str w),À (.ref n),none,none] s=.nx (dE B d w n) s:=by
 apply vZ;simp?[↓ğ (sN h.at_ (yw B W.h)),↓ğ (sN h.at_ (nZ B W.h))]
def lW (x:Str)(b:Bool)(a:decide (w=x)=b):cB (Õ ag (mv 2) (mc (.str x))) (dE B d w n) s=.ok b s:=by subst a;rfl
def za (b:Bool)(a:F7 (.str w) (.tup [.str "person",.str "work"]) s=.ok (.bl b) s):cB (Õ F7 (mv 2) (cA (Ã (mc (.str "person")) (Ã (mc (.str "work")) Ø)))) (dE B d w n) s=.ok b s:=by
 apply R.wp.eq;simp?[↓ğ a]
def HG (h:iP B V W s)(d:Int):(Ĺ [.ref (B+14),dv (.half d)] s).wp λv s'=>v=.str (nj W (.half d))/\iP B V (gm W (.half d)) s'/\lO B s s':=by
 have j:B+17<=s.length:=h.at_.len (by show 0<17;lia);have b:=h.app (e:=[.lst [.int d]]) (h.cl.add (by simp[AO.low,ĭ,AV.low]));have g:=A9 (Ď s [.int d]);have f:mG (mv 0) (mc (.str "half")) (Õ ĝ (mv 3) (mc (.int 0))) (dE B (dv (.half d)) "half" s.length) (s++[.lst [.int d]])=.nx (dE B (dv (.half d)) "half" s.length) ((s++[AO.lst [.int d]]).set (B+14) (.dK (wz B d))):=by
  apply vZ;simp?[↓ğ g,↓oQ (pO (Oh b.at_) (by show 9<1000;lia)),JW]
 have e:Ĺ [.ref (B+14),dv (.half d)] s=.ok (.str "") ((s++[AO.lst [.int d]]).set (B+14) (.dK (wz B d))):=by
  unfold Ĺ fj;exact jv (env:=[À (.ref (B+14)),À (dv (.half d)),none,none,none,none]) ((Ć (vg Ox rfl)).trans ((Ć (vh b)).trans (kN ((jF (lW "half" true (by decide+kernel))).trans ((Ć f).trans rfl)))))
 rw[e];have lo:(AO.dK (wz B d)).low (s++[AO.lst [.int d]]).length=true:=by
  simp[AO.low,wz,ĭ,AV.low];lia
 have c:=gW b (i:=14) (o':=.dK (wz B d)) (by lia) rfl (λ_ _=>rfl) lo;exact⟨rfl,⟨b.at_.set 14 _,c.cl,c.tab⟩,((lO.refl B s).app _).trans c.a⟩
def CB (h:iP B V W s)(x:Str)(g:W.ps.length<900):(Ĺ [.ref (B+14),dv (.person x)] s).wp λv s'=>v=.str (nj W (.person x))/\iP B V (gm W (.person x)) s'/\lO B s s':=by
 have b:=h.app (e:=[.lst [.str x]]) (h.cl.add (by simp[AO.low,ĭ,AV.low]));have f:=A9 (Ď s [.str x]);have d:Ŝ (jT "list" Ŏ (mv 4) (Ã (Õ ĝ (mv 3) (mc (.int 0))) Ø)) (dE B (dv (.person x)) "person" s.length) (s++[.lst [.str x]])=.nx (dE B (dv (.person x)) "person" s.length) ((s++[AO.lst [.str x]]).set (B+8) (.lst (W.ps.map AV.str++[.str x]))):=by
  refine a5 (v:=.Ğ) (R.wp.eq ?_);simp?[↓ğ f,iK (rZ b.at_),↓ğ (Mm.append_at (v:=.str x) (rZ b.at_) (by rw[Ê];lia))]
 have e:Ĺ [.ref (B+14),dv (.person x)] s=.ok (.str "") ((s++[AO.lst [.str x]]).set (B+8) (.lst (W.ps.map AV.str++[.str x]))):=by
  unfold Ĺ fj;exact jv (env:=[À (.ref (B+14)),À (dv (.person x)),none,none,none,none]) ((Ć (vg Ox rfl)).trans ((Ć (vh b)).trans ((Ć ((dj (lW "half" false (by decide+kernel))).trans rfl)).trans (kN ((jF (za true rfl)).trans ((Ć ((jF (lW "person" true (by decide+kernel))).trans d)).trans rfl))))))
 rw[e];have lo:(AO.lst (W.ps.map AV.str++[.str x])).low (s++[AO.lst [.str x]]).length=true:=by
  have:=bP (s++[AO.lst [.str x]]).length (W.ps++[x]);rw[Ĕ]at this;exact this
 have c:=gW b (i:=8) (o':=.lst (W.ps.map AV.str++[.str x])) (by lia) rfl (λ_ _=>rfl) lo;refine⟨rfl,⟨?_,c.cl,c.tab⟩,((lO.refl B s).app _).trans c.a⟩;have:=b.at_.set 8 (.lst (W.ps.map AV.str++[.str x]));rw[show(mid B V W).set 8 (.lst (W.ps.map AV.str++[.str x]))=mid B V {W with ps:=W.ps++[x]} by unfold mid;simp;rfl]at this;exact this
def HI (h:iP B V W s)(x:Str)(j:W.ws.length<900)(hw:x∉W.ws):(Ĺ [.ref (B+14),dv (.work x)] s).wp λv s'=>v=.str (nj W (.work x))/\iP B V (gm W (.work x)) s'/\lO B s s':=by
 have b:=h.app (e:=[.lst [.str x]]) (h.cl.add (by simp[AO.low,ĭ,AV.low]));have f:=A9 (Ď s [.str x]);have d:mG (mv 5) (Õ ĝ (mv 3) (mc (.int 0))) (cA Ø) (dE B (dv (.work x)) "work" s.length) (s++[.lst [.str x]])=.nx (dE B (dv (.work x)) "work" s.length) ((s++[AO.lst [.str x]]).set (B+9) (.dK (kT id (λ_=>.tup []) (W.ws++[x])))):=by
  apply vZ;simp?[↓ğ f,↓oQ (pO (nh b.at_) (by rw[CK];lia)),sE (g:=λ_=>AV.tup []) hw rfl]
 have e:Ĺ [.ref (B+14),dv (.work x)] s=.ok (.str "") ((s++[AO.lst [.str x]]).set (B+9) (.dK (kT id (λ_=>.tup []) (W.ws++[x])))):=by
  unfold Ĺ fj;exact jv (env:=[À (.ref (B+14)),À (dv (.work x)),none,none,none,none]) ((Ć (vg Ox rfl)).trans ((Ć (vh b)).trans ((Ć ((dj (lW "half" false (by decide+kernel))).trans rfl)).trans (kN ((jF (za true rfl)).trans ((Ć ((dj (lW "person" false (by decide+kernel))).trans d)).trans rfl))))))
 rw[e];have lo:(AO.dK (kT id (λ_=>.tup []) (W.ws++[x]))).low (s++[AO.lst [.str x]]).length=true:=pG (λ_=>by simp[AV.low,ĭ]) _;have c:=gW b (i:=9) (o':=.dK (kT id (λ_=>.tup []) (W.ws++[x]))) (by lia) rfl (λ_ _=>rfl) lo;exact⟨rfl,⟨b.at_.set 9 _,c.cl,c.tab⟩,((lO.refl B s).app _).trans c.a⟩
def Ks (h:iP B V W s){y:Rt}{j:Nat}(E:ë s j=À [.str y.1,.int y.2.1,jc y.2.2])(J:W.rs.length<64):(Ż [.ref (B+14),.str "rate",.ref j] s).wp λv s'=>v=.str (nj W (.gn y))/\iP B V (gm W (.gn y)) s'/\lO B s s':=by
 have I:B+17<=s.length:=h.at_.len (by show 0<17;lia);have hl:=nJ h.at_;have w:Cl (s++[.lst (W.rs.map kE)]):=h.cl.add (by
  simp only[ľ,bu,AO.low,ů];exact fV λv G=>by obtain⟨x,_,rfl⟩:=Ļ.mp G;simp[kE,AV.low,ĭ])
 have k:=h.app w;have d:=ć (e:=[.lst (W.rs.map kE)]) E;have n:=A9 d;have g:=Oy d;have D:=PY (Ď s (W.rs.map kE)) y;have q:∀u,cB (Õ ag (mv 1) (mc (.str "rate"))) [À (.ref (B+14)),À (.str "rate"),À (.ref j),u] s=.ok true s:=λu=>R.wp.eq (by simp?[Ũ]);have t:Ů 3 (Ĝ (ak [("_law_one",none)] (eV (Õ ġ (mv 0) (mc (.str "rates")))) (gN 0) iu (vG (mv 0) oN (oS (mc (.int 2)))))) [À (.ref (B+14)),À (.str "rate"),À (.ref j),none] s=.nx [À (.ref (B+14)),À (.str "rate"),À (.ref j),À (.ref s.length)] (s++[.lst (W.rs.map kE)]):=by
  apply vZ;simp?[↓ğ (sN h.at_ (nY B W.h)),↓ğ (kg hl)];refine⟨ur (by rw[Ê];lia),?_⟩;rw[ğ (DT (λp F=>by rw[ð.mp F];exact hl) W.rs _ _)];exact⟨rfl,rfl⟩
 have r:(Hf (cB (Õ ag (Õ ĝ (mv 2) (mc (.int 0))) (mc (.str "coin")))) (cB (Õ Bu (cA (Ã (Õ ĝ (mv 2) (mc (.int 0))) (Ã (Õ ĝ (mv 2) (mc (.int 1))) Ø))) (mv 3)))) [À (.ref (B+14)),À (.str "rate"),À (.ref j),À (.ref s.length)] (s++[.lst (W.rs.map kE)])=.ok (decide (Lk W y)) (s++[.lst (W.rs.map kE)]):=by
  have o:cA (Ã (Õ ĝ (mv 2) (mc (.int 0))) (Ã (Õ ĝ (mv 2) (mc (.int 1))) Ø)) [À (.ref (B+14)),À (.str "rate"),À (.ref j),À (.ref s.length)] (s++[.lst (W.rs.map kE)])=.ok (kE y) (s++[.lst (W.rs.map kE)]):=by
   apply R.wp.eq;simp?[↓ğ n,↓ğ g];rfl
  apply R.wp.eq;by_cases m:y.1="coin"
  ·simp?[↓ğ n,i6 m,Ũ];simp[Lk,m]
  ·simp?[↓ğ n,km m,aZ,↓ğ o,↓ğ D];exact decide_eq_decide.mpr ⟨.inr,λz=>z.resolve_left m⟩
 by_cases f:Lk W y
 ·have e:Ż [.ref (B+14),.str "rate",.ref j] s=.ok (.str "taken") (s++[AO.lst (W.rs.map kE)]):=by
   unfold Ż fN;exact jv (env:=[À (.ref (B+14)),À (.str "rate"),À (.ref j),none]) (kN ((jF (q _)).trans ((Ć t).trans (kN ((jF (r.trans (by rw[î f]))).trans rfl)))))
  rw[e];have g:gm W (.gn y)=W:=Ë f;rw[g];exact⟨by simp only[nj,Ë f],k,(lO.refl B s).app _⟩
 ·have H:=(dj (a:=Ķ (mc (.str "taken"))) (b:=ı) (r.trans (by rw[â f]))).trans (show ı _ (s++[AO.lst (W.rs.map kE)])=.nx _ (s++[AO.lst (W.rs.map kE)])from rfl);have l:=nJ k.at_;have A:(qe mj (vv (mv 2))) [À (.ref (B+14)),À (.str "rate"),À (.ref j),À (.ref s.length)] (s++[AO.lst (W.rs.map kE)])=.ok (rE y) (s++[AO.lst (W.rs.map kE)]):=by
   apply R.wp.eq;simp?[items,d,mj];rfl
  have C:Ŝ (jT "list" Ŏ (Õ ġ (mv 0) (mc (.str "rates"))) (Ã (qe mj (vv (mv 2))) Ø)) [À (.ref (B+14)),À (.str "rate"),À (.ref j),À (.ref s.length)] (s++[AO.lst (W.rs.map kE)])=.nx [À (.ref (B+14)),À (.str "rate"),À (.ref j),À (.ref s.length)] ((s++[AO.lst (W.rs.map kE)]).set (B+12) (.lst (W.rs.map rE++[rE y]))):=by
   refine a5 (v:=.Ğ) (R.wp.eq ?_);simp?[↓ğ (sN k.at_ (nY B W.h)),iK l,↓ğ A,↓ğ (Mm.append_at (v:=rE y) l (by rw[Ê];lia))]
  have e:Ż [.ref (B+14),.str "rate",.ref j] s=.ok (.str "") ((s++[AO.lst (W.rs.map kE)]).set (B+12) (.lst (W.rs.map rE++[rE y]))):=by
   unfold Ż fN;exact jv (env:=[À (.ref (B+14)),À (.str "rate"),À (.ref j),none]) ((Ć ((jF (q _)).trans ((Ć t).trans ((Ć H).trans C)))).trans rfl)
  rw[e];have g:gm W (.gn y)={W with rs:=W.rs++[y]}:=Ñ f;have lo:(AO.lst (W.rs.map rE++[rE y])).low (s++[AO.lst (W.rs.map kE)]).length=true:=by
   have:=Iw (s++[AO.lst (W.rs.map kE)]).length (W.rs++[y]);rw[Ĕ]at this;exact this
  have c:=gW k (i:=12) (o':=.lst (W.rs.map rE++[rE y])) (by lia) rfl (λ_ _=>rfl) lo;rw[g];refine⟨by simp only[nj,Ñ f],⟨?_,c.cl,c.tab⟩,((lO.refl B s).app _).trans c.a⟩;have:=k.at_.set 12 (.lst (W.rs.map rE++[rE y]));rw[show(mid B V W).set 12 (.lst (W.rs.map rE++[rE y]))=mid B V {W with rs:=W.rs++[y]} by unfold mid;simp;rfl]at this;exact this
def HH (h:iP B V W s)(y:Rt)(j:W.rs.length<64):(Ĺ [.ref (B+14),dv (.gn y)] s).wp λv s'=>v=.str (nj W (.gn y))/\iP B V (gm W (.gn y)) s'/\lO B s s':=by
 have g:sD (dv (.gn y)) (À 1) none s=.ok (.tup [.str y.1,.int y.2.1,jc y.2.2]) s:=rfl;have b:Cl (s++[.lst [.str y.1,.int y.2.1,jc y.2.2]]):=h.cl.add (by simp[AO.low,ĭ,AV.low,jc]);have a:=h.app b;have hw:=Ks (y:=y) a (Ď _ _) j;obtain⟨v,s',i,f,c,d⟩:=hw.get;have e:Ĺ [.ref (B+14),dv (.gn y)] s=.ok v s':=by
  unfold Ĺ fj;refine jv (env:=[À (.ref (B+14)),À (dv (.gn y)),none,none,none,none]) ((Ć (vg Ox g)).trans ((Ć (vh a)).trans ((Ć ((dj (lW "half" false (by decide+kernel))).trans rfl)).trans ((Ć ((dj (za false rfl)).trans rfl)).trans (kN ((jF (lW "rate" true (by decide+kernel))).trans ?_))))));unfold Ķ;exact Ĳ (λr:R AV=>r.bj λv k=>RS.rt v k) i
 rw[e];exact⟨f,c,((lO.refl B s).app _).trans d⟩
def Gz {s t s':S}(e:s'.take (s++t).length=s++t):s'.take s.length=s:=by
 have:=Ĳ (List.take s.length) e;rwa [List.take_take,Sk (by simp),ţ]at this
def Hh (h:a env s=.ok v s1):ó 1 F (Ã a Ø) env s=F [v] s1:=by
 unfold ó Ã Ø;rw[h];rfl
def Ph (h:a env s=.ok v s1)(k:b env s1=.ok w c):ó 2 F (Ã a (Ã b Ø)) env s=F [v,w] c:=by
 unfold ó Ã Ø;rw[h,ñ,k];rfl
def Jh (h:m env s=.ok xs s1):Ĝ m env s=.ok (.ref s1.length) (s1++[.lst xs]):=by
 unfold Ĝ;rw[h];rfl
def mv2:mv 2 (a::b::À v::l) s=.ok v s:=rfl
def A6 (h:c env s=.ok false s1):fD c a ı env s=.nx env s1:=(dj h).trans rfl
def Ic (h:c env s=.ok true s1):fD c (Ķ (mc v)) b env s=.rt v s1:=(jF h).trans rfl
def UI (b:Bs l c k o):ll (oV c o)=decide (QR l c k):=by
 cases o with
 |some y=>rw[â λz=>z.2 y b.1.1 b.1.2];rfl
 |none=>
  by_cases a:c="coin"
  ·rw[â λz=>z.1 a];unfold oV;rw[Ë a];rfl
  ·rw[î ⟨a,b⟩];unfold oV;rw[Ñ a];rfl
def Hm (h:ë s i=À xs)(e1:a env s=.ok (.ref i) s) (d:b env s=.ok y s)(hl:xs.length<900):Õ Ł a (Ĝ (ŷ (Ã b Ø))) env s=.ok (.ref (s.length+1)) (s++[.lst [y]]++[.lst (xs++[y])]):=by
 have e:Ĝ (ŷ (Ã b Ø)) env s=.ok (.ref s.length) (s++[.lst [y]]):=by
  apply R.wp.eq;simp?[↓ğ d]
 refine(u6 e1 e).trans ?_;show(need (ë (s++[.lst [y]]) i) λxs=>need (ë (s++[.lst [y]]) s.length) λc=>if xs.length+c.length<=sizeLine then R.ok (AV.ref (s++[AO.lst [y]]).length) (s++[AO.lst [y]]++[AO.lst (xs++c)])else .bad)=_;rw[ć h,Ď,å,å,Ë (ur (by simp;lia))];simp
def DO (c:Cl s)(l:Á Mo)(x:Mo):Cl (s++[.lst [mE x]]++[.lst (l.map mE++[mE x])]):=by
 have a:=c.add (e:=[.lst [mE x]]) (by simp only[ľ,bu,AO.low,ů];exact kM _ [x]);refine a.add ?_;simp only[ľ,bu,AO.low,ů];have:=kM ((s++[AO.lst [mE x]]).length+[AO.lst (l.map mE++[mE x])].length) (l++[x]);rw[Ĕ]at this;exact this
abbrev mU (B:Nat)(x:Mo)(j:Nat)(r:En):En:=À (.ref (B+14))::À (.str (mW x.1))::À (.ref j)::r
def NW (h:iP B V W s){x:Mo}{j:Nat}(n:ë s j=À [.int x.2.1,.str x.2.2.1,.int x.2.2.2.1,.int x.2.2.2.2.1,.str x.2.2.2.2.2])(L:W.rs.length<64)(Q:W.mn.length<63)(N:Sz W.mn):(Ĭ [.ref (B+14),.str (mW x.1),.ref j] s).wp λv s'=>v=.str (nj W (.vI x))/\iP B V (gm W (.vI x)) s'/\lO B s s':=by
 have P:B+17<=s.length:=h.at_.len (by show 0<17;lia);obtain⟨o,I,F⟩:=x9 W L x.2.2.2.2.2 x.2.1;have q:cB (Õ pM (Õ ĝ (mv 2) (mc (.int 1))) (Õ ġ (mv 0) (mc (.str "works")))) (mU B x j [none]) s=.ok (!decide (x.2.2.1∈W.ws)) s:=by
  apply R.wp.eq;simp?[↓ğ (Oy n),↓ğ (sN h.at_ (nZ B W.h)),↓ğ (uF (nh h.at_)),l_]
 have r:cB (Õ o7 (ó 3 cK (Ã (mv 0) (Ã (Õ ĝ (mv 2) (mc (.int 4))) (Ã (Õ ĝ (mv 2) (mc (.int 0))) Ø)))) (mc .Ğ)) (mU B x j [none]) s=.ok (decide (QR W.rs x.2.2.2.2.2 x.2.1)) s:=by
  apply R.wp.eq;simp?[↓ğ (T6 n),↓ğ (A9 n),↓ğ (F h),UI I]
 have t:Ů 3 (Õ Ł (cA (Ã (mv 1) Ø)) (qe mj (vv (mv 2)))) (mU B x j [none]) s=.nx (mU B x j [À (mE x)]) s:=by
  refine zG (l:=(mU B x j [none])) (R.wp.eq ?_);have D:Ł (.tup [.str (mW x.1)]) (.tup [.int x.2.1,.str x.2.2.1,.int x.2.2.2.1,.int x.2.2.2.2.1,.str x.2.2.2.2.2]) s=.ok (mE x) s:=by
   unfold Ł;exact Ë ⟨N8 _ _,ur (by simp)⟩
  simp?[items,n,mj,↓ğ D]
 have J:=Hm (a:=Õ ġ (mv 0) (mc (.str "money"))) (b:=mv 3) (env:=(mU B x j [À (mE x)])) (yb h.at_) (tR h.at_ (nX B W.h) mX) rfl (by rw[Ê];lia);have A:=DO h.cl W.mn x;have M:ë (s++[.lst [mE x]]++[.lst (W.mn.map mE++[mE x])]) (s.length+1)=À ((W.mn++[x]).map mE):=by
  have:=Ď (s++[.lst [mE x]]) (W.mn.map mE++[mE x]);rw[Ĕ];simpa using this
 have u:m_ (cB (Õ ag (mv 1) (mc (.str "back")))) (rm (cT (ze (ó 1 ŗ (Ã (Õ Ł (Õ ġ (mv 0) (mc (.str "money"))) (Ĝ (ŷ (Ã (mv 3) Ø)))) Ø))))) (mU B x j [À (mE x)]) s=.ok (decide (x.1=false/\eS x.2.2.1 (f_ (W.mn++[x])) 0=true)) s:=by
  have G:(ze (ó 1 ŗ (Ã (Õ Ł (Õ ġ (mv 0) (mc (.str "money"))) (Ĝ (ŷ (Ã (mv 3) Ø)))) Ø))) (mU B x j [À (mE x)]) s=.ok (.bl (!eS x.2.2.1 (f_ (W.mn++[x])) 0)) s:=by
   obtain⟨v,s',H,rfl,e⟩:=(Jf A M (by simp;lia)).get;have E:ó 1 ŗ (Ã (Õ Ł (Õ ġ (mv 0) (mc (.str "money"))) (Ĝ (ŷ (Ã (mv 3) Ø)))) Ø) (mU B x j [À (mE x)]) s=.ok (.bl (MW (f_ (W.mn++[x])) λ_=>0)) s':=(Hh J).trans H;unfold ze;rw[E,ñ,MX N];refine Ë ⟨?_,by simp[AV.low]⟩;rw[È]at e;exact Gz e
  apply R.wp.eq;by_cases w:x.1=false
  ·simp?[Er,i6 w,Ũ,↓ğ G,jJ];simp
  ·simp?[Er,km w,aZ];simp
 by_cases g:x.2.2.1∈W.ws
 ·have p:=A6 (a:=Ķ (mc (.str "name"))) (q.trans (by rw[î g];rfl));by_cases k:QR W.rs x.2.2.2.2.2 x.2.1
  ·have e:Ĭ [.ref (B+14),.str (mW x.1),.ref j] s=.ok (.str "rate") s:=by
    unfold Ĭ bb;exact jv (env:=(mU B x j [none])) ((Ć p).trans (kN (Ic (r.trans (by rw[î k])))))
   have d:vF W x="rate":=by unfold vF;rw[Ñ (λz=>z g),Ë k]
   have f:gm W (.vI x)=W:=Ñ (by rw[d];decide);rw[e,f];exact⟨by show _=AV.str (vF W x);rw[d],h,lO.refl B s⟩
  ·have y:=A6 (a:=Ķ (mc (.str "rate"))) (r.trans (by rw[â k]));by_cases m:x.1=false/\eS x.2.2.1 (f_ (W.mn++[x])) 0=true
   ·have e:Ĭ [.ref (B+14),.str (mW x.1),.ref j] s=.ok (.str "left") s:=by
     unfold Ĭ bb;exact jv (env:=(mU B x j [none])) ((Ć p).trans ((Ć y).trans ((Ć t).trans (kN (Ic (u.trans (by rw[î m])))))))
    have d:vF W x="left":=by unfold vF;rw[Ñ (λz=>z g),Ñ k,Ë m]
    have f:gm W (.vI x)=W:=Ñ (by rw[d];decide);rw[e,f];exact⟨by show _=AV.str (vF W x);rw[d],h,lO.refl B s⟩
   ·have O:=A6 (a:=Ķ (mc (.str "left"))) (u.trans (by rw[â m]));have C:Ŝ (jT "list" Ŏ (Õ ġ (mv 0) (mc (.str "money"))) (Ã (mv 3) Ø)) (mU B x j [À (mE x)]) s=.nx (mU B x j [À (mE x)]) (s.set (B+15) (.lst (W.mn.map mE++[mE x]))):=by
     refine a5 (v:=.Ğ) (R.wp.eq ?_);simp?[↓ğ (sN h.at_ (nX B W.h)),iK (yb h.at_),↓ğ (Mm.append_at (v:=mE x) (yb h.at_) (by rw[Ê];lia))]
    have e:Ĭ [.ref (B+14),.str (mW x.1),.ref j] s=.ok (.str "") (s.set (B+15) (.lst (W.mn.map mE++[mE x]))):=by
     unfold Ĭ bb;exact jv (env:=(mU B x j [none])) ((Ć p).trans ((Ć y).trans ((Ć t).trans ((Ć O).trans ((Ć C).trans rfl)))))
    have d:vF W x="":=by unfold vF;rw[Ñ (λz=>z g),Ñ k,Ñ m]
    have f:gm W (.vI x)={W with mn:=W.mn++[x]}:=Ë d;have lo:(AO.lst (W.mn.map mE++[mE x])).low s.length=true:=by
     have:=kM s.length (W.mn++[x]);rw[Ĕ]at this;exact this
    have c:=gW h (i:=15) (o':=.lst (W.mn.map mE++[mE x])) (by lia) rfl (λ_ _=>rfl) lo;rw[e,f];refine⟨by show _=AV.str (vF W x);rw[d],⟨?_,c.cl,c.tab⟩,c.a⟩;have:=h.at_.set 15 (.lst (W.mn.map mE++[mE x]));rw[show(mid B V W).set 15 (.lst (W.mn.map mE++[mE x]))=mid B V {W with mn:=W.mn++[x]} by unfold mid;simp;rfl]at this;exact this
 ·have e:Ĭ [.ref (B+14),.str (mW x.1),.ref j] s=.ok (.str "name") s:=by
   unfold Ĭ bb;exact jv (env:=(mU B x j [none])) (kN (Ic (q.trans (by rw[â g];rfl))))
  have d:vF W x="name":=by unfold vF;rw[Ë g]
  have f:gm W (.vI x)=W:=Ñ (by rw[d];decide);rw[e,f];exact⟨by show _=AV.str (vF W x);rw[d],h,lO.refl B s⟩
def LY (h:iP B V W s)(x:Mo)(j:W.rs.length<64)(k:W.mn.length<63)(l:Sz W.mn):(Ĺ [.ref (B+14),dv (.vI x)] s).wp λv s'=>v=.str (nj W (.vI x))/\iP B V (gm W (.vI x)) s'/\lO B s s':=by
 have g:sD (mE x) (À 1) none s=.ok (.tup [.int x.2.1,.str x.2.2.1,.int x.2.2.2.1,.int x.2.2.2.2.1,.str x.2.2.2.2.2]) s:=rfl;have b:Cl (s++[.lst [.int x.2.1,.str x.2.2.1,.int x.2.2.2.1,.int x.2.2.2.2.1,.str x.2.2.2.2.2]]):=h.cl.add (by simp[AO.low,ĭ,AV.low]);have a:=h.app b;have hw:=NW (x:=x) a (Ď _ _) j k l;obtain⟨v,s',i,f,c,d⟩:=hw.get;have e:Ĺ [.ref (B+14),dv (.vI x)] s=.ok v s':=by
  unfold Ĺ fj;refine jv (env:=[À (.ref (B+14)),À (dv (.vI x)),none,none,none,none]) ((Ć (vg Ox g)).trans ((Ć (vh a)).trans ((Ć ((dj (lW "half" false (â (by simp only[WQ,n5])))).trans rfl)).trans ((Ć ((dj (za false (by cases x.1<;>rfl))).trans rfl)).trans ((Ć ((dj (lW "rate" false (â (by simp only[WQ,n5])))).trans rfl)).trans ?_)))));unfold Ķ;exact Ĳ (λr:R AV=>r.bj λv m=>RS.rt v m) i
 rw[e];exact⟨f,c,((lO.refl B s).app _).trans d⟩
def HJ (h:iP B V W s)(a:xb n m W)(c:n<63)(b:m<63)(d:De)(hd:d.ok W):(Ĺ [.ref (B+14),dv d] s).wp λv s'=>v=.str (nj W d)/\iP B V (gm W d) s'/\lO B s s':=by
 have g:=a.lp;have i:=a.lw;have e:=a.lh;have f:=a.lk;cases d with
 |half d=>exact HG h d
 |vI y=>exact LY h y (by lia) (by lia) a.mo
 |gn y=>exact HH h y (by lia)
 |person x=>exact CB h x (by lia)
 |work x=>exact HI h x (by lia) λz=>hd (.inr z)
def D7 (g:xb n m W)(d:De)(hd:d.nm):xb (n+1) (m+1) (gm W d):=by
 have q:=g.lp;have r:=g.lw;have o:=g.lh;have p:=g.lk;have f:xb (n+1) (m+1) W:=⟨by lia,by lia,by lia,by lia,g.nd,g.nc,g.mo⟩
 cases d with
 |half d=>exact⟨f.lp,f.lw,f.lh,f.lk,f.nd,f.nc,f.mo⟩
 |person x=>exact⟨by show(W.ps++[x]).length<=_;simp;lia,f.lw,f.lh,f.lk,f.nd,f.nc,f.mo⟩
 |work x=>exact⟨f.lp,by show(W.ws++[x]).length<=_;simp;lia,f.lh,f.lk,f.nd,f.nc,f.mo⟩
 |vI y=>
  by_cases h:vF W y=""
  ·rw[show gm W (.vI y)={W with mn:=W.mn++[y]}from Ë h];refine⟨f.lp,f.lw,f.lh,by show(W.mn++[y]).length<=_;simp;lia,f.nd,f.nc,Mu g.mo ?_⟩;by_cases i:y.1=true
   ·left;unfold un;rw[Ë i];exact hd.2.2
   ·right;cases j:eS y.2.2.1 (f_ (W.mn++[y])) 0 with
    |false=>rfl
    |true=>
     refine absurd h ?_;unfold vF;rw[Ë (c:=y.1=false/\_) ⟨by simpa using i,j⟩];split
     ·decide
     ·split<;>decide
  ·rw[show gm W (.vI y)=W from Ñ h];exact f
 |gn y=>
  by_cases h:Lk W y
  ·rw[show gm W (.gn y)=W from Ë h];exact f
  ·rw[show gm W (.gn y)={W with rs:=W.rs++[y]}from Ñ h];refine⟨f.lp,f.lw,by show(W.rs++[y]).length<=_;simp;lia,f.lk,?_,λx hx=>?_,f.mo⟩
   ·show((W.rs++[y]).map rKey).Nodup;rw[Ĕ];exact gU.mpr ⟨g.nd,by simp,λa k b l e=>h (.inr (by rw[ð.mp l]at e;rw[<-e];exact k))⟩
   ·rcases Ŕ.mp hx with hx|hx
    ·exact g.nc x hx
    ·rw[ð.mp hx];exact λz=>h (.inl z)
end
end Ro
set_option maxHeartbeats 400000
namespace Mm
open PySem L2
def zj (h:s[i]?=À (.exc c)) (e:a c=À b):bA a (.ref i) s=.ok (.bl b) s:=by
 unfold bA;simp only[h,e,å]
def IH (c:a env s=.ok v s)(d:b env s=.ok w s):ó 2 F (Ã a (Ã b Ø)) env s=F [v,w] s:=by
 unfold ó Ã Ø;rw[c,ñ,d,ñ];rfl
end Mm
namespace Ro
open PySem L2 Mm
def Rc (c:Nat)(x:Str):Prop:=c=2/\x="taken"∨c=3/\x="name"∨c=5/\x="rate"∨c=6/\x="left"
section
variable {B:Nat}{V W:Wl}{s:S}
def Iy (b:Nat)(l:Á Rt):ĭ b ((l.map rK).map (·.2))=true:=fV λv a=>by
 rw[cb]at a;obtain⟨x,_,rfl⟩:=Ļ.mp a;simp[rK,jc,AV.low,ĭ]
theorem Kj {k:Str×Int}:∀l:Á Rt,(ņ (l.map rK) (eI k)).isSome=decide (k∈l.map rKey)
 |[]=>rfl
 |x::r=>by
  show(if eI (rKey x)=eI k then À (jc x.2.2)else ņ (r.map rK) (eI k)).isSome=_;by_cases a:rKey x=k
  ·rw[Ë (by rw[a]),î (by rw[Ô,a];exact .head _)];rfl
  ·rw[Ñ λz=>a (nG z),Kj r,Ô];congr 1;rw[ß];exact cF ⟨.inr,λz=>z.resolve_left λe=>a e.symm⟩
def Dh (h:At B (mid B V W) s) (y:Rt)(n:y.1.length<=1000)(t:V.rs.length<64) :
  aW [.ref B,.str y.1,.int y.2.1,jc y.2.2] s=if Lk V y then .ex ⟨2,[]⟩ s else .ok .Ğ (s.set (B+5) (.dT ((V.rs++[y]).map rK))):=by
 unfold aW ie;by_cases d:y.1="coin"
 ·have g:cB (Õ ag (mv 1) (mc ft)) [À (.ref B),À (.str y.1),À (.int y.2.1),À (jc y.2.2)] s=.ok true s:=R.wp.eq (by unfold ft;walk_at"w";simp[d]);rw[Ë (.inl d)];exact nu (env:=[À (.ref B),À (.str y.1),À (.int y.2.1),À (jc y.2.2)]) (nS ((jF g).trans (BE (by walk_at"w"))))
 ·have g:cB (Õ ag (mv 1) (mc ft)) [À (.ref B),À (.str y.1),À (.int y.2.1),À (jc y.2.2)] s=.ok false s:=R.wp.eq (by unfold ft;walk_at"w";simp[d]);have l:=(dj (a:=BG 2 (Ã (mc (.str "a coin is worth a coin")) Ø)) (b:=ı) g).trans (show ı _ s=.nx _ s from rfl);have j:zu (Ã (mv 1) (Ã (mv 2) Ø)) [À (.ref B),À (.str y.1),À (.int y.2.1),À (jc y.2.2)] s=.ok [.str y.1,.int y.2.1] s:=by
   unfold zu;rw[show Ã (mv 1) (Ã (mv 2) Ø) [À (.ref B),À (.str y.1),À (.int y.2.1),À (jc y.2.2)] s=.ok [.str y.1,.int y.2.1] s from rfl,ñ,Ë (ur (by simp))]
  have i:qx [.str y.1,.int y.2.1]=À (eI (rKey y)):=rfl;have f:cB (yc (Ã (mv 1) (Ã (mv 2) Ø)) (az (ş 9 "rates") (mv 0))) [À (.ref B),À (.str y.1),À (.int y.2.1),À (jc y.2.2)] s=.ok (decide (rKey y∈V.rs.map rKey)) s:=by
   unfold cB yc;rw[j,ñ,xj h (nt B V.h),ñ];dsimp only;rw[ni h,å,i,å,Kj (k:=rKey y)];rfl
  by_cases c:rKey y∈V.rs.map rKey
  ·rw[Ë (.inr c)];rw[î c]at f;exact nu (env:=[À (.ref B),À (.str y.1),À (.int y.2.1),À (jc y.2.2)]) ((Ć l).trans (nS ((jF f).trans (BE (OA n (by decide) xl λ_=>rfl)))))
  ·rw[Ñ λz=>z.elim d c];rw[â c]at f;have r:=(dj (a:=BG 2 (Ã (g9 (aP (az iV (mv 1)) (aP (mc (.str " has a worth of that day already")) nE))) Ø)) (b:=ı) f).trans (show ı _ s=.nx _ s from rfl);have m:v5 (az (ş 9 "rates") (mv 0)) (Ã (mv 1) (Ã (mv 2) Ø)) (mv 3) [À (.ref B),À (.str y.1),À (.int y.2.1),À (jc y.2.2)] s=.nx [À (.ref B),À (.str y.1),À (.int y.2.1),À (jc y.2.2)] (s.set (B+5) (.dT ((V.rs++[y]).map rK))):=by
    unfold v5;rw[show mv 3 [À (.ref B),À (.str y.1),À (.int y.2.1),À (jc y.2.2)] s=.ok (jc y.2.2) s from rfl,fP,xj h (nt B V.h),fP,j,fP];dsimp only;rw[ni h,i];dsimp only;rw[Ë (by rw[Ê];exact ũ (by lia))];congr 3;unfold g_;rw[Ñ ?_,Ĕ]
    ·rfl
    ·rw[eY];rintro⟨p,o,e⟩;obtain⟨x,q,rfl⟩:=Ļ.mp o;exact c (by rw[<-nG (a:=rKey x) (b:=rKey y) (č e)];exact Ļ.mpr ⟨x,q,rfl⟩)
   exact my (env:=[À (.ref B),À (.str y.1),À (.int y.2.1),À (jc y.2.2)]) ((Ć l).trans ((Ć r).trans m))
def RM {a b y:Str}(e:a.length<=1000)(f:b.length<=1000)(g:y.length<=1000)(d:m env s=.ok (.str y) s):BG c (Ã (g9 (aP (mc (.str a)) (aP (az iV m) (aP (mc (.str b)) nE)))) Ø) env s=.ex ⟨c,[]⟩ s:=BE (Oz e g d _ _ (join_one f λ_=>rfl))
def GC (h:iP B V W s){n m:Nat}(d:xb n m V)(g:m<63){c:Str}(k:Int)(f:c.length<=1000):∃e,Cl (s++e)/\(QR V.rs c k/\ģ [.ref B,.str c,.int k] s=.ex ⟨5,[]⟩ (s++e)∨¬QR V.rs c k/\∃v,ģ [.ref B,.str c,.int k] s=.ok v (s++e)):=by
 have i:=d.lh;obtain⟨o,a,_⟩:=x9 V (by lia) c k;cases o with
 |some y=>
  have b:c≠"coin":=λz=>d.nc y a.1.1 (a.1.2.1.trans z);exact⟨_,h.cl.add (by simp only[ľ,bu,AO.low,ů];exact Mp _ _),.inr ⟨λz=>z.2 y a.1.1 a.1.2,_,DC h.at_ d.nd (by lia) b a⟩⟩
 |none=>
  by_cases b:c="coin"
  ·subst b;exact⟨[],by rw[a8];exact h.cl,.inr ⟨λz=>z.1 rfl,_,by rw[DA h.at_,a8]⟩⟩
  ·exact⟨_,CY h.cl,.inl ⟨⟨b,a⟩,DB h.at_ (by lia) b f a⟩⟩
def Kg {t:S}{k:Nat}(c:Cl s)(lo:ĭ s.length xs=true)(e:m env s=.ok (.ref k) (s++t)) (b:ë (s++t) k=À xs) (a:s.length<=k):fU m env s=.ok xs s:=by
 apply R.wp.eq;simp?[↓ğ e,b,↓lF,ţ];exact⟨a,c,lo⟩
def Ip (h:iP B V W s)(p:V.mn.length<63)(x:Mo){env:En}(c:mv 0 env s=.ok (.ref B) s) (a:mv 2 env s=.ok (.str w) s) (d:mv 6 env s=.ok (mE x) s):cT (ze (ó 2 aH (Ã (Ĝ (fU (ó 1 aO (Ã (Õ Ł (az (ş 9 "money") (mv 0)) (Ĝ (ŷ (Ã (mv 6) Ø)))) Ø)))) (Ã (mv 2) Ø)))) env s=.ok (eS w (f_ (V.mn++[x])) 0) s:=by
 have g:az (ş 9 "money") (mv 0) env s=.ok (.ref (B+6)) s:=by
  unfold az;rw[c,ñ];exact fo (eR h.at_) (qs B V.h)
 have l:=Hm (vC h.at_) g d (by rw[Ê];lia);have o:=DO h.cl V.mn x;have m:ë (s++[.lst [mE x]]++[.lst (V.mn.map mE++[mE x])]) (s.length+1)=À ((V.mn++[x]).map mE):=by
  have:=Ď (s++[.lst [mE x]]) (V.mn.map mE++[mE x]);rw[Ĕ];simpa using this
 have n:Tb (s++[.lst [mE x]]++[.lst (V.mn.map mE++[mE x])]):=(h.tab.app _).app _;have e:=(Hh (F:=aO) l).trans (u9 m (by simp;lia) n);have j:=Kg (t:=[.lst [mE x]]++[.lst (V.mn.map mE++[mE x])]++[.lst ((f_ (V.mn++[x])).map mE)]) h.cl (kM s.length (f_ (V.mn++[x]))) (by rw[<-È,<-È];exact e) (by rw[<-È,<-È];exact Ď _ _) (by simp);have k:Ĝ (fU (ó 1 aO (Ã (Õ Ł (az (ş 9 "money") (mv 0)) (Ĝ (ŷ (Ã (mv 6) Ø)))) Ø))) env s=.ok (.ref s.length) (s++[.lst ((f_ (V.mn++[x])).map mE)]):=Jh j;have b:mv 2 env (s++[.lst ((f_ (V.mn++[x])).map mE)])=.ok (.str w) (s++[.lst ((f_ (V.mn++[x])).map mE)]):=by
  unfold mv at a⊢;split at a
  ·cases a;rfl
  ·cases a
 have f:ó 2 aH (Ã (Ĝ (fU (ó 1 aO (Ã (Õ Ł (az (ş 9 "money") (mv 0)) (Ĝ (ŷ (Ã (mv 6) Ø)))) Ø)))) (Ã (mv 2) Ø)) env s=.ok (.bl (eS w (f_ (V.mn++[x])) 0)) (s++[.lst ((f_ (V.mn++[x])).map mE)]):=(Ph k b).trans (Iq (Ď s _));have i:ze (ó 2 aH (Ã (Ĝ (fU (ó 1 aO (Ã (Õ Ł (az (ş 9 "money") (mv 0)) (Ĝ (ŷ (Ã (mv 6) Ø)))) Ø)))) (Ã (mv 2) Ø))) env s=.ok (.bl (eS w (f_ (V.mn++[x])) 0)) s:=by
  unfold ze;rw[f,ñ];exact Ë ⟨ţ,by simp[AV.low]⟩
 unfold cT;rw[i,ñ];rfl
noncomputable abbrev mA (B:Nat)(x:Mo):Á AV:=[.ref B,.int x.2.1,.str x.2.2.1,.int x.2.2.2.1,.int x.2.2.2.2.1,.str x.2.2.2.2.2]
noncomputable abbrev mV (B:Nat)(x:Mo)(r:En):En:=À (.ref B)::À (.int x.2.1)::À (.str x.2.2.1)::À (.int x.2.2.2.1)::À (.int x.2.2.2.2.1)::À (.str x.2.2.2.2.2)::r
def mF (b:Bool):Á AV->S->R AV:=if b then Ņ else Ĵ
def F0 (h:iP B V W s){n m:Nat}(u:xb n m V)(D:m<63)(x:Mo)(o:(De.vI x).nm):∃e,Cl (s++e)/\(vF V x=""/\mF x.1 (mA B x) s=.ok .Ğ ((s++e).set (B+6) (.lst (V.mn.map mE++[mE x])))∨∃c,Rc c (vF V x)/\mF x.1 (mA B x) s=.ex ⟨c,[]⟩ (s++e)):=by
 have E:=u.lk;have d:∀q,ļ 9 "need_work" 1 ī (mv 0) (Ã (mv 2) Ø) (À (.ref B)::À (.int x.2.1)::À (.str x.2.2.1)::q) s=ī [.ref B,.str x.2.2.1] s:=λq=>jG h.at_ (by decide+kernel) mX rfl;have i:∀q,ļ 9 "worth_of" 2 ģ (mv 0) (Ã (mv 5) (Ã (mv 1) Ø)) (À (.ref B)::À (.int x.2.1)::À (.str x.2.2.1)::À (.int x.2.2.2.1)::À (.int x.2.2.2.2.1)::À (.str x.2.2.2.2.2)::q) s=ģ [.ref B,.str x.2.2.2.2.2,.int x.2.1] s:=λq=>Uy (eR h.at_) (A1 B V.h (by decide+kernel)) mX rfl xl;by_cases a:x.2.2.1∈V.ws
 ·obtain⟨e,r,hw⟩:=GC h u D x.2.1 o.2.1;have k:=h.app r;refine⟨e,r,?_⟩;rcases hw with⟨hr,f⟩|⟨hr,v,f⟩
  ·refine .inr ⟨5,.inr (.inr (.inl ⟨rfl,by unfold vF;rw[Ñ (λz=>z a),Ë hr]⟩)),?_⟩;cases g:x.1 with
   |true=>
    show Ņ _ s=_;unfold Ņ cU;exact nu (env:=(mV B x [])) ((Ć (a5 ((d _).trans (bW h.at_ a)))).trans (nS (lX ((i _).trans f))))
   |false=>
    show Ĵ _ s=_;unfold Ĵ bE;exact nu (env:=(mV B x [none])) ((Ć (a5 ((d _).trans (bW h.at_ a)))).trans (nS (lX ((i _).trans f))))
  ·have b:=vC k.at_;cases g:x.1 with
   |true=>
    refine .inl ⟨by unfold vF;rw[Ñ (λz=>z a),Ñ hr,Ñ (by rw[g];exact λz=>nomatch z.1)],?_⟩;have p:Ŝ (jT "list" Ŏ (az (ş 9 "money") (mv 0)) (Ã (cA (Ã (mc (.str "sold")) (Ã (mv 1) (Ã (mv 2) (Ã (mv 3) (Ã (mv 4) (Ã (mv 5) Ø))))))) Ø)) (mV B x []) (s++e)=.nx (mV B x []) ((s++e).set (B+6) (.lst (V.mn.map mE++[mE x]))):=by
     have A:cA (Ã (mc (.str "sold")) (Ã (mv 1) (Ã (mv 2) (Ã (mv 3) (Ã (mv 4) (Ã (mv 5) Ø)))))) (mV B x []) (s++e)=.ok (mE x) (s++e):=by
      apply R.wp.eq;unfold mE;rw[g];walk_at"w";rfl
     refine a5 (v:=.Ğ) (R.wp.eq ?_);simp?[↓ğ (fo (eR k.at_) (qs B V.h)),iK b,↓ğ A,↓ğ (Mm.append_at (v:=mE x) b (by rw[Ê];lia))]
    show Ņ _ s=_;unfold Ņ cU;exact my (env:=(mV B x [])) ((Ć (a5 ((d _).trans (bW h.at_ a)))).trans ((Ć (a5 ((i _).trans f))).trans p))
   |false=>
    have t:Ů 6 (cA (Ã (mc (.str "back")) (Ã (mv 1) (Ã (mv 2) (Ã (mv 3) (Ã (mv 4) (Ã (mv 5) Ø))))))) (mV B x [none]) (s++e)=.nx (mV B x [À (mE x)]) (s++e):=by
     refine zG (l:=(mV B x [none])) (R.wp.eq ?_);unfold mE;rw[g];walk_at"w";rfl
    have j:=Ip (w:=x.2.2.1) (env:=(mV B x [À (mE x)])) k (by lia) x rfl rfl rfl;have C:mF false=Ĵ:=rfl;rw[C];cases hl:eS x.2.2.1 (f_ (V.mn++[x])) 0 with
    |true=>
     rw[hl]at j;have y:BG 6 (Ã (g9 (aP (mc (.str "more of ")) (aP (az iV (mv 2)) (aP (mc (.str " would be brought back than were left")) nE)))) Ø) (mV B x [À (mE x)]) (s++e)=.ex ⟨6,[]⟩ (s++e):=RM (by decide+kernel) (by decide+kernel) o.1 mv2;refine .inr ⟨6,.inr (.inr (.inr ⟨rfl,by unfold vF;rw[Ñ (λz=>z a),Ñ hr,Ë ⟨g,hl⟩]⟩)),?_⟩;unfold Ĵ bE;exact nu (env:=(mV B x [none])) ((Ć (a5 ((d _).trans (bW h.at_ a)))).trans ((Ć (a5 ((i _).trans f))).trans ((Ć t).trans (nS ((jF j).trans y)))))
    |false=>
     rw[hl]at j;refine .inl ⟨by unfold vF;rw[Ñ (λz=>z a),Ñ hr,Ñ (by rw[hl];exact λz=>nomatch z.2)],?_⟩;have p:Ŝ (jT "list" Ŏ (az (ş 9 "money") (mv 0)) (Ã (mv 6) Ø)) (mV B x [À (mE x)]) (s++e)=.nx (mV B x [À (mE x)]) ((s++e).set (B+6) (.lst (V.mn.map mE++[mE x]))):=by
      refine a5 (v:=.Ğ) (R.wp.eq ?_);simp?[↓ğ (fo (eR k.at_) (qs B V.h)),iK b,↓ğ (Mm.append_at (v:=mE x) b (by rw[Ê];lia))]
     unfold Ĵ bE;exact my (env:=(mV B x [none])) ((Ć (a5 ((d _).trans (bW h.at_ a)))).trans ((Ć (a5 ((i _).trans f))).trans ((Ć t).trans ((Ć (A6 j)).trans p))))
 ·refine⟨[],by rw[a8];exact h.cl,.inr ⟨3,.inr (.inl ⟨rfl,by unfold vF;rw[Ë a]⟩),?_⟩⟩;rw[a8];cases g:x.1 with
  |true=>
   show Ņ _ s=_;unfold Ņ cU;exact nu (env:=(mV B x [])) (nS (lX ((d _).trans (qF h.at_ o.1 a))))
  |false=>
   show Ĵ _ s=_;unfold Ĵ bE;exact nu (env:=(mV B x [none])) (nS (lX ((d _).trans (qF h.at_ o.1 a))))
def Qf (h:At B (mid B V W) s) (l:((["keeps","rows","hands","makers","rates","half","money","debts"]:Á Str).any λf=>m == f)=false):ļ 9 m 3 F (mv 0) (Ã (Õ ĝ (mv 3) (mc (.int 0))) (Ã (Õ ĝ (mv 3) (mc (.int 1))) (Ã (Õ ĝ (mv 3) (mc (.int 2))) Ø))) [À (.ref B),v,w,À (.tup [a,b,c])] s=F [.ref B,a,b,c] s:=by
 unfold ļ;rw[mX,ñ,j9 (eR h)];dsimp only[need];rw[Ë (A1 B V.h l),show Ã (Õ ĝ (mv 3) (mc (.int 0))) (Ã (Õ ĝ (mv 3) (mc (.int 1))) (Ã (Õ ĝ (mv 3) (mc (.int 2))) Ø)) [À (.ref B),v,w,À (.tup [a,b,c])] s=.ok [a,b,c] s from rfl];rfl
def II (h:At B (mid B V W) s) (l:((["keeps","rows","hands","makers","rates","half","money","debts"]:Á Str).any λf=>m == f)=false):ļ 9 m 5 F (mv 0) (Ã (Õ ĝ (mv 3) (mc (.int 0))) (Ã (Õ ĝ (mv 3) (mc (.int 1))) (Ã (Õ ĝ (mv 3) (mc (.int 2))) (Ã (Õ ĝ (mv 3) (mc (.int 3))) (Ã (Õ ĝ (mv 3) (mc (.int 4))) Ø))))) [À (.ref B),v,w,À (.tup [a,b,c,d,f])] s=F [.ref B,a,b,c,d,f] s:=by
 unfold ļ;rw[mX,ñ,j9 (eR h)];dsimp only[need];rw[Ë (A1 B V.h l),show Ã (Õ ĝ (mv 3) (mc (.int 0))) (Ã (Õ ĝ (mv 3) (mc (.int 1))) (Ã (Õ ĝ (mv 3) (mc (.int 2))) (Ã (Õ ĝ (mv 3) (mc (.int 3))) (Ã (Õ ĝ (mv 3) (mc (.int 4))) Ø)))) [À (.ref B),v,w,À (.tup [a,b,c,d,f])] s=.ok [a,b,c,d,f] s from rfl];rfl
abbrev dQ (B:Nat)(v:AV)(w:Str)(l:Á AV):En:=[À (.ref B),À v,À (.str w),À (.tup l)]
def sZ (z:Str)(b:Bool)(h:decide (w=z)=b):cB (Õ ag (mv 2) (mc (.str z))) (dQ B v w l) s=.ok b s:=by subst h;rfl
def Px (a:ĝ v (.int 0) s=.ok (.str w) s) (b:sD v (À 1) none s=.ok (.tup l) s):mr 2 3 (Ã (Õ ĝ (mv 1) (mc (.int 0))) (Ã (vG (mv 1) (oS (mc (.int 1))) oN) Ø)) [À (.ref B),À v,none,none] s=.nx (dQ B v w l) s:=by
 apply vZ;simp?[↓ğ a,↓ğ b]
abbrev mT (B:Nat)(y:Mo):En:=[À (.ref B),À (mE y),À (.str (mW y.1)),À (.tup [.int y.2.1,.str y.2.2.1,.int y.2.2.2.1,.int y.2.2.2.2.1,.str y.2.2.2.2.2])]
def HD (h:At B (mid B V W) s) (y:Mo){r:RS}{q:R AV}(k:∀{m:Ev},m (mT B y) s=mF y.1 (mA B y) s->Ŝ m (mT B y) s=r)
  (f:∀{b:Ms},b [À (.ref B),À (mE y),none,none] s=r->dq 4 b [.ref B,mE y] s=q):aa [.ref B,mE y] s=q:=by
 have g:mr 2 3 (Ã (Õ ĝ (mv 1) (mc (.int 0))) (Ã (vG (mv 1) (oS (mc (.int 1))) oN) Ø)) [À (.ref B),À (mE y),none,none] s=.nx (mT B y) s:=rfl;have c:∀w b,decide (mW y.1=w)=b->cB (Õ ag (mv 2) (mc (.str w))) (mT B y) s=.ok b s:=λw b e=>by subst e;rfl
 have i:mW y.1="sold"/\mF y.1=Ņ∨mW y.1="back"/\mF y.1=Ĵ:=by
  cases y.1
  ·exact .inr ⟨rfl,rfl⟩
  ·exact .inl ⟨rfl,rfl⟩
 unfold aa fx;rcases i with⟨a,d⟩|⟨a,d⟩
 ·exact f ((Ć g).trans ((dj (c "person" false (by rw[a];decide+kernel))).trans ((dj (c "work" false (by rw[a];decide+kernel))).trans ((dj (c "rate" false (by rw[a];decide+kernel))).trans ((jF (c "sold" true (by rw[a];decide+kernel))).trans (k (by rw[d];exact II (m:="put_sold") h (by decide+kernel))))))))
 ·exact f ((Ć g).trans ((dj (c "person" false (by rw[a];decide+kernel))).trans ((dj (c "work" false (by rw[a];decide+kernel))).trans ((dj (c "rate" false (by rw[a];decide+kernel))).trans ((dj (c "sold" false (by rw[a];decide+kernel))).trans ((jF (c "back" true (by rw[a];decide+kernel))).trans (k (by rw[d];exact II (m:="put_back") h (by decide+kernel)))))))))
def AR (h:iP B V W s)(q:xb n m V)(E:n<63)(C:m<63)(d:De)(hd:d.nm)(u:d.ok V):(nj V d=""/\∃s',aa [.ref B,dv d] s=.ok .Ğ s'/\iP B (gm V d) W s'/\lO B s s')∨(∃c s',Rc c (nj V d)/\gm V d=V/\aa [.ref B,dv d] s=.ex ⟨c,[]⟩ s'/\iP B V W s'/\lO B s s'):=by
 have D:B+17<=s.length:=h.at_.len (by show 0<17;lia);have I:=q.lp;have J:=q.lw;have G:=q.lh;have H:=q.lk;cases d with
 |half d=>
  left;refine⟨rfl,s.set B (.ins 9 (u7 B d)),?_,?_⟩
  ·have l:sD (dv (.half d)) (À 1) none s=.ok (.tup [.int d]) s:=rfl;have g:ļ 9 "put_half" 1 aV (mv 0) (Ã (Õ ĝ (mv 3) (mc (.int 0))) Ø) [À (.ref B),À (dv (.half d)),À (.str "half"),À (.tup [.int d])] s=_:=(jG h.at_ (by decide+kernel) mX rfl).trans (Bz h.at_ d);unfold aa fx;exact my (env:=[À (.ref B),À (dv (.half d)),none,none]) ((Ć (Px Ox l)).trans ((dj (sZ "person" false (by decide+kernel))).trans ((dj (sZ "work" false (by decide+kernel))).trans ((dj (sZ "rate" false (by decide+kernel))).trans ((dj (sZ "sold" false (by decide+kernel))).trans ((dj (sZ "back" false (by decide+kernel))).trans (a5 g)))))))
  ·have lo:(AO.ins 9 (u7 B d)).low s.length=true:=by
    simp[AO.low,u7,ĭ,AV.low];lia
   have c:=gW h (i:=0) (o':=.ins 9 (u7 B d)) (by lia) rfl (λ_ _=>rfl) lo;exact⟨⟨h.at_.set 0 _,c.cl,c.tab⟩,c.a⟩
 |person x=>
  left;refine⟨rfl,s.set (B+1) (.dK (kT id (λp=>jc (V.kf p)) (V.ps++[x]))),?_,?_⟩
  ·have l:sD (dv (.person x)) (À 1) none s=.ok (.tup [.str x]) s:=rfl;have g:ļ 9 "add_person" 1 Ź (mv 0) (Ã (Õ ĝ (mv 3) (mc (.int 0))) Ø) [À (.ref B),À (dv (.person x)),À (.str "person"),À (.tup [.str x])] s=_:=(jG h.at_ (by decide+kernel) mX rfl).trans (u5 h.at_ u (by lia) rfl);unfold aa fx;exact my (env:=[À (.ref B),À (dv (.person x)),none,none]) ((Ć (Px Ox l)).trans ((jF (sZ "person" true (by decide+kernel))).trans (a5 g)))
  ·have lo:(AO.dK (kT id (λp=>jc (V.kf p)) (V.ps++[x]))).low s.length=true:=pG (λ_=>El _ _) _;have c:=gW h (i:=1) (o':=.dK (kT id (λp=>jc (V.kf p)) (V.ps++[x]))) (by lia) rfl (λ_ _=>rfl) lo;exact⟨⟨h.at_.set 1 _,c.cl,c.tab⟩,c.a⟩
 |work x=>
  left;refine⟨rfl,s.set (B+2) (.dK (kT id (λ_=>.tup []) (V.ws++[x]))),?_,?_⟩
  ·have l:sD (dv (.work x)) (À 1) none s=.ok (.tup [.str x]) s:=rfl;have g:ļ 9 "add_work" 1 aU (mv 0) (Ã (Õ ĝ (mv 3) (mc (.int 0))) Ø) [À (.ref B),À (dv (.work x)),À (.str "work"),À (.tup [.str x])] s=_:=(jG h.at_ (by decide+kernel) mX rfl).trans (yP h.at_ u (by lia));unfold aa fx;exact my (env:=[À (.ref B),À (dv (.work x)),none,none]) ((Ć (Px Ox l)).trans ((dj (sZ "person" false (by decide+kernel))).trans ((jF (sZ "work" true (by decide+kernel))).trans (a5 g))))
  ·have lo:(AO.dK (kT id (λ_=>.tup []) (V.ws++[x]))).low s.length=true:=pG (λ_=>by simp[AV.low,ĭ]) _;have c:=gW h (i:=2) (o':=.dK (kT id (λ_=>.tup []) (V.ws++[x]))) (by lia) rfl (λ_ _=>rfl) lo;exact⟨⟨h.at_.set 2 _,c.cl,c.tab⟩,c.a⟩
 |vI y=>
  obtain⟨e,A,f⟩:=F0 h q C y hd;have r:=h.app A;rcases f with⟨hr,f⟩|⟨c,hr,f⟩
  ·left;refine⟨hr,_,HD h.at_ y (λe=>a5 (e.trans f)) my,?_⟩;have lo:(AO.lst (V.mn.map mE++[mE y])).low (s++e).length=true:=by
    have:=kM (s++e).length (V.mn++[y]);rw[Ĕ]at this;exact this
   have c:=gW r (i:=6) (o':=.lst (V.mn.map mE++[mE y])) (by lia) rfl (λ_ _=>rfl) lo;rw[show gm V (.vI y)={V with mn:=V.mn++[y]}from Ë hr];refine⟨⟨?_,c.cl,c.tab⟩,((lO.refl B s).app e).trans c.a⟩;have:=r.at_.set 6 (.lst (V.mn.map mE++[mE y]));rw[show(mid B V W).set 6 (.lst (V.mn.map mE++[mE y]))=mid B {V with mn:=V.mn++[y]} W by unfold mid;simp;rfl]at this;exact this
  ·right;refine⟨c,_,hr,Ñ λz=>?_,HD h.at_ y (λe=>lX (e.trans f)) nu,r,(lO.refl B s).app e⟩;rw[z]at hr;rcases hr with⟨_,z⟩|⟨_,z⟩|⟨_,z⟩|⟨_,z⟩<;>exact absurd z (by decide)
 |gn y=>
  have f:=Dh h.at_ y hd (by lia);have t:mr 2 3 (Ã (Õ ĝ (mv 1) (mc (.int 0))) (Ã (vG (mv 1) (oS (mc (.int 1))) oN) Ø)) [À (.ref B),À (dv (.gn y)),none,none] s=.nx [À (.ref B),À (dv (.gn y)),À (.str "rate"),À (.tup [.str y.1,.int y.2.1,jc y.2.2])] s:=rfl;have g:=Qf (F:=aW) (m:="put_rate") (v:=À (dv (.gn y))) (w:=À (.str "rate")) (a:=.str y.1) (b:=.int y.2.1) (c:=jc y.2.2) h.at_ (by decide+kernel);have j:∀w b,decide (æ "rate"=w)=b->cB (Õ ag (mv 2) (mc (.str w))) [À (.ref B),À (dv (.gn y)),À (.str "rate"),À (.tup [.str y.1,.int y.2.1,jc y.2.2])] s=.ok b s:=λw b e=>by subst e;rfl
  have o:(nj V (.gn y)=if Lk V y then ("taken":Str)else ("":Str)):=rfl;by_cases k:Lk V y
  ·right;rw[Ë k]at f;refine⟨2,s,.inl ⟨rfl,by rw[o,Ë k]⟩,Ë k,?_,h,lO.refl B s⟩;unfold aa fx;exact nu (env:=[À (.ref B),À (dv (.gn y)),none,none]) ((Ć t).trans ((dj (j "person" false (by decide+kernel))).trans ((dj (j "work" false (by decide+kernel))).trans ((jF (j "rate" true (by decide+kernel))).trans (lX (g.trans f))))))
  ·left;rw[Ñ k]at f;refine⟨by rw[o,Ñ k],s.set (B+5) (.dT ((V.rs++[y]).map rK)),?_,?_⟩
   ·unfold aa fx;exact my (env:=[À (.ref B),À (dv (.gn y)),none,none]) ((Ć t).trans ((dj (j "person" false (by decide+kernel))).trans ((dj (j "work" false (by decide+kernel))).trans ((jF (j "rate" true (by decide+kernel))).trans (a5 (g.trans f))))))
   ·have c:=gW h (i:=5) (o':=.dT ((V.rs++[y]).map rK)) (by lia) rfl (λ_ _=>rfl) (Iy _ _);rw[show gm V (.gn y)={V with rs:=V.rs++[y]}from Ñ k];exact⟨⟨h.at_.set 5 _,c.cl,c.tab⟩,c.a⟩
end
def Kt:Á AV:=[.str "taken",.str "name",.str "much",.str "rate",.str "left"]
abbrev YA:Ev:=ze (Õ ĝ (Ĝ (ŷ (Ã (mc (.str "taken")) (Ã (mc (.str "name")) (Ã (mc (.str "much")) (Ã (mc (.str "rate")) (Ã (mc (.str "left")) Ø))))))) (mv 0))
def sz5:([a,b,c,d,e].length<=sizeLine)=True:=i6 (ur (by show 5<=1000;lia))
section
variable {B:Nat}{V W:Wl}{s:S}
def EW {k:Nat}{x:Str}{env:En}(e:Kt[k]?=À (.str x)):YA (À (.int k)::env) s=.ok (.str x) s:=by
 apply R.wp.eq;have b:k<5:=(Ç.mp e).1;have a:ku Kt (k:Int)=À (.str x):=j3 e;simp?[sz5];show(need (ë (s++[.lst Kt]) s.length) λxs=>need (ku xs k) λv=>R.ok v (s++[.lst Kt])).wp _;rw[Ď,å,a,å,nW];exact⟨⟨ţ,by simp[AV.low]⟩,rfl⟩
def aS {j k:Nat}{b:Bool}{xs:Á AV}{env:En}(h:ë s j=À xs)(e:xs[k]?=À (.bl b)):cT (Õ ĝ (mv 1) (mv 0)) (À (.int k)::À (.ref j)::env) s=.ok b s:=by
 apply R.wp.eq;have a:ku xs (k:Int)=À (.bl b):=j3 e;walk_at"w";rw[h,å,a,å,nW];exact⟨rfl,rfl⟩
def Ku {j:Nat}{c:Nat}{x:Str}(a:Rc c x)(h:ë s j=À [.bl (ö 2 c),.bl (ö 3 c),.bl (ö 4 c),.bl (ö 5 c),.bl (ö 6 c)]) :
  au (gN 0) (cT (Õ ĝ (mv 1) (mv 0))) YA [] (pP 0 5) [none,À (.ref j)] s []=.ok [.str x] s:=by
 have b:pP 0 5=[.int (0:Nat),.int (1:Nat),.int (2:Nat),.int (3:Nat),.int (4:Nat)]:=rfl;rw[b];rcases a with⟨rfl,rfl⟩|⟨rfl,rfl⟩|⟨rfl,rfl⟩|⟨rfl,rfl⟩
 ·rw[lV rfl (aS (k:=0) h rfl) (EW (k:=0) rfl),da rfl (aS (k:=1) h rfl),da rfl (aS (k:=2) h rfl),da rfl (aS (k:=3) h rfl),da rfl (aS (k:=4) h rfl),jt];rfl
 ·rw[da rfl (aS (k:=0) h rfl),lV rfl (aS (k:=1) h rfl) (EW (k:=1) rfl),da rfl (aS (k:=2) h rfl),da rfl (aS (k:=3) h rfl),da rfl (aS (k:=4) h rfl),jt];rfl
 ·rw[da rfl (aS (k:=0) h rfl),da rfl (aS (k:=1) h rfl),da rfl (aS (k:=2) h rfl),lV rfl (aS (k:=3) h rfl) (EW (k:=3) rfl),da rfl (aS (k:=4) h rfl),jt];rfl
 ·rw[da rfl (aS (k:=0) h rfl),da rfl (aS (k:=1) h rfl),da rfl (aS (k:=2) h rfl),da rfl (aS (k:=3) h rfl),lV rfl (aS (k:=4) h rfl) (EW (k:=4) rfl),jt];rfl
def He (c:Cl s){bs:Á Bool}:Cl (s++[.lst (bs.map AV.bl)]):=c.add (by
 simp only[ľ,bu,AO.low,ů];exact fV λv a=>by obtain⟨b,_,rfl⟩:=Ļ.mp a;simp[AV.low])
def NY {c:Nat}{x:Str}(f:Rc c x){i:Nat}(h:s[i]?=À (.exc c)) (cl:Cl s) :
    ((ā (fD (cB (Õ o7 (mv 2) (mc .Ğ))) (Ķ (mc (.str ""))) ı)
 (ā (Ů 3 (Ĝ (ŷ (Ã (az (bA (pq 2)) (mv 2)) (Ã (az (bA (pq 3)) (mv 2)) (Ã (az (bA (pq 4)) (mv 2)) Ø))))))
 (ā (Ů 3 (Õ Ł (mv 3) (Ĝ (ŷ (Ã (az (bA (pq 5)) (mv 2)) (Ã (az (bA (pq 6)) (mv 2)) Ø))))))
 (ā (Ů 4 (Ĝ (ak [("_law_k",none),("_law_told",À 3)] (zL (Ã (mc (.int 5)) Ø)) (gN 0) (cT (Õ ĝ (mv 1) (mv 0))) YA)))
 (ā (fD (Hf (cB (Õ uo (zr jH (Ã (mv 4) Ø)) (mc (.int 1)))) (Hf (cT (az (bA (Fi [1,8,7])) (mv 2))) (rm (cT (az (bA Fj) (mv 2)))))) (Ķ (mc (.str "many"))) ı)
 (Ķ (Õ ĝ (mv 4) (mc (.int 0))))))))) [none,none,À (.ref i),none,none,none] s).wp (λ_ _=>False) λv s'=>v=.str x/\∃e,s'=s++e/\Cl s':=by
  have g:i<s.length:=(Ç.mp h).1;have a:c<9:=by rcases f with⟨rfl,_⟩|⟨rfl,_⟩|⟨rfl,_⟩|⟨rfl,_⟩<;>lia
  have q:∀j e,bA (pq j) (.ref i) (s++e)=.ok (.bl (ö j c)) (s++e):=λj e=>zj (by rw[Ý g];exact h) (Ë a);have r:∀j,bA (pq j) (.ref i) s=.ok (.bl (ö j c)) s:=λj=>zj h (Ë a);have t:∀e,bA (Fi [1,8,7]) (.ref i) (s++e)=.ok (.bl false) (s++e):=λe=>zj (by rw[Ý g];exact h) (by rcases f with⟨rfl,_⟩|⟨rfl,_⟩|⟨rfl,_⟩|⟨rfl,_⟩<;>rfl);have u:∀e,bA Fj (.ref i) (s++e)=.ok (.bl true) (s++e):=λe=>zj (by rw[Ý g];exact h) (Ë a);simp?[ll,↓ğ (r _),↓ğ (q _ _),↓uO];have m:Cl (s++[.lst [.bl (ö 2 c),.bl (ö 3 c),.bl (ö 4 c)]]):=He (bs:=[ö 2 c,ö 3 c,ö 4 c]) cl;have n:Cl (s++[.lst [.bl (ö 2 c),.bl (ö 3 c),.bl (ö 4 c)]]++[.lst [.bl (ö 5 c),.bl (ö 6 c)]]):=He (bs:=[ö 5 c,ö 6 c]) m;have o:=Hn (st:=s++[.lst [.bl (ö 2 c),.bl (ö 3 c),.bl (ö 4 c)]]++[.lst [.bl (ö 5 c),.bl (ö 6 c)]]) (ć (Ď s [.bl (ö 2 c),.bl (ö 3 c),.bl (ö 4 c)])) (Ď _ [.bl (ö 5 c),.bl (ö 6 c)]) (ur (by show 3+2<=1000;lia));rw[ğ o];have k:Cl (s++[.lst [.bl (ö 2 c),.bl (ö 3 c),.bl (ö 4 c)]]++[.lst [.bl (ö 5 c),.bl (ö 6 c)]]++[.lst ([.bl (ö 2 c),.bl (ö 3 c),.bl (ö 4 c)]++[.bl (ö 5 c),.bl (ö 6 c)])]):=He (bs:=[ö 2 c,ö 3 c,ö 4 c,ö 5 c,ö 6 c]) n;have hl:=Ď (s++[.lst [.bl (ö 2 c),.bl (ö 3 c),.bl (ö 4 c)]]++[.lst [.bl (ö 5 c),.bl (ö 6 c)]]) ([.bl (ö 2 c),.bl (ö 3 c),.bl (ö 4 c)]++[.bl (ö 5 c),.bl (ö 6 c)]);simp only[È]at k hl⊢;generalize ([AO.lst [.bl (ö 2 c),.bl (ö 3 c),.bl (ö 4 c)]]++([AO.lst [.bl (ö 5 c),.bl (ö 6 c)]]++[AO.lst ([.bl (ö 2 c),.bl (ö 3 c),.bl (ö 4 c)]++[.bl (ö 5 c),.bl (ö 6 c)])]))=d at *
  generalize (s++([AO.lst [.bl (ö 2 c),.bl (ö 3 c),.bl (ö 4 c)]]++[AO.lst [.bl (ö 5 c),.bl (ö 6 c)]])).length=w at *
  refine⟨⟨by decide,by decide⟩,ur (by simp[pP]),?_⟩;rw[show(5:Int).toNat=5 from rfl,ğ (Ku f hl)];have l:=Ď (s++d) [.str x];simp?[↓ğ (pF l),È,↓ğ (t _),↓ğ (u _),jJ,iX];have p:ë (s++(d++[.lst [.str x]])) (s++d).length=À [.str x]:=by rw[<-È];exact l
  simp only[ē,bZ,uU,Int.natCast_one];rw[Ñ (by simp),Ñ (by decide),p,å,show ku [AV.str x] 0=À (.str x)from Lq.2.2.2.2.1 _ _,å,nW];refine⟨rfl,_,rfl,?_⟩;rw[<-È];exact cM (b:=0) k (.one (sG _ _))
def Di (h:iP B V W s){n m:Nat}(y:xb n m V)(w:n<63)(u:m<63)(d:De)(hd:d.nm)(t:d.ok V):(cx [.ref B,dv d] s).wp λv s'=>v=.str (nj V d)/\iP B (gm V d) W s'/\lO B s s':=by
 unfold cx jr;rcases AR h y w u d hd t with⟨r,s',b,a,k⟩|⟨c,s',j,hw,b,a,k⟩
 ·have g:Ŝ (ó 2 aa (Ã (mv 0) (Ã (mv 1) Ø))) [À (.ref B),À (dv d),À .Ğ,none,none,none] s=.nx [À (.ref B),À (dv d),À .Ğ,none,none,none] s':=a5 ((IH mX xl).trans b);refine PK (wb rfl (R' g ?_));simp?[ll];exact⟨by rw[r],a,k⟩
 ·have g:Ŝ (ó 2 aa (Ã (mv 0) (Ã (mv 1) Ø))) [À (.ref B),À (dv d),À .Ğ,none,none,none] s=.ex ⟨c,[]⟩ s':=lX ((IH mX xl).trans b);have q:(λc=>decide (c<9)&&ö 0 c) (⟨c,[]⟩:AX).cls=true:=by rcases j with⟨rfl,_⟩|⟨rfl,_⟩|⟨rfl,_⟩|⟨rfl,_⟩<;>rfl
  obtain⟨x,o⟩:∃x,x=nj V d:=⟨_,rfl⟩
  rw[<-o]at j;rw[<-o,hw];have p:Cl (s'++[.exc c]):=a.cl.add (by simp[AO.low]);have hw:=NY (x:=x) j (s:=s'++[.exc c]) (i:=s'.length) (by rw[á (Î _)];simp) p;refine PK (wb rfl (R_ g q rfl ?_));refine RS.wp.mono hw (λ_ _ f=>f.elim) ?_;rintro v z ⟨rfl,e,rfl,l⟩;refine⟨rfl,?_,?_⟩
  ·rw[È]at l⊢;exact a.app l
  ·exact k.trans (((lO.refl B s').app _).app _)
end
end Ro
namespace Mm
open PySem L2
mutual
theorem Rp.zero:∀{d:Dt}{v:AV},Rp b s d v->Rp 0 s d v
 |.Ğ,_,h=>by unfold Rp at h⊢;exact h
 |.bl _,_,h=>by unfold Rp at h;exact h.elim
 |.int _,_,h=>by unfold Rp at h⊢;exact h
 |.str _,_,h=>by unfold Rp at h⊢;exact h
 |.tup l,_,h=>by
  unfold Rp at h⊢;obtain⟨xs,e,hl,h⟩:=h;exact⟨xs,e,hl,bT.zero h⟩
 |.lst l,_,h=>by
  unfold Rp at h⊢;obtain⟨i,xs,e,_,a,hl,h⟩:=h;exact⟨i,xs,e,ÿ _,a,hl,bT.zero h⟩
theorem bT.zero:∀{l:Á Dt}{xs:Á AV},bT b s l xs->bT 0 s l xs
 |[],_,h=>by unfold bT at h⊢;exact h
 |_::_,_,h=>by
  unfold bT at h⊢;obtain⟨x,r,e,a,c⟩:=h;exact⟨x,r,e,Rp.zero a,bT.zero c⟩
end
theorem qB:∀{l:Á AV}{v:AV},ĭ b l=true->v∈l->v.low b=true
 |[],_,_,h=>nomatch h
 |x::r,v,h,hv=>by
  simp only[ĭ,ċ]at h;rcases ß.mp hv with rfl|hv
  ·exact h.1
  ·exact qB h.2 hv
end Mm
namespace Ro
open PySem L2 Mm
section
variable {B:Nat}{V W:Wl}{s:S}
structure Sp (b f:Nat)(s:S)(items:Á AV)(k:Nat)(st:S):Prop where
 pre:st.take b=s
 hf:ë st f=À items
 nl:∀i,b<=i->i<f->∃xs,ë st i=À xs/\xs.length<=1000+k/\(∀v∈xs,nice b v=true)/\ĭ i xs=true
theorem Sp.set {b f i k:Nat}{s st:S}{items xs:Á AV}(h:Sp b f s items k st)(c:b<=i)(m:i<f)(l:xs.length<=1000+(k+1)) (o:∀v∈xs,nice b v=true)(hl:ĭ i xs=true):Sp b f s items (k+1) (st.set i (.lst xs)):=by
 obtain⟨u,d,_⟩:=h.nl i c m;refine⟨by rw[List.take_set_of_le c];exact h.pre,vD (by lia) h.hf _,λj n a=>?_⟩;by_cases e:j=i
 ·subst e;exact⟨xs,qC d,l,o,hl⟩
 ·obtain⟨r,g,t,p,q⟩:=h.nl j n a;exact⟨r,vD e g _,by lia,p,q⟩
def zl (h:ë st i=À xs):eh "list" (.ref i) st=.ok (.bl true) st:=by rw[zk h];rfl
def Ep:∀{l:Á AV},ĭ b l=true->ĭ b l.reverse=true:=λ{l} h=>fV λv a=>qB h (wM.mp a)
def Bi (h:ĭ b l=true)(k:v.low b=true):ĭ b (l++[v])=true:=fV λw hw=>by
 rcases Ŕ.mp hw with hw|hw
 ·exact qB h hw
 ·rw[ð.mp hw];exact k
def RK (h:ë st i=À xs):lB (.ref i) [] st=.ok .Ğ (st.set i (.lst xs.reverse)):=by
 show(need (ë st i) λxs=>R.ok AV.Ğ (st.set i (.lst xs.reverse)))=_;rw[h];rfl
def G9 (h:ë st i=À xs)(l:xs.length<=9000):Ŏ (.ref i) [v] st=.ok .Ğ (st.set i (.lst (xs++[v]))):=by
 unfold Ŏ;simp only[h,å];rw[Ë (by rw[ĉ];lia)]
def isRef:AV->Bool
 |.ref _=>true
 |_=>false
def Ik (n:nice b v=true)(h:isRef v=false):eh "list" v st=.ok (.bl false) st:=by
 cases v<;>first|rfl|(cases h;done)|(cases n;done)
def QO {v:AV}{b f k:Nat}{s st:S}{items:Á AV}(h:Sp b f s items k st)(n:nice b v=true)(l:v.low f=true):∃t,yi v (.str "more") st=.ok (.bl t) st:=by
 cases v with
 |ref i=>
  have c:b<=i:=č n;have a:i<f:=by simpa[AV.low]using l
  obtain⟨xs,e,_⟩:=h.nl i c a;refine⟨true,?_⟩;show(need (ë st i) λ_=>R.ok (AV.bl true) st)=_;rw[e];rfl
 |sq xs=>cases n
 |tup xs=>exact⟨true,rfl⟩
 |Ğ=>exact⟨true,rfl⟩
 |bl x=>exact⟨true,rfl⟩
 |int x=>exact⟨true,rfl⟩
 |str x=>exact⟨!decide (x="more"),rfl⟩
def Gv {b f:Nat}{st:S}{items:Á AV}(h:Sp b f s items 0 st)(hn:∀v∈items,nice b v=true)(hl:ĭ f items=true)(hz:items.length<=1000):(aF [.ref f] st).wp λv s'=>v=.Ğ/\s'.take b=s:=by
 unfold aF kz;simp?[↓ğ (kg h.hf)];refine nv (λxs d st=>∃x1 k,d=[À (.ref f),x1]/\(∀v∈xs,v∈items)/\k+3*xs.length<=3000/\Sp b f s items k st) ?_ ?_ ?_ _ _ _ ⟨none,0,rfl,λ_ h=>h,by lia,h⟩
 ·rintro _ _ st ⟨_,_,_,_,_,h⟩ p hp;rw[ð.mp hp];exact h.hf
 ·rintro d st ⟨_,_,_,_,_,h⟩;exact h.pre
 ·rintro v r d st ⟨x1,k,rfl,hr,Y,h⟩;have I:=hr v (.head _);have L:=hn v I;have lv:=qB hl I;have Z:k+3*(r.length+1)<=3000:=Y;have c:∀{q:Nat}{g:S},q<=k+3->Sp b f s items q g->∃x1 k,[À (AV.ref f),À v]=[À (.ref f),x1]/\(∀v∈r,v∈items)/\k+3*r.length<=3000/\Sp b f s items k g:=λ{q g} TN Q=>⟨À v,q,rfl,λw hw=>hr w (.tail _ hw),by lia,Q⟩
  cases o:isRef v with
  |false=>
   simp?[↓ğ (Ik L o),jJ];exact c (by lia) h
  |true=>
   cases v with
   |ref i=>
    have C:b<=i:=č L;have A:i<f:=by simpa[AV.low]using lv
    obtain⟨xs,e,lx,M,N⟩:=h.nl i C A;have T:Sp b f s items (k+1) (st.set i (.lst xs.reverse)):=h.set C A (by rw[qU];lia) (λw hw=>M w (wM.mp hw)) (Ep N);have u:ë (st.set i (.lst xs.reverse)) i=À xs.reverse:=qC e;have D:∀w∈xs.reverse++[AV.str "more"],nice b w=true:=λw hw=>by
     rcases Ŕ.mp hw with hw|hw
     ·exact M w (wM.mp hw)
     ·rw[ð.mp hw];rfl
    have E:ĭ i (xs.reverse++[AV.str "more"])=true:=Bi (Ep N) (by simp[AV.low]);have n:Sp b f s items (k+2) ((st.set i (.lst xs.reverse)).set i (.lst (xs.reverse++[.str "more"]))):=T.set C A (by simp;lia) D E;have m:ë ((st.set i (.lst xs.reverse)).set i (.lst (xs.reverse++[.str "more"]))) i=À (xs.reverse++[.str "more"]):=qC u;have x:=G9 (v:=.str "more") u (by rw[qU];lia);simp?[↓ğ (zl e),jJ,iK e,↓ğ (RK e),iK u,↓ğ x,↓ğ (zl m)];generalize (st.set i (.lst xs.reverse)).set i (.lst (xs.reverse++[AV.str "more"]))=F at *
    obtain⟨a,l,x⟩:∃a l,xs.reverse++[AV.str "more"]=a::l:=by
     cases e:xs.reverse++[AV.str "more"]with
     |nil=>simp at e
     |cons a l=>exact⟨a,l,rfl⟩
    rw[x]at m D E;have na:=D a (.head _);have J:a.low i=true:=qB E (.head _);obtain⟨t,P⟩:=QO n na (AV.low.mono (by lia) J);have y:ku (a::l) 0=À a:=Lq.2.2.2.2.1 a l;rw[m,å,y,å,nW,ğ P];cases t with
    |false=>walk_at"w";exact c (by lia) n
    |true=>
     simp?[m,y];cases G:isRef a with
     |false=>
      simp?[↓ğ (Ik na G),jJ];exact c (by lia) n
     |true=>
      cases a with
      |ref j=>
       have H:b<=j:=č na;have X:j<i:=by simpa[AV.low]using J
       obtain⟨ys,z,ly,ny,qy⟩:=n.nl j H (by lia);have U:Sp b f s items (k+3) (F.set j (.lst (ys++[.str "more"]))):=n.set H (by lia) (by simp;lia) (λw hw=>by
        rcases Ŕ.mp hw with hw|hw
        ·exact ny w hw
        ·rw[ð.mp hw];rfl) (Bi qy (by simp[AV.low]))
       have O:=G9 (v:=.str "more") z (by lia);simp?[↓ğ (zl z),jJ,m,y,iK z,↓ğ O];exact c (by lia) U
      |_=>cases G
   |_=>cases o
end
def Gq (b:Ct s.length (s++e)) (d:Rp s.length (s++e) (.lst L) v):(aF [v] (s++e)).wp λx q=>q.take s.length=s/\x.low s.length=true:=by
 unfold Rp at d;obtain⟨f,items,rfl,j,a,hl,r⟩:=d;obtain⟨xs,g,l,m,o⟩:=b.nl f _ j (ü a);cases g;have t:Sp s.length f s items 0 (s++e):=⟨ţ,a,λi k _=>by
  have c:i<(s++e).length:=by have:=(Ç.mp (ü a)).1;lia
  obtain⟨u,h,w,n,p⟩:=b.nl i _ k (Å c);exact⟨u,aQ (by rw[Å c,h]),by lia,n,p⟩⟩
 refine(Gv t m o l).mono ?_;rintro _ s' ⟨rfl,e⟩;exact⟨e,by simp[AV.low]⟩
def Ha (ns:Á Int)(q:Cl a):(dX [.sq (ns.map AV.int)] a).wp λv s'=>∃c d e,v=.ref d/\s'=a++e/\Dr c d 0 s'/\a.length<=c/\a.length<=d:=by
 obtain⟨b,A⟩:∃b:Á Int,iv (ns.map AV.int) none (À 63)=b.map AV.int:=by
  refine⟨iv ns none (À 63),?_⟩;unfold iv;rw[Ê,<-SI,<-BX]
 have w:sD (.sq (ns.map AV.int)) none (À 63) a=.ok (.ref a.length) (a++[.lst (b.map AV.int)]):=by
  show R.ok _ (a++[AO.lst (iv (ns.map AV.int) none (À 63))])=_;rw[A]
 have y:items (.ref a.length) (a++[.lst (b.map AV.int)])=À (b.map AV.int):=Ď _ _;have t:Cl (a++[.lst (b.map AV.int)]):=q.add (by simp[AO.low,low_ints]);have i:Cl (a++[.lst (b.map AV.int)]++[.lst (b.map AV.int)]):=t.add (by simp[AO.low,low_ints]);have n:ë (a++[.lst (b.map AV.int)]++[.lst (b.map AV.int)]) (a++[AO.lst (b.map AV.int)]).length=À (b.map AV.int):=Ď _ _;have p:a.length<=(a++[AO.lst (b.map AV.int)]).length:=by simp
 unfold dX lP;simp?[↓ğ w,y,vW];rw[È]at *
 have B:a.length<=(a++([AO.lst (b.map AV.int)]++[AO.lst (b.map AV.int)])).length:=by simp
 generalize ([AO.lst (b.map AV.int)]++[AO.lst (b.map AV.int)])=g at *
 generalize (a++[AO.lst (b.map AV.int)]).length=E at *
 have z:ag (.ref E) (.ref (a++g).length) (a++g++[.lst []])=.ok (.bl (b.map AV.int).isEmpty) (a++g++[.lst []]):=by
  unfold ag;rw[HN (xs:=b.map AV.int) (ć n) (Ď _ _) (xR b)];rfl
 have l:∀s k x,gv [((mc (.str "cells")),(mv 1)),((mc (.str "turn")),(mc (.int 0)))] [x,À (.ref k)] s=.ok (.ref s.length) (s++[.dK (xP k 0)]):=by
  intro s k x;unfold gv EF EF EF;simp only[mc,mv,ñ,Lq,qz,fT,cC,dc,å];rw[Ë (by show(2:Nat)<=15;lia)];congr 1
 simp?[↓ğ z,ţ];have h:∀k e f,ë (a++e) k=À (f.map AV.int)->f≠[]->Cl (a++e)->a.length<=k->∃c d u,AV.ref (a++e).length=.ref d/\a++e++[.dK (xP k 0)]=a++u/\Dr c d 0 (a++e++[.dK (xP k 0)])/\a.length<=c/\a.length<=d:=λk e f hl C cl D=>by
  have F:=(Ç.mp (ü hl)).1;refine⟨k,_,_,rfl,by rw[È],⟨⟨0,f,by rw[á (Î _)];simp,ü (ć hl),C,by lia,by lia⟩,cl.add ?_⟩,D,by simp⟩;simp only[ľ,bu,AO.low,xP,Ô,Ų,ĭ,AV.low,ů,Ń];simp;simp at F;lia
 cases b with
 |nil=>
  simp only[Ų,List.isEmpty_nil,fI,↓ğ (l _ _ _)];have o:=Ď (a++g) [.int 7];have j:Cl (a++g++[.lst [.int 7]]):=i.add (by simp[AO.low,ĭ,AV.low]);rw[È]at o j⊢;exact h _ _ [7] o (by simp) j B
 |cons m r=>
  simp only[Ô,List.isEmpty_cons,Ŵ,fz,↓ğ (l _ _ _)];exact h _ _ (m::r) n (by simp) i p
theorem D8:∀(l:Á α)(m:Nat)(h:m<l.length),(l[m]::l.eraseIdx m).Perm l
 |[],_,h=>absurd h (by simp)
 |_::_,0,_=>List.Perm.refl _
 |a::r,m+1,h=>((List.Perm.swap ..).trans (List.Perm.cons a (D8 r m (by simpa using h))):(r[m]'(by simpa using h)::a::r.eraseIdx m).Perm (a::r))
def MU:([]++zw).Nodup:=by decide+kernel
def Je (D:Dr c d n s)(G:n<=900000000)(k0:0<=k)(k1:k<=20):(dY [.ref d,.int k] s).wp λv s'=>∃(j:Nat) (a:Á Str),v=.ref j/\s.length<=j/\ë s' j=À (a.map AV.str)/\(a.length:Int)=k/\(∀z∈a,z∈zw)/\a.Nodup/\Dr c d (n+20) s'/\Gk c d s s':=by
 have J:=D.Mq;have ld:=D.Mr;unfold dY lR;simp?[↓uO,↓ğ (NO _),show ∀s:S,(lu "str" (.str "b aa zebra c quartzes ab m knows d mm likes z ba abcdefgh y zz e x f g hh jj kk pave") s).isSome=true from λ_=>rfl];refine⟨⟨by lia,by lia⟩,ur (by simp[pP];lia),?_⟩;refine n7 (λxs e f st=>∃(b a:Á Str) (x:Ð AV),e=a.map AV.str/\ë st s.length=À (b.map AV.str)/\(xs.length:Int)+a.length=k/\b.length+a.length=24/\(∀z∈b,z∈zw)/\(∀z∈a,z∈zw)/\(a++b).Nodup/\f=[x,À (.ref s.length),À (.ref d)]/\Dr c d (n+a.length) st/\Gk c d s st) ?_ ?_ ?_ _ _ _ _ ⟨zw,[],none,rfl,Ď _ _,by simp[pP];lia,by rw[Jn];rfl,λ_ h=>h,(λ_ h=>nomatch h),MU,rfl,D.app (D.cl.add (by simp[AO.low,bP])),Gk.app c d s _⟩
 ·rintro _ _ _ st _ p E;cases E
 ·rintro e f st ⟨b,a,x,rfl,o,g,F,q,t,nd,rfl,A,B⟩;refine⟨st.length,a,rfl,B.len,Ď _ _,by simpa using g,t,(gU.mp nd).1,?_,B.trans (Gk.app c d st _)⟩;have g:((0:Nat):Int)+a.length=k:=g;exact(A.app (A.cl.add (by simp[AO.low,bP]))).mono (by lia)
 ·rintro v r e f st ⟨b,a,x,rfl,o,g,F,q,t,nd,rfl,A,B⟩;have g:((r.length+1:Nat):Int)+a.length=k:=g;simp?[iK o,↓ğ (pF o),Ê];refine(take1 A).mono ?_;rintro _ i ⟨j,rfl,H,I,D2,C⟩;have u:=C.gk.lst (n:=0) (by lia) (by lia) o;obtain⟨m,rfl⟩:∃m:Nat,j=m:=⟨j.toNat,by lia⟩
  have l:m<b.length:=by lia
  have w:yj (.ref s.length) [.int m] i=.ok (.str b[m]) (i.set s.length (.lst ((b.eraseIdx m).map AV.str))):=by
   show(need (ë i s.length) λxs=>if 0<=(m:Int)/\(m:Int)<xs.length then need xs[(m:Int).toNat]? λy=>R.ok y (i.set s.length (.lst (xs.eraseIdx (m:Int).toNat)))else .bad)=_;rw[u,å,Ë ⟨by lia,by rw[Ê];lia⟩];show(need (b.map AV.str)[m]? λy=>R.ok y (i.set s.length (.lst ((b.map AV.str).eraseIdx m))))=_;rw[é,Å l];show R.ok (AV.str b[m]) _=_;rw[HQ]
  rw[ğ w];refine⟨b.eraseIdx m,a++[b[m]],_,by simp,qC u,by simp;lia,?_,λz hz=>q z (List.mem_of_mem_eraseIdx hz),λz hz=>?_,?_,rfl,?_,(B.trans C.gk).set (Î _)⟩
  ·rw[List.length_eraseIdx_of_lt l];simp;lia
  ·rcases Ŕ.mp hz with hz|hz
   ·exact t z hz
   ·rw[ð.mp hz];exact q _ (e8 l)
  ·rw[È];refine(List.Perm.append_left a ?_).nodup nd;exact(D8 b m l).symm
  ·exact(D2.mono (by simp;lia)).set (by lia) (by lia) (bP _ _)
def Jo:∀z∈zw,z.length<=1000:=by
 have:(zw.all λz=>decide (z.length<=1000))=true:=by decide+kernel
 exact λz a=>č (ú.mp this z a)
def yk {c d n:Nat}{s:S}(D:Dr c d n s)(t:n<=900001000){xs:Á AV}{m:Int}(r:m=xs.length)(l:0<m)(o:m<=10){P:AV->Prop}(g:∀v∈xs,P v/\∀b,v.low b=true) :
  (í [.ref d,.int m] (s++[.lst xs])).wp λv a=>∃b,ĝ (.ref s.length) v a=.ok b a/\P b/\b.low s.length=true/\(a.take s.length).all (AO.low s.length)=true/\Dr c d (n+1) (a.take s.length)/\Kp c d s (a.take s.length):=by
 have q:∀b,ĭ b xs=true:=λb=>fV λv f=>(g v f).2 b;have A:=D.app (e:=[.lst xs]) (D.cl.add (by simp[AO.low,q]));refine(take1 A).mono ?_;rintro _ a ⟨j,rfl,p,u,D2,B⟩;obtain⟨v,f,k⟩:=Il (s:=a) (i:=s.length) (j:=j) (B.gk.lst (n:=0) (by have:=D.Mq;lia) (by have:=D.Mr;lia) (Ď s _)) p (by lia);obtain⟨C,E,h⟩:=((Gk.app c d s _).trans B.gk).cut D D2;exact⟨v,k,(g v f).1,(g v f).2 _,h,C,E⟩
def OG {c d n i:Nat}{s:S}(D:Dr c d n s)(q:n<=900000000){l:Á Str}(hl:ë s i=À (l.map AV.str)) (h0:0<l.length)(p:l.length<=1000)(k:i≠c)(e:i≠d):(bh [.ref d,.ref i] s).wp λv s'=>∃x,v=.str x/\x∈l/\Dr c d (n+1) s'/\Kp c d s s':=by
 unfold bh rj;simp?[↓ğ (pF hl),Ê];refine(take1 D).mono ?_;rintro _ a ⟨j,rfl,m,o,B,A⟩;obtain⟨v,g,f⟩:=Il (s:=a) (i:=i) (j:=j) (A.gk.lst (n:=0) k e hl) m (by rw[Ê];exact o);obtain⟨x,h,rfl⟩:=Ļ.mp g;have b:(need (ë a i) λxs=>need (ku xs j) λv=>R.ok v a)=.ok (.str x) a:=f;simp?[↓ğ b];exact⟨x,rfl,h,B,A⟩
def N1 (i j k:Nat)(a b c:Ev)(env:En)(s:S)(N:En->S->Prop)(T:AV->S->Prop):(yn i j k (Ã a (Ã b (Ã c Ø))) env s).wp N T=(a env s).wp λv s1=>(b env s1).wp λw d=>(c env d).wp λz e=>N (((env.set i (À v)).set j (À w)).set k (À z)) e:=by
 unfold yn Ã Ø;cases a env s with
 |ok v s1=>
  simp only[ñ,nW];cases b env s1 with
  |ok w d=>
   simp only[ñ,nW];cases c env d<;>rfl
  |ex c s1=>rfl
  |bad=>rfl
 |ex c s1=>rfl
 |bad=>rfl
def Pr {c d n:Nat}{s:S}(D:Dr c d n s)(i:n<=800000000):(ź [.ref d] s).wp λv s'=>∃k:Int,v=.int k/\Dr c d (n+4) s'/\Kp c d s s':=by
 unfold ź jo;walk_at"w";refine(take1 D).mono ?_;rintro _ j ⟨a,rfl,_,_,E,A⟩;refine(take1 E).mono ?_;rintro _ l ⟨b,rfl,_,_,D2,B⟩;refine(take1 D2).mono ?_;rintro _ m ⟨e,rfl,_,_,F,C⟩;rw[<-A.len,<-B.len,<-C.len];refine(yk F (by lia) (P:=λv=>∃b,v=.int b) rfl (by simp) (by simp) ?_).mono ?_
 ·intro v f;simp only[ß,Ā,ao]at f;rcases f with rfl|rfl|rfl<;>exact⟨⟨_,rfl⟩,λb=>by simp[AV.low]⟩
 rintro _ o ⟨v,h,⟨k,rfl⟩,lo,g,G,H⟩;simp?[↓ğ h,g,lo];exact⟨k,rfl,G.mono (by lia),((A.trans B).trans C).trans H⟩
def Kx {c d n:Nat}{s:S}(D:Dr c d n s)(r:n<=800000000):(ay [.ref d] s).wp λv s'=>∃q:Int×Int,v=jc q/\Dr c d (n+4) s'/\Kp c d s s':=by
 unfold ay gH;walk_at"w";refine(take1 D).mono ?_;rintro _ t ⟨a,rfl,j,k,A,C⟩;walk_at"w";refine(yk A (by lia) (P:=λv=>∃b:Int,v=.int b/\3<=b/\b<=1000) rfl (by simp) (by simp) ?_).mono ?_
 ·intro v f;simp only[ß,Ā,ao]at f;rcases f with rfl|rfl<;>exact⟨⟨_,rfl,by lia,by lia⟩,λb=>by simp[AV.low]⟩
 rintro _ u ⟨v,h,⟨b,rfl,l,m⟩,lo,g,D2,E⟩;simp?[↓ğ h,g,lo];refine(take1 D2 (by lia) (OS (by lia) (by lia))).mono ?_;rintro _ i ⟨e,rfl,o,p,B,F⟩;simp?[↓ğ (Iz i (a:=1+a) (b:=1+e) (by lia) (by lia) (by lia) (by lia))];exact⟨((eQ (1+a) (1+e)).num,(eQ (1+a) (1+e)).den),rfl,B.mono (by lia),(C.trans E).trans F⟩
def Fx {x:Str}(h:x="coin"∨x="eur"∨x="usd"):x.length<=1000:=by
 rcases h with rfl|rfl|rfl<;>decide+kernel
def Tr {m:Int}(h:0<m)(k:m<=1000000000):gi 9000 m:=(vm (n:=30) (by lia) (by lia)).mono (by decide)
def Ou (h:c env s=.ok true s)(k:(m env s).wp T):(ā (fD c (Ķ m) ı) b env s).wp N T:=by
 obtain⟨v,a,e,q⟩:=k.get;unfold ā;rw[jF h];unfold Ķ;rw[e];exact q
def Ie (h:c env s=.ok false s)(k:(b env s).wp N T):(ā (fD c a ı) b env s).wp N T:=by
 unfold ā;rw[A6 h];exact k
def ON (h:(m env s).wp λv s1=>(b (env.set i (À v)) s1).wp N T):(ā (Ů i m) b env s).wp N T:=by
 obtain⟨v,s1,e,k⟩:=h.get;unfold ā Ů;rw[e];exact k
def Vb (h:(m env s).wp T):(Ķ m env s).wp N T:=by
 obtain⟨v,a,e,k⟩:=h.get;unfold Ķ;rw[e];exact k
def V' (l:gh):Ev:=B_ (Õ ĝ (Ĝ (ŷ l)) (ó 2 í (Ã (mv 0) (Ã (mc (.int 5)) Ø))))
def Pl:Ev:=B_ (Õ ĝ (Ĝ (ŷ (Ã (mc (.int 1)) (Ã (mc (.int 400)) (Ã (mc (.int 182)) (Ã (Õ Ł (mc (.int 1)) (ó 2 í (Ã (mv 0) (Ã (mc (.int 400)) Ø)))) Ø)))))) (ó 2 í (Ã (mv 0) (Ã (mc (.int 4)) Ø))))
def LP (l:gh)(m:Int):Ev:=Õ Ł (mc (.int 1)) (ó 2 í (Ã (mv 0) (Ã (B_ (Õ ĝ (Ĝ (ŷ l)) (ó 2 í (Ã (mv 0) (Ã (mc (.int m)) Ø))))) Ø)))
section
variable {c d n:Nat}{s:S}{r:En}
def IC {l:gh}{xs:Á AV}{env:En}(hl:l env s=.ok xs s)(a:xs.length<=1000):Ĝ (ŷ l) env s=.ok (.ref s.length) (s++[.lst xs]):=Jh (by
 unfold ŷ;rw[hl,ñ,Ë (ur a)])
def Ht {l:gh}{xs:Á AV}(D:Dr c d n s)(j:n<=800000000)(hl:l (À (.ref d)::r) s=.ok xs s) (i:xs.length=5)(e:∀v∈xs,∃b:Str,v=.str b/\(b="coin"∨b="eur"∨b="usd")):(V' l (À (.ref d)::r) s).wp λv s'=>∃b:Str,v=.str b/\b.length<=1000/\Dr c d (n+1) s'/\Kp c d s s':=by
 unfold V';simp?[↓ğ (IC hl (by lia))];refine(yk D (by lia) (by rw[i];rfl) (by decide) (by decide) λv a=>⟨e v a,by
  obtain⟨b,rfl,_⟩:=e v a;intro b;simp[AV.low]⟩).mono ?_
 rintro _ k ⟨v,g,⟨b,rfl,h⟩,lo,f,A,B⟩;rw[ğ g];exact⟨⟨f,lo⟩,b,rfl,Fx h,A,B⟩
def LO (D:Dr c d n s)(g:n<=800000000):(Pl (À (.ref d)::r) s).wp λv s'=>∃b:Int,v=.int b/\Dr c d (n+2) s'/\Kp c d s s':=by
 unfold Pl;walk_at"w";refine(take1 D).mono ?_;rintro _ i ⟨q,rfl,r0,h,B,A⟩;walk_at"w";refine⟨ur (by simp),?_⟩;rw[<-A.len];refine(yk B (by lia) (P:=λv=>∃b,v=.int b) rfl (by simp) (by simp) ?_).mono ?_
 ·intro v a;simp only[ß,Ā,ao]at a;rcases a with rfl|rfl|rfl|rfl<;>exact⟨⟨_,rfl⟩,λb=>by simp[AV.low]⟩
 rintro _ j ⟨v,f,⟨b,rfl⟩,lo,e,C,E⟩;rw[ğ f];exact⟨⟨e,lo⟩,b,rfl,C,A.trans E⟩
def DV {l:gh}{xs:Á AV}{m:Int}(D:Dr c d n s)(p:n<=800000000)(hl:l (À (.ref d)::r) s=.ok xs s) (j:m=xs.length)(a:0<m)(e:m<=10)(k:∀v∈xs,(∃b:Int,v=.int b/\0<b/\b<=1000000000)/\∀b,v.low b=true):(LP l m (À (.ref d)::r) s).wp λv s'=>∃q:Int,v=.int (1+q)/\0<=q/\Dr c d (n+2) s'/\Kp c d s s':=by
 unfold LP;simp?[↓ğ (IC hl (by lia))];refine(yk D (by lia) j a e k).mono ?_;rintro _ u ⟨v,i,⟨b,rfl,f,h⟩,lo,g,D2,B⟩;rw[ğ i];refine⟨⟨g,lo⟩,(ET D2 (by lia) f (Tr f h)).mono ?_⟩;rintro _ w ⟨q,rfl,o,t,A,C⟩;exact⟨q,rfl,o,A,B.trans C⟩
end
def Ew {l:Á AV}(h:∀v∈l,∃b:Int,v=AV.int b/\0<b/\b<=1000000000):∀v∈l,(∃b:Int,v=.int b/\0<b/\b<=1000000000)/\∀b,v.low b=true:=λv a=>⟨h v a,by
 obtain⟨b,rfl,_⟩:=h v a;intro b;simp[AV.low]⟩
def LR {c d n i:Nat}{s:S}(D:Dr c d n s)(X:n<=700000000){l:Á Str}(hl:ë s i=À (l.map AV.str)) (h0:0<l.length)(p:l.length<=1000)(Q:∀x∈l,x.length<=1000)(o:i≠c)(g:i≠d){w:Str}(hw:(∃b,w=mW b)∨w="rate"∨w="half"):(fy [.ref d,.ref i,.str w] s).wp λv s'=>∃m,v=dv m/\m.nm/\(∀W,m.ok W)/\Dr c d (n+15) s'/\Kp c d s s':=by
 unfold fy;refine Tu ?_;show((ā (yn 5 6 7 (Ã (ó 2 bh (Ã (mv 0) (Ã (mv 1) Ø))) (Ã (ó 2 bh (Ã (mv 0) (Ã (mv 1) Ø))) (Ã (ó 1 ź (Ã (mv 0) Ø)) Ø)))) (ā (fD (cB (Õ ag (mv 2) (mc (.str "rate")))) (Ķ (cA (Ã (mv 2) (Ã (V' (Ã (mc (.str "coin")) (Ã (mc (.str "eur")) (Ã (mc (.str "usd")) (Ã (mc (.str "eur")) (Ã (mc (.str "usd")) Ø)))))) (Ã (mv 7) (Ã (ó 1 ay (Ã (mv 0) Ø)) Ø)))))) ı) (ā (fD (cB (Õ ag (mv 2) (mc (.str "half")))) (Ķ (cA (Ã (mv 2) (Ã Pl Ø)))) ı) (ā (Ů 3 (LP (Ã (mc (.int 5)) (Ã (mc (.int 10)) (Ã (Õ tH (mc (.int 10)) (mc (.int 6))) Ø))) 3)) (ā (Ů 4 (LP (Ã (mc (.int 20)) (Ã (Õ tH (mc (.int 10)) (mc (.int 9))) Ø)) 2)) (Ķ (cA (Ã (mv 2) (Ã (mv 7) (Ã (mv 5) (Ã (mv 3) (Ã (mv 4) (Ã (V' (Ã (mc (.str "coin")) (Ã (mc (.str "coin")) (Ã (mc (.str "eur")) (Ã (mc (.str "usd")) (Ã (mc (.str "usd")) Ø)))))) Ø)))))))))))))
  [À (.ref d),À (.ref i),À (.str w),none,none,none,none,none] s).wp _ _
 rw[WS.1,N1];refine((show ó 2 bh (Ã (mv 0) (Ã (mv 1) Ø)) [À (.ref d),À (.ref i),À (.str w),none,none,none,none,none] s=bh [.ref d,.ref i] s from rfl)▸OG D (by lia) hl h0 p o g).mono ?_;rintro _ r ⟨x,rfl,T,J,G⟩;refine((show ó 2 bh (Ã (mv 0) (Ã (mv 1) Ø)) [À (.ref d),À (.ref i),À (.str w),none,none,none,none,none] r=bh [.ref d,.ref i] r from rfl)▸OG J (by lia) (G.gk.lst (n:=0) o g hl) h0 p o g).mono ?_;rintro _ t ⟨y,rfl,Y,D2,M⟩;refine((show ó 1 ź (Ã (mv 0) Ø) [À (.ref d),À (.ref i),À (.str w),none,none,none,none,none] t=ź [.ref d] t from rfl)▸Pr D2 (by lia)).mono ?_;rintro _ H ⟨k,rfl,C,N⟩;have K:=(G.trans M).trans N;have j:∀z b e,decide (w=z)=b->cB (Õ ag (mv 2) (mc (.str z))) (À (.ref d)::À (.ref i)::À (.str w)::e) H=.ok b H:=λz b e h=>by subst h;rfl
 rcases hw with⟨b,rfl⟩|rfl|rfl
 ·refine Ie (j "rate" false _ (â (by simp only[WQ,n5]))) (Ie (j "half" false _ (â (by simp only[WQ,n5]))) (ON ?_));refine(DV (xs:=[.int 5,.int 10,.int 1000000]) C (by lia) rfl rfl (by decide) (by decide) (Ew λv f=>?_)).mono ?_
  ·simp only[ß,Ā,ao]at f;rcases f with rfl|rfl|rfl<;>exact⟨_,rfl,by lia,by lia⟩
  rintro _ s4 ⟨q,rfl,Z,L,O⟩;refine ON ?_;refine(DV (xs:=[.int 20,.int 1000000000]) L (by lia) rfl rfl (by decide) (by decide) (Ew λv f=>?_)).mono ?_
  ·simp only[ß,Ā,ao]at f;rcases f with rfl|rfl<;>exact⟨_,rfl,by lia,by lia⟩
  rintro _ I ⟨a,rfl,_,A,B⟩;refine Vb ?_;walk_at"w";refine(Ht (xs:=[.str "coin",.str "coin",.str "eur",.str "usd",.str "usd"]) A (by lia) rfl rfl (by
   intro v f;simp only[ß,Ā,ao]at f;rcases f with rfl|rfl|rfl|rfl|rfl<;>exact⟨_,rfl,by simp⟩)).mono ?_
  rintro _ U ⟨u,rfl,hu,E,F⟩;exact⟨.vI (b,k,x,1+q,1+a,u),rfl,⟨Q x T,hu,by show(0:Int)<=1+q;lia⟩,λ_=>trivial,E.mono (by lia),((K.trans O).trans B).trans F⟩
 ·refine Ou (j "rate" true _ (by decide+kernel)) ?_;walk_at"w";refine(Ht (xs:=[.str "coin",.str "eur",.str "usd",.str "eur",.str "usd"]) C (by lia) rfl rfl (by
   intro v f;simp only[ß,Ā,ao]at f;rcases f with rfl|rfl|rfl|rfl|rfl<;>exact⟨_,rfl,by simp⟩)).mono ?_
  rintro _ I ⟨b,rfl,P,A,B⟩;refine(Kx A (by lia)).mono ?_;rintro _ U ⟨q,rfl,E,F⟩;exact⟨ur (by simp),.gn (b,k,q),rfl,P,λ_=>trivial,E.mono (by lia),(K.trans B).trans F⟩
 ·refine Ie (j "rate" false _ (by decide+kernel)) (Ou (j "half" true _ (by decide+kernel)) ?_);walk_at"w";refine(LO C (by lia)).mono ?_;rintro _ I ⟨b,rfl,A,B⟩;exact⟨.half b,rfl,trivial,λ_=>trivial,A.mono (by lia),K.trans B⟩
def PZ:rH c (.ref s.length) (s++AO.ins c fs::t)=À (s.length,fs):=j9 (by rw[á (Î _)];simp)
def RT:(s++a::t).set s.length o=s++o::t:=by rw[dC _ _ (Î _)];simp
def j8 (hl:fs.length<1000)(e:m (À (.ref s.length)::env) (s++.ins c fs::t)=.ok v (s++.ins c fs::t')):jI c f (mv 0) m (À (.ref s.length)::env) (s++.ins c fs::t)=.nx (À (.ref s.length)::env) (s++.ins c (ym f v fs)::t'):=by
 unfold jI;simp only[e,fP,mX,PZ];rw[Ë hl,RT]
def Hs:CN env (s++a::t)=.ok (.ref (s.length+(t.length+1))) (s++a::(t++[.dK []])):=by
 unfold CN;rw[Ă,ē,È];rfl
def OP:FY env (s++a::t)=.ok (.ref (s.length+(t.length+1))) (s++a::(t++[.dT []])):=by
 unfold FY;rw[Ă,ē,È];rfl
def OB:Ĝ (ŷ Ø) env (s++a::t)=.ok (.ref (s.length+(t.length+1))) (s++a::(t++[.lst []])):=by
 apply R.wp.eq;simp?[Ă,ē,È,cP]
def Mb (s:S):ah [.ref s.length] (s++[.ins 9 []])=.ok .Ğ (s++[.ins 9 (u7 s.length 182),.dK [],.dK [],.dT [],.dK [],.dT [],.lst [],.lst []]):=by
 unfold ah hX;refine my (env:=[À (.ref s.length)]) (e:=[À (.ref s.length)]) ?_;rw[Ć (j8 (by show 0<1000;lia) Hs),Ć (j8 (by show 1<1000;lia) Hs),Ć (j8 (by show 2<1000;lia) OP),Ć (j8 (by show 3<1000;lia) Hs),Ć (j8 (by show 4<1000;lia) OP),
  Ć (j8 (m:=mc bN) (v:=.int 182) (by show 5<1000;lia) rfl),Ć (j8 (by show 6<1000;lia) OB),j8 (by show 7<1000;lia) OB]
 rfl
def Mv (s:S)(env:En):pH 9 ah env s=.ok (.ref s.length) (s++[.ins 9 (u7 s.length 182),.dK [],.dK [],.dT [],.dK [],.dT [],.lst [],.lst []]):=by
 unfold pH;rw[Mb];rfl
def Kv (s:S)(e:s.length=B+8):cJ [] s=.ok (.ref (B+14)) (s++[.lst [],.dK [],.lst [],.dK [],.lst [],.dK [],.dK (wz B 182),.lst [],.lst []]):=by
 have f:gv [((mc (.str "people")),(Ĝ (ŷ Ø))),((mc (.str "works")),CN),((mc (.str "hands")),(Ĝ (ŷ Ø))),((mc (.str "known")),CN),((mc (.str "rates")),(Ĝ (ŷ Ø))),((mc (.str "keeps")),CN),((mc (.str "half")),(mc (.int 182)))] [none] s=.ok (.ref (B+14)) (s++[.lst [],.dK [],.lst [],.dK [],.lst [],.dK [],.dK [(.inr "people",.ref (B+8)),(.inr "works",.ref (B+9)),(.inr "hands",.ref (B+10)),(.inr "known",.ref (B+11)),(.inr "rates",.ref (B+12)),(.inr "keeps",.ref (B+13)),(.inr "half",.int 182)]]):=by
  have i:∀(t:S) (env:En),Ĝ (ŷ Ø) env t=.ok (.ref t.length) (t++[.lst []]):=λt env=>by
   apply R.wp.eq;walk_at"w"
  have ld:∀(t:S) (env:En),CN env t=.ok (.ref t.length) (t++[.dK []]):=λt env=>rfl;unfold gv;simp only[EF,mc,ñ,i,ld,qz,fT,cC,dc,å,È,cP,av,Ă,ē,bZ,e];rw[Ë (by show(7:Nat)<=15;lia)];rfl
 have g:∀(t:S) (o:AO),(s++(t++[o]))[s.length+t.length]?=À o:=λt o=>by
  rw[á (by lia),á (by lia)];rw[show s.length+t.length-s.length-t.length=0 by lia];rfl
 have rs_eq:∀{r:RS}{a:AV}{t:S},r.wp (λ_ _=>False) (λv s'=>v=a/\s'=t)->r=.rt a t:=λ{r a t} h=>by
  cases r with
  |rt v s'=>obtain⟨rfl,rfl⟩:=h;rfl
  |_=>exact h.elim
 unfold cJ lS;refine jv (env:=[none]) (rs_eq ?_);simp?[↓ğ f];have A:∀(t:S),(s++t).length=s.length+t.length:=λt=>Ă;have d:∀(t:S) (c:Á (Key×AV)),jS (s++[.lst [],.dK [],.lst [],.dK [],.lst [],.dK [],.dK c]++t) (B+14)=À c:=λt c=>iy (by
  rw[È,á (by lia),show B+14-s.length=6 by lia];rfl)
 have st:∀(t:S) (a b:AO),(s++[.lst [],.dK [],.lst [],.dK [],.lst [],.dK [],a]++t).set (B+14) b=s++[.lst [],.dK [],.lst [],.dK [],.lst [],.dK [],b]++t:=λt a b=>by
  rw[È,È,dC _ _ (by lia),show B+14-s.length=6 by lia];rfl
 rw[wA];unfold vp;simp?[bt];rw[È,oQ (pO (d _ _) (by show 7<1000;lia)),st];simp?[↓wA,bt];rw[oQ (pO (d _ _) (by
  refine bJ (By _ _ _) (by show 7+1<1000;lia))),st]
 walk_at"w";simp only[Ă,ē,bZ,e];rw[È];rfl
structure LS (c d n B nl:Nat)(names:Á Str)(V W:Wl)(s:S):Prop where
 dr:Dr c d n s
 at_:At B (mid B V W) s
 t0:s[0]?=À (.tab 20 Bc)/\s[1]?=À (.tab 21 Be)
 c0:1<c/\c<B
 d0:1<d/\d<B
 nm:ë s nl=À (names.map AV.str)
 n0:1<nl/\nl<B/\nl≠c/\nl≠d
structure Wk (c d B:Nat)(s s':S):Prop where
 len:s.length<=s'.length
 get:∀i,i<s.length->i≠c->i≠d->i<B∨B+17<=i->s'[i]?=s[i]?
def Wk.refl (c d B:Nat)(s:S):Wk c d B s s:=⟨Î _,λ_ _ _ _ _=>rfl⟩
theorem Wk.trans (h:Wk c d B s s')(k:Wk c d B s' a):Wk c d B s a:=⟨đ h.len k.len,λi g b e f=>(k.get i (ì g h.len) b e f).trans (h.get i g b e f)⟩
def Kp.wk (h:Kp c d s s')(B:Nat):Wk c d B s s':=⟨by rw[h.len];exact Î _,λi _ a b _=>h.get i a b⟩
def lO.wk (h:lO B s s')(c d:Nat):Wk c d B s s':=⟨h.len,λi a _ _ k=>h.get i a k⟩
section
variable {c d n B nl:Nat}{names:Á Str}{V W:Wl}{s s':S}
def LS.S9 (h:LS c d n B nl names V W s):iP B V W s:=⟨h.at_,h.dr.cl,eY.mpr ⟨_,ý h.t0.1,by simp[tabAt]⟩,eY.mpr ⟨_,ý h.t0.2,by simp[tabAt]⟩⟩
theorem LS.len (h:LS c d n B nl names V W s):B+17<=s.length:=h.at_.len (by show 0<17;lia)
def LS.kp (h:LS c d n B nl names V W s)(k:Kp c d s s')(D:Dr c d m s'):LS c d m B nl names V W s':=by
 have b:=h.c0;have d0:=h.d0;have a:=h.n0;exact⟨D,h.at_.keep λi e _=>k.get i (by lia) (by lia),⟨(k.get 0 (by lia) (by lia)).trans h.t0.1,(k.get 1 (by lia) (by lia)).trans h.t0.2⟩,b,d0,k.gk.lst (n:=0) a.2.2.1 a.2.2.2 h.nm,a⟩
theorem LS.app (h:LS c d n B nl names V W s)(k:Cl (s++e)):LS c d n B nl names V W (s++e):=by
 have:=h.len;exact⟨h.dr.app k,h.at_.app e,⟨by rw[Ý (by lia)];exact h.t0.1,by rw[Ý (by lia)];exact h.t0.2⟩,h.c0,h.d0,ć h.nm,h.n0⟩
def LS.V9 (h:LS c d n B nl names V W s)(k:lO B s s')(b:iP B A C s'):LS c d n B nl names A C s':=by
 have e:=h.c0;have d0:=h.d0;have f:=h.n0;have hl:=h.len;have g:∀i,i<B->s'[i]?=s[i]?:=λi o=>k.get i (by lia) (.inl o);obtain⟨⟨t,a,j,l,m⟩,_⟩:=h.dr;exact⟨⟨⟨t,a,by rw[g d d0.2];exact j,by rw[g c e.2];exact l,m⟩,b.cl⟩,b.at_,⟨by rw[g 0 (by lia)];exact h.t0.1,by rw[g 1 (by lia)];exact h.t0.2⟩,e,d0,aQ (by rw[g nl f.2.1];exact ü h.nm),f⟩
def Em (e:B+17<=b):∀o∈mid B V W,o.low b=true:=by
 intro o a;unfold mid at a;simp only[ß,Ā,ao]at a;rcases a with rfl|rfl|rfl|rfl|rfl|rfl|rfl|rfl|rfl|rfl|rfl|rfl|rfl|rfl|rfl|rfl|rfl
 ·simp[AO.low,u7,ĭ,AV.low];lia
 ·exact pG (λ_=>El _ _) _
 ·exact pG (λ_=>by simp[AV.low,ĭ]) _
 ·simp[AO.low,ĭ]
 ·simp[AO.low,ĭ]
 ·exact Iy _ _
 ·exact kM _ _
 ·simp[AO.low,ĭ]
 ·exact bP _ _
 ·exact pG (λ_=>by simp[AV.low,ĭ]) _
 ·simp[AO.low,ĭ]
 ·simp[AO.low,ĭ]
 ·exact Iw _ _
 ·simp[AO.low,ĭ,Wl.kw]
 ·simp[AO.low,wz,ĭ,AV.low];lia
 ·exact kM _ _
 ·simp[AO.low,ĭ]
def LS.cut (h:LS c d n B nl names V W s)(w:Wk c d B s s')(h':LS c d m B nl names A C s'):LS c d m B nl names A C (s'.take s.length)/\(s'.take s.length).all (AO.low s.length)=true:=by
 have v:=h.c0;have d0:=h.d0;have E:=h.n0;have hl:=h.len;have u:=h.dr.Mq;have ld:=h.dr.Mr;have j:(s'.take s.length).length=s.length:=by rw[Ř];have:=w.len;lia
 have f:∀i,i<s.length->(s'.take s.length)[i]?=s'[i]?:=λi g=>Ű g;obtain⟨⟨t,b,p,r,z⟩,y⟩:=h'.dr;have all:(s'.take s.length).all (AO.low s.length)=true:=by
  rw[ú];intro o D;obtain⟨i,g,e⟩:=p8.mp D;rw[j]at g;have a:(s'.take s.length)[i]?=À o:=by rw[Å (by rw[j];exact g)];rw[e]
  rw[f i g]at a;by_cases k:i=c
  ·subst k;rw[r]at a;cases a;exact low_ints _ _
  by_cases l:i=d
  ·subst l;rw[p]at a;cases a;simp[AO.low,xP,ĭ,AV.low,u]
  by_cases x:i<B∨B+17<=i
  ·rw[w.get i g k l x]at a;exact ú.mp (show s.all (AO.low s.length)=true from h.dr.cl) o (ý a)
  ·have q:=h'.at_.get (i-B) (by show i-B<17;lia);rw[show B+(i-B)=i by lia,a]at q;exact Em hl o (ý q.symm)
 refine⟨⟨⟨⟨t,b,by rw[f d ld];exact p,by rw[f c u];exact r,z⟩,by unfold Cl;rw[j];exact all⟩,h'.at_.keep λi _ g=>f i (by have:(mid B A C).length=17:=rfl;lia),⟨by rw[f 0 (by lia)];exact h'.t0.1,by rw[f 1 (by lia)];exact h'.t0.2⟩,v,d0,aQ (by rw[f nl (by lia)];exact ü h'.nm),E⟩,all⟩
end
structure Hd (r:R AV)(Q:AV->S->Prop):Prop where
 run:r.wp Q
def Hd.to (h:Hd r P)(k:∀v s,P v s->Q v s):r.wp Q:=h.run.mono k
theorem fQ:∀{l:Á α},(∀a∈l,(f a).dep<=k)->aX (l.map f)<=k
 |[],_=>by simp[aX]
 |a::r,h=>by
  rw[Ô];have d:=h a (.head _);have e:=fQ (l:=r) λb c=>h b (.tail _ c);simp only[aX];lia
def Kk (V:Wl):(told V).dep<9:=by
 have a:aX ((ė V.ps).map Dt.str)<=2:=fQ λ_ _=>by simp[Dt.dep]
 have b:aX ((ė V.ws).map Dt.str)<=2:=fQ λ_ _=>by simp[Dt.dep]
 have c:aX ((ė V.ws).map λ_=>Dt.tup [])<=2:=fQ λ_ _=>by simp[Dt.dep,aX]
 have d:aX ((ė V.ps).map λ_=>Dt.lst [])<=2:=fQ λp _=>by simp[Dt.dep,aX]
 have e:aX ((ė V.ws).map λ_=>Dt.Ğ)<=2:=fQ λw _=>by simp[Dt.dep]
 have h:aX ((f_ V.mn).map mD)<=4:=fQ λ_ _=>by simp[mD,Dt.dep,aX]
 have g:aX ((jU V.rs).map rD)<=4:=fQ λ_ _=>by simp[rD,Dt.dep,aX]
 have f:aX ((ė V.ps).map λp=>Dt.tup [.int (V.kf p).1,.int (V.kf p).2])<=2:=fQ λ_ _=>by simp[Dt.dep,aX]
 unfold told wu BN BO;simp only[Dt.dep,cP,av,aX];lia
section
variable {c d n B nl:Nat}{names:Á Str}{V:Wl}{s:S}
def EH (h:iP B V V s){m k:Nat}(a:xb m k V)(t:m<64)(r:k<64){K:AV->Prop}(i:K (.bl true)) :
  (ai [.ref B] s).wp λv s1=>(aK [.ref (B+14)] s1).wp λw b=>(Ę 9 [v,w] b).wp λx o=>(o.take s.length=s/\x.low s.length=true)/\K x:=by
 have z:=a.lp;have A:=a.lw;have u:=a.lh;have y:=a.lk;refine(AA rfl h (by lia) (by lia) (by lia) (by lia) a.nd).mono ?_;rintro v s1 ⟨e,rfl,f,j⟩;refine(Cp (h.app f.cl) (by lia) (by lia) (by lia) (by lia) a.nd λp _=>rfl).mono ?_;rintro w b ⟨g,rfl,q,l⟩;rw[ğ (EI (n:=9) (j.zero.app g) l (Kk V))];refine⟨⟨?_,by simp[AV.low]⟩,i⟩;rw[È];exact ţ
noncomputable def A_:Á (Key×AV):=[(.inr "hand",.str "hands"),(.inr "rate",.str "rates"),(.inr "debt",.str "debts"),(.inr "sold",.str "money"),(.inr "back",.str "money")]
noncomputable def CL:Á (Key×AV):=[(.inr "hand",.int 30),(.inr "rate",.int 20),(.inr "debt",.int 20),(.inr "sold",.int 40),(.inr "back",.int 40)]
def Kw (v:AV):Prop:=∃w:Str,v=.str w/\((∃b,w=mW b)∨w="rate"∨w="half")
def Mi {w:Str}(h:iP B V W s)(hw:(∃b,w=mW b)∨w="rate"):(bq [.ref (B+14),.str w] s).wp λv s'=>Kw v/\s'=s++[.dK A_]++[.dK CL]/\Cl s':=by
 have p:∀st a,gv [((mc (.str "hand")),(mc (.str "hands"))),((mc (.str "rate")),(mc (.str "rates"))),((mc (.str "debt")),(mc (.str "debts"))),((mc (.str "sold")),(mc (.str "money"))),((mc (.str "back")),(mc (.str "money")))] a st=.ok (.ref st.length) (st++[.dK A_]):=λst a=>by
  unfold gv;simp only[EF,mc,ñ,qz,fT,cC,dc,å];rw[Ë (by show(5:Nat)<=15;lia)];rfl
 have r:∀st a,gv [((mc (.str "hand")),(mc (.int 30))),((mc (.str "rate")),(mc (.int 20))),((mc (.str "debt")),(mc (.int 20))),((mc (.str "sold")),(mc (.int 40))),((mc (.str "back")),(mc (.int 40)))] a st=.ok (.ref st.length) (st++[.dK CL]):=λst a=>by
  unfold gv;simp only[EF,mc,ñ,qz,fT,cC,dc,å];rw[Ë (by show(5:Nat)<=15;lia)];rfl
 have k:Cl (s++[.dK A_]):=h.cl.add (by simp[AO.low,A_,ĭ,AV.low]);have f:Cl (s++[.dK A_]++[.dK CL]):=k.add (by simp[AO.low,CL,ĭ,AV.low]);have e:=(h.app k).app f;have m:jS (s++[.dK A_]++[.dK CL]) s.length=À A_:=iy (by rw[È,á (Î _)];simp);have t:jS (s++[.dK A_]++[.dK CL]) (s++[AO.dK A_]).length=À CL:=iy (by rw[á (Î _)];simp);have g:∀{w j:Str}{i:Nat}{q:Int}{l:Á AV},ņ A_ (.inr w)=À (.str j)->ņ CL (.inr w)=À (.int q)->ņ (wz B W.h) (.inr j)=À (.ref i)->ë (s++[.dK A_]++[.dK CL]) i=À l->((∃b,w=mW b)∨w="rate"∨w="half")->(bq [.ref (B+14),.str w] s).wp λv s'=>Kw v/\s'=s++[.dK A_]++[.dK CL]/\Cl s':=by
  intro w j i q l o x y hl hw;have u:mC (.str w) (.ref s.length) (s++[.dK A_]++[.dK CL])=.ok (.bl true) _:=(vf m).trans (by rw[o];rfl);unfold bq jq;simp?[↓ğ (p _ _),↓ğ (r _ _),↓ğ u,↓ğ (ve m o),↓ğ (ve t x),↓ğ (sN e.at_ y),↓ğ (pF hl)];split
  ·exact⟨⟨_,rfl,.inr (.inr rfl)⟩,f⟩
  ·exact⟨⟨_,rfl,hw⟩,f⟩
 rcases hw with⟨b,rfl⟩|rfl
 ·cases b
  ·exact g (w:="back") rfl rfl (nX B W.h) (yb e.at_) (.inl ⟨false,rfl⟩)
  ·exact g (w:="sold") rfl rfl (nX B W.h) (yb e.at_) (.inl ⟨true,rfl⟩)
 ·exact g rfl rfl (nY B W.h) (nJ e.at_) (.inr (.inl rfl))
def Zq (l:Á AV):Prop:=∀v∈l,∃w:Str,v=.str w/\((∃b,w=mW b)∨w="rate")
def yv (h:LS c d n B nl names V V s)(ok:xb m k V)(hm:m+many<63)(hk:k+many<63)(hn:n<=600000000){f:Á Str}{g:Nat}(hf:ë s g=À (f.map AV.str)) (e:(g<B∨B+17<=g)/\g≠c/\g≠d) (hN:0<f.length)(hN2:f.length<=1000)(hs:∀x∈f,x.length<=1000)
  {Kt:Á AV}(hw:ë s o=À Kt) (hwl:B+17<=o) (hW:Zq Kt) (hW0:0<Kt.length) (hW1:Kt.length<=1000) :
  Hd (aG [.ref d,.ref B,.ref (B+14),.ref g,.ref o,.int many] s) λv s'=>v=.bl true/\∃A,xb (m+many) (k+many) A/\LS c d (n+20*many) B nl names A A s'/\Wk c d B s s':=by
 have c0:=h.c0;have d0:=h.d0;have n0:=h.n0;constructor;unfold aG kA;have Z:∀{n:Nat}{b:Ms}{C D E F G H:AV}{s:S}{Q:AV->S->Prop},(b (À C::À D::À E::À F::À G::À H::Ö (n-6) none) s).wp (λ_ a=>Q .Ğ a) Q->(dq n b [C,D,E,F,G,H] s).wp Q:=by
  intro n b C D E F G H s Q hh;show(match b (À C::À D::À E::À F::À G::À H::Ö (n-6) none) s with|.rt v a=>R.ok v a|.nx _ a=>.ok .Ğ a|.ex c a=>.ex c a|_=>.bad).wp Q;revert hh;cases b (À C::À D::À E::À F::À G::À H::Ö (n-6) none) s<;>exact λz=>z
 refine Z ?_;simp?[↓uO];refine⟨⟨by lia,by lia⟩,?_⟩;refine nv (λxs t st=>∃x6 x7 x8 z A,xs.length+z=many/\t=[À (.ref d),À (.ref B),À (.ref (B+14)),À (.ref g),À (.ref o),À (.int many),x6,x7,x8]/\xb (m+z) (k+z) A/\LS c d (n+20*z) B nl names A A st/\Wk c d B s st) ?_ ?_ ?_ _ _ _ ⟨none,none,none,0,V,by simp[pP],rfl,ok,h,Wk.refl c d B s⟩
 ·rintro _ _ st _ p hp;cases hp
 ·rintro t st ⟨x6,x7,x8,z,A,y,rfl,l,X,T⟩;have y:0+z=many:=y;rw[uU]at y;subst y;exact⟨A,l,X,T⟩
 ·rintro v r t st ⟨x6,x7,x8,z,A,y,rfl,l,X,T⟩;have y:r.length+1+z=many:=y;have ltw:o<s.length:=(Ç.mp (ü hw)).1;have ltf:g<s.length:=(Ç.mp (ü hf)).1;have hf':ë st g=À (f.map AV.str):=aQ (by rw[T.get g ltf e.2.1 e.2.2 e.1];exact ü hf);have N:ë st o=À Kt:=aQ (by rw[T.get o ltw (by lia) (by lia) (.inr hwl)];exact ü hw);rw[WS.2.2.2.2.2.2.2.2.2.2.1];refine Ľ λK q=>?_;simp?[↓ğ (pF N)];refine(take1 X.dr).mono ?_;rintro _ a ⟨j,rfl,j0,j1,D1,U⟩;have h1:=X.kp U D1;have O:ë a o=À Kt:=U.gk.lst (n:=0) (by lia) (by lia) N;obtain⟨wv,hwv,ew⟩:=Il (s:=a) (i:=o) (j:=j) O j0 j1;obtain⟨w,rfl,We⟩:=hW wv hwv;have Y:(need (ë a o) λxs=>need (ku xs j) λv=>R.ok v a)=.ok (.str w) a:=ew;simp?[↓ğ Y];refine(Mi h1.S9 We).mono ?_;rintro _ s2 ⟨⟨wq,rfl,hw3⟩,rfl,c2⟩;have h2:LS c d (n+20*z+1) B nl names A A (a++[.dK A_]++[.dK CL]):=by rw[È]at c2⊢;exact h1.app c2
  have g2:Wk c d B a (a++[.dK A_]++[.dK CL]):=((lO.refl B a).app _).app _ |>.wk c d
  have L:ë (a++[.dK A_]++[.dK CL]) g=À (f.map AV.str):=ć (ć (U.gk.lst (n:=0) e.2.1 e.2.2 hf'));generalize a++[AO.dK A_]++[AO.dK CL]=s2 at h2 g2 L⊢;refine(LR h2.dr (by lia) L hN hN2 hs e.2.1 e.2.2 hw3).mono ?_;rintro _ s3 ⟨I,rfl,J,hk',D3,K3⟩;rw[q];clear q K;refine Ľ λK q=>?_;walk_at"w";have M:=hk' A;have h3:=h2.kp K3 D3;refine(HJ h3.S9 l (by lia) (by lia) I M).mono ?_;rintro _ s4 ⟨rfl,b4,g4⟩;rw[q];clear q K;refine Ľ λK q=>?_;walk_at"w";have h4:=h3.V9 g4 b4;refine(Di b4 l (by lia) (by lia) I J M).mono ?_;rintro _ s5 ⟨rfl,b5,g5⟩;have u:=h4.V9 g5 b5;have P:=D7 l I J;rw[ğ (same_str 8 (nj A I) s5)];simp only[jJ,iX,Ŵ,fz];rw[Ñ (by decide),q];clear q K;walk_at"w";refine EH b5 P (by lia) (by lia) ?_;rw[jJ];dsimp only;rw[Ñ (by decide)];exact⟨_,_,_,z+1,gm A I,by lia,rfl,P,⟨u.dr.mono (by lia),u.at_,u.t0,u.c0,u.d0,u.nm,u.n0⟩,((((T.trans (U.wk B)).trans g2).trans (K3.wk B)).trans (g4.wk c d)).trans (g5.wk c d)⟩
end
def DL (a:ë s i=À xs)(b:ë s j=À ys)(k:xs.length+ys.length<=1000):Ł (.ref i) (.ref j) s=.ok (.ref s.length) (s++[AO.lst (xs++ys)]):=by
 show(need (ë s i) λxs=>need (ë s j) λys=>if xs.length+ys.length<=sizeLine then R.ok (AV.ref s.length) (s++[AO.lst (xs++ys)])else .bad)=_;rw[a,b,å,å,Ë (ur k)]
def Bn (D:Dr c d n s)(p:n<=900000000):(bI [.ref d] s).wp λv s'=>∃(j:Nat) (a:Á Str),v=.ref j/\s.length<=j/\ë s' j=À (a.map AV.str)/\a.length=8/\(∀z∈a,z.length<=1000)/\a.Nodup/\Dr c d (n+20) s'/\Gk c d s s':=by
 have w:=D.Mq;have ld:=D.Mr;unfold bI iq;walk_at"w";refine(Je D p (by lia) (by lia)).mono ?_;rintro _ b ⟨j,a,rfl,o,t,u,i,nd,B,C⟩;obtain⟨D2,A,k⟩:=C.cut D B;have f:Cl (b.take s.length++[AO.lst (a.map AV.str)]):=D2.cl.add (by simp[AO.low,bP]);have g:Cl (b.take s.length++[AO.lst (a.map AV.str)]++[AO.lst [.str "never"]]):=f.add (by simp[AO.low,ĭ,AV.low]);have l:(a++[("never":Str)]).map AV.str=a.map AV.str++[.str "never"]:=by simp
 have h:Cl (b.take s.length++[AO.lst (a.map AV.str)]++[AO.lst [.str "never"]]++[AO.lst ((a++[("never":Str)]).map AV.str)]):=g.add (by
  have:=bP;simp only[ľ,bu,AO.low,ů];exact bP _ _)
 have m:Ł (.ref (b.take s.length).length) (.ref (b.take s.length++[AO.lst (a.map AV.str)]).length) (b.take s.length++[AO.lst (a.map AV.str)]++[AO.lst [.str "never"]])=.ok (.ref (b.take s.length++[AO.lst (a.map AV.str)]++[AO.lst [.str "never"]]).length) (b.take s.length++[AO.lst (a.map AV.str)]++[AO.lst [.str "never"]]++[AO.lst ((a++[("never":Str)]).map AV.str)]):=by
  rw[DL (ć (Ď _ _)) (Ď _ _) (by simp;lia),l]
 simp?[t,o,k,bP,↓ğ m];refine⟨_,a++[("never":Str)],rfl,?_,Ď _ _,?_,?_,?_,(((D2.app f).app g).app h),((A.gk.trans (Gk.app ..)).trans (Gk.app ..)).trans (Gk.app ..)⟩
 ·simp[A.len]
 ·simp;lia
 ·intro z hz;rcases Ŕ.mp hz with hz|hz
  ·exact Jo z (i z hz)
  ·rw[ð.mp hz];decide+kernel
 ·refine gU.mpr ⟨nd,by simp,λx q y r e=>?_⟩;rw[ð.mp r]at e;subst e;exact absurd (i _ q) (by decide+kernel)
def Gk.wk (h:Gk c d s s')(B:Nat):Wk c d B s s':=⟨h.len,λi e a b _=>h.get i e a b⟩
def V0:Wl:=⟨[],[],[],[],182⟩
def S7:xb 0 0 V0:=⟨Î _,Î _,Î _,Î _,.nil,(λ_ h=>nomatch h),λw=>by rw[show V0.mn=[]from rfl,yU];rfl⟩
def Jg (s:S)(env:En){Q:AV->AV->S->Prop}(k:Q (.ref s.length) (.ref (s.length+14)) (s++mid s.length V0 V0)):(pH 9 ah env s).wp λv s1=>(cJ [] s1).wp λw a=>Q v w a:=by
 have e:=Kv (s++[.ins 9 (u7 s.length 182),.dK [],.dK [],.dT [],.dK [],.dT [],.lst [],.lst []]) (B:=s.length) (by simp);rw[È]at e;rw[ğ (Mv s env),ğ e];exact k
def Xb (l:Á Str)(lo a:Ð Int):∃b:Á Str,iv (l.map AV.str) lo a=b.map AV.str/\b=iv l lo a:=by
 refine⟨_,?_,rfl⟩;unfold iv;rw[Ê,<-SI,<-BX]
def LM (h:x∈iv l lo a):x∈l:=by
 unfold iv at h;exact List.mem_of_mem_drop (p_ h)
def xb.mono {W:Wl}(h:xb n m W)(a:n<=d)(b:m<=c):xb d c W:=⟨đ h.lp a,đ h.lw a,đ h.lh b,đ h.lk b,h.nd,h.nc,h.mo⟩
def LS.start (D:Dr c d n s)(e:s[0]?=À (.tab 20 Bc)/\s[1]?=À (.tab 21 Be)) (f:1<c)(d0:1<d)(nm:ë s a=À (names.map AV.str)) (g:1<a)(h:a≠c)(nd:a≠d):LS c d n s.length a names V0 V0 (s++mid s.length V0 V0):=by
 have i:=D.Mq;have ld:=D.Mr;have j:=(Ç.mp (ü nm)).1;have b:Cl (s++mid s.length V0 V0):=D.cl.add (by
  rw[ú];exact Em (Î _))
 exact⟨D.app b,At.new _ _,⟨by rw[Ý (by lia)];exact e.1,by rw[Ý (by lia)];exact e.2⟩,⟨f,by lia⟩,⟨d0,by lia⟩,ć nm,⟨g,by lia,h,nd⟩⟩
def AK (xs:Á α)(k:Nat):iv xs none (À (k:Int))=xs.take k:=by
 unfold iv;rw[HT.J4,HT.NH,Sj,WG,<-List.take_eq_take_min]
def Hb {c d n t j:Nat}{names l:Á Str}{s:S}(D:Dr c d n s)(hn:n<=800000000)(t0:s[0]?=À (.tab 20 Bc)/\s[1]?=À (.tab 21 Be)) (c0:1<c)(d0:1<d)(nm:ë s t=À (names.map AV.str)) (n0:1<t)(nc:t≠c)(nd:t≠d)
  (hj:ë s j=À (l.map AV.str)) (h5:l.length<=10) (hs:∀x∈l,x.length<=1000) (XI:l.Nodup) :
  Hd (cI [.ref d,.ref j] s) λv s'=>v=.tup [.ref s.length,.ref (s.length+14)]/\∃V,xb 7 7 V/\LS c d (n+30) s.length t names V V s':=by
 have H:=LS.start D t0 c0 d0 nm n0 nc nd;constructor;unfold cI lQ;refine PK ?_;refine Ľ λK i=>?_;walk_at"w";refine Jg _ _ ?_;rw[i];clear i K;refine Ľ λK i=>?_;generalize hB:s.length=B at H i⊢;obtain⟨f,X,U⟩:=Xb l none (À 7);have u:=ć (e:=mid B V0 V0) hj;generalize s++mid B V0 V0=g at H u⊢;have e2:sD (.ref j) none (À 7) g=.ok (.ref g.length) (g++[AO.lst (f.map AV.str)]):=by
  show(need (ë g j) λxs=>R.ok (AV.ref g.length) (g++[AO.lst (iv xs none (À 7))]))=_;rw[u,å,X]
 have hl:=H.len;have J:=H.app (e:=[AO.lst (f.map AV.str)]) (H.dr.cl.add (by simp only[ľ,bu,AO.low,ů];exact bP _ _));have M:=Ď g (f.map AV.str);have F:f.Nodup:=by
  rw[U];unfold iv;exact(uy ..).nodup ((List.drop_sublist ..).nodup XI)
 have Ui:f.length<=7:=by rw[U,show iv l none (À 7)=l.take 7 from AK l 7,Ř];exact Nat.min_le_left ..
 have q:g.length<(g++[AO.lst (f.map AV.str)]).length:=by simp
 simp?[↓ğ e2,↓ğ (kg M)];generalize g.length=j7 at M hl q⊢;generalize g++[AO.lst (f.map AV.str)]=s2 at J M q⊢;refine nv (λxs m st=>∃r x2 x5 z V,xs=r.map AV.str/\r.length+z=f.length/\r.Nodup/\(∀x∈r,x.length<=1000/\x∉V.ps/\x∉V.ws)/\m=[À (.ref d),À (.ref j),x2,À (.ref B),À (.ref (B+14)),x5]/\xb z z V/\LS c d (n+2*z) B t names V V st/\Wk c d B s2 st) ?_ ?_ ?_ _ _ _ ⟨f,none,none,0,V0,rfl,rfl,F,λx L=>⟨hs x (LM (U▸L)),(nomatch ·),(nomatch ·)⟩,rfl,S7,J,Wk.refl ..⟩
 ·rintro _ _ st ⟨_,_,_,_,_,_,_,_,_,_,_,_,w⟩ p hp;rw[ð.mp hp];have c0:=J.c0;have d0:=J.d0;exact aQ (by rw[w.get j7 q (by lia) (by lia) (.inr hl)];exact ü M)
 ·rintro m st ⟨r,x2,x5,z,V,hr,A,_,_,rfl,G,h,_⟩;cases r with
  |cons _ _=>cases hr
  |nil=>
   have A:0+z=f.length:=A;rw[i];walk_at"w";exact⟨V,G.mono (by lia) (by lia),⟨h.dr.mono (by lia),h.at_,h.t0,h.c0,h.d0,h.nm,h.n0⟩⟩
 ·rintro v r m st ⟨N,x2,x5,z,V,hr,A,C,L,rfl,G,h,w⟩;cases N with
  |nil=>cases hr
  |cons x N=>
   cases hr;have A:N.length+1+z=f.length:=A;obtain⟨x1,xp,xw⟩:=L x (.head _);rw[WS.2.2.2.2.2.2.2.2.2.2.1];refine Ľ λK i=>?_;walk_at"w";refine(yk h.dr (by lia) (P:=λv=>v=.str "person"∨v=.str "work") rfl (by simp) (by simp) ?_).mono ?_
   ·intro v hv;simp only[ß,Ā,ao]at hv;rcases hv with rfl|rfl
    ·exact⟨.inl rfl,λb=>by simp[AV.low]⟩
    ·exact⟨.inr rfl,λb=>by simp[AV.low]⟩
   rintro _ s3 ⟨wv,ev,hw,lo,al,D3,O⟩;rw[ğ ev];refine⟨⟨al,lo⟩,?_⟩;have Y:=h.kp O D3;generalize s3.take st.length=s4 at D3 O Y⊢;obtain⟨a,ed,E,I,Q,T⟩:∃a:De,AV.tup [wv,.str x]=dv a/\a.nm/\a.ok V/\nj V a=""/\(gm V a={V with ps:=V.ps++[x]}∨gm V a={V with ws:=V.ws++[x]}):=by
    rcases hw with rfl|rfl
    ·exact⟨.person x,rfl,x1,λz=>z.elim xp xw,rfl,.inl rfl⟩
    ·exact⟨.work x,rfl,x1,λz=>z.elim xp xw,rfl,.inr rfl⟩
   rw[ed,i];clear i K;walk_at"w";refine(HJ Y.S9 G (by lia) (by lia) a I).mono ?_;rintro _ s5 ⟨_,b5,g5⟩;have Z:=Y.V9 g5 b5;rcases AR b5 G (by lia) (by lia) a E I with⟨_,s6,e6,b6,g6⟩|⟨cc,_,k,_⟩
   ·rw[ğ e6];have o:=Z.V9 g6 b6;have ok6:=D7 G a E;refine⟨N,_,_,z+1,gm V a,rfl,by lia,(a9.mp C).2,λy hy=>?_,rfl,ok6,⟨o.dr.mono (by lia),o.at_,o.t0,o.c0,o.d0,o.nm,o.n0⟩,((w.trans (O.wk B)).trans (g5.wk c d)).trans (g6.wk c d)⟩;obtain⟨y1,y2,y3⟩:=L y (.tail _ hy);have ne:y≠x:=λe=>(a9.mp C).1 (e▸hy);rcases T with e|e
    ·rw[e];exact⟨y1,by simp[y2,ne],y3⟩
    ·rw[e];exact⟨y1,y2,by simp[y3,ne]⟩
   ·rw[Q]at k;rcases k with⟨_,k⟩|⟨_,k⟩|⟨_,k⟩|⟨_,k⟩<;>exact absurd k (by decide)
def PB:Ev:=vG (Õ Ł (Õ sC (vG (mv 3) oN (oS (Õ Ł (mc (.int 1)) (ó 2 í (Ã (mv 1) (Ã (mc (.int 3)) Ø)))))) (mc (.int 3))) (mv 2)) oN (oS (Õ Ł (mc (.int 8)) (ó 2 í (Ã (mv 1) (Ã (mc (.int 9)) Ø)))))
section
variable {c d n B nl:Nat}{names:Á Str}{V:Wl}{s:S}
def LS.strs (h:LS c d n B nl names V V s)(l:Á Str):LS c d n B nl names V V (s++[.lst (l.map AV.str)]):=h.app (h.dr.cl.add (by simp only[ľ,bu,AO.low,ů];exact bP _ _))
def AJ {l:Á Str}{i:Nat}(h:ë s i=À (l.map AV.str)) (k:Nat):sD (.ref i) none (À (k:Int)) s=.ok (.ref s.length) (s++[.lst ((l.take k).map AV.str)]):=by
 show(need (ë s i) λxs=>R.ok (AV.ref s.length) (s++[AO.lst (iv xs none (À (k:Int)))]))=_;rw[h,å,AK,BX]
def PD (h:LS c d n B nl names V V s)(hn:n<=600000000){a:Á Str}{m:Nat}(p:ë s m=À (a.map AV.str)) (sc:m≠c)(sd:m≠d)(t:∀x∈a,x∈names)(ls:a.length<=8)(l8:names.length=8)(x0:Ð AV)(r:En) :
  (PB (x0::À (.ref d)::À (.ref nl)::À (.ref m)::r) s).wp λv s'=>∃(f:Á Str) (o:Nat),v=.ref o/\s.length<=o/\ë s' o=À (f.map AV.str)/\0<f.length/\f.length<=1000/\(∀x∈f,x∈names)/\LS c d (n+2) B nl names V V s'/\Wk c d B s s':=by
 unfold PB;walk_at"w";refine(take1 h.dr).mono ?_;rintro _ e ⟨u,rfl,a0,a1,E,C⟩;have H:=h.kp C E;have i:ë e m=À (a.map AV.str):=C.gk.lst (n:=0) sc sd p;obtain⟨b,z⟩:∃j:Nat,(1+u:Int)=j:=⟨(1+u).toNat,by lia⟩
 have I:=H.strs (a.take b);have F:sC (.ref e.length) (.int 3) (e++[.lst ((a.take b).map AV.str)])=.ok (.ref (e++[AO.lst ((a.take b).map AV.str)]).length) (e++[.lst ((a.take b).map AV.str)]++[.lst (((Ö 3 (a.take b)).flatten).map AV.str)]):=by
  show(need (ë (e++[.lst ((a.take b).map AV.str)]) e.length) λxs=>if (-1000<=(3:Int)/\(3:Int)<=1000)/\xs.length<=1000 then R.ok (AV.ref (e++[AO.lst ((a.take b).map AV.str)]).length) (e++[AO.lst ((a.take b).map AV.str)]++[AO.lst (Ö (3:Int).toNat xs).flatten])else .bad)=_;rw[Ď,å,Ë ⟨by decide,by rw[Ê,Ř];lia⟩,List.map_flatten,K1];rfl
 have g:=I.strs ((Ö 3 (a.take b)).flatten);have l3:((Ö 3 (a.take b)).flatten).length<=100:=by
  rw[List.length_flatten,K1,List.sum_replicate_nat,Ř];lia
 have Z:∀x∈(Ö 3 (a.take b)).flatten,x∈names:=λx hx=>by
  obtain⟨q,U,hx⟩:=List.mem_flatten.mp hx;rw[List.eq_of_mem_replicate U]at hx;exact t x (p_ hx)
 have M:=Ď (e++[.lst ((a.take b).map AV.str)]) (((Ö 3 (a.take b)).flatten).map AV.str);generalize (Ö 3 (a.take b)).flatten=A at *
 have N:Wk c d B s (e++[.lst ((a.take b).map AV.str)]++[.lst (A.map AV.str)]):=((C.wk B).trans ((Gk.app c d e _).wk B)).trans ((Gk.app c d _ _).wk B);rw[show Ł (.int 1) (.int u) e=.ok (.int b) e by rw[<-z];rfl];simp?[↓ğ (AJ i b),↓ğ F];clear F I H i E C z;generalize (e++[AO.lst ((a.take b).map AV.str)]).length=i3 at M⊢;generalize e++[AO.lst ((a.take b).map AV.str)]++[AO.lst (A.map AV.str)]=y at *
 have G:=DL M g.nm (by rw[Ê,Ê];lia);rw[<-Ĕ]at G;have J:=g.strs (A++names);have X:=Ď y ((A++names).map AV.str);have O:=N.trans ((Gk.app c d y [.lst ((A++names).map AV.str)]).wk B);have lt:=N.len;have hL:=g.len;have hc:=g.c0;have hd:=g.d0;rw[ğ G];refine(take1 J.dr).mono ?_;rintro _ l ⟨w,rfl,b0,b1,P,D⟩;have T:=J.kp D P;have Y:ë l y.length=À ((A++names).map AV.str):=D.gk.lst (n:=0) (by lia) (by lia) X;obtain⟨k,Q⟩:∃j:Nat,(8+w:Int)=j:=⟨(8+w).toNat,by lia⟩
 rw[show Ł (.int 8) (.int w) l=.ok (.int k) l by rw[<-Q];rfl];simp?[↓ğ (AJ Y k)];have L:((A++names).take k).length=min k (A.length+names.length):=by rw[Ř,Ă]
 refine⟨(A++names).take k,l.length,rfl,by have:=D.len;have:=O.len;lia,Ď _ _,by rw[L];lia,by rw[L];lia,λx hx=>?_,?_,(O.trans (D.wk B)).trans ((Gk.app c d l _).wk B)⟩
 ·rcases Ŕ.mp (p_ hx)with hx|hx
  ·exact Z x hx
  ·exact hx
 ·exact T.strs _
end
def Ca:Ev:=ze (ó 1 aF (Ã (Ĝ (ŷ (Ã (ļ 9 "money_list" 0 ŕ (mv 6) Ø) (Ã (ļ 9 "work_names" 0 Ŗ (mv 6) Ø) Ø)))) Ø))
section
variable {c d n B nl:Nat}{names:Á Str}{V:Wl}{s:S}
theorem y4 {W:Wl}(h:At B (mid B V W) s) (e:wR gs s):∀(l:Á Str) (a:Ð AV) (b:Á AV),au (gN 0) (cB (Õ mC (mv 0) (Õ ġ (mv 1) (mc (.str "works"))))) (mv 0) gs (l.map AV.str) [a,À (.ref (B+14))] s b=.ok (b++(l.filter λx=>decide (x∈W.ws)).map AV.str) s
 |[],a,b=>by rw[Ų,au,Ë e];simp
 |x::r,a,b=>by
  have f:cB (Õ mC (mv 0) (Õ ġ (mv 1) (mc (.str "works")))) [À (.str x),À (.ref (B+14))] s=.ok (decide (x∈W.ws)) s:=by
   apply R.wp.eq;simp?[↓ğ (sN h (nZ B W.h)),↓ğ (vf (nh h)),l_]
  rw[Ô,wL];by_cases g:x∈W.ws
  ·rw[î g]at f⊢;rw[lV (x:=.str x) (e1:=[À (.str x),À (.ref (B+14))]) rfl f rfl e,y4 h e r,Ë rfl];simp
  ·rw[â g]at f⊢;rw[da (e1:=[À (.str x),À (.ref (B+14))]) rfl f e,y4 h e r];rfl
def Gu (h:iP B V V s){m k:Nat}(l:xb m k V)(w:m<64)(v:k<64)(x0 x1 x2 x3 x4 x5 x7 x8:Ð AV){Q:Prop}(q:Q):(Ca [x0,x1,x2,x3,x4,x5,À (.ref B),x7,x8] s).wp λ_ p=>p=s/\Q:=by
 have b:=l.lw;have a:=l.lk;have b:V.ws.length<64:=by lia
 have a:V.mn.length<64:=by lia
 have f:Ct s.length s:=Ct.start h.cl;have e:Ct s.length (s++[.lst ((f_ V.mn).map mE)]):=f.push (Iv a) (oo _ _);have j:=h.app e.cl;have g:Ct s.length (s++[.lst ((f_ V.mn).map mE)]++[.lst ((ė V.ws).map AV.str)]):=e.push (kL b Dt.str) (eU _ _);have r:bT s.length (s++[.lst ((f_ V.mn).map mE)]++[.lst ((ė V.ws).map AV.str)]) [.lst ((f_ V.mn).map mD),.lst ((ė V.ws).map .str)] [.ref s.length,.ref (s++[AO.lst ((f_ V.mn).map mE)]).length]:=.cons ((a6 f.le (Iv a) (oo _ _)).app _) (.one (a6 e.le (kL b Dt.str) (eU _ _)));have i:=g.push (by simp) r;have o:=a6 g.le (by simp) r;unfold Ca;simp?[↓ğ ((nK (m:="money_list") h.at_ (by decide+kernel) (show mv 6 [x0,x1,x2,x3,x4,x5,À (.ref B),x7,x8] s=.ok (.ref B) s from rfl)).trans (oZ h a)),↓ğ ((nK (m:="work_names") j.at_ (by decide+kernel) (show mv 6 [x0,x1,x2,x3,x4,x5,À (.ref B),x7,x8] (s++[.lst ((f_ V.mn).map mE)])=.ok (.ref B) (s++[.lst ((f_ V.mn).map mE)])from rfl)).trans (o9 j.at_ b))];simp only[È]at i o⊢;refine(Gq i o).mono ?_;rintro x p ⟨t,u⟩;exact⟨⟨t,u⟩,q⟩
end
noncomputable def NX:Á AV:=[.str "sold",.str "sold",.str "back",.str "sold",.str "back",.str "rate",.str "sold",.str "back"]
def Sd:Zq NX:=by
 intro v a;simp only[NX,ß,Ā,ao]at a;rcases a with rfl|rfl|rfl|rfl|rfl|rfl|rfl|rfl;all_goals first|exact⟨_,rfl,.inl ⟨true,rfl⟩⟩|exact⟨_,rfl,.inl ⟨false,rfl⟩⟩|exact⟨_,rfl,.inr rfl⟩
def Kh {s s':S}(w:Wk c d B s s')(b:i≠c)(hd:i≠d)(e:i<B∨B+17<=i)(h:ë s i=À xs):ë (s'.take s.length) i=À xs:=by
 have a:=(Ç.mp (ü h)).1;exact aQ (by rw[Ű a,w.get i a b hd e];exact ü h)
def pU {s s':S}(w:Wk c d B s s')(a:i≠c)(hd:i≠d)(b:i<B∨B+17<=i)(h:ë s i=À xs):ë s' i=À xs:=by
 have e:=(Ç.mp (ü h)).1;exact aQ (by rw[w.get i e a hd b];exact ü h)
def P' (ns:Á Int):(vk [.sq (ns.map AV.int)] (tabS [(20,"by_days.<locals>.<lambda>"),(21,"_law_worth.<locals>.<lambda>")])).wp λv _=>v=.bl true:=by
 have cl0:Cl (tabS [(20,"by_days.<locals>.<lambda>"),(21,"_law_worth.<locals>.<lambda>")]):=rfl;unfold vk G';rw[show ze (ó 1 aF (Ã (Ĝ (ŷ (Ã (ļ 9 "money_list" 0 ŕ (mv 6) Ø) (Ã (ļ 9 "work_names" 0 Ŗ (mv 6) Ø) Ø)))) Ø))=Ca from rfl];rw[show vG (Õ Ł (Õ sC (vG (mv 3) oN (oS (Õ Ł (mc (.int 1)) (ó 2 í (Ã (mv 1) (Ã (mc (.int 3)) Ø)))))) (mc (.int 3))) (mv 2)) oN (oS (Õ Ł (mc (.int 8)) (ó 2 í (Ã (mv 1) (Ã (mc (.int 9)) Ø)))))=PB from rfl];rw[WS.2.2.2.2.2.2.2.2.2.2.2.2.2.2.2.1];refine Ľ λK f=>?_;walk_at"w";refine(Ha ns cl0).mono ?_;rintro _ O ⟨c,d,e0,rfl,es,T,c0,d0⟩;have t0:O[0]?=À (.tab 20 Bc)/\O[1]?=À (.tab 21 Be):=by rw[es];exact⟨rfl,rfl⟩
 have c0:1<c:=c0;have d0:1<d:=d0;clear es;have lc0:=T.Mq;have ld0:=T.Mr;rw[f];clear f K;refine Ľ λK f=>?_;walk_at"w";refine(Bn T (by lia)).mono ?_;rintro _ I ⟨j,a,rfl,hj,l2,ln,nm,XI,D2,G2⟩;obtain⟨D3,X,al⟩:=G2.cut T D2;have t3:(I.take O.length)[0]?=À (.tab 20 Bc)/\(I.take O.length)[1]?=À (.tab 21 Be):=⟨by rw[X.get 0 (by lia) (by lia)];exact t0.1,by rw[X.get 1 (by lia) (by lia)];exact t0.2⟩
 simp?[l2,hj,al,bP];rw[f];clear f K;generalize I.take O.length=P at D3 X t3⊢;have le3:P.length=O.length:=X.len;have D4:=D3.app (e:=[AO.lst (a.map AV.str)]) (D3.cl.add (by simp only[ľ,bu,AO.low,ů];exact bP _ _));have l4:=Ď P (a.map AV.str);have t4:(P++[AO.lst (a.map AV.str)])[0]?=À (.tab 20 Bc)/\(P++[AO.lst (a.map AV.str)])[1]?=À (.tab 21 Be):=⟨by rw[Ý (by lia)];exact t3.1,by rw[Ý (by lia)];exact t3.2⟩
 generalize P.length=N at l4 le3⊢;generalize P++[AO.lst (a.map AV.str)]=s4 at D4 t4 l4⊢;clear D3 X D2 G2 l2 al T;have b4:=Hb D4 (by lia) t4 c0 d0 l4 (by lia) (by lia) (by lia) l4 (by lia) nm XI;refine Ľ λK f=>?_;walk_at"w";generalize cI [.ref d,.ref N] s4=rr at b4⊢;refine b4.to ?_;rintro _ s7 ⟨rfl,V,F,h⟩;walk_at"w";rw[f];clear f K rr b4;generalize s4.length=B at h⊢;have ec:=y4 h.at_ (gs:=[(N,a.map AV.str)]) (λp hp=>by rw[ð.mp hp];exact h.nm) a none [];rw[av]at ec;refine Ľ λK f=>?_;simp?[↓ğ (kg h.nm)];refine⟨ur (by rw[Ê];lia),?_⟩;rw[ğ ec,f];clear f K;obtain⟨y,Z,hsm,lsm⟩:∃y:Á Str,y=(a.filter λx=>decide (x∈V.ws))/\(∀x∈y,x∈a)/\y.length<=8:=⟨_,rfl,λx hx=>(jP.mp hx).1,by have:=List.length_filter_le (λx=>decide (x∈V.ws)) a;lia⟩
 rw[<-Z];clear Z ec;have M:=h.strs y;have l8:=Ď s7 (y.map AV.str);have hL:=h.len;have hc:=h.c0;have hd:=h.d0;generalize s7.length=sl at l8 hL⊢;generalize s7++[AO.lst (y.map AV.str)]=t at M l8⊢;clear h;refine Ľ λK f=>?_;walk_at"w";have cr:Cl (t++[AO.lst [AV.str "rate"]]):=M.dr.cl.add (by simp[AO.low,ĭ,AV.low]);have h9:=M.app cr;have m:=Ď t [AV.str "rate"];have w9:Wk c d B t (t++[AO.lst [AV.str "rate"]]):=(Gk.app c d t _).wk B;have hL8:=M.len;generalize t++[AO.lst [AV.str "rate"]]=s9 at h9 m w9⊢;refine(take1 h9.dr).mono ?_;rintro _ s ⟨q,rfl,q0,q1,U,A⟩;have k:=h9.kp A U;have ZO:=k.n0;have w:ë s t.length=À [AV.str "rate"]:=A.gk.lst (n:=0) (by lia) (by lia) m;obtain⟨many,em⟩:∃many:Nat,(2+q:Int)=many:=⟨(2+q).toNat,by lia⟩
 have Y:Ł (.int 2) (.int q) s=.ok (.int many) s:=by rw[<-em];rfl
 rw[ğ Y];have J:=yv (many:=many) k F (by lia) (by lia) (by lia) k.nm ⟨.inl ZO.2.1,ZO.2.2⟩ (by lia) (by lia) nm w (by lia) (λv hv=>⟨_,ð.mp hv,.inr rfl⟩) (by simp) (by simp);refine⟨rfl,?_⟩;generalize aG [.ref d,.ref B,.ref (B+14),.ref N,.ref t.length,.int many] s=rr at J⊢;refine J.to ?_;rintro _ Ya ⟨rfl,V1,o,TF,Z4⟩;have L:=(w9.trans (A.wk B)).trans Z4;obtain⟨i,u⟩:=M.cut L TF;have E:=Kh L (by lia) (by lia) (.inr hL) l8;refine⟨⟨u,rfl⟩,?_⟩;clear L Z4 TF A U k w Y m w9 h9 cr l8 rr J hL8;generalize Ya.take t.length=G at i E⊢;clear M u;rw[jJ];dsimp only;rw[Ñ (by decide),f];clear f K;refine Ľ λK f=>?_;walk_at"w";refine⟨ur (by simp),?_⟩;rw[f];clear f K;have b:=i.app (e:=[AO.lst NX]) (i.dr.cl.add (by simp[NX,AO.low,ĭ,AV.low]));have l:=ć (e:=[AO.lst NX]) E;have m:=Ď G NX;have g:=i.len;rw[show[AV.str "sold",.str "sold",.str "back",.str "sold",.str "back",.str "rate",.str "sold",.str "back"]=NX from rfl];generalize G.length=wl at m g⊢;generalize G++[AO.lst NX]=H at b l m⊢;have o:xb 12 12 V1:=o.mono (by lia) (by lia);have b:LS c d 1000 B N a V1 V1 H:=⟨b.dr.mono (by lia),b.at_,b.t0,b.c0,b.d0,b.nm,b.n0⟩
 clear F i E em q0 q1;refine Ľ λK f=>?_;simp?[↓uO];refine⟨⟨by decide,by decide⟩,?_⟩;have hlt:sl<H.length/\wl<H.length:=⟨(Ç.mp (ü l)).1,(Ç.mp (ü m)).1⟩
 refine nv (λxs C st=>∃(x0 x5 x8:Ð AV) (z:Nat) (V:Wl),xs.length+z=2/\C=[x0,À (.ref d),À (.ref N),À (.ref sl),À (.ref wl),x5,À (.ref B),À (.ref (B+14)),x8]/\xb (12+25*z) (12+25*z) V/\LS c d (1000+1000*z) B N a V V st/\ë st sl=À (y.map AV.str)/\ë st wl=À NX) ?_ ?_ ?_ _ _ _ ⟨_,none,none,0,V1,by rfl,rfl,o,b,l,m⟩
 ·rintro _ _ st _ p hp;cases hp
 ·rintro C st ⟨x0,x5,x8,z,V,hz,rfl,F,h,_,_⟩;have hz:0+z=2:=hz;rw[f];walk_at"w";refine(Gu (Q:=True) h.S9 F (by lia) (by lia) _ _ _ _ _ _ _ _ trivial).mono ?_;rintro _ _ ⟨rfl,_⟩;exact EH h.S9 F (by lia) (by lia) rfl
 ·clear b l m o hlt;rintro v r C st ⟨x0,x5,x8,z,V,hz,rfl,F,h,hs,hw⟩;have hz:r.length+1+z=2:=hz;have hc:=h.c0;have hd:=h.d0;rw[WS.2.2.2.2.2.2.2.2.2.2.1];clear f K;refine Ľ λK f=>?_;walk_at"w";refine(PD h (by lia) hs (by lia) (by lia) hsm lsm ln _ _).mono ?_;rintro _ s1 ⟨Wb,fl,rfl,hfl,lf,f0,f1,fm,h1,w1⟩;have hs1:=pU w1 (by lia) (by lia) (.inr hL) hs;have hw1:=pU w1 (by lia) (by lia) (.inr g) hw;have hB:=h.len;rw[f];clear f K;walk_at"w";refine(take1 h1.dr).mono ?_;rintro _ I ⟨q,rfl,q0,q1,D2,K2⟩;have h2:=h1.kp K2 D2;obtain⟨many,em⟩:∃many:Nat,(10+q:Int)=many:=⟨(10+q).toNat,by lia⟩
  have e2:Ł (.int 10) (.int q) I=.ok (.int many) I:=by rw[<-em];rfl
  rw[ğ e2];have hs2:=pU (K2.wk B) (by lia) (by lia) (.inr hL) hs1;have We:=pU (K2.wk B) (by lia) (by lia) (.inr g) hw1;have lf2:=pU (K2.wk B) (by lia) (by lia) (.inr (by lia)) lf;have w3:=yv (many:=many) h2 F (by lia) (by lia) (by lia) lf2 ⟨.inr (by lia),by lia,by lia⟩ f0 f1 (λx hx=>nm x (fm x hx)) We g Sd (by decide) (by decide);refine⟨rfl,?_⟩;generalize aG [.ref d,.ref B,.ref (B+14),.ref fl,.ref wl,.int many] I=rr at w3⊢;refine w3.to ?_;rintro _ s4 ⟨rfl,V4,ok4,D,w4⟩;rw[jJ];dsimp only;rw[Ñ (by decide)];exact⟨_,_,_,z+1,V4,by lia,rfl,ok4.mono (by lia) (by lia),⟨D.dr.mono (by lia),D.at_,D.t0,D.c0,D.d0,D.nm,D.n0⟩,pU w4 (by lia) (by lia) (.inr hL) hs2,pU w4 (by lia) (by lia) (.inr g) We⟩
end Ro
end
namespace PySem.W.Fast
section
variable (a:True)
def tw11641281219588522585:=a
def tw5873899251027032568:=a
def tw4805194164606706776:=a
def tw2468997069010138614:=a
def tw11964181883149929780:=a
def tw17186947539236833245:=a
def tw995617828654780726:=a
def tw3229509160649480478:=a
def tw7201336181315570507:=a
def tw4557000812029255145:=a
def tw6502786324981389645:=a
def tw7286042485120259053:=a
def tw3496740069247556432:=a
def tw13656057674749968087:=a
def tw5252164989344910733:=a
def tw4576918913112209553:=a
def tw17779506311279101566:=a
def tw15364197827314389865:=a
def tw12317743384255728333:=a
def tw14619374028134890635:=a
def tw11955786007916244980:=a
def tw5085363930666309359:=a
def tw8793175806294484200:=a
def tw720632883443719979:=a
def tw13298644689854039230:=a
def tw16845388483699537159:=a
def tw11192448140989984866:=a
def tw17046577326101880786:=a
def tw10533713963931455419:=a
def tw24000039220563369:=a
def tw5315421799432786054:=a
def tw7971195049658849404:=a
def tw1131153740970774600:=a
def tw4698518647518003886:=a
def tw17700817764665337176:=a
def tw11303959906267469407:=a
def tw391243658399322586:=a
def tw8973121863000221623:=a
def tw15027981625732327487:=a
def tw7282254690217273087:=a
def tw955651422773263437:=a
def tw9437293557498695496:=a
def tw7572146913336475953:=a
def tw8852249491430030602:=a
def tw8576893737160491020:=a
def tw12824957595687736377:=a
def tw11443996572729460215:=a
def tw12753604140883185426:=a
def tw14959550400173525778:=a
def tw4281209453941062663:=a
def tw13618212854506355843:=a
def tw1490694185287946688:=a
def tw2206167048253327220:=a
def tw13594534599220423035:=a
def tw14901424107599952602:=a
def tw4513672903794976808:=a
def tw13641401634320494691:=a
def tw13125299731914034876:=a
def tw4074939425094870366:=a
def tw5281174551879172278:=a
def tw13466289853328115440:=a
def tw17358201594592923573:=a
def tw17108769572243071407:=a
def tw12717521620453450917:=a
def tw16885201078034178458:=a
def tw14524412339568765650:=a
def tw17312799281211861355:=a
def tw16535455169797957335:=a
def tw10404026757192518296:=a
def tw17853550140472877068:=a
def tw16910084462740861566:=a
def tw15611141071474368127:=a
def tw1292396719918642204:=a
def tw7835632854640447723:=a
def tw153493130475022834:=a
def tw15312173335976807524:=a
def tw15177651155076361760:=a
def tw1035560806525580710:=a
def tw30111046048731681:=a
def tw16275569464796146279:=a
def tw5481754069360369724:=a
def tw3398005059965239548:=a
def tw1977459389893514224:=a
def tw4318687532976382841:=a
def tw16658741644850579190:=a
def tw12718613480382961903:=a
def tw16384257993625239739:=a
def tw12124246579681044948:=a
def tw2100792815922967588:=a
def tw1802883191513866875:=a
def tw13416653737380422035:=a
def tw9542649730404025018:=a
def tw1516934470942733789:=a
def tw17199007034267575839:=a
def tw146858059267626017:=a
def tw1450911451164879247:=a
def tw13915257213359817698:=a
def tw1035299547741733607:=a
def tw6085192494354990606:=a
def tw9647578858943854101:=a
def tw5190239314201342735:=a
def tw12091813467112651678:=a
def tw16616541109459145458:=a
def tw12203371552912228212:=a
def tw6044005771291928432:=a
def tw15578008661723424159:=a
def tw16524371988205948428:=a
def tw16655606188999678475:=a
def tw11051223887398450943:=a
def tw12493089571721946253:=a
def tw6363668439789829912:=a
def tw15669302826598462792:=a
def tw10172072755220603516:=a
def tw1295339731635520925:=a
def tw3681685849902654503:=a
def tw7365351044342270956:=a
def tw9242497961889391744:=a
def tw16126540290687294750:=a
def tw11141445327080403121:=a
def tw8648571731957066625:=a
def tw13455659904464408616:=a
def tw14697544683927523847:=a
def tw9724767414217490196:=a
def tw8682000640279275628:=a
def tw18255026797105061792:=a
def tw15506235318914011779:=a
def tw17739223295974005903:=a
def tw10918404951007413143:=a
def tw15045109198306696770:=a
def tw7532272604131129726:=a
def tw12238348557977088120:=a
def tw11737807075664933459:=a
def tw7685461455748310799:=a
def tw6311059165810343135:=a
def tw9524438937240075405:=a
def tw7712688969091009113:=a
def tw986871970179415939:=a
def tw12500228498842460205:=a
def tw4715509992878724488:=a
def tw17682080230634313554:=a
def tw12429266433322471942:=a
def tw434642080146640658:=a
def tw11412061184191324087:=a
def tw5708147315847009558:=a
def tw5115341758586802203:=a
def tw8360409618012197092:=a
def tw7441075914231027099:=a
def tw9052577428376051763:=a
def tw11841236461346069232:=a
def tw8401810194129409724:=a
def tw12483394905973437331:=a
def tw4999342440029143464:=a
def tw15918173484410994708:=a
def tw11072150770002346735:=a
def tw552807706512096137:=a
def tw11985360880475369836:=a
def tw6103583302466000812:=a
def tw10267492350708998903:=a
def tw1646872772079599535:=a
def tw11762570453887667840:=a
def tw10958866872549731285:=a
def tw14770551726056340200:=a
def tw14193665136830731198:=a
def tw10658848696242764453:=a
def tw9081271300153315975:=a
def tw16063105115920710365:=a
def tw12221675493907892318:=a
def tw9614332897880384586:=a
def tw6755754144545469115:=a
def tw4938391021706136970:=a
def tw17122130668620673750:=a
def tw15790346985126831527:=a
def tw11738819252771083914:=a
def tw17724178244626706835:=a
def tw14298051071776754246:=a
def tw13586220422706109259:=a
def tw9836844382330015260:=a
def tw13220838688261782630:=a
def tw12141083077242261192:=a
def tw12304207898145507268:=a
def tw7655310074586546654:=a
def tw16042382655903833929:=a
def tw496218579740753951:=a
def tw14224042007799639832:=a
def tw4476324524933349137:=a
def tw14418133028330375875:=a
def tw332623430962358923:=a
def tw10984609874338420718:=a
def tw12316664981753165872:=a
def tw2881969182142473284:=a
def tw16168895674295250888:=a
def tw3671538979478874264:=a
def tw18153792870097866281:=a
def tw12297847367045383325:=a
def tw16084452089452199997:=a
def tw6661663571347007834:=a
def tw2589566834738263738:=a
def tw16624936075988234977:=a
def tw4303655680220312422:=a
def tw1221287585042166765:=a
def tw16830101664674088799:=a
def tw6653789077845203517:=a
def tw6203520752541436486:=a
def tw10889479951781389444:=a
def tw4792741767864933832:=a
def tw577860909182106506:=a
def tw10336968205713171116:=a
def tw5318945970431658897:=a
def tw2230678793058394402:=a
def tw15313391468232224736:=a
def tw632804984280575307:=a
def tw16019020426237853741:=a
def tw12477039400221720341:=a
def tw9529261999512611805:=a
def tw8803151286727238037:=a
def tw17676165145492657537:=a
def tw14755237637200638573:=a
def tw6691870155821346746:=a
def tw17375036022995621220:=a
def tw8021161693994535976:=a
def tw7456700125161593734:=a
def tw6668392346726078418:=a
def tw16984259092330602264:=a
def tw8180706004877334013:=a
def tw16906672464032142629:=a
def tw15426892112385074859:=a
def tw14374678443604552784:=a
def tw14320047702605660844:=a
def tw1170703252807319737:=a
def tw10950598040911871189:=a
def tw10006578967718070051:=a
def tw18271257400097557049:=a
def tw8511497150542995188:=a
def tw639426183917337314:=a
def tw6611492199883813094:=a
def tw855512281957605226:=a
def tw14036415480871683156:=a
def tw14728539585477888274:=a
def tw6881300209207675342:=a
def tw11231826866712912768:=a
end
end PySem.W.Fast
open PySem PySem.W PyProof.Rows
set_option maxRecDepth 100000 in
set_option maxHeartbeats 0 in
theorem PySem.Challenge.cw_royaltree_k17_money_told_holds : PySem.Challenge.rw_royaltree_k17_money_told.Holds := by
 w_on;o_law;k_head;(case hw=>w_witness2)
 k_fill
 refine Ro.Vw (l:=PySem.Challenge.rw_royaltree_k17_money_told) _ [(20,"by_days.<locals>.<lambda>"),(21,"_law_worth.<locals>.<lambda>")] Ro.vk 12 (by decide) ⟨rfl,rfl,by decide,by decide⟩ Ro.P' rfl rfl (λw h Y=>PySem.W.km_in_of Y) (λw h Y=>PySem.W.km_tabs_of Y) ?TC ?TK ?F;case TC=>
  intro w h KX;refine List.forall_mem_cons.mpr ⟨?_,List.forall_mem_cons.mpr ⟨?_,λ_ z=>nomatch z⟩⟩
  ·refine' Ro.OQ (x:="by_days") (st:=Ro.top 16) ?a ?l ?c;(case a=>k_is);(case l=>k_is);(case c=>first|k_is|kernel_rfl|rfl)
  ·refine' Ro.OQ (x:="_law_worth") (st:=Ro.top 27) ?a ?l ?c;(case a=>k_is);(case l=>k_is);(case c=>first|k_is|kernel_rfl|rfl)
 case TK=>
  intro w h KX;refine List.forall_mem_cons.mpr ⟨?_,List.forall_mem_cons.mpr ⟨?_,λ_ z=>nomatch z⟩⟩<;>
  first|k_is|kernel_rfl|rfl
 case F=>
  intro w mg fa h KX G hmg;refine' Ro.PF KX G hmg ?x0 ?x1 ?x2 ?x3 ?x4 ?x5 ?x6 ?x7 ?x8 ?b ?cO ?wB ?wC ?pV ?jM ?dB ?wD ?ž ?fZ ?gR ?wF ?ef ?ū ?wG ?f6 ?wH ?ml ?Ž ?gQ ?vX ⟨?d50,?d0,?d1,?d2,?d3,?d4,?d5,?d6,?d7,?d8,?d9,?d10,?d11,?d12,?d13,?d14,?d15,?d16,?d17,?d18,?d19,?d20,?d21,?d22,?d23,?d24,?d25,?d26,?d27,?d28,?d29,?d30,?d31,?d32,?d33,?d34,?d35,?d36,?d37,?d38,?d39,?d40,?d41,?d42,?d43,?d44,?d45,?d46,?d47,?d48,?d49⟩;(case x0|x1|x2|x3|x4|x5|x6|x7|x8=>(refine' Ro.Vz KX G ?a ?l ?n ?s ?k ?g ?h ?j ?cn ?ct ?i;(case a=>k_is);(case l=>k_is);(case n=>k_is);(case s=>first|rfl|decide+kernel);(case k=>k_is);(case g=>k_is);(case h=>k_is);(case j=>k_is);(case cn=>k_is);(case ct=>k_is);(case i=>first|rfl|decide+kernel)));(case b=>(refine' Ro.S8 (nm:="Book") ?ba ?bp ?bd ?bo ?bs ?bn;(case ba=>k_is);(case bp=>k_is);(case bd=>k_is);(case bo=>k_is);(case bs=>k_is);(case bn=>exact List.forall_mem_cons.mpr ⟨by k_is,List.forall_mem_cons.mpr ⟨by k_is,List.forall_mem_cons.mpr ⟨by k_is,List.forall_mem_cons.mpr ⟨by k_is,List.forall_mem_cons.mpr ⟨by k_is,List.forall_mem_cons.mpr ⟨by k_is,List.forall_mem_cons.mpr ⟨by k_is,List.forall_mem_cons.mpr ⟨by k_is,Ro.QQ⟩⟩⟩⟩⟩⟩⟩⟩)));(case cO|wB|wC|pV|jM|dB|wD|ž|fZ|gR|wF|ef|ū|wG|f6|wH=>k_is);(case ml=>(refine' Ro.Ei (x:="COIN") (v:=.str "coin") KX G ?a ?r ?w;(case a=>k_is);(case r=>exact⟨_,rfl⟩);(case w=>exact λρ H=>by unfold Mm.VR;rfl)));(case Ž=>(refine' Ro.Ei (x:="FIRST_HALF_DAYS") (v:=.int 182) KX G ?a ?r ?w;(case a=>k_is);(case r=>exact⟨_,rfl⟩);(case w=>exact λρ H=>by unfold Mm.VR;rfl)));(case gQ=>(refine' Ro.Io (x:="NOTHING") (vs:=[.int 0,.int 1]) KX G ?a ?l ?v ?s ?w;(case a=>k_is);(case l=>k_is);(case v=>exact .cons ⟨_,rfl⟩ (.cons ⟨_,rfl⟩ (.nil)));(case s=>decide);(case w=>exact λρ H=>.cons (by unfold Mm.VR;rfl) (.cons (by unfold Mm.VR;rfl) (.nil)))));(case vX=>(refine' Ro.Io (x:="ONE") (vs:=[.int 1,.int 1]) KX G ?a ?l ?v ?s ?w;(case a=>k_is);(case l=>k_is);(case v=>exact .cons ⟨_,rfl⟩ (.cons ⟨_,rfl⟩ (.nil)));(case s=>decide);(case w=>exact λρ H=>.cons (by unfold Mm.VR;rfl) (.cons (by unfold Mm.VR;rfl) (.nil)))));(case d0|d31=>(refine' Ro.Pw KX G rfl ?a ?l ?c ?k ?h;(case a=>k_is);(case l=>k_is);(case c=>k_is);(case k=>k_is);(case h=>first|k_is|kernel_rfl|rfl)));(case d1|d2|d25|d26|d27|d28|d29|d30|d32|d33|d34|d35|d36|d37|d38|d39|d40|d41|d42|d43|d44|d45|d46|d47|d48|d49|d50=>(refine' Ro.Tj KX G ?a ?l ?c ?k;(case a=>k_is);(case l=>k_is);(case c=>k_is);(case k=>k_is)));(case d3=>(refine' Ro.Pt KX G rfl ?g ?a ?l ?c ?k ?f ?m ?kc;(case g=>k_is);(case a=>k_is);(case l=>k_is);(case c=>k_is);(case k=>k_is);(case f=>k_is);(case m=>k_is);(case kc=>k_is)));(case d4|d5|d6|d7|d8|d9|d10|d11|d12|d13|d14|d15|d16|d17|d18|d19|d20|d21|d22|d23|d24=>(refine' Ro.Pu rfl ?a ?l ?c ?k ?f;(case a=>k_is);(case l=>k_is);(case c=>k_is);(case k=>k_is);(case f=>k_is)))
