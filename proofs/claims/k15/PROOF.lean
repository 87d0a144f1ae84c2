import PyProof.Rows.All
import Wide.All
import OpenK.AllK
import Wide.FinOn
import Lean
import PyProof.EqAt
import PyProof.EqKinds
import PyProof.TupleCall
import PySem.Challenge.RW_royaltree_k15_makers_and_worths
set_option bootstrap.genMatcherCode false
set_option genSizeOf false
set_option Elab.async false
set_option linter.all false
set_option maxRecDepth 100000
noncomputable section
open And renaming intro->MM
open Array renaming length_toList->Į,getD_eq_getD_getElem?->Ū,getElem?_eq_getElem->Ž,getElem?_toList->aa,getElem?_setIfInBounds_self_of_lt->cR,getElem?_eq_some_iff->dw,perm_iff_toList_perm->dy,getElem?_eq_none->fG,mem_toList_iff->nQ,toList_inj->sU,toList->AE,size_push->LX
open Array.Perm renaming refl->aZ
open Bool renaming false_ne_true->â,and_eq_true->ĝ,and_true->Ŏ,false_eq_true->Ŧ,eq_iff_iff->cC,not_false->dF,or_true->dQ,not_true->eJ,or_eq_true->jd,not_eq_true'->kH,and_eq_false_iff->nF,and_false->oK,false_or->pV,and_eq_true_iff->EG,or_eq_false_iff->EH,eq_false_iff->Ji,or_false->P_,true_and->P',true_or->Tp
open Classical renaming propDecidable->j3
open False renaming elim->ag
open ForInStep renaming yield->a6
open Int renaming gcd->Ř,toNat_natCast->bJ,fmod_eq_emod_of_nonneg->j6,mul_right_comm->j8,fmod_nonneg_of_pos->m5,mul_comm->m7,fmod_lt_of_pos->rJ,gcd_dvd_right->sV,gcd_dvd_left->vk,eq_of_mul_eq_mul_right->yL,natAbs_dvd_natAbs->EI,one_mul->EV,mul_fdiv_cancel->IF,emod_lt_of_pos->Jj,emod_nonneg->PU,natAbs_mul->Qb,neg_dvd->Wx,neg_mul->Wy,not_lt->X9
open List renaming getElem?_eq_getElem->Å,getElem?_eq_some_iff->Ç,append_assoc->È,length_map->Î,map_cons->Õ,size_toArray->Ù,getElem?_append_left->Û,mem_cons->Þ,getElem?_append_right->á,replicate->ã,getElem?_map->è,getElem?_set_ne->í,all_eq_true->ñ,mem_of_getElem?->ò,mem_singleton->ý,mem_cons_of_mem->þ,not_mem_nil->ÿ,getD_eq_getElem?_getD->Ā,length_append->ă,range->Ą,getElem?_set_self->Č,length_cons->ē,mem_map->ĕ,lookup_cons->Ğ,toArray->ğ,all_cons->Ġ,mem_append_right->ĭ,getElem_of_mem->İ,mem_cons_self->Ļ,pairwise_cons->ļ,map_append->Ł,contains_cons->ņ,any_cons->ř,length_set->Ś,length_take->ū,all_nil->Ŷ,getElem?_take_of_lt->ai,map_nil->aj,length_nil->aJ,prefix_rfl->aK,getElem_inj->aX,nodup_cons->bA,length->bE,append_nil->cE,find?_cons->cF,mem_append->cG,pairwise_map->cU,lookup->dG,any_eq_true->dS,cons_append->dU,getElem_mem->dV,mergeSort_perm->eA,nil_append->eL,prefix_append->fo,pairwise_mergeSort->fv,length_range->f6,map_map->f7,nodup_append->f9,take_left->f_,set_append_right->gB,mem_append_left->iC,forIn_cons->je,mem_filterMap->jX,mem_range->jY,map_id->kI,take_sublist->kJ,ext_getElem->lT,getElem?_replicate->lU,length_drop->lV,pairwise_singleton->lW,length_zip->m_,mem_filter->ng,take_left'->nh,mem_iff_getElem->oO,filterMap_cons->pQ,set_comm->pZ,lookup_append->qZ,any_eq_false->sE,of_mem_zip->vO,forIn_nil->yu,mapM_cons->yv,drop_eq_getElem_cons->yM,getElem?_zip_eq_some->yN,pairwise_iff_getElem->yO,mapM_nil->Aq,length_eq_zero_iff->AH,getElem?_eq_none->C3,length_replicate->C4,length_singleton->C5,max?_eq_some_iff->C6,set_getElem_self->C7,set_append_left->EJ,map_congr_left->EW,find?_eq_none->II,zip_cons_cons->IJ,drop_sublist->Jk,drop_length->LZ,filter_cons->L0,zipIdx_cons->L1,any_append->MN,zipIdx_nil->MO,map_drop->Qc,map_take->Qd,map_set->Tv,set_set->Tw,map->ZP
open List.Pairwise renaming nil->m9
open List.cons renaming injEq->av,inj->IH
open Nat renaming reduceSub->Ä,le_refl->Ì,lt_of_lt_of_le->é,ne_of_lt->ê,zero_le->ï,le_trans->Đ,le_of_lt->ė,ne_of_gt->ġ,lt_irrefl->ŏ,lt_of_le_of_lt->bb,lt_succ_of_lt->dn,lt_succ_self->dZ,le_of_eq->jD,le_succ->lD,le_add_right->lZ,lt_trans->ni,not_lt->nj,le_of_succ_le->sX,sub_self->sY,zero_add->C8,add_le_add_left->IK,succ_le_succ->MP,not_lt_zero->PV,log2_lt->Wz
open Nat.succ renaming inj->ft
open Ne renaming symm->Ŋ
open Option renaming some->À,isSome_iff_exists->bF,bind_some->bQ,map_some->ck,isSome_map->j9,getD_some->sF,isSome_some->EL,getD_none->IL
open Option.some renaming inj->æ,injEq->X_
open Or renaming inl->EM,inr->L3
open PUnit renaming unit->UE
open Prod renaming ext->oQ,fst->ZQ,snd->ZR
open PyProof renaming noPylong_of_log2->wL
open PyProof.Rows renaming seqObj->č,slot_tuple_getitem->Ő,boot_sorted->Ÿ,envOfC->ak,callWith_type1->b9,assignInOrder_cons->cZ,listUpdate_at->dI,get?_update_seq->kb,AllBare->mH,seqEpoch_at->mK,subscriptTail_builtinR->o6,mirror_perm->rR,IntsAre->sD,SortKind->wQ,assignInOrder_nil->wR,entry_sorted->wX,listItems_at->wZ,plain_sorted->w4,envOfC->yX,kind_sorted->Ax,entry_list_sort->AK,Subscript_->C_,bubble->Dh,slot_list_sort->Dm,subscriptTail->E4,IsTup->IG,args_sorted1->Jq,entry_tuple_getitem->PY,args_tuple_getitem->Qk,slot_tuple_getitem->Qn,StrsAre->Tz,unpackItems_tuple->TN,boot_enumerate->WA,boot_zip->WB,callWith_builtin1->WC,callWith_kw->WD,call_function_entry_kw->WG,formatField_int->WH,ksk_l1->WI,ksk_s1->WJ,ksk_t1->WK,kws_cons->WL,kws_nil->WM,list_sort_plain->Xb,args_list_sort->Ya,failedOf->Yb,keyKind'->Yd,slicePart_none->Yj,sortedHeap_old->Yk
open PyProof.Rows.IsTup renaming new->sW
open PyProof.Rows.KeyOrd renaming klt_of_klt_of_kle->eo,kle_trans->gy,kle_of_klt->qY,kle_refl->vd,kle_of_not_klt->AG,kle_antisymm->C2,kle->Tu
open PySem renaming wpAny_bind->Â,wpAny_pure->Ë,starEach->Í,Shared->Ò,wpAny->Ú,model->à,sizeLine_eq->ą,Program->Ĉ,eval->Ē,backTo->Ĝ,compareOp->ĥ,wpAny_call_entry->ħ,World->Ĩ,bootBuiltins->Ĭ,Around->į,wpAny_callSpecial?_slot->ĵ,wpAny_field->Ŀ,wpAny_holding->Ň,wpAny_newObj_type->ŗ,rawInt->Ũ,wpAny_Call_Name_kw->Ŵ,behindInMarks->ž,wpAny_mono->ae,attributeBase->aF,keywordEach->bj,cellsFrom->bq,binaryOp->bB,sysModules->bC,wpAny_rule->bD,Builtin->bT,wpAny_truthy_bool->bU,wpAny_attempt->b_,holding->cu,FuncData->cz,wpAny_seqItems->cA,assignEach->cY,tupleKind_room_in1->c_,wpAny_setField_rec->da,wpAny_passesOwn->dA,swapsWith->dJ,wpAny_standAt->dM,codeAny->dW,foldedSetIterable->dX,mem_of_lookup->d_,pyNext->fy,backToKw->fI,bindName->fJ,wpAny_newList->fK,Keyword->h8,NameKind->h_,wpAny_setField->ij,standAt->jn,swappedStores->jo,swapsWithSole->jq,bindArgs->jE,sliceBounds->jF,assign->j',letOwnedTupleGo->kd,Pos->kK,tupleKind->lE,builtinsNs->lN,wpAny_bindName->lO,getItem->mJ,IsPair->m8,assignInOrder->nu,getMethod->nY,closureFor->oY,codeAny_mono->oZ,codeAny_builtin->pR,wpAny_execs_nil->pS,IsPart->rM,newFunctionEnv->rS,wpAny_newTuple->rT,wpAny_updateSeq_pair->rX,BindsTo->sy,DictEntry->sC,callerA->sG,wpAny_onRaise->vf,PlainAttrs->vl,wpAny_call->vp,wpAny_pyIter_tuple->vq,callWith->wV,call_meetsIn->wW,intKind->wY,valueAt->w8,wpAny_pyIter_list->w_,wpAny_typeOf->xa,Env->yJ,PassesOwn->yP,codeAmong->yW,noFill_tuple_add->yY,seqIndex?->yZ,setFlight->y4,wpAny_isInstance->y6,IsZip->Ap,subscripted->Ay,wpAny_letGo->Az,Within->AI,wpAny_updateSeq->AL,atKey->Dd,checkCount->Di,evalEach->Dj,isSubtype_stop->Dk,isTrue->Dl,wpAny_Name->Dp,call->EZ,plainId_quiet->E2,seq_tuple_add->E3,wpAny_comprehension_free->E5,wpAny_handled->E6,bindC->IQ,bindL->IS,field->IT,noteFrame->IW,pushCells->IX,Fin->Jm,concat_meets->Jr,pyIter->Ju,setItem->Jv,wpAny_isTrue_Compare1->L6,compEnvC->MQ,seqIndex_of->MR,unbindBehindTheSuite->MS,wpAny_loadName_local->MT,wpAny_of_eq->MU,wpAny_throw->MV,wpAny_isSubtype_exc->PZ,Result->Qi,call_meets->Ql,defaultsOf->Qm,typeOf->Qo,wpAny_Constant_int->Qp,newList->TH,slot_list_getitem->TL,unaryOp->TM,wpAny_Call_method->TQ,wpAny_assign_Name->TR,wpAny_loadPart_at->TU,wpAny_pyIter_enum->TV,wpAny_pyIter_slot->TX,wpAny_sequenceKey->TY,Tok->UR,TriplesOk->US,checkBuiltinCall->UT,updateSeq->UW,wpAny_Dict_empty->UX,wpAny_execs_cons->UY,wpAny_pyIter_zip->UZ,Sem->W7,exec_Assign_arm->Xa,pushCells_keeps->Xc,ZipApart->X',firstArgMember->Yc,newEnv->Ye,raiseNew->Yh,ret->Yi,wpAny_Compare1->Yl,wpAny_loadPart->Ym
open PySem.Around renaming under_plainId->hU,under->qX
open PySem.Builtin.Dict renaming noArgs->Wt,showsAll->Wu
open PySem.Builtin.Dict_items renaming ownsTuple->LY
open PySem.Builtin.Int renaming intBits->bu,intTooBig->vN
open PySem.Builtin.List renaming listExtendWith->pW,listSameRef->sA
open PySem.Builtin.Range renaming rangeSize->Uy
open PySem.Builtin.Slice renaming slicePlaces->cD,sliceAdjust->hZ,sliceApplied->pX,sliceFields->Uz,slicePartIndex->UA
open PySem.Builtin.SmallTypes renaming nextOf->ľ,ownedTupleIsFree->af,ownedTupleHandOut->jW
open PySem.Builtin.Str renaming strKind->oR
open PySem.Builtin.Tuple renaming tupleExact->cS,tupleItemsOf->pY,tupleIsExact->UB
open PySem.Calls renaming spliced_cons->eK,call_function_entry->eM,callWith_builtin->fH,spliced_nil->kB,evalArgs_plain->nR,Name_function_global->wK
open PySem.Challenge renaming pw_royaltree_k15_makers_and_worths->Qf
open PySem.Code renaming isFrame->BR,isGuard->Tq,frames->UC
open PySem.EntryCells renaming newEntry->yI
open PySem.EqMixed renaming eq_bool_str->UG,eq_int_str->UH,eq_str_bool->UI,eq_str_int->UJ,ne_bool_str->UK,ne_int_str->UL,ne_str_bool->UM,ne_str_int->UN
open PySem.EqNone renaming eq_bool_none->WN,eq_int_none->WO,eq_none_bool->WR,eq_none_int->WT,eq_none_none->WU,eq_none_str->WW,eq_str_none->WX,ne_bool_none->WY,ne_int_none->WZ,ne_none_bool->W0,ne_none_int->W2,ne_none_none->W3,ne_none_str->W4,ne_str_none->W5
open PySem.F renaming slot_dict_itemiterator_next->Š,slot_dict_keyiterator_next->Ţ,slot_dict_get->aY,plain_extend_loop->dH,slot_tuple_iterator_next->dY,entry_dict_get->fw,args_tuple_add_2->j_,entry_tuple_add->kL,plainAttrs_dict->kM,slot_tuple_add->lJ,args_dict_itemiterator_next_1->nG,args_dict_keyiterator_next_1->nS,entry_dict_itemiterator_next->nU,slot_zip_next->oM,entry_dict_keyiterator_next->oT,slot_dict_items_iter->sZ,excBase_ValueError->vm,entry_extend_loop->vP,args_dict_get_2->yw,args_dict_get_3->yx,attr_ValueError->yy,plainAttrs_list->yz,plain_list_iadd->yA,slot_dict_items->yB,args_tuple_iterator_next_1->yK,slot_dict_iter->yQ,entry_tuple_iterator_next->Ao,slot_tuple_lt->Ar,type_dict_get->As,args_zip_next_1->PR,entry_zip_next->Qa
open PySem.Flow renaming next->AF
open PySem.Heap renaming get?_push_of_some->Ã,lt_size->Ó,get?_push_size->Ö,get?_update_other->ç,get?_update_self->ø,size_push->ĸ,SameBut->dR,size_update->vc,IsTuple->Ts
open PySem.Heap.DictOf renaming new->X8
open PySem.Heap.IsSliceOf renaming new->Tr
open PySem.Heap.IsTuple renaming push->Wv
open PySem.Heap.SameBut renaming update->ŧ,refl->Ww
open PySem.NameKind renaming free->ŉ,cell->bw
open PySem.Obj renaming mapSeq->ð,mapFields->ü,isFreed_of_fields->cV,data_mapFields->Jl
open PySem.P renaming lt_int->Jn
open PySem.Paired renaming length->oW,snoc->Qe
open PySem.PassesOwn renaming never->EN
open PySem.SeqAt renaming EqAt->qc,in_listAt->L5
open PySem.SeqAt.EqAt renaming same->q_,bool_tuple->wN,none_tuple->wO,bool_list->yC,int_tuple->yD,none_list->yE,str_tuple->yF,int_list->yR,str_list->yS,int_str->Au,of_refs->Av,str_int->Aw,bool_bool->ZS,bool_int->ZT,bool_none->ZU,bool_str->ZV,int_bool->ZW,int_int->ZX,int_none->ZY,list_bool->ZZ,list_int->Z0,list_none->Z1,list_str->Z2,list_tuple->Z3,none_bool->Z4,none_int->Z5,none_str->Z6,str_bool->Z7,str_none->Z8,str_str->Z9,tuple_bool->Z_,tuple_int->Z'
open PySem.SeqAt.RcAt renaming lists_lengths->ve,tuples->AJ,lists->BU
open PySem.SeqAt.RcNeAt renaming lists->W8,lists_lengths->W9,tuples->W_
open PySem.Shared renaming TypeIs->kC,heap->Qj
open PySem.Str renaming ofString->Ü,empty->fB,length_append->gi
open PySem.Value renaming ref->Ñ,none->ì,type->dz,bool->eN,isInt->kF,int->lM,str->tj,builtin->yT,isStrOf->yU,float->Dc,isStrOf_shape->EO,bytes->TB
open PySem.W renaming Frag->É,findIn->ú,mg_none_of->Ċ,nsIn->Ď,keepIn->ī,kia_one->Ĳ,fnOf->ń,codeHdIn->ť,emptyDict->ų,instObj->bh,clsIn->cq,codeIn->cW,tabObj->cX,kas_desc->eI,specialIn->fx,kat_cons->gg,plainGet->gh,mg_of->gz,kas_place->gA,takesIn->ic,kas_descPart->ie,hasDictIn->jZ,kas_rev->kO,cellsFrom_some->lK,isFn->lL,OpenLaw->lX,kat_yes->lY,methodCall_KW->l0,kitOne->nq,kla_fn->nr,lookIn->nt,callWith_K0->nW,plainGet_of->nX,kas_sort->nZ,mroIn->oU,callWith_K->oX,kitx_dict->p8,kitx_list->p_,methodObj->qa,plainOver->qb,makesIn->s_,takerIn->tf,kat_no->vn,typeIn->vo,subIn->wM,codeHd_of_K->BS,kitx_tuple->C9,handedIn->EX,kat_kind->EY,kat_nil->IM,kat_one->IP,kas_count->IU,kas_tail3->IV,kat_lt->Jo,kas_bin->Js,kitOne->Jt,WalkO->L4,KasT->UD,notCls->Yf
open PySem.W.KatTups renaming cons->Qg,nil->Qh
open PySem.W.Looks renaming here->UO,ld->UP,of_pure->UQ
open PySem.W.WData renaming int->W'
open PySem.W.WShape renaming has->TF
open PySem.Within renaming cons->W6
open Rat renaming divInt->dO
open StateT renaming run_pure->Jp
open Sum renaming inr->dq,inl->ti
open Sum.inl renaming inj->PX
open Sum.inr renaming inj->j2
open True renaming intro->a7
open _root_ renaming List->Á,Option->Ê,if_pos->Ï,reduceIte->Ð,if_neg->Ô,decide_eq_false->ö,Array->Ă,decide_eq_true->ć,of_decide_eq_true->Ħ,congrArg->Ķ,decide_true->ŋ,decide_false->Ō,Decidable->ő,beq_eq_false_iff_ne->œ,decide_eq_true_eq->Ŗ,or_false->aw,if_false->eG,if_true->eO,propext->eQ,beq_iff_eq->ji,eq_true->kN,DecidableEq->mI,eq_false->rP,bne_self_eq_false->wU,beq_self_eq_true->yV,not_or->Yg
namespace L2
open PySem PySem.Spec PyProof.Rows
abbrev Key:=Sum Int Str
def we:Key->Value->Bool
 | .inl k,v=>kF k v
 | .inr x,v=>yU x v
def Vt (w:Ĩ):Key->Int
 | .inl k=>hashInt k
 | .inr x=>hashStr w x
def bg:∀ {k:Key}{v:Value},we k v=true->(∃ i t,k=ti i/\v=lM i t)∨(∃ x t,k=dq x/\v=tj x t)
 | .inl i,v,h=>by
  obtain⟨t,e⟩:=Value.isInt_shape (k:=i) (v:=v) h;exact .inl ⟨i,t,rfl,e⟩
 | .inr x,v,h=>by
  obtain⟨t,e⟩:=EO (x:=x) (v:=v) h;exact .inr ⟨x,t,rfl,e⟩
def DQ (i:Int)(t:UR):we (.inl i) (.int i t)=true:=by simp[we,kF]
def DR (x:Str)(t:UR):we (.inr x) (.str x t)=true:=by simp[we,yU]
def NA (a b:Int):decide ((ti a:Key)=ti b)=(a == b):=by
 by_cases e:a=b
 ·subst e;simp
 ·have h:¬ (ti a:Key)=ti b:=λ q=>e (PX q);rw[ö h];exact(œ.mpr e).symm
def ND (a b:Str):decide ((dq a:Key)=dq b)=decide (a=b):=by
 by_cases e:a=b
 ·subst e;simp
 ·have h:¬ (dq a:Key)=dq b:=λ q=>e (j2 q);rw[ö h,ö e]
def NB (a:Int)(b:Str):decide ((ti a:Key)=dq b)=false:=ö (λ q=>nomatch q)
def NC (a:Str)(b:Int):decide ((dq a:Key)=ti b)=false:=ö (λ q=>nomatch q)
def ů (prog:Ĉ)(w:Ĩ):PySem.KeyKind prog w Key where
 is:=we
 hash:=Vt w
 inj:=λ v a b ha hb=>by
  rcases bg ha with⟨i,t,rfl,rfl⟩|⟨x,t,rfl,rfl⟩
  ·rcases bg hb with⟨j,u,rfl,e⟩|⟨y,u,rfl,e⟩
   ·injection e with e1 _;rw[e1]
   ·exact nomatch e
  ·rcases bg hb with⟨j,u,rfl,e⟩|⟨y,u,rfl,e⟩
   ·exact nomatch e
   ·injection e with e1 _;rw[e1]
 byValue:=λ k v h=>by
  rcases bg h with⟨i,t,rfl,rfl⟩|⟨x,t,rfl,rfl⟩<;>rfl
 pyHash:=λ hv h=>by
  rcases bg hv with⟨i,t,rfl,rfl⟩|⟨x,t,rfl,rfl⟩
  ·exact wpAny_pyHash_int h
  ·exact wpAny_pyHash_str h
 eqBool:=λ hu hv h=>by
  rcases bg hu with⟨i,t,rfl,rfl⟩|⟨x,t,rfl,rfl⟩
  ·rcases bg hv with⟨j,u,rfl,rfl⟩|⟨y,u,rfl,rfl⟩
   ·rw[NA]at h;exact wpAny_eqBool_int h
   ·rw[NB]at h;exact Au i t y u _ _ _ _ h
  ·rcases bg hv with⟨j,u,rfl,rfl⟩|⟨y,u,rfl,rfl⟩
   ·rw[NC]at h;exact Aw x t j u _ _ _ _ h
   ·rw[ND]at h;exact wpAny_eqBool_str h
 «strs»:=λ k x t v h=>by
  rcases bg h with⟨i,u,rfl,e⟩|⟨y,u,rfl,e⟩
  ·exact nomatch e
  ·injection e with e1 _
   subst e1;cases v<;>rfl
def ry (prog:Ĉ)(w:Ĩ)(i:Int)(t:UR):(ů prog w).is (.inl i) (.int i t)=true:=DQ i t
def rF (prog:Ĉ)(w:Ĩ)(x:Str)(t:UR):(ů prog w).is (.inr x) (.str x t)=true:=DR x t
inductive V where
 | Ę|bl (b:Bool)|int (i:Int)|str (x:Str)|AY (b:Ă UInt8)|Mb (b:UInt64)|ref (a:Addr)|ty (n:String)
 deriving mI
def RelV:V->Value->Prop
 | .Ę,u=>u=ì
 | .bl b,u=>u=eN b
 | .int i,u=>∃ t,u=lM i t
 | .str x,u=>∃ t,u=tj x t
 | .AY b,u=>∃ t,u=TB b t
 | .Mb b,u=>∃ t,u=Dc b t
 | .ref a,u=>u=Ñ a
 | .ty n,u=>u=dz n
abbrev Vals:Á V->Á Value->Prop:=Paired RelV
theorem Vals.length (r:Vals xs us):xs.length=us.length:=oW r
theorem Vals.get:∀ {xs:Á V}{us:Á Value}{i:Nat}{x:V},Vals xs us->xs[i]? = À x->∃ u,us[i]? = À u/\RelV x u
 | _,_,_,_,.nil,e=>by simp at e
 | _,_,0,_,.cons r _,e=>by simp at e;subst e;exact⟨_,rfl,r⟩
 | _,_,i+1,x,.cons _ t,e=>by
  obtain⟨u,a,b⟩:=Vals.get (i:=i) (x:=x) t (by simpa using e);exact⟨u,by simpa using a,b⟩
theorem Vals.set (r:RelV x u):∀ {xs:Á V}{us:Á Value}(i:Nat),Vals xs us->Vals (xs.set i x) (us.set i u)
 | _,_,_,.nil=>.nil
 | _,_,0,.cons _ t=>.cons r t
 | _,_,i+1,.cons q t=>.cons q (Vals.set r i t)
theorem Vals.append:∀ {xs ys:Á V}{us ws:Á Value},Vals xs us->Vals ys ws->Vals (xs++ys) (us++ws)
 | _,_,_,_,.nil,s=>s
 | _,_,_,_,.cons r t,s=>.cons r (Vals.append t s)
theorem Vals.take:∀ {xs:Á V}{us:Á Value}(n:Nat),Vals xs us->Vals (xs.take n) (us.take n)
 | _,_,0,_=>.nil
 | _,_,_+1,.nil=>.nil
 | _,_,n+1,.cons r t=>.cons r (Vals.take n t)
theorem Vals.drop:∀ {xs:Á V}{us:Á Value}(n:Nat),Vals xs us->Vals (xs.drop n) (us.drop n)
 | _,_,0,r=>r
 | _,_,_+1,.nil=>.nil
 | _,_,n+1,.cons _ t=>Vals.drop n t
def lQ:Ê V->Ê Value->Prop
 | some v,À u=>RelV v u
 | none,none=>True
 | _,_=>False
def KV {κ:Type}:Á (κ × V)->Á (κ × Value)->Prop:=Paired λ(p:κ × V) (q:κ × Value)=>p.1=q.1/\RelV p.2 q.2
def kV:Key->V
 | .inl i=>.int i
 | .inr x=>.str x
inductive HO where
 | lst (xs:Á V)
 | tup (xs:Á V)
 | dK (kvs:Á (Key × V))|dT (kvs:Á (Á Key × V))
 | set (S:Int->Bool) (n:Nat)
 | ins (C dx:Addr) (fs:Á (Str × V))
 | own (x:Addr)
 | xd (fs:Á (Str × V))
 | met (f x:Addr)
 | SX (lo hi:Int)
 | hV (o:Obj) (u:HO)
 | pU (ps:Ă Value)
 | ext (φ:Heap->Prop)
abbrev Hp:=Addr->Ê HO
def upd (H:Hp)(a:Addr)(o:HO):Hp:=λ b=>if b=a then À o else H b
def ù:upd H a o a=À o:=by unfold upd;rw[Ï rfl]
def ä (h:b≠a):upd H a o b=H b:=by unfold upd;rw[Ô h]
def CY:upd (upd H a o) a u=upd H a u:=by
 funext b;unfold upd;split<;>rfl
def ui {H:Hp}{a b:Addr}{o u:HO}(h:H a=À o)(h':H b=À u)(d:o≠u):a≠b:=by
 intro e;subst e;rw[h]at h';exact d (æ h')
def Ń {H:Hp}{a b:Addr}{o:HO}(h:H a=À o)(h':H b=none):a≠b:=by
 intro e;subst e;rw[h]at h';cases h'
section
variable (P:Ĉ)(w:Ĩ)
def Ŕ (H:Hp)(h:Heap)(a:Addr):HO->Prop
 | .lst xs=>xs.length<=sizeLine/\∃ (b:Á Value) (n:Nat),Vals xs b/\h.get? a=À { cls:=.type "list",data:=.seq b.toArray n }
 | .tup xs=>xs.length<=sizeLine/\∃ b:Á Value,Vals xs b/\IG h a b.toArray
 | .dK c=>c.length<=sizeLine/\(a == bC)=false/\∃ m,KV c m/\h.DictOf (ů P w) a m
 | .dT c=>c.length<=sizeLine/\(a == bC)=false/\∃ xs:Á (Á Key × Addr × Value),
   Paired (λ(p:Á Key × V) (q:Á Key × Addr × Value)=>p.1=q.1/\H q.2.1=À (.tup (p.1.map kV))/\RelV p.2 q.2.2) c xs/\
   ∃ o j r,h.get? a=À o/\o.ExactDict/\o.data=.dict j r/\j.toList=xs.map (entryOfKey (lE (ů P w)))/\(xs.map (·.1)).Nodup
 | .set S n=>h.SetOf (wY P w) a S n
 | .ins C g e=>H g=À (.own a)/\e.length<=1000/\g≠a/\h.get? a=À (bh C g)/\
   ∃ d,h.Ns1 g d/\(∀ f,lQ (e.lookup f) (d f))/\AI d (e.map (·.1))
 | .own _=>∃ o,h.get? a=À o
 | .xd e=>∃ d,h.Ns1 a d/\∀ f,lQ (e.lookup f) (d f)
 | .SX lo s=>∃ t u v,h.get? a=À { cls:=.type "range",data:=.fields #[.int lo t,.int s u,.int 1 v] }
 | .hV o u=>h.get? a=À o/\Ŕ H h a u
 | .pU y=>h.get? a=À { cls:=.none,data:=.fields y }
 | .met f x=>h.get? a=À (qa (.ref f) (.ref x))
 | .ext i=>i h/\(∃ o,h.get? a=À o)/\∀ k l:Heap,i k->(∀ o,k.get? a=À o->l.get? a=À o)->i l
def lP (H:Hp)(h:Heap):Prop:=∀ a o,H a=À o->Ŕ P w H h a o
end
section
variable {P:Ĉ}{w:Ĩ}{H H':Hp}{h h':Heap}{a:Addr}{o:HO}
theorem Ŕ.lt (x:Ŕ P w H h a o):a < h.objs.size:=by
 cases o with
 | lst xs=>obtain⟨_,_,_,_,e⟩:=x;exact Ó e
 | tup xs=>obtain⟨_,_,_,p⟩:=x;exact p.lt
 | dK b=>obtain⟨_,_,_,_,o,_,_,e,_⟩:=x;exact Ó e
 | dT b=>obtain⟨_,_,_,_,o,_,_,e,_⟩:=x;exact Ó e
 | set S n=>obtain⟨o,_,_,_,e,_⟩:=x;exact Ó e
 | ins C d c=>obtain⟨_,_,_,e,_⟩:=x;exact Ó e
 | own y=>obtain⟨_,e⟩:=x;exact Ó e
 | xd c=>obtain⟨_,⟨_,_,_,e,_⟩,_⟩:=x;exact Ó e
 | SX lo g=>obtain⟨_,_,_,e⟩:=x;exact Ó e
 | hV i u=>obtain⟨e,_⟩:=x;exact Ó e
 | pU j=>exact Ó (show h.get? a=À _ from x)
 | met f y=>exact Ó (show h.get? a=À _ from x)
 | ext k=>obtain⟨_,⟨_,e⟩,_⟩:=x;exact Ó e
theorem Paired.NO:∀ {c:Á α}{d:Á e},Paired F c d->(∀ a b,F a b->G a b)->Paired G c d
 | _,_,.nil,_=>.nil
 | _,_,.cons r t,f=>.cons (f _ _ r) (Paired.NO t f)
def Ŕ.nE (x:Ŕ P w H h a o)(k:∀ b u,(b=a∨H b=À (.own a))->h.get? b=À u->h'.get? b=À u)
  (F:∀ b,H b=À (.own a)->H' b=À (.own a)) (G:∀ b xs,H b=À (.tup xs)->H' b=À (.tup xs)):Ŕ P w H' h' a o:=by
 induction o with
 | lst xs=>obtain⟨z,l,n,r,e⟩:=x;exact⟨z,l,n,r,k _ _ (.inl rfl) e⟩
 | tup xs=>obtain⟨z,l,r,g,e,c⟩:=x;exact⟨z,l,r,g,k _ _ (.inl rfl) e,c⟩
 | dK m=>obtain⟨z,y,L,r,g,j,i,e,c⟩:=x;exact⟨z,y,L,r,g,j,i,k _ _ (.inl rfl) e,c⟩
 | dT m=>
  obtain⟨z,y,xs,r,g,j,i,e,c⟩:=x;exact⟨z,y,xs,Paired.NO r λ p q z=>⟨z.1,G _ _ z.2.1,z.2.2⟩,g,j,i,k _ _ (.inl rfl) e,c⟩
 | set S n=>obtain⟨g,j,i,t,e,c⟩:=x;exact⟨g,j,i,t,k _ _ (.inl rfl) e,c⟩
 | ins C M E=>
  obtain⟨d,z,J,e,s,⟨A,j,i,D,c⟩,r⟩:=x;exact⟨F _ d,z,J,k _ _ (.inl rfl) e,s,⟨A,j,i,k _ _ (.inr d) D,c⟩,r⟩
 | own y=>obtain⟨g,e⟩:=x;exact⟨g,k _ _ (.inl rfl) e⟩
 | xd E=>obtain⟨s,⟨A,j,i,e,c⟩,r⟩:=x;exact⟨s,⟨A,j,i,k _ _ (.inl rfl) e,c⟩,r⟩
 | SX lo N=>obtain⟨t,u,v,e⟩:=x;exact⟨t,u,v,k _ _ (.inl rfl) e⟩
 | hV g u I=>obtain⟨e,q⟩:=x;exact⟨k _ _ (.inl rfl) e,I q⟩
 | pU B=>
  have e:h.get? a=À { cls:=.none,data:=.fields B }:=x;show h'.get? a=À { cls:=.none,data:=.fields B };exact k a _ (.inl rfl) e
 | met f y=>
  have e:h.get? a=À (qa (.ref f) (.ref y)):=x;show h'.get? a=À (qa (.ref f) (.ref y));exact k a _ (.inl rfl) e
 | ext O=>obtain⟨p,⟨o,e⟩,st⟩:=x;exact⟨st _ _ p λ o q=>k _ _ (.inl rfl) q,⟨o,k _ _ (.inl rfl) e⟩,st⟩
theorem lP.lt (x:lP P w H h)(e:H a=À o):a < h.objs.size:=(x a o e).lt
def lP.fresh (x:lP P w H h)(e:h.objs.size<=a):H a=none:=by
 cases q:H a with
 | none=>rfl
 | some u=>exact absurd (é (x.lt q) e) (ŏ _)
def lP.kept (x:lP P w H h)(k:∀ b u,h.get? b=À u->h'.get? b=À u):lP P w H h':=λ a o e=>
 (x a o e).nE (λ b u _ q=>k b u q) (λ _ q=>q) λ _ _ q=>q
def lP.laid (x:lP P w H h)(k:∀ b u,h.get? b=À u->h'.get? b=À u)(i:h.objs.size<=a)(d:Ŕ P w (upd H a o) h' a o):lP P w (upd H a o) h':=λ b u e=>by
 have g:=x.fresh i;by_cases f:b=a
 ·subst f;rw[ù]at e;cases e;exact d
 ·rw[ä f]at e;exact(x b u e).nE (λ c v _ q=>k c v q) (λ c q=>by rw[ä (Ń q g)];exact q) λ c xs q=>by rw[ä (Ń q g)];exact q
end
def Rd (H:Hp)(a:Addr)(u:HO):Prop:=H a=À u∨∃ o,H a=À (.hV o u)
def Rd.ok (r:Rd H a u)(x:lP P w H h):Ŕ P w H h a u:=by
 rcases r with r|⟨o,r⟩
 ·exact x a u r
 ·obtain⟨_,q⟩:=x a _ r;exact q
def P4:Ê HO->Prop
 | some (.lst _)=>True
 | some (.dK _)=>True
 | some (.dT _)=>True
 | some (.set _ _)=>True
 | some (.ins _ _ _)=>True
 | some (.ext _)=>True
 | _=>False
section
variable {P:Ĉ}{w:Ĩ}{H:Hp}{h h':Heap}{x e:Addr}{o':HO}
def lP.write (p:lP P w H h)(i:P4 (H x)) (m:e=x∨H e=À (.own x)) (k:∀ b u,b≠e->h.get? b=À u->h'.get? b=À u)(j:∃ u,h'.get? e=À u)
  (l:Ŕ P w (upd H x o') h' x o'):lP P w (upd H x o') h':=λ b u q=>by
 have d:∀ c y,H c=À (.own y)->c≠x:=λ c y r z=>by subst z;rw[r]at i;exact i
 have f:∀ c xs,H c=À (.tup xs)->c≠x:=λ c xs r z=>by subst z;rw[r]at i;exact i
 by_cases g:b=x
 ·subst g;rw[ù]at q;cases q;exact l
 ·rw[ä g]at q;by_cases a:b=e
  ·have n:H b=À (.own x):=by
    rcases m with z|z
    ·exact absurd (a.trans z) g
    ·rw[a];exact z
   rw[q]at n;cases n;obtain⟨v,o⟩:=j;exact⟨v,by rw[a];exact o⟩
  ·refine(p b u q).nE (λ c v hc r=>k c v ?_ r) (λ c r=>by rw[ä (d c b r)];exact r) λ c xs r=>by rw[ä (f c xs r)];exact r
   rcases hc with rfl|hc
   ·exact a
   ·rintro rfl;rcases m with z|z
    ·exact d c b hc z
    ·rw[hc]at z;cases z;exact g rfl
end
structure Un (fs ex:Á Addr)(H H':Hp)(h h':Heap):Prop where
 keep:∀ b o,h.get? b=À o->H b=none->b∉fs->b∉ex->h'.get? b=À o
 slot:∀ b o,h.get? b=À o->H b=none->b∈fs->b∉ex->∃ sl,h'.get? b=À { o with slots:=sl }
 free:∀ b o,h.get? b=À o->H b=none->b∉ex->H' b=none
 there:∀ b o,h.get? b=À o->b∉ex->∃ o',h'.get? b=À o'
 ky:∀ b xs,H b=À (.tup xs)->H' b=À (.tup xs)
 iU:∀ b o u,H b=À (.hV o u)->H' b=À (.hV o u)
 uT:∀ b ps,H b=À (.pU ps)->∃ more,H' b=À (.pU (ps++more))
section
variable {fs YA ex ex':Á Addr}{H H1 H2:Hp}{h h1 h2 h':Heap}{a x e:Addr}{o:HO}
def Un.any (u:Un fs ex H H1 h h1)(q:h.get? b=À c)(n:H b=none)(f:b∉ex):∃ g,h1.get? b=À { c with slots:=g }:=by
 by_cases d:b∈fs
 ·exact u.slot b c q n d f
 ·exact⟨c.slots,u.keep b c q n d f⟩
def Un.kept (k:∀ b u,h.get? b=À u->h'.get? b=À u):Un fs ex H H h h':=
 ⟨λ b c q _ _ _=>k b c q,λ b c q _ _ _=>⟨c.slots,k b c q⟩,λ _ _ _ n _=>n,λ b c q _=>⟨c,k b c q⟩,λ _ _ q=>q,λ _ _ _ q=>q,λ _ d q=>⟨#[],by rw[q];simp⟩⟩
def Un.refl:Un fs ex H H h h:=Un.kept λ _ _ q=>q
def Un.laid (k:∀ b u,h.get? b=À u->h'.get? b=À u)(hp:h.objs.size<=a)(hn:H a=none):Un fs ex H (upd H a o) h h' where
 keep:=λ b u q _ _ _=>k b u q
 slot:=λ b u q _ _ _=>⟨u.slots,k b u q⟩
 free:=λ b u q n _=>by rw[ä (ê (é (Ó q) hp))];exact n
 there:=λ b u q _=>⟨u,k b u q⟩
 ky:=λ b xs q=>by rw[ä (Ń q hn)];exact q
 iU:=λ b u xs q=>by rw[ä (Ń q hn)];exact q
 uT:=λ b ps q=>⟨#[],by rw[ä (Ń q hn),q];simp⟩
def Un.write (d:P4 (H x)) (l:e=x∨H e=À (.own x)) (k:∀ b u,b≠e->h.get? b=À u->h'.get? b=À u)(f:∃ u,h'.get? e=À u):Un fs ex H (upd H x o) h h':=by
 have j:∀ b,H b=none->b≠x:=λ b n z=>by subst z;rw[n]at d;exact d
 have i:∀ b,H b=none->b≠e:=λ b n z=>by
  subst z;rcases l with r|r
  ·exact j b n r
  ·rw[n]at r;cases r
 have g:∀ b u,H b=À u->¬ P4 (À u)->b≠x:=λ b u q m z=>by subst z;rw[q]at d;exact m d
 refine⟨λ b u q n _ _=>k b u (i b n) q,λ b u q n _ _=>⟨u.slots,k b u (i b n) q⟩,λ b u q n _=>by rw[ä (j b n)];exact n,λ b u q _=>?_,
  λ b xs q=>by rw[ä (g b _ q λ z=>z)];exact q,λ b u xs q=>by rw[ä (g b _ q λ z=>z)];exact q,λ b p q=>⟨#[],by rw[ä (g b _ q λ z=>z),q];simp⟩⟩
 by_cases c:b=e
 ·subst c;exact f
 ·exact⟨u,k b u c q⟩
end
def Jf (h:Heap)(H:Hp):Á Addr:=(Ą h.objs.size).filter λ a=>(H a).isSome
def xG (h:Heap)(H:Hp):Heap:=PySem.W.hideAll h (Jf h H)
def DM (h:Heap)(H:Hp):(xG h H).objs.size=h.objs.size:=PySem.W.hideAll_size _ _
def F8 (e:h.get? b=À o)(n:H b=none):(xG h H).get? b=À o:=
 PySem.W.hideAll_get _ e λ a=>by
  have q:(H b).isSome=true:=(ng.mp a).2;rw[n]at q;simp at q
def KL (e:(xG h H).get? b=À o):h.get? b=À o/\H b=none:=by
 have a:h.get? b=À o:=PySem.W.of_hideAll (Jf h H) e;refine⟨a,?_⟩;cases q:H b with
 | none=>rfl
 | some x=>
  have c:b∈Jf h H:=ng.mpr ⟨jY.mpr (Ó a),by simp[q]⟩;have z:(xG h H).get? b=none:=PySem.W.hideAll_none (Jf h H) c;rw[z]at e;cases e
def sI (g h:Heap)(L:Addr):Á (Addr × Obj):=(Ą h.objs.size).filterMap λ a=>if a=L∨(g.get? a).isSome=true then none else (h.get? a).map λ o=>(a,o)
def zO (c:a≠L)(d:g.get? a=none)(b:h.get? a=À o):(a,o)∈sI g h L:=
 jX.mpr ⟨a,jY.mpr (Ó b),by simp[c,d,b]⟩
def uq (c:p∈sI g h L):p.1≠L/\g.get? p.1=none/\h.get? p.1=À p.2:=by
 obtain⟨b,_,e⟩:=jX.mp c;split at e
 ·cases e
 ·rename_i a;cases q:h.get? b with
  | none=>rw[q]at e;simp at e
  | some u=>
   rw[q]at e;simp only[ck,X_]at e;subst e;refine⟨λ z=>a (.inl z),?_,q⟩;show g.get? b=none;cases r:g.get? b with
   | none=>rfl
   | some v=>exact(a (.inr (by simp[r]))).elim
def G1:News g L h (sI g h L):=λ p d=>let ⟨a,b,c⟩:=uq d;⟨c,a,b⟩
structure Mod (K:É)(mg:Str->Ê Value)(base:Heap):Prop where
 RQ:K.In base
 glob:base.Ns mainGlobals mg
 blt:∃ mb,base.Ns lN mb/\∀ x:Str,x≠"__name__"->mb x=Ĭ x
 nolimit:base.NoLimit
 G7:base.NoDigits
 bmain:∃ bm ob,mg "__builtins__"=À (.ref bm)/\bm≠lN/\base.get? bm=À ob/\ob.cls=.type "module"/\ob.dict=À lN/\ob.data=.plain
structure Cx where
 prog:Ĉ
 w:Ĩ
 K:É
 mg:Str->Ê Value
 base:Heap
 A:į
 N:Á Str
 jm:Ò
 vt:Hp
 env:yJ
 outer:Á yJ
 stack:Á yJ
 ex:Á Addr
 fn:Str->Bool
 calm:Bool
 pn:Á (Addr × Obj)
 xe:Value->Ò->Prop
def yG (l:Á yJ):Á Addr:=l.filterMap (·.frame)
abbrev Cx.fs (X:Cx):Á Addr:=yG X.outer
def U2 (a:Scope)(x:Str):Prop:=a.names.lookup x=À .local∨a.names.lookup x=À .cell∨a.names.lookup x=À .free
def Loc (a:Scope)(x:Str):Prop:=a.names.lookup x=À .local∨a.names.lookup x=À .cell
def Look (env:yJ)(h:Heap)(m:Str->Ê Value)(x:Str)(u:Value):Prop:=
 (env.kindOf x=À .local/\m x=À u)∨((env.kindOf x=À .cell∨env.kindOf x=À .free)/\∃ c,env.cells.lookup x=À c/\h.IsCell c (À u))
structure Cx.Ok (X:Cx):Prop where
 mod:Mod X.K X.mg X.base
 kind:X.env.scope.kind=.function
 glob:X.env.globals=mainGlobals
 blt:X.env.builtins=lN
 above:X.jm.heap.objs.size<=X.env.locals
 inj:∀ x y c,X.env.cells.lookup x=À c->X.env.cells.lookup y=À c->x=y
 has:∀ x,(X.env.kindOf x=À .cell∨X.env.kindOf x=À .free)->∃ c,X.env.cells.lookup x=À c
 L_:∀ x c,X.fn x=true->X.env.cells.lookup x=À c->X.jm.heap.objs.size<=c
 hd:X.calm=true->X.A.handled=none
 frames:X.A.frames=À X.stack
 Pp:X.stack=X.outer∨(X.stack=X.env :: X.outer/\X.env.frame=À X.env.locals)
 Rr:∀ b∈X.ex,b≠X.env.locals/\∀ x c,X.env.cells.lookup x=À c->c≠b
 bs:∀ b o,X.base.get? b=À o->X.jm.heap.get? b=À o/\X.vt b=none
 Du:X.base.objs.size<=X.jm.heap.objs.size
 zR:∀ b o,X.base.get? b=À o->b∉X.ex
 zv:∀ b∈X.ex,b∉X.fs
 n8:X.jm.heap.FunFrames X.base X.outer
 Jc:∀ b∈X.fs,X.vt b=none
structure Inv (X:Cx)(õ:Á (Addr × Obj)) (σ:Á (Ê V)) (H:Hp)(s:Ò):Prop where
 ok:X.Ok
 os:s.os=X.jm.os
 bare:mH s.gens
 base:Un X.fs X.ex X.vt H X.jm.heap s.heap
 loc:∃ m,s.heap.Ns X.env.locals m/\∀ (i:Nat) (x:Str) (v:V),X.N[i]? = À x->σ[i]? = À (À v)->U2 X.env.scope x->∃ u,RelV v u/\Look X.env s.heap m x u
 cell:∀ x c,X.env.cells.lookup x=À c->∃ v,s.heap.IsCell c v
 free:H X.env.locals=none
 iS:∀ x c,X.env.cells.lookup x=À c->H c=none
 pin:∀ p∈X.pn++õ,s.heap.get? p.1=À p.2/\H p.1=none/\p.1≠X.env.locals/\p.1∉X.fs/\∀ v,p.2.data≠.cell v
 ś:lP X.prog X.w H s.heap
 len:σ.length=X.N.length
section
variable {X:Cx}{õ:Á (Addr × Obj)}{σ:Á (Ê V)}{H H':Hp}{s:Ò}{h':Heap}
def Cx.Ok.VB (c:X.Ok)(e:X.base.get? b=À o):b∉X.fs:=λ a=>by
 have:=(c.n8.mem a).1;rw[e]at this;cases this
theorem Inv.bs (I:Inv X õ σ H s):∀ b o,X.base.get? b=À o->s.heap.get? b=À o/\H b=none:=λ b o e=>
 ⟨I.base.keep b o (I.ok.bs b o e).1 (I.ok.bs b o e).2 (I.ok.VB e) (I.ok.zR b o e),I.base.free b o (I.ok.bs b o e).1 (I.ok.bs b o e).2 (I.ok.zR b o e)⟩
def Inv.bk (I:Inv X õ σ H s):∀ b o,X.base.get? b=À o->s.heap.get? b=À o:=λ b o e=>(I.bs b o e).1
theorem Inv.mod (I:Inv X õ σ H s):Mod X.K X.mg X.base:=I.ok.mod
def Inv.ll (I:Inv X õ σ H s):X.K.In s.heap:=I.ok.mod.RQ.keeps I.bk
theorem Inv.nolimit (I:Inv X õ σ H s):s.heap.NoLimit:=I.ok.mod.nolimit.keeps I.bk
def Inv.fr (I:Inv X õ σ H s):∃ m,Fr X.base X.env.locals s.heap m:=
 let ⟨m,a,_⟩:=I.loc
 ⟨m,a,I.bk,Đ I.ok.Du I.ok.above⟩
theorem Inv.lt (I:Inv X õ σ H s):X.env.locals < s.heap.objs.size:=let ⟨_,a,_⟩:=I.loc;a.lt
def Inv.sz (I:Inv X õ σ H s):X.jm.heap.objs.size<=s.heap.objs.size:=Đ I.ok.above (ė I.lt)
def Inv.VC (I:Inv X õ σ H s)(h:s.heap.objs.size<=a):a∉X.fs:=λ b=>by
 obtain⟨_,o,c,_⟩:=I.ok.n8.mem b;exact absurd (é (Ó c) (Đ I.sz h)) (ŏ _)
def Inv.T9 (I:Inv X õ σ H s):∀ x c,X.env.cells.lookup x=À c->c≠X.env.locals:=λ x c e z=>by
 obtain⟨v,o,d,hd⟩:=I.cell x c e;obtain⟨m,⟨h,g,f,b,a,_⟩,_⟩:=I.loc;rw[z,b]at d;cases d;rw[a]at hd;cases hd
theorem Inv.n8 (I:Inv X õ σ H s):s.heap.FunFrames X.base X.outer:=by
 have all:∀ (l:Á yJ),(∀ b∈yG l,b∈X.fs)->X.jm.heap.FunFrames X.base l->s.heap.FunFrames X.base l:=by
  intro l;induction l with
  | nil=>intro _ _;trivial
  | cons g r k=>
   intro f hl;obtain⟨h,⟨L,o,d,i,j,hd⟩,hr⟩:=hl;have a:L∈X.fs:=f L (by unfold yG;rw[pQ,d];exact Ļ);obtain⟨m,e⟩:=I.base.slot L o j (I.ok.Jc L a) a λ z=>I.ok.zv L z a;exact⟨h,⟨L,_,d,i,e,hd⟩,k (λ b c=>f b (by unfold yG;rw[pQ,d];exact þ _ c)) hr⟩
 exact all X.outer (λ _ c=>c) I.ok.n8
theorem Inv.stack (I:Inv X õ σ H s):s.heap.FunFrames X.base X.stack:=by
 rcases I.ok.Pp with e|⟨e,a⟩
 ·rw[e];exact I.n8
 ·rw[e];obtain⟨m,b,_⟩:=I.loc;refine .cons (by rw[I.ok.kind];decide) a b ?_ I.n8;exact Heap.get?_none_of_le (Đ I.ok.Du I.ok.above)
def Inv.BF (I:Inv X õ σ H s):∀ b∈yG X.stack,b∈X.env.locals :: X.fs:=λ b a=>by
 rcases I.ok.Pp with e|⟨e,c⟩
 ·rw[e]at a;exact þ _ a
 ·rw[e]at a;unfold yG at a;rw[pQ,c]at a;exact a
def Inv.sR (I:Inv X õ σ H s):∀ b∈yG X.stack,H b=none:=λ b hb=>by
 rcases Þ.mp (I.BF b hb) with e|hb
 ·rw[e];exact I.free
 ·obtain⟨_,o,a,_⟩:=I.ok.n8.mem hb;exact I.base.free b o a (I.ok.Jc b hb) λ z=>I.ok.zv b z hb
def Inv.step {g':Ă GenState}{t':Nat}{d':Drawn}{ch:Á Addr}(I:Inv X õ σ H s)
  (h:∀ b∈ch,(b∈X.ex∨X.jm.heap.objs.size<=b)/\b≠X.env.locals/\(∀ x c,X.env.cells.lookup x=À c->c≠b)/\∀ p∈X.pn++õ,p.1≠b)
  (j:∀ b o,b≠X.env.locals->b∉X.fs->b∉ch->s.heap.get? b=À o->H b=none->h'.get? b=À o)
  (B:∀ b o,b≠X.env.locals->b∈X.fs->b∉ch->s.heap.get? b=À o->H b=none->∃ O,h'.get? b=À { o with slots:=O }) (f:∀ b o,b∉ch->s.heap.get? b=À o->H b=none->H' b=none)
  (D:∀ b o,b∉ch->s.heap.get? b=À o->∃ o',h'.get? b=À o')
  (M:∀ b xs,H b=À (.tup xs)->H' b=À (.tup xs)) (G:∀ b o u,H b=À (.hV o u)->H' b=À (.hV o u)) (L:∀ b ps,H b=À (.pU ps)->∃ more,H' b=À (.pU (ps++more)))
  (ns:∀ m,s.heap.Ns X.env.locals m->h'.Ns X.env.locals m) (N:lP X.prog X.w H' h') (hg:mH g') :
  Inv X õ σ H' { s with heap:=h',gens:=g',drawn:=d',toks:=t' }:=by
 have J:∀ b o,X.jm.heap.get? b=À o->b≠X.env.locals:=λ b o e=>ê (é (Ó e) I.ok.above);have A:∀ b o,X.jm.heap.get? b=À o->b∉X.ex->b∉ch:=λ b o e a C=>by
  rcases(h b C).1 with z|z
  ·exact a z
  ·exact absurd (é (Ó e) z) (ŏ _)
 have g:∀ x c,X.env.cells.lookup x=À c->∀ v,s.heap.IsCell c v->h'.IsCell c v:=λ x c e v ⟨o,E,hd⟩=>by
  have t:c∉ch:=λ z=>(h c z).2.2.1 x c e rfl;by_cases Q:c∈X.fs
  ·obtain⟨O,q⟩:=B c o (I.T9 x c e) Q t E (I.iS x c e);exact⟨_,q,hd⟩
  ·exact⟨o,j c o (I.T9 x c e) Q t E (I.iS x c e),hd⟩
 refine⟨I.ok,I.os,hg,⟨λ b o e n C a=>?_,λ b o e n C a=>?_,λ b o e n a=>?_,λ b o e a=>?_,λ b xs e=>M b xs (I.base.ky b xs e),λ b o xs e=>G b o xs (I.base.iU b o xs e),λ b ps e=>?_⟩,?_,λ x c e=>?_,?_,λ x c e=>?_,λ p T=>?_,N,I.len⟩
 ·exact j b o (J b o e) C (A b o e a) (I.base.keep b o e n C a) (I.base.free b o e n a)
 ·obtain⟨O,y⟩:=I.base.slot b o e n C a;obtain⟨P,F⟩:=B b _ (J b o e) C (A b o e a) y (I.base.free b o e n a);exact⟨P,F⟩
 ·obtain⟨o',y⟩:=I.base.there b o e a;exact f b o' (A b o e a) y (I.base.free b o e n a)
 ·obtain⟨o',y⟩:=I.base.there b o e a;exact D b o' (A b o e a) y
 ·obtain⟨m1,y⟩:=I.base.uT b ps e;obtain⟨m2,F⟩:=L b _ y;exact⟨m1++m2,by rw[F,Array.append_assoc]⟩
 ·obtain⟨m,hn,hl⟩:=I.loc;refine⟨m,ns m hn,λ i x v y F Z=>?_⟩;obtain⟨u,r,l⟩:=hl i x v y F Z;refine⟨u,r,?_⟩;rcases l with l|⟨k,c,e,z⟩
  ·exact .inl l
  ·exact .inr ⟨k,c,e,g x c e _ z⟩
 ·obtain⟨v,z⟩:=I.cell x c e;exact⟨v,g x c e v z⟩
 ·obtain⟨m,⟨o,_,_,E,_⟩,_⟩:=I.loc;exact f _ o (λ z=>(h _ z).2.1 rfl) E I.free
 ·obtain⟨v,o,E,hd⟩:=I.cell x c e;exact f c o (λ z=>(h c z).2.2.1 x c e rfl) E (I.iS x c e)
 ·obtain⟨e,n,U,Y,d⟩:=I.pin p T;have t:p.1∉ch:=λ z=>(h p.1 z).2.2.2 p T rfl;exact⟨j p.1 p.2 U Y t e n,f p.1 p.2 t e n,U,Y,d⟩
def Inv.un {t':Nat}(I:Inv X õ σ H s)(u:Un X.fs [] H H' s.heap h')(g:lP X.prog X.w H' h'):Inv X õ σ H' { s with heap:=h',toks:=t' }:=by
 obtain⟨m,⟨o,p,l,h,r⟩,_⟩:=id I.loc;obtain⟨v,i⟩:=u.any h I.free (by simp);exact I.step (g':=s.gens) (d':=s.drawn) (ch:=[]) (λ _ z=>nomatch z) (λ b o _ f _ e n=>u.keep b o e n f (by simp)) (λ b o _ f _ e n=>u.slot b o e n f (by simp)) (λ b o _ e n=>u.free b o e n (by simp)) (λ b o _ e=>u.there b o e (by simp)) u.ky u.iU u.uT (λ q j=>by
  obtain⟨t,d,c,a,k⟩:=j;rw[h]at a;cases a;exact⟨_,d,c,i,k⟩) g I.bare
def Inv.call {g':Ă GenState}{t':Nat}{d':Drawn}{ch:Á Addr}(I:Inv X õ σ H s)(u:Un (yG X.stack) ch H H' s.heap h') (j:lP X.prog X.w H' h')(q:mH g')
  (d:∀ b∈ch,(b∈X.ex∨X.jm.heap.objs.size<=b)/\b≠X.env.locals/\(∀ x c,X.env.cells.lookup x=À c->c≠b)/\∀ p∈X.pn++õ,p.1≠b) :
  Inv X õ σ H' { s with heap:=h',gens:=g',drawn:=d',toks:=t' }:=by
 obtain⟨m,⟨o,A,y,k,r⟩,_⟩:=id I.loc;obtain⟨D,i⟩:=u.any k I.free λ z=>(d _ z).2.1 rfl;exact I.step (ch:=ch) d (λ b o i l a e n=>u.keep b o e n (λ z=>(Þ.mp (I.BF b z)).elim i l) a) (λ b o _ _ a e n=>u.any e n a) (λ b o a e n=>u.free b o e n a) (λ b o a e=>u.there b o e a) u.ky u.iU u.uT (λ B t=>by
  obtain⟨C,h,g,f,v⟩:=t;rw[k]at f;cases f;exact⟨_,h,g,i,v⟩) j q
def Inv.turned {t':Nat}{a:Addr}(I:Inv X õ σ H s)(k:∀ b o,b≠a->s.heap.get? b=À o->h'.get? b=À o)(A:H a=none)(g:a≠X.env.locals)
  (j:a∈X.ex∨X.jm.heap.objs.size<=a) (l:∀ x c,X.env.cells.lookup x=À c->c≠a) (t:∀ p∈X.pn++õ,p.1≠a):Inv X õ σ H { s with heap:=h',toks:=t' }:=by
 have f:∀ b u,H b=À u->b≠a:=λ b u e z=>by rw[z,A]at e;cases e
 refine I.step (g':=s.gens) (d':=s.drawn) (ch:=[a]) (λ b w=>?_) (λ b o _ _ d e _=>k b o (λ z=>d (by simp[z])) e) (λ b o _ _ d e _=>⟨o.slots,k b o (λ z=>d (by simp[z])) e⟩) (λ _ _ _ _ n=>n)
  (λ b o d e=>⟨o,k b o (λ z=>d (by simp[z])) e⟩) (λ _ _ e=>e) (λ _ _ _ e=>e) (λ b C e=>⟨#[],by rw[e];simp⟩) (λ m y=>?_) (λ b u e=>?_) I.bare
 ·have e:b=a:=by simpa using w
  subst e;exact⟨j,g,l,t⟩
 ·obtain⟨o,i,h,B,r⟩:=y;exact⟨o,i,h,k _ o (Ŋ g) B,r⟩
 ·refine(I.ś b u e).nE (λ c v d q=>k c v ?_ q) (λ _ q=>q) λ _ _ q=>q;rcases d with z|z
  ·rw[z];exact f b u e
  ·exact f c _ z
def Inv.tok (I:Inv X õ σ H s)(t:Nat):Inv X õ σ H { s with toks:=t }:=I.un (h':=s.heap) (t':=t) Un.refl I.ś
theorem Inv.kept (I:Inv X õ σ H s)(k:∀ b u,s.heap.get? b=À u->h'.get? b=À u):Inv X õ σ H { s with heap:=h',toks:=t' }:=I.un (Un.kept k) (I.ś.kept k)
theorem Inv.laid (I:Inv X õ σ H s)(k:∀ b u,s.heap.get? b=À u->h'.get? b=À u)(c:s.heap.objs.size<=a)(d:Ŕ X.prog X.w (upd H a o) h' a o) :
  Inv X õ σ (upd H a o) { s with heap:=h',toks:=t' }:=I.un (Un.laid k c (I.ś.fresh c)) (I.ś.laid k c d)
theorem Inv.write (I:Inv X õ σ H s)(f:P4 (H x)) (d:e=x∨H e=À (.own x)) (k:∀ b u,b≠e->s.heap.get? b=À u->h'.get? b=À u)(a:∃ u,h'.get? e=À u)
  (c:Ŕ X.prog X.w (upd H x o) h' x o):Inv X õ σ (upd H x o) { s with heap:=h',toks:=t' }:=I.un (Un.write f d k a) (I.ś.write f d k a c)
def Inv.CM (I:Inv X õ σ H s)(h:∀ p∈a,s.heap.get? p.1=À p.2/\H p.1=none/\p.1≠X.env.locals/\p.1∉X.fs/\∀ v,p.2.data≠.cell v):Inv X a σ H s:=
 ⟨I.ok,I.os,I.bare,I.base,I.loc,I.cell,I.free,I.iS,λ p b=>(cG.mp b).elim (λ z=>I.pin p (iC _ z)) (h p),I.ś,I.len⟩
def um {N:Á Str}(e:N.Nodup){i j:Nat}{x:Str}(a:N[i]? = À x)(b:N[j]? = À x):i=j:=by
 obtain⟨f,c⟩:=Ç.mp a;obtain⟨g,d⟩:=Ç.mp b;exact(aX e).mp (c.trans d.symm)
def wF {M:Model}{A:į}{E:Value->Ò->Prop}{i:Nat}{x:Str}{v:V}{u:Value}{Q:Unit->Ò->Prop}(I:Inv X õ σ H s)(hN:X.N.Nodup)(U:X.N[i]? = À x)(t:Loc X.env.scope x)(r:RelV v u)
  (h:∀ s',Inv X õ (σ.set i (À v)) H s'->(∃ a,dR a s.heap s'.heap/\(a=X.env.locals∨X.env.cells.lookup x=À a))->Q () s') (hf:X.fn x=true∨X.env.scope.names.lookup x=À .local:=by first|exact .inl rfl|exact .inr rfl|assumption):Ú M A (storeName X.env x u) Q E s:=by
 obtain⟨m,hn,hl⟩:=id I.loc;have T:(X.env.scope.kind == .class || (X.env.scope.kind == .module && X.env.locals != X.env.globals))=false:=by rw[I.ok.kind];rfl
 have D:i < σ.length:=by rw[I.len];exact(Ç.mp U).1
 have F:=I.T9;have l:∀ {a:Addr}{h':Heap},(∃ o,s.heap.get? a=À o/\H a=none)->dR a s.heap h'->lP X.prog X.w H h':=λ {a h'} ha f b ob e=>by
  obtain⟨_,_,B⟩:=ha;refine(I.ś b ob e).nE (λ c w' hc q=>(f.2 c ?_).trans q) (λ _ q=>q) λ _ _ q=>q;rintro rfl;rcases hc with rfl|hc
  ·rw[B]at e;cases e
  ·rw[B]at hc;cases hc
 rcases t with hk|hk
 ·refine wpAny_storeName_local hk hn (λ h' Y1 f=>?_) T;obtain⟨oL,_,_,hoL,_⟩:=id hn;refine h _ ⟨I.ok,I.os,I.bare,⟨λ b o e n G t=>?_,λ b o e n G t=>?_,I.base.free,λ b o e t=>?_,I.base.ky,I.base.iU,I.base.uT⟩,⟨_,Y1,λ j y v' g C e3=>?_⟩,λ y c e=>?_,I.free,I.iS,λ p hp=>?_,l ⟨oL,hoL,I.free⟩ f,by simpa using I.len⟩ ⟨_,f,.inl rfl⟩
  ·exact(f.2 b (ê (é (Ó e) I.ok.above))).trans (I.base.keep b o e n G t)
  ·obtain⟨sl,g⟩:=I.base.slot b o e n G t;exact⟨sl,(f.2 b (ê (é (Ó e) I.ok.above))).trans g⟩
  ·obtain⟨o',g⟩:=I.base.there b o e t;exact⟨o',(f.2 b (ê (é (Ó e) I.ok.above))).trans g⟩
  ·by_cases L:j=i
   ·subst L;rw[U]at g;cases g;rw[Č D]at C;cases C;exact⟨u,r,.inl ⟨hk,by simp⟩⟩
   ·rw[í (Ŋ L)]at C;obtain⟨u',r',q⟩:=hl j y v' g C e3;refine⟨u',r',?_⟩;rcases q with⟨k,e⟩|⟨k,c,e,z⟩
    ·refine .inl ⟨k,?_⟩;have:y≠x:=λ e=>L (um hN g (e ▸ U));simp[this,e]
    ·exact .inr ⟨k,c,e,z.sameBut f (F y c e)⟩
  ·obtain⟨w',z⟩:=I.cell y c e;exact⟨w',z.sameBut f (F y c e)⟩
  ·obtain⟨e,n,ne,nf,d⟩:=I.pin p hp;exact⟨(f.2 p.1 ne).trans e,n,ne,nf,d⟩
 ·have J:X.fn x=true:=by
   rcases hf with z|z
   ·exact z
   ·rw[z]at hk;cases hk
  obtain⟨c,hc⟩:=I.ok.has x (.inl hk);obtain⟨w',z⟩:=I.cell x c hc;refine wpAny_storeName_cell I.ok.kind hk hc z (λ h' O f=>?_);obtain⟨oc,Y,Z⟩:=id z;refine h { s with heap:=h' } ⟨I.ok,I.os,I.bare,⟨λ b o e n G t=>?_,λ b o e n G t=>?_,I.base.free,λ b o e t=>?_,I.base.ky,I.base.iU,I.base.uT⟩,⟨m,hn.sameBut f (Ŋ (F x c hc)),λ j y v' g C e3=>?_⟩,λ y c' e=>?_,I.free,I.iS,λ p hp=>?_,l ⟨oc,Y,I.iS x c hc⟩ f,by simpa using I.len⟩ ⟨c,f,.inr hc⟩
  ·exact(f.2 b (ê (é (Ó e) (I.ok.L_ x c J hc)))).trans (I.base.keep b o e n G t)
  ·obtain⟨sl,g⟩:=I.base.slot b o e n G t;exact⟨sl,(f.2 b (ê (é (Ó e) (I.ok.L_ x c J hc)))).trans g⟩
  ·obtain⟨o',g⟩:=I.base.there b o e t;exact⟨o',(f.2 b (ê (é (Ó e) (I.ok.L_ x c J hc)))).trans g⟩
  ·by_cases L:j=i
   ·subst L;rw[U]at g;cases g;rw[Č D]at C;cases C;exact⟨u,r,.inr ⟨.inl hk,c,hc,O⟩⟩
   ·rw[í (Ŋ L)]at C;obtain⟨u',r',q⟩:=hl j y v' g C e3;refine⟨u',r',?_⟩;rcases q with q|⟨k,c',e,z'⟩
    ·exact .inl q
    ·refine .inr ⟨k,c',e,z'.sameBut f ?_⟩;rintro rfl;exact L (um hN g (I.ok.inj _ _ _ e hc ▸ U))
  ·by_cases P:c'=c
   ·subst P;exact⟨_,O⟩
   ·obtain⟨w2,z2⟩:=I.cell y c' e;exact⟨w2,z2.sameBut f P⟩
  ·obtain⟨e,n,ne,nf,d⟩:=I.pin p hp;refine⟨(f.2 p.1 ?_).trans e,n,ne,nf,d⟩;intro q;rw[q,Y]at e;have q':oc=p.2:=æ e;exact d w' (by rw[<-q'];exact Z)
def gw (I:Inv X õ σ H s)(a:X.N.Nodup)(c:X.N[i]? = À x)(d:Loc X.env.scope x)(r:RelV v u)
  (h:∀ s',Inv X õ (σ.set i (À v)) H s'->Q () s') (b:X.fn x=true∨X.env.scope.names.lookup x=À .local:=by first|exact .inl rfl|exact .inr rfl|assumption):Ú M A (storeName X.env x u) Q E s:=
 wF I a c d r (λ s' B _=>h s' B) b
def Inv.QD (I:Inv X õ σ H s)(g:s'.os=s.os)(u:Un (yG X.stack) ch H H' s.heap s'.heap) (d:lP X.prog X.w H' s'.heap)(f:mH s'.gens)
  (a:∀ b∈ch,(b∈X.ex∨X.jm.heap.objs.size<=b)/\b≠X.env.locals/\(∀ x c,X.env.cells.lookup x=À c->c≠b)/\∀ p∈X.pn++õ,p.1≠b):Inv X õ σ H' s':=by
 obtain⟨h',g',d',t',h⟩:=s';have e:h=s.os:=g;subst e;exact I.call (g':=g') (t':=t') (d':=d') u d f a
end
abbrev XK:=Value->Ê Addr->Hp->Prop
abbrev St:=Á (Ê V)
abbrev VK:=V->Hp->Prop
abbrev TE:=St->Hp->VK->Prop
abbrev TT:=St->Hp->(Bool->Hp->Prop)->Prop
abbrev TA:=St->Hp->(Á V->Hp->Prop)->Prop
structure Ends where
 nx:St->Hp->Prop
 rt:VK
 bk:St->Hp->Prop:=λ _ _=>False
 ct:St->Hp->Prop:=λ _ _=>False
abbrev TS:=Ends->St->Hp->Prop
def EP (X:Cx)(a:Á (Addr × Obj)) (b:St)(Q:VK)(u:Value)(s':Ò):Prop:=∃ v A,Inv X a b A s'/\RelV v u/\Q v A
def TP (X:Cx)(a:Á (Addr × Obj)) (c:St)(Q:Bool->Hp->Prop)(b:Bool)(s':Ò):Prop:=∃ A,Inv X a c A s'/\Q b A
def AP (X:Cx)(a:Á (Addr × Obj)) (c:St)(Q:Á V->Hp->Prop)(us:Á Value)(s':Ò):Prop:=∃ b A,Inv X a c A s'/\Vals b us/\Q b A
def SP (X:Cx)(b:Á (Addr × Obj)) (D:Ends)(f:Flow)(s':Ò):Prop:=
 match f with
 | .next=>∃ a A,Inv X b a A s'/\D.nx a A
 | .brk=>∃ a A,Inv X b a A s'/\D.bk a A
 | .cont=>∃ a A,Inv X b a A s'/\D.ct a A
 | .ret u=>∃ v a A,Inv X b a A s'/\RelV v u/\D.rt v A
def PE (X:Cx)(e:Expr)(t:TE):Prop:=
 ∀ (a:Á (Addr × Obj)) (s:Ò) (b:St) (H:Hp) (Q:VK),Inv X a b H s->t b H Q->Ú (à X.prog X.w) X.A (Ē e X.env) (EP X a b Q) X.xe s
def PT (X:Cx)(e:Expr)(t:TT):Prop:=
 ∀ (a:Á (Addr × Obj)) (s:Ò) (b:St) (H:Hp) (Q:Bool->Hp->Prop),Inv X a b H s->t b H Q->Ú (à X.prog X.w) X.A (Dl e X.env (Ē e X.env)) (TP X a b Q) X.xe s
def PW (X:Cx)(e:Expr)(t:TT):Prop:=
 ∀ (b:W7 Value) (a:Á (Addr × Obj)) (s:Ò) (c:St) (H:Hp) (Q:Bool->Hp->Prop),Inv X a c H s->t c H Q->Ú (à X.prog X.w) X.A (Dl e X.env b) (TP X a c Q) X.xe s
def PW.pt (h:PW X e t):PT X e t:=h _
def PA (X:Cx)(c:Á Expr)(t:TA):Prop:=
 ∀ (pos:kK) (a:Á (Addr × Obj)) (s:Ò) (b:St) (H:Hp) (Q:Á V->Hp->Prop),Inv X a b H s->t b H Q->Ú (à X.prog X.w) X.A (spliced (Ĝ pos (Í c X.env))) (AP X a b Q) X.xe s
def PS (X:Cx)(st:Stmt)(t:TS):Prop:=
 ∀ (a:Á (Addr × Obj)) (s:Ò) (b:St) (H:Hp) (D:Ends),Inv X a b H s->t D b H->Ú (à X.prog X.w) X.A (exec st X.env) (SP X a D) X.xe s
def l5 (X:Cx)(st:Á Stmt)(t:TS):Prop:=
 ∀ (a:Á (Addr × Obj)) (s:Ò) (b:St) (H:Hp) (D:Ends),Inv X a b H s->t D b H->Ú (à X.prog X.w) X.A (execs st X.env) (SP X a D) X.xe s
def iF {α g:Type}{a b c:α->g->Prop}{P:Prop}(h:∃ x y,a x y/\b x y/\c x y)(k:∀ x y,a x y->b x y->c x y->P):P:=by
 obtain⟨x,y,d,e,f⟩:=h;exact k x y d e f
def Ź (h:Ú M A t Q E s)(b:∀ a s,Q a s->B a s):Ú M A t B E s:=ae h b λ _ _ x=>x
section
variable {X:Cx}
def PB (i:Nat):TE:=λ a H Q=>∃ v,a[i]? = À (À v)/\Q v H
def tC (v:V):TE:=λ _ H Q=>Q v H
def OS (j:X.N[i]? = À x)(o:U2 X.env.scope x)(hd:(x == ("__debug__":Str))=false:=by decide) (f:(x == ("__classdict__":Str))=false:=by decide):PE X (.Name x pos) (PB i):=by
 intro d s p H Q I h;obtain⟨v,e,h⟩:=h;obtain⟨m,n,hl⟩:=I.loc;obtain⟨u,r,l⟩:=hl i x v j e o;have b:EP X d p Q u s:=⟨v,H,I,r,h⟩
 rcases l with⟨hk,k⟩|⟨hk,c,g,a⟩
 ·exact Dp (MT I.ok.kind hk n k b) hd
 ·rcases hk with hk|hk
  ·exact Dp (wpAny_loadName_cell I.ok.kind hk g a b) hd
  ·exact Dp (wpAny_loadName_free I.ok.kind hk g a b f) hd
def OM:PE X (.Constant (.int i) j pos) (tC (.int i)):=λ _ _ _ H _ I h=>Qp ⟨.int i,H,I.tok _,⟨_,rfl⟩,h⟩
def SF:PE X (.Constant (.bool b) j pos) (tC (.bl b)):=λ _ _ _ H _ I h=>Constant_bool ⟨.bl b,H,I,rfl,h⟩
def OO:PE X (.Constant .none j pos) (tC .Ę):=λ _ _ _ H _ I h=>Constant_none ⟨.Ę,H,I,rfl,h⟩
def OQ:PE X (.Constant (.str x) j pos) (tC (.str x)):=λ _ _ _ H _ I h=>Calls.Constant_str ⟨.str x,H,I.tok _,⟨_,rfl⟩,h⟩
def Gl (X:Cx)(x:Str):Prop:=X.env.kindOf x=À .globalImplicit
def mX (I:Inv X a d H s)(b:Gl X x)(c:X.mg x=À u)(h:Q u s)
  (hd:(x == ("__debug__":Str))=false:=by decide):Ú (à X.prog X.w) X.A (Ē (.Name x pos) X.env) Q E s:=
 wK I.ok.kind b (Calls.loadGlobal_global (by rw[I.ok.glob];exact I.mod.glob.keeps I.bk) c h) hd
def oi (I:Inv X a j H s)(d:Gl X x)(e:X.mg x=none)(g:Ĭ x=À u)(h:Q u s)
  (f:x≠"__name__":=by decide) (hd:(x == ("__debug__":Str))=false:=by decide):Ú (à X.prog X.w) X.A (Ē (.Name x pos) X.env) Q E s:=by
 obtain⟨i,b,c⟩:=I.mod.blt;exact wK I.ok.kind d (Calls.loadGlobal_builtin (by rw[I.ok.glob];exact I.mod.glob.keeps I.bk) e (by rw[I.ok.blt];exact b.keeps I.bk) ((c x f).trans g) h) hd
def ya (a:Gl X x)(b:X.mg x=À u)(r:RelV v u)(hd:(x == ("__debug__":Str))=false:=by decide):PE X (.Name x pos) (tC v):=
 λ _ _ _ H _ I h=>mX I a b ⟨v,H,I,r,h⟩ hd
def CK (a:Gl X x)(b:X.mg x=none)(d:Ĭ x=À u)(r:RelV v u)(c:x≠"__name__":=by decide)(hd:(x == ("__debug__":Str))=false:=by decide):PE X (.Name x pos) (tC v):=
 λ _ _ _ H _ I h=>oi I a b d ⟨v,H,I,r,h⟩ c hd
variable {a b:Expr}{ta tb:TE}{pos:kK}
def PC (X:Cx)(g:CmpOp)(a b:Expr)(t:TE):Prop:=
 ∀ (c:Á (Addr × Obj)) (s:Ò) (f:St) (H:Hp) (Q:VK),Inv X c f H s->t f H Q->
  Ú (à X.prog X.w) X.A (Ē a X.env) (λ v d=>Ú (à X.prog X.w) X.A (Ē b X.env) (λ u e=>Ú (à X.prog X.w) X.A (ĥ g v u) (EP X c f Q) X.xe e) X.xe d) X.xe s
def zQ (b:Expr)(h:c≠.In)(f:c≠.NotIn):ž c b=false:=by
 have d:(c == CmpOp.In)=false:=by cases c<;>first|rfl|exact absurd rfl h
 have e:(c == CmpOp.NotIn)=false:=by cases c<;>first|rfl|exact absurd rfl f
 cases b<;>simp[ž,d,e]
def tB (t:TE):TT:=λ d H Q=>t d H λ x A=>∃ c,x=.bl c/\Q c A
def OI (h:PC X d a b t)(e:ž d b=false:=by first|exact zQ _ (by decide) (by decide)|rfl):PE X (.Compare a [d] [b] pos) t:=λ c s f H Q I hw=>Yl (h c s f H Q I hw) e
def Bw (h:PC X g a b t)(f:ž g b=false:=by first|exact zQ _ (by decide) (by decide)|rfl):PT X (.Compare a [g] [b] pos) (tB t):=by
 intro e s m H Q I hw;refine L6 (Ź (h e s m H _ I hw) λ v n f=>Ź f λ u o i=>Ź i λ c p l=>iF l λ x A B k j=>?_) f;obtain⟨d,rfl,q⟩:=j;cases k;exact bU ⟨A,B,q⟩
variable {tA tB':TT}{rest:Á Expr}
def V6 (t u:TT):TT:=λ d H Q=>t d H λ c A=>if c=true then u d A Q else Q false A
def ZJ (t u:TT):TT:=λ d H Q=>t d H λ c A=>if c=true then Q true A else u d A Q
def We (t:TT):TT:=λ d H Q=>t d H λ c A=>Q (!c) A
def pw_and1 (f:PT X a tA):PW X (.BoolOp .And [a] pos) tA:=by
 intro j d s g H Q I h;refine isTrue_and (Ź (f d s g H Q I h) λ c i e=>?_);cases c with
 | true=>exact isTrue_and_nil e
 | false=>exact e
def pw_or1 (f:PT X a tA):PW X (.BoolOp .Or [a] pos) tA:=by
 intro j d s g H Q I h;refine isTrue_or (Ź (f d s g H Q I h) λ c i e=>?_);cases c with
 | false=>exact isTrue_or_nil e
 | true=>exact e
def pw_and (g:PT X a tA)(i:PW X (.BoolOp .And (b :: rest) pos) tB'):PW X (.BoolOp .And (a :: b :: rest) pos) (V6 tA tB'):=by
 intro k d s f H Q I h;refine isTrue_and (Ź (g d s f H _ I h) λ c j l=>?_);obtain⟨A,B,e⟩:=l;cases c with
 | true=>exact i k d j f A Q B e
 | false=>exact⟨A,B,e⟩
def pw_or (g:PT X a tA)(i:PW X (.BoolOp .Or (b :: rest) pos) tB'):PW X (.BoolOp .Or (a :: b :: rest) pos) (ZJ tA tB'):=by
 intro k d s f H Q I h;refine isTrue_or (Ź (g d s f H _ I h) λ c j l=>?_);obtain⟨A,B,e⟩:=l;cases c with
 | true=>exact⟨A,B,e⟩
 | false=>exact i k d j f A Q B e
def O4 (e:PT X a tA):PT X (.UnaryOp .Not a pos) (We tA):=by
 intro d s f H Q I h;exact isTrue_not (e d s f H (λ c A=>Q (!c) A) I h)
def S5 (ta tb:TE):TE:=λ d H Q=>ta d H λ x A=>∃ c,x=.bl c/\if c=true then tb d A Q else Q (.bl false) A
def Wf (ta tb:TE):TE:=λ d H Q=>ta d H λ x A=>∃ c,x=.bl c/\if c=true then Q (.bl true) A else tb d A Q
def Ta (ta:TE):TE:=λ d H Q=>ta d H λ x A=>∃ c,x=.bl c/\Q (.bl (!c)) A
def OG (g:PE X a ta)(i:PE X (.BoolOp .And (b :: rest) pos) tb):PE X (.BoolOp .And (a :: b :: rest) pos) (S5 ta tb):=by
 intro d s f H Q I h;refine BoolOp_and (Ź (g d s f H _ I h) λ v k l=>iF l λ x A B j e=>?_);obtain⟨c,rfl,e⟩:=e;cases j;refine bU ?_;cases c with
 | true=>exact i d k f A Q B e
 | false=>exact⟨.bl false,A,B,rfl,e⟩
def SJ (g:PE X a ta)(i:PE X (.BoolOp .Or (b :: rest) pos) tb):PE X (.BoolOp .Or (a :: b :: rest) pos) (Wf ta tb):=by
 intro d s f H Q I h;refine BoolOp_or (Ź (g d s f H _ I h) λ v k l=>iF l λ x A B j e=>?_);obtain⟨c,rfl,e⟩:=e;cases j;refine bU ?_;cases c with
 | false=>exact i d k f A Q B e
 | true=>exact⟨.bl true,A,B,rfl,e⟩
def OP (f:PE X a ta):PE X (.UnaryOp .Not a pos) (Ta ta):=by
 intro d s j H Q I h;refine UnaryOp_ (Ź (f d s j H _ I h) λ v k i=>iF i λ x A B g e=>?_);obtain⟨c,rfl,e⟩:=e;cases g;exact not_of (bU ⟨.bl (!c),A,B,rfl,e⟩)
def ZI (t:TT)(ta tb:TE):TE:=λ d H Q=>t d H λ c A=>if c=true then ta d A Q else tb d A Q
def Hk (l:PT X c tA)(j:PE X a ta)(k:PE X b tb):PE X (.IfExp c a b pos) (ZI tA ta tb):=by
 intro e s f H Q I h;refine wpAny_IfExp (Ź (l e s f H _ I h) λ d i m=>?_);obtain⟨A,B,g⟩:=m;cases d with
 | true=>exact j e i f A Q B g
 | false=>exact k e i f A Q B g
end
def eS (K:É)(H:Hp)(a:Addr)(xs:Á V):Prop:=
 Rd H a (.lst xs)∨
  ∃ (o:Obj) (b:Ă Value) (n:Nat),K.lookup a=À o/\o.cls=.type "list"/\o.dict=none/\o.data=.seq b n/\b.size<=sizeLine/\Vals xs b.toList
def fM (K:É)(H:Hp)(a:Addr)(xs:Á V):Prop:=
 Rd H a (.tup xs)∨
  ∃ (o:Obj) (b:Ă Value) (n:Nat),K.lookup a=À o/\o.cls=.type "tuple"/\o.data=.seq b n/\b.size<=sizeLine/\Vals xs b.toList
def U3:Value->Ê V
 | .none=>À .Ę
 | .bool b=>À (.bl b)
 | .int i _=>À (.int i)
 | .str x _=>À (.str x)
 | .bytes b _=>À (.AY b)
 | .float b _=>À (.Mb b)
 | .ref a=>À (.ref a)
 | .type n=>À (.ty n)
 | _=>none
def RelV.abs (r:RelV x u):U3 u=À x:=by
 cases x with
 | Ę=>cases r;rfl
 | bl _=>cases r;rfl
 | int _=>obtain⟨t,rfl⟩:=r;rfl
 | str _=>obtain⟨t,rfl⟩:=r;rfl
 | AY _=>obtain⟨t,rfl⟩:=r;rfl
 | Mb _=>obtain⟨t,rfl⟩:=r;rfl
 | ref _=>cases r;rfl
 | ty _=>cases r;rfl
theorem RelV.inj (r:RelV x u)(q:RelV y u):x=y:=æ (r.abs.symm.trans q.abs)
theorem Vals.inj:∀ {xs ys:Á V}{us:Á Value},Vals xs us->Vals ys us->xs=ys
 | _,_,_,.nil,.nil=>rfl
 | _,_,_,.cons r t,.cons a b=>by rw[r.inj a,Vals.inj t b]
section
variable {X:Cx}{õ:Á (Addr × Obj)}{σ:St}{H:Hp}{s:Ò}{a:Addr}{xs ys:Á V}
def eS.of {K:É}(h:H a=À (.lst xs)):eS K H a xs:=.inl (.inl h)
def fM.of {K:É}(h:H a=À (.tup xs)):fM K H a xs:=.inl (.inl h)
def Inv.list (I:Inv X õ σ H s)(h:eS X.K H a xs):∃ its:Á Value,Vals xs its/\PlainL s.heap a its.toArray/\xs.length<=sizeLine:=by
 rcases h with h|⟨o,its,n,c,b,hd,d,f,r⟩
 ·obtain⟨z,its,n,r,e⟩:=h.ok I.ś;exact⟨its,r,⟨_,n,e,rfl,rfl,rfl⟩,z⟩
 ·refine⟨its.toList,r,⟨o,n,I.ll a o c,b,hd,by simpa using d⟩,?_⟩;have e:=r.length;simp only[Į]at e;lia
def Inv.tuple (I:Inv X õ σ H s)(h:fM X.K H a xs):∃ its:Á Value,Vals xs its/\IG s.heap a its.toArray/\xs.length<=sizeLine:=by
 rcases h with h|⟨o,its,n,c,b,d,f,r⟩
 ·obtain⟨z,its,r,p⟩:=h.ok I.ś;exact⟨its,r,p,z⟩
 ·refine⟨its.toList,r,⟨o,I.ll a o c,b,n,by simpa using d⟩,?_⟩;have e:=r.length;simp only[Į]at e;lia
def Inv.ud (I:Inv X õ σ H s)(h:eS X.K H a xs)(h':eS X.K H a ys):xs=ys:=by
 obtain⟨c,r,⟨o,n,e,_,_,d⟩,_⟩:=I.list h;obtain⟨b,i,⟨k,j,g,_,_,f⟩,_⟩:=I.list h';rw[e]at g;cases g;rw[d]at f;injection f with d1 _
 have:c=b:=by simpa using Ķ AE d1
 subst this;exact r.inj i
def Inv.qT (I:Inv X õ σ H s)(h:fM X.K H a xs)(h':fM X.K H a ys):xs=ys:=by
 obtain⟨c,r,⟨o,e,_,n,d⟩,_⟩:=I.tuple h;obtain⟨b,i,⟨k,g,_,j,f⟩,_⟩:=I.tuple h';rw[e]at g;cases g;rw[d]at f;injection f with d1 _
 have:c=b:=by simpa using Ķ AE d1
 subst this;exact r.inj i
end
section
variable {X:Cx}{õ:Á (Addr × Obj)}{σ:St}{H:Hp}{s:Ò}{E:Value->Ò->Prop}
end
section
variable {X:Cx}{st:Stmt}{rest:Á Stmt}{t u:TS}{e:Expr}{te:TE}{pos:kK}
def S':TS:=λ D a H=>D.nx a H
def Wi (t u:TS):TS:=λ D a H=>t { D with nx:=u D } a H
def Lj:l5 X [] S':=λ _ _ a H _ I h=>pS ⟨a,H,I,h⟩
def HB (c:PS X st t)(d:l5 X rest u):l5 X (st :: rest) (Wi t u):=by
 intro a s i H D I h;refine UY (Ź (c a s i H { D with nx:=u D } I h) λ f g q=>?_);cases f with
 | next=>
  obtain⟨b,A,B,q⟩:=q;exact d a g b A D B q
 | ret v=>exact q
 | brk=>exact q
 | cont=>exact q
def Lk (b:PS X st t):l5 X [st] t:=by
 intro a s c H D I h;refine UY (Ź (b a s c H D I h) λ f d q=>?_);cases f with
 | next=>exact pS q
 | ret v=>exact q
 | brk=>exact q
 | cont=>exact q
def Inv.quiet (I:Inv X a b H s):interactive X.env=false:=by simp[interactive,I.ok.kind]
def S8 (te:TE):TS:=λ D a H=>te a H λ _ A=>D.nx a A
def Lh (c:PE X e te)(d:dJ e none pos.line X.env=pure false:=by rfl):PS X (.Expr e pos) (S8 te):=by
 intro a s b H D I h;exact wpAny_Expr_any (Ź (c a s b H _ I h) λ v j g=>iF g λ x A B i f=>⟨b,A,B,f⟩) I.quiet d
def Wh (te:TE):TS:=λ D a H=>te a H D.rt
def O1 (c:PE X e te):PS X (.Return (À e) pos) (Wh te):=by
 intro a s b H D I h;exact wpAny_Return_some (Ź (c a s b H _ I h) λ v i g=>iF g λ x A B f d=>⟨x,b,A,B,f,d⟩)
def Wb (c:TT)(t u:TS):TS:=λ D a H=>c a H λ b A=>if b=true then t D a A else u D a A
def SM (m:PT X c n)(k:l5 X a t)(l:l5 X b u):PS X (.If c a b pos) (Wb n t u):=by
 intro f s g H D I h;refine wpAny_If (Ź (m f s g H _ I h) λ d j o=>?_);obtain⟨A,B,i⟩:=o;cases d with
 | true=>exact k f j g A D B i
 | false=>exact l f j g A D B i
end
abbrev TG:=V->St->Hp->(St->Hp->Prop)->Prop
abbrev P5:=Á V->St->Hp->(St->Hp->Prop)->Prop
def PG (X:Cx)(a:Expr)(t:TG):Prop:=
 ∀ (b:Á (Addr × Obj)) (s:Ò) (d:St) (H:Hp) (v:V) (u:Value) (Q:St->Hp->Prop),Inv X b d H s->RelV v u->t v d H Q->
  Ú (à X.prog X.w) X.A (j' a X.env u) (λ _ s'=>∃ c B,Inv X b c B s'/\Q c B) X.xe s
def BX (X:Cx)(ts:Á Expr)(t:P5):Prop:=
 ∀ (a:Á (Addr × Obj)) (s:Ò) (d:St) (H:Hp) (c:Á V) (us:Á Value) (Q:St->Hp->Prop),Inv X a d H s->Vals c us->t c d H Q->
  Ú (à X.prog X.w) X.A (nu ((cY ts X.env).map (·.2)) us) (λ _ s'=>∃ b B,Inv X a b B s'/\Q b B) X.xe s
abbrev Qv:=V->V->V->Hp->(Hp->Prop)->Prop
def M0 (X:Cx)(t:Qv):Prop:=
 ∀ (a:Á (Addr × Obj)) (s:Ò) (d:St) (H:Hp) (o i v:V) (c b u:Value) (Q:Hp->Prop),Inv X a d H s->RelV o c->RelV i b->RelV v u->t o i v H Q->
  Ú (à X.prog X.w) X.A (Jv c b u) (λ _ s'=>∃ B,Inv X a d B s'/\Q B) X.xe s
section
variable {X:Cx}{pos:kK}
def Cf (i:Nat):TG:=λ v a H Q=>Q (a.set i (À v)) H
def K6 (b:X.N.Nodup)(d:X.N[i]? = À x)(e:Loc X.env.scope x)(c:X.fn x=true∨X.env.scope.names.lookup x=À .local:=by first|exact .inl rfl|exact .inr rfl|assumption):PG X (.Name x pos) (Cf i):=by
 intro a s f H v u Q I r h;exact TR (gw I b d e r (λ s' A=>⟨_,H,A,h⟩) c)
def Vb:P5:=λ a b H Q=>a=[]/\Q b H
def Rx (t:TG)(u:P5):P5:=λ b c H Q=>∃ v r,b=v :: r/\t v c H λ a A=>u r a A Q
def K7:BX X [] Vb:=by
 intro a s b H c us Q I r h;obtain⟨e,h⟩:=h;subst e;cases r;exact wR ⟨b,H,I,h⟩
def Hr (f:PG X e t)(g:BX X b u)
  (i:(cY (e :: b) X.env).map (·.2)=j' e X.env :: (cY b X.env).map (·.2):=by rfl):BX X (e :: b) (Rx t u):=by
 intro a s n H p us Q I r h;obtain⟨v,o,d,h⟩:=h;subst d;cases r with
 | cons r k=>
  rw[i];refine cZ (Ź (f a s n H _ _ _ I r h) λ _ l m=>?_);obtain⟨c,A,B,j⟩:=m;exact g a l c A _ _ Q B k j
def Vd (K:É)(n:Nat)(t:P5):TG:=λ v b H Q=>∃ a xs,v=.ref a/\fM K H a xs/\xs.length=n/\t xs b H Q
def OT (l:X.calm=true)(h:BX X d t)
  (m:(cY d X.env).length=n:=by rfl) (f:(cY d X.env).findIdx? (·.1)=none:=by rfl):PG X (.Tuple d k pos) (Vd X.K n t):=by
 intro c s g H v u Q I r hw;obtain⟨a,xs,i,p,hl,hw⟩:=hw;subst i;cases r;obtain⟨x,rv,q,y⟩:=I.tuple p;refine assign_Tuple_tuple (I.ok.hd l) q (by simp[m,<-hl,rv.length]) f λ j w=>?_;have A:Inv X c g H { s with heap:=j }:=I.kept (t':=s.toks) λ b o e=>w b o (ê (Ó e)) e;exact h c _ g H xs _ Q A (by simpa using rv) hw
def Vc (c b:TE)(t:Qv):TG:=λ v a H Q=>c a H λ o A=>b a A λ i B=>t o i v B λ C=>Q a C
def Hq (j:PE X o J)(g:PE X i G)(k:M0 X t)
  (f:∀ v,j' (.Subscript o i pos) X.env v=(do
   let b <-cu [v] (Ē o X.env);let c <-cu [v,b] (Ē i X.env)
   jn pos
   cu [v,b,c] (Jv b c v)
   release [v,b,c] []):=by intro _;rfl):PG X (.Subscript o i pos) (Vc J G t):=by
 intro a s e H v u Q I r h;rw[f];refine Â (Ň (Ź (j a s e H _ I h) λ b w d=>iF d λ x A D p l=>?_));refine Â (Ň (Ź (g a w e A _ D l) λ c z d=>iF d λ y B E q m=>?_));refine Â (dM (Â (Ň (Ź (k a z e B x y v b c u _ E p q r m) λ _ L d=>?_))));obtain⟨C,F,n⟩:=d;exact wpAny_release ⟨e,C,F,n⟩
def LI (b:TE)(g:TG):TS:=λ D a H=>b a H λ x A=>g x a A D.nx
def OX (f:PE X e n)(i:PG X b g)(j:jq [b] e pos.line X.env=pure false:=by rfl)(hw:jo [b] e X.env=pure none:=by rfl)
  (d:(cY [b] X.env).map (·.2)=[j' b X.env]:=by rfl):PS X (.Assign [b] e pos) (LI n g):=by
 intro a s c H D I h;refine wpAny_Assign_stores (Ź (f a s c H _ I h) λ v m o=>iF o λ x A B l k=>?_) j hw;rw[d];exact Ź (i a m c A x v _ B l k) λ _ p q=>q
def O2 (c:X.N.Nodup)(g:X.N[i]? = À x)(k:Loc X.env.scope x)(d:PE X e n)(j:dJ e (À (.Name x b)) pos.line X.env=pure false:=by rfl) (f:X.fn x=true∨X.env.scope.names.lookup x=À .local:=by first|exact .inl rfl|exact .inr rfl|assumption) :
  PS X (.Assign [.Name x b] e pos) (LI n (Cf i)):=by
 intro a s p H D I h;refine wpAny_Assign_Name (Ź (d a s p H _ I h) λ v q o=>iF o λ y A B m l=>?_) j;exact gw B c g k m (λ r C=>⟨_,A,C,l⟩) f
def Wg (i j:Nat)(b:TA):TS:=λ D a H=>b a H λ c A=>∃ v w,c=[v,w]/\D.nx ((a.set i (À v)).set j (À w)) A
def O0 (U:X.calm=true)(t:X.N.Nodup)(Y:X.N[i]? = À x)(Z:X.N[j]? = À y)(l:i≠j)
  (u:X.env.scope.names.lookup x=À .local) (z:X.env.scope.names.lookup y=À .local) (T:PA X [a,b] ta)
  (hw:jo [.Tuple [.Name x F,.Name y G] E pt] (.Tuple [a,b] k2 k) X.env=pure (À [x,y]))
  (hs:jq [.Tuple [.Name x F,.Name y G] E pt] (.Tuple [a,b] k2 k) pos.line X.env=pure false:=by rfl) :
  PS X (.Assign [.Tuple [.Name x F,.Name y G] E pt] (.Tuple [a,b] k2 k) pos) (Wg i j ta):=by
 intro c s J H D I h;rw[Xa];refine Â (dM ?_);rw[hs];refine Â (Ë ?_);rw[Ô (by decide)];refine Â (Tuple_ (Ź (T _ c s J H _ I h) λ us d zz=>iF zz λ vs B L r1 n=>?_));obtain⟨v,w,Q,n⟩:=n;subst Q;obtain⟨f,g,rfl,rv,r⟩:∃ f g,us=[f,g]/\RelV v f/\RelV w g:=by
  cases r1 with
  | cons p q=>
   cases q with
   | cons p' q'=>
    cases q';exact⟨_,_,rfl,p,p'⟩
 refine ŗ ?_ (by show 2<=sizeLine;decide);have M:Inv X c J B { d with heap:=d.heap.push { cls:=.type "tuple",data:=.seq [f,g].toArray } }:=L.kept (t':=d.toks) λ b o e=>Ã _ e;rw[hw];refine Â (Ë ?_);show Ú (à X.prog X.w) X.A (do rule "assign.swapped-stores";let items <-unpackItems (.ref d.heap.objs.size) 2 none;nu [λ v=>fJ X.env y v,λ v=>fJ X.env x v] items.reverse;pure AF) _ _ _;refine Â (bD (Â (TN (items:=#[f,g]) (I.ok.hd U) (sW d.heap _) λ h' m=>?_)));have O:=M.kept (h':=h') (t':=d.toks) λ b o e=>m b o (ê (Ó e)) e;show Ú _ _ (nu [λ v=>fJ X.env y v,λ v=>fJ X.env x v] [g,f] >>= λ _=>pure AF) _ _ _;refine Â (cZ (lO (gw O t Z (.inl z) r (λ s2 P=>?_) (.inr z))));refine cZ (lO (gw P t Y (.inl u) rv (λ s3 C=>wR (Ë ?_)) (.inr u)));rw[pZ _ _ (Ŋ l)]at C;exact⟨_,B,C,n⟩
def PD (c:TT)(tb:TS):TS:=λ D a H=>∃ W:Nat->St->Hp->Prop,(∃ m,W m a H)/\∀ m a H,W m a H->
 c a H λ b B=>if b=true then ∃ N:St->Hp->Prop,(∀ d A,N d A->∃ e,e < m/\W e d A)/\tb { D with nx:=N,ct:=N,bk:=D.nx } a B else D.nx a B
def HA (r:yP (à X.prog X.w) X.A X.env X.xe) (u:PT X c M)(t:l5 X body tb):PS X (.While c body [] pos) (PD M tb):=by
 intro a s T H D I h;obtain⟨W,⟨x,O⟩,g⟩:=h;refine wpAny_While (codeAny_whileLoop (λ n s'=>∃ i E,Inv X a i E s'/\W n i E) ?_ x ⟨T,H,I,O⟩);rintro n y ⟨e,F,L,P⟩;refine dA r (Ź (u a y e F _ L (g n e F P)) λ b z Q=>?_);obtain⟨G,J,j⟩:=Q;cases b with
 | true=>
  obtain⟨N,q,j⟩:=j;rw[Ï rfl];refine dA r (Ź (t a z e G _ J j) λ f U k=>?_);cases f with
  | next=>
   obtain⟨d,B,C,o⟩:=k;obtain⟨m,l,p⟩:=q d B o;exact⟨m,l,d,B,C,p⟩
  | cont=>
   obtain⟨d,B,C,o⟩:=k;obtain⟨m,l,p⟩:=q d B o;exact⟨m,l,d,B,C,p⟩
  | brk=>exact k
  | ret v=>exact k
 | false=>
  rw[Ô â];exact pS ⟨e,G,J,j⟩
end
structure It where
 go:Nat->Hp->Prop
 Jh:Nat->Hp->V->Hp->Prop
 stop:Nat->Hp->Prop
def rY (X:Cx)(a:Á (Addr × Obj)) (H:Hp)(b:Addr):Prop:=
 H b=none/\b≠X.env.locals/\b∉X.fs/\(b∈X.ex∨X.jm.heap.objs.size<=b)/\(∀ x c,X.env.cells.lookup x=À c->c≠b)/\∀ p∈X.pn++a,p.1≠b
def Inv.zx (I:Inv X d h H s)(a:s.heap.objs.size<=b)(f:H' b=none):rY X d H' b:=by
 refine⟨f,ġ (é I.lt a),I.VC a,.inr (Đ I.sz a),λ x c e z=>?_,λ p g z=>?_⟩
 ·obtain⟨v,q⟩:=I.cell x c e;exact absurd (é q.lt (by rw[z];exact a)) (ŏ _)
 ·exact absurd (é (Ó (I.pin p g).1) (by rw[z];exact a)) (ŏ _)
structure Turn (P:Ĉ)(w:Ĩ)(K:É)(tg:Expr)(J:It)(fp:Á Addr)(it:Addr)(tn:Nat->Heap->Prop):Prop where
 mem:it∈fp
 obj:∀ i h,tn i h->∀ b∈fp,∃ o,h.get? b=À o/\∀ v,o.data≠.cell v
 keep:∀ i h h',tn i h->(∀ b∈fp,∀ o,h.get? b=À o->h'.get? b=À o)->tn i h'
 item:∀ (X:Cx),X.prog=P->X.w=w->X.K=K->X.calm=true->∀ (i:Nat) (õ:Á (Addr × Obj)) (s:Ò) (σ:St) (H:Hp) (E:Value->Ò->Prop),Inv X õ σ H s->(∀ b∈fp,rY X õ H b)->tn i s.heap->J.go i H->
  Ú (à P w) X.A (fy (.ref it)) (λ r s1=>∃ u,r=À u/\
   Ú (à P w) X.A (kd tg (.ref it) u) (λ _ s2=>∃ x H',Inv X õ σ H' s2/\RelV x u/\J.Jh i H x H'/\tn (i+1) s2.heap/\∀ b∈fp,H' b=none) E s1) E s
 done:∀ (X:Cx),X.prog=P->X.w=w->X.K=K->X.calm=true->∀ (i:Nat) (õ:Á (Addr × Obj)) (s:Ò) (σ:St) (H:Hp) (E:Value->Ò->Prop),Inv X õ σ H s->(∀ b∈fp,rY X õ H b)->tn i s.heap->J.stop i H->
  Ú (à P w) X.A (fy (.ref it)) (λ r s1=>r=none/\Inv X õ σ H s1) E s
 self:∀ (A:į) (i:Nat) (s:Ò) (Q:Value->Ò->Prop) (E:Value->Ò->Prop),tn i s.heap->Q (.ref it) s->Ú (à P w) A (Ju (.ref it)) Q E s
abbrev TI:=St->Hp->(It->Hp->Prop)->Prop
def Xi (X:Cx)(a:Á (Addr × Obj)) (i:St)(h:Expr)(R:It->Hp->Prop)(c:Value)(f:Ò):Prop:=
 ∃ (e:Addr) (d:Á Addr) (g:Nat->Heap->Prop) (J:It) (A:Hp),c=.ref e/\Inv X a i A f/\Turn X.prog X.w X.K h J d e g/\g 0 f.heap/\(∀ b∈d,rY X a A b)/\R J A
def PI (X:Cx)(e b:Expr)(f:TI):Prop:=
 ∀ (a:Á (Addr × Obj)) (s:Ò) (c:St) (H:Hp) (R:It->Hp->Prop),Inv X a c H s->f c H R->
  Ú (à X.prog X.w) X.A (Ē b X.env) (λ v d=>Ú (à X.prog X.w) X.A (Ju v) (Xi X a c e R) X.xe d) X.xe s
def Cj (d:s.heap.get? e=À o)(b:o.cls=.type n)(hd:o.data=.fields vs)
    (c:["enumerate","zip","dict_itemiterator","dict_reverseitemiterator","odict_iterator","itertools.zip_longest","itertools.pairwise"].contains n=false) (a:Q () s):Ú M A (kd f (.ref e) u) Q E s:=by
  unfold kd;cases f<;>first
    | exact Ë a
    | (cases u<;>first
        | exact Ë a
        | (refine Â (wpAny_load d ?_)
           rw[b,hd];show Ú M A (if (["enumerate","zip","dict_itemiterator","dict_reverseitemiterator","odict_iterator","itertools.zip_longest","itertools.pairwise"].contains n && vs[0]? == À (Ũ _))=true then _ else _) Q E s;rw[Ô (by intro h;rw[c,Bool.false_and]at h;cases h)];exact Ë a))
def P0 (K:É)(a:Addr):It:=
 ⟨λ i H=>∃ xs x,eS K H a xs/\xs[i]? = À x,λ i H x A=>A=H/\∀ xs,eS K H a xs->xs[i]? = À x,λ i H=>∃ xs,eS K H a xs/\xs.length<=i⟩
def Qs (K:É)(a:Addr):It:=
 ⟨λ i H=>∃ xs x,fM K H a xs/\xs[i]? = À x,λ i H x A=>A=H/\∀ xs,fM K H a xs->xs[i]? = À x,λ i H=>∃ xs,fM K H a xs/\xs.length<=i⟩
def P1 (lo:Int)(n:Nat):It:=⟨λ i _=>i < n,λ i H x A=>A=H/\x=.int (lo+i),λ i _=>n<=i⟩
def wG {P:Ĉ}{w:Ĩ}{K:É}{tg:Expr}(a it:Addr):Turn P w K tg (P0 K a) [it] it (λ i h=>h.IsListIter it a i) where
 mem:=by simp
 obj:=λ i h st b hb=>by
  have e:b=it:=by simpa using hb
  subst e;obtain⟨o,e,c,d⟩:=st;exact⟨o,e,λ v z=>by rw[d]at z;cases z⟩
 keep:=λ i h h' st k=>st.at λ o e=>k it (by simp) o e
 item:=by
  intro X hP hw hK hc i õ s σ H E I hf st hg;subst hP hw hK;obtain⟨xs,x,hq,hx⟩:=hg;obtain⟨its,rv,p,hz⟩:=I.list hq;obtain⟨u,hu,ru⟩:=rv.get hx;obtain⟨f0,f1,f2,f3,f4,f5⟩:=hf it (by simp);refine wpAny_pyNext_list_item st p.isList (x:=u) (by simpa using hu) λ h' HR sb=>?_;have I1:Inv X õ σ H { s with heap:=h' }:=I.turned (t':=s.toks) (λ b o hb e=>(sb.2 b hb).trans e) f0 f1 f3 f4 f5;obtain⟨o,e,c,d⟩:=id HR;exact⟨u,rfl,Cj (s:={ s with heap:=h' }) e c d (by decide) ⟨x,H,I1,ru,⟨rfl,λ ys hy=>by rw[I.ud hy hq];exact hx⟩,HR,λ b hb=>(hf b hb).1⟩⟩
 done:=by
  intro X hP hw hK hc i õ s σ H E I hf st hg;subst hP hw hK;obtain⟨xs,hq,hx⟩:=hg;obtain⟨its,rv,p,hz⟩:=I.list hq;obtain⟨f0,f1,f2,f3,f4,f5⟩:=hf it (by simp);have hl:=rv.length;exact wpAny_pyNext_list_end (I.ok.hd hc) st p.isList (by simp;lia) λ h' eb=>⟨rfl,I.turned (t':=s.toks) (λ b o hb e=>eb b o hb e) f0 f1 f3 f4 f5⟩
 self:=λ _ _ _ _ _ st h=>wpAny_pyIter_listiter st h
def BJ {P:Ĉ}{w:Ĩ}{K:É}{tg:Expr}(a it:Addr):Turn P w K tg (Qs K a) [it] it (λ i h=>h.IsTupleIter it a i) where
 mem:=by simp
 obj:=λ i h st b hb=>by
  have e:b=it:=by simpa using hb
  subst e;obtain⟨o,e,c,d⟩:=st;exact⟨o,e,λ v z=>by rw[d]at z;cases z⟩
 keep:=λ i h h' st k=>st.at λ o e=>k it (by simp) o e
 item:=by
  intro X hP hw hK hc i õ s σ H E I hf st hg;subst hP hw hK;obtain⟨xs,x,hq,hx⟩:=hg;obtain⟨its,rv,p,hz⟩:=I.tuple hq;obtain⟨u,hu,ru⟩:=rv.get hx;obtain⟨f0,f1,f2,f3,f4,f5⟩:=hf it (by simp);refine wpAny_pyNext_tuple_item st (show s.heap.IsTuple a its.toArray from p) (x:=u) (by simpa using hu) λ h' HR sb=>?_;have I1:Inv X õ σ H { s with heap:=h' }:=I.turned (t':=s.toks) (λ b o hb e=>(sb.2 b hb).trans e) f0 f1 f3 f4 f5;obtain⟨o,e,c,d⟩:=id HR;exact⟨u,rfl,Cj (s:={ s with heap:=h' }) e c d (by decide) ⟨x,H,I1,ru,⟨rfl,λ ys hy=>by rw[I.qT hy hq];exact hx⟩,HR,λ b hb=>(hf b hb).1⟩⟩
 done:=by
  intro X hP hw hK hc i õ s σ H E I hf st hg;subst hP hw hK;obtain⟨xs,hq,hx⟩:=hg;obtain⟨its,rv,p,hz⟩:=I.tuple hq;obtain⟨f0,f1,f2,f3,f4,f5⟩:=hf it (by simp);have hl:=rv.length;exact wpAny_pyNext_tuple_end (I.ok.hd hc) st (show s.heap.IsTuple a its.toArray from p) (by simp;lia) λ h' eb=>⟨rfl,I.turned (t':=s.toks) (λ b o hb e=>eb b o hb e) f0 f1 f3 f4 f5⟩
 self:=λ _ _ _ _ _ st h=>wpAny_pyIter_tupleiter st h
def BI {P:Ĉ}{w:Ĩ}{K:É}{tg:Expr}(it:Addr)(lo:Int)(n:Nat):Turn P w K tg (P1 lo n) [it] it (λ i h=>IsRangeIter h it (lo+(i:Nat) * 1) ((n:Int) - (i:Nat)) 1) where
 mem:=by simp
 obj:=λ i h st b hb=>by
  have e:b=it:=by simpa using hb
  subst e;exact⟨_,st,λ v z=>by
   have z':Data.fields _=Data.cell v:=z;cases z'⟩
 keep:=λ i h h' st k=>k it (by simp) _ st
 item:=by
  intro X hP hw hK hc i õ s σ H E I hf st hg;subst hP hw hK;obtain⟨f0,f1,f2,f3,f4,f5⟩:=hf it (by simp);have W:=Walks.range (prog:=X.prog) (w:=X.w) (I.ok.hd hc) it lo 1 n;refine W.item i s _ _ hg st λ v h' tk hv HR kk=>?_;obtain⟨t,rfl⟩:=hv;have I1:Inv X õ σ H { s with heap:=h',toks:=tk }:=I.turned (λ b o hb e=>kk b o (by simpa using hb) e) f0 f1 f3 f4 f5;refine⟨_,rfl,Cj (s:={ s with heap:=h',toks:=tk }) (n:="range_iterator") HR rfl rfl (by decide) ⟨.int (lo+i),H,I1,⟨t,?_⟩,⟨rfl,rfl⟩,HR,λ b hb=>(hf b hb).1⟩⟩;rw[Int.mul_one]
 done:=by
  intro X hP hw hK hc i õ s σ H E I hf st hg;subst hP hw hK;obtain⟨f0,f1,f2,f3,f4,f5⟩:=hf it (by simp);exact wpAny_pyNext_range_end (I.ok.hd hc) st (by have:n<=i:=hg;lia) λ h' eb=>⟨rfl,I.turned (t':=s.toks) (λ b o hb e=>eb b o hb e) f0 f1 f3 f4 f5⟩
 self:=λ _ _ _ _ _ st h=>wpAny_pyIter_rangeiter st h
section
variable {X:Cx}{tg:Expr}
def RJ (K:É)(tl:TE):TI:=λ b H R=>tl b H λ x A=>∃ a,x=.ref a/\(∃ xs,eS K A a xs)/\R (P0 K a) A
def K' {l:Expr}{tl:TE}(hl:PE X l tl):PI X tg l (RJ X.K tl):=by
 intro c s n H R I h;refine Ź (hl c s n H _ I h) λ v d m=>iF m λ x B A k j=>?_;obtain⟨a,e,⟨xs,g⟩,q⟩:=j;subst e;cases k;obtain⟨i,rv,p,r⟩:=A.list g;refine w_ p.isList ?_;refine⟨d.heap.objs.size,[d.heap.objs.size],_,_,B,rfl,A.kept (t':=d.toks) λ b o e=>Ã _ e,wG a _,⟨_,Ö _ rfl,rfl,rfl⟩,λ b f=>?_,q⟩;have e:b=d.heap.objs.size:=by simpa using f
 subst e;exact A.zx (Ì _) (A.ś.fresh (Ì _))
def HG {c:Á (Addr × Obj)}{f:St}{H:Hp}{s:Ò}{R:It->Hp->Prop}{E:Value->Ò->Prop}{lo a:Int}{t u v:UR}{d:Nat}(I:Inv X c f H s)(i:-(2 ^ 62)<=lo) (j:lo < 2 ^ 62)(k:-(2 ^ 62)<=a) (l:a < 2 ^ 62)
  (q:R (P1 lo (a - lo).toNat) H):Ú (à X.prog X.w) X.A (Ju (.ref s.heap.objs.size)) (Xi X c f tg R) E { s with heap:=s.heap.push { cls:=.type "range",data:=.fields #[.int lo t,.int a u,.int 1 v] },toks:=d }:=by
 refine wpAny_pyIter_range (IsRange.new ..) (small_one i j k l) ?_;have B:Inv X c f H { s with heap:=s.heap.push { cls:=.type "range",data:=.fields #[.int lo t,.int a u,.int 1 v] },toks:=d }:=I.kept λ b o e=>Ã _ e;refine⟨(s.heap.push { cls:=.type "range",data:=.fields #[.int lo t,.int a u,.int 1 v] }).objs.size,[(s.heap.push { cls:=.type "range",data:=.fields #[.int lo t,.int a u,.int 1 v] }).objs.size],_,_,H,rfl,
  B.kept (t':=d) λ b o e=>Ã _ e,BI _ lo (a - lo).toNat,?_,λ b m=>?_,q⟩
 ·have g:lo+((0:Nat):Int) * 1=lo:=by simp
  have h:(((a - lo).toNat:Nat):Int) - ((0:Nat):Int)=Uy lo a 1:=by rw[rangeSize_one];split<;>lia
  show IsRangeIter _ _ (lo+((0:Nat):Int) * 1) ((((a - lo).toNat:Nat):Int) - ((0:Nat):Int)) 1;rw[g,h];exact Ö _ rfl
 ·have e:b=(s.heap.push { cls:=.type "range",data:=.fields #[.int lo t,.int a u,.int 1 v] }).objs.size:=by simpa using m
  subst e;exact B.zx (Ì _) (B.ś.fresh (Ì _))
def RK (a:TA):TI:=λ c H R=>a c H λ b A=>∃ j:Int,b=[.int j]/\-(2 ^ 62)<=j/\j < 2 ^ 62/\R (P1 0 j.toNat) A
def Ei {a:Expr}{d:TA}{p pos:kK}(g:Gl X "range")(i:X.mg "range"=none)(f:PA X [a] d)(k:Í [a] X.env=[(false,Ē a X.env)]:=by rfl):PI X tg (.Call (.Name "range" p) [a] [] pos) (RK d):=by
 intro b s u H R I h;refine Call_ (oi I g i boot_range (b9 (Ź (f pos b s u H _ I h) λ us v o=>iF o λ w B A m c=>?_) k rfl));obtain⟨j,e,c,l,q⟩:=c;subst e;cases m with
 | cons r n=>
  cases n;obtain⟨t,rfl⟩:=r;exact call_range_1 (HG A (by lia) (by lia) c l (by simpa using q))
def Wa (e:TI)(g:TG)(tb:TS):TS:=λ D a H=>e a H λ J B=>∃ W:Nat->Nat->St->Hp->Prop,(∃ m,W 0 m a B)/\∀ i m a H,W i m a H->
 (J.stop i H/\D.nx a H)∨(J.go i H/\∃ N:St->Hp->Prop,(∀ b A,N b A->∃ d,d < m/\W (i+1) d b A)/\∀ x A,J.Jh i H x A->g x a A λ c C=>tb { D with nx:=N,ct:=N,bk:=D.nx } c C)
def ux (a:Á Addr)(h:Heap):Á (Addr × Obj):=a.filterMap λ b=>(h.get? b).map λ o=>(b,o)
def lx (c:b∈a)(e:h.get? b=À o):(b,o)∈ux a h:=jX.mpr ⟨b,c,by rw[e];rfl⟩
def Ea (f:p∈ux c h):p.1∈c/\h.get? p.1=À p.2:=by
 obtain⟨b,d,e⟩:=jX.mp f;cases q:h.get? b with
 | none=>rw[q]at e;cases e
 | some o=>
  rw[q]at e;have a:(b,o)=p:=æ e;subst a;exact⟨d,q⟩
def Inv.pinned (I:Inv X a n H s)(k:∀ b∈f,rY X a H b)(l:∀ b∈f,∃ o,s.heap.get? b=À o/\∀ v,o.data≠.cell v):Inv X (a++ux f s.heap) n H s:=
 I.CM λ p m=>(cG.mp m).elim (λ z=>I.pin p (ĭ _ z)) λ z=>by
  obtain⟨g,e⟩:=Ea z;obtain⟨h,i,j,_⟩:=k p.1 g;obtain⟨o,c,d⟩:=l p.1 g;rw[e]at c;cases c;exact⟨e,h,i,j,d⟩
def Inv.pL (I:Inv X (a++pl) c H s):Inv X a c H s:=I.CM λ p b=>I.pin p (ĭ _ (iC _ b))
def OZ (L:yP (à X.prog X.w) X.A X.env X.xe) (hc:X.calm=true)(hi:PI X tg q wi)(hg:PG X tg g)(j:l5 X body tb)
  (hs:∀ x,dX q X.env x=pure x:=by intro _;rfl):PS X (.For tg q body [] pos) (Wa wi g tb):=by
 intro a s σ H D I h;refine wpAny_For (Ź (hi a s σ H _ I h) λ v s1 h1=>Ź h1 λ XF s2 h2=>?_) hs;obtain⟨it,F,tn,J,H2,e,I2,T,X1,f2,W,⟨m0,w0⟩,Q⟩:=h2;subst e;have k:∀ {E:Hp},(∀ b∈F,E b=none)->∀ b∈F,rY X a E b:=λ hn b j=>⟨hn b j,(f2 b j).2⟩
 refine codeAny_forLoop_any (λ n s'=>∃ i l E,Inv X a l E s'/\tn i s'.heap/\(∀ b∈F,E b=none)/\W i n l E) ?_ m0 ⟨0,σ,H2,I2,X1,λ b j=>(f2 b j).1,w0⟩;rintro n s3 ⟨i,p,U,I3,O,G,w3⟩;rcases Q i n p U w3 with⟨P,qn⟩|⟨go,N,hN,step⟩
 ·refine dA L (Ź (T.done X rfl rfl rfl hc i a s3 p U X.xe I3 (k G) O P) λ r s4 z=>?_);obtain⟨hr,I4⟩:=z;subst hr;exact pS ⟨p,U,I4,qn⟩
 ·refine dA L (Ź (T.item X rfl rfl rfl hc i a s3 p U X.xe I3 (k G) O go) λ r s4 z=>?_);obtain⟨u,hr,h4⟩:=z;subst hr;refine dA L (Ź h4 λ _ s5 z=>?_);obtain⟨x,H5,I5,r5,y5,y,Z⟩:=z;have Y:=I5.pinned (k Z) (T.obj _ _ y);refine dA L (Ź (hg _ s5 p H5 x u _ Y r5 (step x H5 y5)) λ _ s6 z=>?_);obtain⟨ZO,H6,I6,q6⟩:=z;refine dA L (Ź (j _ s6 ZO H6 _ I6 q6) λ f s7 t=>?_);have again:∀ {c:St}{B:Hp},Inv X (a++ux F s5.heap) c B s7->N c B->∃ m,m < n/\∃ i l E,Inv X a l E s7/\tn i s7.heap/\(∀ b∈F,E b=none)/\W i m l E:=λ {c B} C M=>by
   obtain⟨m',hm,w7⟩:=hN c B M;refine⟨m',hm,i+1,c,B,C.pL,T.keep _ _ _ y λ b j o e=>(C.pin (b,o) (ĭ _ (ĭ _ (lx j e)))).1,λ b j=>?_,w7⟩;obtain⟨o,e,d⟩:=T.obj _ _ y b j;exact(C.pin (b,o) (ĭ _ (ĭ _ (lx j e)))).2.1
  cases f with
  | next=>obtain⟨c,B,C,M⟩:=t;exact again C M
  | cont=>obtain⟨c,B,C,M⟩:=t;exact again C M
  | brk=>obtain⟨c,B,C,t⟩:=t;exact⟨c,B,C.pL,t⟩
  | ret v=>obtain⟨x7,c,B,C,r7,t⟩:=t;exact⟨x7,c,B,C.pL,r7,t⟩
end
abbrev R2:=V->V->Hp->VK->Prop
def jf (X:Cx)(f:Value->Value->W7 Value)(r:R2):Prop:=
 ∀ (a:Á (Addr × Obj)) (s:Ò) (b:St) (H:Hp) (x y:V) (v u:Value) (Q:VK),Inv X a b H s->RelV x v->RelV y u->r x y H Q->
  Ú (à X.prog X.w) X.A (f v u) (EP X a b Q) X.xe s
def Qx (X:Cx)(f:Value->W7 Value)(r:V->Hp->VK->Prop):Prop:=
 ∀ (a:Á (Addr × Obj)) (s:Ò) (b:St) (H:Hp) (x:V) (v:Value) (Q:VK),Inv X a b H s->RelV x v->r x H Q->
  Ú (à X.prog X.w) X.A (f v) (EP X a b Q) X.xe s
def bx (X:Cx)(f:Value)(r:Á V->Hp->VK->Prop):Prop:=
 ∀ (a:Á (Addr × Obj)) (s:Ò) (b:St) (H:Hp) (xs:Á V) (us:Á Value) (Q:VK),Inv X a b H s->Vals xs us->r xs H Q->
  Ú (à X.prog X.w) X.A (call f us) (EP X a b Q) X.xe s
def U1 (X:Cx)(r:V->Hp->(Bool->Hp->Prop)->Prop):Prop:=
 ∀ (a:Á (Addr × Obj)) (s:Ò) (b:St) (H:Hp) (x:V) (v:Value) (Q:Bool->Hp->Prop),Inv X a b H s->RelV x v->r x H Q->
  Ú (à X.prog X.w) X.A (truthy v) (TP X a b Q) X.xe s
def Tc (r:R2)(b tb:TE):TE:=λ a H Q=>b a H λ x A=>tb a A λ y B=>r x y B Q
def X4 (r:V->Hp->VK->Prop)(a:TE):TE:=λ b H Q=>a b H λ x A=>r x A Q
def rI (C:Int->Int->Prop)(g:Int->Int->V):R2:=λ x y H Q=>∃ i j,x=.int i/\y=.int j/\C i j/\Q (g i j) H
def O6 (g:Int->Int->V):R2:=λ x y H Q=>∃ i j,x=.int i/\y=.int j/\Q (g i j) H
def rU (g:Int->V):V->Hp->VK->Prop:=λ x H Q=>∃ i,x=.int i/\Q (g i) H
section
variable {X:Cx}{a b c:Expr}{ta tb tc:TE}{pos:kK}
def M8 (l:PE X a ta)(m:PE X b tb){d:Á (Addr × Obj)}{s:Ò}{e:St}{H:Hp}{R:V->V->Hp->Prop}(I:Inv X d e H s)
  (h:ta e H λ x C=>tb e C λ y B=>R x y B) {Q:Value->Ò->Prop}{f:Value->Value->W7 Value}
  (n:∀ v u j x y B,Inv X d e B j->RelV x v->RelV y u->R x y B->Ú (à X.prog X.w) X.A (f v u) Q X.xe j) :
  Ú (à X.prog X.w) X.A (Ē a X.env) (λ v g=>Ú (à X.prog X.w) X.A (Ē b X.env) (λ u i=>Ú (à X.prog X.w) X.A (f v u) Q X.xe i) X.xe g) X.xe s:=by
 refine Ź (l d s e H _ I h) λ v t k=>iF k λ x C D q o=>?_;refine Ź (m d t e C _ D o) λ u j k=>iF k λ y B E r p=>?_;exact n v u j x y B E q r p
def SI {e:Operator}{r:R2}(i:jf X (bB e) r) (f:PE X a ta)(g:PE X b tb):PE X (.BinOp a e b pos) (Tc r ta tb):=by
 intro d s m H Q I h;exact wpAny_BinOp (M8 f g I h λ v u l x y A B j k q=>i d l m A x y v u Q B j k q)
def SK (g:Qx X (TM i) r) (f:PE X a ta):PE X (.UnaryOp i a pos) (X4 r ta):=by
 intro d s e H Q I h;exact UnaryOp_ (Ź (f d s e H _ I h) λ v l m=>iF m λ x A B k j=>g d l e A x v Q B k j)
def Ui {f:Value->Value->W7 Value}{C:Int->Int->Prop}{g:Int->Int->Int}
  (rule:∀ (i j:Int) (t u:UR) (s:Ò) (Q:Value->Ò->Prop) (E:Value->Ò->Prop),C i j->Q (.int (g i j) s.toks) { s with toks:=s.toks+1 }->Ú (à X.prog X.w) X.A (f (.int i t) (.int j u)) Q E s) :
  jf X f (rI C λ i j=>.int (g i j)):=by
 intro d s n H x y v u Q I k l h;obtain⟨i,j,rfl,rfl,e,q⟩:=h;obtain⟨t,rfl⟩:=k;obtain⟨m,rfl⟩:=l;exact rule i j t m s _ _ e ⟨.int (g i j),H,I.tok _,⟨_,rfl⟩,q⟩
def VI {f:Value->Value->W7 Value}{g:Int->Int->Int}
  (rule:∀ (i j:Int) (t u:UR) (s:Ò) (Q:Value->Ò->Prop) (E:Value->Ò->Prop),Q (.int (g i j) s.toks) { s with toks:=s.toks+1 }->Ú (à X.prog X.w) X.A (f (.int i t) (.int j u)) Q E s) :
  jf X f (O6 λ i j=>.int (g i j)):=by
 intro d s m H x y v u Q I e k h;obtain⟨i,j,rfl,rfl,q⟩:=h;obtain⟨t,rfl⟩:=e;obtain⟨l,rfl⟩:=k;exact rule i j t l s _ _ ⟨.int (g i j),H,I.tok _,⟨_,rfl⟩,q⟩
def KR {f:Value->Value->W7 Value}{g:Int->Int->Bool}
  (rule:∀ (i j:Int) (t u:UR) (s:Ò) (Q:Value->Ò->Prop) (E:Value->Ò->Prop),Q (.bool (g i j)) s->Ú (à X.prog X.w) X.A (f (.int i t) (.int j u)) Q E s) :
  jf X f (O6 λ i j=>.bl (g i j)):=by
 intro d s m H x y v u Q I e k h;obtain⟨i,j,rfl,rfl,q⟩:=h;obtain⟨t,rfl⟩:=e;obtain⟨l,rfl⟩:=k;exact rule i j t l s _ _ ⟨.bl (g i j),H,I,rfl,q⟩
def Jw (i j:Int):Prop:=0<=j/\j<=1000000/\i.natAbs < 2 ^ 64
def Oy:jf X (bB .Add) (O6 λ i j=>.int (i+j)):=VI λ _ _ _ _ _ _ _ q=>add_int q
def KW:jf X (bB .Mod) (rI (λ _ j=>j≠0) λ i j=>.int (i.fmod j)):=Ui λ _ _ _ _ _ _ _ d q=>mod_int' d q
def OE:jf X (bB .Pow) (rI Jw λ i j=>.int (i ^ j.toNat)):=Ui λ _ _ _ _ _ _ _ d q=>pow_int_small d.1 d.2.1 d.2.2 q
def ZM {f:Value->W7 Value}{g:Int->Int}
  (rule:∀ (i:Int) (t:UR) (s:Ò) (Q:Value->Ò->Prop) (E:Value->Ò->Prop),Q (.int (g i) s.toks) { s with toks:=s.toks+1 }->Ú (à X.prog X.w) X.A (f (.int i t)) Q E s) :
  Qx X f (rU λ i=>.int (g i)):=by
 intro d s j H x v Q I e h;obtain⟨i,rfl,q⟩:=h;obtain⟨t,rfl⟩:=e;exact rule i t s _ _ ⟨.int (g i),H,I.tok _,⟨_,rfl⟩,q⟩
def PH:Qx X (TM .USub) (rU λ i=>.int (-i)):=ZM λ _ _ _ _ _ q=>neg_int q
end
def Ph:V->V->Bool
 | .Ę,.Ę=>true|.Ę,.int _=>true|.int _,.Ę=>true|.Ę,.bl _=>true|.bl _,.Ę=>true|.Ę,.str _=>true|.str _,.Ę=>true
 | .int _,.int _=>true|.bl _,.bl _=>true|.str _,.str _=>true|.AY _,.AY _=>true
 | .int _,.str _=>true|.str _,.int _=>true|.bl _,.str _=>true|.str _,.bl _=>true
 | _,_=>false
def Zz:R2:=λ x y H Q=>Ph x y=true/\Q (.bl (decide (x=y))) H
def ZA:R2:=λ x y H Q=>Ph x y=true/\Q (.bl (!decide (x=y))) H
def B_:decide (V.int i=V.int j)=(i == j):=by
 rw[cC];simp
def FE:decide (V.bl i=V.bl j)=(i == j):=by
 rw[cC];simp
def B':decide (V.str i=V.str j)=(i == j):=by
 rw[cC];simp
def B9:decide (V.AY i=V.AY j)=(i.toList == j.toList):=by
 rw[cC];cases i;cases j;simp
section
variable {X:Cx}{a b c:Expr}{ta tb tc:TE}{pos:kK}
def Ş (I:Inv X d g H s)(q:Q (.bl k) H) (e:k=f):EP X d g Q (.bool f) s:=by
 subst e;exact⟨.bl k,H,I,rfl,q⟩
def Sx:jf X (ĥ .Eq) Zz:=by
 intro k s l H x y v u Q I g d h;obtain⟨f,q⟩:=h;cases x with
 | Ę=>
  cases g;cases y with
  | Ę=>cases d;exact WU (Ş I q (by simp))
  | bl j=>cases d;exact WR (Ş I q (by simp))
  | int j=>obtain⟨e,rfl⟩:=d;exact WT (Ş I q (by simp))
  | str j=>obtain⟨e,rfl⟩:=d;exact WW (Ş I q (by simp))
  | _=>exact absurd (show false=true from f) â
 | bl i=>
  cases g;cases y with
  | Ę=>cases d;exact WN (Ş I q (by simp))
  | bl j=>cases d;exact eq_bool (Ş I q FE)
  | str j=>obtain⟨e,rfl⟩:=d;exact UG (Ş I q (by simp))
  | _=>exact absurd (show false=true from f) â
 | int i=>
  obtain⟨t,rfl⟩:=g;cases y with
  | Ę=>cases d;exact WO (Ş I q (by simp))
  | int j=>obtain⟨e,rfl⟩:=d;exact eq_int (Ş I q B_)
  | str j=>obtain⟨e,rfl⟩:=d;exact UH (Ş I q (by simp))
  | _=>exact absurd (show false=true from f) â
 | str i=>
  obtain⟨t,rfl⟩:=g;cases y with
  | Ę=>cases d;exact WX (Ş I q (by simp))
  | bl j=>cases d;exact UI (Ş I q (by simp))
  | int j=>obtain⟨e,rfl⟩:=d;exact UJ (Ş I q (by simp))
  | str j=>obtain⟨e,rfl⟩:=d;exact eq_str (Ş I q B')
  | _=>exact absurd (show false=true from f) â
 | AY i=>
  obtain⟨t,rfl⟩:=g;cases y with
  | AY j=>obtain⟨e,rfl⟩:=d;exact PySem.W.eq_bytes (Ş I q B9)
  | _=>exact absurd (show false=true from f) â
 | _=>cases y<;>exact absurd (show false=true from f) â
def SE:jf X (ĥ .NotEq) ZA:=by
 intro k s l H x y v u Q I g d h;obtain⟨f,q⟩:=h;cases x with
 | Ę=>
  cases g;cases y with
  | Ę=>cases d;exact W3 (Ş I q (by simp))
  | bl j=>cases d;exact W0 (Ş I q (by simp))
  | int j=>obtain⟨e,rfl⟩:=d;exact W2 (Ş I q (by simp))
  | str j=>obtain⟨e,rfl⟩:=d;exact W4 (Ş I q (by simp))
  | _=>exact absurd (show false=true from f) â
 | bl i=>
  cases g;cases y with
  | Ę=>cases d;exact WY (Ş I q (by simp))
  | bl j=>cases d;exact ne_bool (Ş I q (Ķ not FE))
  | str j=>obtain⟨e,rfl⟩:=d;exact UK (Ş I q (by simp))
  | _=>exact absurd (show false=true from f) â
 | int i=>
  obtain⟨t,rfl⟩:=g;cases y with
  | Ę=>cases d;exact WZ (Ş I q (by simp))
  | int j=>obtain⟨e,rfl⟩:=d;exact ne_int (Ş I q (Ķ not B_))
  | str j=>obtain⟨e,rfl⟩:=d;exact UL (Ş I q (by simp))
  | _=>exact absurd (show false=true from f) â
 | str i=>
  obtain⟨t,rfl⟩:=g;cases y with
  | Ę=>cases d;exact W5 (Ş I q (by simp))
  | bl j=>cases d;exact UM (Ş I q (by simp))
  | int j=>obtain⟨e,rfl⟩:=d;exact UN (Ş I q (by simp))
  | str j=>obtain⟨e,rfl⟩:=d;exact ne_str (Ş I q (Ķ not B'))
  | _=>exact absurd (show false=true from f) â
 | AY i=>
  obtain⟨t,rfl⟩:=g;cases y with
  | AY j=>obtain⟨e,rfl⟩:=d;exact PySem.W.ne_bytes (Ş I q (Ķ not B9))
  | _=>exact absurd (show false=true from f) â
 | _=>cases y<;>exact absurd (show false=true from f) â
def SD:jf X (ĥ .Lt) (O6 λ i j=>.bl (decide (i < j))):=KR λ _ _ _ _ _ _ _ q=>lt_int q
def SA:jf X (ĥ .LtE) (O6 λ i j=>.bl (decide (i<=j))):=KR λ _ _ _ _ _ _ _ q=>le_int q
def Sz:jf X (ĥ .Gt) (O6 λ i j=>.bl (decide (j < i))):=KR λ _ _ _ _ _ _ _ q=>gt_int q
def Sy:jf X (ĥ .GtE) (O6 λ i j=>.bl (decide (j<=i))):=KR λ _ _ _ _ _ _ _ q=>ge_int q
def Ef:jf X (ĥ .Lt) (λ x y H Q=>∃ i j,x=.str i/\y=.str j/\Q (.bl (decide (i.cps.toList < j.cps.toList))) H):=by
 intro d s k H x y v u Q I e f h;obtain⟨i,j,rfl,rfl,q⟩:=h;obtain⟨t,rfl⟩:=e;obtain⟨g,rfl⟩:=f;exact lt_str (Ş I q rfl)
def OC:jf X (ĥ .Is) (λ x y H Q=>y=.Ę/\Q (.bl (decide (x=.Ę))) H):=by
 intro d s g H x y v u Q I e f h;obtain⟨rfl,q⟩:=h;cases f;refine is_none_gen (Ş I q ?_);cases x<;>first
  | (cases e;rfl)
  | (obtain⟨t,rfl⟩:=e;rfl)
def K0 {e:CmpOp}{r:R2}(j:jf X (ĥ e) r) (f:PE X a ta)(g:PE X b tb)(i:ž e b=false):PE X (.Compare a [e] [b] pos) (Tc r ta tb):=by
 intro d s n H Q I h;exact Yl (M8 f g I h λ v u m x y A B k l q=>j d m n A x y v u Q B k l q) i
def Tf (t:TE):TT:=λ d H Q=>t d H λ x A=>∃ k,x=.bl k/\Q k A
def Ll (n:jf X (ĥ i) r) (j:PE X a ta)(l:PE X b tb)(m:ž i b=false):PT X (.Compare a [i] [b] pos) (Tf (Tc r ta tb)):=by
 intro d s g H Q I h;refine L6 (Ź (j d s g H _ I h) λ v J f=>iF f λ x A D t o=>Ź (l d J g A _ D o) λ u L f=>iF f λ y B E w p=>
  Ź (n d L g B x y v u _ E t w p) λ c M ⟨z,C,F,G,k,e,q⟩=>?_) m
 subst e;cases G;exact bU ⟨C,F,q⟩
def M3 (K:É)(x:V)(H:Hp)(k:Bool):Prop:=
 match x with
 | .Ę=>k=false
 | .bl b=>k=b
 | .int i=>k=(i != 0)
 | .str y=>y.length<=sizeLine/\k=((y.length:Int) != 0)
 | .AY y=>y.size<=sizeLine/\k=((y.size:Int) != 0)
 | .ref p=>(∃ xs,eS K H p xs/\k=!xs.isEmpty)∨(∃ xs,fM K H p xs/\k=!xs.isEmpty)∨∃ d,H p=À (.dK d)/\k=!d.isEmpty
 | _=>False
def A9 (r:KV kvs vs):(!vs.isEmpty)=!kvs.isEmpty:=by
 cases r<;>rfl
def t4 (r:Vals xs its):(!its.toArray.isEmpty)=!xs.isEmpty:=by
 cases r<;>simp
def mw:(sizeLine:Nat) < 2 ^ 63:=by rw[ą];decide
def PF:U1 X (λ x H Q=>∃ k,M3 X.K x H k/\Q k H):=by
 intro A s E H x v Q I j h;obtain⟨k,e,q⟩:=h;have hl:=mw;have D:sizeLine=16777216:=ą;cases x with
 | Ę=>
  cases j;have d:k=false:=e;subst d;exact truthy_none ⟨H,I,q⟩
 | bl b=>
  cases j;have d:k=b:=e;subst d;exact bU ⟨H,I,q⟩
 | int i=>
  obtain⟨t,rfl⟩:=j;have d:k=(i != 0):=e;subst d;exact PySem.P.truthy_int ⟨H,I,q⟩
 | str y=>
  obtain⟨t,rfl⟩:=j;obtain⟨C,d⟩:y.length<=sizeLine/\k=((y.length:Int) != 0):=e;subst d;exact PySem.P.truthy_str (by lia) ⟨H,I.tok _,q⟩
 | AY y=>
  obtain⟨t,rfl⟩:=j;obtain⟨C,d⟩:y.size<=sizeLine/\k=((y.size:Int) != 0):=e;subst d;exact PySem.W.truthy_bytes (by lia) ⟨H,I.tok _,q⟩
 | ref p=>
  cases j;have d:(∃ xs,eS X.K H p xs/\k=!xs.isEmpty)∨(∃ xs,fM X.K H p xs/\k=!xs.isEmpty)∨∃ f,H p=À (.dK f)/\k=!f.isEmpty:=e;rcases d with⟨xs,l,d⟩|⟨xs,l,d⟩|⟨f,l,d⟩
  ·subst d;obtain⟨o,r,u,z⟩:=I.list l;have g:=r.length;exact wpAny_truthy_list u.isList (by simp only[Ù];lia) ⟨H,I.tok _,by rw[t4 r];exact q⟩
  ·subst d;obtain⟨o,r,u,z⟩:=I.tuple l;have g:=r.length;exact truthy_tuple u (by simp only[Ù];lia) ⟨H,I.tok _,by rw[t4 r];exact q⟩
  ·subst d;obtain⟨z,B,n,r,m⟩:f.length<=sizeLine/\(p == bC)=false/\∃ n,KV f n/\s.heap.DictOf (ů X.prog X.w) p n:=I.ś p _ l;have g:f.length=n.length:=oW r;exact wpAny_truthy_dict B m (by lia) ⟨H,I.tok _,by rw[A9 r];exact q⟩
 | _=>exact(show False from e).elim
def HC (g:PE X a ta)(i:∀ d,Dl a X.env d=(do let v <-d;jn a.pos;cu [v] (truthy v))) :
  PT X a (λ f H Q=>ta f H λ x H'=>∃ k,M3 X.K x H' k/\Q k H'):=by
 intro e s f H Q I h;exact isTrue_plain (Ź (g e s f H _ I h) λ v m n=>iF n λ x A B l j=>PF e m f A x v Q B l j) (i _)
def Bp:jf X (bB .Add) (λ x y H Q=>∃ i j,x=.str i/\y=.str j/\i.length+j.length<=sizeLine/\Q (.str (i++j)) H):=by
 intro d s m H x y v u Q I f g h;obtain⟨i,j,rfl,rfl,e,q⟩:=h;obtain⟨t,rfl⟩:=f;obtain⟨k,rfl⟩:=g;exact add_str (λ k l=>⟨.str (i++j),H,I.tok _,⟨_,rfl⟩,q⟩) e
def vals1 (r:Vals [x] us):∃ u,us=[u]/\RelV x u:=by
 cases r with
 | cons d e=>cases e;exact⟨_,rfl,d⟩
def vals2 (r:Vals [x,y] us):∃ u d,us=[u,d]/\RelV x u/\RelV y d:=by
 cases r with
 | cons e f=>
  cases f with
  | cons g h=>cases h;exact⟨_,_,rfl,e,g⟩
def Fp:bx X (.builtin "abs") (λ xs H Q=>∃ i,xs=[.int i]/\Q (.int (if i < 0 then -i else i)) H):=by
 intro d s f H xs us Q I r h;obtain⟨i,rfl,q⟩:=h;obtain⟨u,rfl,t,rfl⟩:=vals1 r;exact call_abs_int λ u e=>⟨.int (if i < 0 then -i else i),H,I.tok _,⟨_,rfl⟩,q⟩
end
structure AN (h:Heap)(x dx C:Addr)(mA:Str->Ê Value):Prop where
 obj:h.get? x=À (bh C dx)
 ns:h.Ns1 dx mA
 ne:dx≠x
def DW {h:Heap}{c:Addr}{f:Str->Ê Value}(n:h.Ns1 c f):∃ od,h.get? c=À od/\∀ name,nt name od=À (f name):=by
 obtain⟨o,d,m,k,hd,i,_,j⟩:=n;refine⟨o,k,λ name=>?_⟩;have e:=j name;unfold nsFind findBy at e;rw[<-Array.find?_toList]at e;unfold nt;rw[hd];dsimp only;split
 ·rename_i y q;rw[q]at e;exact Ķ À e
 ·rename_i q;rw[q]at e;have a:d.toList.any (·.refKey)=false:=by
   rw[sE];intro y l;obtain⟨z,t,b⟩:=i y (nQ.mp l);simp[DictEntry.refKey,b]
  have g:¬ d.toList.any (·.refKey)=true:=by rw[a];exact â
  rw[Ô g];exact Ķ À e
def AN.look (I:AN h x a C c):∃ od,PySem.W.InstAt h x (bh C a) C (À od)/\∀ name,nt name od=À (c name):=
 let ⟨od,b,hl⟩:=DW I.ns
 ⟨od,⟨I.obj,rfl,rfl,b⟩,hl⟩
section
variable {prog:Ĉ}{w:Ĩ}{A:į}{E:Value->Ò->Prop}{s:Ò}{K:É}{x dx C f:Addr}{mA:Str->Ê Value}{name:Str}{v:Value}
def get_map (X:K.In s.heap)(I:AN s.heap x dx C mA)(d:gh K C name=true)(e:jZ K C=true)
  (c:ú K (.ref C) name=À none) (g:mA name=À v) (a:EX v=true) (h:Q v { s with toks:=s.toks+1 }) :
  Ú (à prog w) A (getAttr (.ref x) name b) Q E s:=by
 obtain⟨i,J,hl⟩:=I.look;exact PySem.W.get_value X J (nX d).1 (PySem.W.findObj_own e c rfl (by rw[hl,g])) a h
def F6 (X:K.In s.heap)(I:AN s.heap x dx C mA)(a:gh K C name=true)
  (b:ú K (.ref C) name=À (À (.ref f))) (c:lL K (.ref f)=true) (d:mA name=none) (h:Q (.ref f,[.ref x]) s) :
  Ú (à prog w) A (nY (.ref x) name pl) Q E s:=by
 obtain⟨e,J,hl⟩:=I.look;exact PySem.W.method_fn X J (nX a).1 (nX a).2 b (ji.mp c) (by show(nt name e).map (·.isSome)=À false;rw[hl,d];rfl) h
def Lz (X:K.In s.heap)(I:AN s.heap x dx C mA)
  (p:ú K (.ref C) "__setattr__"=À (À (.builtin "object.__setattr__"))) (o:qb K C=true) (q:tf K C name=À none) (n:jZ K C=true)
  (hw:AI mA ns) (hsz:ns.length<=sizeLine)
  (h:∀ h',AN h' x dx C (λ y=>if y=name then À v else mA y)->dR dx s.heap h'->Q () { s with heap:=h',toks:=s.toks+2 }) :
  Ú (à prog w) A (setAttr (.ref x) name v) Q E s:=by
 obtain⟨z,J,hl⟩:=I.look;refine PySem.W.set_plain X J p (PySem.W.osa_open (s:={ s with toks:=s.toks+1 }) (r:=none) X J o q λ b=>?_);obtain⟨u,m,g⟩:=PySem.W.any_some n;have t:s.heap.get? x=À ⟨.ref C,À dx,.plain,#[]⟩:=I.obj;refine Â (Ë (Â (Â (Ym t (Â (UO (s:={ s with toks:=s.toks+1 }) (PySem.W.looks_clsIn X m) ?_))))));rw[g];refine Ë (a:=À dx) (Â (Ë (Â ?_)));refine wpAny_nsSet1 (s:={ s with toks:=s.toks+1 }) I.ns λ h' c d=>?_;obtain⟨oD,l,k,j,i,e⟩:=c.count (W6 name v hw);refine Â (wpAny_lookBehind j (by rw[i];exact pastItsLine_dict (Đ e (by rw[ē];lia))) ?_);exact Ë (h _ ⟨(d.2 _ (Ŋ I.ne)).trans I.obj,c,I.ne⟩ d)
def Gy (X:K.In s.heap)(i:s_ K C=true)
  (e:ú K (.ref C) "__init__"=À (À (.ref f))) (c:vo K (.ref f)=À (.type "function"))
  (h:dW (à prog w) (A.under (.builtin "type.__call__" ⟨.ref C :: vs,b⟩)) (.call (.ref f) ⟨.ref (s.heap.objs.size+1) :: vs,b⟩) (PySem.W.InitBack (s.heap.objs.size+1) R)
   { s with heap:=(s.heap.push ų).push (bh C s.heap.objs.size) }) :
  dW (à prog w) A (.call (.ref C) ⟨vs,b⟩) R s:=by
 obtain⟨j,g,d,t,os⟩:=s;exact PySem.W.make_core (PySem.W.makes_of X i) (PySem.W.looks_findIn X e) (λ a=>PySem.W.bind_fn X a c) (.inl rfl) h
end
def lz (f:Str)(v:V):Á (Str × V)->Á (Str × V)
 | []=>[(f,v)]
 | (g,x) :: r=>if g=f then (g,v) :: r else (g,x) :: lz f v r
theorem rx (f g:Str)(v:V):∀ fs:Á (Str × V),(lz f v fs).lookup g=if g=f then À v else fs.lookup g
 | []=>by
  show dG g [(f,v)]=_;by_cases h:g=f
  ·have a:(g == f)=true:=ji.mpr h;simp only[dG,a,Ï h]
  ·have a:(g == f)=false:=œ.mpr h;simp only[dG,a,Ô h]
 | (k,x) :: r=>by
  have c:=rx f g v r;rw[show lz f v ((k,x) :: r)=(if k=f then (k,v) :: r else (k,x) :: lz f v r) from rfl];by_cases b:k=f
  ·rw[Ï b];by_cases h:g=k
   ·have a:(g == k)=true:=ji.mpr h;simp only[dG,a,Ï (h.trans b)]
   ·have a:(g == k)=false:=œ.mpr h;simp only[dG,a,Ô (λ e:g=f=>h (e.trans b.symm))]
  ·rw[Ô b];by_cases h:g=k
   ·have a:(g == k)=true:=ji.mpr h;simp only[dG,a,Ô (λ e:g=f=>b (h.symm.trans e))]
   ·have a:(g == k)=false:=œ.mpr h;simp only[dG,a];exact c
theorem qy (f:Str)(v:V):∀ fs:Á (Str × V),f∈(lz f v fs).map (·.1)/\∀ g,g∈fs.map (·.1)->g∈(lz f v fs).map (·.1)
 | []=>⟨by simp[lz],λ g h=>by simp at h⟩
 | (k,x) :: r=>by
  obtain⟨b,c⟩:=qy f v r;rw[show lz f v ((k,x) :: r)=(if k=f then (k,v) :: r else (k,x) :: lz f v r) from rfl];by_cases a:k=f
  ·rw[Ï a];subst a;exact⟨by simp,λ g h=>by simpa using h⟩
  ·rw[Ô a];refine⟨?_,λ g h=>?_⟩
   ·rw[Õ];exact þ _ b
   ·rw[Õ]at h ⊢;rcases Þ.mp h with e|e
    ·exact Þ.mpr (.inl e)
    ·exact þ _ (c g e)
theorem rq (f:Str)(v:V):∀ fs:Á (Str × V),(lz f v fs).length<=fs.length+1
 | []=>by simp[lz]
 | (k,x) :: r=>by
  have b:=rq f v r;rw[show lz f v ((k,x) :: r)=(if k=f then (k,v) :: r else (k,x) :: lz f v r) from rfl];by_cases a:k=f
  ·rw[Ï a,ē,ē];lia
  ·rw[Ô a,ē,ē];lia
def lQ.some_of (r:lQ (À v) o):∃ u,o=À u/\RelV v u:=by
 cases o with
 | none=>exact(show False from r).elim
 | some u=>exact⟨u,rfl,r⟩
def lQ.none_of (r:lQ none o):o=none:=by
 cases o with
 | none=>rfl
 | some u=>exact(show False from r).elim
def DL (r:RelV v u):EX u=true:=by
 cases v with
 | Ę=>cases (show u=ì from r);rfl
 | bl b=>cases (show u=eN b from r);rfl
 | int i=>obtain⟨t,e⟩:=(show ∃ t,u=lM i t from r);cases e;rfl
 | str x=>obtain⟨t,e⟩:=(show ∃ t,u=tj x t from r);cases e;rfl
 | AY b=>obtain⟨t,e⟩:=(show ∃ t,u=TB b t from r);cases e;rfl
 | Mb b=>obtain⟨t,e⟩:=(show ∃ t,u=Dc b t from r);cases e;rfl
 | ref a=>cases (show u=Ñ a from r);rfl
 | ty n=>cases (show u=dz n from r);rfl
section
variable {P:Ĉ}{w:Ĩ}{H H':Hp}{h h':Heap}{a C dx:Addr}{fs YA:Á (Str × V)}
def sN (c:lP P w H h)(e:H a=À (.ins C dx fs)):∃ b,AN h a dx C b/\(∀ f,lQ (fs.lookup f) (b f))/\AI b (fs.map (·.1))/\fs.length<=1000/\H dx=À (.own a):=by
 obtain⟨d,z,g,i,b,n,r,q⟩:=(show Ŕ P w H h a (.ins C dx fs) from c a _ e)
 exact⟨b,⟨i,n,g⟩,r,q,z,d⟩
end
structure y9 (K:É)(C:Addr):Prop where
 pg:gh K C fB=true
 hd:jZ K C=true
 po:qb K C=true
 sa:ú K (.ref C) "__setattr__"=À (À (.builtin "object.__setattr__"))
def y9.get {K:É}{C:Addr}(c:y9 K C)(f:Str):gh K C f=true:=c.pg
def jG (K:É)(C:Addr)(f:Str):Prop:=ú K (.ref C) f=À none
def jG.Tg {K:É}{C:Addr}{f:Str}(n:jG K C f):tf K C f=À none:=by
 unfold tf;rw[show ú K (.ref C) f=À none from n];rfl
structure Meth (K:É)(C:Addr)(m:Str)(f:Addr):Prop where
 at_:ú K (.ref C) m=À (À (.ref f))
 fn:lL K (.ref f)=true
 kp:ī K (.ref f)=true
section
variable {X:Cx}{õ:Á (Addr × Obj)}{σ:St}{H:Hp}{s:Ò}{a C dx:Addr}{fs:Á (Str × V)}{f:Str}{v:V}{A:į}{E:Value->Ò->Prop}
def A6 (I:Inv X õ σ H s)(e:H a=À (.ins C dx fs)) (c:y9 X.K C)(n:jG X.K C f)(l:fs.lookup f=À v)
  (h:∀ u s',Inv X õ σ H s'->RelV v u->Q u s'):Ú (à X.prog X.w) A (getAttr (.ref a) f b) Q E s:=by
 obtain⟨g,O,r,_,_,_⟩:=sN I.ś e;obtain⟨u,hu,d⟩:=lQ.some_of (v:=v) (o:=g f) (by rw[<-l];exact r f);exact get_map I.ll O (c.get f) c.hd n hu (DL d) (h u _ (I.tok _) d)
def og (I:Inv X õ σ H s)(e:H a=À (.ins C dx fs)) (c:y9 X.K C)(k:Meth X.K C m g)(l:fs.lookup m=none)
  (h:Q (.ref g,[.ref a]) s):Ú (à X.prog X.w) A (nY (.ref a) m pl) Q E s:=by
 obtain⟨d,O,r,_,_,_⟩:=sN I.ś e;have b:d m=none:=lQ.none_of (by rw[<-l];exact r m);exact F6 I.ll O (c.get m) k.at_ k.fn b h
def BB (I:Inv X õ σ H s)(e:H a=À (.ins C dx fs)) (c:y9 X.K C)(n:jG X.K C f)(hl:fs.length < 1000)(D:RelV y u)
  (h:∀ s',Inv X õ σ (upd H a (.ins C dx (lz f y fs))) s'->Q () s'):Ú (à X.prog X.w) A (setAttr (.ref a) f u) Q E s:=by
 obtain⟨i,O,r,j,_,d⟩:=sN I.ś e;have t:(fs.map (·.1)).length<=sizeLine:=by rw[Î,ą];lia
 refine Lz I.ll O c.sa c.po n.Tg c.hd j t λ l B F=>h _ ?_;have hd:∃ o,l.get? dx=À o:=let ⟨o,_,_,k,_⟩:=B.ns;⟨o,k⟩;refine I.write (x:=a) (e:=dx) (by rw[e];exact a7) (.inr d) (λ b q m z=>(F.2 b m).trans z) hd ?_;refine⟨by rw[ä O.ne];exact d,?_,O.ne,B.obj,_,B.ns,λ g=>?_,λ g p=>?_⟩
 ·have:=rq f y fs;lia
 ·show lQ ((lz f y fs).lookup g) (if g=f then À u else i g);rw[rx];by_cases q:g=f
  ·rw[Ï q,Ï q];exact D
  ·rw[Ô q,Ô q];exact r g
 ·by_cases q:g=f
  ·rw[q];exact(qy f y fs).1
  ·refine(qy f y fs).2 g (j g λ z=>p ?_);show(if g=f then À u else i g)=none;rw[Ô q];exact z
def Inv.made (I:Inv X õ σ H s):Inv X õ σ (upd (upd H s.heap.objs.size (.own (s.heap.objs.size+1))) (s.heap.objs.size+1) (.ins C s.heap.objs.size []))
  { s with heap:=(s.heap.push ų).push (bh C s.heap.objs.size) }:=by
 have c:(s.heap.push ų).get? s.heap.objs.size=À ų:=Ö s.heap rfl;have g:((s.heap.push ų).push (bh C s.heap.objs.size)).get? (s.heap.objs.size+1)=À (bh C s.heap.objs.size):=by
  have:=Ö (s.heap.push ų) (o:=bh C s.heap.objs.size) rfl;rwa [ĸ]at this
 have h:(s.heap.push ų).Ns s.heap.objs.size (λ _=>none):=⟨ų,#[],_,c,rfl,(λ e i=>absurd i (by simp)),λ _=>rfl⟩
 have B:=I.laid (a:=s.heap.objs.size) (o:=.own (s.heap.objs.size+1)) (h':=s.heap.push ų) (t':=s.toks) (λ b u q=>Ã _ q) (Ì _) ⟨_,c⟩;refine B.laid (a:=s.heap.objs.size+1) (o:=.ins C s.heap.objs.size []) (t':=s.toks) (λ b u q=>Ã _ q) (jD (ĸ _ _)) ?_;have d:s.heap.objs.size≠s.heap.objs.size+1:=ê (dZ _);refine⟨by rw[ä d,ù],ï _,d,g,λ _=>none,(Heap.Ns1.of_empty h).at λ o q=>Ã _ q,λ _=>a7,λ y j=>absurd rfl j⟩
def JA (c:aF e f env (Ē e env)=Ē e env)
  (h:Ú (à prog w) A (Ē e env) (λ o b=>Ú (à prog w) A (getAttr o f true) Q E b) E s):Ú (à prog w) A (Ē (.Attribute e f pos) env) Q E s:=
 Attribute_any_ h (by rw[arm_eval_Attribute,c])
end
def V' (K:É)(d:TE)(f:Str):TE:=λ e H Q=>d e H λ x A=>∃ a C c b v,x=.ref a/\A a=À (.ins C c b)/\y9 K C/\jG K C f/\b.lookup f=À v/\Q v A
def V1 (K:É)(e g:TE)(f:Str):TS:=λ D c H=>g c H λ y B=>e c B λ x A=>∃ a C d b,x=.ref a/\A a=À (.ins C d b)/\y9 K C/\jG K C f/\b.length < 1000/\
 D.nx c (upd A a (.ins C d (lz f y b)))
section
variable {X:Cx}{o e value:Expr}{f:Str}{pos pos' LN:kK}{ta tv:TE}
def OJ (j:PE X e ta)(i:aF e f X.env (Ē e X.env)=Ē e X.env):PE X (.Attribute e f pos) (V' X.K ta f):=by
 intro b s r H Q I h;refine JA i (Ź (j b s r H _ I h) λ u y p=>?_);obtain⟨x,A,B,m,a,C,t,w,v,g,d,c,n,l,q⟩:=p;subst g;obtain rfl:u=Ñ a:=m;exact A6 B d c n l λ E z D k=>⟨v,A,D,k,q⟩
def OY (j:PE X o ta)(m:PE X value tv)(k:dJ value (À (.Attribute o f pos')) pos.line X.env=pure false):PS X (.Assign [.Attribute o f pos'] value pos) (V1 X.K ta tv f):=by
 intro b s d H D I h;refine plainObj_wpAny_Assign_Attribute (Ź (m b s d H _ I h) λ u w z=>iF z λ y A B v q=>Ź (j b w d A _ B q) λ p M ⟨x,G,E,t,a,C,J,L,i,g,c,n,l,r⟩=>?_) k;subst i;obtain rfl:p=Ñ a:=t;exact BB E g c n l v λ N F=>⟨d,_,F,r⟩
def Mv (t:PE X e z)(I:Inv X d i H s)
  (h:z i H λ x B=>∃ a C j fs g,x=.ref a/\B a=À (.ins C j fs)/\y9 X.K C/\Meth X.K C m g/\fs.lookup m=none/\
   ∀ s1,Inv X d i B s1->Ú (à X.prog X.w) X.A (wV pos (.ref g) [.ref a] (Ĝ pos (Í args X.env)) (fI pos (bj [] X.env))) Q X.xe s1)
  (v:Ē (.Call (.Attribute e m b) args [] pos) X.env=(do
   let n <-Ē e X.env
   jn b.atName
   let (f,first) <-cu [n] (nY n m pl)
   wV pos f first (Ĝ pos (Í args X.env)) (fI pos (bj [] X.env)))) :
  Ú (à X.prog X.w) X.A (Ē (.Call (.Attribute e m b) args [] pos) X.env) Q X.xe s:=by
 refine l0 (pl:=pl) (Ź (t d s i H _ I h) λ u s1 ⟨x,B,D,y,a,C,j,fs,g,r,p,c,k,l,q⟩=>?_) v;subst r;obtain rfl:u=Ñ a:=y;exact og D p c k l (q s1 D)
end
section
variable {X:Cx}{õ:Á (Addr × Obj)}{σ:St}{H:Hp}{s:Ò}{A:į}{E:Value->Ò->Prop}{Q:Value->Ò->Prop}{c:Value}{b:Bool}
inductive r4 (K:É) (H:Hp):V->Value->Prop where
 | Ę:r4 K H .Ę (.type "NoneType")
 | bl (x:Bool):r4 K H (.bl x) (.type "bool")
 | int (i:Int):r4 K H (.int i) (.type "int")
 | str (x:Str):r4 K H (.str x) (.type "str")
 | Mb (x:UInt64):r4 K H (.Mb x) (.type "float")
 | lst {a:Addr}{xs:Á V}(e:H a=À (.lst xs)):r4 K H (.ref a) (.type "list")
 | hV {a:Addr}{o:Obj}{xs:Á V}(e:H a=À (.hV o (.lst xs))):r4 K H (.ref a) (.type "list")
 | tup {a:Addr}{xs:Á V}(e:H a=À (.tup xs)):r4 K H (.ref a) (.type "tuple")
 | dK {a:Addr}{kvs:Á (Key × V)}(e:H a=À (.dK kvs)):r4 K H (.ref a) (.type "dict")
 | dT {a:Addr}{kvs:Á (Á Key × V)}(e:H a=À (.dT kvs)):r4 K H (.ref a) (.type "dict")
 | ins {a C dx:Addr}{fs:Á (Str × V)}(e:H a=À (.ins C dx fs)) (cl:y9 K C) (ha:ú K (.ref C) "__class__"=À (À (.builtin "object.__class__")))
   (hn:fx K (.builtin "object.__class__") "__get__"=À (À (.builtin "getset_descriptor.__get__"))) (htk:ic K (.builtin "object.__class__")=À true)
   (hm:oU K C (.type "object")=À true):r4 K H (.ref a) (.ref C)
def mT (I:Inv X õ σ H s)(f:RelV x u)(L:r4 X.K H x t)(e:nq X.K t c=À b)(h:∀ G,Q (.bool b) { s with toks:=G }) :
  Ú (à X.prog X.w) A (call (.builtin "isinstance") [u,c]) Q E s:=by
 cases L with
 | Ę=>cases (show u=ì from f);exact Ĳ PySem.W.kitx_none I.ll a7 e (λ z=>nomatch z) h
 | bl y=>cases (show u=eN y from f);exact Ĳ PySem.W.kitx_bool I.ll a7 e (λ z=>nomatch z) h
 | int i=>obtain⟨t,q⟩:=(show ∃ t,u=lM i t from f);cases q;exact Ĳ PySem.W.kitx_int I.ll a7 e (λ z=>nomatch z) h
 | str y=>obtain⟨t,q⟩:=(show ∃ t,u=tj y t from f);cases q;exact Ĳ PySem.W.kitx_str I.ll a7 e (λ z=>nomatch z) h
 | Mb y=>obtain⟨t,q⟩:=(show ∃ t,u=Dc y t from f);cases q;exact Ĳ PySem.W.kitx_float I.ll a7 e (λ z=>nomatch z) h
 | @lst a xs d=>
  cases (show u=Ñ a from f);obtain⟨_,_,n,_,g⟩:=(show Ŕ X.prog X.w H s.heap a (.lst xs) from I.ś a _ d)
  exact Ĳ p_ I.ll ⟨_,g,rfl⟩ e (λ z=>nomatch z) h
 | @hV a F xs d=>
  cases (show u=Ñ a from f);obtain⟨_,_,_,n,_,g⟩:=(show Ŕ X.prog X.w H s.heap a (.hV F (.lst xs)) from I.ś a _ d)
  exact Ĳ p_ I.ll ⟨_,g,rfl⟩ e (λ z=>nomatch z) h
 | @tup a xs d=>
  cases (show u=Ñ a from f);obtain⟨_,_,_,p⟩:=(show Ŕ X.prog X.w H s.heap a (.tup xs) from I.ś a _ d)
  obtain⟨o,g,k,_⟩:=p;exact Ĳ C9 I.ll ⟨o,g,k⟩ e (λ z=>nomatch z) h
 | @dK a j d=>
  cases (show u=Ñ a from f);obtain⟨_,_,U,_,p⟩:=(show Ŕ X.prog X.w H s.heap a (.dK j) from I.ś a _ d)
  obtain⟨o,r,m,g,k,_⟩:=p;exact Ĳ p8 I.ll ⟨o,g,k.1⟩ e (λ z=>nomatch z) h
 | @dT a j d=>
  cases (show u=Ñ a from f);obtain⟨_,_,xs,_,o,r,m,g,k,_⟩:=(show Ŕ X.prog X.w H s.heap a (.dT j) from I.ś a _ d)
  exact Ĳ p8 I.ll ⟨o,g,k.1⟩ e (λ z=>nomatch z) h
 | @ins a C M N d cl v D l B=>
  cases (show u=Ñ a from f);obtain⟨P,O,_⟩:=sN I.ś d;obtain⟨T,J,_⟩:=O.look;exact Ĳ (PySem.W.kitx_own (cl.get _) cl.hd v D l B) I.ll J e (λ z=>nomatch z) h
end
structure cb (k:Nat)(A:į):Prop where
 hd:A.handled=none
 gd:A.guards=À []
 dp:A.depth+3 * k+5 < recursionLimit
 un:A.units+16 * k+200 < cLine
def cb.mono (r:cb k A)(h:j<=k):cb j A:=⟨r.hd,r.gd,by have:=r.dp;lia,by have:=r.un;lia⟩
theorem cb.deeper (r:cb (k+1) A) (env:yJ):cb k (A.deeper env):=
 ⟨r.hd,r.gd,by have:=r.dp;show A.depth+1+3 * k+5 < _;lia,by have:=r.un;show A.units+3+16 * k+200 < _;lia⟩
def Bb {A:į}{C:Addr}{us:Á Value}{a:Á (Str × Value)}:(A.under (.builtin "type.__call__" ⟨.ref C :: us,a⟩)).depth=A.depth+1:=by
 first|rfl|simp[qX,Code.weight,Code.isCreation,Tq,Code.isCaller,UC,BR,guardIds]
def Bc {A:į}{C:Addr}{us:Á Value}{a:Á (Str × Value)}:(A.under (.builtin "type.__call__" ⟨.ref C :: us,a⟩)).units=A.units+1:=by
 first|rfl|simp[qX,Code.cUnits,UC,BR]
def zN {A:į}{C:Addr}{us:Á Value}{a:Á (Str × Value)}:(A.under (.builtin "type.__call__" ⟨.ref C :: us,a⟩)).guards=A.guards:=by
 first|rfl|simp[qX,Code.guards,pushGuards,Tq,guardIds]
def cb.make {k:Nat}{A:į}(r:cb (k+1) A) (C:Addr)(us:Á Value)(a:Á (Str × Value)):cb k (A.under (.builtin "type.__call__" ⟨.ref C :: us,a⟩)):=
 ⟨r.hd,by rw[zN];exact r.gd,by have:=r.dp;rw[Bb];lia,by have:=r.un;rw[Bc];lia⟩
theorem cb.depth (r:cb k A):A.depth < recursionLimit:=by have:=r.dp;lia
theorem cb.units (r:cb k A):A.units+64 < cLine:=by have:=r.un;lia
def yo:TA:=λ _ H Q=>Q [] H
def uS (b:TE)(c:TA):TA:=λ a H Q=>b a H λ x A=>c a A λ xs B=>Q (x :: xs) B
section
variable {X:Cx}{e:Expr}{es:Á Expr}{te:TE}{t:TA}{pos:kK}
def eh:PA X [] yo:=λ _ _ _ _ H Q I h=>kB ⟨[],H,I,.nil,h⟩
def aI (d:PE X e te)(hr:PA X es t)(f:Í (e :: es) X.env=(false,Ē e X.env) :: Í es X.env:=by rfl):PA X (e :: es) (uS te t):=by
 intro pos a s c H Q I h;rw[f];show Ú _ _ (spliced ((false,Ē e X.env) :: Ĝ pos (Í es X.env))) _ _ s;refine eK (Ź (d a s c H _ I h) λ u l b=>iF b λ x A C j g=>?_);exact Ź (hr pos a l c A _ C g) λ us m b=>iF b λ xs B D k i=>⟨x :: xs,B,D,.cons j k,i⟩
def Wj (t:TA):TE:=λ a H Q=>t a H λ xs A=>xs.length<=sizeLine/\∀ p,A p=none->Q (.ref p) (upd A p (.tup xs))
def Wd (t:TA):TE:=λ a H Q=>t a H λ xs A=>xs.length<=sizeLine/\∀ p,A p=none->Q (.ref p) (upd A p (.lst xs))
def Br (h:PA X es t):PE X (.Tuple es x1 pos) (Wj t):=by
 intro a s g H Q I f;refine wpAny_Tuple_spliced (Ź (h pos a s g H _ I f) λ us c ⟨xs,A,B,r,z,q⟩=>⟨by rw[<-r.length];exact z,?_⟩);have d:A c.heap.objs.size=none:=B.ś.fresh (Ì _);refine⟨.ref c.heap.objs.size,upd A c.heap.objs.size (.tup xs),B.laid (t':=c.toks) (λ b u e=>Ã _ e) (Ì _) ?_,rfl,q _ d⟩;exact⟨z,us,r,⟨_,Ö _ rfl,rfl,_,rfl⟩⟩
def ON (h:PA X es t):PE X (.List es pos) (Wd t):=by
 intro a s g H Q I f;refine wpAny_List_spliced (Ź (h pos a s g H _ I f) λ us c ⟨xs,A,B,r,z,q⟩=>⟨by rw[<-r.length];exact z,?_⟩);have d:A c.heap.objs.size=none:=B.ś.fresh (Ì _);refine⟨.ref c.heap.objs.size,upd A c.heap.objs.size (.lst xs),B.laid (t':=c.toks) (λ b u e=>Ã _ e) (Ì _) ?_,rfl,q _ d⟩;exact⟨z,us,0,r,Ö _ rfl⟩
end
abbrev Sp:=Á V->Hp->VK->XK->Prop
abbrev E7:=Á yJ->Hp->Ò->XK->Value->Ò->Prop
structure AM (P:Ĉ)(w:Ĩ)(K:É)(mg:Str->Ê Value)(base:Heap)(A:į)(outer:Á yJ)(s:Ò)(H:Hp):Prop where
 frames:A.frames=À outer
 mod:Mod K mg base
 bs:∀ b o,base.get? b=À o->s.heap.get? b=À o/\H b=none
 Du:base.objs.size<=s.heap.objs.size
 n8:s.heap.FunFrames base outer
 Jc:∀ b∈yG outer,H b=none
 ś:lP P w H s.heap
 bare:mH s.gens
def CE (outer:Á yJ)(P:Ĉ)(w:Ĩ)(H:Hp)(s:Ò)(Q:VK)(u:Value)(s':Ò):Prop:=
 ∃ v A,s'.os=s.os/\mH s'.gens/\Un (yG outer) [] H A s.heap s'.heap/\lP P w A s'.heap/\RelV v u/\Q v A
def CR (CX:E7)(outer:Á yJ)(P:Ĉ)(w:Ĩ)(H:Hp)(s:Ò)(Q:VK)(E:XK)(r:Qi)(s':Ò):Prop:=
 match r with
 | .ok (.ret u)=>CE outer P w H s Q u s'
 | .ok _=>False
 | .error e=>CX outer H s E e s'
structure gC (P:Ĉ)(w:Ĩ)(K:É)(mg:Str->Ê Value)(base:Heap)(CX:E7)(k:Nat)(f:Addr)(fd:cz)(ps:Á Str)(sp:Sp):Prop where
 len:∀ vs H Q E,sp vs H Q E->vs.length=ps.length
 run:∀ (A:į) (outer:Á yJ) (s:Ò) (H:Hp) (args:Args) (us:Á Value) (vs:Á V) (Q:VK) (E:XK),cb k A->AM P w K mg base A outer s H->sy s fd args (ps.zip us)->Vals vs us->sp vs H Q E->
  dW (à P w) A (.call (.ref f) args) (CR CX outer P w H s Q E) s
def gC.imp {P:Ĉ}{w:Ĩ}{K:É}{mg:Str->Ê Value}{base:Heap}{CX:E7}{k:Nat}{f:Addr}{d:cz}{ps:Á Str}{sp c:Sp}(F:gC P w K mg base CX k f d ps sp)
  (h:∀ vs H Q E,c vs H Q E->sp vs H Q E):gC P w K mg base CX k f d ps c:=
 ⟨λ vs H Q E q=>F.len vs H Q E (h _ _ _ _ q),λ A a s H b us vs Q E hr g e j i=>F.run A a s H b us vs Q E hr g e j (h _ _ _ _ i)⟩
def AM.make {P:Ĉ}{w:Ĩ}{K:É}{mg:Str->Ê Value}{base:Heap}{A:į}{outer:Á yJ}{s:Ò}{H:Hp}(e:AM P w K mg base A outer s H)(C:Addr)(us:Á Value)(a:Á (Str × Value)) :
  AM P w K mg base (A.under (.builtin "type.__call__" ⟨.ref C :: us,a⟩)) outer s H:=⟨by first|exact e.frames|(simpa[qX,Code.envs,BR,pushEnvs]using e.frames),e.mod,e.bs,e.Du,e.n8,e.Jc,e.ś,e.bare⟩
section
variable {X:Cx}{õ:Á (Addr × Obj)}{σ:St}{H:Hp}{s s':Ò}
def Inv.Rq (I:Inv X õ σ H s):AM X.prog X.w X.K X.mg X.base X.A X.stack s H:=
 ⟨I.ok.frames,I.ok.mod,I.bs,Đ I.ok.Du I.sz,I.stack,I.sR,I.ś,I.bare⟩
def Inv.after (I:Inv X õ σ H s)(h:CE X.stack X.prog X.w H s Q u s'):EP X õ σ Q u s':=by
 obtain⟨v,A,os,a,i,c,r,q⟩:=h;obtain⟨f,g,d,t,e⟩:=s';obtain rfl:e=s.os:=os;exact⟨v,A,I.call (h':=f) (g':=g) (d':=d) (t':=t) (ch:=[]) i c a (λ b z=>absurd z (by simp)),r,q⟩
end
def HV (sp:Sp)(a:Á V)(E:XK)(t:TA):TE:=λ c H Q=>t c H λ b A=>sp (b++a) A Q E
def HX (C:Addr)(m:Str)(sp:Sp)(b:Á V)(E:XK)(f:TE)(t:TA):TE:=λ d H Q=>f d H λ x A=>∃ a e c,x=.ref a/\A a=À (.ins C e c)/\c.lookup m=none/\
 t d A λ g B=>sp (x :: (g++b)) B Q E
def S_ (C:Addr)(sp:Sp)(b:Á V)(E:XK)(t:TA):TE:=λ d H Q=>t d H λ c A=>∀ x a,A x=none->A a=none->a≠x->
 sp (.ref x :: (c++b)) (upd (upd A a (.own x)) x (.ins C a [])) (λ v B=>v=.Ę/\Q (.ref x) B) E
def Binds (K:É)(a:cz)(ps:Á Str)(ds:Á Value):Prop:=
 ∀ (s:Ò) (us:Á Value),K.In s.heap->(us++ds).length=ps.length->sy s a ⟨us,[]⟩ (ps.zip (us++ds))
def Binds.all {K:É}{a:cz}{ps:Á Str}(h:∀ us:Á Value,us.length=ps.length->jE a ⟨us,[]⟩=pure (ps.zip us)):Binds K a ps []:=λ s us _ hl=>by
 rw[cE]at hl ⊢;exact .of_eq (h us hl)
def Passes (CX:E7)(X:Cx)(E:XK):Prop:=∀ (a:Á (Addr × Obj)) (b:St) (H:Hp) (s:Ò) (e:Value) (s':Ò),Inv X a b H s->CX X.stack H s E e s'->X.xe e s'
section
variable {X:Cx}{CX:E7}{k:Nat}{f C:Addr}{fd:cz}{ps:Á Str}{sp:Sp}{zq:Á V}{ds:Á Value}{E:XK}{x m:Str}{p pos jI:kK}{e o:Expr}{es:Á Expr}{ta:TE}{t:TA}
def ye (F:gC X.prog X.w X.K X.mg X.base CX k f fd ps sp)(hr:cb k X.A)(i:Binds X.K fd ps ds)(hd:Vals zq ds)(j:Passes CX X E)
  (I:Inv X a d H s) (r:Vals vs us) (h:sp (vs++zq) H Q E):Ú (à X.prog X.w) X.A (call (.ref f) us) (EP X a d Q) X.xe s:=by
 have c:Vals (vs++zq) (us++ds):=r.append hd;have hl:(us++ds).length=ps.length:=by rw[<-c.length];exact F.len _ _ _ _ h
 refine vp (oZ (F.run X.A X.stack s H ⟨us,[]⟩ (us++ds) (vs++zq) Q E hr I.Rq (i s us I.ll hl) c h) λ r s' b=>?_);cases r with
 | error e=>exact j a d H s e s' I b
 | ok g=>
  cases g with
  | ret u=>exact I.after b
  | next=>exact ag b
  | brk=>exact ag b
  | cont=>exact ag b
def KZ (F:gC X.prog X.w X.K X.mg X.base CX k f fd ps sp)(hr:cb k X.A)(j:Gl X x)(n:X.mg x=À (.ref f)) (l:ī X.K (.ref f)=true) (g:Binds X.K fd ps ds)(hd:Vals zq ds)(u:Passes CX X E)
  (d:PA X (e :: es) t) (b:(x == ("__debug__":Str))=false:=by decide) (i:Í (e :: es) X.env=(false,Ē e X.env) :: Í es X.env:=by rfl) (c:(Ĝ pos (Í es X.env)).any (·.1)=false:=by rfl) :
  PE X (.Call (.Name x p) (e :: es) [] pos) (HV sp zq E t):=by
 intro a s y H Q I h;refine Ŵ (mX I j n ?_ b);refine oX (h₀:=X.base) I.ok.mod.RQ l (Ź (d pos a s y H _ I h) λ us z v=>iF v λ G D B r q=>⟨B.ll,?_⟩) i c;exact ye F hr g hd u B r q
def Hf (F:gC X.prog X.w X.K X.mg X.base CX k f fd ps sp)(hr:cb k X.A)(d:Gl X x)(i:X.mg x=À (.ref f)) (g:ī X.K (.ref f)=true) (c:Binds X.K fd ps ds)(hd:Vals zq ds)(j:Passes CX X E)
  (a:(x == ("__debug__":Str))=false:=by decide):PE X (.Call (.Name x p) [] [] pos) (HV sp zq E yo):=by
 intro b s l H Q I h;refine Ŵ (mX I d i ?_ a);exact nW I.ll g (ye (us:=[]) F hr c hd j I .nil h)
def K5 (L:PE X o ta)(c:y9 X.K C)(i:Meth X.K C m f)(F:gC X.prog X.w X.K X.mg X.base CX k f fd ps sp)(hr:cb k X.A)(J:Binds X.K fd ps ds)(hd:Vals zq ds)(N:Passes CX X E)(z:PA X (e :: es) t)
  (g:Í (e :: es) X.env=(false,Ē e X.env) :: Í es X.env:=by rfl) (d:(Ĝ pos (Í es X.env)).any (·.1)=false:=by rfl)
  (M:Ē (.Call (.Attribute o m jI) (e :: es) [] pos) X.env=(do
   let j <-Ē o X.env
   jn jI.atName
   let (f,first) <-cu [j] (nY j m pl)
   wV pos f first (Ĝ pos (Í (e :: es) X.env)) (fI pos (bj [] X.env))):=by rfl) :
  PE X (.Call (.Attribute o m jI) (e :: es) [] pos) (HX C m sp zq E ta t):=by
 intro b s n H Q I h;refine l0 (pl:=pl) (Ź (L b s n H _ I h) λ u T ⟨x,G,B,P,a,Z,fs,y,v,l,q⟩=>?_) M;subst y;obtain rfl:u=Ñ a:=P;refine og B v c i l ?_;refine oX (first:=[.ref a]) (h₀:=X.base) I.ok.mod.RQ i.kp (Ź (z pos b T n G _ B q) λ us s2 U=>iF U λ vs Y D r O=>⟨D.ll,?_⟩) g d;exact ye (us:=.ref a :: us) (vs:=.ref a :: vs) F hr J hd N D (.cons rfl r) O
def Hm (r:PE X o ta)(c:y9 X.K C)(d:Meth X.K C m f)(F:gC X.prog X.w X.K X.mg X.base CX k f fd ps sp)(hr:cb k X.A)(n:Binds X.K fd ps ds)(hd:Vals zq ds)(y:Passes CX X E)
  (v:Ē (.Call (.Attribute o m jI) [] [] pos) X.env=(do
   let g <-Ē o X.env
   jn jI.atName
   let (f,first) <-cu [g] (nY g m pl)
   wV pos f first (Ĝ pos (Í [] X.env)) (fI pos (bj [] X.env))):=by rfl) :
  PE X (.Call (.Attribute o m jI) [] [] pos) (HX C m sp zq E ta yo):=by
 intro b s D H Q I h;refine l0 (pl:=pl) (Ź (r b s D H _ I h) λ u M ⟨x,G,B,z,a,J,L,j,i,l,q⟩=>?_) v;subst j;obtain rfl:u=Ñ a:=z;refine og B i c d l ?_;exact nW (first:=[.ref a]) B.ll d.kp (ye (us:=[.ref a]) (vs:=[.ref a]) F hr n hd y B (.cons rfl .nil) q)
structure Mk (K:É)(C f:Addr):Prop where
 makes:s_ K C=true
 init:ú K (.ref C) "__init__"=À (À (.ref f))
 fn:lL K (.ref f)=true
 kp:ī K (.ref C)=true
def HJ (M:Mk X.K C f)(F:gC X.prog X.w X.K X.mg X.base CX k f fd ps sp)(hr:cb (k+1) X.A) (n:Binds X.K fd ps ds)(hd:Vals zq ds)
  (q:Passes CX X E) (I:Inv X b i H s) (r:Vals vs us)
  (h:∀ x c,H x=none->H c=none->c≠x->sp (.ref x :: (vs++zq)) (upd (upd H c (.own x)) x (.ins C c [])) (λ v G=>v=.Ę/\Q (.ref x) G) E) :
  Ú (à X.prog X.w) X.A (call (.ref C) us) (EP X b i Q) X.xe s:=by
 have d:=h (s.heap.objs.size+1) s.heap.objs.size (I.ś.fresh (lD _)) (I.ś.fresh (Ì _)) (ê (dZ _));have B:=Inv.made (C:=C) I;have g:Vals (V.ref (s.heap.objs.size+1) :: (vs++zq)) (Ñ (s.heap.objs.size+1) :: (us++ds)):=.cons rfl (r.append hd);have hl:(Ñ (s.heap.objs.size+1) :: us++ds).length=ps.length:=by
  have e:=g.length;rw[F.len _ _ _ _ d]at e;exact e.symm
 refine vp (Gy (f:=f) I.ll M.makes M.init (ji.mp M.fn) (oZ (F.run _ X.stack _ _ ⟨Ñ (s.heap.objs.size+1) :: us,[]⟩ (Ñ (s.heap.objs.size+1) :: (us++ds)) _ _ E (hr.make C us [])
  (B.Rq.make C us []) (n _ (Ñ (s.heap.objs.size+1) :: us) B.ll hl) g d) λ r s' a=>?_))
 cases r with
 | error e=>exact q b i _ _ e s' B a
 | ok l=>
  cases l with
  | ret u=>
   obtain⟨v,D,J,rv,j,y⟩:=B.after a;subst j;exact⟨rv,⟨V.ref (s.heap.objs.size+1),D,J,rfl,y⟩⟩
  | next=>exact ag a
  | brk=>exact ag a
  | cont=>exact ag a
def Hl (M:Mk X.K C f)(F:gC X.prog X.w X.K X.mg X.base CX k f fd ps sp)(hr:cb (k+1) X.A) (d:Gl X x)(g:X.mg x=À (.ref C)) (c:Binds X.K fd ps ds)(hd:Vals zq ds)(i:Passes CX X E)
  (a:(x == ("__debug__":Str))=false:=by decide):PE X (.Call (.Name x p) [] [] pos) (S_ C sp zq E yo):=by
 intro b s j H Q I h;refine Ŵ (mX I d g ?_ a);exact nW I.ll M.kp (HJ (us:=[]) M F hr c hd i I .nil h)
end
section
variable {X:Cx}{CX:E7}{k:Nat}{f C:Addr}{fd:cz}{ps ks:Á Str}{sp:Sp}{E:XK}{x m:Str}{p pos jI Zh:kK}{e o:Expr}{es:Á Expr}{kws:Á h8}{te ta:TE}{t tk:TA}{nm:Ê Str}
variable {g:Á Value->Á Value->Á Value}{gV:Á V->Á V->Á V}
end
structure il (N P:Á Str)(sc:Scope):Prop where
 kind:sc.kind=.function
 co:sc.isCoroutine=false
 gen:sc.isGenerator=false
 nd:N.Nodup
 pre:N.take P.length=P
 par:∀ x∈P,sc.names.lookup x=À .local∨sc.names.lookup x=À .cell
 Ot:∀ y∈sc.names,y.2≠.free
theorem vV {kindOf:Str->Ê h_}{x:Str}:∀ {a:Á (Str × Value)}{m:Str->Ê Value},(∀ v,(x,v)∉a)->IS kindOf a m x=m x
 | [],_,_=>rfl
 | (n,v) :: r,m,h=>by
  unfold IS;rw[vV λ w hw=>h w (þ _ hw)];split
  ·have:x≠n:=by rintro rfl;exact h v Ļ
   simp[this]
  ·rfl
theorem vT {kindOf:Str->Ê h_}{x:Str}:∀ {a:Á (Str × Value)}{m:Str->Ê Value},(∀ v,(x,v)∉a)->IQ kindOf a m x=m x
 | [],_,_=>rfl
 | (n,v) :: r,m,h=>by
  unfold IQ;rw[vT λ w hw=>h w (þ _ hw)];split
  ·rfl
  ·have:x≠n:=by rintro rfl;exact h v Ļ
   simp[this]
theorem vU {kindOf:Str->Ê h_}{x:Str}{v:Value}:∀ {P:Á Str}{vs:Á Value}{i:Nat}{m:Str->Ê Value},P.Nodup->P[i]? = À x->vs[i]? = À v->kindOf x=À .local->
  IS kindOf (P.zip vs) m x=À v
 | [],_,_,_,_,h,_,_=>by simp at h
 | _ :: _,[],_,_,_,_,h,_=>by simp at h
 | p :: P,w :: vs,0,m,nd,a,b,c=>by
  simp at a b;subst a;subst b;show IS kindOf ((p,w) :: P.zip vs) m p=_;unfold IS;rw[vV λ v d=>(bA.mp nd).1 (vO d).1,Ï c];simp
 | p :: P,w :: vs,i+1,m,nd,a,b,c=>by
  show IS kindOf ((p,w) :: P.zip vs) m x=_;unfold IS;exact vU (i:=i) (bA.mp nd).2 (by simpa using a) (by simpa using b) c
theorem vS {kindOf:Str->Ê h_}{x:Str}{v:Value}:∀ {P:Á Str}{vs:Á Value}{i:Nat}{m:Str->Ê Value},P.Nodup->P[i]? = À x->vs[i]? = À v->kindOf x≠À .local->
  IQ kindOf (P.zip vs) m x=À v
 | [],_,_,_,_,h,_,_=>by simp at h
 | _ :: _,[],_,_,_,_,h,_=>by simp at h
 | p :: P,w :: vs,0,m,nd,a,b,c=>by
  simp at a b;subst a;subst b;show IQ kindOf ((p,w) :: P.zip vs) m p=_;unfold IQ;rw[vT λ v d=>(bA.mp nd).1 (vO d).1,Ô c];simp
 | p :: P,w :: vs,i+1,m,nd,a,b,c=>by
  show IQ kindOf ((p,w) :: P.zip vs) m x=_;unfold IQ;exact vS (i:=i) (bA.mp nd).2 (by simpa using a) (by simpa using b) c
def start (N:Á Str)(vs:Á V):St:=vs.map À++ã (N.length - vs.length) none
def lR (CX:E7)(P:Ĉ)(w:Ĩ)(K:É)(mg:Str->Ê Value)(base:Heap)(N:Á Str)(qual:Str)(scope:Scope)(f:Addr)(cd:Value)(A:į)(outer:Á yJ)(s:Ò)(H:Hp)(E:XK):Cx where
 prog:=P
 w:=w
 K:=K
 mg:=mg
 base:=base
 A:=A.deeper (yX qual scope s.heap.objs.size f cd)
 N:=N
 jm:=s
 vt:=H
 env:=yX qual scope s.heap.objs.size f cd
 outer:=outer
 stack:=yX qual scope s.heap.objs.size f cd :: outer
 ex:=[]
 calm:=true
 fn:=λ _=>true
 pn:=[]
 xe:=λ e s'=>Ú (à P w) (A.deeper (yX qual scope s.heap.objs.size f cd)) (leaving (yX qual scope s.heap.objs.size f cd) e) (λ _ VZ=>CX outer H s E e VZ) (λ e' VZ=>CX outer H s E e' VZ) s'
def zh {a:Scope}{n:Nat}{x:Str}(h:a.names.lookup x=À .cell):∃ c,(bq n a.names []).lookup x=À c:=by
 have q:=lK a.names n [] (.inl h);exact bF.mp q
def DO {CX:E7}{P:Ĉ}{w:Ĩ}{K:É}{mg:Str->Ê Value}{base:Heap}{N ps:Á Str}{d:Str}{scope:Scope}{f:Addr}{t:Value}{A:į}{outer:Á yJ}{s s1:Ò}{H:Hp}{E:XK}{us:Á Value}{vs:Á V}
  (S:il N ps scope) (hd:A.handled=none) (j:AM P w K mg base A outer s H) (hl:vs.length=ps.length) (r:Vals vs us)
  (x:InCallC s s.heap.objs.size (IS (yX d scope s.heap.objs.size f t).kindOf (ps.zip us) λ _=>none) (bq (s.heap.objs.size+1) scope.names []) (IQ (yX d scope s.heap.objs.size f t).kindOf (ps.zip us) λ _=>none) s1) :
  Inv (lR CX P w K mg base N d scope f t A outer s H E) [] (start N vs) H s1:=by
 have G:ps.length<=N.length:=by have:=Ķ bE S.pre;rw[ū]at this;lia
 obtain⟨B,J,rfl,D⟩:=x.done;have l:∀ b:Addr,b∉(lR CX P w K mg base N d scope f t A outer s H E).ex:=λ b z=>absurd (show b∈([]:Á Addr) from z) (by simp);refine⟨⟨j.mod,S.kind,rfl,rfl,Ì _,λ y z c B g=>?_,λ y hy=>?_,λ y c _ h=>?_,λ _=>hd,Around.frames_deeper j.frames,.inr ⟨rfl,rfl⟩,λ b z=>absurd z (l b),j.bs,j.Du,λ b _ _=>l b,λ b z=>absurd z (l b),j.n8,j.Jc⟩,
  rfl,j.bare,Un.kept D,⟨_,x.toInCall.ns,λ i y v B g I=>?_⟩,λ y c h=>⟨_,x.cell y c h⟩,j.ś.fresh (Ì _),λ y c h=>?_,λ p m=>absurd (show p∈([]:Á (Addr × Obj)) from m) (by simp),j.ś.kept D,?_⟩
 ·exact name_of_addr x.apart (d_ B) (d_ g)
 ·have hy:scope.names.lookup y=À .cell∨scope.names.lookup y=À .free:=hy;rcases hy with hy|hy
  ·exact zh hy
  ·exact absurd rfl (S.Ot _ (d_ hy))
 ·exact ė (x.above y c (d_ h))
 ·have C:i < vs.length:=by
   unfold start at g;by_cases C:i < vs.length
   ·exact C
   ·rw[á (by simpa using C)]at g;rw[lU]at g;split at g<;>cases g
  have F:vs[i]? = À v:=by
   unfold start at g;rw[Û (by simpa using C),è]at g;cases e:vs[i]? with
   | none=>rw[e]at g;cases g
   | some a=>rw[e]at g;cases g;rfl
  obtain⟨u,hu,rv⟩:=r.get F;have m:ps[i]? = À y:=by
   rw[<-S.pre,ai (by lia)];exact B
  have o:ps.Nodup:=by rw[<-S.pre];exact S.nd.sublist (kJ _ _)
  refine⟨u,rv,?_⟩;rcases S.par y (ò m) with k|k
  ·exact .inl ⟨k,vU o m hu k⟩
  ·obtain⟨c,e⟩:=zh (n:=s.heap.objs.size+1) k;refine .inr ⟨.inl k,c,e,?_⟩;have q:=x.cell y c e;rw[vS o m hu (by show scope.names.lookup y≠_;rw[k];decide)]at q;exact q
 ·exact j.ś.fresh (ė (x.above y c (d_ h)))
 ·unfold start;show _=N.length;rw[ă,Î,C4];lia
def Mc {CX:E7}{P:Ĉ}{w:Ĩ}{K:É}{mg:Str->Ê Value}{base:Heap}{k:Nat}{f:Addr}{name a:Str}{d:Arguments}{body:Á Stmt}{scope:Scope}{O kV l T c ct oc:Value}{L od:Ê Addr}
  {F:Ă (Ê Value)}{N ps:Á Str}{sp:Sp}(lk:K.lookup f=À ⟨oc,od,.func (ń name a d body scope O kV l T L c ct),F⟩) (C:cW K c a=true) (S:il N ps scope)
  (B:∀ vs H Q E,sp vs H Q E->vs.length=ps.length)
  (h:∀ (A:į) (outer:Á yJ) (s:Ò) (H:Hp) (vs:Á V) (Q:VK) (E:XK),cb k (A.deeper (yX a scope s.heap.objs.size f c))->sp vs H Q E->
   ∃ t,l5 (lR CX P w K mg base N a scope f c A outer s H E) body t/\t { nx:=λ _ H'=>Q .Ę H',rt:=Q } (start N vs) H) :
  gC P w K mg base CX (k+1) f (ń name a d body scope O kV l T L c ct) ps sp:=by
 refine⟨B,λ A outer s H M us vs Q E hr m Z r z=>?_⟩;have hl:=B _ _ _ _ z;have G:K.In s.heap:=m.mod.RQ.keeps λ b o e=>(m.bs b o e).1;have D:s.heap.NoLimit:=m.mod.nolimit.keeps λ b o e=>(m.bs b o e).1;have i:∀ y∈ps.zip us,scope.names.lookup y.1=À .local∨(scope.names.lookup y.1=À .cell/\((bq (s.heap.objs.size+1) scope.names []).lookup y.1).isSome=true):=λ⟨n,v⟩ hy=>by
  rcases S.par n (vO hy).1 with q|q
  ·exact .inl q
  ·exact .inr ⟨q,lK _ _ _ (.inl q)⟩
 refine codeAny_call_function hr.depth (G _ _ lk) rfl S.co S.gen rfl (PySem.W.codeRec_of G C) (Z _ _ _ _ ?_);refine wpAny_newFunctionEnv_cells S.kind i λ X he U x=>?_;subst he;refine⟨D.keeps x.toInCall.keep,codeAny_func ?_⟩;obtain⟨t,ht,hq⟩:=h A outer s H vs Q E (hr.deeper _) z;have I:Inv (lR CX P w K mg base N a scope f c A outer s H E) [] (start N vs) H U:=DO S hr.hd m hl r x;refine ae (ht [] U (start N vs) H _ I hq) (λ Y s' j=>?_) λ e s' j=>j;have p:∀ {g:St}{H':Hp}{v:V}{u:Value},Inv (lR CX P w K mg base N a scope f c A outer s H E) [] g H' s'->RelV v u->Q v H'->CE outer P w H s Q u s':=
  λ {g H' v u} J rv q=>⟨v,H',J.os,J.bare,J.base,J.ś,rv,q⟩
 cases Y with
 | ret u=>
  obtain⟨v,g,H',J,rv,q⟩:=j;exact p J rv q
 | next=>
  obtain⟨g,H',J,q⟩:=j;exact p (v:=V.Ę) (u:=ì) J rfl q
 | brk=>
  obtain⟨_,_,_,q⟩:=j;exact ag q
 | cont=>
  obtain⟨_,_,_,q⟩:=j;exact ag q
section
variable {X:Cx}{x:Str}{p pos:kK}{e:Expr}{es:Á Expr}{t:TA}{id T:String}{r:Á V->Hp->VK->Prop}
def P9 (r:Á V->Hp->VK->Prop)(t:TA):TE:=λ b H Q=>t b H λ a A=>r a A Q
def cM (g:bx X (.builtin id) r) (j:Gl X x)(k:X.mg x=none)(m:Ĭ x=À (.builtin id)) (f:PA X (e :: es) t) (l:x≠"__name__":=by decide)(b:(x == ("__debug__":Str))=false:=by decide)
  (i:Í (e :: es) X.env=(false,Ē e X.env) :: Í es X.env:=by rfl) (c:(Ĝ pos (Í es X.env)).any (·.1)=false:=by rfl):PE X (.Call (.Name x p) (e :: es) [] pos) (P9 r t):=by
 intro a s d H Q I h;refine Ŵ (oi I j k m ?_ l b);exact WC (Ź (f pos a s d H _ I h) λ us q v=>iF v λ u A B o n=>g a q d A u us Q B o n) i c
def Eh (g:bx X (.type T) r) (j:Gl X x)(k:X.mg x=none)(m:Ĭ x=À (.type T)) (f:PA X (e :: es) t) (l:x≠"__name__":=by decide)(b:(x == ("__debug__":Str))=false:=by decide)
  (i:Í (e :: es) X.env=(false,Ē e X.env) :: Í es X.env:=by rfl) (c:(Ĝ pos (Í es X.env)).any (·.1)=false:=by rfl):PE X (.Call (.Name x p) (e :: es) [] pos) (P9 r t):=by
 intro a s d H Q I h;refine Ŵ (oi I j k m ?_ l b);exact b9 (Ź (f pos a s d H _ I h) λ us q v=>iF v λ u A B o n=>g a q d A u us Q B o n) i c
end
end L2
namespace HT
open PySem PyProof.Rows
section
open PySem.SeqAt
open PySem.AutoSeq1 (wpAny_loadPart')
open PySem.MeetsSeq PySem.MeetsSeq2 PySem.MeetsSeq3
end
section
variable {prog:Ĉ}{w:Ĩ}{A:į}{E:Value->Ò->Prop}{s:Ò}
def JC (u:IG s.heap t vs.toArray)(r:IG s.heap b ws.toArray)(l:vs≠[])
  (p:ws=[]->Q (.ref t) s) (q:ws≠[]->Q (.ref s.heap.objs.size) { s with heap:=s.heap.push { cls:=.type "tuple",data:=.seq (vs++ws).toArray } })
  (hsz:vs.length+ws.length<=sizeLine):Ú (à prog w) A (bB .Add (.ref t) (.ref b)) Q E s:=by
 obtain⟨⟨cls,j,data,o⟩,h,k,n,hd⟩:=id u;obtain⟨⟨i,c,data2,g⟩,a,d,m,f⟩:=id r;simp only at k hd d f;subst k hd d f;have e:vs.toArray++ws.toArray=(vs++ws).toArray:=by simp
 by_cases hw:ws=[]
 ·exact Jr ⟨_,h,rfl⟩ ⟨_,a,rfl⟩ yY E3 lJ kL (j_ _ _)
   (tuple_addW1 t b vs.toArray ws.toArray n m j c o g (by simpa using l) (by simp[hw])) ⟨h,a,p hw⟩
 ·refine Jr ⟨_,h,rfl⟩ ⟨_,a,rfl⟩ yY E3 lJ kL (j_ _ _)
   (tuple_addW2 t b vs.toArray ws.toArray n m j c o g (by simpa using l) (by simpa using hw) (by rw[Ù,Ù];exact hsz)) ⟨h,a,?_⟩
  rw[e];exact q hw
def cQ (n d:Nat):Ê Int->Nat
 | none=>d
 | some v=>if v < 0 then (v+(n:Int)).toNat else min v.toNat n
def Pe (n d:Nat)(hd:d<=n)(o:Ê Int):cQ n d o<=n:=by
 cases o with
 | none=>exact hd
 | some v=>
  show(if v < 0 then (v+(n:Int)).toNat else min v.toNat n)<=n;by_cases a:v < 0
  ·rw[Ï a];lia
  ·rw[Ô a];exact Nat.min_le_right _ _
def B3 (v:Int)(n d:Nat):(if v < 0 then max (v+(n:Int)) 0 else min v (n:Int))=((cQ n d (À v):Nat):Int):=by
 show(if v < 0 then max (v+(n:Int)) 0 else min v (n:Int))=(((if v < 0 then (v+(n:Int)).toNat else min v.toNat n):Nat):Int)
 by_cases a:v < 0
 ·simp only[Ï a];lia
 ·simp only[Ô a];lia
def AQ (lo a:Ê Int)(n:Nat):hZ lo a 1 (n:Int)=(((cQ n 0 lo:Nat):Int),((cQ n n a:Nat):Int)):=by
 have b:¬ ((1:Int) < 0):=by lia
 unfold hZ;simp only[b,eG];refine oQ ?_ ?_
 ·cases lo with
  | none=>rfl
  | some v=>exact B3 v n 0
 ·cases a with
  | none=>rfl
  | some v=>exact B3 v n n
def Bu (i j:Nat):cD (i:Int) (j:Int) 1=j - i:=by
 unfold cD;have a:(1:Int) > 0:=by lia
 simp only[a,eO,Int.ediv_one];split<;>lia
def uL (p:rM v o)(h:Q o s):Ú (à prog w) A (UA v) Q E s:=by
 cases p with
 | none=>exact Yj h
 | int i t=>exact slicePart_int h
def ku {f:Addr}{d e:Value}{lo b:Ê Int}{n:Nat}{Q:Int × Int × Nat->Ò->Prop}(i:s.heap.IsSliceOf f d e .none)(pl:rM d lo)(j:rM e b)
  (h:Q (((cQ n 0 lo:Nat):Int),1,cQ n n b - cQ n 0 lo) s):Ú (à prog w) A (pX (.ref f) (pure (n:Int))) Q E s:=by
 obtain⟨os,c,g,a⟩:=id i;unfold pX Uz;refine Â (Â (Ŀ c a (x:=d) rfl (Â (Ŀ c a (x:=e) rfl (Â (Ŀ c a (x:=.none) rfl (Ë ?_)))))));refine Â (Yj ?_);show Ú _ _ (if ((1:Int) == 0)=true then _ else _) _ _ s;rw[Ô (by decide)];refine Â (uL pl (Â (uL j (Â (Ë ?_)))));show Ú _ _ (match hZ lo b 1 (n:Int) with|(lo,b)=>pure (lo,(1:Int),cD lo b 1)) _ _ s;rw[AQ lo b n];show Ú _ _ (pure (((cQ n 0 lo:Nat):Int),(1:Int),cD ((cQ n 0 lo:Nat):Int) ((cQ n n b:Nat):Int) 1)) _ _ s;rw[Bu];exact Ë h
def Hs (xs:Ă Value)(i k:Nat):((Ą k).filterMap λ(m:Nat)=>xs[((i:Int)+(m:Int) * 1).toNat]?).toArray=((xs.toList.drop i).take k).toArray:=by
 have e:(λ(m:Nat)=>xs[((i:Int)+(m:Int) * 1).toNat]?)=λ m=>xs[i+m]?:=by
  funext m;have:((i:Int)+(m:Int) * 1).toNat=i+m:=by lia
  rw[this]
 rw[e];have:=pick_run xs i k;rw[List.filterMap_map]at this;have a:((λ x=>xs[x]?) ∘ λ x=>i+x)=λ m=>xs[i+m]?:=rfl;rw[a]at this;rw[this]
def pf {t i:Addr}{items:Ă Value}{k l:Value}{lo b:Ê Int}{Q:Value->Ò->Prop}(c:IG s.heap t items)(j:s.heap.IsSliceOf i k l .none)(pl:rM k lo)(o:rM l b)
  (hw:¬ (cQ items.size 0 lo=0/\cQ items.size items.size b=items.size))
  (h:Q (.ref s.heap.objs.size) { s with heap:=s.heap.push { cls:=.type "tuple",data:=.seq ((items.toList.drop (cQ items.size 0 lo)).take (cQ items.size items.size b - cQ items.size 0 lo)).toArray } })
  (hsz:items.size<=sizeLine):Ú (à prog w) A (mJ (.ref t) (.ref i)) Q E s:=by
 have a:sizeOk (.seq ((items.toList.drop (cQ items.size 0 lo)).take (cQ items.size items.size b - cQ items.size 0 lo)).toArray):=by
  show((items.toList.drop (cQ items.size 0 lo)).take (cQ items.size items.size b - cQ items.size 0 lo)).toArray.size<=sizeLine;rw[Ù,ū,lV,Į];lia
 have p:cQ items.size items.size b<=items.size:=Pe _ _ (Ì _) b;obtain⟨os,g,e,n⟩:=id j;have d:s.TypeIs (.ref i) "slice":=⟨os,g,e⟩
 unfold mJ;try with_reducible refine Ň ?_
 first|refine Â (Ë ?_)|skip
 refine Â (TY c.typeIs (by decide) ?_);refine Â (ĵ (name:=Ü "__getitem__") c.typeIs Ő
  (ħ Ő c.typeIs PY ?_ (Qk _ _)))
 show Ú _ _ (pY (.ref t) >>= _) _ _ s;refine Â (tupleItemsOf_ c ?_);refine Â (xa d ?_);rw[Ï (by decide)];refine Â (ku j pl o ?_);have f:¬ ((((cQ items.size 0 lo:Nat):Int) == 0 && (1:Int) == 1 && (cQ items.size items.size b - cQ items.size 0 lo) == items.size)=true):=by
  intro q;rw[ĝ,ĝ]at q;have r:((cQ items.size 0 lo:Nat):Int)=0:=eq_of_beq q.1.1;have u:cQ items.size items.size b - cQ items.size 0 lo=items.size:=eq_of_beq q.2;exact hw ⟨by lia,by lia⟩
 show Ú _ _ (if (((cQ items.size 0 lo:Nat):Int) == 0 && (1:Int) == 1 && (cQ items.size items.size b - cQ items.size 0 lo) == items.size)=true then _ else _) _ _ s;rw[Ô f,Hs];first
  | exact Â (m:=cS _) (ŗ (Ë ⟨_,rfl,Ë h⟩) a)
  | exact Â (m:=cS _) (ŗ (Â (Ë (Ë ⟨_,rfl,Ë h⟩))) a)
  | exact Â (Â (m:=cS _) (ŗ (Ë (Ë ⟨_,rfl,Ë h⟩)) a))
  | exact Â (Â (m:=cS _) (ŗ (Ë ⟨_,rfl,Ë h⟩) a))
end
end HT
namespace L2
open PySem PySem.Spec PyProof.Rows
abbrev TO:=St->Hp->(Ê Int->Hp->Prop)->Prop
def PO (X:Cx)(e:Ê Expr)(t:TO):Prop:=
 ∀ (a:Á (Addr × Obj)) (s:Ò) (b:St) (H:Hp) (Q:Ê Int->Hp->Prop),Inv X a b H s->t b H Q->
  Ú (à X.prog X.w) X.A (evalPart e X.env) (λ u s'=>∃ o B,Inv X a b B s'/\rM u o/\Q o B) X.xe s
def LK:TO:=λ _ H Q=>Q none H
def Te (t:TE):TO:=λ a H Q=>t a H λ x A=>∃ i,x=.int i/\Q (À i) A
def intsAre_of:∀ {us:Á Value},Vals (ns.map V.int) us->sD us ns:=by
 induction ns with
 | nil=>intro us r;rw[aj]at r;cases r;exact .nil
 | cons n ns a=>
  intro us r;rw[Õ]at r;cases r with
  | cons b c=>
   obtain⟨t,e⟩:=b;subst e;exact .cons n t (a c)
section
variable {X:Cx}{e:Expr}{te:TE}{lo hi:Ê Expr}{tl th:TO}{pos p2:kK}
def Le:PO X none LK:=by
 intro a s b H Q I h;rw[evalPart_none];exact Ë ⟨none,H,I,.none,h⟩
def Lf (h:PE X e te):PO X (À e) (Te te):=by
 intro a s f H Q I hw;rw[evalPart_some];refine Ź (h a s f H _ I hw) λ u g d=>iF d λ x A B c b=>?_;obtain⟨i,rfl,q⟩:=b;obtain⟨t,rfl⟩:=c;exact⟨À i,A,B,.int i t,q⟩
def Qu (X:Cx)(r:V->Ê Int->Ê Int->Hp->VK->Prop):Prop:=
 ∀ (a:Á (Addr × Obj)) (s:Ò) (f:St) (H:Hp) (x:V) (v c d:Value) (lo hi:Ê Int) (b:Addr) (Q:VK),Inv X a f H s->RelV x v->s.heap.IsSliceOf b c d .none->rM c lo->rM d hi->r x lo hi H Q->
  ∃ T id,typeLookup (.type T) "__getitem__"=pure (À (.builtin id))/\s.TypeIs v T/\Ú (à X.prog X.w) X.A (mJ v (.ref b)) (EP X a f Q) X.xe s
def ZL (r:V->Ê Int->Ê Int->Hp->VK->Prop)(te:TE)(tl th:TO):TE:=λ a H Q=>te a H λ x A=>tl a A λ l B=>th a B λ u C=>r x l u C Q
def Hn (hr:Qu X r)(k:PE X e te)(hl:PO X lo tl)(hu:PO X hi th):PE X (.Subscript e (.Slice lo hi none p2) pos) (ZL r te tl th):=by
 intro a s d H Q I h;refine C_ (Ź (k a s d H _ I h) λ v M f=>iF f λ x C E L t=>?_);refine wpAny_Slice (Ź (hl a M d C _ E t) λ g N f=>iF f λ l D F o y=>Ź (hu a N d D _ F y) λ i c f=>iF f λ u B G p z=>?_);rw[evalPart_none];refine Ë ?_;have J:Inv X a d B { c with heap:=c.heap.push { cls:=.type "slice",data:=.fields #[g,i,.none] } }:=G.kept (t':=c.toks) λ b O q=>Ã _ q;obtain⟨T,id,j,n,m⟩:=hr a { c with heap:=c.heap.push { cls:=.type "slice",data:=.fields #[g,i,.none] } } d B x v g i l u c.heap.objs.size Q J L (Tr ..) o p z;show Ú (à X.prog X.w) X.A (E4 e (.Slice lo hi none p2) v (.ref c.heap.objs.size)) (EP X a d Q) X.xe { c with heap:=c.heap.push { cls:=.type "slice",data:=.fields #[g,i,.none] } };exact tail_any (ops:=[.ref c.heap.objs.size,v]) n j m (by with_unfolding_all rfl)
def tw (xs:Á V)(lo hi:Ê Int):Á V:=(xs.drop (HT.cQ xs.length 0 lo)).take (HT.cQ xs.length xs.length hi - HT.cQ xs.length 0 lo)
def rd (xs:Á V)(lo hi:Ê Int):(tw xs lo hi).length<=xs.length:=by
 unfold tw;rw[ū,lV];lia
def VW (K:É):V->Ê Int->Ê Int->Hp->VK->Prop:=λ x lo hi H Q=>∃ a xs,x=.ref a/\fM K H a xs/\
 ¬ (HT.cQ xs.length 0 lo=0/\HT.cQ xs.length xs.length hi=xs.length)/\∀ p,H p=none->Q (.ref p) (upd H p (.tup (tw xs lo hi)))
def Pk:Qu X (VW X.K):=by
 intro i s y H x v u w lo hi t Q I n j l m h;obtain⟨a,xs,rfl,k,hw,q⟩:=h;cases n;obtain⟨d,r,f,g⟩:=I.tuple k;have c:d.toArray.size=xs.length:=by rw[Ù];exact r.length.symm
 refine⟨"tuple",_,Ő.lookup,f.typeIs,?_⟩;refine HT.pf f j l m (by rw[c];exact hw) ?_ (by rw[c];exact g);rw[c];refine⟨.ref s.heap.objs.size,_,I.laid (t':=s.toks) (o:=.tup (tw xs lo hi)) (λ b p q=>Ã _ q) (Ì _) ?_,rfl,q _ (I.ś.fresh (Ì _))⟩;exact⟨Đ (rd xs lo hi) g,_,(r.drop (HT.cQ xs.length 0 lo)).take (HT.cQ xs.length xs.length hi - HT.cQ xs.length 0 lo),sW _ _⟩
def SQ (K:É):R2:=λ x y H Q=>∃ a b xs c,x=.ref a/\y=.ref b/\fM K H a xs/\fM K H b c/\xs≠[]/\xs.length+c.length<=sizeLine/\
 (c=[]->Q (.ref a) H)/\(c≠[]->∀ p,H p=none->Q (.ref p) (upd H p (.tup (xs++c))))
def Vals.sP (r:Vals xs us):us=[] ↔ xs=[]:=by
 cases r with
 | nil=>simp
 | cons _ _=>simp
def KU:jf X (bB .Add) (SQ X.K):=by
 intro i s D H x y v u Q I t A h;obtain⟨a,b,xs,B,rfl,rfl,j,k,l,f,p,r⟩:=h;cases t;cases A;obtain⟨m,d,n,_⟩:=I.tuple j;obtain⟨g,c,p2,_⟩:=I.tuple k;refine HT.JC n p2 (λ z=>l (d.sP.mp z)) (λ z=>⟨.ref a,H,I,rfl,p (c.sP.mp z)⟩) (λ z=>?_) (by rw[<-d.length,<-c.length];exact f);refine⟨.ref s.heap.objs.size,_,I.laid (t':=s.toks) (o:=.tup (xs++B)) (λ b C q=>Ã _ q) (Ì _) ?_,rfl,r (λ w=>z (c.sP.mpr w)) _ (I.ś.fresh (Ì _))⟩;exact⟨by rw[ă];exact f,_,d.append c,sW _ _⟩
end
def Cq (n:Nat)(i:Int):Ê Nat:=if 0<=i then (if i < n then À i.toNat else none) else if -(n:Int)<=i then À (i+n).toNat else none
def kQ {α:Type}(xs:Á α)(i:Int):Ê α:=(Cq xs.length i).bind λ j=>xs[j]?
def xI (h:Cq n i=À j):yZ i n=À j/\j < n/\-(n:Int)<=i/\i < n:=by
 unfold Cq at h;by_cases b:0<=i
 ·rw[Ï b]at h;by_cases a:i < n
  ·rw[Ï a]at h;have e:i.toNat=j:=æ h;exact⟨by rw[MR b a,e],by lia,by lia,a⟩
  ·rw[Ô a]at h;cases h
 ·rw[Ô b]at h;by_cases a:-(n:Int)<=i
  ·rw[Ï a]at h;have e:(i+n).toNat=j:=æ h;exact⟨by rw[seqIndex_neg (by lia) a,e],by lia,a,by lia⟩
  ·rw[Ô a]at h;cases h
def xj (h:kQ xs i=À v):∃ j,yZ i xs.length=À j/\xs[j]? = À v/\j < xs.length/\-(xs.length:Int)<=i/\i < xs.length:=by
 unfold kQ at h;cases e:Cq xs.length i with
 | none=>rw[e]at h;cases h
 | some j=>
  rw[e]at h;obtain⟨a,b,c,d⟩:=xI e;exact⟨j,a,h,b,c,d⟩
def kR {α:Type}{xs:Á α}{j:Nat}{v:α}(h:xs[j]? = À v):kQ xs (j:Int)=À v:=by
 have a:j < xs.length:=(Ç.mp h).1;have e:Cq xs.length (j:Int)=À j:=by
  unfold Cq;rw[Ï (by lia),Ï (by lia)];simp
 unfold kQ;rw[e];exact h
def BY (b:Expr):Prop:=∀ o i,Ay b false o i=operate [o,i] (mJ o i)
def P2 (X:Cx)(r:R2):Prop:=
 ∀ (c a:Expr) (b:Á (Addr × Obj)) (s:Ò) (d:St) (H:Hp) (x y:V) (v u:Value) (Q:VK),Inv X b d H s->RelV x v->RelV y u->r x y H Q->
  Ay a false v u=operate [v,u] (mJ v u)->Ú (à X.prog X.w) X.A (E4 c a v u) (EP X b d Q) X.xe s
def IZ (X:Cx)(id:String)(r:V->Á V->Hp->VK->Prop):Prop:=
 ∀ (a:Á (Addr × Obj)) (s:Ò) (b:St) (H:Hp) (x:V) (xs:Á V) (v:Value) (us:Á Value) (Q:VK),Inv X a b H s->RelV x v->Vals xs us->r x xs H Q->
  Ú (à X.prog X.w) X.A (call (.builtin id) (v :: us)) (EP X a b Q) X.xe s
section
variable {X:Cx}{a b:Expr}{ta tb:TE}{pos:kK}
def SH (hr:P2 X r)(d:PE X a ta)(e:PE X b tb)(f:BY b):PE X (.Subscript a b pos) (Tc r ta tb):=by
 intro c s k H Q I h;exact C_ (M8 d e I h λ v u j x y A B g i q=>hr a b c j k A x y v u Q B g i q (f _ _))
def VQ (K:É):R2:=λ x y H Q=>∃ p xs i v,x=.ref p/\y=.int i/\eS K H p xs/\kQ xs i=À v/\Q v H
def VT (K:É):R2:=λ x y H Q=>∃ p xs i v,x=.ref p/\y=.int i/\fM K H p xs/\kQ xs i=À v/\Q v H
def VS:R2:=λ x y H Q=>∃ z i c,x=.str z/\y=.int i/\z.length<=sizeLine/\kQ z.cps.toList i=À c/\Q (.str ⟨#[c]⟩) H
def Cr:P2 X (VQ X.K):=by
 intro n m c s C H x y v u Q I L M h B;obtain⟨p,xs,i,z,rfl,rfl,J,G,q⟩:=h;cases L;obtain⟨t,rfl⟩:=M;obtain⟨g,r,k,P⟩:=I.list J;obtain⟨j,e,D,N,E,F⟩:=xj G;obtain⟨w,o,l⟩:=r.get D;have hl:=r.length;have O:=mw;have d:EP X c C Q w s:=⟨z,H,I,l,q⟩
 by_cases A:0<=i
 ·have f:i.toNat=j:=by
   rw[MR A F]at e;exact æ e
  exact item_listR k.isList A (by lia) (by rw[f];simpa using o) d B
 ·have f:(i+(g.toArray.size:Int)).toNat=j:=by
   rw[seqIndex_neg (by lia) E]at e;rw[Ù,<-hl];exact æ e
  exact o6 (x:=w) k.isList.typeIs TL.lookup
   (wpAny_getItem_list_neg (Q:=λ r s'=>r=w/\EP X c C Q r s') k.isList (by lia) (by rw[Ù]<;>lia) (by lia) (by rw[f];simpa using o) ⟨rfl,d⟩) B
def Nz:P2 X (VT X.K):=by
 intro g f c s l H x y v u Q I E F h C;obtain⟨p,xs,i,z,rfl,rfl,B,A,q⟩:=h;cases E;obtain⟨t,rfl⟩:=F;obtain⟨D,r,k,N⟩:=I.tuple B;obtain⟨j,n,o,G,J,L⟩:=xj A;obtain⟨w,m,e⟩:=r.get o;have hl:=r.length;have M:=mw;have d:EP X c l Q w s:=⟨z,H,I,e,q⟩
 exact o6 (x:=w) k.typeIs Qn.lookup
  (getItem_tuple (j:=j) (Q:=λ r s'=>r=w/\EP X c l Q r s') k (by lia) (by lia) (by rw[Ù,<-hl];exact n) (by simpa using m) ⟨rfl,d⟩) C
def Ny:P2 X VS:=by
 intro e d g s F H x y v u Q I w A h r;obtain⟨z,i,c,rfl,rfl,D,p,q⟩:=h;obtain⟨t,rfl⟩:=w;obtain⟨E,rfl⟩:=A;obtain⟨j,f,m,B,n,o⟩:=xj p;have hl:z.cps.toList.length=z.length:=by simp[Str.length]
 rw[hl]at f n o;have C:=mw;exact tail_any (typeIs_str s z t) slot_str_getitem.lookup (getItem_str (c:=c) (by
  have k:decide (i < -(2 ^ 63:Int))=false:=ö (by lia);have l:decide (i ≥ 2 ^ 63)=false:=ö (by lia);rw[k,l,P_]) (by rw[f];simpa using m) ⟨.str ⟨#[c]⟩,H,I.tok _,⟨_,rfl⟩,q⟩) r
def Bf (its:Á Value)(n j:Nat)(u:Value):ð (·.setIfInBounds j u) { cls:=.type "list",data:=.seq its.toArray n }={ cls:=.type "list",data:=.seq (its.set j u).toArray n }:=by
 simp[ð]
theorem Inv.lst {c:Á (Addr × Obj)}{d:St}{H:Hp}{s:Ò}{p:Addr}{xs:Á V}(I:Inv X c d H s)(h:H p=À (.lst xs)) :
  ∃ (its:Á Value) (n:Nat),Vals xs its/\s.heap.get? p=À { cls:=.type "list",data:=.seq its.toArray n }/\xs.length<=sizeLine:=by
 obtain⟨z,its,n,r,e⟩:=I.ś p _ h;exact⟨its,n,r,e,z⟩
def Inv.NM {c:Á (Addr × Obj)}{i:St}{H:Hp}{s:Ò}{p:Addr}{xs ys:Á V}{its its':Á Value}{n d:Nat}{f:Obj->Obj}(I:Inv X c i H s)(h:H p=À (.lst xs))
  (k:s.heap.get? p=À { cls:=.type "list",data:=.seq its.toArray n }) (g:f { cls:=.type "list",data:=.seq its.toArray n }={ cls:=.type "list",data:=.seq its'.toArray d }) (r:Vals ys its') (hz:ys.length<=sizeLine) (t:Nat) :
  Inv X c i (upd H p (.lst ys)) { s with heap:=s.heap.update p f,toks:=t }:=by
 have e:(s.heap.update p f).get? p=À { cls:=.type "list",data:=.seq its'.toArray d }:=by
  rw[ø f k (by rw[g]<;>rfl),g]
 refine I.write (x:=p) (e:=p) (by rw[h];trivial) (.inl rfl) (λ b u j q=>(ç _ _ (Ŋ j)).trans q) ⟨_,e⟩ ?_;exact⟨hz,its',d,r,e⟩
def SV:V->V->V->Hp->(Hp->Prop)->Prop:=λ o i v H Q=>∃ p xs k j,o=.ref p/\i=.int k/\H p=À (.lst xs)/\Cq xs.length k=À j/\Q (upd H p (.lst (xs.set j v)))
def set_list:M0 X SV:=by
 intro d s D H o i v J G u Q I C B rv h;obtain⟨p,xs,k,j,rfl,rfl,x,y,q⟩:=h;cases C;obtain⟨t,rfl⟩:=B;obtain⟨c,n,r,g,z⟩:=I.lst x;obtain⟨e,E,m,w⟩:=xI y;have hl:=r.length;have F:=mw;have A:Inv X d D (upd H p (.lst (xs.set j v))) { s with heap:=s.heap.update p (ð (·.setIfInBounds j u)) }:=
  I.NM x g (Bf c n j u) (r.set rv j) (by rw[Ś];exact z) s.toks
 by_cases l:0<=k
 ·have f:k.toNat=j:=by
   rw[MR l w]at e;exact æ e
  exact PySem.W.ki_setAt g l (by lia) (by rw[Ù,<-hl];exact w) (by rw[f];exact⟨_,A,q⟩)
 ·have f:(k+(c.toArray.size:Int)).toNat=j:=by
   rw[seqIndex_neg (by lia) m]at e;rw[Ù,<-hl];exact æ e
  exact PySem.W.ki_setBack g (by lia) (by rw[Ù,<-hl];exact m) (by lia) (by rw[f];exact⟨_,A,q⟩)
def yh (lo c:Ê Int)(n:Nat):(jF lo c none n).1=((HT.cQ n 0 lo:Nat):Int)/\(jF lo c none n).2.1=((HT.cQ n n c:Nat):Int)/\(jF lo c none n).2.2=1:=by
 refine⟨?_,?_,rfl⟩
 ·cases lo with
  | none=>simp[jF,HT.cQ]
  | some i=>
   simp only[jF,HT.cQ,IL,show(1:Int) > 0 by decide,eO];by_cases h:i < 0
   ·simp only[h,eO]<;>lia
   ·simp only[h,eG]<;>lia
 ·cases c with
  | none=>simp[jF,HT.cQ]
  | some i=>
   simp only[jF,HT.cQ,IL,show(1:Int) > 0 by decide,eO];by_cases h:i < 0
   ·simp only[h,eO]<;>lia
   ·simp only[h,eG]<;>lia
def vK (its:Á Value)(lo c:Ê Int):slicePick its.toArray lo c none=((its.drop (HT.cQ its.length 0 lo)).take (HT.cQ its.length its.length c - HT.cQ its.length 0 lo)).toArray:=by
 obtain⟨d,e,f⟩:=yh lo c its.toArray.size;unfold slicePick;rw[d,e,f];simp only[sliceRange_one,pick_run,Ù]<;>rfl
def VU (K:É):V->Ê Int->Ê Int->Hp->VK->Prop:=λ x lo c H Q=>∃ a xs,x=.ref a/\eS K H a xs/\∀ p,H p=none->Q (.ref p) (upd H p (.lst (tw xs lo c)))
def CS:Qu X (VU X.K):=by
 intro f s y H x v u w lo d t Q I n g l m h;obtain⟨a,xs,rfl,i,q⟩:=h;cases n;obtain⟨k,r,e,j⟩:=I.list i;have c:=r.length;refine⟨"list",_,TL.lookup,e.isList.typeIs,?_⟩;refine wpAny_getItem_list_slice e.isList g l m .none (by simp) ?_ (by rw[Ù]<;>lia);rw[vK,<-c];refine⟨.ref s.heap.objs.size,_,I.laid (t':=s.toks) (o:=.lst (tw xs lo d)) (λ b p q=>Ã _ q) (Ì _) ?_,rfl,q _ (I.ś.fresh (Ì _))⟩;exact⟨Đ (rd xs lo d) j,_,0,(r.drop (HT.cQ xs.length 0 lo)).take (HT.cQ xs.length xs.length d - HT.cQ xs.length 0 lo),Ö _ rfl⟩
def pb:V->Bool
 | .Ę=>true
 | .bl _=>true
 | .int _=>true
 | .str _=>true
 | _=>false
def jP:V->V->Bool
 | .Ę,.Ę=>true
 | .bl a,.bl b=>a == b
 | .bl a,.int b=>(if a then 1 else 0) == b
 | .int a,.bl b=>a == (if b then 1 else 0)
 | .int a,.int b=>a == b
 | .str a,.str b=>a == b
 | _,_=>false
def Ŝ (f:RelV y u)(c:RelV x v)(g:pb y=true)(e:pb x=true):qc A s u v (jP y x):=by
 cases y with
 | Ę=>
  cases f;cases x with
  | Ę=>cases c;exact q_ _
  | bl b=>cases c;exact Z4 b
  | int b=>obtain⟨t,rfl⟩:=c;exact Z5 b t
  | str b=>obtain⟨t,rfl⟩:=c;exact Z6 b t
  | _=>exact absurd (show false=true from e) â
 | bl a=>
  cases f;cases x with
  | Ę=>cases c;exact ZU a
  | bl b=>cases c;exact ZS a b
  | int b=>obtain⟨t,rfl⟩:=c;exact ZT a b t
  | str b=>obtain⟨t,rfl⟩:=c;exact ZV a b t
  | _=>exact absurd (show false=true from e) â
 | int a=>
  obtain⟨d,rfl⟩:=f;cases x with
  | Ę=>cases c;exact ZY a d
  | bl b=>cases c;exact ZW a d b
  | int b=>obtain⟨t,rfl⟩:=c;exact ZX a d b t
  | str b=>obtain⟨t,rfl⟩:=c;exact Au a d b t
  | _=>exact absurd (show false=true from e) â
 | str a=>
  obtain⟨d,rfl⟩:=f;cases x with
  | Ę=>cases c;exact Z8 a d
  | bl b=>cases c;exact Z7 a d b
  | int b=>obtain⟨t,rfl⟩:=c;exact Aw a d b t
  | str b=>obtain⟨t,rfl⟩:=c;exact Z9 a d b t
  | _=>exact absurd (show false=true from e) â
 | _=>exact absurd (show false=true from g) â
def A5 (x:V)(u:Value):Bool:=match u with
 | .none=>jP .Ę x
 | .bool b=>jP (.bl b) x
 | .int i _=>jP (.int i) x
 | .str z _=>jP (.str z) x
 | _=>false
def FU (r:RelV y u)(f:pb y=true):A5 x u=jP y x:=by
 cases y with
 | Ę=>cases r;rfl
 | bl b=>cases r;rfl
 | int i=>obtain⟨t,rfl⟩:=r;rfl
 | str z=>obtain⟨t,rfl⟩:=r;rfl
 | _=>exact absurd (show false=true from f) â
theorem o9:∀ {xs:Á V}{us:Á Value},Vals xs us->xs.all pb=true->us.any (A5 x)=xs.any λ y=>jP y x
 | _,_,.nil,_=>rfl
 | y :: xs,u :: us,.cons r t,f=>by
  rw[Ġ,ĝ]at f;rw[ř,ř,FU r f.1,o9 t f.2]
theorem mx (d:RelV x v)(c:pb x=true):∀ {xs:Á V}{us:Á Value},Vals xs us->xs.all pb=true->∀ u∈us,qc A s u v (A5 x u)
 | _,_,.nil,_=>λ u hu=>by cases hu
 | y :: xs,u :: us,.cons r t,f=>λ e hu=>by
  rw[Ġ,ĝ]at f;rcases Þ.mp hu with rfl|hu
  ·rw[FU r f.1];exact Ŝ r d f.1 c
  ·exact mx d c t f.2 e hu
def Ue (x:V)(xs:Á V):Bool:=xs.any λ y=>jP y x
def XW (K:É)(c:Bool):R2:=λ x y H Q=>∃ p xs,y=.ref p/\(eS K H p xs∨fM K H p xs)/\pb x=true/\xs.all pb=true/\Q (.bl (if c then !Ue x xs else Ue x xs)) H
def Ee:jf X (ĥ .In) (XW X.K false):=by
 intro g s l H x y v u Q I i k h;obtain⟨p,xs,rfl,hq,f,d,q⟩:=h;cases k;rcases hq with hq|hq
 ·obtain⟨c,r,e,j⟩:=I.list hq;refine L5 (A5 x) e.isList (λ w hw=>mx i f r d w (by simpa using hw)) ⟨.bl _,H,I,rfl,?_⟩;rw[show c.toArray.any (A5 x)=c.any (A5 x) by simp,o9 r d];exact q
 ·obtain⟨c,r,e,j⟩:=I.tuple hq;refine SeqAt.in_tupleAt (A5 x) e (λ w hw=>mx i f r d w (by simpa using hw)) ⟨.bl _,H,I,rfl,?_⟩;rw[show c.toArray.any (A5 x)=c.any (A5 x) by simp,o9 r d];exact q
def x9:jf X (ĥ .NotIn) (XW X.K true):=by
 intro g s l H x y v u Q I i k h;obtain⟨p,xs,rfl,hq,f,d,q⟩:=h;cases k;rcases hq with hq|hq
 ·obtain⟨c,r,e,j⟩:=I.list hq;refine SeqAt.notIn_listAt (A5 x) e.isList (λ w hw=>mx i f r d w (by simpa using hw)) ⟨.bl _,H,I,rfl,?_⟩;rw[show c.toArray.any (A5 x)=c.any (A5 x) by simp,o9 r d];exact q
 ·obtain⟨c,r,e,j⟩:=I.tuple hq;refine SeqAt.notIn_tupleAt (A5 x) e (λ w hw=>mx i f r d w (by simpa using hw)) ⟨.bl _,H,I,rfl,?_⟩;rw[show c.toArray.any (A5 x)=c.any (A5 x) by simp,o9 r d];exact q
def xm:bx X (.builtin "len") (λ xs H Q=>∃ p ys,xs=[.ref p]/\(eS X.K H p ys∨fM X.K H p ys)/\Q (.int ys.length) H):=by
 intro g s l H xs us Q I r h;obtain⟨p,ys,rfl,hq,q⟩:=h;obtain⟨u,rfl,j⟩:=vals1 r;cases j;have k:=mw;rcases hq with hq|hq
 ·obtain⟨d,f,e,i⟩:=I.list hq;have c:=f.length;exact Calls.call_len_list e.isList (by simp only[Ù]<;>lia) ⟨.int ys.length,H,I.tok _,⟨s.toks+1,by rw[Ù,c]⟩,q⟩
 ·obtain⟨d,f,e,i⟩:=I.tuple hq;have c:=f.length;exact len_tuple e (by simp only[Ù]<;>lia) ⟨.int ys.length,H,I.tok _,⟨s.toks+1,by rw[Ù,c]⟩,q⟩
def xo:bx X (.builtin "len") (λ xs H Q=>∃ z,xs=[.str z]/\z.length<=sizeLine/\Q (.int z.length) H):=by
 intro c s f H xs us Q I r h;obtain⟨z,rfl,e,q⟩:=h;obtain⟨u,rfl,t,rfl⟩:=vals1 r;have d:=mw;exact len_str (by lia) ⟨.int z.length,H,I.tok _,⟨_,rfl⟩,q⟩
def xq:bx X (.type "list") (λ xs H Q=>∃ p ys,xs=[.ref p]/\(eS X.K H p ys∨fM X.K H p ys)/\∀ l,H l=none->Q (.ref l) (upd H l (.lst ys))):=by
 intro t s B H xs us Q I r h;obtain⟨p,ys,rfl,hq,q⟩:=h;obtain⟨u,rfl,A⟩:=vals1 r;cases A;have i:∀ (c:Á Value),Vals ys c->ys.length<=sizeLine->∀ (d:Heap) (f:Nat),(∀ b z,s.heap.get? b=À z->d.get? b=À z)->
   d.get? s.heap.objs.size=À { cls:=.type "list",dict:=none,data:=.seq c.toArray f,slots:=#[] }->EP X t B Q (.ref s.heap.objs.size) { s with heap:=d }:=λ c g k d f m e=>
  ⟨.ref s.heap.objs.size,_,I.laid (t':=s.toks) m (Ì _) (show Ŕ X.prog X.w _ d _ (.lst ys) from⟨k,c,f,g,e⟩),rfl,q _ (I.ś.fresh (Ì _))⟩
 rcases hq with hq|hq
 ·obtain⟨c,g,y,k⟩:=I.list hq;have j:=g.length;obtain⟨o,x,v,n,hd⟩:=y.isList;exact call_list_seq p (.inl rfl) x v hd (λ d f m e=>i c g k d f m e) (by simp only[Ù]<;>lia)
 ·obtain⟨c,g,y,k⟩:=I.tuple hq;have j:=g.length;obtain⟨o,x,v,n,hd⟩:=y;exact call_list_seq p (.inr rfl) x v hd (λ d f m e=>i c g k d f m e) (by simp only[Ù]<;>lia)
def vw:bx X (.type "tuple") (λ xs H Q=>∃ p ys,xs=[.ref p]/\((eS X.K H p ys/\∀ l,H l=none->Q (.ref l) (upd H l (.tup ys)))∨(fM X.K H p ys/\Q (.ref p) H))):=by
 intro c s n H xs us Q I r h;obtain⟨p,ys,rfl,h⟩:=h;obtain⟨u,rfl,v⟩:=vals1 r;cases v;rcases h with⟨g,q⟩|⟨g,q⟩
 ·obtain⟨d,j,i,m⟩:=I.list g;have k:=j.length;refine call_tuple_list i.isList (λ f t=>?_) (by simp only[Ù]<;>lia);have A:Inv X c n H { s with heap:=f }:=I.kept (t':=s.toks) t;have B:Inv X c n (upd H f.objs.size (.tup ys)) { s with heap:=f.push { cls:=.type "tuple",data:=.seq d.toArray } }:=
   A.laid (t':=s.toks) (λ b o e=>Ã _ e) (Ì _) (show Ŕ X.prog X.w _ _ _ (.tup ys) from⟨m,d,j,sW _ _⟩)
  exact⟨.ref f.objs.size,_,B,rfl,q _ (A.ś.fresh (Ì _))⟩
 ·obtain⟨d,j,i,m⟩:=I.tuple g;exact call_tuple_same i ⟨.ref p,H,I,rfl,q⟩
def Um (K:É)(T:String)(x:V)(H:Hp):Prop:=match x with
 | .str _=>T="str"
 | .int _=>T="int"
 | .ref p=>(T="list"/\∃ xs,eS K H p xs)∨(T="tuple"/\∃ o,K.lookup p=À o/\o.cls=.type "tuple"/\o.dict=none)∨
   (T="dict"/\((∃ c,H p=À (.dK c))∨∃ c,H p=À (.dT c)))∨(T="set"/\∃ S n,H p=À (.set S n))
 | _=>False
def BK (I:Inv X l y H s)(r:RelV x v)(g:Um X.K T x H) :
  s.TypeIs v T/\∀ a,v=.ref a->∃ k,s.heap.get? a=À k/\k.dict=none:=by
 cases x with
 | str z=>
  obtain⟨t,rfl⟩:=r;cases (show T="str" from g);exact⟨typeIs_str s z t,λ _ e=>nomatch e⟩
 | int i=>
  obtain⟨t,rfl⟩:=r;cases (show T="int" from g);exact⟨typeIs_int s i t,λ _ e=>nomatch e⟩
 | ref p=>
  cases r;rcases g with⟨rfl,xs,u⟩|⟨rfl,o,d,q,hd⟩|⟨rfl,d⟩|⟨rfl,S,n,d⟩
  ·obtain⟨w,_,m,_⟩:=I.list u;refine⟨m.isList.typeIs,λ a e=>?_⟩;cases e;obtain⟨o,n,e,c,hd,_⟩:=m;exact⟨o,e,hd⟩
  ·refine⟨⟨o,I.ll p o d,q⟩,λ a e=>?_⟩;cases e;exact⟨o,I.ll _ o d,hd⟩
  ·have z:∃ o,s.heap.get? p=À o/\o.ExactDict:=by
    rcases d with⟨j,d⟩|⟨j,d⟩
    ·obtain⟨_,_,_,_,o,_,_,e,f,_⟩:=I.ś p _ d;exact⟨o,e,f⟩
    ·obtain⟨_,_,_,_,o,_,_,e,f,_⟩:=I.ś p _ d;exact⟨o,e,f⟩
   obtain⟨o,e,f⟩:=z;refine⟨⟨o,e,f.1⟩,λ a h=>?_⟩;cases h;exact⟨o,e,f.2.1⟩
  ·obtain⟨o,_,_,_,e,f,_⟩:=I.ś p _ d;refine⟨⟨o,e,f.1⟩,λ a h=>?_⟩;cases h;exact⟨o,e,f.2.1⟩
 | _=>exact ag g
def V9 (K:É)(T:String)(r:V->Á V->Hp->VK->Prop)(c:TE):TE:=λ d H Q=>c d H λ x A=>Um K T x A/\r x [] A Q
def V7 (K:É)(T:String)(r:V->Á V->Hp->VK->Prop)(d:TE)(t:TA):TE:=λ c H Q=>d c H λ x A=>Um K T x A/\t c A λ xs B=>r x xs B Q
variable {o e:Expr}{es:Á Expr}{to:TE}{t:TA}{name:Str}{jI iq:kK}{T id:String}{r:V->Á V->Hp->VK->Prop}
def OH (q:vl T)(g:Slot T name id)(i:Qo (.builtin id)=pure (.type "method_descriptor")) (n:IZ X id r)(p:PE X o to)
  (d:aF o name X.env (Ē o X.env)=Ē o X.env:=by rfl) (f:(jI.endLine == iq.line)=true:=by rfl):PE X (.Call (.Attribute o name jI) [] [] iq) (V9 X.K T r to):=by
 intro c s k H Q I h;refine wpAny_Call_method0_late d f (Ź (p c s k H _ I h) λ v w z=>?_);obtain⟨x,B,A,j,y,u⟩:=z;obtain⟨l,m⟩:=BK A j y;exact⟨T,id,q,g,i,l,m,fH rfl (PySem.evalArgs_none (n c w k B x [] v [] Q A j .nil u))⟩
def SG (F:vl T)(j:Slot T name id)(k:Qo (.builtin id)=pure (.type "method_descriptor")) (y:IZ X id r)(z:PE X o to)(w:PA X (e :: es) t)
  (f:aF o name X.env (Ē o X.env)=Ē o X.env:=by rfl)
  (i:((Ĝ iq (Í (e :: es) X.env)).all (λ x=>!x.1) && (fI iq (bj [] X.env)).all (λ x=>x.1.isSome)
   && decide ((e :: es).length+([]:Á h8).length+(if ([]:Á h8).isEmpty then 0 else 1) < 30))=true:=by rfl)
  (g:(jI.endLine == iq.line)=true:=by rfl) (E:Í (e :: es) X.env=(false,Ē e X.env) :: Í es X.env:=by rfl) (d:(Ĝ iq (Í es X.env)).any (·.1)=false:=by rfl) :
  PE X (.Call (.Attribute o name jI) (e :: es) [] iq) (V7 X.K T r to t):=by
 intro c s m H Q I h;refine wpAny_Call_method_late f i g rfl (Ź (z c s m H _ I h) λ v M l=>?_);obtain⟨x,B,A,p,O,G⟩:=l;obtain⟨q,u⟩:=BK A p O;refine⟨T,id,F,j,k,q,u,?_⟩;have n:=w iq c M m B _ A G;rw[E]at n ⊢;refine fH (by show(false || (Ĝ iq (Í es X.env)).any (·.1))=false;rw[d]<;>rfl) (nR ?_);exact Ź n λ us N l=>iF l λ P C D L J=>y c N m C x P v us Q D p L J
end
def Xh (X:Cx)(id:String)(r:V->Á V->Hp->VK->Prop):Prop:=
 ∀ (a:Á (Addr × Obj)) (s:Ò) (b:St) (H:Hp) (x:V) (xs:Á V) (v:Value) (us:Á Value) (Q:VK),Inv X a b H s->RelV x v->Vals xs us->r x xs H Q->
  Ú (à X.prog X.w) X.A (call (.builtin id) (v :: us)) (EP X a b Q) X.xe s
def Vals.one:∀ {x:V}{us:Á Value},Vals [x] us->∃ u,us=[u]/\RelV x u
 | _,_,.cons r .nil=>⟨_,rfl,r⟩
theorem Vals.eraseIdx:∀ {xs:Á V}{us:Á Value}(i:Nat),Vals xs us->Vals (xs.eraseIdx i) (us.eraseIdx i)
 | _,_,_,.nil=>.nil
 | _,_,0,.cons _ t=>t
 | _,_,i+1,.cons r t=>.cons r (Vals.eraseIdx i t)
theorem wm:∀ (l:Á α)(i:Nat),(l.eraseIdx i).length<=l.length
 | [],_=>Ì _
 | _ :: _,0=>lD _
 | _ :: r,i+1=>MP (wm r i)
section
variable {X:Cx}{õ:Á (Addr × Obj)}{σ:St}{H:Hp}{s:Ò}{l b:Addr}{xs ys zs:Á V}
def Inv.R5 {its its':Á Value}{n:Nat}{f:Ă Value->Ă Value}{t':Nat}(I:Inv X õ σ H s)(a:H l=À (.lst xs))
  (e:s.heap.get? l=À { cls:=.type "list",data:=.seq its.toArray n }) (d:f its.toArray=its'.toArray) (g:Vals ys its') (hz:ys.length<=sizeLine) :
  Inv X õ σ (upd H l (.lst ys)) { s with heap:=s.heap.update l (ð f),toks:=t' }:=by
 have q:=PySem.IsL.update e f;rw[d]at q;refine I.write (x:=l) (e:=l) (by rw[a];exact trivial) (.inl rfl) (λ h u c hu=>(ç s.heap (ð f) (Ŋ c)).trans hu) ⟨_,q⟩ ?_;exact⟨hz,its',_,g,q⟩
def Inv.NK (I:Inv X õ σ H s)(a:Vals ys its)(hz:ys.length<=sizeLine) :
  Inv X õ σ (upd H s.heap.objs.size (.lst ys)) { s with heap:=s.heap.push { cls:=.type "list",data:=.seq its.toArray },toks:=t' }:=
 I.laid (λ _ _ q=>Ã _ q) (Ì _) ⟨hz,its,0,a,Ö _ rfl⟩
theorem Inv.fresh (I:Inv X õ σ H s):H s.heap.objs.size=none:=I.ś.fresh (Ì _)
def Inv.Gw (I:Inv X õ σ H s)(a:H l=À (.lst xs)):xs.length<=sizeLine/\∃ (its:Á Value) (n:Nat),Vals xs its/\xs.length=its.length/\s.heap.get? l=À { cls:=.type "list",data:=.seq its.toArray n }:=by
 obtain⟨z,its,n,r,e⟩:=I.ś l _ a;exact⟨z,its,n,r,r.length,e⟩
end
section
variable {X:Cx}
def Lp:V->Á V->Hp->VK->Prop:=λ x a H Q=>∃ l xs y,x=.ref l/\a=[y]/\H l=À (.lst xs)/\xs.length < sizeLine/\Q .Ę (upd H l (.lst (xs++[y])))
def wx:Xh X "list.append" Lp:=by
 intro c s j H x i v us Q I f rv h;obtain⟨l,xs,y,rfl,rfl,b,g,q⟩:=h;cases f;obtain⟨u,rfl,d⟩:=rv.one;obtain⟨z,a,n,r,hl,e⟩:=I.Gw b;refine Ql F.slot_list_append ⟨_,e,rfl⟩ F.entry_list_append (F.args_list_append_2 _ _) (PySem.list_append l a.toArray n u (by rw[Ù];lia)) ⟨e,?_⟩;refine⟨.Ę,_,I.R5 (its':=a++[u]) b e (by simp) (r.append (.cons d .nil)) ?_,rfl,q⟩;rw[ă,C5];lia
def O7:V->Á V->Hp->VK->Prop:=λ x a H Q=>∃ l xs i k y,x=.ref l/\a=[.int i]/\H l=À (.lst xs)/\-(2 ^ 63)<=i/\i < 2 ^ 63/\yZ i xs.length=À k/\xs[k]? = À y/\Q y (upd H l (.lst (xs.eraseIdx k)))
def GW:Xh X "list.pop" O7:=by
 intro d s B H x A v us Q I p rv h;obtain⟨l,xs,i,k,y,rfl,rfl,c,f,g,j,m,q⟩:=h;cases p;obtain⟨u,rfl,o⟩:=rv.one;obtain⟨t,rfl⟩:=o;obtain⟨z,a,n,r,hl,e⟩:=I.Gw c;obtain⟨w,hw,b⟩:=r.get m;refine Ql F.slot_list_pop ⟨_,e,rfl⟩ F.entry_list_pop (F.args_list_pop_2 _ _)
  (MeetsSeq.list_pop_at l a.toArray n i t k w (fitsIndex_both f g) (by rw[Ù,<-hl];exact j) (by rw[<-aa];exact hw) (by rw[Ù];lia)) ⟨e,?_⟩
 refine⟨y,_,I.R5 (its':=a.eraseIdx k) c e ?_ (r.eraseIdx k) ?_,b,q⟩
 ·show a.toArray.eraseIdxIfInBounds k=(a.eraseIdx k).toArray;rw[List.eraseIdxIfInBounds_toArray]
 ·have:=wm xs k;lia
def VN:R2:=λ x y H Q=>∃ l b xs a,x=.ref l/\y=.ref b/\H l=À (.lst xs)/\H b=À (.lst a)/\xs.length+a.length<=sizeLine/\∀ p,H p=none->Q (.ref p) (upd H p (.lst (xs++a)))
def Oz:jf X (bB .Add) VN:=by
 intro d s C H x y v u Q I o p h;obtain⟨l,b,xs,B,rfl,rfl,j,i,t,q⟩:=h;cases o;cases p;obtain⟨z,c,n,r,hl,e⟩:=I.Gw j;obtain⟨A,a,w,m,k,f⟩:=I.Gw i;refine PySem.P.add_list e f ?_ (by rw[Ù,Ù];lia);have g:c.toArray++a.toArray=(c++a).toArray:=by simp
 rw[g];exact⟨.ref _,_,I.NK (t':=s.toks) (r.append m) (by rw[ă];lia),rfl,q _ I.fresh⟩
end
section
variable {prog:Ĉ}{w:Ĩ}{A:į}{E:Value->Ò->Prop}{s:Ò}
end
section
variable {X:Cx}
end
section
variable {κ:Type} [mI κ]
def iA (kvs:Á (κ × V)) (k:κ):Ê V:=(kvs.find? λ a=>decide (a.1=k)).map (·.2)
def putK (kvs:Á (κ × V)) (k:κ)(v:V):Á (κ × V):=
 if (kvs.any λ a=>decide (a.1=k))=true then kvs.map (λ a=>if a.1=k then (a.1,v) else a) else kvs++[(k,v)]
def mF {p:κ × V}{r:Á (κ × V)}{k:κ}(e:p.1=k):iA (p :: r) k=À p.2:=by simp[iA,cF,e]
def mE {p:κ × V}{r:Á (κ × V)}{k:κ}(e:¬ p.1=k):iA (p :: r) k=iA r k:=by simp[iA,cF,e]
theorem Am (k:κ):∀ kvs:Á (κ × V),(kvs.any λ a=>decide (a.1=k))=(iA kvs k).isSome
 | []=>rfl
 | p :: r=>by
  rw[ř];by_cases e:p.1=k
  ·simp only[mF e,ć e,Tp,EL]
  ·rw[mE e,ö e,pV];exact Am k r
def mu (kvs:Á (κ × V)) (k:κ)(v:V):(putK kvs k v).length<=kvs.length+1:=by
 unfold putK;split
 ·rw[Î];lia
 ·rw[ă,ē,aJ];lia
def lQ.kj (r:lQ o u):o.isSome=u.isSome:=by
 cases o with
 | none=>cases u with
  | none=>rfl
  | some _=>exact(show False from r).elim
 | some _=>cases u with
  | none=>exact(show False from r).elim
  | some _=>rfl
theorem lQ.getD (r:lQ o u)(a:RelV d d'):RelV (o.getD d) (u.getD d'):=by
 cases o with
 | none=>cases u with
  | none=>exact a
  | some _=>exact(show False from r).elim
 | some _=>cases u with
  | none=>exact(show False from r).elim
  | some _=>exact r
def KV.val {kvs:Á (κ × V)}{vs:Á (κ × Value)}(r:KV kvs vs)(k:κ):lQ (iA kvs k) (w8 vs k):=by
 unfold KV at r;induction r with
 | nil=>exact a7
 | @cons p q i c h t g=>
  obtain⟨d,f⟩:=h;by_cases e:p.1=k
  ·have a:q.1=k:=d.symm.trans e;have b:w8 (q :: c) k=À q.2:=by simp[w8,cF,a]
   rw[mF e,b];exact f
  ·have a:¬ q.1=k:=λ z=>e (d.trans z);have b:w8 (q :: c) k=w8 c k:=by simp[w8,cF,a]
   rw[mE e,b];exact g
theorem KV.any (r:KV kvs vs)(k:κ):(kvs.any λ a=>decide (a.1=k))=vs.any λ a=>decide (a.1=k):=by
 unfold KV at r;induction r with
 | nil=>rfl
 | cons h t b=>rw[ř,ř,b,h.1]
def KV.Pb (r:KV kvs vs)(k:κ)(f:RelV y u) :
  KV (kvs.map λ a=>if a.1=k then (a.1,y) else a) (vs.map λ a=>if a.1=k then (a.1,u) else a):=by
 unfold KV at r ⊢;induction r with
 | nil=>exact .nil
 | @cons p q g i h t d=>
  rw[Õ,Õ];refine .cons ?_ d;obtain⟨b,c⟩:=h;by_cases e:p.1=k
  ·rw[Ï e,Ï (b.symm.trans e)];exact⟨b,f⟩
  ·rw[Ô e,Ô (λ z=>e (b.trans z))];exact⟨b,c⟩
def KV.put (r:KV kvs vs)(k:κ)(a:RelV y u):KV (putK kvs k y) (stored vs k u):=by
 unfold putK stored;rw[r.any k];by_cases e:(vs.any λ b=>decide (b.1=k))=true
 ·rw[Ï e,Ï e];exact r.Pb k a
 ·rw[Ô e,Ô e];exact Qe r ⟨rfl,a⟩
theorem KV.length (r:KV kvs vs):kvs.length=vs.length:=oW r
end
def rn (r:RelV (kV k) u):(ů P w).is k u=true:=by
 cases k with
 | inl i=>obtain⟨t,e⟩:=(show ∃ t,u=lM i t from r);subst e;exact ry P w i t
 | inr x=>obtain⟨t,e⟩:=(show ∃ t,u=tj x t from r);subst e;exact rF P w x t
theorem wb:∀ {ks:Á Key}{us:Á Value},Vals (ks.map kV) us->ItemsAre (ů P w) ks us
 | [],_,r=>by rw[aj]at r;cases r;exact .nil
 | k :: ks,_,r=>by
  rw[Õ]at r;cases r with
  | cons h t=>exact .cons (rn h) (wb t)
abbrev KT (H:Hp):Á (Á Key × V)->Á (Á Key × Addr × Value)->Prop:=Paired λ p q=>p.1=q.1/\H q.2.1=À (.tup (p.1.map kV))/\RelV p.2 q.2.2
def KT.val {H:Hp}{kvs:Á (Á Key × V)}{xs:Á (Á Key × Addr × Value)}(r:KT H kvs xs)(k:Á Key):lQ (iA kvs k) ((Dd xs k).map (·.2)):=by
 induction r with
 | nil=>exact a7
 | @cons p q i c h t g=>
  obtain⟨d,_,f⟩:=h;by_cases e:p.1=k
  ·have a:q.1=k:=d.symm.trans e;have b:Dd (q :: c) k=À q.2:=by simp[Dd,cF,a]
   rw[mF e,b];exact f
  ·have a:¬ q.1=k:=λ z=>e (d.trans z);have b:Dd (q :: c) k=Dd c k:=by simp[Dd,cF,a]
   rw[mE e,b];exact g
def KT.Pb (r:KT H kvs xs)(k:Á Key)(g:RelV y u) :
  KT H (kvs.map λ b=>if b.1=k then (b.1,y) else b) (xs.map (putAt k u)):=by
 induction r with
 | nil=>exact .nil
 | @cons p q i j h t f=>
  rw[Õ,Õ];refine .cons ?_ f;obtain⟨a,c,d⟩:=h;unfold putAt;by_cases e:p.1=k
  ·rw[Ï e,Ï (a.symm.trans e)];exact⟨a,c,g⟩
  ·rw[Ô e,Ô (λ z=>e (a.trans z))];exact⟨a,c,d⟩
def KT.put (r:KT H kvs xs)(k:Á Key)(c:H b=À (.tup (k.map kV))) (a:RelV y u) :
  KT H (putK kvs k y) (storedH xs k b u):=by
 have e:(kvs.any λ d=>decide (d.1=k))=(Dd xs k).isSome:=by
  rw[Am,(r.val k).kj,j9]
 unfold putK storedH;rw[e];by_cases q:(Dd xs k).isSome=true
 ·rw[Ï q,Ï q];exact r.Pb k a
 ·rw[Ô q,Ô q];exact Qe r ⟨rfl,c,a⟩
def KT.keeps (r:KT H kvs xs)(a:∀ b ys,H b=À (.tup ys)->H' b=À (.tup ys)):KT H' kvs xs:=
 Paired.NO r λ _ _ z=>⟨z.1,a _ _ z.2.1,z.2.2⟩
section
variable {P:Ĉ}{w:Ĩ}{H:Hp}{h:Heap}{a:Addr}
def MC (b:lP P w H h)(e:Rd H a u):Ŕ P w H h a u:=e.ok b
def rh (b:lP P w H h)(e:Rd H a (.dK kvs)):kvs.length<=sizeLine/\(a == bC)=false/\∃ vs,KV kvs vs/\h.DictOf (ů P w) a vs:=
 show Ŕ P w H h a (.dK kvs) from MC b e
def FH (b:lP P w H h)(e:H a=À (.dK kvs)):kvs.length<=sizeLine/\(a == bC)=false/\∃ vs,KV kvs vs/\h.DictOf (ů P w) a vs:=rh b (.inl e)
def oh (g:lP P w H h)(e:H a=À (.tup (ks.map kV))):(lE (ů P w)).is h ks a:=by
 obtain⟨_,b,r,o,c,d,n,f⟩:=(show Ŕ P w H h a (.tup (ks.map kV)) from g a _ e)
 exact⟨o,b.toArray,n,c,d,f,by simpa using wb r⟩
def ri (c:lP P w H h)(e:Rd H a (.dT kvs)):kvs.length<=sizeLine/\(a == bC)=false/\
  ∃ xs,KT H kvs xs/\h.DictOfH (lE (ů P w)) a xs:=by
 obtain⟨z,y,xs,r,o,f,d,g,i,j,k,n⟩:=(show Ŕ P w H h a (.dT kvs) from MC c e)
 refine⟨z,y,xs,r,o,f,d,g,i,j,k,λ x hx=>?_,n⟩;have all:∀ {l:Á (Á Key × V)}{m:Á (Á Key × Addr × Value)},KT H l m->∀ x∈m,(lE (ů P w)).is h x.1 x.2.1:=by
  intro l m q;induction q with
  | nil=>intro x hx;exact nomatch hx
  | @cons p q u v b t s=>
   intro x hx;rcases Þ.mp hx with e|hx
   ·subst e;exact oh c (by rw[<-b.1];exact b.2.1)
   ·exact s x hx
 exact all r x hx
def Rm (b:lP P w H h)(e:H a=À (.dT kvs)):kvs.length<=sizeLine/\(a == bC)=false/\
  ∃ xs,KT H kvs xs/\h.DictOfH (lE (ů P w)) a xs:=ri b (.inl e)
end
def iH (H:Hp)(a:Addr)(y:V)(r:Ê V):Prop:=
 (∃ c k,Rd H a (.dK c)/\y=kV k/\r=iA c k)∨∃ c k b,Rd H a (.dT c)/\y=.ref b/\H b=À (.tup (k.map kV))/\r=iA c k
def vr (H:Hp)(a:Addr)(y v:V)(H':Hp):Prop:=
 (∃ c k,H a=À (.dK c)/\y=kV k/\c.length < sizeLine/\H'=upd H a (.dK (putK c k v)))∨
 ∃ c k b,H a=À (.dT c)/\y=.ref b/\H b=À (.tup (k.map kV))/\c.length < sizeLine/\H'=upd H a (.dT (putK c k v))
theorem iH.k {H:Hp}{a:Addr}{kvs:Á (Key × V)}{k:Key}(e:H a=À (.dK kvs)):iH H a (kV k) (iA kvs k):=.inl ⟨kvs,k,.inl e,rfl,rfl⟩
def iH.t {H:Hp}{a b:Addr}{kvs:Á (Á Key × V)}{k:Á Key}(e:H a=À (.dT kvs)) (c:H b=À (.tup (k.map kV))):iH H a (.ref b) (iA kvs k):=.inr ⟨kvs,k,b,.inl e,rfl,c,rfl⟩
theorem vr.k {H:Hp}{a:Addr}{kvs:Á (Key × V)}{k:Key}{v:V}(e:H a=À (.dK kvs)) (hl:kvs.length < sizeLine):vr H a (kV k) v (upd H a (.dK (putK kvs k v))):=.inl ⟨kvs,k,e,rfl,hl,rfl⟩
def vr.t {H:Hp}{a b:Addr}{kvs:Á (Á Key × V)}{k:Á Key}{v:V}(e:H a=À (.dT kvs)) (c:H b=À (.tup (k.map kV))) (hl:kvs.length < sizeLine) :
  vr H a (.ref b) v (upd H a (.dT (putK kvs k v))):=.inr ⟨kvs,k,b,e,rfl,c,hl,rfl⟩
section
variable {X:Cx}{õ:Á (Addr × Obj)}{σ:St}{H:Hp}{s:Ò}{a:Addr}{y v:V}{u r:Value}{o:Ê V}{A:į}{E:Value->Ò->Prop}
def Inv.big (I:Inv X õ σ H s):bC < s.heap.objs.size:=by
 have h:mainGlobals < s.heap.objs.size:=(I.mod.glob.keeps I.bk).lt;exact ni (by decide) h
def DE (hu:A.units+1 < cLine)(I:Inv X õ σ H s)(g:iH H a y (À v)) (q:RelV y u)(h:∀ f s',Inv X õ σ H s'->RelV v f->Q f s') :
  Ú (à X.prog X.w) A (mJ (.ref a) u) Q E s:=by
 rcases g with⟨n,k,e,j,l⟩|⟨n,k,b,e,j,t,l⟩
 ·subst j;obtain⟨z,hd,B,c,i⟩:=rh I.ś e;obtain⟨f,hw,d⟩:=lQ.some_of (v:=v) (o:=w8 B k) (by rw[l];exact c.val k);exact wpAny_getItem_of (rn q) i.mapOf hw (h f _ (I.tok _) d)
 ·subst j;cases (show u=Ñ b from q);obtain⟨z,hd,xs,c,i⟩:=ri I.ś e;obtain⟨f,hw,d⟩:=lQ.some_of (v:=v) (o:=(Dd xs k).map (·.2)) (by rw[l];exact c.val k);obtain⟨p,x,m⟩:=Option.map_eq_some_iff.mp hw;refine wpAny_getItem_heap (c_ hu) (oh I.ś t) i x ?_;rw[m];exact h f _ (I.tok _) d
def U9 (hu:A.units+1 < cLine)(I:Inv X õ σ H s)(g:iH H a y o)(j:RelV y u)(h:∀ s',Inv X õ σ H s'->Q (.bool o.isSome) s') :
  Ú (à X.prog X.w) A (ĥ .In u (.ref a)) Q E s:=by
 rcases g with⟨i,k,e,f,l⟩|⟨i,k,b,e,f,m,l⟩
 ·subst f;obtain⟨z,hd,n,c,d⟩:=rh I.ś e;refine wpAny_in_of (rn j) hd d.mapOf ?_;rw[<-(c.val k).kj,<-l];exact h _ (I.tok _)
 ·subst f;cases (show u=Ñ b from j);obtain⟨z,hd,xs,c,d⟩:=ri I.ś e;refine wpAny_in_heap (c_ hu) (oh I.ś m) hd d ?_;have q:=(c.val k).kj;rw[j9]at q;rw[<-q,<-l];exact h _ (I.tok _)
def JG (hu:A.units+1 < cLine)(I:Inv X õ σ H s)(g:iH H a y o)(j:RelV y u)(h:∀ s',Inv X õ σ H s'->Q (.bool (!o.isSome)) s') :
  Ú (à X.prog X.w) A (ĥ .NotIn u (.ref a)) Q E s:=by
 rcases g with⟨i,k,e,f,l⟩|⟨i,k,b,e,f,m,l⟩
 ·subst f;obtain⟨z,hd,n,c,d⟩:=rh I.ś e;refine wpAny_notIn_of (rn j) hd d.mapOf ?_;rw[<-(c.val k).kj,<-l];exact h _ (I.tok _)
 ·subst f;cases (show u=Ñ b from j);obtain⟨z,hd,xs,c,d⟩:=ri I.ś e;refine wpAny_notIn_heap (c_ hu) (oh I.ś m) hd d ?_;have q:=(c.val k).kj;rw[j9]at q;rw[<-q,<-l];exact h _ (I.tok _)
def xt (I:Inv X õ σ H s)(i:P4 (H a)) (h:dR a s.heap h')(g:∃ q,h'.get? a=À q)(c:Ŕ X.prog X.w (upd H a d) h' a d) :
  Inv X õ σ (upd H a d) { s with heap:=h',toks:=t' }:=
 I.write (x:=a) (e:=a) i (.inl rfl) (λ b q f z=>(h.2 b f).trans z) g c
def FG (z:kvs.length<=sizeLine)(hd:(a == bC)=false) (b:KV kvs vs)(dd:h'.DictOf (ů P w) a vs) :
  Ŕ P w H' h' a (.dK kvs):=⟨z,hd,vs,b,dd⟩
def vX (hu:A.units+1 < cLine)(I:Inv X õ σ H s)(g:vr H a y v H')(F:RelV y u)(rv:RelV v r)(h:∀ s',Inv X õ σ H' s'->Q () s') :
  Ú (à X.prog X.w) A (Jv (.ref a) u r) Q E s:=by
 rcases g with⟨d,k,e,p,l,n⟩|⟨d,k,b,e,p,B,l,n⟩
 ·subst p n;obtain⟨z,hd,T,f,m⟩:=FH I.ś e;have x:T.length<=sizeLine:=by rw[<-f.length];exact z
  have hl:(putK d k v).length<=sizeLine:=by have:=mu d k v;lia
  refine wpAny_setItem_pairs (hsz:=x) (rn F) m λ D i t=>h _ ?_;have P:∃ q,D.get? a=À q:=let ⟨q,_,_,j,_⟩:=i;⟨q,j⟩;exact xt I (by rw[e];exact a7) t P (FG hl hd (f.put k rv) i)
 ·subst p n;cases (show u=Ñ b from F);obtain⟨z,hd,xs,f,m⟩:=Rm I.ś e;have x:xs.length<=sizeLine:=by rw[<-oW f];exact z
  have hl:(putK d k v).length<=sizeLine:=by have:=mu d k v;lia
  refine wpAny_setItem_heap (hsz:=x) (c_ hu) (oh I.ś B) m λ D i t=>h _ ?_;obtain⟨q,J,G,j,L,M,N,_,O⟩:=i;refine xt I (by rw[e];exact a7) t ⟨q,j⟩ ⟨hl,hd,_,(f.put k B rv).keeps λ c U C=>?_,q,J,G,j,L,M,N,O⟩;rw[ä (ui C e (λ z=>nomatch z))];exact C
end
section
variable {X:Cx}{õ:Á (Addr × Obj)}{σ:St}{H:Hp}{s:Ò}{a:Addr}{kvs:Á (Key × V)}{k:Key}{u:Value}{A:į}{E:Value->Ò->Prop}
end
def MY (i:Expr):Prop:=∀ b a,Ay i false b a=operate [b,a] (mJ b a)
def LH {prog:Ĉ}{w:Ĩ}{A:į}{E:Value->Ò->Prop}{s:Ò}{env:yJ}{b a:Expr}{pos:kK}{T id:String}{Q:Value->Ò->Prop}
  (hl:typeLookup (.type T) "__getitem__"=pure (À (.builtin id))) (m:MY a)
  (h:Ú (à prog w) A (Ē b env) (λ o e=>Ú (à prog w) A (Ē a env) (λ i c=>c.TypeIs o T/\Ú (à prog w) A (mJ o i) Q E c) E e) E s) :
  Ú (à prog w) A (Ē (.Subscript b a pos) env) Q E s:=by
 refine C_ (ae h (λ o e j=>ae j (λ i c d=>?_) λ _ _ x=>x) λ _ _ x=>x);obtain⟨l,d⟩:=d;unfold E4;refine Â ?_;rw[getitemInPython_of_ne l.not_modules];refine Â (wpAny_specialOf l hl ?_);have g:Ú (à prog w) A (Ay a false o i) (λ r f=>Ú (à prog w) A (letTemporaryGo b o r >>= λ _=>pure r) Q E f) E c:=by
  rw[m o i];exact wpAny_operating (ae d (λ r f k=>Â (wpAny_letTemporaryGo (Ë k))) λ _ _ x=>x)
 first
  | exact Ë (Â g)
  | exact Â (Ë (Â g))
  | exact Â g
def zm (I:Inv X f i H s)(g:iH H a y o):s.TypeIs (.ref a) "dict":=by
 rcases g with⟨d,k,e,_,_⟩|⟨d,k,b,e,_,_,_⟩
 ·obtain⟨_,_,h,_,c⟩:=rh I.ś e;exact c.typeIs
 ·obtain⟨_,_,xs,_,c⟩:=ri I.ś e;exact c.typeIs
def S6 (c d:TE):TE:=λ b H Q=>c b H λ x B=>d b B λ y A=>∃ a v,x=.ref a/\iH A a y (À v)/\Q v A
def V_ (d c:TE):TE:=λ b H Q=>d b H λ y B=>c b B λ x A=>∃ a o,x=.ref a/\iH A a y o/\Q (.bl o.isSome) A
def LJ (d c:TE):TE:=λ b H Q=>d b H λ y B=>c b B λ x A=>∃ a o,x=.ref a/\iH A a y o/\Q (.bl (!o.isSome)) A
def SY (c e d:TE):TS:=λ D b H=>d b H λ v B=>c b B λ x C=>e b C λ y E=>∃ a A,x=.ref a/\vr E a y v A/\D.nx b A
section
variable {X:Cx}{o i e value:Expr}{pos pos' LN:kK}{td ty tv:TE}
def CL (hu:X.A.units+1 < cLine)(k:PE X o td)(j:PE X i ty)(l:MY i):PE X (.Subscript o i pos) (S6 td ty):=by
 intro b s d H Q I h;refine LH PySem.F.slot_dict_getitem.lookup l (Ź (k b s d H _ I h) λ u r t=>iF t λ x C E p m=>Ź (j b r d C _ E m) λ w z ⟨y,D,B,q,a,v,f,g,n⟩=>?_);subst f;obtain rfl:u=Ñ a:=p;exact⟨zm B g,DE hu B g q λ L J G c=>⟨v,D,G,c,n⟩⟩
def Bq (hu:X.A.units+1 < cLine)(f:PE X i ty)(j:PE X o td):PC X .In i o (V_ ty td):=by
 intro b s c H Q I h;refine Ź (f b s c H _ I h) λ t q r=>iF r λ y B D p l=>Ź (j b q c B _ D l) λ u v ⟨x,C,E,n,a,k,d,g,m⟩=>?_;subst d;obtain rfl:u=Ñ a:=n;exact U9 hu E g p λ w F=>⟨.bl k.isSome,C,F,rfl,m⟩
def Eg (hu:X.A.units+1 < cLine)(f:PE X i ty)(j:PE X o td):PC X .NotIn i o (LJ ty td):=by
 intro b s c H Q I h;refine Ź (f b s c H _ I h) λ t q r=>iF r λ y B D p l=>Ź (j b q c B _ D l) λ u v ⟨x,C,E,n,a,k,d,g,m⟩=>?_;subst d;obtain rfl:u=Ñ a:=n;exact JG hu E g p λ w F=>⟨.bl (!k.isSome),C,F,rfl,m⟩
def CO (hu:X.A.units+1 < cLine)(k:PE X o td)(j:PE X i ty)(m:PE X value tv)(l:dJ value (À (.Subscript o i pos')) pos.line X.env=pure false) :
  PS X (.Assign [.Subscript o i pos'] value pos) (SY td ty tv):=by
 intro b s c H D I h;refine wpAny_Assign_Subscript (Ź (m b s c H _ I h) λ r z d=>iF d λ v B F rv n=>Ź (k b z c B _ F n) λ u M d=>iF d λ x C G t p=>Ź (j b M c C _ G p) λ O P ⟨y,N,J,w,a,E,f,g,q⟩=>?_) l;subst f;obtain rfl:u=Ñ a:=t;exact vX hu J g w rv λ Q L=>⟨c,E,L,q⟩
end
def zo (h:Heap)(a:bC < h.objs.size):Ŕ P w H (h.push { cls:=.type "dict",data:=.dict #[] }) h.objs.size (.dK []):=
 ⟨ï _,œ.mpr (Ŋ (ê a)),[],.nil,X8 h⟩
def FJ (h:Heap)(a:bC < h.objs.size):Ŕ P w H (h.push { cls:=.type "dict",data:=.dict #[] }) h.objs.size (.dT []):=
 ⟨ï _,œ.mpr (Ŋ (ê a)),[],.nil,_,#[],0,Ö _ rfl,⟨rfl,rfl,rfl⟩,rfl,rfl,List.nodup_nil⟩
def Pw:TE:=λ _ H Q=>∀ p,H p=none->Q (.ref p) (upd H p (.dK []))
def Px:TE:=λ _ H Q=>∀ p,H p=none->Q (.ref p) (upd H p (.dT []))
section
variable {X:Cx}{pos:kK}
def Hi:PE X (.Dict [] [] pos) Pw:=λ b s c H Q I h=>
 UX ⟨.ref s.heap.objs.size,_,I.laid (a:=s.heap.objs.size) (o:=.dK []) (t':=s.toks) (λ _ _ q=>Ã _ q) (Ì _) (zo s.heap I.big),rfl,h _ (I.ś.fresh (Ì _))⟩
def Hj:PE X (.Dict [] [] pos) Px:=λ b s c H Q I h=>
 UX ⟨.ref s.heap.objs.size,_,I.laid (a:=s.heap.objs.size) (o:=.dT []) (t':=s.toks) (λ _ _ q=>Ã _ q) (Ì _) (FJ s.heap I.big),rfl,h _ (I.ś.fresh (Ì _))⟩
end
def yp:Á (TE × TE)->St->Hp->(Á (V × V)->Hp->Prop)->Prop
 | [],_,H,Q=>Q [] H
 | (c,d) :: r,a,H,Q=>c a H λ x A=>d a A λ y B=>yp r a B λ b C=>Q ((x,y) :: b) C
abbrev VV:Á (V × V)->Á (Value × Value)->Prop:=Paired λ p q=>RelV p.1 q.1/\RelV p.2 q.2
def L9 (X:Cx)(pos:kK)(c:Á (Ê Expr)) (a:Á Expr)(d:Á (TE × TE)):Prop:=
 ∀ (b:Á (Addr × Obj)) (s:Ò) (e:St) (H:Hp) (Q:Á (V × V)->Hp->Prop),Inv X b e H s->yp d e H Q->
  Ú (à X.prog X.w) X.A (evalPairs (pairTrees c a X.env pos)) (λ g s'=>∃ f B,Inv X b e B s'/\VV f g/\Q f B) X.xe s
def Lg:L9 X pos [] [] []:=λ a s b H Q I h=>pairTrees_nil_walk ⟨[],H,I,.nil,h⟩
def Hx (f:PE X k r)(g:PE X v t)(hr:L9 X pos ks vs d) :
  L9 X pos (À k :: ks) (v :: vs) ((r,t) :: d):=λ a s e H Q I h=>
 pairTrees_cons_walk (Ź (f a s e H _ I h) λ u p b=>iF b λ x A D n j=>Ź (g a p e A _ D j) λ z q b=>iF b λ y B E o l=>
  Ź (hr a q e B _ E l) λ G w b=>iF b λ i C F c m=>⟨(x,y) :: i,C,F,.cons ⟨n,o⟩ c,m⟩)
def fY (kvs more:Á (Key × V)):Á (Key × V):=more.foldl (λ a b=>putK a b.1 b.2) kvs
def KV.merge:∀ {more:Á (Key × V)}{rs:Á (Key × Value)}{kvs:Á (Key × V)}{vs:Á (Key × Value)},KV more rs->KV kvs vs->KV (fY kvs more) (merged vs rs):=by
 intro more rs kvs vs r;unfold KV at r;induction r generalizing kvs vs with
 | nil=>intro q;exact q
 | @cons p q b c h t a=>
  intro r0;have e:KV (putK kvs p.1 p.2) (stored vs q.1 q.2):=by
   have:=r0.put p.1 h.2;rw[<-h.1];exact this
  exact a e
theorem nM:∀ (more kvs:Á (Key × V)),(fY kvs more).length<=kvs.length+more.length
 | [],kvs=>by show kvs.length<=kvs.length+0;lia
 | p :: r,kvs=>by
  have a:=nM r (putK kvs p.1 p.2);have b:=mu kvs p.1 p.2;show(fY (putK kvs p.1 p.2) r).length<=_;rw[ē];lia
theorem tr:∀ {kvs:Á (Key × V)}{ws:Á (Value × Value)},VV (kvs.map λ d=>(kV d.1,d.2)) ws->∃ rs,Carries (ů P w) ws rs/\KV kvs rs
 | [],_,r=>by rw[aj]at r;cases r;exact⟨[],a7,.nil⟩
 | p :: kvs,_,r=>by
  rw[Õ]at r;cases r with
  | @cons a b f bs h t=>
   obtain⟨rs,c,q⟩:=tr (P:=P) (w:=w) t;obtain⟨g,e⟩:=b;exact⟨(p.1,e) :: rs,⟨rn h.1,rfl,c⟩,.cons ⟨rfl,h.2⟩ q⟩
def S7 (b:Á (TE × TE)):TE:=λ e H Q=>∀ p,H p=none->yp b e (upd H p (.dK [])) λ d A=>A p=À (.dK [])/\∃ a:Á (Key × V),d=a.map (λ c=>(kV c.1,c.2))/\a.length<=15/\Q (.ref p) (upd A p (.dK (fY [] a)))
def K2 (h:L9 X pos b d m)(g:b.all (·.isSome)=true) (hl:b.length=d.length)(h0:b≠[])
  (k:b.length<=15):PE X (.Dict b d pos) (S7 m):=by
 intro j s J H Q I q;have u:=I.ś.fresh (Ì s.heap.objs.size);have B:=I.laid (a:=s.heap.objs.size) (o:=.dK []) (h':=s.heap.push { cls:=.type "dict",data:=.dict #[] }) (t':=s.toks) (λ _ _ q=>Ã _ q) (Ì _) (zo s.heap I.big);refine wpAny_Dict_walk (knd:=ů X.prog X.w) g hl h0 k (Ź (h j _ J _ _ B (q _ u)) λ T O G=>?_);obtain⟨N,L,A,l,e,i,p,M,C⟩:=G;subst p;obtain⟨E,c,D⟩:=tr (P:=X.prog) (w:=X.w) l;obtain⟨z,hd,F,r0,n⟩:=FH A.ś e;cases r0;refine⟨E,c,n,λ h' f x=>⟨.ref s.heap.objs.size,_,?_,rfl,C⟩⟩;have y:(fY [] i).length<=sizeLine:=by
  have r:=nM i [];rw[aJ]at r;rw[ą];lia
 have t:∃ q,h'.get? s.heap.objs.size=À q:=let ⟨q,_,_,v,_⟩:=f;⟨q,v⟩;exact xt A (by rw[e];exact a7) x t (FG y hd (D.merge .nil) f)
structure M1 (X:Cx)(o:Expr)(m:Str)(jI:kK)(e:Expr)(iq:kK):Prop where
 base:aF o m X.env (Ē o X.env)=Ē o X.env
 Va:((Ĝ iq (Í [e] X.env)).all (λ x=>!x.1) && (fI iq (bj [] X.env)).all (λ x=>x.1.isSome)
  && decide (([e]:Á Expr).length+([]:Á h8).length+(if ([]:Á h8).isEmpty then 0 else 1) < 30))=true
 line:(jI.endLine == iq.line)=true
 trees:Ĝ iq (Í [e] X.env)=[(false,Ē e X.env)]
structure M2 (X:Cx)(o:Expr)(m:Str)(jI:kK)(e f:Expr)(iq:kK):Prop where
 base:aF o m X.env (Ē o X.env)=Ē o X.env
 Va:((Ĝ iq (Í [e,f] X.env)).all (λ x=>!x.1) && (fI iq (bj [] X.env)).all (λ x=>x.1.isSome)
  && decide (([e,f]:Á Expr).length+([]:Á h8).length+(if ([]:Á h8).isEmpty then 0 else 1) < 30))=true
 line:(jI.endLine == iq.line)=true
 trees:Ĝ iq (Í [e,f] X.env)=[(false,Ē e X.env),(false,Ē f X.env)]
def T4 (H:Hp)(a:Addr):Prop:=(∃ b,Rd H a (.dK b))∨∃ b,Rd H a (.dT b)
def tZ (I:Inv X j l H s)(d:T4 H a) :
  s.TypeIs (.ref a) "dict"/\(∀ b,Ñ a=.ref b->∃ c,s.heap.get? b=À c/\c.dict=none)/\(a == bC)=false:=by
 rcases d with⟨i,e⟩|⟨i,e⟩
 ·obtain⟨_,hd,k,_,f⟩:=rh I.ś e;refine⟨f.typeIs,λ b q=>?_,hd⟩;cases q;obtain⟨c,_,_,g,h,_⟩:=f;exact⟨c,g,h.2.1⟩
 ·obtain⟨_,hd,xs,_,f⟩:=ri I.ś e;refine⟨f.typeIs,λ b q=>?_,hd⟩;cases q;obtain⟨c,_,_,g,h,_⟩:=f;exact⟨c,g,h.2.1⟩
section
variable {X:Cx}{õ:Á (Addr × Obj)}{σ:St}{H:Hp}{s:Ò}{a:Addr}{y d:V}{u r:Value}{o:Ê V}{A:į}{E:Value->Ò->Prop}
def Nb (hu:A.units+1 < cLine)(I:Inv X õ σ H s)(g:iH H a y o)(m:RelV y u)(h:∀ n s',Inv X õ σ H s'->RelV (o.getD .Ę) n->Q n s') :
  Ú (à X.prog X.w) A (call (.builtin "dict.get") [.ref a,u]) Q E s:=by
 rcases g with⟨j,k,e,i,l⟩|⟨j,k,b,e,i,p,l⟩
 ·subst i;obtain⟨z,hd,q,c,f⟩:=rh I.ś e;refine wW aY f.typeIs fw (yw _ _) (meets_dict_get (ů X.prog X.w) a (rn m) hd) ⟨_,f.mapOf,h _ _ (I.tok _) ?_⟩;rw[l];exact(c.val k).getD rfl
 ·subst i;cases (show u=Ñ b from m);obtain⟨z,hd,xs,c,f⟩:=ri I.ś e;refine wW aY f.typeIs fw (yw _ _) (meetsH_dict_get (lE (ů X.prog X.w)) a b hd) ⟨c_ hu,k,xs,oh I.ś p,f,h _ _ (I.tok _) ?_⟩;rw[l];exact(c.val k).getD rfl
def Nc (hu:A.units+1 < cLine)(I:Inv X õ σ H s)(g:iH H a y o)(n:RelV y u)(m:RelV d r)(h:∀ p s',Inv X õ σ H s'->RelV (o.getD d) p->Q p s') :
  Ú (à X.prog X.w) A (call (.builtin "dict.get") [.ref a,u,r]) Q E s:=by
 rcases g with⟨j,k,e,i,l⟩|⟨j,k,b,e,i,q,l⟩
 ·subst i;obtain⟨z,hd,t,c,f⟩:=rh I.ś e;refine wW aY f.typeIs fw (yx _ _ _) (meets_dict_get_default (ů X.prog X.w) a (rn n) hd r) ⟨_,f.mapOf,h _ _ (I.tok _) ?_⟩;rw[l];exact(c.val k).getD m
 ·subst i;cases (show u=Ñ b from n);obtain⟨z,hd,xs,c,f⟩:=ri I.ś e;refine wW aY f.typeIs fw (yx _ _ _) (meetsH_dict_get_default (lE (ů X.prog X.w)) a b hd r) ⟨c_ hu,k,xs,oh I.ś q,f,h _ _ (I.tok _) ?_⟩;rw[l];exact(c.val k).getD m
end
def Pt (c d:TE):TE:=λ b H Q=>c b H λ x A=>∃ a,x=.ref a/\T4 A a/\d b A λ y B=>∃ o,iH B a y o/\Q (o.getD .Ę) B
def Pu (c e d:TE):TE:=λ b H Q=>c b H λ x A=>∃ a,x=.ref a/\T4 A a/\e b A λ y C=>d b C λ z B=>∃ o,iH B a y o/\Q (o.getD z) B
section
variable {X:Cx}{o e f:Expr}{jI iq:kK}{td ty tx:TE}
def Hg (hu:X.A.units+1 < cLine)(l:PE X o td)(k:PE X e ty)(m:M1 X o "get" jI e iq):PE X (.Call (.Attribute o "get" jI) [e] [] iq) (Pt td ty):=by
 intro b s i H Q I h;refine TQ m.base m.Va m.line kM aY As (Ź (l b s i H _ I h) λ u t v=>?_);obtain⟨x,C,B,q,a,j,d,n⟩:=v;subst j;obtain rfl:u=Ñ a:=q;obtain⟨t1,t2,_⟩:=tZ B d;refine⟨t1,t2,?_⟩;rw[m.trees];refine fH rfl (nR (eK (Ź (k b t i C _ B n) λ w J ⟨y,D,E,r,z,g,p⟩=>kB ?_)));exact Nb hu E g r λ M L G c=>⟨_,D,G,c,p⟩
def Hh (hu:X.A.units+1 < cLine)(p:PE X o td)(l:PE X e ty)(n:PE X f tx)(m:M2 X o "get" jI e f iq):PE X (.Call (.Attribute o "get" jI) [e,f] [] iq) (Pu td ty tx):=by
 intro b s j H Q I h;refine TQ m.base m.Va m.line kM aY As (Ź (p b s j H _ I h) λ u N i=>?_);obtain⟨x,C,B,v,a,k,d,q⟩:=i;subst k;obtain rfl:u=Ñ a:=v;obtain⟨t1,t2,_⟩:=tZ B d;refine⟨t1,t2,?_⟩;rw[m.trees];refine fH rfl (nR (eK (Ź (l b N j C _ B q) λ T O i=>iF i λ y D G w r=>
  eK (Ź (n b O j D _ G r) λ P Y ⟨z,E,J,M,U,g,t⟩=>kB ?_))))
 exact Nc hu J g w M λ w' Z L c=>⟨_,E,L,c,t⟩
end
section
variable {X:Cx}{õ:Á (Addr × Obj)}{σ:St}{H:Hp}{s:Ò}{a:Addr}{kvs:Á (Key × V)}{A:į}{E:Value->Ò->Prop}
end
section
variable {X:Cx}{õ:Á (Addr × Obj)}{σ:St}{H:Hp}{s:Ò}{a:Addr}{y:V}{u:Value}{A:į}{E:Value->Ò->Prop}
end
end L2
namespace Xd
open PySem PySem.W PySem.Calls PyProof.Rows
def r_:∀ (ns:Á Int)(vs:Á Value),WellAll P h vs (ns.map W')->sD vs ns:=by
 intro ns;induction ns with
 | nil=>
  intro vs w;rw[aj]at w;cases w;exact .nil
 | cons n ns c=>
  intro vs w;rw[Õ]at w;cases w with
  | cons a b=>
   cases a;exact .cons _ _ (c _ b)
def Et {l:OpenLaw}{n:Nat}(t:l.most=À n){P:Params}{h:Heap}{args:Á WData}{c:Á Value}
  (b:l.row.toRowW.claim.pre args=true) (k:WellAll P h c args) :
  ∃ a vs ns,c=[Ñ a]/\args=[WData.list (ns.map W')]/\h.get? a=À { cls:=.type "list",data:=.seq vs.toArray }/\sD vs ns/\ns.length<=n:=by
 have j:WShape.hasAll [] args [.list .int]=true:=(pre_splitW b).1;have m:l.pre.holds [] { args:=args }=true:=(pre_splitW b).2;obtain⟨d,r,rfl,o,p⟩:=hasAllW_cons j;obtain rfl:=hasAllW_nil p;obtain⟨xs,rfl,s⟩:=hasW_list o;obtain⟨ns,rfl⟩:=items_int s;have f:ns.length<=n:=by
  unfold OpenLaw.pre at m;have g:(WTm.not (.lt (.lit (.int (n:Int))) (.len (.arg 0)))).holds [] { args:=[.list (ns.map .int)] }=true:=by
   have g:=(holds_andW m).1;rw[t]at g;exact g
  have i:=condW_of g (w_not (w_lt w_lit (w_len_list (w_arg rfl))));rw[Î]at i;refine Nat.le_of_not_lt λ q=>?_;have v:(n:Int) < ((ns.length:Nat):Int):=by lia
  first
   | (rw[ć v]at i;exact absurd i (by decide))
   | (simp at i;lia)
 cases k with
 | cons w x=>
  cases x;cases w with
  | list u e=>exact⟨_,_,ns,rfl,rfl,u,r_ ns _ e,f⟩
def El (l:OpenLaw)(args:Á WData):l.row.toRowW.claim.post args (.bool true) args=true:=
 postW_of (r:=l.row.toRowW) (X:=(true == true))
  (show TF [] (.bool true) .bool=true by first|rfl|decide|simp[TF,WShape.arms,WShape.armsAll])
  (show(WTm.eq .res (.lit (.bool true))).value [] { args:=args,res:=À (.bool true),after:=args }=À (.bool (true == true)) from w_eq_bool (w_res rfl) w_lit) rfl
def zc {l:OpenLaw}{n:Nat}{q:Ĉ}{c:Á Str}{A:(Str->Ê Value)->Heap->Prop}{B:Ĩ->Heap->Prop}{d:DefRec}
  (N:l.most=À n) (s:d.params.defaults=[])
  (call:∀ (w:Ĩ) (jm b:Ò) (mg v:Str->Ê Value) (h:Addr) (o:Obj) (x m e:Value) (a:Addr) (vs:Á Value) (ns:Á Int),
   Ground q c [] A w jm mg v b.heap->B w b.heap->
   b.heap.get? h=À o->o.data=.func (docDef d.name d.params d.body d.scope x m e)->b.heap.CodeRec m d.name->mg d.name=À (.ref h)->
   b.heap.get? a=À { cls:=.type "list",data:=.seq vs.toArray }->sD vs ns->ns.length<=n->b.gens=#[]->
   dW (à l.prog w) sG (.call (.ref h) ⟨[.ref a],[]⟩) (λ r s'=>r=.ok (.ret (.bool true))/\OldK b.heap s'.heap/\s'.os=b.os/\mH s'.gens) b) :
  WalkO q c A B l.row.toRowW d [] (λ f vs=>EZ f vs):=by
 intro w jm b mg v G Y h o x m e E kV O hd p z t J y D T k C Q u L;obtain rfl:E=.none:=Dflts.none z s;obtain rfl:kV=.none:=Dflts.noKw z;obtain⟨a,vs,ns,rfl,rfl,j,g,i⟩:=Et N k u;refine enter_call (oZ (call w jm b mg v h o x m e a vs ns G Y O (fd_plain hd) p t j g i J) λ r s' P=>?_);obtain⟨rfl,F,H,I⟩:=P;exact⟨.inl ⟨.bool true,.bool true,[],rfl,λ _=>rfl,.bool true,El l _,λ _=>⟨m9,λ _ M=>(nomatch M)⟩⟩,F,H,I⟩
section
variable {prog:Ĉ}{w:Ĩ}{A:į}{E:Value->Ò->Prop}{s:Ò}{K:Frag}
end
end Xd
namespace L2
open PySem PySem.Spec PyProof.Rows
theorem wI:∀ {vs:Á Value}{ns:Á Int},sD vs ns->Vals (ns.map V.int) vs
 | _,_,.nil=>.nil
 | _,_,.cons n t h=>.cons ⟨t,rfl⟩ (wI h)
def inClass (s:Stmt)(j:Nat):Stmt:=match s with
 | .ClassDef _ _ _ a _ _ _ _ _ _ _=>a.getD j (.Pass ⟨0,0,0,0⟩)
 | _=>.Pass ⟨0,0,0,0⟩
def bW (s:Stmt):Arguments:=match s with
 | .FunctionDef _ a _ _ _ _ _ _ _ _=>a
 | _=>{ posonlyargs:=[],args:=[],vararg:=none,kwonlyargs:=[],kw_defaults:=[],kwarg:=none,defaults:=[] }
def ao (s:Stmt):Á Stmt:=match s with
 | .FunctionDef _ _ b _ _ _ _ _ _ _=>b
 | _=>[]
def đ (s:Stmt):Scope:=match s with
 | .FunctionDef _ _ _ _ _ _ a _ _ _=>a
 | _=>{ kind:=.function,names:=[],isGenerator:=false,isCoroutine:=false }
abbrev E0:XK:=λ _ _ _=>False
structure E9 (K:É)(x qual:Str)(st:Stmt)(f:Addr)(fd:cz):Prop where
 ex:∃ (oc:Value) (od:Ê Addr) (kV doc pm:Value) (an:Ê Addr) (Xn ct:Value) (Zu:Ă (Ê Value)),
  fd=ń x qual (bW st) (ao st) (đ st) .none kV doc pm an Xn ct/\K.lookup f=À ⟨oc,od,.func fd,Zu⟩/\cW K Xn qual=true
 kp:ī K (.ref f)=true
section
variable {P:Ĉ}{w:Ĩ}{K:É}{mg:Str->Ê Value}{base:Heap}
def E9.binds {x a:Str}{st:Stmt}{f:Addr}{g:cz}{ps:Á Str}(F:E9 K x a st f g)
  (h:∀ (kV c e:Value) (d:Ê Addr) (b ct:Value) (us:Á Value),us.length=ps.length->jE (ń x a (bW st) (ao st) (đ st) .none kV c e d b ct) ⟨us,[]⟩=pure (ps.zip us)):Binds K g ps []:=by
 obtain⟨l,m,kV,c,e,d,b,ct,j,rfl,k,i⟩:=F.ex;exact .all (h kV c e d b ct)
def xB {x a:Str}{st:Stmt}{f:Addr}{i:Value}{od g:Ê Addr}{e:Ă (Ê Value)}{kV d h b ct:Value}(l:K.lookup f=À ⟨i,od,.func (ń x a (bW st) (ao st) (đ st) .none kV d h g b ct),e⟩)
  (c:cW K b a=true) (k:ī K (.ref f)=true):E9 K x a st f (ń x a (bW st) (ao st) (đ st) .none kV d h g b ct):=⟨⟨i,od,kV,d,h,g,b,ct,e,rfl,l,c⟩,k⟩
end
def Mh (hr:cb k A):A.units+1 < cLine:=bb (IK (by decide:1<=64) _) hr.units
def ŝ (h:n<=1000):n < sizeLine:=bb h (by decide)
section
variable {X:Cx}
def pv (i:Nat)(b:X.N[i]? = À x:=by rfl)(c:U2 X.env.scope x:=by first|exact EM rfl|exact L3 (EM rfl)|exact L3 (L3 rfl)) (hd:(x == ("__debug__":Str))=false:=by decide)
  (a:(x == ("__classdict__":Str))=false:=by decide):PE X (.Name x pos) (PB i):=OS b c hd a
end
section
variable {κ:Type} [mI κ]
end
end L2
set_option maxHeartbeats 4000000
namespace L2
open PySem PySem.Spec PyProof.Rows
def jr (X:Cx)(scope:Scope):Á (Str × Ê Nat)->Prop
 | []=>True
 | (_,none) :: r=>jr X scope r
 | (x,À j) :: r=>(X.N[j]? = À x/\scope.names.lookup x=À .free/\(X.env.kindOf x=À .cell∨X.env.kindOf x=À .free))/\jr X scope r
def BE (l:Á (Str × Ê Nat)) (a:St):St:=l.map λ p=>p.2.bind λ j=>(a[j]?).join
theorem jr.get:∀ {l:Á (Str × Ê Nat)},jr X scope l->∀ {i:Nat}{x:Str}{j:Nat},l[i]? = À (x,À j)->
  X.N[j]? = À x/\scope.names.lookup x=À .free/\(X.env.kindOf x=À .cell∨X.env.kindOf x=À .free)
 | [],_,i,x,j,e=>by simp at e
 | (y,none) :: r,h,0,x,j,e=>by simp at e
 | (y,none) :: r,h,i+1,x,j,e=>jr.get (l:=r) h (i:=i) (by simpa using e)
 | (y,À k) :: r,h,0,x,j,e=>by
  simp at e;obtain⟨rfl,rfl⟩:=e;exact h.1
 | (y,À k) :: r,h,i+1,x,j,e=>jr.get (l:=r) h.2 (i:=i) (by simpa using e)
theorem n3 (env:yJ):∀ (names:Á (Str × h_)) (b:Á (Str × Addr)),(∀ x∈names,x.2=.free->∃ c,env.cells.lookup x.1=À c)->
  ∃ cl,(forIn names b (λ(x:Str × h_) (q:Á (Str × Addr))=>(if x.2 == .free then do let a <-cellOf env x.1;pure (a6 ((x.1,a) :: q)) else pure (a6 q):W7 (ForInStep (Á (Str × Addr))))))=pure cl/\
   (∀ y c,cl.lookup y=À c->env.cells.lookup y=À c∨b.lookup y=À c)/\(∀ x∈names,x.2=.free->∃ c,cl.lookup x.1=À c )/\(∀ y,(∃ c,b.lookup y=À c)->∃ c,cl.lookup y=À c)
 | [],b,h=>⟨b,rfl,λ _ _ e=>.inr e,λ _ hx=>(nomatch hx),λ _ e=>e⟩
 | (n,k) :: r,b,h=>by
  by_cases o:k=.free
  ·subst o;obtain⟨c,s⟩:=h (n,.free) Ļ rfl;obtain⟨cl,i,j,l,f⟩:=n3 env r ((n,c) :: b) λ x hx=>h x (þ _ hx);have v:cellOf env n=pure c:=by
    unfold cellOf;have m:env.cells.lookup n=À c:=s;rw[m]
   have p:∃ t,cl.lookup n=À t:=f n ⟨c,by simp[Ğ]⟩;refine⟨cl,?_,λ y d e=>?_,λ x hx g=>?_,λ y ⟨d,e⟩=>?_⟩
   ·rw[je];simp only[yV,eO,v,pure_bind];exact i
   ·rcases j y d e with z|z
    ·exact .inl z
    ·rw[Ğ]at z;split at z
     ·rename_i w;have:y=n:=by simpa using w
      subst this;cases z;exact .inl s
     ·exact .inr z
   ·rcases Þ.mp hx with rfl|hx
    ·exact p
    ·exact l x hx g
   ·refine f y ?_;rw[Ğ];split
    ·exact⟨_,rfl⟩
    ·exact⟨d,e⟩
  ·obtain⟨cl,i,j,l,f⟩:=n3 env r b λ x hx=>h x (þ _ hx);have u:(k == ŉ)=false:=by simpa using o
   refine⟨cl,?_,j,λ x hx g=>?_,f⟩
   ·rw[je];simp only[u,Ŧ,eG,pure_bind];exact i
   ·rcases Þ.mp hx with rfl|hx
    ·exact absurd g o
    ·exact l x hx g
def nH (h:∀ x∈scope.names,x.2=.free->∃ c,env.cells.lookup x.1=À c) :
  ∃ cl,oY scope env=pure cl/\(∀ y c,cl.lookup y=À c->env.cells.lookup y=À c)/\∀ x∈scope.names,x.2=.free->∃ c,cl.lookup x.1=À c:=by
 obtain⟨cl,b,d,f,_⟩:=n3 env scope.names [] h;refine⟨cl,?_,λ y c e=>(d y c e).elim id λ z=>by simp at z,f⟩;unfold oY;have a:=b;simp only[bind_pure_comp]at a ⊢;first
  | (rw[a];rfl)
  | (simp only[a];rfl)
  | (simpa using a)
theorem hW {env:yJ}:∀ {names:Á (Str × h_)}{x:Str},names.lookup x=À .free->
    ((names.map λ(n,k)=>if (k == ŉ && env.scope.kind == .function && env.kindOf n == À .cell) then (n,bw) else (n,k)).lookup x=À .cell∨
     (names.map λ(n,k)=>if (k == ŉ && env.scope.kind == .function && env.kindOf n == À .cell) then (n,bw) else (n,k)).lookup x=À .free)
  | [],_,h=>by simp at h
  | (n,k) :: r,x,h=>by
    have c:=@hW env r x;show dG x ((if (k == ŉ && env.scope.kind == .function && env.kindOf n == À .cell)=true then (n,bw) else (n,k)) :: _)=_∨dG x ((if (k == ŉ && env.scope.kind == .function && env.kindOf n == À .cell)=true then (n,bw) else (n,k)) :: _)=_;cases a:x == n with
    | true=>
      simp only[Ğ,a]at h;cases h;by_cases b:(ŉ == ŉ && env.scope.kind == .function && env.kindOf n == À .cell)=true
      · rw[Ï b];left;simp[Ğ,a]
      · rw[Ô b];right;simp[Ğ,a]
    | false=>
      simp only[Ğ,a]at h;by_cases b:(k == ŉ && env.scope.kind == .function && env.kindOf n == À .cell)=true
      · rw[Ï b];simp only[Ğ,a];exact c h
      · rw[Ô b];simp only[Ğ,a];exact c h
theorem pI {env:yJ}{x:Str}:∀ {names:Á (Str × h_)},
    ((names.map λ(n,k)=>if (k == ŉ && env.scope.kind == .function && env.kindOf n == À .cell) then (n,bw) else (n,k)).lookup x=À .cell∨
     (names.map λ(n,k)=>if (k == ŉ && env.scope.kind == .function && env.kindOf n == À .cell) then (n,bw) else (n,k)).lookup x=À .free)->(x,ŉ)∈names∨names.lookup x=À .cell
  | [],h=>by simp at h
  | (n,k) :: r,h=>by
    have e:=@pI env x r;simp only[Õ]at h;by_cases c:(k == ŉ && env.scope.kind == .function && env.kindOf n == À .cell)=true
    · rw[Ï c]at h
      have d:k=.free:=by
        have:=(EG.mp (EG.mp c).1).1;simpa using this
      by_cases b:x=n
      · rw[b,d];exact .inl Ļ
      · have a:(x == n)=false:=by simpa using b
        simp only[Ğ,a]at h ⊢;exact(e h).imp (þ _) id
    · rw[Ô c]at h
      by_cases b:x=n
      · have a:(x == n)=true:=by simpa using b
        simp only[Ğ,a]at h ⊢;rcases h with h|h
        · exact .inr h
        · rw[b,æ h];exact .inl Ļ
      · have a:(x == n)=false:=by simpa using b
        simp only[Ğ,a]at h ⊢;exact(e h).imp (þ _) id
theorem jL:∀ (names:Á (Str × h_)) (n:Nat)(a more:Á (Str × Addr)),bq n names (a++more)=bq n names a++more
 | [],_,_,_=>rfl
 | (x,k) :: r,n,a,more=>by
  unfold bq;split
  ·exact jL r (n+1) ((x,n) :: a) more
  ·exact jL r n a more
theorem jM:∀ (names:Á (Str × h_)) (n:Nat)(a:Á (Str × Addr)) (x:Str)(c:Addr),(x,c)∈bq n names a->(x,bw)∈names∨(x,c)∈a
 | [],_,_,_,_,h=>.inr h
 | (y,k) :: r,n,a,x,c,h=>by
  unfold bq at h;split at h
  ·rename_i b;have b:k=.cell:=by simpa using b
   rcases jM r _ _ x c h with z|z
   ·exact .inl (þ _ z)
   ·rcases Þ.mp z with z|z
    ·cases z;rw[b];exact .inl Ļ
    ·exact .inr z
  ·exact(jM r _ _ x c h).imp (þ _) id
def nB 
  (h:Q (Ye scope s.heap.objs.size b (bq (s.heap.objs.size+1) scope.names a) d none .none (À outer) 0) { s with heap:=IX (s.heap.push { cls:=.type "dict",data:=.dict #[] }) scope.names }) :
  Ú M A (rS scope b a [] d none .none (À outer)) Q E s:=by
 simp only[rS,EL,eO];refine Â (wpAny_alloc ?_);refine Â (wpAny_layCells _ (λ g c e=>by cases f:c == bw<;>simp[f]) _ _ _ _ ?_);rw[show({ s with heap:=s.heap.push { cls:=.type "dict",data:=.dict #[] } }:Ò).heap.objs.size=s.heap.objs.size+1 from ĸ ..];exact Â (Ë (Ë h))
def ź (X:Cx)(l:Á (Str × Ê Nat)) (scope:Scope)(cl:Á (Str × Addr)) (C:Addr)(a:Á Addr)(b:Ò)(A:Hp):Cx:=
 { X with N:=l.map (·.1),jm:=b,vt:=A,env:=MQ scope cl C X.env,outer:=X.stack,ex:=a,fn:=λ x=>scope.names.lookup x == À .cell,pn:=[],xe:=λ _ _=>False }
def I_ (X:Cx)(b:Á Expr)(t:TT):Prop:=
 ∀ (a:Á (Addr × Obj)) (s:Ò) (d:St) (H:Hp) (Q:Bool->Hp->Prop),Inv X a d H s->t d H Q->
  Ú (à X.prog X.w) X.A (forIn b true λ c r=>if r=true then do let e <-Dl c X.env (Ē c X.env);pure (a6 e) else pure (a6 r)) (TP X a d Q) X.xe s
def Wm:TT:=λ _ H Q=>Q true H
def La:I_ X [] Wm:=λ _ _ _ H _ I h=>wpAny_tests_nil ⟨H,I,h⟩
def Lb (h:PT X c t):I_ X [c] t:=λ a s b H Q I hw=>wpAny_tests_one (h a s b H Q I hw)
def Fb (e i:Expr)(g:Á Expr)(p:kK)(d:Nat)(body:Value->yJ->W7 Unit):Prop:=
 ∀ f b a,compTurn e d f b a=(jn p >>= λ _=>fy f >>= λ r=>match r with
  | none=>pure (.done .next)
  | some v=>kd i f v >>= λ _=>j' i a v >>= λ _=>(forIn g true λ c r=>if r=true then do let h <-Dl c a (Ē c a);pure (a6 h) else pure (a6 r)) >>= λ h=>
   if h=true then body b a >>= λ _=>again (.compLoop e d f b a) else again (.compLoop e d f b a))
def MW (e:Expr):Prop:=(∃ a b c d,e=.ListComp a b c d)∨∃ a b c d,e=.SetComp a b c d
def xr (H:MW e)(N:Fb e J G p d body)(I:Nat->Ò->Prop)
  (D:∀ n s,I n s->Ú (à prog w) A (fy z) (λ r a=>match r with
   | none=>R (.ok .next) a
   | some v=>Ú (à prog w) A (kd J z v) (λ _ o=>Ú (à prog w) A (j' J env v) (λ _ k=>
     Ú (à prog w) A (forIn G true λ c r=>if r=true then do let C <-Dl c env (Ē c env);pure (a6 C) else pure (a6 r)) (λ C b=>
      if C=true then Ú (à prog w) A (body g env) (λ _ l=>∃ m,m < n/\I m l) (λ _ _=>False) b
      else ∃ m,m < n/\I m b) (λ _ _=>False) k) (λ _ _=>False) o) (λ _ _=>False) a) (λ _ _=>False) s)
  (n:Nat) (h:I n s) :
  dW (à prog w) A (.compLoop e d z g env) R s:=by
 have B:∀ {L:Type}{t:W7 L}{Q:L->Ò->Prop}{E:Value->Ò->Prop}{s:Ò},Ú (à prog w) A t Q (λ _ _=>False) s->Ú (à prog w) A t Q E s:=λ h=>ae h (λ _ _ q=>q) λ _ _ f=>f.elim;refine codeAny_loop rfl I (λ n s M=>?_) n h;have hd:(à prog w).den (.compLoop e d z g env)=(compTurn e d z g env).onRaise (λ x=>do IW x env;theTreesLotGoes x):=by rcases H with⟨_,_,_,_,rfl⟩|⟨_,_,_,_,rfl⟩<;>rfl
 have hu:A.under (.compLoop e d z g env)=A:=by rcases H with⟨_,_,_,_,rfl⟩|⟨_,_,_,_,rfl⟩<;>rfl
 rw[hd,hu];refine wpAny_noted ?_;rw[N];refine Â (dM (Â (Ź (B (D n s M)) (λ r a i=>?_))));cases r with
 | none=>exact Ë i
 | some v=>
  refine Â (Ź (B i) λ _ O F=>?_);refine Â (Ź (B F) (λ _ k u=>Â (Ź (B u) (λ C b j=>?_))));cases C with
  | false=>exact Ë ⟨rfl,j⟩
  | true=>exact Â (Ź (B j) (λ _ l y=>Ë ⟨rfl,y⟩))
def vz (g:MW e)(l:(clausesOf e)[d]? = À f) (k:f.is_async=0)
  (h0:dW (à prog w) A (.compLoop e d b a env) R s)
  (h:Ú (à prog w) A (Ju b) (λ c s'=>dW (à prog w) A (.compLoop e d c a env) R s') (λ _ _=>False) s) :
  dW (à prog w) A (.compStart e d b a env) R s:=by
 refine codeAny_of_tree ?_;have hd:(à prog w).den (.compStart e d b a env)=(compStart e d b a env).onRaise (λ x=>do IW x env;jn theWindowsPlace):=by rcases g with⟨_,_,_,_,rfl⟩|⟨_,_,_,_,rfl⟩<;>rfl
 have hu:A.under (.compStart e d b a env)=A:=by rcases g with⟨_,_,_,_,rfl⟩|⟨_,_,_,_,rfl⟩<;>rfl
 rw[hd,hu];refine wpAny_notedAt ?_;unfold compStart;rw[l];have i:(À f).elim false (λ x=>x.is_async != 0)=false:=by show(f.is_async != 0)=false;rw[k];rfl
 rw[i];show Ú _ _ (ask >>= _) _ _ s;refine Â (wpAny_askSetting (wpAny_ite ?_));split
 ·first
   | exact Â (Ë (Ë (MM rfl h0)))
   | exact Ë (MM rfl h0)
 ·exact Â (bD (Â (dM (Â (ae h (λ c s' j=>Ë (MM rfl j)) λ _ _ x=>x.elim)))))
def L7 (l:Á (Str × Ê Nat)) (g:TG)(h:TT)(f:TE)(J:It)(j:St)(B:Hp)(Q:Addr->Hp->Prop):Prop:=
 ∀ D,B D=none->∃ W:Nat->Nat->Á V->St->Hp->Prop,(∃ m,W 0 m [] (BE l j) (upd B D (.lst [])))/\∀ i m c e A,W i m c e A->
  (J.stop i A/\Q D A)∨(J.go i A/\∀ x C,J.Jh i A x C->g x e C λ a G=>h a G λ b E=>
   if b=true then f a E λ v F=>F D=À (.lst c)/\c.length < sizeLine/\∃ d,d < m/\W (i+1) d (c++[v]) a (upd F D (.lst (c++[v]))) else ∃ d,d < m/\W (i+1) d c a E)
def Pr (l:Á (Str × Ê Nat)) (d:TI)(g:TG)(c:TT)(b:TE)(a:St)(H:Hp)(Q:Addr->Hp->Prop):Prop:=
 d a H λ J A=>L7 l g c b J a A Q
def Fw {α:Type}{X:Cx}{ifs:Á Expr}{scope:Scope}{cl:Á (Str × Addr)}{l:Á (Str × Ê Nat)}{g:TG}{tt:TT}{body:Value->yJ->W7 Unit}{gc:Comprehension} 
  (hn:MW e) (RF:Fb e tg ifs p 0 body) (YT:(clausesOf e)[0]? = À gc) (has:gc.is_async=0)
  (M:∀ y c,cl.lookup y=À c->X.env.cells.lookup y=À c) (RC:∀ x∈scope.names,x.2=.free->∃ c,cl.lookup x.1=À c)
  (RD:scope.kind=.function) (RB:∀ y∈scope.names,y.2=.cell->scope.names.lookup y.1=À .cell) (Mg:X.calm=true) (Vm:jr X scope l)
  (hg:∀ cl C F f I,PG (ź X l scope cl C F f I) tg g) (ht:∀ cl C F f I,I_ (ź X l scope cl C F f I) ifs tt)
  {N:Á (Addr × Obj)}{Z:St}{f:Ò}{F:Á Addr}{tn:Nat->Heap->Prop}{J:It}{Q:Hp->Prop}{RR:Addr->Qi->Ò->Prop}{E:Value->Ò->Prop}
  {W:Nat->Nat->α->St->Hp->Prop}{B:Nat->Nat->α->St->Hp->Prop}{y0:α}
  (t:∀ cl C F f I N s i m ys Z H,Inv (ź X l scope cl C F f I) N Z H s->B i m ys Z H->
   Ú (à X.prog X.w) X.A (body (.ref D) (MQ scope cl C X.env)) (λ _ s'=>∃ m' Us P H',m' < m/\Inv (ź X l scope cl C F f I) N P H' s'/\W (i+1) m' Us P H') (λ _ _=>False) s)
  (L:Inv X N Z I f) (T:Turn X.prog X.w X.K tg J F it tn) (S3:tn 0 f.heap) (G:∀ b∈F,rY X N I b)
  (w0:W 0 m0 y0 (BE l Z) I)
  (turn:∀ i m ys Uv H2,W i m ys Uv H2->(J.stop i H2/\Q H2)∨(J.go i H2/\∀ x I,J.Jh i H2 x I->g x Uv I λ Uw H4=>tt Uw H4 λ b H5=>if b=true then B i m ys Uw H5 else ∃ m',m' < m/\W (i+1) m' ys Uw H5))
  (Vf:∀ C (s':Ò) (H':Hp),Q H'->(∃ m,s'.heap.Ns C m)->Inv X N Z H' s'->rY X N H' C->RR C (.ok .next) s') :
  Ú (à X.prog X.w) X.A (rS scope X.env.globals cl [] X.env.qual none .none (À X.env)) (λ QF s₄=>
   dW (à X.prog X.w) X.A (.compStart e 0 (.ref it) (.ref D) { QF with scope:=relabel scope X.env }) (RR QF.locals) s₄) E f:=by
 refine nB ?_;have eC:(Ye scope f.heap.objs.size X.env.globals (bq (f.heap.objs.size+1) scope.names cl) X.env.qual none ì (À X.env) 0).locals=f.heap.objs.size:=rfl;have U7:=cellsFrom_ok scope.names (f.heap.push { cls:=.type "dict",data:=.dict #[] }) (f.heap.objs.size+1) [] ⟨λ _ _ hm=>(nomatch hm),m9⟩ (by rw[ĸ];exact Ì _);rw[ĸ]at U7;have Yw:bq (f.heap.objs.size+1) scope.names cl=bq (f.heap.objs.size+1) scope.names []++cl:=jL scope.names _ [] cl;have Y3:(IX (f.heap.push { cls:=.type "dict",data:=.dict #[] }) scope.names).Ns f.heap.objs.size (λ _=>none):=(Heap.Ns.new f.heap (.type "dict")).keeps (Xc _ _);have old:∀ b o,f.heap.get? b=À o->(IX (f.heap.push { cls:=.type "dict",data:=.dict #[] }) scope.names).get? b=À o:=λ b o e=>Xc _ _ b o (Ã _ e);rw[Yw]at *
 have ownN:∀ x c,(bq (f.heap.objs.size+1) scope.names []).lookup x=À c->scope.names.lookup x=À .cell:=λ x c e=>by
  rcases jM _ _ _ _ _ (mem_of_lookup e) with z|z
  ·exact RB _ z rfl
  ·exact nomatch z
 have ownS:∀ x,scope.names.lookup x=À .cell->∃ c,(bq (f.heap.objs.size+1) scope.names []).lookup x=À c:=λ x e=>bF.mp (lK scope.names _ [] (.inl e));generalize Y7:bq (f.heap.objs.size+1) scope.names []=a at *
 generalize hh4:IX (f.heap.push { cls:=.type "dict",data:=.dict #[] }) scope.names=h4 at *
 generalize hC:f.heap.objs.size=C at *
 have eE:({ Ye scope C X.env.globals (a++cl) X.env.qual none ì (À X.env) 0 with scope:=relabel scope X.env }:yJ)=MQ scope (a++cl) C X.env:=rfl;have cs_of:∀ x c,(a++cl).lookup x=À c->(a.lookup x=À c/\h4.IsCell c none/\C+1<=c)∨(a.lookup x=none/\cl.lookup x=À c):=λ x c e=>by
  rw[qZ]at e;cases q:a.lookup x with
  | none=>rw[q]at e;exact .inr ⟨rfl,e⟩
  | some d=>rw[q]at e;cases e;exact .inl ⟨rfl,U7.empty x c (mem_of_lookup q)⟩
 have of_cl:∀ x c,scope.names.lookup x≠À .cell->cl.lookup x=À c->(a++cl).lookup x=À c:=λ x c n e=>by
  rw[qZ];cases q:a.lookup x with
  | none=>exact e
  | some d=>exact(n (ownN x d q)).elim
 have cltC:∀ y c,cl.lookup y=À c->c < C:=λ y c e=>by
  obtain⟨v,q⟩:=L.cell y c (M y c e);have:=q.lt;rw[hC]at this;exact this
 have fpC:∀ b∈F,b≠C:=λ b t z=>by
  obtain⟨o,ho,_⟩:=T.obj _ _ S3 b t;exact absurd (Ó ho) (by rw[z,hC];exact ŏ _)
 have cellC:∀ y c,(a++cl).lookup y=À c->c≠C:=λ y c e z=>by
  rcases cs_of y c e with⟨_,_,q⟩|⟨_,q⟩
  ·rw[z]at q;exact absurd q (Nat.not_succ_le_self _)
  ·exact absurd (cltC y c q) (by rw[z];exact ŏ _)
 have fpB:∀ b∈F,b < C:=λ b t=>by
  obtain⟨o,ho,_⟩:=T.obj _ _ S3 b t;rw[<-hC];exact Ó ho
 have fpCs:∀ b∈F,∀ x c,(a++cl).lookup x=À c->c≠b:=λ b t x c e z=>by
  rcases cs_of x c e with⟨_,_,q⟩|⟨_,q⟩
  ·rw[z]at q;exact absurd (é (fpB b t) (sX q)) (ŏ _)
  ·exact(G b t).2.2.2.2.1 x c (M x c q) z
 have H3C:I C=none:=by
  have:=L.fresh;rw[hC]at this;exact this
 have OK:(ź X l scope (a++cl) C F f I).Ok:={
  mod:=L.ok.mod
  kind:=RD
  glob:=L.ok.glob
  blt:=L.ok.blt
  above:=jD hC
  inj:=λ x y c e1 e2=>by
   rcases cs_of x c e1 with⟨p1,_,p3⟩|⟨_,p1⟩<;>rcases cs_of y c e2 with⟨q1,_,q3⟩|⟨_,q1⟩
   ·exact name_of_addr U7.apart (mem_of_lookup p1) (mem_of_lookup q1)
   ·exact absurd (cltC y c q1) (nj.mpr (sX p3))
   ·exact absurd (cltC x c p1) (nj.mpr (sX q3))
   ·exact L.ok.inj x y c (M x c p1) (M y c q1)
  has:=λ x hx=>by
   show ∃ c,(a++cl).lookup x=À c
   rw[qZ]
   cases q:a.lookup x with
   | some d=>exact⟨d,rfl⟩
   | none=>
    rcases pI hx with z|z
    ·obtain⟨c,e⟩:=RC (x,.free) z rfl
     exact⟨c,e⟩
    ·obtain⟨c,e⟩:=ownS x z
     rw[q]at e;cases e
  L_:=λ x c hf e=>by
   have hf:(scope.names.lookup x == À bw)=true:=hf
   have hf:scope.names.lookup x=À .cell:=by simpa using hf
   obtain⟨d,ed⟩:=ownS x hf
   rcases cs_of x c e with⟨_,_,q⟩|⟨q,_⟩
   ·show f.heap.objs.size<=c
    rw[hC];lia
   ·rw[q]at ed;cases ed
  hd:=L.ok.hd
  frames:=L.ok.frames
  Pp:=.inl rfl
  Rr:=λ b t=>⟨fpC b t,fpCs b t⟩
  bs:=λ b o e=>L.bs b o e
  Du:=Đ L.ok.Du L.sz
  zR:=λ b o e t=>by
   rcases(G b t).2.2.2.1 with z|z
   ·exact L.ok.zR b o e z
   ·exact absurd (é (Ó e) (Đ L.ok.Du z)) (ŏ _)
  zv:=λ b t hz=>by
   rcases Þ.mp (L.BF b hz) with z|z
   ·exact(G b t).2.1 z
   ·exact(G b t).2.2.1 z
  n8:=L.stack
  Jc:=L.sR }
 have fpX:∀ {H':Hp},(∀ b∈F,H' b=none)->∀ b∈F,rY (ź X l scope (a++cl) C F f I) [] H' b:=λ hn b t=>
  ⟨hn b t,fpC b t,OK.zv b t,.inl t,fpCs b t,λ p hp=>nomatch hp⟩
 have I4:Inv (ź X l scope (a++cl) C F f I) [] (BE l Z) I { f with heap:=h4 }:={
  ok:=OK
  os:=rfl
  bare:=L.bare
  base:=Un.kept old
  loc:=by
   refine⟨_,Y3,λ i x v e1 e2 e3=>?_⟩
   have Rn:(l.map (·.1))[i]? = À x:=e1
   have T_:(l.map λ p=>p.2.bind λ j=>(Z[j]?).join)[i]? = À (À v):=e2
   rw[è]at Rn T_
   cases el:l[i]? with
   | none=>rw[el]at Rn;cases Rn
   | some p=>
    rw[el]at Rn T_
    obtain⟨y,o⟩:=p
    have U_:y=x:=æ Rn
    subst U_
    cases o with
    | none=>cases T_
    | some j=>
     have Y:(Z[j]?).join=À v:=æ T_
     have ej:Z[j]? = À (À v):=by
      cases q:Z[j]? with
      | none=>rw[q]at Y;cases Y
      | some z=>rw[q]at Y;exact Ķ À Y
     obtain⟨k1,k2,k3⟩:=Vm.get el
     obtain⟨m,hn,hl⟩:=L.loc
     obtain⟨u,r,lk⟩:=hl j y v k1 ej (k3.elim (λ z=>.inr (.inl z)) λ z=>.inr (.inr z))
     refine⟨u,r,.inr ⟨hW k2,?_⟩⟩
     rcases lk with⟨z,_⟩|⟨_,c,ec,Nt⟩
     ·rcases k3 with k3|k3<;>(rw[z]at k3;cases k3)
     ·have hm:(y,ŉ)∈scope.names:=by
       have:∀ {O:Á (Str × h_)},O.lookup y=À ŉ->(y,ŉ)∈O:=by
        intro O
        induction O with
        | nil=>intro h;simp at h
        | cons q r ih=>
         intro h
         obtain⟨n,k⟩:=q
         rw[Ğ]at h
         split at h
         ·rename_i hy
          have:y=n:=by simpa using hy
          subst this
          cases h
          exact Ļ
         ·exact þ _ (ih h)
       exact this k2
      obtain⟨c',Xo⟩:=RC _ hm rfl
      have:c'=c:=by
       have:=M _ _ Xo
       rw[ec]at this
       exact(æ this).symm
      subst this
      obtain⟨o,ho,hd⟩:=Nt
      exact⟨c',of_cl _ _ (by rw[k2];intro z;cases z) Xo,o,old _ _ ho,hd⟩
  cell:=λ x c e=>by
   rcases cs_of x c e with⟨_,q,_⟩|⟨_,q⟩
   ·exact⟨none,q⟩
   ·obtain⟨v,o,ho,hd⟩:=L.cell x c (M x c q)
    exact⟨v,o,old _ _ ho,hd⟩
  free:=H3C
  iS:=λ x c e=>by
   rcases cs_of x c e with⟨_,_,q⟩|⟨_,q⟩
   ·exact L.ś.fresh (by rw[hC];lia)
   ·exact L.iS x c (M x c q)
  pin:=λ p hp=>nomatch hp
  ś:=L.ś.kept old
  len:=by show(ZP _ l).length=(ZP _ l).length;rw[Î,Î] }
 have V3:tn 0 h4:=T.keep _ _ _ S3 λ b _ o e=>old b o e;have loop:∀ s4:Ò,s4={ f with heap:=h4 }->
   dW (à X.prog X.w) X.A (.compLoop e 0 (.ref it) (.ref D) (MQ scope (a++cl) C X.env)) (RR C) s4:=by
  rintro s4 rfl;refine xr hn RF (λ n s'=>∃ i ys P H',Inv (ź X l scope (a++cl) C F f I) [] P H' s'/\tn i s'.heap/\(∀ b∈F,H' b=none)/\W i n ys P H') ?_ m0
   ⟨0,y0,BE l Z,I,I4,V3,λ b t=>(G b t).1,w0⟩
  rintro n s5 ⟨i,ys,Ux,H5,I5,X2,Xq,w5⟩;rcases turn i n ys Ux H5 w5 with⟨stop,q⟩|⟨go,step⟩
  ·refine Ź (T.done (ź X l scope (a++cl) C F f I) rfl rfl rfl Mg i [] s5 Ux H5 _ I5 (fpX Xq) X2 stop) λ r s6 zz=>?_;obtain⟨hr,I6⟩:=zz;subst hr;obtain⟨m6,Y2,_⟩:=I6.loc;have u:Un (yG X.stack) F I H5 f.heap s6.heap:=I6.base;refine Vf C s6 H5 q ⟨m6,Y2⟩ (L.QD (s':=s6) (ch:=F) I6.os u I6.ś I6.bare λ b t=>⟨(G b t).2.2.2.1,(G b t).2.1,(G b t).2.2.2.2.1,(G b t).2.2.2.2.2⟩) ?_;have hle:f.heap.objs.size<=C:=jD hC;have f0:=L.zx (H':=H5) hle I6.free;exact f0
  ·refine Ź (T.item (ź X l scope (a++cl) C F f I) rfl rfl rfl Mg i [] s5 Ux H5 _ I5 (fpX Xq) X2 go) λ r s6 zz=>?_;obtain⟨u,hr,h6⟩:=zz;subst hr;refine Ź h6 λ _ s7 zz=>?_;obtain⟨x,H7,I7,r7,y7,V4,Yz⟩:=zz;have I7':=I7.pinned (fpX Yz) (T.obj _ _ V4);have back:∀ {U:St}{H8:Hp}{s8:Ò},Inv (ź X l scope (a++cl) C F f I) ([]++ux F s7.heap) U H8 s8->Inv (ź X l scope (a++cl) C F f I) [] U H8 s8/\tn (i+1) s8.heap/\∀ b∈F,H8 b=none:=λ {U H8 s8} I8=>by
    refine⟨I8.pL,T.keep _ _ _ V4 λ b t o e=>(I8.pin (b,o) (ĭ _ (ĭ _ (lx t e)))).1,λ b t=>?_⟩;obtain⟨o,e,d⟩:=T.obj _ _ V4 b t;exact(I8.pin (b,o) (ĭ _ (ĭ _ (lx t e)))).2.1
   refine Ź (hg (a++cl) C F f I _ s7 Ux H7 x u _ I7' r7 (step x H7 y7)) λ _ s8 zz=>?_;obtain⟨U,H8,I8,q8⟩:=zz;refine Ź (ht (a++cl) C F f I _ s8 U H8 _ I8 q8) λ ok s9 zz=>?_;obtain⟨H9,I9,q9⟩:=zz;cases ok with
   | false=>
    rw[Ô (by decide)]at q9 ⊢;obtain⟨m',hm,w9⟩:=q9;obtain⟨z1,z2,z3⟩:=back I9;exact⟨m',hm,i+1,ys,U,H9,z1,z2,z3,w9⟩
   | true=>
    rw[Ï rfl]at q9 ⊢;refine Ź (t (a++cl) C F f I _ s9 i n ys U H9 I9 q9) λ _ XZ zz=>?_;obtain⟨m',Us,P,H',hm,I11,Wq⟩:=zz;obtain⟨z1,z2,z3⟩:=back I11;exact⟨m',hm,i+1,Us,P,_,z1,z2,z3,Wq⟩
 exact vz hn YT has (loop _ rfl) (T.self _ 0 _ _ _ V3 (loop _ rfl))
def Jz {Y:Cx}{o:TE}(p:PE Y f o)(c:Y.xe=λ _ _=>False){ys:Á V}{a:Á (Addr × Obj)}{d:St}{N:V->Hp->Prop}(I:Inv Y a d H s)
  (h:o d H λ v F=>F D=À (.lst ys)/\ys.length < sizeLine/\N v (upd F D (.lst (ys++[v])))) :
  Ú (à Y.prog Y.w) Y.A (Ē f Y.env >>= λ x=>call (.builtin "list.append") [.ref D,x] >>= λ _=>pure UE) (λ _ s'=>∃ v H',Inv Y a d H' s'/\N v H') (λ _ _=>False) s:=by
 have m:=p a s d H _ I h;rw[c]at m;refine Â (Ź m λ t k u=>iF u λ v B C j i=>?_);obtain⟨b,q,l⟩:=i;have n:=wx _ k d B (.ref D) [v] (.ref D) [t] (λ z H'=>z=.Ę/\H'=upd B D (.lst (ys++[v]))) C rfl (.cons j .nil) ⟨D,ys,v,rfl,rfl,b,q,rfl,rfl⟩;rw[c]at n;refine Â (Ź n λ _ r g=>?_);obtain⟨_,G,E,_,_,e⟩:=g;subst e;exact Ë ⟨v,_,E,l⟩
def vW {X:Cx}{ifs:Á Expr}{scope:Scope}{cl:Á (Str × Addr)}{l:Á (Str × Ê Nat)}{g:TG}{tt:TT}{te:TE}
  (Xw:oY scope X.env=pure cl) (O:∀ y c,cl.lookup y=À c->X.env.cells.lookup y=À c) (P:∀ x∈scope.names,x.2=.free->∃ c,cl.lookup x.1=À c)
  (t:scope.kind=.function) (r:∀ y∈scope.names,y.2=.cell->scope.names.lookup y.1=À .cell) (n:X.calm=true) (Z:jr X scope l)
  (hg:∀ cl C d G F,PG (ź X l scope cl C d G F) tg g) (ht:∀ cl C d G F,I_ (ź X l scope cl C d G F) ifs tt) (he:∀ cl C d G F,PE (ź X l scope cl C d G F) L te)
  {a:Á (Addr × Obj)}{j:St}{s:Ò}{d:Á Addr}{tn:Nat->Heap->Prop}{J:It}{Q:Addr->Hp->Prop}{RR:Value->Addr->Qi->Ò->Prop}{E:Value->Ò->Prop}
  (I:Inv X a j H s) (T:Turn X.prog X.w X.K tg J d it tn) (st:tn 0 s.heap) (U:∀ b∈d,rY X a H b)
  (hw:L7 l g tt te J j H Q)
  (Vf:∀ D C (s':Ò) (H':Hp),Q D H'->(∃ m,s'.heap.Ns C m)->Inv X a j H' s'->rY X a H' C->RR (.ref D) C (.ok .next) s') :
  Ú (à X.prog X.w) X.A (TH []) (λ f s₃=>Ú (à X.prog X.w) X.A (rS scope X.env.globals cl [] X.env.qual none .none (À X.env)) (λ k s₄=>
   dW (à X.prog X.w) X.A (.compStart (.ListComp L [⟨tg,iter,ifs,0⟩] scope pos) 0 (.ref it) f { k with scope:=relabel scope X.env }) (RR f k.locals) s₄) E s₃) E s:=by
 refine fK ?_ (by show 0<=sizeLine;exact ï _);have I3:Inv X a j (upd H s.heap.objs.size (.lst [])) { s with heap:=s.heap.push { cls:=.type "list",data:=.seq ([]:Á Value).toArray } }:=
  I.NK (its:=[]) (ys:=[]) (t':=s.toks) .nil (ï _)
 have hD:H s.heap.objs.size=none:=I.fresh;obtain⟨W,⟨m0,w0⟩,turn⟩:=hw _ hD;have fpD:∀ b∈d,b≠s.heap.objs.size:=λ b M z=>by
  obtain⟨o,ho,_⟩:=T.obj _ _ st b M;exact absurd (Ó ho) (by rw[z];exact ŏ _)
 have Y:∀ b∈d,rY X a (upd H s.heap.objs.size (.lst [])) b:=λ b M=>⟨by rw[ä (fpD b M)];exact(U b M).1,(U b M).2⟩
 have S3:tn 0 (s.heap.push { cls:=.type "list",data:=.seq ([]:Á Value).toArray }):=T.keep _ _ _ st λ b _ o e=>Ã _ e;refine Fw (α:=Á V) (B:=λ i m ys j H5=>te j H5 λ v H6=>H6 s.heap.objs.size=À (.lst ys)/\ys.length < sizeLine/\∃ u,u < m/\W (i+1) u (ys++[v]) j (upd H6 s.heap.objs.size (.lst (ys++[v])))) (Q:=Q s.heap.objs.size) (p:=iter.pos) (body:=λ f env=>Ē L env >>= λ x=>call (.builtin "list.append") [f,x] >>= λ _=>pure UE)
  (.inl ⟨_,_,_,_,rfl⟩) (λ _ _ _=>rfl) rfl rfl O P t r n Z hg ht (λ cl C d G F a s' i m ys j H I h=>?_) I3 T S3 Y w0 turn λ C s' H' q=>Vf _ C s' H' q
 refine Ź (Jz (N:=λ v H'=>∃ u,u < m/\W (i+1) u (ys++[v]) j H') (he cl C d G F) rfl I h) λ _ XZ ⟨v,H',I',u,hm,w'⟩=>⟨u,_,_,H',hm,I',w'⟩
def HW (l:Á (Str × Ê Nat)) (c:TI)(g:TG)(b:TT)(a:TE):TE:=λ d H Q=>Pr l c g b a d H λ D A=>Q (.ref D) A
section
variable {X:Cx}{P6 tg iter:Expr}{ifs:Á Expr}{scope:Scope}{pos:kK}{wi:TI}{g:TG}{tt:TT}{te:TE}
structure eB (X:Cx)(scope:Scope)(l:Á (Str × Ê Nat)):Prop where
 kind:scope.kind=.function
 cell:∀ y∈scope.names,y.2=.cell->scope.names.lookup y.1=À .cell
 names:∀ y∈scope.names,y.2=.local->scope.names.lookup y.1=À .local
 free:∀ y∈scope.names,y.2=.free->X.env.kindOf y.1=À .cell∨X.env.kindOf y.1=À .free
 src:jr X scope l
def K1 (l:Á (Str × Ê Nat)) (a:eB X scope l)(d:X.calm=true)(Y:PI X tg iter wi)
  (U:∀ cl C f j B,PG (ź X l scope cl C f j B) tg g) (ht:∀ cl C f j B,I_ (ź X l scope cl C f j B) ifs tt) (O:∀ cl C f j B,PE (ź X l scope cl C f j B) P6 te)
  (hs:∀ x,dX iter X.env x=pure x:=by intro _;rfl) :
  PE X (.ListComp P6 [⟨tg,iter,ifs,0⟩] scope pos) (HW l wi g tt te):=by
 intro c s t H Q I h;obtain⟨cl,r,u,y⟩:=nH (scope:=scope) (env:=X.env) λ x hx P=>I.ok.has x.1 (a.free x hx P);rw[eval_ListComp];refine E5 (use:=none) rfl hs r a.kind a.names (Ź (Y c s t H _ I h) λ v s1 L=>Ź L λ XF s2 M=>?_);obtain⟨it,f,tn,J,H2,e,G,T,p,z,hw⟩:=M;subst e;refine vW (RR:=λ k C=>compPost (à X.prog X.w) X.A X.xe none (EP X c t Q) k C) r u y a.kind a.cell d a.src U ht O G T p z hw ?_;intro D C s' E q ⟨m,Z⟩ F i;refine⟨m,Z,λ h' n=>?_⟩;exact⟨.ref D,E,F.turned (t':=s'.toks) (λ b o N e=>(n.2 b N).trans e) i.1 i.2.1 i.2.2.2.1 i.2.2.2.2.1 i.2.2.2.2.2,rfl,q⟩
def Bv (l:Á (Str × Ê Nat)) (c:eB X scope l)(j:X.calm=true)(hN:X.N.Nodup)(hy:X.N[i]? = À y)(t:X.env.scope.names.lookup y=À .local)(hi:PI X tg iter wi)
  (hg:∀ cl C k p B,PG (ź X l scope cl C k p B) tg g) (ht:∀ cl C k p B,I_ (ź X l scope cl C k p B) ifs tt) (he:∀ cl C k p B,PE (ź X l scope cl C k p B) P6 te)
  (M:dJ (.ListComp P6 [⟨tg,iter,ifs,0⟩] scope pos) (À (.Name y n)) r.line X.env=pure true)
  (hs:∀ x,dX iter X.env x=pure x:=by intro _;rfl) :
  PS X (.Assign [.Name y n] (.ListComp P6 [⟨tg,iter,ifs,0⟩] scope pos) r) (LI (HW l wi g tt te) (Cf i)):=by
 intro d s σ H U I h;obtain⟨cl,Y,e2,e3⟩:=nH (scope:=scope) (env:=X.env) λ x t hf=>I.ok.has x.1 (c.free x t hf);rw[exec_Assign_Name_used _ _ _ _ M];refine Â (dM (Â ?_));show Ú _ X.A (do let _ <-comprehension (.ListComp P6 [⟨tg,iter,ifs,0⟩] scope pos) scope X.env _ (TH []) false (Ē iter X.env) (À (j' (.Name y n) X.env))) _ _ s;refine Â (Ź (E5 (use:=À (j' (.Name y n) X.env)) (Q:=λ _ s'=>SP X d U .next s') rfl hs Y c.kind c.names
  (Ź (hi d s σ H _ I h) λ v s1 h1=>Ź h1 λ XF s2 h2=>?_)) λ _ s' hq=>Ë (Ë hq))
 obtain⟨it,k,tn,J,H2,e,I2,T,P,f2,hw⟩:=h2;subst e;refine vW (RR:=λ u C=>compPost (à X.prog X.w) X.A X.xe (À (j' (.Name y n) X.env)) (λ _ s'=>SP X d U .next s') u C) Y e2 e3 c.kind c.cell j c.src hg ht he I2 T P f2 hw ?_;intro D C s' Z q ⟨m,hn⟩ I' f;show Ú _ X.A (j' (.Name y n) X.env (.ref D)) _ _ _;refine TR (wF (v:=.ref D) I' hN hy (.inl t) rfl (λ O E hk=>?_) (.inr t));obtain⟨a,L,ha⟩:=hk;have F:C≠a:=by
  rintro rfl;rcases ha with z|z
  ·exact f.2.1 z
  ·exact f.2.2.2.2.1 y _ z rfl
 refine⟨m,hn.sameBut L F,λ h' G=>?_⟩;exact⟨_,Z,E.turned (t':=O.toks) (λ b o hb e=>(G.2 b hb).trans e) f.1 f.2.1 f.2.2.2.1 f.2.2.2.2.1 f.2.2.2.2.2,q⟩
end
def fC (n:Nat)(i:Int):Prop:=i.natAbs < 2 ^ n
def fC.mono (h:fC n i)(k:n<=m):fC m i:=é h (Nat.pow_le_pow_right (by decide) k)
def fC.mul (h:fC n i)(k:fC m j):fC (n+m) (i * j):=by
 unfold fC at *
 rw[Qb,Nat.pow_add];exact Nat.mul_lt_mul'' h k
def fC.add (h:fC n i)(k:fC n j):fC (n+1) (i+j):=by
 unfold fC at *
 have:=Int.natAbs_add_le i j;rw[Nat.pow_succ];lia
def fC.le (h:fC n i)(k:j.natAbs<=i.natAbs):fC n j:=bb k h
def fC.bits (h:fC n i):bu i<=n:=by
 unfold bu;split
 ·exact ï _
 ·rename_i b;have a:i.natAbs≠0:=by
   intro z;apply b;have:i=0:=by lia
   simp[this]
  have:=(Wz a).mpr h;lia
def fC.log (h:fC n i)(b:0 < n):i.natAbs.log2 < n:=by
 by_cases a:i.natAbs=0
 ·rw[a];show Nat.log2 0 < n;have:Nat.log2 0=0:=by decide
  rw[this];exact b
 ·exact(Wz a).mpr h
def fC.So (h:fC 60000000 i)(k:fC 60000000 j):IntMulOk i j:=by
 have a:=h.bits;have b:=k.bits;unfold IntMulOk;have e:vN (((bu i+bu j:Nat)):Int)=false:=by
  unfold vN;refine ö ?_;show ¬ ((((bu i+bu j:Nat)):Int) > (((2 ^ 27:Nat)):Int));have:(2 ^ 27:Nat)=134217728:=by decide
  lia
 simp[e];try (intro _ _;exact_mod_cast e)
def v7 (a:-(2 ^ n) < i) (b:i < 2 ^ n):fC n i:=by
 unfold fC;have e:((2 ^ n:Nat):Int)=(2:Int) ^ n:=by
  rw[Int.natCast_pow];rfl
 have:(i.natAbs:Int) < ((2 ^ n:Nat):Int):=by rw[e];lia
 exact_mod_cast this
section
variable {X:Cx}
def KY:jf X (bB .Mult) (rI (λ i j=>fC 60000000 i/\fC 60000000 j) λ i j=>.int (i * j)):=Ui λ _ _ _ _ _ _ _ a q=>mul_int q (a.1.So a.2)
def Ha:jf X (bB .FloorDiv) (rI (λ _ j=>j≠0/\fC 9000 j) λ i j=>.int (i.fdiv j)):=Ui λ _ _ _ _ _ _ _ a q=>floordiv_int a.1 q (.inl (wL (a.2.log (by decide))))
def xl:bx X (.builtin "divmod") (λ xs H Q=>∃ i j,xs=[.int i,.int j]/\(0 < j/\fC 9000 j)/\∀ p,H p=none->Q (.ref p) (upd H p (.tup [.int (i / j),.int (i % j)]))):=by
 intro a s l H xs us Q I r h;obtain⟨i,j,rfl,⟨f,c⟩,q⟩:=h;obtain⟨u,k,rfl,⟨t,rfl⟩,⟨g,rfl⟩⟩:=vals2 r;refine divmod_int (by lia) ?_ (.inl (wL (c.log (by decide))));rw[Int.fdiv_eq_ediv_of_nonneg i (by lia),j6 i (by lia)];have d:H s.heap.objs.size=none:=I.ś.fresh (Ì _);refine⟨.ref s.heap.objs.size,_,?_,rfl,q _ d⟩;refine I.laid (λ b o e=>Ã _ e) (Ì _) ⟨by simp only[ē,aJ];rw[ą];decide,[.int (i / j) s.toks,.int (i % j) (s.toks+1)],.cons ⟨_,rfl⟩ (.cons ⟨_,rfl⟩ .nil),?_⟩;exact⟨_,Ö s.heap rfl,rfl,0,rfl⟩
theorem zf:∀ {bs:Á Bool}{us:Á Value},Vals (bs.map V.bl) us->∀ (i:Nat)(v:Value),us[i]? = À v->∃ b:Bool,bs[i]? = À b/\v=eN b
 | [],us,r,i,v,e=>by
  cases r;simp at e
 | b :: bs,us,r,i,v,e=>by
  cases r with
  | cons f g=>
   cases i with
   | zero=>
    simp at e;subst e;exact⟨b,rfl,f⟩
   | succ i=>
    obtain⟨a,c,d⟩:=zf g i v (by simpa using e);exact⟨a,by simpa using c,d⟩
def Bx (bs:Á Bool):((Ą bs.length).all λ i=>(bs[i]?).getD true)=bs.all id:=by
 rw[cC,ñ,ñ];constructor
 ·intro h b d;obtain⟨i,c,e⟩:=İ d;have:=h i (jY.mpr c);simp only[Å c,sF,e]at this;exact this
 ·intro h i c;have a:=jY.mp c;simp only[Å a,sF];exact h _ (dV a)
def Dw (l:X.calm=true):bx X (.builtin "all") (λ xs H Q=>∃ (a:Addr) (bs:Á Bool),xs=[.ref a]/\eS X.K H a (bs.map V.bl)/\Q (.bl (bs.all id)) H):=by
 intro g s z H xs us Q I r h;obtain⟨a,bs,rfl,k,q⟩:=h;obtain⟨u,rfl,o⟩:=vals1 r;cases o;obtain⟨c,rv,p,y⟩:=I.list k;have hl:=p.isList;have d:a < s.heap.objs.size:=by obtain⟨_,e,_⟩:=hl;exact Ó e
 refine call_all_walk (w_ hl ?_);refine⟨s.heap.objs.size,[s.heap.objs.size,a],[s.heap.objs.size],c.toArray.size,_,_,λ i=>(bs[i]?).getD true,rfl,Walks.list (A:=X.A.in1) (I.ok.hd l) _ a (ê d) c.toArray,
  ⟨⟨_,Ö _ rfl,rfl,rfl⟩,hl.push _⟩,λ i v s' C B j f=>?_,λ w t m=>?_⟩
 ·obtain⟨b,e,rfl⟩:=zf rv i v (by simpa using j);simp only[e,sF]at f;exact bU f
 ·have e:((Ą c.toArray.size).all λ i=>(bs[i]?).getD true)=bs.all id:=by
   rw[Ù,<-rv.length,Î];exact Bx bs
  rw[e];refine⟨.bl _,H,I.kept (t':=t) λ b x e=>m b x (λ n=>?_) (Ã _ e),rfl,q⟩;rw[ý.mp n]at e;exact ŏ _ (Ó e)
end
inductive Dt where
 | Ę|bl (b:Bool)|int (i:Int)|str (x:Str)|tup (l:Á Dt)|lst (l:Á Dt)
mutual
def Dt.dep:Dt->Nat
 | .tup l=>ay l+1
 | .lst l=>ay l+1
 | _=>0
def ay:Á Dt->Nat
 | []=>0
 | d :: r=>max d.dep (ay r)
end
mutual
def bH:Dt->Dt->Bool
 | .Ę,.Ę=>true
 | .bl a,.bl b=>a == b
 | .bl a,.int b=>(if a then 1 else 0) == b
 | .int a,.bl b=>a == (if b then 1 else 0)
 | .int a,.int b=>a == b
 | .str a,.str b=>a == b
 | .tup a,.tup b=>iu a b
 | .lst a,.lst b=>iu a b
 | _,_=>false
def iu:Á Dt->Á Dt->Bool
 | [],[]=>true
 | a :: r,b :: q=>bH a b && iu r q
 | _,_=>false
end
mutual
def Rep (K:É)(N:Addr->Prop)(H:Hp):Dt->V->Prop
 | .Ę,v=>v=.Ę
 | .bl b,v=>v=.bl b
 | .int i,v=>v=.int i
 | .str x,v=>v=.str x
 | .tup l,v=>∃ a xs,v=.ref a/\¬ N a/\fM K H a xs/\bc K N H l xs
 | .lst l,v=>∃ a xs,v=.ref a/\¬ N a/\eS K H a xs/\bc K N H l xs
def bc (K:É)(N:Addr->Prop)(H:Hp):Á Dt->Á V->Prop
 | [],xs=>xs=[]
 | d :: r,xs=>∃ x a,xs=x :: a/\Rep K N H d x/\bc K N H r a
end
def vQ (N:Addr->Prop)(H H':Hp):Prop:=∀ b o,H b=À o->¬ N b->H' b=À o
def vQ.Pn {K:É}{N:Addr->Prop}(s:vQ N H H')(n:¬ N a)(h:fM K H a xs):fM K H' a xs:=by
 rcases h with(h|⟨o,h⟩)|h
 ·exact .inl (.inl (s _ _ h n))
 ·exact .inl (.inr ⟨o,s _ _ h n⟩)
 ·exact .inr h
def vQ.Ew {K:É}{N:Addr->Prop}(s:vQ N H H')(n:¬ N a)(h:eS K H a xs):eS K H' a xs:=by
 rcases h with(h|⟨o,h⟩)|h
 ·exact .inl (.inl (s _ _ h n))
 ·exact .inl (.inr ⟨o,s _ _ h n⟩)
 ·exact .inr h
mutual
theorem Rep.same {K:É}{N:Addr->Prop}(s:vQ N H H'):∀ {d:Dt}{v:V},Rep K N H d v->Rep K N H' d v
 | .Ę,_,h=>h
 | .bl _,_,h=>h
 | .int _,_,h=>h
 | .str _,_,h=>h
 | .tup l,v,h=>by
  unfold Rep at h ⊢;obtain⟨a,xs,e,n,q,r⟩:=h;exact⟨a,xs,e,n,s.Pn n q,bc.same s r⟩
 | .lst l,v,h=>by
  unfold Rep at h ⊢;obtain⟨a,xs,e,n,q,r⟩:=h;exact⟨a,xs,e,n,s.Ew n q,bc.same s r⟩
theorem bc.same {K:É}{N:Addr->Prop}(s:vQ N H H'):∀ {l:Á Dt}{xs:Á V},bc K N H l xs->bc K N H' l xs
 | [],_,h=>h
 | d :: r,xs,h=>by
  unfold bc at h ⊢;obtain⟨x,c,e,a,b⟩:=h;exact⟨x,c,e,Rep.same s a,bc.same s b⟩
end
theorem bc.length {K:É}{N:Addr->Prop}:∀ {l:Á Dt}{xs:Á V},bc K N H l xs->l.length=xs.length
 | [],xs,h=>by unfold bc at h;rw[h];rfl
 | d :: r,xs,h=>by
  unfold bc at h;obtain⟨x,b,rfl,_,a⟩:=h;rw[ē,ē,bc.length a]
theorem bc.get {K:É}{N:Addr->Prop}:∀ {l:Á Dt}{xs:Á V}{i:Nat}{d:Dt},bc K N H l xs->l[i]? = À d->∃ x,xs[i]? = À x/\Rep K N H d x
 | [],xs,i,d,h,e=>by simp at e
 | d0 :: r,xs,0,d,h,e=>by
  unfold bc at h;obtain⟨x,g,rfl,c,_⟩:=h;simp at e;subst e;exact⟨x,rfl,c⟩
 | d0 :: r,xs,i+1,d,h,e=>by
  unfold bc at h;obtain⟨x,g,rfl,_,f⟩:=h;obtain⟨y,a,b⟩:=bc.get (i:=i) f (by simpa using e);exact⟨y,by simpa using a,b⟩
theorem me:∀ {l q:Á Dt},l.length≠q.length->iu l q=false
 | [],[],h=>absurd rfl h
 | [],_ :: _,_=>by simp[iu]
 | _ :: _,[],_=>by simp[iu]
 | a :: r,b :: q,h=>by
  simp only[iu];rw[me (l:=r) (q:=q) (by simpa using h),oK]
theorem iQ:∀ {l q:Á Dt},l.length=q.length->iu l q=(Ą l.length).all λ i=>match l[i]?,q[i]? with|some a,À b=>bH a b|_,_=>true
 | [],[],_=>by simp[iu]
 | a :: r,b :: q,h=>by
  simp only[iu];rw[iQ (l:=r) (q:=q) (by simpa using h),ē,List.range_succ_eq_map,Ġ,List.all_map];simp[Function.comp_def]
theorem zl:∀ {l:Á Dt}{i:Nat}{d:Dt},l[i]? = À d->d.dep<=ay l
 | [],i,d,e=>by simp at e
 | a :: r,0,d,e=>by simp at e;subst e;simp only[ay];exact Nat.le_max_left _ _
 | a :: r,i+1,d,e=>by
  have:=zl (l:=r) (i:=i) (d:=d) (by simpa using e);simp only[ay];exact Đ this (Nat.le_max_right _ _)
section
variable {X:Cx}{õ:Á (Addr × Obj)}{σ:St}{H:Hp}{s:Ò}{N N':Addr->Prop}
def zS (I:Inv X õ σ H s)(h:eS X.K H a xs)(k:fM X.K H a ys):False:=by
 obtain⟨g,_,p,_⟩:=I.list h;obtain⟨f,_,q,_⟩:=I.tuple k;obtain⟨o,e,c,_⟩:=p.isList;obtain⟨i,d,b,_⟩:=q;rw[e]at d;cases d;rw[c]at b;injection b with z
 exact absurd z (by decide)
mutual
theorem Rep.inj (I:Inv X õ σ H s):∀ {d e:Dt}{v:V},Rep X.K N H d v->Rep X.K N' H e v->d=e
 | .Ę,.Ę,_,_,_=>rfl
 | .Ę,.bl _,_,h,k=>by unfold Rep at h k;rw[h]at k;cases k
 | .Ę,.int _,_,h,k=>by unfold Rep at h k;rw[h]at k;cases k
 | .Ę,.str _,_,h,k=>by unfold Rep at h k;rw[h]at k;cases k
 | .Ę,.tup _,_,h,k=>by unfold Rep at h k;obtain⟨_,_,e,_⟩:=k;rw[h]at e;cases e
 | .Ę,.lst _,_,h,k=>by unfold Rep at h k;obtain⟨_,_,e,_⟩:=k;rw[h]at e;cases e
 | .bl _,.Ę,_,h,k=>by unfold Rep at h k;rw[h]at k;cases k
 | .bl x,.bl y,_,h,k=>by unfold Rep at h k;rw[h]at k;cases k;rfl
 | .bl _,.int _,_,h,k=>by unfold Rep at h k;rw[h]at k;cases k
 | .bl _,.str _,_,h,k=>by unfold Rep at h k;rw[h]at k;cases k
 | .bl _,.tup _,_,h,k=>by unfold Rep at h k;obtain⟨_,_,e,_⟩:=k;rw[h]at e;cases e
 | .bl _,.lst _,_,h,k=>by unfold Rep at h k;obtain⟨_,_,e,_⟩:=k;rw[h]at e;cases e
 | .int _,.Ę,_,h,k=>by unfold Rep at h k;rw[h]at k;cases k
 | .int _,.bl _,_,h,k=>by unfold Rep at h k;rw[h]at k;cases k
 | .int x,.int y,_,h,k=>by unfold Rep at h k;rw[h]at k;cases k;rfl
 | .int _,.str _,_,h,k=>by unfold Rep at h k;rw[h]at k;cases k
 | .int _,.tup _,_,h,k=>by unfold Rep at h k;obtain⟨_,_,e,_⟩:=k;rw[h]at e;cases e
 | .int _,.lst _,_,h,k=>by unfold Rep at h k;obtain⟨_,_,e,_⟩:=k;rw[h]at e;cases e
 | .str _,.Ę,_,h,k=>by unfold Rep at h k;rw[h]at k;cases k
 | .str _,.bl _,_,h,k=>by unfold Rep at h k;rw[h]at k;cases k
 | .str _,.int _,_,h,k=>by unfold Rep at h k;rw[h]at k;cases k
 | .str x,.str y,_,h,k=>by unfold Rep at h k;rw[h]at k;cases k;rfl
 | .str _,.tup _,_,h,k=>by unfold Rep at h k;obtain⟨_,_,e,_⟩:=k;rw[h]at e;cases e
 | .str _,.lst _,_,h,k=>by unfold Rep at h k;obtain⟨_,_,e,_⟩:=k;rw[h]at e;cases e
 | .tup _,.Ę,_,h,k=>by unfold Rep at h k;obtain⟨_,_,e,_⟩:=h;rw[k]at e;cases e
 | .tup _,.bl _,_,h,k=>by unfold Rep at h k;obtain⟨_,_,e,_⟩:=h;rw[k]at e;cases e
 | .tup _,.int _,_,h,k=>by unfold Rep at h k;obtain⟨_,_,e,_⟩:=h;rw[k]at e;cases e
 | .tup _,.str _,_,h,k=>by unfold Rep at h k;obtain⟨_,_,e,_⟩:=h;rw[k]at e;cases e
 | .tup l,.tup q,_,h,k=>by
  unfold Rep at h k;obtain⟨a,xs,rfl,_,c,g⟩:=h;obtain⟨b,j,e,_,f,i⟩:=k;cases e;have:=I.qT c f;subst this;rw[bc.inj I g i]
 | .tup _,.lst _,_,h,k=>by unfold Rep at h k;obtain⟨_,_,rfl,_,c,_⟩:=h;obtain⟨_,_,e,_,f,_⟩:=k;cases e;exact(zS I f c).elim
 | .lst _,.Ę,_,h,k=>by unfold Rep at h k;obtain⟨_,_,e,_⟩:=h;rw[k]at e;cases e
 | .lst _,.bl _,_,h,k=>by unfold Rep at h k;obtain⟨_,_,e,_⟩:=h;rw[k]at e;cases e
 | .lst _,.int _,_,h,k=>by unfold Rep at h k;obtain⟨_,_,e,_⟩:=h;rw[k]at e;cases e
 | .lst _,.str _,_,h,k=>by unfold Rep at h k;obtain⟨_,_,e,_⟩:=h;rw[k]at e;cases e
 | .lst _,.tup _,_,h,k=>by unfold Rep at h k;obtain⟨_,_,rfl,_,c,_⟩:=h;obtain⟨_,_,e,_,f,_⟩:=k;cases e;exact(zS I c f).elim
 | .lst l,.lst q,_,h,k=>by
  unfold Rep at h k;obtain⟨a,xs,rfl,_,c,g⟩:=h;obtain⟨b,j,e,_,f,i⟩:=k;cases e;have:=I.ud c f;subst this;rw[bc.inj I g i]
theorem bc.inj (I:Inv X õ σ H s):∀ {l q:Á Dt}{xs:Á V},bc X.K N H l xs->bc X.K N' H q xs->l=q
 | [],[],_,_,_=>rfl
 | [],_ :: _,_,h,k=>by unfold bc at h k;obtain⟨_,_,e,_⟩:=k;rw[h]at e;cases e
 | _ :: _,[],_,h,k=>by unfold bc at h k;obtain⟨_,_,e,_⟩:=h;rw[k]at e;cases e
 | a :: r,b :: q,xs,h,k=>by
  unfold bc at h k;obtain⟨x,i,rfl,c,d⟩:=h;obtain⟨y,j,e,f,g⟩:=k;cases e;rw[Rep.inj I c f,bc.inj I d g]
end
mutual
theorem tM:∀ d:Dt,bH d d=true
 | .Ę=>by simp[bH]
 | .bl _=>by simp[bH]
 | .int _=>by simp[bH]
 | .str _=>by simp[bH]
 | .tup l=>by simp only[bH];exact qo l
 | .lst l=>by simp only[bH];exact qo l
theorem qo:∀ l:Á Dt,iu l l=true
 | []=>by simp[iu]
 | d :: r=>by simp only[iu,tM d,qo r,Bool.and_self]
end
def ko (E:∀ (d e:Dt){v w:V}{u z:Value},d.dep<=k->Rep X.K N H d v->Rep X.K N' H e w->RelV v u->RelV w z->qc A s u z (bH d e))
  {l q:Á Dt}{its c:Á Value}(hd:ay l<=k) (h:bc X.K N H l xs) (h':bc X.K N' H q ys) (r:Vals xs its) (n:Vals ys c) :
  ∀ j (g:j < its.toArray.size) (i:j < c.toArray.size),qc A s its.toArray[j] c.toArray[j] (match l[j]?,q[j]? with|some a,À b=>bH a b|_,_=>true):=by
 intro j g i;have F:l.length=its.length:=h.length.trans r.length;have G:q.length=c.length:=h'.length.trans n.length;have f:j < l.length:=by rw[F];simpa using g
 have m:j < q.length:=by rw[G];simpa using i
 obtain⟨x,B,J⟩:=h.get (Å f);obtain⟨y,C,L⟩:=h'.get (Å m);obtain⟨u,t,I⟩:=r.get B;obtain⟨z,D,M⟩:=n.get C;rw[Å f,Å m];have o:its.toArray[j]=u:=by
  have:=Ç.mp t;obtain⟨_,e⟩:=this;simpa using e
 have p:c.toArray[j]=z:=by
  have:=Ç.mp D;obtain⟨_,e⟩:=this;simpa using e
 rw[o,p];exact E _ _ (Đ (zl (Å f)) hd) J L I M
def n6 {l q:Á Dt}{its c:Á Value}(h:bc X.K N H l xs)(h':bc X.K N' H q ys)(r:Vals xs its)(g:Vals ys c) :
  ((Ą (min its.toArray.size c.toArray.size)).all (λ j=>match l[j]?,q[j]? with|some a,À b=>bH a b|_,_=>true) && its.toArray.size == c.toArray.size)=iu l q:=by
 have e:l.length=its.toArray.size:=by simpa using h.length.trans r.length
 have f:q.length=c.toArray.size:=by simpa using h'.length.trans g.length
 rw[<-e,<-f];by_cases d:l.length=q.length
 ·rw[iQ d,d,Nat.min_self];simp
 ·rw[me d];have:(l.length == q.length)=false:=by simpa using d
  rw[this,oK]
def tI (I:Inv X õ σ H s):∀ (k:Nat) (A:į),A.units+k < cLine->∀ (d e:Dt) {v w:V}{u z:Value},d.dep<=k->Rep X.K N H d v->Rep X.K N' H e w->RelV v u->RelV w z->qc A s u z (bH d e):=by
 intro k;induction k with
 | zero=>
  intro A Z d e v w u z hd h c r f;have hu:A.units < cLine:=by lia
  cases d with
  | tup l=>exact absurd hd (by simp[Dt.dep])
  | lst l=>exact absurd hd (by simp[Dt.dep])
  | Ę=>
   unfold Rep at h;subst h;cases e with
   | Ę=>
    unfold Rep at c;subst c;have:=Ŝ (A:=A) (s:=s) r f rfl rfl;simpa[bH,jP]using this
   | bl y=>
    unfold Rep at c;subst c;have:=Ŝ (A:=A) (s:=s) r f rfl rfl;simpa[bH,jP]using this
   | int y=>
    unfold Rep at c;subst c;have:=Ŝ (A:=A) (s:=s) r f rfl rfl;simpa[bH,jP]using this
   | str y=>
    unfold Rep at c;subst c;have:=Ŝ (A:=A) (s:=s) r f rfl rfl;simpa[bH,jP]using this
   | tup y=>
    unfold Rep at c;obtain⟨a,xs,rfl,_,i,_⟩:=c;cases f;obtain⟨g,_,p,_⟩:=I.tuple i;cases r;simp only[bH];exact wO p hu
   | lst y=>
    unfold Rep at c;obtain⟨a,xs,rfl,_,i,_⟩:=c;cases f;obtain⟨g,_,p,_⟩:=I.list i;cases r;simp only[bH];exact yE p.isList hu
  | bl x=>
   unfold Rep at h;subst h;cases e with
   | Ę=>
    unfold Rep at c;subst c;have:=Ŝ (A:=A) (s:=s) r f rfl rfl;simpa[bH,jP]using this
   | bl y=>
    unfold Rep at c;subst c;have:=Ŝ (A:=A) (s:=s) r f rfl rfl;simpa[bH,jP]using this
   | int y=>
    unfold Rep at c;subst c;have:=Ŝ (A:=A) (s:=s) r f rfl rfl;simpa[bH,jP]using this
   | str y=>
    unfold Rep at c;subst c;have:=Ŝ (A:=A) (s:=s) r f rfl rfl;simpa[bH,jP]using this
   | tup y=>
    unfold Rep at c;obtain⟨a,xs,rfl,_,i,_⟩:=c;cases f;obtain⟨g,_,p,_⟩:=I.tuple i;cases r;simp only[bH];exact wN x p hu
   | lst y=>
    unfold Rep at c;obtain⟨a,xs,rfl,_,i,_⟩:=c;cases f;obtain⟨g,_,p,_⟩:=I.list i;cases r;simp only[bH];exact yC x p.isList hu
  | int x=>
   unfold Rep at h;subst h;cases e with
   | Ę=>
    unfold Rep at c;subst c;have:=Ŝ (A:=A) (s:=s) r f rfl rfl;simpa[bH,jP]using this
   | bl y=>
    unfold Rep at c;subst c;have:=Ŝ (A:=A) (s:=s) r f rfl rfl;simpa[bH,jP]using this
   | int y=>
    unfold Rep at c;subst c;have:=Ŝ (A:=A) (s:=s) r f rfl rfl;simpa[bH,jP]using this
   | str y=>
    unfold Rep at c;subst c;have:=Ŝ (A:=A) (s:=s) r f rfl rfl;simpa[bH,jP]using this
   | tup y=>
    unfold Rep at c;obtain⟨a,xs,rfl,_,i,_⟩:=c;cases f;obtain⟨g,_,p,_⟩:=I.tuple i;obtain⟨t,rfl⟩:=r;simp only[bH];exact yD x t p hu
   | lst y=>
    unfold Rep at c;obtain⟨a,xs,rfl,_,i,_⟩:=c;cases f;obtain⟨g,_,p,_⟩:=I.list i;obtain⟨t,rfl⟩:=r;simp only[bH];exact yR x t p.isList hu
  | str x=>
   unfold Rep at h;subst h;cases e with
   | Ę=>
    unfold Rep at c;subst c;have:=Ŝ (A:=A) (s:=s) r f rfl rfl;simpa[bH,jP]using this
   | bl y=>
    unfold Rep at c;subst c;have:=Ŝ (A:=A) (s:=s) r f rfl rfl;simpa[bH,jP]using this
   | int y=>
    unfold Rep at c;subst c;have:=Ŝ (A:=A) (s:=s) r f rfl rfl;simpa[bH,jP]using this
   | str y=>
    unfold Rep at c;subst c;have:=Ŝ (A:=A) (s:=s) r f rfl rfl;simpa[bH,jP]using this
   | tup y=>
    unfold Rep at c;obtain⟨a,xs,rfl,_,i,_⟩:=c;cases f;obtain⟨g,_,p,_⟩:=I.tuple i;obtain⟨t,rfl⟩:=r;simp only[bH];exact yF x t p hu
   | lst y=>
    unfold Rep at c;obtain⟨a,xs,rfl,_,i,_⟩:=c;cases f;obtain⟨g,_,p,_⟩:=I.list i;obtain⟨t,rfl⟩:=r;simp only[bH];exact yS x t p.isList hu
 | succ k U=>
  intro A Z d e v w u z hd h c r f;have hu:A.units < cLine:=by lia
  have G:A.in1.units+k < cLine:=by have:A.in1.units=A.units+1:=rfl;lia
  cases d with
  | Ę=>
   unfold Rep at h;subst h;cases e with
   | Ę=>
    unfold Rep at c;subst c;have:=Ŝ (A:=A) (s:=s) r f rfl rfl;simpa[bH,jP]using this
   | bl y=>
    unfold Rep at c;subst c;have:=Ŝ (A:=A) (s:=s) r f rfl rfl;simpa[bH,jP]using this
   | int y=>
    unfold Rep at c;subst c;have:=Ŝ (A:=A) (s:=s) r f rfl rfl;simpa[bH,jP]using this
   | str y=>
    unfold Rep at c;subst c;have:=Ŝ (A:=A) (s:=s) r f rfl rfl;simpa[bH,jP]using this
   | tup y=>
    unfold Rep at c;obtain⟨a,xs,rfl,_,i,_⟩:=c;cases f;obtain⟨g,_,p,_⟩:=I.tuple i;cases r;simp only[bH];exact wO p hu
   | lst y=>
    unfold Rep at c;obtain⟨a,xs,rfl,_,i,_⟩:=c;cases f;obtain⟨g,_,p,_⟩:=I.list i;cases r;simp only[bH];exact yE p.isList hu
  | bl x=>
   unfold Rep at h;subst h;cases e with
   | Ę=>
    unfold Rep at c;subst c;have:=Ŝ (A:=A) (s:=s) r f rfl rfl;simpa[bH,jP]using this
   | bl y=>
    unfold Rep at c;subst c;have:=Ŝ (A:=A) (s:=s) r f rfl rfl;simpa[bH,jP]using this
   | int y=>
    unfold Rep at c;subst c;have:=Ŝ (A:=A) (s:=s) r f rfl rfl;simpa[bH,jP]using this
   | str y=>
    unfold Rep at c;subst c;have:=Ŝ (A:=A) (s:=s) r f rfl rfl;simpa[bH,jP]using this
   | tup y=>
    unfold Rep at c;obtain⟨a,xs,rfl,_,i,_⟩:=c;cases f;obtain⟨g,_,p,_⟩:=I.tuple i;cases r;simp only[bH];exact wN x p hu
   | lst y=>
    unfold Rep at c;obtain⟨a,xs,rfl,_,i,_⟩:=c;cases f;obtain⟨g,_,p,_⟩:=I.list i;cases r;simp only[bH];exact yC x p.isList hu
  | int x=>
   unfold Rep at h;subst h;cases e with
   | Ę=>
    unfold Rep at c;subst c;have:=Ŝ (A:=A) (s:=s) r f rfl rfl;simpa[bH,jP]using this
   | bl y=>
    unfold Rep at c;subst c;have:=Ŝ (A:=A) (s:=s) r f rfl rfl;simpa[bH,jP]using this
   | int y=>
    unfold Rep at c;subst c;have:=Ŝ (A:=A) (s:=s) r f rfl rfl;simpa[bH,jP]using this
   | str y=>
    unfold Rep at c;subst c;have:=Ŝ (A:=A) (s:=s) r f rfl rfl;simpa[bH,jP]using this
   | tup y=>
    unfold Rep at c;obtain⟨a,xs,rfl,_,i,_⟩:=c;cases f;obtain⟨g,_,p,_⟩:=I.tuple i;obtain⟨t,rfl⟩:=r;simp only[bH];exact yD x t p hu
   | lst y=>
    unfold Rep at c;obtain⟨a,xs,rfl,_,i,_⟩:=c;cases f;obtain⟨g,_,p,_⟩:=I.list i;obtain⟨t,rfl⟩:=r;simp only[bH];exact yR x t p.isList hu
  | str x=>
   unfold Rep at h;subst h;cases e with
   | Ę=>
    unfold Rep at c;subst c;have:=Ŝ (A:=A) (s:=s) r f rfl rfl;simpa[bH,jP]using this
   | bl y=>
    unfold Rep at c;subst c;have:=Ŝ (A:=A) (s:=s) r f rfl rfl;simpa[bH,jP]using this
   | int y=>
    unfold Rep at c;subst c;have:=Ŝ (A:=A) (s:=s) r f rfl rfl;simpa[bH,jP]using this
   | str y=>
    unfold Rep at c;subst c;have:=Ŝ (A:=A) (s:=s) r f rfl rfl;simpa[bH,jP]using this
   | tup y=>
    unfold Rep at c;obtain⟨a,xs,rfl,_,i,_⟩:=c;cases f;obtain⟨g,_,p,_⟩:=I.tuple i;obtain⟨t,rfl⟩:=r;simp only[bH];exact yF x t p hu
   | lst y=>
    unfold Rep at c;obtain⟨a,xs,rfl,_,i,_⟩:=c;cases f;obtain⟨g,_,p,_⟩:=I.list i;obtain⟨t,rfl⟩:=r;simp only[bH];exact yS x t p.isList hu
  | tup l=>
   have O:=h;unfold Rep at h;obtain⟨a,xs,rfl,na,i,J⟩:=h;cases r;obtain⟨g,L,m,_⟩:=I.tuple i;have C:ay l<=k:=by simp only[Dt.dep]at hd;lia
   cases e with
   | Ę=>
    unfold Rep at c;subst c;cases f;simp only[bH];exact SeqAt.EqAt.tuple_none m hu
   | bl y=>
    unfold Rep at c;subst c;cases f;simp only[bH];exact Z_ y m hu
   | int y=>
    unfold Rep at c;subst c;obtain⟨t,rfl⟩:=f;simp only[bH];exact Z' y t m hu
   | str y=>
    unfold Rep at c;subst c;obtain⟨t,rfl⟩:=f;simp only[bH];exact SeqAt.EqAt.tuple_str y t m hu
   | tup q=>
    have n:=c;unfold Rep at c;obtain⟨b,T,rfl,Q,D,E⟩:=c;cases f;obtain⟨j,F,B,_⟩:=I.tuple D;by_cases o:a=b
    ·subst o;have:=Rep.inj I O n;rw[<-this,tM];exact q_ _
    ·refine Av o ?_;simp only[bH];have:=AJ (A:=A) (s:=s) m B hu (ko (A:=A.in1) (λ d e=>U A.in1 G d e) C J E L F);rw[n6 J E L F]at this;exact this
   | lst q=>
    have n:=c;unfold Rep at c;obtain⟨b,T,rfl,Q,D,E⟩:=c;cases f;obtain⟨j,F,B,_⟩:=I.list D;simp only[bH];exact SeqAt.EqAt.tuple_list m B.isList hu
  | lst l=>
   have O:=h;unfold Rep at h;obtain⟨a,xs,rfl,na,i,J⟩:=h;cases r;obtain⟨g,L,m,_⟩:=I.list i;have C:ay l<=k:=by simp only[Dt.dep]at hd;lia
   cases e with
   | Ę=>
    unfold Rep at c;subst c;cases f;simp only[bH];exact Z1 m.isList hu
   | bl y=>
    unfold Rep at c;subst c;cases f;simp only[bH];exact ZZ y m.isList hu
   | int y=>
    unfold Rep at c;subst c;obtain⟨t,rfl⟩:=f;simp only[bH];exact Z0 y t m.isList hu
   | str y=>
    unfold Rep at c;subst c;obtain⟨t,rfl⟩:=f;simp only[bH];exact Z2 y t m.isList hu
   | tup q=>
    have n:=c;unfold Rep at c;obtain⟨b,T,rfl,Q,D,E⟩:=c;cases f;obtain⟨j,F,B,_⟩:=I.tuple D;simp only[bH];exact Z3 m.isList B hu
   | lst q=>
    have n:=c;unfold Rep at c;obtain⟨b,T,rfl,Q,D,E⟩:=c;cases f;obtain⟨j,F,B,_⟩:=I.list D;by_cases o:a=b
    ·subst o;have:=Rep.inj I O n;rw[<-this,tM];exact q_ _
    ·refine Av o ?_;simp only[bH];have P:l.length=g.toArray.size:=by simpa using J.length.trans L.length
     have Y:q.length=j.toArray.size:=by simpa using E.length.trans F.length
     by_cases M:l.length=q.length
     ·have:=BU (A:=A) (s:=s) m.isList B.isList (by rw[<-P,<-Y];exact M) hu (ko (A:=A.in1) (λ d e=>U A.in1 G d e) C J E L F);rw[<-P,<-iQ M]at this;exact this
     ·rw[me M];refine ve m.isList B.isList ?_ hu;rw[<-P,<-Y];simpa using M
def SS (K:É)(a:Bool):R2:=λ x y H Q=>∃ (N N':Addr->Prop) (l q:Á Dt) (c:Bool),(Rep K N H (if c then .tup l else .lst l) x/\Rep K N' H (if c then .tup q else .lst q) y)/\ay l<=20/\Q (.bl (if a then !iu l q else iu l q)) H
def OA (hu:X.A.units+30 < cLine):jf X (ĥ .Eq) (SS X.K false):=by
 intro õ s σ H x y v u Q I G J h;obtain⟨N,N',l,q,c,⟨i,j⟩,hd,t⟩:=h;have g:X.A.units < cLine:=by lia
 have yH:X.A.in1.units+20 < cLine:=by have:X.A.in1.units=X.A.units+1:=rfl;lia
 cases c with
 | true=>
  simp only[eO]at i j;unfold Rep at i j;obtain⟨a,xs,rfl,_,E,n⟩:=i;obtain⟨b,L,rfl,_,C,m⟩:=j;cases G;cases J;obtain⟨k,o,z,_⟩:=I.tuple E;obtain⟨f,p,B,_⟩:=I.tuple C;have:=AJ (A:=X.A) (s:=s) z B g (ko (A:=X.A.in1) (λ d e=>tI I 20 X.A.in1 yH d e) hd n m o p);rw[n6 n m o p]at this;exact this X.prog X.w _ _ ⟨.bl _,H,I,rfl,t⟩
 | false=>
  simp only[Ŧ,eG]at i j;unfold Rep at i j;obtain⟨a,xs,rfl,_,E,n⟩:=i;obtain⟨b,L,rfl,_,C,m⟩:=j;cases G;cases J;obtain⟨k,o,z,_⟩:=I.list E;obtain⟨f,p,B,_⟩:=I.list C;have D:l.length=k.toArray.size:=by simpa using n.length.trans o.length
  have F:q.length=f.toArray.size:=by simpa using m.length.trans p.length
  by_cases r:l.length=q.length
  ·have:=BU (A:=X.A) (s:=s) z.isList B.isList (by rw[<-D,<-F];exact r) g (ko (A:=X.A.in1) (λ d e=>tI I 20 X.A.in1 yH d e) hd n m o p);rw[<-D,<-iQ r]at this;exact this X.prog X.w _ _ ⟨.bl _,H,I,rfl,t⟩
  ·simp only[me r]at t;exact ve z.isList B.isList (by rw[<-D,<-F];simpa using r) g X.prog X.w _ _ ⟨.bl _,H,I,rfl,t⟩
def OD (hu:X.A.units+30 < cLine):jf X (ĥ .NotEq) (SS X.K true):=by
 intro õ s σ H x y v u Q I G J h;obtain⟨N,N',l,q,c,⟨i,j⟩,hd,t⟩:=h;have g:X.A.units < cLine:=by lia
 have yH:X.A.in1.units+20 < cLine:=by have:X.A.in1.units=X.A.units+1:=rfl;lia
 cases c with
 | true=>
  simp only[eO]at i j;unfold Rep at i j;obtain⟨a,xs,rfl,_,E,n⟩:=i;obtain⟨b,L,rfl,_,C,m⟩:=j;cases G;cases J;obtain⟨k,o,z,_⟩:=I.tuple E;obtain⟨f,p,B,_⟩:=I.tuple C;have:=W_ (A:=X.A) (s:=s) z B g (ko (A:=X.A.in1) (λ d e=>tI I 20 X.A.in1 yH d e) hd n m o p);rw[n6 n m o p]at this;exact this X.prog X.w _ _ ⟨.bl _,H,I,rfl,t⟩
 | false=>
  simp only[Ŧ,eG]at i j;unfold Rep at i j;obtain⟨a,xs,rfl,_,E,n⟩:=i;obtain⟨b,L,rfl,_,C,m⟩:=j;cases G;cases J;obtain⟨k,o,z,_⟩:=I.list E;obtain⟨f,p,B,_⟩:=I.list C;have D:l.length=k.toArray.size:=by simpa using n.length.trans o.length
  have F:q.length=f.toArray.size:=by simpa using m.length.trans p.length
  by_cases r:l.length=q.length
  ·have:=W8 (A:=X.A) (s:=s) z.isList B.isList (by rw[<-D,<-F];exact r) g (ko (A:=X.A.in1) (λ d e=>tI I 20 X.A.in1 yH d e) hd n m o p);rw[<-D,<-iQ r]at this;exact this X.prog X.w _ _ ⟨.bl _,H,I,rfl,t⟩
  ·simp only[me r]at t;exact W9 z.isList B.isList (by rw[<-D,<-F];simpa using r) g X.prog X.w _ _ ⟨.bl _,H,I,rfl,t⟩
end
structure Wk (J:It)(xs:Á V)(ok:Hp->Prop):Prop where
 go:∀ i H,ok H->i < xs.length->J.go i H
 stop:∀ i H,ok H->i=xs.length->J.stop i H
 Jh:∀ i H x H',ok H->J.Jh i H x H'->H'=H/\xs[i]? = À x
theorem jr.any:∀ {l:Á (Str × Ê Nat)},jr X scope l->∀ {x:Str},(l.any λ p=>p.1 == x && p.2.isSome)=true->X.env.kindOf x=À .cell∨X.env.kindOf x=À .free
 | [],_,x,e=>by simp at e
 | (y,none) :: r,h,x,e=>jr.any (l:=r) h (by simpa using e)
 | (y,À k) :: r,h,x,e=>by
  rw[ř,jd]at e;rcases e with e|e
  ·have:y=x:=by simpa using e
   subst this;exact h.1.2.2
  ·exact jr.any (l:=r) h.2 e
def eB.of (e:scope.kind=.function)(c:∀ y∈scope.names,y.2=.cell->scope.names.lookup y.1=À .cell)(f:∀ y∈scope.names,y.2=.local->scope.names.lookup y.1=À .local)
  (d:∀ y∈scope.names,y.2=.free->(l.any λ p=>p.1 == y.1 && p.2.isSome)=true) (b:jr X scope l):eB X scope l:=⟨e,c,f,λ y g a=>b.any (d y g a),b⟩
def Ru (h:fC 64 i):fC 9000 i:=h.mono (by decide)
def BV (c:Bool)(h:Heap)(i l:Addr)(k:Nat):Prop:=if c=true then h.IsTupleIter i l k else h.IsListIter i l k
def rZ (c:Bool)(h:Heap)(l:Addr)(xs:Ă Value):Prop:=if c=true then h.IsTuple l xs else h.IsList l xs
def BV.at (x:BV c h i l k)(e:∀ o,h.get? i=À o->h'.get? i=À o):BV c h' i l k:=by
 cases c with
 | true=>obtain⟨o,a,r⟩:=(show h.IsTupleIter i l k from x);exact(show h'.IsTupleIter i l k from⟨o,e o a,r⟩)
 | false=>obtain⟨o,a,r⟩:=(show h.IsListIter i l k from x);exact(show h'.IsListIter i l k from⟨o,e o a,r⟩)
def rZ.at (x:rZ c h l xs)(e:∀ o,h.get? l=À o->h'.get? l=À o):rZ c h' l xs:=by
 cases c with
 | true=>obtain⟨o,a,r⟩:=(show h.IsTuple l xs from x);exact(show h'.IsTuple l xs from⟨o,e o a,r⟩)
 | false=>obtain⟨o,a,r⟩:=(show h.IsList l xs from x);exact(show h'.IsList l xs from⟨o,e o a,r⟩)
def BV.obj (x:BV c h i l k):∃ o,h.get? i=À o/\∀ v,o.data≠.cell v:=by
 cases c with
 | true=>obtain⟨o,a,_,d⟩:=(show h.IsTupleIter i l k from x);exact⟨o,a,λ v z=>by rw[d]at z;cases z⟩
 | false=>obtain⟨o,a,_,d⟩:=(show h.IsListIter i l k from x);exact⟨o,a,λ v z=>by rw[d]at z;cases z⟩
section
variable {prog:Ĉ}{w:Ĩ}{A:į}{E:Value->Ò->Prop}{s:Ò}
def uo (f:BV c s.heap i l k)(hl:rZ c s.heap l xs)(g:xs[k]? = À v)
  (e:∀ h',BV c h' i l (k+1)->dR i s.heap h'->Q v { s with heap:=h' }):Ú (à prog w) A (ľ (.ref i)) Q E s:=by
 cases c with
 | false=>exact wpAny_nextOf_list_item f hl g e
 | true=>
  have a:s.heap.IsTupleIter i l k:=f;obtain⟨o,d,m,b⟩:=id a;obtain⟨p,h,_,n,j⟩:=(show s.heap.IsTuple l xs from hl)
  unfold ľ;refine Â (ĵ (name:=Ü "__next__") a.typeIs dY (ħ dY a.typeIs Ao ?_ (yK _)));show Ú _ _ (IT (.ref i) 0 >>= _) _ _ s;refine Â (Ŀ d b (x:=.ref l) rfl ?_);show Ú _ _ (if (Ñ l == ì)=true then _ else _) _ _ s;rw[Ô (show ¬ ((Ñ l == ì)=true) from â)];show Ú _ _ (IT (.ref i) 1 >>= _) _ _ s;refine Â (Ŀ d b (x:=.int k 0) rfl ?_);show Ú _ _ (seqItems? (.ref l) >>= _) _ _ s;refine Â (cA h j ?_);simp only[bJ,g];refine Â (ij d b (by simp) (Ë ⟨v,rfl,Ë (e _ (show Heap.IsTupleIter _ i l (k+1) from ?_) (ŧ ..))⟩));refine⟨_,ø _ d (cV (Jl b _)),(Obj.cls_mapFields ..).trans m,?_⟩;rw[Jl b];simp[Ũ]
def CD (g:A.handled=none)(j:BV c s.heap i l k)(hl:rZ c s.heap l xs)(n:xs[k]? = none)
  (h:∀ h' e,Heap.ExtBut i s.heap h'->(∃ o,h'.get? e=À o/\o.cls=.type "StopIteration")->E (.ref e) { s with heap:=h' }):Ú (à prog w) A (ľ (.ref i)) Q E s:=by
 cases c with
 | false=>exact wpAny_nextOf_list_end g j hl n h
 | true=>
  have b:s.heap.IsTupleIter i l k:=j;obtain⟨u,d,r,f⟩:=id b;obtain⟨v,p,_,t,q⟩:=(show s.heap.IsTuple l xs from hl)
  unfold ľ;refine Â (ĵ (name:=Ü "__next__") b.typeIs dY (ħ dY b.typeIs Ao ?_ (yK _)));show Ú _ _ (IT (.ref i) 0 >>= _) _ _ s;refine Â (Ŀ d f (x:=.ref l) rfl ?_);show Ú _ _ (if (Ñ l == ì)=true then _ else _) _ _ s;rw[Ô (show ¬ ((Ñ l == ì)=true) from â)];show Ú _ _ (IT (.ref i) 1 >>= _) _ _ s;refine Â (Ŀ d f (x:=.int k 0) rfl ?_);show Ú _ _ (seqItems? (.ref l) >>= _) _ _ s;refine Â (cA p q ?_);simp only[bJ,n];refine Â (bD (Â (ij d f (by simp) ?_)));show Ú _ _ (newExc (.type "StopIteration") [] >>= _) _ _ _;refine Â ?_;simp only[newExc,newTuple];refine Â (ŗ ?_ (by size_fits));refine Â (m:=Yc _ _) (MU (a:=ì) (by first|rfl|(simp only[Yc];rfl)) ?_);refine ŗ ?_ (by size_fits);simp only[Yh];refine Â (E6 ?_);first|rw[show A.in1.handled=none from g]|rw[g]
  refine Â (Ë (MV ?_));exact h _ _ (((ŧ ..).extBut.push _).push _) ⟨_,Ö _ rfl,rfl⟩
structure ZK (c1 c2:Bool)(h:Heap)(z a b i j l m:Addr)(k:Nat):Prop where
 zz:Ap h z a b .none
 ins:m8 h a (.ref i) (.ref j)
 out:∃ x y,m8 h b x y
 i1:BV c1 h i l k
 i2:BV c2 h j m k
def LW (D:X' z a b i j l m)(Z:ZK H I s.heap z a b i j l m k)
  (N:rZ H s.heap l xs) (O:rZ I s.heap m ys) (hx:xs[k]? = À x) (hy:ys[k]? = À y)
  (hQ:∀ h',Ap h' z a b (Ũ s.heap.objs.size)->m8 h' a (.ref i) (.ref j)->m8 h' b x y->BV H h' i l (k+1)->BV I h' j m (k+1)->m8 h' s.heap.objs.size x y->
   (∀ d o,d≠z->d≠b->d≠i->d≠j->s.heap.get? d=À o->h'.get? d=À o)->Q (À (.ref s.heap.objs.size)) { s with heap:=h' }) :
  Ú (à prog w) A (fy (.ref z)) Q E s:=by
 obtain⟨g,h,⟨p1,P,M⟩,h1,h2⟩:=Z;have hT:s.TypeIs (.ref z) "zip":=⟨_,g,rfl⟩
 unfold fy;refine Â (b_ (ĵ (name:=Ü "__next__") hT oM (ħ oM hT Qa ?_ (PR _))));show Ú _ _ (IT (.ref z) 2 >>= _) _ _ _;refine Â (Ŀ g rfl (x:=.bool false) rfl ?_);show Ú _ _ (IT (.ref z) 3 >>= _) _ _ _;refine Â (Ŀ g rfl (x:=.ref a) rfl ?_);refine Â (cA h rfl ?_);show Ú _ _ (af (.ref z) >>= _) _ _ _;refine Â ?_;unfold af;refine Â (Ŀ g rfl (x:=.none) rfl (Ë ?_));simp only[eO];refine Â (bD ?_);refine Â (Ŀ g rfl (x:=.ref b) rfl ?_);refine Â (da g (by simp) λ q1 T t1=>?_);replace T:Ap q1 z a b .ellipsis:=T;refine Â ?_;simp only[L1,MO,je,yu];refine Â (Â (vf ?_));show Ú _ _ (ľ (.ref i) >>= _) _ _ _;refine Â (uo (s:={ s with heap:=q1 }) (h1.at λ o e=>t1.extBut _ _ D.i1z e) (N.at λ o e=>t1.extBut _ _ D.l1z e) hx λ q2 i2 t2=>Ë ?_);have Y:m8 q2 b p1 P:=t2.extBut _ _ D.TOi1 (t1.extBut _ _ D.TOz M);refine Â (cA Y rfl ?_);refine Â (rX Y λ q3 G t3=>?_);replace G:m8 q3 b x P:=G;refine Â (Az (Ë ?_));refine Â (Â (vf ?_));show Ú _ _ (ľ (.ref j) >>= _) _ _ _;refine Â (uo (s:={ s with heap:=q3 }) (h2.at λ o e=>t3.extBut _ _ D.TOi2.symm (t2.extBut _ _ D.i12.symm (t1.extBut _ _ D.i2z e)))
  (O.at λ o e=>t3.extBut _ _ D.l2TO (t2.extBut _ _ D.l2i1 (t1.extBut _ _ D.l2z e))) hy λ q4 j4 p=>Ë ?_)
 have b4:m8 q4 b x P:=p.extBut _ _ D.TOi2 G;refine Â (cA b4 rfl ?_);refine Â (rX b4 λ c u q=>?_);replace u:m8 c b x y:=u;refine Â (Az (Ë (Ë ?_)));refine Â (cA u rfl ?_);refine Â (rT ?_);have n:c.objs.size=s.heap.objs.size:=by rw[q.1,p.1,t3.1,t2.1,t1.1]
 have z5:Ap c z a b .ellipsis:=q.extBut _ _ D.TOz.symm (p.extBut _ _ D.i2z.symm (t3.extBut _ _ D.TOz.symm (t2.extBut _ _ D.i1z.symm T)));have k5:∀ d o,d≠z->d≠b->d≠i->d≠j->s.heap.get? d=À o->c.get? d=À o:=λ d o f v J L e=>
  q.extBut _ _ v (p.extBut _ _ L (t3.extBut _ _ v (t2.extBut _ _ J (t1.extBut _ _ f e))))
 have i5:BV H c i l (k+1):=i2.at λ o e=>q.extBut _ _ D.TOi1.symm (p.extBut _ _ D.i12 (t3.extBut _ _ D.TOi1.symm e));have j5:BV I c j m (k+1):=j4.at λ o e=>q.extBut _ _ D.TOi2.symm e;have t:z < c.objs.size:=Ó z5;show Ú _ _ (jW (.ref z) (.ref c.objs.size) >>= _) _ _ _;refine Â ?_;unfold jW;have z6:Ap (c.push { cls:=.type "tuple",data:=.seq #[x,y] }) z a b .ellipsis:=Ã _ z5;refine Â (da z6 (by simp) λ q7 U t7=>?_);replace U:Ap q7 z a b (Ũ c.objs.size):=U;refine da U (by simp) λ B C t8=>?_;replace C:Ap B z a b (Ũ c.objs.size):=C;have r:∀ d o,d≠z->c.get? d=À o->B.get? d=À o:=λ d o f e=>t8.extBut _ _ f (t7.extBut _ _ f (Ã _ e));have X:m8 B c.objs.size x y:=t8.extBut _ _ (ġ t) (t7.extBut _ _ (ġ t) (Ö _ rfl));rw[n]at C X;refine Ë ⟨_,rfl,Ë ?_⟩;show Q (À (.ref c.objs.size)) _;rw[n];exact hQ B C (r _ _ D.TIz (k5 _ _ D.TIz D.TITO D.TIi1 D.TIi2 h)) (r _ _ D.TOz u) (i5.at λ o e=>r _ o D.i1z e) (j5.at λ o e=>r _ o D.i2z e) X λ d o f v J L e=>r d o f (k5 d o f v J L e)
def PQ (U:A.handled=none)(D:X' z a b i j l m)(Z:ZK c1 c2 s.heap z a b i j l m k)
  (t:rZ c1 s.heap l xs) (G:rZ c2 s.heap m ys) (r:xs[k]? = none∨ys[k]? = none)
  (hQ:∀ h',(∀ d o,d≠z->d≠b->d≠i->d≠j->s.heap.get? d=À o->h'.get? d=À o)->Q none { s with heap:=h' }):Ú (à prog w) A (fy (.ref z)) Q E s:=by
 obtain⟨p,y,⟨p1,p2,B⟩,O,h2⟩:=Z;have P:s.TypeIs (.ref z) "zip":=⟨_,p,rfl⟩
 unfold fy;have g:∀ h' e,(∀ d o,d≠z->d≠b->d≠i->d≠j->s.heap.get? d=À o->h'.get? d=À o)->(∃ o,h'.get? e=À o/\o.cls=.type "StopIteration")->
   Ú (à prog w) A (do if <-isInstance (.ref e) (.type "StopIteration") then pure none else throw (.ref e):W7 (Ê Value)) Q E { s with heap:=h' }:=λ h' e hk ⟨o,ho,hc⟩=>
  Â (y6 (T:="StopIteration") (b:=true) ⟨o,ho,hc⟩ Dk (Ë (hQ h' hk)))
 refine Â (b_ (ĵ (name:=Ü "__next__") P oM (ħ oM P Qa ?_ (PR _))));show Ú _ _ (IT (.ref z) 2 >>= _) _ _ _;refine Â (Ŀ p rfl (x:=.bool false) rfl ?_);show Ú _ _ (IT (.ref z) 3 >>= _) _ _ _;refine Â (Ŀ p rfl (x:=.ref a) rfl ?_);refine Â (cA y rfl ?_);show Ú _ _ (af (.ref z) >>= _) _ _ _;refine Â ?_;unfold af;refine Â (Ŀ p rfl (x:=.none) rfl (Ë ?_));simp only[eO];refine Â (bD ?_);refine Â (Ŀ p rfl (x:=.ref b) rfl ?_);refine Â (da p (by simp) λ J u t1=>?_);replace u:Ap J z a b .ellipsis:=u;refine Â ?_;simp only[L1,MO,je,yu];refine Â (Â (vf ?_));show Ú _ _ (ľ (.ref i) >>= _) _ _ _;cases H:xs[k]? with
 | none=>
  refine Â (CD (s:={ s with heap:=J }) U (O.at λ o e=>t1.extBut _ _ D.i1z e) (t.at λ o e=>t1.extBut _ _ D.l1z e) H λ L e t2 C=>?_);obtain⟨I,c,f⟩:=C;have z2:Ap L z a b .ellipsis:=t2 _ _ D.i1z.symm u;have n:e≠z:=λ x=>by subst x;rw[z2]at c;cases c;simp at f
  refine da z2 (by simp) λ M _ t3=>?_;exact g M e (λ d o q _ v _ x=>t3.extBut _ _ q (t2 _ _ v (t1.extBut _ _ q x))) ⟨I,t3.extBut _ _ n c,f⟩
 | some x=>
  have hy:ys[k]? = none:=by
   rcases r with h|h
   ·rw[H]at h;cases h
   ·exact h
  refine Â (uo (s:={ s with heap:=J }) (O.at λ o e=>t1.extBut _ _ D.i1z e) (t.at λ o e=>t1.extBut _ _ D.l1z e) H λ L i2 t2=>Ë ?_);have N:m8 L b p1 p2:=t2.extBut _ _ D.TOi1 (t1.extBut _ _ D.TOz B);refine Â (cA N rfl ?_);refine Â (rX N λ M b3 t3=>?_);refine Â (Az (Ë ?_));refine Â (Â (vf ?_));show Ú _ _ (ľ (.ref j) >>= _) _ _ _;refine Â (CD (s:={ s with heap:=M }) U (h2.at λ o e=>t3.extBut _ _ D.TOi2.symm (t2.extBut _ _ D.i12.symm (t1.extBut _ _ D.i2z e)))
   (G.at λ o e=>t3.extBut _ _ D.l2TO (t2.extBut _ _ D.l2i1 (t1.extBut _ _ D.l2z e))) hy λ q4 e X C=>?_)
  obtain⟨I,c,f⟩:=C;have z4:Ap q4 z a b .ellipsis:=X _ _ D.i2z.symm (t3.extBut _ _ D.TOz.symm (t2.extBut _ _ D.i1z.symm u));have n:e≠z:=λ x=>by subst x;rw[z4]at c;cases c;simp at f
  refine da z4 (by simp) λ q5 _ Y=>?_;exact g q5 e (λ d o q e2 v e4 x=>Y.extBut _ _ q (X _ _ e4 (t3.extBut _ _ e2 (t2.extBut _ _ v (t1.extBut _ _ q x))))) ⟨I,Y.extBut _ _ n c,f⟩
def G0 (l m:Addr)(xs ys:Ă Value) :
  Meets (bT.«zip.__new__» ⟨[.type "zip",.ref l,.ref m],[]⟩) (λ _ R s=>s.heap.IsTuple l xs/\s.heap.IsTuple m ys/\
   R (.ok (.ret (.ref (s.heap.objs.size+4)))) { s with heap:=((((s.heap.push { cls:=.type "tuple_iterator",data:=.fields #[.ref l,.int 0 0] }).push { cls:=.type "tuple_iterator",data:=.fields #[.ref m,.int 0 0] }).push
    { cls:=.type "tuple",data:=.seq #[.ref s.heap.objs.size,.ref (s.heap.objs.size+1)] }).push { cls:=.type "tuple",data:=.seq #[.none,.none] }).push { cls:=.type "zip",data:=.fields #[.none,.bool false,.bool false,.ref (s.heap.objs.size+2),.ref (s.heap.objs.size+3)] } }):=
 .of_wp λ prog w A R s h=>by
  obtain⟨f,g,d,j,os⟩:=s;obtain⟨c,e,h⟩:=h;have i:=sub_zip;have a:Ts (Qj ⟨f,g,d,j,os⟩) l xs:=c;have b:Ts (Qj ⟨f.push { cls:=.type "tuple_iterator",data:=.fields #[.ref l,.int 0 0] },g,d,j,os⟩) m ys:=Wv e _;wp_walk using vq a,vq b
  simp only[ĸ]at h ⊢;exact⟨_,rfl,h⟩
def IE (n:rZ c s.heap l xs)(q:rZ c s.heap m ys)
  (k:∀ h',ZK c c h' (s.heap.objs.size+4) (s.heap.objs.size+2) (s.heap.objs.size+3) s.heap.objs.size (s.heap.objs.size+1) l m 0->(∀ d o,s.heap.get? d=À o->h'.get? d=À o)->Q (.ref (s.heap.objs.size+4)) { s with heap:=h' }) :
  Ú (à prog w) A (call (.type "zip") [.ref l,.ref m]) Q E s:=by
 cases c with
 | false=>exact call_zip_2 n q λ h' B r t u v _ z=>k h' ⟨B,r,⟨_,_,t⟩,u,v⟩ z
 | true=>
  refine callType_new F.called_zip (by decide) (F.typeCall_zip_2 _ _) (F.newCall_zip_2 _ _) (λ x=>F.args_object_init_3 x _ _) F.entry_zip_new (G0 l m xs ys) ⟨n,q,?_⟩;have p:∀ (h:Heap) (a b g i j:Obj) (d:Addr) (o:Obj),h.get? d=À o->(((((h.push a).push b).push g).push i).push j).get? d=À o:=λ h a b g i j d o e=>
   Ã _ (Ã _ (Ã _ (Ã _ (Ã _ e))))
  have y:∀ (h:Heap) (a b g i j:Obj),j.isFreed=false->(((((h.push a).push b).push g).push i).push j).get? (h.objs.size+4)=À j:=λ h a b g i j f=>by
   have e:h.objs.size+4=((((h.push a).push b).push g).push i).objs.size:=by simp only[ĸ]
   rw[e];exact Ö _ f
  have H:∀ (h:Heap) (a b g i j:Obj),i.isFreed=false->(((((h.push a).push b).push g).push i).push j).get? (h.objs.size+3)=À i:=λ h a b g i j f=>by
   have e:h.objs.size+3=(((h.push a).push b).push g).objs.size:=by simp only[ĸ]
   rw[e];exact Ã _ (Ö _ f)
  have G:∀ (h:Heap) (a b g i j:Obj),g.isFreed=false->(((((h.push a).push b).push g).push i).push j).get? (h.objs.size+2)=À g:=λ h a b g i j f=>by
   have e:h.objs.size+2=((h.push a).push b).objs.size:=by simp only[ĸ]
   rw[e];exact Ã _ (Ã _ (Ö _ f))
  have D:∀ (h:Heap) (a b g i j:Obj),b.isFreed=false->(((((h.push a).push b).push g).push i).push j).get? (h.objs.size+1)=À b:=λ h a b g i j f=>by
   have e:h.objs.size+1=(h.push a).objs.size:=by simp only[ĸ]
   rw[e];exact Ã _ (Ã _ (Ã _ (Ö _ f)))
  have C:∀ (h:Heap) (a b g i j:Obj),a.isFreed=false->(((((h.push a).push b).push g).push i).push j).get? h.objs.size=À a:=λ h a b g i j f=>
   Ã _ (Ã _ (Ã _ (Ã _ (Ö _ f))))
  exact⟨⟨_,y _ _ _ _ _ _ rfl,rfl⟩,k _ ⟨y _ _ _ _ _ _ rfl,G _ _ _ _ _ _ rfl,⟨_,_,H _ _ _ _ _ _ rfl⟩,⟨_,C _ _ _ _ _ _ rfl,rfl,rfl⟩,⟨_,D _ _ _ _ _ _ rfl,rfl,rfl⟩⟩ λ d o e=>p _ _ _ _ _ _ d o e⟩
end
def xb (c:Bool)(K:É)(H:Hp)(a:Addr)(xs:Á V):Prop:=if c=true then fM K H a xs else eS K H a xs
def Inv.LG (I:Inv X b d H s)(h:xb c X.K H a xs):∃ its:Á Value,Vals xs its/\rZ c s.heap a its.toArray:=by
 cases c with
 | true=>obtain⟨its,r,p,_⟩:=I.tuple (show fM X.K H a xs from h);exact⟨its,r,p⟩
 | false=>obtain⟨its,r,p,_⟩:=I.list (show eS X.K H a xs from h);exact⟨its,r,p.isList⟩
def Inv.yk (I:Inv X b d H s)(h:xb c X.K H a xs)(k:xb c X.K H a ys):xs=ys:=by
 cases c with
 | true=>exact I.qT (show fM X.K H a xs from h) k
 | false=>exact I.ud (show eS X.K H a xs from h) k
def Xg (c:Bool)(K:É)(a b:Addr):It:=
  ⟨λ i H=>∃ xs d x y,xb c K H a xs/\xb c K H b d/\xs[i]? = À x/\d[i]? = À y,
   λ i H v A=>∃ T x y,v=.ref T/\H T=none/\A=upd H T (.tup [x,y])/\∀ xs d,xb c K H a xs->xb c K H b d->xs[i]? = À x/\d[i]? = À y,
   λ i H=>∃ xs d,xb c K H a xs/\xb c K H b d/\(xs.length<=i∨d.length<=i)⟩
def Ib {K:É}{es:Á Expr}(c:Bool)(l m z a b i j:Addr)(D:X' z a b i j l m) :
  Turn P w K (.Tuple es kk LN) (Xg c K l m) [z,a,b,i,j] z (λ n h=>ZK c c h z a b i j l m n) where
 mem:=by simp
 obj:=λ n h st d hd=>by
  obtain⟨hz,Vg,⟨p1,p2,Vh⟩,h1,h2⟩:=st;simp only[Þ,ÿ,aw]at hd;rcases hd with rfl|rfl|rfl|rfl|rfl
  ·exact⟨_,hz,λ v e=>nomatch e⟩
  ·exact⟨_,Vg,λ v e=>nomatch e⟩
  ·exact⟨_,Vh,λ v e=>nomatch e⟩
  ·exact h1.obj
  ·exact h2.obj
 keep:=λ n h h' st k=>by
  obtain⟨hz,Vg,⟨p1,p2,Vh⟩,h1,h2⟩:=st;exact⟨k z (by simp) _ hz,k a (by simp) _ Vg,⟨p1,p2,k b (by simp) _ Vh⟩,h1.at λ o e=>k i (by simp) o e,h2.at λ o e=>k j (by simp) o e⟩
 item:=by
  intro X hP hw hK hc n õ s σ H E I hf st hg;subst hP hw hK;obtain⟨xs,ys,x,y,Ub,Uc,hx,hy⟩:=hg;obtain⟨Vr,r1,p1⟩:=I.LG Ub;obtain⟨Vs,r2,p2⟩:=I.LG Uc;obtain⟨u1,e1,VY⟩:=r1.get hx;obtain⟨u2,e2,ZD⟩:=r2.get hy;refine LW D st p1 p2 (by simpa using e1) (by simpa using e2) λ h' z1 a1 b1 i1 j1 T1 kp=>?_;refine⟨_,rfl,wpAny_letOwnedTupleGo_zip (s:={ s with heap:=h' }) z1 λ h2 z2 t2=>?_⟩;have Xv:H s.heap.objs.size=none:=I.ś.fresh (Ì _);have zT:s.heap.objs.size≠z:=ġ (Ó (show s.heap.get? z=À _ from st.zz));have sO:∀ d o,d∉[z,a,b,i,j]->s.heap.get? d=À o->h2.get? d=À o:=λ d o hd e=>by
   simp only[Þ,ÿ,aw,Yg]at hd;exact t2.extBut _ _ hd.1 (kp d o hd.1 hd.2.2.1 hd.2.2.2.1 hd.2.2.2.2 e)
  have T2:m8 h2 s.heap.objs.size u1 u2:=t2.extBut _ _ zT T1;have G4:∀ d o,H d=À o->d∉[z,a,b,i,j]:=λ d o e hd=>by rw[(hf d hd).1]at e;cases e
  have nT:∀ d o,H d=À o->d≠s.heap.objs.size:=λ d o e q=>by rw[q,Xv]at e;cases e
  have newOk:lP X.prog X.w (upd H s.heap.objs.size (.tup [x,y])) h2:=by
   intro d o e;by_cases hd:d=s.heap.objs.size
   ·subst hd;rw[ù]at e;cases e;exact⟨by show 2<=sizeLine;decide,[u1,u2],.cons VY (.cons ZD .nil),_,T2,rfl,0,rfl⟩
   ·rw[ä hd]at e;refine(I.ś d o e).nE (λ q v hq r=>sO q v ?_ r) (λ q r=>by rw[ä (nT q _ r)];exact r) (λ q PN r=>by rw[ä (nT q _ r)];exact r);rcases hq with rfl|hq
    ·exact G4 _ _ e
    ·exact G4 _ _ hq
  have I2:Inv X õ σ (upd H s.heap.objs.size (.tup [x,y])) { s with heap:=h2 }:=by
   refine I.step (g':=s.gens) (d':=s.drawn) (t':=s.toks) (ch:=[z,a,b,i,j]) (λ d hd=>⟨(hf d hd).2.2.2.1,(hf d hd).2.1,(hf d hd).2.2.2.2.1,(hf d hd).2.2.2.2.2⟩) (λ d o _ _ hd e _=>sO d o hd e) (λ d o _ _ hd e _=>⟨o.slots,sO d o hd e⟩)
    (λ d o hd e nn=>by rw[ä (ê (Ó e))];exact nn) (λ d o hd e=>⟨o,sO d o hd e⟩) (λ d PN e=>by rw[ä (nT d _ e)];exact e) (λ d o u e=>by rw[ä (nT d _ e)];exact e)
    (λ d ps e=>⟨#[],by rw[ä (nT d _ e),e];simp⟩) (λ mm hm=>?_) newOk I.bare
   obtain⟨o,Nh,ep,ho,r⟩:=hm;exact⟨o,Nh,ep,sO _ o (λ hd=>(hf _ hd).2.1 rfl) ho,r⟩
  refine⟨.ref s.heap.objs.size,_,I2,rfl,⟨_,x,y,rfl,Xv,rfl,λ PN Us k1 k2=>?_⟩,?_,λ d hd=>?_⟩
  ·rw[I.yk k1 Ub,I.yk k2 Uc];exact⟨hx,hy⟩
  ·exact⟨z2,t2.extBut _ _ D.TIz a1,⟨_,_,t2.extBut _ _ D.TOz b1⟩,i1.at λ o e=>t2.extBut _ _ D.i1z e,j1.at λ o e=>t2.extBut _ _ D.i2z e⟩
  ·have Vk:d≠s.heap.objs.size:=by
    rintro rfl;have lt:∀ {q:Addr}{o:Obj},s.heap.get? q=À o->s.heap.objs.size≠q:=λ e=>ġ (Ó e);simp only[Þ,ÿ,aw]at hd;obtain⟨o1,g1,_⟩:=st.i1.obj;obtain⟨o2,g2,_⟩:=st.i2.obj;obtain⟨y1,y2,g3⟩:=st.out;rcases hd with q|q|q|q|q
    ·exact lt st.zz q
    ·exact lt st.ins q
    ·exact lt g3 q
    ·exact lt g1 q
    ·exact lt g2 q
   rw[ä Vk];exact(hf d hd).1
 done:=by
  intro X hP hw hK hc n õ s σ H E I hf st hg;subst hP hw hK;obtain⟨xs,ys,Ub,Uc,hx⟩:=hg;obtain⟨Vr,r1,p1⟩:=I.LG Ub;obtain⟨Vs,r2,p2⟩:=I.LG Uc;have n1:=r1.length;have n2:=r2.length;refine PQ (I.ok.hd hc) D st p1 p2 (hx.elim (λ q=>.inl (by simp;lia)) λ q=>.inr (by simp;lia)) λ h' kp=>⟨rfl,?_⟩
  have sO:∀ d o,d∉[z,a,b,i,j]->s.heap.get? d=À o->h'.get? d=À o:=λ d o hd e=>by
   simp only[Þ,ÿ,aw,Yg]at hd;exact kp d o hd.1 hd.2.2.1 hd.2.2.2.1 hd.2.2.2.2 e
  have G4:∀ d o,H d=À o->d∉[z,a,b,i,j]:=λ d o e hd=>by rw[(hf d hd).1]at e;cases e
  have there:∀ d o,s.heap.get? d=À o->d∉[z,a,b,i,j]->∃ o',h'.get? d=À o':=λ d o e hd=>⟨o,sO d o hd e⟩
  refine I.step (g':=s.gens) (d':=s.drawn) (t':=s.toks) (ch:=[z,a,b,i,j]) (λ d hd=>⟨(hf d hd).2.2.2.1,(hf d hd).2.1,(hf d hd).2.2.2.2.1,(hf d hd).2.2.2.2.2⟩) (λ d o _ _ hd e _=>sO d o hd e) (λ d o _ _ hd e _=>⟨o.slots,sO d o hd e⟩)
   (λ d o hd e nn=>nn) (λ d o hd e=>⟨o,sO d o hd e⟩) (λ d PN e=>e) (λ d o u e=>e) (λ d ps e=>⟨#[],by rw[e];simp⟩) (λ mm hm=>?_) (λ d o e=>?_) I.bare
  ·obtain⟨o,Nh,ep,ho,r⟩:=hm;exact⟨o,Nh,ep,sO _ o (λ hd=>(hf _ hd).2.1 rfl) ho,r⟩
  ·refine(I.ś d o e).nE (λ q v hq r=>sO q v ?_ r) (λ _ r=>r) (λ _ _ r=>r);rcases hq with rfl|hq
   ·exact G4 _ _ e
   ·exact G4 _ _ hq
 self:=λ _ _ _ _ _ st h=>UZ st.zz h
def Vp (K:É)(t:TA):TI:=λ f H R=>t f H λ d A=>∃ (c:Bool) (a b:Addr),d=[.ref a,.ref b]/\(∃ xs,xb c K A a xs)/\(∃ e,xb c K A b e)/\R (Xg c K a b) A
def OV {X:Cx}{C:Á Expr}{w tb:TE}(G:Gl X "zip")(J:X.mg "zip"=none)(E:PE X e1 w)(F:PE X g tb)
  (t:Í [e1,g] X.env=(false,Ē e1 X.env) :: Í [g] X.env:=by rfl) (l:Í [g] X.env=[(false,Ē g X.env)]:=by rfl) (k:(Ĝ pos (Í [g] X.env)).any (·.1)=false:=by rfl) :
  PI X (.Tuple C U x) (.Call (.Name "zip" p) [e1,g] [] pos) (Vp X.K (uS w (uS tb yo))):=by
 intro j s T H R I h;refine Ŵ (oi I G J WB ?_);refine b9 (Ź ((aI E (aI F eh l) t) pos j s T H _ I h) λ us f Q=>iF Q λ vs B A P O=>?_) t k;obtain⟨c,a,b,rfl,⟨xs,L⟩,⟨ys,M⟩,q⟩:=O;obtain⟨Y,u2,rfl,o,r⟩:=vals2 P;cases o;cases r;obtain⟨u,_,m⟩:=A.LG L;obtain⟨v,_,n⟩:=A.LG M;have y:a < f.heap.objs.size:=by
  cases c with
  | true=>obtain⟨_,e,_⟩:=(show f.heap.IsTuple a _ from m);exact Ó e
  | false=>obtain⟨_,e,_⟩:=(show f.heap.IsList a _ from m);exact Ó e
 have z:b < f.heap.objs.size:=by
  cases c with
  | true=>obtain⟨_,e,_⟩:=(show f.heap.IsTuple b _ from n);exact Ó e
  | false=>obtain⟨_,e,_⟩:=(show f.heap.IsList b _ from n);exact Ó e
 refine IE m n λ D Z N=>?_;refine UZ (s:={ f with heap:=D }) Z.zz ?_;refine⟨_,_,_,_,B,rfl,A.kept (t':=f.toks) N,Ib c a b _ _ _ _ _ (zipApart_new y z),Z,λ d hd=>?_,q⟩;have i:f.heap.objs.size<=d:=by
  simp only[Þ,ÿ,aw]at hd;rcases hd with rfl|rfl|rfl|rfl|rfl
  ·exact lZ _ _
  ·exact lZ _ _
  ·exact lZ _ _
  ·exact Ì _
  ·exact lZ _ _
 exact A.zx i (A.ś.fresh i)
def Xe (K:É)(a:Addr):It:=
  ⟨λ i H=>∃ xs x,eS K H a xs/\xs[i]? = À x,
   λ i H v A=>∃ T x,v=.ref T/\H T=none/\A=upd H T (.tup [.int (i:Int),x])/\∀ xs,eS K H a xs->xs[i]? = À x,
   λ i H=>∃ xs,eS K H a xs/\xs.length<=i⟩
structure EK (h:Heap)(e it l:Addr)(k:Nat):Prop where
 ee:∃ old,IsEnum h e it k old
 ii:h.IsListIter it l k
def EA {K:É}{es:Á Expr}(l e it:Addr)(Xx:e≠it) :
  Turn P w K (.Tuple es kk LN) (Xe K l) [e,it] e (λ n h=>EK h e it l n) where
 mem:=by simp
 obj:=λ n h st d hd=>by
  obtain⟨⟨old,he⟩,o,ho,_,dd⟩:=st;simp only[Þ,ÿ,aw]at hd;rcases hd with rfl|rfl
  ·exact⟨_,he,λ v z=>nomatch z⟩
  ·exact⟨o,ho,λ v z=>by rw[dd]at z;cases z⟩
 keep:=λ n h h' st k=>by
  obtain⟨⟨old,he⟩,o,ho,r⟩:=st;exact⟨⟨old,k e (by simp) _ he⟩,o,k it (by simp) o ho,r⟩
 item:=by
  intro X hP hw hK hc n õ s σ H E I hf st hg;subst hP hw hK;obtain⟨xs,x,hq,hx⟩:=hg;obtain⟨its,r1,p1⟩:=I.LG (c:=false) hq;obtain⟨u1,e1,VY⟩:=r1.get hx;obtain⟨⟨old,he⟩,hit⟩:=st;have hT:H s.heap.objs.size=none:=I.ś.fresh (Ì _);have eT:s.heap.objs.size≠e:=ġ (Ó (show s.heap.get? e=À _ from he));have iT:s.heap.objs.size≠it:=by obtain⟨o,ho,_⟩:=hit;exact ġ (Ó ho)
  refine wpAny_pyNext_enum_item he hit p1 (by simpa using e1) Xx λ h' z1 i1 T1 _ kp=>?_;refine⟨_,rfl,wpAny_letOwnedTupleGo_enum (s:={ s with heap:=h',toks:=s.toks+1 }) z1 λ h2 z2 t2=>?_⟩;have sO:∀ d o,d∉[e,it]->s.heap.get? d=À o->h2.get? d=À o:=λ d o hd q=>by
   simp only[Þ,ÿ,aw,Yg]at hd;exact(t2.2 d hd.1).trans (kp d o hd.1 hd.2 q)
  have T2:h2.get? s.heap.objs.size=À { cls:=.type "tuple",data:=.seq #[.int (n:Int) s.toks,u1] }:=(t2.2 _ eT).trans T1;have G4:∀ d o,H d=À o->d∉[e,it]:=λ d o q hd=>by rw[(hf d hd).1]at q;cases q
  have nT:∀ d o,H d=À o->d≠s.heap.objs.size:=λ d o q z=>by rw[z,hT]at q;cases q
  have newOk:lP X.prog X.w (upd H s.heap.objs.size (.tup [.int (n:Int),x])) h2:=by
   intro d o q;by_cases hd:d=s.heap.objs.size
   ·subst hd;rw[ù]at q;cases q;exact⟨by show 2<=sizeLine;decide,[.int (n:Int) s.toks,u1],.cons ⟨_,rfl⟩ (.cons VY .nil),_,T2,rfl,0,rfl⟩
   ·rw[ä hd]at q;refine(I.ś d o q).nE (λ a v ha r=>sO a v ?_ r) (λ a r=>by rw[ä (nT a _ r)];exact r) (λ a PN r=>by rw[ä (nT a _ r)];exact r);rcases ha with rfl|ha
    ·exact G4 _ _ q
    ·exact G4 _ _ ha
  have I2:Inv X õ σ (upd H s.heap.objs.size (.tup [.int (n:Int),x])) { s with heap:=h2,toks:=s.toks+1 }:=by
   refine I.step (g':=s.gens) (d':=s.drawn) (t':=s.toks+1) (ch:=[e,it]) (λ d hd=>⟨(hf d hd).2.2.2.1,(hf d hd).2.1,(hf d hd).2.2.2.2.1,(hf d hd).2.2.2.2.2⟩) (λ d o _ _ hd q _=>sO d o hd q) (λ d o _ _ hd q _=>⟨o.slots,sO d o hd q⟩)
    (λ d o hd q nn=>by rw[ä (ê (Ó q))];exact nn) (λ d o hd q=>⟨o,sO d o hd q⟩) (λ d PN q=>by rw[ä (nT d _ q)];exact q) (λ d o u q=>by rw[ä (nT d _ q)];exact q)
    (λ d ps q=>⟨#[],by rw[ä (nT d _ q),q];simp⟩) (λ mm hm=>?_) newOk I.bare
   obtain⟨o,Nh,ep,ho,r⟩:=hm;exact⟨o,Nh,ep,sO _ o (λ hd=>(hf _ hd).2.1 rfl) ho,r⟩
  refine⟨.ref s.heap.objs.size,_,I2,rfl,⟨_,x,rfl,hT,rfl,λ PN k1=>?_⟩,?_,λ d hd=>?_⟩
  ·rw[I.yk (c:=false) k1 hq];exact hx
  ·refine⟨⟨_,by simpa using z2⟩,?_⟩;obtain⟨o,ho,r⟩:=i1;exact⟨o,(t2.2 it Xx.symm).trans ho,r⟩
  ·have Vk:d≠s.heap.objs.size:=by
    rintro rfl;simp only[Þ,ÿ,aw]at hd;rcases hd with q|q
    ·exact eT q
    ·exact iT q
   rw[ä Vk];exact(hf d hd).1
 done:=by
  intro X hP hw hK hc n õ s σ H E I hf st hg;subst hP hw hK;obtain⟨xs,hq,hx⟩:=hg;obtain⟨its,r1,p1⟩:=I.LG (c:=false) hq;have n1:=r1.length;obtain⟨⟨old,he⟩,hit⟩:=st;refine wpAny_pyNext_enum_end (I.ok.hd hc) he hit p1 (by simp;lia) λ h' kp=>⟨rfl,?_⟩
  have sO:∀ d o,d∉[e,it]->s.heap.get? d=À o->h'.get? d=À o:=λ d o hd q=>by
   simp only[Þ,ÿ,aw,Yg]at hd;exact kp d o hd.2 q
  have G4:∀ d o,H d=À o->d∉[e,it]:=λ d o q hd=>by rw[(hf d hd).1]at q;cases q
  refine I.step (g':=s.gens) (d':=s.drawn) (t':=s.toks) (ch:=[e,it]) (λ d hd=>⟨(hf d hd).2.2.2.1,(hf d hd).2.1,(hf d hd).2.2.2.2.1,(hf d hd).2.2.2.2.2⟩) (λ d o _ _ hd q _=>sO d o hd q) (λ d o _ _ hd q _=>⟨o.slots,sO d o hd q⟩)
   (λ d o hd q nn=>nn) (λ d o hd q=>⟨o,sO d o hd q⟩) (λ d PN q=>q) (λ d o u q=>q) (λ d ps q=>⟨#[],by rw[q];simp⟩) (λ mm hm=>?_) (λ d o q=>?_) I.bare
  ·obtain⟨o,Nh,ep,ho,r⟩:=hm;exact⟨o,Nh,ep,sO _ o (λ hd=>(hf _ hd).2.1 rfl) ho,r⟩
  ·refine(I.ś d o q).nE (λ a v ha r=>sO a v ?_ r) (λ _ r=>r) (λ _ _ r=>r);rcases ha with rfl|ha
   ·exact G4 _ _ q
   ·exact G4 _ _ ha
 self:=λ _ _ _ _ _ st h=>by
  obtain⟨⟨old,he⟩,_⟩:=st;exact TV he h
def RI (K:É)(t:TA):TI:=λ c H R=>t c H λ b A=>∃ a,b=[.ref a]/\(∃ xs,eS K A a xs)/\R (Xe K a) A
def K_ {X:Cx}{n:Á Expr}{l:TE}(t:Gl X "enumerate")(u:X.mg "enumerate"=none)(r:PE X e1 l)
  (k:Í [e1] X.env=(false,Ē e1 X.env) :: Í [] X.env:=by rfl) (g:(Ĝ pos (Í [] X.env)).any (·.1)=false:=by rfl) :
  PI X (.Tuple n J m) (.Call (.Name "enumerate" p) [e1] [] pos) (RI X.K (uS l yo)):=by
 intro e s G H R I h;refine Ŵ (oi I t u WA ?_);refine b9 (Ź ((aI r eh k) pos e s G H _ I h) λ us f F=>iF F λ L B A D C=>?_) k g;obtain⟨a,rfl,⟨xs,v⟩,q⟩:=C;obtain⟨E,rfl,j⟩:=D.one;cases (show E=Ñ a from j);obtain⟨w,_,y⟩:=A.LG (c:=false) v;refine call_enumerate_list y λ o z i _ x=>?_;refine TV (s:={ f with heap:=o }) z ?_;refine⟨_,_,_,_,B,rfl,A.kept (t':=f.toks) x,EA a (f.heap.objs.size+1) f.heap.objs.size (Nat.succ_ne_self _),⟨⟨_,z⟩,i⟩,λ d hd=>?_,q⟩;have b:f.heap.objs.size<=d:=by
  simp only[Þ,ÿ,aw]at hd;rcases hd with rfl|rfl
  ·exact lD _
  ·exact Ì _
 exact A.zx b (A.ś.fresh b)
def fM.const {K:É}{its:Ă Value}{xs:Á V}(h:K.lookup a=À ⟨.type "tuple",od,.seq its n,c⟩)(v:Vals xs its.toList)(hz:xs.length<=1000):fM K H a xs:=
 .inr ⟨_,its,n,h,rfl,rfl,by
  have b:xs.length=its.size:=v.length;rw[<-b];exact ė (ŝ hz),v⟩
open PySem.Builtin.Str in
def Pa:V->Á V->Hp->VK->Prop:=λ x b H Q=>∃ t a,x=.str t/\b=[.str a]/\(decide (t.length < a.length) || decide (strKind t < strKind a))=false/\(a.length == 0)=false/\(occurrences t a 0 t.length (t.length+1)).isEmpty=false/\t.length<=1000/\
 (partsBetween t (occurrences t a 0 t.length (t.length+1)) a.length).length<=1000/\∀ l,H l=none->Q (.ref l) (upd H l (.lst ((partsBetween t (occurrences t a 0 t.length (t.length+1)) a.length).map V.str)))
theorem nO:∀ (n:Nat)(l:Á Str),Vals (l.map V.str) (strsFrom n l)
 | _,[]=>.nil
 | n,x :: r=>.cons ⟨n,rfl⟩ (nO (n+1) r)
def GX:IZ X "str.split" Pa:=by
 intro d s n H x m v us Q I l rv h;obtain⟨t,a,rfl,rfl,f,i,g,j,c,q⟩:=h;obtain⟨e,rfl⟩:=l;obtain⟨u,rfl,k⟩:=rv.one;obtain⟨b,rfl⟩:=k;refine Ql F.slot_str_split ((BK (T:="str") (x:=.str t) I ⟨e,rfl⟩ rfl).1) F.entry_str_split (F.args_str_split_2 _ _) (meets_str_split_sep t a e b f i g (ė (ŝ j)) (ė (ŝ c))) ?_;refine⟨.ref s.heap.objs.size,_,I.NK (t':=_) (nO s.toks _) ?_,rfl,q _ I.fresh⟩;rw[Î];exact ė (ŝ c)
def He {X:Cx}{K:É}{c:Á Expr}{k:TE}{t:TA}{T id:String}{r:V->Á V->Hp->VK->Prop}(l:X.K=K)(s:vl T)(i:Slot T name id)(j:Qo (.builtin id)=pure (.type "method_descriptor")) (n:IZ X id r)(p:PE X o k)(m:PA X (e :: c) t)
  (d:aF o name X.env (Ē o X.env)=Ē o X.env:=by rfl)
  (h:((Ĝ a (Í (e :: c) X.env)).all (λ x=>!x.1) && (fI a (bj [] X.env)).all (λ x=>x.1.isSome)
   && decide ((e :: c).length+([]:Á h8).length+(if ([]:Á h8).isEmpty then 0 else 1) < 30))=true:=by rfl)
  (f:(g.endLine == a.line)=true:=by rfl) (q:Í (e :: c) X.env=(false,Ē e X.env) :: Í c X.env:=by rfl) (b:(Ĝ a (Í c X.env)).any (·.1)=false:=by rfl) :
  PE X (.Call (.Attribute o name g) (e :: c) [] a) (V7 K T r k t):=by subst l;exact SG s i j n p m d h f q b
def RO {n:Nat}{i:Int}(h0:0<=i)(a:i < n):yZ i n=À i.toNat:=by
 have:Cq n i=À i.toNat:=by
  unfold Cq;rw[Ï h0,Ï a]
 exact(xI this).1
end L2
namespace HT
open PySem PyProof.Rows
section
variable {prog:Ĉ}{w:Ĩ}{A:į}{E:Value->Ò->Prop}{s:Ò}
def nz {items:Ă Value}{lo c:Ê Int}{Q:Value->Ò->Prop}(a:IG s.heap t items)(g:s.heap.IsSliceOf i n o .none)(pl:rM n lo)(m:rM o c)
  (j:cQ items.size 0 lo=0) (k:cQ items.size items.size c=items.size) (h:Q (.ref t) s):Ú (à prog w) A (mJ (.ref t) (.ref i)) Q E s:=by
 obtain⟨os,f,e,l⟩:=id g;have d:s.TypeIs (.ref i) "slice":=⟨os,f,e⟩
 unfold mJ;try with_reducible refine Ň ?_
 first|refine Â (Ë ?_)|skip
 refine Â (TY a.typeIs (by decide) ?_);refine Â (ĵ (name:=Ü "__getitem__") a.typeIs Ő
  (ħ Ő a.typeIs PY ?_ (Qk _ _)))
 show Ú _ _ (pY (.ref t) >>= _) _ _ s;refine Â (tupleItemsOf_ a ?_);refine Â (xa d ?_);rw[Ï (by decide)];refine Â (ku g pl m ?_);have b:((((cQ items.size 0 lo:Nat):Int) == 0 && (1:Int) == 1 && (cQ items.size items.size c - cQ items.size 0 lo) == items.size)=true):=by
  rw[j,k];simp
 show Ú _ _ (if (((cQ items.size 0 lo:Nat):Int) == 0 && (1:Int) == 1 && (cQ items.size items.size c - cQ items.size 0 lo) == items.size)=true then _ else _) _ _ s;rw[Ï b];unfold UB;refine Â (Â (xa a.typeIs (Ë ?_)));rw[Ï (by decide)];first
  | exact Â (bD (Ë ⟨_,rfl,Ë h⟩))
  | exact Â (bD (Â (Ë (Ë ⟨_,rfl,Ë h⟩))))
end
end HT
namespace L2
open PySem PySem.Spec PyProof.Rows
def O5 (K:É):R2:=λ x y H Q=>∃ a b xs c,x=.ref a/\y=.ref b/\fM K H a xs/\fM K H b c/\c≠[]/\xs.length+c.length<=sizeLine/\
 (xs=[]->Q (.ref b) H)/\(xs≠[]->∀ p,H p=none->Q (.ref p) (upd H p (.tup (xs++c))))
def G':jf X (bB .Add) (O5 X.K):=by
 intro i s Y H x y v u Q I w A h;obtain⟨a,b,xs,U,rfl,rfl,p,q,E,G,N,O⟩:=h;by_cases j:xs=[]
 ·cases w;cases A;obtain⟨f,P,L,_⟩:=I.tuple p;obtain⟨g,Z,M,_⟩:=I.tuple q;obtain⟨⟨B,C,o,T⟩,t,r,n,hd⟩:=id L;obtain⟨⟨m,k,data2,l⟩,e,c,J,d⟩:=id M;simp only at r hd c d;subst r hd c d;have D:f=[]:=P.sP.mpr j;exact Jr ⟨_,t,rfl⟩ ⟨_,e,rfl⟩ yY E3 lJ kL (j_ _ _)
   (tuple_addW0 a b f.toArray g.toArray n J C k T l (by simp[D])) ⟨t,e,⟨.ref b,H,I,rfl,N j⟩⟩
 ·exact KU i s Y H (.ref a) (.ref b) v u Q I w A ⟨a,b,xs,U,rfl,rfl,p,q,j,G,λ z=>absurd z E,λ _=>O j⟩
def SW (K:É):V->Ê Int->Ê Int->Hp->VK->Prop:=λ x lo b H Q=>∃ a xs,x=.ref a/\fM K H a xs/\
 ((HT.cQ xs.length 0 lo=0/\HT.cQ xs.length xs.length b=xs.length)->Q (.ref a) H)/\(¬ (HT.cQ xs.length 0 lo=0/\HT.cQ xs.length xs.length b=xs.length)->∀ p,H p=none->Q (.ref p) (upd H p (.tup (tw xs lo b))))
def LA:Qu X (SW X.K):=by
 intro c s t H x v p q lo e o Q I l f j k h;obtain⟨a,xs,rfl,i,m,n⟩:=h;by_cases hw:HT.cQ xs.length 0 lo=0/\HT.cQ xs.length xs.length e=xs.length
 ·cases l;obtain⟨d,r,g,u⟩:=I.tuple i;have b:d.toArray.size=xs.length:=by rw[Ù];exact r.length.symm
  refine⟨"tuple",_,Ő.lookup,g.typeIs,?_⟩;exact HT.nz g f j k (by rw[b];exact hw.1) (by rw[b];exact hw.2) ⟨.ref a,H,I,rfl,m hw⟩
 ·exact Pk c s t H (.ref a) v p q lo e o Q I l f j k ⟨a,xs,rfl,i,hw,n hw⟩
open PySem.W
section
variable {prog:Ĉ}{w:Ĩ}{A:į}{E:Value->Ò->Prop}{s:Ò}{K:É}{x C:Addr}{ox:Obj}{od:Ê Obj}{name:Str}
structure M4 (K:É)(C:Addr):Prop where
 ga:ú K (.ref C) "__getattribute__"=À (À (.builtin "BaseException.__getattribute__"))
 gx:ú K (.ref C) "__getattr__"=À none
 sb:wM K (.ref C) (.type "BaseException")=À true
def JV:builtinKind "BaseException.__getattribute__"=À .slot:=by decide +kernel
def F5:splitId "BaseException.__getattribute__"=À ("BaseException","__getattribute__"):=by decide +kernel
def Ry:(yT "BaseException.__getattribute__" == yT "object.__getattribute__")=false:=by decide +kernel
def IB {a:Value}{Q:Unit->Ò->Prop}(X:K.In s.heap)(I:InstAt s.heap x ox C od)(g:M4 K C)(c:Q () s) :
  Ú (à prog w) A (UT "BaseException.__getattribute__" ⟨[.ref x,a],[]⟩) Q E s:=by
 have B:=I.type (M:=à prog w);have D:=looks_subIn (M:=à prog w) X g.sb;have b:=PySem.F.args_bexc_ga (.ref x) a;simp only[UT,JV,F5];refine Â ?_;unfold isInstance;refine Â (B.here (D.here ?_));rw[Ô (by decide)];unfold argsOk at b;split at b
 ·rename_i d e;rw[e];dsimp only;rw[b];exact Ë c
 ·rename_i e;rw[e];exact Ë c
def IA {f:UR}{b a:Value}{Q:Fin->Ò->Prop}(X:K.In s.heap)(I:InstAt s.heap x ox C od)(c:findObj K C od name=À (.bind b a))
  (e:Ú (à prog w) A (call b [a,.ref x,.ref C]) (λ v s'=>Q (.done (.ret v)) s') E s) :
  Ú (à prog w) A (bT.«object.__getattribute__» ⟨[.ref x,.str name f],[]⟩) Q E s:=by
 obtain⟨h,g,d,t,os⟩:=s;have B:=I.type (M:=à prog w);have D:=looks_find (M:=à prog w) X I c;unfold bT.«object.__getattribute__»;refine Â (Ë ?_);refine Â (Ë (Â (B.at (Â (D.at ?_)))));show Ú _ _ (cu [a] (call b [a,.ref x,.ref C]) >>= Yi) _ _ _;exact Â (Ň (Ź e λ v s' z=>Ë z))
def Tn {b:UR}{fill a:Bool}{Q:Value->Ò->Prop}(X:K.In s.heap)(I:InstAt s.heap x ox C od)(g:M4 K C)
  (e:Ú (à prog w) A.in1 (bT.«object.__getattribute__» ⟨[.ref x,.str name b],[]⟩) (λ f s'=>∃ v,f=.done (.ret v)/\handedIn v=true/\Q v s') (λ _ _=>False) s) :
  Ú (à prog w) A (getAttrBy (.ref x) (.str name b) fill a) Q E s:=by
 have B:=I.type (M:=à prog w);have D:=looks_findIn (M:=à prog w) X g.ga;have L2:=looks_findIn (M:=à prog w) X g.gx;have d:onTheHeap (Ñ C)=true:=rfl;unfold getAttrBy;refine Ň (Â (B.here (Â (D.here ?_))));dsimp only;rw[Ô (by rw[Ry,oK];decide)];unfold getAttrByItsOwn hookBefore;rw[Ï d];refine Â (L2.here (Â (b_ (Ň ?_))));unfold callGetattribute;rw[Ô (by rw[show onTheHeap (yT "BaseException.__getattribute__")=false from rfl,oK];decide)];unfold boundAndCalled;refine Â (MU (yy.ga.bind (.ref x)) ?_);refine vp (codeAny_call_builtin yy.ga.plain PySem.F.entry_bexc_ga (IB X I g ?_));refine ae e (λ f s' z=>?_) (λ _ _ z=>z.elim);obtain⟨v,rfl,c,q⟩:=z;exact handed_on c q
structure Jy (K:É)(C:Addr):Prop extends M4 K C where
 ca:ú K (.ref C) "__class__"=À (À (.builtin "object.__class__"))
 cn:fx K (.builtin "object.__class__") "__get__"=À (À (.builtin "getset_descriptor.__get__"))
 ct:ic K (.builtin "object.__class__")=À true
 cm:oU K C (.type "object")=À true
 cl:(cq K C).isSome=true
def zw {a c:Value}(b:(cq K C).isSome=true) (d:ú K (.ref C) name=À (À a)) (e:fx K a "__get__"=À (À c)) (f:ic K a=À true):findObj K C od name=À (.bind c a):=by
 obtain⟨g,b⟩:=bF.mp b;simp[findObj,b,d,e,f]
def IC {Q:Ê Value->Ò->Prop}(X:K.In s.heap)(I:InstAt s.heap x ox C od)(g:Jy K C)(a:Q (À (.ref C)) { s with toks:=s.toks+1 }) :
  Ú (à prog w) A (getAttr? (.ref x) "__class__") Q E s:=by
 unfold getAttr? getAttrBy?;refine Â (wpAny_mkText (Â (b_ ?_)));refine Tn (s:={ s with toks:=s.toks+1 }) X I g.toM4 (IA (s:={ s with toks:=s.toks+1 }) X I (zw g.cl g.ca g.cn g.ct) (vp (class_get (s:={ s with toks:=s.toks+1 }) (ox:=ox) (od:=od) X I g.cm ⟨_,rfl,rfl,?_⟩)));exact Ë a
def B4 (a:(cq K C).isSome=true):∃ b d1 c d,K.lookup C=À ⟨b,d1,.cls c,d⟩:=by
 unfold cq at a;split at a
 ·exact⟨_,_,_,_,by assumption⟩
 ·cases a
def zG (g:Jy K C):KitX K (.ref x) (.ref C) (λ h=>∃ ox od,InstAt h x ox C od) where
 ty:=λ _ _ _ ⟨_,_,I⟩=>I.type
 it:=λ _ _ X _ A' Q' E' s' k' q'=>by
  obtain⟨c1,d1,cd,sl,hl⟩:=B4 g.cl;show Ú _ A' (isType (.ref C)) Q' E' s';unfold isType loadHead;exact Â (Ym (k' C _ (X C _ hl)) (Ë q'))
 ne:=λ h tp dd its n sl X XC=>by
  obtain⟨c1,d1,cd,ZF,hl⟩:=B4 g.cl;cases e:(Ñ C == Ñ tp) with
  | false=>rfl
  | true=>
   have e2:C=tp:=Value.ref.inj (ji.mp e);rw[<-e2,X C _ hl]at XC;cases XC
 ca:=λ X ⟨_,_,I⟩ k=>IC X I g k
end
abbrev sJ:Á Value:=[.type "ValueError",.type "Exception",.type "BaseException",.type "object"]
def HS (b:Ă sC):Bool:=b.toList.all λ a=>match a.key with|.str _ _=>true|_=>false
def HU (h:HS b=true):StrKeys b:=by
 intro a c;have q:=ñ.mp h a (nQ.mpr c);cases k:a.key with
 | str n t=>exact⟨n,t,rfl⟩
 | _=>rw[k]at q;cases q
structure T6 (K:É)(N:Addr)(m:Str->Ê Value):Prop where
 ex:∃ nc nd es ep Zq,K.lookup N=À ⟨nc,nd,.dict es ep,Zq⟩/\HS es=true/\∀ x,nsFind es x=m x
def T6.ns {K:É}{h:Heap}(x:T6 K N m)(X:K.In h):h.Ns N m:=by
 obtain⟨d,nd,b,a,c,l,q,e⟩:=x.ex;exact⟨_,b,a,X _ _ l,rfl,HU q,e⟩
inductive o8 (K:É):Á Value->Prop
 | base:o8 K sJ
 | own {B:Addr}{c0:Value}{dd:Ê Addr}{cd:ClassData}{sl:Ă (Ê Value)}{m:Str->Ê Value}{tl:Á Value}(l:K.lookup B=À ⟨c0,dd,.cls cd,sl⟩) (n:T6 K cd.ns m) (i:m "__init__"=none) (t:o8 K tl):o8 K (.ref B :: tl)
def o8.OF {K:É}(t:o8 K l)(X:K.In h):OwnTail h sJ l:=by
 induction t with
 | base=>exact .base
 | own l n i _ a=>exact .own (X _ _ l) (n.ns X) i a
structure iI (K:É)(C:Addr)(nm:Str)(bm:Á Value)(AB:Ê Value):Prop where
 ex:∃ q N bs sn sub ab col dd k0 k1 k2 k3 k5 m,K.lookup C=À (excClassObj nm q C N bs bm true sn sub ab col dd k0 k1 k2 k3 k5 "ValueError.__new__")/\T6 K N m/\m "__init__"=AB
 tail:o8 K bm
section
variable {K:É}{C:Addr}{nm:Str}{bm:Á Value}{AB:Ê Value}
def iI.cls (x:iI K C nm bm AB):∃ a,cq K C=À a/\a.mro=.ref C :: bm/\a.hasDict=true/\a.name=nm:=by
 obtain⟨q,N,bs,j,sub,c,b,d,e,f,g,h,i,m,l,_⟩:=x.ex;exact⟨_,by unfold cq;rw[l],rfl,rfl,rfl⟩
def iI.Mi (x:iI K C nm bm AB):(cq K C).isSome=true:=by
 obtain⟨a,e,_⟩:=x.cls;rw[e];rfl
def iI.mro (x:iI K C nm bm AB)(T:Value):wM K (.ref C) T=À ((Ñ C :: bm).contains T):=by
 obtain⟨b,e,a,_⟩:=x.cls;show oU K C T=_;unfold oU;rw[e,bQ,a,Ô (by simp)]
def iI.Gg (x:iI K C nm bm AB)(T:Value)(a:(∃ n b i,∃ D,T=.ref D/\iI K D n b i)∨∃ t,T=.type t/\kitMeta t=true):Jt K (.ref C) T=À ((Ñ C :: bm).contains T):=by
 unfold Jt;by_cases q:(Ñ C == T)=true
 ·rw[Ï q,ji.mp q];simp
 ·rw[Ô q];rcases a with⟨n,b,i,D,rfl,y⟩|⟨t,rfl,y⟩
  ·have z:((cq K D).isSome && vo K (.ref D) == À (.type "type"))=true:=by
    rw[y.Mi];obtain⟨_,_,_,_,_,_,_,_,_,_,_,_,_,_,l,_⟩:=y.ex;have e:vo K (.ref D)=À (.type "type"):=by
     show Option.map (λ o=>o.cls) (K.lookup D)=_;rw[l];rfl
    rw[e];rfl
   unfold kitCls;dsimp only;rw[Ï z];exact x.mro _
  ·unfold kitCls;dsimp only;rw[Ï y];exact x.mro _
end
def Ur (C e:Addr):HO:=.ext λ h=>∃ a:Obj,h.get? e=À a/\a.cls=.ref C/\Yf a=true/\a.dict=none
def X7 (C e b:Addr):HO:=.ext λ h=>∃ a:Obj,h.get? e=À a/\a.cls=.ref C/\Yf a=true/\a.dict=À b
def Ŕ.there (x:Ŕ P w H h a o):∃ c,h.get? a=À c:=by
 cases o with
 | lst xs=>obtain⟨_,_,_,_,e⟩:=x;exact⟨_,e⟩
 | tup xs=>obtain⟨_,_,_,c,e,_⟩:=x;exact⟨_,e⟩
 | dK b=>obtain⟨_,_,_,_,o,_,_,e,_⟩:=x;exact⟨_,e⟩
 | dT b=>obtain⟨_,_,_,_,o,_,_,e,_⟩:=x;exact⟨_,e⟩
 | set S n=>obtain⟨o,_,_,_,e,_⟩:=x;exact⟨_,e⟩
 | ins C g d=>obtain⟨_,_,_,e,_⟩:=x;exact⟨_,e⟩
 | own y=>obtain⟨_,e⟩:=x;exact⟨_,e⟩
 | xd d=>obtain⟨_,⟨_,_,_,e,_⟩,_⟩:=x;exact⟨_,e⟩
 | SX lo i=>obtain⟨_,_,_,e⟩:=x;exact⟨_,e⟩
 | hV c u=>obtain⟨e,_⟩:=x;exact⟨_,e⟩
 | pU j=>exact⟨_,(show h.get? a=À _ from x)⟩
 | met f y=>exact⟨_,(show h.get? a=À _ from x)⟩
 | ext k=>obtain⟨_,⟨_,e⟩,_⟩:=x;exact⟨_,e⟩
section
variable {X:Cx}{õ:Á (Addr × Obj)}{σ:St}{H:Hp}{s:Ò}{h':Heap}{a:Addr}{o:HO}
def Inv.gone (I:Inv X õ σ H s)(b:s.heap.get? a=none):H a=none:=by
 cases q:H a with
 | none=>rfl
 | some u=>
  obtain⟨c,e⟩:=(I.ś a u q).there;rw[b]at e;cases e
def Inv.RV (I:Inv X õ σ H s)(k:∀ b u,s.heap.get? b=À u->h'.get? b=À u)(g:s.heap.get? a=none)(e:Ŕ X.prog X.w (upd H a o) h' a o):Inv X õ σ (upd H a o) { s with heap:=h',toks:=t' }:=by
 have h:=I.gone g;have i:∀ b u,s.heap.get? b=À u->b≠a:=λ b u q z=>by subst z;rw[g]at q;cases q
 have d:∀ b u,H b=À u->b≠a:=λ b u q=>Ń q h;refine I.un ⟨λ b u q _ _ _=>k b u q,λ b u q _ _ _=>⟨u.slots,k b u q⟩,λ b u q n _=>by rw[ä (i b u q)];exact n,λ b u q _=>⟨u,k b u q⟩,
  λ b xs q=>by rw[ä (d b _ q)];exact q,λ b u xs q=>by rw[ä (d b _ q)];exact q,λ b j q=>⟨#[],by rw[ä (d b _ q),q];simp⟩⟩ λ b u q=>?_
 by_cases f:b=a
 ·subst f;rw[ù]at q;cases q;exact e
 ·rw[ä f]at q;exact(I.ś b u q).nE (λ c v _ z=>k c v z) (λ c z=>by rw[ä (d c _ z)];exact z) λ c xs z=>by rw[ä (d c _ z)];exact z
end
def T5 (H:Hp)(e C:Addr):Prop:=H e=À (Ur C e)∨∃ a b,H e=À (X7 C e a)/\H a=À (.xd b)
def T5.inst (x:T5 H e C)(I:Inv X f k H s):∃ ox od,InstAt s.heap e ox C od:=by
 rcases x with x|⟨h,i,x,g⟩
 ·obtain⟨⟨ox,a,b,c,d⟩,_⟩:=I.ś _ _ x;exact⟨ox,none,a,b,c,by rw[d];trivial⟩
 ·obtain⟨⟨ox,a,b,c,d⟩,_⟩:=I.ś _ _ x;obtain⟨j,⟨od,_,_,q,_⟩,_⟩:=I.ś _ _ g;exact⟨ox,À od,a,b,c,by rw[d];exact q⟩
def VP (K:É):Á V->Hp->VK->Prop:=λ xs H Q=>∃ e C v c b,xs=[.ref e,v]/\(match v with|.ty n=>c=dz n|.ref a=>c=Ñ a|_=>False)/\T5 H e C/\Jy K C/\Jt K (.ref C) c=À b/\Q (.bl b) H
def Ft:bx X (.builtin "isinstance") (VP X.K):=by
 rintro h s t H xs us Q I rv ⟨e,C,v,c,b,rfl,d,k,g,l,q⟩;obtain⟨o,m,J⟩:=k.inst I;cases rv with
 | cons p rv=>
  cases rv with
  | cons i rv=>
   cases rv;cases (show _=Ñ e from p);rename_i f;have j:f=c:=by
    cases v with
    | ty n=>exact(show f=dz n from i).trans d.symm
    | ref a=>exact(show f=Ñ a from i).trans d.symm
    | _=>exact d.elim
   subst j;exact Ĳ (zG g) I.ll ⟨o,m,J⟩ l (λ z=>nomatch z) λ r=>⟨.bl b,H,I.tok _,rfl,q⟩
end L2
namespace L2
open PySem PySem.Spec PyProof.Rows
theorem yn:∀ {a:Á Str}{us:Á Value},Vals (a.map V.str) us->∃ l:Á (Str × UR),strValues l=us/\l.map (·.1)=a
 | [],_,.nil=>⟨[],rfl,rfl⟩
 | x :: r,_,.cons ⟨t,e⟩ h=>by
  obtain⟨l,b,c⟩:=yn h;subst e;exact⟨(x,t) :: l,by rw[<-b];rfl,by rw[Õ,c]⟩
def O_:Á V->Hp->VK->Prop:=λ xs H Q=>∃ (l:Addr)(b:Á Str),xs=[.ref l]/\H l=À (.lst (b.map V.str))/\b.length < 64/\∀ (a:Á Str) d,H d=none->a.Perm b->sortedS a=true->Q (.ref d) (upd H d (.lst (a.map V.str)))
theorem uQ:∀ {a:Á Str}{us:Á Value},Vals (a.map V.str) us->Tz us a
 | [],_,.nil=>.nil
 | x :: r,_,.cons ⟨t,e⟩ h=>by subst e;exact .cons x t (uQ h)
theorem hJ:∀ {a:Á Str}{us:Á Value},Tz us a->Vals (a.map V.str) us
 | _,_,.nil=>.nil
 | _,_,.cons x t h=>.cons ⟨t,rfl⟩ (hJ h)
def tq:bx X (.builtin "sorted") O_:=by
 rintro h s x H xs us Q I rv ⟨l,w,rfl,p,m,q⟩;obtain⟨u,rfl,v⟩:=rv.one;cases (show u=Ñ l from v);obtain⟨z,d,n,r,hl,e⟩:=I.Gw p;rw[Î]at hl;refine sorted_strs ⟨_,e,rfl,n,rfl⟩ (uQ r) (by lia) λ f c i g j=>?_;obtain⟨k,t⟩:=sortedAll_at s.heap d f;have hd:H (s.heap.objs.size+1)=none:=I.ś.fresh (lD _);refine⟨.ref (s.heap.objs.size+1),_,I.laid (a:=s.heap.objs.size+1) (o:=.lst (c.map V.str)) (t':=s.toks) (λ b o z=>sortedAll_old z) (lD _) ⟨?_,_,k,hJ i,?_⟩,rfl,q c _ hd g j⟩
 ·rw[Î,g.length_eq];exact ė (ŝ (by lia))
 ·rw[t]
end L2
namespace Mm
open PySem L2
inductive AV where
 | Ę|bl (b:Bool)|int (i:Int)|str (x:Str)|tup (xs:Á AV)|ref (i:Nat)|sq (xs:Á AV)
inductive AO where
 | lst (xs:Á AV)|dK (kvs:Á (Key × AV))|dT (kvs:Á (Á Key × AV))|ins (C:Nat) (fs:Á (Str × AV))|exc (C:Nat)|tab (i:Nat) (q:Str)|Ck (kvs:Á (Á Key × AV))
abbrev S:=Á AO
abbrev En:=Á (Ê AV)
structure AX where
 cls:Nat
 fs:Á (Str × AV)
inductive R (α:Type) where
 | ok (a:α) (s:S)|ex (c:AX) (s:S)|bad
def R.bind {α b:Type}:R α->(α->S->R b)->R b
 | .ok a s,f=>f a s
 | .ex c s,_=>.ex c s
 | .bad,_=>.bad
inductive RS where
 | nx (e:En) (s:S)|rt (v:AV) (s:S)|bk (e:En) (s:S)|ct (e:En) (s:S)|ex (c:AX) (s:S)|bad
@[simp] theorem ó (a:α) (s:S) (f:α->S->R b):(R.ok a s).bind f=f a s:=rfl
@[simp] theorem o_ (f:α->S->R a):(R.bad:R α).bind f=.bad:=rfl
structure Tx where
 K:É
 cl:Nat->Addr
def Jb (K:É)(H:Hp)(a:Addr)(xs:Á V):Prop:=
 (∃ o,H a=À (.hV o (.lst xs)))∨∃ (o:Obj) (b:Ă Value) (n:Nat),K.lookup a=À o/\o.cls=.type "list"/\o.dict=none/\o.data=.seq b n/\b.size<=sizeLine/\Vals xs b.toList
def Jb.Ew (h:Jb K H a xs):eS K H a xs:=by
 rcases h with h|h
 ·exact .inl (.inr h)
 ·exact .inr h
mutual
def VR (T:Tx)(ρ:Á Addr)(H:Hp):AV->V->Prop
 | .Ę,x=>x=.Ę
 | .bl b,x=>x=.bl b
 | .int i,x=>x=.int i
 | .str z,x=>x=.str z
 | .tup xs,x=>∃ a c,x=.ref a/\fM T.K H a c/\ĩ T ρ H xs c
 | .ref i,x=>∃ a,ρ[i]? = À a/\x=.ref a
 | .sq xs,x=>∃ a c,x=.ref a/\Jb T.K H a c/\ĩ T ρ H xs c
def ĩ (T:Tx)(ρ:Á Addr)(H:Hp):Á AV->Á V->Prop
 | [],a=>a=[]
 | v :: r,a=>∃ x b,a=x :: b/\VR T ρ H v x/\ĩ T ρ H r b
end
structure Gr (ρ:Á Addr)(H:Hp)(oJ:Á Addr)(H':Hp):Prop where
 pre:ρ <+: oJ
 ky:∀ b xs,H b=À (.tup xs)->H' b=À (.tup xs)
 iU:∀ b o u,H b=À (.hV o u)->H' b=À (.hV o u)
structure Up (ρ:Á Addr)(H:Hp)(oJ:Á Addr)(H':Hp):Prop extends Gr ρ H oJ H' where
 fr:∀ b o,H b=À o->b∉ρ->H' b=À o/\b∉oJ
 live:∀ b,H' b=none->H b=none
def Up.refl:Up ρ H ρ H:=⟨⟨aK,λ _ _ h=>h,λ _ _ _ h=>h⟩,λ _ _ h n=>⟨h,n⟩,λ _ h=>h⟩
theorem Up.trans (a:Up ρ H d A)(b:Up d A e B):Up ρ H e B:=
 ⟨⟨a.pre.trans b.pre,λ c xs h=>b.ky c xs (a.ky c xs h),λ c o u h=>b.iU c o u (a.iU c o u h)⟩,λ c o h n=>let ⟨f,g⟩:=a.fr c o h n;b.fr c o f g,λ c h=>a.live c (b.live c h)⟩
def Up.add (a:Up ρ H c A)(h:H p=none):Up ρ H (c++[p]) A:=
 ⟨⟨a.pre.trans (fo _ _),a.ky,a.iU⟩,λ b o e n=>⟨(a.fr b o e n).1,λ z=>by
  rcases cG.mp z with z|z
  ·exact(a.fr b o e n).2 z
  ·rw[ý.mp z,h]at e;cases e⟩,a.live⟩
def yb {α:Type}{ρ b:Á α}(h:ρ <+: b){i:Nat}{a:α}(e:ρ[i]? = À a):b[i]? = À a:=by
 obtain⟨t,rfl⟩:=h;rw[Û]
 ·exact e
 ·exact(Ç.mp e).1
def Gr.Pn (u:Gr ρ H b H')(h:fM K H a vs):fM K H' a vs:=by
 rcases h with(h|⟨o,h⟩)|h
 ·exact .inl (.inl (u.ky _ _ h))
 ·exact .inl (.inr ⟨o,u.iU _ _ _ h⟩)
 ·exact .inr h
def Gr.S1 (u:Gr ρ H b H')(h:Jb K H a vs):Jb K H' a vs:=by
 rcases h with⟨o,h⟩|h
 ·exact .inl ⟨o,u.iU _ _ _ h⟩
 ·exact .inr h
structure Gs (ρ:Á Addr)(H:Hp)(oJ:Á Addr)(H':Hp):Prop where
 pre:ρ <+: oJ
 Pn:∀ {K a vs},fM K H a vs->fM K H' a vs
 S1:∀ {K a vs},Jb K H a vs->Jb K H' a vs
def Gr.gs (u:Gr ρ H a H'):Gs ρ H a H':=⟨u.pre,u.Pn,u.S1⟩
section
variable {T:Tx}{ρ oJ:Á Addr}{H H':Hp}
mutual
theorem VR.gs (u:Gs ρ H oJ H'):∀ {v:AV}{x:V},VR T ρ H v x->VR T oJ H' v x
 | .Ę,_,h=>h
 | .bl _,_,h=>h
 | .int _,_,h=>h
 | .str _,_,h=>h
 | .ref _,_,h=>by
  unfold VR at *
  obtain⟨a,h,e⟩:=h;exact⟨a,yb u.pre h,e⟩
 | .tup _,_,h=>by
  unfold VR at *
  obtain⟨a,d,e,b,c⟩:=h;exact⟨a,d,e,u.Pn b,ĩ.gs u c⟩
 | .sq _,_,h=>by
  unfold VR at *
  obtain⟨a,d,e,b,c⟩:=h;exact⟨a,d,e,u.S1 b,ĩ.gs u c⟩
theorem ĩ.gs (u:Gs ρ H oJ H'):∀ {l:Á AV}{xs:Á V},ĩ T ρ H l xs->ĩ T oJ H' l xs
 | [],_,h=>h
 | _ :: _,_,h=>by
  unfold ĩ at *
  obtain⟨x,c,e,a,b⟩:=h;exact⟨x,c,e,VR.gs u a,ĩ.gs u b⟩
end
def VR.gr (u:Gr ρ H oJ H')(h:VR T ρ H v x):VR T oJ H' v x:=h.gs u.gs
def ĩ.gr (u:Gr ρ H oJ H')(h:ĩ T ρ H v x):ĩ T oJ H' v x:=h.gs u.gs
def VR.up (u:Up ρ H oJ H')(h:VR T ρ H v x):VR T oJ H' v x:=h.gr u.toGr
def ĩ.up (u:Up ρ H oJ H')(h:ĩ T ρ H v x):ĩ T oJ H' v x:=h.gr u.toGr
theorem ĩ.length:∀ {l:Á AV}{xs:Á V},ĩ T ρ H l xs->l.length=xs.length
 | [],_,h=>by unfold ĩ at h;subst h;rfl
 | _ :: _,_,h=>by
  unfold ĩ at h;obtain⟨x,b,rfl,_,a⟩:=h;simp[ĩ.length a]
def ĩ.nil:ĩ T ρ H [] []:=by unfold ĩ;rfl
def ĩ.cons {v:AV}{x:V}{l:Á AV}{xs:Á V}(h:VR T ρ H v x)(k:ĩ T ρ H l xs):ĩ T ρ H (v :: l) (x :: xs):=by
 unfold ĩ;exact⟨x,xs,rfl,h,k⟩
def ĩ.nil_inv (h:ĩ T ρ H [] xs):xs=[]:=by unfold ĩ at h;exact h
def ĩ.cons_inv (h:ĩ T ρ H (v :: l) xs):∃ x ys,xs=x :: ys/\VR T ρ H v x/\ĩ T ρ H l ys:=by unfold ĩ at h;exact h
theorem ĩ.get:∀ {l:Á AV}{xs:Á V}{i:Nat}{v:AV},ĩ T ρ H l xs->l[i]? = À v->∃ x,xs[i]? = À x/\VR T ρ H v x
 | [],_,_,_,_,e=>by simp at e
 | _ :: _,_,0,_,h,e=>by
  obtain⟨x,c,rfl,a,_⟩:=h.cons_inv;simp at e;subst e;exact⟨x,rfl,a⟩
 | _ :: _,_,i+1,_,h,e=>by
  obtain⟨x,c,rfl,_,b⟩:=h.cons_inv;exact ĩ.get (i:=i) b (by simpa using e)
theorem ĩ.append:∀ {l q:Á AV}{xs ys:Á V},ĩ T ρ H l xs->ĩ T ρ H q ys->ĩ T ρ H (l++q) (xs++ys)
 | [],_,_,_,h,k=>by cases h.nil_inv;exact k
 | _ :: _,_,_,_,h,k=>by
  obtain⟨x,c,rfl,a,b⟩:=h.cons_inv;exact .cons a (ĩ.append b k)
def ĩ.one (h:VR T ρ H v x):ĩ T ρ H [v] [x]:=.cons h .nil
theorem ĩ.set:∀ {l:Á AV}{xs:Á V}{v:AV}{x:V}(i:Nat),ĩ T ρ H l xs->VR T ρ H v x->ĩ T ρ H (l.set i v) (xs.set i x)
 | [],_,_,_,_,h,_=>by cases h.nil_inv;exact .nil
 | _ :: _,_,_,_,0,h,k=>by
  obtain⟨x,c,rfl,b,a⟩:=h.cons_inv;exact .cons k a
 | _ :: _,_,_,_,i+1,h,k=>by
  obtain⟨x,c,rfl,b,a⟩:=h.cons_inv;exact .cons b (ĩ.set i a k)
theorem ĩ.drop:∀ {l:Á AV}{xs:Á V}(n:Nat),ĩ T ρ H l xs->ĩ T ρ H (l.drop n) (xs.drop n)
 | _,_,0,h=>h
 | [],_,_+1,h=>by cases h.nil_inv;exact .nil
 | _ :: _,_,n+1,h=>by
  obtain⟨x,c,rfl,b,a⟩:=h.cons_inv;exact ĩ.drop n a
theorem ĩ.take:∀ {l:Á AV}{xs:Á V}(n:Nat),ĩ T ρ H l xs->ĩ T ρ H (l.take n) (xs.take n)
 | _,_,0,h=>.nil
 | [],_,_+1,h=>by cases h.nil_inv;exact .nil
 | _ :: _,_,n+1,h=>by
  obtain⟨x,c,rfl,a,b⟩:=h.cons_inv;exact .cons a (ĩ.take n b)
theorem ĩ.map {α:Type}{f:α->AV}{g:α->V}(h:∀ a,VR T ρ H (f a) (g a)):∀ (l:Á α),ĩ T ρ H (l.map f) (l.map g)
 | []=>.nil
 | a :: r=>.cons (h a) (ĩ.map h r)
theorem ĩ.zB:∀ {ns:Á Int}{xs:Á V},ĩ T ρ H (ns.map AV.int) xs->xs=ns.map V.int
 | [],_,h=>h.nil_inv
 | _ :: _,_,h=>by
  obtain⟨x,c,rfl,a,b⟩:=h.cons_inv;unfold VR at a;rw[a,ĩ.zB b];rfl
theorem ĩ.B1:∀ {ns:Á Bool}{xs:Á V},ĩ T ρ H (ns.map AV.bl) xs->xs=ns.map V.bl
 | [],_,h=>h.nil_inv
 | _ :: _,_,h=>by
  obtain⟨x,c,rfl,a,b⟩:=h.cons_inv;unfold VR at a;rw[a,ĩ.B1 b];rfl
theorem ĩ.uR:∀ {ns:Á Str}{xs:Á V},ĩ T ρ H (ns.map AV.str) xs->xs=ns.map V.str
 | [],_,h=>h.nil_inv
 | _ :: _,_,h=>by
  obtain⟨x,c,rfl,a,b⟩:=h.cons_inv;unfold VR at a;rw[a,ĩ.uR b];rfl
def cj:VR T ρ H (.int i) (.int i):=by unfold VR;rfl
def cO:VR T ρ H (.bl i) (.bl i):=by unfold VR;rfl
def hR:VR T ρ H (.str i) (.str i):=by unfold VR;rfl
def uW:VR T ρ H .Ę .Ę:=by unfold VR;rfl
def oF (h:ρ[i]? = À a):VR T ρ H (.ref i) (.ref a):=by unfold VR;exact⟨a,h,rfl⟩
def i_ (h:fM T.K H a vs)(k:ĩ T ρ H xs vs):VR T ρ H (.tup xs) (.ref a):=by unfold VR;exact⟨a,vs,rfl,h,k⟩
def VR.b0 (h:VR T ρ H (.tup xs) x):∃ a vs,x=.ref a/\fM T.K H a vs/\ĩ T ρ H xs vs:=by unfold VR at h;exact h
def VR.fi (h:VR T ρ H (.ref i) x):∃ a,ρ[i]? = À a/\x=.ref a:=by unfold VR at h;exact h
def VR.hI (h:VR T ρ H (.sq xs) x):∃ a vs,x=.ref a/\Jb T.K H a vs/\ĩ T ρ H xs vs:=by unfold VR at h;exact h
def VR.int_inv (h:VR T ρ H (.int i) x):x=.int i:=by unfold VR at h;exact h
def VR.iO (h:VR T ρ H (.bl i) x):x=.bl i:=by unfold VR at h;exact h
def VR.str_inv (h:VR T ρ H (.str i) x):x=.str i:=by unfold VR at h;exact h
def VR.iy (h:VR T ρ H .Ę x):x=.Ę:=by unfold VR at h;exact h
def vR (H:Hp)(q:Str)(ps:Ă Value):Prop:=US ps.toList/\∀ pos a,yW pos ps.toList=À a->∃ c b u d t,a=.ref c/\H c=À (.hV b u)/\b.data=.fields d/\d[1]? = À (.str q t)
def OR (T:Tx)(ρ:Á Addr)(H:Hp):AO->Addr->Prop
 | .lst xs,a=>∃ f,H a=À (.lst f)/\ĩ T ρ H xs f
 | .dK b,a=>∃ c:Á (Key × V),H a=À (.dK c)/\b.map (·.1)=c.map (·.1)/\ĩ T ρ H (b.map (·.2)) (c.map (·.2))
 | .dT b,a=>∃ c:Á (Á Key × V),H a=À (.dT c)/\b.map (·.1)=c.map (·.1)/\ĩ T ρ H (b.map (·.2)) (c.map (·.2))
 | .ins C d,a=>∃ (g:Addr) (c:Á (Str × V)),H a=À (.ins (T.cl C) g c)/\d.map (·.1)=c.map (·.1)/\ĩ T ρ H (d.map (·.2)) (c.map (·.2))
 | .exc C,a=>H a=À (Ur (T.cl C) a)
 | .tab i q,a=>a=T.cl i/\∃ e,H a=À (.pU e)/\vR H q e
 | .Ck b,a=>∃ (o:Obj) (j:Ă sC) (h:Nat) (c:Á (Á Key × V)),H a=À (.hV o (.dT c))/\o.data=.dict j h/\b.map (·.1)=c.map (·.1)/\ĩ T ρ H (b.map (·.2)) (c.map (·.2))
def OR.ex (h:OR T ρ H o a):∃ u,H a=À u:=by
 cases o with
 | lst xs=>obtain⟨_,h,_⟩:=h;exact⟨_,h⟩
 | dK xs=>obtain⟨_,h,_⟩:=h;exact⟨_,h⟩
 | dT xs=>obtain⟨_,h,_⟩:=h;exact⟨_,h⟩
 | ins C xs=>obtain⟨_,_,h,_⟩:=h;exact⟨_,h⟩
 | exc C=>exact⟨_,h⟩
 | tab i q=>obtain⟨_,_,h,_⟩:=h;exact⟨_,h⟩
 | Ck xs=>obtain⟨_,_,_,_,h,_⟩:=h;exact⟨_,h⟩
theorem OR.gs (u:Gs ρ H oJ H')(tb:∀ c b w vs,H c=À (.hV b w)->b.data=.fields vs->H' c=À (.hV b w)) (e:H' a=H a)(h:OR T ρ H o a):OR T oJ H' o a:=by
 cases o with
 | lst xs=>obtain⟨vs,h,k⟩:=h;exact⟨vs,e.trans h,k.gs u⟩
 | dK xs=>obtain⟨vs,h,q,k⟩:=h;exact⟨vs,e.trans h,q,k.gs u⟩
 | dT xs=>obtain⟨vs,h,q,k⟩:=h;exact⟨vs,e.trans h,q,k.gs u⟩
 | ins C xs=>obtain⟨j,vs,h,q,k⟩:=h;exact⟨j,vs,e.trans h,q,k.gs u⟩
 | exc C=>exact e.trans h
 | tab i q=>
  obtain⟨n,A,p,r,s⟩:=h;exact⟨n,A,e.trans p,r,λ pos g z=>let ⟨c,b,w,vs,t,v,x,f,y⟩:=s pos g z;⟨c,b,w,vs,t,v,tb _ _ _ _ x f,f,y⟩⟩
 | Ck xs=>obtain⟨o,m,l,vs,h,d,q,k⟩:=h;exact⟨o,m,l,vs,e.trans h,d,q,k.gs u⟩
def OR.up (u:Gr ρ H oJ H')(e:H' a=H a)(h:OR T ρ H o a):OR T oJ H' o a:=h.gs u.gs (λ _ _ _ _ k _=>u.iU _ _ _ k) e
end
structure SR (T:Tx)(ρ:Á Addr)(s:S)(H:Hp):Prop where
 nd:ρ.Nodup
 len:ρ.length=s.length
 obj:∀ (i:Nat) (o:AO),s[i]? = À o->∃ a,ρ[i]? = À a/\OR T ρ H o a
section
variable {T:Tx}{ρ oJ:Á Addr}{s:S}{H H':Hp}
def SR.in (h:SR T ρ s H)(g:a∈ρ):∃ u,H a=À u:=by
 obtain⟨i,f,e⟩:=İ g;have c:i < s.length:=by rw[<-h.len];exact f
 obtain⟨b,d,q⟩:=h.obj i s[i] (Å c);rw[Å f]at d;cases d;rw[e]at q;exact q.ex
def SR.out (h:SR T ρ s H)(b:H a=none):a∉ρ:=λ z=>by
 obtain⟨u,e⟩:=h.in z;rw[b]at e;cases e
def SR.du (h:SR T ρ s H)(a:H p=none):Up ρ H ρ (upd H p o):=
 ⟨⟨aK,λ b xs e=>by rw[ä (Ń e a)];exact e,λ b o u e=>by rw[ä (Ń e a)];exact e⟩,λ b u e n=>⟨by rw[ä (Ń e a)];exact e,n⟩,λ b e=>by
  by_cases c:b=p
  ·rw[c];exact a
  ·rw[ä c]at e;exact e⟩
theorem SR.up (h:SR T ρ s H)(u:Gr ρ H ρ H')(k:∀ a∈ρ,H' a=H a):SR T ρ s H':=
 ⟨h.nd,h.len,λ i o e=>by
  obtain⟨a,b,q⟩:=h.obj i o e;exact⟨a,b,q.up u (k a (ò b))⟩⟩
def SR.new (h:SR T ρ s H)(b:H p=none):SR T ρ s (upd H p o):=
 h.up (h.du b).toGr λ a c=>ä λ e=>h.out b (e ▸ c)
def SR.add (h:SR T ρ s H)(l:p∉ρ)(k:OR T (ρ++[p]) H o p):SR T (ρ++[p]) (s++[o]) H:=by
 refine⟨f9.mpr ⟨h.nd,by simp,λ a g b j e=>l (by rw[ý.mp j]at e;exact e ▸ g)⟩,by simp[h.len],λ i q e=>?_⟩;by_cases c:i < s.length
 ·rw[Û c]at e;obtain⟨a,f,m⟩:=h.obj i q e;refine⟨a,by rw[Û (by rw[h.len];exact c)];exact f,?_⟩;exact m.up ⟨fo _ _,λ _ _ e=>e,λ _ _ _ e=>e⟩ rfl
 ·rw[á (by lia)]at e;have d:i - s.length=0:=by
   have:=(Ç.mp e).1;simp at this;lia
  rw[d]at e;cases e;exact⟨p,by rw[á (by rw[h.len];lia),h.len,d];rfl,k⟩
end
structure Rl (α β:Type) where
 r:Hp->Á Addr->Hp->α->β->Prop
 U4:∀ {H H1:Hp}{ρ:Á Addr}{H':Hp}{v:α}{x:β},(∀ b,H1 b=none->H b=none)->r H1 ρ H' v x->r H ρ H' v x
abbrev jg:=AX->Á Addr->S->Hp->Prop
def Out {α b:Type}(T:Tx)(XE:jg)(d:Rl α b)(ρ:Á Addr)(H:Hp):R α->(b->Hp->Prop)->Prop
 | .ok v s,Q=>∀ a A x,Up ρ H a A->SR T a s A->d.r H a A v x->Q x A
 | .ex c s,_=>∀ a A,Up ρ H a A->SR T a s A->XE c a s A
 | .bad,_=>False
def Out.up (u:Up ρ H e H')(h:Out T XE f ρ H r Q):Out T XE f e H' r Q:=by
 cases r with
 | ok v s=>exact λ a A x d b g=>h a A x (u.trans d) b (f.U4 u.live g)
 | ex c s=>exact λ a A d b=>h a A (u.trans d) b
 | bad=>exact h
def Out.imp (h:Out T XE b ρ H r Q)(k:∀ x H',Q x H'->B x H'):Out T XE b ρ H r B:=by
 cases r with
 | ok v s=>exact λ a A x e d f=>k _ _ (h a A x e d f)
 | ex c s=>exact h
 | bad=>exact h
structure ER (T:Tx)(ρ:Á Addr)(H:Hp)(env:En)(σ:St):Prop where
 len:env.length=σ.length
 get:∀ (i:Nat) (v:AV),env[i]? = À (À v)->∃ x,σ[i]? = À (À x)/\VR T ρ H v x
theorem ER.up (u:Up ρ H a H')(h:ER T ρ H env c):ER T a H' env c:=
 ⟨h.len,λ i v e=>let ⟨x,b,q⟩:=h.get i v e;⟨x,b,q.up u⟩⟩
theorem ER.set (h:ER T ρ H env b)(k:VR T ρ H v x):ER T ρ H (env.set i (À v)) (b.set i (À x)):=by
 refine⟨by simp[h.len],λ j w e=>?_⟩;by_cases a:i=j
 ·subst a;have hl:i < env.length:=by
   have:=(Ç.mp e).1;simpa using this
  rw[Č hl]at e;cases e;exact⟨x,by rw[Č (by rw[<-h.len];exact hl)],k⟩
 ·rw[í a]at e ⊢;exact h.get j w e
def tG {α c:Type}(T:Tx)(XE:jg)(d:Rl α c)(m:En->S->R α):St->Hp->(c->Hp->Prop)->Prop:=λ e H Q=>
 ∃ b a s,SR T b s H/\ER T b H a e/\Out T XE d b H (m a s) Q
def step {g:Rl α o} 
  (j:SR T ρ s H) (f:ER T ρ H env h) (b:Out T XE d ρ H ((m env s).bind k) Q)
  (i:∀ v s1 a A x,m env s=.ok v s1->Up ρ H a A->SR T a s1 A->ER T a A env h->g.r H a A v x->Out T XE d a A (k v s1) Q->F x A):tG T XE g m h H F:=by
 refine⟨ρ,env,s,j,f,?_⟩;cases e:m env s with
 | ok v s1=>
  rw[e]at b;exact λ a A x u l n=>i v s1 a A x e u l (f.up u) n (Out.up u b)
 | ex c s1=>rw[e]at b;exact b
 | bad=>rw[e]at b;exact b
def Out.here (h:Out T XE a ρ H (.ok v s) Q) (b:SR T ρ s H)(r:a.r H ρ H v x):Q x H:=h ρ H x .refl b r
def Ņ {α b:Type}{T:Tx}{XE:jg}{a:Rl α b}{m:En->S->R α}{c:St}{H:Hp}{Q:b->Hp->Prop}{P:Prop}(h:tG T XE a m c H Q)(k:∀ ρ env s,SR T ρ s H->ER T ρ H env c->Out T XE a ρ H (m env s) Q->P):P:=by
 obtain⟨ρ,env,s,f,d,e⟩:=h;exact k ρ env s f d e
def PE.imp (h:PE X e t)(k:∀ b H Q,t' b H Q->t b H Q):PE X e t':=λ a s b H Q I c=>h a s b H Q I (k b H Q c)
def PT.imp (h:PT X e t)(k:∀ b H Q,t' b H Q->t b H Q):PT X e t':=λ a s b H Q I c=>h a s b H Q I (k b H Q c)
def PW.imp (h:PW X e t)(k:∀ b H Q,t' b H Q->t b H Q):PW X e t':=λ d a s b H Q I c=>h d a s b H Q I (k b H Q c)
def PA.imp (h:PA X e t)(k:∀ b H Q,t' b H Q->t b H Q):PA X e t':=λ pos a s b H Q I c=>h pos a s b H Q I (k b H Q c)
def PS.imp (h:PS X e t)(k:∀ D b H,t' D b H->t D b H):PS X e t':=λ a s b H Q I c=>h a s b H Q I (k Q b H c)
def l5.imp (h:l5 X e t)(k:∀ D b H,t' D b H->t D b H):l5 X e t':=λ a s b H Q I c=>h a s b H Q I (k Q b H c)
def PI.imp (h:PI X d e t)(k:∀ b H R,t' b H R->t b H R):PI X d e t':=λ a s b H Q I c=>h a s b H Q I (k b H Q c)
def PG.imp (h:PG X e t)(k:∀ v b H Q,t' v b H Q->t v b H Q):PG X e t':=λ a s b H v u Q I r c=>h a s b H v u Q I r (k v b H Q c)
def BX.imp (h:BX X e t)(k:∀ v b H Q,t' v b H Q->t v b H Q):BX X e t':=λ a s b H v u Q I r c=>h a s b H v u Q I r (k v b H Q c)
abbrev Ev:=En->S->R AV
abbrev fu:=En->S->R (Á AV)
abbrev Eb:=En->S->R Bool
structure IY (i:Int):Prop where
 f:fC 60000000 i
structure MX (i:Int):Prop where
 f:fC 9000 i
instance {i:Int}:ő (IY i):=j3 _
instance {i:Int}:ő (MX i):=j3 _
def rV (T:Tx):Rl AV V:=⟨λ _ a H v x=>VR T a H v x,λ _ h=>h⟩
def rA (T:Tx):Rl (Á AV) (Á V):=⟨λ _ a H v x=>ĩ T a H v x,λ _ h=>h⟩
def rB:Rl Bool Bool:=⟨λ _ _ _ b c=>b=c,λ _ h=>h⟩
def rL (T:Tx):Rl (Á AV) V:=⟨λ vt c H xs x=>∃ a b,x=.ref a/\vt a=none/\a∉c/\H a=À (.lst b)/\ĩ T c H xs b,λ k ⟨a,b,e,h,r⟩=>⟨a,b,e,k a h,r⟩⟩
def rQ (T:Tx):Rl (Á AV) V:=⟨λ _ c H xs x=>∃ a b,x=.ref a/\(eS T.K H a b∨fM T.K H a b)/\ĩ T c H xs b,λ _ h=>h⟩
def Out.Ľ (h:Out T XE (rV T) ρ H (.ok v s) Q) (a:SR T ρ s H)(r:VR T ρ H v x):Q x H:=h ρ H x .refl a r
abbrev tE (T:Tx)(XE:jg)(m:Ev):TE:=tG T XE (rV T) m
abbrev tL (T:Tx)(XE:jg)(m:fu):TE:=tG T XE (rL T) m
abbrev tQ (T:Tx)(XE:jg)(m:fu):TE:=tG T XE (rQ T) m
abbrev tP (T:Tx)(XE:jg)(m:fu):TA:=tG T XE (rA T) m
abbrev jV (T:Tx)(XE:jg)(m:Eb):TT:=tG T XE rB m
section
variable {T:Tx}{XE:jg}{X:Cx}{pos:kK}
def mv (i:Nat):Ev:=λ a s=>match a[i]? with
 | some (À v)=>.ok v s
 | _=>.bad
def Vx (h:PE X e (PB i)):PE X e (tE T XE (mv i)):=PE.imp h λ l H Q j=>Ņ j λ k c s g f a=>by
 unfold mv at a;split at a
 ·rename_i v d;obtain⟨x,b,q⟩:=f.get i v d;exact⟨x,b,a.Ľ g q⟩
 ·exact a.elim
def mc (v:AV):Ev:=λ _ s=>.ok v s
def NX:PE X (.Constant (.int i) j pos) (tE T XE (mc (.int i))):=PE.imp OM λ g H Q d=>Ņ d λ f a s c e b=>b.Ľ c cj
def R7:PE X (.Constant (.bool i) j pos) (tE T XE (mc (.bl i))):=PE.imp SF λ g H Q d=>Ņ d λ f a s c e b=>b.Ľ c cO
def N3:PE X (.Constant .none j pos) (tE T XE (mc .Ę)):=PE.imp OO λ g H Q d=>Ņ d λ f a s c e b=>b.Ľ c uW
def N5:PE X (.Constant (.str i) j pos) (tE T XE (mc (.str i))):=PE.imp OQ λ g H Q d=>Ņ d λ f a s c e b=>b.Ľ c hR
def Ki (c:Gl X x)(d:X.mg x=À u)(r:RelV v u)(g:∀ ρ H,VR T ρ H a v)(hd:(x == ("__debug__":Str))=false:=by decide):PE X (.Name x pos) (tE T XE (mc a)):=
 PE.imp (ya c d r hd) λ j H Q h=>Ņ h λ ρ b s f i e=>e.Ľ f (g ρ H)
def vI (T:Tx)(XE:jg)(b:AV->AV->S->R AV):R2:=λ x y H Q=>∃ a v w s,SR T a s H/\VR T a H v x/\VR T a H w y/\Out T XE (rV T) a H (b v w s) Q
def VM (T:Tx)(XE:jg)(b:AV->S->R AV):V->Hp->VK->Prop:=λ x H Q=>∃ a v s,SR T a s H/\VR T a H v x/\Out T XE (rV T) a H (b v s) Q
def Ø (d:AV->AV->S->R AV)(a b:Ev):Ev:=λ c s=>(a c s).bind λ v e=>(b c e).bind λ w f=>d v w f
def aH (c:AV->S->R AV)(a:Ev):Ev:=λ b s=>(a b s).bind λ v d=>c v d
def t2 (h:tE T XE (Ø q a b) z H Q):Tc (vI T XE q) (tE T XE a) (tE T XE b) z H Q:=by
 obtain⟨E,l,s,p,n,o⟩:=h;exact step p n o λ v C u A x _ D f c i d=>step f c d λ w r k B y _ t g m j e=>⟨k,v,w,r,g,VR.up t i,j,e⟩
def t1 (h:tE T XE (aH l a) n H Q):X4 (VM T XE l) (tE T XE a) n H Q:=by
 obtain⟨p,f,s,k,i,j⟩:=h;exact step k i j λ v m e A x _ o c g d b=>⟨e,v,m,c,d,b⟩
def ug (c:jf X (bB o) (vI T XE i)) (d:PE X a (tE T XE f)) (e:PE X b (tE T XE g)):PE X (.BinOp a o b pos) (tE T XE (Ø i f g)):=
 PE.imp (SI c d e) λ _ _ _ h=>t2 h
def Sd (b:Qx X (TM o) (VM T XE e)) (c:PE X a (tE T XE d)):PE X (.UnaryOp o a pos) (tE T XE (aH e d)):=
 PE.imp (SK b c) λ _ _ _ h=>t1 h
def lu (c:jf X (ĥ o) (vI T XE j)) (d:PE X a (tE T XE g)) (e:PE X b (tE T XE i)) (f:ž o b=false:=by rfl):PE X (.Compare a [o] [b] pos) (tE T XE (Ø j g i)):=
 PE.imp (K0 c d e f) λ _ _ _ h=>t2 h
def R' (c:P2 X (vI T XE j)) (d:PE X a (tE T XE g)) (e:PE X b (tE T XE i)) (f:BY b:=by exact λ _ _=>rfl):PE X (.Subscript a b pos) (tE T XE (Ø j g i)):=
 PE.imp (SH c d e f) λ _ _ _ h=>t2 h
def Out.alloc (h:Out T XE (rV T) ρ H (.ok (.ref s.length) (s++[o])) Q) (a:SR T ρ s H)(b:H p=none)(k:OR T (ρ++[p]) (upd H p u) o p):Q (.ref p) (upd H p u):=by
 have c:SR T (ρ++[p]) (s++[o]) (upd H p u):=(a.new b).add (a.out b) k;exact h _ _ _ ((a.du b).add b) c (oF (T:=T) (H:=upd H p u) (by rw[á (by rw[a.len];exact Ì _),a.len,sY];rfl))
theorem Out.tup {ρ:Á Addr}{H:Hp}{s:S}{xs:Á AV}{vs:Á V}{p:Addr}{Q:VK}(h:Out T XE (rV T) ρ H (.ok (.tup xs) s) Q) (b:SR T ρ s H)(a:H p=none)(k:ĩ T ρ H xs vs):Q (.ref p) (upd H p (.tup vs)):=
 h _ _ _ (b.du a) (b.new a) (i_ (fM.of ù) (ĩ.up (b.du a) k))
theorem Out.lst {ρ:Á Addr}{H:Hp}{s:S}{xs:Á AV}{vs:Á V}{p:Addr}{Q:VK}(h:Out T XE (rL T) ρ H (.ok xs s) Q) (b:SR T ρ s H)(a:H p=none)(k:ĩ T ρ H xs vs):Q (.ref p) (upd H p (.lst vs)):=
 h _ _ _ (b.du a) (b.new a) ⟨p,vs,rfl,a,b.out a,ù,ĩ.up (b.du a) k⟩
def SR.dP (j:SR T ρ s H)(e:s[i]? = À (.lst xs)) (h:VR T ρ H (.ref i) x):∃ a vs,x=.ref a/\ρ[i]? = À a/\H a=À (.lst vs)/\ĩ T ρ H xs vs:=by
 obtain⟨a,c,vs,f,g⟩:=j.obj i _ e;obtain⟨b,d,rfl⟩:=h.fi;rw[c]at d;cases d;exact⟨a,vs,rfl,c,f,g⟩
def SR.zj (j:SR T ρ s H)(e:s[i]? = À (.dK xs)) (h:VR T ρ H (.ref i) x):∃ (a:Addr) (vs:Á (Key × V)),x=.ref a/\ρ[i]? = À a/\H a=À (.dK vs)/\xs.map (·.1)=vs.map (·.1)/\ĩ T ρ H (xs.map (·.2)) (vs.map (·.2)):=by
 obtain⟨a,c,vs,f,g⟩:=j.obj i _ e;obtain⟨b,d,rfl⟩:=h.fi;rw[c]at d;cases d;exact⟨a,vs,rfl,c,f,g⟩
def SR.rH {ρ:Á Addr}{s:S}(j:SR T ρ s H){i:Nat}(e:ρ[i]? = À a){u c:HO}(h0:H a=À c)(f:∀ xs,c≠.tup xs)(g:∀ o v,c≠.hV o v):Up ρ H ρ (upd H a u):=by
 refine⟨⟨aK,λ b xs h=>?_,λ b o v h=>?_⟩,λ b o h n=>⟨?_,n⟩,λ b h=>?_⟩
 ·rw[ä (ui h h0 λ z=>f xs z.symm)];exact h
 ·rw[ä (ui h h0 λ z=>g o v z.symm)];exact h
 ·rw[ä λ z=>n (by rw[z];exact ò e)];exact h
 ·by_cases d:b=a
  ·subst d;rw[ù]at h;cases h
  ·rw[ä d]at h;exact h
theorem SR.set (f:SR T ρ s H)(e:ρ[i]? = À a)(n:Up ρ H ρ (upd H a u)) (k:OR T ρ (upd H a u) o a):SR T ρ (s.set i o) (upd H a u):=by
 refine⟨f.nd,by simp[f.len],λ j q d=>?_⟩;by_cases c:i=j
 ·subst c;have hl:i < s.length:=by have:=(Ç.mp d).1;simpa using this
  rw[Č hl]at d;cases d;exact⟨a,e,k⟩
 ·rw[í c]at d;obtain⟨b,g,m⟩:=f.obj j q d;refine⟨b,g,m.up n.toGr (ä λ z=>c ?_)⟩;subst z;have h:=(Ç.mp e)
  have l:=(Ç.mp g)
  exact(aX f.nd).mp (h.2.trans l.2.symm)
def Out.Œ {α d:Type}{b:Rl α d}{ρ:Á Addr}{c:Prop}{_:ő c}{r:R α}{Q:d->Hp->Prop}(h:Out T XE b ρ H (if c then r else .bad) Q):c/\Out T XE b ρ H r Q:=by
 by_cases a:c
 ·rw[Ï a]at h;exact⟨a,h⟩
 ·rw[Ô a]at h;exact h.elim
def need {α a:Type}(o:Ê a)(f:a->R α):R α:=match o with
 | some x=>f x
 | none=>.bad
@[simp] theorem å (x:a) (f:a->R α):need (À x) f=f x:=rfl
def Out.î (h:Out T XE a ρ H (need o f) Q):∃ x,o=À x/\Out T XE a ρ H (f x) Q:=by
 cases o with
 | none=>exact h.elim
 | some x=>exact⟨x,rfl,h⟩
def ô (s:S)(i:Nat):Ê (Á AV):=match s[i]? with
 | some (.lst xs)=>À xs
 | _=>none
def ď (h:ô s i=À xs):s[i]? = À (.lst xs):=by
 unfold ô at h;split at h
 ·cases h;assumption
 ·cases h
def bI (h:s[i]? = À (.lst xs)):ô s i=À xs:=by
 unfold ô;rw[h]
def bS:AV->AV->S->R AV
 | .int i,.int j,s=>.ok (.int (i+j)) s
 | .str x,.str y,s=>if x.length+y.length<=sizeLine then .ok (.str (x++y)) s else .bad
 | .tup xs,.tup a,s=>if a≠[]/\xs.length+a.length<=sizeLine then .ok (.tup (xs++a)) s else .bad
 | .ref i,.ref j,s=>need (ô s i) λ xs=>need (ô s j) λ a=>if xs.length+a.length<=sizeLine then .ok (.ref s.length) (s++[.lst (xs++a)]) else .bad
 | _,_,_=>.bad
def ĩ.ne (h:ĩ T ρ H l xs)(k:l≠[]):xs≠[]:=by
 intro z;have:=h.length;rw[z]at this;exact k (AH.mp this)
theorem OR.lst {ρ:Á Addr}{H:Hp}{a:Addr}{xs:Á AV}{vs:Á V}(h:H a=À (.lst vs)) (k:ĩ T ρ H xs vs):OR T ρ H (.lst xs) a:=⟨vs,h,k⟩
def VD (z:X.K=T.K):jf X (bB .Add) (vI T XE bS):=by
 rintro d s n H x y v u Q I i j ⟨E,a,b,st,e,k,l,c⟩;cases a<;>cases b<;>try exact c.elim
 ·exact Oy d s n H x y v u Q I i j ⟨_,_,k.int_inv,l.int_inv,c.Ľ e cj⟩
 ·obtain⟨hl,c⟩:=c.Œ;exact Bp d s n H x y v u Q I i j ⟨_,_,k.str_inv,l.str_inv,hl,c.Ľ e hR⟩
 ·obtain⟨hl,c⟩:=c.Œ;obtain⟨p,m,rfl,o,g⟩:=k.b0;obtain⟨q,w,rfl,h,f⟩:=l.b0;refine G' d s n H (.ref p) (.ref q) v u Q I i j ⟨p,q,m,w,rfl,rfl,z ▸ o,z ▸ h,f.ne hl.1,by rw[<-g.length,<-f.length];exact hl.2,λ C=>?_,λ _ r hr=>c.tup e hr (g.append f)⟩;have t:m=[]:=C;subst t;exact c.Ľ e (i_ h (g.append f))
 ·obtain⟨xs,A,c⟩:=c.î;obtain⟨D,B,c⟩:=c.î;obtain⟨hl,c⟩:=c.Œ;obtain⟨p,m,rfl,_,o,g⟩:=e.dP (ď A) k;obtain⟨q,w,rfl,_,h,f⟩:=e.dP (ď B) l;refine Oz d s n H (.ref p) (.ref q) v u Q I i j ⟨p,q,m,w,rfl,rfl,o,h,by rw[<-g.length,<-f.length];exact hl,λ r hr=>c.alloc e hr ?_⟩;exact OR.lst ù (ĩ.gr ((e.du hr).add hr).toGr (g.append f))
def Sw:AV->AV->S->R AV
 | .int i,.int j,s=>.ok (.int (i - j)) s
 | _,_,_=>.bad
def mB:AV->AV->S->R AV
 | .int i,.int j,s=>if IY i/\IY j then .ok (.int (i * j)) s else .bad
 | _,_,_=>.bad
def VF:jf X (bB .Mult) (vI T XE mB):=by
 rintro c s k H x y v u Q I e g ⟨l,a,b,st,h,i,j,d⟩;cases a<;>cases b<;>try exact d.elim
 obtain⟨hl,d⟩:=d.Œ;exact KY c s k H x y v u Q I e g ⟨_,_,i.int_inv,j.int_inv,⟨hl.1.f,hl.2.f⟩,d.Ľ h cj⟩
def qN:AV->AV->S->R AV
 | .int i,.int j,s=>if j≠0/\MX j then .ok (.int (i.fdiv j)) s else .bad
 | _,_,_=>.bad
def Sq:jf X (bB .FloorDiv) (vI T XE qN):=by
 rintro c s k H x y v u Q I e g ⟨l,a,b,st,h,i,j,d⟩;cases a<;>cases b<;>try exact d.elim
 obtain⟨hl,d⟩:=d.Œ;exact Ha c s k H x y v u Q I e g ⟨_,_,i.int_inv,j.int_inv,⟨hl.1,hl.2.f⟩,d.Ľ h cj⟩
def jz:AV->AV->S->R AV
 | .int i,.int j,s=>if j≠0 then .ok (.int (i.fmod j)) s else .bad
 | _,_,_=>.bad
def oMod:jf X (bB .Mod) (vI T XE jz):=by
 rintro c s j H x y v u Q I e f ⟨k,a,b,st,g,h,i,d⟩;cases a<;>cases b<;>try exact d.elim
 obtain⟨hl,d⟩:=d.Œ;exact KW c s j H x y v u Q I e f ⟨_,_,h.int_inv,i.int_inv,hl,d.Ľ g cj⟩
instance {i j:Int}:ő (Jw i j):=inferInstanceAs (ő (0<=j/\j<=1000000/\i.natAbs < 2 ^ 64))
def CG:AV->AV->S->R AV
 | .int i,.int j,s=>if Jw i j then .ok (.int (i ^ j.toNat)) s else .bad
 | _,_,_=>.bad
def VH:jf X (bB .Pow) (vI T XE CG):=by
 rintro c s j H x y v u Q I e f ⟨k,a,b,st,g,h,i,d⟩;cases a<;>cases b<;>try exact d.elim
 obtain⟨hl,d⟩:=d.Œ;exact OE c s j H x y v u Q I e f ⟨_,_,h.int_inv,i.int_inv,hl,d.Ľ g cj⟩
def CF:AV->S->R AV
 | .int i,s=>.ok (.int (-i)) s
 | _,_=>.bad
def VG:Qx X (TM .USub) (VM T XE CF):=by
 rintro b s g H x v Q I d ⟨h,a,st,e,f,c⟩;cases a<;>try exact c.elim
 exact PH b s g H x v Q I d ⟨_,f.int_inv,c.Ľ e cj⟩
def G9:AV->AV->S->R AV
 | .int i,.int j,s=>.ok (.bl (decide (i < j))) s
 | .str i,.str j,s=>.ok (.bl (decide (i.cps.toList < j.cps.toList))) s
 | _,_,_=>.bad
def oLt:jf X (ĥ .Lt) (vI T XE G9):=by
 rintro c s j H x y v u Q I e f ⟨k,a,b,st,g,h,i,d⟩;cases a<;>cases b<;>try exact d.elim
 ·exact SD c s j H x y v u Q I e f ⟨_,_,h.int_inv,i.int_inv,d.Ľ g cO⟩
 ·exact Ef c s j H x y v u Q I e f ⟨_,_,h.str_inv,i.str_inv,d.Ľ g cO⟩
def sm:AV->AV->S->R AV
 | .int i,.int j,s=>.ok (.bl (decide (i<=j))) s
 | _,_,_=>.bad
def oLe:jf X (ĥ .LtE) (vI T XE sm):=by
 rintro c s j H x y v u Q I e f ⟨k,a,b,st,g,h,i,d⟩;cases a<;>cases b<;>try exact d.elim
 exact SA c s j H x y v u Q I e f ⟨_,_,h.int_inv,i.int_inv,d.Ľ g cO⟩
def Bo:AV->AV->S->R AV
 | .int i,.int j,s=>.ok (.bl (decide (j < i))) s
 | _,_,_=>.bad
def XJ:jf X (ĥ .Gt) (vI T XE Bo):=by
 rintro c s j H x y v u Q I e f ⟨k,a,b,st,g,h,i,d⟩;cases a<;>cases b<;>try exact d.elim
 exact Sz c s j H x y v u Q I e f ⟨_,_,h.int_inv,i.int_inv,d.Ľ g cO⟩
def Ec:AV->AV->S->R AV
 | .int i,.int j,s=>.ok (.bl (decide (j<=i))) s
 | _,_,_=>.bad
def XI:jf X (ĥ .GtE) (vI T XE Ec):=by
 rintro c s j H x y v u Q I e f ⟨k,a,b,st,g,h,i,d⟩;cases a<;>cases b<;>try exact d.elim
 exact Sy c s j H x y v u Q I e f ⟨_,_,h.int_inv,i.int_inv,d.Ľ g cO⟩
def toD:Nat->S->AV->Ê Dt
 | _,_,.Ę=>À .Ę
 | _,_,.bl b=>À (.bl b)
 | _,_,.int b=>À (.int b)
 | _,_,.str b=>À (.str b)
 | n+1,s,.tup xs=>(xs.mapM (toD n s)).map .tup
 | n+1,s,.sq xs=>(xs.mapM (toD n s)).map .lst
 | n+1,s,.ref i=>(ô s i).bind λ xs=>(xs.mapM (toD n s)).map .lst
 | _,_,_=>none
def Be (h:(a :: l).mapM f=À r):∃ b q,f a=À b/\l.mapM f=À q/\r=b :: q:=by
 rw[yv]at h;cases c:f a with
 | none=>rw[c]at h;cases h
 | some b=>
  cases d:l.mapM f with
  | none=>rw[c,d]at h;cases h
  | some q=>rw[c,d]at h;cases h;exact⟨b,q,rfl,rfl,rfl⟩
theorem pJ (c:∀ v d x,f v=À d->VR T ρ H v x->Rep T.K (λ _=>False) H d x):∀ {xs:Á AV}{l:Á Dt}{vs:Á V},xs.mapM f=À l->ĩ T ρ H xs vs->bc T.K (λ _=>False) H l vs
 | [],l,vs,h,k=>by
  rw[Aq]at h;cases h;unfold bc;exact k.nil_inv
 | a :: r,l,vs,h,k=>by
  obtain⟨b,q,e,g,rfl⟩:=Be h;obtain⟨x,m,rfl,i,j⟩:=k.cons_inv;unfold bc;exact⟨x,m,rfl,c a b x e i,pJ c g j⟩
theorem lB (j:SR T ρ s H):∀ (n:Nat) (v:AV) (d:Dt) (x:V),toD n s v=À d->VR T ρ H v x->Rep T.K (λ _=>False) H d x
 | n,.Ę,d,x,h,k=>by
  have h:À Dt.Ę=À d:=by cases n<;>exact h
  cases h;unfold Rep;exact k.iy
 | n,.bl b,d,x,h,k=>by
  have h:À (Dt.bl b)=À d:=by cases n<;>exact h
  cases h;unfold Rep;exact k.iO
 | n,.int b,d,x,h,k=>by
  have h:À (Dt.int b)=À d:=by cases n<;>exact h
  cases h;unfold Rep;exact k.int_inv
 | n,.str b,d,x,h,k=>by
  have h:À (Dt.str b)=À d:=by cases n<;>exact h
  cases h;unfold Rep;exact k.str_inv
 | 0,.tup xs,d,x,h,k=>by cases h
 | 0,.sq xs,d,x,h,k=>by cases h
 | 0,.ref xs,d,x,h,k=>by cases h
 | n+1,.tup xs,d,x,h,k=>by
  have h:(xs.mapM (toD n s)).map Dt.tup=À d:=h;obtain⟨a,g,rfl,c,f⟩:=k.b0;cases e:xs.mapM (toD n s) with
  | none=>rw[e]at h;cases h
  | some l=>
   rw[e]at h;cases h;unfold Rep;exact⟨a,g,rfl,λ z=>z,c,pJ (λ v d x=>lB j n v d x) e f⟩
 | n+1,.sq xs,d,x,h,k=>by
  have h:(xs.mapM (toD n s)).map Dt.lst=À d:=h;obtain⟨a,g,rfl,c,f⟩:=k.hI;cases e:xs.mapM (toD n s) with
  | none=>rw[e]at h;cases h
  | some l=>
   rw[e]at h;cases h;unfold Rep;exact⟨a,g,rfl,λ z=>z,c.Ew,pJ (λ v d x=>lB j n v d x) e f⟩
 | n+1,.ref i,d,x,h,k=>by
  have h:(ô s i).bind (λ xs=>(xs.mapM (toD n s)).map Dt.lst)=À d:=h;cases m:ô s i with
  | none=>rw[m]at h;cases h
  | some xs=>
   rw[m]at h;have h:(xs.mapM (toD n s)).map Dt.lst=À d:=h;obtain⟨a,g,rfl,_,c,f⟩:=j.dP (ď m) k;cases e:xs.mapM (toD n s) with
   | none=>rw[e]at h;cases h
   | some l=>
    rw[e]at h;cases h;unfold Rep;exact⟨a,g,rfl,λ z=>z,eS.of c,pJ (λ v d x=>lB j n v d x) e f⟩
def FR (s:S):AV->AV->Ê Bool
 | .Ę,.Ę=>À true
 | .Ę,.int _=>À false|.int _,.Ę=>À false|.Ę,.bl _=>À false|.bl _,.Ę=>À false|.Ę,.str _=>À false|.str _,.Ę=>À false
 | .int i,.int j=>À (decide (i=j))
 | .bl i,.bl j=>À (decide (i=j))
 | .str i,.str j=>À (decide (i=j))
 | .int _,.str _=>À false|.str _,.int _=>À false|.bl _,.str _=>À false|.str _,.bl _=>À false
 | v,w=>match toD 20 s v,toD 20 s w with
  | some (.tup l),À (.tup q)=>if ay l<=20 then À (iu l q) else none
  | some (.lst l),À (.lst q)=>if ay l<=20 then À (iu l q) else none
  | _,_=>none
def aP (v w:AV)(s:S):R AV:=need (FR s v w) λ b=>.ok (.bl b) s
def uv (v w:AV)(s:S):R AV:=need (FR s v w) λ b=>.ok (.bl (!b)) s
def E8 (s:S)(v w:AV)(b:Bool):Prop:=∃ (c:Bool) (l q:Á Dt),toD 20 s v=À (if c then .tup l else .lst l)/\toD 20 s w=À (if c then .tup q else .lst q)/\ay l<=20/\b=iu l q
def DG (h:(match toD 20 s v,toD 20 s w with
  | some (.tup l),À (.tup q)=>if ay l<=20 then À (iu l q) else none
  | some (.lst l),À (.lst q)=>if ay l<=20 then À (iu l q) else none
  | _,_=>none)=À b):E8 s v w b:=by
 split at h
 ·rename_i l q a c;split at h
  ·rename_i hd;cases h;exact⟨true,l,q,a,c,hd,rfl⟩
  ·cases h
 ·rename_i l q a c;split at h
  ·rename_i hd;cases h;exact⟨false,l,q,a,c,hd,rfl⟩
  ·cases h
 ·cases h
def zt (h:FR s v w=À b)(a:VR T ρ H v x)(c:VR T ρ H w y):(Ph x y=true/\decide (x=y)=b)∨E8 s v w b:=by
  cases v<;>cases w<;>first
    | exact .inr (DG h)
    | (refine .inl ?_
       have h:À _=À b:=h;cases h;first
         | cases a.iy|cases a.int_inv|cases a.iO|cases a.str_inv
       first
         | cases c.iy|cases c.int_inv|cases c.iO|cases c.str_inv
       refine⟨rfl,?_⟩;first
         | rfl
         | simp)
def oEq (h:X.K=T.K)(hu:X.A.units+30 < cLine):jf X (ĥ .Eq) (vI T XE aP):=by
 rintro d s n H x y v u Q I i j ⟨z,a,b,st,g,k,m,f⟩;obtain⟨c,e,f⟩:=f.î;rcases zt e k m with⟨r,w⟩|⟨t,l,q,o,p,hd,rfl⟩
 ·exact Sx d s n H x y v u Q I i j ⟨r,by rw[w];exact f.Ľ g cO⟩
 ·refine OA hu d s n H x y v u Q I i j ⟨λ _=>False,λ _=>False,l,q,t,⟨?_,?_⟩,hd,f.Ľ g cO⟩
  ·exact h ▸ lB g 20 _ _ _ o k
  ·exact h ▸ lB g 20 _ _ _ p m
def XN (h:X.K=T.K)(hu:X.A.units+30 < cLine):jf X (ĥ .NotEq) (vI T XE uv):=by
 rintro d s n H x y v u Q I i j ⟨z,a,b,st,g,k,m,f⟩;obtain⟨c,e,f⟩:=f.î;rcases zt e k m with⟨r,w⟩|⟨t,l,q,o,p,hd,rfl⟩
 ·exact SE d s n H x y v u Q I i j ⟨r,by rw[w];exact f.Ľ g cO⟩
 ·refine OD hu d s n H x y v u Q I i j ⟨λ _=>False,λ _=>False,l,q,t,⟨?_,?_⟩,hd,f.Ľ g cO⟩
  ·exact h ▸ lB g 20 _ _ _ o k
  ·exact h ▸ lB g 20 _ _ _ p m
def jv:AV->Bool
 | .Ę=>true
 | _=>false
def pF:AV->AV->S->R AV
 | v,.Ę,s=>.ok (.bl (jv v)) s
 | _,_,_=>.bad
def KS:AV->AV->S->R AV
 | v,.Ę,s=>.ok (.bl (!jv v)) s
 | .bl a,.bl b,s=>.ok (.bl (a != b)) s
 | _,_,_=>.bad
def Ga (h:VR T ρ H v x):decide (x=.Ę)=jv v:=by
 cases v
 ·cases h.iy;rfl
 ·cases h.iO;rfl
 ·cases h.int_inv;rfl
 ·cases h.str_inv;rfl
 ·obtain⟨_,_,rfl,_⟩:=h.b0;rfl
 ·obtain⟨_,_,rfl⟩:=h.fi;rfl
 ·obtain⟨_,_,rfl,_⟩:=h.hI;rfl
def Sr:jf X (ĥ .Is) (vI T XE pF):=by
 rintro c s j H x y v u Q I e f ⟨k,a,b,st,g,h,i,d⟩;cases b<;>try (cases a<;>exact d.elim)
 exact OC c s j H x y v u Q I e f ⟨i.iy,by rw[Ga h];cases a<;>exact d.Ľ g cO⟩
def Ý:fu:=λ _ s=>.ok [] s
def Æ (a:Ev)(r:fu):fu:=λ b s=>(a b s).bind λ v c=>(r b c).bind λ e d=>.ok (v :: e) d
def CJ:PA X [] (tP T XE Ý):=PA.imp eh λ f H Q d=>Ņ d λ ρ a s c e b=>b.here (x:=[]) c (ĩ.nil (T:=T) (ρ:=ρ) (H:=H))
def zY (n:PE X e (tE T XE m)) (hr:PA X b (tP T XE r)) (f:Í (e :: b) X.env=(false,Ē e X.env) :: Í b X.env:=by rfl):PA X (e :: b) (tP T XE (Æ m r)):=
 PA.imp (aI n hr f) λ G H Q t=>Ņ t λ F k s f o p=>
  step f o p λ v C u A x _ E g a i c=>step g a c λ w D z B y _ q h l j d=>d.here h (ĩ.cons (VR.up q i) j)
def cL (r:fu):Ev:=λ a s=>(r a s).bind λ b c=>if b.length<=sizeLine then .ok (.tup b) c else .bad
def N6 (h:PA X g (tP T XE r)):PE X (.Tuple g k pos) (tE T XE (cL r)):=
 PE.imp (Br h) λ u H Q n=>Ņ n λ t e s m i j=>step m i j λ v o d A x _ q c f a b=>by
  obtain⟨hl,b⟩:=b.Œ;have a:ĩ T d A v x:=a;exact⟨by rw[<-a.length];exact hl,λ p l=>b.tup c l a⟩
def bZ (r:fu):fu:=λ a s=>(r a s).bind λ b c=>if b.length<=sizeLine then .ok b c else .bad
def Ob (h:PA X g (tP T XE r)):PE X (.List g pos) (tL T XE (bZ r)):=
 PE.imp (ON h) λ t H Q m=>Ņ m λ q e s l i j=>step l i j λ v n d A x _ o c f a b=>by
  obtain⟨hl,b⟩:=b.Œ;have a:ĩ T d A v x:=a;exact⟨by rw[<-a.length];exact hl,λ p k=>b.lst c k a⟩
def ŀ (r:fu):Ev:=λ a s=>(r a s).bind λ c b=>.ok (.ref b.length) (b++[.lst c])
def N2 (h:PE X e (tL T XE r)):PE X e (tE T XE (ŀ r)):=
 PE.imp h λ B H Q t=>Ņ t λ v f s p o b=>by
  refine⟨v,f,s,p,o,?_⟩;unfold ŀ at b;cases e:r f s with
  | bad=>rw[e]at b;exact b
  | ex c q=>rw[e]at b;exact b
  | ok w q=>
   rw[e]at b;rintro d A x u i ⟨a,y,j,l,m,n,k⟩;subst j;have g:Gr d A (d++[a]) A:=⟨fo _ _,λ _ _ z=>z,λ _ _ _ z=>z⟩
   refine b (d++[a]) A (.ref a) (u.add l) (i.add m (OR.lst n (k.gr g))) (oF (T:=T) (H:=A) ?_);rw[á (by rw[i.len];exact Ì _),i.len,sY];rfl
def items (v:AV)(s:S):Ê (Á AV):=match v with
 | .tup xs=>À xs
 | .sq xs=>À xs
 | .ref i=>ô s i
 | _=>none
def mU (h:items v s=À xs)(d:SR T ρ s H)(c:VR T ρ H v x):∃ a vs,x=.ref a/\(eS T.K H a vs∨fM T.K H a vs)/\ĩ T ρ H xs vs:=by
 cases v<;>try cases h
 ·obtain⟨a,vs,rfl,b,k⟩:=c.b0;exact⟨a,vs,rfl,.inr b,k⟩
 ·obtain⟨a,vs,rfl,_,b,k⟩:=d.dP (ď h) c;exact⟨a,vs,rfl,.inl (eS.of b),k⟩
 ·obtain⟨a,vs,rfl,b,k⟩:=c.hI;exact⟨a,vs,rfl,.inl b.Ew,k⟩
def xM (m:Ev):fu:=λ a s=>(m a s).bind λ v b=>need (items v b) λ xs=>.ok xs b
def Oc (h:PE X e (tE T XE m)):PE X e (tQ T XE (xM m)):=
 PE.imp h λ q H Q l=>Ņ l λ p f s k i j=>step k i j λ v n d A x _ o b g c a=>by
  obtain⟨xs,e,a⟩:=a.î;exact a d A x .refl b (mU e b c)
mutual
def AV.low (b:Nat):AV->Bool
 | .ref i=>decide (i < b)
 | .tup xs=>Ĺ b xs
 | .sq xs=>Ĺ b xs
 | _=>true
def Ĺ (b:Nat):Á AV->Bool
 | []=>true
 | v :: r=>v.low b && Ĺ b r
end
mutual
theorem VR.cut (e:f.take b=ρ):∀ {v:AV}{x:V},v.low b=true->VR T f H v x->VR T ρ H v x
 | .Ę,_,_,h=>by unfold VR at *;exact h
 | .bl _,_,_,h=>by unfold VR at *;exact h
 | .int _,_,_,h=>by unfold VR at *;exact h
 | .str _,_,_,h=>by unfold VR at *;exact h
 | .ref i,_,k,h=>by
  obtain⟨a,j,rfl⟩:=h.fi;unfold AV.low at k;exact oF (by rw[<-e,ai (Ħ k)];exact j)
 | .tup xs,_,k,h=>by
  obtain⟨a,g,rfl,c,d⟩:=h.b0;unfold AV.low at k;exact i_ c (ĩ.cut e k d)
 | .sq xs,_,k,h=>by
  obtain⟨a,g,rfl,c,d⟩:=h.hI;unfold AV.low at k;unfold VR;exact⟨a,g,rfl,c,ĩ.cut e k d⟩
theorem ĩ.cut (e:a.take b=ρ):∀ {v:Á AV}{x:Á V},Ĺ b v=true->ĩ T a H v x->ĩ T ρ H v x
 | [],_,_,h=>by cases h.nil_inv;exact .nil
 | _ :: _,_,k,h=>by
  obtain⟨x,f,rfl,c,d⟩:=h.cons_inv;unfold Ĺ at k;rw[ĝ]at k;exact .cons (VR.cut e k.1 c) (ĩ.cut e k.2 d)
end
mutual
theorem VR.low:∀ {v:AV}{x:V},VR T ρ H v x->v.low ρ.length=true
 | .Ę,_,_=>by unfold AV.low;rfl
 | .bl _,_,_=>by unfold AV.low;rfl
 | .int _,_,_=>by unfold AV.low;rfl
 | .str _,_,_=>by unfold AV.low;rfl
 | .ref i,_,h=>by
  obtain⟨a,c,rfl⟩:=h.fi;unfold AV.low;exact ć (Ç.mp c).1
 | .tup xs,_,h=>by
  obtain⟨a,e,rfl,d,b⟩:=h.b0;unfold AV.low;exact ĩ.low b
 | .sq xs,_,h=>by
  obtain⟨a,e,rfl,d,b⟩:=h.hI;unfold AV.low;exact ĩ.low b
theorem ĩ.low:∀ {v:Á AV}{x:Á V},ĩ T ρ H v x->Ĺ ρ.length v=true
 | [],_,_=>by unfold Ĺ;rfl
 | _ :: _,_,h=>by
  obtain⟨x,c,rfl,a,b⟩:=h.cons_inv;unfold Ĺ;rw[VR.low a,ĩ.low b];rfl
end
def AO.low (b:Nat):AO->Bool
 | .lst xs=>Ĺ b xs
 | .dK a=>Ĺ b (a.map (·.2))
 | .dT a=>Ĺ b (a.map (·.2))
 | .ins _ c=>Ĺ b (c.map (·.2))
 | .exc _=>true
 | .tab _ _=>true
 | .Ck a=>Ĺ b (a.map (·.2))
theorem OR.low (h:OR T ρ H o a):o.low ρ.length=true:=by
 cases o with
 | lst xs=>obtain⟨_,_,k⟩:=h;exact k.low
 | dK xs=>obtain⟨_,_,_,k⟩:=h;exact k.low
 | dT xs=>obtain⟨_,_,_,k⟩:=h;exact k.low
 | ins C xs=>obtain⟨_,_,_,_,k⟩:=h;exact k.low
 | exc C=>rfl
 | tab i q=>rfl
 | Ck xs=>obtain⟨_,_,_,_,_,_,_,k⟩:=h;exact k.low
theorem OR.cut (e:j.take b=ρ)(k:o.low b=true)(h:OR T j H o a):OR T ρ H o a:=by
 cases o with
 | lst xs=>obtain⟨g,c,f⟩:=h;exact⟨g,c,ĩ.cut e k f⟩
 | dK xs=>obtain⟨g,c,q,f⟩:=h;exact⟨g,c,q,ĩ.cut e k f⟩
 | dT xs=>obtain⟨g,c,q,f⟩:=h;exact⟨g,c,q,ĩ.cut e k f⟩
 | ins C xs=>obtain⟨l,g,c,q,f⟩:=h;exact⟨l,g,c,q,ĩ.cut e k f⟩
 | exc C=>exact h
 | tab i q=>exact h
 | Ck xs=>obtain⟨o,n,m,g,c,d,q,f⟩:=h;exact⟨o,n,m,g,c,d,q,ĩ.cut e k f⟩
def SR.closed (b:SR T ρ s H):s.all (AO.low s.length)=true:=by
 rw[ñ];intro o d;obtain⟨i,c,e⟩:=İ d;obtain⟨a,_,q⟩:=b.obj i o (by rw[Å c,e]);rw[<-b.len];exact q.low
theorem SR.cut (j:SR T c s' H)(hl:ρ <+: c)(g:ρ.length=b)(k:(s'.take b).all (AO.low b)=true):SR T ρ (s'.take b) H:=by
 have e:c.take b=ρ:=by obtain⟨t,rfl⟩:=hl;rw[<-g,nh];rfl
 have h:b<=s'.length:=by rw[<-g,<-j.len];exact hl.length_le
 refine⟨?_,by rw[ū,Nat.min_eq_left h];exact g,λ i o d=>?_⟩
 ·rw[<-e];exact j.nd.sublist (kJ _ _)
 ·have l:i < b:=by have:=(Ç.mp d).1;rw[ū]at this;lia
  have f:=d;rw[ai l]at d;obtain⟨a,m,q⟩:=j.obj i o d;refine⟨a,by rw[<-e,ai l];exact m,q.cut e ?_⟩;exact ñ.mp k o (ò f)
def Up.cut (u:Up ρ H a H'):Up ρ H ρ H':=⟨⟨aK,u.ky,u.iU⟩,λ b o e n=>⟨(u.fr b o e n).1,n⟩,u.live⟩
def Nq (m:Ev):Ev:=λ a s=>(m a s).bind λ v b=>open Classical in if b.take s.length=s/\v.low s.length=true then .ok v s else .bad
def R9 (h:PE X e (tE T XE m)):PE X e (tE T XE (Nq m)):=
 PE.imp h λ w H Q r=>Ņ r λ f b s d n a=>by
  refine⟨f,b,s,d,n,?_⟩;unfold Nq at a;cases e:m b s with
  | bad=>rw[e]at a;exact a
  | ex c o=>rw[e]at a;exact a
  | ok v o=>
   rw[e]at a;obtain⟨⟨i,j⟩,a⟩:=a.Œ;intro g A x u p q;have l:=d.closed;have k:g.take s.length=f:=by obtain⟨t,rfl⟩:=u.pre;rw[<-d.len,nh];rfl
   refine a f A x u.cut ?_ (VR.cut k j q);have:=p.cut u.pre d.len (by rw[i];exact l);rw[i]at this;exact this
def Jd (m:Ev):Ev:=λ a s=>(m a s).bind λ v b=>if (b.take s.length).all (AO.low s.length)=true/\v.low s.length=true then .ok v (b.take s.length) else .bad
def NW (h:PE X e (tE T XE m)):PE X e (tE T XE (Jd m)):=
 PE.imp h λ r H Q q=>Ņ q λ f b s d l a=>by
  refine⟨f,b,s,d,l,?_⟩;unfold Jd at a;cases e:m b s with
  | bad=>rw[e]at a;exact a
  | ex c n=>rw[e]at a;exact a
  | ok v n=>
   rw[e]at a;obtain⟨⟨i,j⟩,a⟩:=a.Œ;intro g A x u o p;have k:g.take s.length=f:=by obtain⟨t,rfl⟩:=u.pre;rw[<-d.len,nh];rfl
   exact a f A x u.cut (o.cut u.pre d.len i) (VR.cut k j p)
def mr (m:Ev):fu:=λ a s=>(m a s).bind λ v b=>match v with
 | .ref k=>need (ô b k) λ xs=>if s.length<=k/\(b.take s.length).all (AO.low s.length)=true/\Ĺ s.length xs=true then .ok xs (b.take s.length) else .bad
 | _=>.bad
def Kx (h:PE X e (tE T XE m)):PE X e (tL T XE (mr m)):=
 PE.imp h λ Y H Q P=>Ņ P λ l f s i J d=>by
  refine⟨l,f,s,i,J,?_⟩;unfold mr at d;cases e:m f s with
  | bad=>rw[e]at d;exact d
  | ex c M=>rw[e]at d;exact d
  | ok v M=>
   rw[e]at d;cases v with
   | ref k=>
    obtain⟨xs,r,d⟩:=d.î;obtain⟨⟨U,w,y⟩,d⟩:=d.Œ;intro g A x u n N;obtain⟨a,O,rfl,p,F,L⟩:=n.dP (ď r) N;have E:g.take s.length=l:=by obtain⟨t,rfl⟩:=u.pre;rw[<-i.len,nh];rfl
    have na:a∉l:=λ z=>by
     obtain⟨j,q,D⟩:=İ z;have B:g[j]? = À a:=yb u.pre (by rw[Å q,D]);have G:=Ç.mp p;have I:=Ç.mp B;have:k=j:=(aX n.nd).mp (G.2.trans I.2.symm);rw[i.len]at q;lia
    refine d l A (.ref a) u.cut (n.cut u.pre i.len w) ⟨a,O,rfl,?_,na,F,ĩ.cut E y L⟩;cases C:H a with
    | none=>rfl
    | some o=>exact absurd (ò p) (u.fr a o C na).2
   | Ę=>exact d.elim
   | bl b=>exact d.elim
   | int b=>exact d.elim
   | str b=>exact d.elim
   | tup b=>exact d.elim
   | sq b=>exact d.elim
def v_ (h:Out T XE rB ρ H (.ok b s) Q) (a:SR T ρ s H):Q b H:=h ρ H b .refl a rfl
def truth (v:AV)(s:S):Ê Bool:=match v with
 | .Ę=>À false
 | .bl b=>À b
 | .int i=>À (i != 0)
 | .str x=>if x.length<=sizeLine then À ((x.length:Int) != 0) else none
 | .tup xs=>À (!xs.isEmpty)
 | .sq xs=>À (!xs.isEmpty)
 | .ref i=>match s[i]? with
  | some (.lst xs)=>À (!xs.isEmpty)
  | some (.dK xs)=>À (!xs.isEmpty)
  | _=>none
def ĩ.emp (h:ĩ T ρ H l xs):l.isEmpty=xs.isEmpty:=by
 cases l with
 | nil=>cases h.nil_inv;rfl
 | cons a r=>obtain⟨x,b,rfl,_⟩:=h.cons_inv;rfl
def Ez (h:truth v s=À b)(j:SR T ρ s H)(d:VR T ρ H v x):M3 T.K x H b:=by
 cases v with
 | Ę=>cases d.iy;cases h;rfl
 | bl c=>cases d.iO;cases h;rfl
 | int c=>cases d.int_inv;cases h;rfl
 | str c=>
  cases d.str_inv;have h:(if c.length<=sizeLine then À ((c.length:Int) != 0) else none)=À b:=h;split at h
  ·cases h;exact⟨by assumption,rfl⟩
  ·cases h
 | tup c=>
  obtain⟨a,f,rfl,g,k⟩:=d.b0;cases h;exact .inr (.inl ⟨f,g,by rw[k.emp]⟩)
 | sq c=>
  obtain⟨a,f,rfl,g,k⟩:=d.hI;cases h;exact .inl ⟨f,g.Ew,by rw[k.emp]⟩
 | ref i=>
  have h:(match s[i]? with
   | some (.lst xs)=>À (!xs.isEmpty)
   | some (.dK xs)=>À (!xs.isEmpty)
   | _=>none)=À b:=h
  split at h
  ·rename_i xs e;cases h;obtain⟨a,f,rfl,_,g,k⟩:=j.dP e d;exact .inl ⟨f,eS.of g,by rw[k.emp]⟩
  ·rename_i xs e;cases h;obtain⟨a,f,rfl,_,g,l,k⟩:=j.zj e d;refine .inr (.inr ⟨f,g,?_⟩);have:=Ķ bE l;rw[Î,Î]at this;cases xs<;>cases f<;>first|rfl|(simp at this)
  ·cases h
def cT (m:Ev):Eb:=λ a s=>(m a s).bind λ v c=>need (truth v c) λ b=>.ok b c
def cB (m:Ev):Eb:=λ a s=>(m a s).bind λ v c=>match v with
 | .bl b=>.ok b c
 | _=>.bad
def VJ (k:X.K=T.K)(h:PE X e (tE T XE m)) (f:∀ a,Dl e X.env a=(do let v <-a;jn e.pos;cu [v] (truthy v)):=by intro _;rfl):PT X e (jV T XE (cT m)):=
 PT.imp (HC h f) λ u H Q o=>Ņ o λ t i s n f l=>step n f l λ v q p A x _ r d j g c=>by
  obtain⟨b,e,c⟩:=c.î;exact⟨b,by rw[k];exact Ez e d g,v_ c d⟩
def CV (h:jV T XE (cB m) l H Q):tE T XE m l H λ x H'=>∃ k,x=.bl k/\Q k H':=by
 obtain⟨p,e,s,j,g,i⟩:=h;refine step j g i λ v n d A x _ o c f a b=>?_;have a:VR T d A v x:=a;cases v<;>try exact b.elim
 exact⟨_,a.iO,v_ b c⟩
def gb (c:jf X (ĥ o) (vI T XE j)) (d:PE X a (tE T XE g)) (e:PE X b (tE T XE i)) (f:ž o b=false:=by rfl):PT X (.Compare a [o] [b] pos) (jV T XE (cB (Ø j g i))):=
 PT.imp (Ll c d e f) λ k H Q h=>t2 (CV h)
def Vw (g e:AV->AV->S->R AV)(a b c:Ev):Ev:=λ d s=>(a d s).bind λ v h=>(b d h).bind λ w i=>(g v w i).bind λ r f=>match r with
 | .bl true=>(c d f).bind λ z j=>e w z j
 | .bl false=>.ok (.bl false) f
 | _=>.bad
def qg (a b:Eb):Eb:=λ d s=>(a d s).bind λ c e=>if c=true then b d e else .ok false e
def Dv (a b:Eb):Eb:=λ d s=>(a d s).bind λ c e=>if c=true then .ok true e else b d e
def pa (a:Eb):Eb:=λ b s=>(a b s).bind λ c d=>.ok (!c) d
def NN (c:Eb)(a b:Ev):Ev:=λ d s=>(c d s).bind λ k e=>if k=true then a d e else b d e
def pw_and1' (h:PT X a (jV T XE m)):PW X (.BoolOp .And [a] pos) (jV T XE m):=pw_and1 h
def pw_or1' (h:PT X a (jV T XE m)):PW X (.BoolOp .Or [a] pos) (jV T XE m):=pw_or1 h
def pw_and' {rest:Á Expr}{m r:Eb}(h:PT X a (jV T XE m)) (k:PW X (.BoolOp .And (b :: rest) pos) (jV T XE r)):PW X (.BoolOp .And (a :: b :: rest) pos) (jV T XE (qg m r)):=
 PW.imp (pw_and h k) λ u H Q p=>Ņ p λ t e s n j l=>step n j l λ v o i A x _ q d f g c=>by
  cases (show v=x from g);cases v with
  | true=>exact⟨i,e,o,d,f,c⟩
  | false=>exact v_ c d
def pw_or' {rest:Á Expr}{m r:Eb}(h:PT X a (jV T XE m)) (k:PW X (.BoolOp .Or (b :: rest) pos) (jV T XE r)):PW X (.BoolOp .Or (a :: b :: rest) pos) (jV T XE (Dv m r)):=
 PW.imp (pw_or h k) λ u H Q p=>Ņ p λ t e s n j l=>step n j l λ v o i A x _ q d f g c=>by
  cases (show v=x from g);cases v with
  | true=>exact v_ c d
  | false=>exact⟨i,e,o,d,f,c⟩
def Lo (h:PT X a (jV T XE m)):PT X (.UnaryOp .Not a pos) (jV T XE (pa m)):=
 PT.imp (O4 h) λ q H Q k=>Ņ k λ p e s j g i=>step j g i λ v n l A x _ o c f d b=>by
  cases (show v=x from d);exact v_ b c
def R_ (n:PT X c (jV T XE i)) (l:PE X a (tE T XE r)) (m:PE X b (tE T XE t)):PE X (.IfExp c a b pos) (tE T XE (NN i r t)):=
 PE.imp (Hk n l m) λ z H Q u=>Ņ u λ y d s q o p=>step q o p λ v k h A x _ w g e j f=>by
  cases (show v=x from j);cases v with
  | true=>exact⟨h,d,k,g,e,f⟩
  | false=>exact⟨h,d,k,g,e,f⟩
def DY (a b:Ev):Ev:=λ c s=>(a c s).bind λ v d=>match v with
 | .bl true=>b c d
 | .bl false=>.ok (.bl false) d
 | _=>.bad
def Uh (a b:Ev):Ev:=λ c s=>(a c s).bind λ v d=>match v with
 | .bl true=>.ok (.bl true) d
 | .bl false=>b c d
 | _=>.bad
def G_:AV->S->R AV
 | .bl b,s=>.ok (.bl (!b)) s
 | _,_=>.bad
def NR {rest:Á Expr}{m r:Ev}(h:PE X a (tE T XE m)) (k:PE X (.BoolOp .And (b :: rest) pos) (tE T XE r)):PE X (.BoolOp .And (a :: b :: rest) pos) (tE T XE (DY m r)):=
 PE.imp (OG h k) λ u H Q p=>Ņ p λ t g s n j l=>step n j l λ v o f A x _ q e i d c=>by
  have d:VR T f A v x:=d;cases v<;>try exact c.elim
  rename_i b _ _;refine⟨b,d.iO,?_⟩;cases b with
  | true=>exact⟨f,g,o,e,i,c⟩
  | false=>exact c.Ľ e cO
def Sa {rest:Á Expr}{m r:Ev}(h:PE X a (tE T XE m)) (k:PE X (.BoolOp .Or (b :: rest) pos) (tE T XE r)):PE X (.BoolOp .Or (a :: b :: rest) pos) (tE T XE (Uh m r)):=
 PE.imp (SJ h k) λ u H Q p=>Ņ p λ t g s n j l=>step n j l λ v o f A x _ q e i d c=>by
  have d:VR T f A v x:=d;cases v<;>try exact c.elim
  rename_i b _ _;refine⟨b,d.iO,?_⟩;cases b with
  | true=>exact c.Ľ e cO
  | false=>exact⟨f,g,o,e,i,c⟩
def N4 (h:PE X a (tE T XE m)):PE X (.UnaryOp .Not a pos) (tE T XE (aH G_ m)):=
 PE.imp (OP h) λ q H Q l=>Ņ l λ p f s k i j=>step k i j λ v n e A x _ o d g b c=>by
  have b:VR T e A v x:=b;cases v<;>try exact c.elim
  exact⟨_,b.iO,c.Ľ d cO⟩
theorem ĩ.kQ (h:ĩ T ρ H l xs)(e:kQ l i=À v):∃ x,L2.kQ xs i=À x/\VR T ρ H v x:=by
 unfold L2.kQ at *
 rw[<-h.length];cases a:Cq l.length i with
 | none=>rw[a]at e;cases e
 | some j=>rw[a]at e;exact h.get e
def ĺ:AV->AV->S->R AV
 | .tup xs,.int i,s=>need (kQ xs i) λ v=>.ok v s
 | .sq xs,.int i,s=>need (kQ xs i) λ v=>.ok v s
 | .ref k,.int i,s=>need (ô s k) λ xs=>need (kQ xs i) λ v=>.ok v s
 | .str z,.int i,s=>if z.length<=sizeLine then need (kQ z.cps.toList i) λ c=>.ok (.str ⟨#[c]⟩) s else .bad
 | _,_,_=>.bad
def Zr (B:X.K=T.K):P2 X (vI T XE ĺ):=by
 rintro f d h s A H x y v u Q I q r ⟨D,a,b,st,m,t,w,g⟩ o;cases a<;>cases b<;>try exact g.elim
 ·obtain⟨hl,g⟩:=g.Œ;obtain⟨c,e,g⟩:=g.î;exact Ny f d h s A H x y v u Q I q r ⟨_,_,c,t.str_inv,w.int_inv,hl,e,g.Ľ m hR⟩ o
 ·obtain⟨c,e,g⟩:=g.î;obtain⟨p,n,rfl,j,k⟩:=t.b0;obtain⟨z,i,l⟩:=k.kQ e;exact Nz f d h s A H _ y v u Q I q r ⟨p,n,_,z,rfl,w.int_inv,B ▸ j,i,g.Ľ m l⟩ o
 ·obtain⟨xs,C,g⟩:=g.î;obtain⟨c,e,g⟩:=g.î;obtain⟨p,n,rfl,_,j,k⟩:=m.dP (ď C) t;obtain⟨z,i,l⟩:=k.kQ e;exact Cr f d h s A H _ y v u Q I q r ⟨p,n,_,z,rfl,w.int_inv,eS.of j,i,g.Ľ m l⟩ o
 ·obtain⟨c,e,g⟩:=g.î;obtain⟨p,n,rfl,j,k⟩:=t.hI;obtain⟨z,i,l⟩:=k.kQ e;exact Cr f d h s A H _ y v u Q I q r ⟨p,n,_,z,rfl,w.int_inv,B ▸ j.Ew,i,g.Ľ m l⟩ o
abbrev Eo:=En->S->R (Ê Int)
def rO:Rl (Ê Int) (Ê Int):=⟨λ _ _ _ a b=>a=b,λ _ h=>h⟩
abbrev tO (T:Tx)(XE:jg)(m:Eo):TO:=tG T XE rO m
def oN:Eo:=λ _ s=>.ok none s
def oS (m:Ev):Eo:=λ a s=>(m a s).bind λ v b=>match v with
 | .int i=>.ok (À i) b
 | _=>.bad
def PO.imp (h:PO X e t)(k:∀ b H Q,t' b H Q->t b H Q):PO X e t':=λ a s b H Q I c=>h a s b H Q I (k b H Q c)
def Hv:PO X none (tO T XE oN):=PO.imp Le λ g H Q d=>Ņ d λ e a s c f b=>b e H none .refl c rfl
def Hw (h:PE X e (tE T XE m)):PO X (À e) (tO T XE (oS m)):=
 PO.imp (Lf h) λ q H Q l=>Ņ l λ p f s k i j=>step k i j λ v n c A x _ o d g a b=>by
  have a:VR T c A v x:=a;cases v<;>try exact b.elim
  exact⟨_,a.int_inv,b c A (À _) .refl d rfl⟩
def gQ {α:Type}(xs:Á α)(lo a:Ê Int):Á α:=(xs.drop (HT.cQ xs.length 0 lo)).take (HT.cQ xs.length xs.length a - HT.cQ xs.length 0 lo)
theorem ĩ.gQ (h:ĩ T ρ H l xs)(lo a:Ê Int):ĩ T ρ H (gQ l lo a) (tw xs lo a):=by
 unfold Mm.gQ tw;rw[h.length];exact(h.drop _).take _
def su (v:AV)(lo a:Ê Int)(s:S):R AV:=match v with
 | .tup xs=>.ok (.tup (gQ xs lo a)) s
 | .ref i=>need (ô s i) λ xs=>.ok (.ref s.length) (s++[.lst (gQ xs lo a)])
 | .sq xs=>.ok (.ref s.length) (s++[.lst (gQ xs lo a)])
 | _=>.bad
def ZC (T:Tx)(XE:jg):V->Ê Int->Ê Int->Hp->VK->Prop:=λ x lo b H Q=>∃ a v s,SR T a s H/\VR T a H v x/\Out T XE (rV T) a H (su v lo b s) Q
def JE (h:HT.cQ xs.length 0 lo=0/\HT.cQ xs.length xs.length a=xs.length):tw xs lo a=xs:=by
 unfold tw;rw[h.1,h.2,Nat.sub_zero,List.drop_zero,List.take_length]
def Zs (w:X.K=T.K):Qu X (ZC T XE):=by
 rintro b s u H x v r t lo d n Q I m i j l ⟨z,a,st,f,o,e⟩;cases a<;>try exact e.elim
 ·obtain⟨p,h,rfl,g,k⟩:=o.b0;refine LA b s u H _ v r t lo d n Q I m i j l ⟨p,h,rfl,w ▸ g,λ hw=>?_,λ _ q c=>e.tup f c (k.gQ lo d)⟩;have:=k.gQ lo d;rw[JE hw]at this;exact e.Ľ f (i_ g this)
 ·obtain⟨xs,y,e⟩:=e.î;obtain⟨p,h,rfl,_,g,k⟩:=f.dP (ď y) o;exact CS b s u H _ v r t lo d n Q I m i j l ⟨p,h,rfl,eS.of g,λ q c=>e.alloc f c (OR.lst ù (ĩ.gr ((f.du c).add c).toGr (k.gQ lo d)))⟩
 ·obtain⟨p,h,rfl,g,k⟩:=o.hI;exact CS b s u H _ v r t lo d n Q I m i j l ⟨p,h,rfl,w ▸ g.Ew,λ q c=>e.alloc f c (OR.lst ù (ĩ.gr ((f.du c).add c).toGr (k.gQ lo d)))⟩
def zM (m:Ev)(lo b:Eo):Ev:=λ a s=>(m a s).bind λ v c=>(lo a c).bind λ l d=>(b a d).bind λ h e=>su v l h e
def Sb (w:X.K=T.K)(c:PE X e (tE T XE m)) (hl:PO X lo (tO T XE E)) (y:PO X z (tO T XE D)):PE X (.Subscript e (.Slice lo z none U) pos) (tE T XE (zM m E D)):=
 PE.imp (Hn (Zs (XE:=XE) w) c hl y) λ σ H Q J=>Ņ J λ ρ r s B c A=>
  step B c A λ v Y L N x _ u1 i a n d=>step i a d λ l Z M O C _ G j b p f=>step j b f λ h F o P u _ I k t q g=>by
   cases (show l=C from p);cases (show h=u from q);exact⟨o,v,F,k,VR.up (G.trans I) n,g⟩
end
abbrev Ms:=En->S->RS
def R.bz {α:Type}:R α->(α->S->RS)->RS
 | .ok a s,f=>f a s
 | .ex c s,_=>.ex c s
 | .bad,_=>.bad
@[simp] theorem eZ (a:α) (s:S) (f:α->S->RS):(R.ok a s).bz f=f a s:=rfl
def eR (T:Tx)(XE:jg)(ρ:Á Addr)(H:Hp):RS->Ends->Prop
 | .nx e s,D=>∀ a A b,Up ρ H a A->SR T a s A->ER T a A e b->D.nx b A
 | .rt v s,D=>∀ a A x,Up ρ H a A->SR T a s A->VR T a A v x->D.rt x A
 | .bk e s,D=>∀ a A b,Up ρ H a A->SR T a s A->ER T a A e b->D.bk b A
 | .ct e s,D=>∀ a A b,Up ρ H a A->SR T a s A->ER T a A e b->D.ct b A
 | .ex c s,_=>∀ a A,Up ρ H a A->SR T a s A->XE c a s A
 | .bad,_=>False
def eR.up (u:Up ρ H g H')(h:eR T XE ρ H r D):eR T XE g H' r D:=by
 cases r with
 | nx e s=>exact λ a A x d b f=>h a A x (u.trans d) b f
 | rt e s=>exact λ a A x d b f=>h a A x (u.trans d) b f
 | bk e s=>exact λ a A x d b f=>h a A x (u.trans d) b f
 | ct e s=>exact λ a A x d b f=>h a A x (u.trans d) b f
 | ex c s=>exact λ a A d b=>h a A (u.trans d) b
 | bad=>exact h
def tS (T:Tx)(XE:jg)(m:Ms):TS:=λ D c H=>∃ b a s,SR T b s H/\ER T b H a c/\eR T XE b H (m a s) D
section
variable {T:Tx}{XE:jg}{X:Cx}{pos:kK}
def dt {f:Rl α n} 
  (i:SR T ρ s H) (d:ER T ρ H env g) (b:eR T XE ρ H ((m env s).bz k) D)
  (h:∀ v s1 a A x,m env s=.ok v s1->Up ρ H a A->SR T a s1 A->ER T a A env g->f.r H a A v x->eR T XE a A (k v s1) D->F x A):tG T XE f m g H F:=by
 refine⟨ρ,env,s,i,d,?_⟩;cases e:m env s with
 | ok v s1=>
  rw[e]at b;exact λ a A x u j l=>h v s1 a A x e u j (d.up u) l (eR.up u b)
 | ex c s1=>rw[e]at b;exact b
 | bad=>rw[e]at b;exact b
def Ĵ:Ms:=λ a s=>.nx a s
def lH {m:Ms}{a:St}{H:Hp}{D:Ends}{P:Prop}(h:tS T XE m D a H)(k:∀ ρ env s,SR T ρ s H->ER T ρ H env a->eR T XE ρ H (m env s) D->P):P:=by
 obtain⟨ρ,env,s,d,b,c⟩:=h;exact k ρ env s d b c
def ċ (a b:Ms):Ms:=λ c s=>match a c s with
 | .nx e d=>b e d
 | r=>r
def KG:l5 X [] (tS T XE Ĵ):=l5.imp Lj λ D g H e=>lH e λ f a s d b c=>c f H g .refl d b
def GV {st:Stmt}{rest:Á Stmt}{a b:Ms}(j:PS X st (tS T XE a)) (k:l5 X rest (tS T XE b)):l5 X (st :: rest) (tS T XE (ċ a b)):=
 l5.imp (HB j k) λ D q H o=>lH o λ p d s m l c=>by
  refine⟨p,d,s,m,l,?_⟩;unfold ċ at c;cases e:a d s with
  | nx h f=>rw[e]at c;exact λ g A x u n i=>⟨g,h,f,n,i,eR.up u c⟩
  | rt v f=>rw[e]at c;exact c
  | bk v f=>rw[e]at c;exact c
  | ct v f=>rw[e]at c;exact c
  | ex v f=>rw[e]at c;exact c
  | bad=>rw[e]at c;exact c
def KH (b:PS X st (tS T XE a)):l5 X [st] (tS T XE a):=Lk b
def aE (m:Ev):Ms:=λ a s=>(m a s).bz λ _ b=>.nx a b
def KA (h:PE X e (tE T XE m)) (c:dJ e none pos.line X.env=pure false:=by rfl):PS X (.Expr e pos) (tS T XE (aE m)):=
 PS.imp (Lh h c) λ D n H l=>lH l λ q g s c i j=>dt c i j λ v o f A x _ p d a k b=>b f A n .refl d a
def ň (m:Ev):Ms:=λ a s=>(m a s).bz λ v b=>.rt v b
def Oh (h:PE X e (tE T XE m)):PS X (.Return (À e) pos) (tS T XE (ň m)):=
 PS.imp (O1 h) λ D q H l=>lH l λ p f s k i j=>dt k i j λ v n d A x _ o b g c a=>a d A x .refl b c
def hE (c:Eb)(a b:Ms):Ms:=λ d s=>(c d s).bz λ k e=>if k=true then a d e else b d e
def Sl (n:PT X c (jV T XE i)) (l:l5 X a (tS T XE r)) (m:l5 X b (tS T XE t)):PS X (.If c a b pos) (tS T XE (hE i r t)):=
 PS.imp (SM n l m) λ D z H u=>lH u λ y d s q o p=>dt q o p λ v k h A x _ w g e j f=>by
  cases (show v=x from j);cases v with
  | true=>exact⟨h,d,k,g,e,f⟩
  | false=>exact⟨h,d,k,g,e,f⟩
def ŷ (i:Nat)(m:Ev):Ms:=λ a s=>(m a s).bz λ v b=>.nx (a.set i (À v)) b
def Fe (h:tS T XE (ŷ i m) D l H):LI (tE T XE m) (Cf i) D l H:=by
 obtain⟨p,f,s,k,g,j⟩:=h;exact dt k g j λ v n e A x _ o c a d b=>b e A _ .refl c (a.set d)
def GU (b:X.N.Nodup)(c:PE X e (tE T XE m)) (f:X.N[i]? = À x:=by rfl)(j:Loc X.env.scope x:=by first|exact EM rfl|exact L3 rfl)(g:dJ e (À (.Name x a)) pos.line X.env=pure false:=by rfl) (d:X.fn x=true∨X.env.scope.names.lookup x=À .local:=by first|exact .inl rfl|exact .inr rfl|assumption) :
  PS X (.Assign [.Name x a] e pos) (tS T XE (ŷ i m)):=PS.imp (O2 b f j c g d) λ D k H h=>Fe h
abbrev Mt:=AV->En->S->RS
abbrev I0:=Á AV->En->S->RS
def JN (Q:St->Hp->Prop):Ends:={ nx:=Q,rt:=λ _ _=>False }
def tT (T:Tx)(XE:jg)(m:Mt):TG:=λ x c H Q=>∃ b a s v,SR T b s H/\ER T b H a c/\VR T b H v x/\eR T XE b H (m v a s) (JN Q)
def Ul (T:Tx)(XE:jg)(m:I0):P5:=λ xs d H Q=>∃ b a s c,SR T b s H/\ER T b H a d/\ĩ T b H c xs/\eR T XE b H (m c a s) (JN Q)
def gN (i:Nat):Mt:=λ v a s=>.nx (a.set i (À v)) s
def bR:I0:=λ b a s=>match b with
 | []=>.nx a s
 | _=>.bad
def ĉ (a:Mt)(r:I0):I0:=λ d b s=>match d with
 | v :: w=>match a v b s with
  | .nx e c=>r w e c
  | q=>q
 | _=>.bad
def gT (n:Nat)(r:I0):Mt:=λ v a s=>match v with
 | .tup b=>if b.length=n then r b a s else .bad
 | _=>.bad
def Ko (b:X.N.Nodup)(e:X.N[i]? = À x:=by rfl)(h:Loc X.env.scope x:=by first|exact EM rfl|exact L3 rfl)(d:X.fn x=true∨X.env.scope.names.lookup x=À .local:=by first|exact .inl rfl|exact .inr rfl|assumption):PG X (.Name x pos) (tT T XE (gN i)):=
 PG.imp (K6 b e h d) λ x l H Q ⟨k,a,s,v,g,c,j,f⟩=>f k H _ .refl g (c.set j)
def Ks:BX X [] (Ul T XE bR):=BX.imp K7 λ xs i H Q ⟨h,c,s,g,e,d,f,b⟩=>by
 cases g with
 | nil=>exact⟨f.nil_inv,b h H _ .refl e d⟩
 | cons a r=>exact b.elim
def GI (l:PG X e (tT T XE a)) (m:BX X i (Ul T XE r)) (j:(cY (e :: i) X.env).map (·.2)=j' e X.env :: (cY i X.env).map (·.2):=by rfl):BX X (e :: i) (Ul T XE (ĉ a r)):=
 BX.imp (Hr l m j) λ xs B H Q ⟨z,d,s,t,j,n,q,b⟩=>by
  cases t with
  | nil=>exact b.elim
  | cons v w=>
   obtain⟨x,y,rfl,o,p⟩:=q.cons_inv;refine⟨x,y,rfl,z,d,s,v,j,n,o,?_⟩;unfold ĉ at b;cases e:a v d s with
   | nx k g=>simp only[e]at b;exact λ c A x u h f=>⟨c,k,g,w,h,f,p.up u,eR.up u b⟩
   | rt v g=>simp only[e]at b;exact b
   | bk v g=>simp only[e]at b;exact λ c A x u h f=>b c A x u h f
   | ct v g=>simp only[e]at b;exact λ c A x u h f=>b c A x u h f
   | ex v g=>simp only[e]at b;exact b
   | bad=>simp only[e]at b;exact b
def N9 (l:X.K=T.K)(m:X.calm=true)(h:BX X e (Ul T XE r)) (p:(cY e X.env).length=n:=by rfl) (f:(cY e X.env).findIdx? (·.1)=none:=by rfl):PG X (.Tuple e k pos) (tT T XE (gT n r)):=
 PG.imp (OT m h p f) λ x w H Q ⟨i,d,s,v,q,o,t,c⟩=>by
  obtain⟨b,rfl⟩:∃ b,v=.tup b:=by
   cases v with
   | tup b=>exact⟨b,rfl⟩
   | _=>exact c.elim
  obtain⟨a,u,rfl,j,g⟩:=t.b0;have c:eR T XE i H (if b.length=n then r b d s else .bad) (JN Q):=c;by_cases hl:b.length=n
  ·rw[Ï hl]at c;exact⟨a,u,rfl,l ▸ j,by rw[<-g.length];exact hl,i,d,s,b,q,o,g,c⟩
  ·rw[Ô hl]at c;exact c.elim
def BA (m:Ev)(g:Mt):Ms:=λ a s=>(m a s).bz λ v b=>g v a b
def l4 (g:Mt):Prop:=∀ v a s,(∃ e b,g v a s=.nx e b)∨(∃ c b,g v a s=.ex c b)∨g v a s=.bad
def sH (g:I0):Prop:=∀ v a s,(∃ e b,g v a s=.nx e b)∨(∃ c b,g v a s=.ex c b)∨g v a s=.bad
def KO:l4 (gN i):=λ v a s=>.inl ⟨_,_,rfl⟩
def Ov:sH bR:=λ v b s=>by
 cases v with
 | nil=>exact .inl ⟨_,_,rfl⟩
 | cons a r=>exact .inr (.inr rfl)
def KN (h:l4 a)(k:sH r):sH (ĉ a r):=λ v b s=>by
 cases v with
 | nil=>exact .inr (.inr rfl)
 | cons x w=>
  rcases h x b s with⟨e,c,q⟩|⟨e,c,q⟩|q
  ·have:ĉ a r (x :: w) b s=r w e c:=by unfold ĉ;simp only[q]
   rw[this];exact k w e c
  ·have:ĉ a r (x :: w) b s=.ex e c:=by unfold ĉ;simp only[q]
   exact .inr (.inl ⟨_,_,this⟩)
  ·have:ĉ a r (x :: w) b s=.bad:=by unfold ĉ;simp only[q]
   exact .inr (.inr this)
def Ow (k:sH r):l4 (gT n r):=λ v a s=>by
 cases v<;>try exact .inr (.inr rfl)
 rename_i b;by_cases hl:b.length=n
 ·have:gT n r (.tup b) a s=r b a s:=Ï hl;rw[this];exact k b a s
 ·have:gT n r (.tup b) a s=.bad:=Ô hl;exact .inr (.inr this)
def l4.out (k:l4 g)(h:eR T XE ρ H (g v env s) D):eR T XE ρ H (g v env s) (JN D.nx):=by
 rcases k v env s with⟨e,a,q⟩|⟨e,a,q⟩|q<;>rw[q]at h ⊢<;>exact h
def Od (d:PE X e (tE T XE m)) (o:PG X a (tT T XE g)) (h:l4 g)(i:jq [a] e pos.line X.env=pure false:=by rfl)(hw:jo [a] e X.env=pure none:=by rfl)
  (n:(cY [a] X.env).map (·.2)=[j' a X.env]:=by rfl):PS X (.Assign [a] e pos) (tS T XE (BA m g)):=
 PS.imp (OX d o i hw n) λ D w H r=>lH r λ u b s i d p=>dt i d p λ v q l A x _ t j c k f=>⟨l,b,q,v,j,c,k,h.out f⟩
def lS (i j:Nat)(r:fu):Ms:=λ a s=>(r a s).bz λ c b=>match c with
 | [v,w]=>.nx ((a.set i (À v)).set j (À w)) b
 | _=>.bad
def Og (u:X.calm=true)(q:X.N.Nodup)(t:PA X [a,b] (tP T XE r)) (B:X.N[i]? = À x:=by rfl)(C:X.N[j]? = À y:=by rfl)(h:i≠j:=by decide)
  (F:X.env.scope.names.lookup x=À .local:=by rfl) (G:X.env.scope.names.lookup y=À .local:=by rfl)
  (hw:jo [.Tuple [.Name x n,.Name y o] m pt] (.Tuple [a,b] k2 e) X.env=pure (À [x,y]):=by rfl)
  (k:jq [.Tuple [.Name x n,.Name y o] m pt] (.Tuple [a,b] k2 e) pos.line X.env=pure false:=by rfl) :
  PS X (.Assign [.Tuple [.Name x n,.Name y o] m pt] (.Tuple [a,b] k2 e) pos) (tS T XE (lS i j r)):=
 PS.imp (O0 u q B C h F G t hw k) λ D Y H O=>lH O λ U p s k z E=>dt k z E λ v P f A x _ Q l g d c=>by
  have d:ĩ T f A v x:=d
  match v,d,c with
  | [v,w],d,c=>
   obtain⟨x1,M,rfl,I,k2⟩:=d.cons_inv;obtain⟨x2,M,rfl,L,J⟩:=k2.cons_inv;cases J.nil_inv;exact⟨x1,x2,rfl,c f A _ .refl l ((g.set I).set L)⟩
  | [],_,c=>exact c.elim
  | [_],_,c=>exact c.elim
  | _ :: _ :: _ :: _,_,c=>exact c.elim
def Jg (c:Eb)(b:Ms):Nat->En->S->RS
 | 0,_,_=>.bad
 | n+1,a,s=>(c a s).bz λ k f=>if k=true then (match b a f with
   | .nx e d=>Jg c b n e d
   | .ct e d=>Jg c b n e d
   | .bk e d=>.nx e d
   | r=>r) else .nx a f
def Lx (f:En->S->Nat)(c:Eb)(b:Ms):Ms:=λ a s=>Jg c b (f a s) a s
def Ol (f:En->S->Nat)(N:yP (à X.prog X.w) X.A X.env X.xe) (M:PT X c (jV T XE i)) (L:l5 X body (tS T XE y)):PS X (.While c body [] pos) (tS T XE (Lx f i y)):=
 PS.imp (HA N M L) λ D z H O=>lH O λ g b s F E m=>by
  refine⟨λ n z H=>∃ g b s,SR T g s H/\ER T g H b z/\eR T XE g H (Jg i y n b s) D,⟨f b s,g,b,s,F,E,m⟩,?_⟩;rintro n z H ⟨g,b,s,F,E,m⟩;cases n with
  | zero=>exact m.elim
  | succ n=>
   unfold Jg at m;refine dt F E m λ v I q J x _ P p l G a=>?_;cases (show v=x from G);cases v with
   | false=>exact a q J z .refl p l
   | true=>
    refine⟨λ r B=>∃ g b s,SR T g s B/\ER T g B b r/\eR T XE g B (Jg i y n b s) D,λ r B h=>⟨n,dZ n,h⟩,q,b,I,p,l,?_⟩;simp only[Ï]at a;cases e:y b I with
    | nx t j=>simp only[e]at a;exact λ d C x u o k=>⟨d,t,j,o,k,eR.up u a⟩
    | ct t j=>simp only[e]at a;exact λ d C x u o k=>⟨d,t,j,o,k,eR.up u a⟩
    | bk t j=>simp only[e]at a;exact λ d C x u o k=>a d C x u o k
    | rt v j=>simp only[e]at a;exact a
    | ex v j=>simp only[e]at a;exact a
    | bad=>simp only[e]at a;exact a
end
end Mm
namespace L2
open PySem PySem.Spec PyProof.Rows
def OU (hl:PE X l tl):PI X t l (λ j H R=>tl j H λ x B=>∃ a,x=.ref a/\(((∃ xs,eS X.K B a xs)/\R (P0 X.K a) B)∨((∃ xs,fM X.K B a xs)/\R (Qs X.K a) B))):=by
 intro f s j H R I h;refine Ź (hl f s j H _ I h) λ v c r=>iF r λ x B A n m=>?_;obtain⟨a,e,q⟩:=m;subst e;cases n;rcases q with⟨⟨xs,i⟩,q⟩|⟨⟨xs,i⟩,q⟩
 ·obtain⟨d,rv,p,k⟩:=A.list i;refine w_ p.isList ?_;refine⟨c.heap.objs.size,[c.heap.objs.size],_,_,B,rfl,A.kept (t':=c.toks) λ b o e=>Ã _ e,wG a _,⟨_,Ö _ rfl,rfl,rfl⟩,λ b g=>?_,q⟩;have e:b=c.heap.objs.size:=by simpa using g
  subst e;exact A.zx (Ì _) (A.ś.fresh (Ì _))
 ·obtain⟨d,rv,p,k⟩:=A.tuple i;refine vq (show c.heap.IsTuple a d.toArray from p) ?_;refine⟨c.heap.objs.size,[c.heap.objs.size],_,_,B,rfl,A.kept (t':=c.toks) λ b o e=>Ã _ e,BJ a _,⟨_,Ö _ rfl,rfl,rfl⟩,λ b g=>?_,q⟩;have e:b=c.heap.objs.size:=by simpa using g
  subst e;exact A.zx (Ì _) (A.ś.fresh (Ì _))
end L2
namespace Mm
open PySem L2
def Up.mod (u:Up ρ H a H')(h:H D=none)(n:D∉a):Up ρ H a (upd H' D o):=
 ⟨⟨u.pre,λ b xs e=>by rw[ä (Ń e h)];exact u.ky b xs e,λ b p v e=>by rw[ä (Ń e h)];exact u.iU b p v e⟩,λ b p e k=>⟨by rw[ä (Ń e h)];exact(u.fr b p e k).1,(u.fr b p e k).2⟩,λ b e=>by
  by_cases c:b=D
  ·rw[c];exact h
  ·rw[ä c]at e;exact u.live b e⟩
def Ve (h:H D=À (.lst xs)):Gr ρ H ρ (upd H D o):=
 ⟨aK,λ b a e=>by rw[ä (ui e h (by intro z;cases z))];exact e,λ b p v e=>by rw[ä (ui e h (by intro z;cases z))];exact e⟩
theorem ER.gr (h:ER T ρ H env c)(u:Gr ρ H a H'):ER T a H' env c:=
 ⟨h.len,λ i v e=>let ⟨x,b,q⟩:=h.get i v e;⟨x,b,q.gr u⟩⟩
abbrev Gd:=Á (Nat × Á AV)
def vh (gs:Gd)(s:S):Prop:=∀ p∈gs,ô s p.1=À p.2
def Cg (i:Nat)(xs:Á AV)(s:S):vh [(i,xs)] s ↔ ô s i=À xs:=by simp[vh]
structure Walks (T:Tx)(ρ:Á Addr)(H:Hp)(xs:Á AV)(gs:Gd)(J:It):Prop where
 turn:∀ oJ s' H',Up ρ H oJ H'->SR T oJ s' H'->vh gs s'->(∀ (j:Nat) (v:AV),xs[j]? = À v->J.go j H'/\∀ x H'',J.Jh j H' x H''->Up oJ H' oJ H''/\SR T oJ s' H''/\VR T oJ H'' v x)/\J.stop xs.length H'
abbrev Src:=En->S->R (Á AV × Gd)
def rW (T:Tx):Rl (Á AV × Gd) It:=⟨λ _ a H p J=>Walks T a H p.1 p.2 J,λ _ h=>h⟩
abbrev tW (T:Tx)(XE:jg)(m:Src):TI:=tG T XE (rW T) m
section
variable {T:Tx}{XE:jg}{X:Cx}{pos:kK}
def qW (h:H' a=À (.lst vs)∨Jb K H' a vs) (l:SR T b s' H')(k:ĩ T b H' xs vs) :
  (∀ (j:Nat) (v:AV),xs[j]? = À v->(P0 K a).go j H'/\∀ x A,(P0 K a).Jh j H' x A->Up b H' b A/\SR T b s' A/\VR T b A v x)/\(P0 K a).stop xs.length H':=by
 have c:eS K H' a vs:=by rcases h with h|h;exact eS.of h;exact h.Ew
 refine⟨λ j v e=>?_,⟨vs,c,by rw[k.length];exact Ì _⟩⟩;obtain⟨x,d,i⟩:=k.get e;refine⟨⟨vs,x,c,d⟩,λ y A ⟨f,g⟩=>?_⟩;subst f;have:=g vs c;rw[d]at this;cases this;exact⟨.refl,l,i⟩
def Ih (c:fM K H' a vs)(i:SR T b s' H')(k:ĩ T b H' xs vs) :
  (∀ (j:Nat) (v:AV),xs[j]? = À v->(Qs K a).go j H'/\∀ x A,(Qs K a).Jh j H' x A->Up b H' b A/\SR T b s' A/\VR T b A v x)/\(Qs K a).stop xs.length H':=by
 refine⟨λ j v e=>?_,⟨vs,c,by rw[k.length];exact Ì _⟩⟩;obtain⟨x,d,h⟩:=k.get e;refine⟨⟨vs,x,c,d⟩,λ y A ⟨f,g⟩=>?_⟩;subst f;have:=g vs c;rw[d]at this;cases this;exact⟨.refl,i,h⟩
def yl (r:fu):Src:=λ a s=>(r a s).bind λ xs b=>.ok (xs,[]) b
def Vz (n:X.K=T.K)(h:PE X e (tL T XE r)):PI X D e (tW T XE (yl r)):=
 PI.imp (K' h) λ E H R w=>Ņ w λ y d s p o b=>by
  refine⟨y,d,s,p,o,?_⟩;unfold yl at b;cases e:r d s with
  | bad=>rw[e]at b;exact b
  | ex c q=>rw[e]at b;exact b
  | ok xs q=>
   rw[e]at b;rintro g A x u t ⟨a,v,l,C,m,i,k⟩;subst l;refine⟨a,rfl,⟨v,eS.of i⟩,b g A _ u t ⟨λ z s' B j f _=>?_⟩⟩;rw[n];exact qW (.inl (j.fr a _ i m).1) f (k.up j)
def cN (m:Ev):Src:=λ b s=>(m b s).bind λ v a=>match v with
 | .tup xs=>.ok (xs,[]) a
 | .sq xs=>.ok (xs,[]) a
 | .ref i=>need (ô a i) λ xs=>.ok (xs,[(i,xs)]) a
 | _=>.bad
def VA (r:X.K=T.K)(h:PE X e (tE T XE m)):PI X M e (tW T XE (cN m)):=
 PI.imp (OU h) λ Q H R I=>Ņ I λ P y s F D E=>step F D E λ v L l A x _ N j z f c=>by
  have f:VR T l A v x:=f;cases v with
  | tup xs=>
   obtain⟨a,p,rfl,n,k⟩:=f.b0;refine⟨a,rfl,.inr ⟨⟨p,r ▸ n⟩,c l A _ .refl j ⟨λ q s' B o d _=>?_⟩⟩⟩;rw[r];exact Ih (o.Pn n) d (k.up o)
  | sq xs=>
   obtain⟨a,p,rfl,n,k⟩:=f.hI;refine⟨a,rfl,.inl ⟨⟨p,r ▸ n.Ew⟩,c l A _ .refl j ⟨λ q s' B o d _=>?_⟩⟩⟩;rw[r];exact qW (.inr (o.S1 n)) d (k.up o)
  | ref i=>
   obtain⟨xs,t,c⟩:=c.î;obtain⟨a,p,rfl,J,n,k⟩:=j.dP (ď t) f;refine⟨a,rfl,.inl ⟨⟨p,eS.of n⟩,c l A _ .refl j ⟨λ q s' B o d g=>?_⟩⟩⟩;have u:=(Cg i xs s').mp g;obtain⟨b,O,w,_,C,G⟩:=d.dP (ď u) (VR.up o f);cases w;exact qW (.inl C) d G
  | Ę=>exact c.elim
  | bl b=>exact c.elim
  | int b=>exact c.elim
  | str b=>exact c.elim
def oA (lo:Int)(n:Nat):Á AV:=(Ą n).map λ(i:Nat)=>AV.int (lo+i)
def Ig (f:SR T a s' H') :
  (∀ (j:Nat) (v:AV),(oA lo n)[j]? = À v->(P1 lo n).go j H'/\∀ x A,(P1 lo n).Jh j H' x A->Up a H' a A/\SR T a s' A/\VR T a A v x)/\(P1 lo n).stop (oA lo n).length H':=by
 have hl:(oA lo n).length=n:=by simp[oA]
 refine⟨λ j v e=>?_,by rw[hl];exact Ì _⟩;have b:j < n:=by have:=(Ç.mp e).1;rw[hl]at this;exact this
 refine⟨b,λ y A ⟨c,d⟩=>?_⟩;subst c d;have:(oA lo n)[j]? = À (.int (lo+j)):=by simp[oA,b]
 rw[this]at e;cases e;exact⟨.refl,f,cj⟩
def ym (r:fu):Src:=λ a s=>(r a s).bind λ c b=>match c with
 | [.int j]=>if -(2 ^ 62)<=j/\j < 2 ^ 62 then .ok (oA 0 j.toNat,[]) b else .bad
 | [.int i,.int j]=>if -(2 ^ 62)<=i/\i < 2 ^ 62/\-(2 ^ 62)<=j/\j < 2 ^ 62 then .ok (oA i (j - i).toNat,[]) b else .bad
 | _=>.bad
def Sj (z:X.mg "range"=none)(r:PE X a (tE T XE m)) (u:Gl X "range":=by rfl)(g:Í [a] X.env=[(false,Ē a X.env)]:=by rfl):PI X L (.Call (.Name "range" p) [a] [] pos) (tW T XE (ym (Æ m Ý))):=
 PI.imp (Ei u z (zY r CJ g) g) λ Q H R F=>Ņ F λ P i s g t B=>step g t B λ v J f A x e N l n d b=>by
  have d:ĩ T f A v x:=d;obtain⟨w,rfl⟩:∃ w,v=[w]:=by
   unfold Æ Ý at e;cases h:m i s with
   | ok w E=>rw[h]at e;cases e;exact⟨w,rfl⟩
   | ex c E=>rw[h]at e;cases e
   | bad=>rw[h]at e;cases e
  obtain⟨y,O,rfl,C,D⟩:=d.cons_inv;cases D.nil_inv;cases w with
  | int j=>
   obtain⟨⟨o,q⟩,b⟩:=b.Œ;cases C.int_inv;exact⟨j,rfl,o,q,b f A _ .refl l ⟨λ G s' I M k _=>Ig k⟩⟩
  | _=>exact b.elim
def forL (b:Mt)(body:Ms)(gs:Gd):Á AV->En->S->RS
 | [],a,s=>open Classical in if vh gs s then .nx a s else .bad
 | v :: r,a,s=>open Classical in if vh gs s then (match b v a s with
   | .nx g f=>(match body g f with
    | .nx d e=>forL b body gs r d e
    | .ct d e=>forL b body gs r d e
    | .bk d e=>.nx d e
    | q=>q)
   | .ex c f=>.ex c f
   | _=>.bad) else .bad
def uH (b:Src)(c:Mt)(body:Ms):Ms:=λ a s=>(b a s).bz λ p d=>forL c body p.2 p.1 a d
def eR.Œ {ρ:Á Addr}{c:Prop}{_:ő c}{r:RS}{D:Ends}(h:eR T XE ρ H (if c then r else .bad) D):c/\eR T XE ρ H r D:=by
 by_cases a:c
 ·rw[Ï a]at h;exact⟨a,h⟩
 ·rw[Ô a]at h;exact h.elim
def Of (hp:yP (à X.prog X.w) X.A X.env X.xe) (hc:X.calm=true)(hi:PI X tg q (tW T XE src)) (hg:PG X tg (tT T XE n)) (hb:l5 X body (tS T XE Q))
  (hs:∀ x,dX q X.env x=pure x:=by intro _;rfl):PS X (.For tg q body [] pos) (tS T XE (uH src n Q)):=
 PS.imp (OZ hp hc hi hg hb hs) λ D σ H zz=>lH zz λ ρ env s hs he ho=>dt hs he ho λ p M k O J _ u1 ZG U' U Y4=>by
  obtain⟨xs,gs⟩:=p;have U:Walks T k O xs gs J:=U;refine⟨λ i m z B=>m=xs.length - i/\i<=xs.length/\∃ b d s',Up k O b B/\SR T b s' B/\ER T b B d z/\eR T XE b B (forL n Q gs (xs.drop i) d s') D,⟨_,rfl,ï _,k,env,M,.refl,ZG,U',Y4⟩,?_⟩;rintro i m z B ⟨rfl,hi,b,d,s',u',u,L,a⟩;by_cases t:i < xs.length
  ·rw[yM t]at a;unfold forL at a;obtain⟨r,a⟩:=a.Œ;obtain⟨w1,w2⟩:=(U.turn b s' B u' u r).1 i xs[i] (Å t);refine .inr ⟨w1,λ E C=>∃ f o g,Up k O f C/\SR T f g C/\ER T f C o E/\eR T XE f C (forL n Q gs (xs.drop (i+1)) o g) D,λ E C h2=>⟨xs.length - (i+1),by lia,rfl,t,h2⟩,λ x Y hy=>?_⟩;obtain⟨y1,y2,y3⟩:=w2 x Y hy;refine⟨b,d,s',xs[i],y2,L.up y1,y3,?_⟩;have a:=eR.up y1 a;cases I:n xs[i] d s' with
   | nx e1 M=>
    simp only[I]at a;refine λ f C E u2 Po Xp=>⟨f,e1,M,Po,Xp,?_⟩
    have a:=eR.up u2 a;have N:Up k O f C:=(u'.trans y1).trans u2;cases G:Q e1 M with
    | nx P g=>simp only[G]at a;exact λ l Z F y j h=>⟨l,P,g,N.trans y,j,h,eR.up y a⟩
    | ct P g=>simp only[G]at a;exact λ l Z F y j h=>⟨l,P,g,N.trans y,j,h,eR.up y a⟩
    | bk P g=>simp only[G]at a;exact λ l Z F y j h=>a l Z F y j h
    | rt v g=>simp only[G]at a;exact a
    | ex v g=>simp only[G]at a;exact a
    | bad=>simp only[G]at a;exact a
   | ex c M=>simp only[I]at a;exact a
   | rt v g=>simp only[I]at a;exact a.elim
   | bk v g=>simp only[I]at a;exact a.elim
   | ct v g=>simp only[I]at a;exact a.elim
   | bad=>simp only[I]at a;exact a.elim
  ·have e:i=xs.length:=by lia
   subst e;rw[LZ]at a;unfold forL at a;obtain⟨r,a⟩:=a.Œ;exact .inl ⟨(U.turn b s' B u' u r).2,a b B z .refl u L⟩
abbrev Lc:=Á (Str × Ê Nat)
def BD (l:Lc)(env:En):En:=l.map λ p=>p.2.bind λ j=>(env[j]?).join
def ER.src (h:ER T ρ H env c)(l:Lc):ER T ρ H (BD l env) (BE l c):=by
 refine⟨by simp[BD,BE],λ i v e=>?_⟩;unfold BD at e;unfold BE;rw[è]at e ⊢;cases b:l[i]? with
 | none=>rw[b]at e;cases e
 | some p=>
  rw[b]at e;obtain⟨n,o⟩:=p;cases o with
  | none=>cases e
  | some j=>
   have e:À ((env[j]?).join)=À (À v):=e;have d:env[j]? = À (À v):=by
    cases a:env[j]? with
    | none=>rw[a]at e;cases e
    | some q=>rw[a]at e;cases e;rfl
   obtain⟨x,f,k⟩:=h.get j v d;exact⟨x,by show À ((c[j]?).join)=_;rw[f];rfl,k⟩
def ES:jg:=λ _ _ _ _=>False
def R.calm {α:Type}:R α->R α
 | .ex _ _=>.bad
 | r=>r
@[simp] theorem B2 (a:α) (s:S):(R.ok a s).calm=.ok a s:=rfl
@[simp] theorem zg:(R.bad:R α).calm=.bad:=rfl
def gm:Eb:=λ _ s=>.ok true s
def ſ (e:Mt)(a:Eb)(d:Ev)(gs:Gd):Á AV->En->S->Á AV->R (Á AV)
 | [],f,s,c=>open Classical in if vh gs s then .ok c s else .bad
 | v :: r,f,s,c=>open Classical in if vh gs s then (match e v f s with
   | .nx g i=>(a g i).calm.bind λ b h=>if b=true then (d g h).calm.bind λ x j=>ſ e a d gs r g j (c++[x]) else ſ e a d gs r g h c
   | _=>.bad) else .bad
def Ů (l:Lc)(d:Src)(e:Mt)(b:Eb)(c:Ev):fu:=λ a s=>(d a s).bind λ p f=>if p.1.length<=sizeLine then ſ e b c p.2 p.1 (BD l a) f [] else .bad
def Ht:I_ X [] (jV T XE gm):=λ a s e H Q I ⟨g,b,st,d,f,c⟩=>La a s e H Q I (v_ c d)
def Hu (h:PT X c (jV T XE m)):I_ X [c] (jV T XE m):=Lb h
def B6 (h:tL T XE (Ů l src G n B) σ H Q):HW l (tW T XE src) (tT T ES G) (jV T ES n) (tE T ES B) σ H Q:=by
 obtain⟨ρ,C,s,hs,he,u⟩:=h;refine⟨ρ,C,s,hs,he,?_⟩;unfold Ů at u;cases e:src C s with
 | bad=>rw[e]at u;exact u
 | ex c s1=>rw[e]at u;exact u
 | ok p s1=>
  rw[e]at u;obtain⟨xs,gs⟩:=p;obtain⟨y,u⟩:=u.Œ;have y:xs.length<=sizeLine:=y;intro o H1 J u1 w wk D O;have wk:Walks T o H1 xs gs J:=wk;have nD:D∉o:=w.out O;refine⟨λ i m U Uu A=>m=xs.length - i/\i<=xs.length/\U.length<=i/\∃ f g s' j,Up o H1 f A/\SR T f s' A/\ER T f A g Uu/\A D=À (.lst U)/\D∉f/\ĩ T f A j U/\Out T XE (rL T) ρ H (ſ G n B gs (xs.drop i) g s' j) Q,
   ⟨_,rfl,ï _,Ì _,o,BD l C,s1,[],w.du O,w.new O,((he.up u1).up (w.du O)).src l,ù,nD,.nil,u⟩,?_⟩
  rintro i m U Uu A ⟨rfl,hi,hy,f,g,s',j,u',F,Yy,hd,XH,ka,d⟩;by_cases t:i < xs.length
  ·rw[yM t]at d;unfold ſ at d;obtain⟨E,d⟩:=d.Œ;obtain⟨w1,w2⟩:=(wk.turn f s' A u' F E).1 i xs[i] (Å t);refine .inr ⟨w1,λ x H'' Zb=>?_⟩;obtain⟨y1,y2,y3⟩:=w2 x H'' Zb;refine⟨f,g,s',xs[i],y2,Yy.up y1,y3,?_⟩;have Y:=y1.fr D _ hd XH;have Zd:=ka.up y1;cases N:G xs[i] g s' with
   | nx M s2=>
    simp only[N]at d;refine λ Ut H2 Uw u2 Po q=>⟨Ut,M,s2,Po,q,?_⟩
    have Z:=u2.fr D _ Y.1 Y.2;have Ze:=Zd.up u2;cases eb:n M s2 with
    | bad=>simp only[eb,zg,o_]at d;exact d.elim
    | ex c s3=>simp only[eb,R.calm,o_]at d;exact d.elim
    | ok b s3=>
     simp only[eb,B2,ó]at d;intro I H3 b' P X0 Yv;cases (show b=b' from Yv);have r:=P.fr D _ Z.1 Z.2;have XG:=Ze.up P;have X5:Up o H1 I H3:=((u'.trans y1).trans u2).trans P;cases b with
     | false=>
      rw[Ô (by decide)]at d ⊢;exact⟨xs.length - (i+1),by lia,rfl,t,by lia,I,M,s3,j,X5,X0,q.up P,r.1,r.2,XG,d⟩
     | true=>
      rw[Ï rfl]at d ⊢;refine⟨I,M,s3,X0,q.up P,?_⟩;cases ev:B M s3 with
      | bad=>simp only[ev,zg,o_]at d;exact d.elim
      | ex c s4=>simp only[ev,R.calm,o_]at d;exact d.elim
      | ok v s4=>
       simp only[ev,B2,ó]at d;intro L H4 x4 u4 ZH ZN;have k:=u4.fr D _ r.1 r.2;have Zf:=XG.up u4;have g5:Gr L H4 L (upd H4 D (.lst (U++[x4]))):=Ve k.1;refine⟨k.1,by lia,xs.length - (i+1),by lia,rfl,t,by rw[ă];exact MP hy,L,M,s4,j++[v],(X5.trans u4).mod O k.2,ZH.up g5 λ a ha=>ä λ z=>k.2 (z ▸ ha),((q.up P).up u4).gr g5,ù,k.2,(Zf.append (.one ZN)).gr g5,d⟩
   | ex c s1=>simp only[N]at d;exact d.elim
   | rt v s2=>simp only[N]at d;exact d.elim
   | bk v s2=>simp only[N]at d;exact d.elim
   | ct v s2=>simp only[N]at d;exact d.elim
   | bad=>simp only[N]at d;exact d.elim
  ·have e:i=xs.length:=by lia
   subst e;rw[LZ]at d;unfold ſ at d;obtain⟨E,d⟩:=d.Œ;exact .inl ⟨(wk.turn f s' A u' F E).2,d f A (.ref D) (u1.trans u') F ⟨D,U,rfl,u1.live D O,XH,hd,ka⟩⟩
def Kv (l:Lc)(g:eB X scope l)(b:X.calm=true)(p:PI X m a (tW T XE j))
  (o:∀ cl C c d A,PG (ź X l scope cl C c d A) m (tT T ES k)) (r:∀ cl C c d A,I_ (ź X l scope cl C c d A) i (jV T ES e)) (n:∀ cl C c d A,PE (ź X l scope cl C c d A) f (tE T ES s))
  (q:∀ x,dX a X.env x=pure x:=by intro _;rfl):PE X (.ListComp f [⟨m,a,i,0⟩] scope pos) (tL T XE (Ů l j k e s)):=
 PE.imp (K1 l g b p o r n q) λ _ _ _ h=>B6 h
def Om (h:tE T XE (ŀ r) v H Q):tL T XE r v H Q:=by
 obtain⟨t,f,s,p,o,b⟩:=h;refine⟨t,f,s,p,o,?_⟩;unfold ŀ at b;cases e:r f s with
 | bad=>rw[e]at b;exact b
 | ex c q=>rw[e]at b;exact b
 | ok w q=>
  rw[e]at b;rintro d A x u i ⟨a,y,j,l,m,n,k⟩;subst j;have g:Gr d A (d++[a]) A:=⟨fo _ _,λ _ _ z=>z,λ _ _ _ z=>z⟩
  refine b (d++[a]) A (.ref a) (u.add l) (i.add m (OR.lst n (k.gr g))) (oF (T:=T) (H:=A) ?_);rw[á (by rw[i.len];exact Ì _),i.len,sY];rfl
def Bi (l:Lc)(k:eB X scope l)(b:X.calm=true)(q:X.N.Nodup)(t:PI X o a (tW T XE n))
  (s:∀ cl C d f A,PG (ź X l scope cl C d f A) o (tT T ES p)) (v:∀ cl C d f A,I_ (ź X l scope cl C d f A) e (jV T ES j)) (r:∀ cl C d f A,PE (ź X l scope cl C d f A) c (tE T ES B))
  (z:X.N[i]? = À y:=by rfl) (w:X.env.scope.names.lookup y=À .local:=by rfl)
  (m:dJ (.ListComp c [⟨o,a,e,0⟩] scope pos) (À (.Name y E)) g.line X.env=pure true:=by rfl)
  (u:∀ x,dX a X.env x=pure x:=by intro _;rfl) :
  PS X (.Assign [.Name y E] (.ListComp c [⟨o,a,e,0⟩] scope pos) g) (tS T XE (ŷ i (ŀ (Ů l n p j B)))):=
 PS.imp (Bv l k b q z w t s v r m u) λ D F H h=>B6 (Om (Fe h))
def dN (n:Nat)(body:Ms):Á AV->S->R AV:=λ a s=>match body (a.map À++ã (n - a.length) none) s with
 | .rt v b=>.ok v b
 | .nx _ b=>.ok .Ę b
 | .ex c b=>.ex c b
 | _=>.bad
def zu (N:Á Str)(k:ĩ T ρ H args vs):ER T ρ H (args.map À++ã (N.length - args.length) none) (L2.start N vs):=by
 refine⟨by simp[L2.start,k.length],λ i v e=>?_⟩;unfold L2.start;have a:i < args.length:=by
  by_cases a:i < args.length
  ·exact a
  ·rw[á (by simpa using a),lU]at e;split at e<;>cases e
 rw[Û (by simpa using a),è]at e;cases b:args[i]? with
 | none=>rw[b]at e;cases e
 | some w=>
  rw[b]at e;cases e;obtain⟨x,c,q⟩:=k.get b;exact⟨x,by rw[Û (by simpa[<-k.length]using a),è,c];rfl,q⟩
def ę (n:Nat)(F:Á AV->S->R AV)(r:fu):Ev:=λ a s=>(r a s).bind λ b c=>if b.length=n then F b c else .bad
end
end Mm
namespace Ro
open PySem L2
def xD (top a:Int):Int:=if a < 0 then -((Ř top a:Nat):Int) else ((Ř top a:Nat):Int)
def fr (top a:Int):Int × Int:=(top.fdiv (xD top a),a.fdiv (xD top a))
def sM (h:b≠0):0 < Ř t b:=Int.gcd_pos_of_ne_zero_right t h
def A7 (t b:Int):(xD t b).natAbs=Ř t b:=by
 unfold xD;split<;>lia
def DJ (t b:Int):xD t b ∣ t:=by
 unfold xD;split
 ·exact(Wx).mpr (vk ..)
 ·exact vk ..
def DK (t b:Int):xD t b ∣ b:=by
 unfold xD;split
 ·exact(Wx).mpr (sV ..)
 ·exact sV ..
def rj {a g:Int}(h:g ∣ a):a.fdiv g * g=a:=Int.fdiv_mul_cancel h
def FP (h:y ∣ x * v)(b:Ř x y=1):y ∣ v:=by
 have a:y.natAbs ∣ x.natAbs * v.natAbs:=by rw[<-Qb];exact EI.mpr h
 have c:Nat.Coprime y.natAbs x.natAbs:=by
  show Nat.gcd y.natAbs x.natAbs=1;rw[Nat.gcd_comm];exact b
 exact EI.mp (c.dvd_of_dvd_mul_left a)
def Rw (t b:Int):(fr t b).1 * xD t b=t:=rj (DJ t b)
def Nn (t b:Int):(fr t b).2 * xD t b=b:=rj (DK t b)
def F2 (t b:Int)(h:b≠0):(fr t b).1 * b=t * (fr t b).2:=by
 have a:=Rw t b;have c:=Nn t b;generalize (fr t b).1=x at *
 generalize (fr t b).2=y at *
 generalize xD t b=g at *
 subst a;rw[<-c];rw[m7 y g,<-Int.mul_assoc,j8]
def Nm (t b:Int)(h:b≠0):1<=(fr t b).2:=by
 have f:=Nn t b;have i:=sM (t:=t) h;have d:(xD t b < 0/\b < 0)∨(0 < xD t b/\0 < b):=by
  unfold xD;split
  ·left;lia
  ·right;lia
 generalize (fr t b).2=y at *
 generalize xD t b=g at *
 rcases d with⟨a,c⟩|⟨a,c⟩
 ·refine X9.mp λ e=>?_;have:0<=y * g:=Int.mul_nonneg_of_nonpos_of_nonpos (by lia) (by lia);lia
 ·refine X9.mp λ e=>?_;have:y * g<=0:=Int.mul_nonpos_of_nonpos_of_nonneg (by lia) (by lia);lia
def Nl (t b:Int)(h:b≠0):Ř (fr t b).1 (fr t b).2=1:=by
 have a:=Rw t b;have c:=Nn t b;have d:=sM (t:=t) h;have f:=A7 t b;have e:Ř ((fr t b).1 * xD t b) ((fr t b).2 * xD t b)=Ř (fr t b).1 (fr t b).2 * (xD t b).natAbs:=Int.gcd_mul_right ..;rw[a,c,f]at e;have:1 * Ř t b=Ř (fr t b).1 (fr t b).2 * Ř t b:=by rw[Nat.one_mul];exact e
 exact(Nat.eq_of_mul_eq_mul_right d this).symm
def JT (a:b≠0)(n:1<=y)(h:Ř x y=1)(i:x * b=t * y):fr t b=(x,y):=by
 have o:=Nm t b a;have l:=Nl t b a;have m:=F2 t b a;have e:x * (fr t b).2=(fr t b).1 * y:=by
  refine yL a ?_;have d:x * (fr t b).2 * b=x * b * (fr t b).2:=j8 ..;have f:(fr t b).1 * y * b=(fr t b).1 * b * y:=j8 ..;rw[d,f,i,m,j8]
 generalize j:(fr t b).1=u at *
 generalize k:(fr t b).2=v at *
 have d1:y ∣ v:=by
  have:y ∣ x * v:=⟨u,by rw[e,m7]⟩
  exact FP this h
 have d2:v ∣ y:=by
  have:v ∣ u * y:=⟨x,by rw[<-e,m7]⟩
  exact FP this l
 have c:v=y:=Int.dvd_antisymm (by lia) (by lia) d2 d1;have g:u=x:=by
  rw[c]at e;exact(yL (by lia) e).symm
 rw[show fr t b=(u,v) from by rw[<-j,<-k],g,c]
def low (top a:Int):Int × Int:=
 (((if a < 0 then -1 else 1) * top).fdiv ((Ř top a:Nat):Int),((if a < 0 then -1 else 1) * a).fdiv ((Ř top a:Nat):Int))
def NL (t b:Int)(g:b≠0):low t b=fr t b:=by
 unfold low fr xD;by_cases h:b < 0
 ·rw[Ï h,Ï h];have j:=sM (t:=t) g;have d:∀ a:Int,((Ř t b:Nat):Int) ∣ a->(-1 * a).fdiv ((Ř t b:Nat):Int)=a.fdiv (-((Ř t b:Nat):Int)):=by
   rintro a ⟨c,i⟩;rw[i];have e:(-1 * (((Ř t b:Nat):Int) * c))=(-c) * ((Ř t b:Nat):Int):=by
    rw[Wy,EV,m7,Wy]
   have f:(((Ř t b:Nat):Int) * c)=(-c) * (-((Ř t b:Nat):Int)):=by
    rw[Int.neg_mul_neg,m7]
   rw[e,IF _ (by lia),f,IF _ (by lia)]
  rw[d t (vk ..),d b (sV ..)]
 ·rw[Ô h,Ô h,EV,EV]
def boot_abs:Ĭ "abs"=À (.builtin "abs"):=by decide +kernel
def boot_divmod:Ĭ "divmod"=À (.builtin "divmod"):=by decide +kernel
def boot_list:Ĭ "list"=À (.type "list"):=by decide +kernel
def boot_tuple:Ĭ "tuple"=À (.type "tuple"):=by decide +kernel
def boot_int:Ĭ "int"=À (.type "int"):=by decide +kernel
def boot_bool:Ĭ "bool"=À (.type "bool"):=by decide +kernel
def boot_str:Ĭ "str"=À (.type "str"):=by decide +kernel
def boot_isinstance:Ĭ "isinstance"=À (.builtin "isinstance"):=by decide +kernel
def boot_all:Ĭ "all"=À (.builtin "all"):=by decide +kernel
def Zg:¬ (("cells":Str)="turn"):=by decide +kernel
def VL:(10:Int) ^ (18:Int).toNat=1000000000000000000:=by decide +kernel
end Ro
namespace L2
open PySem PySem.Spec PyProof.Rows
def Qw (K:É)(H:Hp)(x:V)(t:String):Prop:=match x with
 | .Ę=>t="NoneType"
 | .bl _=>t="bool"
 | .int _=>t="int"
 | .str _=>t="str"
 | .ref a=>(t="tuple"/\∃ xs,fM K H a xs)∨(t="list"/\∃ xs,eS K H a xs)∨(t="dict"/\((∃ b,H a=À (.dK b))∨∃ b,H a=À (.dT b)))
 | _=>False
def VO (K:É):Á V->Hp->VK->Prop:=λ xs H Q=>∃ (t:String) (x:V) (n:String) (b:Bool),xs=[x,.ty n]/\Qw K H x t/\nq K (.type t) (.type n)=À b/\Q (.bl b) H
def Fq:bx X (.builtin "isinstance") (VO X.K):=by
 intro i s D H xs us Q I r h;obtain⟨t,x,n,b,rfl,hd,e,q⟩:=h;obtain⟨u,B,rfl,j,w⟩:=vals2 r;obtain rfl:B=dz n:=w;have c:∀ A,EP X i D Q (.bool b) { s with toks:=A }:=λ A=>⟨.bl b,H,I.tok A,rfl,q⟩
 cases x with
 | Ę=>cases (show t=_ from hd);exact mT I j .Ę e c
 | bl y=>cases (show t=_ from hd);exact mT I j (.bl y) e c
 | int y=>cases (show t=_ from hd);exact mT I j (.int y) e c
 | str y=>cases (show t=_ from hd);exact mT I j (.str y) e c
 | ref a=>
  cases j;rcases hd with⟨rfl,C,v⟩|⟨rfl,C,v⟩|⟨rfl,g⟩
  ·obtain⟨l,_,p,_⟩:=I.tuple v;obtain⟨o,d,f,_⟩:=p;exact Ĳ C9 I.ll ⟨o,d,f⟩ e (λ z=>nomatch z) c
  ·obtain⟨l,_,p,_⟩:=I.list v;obtain⟨o,d,f,_⟩:=p.isList;exact Ĳ p_ I.ll ⟨o,d,f⟩ e (λ z=>nomatch z) c
  ·have z:∃ o,s.heap.get? a=À o/\o.ExactDict:=by
    rcases g with⟨m,g⟩|⟨m,g⟩
    ·obtain⟨_,_,_,_,o,_,_,e,k,_⟩:=I.ś a _ g;exact⟨o,e,k⟩
    ·obtain⟨_,_,_,_,o,_,_,e,k,_⟩:=I.ś a _ g;exact⟨o,e,k⟩
   obtain⟨o,d,f⟩:=z;exact Ĳ p8 I.ll ⟨o,d,f.1⟩ e (λ z=>nomatch z) c
 | AY y=>exact ag hd
 | Mb y=>exact ag hd
 | ty y=>exact ag hd
end L2
namespace Mm
open PySem L2
section
variable {T:Tx}{XE:jg}{X:Cx}{pos:kK}
def SO (T:Tx)(XE:jg)(c:Á AV->S->R AV):Á V->Hp->VK->Prop:=λ d H Q=>∃ b a s,SR T b s H/\ĩ T b H a d/\Out T XE (rV T) b H (c a s) Q
def Uj {α:Type}(T:Tx)(XE:jg)(e:Rl α V)(d:Á AV->S->R α):Á V->Hp->VK->Prop:=λ f H Q=>∃ a b c xs s,f=[.ref a]/\SR T c s H/\(eS T.K H a b∨fM T.K H a b)/\ĩ T c H xs b/\Out T XE e c H (d xs s) Q
def xR (b:Á AV->S->R AV)(r:fu):Ev:=λ a s=>(r a s).bind b
def pT {α:Type}(b:Á AV->S->R α)(r:fu):En->S->R α:=λ a s=>(r a s).bind b
def QE (h:tE T XE (xR k r) m H Q):P9 (SO T XE k) (tP T XE r) m H Q:=by
 obtain⟨o,e,s,j,g,i⟩:=h;exact step j g i λ v l d A x _ n b f c a=>⟨d,v,l,b,c,a⟩
def QH (h:tG T XE n (pT m r) t H Q):P9 (Uj T XE n m) (uS (tQ T XE r) yo) t H Q:=by
 obtain⟨w,f,s,l,i,j⟩:=h;refine step l i j λ v o e A x _ u c g d b=>?_;obtain⟨a,p,rfl,q,k⟩:=d;exact⟨a,p,e,v,o,rfl,c,q,k,b⟩
def NP {id:String}{d:Á AV->S->R AV}{a:Á Expr}{r:fu}(g:bx X (.builtin id) (SO T XE d)) (k:X.mg x=none)(m:Ĭ x=À (.builtin id)) (f:PA X (e :: a) (tP T XE r)) (j:Gl X x:=by rfl)(l:x≠"__name__":=by decide)(b:(x == ("__debug__":Str))=false:=by decide)
  (i:Í (e :: a) X.env=(false,Ē e X.env) :: Í a X.env:=by rfl) (c:(Ĝ pos (Í a X.env)).any (·.1)=false:=by rfl):PE X (.Call (.Name x p) (e :: a) [] pos) (tE T XE (xR d r)):=
 PE.imp (cM g j k m f l b i c) λ _ _ _ h=>QE h
def Si {α:Type}{f:Rl α V}{id:String}{d:Á AV->S->R α}{r:fu}(i:bx X (.type id) (Uj T XE f d)) (k:X.mg x=none)(m:Ĭ x=À (.type id)) (g:PE X e (tQ T XE r)) (j:Gl X x:=by rfl)(l:x≠"__name__":=by decide)(a:(x == ("__debug__":Str))=false:=by decide)
  (c:Í [e] X.env=(false,Ē e X.env) :: Í [] X.env:=by rfl) (b:(Ĝ pos (Í [] X.env)).any (·.1)=false:=by rfl):PE X (.Call (.Name x p) [e] [] pos) (tG T XE f (pT d r)):=
 PE.imp (Eh i j k m (aI g eh c) l a c b) λ _ _ _ h=>QH h
def wy:Á AV->S->R AV
 | [.int i],s=>.ok (.int (if i < 0 then -i else i)) s
 | _,_=>.bad
def ĩ.ly (h:ĩ T ρ H [v] xs):∃ x,xs=[x]/\VR T ρ H v x:=by
 obtain⟨x,c,rfl,a,b⟩:=h.cons_inv;cases b.nil_inv;exact⟨x,rfl,a⟩
def ĩ.two_inv (h:ĩ T ρ H [v,w] xs):∃ x y,xs=[x,y]/\VR T ρ H v x/\VR T ρ H w y:=by
 obtain⟨x,d,rfl,a,b⟩:=h.cons_inv;obtain⟨y,rfl,c⟩:=b.ly;exact⟨x,y,rfl,a,c⟩
def cAbs:bx X (.builtin "abs") (SO T XE wy):=by
 rintro a s f H xs us Q I r ⟨g,c,st,d,e,b⟩;unfold wy at b;split at b
 ·obtain⟨x,rfl,k⟩:=e.ly;cases k.int_inv;exact Fp a s f H _ us Q I r ⟨_,rfl,b.Ľ d cj⟩
 ·exact b.elim
def Sv:Á AV->S->R AV
 | [.int i,.int j],s=>.ok (.int (if j < i then j else i)) s
 | _,_=>.bad
def mz:Á AV->S->R AV
 | [.int i,.int j],s=>if 0 < j/\MX j then .ok (.tup [.int (i / j),.int (i % j)]) s else .bad
 | _,_=>.bad
def JB:bx X (.builtin "divmod") (SO T XE mz):=by
 rintro b s i H xs us Q I r ⟨j,c,st,g,h,a⟩;unfold mz at a;split at a
 ·obtain⟨x,y,rfl,k,e⟩:=h.two_inv;cases k.int_inv;cases e.int_inv;obtain⟨hl,a⟩:=a.Œ;exact xl b s i H _ us Q I r ⟨_,_,rfl,⟨hl.1,hl.2.f⟩,λ p d=>a.tup g d (.cons cj (.one cj))⟩
 ·exact a.elim
def MA:Á AV->S->R AV
 | [.int i],s=>.ok (.int i) s
 | [.bl b],s=>.ok (.int (if b then 1 else 0)) s
 | _,_=>.bad
def i6:Á AV->S->R AV
 | [.str z],s=>if z.length<=sizeLine then .ok (.int z.length) s else .bad
 | [v],s=>need (items v s) λ xs=>.ok (.int xs.length) s
 | _,_=>.bad
def U5 (j:X.K=T.K):bx X (.builtin "len") (SO T XE i6):=by
 rintro c s g H xs us Q I r ⟨n,d,st,f,h,b⟩;have rest:∀ v,d=[v]->Out T XE (rV T) n H (need (items v st) λ xs=>.ok (.int xs.length) st) Q->Ú (à X.prog X.w) X.A (call (.builtin "len") us) (EP X c g Q) X.xe s:=by
  rintro v rfl b;obtain⟨o,e,b⟩:=b.î;obtain⟨x,rfl,k⟩:=h.ly;obtain⟨a,m,rfl,i,l⟩:=mU e f k;exact xm c s g H _ us Q I r ⟨a,m,rfl,by rw[j];exact i,by rw[<-l.length];exact b.Ľ f cj⟩
 unfold i6 at b;split at b
 ·obtain⟨x,rfl,k⟩:=h.ly;cases k.str_inv;obtain⟨hl,b⟩:=b.Œ;exact xo c s g H _ us Q I r ⟨_,rfl,hl,b.Ľ f cj⟩
 ·exact rest _ rfl b
 ·exact b.elim
def lF:Á AV->Ê (Á Int)
 | []=>À []
 | .int i :: r=>(lF r).map (i :: ·)
 | _ :: _=>none
def vv:Á AV->Ê (Á Bool)
 | []=>À []
 | .bl i :: r=>(vv r).map (i :: ·)
 | _ :: _=>none
theorem wa:∀ {l:Á AV}{ns:Á Int},lF l=À ns->l=ns.map .int
 | [],_,h=>by cases h;rfl
 | v :: r,ns,h=>by
  cases v<;>try cases h
  rename_i i;cases e:lF r with
  | none=>rw[show lF (.int i :: r)=(lF r).map (i :: ·) from rfl,e]at h;cases h
  | some q=>
   rw[show lF (.int i :: r)=(lF r).map (i :: ·) from rfl,e]at h;cases h;rw[wa e];rfl
theorem zd:∀ {l:Á AV}{ns:Á Bool},vv l=À ns->l=ns.map .bl
 | [],_,h=>by cases h;rfl
 | v :: r,ns,h=>by
  cases v<;>try cases h
  rename_i i;cases e:vv r with
  | none=>rw[show vv (.bl i :: r)=(vv r).map (i :: ·) from rfl,e]at h;cases h
  | some q=>
   rw[show vv (.bl i :: r)=(vv r).map (i :: ·) from rfl,e]at h;cases h;rw[zd e];rfl
@[simp] theorem qv (ns:Á Int):lF (ns.map .int)=À ns:=by
 induction ns with
 | nil=>rfl
 | cons a r b=>show(lF (r.map .int)).map (a :: ·)=_;rw[b];rfl
def Em (xs:Á AV)(s:S):R AV:=need (vv xs) λ a=>.ok (.bl (a.all id)) s
def P8 {α:Type}(T:Tx)(XE:jg)(e:Rl α V)(d:Á AV->S->R α):Á V->Hp->VK->Prop:=λ f H Q=>∃ a c b xs s,f=[.ref a]/\SR T b s H/\H a=À (.lst c)/\ĩ T b H xs c/\Out T XE e b H (d xs s) Q
def QG (h:tG T XE n (pT m r) t H Q):P9 (P8 T XE n m) (uS (tL T XE r) yo) t H Q:=by
 obtain⟨w,f,s,l,i,j⟩:=h;refine step l i j λ v o e A x _ u c g d b=>?_;obtain⟨a,p,rfl,_,_,q,k⟩:=d;exact⟨a,p,e,v,o,rfl,c,q,k,b⟩
def sd (m:Ev):fu:=λ a s=>(m a s).bind λ v b=>match v with
 | .ref i=>need (ô b i) λ xs=>.ok xs b
 | _=>.bad
def M' (h:tG T XE u (pT n (sd m)) y H Q):P9 (P8 T XE u n) (uS (tE T XE m) yo) y H Q:=by
 obtain⟨B,c,s,t,r,o⟩:=h;have e:pT n (sd m) c s=(m c s).bind λ v f=>(match v with
   | .ref i=>need (ô f i) λ xs=>(.ok xs f:R (Á AV))
   | _=>.bad).bind n:=by
  unfold pT sd;cases m c s<;>rfl
 rw[e]at o;refine step t r o λ v f j A x _ z g p d b=>?_;have d:VR T j A v x:=d;cases v with
 | ref i=>
  cases l:ô f i with
  | none=>simp only[l]at b;exact b.elim
  | some xs=>
   simp only[l,å,ó]at b;obtain⟨a,w,rfl,_,q,k⟩:=g.dP (ď l) d;exact⟨a,w,j,xs,f,rfl,g,q,k,b⟩
 | _=>exact b.elim
def Sh {α:Type}{f:Rl α V}{id:String}{d:Á AV->S->R α}{r:fu}(i:bx X (.builtin id) (P8 T XE f d)) (k:X.mg x=none)(m:Ĭ x=À (.builtin id)) (g:PE X e (tL T XE r)) (j:Gl X x:=by rfl)(l:x≠"__name__":=by decide)(a:(x == ("__debug__":Str))=false:=by decide)
  (c:Í [e] X.env=(false,Ē e X.env) :: Í [] X.env:=by rfl) (b:(Ĝ pos (Í [] X.env)).any (·.1)=false:=by rfl):PE X (.Call (.Name x p) [e] [] pos) (tG T XE f (pT d r)):=
 PE.imp (cM i j k m (aI g eh c) l a c b) λ _ _ _ h=>QG h
def Mw {α:Type}{f:Rl α V}{id:String}{d:Á AV->S->R α}{r:Ev}(i:bx X (.builtin id) (P8 T XE f d)) (k:X.mg x=none)(m:Ĭ x=À (.builtin id)) (g:PE X e (tE T XE r)) (j:Gl X x:=by rfl)(l:x≠"__name__":=by decide)(a:(x == ("__debug__":Str))=false:=by decide)
  (c:Í [e] X.env=(false,Ē e X.env) :: Í [] X.env:=by rfl) (b:(Ĝ pos (Í [] X.env)).any (·.1)=false:=by rfl):PE X (.Call (.Name x p) [e] [] pos) (tG T XE f (pT d (sd r))):=
 PE.imp (cM i j k m (aI g eh c) l a c b) λ _ _ _ h=>M' h
def QA (f:X.calm=true):bx X (.builtin "all") (P8 T XE (rV T) Em):=by
 rintro b s i H xs us Q I r ⟨a,j,m,l,st,e,h,d,k,c⟩;subst e;obtain⟨g,e,c⟩:=c.î;rw[zd e]at k;rw[k.B1]at d;exact Dw f b s i H _ us Q I r ⟨a,g,rfl,eS.of d,c.Ľ h cO⟩
def uB (xs:Á AV)(s:S):R (Á AV):=.ok xs s
def QB (d:X.K=T.K):bx X (.type "list") (Uj T XE (rL T) uB):=by
 rintro b s i H xs us Q I r ⟨a,h,m,j,st,e,g,c,k,f⟩;subst e;exact xq b s i H _ us Q I r ⟨a,h,rfl,by rw[d];exact c,λ l hl=>f.lst g hl k⟩
def qP (xs:Á AV)(s:S):R AV:=.ok (.tup xs) s
def M9 (c:X.K=T.K):bx X (.type "tuple") (Uj T XE (rV T) qP):=by
 rintro b s h H xs us Q I r ⟨a,g,j,i,st,e,f,h1,k,d⟩;subst e;refine vw b s h H _ us Q I r ⟨a,g,rfl,?_⟩;rcases h1 with h1|h1
 ·exact .inl ⟨by rw[c];exact h1,λ l hl=>d.tup f hl k⟩
 ·exact .inr ⟨by rw[c];exact h1,d.Ľ f (i_ h1 k)⟩
def CW (v:AV)(s:S):Ê String:=match v with
 | .Ę=>À "NoneType"
 | .bl _=>À "bool"
 | .int _=>À "int"
 | .str _=>À "str"
 | .tup _=>À "tuple"
 | .sq _=>À "list"
 | .ref i=>match s[i]? with
  | some (.lst _)=>À "list"
  | some (.dK _)=>À "dict"
  | some (.dT _)=>À "dict"
  | _=>none
def fj:Á String:=["NoneType","bool","int","str","tuple","list","dict"]
def fE (t n:String):Bool:=t == n || (t == "bool" && n == "int")
def NF (b:t∈fj)(a:n∈fj):nq K (.type t) (.type n)=À (fE t n):=by
 simp only[fj,Þ,ÿ,aw]at b a;rcases b with rfl|rfl|rfl|rfl|rfl|rfl|rfl<;>rcases a with rfl|rfl|rfl|rfl|rfl|rfl|rfl<;>rfl
def LL (h:CW v s=À t)(m:SR T ρ s H)(j:VR T ρ H v x):Qw T.K H x t/\t∈fj:=by
 cases v with
 | Ę=>cases j.iy;cases h;exact⟨rfl,by simp[fj]⟩
 | bl c=>cases j.iO;cases h;exact⟨rfl,by simp[fj]⟩
 | int c=>cases j.int_inv;cases h;exact⟨rfl,by simp[fj]⟩
 | str c=>cases j.str_inv;cases h;exact⟨rfl,by simp[fj]⟩
 | tup c=>obtain⟨a,f,rfl,d,k⟩:=j.b0;cases h;exact⟨.inl ⟨rfl,f,d⟩,by simp[fj]⟩
 | sq c=>obtain⟨a,f,rfl,d,k⟩:=j.hI;cases h;exact⟨.inr (.inl ⟨rfl,f,d.Ew⟩),by simp[fj]⟩
 | ref i=>
  have h:(match s[i]? with
  | some (.lst _)=>À "list"
  | some (.dK _)=>À "dict"
  | some (.dT _)=>À "dict"
  | _=>none)=À t:=h
  obtain⟨a,l,rfl⟩:=j.fi;split at h
  ·rename_i xs e;cases h;obtain⟨b,g,f,d,_⟩:=m.obj i _ e;rw[l]at g;cases g;exact⟨.inr (.inl ⟨rfl,f,eS.of d⟩),by simp[fj]⟩
  ·rename_i xs e;cases h;obtain⟨b,g,f,d,_⟩:=m.obj i _ e;rw[l]at g;cases g;exact⟨.inr (.inr ⟨rfl,.inl ⟨f,d⟩⟩),by simp[fj]⟩
  ·rename_i xs e;cases h;obtain⟨b,g,f,d,_⟩:=m.obj i _ e;rw[l]at g;cases g;exact⟨.inr (.inr ⟨rfl,.inr ⟨f,d⟩⟩),by simp[fj]⟩
  ·cases h
def gu (n:String)(v:AV)(s:S):R AV:=need (CW v s) λ t=>.ok (.bl (fE t n)) s
def N0 (y:X.K=T.K)(C:n∈fj)(B:X.mg "isinstance"=none)(i:X.mg nm=none)(l:Ĭ nm=À (.type n)) (z:PE X e (tE T XE m)) (A:Gl X "isinstance":=by rfl)(h:Gl X nm:=by rfl)(j:nm≠"__name__":=by decide)(f:(nm == ("__debug__":Str))=false:=by decide)
  (d:Í [e,.Name nm b] X.env=(false,Ē e X.env) :: Í [.Name nm b] X.env:=by rfl) (g:Í [.Name nm b] X.env=(false,Ē (.Name nm b) X.env) :: Í [] X.env:=by rfl) (k:(Ĝ pos (Í [.Name nm b] X.env)).any (·.1)=false:=by rfl) :
  PE X (.Call (.Name "isinstance" p) [e,.Name nm b] [] pos) (tE T XE (aH (gu n) m)):=
 PE.imp (cM Fq A B Ro.boot_isinstance (aI z (aI (CK (v:=.ty n) h i l rfl j f) eh g) d) (by decide) (by decide) d k) λ N H Q F=>Ņ F λ M q s E d D=>
  step E d D λ v J G I x _ L c r o a=>by
   obtain⟨t,e,a⟩:=a.î;obtain⟨u,w⟩:=LL e c o;exact⟨t,x,n,_,rfl,by rw[y];exact u,NF w C,a.Ľ c cO⟩
def Uk (T:Tx)(XE:jg)(c:AV->Á AV->S->R AV):V->Á V->Hp->VK->Prop:=λ x xs H Q=>∃ a v b s,SR T a s H/\VR T a H v x/\ĩ T a H b xs/\Out T XE (rV T) a H (c v b s) Q
def km (n:String)(v:AV)(s:S):Ê Unit:=match v,n with
 | .str _,"str"=>À ()
 | .sq _,"list"=>À ()
 | .ref i,"list"=>(ô s i).map λ _=>()
 | .ref i,"dict"=>match s[i]? with
  | some (.dK _)=>À ()
  | some (.dT _)=>À ()
  | _=>none
 | _,_=>none
def t5 (h:km n v s=À ()) (j:SR T ρ s H)(g:VR T ρ H v x):Um T.K n x H:=by
 unfold km at h;split at h
 ·cases g.str_inv;rfl
 ·obtain⟨a,d,rfl,c,k⟩:=g.hI;exact .inl ⟨rfl,d,c.Ew⟩
 ·rename_i i;cases e:ô s i with
  | none=>rw[e]at h;cases h
  | some xs=>
   obtain⟨a,d,rfl,_,c,k⟩:=j.dP (ď e) g;exact .inl ⟨rfl,d,eS.of c⟩
 ·rename_i i;obtain⟨a,l,rfl⟩:=g.fi;split at h
  ·rename_i xs e;obtain⟨b,f,d,c,_⟩:=j.obj i _ e;rw[l]at f;cases f;exact .inr (.inr (.inl ⟨rfl,.inl ⟨d,c⟩⟩))
  ·rename_i xs e;obtain⟨b,f,d,c,_⟩:=j.obj i _ e;rw[l]at f;cases f;exact .inr (.inr (.inl ⟨rfl,.inr ⟨d,c⟩⟩))
  ·cases h
 ·cases h
def pq (n:String)(c:AV->Á AV->S->R AV)(o:Ev)(r:fu):Ev:=λ a s=>(o a s).bind λ v b=>need (km n v b) λ _=>(r a b).bind λ e d=>c v e d
def N7 (h:tE T XE (pq n t o r) A H Q):V7 T.K n (Uk T XE t) (tE T XE o) (tP T XE r) A H Q:=by
 obtain⟨F,k,s,q,m,p⟩:=h;refine step q m p λ v D z B x _ E b d c a=>?_;obtain⟨_,e,a⟩:=a.î;exact⟨t5 e b c,step b d a λ y u j C xs _ w g l i f=>⟨j,v,y,u,g,VR.up w c,i,f⟩⟩
def GG {n id:String}{c:Á Expr}{l:AV->Á AV->S->R AV}{m:Ev}{r:fu}(p:X.K=T.K)(v:vl n)(j:Slot n name id)(k:Qo (.builtin id)=pure (.type "method_descriptor")) (s:IZ X id (Uk T XE l)) (t:PE X o (tE T XE m)) (q:PA X (e :: c) (tP T XE r))
  (d:aF o name X.env (Ē o X.env)=Ē o X.env:=by rfl)
  (i:((Ĝ a (Í (e :: c) X.env)).all (λ x=>!x.1) && (fI a (bj [] X.env)).all (λ x=>x.1.isSome)
   && decide ((e :: c).length+([]:Á h8).length+(if ([]:Á h8).isEmpty then 0 else 1) < 30))=true:=by rfl)
  (f:(g.endLine == a.line)=true:=by rfl) (u:Í (e :: c) X.env=(false,Ē e X.env) :: Í c X.env:=by rfl) (b:(Ĝ a (Í c X.env)).any (·.1)=false:=by rfl) :
  PE X (.Call (.Attribute o name g) (e :: c) [] a) (tE T XE (pq n l m r)):=
 PE.imp (He p v j k s t q d i f u b) λ _ _ _ h=>N7 h
def Mu (n:String)(c:AV->Á AV->S->R AV)(o:Ev):Ev:=λ a s=>(o a s).bind λ v b=>need (km n v b) λ _=>c v [] b
def Out.V2 (f:Out T XE h ρ H (.ok v (s.set i (.lst ys))) Q) (d:SR T ρ s H)(c:ρ[i]? = À a)(e:H a=À (.lst vs)) (k:ĩ T ρ H ys ws)(g:h.r H ρ (upd H a (.lst ws)) v x):Q x (upd H a (.lst ws)):=by
 have b:Up ρ H ρ (upd H a (.lst ws)):=d.rH c e (λ _ z=>nomatch z) (λ _ _ z=>nomatch z);exact f ρ _ x b (d.set c b (OR.lst ù (k.up b))) g
def Out.MF (d:Out T XE (rV T) ρ H (.ok v (s.set i (.lst ys))) Q) (f:SR T ρ s H)(b:ρ[i]? = À a)(c:H a=À (.lst vs)) (k:ĩ T ρ H ys ws)(e:VR T ρ (upd H a (.lst ws)) v x):Q x (upd H a (.lst ws)):=d.V2 f b c k e
def aV:AV->Á AV->S->R AV
 | .ref i,[w],s=>need (ô s i) λ xs=>if xs.length < sizeLine then .ok .Ę (s.set i (.lst (xs++[w]))) else .bad
 | _,_,_=>.bad
def JF:IZ X "list.append" (Uk T XE aV):=by
 rintro c s n H x xs v us Q I i rv ⟨r,a,o,st,f,j,l,b⟩;unfold aV at b;split at b
 ·obtain⟨q,e,b⟩:=b.î;obtain⟨hl,b⟩:=b.Œ;obtain⟨p,m,rfl,g,d,k⟩:=f.dP (ď e) j;obtain⟨y,rfl,h⟩:=l.ly;exact wx c s n H _ _ v us Q I i rv ⟨p,m,y,rfl,rfl,d,by rw[<-k.length];exact hl,b.MF f g d (k.append (.one h)) uW⟩
 ·exact b.elim
def zX:AV->Á AV->S->R AV
 | .ref i,[.int j],s=>need (ô s i) λ xs=>if 0<=j/\j < xs.length then need xs[j.toNat]? λ y=>.ok y (s.set i (.lst (xs.eraseIdx j.toNat))) else .bad
 | _,_,_=>.bad
theorem ĩ.erase:∀ {l:Á AV}{xs:Á V}(i:Nat),ĩ T ρ H l xs->ĩ T ρ H (l.eraseIdx i) (xs.eraseIdx i)
 | [],_,_,h=>by cases h.nil_inv;exact .nil
 | _ :: _,_,0,h=>by obtain⟨x,b,rfl,_,k⟩:=h.cons_inv;exact k
 | _ :: _,_,i+1,h=>by obtain⟨x,b,rfl,a,k⟩:=h.cons_inv;exact .cons a (ĩ.erase i k)
def U8:IZ X "list.pop" (Uk T XE zX):=by
 rintro c s D H x xs v us Q I u rv ⟨m,a,G,st,g,A,B,b⟩;unfold zX at b;split at b
 ·rename_i F j;obtain⟨J,e,b⟩:=b.î;obtain⟨i,b⟩:=b.Œ;obtain⟨y,n,b⟩:=b.î;obtain⟨p,l,rfl,h,d,k⟩:=g.dP (ď e) A;obtain⟨z,rfl,r⟩:=B.ly;cases r.int_inv;obtain⟨C,f,t⟩:=k.get n;have hl:=k.length;obtain⟨q,_,_,E⟩:=I.list (eS.of d);have o:=mw;have w:Up m H m (upd H p (.lst (l.eraseIdx j.toNat))):=g.rH h d (λ _ z=>nomatch z) (λ _ _ z=>nomatch z);refine GW c s D H _ _ v us Q I u rv ⟨p,l,j,j.toNat,C,rfl,rfl,d,by lia,by lia,RO i.1 (by rw[<-hl];exact i.2),f,b.MF g h d (k.erase _) (VR.up w t)⟩
 ·exact b.elim
section
variable {κ:Type} [mI κ]
def ũ:Á (κ × AV)->κ->Ê AV
 | [],_=>none
 | p :: r,k=>if p.1=k then À p.2 else ũ r k
def jT (kvs:Á (κ × AV)) (k:κ)(v:AV):Á (κ × AV):=
 if (kvs.any λ a=>decide (a.1=k))=true then kvs.map (λ a=>if a.1=k then (a.1,v) else a) else kvs++[(k,v)]
theorem dk (k:κ):∀ {kvs:Á (κ × AV)}{ks:Á (κ × V)},kvs.map (·.1)=ks.map (·.1)->ĩ T ρ H (kvs.map (·.2)) (ks.map (·.2))->(∀ v,ũ kvs k=À v->∃ x,iA ks k=À x/\VR T ρ H v x)/\(ũ kvs k=none->iA ks k=none)
 | [],ks,e,h=>by
  cases ks with
  | nil=>exact⟨(λ v z=>nomatch z),λ _=>rfl⟩
  | cons a r=>cases e
 | p :: r,ks,e,h=>by
  cases ks with
  | nil=>cases e
  | cons q t=>
   rw[Õ,Õ,av]at e;rw[Õ,Õ]at h;obtain⟨x,j,c,g,i⟩:=h.cons_inv;rw[av]at c;obtain⟨d,f⟩:=dk k e.2 (c.2 ▸ i);unfold ũ;by_cases b:p.1=k
   ·rw[Ï b,mF (e.1 ▸ b)];refine⟨λ v z=>?_,λ z=>nomatch z⟩;cases z;exact⟨q.2,rfl,c.1 ▸ g⟩
   ·rw[Ô b,mE (λ z=>b (e.1.trans z))];exact⟨d,f⟩
def sQ (k:κ)(b:VR T ρ H v x)(e:kvs.map (·.1)=ks.map (·.1)) (h:ĩ T ρ H (kvs.map (·.2)) (ks.map (·.2))) :
  (jT kvs k v).map (·.1)=(putK ks k x).map (·.1)/\ĩ T ρ H ((jT kvs k v).map (·.2)) ((putK ks k x).map (·.2)):=by
 have i:∀ {kvs:Á (κ × AV)}{ks:Á (κ × V)},kvs.map (·.1)=ks.map (·.1)->(kvs.any λ b=>decide (b.1=k))=(ks.any λ b=>decide (b.1=k)):=by
  intro kvs;induction kvs with
  | nil=>intro ks e;cases ks with|nil=>rfl|cons a r=>cases e
  | cons p r g=>
   intro ks e;cases ks with
   | nil=>cases e
   | cons q t=>
    rw[Õ,Õ,av]at e;rw[ř,ř,g e.2,e.1]
 unfold jT putK;rw[i e];by_cases c:(ks.any λ b=>decide (b.1=k))=true
 ·rw[Ï c,Ï c];clear c i;induction kvs generalizing ks with
  | nil=>cases ks with|nil=>exact⟨rfl,.nil⟩|cons a r=>cases e
  | cons p r g=>
   cases ks with
   | nil=>cases e
   | cons q t=>
    rw[Õ,Õ,av]at e;rw[Õ,Õ]at h;obtain⟨y,o,f,m,n⟩:=h.cons_inv;rw[av]at f;obtain⟨j,l⟩:=g e.2 (f.2 ▸ n);simp only[Õ,e.1];by_cases d:q.1=k
    ·rw[Ï d,Ï d,j];exact⟨rfl,.cons b l⟩
    ·rw[Ô d,Ô d,j,e.1];exact⟨rfl,.cons (f.1 ▸ m) l⟩
 ·rw[Ô c,Ô c,Ł,Ł,Ł,Ł,e];exact⟨rfl,h.append (.one b)⟩
end
def fg:AV->Ê Key
 | .int i=>À (.inl i)
 | .str x=>À (.inr x)
 | _=>none
def gq (h:fg v=À k)(a:VR T ρ H v x):x=kV k:=by
 cases v<;>try cases h
 ·cases a.int_inv;rfl
 ·cases a.str_inv;rfl
def jN (s:S)(i:Nat):Ê (Á (Key × AV)):=match s[i]? with
 | some (.dK xs)=>À xs
 | _=>none
def js (h:jN s i=À xs):s[i]? = À (.dK xs):=by
 unfold jN at h;split at h
 ·cases h;assumption
 ·cases h
def jO (h:s[i]? = À (.dK xs)):jN s i=À xs:=by unfold jN;rw[h]
def ģ:AV->AV->S->R AV
 | .ref i,y,s=>need (jN s i) λ a=>need (fg y) λ k=>need (ũ a k) λ v=>.ok v s
 | _,_,_=>.bad
def Ke (hu:X.A.units+1 < cLine)(f:PE X o (tE T XE m)) (G:PE X i (tE T XE n)) (h:MY i:=by exact λ _ _=>rfl):PE X (.Subscript o i pos) (tE T XE (Ø ģ m n)):=
 PE.imp (CL hu f G h) λ σ H Q P=>Ņ P λ ρ u s h F f=>step h F f λ v s1 U Y x _ u1 j e c g=>step j e g λ w s2 p B y _ N d C l b=>by
  have c:VR T p B v x:=VR.up N c;cases v with
  | ref i=>
   obtain⟨I,q,b⟩:=b.î;obtain⟨k,r,b⟩:=b.î;obtain⟨z,t,b⟩:=b.î;obtain⟨a,ks,rfl,Z,E,L,M⟩:=d.zj (js q) c;obtain⟨O,D,J⟩:=(dk k L M).1 z t;exact⟨a,O,rfl,by rw[gq r l,<-D];exact iH.k E,b.Ľ d J⟩
  | _=>exact b.elim
def jy:AV->AV->S->R AV
 | y,.ref i,s=>need (jN s i) λ a=>need (fg y) λ k=>.ok (.bl (ũ a k).isSome) s
 | _,_,_=>.bad
def oy:AV->AV->S->R AV
 | y,.ref i,s=>need (jN s i) λ a=>need (fg y) λ k=>.ok (.bl (!(ũ a k).isSome)) s
 | _,_,_=>.bad
def A3 {C:AV->AV->S->R AV}{b:Bool->Bool}(j:∀ y w s,C y w s=(match w with|.ref i=>need (jN s i) λ kvs=>need (fg y) λ k=>.ok (.bl (b (ũ kvs k).isSome)) s|_=>.bad)) {m n:Ev}{r:St}{Q:VK}(h:tE T XE (Ø C m n) r H Q) :
  tE T XE m r H λ y B=>tE T XE n r B λ x A=>∃ a o,x=.ref a/\iH A a y o/\Q (.bl (b o.isSome)) A:=by
 obtain⟨ρ,I,s,P,N,O⟩:=h;refine step P N O λ v s1 Z B x _ u1 l f p g=>step l f g λ w s2 q A y _ U e J d c=>?_;rw[j]at c;have d:VR T q A w y:=d;cases w with
 | ref i=>
  obtain⟨kvs,F,c⟩:=c.î;obtain⟨k,G,c⟩:=c.î;obtain⟨a,u,rfl,ea,M,D,E⟩:=e.zj (js F) d;have Y:=gq G (VR.up U p);refine⟨a,iA u k,rfl,by rw[Y];exact iH.k M,?_⟩;have:(iA u k).isSome=(ũ kvs k).isSome:=by
   cases t:ũ kvs k with
   | none=>rw[(dk k D E).2 t];rfl
   | some z=>obtain⟨x',L,_⟩:=(dk k D E).1 z t;rw[L];rfl
  rw[this];exact c.Ľ e cO
 | _=>exact c.elim
def NT (hu:X.A.units+1 < cLine)(c:PE X i (tE T XE m)) (d:PE X o (tE T XE n)) (a:ž .In o=false:=by rfl):PE X (.Compare i [.In] [o] pos) (tE T XE (Ø jy m n)):=
 PE.imp (OI (Bq hu c d) a) λ e H Q h=>A3 (b:=id) (λ y w s=>by cases w<;>rfl) h
def O3 (hu:X.A.units+1 < cLine)(c:PE X i (tE T XE m)) (d:PE X o (tE T XE n)) (a:ž .In o=false:=by rfl):PT X (.Compare i [.In] [o] pos) (jV T XE (cB (Ø jy m n))):=
 PT.imp (Bw (Bq hu c d) a) λ e H Q h=>A3 (b:=id) (λ y w s=>by cases w<;>rfl) (CV h)
def Ln (hu:X.A.units+1 < cLine)(c:PE X i (tE T XE m)) (d:PE X o (tE T XE n)) (a:ž .NotIn o=false:=by rfl):PT X (.Compare i [.NotIn] [o] pos) (jV T XE (cB (Ø oy m n))):=
 PT.imp (Bw (Eg hu c d) a) λ e H Q h=>A3 (b:=not) (λ y w s=>by cases w<;>rfl) (CV h)
def putD (v d y:AV)(env:En)(s:S):RS:=match d with
 | .ref i=>match jN s i,fg y with
  | some a,À k=>if a.length < sizeLine then .nx env (s.set i (.dK (jT a k v))) else .bad
  | _,_=>.bad
 | _=>.bad
def i7 (d y v:Ev):Ms:=λ e s=>(v e s).bz λ a f=>(d e f).bz λ b g=>(y e g).bz λ c h=>putD a b c e h
def Kz (hu:X.A.units+1 < cLine)(C:PE X o (tE T XE m)) (hi:PE X i (tE T XE n)) (hv:PE X e (tE T XE r)) (G:dJ e (À (.Subscript o i l)) pos.line X.env=pure false:=by rfl):PS X (.Assign [.Subscript o i l] e pos) (tS T XE (i7 m n r)):=
 PS.imp (CO hu C hi hv G) λ D σ H zz=>lH zz λ ρ env s G he C=>dt G he C λ v s1 ML H1 x _ u1 J q h E=>dt J q E λ d s2 Ut H2 y _ u2 L t j F=>dt L t F λ c s3 f B z _ U g u M b=>by
  have j:VR T f B d y:=VR.up U j;have h:VR T f B v x:=VR.up (u2.trans U) h;unfold putD at b;split at b
  ·split at b
   ·rename_i i I k Y Z;obtain⟨hl,b⟩:=b.Œ;obtain⟨a,P,rfl,N,O,Q,q2⟩:=g.zj (js Y) j;have w:I.length=P.length:=by have:=Ķ bE Q;simpa using this
    refine⟨a,_,rfl,by rw[gq Z M];exact vr.k O (by rw[<-w];exact hl),?_⟩;obtain⟨p1,p2⟩:=sQ k h Q q2;have p:Up f B f (upd B a (.dK (putK P k x))):=g.rH N O (λ _ z=>nomatch z) (λ _ _ z=>nomatch z);exact b f _ σ p (g.set N p ⟨_,ù,p1,p2.up p⟩) (u.up p)
   ·exact b.elim
  ·exact b.elim
def G8 (d y z:AV)(s:S):R AV:=match d with
 | .ref i=>need (jN s i) λ a=>need (fg y) λ k=>.ok ((ũ a k).getD z) s
 | _=>.bad
def uf (d y z:Ev):Ev:=λ e s=>(d e s).bind λ a f=>need (km "dict" a f) λ _=>(y e f).bind λ b g=>(z e g).bind λ c h=>G8 a b c h
def F' (h:km "dict" v s=À ()) (d:SR T ρ s H)(c:VR T ρ H v x):∃ a,x=.ref a/\T4 H a:=by
 have:=t5 h d c;cases v with
 | ref i=>
  obtain⟨a,e,rfl⟩:=c.fi;refine⟨a,rfl,?_⟩;rcases this with⟨z,_⟩|⟨z,_⟩|⟨_,⟨b,z⟩|⟨b,z⟩⟩|⟨z,_⟩
  ·exact absurd z (by decide)
  ·exact absurd z (by decide)
  ·exact .inl ⟨b,.inl z⟩
  ·exact .inr ⟨b,.inl z⟩
  ·exact absurd z (by decide)
 | _=>cases h
def Kh (hu:X.A.units+1 < cLine)(E:PE X o (tE T XE m)) (D:PE X e (tE T XE n)) (hf:PE X f (tE T XE r)) (q:M2 X o "get" l e f p:=by exact⟨rfl,rfl,rfl,rfl⟩):PE X (.Call (.Attribute o "get" l) [e,f] [] p) (tE T XE (uf m n r)):=
 PE.imp (Hh hu E D hf q) λ σ H Q zz=>Ņ zz λ ρ env s hs D E=>step hs D E λ d s1 ML H1 x _ u1 t B g h=>by
  obtain⟨_,Y,h⟩:=h.î;obtain⟨a,rfl,hd⟩:=F' Y t g;refine⟨a,rfl,hd,step t B h λ w s2 Ut H2 y _ u2 I C J F=>step I C F λ z s3 M U z' _ P j er3 L c=>?_⟩;have g:VR T M U d (.ref a):=VR.up (u2.trans P) g;cases d with
  | ref i=>
   obtain⟨G,Z,c⟩:=c.î;obtain⟨k,e2,c⟩:=c.î;obtain⟨b,ks,eb,ea,h1,N,O⟩:=j.zj (js Z) g;cases eb;refine⟨iA ks k,by rw[gq e2 (VR.up P J)];exact iH.k h1,?_⟩;cases u:ũ G k with
   | none=>rw[(dk k N O).2 u];rw[u]at c;exact c.Ľ j L
   | some v=>obtain⟨x',ex,kx⟩:=(dk k N O).1 v u;rw[ex];rw[u]at c;exact c.Ľ j kx
  | _=>exact c.elim
def CA:Ev:=λ _ s=>.ok (.ref s.length) (s++[.dK []])
def R8:PE X (.Dict [] [] pos) (tE T XE CA):=
 PE.imp Hi λ g H Q ⟨f,a,s,d,e,b⟩ p c=>b.alloc d c ⟨[],ù,rfl,.nil⟩
def CN:Á (Ev × Ev)->En->S->R (Á (AV × AV))
 | [],_,s=>.ok [] s
 | (a,b) :: r,c,s=>(a c s).bind λ v d=>(b c d).bind λ w e=>(CN r c e).bind λ l f=>.ok ((v,w) :: l) f
def pk:Á (AV × AV)->Ê (Á (Key × AV))
 | []=>À []
 | (a,b) :: r=>(fg a).bind λ k=>(pk r).map ((k,b) :: ·)
def xS (kvs more:Á (Key × AV)):Á (Key × AV):=more.foldl (λ a b=>jT a b.1 b.2) kvs
def fF (l:Á (Ev × Ev)):Ev:=λ b s=>(CN l b s).bind λ d c=>need (pk d) λ a=>if a.length<=15 then .ok (.ref c.length) (c++[.dK (xS [] a)]) else .bad
def Xj (T:Tx)(ρ:Á Addr)(H:Hp)(ps:Á (AV × AV)) (xs:Á (V × V)):Prop:=ĩ T ρ H (ps.map (·.1)) (xs.map (·.1))/\ĩ T ρ H (ps.map (·.2)) (xs.map (·.2))
def bind_assoc (r:R α)(f:α->S->R b)(g:b->S->R c):(r.bind f).bind g=r.bind λ a s=>(f a s).bind g:=by cases r<;>rfl
theorem zZ:∀ (l:Á (Ev × Ev)) {ρ:Á Addr}{s:S}{H:Hp}{k:Á (AV × AV)->S->R α}{F:Á (V × V)->Hp->Prop},SR T ρ s H->ER T ρ H env N->Out T XE rl ρ H ((CN l env s).bind k) Q->
  (∀ ps s1 c A xs,CN l env s=.ok ps s1->Up ρ H c A->SR T c s1 A->ER T c A env N->Xj T c A ps xs->F xs A)->yp (l.map λ p=>(tE T XE p.1,tE T XE p.2)) N H F
 | [],ρ,s,H,k,F,t,j,n,m=>m [] s ρ H [] rfl .refl t j ⟨.nil,.nil⟩
 | (a,b) :: r,ρ,s,H,k,F,t,j,n,m=>by
  have e:(CN ((a,b) :: r) env s).bind k=(a env s).bind λ v s1=>(b env s1).bind λ w d=>(CN r env d).bind λ l f=>k ((v,w) :: l) f:=by
   show((a env s).bind λ v s1=>(b env s1).bind λ w d=>(CN r env d).bind λ l f=>.ok ((v,w) :: l) f).bind k=_;rw[bind_assoc];congr 1;funext v s1;rw[bind_assoc];congr 1;funext w d;rw[bind_assoc];rfl
  rw[e]at n;refine step t j n λ v s1 c A x u U B g G o=>step B g o λ w d Y Z y z L C h I q=>?_;refine zZ r C h q λ ps f J O xs P E D i M=>m ((v,w) :: ps) f J O _ (by have u:a env s=.ok v s1:=u;have z:b env s1=.ok w d:=z;show((a env s).bind λ v s1=>(b env s1).bind λ w d=>(CN r env d).bind λ l f=>.ok ((v,w) :: l) f)=_;rw[u,ó,z,ó,P,ó]) ((U.trans L).trans E) D i ⟨?_,?_⟩
  ·exact .cons (VR.up (L.trans E) G) M.1
  ·exact .cons (VR.up E I) M.2
theorem wg:∀ {ps:Á (AV × AV)}{kvs:Á (Key × AV)}{xs:Á (V × V)},pk ps=À kvs->Xj T ρ H ps xs->∃ ks:Á (Key × V),xs=ks.map (λ i=>(kV i.1,i.2))/\kvs.map (·.1)=ks.map (·.1)/\ĩ T ρ H (kvs.map (·.2)) (ks.map (·.2))
 | [],kvs,xs,h,c=>by
  cases h;have:=c.1.nil_inv;cases xs with
  | nil=>exact⟨[],rfl,rfl,.nil⟩
  | cons a r=>cases this
 | (a,b) :: r,kvs,xs,h,c=>by
  have h:(fg a).bind (λ k=>(pk r).map ((k,b) :: ·))=À kvs:=h;cases d:fg a with
  | none=>rw[d]at h;cases h
  | some k=>
   cases e:pk r with
   | none=>rw[d,e]at h;cases h
   | some q=>
    rw[d,e]at h;cases h;cases xs with
    | nil=>obtain⟨_,_,z,_⟩:=c.1.cons_inv;cases z
    | cons p xs=>
     obtain⟨x1,t,f,j,l⟩:=c.1.cons_inv;obtain⟨x2,u,g,m,n⟩:=c.2.cons_inv;rw[Õ,av]at f g;obtain⟨ks,rfl,o,s⟩:=wg e ⟨f.2 ▸ l,g.2 ▸ n⟩;refine⟨(k,p.2) :: ks,?_,by rw[Õ,Õ,o],.cons (g.1 ▸ m) s⟩;rw[Õ,<-gq d (f.1 ▸ j)]
theorem wu:∀ {more:Á (Key × AV)}{b:Á (Key × V)}{kvs:Á (Key × AV)}{ks:Á (Key × V)},more.map (·.1)=b.map (·.1)->ĩ T ρ H (more.map (·.2)) (b.map (·.2))->kvs.map (·.1)=ks.map (·.1)->ĩ T ρ H (kvs.map (·.2)) (ks.map (·.2))->
  (xS kvs more).map (·.1)=(fY ks b).map (·.1)/\ĩ T ρ H ((xS kvs more).map (·.2)) ((fY ks b).map (·.2))
 | [],b,kvs,ks,e,h,c,d=>by
  cases b with
  | nil=>exact⟨c,d⟩
  | cons a r=>cases e
 | p :: r,b,kvs,ks,e,h,c,d=>by
  cases b with
  | nil=>cases e
  | cons q t=>
   rw[Õ,Õ,av]at e;rw[Õ,Õ]at h;obtain⟨y,k,z,f,g⟩:=h.cons_inv;rw[av]at z;obtain⟨i,j⟩:=sQ p.1 (z.1 ▸ f) c d;have:=wu (kvs:=jT kvs p.1 p.2) (ks:=putK ks q.1 q.2) e.2 (z.2 ▸ g) (by rw[<-e.1];exact i) (by rw[<-e.1];exact j);exact this
def Kf (h:L9 X pos c f (l.map λ p=>(tE T XE p.1,tE T XE p.2))) (k:c.all (·.isSome)=true:=by rfl) (hl:c.length=f.length:=by rfl)(h0:c≠[]:=by decide)(n:c.length<=15:=by decide):PE X (.Dict c f pos) (tE T XE (fF l)):=
 PE.imp (K2 h k hl h0 n) λ σ H Q ⟨Y,B,s,r,F,i⟩ p m=>by
  have t:=r.du (o:=.dK []) m;have J:=r.out m;refine zZ l (r.new m) (F.up t) (Out.up t i) λ Z w d A xs L x j C U=>?_;unfold fF at i;rw[L,ó]at i;obtain⟨kvs,y,i⟩:=i.î;obtain⟨hl,i⟩:=i.Œ;obtain⟨ks,rfl,u,M⟩:=wg y U;have hd:=x.fr p _ ù J;have q:kvs.length=ks.length:=by have:=Ķ bE u;simpa using this
  refine⟨hd.1,ks,rfl,by rw[<-q];exact hl,?_⟩;obtain⟨G,I⟩:=wu u M (kvs:=[]) (ks:=[]) rfl .nil;have g:Gr d A (d++[p]) (upd A p (.dK (fY [] ks))):=⟨fo _ _,λ b ys e=>by rw[ä (ui e hd.1 (by intro z;cases z))];exact e,λ b o v e=>by rw[ä (ui e hd.1 (by intro z;cases z))];exact e⟩
  have D:Gr d A d (upd A p (.dK (fY [] ks))):=⟨aK,g.ky,g.iU⟩
  have N:SR T d w (upd A p (.dK (fY [] ks))):=j.up D λ a E=>ä λ z=>hd.2 (z ▸ E);have O:SR T (d++[p]) (w++[.dK (xS [] kvs)]) (upd A p (.dK (fY [] ks))):=N.add hd.2 ⟨_,ù,G,I.gr g⟩;have P:Up Y H (d++[p]) (upd A p (.dK (fY [] ks))):=((t.trans x).mod m hd.2).add m;exact i _ _ _ P O (oF (T:=T) (H:=upd A p (.dK (fY [] ks))) (by rw[á (by rw[j.len];exact Ì _),j.len,sY];rfl))
def Ky:L9 X pos [] [] (([]:Á (Ev × Ev)).map λ p=>(tE T XE p.1,tE T XE p.2)):=Lg
def GQ (c:PE X k (tE T XE a)) (d:PE X v (tE T XE b)) (hr:L9 X pos ks vs (l.map λ p=>(tE T XE p.1,tE T XE p.2))):L9 X pos (À k :: ks) (v :: vs) (((a,b) :: l).map λ p=>(tE T XE p.1,tE T XE p.2)):=Hx c d hr
def ml (o i:Ev):Mt:=λ v c s=>(o c s).bz λ a e=>(i c e).bz λ b d=>match a,b with
 | .ref k,.int j=>match ô d k with
  | some xs=>match Cq xs.length j with
   | some n=>.nx c (d.set k (.lst (xs.set n v)))
   | none=>.bad
  | none=>.bad
 | _,_=>.bad
def Kr (t:PE X o (tE T XE m)) (P:PE X i (tE T XE n))
  (N:∀ v,j' (.Subscript o i pos) X.env v=(do
   let h <-cu [v] (Ē o X.env);let w <-cu [v,h] (Ē i X.env)
   jn pos
   cu [v,h,w] (Jv h w v)
   release [v,h,w] []):=by intro _;rfl):PG X (.Subscript o i pos) (tT T XE (ml m n)):=
 PG.imp (Hq t P set_list N) λ x σ H Q ⟨ρ,M,s,v,U,O,C,t⟩=>by
  refine dt U O t λ a s1 Z H1 y _ Y B q f u=>dt B q u λ b s2 d A z _ G e r g c=>?_;have f:VR T d A a y:=VR.up G f;have g:VR T d A b z:=g;have C:VR T d A v x:=VR.up (Y.trans G) C;split at c
  ·rename_i k j;split at c
   ·rename_i xs J;split at c
    ·rename_i n L;obtain⟨p,I,rfl,D,E,F⟩:=e.dP (ď J) f;cases g.int_inv;have l:Up d A d (upd A p (.lst (I.set n x))):=e.rH D E (λ _ z=>nomatch z) (λ _ _ z=>nomatch z);exact⟨p,I,_,n,rfl,rfl,E,by rw[<-F.length];exact L,c d _ σ l (e.set D l (OR.lst ù ((F.set n C).up l))) (r.up l)⟩
    ·exact c.elim
   ·exact c.elim
  ·exact c.elim
def KQ:l4 (ml o i):=λ v d s=>by
 unfold ml;cases o d s with
 | bad=>exact .inr (.inr rfl)
 | ex c e=>exact .inr (.inl ⟨_,_,rfl⟩)
 | ok a e=>
  simp only[eZ];cases i d e with
  | bad=>exact .inr (.inr rfl)
  | ex c e=>exact .inr (.inl ⟨_,_,rfl⟩)
  | ok b f=>
   simp only[eZ];split
   ·split
    ·split
     ·exact .inl ⟨_,_,rfl⟩
     ·exact .inr (.inr rfl)
    ·exact .inr (.inr rfl)
   ·exact .inr (.inr rfl)
def mh:AV->Bool
 | .Ę=>true
 | .bl _=>true
 | .int _=>true
 | .str _=>true
 | _=>false
def toV:AV->V
 | .bl b=>.bl b
 | .int b=>.int b
 | .str b=>.str b
 | _=>.Ę
def toV_eq (h:mh v=true)(k:VR T ρ H v x):x=toV v:=by
 cases v with
 | Ę=>exact k.iy
 | bl b=>exact k.iO
 | int b=>exact k.int_inv
 | str b=>exact k.str_inv
 | _=>cases h
theorem toVs_eq:∀ {l:Á AV}{xs:Á V},l.all mh=true->ĩ T ρ H l xs->xs=l.map toV
 | [],_,_,k=>k.nil_inv
 | v :: r,_,h,k=>by
  obtain⟨x,c,rfl,a,b⟩:=k.cons_inv;rw[Ġ,ĝ]at h;rw[toV_eq h.1 a,toVs_eq h.2 b];rfl
def pd:∀ v:AV,pb (toV v)=true:=λ v=>by cases v<;>rfl
def Ud (v:AV)(xs:Á AV):Bool:=Ue (toV v) (xs.map toV)
def Ed (v w:AV)(s:S):R AV:=need (items w s) λ xs=>if mh v=true/\xs.all mh=true then .ok (.bl (Ud v xs)) s else .bad
def uw (v w:AV)(s:S):R AV:=need (items w s) λ xs=>if mh v=true/\xs.all mh=true then .ok (.bl (!Ud v xs)) s else .bad
def XM (m:X.K=T.K):jf X (ĥ .In) (vI T XE Ed):=by
 rintro d s t H x y v u Q I n o ⟨z,a,b,st,f,q,r,c⟩;obtain⟨xs,e,c⟩:=c.î;obtain⟨⟨i,j⟩,c⟩:=c.Œ;obtain⟨p,w,rfl,l,k⟩:=mU e f r;have g:=toV_eq i q;have h:=toVs_eq j k;subst g h;exact Ee d s t H _ _ v u Q I n o ⟨p,_,rfl,by rw[m];exact l,pd a,by simp[pd],c.Ľ f cO⟩
def Ss (m:X.K=T.K):jf X (ĥ .NotIn) (vI T XE uw):=by
 rintro d s t H x y v u Q I n o ⟨z,a,b,st,f,q,r,c⟩;obtain⟨xs,e,c⟩:=c.î;obtain⟨⟨i,j⟩,c⟩:=c.Œ;obtain⟨p,w,rfl,l,k⟩:=mU e f r;have g:=toV_eq i q;have h:=toVs_eq j k;subst g h;exact x9 d s t H _ _ v u Q I n o ⟨p,_,rfl,by rw[m];exact l,pd a,by simp[pd],c.Ľ f cO⟩
end
section
variable {T:Tx}{XE:jg}{X:Cx}{pos:kK}
structure AA (T:Tx)(mg:Str->Ê Value)(x:Str)(a:AV):Prop where
 ex:∃ v u,mg x=À u/\RelV v u/\∀ ρ H,VR T ρ H a v
def N1 (h:AA T X.mg x a)(e:Gl X x:=by rfl)(hd:(x == ("__debug__":Str))=false:=by decide):PE X (.Name x pos) (tE T XE (mc a)):=by
 obtain⟨v,u,b,c,d⟩:=h.ex;exact Ki e b c d hd
def RG (r:cb k A):A.units+30 < cLine:=by have:=r.un;lia
def Rz (m:Eb):Eb:=λ a s=>(m a s).bind λ v b=>open Classical in if b.take s.length=s then .ok v s else .bad
def SN (h:PT X e (jV T XE m)):PT X e (jV T XE (Rz m)):=
 PT.imp h λ p H Q n=>Ņ n λ g b s d i a=>by
  refine⟨g,b,s,d,i,?_⟩;unfold Rz at a;cases e:m b s with
  | bad=>rw[e]at a;exact a
  | ex c j=>rw[e]at a;exact a
  | ok v j=>
   rw[e]at a;obtain⟨f,a⟩:=a.Œ;intro o A x u k l;have:=k.cut u.pre d.len (by rw[f];exact d.closed);rw[f]at this;exact a g A x u.cut this l
def XX {α:Type}(T:Tx)(XE:jg)(d:Rl α V)(c:AV->Á AV->S->R α):V->Á V->Hp->VK->Prop:=λ x xs H Q=>∃ a v b s,SR T a s H/\VR T a H v x/\ĩ T a H b xs/\Out T XE d a H (c v b s) Q
def F4 {α:Type}(n:String)(c:AV->Á AV->S->R α)(o:Ev)(r:fu):En->S->R α:=λ a s=>(o a s).bind λ v b=>need (km n v b) λ _=>(r a b).bind λ e d=>c v e d
def N8 {α:Type}{C:Rl α V}{n id:String}{c:Á Expr}{B:AV->Á AV->S->R α}{m:Ev}{r:fu}(F:X.K=T.K)(L:vl n)(j:Slot n name id)(w:Qo (.builtin id)=pure (.type "method_descriptor")) (J:IZ X id (XX T XE C B)) (q:PE X o (tE T XE m)) (G:PA X (e :: c) (tP T XE r))
  (d:aF o name X.env (Ē o X.env)=Ē o X.env:=by rfl)
  (i:((Ĝ a (Í (e :: c) X.env)).all (λ x=>!x.1) && (fI a (bj [] X.env)).all (λ x=>x.1.isSome)
   && decide ((e :: c).length+([]:Á h8).length+(if ([]:Á h8).isEmpty then 0 else 1) < 30))=true:=by rfl)
  (f:(h.endLine == a.line)=true:=by rfl) (u:Í (e :: c) X.env=(false,Ē e X.env) :: Í c X.env:=by rfl) (b:(Ĝ a (Í c X.env)).any (·.1)=false:=by rfl) :
  PE X (.Call (.Attribute o name h) (e :: c) [] a) (tG T XE C (F4 n B m r)):=
 PE.imp (He F L j w J q G d i f u b) λ σ H Q P=>Ņ P λ ρ D s u I q=>by
  refine step u I q λ v s1 U Y x _ u1 k p l g=>?_;obtain⟨_,e,g⟩:=g.î;exact⟨t5 e k l,step k p g λ O M A Z xs _ N y E z t=>⟨A,v,O,M,y,VR.up N l,z,t⟩⟩
open PySem.Builtin.Str in
def pG:AV->Á AV->S->R (Á AV)
 | .str t,[.str a],s=>if (decide (t.length < a.length) || decide (strKind t < strKind a))=false/\(a.length == 0)=false/\(occurrences t a 0 t.length (t.length+1)).isEmpty=false/\t.length<=1000/\(partsBetween t (occurrences t a 0 t.length (t.length+1)) a.length).length<=1000
   then .ok ((partsBetween t (occurrences t a 0 t.length (t.length+1)) a.length).map AV.str) s else .bad
 | _,_,_=>.bad
def Na:IZ X "str.split" (XX T XE (rL T) pG):=by
 rintro c s o H x xs v us Q I j rv ⟨q,a,p,st,k,m,n,b⟩;unfold pG at b;split at b
 ·obtain⟨⟨d,e,f,g,h⟩,b⟩:=b.Œ;cases m.str_inv;obtain⟨y,rfl,i⟩:=n.ly;cases i.str_inv;exact GX c s o H _ _ v us Q I j rv ⟨_,_,rfl,rfl,d,e,f,g,h,λ l hl=>b.lst k hl (ĩ.map (λ a=>hR) _)⟩
 ·exact b.elim
def vb (xs ys:Á AV):Á AV:=(xs.zip ys).map λ p=>AV.tup [p.1,p.2]
def v5 (xs:Á AV):Á AV:=(Ą xs.length).zip xs |>.map λ p=>AV.tup [.int (p.1:Int),p.2]
def vJ (c:Bool)(v:AV)(s:S):Ê (Á AV × Gd):=match v with
 | .tup xs=>if c=true then À (xs,[]) else none
 | .sq xs=>if c=true then none else À (xs,[])
 | .ref i=>if c=true then none else (ô s i).map λ xs=>(xs,[(i,xs)])
 | _=>none
def uK (h:vJ c v s=À (xs,gs)) (r:SR T ρ s H)(m:VR T ρ H v x):∃ a,x=.ref a/\(∃ vs,xb c T.K H a vs)/\∀ d s' H',Up ρ H d H'->SR T d s' H'->vh gs s'->∃ vs,xb c T.K H' a vs/\ĩ T d H' xs vs:=by
 cases v with
 | tup n=>
  have h:(if c=true then À (n,[]) else none)=À (xs,gs):=h;split at h
  ·rename_i f;cases h;obtain⟨a,vs,rfl,j,k⟩:=m.b0;refine⟨a,rfl,⟨vs,by unfold xb;rw[Ï f];exact j⟩,λ d s' H' u l _=>⟨vs,by unfold xb;rw[Ï f];exact u.Pn j,k.up u⟩⟩
  ·cases h
 | sq n=>
  have h:(if c=true then none else À (n,[]))=À (xs,gs):=h;split at h
  ·cases h
  ·rename_i f;cases h;obtain⟨a,vs,rfl,j,k⟩:=m.hI;refine⟨a,rfl,⟨vs,by unfold xb;rw[Ô f];exact j.Ew⟩,λ d s' H' u l _=>⟨vs,by unfold xb;rw[Ô f];exact(u.S1 j).Ew,k.up u⟩⟩
 | ref i=>
  have h:(if c=true then none else (ô s i).map λ xs=>(xs,[(i,xs)]))=À (xs,gs):=h;split at h
  ·cases h
  ·rename_i f;cases e:ô s i with
   | none=>rw[e]at h;cases h
   | some n=>
    rw[e]at h;cases h;obtain⟨a,vs,rfl,w,j,k⟩:=r.dP (ď e) m;refine⟨a,rfl,⟨vs,by unfold xb;rw[Ô f];exact eS.of j⟩,λ d s' H' u l g=>?_⟩;obtain⟨b,t,o,_,p,q⟩:=l.dP (ď ((Cg i _ s').mp g)) (VR.up u m);cases o;exact⟨t,by unfold xb;rw[Ô f];exact eS.of p,q⟩
 | _=>cases h
def EF (v w:AV)(s:S):Ê (Á AV × Gd):=
 match vJ true v s,vJ true w s with
 | some (xs,g),À (a,h)=>À (vb xs a,g++h)
 | _,_=>match vJ false v s,vJ false w s with
  | some (xs,g),À (a,h)=>À (vb xs a,g++h)
  | _,_=>none
def ID (h:EF v w s=À r):∃ c xs g ys h,vJ c v s=À (xs,g)/\vJ c w s=À (ys,h)/\r=(vb xs ys,g++h):=by
 unfold EF at h;split at h
 ·rename_i xs g ys d a b;cases h;exact⟨true,xs,g,ys,d,a,b,rfl⟩
 ·split at h
  ·rename_i xs g ys d a b;cases h;exact⟨false,xs,g,ys,d,a,b,rfl⟩
  ·cases h
def HN (a b:Ev):Src:=λ c s=>(a c s).bind λ v e=>(b c e).bind λ w d=>need (EF v w d) λ r=>.ok r d
def JU (k:vh (g++h) s):vh g s/\vh h s:=⟨λ p a=>k p (iC _ a),λ p a=>k p (ĭ _ a)⟩
def N_ (A:X.K=T.K)(hm:X.mg "zip"=none)(h1:PE X e1 (tE T XE a)) (h2:PE X k (tE T XE b)) (hg:Gl X "zip":=by rfl)
  (G:Í [e1,k] X.env=(false,Ē e1 X.env) :: Í [k] X.env:=by rfl) (I:Í [k] X.env=[(false,Ē k X.env)]:=by rfl) (F:(Ĝ pos (Í [k] X.env)).any (·.1)=false:=by rfl) :
  PI X (.Tuple es kk LN) (.Call (.Name "zip" p) [e1,k] [] pos) (tW T XE (HN a b)):=
 PI.imp (OV hg hm h1 h2 G I F) λ σ H R zz=>Ņ zz λ ρ env s G he ho=>step G he ho λ v s1 ML H1 x _ u1 M o N E=>step M o E λ w s2 U H2 y _ u2 i Xp O f=>by
  obtain⟨r,e,f⟩:=f.î;obtain⟨c,xs,g,n,h,q1,q2,rfl⟩:=ID e;obtain⟨a1,rfl,x1,w1⟩:=uK q1 i (VR.up u2 N);obtain⟨a2,rfl,x2,w2⟩:=uK q2 i O;refine⟨c,a1,a2,rfl,by rw[A];exact x1,by rw[A];exact x2,f U H2 _ .refl i ⟨λ l s' Y u' d gk=>?_⟩⟩;obtain⟨g1,g2⟩:=JU gk;obtain⟨P,J,k2⟩:=w1 l s' Y u' d g1;obtain⟨Q,L,k4⟩:=w2 l s' Y u' d g2;rw[A];have C:=k2.length;have D:=k4.length;refine⟨λ j z t=>?_,⟨P,Q,J,L,?_⟩⟩
  ·have m:j < xs.length/\j < n.length:=by
    have:=(Ç.mp t).1;simp only[vb,Î,m_]at this;lia
   have u:z=.tup [xs[j],n[j]]:=by
    have q:(vb xs n)[j]? = À (.tup [xs[j],n[j]]):=by
     simp[vb,yN,m.1,m.2]
    rw[q]at t;exact(æ t).symm
   subst u;obtain⟨x3,Z,v3⟩:=k2.get (Å m.1);obtain⟨x4,e4,v4⟩:=k4.get (Å m.2);refine⟨⟨P,Q,x3,x4,J,L,Z,e4⟩,λ q H'' ⟨Tt,y1,y2,eq,B,eH,hy⟩=>?_⟩;obtain⟨f1,f2⟩:=hy P Q J L;rw[Z]at f1;rw[e4]at f2;cases f1;cases f2;subst eq eH;exact⟨d.du B,d.new B,i_ (fM.of ù) (ĩ.up (d.du B) (.cons v3 (.one v4)))⟩
  ·rw[<-C,<-D];simp only[vb,Î,m_];lia
end
end Mm
namespace Mm
open PySem PySem.W PyProof.Rows
def cK {α:Type}(lt:Nat->Nat->Bool):UD α->α
 | .ret a=>a
 | .ask i j k=>cK lt (k (lt i j))
theorem iG (lt:Nat->Nat->Bool)(f:α->UD b):∀ t:UD α,cK lt (t.bind f)=cK lt (f (cK lt t))
 | .ret a=>rfl
 | .ask i j k=>iG lt f (k (lt i j))
def dj (lt:Nat->Nat->Bool){c:Prop}{_:ő c}(a b:UD α):cK lt (if c then a else b)=if c then cK lt a else cK lt b:=by split<;>rfl
section
variable {O:KeyOrd}{key:Nat->O.α}
abbrev kG (O:KeyOrd)(key:Nat->O.α):Nat->Nat->Bool:=λ i j=>O.blt (key i) (key j)
def Ah (key:Nat->O.α)(x y:Nat):Prop:=O.klt (key x) (key y)∨key x=key y/\x < y
theorem Ah.kle (h:Ah key x y):O.kle (key x) (key y):=by
 rcases h with h|⟨h,_⟩
 ·exact qY h
 ·rw[h];exact vd _
def Ah.Mz (h:¬ kG O key x y=true)(k:y < x):Ah key y x:=by
 cases e:O.blt (key y) (key x) with
 | true=>exact .inl e
 | false=>exact .inr ⟨O.total _ _ e (by simpa using h),k⟩
theorem Ah.trans (h:Ah key x y)(k:Ah key y z):Ah key x z:=by
 rcases h with h|⟨h,a⟩
 ·exact .inl (eo h k.kle)
 ·rcases k with k|⟨k,b⟩
  ·exact .inl (by rw[h];exact k)
  ·exact .inr ⟨h.trans k,ni a b⟩
abbrev dc (p:Ă Nat)(i:Nat):Nat:=p.getD i 0
def y_ (key:Nat->O.α)(p:Ă Nat)(k:Nat):Prop:=∀ i j,i < j->j < k->Ah key (dc p i) (dc p j)
def MZ (key:Nat->O.α)(p:Ă Nat)(k:Nat):Prop:=∀ i j,i < j->j < k->Ah key (dc p j) (dc p i)
structure Pm (p:Ă Nat)(n N:Nat):Prop where
 sz:p.size=N
 le:n<=N
 lo:∀ i,i < n->dc p i < n
 hi:∀ i,n<=i->i < N->dc p i=i
def pe {p q:Ă Nat}(h:p[i]? = q[j]?):p.getD i 0=q.getD j 0:=by
 rw[Ū,Ū,h]
def gD {p:Ă Nat}(b:j<=p.size)(k:Nat):dc (kO p i j) k=if i<=k/\k < j then dc p (i+j - 1 - k) else dc p k:=by
 have h:=getElem?_mirror_all (xs:=p) (i:=i) (j:=j) b k;split
 ·rename_i a;rw[Ï a]at h;exact pe h
 ·rename_i a;rw[Ô a]at h;exact pe h
def Pm.rev (h:Pm p n N)(d:j<=n):Pm (kO p i j) n N:=by
 have:=h.sz;have:=h.le;refine⟨(mirror_size _ _ _ _).trans h.sz,h.le,λ k c=>?_,λ k a b=>?_⟩
 ·rw[gD (by lia)];split
  ·exact h.lo _ (by lia)
  ·exact h.lo _ c
 ·rw[gD (by lia),Ô (by lia)];exact h.hi k a b
def Pm.succ (h:Pm p n N)(c:n < N):Pm p (n+1) N:=⟨h.sz,c,λ i b=>by
 by_cases e:i < n
 ·exact dn (h.lo i e)
 ·rw[h.hi i (by lia) (by lia)];exact b,λ i d a=>h.hi i (by lia) a⟩
def HQ (d:1<=n)(h:y_ key p n)(k:Ah key (dc p (n - 1)) (dc p n)):y_ key p (n+1):=λ i j a f=>by
 by_cases c:j < n
 ·exact h i j a c
 ·have e:j=n:=by lia
  subst e;by_cases b:i=j - 1
  ·rw[b];exact k
  ·exact(h i (j - 1) (by lia) (by lia)).trans k
theorem AU:∀ (f n:Nat),1<=n->n+f<=N->Pm p n N->y_ key p n->∃ r,cK (kG O key) (kas_asc p f n)=r/\y_ key p r/\Pm p r N/\n<=r/\r<=n+f/\(r < n+f->kG O key (dc p r) (dc p (r - 1))=true)
 | 0,n,b,j,a,h=>⟨n,rfl,h,a,Ì _,Ì _,λ z=>absurd z (ŏ _)⟩
 | f+1,n,b,j,a,h=>by
  by_cases c:kG O key (dc p n) (dc p (n - 1))=true
  ·refine⟨n,?_,h,a,Ì _,by lia,λ _=>c⟩;exact(dj ..).trans (Ï c)
  ·obtain⟨r,e,d,g,k,l,i⟩:=AU f (n+1) (by lia) (by lia) (a.succ (by lia)) (HQ b h (.Mz c (by rw[a.hi n (Ì _) (by lia)];exact a.lo _ (by lia))));refine⟨r,?_,d,g,by lia,by lia,λ z=>i (by lia)⟩;exact(dj ..).trans ((Ô c).trans e)
structure Dn (key:Nat->O.α)(p:Ă Nat)(n q N:Nat):Prop where
 pm:Pm p n N
 lq:q+1<=n
 a:MZ key p (n - (q+1))
 b:∀ i,i < n - (q+1)->O.klt (key (dc p (n - 1))) (key (dc p i))
 c:∀ i,n - (q+1)<=i->i < n->key (dc p i)=key (dc p (n - 1))
 d:∀ i j,n - (q+1)<=i->i < j->j < n->dc p i < dc p j
def Dn.rev (h:Dn key p n q N):MZ key (kO p (n - (q+1)) n) n:=λ i j e f=>by
 have:=h.pm.sz;have:=h.pm.le;have:=h.lq;rw[gD (by lia),gD (by lia)];by_cases k:n - (q+1)<=j
 ·rw[Ï ⟨k,f⟩];by_cases g:n - (q+1)<=i
  ·rw[Ï ⟨g,by lia⟩];exact .inr ⟨(h.c _ (by lia) (by lia)).trans (h.c _ (by lia) (by lia)).symm,h.d _ _ (by lia) (by lia) (by lia)⟩
  ·rw[Ô (by lia)];exact .inl (by rw[h.c _ (by lia) (by lia)];exact h.b i (by lia))
 ·rw[Ô (by lia),Ô (by lia)];exact h.a i j e (by lia)
def Dn.one (h:Dn key p n 0 N):MZ key p n:=λ i j c d=>by
 by_cases f:j < n - 1
 ·exact h.a i j c (by lia)
 ·have e:j=n - 1:=by lia
  rw[e];exact .inl (h.b i (by lia))
def Dn.start (d:Pm p n N)(f:1<=n)(c:n < N)(h:MZ key p n)(k:O.klt (key (dc p n)) (key (dc p (n - 1)))):Dn key p (n+1) 0 N:=by
 refine⟨d.succ c,by lia,h,λ i l=>?_,λ i a b=>?_,λ i j a b g=>by lia⟩
 ·show O.klt (key (dc p n)) _;by_cases e:i=n - 1
  ·rw[e];exact k
  ·exact eo k (h i (n - 1) (by lia) (by lia)).kle
 ·rw[show i=n+1 - 1 by lia]
theorem xv:∀ (f:Nat)(p:Ă Nat)(n q:Nat),n+f<=N->Dn key p n q N->∃ r,cK (kG O key) (eI f p n q)=r/\Dn key r.1 r.2.1 r.2.2 N/\n<=r.2.1/\r.2.1<=n+f/\r.1.Perm p
 | 0,p,n,q,B,h=>⟨_,rfl,h,Ì _,Ì _,aZ _⟩
 | f+1,p,n,q,B,h=>by
  have I:=h.lq;have J:=h.pm.sz;by_cases c:kG O key (dc p n) (dc p (n - 1))=true
  ·have o:∀ g:Ă Nat,Pm g n N->MZ key g n->g.Perm p->dc g n=dc p n->key (dc g (n - 1))=key (dc p (n - 1))->∃ r,cK (kG O key) (eI f g (n+1) 0)=r/\Dn key r.1 r.2.1 r.2.2 N/\n<=r.2.1/\r.2.1<=n+(f+1)/\r.1.Perm p:=λ g C D E F G=>by
    obtain⟨r,e,k,v,w,l⟩:=xv f g (n+1) 0 (by lia) (.start C (by lia) (by lia) D (by rw[F,G];exact c));exact⟨r,e,k,by lia,by lia,l.trans E⟩
   have e:cK (kG O key) (eI (f+1) p n q)=if q > 0 then cK (kG O key) (eI f (kO p (n - (q+1)) n) (n+1) 0) else cK (kG O key) (eI f p (n+1) 0):=(dj ..).trans ((Ï c).trans (dj ..))
   rw[e];by_cases s:q > 0
   ·rw[Ï s];exact o _ (h.pm.rev (Ì _)) h.rev (rR _ _ _ _) (by rw[gD (by lia),Ô (by lia)]) (by rw[gD (by lia),Ï (by lia)];exact h.c _ (by lia) (by lia))
   ·rw[Ô s];have:q=0:=by lia
    subst this;exact o p h.pm h.one (aZ _) rfl rfl
  ·have e:cK (kG O key) (eI (f+1) p n q)=if kG O key (dc p (n - 1)) (dc p n)=true then (p,n,q) else cK (kG O key) (eI f p (n+1) (q+1)):=(dj ..).trans ((Ô c).trans (dj (kG O key) (c:=kG O key (dc p (n - 1)) (dc p n)=true) (.ret (p,n,q)) (eI f p (n+1) (q+1))))
   rw[e];by_cases d:kG O key (dc p (n - 1)) (dc p n)=true
   ·rw[Ï d];exact⟨_,rfl,h,Ì _,(by show n<=n+(f+1);lia),aZ _⟩
   ·rw[Ô d];have m:key (dc p n)=key (dc p (n - 1)):=O.total _ _ (by simpa using c) (by simpa using d);have x:n+1 - (q+1+1)=n - (q+1):=by lia
    have A:dc p n=n:=h.pm.hi n (Ì _) (by lia);obtain⟨r,e,k,v,w,l⟩:=xv f p (n+1) (q+1) (by lia) ⟨h.pm.succ (by lia),by lia,by rw[x];exact h.a,λ i u=>by
      show O.klt (key (dc p n)) _;rw[m];exact h.b i (by lia),λ i y t=>by
      show _=key (dc p n);by_cases u:i=n
      ·rw[u]
      ·rw[m];exact h.c i (by lia) (by lia),λ i j y t H=>by
      by_cases z:j=n
      ·rw[z,A];exact h.pm.lo i (by lia)
      ·exact h.d i j (by lia) t (by lia)⟩
    exact⟨r,e,k,by lia,by lia,l⟩
def Cn (key:Nat->O.α)(N:Nat)(p:Ă Nat)(r:Nat × Ă Nat):Prop:=y_ key r.2 r.1/\1<=r.1/\Pm r.2 r.1 N/\r.2.Perm p
def Ai (d:1<=n)(a:Pm p n N)(h:MZ key p n):Cn key N p (cK (kG O key) (IV n N p)):=by
 have m:=a.sz;have hl:=a.le;have f:y_ key (kO p 0 n) n:=λ i j k l=>by
  rw[gD (by lia),gD (by lia),Ï (by lia),Ï (by lia)];exact h _ _ (by lia) (by lia)
 obtain⟨r,e,b,c,g,_⟩:=AU (N - n) n d (by lia) (a.rev (Ì _)) f;unfold IV;rw[iG,e];exact⟨b,(by show 1<=r;lia),c,rR _ _ _ _⟩
def rg (j:1<=n)(k:n < N)(l:Pm p n N)(h:MZ key p n)(hl:O.klt (key (dc p n)) (key (dc p (n - 1)))):Cn key N p (cK (kG O key) (ie n N p)):=by
 obtain⟨r,e,a,m,o,g⟩:=xv (key:=key) (N - (n+1)) p (n+1) 0 (by lia) (.start l j k h hl);unfold ie;rw[iG,e,dj];split
 ·obtain⟨b,c,d,f⟩:=Ai (by lia) (a.pm.rev (Ì _)) a.rev;exact⟨b,c,d,f.trans ((rR _ _ _ _).trans g)⟩
 ·rename_i i;have i:r.2.2=0:=by lia
  rw[i]at a;obtain⟨b,c,d,f⟩:=Ai (by lia) a.pm a.one;exact⟨b,c,d,f.trans g⟩
def Fy (w:1<=N)(h:Pm p 1 N):Cn key N p (cK (kG O key) (IU N p)):=by
 obtain⟨n,e,b,a,d,v,k⟩:=AU (key:=key) (p:=p) (N - 1) 1 (Ì _) (by lia) h (λ i j r g=>by lia);have x:=h.sz;unfold IU;rw[iG,e,dj];split
 ·exact⟨b,d,a,aZ _⟩
 ·rename_i t;have u:n≠N:=by simpa using t
  have hl:=k (by lia);rw[dj];split
  ·rename_i r;show Cn key N p (cK (kG O key) (if kG O key (dc p 0) (dc p (n - 1))=true then .ret (n,p) else ie n N (kO p 0 n)));rw[dj];split
   ·exact⟨b,d,a,aZ _⟩
   ·rename_i c;obtain⟨l,m,o,q⟩:=rg (key:=key) (p:=kO p 0 n) d (by lia) (a.rev (Ì _)) (λ i j g s=>by
      rw[gD (by lia),gD (by lia),Ï (by lia),Ï (by lia)];exact b _ _ (by lia) (by lia))
     (by
      rw[gD (by lia),gD (by lia),Ô (by lia),Ï (by lia),show 0+n - 1 - (n - 1)=0 by lia];exact eo hl (AG c))
    exact⟨l,m,o,q.trans (rR _ _ _ _)⟩
  ·have f:n=1:=by lia
   subst f;exact rg (by lia) (by lia) a (λ i j g s=>by lia) hl
theorem uz (h:y_ key p k)(j:∀ i,i < k->dc p i < dc p k):∀ (f l r:Nat),l<=r->r<=k->r - l<=f->(∀ i,i < l->Ah key (dc p i) (dc p k))->(∀ i,r<=i->i < k->Ah key (dc p k) (dc p i))->
  ∃ m,cK (kG O key) (gA p k f l r)=m/\m<=k/\(∀ i,i < m->Ah key (dc p i) (dc p k))/\∀ i,m<=i->i < k->Ah key (dc p k) (dc p i)
 | 0,l,r,s,n,t,b,d=>⟨l,rfl,by lia,b,λ i o a=>d i (by lia) a⟩
 | f+1,l,r,s,n,t,b,d=>by
  have e:cK (kG O key) (gA p k (f+1) l r)=if l ≥ r then l else if kG O key (dc p k) (dc p ((l+r) / 2))=true then cK (kG O key) (gA p k f l ((l+r) / 2)) else cK (kG O key) (gA p k f ((l+r) / 2+1) r):=by
   refine(dj ..).trans ?_;congr 1;exact dj ..
  rw[e];by_cases hl:l ≥ r
  ·rw[Ï hl];exact⟨l,rfl,by lia,b,λ i o a=>d i (by lia) a⟩
  ·rw[Ô hl];by_cases c:kG O key (dc p k) (dc p ((l+r) / 2))=true
   ·rw[Ï c];refine uz h j f l ((l+r) / 2) (by lia) (by lia) (by lia) b λ i o a=>?_;by_cases q:i=(l+r) / 2
    ·rw[q];exact .inl c
    ·exact Ah.trans (.inl c) (h _ i (by lia) a)
   ·rw[Ô c];have g:Ah key (dc p ((l+r) / 2)) (dc p k):=.Mz c (j _ (by lia));refine uz h j f ((l+r) / 2+1) r (by lia) n (by lia) (λ i q=>?_) d;by_cases e:i=(l+r) / 2
    ·rw[e];exact g
    ·exact(h i ((l+r) / 2) (by lia) (by lia)).trans g
def M7 {p:Ă Nat}(c:k < p.size)(hl:l<=k)(i:Nat):dc (Dh p k (k - l)) i=if i=l then dc p k else if l < i/\i<=k then dc p (i - 1) else dc p i:=by
 have h:=getElem?_bubble (xs:=p) c (k - l) (by lia) i;rw[show k - (k - l)=l by lia]at h;by_cases b:i=l
 ·rw[Ï b]at h ⊢;exact pe h
 ·rw[Ô b]at h ⊢;by_cases a:l < i/\i<=k
  ·rw[Ï a]at h ⊢;exact pe h
  ·rw[Ô a]at h ⊢;exact pe h
theorem Fj:∀ (f:Nat)(p:Ă Nat)(k:Nat),k+f=N->Pm p k N->y_ key p k->∃ r,cK (kG O key) (Js f p k)=r/\y_ key r N/\r.size=N/\r.Perm p
 | 0,p,k,o,a,h=>⟨p,rfl,(by rw[<-o];exact h),a.sz,aZ _⟩
 | f+1,p,k,o,a,h=>by
  have B:=a.sz;have s:dc p k=k:=a.hi k (Ì _) (by lia);obtain⟨l,e,t,u,v⟩:=uz (key:=key) h (λ i b=>by rw[s];exact a.lo i b) k 0 k (ï _) (Ì _) (by lia) (λ i b=>by lia) (λ i m n=>by lia);have z:cK (kG O key) (Js (f+1) p k)=cK (kG O key) (Js f (Dh p k (k - l)) (k+1)):=by
   show cK (kG O key) ((gA p k k 0 k).bind λ l=>Js f (Dh p k (k - l)) (k+1))=_;rw[iG,e]
  have g:=M7 (p:=p) (k:=k) (by lia) t;have D:y_ key (Dh p k (k - l)) (k+1):=λ i j m n=>by
   rw[g,g];by_cases b:i=l
   ·rw[Ï b,Ô (by lia),Ï (by lia)];exact v (j - 1) (by lia) (by lia)
   ·rw[Ô b];by_cases c:l < i/\i<=k
    ·rw[Ï c,Ô (by lia),Ï (by lia)];exact h _ _ (by lia) (by lia)
    ·rw[Ô c];by_cases q:j=l
     ·rw[Ï q];exact u i (by lia)
     ·rw[Ô q];by_cases d:l < j/\j<=k
      ·rw[Ï d];exact h _ _ (by lia) (by lia)
      ·rw[Ô d];exact h _ _ m (by lia)
  have C:Pm (Dh p k (k - l)) (k+1) N:=by
   refine⟨(bubble_size _ _ _).trans B,by lia,λ i b=>?_,λ i m n=>?_⟩
   ·rw[g];split
    ·rw[s];lia
    ·split
     ·exact dn (a.lo _ (by lia))
     ·exact dn (a.lo _ (by lia))
   ·rw[g,Ô (by lia),Ô (by lia)];exact a.hi i (by lia) n
  obtain⟨r,A,w,x,y⟩:=Fj f (Dh p k (k - l)) (k+1) (by lia) C D;exact⟨r,z.trans A,w,x,y.trans (bubble_perm _ _ _)⟩
def CU (f:1<=n):let r:=cK (kG O key) (nZ n);y_ key r n/\r.size=n/\r.Perm (ğ (Ą n)):=by
 have m:(ğ (Ą n)).size=n:=by simp
 have g:∀ i,i < n->dc (ğ (Ą n)) i=i:=λ i a=>by simp[dc,Array.getD,a]
 obtain⟨c,o,b,d⟩:=Fy (key:=key) (p:=ğ (Ą n)) f ⟨m,f,λ i a=>by rw[g i (by lia)];exact a,λ i _ a=>g i a⟩;unfold nZ;rw[iG];generalize cK (kG O key) (IU n (ğ (Ą n)))=r at *
 have hl:=b.le;rw[dj];split
 ·have l:max r.1 1=r.1:=by lia
  rw[l];obtain⟨q,e,h,j,k⟩:=Fj (key:=key) (n - r.1) r.2 r.1 (by lia) b c;rw[e];exact⟨h,j,k.trans d⟩
 ·have:r.1=n:=by lia
  exact⟨(by show y_ key r.2 n;rw[<-this];exact c),b.sz,d⟩
end
def o7 {α:Type}(n:Nat)(A:α->Prop):UD α->Prop
 | .ret a=>A a
 | .ask i j k=>i < n/\j < n/\∀ b,o7 n A (k b)
theorem o7.bind {α d:Type}{A:α->Prop}{Pq:d->Prop}{f:α->UD d}(c:∀ a,A a->o7 n Pq (f a)):∀ {t:UD α},o7 n A t->o7 n Pq (t.bind f)
 | .ret a,h=>c a h
 | .ask i j k,h=>⟨h.1,h.2.1,λ b=>o7.bind c (h.2.2 b)⟩
def AllLt (n:Nat)(p:Ă Nat):Prop:=∀ i,p.getD i 0 < n
def allLt_of (a:1<=n)(h:∀ x∈p.toList,x < n):AllLt n p:=λ i=>by
 rw[Ū];cases e:p[i]? with
 | none=>exact a
 | some x=>exact h x (by rw[nQ];exact Array.mem_of_getElem? e)
def AllLt.rev (b:1<=n)(h:AllLt n p)(i j:Nat):AllLt n (kO p i j):=allLt_of b λ x f=>by
 have:x∈p.toList:=by
  have d:=(rR p i j ((j - i) / 2))
  exact(dy.mp d).mem_iff.mp f
 obtain⟨k,c,e⟩:=İ this;have:=h k;rw[Ū]at this;have a:p[k]? = À x:=by rw[<-aa,Å c,e]
 rw[a]at this;exact this
def AllLt.Yq (b:1<=n)(h:AllLt n p)(i j:Nat):AllLt n (Dh p i j):=allLt_of b λ x d=>by
 have:x∈p.toList:=(dy.mp (bubble_perm p i j)).mem_iff.mp d;obtain⟨k,c,e⟩:=İ this;have:=h k;rw[Ū]at this;have a:p[k]? = À x:=by rw[<-aa,Å c,e]
 rw[a]at this;exact this
theorem AS (h:AllLt n p):∀ (f m:Nat),o7 n (λ _=>True) (kas_asc p f m)
 | 0,m=>trivial
 | f+1,m=>⟨h _,h _,λ b=>by
  show o7 n _ (if b=true then .ret m else kas_asc p f (m+1));split
  ·trivial
  ·exact AS h f (m+1)⟩
theorem sL (a:1<=n):∀ (f:Nat) {p:Ă Nat}(m q:Nat),AllLt n p->o7 n (λ r=>AllLt n r.1) (eI f p m q)
 | 0,p,m,q,h=>h
 | f+1,p,m,q,h=>⟨h _,h _,λ b=>by
  show o7 n _ (if b=true then (if q > 0 then eI f (kO p (m - (q+1)) m) (m+1) 0 else eI f p (m+1) 0) else .ask (p.getD (m - 1) 0) (p.getD m 0) λ d=>if d=true then .ret (p,m,q) else eI f p (m+1) (q+1));split
  ·split
   ·exact sL a f _ _ (h.rev a _ _)
   ·exact sL a f _ _ h
  ·refine⟨h _,h _,λ d=>?_⟩;show o7 n _ (if d=true then .ret (p,m,q) else eI f p (m+1) (q+1));split
   ·exact h
   ·exact sL a f _ _ h⟩
def Ag (c:1<=n){p:Ă Nat}(h:AllLt n p)(m b:Nat):o7 n (λ r=>AllLt n r.2) (IV m b p):=by
 have a:=AS (h.rev c 0 m) (b - m) m;unfold IV;refine o7.bind (Pq:=λ r:Nat × Ă Nat=>AllLt n r.2) (λ q _=>?_) a;exact h.rev c 0 m
def rf (b:1<=n){p:Ă Nat}(h:AllLt n p)(m a:Nat):o7 n (λ r=>AllLt n r.2) (ie m a p):=
 o7.bind (λ r hr=>by
  show o7 n _ (if r.2.2 > 0 then _ else _);split
  ·exact Ag b (AllLt.rev b hr _ _) _ _
  ·exact Ag b hr _ _) (sL b _ _ _ h)
def Fx (b:1<=n){p:Ă Nat}(h:AllLt n p)(a:Nat):o7 n (λ r=>AllLt n r.2) (IU a p):=
 o7.bind (λ m _=>by
  show o7 n _ (if (m == a)=true then .ret (m,p) else if m > 1 then .ask (p.getD 0 0) (p.getD (m - 1) 0) λ c=>if c=true then .ret (m,p) else ie m a (kO p 0 m) else ie m a p);split
  ·exact h
  ·split
   ·refine⟨h _,h _,λ c=>?_⟩;show o7 n _ (if c=true then .ret (m,p) else ie m a (kO p 0 m));split
    ·exact h
    ·exact rf b (h.rev b _ _) _ _
   ·exact rf b h _ _) (AS h _ _)
theorem uy (h:AllLt n p)(k:Nat):∀ (f l r:Nat),o7 n (λ _=>True) (gA p k f l r)
 | 0,l,r=>trivial
 | f+1,l,r=>by
  show o7 n _ (if l ≥ r then .ret l else .ask (p.getD k 0) (p.getD ((l+r) / 2) 0) λ c=>if c=true then gA p k f l ((l+r) / 2) else gA p k f ((l+r) / 2+1) r);split
  ·trivial
  ·refine⟨h _,h _,λ c=>?_⟩;show o7 n _ (if c=true then gA p k f l ((l+r) / 2) else gA p k f ((l+r) / 2+1) r);split
   ·exact uy h k f _ _
   ·exact uy h k f _ _
theorem Fi (a:1<=n):∀ (f:Nat) {p:Ă Nat}(k:Nat),AllLt n p->o7 n (λ _=>True) (Js f p k)
 | 0,p,k,h=>trivial
 | f+1,p,k,h=>o7.bind (λ l _=>Fi a f _ (h.Yq a _ _)) (uy h k k 0 k)
def CT (a:1<=n):o7 n (λ _=>True) (nZ n):=
 o7.bind (λ r hr=>by
  show o7 n _ (if r.1 < n then _ else _);split
  ·exact Fi a _ _ hr
  ·trivial) (Fx a (allLt_of a λ x b=>by simpa using b) n)
theorem Iq (c:∀ i j C,i < n->j < n->C (lt i j) s->cmp i j C s):∀ {t:UD α},o7 n (λ _=>True) t->Q (cK lt t) s->t.kasWp cmp Q s
 | .ret a,_,h=>h
 | .ask i j k,b,h=>c i j _ b.1 b.2.1 (Iq c (b.2.2 _) h)
section
variable {prog:Ĉ}{w:Ĩ}{A:į}{E:Value->Ò->Prop}{s:Ò}{a:Addr}{vs:Á Value}
def LC {O:KeyOrd}{key:Nat->O.α}{κ:wQ}{P:Jm->Ò->Prop}(l:s.heap.get? a=À (č "list" vs.toArray n)) (F:2<=vs.length)(q:vs.length < 64)
  (t:∀ h':Heap,(∀ b o,b≠a->s.heap.get? b=À o->h'.get? b=À o)->∀ Q:wQ->Ò->Prop,Q κ { s with heap:=h' }->Ú (à prog w) A (Yd vs.toArray) Q (λ _ _=>False) { s with heap:=h' })
  (G:∀ h':Heap,(∀ b o,b≠a->s.heap.get? b=À o->h'.get? b=À o)->∀ i j C,i < vs.length->j < vs.length->C (O.blt (key i) (key j)) { s with heap:=h' }->Ú (à prog w) A (keyLt' κ (vs.getD i ì) (vs.getD j ì)) C (λ _ _=>False) { s with heap:=h' })
  (h:∀ p:Ă Nat,y_ key p vs.length->p.size=vs.length->p.Perm (ğ (Ą vs.length))->P (.done (.ret .none)) { s with heap:=sortedHeap s.heap a vs (ğ (p.toList.map λ i=>vs.getD i ì)) }) :
  Ú (à prog w) A (bT.«list.sort» ⟨[.ref a],[]⟩) P E s:=by
 have M:a < s.heap.objs.size:=Ó l;obtain⟨m,g⟩:∃ m,(s.heap.update a (ð λ _=>(#[]:Ă Value))).get? a=À (č "list" #[] m):=⟨_,kb l λ _=>#[]⟩
 rw[Xb];refine Â (wZ l rfl ?_);refine Â (dI l rfl ?_ (by rw[Ù,ą];lia) (ï _));refine Â (mK g rfl ?_);refine Â (rT ?_ (by show vs.length<=_;rw[ą];lia));refine Â (fK ?_ (ï _));refine Ň ?_;show Ú (à prog w) A _ P E { s with heap:=((s.heap.update a (ð λ _=>(#[]:Ă Value))).push (č "tuple" vs.toArray 0)).push (č "list" #[] 0) };dsimp only;have f:¬ vs.toArray.size < 2:=by rw[Ù];lia
 rw[Ô f,Ô f];have d:∀ b o,b≠a->s.heap.get? b=À o->(((s.heap.update a (ð λ _=>(#[]:Ă Value))).push (č "tuple" vs.toArray 0)).push (č "list" #[] 0)).get? b=À o:=λ b o H e=>
  Ã _ (Ã _ ((ç _ _ (Ŋ H)).trans e))
 refine Â (ae (t _ d _ ?_) (λ κ Z t=>t) λ _ _ x=>x.elim);have ask:=Iq (cmp:=kas_ask prog w A κ vs) (lt:=kG O key) (s:={ s with heap:=((s.heap.update a (ð λ _=>(#[]:Ă Value))).push (č "tuple" vs.toArray 0)).push (č "list" #[] 0) })
  (Q:=λ p v=>p=cK (kG O key) (nZ vs.length)/\v={ s with heap:=((s.heap.update a (ð λ _=>(#[]:Ă Value))).push (č "tuple" vs.toArray 0)).push (č "list" #[] 0) }) (λ i j C J L hC=>G _ d i j C J L hC) (CT (by lia)) ⟨rfl,rfl⟩
 refine Â (ae (kat_run (Q:=λ c s'=>∃ p:Ă Nat,p.size=vs.length/\arrOf c=p.map (kas_item (vs.toArray.zip vs.toArray))/\Yb c=none/\p=cK (kG O key) (nZ vs.length)/\s'={ s with heap:=((s.heap.update a (ð λ _=>(#[]:Ă Value))).push (č "tuple" vs.toArray 0)).push (č "list" #[] 0) })
  rfl F q (λ T c s' z B D y=>⟨T,z,B,D,y.1,y.2⟩) ask) ?_ λ _ _ e=>e)
 rintro⟨⟨⟩,c⟩ s' ⟨p,N,r,I,rfl,rfl⟩;dsimp only;have k:=kat_snds rfl r;have u:(ğ ((cK (kG O key) (nZ vs.length)).toList.map λ i=>vs.getD i ì)).size=vs.length:=by rw[Ù,Î,Į,N]
 rw[k];have na:(((s.heap.update a (ð λ _=>(#[]:Ă Value))).push (č "tuple" vs.toArray 0)).push (č "list" #[] 0)).get? a=À (č "list" #[] m):=Ã _ (Ã _ g);refine Â (mK na rfl ?_);refine Â (dI na rfl ?_ (ï _) (Đ (jD u) (by rw[ą];lia)));rw[I];simp only[wU,Ŧ,eG];obtain⟨U,X,Y⟩:=CU (key:=key) (n:=vs.length) (by lia);exact Ë (h _ U X Y)
end
end Mm
namespace L2
open PySem PySem.Spec PyProof.Rows
def Ŕ.oE (x:Ŕ P w H h a o):∃ u,h.get? a=À u:=by
 cases o with
 | lst xs=>obtain⟨_,_,_,_,e⟩:=x;exact⟨_,e⟩
 | tup xs=>obtain⟨_,_,_,⟨_,e,_⟩⟩:=x;exact⟨_,e⟩
 | dK b=>obtain⟨_,_,_,_,o,_,_,e,_⟩:=x;exact⟨_,e⟩
 | dT b=>obtain⟨_,_,_,_,o,_,_,e,_⟩:=x;exact⟨_,e⟩
 | set S n=>obtain⟨o,_,_,_,e,_⟩:=x;exact⟨_,e⟩
 | ins C d c=>obtain⟨_,_,_,e,_⟩:=x;exact⟨_,e⟩
 | own y=>obtain⟨_,e⟩:=x;exact⟨_,e⟩
 | xd c=>obtain⟨_,⟨_,_,_,e,_⟩,_⟩:=x;exact⟨_,e⟩
 | SX lo g=>obtain⟨_,_,_,e⟩:=x;exact⟨_,e⟩
 | hV i u=>obtain⟨e,_⟩:=x;exact⟨_,e⟩
 | pU j=>exact⟨_,show h.get? a=À _ from x⟩
 | met f y=>exact⟨_,show h.get? a=À _ from x⟩
 | ext k=>obtain⟨_,⟨_,e⟩,_⟩:=x;exact⟨_,e⟩
def Inv.grown (I:Inv X d h H s)(k:∀ b u,s.heap.get? b=À u->h'.get? b=À u)(e:∀ b u,s.heap.get? b=À u->H' b=H b)
  (f:∀ b o,s.heap.get? b=none->H' b=À o->Ŕ X.prog X.w H' h' b o):Inv X d h H' { s with heap:=h',toks:=t' }:=by
 have a:∀ b o,H b=À o->H' b=À o:=λ b o z=>by
  obtain⟨u,hu⟩:=(I.ś b o z).oE;rw[e b u hu];exact z
 refine I.un ⟨λ b u q _ _ _=>k b u q,λ b u q _ _ _=>⟨u.slots,k b u q⟩,λ b u q n _=>by rw[e b u q];exact n,λ b u q _=>⟨u,k b u q⟩,λ b xs q=>a b _ q,λ b u xs q=>a b _ q,λ b i q=>⟨#[],by rw[a b _ q];simp⟩⟩ λ b o z=>?_;cases g:s.heap.get? b with
 | some u=>
  rw[e b u g]at z;exact(I.ś b o z).nE (λ c u _ q=>k c u q) (λ c q=>a c _ q) λ c xs q=>a c _ q
 | none=>exact f b o g z
def zJ (a b:Str):Bool:=!decide (b.cps.toList < a.cps.toList)
def DN (a:Str):Á Str->Á Str
 | []=>[a]
 | b :: r=>if zJ a b=true then a :: b :: r else b :: DN a r
def Ĕ:Á Str->Á Str
 | []=>[]
 | a :: r=>DN a (Ĕ r)
theorem qu (a:Str):∀ l,(DN a l).Perm (a :: l)
 | []=>.refl _
 | b :: r=>by
  unfold DN;split
  ·exact .refl _
  ·exact((qu a r).cons b).trans (.swap a b r)
theorem lC:∀ l,(Ĕ l).Perm l
 | []=>.refl _
 | a :: r=>(qu a (Ĕ r)).trans ((lC r).cons a)
abbrev oS:KeyOrd:=strKind.toKeyOrd
abbrev DB (a:Str):oS.α:=a.cps.toList
def jx:zJ a b=true ↔ oS.kle (DB a) (DB b):=by
 unfold zJ Tu;show(!decide (b.cps.toList < a.cps.toList))=true ↔ decide (b.cps.toList < a.cps.toList)=false;simp
def DV (a b:Str)(h:zJ a b≠true):zJ b a=true:=by
 rw[jx];refine AG λ z=>?_;exact h (jx.mpr (qY z))
def wj (h:zJ a b=true)(k:zJ b c=true):zJ a c=true:=by
 rw[jx]at *
 exact gy h k
def uc (h:zJ a b=true)(k:zJ b a=true):a=b:=by
 rw[jx]at *
 have e:a.cps.toList=b.cps.toList:=C2 h k;cases a with|mk x=>cases b with|mk y=>exact Ķ Str.mk (sU.mp e)
theorem rm (a:Str):∀ {l:Á Str},l.Pairwise (λ x y=>zJ x y=true)->(DN a l).Pairwise (λ x y=>zJ x y=true)
 | [],_=>lW _ _
 | b :: r,h=>by
  unfold DN;split
  ·rename_i c;refine ļ.mpr ⟨λ x hx=>?_,h⟩;rcases Þ.mp hx with rfl|hx
   ·exact c
   ·exact wj c ((ļ.mp h).1 x hx)
  ·rename_i c;refine ļ.mpr ⟨λ x hx=>?_,rm a (ļ.mp h).2⟩;rcases Þ.mp ((qu a r).mem_iff.mp hx) with rfl|hx
   ·exact DV _ _ c
   ·exact(ļ.mp h).1 x hx
theorem pK:∀ l,(Ĕ l).Pairwise (λ x y=>zJ x y=true)
 | []=>m9
 | a :: r=>rm a (pK r)
theorem jA {α:Type}{le:α->α->Bool}(c:∀ a b,le a b=true->le b a=true->a=b):∀ {l q:Á α},l.Perm q->l.Pairwise (λ x y=>le x y=true)->q.Pairwise (λ x y=>le x y=true)->l=q
 | [],q,p,_,_=>(List.nil_perm.mp p).symm
 | a :: r,q,p,h,k=>by
  cases q with
  | nil=>exact absurd (p.length_eq) (by simp)
  | cons b t=>
   have d:a=b:=by
    rcases Þ.mp (p.mem_iff.mp Ļ) with e|ha
    ·exact e
    ·rcases Þ.mp (p.mem_iff.mpr Ļ) with e|hb
     ·exact e.symm
     ·exact c _ _ ((ļ.mp h).1 b hb) ((ļ.mp k).1 a ha)
   subst d;rw[jA c p.cons_inv (ļ.mp h).2 (ļ.mp k).2]
def oC {l q:Á Str}(p:l.Perm q)(h:l.Pairwise (λ x y=>zJ x y=true)):l=Ĕ q:=
 jA (λ _ _=>uc) (p.trans (lC q).symm) h (pK q)
theorem iz:∀ {l:Á Str},sortedS l=true->l.Pairwise (λ x y=>zJ x y=true)
 | [],_=>.nil
 | [a],_=>lW _ _
 | a :: b :: r,h=>by
  have h:(!ltCps b.cps.toList a.cps.toList && risingS b r)=true:=h;rw[ĝ]at h;have d:(b :: r).Pairwise (λ x y=>zJ x y=true):=iz h.2;have c:zJ a b=true:=by
   have:=h.1;rw[ltCps_eq]at this;exact this
  refine ļ.mpr ⟨λ x hx=>?_,d⟩;rcases Þ.mp hx with rfl|hx
  ·exact c
  ·exact wj c ((ļ.mp d).1 x hx)
theorem uP:∀ {l:Á Value}{ks:Á Str},l.length=ks.length->(∀ j (a:j < ks.length),∃ t,l[j]? = À (.str ks[j] t))->Tz l ks
 | [],[],_,_=>.nil
 | [],_ :: _,h,_=>by simp at h
 | _ :: _,[],h,_=>by simp at h
 | v :: r,k :: q,h,g=>by
  obtain⟨t,e⟩:=g 0 (by simp);simp at e;subst e;exact .cons k t (uP (by simpa using h) λ j a=>by
   obtain⟨t,e⟩:=g (j+1) (by simpa using a);exact⟨t,by simpa using e⟩)
def J8 {kvs:Á (Key × V)}(a:KV kvs vs){ks:Á Str}(c:kvs.map (·.1)=ks.map dq) (e:vs[j]? = À (k,x)) (f:j < ks.length):k=dq ks[j]:=by
 have d:(vs.map (·.1))=kvs.map (·.1):=by
  clear c e;unfold KV at a;induction a with
  | nil=>rfl
  | cons h _ g=>rw[Õ,Õ,g,h.1]
 have b:(vs.map (·.1))[j]? = À k:=by rw[è,e];rfl
 rw[d,c,è,Å f]at b;exact(æ b).symm
def O8:Á V->Hp->VK->Prop:=λ xs H Q=>∃ (d:Addr)(a:Á (Key × V)) (b:Á Str),xs=[.ref d]/\H d=À (.dK a)/\a.map (·.1)=b.map dq/\b.length < 64/\∀ l,H l=none->Q (.ref l) (upd H l (.lst ((Ĕ b).map V.str)))
def AZ {X:Cx}(hc:X.calm=true):bx X (.builtin "sorted") O8:=by
 rintro P s σ H xs us Q I rv ⟨d,kvs,l,rfl,hH,O,B,q⟩;obtain⟨u,rfl,ru⟩:=rv.one;cases (show u=Ñ d from ru);obtain⟨z,hd,T,n,dd⟩:=FH I.ś hH;obtain⟨ep,E⟩:=dd.dictAt;have G:T.length=l.length:=by
  have v:=Ķ bE O;have y:=n.length;rw[Î,Î]at v;lia
 have hh:=I.ok.hd hc;refine eM Ax w4 wX (Jq _) ?_;unfold bT.«sorted»;refine Â (m:=Di "sorted" 1 1 _) (Ë ?_);refine Â (PySem.W.kdu_collect (A:=X.A.in1) (PySem.W.kdl_dict (knd:=ů X.prog X.w) (kvs:=T) (ep:=ep) hd) hh E (by rw[<-n.length];exact z) λ f tk a h g=>?_);have hl:a.toList.length=l.length:=by rw[Į,g.1,G]
 have D:Tz a.toList l:=uP hl λ j N=>by
  have p:j < a.size:=by rw[<-Į,hl];exact N
  obtain⟨k,x,r,e2⟩:=g.2 j a[j] (by rw[Ž p]);have ek:k=dq l[j]:=J8 n O r N;subst ek;obtain⟨t,et⟩:=EO (show yU l[j] a[j]=true from e2);exact⟨t,by rw[aa,Ž p,et]⟩
 refine Â (fK ?_ (by rw[hl];exact ė (ŝ (by lia))));have i:(f.push (č "list" a.toList.toArray 0)).get? f.objs.size=À (č "list" a.toList.toArray 0):=Ö _ rfl;refine Â (Ň (ħ Dm ⟨_,i,rfl⟩ AK (list_sort_treeK strKind_oneLt i D.keysOf (λ U Y rest e=>keyKind_strs (by rw[<-e];exact D)) (by rw[hl];exact B) λ L Z a2=>⟨_,rfl,?_⟩) (Ya _)));obtain⟨J,v,y,h3⟩:=sorted_out_str D Z a2;have r:J=Ĕ l:=oC y (iz h3);subst r;have c:∀ b u,s.heap.get? b=À u->b≠f.objs.size:=λ b u e=>ê (Ó (h b u e));have C:H f.objs.size=none:=by
  cases q0:H f.objs.size with
  | none=>rfl
  | some o=>obtain⟨u,hu⟩:=(I.ś _ o q0).oE;exact absurd rfl (c _ u hu)
 obtain⟨ec,F⟩:=sortedHeap_at i (out:=(arrOf L).map (·.2));refine Ë ⟨_,rfl,.ref f.objs.size,upd H f.objs.size (.lst ((Ĕ l).map V.str)),?_,rfl,q _ C⟩;refine I.grown (λ b u e=>?_) (λ b u e=>ä (c b u e)) λ b o e z=>?_
 ·rw[Yk (c b u e) (by rw[ĸ];exact dn (Ó (h b u e)))];exact Ã _ (h b u e)
 ·by_cases M:b=f.objs.size
  ·subst M;rw[ù]at z;cases z;refine⟨by rw[Î,y.length_eq];exact ė (ŝ (by lia)),_,ec,hJ v,?_⟩;rw[F]
  ·rw[ä M]at z;obtain⟨u,hu⟩:=(I.ś b o z).oE;rw[e]at hu;cases hu
end L2
namespace Mm
open PySem PySem.W PyProof.Rows
section
variable {prog:Ĉ}{w:Ĩ}{A:į}{E:Value->Ò->Prop}{s:Ò}{a:Addr}{vs:Á Value}
def HM {O:KeyOrd}{key:Nat->O.α}{κ:wQ}{P:Jm->Ò->Prop}(d:s.heap.get? a=À (č "list" vs.toArray n)) (l:vs.length < 64)
  (v:∀ h':Heap,2<=vs.length->(∀ b o,b≠a->s.heap.get? b=À o->h'.get? b=À o)->∀ Q:wQ->Ò->Prop,Q κ { s with heap:=h' }->Ú (à prog w) A (Yd vs.toArray) Q (λ _ _=>False) { s with heap:=h' })
  (t:∀ h':Heap,(∀ b o,b≠a->s.heap.get? b=À o->h'.get? b=À o)->∀ i j C,i < vs.length->j < vs.length->C (O.blt (key i) (key j)) { s with heap:=h' }->Ú (à prog w) A (keyLt' κ (vs.getD i ì) (vs.getD j ì)) C (λ _ _=>False) { s with heap:=h' })
  (h:∀ p:Ă Nat,y_ key p vs.length->p.size=vs.length->p.Perm (ğ (Ą vs.length))->P (.done (.ret .none)) { s with heap:=sortedHeap s.heap a vs (ğ (p.toList.map λ i=>vs.getD i ì)) }) :
  Ú (à prog w) A (bT.«list.sort» ⟨[.ref a],[]⟩) P E s:=by
 by_cases m:2<=vs.length
 ·exact LC d m l (λ h' k=>v h' m k) t h
 ·have x:a < s.heap.objs.size:=Ó d;obtain⟨g,f⟩:∃ g,(s.heap.update a (ð λ _=>(#[]:Ă Value))).get? a=À (č "list" #[] g):=⟨_,kb d λ _=>#[]⟩
  rw[Xb];refine Â (wZ d rfl ?_);refine Â (dI d rfl ?_ (by rw[Ù,ą];lia) (ï _));refine Â (mK f rfl ?_);refine Â (rT ?_ (by show vs.length<=_;rw[ą];lia));refine Â (fK ?_ (ï _));refine Ň ?_;show Ú (à prog w) A _ P E { s with heap:=((s.heap.update a (ð λ _=>(#[]:Ă Value))).push (č "tuple" vs.toArray 0)).push (č "list" #[] 0) };dsimp only;have c:vs.toArray.size < 2:=by rw[Ù];lia
  rw[Ï c,Ï c];refine Â (Ë ?_);rw[Jp];refine Â (Ë ?_);dsimp only;have na:(((s.heap.update a (ð λ _=>(#[]:Ă Value))).push (č "tuple" vs.toArray 0)).push (č "list" #[] 0)).get? a=À (č "list" #[] g):=Ã _ (Ã _ f);refine Â (mK na rfl ?_);refine Â (dI na rfl ?_ (ï _) (by rw[Array.size_map];show(pairsOf vs).size<=_;rw[pairsOf_size,ą];lia));simp only[wU,Ŧ,eG];have q:=h (ğ (Ą vs.length)) (λ i j y z=>by lia) (by simp) (aZ _);have e:ğ ((ğ (Ą vs.length)).toList.map λ i=>vs.getD i ì)=(vs.toArray.zip vs.toArray).map (·.2):=by
   apply sU.mp;apply lT
   ·simp
   ·intro i r B;have u:i < vs.length:=by simpa using r
    simp[u]
  rw[e]at q;exact Ë q
end
end Mm
namespace L2
open PySem PySem.Spec PyProof.Rows
def F9 {as:Á Addr}(nd:as.Nodup)(b:j < as.length):as.idxOf as[j]=j:=by
 have a:=List.idxOf_lt_length_of_mem (dV b);exact(aX nd).mp (List.getElem_idxOf a)
def md (h:Q true s):Ú (à prog w) A (eqBool v v) Q E s:=by
 unfold eqBool;refine Ň ?_;rw[Ï (yV v)];exact Â (bD (Ë h))
end L2
namespace Mm
open PySem L2
def jC:Á (Key × AV)->Ê (Á Str)
 | []=>À []
 | (.inr x,_) :: r=>(jC r).map (x :: ·)
 | _ :: _=>none
theorem rG:∀ {kvs:Á (Key × AV)}{ks:Á Str},jC kvs=À ks->kvs.map (·.1)=ks.map dq
 | [],_,h=>by cases h;rfl
 | (.inr x,v) :: r,ks,h=>by
  have h:(jC r).map (x :: ·)=À ks:=h;cases e:jC r with
  | none=>rw[e]at h;cases h
  | some q=>rw[e]at h;cases h;rw[Õ,rG e];rfl
 | (.inl x,v) :: r,ks,h=>by cases h
def n9 (m:Ev):fu:=λ a s=>(m a s).bind λ v d=>match v with
 | .ref i=>need (jN d i) λ b=>need (jC b) λ c=>if c.length < 64 then .ok ((Ĕ c).map .str) d else .bad
 | _=>.bad
section
variable {T:Tx}{XE:jg}{X:Cx}{pos:kK}
def GK (u:X.mg "sorted"=none)(h:PE X e (tE T XE m)) (f:X.calm=true:=by rfl)(t:Gl X "sorted":=by rfl)(d:Í [e] X.env=(false,Ē e X.env) :: Í [] X.env:=by rfl) (g:(Ĝ pos (Í [] X.env)).any (·.1)=false:=by rfl) :
  PE X (.Call (.Name "sorted" p) [e] [] pos) (tL T XE (n9 m)):=
 PE.imp (cM (AZ f) t u Ÿ (aI h eh d) (by decide) (by decide) d g) λ N H Q D=>Ņ D λ M o s y d w=>step y d w λ v J E F x _ L c q j b=>by
  cases v with
  | ref i=>
   obtain⟨A,k,b⟩:=b.î;obtain⟨z,n,b⟩:=b.î;obtain⟨hl,b⟩:=b.Œ;obtain⟨a,C,rfl,G,r,B,I⟩:=c.zj (js k) j;exact⟨a,C,z,rfl,r,by rw[<-B];exact rG n,hl,λ l hl=>b.lst c hl (ĩ.map (λ _=>hR) _)⟩
  | _=>exact b.elim
end
end Mm
namespace Ro
open PySem L2 Mm
def Xr (env:En):Nat:=match (env[(1:Nat)]?:Ê (Ê AV)) with
 | some (À (.int i))=>i.natAbs+1
 | _=>0
def Md (env:En):Nat:=match (env[(4:Nat)]?:Ê (Ê AV)) with
 | some (À (.int i))=>i.natAbs+1
 | _=>0
def mV:AV:=.tup [.int 0,.int 1]
def wd:AV:=.tup [.int 1,.int 1]
def kS:Ms:=
 (ċ (ŷ 1 (ŀ (pT uB (xM (zM (mv 0) oN (oS (mc (.int 63))))))))
 (ċ (hE (Rz (cB (Ø aP (mv 1) (ŀ (bZ Ý))))) (ŷ 1 (ŀ (bZ (Æ (mc (.int 7)) Ý)))) Ĵ)
 (ň (fF [((mc (.str "cells")),(mv 1)),((mc (.str "turn")),(mc (.int 0)))]))))
def df:Á AV->S->R AV:=dN 2 kS
def l8:Ms:=
 (ċ (ŷ 2 (Ø bS (Ø ģ (mv 0) (mc (.str "turn"))) (mc (.int 1))))
 (ċ (i7 (mv 0) (mc (.str "turn")) (mv 2))
 (ċ (ŷ 3 (Ø jz (mv 2) (xR i6 (Æ (Ø ģ (mv 0) (mc (.str "cells"))) Ý))))
 (ċ (ŷ 4 (Ø ĺ (Ø ģ (mv 0) (mc (.str "cells"))) (mv 3)))
 (ċ (hE (cB (Ø Ec (mv 4) (Ø CG (mc (.int 10)) (mc (.int 18))))) (ċ (BA (xR mz (Æ (mv 4) (Æ (mv 1) Ý))) (gT 2 (ĉ (ml (Ø ģ (mv 0) (mc (.str "cells"))) (mv 3)) (ĉ (gN 6) bR))))
 (ň (mv 6))) Ĵ)
 (ċ (ŷ 5 (Ø jz (Ø mB (Ø bS (Ø bS (Ø jz (mv 4) (mc (.int 2147483629))) (Ø mB (Ø mB (mv 2) (mv 2)) (mc (.int 7919)))) (mc (.int 11))) (mc (.int 48271))) (mc (.int 2147483647))))
 (ċ (ŷ 5 (Ø jz (Ø mB (mv 5) (mv 5)) (mc (.int 2147483587))))
 (ň (Ø jz (Ø qN (Ø jz (Ø mB (Ø bS (mv 5) (Ø mB (mv 2) (mc (.int 104729)))) (mc (.int 39373))) (mc (.int 2147483629))) (mc (.int 64))) (mv 1))))))))))
def ě:Á AV->S->R AV:=dN 7 l8
def cH (a:Á AV->S->R AV):Ms:=
 (ċ (hE (cB (Ø pF (mv 1) (mc .Ę))) (ň (Ø pF (mv 0) (mc .Ę))) Ĵ)
 (ċ (hE (Dv (cT (aH (gu "list") (mv 1))) (cT (aH (gu "tuple") (mv 1)))) (ċ (hE (cB (Ø uv (aH (gu "list") (mv 0)) (aH (gu "list") (mv 1)))) (ň (mc (.bl false))) Ĵ)
 (ċ (hE (Dv (cB (Ø uv (aH (gu "tuple") (mv 0)) (aH (gu "tuple") (mv 1)))) (cB (Ø uv (xR i6 (Æ (mv 0) Ý)) (xR i6 (Æ (mv 1) Ý))))) (ň (mc (.bl false))) Ĵ)
 (ň (pT Em (Ů [("_law_one",none),("_law_other",none)] (HN (mv 0) (mv 1)) (gT 2 (ĉ (gN 0) (ĉ (gN 1) bR))) gm (ę 2 a (Æ (mv 0) (Æ (mv 1) Ý)))))))) Ĵ)
 (ċ (hE (cT (aH (gu "str") (mv 1))) (ň (DY (aH (gu "str") (mv 0)) (Ø aP (mv 0) (mv 1)))) Ĵ)
 (ň (DY (aH (gu "int") (mv 0)) (DY (aH G_ (aH (gu "bool") (mv 0))) (Ø aP (mv 0) (mv 1))))))))
def ā:Nat->Á AV->S->R AV
 | 0=>λ _ _=>.bad
 | n+1=>dN 2 (cH (ā n))
def jJ:Ms:=
 (ċ (lS 3 4 (Æ (xR wy (Æ (mv 0) Ý)) (Æ (xR wy (Æ (mv 1) Ý)) Ý)))
 (ċ (Lx (λ a _=>Md a) (cB (Ø Bo (mv 4) (mc (.int 0)))) (lS 3 4 (Æ (mv 4) (Æ (Ø jz (mv 3) (mv 4)) Ý))))
 (ċ (ŷ 2 (NN (cB (Ø G9 (mv 1) (mc (.int 0)))) (aH CF (mc (.int 1))) (mc (.int 1))))
 (ň (cL (Æ (Ø qN (Ø mB (mv 2) (mv 0)) (mv 3)) (Æ (Ø qN (Ø mB (mv 2) (mv 1)) (mv 3)) Ý)))))))
def br:Á AV->S->R AV:=dN 5 jJ
def kW:Ms:=
 (ċ (ŷ 2 (ŀ (F4 "str" pG (mc (.str "b aa zebra c quartzes ab m knows d mm likes z ba abcdefgh y zz e x f g hh jj kk pave")) (Æ (mc (.str " ")) Ý))))
 (ň (ŀ (Ů [("_law_turn",none),("_law_some",À 2),("_law_state",À 0)] (ym (Æ (mv 1) Ý)) (gN 0) gm (pq "list" zX (mv 1) (Æ (ę 2 ě (Æ (mv 2) (Æ (xR i6 (Æ (mv 1) Ý)) Ý))) Ý))))))
def dg:Á AV->S->R AV:=dN 3 kW
end Ro
namespace Dx
open PySem PySem.W PyProof.Rows
section
variable {prog:Ĉ}{w:Ĩ}{A:į}{E:Value->Ò->Prop}{s:Ò}
abbrev Nx (own:Value)(f:Bool)(d:Addr)(i n ep:Nat)(x y:Value):Obj:={ cls:=.type "dict_itemiterator",data:=.fields #[own,.bool f,.ref d,.int i 0,.int n 0,.int ep 0,x,y] }
abbrev pr (e:sC):Obj:={ cls:=.type "tuple",data:=.seq #[e.key,e.val] }
def Wk (h:Heap)(c d S:Addr)(i n ep:Nat):Prop:=∃ b f x y,h.get? c=À (Nx b f d i n ep x y)/\(b=.none∨∃ (a:Addr) (e:Obj),b=Ũ a/\h.get? a=À e/\a≠c/\a≠S)
def Mj:LY ((Manifest.find? "dict_itemiterator").elim "dict_itemiterator" λ x=>x.tpName)=true:=by decide +kernel
def tU {h p c:Heap}(l:g < h.objs.size)(s1:dR g h p)(m:dR g (p.push (pr e)) c) (t:c.get? g=À (Nx (Ũ (a:Addr)) f d i n ep x y)) (r:c.get? a=À u)(k:a≠g)(j:a≠S) :
  Wk c g d S i n ep/\c.get? h.objs.size=À (pr e)/\c.objs.size=h.objs.size+1/\∀ b o,b≠g->h.get? b=À o->c.get? b=À o:=
 ⟨⟨_,f,x,y,t,.inr ⟨a,u,rfl,r,k,j⟩⟩,by rw[m.2 _ (ġ l),<-s1.1];exact Ö _ rfl,by rw[m.1,ĸ,s1.1],
  λ b o q z=>by rw[m.2 b q];exact Ã _ ((s1.2 b q).trans z)⟩
def D' {od:Obj}{Q:Ê Value->Ò->Prop}(hw:Wk s.heap c d S i e.size ep)(O:S < s.heap.objs.size)(X:s.heap.get? d=À od)(hd:od.data=.dict e ep)(T:i < e.size)
   (C:∀ h',Wk h' c d S (i+1) e.size ep->h'.get? s.heap.objs.size=À (pr e[i])->h'.objs.size=s.heap.objs.size+1->(∀ b o,b≠c->s.heap.get? b=À o->h'.get? b=À o)->Q (À (.ref s.heap.objs.size)) { s with heap:=h' }):Ú (à prog w) A (fy (.ref c)) Q E s:=by
  obtain⟨j,g,M,tk,os⟩:=s;obtain⟨o1,o2,o3,o4⟩:=od;simp only at hd;subst hd;obtain⟨G,f,x,y,p,U⟩:=hw;have H:kC ⟨j,g,M,tk,os⟩ (.ref c) "dict_itemiterator":=⟨_,p,rfl⟩
  have m:c < j.objs.size:=Ó p;have N:(if (i:Int) < 0 then none else e[(i:Int).toNat]?)=À e[i]:=by rw[Ô (by lia),bJ,Ž T]
  unfold fy;refine Â (b_ (ĵ (name:=Ü "__next__") H Š
    (ħ Š H nU ?_ (nG _))))
  unfold bT.«dict_itemiterator.__next__»;wp_walk
  rw[N];have k:dR c j (j.update c (ü λ x=>x.setIfInBounds (2+1) (Ũ ((i:Int)+1)))):=ŧ ..;have I:(j.update c (ü λ x=>x.setIfInBounds (2+1) (Ũ ((i:Int)+1)))).get? c=À (Nx G f d (i+1) e.size ep x y):=ø _ p rfl;rcases U with rfl|⟨a,oa,rfl,P,l,v⟩
  · wp_walk
    rw[Mj,Ï rfl,Ô (by decide +kernel)];generalize j.update c (ü λ x=>x.setIfInBounds (2+1) (Ũ ((i:Int)+1)))=h at *
    have B:(h.push (pr e[i])).get? c=_:=Ã _ I;have D:=ø (ü λ x=>x.setIfInBounds 6 e[i].key) B rfl;have Y:=ø (ü λ x=>x.setIfInBounds (6+1) e[i].val) D rfl;have Z:=ø (ü λ x=>x.setIfInBounds 0 (Ũ h.objs.size)) Y rfl;have k6:=ø (ü λ x=>x.setIfInBounds 1 (eN false)) Z rfl;have L:=(((ŧ (h.push (pr e[i])) c (ü λ x=>x.setIfInBounds 6 e[i].key)).trans (ŧ _ c (ü λ x=>x.setIfInBounds (6+1) e[i].val))).trans (ŧ _ c (ü λ x=>x.setIfInBounds 0 (Ũ h.objs.size)))).trans (ŧ _ c (ü λ x=>x.setIfInBounds 1 (eN false)));have z:h.objs.size≠c:=by rw[k.1];exact ġ m
    obtain⟨q,r,t,u⟩:=tU (S:=S) m k L k6 ((L.2 _ z).trans (Ö _ rfl)) z (by rw[k.1];exact ġ O);refine⟨_,rfl,Ë ?_⟩;rw[show h.objs.size=j.objs.size from k.1];rw[show h.objs.size=j.objs.size from k.1]at q r t u;exact C _ q r t u
  · wp_walk
    rw[Mj,Ï rfl,Ô (by decide +kernel)];generalize j.update c (ü λ x=>x.setIfInBounds (2+1) (Ũ ((i:Int)+1)))=h at *
    have B:(h.push (pr e[i])).get? c=_:=Ã _ I;have n:(h.push (pr e[i])).get? a=À oa:=Ã _ ((k.2 a l).trans P);show Ú _ _ (loadIfAlive ((a:Int).toNat)) _ _ _;rw[bJ];refine PySem.W.kdx_alive n ?_;cases f with
    | true=>
      wp_walk
      refine⟨_,rfl,Ë ?_⟩;obtain⟨q,r,t,u⟩:=tU (S:=S) m k (Ww _ _) B n l v;rw[show h.objs.size=j.objs.size from k.1];exact C _ q r t u
    | false=>
      wp_walk
      have D:=ø (ü λ x=>x.setIfInBounds 1 (eN true)) B rfl;have J:=ŧ (h.push (pr e[i])) c (ü λ x=>x.setIfInBounds 1 (eN true));refine⟨_,rfl,Ë ?_⟩;obtain⟨q,r,t,u⟩:=tU (S:=S) m k J D ((J.2 a l).trans n) l v;rw[show h.objs.size=j.objs.size from k.1];exact C _ q r t u
def D_ {od:Obj}{Q:Ê Value->Ò->Prop}(p:A.handled=none)(c:s.heap.get? h=À (Nx t f d a.size a.size ep x y)) (q:s.heap.get? d=À od)(hd:od.data=.dict a ep)
   (m:∀ h',(∀ b o,b≠h->s.heap.get? b=À o->h'.get? b=À o)->Q none { s with heap:=h' }):Ú (à prog w) A (fy (.ref h)) Q E s:=by
  obtain⟨r,g,j,u,os⟩:=s;obtain⟨v,z,B,C⟩:=od;simp only at hd;subst hd;have i:kC ⟨r,g,j,u,os⟩ (.ref h) "dict_itemiterator":=⟨_,c,rfl⟩
  have k:(if (a.size:Int) < 0 then none else a[(a.size:Int).toNat]?)=none:=by rw[Ô (by lia),bJ,fG (Ì _)]
  unfold fy;refine Â (b_ (ĵ (name:=Ü "__next__") i Š
    (ħ Š i nU ?_ (nG _))))
  unfold bT.«dict_itemiterator.__next__»;wp_walk
  rw[k];wp_walk
  have l:A.in1.handled=none:=p;simp only[Yh];refine Â (E6 ?_);rw[l];refine Â (Ë (MV ?_));refine Â (y6 (T:="StopIteration") (b:=true) ⟨_,Ö _ rfl,rfl⟩ Dk (Ë (m _ λ b o n e=>?_)));exact Ã _ (Ã _ ((ç _ _ (Ŋ n)).trans e))
def A_ {od:Obj}{Q:Value->Ò->Prop}(e:s.heap.IsItemsView v d)(j:s.heap.get? d=À od)(hd:od.data=.dict h ep)
   (i:Q (.ref s.heap.objs.size) { s with heap:=s.heap.push (Nx .none false d 0 h.size ep .none .none) }):Ú (à prog w) A (Ju (.ref v)) Q E s:=by
  obtain⟨l,g,f,m,os⟩:=s;obtain⟨n,o,p,q⟩:=od;simp only at hd;subst hd;have c:=e.typeIs (s:=⟨l,g,f,m,os⟩);obtain⟨⟨r,t,u,x⟩,k,a,b⟩:=e;simp only at a b;subst a b;refine TX c sZ (ħ sZ c PySem.F.entry_dict_items_iter ?_ (PySem.F.args_dict_items_iter_1 _));unfold bT.«dict_items.__iter__»;wp_walk
  exact⟨_,rfl,"dict_itemiterator",_,⟨_,Ö _ rfl,rfl⟩,Š.lookup,i⟩
abbrev Gg (d:Addr)(i n ep:Nat):Obj:={ cls:=.type "dict_keyiterator",data:=.fields #[.ref d,.int i 0,.int n 0,.int ep 0] }
def G3 {od:Obj}{Q:Ê Value->Ò->Prop}(c:s.heap.get? f=À (Gg d i a.size ep)) (p:s.heap.get? d=À od)(hd:od.data=.dict a ep)(n:i < a.size)
   (l:∀ h',h'.get? f=À (Gg d (i+1) a.size ep)->(∀ b o,b≠f->s.heap.get? b=À o->h'.get? b=À o)->Q (À a[i].key) { s with heap:=h' }):Ú (à prog w) A (fy (.ref f)) Q E s:=by
  obtain⟨q,g,j,r,os⟩:=s;obtain⟨t,u,v,x⟩:=od;simp only at hd;subst hd;have h:kC ⟨q,g,j,r,os⟩ (.ref f) "dict_keyiterator":=⟨_,c,rfl⟩
  have k:(if (i:Int) < 0 then none else a[(i:Int).toNat]?)=À a[i]:=by rw[Ô (by lia),bJ,Ž n]
  unfold fy;refine Â (b_ (ĵ (name:=Ü "__next__") h Ţ
    (ħ Ţ h oT ?_ (nS _))))
  unfold bT.«dict_keyiterator.__next__»;wp_walk
  rw[k];wp_walk
  refine⟨_,rfl,Ë (l _ (ø _ c rfl) λ b o m e=>(ç _ _ (Ŋ m)).trans e)⟩
def D8 {od:Obj}{Q:Ê Value->Ò->Prop}(p:A.handled=none)(c:s.heap.get? f=À (Gg d i a.size ep)) (q:a.size<=i)(r:s.heap.get? d=À od)(hd:od.data=.dict a ep)
   (m:∀ h',(∀ b o,b≠f->s.heap.get? b=À o->h'.get? b=À o)->Q none { s with heap:=h' }):Ú (à prog w) A (fy (.ref f)) Q E s:=by
  obtain⟨t,g,j,u,os⟩:=s;obtain⟨v,x,y,z⟩:=od;simp only at hd;subst hd;have h:kC ⟨t,g,j,u,os⟩ (.ref f) "dict_keyiterator":=⟨_,c,rfl⟩
  have k:(if (i:Int) < 0 then none else a[(i:Int).toNat]?)=none:=by rw[Ô (by lia),bJ,fG q]
  unfold fy;refine Â (b_ (ĵ (name:=Ü "__next__") h Ţ
    (ħ Ţ h oT ?_ (nS _))))
  unfold bT.«dict_keyiterator.__next__»;wp_walk
  rw[k];wp_walk
  have l:A.in1.handled=none:=p;simp only[Yh];refine Â (E6 ?_);rw[l];refine Â (Ë (MV ?_));refine Â (y6 (T:="StopIteration") (b:=true) ⟨_,Ö _ rfl,rfl⟩ Dk (Ë (m _ λ b o n e=>?_)));exact Ã _ (Ã _ ((ç _ _ (Ŋ n)).trans e))
def DP {od:Obj}{Q:Value->Ò->Prop}(lo:(d == bC)=false) (b:s.heap.get? d=À od)(j:od.ExactDict)(hd:od.data=.dict f ep)
   (h:Q (.ref s.heap.objs.size) { s with heap:=s.heap.push (Gg d 0 f.size ep) }):Ú (à prog w) A (Ju (.ref d)) Q E s:=by
  obtain⟨i,g,e,k,os⟩:=s;have a:od.cls=.type "dict":=j.1;have c:kC ⟨i,g,e,k,os⟩ (.ref d) "dict":=⟨_,b,a⟩
  obtain⟨l,m,n,o⟩:=od;simp only at hd a;subst hd a;refine TX c yQ (ħ yQ c PySem.F.entry_dict_iter ?_ (PySem.F.args_dict_iter_1 _));unfold bT.«dict.__iter__»;wp_walk
  exact⟨_,rfl,"dict_keyiterator",_,⟨_,Ö _ rfl,rfl⟩,Ţ.lookup,h⟩
end
end Dx
namespace L2
open PySem PySem.Spec PyProof.Rows
def oI:KeyOrd where
 α:=Int
 blt a b:=decide (a < b)
 irrefl a:=by simp
 trans a b c h k:=by simp at *;lia
 negTrans a b c h:=by simp at *;lia
 total a b h k:=by simp at *;lia
theorem mZ:∀ {as:Á Addr}{us:Á Value},Vals (as.map V.ref) us->us=as.map Ñ
 | [],_,h=>by cases h;rfl
 | a :: r,_,h=>by
  cases h with
  | cons h t=>rw[Õ,<-mZ t];exact Ķ (· :: _) h
end L2
namespace Mm
open PySem PySem.W PyProof.Rows
def HP {O:KeyOrd}{key:Nat->O.α}(h:y_ key p p.toList.length):p.toList.Pairwise (Ah key):=by
 rw[yO];intro i j c b a;have:=h i j a b;unfold dc at this;have g:∀ i (h:i < p.toList.length),p.getD i 0=p.toList[i]:=λ i h=>by rw[Ū,<-aa,Å h];rfl
 rw[g i c,g j b]at this;exact this
theorem qV {as:Á Addr}:∀ {l:Á Nat},(∀ i∈l,i < as.length)->L2.Vals (l.map λ i=>L2.V.ref (as.getD i 0)) (l.map λ i=>(as.map Ñ).getD i ì)
 | [],_=>.nil
 | i :: r,a=>.cons (by
   have b:i < as.length:=a i Ļ;show(as.map Ñ).getD i ì=Ñ (as.getD i 0);simp[b]) (qV λ x c=>a x (þ _ c))
section
variable {prog:Ĉ}{w:Ĩ}{A:į}{E:Value->Ò->Prop}{s:Ò}{a:Addr}{vs:Á Value}
def BC {ns:Á Int}{f:Value}{P:Jm->Ò->Prop}(N:s.heap.get? a=À (č "list" vs.toArray n)) (hl:ns.length=vs.length)(RA:vs.length < 64)
  (X:∀ (i:Nat) (v:Value) (k:Int),vs[i]? = À v->ns[i]? = À k->∀ (h:Heap) (m:Nat),(∀ b o,b≠a->s.heap.get? b=À o->h.get? b=À o)->
   Ú (à prog w) A (call f [v]) (λ u s'=>∃ h' Wn t,s'={ s with heap:=h',toks:=Wn }/\u=.int k t/\∀ b o,h.get? b=À o->h'.get? b=À o) (λ _ _=>False) { s with heap:=h,toks:=m })
  (h:∀ (p:Ă Nat) (h':Heap) (m c:Nat),y_ (O:=L2.oI) (λ i=>ns.getD i 0) p vs.length->p.size=vs.length->p.Perm (ğ (Ą vs.length))->(∀ b o,b≠a->s.heap.get? b=À o->h'.get? b=À o)->
   h'.get? a=À (č "list" (ğ (p.toList.map λ i=>vs.getD i ì)) c)->P (.done (.ret .none)) { s with heap:=h',toks:=m }) :
  Ú (à prog w) A (ksk_tree a f false) P E s:=by
 have hla:a < s.heap.objs.size:=Ó N;obtain⟨y,T⟩:∃ y,(s.heap.update a (ð λ _=>(#[]:Ă Value))).get? a=À (č "list" #[] y):=⟨_,kb N λ _=>#[]⟩
 unfold ksk_tree;refine Â (wZ N rfl ?_);refine Â (dI N rfl ?_ (by rw[Ù,ą];lia) (ï _));refine Â (mK T rfl ?_);refine Â (rT ?_ (by show vs.length<=_;rw[ą];lia));refine Â (fK ?_ (ï _));refine Ň ?_;have k0:∀ b o,b≠a->s.heap.get? b=À o->(((s.heap.update a (ð λ _=>(#[]:Ă Value))).push (č "tuple" vs.toArray 0)).push (č "list" #[] 0)).get? b=À o:=λ b o r e=>
  Ã _ (Ã _ ((ç _ _ (Ŋ r)).trans e))
 have a0:(((s.heap.update a (ð λ _=>(#[]:Ă Value))).push (č "tuple" vs.toArray 0)).push (č "list" #[] 0)).get? a=À (č "list" #[] y):=Ã _ (Ã _ T);have s0:(((s.heap.update a (ð λ _=>(#[]:Ă Value))).push (č "tuple" vs.toArray 0)).push (č "list" #[] 0)).get? ((s.heap.update a (ð λ _=>(#[]:Ă Value))).push (č "tuple" vs.toArray 0)).objs.size=À (č "list" #[] 0):=Ö _ rfl;have hS:s.heap.objs.size < ((s.heap.update a (ð λ _=>(#[]:Ă Value))).push (č "tuple" vs.toArray 0)).objs.size:=by rw[ĸ,vc];exact dZ _
 generalize ((s.heap.update a (ð λ _=>(#[]:Ă Value))).push (č "tuple" vs.toArray 0)).objs.size=S at *
 show Ú (à prog w) A (ksk_rest a f false vs.toArray y (.ref S)) P E { s with heap:=((s.heap.update a (ð λ _=>(#[]:Ă Value))).push (č "tuple" vs.toArray 0)).push (č "list" #[] 0),toks:=s.toks };generalize ((s.heap.update a (ð λ _=>(#[]:Ă Value))).push (č "tuple" vs.toArray 0)).push (č "list" #[] 0)=h0 at *
 have D:∀ b o,s.heap.get? b=À o->b≠S:=λ b o e=>ê (ni (Ó e) hS);have I:S≠a:=(D a _ N).symm;have up:∀ (g:Heap) (F:Ă Value->Ă Value) b o,b≠S->g.get? b=À o->(g.update S (ð F)).get? b=À o:=λ g F b o r e=>(ç _ _ (Ŋ r)).trans e;unfold ksk_rest;refine Â (bD ?_);rw[List.forIn_toArray];refine Â (ksk_fold (λ i s'=>∃ h' m d e,s'={ s with heap:=h',toks:=m }/\(∀ b o,b≠a->s.heap.get? b=À o->h'.get? b=À o)/\h'.get? S=À (č "list" d e)/\h'.get? a=À (č "list" #[] y)/\sD d.toList (ns.take i)) vs 0 _
  ⟨h0,s.toks,#[],0,rfl,k0,s0,a0,by simpa using IntsAre.nil⟩ ?step ?done)
 case step=>
  rintro j x s' hx ⟨h',m,d,e,rfl,Z,Y,ha,l⟩;simp only[C8]at l ⊢;have hj:j < vs.length:=(Ç.mp hx).1;have L:ns[j]? = À ns[j]:=Å (by lia);have hz:d.size<=vs.length:=by
   have h1:=l.length;rw[Į,ū]at h1;lia
  refine Â (b_ (ae (X j x ns[j] hx L h' m Z) (λ v U he=>?_) λ _ _ hF=>hF.elim));obtain⟨g,tk2,t2,rfl,rfl,k2⟩:=he;try dsimp only
  have nk:=k2 _ _ Y;obtain⟨c2,YK⟩:∃ c2,(g.update S (ð (·.push (.int ns[j] t2)))).get? S=À (č "list" (d.push (.int ns[j] t2)) c2):=⟨_,kb nk (·.push (.int ns[j] t2))⟩
  have ek:ns.take (j+1)=ns.take j++[ns[j]]:=by rw[List.take_add_one,L];simp
  have ea:(d.push (lM ns[j] t2)).toList=d.toList++[lM ns[j] t2]:=by simp
  refine Â (dI nk rfl ?_ (by rw[ą];lia) (Đ (jD (LX ..)) (by rw[ą];lia)));exact Ë ⟨rfl,_,_,d.push (.int ns[j] t2),c2,rfl,λ b o r z=>up _ _ b o (D b o z) (k2 b o (Z b o r z)),YK,up _ _ _ _ I.symm (k2 _ _ ha),by rw[ea,ek];exact ksk_snoc l⟩
 case done=>
  rintro s' ⟨h',m,d,e,rfl,Z,Y,ha,l⟩;have l:sD d.toList ns:=by rw[List.take_of_length_le (by lia)]at l;exact l
  have B:d.toList.length=vs.length:=by rw[l.length,hl]
  have M:d.size=vs.length:=by rw[<-Į,B]
  try dsimp only
  refine Â (wZ Y rfl ?_);have H:∀ (p:Ă Nat) (st:SortSt),y_ (O:=L2.oI) (λ i=>ns.getD i 0) p vs.length->p.size=vs.length->p.Perm (ğ (Ą vs.length))->(arrOf st).map (·.2)=ğ (p.toList.map λ i=>vs.getD i ì)->Yb st=none->
    Ú (à prog w) A (ksk_tail a false y (.ref S) st) P E { s with heap:=h',toks:=m }:=λ p st q1 q2 q3 q4 q5=>by
   have na:(h'.update S (ð λ _=>(#[]:Ă Value))).get? a=À (č "list" #[] y):=up _ _ _ _ I.symm ha;unfold ksk_tail;try dsimp only
   refine Â (dI Y rfl ?_ (by rw[M,ą];lia) (ï _));refine Â (Az ?_);refine Â (mK na rfl ?_);rw[q4,q5];refine Â (dI na rfl ?_ (ï _) (by show(ğ (p.toList.map _)).size<=_;rw[Ù,Î,Į,q2,ą];lia));simp only[wU,Ŧ,eG];obtain⟨c3,YL⟩:∃ c3,((h'.update S (ð λ _=>(#[]:Ă Value))).update a (ð λ _=>ğ (p.toList.map λ i=>vs.getD i ì))).get? a=À (č "list" (ğ (p.toList.map λ i=>vs.getD i ì)) c3):=⟨_,kb na _⟩
   exact Ë (h p _ _ c3 q1 q2 q3 (λ b o r z=>(ç _ _ (Ŋ r)).trans (up _ _ b o (D b o z) (Z b o r z))) YL)
  unfold ksk_end;try dsimp only
  rw[Ô â];by_cases G:vs.toArray.size < 2
  ·rw[Ï G,Ï G];refine Â (Ë ?_);rw[Jp];refine Â (Ë ?_);rw[Ù]at G;refine H (ğ (Ą vs.length)) _ (λ i j h3 h4=>by lia) (by simp) (aZ _) ?_ rfl;show((if false=true then (d.zip vs.toArray).reverse else d.zip vs.toArray).map (·.2))=_;rw[Ô â];apply sU.mp;apply lT
   ·simp[M]
   ·intro i h5 h6;have l:i < vs.length:=by simpa using h6
    simp[l]
  ·rw[Ô G,Ô G];rw[Ù]at G;rw[ksk_kind l (by lia)];refine Â (Ë ?_);have g:∀ i,i < vs.length->∃ t,d.toList.getD i ì=.int (ns.getD i 0) t:=λ i J=>by
    obtain⟨t,e⟩:=l.get i ns[i] (Å (by lia));exact⟨t,by rw[Ā,e,Ā,Å (by lia)];rfl⟩
   have ask:=Iq (cmp:=kas_ask prog w A oneType' d.toList) (lt:=kG L2.oI λ i=>ns.getD i 0) (s:={ s with heap:=h',toks:=m })
    (Q:=λ p U=>p=cK (kG L2.oI λ i=>ns.getD i 0) (nZ vs.length)/\U={ s with heap:=h',toks:=m }) (λ i j C J YV hC=>by
     obtain⟨t,ei⟩:=g i J;obtain⟨u,ej⟩:=g j YV;unfold kas_ask;rw[ei,ej];exact kat_lt_int hC) (CT (by lia)) ⟨rfl,rfl⟩
   have ez:d.zip vs.toArray=d.toList.toArray.zip vs.toArray:=by simp
   rw[Ô â,ez];refine Â (ae (kat_run (Q:=λ q s'=>∃ p:Ă Nat,p.size=vs.length/\arrOf q=p.map (kas_item (d.toList.toArray.zip vs.toArray))/\Yb q=none/\p=cK (kG L2.oI λ i=>ns.getD i 0) (nZ vs.length)/\s'={ s with heap:=h',toks:=m })
    B (by lia) RA (λ p' q s' a1 a2 a3 a4=>⟨p',a1,a2,a3,a4.1,a4.2⟩) ask) ?_ λ _ _ e=>e)
   rintro⟨⟨⟩,q⟩ s' ⟨p,hp,YH,hf,rfl,rfl⟩;obtain⟨q1,q2,q3⟩:=CU (O:=L2.oI) (key:=λ i=>ns.getD i 0) (n:=vs.length) (by lia);exact H _ q q1 q2 q3 (kat_snds B YH) hf
end
end Mm
namespace L2
open PySem PySem.Spec PyProof.Rows
def Vv (O P:KeyOrd):KeyOrd where
 α:=O.α × P.α
 blt a b:=O.blt a.1 b.1 || (!O.blt b.1 a.1 && P.blt a.2 b.2)
 irrefl a:=by simp[O.irrefl,P.irrefl]
 trans a b c h k:=by
  simp only[jd,ĝ,kH]at h k ⊢;rcases h with h|⟨h,h'⟩<;>rcases k with k|⟨k,k'⟩
  ·exact .inl (O.trans _ _ _ h k)
  ·exact .inl (eo h k)
  ·exact .inl (KeyOrd.klt_of_kle_of_klt h k)
  ·exact .inr ⟨gy h k,P.trans _ _ _ h' k'⟩
 negTrans a b c h:=by
  simp only[jd,ĝ,kH]at h ⊢;rcases h with h|⟨h,h'⟩
  ·exact(O.negTrans _ b.1 _ h).imp .inl .inl
  ·cases e1:O.blt a.1 b.1 with
   | true=>exact .inl (.inl rfl)
   | false=>
    cases e2:O.blt b.1 c.1 with
    | true=>exact .inr (.inl rfl)
    | false=>exact(P.negTrans _ b.2 _ h').imp (λ z=>.inr ⟨gy h e2,z⟩) λ z=>.inr ⟨gy e1 h,z⟩
 total a b h k:=by
  simp only[EH,nF,Bool.not_eq_false']at h k;have e:=O.total _ _ h.1 k.1;refine oQ e (P.total _ _ ?_ ?_)
  ·rcases h.2 with z|z
   ·rw[k.1]at z;cases z
   ·exact z
  ·rcases k.2 with z|z
   ·rw[h.1]at z;cases z
   ·exact z
def wD {X:Cx}{A:į}{O:KeyOrd}{κ:wQ}{key:Nat->O.α}{as:Á Addr}{K:Value->Ò->Prop}{E:Value->Ò->Prop}(I:Inv X k P H s)(n:as.length < 64)
  (J:∀ (A:į) (h':Heap),2<=as.length->(∀ b o,s.heap.get? b=À o->h'.get? b=À o)->∀ Q:wQ->Ò->Prop,Q κ { s with heap:=h' }->Ú (à X.prog X.w) A (Yd (as.map Ñ).toArray) Q (λ _ _=>False) { s with heap:=h' })
  (G:∀ (h':Heap),(∀ b o,s.heap.get? b=À o->h'.get? b=À o)->∀ (i j:Nat) (a b:Addr) C,as[i]? = À a->as[j]? = À b->C (O.blt (key i) (key j)) { s with heap:=h' }->Ú (à X.prog X.w) A.in1 (keyLt' κ (.ref a) (.ref b)) C (λ _ _=>False) { s with heap:=h' })
  (q:∀ (p:Á Nat) (l:Addr) (s':Ò),p.Perm (Ą as.length)->p.Pairwise (Mm.Ah key)->H l=none->Inv X k P (upd H l (.lst (p.map λ i=>V.ref (as.getD i 0)))) s'->K (.ref l) s') :
  Ú (à X.prog X.w) A (TH (as.map Ñ) >>= λ l=>cu [l] (call (.builtin "list.sort") [l]) >>= λ _=>Yi l) (λ m s'=>∃ v,m=.done (.ret v)/\K v s') E s:=by
 have hl:(as.map Ñ).length=as.length:=Î _;refine Â (fK ?_ (by rw[hl];exact ė (ŝ (by lia))));have c:(s.heap.push (č "list" (as.map Ñ).toArray 0)).get? s.heap.objs.size=À (č "list" (as.map Ñ).toArray 0):=Ö _ rfl;have B:∀ h':Heap,(∀ b o,b≠s.heap.objs.size->(s.heap.push (č "list" (as.map Ñ).toArray 0)).get? b=À o->h'.get? b=À o)->∀ b o,s.heap.get? b=À o->h'.get? b=À o:=λ h' f b o e=>f b o (ê (Ó e)) (Ã _ e);refine Â (Ň (ħ Dm ⟨_,c,rfl⟩ AK (Mm.HM (O:=O) (key:=key) (κ:=κ) c (by rw[hl];exact n) ?_ ?_ λ p M T N=>⟨_,rfl,?_⟩) (Ya _)))
 ·intro h' y f D L;exact J _ h' (by rw[hl]at y;exact y) (B h' f) D L
 ·intro h' f i j C d t hC;rw[hl]at d t;have g:∀ i (h:i < as.length),(as.map Ñ).getD i ì=.ref as[i]:=λ i h=>by rw[Ā,è,Å h];rfl
  rw[g i d,g j t];exact G h' (B h' f) i j _ _ C (Å d) (Å t) hC
 ·have pr:p.toList.Perm (Ą as.length):=by
   have:=dy.mp N;rw[hl]at this;simpa using this
  have z:p.toList.length=as.length:=by rw[pr.length_eq,f6]
  have x:∀ i∈p.toList,i < as.length:=λ i d=>by simpa using pr.mem_iff.mp d
  refine Ë ⟨_,rfl,q p.toList s.heap.objs.size _ pr ?_ (I.ś.fresh (Ì _)) ?_⟩
  ·exact Mm.HP (by rw[z,<-hl];exact M)
  ·obtain⟨F,r⟩:=sortedHeap_at c (out:=ğ (p.toList.map λ i=>(as.map Ñ).getD i ì));refine I.laid (a:=s.heap.objs.size) (t':=s.toks) (λ b u e=>?_) (Ì _) ⟨by rw[Î,z];exact ė (ŝ (by lia)),p.toList.map λ i=>(as.map Ñ).getD i ì,F,?_,r⟩
   ·rw[Yk (ê (Ó e)) (by rw[ĸ];exact dn (Ó e))];exact Ã _ e
   ·exact Mm.qV x
end L2
namespace Dx
open PySem PySem.W PyProof.Rows
structure Got (es:Ă sC)(bot:Addr)(h:Heap)(as:Á Addr):Prop where
 rise:as.Pairwise (· < ·)
 above:∀ a∈as,bot < a
 pairs:∀ (j:Nat) (a:Addr),as[j]? = À a->∃ e,es[j]? = À e/\h.get? a=À (pr e)
def Got.lt (g:Got f b h as)(c:a∈as):a < h.objs.size:=by
 obtain⟨j,d⟩:=List.mem_iff_getElem?.mp c;obtain⟨_,_,e⟩:=g.pairs j a d;exact Ó e
def Got.keep (g:Got f c h as)(k:∀ b o,c < b->h.get? b=À o->h'.get? b=À o):Got f c h' as:=⟨g.rise,g.above,λ j a d=>by
 obtain⟨e,i,l⟩:=g.pairs j a d;exact⟨e,i,k _ _ (g.above a (ò d)) l⟩⟩
def Got.snoc (g:Got f d h as)(t:h.objs.size=n)(hl:d < n)(r:f[as.length]? = À e)(k:∀ b o,d < b->h.get? b=À o->h'.get? b=À o)(q:h'.get? n=À (pr e)):Got f d h' (as++[n]):=by
 subst t;have l:=g.keep k;refine⟨List.pairwise_append.mpr ⟨g.rise,lW _ _,λ a ha b p=>by rw[ý.mp p];exact g.lt ha⟩,λ a ha=>?_,λ j a c=>?_⟩
 ·rcases cG.mp ha with ha|ha
  ·exact g.above a ha
  ·rw[ý.mp ha];exact hl
 ·rw[List.getElem?_append]at c;split at c
  ·exact l.pairs j a c
  ·rename_i s;cases i:j - as.length with
   | zero=>
    rw[i]at c;cases c;have:j=as.length:=by lia
    subst this;exact⟨e,r,q⟩
   | succ m=>rw[i]at c;cases c
structure Fl (h0 h:Heap)(S I d:Addr)(od:Obj)(es:Ă sC)(ep:Nat)(Xk:Ă Value)(c:Nat)(as:Á Addr):Prop where
 wk:Wk h I d S as.length es.size ep
 dd:h.get? d=À od
 ls:h.get? S=À { cls:=.type "list",data:=.seq Xk c }
 ac:Xk.toList=as.map Ñ
 got:Got es I h as
 lt:I < h.objs.size
 old:∀ b o,b≠S->b≠I->h0.get? b=À o->h.get? b=À o
section
variable {prog:Ĉ}{w:Ĩ}{A:į}{E:Value->Ò->Prop}{s:Ò}{R:Qi->Ò->Prop}
def fill {od:Obj}{h0:Heap}(P:A.handled=none)(i:S < I)(G:d≠S)(D:d≠I)(hd:od.data=.dict n ep)(hz:n.size<=sizeLine)(res:Value)
  (N:∀ h' l g c as,as.length=n.size->g.toList=as.map Ñ->h'.get? S=À { cls:=.type "list",data:=.seq g c }->Got n I h' as->(∀ b o,b≠S->b≠I->h0.get? b=À o->h'.get? b=À o)->R (.ok (.ret res)) { s with heap:=h',toks:=l }) :
  ∀ (m:Nat) (h:Heap) (l c:Nat) (g:Ă Value) (as:Á Addr),n.size - as.length=m->as.length<=n.size->Fl h0 h S I d od n ep g c as->
   dW (à prog w) A (.builtin "list.extend.loop" ⟨[.ref S,.ref I,res],[]⟩) R { s with heap:=h,toks:=l }:=by
 intro m;induction m with
 | zero=>
  intro h l c g as T Q F;have e:as.length=n.size:=by lia
  obtain⟨C,f,x,y,j,_⟩:=F.wk;rw[e]at j;refine pR vP ?_;rw[hU dH _];refine Â (m:=fy (.ref I)) (D_ (s:={ s with heap:=h,toks:=l }) (A:=A.in1) P j F.dd hd λ h' k=>?_);exact Ë (N h' l g c as e F.ac (k _ _ (ê i) F.ls) (F.got.keep λ b o r z=>k b o (ġ r) z) λ b o q p z=>k b o p (F.old b o q p z))
 | succ m U=>
  intro h l c g as T Q F;have u:as.length < n.size:=by lia
  have v:g.size=as.length:=by rw[<-Į,F.ac,Î]
  refine pR vP ?_;rw[hU dH _];refine Â (m:=fy (.ref I)) (D' (s:={ s with heap:=h,toks:=l }) F.wk (Ó F.ls) F.dd hd u λ h' Y L M k=>?_);dsimp only at L M k ⊢;have B:=k S _ (ê i) F.ls;have t:∀ b o,b≠S->h'.get? b=À o->(h'.update S (ð (·.push (Ñ h.objs.size)))).get? b=À o:=λ b o r e=>(ç _ _ (Ŋ r)).trans e;have H:h.objs.size≠S:=ġ (Ó F.ls);show Ú _ A.in1 (UW S (·.push (Ñ h.objs.size)) >>= _) _ _ _;refine Â (AL B rfl (Ë ⟨E2 dH _,U _ l _ (g.push (.ref h.objs.size)) (as++[h.objs.size]) (by rw[ă];simp;lia) (by rw[ă];simp;lia) ⟨?_,t d _ G (k d _ D F.dd),ø _ B rfl,?_,?_,?_,λ b o q p e=>t b o q (k b o p (F.old b o q p e))⟩⟩) (by rw[v];lia) (by show(g.push _).size<=sizeLine+1;rw[LX,v];lia))
  ·obtain⟨C,f,x,y,j,J⟩:=Y;rw[ă,C5];refine⟨C,f,x,y,t _ _ (ġ i) j,?_⟩;rcases J with J|⟨a,X,e,O,q,p⟩
   ·exact .inl J
   ·exact .inr ⟨a,X,e,t _ _ p O,q,p⟩
  ·rw[Array.toList_push,F.ac,Ł];rfl
  ·exact F.got.snoc rfl F.lt (Ž u) (λ b o r e=>t b o (ġ (ni i r)) (k b o (ġ r) e)) (t _ _ H L)
  ·rw[vc];rw[M];exact dn F.lt
def xy {od:Obj}(U:A.handled=none)(C:s.heap.IsItemsView r d)(i:s.heap.get? d=À od)(hd:od.data=.dict l ep)(hz:l.size<=sizeLine)(y:S≠r)(p:d≠S)(H:s.heap.get? S=À { cls:=.type "list",data:=.seq #[] c })(res:Value)
  (Q:∀ h' q g c as,as.length=l.size->g.toList=as.map Ñ->h'.get? S=À { cls:=.type "list",data:=.seq g c }->Got l s.heap.objs.size h' as->(∀ b o,b≠S->s.heap.get? b=À o->h'.get? b=À o)->R (.ok (.ret res)) { s with heap:=h',toks:=q }) :
  Ú (à prog w) A.in1 (pW (.ref S) (.ref r) res)
   (λ v s'=>match v with|.done f=>R (.ok f) s'|.again t=>t.quiet=true/\dW (à prog w) A t R s') (λ e s'=>R (.error e) s') s:=by
 have n:S < s.heap.objs.size:=Ó H;have B:d < s.heap.objs.size:=Ó i;have P:∀ (h:Heap) (c q:Nat),(∀ b o,b≠S->(s.heap.push (Nx .none false d 0 l.size ep .none .none)).get? b=À o->h.get? b=À o)->h.get? S=À { cls:=.type "list",data:=.seq #[] c }->
   dW (à prog w) A (.builtin "list.extend.loop" ⟨[.ref S,.ref s.heap.objs.size,res],[]⟩) R { s with heap:=h,toks:=q }:=λ h c q k e=>by
  have G:=k s.heap.objs.size _ (ġ n) (Ö _ rfl);refine fill (h0:=s.heap) U n p (ê B) hd hz res (λ h' D g t as J L M N O=>Q h' D g t as J L M N λ b o u z=>O b o u (ê (Ó z)) z) l.size h q c #[] [] rfl (ï _)
   ⟨⟨_,_,_,_,G,.inl rfl⟩,k d _ p (Ã _ i),e,rfl,⟨.nil,(λ _ z=>nomatch z),λ j a z=>by simp at z⟩,Ó G,λ b o x _ z=>k b o x (Ã _ z)⟩
 have T:=C.typeIs;unfold pW;have x:sA (.ref S) (.ref r)=false:=by simp[sA,y]
 refine Â (xa T ?_);rw[x];refine Â (A_ C i hd ?_);refine Â (Ň (PySem.W.kdx_hint (let ⟨o,X,z,_⟩:=C;⟨o,Ã _ X,z⟩) ?_));have m:=Ã (Nx .none false d 0 l.size ep .none .none) H;dsimp only;rw[Ï (by decide +kernel)];refine Â (bD (Â ?_));have I:=ø (ð (·.push ì)) m rfl;show Ú _ _ (UW S (·.push .none) >>= λ _=>UW S (·.pop)) _ _ _;refine Â (AL m rfl (AL (hz:=by seq_fits) I rfl (Ë ⟨E2 dH _,P _ _ _ (λ b o u e=>?_) (ø (ð (·.pop)) I rfl)⟩)));rw[ç _ _ (Ŋ u),ç _ _ (Ŋ u)];exact e
def vy {R:Á Value->Ò->Prop}{od:Obj}(C:A.handled=none)(D:s.heap.IsItemsView r d)(k:s.heap.get? d=À od)(hd:od.data=.dict i ep)(hz:i.size<=sizeLine)
  (h:∀ h' f as,(∀ b o,s.heap.get? b=À o->h'.get? b=À o)->as.length=i.size->Got i s.heap.objs.size h' as->R (as.map Ñ) { s with heap:=h',toks:=f }):Ú (à prog w) A (collect (.ref r)) R E s:=by
 have v:=D;obtain⟨H,l,x⟩:=v;have I:=Ó l;have do_:=Ó k;have G:(s.heap.push { cls:=.type "list",data:=.seq ([]:Á Value).toArray }).get? s.heap.objs.size=À { cls:=.type "list",data:=.seq #[] }:=Ö _ rfl;unfold collect;obtain⟨B,j⟩:∃ B:Qi->Ò->Prop,B=λ q s'=>∃ h' f e c as,q=.ok (.ret (.ref s.heap.objs.size))/\s'={ s with heap:=h',toks:=f }/\as.length=i.size/\e.toList=as.map Ñ/\h'.get? s.heap.objs.size=À { cls:=.type "list",data:=.seq e c }/\Got i s.heap.objs.size h' as/\∀ b o,s.heap.get? b=À o->h'.get? b=À o:=⟨_,rfl⟩
 refine Â (wpAny_runValue (oZ (R:=B) (pR entry_proto_collect' ?_) ?_))
 ·rw[hU PySem.F.plain_proto_collect _];refine Â (m:=TH []) (ŗ (Ë ⟨E2 yA _,pR entry_list_iadd' ?_⟩));rw[hU yA _];refine xy (s:={ s with heap:=s.heap.push { cls:=.type "list",data:=.seq ([]:Á Value).toArray } }) C ⟨H,Ã _ l,x⟩ (Ã _ k) hd hz (ġ I) (ê do_) G _ λ h' f e c as n p t g u=>?_;rw[j];exact⟨h',f,e,c,as,rfl,rfl,n,p,t,⟨g.rise,λ a y=>bb (by show _<=(s.heap.push _).objs.size;rw[ĸ];exact lD _) (g.above a y),g.pairs⟩,λ b o z=>u b o (ê (Ó z)) (Ã _ z)⟩
 ·intro q s' z;rw[j]at z;obtain⟨h',f,e,c,as,rfl,rfl,n,p,t,g,u⟩:=z;show Ú _ A (load s.heap.objs.size >>= _) _ _ _;refine Â (wpAny_load t (Ë ?_));show R e.toList _;rw[p];exact h h' f as u n g
end
section
variable {prog:Ĉ}{w:Ĩ}{A:į}{E:Value->Ò->Prop}{s:Ò}
def Gx {Q:Value->Ò->Prop}(hu:A.units < cLine)(o:s.heap.get? a=À { cls:=.type "tuple",dict:=dd,data:=.seq #[.str x t,.int i u] n,slots:=H })(p:s.heap.get? b=À { cls:=.type "tuple",dict:=l,data:=.seq #[.str y t',.int j r] m,slots:=q })
  (h:Q (.bool (if x == y then decide (i < j) else decide (x.cps.toList < y.cps.toList))) s) (e:(x == y && i == j)=false):Ú (à prog w) A (ĥ .Lt (.ref a) (.ref b)) Q E s:=by
 have B:s.TypeIs (.ref a) "tuple":=⟨_,o,rfl⟩
 have C:s.TypeIs (.ref b) "tuple":=⟨_,p,rfl⟩
 show Ú (à prog w) A (richCompare .Lt (.ref a) (.ref b)) Q E s;refine wpAny_richCompare_same_room B C Ar (ħ Ar B PySem.F.entry_tuple_lt ?_ (PySem.F.args_tuple_lt_2 _ _)) hu;obtain⟨z,g,v,I,os⟩:=s;unfold bT.«tuple.__lt__»;have f:∀ {A:į}{E:Value->Ò->Prop}{s:Ò}{Q:Bool->Ò->Prop},Q (x == y) s->Ú (à prog w) A (eqBool (.str x t) (.str y t')) Q E s:=λ h=>eqBool_str h;have k:∀ {A:į}{E:Value->Ò->Prop}{s:Ò}{Q:Bool->Ò->Prop},Q (decide (i=j)) s->Ú (à prog w) A (eqBool (.int i u) (.int j r)) Q E s:=λ h=>(wY prog w).eqBool (a:=i) (b:=j) (by simp[wY,kF]) (by simp[wY,kF]) h;wp_walk
 refine MU sub_tuple_self ?_;generalize eqBool=D at f k ⊢;generalize d:richCompare=G;wp_walk
 simp only[IJ,List.zip_nil_right,je,yu];refine f ?_;cases c:x == y with
 | false=>
  rw[c,Ô â]at h;subst d;refine Â (bD (Â (PySem.P.lt_str ?_)));exact Ë (Ë (Ë ⟨_,rfl,by simp,h⟩))
 | true=>
  rw[c,Ï rfl]at h;rw[c,P']at e;refine Ë ?_;wp_walk
  refine k ?_;rw[ö (by simpa using e)];subst d;refine Â (bD (Â (Jn ?_)));exact Ë (Ë (Ë ⟨_,rfl,by simp,h⟩))
end
end Dx
namespace L2
open PySem PySem.Spec PyProof.Rows
abbrev oP:KeyOrd:=Vv oS oI
abbrev kP (k:Str × Int):oP.α:=(DB k.1,k.2)
abbrev dD (k:Str × Int):Á Key:=[.inr k.1,.inl k.2]
def mq (z:dD a=dD b):a=b:=by
 have:=IH z;exact oQ (j2 this.1) (PX (IH this.2).1)
def ub (a b:Str × Int):Bool:=!oP.blt (kP b) (kP a)
def uM (l:Á (Str × Int)):Á (Str × Int):=l.mergeSort ub
def jw:ub a b=true ↔ oP.kle (kP a) (kP b):=by unfold ub Tu;simp
def zI (h:ub a b=true)(k:ub b a=true):a=b:=by
 have:=C2 (jw.mp h) (jw.mp k);have c:DB a.1=DB b.1:=Ķ (λ z:oP.α=>z.1) this;refine oQ (uc (jx.mpr ?_) (jx.mpr ?_)) (show a.2=b.2 from Ķ (λ z:oP.α=>z.2) this)
 ·rw[c];exact vd _
 ·rw[c];exact vd _
def uN (l:Á (Str × Int)):(uM l).Perm l:=eA l ub
def qA (h:ub a b=true)(k:ub b c=true):ub a c=true:=jw.mpr (gy (jw.mp h) (jw.mp k))
def qz (a b:Str × Int):(ub a b || ub b a)=true:=by
 cases h:ub a b with
 | true=>rfl
 | false=>rw[pV];exact jw.mpr (qY (by unfold ub at h;simpa[KeyOrd.klt]using h))
def yj (l:Á (Str × Int)):(uM l).Pairwise λ a b=>ub a b=true:=
 fv (le:=ub) (λ _ _ _=>qA) qz l
def uO {l q:Á (Str × Int)}(p:l.Perm q)(h:l.Pairwise λ a b=>ub a b=true):l=uM q:=
 jA (λ _ _=>zI) (p.trans (uN q).symm) h (yj q)
def ze (f:(a.1 == b.1 && a.2 == b.2)=false):oP.blt (kP a) (kP b)=if a.1 == b.1 then decide (a.2 < b.2) else decide (a.1.cps.toList < b.1.cps.toList):=by
 show(oS.blt (DB a.1) (DB b.1) || (!oS.blt (DB b.1) (DB a.1) && decide (a.2 < b.2)))=_;cases e:a.1 == b.1 with
 | true=>
  have e:=eq_of_beq e;rw[e,oS.irrefl];rfl
 | false=>
  rw[Ô â];cases c:oS.blt (DB a.1) (DB b.1) with
  | true=>exact c.symm
  | false=>
   cases d:oS.blt (DB b.1) (DB a.1) with
   | true=>exact c.symm
   | false=>
    have:a.1=b.1:=uc (jx.mpr d) (jx.mpr c);rw[this,yV]at e;cases e
theorem Paired.at {R:α->a->Prop}{l:Á α}{m:Á a}(h:Paired R l m):∀ {j:Nat}{q:a},m[j]? = À q->∃ p,l[j]? = À p/\R p q:=by
 induction h with
 | nil=>intro j q e;simp at e
 | cons h _ b=>
  intro j q e;cases j with
  | zero=>simp at e;subst e;exact⟨_,rfl,h⟩
  | succ j=>exact b (by simpa using e)
theorem CZ {κ:Type} [mI κ] {k:κ}:∀ {kvs:Á (κ × V)}{j:Nat},(kvs.map (·.1)).Nodup->kvs[j]? = À (k,y)->iA kvs k=À y
 | [],_,_,e=>by simp at e
 | p :: r,0,_,e=>by simp at e;subst e;exact mF rfl
 | p :: r,j+1,nd,e=>by
  have e:r[j]? = À (k,y):=by simpa using e
  rw[Õ,bA]at nd;rw[mE λ z=>nd.1 (z ▸ ĕ.mpr ⟨_,ò e,rfl⟩)];exact CZ nd.2 e
theorem xJ {P:Value->Prop}:∀ {as:Á Addr},(∀ (j:Nat) (a:Addr),as[j]? = À a->∃ (f:Value) (o:Obj) (r:Á Value) (n:Nat),h.get? a=À o/\o.cls=.type "tuple"/\o.data=.seq (f :: r).toArray n/\P f)->∃ fs,PySem.W.KatTups h (as.map Ñ) fs/\(∀ v∈fs,P v)/\fs.length=as.length
 | [],_=>⟨[],Qh,(λ v z=>nomatch z),rfl⟩
 | a :: r,g=>by
  obtain⟨f,o,x,n,c,d,e,i⟩:=g 0 a rfl;obtain⟨fs,l,m,p⟩:=xJ (as:=r) λ j b k=>g (j+1) b (by simpa using k);refine⟨f :: fs,Qg c d e (by simp) l,λ v hv=>?_,by simp[p]⟩;rcases Þ.mp hv with rfl|hv
  ·exact i
  ·exact m v hv
def O':Á V->Hp->VK->Prop:=λ xs H Q=>∃ (v d:Addr)(c:Á (Á Key × V)) (e:Á (Str × Int)),xs=[.ref v]/\H v=À (.ext λ h=>h.IsItemsView v d)/\H d=À (.dT c)/\c.map (·.1)=e.map dD/\e.length < 64/\
 ∀ l A f,H l=none->(∀ b o,H b=À o->A b=À o)->(∀ b,A b=none->H b=none)->A l=À (.lst f)->f.length=e.length->
  (∀ (j:Nat) (k:Str × Int),(uM e)[j]? = À k->∃ a b x,f[j]? = À (.ref a)/\iA c (dD k)=À x/\H b=À (.tup [.str k.1,.int k.2])/\A a=À (.tup [.ref b,x]))->Q (.ref l) A
def x_ {X:Cx}(I:Inv X f o H s)(e:H b=À (.tup [.str x,.int i])):∃ t u dd n a,s.heap.get? b=À { cls:=.type "tuple",dict:=dd,data:=.seq #[.str x t,.int i u] n,slots:=a }:=by
 obtain⟨_,h,r,⟨l,dd,m,a⟩,g,c,n,d⟩:=(show Ŕ X.prog X.w H s.heap b (.tup [.str x,.int i]) from I.ś b _ e)
 cases r with
 | cons j r=>
  cases r with
  | cons k r=>
   cases r;obtain⟨t,rfl⟩:=j;obtain⟨u,rfl⟩:=k;dsimp only at c d;subst c d;exact⟨t,u,dd,n,a,g⟩
def A1 {X:Cx}(hc:X.calm=true)(hu:X.A.units+2 < cLine):bx X (.builtin "sorted") O':=by
 rintro õ s σ H xs us Q I rv ⟨v,d,g,c,rfl,hv,hH,hk,RA,q⟩;obtain⟨u,rfl,ru⟩:=rv.one;cases (show u=Ñ v from ru);obtain⟨z,hd,xs,rel,o,es,ep,h1,h2,h3,h4,h5⟩:=(show Ŕ X.prog X.w H s.heap d (.dT g) from I.ś d _ hH)
 have RH:s.heap.IsItemsView v d:=(I.ś v _ hv).1;have XA:g.length=c.length:=by have h1:=Ķ bE hk;simpa using h1
 have XD:g.length=xs.length:=rel.length;have Xy:es.size=c.length:=by rw[<-Į,h4,Î,<-XD,XA]
 have nd:c.Nodup:=by
  have e:xs.map (·.1)=c.map dD:=by
   rw[<-hk];clear h4 h5 hk XA XD z hH q;induction rel with
   | nil=>rfl
   | cons h _ ih=>rw[Õ,Õ,ih,h.1]
  rw[e]at h5;exact(cU.mp h5).imp λ h z=>h (Ķ dD z)
 have hh:=I.ok.hd hc;refine eM Ax w4 wX (Jq _) ?_;unfold bT.«sorted»;refine Â (m:=Di "sorted" 1 1 _) (Ë ?_);refine Â (Dx.vy (A:=X.A.in1) hh RH h1 h3 (by rw[Xy];exact ė (ŝ (by lia))) λ hp tk as YX YG hG=>?_);have hl:as.length=c.length:=by rw[YG,Xy]
 have ndA:as.Nodup:=hG.rise.imp λ h=>ê h;have G:∀ j (a:Addr),as[j]? = À a->∃ (B:j < c.length) (b:Addr) (x:Value) (y:V),g[j]? = À (dD c[j],y)/\(xs[j]?).map (·.2.1)=À b/\RelV y x/\H b=À (.tup [.str c[j].1,.int c[j].2])/\hp.get? a=À { cls:=.type "tuple",data:=.seq #[.ref b,x] }:=λ j a Y=>by
  have B:j < c.length:=by rw[<-hl];exact(Ç.mp Y).1
  obtain⟨e,J,e2⟩:=hG.pairs j a Y;rw[<-aa,h4,è]at J;cases e3:xs[j]? with
  | none=>rw[e3]at J;cases J
  | some y=>
   rw[e3]at J;cases J;obtain⟨p,f1,f2,f3,f4⟩:=Paired.at rel e3;have f5:p.1=dD c[j]:=by
    have:(g.map (·.1))[j]? = À p.1:=by rw[è,f1];rfl
    rw[hk,è,Å B]at this;exact(æ this).symm
   rw[f5]at f3;exact⟨B,y.2.1,y.2.2,p.2,by rw[f1,<-f5],rfl,f4,f3,e2⟩
 let H1:Hp:=λ b=>if b∈as then À (.tup [.ref (((xs[as.idxOf b]?).map (·.2.1)).getD 0),((g[as.idxOf b]?).map (·.2)).getD .Ę]) else H b
 have F:∀ b u,s.heap.get? b=À u->b∉as:=λ b u e L=>absurd (Ó e) (nj.mpr (ė (hG.above b L)));have eas:∀ b∈as,H b=none:=λ b L=>by
  cases q0:H b with
  | none=>rfl
  | some o=>obtain⟨u,hu⟩:=(I.ś _ o q0).oE;exact absurd L (F b u hu)
 have Yn:∀ j (a:Addr),as[j]? = À a->∃ (B:j < c.length) (b:Addr) (y:V),iA g (dD c[j])=À y/\H b=À (.tup [.str c[j].1,.int c[j].2])/\H1 a=À (.tup [.ref b,y]):=λ j a Y=>by
  obtain⟨B,b,x,y,Z,g2,g3,g4,f⟩:=G j a Y;have N:as.idxOf a=j:=by
   obtain⟨YW,ga⟩:=Ç.mp Y;rw[<-ga];exact F9 ndA YW
  refine⟨B,b,y,?_,g4,?_⟩
  ·exact CZ (by rw[hk];exact cU.mpr (nd.imp λ h z=>h (mq z))) Z
  ·show(if a∈as then _ else _)=_;rw[Ï (ò Y),N,g2,Z];rfl
 have I1:Inv X õ σ H1 { s with heap:=hp,toks:=tk }:=by
  refine I.grown YX (λ b u e=>Ô (F b u e)) λ b o e z=>?_;have z:(if b∈as then À (HO.tup [.ref (((xs[as.idxOf b]?).map (·.2.1)).getD 0),((g[as.idxOf b]?).map (·.2)).getD .Ę]) else H b)=À o:=z;by_cases L:b∈as
  ·rw[Ï L]at z;obtain⟨j,B,gj⟩:=İ L;obtain⟨_,k,x,y,Z,g2,g3,g4,f⟩:=G j b (by rw[Å B,gj]);rw[show as.idxOf b=j by rw[<-gj];exact F9 ndA B,g2,Z]at z;cases z;exact⟨by show 2<=sizeLine;decide,[.ref k,x],.cons rfl (.cons g3 .nil),_,f,rfl,0,rfl⟩
  ·rw[Ô L]at z;obtain⟨u,hu⟩:=(I.ś _ o z).oE;rw[e]at hu;cases hu
 have r:∀ b o,H b=À o->H1 b=À o:=λ b o e=>by
  obtain⟨u,hu⟩:=(I.ś _ o e).oE;show(if b∈as then _ else H b)=_;rw[Ô (F b u hu)];exact e
 have kD:∀ i (N:i < c.length),kP (c.getD i (⟨#[]⟩,0))=kP c[i]:=λ i N=>by rw[Ā,Å N];rfl
 refine wD (A:=X.A.in1) (O:=oP) (κ:=tuples' false) (key:=λ i=>kP (c.getD i (⟨#[]⟩,0))) I1 (by rw[hl];exact RA) ?_ ?_ ?_
 ·intro A h' h2 U Q' hq;obtain⟨fs,k1,k2,k3⟩:=xJ (h:=h') (P:=λ v=>∃ (b:Addr) (o:Obj),v=.ref b/\h'.get? b=À o/\o.cls=.type "tuple") (as:=as) λ j a Y=>by
   obtain⟨_,b,x,y,_,_,_,g4,f⟩:=G j a Y;obtain⟨t,u,dd,n,sl,e⟩:=x_ I1 (r _ _ g4);exact⟨.ref b,_,[x],0,U _ _ f,rfl,rfl,b,_,rfl,U _ _ e,rfl⟩
  refine EY (T:=.type "tuple") k1 (by rw[k3];lia) (λ v hv=>?_) (by decide) ?_
  ·obtain⟨b,o,rfl,J,e2⟩:=k2 v hv;rw[<-e2];exact(UP J).andThen .now
  ·have e:(dz "tuple" != dz "tuple")=false:=by decide
   rw[e];exact hq
 ·intro h' U i j a b C ea eb hC;obtain⟨N,k,x,y,_,_,_,f4,f5⟩:=G i a ea;obtain⟨B,k',x',y',_,_,_,g4,f⟩:=G j b eb;obtain⟨t,u,dd,n,sl,J⟩:=x_ I1 (r _ _ f4);obtain⟨t',u',dd',n',ZF,e2⟩:=x_ I1 (r _ _ g4);rw[kD i N,kD j B]at hC;refine Jo (U _ _ f5) rfl (U _ _ f) rfl (gg ?_);by_cases Xz:i=j
  ·subst Xz;rw[ea]at eb;cases eb;rw[f5]at f;injection f with f
   injection f with _ _ f _
   injection f with f _
   have f:=Ķ AE f;simp at f;obtain⟨rfl,rfl⟩:=f;refine md (lY (gg (md (lY (IM ?_)))));rw[oP.irrefl]at hC;exact hC
  ·have Ua:c[i]≠c[j]:=λ z=>Xz ((aX nd).mp z);have key:∀ {x:Str}{i:Int}{b:Addr}{t u:UR}{dd:Ê Addr}{n:Nat}{sl:Ă (Ê Value)},h'.get? b=À { cls:=.type "tuple",dict:=dd,data:=.seq #[.str x t,.int i u] n,slots:=sl }->IsTupleKey (ů X.prog X.w) h' (dD (x,i)) b:=λ {x i b t u dd n sl} e=>⟨_,_,n,e,rfl,rfl,.cons (rF _ _ x t) (.cons (ry _ _ i u) .nil)⟩
   refine wpAny_eqBool_tuple (x:=dD c[i]) (y:=dD c[j]) (by show X.A.units+1+1 < cLine;lia) (key (U _ _ J)) (key (U _ _ e2)) ?_;have L:(c[i].1 == c[j].1 && c[i].2 == c[j].2)=false:=by
    rw[nF];by_cases h1:c[i].1=c[j].1
    ·exact .inr (œ.mpr λ h2=>Ua (oQ h1 h2))
    ·exact .inl (œ.mpr h1)
   rw[show decide (dD c[i]=dD c[j])=false from ö λ z=>Ua (mq z)];refine vn (IP _ _ (Dx.Gx (by show X.A.units+1+1 < cLine;lia) (U _ _ J) (U _ _ e2) ?_ L));rw[<-ze L];exact hC
 ·intro p l s' pr S2 E I2;have e:p.map (λ i=>c.getD i (⟨#[]⟩,0))=uM c:=by
   refine uO ?_ (cU.mpr (S2.imp λ h=>jw.mpr h.kle));have h5:=pr.map (λ i=>c.getD i (⟨#[]⟩,0));rw[hl]at h5;have e5:(Ą c.length).map (λ i=>c.getD i (⟨#[]⟩,0))=c:=by
    apply lT
    ·simp
    ·intro i h6 h7;simp[h7]
   rw[e5]at h5;exact h5
  have YY:H l=none:=by
   cases q0:H l with
   | none=>rfl
   | some o=>rw[r l o q0]at E;cases E
  refine⟨.ref l,_,I2,rfl,q l _ (p.map λ i=>V.ref (as.getD i 0)) YY (λ b o h=>by rw[ä (Ń (r b o h) E)];exact r b o h) (λ b h=>?_) ù (by rw[Î,pr.length_eq,f6,hl]) λ j k D=>?_⟩
  ·cases q0:H b with
   | none=>rfl
   | some o=>rw[ä (Ń (r b o q0) E),r b o q0]at h;cases h
  ·rw[<-e,è]at D;cases M:p[j]? with
   | none=>rw[M]at D;cases D
   | some i=>
    rw[M]at D;have N:i < as.length:=by simpa using pr.mem_iff.mp (ò M)
    obtain⟨YU,b,y,Z,g2,g3⟩:=Yn i as[i] (Å N);have T':c[i]=k:=by
     have:c.getD i (⟨#[]⟩,0)=k:=æ D;rw[<-this];simp[YU]
    rw[T']at Z g2;refine⟨as[i],b,y,?_,Z,g2,?_⟩
    ·rw[è,M];show À (V.ref (as.getD i 0))=_;rw[Ā,Å N];rfl
    ·rw[ä (Ń g3 E)];exact g3
end L2
namespace Mm
open PySem L2
def vi (h:n<=1000):n<=sizeLine:=ė (ŝ h)
def R.wp {α:Type}:R α->(α->S->Prop)->Prop
 | .ok a s,Q=>Q a s
 | _,_=>False
def RS.wp:RS->(En->S->Prop)->(AV->S->Prop)->Prop
 | .nx e s,N,_=>N e s
 | .rt v s,_,T=>T v s
 | _,_,_=>False
def R.wp.mono {m:R α}(h:m.wp Q)(k:∀ a s,Q a s->A a s):m.wp A:=by
 cases m with
 | ok a s=>exact k a s h
 | ex c s=>exact h.elim
 | bad=>exact h.elim
def RS.wp.mono {m:RS}(h:m.wp N T)(k:∀ a s,N a s->A a s)(l:∀ a s,T a s->B a s):m.wp A B:=by
 cases m with
 | nx a s=>exact k a s h
 | rt a s=>exact l a s h
 | _=>exact h.elim
def R.wp.get {m:R α}(h:m.wp Q):∃ a s,m=.ok a s/\Q a s:=by
 cases m with
 | ok a s=>exact⟨a,s,rfl,h⟩
 | ex c s=>exact h.elim
 | bad=>exact h.elim
def R.wp.eq {m:R α}(h:m.wp (λ a s'=>a=v/\s'=s)):m=.ok v s:=by
 obtain⟨a,s',e,rfl,rfl⟩:=h.get;exact e
def pO (a:α)(s:S)(Q:α->S->Prop):(R.ok a s).wp Q=Q a s:=rfl
def wp_bind (m:R α)(f:α->S->R b)(Q:b->S->Prop):(m.bind f).wp Q=m.wp λ a s=>(f a s).wp Q:=by
 cases m<;>rfl
def aW (m:R α)(f:α->S->RS)(N:En->S->Prop)(T:AV->S->Prop):(m.bz f).wp N T=m.wp λ a s=>(f a s).wp N T:=by
 cases m<;>rfl
def C0 (m:R α)(Q:α->S->Prop):m.calm.wp Q=m.wp Q:=by
 cases m<;>rfl
def lI {α:Type}(c:Prop){_:ő c}(m:R α)(Q:α->S->Prop):(if c then m else .bad).wp Q=(c/\m.wp Q):=by
 by_cases h:c
 ·rw[Ï h];exact eQ ⟨λ k=>⟨h,k⟩,λ k=>k.2⟩
 ·rw[Ô h];exact eQ ⟨λ k=>k.elim,λ k=>(h k.1).elim⟩
def Io (c:Prop){_:ő c}(m:RS)(N:En->S->Prop)(T:AV->S->Prop):(if c then m else .bad).wp N T=(c/\m.wp N T):=by
 by_cases h:c
 ·rw[Ï h];exact eQ ⟨λ k=>⟨h,k⟩,λ k=>k.2⟩
 ·rw[Ô h];exact eQ ⟨λ k=>k.elim,λ k=>(h k.1).elim⟩
def sS (c:Prop){_:ő c}{α:Type}(m n:R α)(Q:α->S->Prop):(if c then m else n).wp Q=if c then m.wp Q else n.wp Q:=by
 by_cases h:c
 ·rw[Ï h,Ï h]
 ·rw[Ô h,Ô h]
def Ip (c:Prop){_:ő c}(m n:RS)(N:En->S->Prop)(T:AV->S->Prop):(if c then m else n).wp N T=if c then m.wp N T else n.wp N T:=by
 by_cases h:c
 ·rw[Ï h,Ï h]
 ·rw[Ô h,Ô h]
def pN (x:a)(f:a->R α)(Q:α->S->Prop):(need (À x) f).wp Q=(f x).wp Q:=rfl
def ß:(([]:Á AV).length<=sizeLine)=True/\(∀ a:AV,([a].length<=sizeLine)=True)/\(∀ a b:AV,([a,b].length<=sizeLine)=True)/\(∀ a b c:AV,([a,b,c].length<=sizeLine)=True)/\
  (∀ a b c d e f:AV,([a,b,c,d,e,f].length<=sizeLine)=True)/\
  (([]:Á AV).length=0)=True/\(∀ a:AV,([a].length=1)=True)/\(∀ a b:AV,([a,b].length=2)=True)/\(∀ a b c:AV,([a,b,c].length=3)=True):=by
 refine⟨?_,?_,?_,?_,?_,?_,?_,?_,?_⟩<;>intros<;>first|exact kN rfl|exact kN (vi (by show(_:Nat)<=1000;simp))
def WS :
  (∀ (a b:Ms) (env:En) (s:S) (N:En->S->Prop) (T:AV->S->Prop),(ċ a b env s).wp N T=(a env s).wp (λ e s1=>(b e s1).wp N T) T)/\
  (∀ (i:Nat) (m:Ev) (env:En) (s:S) (N:En->S->Prop) (T:AV->S->Prop),(ŷ i m env s).wp N T=(m env s).wp λ v s1=>N (env.set i (À v)) s1)/\
  (∀ (m:Ev) (env:En) (s:S) (N:En->S->Prop) (T:AV->S->Prop),(ň m env s).wp N T=(m env s).wp T)/\
  (∀ (c:Eb) (a b:Ms) (env:En) (s:S) (N:En->S->Prop) (T:AV->S->Prop),(hE c a b env s).wp N T=(c env s).wp λ k s1=>if k=true then (a env s1).wp N T else (b env s1).wp N T)/\
  (∀ (m:Ev) (env:En) (s:S) (N:En->S->Prop) (T:AV->S->Prop),(aE m env s).wp N T=(m env s).wp λ _ s1=>N env s1)/\
  (∀ (m:Ev) (g:Mt) (env:En) (s:S) (N:En->S->Prop) (T:AV->S->Prop),(BA m g env s).wp N T=(m env s).wp λ v s1=>(g v env s1).wp N T)/\
  (∀ (i j:Nat) (a b:Ev) (env:En) (s:S) (N:En->S->Prop) (T:AV->S->Prop),(lS i j (Æ a (Æ b Ý)) env s).wp N T=(a env s).wp λ v s1=>(b env s1).wp λ w l=>N ((env.set i (À v)).set j (À w)) l)/\
  (∀ (env:En) (s:S) (N:En->S->Prop) (T:AV->S->Prop),(Ĵ env s).wp N T=N env s)/\
  (∀ (f:Src) (h:Mt) (b:Ms) (env:En) (s:S) (N:En->S->Prop) (T:AV->S->Prop),(uH f h b env s).wp N T=(f env s).wp λ p s1=>(forL h b p.2 p.1 env s1).wp N T)/\
  (∀ (d y v:Ev) (env:En) (s:S) (N:En->S->Prop) (T:AV->S->Prop),(i7 d y v env s).wp N T=(v env s).wp λ a s1=>(d env s1).wp λ b l=>(y env l).wp λ c t=>(putD a b c env t).wp N T)/\
  (∀ (i:Nat) (v:AV) (env:En) (s:S) (N:En->S->Prop) (T:AV->S->Prop),(gN i v env s).wp N T=N (env.set i (À v)) s)/\
  (∀ (n:Nat) (r:I0) (vs:Á AV) (env:En) (s:S) (N:En->S->Prop) (T:AV->S->Prop),(gT n r (.tup vs) env s).wp N T=(vs.length=n/\(r vs env s).wp N T))/\
  (∀ (i:Nat) (r:I0) (v:AV) (w:Á AV) (env:En) (s:S) (N:En->S->Prop) (T:AV->S->Prop),(ĉ (gN i) r (v :: w) env s).wp N T=(r w (env.set i (À v)) s).wp N T)/\
  (∀ (env:En) (s:S) (N:En->S->Prop) (T:AV->S->Prop),(bR [] env s).wp N T=N env s)/\
  (∀ (o i:Ev) (r:I0) (v:AV) (w:Á AV) (env:En) (s:S) (N:En->S->Prop),(ĉ (ml o i) r (v :: w) env s).wp N (λ _ _=>False)=(ml o i v env s).wp (λ e s1=>(r w e s1).wp N (λ _ _=>False)) (λ _ _=>False))/\
  (∀ (n:Nat) (b:Ms) (v:AV) (s:S) (Q:AV->S->Prop),(dN n b [v] s).wp Q=(b (À v :: ã (n - 1) none) s).wp (λ _ s1=>Q .Ę s1) Q)/\
  (∀ (n:Nat) (b:Ms) (v w:AV) (s:S) (Q:AV->S->Prop),(dN n b [v,w] s).wp Q=(b (À v :: À w :: ã (n - 2) none) s).wp (λ _ s1=>Q .Ę s1) Q)/\
  (∀ (n:Nat) (b:Ms) (v w x:AV) (s:S) (Q:AV->S->Prop),(dN n b [v,w,x] s).wp Q=(b (À v :: À w :: À x :: ã (n - 3) none) s).wp (λ _ s1=>Q .Ę s1) Q):=by
 refine⟨?_,?_,?_,?_,?_,?_,?_,?_,?_,?_,?_,?_,?_,?_,?_,?_,?_,?_⟩<;>intros
 ·rename_i a b env s N T;show(match a env s with|.nx e s1=>b e s1|r=>r).wp N T=_;cases a env s<;>rfl
 ·unfold ŷ;rw[aW];rfl
 ·unfold ň;rw[aW];rfl
 ·unfold hE;rw[aW];congr 1;funext k s1;exact Ip _ _ _ _ _
 ·unfold aE;rw[aW];rfl
 ·unfold BA;rw[aW]
 ·rename_i i j a b env s N T;unfold lS Æ Ý;cases a env s with
  | ok v s1=>
   simp only[ó,pO];cases b env s1<;>rfl
  | ex c s1=>rfl
  | bad=>rfl
 ·rfl
 ·unfold uH;rw[aW]
 ·unfold i7;rw[aW];congr 1;funext k s1;rw[aW];congr 1;funext k s1;rw[aW]
 ·rfl
 ·exact Io _ _ _ _
 ·rfl
 ·rfl
 ·rename_i o i r v w env s N;show(match ml o i v env s with|.nx e s1=>r w e s1|q=>q).wp N _=_;cases ml o i v env s<;>rfl
 ·rename_i n b v s Q;show(match b (À v :: ã (n - 1) none) s with|.rt v s1=>R.ok v s1|.nx _ s1=>.ok .Ę s1|.ex c s1=>.ex c s1|_=>.bad).wp Q=_;cases b (À v :: ã (n - 1) none) s<;>rfl
 ·rename_i n b v w s Q;show(match b (À v :: À w :: ã (n - 2) none) s with|.rt v s1=>R.ok v s1|.nx _ s1=>.ok .Ę s1|.ex c s1=>.ex c s1|_=>.bad).wp Q=_;cases b (À v :: À w :: ã (n - 2) none) s<;>rfl
 ·rename_i n b v w x s Q;show(match b (À v :: À w :: À x :: ã (n - 3) none) s with|.rt v s1=>R.ok v s1|.nx _ s1=>.ok .Ę s1|.ex c s1=>.ex c s1|_=>.bad).wp Q=_;cases b (À v :: À w :: À x :: ã (n - 3) none) s<;>rfl
def Ic (v:AV)(s:S):R (Á AV × Gd):=match v with
 | .tup xs=>.ok (xs,[]) s
 | .sq xs=>.ok (xs,[]) s
 | .ref i=>need (ô s i) λ xs=>.ok (xs,[(i,xs)]) s
 | _=>.bad
def WE :
  (∀ (v:AV) (env:En) (s:S) (Q:AV->S->Prop),(mc v env s).wp Q=Q v s)/\
  (∀ (e:AV->AV->S->R AV) (a b:Ev) (env:En) (s:S) (Q:AV->S->Prop),(Ø e a b env s).wp Q=(a env s).wp λ v s1=>(b env s1).wp λ w f=>(e v w f).wp Q)/\
  (∀ (e:AV->S->R AV) (a:Ev) (env:En) (s:S) (Q:AV->S->Prop),(aH e a env s).wp Q=(a env s).wp λ v s1=>(e v s1).wp Q)/\
  (∀ (r:fu) (env:En) (s:S) (Q:AV->S->Prop),(cL r env s).wp Q=(r env s).wp λ vs s1=>vs.length<=sizeLine/\Q (.tup vs) s1)/\
  (∀ (r:fu) (env:En) (s:S) (Q:Á AV->S->Prop),(bZ r env s).wp Q=(r env s).wp λ vs s1=>vs.length<=sizeLine/\Q vs s1)/\
  (∀ (r:fu) (env:En) (s:S) (Q:AV->S->Prop),(ŀ r env s).wp Q=(r env s).wp λ vs s1=>Q (.ref s1.length) (s1++[.lst vs]))/\
  (∀ (n:Nat) (F:Á AV->S->R AV) (r:fu) (env:En) (s:S) (Q:AV->S->Prop),(ę n F r env s).wp Q=(r env s).wp λ vs s1=>vs.length=n/\(F vs s1).wp Q)/\
  (∀ (a:Ev) (r:fu) (env:En) (s:S) (Q:Á AV->S->Prop),(Æ a r env s).wp Q=(a env s).wp λ v s1=>(r env s1).wp λ vs f=>Q (v :: vs) f)/\
  (∀ (env:En) (s:S) (Q:Á AV->S->Prop),(Ý env s).wp Q=Q [] s)/\
  (∀ (m:Ev) (env:En) (s:S) (Q:Bool->S->Prop),(cB m env s).wp Q=(m env s).wp λ v s1=>match v with|.bl b=>Q b s1|_=>False)/\
  (∀ (m:Ev) (env:En) (s:S) (Q:Bool->S->Prop),(cT m env s).wp Q=(m env s).wp λ v s1=>match truth v s1 with|some b=>Q b s1|none=>False)/\
  (∀ (a:Eb) (env:En) (s:S) (Q:Bool->S->Prop),(pa a env s).wp Q=(a env s).wp λ c s1=>Q (!c) s1)/\
  (∀ (a b:Eb) (env:En) (s:S) (Q:Bool->S->Prop),(qg a b env s).wp Q=(a env s).wp λ c s1=>if c=true then (b env s1).wp Q else Q false s1)/\
  (∀ (a b:Eb) (env:En) (s:S) (Q:Bool->S->Prop),(Dv a b env s).wp Q=(a env s).wp λ c s1=>if c=true then Q true s1 else (b env s1).wp Q)/\
  (∀ (env:En) (s:S) (Q:Bool->S->Prop),(gm env s).wp Q=Q true s)/\
  (∀ (c:Eb) (a b:Ev) (env:En) (s:S) (Q:AV->S->Prop),(NN c a b env s).wp Q=(c env s).wp λ k s1=>if k=true then (a env s1).wp Q else (b env s1).wp Q)/\
  (∀ (e:Á AV->S->R AV) (r:fu) (env:En) (s:S) (Q:AV->S->Prop),(xR e r env s).wp Q=(r env s).wp λ vs s1=>(e vs s1).wp Q)/\
  (∀ {α:Type}(e:Á AV->S->R α) (r:fu) (env:En) (s:S) (Q:α->S->Prop),(pT e r env s).wp Q=(r env s).wp λ vs s1=>(e vs s1).wp Q)/\
  (∀ (m:Ev) (env:En) (s:S) (Q:Á AV->S->Prop),(xM m env s).wp Q=(m env s).wp λ v s1=>(need (items v s1) λ xs=>.ok xs s1).wp Q)/\
  (∀ (r:fu) (env:En) (s:S) (Q:Á AV × Gd->S->Prop),(yl r env s).wp Q=(r env s).wp λ xs s1=>Q (xs,[]) s1)/\
  (∀ (m:Ev) (env:En) (s:S) (Q:Á AV × Gd->S->Prop),(cN m env s).wp Q=(m env s).wp λ v s1=>(Ic v s1).wp Q)/\
  (∀ (l:Lc) (q:Src) (t:Mt) (g:Eb) (j:Ev) (env:En) (s:S) (Q:Á AV->S->Prop),(Ů l q t g j env s).wp Q=(q env s).wp λ p s1=>p.1.length<=sizeLine/\(ſ t g j p.2 p.1 (BD l env) s1 []).wp Q)/\
  (∀ (n:String) (e:AV->Á AV->S->R AV) (o:Ev) (r:fu) (env:En) (s:S) (Q:AV->S->Prop),(pq n e o r env s).wp Q=(o env s).wp λ v s1=>(km n v s1).isSome=true/\(r env s1).wp λ vs f=>(e v vs f).wp Q)/\
  (∀ {α:Type}(n:String) (e:AV->Á AV->S->R α) (o:Ev) (r:fu) (env:En) (s:S) (Q:α->S->Prop),(F4 n e o r env s).wp Q=(o env s).wp λ v s1=>(km n v s1).isSome=true/\(r env s1).wp λ vs f=>(e v vs f).wp Q)/\
  (∀ (n:String) (e:AV->Á AV->S->R AV) (o:Ev) (env:En) (s:S) (Q:AV->S->Prop),(Mu n e o env s).wp Q=(o env s).wp λ v s1=>(km n v s1).isSome=true/\(e v [] s1).wp Q)/\
  (∀ (d y z:Ev) (env:En) (s:S) (Q:AV->S->Prop),(uf d y z env s).wp Q=(d env s).wp λ a s1=>(km "dict" a s1).isSome=true/\(y env s1).wp λ b f=>(z env f).wp λ c x=>(G8 a b c x).wp Q)/\
  (∀ (env:En) (s:S) (Q:AV->S->Prop),(CA env s).wp Q=Q (.ref s.length) (s++[.dK []]))/\
  (∀ (m:Ev) (lo A:Eo) (env:En) (s:S) (Q:AV->S->Prop),(zM m lo A env s).wp Q=(m env s).wp λ v s1=>(lo env s1).wp λ l f=>(A env f).wp λ h x=>(su v l h x).wp Q)/\
  (∀ (env:En) (s:S) (Q:Ê Int->S->Prop),(oN env s).wp Q=Q none s)/\
  (∀ (m:Ev) (env:En) (s:S) (Q:Ê Int->S->Prop),(oS m env s).wp Q=(m env s).wp λ v s1=>match v with|.int i=>Q (À i) s1|_=>False)/\
  (∀ (a b:Ev) (env:En) (s:S) (Q:AV->S->Prop),(DY a b env s).wp Q=(a env s).wp λ v s1=>match v with|.bl true=>(b env s1).wp Q|.bl false=>Q (.bl false) s1|_=>False)/\
  (∀ (a b:Ev) (env:En) (s:S) (Q:AV->S->Prop),(Uh a b env s).wp Q=(a env s).wp λ v s1=>match v with|.bl true=>Q (.bl true) s1|.bl false=>(b env s1).wp Q|_=>False)/\
  (∀ (m:Ev) (env:En) (s:S) (Q:AV->S->Prop),(Nq m env s).wp Q=(m env s).wp λ v s1=>(s1.take s.length=s/\v.low s.length=true)/\Q v s)/\
  (∀ (m:Eb) (env:En) (s:S) (Q:Bool->S->Prop),(Rz m env s).wp Q=(m env s).wp λ v s1=>(s1.take s.length=s)/\Q v s)/\
  (∀ (m:Ev) (env:En) (s:S) (Q:AV->S->Prop),(Jd m env s).wp Q=(m env s).wp λ v s1=>((s1.take s.length).all (AO.low s.length)=true/\v.low s.length=true)/\Q v (s1.take s.length))/\
  (∀ (m:Ev) (env:En) (s:S) (Q:Á AV->S->Prop),(mr m env s).wp Q=(m env s).wp λ v s1=>match v with|.ref k=>(need (ô s1 k) λ xs=>if s.length<=k/\(s1.take s.length).all (AO.low s.length)=true/\Ĺ s.length xs=true then .ok xs (s1.take s.length) else .bad).wp Q|_=>False):=by
 refine⟨?_,?_,?_,?_,?_,?_,?_,?_,?_,?_,?_,?_,?_,?_,?_,?_,?_,?_,?_,?_,?_,?_,?_,?_,?_,?_,?_,?_,?_,?_,?_,?_,?_,?_,?_,?_⟩<;>intros
 ·rfl
 ·unfold Ø;rw[wp_bind];congr 1;funext v s1;rw[wp_bind]
 ·unfold aH;rw[wp_bind]
 ·unfold cL;rw[wp_bind];congr 1;funext v s1;exact lI _ _ _
 ·unfold bZ;rw[wp_bind];congr 1;funext v s1;exact lI _ _ _
 ·unfold ŀ;rw[wp_bind];rfl
 ·unfold ę;rw[wp_bind];congr 1;funext v s1;exact lI _ _ _
 ·unfold Æ;rw[wp_bind];congr 1;funext v s1;rw[wp_bind];rfl
 ·rfl
 ·unfold cB;rw[wp_bind];congr 1;funext v s1;cases v<;>rfl
 ·unfold cT;rw[wp_bind];congr 1;funext v s1;cases truth v s1<;>rfl
 ·unfold pa;rw[wp_bind];rfl
 ·unfold qg;rw[wp_bind];congr 1;funext v s1;exact sS _ _ _ _
 ·unfold Dv;rw[wp_bind];congr 1;funext v s1;exact sS _ _ _ _
 ·rfl
 ·unfold NN;rw[wp_bind];congr 1;funext v s1;exact sS _ _ _ _
 ·unfold xR;rw[wp_bind]
 ·unfold pT;rw[wp_bind]
 ·unfold xM;rw[wp_bind]
 ·unfold yl;rw[wp_bind];rfl
 ·unfold cN;rw[wp_bind];rfl
 ·unfold Ů;rw[wp_bind];congr 1;funext v s1;exact lI _ _ _
 ·unfold pq;rw[wp_bind];congr 1;funext v s1;cases km _ v s1 with
  | none=>exact eQ ⟨λ k=>k.elim,λ k=>nomatch k.1⟩
  | some u=>rw[pN,wp_bind];exact eQ ⟨λ k=>⟨rfl,k⟩,λ k=>k.2⟩
 ·unfold F4;rw[wp_bind];congr 1;funext v s1;cases km _ v s1 with
  | none=>exact eQ ⟨λ k=>k.elim,λ k=>nomatch k.1⟩
  | some u=>rw[pN,wp_bind];exact eQ ⟨λ k=>⟨rfl,k⟩,λ k=>k.2⟩
 ·unfold Mu;rw[wp_bind];congr 1;funext v s1;cases km _ v s1 with
  | none=>exact eQ ⟨λ k=>k.elim,λ k=>nomatch k.1⟩
  | some u=>rw[pN];exact eQ ⟨λ k=>⟨rfl,k⟩,λ k=>k.2⟩
 ·unfold uf;rw[wp_bind];congr 1;funext v s1;cases km _ v s1 with
  | none=>exact eQ ⟨λ k=>k.elim,λ k=>nomatch k.1⟩
  | some u=>
   rw[pN,wp_bind];simp only[wp_bind];exact eQ ⟨λ k=>⟨rfl,k⟩,λ k=>k.2⟩
 ·rfl
 ·unfold zM;rw[wp_bind];congr 1;funext v s1;rw[wp_bind];congr 1;funext v s1;rw[wp_bind]
 ·rfl
 ·unfold oS;rw[wp_bind];congr 1;funext v s1;cases v<;>rfl
 ·unfold DY;rw[wp_bind];congr 1;funext v s1;cases v with
  | bl b=>cases b<;>rfl
  | _=>rfl
 ·unfold Uh;rw[wp_bind];congr 1;funext v s1;cases v with
  | bl b=>cases b<;>rfl
  | _=>rfl
 ·unfold Nq;rw[wp_bind];congr 1;funext v s1;exact lI _ _ _
 ·unfold Rz;rw[wp_bind];congr 1;funext v s1;exact lI _ _ _
 ·unfold Jd;rw[wp_bind];congr 1;funext v s1;exact lI _ _ _
 ·unfold mr;rw[wp_bind];congr 1;funext v s1;cases v<;>rfl
theorem n7 (I:Á AV->En->S->Prop)(c:∀ l env s,I l env s->vh gs s)(h0:∀ env s,I [] env s->N env s)
  (g:∀ v r env s,I (v :: r) env s->(a v env s).wp (λ e s1=>(b e s1).wp (I r) T) (λ _ _=>False)):∀ l env s,I l env s->(forL a b gs l env s).wp N T
 | [],env,s,h=>by unfold forL;rw[Ï (c _ _ _ h)];exact h0 env s h
 | v :: r,env,s,h=>by
  unfold forL;rw[Ï (c _ _ _ h)];have k:=g v r env s h;revert k;cases a v env s with
  | nx d s1=>
   intro k;have k:(b d s1).wp (I r) T:=k;dsimp only;revert k;cases b d s1 with
   | nx f i=>intro k;exact n7 I c h0 g r f i k
   | rt f i=>intro k;exact k
   | _=>intro k;exact k.elim
  | _=>intro k;exact k.elim
theorem mL {d:Mt}{b:Eb}{f:Ev}{gs:Gd}{Q:Á AV->S->Prop}(I:Á AV->Á AV->En->S->Prop)(g:∀ l a env s,I l a env s->vh gs s)(h0:∀ a env s,I [] a env s->Q a s)
  (j:∀ v r a env s,I (v :: r) a env s->(d v env s).wp (λ e s1=>(b e s1).wp λ c i=>if c=true then (f e i).wp λ x n=>I r (a++[x]) e n else I r a e i) (λ _ _=>False)):∀ l a env s,I l a env s->(ſ d b f gs l env s a).wp Q
 | [],a,env,s,h=>by unfold ſ;rw[Ï (g _ _ _ _ h)];exact h0 a env s h
 | v :: r,a,env,s,h=>by
  unfold ſ;rw[Ï (g _ _ _ _ h)];have k:=j v r a env s h;revert k;cases d v env s with
  | nx o s1=>
   intro k;dsimp only;rw[wp_bind,C0];refine R.wp.mono k λ c i k=>?_;rw[sS,wp_bind,C0];split
   ·rename_i m;rw[Ï m]at k;exact R.wp.mono k λ x n k=>mL I g h0 j r (a++[x]) o n k
   ·rename_i m;rw[Ô m]at k;exact mL I g h0 j r a o i k
  | _=>intro k;exact k.elim
def Ĥ {m:R α}(h:m=.ok v s)(Q:α->S->Prop):m.wp Q=Q v s:=by rw[h];rfl
def vM {m:RS}(h:m=.nx e s)(N:En->S->Prop)(T:AV->S->Prop):m.wp N T=N e s:=by rw[h];rfl
def PM (f:En->S->Nat)(c:Eb)(b:Ms)(env:En)(s:S)(N:En->S->Prop)(T:AV->S->Prop):(Lx f c b env s).wp N T=(Jg c b (f env s) env s).wp N T:=rfl
def WV :
  (∀ (v:AV) (l:En) (s:S) (Q:AV->S->Prop),(mv 0 (À v :: l) s).wp Q=Q v s)/\
  (∀ (n:Nat) (x:Ê AV) (l:En) (s:S) (Q:AV->S->Prop),(mv (n+1) (x :: l) s).wp Q=(mv n l s).wp Q)/\
  (∀ (i j:Int) (s:S) (Q:AV->S->Prop),(bS (.int i) (.int j) s).wp Q=Q (.int (i+j)) s)/\
  (∀ (i j:Int) (s:S) (Q:AV->S->Prop),(Sw (.int i) (.int j) s).wp Q=Q (.int (i - j)) s)/\
  (∀ (i j:Int) (s:S) (Q:AV->S->Prop),(mB (.int i) (.int j) s).wp Q=((IY i/\IY j)/\Q (.int (i * j)) s))/\
  (∀ (i j:Int) (s:S) (Q:AV->S->Prop),(qN (.int i) (.int j) s).wp Q=((j≠0/\MX j)/\Q (.int (i.fdiv j)) s))/\
  (∀ (i j:Int) (s:S) (Q:AV->S->Prop),(jz (.int i) (.int j) s).wp Q=(j≠0/\Q (.int (i.fmod j)) s))/\
  (∀ (i:Int) (s:S) (Q:AV->S->Prop),(CF (.int i) s).wp Q=Q (.int (-i)) s)/\
  (∀ (b:Bool) (s:S) (Q:AV->S->Prop),(G_ (.bl b) s).wp Q=Q (.bl (!b)) s)/\
  (∀ (i j:Int) (s:S) (Q:AV->S->Prop),(G9 (.int i) (.int j) s).wp Q=Q (.bl (decide (i < j))) s)/\
  (∀ (i j:Int) (s:S) (Q:AV->S->Prop),(sm (.int i) (.int j) s).wp Q=Q (.bl (decide (i<=j))) s)/\
  (∀ (i j:Int) (s:S) (Q:AV->S->Prop),(Bo (.int i) (.int j) s).wp Q=Q (.bl (decide (j < i))) s)/\
  (∀ (i j:Int) (s:S) (Q:AV->S->Prop),(Ec (.int i) (.int j) s).wp Q=Q (.bl (decide (j<=i))) s)/\
  (∀ (i j:Int) (s:S) (Q:AV->S->Prop),(aP (.int i) (.int j) s).wp Q=Q (.bl (decide (i=j))) s)/\
  (∀ (i j:Int) (s:S) (Q:AV->S->Prop),(uv (.int i) (.int j) s).wp Q=Q (.bl (!decide (i=j))) s)/\
  (∀ (i j:Str) (s:S) (Q:AV->S->Prop),(aP (.str i) (.str j) s).wp Q=Q (.bl (decide (i=j))) s)/\
  (∀ (i j:Str) (s:S) (Q:AV->S->Prop),(uv (.str i) (.str j) s).wp Q=Q (.bl (!decide (i=j))) s)/\
  (∀ (v:AV) (s:S) (Q:AV->S->Prop),(pF v .Ę s).wp Q=Q (.bl (jv v)) s)/\
  (∀ (v:AV) (s:S) (Q:AV->S->Prop),(KS v .Ę s).wp Q=Q (.bl (!jv v)) s)/\
  (∀ (i:Int) (s:S) (Q:AV->S->Prop),(wy [.int i] s).wp Q=Q (.int (if i < 0 then -i else i)) s)/\
  (∀ (i j:Int) (s:S) (Q:AV->S->Prop),(Sv [.int i,.int j] s).wp Q=Q (.int (if j < i then j else i)) s)/\
  (∀ (i:Int) (s:S) (Q:AV->S->Prop),(MA [.int i] s).wp Q=Q (.int i) s)/\
  (∀ (i:Bool) (s:S) (Q:AV->S->Prop),(MA [.bl i] s).wp Q=Q (.int (if i then 1 else 0)) s)/\
  (∀ (xs:Á AV) (i:Int) (s:S) (Q:AV->S->Prop),(ĺ (.tup xs) (.int i) s).wp Q=(need (kQ xs i) λ v=>.ok v s).wp Q)/\
  (∀ (k:Nat) (i:Int) (s:S) (Q:AV->S->Prop),(ĺ (.ref k) (.int i) s).wp Q=(need (ô s k) λ xs=>need (kQ xs i) λ v=>.ok v s).wp Q)/\
  (∀ {α:Type}(a:α) (s:S) (Q:α->S->Prop),(R.ok a s).wp Q=Q a s)/\
  (∀ (e:En) (s:S) (N:En->S->Prop) (T:AV->S->Prop),(RS.nx e s).wp N T=N e s)/\
  (∀ {α c:Type}(x:c) (f:c->R α) (Q:α->S->Prop),(need (À x) f).wp Q=(f x).wp Q)/\
  (∀ (xs:Á AV) (s:S) (Q:Á AV × Gd->S->Prop),(Ic (.tup xs) s).wp Q=Q (xs,[]) s)/\
  (∀ (i j:Int) (s:S) (Q:AV->S->Prop),(CG (.int i) (.int j) s).wp Q=(Jw i j/\Q (.int (i ^ j.toNat)) s))/\
  (∀ (i j:Int) (s:S) (Q:AV->S->Prop),(mz [.int i,.int j] s).wp Q=((0 < j/\MX j)/\Q (.tup [.int (i / j),.int (i % j)]) s)):=by
 refine⟨?_,?_,?_,?_,?_,?_,?_,?_,?_,?_,?_,?_,?_,?_,?_,?_,?_,?_,?_,?_,?_,?_,?_,?_,?_,?_,?_,?_,?_,?_,?_⟩<;>intros<;>first|rfl|exact lI _ _ _
def Lq :
  (∀ (x y:Ê AV) (l:En),(x :: l).set 0 y=y :: l)/\
  (∀ (x y:Ê AV) (l:En) (n:Nat),(x :: l).set (n+1) y=x :: l.set n y)/\
  (∀ (n:Nat) (x:Ê AV),ã (n+1) x=x :: ã n x)/\
  (∀ (x:Ê AV),ã 0 x=[])/\
  (∀ (a:AV) (l:Á AV),kQ (a :: l) 0=À a)/\(∀ (a b:AV) (l:Á AV),kQ (a :: b :: l) 1=À b)/\(∀ (a b c:AV) (l:Á AV),kQ (a :: b :: c :: l) 2=À c)/\
  (∀ (l:Lc) (env:En),BD l env=l.map λ p=>p.2.bind λ j=>(env[j]?).join)/\
  (∀ (x:Ê AV) (l:En),(x :: l)[0]? = À x)/\
  (∀ (x:Ê AV) (l:En) (n:Nat),(x :: l)[n+1]? = l[n]?)/\
  (∀ {α d:Type}(f:α->d),[].map f=[])/\
  (∀ {α d:Type}(f:α->d) (x:α) (l:Á α),(x :: l).map f=f x :: l.map f)/\
  (∀ {α d:Type}(f:α->Ê d),(none:Ê α).bind f=none)/\
  (∀ {α d:Type}(f:α->Ê d) (x:α),(À x).bind f=f x)/\
  (∀ {α:Type}(x:Ê α),(À x).join=x):=by
 refine⟨?_,?_,?_,?_,?_,?_,?_,?_,?_,?_,?_,?_,?_,?_,?_⟩<;>intros<;>first|rfl|skip
 ·exact kR (j:=0) rfl
 ·exact kR (j:=1) rfl
 ·exact kR (j:=2) rfl
def UU:(∀ p:Prop,(True ∧ p)=p) ∧ (∀ p:Prop,(p ∧ True)=p) ∧ (∀ {α:Type}{_:ő True}(a b:α),(if True then a else b)=a) ∧ (∀ {α:Type}{_:ő False}(a b:α),(if False then a else b)=b) ∧ ((false=true)=False) ∧ (∀ (p:Prop){_:ő p},(decide p=true)=p) ∧ (∀ b:Bool,((!b)=true)=(b=false)) ∧ (∀ (p:Prop){_:ő p},(decide p=false)=¬p):=by
 refine⟨λ p=>true_and p,λ p=>and_true p,λ a b=>eO a b,λ a b=>eG a b,Ŧ,λ p _=>Ŗ,λ b=>kH b,λ p _=>eQ decide_eq_false_iff_not⟩

end Mm
local macro_rules | `(tactic| walk_at "w") => `(tactic| simp only [↓Mm.WS, ↓Mm.WE, ↓Mm.WV, Mm.Lq, Mm.ß, Mm.UU, Ä, ↓Ð])
namespace Ro
open PySem L2 Mm
structure Df (T:Tx)(mg:Str->Ê Value)(x:Str)(st:Stmt):Prop where
 ex:∃ f fd,E9 T.K x x st f fd/\mg x=À (.ref f)
def cI {K:É}{cl:Nat->Addr}{h:Heap}{mg:Str->Ê Value}{x:Str}{st:Stmt}{f:Addr}{i:Value}{od g:Ê Addr}{e:Ă (Ê Value)}{kV d j b ct:Value}(X:K.In h)(G:h.Ns mainGlobals mg)(a:Ď K mainGlobals x=À (À (.ref f)))
  (l:K.lookup f=À ⟨i,od,.func (ń x x (bW st) (ao st) (đ st) .none kV d j g b ct),e⟩) (c:cW K b x=true) (k:ī K (.ref f)=true):Df ⟨K,cl⟩ mg x st:=
 ⟨⟨f,_,xB l c k,gz X G a⟩⟩
def Gh (X:K.In h)(G:h.Ns mainGlobals mg)(a:Ď K mainGlobals x=À (À (.ref f))) (l:K.lookup f=À ⟨.type "tuple",od,.seq d n,e⟩)(v:Vals vs d.toList)(b:vs.length<=1000)(c:∀ ρ H,ĩ ⟨K,cl⟩ ρ H as vs):AA ⟨K,cl⟩ mg x (.tup as):=
 ⟨.ref f,.ref f,gz X G a,rfl,λ ρ H=>i_ (fM.const l v b) (c ρ H)⟩
def Cu (X:K.In h)(G:h.Ns mainGlobals mg)(e:Ď K mainGlobals x=À (À u)) (r:RelV v u)(b:∀ ρ H,VR ⟨K,cl⟩ ρ H a v):AA ⟨K,cl⟩ mg x a:=⟨v,u,gz X G e,r,b⟩
section
variable {P:Ĉ}{w:Ĩ}{T:Tx}{mg:Str->Ê Value}{base:Heap}
def S0 (N P:Á Str)(a:Scope):Bool:=decide N.Nodup && (P.all (λ x=>decide (a.names.lookup x=À .local) || decide (a.names.lookup x=À .cell)) && a.names.all λ y=>!decide (y.2=.free))
def ŕ {N P:Á Str}{a:Scope}(b:a.kind=.function)(c:a.isCoroutine=false)(d:a.isGenerator=false)(e:N.take P.length=P)(h:S0 N P a=true):il N P a:=by
 unfold S0 at h;rw[ĝ,ĝ,ñ,ñ]at h;refine⟨b,c,d,Ħ h.1,e,λ x f=>?_,λ y g=>?_⟩
 ·have:=h.2.1 x f;rw[jd]at this;exact this.imp Ħ Ħ
 ·have:=h.2.2 y g;rw[kH]at this;exact of_decide_eq_false this
def len0 {α:Type}{us:Á α}(h:us.length=0):us=[]:=AH.mp h
def RW {α:Type}{us:Á α}(h:us.length=1):∃ b,us=[b]:=by
 cases us with
 | nil=>cases h
 | cons a us=>
  cases len0 (ft h);exact⟨a,rfl⟩
def RX {α:Type}{us:Á α}(h:us.length=2):∃ c b,us=[c,b]:=by
 cases us with
 | nil=>cases h
 | cons a us=>
  obtain⟨b,rfl⟩:=RW (ft h);exact⟨a,_,rfl⟩
def RY {α:Type}{us:Á α}(h:us.length=3):∃ d b c,us=[d,b,c]:=by
 cases us with
 | nil=>cases h
 | cons a us=>
  obtain⟨b,c,rfl⟩:=RX (ft h);exact⟨a,_,_,rfl⟩
def RZ {α:Type}{us:Á α}(h:us.length=4):∃ e b c d,us=[e,b,c,d]:=by
 cases us with
 | nil=>cases h
 | cons a us=>
  obtain⟨b,c,d,rfl⟩:=RY (ft h);exact⟨a,_,_,_,rfl⟩
def R0 {α:Type}{us:Á α}(h:us.length=5):∃ f b c d e,us=[f,b,c,d,e]:=by
 cases us with
 | nil=>cases h
 | cons a us=>
  obtain⟨b,c,d,e,rfl⟩:=RZ (ft h);exact⟨a,_,_,_,_,rfl⟩
def NI {α:Type}{us:Á α}(h:us.length=6):∃ g b c d e f,us=[g,b,c,d,e,f]:=by
 cases us with
 | nil=>cases h
 | cons a us=>
  obtain⟨b,c,d,e,f,rfl⟩:=R0 (ft h);exact⟨a,_,_,_,_,_,rfl⟩
def R1 {α:Type}{us:Á α}(h:us.length=7):∃ i b c d e f g,us=[i,b,c,d,e,f,g]:=by
 cases us with
 | nil=>cases h
 | cons a us=>
  obtain⟨b,c,d,e,f,g,rfl⟩:=NI (ft h);exact⟨a,_,_,_,_,_,_,rfl⟩
end
end Ro
namespace L2
open PySem PySem.Spec PyProof.Rows
theorem Inv.G7 (I:Inv X a b H s):s.heap.NoDigits:=I.ok.mod.G7.keeps I.bk
def OL (g:X.calm=true)(h:PE X e k):PE X (.FormattedValue e (-1) none pos) (λ d H Q=>k d H λ x A=>(∃ i,x=.int i/\i.natAbs < 10 ^ 4300/\Q (.str (toString i)) A)∨∃ t,x=.str t/\t.length<=sizeLine/\Q (.str t) A):=by
 intro a s d H Q I j;refine wpAny_FormattedValue_plain (Ź (h a s d H _ I j) λ u m l=>iF l λ x A B f q=>?_);rcases q with⟨i,rfl,c,q⟩|⟨t,rfl,c,q⟩
 ·obtain⟨t,rfl⟩:=f;exact WH (B.ok.hd g) B.G7 (λ _=>⟨.str _,A,B.tok _,⟨_,rfl⟩,q⟩) λ b=>absurd c (nj.mpr b)
 ·obtain⟨n,rfl⟩:=f;exact wpAny_formatField_str ⟨.str _,A,B,⟨_,rfl⟩,q⟩ ⟨.str _,A,B.tok _,⟨_,rfl⟩,q⟩ c
abbrev TJ:=St->Hp->Str->(Str->Hp->Prop)->Prop
def PJ (X:Cx)(e:Á Expr)(t:TJ):Prop:=∀ (a:Á (Addr × Obj)) (s:Ò) (d:St) (H:Hp) (b:Str) (Q:Str->Hp->Prop),Inv X a d H s->t d H b Q->
 Joins (à X.prog X.w) X.A X.xe (Dj e X.env) b (λ c f=>∃ B,Inv X a d B f/\Q c B) s
def S9:TJ:=λ b H a Q=>Q a H
def Py (c:TE)(r:TJ):TJ:=λ b H a Q=>c b H λ x A=>∃ y,x=.str y/\(a++y).length<=sizeLine/\r b A (a++y) Q
def OW:PJ X [] S9:=λ a s c H b Q I h=>⟨H,I,h⟩
def Ld (g:PE X e l)(hr:PJ X b r)(i:Dj (e :: b) X.env=Ē e X.env :: Dj b X.env:=by rfl):PJ X (e :: b) (Py l r):=by
 intro a s c H d Q I h;rw[i];refine Ź (g a s c H _ I h) λ u k m=>?_;obtain⟨x,A,B,j,y,f,hl,q⟩:=m;subst f;obtain⟨t,rfl⟩:=j;exact⟨y,t,rfl,hl,hr a k c A _ Q B q⟩
theorem wc:∀ {ps:Á (W7 Value)}{a:Str}{Q B:Str->Ò->Prop}{s:Ò},Joins M A E ps a Q s->(∀ o s,Q o s->B o s)->Joins M A E ps a B s
 | [],_,_,_,_,h,k=>k _ _ h
 | _ :: _,_,_,_,_,h,k=>ae h (λ _ _ b=>iF b λ y t e hl r=>⟨y,t,e,hl,wc r k⟩) λ _ _ x=>x
def K4 (h:PJ X (e1 :: c :: d) t):PE X (.JoinedStr (e1 :: c :: d) pos) (λ b H Q=>t b H fB λ out A=>out.length<=sizeLine/\Q (.str out) A):=by
 intro a s b H Q I e;exact wpAny_JoinedStr (wc (h a s b H fB _ I e) λ out f ⟨A,B,hl,q⟩=>⟨hl,.str out,A,B.tok _,⟨_,rfl⟩,q⟩)
end L2
namespace Mm
open PySem L2
section
variable {T:Tx}{XE:jg}{X:Cx}{pos:kK}
structure Dg (i:Int):Prop where
 f:i.natAbs < 10 ^ 4300
instance {i:Int}:ő (Dg i):=j3 _
def V5 (i:Int):Str:=Ü (toString i)
def i4:AV->S->R AV
 | .int i,s=>if Dg i then .ok (.str (V5 i)) s else .bad
 | .str t,s=>if t.length<=sizeLine then .ok (.str t) s else .bad
 | _,_=>.bad
def NV (j:X.calm=true)(h:PE X e (tE T XE m)):PE X (.FormattedValue e (-1) none pos) (tE T XE (aH i4 m)):=
 PE.imp (OL j h) λ t H Q o=>Ņ o λ r g s n k l=>step n k l λ v p d A x _ q c i b a=>by
  have b:VR T d A v x:=b;cases v<;>try exact a.elim
  ·obtain⟨hl,a⟩:=a.Œ;exact .inl ⟨_,b.int_inv,hl.f,a.Ľ c hR⟩
  ·obtain⟨hl,a⟩:=a.Œ;exact .inr ⟨_,b.str_inv,hl,a.Ľ c hR⟩
abbrev Ej:=Str->En->S->R Str
def nA:Ej:=λ a _ s=>.ok a s
def aT (m:Ev)(r:Ej):Ej:=λ a b s=>(m b s).bind λ v c=>match v with
 | .str y=>if (a++y).length<=sizeLine then r (a++y) b c else .bad
 | _=>.bad
def VX:Rl Str Str:=⟨λ _ _ _ a b=>a=b,λ _ h=>h⟩
def tJ (T:Tx)(XE:jg)(m:Ej):TJ:=λ d H b Q=>∃ c a s,SR T c s H/\ER T c H a d/\Out T XE VX c H (m b a s) Q
def PJ.imp (h:PJ X d t)(k:∀ c H a Q,t' c H a Q->t c H a Q):PJ X d t':=λ b s c H a Q I e=>h b s c H a Q I (k c H a Q e)
def Oa:PJ X [] (tJ T XE nA):=PJ.imp OW λ g H a Q ⟨e,b,s,d,f,c⟩=>c e H a .refl d rfl
def Ku (i:PE X e (tE T XE m)) (hr:PJ X h (tJ T XE r)) (j:Dj (e :: h) X.env=Ē e X.env :: Dj h X.env:=by rfl):PJ X (e :: h) (tJ T XE (aT m r)):=
 PJ.imp (Ld i hr j) λ q H a Q ⟨p,f,s,j,i,l⟩=>step j i l λ v n d A x _ o k g c b=>by
  have c:VR T d A v x:=c;cases v<;>try exact b.elim
  obtain⟨hl,b⟩:=b.Œ;exact⟨_,c.str_inv,hl,d,f,n,k,g,b⟩
def hX (r:Ej):Ev:=λ a s=>(r fB a s).bind λ t b=>if t.length<=sizeLine then .ok (.str t) b else .bad
def Kl (h:PJ X (e1 :: d :: f) (tJ T XE r)):PE X (.JoinedStr (e1 :: d :: f) pos) (tE T XE (hX r)):=
 PE.imp (K4 h) λ o H Q l=>Ņ l λ m b s i g a=>by
  refine⟨m,b,s,i,g,?_⟩;unfold hX at a;cases e:r fB b s with
  | bad=>rw[e]at a;exact a
  | ex c j=>rw[e]at a;exact a
  | ok t j=>
   rw[e]at a;obtain⟨hl,a⟩:=a.Œ;intro n A x u k ex;cases (show t=x from ex);exact⟨hl,(Out.up u a).Ľ k hR⟩
end
end Mm
namespace L2
open PySem PySem.Spec PySem.W PyProof.Rows
def XT (h:Heap)(e:Addr)(vs:Ă Value):Prop:=vs[1]? = À .none∨∃ T a b,vs[1]? = À (.ref T)/\T≠e/\h.get? T=À a/\a.data=.fields b/\b[3]? = À .none
structure Way (fs:Á Addr)(e:Addr)(oe:Obj)(h h':Heap):Prop where
 keep:∀ b o,h.get? b=À o->b∉fs->b≠e->h'.get? b=À o
 slot:∀ b o,h.get? b=À o->b∈fs->∃ sl,h'.get? b=À { o with slots:=sl }
 exc:∃ vs,h'.get? e=À { oe with data:=.fields vs }/\1 < vs.size/\XT h' e vs
def px (hd:o.data=.fields ts)(b:ts[3]? = À .none):ü (·.setIfInBounds 3 .none) o=o:=by
 obtain⟨c,d,a,f⟩:=o;have hd:a=.fields ts:=hd;subst hd;show Obj.mk c d (.fields (ts.setIfInBounds 3 .none)) f=_;congr 2;apply Array.ext_getElem?;intro i;rw[Array.getElem?_setIfInBounds];split
 ·rename_i e;subst e;split
  ·exact b.symm
  ·rename_i g;rw[fG (by lia)]at b;cases b
 ·rfl
def Bg (hd:o.data=.fields ts)(f:Ă Value->Ă Value):ü f o={ o with data:=.fields (f ts) }:=by
 obtain⟨c,d,a,b⟩:=o;have hd:a=.fields ts:=hd;subst hd;rfl
section
variable {M:Model}{A:į}{E:Value->Ò->Prop}{s:Ò}
def zr 
  (q:A.frames=À (env :: outer)) (hl:s.heap.FunFrames base (env :: outer)) (F:env.frame=À L) (y:s.heap.get? e=À h) (hd:h.data=.fields vs) (hz:1 < vs.size)
  (G:∀ h',Way (yG (env :: outer)) e h s.heap h'->Q () { s with heap:=h' }) :
  Ú M A (do let a <-frameOf env;let pl <-entryPlaceOf L O;let b <-yI head a .none (Ũ L) .none pl;setField (.ref e) 1 b) (λ _ s'=>Ú M A (y4 (.ref e) none) Q E s') E s:=by
 have C:e∉yG (env :: outer):=λ z=>by
  obtain⟨_,o,B,r⟩:=hl.mem z;rw[y]at B;cases B;exact r vs hd
 refine Â (wpAny_frameOf_fun q hl F λ g u=>?_);refine Â (wpAny_entryPlaceOf λ pl t=>?_);refine Â ?_;simp only[yI,newFields];refine ŗ ?_ (t.sizeOk5 _ _ _ _ _);generalize I:([head,Ñ L,ì,Ũ L,ì]++(if pl.isEmpty then ã 6 ì else pl)).toArray=c;have J:5<=c.size:=by rw[<-I];simp
 have w:g.get? e=À h:=(u.2.1 e C).trans y;have d:g.objs.size≠e:=ġ (Ó w);have j:(g.push { cls:=.type "traceback",data:=.fields c }).get? e=À h:=Ã _ w;refine ij j hd hz ?_;have v:(ü (·.setIfInBounds 1 (Ñ g.objs.size)) h)={ h with data:=.fields (vs.setIfInBounds 1 (.ref g.objs.size)) }:=Bg hd _;have l:(ü (·.setIfInBounds 1 (Ñ g.objs.size)) h).data=.fields (vs.setIfInBounds 1 (.ref g.objs.size)):=by rw[v]
 have k:=ø (ü (·.setIfInBounds 1 (Ñ g.objs.size))) j (cV l);have gT:=(ç (g.push { cls:=.type "traceback",data:=.fields c }) (ü (·.setIfInBounds 1 (Ñ g.objs.size))) (Ŋ d)).trans (Ö g rfl);unfold y4;refine Â (Ŀ k l (x:=.ref g.objs.size) (by rw[cR hz]) ?_);rw[Ï (by simp)];refine ij gT rfl (by lia) (G _ ?_);have m:∀ b o,g.get? b=À o->b≠e->(((g.push { cls:=.type "traceback",data:=.fields c }).update e (ü (·.setIfInBounds 1 (Ñ g.objs.size)))).update g.objs.size (ü (·.setIfInBounds 3 ((none:Ê Addr).elim ì λ f=>Ũ f)))).get? b=À o:=λ b o i p=>by
  rw[ç _ _ (ġ (Ó i)),ç _ _ (Ŋ p)];exact Ã _ i
 refine⟨λ b o i n D=>m b o ((u.2.1 b n).trans i) D,λ b o i n=>?_,?_⟩
 ·obtain⟨N,H⟩:=u.2.2 b o i;exact⟨N,m b _ H λ z=>C (z ▸ n)⟩
 ·refine⟨vs.setIfInBounds 1 (.ref g.objs.size),?_,by simpa using hz,.inr ⟨g.objs.size,_,_,by rw[cR hz],d,ø _ gT (cV (by rw[Bg (o:={ cls:=.type "traceback",data:=.fields c }) (ts:=c) rfl])),by rw[Bg (o:={ cls:=.type "traceback",data:=.fields c }) (ts:=c) rfl],?_⟩⟩
  ·rw[ç _ _ d,k,v]
  ·rw[cR (by lia)];rfl
def Cv 
  (g:A.frames=À (env :: outer)) (hl:s.heap.FunFrames base (env :: outer)) (k:env.frame=À L) (j:s.heap.get? e=À l) (hd:l.data=.fields vs) (p:XT s.heap e vs)
  (m:∀ h',Way (yG (env :: outer)) e l s.heap h'->Q () { s with heap:=h' }):Ú M A (IW (.ref e) env) (λ _ s'=>Ú M A (y4 (.ref e) none) Q E s') E s:=by
 unfold IW;simp only[k];rcases p with d|⟨T,r,t,d,n,i,a,h⟩
 ·refine Â (Ŀ j hd d ?_);rw[Ô (by decide)];exact zr g hl k j hd (dw.mp d).1 m
 ·refine Â (Ŀ j hd d ?_);rw[Ï (show(Ñ T != ì)=true from by simp)];refine Â (Ŀ i a h ?_);rw[Ô (show ¬ ((ì == Ũ L)=true) from by simp[Ũ])];refine Â (ij i a (dw.mp h).1 ?_);have same:∀ b o,s.heap.get? b=À o->(s.heap.update T (ü (·.setIfInBounds 3 ì))).get? b=À o:=λ b o c=>by
   by_cases f:b=T
   ·subst f;rw[i]at c;cases c;have q:=ø (ü (·.setIfInBounds 3 ì)) i (by rw[px a h];exact cV a);rw[q,px a h]
   ·rw[ç _ _ (Ŋ f)];exact c
  refine zr (s:={ s with heap:=s.heap.update T (ü (·.setIfInBounds 3 ì)) }) g (hl.of_keeps λ b o c _=>⟨o,same b o c,rfl⟩) k (same e l j) hd (dw.mp d).1 λ h' W=>m h' ?_;exact⟨λ b o c=>W.keep b o (same b o c),λ b o c=>W.slot b o (same b o c),W.exc⟩
def Gj 
  (a:A.frames=À (env :: outer)) (hl:s.heap.FunFrames base (env :: outer)) (d:env.frame=À L) (c:s.heap.get? e=À b) (hd:b.data=.fields vs) (g:XT s.heap e vs)
  (f:∀ h',Way (yG (env :: outer)) e b s.heap h'->Q () { s with heap:=h' }):Ú M A (leaving env (.ref e)) Q E s:=by
 unfold leaving;exact Â (Cv a hl d c hd g f)
def DH (i:s.heap.get? e=À m)(hd:m.data=.fields vs)(l:XT s.heap e vs)
  (j:∀ h',(∀ b o,s.heap.get? b=À o->h'.get? b=À o)->Q () { s with heap:=h' }):Ú M A (y4 (.ref e) none) Q E s:=by
 unfold y4;rcases l with d|⟨T,n,p,d,k,g,a,f⟩
 ·refine Â (Ŀ i hd d ?_);rw[Ô (by decide)];exact Ë (j s.heap λ _ _ z=>z)
 ·refine Â (Ŀ i hd d ?_);rw[Ï (show(Ñ T != ì)=true from by simp)];refine ij g a (dw.mp f).1 (j _ λ b o h=>?_);by_cases c:b=T
  ·subst c;rw[g]at h;cases h;have q:=ø (ü (·.setIfInBounds 3 ì)) g (by rw[px a f];exact cV a);exact q.trans (by rw[px a f])
  ·exact(ç _ _ (Ŋ c)).trans h
end
def LV (C e:Addr)(d:Ê Addr):HO:=.ext λ h=>∃ (a:Obj) (b:Ă Value),h.get? e=À a/\a.cls=.ref C/\a.dict=d/\a.data=.fields b
def Way.ś (W:Way fs e a h h')(l:∀ b∈fs,H b=none)(j:H e=À (LV C e d)) (A:h.get? e=À a)(hc:a.cls=.ref C)(o:a.dict=d)(x:lP P w H h):lP P w H h':=λ b u q=>by
 obtain⟨f,g,p,s⟩:=W.exc;by_cases i:b=e
 ·subst i;rw[j]at q;cases q;exact⟨⟨_,f,g,hc,o,rfl⟩,⟨_,g⟩,λ t y ⟨n,f,z,r⟩ k=>⟨n,f,k n z,r⟩⟩
 ·refine(x b u q).nE (λ c v hc z=>W.keep c v z (λ m=>?_) ?_) (λ c z=>z) λ c xs z=>z
  ·rcases hc with rfl|hc
   ·rw[l c m]at q;cases q
   ·rw[l c m]at hc;cases hc
  ·rintro rfl;rcases hc with rfl|hc
   ·exact i rfl
   ·rw[j]at hc;cases hc
def Way.un (W:Way fs e p h h')(k:H e=À (LV C e d)) (l:∀ b∈fs,b∈f):Un f [] H H h h':=by
 have g:∀ b,H b=none->b≠e:=λ b n z=>by subst z;rw[k]at n;cases n
 have a:∀ b o,h.get? b=À o->b≠e->∃ i,h'.get? b=À { o with slots:=i }:=λ b o q z=>by
  by_cases m:b∈fs
  ·exact W.slot b o q m
  ·exact⟨o.slots,W.keep b o q m z⟩
 refine⟨λ b o q n j _=>W.keep b o q (λ z=>j (l b z)) (g b n),λ b o q n _ _=>a b o q (g b n),λ _ _ _ n _=>n,λ b o q _=>?_,λ _ _ q=>q,λ _ _ _ q=>q,λ _ r q=>⟨#[],by rw[q];simp⟩⟩;by_cases z:b=e
 ·subst z;obtain⟨s,c,_⟩:=W.exc;exact⟨_,c⟩
 ·obtain⟨i,c⟩:=a b o q z;exact⟨_,c⟩
structure Lies (C e:Addr)(d:Ê Addr)(H:Hp)(h:Heap):Prop where
 Jf:H e=À (LV C e d)
 ex:∃ (ox:Obj) (vs:Ă Value),h.get? e=À ox/\ox.cls=.ref C/\ox.dict=d/\ox.data=.fields vs/\XT h e vs
def qd (P:Ĉ)(w:Ĩ):E7:=λ a H s E b s'=>∃ e C d A,b=.ref e/\s'.os=s.os/\mH s'.gens/\Un (yG a) [] H A s.heap s'.heap/\lP P w A s'.heap/\Lies C e d A s'.heap/\E b (À C) A
def Un.way (u:Un fs [] A H h0 h)(W:Way (L :: fs) e s h h') (k:H e=À (LV C e d)) (j:h0.objs.size<=L):Un fs [] A H h0 h':=by
 have l:∀ b,H b=none->b≠e:=λ b n z=>by subst z;rw[k]at n;cases n
 have nL:∀ b o,h0.get? b=À o->b≠L:=λ b o q z=>by subst z;exact absurd (Ó q) (nj.mpr j)
 refine⟨λ b o q n f a=>W.keep b o (u.keep b o q n f a) (λ z=>?_) (l b (u.free b o q n a)),λ b o q n f a=>?_,u.free,λ b o q a=>?_,u.ky,u.iU,u.uT⟩
 ·rcases Þ.mp z with z|z
  ·exact nL b o q z
  ·exact f z
 ·obtain⟨p,g⟩:=u.slot b o q n f a;obtain⟨i,c⟩:=W.slot b _ g (þ _ f);exact⟨i,c⟩
 ·obtain⟨r,g⟩:=u.there b o q a;by_cases z:b=e
  ·subst z;obtain⟨t,c,_⟩:=W.exc;exact⟨_,c⟩
  ·by_cases m:b∈L :: fs
   ·obtain⟨p,c⟩:=W.slot b _ g m;exact⟨_,c⟩
   ·exact⟨_,W.keep b _ g m z⟩
def Lets (X:Cx)(E:XK):Prop:=∀ a b H s e C d,Inv X a b H s->Lies C e d H s.heap->E (.ref e) (À C) H->X.xe (.ref e) s
def Lets.passes (l:Lets X E):Passes (qd X.prog X.w) X E:=by
 rintro b g H s h s' I ⟨e,C,d,A,rfl,os,a,f,c,x,q⟩;obtain⟨v,B,J,r,rfl⟩:=I.after (Q:=λ v B=>B=A) (u:=.none) ⟨.Ę,A,os,a,f,c,rfl,rfl⟩;exact l b g _ s' e C d J x q
def Ka {K:É}{mg:Str->Ê Value}{N:Á Str}{scope:Scope}{outer:Á yJ}{E:XK}:Lets (lR (qd P w) P w K mg base N i scope f n A outer s H E) E:=by
 intro h u B s' e C d I x q;obtain⟨p,r,b,c,g,j,k⟩:=x.ex;refine Gj (base:=base) (outer:=outer) I.ok.frames I.stack rfl b j k λ o W=>?_;refine⟨e,C,d,B,rfl,I.os,I.bare,I.base.way W x.Jf (Ì _),W.ś I.sR x.Jf b c g I.ś,⟨x.Jf,?_⟩,q⟩;obtain⟨a,l,t,m⟩:=W.exc;exact⟨_,a,l,c,g,rfl,m⟩
def Pf (C:Addr)(E:XK)(t:TA):TS:=λ _ b H=>t b H λ a A=>a.length<=sizeLine/\∀ e,A e=none->E (.ref e) (À C) (upd A e (LV C e none))
def Hy (x:iI X.K C nm bm none)(hk:ī X.K (.ref C)=true) (Z:Gl X B)(p:X.mg B=À (.ref C)) (U:X.calm=true)(l:Lets X E)(Q:PA X (a :: as) t)
  (y:(B == ("__debug__":Str))=false:=by decide) (Y:Í (a :: as) X.env=(false,Ē a X.env) :: Í as X.env:=by rfl) (z:(Ĝ c (Í as X.env)).any (·.1)=false:=by rfl) :
  PS X (.Raise (À (.Call (.Name B np) (a :: as) [] c)) none pos) (Pf C E t):=by
 intro j s O H D I h;obtain⟨q,N,bs,sn,sub,ab,col,dd,k0,k1,k2,k3,k5,m,G,n,i⟩:=x.ex;have T:bm.contains (.type "BaseException")=true:=(x.tail.OF I.ll).hasType (X:="BaseException") (b:=true) (by decide +kernel);rw[arm_exec_Raise];refine Â (dM (wpAny_raiseStmt_made_sub (C:=C) (nm:=nm) (q:=q) (N:=N) (bs:=bs) (bm:=bm) (hdct:=true) (sn:=sn) (sub:=sub) (ab:=ab) (col:=col) (dd:=dd) (k0:=k0) (k1:=k1) (k2:=k2) (k3:=k3) (k5:=k5) (newId:="ValueError.__new__") T (I.ok.hd U) (Â (ae (Ŵ (mX I Z p ?_ y)) (λ v L u=>Â (dM (Ë u))) λ _ _ x=>x))));refine oX (h₀:=X.base) I.ok.mod.RQ hk (Ź (Q c j s O H _ I h) λ us s1 ⟨M,H1,A,r,hl,q1⟩=>⟨A.ll,?_⟩) Y z;obtain⟨hp,g,d,tk,os⟩:=s1;refine wpAny_call_exc_subU (hrest:=by rw[eL,<-r.length];exact hl) vm (by decide +kernel) vm (x.tail.OF A.ll) (A.ll _ _ G) (n.ns A.ll) i λ h' e p=>?_;obtain⟨t,w,_,_⟩:=p.there;have f:hp.get? e=none:=p.new;refine⟨e,t,rfl,p.keeps _ _ (A.ll _ _ G),w,?_⟩;refine l j O _ _ e C none (A.RV (a:=e) (o:=LV C e none) (t':=tk) p.keeps f ?_) ⟨ù ..,_,_,w,rfl,rfl,rfl,.inl rfl⟩ (q1 e (A.gone f));exact⟨⟨_,_,w,rfl,rfl,rfl⟩,⟨_,w⟩,λ h1 h2 ⟨J,M,P,r⟩ k=>⟨J,M,k J P,r⟩⟩
section
variable {M:Model}{A:į}{E:Value->Ò->Prop}{K:É}{C D:Addr}{nm Zo:Str}{bm Xl:Á Value}{AB Vq:Ê Value}
def Gz (X:K.In s.heap)(x:iI K C nm bm AB)(y:iI K D Zo Xl Vq)(v:s.heap.get? e=À F)(u:F.cls=.ref C)(i:Q ((Ñ C :: bm).contains (.ref D)) s):Ú M A (excMatches (.ref e) (.ref D)) Q E s:=by
 obtain⟨q1,I,n,G,j,l,a,p,L,N,O,P,T,m1,z,n1,i1⟩:=x.ex;obtain⟨q2,J,o,H,k,m,c,q,U,Y,Z,b3,b5,m2,B,n2,i2⟩:=y.ex;have hC:=X _ _ z;have h:=X _ _ B;have r:(Ñ D :: Xl).contains (.type "BaseException")=true:=by rw[ņ,(y.tail.OF X).hasType (X:="BaseException") (b:=true) (by decide +kernel),dQ]
 obtain⟨hp,g,d,t,os⟩:=s;have f:=PySem.tc_notTuple;unfold excMatches
 repeat (first|(with_reducible refine TU v ?_;rw[u])|with_reducible refine TU h ?_|(with_reducible refine PZ h ?_;rw[r])|with_reducible refine PZ hC ?_|wp_step)
 cases w:(Ñ C :: bm).contains (.ref D)<;>(rw[w]at i;wp_walk;exact i)
end
section
variable {X:Cx}{õ:Á (Addr × Obj)}{σ:St}{H:Hp}{s:Ò}
def JX (I:Inv X õ σ H s)(T:X.N.Nodup)(F:X.N[i]? = À n)(U:X.env.scope.names.lookup n=À .local)
  (h:∀ s',Inv X õ (σ.set i none) H s'->Q () s'):Ú M A (do fJ X.env n .none;MS X.env n pos) Q E s:=by
 obtain⟨m,G,hl⟩:=id I.loc;have r:(X.env.scope.kind == .class || (X.env.scope.kind == .module && X.env.locals != X.env.globals))=false:=by rw[I.ok.kind];rfl
 have t:i < σ.length:=by rw[I.len];exact(Ç.mp F).1
 have l:=I.T9;obtain⟨oL,_,_,Y,_⟩:=id G;refine wpAny_nameGoes_keeps U G r λ P v D f=>?_;have a:lP X.prog X.w H P:=λ b ob e=>by
  refine(I.ś b ob e).nE (λ c L hc q=>(f.2 c ?_).trans q) (λ _ q=>q) λ _ _ q=>q;rintro rfl;rcases hc with rfl|hc
  ·rw[I.free]at e;cases e
  ·rw[I.free]at hc;cases hc
 refine h _ ⟨I.ok,I.os,I.bare,⟨λ b o e n B u=>?_,λ b o e n B u=>?_,I.base.free,λ b o e u=>?_,I.base.ky,I.base.iU,I.base.uT⟩,⟨_,D,λ j y v' g x O=>?_⟩,λ y c e=>?_,I.free,I.iS,λ p Z=>?_,a,by simpa using I.len⟩
 ·exact(f.2 b (ê (é (Ó e) I.ok.above))).trans (I.base.keep b o e n B u)
 ·obtain⟨sl,g⟩:=I.base.slot b o e n B u;exact⟨sl,(f.2 b (ê (é (Ó e) I.ok.above))).trans g⟩
 ·obtain⟨o',g⟩:=I.base.there b o e u;exact⟨o',(f.2 b (ê (é (Ó e) I.ok.above))).trans g⟩
 ·by_cases C:j=i
  ·subst C;rw[Č t]at x;cases x
  ·rw[í (Ŋ C)]at x;obtain⟨u',r',q⟩:=hl j y v' g x O;refine⟨u',r',?_⟩;rcases q with⟨k,e⟩|⟨k,c,e,z⟩
   ·refine .inl ⟨k,?_⟩;have:y≠n:=λ e=>C (um T g (e ▸ F));simp[this,e]
   ·exact .inr ⟨k,c,e,z.sameBut f (l y c e)⟩
 ·obtain⟨L,z⟩:=I.cell y c e;exact⟨L,z.sameBut f (l y c e)⟩
 ·obtain⟨e,n,J,nf,d⟩:=I.pin p Z;exact⟨(f.2 p.1 J).trans e,n,J,nf,d⟩
abbrev Cx.nJ (X:Cx)(xe:Value->Ò->Prop)(pn:Á (Addr × Obj)):Cx:={ X with xe:=xe,pn:=pn }
abbrev Cx.nI (X:Cx)(e:Addr):Cx:={ X with A:=X.A.mark (À (.ref e)),calm:=false,xe:=λ _ _=>False }
theorem Inv.nJ (I:Inv X õ σ H s):Inv (X.nJ xe (X.pn++õ)) [] σ H s:=
 ⟨⟨I.ok.mod,I.ok.kind,I.ok.glob,I.ok.blt,I.ok.above,I.ok.inj,I.ok.has,I.ok.L_,I.ok.hd,I.ok.frames,I.ok.Pp,I.ok.Rr,I.ok.bs,I.ok.Du,I.ok.zR,I.ok.zv,I.ok.n8,I.ok.Jc⟩,I.os,I.bare,I.base,I.loc,I.cell,I.free,I.iS,λ p a=>I.pin p (by simpa using a),I.ś,I.len⟩
def Inv.zU (I:Inv (X.nJ xe (X.pn++õ)) a σ H s):Inv X õ σ H s:=
 ⟨⟨I.ok.mod,I.ok.kind,I.ok.glob,I.ok.blt,I.ok.above,I.ok.inj,I.ok.has,I.ok.L_,I.ok.hd,I.ok.frames,I.ok.Pp,I.ok.Rr,I.ok.bs,I.ok.Du,I.ok.zR,I.ok.zv,I.ok.n8,I.ok.Jc⟩,I.os,I.bare,I.base,I.loc,I.cell,I.free,I.iS,λ p b=>I.pin p (iC _ b),I.ś,I.len⟩
theorem Inv.nI (I:Inv X õ σ H s):Inv (X.nI e) õ σ H s:=
 ⟨⟨I.ok.mod,I.ok.kind,I.ok.glob,I.ok.blt,I.ok.above,I.ok.inj,I.ok.has,I.ok.L_,(λ z=>nomatch z),I.ok.frames,I.ok.Pp,I.ok.Rr,I.ok.bs,I.ok.Du,I.ok.zR,I.ok.zv,I.ok.n8,I.ok.Jc⟩,I.os,I.bare,I.base,I.loc,I.cell,I.free,I.iS,I.pin,I.ś,I.len⟩
def Inv.Su (a:X.calm=true->X.A.handled=none)(I:Inv (X.nI e) õ σ H s):Inv X õ σ H s:=
 ⟨⟨I.ok.mod,I.ok.kind,I.ok.glob,I.ok.blt,I.ok.above,I.ok.inj,I.ok.has,I.ok.L_,a,I.ok.frames,I.ok.Pp,I.ok.Rr,I.ok.bs,I.ok.Du,I.ok.zR,I.ok.zv,I.ok.n8,I.ok.Jc⟩,I.os,I.bare,I.base,I.loc,I.cell,I.free,I.iS,I.pin,I.ś,I.len⟩
end
def Tj (C e:Addr):Ê Addr->HO
 | none=>Ur C e
 | some a=>X7 C e a
def Inv.M_ (I:Inv X c o H s)(h:H e=À (LV C e d)):Inv X c o (upd H e (Tj C e d)) s:=by
 obtain⟨⟨a,q,b,f,g,l⟩,_⟩:=I.ś _ _ h;have j:P4 (H e):=by rw[h];trivial
 have i:Yf a=true:=by unfold Yf;rw[l]
 refine I.un (h':=s.heap) (t':=s.toks) (Un.write j (.inl rfl) (λ _ _ _ z=>z) ⟨_,b⟩) (I.ś.write j (.inl rfl) (λ _ _ _ z=>z) ⟨_,b⟩ ?_);cases d with
 | none=>exact⟨⟨a,b,f,i,g⟩,⟨_,b⟩,λ m n ⟨a,z,r⟩ k=>⟨a,k a z,r⟩⟩
 | some p=>exact⟨⟨a,b,f,i,g⟩,⟨_,b⟩,λ m n ⟨a,z,r⟩ k=>⟨a,k a z,r⟩⟩
def Me (i:Nat)(D:Ends):Ends where
 nx:=λ σ H=>D.nx (σ.set i none) H
 rt:=D.rt
 bk:=λ σ H=>D.bk (σ.set i none) H
 ct:=λ σ H=>D.ct (σ.set i none) H
def FQ (K:É)(N i:Nat)(B:Addr)(ts:TS)(D:Ends):XK:=λ f h A=>∃ e C d,f=.ref e/\h=À C/\A e=À (LV C e d)/\(∃ g c b,iI K C g c b/\(Ñ C :: c).contains (.ref B)=true)/\
 ∀ a:St,a.length=N->ts (Me i D) (a.set i (À (.ref e))) (upd A e (Tj C e d))
def Pg (K:É)(N i:Nat)(A:Addr)(tb:XK->TS)(ts:TS):TS:=λ D a H=>tb (FQ K N i A ts D) D a H
def Hz 
  (hN:X.N.Nodup) (xc:iI X.K P nm bm AB) (hm:X.mg xn=À (.ref P)) (hg:Gl X xn)
  (hb:∀ xe pn E1,Lets (X.nJ xe pn) E1->l5 (X.nJ xe pn) body (tb E1)) (hs:∀ e,l5 (X.nI e) (y :: o) ts)
  (hi:X.N[i]? = À n:=by rfl) (Z:X.env.scope.names.lookup n=À .local:=by rfl) (l:X.stack=X.env :: X.outer:=by rfl) (G:X.env.frame=À X.env.locals:=by rfl) (U:(xn == ("__debug__":Str))=false:=by decide) :
  PS X (.Try body [.ExceptHandler (À (.Name xn np)) (À n) (y :: o) L] [] [] pos) (Pg X.K X.N.length i P tb ts):=by
 intro b s σ H D I h;refine wpAny_Try_except ?_;refine ae (hb (λ T s'=>∃ e C d a B,T=.ref e/\Inv X b a B s'/\Lies C e d B s'.heap/\FQ X.K X.N.length i P ts D T (À C) B) (X.pn++b) _ ?_ [] s σ H D I.nJ h) (λ f j g=>?_) ?_
 ·exact λ XR a B s' e C d J x q=>⟨e,C,d,a,B,rfl,J.zU,x,q⟩
 ·cases f with
  | next=>
   obtain⟨a,B,J,q⟩:=g;exact Ë ⟨a,B,J.zU,q⟩
  | brk=>obtain⟨a,B,J,q⟩:=g;exact⟨a,B,J.zU,q⟩
  | cont=>obtain⟨a,B,J,q⟩:=g;exact⟨a,B,J.zU,q⟩
  | ret u=>obtain⟨v,a,B,J,r,q⟩:=g;exact⟨v,a,B,J.zU,r,q⟩
 ·rintro T j ⟨e,C,d,p,H1,rfl,J,x,e',C',d',z1,z2,he,⟨nm',bm',Zc,xC,M⟩,q⟩;cases z1;cases z2;obtain⟨ox,vs,o1,o2,o3,o4,o5⟩:=x.ex;have Y:X.A.frames=À (X.env :: X.outer):=by rw[<-l];exact J.ok.frames
  have hl:j.heap.FunFrames X.base (X.env :: X.outer):=by rw[<-l];exact J.stack
  refine Cv Y hl G o1 o4 o5 λ h' W=>?_;have W:Way (yG X.stack) e ox j.heap h':=by rw[l];exact W
  have O:Inv X b p H1 { j with heap:=h' }:=J.call (ch:=[]) (g':=j.gens) (d':=j.drawn) (t':=j.toks) (W.un x.Jf λ _ z=>z) (W.ś J.sR x.Jf o1 o2 o3 J.ś) J.bare λ _ z=>nomatch z
  obtain⟨vs',p1,p2,p3⟩:=W.exc;refine wpAny_handleBy_cons (codeAny_handlers_test ?_) (by intro z;cases z);refine mX (X:=X.nI e) O.nI hg hm ?_ U;refine Gz O.ll xC xc p1 o2 ?_;rw[M];refine codeAny_handlers_suite_as (DH p1 rfl p3 λ h2 k=>?_);have J2:Inv X b p H1 { j with heap:=h2 }:=O.un (h':=h2) (t':=j.toks) (Un.kept k) (O.ś.kept k);refine gw (J2.M_ he) hN hi (.inl Z) (v:=.ref e) rfl (λ s3 J3=>?_) (.inr Z);refine ae (hs e b s3 _ _ (Me i D) J3.nI (q p J.len)) (λ f s4 g=>?_) λ _ _ z=>z.elim;have c:∀ {a:St}{B:Hp}{Q:Unit->Ò->Prop},Inv (X.nI e) b a B s4->(∀ t,Inv X b (a.set i none) B t->Q () t)->Ú (à X.prog X.w) X.A (do fJ X.env n .none;MS X.env n L) Q X.xe s4:=λ E k=>JX (E.Su J.ok.hd) hN hi Z k;cases f with
  | next=>obtain⟨a,B,E,m⟩:=g;exact c E λ t F=>⟨_,B,F,m⟩
  | brk=>obtain⟨a,B,E,m⟩:=g;exact c E λ t F=>⟨_,B,F,m⟩
  | cont=>obtain⟨a,B,E,m⟩:=g;exact c E λ t F=>⟨_,B,F,m⟩
  | ret u=>obtain⟨v,a,B,E,r,m⟩:=g;exact c E λ t F=>⟨v,_,B,F,r,m⟩
end L2
namespace Mm
open PySem L2
def ny (T:Tx)(E:XK):jg:=λ c _ _ H=>∀ e,H e=none->c.fs=[]->E (.ref e) (À (T.cl c.cls)) (upd H e (LV (T.cl c.cls) e none))
structure Ls (T:Tx)(X:Cx)(XE:jg):Prop where
 ex:∃ E,Lets X E/\∀ c ρ s H,XE c ρ s H->ny T E c ρ s H
section
variable {T:Tx}{XE:jg}{X:Cx}{pos:kK}
def P7:Ls T X ES:=⟨⟨E0,λ _ _ _ _ _ _ _ _ _ z=>z.elim,λ _ _ _ _ z=>z.elim⟩⟩
def zL:Ls T (lR (qd P w) P w K mg base N a scope f b A outer s H E) (ny T E):=⟨⟨E,Ka,λ _ _ _ _ z=>z⟩⟩
def Hb:yP (à P w) (A.deeper (ak a scope s.heap.objs.size f b)) (ak a scope s.heap.objs.size f b) (lR (qd P w) P w K mg base N a scope f b A outer s H E).xe:=PassesOwn.leaving
def EU (T:Tx)(n:Nat)(F:Á AV->S->R AV):Sp:=λ c H Q E=>c.length=n/\∃ b s a,SR T b s H/\ĩ T b H a c/\Out T (ny T E) (rV T) b H (F a s) Q
def xA (F:E9 T.K x g st f p)(S:il N ps (đ st))
  (q:∀ (b:Value) (A:į) (outer:Á yJ) (s:Ò) (H:Hp) (E:XK),cb k (A.deeper (ak g (đ st) s.heap.objs.size f b))->l5 (lR (qd P w) P w T.K mg base N g (đ st) f b A outer s H E) (ao st) (tS T (ny T E) body)) :
  gC P w T.K mg base (qd P w) (k+1) f p ps (EU T ps.length (dN N.length body)):=by
 obtain⟨L,M,kV,o,O,G,b,ct,t,rfl,r,m⟩:=F.ex;refine Mc r m S (λ z H Q E h=>h.1) λ A outer s H z Q E hr C=>?_;obtain⟨hl,ρ,i,d,n,y,a⟩:=C;refine⟨_,q b A outer s H E hr,ρ,_,i,n,zu N y,?_⟩;unfold dN at a;cases e:body (d.map À++ã (N.length - d.length) none) i with
 | nx I l=>simp only[e]at a;exact λ j B D u n J=>a j B .Ę u n (uW (T:=T) (ρ:=j) (H:=B))
 | rt v l=>simp only[e]at a;exact a
 | ex c l=>simp only[e]at a;exact a
 | bk v l=>simp only[e]at a;exact a.elim
 | ct v l=>simp only[e]at a;exact a.elim
 | bad=>simp only[e]at a;exact a.elim
def Out.xe (h:Out T XE b ρ H r Q)(k:∀ c ρ s H,XE c ρ s H->A c ρ s H):Out T A b ρ H r Q:=by
 cases r with
 | ok v s=>exact h
 | ex c s=>exact λ a B u d=>k _ _ _ _ (h a B u d)
 | bad=>exact h
def Fu (k:∀ c ρ s H,XE c ρ s H->ny T E c ρ s H)(h:tE T XE (ę n F r) p H Q):HV (EU T n F) [] E (tP T XE r) p H Q:=by
 obtain⟨ρ,g,s,m,j,l⟩:=h;refine step m j l λ f o d A xs _ q e i a b=>?_;obtain⟨hl,b⟩:=b.Œ;have a:ĩ T d A f xs:=a;rw[cE];exact⟨by rw[<-a.length];exact hl,d,o,f,e,a,b.xe k⟩
structure fL (P:Ĉ)(w:Ĩ)(T:Tx)(mg:Str->Ê Value)(base:Heap)(nm:Str)(n k:Nat)(Fn:Á AV->S->R AV):Prop where
 ex:∃ f fd ps,gC P w T.K mg base (qd P w) k f fd ps (EU T n Fn)/\Binds T.K fd ps []/\mg nm=À (.ref f)/\ī T.K (.ref f)=true
def R6 (h:fL X.prog X.w T X.mg X.base x n k B)(hr:cb k X.A)(i:PA X (e :: a) (tP T XE r)) (ls:Ls T X XE)(b:X.K=T.K:=by rfl)(o:Gl X x:=by rfl)(c:(x == ("__debug__":Str))=false:=by decide) (m:Í (e :: a) X.env=(false,Ē e X.env) :: Í a X.env:=by rfl) (d:(Ĝ pos (Í a X.env)).any (·.1)=false:=by rfl) :
  PE X (.Call (.Name x p) (e :: a) [] pos) (tE T XE (ę n B r)):=by
 obtain⟨f,t,u,G,j,s,q⟩:=h.ex;obtain⟨E,l,g⟩:=ls.ex;exact PE.imp (KZ (E:=E) (by rw[b];exact G) hr o s (by rw[b];exact q) (by rw[b];exact j) .nil l.passes i c m d) λ _ _ _ h=>Fu g h
def NQ (h:fL X.prog X.w T X.mg X.base x 0 k B)(hr:cb k X.A)(ls:Ls T X XE)(a:X.K=T.K:=by rfl)(i:Gl X x:=by rfl)(b:(x == ("__debug__":Str))=false:=by decide) :
  PE X (.Call (.Name x p) [] [] pos) (tE T XE (ę 0 B Ý)):=by
 obtain⟨f,q,t,G,g,m,j⟩:=h.ex;obtain⟨E,l,e⟩:=ls.ex;exact PE.imp (Hf (E:=E) (by rw[a];exact G) hr i m (by rw[a];exact j) (by rw[a];exact g) .nil l.passes b) λ u H Q h=>by
  obtain⟨c,d,s,o,r,n⟩:=h;exact⟨rfl,c,s,[],o,.nil,Out.xe (show Out T XE (rV T) c H (B [] s) Q from n) e⟩
def AD (c:Nat)(r:fu):Ms:=λ a s=>(r a s).bz λ d b=>if d.length<=1000 then .ex ⟨c,[]⟩ b else .bad
def GS (x:iI T.K (T.cl c) nm bm none) (y:ī T.K (.ref (T.cl c))=true) (z:X.mg m=À (.ref (T.cl c))) (ls:Ls T X XE)(u:PA X (a :: as) (tP T XE r)) (n:X.K=T.K:=by rfl)(v:X.calm=true:=by rfl)(w:Gl X m:=by rfl)
  (h:(m == ("__debug__":Str))=false:=by decide) (i:Í (a :: as) X.env=(false,Ē a X.env) :: Í as X.env:=by rfl) (j:(Ĝ f (Í as X.env)).any (·.1)=false:=by rfl) :
  PS X (.Raise (À (.Call (.Name m I) (a :: as) [] f)) none pos) (tS T XE (AD c r)):=by
 obtain⟨E,l,t⟩:=ls.ex;refine PS.imp (Hy (E:=E) (by rw[n];exact x) (by rw[n];exact y) w z v l u h i j) λ D N H G=>lH G λ M p s F i C=>dt F i C λ o J g A xs _ L k q d b=>?_;have d:ĩ T g A o xs:=d;by_cases hl:o.length<=1000
 ·rw[Ï hl]at b;refine⟨by rw[<-d.length,ą];lia,λ e B=>t _ _ _ _ (b g A .refl k) e B rfl⟩
 ·rw[Ô hl]at b;exact b.elim
def Mf (i:Nat):RS->RS
 | .nx e s=>.nx (e.set i none) s
 | .bk e s=>.bk (e.set i none) s
 | .ct e s=>.ct (e.set i none) s
 | .rt v s=>.rt v s
 | _=>.bad
def sx (n i:Nat)(sub:Nat->Bool)(b h:Ms):Ms:=λ a s=>match b a s with
 | .ex c d=>if sub c.cls=true then Mf i (h ((ã n none).set i (À (.ref d.length))) (d++[.exc c.cls])) else .bad
 | r=>r
def ER.unset (h:ER T ρ H env b)(i:Nat):ER T ρ H (env.set i none) (b.set i none):=by
 refine⟨by simp[h.len],λ j w e=>?_⟩;by_cases a:i=j
 ·subst a;rw[List.getElem?_set]at e;simp at e
 ·rw[í a]at e ⊢;exact h.get j w e
def CY (H:Hp)(e:Addr)(a b:HO):upd (upd H e a) e b=upd H e b:=by
 funext c;by_cases d:c=e
 ·subst d;rw[ù,ù]
 ·rw[ä d,ä d,ä d]
def Oi 
  (hN:X.N.Nodup) (xc:iI T.K CC nm bm E) (hm:X.mg Z=À (.ref CC)) (C:∀ c,sub c=true->∃ nm bm E,iI T.K (T.cl c) nm bm E/\(Ñ (T.cl c) :: bm).contains (.ref CC)=true)
  (hb:∀ xe pn B,Ls T (X.nJ xe pn) B->l5 (X.nJ xe pn) body (tS T B b)) (hs:∀ e,l5 (X.nI e) (w :: p) (tS T ES h)) (hK:X.K=T.K:=by rfl) (hg:Gl X Z:=by rfl)
  (hi:X.N[i]? = À n:=by rfl) (hx:X.env.scope.names.lookup n=À .local:=by rfl) (hn:X.N.length=N:=by rfl) (U:X.stack=X.env :: X.outer:=by rfl) (y:X.env.frame=À X.env.locals:=by rfl) (Q:(Z == ("__debug__":Str))=false:=by decide) :
  PS X (.Try body [.ExceptHandler (À (.Name Z np)) (À n) (w :: p) Y8] [] [] pos) (tS T XE (sx N i sub b h)):=by
 refine PS.imp (Hz (tb:=λ J=>tS T (ny T J) b) hN (by rw[hK];exact xc) hm hg (λ xe pn J l=>hb xe pn _ ⟨⟨J,l,λ _ _ _ _ z=>z⟩⟩) hs hi hx U y Q) λ D σ H zz=>?_;obtain⟨ρ,x,s,sr,er,a⟩:=zz;refine⟨ρ,x,s,sr,er,?_⟩;unfold sx at a;cases r:b x s with
 | nx e o=>simp only[r]at a;exact a
 | rt v o=>simp only[r]at a;exact a
 | bk e o=>simp only[r]at a;exact a
 | ct e o=>simp only[r]at a;exact a
 | bad=>simp only[r]at a;exact a
 | ex c o=>
  simp only[r]at a;intro q L u f e m hfs;by_cases P:sub c.cls=true
  ·rw[Ï P]at a;refine⟨e,T.cl c.cls,none,rfl,rfl,ù ..,by rw[hK];exact C _ P,λ Uu hl=>?_⟩;rw[CY];have u2:Up ρ H (q++[e]) (upd L e (Tj (T.cl c.cls) e none)):=(u.trans (f.du m)).add (u.live e m);have Y:SR T (q++[e]) (o++[.exc c.cls]) (upd L e (Tj (T.cl c.cls) e none)):=(f.new m).add (f.out m) (ù ..);have O:ER T (q++[e]) (upd L e (Tj (T.cl c.cls) e none)) ((ã N none).set i (À (.ref o.length))) (Uu.set i (À (.ref e))):=by
    refine ER.set ⟨by rw[C4,<-hn];exact hl.symm,λ j v M=>?_⟩ (oF ?_)
    ·rw[lU]at M;split at M<;>cases M
    ·rw[á (by rw[f.len];lia),f.len];simp
   refine⟨_,_,_,Y,O,?_⟩;have a:=eR.up u2 a;cases t:h ((ã N none).set i (À (.ref o.length))) (o++[.exc c.cls]) with
   | nx e1 I=>rw[t]at a;exact λ k A G F g d=>a k A _ F g (d.unset i)
   | bk e1 I=>rw[t]at a;exact λ k A G F g d=>a k A _ F g (d.unset i)
   | ct e1 I=>rw[t]at a;exact λ k A G F g d=>a k A _ F g (d.unset i)
   | rt v I=>rw[t]at a;exact a
   | ex c2 I=>rw[t]at a;exact a.elim
   | bad=>rw[t]at a;exact a.elim
  ·rw[Ô P]at a;exact a.elim
end
end Mm
namespace L2
open PySem PySem.Spec PySem.W PyProof.Rows
def SU (K:É):Á V->Hp->VK->Prop:=λ xs H Q=>∃ (e C c:Addr) (a:Á Addr) (b:Bool),xs=[.ref e,.ref c]/\T5 H e C/\Jy K C/\H c=À (.tup (a.map V.ref))/\kitAny K (.ref C) (a.map Ñ)=À b/\Q (.bl b) H
theorem wJ:∀ {a:Á Addr}{us:Á Value},Vals (a.map V.ref) us->us=a.map Ñ
 | [],_,r=>by cases r;rfl
 | c :: a,_,r=>by
  cases r with
  | cons b d=>
   cases (show _=Ñ c from b);rw[wJ d];rfl
def Dy:bx X (.builtin "isinstance") (SU X.K):=by
 rintro c s F H xs us Q I rv ⟨e,C,y,A,b,rfl,f,g,d,h,q⟩;obtain⟨t,m,J⟩:=f.inst I;obtain⟨u,D,rfl,v,w⟩:=vals2 rv;cases (show _=Ñ e from v);cases (show _=Ñ y from w);obtain⟨z,E,x,r,i,j,n,k⟩:=I.ś _ _ d;obtain⟨l,o,a,p⟩:=r;cases (show l=_ from j);cases (show a=_ from k);cases wJ x;exact PySem.W.kia_tup (zG g) I.ll ⟨t,m,J⟩ i h (λ z=>nomatch z) λ B=>⟨.bl b,H,I.tok _,rfl,q⟩
def tK (vs:Á V):TA:=λ _ H Q=>Q vs H
section
variable {X:Cx}{e:Expr}{es:Á Expr}{v:V}{vs:Á V}
def CI:PA X [] (tK []):=λ pos a s b H Q I h=>eh pos a s b H Q I h
def Hc (b:PE X e (tC v)) (c:PA X es (tK vs)) (d:Í (e :: es) X.env=(false,Ē e X.env) :: Í es X.env:=by rfl):PA X (e :: es) (tK (v :: vs)):=λ pos a s f H Q I h=>aI b c d pos a s f H Q I h
end
end L2
namespace Mm
open PySem L2
section
variable {T:Tx}{XE:jg}{X:Cx}{pos:kK}
def U6 (v:V)(c:Value):Prop:=match v with|.ty n=>c=dz n|.ref a=>c=Ñ a|_=>False
def au (a:Nat->Ê Bool)(v:AV)(s:S):R AV:=match v with
 | .ref i=>match s[i]? with
  | some (.exc c)=>need (a c) λ b=>.ok (.bl b) s
  | _=>.bad
 | _=>.bad
def Co (m:SR T ρ s H)(n:VR T ρ H v x)(d:Out T XE (rV T) ρ H (au f v s) Q) :
  ∃ e c b,x=.ref e/\H e=À (Ur (T.cl c) e)/\f c=À b/\Out T XE (rV T) ρ H (.ok (.bl b) s) Q:=by
 unfold au at d;split at d
 ·rename_i i;obtain⟨a,h,rfl⟩:=n.fi;split at d
  ·rename_i c k;obtain⟨b,j,d⟩:=d.î;obtain⟨o,g,l⟩:=m.obj _ _ k;rw[h]at g;cases g;exact⟨a,c,b,rfl,l,j,d⟩
  ·exact d.elim
 ·exact d.elim
def GD (F:PE X cl (tC v)) (l:U6 v c)(d:∀ C b,h C=À b->Jy T.K (T.cl C)/\nq T.K (.ref (T.cl C)) c=À b) (B:X.mg "isinstance"=none)(z:PE X e (tE T XE m)) (o:X.K=T.K:=by rfl)(A:Gl X "isinstance":=by rfl)
  (g:Í [e,cl] X.env=(false,Ē e X.env) :: Í [cl] X.env:=by rfl) (i:Í [cl] X.env=(false,Ē cl X.env) :: Í [] X.env:=by rfl) (k:(Ĝ pos (Í [cl] X.env)).any (·.1)=false:=by rfl) :
  PE X (.Call (.Name "isinstance" p) [e,cl] [] pos) (tE T XE (aH (au h) m)):=
 PE.imp (cM Ft A B Ro.boot_isinstance (aI z (aI F eh i) g) (by decide) (by decide) g k) λ U H Q J=>Ņ J λ P q s E g D=>
  step E g D λ w N L M x _ O f r n j=>by
   obtain⟨a,C,b,rfl,t,u,y⟩:=Co f n j;obtain⟨G,I⟩:=d C b u;exact⟨a,T.cl C,v,c,b,rfl,l,.inl t,by rw[o];exact G,by rw[o];exact I,y.Ľ f cO⟩
def Kk {g:Á Addr}(F:PA X cls (tK (g.map V.ref))) (hl:g.length<=1000)(d:∀ C b,i C=À b->Jy T.K (T.cl C)/\PySem.W.kitAny T.K (.ref (T.cl C)) (g.map Ñ)=À b) (B:X.mg "isinstance"=none)(z:PE X e (tE T XE m)) (r:X.K=T.K:=by rfl)(A:Gl X "isinstance":=by rfl)
  (h:Í [e,.Tuple cls x1 f] X.env=(false,Ē e X.env) :: Í [.Tuple cls x1 f] X.env:=by rfl) (j:Í [.Tuple cls x1 f] X.env=(false,Ē (.Tuple cls x1 f) X.env) :: Í [] X.env:=by rfl) (n:(Ĝ pos (Í [.Tuple cls x1 f] X.env)).any (·.1)=false:=by rfl) :
  PE X (.Call (.Name "isinstance" p) [e,.Tuple cls x1 f] [] pos) (tE T XE (aH (au i) m)):=
 PE.imp (cM Dy A B Ro.boot_isinstance (aI z (aI (Br F) eh j) h) (by decide) (by decide) h n) λ Y H Q L=>Ņ L λ U t s E h D=>
  step E h D λ w O M N x _ P c u o l=>by
   obtain⟨a,C,b,rfl,q,v,y⟩:=Co c o l;obtain⟨G,I⟩:=d C b v;refine⟨by rw[Î,ą];lia,λ J k=>⟨a,T.cl C,J,g,b,rfl,.inl ?_,by rw[r];exact G,ù ..,by rw[r];exact I,?_⟩⟩
   ·rw[ä (Ń q k)];exact q
   ·exact(Out.up (c.du k) y).Ľ (c.new k) cO
end
open PySem.W
def Ws:Á Str:=["RoyalError","BadFraction","Taken","NoName","TooMuch","NoRate","NoneLeft","Endless","BadRow"]
def ja (i:Nat):Str:=Ws.getD i ""
def Iy (T:Tx)(i:Nat):Á Value:=if i=0 then sJ else .ref (T.cl 0) :: sJ
structure Xs (T:Tx)(mg:Str->Ê Value):Prop where
 c:∀ i,i < 9->∃ AB,iI T.K (T.cl i) (ja i) (Iy T i) AB/\(i < 7->AB=none)
 is:∀ i,i < 9->Jy T.K (T.cl i)
 kp:∀ i,i < 9->ī T.K (.ref (T.cl i))=true
 gl:∀ i,i < 9->mg (ja i)=À (.ref (T.cl i))
def Iz:∀ i,i < 9->∀ j,j < 9->ja i=ja j->i=j:=by decide +kernel
def Jx (x:iI K C n b i)(y:iI K C g h k):n=g:=by
 obtain⟨j,d,_,_,e⟩:=x.cls;obtain⟨c,a,_,_,f⟩:=y.cls;rw[d]at a;cases a;exact e.symm.trans f
section
variable {T:Tx}{XE:jg}{X:Cx}{pos:kK}{mg:Str->Ê Value}
def Xs.inj (x:Xs T mg)(d:i < 9)(f:j < 9)(e:T.cl i=T.cl j):i=j:=by
 obtain⟨_,a,_⟩:=x.c i d;obtain⟨_,b,_⟩:=x.c j f;rw[e]at a;exact Iz i d j f (Jx a b)
def ë (i c:Nat):Bool:=c == i || i == 0
def Xs.has (x:Xs T mg){c i:Nat}(n:c < 9)(k:i < 9):(Ñ (T.cl c) :: Iy T c).contains (.ref (T.cl i))=ë i c:=by
 have l:sJ.contains (.ref (T.cl i))=false:=by simp[ņ]
 have f:∀ a b:Addr,(Ñ a == Ñ b)=decide (a=b):=λ a b=>by
  by_cases h:a=b
  ·subst h;simp
  ·simp[h]
 unfold ë Iy;rw[ņ,f];by_cases h:c=i
 ·subst h;simp
 ·have j:T.cl i≠T.cl c:=λ e=>h (x.inj n k e.symm);by_cases g:c=0
  ·subst g;have:¬ i=0:=λ e=>h e.symm;simp[j,l,h,this]
  ·rw[Ô g,ņ,f,l];by_cases d:i=0
   ·subst d;simp
   ·have m:T.cl i≠T.cl 0:=λ e=>d (x.inj k (by decide) e);simp[j,m,h,d]
def Xs.Vi (x:Xs T mg)(c:Nat):(Ñ (T.cl c) :: Iy T c).contains (.type "ValueError")=true:=by
 have b:sJ.contains (.type "ValueError")=true:=by decide +kernel
 unfold Iy;by_cases a:c=0
 ·rw[Ï a,ņ,b,dQ]
 ·rw[Ô a,ņ,ņ,b,dQ,dQ]
theorem Xs.Gg (x:Xs T mg){c i:Nat}(d:c < 9)(e:i < 9):Jt T.K (.ref (T.cl c)) (.ref (T.cl i))=À (ë i c):=by
 obtain⟨_,a,_⟩:=x.c c d;obtain⟨_,b,_⟩:=x.c i e;rw[a.Gg _ (.inl ⟨_,_,_,_,rfl,b⟩),x.has d e]
def Xs.Vu (x:Xs T mg){c:Nat}(b:c < 9):Jt T.K (.ref (T.cl c)) (.type "ValueError")=À true:=by
 obtain⟨_,a,_⟩:=x.c c b;rw[a.Gg _ (.inr ⟨_,rfl,by decide +kernel⟩),x.Vi]
theorem Xs.RT (x:Xs T mg){c:Nat}(b:c < 9):∀ {a:Á Nat},(∀ i∈a,i < 9)->kitAny T.K (.ref (T.cl c)) ((a.map T.cl).map Ñ)=À (a.any λ i=>ë i c)
 | [],_=>rfl
 | i :: a,h=>by
  show(match Jt T.K (.ref (T.cl c)) (.ref (T.cl i)) with
   | some true=>À true
   | some false=>kitAny T.K (.ref (T.cl c)) ((a.map T.cl).map Ñ)
   | none=>none)=_
  rw[x.Gg b (h i (.head _)),ř];cases ë i c with
  | true=>rfl
  | false=>rw[pV];exact Xs.RT x b λ j d=>h j (.tail _ d)
def l6 (i c:Nat):Ê Bool:=if c < 9 then À (ë i c) else none
def Dq (c:Nat):Ê Bool:=if c < 9 then À true else none
def zb (a:Á Nat)(c:Nat):Ê Bool:=if c < 9 then À (a.any λ i=>ë i c) else none
def Sm (x:Xs T X.mg)(k:c < 7)(ls:Ls T X XE)(j:PA X (a :: as) (tP T XE r)) (i:X.K=T.K:=by rfl)(d:X.calm=true:=by rfl)(m:Gl X (ja c):=by rfl)
  (e:(ja c == ("__debug__":Str))=false:=by decide +kernel) (l:Í (a :: as) X.env=(false,Ē a X.env) :: Í as X.env:=by rfl) (f:(Ĝ b (Í as X.env)).any (·.1)=false:=by rfl) :
  PS X (.Raise (À (.Call (.Name (ja c) o) (a :: as) [] b)) none pos) (tS T XE (AD c r)):=by
 obtain⟨n,g,h⟩:=x.c c (by lia);cases h k;exact GS g (x.kp c (by lia)) (x.gl c (by lia)) ls j i d m e l f
def Sn {body a:Á Stmt}{d:Stmt}{n:Str}{i f N:Nat}{b h:Ms}(x:Xs T X.mg)(g:f < 9)(t:X.N.Nodup)
  (u:∀ xe pn A,Ls T (X.nJ xe pn) A->l5 (X.nJ xe pn) body (tS T A b)) (z:∀ e,l5 (X.nI e) (d :: a) (tS T ES h)) (s:X.K=T.K:=by rfl) (v:Gl X (ja f):=by rfl)
  (w:X.N[i]? = À n:=by rfl) (B:X.env.scope.names.lookup n=À .local:=by rfl) (y:X.N.length=N:=by rfl) (m:X.stack=X.env :: X.outer:=by rfl) (j:X.env.frame=À X.env.locals:=by rfl) (l:(ja f == ("__debug__":Str))=false:=by decide +kernel) :
  PS X (.Try body [.ExceptHandler (À (.Name (ja f) D)) (À n) (d :: a) o] [] [] pos) (tS T XE (sx N i (λ c=>decide (c < 9) && ë f c) b h)):=by
 obtain⟨C,q,_⟩:=x.c f g;refine Oi t q (x.gl f g) (λ c k=>?_) u z s v w B y m j l;rw[ĝ,decide_eq_true_iff]at k;obtain⟨p,r,_⟩:=x.c c k.1;exact⟨_,_,_,r,(x.has k.1 g).trans k.2⟩
def NY {i:Nat}{m:Ev}(x:Xs T X.mg)(l:i < 9)(s:X.mg "isinstance"=none)(o:PE X e (tE T XE m)) (n:X.K=T.K:=by rfl)(r:Gl X "isinstance":=by rfl)(g:Gl X (ja i):=by rfl) (d:(ja i == ("__debug__":Str))=false:=by decide +kernel)
  (q:Í [e,.Name (ja i) a] X.env=(false,Ē e X.env) :: Í [.Name (ja i) a] X.env:=by rfl) (f:Í [.Name (ja i) a] X.env=(false,Ē (.Name (ja i) a) X.env) :: Í [] X.env:=by rfl) (j:(Ĝ pos (Í [.Name (ja i) a] X.env)).any (·.1)=false:=by rfl) :
  PE X (.Call (.Name "isinstance" p) [e,.Name (ja i) a] [] pos) (tE T XE (aH (au (l6 i)) m)):=
 GD (c:=.ref (T.cl i)) (ya (v:=.ref (T.cl i)) g (x.gl i l) rfl d) rfl (λ C b h=>by
  unfold l6 at h;split at h
  ·rename_i k;cases h;exact⟨x.is C k,x.Gg k l⟩
  ·cases h) s o n r q f j
def r6:Ĭ "ValueError"=À (.type "ValueError"):=by decide +kernel
def NZ {m:Ev}(x:Xs T X.mg)(q:X.mg "isinstance"=none)(g:X.mg "ValueError"=none)(l:PE X e (tE T XE m)) (k:X.K=T.K:=by rfl)(o:Gl X "isinstance":=by rfl)(f:Gl X "ValueError":=by rfl)
  (n:Í [e,.Name "ValueError" a] X.env=(false,Ē e X.env) :: Í [.Name "ValueError" a] X.env:=by rfl) (d:Í [.Name "ValueError" a] X.env=(false,Ē (.Name "ValueError" a) X.env) :: Í [] X.env:=by rfl) (i:(Ĝ pos (Í [.Name "ValueError" a] X.env)).any (·.1)=false:=by rfl) :
  PE X (.Call (.Name "isinstance" p) [e,.Name "ValueError" a] [] pos) (tE T XE (aH (au Dq) m)):=
 GD (c:=.type "ValueError") (CK (v:=.ty "ValueError") f g r6 rfl) rfl (λ C b h=>by
  unfold Dq at h;split at h
  ·rename_i j;cases h;exact⟨x.is C j,x.Vu j⟩
  ·cases h) q l k o n d i
def CH (x:Xs T X.mg)(d:i < 9)(h:PA X a (tK ((f.map T.cl).map V.ref))) (c:Gl X (ja i):=by rfl) (b:(ja i == ("__debug__":Str))=false:=by decide +kernel) (e:Í (.Name (ja i) p :: a) X.env=(false,Ē (.Name (ja i) p) X.env) :: Í a X.env:=by rfl) :
  PA X (.Name (ja i) p :: a) (tK (((i :: f).map T.cl).map V.ref)):=Hc (ya (v:=.ref (T.cl i)) c (x.gl i d) rfl b) h e
def Kj {c:Á Nat}{cls:Á Expr}{x1:Nat}{m:Ev}(x:Xs T X.mg)(q:c.all (· < 9)=true) (hl:c.length<=1000)(r:X.mg "isinstance"=none)(s:PA X cls (tK ((c.map T.cl).map V.ref))) (l:PE X e (tE T XE m)) (k:X.K=T.K:=by rfl)(o:Gl X "isinstance":=by rfl)
  (n:Í [e,.Tuple cls x1 a] X.env=(false,Ē e X.env) :: Í [.Tuple cls x1 a] X.env:=by rfl) (d:Í [.Tuple cls x1 a] X.env=(false,Ē (.Tuple cls x1 a) X.env) :: Í [] X.env:=by rfl) (g:(Ĝ pos (Í [.Tuple cls x1 a] X.env)).any (·.1)=false:=by rfl) :
  PE X (.Call (.Name "isinstance" p) [e,.Tuple cls x1 a] [] pos) (tE T XE (aH (au (zb c)) m)):=
 Kk s (by rw[Î];exact hl) (λ C b h=>by
  unfold zb at h;split at h
  ·rename_i j;cases h;exact⟨x.is C j,x.RT j λ i f=>Ħ (ñ.mp q i f)⟩
  ·cases h) r l k o n d g
end
end Mm
namespace Ro
open PySem L2 Mm
section
variable {P:Ĉ}{w:Ĩ}{T:Tx}{mg:Str->Ê Value}{base:Heap}
def a5 (N:Á Str)(D:Df T mg x st)(S:il N (N.take n) (đ st))
  (e:∀ (kV b i:Value) (c:Ê Addr) (a ct:Value) (us:Á Value),us.length=(N.take n).length->jE (ń x x (bW st) (ao st) (đ st) .none kV b i c a ct) ⟨us,[]⟩=pure ((N.take n).zip us)) (g:(N.take n).length=n)
  (h:∀ (f:Addr) (a:Value) (A:į) (outer:Á yJ) (s:Ò) (H:Hp) (E:XK),cb k (A.deeper (ak x (đ st) s.heap.objs.size f a))->N.Nodup->Ls T (lR (qd P w) P w T.K mg base N x (đ st) f a A outer s H E) (ny T E)->l5 (lR (qd P w) P w T.K mg base N x (đ st) f a A outer s H E) (ao st) (tS T (ny T E) body)) :
  fL P w T mg base x n (k+1) (dN N.length body):=by
 obtain⟨f,d,F,m⟩:=D.ex;have:=xA F S λ a A outer s H E hr=>h f a A outer s H E hr S.nd zL;rw[g]at this;exact⟨f,d,_,this,F.binds e,m,F.kp⟩
def DI (hl:ps.length=n):gC P w T.K mg base (qd P w) k f e ps (EU T n λ _ _=>.bad):=
 ⟨λ d H Q E h=>h.1.trans hl.symm,λ A b s H c us d Q E _ _ _ _ h=>by obtain⟨_,g,st,a,_,_,z⟩:=h;exact z.elim⟩
def JQ (ps:Á Str)(D:Df T mg x st)(hl:ps.length=n)
  (e:∀ (kV b g:Value) (c:Ê Addr) (a ct:Value) (us:Á Value),us.length=ps.length->jE (ń x x (bW st) (ao st) (đ st) .none kV b g c a ct) ⟨us,[]⟩=pure (ps.zip us)):fL P w T mg base x n k λ _ _=>.bad:=by
 obtain⟨f,d,F,m⟩:=D.ex;exact⟨f,d,ps,DI hl,F.binds e,m,F.kp⟩
end
end Ro
namespace Mm
open PySem L2
def wA (f:Str)(v:AV):Á (Str × AV)->Á (Str × AV)
 | []=>[(f,v)]
 | (g,x) :: r=>if g=f then (g,v) :: r else (g,x) :: wA f v r
section
variable {T:Tx}{XE:jg}{X:Cx}{pos:kK}
def ra (T:Tx)(ρ:Á Addr)(H:Hp)(fs:Á (Str × AV)) (ks:Á (Str × V)):Prop:=fs.map (·.1)=ks.map (·.1)/\ĩ T ρ H (fs.map (·.2)) (ks.map (·.2))
theorem ra.nil:ra T ρ H [] []:=⟨rfl,.nil⟩
def ra.nil_inv (h:ra T ρ H [] ks):ks=[]:=by
 have:=h.1;cases ks with
 | nil=>rfl
 | cons a r=>simp at this
theorem ra.cons_inv (h:ra T ρ H ((g,v) :: fs) ks):∃ x r,ks=(g,x) :: r/\VR T ρ H v x/\ra T ρ H fs r:=by
 obtain⟨b,c⟩:=h;cases ks with
 | nil=>simp at b
 | cons a r=>
  obtain⟨i,x⟩:=a;simp only[Õ,av]at b;obtain⟨y,j,e,d,f⟩:=ĩ.cons_inv (show ĩ T ρ H (v :: fs.map (·.2)) (x :: r.map (·.2)) from c);cases e;obtain⟨rfl,b⟩:=b;exact⟨x,r,rfl,d,b,f⟩
theorem ra.cons {ρ:Á Addr}{H:Hp}{g:Str}{v:AV}{x:V}{fs:Á (Str × AV)}{ks:Á (Str × V)}(h:VR T ρ H v x)(k:ra T ρ H fs ks):ra T ρ H ((g,v) :: fs) ((g,x) :: ks):=
 ⟨by simp[k.1],.cons h k.2⟩
theorem ra.get:∀ {fs:Á (Str × AV)}{ks:Á (Str × V)},ra T ρ H fs ks->fs.lookup f=À v->∃ x,ks.lookup f=À x/\VR T ρ H v x
 | [],_,_,e=>by cases e
 | (g,w) :: fs,ks,h,e=>by
  obtain⟨x,r,rfl,a,b⟩:=h.cons_inv;rw[Ğ]at e ⊢;by_cases q:(f == g)=true
  ·rw[q]at e ⊢;cases e;exact⟨x,rfl,a⟩
  ·rw[Ji.mpr q]at e ⊢;exact ra.get b e
theorem ra.Ę:∀ {fs:Á (Str × AV)}{ks:Á (Str × V)},ra T ρ H fs ks->fs.lookup f=none->ks.lookup f=none
 | [],_,h,_=>by rw[h.nil_inv];rfl
 | (g,w) :: fs,ks,h,e=>by
  obtain⟨x,r,rfl,b,a⟩:=h.cons_inv;rw[Ğ]at e ⊢;by_cases q:(f == g)=true
  ·rw[q]at e;cases e
  ·rw[Ji.mpr q]at e ⊢;exact ra.Ę a e
theorem ra.put (k:VR T ρ H v x):∀ {fs:Á (Str × AV)}{ks:Á (Str × V)},ra T ρ H fs ks->ra T ρ H (wA f v fs) (lz f x ks)
 | [],_,h=>by rw[h.nil_inv];exact .cons k .nil
 | (g,w) :: fs,ks,h=>by
  obtain⟨y,r,rfl,b,a⟩:=h.cons_inv;unfold wA lz;by_cases q:g=f
  ·rw[Ï q,Ï q];exact .cons k a
  ·rw[Ô q,Ô q];exact .cons b (ra.put k a)
theorem ra.gr (u:Gr ρ H a H')(h:ra T ρ H fs ks):ra T a H' fs ks:=⟨h.1,h.2.gr u⟩
theorem ra.length (h:ra T ρ H fs ks):fs.length=ks.length:=by
 have:=Ķ bE h.1;simpa using this
def SR.F_ (m:SR T ρ s H)(e:s[i]? = À (.ins c fs)) (h:VR T ρ H (.ref i) x):∃ (a d:Addr) (ks:Á (Str × V)),x=.ref a/\ρ[i]? = À a/\H a=À (.ins (T.cl c) d ks)/\ra T ρ H fs ks:=by
 obtain⟨a,f,rfl⟩:=h.fi;obtain⟨b,g,d,ks,j,k,l⟩:=m.obj i _ e;rw[f]at g;cases g;exact⟨a,d,ks,rfl,f,j,k,l⟩
def qt (c:Nat)(v:AV)(s:S):Ê (Nat × Á (Str × AV)):=match v with
 | .ref i=>match s[i]? with
  | some (.ins a b)=>if a=c then À (i,b) else none
  | _=>none
 | _=>none
def tY (h:qt c v s=À (i,fs)):v=.ref i/\s[i]? = À (.ins c fs):=by
 unfold qt at h;split at h
 ·rename_i j;split at h
  ·rename_i b a e;split at h
   ·rename_i q;cases h;exact⟨rfl,by rw[e,q]⟩
   ·cases h
  ·cases h
 ·cases h
def Ť (c:Nat)(f:Str)(v:AV)(s:S):R AV:=need (qt c v s) λ p=>need (p.2.lookup f) λ w=>.ok w s
def NU (cl:y9 T.K (T.cl c)) (na:jG T.K (T.cl c) f) (d:PE X e (tE T XE m)) (n:X.K=T.K:=by rfl)(D:aF e f X.env (Ē e X.env)=Ē e X.env:=by rfl):PE X (.Attribute e f pos) (tE T XE (aH (Ť c f) m)):=
 PE.imp (OJ d D) λ U H Q I=>Ņ I λ P z s F d E=>step F d E λ v N J L x _ O b A l g=>by
  obtain⟨p,q,h⟩:=g.î;obtain⟨w,r,j⟩:=h.î;obtain⟨i,M⟩:=p;obtain⟨rfl,t⟩:=tY q;obtain⟨a,o,G,rfl,_,B,C⟩:=b.F_ t l;obtain⟨y,u,k⟩:=C.get r;exact⟨a,T.cl c,o,G,y,rfl,B,n ▸ cl,n ▸ na,u,j.Ľ b k⟩
def i8 (c:Nat)(f:Str)(d mv:Ev):Ms:=λ a s=>(mv a s).bz λ y e=>(d a e).bz λ x b=>match qt c x b with
 | some p=>if p.2.length < 1000 then .nx a (b.set p.1 (.ins c (wA f y p.2))) else .bad
 | none=>.bad
def Oe {G mv:Ev}(cl:y9 T.K (T.cl c)) (na:jG T.K (T.cl c) f) (P:PE X o (tE T XE G)) (U:PE X b (tE T XE mv)) (E:X.K=T.K:=by rfl)(Q:dJ b (À (.Attribute o f m)) pos.line X.env=pure false:=by rfl) :
  PS X (.Assign [.Attribute o f m] b pos) (tS T XE (i8 c f G mv)):=
 PS.imp (OY P U Q) λ D σ H ⟨ρ,L,s,Z,M,h⟩=>dt Z M h λ y s1 ML H1 I _ u1 u r l O=>dt u r O λ x Y d A x' _ u2 j t v g=>by
  have l:VR T d A y I:=VR.up u2 l;cases e:qt c x Y with
  | none=>simp only[e]at g;exact g.elim
  | some p=>
   simp only[e]at g;obtain⟨i,N⟩:=p;obtain⟨rfl,J⟩:=tY e;obtain⟨a,q,F,rfl,w,B,C⟩:=j.F_ J v;by_cases hl:N.length < 1000
   ·rw[Ï hl]at g;have n:Up d A d (upd A a (.ins (T.cl c) q (lz f I F))):=j.rH w B (λ _ z=>nomatch z) (λ _ _ z=>nomatch z);refine⟨a,T.cl c,q,F,rfl,B,E ▸ cl,E ▸ na,by rw[<-C.length];exact hl,g d _ σ n (j.set w n ?_) (t.up n)⟩;have k:=(C.put (f:=f) l).gr n.toGr;exact⟨q,_,ù ..,k.1,k.2⟩
   ·rw[Ô hl]at g;exact g.elim
def ō (c:Nat)(m:Str)(n:Nat)(F:Á AV->S->R AV)(e:Ev)(r:fu):Ev:=λ a s=>(e a s).bind λ x b=>need (qt c x b) λ p=>if p.2.lookup m=none then (r a b).bind λ d f=>if d.length=n then F (x :: d) f else .bad else .bad
structure jj (P:Ĉ)(w:Ĩ)(T:Tx)(mg:Str->Ê Value)(base:Heap)(c:Nat)(m:Str)(n k:Nat)(Fn:Á AV->S->R AV):Prop where
 ex:∃ f fd ps,gC P w T.K mg base (qd P w) k f fd ps (EU T (n+1) Fn)/\Binds T.K fd ps []/\Meth T.K (T.cl c) m f
def CB (k:∀ c ρ s H,XE c ρ s H->ny T E c ρ s H)(h:tE T XE (ō c m n F P r) σ H Q):HX (T.cl c) m (EU T (n+1) F) [] E (tE T XE P) (tP T XE r) σ H Q:=by
 obtain⟨ρ,D,s,N,L,M⟩:=h;refine step N L M λ x s1 w A x' _ u1 g l b e=>?_;obtain⟨p,z,f⟩:=e.î;obtain⟨o,q⟩:=f.Œ;clear e f;obtain⟨i,fs⟩:=p;obtain⟨rfl,C⟩:=tY z;have b:VR T w A (.ref i) x':=b;obtain⟨a,y,O,rfl,ea,I,J⟩:=g.F_ C b;refine⟨a,y,O,rfl,I,J.Ę o,?_⟩;refine step g l q λ Z U j B xs _ Y v G d t=>?_;obtain⟨hl,u⟩:=t.Œ;have d:ĩ T j B Z xs:=d;rw[cE];exact⟨by simp[<-d.length,hl],j,U,_,v,.cons (b.up Y) d,u.xe k⟩
def Km (cl:y9 T.K (T.cl c)) (h:jj X.prog X.w T X.mg X.base c m n k B)(hr:cb k X.A)(u:PE X o (tE T XE x)) (q:PA X (e :: b) (tP T XE r)) (ls:Ls T X XE)(d:X.K=T.K:=by rfl)
  (i:Í (e :: b) X.env=(false,Ē e X.env) :: Í b X.env:=by rfl) (g:(Ĝ pos (Í b X.env)).any (·.1)=false:=by rfl)
  (v:Ē (.Call (.Attribute o m a) (e :: b) [] pos) X.env=(do
   let j <-Ē o X.env
   jn a.atName
   let (f,first) <-cu [j] (nY j m pl)
   wV pos f first (Ĝ pos (Í (e :: b) X.env)) (fI pos (bj [] X.env))):=by rfl) :
  PE X (.Call (.Attribute o m a) (e :: b) [] pos) (tE T XE (ō c m n B x r)):=by
 obtain⟨f,y,z,G,s,t⟩:=h.ex;obtain⟨E,l,p⟩:=ls.ex;exact PE.imp (K5 (E:=E) (pl:=pl) u (d ▸ cl) (d ▸ t) (by rw[d];exact G) hr (by rw[d];exact s) .nil l.passes q i g v) λ _ _ _ h=>CB p h
def GH (cl:y9 T.K (T.cl c)) (h:jj X.prog X.w T X.mg X.base c m 0 k C)(hr:cb k X.A)(i:PE X o (tE T XE M)) (ls:Ls T X XE)(e:X.K=T.K:=by rfl)
  (I:Ē (.Call (.Attribute o m b) [] [] pos) X.env=(do
   let n <-Ē o X.env
   jn b.atName
   let (f,first) <-cu [n] (nY n m pl)
   wV pos f first (Ĝ pos (Í [] X.env)) (fI pos (bj [] X.env))):=by rfl) :
  PE X (.Call (.Attribute o m b) [] [] pos) (tE T XE (ō c m 0 C M Ý)):=by
 obtain⟨f,N,P,G,y,D⟩:=h.ex;obtain⟨E,l,v⟩:=ls.ex;refine PE.imp (Hm (E:=E) (pl:=pl) i (e ▸ cl) (e ▸ D) (by rw[e];exact G) hr (by rw[e];exact y) .nil l.passes I) λ Y H Q h=>?_;obtain⟨ρ,g,s,F,z,i⟩:=CB v h;refine⟨ρ,g,s,F,z,i.imp λ x B ⟨a,p,u,q,r,t,d,j,U,J,O,L⟩=>⟨a,p,u,q,r,t,?_⟩⟩;exact L d B [] .refl J (ĩ.nil (T:=T) (ρ:=d) (H:=B))
def oo (c:Nat)(F:Á AV->S->R AV):Ev:=λ _ s=>(F [.ref s.length] (s++[.ins c []])).bind λ v a=>match v with
 | .Ę=>.ok (.ref s.length) a
 | _=>.bad
structure Qr (P:Ĉ)(w:Ĩ)(T:Tx)(mg:Str->Ê Value)(base:Heap)(c:Nat)(nm:Str)(k:Nat)(Fn:Á AV->S->R AV):Prop where
 ex:∃ f fd ps,gC P w T.K mg base (qd P w) k f fd ps (EU T 1 Fn)/\Binds T.K fd ps []/\Mk T.K (T.cl c) f/\mg nm=À (.ref (T.cl c))
def GF (h:Qr X.prog X.w T X.mg X.base c x k C)(hr:cb (k+1) X.A) (ls:Ls T X XE)(o:X.K=T.K:=by rfl)(L:Gl X x:=by rfl)(q:(x == ("__debug__":Str))=false:=by decide):PE X (.Call (.Name x p) [] [] pos) (tE T XE (oo c C)):=by
 obtain⟨f,fd,ps,G,J,M,N⟩:=h.ex;obtain⟨E,l,I⟩:=ls.ex;refine PE.imp (Hl (E:=E) (o ▸ M) (by rw[o];exact G) hr L N (by rw[o];exact J) .nil l.passes q) λ σ H Q Z=>Ņ Z λ j F s m he b=>?_;intro a d D hd r;have i:upd H d (.own a) a=none:=by rw[ä (Ŋ r)];exact D
 have P:Up j H j (upd (upd H d (.own a)) a (.ins (T.cl c) d [])):=(m.du hd).trans ((m.new hd).du i);have U:Up j H (j++[a]) (upd (upd H d (.own a)) a (.ins (T.cl c) d [])):=P.add D;have y:SR T (j++[a]) (s++[.ins c []]) (upd (upd H d (.own a)) a (.ins (T.cl c) d [])):=((m.new hd).new i).add ((m.new hd).out i) ⟨d,[],ù ..,rfl,.nil⟩;have n:VR T (j++[a]) (upd (upd H d (.own a)) a (.ins (T.cl c) d [])) (.ref s.length) (.ref a):=oF (by rw[á (by rw[m.len];lia),m.len];simp);refine⟨rfl,j++[a],s++[.ins c []],[.ref s.length],y,.one n,?_⟩;have b:=Out.up U b;unfold oo at b;cases e:C [.ref s.length] (s++[.ins c []]) with
 | bad=>rw[e]at b;exact b.elim
 | ex c' O=>rw[e]at b;exact λ g B u t=>I _ _ _ _ (b g B u t)
 | ok v O=>
  rw[e]at b;intro g B Y u t z;rw[ó]at b;have z:VR T g B v Y:=z;cases v with
  | Ę=>exact⟨z.iy,b g B (.ref a) u t (n.up u)⟩
  | _=>exact b.elim
end
end Mm
namespace Ro
open PySem L2 Mm
structure eD (T:Tx)(c:Nat)(m qual:Str)(st:Stmt):Prop where
 ex:∃ f fd,E9 T.K m qual st f fd/\Meth T.K (T.cl c) m f
structure Qq (T:Tx)(mg:Str->Ê Value)(c:Nat)(nm qual:Str)(st:Stmt):Prop where
 ex:∃ f fd,E9 T.K "__init__" qual st f fd/\Mk T.K (T.cl c) f/\mg nm=À (.ref (T.cl c))
structure Bk (T:Tx)(c:Nat)(fs:Á Str):Prop where
 cl:y9 T.K (T.cl c)
 na:∀ f∈fs,jG T.K (T.cl c) f
section
variable {P:Ĉ}{w:Ĩ}{T:Tx}{mg:Str->Ê Value}{base:Heap}
def bO (N:Á Str)(D:eD T c m b st)(S:il N (N.take (n+1)) (đ st))
  (i:∀ (kV d l:Value) (e:Ê Addr) (a ct:Value) (us:Á Value),us.length=(N.take (n+1)).length->jE (ń m b (bW st) (ao st) (đ st) .none kV d l e a ct) ⟨us,[]⟩=pure ((N.take (n+1)).zip us)) (j:(N.take (n+1)).length=n+1)
  (h:∀ (f:Addr) (a:Value) (A:į) (outer:Á yJ) (s:Ò) (H:Hp) (E:XK),cb k (A.deeper (ak b (đ st) s.heap.objs.size f a))->N.Nodup->Ls T (lR (qd P w) P w T.K mg base N b (đ st) f a A outer s H E) (ny T E)->l5 (lR (qd P w) P w T.K mg base N b (đ st) f a A outer s H E) (ao st) (tS T (ny T E) body)) :
  jj P w T mg base c m n (k+1) (dN N.length body):=by
 obtain⟨f,g,F,M⟩:=D.ex;have:=xA F S λ a A outer s H E hr=>h f a A outer s H E hr S.nd zL;rw[j]at this;exact⟨f,g,_,this,F.binds i,M⟩
def Nj (N:Á Str)(D:Qq T mg c nm b st)(S:il N (N.take 1) (đ st))
  (i:∀ (kV d m:Value) (e:Ê Addr) (a ct:Value) (us:Á Value),us.length=(N.take 1).length->jE (ń "__init__" b (bW st) (ao st) (đ st) .none kV d m e a ct) ⟨us,[]⟩=pure ((N.take 1).zip us)) (l:(N.take 1).length=1)
  (h:∀ (f:Addr) (a:Value) (A:į) (outer:Á yJ) (s:Ò) (H:Hp) (E:XK),cb k (A.deeper (ak b (đ st) s.heap.objs.size f a))->N.Nodup->Ls T (lR (qd P w) P w T.K mg base N b (đ st) f a A outer s H E) (ny T E)->l5 (lR (qd P w) P w T.K mg base N b (đ st) f a A outer s H E) (ao st) (tS T (ny T E) body)) :
  Qr P w T mg base c nm (k+1) (dN N.length body):=by
 obtain⟨f,g,F,M,j⟩:=D.ex;have:=xA F S λ a A outer s H E hr=>h f a A outer s H E hr S.nd zL;rw[l]at this;exact⟨f,g,_,this,F.binds i,M,j⟩
end
end Ro
namespace Mm
open PySem L2
section
variable {T:Tx}{XE:jg}{X:Cx}{pos:kK}
def Al:Á AV->Ê (Á Str)
 | []=>À []
 | .str x :: r=>(Al r).map (x :: ·)
 | _=>none
theorem uV:∀ {l:Á AV}{a:Á Str},Al l=À a->l=a.map AV.str
 | [],_,h=>by cases h;rfl
 | .str x :: r,a,h=>by
  have h:(Al r).map (x :: ·)=À a:=h;cases e:Al r with
  | none=>rw[e]at h;cases h
  | some q=>rw[e]at h;cases h;rw[Õ,<-uV e]
 | .Ę :: _,_,h=>by cases h
 | .bl _ :: _,_,h=>by cases h
 | .int _ :: _,_,h=>by cases h
 | .tup _ :: _,_,h=>by cases h
 | .ref _ :: _,_,h=>by cases h
 | .sq _ :: _,_,h=>by cases h
def tV (m:Ev):fu:=λ a s=>(m a s).bind λ v b=>match v with
 | .ref i=>need (ô b i) λ l=>need (Al l) λ c=>if c.length < 64 then .ok ((Ĕ c).map .str) b else .bad
 | _=>.bad
def GP (B:X.mg "sorted"=none)(h:PE X e (tE T XE m)) (A:Gl X "sorted":=by rfl)(f:Í [e] X.env=(false,Ē e X.env) :: Í [] X.env:=by rfl) (o:(Ĝ pos (Í [] X.env)).any (·.1)=false:=by rfl) :
  PE X (.Call (.Name "sorted" p) [e] [] pos) (tL T XE (tV m)):=
 PE.imp (cM tq A B Ÿ (aI h eh f) (by decide) (by decide) f o) λ U H Q G=>Ņ G λ P w s q f C=>step q f C λ v M I J x _ N c y r b=>by
  cases v with
  | ref i=>
   obtain⟨l,t,g⟩:=b.î;obtain⟨E,u,j⟩:=g.î;obtain⟨hl,n⟩:=j.Œ;obtain⟨a,O,rfl,L,z,k⟩:=c.dP (ď t) r;rw[uV u]at k;cases k.uR;refine⟨a,E,rfl,z,hl,λ F d hd D q=>?_⟩;rw[oC D (iz q)];exact n.lst c hd (ĩ.map (λ _=>hR) _)
  | _=>exact b.elim
def Ox (a y:AV)(s:S):R AV:=match a with
 | .ref i=>need (jN s i) λ b=>need (fg y) λ k=>.ok ((ũ b k).getD .Ę) s
 | _=>.bad
def wt (d y:Ev):Ev:=λ c s=>(d c s).bind λ a e=>need (km "dict" a e) λ _=>(y c e).bind λ b f=>Ox a b f
def Kg (hu:X.A.units+1 < cLine)(B:PE X o (tE T XE m)) (z:PE X e (tE T XE n)) (q:M1 X o "get" j e l:=by exact⟨rfl,rfl,rfl,rfl⟩):PE X (.Call (.Attribute o "get" j) [e] [] l) (tE T XE (wt m n)):=
 PE.imp (Hg hu B z q) λ σ H Q zz=>Ņ zz λ ρ P s hs z B=>step hs z B λ d s1 ML H1 x _ u1 r u f g=>by
  obtain⟨_,L,g⟩:=g.î;obtain⟨a,rfl,hd⟩:=F' L r f;refine⟨a,rfl,hd,step r u g λ w s2 F J y _ u2 h U E p=>?_⟩;have f:VR T F J d (.ref a):=VR.up u2 f;cases d with
  | ref i=>
   obtain⟨D,M,C⟩:=p.î;obtain⟨k,N,c⟩:=C.î;obtain⟨b,ks,O,ea,Z,G,I⟩:=h.zj (js M) f;cases O;refine⟨iA ks k,by rw[gq N E];exact iH.k Z,?_⟩;cases t:ũ D k with
   | none=>rw[(dk k G I).2 t];rw[t]at c;exact c.Ľ h uW
   | some v=>obtain⟨x',Y,kx⟩:=(dk k G I).1 v t;rw[Y];rw[t]at c;exact c.Ľ h kx
  | _=>exact p.elim
def Ex (a:Ev):Src:=λ b s=>(a b s).bind λ v c=>need (vJ false v c) λ p=>.ok (v5 p.1,p.2) c
def Kt (G:X.K=T.K)(hm:X.mg "enumerate"=none)(Y:PE X e1 (tE T XE a)) (hg:Gl X "enumerate":=by rfl)
  (w:Í [e1] X.env=(false,Ē e1 X.env) :: Í [] X.env:=by rfl) (u:(Ĝ pos (Í [] X.env)).any (·.1)=false:=by rfl) :
  PI X (.Tuple es kk L) (.Call (.Name "enumerate" p) [e1] [] pos) (tW T XE (Ex a)):=
 PI.imp (K_ hg hm Y w u) λ σ H R zz=>Ņ zz λ ρ O s w Z ho=>step w Z ho λ v s1 B D x _ u1 d Q y o=>by
  obtain⟨r,e,t⟩:=o.î;obtain⟨xs,g⟩:=r;obtain⟨i,rfl,⟨f,x1⟩,w1⟩:=uK e d y;have x1:eS T.K D i f:=x1;refine⟨i,rfl,⟨f,by rw[G];exact x1⟩,t B D _ .refl d ⟨λ A s' C u' b U=>?_⟩⟩;obtain⟨h,c,J⟩:=w1 A s' C u' b U;have c:eS T.K C i h:=c;rw[G];have n:=J.length;refine⟨λ j z k=>?_,⟨h,c,?_⟩⟩
  ·have I:j < xs.length:=by
    have:=(Ç.mp k).1;simp only[v5,Î,m_,f6]at this;lia
   have l:z=.tup [.int (j:Int),xs[j]]:=by
    have q:(v5 xs)[j]? = À (.tup [.int (j:Int),xs[j]]):=by
     simp[v5,yN,I]
    rw[q]at k;exact(æ k).symm
   subst l;obtain⟨x3,E,v3⟩:=J.get (Å I);refine⟨⟨h,x3,c,E⟩,λ q M ⟨Tt,y1,P,m,N,hy⟩=>?_⟩;have F:=hy h c;rw[E]at F;cases F;subst P N;exact⟨b.du m,b.new m,i_ (fM.of ù) (ĩ.up (b.du m) (.cons cj (.one v3)))⟩
  ·rw[<-n];simp only[v5,Î,m_,f6];lia
def n_ (m:fu):fu:=λ a s=>(m a s).bind λ l c=>need (Al l) λ b=>if b.length < 64 then .ok ((Ĕ b).map .str) c else .bad
def GO (w:X.mg "sorted"=none)(h:PE X e (tL T XE m)) (v:Gl X "sorted":=by rfl)(b:Í [e] X.env=(false,Ē e X.env) :: Í [] X.env:=by rfl) (i:(Ĝ pos (Í [] X.env)).any (·.1)=false:=by rfl) :
  PE X (.Call (.Name "sorted" p) [e] [] pos) (tL T XE (n_ m)):=
 PE.imp (cM tq v w Ÿ (aI h eh b) (by decide) (by decide) b i) λ L H Q C=>Ņ C λ J r s j b y=>step j b y λ l F D E x _ G n t o c=>by
  obtain⟨A,q,f⟩:=c.î;obtain⟨hl,g⟩:=f.Œ;obtain⟨a,I,rfl,_,_,u,k⟩:=o;rw[uV q]at k;cases k.uR;refine⟨a,A,rfl,u,hl,λ B d hd z j=>?_⟩;rw[oC z (iz j)];exact g.lst n hd (ĩ.map (λ _=>hR) _)
end
end Mm
namespace L2
open PySem PySem.Spec PyProof.Rows
abbrev z7 (x:Str)(p:kK):Arguments:={ posonlyargs:=[],args:=[{ arg:=x,annotation:=none,pos:=p }],vararg:=none,kwonlyargs:=[],kw_defaults:=[],kwarg:=none,defaults:=[] }
abbrev Ds (x:Str)(p1 p2 p3:kK):Expr:=.Subscript (.Name x p1) (.Constant (.int 1) 0 p2) p3
abbrev Ad (x:Str):Scope:={ kind:=.function,names:=[(x,.local)],isGenerator:=false,isCoroutine:=false,more:=[] }
def Qt (h:Heap)(f:Addr)(q:Str)(a:Arguments)(body:Expr)(scope:Scope):Prop:=∃ d c b,h.get? f=À { cls:=.type "function",data:=.func (nr "<lambda>" q a body scope [] d c b) }/\h.CodeRec c q
section
variable {prog:Ĉ}{w:Ĩ}{A:į}{E:Value->Ò->Prop}{s:Ò}
def Gi {Q:Value->Ò->Prop}(C:Qt s.heap f q (z7 x I) (Ds x J L M) (Ad x)) (m:s.heap.NoLimit)(d:A.depth < recursionLimit)(F:(x == ("__debug__":Str))=false) (D:IG s.heap t its)(k:its[1]? = À v)
  (B:∀ u p g,jE (nr "<lambda>" q (z7 x I) (Ds x J L M) (Ad x) [] u p g) ⟨[.ref t],[]⟩=pure [(x,.ref t)])
  (y:∀ h' N,(∀ b o,s.heap.get? b=À o->h'.get? b=À o)->Q v { s with heap:=h',toks:=N }):Ú (à prog w) A (call (.ref f) [.ref t]) Q E s:=by
 obtain⟨u,p,g,e,l⟩:=C;refine vp (PySem.W.kla_callFunE d e rfl rfl rfl rfl l ?_);rw[B];refine Ë (wpAny_newFunctionEnv (by simp) (by simp) (λ c n h=>⟨m.fresh _ h,?_⟩) rfl);have a:∀ b o,s.heap.get? b=À o->c.get? b=À o:=λ b o e=>h.extBut b o (ê (Ó e)) (Ã _ e);obtain⟨o,G,H⟩:=D;have i:IG c t its:=⟨o,a _ _ G,H⟩
 have O:1 < its.size:=by
  rcases Nat.lt_or_ge 1 its.size with z|z
  ·exact z
  ·rw[fG z]at k;cases k
 refine PySem.W.kla_codeExpr (C_ (Dp (MT rfl ?_ n (v:=.ref t) ?_ ?_) F))
 ·simp[Env.kindOf,Ye]
 ·simp
 ·refine Qp ?_;exact o6 (x:=v) i.typeIs Qn.lookup
   (getItem_tuple (j:=1) (Q:=λ r s'=>r=v/\Q r s') i (by decide) (by decide) (by simp[yZ];lia) k ⟨rfl,y _ _ a⟩) rfl
end
open Mm
def BH {pos:kK}{i:Obj}(h:vR H q ps)(k:∀ b o u,H b=À (.hV o u)->H' b=À (.hV o u))
  (m:H' c=À (.hV i u)) (hd:i.data=.fields vs) (n:vs[1]? = À (.str q t)):vR H' q (ps++#[Ũ pos.line,Ũ pos.col,.ref c]):=by
 have e:(ps++#[Ũ pos.line,Ũ pos.col,.ref c]).toList=ps.toList++[Ũ pos.line,Ũ pos.col,.ref c]:=by simp
 refine⟨by rw[e];exact TriplesOk_snoc _ _ _ _ h.1,λ p f z=>?_⟩;rw[e]at z;have g:∀ l:Á Value,US l->yW p (l++[Ũ pos.line,Ũ pos.col,.ref c])=À f->yW p l=À f∨f=.ref c:=by
  intro l hl
  fun_induction US l with
  | case1=>
   intro z;have z:(if (((pos.line:Int) == p.line) && ((pos.col:Int) == p.col))=true then À (Ñ c) else none)=À f:=z;split at z
   ·cases z;exact .inr rfl
   ·cases z
  | case2 a b C d D r s=>
   intro z;simp only[dU,yW]at z ⊢;split at z
   ·rename_i q;rw[Ï q];exact .inl z
   ·rename_i q;rw[Ô q];exact s hl z
  | case3=>exact hl.elim
 rcases g _ h.1 z with z|rfl
 ·obtain⟨j,y,A,B,t1,v,w,x⟩:=h.2 p f z;exact⟨j,y,A,B,t1,v,k _ _ _ w,x⟩
 ·exact⟨c,i,u,vs,t,rfl,m,hd,n⟩
section
variable {X:Cx}{pos:kK}
structure E_ (H H':Hp)(P:Addr)(q:Str):Prop where
 keep:∀ b o,H b=À o->b≠P->H' b=À o
 live:∀ b,H' b=none->H b=none
 tab:∃ ps,H' P=À (.pU ps)/\vR H' q ps
def Wc (P:Addr)(q:Str):St->Hp->(Addr->Hp->Prop)->Prop:=λ _ H Q=>(∃ a,H P=À (.pU a)/\vR H q a)/\∀ A f,E_ H A P q->A f=none->Q f A
def NG 
  (l:X.env.code=.ref c) (hC:ť X.K c P=true) (hq:X.env.qual++"<lambda>"=q) (Z:oY scope X.env=pure []) (Vj:Qm i X.env=([],[]))
  (I:Inv X õ σ H s) (h:Wc P q σ H Q) :
  Ú (à X.prog X.w) X.A (Ē (.Lambda i body scope m) X.env) (λ v s'=>∃ f H',v=.ref f/\Inv X õ σ H' s'/\Qt s'.heap f q i body scope/\Q f H') X.xe s:=by
 obtain⟨⟨y,x,U⟩,hQ⟩:=h;have k:s.heap.get? P=À (cX y):=I.ś P _ x;have E:s.heap.Ns mainGlobals X.mg:=I.mod.glob.keeps I.bk;obtain⟨bm,ob,b1,b2,b3,b4,b5,b6⟩:=I.mod.bmain;have hgP:mainGlobals≠P:=λ z=>by
  obtain⟨o,es,ep,e,hd,_⟩:=E;rw[z,k]at e;cases e;cases hd
 have hbP:bm≠P:=λ z=>by
  have e:=I.bk _ _ b3;rw[z,k]at e;cases e;cases b4
 have hbG:bm≠mainGlobals:=λ z=>by
  obtain⟨o,es,ep,e,hd,_⟩:=I.mod.glob;rw[z,e]at b3;cases b3;rw[hd]at b6;cases b6
 have hB:s.heap.BuiltinsAt X.mg P:=⟨bm,ob,b1,b2,hbG,hbP,I.bk _ _ b3,b4,b5,b6⟩
 have C:PySem.W.CodeHd s.heap c P:=BS I.ll hC;refine PySem.W.kla_eval Vj ?_;cases hf:yW m y.toList with
 | some cv=>
  refine PySem.W.kla_makeFunctionHit (mg:=X.mg) Z I.ok.glob E l C k U.1 hf hB λ N p tk hk r=>?_;obtain⟨c1,L,u,vs,t,rfl,J,k3,k4⟩:=U.2 m cv hf;have YO:s.heap.CodeRec (.ref c1) q:=⟨c1,L,vs,t,rfl,(I.ś c1 _ J).1,k3,k4⟩
  have T':∀ (o:Obj) b u,s.heap.get? b=À u->(p.push o).get? b=À u:=λ o b u e=>Ã _ (hk b u e);exact⟨p.objs.size,H,rfl,I.kept (T' _),⟨_,_,_,by rw[<-hq];exact Ö _ rfl,YO.keeps (T' _)⟩,hQ H _ ⟨λ _ _ e _=>e,λ _ e=>e,y,x,U⟩ (I.ś.fresh r)⟩
 | none=>
  refine PySem.W.kla_makeFunction (mg:=X.mg) Z I.ok.glob E l C k U.1 hf hgP hB λ a N p tk hx D F Vl XB=>?_;obtain⟨c₂,L,vs,t,e2,G,hd,hv⟩:=Vl;cases e2;rw[hq]at hv;have r:s.heap.objs.size<=p.objs.size:=ė (bb D F);have nc:H a=none:=I.ś.fresh D;have ncP:a≠P:=λ z=>by rw[z,x]at nc;cases nc
  let B:Hp:=upd (upd H a (.hV L (.own a))) P (.pU (y++#[Ũ m.line,Ũ m.col,.ref a]));have J:∀ b o,H b=À o->b≠P->B b=À o:=λ b o e n=>by
   show upd _ _ _ b=_;rw[ä n,ä (Ń e nc)];exact e
  have nP:∀ b o,H b=À o->o≠.pU y->b≠P:=λ b o e n z=>by subst z;rw[x]at e;exact n (æ e).symm
  have g:∀ b o,s.heap.get? b=À o->b≠P->∀ u:Obj,(p.push u).get? b=À o:=λ b o e n u=>Ã _ (hx b o n e);have T:∀ b o,s.heap.get? b=À o->H b=none->B b=none:=λ b o e n=>by
   show upd _ _ _ b=_;rw[ä (λ z=>by rw[z,x]at n;cases n),ä (λ z=>by rw[z]at e;exact absurd (Ó e) (nj.mpr D))];exact n
  have eP:B P=À (.pU (y++#[Ũ m.line,Ũ m.col,.ref a])):=ù ..;have ec:B a=À (.hV L (.own a)):=by show upd _ _ _ a=_;rw[ä ncP];exact ù ..
  have live:∀ b,B b=none->H b=none:=λ b e=>by
   by_cases j:b=P
   ·subst j;rw[eP]at e;cases e
   ·by_cases Y:b=a
    ·rw[Y];exact nc
    ·have O:upd (upd H a (.hV L (.own a))) P (.pU (y++#[Ũ m.line,Ũ m.col,.ref a])) b=none:=e;rw[ä j,ä Y]at O;exact O
  have ff:∀ b o u,H b=À (.hV o u)->B b=À (.hV o u):=λ b o u e=>J b _ e (nP b _ e (λ z=>nomatch z));have tt:∀ b xs,H b=À (.tup xs)->B b=À (.tup xs):=λ b xs e=>J b _ e (nP b _ e (λ z=>nomatch z));have YS:B p.objs.size=none:=by
   show upd _ _ _ _=_;rw[ä (λ z=>by have:=Ó k;rw[<-z]at this;exact absurd (é this r) (ŏ _)),ä (λ z=>by rw[<-z]at F;exact absurd F (ŏ _))];exact I.ś.fresh r
  let M:=PySem.W.kla_obj "<lambda>" (X.env.qual++"<lambda>") i body scope [] ((X.mg "__name__").getD .none) a N;have un:Un X.fs [] H B s.heap (p.push M):=
   ⟨λ b o e n _ _=>g b o e (λ z=>by rw[z,x]at n;cases n) M,λ b o e n _ _=>⟨o.slots,g b o e (λ z=>by rw[z,x]at n;cases n) M⟩,λ b o e n _=>T b o e n,λ b o e _=>by
     by_cases j:b=P
     ·exact⟨_,by rw[j];exact Ã _ XB⟩
     ·exact⟨o,g b o e j M⟩,tt,ff,λ b ps' e=>by
     by_cases j:b=P
     ·subst j;rw[x]at e;cases e;exact⟨_,eP⟩
     ·exact⟨#[],by rw[J b _ e j];simp⟩⟩
  have ho:lP X.prog X.w B (p.push M):=λ b u e=>by
   by_cases j:b=P
   ·subst j;rw[eP]at e;cases e;exact Ã _ XB
   ·by_cases Y:b=a
    ·subst Y;rw[ec]at e;cases e;exact⟨Ã _ G,⟨_,Ã _ G⟩⟩
    ·have O:upd (upd H a (.hV L (.own a))) P (.pU (y++#[Ũ m.line,Ũ m.col,.ref a])) b=À u:=e;rw[ä j,ä Y]at O;refine(I.ś b u O).nE (λ d v hd q=>g d v q ?_ M) (λ d q=>J d _ q (nP d _ q (λ z=>nomatch z))) tt;rcases hd with z|z
     ·rw[z];exact j
     ·exact nP d _ z (λ z=>nomatch z)
  exact⟨p.objs.size,B,rfl,I.un un ho,⟨_,_,_,by rw[<-hq];exact Ö _ rfl,a,L,vs,t,rfl,Ã _ G,hd,hv⟩,hQ B _ ⟨J,live,_,eP,BH U ff ec hd hv⟩ YS⟩
def Pz (K:É)(P:Addr)(q:Str)(t:TE):TE:=λ f H Q=>t f H λ x A=>∃ (l:Addr) (b:Á Addr) (c:Á Int),x=.ref l/\A l=À (.lst (b.map V.ref))/\c.length=b.length/\(∀ (j:Nat) (a:Addr) (d:Int),b[j]? = À a->c[j]? = À d->∃ y r,fM K A a (y :: .int d :: r))/\b.length < 64/\
 (∃ e,A P=À (.pU e)/\vR A q e)/\∀ B d (p:Á Nat),E_ A B P q->B d=none->p.Perm (Ą b.length)->p.Pairwise (Ah (O:=oI) λ i=>c.getD i 0)->Q (.ref d) (upd B d (.lst (p.map λ i=>V.ref (b.getD i 0))))
def Ho (he:PE X e t)(hm:X.mg "sorted"=none)(YR:X.A.depth < recursionLimit)
  (C:X.env.code=.ref c) (hC:ť X.K c P=true) (hq:X.env.qual++"<lambda>"=q) (YM:oY (Ad y) X.env=pure []) (J:Qm (z7 y p0) X.env=([],[])) (hy:(y == ("__debug__":Str))=false)
  (hb:∀ t pm U B,jE (nr "<lambda>" q (z7 y p0) (Ds y p1 p2 p3) (Ad y) [] pm U B) ⟨[.ref t],[]⟩=pure [(y,.ref t)]) (hg:Gl X "sorted":=by rfl)
  (hs:Í [e] X.env=(false,Ē e X.env) :: Í [] X.env:=by rfl) (G:Ĝ pos (Í [e] X.env)=(false,Ē e X.env) :: Ĝ pos (Í [] X.env):=by rfl) (RE:(Ĝ pos (Í [e] X.env)).any (·.1)=false:=by rfl) :
  PE X (.Call (.Name "sorted" p) [e] [⟨À (Ü "key"),.Lambda (z7 y p0) (Ds y p1 p2 p3) (Ad y) lp,j⟩] pos) (Pz X.K P q t):=by
 intro N s σ H Q I h;refine Ŵ (oi I hg hm Ÿ ?_ (by decide) (by decide));refine WD ?_ G RE;rw[G];refine eK (Ź (he N s σ H _ I h) λ u s1 zz=>?_);obtain⟨x,H1,I1,r1,l,g,ds,ex,hl,YQ,Vn,RA,ht,hQ⟩:=zz;subst ex;cases (show u=Ñ l from r1);refine kB ?_;refine WL ?_;refine Ź (NG (q:=q) (P:=P) (Q:=λ f H'=>E_ H1 H' P q) C hC hq YM J I1 ⟨ht,λ H' f k _=>k⟩) λ v d ⟨f,E,ev,F,lf,O⟩=>?_;subst ev;refine WM ?_;have nP:∀ b o,H1 b=À o->(∀ ps,o≠.pU ps)->b≠P:=λ b o e n z=>by
  obtain⟨ps,hp,_⟩:=ht;rw[z,hp]at e;exact n ps (æ e).symm
 have YZ:E l=À (.lst (g.map V.ref)):=O.keep l _ hl (nP l _ hl (λ _ z=>nomatch z));obtain⟨_,its,n,rel,hL⟩:=(show Ŕ X.prog X.w E d.heap l (.lst (g.map V.ref)) from F.ś l _ YZ)
 have:=mZ rel;subst this;refine WG Ax w4 wX (WJ _ _) ?_;unfold bT.«sorted»;refine Â (m:=Di "sorted" 1 1 _) (Ë ?_);refine Â (collect_list (A:=X.A.in1) ⟨_,hL,rfl,n,rfl⟩ ?_ (by rw[Î];exact ė (ŝ (by lia))));refine Â (fK ?_ (by rw[Î];exact ė (ŝ (by lia))));have up:∀ b o,d.heap.get? b=À o->(((d.heap.push (č "list" #[] 0)).update d.heap.objs.size (ð (·++(g.map Ñ).toArray))).push (č "list" (g.map Ñ).toArray 0)).get? b=À o:=λ b o e=>by
  refine Ã _ ?_;rw[ç _ _ (ġ (Ó e))];exact Ã _ e
 have hD:d.heap.objs.size < ((d.heap.push (č "list" #[] 0)).update d.heap.objs.size (ð (·++(g.map Ñ).toArray))).objs.size:=by rw[vc,ĸ];exact dZ _
 have L:(((d.heap.push (č "list" #[] 0)).update d.heap.objs.size (ð (·++(g.map Ñ).toArray))).push (č "list" (g.map Ñ).toArray 0)).get? ((d.heap.push (č "list" #[] 0)).update d.heap.objs.size (ð (·++(g.map Ñ).toArray))).objs.size=À (č "list" (g.map Ñ).toArray 0):=Ö _ rfl;generalize ((d.heap.push (č "list" #[] 0)).update d.heap.objs.size (ð (·++(g.map Ñ).toArray))).objs.size=D at *
 generalize ((d.heap.push (č "list" #[] 0)).update d.heap.objs.size (ð (·++(g.map Ñ).toArray))).push (č "list" (g.map Ñ).toArray 0)=h0 at *
 have nD:∀ b o,d.heap.get? b=À o->b≠D:=λ b o e=>ê (ni (Ó e) hD);have T:(g.map Ñ).length=g.length:=Î _;refine Â (Ň (wpAny_call_entry_kw Dm ⟨_,L,rfl⟩ AK ?_ (WI _ _)));show Ú (à X.prog X.w) X.A.in1.in1 (bT.«list.sort» ⟨[.ref D],[(Ü "key",.ref f)]⟩) _ _ { d with heap:=h0 };rw[WK];refine Mm.BC (s:={ d with heap:=h0 }) (ns:=ds) L (by rw[YQ,T]) (by rw[T];exact RA) (λ i v k M hk h tk j=>?_) λ p h' tk c q1 q2 q3 j ha=>⟨_,rfl,?_⟩
 ·have j:∀ b o,d.heap.get? b=À o->h.get? b=À o:=λ b o e=>j b o (nD b o e) (up b o e);rw[è]at M;cases ea:g[i]? with
  | none=>rw[ea]at M;cases M
  | some a=>
   rw[ea]at M;cases M;obtain⟨y',r,e⟩:=Vn i a k ea hk;have Y:fM X.K E a (y' :: .int k :: r):=by
    rcases e with(e|⟨o,e⟩)|e
    ·exact .inl (.inl (O.keep a _ e (nP a _ e (λ _ z=>nomatch z))))
    ·exact .inl (.inr ⟨o,O.keep a _ e (nP a _ e (λ _ z=>nomatch z))⟩)
    ·exact .inr e
   obtain⟨its,e1,⟨o,Y,e3,n,e4⟩,_⟩:=F.tuple Y;cases e1 with
   | cons e5 Z=>
    cases Z with
    | cons Z e7=>
     obtain⟨t',rfl⟩:=Z;obtain⟨pm,U,B,f1,f2⟩:=lf;exact Gi (s:={ d with heap:=h,toks:=tk }) ⟨pm,U,B,j _ _ f1,f2.keeps j⟩ (F.nolimit.keeps j) YR hy ⟨o,j _ _ Y,e3,n,e4⟩ rfl (hb a) λ h' Wn k'=>⟨h',Wn,t',rfl,rfl,k'⟩
 ·have j:∀ b o,d.heap.get? b=À o->h'.get? b=À o:=λ b o e=>j b o (nD b o e) (up b o e);rw[T]at q1 q2 q3;have pr:p.toList.Perm (Ą g.length):=by simpa using dy.mp q3
  have pl:p.toList.length=g.length:=by rw[pr.length_eq,f6]
  have Zx:∀ i∈p.toList,i < g.length:=λ i hi=>by simpa using pr.mem_iff.mp hi
  have hn:E D=none:=F.ś.fresh (ė hD);refine Ë ⟨_,rfl,.ref D,_,F.laid (a:=D) (o:=.lst (p.toList.map λ i=>V.ref (g.getD i 0))) (t':=tk) j (ė hD) ⟨by rw[Î,pl];exact ė (ŝ (by lia)),p.toList.map λ i=>(g.map Ñ).getD i ì,c,?_,ha⟩,rfl,hQ E D p.toList O hn pr ?_⟩
  ·exact Mm.qV Zx
  ·exact Mm.HP (by rw[pl];exact q1)
end
end L2
namespace L2
open PySem PySem.Spec PyProof.Rows
def BW (ts:Á Addr)(H:Hp):Prop:=(∀ P∈ts,H P=À (.pU #[]))/\∀ b,b∉ts->H b=none∨∃ o xs,H b=À (.hV o (.lst xs))
def DS {K:É}{c:Ò} 
  (KX:K.In c.heap) (X:∀ q∈ts,c.heap.get? q=À (cX #[])) (YE:∀ q∈ts,isCodeTable c.heap q) (YF:∀ q∈ts,K.lookup q=none)
  (J:c.heap.Ns mainGlobals mg) (f:c.heap.Ns lN mb) (YI:∀ x:Str,x≠"__name__"->mb x=Ĭ x) (I:c.heap.NoLimit) (YP:c.heap.NoDigits)
  (YJ:∃ bm t,mg "__builtins__"=À (.ref bm)/\bm≠lN/\c.heap.get? bm=À t/\t.cls=.type "module"/\t.dict=À lN/\t.data=.plain) (hg:c.gens=#[])
  (G:c.heap.get? a=À { cls:=.type "list",data:=.seq vs.toArray }) (hi:sD vs ns) (hl:ns.length<=sizeLine) (hr:cb k sG)
  (F:∀ base:Heap,K.In base->base.Ns mainGlobals mg->gC P w K mg base CX k fa fd [x] sp) (y:∀ (s:Ò) (u:Value),sy s fd ⟨[u],[]⟩ [(x,u)])
  (Y_:∀ H:Hp,BW ts H->eS K H a (ns.map V.int)->sp [.ref a] H (λ v _=>v=.bl true) λ _ _ _=>False)
  (YD:∀ H e s',CX [] H c (λ _ _ _=>False) e s'->False) :
  dW (à P w) sG (.call (.ref fa) ⟨[.ref a],[]⟩) (λ r s'=>r=.ok (.ret (.bool true))/\OldK c.heap s'.heap/\s'.os=c.os/\mH s'.gens) c:=by
 have rv:=wI hi;have M:=hi.length;have N:a∉ts:=λ z=>by
  have e:=X a z;rw[G]at e;cases e
 have l:∀ H:Hp,BW ts H->eS K H a (ns.map V.int)->lP P w H c.heap->(∀ b,H b≠none->b=a∨b∈ts)->(H a≠none->K.lookup a=none)->
   dW (à P w) sG (.call (.ref fa) ⟨[.ref a],[]⟩) (λ r s'=>r=.ok (.ret (.bool true))/\OldK c.heap s'.heap/\s'.os=c.os/\mH s'.gens) c:=by
  intro H hO hS L hA hK;have base_of:∀ {b:Addr}{o:Obj},c.heap.get? b=À o->H b=none->(xG c.heap H).get? b=À o:=λ e n=>F8 e n;have O:∀ {b:Addr}{o:Obj},c.heap.get? b=À o->o≠{ cls:=.type "list",data:=.seq vs.toArray }->o≠cX #[]->H b=none:=λ {b o} e n1 n2=>by
   cases q:H b with
   | none=>rfl
   | some u=>
    rcases hA b (by rw[q];simp) with e'|e'
    ·subst e';rw[G]at e;exact(n1 (æ e).symm).elim
    ·rw[X b e']at e;exact(n2 (æ e).symm).elim
  have i:∀ {b:Addr}{m:Str->Ê Value},c.heap.Ns b m->(xG c.heap H).Ns b m:=λ {b m} ⟨o,es,ep,e,d,r⟩=>⟨o,es,ep,base_of e (O e (λ z=>by rw[z]at d;cases d) λ z=>by rw[z]at d;cases d),d,r⟩
  have E:K.In (xG c.heap H):=λ b o e=>base_of (KX b o e) (by
   cases q:H b with
   | none=>rfl
   | some u=>
    rcases hA b (by rw[q];simp) with e'|e'
    ·subst e';rw[hK (by rw[q];simp)]at e;cases e
    ·rw[YF b e']at e;cases e)
  have hM:Mod K mg (xG c.heap H):=⟨E,i J,⟨mb,i f,YI⟩,let ⟨mc,Y,Z⟩:=I;⟨mc,i Y,Z⟩,let ⟨mc,Y,Z⟩:=YP;⟨mc,i Y,Z⟩,
   let ⟨bm,t,b1,b2,b3,b4,b5,C⟩:=YJ;⟨bm,t,b1,b2,base_of b3 (O b3 (λ z=>by rw[z]at C;cases C) λ z=>by rw[z]at C;cases C),b4,b5,C⟩⟩
  have e0:AM P w K mg (xG c.heap H) sG [] c H:=⟨rfl,hM,λ b o e=>KL e,jD (DM _ _),trivial,λ b f=>absurd (show b∈([]:Á Addr) from f) (by simp),L,.of_eq hg⟩
  refine oZ ((F _ E (i J)).run sG [] c H ⟨[.ref a],[]⟩ [.ref a] [.ref a] _ _ hr e0 (y c (.ref a)) (.cons rfl .nil) (Y_ H hO hS)) λ r s' h=>?_;cases r with
  | error e=>exact(YD H e s' h).elim
  | ok fl=>
   cases fl with
   | next=>exact ag h
   | brk=>exact ag h
   | cont=>exact ag h
   | ret u=>
    obtain⟨v,H',os,D,un,p,r',q⟩:=h;have q':v=.bl true:=q;subst q';obtain rfl:u=eN true:=r';have Q:∀ b o,c.heap.get? b=À o->s'.heap.get? b=À o∨(b∈ts/\o=cX #[]/\∃ g,s'.heap.get? b=À (cX g)):=λ b o e=>by
     by_cases f:b∈ts
     ·refine .inr ⟨f,?_,?_⟩
      ·rw[X b f]at e;exact(æ e).symm
      ·obtain⟨g,z⟩:=un.uT b _ (hO.1 b f);exact⟨_,p b _ z⟩
     ·rcases hO.2 b f with z|⟨t,xs,z⟩
      ·exact .inl (un.keep b o e z (by intro z;exact absurd (show b∈([]:Á Addr) from z) (by simp)) (by simp))
      ·have z2:=un.iU b t _ z;obtain⟨e1,_⟩:=L b _ z;obtain⟨e2,_⟩:=p b _ z2;rw[e]at e1;cases e1;exact .inl e2
    refine⟨rfl,⟨λ b o e=>?_,λ b o e=>?_⟩,os,D⟩
    ·rcases Q b o e with z|⟨f,rfl,g,z⟩
     ·exact .inl z
     ·exact .inr (.inl ⟨YE b f,rfl,#[],g,rfl,by rw[z];simp⟩)
    ·rcases Q b o e with z|⟨_,_,g,z⟩
     ·exact⟨_,z⟩
     ·exact⟨_,z⟩
 have T:∀ H:Hp,(∀ P∈ts,H P=À (.pU #[]))->∀ b∈ts,∀ u,H b=À u->Ŕ P w H c.heap b u:=λ H h b f u e=>by
  rw[h b f]at e;cases e;exact X b f
 cases hk:K.lookup a with
 | some o=>
  have e:=KX a o hk;rw[G]at e;cases e;refine l (λ b=>if b∈ts then À (.pU #[]) else none) ⟨λ q A=>Ï A,λ b f=>.inl (Ô f)⟩ (.inr ⟨_,vs.toArray,_,hk,rfl,rfl,rfl,by rw[Ù,M];exact hl,by simpa using rv⟩) (λ b u z=>?_) (λ b z=>?_) λ z=>absurd (Ô N) z
  ·by_cases f:b∈ts
   ·exact T _ (λ q A=>Ï A) b f u z
   ·have U:=(Ô f).symm.trans z;cases U
  ·by_cases f:b∈ts
   ·exact .inr f
   ·exact absurd (Ô f) z
 | none=>
  have B:∀ b,b∉ts->(λ b=>if b∈ts then À (HO.pU #[]) else if b=a then À (HO.hV { cls:=.type "list",data:=.seq vs.toArray } (.lst (ns.map V.int))) else none) b=if b=a then À (HO.hV { cls:=.type "list",data:=.seq vs.toArray } (.lst (ns.map V.int))) else none:=λ b f=>Ô f
  refine l (λ b=>if b∈ts then À (.pU #[]) else if b=a then À (.hV { cls:=.type "list",data:=.seq vs.toArray } (.lst (ns.map V.int))) else none) ⟨λ q A=>Ï A,λ b j=>?_⟩ (.inl (.inr ⟨{ cls:=.type "list",data:=.seq vs.toArray },(B a N).trans (Ï rfl)⟩)) (λ b u z=>?_) (λ b z=>?_) λ _=>hk
  ·by_cases f:b=a
   ·exact .inr ⟨_,_,(B b j).trans (Ï f)⟩
   ·exact .inl ((B b j).trans (Ô f))
  ·by_cases j:b∈ts
   ·exact T _ (λ q A=>Ï A) b j u z
   ·by_cases f:b=a
    ·have U:=((B b j).trans (Ï f)).symm.trans z;cases U;subst f;exact⟨G,by rw[Î];exact hl,vs,_,rv,G⟩
    ·have U:=((B b j).trans (Ô f)).symm.trans z;cases U
  ·by_cases j:b∈ts
   ·exact .inr j
   ·by_cases f:b=a
    ·exact .inl f
    ·exact absurd ((B b j).trans (Ô f)) z
def Ie {l:lX}{j:Á Str}{M:(Str->Ê Value)->Heap->Prop}{A:Ĩ->Heap->Prop}{d:DefRec}{K:Params->É}{CX:Ĩ->E7}{sp:Ĩ->Sp}(ts:Á Addr)
  (hn:l.most=À n) (I:n<=sizeLine) (D:d.params.defaults=[]) (hr:cb k sG)
  (X:∀ (w:Ĩ) (h:Heap),A w h->(K w.params).In h) (U:∀ (w:Ĩ) (h:Heap),A w h->∀ q∈ts,h.get? q=À (cX #[]))
  (z:∀ (w:Ĩ) (h:Heap),A w h->∀ q∈ts,isCodeTable h q) (C:∀ (w:Ĩ) (h:Heap),(K w.params).In h->∀ q∈ts,(K w.params).lookup q=none)
  (F:∀ (w:Ĩ) (mg:Str->Ê Value) (r:Addr) (h:Heap),(K w.params).In h->h.Ns mainGlobals mg->mg d.name=À (.ref r)->
   ∃ t:cz,(∀ (s:Ò) (u:Value),sy s t ⟨[u],[]⟩ [(x,u)])/\
    ∀ base:Heap,(K w.params).In base->base.Ns mainGlobals mg->gC l.prog w (K w.params) mg base (CX w) k r t [x] (sp w))
  (J:∀ (w:Ĩ) (H:Hp) (a:Addr) (ns:Á Int),ns.length<=n->BW ts H->eS (K w.params) H a (ns.map V.int)->sp w [.ref a] H (λ v _=>v=.bl true) λ _ _ _=>False)
  (y:∀ (w:Ĩ) (H:Hp) (s:Ò) (e:Value) (s':Ò),CX w [] H s (λ _ _ _=>False) e s'->False) :
  L4 q j M A l.row.toRowW d [] (λ f vs=>EZ f vs):=by
 refine Xd.zc hn D λ w L p mg mb r o pm cd N a vs ns G Y ho hd hcd E m i c hg=>?_;have B:=X w _ Y;obtain⟨t,Z,O⟩:=F w mg r _ B G.T.g E;exact DS B (U w _ Y) (z w _ Y) (C w _ B) G.T.g G.T.b G.T.builtins G.T.nolimit G.T.nodigits G.T.bmain hg m i (Đ c I) hr O Z (λ H P Q=>J w H a ns c P Q) λ H e s'=>y w H p e s'
end L2
namespace Mm
open PySem L2
def tabAt (i:Nat)(q:Str):AO->Bool
 | .tab j r=>decide (j=i/\r=q)
 | _=>false
def Ey (h:tabAt i q o=true):o=.tab i q:=by
 cases o with
 | tab j r=>have h:=Ħ h;rw[h.1,h.2]
 | _=>cases h
def zk:AV->Int
 | .tup (_ :: .int d :: _)=>d
 | _=>0
def xH:AV->Bool
 | .tup (_ :: .int _ :: _)=>true
 | _=>false
def Mq (ds:Á Int)(i j:Nat):Bool:=decide (ds.getD i 0 < ds.getD j 0∨ds.getD i 0=ds.getD j 0/\i<=j)
def J7 (ds:Á Int):Á Nat:=(Ą ds.length).mergeSort (Mq ds)
def zC (ds:Á Int):(J7 ds).Perm (Ą ds.length):=eA ..
def t9 (ds:Á Int):(J7 ds).Pairwise λ i j=>Mq ds i j=true:=
 fv (le:=Mq ds) (λ a b c h k=>by unfold Mq at *;simp only[Ŗ]at *;lia) (λ a b=>by unfold Mq;simp only[jd,Ŗ];lia) _
def Gb {p:Á Nat}(pr:p.Perm (Ą ds.length)) (h:p.Pairwise (Ah (O:=oI) λ i=>ds.getD i 0)):p=J7 ds:=
 jA (le:=Mq ds) (λ a b h k=>by unfold Mq at *;simp only[Ŗ]at *;lia) (pr.trans (zC ds).symm) (h.imp λ {i j} h=>by
  unfold Mq;rcases h with h|⟨h,k⟩
  ·exact ć (.inl (Ħ (show decide (ds.getD i 0 < ds.getD j 0)=true from h)))
  ·exact ć (.inr ⟨h,ė k⟩)) (t9 ds)
def pick (l:Á AV)(p:Á Nat):Á AV:=p.map λ i=>l.getD i .Ę
def mj (i:Nat)(q:Str)(m:Ev):fu:=λ a s=>(m a s).bind λ v b=>match v with
 | .ref k=>need (ô b k) λ l=>if l.all xH=true/\l.length < 64/\b.any (tabAt i q)=true then .ok (pick l (J7 (l.map zk))) b else .bad
 | _=>.bad
section
variable {T:Tx}{XE:jg}{X:Cx}{pos:kK}
theorem pH {ρ:Á Addr}{H:Hp}:∀ {l:Á AV}{vs:Á V},(∀ v∈l,∃ xs,v=.tup xs)->ĩ T ρ H l vs->∃ as:Á Addr,vs=as.map V.ref/\as.length=l.length/\∀ (j:Nat) (a:Addr) (xs:Á AV),as[j]? = À a->l[j]? = À (.tup xs)->∃ ws,fM T.K H a ws/\ĩ T ρ H xs ws
 | [],vs,_,k=>by
  cases k.nil_inv;exact⟨[],rfl,rfl,λ j a d e=>by simp at e⟩
 | v :: l,vs,h,k=>by
  obtain⟨x,q,rfl,o,p⟩:=k.cons_inv;obtain⟨as,rfl,g,i⟩:=pH (λ w hw=>h w (.tail _ hw)) p;obtain⟨xs,rfl⟩:=h v (.head _);obtain⟨a,ws,rfl,m,n⟩:=o.b0;refine⟨a :: as,rfl,by simp[g],λ j b d c f=>?_⟩;cases j with
  | zero=>simp at c f;subst c f;exact⟨ws,m,n⟩
  | succ j=>exact i j b d (by simpa using c) (by simpa using f)
theorem ĩ.pick {as:Á Addr}(k:ĩ T ρ H l (as.map V.ref)):∀ {p:Á Nat},(∀ i∈p,i < as.length)->ĩ T ρ H (pick l p) (p.map λ i=>V.ref (as.getD i 0))
 | [],_=>.nil
 | i :: r,c=>by
  have a:=c i (.head _);have hl:i < l.length:=by rw[k.length,Î];exact a
  refine .cons ?_ (ĩ.pick k λ j e=>c j (.tail _ e));obtain⟨x,b,d⟩:=ĩ.get k (Å hl);rw[è,Å a]at b;cases b;show VR T ρ H (l.getD i .Ę) (.ref (as.getD i 0));rw[Ā,Ā,Å hl,Å a];exact d
def A8 (h:xH v=true):∃ y d r,v=.tup (y :: .int d :: r):=by
 unfold xH at h;split at h
 ·exact⟨_,_,_,rfl⟩
 ·cases h
def GL (hm:X.mg "sorted"=none)(Y:X.A.depth < recursionLimit)(w:X.env.code=.ref c)(hC:ť T.K c (T.cl i)=true) (h:PE X e (tE T XE m))
  (hK:X.K=T.K:=by rfl) (hq:X.env.qual++"<lambda>"=q:=by rfl) (U:oY (Ad y) X.env=pure []:=by rfl) (E:Qm (z7 y p0) X.env=([],[]):=by rfl) (hy:(y == ("__debug__":Str))=false:=by decide)
  (L:∀ t pm cv M,jE (nr "<lambda>" q (z7 y p0) (Ds y p1 p2 p3) (Ad y) [] pm cv M) ⟨[.ref t],[]⟩=pure [(y,.ref t)]:=by intros;rfl) (hg:Gl X "sorted":=by rfl)
  (hs:Í [e] X.env=(false,Ē e X.env) :: Í [] X.env:=by rfl) (O:Ĝ pos (Í [e] X.env)=(false,Ē e X.env) :: Ĝ pos (Í [] X.env):=by rfl) (RE:(Ĝ pos (Í [e] X.env)).any (·.1)=false:=by rfl) :
  PE X (.Call (.Name "sorted" p) [e] [⟨À (Ü "key"),.Lambda (z7 y p0) (Ds y p1 p2 p3) (Ad y) lp,kp⟩] pos) (tL T XE (mj i q m)):=
 PE.imp (Ho (P:=T.cl i) (q:=q) h hm Y w (by rw[hK];exact hC) hq U E hy L hg hs O RE) λ σ H Q zz=>Ņ zz λ ρ env s hs he ho=>step hs he ho λ v s1 g H1 x _ u1 f U' Wo F=>by
  cases v with
  | ref k=>
   obtain⟨l,e1,Y5⟩:=F.î;obtain⟨⟨hd,hl,ht⟩,G⟩:=Y5.Œ;obtain⟨a,vs,rfl,ea,h1,kk⟩:=f.dP (ď e1) Wo;have hd:∀ v∈l,∃ y d r,v=.tup (y :: .int d :: r):=λ v hv=>A8 (ñ.mp hd v hv);obtain⟨as,rfl,I,Vn⟩:=pH (λ v hv=>let ⟨y,d,r,z⟩:=hd v hv;⟨_,z⟩) kk;obtain⟨o,ho,Y6⟩:=dS.mp ht;cases Ey Y6;obtain⟨j,B,ej⟩:=İ ho;obtain⟨P,J,rfl,ps,h2,h3⟩:=f.obj j _ (by rw[Å B,ej]);refine⟨a,as,l.map zk,rfl,h1,by rw[Î,I],λ j b d g1 g2=>?_,by rw[I];exact hl,⟨ps,h2,h3⟩,λ H2 d p C hd pr S2=>?_⟩
   ·have B:j < l.length:=by rw[<-I];exact(Ç.mp g1).1
    obtain⟨y,d',r,z⟩:=hd l[j] (dV B);obtain⟨ws,f1,f2⟩:=Vn j b _ g1 (by rw[Å B,z]);obtain⟨y',ys,rfl,_,f3⟩:=f2.cons_inv;obtain⟨z',zs,rfl,f4,_⟩:=f3.cons_inv;rw[f4.int_inv]at f1;rw[è,Å B,z]at g2;cases g2;exact⟨y',zs,by rw[hK];exact f1⟩
   have nP:∀ b o,H1 b=À o->o≠.pU ps->b≠T.cl i:=λ b o e n z=>by subst z;rw[h2]at e;exact n (æ e).symm
   have mP:T.cl i∈g:=ò J;have up:Up g H1 g H2:=⟨⟨aK,λ b xs e=>C.keep b _ e (nP b _ e (λ z=>nomatch z)),λ b o u e=>C.keep b _ e (nP b _ e (λ z=>nomatch z))⟩,λ b o e n=>⟨C.keep b o e λ z=>n (z ▸ mP),n⟩,C.live⟩
   have Po:SR T g s1 H2:=⟨f.nd,f.len,λ i' o' N=>by
    obtain⟨b,D,q3⟩:=f.obj i' o' N;by_cases L:b=T.cl i
    ·subst L;have Z:i'=j:=by
      have l1:=(Ç.mp D).1;have l2:=(Ç.mp J).1;rw[Å l1]at D;rw[Å l2]at J;have e4:=(æ D).trans (æ J).symm;have pw:=yO.mp f.nd;rcases Nat.lt_trichotomy i' j with z|z|z
      ·exact(pw _ _ l1 l2 z e4).elim
      ·exact z
      ·exact(pw _ _ l2 l1 z e4.symm).elim
     subst Z;rw[Å B,ej]at N;cases N;exact⟨_,D,rfl,C.tab⟩
    ·obtain⟨u,eu⟩:=q3.ex;exact⟨b,D,q3.up up.toGr ((C.keep b u eu L).trans eu.symm)⟩⟩
   rw[<-Gb (ds:=l.map zk) (by rw[Î,<-I];exact pr) S2]at G;exact(Out.up up G).lst Po hd (ĩ.up up (ĩ.pick kk λ i hi=>by simpa using pr.mem_iff.mp hi))
  | _=>exact F.elim
end
end Mm
namespace Ro
open PySem L2 Mm
def Yu (r:cb k A):A.depth < recursionLimit:=by have:=r.dp;lia
structure L8 (T:Tx)(mg:Str->Ê Value)(x:Str)(st:Stmt)(i:Nat):Prop where
 ex:∃ f fd c,E9 T.K x x st f fd/\mg x=À (.ref f)/\fd.code=.ref c/\ť T.K c (T.cl i)=true
section
variable {P:Ĉ}{w:Ĩ}{T:Tx}{mg:Str->Ê Value}{base:Heap}
def FX (N:Á Str)(D:L8 T mg x st i)(S:il N (N.take n) (đ st))
  (G:∀ (kV g C:Value) (y:Ê Addr) (d ct:Value) (us:Á Value),us.length=(N.take n).length->jE (ń x x (bW st) (ao st) (đ st) .none kV g C y d ct) ⟨us,[]⟩=pure ((N.take n).zip us)) (I:(N.take n).length=n)
  (h:∀ (f:Addr) (c:Addr) (A:į) (outer:Á yJ) (s:Ò) (H:Hp) (E:XK),ť T.K c (T.cl i)=true->cb k (A.deeper (ak x (đ st) s.heap.objs.size f (.ref c)))->N.Nodup->Ls T (lR (qd P w) P w T.K mg base N x (đ st) f (.ref c) A outer s H E) (ny T E)->l5 (lR (qd P w) P w T.K mg base N x (đ st) f (.ref c) A outer s H E) (ao st) (tS T (ny T E) body)) :
  fL P w T mg base x n (k+1) (dN N.length body):=by
 obtain⟨f,z,c,F,m,q,hC⟩:=D.ex;have j:gC P w T.K mg base (qd P w) (k+1) f z (N.take n) (EU T (N.take n).length (dN N.length body)):=by
  obtain⟨oc,od,kV,g,C,y,d,ct,L,rfl,J,r⟩:=F.ex;have q:d=.ref c:=q;subst q;refine Mc J r S (λ O H Q E h=>h.1) λ A outer s H O Q E hr U=>?_;obtain⟨hl,ρ,l,b,t,M,a⟩:=U;refine⟨_,h f c A outer s H E hC hr S.nd zL,ρ,_,l,t,zu N M,?_⟩;unfold dN at a;cases e:body (b.map À++ã (N.length - b.length) none) l with
  | nx Y p=>simp only[e]at a;exact λ o B X u t Z=>a o B .Ę u t (uW (T:=T) (ρ:=o) (H:=B))
  | rt v p=>simp only[e]at a;exact a
  | ex c p=>simp only[e]at a;exact a
  | bk v p=>simp only[e]at a;exact a.elim
  | ct v p=>simp only[e]at a;exact a.elim
  | bad=>simp only[e]at a;exact a.elim
 rw[I]at j;exact⟨f,z,_,j,F.binds G,m,F.kp⟩
def spT (K:É)(ts:Á Addr)(c:Á (Nat × Str)) (b:Á AV->S->R AV):Sp:=λ a H Q E=>a.length=1/\∀ cl,(c.map λ p=>cl p.1)=ts->EU ⟨K,cl⟩ 1 b a H Q E
def tabS (a:Á (Nat × Str)):S:=a.map λ p=>.tab p.1 p.2
def LD {ts:Á Addr}{ns:Á Int}(nd:ts.Nodup)(hl:(l [.sq (ns.map AV.int)] (tabS d)).wp λ v _=>v=.bl true) (c:BW ts H)(n:eS K H a (ns.map V.int)):spT K ts d l [.ref a] H (λ v _=>v=.bl true) E:=by
 have m:Jb K H a (ns.map V.int):=by
  rcases n with h|h
  ·rcases h with h|h
   ·by_cases k:a∈ts
    ·rw[c.1 a k]at h;cases h
    ·rcases c.2 a k with z|⟨o,xs,z⟩
     ·rw[z]at h;cases h
     ·rw[z]at h;cases h
   ·exact .inl h
  ·exact .inr h
 refine⟨rfl,λ cl j=>⟨rfl,ts,tabS d,[.sq (ns.map AV.int)],⟨nd,by rw[<-j];simp[tabS],λ i o e=>?_⟩,?_,?_⟩⟩
 ·unfold tabS at e;rw[è]at e;cases q:d[i]? with
  | none=>rw[q]at e;cases e
  | some p=>
   rw[q]at e;cases e;have g:ts[i]? = À (cl p.1):=by rw[<-j,è,q];rfl
   exact⟨_,g,rfl,#[],c.1 _ (ò g),trivial,λ pos r z=>by cases z⟩
 ·unfold ĩ;refine⟨_,_,rfl,?_,by unfold ĩ;rfl⟩;unfold VR;exact⟨a,_,rfl,m,ĩ.map (λ i=>cj) ns⟩
 ·obtain⟨v,s',e,rfl⟩:=hl.get;rw[e];intro f A x _ _ b;have b:VR ⟨K,cl⟩ f A (.bl true) x:=b;unfold VR at b;exact b
def JO {l:lX}{K:É}{i:Á (Nat × Str)}(e:mg "law"=À (.ref n)) (j:(i.map λ p=>cl p.1)=ts) (D:Df ⟨K,cl⟩ mg "law" st)
  (q:∀ (s:Ò) (v kV b g:Value) (d:Ê Addr) (a ct:Value),sy s (ń "law" "law" (bW st) (ao st) (đ st) .none kV b g d a ct) ⟨[v],[]⟩ [("_law_script",v)])
  (F:∀ (base:Heap) (f:Addr) (c:cz),E9 K "law" "law" st f c->gC l.prog w K mg base (qd l.prog w) k f c ["_law_script"] (EU ⟨K,cl⟩ 1 o)) :
  ∃ c:cz,(∀ (s:Ò) (v:Value),sy s c ⟨[v],[]⟩ [("_law_script",v)])/\∀ base:Heap,K.In base->base.Ns mainGlobals mg->gC l.prog w K mg base (qd l.prog w) k n c ["_law_script"] (spT K ts i o):=by
 obtain⟨f,c,G,m⟩:=D.ex;cases m.symm.trans e;refine⟨c,?_,λ base _ _=>(F base _ _ G).imp λ z H Q E h=>h.2 cl j⟩;obtain⟨x,y,kV,b,g,d,a,ct,t,rfl,u,r⟩:=G.ex;exact λ s v=>q s v kV b g d a ct
end
def Ti {l:lX}{b:Á Str}{C:(Str->Ê Value)->Heap->Prop}{A:Ĩ->Heap->Prop}{d:DefRec}{K:Params->É}(ts:Á Addr)(p:Á (Nat × Str)) (g:Á AV->S->R AV)(k:Nat)(nd:ts.Nodup)(G:cb k sG)(hl:∀ ns:Á Int,(g [.sq (ns.map AV.int)] (tabS p)).wp λ v _=>v=.bl true) (I:l.most=À 63)(o:d.params.defaults=[])
  (m:∀ (w:Ĩ) (h:Heap),A w h->(K w.params).In h) (y:∀ (w:Ĩ) (h:Heap),A w h->∀ q∈ts,h.get? q=À (cX #[]))
  (i:∀ (w:Ĩ) (h:Heap),(K w.params).In h->∀ q∈ts,∃ c,ť (K w.params) c q=true) (j:∀ (w:Ĩ) (h:Heap),(K w.params).In h->∀ q∈ts,(K w.params).lookup q=none)
  (F:∀ (w:Ĩ) (mg:Str->Ê Value) (r:Addr) (h:Heap),(K w.params).In h->h.Ns mainGlobals mg->mg d.name=À (.ref r)->
   ∃ t:cz,(∀ (s:Ò) (u:Value),sy s t ⟨[u],[]⟩ [("_law_script",u)])/\∀ base:Heap,(K w.params).In base->base.Ns mainGlobals mg->gC l.prog w (K w.params) mg base (qd l.prog w) k r t ["_law_script"] (spT (K w.params) ts p g)) :
  L4 q b C A l.row.toRowW d [] (λ f vs=>EZ f vs):=
 L2.Ie ts (n:=63) (x:="_law_script") (CX:=λ w=>qd l.prog w) (sp:=λ w=>spT (K w.params) ts p g) I (by decide) o G m y (λ w h Y q B=>by
  obtain⟨c,e⟩:=i w h (m w h Y) q B;exact((BS (m w h Y) e).tab (y w h Y q B)).isCodeTable) j F (λ w H a ns _ D E=>LD nd (hl ns) D E) λ _ _ _ _ _ ⟨_,_,_,_,_,_,_,_,_,_,z⟩=>z
end Ro
namespace Mm
open PySem L2
section
variable {T:Tx}{XE:jg}{X:Cx}{pos:kK}
def set_dict (hu:X.A.units+1 < cLine):M0 X (λ o i v H Q=>∃ a H',o=.ref a/\vr H a i v H'/\Q H'):=by
 rintro b s j H o i v c f u Q I e d rv ⟨a,H',rfl,g,q⟩;obtain rfl:c=Ñ a:=e;exact vX hu I g d rv λ h B=>⟨H',B,q⟩
def tX (o i:Ev):Mt:=λ v c s=>(o c s).bz λ a d=>(i c d).bz λ b e=>putD v a b c e
def Kq (hu:X.A.units+1 < cLine)(r:PE X o (tE T XE m)) (Y:PE X i (tE T XE n))
  (P:∀ v,j' (.Subscript o i pos) X.env v=(do
   let h <-cu [v] (Ē o X.env);let w <-cu [v,h] (Ē i X.env)
   jn pos
   cu [v,h,w] (Jv h w v)
   release [v,h,w] []):=by intro _;rfl):PG X (.Subscript o i pos) (tT T XE (tX m n)):=
 PG.imp (Hq r Y (set_dict hu) P) λ x σ H Q ⟨ρ,O,s,v,Z,U,E,r⟩=>by
  refine dt Z U r λ a s1 ML H1 y _ u1 D l f t=>dt D l t λ b s2 d B z _ L e p g c=>?_;have f:VR T d B a y:=VR.up L f;have g:VR T d B b z:=g;have E:VR T d B v x:=VR.up (u1.trans L) E;unfold putD at c;split at c
  ·split at c
   ·rename_i i C k M N;obtain⟨hl,u⟩:=c.Œ;obtain⟨a,I,rfl,F,G,J,q2⟩:=e.zj (js M) f;have q:C.length=I.length:=by have:=Ķ bE J;simpa using this
    refine⟨a,_,rfl,by rw[gq N g];exact vr.k G (by rw[<-q];exact hl),?_⟩;obtain⟨p1,p2⟩:=sQ k E J q2;have j:Up d B d (upd B a (.dK (putK I k x))):=e.rH F G (λ _ z=>nomatch z) (λ _ _ z=>nomatch z);exact u d _ σ j (e.set F j ⟨_,ù,p1,p2.up j⟩) (p.up j)
   ·exact c.elim
  ·exact c.elim
def KP:l4 (tX o i):=λ v d s=>by
 unfold tX;cases o d s with
 | bad=>exact .inr (.inr rfl)
 | ex c e=>exact .inr (.inl ⟨_,_,rfl⟩)
 | ok a e=>
  simp only[eZ];cases i d e with
  | bad=>exact .inr (.inr rfl)
  | ex c e=>exact .inr (.inl ⟨_,_,rfl⟩)
  | ok b f=>
   simp only[eZ];unfold putD;split
   ·split
    ·split
     ·exact .inl ⟨_,_,rfl⟩
     ·exact .inr (.inr rfl)
    ·exact .inr (.inr rfl)
   ·exact .inr (.inr rfl)
def BG:dJ (.Dict k v p) (À (.Name x q)) n env=pure false:=rfl
def KD (b:X.N.Nodup)(c:PE X (.Dict k v p) (tE T XE (fF l))) (e:X.N[i]? = À x)(f:Loc X.env.scope x)(d:X.fn x=true∨X.env.scope.names.lookup x=À .local) :
  PS X (.Assign [.Name x a] (.Dict k v p) pos) (tS T XE (ŷ i (fF l))):=GU b c e f BG d
end
end Mm
namespace Ro
open PySem L2 Mm
def ax (l t:Á Addr)(i:Nat):Addr:=if i < 20 then l.getD i 0 else t.getD (i - 20) 0
def Sk {K:É}{C:Addr}{nm:Str}{bm:Á Value}{b:Ê Value}(x:iI K C nm bm b)(ga:ú K (.ref C) "__getattribute__"=À (À (.builtin "BaseException.__getattribute__"))) (gx:ú K (.ref C) "__getattr__"=À none) (ca:ú K (.ref C) "__class__"=À (À (.builtin "object.__class__")))
  (cn:fx K (.builtin "object.__class__") "__get__"=À (À (.builtin "getset_descriptor.__get__"))) (ct:ic K (.builtin "object.__class__")=À true):Jy K C:=by
 have a:∀ {l:Á Value},o8 K l->l.contains (.type "BaseException")=true/\l.contains (.type "object")=true:=by
  intro l t;induction t with
  | base=>exact⟨by decide +kernel,by decide +kernel⟩
  | own _ _ _ _ c=>rw[ņ,ņ,c.1,c.2];exact⟨dQ _,dQ _⟩
 refine { ga:=ga,gx:=gx,sb:=?_,ca:=ca,cn:=cn,ct:=ct,cm:=?_,cl:=x.Mi }
 ·rw[x.mro,ņ,(a x.tail).1,dQ]
 ·show wM K (.ref C) (.type "object")=À true;rw[x.mro,ņ,(a x.tail).2,dQ]
structure xf (K:É)(mg:Str->Ê Value)(C:Addr)(nm:Str)(bm:Á Value)(AB:Ê Value):Prop where
 tl:o8 K bm->iI K C nm bm AB/\(AB=none->o8 K (.ref C :: bm))
 is:iI K C nm bm AB->Jy K C
 kp:ī K (.ref C)=true
 gl:mg nm=À (.ref C)
def pP {K:É}{h:Heap}{mg:Str->Ê Value}{C N:Addr}{nm q:Str}{bm bs sub:Á Value}{sn:Á Str}{ab:Bool}{col:Ê Bool}{dd nd:Ê Addr}{f g kc j m b:Ê Value}{o:Value}{c:Ă sC}{ep:Nat}{d:Ă (Ê Value)}(X:K.In h)(G:h.Ns mainGlobals mg)
  (a:Ď K mainGlobals nm=À (À (.ref C))) (l:K.lookup C=À (excClassObj nm q C N bs bm true sn sub ab col dd f g kc j m "ValueError.__new__")) (n:K.lookup N=À ⟨o,nd,.dict c ep,d⟩) (s:HS c=true) (k:ī K (.ref C)=true)
  (ga:ú K (.ref C) "__getattribute__"=À (À (.builtin "BaseException.__getattribute__"))) (gx:ú K (.ref C) "__getattr__"=À none) (ca:ú K (.ref C) "__class__"=À (À (.builtin "object.__class__")))
  (cn:fx K (.builtin "object.__class__") "__get__"=À (À (.builtin "getset_descriptor.__get__"))) (ct:ic K (.builtin "object.__class__")=À true) (i:nsFind c "__init__"=b):xf K mg C nm bm b:=
 ⟨λ t=>⟨⟨⟨_,_,_,_,_,_,_,_,_,_,_,_,_,_,l,⟨_,_,_,_,_,n,s,λ _=>rfl⟩,i⟩,t⟩,λ e=>.own l ⟨_,_,_,_,_,n,s,λ _=>rfl⟩ (i.trans e) t⟩,λ x=>Sk x ga gx ca cn ct,k,gz X G a⟩
def To {K:É}{mg:Str->Ê Value}{b e f g j k l m o:Addr}{r t:Á Addr}{M N:Ê Value}(x0:xf K mg b "RoyalError" sJ none)(x1:xf K mg e "BadFraction" (.ref b :: sJ) none) (x2:xf K mg f "Taken" (.ref b :: sJ) none) (x3:xf K mg g "NoName" (.ref b :: sJ) none) (x4:xf K mg j "TooMuch" (.ref b :: sJ) none) (x5:xf K mg k "NoRate" (.ref b :: sJ) none) (x6:xf K mg l "NoneLeft" (.ref b :: sJ) none) (x7:xf K mg m "Endless" (.ref b :: sJ) M) (x8:xf K mg o "BadRow" (.ref b :: sJ) N) :
  Xs ⟨K,ax (b :: e :: f :: g :: j :: k :: l :: m :: o :: r) t⟩ mg:=by
 obtain⟨q,d⟩:=x0.tl .base;have c:=d rfl;have s:=(x1.tl c).1;have u:=(x2.tl c).1;have v:=(x3.tl c).1;have w:=(x4.tl c).1;have x:=(x5.tl c).1;have y:=(x6.tl c).1;have z:=(x7.tl c).1;have A:=(x8.tl c).1;have a:∀ {p:Nat->Prop},p 0->p 1->p 2->p 3->p 4->p 5->p 6->p 7->p 8->∀ i,i < 9->p i:=λ {p} B C D E F G H I J i L=>by
  match i,L with
  | 0,_=>exact B
  | 1,_=>exact C
  | 2,_=>exact D
  | 3,_=>exact E
  | 4,_=>exact F
  | 5,_=>exact G
  | 6,_=>exact H
  | 7,_=>exact I
  | 8,_=>exact J
  | n+9,h=>exact absurd h (by omega)
 refine⟨a ⟨_,q,λ _=>rfl⟩ ⟨_,s,λ _=>rfl⟩ ⟨_,u,λ _=>rfl⟩ ⟨_,v,λ _=>rfl⟩ ⟨_,w,λ _=>rfl⟩ ⟨_,x,λ _=>rfl⟩ ⟨_,y,λ _=>rfl⟩ ⟨_,z,λ h=>absurd h (by omega)⟩ ⟨_,A,λ h=>absurd h (by omega)⟩,
  a (x0.is q) (x1.is s) (x2.is u) (x3.is v) (x4.is w) (x5.is x) (x6.is y) (x7.is z) (x8.is A),a x0.kp x1.kp x2.kp x3.kp x4.kp x5.kp x6.kp x7.kp x8.kp,a x0.gl x1.gl x2.gl x3.gl x4.gl x5.gl x6.gl x7.gl x8.gl⟩
structure TZ (K:É)(C:Addr)(fs:Á Str):Prop where
 c:y9 K C
 na:∀ f∈fs,jG K C f
def Qz {K:É}{C:Addr}{fs:Á Str}{nm:Str}(a:Ď K mainGlobals nm=À (À (.ref C))) (b:gh K C fB=true)(hd:jZ K C=true)(c:qb K C=true)(d:ú K (.ref C) "__setattr__"=À (À (.builtin "object.__setattr__"))) (na:∀ f∈fs,ú K (.ref C) f=À none):TZ K C fs:=⟨⟨b,hd,c,d⟩,na⟩
def TZ.bk {T:Tx}{C:Addr}{c:Nat}{fs:Á Str}(h:TZ T.K C fs)(e:T.cl c=C):Bk T c fs:=⟨by rw[e];exact h.c,λ f a=>by rw[e];exact h.na f a⟩
def bK {K:É}{cl:Nat->Addr}{c:Nat}{C:Addr}{m b:Str}{st:Stmt}{f:Addr}{n:Value}{od i:Ê Addr}{h:Ă (Ê Value)}{kV g o d ct:Value}(e:cl c=C)(a:ú K (.ref C) m=À (À (.ref f)))
  (l:K.lookup f=À ⟨n,od,.func (ń m b (bW st) (ao st) (đ st) .none kV g o i d ct),h⟩) (j:cW K d b=true) (k:ī K (.ref f)=true) (fn:lL K (.ref f)=true):eD ⟨K,cl⟩ c m b st:=
 ⟨f,_,xB l j k,by show Meth K (cl c) m f;rw[e];exact⟨a,fn,k⟩⟩
def Nf {K:É}{cl:Nat->Addr}{h:Heap}{mg:Str->Ê Value}{c:Nat}{C:Addr}{nm b:Str}{st:Stmt}{f:Addr}{p:Value}{od m:Ê Addr}{j:Ă (Ê Value)}{kV i q d ct:Value}(X:K.In h)(G:h.Ns mainGlobals mg)(e:cl c=C)(g:Ď K mainGlobals nm=À (À (.ref C))) (a:ú K (.ref C) "__init__"=À (À (.ref f)))
  (l:K.lookup f=À ⟨p,od,.func (ń "__init__" b (bW st) (ao st) (đ st) .none kV i q m d ct),j⟩) (n:cW K d b=true) (k:ī K (.ref f)=true) (fn:lL K (.ref f)=true) (o:s_ K C=true) (kc:ī K (.ref C)=true):Qq ⟨K,cl⟩ mg c nm b st:=
 ⟨f,_,xB l n k,by show Mk K (cl c) f;rw[e];exact⟨o,a,fn,kc⟩,by show mg nm=À (.ref (cl c));rw[e];exact gz X G g⟩
def FF {K:É}{cl:Nat->Addr}{h:Heap}{mg:Str->Ê Value}{x:Str}{st:Stmt}{i:Nat}{f b P:Addr}{n:Value}{od j:Ê Addr}{g:Ă (Ê Value)}{kV d o ct:Value}(X:K.In h)(G:h.Ns mainGlobals mg)(e:cl i=P)(a:Ď K mainGlobals x=À (À (.ref f)))
  (l:K.lookup f=À ⟨n,od,.func (ń x x (bW st) (ao st) (đ st) .none kV d o j (.ref b) ct),g⟩) (c:cW K (.ref b) x=true) (k:ī K (.ref f)=true) (m:ť K b P=true):L8 ⟨K,cl⟩ mg x st i:=
 ⟨f,_,b,xB l c k,gz X G a,rfl,by show ť K b (cl i)=true;rw[e];exact m⟩
def MI {K:É}{x:Str}{st:Stmt}{f b P:Addr}{i:Value}{od g:Ê Addr}{e:Ă (Ê Value)}{kV d j ct:Value}(a:Ď K mainGlobals x=À (À (.ref f)))
  (l:K.lookup f=À ⟨i,od,.func (ń x x (bW st) (ao st) (đ st) .none kV d j g (.ref b) ct),e⟩) (h:ť K b P=true):∃ c,ť K c P=true:=⟨b,h⟩
def Oo {p:Str->Prop}:∀ f∈([]:Á Str),p f:=λ _ h=>nomatch h
end Ro
namespace L2
open PySem PySem.Spec PyProof.Rows
section
variable {X:Cx}{õ:Á (Addr × Obj)}{σ:St}{H:Hp}{s:Ò}
def Inv.MD (I:Inv X õ σ H s)(e:H a=À u)(n:∀ v,X.vt a=À v->(∀ xs,v≠.tup xs)/\(∀ o w,v≠.hV o w)/\∀ ps,v≠.pU ps) (r:∀ xs,u≠.tup xs)(t:∀ x,u≠.own x)(k:Ŕ X.prog X.w H s.heap a f):Inv X õ σ (upd H a f) s:=by
 have d:∀ b,H b=none->upd H a f b=none:=λ b z=>by rw[ä λ y=>by rw[y,e]at z;cases z];exact z
 have t1:∀ b xs,H b=À (.tup xs)->upd H a f b=À (.tup xs):=λ b xs z=>by
  rw[ä λ y=>by rw[y,e]at z;exact r _ (æ z)];exact z
 have st:∀ b o,Ŕ X.prog X.w H s.heap b o->Ŕ X.prog X.w (upd H a f) s.heap b o:=λ b o z=>z.nE (λ _ _ _ q=>q) (λ c q=>by
  rw[ä λ y=>by rw[y,e]at q;exact t _ (æ q)];exact q) t1
 have g:∀ b v,X.vt b=À v->((∃ xs,v=.tup xs)∨(∃ o w,v=.hV o w)∨∃ ps,v=.pU ps)->b≠a:=λ b v z q y=>by
  subst y;obtain⟨j,l,m⟩:=n v z;rcases q with⟨_,q⟩|⟨_,_,q⟩|⟨_,q⟩
  ·exact j _ q
  ·exact l _ _ q
  ·exact m _ q
 refine⟨I.ok,I.os,I.bare,⟨I.base.keep,I.base.slot,λ b o q n x=>d _ (I.base.free b o q n x),I.base.there,λ b xs z=>?_,λ b o w z=>?_,λ b ps z=>?_⟩,I.loc,I.cell,d _ I.free,λ x c z=>d _ (I.iS x c z),λ p i=>let ⟨A,B,C⟩:=I.pin p i;⟨A,d _ B,C⟩,λ b o z=>?_,I.len⟩
 ·rw[ä (g b _ z (.inl ⟨_,rfl⟩))];exact I.base.ky b xs z
 ·rw[ä (g b _ z (.inr (.inl ⟨_,_,rfl⟩)))];exact I.base.iU b o w z
 ·rw[ä (g b _ z (.inr (.inr ⟨_,rfl⟩)))];exact I.base.uT b ps z
 ·by_cases h:b=a
  ·subst h;rw[ù]at z;cases z;exact st _ _ k
  ·rw[ä h]at z;exact st _ _ (I.ś b o z)
def Inv.X6 (I:Inv X õ σ H s)(e:H a=À (.dT ks)):∀ v,X.vt a=À v->(∀ xs,v≠.tup xs)/\(∀ o w,v≠.hV o w)/\∀ ps,v≠.pU ps:=λ v z=>
 ⟨(λ xs q=>by subst q;have:=I.base.ky a _ z;rw[e]at this;cases this),(λ o w q=>by subst q;have:=I.base.iU a _ _ z;rw[e]at this;cases this),λ ps q=>by subst q;obtain⟨_,this⟩:=I.base.uT a _ z;rw[e]at this;cases this⟩
end
def Xf (a:Addr)(o:Obj):It:=
 ⟨λ i H=>∃ b,H a=À (.hV o (.dT b))/\i < b.length,λ i H x A=>A=H/\∀ b,H a=À (.hV o (.dT b))->∃ c p,b[i]? = À c/\x=.ref p/\H p=À (.tup (c.1.map kV)),λ i H=>∃ b,H a=À (.hV o (.dT b))/\b.length<=i⟩
def zy {X:Cx}(I:Inv X q z H s)(e:H a=À (.hV o (.dT ks))) (hd:o.data=.dict c ep):s.heap.get? a=À o/\c.size=ks.length/\∀ (i:Nat) (h:i < c.size),∃ n p,ks[i]? = À n/\c[i].key=.ref p/\H p=À (.tup (n.1.map kV)):=by
 obtain⟨f,_,_,xs,b,y,t,r,g,_,j,k,_⟩:=(show Ŕ X.prog X.w H s.heap a (.hV o (.dT ks)) from I.ś a _ e)
 rw[f]at g;cases g;rw[hd]at j;cases j;have hl:c.size=ks.length:=by rw[<-Į,k,Î,<-b.length]
 refine⟨f,hl,λ i l=>?_⟩;have m:i < xs.length:=by rw[<-b.length,<-hl];exact l
 obtain⟨p,u,x,v,_⟩:=Paired.at b (Å m);refine⟨p,xs[i].2.1,u,?_,v⟩;have d:c.toList[i]? = À (entryOfKey (lE (ů X.prog X.w)) xs[i]):=by rw[k,è,Å m];rfl
 rw[aa,Ž l]at d;rw[æ d];rfl
def Ia {P:Ĉ}{w:Ĩ}{K:É}{tg:Expr}{o:Obj}(a it:Addr)(hd:o.data=.dict es ep):Turn P w K tg (Xf a o) [it] it (λ i h=>h.get? it=À (Dx.Gg a i es.size ep)) where
 mem:=by simp
 obj:=λ i h st b hb=>by
  have e:b=it:=by simpa using hb
  subst e;exact⟨_,st,(λ v z=>nomatch z)⟩
 keep:=λ i h h' st k=>k it (by simp) _ st
 item:=by
  intro X hP hw hK hc i õ s σ H E I hf st hg;subst hP hw hK;obtain⟨ks,hq,hx⟩:=hg;obtain⟨h0,hl,hk⟩:=zy I hq hd;obtain⟨f0,f1,f2,f3,f4,f5⟩:=hf it (by simp);have hi:i < es.size:=by rw[hl];exact hx
  obtain⟨kv,p,k1,k2,k3⟩:=hk i hi;refine Dx.G3 st h0 hd hi λ h' HR sb=>?_;have I1:Inv X õ σ H { s with heap:=h' }:=I.turned (t':=s.toks) sb f0 f1 f3 f4 f5;exact⟨_,rfl,Cj (s:={ s with heap:=h' }) HR rfl rfl (by decide) ⟨.ref p,H,I1,k2,⟨rfl,λ ys hy=>by rw[hq]at hy;cases hy;exact⟨kv,p,k1,rfl,k3⟩⟩,HR,λ b hb=>(hf b hb).1⟩⟩
 done:=by
  intro X hP hw hK hc i õ s σ H E I hf st hg;subst hP hw hK;obtain⟨ks,hq,hx⟩:=hg;obtain⟨h0,hl,_⟩:=zy I hq hd;obtain⟨f0,f1,f2,f3,f4,f5⟩:=hf it (by simp);exact Dx.D8 (I.ok.hd hc) st (by rw[hl];exact hx) h0 hd λ h' eb=>⟨rfl,I.turned (t':=s.toks) eb f0 f1 f3 f4 f5⟩
 self:=λ _ _ _ _ _ st h=>wpAny_pyIter_keyiter ⟨_,st,rfl,rfl⟩ h
def Vo (tl:TE):TI:=λ e H R=>tl e H λ x A=>∃ a b,x=.ref a/\A a=À (.dT b)/\∀ o d c,o.data=.dict d c->R (Xf a o) (upd A a (.hV o (.dT b)))
def K8 {X:Cx}(hl:PE X l tl):PI X G l (Vo tl):=by
 intro c s m H R I h;refine Ź (hl c s m H _ I h) λ v d E=>iF E λ x C A y u=>?_;obtain⟨a,k,e,g,q⟩:=u;subst e;cases y;have j:=(show Ŕ X.prog X.w C d.heap a (.dT k) from A.ś a _ g)
 obtain⟨_,lo,xs,D,o,p,n,i,r,f,F,_⟩:=id j;refine Dx.DP lo i r f ?_;have B:Inv X c m (upd C a (.hV o (.dT k))) d:=A.MD g (A.X6 g) (λ _ z=>nomatch z) (λ _ z=>nomatch z) ⟨i,j⟩;refine⟨d.heap.objs.size,[d.heap.objs.size],_,_,_,rfl,B.kept (t':=d.toks) λ b o e=>Ã _ e,Ia a _ f,Ö _ rfl,λ b t=>?_,q o p n f⟩;have e:b=d.heap.objs.size:=by simpa using t
 subst e;exact B.zx (Ì _) (B.ś.fresh (Ì _))
theorem ro {prog:Ĉ}{w:Ĩ}{A:į}{C:Bool->Ò->Prop}(h:C false s):∀ (l:Á Value) (i:Nat),PySem.W.KatLex prog w A b false C (l.zip l) i s
 | [],_=>IM h
 | _ :: l,i=>gg (md (lY (ro h l (i+1))))
end L2
namespace Mm
open PySem L2
def rN (T:Tx):Rl (Á AV) V:=⟨λ _ a H v x=>∃ p xs,x=.ref p/\H p=À (.tup xs)/\ĩ T a H v xs,λ _ h=>h⟩
abbrev tN (T:Tx)(XE:jg)(m:fu):TE:=tG T XE (rN T) m
def pj:Á AV->Ê (Á Key)
 | []=>À []
 | v :: r=>(fg v).bind λ k=>(pj r).map (k :: ·)
def DD (s:S)(i:Nat):Ê (Á (Á Key × AV)):=match s[i]? with
 | some (.dT xs)=>À xs
 | _=>none
def mN {s:S}{i:Nat}{xs:Á (Á Key × AV)}(h:DD s i=À xs):s[i]? = À (.dT xs):=by
 unfold DD at h;split at h
 ·cases h;assumption
 ·cases h
def FC {s:S}{i:Nat}{xs:Á (Á Key × AV)}(h:s[i]? = À (.dT xs)):DD s i=À xs:=by unfold DD;rw[h]
section
variable {T:Tx}{XE:jg}{X:Cx}{pos:kK}
theorem mW {ρ:Á Addr}{H:Hp}:∀ {vs:Á AV}{ks:Á Key}{xs:Á V},pj vs=À ks->ĩ T ρ H vs xs->xs=ks.map kV
 | [],ks,xs,h,k=>by
  cases h;unfold ĩ at k;exact k
 | v :: r,ks,xs,h,k=>by
  obtain⟨x,e,rfl,c,d⟩:=k.cons_inv;unfold pj at h;cases a:fg v with
  | none=>rw[a]at h;cases h
  | some q=>
   rw[a]at h;cases b:pj r with
   | none=>rw[b]at h;cases h
   | some t=>
    rw[b]at h;cases h;rw[gq a c,mW b d];rfl
def SR.FA {ρ:Á Addr}{H:Hp}{s:S}(j:SR T ρ s H){i:Nat}{xs:Á (Á Key × AV)}(e:s[i]? = À (.dT xs)) {x:V}(h:VR T ρ H (.ref i) x):∃ (a:Addr) (vs:Á (Á Key × V)),x=.ref a/\ρ[i]? = À a/\H a=À (.dT vs)/\xs.map (·.1)=vs.map (·.1)/\ĩ T ρ H (xs.map (·.2)) (vs.map (·.2)):=by
 obtain⟨a,c,vs,f,g⟩:=j.obj i _ e;obtain⟨b,d,rfl⟩:=h.fi;rw[c]at d;cases d;exact⟨a,vs,rfl,c,f,g⟩
def xT (r:fu):fu:=λ a s=>(r a s).bind λ b c=>if b.length<=sizeLine then .ok b c else .bad
def Bh {f:Á Expr}{k:Nat}{r:fu}(h:PA X f (tP T XE r)):PE X (.Tuple f k pos) (tN T XE (xT r)):=
 PE.imp (Br h) λ t H Q ⟨q,g,s,m,j,l⟩=>step m j l λ v n e A x _ o c i a b=>by
  obtain⟨hl,b⟩:=b.Œ;have a:ĩ T e A v x:=a;exact⟨by rw[<-a.length];exact hl,λ p d=>b _ _ _ (c.du d) (c.new d) ⟨p,x,rfl,ù,ĩ.up (c.du d) a⟩⟩
def wo (r:fu)(n:Ev):Ev:=λ a s=>(xT r a s).bind λ f e=>(n a e).bind λ d c=>match d with
 | .ref i=>need (DD c i) λ b=>need (pj f) λ k=>.ok (.bl (ũ b k).isSome) c
 | _=>.bad
def JJ {r:fu}{n:Ev}{u:St}{H:Hp}{Q:VK}(h:tE T XE (wo r n) u H Q) :
  tN T XE (xT r) u H λ y B=>tE T XE n u B λ x A=>∃ a o,x=.ref a/\iH A a y o/\Q (.bl o.isSome) A:=by
 obtain⟨ρ,I,s,Y,N,P⟩:=h;refine step Y N P λ vs s1 m B y _ u1 j f l g=>step j f g λ w s2 q A x _ Z e J c b=>?_;have c:VR T q A w x:=c;obtain⟨p,xs,rfl,U,vx⟩:=(show ∃ p xs,y=.ref p/\B p=À (.tup xs)/\ĩ T m B vs xs from l)
 cases w with
 | ref i=>
  obtain⟨d,F,b⟩:=b.î;obtain⟨k,G,b⟩:=b.î;obtain⟨a,C,rfl,ea,M,D,E⟩:=e.FA (mN F) c;have O:A p=À (.tup (k.map kV)):=by rw[<-mW G vx];exact Z.ky p xs U
  refine⟨a,iA C k,rfl,iH.t M O,?_⟩;have:(iA C k).isSome=(ũ d k).isSome:=by
   cases v:ũ d k with
   | none=>rw[(dk k D E).2 v];rfl
   | some z=>obtain⟨x',L,_⟩:=(dk k D E).1 z v;rw[L];rfl
  rw[this];exact b.Ľ e cO
 | _=>exact b.elim
def Lm {a:Á Expr}{e:Nat}{f:kK}{o:Expr}{r:fu}{n:Ev}(hu:X.A.units+1 < cLine)(c:PA X a (tP T XE r)) (d:PE X o (tE T XE n)) (b:ž .In o=false:=by rfl):PT X (.Compare (.Tuple a e f) [.In] [o] pos) (jV T XE (cB (wo r n))):=
 PT.imp (Bw (Bq hu (Bh c) d) b) λ g H Q h=>JJ (CV h)
def uG (d:Ev)(r:fu)(v:Ev):Ms:=λ e s=>(v e s).bz λ a h=>(d e h).bz λ b j=>(xT r e j).bz λ c g=>match b with
 | .ref i=>match DD g i,pj c with
  | some f,À k=>if f.length < sizeLine then .nx e (g.set i (.dT (jT f k a))) else .bad
  | _,_=>.bad
 | _=>.bad
def GR {o e:Expr}{E:Á Expr}{Y:Nat}{tp g:kK}{m r:Ev}{n:fu}(hu:X.A.units+1 < cLine)(G:PE X o (tE T XE m)) (hi:PA X E (tP T XE n)) (hv:PE X e (tE T XE r)) (L:dJ e (À (.Subscript o (.Tuple E Y tp) g)) pos.line X.env=pure false:=by rfl) :
  PS X (.Assign [.Subscript o (.Tuple E Y tp) g] e pos) (tS T XE (uG m n r)):=
 PS.imp (CO hu G (Bh hi) hv L) λ D σ H ⟨ρ,env,s,L,he,G⟩=>dt L he G λ v s1 ML H1 x _ u1 N u j I=>dt N u I λ d s2 Ut H2 y _ u2 O w l J=>dt O w J λ c s3 f B z _ u3 h C P b=>by
  have l:VR T f B d y:=VR.up u3 l;have j:VR T f B v x:=VR.up (u2.trans u3) j;obtain⟨p,xs,rfl,hp,vx⟩:=(show ∃ p xs,z=.ref p/\B p=À (.tup xs)/\ĩ T f B c xs from P)
  split at b
  ·split at b
   ·rename_i i _ _ M k e1 e2;obtain⟨hl,b⟩:=b.Œ;obtain⟨a,Z,rfl,Q,U,q1,q2⟩:=h.FA (mN e1) l;have F:M.length=Z.length:=by have:=Ķ bE q1;simpa using this
    have hk:B p=À (.tup (k.map kV)):=by rw[<-mW e2 vx];exact hp
    refine⟨a,_,rfl,vr.t U hk (by rw[<-F];exact hl),?_⟩;obtain⟨p1,p2⟩:=sQ k j q1 q2;have q:Up f B f (upd B a (.dT (putK Z k x))):=h.rH Q U (λ _ z=>nomatch z) (λ _ _ z=>nomatch z);exact b f _ σ q (h.set Q q ⟨_,ù,p1,p2.up q⟩) (C.up q)
   ·exact b.elim
  ·exact b.elim
def DZ:Ev:=λ _ s=>.ok (.ref s.length) (s++[.dT []])
def NS:PE X (.Dict [] [] pos) (tE T XE DZ):=
 PE.imp Hj λ g H Q ⟨f,a,s,d,e,b⟩ p c=>b.alloc d c ⟨[],ù,rfl,.nil⟩
end
end Mm
namespace L2
open PySem PySem.Spec PyProof.Rows
def Lr:V->Á V->Hp->VK->Prop:=λ x b H Q=>∃ d a,x=.ref d/\b=[]/\H d=À (.dT a)/\∀ v,H v=none->Q (.ref v) (upd H v (.ext λ h=>h.IsItemsView v d))
def D7:IZ X "dict.items" Lr:=by
 rintro i s A H x xs v us Q I m rv ⟨d,b,rfl,rfl,j,q⟩;cases m;cases rv;obtain⟨z,hd,xs,l,o,p,n,c,f,t,u,y⟩:=(show Ŕ X.prog X.w H s.heap d (.dT b) from I.ś d _ j)
 have g:s.TypeIs (.ref d) "dict":=⟨o,c,f.1⟩
 refine ħ yB g PySem.F.entry_dict_items ?_ (PySem.F.args_dict_items_1 _);unfold bT.«dict.items» Wt Wu;refine Â (Â (wpAny_notOrdered_dict g (Ë ?_)));rw[Ô (by rw[hd];exact â)];exact Â (Ë (Â (ŗ (Ë ⟨_,rfl,.ref s.heap.objs.size,_,I.laid (a:=s.heap.objs.size) (o:=.ext λ h=>h.IsItemsView s.heap.objs.size d) (t':=s.toks) (λ _ _ q=>Ã _ q) (Ì _) ⟨⟨_,Ö _ rfl,rfl,rfl⟩,⟨_,Ö _ rfl⟩,λ c f ⟨o,e,r⟩ k=>⟨o,k o e,r⟩⟩,rfl,q _ (I.ś.fresh (Ì _))⟩))))
end L2
namespace Mm
open PySem L2
def oz:Á (Á Key × AV)->Ê (Á (Str × Int))
 | []=>À []
 | ([.inr x,.inl i],_) :: r=>(oz r).map ((x,i) :: ·)
 | _ :: _=>none
theorem uA:∀ {kvs:Á (Á Key × AV)}{ks:Á (Str × Int)},oz kvs=À ks->kvs.map (·.1)=ks.map dD
 | [],_,h=>by cases h;rfl
 | (k,v) :: r,ks,h=>by
  unfold oz at h;split at h
  ·rename_i e;cases e
  ·rename_i x i _ _ e;cases e;cases e:oz r with
   | none=>rw[e]at h;cases h
   | some q=>rw[e]at h;cases h;rw[Õ,uA e];rfl
  ·cases h
def k8 (m:Ev):fu:=λ b s=>(m b s).bind λ v d=>match v with
 | .ref i=>need (DD d i) λ a=>need (oz a) λ c=>if c.length < 64 then .ok ((uM c).map λ k=>.tup [.tup [.str k.1,.int k.2],(ũ a (dD k)).getD .Ę]) d else .bad
 | _=>.bad
section
variable {T:Tx}{XE:jg}{X:Cx}{pos:kK}
def D0 (hm:X.mg "sorted"=none)(hu:X.A.units+2 < cLine)(h:PE X e (tE T XE m)) (YN:X.calm=true:=by rfl)(hg:Gl X "sorted":=by rfl)
  (D:aF e "items" X.env (Ē e X.env)=Ē e X.env:=by rfl) (E:(ap.endLine == cp.line)=true:=by rfl)
  (he:Í [.Call (.Attribute e "items" ap) [] [] cp] X.env=(false,Ē (.Call (.Attribute e "items" ap) [] [] cp) X.env) :: Í [] X.env:=by rfl) (RE:(Ĝ pos (Í [] X.env)).any (·.1)=false:=by rfl) :
  PE X (.Call (.Name "sorted" p) [.Call (.Attribute e "items" ap) [] [] cp] [] pos) (tL T XE (k8 m)):=
 PE.imp (cM (A1 YN hu) hg hm Ÿ (aI (OH kM yB PySem.F.type_dict_items D7 h D E) eh he) (by decide) (by decide) he RE) λ σ H Q zz=>Ņ zz λ ρ env s hs he ho=>
  step hs he ho λ v s1 t Y x _ u1 B U' Wo d=>by
   cases v with
   | ref i=>
    obtain⟨P,e1,d⟩:=d.î;obtain⟨ks,e2,d⟩:=d.î;obtain⟨hl,d⟩:=d.Œ;obtain⟨a,U,rfl,ea,h1,q1,q2⟩:=B.FA (mN e1) Wo;refine⟨.inr (.inr (.inl ⟨rfl,.inr ⟨U,h1⟩⟩)),a,U,rfl,rfl,h1,λ v hv=>?_⟩;have YB:Y a=À (.dT U):=h1;refine⟨v,a,U,ks,rfl,ù,by rw[ä (Ń YB hv)];exact h1,by rw[<-q1];exact uA e2,hl,λ l C ws M k1 k2 k3 k4 k5=>?_⟩;have f:∀ b o,Y b=À o->C b=À o:=λ b o e=>k1 b o (by rw[ä (Ń e hv)];exact e);have N:Y l=none:=by
     by_cases O:l=v
     ·rw[O];exact hv
     ·rw[ä O]at M;exact M
    have up:Up t Y t C:=⟨⟨aK,λ b xs e=>f b _ e,λ b o u e=>f b _ e⟩,λ b o e n=>⟨f b o e,n⟩,λ b e=>by
     have:=k2 b e;by_cases L:b=v
     ·rw[L];exact hv
     ·rw[ä L]at this;exact this⟩
    have Po:SR T t s1 C:=B.up up.toGr λ b hb=>by
     obtain⟨u,hu⟩:=B.in hb;rw[hu];exact f b u hu
    refine d t C (.ref l) up Po ⟨l,ws,rfl,N,B.out N,k3,?_⟩;have len:(uM ks).length=ws.length:=by rw[(uN ks).length_eq,k4]
    have all:∀ (q:Á (Str × Int)) (c:Á V),q.length=c.length->(∀ (j:Nat) (k:Str × Int),q[j]? = À k->∃ I b x,c[j]? = À (.ref I)/\iA U (dD k)=À x/\C b=À (.tup [.str k.1,.int k.2])/\C I=À (.tup [.ref b,x]))->ĩ T t C (q.map λ k=>AV.tup [.tup [.str k.1,.int k.2],(ũ P (dD k)).getD .Ę]) c:=by
     intro q;induction q with
     | nil=>intro c y _;cases c with|nil=>exact .nil|cons _ _=>simp at y
     | cons k r ih=>
      intro c y g;cases c with
      | nil=>simp at y
      | cons w c=>
       obtain⟨I,b,x,Z,J,G,f3⟩:=g 0 k rfl;simp at Z;subst Z;refine .cons (i_ (fM.of f3) (.cons (i_ (fM.of G) (.cons hR (.one cj))) (.one ?_))) (ih c (by simpa using y) λ j k' hj=>g (j+1) k' (by simpa using hj));cases ev:ũ P (dD k) with
       | none=>rw[(dk (dD k) q1 q2).2 ev]at J;cases J
       | some v'=>
        obtain⟨x',ex,kx⟩:=(dk (dD k) q1 q2).1 v' ev;rw[J]at ex;cases ex;exact VR.up up kx
    exact all _ _ len λ j k hj=>by
     obtain⟨I,b,x,Z,J,G,f3⟩:=k5 j k hj;refine⟨I,b,x,Z,J,?_,f3⟩;have:b≠v:=λ z=>by rw[z,ù]at G;cases G
     rw[ä this]at G;exact f _ _ G
   | _=>exact d.elim
end
def RP:Key->AV
 | .inl i=>.int i
 | .inr x=>.str x
def tupK (k:Á Key):AV:=.tup (k.map RP)
def Af (m:Ev):Src:=λ b s=>(m b s).bind λ v c=>match v with
 | .ref i=>need (DD c i) λ a=>.ok (a.map λ p=>tupK p.1,[]) (c.set i (.Ck a))
 | _=>.bad
section
variable {T:Tx}{XE:jg}{X:Cx}{pos:kK}
theorem uX:∀ k:Á Key,ĩ T ρ H (k.map RP) (k.map kV)
 | []=>.nil
 | .inl i :: r=>.cons cj (uX r)
 | .inr x :: r=>.cons hR (uX r)
def Vy (h:PE X e (tE T XE m)):PI X tg e (tW T XE (Af m)):=
 PI.imp (K8 h) λ σ H R zz=>Ņ zz λ ρ M s hs Y Z=>step hs Y Z λ v s1 d B x _ u1 g O k c=>by
  have k:VR T d B v x:=k;cases v with
  | ref i=>
   obtain⟨b,I,c⟩:=c.î;obtain⟨a,f,rfl,C,D,t,q2⟩:=g.FA (mN I) k;refine⟨a,f,rfl,D,λ o P N hd=>?_⟩;have w:Up d B d (upd B a (.hV o (.dT f))):=g.rH C D (λ _ z=>nomatch z) (λ _ _ z=>nomatch z);refine c d _ _ w (g.set C w ⟨o,P,N,f,ù,hd,t,q2.up w⟩) ⟨λ y s' G u' u _=>?_⟩;have r:G a=À (.hV o (.dT f)):=u'.iU a _ _ ù;have hl:b.length=f.length:=by have:=Ķ bE t;simpa using this
   refine⟨λ j v l=>?_,⟨f,r,by rw[Î,hl];exact Ì _⟩⟩;rw[è]at l;have E:j < b.length:=by
    cases z:b[j]? with
    | none=>rw[z]at l;cases l
    | some q=>exact(Ç.mp z).1
   refine⟨⟨f,r,by rw[<-hl];exact E⟩,λ x A ⟨J,L⟩=>?_⟩;subst J;obtain⟨F,p,Q,rfl,U⟩:=L f r;refine⟨.refl,u,?_⟩;have n:(b[j]?).map (·.1)=À F.1:=by rw[<-è,t,è,Q];rfl
   rw[Å E]at l n;cases l;have n:b[j].1=F.1:=æ n;show VR T y A (tupK b[j].1) _;rw[n];exact i_ (fM.of U) (uX _)
  | _=>exact c.elim
def Ep (m:Ev)(b:Ms):Ms:=λ a s=>match m a s with
 | .ok (.ref i) _=>match b a s with
  | .nx e d=>match d[i]?,DD s i with
   | some (.Ck f),À _=>.nx e (d.set i (.dT f))
   | _,_=>.bad
  | .ex c d=>.ex c d
  | _=>.bad
 | _=>.bad
def Nr {H:Hp}{o:Obj}(e:H a=À (.hV o (.dT ks))):Gs ρ H ρ (upd H a (.dT ks)):=
 ⟨aK,λ {K b c} h=>by
  rcases h with(h|⟨o,h⟩)|h
  ·exact .inl (.inl (by rw[ä λ z=>by rw[z,e]at h;cases h];exact h))
  ·exact .inl (.inr ⟨o,by rw[ä λ z=>by rw[z,e]at h;cases h];exact h⟩)
  ·exact .inr h,λ {K b c} h=>by
  rcases h with⟨o,h⟩|h
  ·exact .inl ⟨o,by rw[ä λ z=>by rw[z,e]at h;cases h];exact h⟩
  ·exact .inr h⟩
def Oj (h:PS X st (tS T XE b)):PS X st (tS T XE (Ep m b)):=by
 intro A s σ H D I ⟨ρ,B,t,hs,he,d⟩;unfold Ep at d;split at d
 ·rename_i i _ _;cases r:b B t with
  | nx e1 N=>
   rw[r]at d;dsimp only at d;split at d
   ·rename_i kvs kv0 e2 e0;obtain⟨a,ea,ks0,Z,_⟩:=hs.obj i _ (mN e0);refine Ź (h A s σ H { nx:=λ F P=>∃ o U Q E,P a=À (.hV o (.dT E))/\o.data=.dict U Q/\D.nx F (upd P a (.dT E)),rt:=λ _ _=>False } I ⟨ρ,B,t,hs,he,?_⟩) λ f s' z=>?_
    ·rw[r];intro O H1 Uv J l M;obtain⟨Y,p,o,U,Q,E,h1,hd,q1,q2⟩:=l.obj i _ e2;have:Y=a:=by rw[yb J.pre ea]at p;exact(æ p).symm
     subst this;have g:=Nr (ρ:=O) h1;refine⟨o,U,Q,E,h1,hd,d O _ Uv ⟨⟨J.pre,λ b xs z=>?_,λ b o w z=>?_⟩,λ b o z n=>?_,λ b z=>?_⟩ ⟨l.nd,by simp[l.len],λ j o' G=>?_⟩ ⟨M.len,λ j v G=>?_⟩⟩
     ·rw[ä λ y=>by rw[y,Z]at z;cases z];exact J.ky b xs z
     ·rw[ä λ y=>by rw[y,Z]at z;cases z];exact J.iU b o w z
     ·rw[ä λ y=>n (by rw[y];exact ò ea)];exact J.fr b o z n
     ·by_cases hb:b=Y
      ·rw[hb,ù]at z;cases z
      ·rw[ä hb]at z;exact J.live b z
     ·by_cases C:i=j
      ·subst C;have hl:i < N.length:=(Ç.mp e2).1;rw[Č hl]at G;cases G;exact⟨Y,p,E,ù,q1,q2.gs g⟩
      ·rw[í C]at G;obtain⟨c,L,q3⟩:=l.obj j o' G;refine⟨c,L,q3.gs g (λ c oc w vs z k=>?_) (ä λ y=>C ?_)⟩
       ·rw[ä λ y=>by rw[y,h1]at z;cases z;rw[hd]at k;cases k];exact z
       ·subst y;exact(aX l.nd).mp ((Ç.mp p).2.trans (Ç.mp L).2.symm)
     ·obtain⟨x,ex,k⟩:=M.get j v G;exact⟨x,ex,k.gs g⟩
    ·cases f with
     | next=>
      obtain⟨F,P,I',o,U,Q,E,L,hd,q⟩:=z;have hk:=(show Ŕ X.prog X.w P s'.heap a (.hV o (.dT E)) from I'.ś a _ L)
      exact⟨F,_,I'.MD L (I.X6 Z) (λ _ z=>nomatch z) (λ _ z=>nomatch z) hk.2,q⟩
     | brk=>obtain⟨_,_,_,z⟩:=z;exact z.elim
     | cont=>obtain⟨_,_,_,z⟩:=z;exact z.elim
     | ret u=>obtain⟨_,_,_,_,_,z⟩:=z;exact z.elim
   ·exact d.elim
  | ex c N=>
   rw[r]at d;exact h A s σ H D I ⟨ρ,B,t,hs,he,by rw[r];exact d⟩
  | bk e N=>rw[r]at d;exact d.elim
  | ct e N=>rw[r]at d;exact d.elim
  | rt v N=>rw[r]at d;exact d.elim
  | bad=>rw[r]at d;exact d.elim
 ·exact d.elim
end
end Mm
namespace L2
open PySem PySem.Spec PyProof.Rows
def O9 (K:É):Á V->Hp->VK->Prop:=λ xs H Q=>∃ (l:Addr) (b:Á Addr) (c:Á (Str × Int)),xs=[.ref l]/\H l=À (.lst (b.map V.ref))/\c.length=b.length/\(∀ (j:Nat) (a:Addr) (k:Str × Int),b[j]? = À a->c[j]? = À k->∃ r,fM K H a (.str k.1 :: .int k.2 :: r))/\c.Nodup/\b.length < 64/\
 ∀ (p:Á Nat) (d:Addr),p.Perm (Ą b.length)->p.Pairwise (λ i j=>ub (c.getD i (⟨#[]⟩,0)) (c.getD j (⟨#[]⟩,0))=true)->H d=none->Q (.ref d) (upd H d (.lst (p.map λ i=>V.ref (b.getD i 0))))
def A0 {X:Cx}(hc:X.calm=true):bx X (.builtin "sorted") (O9 X.K):=by
 rintro B s σ H xs us Q I rv ⟨l,as,c,rfl,hH,hl,ht,nd,U,q⟩;obtain⟨u,rfl,ru⟩:=rv.one;cases (show u=Ñ l from ru);obtain⟨_,its,n,rel,hL⟩:=(show Ŕ X.prog X.w H s.heap l (.lst (as.map V.ref)) from I.ś l _ hH)
 have:=mZ rel;subst this;refine eM Ax w4 wX (Jq _) ?_;unfold bT.«sorted»;refine Â (m:=Di "sorted" 1 1 _) (Ë ?_);refine Â (collect_list (A:=X.A.in1) ⟨_,hL,rfl,n,rfl⟩ ?_ (by rw[Î];exact ė (ŝ (by lia))));have J:Inv X B σ H { s with heap:=(s.heap.push (č "list" #[] 0)).update s.heap.objs.size (ð (·++(as.map Ñ).toArray)) }:=I.grown (t':=s.toks) (λ b u e=>by
  rw[ç _ _ (ġ (Ó e))];exact Ã _ e) (λ _ _ _=>rfl) λ b o e z=>by
   obtain⟨u,hu⟩:=(I.ś _ o z).oE;rw[e]at hu;cases hu
 generalize { s with heap:=(s.heap.push (č "list" #[] 0)).update s.heap.objs.size (ð (·++(as.map Ñ).toArray)) }=s1 at J;have d:∀ (j:Nat) (a:Addr),as[j]? = À a->∃ (y:j < c.length) (t u:UR) (r:Á Value) (o:Obj) (n:Nat),s1.heap.get? a=À o/\o.cls=.type "tuple"/\o.data=.seq (.str c[j].1 t :: .int c[j].2 u :: r).toArray n:=λ j a E=>by
  have y:j < c.length:=by rw[hl];exact(Ç.mp E).1
  obtain⟨r,e⟩:=ht j a c[j] E (Å y);obtain⟨its,f,⟨o,D,g,n,e4⟩,_⟩:=J.tuple e;cases f with
  | cons e5 L=>
   cases L with
   | cons L e7=>
    obtain⟨t,rfl⟩:=e5;obtain⟨u,rfl⟩:=L;exact⟨y,t,u,_,o,n,D,g,e4⟩
 have kD:∀ i (F:i < c.length),kP (c.getD i (⟨#[]⟩,0))=kP c[i]:=λ i F=>by rw[Ā,Å F];rfl
 refine wD (A:=X.A.in1) (O:=oP) (κ:=tuples' true) (key:=λ i=>kP (c.getD i (⟨#[]⟩,0))) J U ?_ ?_ ?_
 ·intro A h' h2 G Q' hq;obtain⟨fs,k1,k2,k3⟩:=xJ (h:=h') (P:=λ v=>∃ (i:Str) (t:UR),v=.str i t) (as:=as) λ j a E=>by
   obtain⟨_,t,u,r,o,n,f,D,g⟩:=d j a E;exact⟨_,o,_,n,G _ _ f,D,g,_,t,rfl⟩
  refine EY (T:=.type "str") k1 (by rw[k3];lia) (λ v hv=>?_) (by decide) ?_
  ·obtain⟨i,t,rfl⟩:=k2 v hv;exact UQ rfl
  ·have e:(dz "str" != dz "tuple")=true:=by decide
   rw[e];exact hq
 ·intro h' G i j a b C ea M hC;obtain⟨F,t,u,r,o,n,f,D,g⟩:=d i a ea;obtain⟨y,t',u',r',o',n',N,f2,k⟩:=d j b M;refine Jo (G _ _ f) g (G _ _ N) k ?_;rw[kD i F,kD j y]at hC;by_cases x:i=j
  ·subst x;rw[ea]at M;cases M;rw[f]at N;cases N;rw[g]at k;injection k with k _
   rw[<-k,ö (ŏ _)];refine ro ?_ _ _;rw[oP.irrefl]at hC;exact hC
  ·have Ua:c[i]≠c[j]:=λ z=>x ((aX nd).mp z);have Y:(c[i].1 == c[j].1 && c[i].2 == c[j].2)=false:=by
    rw[nF];by_cases h1:c[i].1=c[j].1
    ·exact .inr (œ.mpr λ h2=>Ua (oQ h1 h2))
    ·exact .inl (œ.mpr h1)
   rw[ze Y]at hC;refine gg (eqBool_str ?_);cases hx:c[i].1 == c[j].1 with
   | false=>
    rw[hx,Ô â]at hC;exact vn (strKind_oneLt _ _ _ _ _ _ _ _ _ rfl rfl hC)
   | true=>
    rw[hx,Ï rfl]at hC;rw[hx,P']at Y;refine lY (gg ((wY X.prog X.w).eqBool (a:=c[i].2) (b:=c[j].2) (by simp[wY,kF]) (by simp[wY,kF]) ?_));rw[show decide (c[i].2=c[j].2)=false from ö (by simpa using Y)];exact vn (IP _ _ (Jn hC))
 ·intro p l' s' pr S2 Z I2;exact⟨.ref l',_,I2,rfl,q p l' pr (S2.imp λ h=>jw.mpr h.kle) Z⟩
def Inv.news {X:Cx}{t':Nat}(I:Inv X a p H s)(F:Fr X.base X.env.locals s.heap m)(A:Fr X.base X.env.locals h' m)(B:News X.base X.env.locals h' (sI X.base s.heap X.env.locals)):Inv X a p H { s with heap:=h',toks:=t' }:=by
 have c:∀ b o,b≠X.env.locals->s.heap.get? b=À o->h'.get? b=À o:=λ b o n e=>by
  cases z:X.base.get? b with
  | some w=>
   have:=F.keep b w z;rw[e]at this;cases this;exact A.keep b _ z
  | none=>exact(B (b,o) (zO n z e)).1
 have g:∀ b u,H b=À u->b≠X.env.locals:=λ b u e z=>by rw[z,I.free]at e;cases e
 refine I.step (g':=s.gens) (d':=s.drawn) (ch:=[]) (λ _ z=>nomatch z) (λ b o n _ _ e _=>c b o n e) (λ b o n _ _ e _=>⟨o.slots,c b o n e⟩) (λ b o _ e z=>z) (λ b o _ e=>?_) (λ b xs e=>e) (λ b o w e=>e) (λ b q e=>⟨#[],by rw[e];simp⟩) (λ k j=>?_) (λ b w e=>?_) I.bare
 ·by_cases f:b=X.env.locals
  ·obtain⟨l,_,_,h,_⟩:=A.ns;exact⟨l,by rw[f];exact h⟩
  ·exact⟨o,c b o f e⟩
 ·have i:k=m:=by
   funext y;exact j.agree F.ns y
  rw[i];exact A.ns
 ·refine(I.ś b w e).nE (λ d v hd z=>c d v ?_ z) (λ d z=>z) (λ d xs z=>z);rcases hd with y|y
  ·rw[y];exact g b w e
  ·exact g d _ y
def Dz {X:Cx}(i:X.calm=true):bx X (.builtin "max") (λ xs H Q=>∃ (a:Addr) (ns:Á Int),xs=[.ref a]/\H a=À (.lst (ns.map V.int))/\0 < ns.length/\∀ M,M∈ns->(∀ a,a∈ns->a<=M)->Q (.int M) H):=by
 rintro b s v H xs us Q I r ⟨a,ns,rfl,f,c,q⟩;obtain⟨u,rfl,k⟩:=vals1 r;cases k;obtain⟨j,rv,p,n⟩:=I.list (eS.of f);obtain⟨m,F⟩:=I.fr;exact max_list_N (I.ok.hd i) F (G1 (g:=X.base) (h:=s.heap) (L:=X.env.locals)) p.isList (intsAre_of rv) c λ l M t o A B d e=>⟨.int M,H,I.news F A B,⟨t,rfl⟩,q M d e⟩
theorem bc.at {K:É}:∀ {ds:Á Dt}{as:Á Addr},bc K N H ds (as.map V.ref)->ds.length=as.length/\∀ (j:Nat) (d:Dt) (a:Addr),ds[j]? = À d->as[j]? = À a->Rep K N H d (.ref a)
 | [],[],_=>⟨rfl,λ j d a e=>by simp at e⟩
 | [],_ :: _,h=>by unfold bc at h;cases h
 | d :: ds,[],h=>by unfold bc at h;obtain⟨_,_,z,_⟩:=h;cases z
 | d :: ds,a :: as,h=>by
  unfold bc at h;obtain⟨x,n,z,k,m⟩:=h;cases z;obtain⟨l,g⟩:=bc.at m;refine⟨by simp[l],λ j i f b c=>?_⟩;cases j with
  | zero=>simp at b c;subst b c;exact k
  | succ j=>exact g j i f (by simpa using b) (by simpa using c)
theorem Ca:∀ {ds:Á Dt}{j:Nat}{d:Dt},ds[j]? = À d->d.dep<=ay ds
 | [],_,_,e=>by simp at e
 | d :: r,0,_,e=>by simp at e;subst e;simp only[ay];lia
 | d :: r,j+1,a,e=>by
  have:=Ca (ds:=r) (j:=j) (d:=a) (by simpa using e);simp only[ay];lia
theorem Fc:∀ {ds:Á α}{as:Á e},ds.length=as.length->(∀ (j:Nat)(d:α)(a:e),ds[j]? = À d->as[j]? = À a->f a=g d)->as.any f=ds.any g
 | [],[],_,_=>rfl
 | d :: ds,a :: as,hl,h=>by
  rw[ř,ř,h 0 d a rfl rfl,Fc (ds:=ds) (as:=as) (by simpa using hl) λ j d a b c=>h (j+1) d a (by simpa using b) (by simpa using c)]
def OB {X:Cx}(hu:X.A.units+30 < cLine):jf X (ĥ .In) (λ x y H Q=>∃ (p:Addr) (as:Á Addr) (ds:Á Dt) (b:Dt) (N B:Addr->Prop),y=.ref p/\H p=À (.lst (as.map V.ref))/\bc X.K N H ds (as.map V.ref)/\Rep X.K B H b x/\ay ds<=20/\Q (.bl (ds.any λ d=>bH d b)) H):=by
 rintro z s σ H x y v u Q I T U ⟨p,as,ds,b,N,B,rfl,J,hr,L,hd,q⟩;cases U;obtain⟨M,r,P,Z⟩:=I.list (eS.of J);have:=mZ r;subst this;obtain⟨hl,c⟩:=bc.at hr;obtain⟨e,o⟩:∃ e:Value->Bool,∀ (j:Nat) (d:Dt) (a:Addr),ds[j]? = À d->as[j]? = À a->e (.ref a)=bH d b:=by
  classical
  refine⟨λ u=>decide (∃ (j:Nat) (d:Dt) (a:Addr),ds[j]? = À d/\as[j]? = À a/\u=.ref a/\bH d b=true),λ j d a f k=>?_⟩;cases h:bH d b with
  | true=>exact ć ⟨j,d,a,f,k,rfl,h⟩
  | false=>
   refine ö ?_;rintro⟨O,C,Y,D,E,F,m⟩;cases F;rw[Rep.inj I (c O C a D E) (c j d a f k),h]at m;cases m
 refine L5 e P.isList (λ w hw=>?_) ⟨.bl _,H,I,rfl,?_⟩
 ·have hw:w∈as.map Ñ:=by simpa using hw
  obtain⟨a,G,rfl⟩:=ĕ.mp hw;obtain⟨j,t,rfl⟩:=İ G;have n:=Å t;have g:=Å (l:=ds) (i:=j) (by rw[hl];exact t);rw[o j _ _ g n];exact tI I 20 X.A.in1 (by show X.A.units+1+20 < _;lia) _ _ (Đ (Ca g) hd) (c j _ _ g n) L rfl T
 ·have f:(as.map Ñ).toArray.any e=ds.any λ d=>bH d b:=by
   rw[<-Fc hl o];simp;rfl
  rw[f];exact q
end L2
namespace Mm
open PySem L2
section
variable {T:Tx}{XE:jg}{X:Cx}{pos:kK}
def RM:AV->Bool
 | .tup _=>true
 | _=>false
def J1 (h:RM v=true):∃ xs,v=.tup xs:=by
 cases v with
 | tup xs=>exact⟨xs,rfl⟩
 | _=>cases h
def z9 (xs:Á AV)(s:S):R AV:=need (lF xs) λ a=>need a.max? λ M=>.ok (.int M) s
def QC (h:X.calm=true):bx X (.builtin "max") (P8 T XE (rV T) z9):=by
 rintro c s l H xs us Q I r ⟨a,m,o,n,st,e,j,f,k,b⟩;subst e;obtain⟨i,e,b⟩:=b.î;obtain⟨M,d,b⟩:=b.î;rw[wa e]at k;rw[k.zB]at f;rw[C6]at d;refine Dz h c s l H _ us Q I r ⟨a,i,rfl,f,List.length_pos_of_mem d.1,λ A f g=>?_⟩;rw[show A=M by have:=d.2 A f;have:=g M d.1;lia];exact b.Ľ j cj
def zW:AV->AV->S->R AV
 | v,.ref i,s=>need (toD 20 s v) λ b=>need (ô s i) λ xs=>need (xs.mapM (toD 20 s)) λ a=>if xs.all RM=true/\ay a<=20 then .ok (.bl (a.any λ d=>bH d b)) s else .bad
 | _,_,_=>.bad
def VE (j:X.K=T.K)(hu:X.A.units+30 < cLine):jf X (ĥ .In) (vI T XE zW):=by
 rintro e s F H x y v u Q I z B ⟨E,a,b,st,g,C,D,c⟩;cases b<;>try (cases a<;>exact c.elim)
 rename_i i;have c:Out T XE (rV T) E H (need (toD 20 st a) λ h=>need (ô st i) λ xs=>need (xs.mapM (toD 20 st)) λ f=>if xs.all RM=true/\ay f<=20 then .ok (.bl (f.any λ d=>bH d h)) st else .bad) Q:=by cases a<;>exact c
 obtain⟨h,m,c⟩:=c.î;obtain⟨xs,n,c⟩:=c.î;obtain⟨f,o,c⟩:=c.î;obtain⟨⟨q,r⟩,c⟩:=c.Œ;obtain⟨p,G,rfl,_,t,k⟩:=g.dP (ď n) D;obtain⟨l,rfl,_,_⟩:=pH (λ v w=>J1 (ñ.mp q v w)) k;refine OB hu e s F H _ _ v u Q I z B ⟨p,l,f,h,λ _=>False,λ _=>False,rfl,t,?_,?_,r,c.Ľ g cO⟩
 ·exact j ▸ pJ (λ v d x=>lB g 20 v d x) o k
 ·exact j ▸ lB g 20 _ _ _ m C
def ue (d:Ev)(r:fu):Ev:=λ a s=>(d a s).bind λ b g=>(xT r a g).bind λ c f=>match b with
 | .ref i=>need (DD f i) λ e=>need (pj c) λ k=>need (ũ e k) λ v=>.ok v f
 | _=>.bad
def GC (hu:X.A.units+1 < cLine)(j:PE X o (tE T XE m)) (J:PA X E (tP T XE r)):PE X (.Subscript o (.Tuple E kk tp) pos) (tE T XE (ue m r)):=
 PE.imp (CL hu j (Bh J) (λ _ _=>rfl)) λ σ H Q zz=>Ņ zz λ ρ C s N I j=>step N I j λ b s1 ML H1 x _ u1 n h e l=>step n h l λ c s2 g B y _ Z f D q d=>by
  have e:VR T g B b x:=VR.up Z e;obtain⟨p,xs,rfl,M,vx⟩:=(show ∃ p xs,y=.ref p/\B p=À (.tup xs)/\ĩ T g B c xs from q)
  cases b with
  | ref i=>
   obtain⟨O,u,d⟩:=d.î;obtain⟨k,w,d⟩:=d.î;obtain⟨v,z,d⟩:=d.î;obtain⟨a,ks,rfl,ea,G,U,Y⟩:=f.FA (mN u) e;obtain⟨x',F,P⟩:=(dk k U Y).1 v z;have L:B p=À (.tup (k.map kV)):=by rw[<-mW w vx];exact M
   exact⟨a,x',rfl,F ▸ iH.t G L,d.Ľ f P⟩
  | _=>exact d.elim
def vB:AV->Str × Int
 | .tup (.str x :: .int i :: _)=>(x,i)
 | _=>(⟨#[]⟩,0)
def Ug:AV->Bool
 | .tup (.str _ :: .int _ :: _)=>true
 | _=>false
def Mr (a b:AV):Bool:=ub (vB a) (vB b)
def qr (m:Ev):fu:=λ a s=>(m a s).bind λ v b=>match v with
 | .ref k=>need (ô b k) λ l=>if l.all Ug=true/\(l.map vB).Nodup/\l.length < 64 then .ok (l.mergeSort Mr) b else .bad
 | _=>.bad
def J0 (h:Ug v=true):∃ y d r,v=.tup (.str y :: .int d :: r):=by
 unfold Ug at h;split at h
 ·exact⟨_,_,_,rfl⟩
 ·cases h
def Ek {l:Á AV}{p:Á Nat}(pr:p.Perm (Ą l.length)):(pick l p).Perm l:=by
 have a:(Ą l.length).map (λ i=>l.getD i .Ę)=l:=by
  apply lT
  ·simp
  ·intro i c b;simp[b]
 have:=pr.map λ i=>l.getD i .Ę;rw[a]at this;exact this
def Pl {l:Á AV}{p:Á Nat}(nd:(l.map vB).Nodup) (pr:p.Perm (Ą l.length)) (h:p.Pairwise λ i j=>ub ((l.map vB).getD i (⟨#[]⟩,0)) ((l.map vB).getD j (⟨#[]⟩,0))=true):pick l p=l.mergeSort Mr:=by
 have m:=Ek pr;refine(m.trans (eA l Mr).symm).eq_of_pairwise (le:=λ a b=>Mr a b=true) (λ a b f g n o=>?_) ?_ (fv (le:=Mr) (λ a b c h k=>qA h k) (λ a b=>qz _ _) l)
 ·have f:=m.mem_iff.mp f;have g:=(eA l Mr).mem_iff.mp g;obtain⟨i,d,rfl⟩:=İ f;obtain⟨j,e,rfl⟩:=İ g;have:vB l[i]=vB l[j]:=zI n o;have:i=j:=(aX (xs:=l.map vB) (h₀:=by simpa using d) (h₁:=by simpa using e) nd).mp (by simpa using this);subst this;rfl
 ·refine cU.mpr (h.imp_of_mem λ {i j} d e h=>?_);have d:i < l.length:=by simpa using pr.mem_iff.mp d
  have e:j < l.length:=by simpa using pr.mem_iff.mp e
  unfold Mr;simp[d,e]at h ⊢;exact h
def GN (hK:X.K=T.K)(hm:X.mg "sorted"=none)(h:PE X e (tE T XE m)) (o:X.calm=true:=by rfl)(hg:Gl X "sorted":=by rfl)(n:Í [e] X.env=(false,Ē e X.env) :: Í [] X.env:=by rfl) (u:(Ĝ pos (Í [] X.env)).any (·.1)=false:=by rfl) :
  PE X (.Call (.Name "sorted" p) [e] [] pos) (tL T XE (qr m)):=
 PE.imp (cM (A0 o) hg hm Ÿ (aI h eh n) (by decide) (by decide) n u) λ σ H Q zz=>Ņ zz λ ρ O s hs n ho=>step hs n ho λ v s1 ML H1 x _ u1 f P C c=>by
  cases v with
  | ref k=>
   obtain⟨l,N,c⟩:=c.î;obtain⟨⟨L,D,M⟩,c⟩:=c.Œ;obtain⟨a,vs,rfl,_,h1,I⟩:=f.dP (ď N) C;have hd:∀ v∈l,∃ y d r,v=.tup (.str y :: .int d :: r):=λ v A=>J0 (ñ.mp L v A);obtain⟨J,rfl,g,w⟩:=pH (λ v A=>let ⟨y,d,r,z⟩:=hd v A;⟨_,z⟩) I;refine⟨a,J,l.map vB,rfl,h1,by rw[Î,g],λ j b d F G=>?_,D,by rw[g];exact M,λ p l' pr B t=>?_⟩
   ·have q:j < l.length:=by rw[<-g];exact(Ç.mp F).1
    obtain⟨y,d',r,z⟩:=hd l[j] (dV q);obtain⟨ws,E,U⟩:=w j b _ F (by rw[Å q,z]);obtain⟨y',ys,rfl,f5,Y⟩:=U.cons_inv;obtain⟨z',zs,rfl,Z,_⟩:=Y.cons_inv;rw[Z.int_inv,f5.str_inv]at E;rw[è,Å q,z]at G;cases G;exact⟨zs,by rw[hK];exact E⟩
   ·rw[<-Pl D (by rw[<-g];exact pr) B]at c;exact c.lst f t (ĩ.pick I λ i hi=>by simpa using pr.mem_iff.mp hi)
  | _=>exact c.elim
end
end Mm
namespace L2
open PySem PySem.Spec PyProof.Rows
def Td (i j k:Nat)(b:TA):TS:=λ D a H=>b a H λ c A=>∃ v w z,c=[v,w,z]/\D.nx (((a.set i (À v)).set j (À w)).set k (À z)) A
def Li (hc:X.calm=true)(r:X.N.Nodup)(hi:X.N[i]? = À x)(hj:X.N[j]? = À y)(hk:X.N[k]? = À z)(t:i≠j)(u:i≠k)(B:j≠k)
  (O:X.env.scope.names.lookup x=À .local) (P:X.env.scope.names.lookup y=À .local) (hz:X.env.scope.names.lookup z=À .local) (ha:PA X [a,b,c] ta)
  (hw:jo [.Tuple [.Name x T,.Name y U,.Name z Y] Q pt] (.Tuple [a,b,c] k2 n) X.env=pure (À [x,y,z]))
  (hs:jq [.Tuple [.Name x T,.Name y U,.Name z Y] Q pt] (.Tuple [a,b,c] k2 n) pos.line X.env=pure false) :
  PS X (.Assign [.Tuple [.Name x T,.Name y U,.Name z Y] Q pt] (.Tuple [a,b,c] k2 n) pos) (Td i j k ta):=by
 intro d s Z H D I h;rw[Xa];refine Â (dM ?_);rw[hs];refine Â (Ë ?_);rw[Ô (by decide)];refine Â (Tuple_ (Ź (ha _ d s Z H _ I h) λ us f zz=>iF zz λ vs L I1 r1 G=>?_));obtain⟨v,w,q,e1,G⟩:=G;subst e1;obtain⟨g,l,m,rfl,rv,J,rz⟩:∃ g l m,us=[g,l,m]/\RelV v g/\RelV w l/\RelV q m:=by
  cases r1 with
  | cons p q=>
   cases q with
   | cons p' q'=>
    cases q' with
    | cons E F=>
     cases F;exact⟨_,_,_,rfl,p,p',E⟩
 refine ŗ ?_ (by show 3<=sizeLine;decide);have I2:Inv X d Z L { f with heap:=f.heap.push { cls:=.type "tuple",data:=.seq [g,l,m].toArray } }:=I1.kept (t':=f.toks) λ b o e=>Ã _ e;rw[hw];refine Â (Ë ?_);show Ú (à X.prog X.w) X.A (do rule "assign.swapped-stores";let items <-unpackItems (.ref f.heap.objs.size) 3 none;nu [λ v=>fJ X.env z v,λ v=>fJ X.env y v,λ v=>fJ X.env x v] items.reverse;pure AF) _ _ _;refine Â (bD (Â (TN (items:=#[g,l,m]) (I.ok.hd hc) (sW f.heap _) λ h' C=>?_)));have I3:=I2.kept (h':=h') (t':=f.toks) λ b o e=>C b o (ê (Ó e)) e;show Ú _ _ (nu [λ v=>fJ X.env z v,λ v=>fJ X.env y v,λ v=>fJ X.env x v] [m,l,g] >>= λ _=>pure AF) _ _ _;refine Â (cZ (lO (gw I3 r hk (.inl hz) rz (λ s2 I4=>?_) (.inr hz))));refine cZ (lO (gw I4 r hj (.inl P) J (λ s3 I5=>?_) (.inr P)));refine cZ (lO (gw I5 r hi (.inl O) rv (λ s4 M=>wR (Ë ?_)) (.inr O)));rw[pZ _ _ (Ŋ t),pZ _ _ (Ŋ u),pZ _ _ (Ŋ B)]at M;exact⟨_,L,M,G⟩
end L2
namespace Mm
open PySem L2
section
variable {T:Tx}{XE:jg}{X:Cx}{pos:kK}
def Ac (i j k:Nat)(r:fu):Ms:=λ a s=>(r a s).bz λ c b=>match c with
 | [v,w,z]=>.nx (((a.set i (À v)).set j (À w)).set k (À z)) b
 | _=>.bad
def KC (I:X.calm=true)(F:X.N.Nodup)(G:PA X [a,b,c] (tP T XE r)) (L:X.N[i]? = À x:=by rfl)(M:X.N[j]? = À y:=by rfl)(O:X.N[k]? = À z:=by rfl)(l:i≠j:=by decide)(m:i≠k:=by decide)(n:j≠k:=by decide)
  (Q:X.env.scope.names.lookup x=À .local:=by rfl) (U:X.env.scope.names.lookup y=À .local:=by rfl) (hz:X.env.scope.names.lookup z=À .local:=by rfl)
  (hw:jo [.Tuple [.Name x t,.Name y u,.Name z B] q pt] (.Tuple [a,b,c] k2 f) X.env=pure (À [x,y,z]):=by rfl)
  (o:jq [.Tuple [.Name x t,.Name y u,.Name z B] q pt] (.Tuple [a,b,c] k2 f) pos.line X.env=pure false:=by rfl) :
  PS X (.Assign [.Tuple [.Name x t,.Name y u,.Name z B] q pt] (.Tuple [a,b,c] k2 f) pos) (tS T XE (Ac i j k r)):=
 PS.imp (Li I F L M O l m n Q U hz G hw o) λ D σ H zz=>lH zz λ ρ E s o J P=>dt o J P λ v s1 g A x _ u1 p h e d=>by
  have e:ĩ T g A v x:=e
  match v,e,d with
  | [v,w,z],e,d=>
   obtain⟨x1,C,rfl,Y,k2⟩:=e.cons_inv;obtain⟨x2,C,rfl,k4,Z⟩:=k2.cons_inv;obtain⟨x3,C,rfl,k6,k5⟩:=Z.cons_inv;cases k5.nil_inv;exact⟨x1,x2,x3,rfl,d g A _ .refl p (((h.set Y).set k4).set k6)⟩
  | [],_,d=>exact d.elim
  | [_],_,d=>exact d.elim
  | [_,_],_,d=>exact d.elim
  | _ :: _ :: _ :: _ :: _,_,d=>exact d.elim
end
end Mm
namespace Ro
open PySem L2 Mm
def eg:AV:=.str "coin"
def bf:AV:=.int 182
def qf:Ms:=
 (ň (ŀ (mj 20 "by_days.<locals>.<lambda>" (mv 0))))
def dh:Á AV->S->R AV:=dN 1 qf
def gF:Ms:=
 (ċ (i8 9 "keeps" (mv 0) CA)
 (ċ (i8 9 "rows" (mv 0) CA)
 (ċ (i8 9 "hands" (mv 0) DZ)
 (ċ (i8 9 "makers" (mv 0) CA)
 (ċ (i8 9 "rates" (mv 0) DZ)
 (ċ (i8 9 "half" (mv 0) (mc bf))
 (ċ (i8 9 "money" (mv 0) (ŀ (bZ Ý)))
    (i8 9 "debts" (mv 0) (ŀ (bZ Ý))))))))))
def ŵ:Á AV->S->R AV:=dN 1 gF
def bV:Ms:=
 (hE (cB (Ø oy (mv 1) (aH (Ť 9 "keeps") (mv 0)))) (AD 3 (Æ (hX (aT (mc (.str "no person is called ")) (aT (aH i4 (mv 1)) nA))) Ý)) Ĵ)
def Ě:Á AV->S->R AV:=dN 2 bV
def de:Ms:=
 (hE (cB (Ø oy (mv 1) (aH (Ť 9 "rows") (mv 0)))) (AD 3 (Æ (hX (aT (mc (.str "no work is called ")) (aT (aH i4 (mv 1)) nA))) Ý)) Ĵ)
def ı:Á AV->S->R AV:=dN 2 de
def gI:Ms:=
 (ň (Uh (Ø jy (mv 1) (aH (Ť 9 "keeps") (mv 0))) (Ø jy (mv 1) (aH (Ť 9 "rows") (mv 0)))))
def a9:Á AV->S->R AV:=dN 2 gI
def fP:Ms:=
 (hE (cT (ō 9 "has_name" 1 a9 (mv 0) (Æ (mv 1) Ý))) (AD 2 (Æ (hX (aT (mc (.str "a person or a work is called ")) (aT (aH i4 (mv 1)) (aT (mc (.str " already")) nA)))) Ý)) Ĵ)
def Ż:Á AV->S->R AV:=dN 2 fP
def eU:Ms:=
 (ċ (aE (ō 9 "need_free" 1 Ż (mv 0) (Æ (mv 1) Ý)))
    (i7 (aH (Ť 9 "keeps") (mv 0)) (mv 1) (mc mV)))
def Ŭ:Á AV->S->R AV:=dN 2 eU
def gG:Ms:=
 (ċ (aE (ō 9 "need_free" 1 Ż (mv 0) (Æ (mv 1) Ý)))
    (i7 (aH (Ť 9 "rows") (mv 0)) (mv 1) (cL Ý)))
def az:Á AV->S->R AV:=dN 2 gG
def dB:Ms:=
 (ň (ŀ (n9 (aH (Ť 9 "keeps") (mv 0)))))
def Ų:Á AV->S->R AV:=dN 1 dB
def eX:Ms:=
 (ň (ŀ (n9 (aH (Ť 9 "rows") (mv 0)))))
def ar:Á AV->S->R AV:=dN 1 eX
def iK:Ms:=
 (ċ (aE (ō 9 "need_work" 1 ı (mv 0) (Æ (mv 1) Ý)))
 (ň (Ø ģ (aH (Ť 9 "rows") (mv 0)) (mv 1))))
def bM:Á AV->S->R AV:=dN 2 iK
def gH:Ms:=
 (ċ (aE (ō 9 "need_person" 1 Ě (mv 0) (Æ (mv 1) Ý)))
 (ň (ŀ (Ů [("giver",none),("day",none),("name",none),("part",none),("person",À 1)] (yl (k8 (aH (Ť 9 "hands") (mv 0)))) (gT 2 (ĉ (gT 2 (ĉ (gN 0) (ĉ (gN 1) bR))) (ĉ (gT 2 (ĉ (gN 2) (ĉ (gN 3) bR))) bR))) (cB (Ø aP (mv 0) (mv 4))) (cL (Æ (mv 1) (Æ (mv 2) (Æ (mv 3) Ý))))))))
def a8:Á AV->S->R AV:=dN 2 gH
def eV:Ms:=
 (ċ (aE (ō 9 "need_work" 1 ı (mv 0) (Æ (mv 1) Ý)))
 (ċ (aE (ō 9 "need_person" 1 Ě (mv 0) (Æ (mv 3) Ý)))
 (ċ (hE (cB (Ø jy (mv 1) (aH (Ť 9 "makers") (mv 0)))) (AD 2 (Æ (hX (aT (mc (.str "the maker of ")) (aT (aH i4 (mv 1)) (aT (mc (.str " is known already")) nA)))) Ý)) Ĵ)
    (i7 (aH (Ť 9 "makers") (mv 0)) (mv 1) (cL (Æ (mv 2) (Æ (mv 3) Ý)))))))
def ŭ:Á AV->S->R AV:=dN 4 eV
def gJ:Ms:=
 (ċ (aE (ō 9 "need_work" 1 ı (mv 0) (Æ (mv 1) Ý)))
 (ň (wt (aH (Ť 9 "makers") (mv 0)) (mv 1))))
def a_:Á AV->S->R AV:=dN 2 gJ
def gL:Ms:=
 (ċ (hE (cB (Ø aP (mv 1) (mc eg))) (AD 2 (Æ (mc (.str "a coin is worth a coin")) Ý)) Ĵ)
 (ċ (hE (cB (wo (Æ (mv 1) (Æ (mv 2) Ý)) (aH (Ť 9 "rates") (mv 0)))) (AD 2 (Æ (hX (aT (aH i4 (mv 1)) (aT (mc (.str " has a worth of that day already")) nA))) Ý)) Ĵ)
    (uG (aH (Ť 9 "rates") (mv 0)) (Æ (mv 1) (Æ (mv 2) Ý)) (mv 3))))
def aB:Á AV->S->R AV:=dN 4 gL
def cf:Ms:=
 (ċ (hE (cB (Ø aP (mv 1) (mc eg))) (ň (mc wd)) Ĵ)
 (ċ (Ep (aH (Ť 9 "rates") (mv 0)) (ŷ 3 (ŀ (Ů [("told",none),("told_day",none),("currency",À 1),("day",À 2)] (Af (aH (Ť 9 "rates") (mv 0))) (gT 2 (ĉ (gN 0) (ĉ (gN 1) bR))) (qg (cB (Ø aP (mv 0) (mv 2))) (cB (Ø sm (mv 1) (mv 3)))) (mv 1)))))
 (ċ (hE (pa (cT (mv 3))) (AD 5 (Æ (hX (aT (aH i4 (mv 1)) (aT (mc (.str " has no worth on that day")) nA))) Ý)) Ĵ)
 (ň (ue (aH (Ť 9 "rates") (mv 0)) (Æ (mv 1) (Æ (pT z9 (sd (mv 3))) Ý)))))))
def Ī:Á AV->S->R AV:=dN 4 cf
def fQ:Ms:=
 (ň (ŀ (Ů [("worth",none),("currency",none),("day",none)] (yl (k8 (aH (Ť 9 "rates") (mv 0)))) (gT 2 (ĉ (gT 2 (ĉ (gN 1) (ĉ (gN 2) bR))) (ĉ (gN 0) bR))) gm (cL (Æ (mv 1) (Æ (mv 2) (Æ (mv 0) Ý)))))))
def aN:Á AV->S->R AV:=dN 1 fQ
def iJ:Ms:=
 (ċ (aE (ō 9 "need_person" 1 Ě (mv 0) (Æ (mv 1) Ý)))
 (ň (Ø ģ (aH (Ť 9 "keeps") (mv 0)) (mv 1))))
def bL:Á AV->S->R AV:=dN 2 iJ
def gK:Ms:=
  (i8 9 "half" (mv 0) (mv 1))
def aA:Á AV->S->R AV:=dN 2 gK
def fO:Ms:=
 (ň (aH (Ť 9 "half") (mv 0)))
def aM:Á AV->S->R AV:=dN 1 fO
def eW:Ms:=
 (ň (ŀ (mr (ę 1 dh (Æ (aH (Ť 9 "money") (mv 0)) Ý)))))
def aq:Á AV->S->R AV:=dN 1 eW
def fN:Ms:=
 (ň (ŀ (mr (ę 1 dh (Æ (aH (Ť 9 "debts") (mv 0)) Ý)))))
def aL:Á AV->S->R AV:=dN 1 fN
def gO:Ms:=
 (ň (ŀ (Ů [("_law_day",none),("_law_k",none),("_law_some",À 0)] (yl (n_ (Ů [("_law_k",none),("_law_one",none)] (Ex (mv 0)) (gT 2 (ĉ (gN 0) (ĉ (gN 1) bR))) gm (cL (Æ (Ø ĺ (mv 1) (mc (.int 1))) (Æ (mv 0) Ý)))))) (gT 2 (ĉ (gN 0) (ĉ (gN 1) bR))) gm (Ø ĺ (mv 2) (mv 1)))))
def aD:Á AV->S->R AV:=dN 1 gO
def kY:Ms:=
 (ċ (ŷ 3 (NN (cB (Ø aP (mv 1) (mc (.str "coin")))) (cL (Æ (mc (.int 1)) (Æ (mc (.int 1)) Ý))) (mc .Ę)))
 (ċ (uH (yl (mj 21 "_law_worth.<locals>.<lambda>" (Ø ģ (mv 0) (mc (.str "rates"))))) (gT 3 (ĉ (gN 4) (ĉ (gN 5) (ĉ (gN 6) bR)))) (hE (qg (cB (Ø aP (mv 4) (mv 1))) (cB (Ø sm (mv 5) (mv 2)))) (ŷ 3 (mv 6)) Ĵ))
 (ň (mv 3))))
def aG:Á AV->S->R AV:=dN 7 kY
def gP:Ms:=
 (ň (Ø bS (ŀ (mr (ę 2 dg (Æ (mv 0) (Æ (mc (.int 7)) Ý))))) (ŀ (bZ (Æ (mc (.str "never")) Ý)))))
def a':Á AV->S->R AV:=dN 1 gP
def qe:Ms:=
 (ň (Ø ĺ (mv 1) (ę 2 ě (Æ (mv 0) (Æ (xR i6 (Æ (mv 1) Ý)) Ý)))))
def fS:Á AV->S->R AV:=dN 2 qe
def iM:Ms:=
 (ň (Jd (Ø ĺ (ŀ (bZ (Æ (ę 2 ě (Æ (mv 0) (Æ (mc (.int 4)) Ý))) (Æ (ę 2 ě (Æ (mv 0) (Æ (mc (.int 40)) Ý))) (Æ (ę 2 ě (Æ (mv 0) (Æ (mc (.int 10000)) Ý))) Ý))))) (ę 2 ě (Æ (mv 0) (Æ (mc (.int 3)) Ý))))))
def ah:Á AV->S->R AV:=dN 1 iM
def fR:Ms:=
 (ň (ę 2 br (Æ (Ø bS (mc (.int 1)) (ę 2 ě (Æ (mv 0) (Æ (mc (.int 1000)) Ý)))) (Æ (Ø bS (mc (.int 1)) (ę 2 ě (Æ (mv 0) (Æ (Jd (Ø ĺ (ŀ (bZ (Æ (mc (.int 3)) (Æ (mc (.int 1000)) Ý)))) (ę 2 ě (Æ (mv 0) (Æ (mc (.int 2)) Ý))))) Ý)))) Ý))))
def aO:Á AV->S->R AV:=dN 1 fR
def l7:Ms:=
 (ċ (Ac 3 4 5 (Æ (ę 2 fS (Æ (mv 0) (Æ (mv 1) Ý))) (Æ (ę 2 fS (Æ (mv 0) (Æ (mv 1) Ý))) (Æ (ę 1 ah (Æ (mv 0) Ý)) Ý))))
 (ċ (hE (cB (Ø aP (mv 2) (mc (.str "known")))) (ň (cL (Æ (mv 2) (Æ (mv 3) (Æ (mv 5) (Æ (mv 4) Ý)))))) Ĵ)
 (ċ (hE (cB (Ø aP (mv 2) (mc (.str "rate")))) (ň (cL (Æ (mv 2) (Æ (Jd (Ø ĺ (ŀ (bZ (Æ (mc (.str "coin")) (Æ (mc (.str "eur")) (Æ (mc (.str "usd")) (Æ (mc (.str "eur")) (Æ (mc (.str "usd")) Ý))))))) (ę 2 ě (Æ (mv 0) (Æ (mc (.int 5)) Ý))))) (Æ (mv 5) (Æ (ę 1 aO (Æ (mv 0) Ý)) Ý)))))) Ĵ)
 (ň (cL (Æ (mv 2) (Æ (Jd (Ø ĺ (ŀ (bZ (Æ (mc (.int 1)) (Æ (mc (.int 400)) (Æ (mc (.int 182)) (Æ (Ø bS (mc (.int 1)) (ę 2 ě (Æ (mv 0) (Æ (mc (.int 400)) Ý)))) Ý)))))) (ę 2 ě (Æ (mv 0) (Æ (mc (.int 4)) Ý))))) Ý)))))))
def eF:Á AV->S->R AV:=dN 6 l7
def cg:Ms:=
 (ċ (lS 2 3 (Æ (Ø ĺ (mv 1) (mc (.int 0))) (Æ (zM (mv 1) (oS (mc (.int 1))) oN) Ý)))
 (hE (cB (Ø aP (mv 2) (mc (.str "person")))) (aE (ō 9 "add_person" 1 Ŭ (mv 0) (Æ (Ø ĺ (mv 3) (mc (.int 0))) Ý))) (hE (cB (Ø aP (mv 2) (mc (.str "work")))) (aE (ō 9 "add_work" 1 az (mv 0) (Æ (Ø ĺ (mv 3) (mc (.int 0))) Ý))) (hE (cB (Ø aP (mv 2) (mc (.str "known")))) (aE (ō 9 "make_known" 3 ŭ (mv 0) (Æ (Ø ĺ (mv 3) (mc (.int 0))) (Æ (Ø ĺ (mv 3) (mc (.int 1))) (Æ (Ø ĺ (mv 3) (mc (.int 2))) Ý))))) (hE (cB (Ø aP (mv 2) (mc (.str "rate")))) (aE (ō 9 "put_rate" 3 aB (mv 0) (Æ (Ø ĺ (mv 3) (mc (.int 0))) (Æ (Ø ĺ (mv 3) (mc (.int 1))) (Æ (Ø ĺ (mv 3) (mc (.int 2))) Ý))))) (aE (ō 9 "put_half" 1 aA (mv 0) (Æ (Ø ĺ (mv 3) (mc (.int 0))) Ý))))))))
def ţ:Á AV->S->R AV:=dN 4 cg
def iN:Ms:=
 (ċ (ŷ 2 (mc .Ę))
 (ċ (sx 6 5 (λ c=>decide (c < 9) && ë 0 c) (aE (ę 2 ţ (Æ (mv 0) (Æ (mv 1) Ý)))) (ŷ 2 (mv 5)))
 (ċ (hE (cB (Ø pF (mv 2) (mc .Ę))) (ň (mc (.str ""))) Ĵ)
 (ċ (ŷ 3 (ŀ (bZ (Æ (aH (au (l6 2)) (mv 2)) (Æ (aH (au (l6 3)) (mv 2)) (Æ (aH (au (l6 4)) (mv 2)) Ý))))))
 (ċ (ŷ 3 (Ø bS (mv 3) (ŀ (bZ (Æ (aH (au (l6 5)) (mv 2)) (Æ (aH (au (l6 6)) (mv 2)) Ý))))))
 (ċ (ŷ 4 (ŀ (Ů [("_law_k",none),("_law_told",À 3)] (ym (Æ (mc (.int 5)) Ý)) (gN 0) (cT (Ø ĺ (mv 1) (mv 0))) (Nq (Ø ĺ (ŀ (bZ (Æ (mc (.str "taken")) (Æ (mc (.str "name")) (Æ (mc (.str "much")) (Æ (mc (.str "rate")) (Æ (mc (.str "left")) Ý))))))) (mv 0))))))
 (ċ (hE (Dv (cB (Ø uv (xR i6 (Æ (mv 4) Ý)) (mc (.int 1)))) (Dv (cT (aH (au (zb [1,8,7])) (mv 2))) (pa (cT (aH (au Dq) (mv 2)))))) (ň (mc (.str "many"))) Ĵ)
 (ň (Ø ĺ (mv 4) (mc (.int 0)))))))))))
def bN:Á AV->S->R AV:=dN 6 iN
def kX:Ms:=
 (ċ (ŷ 0 (fF [((mc (.str "people")),(ŀ (bZ Ý))),((mc (.str "works")),CA),((mc (.str "hands")),(ŀ (bZ Ý))),((mc (.str "known")),CA),((mc (.str "rates")),(ŀ (bZ Ý))),((mc (.str "keeps")),CA),((mc (.str "half")),(mc (.int 182)))]))
 (ċ (BA (cL (Æ (ŀ (bZ Ý)) (Æ (ŀ (bZ Ý)) Ý))) (gT 2 (ĉ (tX (mv 0) (mc (.str "money"))) (ĉ (tX (mv 0) (mc (.str "debts"))) bR))))
 (ň (mv 0))))
def bY:Á AV->S->R AV:=dN 1 kX
def aQ:Ms:=
 (ċ (ŷ 3 (Ø ģ (mv 0) (mc (.str "people"))))
 (ċ (hE (cB (Ø aP (mv 1) (mc (.str "known")))) (ċ (hE (Dv (cB (Ø oy (Ø ĺ (mv 2) (mc (.int 0))) (Ø ģ (mv 0) (mc (.str "works"))))) (cB (Ø uw (Ø ĺ (mv 2) (mc (.int 2))) (mv 3)))) (ň (mc (.str "name"))) Ĵ)
 (ċ (hE (cB (Ø jy (Ø ĺ (mv 2) (mc (.int 0))) (Ø ģ (mv 0) (mc (.str "known"))))) (ň (mc (.str "taken"))) Ĵ)
    (i7 (Ø ģ (mv 0) (mc (.str "known"))) (Ø ĺ (mv 2) (mc (.int 0))) (cL (Æ (Ø ĺ (mv 2) (mc (.int 1))) (Æ (Ø ĺ (mv 2) (mc (.int 2))) Ý)))))) Ĵ)
 (ċ (hE (cB (Ø aP (mv 1) (mc (.str "rate")))) (ċ (ŷ 4 (ŀ (Ů [("_law_one",none)] (cN (Ø ģ (mv 0) (mc (.str "rates")))) (gN 0) gm (zM (mv 0) oN (oS (mc (.int 2)))))))
 (ċ (hE (Dv (cB (Ø aP (Ø ĺ (mv 2) (mc (.int 0))) (mc (.str "coin")))) (cB (Ø zW (cL (Æ (Ø ĺ (mv 2) (mc (.int 0))) (Æ (Ø ĺ (mv 2) (mc (.int 1))) Ý))) (mv 4)))) (ň (mc (.str "taken"))) Ĵ)
 (aE (pq "list" aV (Ø ģ (mv 0) (mc (.str "rates"))) (Æ (pT qP (xM (mv 2))) Ý))))) Ĵ)
 (ň (mc (.str ""))))))
def Ģ:Á AV->S->R AV:=dN 5 aQ
def ef:Ms:=
 (ċ (lS 2 3 (Æ (Ø ĺ (mv 1) (mc (.int 0))) (Æ (ŀ (pT uB (xM (zM (mv 1) (oS (mc (.int 1))) oN)))) Ý)))
 (ċ (lS 4 5 (Æ (Ø ģ (mv 0) (mc (.str "people"))) (Æ (Ø ģ (mv 0) (mc (.str "works"))) Ý)))
 (ċ (hE (cB (Ø aP (mv 2) (mc (.str "half")))) (ċ (i7 (mv 0) (mc (.str "half")) (Ø ĺ (mv 3) (mc (.int 0))))
 (ň (mc (.str "")))) Ĵ)
 (ċ (hE (cB (Ø Ed (mv 2) (cL (Æ (mc (.str "person")) (Æ (mc (.str "work")) Ý))))) (ċ (hE (cB (Ø aP (mv 2) (mc (.str "person")))) (aE (pq "list" aV (mv 4) (Æ (Ø ĺ (mv 3) (mc (.int 0))) Ý))) (i7 (mv 5) (Ø ĺ (mv 3) (mc (.int 0))) (cL Ý)))
 (ň (mc (.str "")))) Ĵ)
 (ň (ę 3 Ģ (Æ (mv 0) (Æ (mv 2) (Æ (mv 3) Ý)))))))))
def ķ:Á AV->S->R AV:=dN 6 ef
def gM:Ms:=
 (ċ (lS 2 3 (Æ (ō 9 "work_names" 0 ar (mv 0) Ý) (Æ (ō 9 "person_names" 0 Ų (mv 0) Ý) Ý)))
 (ċ (ŷ 1 (ŀ (bZ (Æ (mv 3) (Æ (mv 2) (Æ (ŀ (Ů [("_law_work",none),("_law_book",À 0)] (cN (mv 2)) (gN 0) gm (ō 9 "rows_of" 1 bM (mv 1) (Æ (mv 0) Ý)))) (Æ (ŀ (Ů [("_law_person",none),("_law_book",À 0)] (cN (mv 3)) (gN 0) gm (ō 9 "hands_of" 1 a8 (mv 1) (Æ (mv 0) Ý)))) Ý)))))))
 (ċ (ŷ 1 (Ø bS (mv 1) (ŀ (bZ (Æ (ŀ (Ů [("_law_work",none),("_law_book",À 0)] (cN (mv 2)) (gN 0) gm (ō 9 "known_of" 1 a_ (mv 1) (Æ (mv 0) Ý)))) (Æ (ŀ (Ů [("_law_person",none),("_law_book",À 0)] (cN (mv 3)) (gN 0) gm (ō 9 "keep_of" 1 bL (mv 1) (Æ (mv 0) Ý)))) Ý))))))
 (ň (Ø bS (mv 1) (ŀ (bZ (Æ (ō 9 "rate_list" 0 aN (mv 0) Ý) (Æ (ō 9 "half_days" 0 aM (mv 0) Ý) (Æ (ō 9 "money_list" 0 aq (mv 0) Ý) (Æ (ō 9 "debt_list" 0 aL (mv 0) Ý) Ý)))))))))))
def aC:Á AV->S->R AV:=dN 4 gM
def iL:Ms:=
 (ċ (lS 2 3 (Æ (ŀ (n9 (Ø ģ (mv 0) (mc (.str "works"))))) (Æ (ŀ (tV (Ø ģ (mv 0) (mc (.str "people"))))) Ý)))
 (ċ (ŷ 1 (ŀ (bZ (Æ (mv 3) (Æ (mv 2) (Æ (ŀ (Ů [("_law_work",none),("_law_world_here",À 0)] (cN (mv 2)) (gN 0) gm (Ø ģ (Ø ģ (mv 1) (mc (.str "works"))) (mv 0)))) Ý))))))
 (ċ (aE (pq "list" aV (mv 1) (Æ (ŀ (Ů [("_law_person",none),("_law_world_here",À 0)] (cN (mv 3)) (gN 0) gm (ŀ (n_ (Ů [("_law_one",none),("_law_person",À 0)] (cN (Ø ģ (mv 1) (mc (.str "hands")))) (gN 0) (cB (Ø aP (Ø ĺ (mv 0) (mc (.int 0))) (mv 1))) (zM (mv 0) (oS (mc (.int 1))) oN)))))) Ý)))
 (ċ (aE (pq "list" aV (mv 1) (Æ (ŀ (Ů [("_law_work",none),("_law_world_here",À 0)] (cN (mv 2)) (gN 0) gm (wt (Ø ģ (mv 1) (mc (.str "known"))) (mv 0)))) Ý)))
 (ċ (aE (pq "list" aV (mv 1) (Æ (ŀ (Ů [("_law_person",none),("_law_world_here",À 0)] (cN (mv 3)) (gN 0) gm (uf (Ø ģ (mv 1) (mc (.str "keeps"))) (mv 0) (cL (Æ (mc (.int 0)) (Æ (mc (.int 1)) Ý)))))) Ý)))
 (ċ (ŷ 1 (Ø bS (mv 1) (ŀ (bZ (Æ (ŀ (qr (Ø ģ (mv 0) (mc (.str "rates"))))) (Æ (Ø ģ (mv 0) (mc (.str "half"))) Ý))))))
 (ň (Ø bS (mv 1) (ŀ (bZ (Æ (ŀ (mr (ę 1 aD (Æ (Ø ģ (mv 0) (mc (.str "money"))) Ý)))) (Æ (ŀ (mr (ę 1 aD (Æ (Ø ģ (mv 0) (mc (.str "debts"))) Ý)))) Ý))))))))))))
def aR:Á AV->S->R AV:=dN 4 iL
def eY:Ms:=
 (ċ (ŷ 2 (fF [((mc (.str "hand")),(mc (.str "hands"))),((mc (.str "rate")),(mc (.str "rates"))),((mc (.str "debt")),(mc (.str "debts"))),((mc (.str "sold")),(mc (.str "money"))),((mc (.str "back")),(mc (.str "money")))]))
 (ċ (ŷ 3 (fF [((mc (.str "hand")),(mc (.int 30))),((mc (.str "rate")),(mc (.int 20))),((mc (.str "debt")),(mc (.int 20))),((mc (.str "sold")),(mc (.int 40))),((mc (.str "back")),(mc (.int 40)))]))
 (ċ (hE (qg (cB (Ø jy (mv 1) (mv 2))) (cB (Ø Ec (xR i6 (Æ (Ø ģ (mv 0) (Ø ģ (mv 2) (mv 1))) Ý)) (Ø ģ (mv 3) (mv 1))))) (ň (mc (.str "half"))) Ĵ)
 (ň (mv 1)))))
def aS:Á AV->S->R AV:=dN 4 eY
def jK:Ms:=
 (ċ (uH (ym (Æ (mv 5) Ý)) (gN 6) (ċ (ŷ 7 (ę 3 eF (Æ (mv 0) (Æ (mv 3) (Æ (ę 2 aS (Æ (mv 2) (Æ (Ø ĺ (mv 4) (ę 2 ě (Æ (mv 0) (Æ (xR i6 (Æ (mv 4) Ý)) Ý)))) Ý))) Ý)))))
 (ċ (ŷ 8 (ę 2 ķ (Æ (mv 2) (Æ (mv 7) Ý))))
 (ċ (hE (pa (cT (ę 2 (ā 9) (Æ (ę 2 bN (Æ (mv 1) (Æ (mv 7) Ý))) (Æ (mv 8) Ý))))) (ň (mc (.bl false))) Ĵ)
 (hE (pa (cT (Nq (ę 2 (ā 9) (Æ (ę 1 aC (Æ (mv 1) Ý)) (Æ (ę 1 aR (Æ (mv 2) Ý)) Ý)))))) (ň (mc (.bl false))) Ĵ)))))
 (ň (mc (.bl true))))
def bt:Á AV->S->R AV:=dN 9 jK
def kU:Ms:=
 (ċ (lS 3 4 (Æ (oo 9 ŵ) (Æ (ę 0 bY Ý) Ý)))
 (ċ (uH (cN (zM (mv 1) oN (oS (mc (.int 7))))) (gN 2) (ċ (ŷ 5 (cL (Æ (Jd (Ø ĺ (ŀ (bZ (Æ (mc (.str "person")) (Æ (mc (.str "work")) Ý)))) (ę 2 ě (Æ (mv 0) (Æ (mc (.int 2)) Ý))))) (Æ (mv 2) Ý))))
 (ċ (aE (ę 2 ķ (Æ (mv 4) (Æ (mv 5) Ý))))
 (aE (ę 2 ţ (Æ (mv 3) (Æ (mv 5) Ý)))))))
 (ň (cL (Æ (mv 3) (Æ (mv 4) Ý))))))
def bX:Á AV->S->R AV:=dN 6 kU
def cw:Ms:=
 (ċ (ŷ 3 (mc .Ę))
 (ċ (ŷ 4 (mc .Ę))
 (ċ (sx 6 5 (λ c=>decide (c < 9) && ë 0 c) (ŷ 4 (ō 9 "worth_of" 2 Ī (mv 0) (Æ (mv 1) (Æ (mv 2) Ý)))) (ŷ 3 (mv 5)))
 (ċ (hE (cB (Ø pF (mv 3) (mc .Ę))) (ň (mv 4)) Ĵ)
 (ċ (hE (qg (cT (aH (au (l6 5)) (mv 3))) (pa (cT (aH (au (zb [3,2,4,6])) (mv 3))))) (ň (mc .Ę)) Ĵ)
 (ň (mc (.str "other"))))))))
def ĳ:Á AV->S->R AV:=dN 6 cw
def Ff:Ms:=
 (ċ (ŷ 1 (ę 1 df (Æ (mv 0) Ý)))
 (ċ (ŷ 2 (Ø bS (ŀ (bZ (Æ (mc (.str "eur")) (Æ (mc (.str "coin")) Ý)))) (zM (ŀ (mr (ę 1 a' (Æ (mv 1) Ý)))) (oS (mc (.int 2))) oN)))
 (ċ (BA (ę 2 bX (Æ (mv 1) (Æ (mv 2) Ý))) (gT 2 (ĉ (gN 4) (ĉ (gN 5) bR))))
 (ċ (uH (ym (Æ (mc (.int 3)) Ý)) (gN 3) (ċ (hE (pa (cT (Jd (ę 6 bt (Æ (mv 1) (Æ (mv 4) (Æ (mv 5) (Æ (mv 2) (Æ (ŀ (bZ (Æ (mc (.str "rate")) (Æ (mc (.str "known")) (Æ (mc (.str "rate")) Ý))))) (Æ (Ø bS (mc (.int 5)) (ę 2 ě (Æ (mv 1) (Æ (mc (.int 10)) Ý)))) Ý)))))))))) (ň (mc (.bl false))) Ĵ)
 (ċ (ŷ 6 (ŀ (bZ (Æ (mc (.int 0)) (Æ (mc (.int 1)) (Æ (mc (.int 2)) (Æ (mc (.int 3)) (Æ (mc (.int 39)) (Æ (mc (.int 9999)) (Æ (ę 1 ah (Æ (mv 1) Ý)) (Æ (ę 1 ah (Æ (mv 1) Ý)) Ý)))))))))))
 (uH (cN (cL (Æ (mc (.str "coin")) (Æ (mc (.str "eur")) (Æ (mc (.str "usd")) (Æ (mc (.str "never")) Ý)))))) (gN 7) (uH (cN (Ø bS (mv 6) (ŀ (Ů [("_law_rate",none)] (cN (Ø ģ (mv 5) (mc (.str "rates")))) (gN 0) gm (Ø ĺ (mv 0) (mc (.int 1))))))) (gN 8) (hE (pa (cT (ę 2 (ā 9) (Æ (ę 3 ĳ (Æ (mv 4) (Æ (mv 7) (Æ (mv 8) Ý)))) (Æ (ę 3 aG (Æ (mv 5) (Æ (mv 7) (Æ (mv 8) Ý)))) Ý))))) (ň (mc (.bl false))) Ĵ))))))
 (ň (mc (.bl true)))))))
def tR:Á AV->S->R AV:=dN 9 Ff
def top (i:Nat):Stmt:=Qf.main.body.getD i (.Pass ⟨0,0,0,0⟩)
set_option hygiene false in
local macro_rules | `(tactic| walk_at "a") => `(tactic| (show mg _ = none; with_reducible assumption))
set_option hygiene false in
local macro_rules | `(tactic| walk_at "q") => `(tactic| (first
 | ((with_reducible show PE _ _ (tE _ _ (mv _)));exact Vx (pv _))
 | ((with_reducible show PA _ (_ :: _) (tK _));refine CH xs (by decide) ?_)
 | ((with_reducible show PA _ [] (tK _));exact CI)
 | ((with_reducible show PA _ (_ :: _) _);refine zY ?_ ?_)
 | ((with_reducible exact CJ))
 | ((with_reducible exact NX))
 | ((with_reducible exact N5))
 | ((with_reducible exact N3))
 | ((with_reducible exact R7))
 | ((with_reducible show(_:Nat)<=_);first|decide|lia)
 | ((with_reducible show PE _ _ (tE _ _ (mc _)));exact N1 (by with_reducible assumption:AA T mg _ _))
 | ((with_reducible show PE _ _ (tE _ _ (Ø bS _ _)));refine ug (VD rfl) ?_ ?_)
 | ((with_reducible show PE _ _ (tE _ _ (Ø mB _ _)));refine ug (VF) ?_ ?_)
 | ((with_reducible show PE _ _ (tE _ _ (Ø qN _ _)));refine ug (Sq) ?_ ?_)
 | ((with_reducible show PE _ _ (tE _ _ (Ø jz _ _)));refine ug (oMod) ?_ ?_)
 | ((with_reducible show PE _ _ (tE _ _ (Ø CG _ _)));refine ug (VH) ?_ ?_)
 | ((with_reducible show PE _ _ (tE _ _ (ę _ _ Ý)));refine NQ (by with_reducible assumption:fL P w T mg base _ _ _ _) (hr.mono ?_) (by first|with_reducible assumption|exact P7))
 | ((with_reducible show PE _ _ (tE _ _ (ę _ _ _)));refine R6 (by with_reducible assumption:fL P w T mg base _ _ _ _) (hr.mono ?_) ?_ (by first|with_reducible assumption|exact P7))
 | ((with_reducible show PE _ _ (tE _ _ (aH (au Dq) _))); refine NZ xs (by walk_at "a") (by walk_at "a") ?_)
 | ((with_reducible show PE _ _ (tE _ _ (aH (au (l6 _)) _))); refine NY xs (by decide) (by walk_at "a") ?_)
 | ((with_reducible show PE _ _ (tE _ _ (aH (au (zb _)) _))); refine Kj xs (by decide) (by decide) (by walk_at "a") ?_ ?_)
 | ((with_reducible show PA _ (_ :: _) (tK _));refine CH xs (by decide) ?_)
 | ((with_reducible show PA _ [] (tK _));exact CI)
 | ((with_reducible show PE _ _ (tE _ _ (aH (Ť _ _) _)));refine NU bk.cl (bk.na _ (by decide +kernel)) ?_)
 | ((with_reducible show PE _ _ (tE _ _ (ō _ _ _ _ _ Ý)));refine GH bk.cl (by with_reducible assumption:jj P w T mg base _ _ _ _ _) (hr.mono ?_) ?_ (by first|with_reducible assumption|exact P7))
 | ((with_reducible show PE _ _ (tE _ _ (ō _ _ _ _ _ _)));refine Km bk.cl (by with_reducible assumption:jj P w T mg base _ _ _ _ _) (hr.mono ?_) ?_ ?_ (by first|with_reducible assumption|exact P7))
 | ((with_reducible show PE _ _ (tE _ _ (oo _ _)));refine GF (by with_reducible assumption:Qr P w T mg base _ _ _ _) (hr.mono ?_) (by first|with_reducible assumption|exact P7))
 | ((with_reducible show PS _ _ (tS _ _ (i8 _ _ _ _)));refine Oe bk.cl (bk.na _ (by decide +kernel)) ?_ ?_)
 | ((with_reducible show PE _ _ (tE _ _ (wt _ _)));refine Kg yH ?_ ?_)
 | ((with_reducible show PE _ _ (tL _ _ (tV _))); refine GP (by walk_at "a") ?_)
 | ((with_reducible show PE _ _ (tL _ _ (n_ _))); refine GO (by walk_at "a") ?_)
 | ((with_reducible show PI _ _ _ (tW _ _ (Ex _))); refine Kt rfl (by walk_at "a") ?_)
 | ((with_reducible show PE _ _ (tL _ _ (k8 _))); refine D0 (by walk_at "a") (bb (IK (by decide : 2 <= 30) _) hu) ?_)
 | ((with_reducible show PE _ _ (tL _ _ (mj _ _ _))); refine GL (by walk_at "a") (Yu hr) rfl hC ?_)
 | ((with_reducible show PT _ _ (jV _ _ (cB (Ø zW _ _))));refine gb (VE rfl hu) ?_ ?_)
 | ((with_reducible show PE _ _ (tL _ _ (qr _))); refine GN rfl (by walk_at "a") ?_)
 | ((with_reducible show PE _ _ (tE _ _ (pT z9 (sd _)))); refine Mw (QC rfl) (by walk_at "a") (by decide +kernel) ?_)
 | ((with_reducible show PE _ _ (tE _ _ (ue _ _)));refine GC yH ?_ ?_)
 | ((with_reducible show PI _ _ _ (tW _ _ (Af _)));refine Vy ?_)
 | ((with_reducible show PS _ _ (tS _ _ (Ep _ _)));refine Oj ?_)
 | ((with_reducible show PG _ _ (tT _ _ (tX _ _)));refine Kq yH ?_ ?_)
 | ((with_reducible exact KP))
 | ((with_reducible show PS _ _ (tS _ _ (AD _ _)));refine Sm xs (by decide) (by first|with_reducible assumption|exact P7) ?_)
 | ((with_reducible show PS _ _ (tS _ _ (sx _ _ _ _ _)));refine Sn xs (by decide) nd (λ _ _ _ _=>?_) (λ _=>?_))
 | ((with_reducible show PE _ _ (tE _ _ (Ø ĺ _ _)));refine R' (Zr rfl) ?_ ?_)
 | ((with_reducible show PE _ _ (tE _ _ (Ø ģ _ _)));refine Ke yH ?_ ?_)
 | ((with_reducible show PE _ _ (tE _ _ (cL _)));refine N6 ?_)
 | ((with_reducible show PE _ _ (tE _ _ (ŀ _)));refine N2 ?_)
 | ((with_reducible show PE _ _ (tL _ _ (bZ _)));refine Ob ?_)
 | ((with_reducible show PE _ _ (tE _ _ (Ø aP _ _)));refine lu (oEq rfl hu) ?_ ?_)
 | ((with_reducible show PE _ _ (tE _ _ (Ø uv _ _)));refine lu (XN rfl hu) ?_ ?_)
 | ((with_reducible show PE _ _ (tE _ _ (Ø G9 _ _)));refine lu (oLt) ?_ ?_)
 | ((with_reducible show PE _ _ (tE _ _ (Ø sm _ _)));refine lu (oLe) ?_ ?_)
 | ((with_reducible show PE _ _ (tE _ _ (Ø Bo _ _)));refine lu (XJ) ?_ ?_)
 | ((with_reducible show PE _ _ (tE _ _ (Ø Ec _ _)));refine lu (XI) ?_ ?_)
 | ((with_reducible show PE _ _ (tE _ _ (Ø pF _ _)));refine lu (Sr) ?_ ?_)
 | ((with_reducible show PE _ _ (tE _ _ (Ø Ed _ _)));refine lu (XM rfl) ?_ ?_)
 | ((with_reducible show PE _ _ (tE _ _ (Ø uw _ _)));refine lu (Ss rfl) ?_ ?_)
 | ((with_reducible show PT _ _ (jV _ _ (cB (Ø aP _ _))));refine gb (oEq rfl hu) ?_ ?_)
 | ((with_reducible show PT _ _ (jV _ _ (cB (Ø uv _ _))));refine gb (XN rfl hu) ?_ ?_)
 | ((with_reducible show PT _ _ (jV _ _ (cB (Ø G9 _ _))));refine gb (oLt) ?_ ?_)
 | ((with_reducible show PT _ _ (jV _ _ (cB (Ø sm _ _))));refine gb (oLe) ?_ ?_)
 | ((with_reducible show PT _ _ (jV _ _ (cB (Ø Bo _ _))));refine gb (XJ) ?_ ?_)
 | ((with_reducible show PT _ _ (jV _ _ (cB (Ø Ec _ _))));refine gb (XI) ?_ ?_)
 | ((with_reducible show PT _ _ (jV _ _ (cB (Ø pF _ _))));refine gb (Sr) ?_ ?_)
 | ((with_reducible show PT _ _ (jV _ _ (cB (Ø Ed _ _))));refine gb (XM rfl) ?_ ?_)
 | ((with_reducible show PT _ _ (jV _ _ (cB (Ø uw _ _))));refine gb (Ss rfl) ?_ ?_)
 | ((with_reducible show PE _ _ (tE _ _ (Ø jy _ _)));refine NT yH ?_ ?_)
 | ((with_reducible show PT _ _ (jV _ _ (cB (Ø jy _ _))));refine O3 yH ?_ ?_)
 | ((with_reducible show PT _ _ (jV _ _ (cB (Ø oy _ _))));refine Ln yH ?_ ?_)
 | ((with_reducible refine SN ?_))
 | ((with_reducible refine Lo ?_))
 | ((with_reducible refine PW.pt (pw_and' ?_ ?_)))
 | ((with_reducible refine PW.pt (pw_or' ?_ ?_)))
 | ((with_reducible refine pw_and' ?_ ?_))
 | ((with_reducible refine pw_or' ?_ ?_))
 | ((with_reducible refine pw_and1' ?_))
 | ((with_reducible refine pw_or1' ?_))
 | ((with_reducible show PT _ _ (jV _ _ (cT _)));refine VJ rfl ?_)
 | ((with_reducible refine N4 ?_))
 | ((with_reducible show PE _ _ (tE _ _ (aH CF _)));refine Sd VG ?_)
 | ((with_reducible refine NR ?_ ?_))
 | ((with_reducible refine Sa ?_ ?_))
 | ((with_reducible show PE _ _ (tE _ _ (NN _ _ _)));refine R_ ?_ ?_ ?_)
 | ((with_reducible exact R8))
 | ((with_reducible show PE _ _ (tE _ _ (fF _)));(with_reducible refine Kf ?_ ?_ ?_ ?_ ?_);rotate_left;rfl;rfl;exact List.cons_ne_nil _ _;decide)
 | ((with_reducible refine GQ ?_ ?_ ?_))
 | ((with_reducible exact Ky))
 | ((with_reducible show PE _ _ (tE _ _ (zM _ _ _)));refine Sb rfl ?_ ?_ ?_)
 | ((with_reducible exact Hv))
 | ((with_reducible refine Hw ?_))
 | ((with_reducible refine R9 ?_))
 | ((with_reducible refine NW ?_))
 | ((with_reducible refine Kx ?_))
 | ((with_reducible refine Oc ?_))
 | ((with_reducible show PE _ _ (tE _ _ (uf _ _ _)));refine Kh yH ?_ ?_ ?_)
 | ((with_reducible show PE _ _ (tL _ _ (F4 "str" pG _ _))); refine N8 rfl PySem.F.plainAttrs_str PySem.F.slot_str_split PySem.F.type_str_split Na ?_ ?_)
 | ((with_reducible show PE _ _ (tE _ _ (pq "list" aV _ _))); refine GG rfl yz PySem.F.slot_list_append PySem.F.type_list_append JF ?_ ?_)
 | ((with_reducible show PE _ _ (tE _ _ (pq "list" zX _ _))); refine GG rfl yz PySem.F.slot_list_pop PySem.F.type_list_pop U8 ?_ ?_)
 | ((with_reducible show PE _ _ (tE _ _ (xR i6 _))); refine NP (U5 rfl) (by walk_at "a") PySem.boot_len ?_)
 | ((with_reducible show PE _ _ (tE _ _ (xR wy _))); refine NP (cAbs) (by walk_at "a") Ro.boot_abs ?_)
 | ((with_reducible show PE _ _ (tE _ _ (xR mz _))); refine NP (JB) (by walk_at "a") Ro.boot_divmod ?_)
 | ((with_reducible show PE _ _ (tE _ _ (pT Em (sd _)))); refine Mw (QA rfl) (by walk_at "a") Ro.boot_all ?_)
 | ((with_reducible show PE _ _ (tE _ _ (pT Em _))); refine Sh (QA rfl) (by walk_at "a") Ro.boot_all ?_)
 | ((with_reducible show PE _ _ (tL _ _ (pT uB _))); refine Si (QB rfl) (by walk_at "a") Ro.boot_list ?_)
 | ((with_reducible show PE _ _ (tE _ _ (pT qP _))); refine Si (M9 rfl) (by walk_at "a") Ro.boot_tuple ?_)
 | ((with_reducible show PE _ _ (tL _ _ (n9 _))); refine GK (by walk_at "a") ?_)
 | ((with_reducible show PE _ _ (tE _ _ (aH (gu _) _))); refine N0 rfl (by decide) (by walk_at "a") (by walk_at "a") (by first | exact Ro.boot_int | exact Ro.boot_bool | exact Ro.boot_list | exact Ro.boot_tuple | exact Ro.boot_str) ?_)
 | ((with_reducible show PE _ _ (tE _ _ (aH i4 _)));refine NV rfl ?_)
 | ((with_reducible show PE _ _ (tE _ _ (hX _)));refine Kl ?_)
 | ((with_reducible show PJ _ (_ :: _) (tJ _ _ (aT _ _)));refine Ku ?_ ?_)
 | ((with_reducible exact Oa))
 | ((with_reducible show PE _ _ (tL _ _ (Ů _ _ _ _ _)));refine Kv _ (eB.of rfl (by decide +kernel) (by decide +kernel) (by decide +kernel) (by repeat (first|exact trivial|refine⟨⟨rfl,rfl,by first|exact .inl rfl|exact .inr rfl⟩,?_⟩))) rfl ?_ (λ _ _ _ _ _=>?_) (λ _ _ _ _ _=>?_) (λ _ _ _ _ _=>?_))
 | ((with_reducible exact Ht))
 | ((with_reducible refine Hu ?_))
 | ((with_reducible show PI _ _ _ (tW _ _ (ym (Æ _ Ý)))); refine Sj (by walk_at "a") ?_)
 | ((with_reducible show PI _ _ _ (tW _ _ (HN _ _))); refine N_ rfl (by walk_at "a") ?_ ?_)
 | ((with_reducible show PI _ _ _ (tW _ _ (yl _)));refine Vz rfl ?_)
 | ((with_reducible show PI _ _ _ (tW _ _ (cN _)));refine VA rfl ?_)
 | ((with_reducible show PG _ _ (tT _ _ (gN _)));exact Ko (by first|exact nd|(show List.Nodup (_ :: _);decide +kernel)))
 | ((with_reducible show PG _ _ (tT _ _ (gT _ _)));refine N9 rfl rfl ?_)
 | ((with_reducible show PG _ _ (tT _ _ (ml _ _)));refine Kr ?_ ?_)
 | ((with_reducible show BX _ (_ :: _) _);refine GI ?_ ?_)
 | ((with_reducible exact Ks))
 | ((with_reducible exact KO))
 | ((with_reducible exact Ov))
 | ((with_reducible exact KQ))
 | ((with_reducible refine KN ?_ ?_))
 | ((with_reducible refine Ow ?_))
 | ((with_reducible show PS _ _ (tS _ _ (ŷ _ (ŀ (Ů _ _ _ _ _)))));refine Bi _ (eB.of rfl (by decide +kernel) (by decide +kernel) (by decide +kernel) (by repeat (first|exact trivial|refine⟨⟨rfl,rfl,by first|exact .inl rfl|exact .inr rfl⟩,?_⟩))) rfl nd ?_ (λ _ _ _ _ _=>?_) (λ _ _ _ _ _=>?_) (λ _ _ _ _ _=>?_))
 | ((with_reducible show PS _ _ (tS _ _ (ŷ _ (fF _))));(with_reducible refine KD ?_ ?_ ?_ ?_ ?_);exact nd;rotate_left;rfl;exact EM rfl;exact EM rfl)
 | ((with_reducible show PS _ _ (tS _ _ (ŷ _ _)));refine GU nd ?_)
 | ((with_reducible show PS _ _ (tS _ _ (ň _)));refine Oh ?_)
 | ((with_reducible show PS _ _ (tS _ _ (hE _ _ _)));refine Sl ?_ ?_ ?_)
 | ((with_reducible show PS _ _ (tS _ _ (aE _)));refine KA ?_)
 | ((with_reducible show PS _ _ (tS _ _ (uH _ _ _)));refine Of (by first|exact Hb|exact EN) rfl ?_ ?_ ?_)
 | ((with_reducible show PS _ _ (tS _ _ (lS _ _ _)));refine Og rfl nd ?_)
 | ((with_reducible show PS _ _ (tS _ _ (Ac _ _ _ _)));refine KC rfl nd ?_)
 | ((with_reducible show PS _ _ (tS _ _ (BA _ _)));refine Od ?_ ?_ ?_)
 | ((with_reducible show PS _ _ (tS _ _ (i7 _ _ _)));refine Kz yH ?_ ?_ ?_)
 | ((with_reducible show PS _ _ (tS _ _ (uG _ _ _)));refine GR yH ?_ ?_ ?_)
 | ((with_reducible show PE _ _ (tE _ _ (DZ)));exact NS)
 | ((with_reducible show PT _ _ (jV _ _ (cB (wo _ _))));refine Lm yH ?_ ?_)
 | ((with_reducible show PS _ _ (tS _ _ (Lx _ _ _)));refine Ol _ (by first|exact Hb|exact EN) ?_ ?_)
 | ((with_reducible show l5 _ _ (tS _ _ (ċ _ _)));refine GV ?_ ?_)
 | ((with_reducible show l5 _ _ (tS _ _ Ĵ));exact KG)
 | (refine KH ?_)) <;> walk_at "q")
local macro_rules | `(tactic| walk_at "b") => `(tactic| (intro _ _ _ _ _ _ us hl; first | (cases len0 hl; rfl) | (obtain ⟨_, e⟩ := RW hl; subst e; rfl) | (obtain ⟨_, _, e⟩ := RX hl; subst e; rfl) | (obtain ⟨_, _, _, e⟩ := RY hl; subst e; rfl) | (obtain ⟨_, _, _, _, e⟩ := RZ hl; subst e; rfl) | (obtain ⟨_, _, _, _, _, e⟩ := R0 hl; subst e; rfl) | (obtain ⟨_, _, _, _, _, _, e⟩ := NI hl; subst e; rfl) | (obtain ⟨_, _, _, _, _, _, _, e⟩ := R1 hl; subst e; rfl)))
set_option hygiene false in
local macro_rules | `(tactic| walk_at "g") => `(tactic| (intro hr nd ls; have yH := Mh hr; have hu := RG hr; walk_at "q"))
section
variable {P:Ĉ}{w:Ĩ}{T:Tx}{mg:Str->Ê Value}{base:Heap}(xs:Xs T mg)(bk:Bk T 9 ["keeps","rows","hands","makers","rates","half","money","debts"])
variable (b8:mg "ValueError"=none)
variable (u5:mg "abs"=none)
variable (u6:mg "all"=none)
variable (oH:mg "bool"=none)
variable (jb:mg "divmod"=none)
variable (cP:mg "enumerate"=none)
variable (u7:mg "int"=none)
variable (ű:mg "isinstance"=none)
variable (fm:mg "len"=none)
variable (jc:mg "list"=none)
variable (u9:mg "max"=none)
variable (dm:mg "range"=none)
variable (ş:mg "sorted"=none)
variable (u_:mg "str"=none)
variable (iB:mg "tuple"=none)
variable (va:mg "zip"=none)
variable (lA:AA T mg "COIN" eg)
variable (Ű:AA T mg "FIRST_HALF_DAYS" bf)
variable (fZ:AA T mg "NOTHING" mV)
variable (uC:AA T mg "ONE" wd)
variable (ki:fL P w T mg base "by_days" 1 1 dh)
variable (gR:Qr P w T mg base 9 "Book" 1 ŵ)
variable (š:jj P w T mg base 9 "need_person" 1 1 Ě)
variable (ż:jj P w T mg base 9 "need_work" 1 1 ı)
variable (gW:jj P w T mg base 9 "has_name" 1 1 a9)
variable (bP:jj P w T mg base 9 "need_free" 1 2 Ż)
variable (e8:jj P w T mg base 9 "add_person" 1 3 Ŭ)
variable (gS:jj P w T mg base 9 "add_work" 1 3 az)
variable (dC:jj P w T mg base 9 "person_names" 0 1 Ų)
variable (fc:jj P w T mg base 9 "work_names" 0 1 ar)
variable (iW:jj P w T mg base 9 "rows_of" 1 2 bM)
variable (gU:jj P w T mg base 9 "hands_of" 1 2 a8)
variable (e_:jj P w T mg base 9 "make_known" 3 2 ŭ)
variable (gX:jj P w T mg base 9 "known_of" 1 2 a_)
variable (gZ:jj P w T mg base 9 "put_rate" 3 1 aB)
variable (g0:jj P w T mg base 9 "worth_of" 2 1 Ī)
variable (fW:jj P w T mg base 9 "rate_list" 0 1 aN)
variable (iV:jj P w T mg base 9 "keep_of" 1 2 bL)
variable (gY:jj P w T mg base 9 "put_half" 1 1 aA)
variable (fV:jj P w T mg base 9 "half_days" 0 1 aM)
variable (fb:jj P w T mg base 9 "money_list" 0 2 aq)
variable (fU:jj P w T mg base 9 "debt_list" 0 2 aL)
variable (k9:fL P w T mg base "_law_begin" 1 1 df)
variable (ł:fL P w T mg base "_law_take" 2 1 ě)
variable (gp:fL P w T mg base "_law_same" 2 10 (ā 9))
variable (jQ:fL P w T mg base "_law_lowest" 2 1 br)
variable (la:fL P w T mg base "_law_names" 2 2 dg)
variable (g8:fL P w T mg base "_law_in_order" 1 1 aD)
variable (lg:fL P w T mg base "_law_worth" 3 1 aG)
variable (g9:fL P w T mg base "_law_names_of" 1 3 a')
variable (qs:fL P w T mg base "_law_of" 2 2 fS)
variable (cJ:fL P w T mg base "_law_any_day" 1 2 ah)
variable (fX:fL P w T mg base "_law_any_worth" 1 2 aO)
variable (mn:fL P w T mg base "_law_deed" 3 3 eF)
variable (kh:fL P w T mg base "_law_do" 2 4 ţ)
variable (i3:fL P w T mg base "_law_refusal" 2 5 bN)
variable (lb:fL P w T mg base "_law_world" 0 1 bY)
variable (iZ:fL P w T mg base "_law_due_way" 3 1 Ģ)
variable (iY:fL P w T mg base "_law_due" 2 2 ķ)
variable (g7:fL P w T mg base "_law_all_told" 1 3 aC)
variable (iX:fL P w T mg base "_law_all_due" 1 2 aR)
variable (i0:fL P w T mg base "_law_kind_of" 2 1 aS)
variable (jR:fL P w T mg base "_law_walked" 6 11 bt)
variable (k_:fL P w T mg base "_law_begun" 2 5 bX)
variable (fe:fL P w T mg base "_law_worth_told" 3 2 ĳ)
include xs bk ş in
theorem Bn (_:L8 T mg "by_days" (top 16) 20):fL P w T mg base "by_days" 1 1 dh:=by
 unfold dh qf;refine FX (k:=0) ["rows"] (by with_reducible assumption) (ŕ rfl rfl rfl rfl (by decide +kernel)) (by walk_at "b") rfl λ _ _ _ _ _ _ _ hC=>?_;walk_at "g"
include xs bk Ű in
theorem qC (_:Qq T mg 9 "Book" "Book.__init__" (inClass (top 17) 0)):Qr P w T mg base 9 "Book" 1 ŵ:=by
 unfold ŵ gF;refine Nj (k:=0) ["self"] (by with_reducible assumption) (ŕ rfl rfl rfl rfl (by decide +kernel)) (by walk_at "b") rfl λ _ _ _ _ _ _ _=>?_;walk_at "g"
include xs bk in
theorem nC (_:eD T 9 "need_person" "Book.need_person" (inClass (top 17) 1)):jj P w T mg base 9 "need_person" 1 1 Ě:=by
 unfold Ě bV;refine bO (k:=0) ["self","name"] (by with_reducible assumption) (ŕ rfl rfl rfl rfl (by decide +kernel)) (by walk_at "b") rfl λ _ _ _ _ _ _ _=>?_;walk_at "g"
include xs bk in
theorem pC (_:eD T 9 "need_work" "Book.need_work" (inClass (top 17) 2)):jj P w T mg base 9 "need_work" 1 1 ı:=by
 unfold ı de;refine bO (k:=0) ["self","name"] (by with_reducible assumption) (ŕ rfl rfl rfl rfl (by decide +kernel)) (by walk_at "b") rfl λ _ _ _ _ _ _ _=>?_;walk_at "g"
include xs bk in
theorem qF (_:eD T 9 "has_name" "Book.has_name" (inClass (top 17) 3)):jj P w T mg base 9 "has_name" 1 1 a9:=by
 unfold a9 gI;refine bO (k:=0) ["self","name"] (by with_reducible assumption) (ŕ rfl rfl rfl rfl (by decide +kernel)) (by walk_at "b") rfl λ _ _ _ _ _ _ _=>?_;walk_at "g"
include xs bk gW in
theorem pB (_:eD T 9 "need_free" "Book.need_free" (inClass (top 17) 4)):jj P w T mg base 9 "need_free" 1 2 Ż:=by
 unfold Ż fP;refine bO (k:=1) ["self","name"] (by with_reducible assumption) (ŕ rfl rfl rfl rfl (by decide +kernel)) (by walk_at "b") rfl λ _ _ _ _ _ _ _=>?_;walk_at "g"
include xs bk fZ bP in
theorem oq (_:eD T 9 "add_person" "Book.add_person" (inClass (top 17) 5)):jj P w T mg base 9 "add_person" 1 3 Ŭ:=by
 unfold Ŭ eU;refine bO (k:=2) ["self","name"] (by with_reducible assumption) (ŕ rfl rfl rfl rfl (by decide +kernel)) (by walk_at "b") rfl λ _ _ _ _ _ _ _=>?_;walk_at "g"
include xs bk bP in
theorem qD (_:eD T 9 "add_work" "Book.add_work" (inClass (top 17) 6)):jj P w T mg base 9 "add_work" 1 3 az:=by
 unfold az gG;refine bO (k:=2) ["self","name"] (by with_reducible assumption) (ŕ rfl rfl rfl rfl (by decide +kernel)) (by walk_at "b") rfl λ _ _ _ _ _ _ _=>?_;walk_at "g"
include xs bk ş in
theorem my (_:eD T 9 "person_names" "Book.person_names" (inClass (top 17) 7)):jj P w T mg base 9 "person_names" 0 1 Ų:=by
 unfold Ų dB;refine bO (k:=0) ["self"] (by with_reducible assumption) (ŕ rfl rfl rfl rfl (by decide +kernel)) (by walk_at "b") rfl λ _ _ _ _ _ _ _=>?_;walk_at "g"
include xs bk ş in
theorem ov (_:eD T 9 "work_names" "Book.work_names" (inClass (top 17) 8)):jj P w T mg base 9 "work_names" 0 1 ar:=by
 unfold ar eX;refine bO (k:=0) ["self"] (by with_reducible assumption) (ŕ rfl rfl rfl rfl (by decide +kernel)) (by walk_at "b") rfl λ _ _ _ _ _ _ _=>?_;walk_at "g"
include xs bk ż in
theorem sf (_:eD T 9 "rows_of" "Book.rows_of" (inClass (top 17) 10)):jj P w T mg base 9 "rows_of" 1 2 bM:=by
 unfold bM iK;refine bO (k:=1) ["self","work"] (by with_reducible assumption) (ŕ rfl rfl rfl rfl (by decide +kernel)) (by walk_at "b") rfl λ _ _ _ _ _ _ _=>?_;walk_at "g"
include xs bk ş š in
theorem qE (_:eD T 9 "hands_of" "Book.hands_of" (inClass (top 17) 12)):jj P w T mg base 9 "hands_of" 1 2 a8:=by
 unfold a8 gH;refine bO (k:=1) ["self","person"] (by with_reducible assumption) (ŕ rfl rfl rfl rfl (by decide +kernel)) (by walk_at "b") rfl λ _ _ _ _ _ _ _=>?_;walk_at "g"
include xs bk š ż in
theorem ot (_:eD T 9 "make_known" "Book.make_known" (inClass (top 17) 13)):jj P w T mg base 9 "make_known" 3 2 ŭ:=by
 unfold ŭ eV;refine bO (k:=1) ["self","work","day","person"] (by with_reducible assumption) (ŕ rfl rfl rfl rfl (by decide +kernel)) (by walk_at "b") rfl λ _ _ _ _ _ _ _=>?_;walk_at "g"
include xs bk ż in
theorem qG (_:eD T 9 "known_of" "Book.known_of" (inClass (top 17) 14)):jj P w T mg base 9 "known_of" 1 2 a_:=by
 unfold a_ gJ;refine bO (k:=1) ["self","work"] (by with_reducible assumption) (ŕ rfl rfl rfl rfl (by decide +kernel)) (by walk_at "b") rfl λ _ _ _ _ _ _ _=>?_;walk_at "g"
include xs bk lA in
theorem qI (_:eD T 9 "put_rate" "Book.put_rate" (inClass (top 17) 15)):jj P w T mg base 9 "put_rate" 3 1 aB:=by
 unfold aB gL;refine bO (k:=0) ["self","currency","day","worth"] (by with_reducible assumption) (ŕ rfl rfl rfl rfl (by decide +kernel)) (by walk_at "b") rfl λ _ _ _ _ _ _ _=>?_;walk_at "g"
include xs bk u9 lA uC in
theorem qJ (_:eD T 9 "worth_of" "Book.worth_of" (inClass (top 17) 16)):jj P w T mg base 9 "worth_of" 2 1 Ī:=by
 unfold Ī cf;refine bO (k:=0) ["self","currency","day","days"] (by with_reducible assumption) (ŕ rfl rfl rfl rfl (by decide +kernel)) (by walk_at "b") rfl λ _ _ _ _ _ _ _=>?_;walk_at "g"
include xs bk ş in
theorem pD (_:eD T 9 "rate_list" "Book.rate_list" (inClass (top 17) 17)):jj P w T mg base 9 "rate_list" 0 1 aN:=by
 unfold aN fQ;refine bO (k:=0) ["self"] (by with_reducible assumption) (ŕ rfl rfl rfl rfl (by decide +kernel)) (by walk_at "b") rfl λ _ _ _ _ _ _ _=>?_;walk_at "g"
include xs bk š in
theorem se (_:eD T 9 "keep_of" "Book.keep_of" (inClass (top 17) 19)):jj P w T mg base 9 "keep_of" 1 2 bL:=by
 unfold bL iJ;refine bO (k:=1) ["self","person"] (by with_reducible assumption) (ŕ rfl rfl rfl rfl (by decide +kernel)) (by walk_at "b") rfl λ _ _ _ _ _ _ _=>?_;walk_at "g"
include xs bk in
theorem qH (_:eD T 9 "put_half" "Book.put_half" (inClass (top 17) 20)):jj P w T mg base 9 "put_half" 1 1 aA:=by
 unfold aA gK;refine bO (k:=0) ["self","days"] (by with_reducible assumption) (ŕ rfl rfl rfl rfl (by decide +kernel)) (by walk_at "b") rfl λ _ _ _ _ _ _ _=>?_;walk_at "g"
include xs bk in
theorem pA (_:eD T 9 "half_days" "Book.half_days" (inClass (top 17) 21)):jj P w T mg base 9 "half_days" 0 1 aM:=by
 unfold aM fO;refine bO (k:=0) ["self"] (by with_reducible assumption) (ŕ rfl rfl rfl rfl (by decide +kernel)) (by walk_at "b") rfl λ _ _ _ _ _ _ _=>?_;walk_at "g"
include xs bk ki in
theorem ou (_:eD T 9 "money_list" "Book.money_list" (inClass (top 17) 24)):jj P w T mg base 9 "money_list" 0 2 aq:=by
 unfold aq eW;refine bO (k:=1) ["self"] (by with_reducible assumption) (ŕ rfl rfl rfl rfl (by decide +kernel)) (by walk_at "b") rfl λ _ _ _ _ _ _ _=>?_;walk_at "g"
include xs bk ki in
theorem pz (_:eD T 9 "debt_list" "Book.debt_list" (inClass (top 17) 26)):jj P w T mg base 9 "debt_list" 0 2 aL:=by
 unfold aL fN;refine bO (k:=1) ["self"] (by with_reducible assumption) (ŕ rfl rfl rfl rfl (by decide +kernel)) (by walk_at "b") rfl λ _ _ _ _ _ _ _=>?_;walk_at "g"
include xs bk jc in
theorem vD (_:Df T mg "_law_begin" (top 19)):fL P w T mg base "_law_begin" 1 1 df:=by
 unfold df kS;refine a5 (k:=0) ["_law_script","_law_cells"] (by with_reducible assumption) (ŕ rfl rfl rfl rfl (by decide +kernel)) (by walk_at "b") rfl λ _ _ _ _ _ _ _=>?_;walk_at "g"
include xs bk jb fm in
theorem xZ (_:Df T mg "_law_take" (top 20)):fL P w T mg base "_law_take" 2 1 ě:=by
 unfold ě l8;refine a5 (k:=0) ["_law_state","_law_many","_law_turn","_law_place","_law_cell","_law_mixed","_law_digit"] (by with_reducible assumption) (ŕ rfl rfl rfl rfl (by decide +kernel)) (by walk_at "b") rfl λ _ _ _ _ _ _ _=>?_;walk_at "g"
include xs bk u6 oH u7 ű fm jc u_ iB va in
theorem xY (_:Df T mg "_law_same" (top 21)):∀ n:Nat,fL P w T mg base "_law_same" 2 (n+1) (ā n):=by
 intro n;induction n with
 | zero=>exact JQ ["_law_found","_law_due_here"] (by with_reducible assumption) rfl (by walk_at "b")
 | succ n a=>
  unfold ā cH;refine a5 (k:=n+1) ["_law_found","_law_due_here"] (by with_reducible assumption) (ŕ rfl rfl rfl rfl (by decide +kernel)) (by walk_at "b") rfl λ _ _ _ _ _ _ _=>?_;walk_at "g"
include xs bk u5 in
theorem ur (_:Df T mg "_law_lowest" (top 22)):fL P w T mg base "_law_lowest" 2 1 br:=by
 unfold br jJ;refine a5 (k:=0) ["_law_top","_law_below","_law_sign","_law_one","_law_other"] (by with_reducible assumption) (ŕ rfl rfl rfl rfl (by decide +kernel)) (by walk_at "b") rfl λ _ _ _ _ _ _ _=>?_;walk_at "g"
include xs bk fm dm ł in
theorem vF (_:Df T mg "_law_names" (top 23)):fL P w T mg base "_law_names" 2 2 dg:=by
 unfold dg kW;refine a5 (k:=1) ["_law_state","_law_many","_law_some"] (by with_reducible assumption) (ŕ rfl rfl rfl rfl (by decide +kernel)) (by walk_at "b") rfl λ _ _ _ _ _ _ _=>?_;walk_at "g"
include xs bk cP ş in
theorem qL (_:Df T mg "_law_in_order" (top 24)):fL P w T mg base "_law_in_order" 1 1 aD:=by
 unfold aD gO;refine a5 (k:=0) ["_law_some"] (by with_reducible assumption) (ŕ rfl rfl rfl rfl (by decide +kernel)) (by walk_at "b") rfl λ _ _ _ _ _ _ _=>?_;walk_at "g"
include xs bk ş in
theorem vH (_:L8 T mg "_law_worth" (top 25) 21):fL P w T mg base "_law_worth" 3 1 aG:=by
 unfold aG kY;refine FX (k:=0) ["_law_story","_law_currency","_law_day","_law_found","_law_name","_law_begin_here","_law_worth_here"] (by with_reducible assumption) (ŕ rfl rfl rfl rfl (by decide +kernel)) (by walk_at "b") rfl λ _ _ _ _ _ _ _ hC=>?_;walk_at "g"
include xs bk la in
theorem qM (_:Df T mg "_law_names_of" (top 26)):fL P w T mg base "_law_names_of" 1 3 a':=by
 unfold a' gP;refine a5 (k:=2) ["_law_state"] (by with_reducible assumption) (ŕ rfl rfl rfl rfl (by decide +kernel)) (by walk_at "b") rfl λ _ _ _ _ _ _ _=>?_;walk_at "g"
include xs bk fm ł in
theorem Bm (_:Df T mg "_law_of" (top 27)):fL P w T mg base "_law_of" 2 2 fS:=by
 unfold fS qe;refine a5 (k:=1) ["_law_state","_law_some"] (by with_reducible assumption) (ŕ rfl rfl rfl rfl (by decide +kernel)) (by walk_at "b") rfl λ _ _ _ _ _ _ _=>?_;walk_at "g"
include xs bk ł in
theorem sh (_:Df T mg "_law_any_day" (top 28)):fL P w T mg base "_law_any_day" 1 2 ah:=by
 unfold ah iM;refine a5 (k:=1) ["_law_state"] (by with_reducible assumption) (ŕ rfl rfl rfl rfl (by decide +kernel)) (by walk_at "b") rfl λ _ _ _ _ _ _ _=>?_;walk_at "g"
include xs bk ł jQ in
theorem pE (_:Df T mg "_law_any_worth" (top 29)):fL P w T mg base "_law_any_worth" 1 2 aO:=by
 unfold aO fR;refine a5 (k:=1) ["_law_state"] (by with_reducible assumption) (ŕ rfl rfl rfl rfl (by decide +kernel)) (by walk_at "b") rfl λ _ _ _ _ _ _ _=>?_;walk_at "g"
include xs bk ł qs cJ fX in
theorem xX (_:Df T mg "_law_deed" (top 30)):fL P w T mg base "_law_deed" 3 3 eF:=by
 unfold eF l7;refine a5 (k:=2) ["_law_state","_law_names_here","_law_word","_law_one","_law_other","_law_day"] (by with_reducible assumption) (ŕ rfl rfl rfl rfl (by decide +kernel)) (by walk_at "b") rfl λ _ _ _ _ _ _ _=>?_;walk_at "g"
include xs bk e8 gS e_ gZ gY in
theorem Bl (_:Df T mg "_law_do" (top 31)):fL P w T mg base "_law_do" 2 4 ţ:=by
 unfold ţ cg;refine a5 (k:=3) ["_law_book","_law_deed_here","_law_word","_law_rest"] (by with_reducible assumption) (ŕ rfl rfl rfl rfl (by decide +kernel)) (by walk_at "b") rfl λ _ _ _ _ _ _ _=>?_;walk_at "g"
include xs bk b8 ű fm dm kh in
theorem sk (_:Df T mg "_law_refusal" (top 32)):fL P w T mg base "_law_refusal" 2 5 bN:=by
 unfold bN iN;refine a5 (k:=4) ["_law_book","_law_deed_here","_law_caught","_law_told","_law_words","error"] (by with_reducible assumption) (ŕ rfl rfl rfl rfl (by decide +kernel)) (by walk_at "b") rfl λ _ _ _ _ _ _ _=>?_;walk_at "g"
include xs bk in
theorem vG (_:Df T mg "_law_world" (top 33)):fL P w T mg base "_law_world" 0 1 bY:=by
 unfold bY kX;refine a5 (k:=0) ["_law_found"] (by with_reducible assumption) (ŕ rfl rfl rfl rfl (by decide +kernel)) (by walk_at "b") rfl λ _ _ _ _ _ _ _=>?_;walk_at "g"
include xs bk iB in
theorem si (_:Df T mg "_law_due_way" (top 35)):fL P w T mg base "_law_due_way" 3 1 Ģ:=by
 unfold Ģ aQ;refine a5 (k:=0) ["_law_world_here","_law_word","_law_rest","_law_people","_law_told"] (by with_reducible assumption) (ŕ rfl rfl rfl rfl (by decide +kernel)) (by walk_at "b") rfl λ _ _ _ _ _ _ _=>?_;walk_at "g"
include xs bk jc iZ in
theorem zV (_:Df T mg "_law_due" (top 34)):fL P w T mg base "_law_due" 2 2 ķ:=by
 unfold ķ ef;refine a5 (k:=1) ["_law_world_here","_law_deed_here","_law_word","_law_rest","_law_people","_law_works"] (by with_reducible assumption) (ŕ rfl rfl rfl rfl (by decide +kernel)) (by walk_at "b") rfl λ _ _ _ _ _ _ _=>?_;walk_at "g"
include xs bk dC fc iW gU gX fW iV fV fb fU in
theorem qK (_:Df T mg "_law_all_told" (top 36)):fL P w T mg base "_law_all_told" 1 3 aC:=by
 unfold aC gM;refine a5 (k:=2) ["_law_book","_law_found","_law_works","_law_people"] (by with_reducible assumption) (ŕ rfl rfl rfl rfl (by decide +kernel)) (by walk_at "b") rfl λ _ _ _ _ _ _ _=>?_;walk_at "g"
include xs bk ş g8 in
theorem sg (_:Df T mg "_law_all_due" (top 37)):fL P w T mg base "_law_all_due" 1 2 aR:=by
 unfold aR iL;refine a5 (k:=1) ["_law_world_here","_law_found","_law_works","_law_people"] (by with_reducible assumption) (ŕ rfl rfl rfl rfl (by decide +kernel)) (by walk_at "b") rfl λ _ _ _ _ _ _ _=>?_;walk_at "g"
include xs bk fm in
theorem sj (_:Df T mg "_law_kind_of" (top 38)):fL P w T mg base "_law_kind_of" 2 1 aS:=by
 unfold aS eY;refine a5 (k:=0) ["_law_world_here","_law_word","_law_some","_law_most"] (by with_reducible assumption) (ŕ rfl rfl rfl rfl (by decide +kernel)) (by walk_at "b") rfl λ _ _ _ _ _ _ _=>?_;walk_at "g"
include xs bk fm dm ł gp mn i3 iY g7 iX i0 in
theorem uu (_:Df T mg "_law_walked" (top 39)):fL P w T mg base "_law_walked" 6 11 bt:=by
 unfold bt jK;refine a5 (k:=10) ["_law_state","_law_book","_law_world_here","_law_names_here","_law_words","_law_many","_law_turn","_law_deed_here","_law_due_here"] (by with_reducible assumption) (ŕ rfl rfl rfl rfl (by decide +kernel)) (by walk_at "b") rfl λ _ _ _ _ _ _ _=>?_;walk_at "g"
include xs bk gR ł kh lb iY in
theorem vE (_:Df T mg "_law_begun" (top 40)):fL P w T mg base "_law_begun" 2 5 bX:=by
 unfold bX kU;refine a5 (k:=4) ["_law_state","_law_names_here","_law_name","_law_book","_law_world_here","_law_deed_here"] (by with_reducible assumption) (ŕ rfl rfl rfl rfl (by decide +kernel)) (by walk_at "b") rfl λ _ _ _ _ _ _ _=>?_;walk_at "g"
include xs bk ű g0 in
theorem ow (_:Df T mg "_law_worth_told" (top 41)):fL P w T mg base "_law_worth_told" 3 2 ĳ:=by
 unfold ĳ cw;refine a5 (k:=1) ["_law_book","_law_currency","_law_day","_law_caught","_law_found","error"] (by with_reducible assumption) (ŕ rfl rfl rfl rfl (by decide +kernel)) (by walk_at "b") rfl λ _ _ _ _ _ _ _=>?_;walk_at "g"
include xs bk dm k9 ł gp lg g9 cJ jR k_ fe in
theorem Ou {f:Addr}{c:cz}(F:E9 T.K "law" "law" (top 42) f c):gC P w T.K mg base (qd P w) 12 f c ["_law_script"] (EU T 1 tR):=by
 unfold tR Ff;have S:il ["_law_script","_law_state","_law_names_here","_law_turn","_law_book","_law_world_here","_law_days","_law_currency","_law_day"] ["_law_script"] (đ (top 42)):=(ŕ rfl rfl rfl rfl (by decide +kernel))
 refine xA (k:=11) F S λ b A a s H E hr=>?_;have nd:=S.nd;have ls:Ls T (lR (qd P w) P w T.K mg base ["_law_script","_law_state","_law_names_here","_law_turn","_law_book","_law_world_here","_law_days","_law_currency","_law_day"] "law" (đ (top 42)) f b A a s H E) (ny T E):=zL;have yH:=Mh hr;have hu:=RG hr;walk_at "q"
end
def M6 {P:Ĉ}{w:Ĩ}{T:Tx}{mg:Str->Ê Value}{base:Heap}(xs:Xs T mg)(bk:Bk T 9 ["keeps","rows","hands","makers","rates","half","money","debts"])(b8:mg "ValueError"=none)(u5:mg "abs"=none)(u6:mg "all"=none)(oH:mg "bool"=none)(jb:mg "divmod"=none)(cP:mg "enumerate"=none)(u7:mg "int"=none)(ű:mg "isinstance"=none)(fm:mg "len"=none)(jc:mg "list"=none)(u9:mg "max"=none)(dm:mg "range"=none)(ş:mg "sorted"=none)(u_:mg "str"=none)(iB:mg "tuple"=none)(va:mg "zip"=none)(lA:AA T mg "COIN" eg)(Ű:AA T mg "FIRST_HALF_DAYS" bf)(fZ:AA T mg "NOTHING" mV)(uC:AA T mg "ONE" wd)(d0:L8 T mg "by_days" (top 16) 20) (d1:Qq T mg 9 "Book" "Book.__init__" (inClass (top 17) 0)) (d2:eD T 9 "need_person" "Book.need_person" (inClass (top 17) 1)) (d3:eD T 9 "need_work" "Book.need_work" (inClass (top 17) 2)) (d4:eD T 9 "has_name" "Book.has_name" (inClass (top 17) 3)) (d5:eD T 9 "need_free" "Book.need_free" (inClass (top 17) 4)) (d6:eD T 9 "add_person" "Book.add_person" (inClass (top 17) 5)) (d7:eD T 9 "add_work" "Book.add_work" (inClass (top 17) 6)) (d8:eD T 9 "person_names" "Book.person_names" (inClass (top 17) 7)) (d9:eD T 9 "work_names" "Book.work_names" (inClass (top 17) 8)) (QJ:eD T 9 "rows_of" "Book.rows_of" (inClass (top 17) 10)) (QK:eD T 9 "hands_of" "Book.hands_of" (inClass (top 17) 12)) (QL:eD T 9 "make_known" "Book.make_known" (inClass (top 17) 13)) (QM:eD T 9 "known_of" "Book.known_of" (inClass (top 17) 14)) (QN:eD T 9 "put_rate" "Book.put_rate" (inClass (top 17) 15)) (QO:eD T 9 "worth_of" "Book.worth_of" (inClass (top 17) 16)) (QP:eD T 9 "rate_list" "Book.rate_list" (inClass (top 17) 17)) (QQ:eD T 9 "keep_of" "Book.keep_of" (inClass (top 17) 19)) (QR:eD T 9 "put_half" "Book.put_half" (inClass (top 17) 20)) (QS:eD T 9 "half_days" "Book.half_days" (inClass (top 17) 21)) (QT:eD T 9 "money_list" "Book.money_list" (inClass (top 17) 24)) (QU:eD T 9 "debt_list" "Book.debt_list" (inClass (top 17) 26)) (QV:Df T mg "_law_begin" (top 19)) (QW:Df T mg "_law_take" (top 20)) (QX:Df T mg "_law_same" (top 21)) (QY:Df T mg "_law_lowest" (top 22)) (QZ:Df T mg "_law_names" (top 23)) (Q0:Df T mg "_law_in_order" (top 24)) (Q1:L8 T mg "_law_worth" (top 25) 21) (Q2:Df T mg "_law_names_of" (top 26)) (Q3:Df T mg "_law_of" (top 27)) (Q4:Df T mg "_law_any_day" (top 28)) (Q5:Df T mg "_law_any_worth" (top 29)) (Q6:Df T mg "_law_deed" (top 30)) (Q7:Df T mg "_law_do" (top 31)) (Q8:Df T mg "_law_refusal" (top 32)) (Q9:Df T mg "_law_world" (top 33)) (Q_:Df T mg "_law_due_way" (top 35)) (Ra:Df T mg "_law_due" (top 34)) (Rb:Df T mg "_law_all_told" (top 36)) (Rc:Df T mg "_law_all_due" (top 37)) (Rf:Df T mg "_law_kind_of" (top 38)) (Rg:Df T mg "_law_walked" (top 39)) (Rh:Df T mg "_law_begun" (top 40)) (Ri:Df T mg "_law_worth_told" (top 41)) (Rj:Df T mg "law" (top 42)) {f:Addr}{a:cz}(F:E9 T.K "law" "law" (top 42) f a) :
  gC P w T.K mg base (qd P w) 12 f a ["_law_script"] (EU T 1 tR):=by
 have ki:=Bn (P:=P) (w:=w) (base:=base) xs bk ş d0;have gR:=qC (P:=P) (w:=w) (base:=base) xs bk Ű d1;have š:=nC (P:=P) (w:=w) (base:=base) xs bk d2;have ż:=pC (P:=P) (w:=w) (base:=base) xs bk d3;have gW:=qF (P:=P) (w:=w) (base:=base) xs bk d4;have bP:=pB (P:=P) (w:=w) (base:=base) xs bk gW d5;have e8:=oq (P:=P) (w:=w) (base:=base) xs bk fZ bP d6;have gS:=qD (P:=P) (w:=w) (base:=base) xs bk bP d7;have dC:=my (P:=P) (w:=w) (base:=base) xs bk ş d8;have fc:=ov (P:=P) (w:=w) (base:=base) xs bk ş d9;have iW:=sf (P:=P) (w:=w) (base:=base) xs bk ż QJ;have gU:=qE (P:=P) (w:=w) (base:=base) xs bk ş š QK;have e_:=ot (P:=P) (w:=w) (base:=base) xs bk š ż QL;have gX:=qG (P:=P) (w:=w) (base:=base) xs bk ż QM;have gZ:=qI (P:=P) (w:=w) (base:=base) xs bk lA QN;have g0:=qJ (P:=P) (w:=w) (base:=base) xs bk u9 lA uC QO;have fW:=pD (P:=P) (w:=w) (base:=base) xs bk ş QP;have iV:=se (P:=P) (w:=w) (base:=base) xs bk š QQ;have gY:=qH (P:=P) (w:=w) (base:=base) xs bk QR;have fV:=pA (P:=P) (w:=w) (base:=base) xs bk QS;have fb:=ou (P:=P) (w:=w) (base:=base) xs bk ki QT;have fU:=pz (P:=P) (w:=w) (base:=base) xs bk ki QU;have k9:=vD (P:=P) (w:=w) (base:=base) xs bk jc QV;have ł:=xZ (P:=P) (w:=w) (base:=base) xs bk jb fm QW;have gp:=xY (P:=P) (w:=w) (base:=base) xs bk u6 oH u7 ű fm jc u_ iB va QX 9;have jQ:=ur (P:=P) (w:=w) (base:=base) xs bk u5 QY;have la:=vF (P:=P) (w:=w) (base:=base) xs bk fm dm ł QZ;have g8:=qL (P:=P) (w:=w) (base:=base) xs bk cP ş Q0;have lg:=vH (P:=P) (w:=w) (base:=base) xs bk ş Q1;have g9:=qM (P:=P) (w:=w) (base:=base) xs bk la Q2;have qs:=Bm (P:=P) (w:=w) (base:=base) xs bk fm ł Q3;have cJ:=sh (P:=P) (w:=w) (base:=base) xs bk ł Q4;have fX:=pE (P:=P) (w:=w) (base:=base) xs bk ł jQ Q5;have mn:=xX (P:=P) (w:=w) (base:=base) xs bk ł qs cJ fX Q6;have kh:=Bl (P:=P) (w:=w) (base:=base) xs bk e8 gS e_ gZ gY Q7;have i3:=sk (P:=P) (w:=w) (base:=base) xs bk b8 ű fm dm kh Q8;have lb:=vG (P:=P) (w:=w) (base:=base) xs bk Q9;have iZ:=si (P:=P) (w:=w) (base:=base) xs bk iB Q_;have iY:=zV (P:=P) (w:=w) (base:=base) xs bk jc iZ Ra;have g7:=qK (P:=P) (w:=w) (base:=base) xs bk dC fc iW gU gX fW iV fV fb fU Rb;have iX:=sg (P:=P) (w:=w) (base:=base) xs bk ş g8 Rc;have i0:=sj (P:=P) (w:=w) (base:=base) xs bk fm Rf;have jR:=uu (P:=P) (w:=w) (base:=base) xs bk fm dm ł gp mn i3 iY g7 iX i0 Rg;have k_:=vE (P:=P) (w:=w) (base:=base) xs bk gR ł kh lb iY Rh;have fe:=ow (P:=P) (w:=w) (base:=base) xs bk ű g0 Ri;exact Ou xs bk dm k9 ł gp lg g9 cJ jR k_ fe F
def Ni {l:lX}{w:Ĩ}{K:É}{h:Heap}{mg:Str->Ê Value}{q a c d e g i j k m cB n t1:Addr}{r t:Ê Value}(X:K.In h)(G:h.Ns mainGlobals mg)(p:mg "law"=À (.ref q)) (x0:xf K mg a "RoyalError" sJ none)(x1:xf K mg c "BadFraction" (.ref a :: sJ) none) (x2:xf K mg d "Taken" (.ref a :: sJ) none) (x3:xf K mg e "NoName" (.ref a :: sJ) none) (x4:xf K mg g "TooMuch" (.ref a :: sJ) none) (x5:xf K mg i "NoRate" (.ref a :: sJ) none) (x6:xf K mg j "NoneLeft" (.ref a :: sJ) none) (x7:xf K mg k "Endless" (.ref a :: sJ) r) (x8:xf K mg m "BadRow" (.ref a :: sJ) t) (b:TZ K cB ["keeps","rows","hands","makers","rates","half","money","debts"])(b8:Ď K mainGlobals "ValueError"=À none)(u5:Ď K mainGlobals "abs"=À none)(u6:Ď K mainGlobals "all"=À none)(oH:Ď K mainGlobals "bool"=À none)(jb:Ď K mainGlobals "divmod"=À none)(cP:Ď K mainGlobals "enumerate"=À none)(u7:Ď K mainGlobals "int"=À none)(ű:Ď K mainGlobals "isinstance"=À none)(fm:Ď K mainGlobals "len"=À none)(jc:Ď K mainGlobals "list"=À none)(u9:Ď K mainGlobals "max"=À none)(dm:Ď K mainGlobals "range"=À none)(ş:Ď K mainGlobals "sorted"=À none)(u_:Ď K mainGlobals "str"=À none)(iB:Ď K mainGlobals "tuple"=À none)(va:Ď K mainGlobals "zip"=À none)(lA:AA ⟨K,ax [a,c,d,e,g,i,j,k,m,cB] [n,t1]⟩ mg "COIN" eg)(Ű:AA ⟨K,ax [a,c,d,e,g,i,j,k,m,cB] [n,t1]⟩ mg "FIRST_HALF_DAYS" bf)(fZ:AA ⟨K,ax [a,c,d,e,g,i,j,k,m,cB] [n,t1]⟩ mg "NOTHING" mV)(uC:AA ⟨K,ax [a,c,d,e,g,i,j,k,m,cB] [n,t1]⟩ mg "ONE" wd)(d0:L8 ⟨K,ax [a,c,d,e,g,i,j,k,m,cB] [n,t1]⟩ mg "by_days" (top 16) 20) (d1:Qq ⟨K,ax [a,c,d,e,g,i,j,k,m,cB] [n,t1]⟩ mg 9 "Book" "Book.__init__" (inClass (top 17) 0)) (d2:eD ⟨K,ax [a,c,d,e,g,i,j,k,m,cB] [n,t1]⟩ 9 "need_person" "Book.need_person" (inClass (top 17) 1)) (d3:eD ⟨K,ax [a,c,d,e,g,i,j,k,m,cB] [n,t1]⟩ 9 "need_work" "Book.need_work" (inClass (top 17) 2)) (d4:eD ⟨K,ax [a,c,d,e,g,i,j,k,m,cB] [n,t1]⟩ 9 "has_name" "Book.has_name" (inClass (top 17) 3)) (d5:eD ⟨K,ax [a,c,d,e,g,i,j,k,m,cB] [n,t1]⟩ 9 "need_free" "Book.need_free" (inClass (top 17) 4)) (d6:eD ⟨K,ax [a,c,d,e,g,i,j,k,m,cB] [n,t1]⟩ 9 "add_person" "Book.add_person" (inClass (top 17) 5)) (d7:eD ⟨K,ax [a,c,d,e,g,i,j,k,m,cB] [n,t1]⟩ 9 "add_work" "Book.add_work" (inClass (top 17) 6)) (d8:eD ⟨K,ax [a,c,d,e,g,i,j,k,m,cB] [n,t1]⟩ 9 "person_names" "Book.person_names" (inClass (top 17) 7)) (d9:eD ⟨K,ax [a,c,d,e,g,i,j,k,m,cB] [n,t1]⟩ 9 "work_names" "Book.work_names" (inClass (top 17) 8)) (QJ:eD ⟨K,ax [a,c,d,e,g,i,j,k,m,cB] [n,t1]⟩ 9 "rows_of" "Book.rows_of" (inClass (top 17) 10)) (QK:eD ⟨K,ax [a,c,d,e,g,i,j,k,m,cB] [n,t1]⟩ 9 "hands_of" "Book.hands_of" (inClass (top 17) 12)) (QL:eD ⟨K,ax [a,c,d,e,g,i,j,k,m,cB] [n,t1]⟩ 9 "make_known" "Book.make_known" (inClass (top 17) 13)) (QM:eD ⟨K,ax [a,c,d,e,g,i,j,k,m,cB] [n,t1]⟩ 9 "known_of" "Book.known_of" (inClass (top 17) 14)) (QN:eD ⟨K,ax [a,c,d,e,g,i,j,k,m,cB] [n,t1]⟩ 9 "put_rate" "Book.put_rate" (inClass (top 17) 15)) (QO:eD ⟨K,ax [a,c,d,e,g,i,j,k,m,cB] [n,t1]⟩ 9 "worth_of" "Book.worth_of" (inClass (top 17) 16)) (QP:eD ⟨K,ax [a,c,d,e,g,i,j,k,m,cB] [n,t1]⟩ 9 "rate_list" "Book.rate_list" (inClass (top 17) 17)) (QQ:eD ⟨K,ax [a,c,d,e,g,i,j,k,m,cB] [n,t1]⟩ 9 "keep_of" "Book.keep_of" (inClass (top 17) 19)) (QR:eD ⟨K,ax [a,c,d,e,g,i,j,k,m,cB] [n,t1]⟩ 9 "put_half" "Book.put_half" (inClass (top 17) 20)) (QS:eD ⟨K,ax [a,c,d,e,g,i,j,k,m,cB] [n,t1]⟩ 9 "half_days" "Book.half_days" (inClass (top 17) 21)) (QT:eD ⟨K,ax [a,c,d,e,g,i,j,k,m,cB] [n,t1]⟩ 9 "money_list" "Book.money_list" (inClass (top 17) 24)) (QU:eD ⟨K,ax [a,c,d,e,g,i,j,k,m,cB] [n,t1]⟩ 9 "debt_list" "Book.debt_list" (inClass (top 17) 26)) (QV:Df ⟨K,ax [a,c,d,e,g,i,j,k,m,cB] [n,t1]⟩ mg "_law_begin" (top 19)) (QW:Df ⟨K,ax [a,c,d,e,g,i,j,k,m,cB] [n,t1]⟩ mg "_law_take" (top 20)) (QX:Df ⟨K,ax [a,c,d,e,g,i,j,k,m,cB] [n,t1]⟩ mg "_law_same" (top 21)) (QY:Df ⟨K,ax [a,c,d,e,g,i,j,k,m,cB] [n,t1]⟩ mg "_law_lowest" (top 22)) (QZ:Df ⟨K,ax [a,c,d,e,g,i,j,k,m,cB] [n,t1]⟩ mg "_law_names" (top 23)) (Q0:Df ⟨K,ax [a,c,d,e,g,i,j,k,m,cB] [n,t1]⟩ mg "_law_in_order" (top 24)) (Q1:L8 ⟨K,ax [a,c,d,e,g,i,j,k,m,cB] [n,t1]⟩ mg "_law_worth" (top 25) 21) (Q2:Df ⟨K,ax [a,c,d,e,g,i,j,k,m,cB] [n,t1]⟩ mg "_law_names_of" (top 26)) (Q3:Df ⟨K,ax [a,c,d,e,g,i,j,k,m,cB] [n,t1]⟩ mg "_law_of" (top 27)) (Q4:Df ⟨K,ax [a,c,d,e,g,i,j,k,m,cB] [n,t1]⟩ mg "_law_any_day" (top 28)) (Q5:Df ⟨K,ax [a,c,d,e,g,i,j,k,m,cB] [n,t1]⟩ mg "_law_any_worth" (top 29)) (Q6:Df ⟨K,ax [a,c,d,e,g,i,j,k,m,cB] [n,t1]⟩ mg "_law_deed" (top 30)) (Q7:Df ⟨K,ax [a,c,d,e,g,i,j,k,m,cB] [n,t1]⟩ mg "_law_do" (top 31)) (Q8:Df ⟨K,ax [a,c,d,e,g,i,j,k,m,cB] [n,t1]⟩ mg "_law_refusal" (top 32)) (Q9:Df ⟨K,ax [a,c,d,e,g,i,j,k,m,cB] [n,t1]⟩ mg "_law_world" (top 33)) (Q_:Df ⟨K,ax [a,c,d,e,g,i,j,k,m,cB] [n,t1]⟩ mg "_law_due_way" (top 35)) (Ra:Df ⟨K,ax [a,c,d,e,g,i,j,k,m,cB] [n,t1]⟩ mg "_law_due" (top 34)) (Rb:Df ⟨K,ax [a,c,d,e,g,i,j,k,m,cB] [n,t1]⟩ mg "_law_all_told" (top 36)) (Rc:Df ⟨K,ax [a,c,d,e,g,i,j,k,m,cB] [n,t1]⟩ mg "_law_all_due" (top 37)) (Rf:Df ⟨K,ax [a,c,d,e,g,i,j,k,m,cB] [n,t1]⟩ mg "_law_kind_of" (top 38)) (Rg:Df ⟨K,ax [a,c,d,e,g,i,j,k,m,cB] [n,t1]⟩ mg "_law_walked" (top 39)) (Rh:Df ⟨K,ax [a,c,d,e,g,i,j,k,m,cB] [n,t1]⟩ mg "_law_begun" (top 40)) (Ri:Df ⟨K,ax [a,c,d,e,g,i,j,k,m,cB] [n,t1]⟩ mg "_law_worth_told" (top 41)) (Rj:Df ⟨K,ax [a,c,d,e,g,i,j,k,m,cB] [n,t1]⟩ mg "law" (top 42)):∃ o:cz,(∀ (s:Ò) (v:Value),sy s o ⟨[v],[]⟩ [("_law_script",v)])/\∀ base:Heap,K.In base->base.Ns mainGlobals mg->gC l.prog w K mg base (qd l.prog w) 12 q o ["_law_script"] (spT K [n,t1] [(20,"by_days.<locals>.<lambda>"),(21,"_law_worth.<locals>.<lambda>")] tR):=
 JO p rfl Rj (λ _ _ _ _ _ _ _ _=>.of_eq rfl) λ base f o F=>M6 (To x0 x1 x2 x3 x4 x5 x6 x7 x8) (b.bk rfl) (Ċ X G b8) (Ċ X G u5) (Ċ X G u6) (Ċ X G oH) (Ċ X G jb) (Ċ X G cP) (Ċ X G u7) (Ċ X G ű) (Ċ X G fm) (Ċ X G jc) (Ċ X G u9) (Ċ X G dm) (Ċ X G ş) (Ċ X G u_) (Ċ X G iB) (Ċ X G va) lA Ű fZ uC d0 d1 d2 d3 d4 d5 d6 d7 d8 d9 QJ QK QL QM QN QO QP QQ QR QS QT QU QV QW QX QY QZ Q0 Q1 Q2 Q3 Q4 Q5 Q6 Q7 Q8 Q9 Q_ Ra Rb Rc Rf Rg Rh Ri Rj F
end Ro
namespace Ro
open PySem L2
end Ro
namespace L2
open PySem PySem.Spec PyProof.Rows
end L2
namespace Ro
open PySem L2
abbrev Fs:=Á (Int × Int)
def den:Fs->Int
 | []=>1
 | f :: r=>f.2 * den r
def num:Fs->Int
 | []=>0
 | f :: r=>f.1 * den r+f.2 * num r
def U0 (fs:Fs):Prop:=∀ f∈fs,1<=f.2
theorem den_pos:∀ {fs:Fs},U0 fs->1<=den fs
 | [],_=>by decide
 | f :: r,h=>by
  have b:1<=f.2:=h f Ļ;have c:=den_pos (fs:=r) λ g a=>h g (þ _ a);show 1<=f.2 * den r;have:=Int.mul_pos (show 0 < f.2 by lia) (show 0 < den r by lia);lia
abbrev ig (a b:Int):Int:=((Ř a b:Nat):Int)
open Mm
def fq (q:Rat):AV:=.tup [.int q.num,.int q.den]
def Lu (q:Rat):Ř q.num (q.den:Int)=1:=q.reduced
def Lv (q:Rat):(1:Int)<=(q.den:Int):=by have:=q.den_pos;lia
def Np (h:b≠0):fr t b=((dO t b).num,((dO t b).den:Int)):=by
 refine JT h (Lv _) (Lu _) ?_;have e:=Rat.num_divInt_den (dO t b);have:=(Rat.divInt_eq_divInt_iff (by have:=(dO t b).den_pos;lia) h).mp e;exact this
def AW (h:fC n i)(k:n<=60000000):IY i:=⟨h.mono k⟩
def GJ (h:fC n i)(k:n<=9000):MX i:=⟨h.mono k⟩
def JS {x y:Int}(b:0<=x)(a:0 < y):0<=x.fmod y/\x.fmod y < y:=by
 rw[j6 _ (by lia)];exact⟨PU _ (by lia),Jj _ a⟩
def JY (b:0 < y):ig y (x.fmod y)=ig x y:=by
 rw[j6 _ (by lia)];show((Ř y (x % y):Nat):Int)=((Ř x y:Nat):Int)
 congr 1;rw[Int.gcd_comm];have a:=Int.emod_def x y;rw[a,Int.gcd_sub_mul_left_left]
def Nu (a b:Int):ig (if a < 0 then -a else a) (if b < 0 then -b else b)=ig a b:=by
 show((Ř _ _:Nat):Int)=((Ř a b:Nat):Int)
 congr 1;split<;>split<;>simp[Int.gcd_neg,Int.neg_gcd]
def RL (h:b≠0):ig a b≠0:=by have:=sM (t:=a) h;show((Ř a b:Nat):Int)≠0;lia
def FW (h:b≠0)(f:fC n b):fC n (ig a b):=f.le (by
 show((Ř a b:Nat):Int).natAbs<=_;rw[Int.natAbs_natCast];exact Nat.le_of_dvd (by lia) (Int.gcd_dvd_natAbs_right a b))
def Ė (s:S)(xs:Á AV):ô (s++[.lst xs]) s.length=À xs:=by
 unfold ô;simp
theorem qv:∀ l:Á Int,lF (l.map AV.int)=À l
 | []=>rfl
 | i :: r=>by show(lF (r.map AV.int)).map (i :: ·)=_;rw[qv r];rfl
end Ro
namespace Mm
open PySem L2
mutual
theorem AV.low.mono (h:b<=c):∀ {v:AV},v.low b=true->v.low c=true
 | .ref i,k=>by simp only[AV.low,Ŗ]at k ⊢;lia
 | .tup xs,k=>by simp only[AV.low]at k ⊢;exact Ĺ.mono h k
 | .sq xs,k=>by simp only[AV.low]at k ⊢;exact Ĺ.mono h k
 | .Ę,_=>by simp only[AV.low]
 | .bl _,_=>by simp only[AV.low]
 | .int _,_=>by simp only[AV.low]
 | .str _,_=>by simp only[AV.low]
theorem Ĺ.mono (h:b<=c):∀ {l:Á AV},Ĺ b l=true->Ĺ c l=true
 | [],_=>by simp only[Ĺ]
 | v :: r,k=>by
  simp only[Ĺ,ĝ]at k ⊢;exact⟨AV.low.mono h k.1,Ĺ.mono h k.2⟩
end
theorem AO.low.mono (h:b<=c){o:AO}(k:o.low b=true):o.low c=true:=by
 cases o<;>first|exact Ĺ.mono h k|rfl
def Cl (s:S):Prop:=s.all (AO.low s.length)=true
def Cl.add {s e:S}(h:Cl s)(k:e.all (AO.low (s.length+e.length))=true):Cl (s++e):=by
 unfold Cl at *
 rw[List.all_append,ă,k,Ŏ];rw[ñ]at h ⊢;exact λ o a=>AO.low.mono (by lia) (h o a)
theorem Cl.set (h:Cl s)(k:o.low s.length=true):Cl (s.set i o):=by
 unfold Cl at *
 rw[Ś];rw[ñ]at h ⊢;intro x a;rcases List.mem_or_eq_of_mem_set a with a|rfl
 ·exact h x a
 ·exact k
def û (h:ô s k=À xs):ô (s++e) k=À xs:=by
 have:=ď h;refine bI ?_;have a:k < s.length:=(Ç.mp this).1;rw[Û a];exact this
def Fv (a:ô st i=À xs)(b:ô st j=À ys)(hl:xs.length+ys.length<=sizeLine):bS (.ref i) (.ref j) st=.ok (.ref st.length) (st++[.lst (xs++ys)]):=by
 show(need (ô st i) λ xs=>need (ô st j) λ ys=>if xs.length+ys.length<=sizeLine then R.ok (AV.ref st.length) (st++[.lst (xs++ys)]) else .bad)=_;rw[a,å,b,å,Ï hl]
end Mm
namespace Ro
open PySem L2 Mm
end Ro
namespace Mm
open PySem L2
end Mm
namespace Ro
open PySem L2 Mm
def Eu (l:Á Str):(Ĕ l).length=l.length:=(lC l).length_eq
theorem zK (A B C:Ê AV):∀ (n:Nat) (x y:Int) (s:S),0<=x->0<=y->y.natAbs < n->
  Jg (cB (Ø Bo (mv 4) (mc (.int 0)))) (lS 3 4 (Æ (mv 4) (Æ (Ø jz (mv 3) (mv 4)) Ý))) n [A,B,C,À (.int x),À (.int y)] s=.nx [A,B,C,À (.int (ig x y)),À (.int 0)] s
 | 0,_,_,_,_,_,h=>absurd h (PV _)
 | n+1,x,y,s,f,g,h=>by
  unfold Jg;have e:cB (Ø Bo (mv 4) (mc (.int 0))) [A,B,C,À (.int x),À (.int y)] s=.ok (decide (0 < y)) s:=rfl;rw[e,eZ];by_cases b:y=0
  ·subst b;rw[Ô (by simp)];rw[show ig x 0=x by show((Ř x 0:Nat):Int)=x;rw[Int.gcd_zero_right];lia]
  ·have a:0 < y:=by lia
   obtain⟨i,j⟩:=JS f a;rw[Ï (by simpa using a)];have c:lS 3 4 (Æ (mv 4) (Æ (Ø jz (mv 3) (mv 4)) Ý)) [A,B,C,À (.int x),À (.int y)] s=.nx [A,B,C,À (.int y),À (.int (x.fmod y))] s:=by
    have d:jz (.int x) (.int y) s=.ok (.int (x.fmod y)) s:=Ï b;show((jz (.int x) (.int y) s).bind _ |>.bind _).bz _=_;rw[d];rfl
   rw[c];show Jg _ _ n _ s=_;rw[zK A B C n y (x.fmod y) s g i (by lia),JY a]
def F3 (A B C X:Ê AV)(y:Int):Md [A,B,C,X,À (.int y)]=y.natAbs+1:=rfl
def DX (s:S)(h:b≠0)(l:fC 9000 b)(m:fC 60000000 a):br [.int a,.int b] s=.ok (fq (dO a b)) s:=by
 have e:=(NL a b h).trans (Np (t:=a) h);have f:((if b < 0 then -1 else 1) * a).fdiv (ig a b)=(dO a b).num:=Ķ ZQ e;have i:((if b < 0 then -1 else 1) * b).fdiv (ig a b)=((dO a b).den:Int):=Ķ ZR e;have g:=RL (a:=a) h;have j:MX (ig a b):=GJ (FW h l) (Ì _);have bs:∀ c:Prop,[ő c]->IY (if c then -1 else 1):=λ c _=>by
  split
  ·exact AW (n:=1) (by show(-1:Int).natAbs < 2 ^ 1;decide) (by decide)
  ·exact AW (n:=1) (by show(1:Int).natAbs < 2 ^ 1;decide) (by decide)
 have k:IY b:=⟨l.mono (by decide)⟩
 have ba:IY a:=⟨m⟩
 apply R.wp.eq;unfold br jJ;simp only[↓WS,↓WE,↓WV,Lq,ß,UU,Ä,↓Ð,↓PM,F3];rw[vM (zK _ _ _ _ _ _ s (by split<;>lia) (by split<;>lia) (dZ _)),Nu];walk_at "w";by_cases c:b < 0
 ·simp only[c,eO]at f i ⊢;have d:=bs True;rw[Ï trivial]at d;refine⟨⟨d,ba⟩,⟨g,j⟩,⟨d,k⟩,⟨g,j⟩,?_⟩;rw[f,i];rfl
 ·simp only[c,eG]at f i ⊢;have d:=bs False;rw[Ô (λ z=>z)]at d;refine⟨⟨d,ba⟩,⟨g,j⟩,⟨d,k⟩,⟨g,j⟩,?_⟩;rw[f,i];rfl
end Ro
namespace Mm
open PySem L2
def uZ (a:Mt)(r:I0)(v:AV)(w:Á AV)(env:En)(s:S)(N:En->S->Prop)(T:AV->S->Prop):(ĉ a r (v :: w) env s).wp N T=(a v env s).wp (λ e s1=>(r w e s1).wp N T) T:=by
 show(match a v env s with|.nx e s1=>r w e s1|q=>q).wp N _=_;cases a v env s<;>rfl
def Im (o i:Ev)(v:AV)(env:En)(s:S)(N:En->S->Prop)(T:AV->S->Prop):(ml o i v env s).wp N T=(o env s).wp λ a s1=>(i env s1).wp λ b c=>(match a,b with
 | .ref k,.int j=>match ô c k with
  | some xs=>match Cq xs.length j with
   | some n=>RS.nx env (c.set k (.lst (xs.set n v)))
   | none=>.bad
  | none=>.bad
 | _,_=>.bad).wp N T:=by
 unfold ml;rw[aW];congr 1;funext a s1;rw[aW];try rfl
end Mm
namespace Ro
open PySem L2 Mm
def RU:¬ ((.inr "cells":Key)=.inr "turn"):=λ z=>Zg (j2 z)
def vZ (c:Nat)(t:Int):Á (Key × AV):=[(.inr "cells",.ref c),(.inr "turn",.int t)]
def FI (c:Nat)(t:Int):ũ (vZ c t) (.inr "cells")=À (.ref c):=Ï rfl
def JK (c:Nat)(t:Int):ũ (vZ c t) (.inr "turn")=À (.int t):=by
 unfold vZ ũ;rw[Ô RU];exact Ï rfl
def Ng (c:Nat)(t u:Int):jT (vZ c t) (.inr "turn") (.int u)=vZ c u:=by
 unfold jT vZ;rw[Ï (by simp)];simp only[Õ,aj,Ô RU,eO]
structure Dr (c d n:Nat)(s:S):Prop where
 ex:∃ (t:Int) (cells:Á Int),s[d]? = À (.dK (vZ c t))/\s[c]? = À (.lst (cells.map AV.int))/\cells≠[]/\0<=t/\t<=n
 cl:Cl s
structure Kp (c d:Nat)(s s':S):Prop where
 len:s'.length=s.length
 get:∀ i,i≠c->i≠d->s'[i]? = s[i]?
theorem Kp.trans (h:Kp c d s s')(k:Kp c d s' a):Kp c d s a:=⟨k.len.trans h.len,λ i b e=>(k.get i b e).trans (h.get i b e)⟩
def Dr.mono (h:Dr c d n s)(k:n<=m):Dr c d m s:=by
 obtain⟨⟨t,a,b,e,f,g,i⟩,cl⟩:=h;exact⟨⟨t,a,b,e,f,g,by lia⟩,cl⟩
def Dr.ne (h:Dr c d n s):c≠d:=by
 obtain⟨⟨t,a,e,b,_⟩,_⟩:=h;rintro rfl;rw[e]at b;cases b
def Dr.Kb (h:Dr c d n s):c < s.length:=by
 obtain⟨⟨t,a,e,b,_⟩,_⟩:=h;exact(Ç.mp b).1
def Dr.Kc (h:Dr c d n s):d < s.length:=by
 obtain⟨⟨t,a,b,e,_⟩,_⟩:=h;exact(Ç.mp b).1
def Dr.app (h:Dr c d n s)(k:Cl (s++e)):Dr c d n (s++e):=by
 have i:=h.Kb;have j:=h.Kc;obtain⟨⟨t,a,b,f,g⟩,cl⟩:=h;exact⟨⟨t,a,by rw[Û j];exact b,by rw[Û i];exact f,g⟩,k⟩
theorem Dr.set (h:Dr c d n s)(b:i≠c)(e:i≠d)(k:o.low s.length=true):Dr c d n (s.set i o):=by
 obtain⟨⟨t,a,f,g,j⟩,cl⟩:=h;exact⟨⟨t,a,by rw[í e];exact f,by rw[í b];exact g,j⟩,cl.set k⟩
theorem low_ints (b:Nat):∀ l:Á Int,Ĺ b (l.map AV.int)=true
 | []=>by simp[Ĺ]
 | i :: r=>by simp only[Õ,Ĺ,low_ints b r];simp[AV.low]
def JP {x m:Int}(h:0 < m)(k:m<=2147483648):fC 31 (x.fmod m):=by
 have a:=m5 x h;have b:=rJ x h;exact v7 (by lia) (by lia)
def vA (h:0<=i)(k:i < 2 ^ n):fC n i:=v7 (by lia) k
def LM (D:Dr c d n s)(hn:n<=1000000000)(y:0 < k)(fk:fC 9000 k) :
  (ě [.ref d,.int k] s).wp λ v s'=>∃ r,v=.int r/\0<=r/\r < k/\Dr c d (n+1) s'/\Kp c d s s':=by
 have N:=D.Kb;have ld:=D.Kc;have O:=D.ne;obtain⟨⟨t,a,h1,h2,M,h4,h5⟩,cl⟩:=D;have I:jN s d=À (vZ c t):=by unfold jN;rw[h1]
 have g1:ģ (.ref d) (.str "turn") s=.ok (.int t) s:=by
  show(need (jN s d) λ e=>need (fg (.str "turn")) λ k=>need (ũ e k) λ v=>R.ok v s)=_;rw[I,å];rw[show fg (.str "turn")=À (.inr "turn") from rfl,å,JK];rfl
 let b:=s.set d (.dK (vZ c (t+1)));have p1:∀ g,putD (.int (t+1)) (.ref d) (.str "turn") g s=.nx g b:=λ g=>by
  show(match jN s d,fg (.str "turn") with
   | some e,À k=>if e.length < sizeLine then RS.nx g (s.set d (.dK (jT e k (.int (t+1))))) else .bad
   | _,_=>.bad)=_
  rw[I];show(if (vZ c t).length < sizeLine then RS.nx g (s.set d (.dK (jT (vZ c t) (.inr "turn") (.int (t+1))))) else .bad)=_;rw[Ï (ŝ (by show(2:Nat)<=1000;lia)),Ng]
 have E:b[d]? = À (.dK (vZ c (t+1))):=Č ld;have J:b[c]? = À (.lst (a.map AV.int)):=by show(s.set d _)[c]? = _;rw[í (Ŋ O)];exact h2
 have G:ô b c=À (a.map AV.int):=bI J;have p:Cl b:=cl.set (by simp[AO.low,vZ,Ĺ,AV.low,N]);have l:Kp c d s b:=⟨Ś,λ i _ hi=>í (Ŋ hi)⟩
 have L:ģ (.ref d) (.str "cells") b=.ok (.ref c) b:=by
  show(need (jN b d) λ e=>need (fg (.str "cells")) λ k=>need (ũ e k) λ v=>R.ok v b)=_;rw[show jN b d=À (vZ c (t+1)) by unfold jN;rw[E],å];rw[show fg (.str "cells")=À (.inr "cells") from rfl,å,FI];rfl
 have hl0:0 < a.length:=List.length_pos_iff.mpr M;have w:i6 [.ref c] b=.ok (.int a.length) b:=by
  show(need (ô b c) λ xs=>R.ok (AV.int xs.length) b)=_;rw[G,å,Î]
 have q:(0:Int) < a.length:=by lia
 have j0:=m5 (t+1) q;have j1:=rJ (t+1) q;obtain⟨j,Z⟩:∃ j:Nat,(t+1).fmod a.length=j:=⟨((t+1).fmod a.length).toNat,by lia⟩
 have hj:j < a.length:=by lia
 have ix:kQ (a.map AV.int) (j:Int)=À (.int a[j]):=kR (by rw[è,Å hj];rfl);have F:Cq (a.map AV.int).length (j:Int)=À j:=by
  unfold Cq;rw[Î,Ï (by lia),Ï (by lia)];rfl
 unfold ě l8;have gE:ĺ (.ref c) (.int j) b=.ok (.int a[j]) b:=by
  show(need (ô b c) λ xs=>need (kQ xs j) λ v=>R.ok v b)=_;rw[G,å,ix];rfl
 have u:(10:Int) ^ (18:Int).toNat=1000000000000000000:=VL;have A:fC 31 (t+1):=vA (by lia) (by lia);simp only[↓WS,↓WE,↓WV,Lq,ß,UU,Ä,↓Ð,↓Ĥ g1,↓vM (p1 _),↓Ĥ L,↓Ĥ w,Z,↓Ĥ gE,u];refine⟨by lia,⟨by lia,by lia,by decide⟩,?_⟩;split
 ·simp only[↓WS,↓WE,↓WV,Lq,ß,UU,Ä,↓Ð,↓uZ,↓Im,↓Ĥ L,G,F];refine⟨⟨y,⟨fk⟩⟩,_,rfl,PU _ (by lia),Jj _ y,⟨⟨t+1,a.set j (a[j] / k),?_,?_,?_,by lia,by lia⟩,?_⟩,?_⟩
  ·rw[í O];exact E
  ·rw[Č (by show c < b.length;rw[l.len];exact N),Tv]
  ·intro z;have:=Ķ bE z;rw[Ś,aJ]at this;lia
  ·refine p.set ?_;rw[<-Tv];exact low_ints _ _
  ·exact⟨by rw[Ś];exact l.len,λ i P q2=>by rw[í (Ŋ P)];exact l.get i P q2⟩
 ·have Q:fC 31 (a[j].fmod 2147483629):=JP (by lia) (by lia);have o:fC 13 (7919:Int):=vA (by lia) (by lia);have C:fC 16 (48271:Int):=vA (by lia) (by lia);have m:fC 17 (104729:Int):=vA (by lia) (by lia);have B:fC 16 (39373:Int):=vA (by lia) (by lia);have H:=A.mul A;have T:=H.mul o;have U:fC 76 (a[j].fmod 2147483629+(t+1) * (t+1) * 7919):=fC.add (n:=75) (Q.mono (by lia)) (T.mono (by lia));have X:fC 77 (a[j].fmod 2147483629+(t+1) * (t+1) * 7919+11):=fC.add U (vA (by lia) (by lia));have Y:∀ x:Int,fC 49 (x.fmod 2147483587+(t+1) * 104729):=λ x=>fC.add (n:=48) ((JP (by lia) (by lia)).mono (by lia)) ((A.mul m).mono (by lia));have f:∀ {n:Nat}{i:Int},fC n i->n<=100->IY i:=λ h k=>AW h (by lia);refine⟨by decide,⟨f A (by lia),f A (by lia)⟩,⟨f H (by lia),f o (by lia)⟩,⟨f X (by lia),f C (by lia)⟩,by decide,⟨f (JP (by lia) (by lia)) (by lia),f (JP (by lia) (by lia)) (by lia)⟩,by decide,⟨f A (by lia),f m (by lia)⟩,⟨f (Y _) (by lia),f B (by lia)⟩,by decide,⟨by decide,GJ (n:=7) (vA (by lia) (by lia)) (by lia)⟩,by lia,_,rfl,m5 _ y,rJ _ y,⟨⟨t+1,a,E,J,M,by lia,by lia⟩,p⟩,l⟩
def F1:∀ {v:AV},mh v=true->∃ d,toD n s v=À d/\d.dep=0
 | .Ę,_=>⟨.Ę,by unfold toD;rfl,by simp[Dt.dep]⟩
 | .bl b,_=>⟨.bl b,by unfold toD;rfl,by simp[Dt.dep]⟩
 | .int b,_=>⟨.int b,by unfold toD;rfl,by simp[Dt.dep]⟩
 | .str b,_=>⟨.str b,by unfold toD;rfl,by simp[Dt.dep]⟩
theorem v9:∀ {l:Á AV},l.all mh=true->∃ ds,l.mapM (toD n s)=À ds/\ds.length=l.length/\ay ds=0
 | [],_=>⟨[],rfl,rfl,by simp[ay]⟩
 | v :: r,h=>by
  rw[Ġ,ĝ]at h;obtain⟨d,a,b⟩:=F1 (s:=s) (n:=n) h.1;obtain⟨ds,c,e,f⟩:=v9 (s:=s) (n:=n) h.2;exact⟨d :: ds,by rw[yv,a,c];rfl,by simp[e],by simp[ay,b,f]⟩
def FT (d:ô s i=À xs)(e:ô s j=À [])(f:xs.all mh=true):FR s (.ref i) (.ref j)=À xs.isEmpty:=by
 obtain⟨a,c,b,g⟩:=v9 (s:=s) (n:=19) f;have t1:toD 20 s (.ref i)=À (.lst a):=by
  simp only[toD,d,bQ,c,ck]
 have t2:toD 20 s (.ref j)=À (.lst []):=by
  simp only[toD,e,bQ,Aq];rfl
 unfold FR;simp only;rw[t1,t2];dsimp only;rw[Ï (by lia)];congr 1;cases xs with
 | nil=>cases a with
  | nil=>simp[iu]
  | cons=>cases b
 | cons=>cases a with
  | nil=>cases b
  | cons=>simp[iu]
theorem v8:∀ l:Á Int,(l.map AV.int).all mh=true
 | []=>rfl
 | i :: r=>by rw[Õ,Ġ,v8 r];rfl
def Ru (h:0 < k)(l:k < 1048576):fC 9000 k:=(vA (n:=20) (by lia) (by lia)).mono (by lia)
def MJ {k:Int}(h:0 < k)(l:k < 1048576):(decide (0 < k) && decide (k < 1048576))=true:=by rw[ć h,ć l];rfl
def take1 {c d n:Nat}{s:S}{k:Int}(D:Dr c d n s)(b:n<=1000000000:=by lia)(a:(decide (0 < k) && decide (k < 1048576))=true:=by first|rfl|exact MJ (by lia) (by lia)) :
  (ě [.ref d,.int k] s).wp λ v s'=>∃ r,v=.int r/\0<=r/\r < k/\Dr c d (n+1) s'/\Kp c d s s':=by
 rw[ĝ]at a;exact LM D b (Ħ a.1) (Ru (Ħ a.1) (Ħ a.2))
def sT (m:Ev)(env:En)(s:S)(Q:Á AV × Gd->S->Prop):(ym (Æ m Ý) env s).wp Q=(m env s).wp λ v s1=>match v with|.int j=>(-(2 ^ 62)<=j/\j < 2 ^ 62)/\Q (oA 0 j.toNat,[]) s1|_=>False:=by
 unfold ym Æ Ý;simp only[wp_bind,pO];congr 1;funext v s1;cases v<;>first|rfl|exact lI _ _ _
structure Gk (c d:Nat)(s s':S):Prop where
 len:s.length<=s'.length
 get:∀ i,i < s.length->i≠c->i≠d->s'[i]? = s[i]?
def Kp.gk (h:Kp c d s s'):Gk c d s s':=⟨by rw[h.len];exact Ì _,λ i _ a b=>h.get i a b⟩
def Gk.app (c d:Nat)(s e:S):Gk c d s (s++e):=⟨by simp,λ i a _ _=>Û a⟩
theorem Gk.trans (h:Gk c d s s')(k:Gk c d s' a):Gk c d s a:=⟨Đ h.len k.len,λ i f b e=>(k.get i (é f h.len) b e).trans (h.get i f b e)⟩
def Gk.lst {c d n i:Nat}{s s':S}{xs:Á AV}(h:Gk c d s s')(a:i≠c)(b:i≠d)(k:ô s i=À xs):ô s' i=À xs:=by
 have e:=ď k;exact bI ((h.get i (Ç.mp e).1 a b).trans e)
theorem Gk.set (h:Gk c d s s')(f:s.length<=i):Gk c d s (s'.set i o):=⟨by rw[Ś];exact h.len,λ j e a b=>by rw[í (by lia)];exact h.get j e a b⟩
def Gk.cut (h:Gk c d s s')(D:Dr c d n s)(A:Dr c d m s'):Dr c d m (s'.take s.length)/\Kp c d s (s'.take s.length)/\(s'.take s.length).all (AO.low s.length)=true:=by
 have r:=D.Kb;have ld:=D.Kc;have g:(s'.take s.length).length=s.length:=by rw[ū];have:=h.len;lia
 have l:∀ i,i < s.length->(s'.take s.length)[i]? = s'[i]?:=λ i a=>ai a;have cl:=D.cl;obtain⟨⟨t,b,p,q,v,w,x⟩,u⟩:=A;have all:(s'.take s.length).all (AO.low s.length)=true:=by
  rw[ñ];intro o y;obtain⟨i,a,e⟩:=oO.mp y;rw[g]at a;have f:(s'.take s.length)[i]? = À o:=by rw[Å (by rw[g];exact a)];rw[e]
  rw[l i a]at f;by_cases j:i=c
  ·subst j;rw[q]at f;cases f;exact low_ints _ _
  by_cases k:i=d
  ·subst k;rw[p]at f;cases f;simp[AO.low,vZ,Ĺ,AV.low,r]
  rw[h.get i a j k]at f;have:=ñ.mp (show s.all (AO.low s.length)=true from cl) o (ò f);exact this
 refine⟨⟨⟨t,b,by rw[l d ld];exact p,by rw[l c r];exact q,v,w,x⟩,?_⟩,⟨g,λ i j k=>?_⟩,all⟩
 ·unfold Cl;rw[g];exact all
 ·by_cases a:i < s.length
  ·rw[l i a];exact h.get i a j k
  ·rw[C3 (by rw[g];lia),C3 (by lia)]
def Ge {s:S}{i:Nat}{xs:Á AV}{j:Int}(h:ô s i=À xs)(h0:0<=j)(b:j < xs.length):∃ v,v∈xs/\ĺ (.ref i) (.int j) s=.ok v s:=by
 obtain⟨n,rfl⟩:∃ n:Nat,j=n:=⟨j.toNat,by lia⟩
 have a:n < xs.length:=by lia
 refine⟨xs[n],dV a,?_⟩;show(need (ô s i) λ xs=>need (kQ xs n) λ v=>R.ok v s)=_;rw[h,å,kR (Å a)];rfl
def Gp (s:S)(c:0<=a)(d:a<=1000)(e:0 < b)(f:b<=1000):br [.int a,.int b] s=.ok (fq (dO a b)) s:=DX s (by lia) ((vA (n:=20) (by lia) (by lia)).mono (by lia)) ((vA (n:=20) (by lia) (by lia)).mono (by lia))
def append_at (h:ô s i=À xs)(hl:xs.length < sizeLine):aV (.ref i) [v] s=.ok .Ę (s.set i (.lst (xs++[v]))):=by
 unfold aV;simp only[h,å,Ï hl]
def qw (h:ô s i=À xs):(km "list" (.ref i) s).isSome=true:=by
 show((ô s i).map λ _=>()).isSome=true;rw[h];rfl
def Cz (h:ô s i=À xs):ô (s.set i (.lst ys)) i=À ys:=by
 refine bI (Č ?_);exact(Ç.mp (ď h)).1
def jB:Str:="b aa zebra c quartzes ab m knows d mm likes z ba abcdefgh y zz e x f g hh jj kk pave"
open PySem.Builtin.Str in
def xW:Á Str:=partsBetween jB (occurrences jB " " 0 jB.length (jB.length+1)) (" ":Str).length
def G5:xW.length=24:=by decide +kernel
open PySem.Builtin.Str in
def KJ:(decide (jB.length < (" ":Str).length) || decide (oR jB < oR (" ":Str)))=false/\((" ":Str).length == 0)=false/\(occurrences jB " " 0 jB.length (jB.length+1)).isEmpty=false/\jB.length<=1000/\(partsBetween jB (occurrences jB " " 0 jB.length (jB.length+1)) (" ":Str).length).length<=1000:=by decide +kernel
def LF (s:S):pG (.str "b aa zebra c quartzes ab m knows d mm likes z ba abcdefgh y zz e x f g hh jj kk pave") [.str " "] s=.ok (xW.map AV.str) s:=Ï KJ
theorem aU (b:Nat):∀ l:Á Str,Ĺ b (l.map AV.str)=true
 | []=>by simp[Ĺ]
 | i :: r=>by simp only[Õ,Ĺ,aU b r];simp[AV.low]
def oj (h:ô s i=À xs):i6 [.ref i] s=.ok (.int xs.length) s:=by
 show(need (ô s i) λ xs=>R.ok (AV.int xs.length) s)=_;rw[h];rfl
theorem FV (f:α->b):∀ (l:Á α) (m:Nat),(l.map f).eraseIdx m=(l.eraseIdx m).map f
 | [],_=>rfl
 | a :: r,0=>rfl
 | a :: r,m+1=>by show f a :: (r.map f).eraseIdx m=f a :: (r.eraseIdx m).map f;rw[FV f r m]
def TG:(fE "int" "list"=false)/\(fE "int" "tuple"=false)/\(fE "int" "str"=false)/\(fE "int" "int"=true)/\(fE "int" "bool"=false)/\
  (fE "str" "list"=false)/\(fE "str" "tuple"=false)/\(fE "str" "str"=true)/\
  (fE "tuple" "list"=false)/\(fE "tuple" "tuple"=true)/\(fE "list" "list"=true)/\(fE "list" "tuple"=false):=by
 refine⟨?_,?_,?_,?_,?_,?_,?_,?_,?_,?_,?_,?_⟩<;>decide +kernel
def J4 (n:String)(i:Int)(s:S)(Q:AV->S->Prop):(gu n (.int i) s).wp Q=Q (.bl (fE "int" n)) s:=rfl
def J5 (n:String)(i:Str)(s:S)(Q:AV->S->Prop):(gu n (.str i) s).wp Q=Q (.bl (fE "str" n)) s:=rfl
def J6 (n:String)(i:Á AV)(s:S)(Q:AV->S->Prop):(gu n (.tup i) s).wp Q=Q (.bl (fE "tuple" n)) s:=rfl
def Cp (h:ô s i=À xs):gu n (.ref i) s=.ok (.bl (fE "list" n)) s:=by
 have e:=ď h;unfold gu;rw[show CW (.ref i) s=À "list" by simp only[CW,e]];rfl
def mD (b:Bool)(s:S):truth (.bl b) s=À b:=rfl
def Mx (a b:Bool)(s:S)(Q:AV->S->Prop):(uv (.bl a) (.bl b) s).wp Q=Q (.bl (!decide (a=b))) s:=rfl
def C1 (a b:Ev)(env:En)(s:S)(Q:Á AV × Gd->S->Prop):(HN a b env s).wp Q=(a env s).wp λ v s1=>(b env s1).wp λ w c=>(need (EF v w c) λ r=>.ok r c).wp Q:=by
 unfold HN;rw[wp_bind];congr 1;funext v s1;rw[wp_bind]
def same_int (n:Nat)(i:Int)(s:S):ā (n+1) [.int i,.int i] s=.ok (.bl true) s:=by
 apply R.wp.eq;unfold ā cH;simp only[↓WS,↓WE,↓WV,Lq,ß,UU,Ä,↓Ð,jv,↓J4,TG,mD,dF,ŋ]
def same_str (n:Nat)(i:Str)(s:S):ā (n+1) [.str i,.str i] s=.ok (.bl true) s:=by
 apply R.wp.eq;unfold ā cH;simp only[↓WS,↓WE,↓WV,Lq,ß,UU,Ä,↓Ð,jv,↓J5,TG,mD,dF,ŋ]
theorem xk:∀ n:Nat,vv (ã n (.bl true))=À (ã n true)
 | 0=>rfl
 | n+1=>by rw[List.replicate_succ];show(vv (ã n (.bl true))).map (true :: ·)=_;rw[xk n];rfl
def BZ (m:Nat):(ã m true).all id=true:=by
 rw[ñ];intro b a;rw[(List.mem_replicate.mp a).2];rfl
def J' (xs:Á AV)(s:S):i6 [.tup xs] s=.ok (.int xs.length) s:=rfl
end Ro
namespace Mm
open PySem L2
def Uq (c:Nat)(m:Str)(n:Nat)(F:Á AV->S->R AV)(b:Ev)(r:fu)(env:En)(s:S)(Q:AV->S->Prop):(ō c m n F b r env s).wp Q=(b env s).wp λ x s1=>match qt c x s1 with
 | some p=>p.2.lookup m=none/\(r env s1).wp λ a d=>a.length=n/\(F (x :: a) d).wp Q
 | none=>False:=by
 unfold ō;rw[wp_bind];congr 1;funext x s1;cases qt c x s1 with
 | none=>rfl
 | some p=>
  rw[pN,lI,wp_bind];congr 1;congr 1;funext a d;rw[lI]
def LP (c:Nat)(f:Str)(b mv:Ev)(env:En)(s:S)(N:En->S->Prop)(T:AV->S->Prop):(i8 c f b mv env s).wp N T=(mv env s).wp λ y s1=>(b env s1).wp λ x a=>match qt c x a with
 | some p=>p.2.length < 1000/\N env (a.set p.1 (.ins c (wA f y p.2)))
 | none=>False:=by
 unfold i8;rw[aW];congr 1;funext y s1;rw[aW];congr 1;funext x a;cases qt c x a with
 | none=>rfl
 | some p=>exact Io _ _ _ _
def EE (a:b env s=.nx e s1)(N:En->S->Prop)(T:AV->S->Prop):(sx n i sub b h env s).wp N T=N e s1:=by
 unfold sx;rw[a];rfl
def LQ (i:Nat)(r:RS)(N:En->S->Prop)(T:AV->S->Prop):(Mf i r).wp N T=r.wp (λ e s=>N (e.set i none) s) T:=by cases r<;>rfl
def ED (a:b env s=.ex c s1)(d:sub c.cls=true)(N:En->S->Prop)(T:AV->S->Prop):(sx n i sub b h env s).wp N T=(h ((ã n none).set i (À (.ref s1.length))) (s1++[.exc c.cls])).wp (λ e s=>N (e.set i none) s) T:=by
 unfold sx;rw[a];dsimp only;rw[Ï d,LQ]
def lj (h:s[i]? = À (.ins c fs)):qt c (.ref i) s=À (i,fs):=by
 unfold qt;dsimp only;rw[h];dsimp only;rw[Ï rfl]
def fT (h:s[i]? = À (.ins c fs)) (l:fs.lookup f=À v):Ť c f (.ref i) s=.ok v s:=by
 unfold Ť;rw[lj h];dsimp only[need];rw[l]
structure At (B:Nat)(m:Á AO)(s:S):Prop where
 get:∀ i,i < m.length->s[B+i]? = m[i]?
def At.at (h:At B m s)(e:m[i]? = À o):s[B+i]? = À o:=by
 rw[h.get i (Ç.mp e).1];exact e
def At.len (h:At B m s)(k:0 < m.length):B+m.length<=s.length:=by
 have e:=h.get (m.length - 1) (by lia);rw[Å (by lia:m.length - 1 < m.length)]at e;have:=(Ç.mp e).1;lia
def At.app (h:At B m s)(e:S):At B m (s++e):=⟨λ i a=>by
 have q:=h.get i a;rw[Å a]at q ⊢;rw[Û (Ç.mp q).1];exact q⟩
def At.new (s e:S):At s.length e (s++e):=⟨λ i a=>by rw[á (by lia)];congr 1;lia⟩
theorem At.set (h:At B m s)(i:Nat)(o:AO):At B (m.set i o) (s.set (B+i) o):=⟨λ j a=>by
 rw[Ś]at a;by_cases e:i=j
 ·subst e;have q:=h.get i a;rw[Å a]at q;rw[Č (Ç.mp q).1,Č a]
 ·rw[í (by lia),í e];exact h.get j a⟩
def At.keep (h:At B m s)(k:∀ i,B<=i->i < B+m.length->s'[i]? = s[i]?):At B m s':=⟨λ i a=>by rw[k _ (by lia) (by lia)];exact h.get i a⟩
mutual
def Rp (b:Nat)(s:S):Dt->AV->Prop
 | .Ę,v=>v=.Ę
 | .bl _,_=>False
 | .int i,v=>v=.int i
 | .str x,v=>v=.str x
 | .tup l,v=>∃ xs,v=.tup xs/\l.length<=1000/\bG b s l xs
 | .lst l,v=>∃ i xs,v=.ref i/\b<=i/\ô s i=À xs/\l.length<=1000/\bG b s l xs
def bG (b:Nat)(s:S):Á Dt->Á AV->Prop
 | [],xs=>xs=[]
 | d :: l,xs=>∃ x r,xs=x :: r/\Rp b s d x/\bG b s l r
end
mutual
theorem Rp.mono (k:∀ i xs,ô s i=À xs->ô s' i=À xs):∀ {d:Dt}{v:AV},Rp b s d v->Rp b s' d v
 | .Ę,_,h=>by unfold Rp at h ⊢;exact h
 | .bl _,_,h=>by unfold Rp at h;exact h.elim
 | .int _,_,h=>by unfold Rp at h ⊢;exact h
 | .str _,_,h=>by unfold Rp at h ⊢;exact h
 | .tup l,_,h=>by
  unfold Rp at h ⊢;obtain⟨xs,e,hl,h⟩:=h;exact⟨xs,e,hl,bG.mono k h⟩
 | .lst l,_,h=>by
  unfold Rp at h ⊢;obtain⟨i,xs,e,c,a,hl,h⟩:=h;exact⟨i,xs,e,c,k i xs a,hl,bG.mono k h⟩
theorem bG.mono (k:∀ i xs,ô s i=À xs->ô s' i=À xs):∀ {l:Á Dt}{xs:Á AV},bG b s l xs->bG b s' l xs
 | [],_,h=>by unfold bG at h ⊢;exact h
 | _ :: _,_,h=>by
  unfold bG at h ⊢;obtain⟨x,r,e,a,c⟩:=h;exact⟨x,r,e,Rp.mono k a,bG.mono k c⟩
end
def Rp.app (h:Rp b s d v)(e:S):Rp b (s++e) d v:=h.mono λ _ _ q=>û q
def bG.app (h:bG b s l xs)(e:S):bG b (s++e) l xs:=h.mono λ _ _ q=>û q
def bG.nil:bG b s [] []:=by unfold bG;rfl
def bG.cons {b:Nat}{s:S}{d:Dt}{v:AV}{l:Á Dt}{xs:Á AV}(h:Rp b s d v)(k:bG b s l xs):bG b s (d :: l) (v :: xs):=by unfold bG;exact⟨v,xs,rfl,h,k⟩
theorem bG.length:∀ {l:Á Dt}{xs:Á AV},bG b s l xs->l.length=xs.length
 | [],_,h=>by unfold bG at h;subst h;rfl
 | _ :: _,_,h=>by
  unfold bG at h;obtain⟨x,r,rfl,_,a⟩:=h;simp[bG.length a]
def qR (s:S)(i:Int):Rp b s (.int i) (.int i):=by unfold Rp;rfl
def yd (s:S)(i:Str):Rp b s (.str i) (.str i):=by unfold Rp;rfl
def Pc (s:S):Rp b s .Ę .Ę:=by unfold Rp;rfl
def uE (hl:l.length<=1000)(h:bG b s l xs):Rp b s (.tup l) (.tup xs):=by unfold Rp;exact⟨xs,rfl,hl,h⟩
def oB (e:ô s i=À xs)(a:b<=i)(hl:l.length<=1000)(h:bG b s l xs):Rp b s (.lst l) (.ref i):=by unfold Rp;exact⟨i,xs,rfl,a,e,hl,h⟩
theorem bG.map:∀ {l:Á α},(∀ a∈l,Rp b s (f a) (g a))->bG b s (l.map f) (l.map g)
 | [],_=>.nil
 | a :: l,h=>.cons (h a (.head _)) (bG.map λ b c=>h b (.tail _ c))
end Mm
namespace Ro
open PySem L2 Mm
def uI (d:vh gs s)(h:∀ p∈xs.zip ys,ā n [p.1,p.2] s=.ok (.bl true) s) (Q:Á AV->S->Prop)(k:∀ m,Q (ã m (.bl true)) s) :
  (ſ (gT 2 (ĉ (gN 0) (ĉ (gN 1) bR))) gm (ę 2 (ā n) (Æ (mv 0) (Æ (mv 1) Ý))) gs (vb xs ys) [none,none] s []).wp Q:=by
 unfold vb;refine mL (λ g a b st=>st=s/\∃ r x y m,(∀ p∈r,p∈xs.zip ys)/\g=(r.map λ p=>AV.tup [p.1,p.2])/\b=[x,y]/\a=ã m (.bl true)) ?_ ?_ ?_ _ _ _ _ ⟨rfl,xs.zip ys,none,none,0,λ _ h=>h,rfl,rfl,rfl⟩
 ·rintro _ _ _ st ⟨rfl,_⟩;exact d
 ·rintro a b st ⟨rfl,r,x,y,m,_,e,rfl,rfl⟩;exact k m
 ·rintro v r a b st ⟨rfl,c,x,y,m,hr,e,rfl,rfl⟩;cases c with
  | nil=>cases e
  | cons p c=>
   cases e;simp only[↓WS,↓WE,↓WV,Lq,ß,UU,Ä,↓Ð,↓Ĥ (h p (hr p (.head _)))];exact⟨c,_,_,m+1,λ x f=>hr x (.tail _ f),rfl,rfl,by rw[List.replicate_succ']⟩
def An (h:xs.length=ys.length):(vb xs ys).length=xs.length:=by unfold vb;simp[h]
def Es (hl:xs.length<=sizeLine)(a:xs.length=ys.length)(h:∀ p∈xs.zip ys,ā n [p.1,p.2] s=.ok (.bl true) s):ā (n+1) [.tup xs,.tup ys] s=.ok (.bl true) s:=by
 apply R.wp.eq;unfold ā cH;simp only[↓WS,↓WE,↓WV,Lq,ß,UU,Ä,↓Ð,jv,↓J6,TG,mD,dF,ŋ,↓Mx,eJ,↓Ĥ (J' _ _),↓C1,EF,vJ,a];refine⟨?_,?_⟩
 ·rw[An a];exact hl
 refine uI (by intro p b;cases b) h _ λ m=>?_;unfold Em;rw[xk];simp only[↓WS,↓WE,↓WV,Lq,ß,UU,Ä,↓Ð,BZ]
def Er (hl:xs.length<=sizeLine)(c:xs.length=ys.length)(a:ô s i=À xs)(b:ô s j=À ys)(h:∀ p∈xs.zip ys,ā n [p.1,p.2] s=.ok (.bl true) s):ā (n+1) [.ref i,.ref j] s=.ok (.bl true) s:=by
 apply R.wp.eq;unfold ā cH;simp only[↓WS,↓WE,↓WV,Lq,ß,UU,Ä,↓Ð,jv,↓Ĥ (Cp a),↓Ĥ (Cp b),TG,mD,dF,ŋ,↓Mx,eJ,↓Ĥ (oj a),↓Ĥ (oj b),↓C1,EF,vJ,a,b,ck,c];refine⟨?_,?_⟩
 ·rw[An c];exact hl
 refine uI ?_ h _ λ m=>?_
 ·intro p d;simp only[dU,eL,Þ,ÿ,aw]at d;rcases d with rfl|rfl
  ·exact a
  ·exact b
 unfold Em;rw[xk];simp only[↓WS,↓WE,↓WV,Lq,ß,UU,Ä,↓Ð,BZ]
def HK (n:Nat)(s:S):ā (n+1) [.Ę,.Ę] s=.ok (.bl true) s:=by
 apply R.wp.eq;unfold ā cH;simp only[↓WS,↓WE,↓WV,Lq,ß,UU,Ä,↓Ð,jv]
mutual
theorem yf:∀ {d:Dt}{v w:AV}{n:Nat},Rp b s d v->Rp b s d w->d.dep < n->ā n [v,w] s=.ok (.bl true) s
 | _,_,_,0,_,_,h=>absurd h (PV _)
 | .Ę,_,_,n+1,h,k,_=>by unfold Rp at h k;subst h k;exact HK n s
 | .bl _,_,_,n+1,h,k,_=>by unfold Rp at h;exact h.elim
 | .int _,_,_,n+1,h,k,_=>by unfold Rp at h k;subst h k;exact same_int n _ s
 | .str _,_,_,n+1,h,k,_=>by unfold Rp at h k;subst h k;exact same_str n _ s
 | .tup l,_,_,n+1,h,k,hd=>by
  unfold Rp at h k;obtain⟨xs,rfl,hl,h⟩:=h;obtain⟨g,rfl,_,k⟩:=k;have e:=h.length;have f:=k.length;have hd:ay l+1 < n+1:=by simpa[Dt.dep]using hd
  exact Es (vi (by lia)) (by lia) (uJ h k (by lia))
 | .lst l,_,_,n+1,h,k,hd=>by
  unfold Rp at h k;obtain⟨i,xs,rfl,_,a,hl,h⟩:=h;obtain⟨j,g,rfl,_,c,_,k⟩:=k;have e:=h.length;have f:=k.length;have hd:ay l+1 < n+1:=by simpa[Dt.dep]using hd
  exact Er (vi (by lia)) (by lia) a c (uJ h k (by lia))
theorem uJ:∀ {l:Á Dt}{xs ys:Á AV}{n:Nat},bG b s l xs->bG b s l ys->ay l < n->∀ p∈xs.zip ys,ā n [p.1,p.2] s=.ok (.bl true) s
 | [],_,_,n,h,k,_=>by
  unfold bG at h;subst h;intro p hp;simp at hp
 | d :: l,_,_,n,h,k,hd=>by
  unfold bG at h k;obtain⟨x,r,rfl,a,c⟩:=h;obtain⟨y,t,rfl,e,f⟩:=k;have hd:max d.dep (ay l) < n:=by simpa[ay]using hd
  intro p hp;rw[IJ]at hp;rcases Þ.mp hp with rfl|hp
  ·exact yf a e (by lia)
  ·exact uJ c f (by lia) p hp
end
def kT {α:Type}(f:α->Str)(g:α->AV)(l:Á α):Á (Key × AV):=l.map λ a=>(.inr (f a),g a)
def HD [mI κ] (k:κ)(v:AV)(l:Á (κ × AV)):(jT l k v).length<=l.length+1:=by
 unfold jT;split<;>simp
theorem yt (f:α->Str)(g:α->AV)(x:Str):∀ l:Á α,ũ (kT f g l) (.inr x)=(l.find? λ a=>decide (f a=x)).map g
 | []=>rfl
 | a :: r=>by
  show(if (dq (f a):Key)=dq x then À (g a) else ũ (kT f g r) (.inr x))=_;rw[yt f g x r,cF];by_cases h:f a=x
  ·rw[Ï (by rw[h]),ć h];rfl
  ·rw[Ô (λ z=>h (j2 z)),ö h]
def yr (h:x∈l):ũ (kT id g l) (.inr x)=À (g x):=by
 rw[yt];cases e:l.find? λ a=>decide (id a=x) with
 | none=>
  have:=II.mp e x h;simp at this
 | some a=>
  have:=List.find?_some e;have:a=x:=by simpa using this
  rw[this];rfl
def PK (h:x∉l):ũ (kT id g l) (.inr x)=none:=by
 rw[yt];have:(l.find? λ a=>decide (id a=x))=none:=II.mpr λ a b=>by
  simp only[id,Ŗ];intro e;exact h (e ▸ b)
 rw[this];rfl
theorem yq (f:α->Str)(g:α->AV):∀ l:Á α,jC (kT f g l)=À (l.map f)
 | []=>rfl
 | a :: r=>by
  show(jC (kT f g r)).map (f a :: ·)=_;rw[yq f g r];rfl
def qO (h:x∉l)(d:v=g x):jT (kT id g l) (.inr x) v=kT id g (l++[x]):=by
 unfold jT;have:((kT id g l).any λ e=>decide (e.1=dq x))=false:=by
  rw[sE];intro p c;obtain⟨a,b,rfl⟩:=ĕ.mp c;simp only[id,Ŗ];intro z;exact h (j2 z ▸ b)
 rw[this,Ô (by decide)];unfold kT;rw[Ł,d];rfl
def jh (a:Int × Int):AV:=.tup [.int a.1,.int a.2]
abbrev Rt:Type:=Str × Int × (Int × Int)
abbrev Kn:Type:=Str × Int × Str
structure Wl where
 ps:Á Str
 ws:Á Str
 kn:Á Kn
 rs:Á Rt
 h:Int
def Wl.kf (_:Wl)(_:Str):Int × Int:=(0,1)
def Wl.kw (_:Wl):Á (Key × AV):=[]
abbrev rKey (x:Rt):Str × Int:=(x.1,x.2.1)
def rK (x:Rt):Á Key × AV:=(dD (rKey x),jh x.2.2)
def rE (x:Rt):AV:=.tup [.str x.1,.int x.2.1,jh x.2.2]
def nV (x:Kn):AV:=.tup [.int x.2.1,.str x.2.2]
def wh (l:Á Kn):Á (Key × AV):=kT (λ x=>x.1) nV l
def vg (B:Nat)(h:Int):Á (Str × AV):=[("keeps",.ref (B+1)),("rows",.ref (B+2)),("hands",.ref (B+3)),("makers",.ref (B+4)),("rates",.ref (B+5)),("half",.int h),("money",.ref (B+6)),("debts",.ref (B+7))]
def vj (B:Nat)(h:Int):Á (Key × AV):=[(.inr "people",.ref (B+8)),(.inr "works",.ref (B+9)),(.inr "hands",.ref (B+10)),(.inr "known",.ref (B+11)),(.inr "rates",.ref (B+12)),(.inr "keeps",.ref (B+13)),(.inr "half",.int h),(.inr "money",.ref (B+15)),(.inr "debts",.ref (B+16))]
def mid (B:Nat)(V W:Wl):Á AO:=[.ins 9 (vg B V.h),.dK (kT id (λ p=>jh (V.kf p)) V.ps),.dK (kT id (λ _=>.tup []) V.ws),.dT [],.dK (wh V.kn),.dT (V.rs.map rK),.lst [],.lst [],
 .lst (W.ps.map .str),.dK (kT id (λ _=>.tup []) W.ws),.lst [],.dK (wh W.kn),.lst (W.rs.map rE),.dK W.kw,.dK (vj B W.h),.lst [],.lst []]
def iR (B:Nat)(h:Int):(vg B h).lookup (Ü "keeps")=À (AV.ref (B+1)):=by rfl
def mS (B:Nat)(h:Int):(vg B h).lookup (Ü "rows")=À (AV.ref (B+2)):=by rfl
def FZ (B:Nat)(h:Int):(vg B h).lookup (Ü "hands")=À (AV.ref (B+3)):=by rfl
def qp (B:Nat)(h:Int):(vg B h).lookup (Ü "makers")=À (AV.ref (B+4)):=by rfl
def mf (B:Nat)(h:Int):(vg B h).lookup (Ü "rates")=À (AV.ref (B+5)):=by rfl
def JR (B:Nat)(h:Int):(vg B h).lookup (Ü "half")=À (AV.int h):=by rfl
def F0 (B:Nat)(h:Int):(vg B h).lookup (Ü "money")=À (AV.ref (B+6)):=by rfl
def FY (B:Nat)(h:Int):(vg B h).lookup (Ü "debts")=À (AV.ref (B+7)):=by rfl
def Ce (B:Nat)(h:Int)(k:((["keeps","rows","hands","makers","rates","half","money","debts"]:Á Str).any λ f=>m == f)=false):(vg B h).lookup m=none:=by
 simp only[ř,List.any_nil,P_,EH]at k;obtain⟨a,b,c,d,e,g,i,j⟩:=k;unfold vg;simp only[Ğ,a,b,c,d,e,g,i,j,List.lookup_nil]
section
variable {B:Nat}{V W:Wl}{s:S}
def fD (h:At B (mid B V W) s):s[B]? = À (.ins 9 (vg B V.h)):=h.at (i:=0) rfl
def iP (h:At B (mid B V W) s):jN s (B+1)=À (kT id (λ p=>jh (V.kf p)) V.ps):=jO (h.at (i:=1) rfl)
def mM (h:At B (mid B V W) s):jN s (B+2)=À (kT id (λ _=>.tup []) V.ws):=jO (h.at (i:=2) rfl)
def FD (h:At B (mid B V W) s):DD s (B+3)=À []:=FC (h.at (i:=3) rfl)
def qk (h:At B (mid B V W) s):jN s (B+4)=À (wh V.kn):=jO (h.at (i:=4) rfl)
def ma (h:At B (mid B V W) s):DD s (B+5)=À (V.rs.map rK):=FC (h.at (i:=5) rfl)
def Gv (h:At B (mid B V W) s):ô s (B+6)=À []:=bI (h.at (i:=6) rfl)
def Gq (h:At B (mid B V W) s):ô s (B+7)=À []:=bI (h.at (i:=7) rfl)
def mY (h:At B (mid B V W) s):ô s (B+8)=À (W.ps.map .str):=bI (h.at (i:=8) rfl)
def l_ (h:At B (mid B V W) s):jN s (B+9)=À (kT id (λ _=>.tup []) W.ws):=jO (h.at (i:=9) rfl)
def Gu (h:At B (mid B V W) s):ô s (B+10)=À []:=bI (h.at (i:=10) rfl)
def tD (h:At B (mid B V W) s):jN s (B+11)=À (wh W.kn):=jO (h.at (i:=11) rfl)
def kq (h:At B (mid B V W) s):ô s (B+12)=À (W.rs.map rE):=bI (h.at (i:=12) rfl)
def Rk (h:At B (mid B V W) s):jN s (B+13)=À W.kw:=jO (h.at (i:=13) rfl)
def L' (h:At B (mid B V W) s):jN s (B+14)=À (vj B W.h):=jO (h.at (i:=14) rfl)
def R4 (h:At B (mid B V W) s):ô s (B+15)=À []:=bI (h.at (i:=15) rfl)
def R3 (h:At B (mid B V W) s):ô s (B+16)=À []:=bI (h.at (i:=16) rfl)
def n4 (h:jN s i=À kvs):jy (.str x) (.ref i) s=.ok (.bl (ũ kvs (.inr x)).isSome) s:=by
 show(need (jN s i) λ kvs=>need (fg (.str x)) λ k=>R.ok (AV.bl (ũ kvs k).isSome) s)=_;rw[h];rfl
def mO (h:jN s i=À kvs):oy (.str x) (.ref i) s=.ok (.bl (!(ũ kvs (.inr x)).isSome)) s:=by
 show(need (jN s i) λ kvs=>need (fg (.str x)) λ k=>R.ok (AV.bl (!(ũ kvs k).isSome)) s)=_;rw[h];rfl
def vY (h:jN s i=À kvs)(e:ũ kvs (.inr x)=À v):ģ (.ref i) (.str x) s=.ok v s:=by
 show(need (jN s i) λ kvs=>need (fg (.str x)) λ k=>need (ũ kvs k) λ v=>R.ok v s)=_;rw[h,å,show fg (.str x)=À (.inr x) from rfl,å,e];rfl
def ju:(ũ (kT id g l) (.inr x)).isSome=decide (x∈l):=by
 by_cases h:x∈l
 ·rw[yr h,ć h];rfl
 ·rw[PK h,ö h];rfl
end
def kg (h:b env s=.rt v s1)(a:env=as.map À++ã (n - as.length) none:=by rfl):dN n b as s=.ok v s1:=by subst a;unfold dN;rw[h]
def rk (h:b env s=.nx e s1)(a:env=as.map À++ã (n - as.length) none:=by rfl):dN n b as s=.ok .Ę s1:=by subst a;unfold dN;rw[h]
def mi (h:b env s=.ex c s1)(a:env=as.map À++ã (n - as.length) none:=by rfl):dN n b as s=.ex c s1:=by subst a;unfold dN;rw[h]
def qS (h:a env s=.ex c s1):ċ a b env s=.ex c s1:=by unfold ċ;rw[h]
def Ć (h:a env s=.nx e s1):ċ a b env s=b e s1:=by unfold ċ;rw[h]
def mQ (h:m env s=.ex c s1):aE m env s=.ex c s1:=by unfold aE;rw[h];rfl
def k7 (h:m env s=.ok v s1):aE m env s=.nx env s1:=by unfold aE;rw[h];rfl
def iv (h:c env s=.ok true s1):hE c a b env s=a env s1:=by unfold hE;rw[h];rfl
def di (h:c env s=.ok false s1):hE c a b env s=b env s1:=by unfold hE;rw[h];rfl
def lG:mv 0 (À v :: l) s=.ok v s:=rfl
def uh:mv 1 (x :: À v :: l) s=.ok v s:=rfl
def Sf (h:s[i]? = À (.ins c fs)) (l:fs.lookup m=none)(e1:d env s=.ok (.ref i) s) (a:b env s=.ok v s):ō c m 1 F d (Æ b Ý) env s=F [.ref i,v] s:=by
 unfold ō Æ Ý;rw[e1,ó,lj h];dsimp only[need];rw[Ï l,a];rfl
def Se (h:s[i]? = À (.ins c fs)) (l:fs.lookup m=none)(e1:a env s=.ok (.ref i) s):ō c m 0 F a Ý env s=F [.ref i] s:=by
 unfold ō Ý;rw[e1,ó,lj h];dsimp only[need];rw[Ï l];rfl
def Gf (h:a.length<=1000)(k:x.length<=1000)(e:m env s=.ok (.str x) s) (r:Ej)(Q:AV->S->Prop)(hr:∀ t:Str,t.length<=2000->((r t env s).bind λ t s1=>if t.length<=sizeLine then R.ok (AV.str t) s1 else .bad).wp Q):(hX (aT (mc (.str a)) (aT (aH i4 m) r)) env s).wp Q:=by
 have b:(fB++a).length=a.length:=by rw[gi];show 0+_=_;lia
 have c:(fB++a++x).length=a.length+x.length:=by rw[gi,b]
 unfold hX aT mc aH;simp only[ó];rw[Ï (by rw[b,ą];lia)];have d:i4 (.str x) s=.ok (.str x) s:=Ï (by rw[ą];lia);simp only[e,ó,d];rw[Ï (by rw[c,ą];lia)];exact hr _ (by rw[c];lia)
def join_nil (h:∀ t,Q (.str t) s):∀ t:Str,t.length<=2000->((nA t env s).bind λ t s1=>if t.length<=sizeLine then R.ok (AV.str t) s1 else .bad).wp Q:=λ t a=>by
 unfold nA;rw[ó,Ï (by rw[ą];lia)];exact h t
def join_one (c:a.length<=1000)(h:∀ t,Q (.str t) s):∀ t:Str,t.length<=2000->((aT (mc (.str a)) nA t env s).bind λ t s1=>if t.length<=sizeLine then R.ok (AV.str t) s1 else .bad).wp Q:=λ t d=>by
 have b:(t++a).length=t.length+a.length:=gi _ _;unfold aT mc nA;simp only[ó];rw[Ï (by rw[b,ą];lia),ó,Ï (by rw[b,ą];lia)];exact h _
def wB (h:(m env s).wp λ _ s1=>s1=s):AD c (Æ m Ý) env s=.ex ⟨c,[]⟩ s:=by
 obtain⟨v,s1,e,rfl⟩:=h.get;unfold AD Æ Ý;rw[e];rfl
section
variable {B:Nat}{V W:Wl}{s:S}
def g_ (h:At B (mid B V W) s) (a:x∈V.ps):Ě [.ref B,.str x] s=.ok .Ę s:=by
 unfold Ě bV;refine rk (env:=[À (.ref B),À (.str x)]) (di (s1:=s) (R.wp.eq ?_));simp only[↓WS,↓WE,↓WV,Lq,ß,UU,Ä,↓Ð,↓Ĥ (fT (fD h) (iR B V.h)),↓Ĥ (mO (iP h)),ju,a,ŋ,eJ]
def uj (h:At B (mid B V W) s) (b:x.length<=1000)(a:x∉V.ps):Ě [.ref B,.str x] s=.ex ⟨3,[]⟩ s:=by
 unfold Ě bV;refine mi (env:=[À (.ref B),À (.str x)]) ((iv (s1:=s) (R.wp.eq ?_)).trans (wB (Gf (by decide) b rfl _ _ (join_nil λ _=>rfl))));simp only[↓WS,↓WE,↓WV,Lq,ß,UU,Ä,↓Ð,↓Ĥ (fT (fD h) (iR B V.h)),↓Ĥ (mO (iP h)),ju,a,Ō,dF]
def jS (h:At B (mid B V W) s) (a:x∈V.ws):ı [.ref B,.str x] s=.ok .Ę s:=by
 unfold ı de;refine rk (env:=[À (.ref B),À (.str x)]) (di (s1:=s) (R.wp.eq ?_));simp only[↓WS,↓WE,↓WV,Lq,ß,UU,Ä,↓Ð,↓Ĥ (fT (fD h) (mS B V.h)),↓Ĥ (mO (mM h)),ju,a,ŋ,eJ]
def xU (h:At B (mid B V W) s) (b:x.length<=1000)(a:x∉V.ws):ı [.ref B,.str x] s=.ex ⟨3,[]⟩ s:=by
 unfold ı de;refine mi (env:=[À (.ref B),À (.str x)]) ((iv (s1:=s) (R.wp.eq ?_)).trans (wB (Gf (by decide) b rfl _ _ (join_nil λ _=>rfl))));simp only[↓WS,↓WE,↓WV,Lq,ß,UU,Ä,↓Ð,↓Ĥ (fT (fD h) (mS B V.h)),↓Ĥ (mO (mM h)),ju,a,Ō,dF]
def zA (h:At B (mid B V W) s) (x:Str):a9 [.ref B,.str x] s=.ok (.bl (decide (x∈V.ps∨x∈V.ws))) s:=by
 apply R.wp.eq;unfold a9 gI;by_cases a:x∈V.ps
 ·simp only[↓WS,↓WE,↓WV,Lq,ß,UU,Ä,↓Ð,↓Ĥ (fT (fD h) (iR B V.h)),↓Ĥ (n4 (iP h)),ju,a,ŋ,true_or]
 ·simp only[↓WS,↓WE,↓WV,Lq,ß,UU,Ä,↓Ð,↓Ĥ (fT (fD h) (iR B V.h)),↓Ĥ (n4 (iP h)),ju,a,Ō,false_or,↓Ĥ (fT (fD h) (mS B V.h)),↓Ĥ (n4 (mM h))]
def hY (h:At B (mid B V W) s) (l:((["keeps","rows","hands","makers","rates","half","money","debts"]:Á Str).any λ f=>m == f)=false) (e1:c env s=.ok (.ref B) s) (a:b env s=.ok x s):ō 9 m 1 F c (Æ b Ý) env s=F [.ref B,x] s:=Sf (fD h) (Ce B V.h l) e1 a
def qB (h:At B (mid B V W) s) (l:((["keeps","rows","hands","makers","rates","half","money","debts"]:Á Str).any λ f=>m == f)=false) (e1:a env s=.ok (.ref B) s):ō 9 m 0 F a Ý env s=F [.ref B] s:=Se (fD h) (Ce B V.h l) e1
def nN (h:At B (mid B V W) s) (a:¬ (x∈V.ps∨x∈V.ws)):Ż [.ref B,.str x] s=.ok .Ę s:=by
 unfold Ż fP;refine rk (env:=[À (.ref B),À (.str x)]) (di (s1:=s) (R.wp.eq ?_));simp only[↓WS,↓WE,↓WV,Lq,ß,UU,Ä,↓Ð,↓Ĥ ((hY (m:="has_name") h (by decide +kernel) lG uh).trans (zA h x)),a,Ō,mD]
def mC (h:jN s i=À kvs)(l:kvs.length < 1000):putD v (.ref i) (.str x) env s=.nx env (s.set i (.dK (jT kvs (.inr x) v))):=by
 show(match jN s i,fg (.str x) with
  | some kvs,À k=>if kvs.length < sizeLine then RS.nx env (s.set i (.dK (jT kvs k v))) else .bad
  | _,_=>.bad)=_
 rw[h];show(if kvs.length < sizeLine then _ else _)=_;rw[Ï (by rw[ą];lia)]
def t_ (f:α->Str)(g:α->AV)(l:Á α):(kT f g l).length=l.length:=by unfold kT;rw[Î]
def tm (h:At B (mid B V W) s) (a:¬ (x∈V.ps∨x∈V.ws)) (hl:V.ps.length < 1000)(b:V.kf x=(0,1)):Ŭ [.ref B,.str x] s=.ok .Ę (s.set (B+1) (.dK (kT id (λ p=>jh (V.kf p)) (V.ps++[x])))):=by
 apply R.wp.eq;unfold Ŭ eU;simp only[↓WS,↓WE,↓WV,Lq,ß,UU,Ä,↓Ð,↓Ĥ ((hY (m:="need_free") h (by decide +kernel) lG uh).trans (nN h a)),↓Ĥ (fT (fD h) (iR B V.h)),↓vM (mC (iP h) (by rw[t_];exact hl))];rw[qO (λ z=>a (.inl z)) (by rw[b];rfl)]
def xi (h:At B (mid B V W) s) (a:¬ (x∈V.ps∨x∈V.ws)) (hl:V.ws.length < 1000):az [.ref B,.str x] s=.ok .Ę (s.set (B+2) (.dK (kT id (λ _=>.tup []) (V.ws++[x])))):=by
 apply R.wp.eq;unfold az gG;simp only[↓WS,↓WE,↓WV,Lq,ß,UU,Ä,↓Ð,↓Ĥ ((hY (m:="need_free") h (by decide +kernel) lG uh).trans (nN h a)),↓Ĥ (fT (fD h) (mS B V.h)),↓vM (mC (mM h) (by rw[t_];exact hl))];rw[qO (g:=λ _=>.tup []) (λ z=>a (.inr z)) rfl]
def z8 (h:At B (mid B V W) s) (d:Int):aA [.ref B,.int d] s=.ok .Ę (s.set B (.ins 9 (vg B d))):=by
 apply R.wp.eq;unfold aA gK;simp only[↓WS,↓WE,↓WV,Lq,ß,UU,Ä,↓Ð,↓LP,lj (fD h)];refine⟨by show 8 < 1000;lia,rfl⟩
def xE (h:At B (mid B V W) s):aM [.ref B] s=.ok (.int V.h) s:=by
 apply R.wp.eq;unfold aM fO;simp only[↓WS,↓WE,↓WV,Lq,ß,UU,Ä,↓Ð,↓Ĥ (fT (fD h) (JR B V.h))]
end
end Ro
namespace Mm
open PySem L2
mutual
theorem Rp.low:∀ {d:Dt}{v:AV},Rp b s d v->v.low s.length=true
 | .Ę,_,h=>by unfold Rp at h;subst h;simp only[AV.low]
 | .bl _,_,h=>by unfold Rp at h;exact h.elim
 | .int _,_,h=>by unfold Rp at h;subst h;simp only[AV.low]
 | .str _,_,h=>by unfold Rp at h;subst h;simp only[AV.low]
 | .tup l,_,h=>by
  unfold Rp at h;obtain⟨xs,rfl,_,h⟩:=h;simp only[AV.low];exact bG.low h
 | .lst l,_,h=>by
  unfold Rp at h;obtain⟨i,xs,rfl,_,a,_⟩:=h;simp only[AV.low,Ŗ];exact(Ç.mp (ď a)).1
theorem bG.low:∀ {l:Á Dt}{xs:Á AV},bG b s l xs->Ĺ s.length xs=true
 | [],_,h=>by unfold bG at h;subst h;simp only[Ĺ]
 | _ :: _,_,h=>by
  unfold bG at h;obtain⟨x,r,rfl,a,c⟩:=h;simp only[Ĺ,Rp.low a,bG.low c];rfl
end
theorem bG.append:∀ {l q:Á Dt}{xs ys:Á AV},bG b s l xs->bG b s q ys->bG b s (l++q) (xs++ys)
 | [],_,_,_,h,k=>by unfold bG at h;subst h;exact k
 | _ :: _,_,_,_,h,k=>by
  unfold bG at h;obtain⟨x,r,rfl,a,c⟩:=h;exact .cons a (bG.append c k)
def bG.one (h:Rp b s d v):bG b s [d] [v]:=.cons h .nil
def cx (c:Cl s)(h:bG b s l xs):Cl (s++[.lst xs]):=c.add (by
 have:=h.low;simp only[Ġ,Ŷ,AO.low,Ŏ];exact Ĺ.mono (by simp) this)
def cy (a:b<=s.length)(hl:l.length<=1000)(h:bG b s l xs):Rp b (s++[.lst xs]) (.lst l) (.ref s.length):=oB (Ro.Ė s xs) a hl (h.app _)
def nice (b:Nat):AV->Bool
 | .ref i=>decide (b<=i)
 | .sq _=>false
 | _=>true
structure Ct (b:Nat)(s:S):Prop where
 cl:Cl s
 nl:∀ i o,b<=i->s[i]? = À o->∃ xs,o=.lst xs/\xs.length<=1000/\(∀ v∈xs,nice b v=true)/\Ĺ i xs=true
 le:b<=s.length
theorem Rp.nice (h:Rp b s d v):nice b v=true:=by
 cases v with
 | ref i=>
  cases d with
  | lst l=>unfold Rp at h;obtain⟨j,xs,e,a,_⟩:=h;cases e;exact ć a
  | Ę=>unfold Rp at h;cases h
  | bl _=>unfold Rp at h;exact h.elim
  | int _=>unfold Rp at h;cases h
  | str _=>unfold Rp at h;cases h
  | tup _=>unfold Rp at h;obtain⟨_,e,_⟩:=h;cases e
 | sq l=>
  cases d with
  | lst l=>unfold Rp at h;obtain⟨j,xs,e,a,_⟩:=h;cases e
  | Ę=>unfold Rp at h;cases h
  | bl _=>unfold Rp at h;exact h.elim
  | int _=>unfold Rp at h;cases h
  | str _=>unfold Rp at h;cases h
  | tup _=>unfold Rp at h;obtain⟨_,e,_⟩:=h;cases e
 | _=>rfl
theorem bG.nice:∀ {l:Á Dt}{xs:Á AV},bG b s l xs->∀ v∈xs,nice b v=true
 | [],_,h=>by unfold bG at h;subst h;intro v hv;cases hv
 | _ :: _,_,h=>by
  unfold bG at h;obtain⟨x,r,rfl,a,c⟩:=h;intro v hv;rcases Þ.mp hv with rfl|hv
  ·exact a.nice
  ·exact bG.nice c v hv
def Ct.push (c:Ct b s)(hl:l.length<=1000)(h:bG b s l xs):Ct b (s++[.lst xs]):=⟨cx c.cl h,λ i o a e=>by
 by_cases k:i < s.length
 ·rw[Û k]at e;exact c.nl i o a e
 ·rw[á (by lia)]at e;have d:i - s.length=0:=by
   have:=(Ç.mp e).1;simp at this;lia
  rw[d]at e;cases e;exact⟨xs,rfl,by rw[<-h.length];exact hl,h.nice,by have:=h.low;rwa [show i=s.length by lia]⟩,by have:=c.le;simp;lia⟩
def Ct.start (c:Cl s):Ct s.length s:=⟨c,λ i o a e=>absurd (Ç.mp e).1 (by lia),Ì _⟩
def xh (h:Rp b s (.lst l) v) (k:Rp b s (.lst q) w) (hl:l.length+q.length<=1000)(e:b<=s.length):∃ xs,bS v w s=.ok (.ref s.length) (s++[.lst xs])/\bG b s (l++q) xs/\Rp b (s++[.lst xs]) (.lst (l++q)) (.ref s.length):=by
 unfold Rp at h k;obtain⟨i,xs,rfl,_,d,_,a⟩:=h;obtain⟨j,g,rfl,_,f,_,c⟩:=k;have m:=a.length;have n:=c.length;refine⟨xs++g,Fv d f (vi (by lia)),a.append c,cy e (by simp;lia) (a.append c)⟩
def ke:ſ e b c [] [] env s a=.ok a s:=by unfold ſ;exact Ï (show vh [] s from λ p d=>nomatch d)
def kz (h:ô s i=À xs):Ic (.ref i) s=.ok (xs,[(i,xs)]) s:=by
 show(need (ô s i) λ xs=>R.ok (xs,[(i,xs)]) s)=_;rw[h];rfl
def l9 {b:Nat}(C:S->Prop){names:Á Str}{i:Nat}{s:S}{j:Ev}{x0:Ê AV}{rest:En}(f:Str->Dt)(u:ô s i=À (names.map AV.str)) (c:C s)
  (h:∀ x∈names,∀ e,C (s++e)->(j (À (.str x) :: rest) (s++e)).wp λ v s'=>∃ k,s'=s++e++k/\C s'/\Rp b s' (f x) v) :
  (ſ (gN 0) gm j [(i,names.map AV.str)] (names.map AV.str) (x0 :: rest) s []).wp λ a s'=>∃ e,s'=s++e/\C s'/\bG b s' (names.map f) a:=by
 refine mL (λ xs a d st=>∃ done r x e,names=done++r/\xs=r.map AV.str/\d=x :: rest/\st=s++e/\C st/\bG b st (done.map f) a) ?_ ?_ ?_ _ _ _ _ ⟨[],names,x0,[],rfl,rfl,rfl,by simp,c,.nil⟩
 ·rintro _ _ _ st ⟨_,_,_,e,_,_,_,rfl,_⟩ p w;rw[ý.mp w];exact û u
 ·rintro a d st ⟨done,r,x,e,g,l,rfl,rfl,m,n⟩;cases r with
  | cons=>cases l
  | nil=>rw[cE]at g;subst g;exact⟨e,rfl,m,n⟩
 ·rintro v r a d st ⟨done,o,x,e,g,l,rfl,rfl,m,n⟩;cases o with
  | nil=>cases l
  | cons y o=>
   cases l;walk_at "w";refine(h y (by rw[g];simp) e m).mono ?_;rintro v s' ⟨k,rfl,q,t⟩;exact⟨done++[y],o,_,e++k,by rw[g];simp,rfl,rfl,by simp,q,by rw[Ł];exact(n.app k).append (.one t)⟩
def qj (e:c v env s=.nx e1 s)(f:a e1 s=.ok true s)(g:b e1 s=.ok x s)(h:vh gs s:=by exact λ p i=>nomatch i):ſ c a b gs (v :: r) env s d=ſ c a b gs r e1 s (d++[x]):=by
 rw[ſ,Ï h,e];dsimp only;rw[f];show(if true=true then (b e1 s).calm.bind λ x j=>ſ c a b gs r e1 j (d++[x]) else ſ c a b gs r e1 s d)=_;rw[Ï rfl,g];rfl
def kZ (e:c v env s=.nx e1 s)(f:a e1 s=.ok false s)(g:vh gs s:=by exact λ p h=>nomatch h):ſ c a b gs (v :: r) env s d=ſ c a b gs r e1 s d:=by
 rw[ſ,Ï g,e];dsimp only;rw[f];show(if false=true then (b e1 s).calm.bind λ x i=>ſ c a b gs r e1 i (d++[x]) else ſ c a b gs r e1 s d)=_;rw[Ô (by decide)]
end Mm
namespace Ro
open PySem L2 Mm
abbrev xN:Str:="by_days.<locals>.<lambda>"
abbrev xO:Str:="_law_worth.<locals>.<lambda>"
structure Tb (s:S):Prop where
 a:s.any (tabAt 20 xN)=true
 b:s.any (tabAt 21 xO)=true
def Tb.app (h:Tb s)(e:S):Tb (s++e):=⟨by rw[MN,h.a];rfl,by rw[MN,h.b];rfl⟩
structure iD (B:Nat)(V W:Wl)(s:S):Prop where
 at_:At B (mid B V W) s
 cl:Cl s
 tab:Tb s
theorem iD.app {B:Nat}{V W:Wl}{s e:S}(h:iD B V W s)(c:Cl (s++e)):iD B V W (s++e):=⟨h.at_.app e,c,h.tab.app e⟩
def qq {B:Nat}{V W:Wl}{s:S}(h:At B (mid B V W) s) {f:Str}{v:AV}{l:En}(k:(vg B V.h).lookup f=À v):aH (Ť 9 f) (mv 0) (À (.ref B) :: l) s=.ok v s:=by
 unfold aH;rw[lG,ó];exact fT (fD h) k
def yi (h:jN s i=À kvs)(t:jC kvs=À ks)(l:ks.length < 64)(e:m env s=.ok (.ref i) s):n9 m env s=.ok ((Ĕ ks).map AV.str) s:=by
 unfold n9;rw[e,ó];dsimp only;rw[h,å,t,å,Ï l]
def jl (l:Á Rt):Á Rt:=l.mergeSort λ a b=>ub (rKey a) (rKey b)
def qQ (l:Á Rt):(jl l).Perm l:=eA ..
def z_ (l:Á Rt):(jl l).length=l.length:=(qQ l).length_eq
def Aa (l:Á Rt):(jl l).Pairwise λ a b=>ub (rKey a) (rKey b)=true:=
 fv (le:=λ a b=>ub (rKey a) (rKey b)) (λ a b c h k=>qA h k) (λ a b=>qz _ _) l
def iE (x:Rt):AV:=.tup [.tup [.str x.1,.int x.2.1],jh x.2.2]
theorem wz:∀ l:Á Rt,oz (l.map rK)=À (l.map rKey)
 | []=>rfl
 | x :: r=>by
  show(oz (r.map rK)).map (rKey x :: ·)=_;rw[wz r];rfl
theorem qU:∀ {l:Á Rt}{x:Rt},(l.map rKey).Nodup->x∈l->ũ (l.map rK) (dD (rKey x))=À (jh x.2.2)
 | y :: r,x,nd,h=>by
  rw[Õ,bA]at nd;show(if dD (rKey y)=dD (rKey x) then À (jh y.2.2) else ũ (r.map rK) (dD (rKey x)))=_;rcases Þ.mp h with rfl|h
  ·rw[Ï rfl]
  ·rw[Ô λ z=>nd.1 (by rw[mq (a:=rKey y) (b:=rKey x) z];exact ĕ.mpr ⟨x,h,rfl⟩)];exact qU nd.2 h
def Ae (h:DD s i=À (l.map rK)) (nd:(l.map rKey).Nodup) (hl:l.length < 64)(e:m env s=.ok (.ref i) s):k8 m env s=.ok ((jl l).map iE) s:=by
 unfold k8;rw[e,ó];dsimp only;rw[h,å,wz,å,Ï (by rw[Î];exact hl)];congr 1;rw[<-uO ((qQ l).map rKey) (cU.mpr (Aa l)),f7];refine EW λ x a=>?_;show AV.tup [.tup [.str x.1,.int x.2.1],(ũ (l.map rK) (dD (rKey x))).getD .Ę]=_;rw[qU nd ((qQ l).mem_iff.mp a)];rfl
theorem tu (s:S):∀ (l:Á Rt) (a b c:Ê AV) (d:Á AV),ſ (gT 2 (ĉ (gT 2 (ĉ (gN 1) (ĉ (gN 2) bR))) (ĉ (gN 0) bR))) gm (cL (Æ (mv 1) (Æ (mv 2) (Æ (mv 0) Ý)))) [] (l.map iE) [a,b,c] s d=.ok (d++l.map rE) s
 | [],a,b,c,d=>by rw[aj,ke];simp
 | x :: r,a,b,c,d=>by
  have e:cL (Æ (mv 1) (Æ (mv 2) (Æ (mv 0) Ý))) [À (jh x.2.2),À (.str x.1),À (.int x.2.1)] s=.ok (rE x) s:=by
   apply R.wp.eq;walk_at "w";rfl
  rw[Õ,qj (e1:=[À (jh x.2.2),À (.str x.1),À (.int x.2.1)]) rfl rfl e,tu s r];simp
def J_ (l:Á Kn)(x:Str):Ê Kn:=l.find? λ a=>decide (a.1=x)
def BL (l:Á Kn)(x:Str):ũ (wh l) (.inr x)=(J_ l x).map nV:=yt _ _ _ _
section
variable {B:Nat}{V W:Wl}{s:S}
def sv (h:At B (mid B V W) s) (l:V.ps.length < 64):Ų [.ref B] s=.ok (.ref s.length) (s++[.lst ((Ĕ V.ps).map AV.str)]):=by
 apply R.wp.eq;unfold Ų dB;simp only[↓WS,↓WE,↓WV,Lq,ß,UU,Ä,↓Ð,↓Ĥ (yi (iP h) (yq _ _ _) (by rw[kI];exact l) (qq h (iR B V.h))),kI]
def vL (h:At B (mid B V W) s) (l:V.ws.length < 64):ar [.ref B] s=.ok (.ref s.length) (s++[.lst ((Ĕ V.ws).map AV.str)]):=by
 apply R.wp.eq;unfold ar eX;simp only[↓WS,↓WE,↓WV,Lq,ß,UU,Ä,↓Ð,↓Ĥ (yi (mM h) (yq _ _ _) (by rw[kI];exact l) (qq h (mS B V.h))),kI]
def Ab (h:At B (mid B V W) s) (a:x∈V.ws):bM [.ref B,.str x] s=.ok (.tup []) s:=by
 apply R.wp.eq;unfold bM iK;simp only[↓WS,↓WE,↓WV,Lq,ß,UU,Ä,↓Ð,↓Ĥ ((hY (m:="need_work") h (by decide +kernel) lG uh).trans (jS h a)),↓Ĥ (fT (fD h) (mS B V.h)),↓Ĥ (vY (mM h) (yr a))]
def zF (h:At B (mid B V W) s) (a:x∈V.ps):bL [.ref B,.str x] s=.ok (jh (V.kf x)) s:=by
 apply R.wp.eq;unfold bL iJ;simp only[↓WS,↓WE,↓WV,Lq,ß,UU,Ä,↓Ð,↓Ĥ ((hY (m:="need_person") h (by decide +kernel) lG uh).trans (g_ h a)),↓Ĥ (fT (fD h) (iR B V.h)),↓Ĥ (vY (iP h) (yr a))]
def xF (h:At B (mid B V W) s) {x:Str}(b:x∈V.ps):a8 [.ref B,.str x] s=.ok (.ref s.length) (s++[.lst []]):=by
 apply R.wp.eq;unfold a8 gH;have a:∀ l,k8 (aH (Ť 9 "hands") (mv 0)) (À (.ref B) :: l) s=.ok [] s:=λ l=>(Ae (l:=[]) (FD h) .nil (by decide) (qq h (FZ B V.h))).trans (by simp[jl]);simp only[↓WS,↓WE,↓WV,Lq,ß,UU,Ä,↓Ð,↓Ĥ ((hY (m:="need_person") h (by decide +kernel) lG uh).trans (g_ h b)),↓Ĥ (a _),↓Ĥ ke,aJ,ï]
def tZ (h:jN s i=À kvs):(km "dict" (.ref i) s).isSome=true:=by
 have e:=js h;unfold km;simp only[e];rfl
def Ci (h:jN s i=À kvs)(e1:d env s=.ok (.ref i) s) (a:y env s=.ok (.str x) s):wt d y env s=.ok ((ũ kvs (.inr x)).getD .Ę) s:=by
 obtain⟨u,b⟩:=bF.mp (tZ h);unfold wt;rw[e1,ó,b,å,a,ó];show(need (jN s i) λ kvs=>need (fg (.str x)) λ k=>R.ok ((ũ kvs k).getD .Ę) s)=_;rw[h];rfl
def xK (h:At B (mid B V W) s) {x:Str}(a:x∈V.ws):a_ [.ref B,.str x] s=.ok (((J_ V.kn x).map nV).getD .Ę) s:=by
 apply R.wp.eq;unfold a_ gJ;simp only[↓WS,↓WE,↓WV,Lq,ß,UU,Ä,↓Ð,↓Ĥ ((hY (m:="need_work") h (by decide +kernel) lG uh).trans (jS h a)),↓Ĥ (Ci (qk h) (qq h (qp B V.h)) uh),BL]
def yc (h:At B (mid B V W) s) (nd:(V.rs.map rKey).Nodup) (hl:V.rs.length < 64):aN [.ref B] s=.ok (.ref s.length) (s++[.lst ((jl V.rs).map rE)]):=by
 apply R.wp.eq;unfold aN fQ;simp only[↓WS,↓WE,↓WV,Lq,ß,UU,Ä,↓Ð,↓Ĥ (Ae (ma h) nd hl (qq h (mf B V.h)))];refine⟨vi (by rw[Î,z_];lia),?_⟩;rw[Ĥ (tu s (jl V.rs) _ _ _ _)];exact⟨rfl,rfl⟩
def rb (h:ô s i=À [])(t:Tb s):dh [.ref i] s=.ok (.ref s.length) (s++[.lst []]):=by
 apply R.wp.eq;have e:∀ l,mj 20 xN (mv 0) (À (.ref i) :: l) s=.ok [] s:=λ l=>by
  unfold mj;rw[lG,ó];dsimp only;rw[h,å,Ï ⟨rfl,by decide,t.a⟩];simp[pick,J7]
 unfold dh qf;simp only[↓WS,↓WE,↓WV,Lq,ß,UU,Ä,↓Ð,↓Ĥ (e _)]
def take_nil (c:Cl s)(e:m env s=.ok (.ref s.length) (s++[.lst []])):mr m env s=.ok [] s:=by
 apply R.wp.eq;simp only[↓WS,↓WE,↓WV,Lq,ß,UU,Ä,↓Ð,↓Ĥ e,Ė,↓lI,f_];exact⟨Ì _,c,by simp[Ĺ]⟩
def vC (h:iD B V W s):aq [.ref B] s=.ok (.ref s.length) (s++[.lst []]):=by
 apply R.wp.eq;have e:∀ l,ę 1 dh (Æ (aH (Ť 9 "money") (mv 0)) Ý) (À (.ref B) :: l) s=.ok (.ref s.length) (s++[.lst []]):=λ l=>by
  unfold ę Æ Ý;rw[qq h.at_ (F0 B V.h)];exact rb (Gv h.at_) h.tab
 unfold aq eW;simp only[↓WS,↓WE,↓WV,Lq,ß,UU,Ä,↓Ð,↓Ĥ (take_nil h.cl (e _))]
def xu (h:iD B V W s):aL [.ref B] s=.ok (.ref s.length) (s++[.lst []]):=by
 apply R.wp.eq;have e:∀ l,ę 1 dh (Æ (aH (Ť 9 "debts") (mv 0)) Ý) (À (.ref B) :: l) s=.ok (.ref s.length) (s++[.lst []]):=λ l=>by
  unfold ę Æ Ý;rw[qq h.at_ (FY B V.h)];exact rb (Gq h.at_) h.tab
 unfold aL fN;simp only[↓WS,↓WE,↓WV,Lq,ß,UU,Ä,↓Ð,↓Ĥ (take_nil h.cl (e _))]
end
def rD (x:Rt):Dt:=.tup [.str x.1,.int x.2.1,.tup [.int x.2.2.1,.int x.2.2.2]]
def nD:Ê Kn->Dt
 | some x=>.tup [.int x.2.1,.str x.2.2]
 | none=>.Ę
def uU (V:Wl):Á Dt:=[.lst ((Ĕ V.ps).map .str),.lst ((Ĕ V.ws).map .str),.lst ((Ĕ V.ws).map λ _=>.tup []),.lst ((Ĕ V.ps).map λ _=>.lst [])]
def Aj (V:Wl):Á Dt:=[.lst ((Ĕ V.ws).map λ w=>nD (J_ V.kn w)),.lst ((Ĕ V.ps).map λ p=>.tup [.int (V.kf p).1,.int (V.kf p).2])]
def Ak (V:Wl):Á Dt:=[.lst ((jl V.rs).map rD),.int V.h,.lst [],.lst []]
def told (V:Wl):Dt:=.lst (uU V++Aj V++Ak V)
def gv (s:S)(l:Á Str):bG b s (l.map Dt.str) (l.map AV.str):=bG.map λ a _=>yd s a
def xV (c:Cl s):Cl (s++[.lst []]):=cx (b:=0) (l:=[]) c .nil
def Bj (c:Ct b s):Ct b (s++[.lst []]):=c.push (l:=[]) (by simp) .nil
def uk (a:b<=s.length):Rp b (s++[.lst []]) (.lst []) (.ref s.length):=cy a (by simp) .nil
def uD (s:S)(a:Int × Int):Rp b s (.tup [.int a.1,.int a.2]) (jh a):=uE (by simp) (.cons (qR s _) (.one (qR s _)))
def m3 (s:S)(l:Á Rt):bG b s (l.map rD) (l.map rE):=bG.map λ x _=>uE (by simp) (.cons (yd s _) (.cons (qR s _) (.one (uD s _))))
def HH (s:S)(o:Ê Kn):Rp b s (nD o) ((o.map nV).getD .Ę):=by
 cases o with
 | none=>exact Pc s
 | some x=>exact uE (by simp) (.cons (qR s _) (.one (yd s _)))
def NJ (h:l.length < 64):((jl l).map rD).length<=1000:=by rw[Î,z_];lia
def kr:x∈Ĕ l ↔ x∈l:=(lC l).mem_iff
def lr (h:l.length < 64)(f:Str->α):((Ĕ l).map f).length<=1000:=by rw[Î,Eu];lia
def MG (h:l.length < 64)(f:Str->α):((Ĕ l).map f).length<=sizeLine:=vi (lr h f)
def S4:([a,b,c,d].length<=sizeLine)=True:=kN (vi (by show 4<=1000;lia))
section
variable {B:Nat}{V W:Wl}{s:S}
def za (hb:b=s.length)(h:iD B V W s)(D:V.ps.length < 64)(E:V.ws.length < 64)(lh:V.rs.length < 64)(nd:(V.rs.map rKey).Nodup):(aC [.ref B] s).wp λ v s'=>∃ e,s'=s++e/\Ct b s'/\Rp b s' (told V) v:=by
 have c0:Ct b s:=by rw[hb];exact Ct.start h.cl
 have c1:Ct b (s++[.lst ((Ĕ V.ws).map AV.str)]):=c0.push (lr E Dt.str) (gv _ _);have h1:=h.app c1.cl;have c2:Ct b (s++[.lst ((Ĕ V.ws).map AV.str)]++[.lst ((Ĕ V.ps).map AV.str)]):=c1.push (lr D Dt.str) (gv _ _);have h2:=h1.app c2.cl;have Yo:b<=(s++[AO.lst ((Ĕ V.ws).map AV.str)]).length:=c1.le;have Yp:b<=s.length:=c0.le;clear hb c0;have hw:ô (s++[.lst ((Ĕ V.ws).map AV.str)]++[.lst ((Ĕ V.ps).map AV.str)]) s.length=À ((Ĕ V.ws).map AV.str):=û (Ė _ _);have hp:ô (s++[.lst ((Ĕ V.ws).map AV.str)]++[.lst ((Ĕ V.ps).map AV.str)]) (s++[AO.lst ((Ĕ V.ws).map AV.str)]).length=À ((Ĕ V.ps).map AV.str):=Ė _ _;unfold aC gM;simp only[↓WS,↓WE,↓WV,Lq,ß,UU,Ä,↓Ð,↓Ĥ ((qB (m:="work_names") h.at_ (by decide +kernel) lG).trans (vL h.at_ E)),↓Ĥ ((qB (m:="person_names") h1.at_ (by decide +kernel) lG).trans (sv h1.at_ D))];rw[È]at *
 generalize ([AO.lst ((Ĕ V.ws).map AV.str)]++[AO.lst ((Ĕ V.ps).map AV.str)])=e0 at *
 generalize (s++[AO.lst ((Ĕ V.ws).map AV.str)]).length=P at *
 generalize s.length=Y at *
 clear h1 c1;simp only[↓WS,↓WE,↓WV,Lq,ß,UU,Ä,↓Ð,↓Ĥ (kz hw),S4];refine⟨MG E _,(l9 (b:=b) (Ct b) (λ _=>Dt.tup []) hw c2 ?_).mono ?_⟩
 ·intro x O e d;rw[Ĥ ((hY (m:="rows_of") (h2.app d.cl).at_ (by decide +kernel) uh lG).trans (Ab (h2.app d.cl).at_ (kr.mp O)))];exact⟨[],by simp,d,uE (by simp) .nil⟩
 rintro c s3 ⟨e1,rfl,c3,r3⟩;have c4:=c3.push (lr E _) r3;have p4:=cy c3.le (lr E _) r3;have X:iD B V W (s++e0++e1++[.lst c]):=by rw[È];exact h2.app (by rw[<-È];exact c4.cl)
 have z:ô (s++e0++e1++[.lst c]) Y=À ((Ĕ V.ws).map AV.str):=û (û hw);have f:ô (s++e0++e1++[.lst c]) P=À ((Ĕ V.ps).map AV.str):=û (û hp);rw[È,È]at c4 p4 X z f
 (try simp only[È]);(try simp only[È]at c4);(try simp only[È]at p4);(try simp only[È]at X);(try simp only[È]at z);(try simp only[È]at f)
 generalize e0++(e1++[AO.lst c])=k at *
 generalize (s++(e0++e1)).length=ir at *
 clear r3 c3 h2 c2 hw hp;simp only[↓WS,↓WE,↓WV,Lq,ß,UU,Ä,↓Ð,↓Ĥ (kz f),S4];refine⟨MG D _,(l9 (b:=b) (Ct b) (λ _=>Dt.lst []) f c4 ?_).mono ?_⟩
 ·intro x O e d;rw[Ĥ ((hY (m:="hands_of") (X.app d.cl).at_ (by decide +kernel) uh lG).trans (xF (X.app d.cl).at_ (kr.mp O)))];exact⟨_,rfl,Bj d,uk d.le⟩
 rintro a s5 ⟨i,rfl,c5,r5⟩;have c6:=c5.push (lr D _) r5;have p6:=cy c5.le (lr D _) r5;have XS:Rp b (s++k++i++[.lst a]) (.lst ((Ĕ V.ws).map λ _=>.tup [])) (.ref ir):=(p4.app i).app _;have h6:iD B V W (s++k++i++[.lst a]):=by rw[È];exact X.app (by rw[<-È];exact c6.cl)
 have N:ô (s++k++i++[.lst a]) Y=À ((Ĕ V.ws).map AV.str):=û (û z);have L:ô (s++k++i++[.lst a]) P=À ((Ĕ V.ps).map AV.str):=û (û f);have rA:bG b (s++k++i++[.lst a]) (uU V) [.ref P,.ref Y,.ref ir,.ref (s++k++i).length]:=.cons (oB L Yo (lr D _) (gv _ _)) (.cons (oB N Yp (lr E _) (gv _ _)) (.cons XS (.one p6)));have c7:=c6.push (show(uU V).length<=1000 by show 4<=1000;lia) rA;have p7:=cy c6.le (show(uU V).length<=1000 by show 4<=1000;lia) rA;have h7:=h6.app c7.cl;have A:=û (e:=[.lst [.ref P,.ref Y,.ref ir,.ref (s++k++i).length]]) N;have M:=û (e:=[.lst [.ref P,.ref Y,.ref ir,.ref (s++k++i).length]]) L;clear rA c6 p6 XS h6 N L r5 c5 X c4 z f p4
 (try simp only[È]);(try simp only[È]at c7);(try simp only[È]at p7);(try simp only[È]at h7);(try simp only[È]at A);(try simp only[È]at M)
 generalize k++(i++([AO.lst a]++[AO.lst [.ref P,.ref Y,.ref ir,.ref (s++(k++i)).length]]))=e5 at *
 generalize (s++(k++(i++[AO.lst a]))).length=ia at *
 simp only[↓WS,↓WE,↓WV,Lq,ß,UU,Ä,↓Ð,↓Ĥ (kz A),S4];refine⟨MG E _,(l9 (b:=b) (Ct b) (λ w=>nD (J_ V.kn w)) A c7 ?_).mono ?_⟩
 ·intro x O e d;rw[Ĥ ((hY (m:="known_of") (h7.app d.cl).at_ (by decide +kernel) uh lG).trans (xK (h7.app d.cl).at_ (kr.mp O)))];exact⟨[],by simp,d,HH _ _⟩
 rintro C s8 ⟨U,rfl,c8,r8⟩;have c9:=c8.push (lr E _) r8;have p9:=cy c8.le (lr E _) r8;have Q:Rp b (s++e5++U++[.lst C]) (.lst (uU V)) (.ref ia):=(p7.app U).app _;have h9:iD B V W (s++e5++U++[.lst C]):=by rw[È];exact h7.app (by rw[<-È];exact c9.cl)
 have y:ô (s++e5++U++[.lst C]) P=À ((Ĕ V.ps).map AV.str):=û (û M)
 (try simp only[È]);(try simp only[È]at c9);(try simp only[È]at p9);(try simp only[È]at Q);(try simp only[È]at h9);(try simp only[È]at y)
 generalize e5++(U++[AO.lst C])=n at *
 generalize (s++(e5++U)).length=ik at *
 clear r8 c8 h7 c7 A M p7;simp only[↓WS,↓WE,↓WV,Lq,ß,UU,Ä,↓Ð,↓Ĥ (kz y),S4];refine⟨MG D _,(l9 (b:=b) (Ct b) (λ p=>Dt.tup [.int (V.kf p).1,.int (V.kf p).2]) y c9 ?_).mono ?_⟩
 ·intro x O e d;rw[Ĥ ((hY (m:="keep_of") (h9.app d.cl).at_ (by decide +kernel) uh lG).trans (zF (h9.app d.cl).at_ (kr.mp O)))];exact⟨[],by simp,d,uD _ _⟩
 rintro g XY ⟨j,rfl,H,T⟩;have o:=H.push (lr D _) T;have XO:=cy H.le (lr D _) T;have F:Rp b (s++n++j++[.lst g]) (.lst (uU V)) (.ref ia):=(Q.app j).app _;have G:Rp b (s++n++j++[.lst g]) (.lst ((Ĕ V.ws).map λ w=>nD (J_ V.kn w))) (.ref ik):=(p9.app j).app _;have Xt:iD B V W (s++n++j++[.lst g]):=by rw[È];exact h9.app (by rw[<-È];exact o.cl)
 have rB:bG b (s++n++j++[.lst g]) (Aj V) [.ref ik,.ref (s++n++j).length]:=.cons G (.one XO);have q:=o.push (show(Aj V).length<=1000 by show 2<=1000;lia) rB;have XP:=cy o.le (show(Aj V).length<=1000 by show 2<=1000;lia) rB;obtain⟨ys,ey,XU,XQ⟩:=xh (F.app [.lst [.ref ik,.ref (s++n++j).length]]) XP (by show 4+2<=1000;lia) q.le;have r:=q.push (by show 6<=1000;lia) XU;simp only[<-È];rw[Ĥ ey];have u:=(Xt.app q.cl).app r.cl;clear XU rB q XP ey F G XO Xt o T H h9 c9 y p9 Q
 (try simp only[È]);(try simp only[È]at r);(try simp only[È]at XQ);(try simp only[È]at u)
 generalize n++(j++([AO.lst g]++([AO.lst [.ref ik,.ref (s++(n++j)).length]]++[AO.lst ys])))=t at *
 generalize (s++(n++(j++([AO.lst g]++[AO.lst [.ref ik,.ref (s++(n++j)).length]])))).length=ib at *
 have I:=r.push (NJ lh) (m3 _ _);have l:=u.app I.cl;have J:=Bj I;have Xu:=l.app J.cl;have Z:=Bj J;simp only[↓WS,↓WE,↓WV,Lq,ß,UU,Ä,↓Ð,↓Ĥ ((qB (m:="rate_list") u.at_ (by decide +kernel) lG).trans (yc u.at_ nd lh)),↓Ĥ ((qB (m:="half_days") l.at_ (by decide +kernel) lG).trans (xE l.at_)),↓Ĥ ((qB (m:="money_list") l.at_ (by decide +kernel) lG).trans (vC l)),↓Ĥ ((qB (m:="debt_list") Xu.at_ (by decide +kernel) lG).trans (xu Xu)),S4];have rC:bG b (s++t++[.lst ((jl V.rs).map rE)]++[.lst []]++[.lst []]) (Ak V) [.ref (s++t).length,.int V.h,.ref (s++t++[AO.lst ((jl V.rs).map rE)]).length,.ref (s++t++[AO.lst ((jl V.rs).map rE)]++[AO.lst []]).length]:=.cons (((cy r.le (NJ lh) (m3 _ _)).app _).app _) (.cons (qR _ _) (.cons ((uk I.le).app _) (.one (uk J.le))));have Xm:=Z.push (show(Ak V).length<=1000 by show 4<=1000;lia) rC;have Zv:=cy Z.le (show(Ak V).length<=1000 by show 4<=1000;lia) rC;obtain⟨zs,ez,Zy,Zw⟩:=xh ((((XQ.app _).app _).app _).app _) Zv (by show 6+4<=1000;lia) Xm.le;have Ys:=Xm.push (by show 10<=1000;lia) Zy;rw[Ĥ ez];exact⟨_,by simp only[È];rfl,Ys,Zw⟩
end
end Ro
namespace Mm
open PySem L2
def Ja (f:Nat)(st:S)(d:Dt)(v:AV):Prop:=f < st.length/\∀ o,Rp 0 (st.set f o) d v
def jH (f:Nat)(st:S)(l:Á Dt)(xs:Á AV):Prop:=f < st.length/\∀ o,bG 0 (st.set f o) l xs
def CQ {f:Nat}{st e:S}(h:f < st.length)(o:AO):(st++e).set f o=st.set f o++e:=EJ f o h
theorem Ja.app {f:Nat}{st:S}{d:Dt}{v:AV}(h:Ja f st d v)(e:S):Ja f (st++e) d v:=⟨by have:=h.1;simp;lia,λ o=>by rw[CQ h.1];exact(h.2 o).app e⟩
theorem jH.app {f:Nat}{st:S}{l:Á Dt}{xs:Á AV}(h:jH f st l xs)(e:S):jH f (st++e) l xs:=⟨by have:=h.1;simp;lia,λ o=>by rw[CQ h.1];exact(h.2 o).app e⟩
theorem jH.set (h:jH f st l xs)(o:AO):jH f (st.set f o) l xs:=⟨by rw[Ś];exact h.1,λ a=>by rw[Tw];exact h.2 a⟩
def jH.Pd (h:jH f st l xs):bG 0 st l xs:=by
 have:=h.2 (st[f]'h.1);rwa [C7]at this
theorem jH.append (h:jH f st l xs)(k:jH f st q ys):jH f st (l++q) (xs++ys):=⟨h.1,λ o=>(h.2 o).append (k.2 o)⟩
theorem jH.one (h:Ja f st d v):jH f st [d] [v]:=⟨h.1,λ o=>.one (h.2 o)⟩
def Ba (n:i≠f)(h:ô st i=À xs)(o:AO):ô (st.set f o) i=À xs:=bI (by rw[í (Ŋ n)];exact ď h)
def Lw (n:i≠f)(e:ô st i=À xs)(hl:l.length<=1000)(h:jH f st l xs):Ja f st (.lst l) (.ref i):=⟨h.1,λ o=>oB (Ba n e o) (ï _) hl (h.2 o)⟩
def MB (hl:l.length<=1000)(h:jH f st l xs):Ja f (st++[.lst xs]) (.lst l) (.ref st.length):=Lw (ġ h.1) (Ro.Ė st xs) hl (h.app _)
def PL (Q:Str->AV->Prop):Á Str->Á AV->Prop
 | [],xs=>xs=[]
 | x :: r,xs=>∃ v t,xs=v :: t/\Q x v/\PL Q r t
theorem PL.mono (k:∀ x v,Q x v->A x v):∀ {l:Á Str}{xs:Á AV},PL Q l xs->PL A l xs
 | [],_,h=>h
 | _ :: _,_,⟨v,t,e,a,b⟩=>⟨v,t,e,k _ _ a,PL.mono k b⟩
theorem PL.snoc (a:Q y v):∀ {l:Á Str}{xs:Á AV},PL Q l xs->PL Q (l++[y]) (xs++[v])
 | [],_,h=>by cases h;exact⟨v,[],rfl,a,rfl⟩
 | _ :: _,_,⟨w,t,e,b,c⟩=>by cases e;exact⟨w,t++[v],rfl,b,PL.snoc a c⟩
theorem PL.Pd:∀ {l:Á Str}{xs:Á AV},PL (λ x v=>Rp 0 s (f x) v) l xs->bG 0 s (l.map f) xs
 | [],_,h=>by cases h;exact .nil
 | _ :: _,_,⟨w,t,e,a,b⟩=>by cases e;exact .cons a (PL.Pd b)
def DA {names:Á Str}{i:Nat}{s:S}{f:Ev}{x0:Ê AV}{rest:En}(P:S->Str->AV->Prop)(mono:∀ st e x v,P st x v->P (st++e) x v) (t:ô s i=À (names.map AV.str)) (c:Cl s)
  (h:∀ x∈names,∀ e,Cl (s++e)->(f (À (.str x) :: rest) (s++e)).wp λ v s'=>∃ g,s'=s++e++g/\Cl s'/\P s' x v) :
  (ſ (gN 0) gm f [(i,names.map AV.str)] (names.map AV.str) (x0 :: rest) s []).wp λ a s'=>∃ e,s'=s++e/\Cl s'/\PL (P s') names a:=by
 refine mL (λ xs a b st=>∃ done r x e,names=done++r/\xs=r.map AV.str/\b=x :: rest/\st=s++e/\Cl st/\PL (P st) done a) ?_ ?_ ?_ _ _ _ _ ⟨[],names,x0,[],rfl,rfl,rfl,by simp,c,rfl⟩
 ·rintro _ _ _ st ⟨_,_,_,e,_,_,_,rfl,_⟩ p u;rw[ý.mp u];exact û t
 ·rintro a b st ⟨done,r,x,e,d,j,rfl,rfl,k,l⟩;cases r with
  | cons=>cases j
  | nil=>rw[cE]at d;subst d;exact⟨e,rfl,k,l⟩
 ·rintro v r a b st ⟨done,m,x,e,d,j,rfl,rfl,k,l⟩;cases m with
  | nil=>cases j
  | cons y m=>
   cases j;walk_at "w";refine(h y (by rw[d];simp) e k).mono ?_;rintro v s' ⟨g,rfl,n,o⟩;exact⟨done++[y],m,_,e++g,by rw[d];simp,rfl,rfl,by simp,n,PL.snoc o (l.mono λ x v q=>mono _ g x v q)⟩
def qh {names:Á Str}{i f:Nat}{s:S}{b:Ev}{x0:Ê AV}{rest:En}(d:Str->Dt)(l:f < s.length)(k:ô s i=À (names.map AV.str)) (c:Cl s)
  (h:∀ x∈names,∀ e,Cl (s++e)->(b (À (.str x) :: rest) (s++e)).wp λ v s'=>∃ j,s'=s++e++j/\Cl s'/\Ja f s' (d x) v) :
  (ſ (gN 0) gm b [(i,names.map AV.str)] (names.map AV.str) (x0 :: rest) s []).wp λ a s'=>∃ e,s'=s++e/\Cl s'/\jH f s' (names.map d) a:=by
 refine(DA (λ st x v=>Ja f st (d x) v) (λ st e x v q=>q.app e) k c h).mono ?_;rintro a s' ⟨e,rfl,g,p⟩;exact⟨e,rfl,g,by simp;lia,λ o=>PL.Pd (p.mono λ x v q=>q.2 o)⟩
def append_at (h:ô s i=À xs)(l:xs.length < 1000):aV (.ref i) [v] s=.ok .Ę (s.set i (.lst (xs++[v]))):=by
 unfold aV;simp only[h,å];rw[Ï (ŝ (by lia))]
end Mm
namespace Ro
open PySem L2 Mm
def m4 (B:Nat)(h:Int):ũ (vj B h) (.inr "people")=À (.ref (B+8)):=by rfl
def mG (B:Nat)(h:Int):ũ (vj B h) (.inr "works")=À (.ref (B+9)):=by rfl
def Iu (B:Nat)(h:Int):ũ (vj B h) (.inr "hands")=À (.ref (B+10)):=by rfl
def u0 (B:Nat)(h:Int):ũ (vj B h) (.inr "known")=À (.ref (B+11)):=by rfl
def kA (B:Nat)(h:Int):ũ (vj B h) (.inr "rates")=À (.ref (B+12)):=by rfl
def Iv (B:Nat)(h:Int):ũ (vj B h) (.inr "keeps")=À (.ref (B+13)):=by rfl
def LU (B:Nat)(h:Int):ũ (vj B h) (.inr "half")=À (.int h):=by rfl
def Iw (B:Nat)(h:Int):ũ (vj B h) (.inr "money")=À (.ref (B+15)):=by rfl
def Ir (B:Nat)(h:Int):ũ (vj B h) (.inr "debts")=À (.ref (B+16)):=by rfl
def HL (h:ô s i=À (l.map rE)) (nd:(l.map rKey).Nodup) (hl:l.length < 64)(e:m env s=.ok (.ref i) s):qr m env s=.ok ((jl l).map rE) s:=by
 unfold qr;rw[e,ó];dsimp only;have c:(l.map rE).all Ug=true:=by
  rw[ñ];intro v d;obtain⟨x,_,rfl⟩:=ĕ.mp d;rfl
 rw[h,å,Ï ⟨c,by rw[f7];exact nd,by rw[Î];exact hl⟩];congr 1;exact(List.map_mergeSort (f:=rE) (r:=λ a b=>ub (rKey a) (rKey b)) (s:=Mr) λ _ _ _ _=>rfl).symm
section
variable {B:Nat}{V W:Wl}{s:S}
def oG (h:At B (mid B V W) s) (e:ũ (vj B W.h) (.inr x)=À v):ģ (.ref (B+14)) (.str x) s=.ok v s:=vY (L' h) e
def pM (h:At B (mid B V W) s) (e:ũ (vj B W.h) (.inr x)=À v) (a:m env s=.ok (.ref (B+14)) s):Ø ģ m (mc (.str x)) env s=.ok v s:=by
 unfold Ø mc;rw[a,ó,ó];exact oG h e
theorem wH:∀ l:Á Str,Al (l.map AV.str)=À l
 | []=>rfl
 | x :: r=>by show(Al (r.map AV.str)).map (x :: ·)=_;rw[wH r];rfl
def LB (h:ô s i=À (l.map AV.str)) (hl:l.length < 64)(e:m env s=.ok (.ref i) s):tV m env s=.ok ((Ĕ l).map AV.str) s:=by
 unfold tV;rw[e,ó];dsimp only;rw[h,å,wH,å,Ï hl]
def wC (e:m env s=.ok [] s):n_ m env s=.ok [] s:=by
 unfold n_;rw[e,ó];rfl
def DU (h:ô s i=À [])(e:m env s=.ok (.ref i) s):Ů l (cN m) d b c env s=.ok [] s:=by
 apply R.wp.eq;simp only[↓WS,↓WE,↓WV,Lq,ß,UU,Ä,↓Ð,↓Ĥ e,↓Ĥ (kz h)];have f:∀ a,ſ d b c [(i,[])] [] a s []=.ok [] s:=λ a=>by
  unfold ſ;exact Ï (show vh [(i,[])] s from λ p g=>by rw[ý.mp g];exact h)
 rw[Ĥ (f _)];exact⟨rfl,rfl⟩
def JW (h:jN s i=À kvs)(e1:d env s=.ok (.ref i) s) (a:y env s=.ok (.str x) s) (b:w env s=.ok z s):uf d y w env s=.ok ((ũ kvs (.inr x)).getD z) s:=by
 obtain⟨u,c⟩:=bF.mp (tZ h);unfold uf;rw[e1,ó,c,å,a,ó,b,ó];show(need (jN s i) λ kvs=>need (fg (.str x)) λ k=>R.ok ((ũ kvs k).getD z) s)=_;rw[h];rfl
def ph (h:ô s i=À []):aD [.ref i] s=.ok (.ref s.length) (s++[.lst []]):=by
 apply R.wp.eq;have e:∀ {b d c a l},Ů b (Ex (mv 0)) d c a (À (AV.ref i) :: l) s=.ok [] s:=λ {b d c a l}=>by
  have f:Ex (mv 0) (À (AV.ref i) :: l) s=.ok ([],[(i,[])]) s:=by
   unfold Ex;rw[lG,ó];show(need ((ô s i).map λ xs=>(xs,[(i,xs)])) λ p=>R.ok (v5 p.1,p.2) s)=_;rw[h];rfl
  unfold Ů;rw[f,ó];dsimp only;rw[Ï (show([]:Á AV).length<=sizeLine from ï _)];unfold ſ;exact Ï (show vh [(i,[])] s from λ p g=>by rw[ý.mp g];exact h)
 unfold aD gO;simp only[↓WS,↓WE,↓WV,Lq,ß,UU,Ä,↓Ð,↓Ĥ (wC e),↓Ĥ ke,aJ,ï]
def Th:cL (Æ (mc (.int 0)) (Æ (mc (.int 1)) Ý)) env s=.ok (.tup [.int 0,.int 1]) s:=by
 apply R.wp.eq;walk_at "w"
structure Bd (s:S)(f ip iw:Nat)(P Q:Á AV)(L:Á Dt)(items:Á AV)(st:S):Prop where
 cl:Cl st
 ex:∃ e,st=s++e
 fl:s.length<=f
 hp:ô st ip=À P
 np:ip≠f
 hw:ô st iw=À Q
 nw:iw≠f
 hf:ô st f=À items
 rp:jH f st L items
def HI (o:AO)(h:bG 0 t l xs):jH t.length (t++[o]) l xs:=⟨by simp,λ a=>by
 have:(t++[o]).set t.length a=t++[a]:=by rw[gB _ _ (Ì _)];simp
 rw[this];exact h.app _⟩
theorem Bd.append {f d g:Nat}{P Q a:Á AV}{L D:Á Dt}{items:Á AV}{st e:S}(h:Bd s f d g P Q L items st)(c:Cl (st++e)) (r:jH f (st++e) D a) (k:D.length<=1000)(hl:items.length < 900) :
  aV (AV.ref f) [AV.ref (st++e).length] (st++e++[AO.lst a])=.ok .Ę ((st++e++[AO.lst a]).set f (AO.lst (items++[AV.ref (st++e).length])))/\
   Bd s f d g P Q (L++[.lst D]) (items++[AV.ref (st++e).length]) ((st++e++[AO.lst a]).set f (AO.lst (items++[AV.ref (st++e).length]))):=by
 have hf:ô (st++e++[AO.lst a]) f=À items:=û (û h.hf);have j:Cl (st++e++[AO.lst a]):=cx c r.Pd;have l:Ja f (st++e++[AO.lst a]) (.lst D) (.ref (st++e).length):=MB k r;have i:jH f (st++e++[AO.lst a]) (L++[.lst D]) (items++[AV.ref (st++e).length]):=((h.rp.app e).app _).append (.one l);refine⟨Mm.append_at hf (by lia),?_⟩;obtain⟨b,rfl⟩:=h.ex;exact {
  cl:=j.set (bG.low i.Pd)
  ex:=⟨(b++e++[AO.lst a]).set (f - s.length) (AO.lst (items++[AV.ref (s++b++e).length])),by rw[È,È,gB _ _ h.fl];simp only[È]⟩
  fl:=h.fl
  hp:=Ba h.np (û (û h.hp)) _
  np:=h.np
  hw:=Ba h.nw (û (û h.hw)) _
  nw:=h.nw
  hf:=Cz hf
  rp:=i.set _ }
def AR (h:iD B V W s)(J:W.ps.length < 64)(L:W.ws.length < 64)(lh:W.rs.length < 64)(nd:(W.rs.map rKey).Nodup) (hk:∀ p∈W.ps,(ũ W.kw (.inr p)).getD (.tup [.int 0,.int 1])=jh (W.kf p)):(aR [.ref (B+14)] s).wp λ v s'=>∃ e,s'=s++e/\Cl s'/\Rp 0 s' (told W) v:=by
 have c1:Cl (s++[.lst ((Ĕ W.ws).map AV.str)]):=cx (b:=0) h.cl (gv _ _);have h1:=h.app c1;have c2:Cl (s++[.lst ((Ĕ W.ws).map AV.str)]++[.lst ((Ĕ W.ps).map AV.str)]):=cx (b:=0) c1 (gv _ _);have h2:=h1.app c2;have hw:ô (s++[.lst ((Ĕ W.ws).map AV.str)]++[.lst ((Ĕ W.ps).map AV.str)]) s.length=À ((Ĕ W.ws).map AV.str):=û (Ė _ _);have hp:ô (s++[.lst ((Ĕ W.ws).map AV.str)]++[.lst ((Ĕ W.ps).map AV.str)]) (s++[AO.lst ((Ĕ W.ws).map AV.str)]).length=À ((Ĕ W.ps).map AV.str):=Ė _ _;unfold aR iL;simp only[↓WS,↓WE,↓WV,Lq,ß,UU,Ä,↓Ð,↓Ĥ (yi (l_ h.at_) (yq _ _ _) (by rw[kI];exact L) (pM h.at_ (mG B W.h) lG)),kI,↓Ĥ (LB (mY h1.at_) J (pM h1.at_ (m4 B W.h) lG))];rw[È]at *
 generalize ([AO.lst ((Ĕ W.ws).map AV.str)]++[AO.lst ((Ĕ W.ps).map AV.str)])=j at *
 generalize (s++[AO.lst ((Ĕ W.ws).map AV.str)]).length=y at *
 generalize s.length=F at *
 clear h1 c1;simp only[↓WS,↓WE,↓WV,Lq,ß,UU,Ä,↓Ð,↓Ĥ (kz hw)];refine⟨MG L _,(l9 (b:=0) Cl (λ _=>Dt.tup []) hw c2 ?_).mono ?_⟩
 ·intro x u e i;simp only[↓WS,↓WE,↓WV,Lq,ß,UU,Ä,↓Ð,↓Ĥ (oG (h2.app i).at_ (mG B W.h)),↓Ĥ (vY (l_ (h2.app i).at_) (yr (kr.mp u)))];exact⟨[],by simp,i,uE (by simp) .nil⟩
 rintro a s3 ⟨d,rfl,c3,r3⟩;have c4:=cx c3 r3;have p4:=cy (ï _) (lr L _) r3;have h4:iD B V W (s++j++d++[.lst a]):=by rw[È];exact h2.app (by rw[<-È];exact c4)
 have m:ô (s++j++d++[.lst a]) F=À ((Ĕ W.ws).map AV.str):=û (û hw);have k:ô (s++j++d++[.lst a]) y=À ((Ĕ W.ps).map AV.str):=û (û hp);have rA:bG 0 (s++j++d++[.lst a]) [.lst ((Ĕ W.ps).map .str),.lst ((Ĕ W.ws).map .str),.lst ((Ĕ W.ws).map λ _=>.tup [])] [.ref y,.ref F,.ref (s++j++d).length]:=.cons (oB k (ï _) (lr J _) (gv _ _)) (.cons (oB m (ï _) (lr L _) (gv _ _)) (.one p4));have A:Bd s (s++j++d++[AO.lst a]).length y F ((Ĕ W.ps).map AV.str) ((Ĕ W.ws).map AV.str) _ _ (s++j++d++[.lst a]++[.lst [.ref y,.ref F,.ref (s++j++d).length]]):={
  cl:=cx c4 rA
  ex:=⟨_,by simp only[È];rfl⟩
  fl:=by simp only[ă];lia
  hp:=û k
  np:=ê (Ç.mp (ď k)).1
  hw:=û m
  nw:=ê (Ç.mp (ď m)).1
  hf:=Ė _ _
  rp:=HI _ rA }
 clear rA c4 p4 h4 m k r3 c3 h2 c2 hw hp;generalize s++j++d++[AO.lst a]++[AO.lst [.ref y,.ref F,.ref (s++j++d).length]]=g at *
 generalize (s++j++d++[AO.lst a]).length=f at *
 generalize [AV.ref y,.ref F,.ref (s++j++d).length]=z at *
 have X:z.length=3:=by have:=A.rp.Pd.length;simpa using this.symm
 have O:iD B V W g:=by obtain⟨e,rfl⟩:=A.ex;exact h.app A.cl
 refine⟨qw A.hf,?_⟩;simp only[↓WS,↓WE,↓WV,Lq,ß,UU,Ä,↓Ð,↓Ĥ (kz A.hp)];refine⟨MG J _,(qh (f:=f) (λ _=>Dt.lst []) A.rp.1 A.hp A.cl ?_).mono ?_⟩
 ·intro x u e i;have b:=O.app i;have en:∀ {l c lc tg te el},n_ (Ů lc (cN (Ø ģ (mv 1) (mc (.str "hands")))) tg te el) (c :: À (.ref (B+14)) :: l) (g++e)=.ok [] (g++e):=λ {l c lc tg te el}=>wC (DU (Gu b.at_) (pM b.at_ (Iu B W.h) uh));simp only[↓WS,↓WE,↓WV,Lq,ß,UU,Ä,↓Ð,↓Ĥ en];exact⟨_,rfl,xV i,(MB (l:=[]) (by simp) ⟨(A.rp.app e).1,λ o=>.nil⟩:Ja f (g++e++[.lst []]) (.lst []) _)⟩
 rintro hl s5 ⟨e3,rfl,c5,G⟩;obtain⟨t,D2⟩:=A.append c5 G (lr J _) (by lia);rw[Ĥ t];clear t G c5 O;generalize (g++e3++[AO.lst hl]).set f (.lst (z++[.ref (g++e3).length]))=q at *
 generalize T:z++[AV.ref (g++e3).length]=D at *
 have Y:D.length=4:=by rw[<-T];simp[X]
 clear T X A;have P:iD B V W q:=by obtain⟨e,rfl⟩:=D2.ex;exact h.app D2.cl
 refine⟨qw D2.hf,?_⟩;simp only[↓WS,↓WE,↓WV,Lq,ß,UU,Ä,↓Ð,↓Ĥ (kz D2.hw)];refine⟨MG L _,(qh (f:=f) (λ w=>nD (J_ W.kn w)) D2.rp.1 D2.hw D2.cl ?_).mono ?_⟩
 ·intro x u e i;have b:=P.app i;rw[Ĥ (Ci (x:=x) (tD b.at_) (pM b.at_ (u0 B W.h) uh) lG),BL];exact⟨[],by simp,i,⟨(D2.rp.app e).1,λ o=>HH _ _⟩⟩
 rintro kl n ⟨e4,rfl,H,Z⟩;obtain⟨t,C⟩:=D2.append H Z (lr L _) (by lia);rw[Ĥ t];clear t Z H P;generalize (q++e4++[AO.lst kl]).set f (.lst (D++[.ref (q++e4).length]))=r at *
 generalize U:D++[AV.ref (q++e4).length]=E at *
 have Zl:E.length=5:=by rw[<-U];simp[Y]
 clear U Y D2;have Q:iD B V W r:=by obtain⟨e,rfl⟩:=C.ex;exact h.app C.cl
 refine⟨qw C.hf,?_⟩;simp only[↓WS,↓WE,↓WV,Lq,ß,UU,Ä,↓Ð,↓Ĥ (kz C.hp)];refine⟨MG J _,(qh (f:=f) (λ p=>Dt.tup [.int (W.kf p).1,.int (W.kf p).2]) C.rp.1 C.hp C.cl ?_).mono ?_⟩
 ·intro x u e i;have b:=Q.app i;rw[Ĥ (JW (x:=x) (Rk b.at_) (pM b.at_ (Iv B W.h) uh) lG Th),hk x (kr.mp u)];exact⟨[],by simp,i,⟨(C.rp.app e).1,λ o=>uD _ _⟩⟩
 rintro ql s7 ⟨e5,rfl,I,r7⟩;obtain⟨t,M⟩:=C.append I r7 (lr J _) (by lia);rw[Ĥ t];clear t r7 I Q;generalize (r++e5++[AO.lst ql]).set f (.lst (E++[.ref (r++e5).length]))=V3 at *
 generalize E++[AV.ref (r++e5).length]=it4 at *
 clear Zl C;obtain⟨ex,rfl⟩:=M.ex;have b4:iD B V W (s++ex):=h.app M.cl;have N:=b4.app (cx (b:=0) b4.cl (m3 _ (jl W.rs)));have d:qr (Ø ģ (mv 0) (mc (.str "rates"))) [À (.ref (B+14)),À (.ref f),À (.ref F),À (.ref y)] (s++ex)=.ok ((jl W.rs).map rE) (s++ex):=HL (kq b4.at_) nd lh (pM b4.at_ (kA B W.h) lG);rw[Ĥ d,Ĥ (oG N.at_ (LU B W.h))];have G:bG 0 (s++ex++[.lst ((jl W.rs).map rE)]) [.lst ((jl W.rs).map rD),.int W.h] [.ref (s++ex).length,.int W.h]:=.cons (cy (ï _) (NJ lh) (m3 _ _)) (.one (qR _ _));have p5:Rp 0 (s++ex++[.lst ((jl W.rs).map rE)]) _ (.ref f):=oB (û M.hf) (ï _) (by show 6<=1000;lia) (M.rp.Pd.app _);obtain⟨ys,ey,Z,p6⟩:=xh (p5.app [.lst [.ref (s++ex).length,.int W.h]]) (cy (ï _) (by show 2<=1000;lia) G) (by show 6+2<=1000;lia) (ï _);have H:=cx (cx N.cl G) Z;rw[Ĥ ey];have b6:iD B V W (s++ex++[.lst ((jl W.rs).map rE)]++[.lst [.ref (s++ex).length,.int W.h]]++[.lst ys]):=(N.app (cx N.cl G)).app H;clear ey M p5 Z G d N;generalize Y9:s++ex++[AO.lst ((jl W.rs).map rE)]++[AO.lst [.ref (s++ex).length,.int W.h]]++[AO.lst ys]=n at *
 generalize (s++ex++[AO.lst ((jl W.rs).map rE)]++[AO.lst [.ref (s++ex).length,.int W.h]]).length=k6 at *
 have I:=xV H;have b7:=b6.app I;have c8:=xV I;rw[Ĥ (oG b6.at_ (Iw B W.h)),Ĥ (ph (R4 b6.at_))];dsimp only;rw[Ė,å,f_,Ï ⟨Ì _,H,by simp[Ĺ]⟩,pO,Ĥ (oG b7.at_ (Ir B W.h)),Ĥ (ph (R3 b7.at_))];dsimp only;rw[Ė,å,f_,Ï ⟨Ì _,I,by simp[Ĺ]⟩,pO];have r8:bG 0 (n++[.lst []]++[.lst []]) [.lst [],.lst []] [.ref n.length,.ref (n++[AO.lst []]).length]:=.cons ((uk (ï _)).app _) (.one (uk (ï _)));obtain⟨zs,ez,r9,p9⟩:=xh (((p6.app [.lst []]).app [.lst []]).app [.lst [.ref n.length,.ref (n++[AO.lst []]).length]]) (cy (ï _) (by show 2<=1000;lia) r8) (by show 8+2<=1000;lia) (ï _);have c9:=cx (cx c8 r8) r9;rw[Ĥ ez];have u:∃ e,n++[.lst []]++[.lst []]++[.lst [.ref n.length,.ref (n++[AO.lst []]).length]]++[.lst zs]=s++e:=by
  rw[<-Y9];simp only[È];exact⟨_,rfl⟩
 obtain⟨e,he⟩:=u;exact⟨e,he,c9,p9⟩
end
inductive De where
 | half (d:Int)|known (x:Kn)|fA (x:Rt)|person (x:Str)|work (x:Str)
def dv:De->AV
 | .half d=>.tup [.str "half",.int d]
 | .known x=>.tup [.str "known",.str x.1,.int x.2.1,.str x.2.2]
 | .fA x=>.tup [.str "rate",.str x.1,.int x.2.1,jh x.2.2]
 | .person x=>.tup [.str "person",.str x]
 | .work x=>.tup [.str "work",.str x]
def ET (W:Wl)(x:Kn):Prop:=x.1∉W.ws∨x.2.2∉W.ps
instance (W:Wl) (x:Kn):ő (ET W x):=inferInstanceAs (ő (_∨_))
def Je (W:Wl)(x:Rt):Prop:=x.1="coin"∨rKey x∈W.rs.map rKey
instance (W:Wl) (x:Rt):ő (Je W x):=inferInstanceAs (ő (_∨_))
def jk (W:Wl):De->Str
 | .half _=>""
 | .known x=>if ET W x then "name" else if x.1∈W.kn.map (·.1) then "taken" else ""
 | .fA x=>if Je W x then "taken" else ""
 | .person _=>""
 | .work _=>""
def fz (W:Wl):De->Wl
 | .half d=>{ W with h:=d }
 | .known x=>if ET W x then W else if x.1∈W.kn.map (·.1) then W else { W with kn:=W.kn++[x] }
 | .fA x=>if Je W x then W else { W with rs:=W.rs++[x] }
 | .person x=>{ W with ps:=W.ps++[x] }
 | .work x=>{ W with ws:=W.ws++[x] }
def De.ok (W:Wl):De->Prop
 | .person x=>¬ (x∈W.ps∨x∈W.ws)
 | .work x=>¬ (x∈W.ps∨x∈W.ws)
 | _=>True
structure vu (n m:Nat)(W:Wl):Prop where
 lp:W.ps.length<=n
 lw:W.ws.length<=n
 lh:W.rs.length<=m
 lk:W.kn.length<=m
 nd:(W.rs.map rKey).Nodup
 nc:∀ x∈W.rs,x.1≠"coin"
def WQ:((Ü "person"=Ü "half")=False)/\((Ü "work"=Ü "half")=False)/\((Ü "work"=Ü "person")=False)/\((Ü "half"=Ü "person")=False)/\((Ü "half"=Ü "work")=False)/\((Ü "person"=Ü "work")=False)/\((Ü "known"=Ü "half")=False)/\((Ü "known"=Ü "person")=False)/\((Ü "known"=Ü "work")=False)/\((Ü "half"=Ü "known")=False)/\((Ü "rate"=Ü "half")=False)/\((Ü "rate"=Ü "person")=False)/\((Ü "rate"=Ü "work")=False)/\((Ü "half"=Ü "rate")=False)/\((Ü "known"=Ü "rate")=False)/\((Ü "rate"=Ü "known")=False):=by
 refine⟨?_,?_,?_,?_,?_,?_,?_,?_,?_,?_,?_,?_,?_,?_,?_,?_⟩<;>exact rP (by decide +kernel)
theorem Cm (x:Str):∀ l:Á Str,Ud (.str x) (l.map AV.str)=decide (x∈l)
 | []=>rfl
 | y :: r=>by
  have a:=Cm x r;unfold Ud Ue at a ⊢;rw[Õ,Õ,ř,a];show(jP (V.str y) (V.str x) || decide (x∈r))=_;have:jP (V.str y) (V.str x)=decide (x=y):=by
   unfold jP;by_cases h:x=y
   ·subst h;simp
   ·have:¬ y=x:=λ e=>h e.symm;simp[h,this]
  rw[this];by_cases h:x=y<;>by_cases b:x∈r<;>simp[h,b]
theorem Ma:∀ l:Á Str,(l.map AV.str).all mh=true
 | []=>rfl
 | i :: r=>by rw[Õ,Ġ,Ma r];rfl
section
variable {B:Nat}{V W:Wl}{s:S}
def Oq {i:Nat}{l:Á Str}{x:Str}(h:ô s i=À (l.map AV.str)):uw (.str x) (.ref i) s=.ok (.bl (!decide (x∈l))) s:=by
 unfold uw;show need (ô s i) _=_;rw[h,å,Ï ⟨rfl,Ma l⟩,Cm]
def HE (B:Nat)(h d:Int):jT (vj B h) (.inr "half") (.int d)=vj B d:=by rfl
def Ml:ĺ (.tup (a :: l)) (.int 0) s=.ok a s:=by
 show(need (kQ (a :: l) 0) λ v=>R.ok v s)=_;rw[show kQ (a :: l) 0=À a from Lq.2.2.2.2.1 a l];rfl
structure T3 (B:Nat)(s s':S):Prop where
 len:s'.length=s.length
 get:∀ i,i < B∨B+17<=i->s'[i]? = s[i]?
 cl:Cl s'
 tab:Tb s'
def B0 (h:s.any (tabAt k q)=true) (e:s[i]? = À o)(n:tabAt k q o=false):(s.set i o').any (tabAt k q)=true:=by
 obtain⟨x,f,b⟩:=dS.mp h;obtain⟨j,d,c⟩:=İ f;have a:i≠j:=by
  rintro rfl;rw[Å d,c]at e;cases e;rw[n]at b;cases b
 refine dS.mpr ⟨x,?_,b⟩;have:(s.set i o')[j]? = À x:=by rw[í a,Å d,c]
 exact ò this
def f' (h:iD B V W s)(c:i < 17)(e:(mid B V W)[i]? = À o) (n:∀ k q,tabAt k q o=false)(l:o'.low s.length=true):T3 B s (s.set (B+i) o'):=
 ⟨Ś,λ j d=>í (by lia),h.cl.set l,B0 h.tab.a (h.at_.at e) (n _ _),B0 h.tab.b (h.at_.at e) (n _ _)⟩
theorem om (h:∀ x,(g x).low b=true):∀ l:Á Str,Ĺ b ((kT id g l).map (·.2))=true
 | []=>by simp[kT,Ĺ]
 | x :: r=>by
  show Ĺ b (g x :: (kT id g r).map (·.2))=true;simp only[Ĺ,h x,om h r];rfl
def Cw (b:Nat)(a:Int × Int):(jh a).low b=true:=by simp[jh,AV.low,Ĺ]
theorem fh:∀ {l:Á AV},(∀ v∈l,v.low b=true)->Ĺ b l=true
 | [],_=>by simp[Ĺ]
 | v :: r,h=>by simp only[Ĺ,h v (.head _),fh λ w hw=>h w (.tail _ hw)];rfl
end
structure nv (B:Nat)(s s':S):Prop where
 len:s.length<=s'.length
 get:∀ i,i < s.length->i < B∨B+17<=i->s'[i]? = s[i]?
def T3.a (h:T3 B s s'):nv B s s':=⟨by rw[h.len];exact Ì _,λ i _ k=>h.get i k⟩
def nv.app (h:nv B s s')(e:S):nv B s (s'++e):=⟨by have:=h.len;simp;lia,λ i a k=>by rw[Û (by have:=h.len;lia)];exact h.get i a k⟩
def nv.refl (B:Nat)(s:S):nv B s s:=⟨Ì _,λ _ _ _=>rfl⟩
theorem nv.trans (h:nv B s s')(k:nv B s' a):nv B s a:=⟨Đ h.len k.len,λ i b q=>(k.get i (é b h.len) q).trans (h.get i b q)⟩
section
variable {B:Nat}{V W:Wl}{s:S}
def jU (h:a env s=.rt v s1):ċ a b env s=.rt v s1:=by unfold ċ;rw[h]
def yg (h:m l s=.ok v s1):ŷ i m l s=.nx (l.set i (À v)) s1:=by unfold ŷ;rw[h];rfl
def uF {r:RS}(h:r.wp (λ e s'=>e=env/\s'=t) (λ _ _=>False)):r=.nx env t:=by
 cases r with
 | nx e s'=>obtain⟨rfl,rfl⟩:=h;rfl
 | _=>exact h.elim
def zD (h:ô s j=À (a :: l)):ĺ (.ref j) (.int 0) s=.ok a s:=by
 show(need (ô s j) λ xs=>need (kQ xs 0) λ v=>R.ok v s)=_;rw[h,å,show kQ (a :: l) 0=À a from Lq.2.2.2.2.1 a l];rfl
def Mn (h:ô s j=À (a :: b :: l)):ĺ (.ref j) (.int 1) s=.ok b s:=by
 show(need (ô s j) λ xs=>need (kQ xs 1) λ v=>R.ok v s)=_;rw[h,å,show kQ (a :: b :: l) 1=À b from Lq.2.2.2.2.2.1 a b l];rfl
def RN (h:ô s j=À [a,b,c]):ĺ (.ref j) (.int 2) s=.ok c s:=by
 show(need (ô s j) λ xs=>need (kQ xs 2) λ v=>R.ok v s)=_;rw[h];rfl
abbrev dE (B:Nat)(d:AV)(w:Str)(n:Nat):En:=[À (.ref (B+14)),À d,À (.str w),À (.ref n),À (.ref (B+8)),À (.ref (B+9))]
def tF (a:ĺ d (.int 0) s=.ok (.str w) s) (b:su d (À 1) none s=.ok (.tup r) s):lS 2 3 (Æ (Ø ĺ (mv 1) (mc (.int 0))) (Æ (ŀ (pT uB (xM (zM (mv 1) (oS (mc (.int 1))) oN)))) Ý)) [À x,À d,none,none,none,none] s=.nx [À x,À d,À (.str w),À (.ref s.length),none,none] (s++[.lst r]):=by
 apply uF;simp only[↓WS,↓WE,↓WV,Lq,ß,UU,Ä,↓Ð,↓Ĥ a,↓Ĥ b,items,uB]
def tH (h:iD B V W s):lS 4 5 (Æ (Ø ģ (mv 0) (mc (.str "people"))) (Æ (Ø ģ (mv 0) (mc (.str "works"))) Ý)) [À (.ref (B+14)),À d,À (.str w),À (.ref n),none,none] s=.nx (dE B d w n) s:=by
 apply uF;simp only[↓WS,↓WE,↓WV,Lq,ß,UU,Ä,↓Ð,↓Ĥ (oG h.at_ (m4 B W.h)),↓Ĥ (oG h.at_ (mG B W.h))]
def n5 (x:Str)(b:Bool)(a:decide (w=x)=b):cB (Ø aP (mv 2) (mc (.str x))) (dE B d w n) s=.ok b s:=by subst a;rfl
def xx (b:Bool)(a:Ed (.str w) (.tup [.str "person",.str "work"]) s=.ok (.bl b) s):cB (Ø Ed (mv 2) (cL (Æ (mc (.str "person")) (Æ (mc (.str "work")) Ý)))) (dE B d w n) s=.ok b s:=by
 apply R.wp.eq;simp only[↓WS,↓WE,↓WV,Lq,ß,UU,Ä,↓Ð,↓Ĥ a]
def FK (h:iD B V W s)(d:Int):(ķ [.ref (B+14),dv (.half d)] s).wp λ v s'=>v=.str (jk W (.half d))/\iD B V (fz W (.half d)) s'/\nv B s s':=by
 have j:B+17<=s.length:=h.at_.len (by show 0 < 17;lia);have b:=h.app (e:=[.lst [.int d]]) (h.cl.add (by simp[AO.low,Ĺ,AV.low]));have g:=zD (Ė s [.int d]);have f:i7 (mv 0) (mc (.str "half")) (Ø ĺ (mv 3) (mc (.int 0))) (dE B (dv (.half d)) "half" s.length) (s++[.lst [.int d]])=.nx (dE B (dv (.half d)) "half" s.length) ((s++[AO.lst [.int d]]).set (B+14) (.dK (vj B d))):=by
  apply uF;simp only[↓WS,↓WE,↓WV,Lq,ß,UU,Ä,↓Ð,↓Ĥ g,↓vM (mC (L' b.at_) (by show 9 < 1000;lia)),HE]
 have e:ķ [.ref (B+14),dv (.half d)] s=.ok (.str "") ((s++[AO.lst [.int d]]).set (B+14) (.dK (vj B d))):=by
  unfold ķ ef;exact kg (env:=[À (.ref (B+14)),À (dv (.half d)),none,none,none,none]) ((Ć (tF Ml rfl)).trans ((Ć (tH b)).trans (jU ((iv (n5 "half" true (by decide +kernel))).trans ((Ć f).trans rfl)))))
 rw[e];have lo:(AO.dK (vj B d)).low (s++[AO.lst [.int d]]).length=true:=by
  simp[AO.low,vj,Ĺ,AV.low];lia
 have c:=f' b (i:=14) (o':=.dK (vj B d)) (by lia) rfl (λ _ _=>rfl) lo;exact⟨rfl,⟨b.at_.set 14 _,c.cl,c.tab⟩,((nv.refl B s).app _).trans c.a⟩
def A4 (h:iD B V W s)(x:Str)(g:W.ps.length < 900):(ķ [.ref (B+14),dv (.person x)] s).wp λ v s'=>v=.str (jk W (.person x))/\iD B V (fz W (.person x)) s'/\nv B s s':=by
 have b:=h.app (e:=[.lst [.str x]]) (h.cl.add (by simp[AO.low,Ĺ,AV.low]));have f:=zD (Ė s [.str x]);have d:aE (pq "list" aV (mv 4) (Æ (Ø ĺ (mv 3) (mc (.int 0))) Ý)) (dE B (dv (.person x)) "person" s.length) (s++[.lst [.str x]])=.nx (dE B (dv (.person x)) "person" s.length) ((s++[AO.lst [.str x]]).set (B+8) (.lst (W.ps.map AV.str++[.str x]))):=by
  refine k7 (v:=.Ę) (R.wp.eq ?_);simp only[↓WS,↓WE,↓WV,Lq,ß,UU,Ä,↓Ð,↓Ĥ f,qw (mY b.at_),↓Ĥ (Mm.append_at (v:=.str x) (mY b.at_) (by rw[Î];lia))]
 have e:ķ [.ref (B+14),dv (.person x)] s=.ok (.str "") ((s++[AO.lst [.str x]]).set (B+8) (.lst (W.ps.map AV.str++[.str x]))):=by
  unfold ķ ef;exact kg (env:=[À (.ref (B+14)),À (dv (.person x)),none,none,none,none]) ((Ć (tF Ml rfl)).trans ((Ć (tH b)).trans ((Ć ((di (n5 "half" false (by decide +kernel))).trans rfl)).trans (jU ((iv (xx true rfl)).trans ((Ć ((iv (n5 "person" true (by decide +kernel))).trans d)).trans rfl))))))
 rw[e];have lo:(AO.lst (W.ps.map AV.str++[.str x])).low (s++[AO.lst [.str x]]).length=true:=by
  have:=aU (s++[AO.lst [.str x]]).length (W.ps++[x]);rw[Ł]at this;exact this
 have c:=f' b (i:=8) (o':=.lst (W.ps.map AV.str++[.str x])) (by lia) rfl (λ _ _=>rfl) lo;refine⟨rfl,⟨?_,c.cl,c.tab⟩,((nv.refl B s).app _).trans c.a⟩;have:=b.at_.set 8 (.lst (W.ps.map AV.str++[.str x]));rw[show(mid B V W).set 8 (.lst (W.ps.map AV.str++[.str x]))=mid B V { W with ps:=W.ps++[x] } by unfold mid;simp;rfl]at this;exact this
def FN (h:iD B V W s)(x:Str)(j:W.ws.length < 900)(hw:x∉W.ws):(ķ [.ref (B+14),dv (.work x)] s).wp λ v s'=>v=.str (jk W (.work x))/\iD B V (fz W (.work x)) s'/\nv B s s':=by
 have b:=h.app (e:=[.lst [.str x]]) (h.cl.add (by simp[AO.low,Ĺ,AV.low]));have f:=zD (Ė s [.str x]);have d:i7 (mv 5) (Ø ĺ (mv 3) (mc (.int 0))) (cL Ý) (dE B (dv (.work x)) "work" s.length) (s++[.lst [.str x]])=.nx (dE B (dv (.work x)) "work" s.length) ((s++[AO.lst [.str x]]).set (B+9) (.dK (kT id (λ _=>.tup []) (W.ws++[x])))):=by
  apply uF;simp only[↓WS,↓WE,↓WV,Lq,ß,UU,Ä,↓Ð,↓Ĥ f,↓vM (mC (l_ b.at_) (by rw[t_];lia)),qO (g:=λ _=>AV.tup []) hw rfl]
 have e:ķ [.ref (B+14),dv (.work x)] s=.ok (.str "") ((s++[AO.lst [.str x]]).set (B+9) (.dK (kT id (λ _=>.tup []) (W.ws++[x])))):=by
  unfold ķ ef;exact kg (env:=[À (.ref (B+14)),À (dv (.work x)),none,none,none,none]) ((Ć (tF Ml rfl)).trans ((Ć (tH b)).trans ((Ć ((di (n5 "half" false (by decide +kernel))).trans rfl)).trans (jU ((iv (xx true rfl)).trans ((Ć ((di (n5 "person" false (by decide +kernel))).trans d)).trans rfl))))))
 rw[e];have lo:(AO.dK (kT id (λ _=>.tup []) (W.ws++[x]))).low (s++[AO.lst [.str x]]).length=true:=om (λ _=>by simp[AV.low,Ĺ]) _;have c:=f' b (i:=9) (o':=.dK (kT id (λ _=>.tup []) (W.ws++[x]))) (by lia) rfl (λ _ _=>rfl) lo;exact⟨rfl,⟨b.at_.set 9 _,c.cl,c.tab⟩,((nv.refl B s).app _).trans c.a⟩
def F7 (x:Str):∀ l:Á Kn,(ũ (wh l) (.inr x)).isSome=decide (x∈l.map (·.1)):=λ l=>by
 rw[BL,j9,J_,cC,List.find?_isSome];simp
def HF (h:x.1∉l.map (·.1)):jT (wh l) (.inr x.1) (nV x)=wh (l++[x]):=by
 unfold jT;have:((wh l).any λ d=>decide (d.1=dq x.1))=false:=by
  rw[sE];intro p c;obtain⟨a,b,rfl⟩:=ĕ.mp c;simp only[Ŗ];intro z;exact h (j2 z ▸ ĕ.mpr ⟨a,b,rfl⟩)
 rw[this,Ô (by decide)];unfold wh kT;rw[Ł];rfl
def xQ (b:Nat)(l:Á Kn):Ĺ b ((wh l).map (·.2))=true:=fh λ v c=>by
 obtain⟨p,a,rfl⟩:=ĕ.mp c;obtain⟨x,_,rfl⟩:=ĕ.mp a;simp[nV,AV.low,Ĺ]
def Gm (b:Nat)(l:Á Rt):Ĺ b (l.map rE)=true:=fh λ v a=>by
 obtain⟨x,_,rfl⟩:=ĕ.mp a;simp[rE,jh,AV.low,Ĺ]
def EC (h:iD B V W s){y:Kn}{j:Nat}(q:ô s j=À [.str y.1,.int y.2.1,.str y.2.2])(E:W.kn.length < 64):(Ģ [.ref (B+14),.str "known",.ref j] s).wp λ v s'=>v=.str (jk W (.known y))/\iD B V (fz W (.known y)) s'/\nv B s s':=by
 have D:B+17<=s.length:=h.at_.len (by show 0 < 17;lia);have m:=zD q;have f:=Mn q;have n:=RN q;have r:(Dv (cB (Ø oy (Ø ĺ (mv 2) (mc (.int 0))) (Ø ģ (mv 0) (mc (.str "works"))))) (cB (Ø uw (Ø ĺ (mv 2) (mc (.int 2))) (mv 3)))) [À (.ref (B+14)),À (.str "known"),À (.ref j),À (.ref (B+8)),none] s=.ok (decide (ET W y)) s:=by
  apply R.wp.eq;by_cases k:y.1∈W.ws
  ·simp only[↓WS,↓WE,↓WV,Lq,ß,UU,Ä,↓Ð,↓Ĥ m,↓Ĥ n,↓Ĥ (oG h.at_ (mG B W.h)),↓Ĥ (mO (l_ h.at_)),↓Ĥ (Oq (mY h.at_)),ju,kN k,ŋ,eJ];simp[ET,k]
  ·simp only[↓WS,↓WE,↓WV,Lq,ß,UU,Ä,↓Ð,↓Ĥ m,↓Ĥ n,↓Ĥ (oG h.at_ (mG B W.h)),↓Ĥ (mO (l_ h.at_)),ju,rP k,Ō,dF];simp[ET,k]
 have t:(cB (Ø jy (Ø ĺ (mv 2) (mc (.int 0))) (Ø ģ (mv 0) (mc (.str "known"))))) [À (.ref (B+14)),À (.str "known"),À (.ref j),À (.ref (B+8)),none] s=.ok (decide (y.1∈W.kn.map (·.1))) s:=by
  apply R.wp.eq;simp only[↓WS,↓WE,↓WV,Lq,ß,UU,Ä,↓Ð,↓Ĥ m,↓Ĥ (oG h.at_ (u0 B W.h)),↓Ĥ (n4 (tD h.at_)),F7]
 have o:cB (Ø aP (mv 1) (mc (.str "known"))) [À (.ref (B+14)),À (.str "known"),À (.ref j),À (.ref (B+8)),none] s=.ok true s:=R.wp.eq (by simp only[↓WS,↓WE,↓WV,Lq,ß,UU,Ä,↓Ð,ŋ]);have A:∀ st,cB (Ø aP (mv 1) (mc (.str "rate"))) [À (.ref (B+14)),À (.str "known"),À (.ref j),À (.ref (B+8)),none] st=.ok false st:=λ st=>R.wp.eq (by simp only[↓WS,↓WE,↓WV,Lq,ß,UU,Ä,↓Ð,WQ,Ō]);have p:=yg (i:=3) (l:=[À (.ref (B+14)),À (.str "known"),À (.ref j),none,none]) (pM h.at_ (m4 B W.h) lG);by_cases d:ET W y
 ·have e:Ģ [.ref (B+14),.str "known",.ref j] s=.ok (.str "name") s:=by
   unfold Ģ aQ;exact kg (env:=[À (.ref (B+14)),À (.str "known"),À (.ref j),none,none]) ((Ć p).trans (jU ((iv o).trans (jU ((iv (r.trans (by rw[ć d]))).trans rfl)))))
  rw[e];have f:fz W (.known y)=W:=Ï d;rw[f];exact⟨by simp[jk,d],h,nv.refl B s⟩
 have u:=(di (a:=ň (mc (.str "name"))) (b:=Ĵ) (r.trans (by rw[ö d]))).trans (show Ĵ _ s=.nx _ s from rfl);by_cases g:y.1∈W.kn.map (·.1)
 ·have e:Ģ [.ref (B+14),.str "known",.ref j] s=.ok (.str "taken") s:=by
   unfold Ģ aQ;exact kg (env:=[À (.ref (B+14)),À (.str "known"),À (.ref j),none,none]) ((Ć p).trans (jU ((iv o).trans ((Ć u).trans (jU ((iv (t.trans (by rw[ć g]))).trans rfl))))))
  rw[e];have f:fz W (.known y)=W:=(Ô d).trans (Ï g);rw[f];exact⟨by simp only[jk,Ô d,Ï g],h,nv.refl B s⟩
 ·have C:=(di (a:=ň (mc (.str "taken"))) (b:=Ĵ) (t.trans (by rw[ö g]))).trans (show Ĵ _ s=.nx _ s from rfl);have z:i7 (Ø ģ (mv 0) (mc (.str "known"))) (Ø ĺ (mv 2) (mc (.int 0))) (cL (Æ (Ø ĺ (mv 2) (mc (.int 1))) (Æ (Ø ĺ (mv 2) (mc (.int 2))) Ý))) [À (.ref (B+14)),À (.str "known"),À (.ref j),À (.ref (B+8)),none] s=.nx [À (.ref (B+14)),À (.str "known"),À (.ref j),À (.ref (B+8)),none] (s.set (B+11) (.dK (wh (W.kn++[y])))):=by
   have w:cL (Æ (Ø ĺ (mv 2) (mc (.int 1))) (Æ (Ø ĺ (mv 2) (mc (.int 2))) Ý)) [À (.ref (B+14)),À (.str "known"),À (.ref j),À (.ref (B+8)),none] s=.ok (nV y) s:=by
    apply R.wp.eq;simp only[↓WS,↓WE,↓WV,Lq,ß,UU,Ä,↓Ð,↓Ĥ f,↓Ĥ n];rfl
   apply uF;simp only[↓WS,↓WE,↓WV,Lq,ß,UU,Ä,↓Ð,↓Ĥ w,↓Ĥ (oG h.at_ (u0 B W.h)),↓Ĥ m,↓vM (mC (v:=nV y) (x:=y.1) (tD h.at_) (by rw[wh,t_];lia)),HF g]
  have e:Ģ [.ref (B+14),.str "known",.ref j] s=.ok (.str "") (s.set (B+11) (.dK (wh (W.kn++[y])))):=by
   unfold Ģ aQ;exact kg (env:=[À (.ref (B+14)),À (.str "known"),À (.ref j),none,none]) ((Ć p).trans ((Ć ((iv o).trans ((Ć u).trans ((Ć C).trans z)))).trans ((Ć ((di (A _)).trans rfl)).trans rfl)))
  rw[e];have f:fz W (.known y)={ W with kn:=W.kn++[y] }:=(Ô d).trans (Ô g);have c:=f' h (i:=11) (o':=.dK (wh (W.kn++[y]))) (by lia) rfl (λ _ _=>rfl) (xQ _ _);rw[f];exact⟨by simp only[jk,Ô d,Ô g],⟨h.at_.set 11 _,c.cl,c.tab⟩,c.a⟩
def DF (h:iD B V W s)(y:Kn)(j:W.kn.length < 64):(ķ [.ref (B+14),dv (.known y)] s).wp λ v s'=>v=.str (jk W (.known y))/\iD B V (fz W (.known y)) s'/\nv B s s':=by
 have g:su (dv (.known y)) (À 1) none s=.ok (.tup [.str y.1,.int y.2.1,.str y.2.2]) s:=rfl;have b:Cl (s++[.lst [.str y.1,.int y.2.1,.str y.2.2]]):=h.cl.add (by simp[AO.low,Ĺ,AV.low]);have a:=h.app b;have hw:=EC (y:=y) a (Ė _ _) j;obtain⟨v,s',i,f,c,d⟩:=hw.get;have e:ķ [.ref (B+14),dv (.known y)] s=.ok v s':=by
  unfold ķ ef;refine kg (env:=[À (.ref (B+14)),À (dv (.known y)),none,none,none,none]) ((Ć (tF Ml g)).trans ((Ć (tH a)).trans ((Ć ((di (n5 "half" false (by decide +kernel))).trans rfl)).trans ((Ć ((di (xx false rfl)).trans rfl)).trans ?_))));unfold ň;exact Ķ (λ r:R AV=>r.bz λ v k=>RS.rt v k) i
 rw[e];exact⟨f,c,((nv.refl B s).app _).trans d⟩
def kE (x:Rt):AV:=.tup [.str x.1,.int x.2.1]
def kD (x:Rt):Dt:=.tup [.str x.1,.int x.2.1]
theorem B5 (c:vh gs s):∀ (l:Á Rt) (a:Ê AV) (b:Á AV),ſ (gN 0) gm (zM (mv 0) oN (oS (mc (.int 2)))) gs (l.map rE) [a] s b=.ok (b++l.map kE) s
 | [],a,b=>by rw[aj,ſ,Ï c];simp
 | x :: r,a,b=>by
  rw[Õ,qj (e1:=[À (rE x)]) rfl rfl (show zM (mv 0) oN (oS (mc (.int 2))) [À (rE x)] s=.ok (kE x) s from rfl) c,B5 c r];simp
theorem toD_kE:∀ l:Á Rt,(l.map kE).mapM (toD 20 s)=À (l.map kD)
 | []=>by rw[aj,Aq];rfl
 | x :: r=>by rw[Õ,yv,toD_kE r];rfl
theorem Cb:∀ l:Á Rt,ay (l.map kD)<=3
 | []=>by simp[ay]
 | x :: r=>by
  have:=Cb r;rw[Õ];simp only[ay,kD,Dt.dep];lia
theorem Fd (y:Rt):∀ l:Á Rt,((l.map kD).any λ d=>bH d (kD y))=decide (rKey y∈l.map rKey)
 | []=>rfl
 | x :: r=>by
  rw[Õ,ř,Fd y r,Õ];have e:bH (kD x) (kD y)=decide (rKey y=rKey x):=by
   rw[cC];simp only[kD,bH,iu,Ŏ,ĝ,ji,Ŗ];exact⟨λ h=>oQ h.1.symm h.2.symm,λ h=>⟨(Ķ ZQ h).symm,(Ķ ZR h).symm⟩⟩
  rw[e];by_cases a:rKey y=rKey x
  ·rw[ć a,Tp,ć (by rw[a];exact .head _)]
  ·rw[ö a,pV];congr 1;rw[Þ];exact eQ ⟨.inr,λ z=>z.resolve_left a⟩
def Nv {l:Á Rt}(h:ô s i=À (l.map kE)) (y:Rt):zW (kE y) (.ref i) s=.ok (.bl (decide (rKey y∈l.map rKey))) s:=by
 have c:(l.map kE).all RM=true:=by
  rw[ñ];intro v e;obtain⟨x,_,rfl⟩:=ĕ.mp e;rfl
 show(need (toD 20 s (kE y)) λ b=>need (ô s i) λ xs=>need (xs.mapM (toD 20 s)) λ a=>if xs.all RM=true/\ay a<=20 then R.ok (AV.bl (a.any λ d=>bH d b)) s else .bad)=_;rw[show toD 20 s (kE y)=À (kD y) from rfl,å,h,å,toD_kE,å,Ï ⟨c,by have:=Cb l;lia⟩,Fd]
def Ii (h:iD B V W s){y:Rt}{j:Nat}(H:ô s j=À [.str y.1,.int y.2.1,jh y.2.2])(N:W.rs.length < 64):(Ģ [.ref (B+14),.str "rate",.ref j] s).wp λ v s'=>v=.str (jk W (.fA y))/\iD B V (fz W (.fA y)) s'/\nv B s s':=by
 have M:B+17<=s.length:=h.at_.len (by show 0 < 17;lia);have hl:=kq h.at_;have D:Cl (s++[.lst (W.rs.map kE)]):=h.cl.add (by
  simp only[Ġ,Ŷ,AO.low,Ŏ];exact fh λ v J=>by obtain⟨x,_,rfl⟩:=ĕ.mp J;simp[kE,AV.low,Ĺ])
 have k:=h.app D;have d:=û (e:=[.lst (W.rs.map kE)]) H;have o:=zD d;have g:=Mn d;have G:=Nv (Ė s (W.rs.map kE)) y;have r:∀ C,cB (Ø aP (mv 1) (mc (.str "rate"))) [À (.ref (B+14)),À (.str "rate"),À (.ref j),À (.ref (B+8)),C] s=.ok true s:=λ C=>R.wp.eq (by simp only[↓WS,↓WE,↓WV,Lq,ß,UU,Ä,↓Ð,ŋ]);have t:cB (Ø aP (mv 1) (mc (.str "known"))) [À (.ref (B+14)),À (.str "rate"),À (.ref j),À (.ref (B+8)),none] s=.ok false s:=R.wp.eq (by simp only[↓WS,↓WE,↓WV,Lq,ß,UU,Ä,↓Ð,WQ,Ō]);have u:=yg (i:=3) (l:=[À (.ref (B+14)),À (.str "rate"),À (.ref j),none,none]) (pM h.at_ (m4 B W.h) lG);have A:ŷ 4 (ŀ (Ů [("_law_one",none)] (cN (Ø ģ (mv 0) (mc (.str "rates")))) (gN 0) gm (zM (mv 0) oN (oS (mc (.int 2)))))) [À (.ref (B+14)),À (.str "rate"),À (.ref j),À (.ref (B+8)),none] s=.nx [À (.ref (B+14)),À (.str "rate"),À (.ref j),À (.ref (B+8)),À (.ref s.length)] (s++[.lst (W.rs.map kE)]):=by
  apply uF;simp only[↓WS,↓WE,↓WV,Lq,ß,UU,Ä,↓Ð,↓Ĥ (oG h.at_ (kA B W.h)),↓Ĥ (kz hl)];refine⟨vi (by rw[Î];lia),?_⟩;rw[Ĥ (B5 (λ p I=>by rw[ý.mp I];exact hl) W.rs _ _)];exact⟨rfl,rfl⟩
 have w:(Dv (cB (Ø aP (Ø ĺ (mv 2) (mc (.int 0))) (mc (.str "coin")))) (cB (Ø zW (cL (Æ (Ø ĺ (mv 2) (mc (.int 0))) (Æ (Ø ĺ (mv 2) (mc (.int 1))) Ý))) (mv 4)))) [À (.ref (B+14)),À (.str "rate"),À (.ref j),À (.ref (B+8)),À (.ref s.length)] (s++[.lst (W.rs.map kE)])=.ok (decide (Je W y)) (s++[.lst (W.rs.map kE)]):=by
  have q:cL (Æ (Ø ĺ (mv 2) (mc (.int 0))) (Æ (Ø ĺ (mv 2) (mc (.int 1))) Ý)) [À (.ref (B+14)),À (.str "rate"),À (.ref j),À (.ref (B+8)),À (.ref s.length)] (s++[.lst (W.rs.map kE)])=.ok (kE y) (s++[.lst (W.rs.map kE)]):=by
   apply R.wp.eq;simp only[↓WS,↓WE,↓WV,Lq,ß,UU,Ä,↓Ð,↓Ĥ o,↓Ĥ g];rfl
  apply R.wp.eq;by_cases n:y.1="coin"
  ·simp only[↓WS,↓WE,↓WV,Lq,ß,UU,Ä,↓Ð,↓Ĥ o,kN n,ŋ];simp[Je,n]
  ·simp only[↓WS,↓WE,↓WV,Lq,ß,UU,Ä,↓Ð,↓Ĥ o,rP n,Ō,↓Ĥ q,↓Ĥ G];exact decide_eq_decide.mpr ⟨.inr,λ z=>z.resolve_left n⟩
 by_cases f:Je W y
 ·have e:Ģ [.ref (B+14),.str "rate",.ref j] s=.ok (.str "taken") (s++[AO.lst (W.rs.map kE)]):=by
   unfold Ģ aQ;exact kg (env:=[À (.ref (B+14)),À (.str "rate"),À (.ref j),none,none]) ((Ć u).trans ((Ć ((di t).trans rfl)).trans (jU ((iv (r _)).trans ((Ć A).trans (jU ((iv (w.trans (by rw[ć f]))).trans rfl)))))))
  rw[e];have g:fz W (.fA y)=W:=Ï f;rw[g];exact⟨by simp only[jk,Ï f],k,(nv.refl B s).app _⟩
 ·have L:=(di (a:=ň (mc (.str "taken"))) (b:=Ĵ) (w.trans (by rw[ö f]))).trans (show Ĵ _ (s++[AO.lst (W.rs.map kE)])=.nx _ (s++[AO.lst (W.rs.map kE)]) from rfl);have m:=kq k.at_;have E:(pT qP (xM (mv 2))) [À (.ref (B+14)),À (.str "rate"),À (.ref j),À (.ref (B+8)),À (.ref s.length)] (s++[AO.lst (W.rs.map kE)])=.ok (rE y) (s++[AO.lst (W.rs.map kE)]):=by
   apply R.wp.eq;simp only[↓WS,↓WE,↓WV,Lq,ß,UU,Ä,↓Ð,items,d,qP];rfl
  have F:aE (pq "list" aV (Ø ģ (mv 0) (mc (.str "rates"))) (Æ (pT qP (xM (mv 2))) Ý)) [À (.ref (B+14)),À (.str "rate"),À (.ref j),À (.ref (B+8)),À (.ref s.length)] (s++[AO.lst (W.rs.map kE)])=.nx [À (.ref (B+14)),À (.str "rate"),À (.ref j),À (.ref (B+8)),À (.ref s.length)] ((s++[AO.lst (W.rs.map kE)]).set (B+12) (.lst (W.rs.map rE++[rE y]))):=by
   refine k7 (v:=.Ę) (R.wp.eq ?_);simp only[↓WS,↓WE,↓WV,Lq,ß,UU,Ä,↓Ð,↓Ĥ (oG k.at_ (kA B W.h)),qw m,↓Ĥ E,↓Ĥ (Mm.append_at (v:=rE y) m (by rw[Î];lia))]
  have e:Ģ [.ref (B+14),.str "rate",.ref j] s=.ok (.str "") ((s++[AO.lst (W.rs.map kE)]).set (B+12) (.lst (W.rs.map rE++[rE y]))):=by
   unfold Ģ aQ;exact kg (env:=[À (.ref (B+14)),À (.str "rate"),À (.ref j),none,none]) ((Ć u).trans ((Ć ((di t).trans rfl)).trans ((Ć ((iv (r _)).trans ((Ć A).trans ((Ć L).trans F)))).trans rfl)))
  rw[e];have g:fz W (.fA y)={ W with rs:=W.rs++[y] }:=Ô f;have lo:(AO.lst (W.rs.map rE++[rE y])).low (s++[AO.lst (W.rs.map kE)]).length=true:=by
   have:=Gm (s++[AO.lst (W.rs.map kE)]).length (W.rs++[y]);rw[Ł]at this;exact this
  have c:=f' k (i:=12) (o':=.lst (W.rs.map rE++[rE y])) (by lia) rfl (λ _ _=>rfl) lo;rw[g];refine⟨by simp only[jk,Ô f],⟨?_,c.cl,c.tab⟩,((nv.refl B s).app _).trans c.a⟩;have:=k.at_.set 12 (.lst (W.rs.map rE++[rE y]));rw[show(mid B V W).set 12 (.lst (W.rs.map rE++[rE y]))=mid B V { W with rs:=W.rs++[y] } by unfold mid;simp;rfl]at this;exact this
def FL (h:iD B V W s)(y:Rt)(j:W.rs.length < 64):(ķ [.ref (B+14),dv (.fA y)] s).wp λ v s'=>v=.str (jk W (.fA y))/\iD B V (fz W (.fA y)) s'/\nv B s s':=by
 have g:su (dv (.fA y)) (À 1) none s=.ok (.tup [.str y.1,.int y.2.1,jh y.2.2]) s:=rfl;have b:Cl (s++[.lst [.str y.1,.int y.2.1,jh y.2.2]]):=h.cl.add (by simp[AO.low,Ĺ,AV.low,jh]);have a:=h.app b;have hw:=Ii (y:=y) a (Ė _ _) j;obtain⟨v,s',i,f,c,d⟩:=hw.get;have e:ķ [.ref (B+14),dv (.fA y)] s=.ok v s':=by
  unfold ķ ef;refine kg (env:=[À (.ref (B+14)),À (dv (.fA y)),none,none,none,none]) ((Ć (tF Ml g)).trans ((Ć (tH a)).trans ((Ć ((di (n5 "half" false (by decide +kernel))).trans rfl)).trans ((Ć ((di (xx false rfl)).trans rfl)).trans ?_))));unfold ň;exact Ķ (λ r:R AV=>r.bz λ v k=>RS.rt v k) i
 rw[e];exact⟨f,c,((nv.refl B s).app _).trans d⟩
def FO (h:iD B V W s)(a:vu n m W)(c:n < 60)(b:m < 60)(d:De)(hd:d.ok W):(ķ [.ref (B+14),dv d] s).wp λ v s'=>v=.str (jk W d)/\iD B V (fz W d) s'/\nv B s s':=by
 have g:=a.lp;have i:=a.lw;have e:=a.lh;have f:=a.lk;cases d with
 | half d=>exact FK h d
 | known y=>exact DF h y (by lia)
 | fA y=>exact FL h y (by lia)
 | person x=>exact A4 h x (by lia)
 | work x=>exact FN h x (by lia) λ z=>hd (.inr z)
def Cc (g:vu n m W)(d:De):vu (n+1) (m+1) (fz W d):=by
 have o:=g.lp;have p:=g.lw;have k:=g.lh;have l:=g.lk;have c:vu (n+1) (m+1) W:=⟨by lia,by lia,by lia,by lia,g.nd,g.nc⟩
 cases d with
 | half d=>exact⟨c.lp,c.lw,c.lh,c.lk,c.nd,c.nc⟩
 | person x=>exact⟨by show(W.ps++[x]).length<=_;simp;lia,c.lw,c.lh,c.lk,c.nd,c.nc⟩
 | work x=>exact⟨c.lp,by show(W.ws++[x]).length<=_;simp;lia,c.lh,c.lk,c.nd,c.nc⟩
 | known y=>
  by_cases f:ET W y
  ·rw[show fz W (.known y)=W from Ï f];exact c
  ·by_cases h:y.1∈W.kn.map (·.1)
   ·rw[show fz W (.known y)=W from(Ô f).trans (Ï h)];exact c
   ·rw[show fz W (.known y)={ W with kn:=W.kn++[y] } from(Ô f).trans (Ô h)];exact⟨c.lp,c.lw,c.lh,by show(W.kn++[y]).length<=_;simp;lia,c.nd,c.nc⟩
 | fA y=>
  by_cases f:Je W y
  ·rw[show fz W (.fA y)=W from Ï f];exact c
  ·rw[show fz W (.fA y)={ W with rs:=W.rs++[y] } from Ô f];refine⟨c.lp,c.lw,by show(W.rs++[y]).length<=_;simp;lia,c.lk,?_,λ x hx=>?_⟩
   ·show((W.rs++[y]).map rKey).Nodup;rw[Ł];exact f9.mpr ⟨g.nd,by simp,λ a i b j e=>f (.inr (by rw[ý.mp j]at e;rw[<-e];exact i))⟩
   ·rcases cG.mp hx with hx|hx
    ·exact g.nc x hx
    ·rw[ý.mp hx];exact λ z=>f (.inl z)
end
end Ro
namespace Mm
open PySem L2
def qx (h:s[i]? = À (.exc c)) (e:a c=À b):au a (.ref i) s=.ok (.bl b) s:=by
 unfold au;simp only[h,e,å]
def GA (c:a env s=.ok v s)(d:b env s=.ok w s):ę 2 F (Æ a (Æ b Ý)) env s=F [v,w] s:=by
 unfold ę Æ Ý;rw[c,ó,d,ó];rfl
end Mm
namespace Ro
open PySem L2 Mm
def De.nm:De->Prop
 | .half _=>True
 | .known x=>x.1.length<=1000/\x.2.2.length<=1000
 | .fA x=>x.1.length<=1000
 | .person x=>x.length<=1000
 | .work x=>x.length<=1000
section
variable {B:Nat}{V W:Wl}{s:S}
def Gn (b:Nat)(l:Á Rt):Ĺ b ((l.map rK).map (·.2))=true:=fh λ v a=>by
 rw[f7]at a;obtain⟨x,_,rfl⟩:=ĕ.mp a;simp[rK,jh,AV.low,Ĺ]
theorem HY {k:Str × Int}:∀ l:Á Rt,(ũ (l.map rK) (dD k)).isSome=decide (k∈l.map rKey)
 | []=>rfl
 | x :: r=>by
  show(if dD (rKey x)=dD k then À (jh x.2.2) else ũ (r.map rK) (dD k)).isSome=_;by_cases a:rKey x=k
  ·rw[Ï (by rw[a]),ć (by rw[Õ,a];exact .head _)];rfl
  ·rw[Ô λ z=>a (mq z),HY r,Õ];congr 1;rw[Þ];exact eQ ⟨.inr,λ z=>z.resolve_left λ e=>a e.symm⟩
def Mo (k:x.length<=1000)(g:a.length<=1000)(e:m env s=.ok (.str x) s) (f:∀ t,Q (.str t) s):(hX (aT (aH i4 m) (aT (mc (.str a)) nA)) env s).wp Q:=by
 have b:(fB++x).length=x.length:=by rw[gi];show 0+_=_;lia
 have c:(fB++x++a).length=x.length+a.length:=by rw[gi,b]
 have d:i4 (.str x) s=.ok (.str x) s:=Ï (by rw[ą];lia);unfold hX aT mc aH nA;simp only[e,ó,d];rw[Ï (by rw[b,ą];lia)]
 (try simp only[ó])
 rw[Ï (by rw[c,ą];lia),ó,Ï (by rw[c,ą];lia)];exact f _
def zH (h:At B (mid B V W) s) (y:Kn)(g:y.1.length<=1000/\y.2.2.length<=1000)(p:V.kn.length < 64) :
  ŭ [.ref B,.str y.1,.int y.2.1,.str y.2.2] s=if ET V y then .ex ⟨3,[]⟩ s else if y.1∈V.kn.map (·.1) then .ex ⟨2,[]⟩ s else .ok .Ę (s.set (B+4) (.dK (wh (V.kn++[y])))):=by
 unfold ŭ eV;have j:ō 9 "need_work" 1 ı (mv 0) (Æ (mv 1) Ý) [À (.ref B),À (.str y.1),À (.int y.2.1),À (.str y.2.2)] s=ı [.ref B,.str y.1] s:=hY h (by decide +kernel) lG uh;have k:ō 9 "need_person" 1 Ě (mv 0) (Æ (mv 3) Ý) [À (.ref B),À (.str y.1),À (.int y.2.1),À (.str y.2.2)] s=Ě [.ref B,.str y.2.2] s:=hY h (by decide +kernel) lG rfl;by_cases d:y.1∈V.ws
 ·have i:=k7 (j.trans (jS h d));by_cases e:y.2.2∈V.ps
  ·have l:=k7 (k.trans (g_ h e));rw[Ô (by unfold ET;simp[d,e])];have f:cB (Ø jy (mv 1) (aH (Ť 9 "makers") (mv 0))) [À (.ref B),À (.str y.1),À (.int y.2.1),À (.str y.2.2)] s=.ok (decide (y.1∈V.kn.map (·.1))) s:=by
    apply R.wp.eq;simp only[↓WS,↓WE,↓WV,Lq,ß,UU,Ä,↓Ð,↓Ĥ (qq h (qp B V.h)),↓Ĥ (n4 (qk h)),F7]
   by_cases c:y.1∈V.kn.map (·.1)
   ·rw[Ï c];rw[ć c]at f;exact mi (env:=[À (.ref B),À (.str y.1),À (.int y.2.1),À (.str y.2.2)]) ((Ć i).trans ((Ć l).trans (qS ((iv f).trans (wB (Gf (by decide) g.1 uh _ _ (join_one (by decide) λ _=>rfl)))))))
   ·rw[Ô c];rw[ö c]at f;have o:=(di (a:=AD 2 (Æ (hX (aT (mc (.str "the maker of ")) (aT (aH i4 (mv 1)) (aT (mc (.str " is known already")) nA)))) Ý)) (b:=Ĵ) f).trans (show Ĵ _ s=.nx _ s from rfl);have m:i7 (aH (Ť 9 "makers") (mv 0)) (mv 1) (cL (Æ (mv 2) (Æ (mv 3) Ý))) [À (.ref B),À (.str y.1),À (.int y.2.1),À (.str y.2.2)] s=.nx [À (.ref B),À (.str y.1),À (.int y.2.1),À (.str y.2.2)] (s.set (B+4) (.dK (wh (V.kn++[y])))):=by
     have n:cL (Æ (mv 2) (Æ (mv 3) Ý)) [À (.ref B),À (.str y.1),À (.int y.2.1),À (.str y.2.2)] s=.ok (nV y) s:=R.wp.eq (by walk_at "w";rfl);apply uF;simp only[↓WS,↓WE,↓WV,Lq,ß,UU,Ä,↓Ð,↓Ĥ n,↓Ĥ (qq h (qp B V.h)),↓vM (mC (v:=nV y) (x:=y.1) (qk h) (by rw[wh,t_];lia)),HF c]
    exact rk (env:=[À (.ref B),À (.str y.1),À (.int y.2.1),À (.str y.2.2)]) ((Ć i).trans ((Ć l).trans ((Ć o).trans m)))
  ·rw[Ï (.inr e)];exact mi (env:=[À (.ref B),À (.str y.1),À (.int y.2.1),À (.str y.2.2)]) ((Ć i).trans (qS (mQ (k.trans (uj h g.2 e)))))
 ·rw[Ï (.inl d)];exact mi (env:=[À (.ref B),À (.str y.1),À (.int y.2.1),À (.str y.2.2)]) (qS (mQ (j.trans (xU h g.1 d))))
def By (h:At B (mid B V W) s) (y:Rt)(n:y.1.length<=1000)(t:V.rs.length < 64) :
  aB [.ref B,.str y.1,.int y.2.1,jh y.2.2] s=if Je V y then .ex ⟨2,[]⟩ s else .ok .Ę (s.set (B+5) (.dT ((V.rs++[y]).map rK))):=by
 unfold aB gL;by_cases d:y.1="coin"
 ·have g:cB (Ø aP (mv 1) (mc eg)) [À (.ref B),À (.str y.1),À (.int y.2.1),À (jh y.2.2)] s=.ok true s:=R.wp.eq (by unfold eg;walk_at "w";simp[d]);rw[Ï (.inl d)];exact mi (env:=[À (.ref B),À (.str y.1),À (.int y.2.1),À (jh y.2.2)]) (qS ((iv g).trans (wB (by walk_at "w"))))
 ·have g:cB (Ø aP (mv 1) (mc eg)) [À (.ref B),À (.str y.1),À (.int y.2.1),À (jh y.2.2)] s=.ok false s:=R.wp.eq (by unfold eg;walk_at "w";simp[d]);have l:=(di (a:=AD 2 (Æ (mc (.str "a coin is worth a coin")) Ý)) (b:=Ĵ) g).trans (show Ĵ _ s=.nx _ s from rfl);have j:xT (Æ (mv 1) (Æ (mv 2) Ý)) [À (.ref B),À (.str y.1),À (.int y.2.1),À (jh y.2.2)] s=.ok [.str y.1,.int y.2.1] s:=by
   unfold xT;rw[show Æ (mv 1) (Æ (mv 2) Ý) [À (.ref B),À (.str y.1),À (.int y.2.1),À (jh y.2.2)] s=.ok [.str y.1,.int y.2.1] s from rfl,ó,Ï (vi (by simp))]
  have i:pj [.str y.1,.int y.2.1]=À (dD (rKey y)):=rfl;have f:cB (wo (Æ (mv 1) (Æ (mv 2) Ý)) (aH (Ť 9 "rates") (mv 0))) [À (.ref B),À (.str y.1),À (.int y.2.1),À (jh y.2.2)] s=.ok (decide (rKey y∈V.rs.map rKey)) s:=by
   unfold cB wo;rw[j,ó,qq h (mf B V.h),ó];dsimp only;rw[ma h,å,i,å,HY (k:=rKey y)];rfl
  by_cases c:rKey y∈V.rs.map rKey
  ·rw[Ï (.inr c)];rw[ć c]at f;exact mi (env:=[À (.ref B),À (.str y.1),À (.int y.2.1),À (jh y.2.2)]) ((Ć l).trans (qS ((iv f).trans (wB (Mo n (by decide) uh λ _=>rfl)))))
  ·rw[Ô λ z=>z.elim d c];rw[ö c]at f;have r:=(di (a:=AD 2 (Æ (hX (aT (aH i4 (mv 1)) (aT (mc (.str " has a worth of that day already")) nA))) Ý)) (b:=Ĵ) f).trans (show Ĵ _ s=.nx _ s from rfl);have m:uG (aH (Ť 9 "rates") (mv 0)) (Æ (mv 1) (Æ (mv 2) Ý)) (mv 3) [À (.ref B),À (.str y.1),À (.int y.2.1),À (jh y.2.2)] s=.nx [À (.ref B),À (.str y.1),À (.int y.2.1),À (jh y.2.2)] (s.set (B+5) (.dT ((V.rs++[y]).map rK))):=by
    unfold uG;rw[show mv 3 [À (.ref B),À (.str y.1),À (.int y.2.1),À (jh y.2.2)] s=.ok (jh y.2.2) s from rfl,eZ,qq h (mf B V.h),eZ,j,eZ];dsimp only;rw[ma h,i];dsimp only;rw[Ï (by rw[Î];exact ŝ (by lia))];congr 3;unfold jT;rw[Ô ?_,Ł]
    ·rfl
    ·rw[dS];rintro⟨p,o,e⟩;obtain⟨x,q,rfl⟩:=ĕ.mp o;exact c (by rw[<-mq (a:=rKey x) (b:=rKey y) (Ħ e)];exact ĕ.mpr ⟨x,q,rfl⟩)
   exact rk (env:=[À (.ref B),À (.str y.1),À (.int y.2.1),À (jh y.2.2)]) ((Ć l).trans ((Ć r).trans m))
def GB (h:At B (mid B V W) s) (l:((["keeps","rows","hands","makers","rates","half","money","debts"]:Á Str).any λ f=>m == f)=false):ō 9 m 3 F (mv 0) (Æ (Ø ĺ (mv 3) (mc (.int 0))) (Æ (Ø ĺ (mv 3) (mc (.int 1))) (Æ (Ø ĺ (mv 3) (mc (.int 2))) Ý))) [À (.ref B),v,w,À (.tup [a,b,c])] s=F [.ref B,a,b,c] s:=by
 unfold ō;rw[lG,ó,lj (fD h)];dsimp only[need];rw[Ï (Ce B V.h l),show Æ (Ø ĺ (mv 3) (mc (.int 0))) (Æ (Ø ĺ (mv 3) (mc (.int 1))) (Æ (Ø ĺ (mv 3) (mc (.int 2))) Ý)) [À (.ref B),v,w,À (.tup [a,b,c])] s=.ok [a,b,c] s from rfl];rfl
def zp (h:iD B V W s)(t:vu n m V)(C:n < 60)(A:m < 60)(d:De)(hd:d.nm)(u:d.ok V):(jk V d=""/\∃ s',ţ [.ref B,dv d] s=.ok .Ę s'/\iD B (fz V d) W s'/\T3 B s s')∨(∃ c,(c=2/\jk V d="taken"∨c=3/\jk V d="name")/\fz V d=V/\ţ [.ref B,dv d] s=.ex ⟨c,[]⟩ s):=by
 have z:B+17<=s.length:=h.at_.len (by show 0 < 17;lia);have G:=t.lp;have H:=t.lw;have D:=t.lh;have E:=t.lk;cases d with
 | half d=>
  left;refine⟨rfl,s.set B (.ins 9 (vg B d)),?_,?_⟩
  ·have r:su (dv (.half d)) (À 1) none s=.ok (.tup [.int d]) s:=rfl;have k:ō 9 "put_half" 1 aA (mv 0) (Æ (Ø ĺ (mv 3) (mc (.int 0))) Ý) [À (.ref B),À (dv (.half d)),À (.str "half"),À (.tup [.int d])] s=_:=(hY h.at_ (by decide +kernel) lG rfl).trans (z8 h.at_ d);apply R.wp.eq;unfold ţ cg dv at *
   simp only[↓WS,↓WE,↓WV,Lq,ß,UU,Ä,↓Ð,↓Ĥ r,↓Ĥ Ml,WQ,Ō,↓Ĥ k]
  ·have lo:(AO.ins 9 (vg B d)).low s.length=true:=by
    simp[AO.low,vg,Ĺ,AV.low];lia
   have c:=f' h (i:=0) (o':=.ins 9 (vg B d)) (by lia) rfl (λ _ _=>rfl) lo;exact⟨⟨h.at_.set 0 _,c.cl,c.tab⟩,c⟩
 | person x=>
  left;refine⟨rfl,s.set (B+1) (.dK (kT id (λ p=>jh (V.kf p)) (V.ps++[x]))),?_,?_⟩
  ·have r:su (dv (.person x)) (À 1) none s=.ok (.tup [.str x]) s:=rfl;have k:ō 9 "add_person" 1 Ŭ (mv 0) (Æ (Ø ĺ (mv 3) (mc (.int 0))) Ý) [À (.ref B),À (dv (.person x)),À (.str "person"),À (.tup [.str x])] s=_:=(hY h.at_ (by decide +kernel) lG rfl).trans (tm h.at_ u (by lia) rfl);apply R.wp.eq;unfold ţ cg dv at *
   simp only[↓WS,↓WE,↓WV,Lq,ß,UU,Ä,↓Ð,↓Ĥ r,↓Ĥ Ml,WQ,Ō,ŋ,↓Ĥ k]
  ·have lo:(AO.dK (kT id (λ p=>jh (V.kf p)) (V.ps++[x]))).low s.length=true:=om (λ _=>Cw _ _) _;have c:=f' h (i:=1) (o':=.dK (kT id (λ p=>jh (V.kf p)) (V.ps++[x]))) (by lia) rfl (λ _ _=>rfl) lo;exact⟨⟨h.at_.set 1 _,c.cl,c.tab⟩,c⟩
 | work x=>
  left;refine⟨rfl,s.set (B+2) (.dK (kT id (λ _=>.tup []) (V.ws++[x]))),?_,?_⟩
  ·have r:su (dv (.work x)) (À 1) none s=.ok (.tup [.str x]) s:=rfl;have k:ō 9 "add_work" 1 az (mv 0) (Æ (Ø ĺ (mv 3) (mc (.int 0))) Ý) [À (.ref B),À (dv (.work x)),À (.str "work"),À (.tup [.str x])] s=_:=(hY h.at_ (by decide +kernel) lG rfl).trans (xi h.at_ u (by lia));apply R.wp.eq;unfold ţ cg dv at *
   simp only[↓WS,↓WE,↓WV,Lq,ß,UU,Ä,↓Ð,↓Ĥ r,↓Ĥ Ml,WQ,Ō,ŋ,↓Ĥ k]
  ·have lo:(AO.dK (kT id (λ _=>.tup []) (V.ws++[x]))).low s.length=true:=om (λ _=>by simp[AV.low,Ĺ]) _;have c:=f' h (i:=2) (o':=.dK (kT id (λ _=>.tup []) (V.ws++[x]))) (by lia) rfl (λ _ _=>rfl) lo;exact⟨⟨h.at_.set 2 _,c.cl,c.tab⟩,c⟩
 | known y=>
  have l:=zH h.at_ y hd (by lia);have o:lS 2 3 (Æ (Ø ĺ (mv 1) (mc (.int 0))) (Æ (zM (mv 1) (oS (mc (.int 1))) oN) Ý)) [À (.ref B),À (dv (.known y)),none,none] s=.nx [À (.ref B),À (dv (.known y)),À (.str "known"),À (.tup [.str y.1,.int y.2.1,.str y.2.2])] s:=rfl;have k:=GB (F:=ŭ) (m:="make_known") (v:=À (dv (.known y))) (w:=À (.str "known")) (a:=.str y.1) (b:=.int y.2.1) (c:=.str y.2.2) h.at_ (by decide +kernel);have f:∀ (w:Str) (b:Bool),decide (Ü "known"=w)=b->cB (Ø aP (mv 2) (mc (.str w))) [À (.ref B),À (dv (.known y)),À (.str "known"),À (.tup [.str y.1,.int y.2.1,.str y.2.2])] s=.ok b s:=λ w b e=>by subst e;rfl
  have j:(jk V (.known y)=if ET V y then ("name":Str) else if y.1∈V.kn.map (·.1) then ("taken":Str) else ("":Str)):=rfl;by_cases g:ET V y
  ·right;rw[Ï g]at l;refine⟨3,.inr ⟨rfl,by rw[j,Ï g]⟩,Ï g,?_⟩;unfold ţ cg;exact mi (env:=[À (.ref B),À (dv (.known y)),none,none]) ((Ć o).trans ((di (f "person" false (by decide +kernel))).trans ((di (f "work" false (by decide +kernel))).trans ((iv (f "known" true (by decide +kernel))).trans (mQ (k.trans l))))))
  rw[Ô g]at l;by_cases q:y.1∈V.kn.map (·.1)
  ·right;rw[Ï q]at l;refine⟨2,.inl ⟨rfl,by rw[j,Ô g,Ï q]⟩,(Ô g).trans (Ï q),?_⟩;unfold ţ cg;exact mi (env:=[À (.ref B),À (dv (.known y)),none,none]) ((Ć o).trans ((di (f "person" false (by decide +kernel))).trans ((di (f "work" false (by decide +kernel))).trans ((iv (f "known" true (by decide +kernel))).trans (mQ (k.trans l))))))
  ·left;rw[Ô q]at l;refine⟨by rw[j,Ô g,Ô q],s.set (B+4) (.dK (wh (V.kn++[y]))),?_,?_⟩
   ·unfold ţ cg;exact rk (env:=[À (.ref B),À (dv (.known y)),none,none]) ((Ć o).trans ((di (f "person" false (by decide +kernel))).trans ((di (f "work" false (by decide +kernel))).trans ((iv (f "known" true (by decide +kernel))).trans (k7 (k.trans l))))))
   ·have c:=f' h (i:=4) (o':=.dK (wh (V.kn++[y]))) (by lia) rfl (λ _ _=>rfl) (xQ _ _);rw[show fz V (.known y)={ V with kn:=V.kn++[y] } from(Ô g).trans (Ô q)];exact⟨⟨h.at_.set 4 _,c.cl,c.tab⟩,c⟩
 | fA y=>
  have l:=By h.at_ y hd (by lia);have o:lS 2 3 (Æ (Ø ĺ (mv 1) (mc (.int 0))) (Æ (zM (mv 1) (oS (mc (.int 1))) oN) Ý)) [À (.ref B),À (dv (.fA y)),none,none] s=.nx [À (.ref B),À (dv (.fA y)),À (.str "rate"),À (.tup [.str y.1,.int y.2.1,jh y.2.2])] s:=rfl;have k:=GB (F:=aB) (m:="put_rate") (v:=À (dv (.fA y))) (w:=À (.str "rate")) (a:=.str y.1) (b:=.int y.2.1) (c:=jh y.2.2) h.at_ (by decide +kernel);have f:∀ (w:Str) (b:Bool),decide (Ü "rate"=w)=b->cB (Ø aP (mv 2) (mc (.str w))) [À (.ref B),À (dv (.fA y)),À (.str "rate"),À (.tup [.str y.1,.int y.2.1,jh y.2.2])] s=.ok b s:=λ w b e=>by subst e;rfl
  have j:(jk V (.fA y)=if Je V y then ("taken":Str) else ("":Str)):=rfl;by_cases g:Je V y
  ·right;rw[Ï g]at l;refine⟨2,.inl ⟨rfl,by rw[j,Ï g]⟩,Ï g,?_⟩;unfold ţ cg;exact mi (env:=[À (.ref B),À (dv (.fA y)),none,none]) ((Ć o).trans ((di (f "person" false (by decide +kernel))).trans ((di (f "work" false (by decide +kernel))).trans ((di (f "known" false (by decide +kernel))).trans ((iv (f "rate" true (by decide +kernel))).trans (mQ (k.trans l)))))))
  ·left;rw[Ô g]at l;refine⟨by rw[j,Ô g],s.set (B+5) (.dT ((V.rs++[y]).map rK)),?_,?_⟩
   ·unfold ţ cg;exact rk (env:=[À (.ref B),À (dv (.fA y)),none,none]) ((Ć o).trans ((di (f "person" false (by decide +kernel))).trans ((di (f "work" false (by decide +kernel))).trans ((di (f "known" false (by decide +kernel))).trans ((iv (f "rate" true (by decide +kernel))).trans (k7 (k.trans l)))))))
   ·have c:=f' h (i:=5) (o':=.dT ((V.rs++[y]).map rK)) (by lia) rfl (λ _ _=>rfl) (Gn _ _);rw[show fz V (.fA y)={ V with rs:=V.rs++[y] } from Ô g];exact⟨⟨h.at_.set 5 _,c.cl,c.tab⟩,c⟩
end
def Uo:Á AV:=[.str "taken",.str "name",.str "much",.str "rate",.str "left"]
abbrev Wr:Ev:=Nq (Ø ĺ (ŀ (bZ (Æ (mc (.str "taken")) (Æ (mc (.str "name")) (Æ (mc (.str "much")) (Æ (mc (.str "rate")) (Æ (mc (.str "left")) Ý))))))) (mv 0))
def X3:([a,b,c,d,e].length<=sizeLine)=True:=kN (vi (by show 5<=1000;lia))
section
variable {B:Nat}{V W:Wl}{s:S}
def MK {k:Nat}{x:Str}{env:En}(e:Uo[k]? = À (.str x)):Wr (À (.int k) :: env) s=.ok (.str x) s:=by
 apply R.wp.eq;have b:k < 5:=(Ç.mp e).1;have a:kQ Uo (k:Int)=À (.str x):=kR e;simp only[↓WS,↓WE,↓WV,Lq,ß,UU,Ä,↓Ð,X3];show(need (ô (s++[.lst Uo]) s.length) λ xs=>need (kQ xs k) λ v=>R.ok v (s++[.lst Uo])).wp _;rw[Ė,å,a,å,pO];exact⟨⟨f_,by simp[AV.low]⟩,rfl⟩
def gf {j k:Nat}{b:Bool}{xs:Á AV}{env:En}(h:ô s j=À xs)(e:xs[k]? = À (.bl b)):cT (Ø ĺ (mv 1) (mv 0)) (À (.int k) :: À (.ref j) :: env) s=.ok b s:=by
 apply R.wp.eq;have a:kQ xs (k:Int)=À (.bl b):=kR e;walk_at "w";rw[h,å,a,å,pO];exact⟨rfl,rfl⟩
def Ij {j:Nat}{c:Nat}{x:Str}(a:c=2/\x="taken"∨c=3/\x="name")(h:ô s j=À [.bl (ë 2 c),.bl (ë 3 c),.bl (ë 4 c),.bl (ë 5 c),.bl (ë 6 c)]) :
  ſ (gN 0) (cT (Ø ĺ (mv 1) (mv 0))) Wr [] (oA 0 5) [none,À (.ref j)] s []=.ok [.str x] s:=by
 have b:oA 0 5=[.int (0:Nat),.int (1:Nat),.int (2:Nat),.int (3:Nat),.int (4:Nat)]:=rfl;rw[b];rcases a with⟨rfl,rfl⟩|⟨rfl,rfl⟩
 ·rw[qj rfl (gf (k:=0) h rfl) (MK (k:=0) rfl),kZ rfl (gf (k:=1) h rfl),kZ rfl (gf (k:=2) h rfl),kZ rfl (gf (k:=3) h rfl),kZ rfl (gf (k:=4) h rfl),ke];rfl
 ·rw[kZ rfl (gf (k:=0) h rfl),qj rfl (gf (k:=1) h rfl) (MK (k:=1) rfl),kZ rfl (gf (k:=2) h rfl),kZ rfl (gf (k:=3) h rfl),kZ rfl (gf (k:=4) h rfl),ke];rfl
def Fm (c:Cl s){bs:Á Bool}:Cl (s++[.lst (bs.map AV.bl)]):=c.add (by
 simp only[Ġ,Ŷ,AO.low,Ŏ];exact fh λ v a=>by obtain⟨b,_,rfl⟩:=ĕ.mp a;simp[AV.low])
def LO {c:Nat}{x:Str}(f:c=2/\x="taken"∨c=3/\x="name"){i:Nat}(h:s[i]? = À (.exc c)) (cl:Cl s) :
    ((ċ (hE (cB (Ø pF (mv 2) (mc .Ę))) (ň (mc (.str ""))) Ĵ)
 (ċ (ŷ 3 (ŀ (bZ (Æ (aH (au (l6 2)) (mv 2)) (Æ (aH (au (l6 3)) (mv 2)) (Æ (aH (au (l6 4)) (mv 2)) Ý))))))
 (ċ (ŷ 3 (Ø bS (mv 3) (ŀ (bZ (Æ (aH (au (l6 5)) (mv 2)) (Æ (aH (au (l6 6)) (mv 2)) Ý))))))
 (ċ (ŷ 4 (ŀ (Ů [("_law_k",none),("_law_told",À 3)] (ym (Æ (mc (.int 5)) Ý)) (gN 0) (cT (Ø ĺ (mv 1) (mv 0))) Wr)))
 (ċ (hE (Dv (cB (Ø uv (xR i6 (Æ (mv 4) Ý)) (mc (.int 1)))) (Dv (cT (aH (au (zb [1,8,7])) (mv 2))) (pa (cT (aH (au Dq) (mv 2)))))) (ň (mc (.str "many"))) Ĵ)
 (ň (Ø ĺ (mv 4) (mc (.int 0))))))))) [none,none,À (.ref i),none,none,none] s).wp (λ _ _=>False) λ v s'=>v=.str x/\∃ e,s'=s++e/\Cl s':=by
  have g:i < s.length:=(Ç.mp h).1;have a:c < 9:=by rcases f with⟨rfl,_⟩|⟨rfl,_⟩<;>lia
  have q:∀ (j:Nat) (e:S),au (l6 j) (.ref i) (s++e)=.ok (.bl (ë j c)) (s++e):=λ j e=>qx (by rw[Û g];exact h) (Ï a);have r:∀ (j:Nat),au (l6 j) (.ref i) s=.ok (.bl (ë j c)) s:=λ j=>qx h (Ï a);have t:∀ (e:S),au (zb [1,8,7]) (.ref i) (s++e)=.ok (.bl false) (s++e):=λ e=>qx (by rw[Û g];exact h) (by rcases f with⟨rfl,_⟩|⟨rfl,_⟩<;>rfl);have u:∀ (e:S),au Dq (.ref i) (s++e)=.ok (.bl true) (s++e):=λ e=>qx (by rw[Û g];exact h) (Ï a);simp only[↓WS,↓WE,↓WV,Lq,ß,UU,Ä,↓Ð,jv,↓Ĥ (r _),↓Ĥ (q _ _),↓sT];have m:Cl (s++[.lst [.bl (ë 2 c),.bl (ë 3 c),.bl (ë 4 c)]]):=Fm (bs:=[ë 2 c,ë 3 c,ë 4 c]) cl;have n:Cl (s++[.lst [.bl (ë 2 c),.bl (ë 3 c),.bl (ë 4 c)]]++[.lst [.bl (ë 5 c),.bl (ë 6 c)]]):=Fm (bs:=[ë 5 c,ë 6 c]) m;have o:=Fv (st:=s++[.lst [.bl (ë 2 c),.bl (ë 3 c),.bl (ë 4 c)]]++[.lst [.bl (ë 5 c),.bl (ë 6 c)]]) (û (Ė s [.bl (ë 2 c),.bl (ë 3 c),.bl (ë 4 c)])) (Ė _ [.bl (ë 5 c),.bl (ë 6 c)]) (vi (by show 3+2<=1000;lia));rw[Ĥ o];have k:Cl (s++[.lst [.bl (ë 2 c),.bl (ë 3 c),.bl (ë 4 c)]]++[.lst [.bl (ë 5 c),.bl (ë 6 c)]]++[.lst ([.bl (ë 2 c),.bl (ë 3 c),.bl (ë 4 c)]++[.bl (ë 5 c),.bl (ë 6 c)])]):=Fm (bs:=[ë 2 c,ë 3 c,ë 4 c,ë 5 c,ë 6 c]) n;have hl:=Ė (s++[.lst [.bl (ë 2 c),.bl (ë 3 c),.bl (ë 4 c)]]++[.lst [.bl (ë 5 c),.bl (ë 6 c)]]) ([.bl (ë 2 c),.bl (ë 3 c),.bl (ë 4 c)]++[.bl (ë 5 c),.bl (ë 6 c)]);simp only[È]at k hl ⊢;generalize ([AO.lst [.bl (ë 2 c),.bl (ë 3 c),.bl (ë 4 c)]]++([AO.lst [.bl (ë 5 c),.bl (ë 6 c)]]++[AO.lst ([.bl (ë 2 c),.bl (ë 3 c),.bl (ë 4 c)]++[.bl (ë 5 c),.bl (ë 6 c)])]))=d at *
  generalize (s++([AO.lst [.bl (ë 2 c),.bl (ë 3 c),.bl (ë 4 c)]]++[AO.lst [.bl (ë 5 c),.bl (ë 6 c)]])).length=w at *
  refine⟨⟨by decide,by decide⟩,vi (by simp[oA]),?_⟩;rw[show(5:Int).toNat=5 from rfl,Ĥ (Ij f hl)];have l:=Ė (s++d) [.str x];simp only[↓WS,↓WE,↓WV,Lq,ß,UU,Ä,↓Ð,↓Ĥ (oj l),È,↓Ĥ (t _),↓Ĥ (u _),mD,eJ];have p:ô (s++(d++[.lst [.str x]])) (s++d).length=À [.str x]:=by rw[<-È];exact l
  simp only[ē,aJ,C8,Int.natCast_one];rw[Ô (by simp),Ô (by decide),p,å,show kQ [AV.str x] 0=À (.str x) from Lq.2.2.2.2.1 _ _,å,pO];refine⟨rfl,_,rfl,?_⟩;rw[<-È];exact cx (b:=0) k (.one (yd _ _))
def Rv (h:(b (À v :: À w :: ã (n - 2) none) s).wp (λ _ s1=>Q .Ę s1) Q):(dN n b [v,w] s).wp Q:=by rw[WS.2.2.2.2.2.2.2.2.2.2.2.2.2.2.2.2.1];exact h
def Nk (h:(b (À v :: À w :: À x :: ã (n - 3) none) s).wp (λ _ s1=>Q .Ę s1) Q):(dN n b [v,w,x] s).wp Q:=by rw[WS.2.2.2.2.2.2.2.2.2.2.2.2.2.2.2.2.2];exact h
def i9 (e:m env s=.ok v s)(h:(b (env.set i (À v)) s).wp N T):(ċ (ŷ i m) b env s).wp N T:=by
 rw[WS.1,WS.2.1,Ĥ e];exact h
def H0 (e:b env s=.ex c s1)(f:sub c.cls=true)(d:h ((ã n none).set i (À (.ref s1.length))) (s1++[.exc c.cls])=.nx a g) (hr:(r (a.set i none) g).wp N T):(ċ (sx n i sub b h) r env s).wp N T:=by
 rw[WS.1,ED e f,d];exact hr
def H_ (c:b env s=.nx a s1)(hr:(r a s1).wp N T):(ċ (sx n i sub b h) r env s).wp N T:=by
 rw[WS.1,EE c];exact hr
def Bz (h:iD B V W s){n m:Nat}(z:vu n m V)(w:n < 60)(u:m < 60)(d:De)(hd:d.nm)(t:d.ok V):(bN [.ref B,dv d] s).wp λ v s'=>v=.str (jk V d)/\iD B (fz V d) W s'/\nv B s s':=by
 unfold bN iN;rcases zp h z w u d hd t with⟨r,s',b,o,y⟩|⟨c,j,hw,b⟩
 ·have g:aE (ę 2 ţ (Æ (mv 0) (Æ (mv 1) Ý))) [À (.ref B),À (dv d),À .Ę,none,none,none] s=.nx [À (.ref B),À (dv d),À .Ę,none,none,none] s':=k7 ((GA lG uh).trans b);refine Rv (i9 rfl (H_ g ?_));simp only[↓WS,↓WE,↓WV,Lq,ß,UU,Ä,↓Ð,jv];exact⟨by rw[r],o,y.a⟩
 ·have g:aE (ę 2 ţ (Æ (mv 0) (Æ (mv 1) Ý))) [À (.ref B),À (dv d),À .Ę,none,none,none] s=.ex ⟨c,[]⟩ s:=mQ ((GA lG uh).trans b);have q:(λ c=>decide (c < 9) && ë 0 c) (⟨c,[]⟩:AX).cls=true:=by rcases j with⟨rfl,_⟩|⟨rfl,_⟩<;>rfl
  obtain⟨x,l⟩:∃ x,x=jk V d:=⟨_,rfl⟩
  rw[<-l]at j;rw[<-l,hw];have p:Cl (s++[.exc c]):=h.cl.add (by simp[AO.low]);have hw:=LO (x:=x) j (s:=s++[.exc c]) (i:=s.length) (by rw[á (Ì _)];simp) p;refine Rv (i9 rfl (H0 g q rfl ?_));refine RS.wp.mono hw (λ _ _ f=>f.elim) ?_;rintro v s' ⟨rfl,e,rfl,k⟩;refine⟨rfl,?_,?_⟩
  ·rw[È]at k ⊢;exact h.app k
  ·exact((nv.refl B s).app _).app _
end
end Ro
namespace Mm
open PySem L2
mutual
theorem Rp.zero:∀ {d:Dt}{v:AV},Rp b s d v->Rp 0 s d v
 | .Ę,_,h=>by unfold Rp at h ⊢;exact h
 | .bl _,_,h=>by unfold Rp at h;exact h.elim
 | .int _,_,h=>by unfold Rp at h ⊢;exact h
 | .str _,_,h=>by unfold Rp at h ⊢;exact h
 | .tup l,_,h=>by
  unfold Rp at h ⊢;obtain⟨xs,e,hl,h⟩:=h;exact⟨xs,e,hl,bG.zero h⟩
 | .lst l,_,h=>by
  unfold Rp at h ⊢;obtain⟨i,xs,e,_,a,hl,h⟩:=h;exact⟨i,xs,e,ï _,a,hl,bG.zero h⟩
theorem bG.zero:∀ {l:Á Dt}{xs:Á AV},bG b s l xs->bG 0 s l xs
 | [],_,h=>by unfold bG at h ⊢;exact h
 | _ :: _,_,h=>by
  unfold bG at h ⊢;obtain⟨x,r,e,a,c⟩:=h;exact⟨x,r,e,Rp.zero a,bG.zero c⟩
end
end Mm
namespace Ro
open PySem L2 Mm
def Fg (ns:Á Int)(q:Cl a):(df [.sq (ns.map AV.int)] a).wp λ v s'=>∃ c d e,v=.ref d/\s'=a++e/\Dr c d 0 s'/\a.length<=c/\a.length<=d:=by
 obtain⟨b,A⟩:∃ b:Á Int,gQ (ns.map AV.int) none (À 63)=b.map AV.int:=by
  refine⟨gQ ns none (À 63),?_⟩;unfold gQ;rw[Î,<-Qc,<-Qd]
 have w:su (.sq (ns.map AV.int)) none (À 63) a=.ok (.ref a.length) (a++[.lst (b.map AV.int)]):=by
  show R.ok _ (a++[AO.lst (gQ (ns.map AV.int) none (À 63))])=_;rw[A]
 have y:items (.ref a.length) (a++[.lst (b.map AV.int)])=À (b.map AV.int):=Ė _ _;have t:Cl (a++[.lst (b.map AV.int)]):=q.add (by simp[AO.low,low_ints]);have i:Cl (a++[.lst (b.map AV.int)]++[.lst (b.map AV.int)]):=t.add (by simp[AO.low,low_ints]);have n:ô (a++[.lst (b.map AV.int)]++[.lst (b.map AV.int)]) (a++[AO.lst (b.map AV.int)]).length=À (b.map AV.int):=Ė _ _;have p:a.length<=(a++[AO.lst (b.map AV.int)]).length:=by simp
 unfold df kS;simp only[↓WS,↓WE,↓WV,Lq,ß,UU,Ä,↓Ð,↓Ĥ w,y,uB];rw[È]at *
 have B:a.length<=(a++([AO.lst (b.map AV.int)]++[AO.lst (b.map AV.int)])).length:=by simp
 generalize ([AO.lst (b.map AV.int)]++[AO.lst (b.map AV.int)])=g at *
 generalize (a++[AO.lst (b.map AV.int)]).length=E at *
 have z:aP (.ref E) (.ref (a++g).length) (a++g++[.lst []])=.ok (.bl (b.map AV.int).isEmpty) (a++g++[.lst []]):=by
  unfold aP;rw[FT (xs:=b.map AV.int) (û n) (Ė _ _) (v8 b)];rfl
 have l:∀ (s:S) (k:Nat) (x:Ê AV),fF [((mc (.str "cells")),(mv 1)),((mc (.str "turn")),(mc (.int 0)))] [x,À (.ref k)] s=.ok (.ref s.length) (s++[.dK (vZ k 0)]):=by
  intro s k x;unfold fF CN CN CN;simp only[mc,mv,ó,Lq,pk,fg,bQ,ck,å];rw[Ï (by show(2:Nat)<=15;lia)];congr 1
 simp only[↓WS,↓WE,↓WV,Lq,ß,UU,Ä,↓Ð,↓Ĥ z,f_];have h:∀ (k:Nat) (e:S) (f:Á Int),ô (a++e) k=À (f.map AV.int)->f≠[]->Cl (a++e)->a.length<=k->∃ c d u,AV.ref (a++e).length=.ref d/\a++e++[.dK (vZ k 0)]=a++u/\Dr c d 0 (a++e++[.dK (vZ k 0)])/\a.length<=c/\a.length<=d:=λ k e f hl C cl D=>by
  have F:=(Ç.mp (ď hl)).1;refine⟨k,_,_,rfl,by rw[È],⟨⟨0,f,by rw[á (Ì _)];simp,ď (û hl),C,by lia,by lia⟩,cl.add ?_⟩,D,by simp⟩;simp only[Ġ,Ŷ,AO.low,vZ,Õ,aj,Ĺ,AV.low,Ŏ,Ŗ];simp;simp at F;lia
 cases b with
 | nil=>
  simp only[aj,List.isEmpty_nil,eO,↓Ĥ (l _ _ _)];have o:=Ė (a++g) [.int 7];have j:Cl (a++g++[.lst [.int 7]]):=i.add (by simp[AO.low,Ĺ,AV.low]);rw[È]at o j ⊢;exact h _ _ [7] o (by simp) j B
 | cons m r=>
  simp only[Õ,List.isEmpty_cons,Ŧ,eG,↓Ĥ (l _ _ _)];exact h _ _ (m :: r) n (by simp) i p
theorem Cd:∀ (l:Á α)(m:Nat)(h:m < l.length),(l[m] :: l.eraseIdx m).Perm l
 | [],_,h=>absurd h (by simp)
 | _ :: _,0,_=>List.Perm.refl _
 | a :: r,m+1,h=>((List.Perm.swap ..).trans (List.Perm.cons a (Cd r m (by simpa using h))):(r[m]'(by simpa using h) :: a :: r.eraseIdx m).Perm (a :: r))
def KI:([]++xW).Nodup:=by decide +kernel
def GY (D:Dr c d n s)(G:n<=900000000)(k0:0<=k)(k1:k<=20):(dg [.ref d,.int k] s).wp λ v s'=>∃ (j:Nat) (a:Á Str),v=.ref j/\s.length<=j/\ô s' j=À (a.map AV.str)/\(a.length:Int)=k/\(∀ z∈a,z∈xW)/\a.Nodup/\Dr c d (n+20) s'/\Gk c d s s':=by
 have J:=D.Kb;have ld:=D.Kc;unfold dg kW;simp only[↓WS,↓WE,↓WV,Lq,ß,UU,Ä,↓Ð,↓sT,↓Ĥ (LF _),show ∀ s:S,(km "str" (.str "b aa zebra c quartzes ab m knows d mm likes z ba abcdefgh y zz e x f g hh jj kk pave") s).isSome=true from λ _=>rfl];refine⟨⟨by lia,by lia⟩,vi (by simp[oA];lia),?_⟩;refine mL (λ xs e f st=>∃ (b a:Á Str) (x:Ê AV),e=a.map AV.str/\ô st s.length=À (b.map AV.str)/\(xs.length:Int)+a.length=k/\b.length+a.length=24/\(∀ z∈b,z∈xW)/\(∀ z∈a,z∈xW)/\(a++b).Nodup/\f=[x,À (.ref s.length),À (.ref d)]/\Dr c d (n+a.length) st/\Gk c d s st) ?_ ?_ ?_ _ _ _ _ ⟨xW,[],none,rfl,Ė _ _,by simp[oA];lia,by rw[G5];rfl,λ _ h=>h,(λ _ h=>nomatch h),KI,rfl,D.app (D.cl.add (by simp[AO.low,aU])),Gk.app c d s _⟩
 ·rintro _ _ _ st _ p E;cases E
 ·rintro e f st ⟨b,a,x,rfl,o,g,F,q,t,nd,rfl,A,B⟩;refine⟨st.length,a,rfl,B.len,Ė _ _,by simpa using g,t,(f9.mp nd).1,?_,B.trans (Gk.app c d st _)⟩;have g:((0:Nat):Int)+a.length=k:=g;exact(A.app (A.cl.add (by simp[AO.low,aU]))).mono (by lia)
 ·rintro v r e f st ⟨b,a,x,rfl,o,g,F,q,t,nd,rfl,A,B⟩;have g:((r.length+1:Nat):Int)+a.length=k:=g;simp only[↓WS,↓WE,↓WV,Lq,ß,UU,Ä,↓Ð,qw o,↓Ĥ (oj o),Î];refine(take1 A).mono ?_;rintro _ i ⟨j,rfl,H,I,D2,C⟩;have u:=C.gk.lst (n:=0) (by lia) (by lia) o;obtain⟨m,rfl⟩:∃ m:Nat,j=m:=⟨j.toNat,by lia⟩
  have l:m < b.length:=by lia
  have w:zX (.ref s.length) [.int m] i=.ok (.str b[m]) (i.set s.length (.lst ((b.eraseIdx m).map AV.str))):=by
   show(need (ô i s.length) λ xs=>if 0<=(m:Int)/\(m:Int) < xs.length then need xs[(m:Int).toNat]? λ y=>R.ok y (i.set s.length (.lst (xs.eraseIdx (m:Int).toNat))) else .bad)=_;rw[u,å,Ï ⟨by lia,by rw[Î];lia⟩];show(need (b.map AV.str)[m]? λ y=>R.ok y (i.set s.length (.lst ((b.map AV.str).eraseIdx m))))=_;rw[è,Å l];show R.ok (AV.str b[m]) _=_;rw[FV]
  rw[Ĥ w];refine⟨b.eraseIdx m,a++[b[m]],_,by simp,Cz u,by simp;lia,?_,λ z hz=>q z (List.mem_of_mem_eraseIdx hz),λ z hz=>?_,?_,rfl,?_,(B.trans C.gk).set (Ì _)⟩
  ·rw[List.length_eraseIdx_of_lt l];simp;lia
  ·rcases cG.mp hz with hz|hz
   ·exact t z hz
   ·rw[ý.mp hz];exact q _ (dV l)
  ·rw[È];refine(List.Perm.append_left a ?_).nodup nd;exact(Cd b m l).symm
  ·exact(D2.mono (by simp;lia)).set (by lia) (by lia) (aU _ _)
def G6:∀ z∈xW,z.length<=1000:=by
 have:(xW.all λ z=>decide (z.length<=1000))=true:=by decide +kernel
 exact λ z a=>Ħ (ñ.mp this z a)
def z0 {c d n:Nat}{s:S}(D:Dr c d n s)(t:n<=900001000){xs:Á AV}{m:Int}(r:m=xs.length)(l:0 < m)(o:m<=10){P:AV->Prop}(g:∀ v∈xs,P v/\∀ b,v.low b=true) :
  (ě [.ref d,.int m] (s++[.lst xs])).wp λ v a=>∃ b,ĺ (.ref s.length) v a=.ok b a/\P b/\b.low s.length=true/\(a.take s.length).all (AO.low s.length)=true/\Dr c d (n+1) (a.take s.length)/\Kp c d s (a.take s.length):=by
 have q:∀ b,Ĺ b xs=true:=λ b=>fh λ v f=>(g v f).2 b;have A:=D.app (e:=[.lst xs]) (D.cl.add (by simp[AO.low,q]));refine(take1 A).mono ?_;rintro _ a ⟨j,rfl,p,u,D2,B⟩;obtain⟨v,f,k⟩:=Ge (s:=a) (i:=s.length) (j:=j) (B.gk.lst (n:=0) (by have:=D.Kb;lia) (by have:=D.Kc;lia) (Ė s _)) p (by lia);obtain⟨C,E,h⟩:=((Gk.app c d s _).trans B.gk).cut D D2;exact⟨v,k,(g v f).1,(g v f).2 _,h,C,E⟩
def My {c d n i:Nat}{s:S}(D:Dr c d n s)(q:n<=900000000){l:Á Str}(hl:ô s i=À (l.map AV.str)) (h0:0 < l.length)(p:l.length<=1000)(k:i≠c)(e:i≠d):(fS [.ref d,.ref i] s).wp λ v s'=>∃ x,v=.str x/\x∈l/\Dr c d (n+1) s'/\Kp c d s s':=by
 unfold fS qe;simp only[↓WS,↓WE,↓WV,Lq,ß,UU,Ä,↓Ð,↓Ĥ (oj hl),Î];refine(take1 D).mono ?_;rintro _ a ⟨j,rfl,m,o,B,A⟩;obtain⟨v,g,f⟩:=Ge (s:=a) (i:=i) (j:=j) (A.gk.lst (n:=0) k e hl) m (by rw[Î];exact o);obtain⟨x,h,rfl⟩:=ĕ.mp g;have b:(need (ô a i) λ xs=>need (kQ xs j) λ v=>R.ok v a)=.ok (.str x) a:=f;simp only[↓WS,↓WE,↓WV,Lq,ß,UU,Ä,↓Ð,↓Ĥ b];exact⟨x,rfl,h,B,A⟩
def LR (i j k:Nat)(a b c:Ev)(env:En)(s:S)(N:En->S->Prop)(T:AV->S->Prop):(Ac i j k (Æ a (Æ b (Æ c Ý))) env s).wp N T=(a env s).wp λ v s1=>(b env s1).wp λ w d=>(c env d).wp λ z e=>N (((env.set i (À v)).set j (À w)).set k (À z)) e:=by
 unfold Ac Æ Ý;cases a env s with
 | ok v s1=>
  simp only[ó,pO];cases b env s1 with
  | ok w d=>
   simp only[ó,pO];cases c env d<;>rfl
  | ex c s1=>rfl
  | bad=>rfl
 | ex c s1=>rfl
 | bad=>rfl
def A2 {c d n:Nat}{s:S}(D:Dr c d n s)(i:n<=800000000):(ah [.ref d] s).wp λ v s'=>∃ k:Int,v=.int k/\Dr c d (n+4) s'/\Kp c d s s':=by
 unfold ah iM;walk_at "w";refine(take1 D).mono ?_;rintro _ j ⟨a,rfl,_,_,E,A⟩;refine(take1 E).mono ?_;rintro _ l ⟨b,rfl,_,_,D2,B⟩;refine(take1 D2).mono ?_;rintro _ m ⟨e,rfl,_,_,F,C⟩;rw[<-A.len,<-B.len,<-C.len];refine(z0 F (by lia) (P:=λ v=>∃ b,v=.int b) rfl (by simp) (by simp) ?_).mono ?_
 ·intro v f;simp only[Þ,ÿ,aw]at f;rcases f with rfl|rfl|rfl<;>exact⟨⟨_,rfl⟩,λ b=>by simp[AV.low]⟩
 rintro _ o ⟨v,h,⟨k,rfl⟩,lo,g,G,H⟩;simp only[↓WS,↓WE,↓WV,Lq,ß,UU,Ä,↓Ð,↓Ĥ h,g,lo];exact⟨k,rfl,G.mono (by lia),((A.trans B).trans C).trans H⟩
def Il {c d n:Nat}{s:S}(D:Dr c d n s)(r:n<=800000000):(aO [.ref d] s).wp λ v s'=>∃ q:Int × Int,v=jh q/\Dr c d (n+4) s'/\Kp c d s s':=by
 unfold aO fR;walk_at "w";refine(take1 D).mono ?_;rintro _ t ⟨a,rfl,j,k,A,C⟩;walk_at "w";refine(z0 A (by lia) (P:=λ v=>∃ b:Int,v=.int b/\3<=b/\b<=1000) rfl (by simp) (by simp) ?_).mono ?_
 ·intro v f;simp only[Þ,ÿ,aw]at f;rcases f with rfl|rfl<;>exact⟨⟨_,rfl,by lia,by lia⟩,λ b=>by simp[AV.low]⟩
 rintro _ u ⟨v,h,⟨b,rfl,l,m⟩,lo,g,D2,E⟩;simp only[↓WS,↓WE,↓WV,Lq,ß,UU,Ä,↓Ð,↓Ĥ h,g,lo];refine(take1 D2 (by lia) (MJ (by lia) (by lia))).mono ?_;rintro _ i ⟨e,rfl,o,p,B,F⟩;simp only[↓WS,↓WE,↓WV,Lq,ß,UU,Ä,↓Ð,↓Ĥ (Gp i (a:=1+a) (b:=1+e) (by lia) (by lia) (by lia) (by lia))];exact⟨((dO (1+a) (1+e)).num,(dO (1+a) (1+e)).den),rfl,B.mono (by lia),(C.trans E).trans F⟩
def DC {x:Str}(h:x="coin"∨x="eur"∨x="usd"):x.length<=1000:=by
 rcases h with rfl|rfl|rfl<;>decide +kernel
def JI {c d n i:Nat}{s:S}(D:Dr c d n s)(N:n<=700000000){l:Á Str}(hl:ô s i=À (l.map AV.str)) (h0:0 < l.length)(m:l.length<=1000)(o:∀ x∈l,x.length<=1000)(j:i≠c)(a:i≠d){w:Str}(hw:w="known"∨w="rate"∨w="half"):(eF [.ref d,.ref i,.str w] s).wp λ v s'=>∃ g,v=dv g/\g.nm/\(∀ W,g.ok W)/\Dr c d (n+15) s'/\Kp c d s s':=by
 unfold eF l7;simp only[↓WS,↓WE,↓WV,Lq,ß,UU,Ä,↓Ð,↓LR];refine(My D (by lia) hl h0 m j a).mono ?_;rintro _ Q ⟨x,rfl,t,G,E⟩;refine(My G (by lia) (E.gk.lst (n:=0) j a hl) h0 m j a).mono ?_;rintro _ T ⟨y,rfl,u,D2,J⟩;refine(A2 D2 (by lia)).mono ?_;rintro _ U ⟨k,rfl,A,L⟩;have K:=(E.trans J).trans L;rcases hw with rfl|rfl|rfl
 ·simp only[↓WS,↓WE,↓WV,Lq,ß,UU,Ä,↓Ð,ŋ];exact⟨vi (by simp),.known (x,k,y),rfl,⟨o x t,o y u⟩,λ _=>trivial,A.mono (by lia),K⟩
 ·simp only[↓WS,↓WE,↓WV,Lq,ß,UU,Ä,↓Ð,WQ,Ō,ŋ,X3];refine(z0 A (by lia) (P:=λ v=>∃ b:Str,v=.str b/\(b="coin"∨b="eur"∨b="usd")) rfl (by simp) (by simp) ?_).mono ?_
  ·intro v e;simp only[Þ,ÿ,aw]at e;rcases e with rfl|rfl|rfl|rfl|rfl<;>exact⟨⟨_,rfl,by simp⟩,λ b=>by simp[AV.low]⟩
  rintro _ z ⟨v,h,⟨b,rfl,p⟩,lo,f,B,C⟩;simp only[↓WS,↓WE,↓WV,Lq,ß,UU,Ä,↓Ð,↓Ĥ h,f,lo];refine(Il B (by lia)).mono ?_;rintro _ Y ⟨q,rfl,I,M⟩;exact⟨vi (by simp),.fA (b,k,q),rfl,DC p,λ _=>trivial,I.mono (by lia),(K.trans C).trans M⟩
 ·simp only[↓WS,↓WE,↓WV,Lq,ß,UU,Ä,↓Ð,WQ,Ō];refine(take1 A).mono ?_;rintro _ X ⟨r,rfl,r0,O,H,F⟩;walk_at "w";refine⟨vi (by simp),?_⟩;rw[<-F.len];refine(z0 H (by lia) (P:=λ v=>∃ b,v=.int b) rfl (by simp) (by simp) ?_).mono ?_
  ·intro v e;simp only[Þ,ÿ,aw]at e;rcases e with rfl|rfl|rfl|rfl<;>exact⟨⟨_,rfl⟩,λ b=>by simp[AV.low]⟩
  rintro _ z ⟨v,h,⟨b,rfl⟩,lo,f,B,C⟩;simp only[↓WS,↓WE,↓WV,Lq,ß,UU,Ä,↓Ð,↓Ĥ h,f,lo];exact⟨.half b,rfl,trivial,λ _=>trivial,B.mono (by lia),(K.trans F).trans C⟩
def Nw:qt c (.ref s.length) (s++AO.ins c fs :: t)=À (s.length,fs):=lj (by rw[á (Ì _)];simp)
def Pj:(s++a :: t).set s.length o=s++o :: t:=by rw[gB _ _ (Ì _)];simp
def jt (hl:fs.length < 1000)(e:m (À (.ref s.length) :: env) (s++.ins c fs :: t)=.ok v (s++.ins c fs :: t')):i8 c f (mv 0) m (À (.ref s.length) :: env) (s++.ins c fs :: t)=.nx (À (.ref s.length) :: env) (s++.ins c (wA f v fs) :: t'):=by
 unfold i8;simp only[e,eZ,lG,Nw];rw[Ï hl,Pj]
def Fz:CA env (s++a :: t)=.ok (.ref (s.length+(t.length+1))) (s++a :: (t++[.dK []])):=by
 unfold CA;rw[ă,ē,È];rfl
def MH:DZ env (s++a :: t)=.ok (.ref (s.length+(t.length+1))) (s++a :: (t++[.dT []])):=by
 unfold DZ;rw[ă,ē,È];rfl
def Mp:ŀ (bZ Ý) env (s++a :: t)=.ok (.ref (s.length+(t.length+1))) (s++a :: (t++[.lst []])):=by
 apply R.wp.eq;simp only[↓WS,↓WE,↓WV,Lq,ß,UU,Ä,↓Ð,ă,ē,È,dU]
def JZ (s:S):ŵ [.ref s.length] (s++[.ins 9 []])=.ok .Ę (s++[.ins 9 (vg s.length 182),.dK [],.dK [],.dT [],.dK [],.dT [],.lst [],.lst []]):=by
 unfold ŵ gF;refine rk (env:=[À (.ref s.length)]) (e:=[À (.ref s.length)]) ?_;rw[Ć (jt (by show 0 < 1000;lia) Fz),Ć (jt (by show 1 < 1000;lia) Fz),Ć (jt (by show 2 < 1000;lia) MH),Ć (jt (by show 3 < 1000;lia) Fz),Ć (jt (by show 4 < 1000;lia) MH),
  Ć (jt (m:=mc bf) (v:=.int 182) (by show 5 < 1000;lia) rfl),Ć (jt (by show 6 < 1000;lia) Mp),jt (by show 7 < 1000;lia) Mp]
 rfl
def Kd (s:S)(env:En):oo 9 ŵ env s=.ok (.ref s.length) (s++[.ins 9 (vg s.length 182),.dK [],.dK [],.dT [],.dK [],.dT [],.lst [],.lst []]):=by
 unfold oo;rw[JZ];rfl
def Ik (s:S)(e:s.length=B+8):bY [] s=.ok (.ref (B+14)) (s++[.lst [],.dK [],.lst [],.dK [],.lst [],.dK [],.dK (vj B 182),.lst [],.lst []]):=by
 have f:fF [((mc (.str "people")),(ŀ (bZ Ý))),((mc (.str "works")),CA),((mc (.str "hands")),(ŀ (bZ Ý))),((mc (.str "known")),CA),((mc (.str "rates")),(ŀ (bZ Ý))),((mc (.str "keeps")),CA),((mc (.str "half")),(mc (.int 182)))] [none] s=.ok (.ref (B+14)) (s++[.lst [],.dK [],.lst [],.dK [],.lst [],.dK [],.dK [(.inr "people",.ref (B+8)),(.inr "works",.ref (B+9)),(.inr "hands",.ref (B+10)),(.inr "known",.ref (B+11)),(.inr "rates",.ref (B+12)),(.inr "keeps",.ref (B+13)),(.inr "half",.int 182)]]):=by
  have i:∀ (t:S) (env:En),ŀ (bZ Ý) env t=.ok (.ref t.length) (t++[.lst []]):=λ t env=>by
   apply R.wp.eq;walk_at "w"
  have ld:∀ (t:S) (env:En),CA env t=.ok (.ref t.length) (t++[.dK []]):=λ t env=>rfl;unfold fF;simp only[CN,mc,ó,i,ld,pk,fg,bQ,ck,å,È,dU,eL,ă,ē,aJ,e];rw[Ï (by show(7:Nat)<=15;lia)];rfl
 have g:∀ (t:S) (o:AO),(s++(t++[o]))[s.length+t.length]? = À o:=λ t o=>by
  rw[á (by lia),á (by lia)];rw[show s.length+t.length - s.length - t.length=0 by lia];rfl
 have rs_eq:∀ {r:RS}{a:AV}{t:S},r.wp (λ _ _=>False) (λ v s'=>v=a/\s'=t)->r=.rt a t:=λ {r a t} h=>by
  cases r with
  | rt v s'=>obtain⟨rfl,rfl⟩:=h;rfl
  | _=>exact h.elim
 unfold bY kX;refine kg (env:=[none]) (rs_eq ?_);simp only[↓WS,↓WE,↓WV,Lq,ß,UU,Ä,↓Ð,↓Ĥ f];have A:∀ (t:S),(s++t).length=s.length+t.length:=λ t=>ă;have d:∀ (t:S) (c:Á (Key × AV)),jN (s++[.lst [],.dK [],.lst [],.dK [],.lst [],.dK [],.dK c]++t) (B+14)=À c:=λ t c=>jO (by
  rw[È,á (by lia),show B+14 - s.length=6 by lia];rfl)
 have st:∀ (t:S) (a b:AO),(s++[.lst [],.dK [],.lst [],.dK [],.lst [],.dK [],a]++t).set (B+14) b=s++[.lst [],.dK [],.lst [],.dK [],.lst [],.dK [],b]++t:=λ t a b=>by
  rw[È,È,gB _ _ (by lia),show B+14 - s.length=6 by lia];rfl
 rw[uZ];unfold tX;simp only[↓WS,↓WE,↓WV,Lq,ß,UU,Ä,↓Ð,aW];rw[È,vM (mC (d _ _) (by show 7 < 1000;lia)),st];simp only[↓WS,↓WE,↓WV,Lq,ß,UU,Ä,↓Ð,↓uZ,aW];rw[vM (mC (d _ _) (by
  refine bb (HD _ _ _) (by show 7+1 < 1000;lia))),st]
 walk_at "w";simp only[ă,ē,aJ,e];rw[È];rfl
structure LS (c d n B nl:Nat)(names:Á Str)(V W:Wl)(s:S):Prop where
 dr:Dr c d n s
 at_:At B (mid B V W) s
 t0:s[0]? = À (.tab 20 xN)/\s[1]? = À (.tab 21 xO)
 c0:1 < c/\c < B
 d0:1 < d/\d < B
 nm:ô s nl=À (names.map AV.str)
 n0:1 < nl/\nl < B/\nl≠c/\nl≠d
structure Wk (c d B:Nat)(s s':S):Prop where
 len:s.length<=s'.length
 get:∀ i,i < s.length->i≠c->i≠d->i < B∨B+17<=i->s'[i]? = s[i]?
def Wk.refl (c d B:Nat)(s:S):Wk c d B s s:=⟨Ì _,λ _ _ _ _ _=>rfl⟩
theorem Wk.trans (h:Wk c d B s s')(k:Wk c d B s' a):Wk c d B s a:=⟨Đ h.len k.len,λ i g b e f=>(k.get i (é g h.len) b e f).trans (h.get i g b e f)⟩
def Kp.wk (h:Kp c d s s')(B:Nat):Wk c d B s s':=⟨by rw[h.len];exact Ì _,λ i _ a b _=>h.get i a b⟩
def nv.wk (h:nv B s s')(c d:Nat):Wk c d B s s':=⟨h.len,λ i a _ _ k=>h.get i a k⟩
section
variable {c d n B nl:Nat}{names:Á Str}{V W:Wl}{s s':S}
def LS.T7 (h:LS c d n B nl names V W s):iD B V W s:=⟨h.at_,h.dr.cl,dS.mpr ⟨_,ò h.t0.1,by simp[tabAt]⟩,dS.mpr ⟨_,ò h.t0.2,by simp[tabAt]⟩⟩
theorem LS.len (h:LS c d n B nl names V W s):B+17<=s.length:=h.at_.len (by show 0 < 17;lia)
def LS.kp (h:LS c d n B nl names V W s)(k:Kp c d s s')(D:Dr c d m s'):LS c d m B nl names V W s':=by
 have b:=h.c0;have d0:=h.d0;have a:=h.n0;exact⟨D,h.at_.keep λ i e _=>k.get i (by lia) (by lia),⟨(k.get 0 (by lia) (by lia)).trans h.t0.1,(k.get 1 (by lia) (by lia)).trans h.t0.2⟩,b,d0,k.gk.lst (n:=0) a.2.2.1 a.2.2.2 h.nm,a⟩
theorem LS.app (h:LS c d n B nl names V W s)(k:Cl (s++e)):LS c d n B nl names V W (s++e):=by
 have:=h.len;exact⟨h.dr.app k,h.at_.app e,⟨by rw[Û (by lia)];exact h.t0.1,by rw[Û (by lia)];exact h.t0.2⟩,h.c0,h.d0,û h.nm,h.n0⟩
def LS.T8 (h:LS c d n B nl names V W s)(k:nv B s s')(b:iD B A C s'):LS c d n B nl names A C s':=by
 have e:=h.c0;have d0:=h.d0;have f:=h.n0;have hl:=h.len;have g:∀ i,i < B->s'[i]? = s[i]?:=λ i o=>k.get i (by lia) (.inl o);obtain⟨⟨t,a,j,l,m⟩,_⟩:=h.dr;exact⟨⟨⟨t,a,by rw[g d d0.2];exact j,by rw[g c e.2];exact l,m⟩,b.cl⟩,b.at_,⟨by rw[g 0 (by lia)];exact h.t0.1,by rw[g 1 (by lia)];exact h.t0.2⟩,e,d0,bI (by rw[g nl f.2.1];exact ď h.nm),f⟩
def Cy (e:B+17<=b):∀ o∈mid B V W,o.low b=true:=by
 intro o a;unfold mid at a;simp only[Þ,ÿ,aw]at a;rcases a with rfl|rfl|rfl|rfl|rfl|rfl|rfl|rfl|rfl|rfl|rfl|rfl|rfl|rfl|rfl|rfl|rfl
 ·simp[AO.low,vg,Ĺ,AV.low];lia
 ·exact om (λ _=>Cw _ _) _
 ·exact om (λ _=>by simp[AV.low,Ĺ]) _
 ·simp[AO.low,Ĺ]
 ·exact xQ _ _
 ·exact Gn _ _
 ·simp[AO.low,Ĺ]
 ·simp[AO.low,Ĺ]
 ·exact aU _ _
 ·exact om (λ _=>by simp[AV.low,Ĺ]) _
 ·simp[AO.low,Ĺ]
 ·exact xQ _ _
 ·exact Gm _ _
 ·simp[AO.low,Ĺ,Wl.kw]
 ·simp[AO.low,vj,Ĺ,AV.low];lia
 ·simp[AO.low,Ĺ]
 ·simp[AO.low,Ĺ]
def LS.cut (h:LS c d n B nl names V W s)(w:Wk c d B s s')(h':LS c d m B nl names A C s'):LS c d m B nl names A C (s'.take s.length)/\(s'.take s.length).all (AO.low s.length)=true:=by
 have v:=h.c0;have d0:=h.d0;have E:=h.n0;have hl:=h.len;have u:=h.dr.Kb;have ld:=h.dr.Kc;have j:(s'.take s.length).length=s.length:=by rw[ū];have:=w.len;lia
 have f:∀ i,i < s.length->(s'.take s.length)[i]? = s'[i]?:=λ i g=>ai g;obtain⟨⟨t,b,p,r,z⟩,y⟩:=h'.dr;have all:(s'.take s.length).all (AO.low s.length)=true:=by
  rw[ñ];intro o D;obtain⟨i,g,e⟩:=oO.mp D;rw[j]at g;have a:(s'.take s.length)[i]? = À o:=by rw[Å (by rw[j];exact g)];rw[e]
  rw[f i g]at a;by_cases k:i=c
  ·subst k;rw[r]at a;cases a;exact low_ints _ _
  by_cases l:i=d
  ·subst l;rw[p]at a;cases a;simp[AO.low,vZ,Ĺ,AV.low,u]
  by_cases x:i < B∨B+17<=i
  ·rw[w.get i g k l x]at a;exact ñ.mp (show s.all (AO.low s.length)=true from h.dr.cl) o (ò a)
  ·have q:=h'.at_.get (i - B) (by show i - B < 17;lia);rw[show B+(i - B)=i by lia,a]at q;exact Cy hl o (ò q.symm)
 refine⟨⟨⟨⟨t,b,by rw[f d ld];exact p,by rw[f c u];exact r,z⟩,by unfold Cl;rw[j];exact all⟩,h'.at_.keep λ i _ g=>f i (by have:(mid B A C).length=17:=rfl;lia),⟨by rw[f 0 (by lia)];exact h'.t0.1,by rw[f 1 (by lia)];exact h'.t0.2⟩,v,d0,bI (by rw[f nl (by lia)];exact ď h'.nm),E⟩,all⟩
end
structure Hd (r:R AV)(Q:AV->S->Prop):Prop where
 run:r.wp Q
def Hd.to (h:Hd r P)(k:∀ v s,P v s->Q v s):r.wp Q:=h.run.mono k
theorem gn:∀ {l:Á α},(∀ a∈l,(f a).dep<=k)->ay (l.map f)<=k
 | [],_=>by simp[ay]
 | a :: r,h=>by
  rw[Õ];have d:=h a (.head _);have e:=gn (l:=r) λ b c=>h b (.tail _ c);simp only[ay];lia
def HZ (V:Wl):(told V).dep < 9:=by
 have a:ay ((Ĕ V.ps).map Dt.str)<=2:=gn λ _ _=>by simp[Dt.dep]
 have b:ay ((Ĕ V.ws).map Dt.str)<=2:=gn λ _ _=>by simp[Dt.dep]
 have c:ay ((Ĕ V.ws).map λ _=>Dt.tup [])<=2:=gn λ _ _=>by simp[Dt.dep,ay]
 have d:ay ((Ĕ V.ps).map λ _=>Dt.lst [])<=2:=gn λ p _=>by simp[Dt.dep,ay]
 have e:ay ((Ĕ V.ws).map λ w=>nD (J_ V.kn w))<=2:=gn λ w _=>by cases J_ V.kn w<;>simp[nD,Dt.dep,ay]
 have g:ay ((jl V.rs).map rD)<=4:=gn λ _ _=>by simp[rD,Dt.dep,ay]
 have f:ay ((Ĕ V.ps).map λ p=>Dt.tup [.int (V.kf p).1,.int (V.kf p).2])<=2:=gn λ _ _=>by simp[Dt.dep,ay]
 unfold told uU Aj Ak;simp only[Dt.dep,dU,eL,ay];lia
section
variable {c d n B nl:Nat}{names:Á Str}{V:Wl}{s:S}
def Ly (h:iD B V V s){m k:Nat}(a:vu m k V)(t:m < 64)(r:k < 64){K:AV->Prop}(i:K (.bl true)) :
  (aC [.ref B] s).wp λ v s1=>(aR [.ref (B+14)] s1).wp λ w b=>(ā 9 [v,w] b).wp λ x o=>(o.take s.length=s/\x.low s.length=true)/\K x:=by
 have y:=a.lp;have z:=a.lw;have u:=a.lh;refine(za rfl h (by lia) (by lia) (by lia) a.nd).mono ?_;rintro v s1 ⟨e,rfl,f,j⟩;refine(AR (h.app f.cl) (by lia) (by lia) (by lia) a.nd λ p _=>rfl).mono ?_;rintro w b ⟨g,rfl,q,l⟩;rw[Ĥ (yf (n:=9) (j.zero.app g) l (HZ V))];refine⟨⟨?_,by simp[AV.low]⟩,i⟩;rw[È];exact f_
def zE:Á (Key × AV):=[(.inr "hand",.str "hands"),(.inr "rate",.str "rates"),(.inr "debt",.str "debts"),(.inr "sold",.str "money"),(.inr "back",.str "money")]
def Cs:Á (Key × AV):=[(.inr "hand",.int 30),(.inr "rate",.int 20),(.inr "debt",.int 20),(.inr "sold",.int 40),(.inr "back",.int 40)]
def Kw (v:AV):Prop:=∃ w:Str,v=.str w/\(w="known"∨w="rate"∨w="half")
def J9 {w:Str}(h:iD B V W s)(hw:w="rate"∨w="known"):(aS [.ref (B+14),.str w] s).wp λ v s'=>Kw v/\s'=s++[.dK zE]++[.dK Cs]/\Cl s':=by
 have i:∀ (st:S) (a:En),fF [((mc (.str "hand")),(mc (.str "hands"))),((mc (.str "rate")),(mc (.str "rates"))),((mc (.str "debt")),(mc (.str "debts"))),((mc (.str "sold")),(mc (.str "money"))),((mc (.str "back")),(mc (.str "money")))] a st=.ok (.ref st.length) (st++[.dK zE]):=λ st a=>by
  unfold fF;simp only[CN,mc,ó,pk,fg,bQ,ck,å];rw[Ï (by show(5:Nat)<=15;lia)];rfl
 have j:∀ (st:S) (a:En),fF [((mc (.str "hand")),(mc (.int 30))),((mc (.str "rate")),(mc (.int 20))),((mc (.str "debt")),(mc (.int 20))),((mc (.str "sold")),(mc (.int 40))),((mc (.str "back")),(mc (.int 40)))] a st=.ok (.ref st.length) (st++[.dK Cs]):=λ st a=>by
  unfold fF;simp only[CN,mc,ó,pk,fg,bQ,ck,å];rw[Ï (by show(5:Nat)<=15;lia)];rfl
 have g:Cl (s++[.dK zE]):=h.cl.add (by simp[AO.low,zE,Ĺ,AV.low]);have b:Cl (s++[.dK zE]++[.dK Cs]):=g.add (by simp[AO.low,Cs,Ĺ,AV.low]);have k:=(h.app g).app b;have e:jN (s++[.dK zE]++[.dK Cs]) s.length=À zE:=jO (by rw[È,á (Ì _)];simp);have l:jN (s++[.dK zE]++[.dK Cs]) (s++[AO.dK zE]).length=À Cs:=jO (by rw[á (Ì _)];simp);rcases hw with rfl|rfl
 ·have f:jy (.str "rate") (.ref s.length) (s++[.dK zE]++[.dK Cs])=.ok (.bl true) _:=(n4 e).trans rfl;have m:ģ (.ref s.length) (.str "rate") (s++[.dK zE]++[.dK Cs])=.ok (.str "rates") _:=vY e rfl;have o:ģ (.ref (s++[AO.dK zE]).length) (.str "rate") (s++[.dK zE]++[.dK Cs])=.ok (.int 20) _:=vY l rfl;unfold aS eY;simp only[↓WS,↓WE,↓WV,Lq,ß,UU,Ä,↓Ð,↓Ĥ (i _ _),↓Ĥ (j _ _),↓Ĥ f,↓Ĥ m,↓Ĥ o,↓Ĥ (oG k.at_ (kA B W.h)),↓Ĥ (oj (kq k.at_)),Î];split
  ·exact⟨⟨_,rfl,.inr (.inr rfl)⟩,b⟩
  ·exact⟨⟨_,rfl,.inr (.inl rfl)⟩,b⟩
 ·have f:jy (.str "known") (.ref s.length) (s++[.dK zE]++[.dK Cs])=.ok (.bl false) _:=(n4 e).trans rfl;unfold aS eY;simp only[↓WS,↓WE,↓WV,Lq,ß,UU,Ä,↓Ð,↓Ĥ (i _ _),↓Ĥ (j _ _),↓Ĥ f];exact⟨⟨_,rfl,.inl rfl⟩,b⟩
def uY:Á AV:=[.str "rate",.str "known",.str "rate"]
def EB (h:LS c d n B nl names V V s)(ok:vu m k V)(hm:m+many < 60)(hk:k+many < 60)(hn:n<=600000000)(hN:0 < names.length)(U:names.length<=1000)(hs:∀ x∈names,x.length<=1000)
  (hw:ô s f=À uY) (Za:B+17<=f) :
  Hd (bt [.ref d,.ref B,.ref (B+14),.ref nl,.ref f,.int many] s) λ v s'=>v=.bl true/\∃ A,vu (m+many) (k+many) A/\LS c d (n+20 * many) B nl names A A s'/\Wk c d B s s':=by
 have c0:=h.c0;have d0:=h.d0;have n0:=h.n0;constructor;unfold bt jK;have T:∀ {n:Nat}{b:Ms}{q t u y C D:AV}{s:S}{Q:AV->S->Prop},(b (À q :: À t :: À u :: À y :: À C :: À D :: ã (n - 6) none) s).wp (λ _ a=>Q .Ę a) Q->(dN n b [q,t,u,y,C,D] s).wp Q:=by
  intro n b q t u y C D s Q hh;show(match b (À q :: À t :: À u :: À y :: À C :: À D :: ã (n - 6) none) s with|.rt v a=>R.ok v a|.nx _ a=>.ok .Ę a|.ex c a=>.ex c a|_=>.bad).wp Q;revert hh;cases b (À q :: À t :: À u :: À y :: À C :: À D :: ã (n - 6) none) s<;>exact λ z=>z
 refine T ?_;simp only[↓WS,↓WE,↓WV,Lq,ß,UU,Ä,↓Ð,↓sT];refine⟨⟨by lia,by lia⟩,?_⟩;refine n7 (λ xs g st=>∃ (x6 x7 x8:Ê AV) (z:Nat) (A:Wl),xs.length+z=many/\g=[À (.ref d),À (.ref B),À (.ref (B+14)),À (.ref nl),À (.ref f),À (.int many),x6,x7,x8]/\vu (m+z) (k+z) A/\LS c d (n+20 * z) B nl names A A st/\Wk c d B s st) ?_ ?_ ?_ _ _ _ ⟨none,none,none,0,V,by simp[oA],rfl,ok,h,Wk.refl c d B s⟩
 ·rintro _ _ st _ p hp;cases hp
 ·rintro g st ⟨x6,x7,x8,z,A,o,rfl,e,L,N⟩;have o:0+z=many:=o;rw[C8]at o;subst o;exact⟨A,e,L,N⟩
 ·rintro v r g st ⟨x6,x7,x8,z,A,o,rfl,e,L,N⟩;have o:r.length+1+z=many:=o;have Zm:f < s.length:=(Ç.mp (ď hw)).1;have G:ô st f=À uY:=bI (by rw[N.get f Zm (by lia) (by lia) (.inr Za)];exact ď hw);simp only[↓WS,↓WE,↓WV,Lq,ß,UU,Ä,↓Ð,↓Ĥ (oj G)];refine(take1 L.dr).mono ?_;rintro _ a ⟨j,rfl,j0,j1,D1,O⟩;have h1:=L.kp O D1;have H:ô a f=À uY:=O.gk.lst (n:=0) (by lia) (by lia) G;obtain⟨wv,I,ew⟩:=Ge (s:=a) (i:=f) (j:=j) H j0 j1;obtain⟨w,rfl,Z⟩:∃ w:Str,wv=.str w/\(w="rate"∨w="known"):=by
   simp only[uY,Þ,ÿ,aw]at I;rcases I with rfl|rfl|rfl
   ·exact⟨_,rfl,.inl rfl⟩
   ·exact⟨_,rfl,.inr rfl⟩
   ·exact⟨_,rfl,.inl rfl⟩
  have P:(need (ô a f) λ xs=>need (kQ xs j) λ v=>R.ok v a)=.ok (.str w) a:=ew;simp only[↓WS,↓WE,↓WV,Lq,ß,UU,Ä,↓Ð,↓Ĥ P];refine(J9 h1.T7 Z).mono ?_;rintro _ s2 ⟨⟨wq,rfl,Y'⟩,rfl,c2⟩;have M:LS c d (n+20 * z+1) B nl names A A (a++[.dK zE]++[.dK Cs]):=by rw[È]at c2 ⊢;exact h1.app c2
  have g2:Wk c d B a (a++[.dK zE]++[.dK Cs]):=((nv.refl B a).app _).app _ |>.wk c d
  generalize a++[AO.dK zE]++[AO.dK Cs]=s2 at M g2 ⊢;refine(JI M.dr (by lia) M.nm hN U hs n0.2.2.1 n0.2.2.2 Y').mono ?_;rintro _ s3 ⟨E,rfl,X,Y,D3,K3⟩;have F:=Y A;have h3:=M.kp K3 D3;refine(FO h3.T7 e (by lia) (by lia) E F).mono ?_;rintro _ s4 ⟨rfl,b4,g4⟩;have h4:=h3.T8 g4 b4;refine(Bz b4 e (by lia) (by lia) E X F).mono ?_;rintro _ s5 ⟨rfl,b5,g5⟩;have l:=h4.T8 g5 b5;have J:=Cc e E;rw[Ĥ (same_str 8 (jk A E) s5)];simp only[mD,eJ,Ŧ,eG];rw[Ô (by decide)];refine Ly b5 J (by lia) (by lia) ?_;rw[mD];dsimp only;rw[Ô (by decide)];exact⟨_,_,_,z+1,fz A E,by lia,rfl,J,⟨l.dr.mono (by lia),l.at_,l.t0,l.c0,l.d0,l.nm,l.n0⟩,((((N.trans (O.wk B)).trans g2).trans (K3.wk B)).trans (g4.wk c d)).trans (g5.wk c d)⟩
end
def xg (a:ô s i=À xs)(b:ô s j=À ys)(k:xs.length+ys.length<=1000):bS (.ref i) (.ref j) s=.ok (.ref s.length) (s++[AO.lst (xs++ys)]):=by
 show(need (ô s i) λ xs=>need (ô s j) λ ys=>if xs.length+ys.length<=sizeLine then R.ok (AV.ref s.length) (s++[AO.lst (xs++ys)]) else .bad)=_;rw[a,b,å,å,Ï (vi k)]
def zP (D:Dr c d n s)(p:n<=900000000):(a' [.ref d] s).wp λ v s'=>∃ (j:Nat) (a:Á Str),v=.ref j/\s.length<=j/\ô s' j=À (a.map AV.str)/\a.length=8/\(∀ z∈a,z.length<=1000/\z≠"eur"/\z≠"coin")/\a.Nodup/\Dr c d (n+20) s'/\Gk c d s s':=by
 have w:=D.Kb;have ld:=D.Kc;unfold a' gP;walk_at "w";refine(GY D p (by lia) (by lia)).mono ?_;rintro _ b ⟨j,a,rfl,o,t,u,h,nd,B,C⟩;obtain⟨D2,A,k⟩:=C.cut D B;have f:Cl (b.take s.length++[AO.lst (a.map AV.str)]):=D2.cl.add (by simp[AO.low,aU]);have g:Cl (b.take s.length++[AO.lst (a.map AV.str)]++[AO.lst [.str "never"]]):=f.add (by simp[AO.low,Ĺ,AV.low]);have l:(a++[("never":Str)]).map AV.str=a.map AV.str++[.str "never"]:=by simp
 have i:Cl (b.take s.length++[AO.lst (a.map AV.str)]++[AO.lst [.str "never"]]++[AO.lst ((a++[("never":Str)]).map AV.str)]):=g.add (by
  have:=aU;simp only[Ġ,Ŷ,AO.low,Ŏ];exact aU _ _)
 have m:bS (.ref (b.take s.length).length) (.ref (b.take s.length++[AO.lst (a.map AV.str)]).length) (b.take s.length++[AO.lst (a.map AV.str)]++[AO.lst [.str "never"]])=.ok (.ref (b.take s.length++[AO.lst (a.map AV.str)]++[AO.lst [.str "never"]]).length) (b.take s.length++[AO.lst (a.map AV.str)]++[AO.lst [.str "never"]]++[AO.lst ((a++[("never":Str)]).map AV.str)]):=by
  rw[xg (û (Ė _ _)) (Ė _ _) (by simp;lia),l]
 simp only[↓WS,↓WE,↓WV,Lq,ß,UU,Ä,↓Ð,t,o,k,aU,↓Ĥ m];refine⟨_,a++[("never":Str)],rfl,?_,Ė _ _,?_,?_,?_,(((D2.app f).app g).app i),((A.gk.trans (Gk.app ..)).trans (Gk.app ..)).trans (Gk.app ..)⟩
 ·simp[A.len]
 ·simp;lia
 ·intro z hz;rcases cG.mp hz with hz|hz
  ·exact⟨G6 z (h z hz),λ e=>absurd (e ▸ h z hz) (by decide +kernel),λ e=>absurd (e ▸ h z hz) (by decide +kernel)⟩
  ·rw[ý.mp hz];decide +kernel
 ·refine f9.mpr ⟨nd,by simp,λ x q y r e=>?_⟩;rw[ý.mp r]at e;subst e;exact absurd (h _ q) (by decide +kernel)
def Gk.wk (h:Gk c d s s')(B:Nat):Wk c d B s s':=⟨h.len,λ i e a b _=>h.get i e a b⟩
def V0:Wl:=⟨[],[],[],[],182⟩
def Qy:vu 0 0 V0:=⟨Ì _,Ì _,Ì _,Ì _,.nil,(λ _ h=>nomatch h)⟩
def GZ (s:S)(env:En){Q:AV->AV->S->Prop}(k:Q (.ref s.length) (.ref (s.length+14)) (s++mid s.length V0 V0)):(oo 9 ŵ env s).wp λ v s1=>(bY [] s1).wp λ w a=>Q v w a:=by
 have e:=Ik (s++[.ins 9 (vg s.length 182),.dK [],.dK [],.dT [],.dK [],.dT [],.lst [],.lst []]) (B:=s.length) (by simp);rw[È]at e;rw[Ĥ (Kd s env),Ĥ e];exact k
def QI (l:Á Str)(lo a:Ê Int):∃ b:Á Str,gQ (l.map AV.str) lo a=b.map AV.str/\b=gQ l lo a:=by
 refine⟨_,?_,rfl⟩;unfold gQ;rw[Î,<-Qc,<-Qd]
def B7 (h:x∈gQ l lo a):x∈l:=by
 unfold gQ at h;exact List.mem_of_mem_drop (List.mem_of_mem_take h)
def mR (c:Str)(k:Int)(x:Rt):Prop:=x.1=c/\x.2.1<=k
instance (c:Str) (k:Int) (x:Rt):ő (mR c k x):=inferInstanceAs (ő (_/\_))
def Bs (l:Á Rt)(c:Str)(k:Int):Ê Rt->Prop
 | none=>∀ x∈l,¬ mR c k x
 | some y=>(y∈l/\mR c k y)/\∀ x∈l,mR c k x->x.2.1<=y.2.1
def oV (c:Str):Ê Rt->AV
 | none=>if c="coin" then .tup [.int 1,.int 1] else .Ę
 | some y=>jh y.2.2
def oD (c:Str):Ê Rt->Dt
 | none=>if c="coin" then .tup [.int 1,.int 1] else .Ę
 | some y=>.tup [.int y.2.2.1,.int y.2.2.2]
def nK (c:Str)(k:Int):Á Rt->Ê Rt->Ê Rt
 | [],o=>o
 | x :: r,o=>nK c k r (if mR c k x then À x else o)
theorem ua:∀ (r:Á Rt)(o:Ê Rt),r.Pairwise (λ a b=>a.2.1<=b.2.1)->(∀ y,o=À y->mR c k y/\∀ x∈r,y.2.1<=x.2.1)->
  (nK c k r o=none/\o=none/\∀ x∈r,¬ mR c k x)∨∃ y,nK c k r o=À y/\mR c k y/\(y∈r∨o=À y)/\(∀ x∈r,mR c k x->x.2.1<=y.2.1)/\∀ z,o=À z->z.2.1<=y.2.1
 | [],none,_,_=>.inl ⟨rfl,rfl,(λ _ h=>nomatch h)⟩
 | [],À y,_,h=>.inr ⟨y,rfl,(h y rfl).1,.inr rfl,(λ _ h=>nomatch h),λ z e=>by cases e;exact Int.le_refl _⟩
 | x :: r,o,p,h=>by
  rw[ļ]at p;unfold nK;by_cases i:mR c k x
  ·rw[Ï i];rcases ua r (À x) p.2 (λ y e=>by cases e;exact⟨i,p.1⟩) with⟨_,z,_⟩|⟨y,d,f,g,m,j⟩
   ·cases z
   ·refine .inr ⟨y,d,f,.inl (g.elim (.tail _) λ z=>by cases z;exact .head _),λ z hz l=>?_,λ z e=>?_⟩
    ·rcases Þ.mp hz with rfl|hz
     ·exact j z rfl
     ·exact m z hz l
    ·exact Int.le_trans ((h z e).2 x (.head _)) (j x rfl)
  ·rw[Ô i];rcases ua r o p.2 (λ y e=>⟨(h y e).1,λ z hz=>(h y e).2 z (.tail _ hz)⟩) with⟨d,f,g⟩|⟨y,d,f,g,m,j⟩
   ·exact .inl ⟨d,f,λ z hz=>by
     rcases Þ.mp hz with rfl|hz
     ·exact i
     ·exact g z hz⟩
   ·refine .inr ⟨y,d,f,g.imp (.tail _) id,λ z hz l=>?_,j⟩;rcases Þ.mp hz with rfl|hz
    ·exact absurd l i
    ·exact m z hz l
def r0:Rt:=(⟨#[]⟩,0,0,1)
def Bt (l:Á Rt):∃ r:Á Rt,pick (l.map rE) (J7 ((l.map rE).map zk))=r.map rE/\(∀ x,x∈r ↔ x∈l)/\r.Pairwise λ a b=>a.2.1<=b.2.1:=by
 have e:∀ i,((l.map rE).map zk).getD i 0=(l.getD i r0).2.1:=λ i=>by
  simp only[Ā,è,Option.map_map];cases l[i]?<;>rfl
 have d:∀ i,i∈J7 ((l.map rE).map zk) ↔ i < l.length:=λ i=>by
  rw[(zC _).mem_iff,jY,Î,Î]
 refine⟨(J7 ((l.map rE).map zk)).map λ i=>l.getD i r0,?_,λ x=>?_,?_⟩
 ·unfold pick;refine Eq.trans (EW (g:=λ i=>rE (l.getD i r0)) λ i c=>?_) (by generalize J7 ((l.map rE).map zk)=p;rw[f7];rfl);have c:=(d i).mp c;simp[Ā,c]
 ·rw[ĕ];constructor
  ·rintro⟨i,c,rfl⟩;have c:=(d i).mp c;simp[Ā,c]
  ·intro f;obtain⟨i,c,rfl⟩:=oO.mp f;exact⟨i,(d i).mpr c,by simp[Ā,c]⟩
 ·rw[cU];refine(t9 _).imp λ {i j} h=>?_;have h:=Ħ h;rw[e,e]at h;lia
section
variable {B:Nat}{V W:Wl}{s:S}
def M5 (l:Á Rt):(l.map rE).all xH=true:=by
 rw[ñ];intro v a;obtain⟨x,_,rfl⟩:=ĕ.mp a;rfl
def DT (W:Wl)(hl:W.rs.length < 64)(c:Str)(k:Int):∃ o,Bs W.rs c k o/\∀ {B V s},iD B V W s->aG [.ref (B+14),.str c,.int k] s=.ok (oV c o) s:=by
 obtain⟨r,t,j,u⟩:=Bt W.rs;refine⟨nK c k r none,?_,λ {B V s} h=>?_⟩
 ·rcases ua (c:=c) (k:=k) r none u (λ _ z=>nomatch z) with⟨e,_,h⟩|⟨y,e,d,f,A,_⟩
  ·rw[e];exact λ x l=>h x ((j x).mpr l)
  ·rw[e];exact⟨⟨(j y).mp (f.resolve_right λ z=>nomatch z),d⟩,λ x l=>A x ((j x).mpr l)⟩
 ·have w:mj 21 xO (Ø ģ (mv 0) (mc (.str "rates"))) [À (.ref (B+14)),À (.str c),À (.int k),À (oV c none),none,none,none] s=.ok (r.map rE) s:=by
   unfold mj;rw[pM h.at_ (kA B W.h) lG,ó];dsimp only;rw[kq h.at_,å,Ï ⟨M5 _,by rw[Î];exact hl,h.tab.b⟩,t]
  have n:NN (cB (Ø aP (mv 1) (mc (.str "coin")))) (cL (Æ (mc (.int 1)) (Æ (mc (.int 1)) Ý))) (mc .Ę) [À (.ref (B+14)),À (.str c),À (.int k),none,none,none,none] s=.ok (oV c none) s:=by
   apply R.wp.eq;unfold oV;by_cases m:c="coin"
   ·simp only[↓WS,↓WE,↓WV,Lq,ß,UU,Ä,↓Ð,kN m,ŋ]
   ·simp only[↓WS,↓WE,↓WV,Lq,ß,UU,Ä,↓Ð,rP m,Ō]
  apply R.wp.eq;unfold aG kY;refine Nk (i9 n ?_);simp only[↓WS,↓WE,↓WV,Lq,ß,UU,Ä,↓Ð,↓Ĥ w];refine n7 (λ xs a st=>∃ (q:Á Rt) (o:Ê Rt) (x4 x5 x6:Ê AV),xs=q.map rE/\a=[À (.ref (B+14)),À (.str c),À (.int k),À (oV c o),x4,x5,x6]/\st=s/\nK c k q o=nK c k r none) ?_ ?_ ?_ _ _ _ ⟨r,none,none,none,none,rfl,rfl,rfl,rfl⟩
  ·rintro _ _ st _ p C;cases C
  ·rintro a st ⟨q,o,x4,x5,x6,i,rfl,rfl,g⟩;cases q with
   | cons _ _=>cases i
   | nil=>
    walk_at "w";rw[<-g];rfl
  ·rintro v D a st ⟨q,o,x4,x5,x6,i,rfl,rfl,g⟩;cases q with
   | nil=>cases i
   | cons x q=>
    cases i;unfold rE;by_cases d:x.1=c
    ·by_cases f:x.2.1<=k
     ·simp only[↓WS,↓WE,↓WV,Lq,ß,UU,Ä,↓Ð,kN d,ŋ,kN f];exact⟨q,À x,_,_,_,rfl,rfl,by rw[<-g,nK,Ï ⟨d,f⟩]⟩
     ·simp only[↓WS,↓WE,↓WV,Lq,ß,UU,Ä,↓Ð,kN d,ŋ,rP f,Ō];exact⟨q,o,_,_,_,rfl,rfl,by rw[<-g,nK,Ô λ z=>f z.2]⟩
    ·simp only[↓WS,↓WE,↓WV,Lq,ß,UU,Ä,↓Ð,rP d,Ō];exact⟨q,o,_,_,_,rfl,rfl,by rw[<-g,nK,Ô λ z=>d z.1]⟩
theorem qi (c:Str)(k:Int):∀ (l:Á Rt) (a b:Ê AV) (d:Á AV),ſ (gT 2 (ĉ (gN 0) (ĉ (gN 1) bR))) (qg (cB (Ø aP (mv 0) (mv 2))) (cB (Ø sm (mv 1) (mv 3)))) (mv 1) [] (l.map kE) [a,b,À (.str c),À (.int k)] s d=.ok (d++(l.filter λ x=>decide (mR c k x)).map λ x=>.int x.2.1) s
 | [],a,b,d=>by rw[aj,ke];simp
 | x :: r,a,b,d=>by
  rw[Õ];have e:qg (cB (Ø aP (mv 0) (mv 2))) (cB (Ø sm (mv 1) (mv 3))) [À (.str x.1),À (.int x.2.1),À (.str c),À (.int k)] s=.ok (decide (mR c k x)) s:=by
   apply R.wp.eq;unfold mR;by_cases g:x.1=c
   ·simp only[↓WS,↓WE,↓WV,Lq,ß,UU,Ä,↓Ð,kN g,ŋ]
   ·simp only[↓WS,↓WE,↓WV,Lq,ß,UU,Ä,↓Ð,rP g,Ō];simp
  by_cases f:mR c k x
  ·rw[ć f]at e;rw[qj (x:=.int x.2.1) (show gT 2 (ĉ (gN 0) (ĉ (gN 1) bR)) (kE x) [a,b,À (.str c),À (.int k)] s=.nx [À (.str x.1),À (.int x.2.1),À (.str c),À (.int k)] s from rfl) e rfl,qi c k r,L0,ć f,Ï rfl];simp
  ·rw[ö f]at e;rw[kZ (show gT 2 (ĉ (gN 0) (ĉ (gN 1) bR)) (kE x) [a,b,À (.str c),À (.int k)] s=.nx [À (.str x.1),À (.int x.2.1),À (.str c),À (.int k)] s from rfl) e,qi c k r,L0,ö f];rfl
def qm (l:Á Rt)(c:Str)(k:Int):Á Int:=(l.filter λ x=>decide (mR c k x)).map (·.2.1)
def B8 (h:At B (mid B V W) s) (hl:V.rs.length < 64)(c:Str)(k:Int):Ep (aH (Ť 9 "rates") (mv 0)) (ŷ 3 (ŀ (Ů [("told",none),("told_day",none),("currency",À 1),("day",À 2)] (Af (aH (Ť 9 "rates") (mv 0))) (gT 2 (ĉ (gN 0) (ĉ (gN 1) bR))) (qg (cB (Ø aP (mv 0) (mv 2))) (cB (Ø sm (mv 1) (mv 3)))) (mv 1)))) [À (.ref B),À (.str c),À (.int k),none] s=.nx [À (.ref B),À (.str c),À (.int k),À (.ref s.length)] (s++[.lst ((qm V.rs c k).map AV.int)]):=by
 have a:=qq (l:=[À (.str c),À (.int k),none]) h (mf B V.h);have q:B+17<=s.length:=h.len (by show 0 < 17;lia);have hd:=ma h;have j:(V.rs.map rK).map (λ p=>tupK p.1)=V.rs.map kE:=by rw[f7];rfl
 have g:=qi (s:=s.set (B+5) (.Ck (V.rs.map rK))) c k V.rs none none [];have f:ŷ 3 (ŀ (Ů [("told",none),("told_day",none),("currency",À 1),("day",À 2)] (Af (aH (Ť 9 "rates") (mv 0))) (gT 2 (ĉ (gN 0) (ĉ (gN 1) bR))) (qg (cB (Ø aP (mv 0) (mv 2))) (cB (Ø sm (mv 1) (mv 3)))) (mv 1))) [À (.ref B),À (.str c),À (.int k),none] s=.nx [À (.ref B),À (.str c),À (.int k),À (.ref s.length)] (s.set (B+5) (.Ck (V.rs.map rK))++[.lst ((qm V.rs c k).map AV.int)]):=by
  have b:Ů [("told",none),("told_day",none),("currency",À 1),("day",À 2)] (Af (aH (Ť 9 "rates") (mv 0))) (gT 2 (ĉ (gN 0) (ĉ (gN 1) bR))) (qg (cB (Ø aP (mv 0) (mv 2))) (cB (Ø sm (mv 1) (mv 3)))) (mv 1) [À (.ref B),À (.str c),À (.int k),none] s=.ok ((qm V.rs c k).map AV.int) (s.set (B+5) (.Ck (V.rs.map rK))):=by
   unfold Ů Af;rw[a,ó];dsimp only;rw[hd,å,ó,j];dsimp only;rw[Ï (vi (by rw[Î];lia))];refine g.trans ?_;unfold qm;rw[f7];rfl
  have d:=yg (i:=3) (m:=ŀ (Ů [("told",none),("told_day",none),("currency",À 1),("day",À 2)] (Af (aH (Ť 9 "rates") (mv 0))) (gT 2 (ĉ (gN 0) (ĉ (gN 1) bR))) (qg (cB (Ø aP (mv 0) (mv 2))) (cB (Ø sm (mv 1) (mv 3)))) (mv 1))) (l:=[À (.ref B),À (.str c),À (.int k),none]) (v:=.ref s.length) (s1:=s.set (B+5) (.Ck (V.rs.map rK))++[.lst ((qm V.rs c k).map AV.int)]) (s:=s) (by
   apply R.wp.eq;simp only[↓WS,↓WE,↓WV,Lq,ß,UU,Ä,↓Ð,↓Ĥ b,Ś])
  exact d
 have n:(s.set (B+5) (.Ck (V.rs.map rK))++[AO.lst ((qm V.rs c k).map AV.int)])[B+5]? = À (.Ck (V.rs.map rK)):=by
  rw[Û (by rw[Ś];lia),Č (by lia)]
 unfold Ep;rw[a];dsimp only;rw[f];dsimp only;rw[n,hd];dsimp only;rw[EJ _ _ (by rw[Ś];lia),Tw];congr 2;obtain⟨o,e⟩:=Ç.mp (h.at (i:=5) rfl);rw[<-e];exact C7 o
end
end Ro
namespace Mm
open PySem L2
def Sg (h:s[i]? = À (.ins c fs)) (l:fs.lookup m=none)(e1:f env s=.ok (.ref i) s) (d:a env s=.ok v s)(e:b env s=.ok w s):ō c m 2 F f (Æ a (Æ b Ý)) env s=F [.ref i,v,w] s:=by
 unfold ō;rw[e1,ó,lj h];dsimp only[need];rw[Ï l,show Æ a (Æ b Ý) env s=.ok [v,w] s by unfold Æ Ý;rw[d,ó,e];rfl];rfl
end Mm
namespace Ro
open PySem L2 Mm
section
variable {B:Nat}{V W:Wl}{s:S}
def JL (h:Bs l c k (À y)):(qm l c k).max? = À y.2.1:=by
 obtain⟨⟨a,b⟩,e⟩:=h;rw[C6];unfold qm;refine⟨ĕ.mpr ⟨y,ng.mpr ⟨a,ć b⟩,rfl⟩,λ d hd=>?_⟩;obtain⟨x,f,rfl⟩:=ĕ.mp hd;obtain⟨x1,x2⟩:=ng.mp f;exact e x x1 (Ħ x2)
def JM (h:Bs l c k none):qm l c k=[]:=by
 unfold qm;rw[List.map_eq_nil_iff,List.filter_eq_nil_iff];exact λ x a z=>h x a (Ħ z)
def BM (h:At B (mid B V W) s) (k:Int):Ī [.ref B,.str "coin",.int k] s=.ok (.tup [.int 1,.int 1]) s:=by
 have a:cB (Ø aP (mv 1) (mc eg)) [À (.ref B),À (.str "coin"),À (.int k),none] s=.ok true s:=R.wp.eq (by unfold eg;walk_at "w");unfold Ī cf;exact kg (env:=[À (.ref B),À (.str "coin"),À (.int k),none]) (jU ((iv a).trans rfl))
def Fo (h:ô s i=À xs)(e:m env s=.ok (.ref i) s):pa (cT m) env s=.ok xs.isEmpty s:=by
 have a:truth (.ref i) s=À (!xs.isEmpty):=by
  unfold truth;dsimp only;rw[ď h]
 apply R.wp.eq;simp only[↓WS,↓WE,↓WV,Lq,ß,UU,Ä,↓Ð,↓Ĥ e,a];exact Bool.not_not _
def BN (h:At B (mid B V W) s) (hl:V.rs.length < 64){c:Str}{k:Int}(i:c≠"coin")(j:c.length<=1000)(g:Bs V.rs c k none):Ī [.ref B,.str c,.int k] s=.ex ⟨5,[]⟩ (s++[.lst []]):=by
 have e:cB (Ø aP (mv 1) (mc eg)) [À (.ref B),À (.str c),À (.int k),none] s=.ok false s:=R.wp.eq (by unfold eg;walk_at "w";simp[i]);have l:=(di (a:=ň (mc wd)) (b:=Ĵ) e).trans (show Ĵ _ s=.nx _ s from rfl);have d:=B8 h hl c k;rw[JM g]at d;have f:=Fo (m:=mv 3) (env:=[À (.ref B),À (.str c),À (.int k),À (.ref s.length)]) (Ė s []) rfl;unfold Ī cf;exact mi (env:=[À (.ref B),À (.str c),À (.int k),none]) ((Ć l).trans ((Ć d).trans (qS ((iv f).trans (wB (Mo j (by decide) uh λ _=>rfl))))))
def BP (h:At B (mid B V W) s) (nd:(V.rs.map rKey).Nodup) (hl:V.rs.length < 64){c:Str}{k:Int}{y:Rt}(q:c≠"coin")(d:Bs V.rs c k (À y)):Ī [.ref B,.str c,.int k] s=.ok (jh y.2.2) (s++[.lst ((qm V.rs c k).map AV.int)]):=by
 have l:cB (Ø aP (mv 1) (mc eg)) [À (.ref B),À (.str c),À (.int k),none] s=.ok false s:=R.wp.eq (by unfold eg;walk_at "w";simp[q]);have t:=(di (a:=ň (mc wd)) (b:=Ĵ) l).trans (show Ĵ _ s=.nx _ s from rfl);have u:=B8 h hl c k;have f:=JL d;have j:=Ė s ((qm V.rs c k).map AV.int);have w:B+17<=s.length:=h.len (by show 0 < 17;lia);have i:=h.app [AO.lst ((qm V.rs c k).map AV.int)];have g:=Fo (m:=mv 3) (env:=[À (.ref B),À (.str c),À (.int k),À (.ref s.length)]) j rfl;rw[show((qm V.rs c k).map AV.int).isEmpty=false by
  cases e:qm V.rs c k with
  | nil=>rw[e]at f;cases f
  | cons a r=>rfl]at g
 have v:=(di (a:=AD 5 (Æ (hX (aT (aH i4 (mv 1)) (aT (mc (.str " has no worth on that day")) nA))) Ý)) (b:=Ĵ) g).trans (show Ĵ _ (s++[AO.lst ((qm V.rs c k).map AV.int)])=.nx _ (s++[AO.lst ((qm V.rs c k).map AV.int)]) from rfl);have p:pT z9 (sd (mv 3)) [À (.ref B),À (.str c),À (.int k),À (.ref s.length)] (s++[.lst ((qm V.rs c k).map AV.int)])=.ok (.int y.2.1) (s++[.lst ((qm V.rs c k).map AV.int)]):=by
  unfold pT sd;rw[show mv 3 [À (.ref B),À (.str c),À (.int k),À (.ref s.length)] (s++[.lst ((qm V.rs c k).map AV.int)])=.ok (.ref s.length) (s++[.lst ((qm V.rs c k).map AV.int)]) from rfl,ó];dsimp only;rw[j,å,ó];unfold z9;rw[Mm.qv,å,f];rfl
 have o:xT (Æ (mv 1) (Æ (pT z9 (sd (mv 3))) Ý)) [À (.ref B),À (.str c),À (.int k),À (.ref s.length)] (s++[.lst ((qm V.rs c k).map AV.int)])=.ok [.str c,.int y.2.1] (s++[.lst ((qm V.rs c k).map AV.int)]):=by
  unfold xT;rw[show Æ (mv 1) (Æ (pT z9 (sd (mv 3))) Ý) [À (.ref B),À (.str c),À (.int k),À (.ref s.length)] (s++[.lst ((qm V.rs c k).map AV.int)])=.ok [.str c,.int y.2.1] (s++[.lst ((qm V.rs c k).map AV.int)]) by
   unfold Æ Ý;rw[uh,ó,p,ó];rfl,ó,Ï (vi (by simp))]
 have n:ue (aH (Ť 9 "rates") (mv 0)) (Æ (mv 1) (Æ (pT z9 (sd (mv 3))) Ý)) [À (.ref B),À (.str c),À (.int k),À (.ref s.length)] (s++[.lst ((qm V.rs c k).map AV.int)])=.ok (jh y.2.2) (s++[.lst ((qm V.rs c k).map AV.int)]):=by
  unfold ue;rw[qq i (mf B V.h),ó,o,ó];dsimp only;rw[ma i,å,show pj [.str c,.int y.2.1]=À (dD (rKey y)) by rw[<-d.1.2.1];rfl,å,qU nd d.1.1,å]
 unfold Ī cf;refine kg (env:=[À (.ref B),À (.str c),À (.int k),none]) ((Ć t).trans ((Ć u).trans ((Ć v).trans ?_)));unfold ň;rw[n];rfl
def xP (b:Nat)(l:Á Int):Ĺ b (l.map AV.int)=true:=fh λ v a=>by
 obtain⟨x,_,rfl⟩:=ĕ.mp a;simp[AV.low]
def BQ (h:iD B V W s){n m:Nat}(f:vu n m V)(A:m < 60){c:Str}{k:Int}{o:Ê Rt}(u:c.length<=1000)(d:Bs V.rs c k o):Hd (ĳ [.ref B,.str c,.int k] s) λ v s'=>∃ e,s'=s++e/\Cl s'/\v=oV c o:=by
 have C:=f.lh;have g:ō 9 "worth_of" 2 Ī (mv 0) (Æ (mv 1) (Æ (mv 2) Ý)) [À (.ref B),À (.str c),À (.int k),À .Ę,À .Ę,none] s=Ī [.ref B,.str c,.int k] s:=Sg (fD h.at_) (Ce B V.h (by decide +kernel)) lG uh rfl;have b:∀ {e:S},Ī [.ref B,.str c,.int k] s=.ok (oV c o) (s++e)->Cl (s++e)->Hd (ĳ [.ref B,.str c,.int k] s) λ v s'=>∃ e,s'=s++e/\Cl s'/\v=oV c o:=λ {e} p l=>by
  constructor;unfold ĳ cw;refine Nk (i9 rfl (i9 rfl (H_ (yg (g.trans p)) ?_)));simp only[↓WS,↓WE,↓WV,Lq,ß,UU,Ä,↓Ð,jv];exact⟨e,rfl,l⟩
 cases o with
 | some y=>
  have a:c≠"coin":=λ z=>f.nc y d.1.1 (d.1.2.1.trans z);refine b (BP h.at_ f.nd (by lia) a d) (h.cl.add (by simp only[Ġ,Ŷ,AO.low,Ŏ];exact xP _ _))
 | none=>
  by_cases a:c="coin"
  ·subst a;exact b (e:=[]) (by rw[BM h.at_,cE];rfl) (by rw[cE];exact h.cl)
  ·constructor;have t:=BN h.at_ (by lia) a u d;have j:Cl (s++[.lst []]++[.exc 5]):=(xV h.cl).add (by simp[AO.low]);have q:ŷ 4 (ō 9 "worth_of" 2 Ī (mv 0) (Æ (mv 1) (Æ (mv 2) Ý))) [À (.ref B),À (.str c),À (.int k),À .Ę,À .Ę,none] s=.ex ⟨5,[]⟩ (s++[.lst []]):=by unfold ŷ;rw[g,t];rfl
   have i:(s++[AO.lst []]++[AO.exc 5])[(s++[AO.lst []]).length]? = À (.exc 5):=by rw[á (Ì _)];simp
   unfold ĳ cw;refine Nk (i9 rfl (i9 rfl (H0 q rfl rfl ?_)));have w:au (l6 5) (.ref (s++[AO.lst []]).length) (s++[AO.lst []]++[AO.exc 5])=.ok (.bl true) _:=qx i rfl;have x:au (zb [3,2,4,6]) (.ref (s++[AO.lst []]).length) (s++[AO.lst []]++[AO.exc 5])=.ok (.bl false) _:=qx i rfl;have r:oV c none=.Ę:=Ô a;simp only[↓WS,↓WE,↓WV,Lq,ß,UU,Ä,↓Ð,jv,↓Ĥ w,↓Ĥ x,mD];rw[r];exact⟨_,È ..,j,rfl⟩
def ME (s:S)(c:Str)(o:Ê Rt):Rp b s (oD c o) (oV c o):=by
 cases o with
 | some y=>exact uD s _
 | none=>
  show Rp b s (if c="coin" then .tup [.int 1,.int 1] else .Ę) (if c="coin" then .tup [.int 1,.int 1] else .Ę);by_cases a:c="coin"
  ·rw[Ï a,Ï a];exact uD s (1,1)
  ·rw[Ô a,Ô a];exact HH s none
def Nd (c:Str)(o:Ê Rt):(oD c o).dep < 9:=by
 cases o with
 | some y=>simp[oD,Dt.dep,ay]
 | none=>
  show Dt.dep (if c="coin" then .tup [.int 1,.int 1] else .Ę) < 9;by_cases a:c="coin"
  ·rw[Ï a];simp[Dt.dep,ay]
  ·rw[Ô a];simp[Dt.dep]
def BO (h:iD B V V s){n m:Nat}(d:vu n m V)(i:m < 60){c:Str}(k:Int)(l:c.length<=1000){Q:AV->S->Prop}(j:∀ e,Cl (s++e)->Q (.bl true) (s++e)) :
  (ĳ [.ref B,.str c,.int k] s).wp λ v s1=>(aG [.ref (B+14),.str c,.int k] s1).wp λ w p=>(ā 9 [v,w] p).wp Q:=by
 have q:=d.lh;obtain⟨o,g,f⟩:=DT V (by lia) c k;refine(BQ h d i l g).to ?_;rintro v s1 ⟨e,rfl,a,rfl⟩;rw[Ĥ (f (h.app a)),Ĥ (yf (n:=9) (ME (b:=0) _ c o) (ME _ c o) (Nd c o))];exact j e a
end
def vu.mono {W:Wl}(h:vu n m W)(a:n<=d)(b:m<=c):vu d c W:=⟨Đ h.lp a,Đ h.lw a,Đ h.lh b,Đ h.lk b,h.nd,h.nc⟩
def LS.start (D:Dr c d n s)(e:s[0]? = À (.tab 20 xN)/\s[1]? = À (.tab 21 xO)) (f:1 < c)(d0:1 < d)(nm:ô s a=À (names.map AV.str)) (g:1 < a)(h:a≠c)(nd:a≠d):LS c d n s.length a names V0 V0 (s++mid s.length V0 V0):=by
 have i:=D.Kb;have ld:=D.Kc;have j:=(Ç.mp (ď nm)).1;have b:Cl (s++mid s.length V0 V0):=D.cl.add (by
  rw[ñ];exact Cy (Ì _))
 exact⟨D.app b,At.new _ _,⟨by rw[Û (by lia)];exact e.1,by rw[Û (by lia)];exact e.2⟩,⟨f,by lia⟩,⟨d0,by lia⟩,û nm,⟨g,by lia,h,nd⟩⟩
def Fh {c d n q j:Nat}{names A:Á Str}{s:S}(D:Dr c d n s)(hn:n<=800000000)(t0:s[0]? = À (.tab 20 xN)/\s[1]? = À (.tab 21 xO)) (c0:1 < c)(d0:1 < d)(nm:ô s q=À (names.map AV.str)) (n0:1 < q)(nc:q≠c)(nd:q≠d)
  (hj:ô s j=À (A.map AV.str)) (h5:A.length<=10) (hs:∀ x∈A,x.length<=1000) (Zp:A.Nodup) :
  Hd (bX [.ref d,.ref j] s) λ v s'=>v=.tup [.ref s.length,.ref (s.length+14)]/\∃ V,vu 10 10 V/\LS c d (n+30) s.length q names V V s':=by
 have H:=LS.start D t0 c0 d0 nm n0 nc nd;constructor;unfold bX kU;walk_at "w";refine GZ _ _ ?_;generalize hB:s.length=B at H ⊢;obtain⟨g,U,T⟩:=QI A none (À 7);have t:=û (e:=mid B V0 V0) hj;generalize s++mid B V0 V0=i at H t ⊢;have e2:su (.ref j) none (À 7) i=.ok (.ref i.length) (i++[AO.lst (g.map AV.str)]):=by
  show(need (ô i j) λ xs=>R.ok (AV.ref i.length) (i++[AO.lst (gQ xs none (À 7))]))=_;rw[t,å,U]
 have hl:=H.len;have I:=H.app (e:=[AO.lst (g.map AV.str)]) (H.dr.cl.add (by simp only[Ġ,Ŷ,AO.low,Ŏ];exact aU _ _));have L:=Ė i (g.map AV.str);have E:g.Nodup:=by
  rw[T];unfold gQ;exact(kJ ..).nodup ((Jk ..).nodup Zp)
 have R1:g.length<=10:=by
  rw[T];unfold gQ;rw[ū,lV];lia
 have o:i.length < (i++[AO.lst (g.map AV.str)]).length:=by simp
 simp only[↓WS,↓WE,↓WV,Lq,ß,UU,Ä,↓Ð,↓Ĥ e2,↓Ĥ (kz L)];generalize i.length=j7 at L hl o ⊢;generalize i++[AO.lst (g.map AV.str)]=s2 at I L o ⊢;refine n7 (λ xs l st=>∃ (r:Á Str) (x2 x5:Ê AV) (z:Nat) (V:Wl),xs=r.map AV.str/\r.length+z=g.length/\r.Nodup/\(∀ x∈r,x.length<=1000/\x∉V.ps/\x∉V.ws)/\l=[À (.ref d),À (.ref j),x2,À (.ref B),À (.ref (B+14)),x5]/\vu z z V/\LS c d (n+2 * z) B q names V V st/\Wk c d B s2 st) ?_ ?_ ?_ _ _ _ ⟨g,none,none,0,V0,rfl,rfl,E,λ x J=>⟨hs x (B7 (T ▸ J)),(nomatch ·),(nomatch ·)⟩,rfl,Qy,I,Wk.refl ..⟩
 ·rintro _ _ st ⟨_,_,_,_,_,_,_,_,_,_,_,_,w⟩ p hp;rw[ý.mp hp];have c0:=I.c0;have d0:=I.d0;exact bI (by rw[w.get j7 o (by lia) (by lia) (.inr hl)];exact ď L)
 ·rintro l st ⟨r,x2,x5,z,V,hr,u,_,_,rfl,F,h,_⟩;cases r with
  | cons _ _=>cases hr
  | nil=>
   have u:0+z=g.length:=u;walk_at "w";exact⟨V,F.mono (by lia) (by lia),⟨h.dr.mono (by lia),h.at_,h.t0,h.c0,h.d0,h.nm,h.n0⟩⟩
 ·rintro v r l st ⟨M,x2,x5,z,V,hr,u,C,J,rfl,F,h,w⟩;cases M with
  | nil=>cases hr
  | cons x M=>
   cases hr;have u:M.length+1+z=g.length:=u;obtain⟨x1,xp,xw⟩:=J x (.head _);walk_at "w";refine(z0 h.dr (by lia) (P:=λ v=>v=.str "person"∨v=.str "work") rfl (by simp) (by simp) ?_).mono ?_
   ·intro v hv;simp only[Þ,ÿ,aw]at hv;rcases hv with rfl|rfl
    ·exact⟨.inl rfl,λ b=>by simp[AV.low]⟩
    ·exact⟨.inr rfl,λ b=>by simp[AV.low]⟩
   rintro _ s3 ⟨wv,ev,hw,lo,al,D3,N⟩;rw[Ĥ ev];refine⟨⟨al,lo⟩,?_⟩;have X:=h.kp N D3;generalize s3.take st.length=s4 at D3 N X ⊢;obtain⟨f,ed,Z,G,O,Q⟩:∃ f:De,AV.tup [wv,.str x]=dv f/\f.nm/\f.ok V/\jk V f=""/\(fz V f={ V with ps:=V.ps++[x] }∨fz V f={ V with ws:=V.ws++[x] }):=by
    rcases hw with rfl|rfl
    ·exact⟨.person x,rfl,x1,λ z=>z.elim xp xw,rfl,.inl rfl⟩
    ·exact⟨.work x,rfl,x1,λ z=>z.elim xp xw,rfl,.inr rfl⟩
   rw[ed];refine(FO X.T7 F (by lia) (by lia) f G).mono ?_;rintro _ s5 ⟨_,b5,g5⟩;have Y:=X.T8 g5 b5;rcases zp b5 F (by lia) (by lia) f Z G with⟨_,s6,e6,b6,g6⟩|⟨cc,k,_⟩
   ·rw[Ĥ e6];have m:=Y.T8 g6.a b6;have Zt:=Cc F f;refine⟨M,_,_,z+1,fz V f,rfl,by lia,(bA.mp C).2,λ y hy=>?_,rfl,Zt,⟨m.dr.mono (by lia),m.at_,m.t0,m.c0,m.d0,m.nm,m.n0⟩,((w.trans (N.wk B)).trans (g5.wk c d)).trans (g6.a.wk c d)⟩;obtain⟨y1,y2,y3⟩:=J y (.tail _ hy);have ne:y≠x:=λ e=>(bA.mp C).1 (e ▸ hy);rcases Q with e|e
    ·rw[e];exact⟨y1,by simp[y2,ne],y3⟩
    ·rw[e];exact⟨y1,y2,by simp[y3,ne]⟩
   ·rw[O]at k;rcases k with⟨_,k⟩|⟨_,k⟩
    ·exact absurd k (by decide)
    ·exact absurd k (by decide)
def CP:Ms:=hE (pa (cT (ę 2 (ā 9) (Æ (ę 3 ĳ (Æ (mv 4) (Æ (mv 7) (Æ (mv 8) Ý)))) (Æ (ę 3 aG (Æ (mv 5) (Æ (mv 7) (Æ (mv 8) Ý)))) Ý))))) (ň (mc (.bl false))) Ĵ
section
variable {c d n B nl:Nat}{names:Á Str}{V:Wl}{s:S}
def JH (h:iD B V V s){n m:Nat}(p:vu n m V)(l:m < 60){u:Str}(o:u.length<=1000)(q:Á Int)(x0 x1 x2 x3 x6 x8:Ê AV)(j:∀ e,vh gs (s++e)) {T:AV->S->Prop} :
  (forL (gN 8) CP gs (q.map AV.int) [x0,x1,x2,x3,À (.ref B),À (.ref (B+14)),x6,À (.str u),x8] s).wp (λ env st=>∃ a e,env=[x0,x1,x2,x3,À (.ref B),À (.ref (B+14)),x6,À (.str u),a]/\st=s++e/\Cl st) T:=by
 refine n7 (λ xs env st=>∃ (q:Á Int) (a:Ê AV) (e:S),xs=q.map AV.int/\env=[x0,x1,x2,x3,À (.ref B),À (.ref (B+14)),x6,À (.str u),a]/\st=s++e/\Cl st) ?_ ?_ ?_ _ _ _ ⟨q,x8,[],rfl,rfl,by simp,h.cl⟩
 ·rintro _ _ st ⟨_,_,e,_,_,rfl,_⟩;exact j e
 ·rintro env st ⟨q,a,e,_,rfl,rfl,b⟩;exact⟨a,e,rfl,rfl,b⟩
 ·rintro v r env st ⟨q,a,e,f,rfl,rfl,b⟩;cases q with
  | nil=>cases f
  | cons k q=>
   cases f;unfold CP;walk_at "w";refine BO (h.app b) p l k o λ i g=>?_;rw[mD];dsimp only;rw[Ô (by decide)];exact⟨q,_,e++i,rfl,rfl,by rw[È],g⟩
theorem zi (e:vh gs s):∀ (l:Á Rt) (a:Ê AV) (b:Á AV),ſ (gN 0) gm (Ø ĺ (mv 0) (mc (.int 1))) gs (l.map rE) [a] s b=.ok (b++l.map λ x=>.int x.2.1) s
 | [],a,b=>by rw[aj,ſ,Ï e];simp
 | x :: r,a,b=>by
  rw[Õ,qj (e1:=[À (rE x)]) rfl rfl (show Ø ĺ (mv 0) (mc (.int 1)) [À (rE x)] s=.ok (.int x.2.1) s from rfl) e,zi e r];simp
def JD (h:iD B V V s){n m:Nat}(G:vu n m V)(O:m < 60){j:Nat}{ds:Á Int}(N:ô s j=À (ds.map AV.int)) (hd:ds.length<=100)(o:Á Str)(M:∀ u∈o,u.length<=1000)(x0 x1 x2 x3 x7 x8:Ê AV){T:AV->S->Prop} :
  (forL (gN 7) (uH (cN (Ø bS (mv 6) (ŀ (Ů [("_law_rate",none)] (cN (Ø ģ (mv 5) (mc (.str "rates")))) (gN 0) gm (Ø ĺ (mv 0) (mc (.int 1))))))) (gN 8) CP) [] (o.map AV.str) [x0,x1,x2,x3,À (.ref B),À (.ref (B+14)),À (.ref j),x7,x8] s).wp (λ env st=>∃ g a e,env=[x0,x1,x2,x3,À (.ref B),À (.ref (B+14)),À (.ref j),g,a]/\st=s++e/\Cl st) T:=by
 have Q:=G.lh;refine n7 (λ xs env st=>∃ (q:Á Str) (g a:Ê AV) (e:S),xs=q.map AV.str/\(∀ u∈q,u.length<=1000)/\env=[x0,x1,x2,x3,À (.ref B),À (.ref (B+14)),À (.ref j),g,a]/\st=s++e/\Cl st) ?_ ?_ ?_ _ _ _ ⟨o,x7,x8,[],rfl,M,rfl,by simp,h.cl⟩
 ·rintro _ _ st _ p i;cases i
 ·rintro env st ⟨q,g,a,e,_,_,rfl,rfl,l⟩;exact⟨g,a,e,rfl,rfl,l⟩
 ·rintro v r env st ⟨q,g,a,e,E,hu,rfl,rfl,l⟩;cases q with
  | nil=>cases E
  | cons u q=>
   cases E;have k:=h.app l;have t:=û (e:=e) N;generalize y:s++e=f at *
   have hl:=kq k.at_;have D:=zi (s:=f) (gs:=[(B+12,V.rs.map rE)]) (λ p i=>by rw[ý.mp i];exact hl) V.rs none [];rw[eL]at D;have lo:∀ b,Ĺ b (V.rs.map λ x=>AV.int x.2.1)=true:=λ b=>fh λ v P=>by
    obtain⟨x,_,rfl⟩:=ĕ.mp P;simp[AV.low]
   have A:Cl (f++[.lst (V.rs.map λ x=>.int x.2.1)]):=k.cl.add (by simp only[Ġ,Ŷ,AO.low,Ŏ];exact lo _);have L:(ds++V.rs.map (·.2.1)).map AV.int=ds.map AV.int++V.rs.map λ x=>.int x.2.1:=by rw[Ł,f7];rfl
   have C:=xg (s:=f++[.lst (V.rs.map λ x=>.int x.2.1)]) (û t) (Ė f (V.rs.map λ x=>.int x.2.1)) (by rw[Î,Î];lia);rw[<-L]at C;have H:Cl (f++[.lst (V.rs.map λ x=>.int x.2.1)]++[.lst ((ds++V.rs.map (·.2.1)).map AV.int)]):=A.add (by simp only[Ġ,Ŷ,AO.low,Ŏ];exact xP _ _);have F:=Ė (f++[.lst (V.rs.map λ x=>.int x.2.1)]) ((ds++V.rs.map (·.2.1)).map AV.int);simp only[↓WS,↓WE,↓WV,Lq,ß,UU,Ä,↓Ð,↓Ĥ (oG k.at_ (kA B V.h)),↓Ĥ (kz hl),↓Ĥ D,↓Ĥ C,↓Ĥ (kz F)];refine⟨vi (by rw[Î];lia),?_⟩;refine RS.wp.mono (JH ((k.app A).app H) G O (hu u (.head _)) _ _ _ _ _ _ _ λ e p i=>by rw[ý.mp i];exact û F) ?_ λ _ _ z=>z;rintro env st ⟨a,J,rfl,rfl,I⟩;refine⟨q,_,a,e++([.lst (V.rs.map λ x=>.int x.2.1)]++([.lst ((ds++V.rs.map (·.2.1)).map AV.int)]++J)),rfl,λ w hw=>hu w (.tail _ hw),rfl,?_,I⟩;rw[<-y];simp only[È]
end
def NH (ns:Á Int):(tR [.sq (ns.map AV.int)] (tabS [(20,"by_days.<locals>.<lambda>"),(21,"_law_worth.<locals>.<lambda>")])).wp λ v _=>v=.bl true:=by
 have Yt:Cl (tabS [(20,"by_days.<locals>.<lambda>"),(21,"_law_worth.<locals>.<lambda>")]):=rfl;unfold tR Ff;rw[show hE (pa (cT (ę 2 (ā 9) (Æ (ę 3 ĳ (Æ (mv 4) (Æ (mv 7) (Æ (mv 8) Ý)))) (Æ (ę 3 aG (Æ (mv 5) (Æ (mv 7) (Æ (mv 8) Ý)))) Ý))))) (ň (mc (.bl false))) Ĵ=CP from rfl];walk_at "w";refine(Fg ns Yt).mono ?_;rintro _ m ⟨c,d,e0,rfl,es,C,c0,d0⟩;have t0:m[0]? = À (.tab 20 xN)/\m[1]? = À (.tab 21 xO):=by rw[es];exact⟨rfl,rfl⟩
 have c0:1 < c:=c0;have d0:1 < d:=d0;clear es;have lc0:=C.Kb;have ld0:=C.Kc;have I:=C.app (e:=[AO.lst [AV.str "eur",AV.str "coin"]]) (C.cl.add (by simp[AO.low,Ĺ,AV.low]));have l1:=Ė m [AV.str "eur",AV.str "coin"];have t1:(m++[AO.lst [AV.str "eur",AV.str "coin"]])[0]? = À (.tab 20 xN)/\(m++[AO.lst [AV.str "eur",AV.str "coin"]])[1]? = À (.tab 21 xO):=⟨by rw[Û (by lia)];exact t0.1,by rw[Û (by lia)];exact t0.2⟩
 have Zj:(m++[AO.lst [AV.str "eur",AV.str "coin"]]).length=m.length+1:=by simp
 generalize m++[AO.lst [AV.str "eur",AV.str "coin"]]=U at I l1 t1 Zj ⊢;refine(zP I (by lia)).mono ?_;rintro _ s2 ⟨j,a,rfl,hj,l2,ln,Q,E,D2,G2⟩;obtain⟨J,A,al⟩:=G2.cut I D2;have t3:(s2.take U.length)[0]? = À (.tab 20 xN)/\(s2.take U.length)[1]? = À (.tab 21 xO):=⟨by rw[A.get 0 (by lia) (by lia)];exact t1.1,by rw[A.get 1 (by lia) (by lia)];exact t1.2⟩
 have l3:=A.gk.lst (n:=0) (by lia) (by lia) l1;simp only[↓WS,↓WE,↓WV,Lq,ß,UU,Ä,↓Ð,l2,hj,al,aU];generalize s2.take U.length=b at J A t3 l3 ⊢;have le3:b.length=U.length:=A.len;obtain⟨f,Yx,ee⟩:=QI a (À 2) none;have e4:su (.ref b.length) (À 2) none (b++[AO.lst (a.map AV.str)])=.ok (.ref (b++[AO.lst (a.map AV.str)]).length) (b++[AO.lst (a.map AV.str)]++[AO.lst (f.map AV.str)]):=by
  show(need (ô (b++[AO.lst (a.map AV.str)]) b.length) λ xs=>R.ok (AV.ref (b++[AO.lst (a.map AV.str)]).length) (b++[AO.lst (a.map AV.str)]++[AO.lst (gQ xs (À 2) none)]))=_;rw[Ė,å,Yx]
 have l:f.Nodup:=by
  rw[ee];unfold gQ;exact(kJ ..).nodup ((Jk ..).nodup E)
 have NI:f.length<=8:=by
  rw[ee];unfold gQ;rw[ū,lV];lia
 have D4:=J.app (e:=[AO.lst (a.map AV.str)]) (J.cl.add (by simp only[Ġ,Ŷ,AO.low,Ŏ];exact aU _ _));have D5:=D4.app (e:=[AO.lst (f.map AV.str)]) (D4.cl.add (by simp only[Ġ,Ŷ,AO.low,Ŏ];exact aU _ _));obtain⟨N,L⟩:∃ N:Á Str,N=[("eur":Str),("coin":Str)]++f:=⟨_,rfl⟩
 have e6:=xg (s:=b++[AO.lst (a.map AV.str)]++[AO.lst (f.map AV.str)]) (û (û l3)) (Ė _ (f.map AV.str)) (by rw[Î];show 2+_<=_;lia);rw[show[AV.str "eur",AV.str "coin"]++f.map AV.str=N.map AV.str by rw[L,Ł];rfl]at e6;have D6:=D5.app (e:=[AO.lst (N.map AV.str)]) (D5.cl.add (by simp only[Ġ,Ŷ,AO.low,Ŏ];exact aU _ _));have O:=Ė (b++[AO.lst (a.map AV.str)]++[AO.lst (f.map AV.str)]) (N.map AV.str);have t6:(b++[AO.lst (a.map AV.str)]++[AO.lst (f.map AV.str)]++[AO.lst (N.map AV.str)])[0]? = À (.tab 20 xN)/\(b++[AO.lst (a.map AV.str)]++[AO.lst (f.map AV.str)]++[AO.lst (N.map AV.str)])[1]? = À (.tab 21 xO):=⟨by rw[È,È,Û (by lia)];exact t3.1,by rw[È,È,Û (by lia)];exact t3.2⟩
 have Zk:(b++[AO.lst (a.map AV.str)]++[AO.lst (f.map AV.str)]).length=b.length+2:=by simp
 simp only[↓WS,↓WE,↓WV,Lq,ß,UU,Ä,↓Ð,↓Ĥ e4,↓Ĥ e6];clear e4 e6 D4 D5;generalize (b++[AO.lst (a.map AV.str)]++[AO.lst (f.map AV.str)]).length=P at O Zk ⊢;generalize b++[AO.lst (a.map AV.str)]++[AO.lst (f.map AV.str)]++[AO.lst (N.map AV.str)]=s6 at D6 t6 O ⊢;have i:∀ z∈f,z∈a:=λ z M=>B7 (ee ▸ M);have lenN:N.length=f.length+2:=by rw[L];simp
 have H:∀ x∈N,x.length<=1000:=λ x hx=>by
  rw[L]at hx;simp only[dU,eL,Þ]at hx;rcases hx with rfl|rfl|hx
  ·decide
  ·decide
  ·exact(Q x (i x hx)).1
 have F:N.Nodup:=by
  rw[L];refine f9.mpr ⟨by decide +kernel,l,λ x hx y hy e=>?_⟩;subst e;simp only[Þ,ÿ,aw]at hx;exact hx.elim (Q _ (i _ hy)).2.1 (Q _ (i _ hy)).2.2
 clear i l E Q J A D2 G2 l2 al I l1 C;have b4:=Fh D6 (by lia) t6 c0 d0 O (by lia) (by lia) (by lia) O (by lia) H F;generalize bX [.ref d,.ref P] s6=rr at b4 ⊢;refine b4.to ?_;rintro _ s7 ⟨rfl,V,T,h⟩;generalize s6.length=B at h ⊢;simp only[↓WS,↓WE,↓WV,Lq,ß,UU,Ä,↓Ð,↓sT];refine⟨⟨by decide,by decide⟩,?_⟩;refine n7 (λ xs k st=>∃ (x0 x3 x6 x7 x8:Ê AV) (z:Nat) (V:Wl),xs.length+z=3/\k=[x0,À (.ref d),À (.ref P),x3,À (.ref B),À (.ref (B+14)),x6,x7,x8]/\vu (10+14 * z) (10+14 * z) V/\LS c d (1000+1000 * z) B P N V V st) ?_ ?_ ?_ _ _ _ ⟨_,none,none,none,none,0,V,by rfl,rfl,T,⟨h.dr.mono (by lia),h.at_,h.t0,h.c0,h.d0,h.nm,h.n0⟩⟩
 ·rintro _ _ st _ p hp;cases hp
 ·rintro k st _;trivial
 ·clear h T V s7;rintro v r k st ⟨x0,x3,x6,x7,x8,z,V,M,rfl,T,h⟩;have M:r.length+1+z=3:=M;walk_at "w";have hl:=h.len;have h6:=h.app (e:=[AO.lst uY]) (h.dr.cl.add (by simp[uY,AO.low,Ĺ,AV.low]));have w6:Wk c d B st (st++[AO.lst uY]):=(Gk.app c d st _).wk B;have lw:=Ė st uY;rw[show[AV.str "rate",AV.str "known",AV.str "rate"]=uY from rfl];generalize st++[AO.lst uY]=s8 at h6 w6 lw ⊢;refine(take1 h6.dr).mono ?_;rintro _ X ⟨q,rfl,q0,q1,D9,K9⟩;have h9:=h6.kp K9 D9;have Zn:ô X st.length=À uY:=K9.gk.lst (n:=0) (by have:=h.c0;lia) (by have:=h.d0;lia) lw;obtain⟨many,em⟩:∃ many:Nat,(5+q:Int)=many:=⟨(5+q).toNat,by lia⟩
  have e9:bS (.int 5) (.int q) X=.ok (.int many) X:=by rw[<-em];rfl
  rw[Ĥ e9];have w9:=EB (many:=many) h9 T (by lia) (by lia) (by lia) (by lia) (by lia) H Zn hl;refine⟨rfl,?_⟩;generalize bt [.ref d,.ref B,.ref (B+14),.ref P,.ref st.length,.int many] X=rr at w9 ⊢;refine w9.to ?_;rintro _ XY ⟨rfl,V8,G,YC,Wq⟩;obtain⟨o,t⟩:=h.cut ((w6.trans (K9.wk B)).trans Wq) YC;refine⟨⟨t,rfl⟩,?_⟩;generalize XY.take st.length=XZ at o ⊢;rw[mD];dsimp only;rw[Ô (by decide)];refine(A2 o.dr (by lia)).mono ?_;rintro _ s12 ⟨k1,rfl,Y,K12⟩;have u:=o.kp K12 Y;refine(A2 u.dr (by lia)).mono ?_;rintro _ ZE ⟨k2,rfl,Z,K13⟩;have w:=u.kp K13 Z;refine⟨vi (by show 8<=1000;lia),vi (by show 4<=1000;lia),?_⟩;have D:=w.app (e:=[AO.lst ([0,1,2,3,39,9999,k1,k2].map AV.int)]) (w.dr.cl.add (by simp only[Ġ,Ŷ,AO.low,Ŏ];exact xP _ _));have Zi:=Ė ZE ([0,1,2,3,39,9999,k1,k2].map AV.int);refine RS.wp.mono (JD D.T7 G (by lia) Zi (by show 8<=100;lia) [("coin":Str),("eur":Str),("usd":Str),("never":Str)] (by decide +kernel) _ _ _ _ _ _) ?_ λ _ _ z=>z;rintro k X1 ⟨y7,y8,e,rfl,rfl,Yr⟩;have g:=D.app Yr;exact⟨_,_,_,_,_,z+1,V8,by lia,rfl,G.mono (by lia) (by lia),⟨g.dr.mono (by lia),g.at_,g.t0,g.c0,g.d0,g.nm,g.n0⟩⟩
end Ro
end
namespace PySem.W.Fast
def tw15927345624214456345:True:=⟨⟩
def tw11477271217396807833:True:=⟨⟩
def tw1665942772517199700:True:=⟨⟩
def tw17541798686544100796:True:=⟨⟩
def tw5482768116008586260:True:=⟨⟩
def tw5605619282865950646:True:=⟨⟩
def tw10467846342687700462:True:=⟨⟩
def tw9267682908473278498:True:=⟨⟩
def tw5985759989131618293:True:=⟨⟩
def tw14727469907310804475:True:=⟨⟩
def tw17669409144715587566:True:=⟨⟩
def tw9028860620952139412:True:=⟨⟩
def tw16867419097325810825:True:=⟨⟩
def tw17548126500083038468:True:=⟨⟩
def tw1381917221604132704:True:=⟨⟩
def tw4000664674026807403:True:=⟨⟩
def tw9101206535324564420:True:=⟨⟩
def tw17277754995286254060:True:=⟨⟩
def tw1495513299905941262:True:=⟨⟩
def tw8644119448547379186:True:=⟨⟩
def tw1875172900464881417:True:=⟨⟩
def tw17902951773113366508:True:=⟨⟩
def tw1778273658645453760:True:=⟨⟩
def tw1825287081664235126:True:=⟨⟩
def tw11355684466517526461:True:=⟨⟩
def tw5723957777721849476:True:=⟨⟩
def tw15091560962084013640:True:=⟨⟩
def tw16012132544035928660:True:=⟨⟩
def tw8627703947373051260:True:=⟨⟩
def tw12692280732725684841:True:=⟨⟩
def tw5631569905089836423:True:=⟨⟩
def tw10233972164621751833:True:=⟨⟩
def tw9075251512683971637:True:=⟨⟩
def tw4383587312945829084:True:=⟨⟩
def tw16491126218809673353:True:=⟨⟩
def tw17925904326609378725:True:=⟨⟩
def tw8702665323832529983:True:=⟨⟩
def tw17538518347940942330:True:=⟨⟩
def tw724706402084875059:True:=⟨⟩
def tw16744734516244340104:True:=⟨⟩
def tw8103206105208742056:True:=⟨⟩
def tw11356182127100957376:True:=⟨⟩
def tw15263593788989227569:True:=⟨⟩
def tw26085498611317891:True:=⟨⟩
def tw6875782498100691237:True:=⟨⟩
def tw12045665574981796968:True:=⟨⟩
def tw11778781318191327119:True:=⟨⟩
def tw731362429167945331:True:=⟨⟩
def tw17138345297386850413:True:=⟨⟩
def tw17889760959244045521:True:=⟨⟩
def tw7586906840516607600:True:=⟨⟩
def tw18346732179423364492:True:=⟨⟩
def tw6729707266765634964:True:=⟨⟩
def tw15494815777227574670:True:=⟨⟩
def tw8017408881436438697:True:=⟨⟩
def tw12179084020954218057:True:=⟨⟩
def tw14972927252902292735:True:=⟨⟩
def tw6574269988824221690:True:=⟨⟩
def tw7213162024623057205:True:=⟨⟩
def tw13602081037317592222:True:=⟨⟩
def tw17421748926791195403:True:=⟨⟩
def tw6956629832187175080:True:=⟨⟩
def tw16337467421562288132:True:=⟨⟩
def tw1471743308427513787:True:=⟨⟩
def tw7989578065549215576:True:=⟨⟩
def tw3721763179900697671:True:=⟨⟩
def tw2827635691033306669:True:=⟨⟩
def tw13773289595199435888:True:=⟨⟩
def tw17583404242684455466:True:=⟨⟩
def tw11661622323555440591:True:=⟨⟩
def tw4401595444946943334:True:=⟨⟩
def tw12087781223664890326:True:=⟨⟩
def tw8672373636770406049:True:=⟨⟩
def tw2819692053369512934:True:=⟨⟩
def tw2483927259251610614:True:=⟨⟩
def tw7783477243224556809:True:=⟨⟩
def tw14385219286499250823:True:=⟨⟩
def tw3737552503758055330:True:=⟨⟩
def tw18315102941462263898:True:=⟨⟩
def tw14470540625881791263:True:=⟨⟩
def tw8879569310932201532:True:=⟨⟩
def tw7269377913958347302:True:=⟨⟩
def tw16437871789620489891:True:=⟨⟩
def tw3831905719769682982:True:=⟨⟩
def tw11796899917266333609:True:=⟨⟩
def tw8431524550576958438:True:=⟨⟩
def tw2260640654409658377:True:=⟨⟩
def tw12012337742429942874:True:=⟨⟩
def tw12058336479816558295:True:=⟨⟩
def tw7858914469943138457:True:=⟨⟩
def tw3280233064471056052:True:=⟨⟩
def tw8357811916343005977:True:=⟨⟩
def tw2120317305123231262:True:=⟨⟩
def tw1233926970242067588:True:=⟨⟩
def tw7979431873009439609:True:=⟨⟩
def tw16138962910968723589:True:=⟨⟩
def tw17405829806510003124:True:=⟨⟩
def tw5596915752717585924:True:=⟨⟩
def tw4074239618496344009:True:=⟨⟩
def tw10740752713558383376:True:=⟨⟩
def tw5335322138434018677:True:=⟨⟩
def tw4583529797027038073:True:=⟨⟩
def tw14802878708058007078:True:=⟨⟩
def tw6392554128905261073:True:=⟨⟩
def tw3179991763905165251:True:=⟨⟩
def tw12504802642178976318:True:=⟨⟩
def tw5488217834267600549:True:=⟨⟩
def tw15196920358269470575:True:=⟨⟩
def tw14278103547024751499:True:=⟨⟩
def tw6022930647798636144:True:=⟨⟩
def tw2827002566942764886:True:=⟨⟩
def tw9793428784246338136:True:=⟨⟩
def tw2509460919988858210:True:=⟨⟩
def tw1580559889961248356:True:=⟨⟩
def tw17785213639316853484:True:=⟨⟩
def tw13662567557153075569:True:=⟨⟩
def tw1644897172035030210:True:=⟨⟩
def tw10091188939890908658:True:=⟨⟩
def tw14141935734332886643:True:=⟨⟩
def tw10665533873901625023:True:=⟨⟩
def tw8330481482498550579:True:=⟨⟩
def tw6585491589244713262:True:=⟨⟩
def tw17566673716709069758:True:=⟨⟩
def tw5086545970864931706:True:=⟨⟩
def tw18046652460951176718:True:=⟨⟩
def tw8693627068477973303:True:=⟨⟩
def tw16322682405068005525:True:=⟨⟩
def tw15596646231549906803:True:=⟨⟩
def tw13120279731526353021:True:=⟨⟩
def tw10173717633051699027:True:=⟨⟩
def tw4310004594097992152:True:=⟨⟩
def tw9909754026782896226:True:=⟨⟩
def tw16937541636819894519:True:=⟨⟩
def tw11767007030911439900:True:=⟨⟩
def tw17111862729504681841:True:=⟨⟩
def tw12137618862818347303:True:=⟨⟩
def tw5150793404271091369:True:=⟨⟩
def tw4274290730594284409:True:=⟨⟩
def tw17176529692174666260:True:=⟨⟩
def tw10017054291650598443:True:=⟨⟩
def tw4645948954747300319:True:=⟨⟩
def tw13317724686772471253:True:=⟨⟩
def tw6494635348055405511:True:=⟨⟩
def tw7914265178448294375:True:=⟨⟩
def tw12728630766534203668:True:=⟨⟩
def tw9405101918929685461:True:=⟨⟩
def tw6435703868402162630:True:=⟨⟩
def tw8746011626606391605:True:=⟨⟩
def tw10360520546330945666:True:=⟨⟩
def tw6644171525137722678:True:=⟨⟩
def tw4654968851952824319:True:=⟨⟩
def tw14765791646738199730:True:=⟨⟩
def tw9558441635973763693:True:=⟨⟩
def tw442969420570653407:True:=⟨⟩
def tw658596878667507768:True:=⟨⟩
def tw15311493074142017028:True:=⟨⟩
def tw3679215245317768802:True:=⟨⟩
def tw10402997731733618909:True:=⟨⟩
def tw9823399204062324182:True:=⟨⟩
def tw3976431718905617884:True:=⟨⟩
def tw979909823729651685:True:=⟨⟩
def tw14610945194829889211:True:=⟨⟩
def tw17614495322520539601:True:=⟨⟩
def tw14597998198349167702:True:=⟨⟩
def tw11557183538582820174:True:=⟨⟩
def tw13829342350683693485:True:=⟨⟩
def tw10101898684216435882:True:=⟨⟩
def tw5056609732733803472:True:=⟨⟩
def tw17440851719226277274:True:=⟨⟩
def tw8258506161360807998:True:=⟨⟩
def tw934778907260615763:True:=⟨⟩
def tw2136201803185244654:True:=⟨⟩
def tw13644022934448954085:True:=⟨⟩
def tw6743640218876003059:True:=⟨⟩
def tw11492886951547248112:True:=⟨⟩
def tw17851344991395672063:True:=⟨⟩
def tw11608423405062049293:True:=⟨⟩
def tw1100083953022864993:True:=⟨⟩
def tw3686613969875198541:True:=⟨⟩
def tw6884874767367660585:True:=⟨⟩
def tw12094122320130869753:True:=⟨⟩
def tw10654131741170645982:True:=⟨⟩
def tw5219610422292970324:True:=⟨⟩
def tw9689343013861867213:True:=⟨⟩
def tw13701304467303415728:True:=⟨⟩
def tw6948750010270398302:True:=⟨⟩
def tw7983769075936170660:True:=⟨⟩
def tw11621071829680329199:True:=⟨⟩
def tw16269151396824425908:True:=⟨⟩
def tw5948981580548773366:True:=⟨⟩
def tw12426927802353439709:True:=⟨⟩
def tw13477861158797880454:True:=⟨⟩
def tw8851845937268393866:True:=⟨⟩
def tw1414418152063238651:True:=⟨⟩
def tw3356223934541776992:True:=⟨⟩
def tw6693578841667234721:True:=⟨⟩
def tw16851014329887901202:True:=⟨⟩
def tw16176196148681949082:True:=⟨⟩
def tw3949611955848660580:True:=⟨⟩
def tw13044046170743971558:True:=⟨⟩
def tw7554692914867070996:True:=⟨⟩
def tw3640555071600008796:True:=⟨⟩
def tw1037115907831602448:True:=⟨⟩
def tw17556289418488812580:True:=⟨⟩
def tw12327791199959375745:True:=⟨⟩
def tw12065435046403764525:True:=⟨⟩
def tw13427080105872831433:True:=⟨⟩
def tw3135365530213679328:True:=⟨⟩
def tw1940511638372666914:True:=⟨⟩
def tw13889877541973663690:True:=⟨⟩
def tw3500743422834691827:True:=⟨⟩
def tw8992663317949914476:True:=⟨⟩
def tw6542964945043183388:True:=⟨⟩
def tw5528628921837667898:True:=⟨⟩
def tw3848959254418138562:True:=⟨⟩
def tw1370135955921001025:True:=⟨⟩
def tw8416224237862381656:True:=⟨⟩
def tw2335879449150387453:True:=⟨⟩
def tw2669471070935462484:True:=⟨⟩
def tw2055547140407707999:True:=⟨⟩
def tw18245235013387037805:True:=⟨⟩
def tw4818457389837275037:True:=⟨⟩
def tw7452915010452599781:True:=⟨⟩
def tw3223130233397918944:True:=⟨⟩
def tw15743616254402994967:True:=⟨⟩
def tw17285012529604516977:True:=⟨⟩
def tw6187760979660965121:True:=⟨⟩
def tw16554989502589185727:True:=⟨⟩
def tw2429820765377580330:True:=⟨⟩
def tw14109083584621775154:True:=⟨⟩
def tw3176148603185802948:True:=⟨⟩
def tw7204557434482202155:True:=⟨⟩
def tw463505976695297695:True:=⟨⟩
def tw12019467802082612444:True:=⟨⟩
def tw9717040783569805195:True:=⟨⟩
def tw14179799992439923387:True:=⟨⟩
def tw4211875144954260197:True:=⟨⟩
def tw865641080221113982:True:=⟨⟩
def tw7579884654242436176:True:=⟨⟩
def tw15170297381499742277:True:=⟨⟩
def tw18078803289995416421:True:=⟨⟩
def tw352835451585127951:True:=⟨⟩
def tw15832959044722710715:True:=⟨⟩
def tw6289885321905359336:True:=⟨⟩
def tw4911058780204719540:True:=⟨⟩
def tw15063368326757083243:True:=⟨⟩
def tw13830612119291058892:True:=⟨⟩
def tw5780832274408274139:True:=⟨⟩
def tw1559147102721694364:True:=⟨⟩
def tw863817087149611902:True:=⟨⟩
def tw4690131494805093109:True:=⟨⟩
def tw8164732247983788071:True:=⟨⟩
def tw4646616879066739709:True:=⟨⟩
def tw15316487360023957923:True:=⟨⟩
def tw13840776936870861493:True:=⟨⟩
def tw13262542857573747044:True:=⟨⟩
def tw12221063575076419884:True:=⟨⟩
def tw8486935806322726671:True:=⟨⟩
def tw18390290690969306222:True:=⟨⟩
def tw12746563285187520966:True:=⟨⟩
def tw12363283020928685610:True:=⟨⟩
def tw582312367778804899:True:=⟨⟩
def tw15076493714471112956:True:=⟨⟩
def tw10793033048219682780:True:=⟨⟩
def tw3807411039308089176:True:=⟨⟩
def tw17876778775207397593:True:=⟨⟩
def tw15968137493090360434:True:=⟨⟩
def tw14902550250331750419:True:=⟨⟩
def tw13829817893953645362:True:=⟨⟩
def tw10811502936650344138:True:=⟨⟩
def tw9331742029430721667:True:=⟨⟩
def tw17457651938182215865:True:=⟨⟩
def tw14763677329500956399:True:=⟨⟩
def tw1447754283233135239:True:=⟨⟩
def tw3579978533702878917:True:=⟨⟩
def tw3006693760800306981:True:=⟨⟩
def tw18052640497961015690:True:=⟨⟩
def tw1476324336839232627:True:=⟨⟩
def tw13017107338499236362:True:=⟨⟩
def tw9224169165841838053:True:=⟨⟩
def tw13028437909130868512:True:=⟨⟩
def tw2048490871685177183:True:=⟨⟩
def tw1569653141749782177:True:=⟨⟩
def tw8360659899928003844:True:=⟨⟩
def tw8295106888184056371:True:=⟨⟩
def tw6168964071474177808:True:=⟨⟩
def tw4128427365923462256:True:=⟨⟩
def tw15038226052049310753:True:=⟨⟩
def tw14433992627843720967:True:=⟨⟩
def tw14135230271461548754:True:=⟨⟩
def tw11481344462715171314:True:=⟨⟩
def tw9774233929953291241:True:=⟨⟩
def tw8200084654146854088:True:=⟨⟩
def tw466463450950244942:True:=⟨⟩
def tw16005694207934381740:True:=⟨⟩
def tw13368710720078152282:True:=⟨⟩
def tw10507315184400756808:True:=⟨⟩
def tw5117697950966120262:True:=⟨⟩
def tw2365521564481853048:True:=⟨⟩
def tw13791199385601537153:True:=⟨⟩
def tw1225822716173907342:True:=⟨⟩
def tw16912222683485305853:True:=⟨⟩
def tw11902790434952017735:True:=⟨⟩
def tw16682124578094338630:True:=⟨⟩
def tw1465873382796976934:True:=⟨⟩
def tw3921181720064515702:True:=⟨⟩
def tw16333064172302633151:True:=⟨⟩
def tw11151616410082980296:True:=⟨⟩
def tw8529717714861036354:True:=⟨⟩
def tw4401388120076507400:True:=⟨⟩
def tw9091580348563158596:True:=⟨⟩
def tw4496442267406480856:True:=⟨⟩
def tw17302229616590690169:True:=⟨⟩
def tw671408482432160342:True:=⟨⟩
def tw11164388689890579214:True:=⟨⟩
def tw7104727373120996080:True:=⟨⟩
def tw1146152829230533233:True:=⟨⟩
def tw10916928170428125766:True:=⟨⟩
def tw18114920381254341724:True:=⟨⟩
def tw15855919582988896303:True:=⟨⟩
def tw13820991448425265594:True:=⟨⟩
def tw5892171780815269965:True:=⟨⟩
def tw4886375953844034738:True:=⟨⟩
def tw5411478346741527438:True:=⟨⟩
def tw5940823924496486423:True:=⟨⟩
def tw5330955407016203292:True:=⟨⟩
def tw3364270680538807688:True:=⟨⟩
def tw18306697958498701426:True:=⟨⟩
def tw5239385204130031875:True:=⟨⟩
def tw2361178057760095967:True:=⟨⟩
def tw13488625342175280572:True:=⟨⟩
def tw10739227255371636494:True:=⟨⟩
def tw8947298629478952346:True:=⟨⟩
def tw8475652277092472502:True:=⟨⟩
def tw10827879355627376513:True:=⟨⟩
def tw8269918561413396772:True:=⟨⟩
def tw16030750350717742594:True:=⟨⟩
def tw6638659476579516234:True:=⟨⟩
def tw14555480199278942310:True:=⟨⟩
def tw1383938616827931691:True:=⟨⟩
def tw6761060458316039270:True:=⟨⟩
def tw1677656821630234803:True:=⟨⟩
def tw12870790502318631174:True:=⟨⟩
def tw2507007709986137903:True:=⟨⟩
def tw18160130074456097307:True:=⟨⟩
def tw17632293506932224860:True:=⟨⟩
def tw13754573426762842251:True:=⟨⟩
def tw8274394912020310060:True:=⟨⟩
def tw9320886899536600710:True:=⟨⟩
def tw16473777161573473875:True:=⟨⟩
def tw11756484197433565739:True:=⟨⟩
def tw6740301485132244060:True:=⟨⟩
def tw15283117300861010689:True:=⟨⟩
def tw15148128737563530221:True:=⟨⟩
def tw10757310130505103264:True:=⟨⟩
def tw11163149616801176584:True:=⟨⟩
def tw6103853644257007173:True:=⟨⟩
def tw4528702613524306045:True:=⟨⟩
def tw1207481978526068044:True:=⟨⟩
def tw6371322127164776338:True:=⟨⟩
def tw2157198294624328881:True:=⟨⟩
def tw18254733457113414037:True:=⟨⟩
def tw16055690521436866236:True:=⟨⟩
def tw11745412558432063561:True:=⟨⟩
def tw5714785638993317759:True:=⟨⟩
def tw2010005125117714985:True:=⟨⟩
def tw8844444356280517900:True:=⟨⟩
def tw3638565498739997995:True:=⟨⟩
def tw10112898273679281740:True:=⟨⟩
def tw15356391642508817196:True:=⟨⟩
def tw3623617049546302711:True:=⟨⟩
def tw13965461204017185336:True:=⟨⟩
def tw9960763787846302639:True:=⟨⟩
def tw8606143336636525230:True:=⟨⟩
def tw5806327150783468170:True:=⟨⟩
def tw475733672736817787:True:=⟨⟩
def tw4218126396225769413:True:=⟨⟩
def tw2636359106848499146:True:=⟨⟩
def tw2254690338742023728:True:=⟨⟩
def tw17982414302726997980:True:=⟨⟩
def tw15404879694381120332:True:=⟨⟩
def tw1503310936407715612:True:=⟨⟩
def tw1098052818554313053:True:=⟨⟩
def tw10562874617671981521:True:=⟨⟩
def tw10263750644082787373:True:=⟨⟩
def tw2012094587171810799:True:=⟨⟩
def tw8128625015616838450:True:=⟨⟩
def tw8906912977525506967:True:=⟨⟩
def tw3692124896590768628:True:=⟨⟩
def tw9990262115661802151:True:=⟨⟩
def tw8882419519597510193:True:=⟨⟩
def tw8308337699636938996:True:=⟨⟩
def tw7608838637179748730:True:=⟨⟩
def tw6831060233514234795:True:=⟨⟩
def tw6569159594956781703:True:=⟨⟩
def tw6442193429769173877:True:=⟨⟩
def tw1849752860287671718:True:=⟨⟩
def tw16079768871859190319:True:=⟨⟩
def tw14953236595454952367:True:=⟨⟩
def tw1484840071641695117:True:=⟨⟩
def tw14215350876373392895:True:=⟨⟩
def tw12475641362093055780:True:=⟨⟩
def tw11311834645995314315:True:=⟨⟩
def tw11137335169488361150:True:=⟨⟩
def tw17377803308477001369:True:=⟨⟩
def tw13927778546319734152:True:=⟨⟩
def tw13523940415663443299:True:=⟨⟩
def tw7040436416376375294:True:=⟨⟩
def tw4167301850105114507:True:=⟨⟩
def tw16769437052958740827:True:=⟨⟩
def tw18215940840784979986:True:=⟨⟩
def tw8456562324655832928:True:=⟨⟩
def tw6898218916837017114:True:=⟨⟩
def tw5433238800695058105:True:=⟨⟩
def tw4739423910845827273:True:=⟨⟩
def tw4224980587704081746:True:=⟨⟩
def tw17824522501168088040:True:=⟨⟩
def tw17574111060085110470:True:=⟨⟩
def tw16796448286169284570:True:=⟨⟩
def tw16114486431958190197:True:=⟨⟩
def tw15190227493416817698:True:=⟨⟩
def tw14560888857394469467:True:=⟨⟩
def tw12234845959375420067:True:=⟨⟩
def tw17791689666830162256:True:=⟨⟩
def tw10535792540291340485:True:=⟨⟩
def tw8139378983225465474:True:=⟨⟩
def tw7370378659043816045:True:=⟨⟩
def tw6352939460454329418:True:=⟨⟩
def tw497653313723452652:True:=⟨⟩
def tw2304052593571407785:True:=⟨⟩
def tw17277334344353564115:True:=⟨⟩
def tw16375663506656111510:True:=⟨⟩
def tw15945140908320301869:True:=⟨⟩
def tw13821691271836698890:True:=⟨⟩
def tw13467119504248451184:True:=⟨⟩
def tw10556784988692448548:True:=⟨⟩
def tw9971042361847346295:True:=⟨⟩
def tw9810432476020635812:True:=⟨⟩
def tw3251168674883192349:True:=⟨⟩
def tw2550015051863434592:True:=⟨⟩
def tw2421745581637842465:True:=⟨⟩
def tw16888173920560207574:True:=⟨⟩
def tw15815289918591162331:True:=⟨⟩
def tw14587451232544481104:True:=⟨⟩
def tw13276197975545385:True:=⟨⟩
def tw12715400236553484391:True:=⟨⟩
def tw12491995311409366569:True:=⟨⟩
def tw3119485367081876761:True:=⟨⟩
def tw1925702865652647567:True:=⟨⟩
def tw1623768419486993239:True:=⟨⟩
end PySem.W.Fast
open PySem PySem.W PyProof.Rows
set_option maxRecDepth 100000 in
set_option maxHeartbeats 0 in
theorem PySem.Challenge.cw_royaltree_k15_makers_and_worths_holds : PySem.Challenge.rw_royaltree_k15_makers_and_worths.Holds := by
 w_on;o_law;k_head;(case hw=>w_witness2)
 k_fill
 refine Ro.Ti (l:=PySem.Challenge.rw_royaltree_k15_makers_and_worths) _ [(20,"by_days.<locals>.<lambda>"),(21,"_law_worth.<locals>.<lambda>")] Ro.tR 12 (by decide) ⟨rfl,rfl,by decide,by decide⟩ Ro.NH rfl rfl (λ w h Y=>PySem.W.km_in_of Y) (λ w h Y=>PySem.W.km_tabs_of Y) ?TC ?TK ?F;case TC=>
  intro w h KX;refine List.forall_mem_cons.mpr ⟨?_,List.forall_mem_cons.mpr ⟨?_,λ _ z=>nomatch z⟩⟩
  ·refine' Ro.MI (x:="by_days") (st:=Ro.top 16) ?a ?l ?c;(case a=>k_is);(case l=>k_is);(case c=>first|k_is|kernel_rfl|rfl)
  ·refine' Ro.MI (x:="_law_worth") (st:=Ro.top 25) ?a ?l ?c;(case a=>k_is);(case l=>k_is);(case c=>first|k_is|kernel_rfl|rfl)
 case TK=>
  intro w h KX;refine List.forall_mem_cons.mpr ⟨?_,List.forall_mem_cons.mpr ⟨?_,λ _ z=>nomatch z⟩⟩<;>
  first|k_is|kernel_rfl|rfl
 case F=>
  intro w mg fa h KX G Y0;refine' Ro.Ni KX G Y0 ?x0 ?x1 ?x2 ?x3 ?x4 ?x5 ?x6 ?x7 ?x8 ?b ?b8 ?u5 ?u6 ?oH ?jb ?cP ?u7 ?ű ?fm ?jc ?u9 ?dm ?ş ?u_ ?iB ?va ?lA ?Ű ?fZ ?uC ?d0 ?d1 ?d2 ?d3 ?d4 ?d5 ?d6 ?d7 ?d8 ?d9 ?QJ ?QK ?QL ?QM ?QN ?QO ?QP ?QQ ?QR ?QS ?QT ?QU ?QV ?QW ?QX ?QY ?QZ ?Q0 ?Q1 ?Q2 ?Q3 ?Q4 ?Q5 ?Q6 ?Q7 ?Q8 ?Q9 ?Q_ ?Ra ?Rb ?Rc ?Rf ?Rg ?Rh ?Ri ?Rj;(case x0=>(refine' Ro.pP KX G ?a ?l ?n ?s ?k ?g ?h ?j ?cn ?ct ?i;(case a=>k_is);(case l=>k_is);(case n=>k_is);(case s=>first|rfl|decide +kernel);(case k=>k_is);(case g=>k_is);(case h=>k_is);(case j=>k_is);(case cn=>k_is);(case ct=>k_is);(case i=>first|rfl|decide +kernel)));(case x1=>(refine' Ro.pP KX G ?a ?l ?n ?s ?k ?g ?h ?j ?cn ?ct ?i;(case a=>k_is);(case l=>k_is);(case n=>k_is);(case s=>first|rfl|decide +kernel);(case k=>k_is);(case g=>k_is);(case h=>k_is);(case j=>k_is);(case cn=>k_is);(case ct=>k_is);(case i=>first|rfl|decide +kernel)));(case x2=>(refine' Ro.pP KX G ?a ?l ?n ?s ?k ?g ?h ?j ?cn ?ct ?i;(case a=>k_is);(case l=>k_is);(case n=>k_is);(case s=>first|rfl|decide +kernel);(case k=>k_is);(case g=>k_is);(case h=>k_is);(case j=>k_is);(case cn=>k_is);(case ct=>k_is);(case i=>first|rfl|decide +kernel)));(case x3=>(refine' Ro.pP KX G ?a ?l ?n ?s ?k ?g ?h ?j ?cn ?ct ?i;(case a=>k_is);(case l=>k_is);(case n=>k_is);(case s=>first|rfl|decide +kernel);(case k=>k_is);(case g=>k_is);(case h=>k_is);(case j=>k_is);(case cn=>k_is);(case ct=>k_is);(case i=>first|rfl|decide +kernel)));(case x4=>(refine' Ro.pP KX G ?a ?l ?n ?s ?k ?g ?h ?j ?cn ?ct ?i;(case a=>k_is);(case l=>k_is);(case n=>k_is);(case s=>first|rfl|decide +kernel);(case k=>k_is);(case g=>k_is);(case h=>k_is);(case j=>k_is);(case cn=>k_is);(case ct=>k_is);(case i=>first|rfl|decide +kernel)));(case x5=>(refine' Ro.pP KX G ?a ?l ?n ?s ?k ?g ?h ?j ?cn ?ct ?i;(case a=>k_is);(case l=>k_is);(case n=>k_is);(case s=>first|rfl|decide +kernel);(case k=>k_is);(case g=>k_is);(case h=>k_is);(case j=>k_is);(case cn=>k_is);(case ct=>k_is);(case i=>first|rfl|decide +kernel)));(case x6=>(refine' Ro.pP KX G ?a ?l ?n ?s ?k ?g ?h ?j ?cn ?ct ?i;(case a=>k_is);(case l=>k_is);(case n=>k_is);(case s=>first|rfl|decide +kernel);(case k=>k_is);(case g=>k_is);(case h=>k_is);(case j=>k_is);(case cn=>k_is);(case ct=>k_is);(case i=>first|rfl|decide +kernel)));(case x7=>(refine' Ro.pP KX G ?a ?l ?n ?s ?k ?g ?h ?j ?cn ?ct ?i;(case a=>k_is);(case l=>k_is);(case n=>k_is);(case s=>first|rfl|decide +kernel);(case k=>k_is);(case g=>k_is);(case h=>k_is);(case j=>k_is);(case cn=>k_is);(case ct=>k_is);(case i=>first|rfl|decide +kernel)));(case x8=>(refine' Ro.pP KX G ?a ?l ?n ?s ?k ?g ?h ?j ?cn ?ct ?i;(case a=>k_is);(case l=>k_is);(case n=>k_is);(case s=>first|rfl|decide +kernel);(case k=>k_is);(case g=>k_is);(case h=>k_is);(case j=>k_is);(case cn=>k_is);(case ct=>k_is);(case i=>first|rfl|decide +kernel)));(case b=>(refine' Ro.Qz (nm:="Book") ?ba ?bp ?bd ?bo ?bs ?bn;(case ba=>k_is);(case bp=>k_is);(case bd=>k_is);(case bo=>k_is);(case bs=>k_is);(case bn=>exact List.forall_mem_cons.mpr ⟨by k_is,List.forall_mem_cons.mpr ⟨by k_is,List.forall_mem_cons.mpr ⟨by k_is,List.forall_mem_cons.mpr ⟨by k_is,List.forall_mem_cons.mpr ⟨by k_is,List.forall_mem_cons.mpr ⟨by k_is,List.forall_mem_cons.mpr ⟨by k_is,List.forall_mem_cons.mpr ⟨by k_is,Ro.Oo⟩⟩⟩⟩⟩⟩⟩⟩)));(case b8=>k_is);(case u5=>k_is);(case u6=>k_is);(case oH=>k_is);(case jb=>k_is);(case cP=>k_is);(case u7=>k_is);(case ű=>k_is);(case fm=>k_is);(case jc=>k_is);(case u9=>k_is);(case dm=>k_is);(case ş=>k_is);(case u_=>k_is);(case iB=>k_is);(case va=>k_is);(case lA=>(refine' Ro.Cu (x:="COIN") (v:=.str "coin") KX G ?a ?r ?w;(case a=>k_is);(case r=>exact⟨_,rfl⟩);(case w=>exact λ ρ H=>by unfold Mm.VR;rfl)));(case Ű=>(refine' Ro.Cu (x:="FIRST_HALF_DAYS") (v:=.int 182) KX G ?a ?r ?w;(case a=>k_is);(case r=>exact⟨_,rfl⟩);(case w=>exact λ ρ H=>by unfold Mm.VR;rfl)));(case fZ=>(refine' Ro.Gh (x:="NOTHING") (vs:=[.int 0,.int 1]) KX G ?a ?l ?v ?s ?w;(case a=>k_is);(case l=>k_is);(case v=>exact .cons ⟨_,rfl⟩ (.cons ⟨_,rfl⟩ (.nil)));(case s=>decide);(case w=>exact λ ρ H=>.cons (by unfold Mm.VR;rfl) (.cons (by unfold Mm.VR;rfl) (.nil)))));(case uC=>(refine' Ro.Gh (x:="ONE") (vs:=[.int 1,.int 1]) KX G ?a ?l ?v ?s ?w;(case a=>k_is);(case l=>k_is);(case v=>exact .cons ⟨_,rfl⟩ (.cons ⟨_,rfl⟩ (.nil)));(case s=>decide);(case w=>exact λ ρ H=>.cons (by unfold Mm.VR;rfl) (.cons (by unfold Mm.VR;rfl) (.nil)))));(case d0=>(refine' Ro.FF KX G rfl ?a ?l ?c ?k ?h;(case a=>k_is);(case l=>k_is);(case c=>k_is);(case k=>k_is);(case h=>first|k_is|kernel_rfl|rfl)));(case d1=>(refine' Ro.Nf KX G rfl ?g ?a ?l ?c ?k ?f ?m ?kc;(case g=>k_is);(case a=>k_is);(case l=>k_is);(case c=>k_is);(case k=>k_is);(case f=>k_is);(case m=>k_is);(case kc=>k_is)));(case d2=>(refine' Ro.bK rfl ?a ?l ?c ?k ?f;(case a=>k_is);(case l=>k_is);(case c=>k_is);(case k=>k_is);(case f=>k_is)));(case d3=>(refine' Ro.bK rfl ?a ?l ?c ?k ?f;(case a=>k_is);(case l=>k_is);(case c=>k_is);(case k=>k_is);(case f=>k_is)));(case d4=>(refine' Ro.bK rfl ?a ?l ?c ?k ?f;(case a=>k_is);(case l=>k_is);(case c=>k_is);(case k=>k_is);(case f=>k_is)));(case d5=>(refine' Ro.bK rfl ?a ?l ?c ?k ?f;(case a=>k_is);(case l=>k_is);(case c=>k_is);(case k=>k_is);(case f=>k_is)));(case d6=>(refine' Ro.bK rfl ?a ?l ?c ?k ?f;(case a=>k_is);(case l=>k_is);(case c=>k_is);(case k=>k_is);(case f=>k_is)));(case d7=>(refine' Ro.bK rfl ?a ?l ?c ?k ?f;(case a=>k_is);(case l=>k_is);(case c=>k_is);(case k=>k_is);(case f=>k_is)));(case d8=>(refine' Ro.bK rfl ?a ?l ?c ?k ?f;(case a=>k_is);(case l=>k_is);(case c=>k_is);(case k=>k_is);(case f=>k_is)));(case d9=>(refine' Ro.bK rfl ?a ?l ?c ?k ?f;(case a=>k_is);(case l=>k_is);(case c=>k_is);(case k=>k_is);(case f=>k_is)));(case QJ=>(refine' Ro.bK rfl ?a ?l ?c ?k ?f;(case a=>k_is);(case l=>k_is);(case c=>k_is);(case k=>k_is);(case f=>k_is)));(case QK=>(refine' Ro.bK rfl ?a ?l ?c ?k ?f;(case a=>k_is);(case l=>k_is);(case c=>k_is);(case k=>k_is);(case f=>k_is)));(case QL=>(refine' Ro.bK rfl ?a ?l ?c ?k ?f;(case a=>k_is);(case l=>k_is);(case c=>k_is);(case k=>k_is);(case f=>k_is)));(case QM=>(refine' Ro.bK rfl ?a ?l ?c ?k ?f;(case a=>k_is);(case l=>k_is);(case c=>k_is);(case k=>k_is);(case f=>k_is)));(case QN=>(refine' Ro.bK rfl ?a ?l ?c ?k ?f;(case a=>k_is);(case l=>k_is);(case c=>k_is);(case k=>k_is);(case f=>k_is)));(case QO=>(refine' Ro.bK rfl ?a ?l ?c ?k ?f;(case a=>k_is);(case l=>k_is);(case c=>k_is);(case k=>k_is);(case f=>k_is)));(case QP=>(refine' Ro.bK rfl ?a ?l ?c ?k ?f;(case a=>k_is);(case l=>k_is);(case c=>k_is);(case k=>k_is);(case f=>k_is)));(case QQ=>(refine' Ro.bK rfl ?a ?l ?c ?k ?f;(case a=>k_is);(case l=>k_is);(case c=>k_is);(case k=>k_is);(case f=>k_is)));(case QR=>(refine' Ro.bK rfl ?a ?l ?c ?k ?f;(case a=>k_is);(case l=>k_is);(case c=>k_is);(case k=>k_is);(case f=>k_is)));(case QS=>(refine' Ro.bK rfl ?a ?l ?c ?k ?f;(case a=>k_is);(case l=>k_is);(case c=>k_is);(case k=>k_is);(case f=>k_is)));(case QT=>(refine' Ro.bK rfl ?a ?l ?c ?k ?f;(case a=>k_is);(case l=>k_is);(case c=>k_is);(case k=>k_is);(case f=>k_is)));(case QU=>(refine' Ro.bK rfl ?a ?l ?c ?k ?f;(case a=>k_is);(case l=>k_is);(case c=>k_is);(case k=>k_is);(case f=>k_is)));(case QV=>(refine' Ro.cI KX G ?a ?l ?c ?k;(case a=>k_is);(case l=>k_is);(case c=>k_is);(case k=>k_is)));(case QW=>(refine' Ro.cI KX G ?a ?l ?c ?k;(case a=>k_is);(case l=>k_is);(case c=>k_is);(case k=>k_is)));(case QX=>(refine' Ro.cI KX G ?a ?l ?c ?k;(case a=>k_is);(case l=>k_is);(case c=>k_is);(case k=>k_is)));(case QY=>(refine' Ro.cI KX G ?a ?l ?c ?k;(case a=>k_is);(case l=>k_is);(case c=>k_is);(case k=>k_is)));(case QZ=>(refine' Ro.cI KX G ?a ?l ?c ?k;(case a=>k_is);(case l=>k_is);(case c=>k_is);(case k=>k_is)));(case Q0=>(refine' Ro.cI KX G ?a ?l ?c ?k;(case a=>k_is);(case l=>k_is);(case c=>k_is);(case k=>k_is)));(case Q1=>(refine' Ro.FF KX G rfl ?a ?l ?c ?k ?h;(case a=>k_is);(case l=>k_is);(case c=>k_is);(case k=>k_is);(case h=>first|k_is|kernel_rfl|rfl)));(case Q2=>(refine' Ro.cI KX G ?a ?l ?c ?k;(case a=>k_is);(case l=>k_is);(case c=>k_is);(case k=>k_is)));(case Q3=>(refine' Ro.cI KX G ?a ?l ?c ?k;(case a=>k_is);(case l=>k_is);(case c=>k_is);(case k=>k_is)));(case Q4=>(refine' Ro.cI KX G ?a ?l ?c ?k;(case a=>k_is);(case l=>k_is);(case c=>k_is);(case k=>k_is)));(case Q5=>(refine' Ro.cI KX G ?a ?l ?c ?k;(case a=>k_is);(case l=>k_is);(case c=>k_is);(case k=>k_is)));(case Q6=>(refine' Ro.cI KX G ?a ?l ?c ?k;(case a=>k_is);(case l=>k_is);(case c=>k_is);(case k=>k_is)));(case Q7=>(refine' Ro.cI KX G ?a ?l ?c ?k;(case a=>k_is);(case l=>k_is);(case c=>k_is);(case k=>k_is)));(case Q8=>(refine' Ro.cI KX G ?a ?l ?c ?k;(case a=>k_is);(case l=>k_is);(case c=>k_is);(case k=>k_is)));(case Q9=>(refine' Ro.cI KX G ?a ?l ?c ?k;(case a=>k_is);(case l=>k_is);(case c=>k_is);(case k=>k_is)));(case Q_=>(refine' Ro.cI KX G ?a ?l ?c ?k;(case a=>k_is);(case l=>k_is);(case c=>k_is);(case k=>k_is)));(case Ra=>(refine' Ro.cI KX G ?a ?l ?c ?k;(case a=>k_is);(case l=>k_is);(case c=>k_is);(case k=>k_is)));(case Rb=>(refine' Ro.cI KX G ?a ?l ?c ?k;(case a=>k_is);(case l=>k_is);(case c=>k_is);(case k=>k_is)));(case Rc=>(refine' Ro.cI KX G ?a ?l ?c ?k;(case a=>k_is);(case l=>k_is);(case c=>k_is);(case k=>k_is)));(case Rf=>(refine' Ro.cI KX G ?a ?l ?c ?k;(case a=>k_is);(case l=>k_is);(case c=>k_is);(case k=>k_is)));(case Rg=>(refine' Ro.cI KX G ?a ?l ?c ?k;(case a=>k_is);(case l=>k_is);(case c=>k_is);(case k=>k_is)));(case Rh=>(refine' Ro.cI KX G ?a ?l ?c ?k;(case a=>k_is);(case l=>k_is);(case c=>k_is);(case k=>k_is)));(case Ri=>(refine' Ro.cI KX G ?a ?l ?c ?k;(case a=>k_is);(case l=>k_is);(case c=>k_is);(case k=>k_is)));(case Rj=>(refine' Ro.cI KX G ?a ?l ?c ?k;(case a=>k_is);(case l=>k_is);(case c=>k_is);(case k=>k_is)))
