import PyProof.Rows.All
import Wide.All
import OpenK.AllK
import Wide.FinOn
import Lean
import PyProof.EqAt
import PyProof.EqKinds
import PyProof.TupleCall
import PySem.Challenge.RW_royaltree_k11_whole_units_parted
set_option bootstrap.genMatcherCode false
set_option genSizeOf false
set_option Elab.async false
set_option linter.all false
set_option maxRecDepth 100000
noncomputable section
open And renaming intro->QZ
open Array renaming length_toList->Ď,getElem?_toList->ĕ,getD_eq_getD_getElem?->Ŕ,getElem?_eq_some_iff->jL,perm_iff_toList_perm->jM,getElem?_eq_none->mK,mem_toList_iff->oZ,toList->C4,toList_push->L5,toList_inj->MA
open Array.Perm renaming refl->dX
open Bool renaming false_ne_true->è,false_eq_true->ą,and_eq_true->ł,and_eq_true_iff->Ÿ,eq_iff_iff->aY,and_true->dm,not_false->gH,not_true->lW,or_eq_true->om,and_false->Ab,false_and->Ac,false_or->CJ,or_false->CK,not_eq_true'->MB,true_or->YB
open Classical renaming propDecidable->eV
open False renaming elim->bw
open ForInStep renaming yield->bB
open Int renaming gcd->í,mul_ne_zero->cb,toNat_natCast->cj,mul_comm->c6,mul_pos->dY,natAbs_mul->dZ,mul_assoc->fu,natAbs_dvd_natAbs->iy,gcd_dvd_left->iD,eq_of_mul_eq_mul_right->ko,fdiv_eq_ediv_of_nonneg->kq,fmod_eq_emod_of_nonneg->kr,mul_right_comm->kz,gcd_dvd_right->lX,fmod_nonneg_of_pos->oo,fmod_lt_of_pos->tI,mul_nonpos_of_nonpos_of_nonneg->tJ,dvd_refl->uQ,mul_one->xD,one_mul->xE,gcd_add_mul_right_left->AA,gcd_dvd_natAbs_right->C5,le_refl->Io,mul_fdiv_cancel->L9,emod_lt_of_pos->MC,gcd_zero_right->MD,natAbs_natCast->ME,not_lt->MF,gcd_mul_right->PV,mul_left_comm->PX,emod_nonneg->UT,mul_le_mul->VO,gcd_comm->Zv,add_mul->abj,neg_dvd->abk,neg_mul->abl
open List renaming length_map->Æ,map_cons->È,getElem?_eq_some_iff->Ë,getElem?_eq_getElem->Ñ,mem_cons->Ò,replicate->Ü,size_toArray->Ý,mem_map->â,map_append->ä,length_cons->å,append_assoc->æ,mem_append_right->ç,getElem?_append_left->é,mem_append->ê,mem_singleton->ñ,getElem?_map->ò,map_map->ó,getElem?_set_ne->ô,length_append->õ,all_eq_true->ü,getElem?_append_right->Ā,not_mem_nil->Ĉ,mem_cons_of_mem->Ċ,getElem?_set_self->đ,mem_cons_self->Ġ,pairwise_cons->ġ,range->Ģ,all_cons->Ĩ,mem_append_left->İ,toArray->ı,map_congr_left->Ļ,replicate_succ->ļ,nil_append->ľ,lookup_cons->Ń,flatMap_cons->ņ,mem_of_getElem?->Ŋ,take_left'->Ő,nodup_nil->Š,length_set->š,nodup_cons->Ţ,length_eq_zero_iff->Ź,flatten_cons->ag,drop_eq_getElem_cons->au,cons_append->aC,map_nil->aE,mem_filter->aZ,prefix_rfl->a7,getElem_of_mem->bc,getD_eq_getElem?_getD->bC,length_filter_le->bE,length->cf,any_cons->cw,getElem?_take_of_lt->cx,mem_map_of_mem->cC,filter_cons->cF,filter_cons_of_neg->cG,getElem_mem->cH,length_nil->dj,length_eraseIdx_of_lt->dR,length_take->eG,append_nil->fw,find?_cons->fz,prefix_append->fR,nodup_append->gI,take_left->gJ,getElem?_eq_none->h9,drop_length->iz,getElem_inj->iA,all_nil->jq,mapM_cons->kg,perm_ext_iff_of_nodup->kh,mapM_nil->lY,filter_cons_of_pos->mG,all_map->nW,forIn_cons->ou,getElem?_toArray->oJ,filterMap_cons->rD,lookup_append->sR,mem_replicate->sS,countP_cons->wJ,isEmpty_nil->wK,filter_map->xF,foldl_cons->xG,of_mem_zip->xH,mem_range->Ae,getLastD_eq_getLast?->AB,pairwise_iff_getElem->AD,filterMap_cons_none->CO,filterMap_cons_some->CP,getElem?_replicate->C6,pairwise_singleton->C7,range_succ_eq_map->EE,length_pos_iff->Ip,filter_append->L',filter_filter->Ma,foldl->Mb,mem_filterMap->Mc,zip_cons_cons->Md,ext_getElem?->MG,filter_congr->MH,length_range->MI,map_dropLast->MJ,pairwise_map->MK,take_sublist->ML,ext_getElem->PY,length_drop->PZ,mem_flatten->P0,perm_middle->P1,zipIdx_cons->P2,length_zip->Q5,zipIdx_nil->Q6,forIn_nil->UW,map_set->YH,lookup->Zx
open List.Pairwise renaming nil->ot,filterMap->Zw
open List.Perm renaming cons->mM,refl->uR,append_left->Ad
open List.cons renaming injEq->aI,inj->L_
open Nat renaming reduceSub->Ì,le_refl->Î,lt_of_lt_of_le->ö,le_trans->ā,zero_le->Ă,ne_of_lt->Ć,le_of_lt->Ŀ,lt_irrefl->ŉ,le_of_eq->eO,le_add_right->iF,lt_succ_self->iG,lt_of_le_of_lt->kA,lt_succ_of_lt->lZ,le_mul_of_pos_right->mN,ne_of_gt->ow,not_lt_zero->oK,mul_le_mul_right->qb,le_of_succ_le->uS,sub_self->uT,le_of_not_lt->wX,eq_of_mul_eq_mul_right->AE,not_lt->AF,lt_or_ge->Gp,lt_trans->Gq,lt_or_eq_of_le->MM,gcd->P4,succ_le_succ->Q7,dvd_trans->YI,le_of_dvd->YJ,reduceAdd->YK,succ_mul->Zy,Coprime->abm,le_succ->abn,log2_lt->abo,mul_add->abp,mul_one->abq,one_mul->abr
open Nat.Coprime renaming mul_left->ab3,mul_right->ab4
open Nat.succ renaming inj->fS
open Ne renaming symm->bR
open Option renaming some->À,map_some->iO,bind_some->l0,getD_none->uk,getD_some->um,isSome_iff_exists->Af,isSome_some->HW,map->YL
open Option.some renaming inj->ă
open Or renaming inl->HX,inr->P5
open PUnit renaming unit->jN
open Prod renaming fst->Ag,snd->Ah
open PyProof renaming noPylong_of_log2->yK
open PyProof.Rows renaming slot_tuple_getitem->œ,seqObj->a9,callWith_type1->cI,AllBare->p9,IntsAre->qa,mirror_perm->tV,boot_sorted->uq,listUpdate_at->wO,assignInOrder_cons->w6,envOfC->w8,envOfC->yJ,bubble->AN,mirror_size->CW,seqEpoch_at->CY,subscriptTail->IA,subscriptTail_builtinR->MV,SortKind->Q_,entry_tuple_getitem->U0,Subscript_->V0,args_tuple_getitem->V1,sortedHeap->V3,IsTup->YG,assignInOrder_nil->YS,boot_zip->abt,callWith_builtin1->abu,tuple_addW0->abv,entry_list_sort->abQ,get?_update_seq->abR,list_sort_plain->abS
open PyProof.Rows.IsTup renaming new->CM
open PyProof.Rows.KeyOrd renaming kle_of_not_klt->bx,kle_refl->bQ,kle_of_klt->fZ,kle_trans->hX,kle_antisymm->pY
open PySem renaming wpAny_bind->Â,Value->Ç,wpAny_pure->Ê,Shared->Ï,wpAny->ß,starEach->à,model->á,Program->ý,foldedSetIterable->ĉ,compareOp->ċ,bootBuiltins->č,World->ğ,wpAny_call_entry->ģ,wpAny_callSpecial?_slot->į,wpAny_setField_rec->Ĺ,Around->ō,eval->Ŝ,wpAny_newObj_type->ŝ,mainGlobals->ū,wpAny_holding->Ŭ,Expr->Ů,KeyKind->Ű,binaryOp->Ŷ,wpAny_field->ab,backTo->aO,wpAny_truthy_bool->bo,sysModules->br,rawInt->bH,sizeLine_eq->bP,cellsFrom->bT,wpAny_rule->b9,wpAny_comprehension_free->cL,wpAny_askSetting->c8,wpAny_seqItems->c9,assignEach->dC,FuncData->dI,wpAny_passesOwn->dJ,attributeBase->dS,wpAny_standAt->dU,PyData->d_,Builtin->eF,wpAny_setState_of->eI,mem_of_lookup->eP,wpAny_mono->fm,swapsWith->fA,wpAny_setEntries_of->fW,codeAny->gK,intKind->gM,assign->gX,NameKind->iE,pyNext->iI,call_meets->jg,noFill_tuple_add->jh,wpAny_attempt->jr,wpAny_newList->js,sliceBounds->jP,Pos->ki,letOwnedTupleGo->kC,Keyword->k7,valueAt->k_,builtinsNs->mq,newFunctionEnv->mr,wpAny_Call_Name_kw->mw,fits_of_scanBound->nZ,getItem->n5,IsPair->oq,seq_tuple_add->oz,codeAny_mono->qe,concat_meets->qf,holding->qg,wpAny_typeOf->qh,wpAny_execs_nil->rF,IsPart->tK,SetTable->tM,firstArgMember->tN,keywordEach->tU,relayAll->tX,wpAny_fieldsOf->tY,wpAny_newTuple->tZ,wpAny_of_eq->t6,wpAny_updateSeq_pair->t9,BindsTo->ui,callerA->uu,seqItems?->uv,standAt->uw,tupleKind->ux,behindInMarks->wN,strLen_append->wQ,swappedStores->wU,swapsWithSole->wV,wpAny_onRaise->wW,PlainAttrs->wY,setsByText->w_,tupleKind_room_in1->xa,wpAny_pyIter_tuple->xb,call_meetsIn->yR,wpAny_assign_Name->yT,wpAny_pyIter_list->yU,pickOrder->AQ,wpAny_isInstance->AR,IsZip->CN,subscripted->CZ,wpAny_ite_split->C9,Env->ED,setNext->EI,atKey->Gw,backToKw->Gx,compPost->Gy,isTrue->Gz,pyIter->GA,slotArgs->GB,typeIs_str->GC,typeLookup->GD,wpAny_load->GF,call->Iv,assignInOrder->Iw,comprehension->Iy,plainId_quiet->Iz,DictEntry->L8,PassesOwn->Me,bindC->Mg,bindL->Mh,drawOrder->Mi,field->Mj,lastMarks->Mk,pushCells->Ml,seqIndex?->Mn,Fin->MO,newList->MT,builtinLookup_eq_fast->P_,exec_Assign_Name_used->P',GenState->Q4,boot_len->Q9,bindArgs->Ra,bindName->Rb,compEnvC->Rc,seqIndex_of->Rf,unsupported->Rg,wpAny_letGo->Rh,Within->VU,Result->VX,closureFor->V2,typeIs_int->V4,typeOf->V5,wpAny_Name->V6,Sem->YN,Tok->YO,relabel->YU,setItem->YV,slot_list_getitem->YW,unaryOp->YX,wpAny_pyIter_slot->YY,wpAny_sequenceKey->YZ,wpAny_storeSet_of->Y0,clausesOf->ZL,newFields->ZM,wpAny_execs_cons->ZN,wpAny_pyIter_zip->ZO,codeAny_builtin->abP,pushCells_keeps->abT,typeLookup_type->abU,wpAny_specialOf->abV,wpAny_updateSeq->abW
open PySem.Around renaming under_plainId->EC
open PySem.Builtin.Frozenset renaming addrOf->p_,oneOther->Q0,sizeOf->Q1,slot0->Q2
open PySem.Builtin.Int renaming intBits->bZ,intTooBig->xC
open PySem.Builtin.List renaming listTooLong->jf,listExtendWith->rH,listLengthHint->rJ,listSameRef->uj
open PySem.Builtin.Range renaming rangePlace?->sQ,rangeSize->Zp
open PySem.Builtin.Slice renaming slicePlaces->di,sliceAdjust->iC,sliceApplied->rK,sliceFields->Zq,slicePartIndex->Zr
open PySem.Builtin.SmallTypes renaming nextOf->ĵ,ownedTupleIsFree->az,ownedTupleHandOut->kf
open PySem.Builtin.Str renaming strKind->pZ,tooLong->Q8
open PySem.Builtin.Tuple renaming tupleExact->dB,tupleItemsOf->rM,tupleIsExact->Zs
open PySem.Calls renaming callWith_builtin->mL,call_function_entry->p4,spliced_cons->rN,Name_function_global->yI,evalArgs_plain->Gn,spliced_nil->L7
open PySem.Challenge renaming pw_royaltree_k11_whole_units_parted->VQ
open PySem.EqMixed renaming eq_bool_str->Zz,eq_int_str->ZA,eq_str_bool->ZC,eq_str_int->ZD,ne_bool_str->ZE,ne_int_str->ZF,ne_str_bool->ZG,ne_str_int->ZH
open PySem.EqNone renaming eq_bool_none->abw,eq_int_none->abx,eq_none_bool->aby,eq_none_int->abz,eq_none_none->abA,eq_none_str->abB,eq_str_none->abC,ne_bool_none->abD,ne_int_none->abE,ne_none_bool->abF,ne_none_int->abG,ne_none_none->abH,ne_none_str->abI,ne_str_none->abJ
open PySem.F renaming args_tuple_add_2->b8,entry_tuple_add->cy,slot_tuple_add->cJ,slot_tuple_iterator_next->eM,plainAttrs_dict->k8,plainAttrs_list->k9,slot_dict_get->mP,slot_zip_next->pX,plain_extend_loop->xI,slot_dict_values->yL,args_dict_get_3->Ai,plain_list_iadd->Aj,slot_dict_items->Ak,args_tuple_iterator_next_1->Az,entry_dict_get->AH,entry_tuple_iterator_next->CL,slot_str_eq_refl->Q3,args_zip_next_1->US,entry_zip_next->VN,slot_int_rmul->YC,slot_set_iter->YD,slot_dict_eq->Zt,sub_str_dict->Zu
open PySem.Heap renaming get?_push_of_some->Å,lt_size->Ú,get?_push_size->Þ,size_push->ş,SameBut->b_,get?_update_other->cW,get?_update_self->dA,IsTuple->YF
open PySem.Heap.DictOf renaming new->ab2
open PySem.Heap.IsSliceOf renaming new->YE
open PySem.Heap.IsTuple renaming push->abh
open PySem.Heap.SameBut renaming update->gW,refl->abi
open PySem.NameKind renaming free->ŏ,cell->b7
open PySem.Obj renaming mapSeq->ŵ,putSet->AG,data_mapFields->MN
open PySem.Paired renaming length->qc,snoc->VP
open PySem.PassesOwn renaming never->HY
open PySem.PyData renaming shownAll->cX,depthAll->mO,showableAll->rE,hasDictAll->sT,canLayAll0->Iq,canLay0->P6,hasDict->P7,depth->UX,eqv->YM
open PySem.SeqAt renaming EqAt->rT
open PySem.SeqAt.EqAt renaming same->sU,bool_tuple->yN,none_tuple->yO,bool_list->Al,int_tuple->Am,none_list->An,str_tuple->Ao,int_list->AJ,str_list->AK,int_str->CQ,of_refs->CS,str_int->CT
open PySem.SeqAt.RcAt renaming lists_lengths->wL,tuples->C8,lists->EF
open PySem.SeqAt.RcNeAt renaming lists->abL,lists_lengths->abM,tuples->abN
open PySem.SetTable renaming below->Ğ,grown->fT,standIn_fits->AL,sizeAbove->EG,insertAt->Gu,slot->MR,has->P9
open PySem.SetTable.below renaming go->iH
open PySem.SetTable.probe renaming go->yP
open PySem.Shared renaming heap->VY
open PySem.Str renaming ofString->ck,join->VZ
open PySem.Value renaming ref->ú,none->ē,type->h_,isInt->wM,bool->yQ,isStrOf->AM,int->CU,str->CV,notImplemented->Gv,isStrOf_shape->H_,float->YQ
open PySem.W renaming Frag->Ô,kia_one->ĸ,kas_desc->ŀ,kas_place->ť,kas_rev->av,kas_asc->aF,kas_descPart->bG,fnOf->bS,keepIn->fV,kas_count->hZ,cellsFrom_some->mn,OpenLaw->mH,codeIn->oy,kas_tail3->o9,kitx_dict->rP,kitx_list->rR,methodObj->rS,kas_sort->tR,instObj->uU,kitOne->wZ,lookIn->w4,mg_of->yM,nsIn->AI,kas_bin->EH,kitx_tuple->Gs,kat_cons->Ir,plainGet->Iu,kat_yes->Mf,findIn->MP,WalkO->P8
open PySem.W.KatTups renaming cons->VS,nil->VT
open PySem.W.Looks renaming of_pure->ZI
open PySem.W.WData renaming int->abO
open PySem.W.WShape renaming has->YR
open PySem.pickOrder renaming go->MU
open Rat renaming divInt->Õ,num_divInt_den->ţ,zero_add->ah,divInt_nonneg_iff_of_pos_right->bF,zero_divInt->cg,add_zero->eQ,mul_nonneg->kB,divInt_self'->mQ,intCast_add->oM,divInt_mul_divInt->o6,divInt_mul_right->qd,divInt_add_divInt->HZ,sub_eq_add_neg->MQ,den_intCast->UY,num_intCast->UZ,neg_divInt->VW,zero_mul->ZJ,neg_num->abK
open Sum renaming inr->aJ,inl->uV
open Sum.inr renaming inj->ur
open True renaming intro->cY
open _root_ renaming List->Á,if_pos->É,Option->Í,if_neg->Ó,reduceIte->Û,decide_eq_true->ø,of_decide_eq_true->Ė,Array->ė,congrArg->Ě,decide_eq_false->ĳ,DecidableEq->Ņ,if_false->aa,Decidable->aN,if_true->aT,or_false->bz,propext->gO,eq_false->jO,beq_eq_false_iff_ne->kY,bne_self_eq_false->nX,decide_true->nY,beq_self_eq_true->o7,decide_eq_decide->o8,decide_eq_true_eq->yS,eq_self->MS,eq_true->YT
namespace L2
open PySem PySem.Spec PyProof.Rows
abbrev Key:=Sum Int Str
def vM:Key->Ç->Bool
 | .inl k,v=>wM k v
 | .inr x,v=>AM x v
def aaA (w:ğ):Key->Int
 | .inl k=>hashInt k
 | .inr x=>hashStr w x
theorem a8:∀ {k:Key}{v:Ç},vM k v=true->(∃ i t,k=uV i/\v=CU i t)∨(∃ x t,k=aJ x/\v=CV x t)
 | .inl i,v,h=>by
  obtain⟨t,e⟩:=Value.isInt_shape (k:=i) (v:=v) h
  exact .inl ⟨i,t,rfl,e⟩
 | .inr x,v,h=>by
  obtain⟨t,e⟩:=H_ (x:=x) (v:=v) h
  exact .inr ⟨x,t,rfl,e⟩
theorem Hd (i:Int)(t:YO):vM (.inl i) (.int i t)=true:=by simp[vM,wM]
theorem He (x:Str)(t:YO):vM (.inr x) (.str x t)=true:=by simp[vM,AM]
theorem SM (a b:Int):decide ((uV a:Key)=uV b)=(a == b):=by
 by_cases e:a=b
 ·subst e;simp
 ·have h:¬ (uV a:Key)=uV b:=λ q=>e (Sum.inl.inj q)
  rw[ĳ h]
  exact(kY.mpr e).symm
theorem SQ (a b:Str):decide ((aJ a:Key)=aJ b)=decide (a=b):=by
 by_cases e:a=b
 ·subst e;simp
 ·have h:¬ (aJ a:Key)=aJ b:=λ q=>e (ur q)
  rw[ĳ h,ĳ e]
theorem SN (a:Int)(b:Str):decide ((uV a:Key)=aJ b)=false:=ĳ (λ q=>nomatch q)
theorem SO (a:Str)(b:Int):decide ((aJ a:Key)=uV b)=false:=ĳ (λ q=>nomatch q)
def Ż (prog:ý)(w:ğ):Ű prog w Key where
 is:=vM
 hash:=aaA w
 inj:=λ v a b ha hb=>by
  rcases a8 ha with⟨i,t,rfl,rfl⟩|⟨x,t,rfl,rfl⟩
  ·rcases a8 hb with⟨j,u,rfl,e⟩|⟨y,u,rfl,e⟩
   ·injection e with e1 _;rw[e1]
   ·exact nomatch e
  ·rcases a8 hb with⟨j,u,rfl,e⟩|⟨y,u,rfl,e⟩
   ·exact nomatch e
   ·injection e with e1 _;rw[e1]
 byValue:=λ k v h=>by
  rcases a8 h with⟨i,t,rfl,rfl⟩|⟨x,t,rfl,rfl⟩<;>rfl
 pyHash:=λ hv h=>by
  rcases a8 hv with⟨i,t,rfl,rfl⟩|⟨x,t,rfl,rfl⟩
  ·exact wpAny_pyHash_int h
  ·exact wpAny_pyHash_str h
 eqBool:=λ hu hv h=>by
  rcases a8 hu with⟨i,t,rfl,rfl⟩|⟨x,t,rfl,rfl⟩
  ·rcases a8 hv with⟨j,u,rfl,rfl⟩|⟨y,u,rfl,rfl⟩
   ·rw[SM]at h;exact wpAny_eqBool_int h
   ·rw[SN]at h;exact CQ i t y u _ _ _ _ h
  ·rcases a8 hv with⟨j,u,rfl,rfl⟩|⟨y,u,rfl,rfl⟩
   ·rw[SO]at h;exact CT x t j u _ _ _ _ h
   ·rw[SQ]at h;exact wpAny_eqBool_str h
 «strs»:=λ k x t v h=>by
  rcases a8 h with⟨i,u,rfl,e⟩|⟨y,u,rfl,e⟩
  ·exact nomatch e
  ·injection e with e1 _
   subst e1
   cases v<;>rfl
theorem BH (prog:ý)(w:ğ)(i:Int)(t:YO):(Ż prog w).is (.inl i) (.int i t)=true:=Hd i t
theorem BI (prog:ý)(w:ğ)(x:Str)(t:YO):(Ż prog w).is (.inr x) (.str x t)=true:=He x t
inductive V where
 | ĥ|bl (b:Bool)|int (i:Int)|str (x:Str)|EW (b:ė UInt8)|R4 (b:UInt64)|ref (a:Addr)|ty (n:String)
 deriving Ņ
def RelV:V->Ç->Prop
 | .ĥ,u=>u=ē
 | .bl b,u=>u=yQ b
 | .int i,u=>∃ t,u=CU i t
 | .str x,u=>∃ t,u=CV x t
 | .EW b,u=>∃ t,u=Value.bytes b t
 | .R4 b,u=>∃ t,u=YQ b t
 | .ref a,u=>u=ú a
 | .ty n,u=>u=h_ n
abbrev Vals:Á V->Á Ç->Prop:=Paired RelV
theorem Vals.length (r:Vals xs us):xs.length=us.length:=qc r
theorem Vals.get:∀ {xs:Á V}{us:Á Ç}{i:Nat}{x:V},Vals xs us->xs[i]? = À x->∃ u,us[i]? = À u/\RelV x u
 | _,_,_,_,.nil,e=>by simp at e
 | _,_,0,_,.cons r _,e=>by simp at e;subst e;exact⟨_,rfl,r⟩
 | _,_,i+1,x,.cons _ t,e=>by
  obtain⟨u,h1,h2⟩:=Vals.get (i:=i) (x:=x) t (by simpa using e)
  exact⟨u,by simpa using h1,h2⟩
theorem Vals.set (r:RelV x u):∀ {xs:Á V}{us:Á Ç}(i:Nat),Vals xs us->Vals (xs.set i x) (us.set i u)
 | _,_,_,.nil=>.nil
 | _,_,0,.cons _ t=>.cons r t
 | _,_,i+1,.cons q t=>.cons q (Vals.set r i t)
theorem Vals.append:∀ {xs ys:Á V}{us ws:Á Ç},Vals xs us->Vals ys ws->Vals (xs++ys) (us++ws)
 | _,_,_,_,.nil,s=>s
 | _,_,_,_,.cons r t,s=>.cons r (Vals.append t s)
theorem Vals.take:∀ {xs:Á V}{us:Á Ç}(n:Nat),Vals xs us->Vals (xs.take n) (us.take n)
 | _,_,0,_=>.nil
 | _,_,_+1,.nil=>.nil
 | _,_,n+1,.cons r t=>.cons r (Vals.take n t)
theorem Vals.drop:∀ {xs:Á V}{us:Á Ç}(n:Nat),Vals xs us->Vals (xs.drop n) (us.drop n)
 | _,_,0,r=>r
 | _,_,_+1,.nil=>.nil
 | _,_,n+1,.cons _ t=>Vals.drop n t
def rX:Í V->Í Ç->Prop
 | some v,À u=>RelV v u
 | none,none=>True
 | _,_=>False
def KV {κ:Type}:Á (κ × V)->Á (κ × Ç)->Prop:=Paired λ(p:κ × V) (q:κ × Ç)=>p.1=q.1/\RelV p.2 q.2
def kV:Key->V
 | .inl i=>.int i
 | .inr x=>.str x
inductive HO where
 | lst (xs:Á V)
 | tup (xs:Á V)
 | dK (kvs:Á (Key × V))|dT (kvs:Á (Á Key × V))
 | set (S:Int->Bool) (n:Nat)
 | ins (C dx:Addr) (fs:Á (Str × V))
 | own (x:Addr)
 | xd (fs:Á (Str × V))
 | met (f x:Addr)
 | Ze (lo hi:Int)
 | yc (o:Obj) (u:HO)
 | PC (ps:ė Ç)
 | ext (φ:Heap->Prop)
abbrev Hp:=Addr->Í HO
def upd (H:Hp)(a:Addr)(o:HO):Hp:=λ b=>if b=a then À o else H b
theorem Į:upd H a o a=À o:=by unfold upd;rw[É rfl]
theorem ÿ (h:b≠a):upd H a o b=H b:=by unfold upd;rw[Ó h]
theorem qL {H:Hp}{a b:Addr}{o u:HO}(h:H a=À o)(h':H b=À u)(d:o≠u):a≠b:=by
 intro e;subst e;rw[h]at h';exact d (ă h')
theorem Ū {H:Hp}{a b:Addr}{o:HO}(h:H a=À o)(h':H b=none):a≠b:=by
 intro e;subst e;rw[h]at h';cases h'
section
variable (P:ý)(w:ğ)
def bf (H:Hp)(h:Heap)(a:Addr):HO->Prop
 | .lst xs=>xs.length<=sizeLine/\∃ (its:Á Ç) (n:Nat),Vals xs its/\h.get? a=À { cls:=.type "list",data:=.seq its.toArray n }
 | .tup xs=>xs.length<=sizeLine/\∃ its:Á Ç,Vals xs its/\YG h a its.toArray
 | .dK kvs=>kvs.length<=sizeLine/\(a == br)=false/\∃ vs,KV kvs vs/\h.DictOf (Ż P w) a vs
 | .dT kvs=>kvs.length<=sizeLine/\(a == br)=false/\∃ xs:Á (Á Key × Addr × Ç),
   Paired (λ(p:Á Key × V) (q:Á Key × Addr × Ç)=>p.1=q.1/\H q.2.1=À (.tup (p.1.map kV))/\RelV p.2 q.2.2) kvs xs/\
   ∃ o es ep,h.get? a=À o/\o.ExactDict/\o.data=.dict es ep/\es.toList=xs.map (entryOfKey (ux (Ż P w)))/\(xs.map (·.1)).Nodup
 | .set S n=>h.SetOf (gM P w) a S n
 | .ins C dx fs=>H dx=À (.own a)/\fs.length<=1000/\dx≠a/\h.get? a=À (uU C dx)/\
   ∃ mA,h.Ns1 dx mA/\(∀ f,rX (fs.lookup f) (mA f))/\VU mA (fs.map (·.1))
 | .own _=>∃ o,h.get? a=À o
 | .xd fs=>∃ mA,h.Ns1 a mA/\∀ f,rX (fs.lookup f) (mA f)
 | .Ze lo hi=>∃ t u v,h.get? a=À { cls:=.type "range",data:=.fields #[.int lo t,.int hi u,.int 1 v] }
 | .yc o u=>h.get? a=À o/\bf H h a u
 | .PC ps=>h.get? a=À { cls:=.none,data:=.fields ps }
 | .met f x=>h.get? a=À (rS (.ref f) (.ref x))
 | .ext φ=>φ h/\(∃ o,h.get? a=À o)/\∀ h1 h2:Heap,φ h1->(∀ o,h1.get? a=À o->h2.get? a=À o)->φ h2
def pf (H:Hp)(h:Heap):Prop:=∀ a o,H a=À o->bf P w H h a o
end
section
variable {P:ý}{w:ğ}{H H':Hp}{h h':Heap}{a:Addr}{o:HO}
theorem bf.lt (x:bf P w H h a o):a < h.objs.size:=by
 cases o with
 | lst xs=>obtain⟨_,_,_,_,e⟩:=x;exact Ú e
 | tup xs=>obtain⟨_,_,_,p⟩:=x;exact p.lt
 | dK kvs=>obtain⟨_,_,_,_,o,_,_,e,_⟩:=x;exact Ú e
 | dT kvs=>obtain⟨_,_,_,_,o,_,_,e,_⟩:=x;exact Ú e
 | set S n=>obtain⟨o,_,_,_,e,_⟩:=x;exact Ú e
 | ins C dx fs=>obtain⟨_,_,_,e,_⟩:=x;exact Ú e
 | own y=>obtain⟨_,e⟩:=x;exact Ú e
 | xd fs=>obtain⟨_,⟨_,_,_,e,_⟩,_⟩:=x;exact Ú e
 | Ze lo hi=>obtain⟨_,_,_,e⟩:=x;exact Ú e
 | yc ob u=>obtain⟨e,_⟩:=x;exact Ú e
 | PC ps=>exact Ú (show h.get? a=À _ from x)
 | met f y=>exact Ú (show h.get? a=À _ from x)
 | ext φ=>obtain⟨_,⟨_,e⟩,_⟩:=x;exact Ú e
theorem Paired.S3:∀ {l₁:Á α}{l₂:Á β},Paired F l₁ l₂->(∀ a b,F a b->G a b)->Paired G l₁ l₂
 | _,_,.nil,_=>.nil
 | _,_,.cons r t,f=>.cons (f _ _ r) (Paired.S3 t f)
theorem bf.Ce (x:bf P w H h a o)(k:∀ b u,(b=a∨H b=À (.own a))->h.get? b=À u->h'.get? b=À u)
  (ho:∀ b,H b=À (.own a)->H' b=À (.own a)) (ht:∀ b xs,H b=À (.tup xs)->H' b=À (.tup xs)):bf P w H' h' a o:=by
 induction o with
 | lst xs=>obtain⟨z,its,n,r,e⟩:=x;exact⟨z,its,n,r,k _ _ (.inl rfl) e⟩
 | tup xs=>obtain⟨z,its,r,ob,e,c⟩:=x;exact⟨z,its,r,ob,k _ _ (.inl rfl) e,c⟩
 | dK kvs=>obtain⟨z,y,vs,r,ob,es,ep,e,c⟩:=x;exact⟨z,y,vs,r,ob,es,ep,k _ _ (.inl rfl) e,c⟩
 | dT kvs=>
  obtain⟨z,y,xs,r,ob,es,ep,e,c⟩:=x
  exact⟨z,y,xs,Paired.S3 r λ p q z=>⟨z.1,ht _ _ z.2.1,z.2.2⟩,ob,es,ep,k _ _ (.inl rfl) e,c⟩
 | set S n=>obtain⟨ob,es,ep,t,e,c⟩:=x;exact⟨ob,es,ep,t,k _ _ (.inl rfl) e,c⟩
 | ins C dx fs=>
  obtain⟨d,z,ne,e,mA,⟨od,es,ep,e2,c⟩,r⟩:=x
  exact⟨ho _ d,z,ne,k _ _ (.inl rfl) e,mA,⟨od,es,ep,k _ _ (.inr d) e2,c⟩,r⟩
 | own y=>obtain⟨ob,e⟩:=x;exact⟨ob,k _ _ (.inl rfl) e⟩
 | xd fs=>obtain⟨mA,⟨od,es,ep,e,c⟩,r⟩:=x;exact⟨mA,⟨od,es,ep,k _ _ (.inl rfl) e,c⟩,r⟩
 | Ze lo hi=>obtain⟨t,u,v,e⟩:=x;exact⟨t,u,v,k _ _ (.inl rfl) e⟩
 | yc ob u ih=>obtain⟨e,q⟩:=x;exact⟨k _ _ (.inl rfl) e,ih q⟩
 | PC ps=>
  have e:h.get? a=À { cls:=.none,data:=.fields ps }:=x
  show h'.get? a=À { cls:=.none,data:=.fields ps }
  exact k a _ (.inl rfl) e
 | met f y=>
  have e:h.get? a=À (rS (.ref f) (.ref y)):=x
  show h'.get? a=À (rS (.ref f) (.ref y))
  exact k a _ (.inl rfl) e
 | ext φ=>obtain⟨p,⟨o,e⟩,st⟩:=x;exact⟨st _ _ p λ o q=>k _ _ (.inl rfl) q,⟨o,k _ _ (.inl rfl) e⟩,st⟩
theorem pf.lt (x:pf P w H h)(e:H a=À o):a < h.objs.size:=(x a o e).lt
theorem pf.fresh (x:pf P w H h)(e:h.objs.size<=a):H a=none:=by
 cases q:H a with
 | none=>rfl
 | some u=>exact absurd (ö (x.lt q) e) (ŉ _)
theorem pf.kept (x:pf P w H h)(k:∀ b u,h.get? b=À u->h'.get? b=À u):pf P w H h':=λ a o e=>
 (x a o e).Ce (λ b u _ q=>k b u q) (λ _ q=>q) λ _ _ q=>q
theorem pf.laid (x:pf P w H h)(k:∀ b u,h.get? b=À u->h'.get? b=À u)(hp:h.objs.size<=a)(new:bf P w (upd H a o) h' a o):pf P w (upd H a o) h':=λ b u e=>by
 have hn:=x.fresh hp
 by_cases hb:b=a
 ·subst hb;rw[Į]at e;cases e;exact new
 ·rw[ÿ hb]at e
  exact(x b u e).Ce (λ c v _ q=>k c v q) (λ c q=>by rw[ÿ (Ū q hn)];exact q) λ c xs q=>by rw[ÿ (Ū q hn)];exact q
end
def Rd (H:Hp)(a:Addr)(u:HO):Prop:=H a=À u∨∃ o,H a=À (.yc o u)
theorem Rd.ok (r:Rd H a u)(x:pf P w H h):bf P w H h a u:=by
 rcases r with r|⟨o,r⟩
 ·exact x a u r
 ·obtain⟨_,q⟩:=x a _ r
  exact q
def V8:Í HO->Prop
 | some (.lst _)=>True
 | some (.dK _)=>True
 | some (.dT _)=>True
 | some (.set _ _)=>True
 | some (.ins _ _ _)=>True
 | some (.ext _)=>True
 | _=>False
section
variable {P:ý}{w:ğ}{H:Hp}{h h':Heap}{x e:Addr}{o':HO}
theorem pf.write (ok:pf P w H h)(mu:V8 (H x)) (he:e=x∨H e=À (.own x)) (k:∀ b u,b≠e->h.get? b=À u->h'.get? b=À u)(VB:∃ u,h'.get? e=À u)
  (new:bf P w (upd H x o') h' x o'):pf P w (upd H x o') h':=λ b u q=>by
 have XG:∀ c y,H c=À (.own y)->c≠x:=λ c y r z=>by subst z;rw[r]at mu;exact mu
 have aaM:∀ c xs,H c=À (.tup xs)->c≠x:=λ c xs r z=>by subst z;rw[r]at mu;exact mu
 by_cases hb:b=x
 ·subst hb;rw[Į]at q;cases q;exact new
 ·rw[ÿ hb]at q
  by_cases Se:b=e
  ·have q':H b=À (.own x):=by
    rcases he with z|z
    ·exact absurd (Se.trans z) hb
    ·rw[Se];exact z
   rw[q]at q';cases q'
   obtain⟨v,hv⟩:=VB
   exact⟨v,by rw[Se];exact hv⟩
  ·refine(ok b u q).Ce (λ c v hc r=>k c v ?_ r) (λ c r=>by rw[ÿ (XG c b r)];exact r) λ c xs r=>by rw[ÿ (aaM c xs r)];exact r
   rcases hc with rfl|hc
   ·exact Se
   ·rintro rfl
    rcases he with z|z
    ·exact XG c b hc z
    ·rw[hc]at z;cases z;exact hb rfl
end
structure Un (fs ex:Á Addr)(H H':Hp)(h h':Heap):Prop where
 keep:∀ b o,h.get? b=À o->H b=none->b∉fs->b∉ex->h'.get? b=À o
 slot:∀ b o,h.get? b=À o->H b=none->b∈fs->b∉ex->∃ sl,h'.get? b=À { o with slots:=sl }
 free:∀ b o,h.get? b=À o->H b=none->b∉ex->H' b=none
 there:∀ b o,h.get? b=À o->b∉ex->∃ o',h'.get? b=À o'
 mD:∀ b xs,H b=À (.tup xs)->H' b=À (.tup xs)
 jZ:∀ b o u,H b=À (.yc o u)->H' b=À (.yc o u)
 Cq:∀ b ps,H b=À (.PC ps)->∃ more,H' b=À (.PC (ps++more))
section
variable {fs fs' ex ex':Á Addr}{H H1 H2:Hp}{h h1 h2 h':Heap}{a x e:Addr}{o:HO}
theorem Un.any (u:Un fs ex H H1 h h1)(q:h.get? b=À ob)(n:H b=none)(hx:b∉ex):∃ sl,h1.get? b=À { ob with slots:=sl }:=by
 by_cases hb:b∈fs
 ·exact u.slot b ob q n hb hx
 ·exact⟨ob.slots,u.keep b ob q n hb hx⟩
theorem Un.kept (k:∀ b u,h.get? b=À u->h'.get? b=À u):Un fs ex H H h h':=
 ⟨λ b ob q _ _ _=>k b ob q,λ b ob q _ _ _=>⟨ob.slots,k b ob q⟩,λ _ _ _ n _=>n,λ b ob q _=>⟨ob,k b ob q⟩,λ _ _ q=>q,λ _ _ _ q=>q,λ _ ps q=>⟨#[],by rw[q];simp⟩⟩
theorem Un.refl:Un fs ex H H h h:=Un.kept λ _ _ q=>q
theorem Un.laid (k:∀ b u,h.get? b=À u->h'.get? b=À u)(hp:h.objs.size<=a)(hn:H a=none):Un fs ex H (upd H a o) h h' where
 keep:=λ b u q _ _ _=>k b u q
 slot:=λ b u q _ _ _=>⟨u.slots,k b u q⟩
 free:=λ b u q n _=>by rw[ÿ (Ć (ö (Ú q) hp))];exact n
 there:=λ b u q _=>⟨u,k b u q⟩
 mD:=λ b xs q=>by rw[ÿ (Ū q hn)];exact q
 jZ:=λ b u xs q=>by rw[ÿ (Ū q hn)];exact q
 Cq:=λ b ps q=>⟨#[],by rw[ÿ (Ū q hn),q];simp⟩
theorem Un.write (mu:V8 (H x)) (he:e=x∨H e=À (.own x)) (k:∀ b u,b≠e->h.get? b=À u->h'.get? b=À u)(VB:∃ u,h'.get? e=À u):Un fs ex H (upd H x o) h h':=by
 have hx:∀ b,H b=none->b≠x:=λ b n z=>by subst z;rw[n]at mu;exact mu
 have hb:∀ b,H b=none->b≠e:=λ b n z=>by
  subst z
  rcases he with r|r
  ·exact hx b n r
  ·rw[n]at r;cases r
 have hm:∀ b u,H b=À u->¬ V8 (À u)->b≠x:=λ b u q nm z=>by subst z;rw[q]at mu;exact nm mu
 refine⟨λ b u q n _ _=>k b u (hb b n) q,λ b u q n _ _=>⟨u.slots,k b u (hb b n) q⟩,λ b u q n _=>by rw[ÿ (hx b n)];exact n,λ b u q _=>?_,
  λ b xs q=>by rw[ÿ (hm b _ q λ z=>z)];exact q,λ b u xs q=>by rw[ÿ (hm b _ q λ z=>z)];exact q,λ b ps q=>⟨#[],by rw[ÿ (hm b _ q λ z=>z),q];simp⟩⟩
 by_cases Se:b=e
 ·subst Se;exact VB
 ·exact⟨u,k b u Se q⟩
end
def Zj (h:Heap)(H:Hp):Á Addr:=(Ģ h.objs.size).filter λ a=>(H a).isSome
def zp (h:Heap)(H:Hp):Heap:=PySem.W.hideAll h (Zj h H)
theorem GZ (h:Heap)(H:Hp):(zp h H).objs.size=h.objs.size:=PySem.W.hideAll_size _ _
theorem JA (e:h.get? b=À o)(n:H b=none):(zp h H).get? b=À o:=
 PySem.W.hideAll_get _ e λ hm=>by
  have q:(H b).isSome=true:=(aZ.mp hm).2
  rw[n]at q;simp at q
theorem Oi (e:(zp h H).get? b=À o):h.get? b=À o/\H b=none:=by
 have e':h.get? b=À o:=PySem.W.of_hideAll (Zj h H) e
 refine⟨e',?_⟩
 cases q:H b with
 | none=>rfl
 | some x=>
  have hm:b∈Zj h H:=aZ.mpr ⟨Ae.mpr (Ú e'),by simp[q]⟩
  have z:(zp h H).get? b=none:=PySem.W.hideAll_none (Zj h H) hm
  rw[z]at e;cases e
structure Mod (K:Ô)(mg:Str->Í Ç)(base:Heap):Prop where
 kin:K.In base
 glob:base.Ns ū mg
 blt:∃ mb,base.Ns mq mb/\∀ x:Str,x≠"__name__"->mb x=č x
 nolimit:base.NoLimit
 ab1:base.NoDigits
 bmain:∃ bm ob,mg "__builtins__"=À (.ref bm)/\bm≠mq/\base.get? bm=À ob/\ob.cls=.type "module"/\ob.dict=À mq/\ob.data=.plain
structure Cx where
 prog:ý
 w:ğ
 K:Ô
 mg:Str->Í Ç
 base:Heap
 A:ō
 N:Á Str
 i':Ï
 C_:Hp
 env:ED
 outer:Á ED
 stack:Á ED
 ex:Á Addr
 fn:Str->Bool
 calm:Bool
 pn:Á (Addr × Obj)
 xe:Ç->Ï->Prop
def Ic (l:Á ED):Á Addr:=l.filterMap (·.frame)
abbrev Cx.fs (X:Cx):Á Addr:=Ic X.outer
def ZX (sc:Scope)(x:Str):Prop:=sc.names.lookup x=À .local∨sc.names.lookup x=À .cell∨sc.names.lookup x=À .free
def Loc (sc:Scope)(x:Str):Prop:=sc.names.lookup x=À .local∨sc.names.lookup x=À .cell
def Look (env:ED)(h:Heap)(m:Str->Í Ç)(x:Str)(u:Ç):Prop:=
 (env.kindOf x=À .local/\m x=À u)∨((env.kindOf x=À .cell∨env.kindOf x=À .free)/\∃ c,env.cells.lookup x=À c/\h.IsCell c (À u))
structure Cx.Ok (X:Cx):Prop where
 mod:Mod X.K X.mg X.base
 kind:X.env.scope.kind=.function
 glob:X.env.globals=ū
 blt:X.env.builtins=mq
 above:X.i'.heap.objs.size<=X.env.locals
 inj:∀ x y c,X.env.cells.lookup x=À c->X.env.cells.lookup y=À c->x=y
 has:∀ x,(X.env.kindOf x=À .cell∨X.env.kindOf x=À .free)->∃ c,X.env.cells.lookup x=À c
 U4:∀ x c,X.fn x=true->X.env.cells.lookup x=À c->X.i'.heap.objs.size<=c
 hd:X.calm=true->X.A.handled=none
 frames:X.A.frames=À X.stack
 Yk:X.stack=X.outer∨(X.stack=X.env :: X.outer/\X.env.frame=À X.env.locals)
 exf:∀ b∈X.ex,b≠X.env.locals/\∀ x c,X.env.cells.lookup x=À c->c≠b
 bs:∀ b o,X.base.get? b=À o->X.i'.heap.get? b=À o/\X.C_ b=none
 M8:X.base.objs.size<=X.i'.heap.objs.size
 Hm:∀ b o,X.base.get? b=À o->b∉X.ex
 GR:∀ b∈X.ex,b∉X.fs
 ud:X.i'.heap.FunFrames X.base X.outer
 R':∀ b∈X.fs,X.C_ b=none
structure Inv (X:Cx)(Ä:Á (Addr × Obj)) (σ:Á (Í V)) (H:Hp)(s:Ï):Prop where
 ok:X.Ok
 os:s.os=X.i'.os
 bare:p9 s.gens
 base:Un X.fs X.ex X.C_ H X.i'.heap s.heap
 loc:∃ m,s.heap.Ns X.env.locals m/\∀ (i:Nat) (x:Str) (v:V),X.N[i]? = À x->σ[i]? = À (À v)->ZX X.env.scope x->∃ u,RelV v u/\Look X.env s.heap m x u
 cell:∀ x c,X.env.cells.lookup x=À c->∃ v,s.heap.IsCell c v
 free:H X.env.locals=none
 l_:∀ x c,X.env.cells.lookup x=À c->H c=none
 pin:∀ p∈X.pn++Ä,s.heap.get? p.1=À p.2/\H p.1=none/\p.1≠X.env.locals/\p.1∉X.fs/\∀ v,p.2.data≠.cell v
 ar:pf X.prog X.w H s.heap
 len:σ.length=X.N.length
section
variable {X:Cx}{Ä:Á (Addr × Obj)}{σ:Á (Í V)}{H H':Hp}{s:Ï}{h':Heap}
theorem Cx.Ok.aaK (ok:X.Ok)(e:X.base.get? b=À o):b∉X.fs:=λ hb=>by
 have:=(ok.ud.mem hb).1
 rw[e]at this;cases this
theorem Inv.bs (I:Inv X Ä σ H s):∀ b o,X.base.get? b=À o->s.heap.get? b=À o/\H b=none:=λ b o e=>
 ⟨I.base.keep b o (I.ok.bs b o e).1 (I.ok.bs b o e).2 (I.ok.aaK e) (I.ok.Hm b o e),I.base.free b o (I.ok.bs b o e).1 (I.ok.bs b o e).2 (I.ok.Hm b o e)⟩
theorem Inv.bk (I:Inv X Ä σ H s):∀ b o,X.base.get? b=À o->s.heap.get? b=À o:=λ b o e=>(I.bs b o e).1
theorem Inv.mod (I:Inv X Ä σ H s):Mod X.K X.mg X.base:=I.ok.mod
theorem Inv.yl (I:Inv X Ä σ H s):X.K.In s.heap:=I.ok.mod.kin.keeps I.bk
theorem Inv.lt (I:Inv X Ä σ H s):X.env.locals < s.heap.objs.size:=let ⟨_,hn,_⟩:=I.loc;hn.lt
theorem Inv.sz (I:Inv X Ä σ H s):X.i'.heap.objs.size<=s.heap.objs.size:=ā I.ok.above (Ŀ I.lt)
theorem Inv.aaL (I:Inv X Ä σ H s)(h:s.heap.objs.size<=a):a∉X.fs:=λ hb=>by
 obtain⟨_,o,ho,_⟩:=I.ok.ud.mem hb
 exact absurd (ö (Ú ho) (ā I.sz h)) (ŉ _)
theorem Inv.RE (I:Inv X Ä σ H s):∀ x c,X.env.cells.lookup x=À c->c≠X.env.locals:=λ x c e z=>by
 obtain⟨v,o,ho,hd⟩:=I.cell x c e
 obtain⟨m,⟨o',es,ep,Ĝ,Qr,_⟩,_⟩:=I.loc
 rw[z,Ĝ]at ho;cases ho;rw[Qr]at hd;cases hd
theorem Inv.ud (I:Inv X Ä σ H s):s.heap.FunFrames X.base X.outer:=by
 have all:∀ (l:Á ED),(∀ b∈Ic l,b∈X.fs)->X.i'.heap.FunFrames X.base l->s.heap.FunFrames X.base l:=by
  intro l
  induction l with
  | nil=>intro _ _;trivial
  | cons env r ih=>
   intro hs hl
   obtain⟨hk,⟨L,o,hf,hn,ho,hd⟩,hr⟩:=hl
   have hL:L∈X.fs:=hs L (by unfold Ic;rw[rD,hf];exact Ġ)
   obtain⟨sl,e⟩:=I.base.slot L o ho (I.ok.R' L hL) hL λ z=>I.ok.GR L z hL
   exact⟨hk,⟨L,_,hf,hn,e,hd⟩,ih (λ b hb=>hs b (by unfold Ic;rw[rD,hf];exact Ċ _ hb)) hr⟩
 exact all X.outer (λ _ hb=>hb) I.ok.ud
theorem Inv.stack (I:Inv X Ä σ H s):s.heap.FunFrames X.base X.stack:=by
 rcases I.ok.Yk with e|⟨e,hf⟩
 ·rw[e];exact I.ud
 ·rw[e]
  obtain⟨m,hn,_⟩:=I.loc
  refine .cons (by rw[I.ok.kind];decide) hf hn ?_ I.ud
  exact Heap.get?_none_of_le (ā I.ok.M8 I.ok.above)
theorem Inv.Ei (I:Inv X Ä σ H s):∀ b∈Ic X.stack,b∈X.env.locals :: X.fs:=λ b hb=>by
 rcases I.ok.Yk with e|⟨e,hf⟩
 ·rw[e]at hb;exact Ċ _ hb
 ·rw[e]at hb
  unfold Ic at hb
  rw[rD,hf]at hb
  exact hb
theorem Inv.F7 (I:Inv X Ä σ H s):∀ b∈Ic X.stack,H b=none:=λ b hb=>by
 rcases Ò.mp (I.Ei b hb) with e|hb
 ·rw[e];exact I.free
 ·obtain⟨_,o,ho,_⟩:=I.ok.ud.mem hb
  exact I.base.free b o ho (I.ok.R' b hb) λ z=>I.ok.GR b z hb
theorem Inv.step {g':ė Q4}{t':Nat}{d':Drawn}{ch:Á Addr}(I:Inv X Ä σ H s)
  (Mw:∀ b∈ch,(b∈X.ex∨X.i'.heap.objs.size<=b)/\b≠X.env.locals/\(∀ x c,X.env.cells.lookup x=À c->c≠b)/\∀ p∈X.pn++Ä,p.1≠b)
  (keep:∀ b o,b≠X.env.locals->b∉X.fs->b∉ch->s.heap.get? b=À o->H b=none->h'.get? b=À o)
  (slot:∀ b o,b≠X.env.locals->b∈X.fs->b∉ch->s.heap.get? b=À o->H b=none->∃ sl,h'.get? b=À { o with slots:=sl }) (free:∀ b o,b∉ch->s.heap.get? b=À o->H b=none->H' b=none)
  (there:∀ b o,b∉ch->s.heap.get? b=À o->∃ o',h'.get? b=À o')
  (mD:∀ b xs,H b=À (.tup xs)->H' b=À (.tup xs)) (jZ:∀ b o u,H b=À (.yc o u)->H' b=À (.yc o u)) (Cq:∀ b ps,H b=À (.PC ps)->∃ more,H' b=À (.PC (ps++more)))
  (ns:∀ m,s.heap.Ns X.env.locals m->h'.Ns X.env.locals m) (ar:pf X.prog X.w H' h') (hg:p9 g') :
  Inv X Ä σ H' { s with heap:=h',gens:=g',drawn:=d',toks:=t' }:=by
 have neL:∀ b o,X.i'.heap.get? b=À o->b≠X.env.locals:=λ b o e=>Ć (ö (Ú e) I.ok.above)
 have neC:∀ b o,X.i'.heap.get? b=À o->b∉X.ex->b∉ch:=λ b o e hx hb=>by
  rcases(Mw b hb).1 with z|z
  ·exact hx z
  ·exact absurd (ö (Ú e) z) (ŉ _)
 have cellK:∀ x c,X.env.cells.lookup x=À c->∀ v,s.heap.IsCell c v->h'.IsCell c v:=λ x c e v ⟨o,ho,hd⟩=>by
  have XB:c∉ch:=λ z=>(Mw c z).2.2.1 x c e rfl
  by_cases hc:c∈X.fs
  ·obtain⟨sl,q⟩:=slot c o (I.RE x c e) hc XB ho (I.l_ x c e)
   exact⟨_,q,hd⟩
  ·exact⟨o,keep c o (I.RE x c e) hc XB ho (I.l_ x c e),hd⟩
 refine⟨I.ok,I.os,hg,⟨λ b o e n hb hx=>?_,λ b o e n hb hx=>?_,λ b o e n hx=>?_,λ b o e hx=>?_,λ b xs e=>mD b xs (I.base.mD b xs e),λ b o xs e=>jZ b o xs (I.base.jZ b o xs e),λ b ps e=>?_⟩,?_,λ x c e=>?_,?_,λ x c e=>?_,λ p hp=>?_,ar,I.len⟩
 ·exact keep b o (neL b o e) hb (neC b o e hx) (I.base.keep b o e n hb hx) (I.base.free b o e n hx)
 ·obtain⟨sl,e1⟩:=I.base.slot b o e n hb hx
  obtain⟨sl',e2⟩:=slot b _ (neL b o e) hb (neC b o e hx) e1 (I.base.free b o e n hx)
  exact⟨sl',e2⟩
 ·obtain⟨o',e1⟩:=I.base.there b o e hx
  exact free b o' (neC b o e hx) e1 (I.base.free b o e n hx)
 ·obtain⟨o',e1⟩:=I.base.there b o e hx
  exact there b o' (neC b o e hx) e1
 ·obtain⟨m1,e1⟩:=I.base.Cq b ps e
  obtain⟨m2,e2⟩:=Cq b _ e1
  exact⟨m1++m2,by rw[e2,Array.append_assoc]⟩
 ·obtain⟨m,hn,hl⟩:=I.loc
  refine⟨m,ns m hn,λ i x v e1 e2 e3=>?_⟩
  obtain⟨u,r,l⟩:=hl i x v e1 e2 e3
  refine⟨u,r,?_⟩
  rcases l with l|⟨k,c,e,z⟩
  ·exact .inl l
  ·exact .inr ⟨k,c,e,cellK x c e _ z⟩
 ·obtain⟨v,z⟩:=I.cell x c e
  exact⟨v,cellK x c e v z⟩
 ·obtain⟨m,⟨o,_,_,ho,_⟩,_⟩:=I.loc
  exact free _ o (λ z=>(Mw _ z).2.1 rfl) ho I.free
 ·obtain⟨v,o,ho,hd⟩:=I.cell x c e
  exact free c o (λ z=>(Mw c z).2.2.1 x c e rfl) ho (I.l_ x c e)
 ·obtain⟨e,n,ne,nf,d⟩:=I.pin p hp
  have XB:p.1∉ch:=λ z=>(Mw p.1 z).2.2.2 p hp rfl
  exact⟨keep p.1 p.2 ne nf XB e n,free p.1 p.2 XB e n,ne,nf,d⟩
theorem Inv.un {t':Nat}(I:Inv X Ä σ H s)(u:Un X.fs [] H H' s.heap h')(ar:pf X.prog X.w H' h'):Inv X Ä σ H' { s with heap:=h',toks:=t' }:=by
 obtain⟨m,⟨o,es,ep,ho,r⟩,_⟩:=id I.loc
 obtain⟨sl,hL⟩:=u.any ho I.free (by simp)
 exact I.step (g':=s.gens) (d':=s.drawn) (ch:=[]) (λ _ z=>nomatch z) (λ b o _ hb _ e n=>u.keep b o e n hb (by simp)) (λ b o _ hb _ e n=>u.slot b o e n hb (by simp)) (λ b o _ e n=>u.free b o e n (by simp)) (λ b o _ e=>u.there b o e (by simp)) u.mD u.jZ u.Cq (λ m' hm=>by
  obtain⟨o',es',ep',Ĝ,r'⟩:=hm
  rw[ho]at Ĝ;cases Ĝ
  exact⟨_,es',ep',hL,r'⟩) ar I.bare
theorem Inv.call {g':ė Q4}{t':Nat}{d':Drawn}{ch:Á Addr}(I:Inv X Ä σ H s)(u:Un (Ic X.stack) ch H H' s.heap h') (ar:pf X.prog X.w H' h')(hg:p9 g')
  (Mw:∀ b∈ch,(b∈X.ex∨X.i'.heap.objs.size<=b)/\b≠X.env.locals/\(∀ x c,X.env.cells.lookup x=À c->c≠b)/\∀ p∈X.pn++Ä,p.1≠b) :
  Inv X Ä σ H' { s with heap:=h',gens:=g',drawn:=d',toks:=t' }:=by
 obtain⟨m,⟨o,es,ep,ho,r⟩,_⟩:=id I.loc
 obtain⟨sl,hL⟩:=u.any ho I.free λ z=>(Mw _ z).2.1 rfl
 exact I.step (ch:=ch) Mw (λ b o hL hb hc e n=>u.keep b o e n (λ z=>(Ò.mp (I.Ei b z)).elim hL hb) hc) (λ b o _ _ hc e n=>u.any e n hc) (λ b o hc e n=>u.free b o e n hc) (λ b o hc e=>u.there b o e hc) u.mD u.jZ u.Cq (λ m' hm=>by
  obtain⟨o',es',ep',Ĝ,r'⟩:=hm
  rw[ho]at Ĝ;cases Ĝ
  exact⟨_,es',ep',hL,r'⟩) ar hg
theorem Inv.turned {t':Nat}{it:Addr}(I:Inv X Ä σ H s)(k:∀ b o,b≠it->s.heap.get? b=À o->h'.get? b=À o)(hn:H it=none)(hL:it≠X.env.locals)
  (h1:it∈X.ex∨X.i'.heap.objs.size<=it) (h2:∀ x c,X.env.cells.lookup x=À c->c≠it) (h3:∀ p∈X.pn++Ä,p.1≠it):Inv X Ä σ H { s with heap:=h',toks:=t' }:=by
 have nit:∀ b u,H b=À u->b≠it:=λ b u e z=>by rw[z,hn]at e;cases e
 refine I.step (g':=s.gens) (d':=s.drawn) (ch:=[it]) (λ b hb=>?_) (λ b o _ _ hc e _=>k b o (λ z=>hc (by simp[z])) e) (λ b o _ _ hc e _=>⟨o.slots,k b o (λ z=>hc (by simp[z])) e⟩) (λ _ _ _ _ n=>n)
  (λ b o hc e=>⟨o,k b o (λ z=>hc (by simp[z])) e⟩) (λ _ _ e=>e) (λ _ _ _ e=>e) (λ b ps e=>⟨#[],by rw[e];simp⟩) (λ m hm=>?_) (λ b u e=>?_) I.bare
 ·have e:b=it:=by simpa using hb
  subst e
  exact⟨h1,hL,h2,h3⟩
 ·obtain⟨o,es,ep,ho,r⟩:=hm
  exact⟨o,es,ep,k _ o (bR hL) ho,r⟩
 ·refine(I.ar b u e).Ce (λ c v hc q=>k c v ?_ q) (λ _ q=>q) λ _ _ q=>q
  rcases hc with z|z
  ·rw[z];exact nit b u e
  ·exact nit c _ z
theorem Inv.tok (I:Inv X Ä σ H s)(t:Nat):Inv X Ä σ H { s with toks:=t }:=I.un (h':=s.heap) (t':=t) Un.refl I.ar
theorem Inv.kept (I:Inv X Ä σ H s)(k:∀ b u,s.heap.get? b=À u->h'.get? b=À u):Inv X Ä σ H { s with heap:=h',toks:=t' }:=I.un (Un.kept k) (I.ar.kept k)
theorem Inv.laid (I:Inv X Ä σ H s)(k:∀ b u,s.heap.get? b=À u->h'.get? b=À u)(hp:s.heap.objs.size<=a)(new:bf X.prog X.w (upd H a o) h' a o) :
  Inv X Ä σ (upd H a o) { s with heap:=h',toks:=t' }:=I.un (Un.laid k hp (I.ar.fresh hp)) (I.ar.laid k hp new)
theorem Inv.write (I:Inv X Ä σ H s)(mu:V8 (H x)) (he:e=x∨H e=À (.own x)) (k:∀ b u,b≠e->s.heap.get? b=À u->h'.get? b=À u)(VB:∃ u,h'.get? e=À u)
  (new:bf X.prog X.w (upd H x o) h' x o):Inv X Ä σ (upd H x o) { s with heap:=h',toks:=t' }:=I.un (Un.write mu he k VB) (I.ar.write mu he k VB new)
theorem Inv.FG (I:Inv X Ä σ H s)(h:∀ p∈X7,s.heap.get? p.1=À p.2/\H p.1=none/\p.1≠X.env.locals/\p.1∉X.fs/\∀ v,p.2.data≠.cell v):Inv X X7 σ H s:=
 ⟨I.ok,I.os,I.bare,I.base,I.loc,I.cell,I.free,I.l_,λ p hp=>(ê.mp hp).elim (λ z=>I.pin p (İ _ z)) (h p),I.ar,I.len⟩
theorem BK {N:Á Str}(hN:N.Nodup){i j:Nat}{x:Str}(a:N[i]? = À x)(b:N[j]? = À x):i=j:=by
 obtain⟨h1,e1⟩:=Ë.mp a
 obtain⟨h2,e2⟩:=Ë.mp b
 exact(iA hN).mp (e1.trans e2.symm)
theorem sM {M:Model}{A:ō}{E:Ç->Ï->Prop}{i:Nat}{x:Str}{v:V}{u:Ç}{Q:Unit->Ï->Prop}(I:Inv X Ä σ H s)(hN:X.N.Nodup)(hi:X.N[i]? = À x)(hx:Loc X.env.scope x)(r:RelV v u)
  (h:∀ s',Inv X Ä (σ.set i (À v)) H s'->(∃ a,b_ a s.heap s'.heap/\(a=X.env.locals∨X.env.cells.lookup x=À a))->Q () s') (hf:X.fn x=true∨X.env.scope.names.lookup x=À .local:=by first|exact .inl rfl|exact .inr rfl|assumption):ß M A (storeName X.env x u) Q E s:=by
 obtain⟨m,hn,hl⟩:=id I.loc
 have aap:(X.env.scope.kind == .class || (X.env.scope.kind == .module && X.env.locals != X.env.globals))=false:=by rw[I.ok.kind];rfl
 have hiσ:i < σ.length:=by rw[I.len];exact(Ë.mp hi).1
 have RE:=I.RE
 have tracked:∀ {a:Addr}{h':Heap},(∃ o,s.heap.get? a=À o/\H a=none)->b_ a s.heap h'->pf X.prog X.w H h':=λ {a h'} ha hs b ob e=>by
  obtain⟨_,_,Qt⟩:=ha
  refine(I.ar b ob e).Ce (λ c w' hc q=>(hs.2 c ?_).trans q) (λ _ q=>q) λ _ _ q=>q
  rintro rfl
  rcases hc with rfl|hc
  ·rw[Qt]at e;cases e
  ·rw[Qt]at hc;cases hc
 rcases hx with hk|hk
 ·refine wpAny_storeName_local hk hn (λ h' hn' hs=>?_) aap
  obtain⟨oL,_,_,hoL,_⟩:=id hn
  refine h _ ⟨I.ok,I.os,I.bare,⟨λ b o e n hb hx=>?_,λ b o e n hb hx=>?_,I.base.free,λ b o e hx=>?_,I.base.mD,I.base.jZ,I.base.Cq⟩,⟨_,hn',λ j y v' e1 e2 e3=>?_⟩,λ y c e=>?_,I.free,I.l_,λ p hp=>?_,tracked ⟨oL,hoL,I.free⟩ hs,by simpa using I.len⟩ ⟨_,hs,.inl rfl⟩
  ·exact(hs.2 b (Ć (ö (Ú e) I.ok.above))).trans (I.base.keep b o e n hb hx)
  ·obtain⟨sl,e1⟩:=I.base.slot b o e n hb hx
   exact⟨sl,(hs.2 b (Ć (ö (Ú e) I.ok.above))).trans e1⟩
  ·obtain⟨o',e1⟩:=I.base.there b o e hx
   exact⟨o',(hs.2 b (Ć (ö (Ú e) I.ok.above))).trans e1⟩
  ·by_cases hj:j=i
   ·subst hj
    rw[hi]at e1;cases e1
    rw[đ hiσ]at e2
    cases e2
    exact⟨u,r,.inl ⟨hk,by simp⟩⟩
   ·rw[ô (bR hj)]at e2
    obtain⟨u',r',q⟩:=hl j y v' e1 e2 e3
    refine⟨u',r',?_⟩
    rcases q with⟨k,e⟩|⟨k,c,e,z⟩
    ·refine .inl ⟨k,?_⟩
     have:y≠x:=λ e=>hj (BK hN e1 (e ▸ hi))
     simp[this,e]
    ·exact .inr ⟨k,c,e,z.sameBut hs (RE y c e)⟩
  ·obtain⟨w',z⟩:=I.cell y c e
   exact⟨w',z.sameBut hs (RE y c e)⟩
  ·obtain⟨e,n,ne,nf,d⟩:=I.pin p hp
   exact⟨(hs.2 p.1 ne).trans e,n,ne,nf,d⟩
 ·have hfn:X.fn x=true:=by
   rcases hf with z|z
   ·exact z
   ·rw[z]at hk;cases hk
  obtain⟨c,hc⟩:=I.ok.has x (.inl hk)
  obtain⟨w',z⟩:=I.cell x c hc
  refine wpAny_storeName_cell I.ok.kind hk hc z (λ h' hc' hs=>?_)
  obtain⟨oc,hoc,aat⟩:=id z
  refine h { s with heap:=h' } ⟨I.ok,I.os,I.bare,⟨λ b o e n hb hx=>?_,λ b o e n hb hx=>?_,I.base.free,λ b o e hx=>?_,I.base.mD,I.base.jZ,I.base.Cq⟩,⟨m,hn.sameBut hs (bR (RE x c hc)),λ j y v' e1 e2 e3=>?_⟩,λ y c' e=>?_,I.free,I.l_,λ p hp=>?_,tracked ⟨oc,hoc,I.l_ x c hc⟩ hs,by simpa using I.len⟩ ⟨c,hs,.inr hc⟩
  ·exact(hs.2 b (Ć (ö (Ú e) (I.ok.U4 x c hfn hc)))).trans (I.base.keep b o e n hb hx)
  ·obtain⟨sl,e1⟩:=I.base.slot b o e n hb hx
   exact⟨sl,(hs.2 b (Ć (ö (Ú e) (I.ok.U4 x c hfn hc)))).trans e1⟩
  ·obtain⟨o',e1⟩:=I.base.there b o e hx
   exact⟨o',(hs.2 b (Ć (ö (Ú e) (I.ok.U4 x c hfn hc)))).trans e1⟩
  ·by_cases hj:j=i
   ·subst hj
    rw[hi]at e1;cases e1
    rw[đ hiσ]at e2
    cases e2
    exact⟨u,r,.inr ⟨.inl hk,c,hc,hc'⟩⟩
   ·rw[ô (bR hj)]at e2
    obtain⟨u',r',q⟩:=hl j y v' e1 e2 e3
    refine⟨u',r',?_⟩
    rcases q with q|⟨k,c',e,z'⟩
    ·exact .inl q
    ·refine .inr ⟨k,c',e,z'.sameBut hs ?_⟩
     rintro rfl
     exact hj (BK hN e1 (I.ok.inj _ _ _ e hc ▸ hi))
  ·by_cases hcc:c'=c
   ·subst hcc;exact⟨_,hc'⟩
   ·obtain⟨w2,z2⟩:=I.cell y c' e
    exact⟨w2,z2.sameBut hs hcc⟩
  ·obtain⟨e,n,ne,nf,d⟩:=I.pin p hp
   refine⟨(hs.2 p.1 ?_).trans e,n,ne,nf,d⟩
   intro q
   rw[q,hoc]at e
   have q':oc=p.2:=ă e
   exact d w' (by rw[<-q'];exact aat)
theorem rh (I:Inv X Ä σ H s)(hN:X.N.Nodup)(hi:X.N[i]? = À x)(hx:Loc X.env.scope x)(r:RelV v u)
  (h:∀ s',Inv X Ä (σ.set i (À v)) H s'->Q () s') (hf:X.fn x=true∨X.env.scope.names.lookup x=À .local:=by first|exact .inl rfl|exact .inr rfl|assumption):ß M A (storeName X.env x u) Q E s:=
 sM I hN hi hx r (λ s' I' _=>h s' I') hf
theorem Inv.Wh (I:Inv X Ä σ H s)(ho:s'.os=s.os)(u:Un (Ic X.stack) ch H H' s.heap s'.heap) (ar:pf X.prog X.w H' s'.heap)(hg:p9 s'.gens)
  (Mw:∀ b∈ch,(b∈X.ex∨X.i'.heap.objs.size<=b)/\b≠X.env.locals/\(∀ x c,X.env.cells.lookup x=À c->c≠b)/\∀ p∈X.pn++Ä,p.1≠b):Inv X Ä σ H' s':=by
 obtain⟨h',g',d',t',o'⟩:=s'
 have e:o'=s.os:=ho
 subst e
 exact I.call (g':=g') (t':=t') (d':=d') u ar hg Mw
end
abbrev XK:=Ç->Í Addr->Hp->Prop
abbrev St:=Á (Í V)
abbrev VK:=V->Hp->Prop
abbrev TE:=St->Hp->VK->Prop
abbrev TT:=St->Hp->(Bool->Hp->Prop)->Prop
abbrev TA:=St->Hp->(Á V->Hp->Prop)->Prop
structure Ends where
 nx:St->Hp->Prop
 rt:VK
 bk:St->Hp->Prop:=λ _ _=>False
 ct:St->Hp->Prop:=λ _ _=>False
abbrev TS:=Ends->St->Hp->Prop
def EP (X:Cx)(Ä:Á (Addr × Obj)) (σ:St)(Q:VK)(u:Ç)(s':Ï):Prop:=∃ v H',Inv X Ä σ H' s'/\RelV v u/\Q v H'
def TP (X:Cx)(Ä:Á (Addr × Obj)) (σ:St)(Q:Bool->Hp->Prop)(b:Bool)(s':Ï):Prop:=∃ H',Inv X Ä σ H' s'/\Q b H'
def AP (X:Cx)(Ä:Á (Addr × Obj)) (σ:St)(Q:Á V->Hp->Prop)(us:Á Ç)(s':Ï):Prop:=∃ vs H',Inv X Ä σ H' s'/\Vals vs us/\Q vs H'
def SP (X:Cx)(Ä:Á (Addr × Obj)) (D:Ends)(f:Flow)(s':Ï):Prop:=
 match f with
 | .next=>∃ aD H',Inv X Ä aD H' s'/\D.nx aD H'
 | .brk=>∃ aD H',Inv X Ä aD H' s'/\D.bk aD H'
 | .cont=>∃ aD H',Inv X Ä aD H' s'/\D.ct aD H'
 | .ret u=>∃ v aD H',Inv X Ä aD H' s'/\RelV v u/\D.rt v H'
def PE (X:Cx)(e:Ů)(t:TE):Prop:=
 ∀ (Ä:Á (Addr × Obj)) (s:Ï) (σ:St) (H:Hp) (Q:VK),Inv X Ä σ H s->t σ H Q->ß (á X.prog X.w) X.A (Ŝ e X.env) (EP X Ä σ Q) X.xe s
def PT (X:Cx)(e:Ů)(t:TT):Prop:=
 ∀ (Ä:Á (Addr × Obj)) (s:Ï) (σ:St) (H:Hp) (Q:Bool->Hp->Prop),Inv X Ä σ H s->t σ H Q->ß (á X.prog X.w) X.A (Gz e X.env (Ŝ e X.env)) (TP X Ä σ Q) X.xe s
def PW (X:Cx)(e:Ů)(t:TT):Prop:=
 ∀ (whole:YN Ç) (Ä:Á (Addr × Obj)) (s:Ï) (σ:St) (H:Hp) (Q:Bool->Hp->Prop),Inv X Ä σ H s->t σ H Q->ß (á X.prog X.w) X.A (Gz e X.env whole) (TP X Ä σ Q) X.xe s
theorem PW.pt (h:PW X e t):PT X e t:=h _
def PA (X:Cx)(es:Á Ů)(t:TA):Prop:=
 ∀ (pos:ki) (Ä:Á (Addr × Obj)) (s:Ï) (σ:St) (H:Hp) (Q:Á V->Hp->Prop),Inv X Ä σ H s->t σ H Q->ß (á X.prog X.w) X.A (spliced (aO pos (à es X.env))) (AP X Ä σ Q) X.xe s
def PS (X:Cx)(st:Stmt)(t:TS):Prop:=
 ∀ (Ä:Á (Addr × Obj)) (s:Ï) (σ:St) (H:Hp) (D:Ends),Inv X Ä σ H s->t D σ H->ß (á X.prog X.w) X.A (exec st X.env) (SP X Ä D) X.xe s
def p5 (X:Cx)(st:Á Stmt)(t:TS):Prop:=
 ∀ (Ä:Á (Addr × Obj)) (s:Ï) (σ:St) (H:Hp) (D:Ends),Inv X Ä σ H s->t D σ H->ß (á X.prog X.w) X.A (execs st X.env) (SP X Ä D) X.xe s
theorem kj {α β:Type}{a b c:α->β->Prop}{P:Prop}(h:∃ x y,a x y/\b x y/\c x y)(k:∀ x y,a x y->b x y->c x y->P):P:=by
 obtain⟨x,y,h1,h2,h3⟩:=h
 exact k x y h1 h2 h3
theorem ak (h:ß M A t Q E s)(hQ:∀ a s,Q a s->Q' a s):ß M A t Q' E s:=fm h hQ λ _ _ x=>x
section
variable {X:Cx}
def UE (i:Nat):TE:=λ σ H Q=>∃ v,σ[i]? = À (À v)/\Q v H
def tC (v:V):TE:=λ _ H Q=>Q v H
theorem T5 (hN:X.N[i]? = À x)(hv:ZX X.env.scope x)(hd:(x == ("__debug__":Str))=false:=by decide) (Ie:(x == ("__classdict__":Str))=false:=by decide):PE X (.Name x pos) (UE i):=by
 intro Ä s σ H Q I h
 obtain⟨v,e,h⟩:=h
 obtain⟨m,hn,hl⟩:=I.loc
 obtain⟨u,r,l⟩:=hl i x v hN e hv
 have fin:EP X Ä σ Q u s:=⟨v,H,I,r,h⟩
 rcases l with⟨hk,hm⟩|⟨hk,c,hc,ye⟩
 ·exact V6 (wpAny_loadName_local I.ok.kind hk hn hm fin) hd
 ·rcases hk with hk|hk
  ·exact V6 (wpAny_loadName_cell I.ok.kind hk hc ye fin) hd
  ·exact V6 (wpAny_loadName_free I.ok.kind hk hc ye fin Ie) hd
theorem TU:PE X (.Constant (.int i) j pos) (tC (.int i)):=λ _ _ _ H _ I h=>wpAny_Constant_int ⟨.int i,H,I.tok _,⟨_,rfl⟩,h⟩
theorem X1:PE X (.Constant (.bool b) j pos) (tC (.bl b)):=λ _ _ _ H _ I h=>Constant_bool ⟨.bl b,H,I,rfl,h⟩
theorem TX:PE X (.Constant .none j pos) (tC .ĥ):=λ _ _ _ H _ I h=>Constant_none ⟨.ĥ,H,I,rfl,h⟩
theorem T3:PE X (.Constant (.str x) j pos) (tC (.str x)):=λ _ _ _ H _ I h=>Calls.Constant_str ⟨.str x,H,I.tok _,⟨_,rfl⟩,h⟩
def Gl (X:Cx)(x:Str):Prop:=X.env.kindOf x=À .globalImplicit
theorem Fu (I:Inv X Ä σ H s)(hg:Gl X x)(hm:X.mg x=À u)(h:Q u s)
  (hd:(x == ("__debug__":Str))=false:=by decide):ß (á X.prog X.w) X.A (Ŝ (.Name x pos) X.env) Q E s:=
 yI I.ok.kind hg (Calls.loadGlobal_global (by rw[I.ok.glob];exact I.mod.glob.keeps I.bk) hm h) hd
theorem sA (I:Inv X Ä σ H s)(hg:Gl X x)(hm:X.mg x=none)(hv:č x=À u)(h:Q u s)
  (hn:x≠"__name__":=by decide) (hd:(x == ("__debug__":Str))=false:=by decide):ß (á X.prog X.w) X.A (Ŝ (.Name x pos) X.env) Q E s:=by
 obtain⟨mb,h1,h2⟩:=I.mod.blt
 exact yI I.ok.kind hg (Calls.loadGlobal_builtin (by rw[I.ok.glob];exact I.mod.glob.keeps I.bk) hm (by rw[I.ok.blt];exact h1.keeps I.bk) ((h2 x hn).trans hv) h) hd
theorem OF (hg:Gl X x)(hm:X.mg x=À u)(r:RelV v u)(hd:(x == ("__debug__":Str))=false:=by decide):PE X (.Name x pos) (tC v):=
 λ _ _ _ H _ I h=>Fu I hg hm ⟨v,H,I,r,h⟩ hd
theorem Oz (hg:Gl X x)(hm:X.mg x=none)(hv:č x=À u)(r:RelV v u)(hn:x≠"__name__":=by decide)(hd:(x == ("__debug__":Str))=false:=by decide):PE X (.Name x pos) (tC v):=
 λ _ _ _ H _ I h=>sA I hg hm hv ⟨v,H,I,r,h⟩ hn hd
variable {a b:Ů}{ta tb:TE}{pos:ki}
variable {tA tB':TT}{rest:Á Ů}
def aa4 (t u:TT):TT:=λ σ H Q=>t σ H λ c H1=>if c=true then u σ H1 Q else Q false H1
def tOr (t u:TT):TT:=λ σ H Q=>t σ H λ c H1=>if c=true then Q true H1 else u σ H1 Q
def aa9 (t:TT):TT:=λ σ H Q=>t σ H λ c H1=>Q (!c) H1
theorem pw_and1 (ha:PT X a tA):PW X (.BoolOp .And [a] pos) tA:=by
 intro wh Ä s σ H Q I h
 refine isTrue_and (ak (ha Ä s σ H Q I h) λ c s1 e=>?_)
 cases c with
 | true=>exact isTrue_and_nil e
 | false=>exact e
theorem pw_or1 (ha:PT X a tA):PW X (.BoolOp .Or [a] pos) tA:=by
 intro wh Ä s σ H Q I h
 refine isTrue_or (ak (ha Ä s σ H Q I h) λ c s1 e=>?_)
 cases c with
 | false=>exact isTrue_or_nil e
 | true=>exact e
theorem pw_and (ha:PT X a tA)(hb:PW X (.BoolOp .And (b :: rest) pos) tB'):PW X (.BoolOp .And (a :: b :: rest) pos) (aa4 tA tB'):=by
 intro wh Ä s σ H Q I h
 refine isTrue_and (ak (ha Ä s σ H _ I h) λ c s1 zz=>?_)
 obtain⟨H1,I1,q1⟩:=zz
 cases c with
 | true=>exact hb wh Ä s1 σ H1 Q I1 q1
 | false=>exact⟨H1,I1,q1⟩
theorem pw_or (ha:PT X a tA)(hb:PW X (.BoolOp .Or (b :: rest) pos) tB'):PW X (.BoolOp .Or (a :: b :: rest) pos) (tOr tA tB'):=by
 intro wh Ä s σ H Q I h
 refine isTrue_or (ak (ha Ä s σ H _ I h) λ c s1 zz=>?_)
 obtain⟨H1,I1,q1⟩:=zz
 cases c with
 | true=>exact⟨H1,I1,q1⟩
 | false=>exact hb wh Ä s1 σ H1 Q I1 q1
theorem Ue (ha:PT X a tA):PT X (.UnaryOp .Not a pos) (aa9 tA):=by
 intro Ä s σ H Q I h
 exact isTrue_not (ha Ä s σ H (λ c H1=>Q (!c) H1) I h)
def Yn (ta tb:TE):TE:=λ σ H Q=>ta σ H λ x H1=>∃ c,x=.bl c/\if c=true then tb σ H1 Q else Q (.bl false) H1
def Yt (ta:TE):TE:=λ σ H Q=>ta σ H λ x H1=>∃ c,x=.bl c/\Q (.bl (!c)) H1
theorem TZ (h:PE X a t):PE X (.BoolOp op [a] pos) t:=λ Ä s σ H Q I hw=>BoolOp_one (h Ä s σ H Q I hw)
theorem TR (ha:PE X a ta)(hb:PE X (.BoolOp .And (b :: rest) pos) tb):PE X (.BoolOp .And (a :: b :: rest) pos) (Yn ta tb):=by
 intro Ä s σ H Q I h
 refine BoolOp_and (ak (ha Ä s σ H _ I h) λ v s1 zz=>kj zz λ x H1 I1 r1 q1=>?_)
 obtain⟨c,rfl,q1⟩:=q1
 cases r1
 refine bo ?_
 cases c with
 | true=>exact hb Ä s1 σ H1 Q I1 q1
 | false=>exact⟨.bl false,H1,I1,rfl,q1⟩
theorem TY (ha:PE X a ta):PE X (.UnaryOp .Not a pos) (Yt ta):=by
 intro Ä s σ H Q I h
 refine UnaryOp_ (ak (ha Ä s σ H _ I h) λ v s1 zz=>kj zz λ x H1 I1 r1 q1=>?_)
 obtain⟨c,rfl,q1⟩:=q1
 cases r1
 exact not_of (bo ⟨.bl (!c),H1,I1,rfl,q1⟩)
def tIf (t:TT)(ta tb:TE):TE:=λ σ H Q=>t σ H λ c H1=>if c=true then ta σ H1 Q else tb σ H1 Q
theorem KD (hc:PT X c tA)(ha:PE X a ta)(hb:PE X b tb):PE X (.IfExp c a b pos) (tIf tA ta tb):=by
 intro Ä s σ H Q I h
 refine wpAny_IfExp (ak (hc Ä s σ H _ I h) λ d s1 zz=>?_)
 obtain⟨H1,I1,q1⟩:=zz
 cases d with
 | true=>exact ha Ä s1 σ H1 Q I1 q1
 | false=>exact hb Ä s1 σ H1 Q I1 q1
end
def f9 (K:Ô)(H:Hp)(a:Addr)(xs:Á V):Prop:=
 Rd H a (.lst xs)∨
  ∃ (o:Obj) (its:ė Ç) (n:Nat),K.lookup a=À o/\o.cls=.type "list"/\o.dict=none/\o.data=.seq its n/\its.size<=sizeLine/\Vals xs its.toList
def iP (K:Ô)(H:Hp)(a:Addr)(xs:Á V):Prop:=
 Rd H a (.tup xs)∨
  ∃ (o:Obj) (its:ė Ç) (n:Nat),K.lookup a=À o/\o.cls=.type "tuple"/\o.data=.seq its n/\its.size<=sizeLine/\Vals xs its.toList
def ZY:Ç->Í V
 | .none=>À .ĥ
 | .bool b=>À (.bl b)
 | .int i _=>À (.int i)
 | .str x _=>À (.str x)
 | .bytes b _=>À (.EW b)
 | .float b _=>À (.R4 b)
 | .ref a=>À (.ref a)
 | .type n=>À (.ty n)
 | _=>none
theorem RelV.abs (r:RelV x u):ZY u=À x:=by
 cases x with
 | ĥ=>cases r;rfl
 | bl _=>cases r;rfl
 | int _=>obtain⟨t,rfl⟩:=r;rfl
 | str _=>obtain⟨t,rfl⟩:=r;rfl
 | EW _=>obtain⟨t,rfl⟩:=r;rfl
 | R4 _=>obtain⟨t,rfl⟩:=r;rfl
 | ref _=>cases r;rfl
 | ty _=>cases r;rfl
theorem RelV.inj (r:RelV x u)(q:RelV y u):x=y:=ă (r.abs.symm.trans q.abs)
theorem Vals.inj:∀ {xs ys:Á V}{us:Á Ç},Vals xs us->Vals ys us->xs=ys
 | _,_,_,.nil,.nil=>rfl
 | _,_,_,.cons r t,.cons r' t'=>by rw[r.inj r',Vals.inj t t']
section
variable {X:Cx}{Ä:Á (Addr × Obj)}{σ:St}{H:Hp}{s:Ï}{a:Addr}{xs ys:Á V}
theorem f9.of {K:Ô}(h:H a=À (.lst xs)):f9 K H a xs:=.inl (.inl h)
theorem iP.of {K:Ô}(h:H a=À (.tup xs)):iP K H a xs:=.inl (.inl h)
theorem Inv.list (I:Inv X Ä σ H s)(h:f9 X.K H a xs):∃ its:Á Ç,Vals xs its/\PlainL s.heap a its.toArray/\xs.length<=sizeLine:=by
 rcases h with h|⟨o,its,n,hk,hc,hd,hs,hz,r⟩
 ·obtain⟨z,its,n,r,e⟩:=h.ok I.ar
  exact⟨its,r,⟨_,n,e,rfl,rfl,rfl⟩,z⟩
 ·refine⟨its.toList,r,⟨o,n,I.yl a o hk,hc,hd,by simpa using hs⟩,?_⟩
  have e:=r.length
  simp only[Ď]at e
  lia
theorem Inv.tuple (I:Inv X Ä σ H s)(h:iP X.K H a xs):∃ its:Á Ç,Vals xs its/\YG s.heap a its.toArray/\xs.length<=sizeLine:=by
 rcases h with h|⟨o,its,n,hk,hc,hs,hz,r⟩
 ·obtain⟨z,its,r,p⟩:=h.ok I.ar
  exact⟨its,r,p,z⟩
 ·refine⟨its.toList,r,⟨o,I.yl a o hk,hc,n,by simpa using hs⟩,?_⟩
  have e:=r.length
  simp only[Ď]at e
  lia
theorem Inv.vS (I:Inv X Ä σ H s)(h:f9 X.K H a xs)(h':f9 X.K H a ys):xs=ys:=by
 obtain⟨its,r,⟨o,n,e,_,_,d⟩,_⟩:=I.list h
 obtain⟨its',r',⟨o',n',e',_,_,d'⟩,_⟩:=I.list h'
 rw[e]at e';cases e'
 rw[d]at d'
 injection d' with d1 _
 have:its=its':=by simpa using Ě C4 d1
 subst this
 exact r.inj r'
theorem Inv.sN (I:Inv X Ä σ H s)(h:iP X.K H a xs)(h':iP X.K H a ys):xs=ys:=by
 obtain⟨its,r,⟨o,e,_,n,d⟩,_⟩:=I.tuple h
 obtain⟨its',r',⟨o',e',_,n',d'⟩,_⟩:=I.tuple h'
 rw[e]at e';cases e'
 rw[d]at d'
 injection d' with d1 _
 have:its=its':=by simpa using Ě C4 d1
 subst this
 exact r.inj r'
end
abbrev Cx.xy (X:Cx)(E:Ç->Ï->Prop):Cx:={ X with xe:=E }
abbrev Cx.VF (X:Cx):Cx:=X.xy λ _ _=>False
theorem Cx.Ok.xy {X:Cx}(ok:X.Ok)(E:Ç->Ï->Prop):(X.xy E).Ok:=
 ⟨ok.mod,ok.kind,ok.glob,ok.blt,ok.above,ok.inj,ok.has,ok.U4,ok.hd,ok.frames,ok.Yk,ok.exf,ok.bs,ok.M8,ok.Hm,ok.GR,ok.ud,ok.R'⟩
theorem Cx.Ok.nK {X:Cx}{E:Ç->Ï->Prop}(ok:(X.xy E).Ok):X.Ok:=
 ⟨ok.mod,ok.kind,ok.glob,ok.blt,ok.above,ok.inj,ok.has,ok.U4,ok.hd,ok.frames,ok.Yk,ok.exf,ok.bs,ok.M8,ok.Hm,ok.GR,ok.ud,ok.R'⟩
section
variable {X:Cx}{Ä:Á (Addr × Obj)}{σ:St}{H:Hp}{s:Ï}{E:Ç->Ï->Prop}
theorem Inv.xy (I:Inv X Ä σ H s)(E:Ç->Ï->Prop):Inv (X.xy E) Ä σ H s:=⟨I.ok.xy E,I.os,I.bare,I.base,I.loc,I.cell,I.free,I.l_,I.pin,I.ar,I.len⟩
theorem Inv.nK (I:Inv (X.xy E) Ä σ H s):Inv X Ä σ H s:=⟨I.ok.nK,I.os,I.bare,I.base,I.loc,I.cell,I.free,I.l_,I.pin,I.ar,I.len⟩
theorem SP.nK (h:SP (X.xy E) Ä D f s'):SP X Ä D f s':=by
 cases f with
 | next=>obtain⟨aD,H',I,q⟩:=h;exact⟨aD,H',I.nK,q⟩
 | brk=>obtain⟨aD,H',I,q⟩:=h;exact⟨aD,H',I.nK,q⟩
 | cont=>obtain⟨aD,H',I,q⟩:=h;exact⟨aD,H',I.nK,q⟩
 | ret u=>obtain⟨v,aD,H',I,r,q⟩:=h;exact⟨v,aD,H',I.nK,r,q⟩
theorem p5.VF {st:Á Stmt}{t:TS}(h:p5 X.VF st t):p5 X st t:=λ Ä s σ H D I hw=>
 fm (h Ä s σ H D (I.xy _) hw) (λ _ _ q=>q.nK) λ _ _ z=>bw z
end
section
variable {X:Cx}{st:Stmt}{rest:Á Stmt}{t u:TS}{e:Ů}{te:TE}{pos:ki}
def Ys:TS:=λ D σ H=>D.nx σ H
def abc (t u:TS):TS:=λ D σ H=>t { D with nx:=u D } σ H
theorem OW:p5 X [] Ys:=λ _ _ σ H _ I h=>rF ⟨σ,H,I,h⟩
theorem KW (h1:PS X st t)(h2:p5 X rest u):p5 X (st :: rest) (abc t u):=by
 intro Ä s σ H D I h
 refine ZN (ak (h1 Ä s σ H { D with nx:=u D } I h) λ f s1 q=>?_)
 cases f with
 | next=>
  obtain⟨aD,H',I',q⟩:=q
  exact h2 Ä s1 aD H' D I' q
 | ret v=>exact q
 | brk=>exact q
 | cont=>exact q
theorem OX (h1:PS X st t):p5 X [st] t:=by
 intro Ä s σ H D I h
 refine ZN (ak (h1 Ä s σ H D I h) λ f s1 q=>?_)
 cases f with
 | next=>exact rF q
 | ret v=>exact q
 | brk=>exact q
 | cont=>exact q
theorem Inv.quiet (I:Inv X Ä σ H s):interactive X.env=false:=by simp[interactive,I.ok.kind]
def Yr (te:TE):TS:=λ D σ H=>te σ H λ _ H1=>D.nx σ H1
theorem OV (he:PE X e te)(hs:fA e none pos.line X.env=pure false:=by rfl):PS X (.Expr e pos) (Yr te):=by
 intro Ä s σ H D I h
 exact wpAny_Expr_any (ak (he Ä s σ H _ I h) λ v s1 zz=>kj zz λ x H1 I1 r1 q1=>⟨σ,H1,I1,q1⟩) I.quiet hs
def abb (te:TE):TS:=λ D σ H=>te σ H D.rt
theorem Uc (he:PE X e te):PS X (.Return (À e) pos) (abb te):=by
 intro Ä s σ H D I h
 exact wpAny_Return_some (ak (he Ä s σ H _ I h) λ v s1 zz=>kj zz λ x H1 I1 r1 q1=>⟨x,σ,H1,I1,r1,q1⟩)
def aa7 (c:TT)(t u:TS):TS:=λ D σ H=>c σ H λ b H1=>if b=true then t D σ H1 else u D σ H1
theorem X_ (hc:PT X c tc)(ha:p5 X a t)(hb:p5 X b u):PS X (.If c a b pos) (aa7 tc t u):=by
 intro Ä s σ H D I h
 refine wpAny_If (ak (hc Ä s σ H _ I h) λ d s1 zz=>?_)
 obtain⟨H1,I1,q1⟩:=zz
 cases d with
 | true=>exact ha Ä s1 σ H1 D I1 q1
 | false=>exact hb Ä s1 σ H1 D I1 q1
end
abbrev TG:=V->St->Hp->(St->Hp->Prop)->Prop
abbrev U3:=Á V->St->Hp->(St->Hp->Prop)->Prop
def PG (X:Cx)(target:Ů)(t:TG):Prop:=
 ∀ (Ä:Á (Addr × Obj)) (s:Ï) (σ:St) (H:Hp) (v:V) (u:Ç) (Q:St->Hp->Prop),Inv X Ä σ H s->RelV v u->t v σ H Q->
  ß (á X.prog X.w) X.A (gX target X.env u) (λ _ s'=>∃ aD H',Inv X Ä aD H' s'/\Q aD H') X.xe s
def EM (X:Cx)(ts:Á Ů)(t:U3):Prop:=
 ∀ (Ä:Á (Addr × Obj)) (s:Ï) (σ:St) (H:Hp) (vs:Á V) (us:Á Ç) (Q:St->Hp->Prop),Inv X Ä σ H s->Vals vs us->t vs σ H Q->
  ß (á X.prog X.w) X.A (Iw ((dC ts X.env).map (·.2)) us) (λ _ s'=>∃ aD H',Inv X Ä aD H' s'/\Q aD H') X.xe s
abbrev V':=V->V->V->Hp->(Hp->Prop)->Prop
def V9 (X:Cx)(t:V'):Prop:=
 ∀ (Ä:Á (Addr × Obj)) (s:Ï) (σ:St) (H:Hp) (o i v:V) (ov iv u:Ç) (Q:Hp->Prop),Inv X Ä σ H s->RelV o ov->RelV i iv->RelV v u->t o i v H Q->
  ß (á X.prog X.w) X.A (YV ov iv u) (λ _ s'=>∃ H',Inv X Ä σ H' s'/\Q H') X.xe s
section
variable {X:Cx}{pos:ki}
def Bh (i:Nat):TG:=λ v σ H Q=>Q (σ.set i (À v)) H
theorem OG (hN:X.N.Nodup)(hi:X.N[i]? = À x)(hx:Loc X.env.scope x)(hf:X.fn x=true∨X.env.scope.names.lookup x=À .local:=by first|exact .inl rfl|exact .inr rfl|assumption):PG X (.Name x pos) (Bh i):=by
 intro Ä s σ H v u Q I r h
 exact yT (rh I hN hi hx r (λ s' I'=>⟨_,H,I',h⟩) hf)
def aah:U3:=λ vs σ H Q=>vs=[]/\Q σ H
def Wx (t:TG)(u:U3):U3:=λ vs σ H Q=>∃ v r,vs=v :: r/\t v σ H λ aD H'=>u r aD H' Q
theorem OH:EM X [] aah:=by
 intro Ä s σ H vs us Q I r h
 obtain⟨e,h⟩:=h
 subst e
 cases r
 exact YS ⟨σ,H,I,h⟩
theorem KI (h1:PG X e t)(h2:EM X es u)
  (hs:(dC (e :: es) X.env).map (·.2)=gX e X.env :: (dC es X.env).map (·.2):=by rfl):EM X (e :: es) (Wx t u):=by
 intro Ä s σ H vs us Q I r h
 obtain⟨v,vr,e1,h⟩:=h
 subst e1
 cases r with
 | cons r rr=>
  rw[hs]
  refine w6 (ak (h1 Ä s σ H _ _ _ I r h) λ _ s1 zz=>?_)
  obtain⟨uh,H1,I1,q1⟩:=zz
  exact h2 Ä s1 uh H1 _ _ Q I1 rr q1
def aak (K:Ô)(n:Nat)(t:U3):TG:=λ v σ H Q=>∃ a xs,v=.ref a/\iP K H a xs/\xs.length=n/\t xs σ H Q
theorem KH (hc:X.calm=true)(h:EM X es t)
  (hn:(dC es X.env).length=n:=by rfl) (VC:(dC es X.env).findIdx? (·.1)=none:=by rfl):PG X (.Tuple es k pos) (aak X.K n t):=by
 intro Ä s σ H v u Q I r hw
 obtain⟨a,xs,e1,hq,hl,hw⟩:=hw
 subst e1
 cases r
 obtain⟨its,rv,ht,hz⟩:=I.tuple hq
 refine assign_Tuple_tuple (I.ok.hd hc) ht (by simp[hn,<-hl,rv.length]) VC λ h' hx=>?_
 have I1:Inv X Ä σ H { s with heap:=h' }:=I.kept (t':=s.toks) λ b o e=>hx b o (Ć (Ú e)) e
 exact h Ä _ σ H xs _ Q I1 (by simpa using rv) hw
def aaj (to ti:TE)(t:V'):TG:=λ v σ H Q=>to σ H λ o H1=>ti σ H1 λ i H2=>t o i v H2 λ H3=>Q σ H3
theorem T6 (ho:PE X o to)(hi:PE X i ti)(hs:V9 X t)
  (ha:∀ v,gX (.Subscript o i pos) X.env v=(do
   let ov <-qg [v] (Ŝ o X.env)
   let iv <-qg [v,ov] (Ŝ i X.env)
   uw pos
   qg [v,ov,iv] (YV ov iv v)
   release [v,ov,iv] []):=by intro _;rfl):PG X (.Subscript o i pos) (aaj to ti t):=by
 intro Ä s σ H v u Q I r h
 rw[ha]
 refine Â (Ŭ (ak (ho Ä s σ H _ I h) λ ov s1 zz=>kj zz λ x H1 I1 r1 q1=>?_))
 refine Â (Ŭ (ak (hi Ä s1 σ H1 _ I1 q1) λ iv s2 zz=>kj zz λ y H2 I2 r2 q2=>?_))
 refine Â (dU (Â (Ŭ (ak (hs Ä s2 σ H2 x y v ov iv u _ I2 r1 r2 r q2) λ _ s3 zz=>?_))))
 obtain⟨H3,I3,q3⟩:=zz
 exact wpAny_release ⟨σ,H3,I3,q3⟩
def Lo (te:TE)(g:TG):TS:=λ D σ H=>te σ H λ x H1=>g x σ H1 D.nx
theorem T_ (he:PE X e te)(hg:PG X tg g)(hs:wV [tg] e pos.line X.env=pure false:=by rfl)(hw:wU [tg] e X.env=pure none:=by rfl)
  (h1:(dC [tg] X.env).map (·.2)=[gX tg X.env]:=by rfl):PS X (.Assign [tg] e pos) (Lo te g):=by
 intro Ä s σ H D I h
 refine wpAny_Assign_stores (ak (he Ä s σ H _ I h) λ v s1 zz=>kj zz λ x H1 I1 r1 q1=>?_) hs hw
 rw[h1]
 exact ak (hg Ä s1 σ H1 x v _ I1 r1 q1) λ _ s2 q=>q
theorem Ud (hN:X.N.Nodup)(hi:X.N[i]? = À x)(hx:Loc X.env.scope x)(he:PE X e te)(hs:fA e (À (.Name x pos')) pos.line X.env=pure false:=by rfl) (hf:X.fn x=true∨X.env.scope.names.lookup x=À .local:=by first|exact .inl rfl|exact .inr rfl|assumption) :
  PS X (.Assign [.Name x pos'] e pos) (Lo te (Bh i)):=by
 intro Ä s σ H D I h
 refine wpAny_Assign_Name (ak (he Ä s σ H _ I h) λ v s1 zz=>kj zz λ y H1 I1 r1 q1=>?_) hs
 exact rh I1 hN hi hx r1 (λ s2 I2=>⟨_,H1,I2,q1⟩) hf
def aba (i j:Nat)(ta:TA):TS:=λ D σ H=>ta σ H λ vs H1=>∃ v w,vs=[v,w]/\D.nx ((σ.set i (À v)).set j (À w)) H1
theorem Ub (hc:X.calm=true)(hN:X.N.Nodup)(hi:X.N[i]? = À x)(hj:X.N[j]? = À y)(Au:i≠j)
  (hx:X.env.scope.names.lookup x=À .local) (hy:X.env.scope.names.lookup y=À .local) (ha:PA X [a,b] ta)
  (hw:wU [.Tuple [.Name x px,.Name y py] kt pt] (.Tuple [a,b] k2 X') X.env=pure (À [x,y]))
  (hs:wV [.Tuple [.Name x px,.Name y py] kt pt] (.Tuple [a,b] k2 X') pos.line X.env=pure false:=by rfl) :
  PS X (.Assign [.Tuple [.Name x px,.Name y py] kt pt] (.Tuple [a,b] k2 X') pos) (aba i j ta):=by
 intro Ä s σ H D I h
 rw[exec_Assign_arm]
 refine Â (dU ?_)
 rw[hs]
 refine Â (Ê ?_)
 rw[Ó (by decide)]
 refine Â (Tuple_ (ak (ha _ Ä s σ H _ I h) λ us s1 zz=>kj zz λ vs H1 I1 r1 q1=>?_))
 obtain⟨v,w,e1,q1⟩:=q1
 subst e1
 obtain⟨u1,u2,rfl,rv,B9⟩:∃ u1 u2,us=[u1,u2]/\RelV v u1/\RelV w u2:=by
  cases r1 with
  | cons p q=>
   cases q with
   | cons p' q'=>
    cases q'
    exact⟨_,_,rfl,p,p'⟩
 refine ŝ ?_ (by show 2<=sizeLine;decide)
 have I2:Inv X Ä σ H1 { s1 with heap:=s1.heap.push { cls:=.type "tuple",data:=.seq [u1,u2].toArray } }:=I1.kept (t':=s1.toks) λ b o e=>Å _ e
 rw[hw]
 refine Â (Ê ?_)
 show ß (á X.prog X.w) X.A (do rule "assign.swapped-stores";let items <-unpackItems (.ref s1.heap.objs.size) 2 none;Iw [λ v=>Rb X.env y v,λ v=>Rb X.env x v] items.reverse;pure Flow.next) _ _ _
 refine Â (b9 (Â (unpackItems_tuple (items:=#[u1,u2]) (I.ok.hd hc) (CM s1.heap _) λ h' NF=>?_)))
 have I3:=I2.kept (h':=h') (t':=s1.toks) λ b o e=>NF b o (Ć (Ú e)) e
 show ß _ _ (Iw [λ v=>Rb X.env y v,λ v=>Rb X.env x v] [u2,u1] >>= λ _=>pure Flow.next) _ _ _
 refine Â (w6 (wpAny_bindName (rh I3 hN hj (.inl hy) B9 (λ s2 I4=>?_) (.inr hy))))
 refine w6 (wpAny_bindName (rh I4 hN hi (.inl hx) rv (λ s3 I5=>YS (Ê ?_)) (.inr hx)))
 rw[List.set_comm _ _ (bR Au)]at I5
 exact⟨_,H1,I5,q1⟩
def UG (c:TT)(tb:TS):TS:=λ D σ H=>∃ W:Nat->St->Hp->Prop,(∃ m,W m σ H)/\∀ m σ H,W m σ H->
 c σ H λ b H1=>if b=true then ∃ N:St->Hp->Prop,(∀ aD H',N aD H'->∃ m',m' < m/\W m' aD H')/\tb { D with nx:=N,ct:=N,bk:=D.nx } σ H1 else D.nx σ H1
theorem KU (hp:Me (á X.prog X.w) X.A X.env X.xe) (hc:PT X c tc)(hb:p5 X body tb):PS X (.While c body [] pos) (UG tc tb):=by
 intro Ä s σ H D I h
 obtain⟨W,⟨m0,w0⟩,turn⟩:=h
 refine wpAny_While (codeAny_whileLoop (λ n s'=>∃ aD H',Inv X Ä aD H' s'/\W n aD H') ?_ m0 ⟨σ,H,I,w0⟩)
 rintro n s1 ⟨uh,H1,I1,w1⟩
 refine dJ hp (ak (hc Ä s1 uh H1 _ I1 (turn n uh H1 w1)) λ b s2 zz=>?_)
 obtain⟨H2,I2,q2⟩:=zz
 cases b with
 | true=>
  obtain⟨N,hN,q2⟩:=q2
  rw[É rfl]
  refine dJ hp (ak (hb Ä s2 uh H2 _ I2 q2) λ f s3 q3=>?_)
  cases f with
  | next=>
   obtain⟨xB,H3,I3,n3⟩:=q3
   obtain⟨m',hm,w3⟩:=hN xB H3 n3
   exact⟨m',hm,xB,H3,I3,w3⟩
  | cont=>
   obtain⟨xB,H3,I3,n3⟩:=q3
   obtain⟨m',hm,w3⟩:=hN xB H3 n3
   exact⟨m',hm,xB,H3,I3,w3⟩
  | brk=>exact q3
  | ret v=>exact q3
 | false=>
  rw[Ó è]
  exact rF ⟨uh,H2,I2,q2⟩
end
structure It where
 go:Nat->Hp->Prop
 HV:Nat->Hp->V->Hp->Prop
 stop:Nat->Hp->Prop
def o_ (X:Cx)(Ä:Á (Addr × Obj)) (H:Hp)(b:Addr):Prop:=
 H b=none/\b≠X.env.locals/\b∉X.fs/\(b∈X.ex∨X.i'.heap.objs.size<=b)/\(∀ x c,X.env.cells.lookup x=À c->c≠b)/\∀ p∈X.pn++Ä,p.1≠b
theorem Inv.Dx (I:Inv X Ä σ H s)(hb:s.heap.objs.size<=b)(hn:H' b=none):o_ X Ä H' b:=by
 refine⟨hn,ow (ö I.lt hb),I.aaL hb,.inr (ā I.sz hb),λ x c e z=>?_,λ p hp z=>?_⟩
 ·obtain⟨v,q⟩:=I.cell x c e
  exact absurd (ö q.lt (by rw[z];exact hb)) (ŉ _)
 ·exact absurd (ö (Ú (I.pin p hp).1) (by rw[z];exact hb)) (ŉ _)
structure Turn (P:ý)(w:ğ)(K:Ô)(tg:Ů)(J:It)(fp:Á Addr)(it:Addr)(tn:Nat->Heap->Prop):Prop where
 mem:it∈fp
 obj:∀ i h,tn i h->∀ b∈fp,∃ o,h.get? b=À o/\∀ v,o.data≠.cell v
 keep:∀ i h h',tn i h->(∀ b∈fp,∀ o,h.get? b=À o->h'.get? b=À o)->tn i h'
 item:∀ (X:Cx),X.prog=P->X.w=w->X.K=K->X.calm=true->∀ (i:Nat) (Ä:Á (Addr × Obj)) (s:Ï) (σ:St) (H:Hp) (E:Ç->Ï->Prop),Inv X Ä σ H s->(∀ b∈fp,o_ X Ä H b)->tn i s.heap->J.go i H->
  ß (á P w) X.A (iI (.ref it)) (λ r s1=>∃ u,r=À u/\
   ß (á P w) X.A (kC tg (.ref it) u) (λ _ s2=>∃ x H',Inv X Ä σ H' s2/\RelV x u/\J.HV i H x H'/\tn (i+1) s2.heap/\∀ b∈fp,H' b=none) E s1) E s
 done:∀ (X:Cx),X.prog=P->X.w=w->X.K=K->X.calm=true->∀ (i:Nat) (Ä:Á (Addr × Obj)) (s:Ï) (σ:St) (H:Hp) (E:Ç->Ï->Prop),Inv X Ä σ H s->(∀ b∈fp,o_ X Ä H b)->tn i s.heap->J.stop i H->
  ß (á P w) X.A (iI (.ref it)) (λ r s1=>r=none/\Inv X Ä σ H s1) E s
 self:∀ (A:ō) (i:Nat) (s:Ï) (Q:Ç->Ï->Prop) (E:Ç->Ï->Prop),tn i s.heap->Q (.ref it) s->ß (á P w) A (GA (.ref it)) Q E s
abbrev TI:=St->Hp->(It->Hp->Prop)->Prop
def PIE (X:Cx)(Ä:Á (Addr × Obj)) (σ:St)(tg:Ů)(R:It->Hp->Prop)(QB:Ç)(s2:Ï):Prop:=
 ∃ (it:Addr) (fp:Á Addr) (tn:Nat->Heap->Prop) (J:It) (H':Hp),QB=.ref it/\Inv X Ä σ H' s2/\Turn X.prog X.w X.K tg J fp it tn/\tn 0 s2.heap/\(∀ b∈fp,o_ X Ä H' b)/\R J H'
def PI (X:Cx)(tg iter:Ů)(wi:TI):Prop:=
 ∀ (Ä:Á (Addr × Obj)) (s:Ï) (σ:St) (H:Hp) (R:It->Hp->Prop),Inv X Ä σ H s->wi σ H R->
  ß (á X.prog X.w) X.A (Ŝ iter X.env) (λ v s1=>ß (á X.prog X.w) X.A (GA v) (PIE X Ä σ tg R) X.xe s1) X.xe s
theorem E_ (ho:s.heap.get? it=À o)(hc:o.cls=.type n)(hd:o.data=.fields vs)
    (hn:["enumerate","zip","dict_itemiterator","dict_reverseitemiterator","odict_iterator","itertools.zip_longest","itertools.pairwise"].contains n=false) (hQ:Q () s):ß M A (kC tg (.ref it) u) Q E s:=by
  unfold kC
  cases tg<;>first
    | exact Ê hQ
    | (cases u<;>first
        | exact Ê hQ
        | (refine Â (GF ho ?_)
           rw[hc,hd]
           show ß M A (if (["enumerate","zip","dict_itemiterator","dict_reverseitemiterator","odict_iterator","itertools.zip_longest","itertools.pairwise"].contains n && vs[0]? == À (bH _))=true then _ else _) Q E s
           rw[Ó (by intro h;rw[hn,Ac]at h;cases h)]
           exact Ê hQ))
def U1 (K:Ô)(a:Addr):It:=
 ⟨λ i H=>∃ xs x,f9 K H a xs/\xs[i]? = À x,λ i H x H'=>H'=H/\∀ xs,f9 K H a xs->xs[i]? = À x,λ i H=>∃ xs,f9 K H a xs/\xs.length<=i⟩
def V7 (K:Ô)(a:Addr):It:=
 ⟨λ i H=>∃ xs x,iP K H a xs/\xs[i]? = À x,λ i H x H'=>H'=H/\∀ xs,iP K H a xs->xs[i]? = À x,λ i H=>∃ xs,iP K H a xs/\xs.length<=i⟩
def Ri (lo:Int)(n:Nat):It:=⟨λ i _=>i < n,λ i H x H'=>H'=H/\x=.int (lo+i),λ i _=>n<=i⟩
theorem yE {P:ý}{w:ğ}{K:Ô}{tg:Ů}(a it:Addr):Turn P w K tg (U1 K a) [it] it (λ i h=>h.IsListIter it a i) where
 mem:=by simp
 obj:=λ i h st b hb=>by
  have e:b=it:=by simpa using hb
  subst e
  obtain⟨o,e,c,d⟩:=st
  exact⟨o,e,λ v z=>by rw[d]at z;cases z⟩
 keep:=λ i h h' st k=>st.at λ o e=>k it (by simp) o e
 item:=by
  intro X hP hw hK hc i Ä s σ H E I hf st hg
  subst hP hw hK
  obtain⟨xs,x,hq,hx⟩:=hg
  obtain⟨its,rv,p,hz⟩:=I.list hq
  obtain⟨u,hu,ru⟩:=rv.get hx
  obtain⟨f0,f1,f2,f3,f4,f5⟩:=hf it (by simp)
  refine wpAny_pyNext_list_item st p.isList (x:=u) (by simpa using hu) λ h' zR sb=>?_
  have I1:Inv X Ä σ H { s with heap:=h' }:=I.turned (t':=s.toks) (λ b o hb e=>(sb.2 b hb).trans e) f0 f1 f3 f4 f5
  obtain⟨o,e,c,d⟩:=id zR
  exact⟨u,rfl,E_ (s:={ s with heap:=h' }) e c d (by decide) ⟨x,H,I1,ru,⟨rfl,λ ys hy=>by rw[I.vS hy hq];exact hx⟩,zR,λ b hb=>(hf b hb).1⟩⟩
 done:=by
  intro X hP hw hK hc i Ä s σ H E I hf st hg
  subst hP hw hK
  obtain⟨xs,hq,hx⟩:=hg
  obtain⟨its,rv,p,hz⟩:=I.list hq
  obtain⟨f0,f1,f2,f3,f4,f5⟩:=hf it (by simp)
  have hl:=rv.length
  exact wpAny_pyNext_list_end (I.ok.hd hc) st p.isList (by simp;lia) λ h' eb=>⟨rfl,I.turned (t':=s.toks) (λ b o hb e=>eb b o hb e) f0 f1 f3 f4 f5⟩
 self:=λ _ _ _ _ _ st h=>wpAny_pyIter_listiter st h
theorem Ew {P:ý}{w:ğ}{K:Ô}{tg:Ů}(a it:Addr):Turn P w K tg (V7 K a) [it] it (λ i h=>h.IsTupleIter it a i) where
 mem:=by simp
 obj:=λ i h st b hb=>by
  have e:b=it:=by simpa using hb
  subst e
  obtain⟨o,e,c,d⟩:=st
  exact⟨o,e,λ v z=>by rw[d]at z;cases z⟩
 keep:=λ i h h' st k=>st.at λ o e=>k it (by simp) o e
 item:=by
  intro X hP hw hK hc i Ä s σ H E I hf st hg
  subst hP hw hK
  obtain⟨xs,x,hq,hx⟩:=hg
  obtain⟨its,rv,p,hz⟩:=I.tuple hq
  obtain⟨u,hu,ru⟩:=rv.get hx
  obtain⟨f0,f1,f2,f3,f4,f5⟩:=hf it (by simp)
  refine wpAny_pyNext_tuple_item st (show s.heap.IsTuple a its.toArray from p) (x:=u) (by simpa using hu) λ h' zR sb=>?_
  have I1:Inv X Ä σ H { s with heap:=h' }:=I.turned (t':=s.toks) (λ b o hb e=>(sb.2 b hb).trans e) f0 f1 f3 f4 f5
  obtain⟨o,e,c,d⟩:=id zR
  exact⟨u,rfl,E_ (s:={ s with heap:=h' }) e c d (by decide) ⟨x,H,I1,ru,⟨rfl,λ ys hy=>by rw[I.sN hy hq];exact hx⟩,zR,λ b hb=>(hf b hb).1⟩⟩
 done:=by
  intro X hP hw hK hc i Ä s σ H E I hf st hg
  subst hP hw hK
  obtain⟨xs,hq,hx⟩:=hg
  obtain⟨its,rv,p,hz⟩:=I.tuple hq
  obtain⟨f0,f1,f2,f3,f4,f5⟩:=hf it (by simp)
  have hl:=rv.length
  exact wpAny_pyNext_tuple_end (I.ok.hd hc) st (show s.heap.IsTuple a its.toArray from p) (by simp;lia) λ h' eb=>⟨rfl,I.turned (t':=s.toks) (λ b o hb e=>eb b o hb e) f0 f1 f3 f4 f5⟩
 self:=λ _ _ _ _ _ st h=>wpAny_pyIter_tupleiter st h
theorem Eu {P:ý}{w:ğ}{K:Ô}{tg:Ů}(it:Addr)(lo:Int)(n:Nat):Turn P w K tg (Ri lo n) [it] it (λ i h=>IsRangeIter h it (lo+(i:Nat) * 1) ((n:Int) - (i:Nat)) 1) where
 mem:=by simp
 obj:=λ i h st b hb=>by
  have e:b=it:=by simpa using hb
  subst e
  exact⟨_,st,λ v z=>by
   have z':Data.fields _=Data.cell v:=z
   cases z'⟩
 keep:=λ i h h' st k=>k it (by simp) _ st
 item:=by
  intro X hP hw hK hc i Ä s σ H E I hf st hg
  subst hP hw hK
  obtain⟨f0,f1,f2,f3,f4,f5⟩:=hf it (by simp)
  have W:=Walks.range (prog:=X.prog) (w:=X.w) (I.ok.hd hc) it lo 1 n
  refine W.item i s _ _ hg st λ v h' tk hv zR kk=>?_
  obtain⟨t,rfl⟩:=hv
  have I1:Inv X Ä σ H { s with heap:=h',toks:=tk }:=I.turned (λ b o hb e=>kk b o (by simpa using hb) e) f0 f1 f3 f4 f5
  refine⟨_,rfl,E_ (s:={ s with heap:=h',toks:=tk }) (n:="range_iterator") zR rfl rfl (by decide) ⟨.int (lo+i),H,I1,⟨t,?_⟩,⟨rfl,rfl⟩,zR,λ b hb=>(hf b hb).1⟩⟩
  rw[xD]
 done:=by
  intro X hP hw hK hc i Ä s σ H E I hf st hg
  subst hP hw hK
  obtain⟨f0,f1,f2,f3,f4,f5⟩:=hf it (by simp)
  exact wpAny_pyNext_range_end (I.ok.hd hc) st (by have:n<=i:=hg;lia) λ h' eb=>⟨rfl,I.turned (t':=s.toks) (λ b o hb e=>eb b o hb e) f0 f1 f3 f4 f5⟩
 self:=λ _ _ _ _ _ st h=>wpAny_pyIter_rangeiter st h
section
variable {X:Cx}{tg:Ů}
def WY (K:Ô)(tl:TE):TI:=λ σ H R=>tl σ H λ x H1=>∃ a,x=.ref a/\(∃ xs,f9 K H1 a xs)/\R (U1 K a) H1
theorem OI {l:Ů}{tl:TE}(hl:PE X l tl):PI X tg l (WY X.K tl):=by
 intro Ä s σ H R I h
 refine ak (hl Ä s σ H _ I h) λ v s1 zz=>kj zz λ x H1 I1 r1 q1=>?_
 obtain⟨a,e,⟨xs,hq⟩,q⟩:=q1
 subst e
 cases r1
 obtain⟨its,rv,p,hz⟩:=I1.list hq
 refine yU p.isList ?_
 refine⟨s1.heap.objs.size,[s1.heap.objs.size],_,_,H1,rfl,I1.kept (t':=s1.toks) λ b o e=>Å _ e,yE a _,⟨_,Þ _ rfl,rfl,rfl⟩,λ b hb=>?_,q⟩
 have e:b=s1.heap.objs.size:=by simpa using hb
 subst e
 exact I1.Dx (Î _) (I1.ar.fresh (Î _))
theorem B5 {Ä:Á (Addr × Obj)}{σ:St}{H:Hp}{s:Ï}{R:It->Hp->Prop}{E:Ç->Ï->Prop}{lo hi:Int}{t u v:YO}{tk:Nat}(I:Inv X Ä σ H s)(h1:-(2 ^ 62)<=lo) (h2:lo < 2 ^ 62)(h3:-(2 ^ 62)<=hi) (h4:hi < 2 ^ 62)
  (q:R (Ri lo (hi - lo).toNat) H):ß (á X.prog X.w) X.A (GA (.ref s.heap.objs.size)) (PIE X Ä σ tg R) E { s with heap:=s.heap.push { cls:=.type "range",data:=.fields #[.int lo t,.int hi u,.int 1 v] },toks:=tk }:=by
 refine wpAny_pyIter_range (IsRange.new ..) (small_one h1 h2 h3 h4) ?_
 have I1:Inv X Ä σ H { s with heap:=s.heap.push { cls:=.type "range",data:=.fields #[.int lo t,.int hi u,.int 1 v] },toks:=tk }:=I.kept λ b o e=>Å _ e
 refine⟨(s.heap.push { cls:=.type "range",data:=.fields #[.int lo t,.int hi u,.int 1 v] }).objs.size,[(s.heap.push { cls:=.type "range",data:=.fields #[.int lo t,.int hi u,.int 1 v] }).objs.size],_,_,H,rfl,
  I1.kept (t':=tk) λ b o e=>Å _ e,Eu _ lo (hi - lo).toNat,?_,λ b hb=>?_,q⟩
 ·have e1:lo+((0:Nat):Int) * 1=lo:=by simp
  have e2:(((hi - lo).toNat:Nat):Int) - ((0:Nat):Int)=Zp lo hi 1:=by rw[rangeSize_one];split<;>lia
  show IsRangeIter _ _ (lo+((0:Nat):Int) * 1) ((((hi - lo).toNat:Nat):Int) - ((0:Nat):Int)) 1
  rw[e1,e2]
  exact Þ _ rfl
 ·have e:b=(s.heap.push { cls:=.type "range",data:=.fields #[.int lo t,.int hi u,.int 1 v] }).objs.size:=by simpa using hb
  subst e
  exact I1.Dx (Î _) (I1.ar.fresh (Î _))
def WZ (ta:TA):TI:=λ σ H R=>ta σ H λ vs H1=>∃ j:Int,vs=[.int j]/\-(2 ^ 62)<=j/\j < 2 ^ 62/\R (Ri 0 j.toNat) H1
def W0 (ta:TA):TI:=λ σ H R=>ta σ H λ vs H1=>∃ i j:Int,vs=[.int i,.int j]/\(-(2 ^ 62)<=i/\i < 2 ^ 62/\-(2 ^ 62)<=j/\j < 2 ^ 62)/\R (Ri i (j - i).toNat) H1
theorem Hz {a:Ů}{ta:TA}{p pos:ki}(hg:Gl X "range")(hm:X.mg "range"=none)(ha:PA X [a] ta)(hs:à [a] X.env=[(false,Ŝ a X.env)]:=by rfl):PI X tg (.Call (.Name "range" p) [a] [] pos) (WZ ta):=by
 intro Ä s σ H R I h
 refine Call_ (sA I hg hm boot_range (cI (ak (ha pos Ä s σ H _ I h) λ us s1 zz=>kj zz λ vs H1 I1 r1 q1=>?_) hs rfl))
 obtain⟨j,e,q1,q2,q⟩:=q1
 subst e
 cases r1 with
 | cons r rr=>
  cases rr
  obtain⟨t,rfl⟩:=r
  exact call_range_1 (B5 I1 (by lia) (by lia) q1 q2 (by simpa using q))
theorem HA (hg:Gl X "range")(hm:X.mg "range"=none)(ha:PA X [a,b] ta)(hs:à [a,b] X.env=[(false,Ŝ a X.env),(false,Ŝ b X.env)]:=by rfl) (DD:à [b] X.env=[(false,Ŝ b X.env)]:=by rfl) :
  PI X tg (.Call (.Name "range" p) [a,b] [] pos) (W0 ta):=by
 intro Ä s σ H R I h
 refine Call_ (sA I hg hm boot_range (cI (ak (ha pos Ä s σ H _ I h) λ us s1 zz=>kj zz λ vs H1 I1 r1 q1=>?_) (by rw[hs,DD]) (by rw[DD];rfl)))
 obtain⟨i,j,e,⟨q1,q2,q3,q4⟩,q⟩:=q1
 subst e
 cases r1 with
 | cons r rr=>
  cases rr with
  | cons r' rr=>
   cases rr
   obtain⟨t,rfl⟩:=r
   obtain⟨t',rfl⟩:=r'
   exact call_range_2 (B5 I1 q1 q2 q3 q4 q)
def aa6 (wi:TI)(g:TG)(tb:TS):TS:=λ D σ H=>wi σ H λ J H1=>∃ W:Nat->Nat->St->Hp->Prop,(∃ m,W 0 m σ H1)/\∀ i m σ H,W i m σ H->
 (J.stop i H/\D.nx σ H)∨(J.go i H/\∃ N:St->Hp->Prop,(∀ aD H',N aD H'->∃ m',m' < m/\W (i+1) m' aD H')/\∀ x H',J.HV i H x H'->g x σ H' λ mF H2=>tb { D with nx:=N,ct:=N,bk:=D.nx } mF H2)
def sI (fp:Á Addr)(h:Heap):Á (Addr × Obj):=fp.filterMap λ b=>(h.get? b).map λ o=>(b,o)
theorem gy (hb:b∈fp)(e:h.get? b=À o):(b,o)∈sI fp h:=Mc.mpr ⟨b,hb,by rw[e];rfl⟩
theorem Hn (hp:p∈sI fp h):p.1∈fp/\h.get? p.1=À p.2:=by
 obtain⟨b,hb,e⟩:=Mc.mp hp
 cases q:h.get? b with
 | none=>rw[q]at e;cases e
 | some o=>
  rw[q]at e
  have e':(b,o)=p:=ă e
  subst e'
  exact⟨hb,q⟩
theorem Inv.pinned (I:Inv X Ä σ H s)(hf:∀ b∈fp,o_ X Ä H b)(ho:∀ b∈fp,∃ o,s.heap.get? b=À o/\∀ v,o.data≠.cell v):Inv X (Ä++sI fp s.heap) σ H s:=
 I.FG λ p hp=>(ê.mp hp).elim (λ z=>I.pin p (ç _ z)) λ z=>by
  obtain⟨hb,e⟩:=Hn z
  obtain⟨f0,f1,f2,_⟩:=hf p.1 hb
  obtain⟨o,e',d⟩:=ho p.1 hb
  rw[e]at e';cases e'
  exact⟨e,f0,f1,f2,d⟩
theorem Inv.nJ (I:Inv X (Ä++pl) σ H s):Inv X Ä σ H s:=I.FG λ p hp=>I.pin p (ç _ (İ _ hp))
theorem Ua (hp:Me (á X.prog X.w) X.A X.env X.xe) (hc:X.calm=true)(hi:PI X tg iter wi)(hg:PG X tg g)(hb:p5 X body tb)
  (hs:∀ x,ĉ iter X.env x=pure x:=by intro _;rfl):PS X (.For tg iter body [] pos) (aa6 wi g tb):=by
 intro Ä s σ H D I h
 refine wpAny_For (ak (hi Ä s σ H _ I h) λ v s1 h1=>ak h1 λ QB s2 h2=>?_) hs
 obtain⟨it,fp,tn,J,H2,e,I2,T,Ax,f2,W,⟨m0,w0⟩,turn⟩:=h2
 subst e
 have Eh:∀ {H':Hp},(∀ b∈fp,H' b=none)->∀ b∈fp,o_ X Ä H' b:=λ hn b hb=>⟨hn b hb,(f2 b hb).2⟩
 refine codeAny_forLoop_any (λ n s'=>∃ i aD H',Inv X Ä aD H' s'/\tn i s'.heap/\(∀ b∈fp,H' b=none)/\W i n aD H') ?_ m0 ⟨0,σ,H2,I2,Ax,λ b hb=>(f2 b hb).1,w0⟩
 rintro n s3 ⟨i,xB,H3,I3,Lm,Ww,w3⟩
 rcases turn i n xB H3 w3 with⟨stop,qn⟩|⟨go,N,hN,step⟩
 ·refine dJ hp (ak (T.done X rfl rfl rfl hc i Ä s3 xB H3 X.xe I3 (Eh Ww) Lm stop) λ r s4 zz=>?_)
  obtain⟨hr,I4⟩:=zz
  subst hr
  exact rF ⟨xB,H3,I4,qn⟩
 ·refine dJ hp (ak (T.item X rfl rfl rfl hc i Ä s3 xB H3 X.xe I3 (Eh Ww) Lm go) λ r s4 zz=>?_)
  obtain⟨u,hr,h4⟩:=zz
  subst hr
  refine dJ hp (ak h4 λ _ s5 zz=>?_)
  obtain⟨x,H5,I5,r5,y5,Mz,Vx⟩:=zz
  have I5':=I5.pinned (Eh Vx) (T.obj _ _ Mz)
  refine dJ hp (ak (hg _ s5 xB H5 x u _ I5' r5 (step x H5 y5)) λ _ s6 zz=>?_)
  obtain⟨VM,H6,I6,q6⟩:=zz
  refine dJ hp (ak (hb _ s6 VM H6 _ I6 q6) λ f s7 q7=>?_)
  have again:∀ {L3:St}{H7:Hp},Inv X (Ä++sI fp s5.heap) L3 H7 s7->N L3 H7->∃ m,m < n/\∃ i aD H',Inv X Ä aD H' s7/\tn i s7.heap/\(∀ b∈fp,H' b=none)/\W i m aD H':=λ {L3 H7} I7 n7=>by
   obtain⟨m',hm,w7⟩:=hN L3 H7 n7
   refine⟨m',hm,i+1,L3,H7,I7.nJ,T.keep _ _ _ Mz λ b hb o e=>(I7.pin (b,o) (ç _ (ç _ (gy hb e)))).1,λ b hb=>?_,w7⟩
   obtain⟨o,e,d⟩:=T.obj _ _ Mz b hb
   exact(I7.pin (b,o) (ç _ (ç _ (gy hb e)))).2.1
  cases f with
  | next=>obtain⟨L3,H7,I7,n7⟩:=q7;exact again I7 n7
  | cont=>obtain⟨L3,H7,I7,n7⟩:=q7;exact again I7 n7
  | brk=>obtain⟨L3,H7,I7,q7⟩:=q7;exact⟨L3,H7,I7.nJ,q7⟩
  | ret v=>obtain⟨x7,L3,H7,I7,r7,q7⟩:=q7;exact⟨x7,L3,H7,I7.nJ,r7,q7⟩
end
abbrev R2:=V->V->Hp->VK->Prop
def fo (X:Cx)(f:Ç->Ç->YN Ç)(r:R2):Prop:=
 ∀ (Ä:Á (Addr × Obj)) (s:Ï) (σ:St) (H:Hp) (x y:V) (v u:Ç) (Q:VK),Inv X Ä σ H s->RelV x v->RelV y u->r x y H Q->
  ß (á X.prog X.w) X.A (f v u) (EP X Ä σ Q) X.xe s
def Wc (X:Cx)(f:Ç->YN Ç)(r:V->Hp->VK->Prop):Prop:=
 ∀ (Ä:Á (Addr × Obj)) (s:Ï) (σ:St) (H:Hp) (x:V) (v:Ç) (Q:VK),Inv X Ä σ H s->RelV x v->r x H Q->
  ß (á X.prog X.w) X.A (f v) (EP X Ä σ Q) X.xe s
def aQ (X:Cx)(f:Ç)(r:Á V->Hp->VK->Prop):Prop:=
 ∀ (Ä:Á (Addr × Obj)) (s:Ï) (σ:St) (H:Hp) (xs:Á V) (us:Á Ç) (Q:VK),Inv X Ä σ H s->Vals xs us->r xs H Q->
  ß (á X.prog X.w) X.A (call f us) (EP X Ä σ Q) X.xe s
def ZW (X:Cx)(r:V->Hp->(Bool->Hp->Prop)->Prop):Prop:=
 ∀ (Ä:Á (Addr × Obj)) (s:Ï) (σ:St) (H:Hp) (x:V) (v:Ç) (Q:Bool->Hp->Prop),Inv X Ä σ H s->RelV x v->r x H Q->
  ß (á X.prog X.w) X.A (truthy v) (TP X Ä σ Q) X.xe s
def Yu (r:R2)(ta tb:TE):TE:=λ σ H Q=>ta σ H λ x H1=>tb σ H1 λ y H2=>r x y H2 Q
def tUn (r:V->Hp->VK->Prop)(ta:TE):TE:=λ σ H Q=>ta σ H λ x H1=>r x H1 Q
def rI (C:Int->Int->Prop)(g:Int->Int->V):R2:=λ x y H Q=>∃ i j,x=.int i/\y=.int j/\C i j/\Q (g i j) H
def QO (g:Int->Int->V):R2:=λ x y H Q=>∃ i j,x=.int i/\y=.int j/\Q (g i j) H
def rU (g:Int->V):V->Hp->VK->Prop:=λ x H Q=>∃ i,x=.int i/\Q (g i) H
section
variable {X:Cx}{a b c:Ů}{ta tb tc:TE}{pos:ki}
theorem Rv (ha:PE X a ta)(hb:PE X b tb){Ä:Á (Addr × Obj)}{s:Ï}{σ:St}{H:Hp}{R:V->V->Hp->Prop}(I:Inv X Ä σ H s)
  (h:ta σ H λ x H1=>tb σ H1 λ y H2=>R x y H2) {Q:Ç->Ï->Prop}{f:Ç->Ç->YN Ç}
  (hf:∀ v u s2 x y H2,Inv X Ä σ H2 s2->RelV x v->RelV y u->R x y H2->ß (á X.prog X.w) X.A (f v u) Q X.xe s2) :
  ß (á X.prog X.w) X.A (Ŝ a X.env) (λ v s₁=>ß (á X.prog X.w) X.A (Ŝ b X.env) (λ u s₂=>ß (á X.prog X.w) X.A (f v u) Q X.xe s₂) X.xe s₁) X.xe s:=by
 refine ak (ha Ä s σ H _ I h) λ v s1 zz=>kj zz λ x H1 I1 r1 q1=>?_
 refine ak (hb Ä s1 σ H1 _ I1 q1) λ u s2 zz=>kj zz λ y H2 I2 r2 q2=>?_
 exact hf v u s2 x y H2 I2 r1 r2 q2
theorem X5 {op:Operator}{r:R2}(ho:fo X (Ŷ op) r) (ha:PE X a ta)(hb:PE X b tb):PE X (.BinOp a op b pos) (Yu r ta tb):=by
 intro Ä s σ H Q I h
 exact wpAny_BinOp (Rv ha hb I h λ v u s2 x y H2 I2 rx ry q=>ho Ä s2 σ H2 x y v u Q I2 rx ry q)
theorem X6 (ho:Wc X (YX op) r) (ha:PE X a ta):PE X (.UnaryOp op a pos) (tUn r ta):=by
 intro Ä s σ H Q I h
 exact UnaryOp_ (ak (ha Ä s σ H _ I h) λ v s1 zz=>kj zz λ x H1 I1 r1 q1=>ho Ä s1 σ H1 x v Q I1 r1 q1)
theorem Zc {f:Ç->Ç->YN Ç}{C:Int->Int->Prop}{g:Int->Int->Int}
  (rule:∀ (i j:Int) (t u:YO) (s:Ï) (Q:Ç->Ï->Prop) (E:Ç->Ï->Prop),C i j->Q (.int (g i j) s.toks) { s with toks:=s.toks+1 }->ß (á X.prog X.w) X.A (f (.int i t) (.int j u)) Q E s) :
  fo X f (rI C λ i j=>.int (g i j)):=by
 intro Ä s σ H x y v u Q I rx ry h
 obtain⟨i,j,rfl,rfl,hc,q⟩:=h
 obtain⟨t,rfl⟩:=rx
 obtain⟨t',rfl⟩:=ry
 exact rule i j t t' s _ _ hc ⟨.int (g i j),H,I.tok _,⟨_,rfl⟩,q⟩
theorem XS {f:Ç->Ç->YN Ç}{g:Int->Int->Int}
  (rule:∀ (i j:Int) (t u:YO) (s:Ï) (Q:Ç->Ï->Prop) (E:Ç->Ï->Prop),Q (.int (g i j) s.toks) { s with toks:=s.toks+1 }->ß (á X.prog X.w) X.A (f (.int i t) (.int j u)) Q E s) :
  fo X f (QO λ i j=>.int (g i j)):=by
 intro Ä s σ H x y v u Q I rx ry h
 obtain⟨i,j,rfl,rfl,q⟩:=h
 obtain⟨t,rfl⟩:=rx
 obtain⟨t',rfl⟩:=ry
 exact rule i j t t' s _ _ ⟨.int (g i j),H,I.tok _,⟨_,rfl⟩,q⟩
theorem Ot {f:Ç->Ç->YN Ç}{g:Int->Int->Bool}
  (rule:∀ (i j:Int) (t u:YO) (s:Ï) (Q:Ç->Ï->Prop) (E:Ç->Ï->Prop),Q (.bool (g i j)) s->ß (á X.prog X.w) X.A (f (.int i t) (.int j u)) Q E s) :
  fo X f (QO λ i j=>.bl (g i j)):=by
 intro Ä s σ H x y v u Q I rx ry h
 obtain⟨i,j,rfl,rfl,q⟩:=h
 obtain⟨t,rfl⟩:=rx
 obtain⟨t',rfl⟩:=ry
 exact rule i j t t' s _ _ ⟨.bl (g i j),H,I,rfl,q⟩
def IB (i j:Int):Prop:=0<=j/\j<=1000000/\i.natAbs < 2 ^ 64
theorem TC:fo X (Ŷ .Add) (QO λ i j=>.int (i+j)):=XS λ _ _ _ _ _ _ _ q=>add_int q
theorem TQ:fo X (Ŷ .Sub) (QO λ i j=>.int (i - j)):=XS λ _ _ _ _ _ _ _ q=>sub_int q
theorem Ow:fo X (Ŷ .Mod) (rI (λ _ j=>j≠0) λ i j=>.int (i.fmod j)):=Zc λ _ _ _ _ _ _ _ hc q=>mod_int' hc q
theorem TM:fo X (Ŷ .Pow) (rI IB λ i j=>.int (i ^ j.toNat)):=Zc λ _ _ _ _ _ _ _ hc q=>pow_int_small hc.1 hc.2.1 hc.2.2 q
theorem unI {f:Ç->YN Ç}{g:Int->Int}
  (rule:∀ (i:Int) (t:YO) (s:Ï) (Q:Ç->Ï->Prop) (E:Ç->Ï->Prop),Q (.int (g i) s.toks) { s with toks:=s.toks+1 }->ß (á X.prog X.w) X.A (f (.int i t)) Q E s) :
  Wc X f (rU λ i=>.int (g i)):=by
 intro Ä s σ H x v Q I rx h
 obtain⟨i,rfl,q⟩:=h
 obtain⟨t,rfl⟩:=rx
 exact rule i t s _ _ ⟨.int (g i),H,I.tok _,⟨_,rfl⟩,q⟩
theorem UN:Wc X (YX .USub) (rU λ i=>.int (-i)):=unI λ _ _ _ _ _ q=>neg_int q
end
def Uu:V->V->Bool
 | .ĥ,.ĥ=>true|.ĥ,.int _=>true|.int _,.ĥ=>true|.ĥ,.bl _=>true|.bl _,.ĥ=>true|.ĥ,.str _=>true|.str _,.ĥ=>true
 | .int _,.int _=>true|.bl _,.bl _=>true|.str _,.str _=>true|.EW _,.EW _=>true
 | .int _,.str _=>true|.str _,.int _=>true|.bl _,.str _=>true|.str _,.bl _=>true
 | _,_=>false
def rEq:R2:=λ x y H Q=>Uu x y=true/\Q (.bl (decide (x=y))) H
def rNe:R2:=λ x y H Q=>Uu x y=true/\Q (.bl (!decide (x=y))) H
theorem E4:decide (V.int i=V.int j)=(i == j):=by
 rw[aY]
 simp
theorem I_:decide (V.bl i=V.bl j)=(i == j):=by
 rw[aY]
 simp
theorem E5:decide (V.str i=V.str j)=(i == j):=by
 rw[aY]
 simp
theorem E3:decide (V.EW i=V.EW j)=(i.toList == j.toList):=by
 rw[aY]
 cases i
 cases j
 simp
section
variable {X:Cx}{a b c:Ů}{ta tb tc:TE}{pos:ki}
theorem ũ (I:Inv X Ä σ H s)(q:Q (.bl k) H) (e:k=k'):EP X Ä σ Q (.bool k') s:=by
 subst e
 exact⟨.bl k,H,I,rfl,q⟩
theorem XT:fo X (ċ .Eq) rEq:=by
 intro Ä s σ H x y v u Q I rx ry h
 obtain⟨hs,q⟩:=h
 cases x with
 | ĥ=>
  cases rx
  cases y with
  | ĥ=>cases ry;exact abA (ũ I q (by simp))
  | bl j=>cases ry;exact aby (ũ I q (by simp))
  | int j=>obtain⟨t',rfl⟩:=ry;exact abz (ũ I q (by simp))
  | str j=>obtain⟨t',rfl⟩:=ry;exact abB (ũ I q (by simp))
  | _=>exact absurd (show false=true from hs) è
 | bl i=>
  cases rx
  cases y with
  | ĥ=>cases ry;exact abw (ũ I q (by simp))
  | bl j=>cases ry;exact eq_bool (ũ I q I_)
  | str j=>obtain⟨t',rfl⟩:=ry;exact Zz (ũ I q (by simp))
  | _=>exact absurd (show false=true from hs) è
 | int i=>
  obtain⟨t,rfl⟩:=rx
  cases y with
  | ĥ=>cases ry;exact abx (ũ I q (by simp))
  | int j=>obtain⟨t',rfl⟩:=ry;exact eq_int (ũ I q E4)
  | str j=>obtain⟨t',rfl⟩:=ry;exact ZA (ũ I q (by simp))
  | _=>exact absurd (show false=true from hs) è
 | str i=>
  obtain⟨t,rfl⟩:=rx
  cases y with
  | ĥ=>cases ry;exact abC (ũ I q (by simp))
  | bl j=>cases ry;exact ZC (ũ I q (by simp))
  | int j=>obtain⟨t',rfl⟩:=ry;exact ZD (ũ I q (by simp))
  | str j=>obtain⟨t',rfl⟩:=ry;exact eq_str (ũ I q E5)
  | _=>exact absurd (show false=true from hs) è
 | EW i=>
  obtain⟨t,rfl⟩:=rx
  cases y with
  | EW j=>obtain⟨t',rfl⟩:=ry;exact PySem.W.eq_bytes (ũ I q E3)
  | _=>exact absurd (show false=true from hs) è
 | _=>cases y<;>exact absurd (show false=true from hs) è
theorem XZ:fo X (ċ .NotEq) rNe:=by
 intro Ä s σ H x y v u Q I rx ry h
 obtain⟨hs,q⟩:=h
 cases x with
 | ĥ=>
  cases rx
  cases y with
  | ĥ=>cases ry;exact abH (ũ I q (by simp))
  | bl j=>cases ry;exact abF (ũ I q (by simp))
  | int j=>obtain⟨t',rfl⟩:=ry;exact abG (ũ I q (by simp))
  | str j=>obtain⟨t',rfl⟩:=ry;exact abI (ũ I q (by simp))
  | _=>exact absurd (show false=true from hs) è
 | bl i=>
  cases rx
  cases y with
  | ĥ=>cases ry;exact abD (ũ I q (by simp))
  | bl j=>cases ry;exact ne_bool (ũ I q (Ě not I_))
  | str j=>obtain⟨t',rfl⟩:=ry;exact ZE (ũ I q (by simp))
  | _=>exact absurd (show false=true from hs) è
 | int i=>
  obtain⟨t,rfl⟩:=rx
  cases y with
  | ĥ=>cases ry;exact abE (ũ I q (by simp))
  | int j=>obtain⟨t',rfl⟩:=ry;exact ne_int (ũ I q (Ě not E4))
  | str j=>obtain⟨t',rfl⟩:=ry;exact ZF (ũ I q (by simp))
  | _=>exact absurd (show false=true from hs) è
 | str i=>
  obtain⟨t,rfl⟩:=rx
  cases y with
  | ĥ=>cases ry;exact abJ (ũ I q (by simp))
  | bl j=>cases ry;exact ZG (ũ I q (by simp))
  | int j=>obtain⟨t',rfl⟩:=ry;exact ZH (ũ I q (by simp))
  | str j=>obtain⟨t',rfl⟩:=ry;exact ne_str (ũ I q (Ě not E5))
  | _=>exact absurd (show false=true from hs) è
 | EW i=>
  obtain⟨t,rfl⟩:=rx
  cases y with
  | EW j=>obtain⟨t',rfl⟩:=ry;exact PySem.W.ne_bytes (ũ I q (Ě not E3))
  | _=>exact absurd (show false=true from hs) è
 | _=>cases y<;>exact absurd (show false=true from hs) è
theorem XY:fo X (ċ .Lt) (QO λ i j=>.bl (decide (i < j))):=Ot λ _ _ _ _ _ _ _ q=>lt_int q
theorem XX:fo X (ċ .LtE) (QO λ i j=>.bl (decide (i<=j))):=Ot λ _ _ _ _ _ _ _ q=>le_int q
theorem XW:fo X (ċ .Gt) (QO λ i j=>.bl (decide (j < i))):=Ot λ _ _ _ _ _ _ _ q=>gt_int q
theorem XU:fo X (ċ .GtE) (QO λ i j=>.bl (decide (j<=i))):=Ot λ _ _ _ _ _ _ _ q=>ge_int q
theorem Hv:fo X (ċ .Lt) (λ x y H Q=>∃ i j,x=.str i/\y=.str j/\Q (.bl (decide (i.cps.toList < j.cps.toList))) H):=by
 intro Ä s σ H x y v u Q I rx ry h
 obtain⟨i,j,rfl,rfl,q⟩:=h
 obtain⟨t,rfl⟩:=rx
 obtain⟨t',rfl⟩:=ry
 exact lt_str (ũ I q rfl)
theorem TJ:fo X (ċ .Is) (λ x y H Q=>y=.ĥ/\Q (.bl (decide (x=.ĥ))) H):=by
 intro Ä s σ H x y v u Q I rx ry h
 obtain⟨rfl,q⟩:=h
 cases ry
 refine is_none_gen (ũ I q ?_)
 cases x<;>first
  | (cases rx;rfl)
  | (obtain⟨t,rfl⟩:=rx;rfl)
theorem OB {op:CmpOp}{r:R2}(ho:fo X (ċ op) r) (ha:PE X a ta)(hb:PE X b tb)(hm:wN op b=false):PE X (.Compare a [op] [b] pos) (Yu r ta tb):=by
 intro Ä s σ H Q I h
 exact wpAny_Compare1 (Rv ha hb I h λ v u s2 x y H2 I2 rx ry q=>ho Ä s2 σ H2 x y v u Q I2 rx ry q) hm
def QW (t:TE):TT:=λ σ H Q=>t σ H λ x H'=>∃ k,x=.bl k/\Q k H'
theorem OY (ho:fo X (ċ op) r) (ha:PE X a ta)(hb:PE X b tb)(hm:wN op b=false):PT X (.Compare a [op] [b] pos) (QW (Yu r ta tb)):=by
 intro Ä s σ H Q I h
 refine wpAny_isTrue_Compare1 (ak (ha Ä s σ H _ I h) λ v s1 zz=>kj zz λ x H1 I1 r1 q1=>ak (hb Ä s1 σ H1 _ I1 q1) λ u s2 zz=>kj zz λ y H2 I2 r2 q2=>
  ak (ho Ä s2 σ H2 x y v u _ I2 r1 r2 q2) λ c s3 ⟨z,H3,I3,r3,k,e,q3⟩=>?_) hm
 subst e
 cases r3
 exact bo ⟨H3,I3,q3⟩
def Em (r r':R2)(ta tb tc:TE):TE:=λ σ H Q=>ta σ H λ x H1=>tb σ H1 λ y H2=>r x y H2 λ z H3=>∃ k,z=.bl k/\
 (if k=true then tc σ H3 λ w' H4=>r' y w' H4 Q else Q (.bl false) H3)
theorem Ky (ho:fo X (ċ op) r) (Ĝ:fo X (ċ Hr) r') (ha:PE X a ta)(hb:PE X b tb)(hc:PE X c tc)
  (hm:Mk [op,Hr] [b,c]=false:=by with_unfolding_all rfl):PE X (.Compare a [op,Hr] [b,c] pos) (Em r r' ta tb tc):=by
 intro Ä s σ H Q I h
 refine Compare_chain (ak (ha Ä s σ H _ I h) λ v s1 zz=>kj zz λ x H1 I1 r1 q1=>chain_link (ak (hb Ä s1 σ H1 _ I1 q1) λ u s2 zz=>kj zz λ y H2 I2 r2 q2=>
  ak (ho Ä s2 σ H2 x y v u _ I2 r1 r2 q2) λ d s3 ⟨z,H3,I3,r3,k,e,q3⟩=>?_)) hm
 subst e
 cases r3
 refine bo ?_
 cases k with
 | false=>exact ite_ff ⟨.bl false,H3,I3,rfl,q3⟩
 | true=>exact ite_tt (chain_last (ak (hc Ä s3 σ H3 _ I3 q3) λ w' s4 ⟨z',H4,I4,r4,q4⟩=>Ĝ Ä s4 σ H4 y z' u w' Q I4 r2 r4 q4))
theorem KY (ho:fo X (ċ op) r) (Ĝ:fo X (ċ Hr) r') (ha:PE X a ta)(hb:PE X b tb)(hc:PE X c tc)
  (hm:Mk [op,Hr] [b,c]=false:=by with_unfolding_all rfl):PT X (.Compare a [op,Hr] [b,c] pos) (QW (Em r r' ta tb tc)):=by
 intro Ä s σ H Q I h
 refine isTrue_chain (ak (ha Ä s σ H _ I h) λ v s1 zz=>kj zz λ x H1 I1 r1 q1=>test_link (ak (hb Ä s1 σ H1 _ I1 q1) λ u s2 zz=>kj zz λ y H2 I2 r2 q2=>
  ak (ho Ä s2 σ H2 x y v u _ I2 r1 r2 q2) λ d s3 ⟨z,H3,I3,r3,k,e,q3⟩=>?_)) hm
 subst e
 cases r3
 refine bo ?_
 cases k with
 | false=>
  obtain⟨k',e',q'⟩:=q3
  cases e'
  exact ite_ff ⟨H3,I3,q'⟩
 | true=>
  refine ite_tt (test_last (ak (hc Ä s3 σ H3 _ I3 q3) λ w' s4 ⟨z',H4,I4,r4,q4⟩=>ak (Ĝ Ä s4 σ H4 y z' u w' _ I4 r2 r4 q4) λ d' s5 zz=>?_))
  obtain⟨z2,H5,I5,r5,k2,e2,q5⟩:=zz
  subst e2
  cases r5
  exact bo ⟨H5,I5,q5⟩
def Rn (K:Ô)(x:V)(H:Hp)(k:Bool):Prop:=
 match x with
 | .ĥ=>k=false
 | .bl b=>k=b
 | .int i=>k=(i != 0)
 | .str y=>y.length<=sizeLine/\k=((y.length:Int) != 0)
 | .EW y=>y.size<=sizeLine/\k=((y.size:Int) != 0)
 | .ref p=>(∃ xs,f9 K H p xs/\k=!xs.isEmpty)∨(∃ xs,iP K H p xs/\k=!xs.isEmpty)∨∃ kvs,H p=À (.dK kvs)/\k=!kvs.isEmpty
 | _=>False
theorem DG (r:KV kvs vs):(!vs.isEmpty)=!kvs.isEmpty:=by
 cases r<;>rfl
theorem vG (r:Vals xs its):(!its.toArray.isEmpty)=!xs.isEmpty:=by
 cases r<;>simp
theorem nr:(sizeLine:Nat) < 2 ^ 63:=by rw[bP];decide
theorem UL:ZW X (λ x H Q=>∃ k,Rn X.K x H k/\Q k H):=by
 intro Ä s σ H x v Q I rx h
 obtain⟨k,e,q⟩:=h
 have hl:=nr
 have hs:sizeLine=16777216:=bP
 cases x with
 | ĥ=>
  cases rx
  have e':k=false:=e
  subst e'
  exact truthy_none ⟨H,I,q⟩
 | bl b=>
  cases rx
  have e':k=b:=e
  subst e'
  exact bo ⟨H,I,q⟩
 | int i=>
  obtain⟨t,rfl⟩:=rx
  have e':k=(i != 0):=e
  subst e'
  exact PySem.P.truthy_int ⟨H,I,q⟩
 | str y=>
  obtain⟨t,rfl⟩:=rx
  obtain⟨hy,e'⟩:y.length<=sizeLine/\k=((y.length:Int) != 0):=e
  subst e'
  exact PySem.P.truthy_str (by lia) ⟨H,I.tok _,q⟩
 | EW y=>
  obtain⟨t,rfl⟩:=rx
  obtain⟨hy,e'⟩:y.size<=sizeLine/\k=((y.size:Int) != 0):=e
  subst e'
  exact PySem.W.truthy_bytes (by lia) ⟨H,I.tok _,q⟩
 | ref p=>
  cases rx
  have e':(∃ xs,f9 X.K H p xs/\k=!xs.isEmpty)∨(∃ xs,iP X.K H p xs/\k=!xs.isEmpty)∨∃ kvs,H p=À (.dK kvs)/\k=!kvs.isEmpty:=e
  rcases e' with⟨xs,hx,e'⟩|⟨xs,hx,e'⟩|⟨kvs,hx,e'⟩
  ·subst e'
   obtain⟨its,r,pl,hz⟩:=I.list hx
   have hlen:=r.length
   exact wpAny_truthy_list pl.isList (by simp only[Ý];lia) ⟨H,I.tok _,by rw[vG r];exact q⟩
  ·subst e'
   obtain⟨its,r,pl,hz⟩:=I.tuple hx
   have hlen:=r.length
   exact truthy_tuple pl (by simp only[Ý];lia) ⟨H,I.tok _,by rw[vG r];exact q⟩
  ·subst e'
   obtain⟨hz,hS,vs,r,m⟩:kvs.length<=sizeLine/\(p == br)=false/\∃ vs,KV kvs vs/\s.heap.DictOf (Ż X.prog X.w) p vs:=I.ar p _ hx
   have hlen:kvs.length=vs.length:=qc r
   exact wpAny_truthy_dict hS m (by lia) ⟨H,I.tok _,by rw[DG r];exact q⟩
 | _=>exact(show False from e).elim
theorem KZ (ha:PE X a ta)(he:∀ whole,Gz a X.env whole=(do let v <-whole;uw a.pos;qg [v] (truthy v))) :
  PT X a (λ σ H Q=>ta σ H λ x H'=>∃ k,Rn X.K x H' k/\Q k H'):=by
 intro Ä s σ H Q I h
 exact isTrue_plain (ak (ha Ä s σ H _ I h) λ v s1 zz=>kj zz λ x H1 I1 r1 q1=>UL Ä s1 σ H1 x v Q I1 r1 q1) (he _)
theorem DY:fo X (Ŷ .Add) (λ x y H Q=>∃ i j,x=.str i/\y=.str j/\i.length+j.length<=sizeLine/\Q (.str (i++j)) H):=by
 intro Ä s σ H x y v u Q I rx ry h
 obtain⟨i,j,rfl,rfl,hz,q⟩:=h
 obtain⟨t,rfl⟩:=rx
 obtain⟨t',rfl⟩:=ry
 exact add_str (λ t' tk=>⟨.str (i++j),H,I.tok _,⟨_,rfl⟩,q⟩) hz
theorem vals1 (r:Vals [x] us):∃ u,us=[u]/\RelV x u:=by
 cases r with
 | cons r1 r2=>cases r2;exact⟨_,rfl,r1⟩
theorem vals2 (r:Vals [x,y] us):∃ u w',us=[u,w']/\RelV x u/\RelV y w':=by
 cases r with
 | cons r1 r2=>
  cases r2 with
  | cons r3 r4=>cases r4;exact⟨_,_,rfl,r1,r3⟩
theorem IS:aQ X (.builtin "abs") (λ xs H Q=>∃ i,xs=[.int i]/\Q (.int (if i < 0 then -i else i)) H):=by
 intro Ä s σ H xs us Q I r h
 obtain⟨i,rfl,q⟩:=h
 obtain⟨u,rfl,t,rfl⟩:=vals1 r
 exact call_abs_int λ u tk=>⟨.int (if i < 0 then -i else i),H,I.tok _,⟨_,rfl⟩,q⟩
theorem GI (hc:X.calm=true):aQ X (.builtin "max") (λ xs H Q=>∃ i j,xs=[.int i,.int j]/\Q (.int (if j > i then j else i)) H):=by
 intro Ä s σ H xs us Q I r h
 obtain⟨i,j,rfl,q⟩:=h
 obtain⟨u,w',rfl,⟨t,rfl⟩,⟨t',rfl⟩⟩:=vals2 r
 refine max_two_ints (I.ok.hd hc) λ h' tk k=>⟨_,H,I.kept k,?_,q⟩
 by_cases hj:j > i
 ·rw[É hj,É hj];exact⟨_,rfl⟩
 ·rw[Ó hj,Ó hj];exact⟨_,rfl⟩
theorem GJ (hc:X.calm=true):aQ X (.builtin "min") (λ xs H Q=>∃ i j,xs=[.int i,.int j]/\Q (.int (if j < i then j else i)) H):=by
 intro Ä s σ H xs us Q I r h
 obtain⟨i,j,rfl,q⟩:=h
 obtain⟨u,w',rfl,⟨t,rfl⟩,⟨t',rfl⟩⟩:=vals2 r
 refine min_two_ints (I.ok.hd hc) λ h' tk k=>⟨_,H,I.kept k,?_,q⟩
 by_cases hj:j < i
 ·rw[É hj,É hj];exact⟨_,rfl⟩
 ·rw[Ó hj,Ó hj];exact⟨_,rfl⟩
theorem xT:aQ X (.type "int") (λ xs H Q=>(∃ i,xs=[.int i]/\Q (.int i) H)∨∃ k,xs=[.bl k]/\Q (.int (if k then 1 else 0)) H):=by
 intro Ä s σ H xs us Q I r h
 rcases h with⟨i,rfl,q⟩|⟨k,rfl,q⟩
 ·obtain⟨u,rfl,t,rfl⟩:=vals1 r
  exact call_int_int ⟨.int i,H,I,⟨_,rfl⟩,q⟩
 ·obtain⟨u,rfl,r1⟩:=vals1 r
  cases r1
  exact call_int_bool ⟨.int (if k then 1 else 0),H,I.tok _,⟨_,rfl⟩,q⟩
end
structure Rm (h:Heap)(x dx C:Addr)(mA:Str->Í Ç):Prop where
 obj:h.get? x=À (uU C dx)
 ns:h.Ns1 dx mA
 ne:dx≠x
theorem Hi {h:Heap}{dx:Addr}{mA:Str->Í Ç}(n:h.Ns1 dx mA):∃ od,h.get? dx=À od/\∀ name,w4 name od=À (mA name):=by
 obtain⟨o,es,ep,ho,hd,hk,_,hm⟩:=n
 refine⟨o,ho,λ name=>?_⟩
 have e:=hm name
 unfold nsFind findBy at e
 rw[<-Array.find?_toList]at e
 unfold w4
 rw[hd]
 dsimp only
 split
 ·rename_i y q
  rw[q]at e
  exact Ě À e
 ·rename_i q
  rw[q]at e
  have a:es.toList.any (·.refKey)=false:=by
   rw[List.any_eq_false]
   intro y hy
   obtain⟨z,t,Bp⟩:=hk y (oZ.mp hy)
   simp[DictEntry.refKey,Bp]
  have a':¬ es.toList.any (·.refKey)=true:=by rw[a];exact è
  rw[Ó a']
  exact Ě À e
theorem Rm.look (I:Rm h x dx C mA):∃ od,PySem.W.InstAt h x (uU C dx) C (À od)/\∀ name,w4 name od=À (mA name):=
 let ⟨od,ho,hl⟩:=Hi I.ns
 ⟨od,⟨I.obj,rfl,rfl,ho⟩,hl⟩
section
variable {prog:ý}{w:ğ}{A:ō}{E:Ç->Ï->Prop}{s:Ï}{K:Ô}{x dx C f:Addr}{mA:Str->Í Ç}{name:Str}{v:Ç}
end
theorem rX.some_of (r:rX (À v) o):∃ u,o=À u/\RelV v u:=by
 cases o with
 | none=>exact(show False from r).elim
 | some u=>exact⟨u,rfl,r⟩
section
variable {P:ý}{w:ğ}{H H':Hp}{h h':Heap}{a C dx:Addr}{fs fs':Á (Str × V)}
theorem NG (ar:pf P w H h)(e:H a=À (.ins C dx fs)):∃ mA,Rm h a dx C mA/\(∀ f,rX (fs.lookup f) (mA f))/\VU mA (fs.map (·.1))/\fs.length<=1000/\H dx=À (.own a):=by
 obtain⟨d,z,ne,ob,mA,n,r,q⟩:=(show bf P w H h a (.ins C dx fs) from ar a _ e)
 exact⟨mA,⟨ob,n,ne⟩,r,q,z,d⟩
end
structure ZP (K:Ô)(C:Addr):Prop where
 pg:Iu K C Str.empty=true
 hd:PySem.W.hasDictIn K C=true
 po:PySem.W.plainOver K C=true
 sa:MP K (.ref C) "__setattr__"=À (À (.builtin "object.__setattr__"))
theorem ZP.get {K:Ô}{C:Addr}(c:ZP K C)(f:Str):Iu K C f=true:=c.pg
section
variable {X:Cx}{Ä:Á (Addr × Obj)}{σ:St}{H:Hp}{s:Ï}{a C dx:Addr}{fs:Á (Str × V)}{f:Str}{v:V}{A:ō}{E:Ç->Ï->Prop}
end
section
variable {X:Cx}{o e value:Ů}{f:Str}{pos pos' Ct:ki}{ta tv:TE}
end
section
variable {X:Cx}{Ä:Á (Addr × Obj)}{σ:St}{H:Hp}{s:Ï}{A:ō}{E:Ç->Ï->Prop}{Q:Ç->Ï->Prop}{c:Ç}{b:Bool}
inductive ua (K:Ô) (H:Hp):V->Ç->Prop where
 | ĥ:ua K H .ĥ (.type "NoneType")
 | bl (x:Bool):ua K H (.bl x) (.type "bool")
 | int (i:Int):ua K H (.int i) (.type "int")
 | str (x:Str):ua K H (.str x) (.type "str")
 | R4 (x:UInt64):ua K H (.R4 x) (.type "float")
 | lst {a:Addr}{xs:Á V}(e:H a=À (.lst xs)):ua K H (.ref a) (.type "list")
 | yc {a:Addr}{o:Obj}{xs:Á V}(e:H a=À (.yc o (.lst xs))):ua K H (.ref a) (.type "list")
 | tup {a:Addr}{xs:Á V}(e:H a=À (.tup xs)):ua K H (.ref a) (.type "tuple")
 | dK {a:Addr}{kvs:Á (Key × V)}(e:H a=À (.dK kvs)):ua K H (.ref a) (.type "dict")
 | dT {a:Addr}{kvs:Á (Á Key × V)}(e:H a=À (.dT kvs)):ua K H (.ref a) (.type "dict")
 | ins {a C dx:Addr}{fs:Á (Str × V)}(e:H a=À (.ins C dx fs)) (cl:ZP K C) (ha:MP K (.ref C) "__class__"=À (À (.builtin "object.__class__")))
   (hn:PySem.W.specialIn K (.builtin "object.__class__") "__get__"=À (À (.builtin "getset_descriptor.__get__"))) (htk:PySem.W.takesIn K (.builtin "object.__class__")=À true)
   (hm:PySem.W.mroIn K C (.type "object")=À true):ua K H (.ref a) (.ref C)
theorem n_ (I:Inv X Ä σ H s)(rx:RelV x u)(ty:ua X.K H x t)(e:wZ X.K t c=À b)(h:∀ tk,Q (.bool b) { s with toks:=tk }) :
  ß (á X.prog X.w) A (call (.builtin "isinstance") [u,c]) Q E s:=by
 cases ty with
 | ĥ=>cases (show u=ē from rx);exact ĸ PySem.W.kitx_none I.yl cY e (λ z=>nomatch z) h
 | bl y=>cases (show u=yQ y from rx);exact ĸ PySem.W.kitx_bool I.yl cY e (λ z=>nomatch z) h
 | int i=>obtain⟨t,q⟩:=(show ∃ t,u=CU i t from rx);cases q;exact ĸ PySem.W.kitx_int I.yl cY e (λ z=>nomatch z) h
 | str y=>obtain⟨t,q⟩:=(show ∃ t,u=CV y t from rx);cases q;exact ĸ PySem.W.kitx_str I.yl cY e (λ z=>nomatch z) h
 | R4 y=>obtain⟨t,q⟩:=(show ∃ t,u=YQ y t from rx);cases q;exact ĸ PySem.W.kitx_float I.yl cY e (λ z=>nomatch z) h
 | @lst a xs ea=>
  cases (show u=ú a from rx)
  obtain⟨_,_,n,_,h1⟩:=(show bf X.prog X.w H s.heap a (.lst xs) from I.ar a _ ea)
  exact ĸ rR I.yl ⟨_,h1,rfl⟩ e (λ z=>nomatch z) h
 | @yc a ob xs ea=>
  cases (show u=ú a from rx)
  obtain⟨_,_,_,n,_,h1⟩:=(show bf X.prog X.w H s.heap a (.yc ob (.lst xs)) from I.ar a _ ea)
  exact ĸ rR I.yl ⟨_,h1,rfl⟩ e (λ z=>nomatch z) h
 | @tup a xs ea=>
  cases (show u=ú a from rx)
  obtain⟨_,_,_,p⟩:=(show bf X.prog X.w H s.heap a (.tup xs) from I.ar a _ ea)
  obtain⟨o,h1,h2,_⟩:=p
  exact ĸ Gs I.yl ⟨o,h1,h2⟩ e (λ z=>nomatch z) h
 | @dK a kvs ea=>
  cases (show u=ú a from rx)
  obtain⟨_,_,vs,_,p⟩:=(show bf X.prog X.w H s.heap a (.dK kvs) from I.ar a _ ea)
  obtain⟨o,es,ep,h1,h2,_⟩:=p
  exact ĸ rP I.yl ⟨o,h1,h2.1⟩ e (λ z=>nomatch z) h
 | @dT a kvs ea=>
  cases (show u=ú a from rx)
  obtain⟨_,_,xs,_,o,es,ep,h1,h2,_⟩:=(show bf X.prog X.w H s.heap a (.dT kvs) from I.ar a _ ea)
  exact ĸ rP I.yl ⟨o,h1,h2.1⟩ e (λ z=>nomatch z) h
 | @ins a C dx fs ea cl ha hn htk hm=>
  cases (show u=ú a from rx)
  obtain⟨mA,O,_⟩:=NG I.ar ea
  obtain⟨od,J,_⟩:=O.look
  exact ĸ (PySem.W.kitx_own (cl.get _) cl.hd ha hn htk hm) I.yl J e (λ z=>nomatch z) h
end
structure iJ (k:Nat)(A:ō):Prop where
 hd:A.handled=none
 gd:A.guards=À []
 dp:A.depth+3 * k+5 < recursionLimit
 un:A.units+16 * k+200 < cLine
theorem iJ.mono (r:iJ k A)(h:j<=k):iJ j A:=⟨r.hd,r.gd,by have:=r.dp;lia,by have:=r.un;lia⟩
theorem iJ.deeper (r:iJ (k+1) A) (env:ED):iJ k (A.deeper env):=
 ⟨r.hd,r.gd,by have:=r.dp;show A.depth+1+3 * k+5 < _;lia,by have:=r.un;show A.units+3+16 * k+200 < _;lia⟩
theorem iJ.depth (r:iJ k A):A.depth < recursionLimit:=by have:=r.dp;lia
theorem iJ.units (r:iJ k A):A.units+64 < cLine:=by have:=r.un;lia
def Pw:TA:=λ _ H Q=>Q [] H
def Cm (ta:TE)(tr:TA):TA:=λ σ H Q=>ta σ H λ x H1=>tr σ H1 λ xs H2=>Q (x :: xs) H2
section
variable {X:Cx}{e:Ů}{es:Á Ů}{te:TE}{t:TA}{pos:ki}
theorem lO:PA X [] Pw:=λ _ _ _ _ H Q I h=>L7 ⟨[],H,I,.nil,h⟩
theorem fM (ha:PE X e te)(hr:PA X es t)(hs:à (e :: es) X.env=(false,Ŝ e X.env) :: à es X.env:=by rfl):PA X (e :: es) (Cm te t):=by
 intro pos Ä s σ H Q I h
 rw[hs]
 show ß _ _ (spliced ((false,Ŝ e X.env) :: aO pos (à es X.env))) _ _ s
 refine rN (ak (ha Ä s σ H _ I h) λ u s1 zz=>kj zz λ x H1 I1 r1 q1=>?_)
 exact ak (hr pos Ä s1 σ H1 _ I1 q1) λ us s2 zz=>kj zz λ xs H2 I2 r2 q2=>⟨x :: xs,H2,I2,.cons r1 r2,q2⟩
def abd (t:TA):TE:=λ σ H Q=>t σ H λ xs H1=>xs.length<=sizeLine/\∀ p,H1 p=none->Q (.ref p) (upd H1 p (.tup xs))
def aa8 (t:TA):TE:=λ σ H Q=>t σ H λ xs H1=>xs.length<=sizeLine/\∀ p,H1 p=none->Q (.ref p) (upd H1 p (.lst xs))
theorem T4 (h:PA X es t):PE X (.Tuple es x1 pos) (abd t):=by
 intro Ä s σ H Q I hq
 refine wpAny_Tuple_spliced (ak (h pos Ä s σ H _ I hq) λ us s1 ⟨xs,H1,I1,r,z,q⟩=>⟨by rw[<-r.length];exact z,?_⟩)
 have hf:H1 s1.heap.objs.size=none:=I1.ar.fresh (Î _)
 refine⟨.ref s1.heap.objs.size,upd H1 s1.heap.objs.size (.tup xs),I1.laid (t':=s1.toks) (λ b u e=>Å _ e) (Î _) ?_,rfl,q _ hf⟩
 exact⟨z,us,r,⟨_,Þ _ rfl,rfl,_,rfl⟩⟩
theorem TV (h:PA X es t):PE X (.List es pos) (aa8 t):=by
 intro Ä s σ H Q I hq
 refine wpAny_List_spliced (ak (h pos Ä s σ H _ I hq) λ us s1 ⟨xs,H1,I1,r,z,q⟩=>⟨by rw[<-r.length];exact z,?_⟩)
 have hf:H1 s1.heap.objs.size=none:=I1.ar.fresh (Î _)
 refine⟨.ref s1.heap.objs.size,upd H1 s1.heap.objs.size (.lst xs),I1.laid (t':=s1.toks) (λ b u e=>Å _ e) (Î _) ?_,rfl,q _ hf⟩
 exact⟨z,us,0,r,Þ _ rfl⟩
end
abbrev Sp:=Á V->Hp->VK->XK->Prop
abbrev IC:=Á ED->Hp->Ï->XK->Ç->Ï->Prop
structure MW (P:ý)(w:ğ)(K:Ô)(mg:Str->Í Ç)(base:Heap)(A:ō)(outer:Á ED)(s:Ï)(H:Hp):Prop where
 frames:A.frames=À outer
 mod:Mod K mg base
 bs:∀ b o,base.get? b=À o->s.heap.get? b=À o/\H b=none
 M8:base.objs.size<=s.heap.objs.size
 ud:s.heap.FunFrames base outer
 R':∀ b∈Ic outer,H b=none
 ar:pf P w H s.heap
 bare:p9 s.gens
def CE (outer:Á ED)(P:ý)(w:ğ)(H:Hp)(s:Ï)(Q:VK)(u:Ç)(s':Ï):Prop:=
 ∃ v H',s'.os=s.os/\p9 s'.gens/\Un (Ic outer) [] H H' s.heap s'.heap/\pf P w H' s'.heap/\RelV v u/\Q v H'
def CR (CX:IC)(outer:Á ED)(P:ý)(w:ğ)(H:Hp)(s:Ï)(Q:VK)(E:XK)(r:VX)(s':Ï):Prop:=
 match r with
 | .ok (.ret u)=>CE outer P w H s Q u s'
 | .ok _=>False
 | .error e=>CX outer H s E e s'
structure oA (P:ý)(w:ğ)(K:Ô)(mg:Str->Í Ç)(base:Heap)(CX:IC)(k:Nat)(f:Addr)(fd:dI)(ps:Á Str)(sp:Sp):Prop where
 len:∀ vs H Q E,sp vs H Q E->vs.length=ps.length
 run:∀ (A:ō) (outer:Á ED) (s:Ï) (H:Hp) (args:Args) (us:Á Ç) (vs:Á V) (Q:VK) (E:XK),iJ k A->MW P w K mg base A outer s H->ui s fd args (ps.zip us)->Vals vs us->sp vs H Q E->
  gK (á P w) A (.call (.ref f) args) (CR CX outer P w H s Q E) s
section
variable {X:Cx}{Ä:Á (Addr × Obj)}{σ:St}{H:Hp}{s s':Ï}
theorem Inv.aae (I:Inv X Ä σ H s):MW X.prog X.w X.K X.mg X.base X.A X.stack s H:=
 ⟨I.ok.frames,I.ok.mod,I.bs,ā I.ok.M8 I.sz,I.stack,I.F7,I.ar,I.bare⟩
theorem Inv.after (I:Inv X Ä σ H s)(h:CE X.stack X.prog X.w H s Q u s'):EP X Ä σ Q u s':=by
 obtain⟨v,H',os,bare,un,ar,r,q⟩:=h
 obtain⟨hh,g,d,t,os'⟩:=s'
 obtain rfl:os'=s.os:=os
 exact⟨v,H',I.call (h':=hh) (g':=g) (d':=d) (t':=t) (ch:=[]) un ar bare (λ b z=>absurd z (by simp)),r,q⟩
end
def QV (sp:Sp)(Ql:Á V)(E:XK)(t:TA):TE:=λ σ H Q=>t σ H λ vs H1=>sp (vs++Ql) H1 Q E
def Binds (K:Ô)(fd:dI)(ps:Á Str)(ds:Á Ç):Prop:=
 ∀ (s:Ï) (us:Á Ç),K.In s.heap->(us++ds).length=ps.length->ui s fd ⟨us,[]⟩ (ps.zip (us++ds))
theorem Binds.all {K:Ô}{fd:dI}{ps:Á Str}(h:∀ us:Á Ç,us.length=ps.length->Ra fd ⟨us,[]⟩=pure (ps.zip us)):Binds K fd ps []:=λ s us _ hl=>by
 rw[fw]at hl ⊢
 exact .of_eq (h us hl)
def Passes (CX:IC)(X:Cx)(E:XK):Prop:=∀ (Ä:Á (Addr × Obj)) (σ:St) (H:Hp) (s:Ï) (e:Ç) (s':Ï),Inv X Ä σ H s->CX X.stack H s E e s'->X.xe e s'
section
variable {X:Cx}{CX:IC}{k:Nat}{f C:Addr}{fd:dI}{ps:Á Str}{sp:Sp}{Ql:Á V}{ds:Á Ç}{E:XK}{x m:Str}{p pos lg:ki}{e o:Ů}{es:Á Ů}{ta:TE}{t:TA}
theorem Uq (F:oA X.prog X.w X.K X.mg X.base CX k f fd ps sp)(hr:iJ k X.A)(hb:Binds X.K fd ps ds)(hd:Vals Ql ds)(hx:Passes CX X E)
  (I:Inv X Ä σ H s) (r:Vals vs us) (h:sp (vs++Ql) H Q E):ß (á X.prog X.w) X.A (call (.ref f) us) (EP X Ä σ Q) X.xe s:=by
 have r2:Vals (vs++Ql) (us++ds):=r.append hd
 have hl:(us++ds).length=ps.length:=by rw[<-r2.length];exact F.len _ _ _ _ h
 refine wpAny_call (qe (F.run X.A X.stack s H ⟨us,[]⟩ (us++ds) (vs++Ql) Q E hr I.aae (hb s us I.yl hl) r2 h) λ r s' hq=>?_)
 cases r with
 | error e=>exact hx Ä σ H s e s' I hq
 | ok fl=>
  cases fl with
  | ret u=>exact I.after hq
  | next=>exact bw hq
  | brk=>exact bw hq
  | cont=>exact bw hq
theorem OA (F:oA X.prog X.w X.K X.mg X.base CX k f fd ps sp)(hr:iJ k X.A)(hg:Gl X x)(hm:X.mg x=À (.ref f)) (hk:fV X.K (.ref f)=true) (hb:Binds X.K fd ps ds)(hd:Vals Ql ds)(hx:Passes CX X E)
  (ha:PA X (e :: es) t) (xi:(x == ("__debug__":Str))=false:=by decide) (he:à (e :: es) X.env=(false,Ŝ e X.env) :: à es X.env:=by rfl) (nc:(aO pos (à es X.env)).any (·.1)=false:=by rfl) :
  PE X (.Call (.Name x p) (e :: es) [] pos) (QV sp Ql E t):=by
 intro Ä s σ H Q I h
 refine mw (Fu I hg hm ?_ xi)
 refine PySem.W.callWith_K (h₀:=X.base) I.ok.mod.kin hk (ak (ha pos Ä s σ H _ I h) λ us s1 zz=>kj zz λ vs H1 I1 r q=>⟨I1.yl,?_⟩) he nc
 exact Uq F hr hb hd hx I1 r q
end
section
variable {X:Cx}{CX:IC}{k:Nat}{f C:Addr}{fd:dI}{ps ks:Á Str}{sp:Sp}{E:XK}{x m:Str}{p pos lg ace:ki}{e o:Ů}{es:Á Ů}{kws:Á k7}{te ta:TE}{t tk:TA}{nm:Í Str}
variable {g:Á Ç->Á Ç->Á Ç}{gV:Á V->Á V->Á V}
end
structure la (N P:Á Str)(sc:Scope):Prop where
 kind:sc.kind=.function
 co:sc.isCoroutine=false
 gen:sc.isGenerator=false
 nd:N.Nodup
 pre:N.take P.length=P
 par:∀ x∈P,sc.names.lookup x=À .local∨sc.names.lookup x=À .cell
 Tv:∀ y∈sc.names,y.2≠.free
theorem xS {kindOf:Str->Í iE}{x:Str}:∀ {binds:Á (Str × Ç)}{m:Str->Í Ç},(∀ v,(x,v)∉binds)->Mh kindOf binds m x=m x
 | [],_,_=>rfl
 | (n,v) :: r,m,h=>by
  unfold Mh
  rw[xS λ w hw=>h w (Ċ _ hw)]
  split
  ·have:x≠n:=by rintro rfl;exact h v Ġ
   simp[this]
  ·rfl
theorem xQ {kindOf:Str->Í iE}{x:Str}:∀ {binds:Á (Str × Ç)}{m:Str->Í Ç},(∀ v,(x,v)∉binds)->Mg kindOf binds m x=m x
 | [],_,_=>rfl
 | (n,v) :: r,m,h=>by
  unfold Mg
  rw[xQ λ w hw=>h w (Ċ _ hw)]
  split
  ·rfl
  ·have:x≠n:=by rintro rfl;exact h v Ġ
   simp[this]
theorem xR {kindOf:Str->Í iE}{x:Str}{v:Ç}:∀ {P:Á Str}{vs:Á Ç}{i:Nat}{m:Str->Í Ç},P.Nodup->P[i]? = À x->vs[i]? = À v->kindOf x=À .local->
  Mh kindOf (P.zip vs) m x=À v
 | [],_,_,_,_,h,_,_=>by simp at h
 | _ :: _,[],_,_,_,_,h,_=>by simp at h
 | p :: P,w :: vs,0,m,nd,h1,h2,hk=>by
  simp at h1 h2;subst h1;subst h2
  show Mh kindOf ((p,w) :: P.zip vs) m p=_
  unfold Mh
  rw[xS λ v hv=>(Ţ.mp nd).1 (xH hv).1,É hk]
  simp
 | p :: P,w :: vs,i+1,m,nd,h1,h2,hk=>by
  show Mh kindOf ((p,w) :: P.zip vs) m x=_
  unfold Mh
  exact xR (i:=i) (Ţ.mp nd).2 (by simpa using h1) (by simpa using h2) hk
theorem xP {kindOf:Str->Í iE}{x:Str}{v:Ç}:∀ {P:Á Str}{vs:Á Ç}{i:Nat}{m:Str->Í Ç},P.Nodup->P[i]? = À x->vs[i]? = À v->kindOf x≠À .local->
  Mg kindOf (P.zip vs) m x=À v
 | [],_,_,_,_,h,_,_=>by simp at h
 | _ :: _,[],_,_,_,_,h,_=>by simp at h
 | p :: P,w :: vs,0,m,nd,h1,h2,hk=>by
  simp at h1 h2;subst h1;subst h2
  show Mg kindOf ((p,w) :: P.zip vs) m p=_
  unfold Mg
  rw[xQ λ v hv=>(Ţ.mp nd).1 (xH hv).1,Ó hk]
  simp
 | p :: P,w :: vs,i+1,m,nd,h1,h2,hk=>by
  show Mg kindOf ((p,w) :: P.zip vs) m x=_
  unfold Mg
  exact xP (i:=i) (Ţ.mp nd).2 (by simpa using h1) (by simpa using h2) hk
def start (N:Á Str)(vs:Á V):St:=vs.map À++Ü (N.length - vs.length) none
def A8 (CX:IC)(P:ý)(w:ğ)(K:Ô)(mg:Str->Í Ç)(base:Heap)(N:Á Str)(qual:Str)(scope:Scope)(f:Addr)(cd:Ç)(A:ō)(outer:Á ED)(s:Ï)(H:Hp)(E:XK):Cx where
 prog:=P
 w:=w
 K:=K
 mg:=mg
 base:=base
 A:=A.deeper (w8 qual scope s.heap.objs.size f cd)
 N:=N
 i':=s
 C_:=H
 env:=w8 qual scope s.heap.objs.size f cd
 outer:=outer
 stack:=w8 qual scope s.heap.objs.size f cd :: outer
 ex:=[]
 calm:=true
 fn:=λ _=>true
 pn:=[]
 xe:=λ e s'=>ß (á P w) (A.deeper (w8 qual scope s.heap.objs.size f cd)) (leaving (w8 qual scope s.heap.objs.size f cd) e) (λ _ HF=>CX outer H s E e HF) (λ e' HF=>CX outer H s E e' HF) s'
theorem A6 {sc:Scope}{n:Nat}{x:Str}(h:sc.names.lookup x=À .cell):∃ c,(bT n sc.names []).lookup x=À c:=by
 have q:=mn sc.names n [] (.inl h)
 exact Af.mp q
theorem G5 {CX:IC}{P:ý}{w:ğ}{K:Ô}{mg:Str->Í Ç}{base:Heap}{N ps:Á Str}{qual:Str}{scope:Scope}{f:Addr}{cd:Ç}{A:ō}{outer:Á ED}{s s1:Ï}{H:Hp}{E:XK}{us:Á Ç}{vs:Á V}
  (S:la N ps scope) (hd:A.handled=none) (e0:MW P w K mg base A outer s H) (hl:vs.length=ps.length) (r:Vals vs us)
  (x:InCallC s s.heap.objs.size (Mh (w8 qual scope s.heap.objs.size f cd).kindOf (ps.zip us) λ _=>none) (bT (s.heap.objs.size+1) scope.names []) (Mg (w8 qual scope s.heap.objs.size f cd).kindOf (ps.zip us) λ _=>none) s1) :
  Inv (A8 CX P w K mg base N qual scope f cd A outer s H E) [] (start N vs) H s1:=by
 have nc:ps.length<=N.length:=by have:=Ě cf S.pre;rw[eG]at this;lia
 obtain⟨h1,tk,rfl,hk⟩:=x.done
 have noA:∀ b:Addr,b∉(A8 CX P w K mg base N qual scope f cd A outer s H E).ex:=λ b z=>absurd (show b∈([]:Á Addr) from z) (by simp)
 refine⟨⟨e0.mod,S.kind,rfl,rfl,Î _,λ y z c h1 h2=>?_,λ y hy=>?_,λ y c _ h=>?_,λ _=>hd,Around.frames_deeper e0.frames,.inr ⟨rfl,rfl⟩,λ b z=>absurd z (noA b),e0.bs,e0.M8,λ b _ _=>noA b,λ b z=>absurd z (noA b),e0.ud,e0.R'⟩,
  rfl,e0.bare,Un.kept hk,⟨_,x.toInCall.ns,λ i y v h1 h2 h3=>?_⟩,λ y c h=>⟨_,x.cell y c h⟩,e0.ar.fresh (Î _),λ y c h=>?_,λ p hp=>absurd (show p∈([]:Á (Addr × Obj)) from hp) (by simp),e0.ar.kept hk,?_⟩
 ·exact name_of_addr x.apart (eP h1) (eP h2)
 ·have hy:scope.names.lookup y=À .cell∨scope.names.lookup y=À .free:=hy
  rcases hy with hy|hy
  ·exact A6 hy
  ·exact absurd rfl (S.Tv _ (eP hy))
 ·exact Ŀ (x.above y c (eP h))
 ·have hi:i < vs.length:=by
   unfold start at h2
   by_cases hi:i < vs.length
   ·exact hi
   ·rw[Ā (by simpa using hi)]at h2
    rw[C6]at h2
    split at h2<;>cases h2
  have ha:vs[i]? = À v:=by
   unfold start at h2
   rw[é (by simpa using hi),ò]at h2
   cases e:vs[i]? with
   | none=>rw[e]at h2;cases h2
   | some a=>rw[e]at h2;cases h2;rfl
  obtain⟨u,hu,rv⟩:=r.get ha
  have hp:ps[i]? = À y:=by
   rw[<-S.pre,cx (by lia)];exact h1
  have ndP:ps.Nodup:=by rw[<-S.pre];exact S.nd.sublist (ML _ _)
  refine⟨u,rv,?_⟩
  rcases S.par y (Ŋ hp) with k|k
  ·exact .inl ⟨k,xR ndP hp hu k⟩
  ·obtain⟨c,e⟩:=A6 (n:=s.heap.objs.size+1) k
   refine .inr ⟨.inl k,c,e,?_⟩
   have q:=x.cell y c e
   rw[xP ndP hp hu (by show scope.names.lookup y≠_;rw[k];decide)]at q
   exact q
 ·exact e0.ar.fresh (Ŀ (x.above y c (eP h)))
 ·unfold start
  show _=N.length
  rw[õ,Æ,List.length_replicate]
  lia
theorem Wv {CX:IC}{P:ý}{w:ğ}{K:Ô}{mg:Str->Í Ç}{base:Heap}{k:Nat}{f:Addr}{name qual:Str}{params:Arguments}{body:Á Stmt}{scope:Scope}{dV kV doc pm ji ct oc:Ç}{an od:Í Addr}
  {Ku:ė (Í Ç)}{N ps:Á Str}{sp:Sp}(lk:K.lookup f=À ⟨oc,od,.func (bS name qual params body scope dV kV doc pm an ji ct),Ku⟩) (Ie:oy K ji qual=true) (S:la N ps scope)
  (len:∀ vs H Q E,sp vs H Q E->vs.length=ps.length)
  (Jy:∀ (A:ō) (outer:Á ED) (s:Ï) (H:Hp) (vs:Á V) (Q:VK) (E:XK),iJ k (A.deeper (w8 qual scope s.heap.objs.size f ji))->sp vs H Q E->
   ∃ t,p5 (A8 CX P w K mg base N qual scope f ji A outer s H E) body t/\t { nx:=λ _ H'=>Q .ĥ H',rt:=Q } (start N vs) H) :
  oA P w K mg base CX (k+1) f (bS name qual params body scope dV kV doc pm an ji ct) ps sp:=by
 refine⟨len,λ A outer s H args us vs Q E hr e0 hb r Qz=>?_⟩
 have hl:=len _ _ _ _ Qz
 have KX:K.In s.heap:=e0.mod.kin.keeps λ b o e=>(e0.bs b o e).1
 have lim:s.heap.NoLimit:=e0.mod.nolimit.keeps λ b o e=>(e0.bs b o e).1
 have Bq:∀ y∈ps.zip us,scope.names.lookup y.1=À .local∨(scope.names.lookup y.1=À .cell/\((bT (s.heap.objs.size+1) scope.names []).lookup y.1).isSome=true):=λ⟨n,v⟩ hy=>by
  rcases S.par n (xH hy).1 with q|q
  ·exact .inl q
  ·exact .inr ⟨q,mn _ _ _ (.inl q)⟩
 refine codeAny_call_function hr.depth (KX _ _ lk) rfl S.co S.gen rfl (PySem.W.codeRec_of KX Ie) (hb _ _ _ _ ?_)
 refine wpAny_newFunctionEnv_cells S.kind Bq λ env he s1 x=>?_
 subst he
 refine⟨lim.keeps x.toInCall.keep,codeAny_func ?_⟩
 obtain⟨t,ht,hq⟩:=Jy A outer s H vs Q E (hr.deeper _) Qz
 have I:Inv (A8 CX P w K mg base N qual scope f ji A outer s H E) [] (start N vs) H s1:=G5 S hr.hd e0 hl r x
 refine fm (ht [] s1 (start N vs) H _ I hq) (λ fl s' hs=>?_) λ e s' hs=>hs
 have fin:∀ {aD:St}{H':Hp}{v:V}{u:Ç},Inv (A8 CX P w K mg base N qual scope f ji A outer s H E) [] aD H' s'->RelV v u->Q v H'->CE outer P w H s Q u s':=
  λ {aD H' v u} J rv q=>⟨v,H',J.os,J.bare,J.base,J.ar,rv,q⟩
 cases fl with
 | ret u=>
  obtain⟨v,aD,H',J,rv,q⟩:=hs
  exact fin J rv q
 | next=>
  obtain⟨aD,H',J,q⟩:=hs
  exact fin (v:=V.ĥ) (u:=ē) J rfl q
 | brk=>
  obtain⟨_,_,_,q⟩:=hs
  exact bw q
 | cont=>
  obtain⟨_,_,_,q⟩:=hs
  exact bw q
section
variable {X:Cx}{x:Str}{p pos:ki}{e:Ů}{es:Á Ů}{t:TA}{id T:String}{r:Á V->Hp->VK->Prop}
def Yo (r:Á V->Hp->VK->Prop)(t:TA):TE:=λ σ H Q=>t σ H λ vs H1=>r vs H1 Q
theorem kO (hc:aQ X (.builtin id) r) (hg:Gl X x)(hm:X.mg x=none)(hv:č x=À (.builtin id)) (ha:PA X (e :: es) t) (hn:x≠"__name__":=by decide)(xi:(x == ("__debug__":Str))=false:=by decide)
  (he:à (e :: es) X.env=(false,Ŝ e X.env) :: à es X.env:=by rfl) (nc:(aO pos (à es X.env)).any (·.1)=false:=by rfl):PE X (.Call (.Name x p) (e :: es) [] pos) (Yo r t):=by
 intro Ä s σ H Q I h
 refine mw (sA I hg hm hv ?_ hn xi)
 exact abu (ak (ha pos Ä s σ H _ I h) λ us s1 zz=>kj zz λ vs H1 I1 r1 q1=>hc Ä s1 σ H1 vs us Q I1 r1 q1) he nc
theorem sH (hc:aQ X (.type T) r) (hg:Gl X x)(hm:X.mg x=none)(hv:č x=À (.type T)) (ha:PA X (e :: es) t) (hn:x≠"__name__":=by decide)(xi:(x == ("__debug__":Str))=false:=by decide)
  (he:à (e :: es) X.env=(false,Ŝ e X.env) :: à es X.env:=by rfl) (nc:(aO pos (à es X.env)).any (·.1)=false:=by rfl):PE X (.Call (.Name x p) (e :: es) [] pos) (Yo r t):=by
 intro Ä s σ H Q I h
 refine mw (sA I hg hm hv ?_ hn xi)
 exact cI (ak (ha pos Ä s σ H _ I h) λ us s1 zz=>kj zz λ vs H1 I1 r1 q1=>hc Ä s1 σ H1 vs us Q I1 r1 q1) he nc
end
end L2
namespace HT
open PySem PyProof.Rows
section
open PySem.SeqAt
open PySem.AutoSeq1 (wpAny_loadPart')
open PySem.MeetsSeq PySem.MeetsSeq2 PySem.MeetsSeq3
end
section
variable {prog:ý}{w:ğ}{A:ō}{E:Ç->Ï->Prop}{s:Ï}
theorem Nb (ht:YG s.heap t vs.toArray)(hb:YG s.heap b ws.toArray)(hv:vs≠[])
  (h1:ws=[]->Q (.ref t) s) (h2:ws≠[]->Q (.ref s.heap.objs.size) { s with heap:=s.heap.push { cls:=.type "tuple",data:=.seq (vs++ws).toArray } })
  (hsz:vs.length+ws.length<=sizeLine):ß (á prog w) A (Ŷ .Add (.ref t) (.ref b)) Q E s:=by
 obtain⟨⟨cls,dd,data,sl⟩,ho,hc,n,hd⟩:=id ht
 obtain⟨⟨RD,Qk,data2,QT⟩,dW,Jz,n2,hd2⟩:=id hb
 simp only at hc hd Jz hd2
 subst hc hd Jz hd2
 have e:vs.toArray++ws.toArray=(vs++ws).toArray:=by simp
 by_cases hw:ws=[]
 ·exact qf ⟨_,ho,rfl⟩ ⟨_,dW,rfl⟩ jh oz cJ cy (b8 _ _)
   (tuple_addW1 t b vs.toArray ws.toArray n n2 dd Qk sl QT (by simpa using hv) (by simp[hw])) ⟨ho,dW,h1 hw⟩
 ·refine qf ⟨_,ho,rfl⟩ ⟨_,dW,rfl⟩ jh oz cJ cy (b8 _ _)
   (tuple_addW2 t b vs.toArray ws.toArray n n2 dd Qk sl QT (by simpa using hv) (by simpa using hw) (by rw[Ý,Ý];exact hsz)) ⟨ho,dW,?_⟩
  rw[e]
  exact h2 hw
def cV (n d:Nat):Í Int->Nat
 | none=>d
 | some v=>if v < 0 then (v+(n:Int)).toNat else min v.toNat n
theorem Ur (n d:Nat)(hd:d<=n)(o:Í Int):cV n d o<=n:=by
 cases o with
 | none=>exact hd
 | some v=>
  show(if v < 0 then (v+(n:Int)).toNat else min v.toNat n)<=n
  by_cases hv:v < 0
  ·rw[É hv];lia
  ·rw[Ó hv];exact Nat.min_le_right _ _
theorem EY (v:Int)(n d:Nat):(if v < 0 then max (v+(n:Int)) 0 else min v (n:Int))=((cV n d (À v):Nat):Int):=by
 show(if v < 0 then max (v+(n:Int)) 0 else min v (n:Int))=(((if v < 0 then (v+(n:Int)).toNat else min v.toNat n):Nat):Int)
 by_cases hv:v < 0
 ·simp only[É hv];lia
 ·simp only[Ó hv];lia
theorem Dd (lo hi:Í Int)(n:Nat):iC lo hi 1 (n:Int)=(((cV n 0 lo:Nat):Int),((cV n n hi:Nat):Int)):=by
 have h1:¬ ((1:Int) < 0):=by lia
 unfold iC
 simp only[h1,aa]
 refine Prod.ext ?_ ?_
 ·cases lo with
  | none=>rfl
  | some v=>exact EY v n 0
 ·cases hi with
  | none=>rfl
  | some v=>exact EY v n n
theorem D_ (i j:Nat):di (i:Int) (j:Int) 1=j - i:=by
 unfold di
 have h1:(1:Int) > 0:=by lia
 simp only[h1,aT,Int.ediv_one]
 split<;>lia
theorem wt (p:tK v o)(h:Q o s):ß (á prog w) A (Zr v) Q E s:=by
 cases p with
 | none=>exact slicePart_none h
 | int i t=>exact slicePart_int h
theorem kP {sl:Addr}{vl vu:Ç}{lo hi:Í Int}{n:Nat}{Q:Int × Int × Nat->Ï->Prop}(hs:s.heap.IsSliceOf sl vl vu .none)(pl:tK vl lo)(pu:tK vu hi)
  (h:Q (((cV n 0 lo:Nat):Int),1,cV n n hi - cV n 0 lo) s):ß (á prog w) A (rK (.ref sl) (pure (n:Int))) Q E s:=by
 obtain⟨os,Sq,Y3,WL⟩:=id hs
 unfold rK Zq
 refine Â (Â (ab Sq WL (x:=vl) rfl (Â (ab Sq WL (x:=vu) rfl (Â (ab Sq WL (x:=.none) rfl (Ê ?_)))))))
 refine Â (slicePart_none ?_)
 show ß _ _ (if ((1:Int) == 0)=true then _ else _) _ _ s
 rw[Ó (by decide)]
 refine Â (wt pl (Â (wt pu (Â (Ê ?_)))))
 show ß _ _ (match iC lo hi 1 (n:Int) with|(lo,hi)=>pure (lo,(1:Int),di lo hi 1)) _ _ s
 rw[Dd lo hi n]
 show ß _ _ (pure (((cV n 0 lo:Nat):Int),(1:Int),di ((cV n 0 lo:Nat):Int) ((cV n n hi:Nat):Int) 1)) _ _ s
 rw[D_]
 exact Ê h
theorem KL (xs:ė Ç)(i k:Nat):((Ģ k).filterMap λ(m:Nat)=>xs[((i:Int)+(m:Int) * 1).toNat]?).toArray=((xs.toList.drop i).take k).toArray:=by
 have e:(λ(m:Nat)=>xs[((i:Int)+(m:Int) * 1).toNat]?)=λ m=>xs[i+m]?:=by
  funext m
  have:((i:Int)+(m:Int) * 1).toNat=i+m:=by lia
  rw[this]
 rw[e]
 have:=pick_run xs i k
 rw[List.filterMap_map]at this
 have e2:((λ x=>xs[x]?) ∘ λ x=>i+x)=λ m=>xs[i+m]?:=rfl
 rw[e2]at this
 rw[this]
theorem qx {t sl:Addr}{items:ė Ç}{vl vu:Ç}{lo hi:Í Int}{Q:Ç->Ï->Prop}(ht:YG s.heap t items)(hs:s.heap.IsSliceOf sl vl vu .none)(pl:tK vl lo)(pu:tK vu hi)
  (hw:¬ (cV items.size 0 lo=0/\cV items.size items.size hi=items.size))
  (h:Q (.ref s.heap.objs.size) { s with heap:=s.heap.push { cls:=.type "tuple",data:=.seq ((items.toList.drop (cV items.size 0 lo)).take (cV items.size items.size hi - cV items.size 0 lo)).toArray } })
  (hsz:items.size<=sizeLine):ß (á prog w) A (n5 (.ref t) (.ref sl)) Q E s:=by
 have Fe:sizeOk (.seq ((items.toList.drop (cV items.size 0 lo)).take (cV items.size items.size hi - cV items.size 0 lo)).toArray):=by
  show((items.toList.drop (cV items.size 0 lo)).take (cV items.size items.size hi - cV items.size 0 lo)).toArray.size<=sizeLine
  rw[Ý,eG,PZ,Ď]
  lia
 have hj:cV items.size items.size hi<=items.size:=Ur _ _ (Î _) hi
 obtain⟨os,Sq,Y3,WL⟩:=id hs
 have hTs:s.TypeIs (.ref sl) "slice":=⟨os,Sq,Y3⟩
 unfold n5
 try with_reducible refine Ŭ ?_
 first|refine Â (Ê ?_)|skip
 refine Â (YZ ht.typeIs (by decide) ?_)
 refine Â (į (name:=ck "__getitem__") ht.typeIs œ
  (ģ œ ht.typeIs U0 ?_ (V1 _ _)))
 show ß _ _ (rM (.ref t) >>= _) _ _ s
 refine Â (tupleItemsOf_ ht ?_)
 refine Â (qh hTs ?_)
 rw[É (by decide)]
 refine Â (kP hs pl pu ?_)
 have hno:¬ ((((cV items.size 0 lo:Nat):Int) == 0 && (1:Int) == 1 && (cV items.size items.size hi - cV items.size 0 lo) == items.size)=true):=by
  intro q
  rw[ł,ł]at q
  have q1:((cV items.size 0 lo:Nat):Int)=0:=eq_of_beq q.1.1
  have q2:cV items.size items.size hi - cV items.size 0 lo=items.size:=eq_of_beq q.2
  exact hw ⟨by lia,by lia⟩
 show ß _ _ (if (((cV items.size 0 lo:Nat):Int) == 0 && (1:Int) == 1 && (cV items.size items.size hi - cV items.size 0 lo) == items.size)=true then _ else _) _ _ s
 rw[Ó hno,KL]
 first
  | exact Â (m:=dB _) (ŝ (Ê ⟨_,rfl,Ê h⟩) Fe)
  | exact Â (m:=dB _) (ŝ (Â (Ê (Ê ⟨_,rfl,Ê h⟩))) Fe)
  | exact Â (Â (m:=dB _) (ŝ (Ê (Ê ⟨_,rfl,Ê h⟩)) Fe))
  | exact Â (Â (m:=dB _) (ŝ (Ê ⟨_,rfl,Ê h⟩) Fe))
end
end HT
namespace L2
open PySem PySem.Spec PyProof.Rows
abbrev TO:=St->Hp->(Í Int->Hp->Prop)->Prop
def PO (X:Cx)(e:Í Ů)(t:TO):Prop:=
 ∀ (Ä:Á (Addr × Obj)) (s:Ï) (σ:St) (H:Hp) (Q:Í Int->Hp->Prop),Inv X Ä σ H s->t σ H Q->
  ß (á X.prog X.w) X.A (evalPart e X.env) (λ u s'=>∃ o H',Inv X Ä σ H' s'/\tK u o/\Q o H') X.xe s
def Px:TO:=λ _ H Q=>Q none H
def Yv (t:TE):TO:=λ σ H Q=>t σ H λ x H1=>∃ i,x=.int i/\Q (À i) H1
theorem intsAre_of:∀ {us:Á Ç},Vals (ns.map V.int) us->qa us ns:=by
 induction ns with
 | nil=>intro us r;rw[aE]at r;cases r;exact .nil
 | cons n ns ih=>
  intro us r
  rw[È]at r
  cases r with
  | cons r1 r2=>
   obtain⟨t,e⟩:=r1
   subst e
   exact .cons n t (ih r2)
section
variable {X:Cx}{e:Ů}{te:TE}{lo hi:Í Ů}{tl th:TO}{pos p2:ki}
theorem OO:PO X none Px:=by
 intro Ä s σ H Q I h
 rw[evalPart_none]
 exact Ê ⟨none,H,I,.none,h⟩
theorem OP (h:PE X e te):PO X (À e) (Yv te):=by
 intro Ä s σ H Q I hw
 rw[evalPart_some]
 refine ak (h Ä s σ H _ I hw) λ u s1 zz=>kj zz λ x H1 I1 r1 q1=>?_
 obtain⟨i,rfl,q⟩:=q1
 obtain⟨t,rfl⟩:=r1
 exact⟨À i,H1,I1,.int i t,q⟩
def V_ (X:Cx)(r:V->Í Int->Í Int->Hp->VK->Prop):Prop:=
 ∀ (Ä:Á (Addr × Obj)) (s:Ï) (σ:St) (H:Hp) (x:V) (v vl vu:Ç) (lo hi:Í Int) (sl:Addr) (Q:VK),Inv X Ä σ H s->RelV x v->s.heap.IsSliceOf sl vl vu .none->tK vl lo->tK vu hi->r x lo hi H Q->
  ∃ T id,GD (.type T) "__getitem__"=pure (À (.builtin id))/\s.TypeIs v T/\ß (á X.prog X.w) X.A (n5 v (.ref sl)) (EP X Ä σ Q) X.xe s
def tSl (r:V->Í Int->Í Int->Hp->VK->Prop)(te:TE)(tl th:TO):TE:=λ σ H Q=>te σ H λ x H1=>tl σ H1 λ l H2=>th σ H2 λ u H3=>r x l u H3 Q
theorem KG (hr:V_ X r)(he:PE X e te)(hl:PO X lo tl)(hu:PO X hi th):PE X (.Subscript e (.Slice lo hi none p2) pos) (tSl r te tl th):=by
 intro Ä s σ H Q I h
 refine V0 (ak (he Ä s σ H _ I h) λ v s1 zz=>kj zz λ x H1 I1 r1 q1=>?_)
 refine wpAny_Slice (ak (hl Ä s1 σ H1 _ I1 q1) λ vl s2 zz=>kj zz λ l H2 I2 pl q2=>ak (hu Ä s2 σ H2 _ I2 q2) λ vu s3 zz=>kj zz λ u H3 I3 pu q3=>?_)
 rw[evalPart_none]
 refine Ê ?_
 have I4:Inv X Ä σ H3 { s3 with heap:=s3.heap.push { cls:=.type "slice",data:=.fields #[vl,vu,.none] } }:=I3.kept (t':=s3.toks) λ b ob q=>Å _ q
 obtain⟨T,id,hT,ht,hg⟩:=hr Ä { s3 with heap:=s3.heap.push { cls:=.type "slice",data:=.fields #[vl,vu,.none] } } σ H3 x v vl vu l u s3.heap.objs.size Q I4 r1 (YE ..) pl pu q3
 show ß (á X.prog X.w) X.A (IA e (.Slice lo hi none p2) v (.ref s3.heap.objs.size)) (EP X Ä σ Q) X.xe { s3 with heap:=s3.heap.push { cls:=.type "slice",data:=.fields #[vl,vu,.none] } }
 exact tail_any (ops:=[.ref s3.heap.objs.size,v]) ht hT hg (by with_unfolding_all rfl)
def ve (xs:Á V)(lo hi:Í Int):Á V:=(xs.drop (HT.cV xs.length 0 lo)).take (HT.cV xs.length xs.length hi - HT.cV xs.length 0 lo)
theorem sV (xs:Á V)(lo hi:Í Int):(ve xs lo hi).length<=xs.length:=by
 unfold ve
 rw[eG,PZ]
 lia
def aa1 (K:Ô):V->Í Int->Í Int->Hp->VK->Prop:=λ x lo hi H Q=>∃ a xs,x=.ref a/\iP K H a xs/\
 ¬ (HT.cV xs.length 0 lo=0/\HT.cV xs.length xs.length hi=xs.length)/\∀ p,H p=none->Q (.ref p) (upd H p (.tup (ve xs lo hi)))
theorem Uw:V_ X (aa1 X.K):=by
 intro Ä s σ H x v vl vu lo hi sl Q I rx hs pl pu h
 obtain⟨a,xs,rfl,hx,hw,q⟩:=h
 cases rx
 obtain⟨its,r,ht,hz⟩:=I.tuple hx
 have hlen:its.toArray.size=xs.length:=by rw[Ý];exact r.length.symm
 refine⟨"tuple",_,œ.lookup,ht.typeIs,?_⟩
 refine HT.qx ht hs pl pu (by rw[hlen];exact hw) ?_ (by rw[hlen];exact hz)
 rw[hlen]
 refine⟨.ref s.heap.objs.size,_,I.laid (t':=s.toks) (o:=.tup (ve xs lo hi)) (λ b ob q=>Å _ q) (Î _) ?_,rfl,q _ (I.ar.fresh (Î _))⟩
 exact⟨ā (sV xs lo hi) hz,_,(r.drop (HT.cV xs.length 0 lo)).take (HT.cV xs.length xs.length hi - HT.cV xs.length 0 lo),CM _ _⟩
def Yc (K:Ô):R2:=λ x y H Q=>∃ a b xs ys,x=.ref a/\y=.ref b/\iP K H a xs/\iP K H b ys/\xs≠[]/\xs.length+ys.length<=sizeLine/\
 (ys=[]->Q (.ref a) H)/\(ys≠[]->∀ p,H p=none->Q (.ref p) (upd H p (.tup (xs++ys))))
theorem Vals.lN (r:Vals xs us):us=[] ↔ xs=[]:=by
 cases r with
 | nil=>simp
 | cons _ _=>simp
theorem Ov:fo X (Ŷ .Add) (Yc X.K):=by
 intro Ä s σ H x y v u Q I rx ry h
 obtain⟨a,b,xs,ys,rfl,rfl,ha,hb,hx,hz,q1,q2⟩:=h
 cases rx
 cases ry
 obtain⟨its,r1,p1,_⟩:=I.tuple ha
 obtain⟨dh,r2,p2,_⟩:=I.tuple hb
 refine HT.Nb p1 p2 (λ z=>hx (r1.lN.mp z)) (λ z=>⟨.ref a,H,I,rfl,q1 (r2.lN.mp z)⟩) (λ z=>?_) (by rw[<-r1.length,<-r2.length];exact hz)
 refine⟨.ref s.heap.objs.size,_,I.laid (t':=s.toks) (o:=.tup (xs++ys)) (λ b ob q=>Å _ q) (Î _) ?_,rfl,q2 (λ w=>z (r2.lN.mpr w)) _ (I.ar.fresh (Î _))⟩
 exact⟨by rw[õ];exact hz,_,r1.append r2,CM _ _⟩
end
def Av (n:Nat)(i:Int):Í Nat:=if 0<=i then (if i < n then À i.toNat else none) else if -(n:Int)<=i then À (i+n).toNat else none
def oB {α:Type}(xs:Á α)(i:Int):Í α:=(Av xs.length i).bind λ j=>xs[j]?
theorem zy (h:Av n i=À j):Mn i n=À j/\j < n/\-(n:Int)<=i/\i < n:=by
 unfold Av at h
 by_cases h0:0<=i
 ·rw[É h0]at h
  by_cases h1:i < n
  ·rw[É h1]at h
   have e:i.toNat=j:=ă h
   exact⟨by rw[Rf h0 h1,e],by lia,by lia,h1⟩
  ·rw[Ó h1]at h;cases h
 ·rw[Ó h0]at h
  by_cases h1:-(n:Int)<=i
  ·rw[É h1]at h
   have e:(i+n).toNat=j:=ă h
   exact⟨by rw[seqIndex_neg (by lia) h1,e],by lia,h1,by lia⟩
  ·rw[Ó h1]at h;cases h
theorem yZ (h:oB xs i=À v):∃ j,Mn i xs.length=À j/\xs[j]? = À v/\j < xs.length/\-(xs.length:Int)<=i/\i < xs.length:=by
 unfold oB at h
 cases e:Av xs.length i with
 | none=>rw[e]at h;cases h
 | some j=>
  rw[e]at h
  obtain⟨h1,h2,h3,h4⟩:=zy e
  exact⟨j,h1,h,h2,h3,h4⟩
theorem ql {α:Type}{xs:Á α}{j:Nat}{v:α}(h:xs[j]? = À v):oB xs (j:Int)=À v:=by
 have hj:j < xs.length:=(Ë.mp h).1
 have e:Av xs.length (j:Int)=À j:=by
  unfold Av
  rw[É (by lia),É (by lia)];simp
 unfold oB;rw[e];exact h
theorem IK (xs:Á α)(v:α):oB (xs++[v]) (-1)=À v:=by
 have hl:(xs++[v]).length=xs.length+1:=by simp
 have e:Av (xs++[v]).length (-1)=À xs.length:=by
  unfold Av
  rw[hl,Ó (by decide),É (by lia)]
  congr 1
  lia
 unfold oB
 rw[e]
 show(xs++[v])[xs.length]? = À v
 simp
def EN (b:Ů):Prop:=∀ o i,CZ b false o i=operate [o,i] (n5 o i)
def U2 (X:Cx)(r:R2):Prop:=
 ∀ (value slice:Ů) (Ä:Á (Addr × Obj)) (s:Ï) (σ:St) (H:Hp) (x y:V) (v u:Ç) (Q:VK),Inv X Ä σ H s->RelV x v->RelV y u->r x y H Q->
  CZ slice false v u=operate [v,u] (n5 v u)->ß (á X.prog X.w) X.A (IA value slice v u) (EP X Ä σ Q) X.xe s
def GG (X:Cx)(id:String)(r:V->Á V->Hp->VK->Prop):Prop:=
 ∀ (Ä:Á (Addr × Obj)) (s:Ï) (σ:St) (H:Hp) (x:V) (xs:Á V) (v:Ç) (us:Á Ç) (Q:VK),Inv X Ä σ H s->RelV x v->Vals xs us->r x xs H Q->
  ß (á X.prog X.w) X.A (call (.builtin id) (v :: us)) (EP X Ä σ Q) X.xe s
section
variable {X:Cx}{a b:Ů}{ta tb:TE}{pos:ki}
theorem X4 (hr:U2 X r)(ha:PE X a ta)(hb:PE X b tb)(hs:EN b):PE X (.Subscript a b pos) (Yu r ta tb):=by
 intro Ä s σ H Q I h
 exact V0 (Rv ha hb I h λ v u s2 x y H2 I2 rx ry q=>hr a b Ä s2 σ H2 x y v u Q I2 rx ry q (hs _ _))
def aaW (K:Ô):R2:=λ x y H Q=>∃ p xs i v,x=.ref p/\y=.int i/\f9 K H p xs/\oB xs i=À v/\Q v H
def aaY (K:Ô):R2:=λ x y H Q=>∃ p xs i v,x=.ref p/\y=.int i/\iP K H p xs/\oB xs i=À v/\Q v H
def aaX:R2:=λ x y H Q=>∃ z i c,x=.str z/\y=.int i/\z.length<=sizeLine/\oB z.cps.toList i=À c/\Q (.str ⟨#[c]⟩) H
theorem Fo:U2 X (aaW X.K):=by
 intro value slice Ä s σ H x y v u Q I rx ry h hs
 obtain⟨p,xs,i,z,rfl,rfl,hq,he,q⟩:=h
 cases rx
 obtain⟨t,rfl⟩:=ry
 obtain⟨its,r,pl,hz⟩:=I.list hq
 obtain⟨j,h1,h2,h3,h4,h5⟩:=yZ he
 obtain⟨w,ew,B9⟩:=r.get h2
 have hl:=r.length
 have hn:=nr
 have fin:EP X Ä σ Q w s:=⟨z,H,I,B9,q⟩
 by_cases h0:0<=i
 ·have hj:i.toNat=j:=by
   rw[Rf h0 h5]at h1
   exact ă h1
  exact item_listR pl.isList h0 (by lia) (by rw[hj];simpa using ew) fin hs
 ·have hj:(i+(its.toArray.size:Int)).toNat=j:=by
   rw[seqIndex_neg (by lia) h4]at h1
   rw[Ý,<-hl]
   exact ă h1
  exact MV (x:=w) pl.isList.typeIs YW.lookup
   (wpAny_getItem_list_neg (Q:=λ r s'=>r=w/\EP X Ä σ Q r s') pl.isList (by lia) (by rw[Ý]<;>lia) (by lia) (by rw[hj];simpa using ew) ⟨rfl,fin⟩) hs
theorem SI:U2 X (aaY X.K):=by
 intro value slice Ä s σ H x y v u Q I rx ry h hs
 obtain⟨p,xs,i,z,rfl,rfl,hq,he,q⟩:=h
 cases rx
 obtain⟨t,rfl⟩:=ry
 obtain⟨its,r,pl,hz⟩:=I.tuple hq
 obtain⟨j,h1,h2,h3,h4,h5⟩:=yZ he
 obtain⟨w,ew,B9⟩:=r.get h2
 have hl:=r.length
 have hn:=nr
 have fin:EP X Ä σ Q w s:=⟨z,H,I,B9,q⟩
 exact MV (x:=w) pl.typeIs slot_tuple_getitem.lookup
  (getItem_tuple (j:=j) (Q:=λ r s'=>r=w/\EP X Ä σ Q r s') pl (by lia) (by lia) (by rw[Ý,<-hl];exact h1) (by simpa using ew) ⟨rfl,fin⟩) hs
theorem SH:U2 X aaX:=by
 intro value slice Ä s σ H x y v u Q I rx ry h hs
 obtain⟨z,i,c,rfl,rfl,hz,he,q⟩:=h
 obtain⟨t,rfl⟩:=rx
 obtain⟨t',rfl⟩:=ry
 obtain⟨j,h1,h2,h3,h4,h5⟩:=yZ he
 have hl:z.cps.toList.length=z.length:=by simp[Str.length]
 rw[hl]at h1 h4 h5
 have hn:=nr
 exact tail_any (GC s z t) slot_str_getitem.lookup (getItem_str (c:=c) (by
  have e1:decide (i < -(2 ^ 63:Int))=false:=ĳ (by lia)
  have e2:decide (i ≥ 2 ^ 63)=false:=ĳ (by lia)
  rw[e1,e2,CK]) (by rw[h1];simpa using h2) ⟨.str ⟨#[c]⟩,H,I.tok _,⟨_,rfl⟩,q⟩) hs
theorem DP (its:Á Ç)(n j:Nat)(u:Ç):ŵ (·.setIfInBounds j u) { cls:=.type "list",data:=.seq its.toArray n }={ cls:=.type "list",data:=.seq (its.set j u).toArray n }:=by
 simp[ŵ]
theorem Inv.lst {Ä:Á (Addr × Obj)}{σ:St}{H:Hp}{s:Ï}{p:Addr}{xs:Á V}(I:Inv X Ä σ H s)(h:H p=À (.lst xs)) :
  ∃ (its:Á Ç) (n:Nat),Vals xs its/\s.heap.get? p=À { cls:=.type "list",data:=.seq its.toArray n }/\xs.length<=sizeLine:=by
 obtain⟨z,its,n,r,e⟩:=I.ar p _ h
 exact⟨its,n,r,e,z⟩
theorem Inv.SY {Ä:Á (Addr × Obj)}{σ:St}{H:Hp}{s:Ï}{p:Addr}{xs ys:Á V}{its its':Á Ç}{n n':Nat}{f:Obj->Obj}(I:Inv X Ä σ H s)(h:H p=À (.lst xs))
  (ho:s.heap.get? p=À { cls:=.type "list",data:=.seq its.toArray n }) (hf:f { cls:=.type "list",data:=.seq its.toArray n }={ cls:=.type "list",data:=.seq its'.toArray n' }) (r:Vals ys its') (hz:ys.length<=sizeLine) (t:Nat) :
  Inv X Ä σ (upd H p (.lst ys)) { s with heap:=s.heap.update p f,toks:=t }:=by
 have e:(s.heap.update p f).get? p=À { cls:=.type "list",data:=.seq its'.toArray n' }:=by
  rw[dA f ho (by rw[hf]<;>rfl),hf]
 refine I.write (x:=p) (e:=p) (by rw[h];trivial) (.inl rfl) (λ b u hb q=>(cW _ _ (bR hb)).trans q) ⟨_,e⟩ ?_
 exact⟨hz,its',n',r,e⟩
def Yf:V->V->V->Hp->(Hp->Prop)->Prop:=λ o i v H Q=>∃ p xs k j,o=.ref p/\i=.int k/\H p=À (.lst xs)/\Av xs.length k=À j/\Q (upd H p (.lst (xs.set j v)))
theorem set_list:V9 X Yf:=by
 intro Ä s σ H o i v ov iv u Q I ro ri rv h
 obtain⟨p,xs,k,j,rfl,rfl,hp,hj,q⟩:=h
 cases ro
 obtain⟨t,rfl⟩:=ri
 obtain⟨its,n,r,ho,hz⟩:=I.lst hp
 obtain⟨h1,h2,h3,h4⟩:=zy hj
 have hl:=r.length
 have hn:=nr
 have I':Inv X Ä σ (upd H p (.lst (xs.set j v))) { s with heap:=s.heap.update p (ŵ (·.setIfInBounds j u)) }:=
  I.SY hp ho (DP its n j u) (r.set rv j) (by rw[š];exact hz) s.toks
 by_cases h0:0<=k
 ·have hk:k.toNat=j:=by
   rw[Rf h0 h4]at h1
   exact ă h1
  exact PySem.W.ki_setAt ho h0 (by lia) (by rw[Ý,<-hl];exact h4) (by rw[hk];exact⟨_,I',q⟩)
 ·have hk:(k+(its.toArray.size:Int)).toNat=j:=by
   rw[seqIndex_neg (by lia) h3]at h1
   rw[Ý,<-hl]
   exact ă h1
  exact PySem.W.ki_setBack ho (by lia) (by rw[Ý,<-hl];exact h3) (by lia) (by rw[hk];exact⟨_,I',q⟩)
theorem zQ (lo hi:Í Int)(n:Nat):(jP lo hi none n).1=((HT.cV n 0 lo:Nat):Int)/\(jP lo hi none n).2.1=((HT.cV n n hi:Nat):Int)/\(jP lo hi none n).2.2=1:=by
 refine⟨?_,?_,rfl⟩
 ·cases lo with
  | none=>simp[jP,HT.cV]
  | some i=>
   simp only[jP,HT.cV,uk,show(1:Int) > 0 by decide,aT]
   by_cases h:i < 0
   ·simp only[h,aT]<;>lia
   ·simp only[h,aa]<;>lia
 ·cases hi with
  | none=>simp[jP,HT.cV]
  | some i=>
   simp only[jP,HT.cV,uk,show(1:Int) > 0 by decide,aT]
   by_cases h:i < 0
   ·simp only[h,aT]<;>lia
   ·simp only[h,aa]<;>lia
theorem xu (its:Á Ç)(lo hi:Í Int):slicePick its.toArray lo hi none=((its.drop (HT.cV its.length 0 lo)).take (HT.cV its.length its.length hi - HT.cV its.length 0 lo)).toArray:=by
 obtain⟨h1,h2,h3⟩:=zQ lo hi its.toArray.size
 unfold slicePick
 rw[h1,h2,h3]
 simp only[sliceRange_one,pick_run,Ý]<;>rfl
def aa0 (K:Ô):V->Í Int->Í Int->Hp->VK->Prop:=λ x lo hi H Q=>∃ a xs,x=.ref a/\f9 K H a xs/\∀ p,H p=none->Q (.ref p) (upd H p (.lst (ve xs lo hi)))
theorem FW:V_ X (aa0 X.K):=by
 intro Ä s σ H x v vl vu lo hi sl Q I rx hs pl pu h
 obtain⟨a,xs,rfl,hx,q⟩:=h
 cases rx
 obtain⟨its,r,ht,hz⟩:=I.list hx
 have hlen:=r.length
 refine⟨"list",_,YW.lookup,ht.isList.typeIs,?_⟩
 refine wpAny_getItem_list_slice ht.isList hs pl pu .none (by simp) ?_ (by rw[Ý]<;>lia)
 rw[xu,<-hlen]
 refine⟨.ref s.heap.objs.size,_,I.laid (t':=s.toks) (o:=.lst (ve xs lo hi)) (λ b ob q=>Å _ q) (Î _) ?_,rfl,q _ (I.ar.fresh (Î _))⟩
 exact⟨ā (sV xs lo hi) hz,_,0,(r.drop (HT.cV xs.length 0 lo)).take (HT.cV xs.length xs.length hi - HT.cV xs.length 0 lo),Þ _ rfl⟩
def l9:V->Bool
 | .ĥ=>true
 | .bl _=>true
 | .int _=>true
 | .str _=>true
 | _=>false
def g8:V->V->Bool
 | .ĥ,.ĥ=>true
 | .bl a,.bl b=>a == b
 | .bl a,.int b=>(if a then 1 else 0) == b
 | .int a,.bl b=>a == (if b then 1 else 0)
 | .int a,.int b=>a == b
 | .str a,.str b=>a == b
 | _,_=>false
theorem Ũ (ry:RelV y u)(rx:RelV x v)(fy:l9 y=true)(fx:l9 x=true):rT A s u v (g8 y x):=by
 cases y with
 | ĥ=>
  cases ry
  cases x with
  | ĥ=>cases rx;exact sU _
  | bl b=>cases rx;exact SeqAt.EqAt.none_bool b
  | int b=>obtain⟨t,rfl⟩:=rx;exact SeqAt.EqAt.none_int b t
  | str b=>obtain⟨t,rfl⟩:=rx;exact SeqAt.EqAt.none_str b t
  | _=>exact absurd (show false=true from fx) è
 | bl a=>
  cases ry
  cases x with
  | ĥ=>cases rx;exact SeqAt.EqAt.bool_none a
  | bl b=>cases rx;exact SeqAt.EqAt.bool_bool a b
  | int b=>obtain⟨t,rfl⟩:=rx;exact SeqAt.EqAt.bool_int a b t
  | str b=>obtain⟨t,rfl⟩:=rx;exact SeqAt.EqAt.bool_str a b t
  | _=>exact absurd (show false=true from fx) è
 | int a=>
  obtain⟨t',rfl⟩:=ry
  cases x with
  | ĥ=>cases rx;exact SeqAt.EqAt.int_none a t'
  | bl b=>cases rx;exact SeqAt.EqAt.int_bool a t' b
  | int b=>obtain⟨t,rfl⟩:=rx;exact SeqAt.EqAt.int_int a t' b t
  | str b=>obtain⟨t,rfl⟩:=rx;exact CQ a t' b t
  | _=>exact absurd (show false=true from fx) è
 | str a=>
  obtain⟨t',rfl⟩:=ry
  cases x with
  | ĥ=>cases rx;exact SeqAt.EqAt.str_none a t'
  | bl b=>cases rx;exact SeqAt.EqAt.str_bool a t' b
  | int b=>obtain⟨t,rfl⟩:=rx;exact CT a t' b t
  | str b=>obtain⟨t,rfl⟩:=rx;exact SeqAt.EqAt.str_str a t' b t
  | _=>exact absurd (show false=true from fx) è
 | _=>exact absurd (show false=true from fy) è
def Jg (x:V)(u:Ç):Bool:=match u with
 | .none=>g8 .ĥ x
 | .bool b=>g8 (.bl b) x
 | .int i _=>g8 (.int i) x
 | .str z _=>g8 (.str z) x
 | _=>false
theorem Du (r:RelV y u)(f:l9 y=true):Jg x u=g8 y x:=by
 cases y with
 | ĥ=>cases r;rfl
 | bl b=>cases r;rfl
 | int i=>obtain⟨t,rfl⟩:=r;rfl
 | str z=>obtain⟨t,rfl⟩:=r;rfl
 | _=>exact absurd (show false=true from f) è
theorem yX:∀ {xs:Á V}{us:Á Ç},Vals xs us->xs.all l9=true->us.any (Jg x)=xs.any λ y=>g8 y x
 | _,_,.nil,_=>rfl
 | y :: xs,u :: us,.cons r t,f=>by
  rw[Ĩ,ł]at f
  rw[cw,cw,Du r f.1,yX t f.2]
theorem qK (rx:RelV x v)(fx:l9 x=true):∀ {xs:Á V}{us:Á Ç},Vals xs us->xs.all l9=true->∀ u∈us,rT A s u v (Jg x u)
 | _,_,.nil,_=>λ u hu=>by cases hu
 | y :: xs,u :: us,.cons r t,f=>λ u' hu=>by
  rw[Ĩ,ł]at f
  rcases Ò.mp hu with rfl|hu
  ·rw[Du r f.1];exact Ũ r rx f.1 fx
  ·exact qK rx fx t f.2 u' hu
def inV (x:V)(xs:Á V):Bool:=xs.any λ y=>g8 y x
def rIn (K:Ô)(neg:Bool):R2:=λ x y H Q=>∃ p xs,y=.ref p/\(f9 K H p xs∨iP K H p xs)/\l9 x=true/\xs.all l9=true/\Q (.bl (if neg then !inV x xs else inV x xs)) H
theorem Ht:fo X (ċ .In) (rIn X.K false):=by
 intro Ä s σ H x y v u Q I rx ry h
 obtain⟨p,xs,rfl,hq,fx,fs,q⟩:=h
 cases ry
 rcases hq with hq|hq
 ·obtain⟨its,r,pl,hz⟩:=I.list hq
  refine SeqAt.in_listAt (Jg x) pl.isList (λ w hw=>qK rx fx r fs w (by simpa using hw)) ⟨.bl _,H,I,rfl,?_⟩
  rw[show its.toArray.any (Jg x)=its.any (Jg x) by simp,yX r fs]
  exact q
 ·obtain⟨its,r,pl,hz⟩:=I.tuple hq
  refine SeqAt.in_tupleAt (Jg x) pl (λ w hw=>qK rx fx r fs w (by simpa using hw)) ⟨.bl _,H,I,rfl,?_⟩
  rw[show its.toArray.any (Jg x)=its.any (Jg x) by simp,yX r fs]
  exact q
theorem qq:aQ X (.builtin "len") (λ xs H Q=>∃ p ys,xs=[.ref p]/\(f9 X.K H p ys∨iP X.K H p ys)/\Q (.int ys.length) H):=by
 intro Ä s σ H xs us Q I r h
 obtain⟨p,ys,rfl,hq,q⟩:=h
 obtain⟨u,rfl,rx⟩:=vals1 r
 cases rx
 have hn:=nr
 rcases hq with hq|hq
 ·obtain⟨its,r',pl,hz⟩:=I.list hq
  have hlen:=r'.length
  exact Calls.call_len_list pl.isList (by simp only[Ý]<;>lia) ⟨.int ys.length,H,I.tok _,⟨s.toks+1,by rw[Ý,hlen]⟩,q⟩
 ·obtain⟨its,r',pl,hz⟩:=I.tuple hq
  have hlen:=r'.length
  exact len_tuple pl (by simp only[Ý]<;>lia) ⟨.int ys.length,H,I.tok _,⟨s.toks+1,by rw[Ý,hlen]⟩,q⟩
theorem zd:aQ X (.builtin "len") (λ xs H Q=>∃ z,xs=[.str z]/\z.length<=sizeLine/\Q (.int z.length) H):=by
 intro Ä s σ H xs us Q I r h
 obtain⟨z,rfl,hz,q⟩:=h
 obtain⟨u,rfl,t,rfl⟩:=vals1 r
 have hn:=nr
 exact len_str (by lia) ⟨.int z.length,H,I.tok _,⟨_,rfl⟩,q⟩
theorem ze:aQ X (.type "list") (λ xs H Q=>∃ p ys,xs=[.ref p]/\(f9 X.K H p ys∨iP X.K H p ys)/\∀ l,H l=none->Q (.ref l) (upd H l (.lst ys))):=by
 intro Ä s σ H xs us Q I r h
 obtain⟨p,ys,rfl,hq,q⟩:=h
 obtain⟨u,rfl,rx⟩:=vals1 r
 cases rx
 have fin:∀ (its:Á Ç),Vals ys its->ys.length<=sizeLine->∀ (h':Heap) (c':Nat),(∀ b o',s.heap.get? b=À o'->h'.get? b=À o')->
   h'.get? s.heap.objs.size=À { cls:=.type "list",dict:=none,data:=.seq its.toArray c',slots:=#[] }->EP X Ä σ Q (.ref s.heap.objs.size) { s with heap:=h' }:=λ its r' hz h' c' kp e=>
  ⟨.ref s.heap.objs.size,_,I.laid (t':=s.toks) kp (Î _) (show bf X.prog X.w _ h' _ (.lst ys) from⟨hz,its,c',r',e⟩),rfl,q _ (I.ar.fresh (Î _))⟩
 rcases hq with hq|hq
 ·obtain⟨its,r',pl,hz⟩:=I.list hq
  have hlen:=r'.length
  obtain⟨o,ho,hc,n,hd⟩:=pl.isList
  exact call_list_seq p (.inl rfl) ho hc hd (λ h' c' kp e=>fin its r' hz h' c' kp e) (by simp only[Ý]<;>lia)
 ·obtain⟨its,r',pl,hz⟩:=I.tuple hq
  have hlen:=r'.length
  obtain⟨o,ho,hc,n,hd⟩:=pl
  exact call_list_seq p (.inr rfl) ho hc hd (λ h' c' kp e=>fin its r' hz h' c' kp e) (by simp only[Ý]<;>lia)
theorem xf:aQ X (.type "tuple") (λ xs H Q=>∃ p ys,xs=[.ref p]/\((f9 X.K H p ys/\∀ l,H l=none->Q (.ref l) (upd H l (.tup ys)))∨(iP X.K H p ys/\Q (.ref p) H))):=by
 intro Ä s σ H xs us Q I r h
 obtain⟨p,ys,rfl,h⟩:=h
 obtain⟨u,rfl,rx⟩:=vals1 r
 cases rx
 rcases h with⟨hq,q⟩|⟨hq,q⟩
 ·obtain⟨its,r',pl,hz⟩:=I.list hq
  have hlen:=r'.length
  refine call_tuple_list pl.isList (λ h' kp=>?_) (by simp only[Ý]<;>lia)
  have I1:Inv X Ä σ H { s with heap:=h' }:=I.kept (t':=s.toks) kp
  have I2:Inv X Ä σ (upd H h'.objs.size (.tup ys)) { s with heap:=h'.push { cls:=.type "tuple",data:=.seq its.toArray } }:=
   I1.laid (t':=s.toks) (λ b o e=>Å _ e) (Î _) (show bf X.prog X.w _ _ _ (.tup ys) from⟨hz,its,r',CM _ _⟩)
  exact⟨.ref h'.objs.size,_,I2,rfl,q _ (I1.ar.fresh (Î _))⟩
 ·obtain⟨its,r',pl,hz⟩:=I.tuple hq
  exact call_tuple_same pl ⟨.ref p,H,I,rfl,q⟩
def Zk (K:Ô)(T:String)(x:V)(H:Hp):Prop:=match x with
 | .str _=>T="str"
 | .int _=>T="int"
 | .ref p=>(T="list"/\∃ xs,f9 K H p xs)∨(T="tuple"/\∃ o,K.lookup p=À o/\o.cls=.type "tuple"/\o.dict=none)∨
   (T="dict"/\((∃ kvs,H p=À (.dK kvs))∨∃ kvs,H p=À (.dT kvs)))∨(T="set"/\∃ S n,H p=À (.set S n))
 | _=>False
theorem Ex (I:Inv X Ä σ H s)(r:RelV x v)(ty:Zk X.K T x H) :
  s.TypeIs v T/\∀ a,v=.ref a->∃ ob,s.heap.get? a=À ob/\ob.dict=none:=by
 cases x with
 | str z=>
  obtain⟨t,rfl⟩:=r
  cases (show T="str" from ty)
  exact⟨GC s z t,λ _ e=>nomatch e⟩
 | int i=>
  obtain⟨t,rfl⟩:=r
  cases (show T="int" from ty)
  exact⟨V4 s i t,λ _ e=>nomatch e⟩
 | ref p=>
  cases r
  rcases ty with⟨rfl,xs,hq⟩|⟨rfl,o,hk,hc,hd⟩|⟨rfl,hk⟩|⟨rfl,S,n,hk⟩
  ·obtain⟨its,_,pl,_⟩:=I.list hq
   refine⟨pl.isList.typeIs,λ a e=>?_⟩
   cases e
   obtain⟨o,n,e,c,hd,_⟩:=pl
   exact⟨o,e,hd⟩
  ·refine⟨⟨o,I.yl p o hk,hc⟩,λ a e=>?_⟩
   cases e
   exact⟨o,I.yl _ o hk,hd⟩
  ·have z:∃ o,s.heap.get? p=À o/\o.ExactDict:=by
    rcases hk with⟨kvs,hk⟩|⟨kvs,hk⟩
    ·obtain⟨_,_,_,_,o,_,_,e,ex,_⟩:=I.ar p _ hk
     exact⟨o,e,ex⟩
    ·obtain⟨_,_,_,_,o,_,_,e,ex,_⟩:=I.ar p _ hk
     exact⟨o,e,ex⟩
   obtain⟨o,e,ex⟩:=z
   refine⟨⟨o,e,ex.1⟩,λ a e2=>?_⟩
   cases e2
   exact⟨o,e,ex.2.1⟩
  ·obtain⟨o,_,_,_,e,ex,_⟩:=I.ar p _ hk
   refine⟨⟨o,e,ex.1⟩,λ a e2=>?_⟩
   cases e2
   exact⟨o,e,ex.2.1⟩
 | _=>exact bw ty
def aa5 (K:Ô)(T:String)(r:V->Á V->Hp->VK->Prop)(to:TE):TE:=λ σ H Q=>to σ H λ x H1=>Zk K T x H1/\r x [] H1 Q
def tBM (K:Ô)(T:String)(r:V->Á V->Hp->VK->Prop)(to:TE)(t:TA):TE:=λ σ H Q=>to σ H λ x H1=>Zk K T x H1/\t σ H1 λ xs H2=>r x xs H2 Q
variable {o e:Ů}{es:Á Ů}{to:TE}{t:TA}{name:Str}{lg dD:ki}{T id:String}{r:V->Á V->Hp->VK->Prop}
theorem Kw (pa:wY T)(slot:Slot T name id)(NC:V5 (.builtin id)=pure (.type "method_descriptor")) (hm:GG X id r)(ho:PE X o to)
  (kH:dS o name X.env (Ŝ o X.env)=Ŝ o X.env:=by rfl) (kI:(lg.endLine == dD.line)=true:=by rfl):PE X (.Call (.Attribute o name lg) [] [] dD) (aa5 X.K T r to):=by
 intro Ä s σ H Q I h
 refine wpAny_Call_method0_late kH kI (ak (ho Ä s σ H _ I h) λ v s1 zz=>?_)
 obtain⟨x,H1,I1,r1,ty,q1⟩:=zz
 obtain⟨h1,h2⟩:=Ex I1 r1 ty
 exact⟨T,id,pa,slot,NC,h1,h2,mL rfl (PySem.evalArgs_none (hm Ä s1 σ H1 x [] v [] Q I1 r1 .nil q1))⟩
theorem X2 (pa:wY T)(slot:Slot T name id)(NC:V5 (.builtin id)=pure (.type "method_descriptor")) (hm:GG X id r)(ho:PE X o to)(ha:PA X (e :: es) t)
  (kH:dS o name X.env (Ŝ o X.env)=Ŝ o X.env:=by rfl)
  (DA:((aO dD (à (e :: es) X.env)).all (λ x=>!x.1) && (Gx dD (tU [] X.env)).all (λ x=>x.1.isSome)
   && decide ((e :: es).length+([]:Á k7).length+(if ([]:Á k7).isEmpty then 0 else 1) < 30))=true:=by rfl)
  (kI:(lg.endLine == dD.line)=true:=by rfl) (hs:à (e :: es) X.env=(false,Ŝ e X.env) :: à es X.env:=by rfl) (pL:(aO dD (à es X.env)).any (·.1)=false:=by rfl) :
  PE X (.Call (.Attribute o name lg) (e :: es) [] dD) (tBM X.K T r to t):=by
 intro Ä s σ H Q I h
 refine wpAny_Call_method_late kH DA kI rfl (ak (ho Ä s σ H _ I h) λ v s1 zz=>?_)
 obtain⟨x,H1,I1,r1,ty,q1⟩:=zz
 obtain⟨h1,h2⟩:=Ex I1 r1 ty
 refine⟨T,id,pa,slot,NC,h1,h2,?_⟩
 have hA:=ha dD Ä s1 σ H1 _ I1 q1
 rw[hs]at hA ⊢
 refine mL (by show(false || (aO dD (à es X.env)).any (·.1))=false;rw[pL]<;>rfl) (Gn ?_)
 exact ak hA λ us s2 zz=>kj zz λ vs H2 I2 r2 q2=>hm Ä s2 σ H2 x vs v us Q I2 r1 r2 q2
end
def MtM (X:Cx)(id:String)(r:V->Á V->Hp->VK->Prop):Prop:=
 ∀ (Ä:Á (Addr × Obj)) (s:Ï) (σ:St) (H:Hp) (x:V) (xs:Á V) (v:Ç) (us:Á Ç) (Q:VK),Inv X Ä σ H s->RelV x v->Vals xs us->r x xs H Q->
  ß (á X.prog X.w) X.A (call (.builtin id) (v :: us)) (EP X Ä σ Q) X.xe s
theorem Vals.one:∀ {x:V}{us:Á Ç},Vals [x] us->∃ u,us=[u]/\RelV x u
 | _,_,.cons r .nil=>⟨_,rfl,r⟩
theorem Vals.eraseIdx:∀ {xs:Á V}{us:Á Ç}(i:Nat),Vals xs us->Vals (xs.eraseIdx i) (us.eraseIdx i)
 | _,_,_,.nil=>.nil
 | _,_,0,.cons _ t=>t
 | _,_,i+1,.cons r t=>.cons r (Vals.eraseIdx i t)
theorem Vals.rep (h:Vals xs us):∀ k:Nat,Vals (Ü k xs).flatten (Ü k us).flatten
 | 0=>.nil
 | k+1=>by
  rw[ļ,ļ,ag,ag]
  exact Vals.append h (Vals.rep h k)
theorem yq:∀ (l:Á α)(i:Nat),(l.eraseIdx i).length<=l.length
 | [],_=>Î _
 | _ :: _,0=>abn _
 | _ :: r,i+1=>Q7 (yq r i)
theorem foldl_rep (its:Á Ç):∀ (k:Nat) (þ:Á Ç),
  Mb (λ x1 x2=>x1++x2) þ.toArray (Ü k its.toArray)=(þ++(Ü k its).flatten).toArray
 | 0,þ=>by simp
 | k+1,þ=>by
  have e:þ.toArray++its.toArray=(þ++its).toArray:=by simp
  have e2:(þ++its)++(Ü k its).flatten=þ++(Ü (k+1) its).flatten:=by
   rw[ļ,ag,æ]
  rw[<-e2,<-foldl_rep its k (þ++its),<-e,ļ,xG]
section
variable {X:Cx}{Ä:Á (Addr × Obj)}{σ:St}{H:Hp}{s:Ï}{l b:Addr}{xs ys zs:Á V}
theorem Inv.Xi {its its':Á Ç}{n:Nat}{f:ė Ç->ė Ç}{t':Nat}(I:Inv X Ä σ H s)(hH:H l=À (.lst xs))
  (e:s.heap.get? l=À { cls:=.type "list",data:=.seq its.toArray n }) (hf:f its.toArray=its'.toArray) (hv:Vals ys its') (hz:ys.length<=sizeLine) :
  Inv X Ä σ (upd H l (.lst ys)) { s with heap:=s.heap.update l (ŵ f),toks:=t' }:=by
 have q:=PySem.IsL.update e f
 rw[hf]at q
 refine I.write (x:=l) (e:=l) (by rw[hH];exact trivial) (.inl rfl) (λ b' u hb hu=>(cW s.heap (ŵ f) (bR hb)).trans hu) ⟨_,q⟩ ?_
 exact⟨hz,its',_,hv,q⟩
theorem Inv.J0 (I:Inv X Ä σ H s)(hv:Vals ys its)(hz:ys.length<=sizeLine) :
  Inv X Ä σ (upd H s.heap.objs.size (.lst ys)) { s with heap:=s.heap.push { cls:=.type "list",data:=.seq its.toArray },toks:=t' }:=
 I.laid (λ _ _ q=>Å _ q) (Î _) ⟨hz,its,0,hv,Þ _ rfl⟩
theorem Inv.fresh (I:Inv X Ä σ H s):H s.heap.objs.size=none:=I.ar.fresh (Î _)
theorem Inv.Hj (I:Inv X Ä σ H s)(hH:H l=À (.lst xs)):xs.length<=sizeLine/\∃ (its:Á Ç) (n:Nat),Vals xs its/\xs.length=its.length/\s.heap.get? l=À { cls:=.type "list",data:=.seq its.toArray n }:=by
 obtain⟨z,its,n,r,e⟩:=I.ar l _ hH
 exact⟨z,its,n,r,r.length,e⟩
theorem Ko (h:n<=sizeLine):jf n=false:=by
 unfold jf
 exact ĳ (by lia)
end
section
variable {X:Cx}
def O4:V->Á V->Hp->VK->Prop:=λ x vs H Q=>∃ l xs y,x=.ref l/\vs=[y]/\H l=À (.lst xs)/\xs.length < sizeLine/\Q .ĥ (upd H l (.lst (xs++[y])))
theorem yu:MtM X "list.append" O4:=by
 intro Ä s σ H x vs v us Q I rx rv h
 obtain⟨l,xs,y,rfl,rfl,hH,hz,q⟩:=h
 cases rx
 obtain⟨u,rfl,ru⟩:=rv.one
 obtain⟨z,its,n,r,hl,e⟩:=I.Hj hH
 refine jg F.slot_list_append ⟨_,e,rfl⟩ F.entry_list_append (F.args_list_append_2 _ _) (PySem.list_append l its.toArray n u (by rw[Ý];lia)) ⟨e,?_⟩
 refine⟨.ĥ,_,I.Xi (its':=its++[u]) hH e (by simp) (r.append (.cons ru .nil)) ?_,rfl,q⟩
 rw[õ,List.length_singleton]
 lia
def Uk:V->Á V->Hp->VK->Prop:=λ x vs H Q=>∃ l xs i k y,x=.ref l/\vs=[.int i]/\H l=À (.lst xs)/\-(2 ^ 63)<=i/\i < 2 ^ 63/\Mn i xs.length=À k/\xs[k]? = À y/\Q y (upd H l (.lst (xs.eraseIdx k)))
theorem Kb:MtM X "list.pop" Uk:=by
 intro Ä s σ H x vs v us Q I rx rv h
 obtain⟨l,xs,i,k,y,rfl,rfl,hH,h1,h2,hk,hy,q⟩:=h
 cases rx
 obtain⟨u,rfl,ru⟩:=rv.one
 obtain⟨t,rfl⟩:=ru
 obtain⟨z,its,n,r,hl,e⟩:=I.Hj hH
 obtain⟨w,hw,B9⟩:=r.get hy
 refine jg F.slot_list_pop ⟨_,e,rfl⟩ F.entry_list_pop (F.args_list_pop_2 _ _)
  (MeetsSeq.list_pop_at l its.toArray n i t k w (fitsIndex_both h1 h2) (by rw[Ý,<-hl];exact hk) (by rw[<-ĕ];exact hw) (by rw[Ý];lia)) ⟨e,?_⟩
 refine⟨y,_,I.Xi (its':=its.eraseIdx k) hH e ?_ (r.eraseIdx k) ?_,B9,q⟩
 ·show its.toArray.eraseIdxIfInBounds k=(its.eraseIdx k).toArray
  rw[List.eraseIdxIfInBounds_toArray]
 ·have:=yq xs k
  lia
def aaU:R2:=λ x y H Q=>∃ l b xs zs,x=.ref l/\y=.ref b/\H l=À (.lst xs)/\H b=À (.lst zs)/\xs.length+zs.length<=sizeLine/\∀ p,H p=none->Q (.ref p) (upd H p (.lst (xs++zs)))
theorem TF:fo X (Ŷ .Add) aaU:=by
 intro Ä s σ H x y v u Q I rx ry h
 obtain⟨l,b,xs,zs,rfl,rfl,hH,hB,hz,q⟩:=h
 cases rx
 cases ry
 obtain⟨z,its,n,r,hl,e⟩:=I.Hj hH
 obtain⟨z2,dh,n2,r2,Br,e2⟩:=I.Hj hB
 refine PySem.P.add_list e e2 ?_ (by rw[Ý,Ý];lia)
 have ea:its.toArray++dh.toArray=(its++dh).toArray:=by simp
 rw[ea]
 exact⟨.ref _,_,I.J0 (t':=s.toks) (r.append r2) (by rw[õ];lia),rfl,q _ I.fresh⟩
def aaZ:R2:=λ x y H Q=>∃ l k xs,x=.ref l/\y=.int k/\H l=À (.lst xs)/\-(2 ^ 63)<=k/\k < 2 ^ 63/\xs.length * k.toNat<=sizeLine/\
 ∀ p,H p=none->Q (.ref p) (upd H p (.lst (Ü k.toNat xs).flatten))
theorem len_rep (xs:Á α)(k:Nat):(Ü k xs).flatten.length=k * xs.length:=by
 induction k with
 | zero=>simp
 | succ k ih=>rw[ļ,ag,õ,ih,Zy,Nat.add_comm]
theorem TN:fo X (Ŷ .Mult) aaZ:=by
 intro Ä s σ H x y v u Q I rx ry h
 obtain⟨l,k,xs,rfl,rfl,hH,h1,h2,hz,q⟩:=h
 cases rx
 obtain⟨t,rfl⟩:=ry
 obtain⟨z,its,n,r,hl,e⟩:=I.Hj hH
 have hlen:its.toArray.size * k.toNat<=sizeLine:=by rw[Ý,<-hl];exact hz
 have aao:¬ its.toArray.size * k.toNat > (2 ^ 63 - 1) / 8:=by
  have:(sizeLine:Nat)<=(2 ^ 63 - 1) / 8:=by decide
  lia
 have aaq:¬ (!Builtin.List.listFitsIndex k)=true:=by
  rw[fitsIndex_both h1 h2]
  exact è
 have WN:¬ jf (its.toArray.size * k.toNat)=true:=by
  rw[Ko hlen]
  exact è
 have JD:Mb (λ x1 x2=>x1++x2) #[] (Ü (if its.toArray.isEmpty=true then 0 else k.toNat) its.toArray)=(Ü k.toNat its).flatten.toArray:=by
  have f0:∀ m:Nat,Mb (λ x1 x2=>x1++x2) #[] (Ü m its.toArray)=(Ü m its).flatten.toArray:=λ m=>by
   have:=foldl_rep its m []
   rw[ľ]at this
   exact this
  rw[f0]
  cases its with
  | nil=>simp
  | cons a r'=>rw[Ó (by simp)]
 refine wpAny_binaryOp_repeat_ref (T:="list") (U:="int") (by decide) ⟨_,e,rfl⟩ (λ s'=>V4 s' k t) noFill_list_mul F.fills_int_mul YC repeat_list F.slot_int_index.lookup
  (jg YC (V4 s k t) F.entry_int_rmul (F.args_int_rmul_2 _ _) (int___rmul___int_list k t l its.toArray n)
   ⟨e,rfl,⟨_,e,rfl⟩,jg F.slot_list_mul ⟨_,e,rfl⟩ F.entry_list_mul (F.args_list_mul_2 _ _) (AutoListH.list___mul___list_int_3 l its.toArray n k t aaq aao WN) ⟨e,?_⟩⟩)
 rw[JD]
 exact⟨.ref _,_,I.J0 (t':=s.toks) (r.rep k.toNat) (by rw[len_rep,Nat.mul_comm];exact hz),rfl,q _ I.fresh⟩
end
section
variable {prog:ý}{w:ğ}{A:ō}{E:Ç->Ï->Prop}{s:Ï}
end
section
variable {X:Cx}
end
section
variable {κ:Type} [Ņ κ]
def lU (kvs:Á (κ × V)) (k:κ):Í V:=(kvs.find? λ kv=>decide (kv.1=k)).map (·.2)
def putK (kvs:Á (κ × V)) (k:κ)(v:V):Á (κ × V):=
 if (kvs.any λ kv=>decide (kv.1=k))=true then kvs.map (λ kv=>if kv.1=k then (kv.1,v) else kv) else kvs++[(k,v)]
theorem nP {p:κ × V}{r:Á (κ × V)}{k:κ}(e:p.1=k):lU (p :: r) k=À p.2:=by simp[lU,fz,e]
theorem nO {p:κ × V}{r:Á (κ × V)}{k:κ}(e:¬ p.1=k):lU (p :: r) k=lU r k:=by simp[lU,fz,e]
theorem Cz (k:κ):∀ kvs:Á (κ × V),(kvs.any λ kv=>decide (kv.1=k))=(lU kvs k).isSome
 | []=>rfl
 | p :: r=>by
  rw[cw]
  by_cases e:p.1=k
  ·simp only[nP e,ø e,YB,HW]
  ·rw[nO e,ĳ e,CJ];exact Cz k r
theorem nq (kvs:Á (κ × V)) (k:κ)(v:V):(putK kvs k v).length<=kvs.length+1:=by
 unfold putK
 split
 ·rw[Æ];lia
 ·rw[õ,å,dj];lia
theorem rX.G_ (r:rX o u):o.isSome=u.isSome:=by
 cases o with
 | none=>cases u with
  | none=>rfl
  | some _=>exact(show False from r).elim
 | some _=>cases u with
  | none=>exact(show False from r).elim
  | some _=>rfl
theorem rX.getD (r:rX o u)(rd:RelV d d'):RelV (o.getD d) (u.getD d'):=by
 cases o with
 | none=>cases u with
  | none=>exact rd
  | some _=>exact(show False from r).elim
 | some _=>cases u with
  | none=>exact(show False from r).elim
  | some _=>exact r
theorem KV.val {kvs:Á (κ × V)}{vs:Á (κ × Ç)}(r:KV kvs vs)(k:κ):rX (lU kvs k) (k_ vs k):=by
 unfold KV at r
 induction r with
 | nil=>exact cY
 | @cons p q ps qs h t ih=>
  obtain⟨h1,h2⟩:=h
  by_cases e:p.1=k
  ·have e':q.1=k:=h1.symm.trans e
   have b:k_ (q :: qs) k=À q.2:=by simp[k_,fz,e']
   rw[nP e,b];exact h2
  ·have e':¬ q.1=k:=λ z=>e (h1.trans z)
   have b:k_ (q :: qs) k=k_ qs k:=by simp[k_,fz,e']
   rw[nO e,b];exact ih
theorem KV.any (r:KV kvs vs)(k:κ):(kvs.any λ kv=>decide (kv.1=k))=vs.any λ kv=>decide (kv.1=k):=by
 unfold KV at r
 induction r with
 | nil=>rfl
 | cons h t ih=>rw[cw,cw,ih,h.1]
theorem KV.Uo (r:KV kvs vs)(k:κ)(ry:RelV y u) :
  KV (kvs.map λ kv=>if kv.1=k then (kv.1,y) else kv) (vs.map λ kv=>if kv.1=k then (kv.1,u) else kv):=by
 unfold KV at r ⊢
 induction r with
 | nil=>exact .nil
 | @cons p q ps qs h t ih=>
  rw[È,È]
  refine .cons ?_ ih
  obtain⟨h1,h2⟩:=h
  by_cases e:p.1=k
  ·rw[É e,É (h1.symm.trans e)];exact⟨h1,ry⟩
  ·rw[Ó e,Ó (λ z=>e (h1.trans z))];exact⟨h1,h2⟩
theorem KV.put (r:KV kvs vs)(k:κ)(ry:RelV y u):KV (putK kvs k y) (stored vs k u):=by
 unfold putK stored
 rw[r.any k]
 by_cases e:(vs.any λ kv=>decide (kv.1=k))=true
 ·rw[É e,É e];exact r.Uo k ry
 ·rw[Ó e,Ó e];exact VP r ⟨rfl,ry⟩
theorem KV.length (r:KV kvs vs):kvs.length=vs.length:=qc r
end
theorem By (r:RelV (kV k) u):(Ż P w).is k u=true:=by
 cases k with
 | inl i=>obtain⟨t,e⟩:=(show ∃ t,u=CU i t from r);subst e;exact BH P w i t
 | inr x=>obtain⟨t,e⟩:=(show ∃ t,u=CV x t from r);subst e;exact BI P w x t
theorem yk:∀ {ks:Á Key}{us:Á Ç},Vals (ks.map kV) us->ItemsAre (Ż P w) ks us
 | [],_,r=>by rw[aE]at r;cases r;exact .nil
 | k :: ks,_,r=>by
  rw[È]at r
  cases r with
  | cons h t=>exact .cons (By h) (yk t)
abbrev KT (H:Hp):Á (Á Key × V)->Á (Á Key × Addr × Ç)->Prop:=Paired λ p q=>p.1=q.1/\H q.2.1=À (.tup (p.1.map kV))/\RelV p.2 q.2.2
theorem KT.val {H:Hp}{kvs:Á (Á Key × V)}{xs:Á (Á Key × Addr × Ç)}(r:KT H kvs xs)(k:Á Key):rX (lU kvs k) ((Gw xs k).map (·.2)):=by
 induction r with
 | nil=>exact cY
 | @cons p q ps qs h t ih=>
  obtain⟨h1,_,h2⟩:=h
  by_cases e:p.1=k
  ·have e':q.1=k:=h1.symm.trans e
   have b:Gw (q :: qs) k=À q.2:=by simp[Gw,fz,e']
   rw[nP e,b];exact h2
  ·have e':¬ q.1=k:=λ z=>e (h1.trans z)
   have b:Gw (q :: qs) k=Gw qs k:=by simp[Gw,fz,e']
   rw[nO e,b];exact ih
theorem KT.Uo (r:KT H kvs xs)(k:Á Key)(ry:RelV y u) :
  KT H (kvs.map λ kv=>if kv.1=k then (kv.1,y) else kv) (xs.map (putAt k u)):=by
 induction r with
 | nil=>exact .nil
 | @cons p q ps qs h t ih=>
  rw[È,È]
  refine .cons ?_ ih
  obtain⟨h1,h2,h3⟩:=h
  unfold putAt
  by_cases e:p.1=k
  ·rw[É e,É (h1.symm.trans e)];exact⟨h1,h2,ry⟩
  ·rw[Ó e,Ó (λ z=>e (h1.trans z))];exact⟨h1,h2,h3⟩
theorem KT.put (r:KT H kvs xs)(k:Á Key)(hb:H b=À (.tup (k.map kV))) (ry:RelV y u) :
  KT H (putK kvs k y) (storedH xs k b u):=by
 have e:(kvs.any λ kv=>decide (kv.1=k))=(Gw xs k).isSome:=by
  rw[Cz,(r.val k).G_,Option.isSome_map]
 unfold putK storedH
 rw[e]
 by_cases q:(Gw xs k).isSome=true
 ·rw[É q,É q];exact r.Uo k ry
 ·rw[Ó q,Ó q];exact VP r ⟨rfl,hb,ry⟩
theorem KT.keeps (r:KT H kvs xs)(ht:∀ b ys,H b=À (.tup ys)->H' b=À (.tup ys)):KT H' kvs xs:=
 Paired.S3 r λ _ _ z=>⟨z.1,ht _ _ z.2.1,z.2.2⟩
section
variable {P:ý}{w:ğ}{H:Hp}{h:Heap}{a:Addr}
theorem QP (ok:pf P w H h)(e:Rd H a u):bf P w H h a u:=e.ok ok
theorem Bb (ok:pf P w H h)(e:Rd H a (.dK kvs)):kvs.length<=sizeLine/\(a == br)=false/\∃ vs,KV kvs vs/\h.DictOf (Ż P w) a vs:=
 show bf P w H h a (.dK kvs) from QP ok e
theorem oQ (ok:pf P w H h)(e:H a=À (.dK kvs)):kvs.length<=sizeLine/\(a == br)=false/\∃ vs,KV kvs vs/\h.DictOf (Ż P w) a vs:=Bb ok (.inl e)
theorem zA (ok:pf P w H h)(e:H a=À (.tup (ks.map kV))):(ux (Ż P w)).is h ks a:=by
 obtain⟨_,its,r,o,h1,h2,n,h3⟩:=(show bf P w H h a (.tup (ks.map kV)) from ok a _ e)
 exact⟨o,its.toArray,n,h1,h2,h3,by simpa using yk r⟩
theorem Bd (ok:pf P w H h)(e:Rd H a (.dT kvs)):kvs.length<=sizeLine/\(a == br)=false/\
  ∃ xs,KT H kvs xs/\h.DictOfH (ux (Ż P w)) a xs:=by
 obtain⟨z,y,xs,r,o,es,ep,h1,h2,h3,h4,h5⟩:=(show bf P w H h a (.dT kvs) from QP ok e)
 refine⟨z,y,xs,r,o,es,ep,h1,h2,h3,h4,λ x hx=>?_,h5⟩
 have all:∀ {l:Á (Á Key × V)}{m:Á (Á Key × Addr × Ç)},KT H l m->∀ x∈m,(ux (Ż P w)).is h x.1 x.2.1:=by
  intro l m q
  induction q with
  | nil=>intro x hx;exact nomatch hx
  | @cons p q ps qs hq t ih=>
   intro x hx
   rcases Ò.mp hx with e|hx
   ·subst e
    exact zA ok (by rw[<-hq.1];exact hq.2.1)
   ·exact ih x hx
 exact all r x hx
theorem Wo (ok:pf P w H h)(e:H a=À (.dT kvs)):kvs.length<=sizeLine/\(a == br)=false/\
  ∃ xs,KT H kvs xs/\h.DictOfH (ux (Ż P w)) a xs:=Bd ok (.inl e)
end
def uW (H:Hp)(a:Addr)(y:V)(r:Í V):Prop:=
 (∃ kvs k,Rd H a (.dK kvs)/\y=kV k/\r=lU kvs k)∨∃ kvs k b,Rd H a (.dT kvs)/\y=.ref b/\H b=À (.tup (k.map kV))/\r=lU kvs k
def ID (H:Hp)(a:Addr)(y v:V)(H':Hp):Prop:=
 (∃ kvs k,H a=À (.dK kvs)/\y=kV k/\kvs.length < sizeLine/\H'=upd H a (.dK (putK kvs k v)))∨
 ∃ kvs k b,H a=À (.dT kvs)/\y=.ref b/\H b=À (.tup (k.map kV))/\kvs.length < sizeLine/\H'=upd H a (.dT (putK kvs k v))
theorem uW.k {H:Hp}{a:Addr}{kvs:Á (Key × V)}{k:Key}(e:H a=À (.dK kvs)):uW H a (kV k) (lU kvs k):=.inl ⟨kvs,k,.inl e,rfl,rfl⟩
theorem ID.k {H:Hp}{a:Addr}{kvs:Á (Key × V)}{k:Key}{v:V}(e:H a=À (.dK kvs)) (hl:kvs.length < sizeLine):ID H a (kV k) v (upd H a (.dK (putK kvs k v))):=.inl ⟨kvs,k,e,rfl,hl,rfl⟩
section
variable {X:Cx}{Ä:Á (Addr × Obj)}{σ:St}{H:Hp}{s:Ï}{a:Addr}{y v:V}{u r:Ç}{o:Í V}{A:ō}{E:Ç->Ï->Prop}
theorem Inv.big (I:Inv X Ä σ H s):br < s.heap.objs.size:=by
 have h:ū < s.heap.objs.size:=(I.mod.glob.keeps I.bk).lt
 exact Gq (by decide) h
theorem GN (hu:A.units+1 < cLine)(I:Inv X Ä σ H s)(g:uW H a y (À v)) (ry:RelV y u)(h:∀ w' s',Inv X Ä σ H s'->RelV v w'->Q w' s') :
  ß (á X.prog X.w) A (n5 (.ref a) u) Q E s:=by
 rcases g with⟨kvs,k,e,ey,l⟩|⟨kvs,k,b,e,ey,eb,l⟩
 ·subst ey
  obtain⟨z,hd,vs,rel,dd⟩:=Bb I.ar e
  obtain⟨w',hw,B9⟩:=rX.some_of (v:=v) (o:=k_ vs k) (by rw[l];exact rel.val k)
  exact wpAny_getItem_of (By ry) dd.mapOf hw (h w' _ (I.tok _) B9)
 ·subst ey
  cases (show u=ú b from ry)
  obtain⟨z,hd,xs,rel,dd⟩:=Bd I.ar e
  obtain⟨w',hw,B9⟩:=rX.some_of (v:=v) (o:=(Gw xs k).map (·.2)) (by rw[l];exact rel.val k)
  obtain⟨p,hp,hp2⟩:=Option.map_eq_some_iff.mp hw
  refine wpAny_getItem_heap (xa hu) (zA I.ar eb) dd hp ?_
  rw[hp2]
  exact h w' _ (I.tok _) B9
theorem zi (I:Inv X Ä σ H s)(mu:V8 (H a)) (hs:b_ a s.heap h')(he:∃ q,h'.get? a=À q)(new:bf X.prog X.w (upd H a ob) h' a ob) :
  Inv X Ä σ (upd H a ob) { s with heap:=h',toks:=t' }:=
 I.write (x:=a) (e:=a) mu (.inl rfl) (λ b q hb z=>(hs.2 b hb).trans z) he new
theorem Jb (z:kvs.length<=sizeLine)(hd:(a == br)=false) (rel:KV kvs vs)(dd:h'.DictOf (Ż P w) a vs) :
  bf P w H' h' a (.dK kvs):=⟨z,hd,vs,rel,dd⟩
theorem GO (hu:A.units+1 < cLine)(I:Inv X Ä σ H s)(g:ID H a y v H')(ry:RelV y u)(rv:RelV v r)(h:∀ s',Inv X Ä σ H' s'->Q () s') :
  ß (á X.prog X.w) A (YV (.ref a) u r) Q E s:=by
 rcases g with⟨kvs,k,e,ey,l,eH⟩|⟨kvs,k,b,e,ey,eb,l,eH⟩
 ·subst ey eH
  obtain⟨z,hd,vs,rel,dd⟩:=oQ I.ar e
  have hz:vs.length<=sizeLine:=by rw[<-rel.length];exact z
  have hl:(putK kvs k v).length<=sizeLine:=by have:=nq kvs k v;lia
  refine wpAny_setItem_pairs (hsz:=hz) (By ry) dd λ h' RL hs=>h _ ?_
  have he:∃ q,h'.get? a=À q:=let ⟨q,_,_,hq,_⟩:=RL;⟨q,hq⟩
  exact zi I (by rw[e];exact cY) hs he (Jb hl hd (rel.put k rv) RL)
 ·subst ey eH
  cases (show u=ú b from ry)
  obtain⟨z,hd,xs,rel,dd⟩:=Wo I.ar e
  have hz:xs.length<=sizeLine:=by rw[<-qc rel];exact z
  have hl:(putK kvs k v).length<=sizeLine:=by have:=nq kvs k v;lia
  refine wpAny_setItem_heap (hsz:=hz) (xa hu) (zA I.ar eb) dd λ h' RL hs=>h _ ?_
  obtain⟨q,es,ep,hq,h2,h3,h4,_,h5⟩:=RL
  refine zi I (by rw[e];exact cY) hs ⟨q,hq⟩ ⟨hl,hd,_,(rel.put k eb rv).keeps λ c ys ec=>?_,q,es,ep,hq,h2,h3,h4,h5⟩
  rw[ÿ (qL ec e (λ z=>nomatch z))]
  exact ec
end
section
variable {X:Cx}{Ä:Á (Addr × Obj)}{σ:St}{H:Hp}{s:Ï}{a:Addr}{kvs:Á (Key × V)}{k:Key}{u:Ç}{A:ō}{E:Ç->Ï->Prop}
end
def Rk (i:Ů):Prop:=∀ ov iv,CZ i false ov iv=operate [ov,iv] (n5 ov iv)
theorem Pn {prog:ý}{w:ğ}{A:ō}{E:Ç->Ï->Prop}{s:Ï}{env:ED}{value slice:Ů}{pos:ki}{T id:String}{Q:Ç->Ï->Prop}
  (hl:GD (.type T) "__getitem__"=pure (À (.builtin id))) (hs:Rk slice)
  (h:ß (á prog w) A (Ŝ value env) (λ o s₁=>ß (á prog w) A (Ŝ slice env) (λ i s₂=>s₂.TypeIs o T/\ß (á prog w) A (n5 o i) Q E s₂) E s₁) E s) :
  ß (á prog w) A (Ŝ (.Subscript value slice pos) env) Q E s:=by
 refine V0 (fm h (λ o s₁ h₁=>fm h₁ (λ i s₂ h₂=>?_) λ _ _ x=>x) λ _ _ x=>x)
 obtain⟨hT,h₂⟩:=h₂
 unfold IA
 refine Â ?_
 rw[getitemInPython_of_ne hT.not_modules]
 refine Â (abV hT hl ?_)
 have fin:ß (á prog w) A (CZ slice false o i) (λ r s₃=>ß (á prog w) A (letTemporaryGo value o r >>= λ _=>pure r) Q E s₃) E s₂:=by
  rw[hs o i]
  exact wpAny_operating (fm h₂ (λ r s₃ h₃=>Â (wpAny_letTemporaryGo (Ê h₃))) λ _ _ x=>x)
 first
  | exact Ê (Â fin)
  | exact Â (Ê (Â fin))
  | exact Â fin
theorem A_ (I:Inv X Ä σ H s)(g:uW H a y o):s.TypeIs (.ref a) "dict":=by
 rcases g with⟨kvs,k,e,_,_⟩|⟨kvs,k,b,e,_,_,_⟩
 ·obtain⟨_,_,vs,_,dd⟩:=Bb I.ar e
  exact dd.typeIs
 ·obtain⟨_,_,xs,_,dd⟩:=Bd I.ar e
  exact dd.typeIs
def Yp (td ty:TE):TE:=λ σ H Q=>td σ H λ x H1=>ty σ H1 λ y H2=>∃ a v,x=.ref a/\uW H2 a y (À v)/\Q v H2
def Yi (td ty tv:TE):TS:=λ D σ H=>tv σ H λ v H1=>td σ H1 λ x H2=>ty σ H2 λ y H3=>∃ a H4,x=.ref a/\ID H3 a y v H4/\D.nx σ H4
section
variable {X:Cx}{o i e value:Ů}{pos pos' Ct:ki}{td ty tv:TE}
theorem OD (hu:X.A.units+1 < cLine)(ho:PE X o td)(hi:PE X i ty)(hs:Rk i):PE X (.Subscript o i pos) (Yp td ty):=by
 intro Ä s σ H Q I h
 refine Pn PySem.F.slot_dict_getitem.lookup hs (ak (ho Ä s σ H _ I h) λ u s1 zz=>kj zz λ x H1 I1 rx q1=>ak (hi Ä s1 σ H1 _ I1 q1) λ iv s2 ⟨y,H2,I2,ry,a,v,ex,g,q2⟩=>?_)
 subst ex
 obtain rfl:u=ú a:=rx
 exact⟨A_ I2 g,GN hu I2 g ry λ w' s3 I3 B9=>⟨v,H2,I3,B9,q2⟩⟩
theorem OU (hu:X.A.units+1 < cLine)(ho:PE X o td)(hi:PE X i ty)(hv:PE X value tv)(hs:fA value (À (.Subscript o i pos')) pos.line X.env=pure false) :
  PS X (.Assign [.Subscript o i pos'] value pos) (Yi td ty tv):=by
 intro Ä s σ H D I h
 refine wpAny_Assign_Subscript (ak (hv Ä s σ H _ I h) λ r s1 zz=>kj zz λ v H1 I1 rv q1=>ak (ho Ä s1 σ H1 _ I1 q1) λ u s2 zz=>kj zz λ x H2 I2 rx q2=>ak (hi Ä s2 σ H2 _ I2 q2) λ iv s3 ⟨y,H3,I3,ry,a,H4,ex,g,q3⟩=>?_) hs
 subst ex
 obtain rfl:u=ú a:=rx
 exact GO hu I3 g ry rv λ s4 I4=>⟨σ,H4,I4,q3⟩
end
theorem Ba (h:Heap)(hb:br < h.objs.size):bf P w H (h.push { cls:=.type "dict",data:=.dict #[] }) h.objs.size (.dK []):=
 ⟨Ă _,kY.mpr (bR (Ć hb)),[],.nil,ab2 h⟩
def UD:TE:=λ _ H Q=>∀ p,H p=none->Q (.ref p) (upd H p (.dK []))
section
variable {X:Cx}{pos:ki}
theorem KC:PE X (.Dict [] [] pos) UD:=λ Ä s σ H Q I h=>
 wpAny_Dict_empty ⟨.ref s.heap.objs.size,_,I.laid (a:=s.heap.objs.size) (o:=.dK []) (t':=s.toks) (λ _ _ q=>Å _ q) (Î _) (Ba s.heap I.big),rfl,h _ (I.ar.fresh (Î _))⟩
end
def zW:Á (TE × TE)->St->Hp->(Á (V × V)->Hp->Prop)->Prop
 | [],_,H,Q=>Q [] H
 | (tk,tv) :: r,σ,H,Q=>tk σ H λ x H1=>tv σ H1 λ y H2=>zW r σ H2 λ ps H3=>Q ((x,y) :: ps) H3
abbrev VV:Á (V × V)->Á (Ç × Ç)->Prop:=Paired λ p q=>RelV p.1 q.1/\RelV p.2 q.2
def Qc (X:Cx)(pos:ki)(keys:Á (Í Ů)) (values:Á Ů)(UK:Á (TE × TE)):Prop:=
 ∀ (Ä:Á (Addr × Obj)) (s:Ï) (σ:St) (H:Hp) (Q:Á (V × V)->Hp->Prop),Inv X Ä σ H s->zW UK σ H Q->
  ß (á X.prog X.w) X.A (evalPairs (pairTrees keys values X.env pos)) (λ vs s'=>∃ ps H',Inv X Ä σ H' s'/\VV ps vs/\Q ps H') X.xe s
theorem OQ:Qc X pos [] [] []:=λ Ä s σ H Q I h=>pairTrees_nil_walk ⟨[],H,I,.nil,h⟩
theorem KR (hk:PE X k tk)(hv:PE X v tv)(hr:Qc X pos ks vs UK) :
  Qc X pos (À k :: ks) (v :: vs) ((tk,tv) :: UK):=λ Ä s σ H Q I h=>
 pairTrees_cons_walk (ak (hk Ä s σ H _ I h) λ u s1 zz=>kj zz λ x H1 I1 rx q1=>ak (hv Ä s1 σ H1 _ I1 q1) λ w2 s2 zz=>kj zz λ y H2 I2 ry q2=>
  ak (hr Ä s2 σ H2 _ I2 q2) λ ws s3 zz=>kj zz λ ps H3 I3 rel q3=>⟨(x,y) :: ps,H3,I3,.cons ⟨rx,ry⟩ rel,q3⟩)
def gz (kvs more:Á (Key × V)):Á (Key × V):=more.foldl (λ þ kv=>putK þ kv.1 kv.2) kvs
theorem KV.merge:∀ {more:Á (Key × V)}{rs:Á (Key × Ç)}{kvs:Á (Key × V)}{vs:Á (Key × Ç)},KV more rs->KV kvs vs->KV (gz kvs more) (merged vs rs):=by
 intro more rs kvs vs r
 unfold KV at r
 induction r generalizing kvs vs with
 | nil=>intro q;exact q
 | @cons p q ps qs h t ih=>
  intro r0
  have e:KV (putK kvs p.1 p.2) (stored vs q.1 q.2):=by
   have:=r0.put p.1 h.2
   rw[<-h.1];exact this
  exact ih e
theorem oT:∀ (more kvs:Á (Key × V)),(gz kvs more).length<=kvs.length+more.length
 | [],kvs=>by show kvs.length<=kvs.length+0;lia
 | p :: r,kvs=>by
  have h1:=oT r (putK kvs p.1 p.2)
  have h2:=nq kvs p.1 p.2
  show(gz (putK kvs p.1 p.2) r).length<=_
  rw[å];lia
theorem u7:∀ {kvs:Á (Key × V)}{ws:Á (Ç × Ç)},VV (kvs.map λ kv=>(kV kv.1,kv.2)) ws->∃ rs,Carries (Ż P w) ws rs/\KV kvs rs
 | [],_,r=>by rw[aE]at r;cases r;exact⟨[],cY,.nil⟩
 | p :: kvs,_,r=>by
  rw[È]at r
  cases r with
  | @cons a b as bs h t=>
   obtain⟨rs,c,q⟩:=u7 (P:=P) (w:=w) t
   obtain⟨b1,b2⟩:=b
   exact⟨(p.1,b2) :: rs,⟨By h.1,rfl,c⟩,.cons ⟨rfl,h.2⟩ q⟩
def Yq (UK:Á (TE × TE)):TE:=λ σ H Q=>∀ p,H p=none->zW UK σ (upd H p (.dK [])) λ ps H2=>H2 p=À (.dK [])/\∃ kvs:Á (Key × V),ps=kvs.map (λ kv=>(kV kv.1,kv.2))/\kvs.length<=15/\Q (.ref p) (upd H2 p (.dK (gz [] kvs)))
theorem OE (h:Qc X pos keys values UK)(Jx:keys.all (·.isSome)=true) (hl:keys.length=values.length)(h0:keys≠[])
  (h15:keys.length<=15):PE X (.Dict keys values pos) (Yq UK):=by
 intro Ä s σ H Q I q
 have hn:=I.ar.fresh (Î s.heap.objs.size)
 have I1:=I.laid (a:=s.heap.objs.size) (o:=.dK []) (h':=s.heap.push { cls:=.type "dict",data:=.dict #[] }) (t':=s.toks) (λ _ _ q=>Å _ q) (Î _) (Ba s.heap I.big)
 refine wpAny_Dict_walk (knd:=Ż X.prog X.w) Jx hl h0 h15 (ak (h Ä _ σ _ _ I1 (q _ hn)) λ ws s2 zz=>?_)
 obtain⟨ps,H2,I2,rel,e,kvs,ep,lk,q2⟩:=zz
 subst ep
 obtain⟨rs,c,rk⟩:=u7 (P:=X.prog) (w:=X.w) rel
 obtain⟨z,hd,vs0,r0,dd⟩:=oQ I2.ar e
 cases r0
 refine⟨rs,c,dd,λ h' RL hs=>⟨.ref s.heap.objs.size,_,?_,rfl,q2⟩⟩
 have hz:(gz [] kvs).length<=sizeLine:=by
  have h1:=oT kvs []
  rw[dj]at h1
  rw[bP];lia
 have he:∃ q,h'.get? s.heap.objs.size=À q:=let ⟨q,_,_,hq,_⟩:=RL;⟨q,hq⟩
 exact zi I2 (by rw[e];exact cY) hs he (Jb hz hd (rk.merge .nil) RL)
structure M2 (X:Cx)(o:Ů)(m:Str)(lg:ki)(e f:Ů)(dD:ki):Prop where
 base:dS o m X.env (Ŝ o X.env)=Ŝ o X.env
 few:((aO dD (à [e,f] X.env)).all (λ x=>!x.1) && (Gx dD (tU [] X.env)).all (λ x=>x.1.isSome)
  && decide (([e,f]:Á Ů).length+([]:Á k7).length+(if ([]:Á k7).isEmpty then 0 else 1) < 30))=true
 line:(lg.endLine == dD.line)=true
 trees:aO dD (à [e,f] X.env)=[(false,Ŝ e X.env),(false,Ŝ f X.env)]
def ZR (H:Hp)(a:Addr):Prop:=(∃ kvs,Rd H a (.dK kvs))∨∃ kvs,Rd H a (.dT kvs)
theorem SE (I:Inv X Ä σ H s)(d:ZR H a) :
  s.TypeIs (.ref a) "dict"/\(∀ b,ú a=.ref b->∃ ob,s.heap.get? b=À ob/\ob.dict=none)/\(a == br)=false:=by
 rcases d with⟨kvs,e⟩|⟨kvs,e⟩
 ·obtain⟨_,hd,vs,_,dd⟩:=Bb I.ar e
  refine⟨dd.typeIs,λ b q=>?_,hd⟩
  cases q
  obtain⟨ob,_,_,h1,h2,_⟩:=dd
  exact⟨ob,h1,h2.2.1⟩
 ·obtain⟨_,hd,xs,_,dd⟩:=Bd I.ar e
  refine⟨dd.typeIs,λ b q=>?_,hd⟩
  cases q
  obtain⟨ob,_,_,h1,h2,_⟩:=dd
  exact⟨ob,h1,h2.2.1⟩
section
variable {X:Cx}{Ä:Á (Addr × Obj)}{σ:St}{H:Hp}{s:Ï}{a:Addr}{y d:V}{u r:Ç}{o:Í V}{A:ō}{E:Ç->Ï->Prop}
theorem RK (hu:A.units+1 < cLine)(I:Inv X Ä σ H s)(g:uW H a y o)(ry:RelV y u)(rd:RelV d r)(h:∀ w' s',Inv X Ä σ H s'->RelV (o.getD d) w'->Q w' s') :
  ß (á X.prog X.w) A (call (.builtin "dict.get") [.ref a,u,r]) Q E s:=by
 rcases g with⟨kvs,k,e,ey,l⟩|⟨kvs,k,b,e,ey,eb,l⟩
 ·subst ey
  obtain⟨z,hd,vs,rel,dd⟩:=Bb I.ar e
  refine yR mP dd.typeIs AH (Ai _ _ _) (meets_dict_get_default (Ż X.prog X.w) a (By ry) hd r) ⟨_,dd.mapOf,h _ _ (I.tok _) ?_⟩
  rw[l]
  exact(rel.val k).getD rd
 ·subst ey
  cases (show u=ú b from ry)
  obtain⟨z,hd,xs,rel,dd⟩:=Bd I.ar e
  refine yR mP dd.typeIs AH (Ai _ _ _) (meetsH_dict_get_default (ux (Ż X.prog X.w)) a b hd r) ⟨xa hu,k,xs,zA I.ar eb,dd,h _ _ (I.tok _) ?_⟩
  rw[l]
  exact(rel.val k).getD rd
end
def UC (td ty tx:TE):TE:=λ σ H Q=>td σ H λ x H1=>∃ a,x=.ref a/\ZR H1 a/\ty σ H1 λ y H2=>tx σ H2 λ z H3=>∃ o,uW H3 a y o/\Q (o.getD z) H3
section
variable {X:Cx}{o e f:Ů}{lg dD:ki}{td ty tx:TE}
theorem KA (hu:X.A.units+1 < cLine)(ho:PE X o td)(he:PE X e ty)(hf:PE X f tx)(m:M2 X o "get" lg e f dD):PE X (.Call (.Attribute o "get" lg) [e,f] [] dD) (UC td ty tx):=by
 intro Ä s σ H Q I h
 refine wpAny_Call_method m.base m.few m.line k8 mP PySem.F.type_dict_get (ak (ho Ä s σ H _ I h) λ u s1 zz=>?_)
 obtain⟨x,H1,I1,rx,a,ex,d,q1⟩:=zz
 subst ex
 obtain rfl:u=ú a:=rx
 obtain⟨t1,t2,_⟩:=SE I1 d
 refine⟨t1,t2,?_⟩
 rw[m.trees]
 refine mL rfl (Gn (rN (ak (he Ä s1 σ H1 _ I1 q1) λ iv s2 zz=>kj zz λ y H2 I2 ry q2=>
  rN (ak (hf Ä s2 σ H2 _ I2 q2) λ fv s3 ⟨z,H3,I3,rz,ov,g,q3⟩=>L7 ?_))))
 exact RK hu I3 g ry rz λ w' s4 I4 B9=>⟨_,H3,I4,B9,q3⟩
end
section
variable {X:Cx}{Ä:Á (Addr × Obj)}{σ:St}{H:Hp}{s:Ï}{a:Addr}{kvs:Á (Key × V)}{A:ō}{E:Ç->Ï->Prop}
end
section
variable {X:Cx}{Ä:Á (Addr × Obj)}{σ:St}{H:Hp}{s:Ï}{a:Addr}{y:V}{u:Ç}{A:ō}{E:Ç->Ï->Prop}
end
end L2
namespace Att
open PySem PySem.W PySem.Calls PyProof.Rows
theorem ue:∀ (ns:Á Int)(vs:Á Ç),WellAll P h vs (ns.map abO)->qa vs ns:=by
 intro ns
 induction ns with
 | nil=>
  intro vs w
  rw[aE]at w
  cases w
  exact .nil
 | cons n ns ih=>
  intro vs w
  rw[È]at w
  cases w with
  | cons a b=>
   cases a
   exact .cons _ _ (ih _ b)
theorem HI {l:OpenLaw}{n:Nat}(hn:l.most=À n){P:Params}{h:Heap}{args:Á WData}{vals:Á Ç}
  (Nx:l.row.toRowW.claim.pre args=true) (Y':WellAll P h vals args) :
  ∃ a vs ns,vals=[ú a]/\args=[WData.list (ns.map abO)]/\h.get? a=À { cls:=.type "list",data:=.seq vs.toArray }/\qa vs ns/\ns.length<=n:=by
 have hsh:WShape.hasAll [] args [.list .int]=true:=(pre_splitW Nx).1
 have hc:l.pre.holds [] { args:=args }=true:=(pre_splitW Nx).2
 obtain⟨d,r,rfl,h1,h2⟩:=hasAllW_cons hsh
 obtain rfl:=hasAllW_nil h2
 obtain⟨xs,rfl,h3⟩:=hasW_list h1
 obtain⟨ns,rfl⟩:=items_int h3
 have hlen:ns.length<=n:=by
  unfold OpenLaw.pre at hc
  have h4:(WTm.not (.lt (.lit (.int (n:Int))) (.len (.arg 0)))).holds [] { args:=[.list (ns.map .int)] }=true:=by
   have h4:=(holds_andW hc).1
   rw[hn]at h4
   exact h4
  have h5:=condW_of h4 (w_not (w_lt w_lit (w_len_list (w_arg rfl))))
  rw[Æ]at h5
  refine wX λ q=>?_
  have q':(n:Int) < ((ns.length:Nat):Int):=by lia
  first
   | (rw[ø q']at h5;exact absurd h5 (by decide))
   | (simp at h5;lia)
 cases Y' with
 | cons w1 w2=>
  cases w2
  cases w1 with
  | list ho Jx=>exact⟨_,_,ns,rfl,rfl,ho,ue ns _ Jx,hlen⟩
theorem HC (l:OpenLaw)(args:Á WData):l.row.toRowW.claim.post args (.bool true) args=true:=
 postW_of (r:=l.row.toRowW) (X:=(true == true))
  (show YR [] (.bool true) .bool=true by first|rfl|decide|simp[YR,WShape.arms,WShape.armsAll])
  (show(WTm.eq .res (.lit (.bool true))).value [] { args:=args,res:=À (.bool true),after:=args }=À (.bool (true == true)) from w_eq_bool (w_res rfl) w_lit) rfl
theorem AW {l:OpenLaw}{n:Nat}{q:ý}{loose:Á Str}{XP:(Str->Í Ç)->Heap->Prop}{YP:ğ->Heap->Prop}{d:DefRec}
  (hn:l.most=À n) (WK:d.params.defaults=[])
  (call:∀ (w:ğ) (i' s₁:Ï) (mg mb:Str->Í Ç) (fa:Addr) (o:Obj) (pm cd doc:Ç) (a:Addr) (vs:Á Ç) (ns:Á Int),
   Ground q loose [] XP w i' mg mb s₁.heap->YP w s₁.heap->
   s₁.heap.get? fa=À o->o.data=.func (docDef d.name d.params d.body d.scope pm cd doc)->s₁.heap.CodeRec cd d.name->mg d.name=À (.ref fa)->
   s₁.heap.get? a=À { cls:=.type "list",data:=.seq vs.toArray }->qa vs ns->ns.length<=n->s₁.gens=#[]->
   gK (á l.prog w) uu (.call (.ref fa) ⟨[.ref a],[]⟩) (λ r s'=>r=.ok (.ret (.bool true))/\OldK s₁.heap s'.heap/\s'.os=s₁.os/\p9 s'.gens) s₁) :
  WalkO q loose XP YP l.row.toRowW d [] (λ f vs=>Iv f vs):=by
 intro w i' s₁ mg mb G Y fa o pm cd doc dV kV ho hd Ie hD WO hg args vals as Nx ab7 hrd Y' hlo
 obtain rfl:dV=.none:=Dflts.none hD WK
 obtain rfl:kV=.none:=Dflts.noKw hD
 obtain⟨a,vs,ns,rfl,rfl,Sm,hints,hlen⟩:=HI hn Nx Y'
 refine enter_call (qe (call w i' s₁ mg mb fa o pm cd doc a vs ns G Y ho (fd_plain hd) Ie WO Sm hints hlen hg) λ r s' hq=>?_)
 obtain⟨rfl,h2,h3,h4⟩:=hq
 exact⟨.inl ⟨.bool true,.bool true,[],rfl,λ _=>rfl,.bool true,HC l _,λ _=>⟨ot,λ _ hm=>(nomatch hm)⟩⟩,h2,h3,h4⟩
section
variable {prog:ý}{w:ğ}{A:ō}{E:Ç->Ï->Prop}{s:Ï}{K:Frag}
end
end Att
namespace L2
open PySem PySem.Spec PyProof.Rows
theorem yG:∀ {vs:Á Ç}{ns:Á Int},qa vs ns->Vals (ns.map V.int) vs
 | _,_,.nil=>.nil
 | _,_,.cons n t h=>.cons ⟨t,rfl⟩ (yG h)
def MZ (H:Hp):Prop:=∀ b,H b=none∨∃ o xs,H b=À (.yc o (.lst xs))
theorem JY {P:ý}{w:ğ}{K:Ô}{mg mb:Str->Í Ç}{CX:IC}{k:Nat}{fa a:Addr}{fd:dI}{x:Str}{sp:Sp}{s₁:Ï}{vs:Á Ç}{ns:Á Int}
  (KX:K.In s₁.heap) (Y9:s₁.heap.Ns ū mg) (hb:s₁.heap.Ns mq mb) (hbb:∀ x:Str,x≠"__name__"->mb x=č x) (aas:s₁.heap.NoLimit) (hdg:s₁.heap.NoDigits) (hbm:∃ bm ob,mg "__builtins__"=À (.ref bm)/\bm≠mq/\s₁.heap.get? bm=À ob/\ob.cls=.type "module"/\ob.dict=À mq/\ob.data=.plain) (hg:s₁.gens=#[])
  (ha:s₁.heap.get? a=À { cls:=.type "list",data:=.seq vs.toArray }) (hi:qa vs ns) (hl:ns.length<=sizeLine) (hr:iJ k uu)
  (F:∀ base:Heap,K.In base->base.Ns ū mg->oA P w K mg base CX k fa fd [x] sp) (WH:∀ (s:Ï) (u:Ç),ui s fd ⟨[u],[]⟩ [(x,u)])
  (Qz:∀ H:Hp,MZ H->f9 K H a (ns.map V.int)->sp [.ref a] H (λ v _=>v=.bl true) λ _ _ _=>False)
  (hCX:∀ H e s',CX [] H s₁ (λ _ _ _=>False) e s'->False) :
  gK (á P w) uu (.call (.ref fa) ⟨[.ref a],[]⟩) (λ r s'=>r=.ok (.ret (.bool true))/\OldK s₁.heap s'.heap/\s'.os=s₁.os/\p9 s'.gens) s₁:=by
 have rv:=yG hi
 have lenV:=hi.length
 have core:∀ H:Hp,MZ H->f9 K H a (ns.map V.int)->pf P w H s₁.heap->(∀ b,H b≠none->b=a)->(H a≠none->K.lookup a=none)->
   gK (á P w) uu (.call (.ref fa) ⟨[.ref a],[]⟩) (λ r s'=>r=.ok (.ret (.bool true))/\OldK s₁.heap s'.heap/\s'.os=s₁.os/\p9 s'.gens) s₁:=by
  intro H hO hS ar hA hK
  have base_of:∀ {b:Addr}{o:Obj},s₁.heap.get? b=À o->H b=none->(zp s₁.heap H).get? b=À o:=λ e n=>JA e n
  have noA:∀ {b:Addr}{o:Obj}{es:ė L8}{ep:Nat},s₁.heap.get? b=À o->o.data=.dict es ep->H b=none:=λ {b o es ep} e d=>by
   cases q:H b with
   | none=>rfl
   | some u=>
    have e':b=a:=hA b (by rw[q];simp)
    subst e'
    rw[ha]at e;cases e
    have d':Data.seq vs.toArray _=Data.dict es ep:=d
    cases d'
  have nsK:∀ {b:Addr}{m:Str->Í Ç},s₁.heap.Ns b m->(zp s₁.heap H).Ns b m:=λ {b m} ⟨o,es,ep,e,d,r⟩=>⟨o,es,ep,base_of e (noA e d),d,r⟩
  have hKb:K.In (zp s₁.heap H):=λ b o e=>base_of (KX b o e) (by
   cases q:H b with
   | none=>rfl
   | some u=>
    have e':b=a:=hA b (by rw[q];simp)
    subst e'
    rw[hK (by rw[q];simp)]at e;cases e)
  have hM:Mod K mg (zp s₁.heap H):=⟨hKb,nsK Y9,⟨mb,nsK hb,hbb⟩,let ⟨mc,h1,h2⟩:=aas;⟨mc,nsK h1,h2⟩,let ⟨mc,h1,h2⟩:=hdg;⟨mc,nsK h1,h2⟩,
   let ⟨bm,ob,b1,b2,b3,b4,b5,b6⟩:=hbm;⟨bm,ob,b1,b2,base_of b3 (by
    cases q:H bm with
    | none=>rfl
    | some u=>
     have e':bm=a:=hA bm (by rw[q];simp)
     subst e'
     rw[ha]at b3;cases b3;cases b6),b4,b5,b6⟩⟩
  have e0:MW P w K mg (zp s₁.heap H) uu [] s₁ H:=⟨rfl,hM,λ b o e=>Oi e,eO (GZ _ _),trivial,λ b hb=>absurd (show b∈([]:Á Addr) from hb) (by simp),ar,.of_eq hg⟩
  refine qe ((F _ hKb (nsK Y9)).run uu [] s₁ H ⟨[.ref a],[]⟩ [.ref a] [.ref a] _ _ hr e0 (WH s₁ (.ref a)) (.cons rfl .nil) (Qz H hO hS)) λ r s' h=>?_
  cases r with
  | error e=>exact(hCX H e s' h).elim
  | ok fl=>
   cases fl with
   | next=>exact bw h
   | brk=>exact bw h
   | cont=>exact bw h
   | ret u=>
    obtain⟨v,H',os,bare,un,aau,r',q⟩:=h
    have q':v=.bl true:=q
    subst q'
    obtain rfl:u=yQ true:=r'
    refine⟨rfl,OldK.of_keep λ b o e=>?_,os,bare⟩
    cases q:H b with
    | none=>exact un.keep b o e q (by intro z;exact absurd (show b∈([]:Á Addr) from z) (by simp)) (by simp)
    | some u=>
     rcases hO b with z|⟨ob,xs,z⟩
     ·rw[q]at z;cases z
     ·have z2:=un.jZ b ob _ z
      obtain⟨e1,_⟩:=ar b _ z
      obtain⟨e2,_⟩:=aau b _ z2
      rw[e]at e1;cases e1
      exact e2
 cases hk:K.lookup a with
 | some o=>
  have e:=KX a o hk
  rw[ha]at e
  cases e
  refine core (λ _=>none) (λ _=>.inl rfl) (.inr ⟨_,vs.toArray,_,hk,rfl,rfl,rfl,by rw[Ý,lenV];exact hl,by simpa using rv⟩) (λ b u z=>by have z':(none:Í HO)=À u:=z;cases z') (λ b z=>absurd rfl z) λ z=>absurd rfl z
 | none=>
  refine core (λ b=>if b=a then À (.yc { cls:=.type "list",data:=.seq vs.toArray } (.lst (ns.map V.int))) else none) (λ b=>?_) (.inl (.inr ⟨{ cls:=.type "list",data:=.seq vs.toArray },É rfl⟩)) (λ b u z=>?_) (λ b z=>?_) λ _=>hk
  ·by_cases hb:b=a
   ·exact .inr ⟨_,_,É hb⟩
   ·exact .inl (Ó hb)
  ·by_cases hb:b=a
   ·have z':=(É hb).symm.trans z
    cases z'
    subst hb
    exact⟨ha,by rw[Æ];exact hl,vs,_,rv,ha⟩
   ·have z':=(Ó hb).symm.trans z
    cases z'
  ·by_cases hb:b=a
   ·exact hb
   ·exact absurd (Ó hb) z
theorem PM {l:mH}{n k:Nat}{q:ý}{loose:Á Str}{XP:(Str->Í Ç)->Heap->Prop}{YP:ğ->Heap->Prop}{d:DefRec}{K:Params->Ô}{CX:ğ->IC}{sp:ğ->Sp}{x:Str}
  (hn:l.most=À n) (Sj:n<=sizeLine) (WK:d.params.defaults=[]) (hr:iJ k uu)
  (hY:∀ (w:ğ) (h:Heap),YP w h->(K w.params).In h)
  (F:∀ (w:ğ) (mg:Str->Í Ç) (fa:Addr) (h:Heap),(K w.params).In h->h.Ns ū mg->mg d.name=À (.ref fa)->
   ∃ fd:dI,(∀ (s:Ï) (u:Ç),ui s fd ⟨[u],[]⟩ [(x,u)])/\
    ∀ base:Heap,(K w.params).In base->base.Ns ū mg->oA l.prog w (K w.params) mg base (CX w) k fa fd [x] (sp w))
  (Qz:∀ (w:ğ) (H:Hp) (a:Addr) (ns:Á Int),ns.length<=n->MZ H->f9 (K w.params) H a (ns.map V.int)->sp w [.ref a] H (λ v _=>v=.bl true) λ _ _ _=>False)
  (hCX:∀ (w:ğ) (H:Hp) (s:Ï) (e:Ç) (s':Ï),CX w [] H s (λ _ _ _=>False) e s'->False) :
  P8 q loose XP YP l.row.toRowW d [] (λ f vs=>Iv f vs):=by
 refine Att.AW hn WK λ w i' s₁ mg mb fa o pm cd doc a vs ns G Y ho hd Ie WO Sm hints hlen hg=>?_
 have KX:=hY w _ Y
 obtain⟨fd,hb,hF⟩:=F w mg fa _ KX G.T.g WO
 exact JY KX G.T.g G.T.b G.T.builtins G.T.nolimit G.T.nodigits G.T.bmain hg Sm hints (ā hlen Sj) hr hF hb (λ H hO hS=>Qz w H a ns hlen hO hS) λ H e s'=>hCX w H s₁ e s'
def jz (s:Stmt):Arguments:=match s with
 | .FunctionDef _ a _ _ _ _ _ _ _ _=>a
 | _=>{ posonlyargs:=[],args:=[],vararg:=none,kwonlyargs:=[],kw_defaults:=[],kwarg:=none,defaults:=[] }
def fE (s:Stmt):Á Stmt:=match s with
 | .FunctionDef _ _ b _ _ _ _ _ _ _=>b
 | _=>[]
def ai (s:Stmt):Scope:=match s with
 | .FunctionDef _ _ _ _ _ _ sc _ _ _=>sc
 | _=>{ kind:=.function,names:=[],isGenerator:=false,isCoroutine:=false }
abbrev C0:IC:=λ _ _ _ _ _ _=>False
abbrev E0:XK:=λ _ _ _=>False
theorem X0:Passes C0 X E0:=λ _ _ _ _ _ _ _ h=>h.elim
structure Mo (K:Ô)(x qual:Str)(st:Stmt)(f:Addr)(fd:dI):Prop where
 ex:∃ (oc:Ç) (od:Í Addr) (kV doc pm:Ç) (an:Í Addr) (ji ct:Ç) (Ku:ė (Í Ç)),
  fd=bS x qual (jz st) (fE st) (ai st) .none kV doc pm an ji ct/\K.lookup f=À ⟨oc,od,.func fd,Ku⟩/\oy K ji qual=true
 kp:fV K (.ref f)=true
section
variable {P:ý}{w:ğ}{K:Ô}{mg:Str->Í Ç}{base:Heap}
theorem Mo.ok {x qual:Str}{st:Stmt}{f:Addr}{fd:dI}{N ps:Á Str}{k:Nat}{sp:Sp}(F:Mo K x qual st f fd)(S:la N ps (ai st)) (len:∀ vs H Q E,sp vs H Q E->vs.length=ps.length)
  (Jy:∀ (ji:Ç) (A:ō) (outer:Á ED) (s:Ï) (H:Hp) (vs:Á V) (Q:VK) (E:XK),iJ k (A.deeper (w8 qual (ai st) s.heap.objs.size f ji))->sp vs H Q E->
   ∃ t,p5 (A8 C0 P w K mg base N qual (ai st) f ji A outer s H E).VF (fE st) t/\t { nx:=λ _ H'=>Q .ĥ H',rt:=Q } (start N vs) H):oA P w K mg base C0 (k+1) f fd ps sp:=by
 obtain⟨oc,od,kV,doc,pm,an,ji,ct,Ku,rfl,lk,Ie⟩:=F.ex
 refine Wv lk Ie S len λ A outer s H vs Q E hr Qz=>?_
 obtain⟨t,h,q⟩:=Jy ji A outer s H vs Q E hr Qz
 exact⟨t,h.VF,q⟩
theorem Mo.binds {x qual:Str}{st:Stmt}{f:Addr}{fd:dI}{ps:Á Str}(F:Mo K x qual st f fd)
  (h:∀ (kV doc pm:Ç) (an:Í Addr) (ji ct:Ç) (us:Á Ç),us.length=ps.length->Ra (bS x qual (jz st) (fE st) (ai st) .none kV doc pm an ji ct) ⟨us,[]⟩=pure (ps.zip us)):Binds K fd ps []:=by
 obtain⟨oc,od,kV,doc,pm,an,ji,ct,Ku,rfl,lk,Ie⟩:=F.ex
 exact .all (h kV doc pm an ji ct)
theorem Sa {x qual:Str}{st:Stmt}{f:Addr}{oc:Ç}{od an:Í Addr}{Ku:ė (Í Ç)}{kV doc pm ji ct:Ç}(l:K.lookup f=À ⟨oc,od,.func (bS x qual (jz st) (fE st) (ai st) .none kV doc pm an ji ct),Ku⟩)
  (c:oy K ji qual=true) (k:fV K (.ref f)=true):Mo K x qual st f (bS x qual (jz st) (fE st) (ai st) .none kV doc pm an ji ct):=⟨⟨oc,od,kV,doc,pm,an,ji,ct,Ku,rfl,l,c⟩,k⟩
end
theorem WX (hr:iJ k A):A.units+1 < cLine:=kA (Nat.add_le_add_left (by decide:1<=64) _) hr.units
theorem Ş (h:n<=1000):n < sizeLine:=kA h (by decide)
section
variable {X:Cx}
theorem pv (i:Nat)(hN:X.N[i]? = À x:=by rfl)(hv:ZX X.env.scope x:=by first|exact HX rfl|exact P5 (HX rfl)|exact P5 (P5 rfl)) (hd:(x == ("__debug__":Str))=false:=by decide)
  (Ie:(x == ("__classdict__":Str))=false:=by decide):PE X (.Name x pos) (UE i):=T5 hN hv hd Ie
end
section
variable {κ:Type} [Ņ κ]
end
end L2
set_option maxHeartbeats 4000000
namespace L2
open PySem PySem.Spec PyProof.Rows
def jt (X:Cx)(scope:Scope):Á (Str × Í Nat)->Prop
 | []=>True
 | (_,none) :: r=>jt X scope r
 | (x,À j) :: r=>(X.N[j]? = À x/\scope.names.lookup x=À .free/\(X.env.kindOf x=À .cell∨X.env.kindOf x=À .free))/\jt X scope r
def xx (l:Á (Str × Í Nat)) (σ:St):St:=l.map λ p=>p.2.bind λ j=>(σ[j]?).join
theorem jt.get:∀ {l:Á (Str × Í Nat)},jt X scope l->∀ {i:Nat}{x:Str}{j:Nat},l[i]? = À (x,À j)->
  X.N[j]? = À x/\scope.names.lookup x=À .free/\(X.env.kindOf x=À .cell∨X.env.kindOf x=À .free)
 | [],_,i,x,j,e=>by simp at e
 | (y,none) :: r,h,0,x,j,e=>by simp at e
 | (y,none) :: r,h,i+1,x,j,e=>jt.get (l:=r) h (i:=i) (by simpa using e)
 | (y,À k) :: r,h,0,x,j,e=>by
  simp at e
  obtain⟨rfl,rfl⟩:=e
  exact h.1
 | (y,À k) :: r,h,i+1,x,j,e=>jt.get (l:=r) h.2 (i:=i) (by simpa using e)
theorem pA (env:ED):∀ (names:Á (Str × iE)) (Qi:Á (Str × Addr)),(∀ x∈names,x.2=.free->∃ c,env.cells.lookup x.1=À c)->
  ∃ cl,(forIn names Qi (λ(x:Str × iE) (cs:Á (Str × Addr))=>(if x.2 == .free then do let a <-cellOf env x.1;pure (bB ((x.1,a) :: cs)) else pure (bB cs):YN (ForInStep (Á (Str × Addr))))))=pure cl/\
   (∀ y c,cl.lookup y=À c->env.cells.lookup y=À c∨Qi.lookup y=À c)/\(∀ x∈names,x.2=.free->∃ c,cl.lookup x.1=À c )/\(∀ y,(∃ c,Qi.lookup y=À c)->∃ c,cl.lookup y=À c)
 | [],Qi,h=>⟨Qi,rfl,λ _ _ e=>.inr e,λ _ hx=>(nomatch hx),λ _ e=>e⟩
 | (n,k) :: r,Qi,h=>by
  by_cases hk:k=.free
  ·subst hk
   obtain⟨c,ec⟩:=h (n,.free) Ġ rfl
   obtain⟨cl,e1,e2,e3,e4⟩:=pA env r ((n,c) :: Qi) λ x hx=>h x (Ċ _ hx)
   have hc:cellOf env n=pure c:=by
    unfold cellOf
    have RT:env.cells.lookup n=À c:=ec
    rw[RT]
   have own:∃ c',cl.lookup n=À c':=e4 n ⟨c,by simp[Ń]⟩
   refine⟨cl,?_,λ y d e=>?_,λ x hx hf=>?_,λ y ⟨d,e⟩=>?_⟩
   ·rw[ou]
    simp only[o7,aT,hc,pure_bind]
    exact e1
   ·rcases e2 y d e with z|z
    ·exact .inl z
    ·rw[Ń]at z
     split at z
     ·rename_i hy
      have:y=n:=by simpa using hy
      subst this
      cases z
      exact .inl ec
     ·exact .inr z
   ·rcases Ò.mp hx with rfl|hx
    ·exact own
    ·exact e3 x hx hf
   ·refine e4 y ?_
    rw[Ń]
    split
    ·exact⟨_,rfl⟩
    ·exact⟨d,e⟩
  ·obtain⟨cl,e1,e2,e3,e4⟩:=pA env r Qi λ x hx=>h x (Ċ _ hx)
   have hb:(k == ŏ)=false:=by simpa using hk
   refine⟨cl,?_,e2,λ x hx hf=>?_,e4⟩
   ·rw[ou]
    simp only[hb,ą,aa,pure_bind]
    exact e1
   ·rcases Ò.mp hx with rfl|hx
    ·exact absurd hf hk
    ·exact e3 x hx hf
theorem ee (h:∀ x∈scope.names,x.2=.free->∃ c,env.cells.lookup x.1=À c) :
  ∃ cl,V2 scope env=pure cl/\(∀ y c,cl.lookup y=À c->env.cells.lookup y=À c)/\∀ x∈scope.names,x.2=.free->∃ c,cl.lookup x.1=À c:=by
 obtain⟨cl,e1,e2,e3,_⟩:=pA env scope.names [] h
 refine⟨cl,?_,λ y c e=>(e2 y c e).elim id λ z=>by simp at z,e3⟩
 unfold V2
 have GP:=e1
 simp only[bind_pure_comp]at GP ⊢
 first
  | (rw[GP];rfl)
  | (simp only[GP];rfl)
  | (simpa using GP)
theorem iB {env:ED}:∀ {names:Á (Str × iE)}{x:Str},names.lookup x=À .free->
    ((names.map λ(n,k)=>if (k == ŏ && env.scope.kind == .function && env.kindOf n == À .cell) then (n,b7) else (n,k)).lookup x=À .cell∨
     (names.map λ(n,k)=>if (k == ŏ && env.scope.kind == .function && env.kindOf n == À .cell) then (n,b7) else (n,k)).lookup x=À .free)
  | [],_,h=>by simp at h
  | (n,k) :: r,x,h=>by
    have ih:=@iB env r x
    show Zx x ((if (k == ŏ && env.scope.kind == .function && env.kindOf n == À .cell)=true then (n,b7) else (n,k)) :: _)=_∨Zx x ((if (k == ŏ && env.scope.kind == .function && env.kindOf n == À .cell)=true then (n,b7) else (n,k)) :: _)=_
    cases hx:x == n with
    | true=>
      simp only[Ń,hx]at h
      cases h
      by_cases hc:(ŏ == ŏ && env.scope.kind == .function && env.kindOf n == À .cell)=true
      · rw[É hc];left;simp[Ń,hx]
      · rw[Ó hc];right;simp[Ń,hx]
    | false=>
      simp only[Ń,hx]at h
      by_cases hc:(k == ŏ && env.scope.kind == .function && env.kindOf n == À .cell)=true
      · rw[É hc];simp only[Ń,hx];exact ih h
      · rw[Ó hc];simp only[Ń,hx];exact ih h
theorem qW {env:ED}{x:Str}:∀ {names:Á (Str × iE)},
    ((names.map λ(n,k)=>if (k == ŏ && env.scope.kind == .function && env.kindOf n == À .cell) then (n,b7) else (n,k)).lookup x=À .cell∨
     (names.map λ(n,k)=>if (k == ŏ && env.scope.kind == .function && env.kindOf n == À .cell) then (n,b7) else (n,k)).lookup x=À .free)->(x,ŏ)∈names∨names.lookup x=À .cell
  | [],h=>by simp at h
  | (n,k) :: r,h=>by
    have ih:=@qW env x r
    simp only[È]at h
    by_cases hb:(k == ŏ && env.scope.kind == .function && env.kindOf n == À .cell)=true
    · rw[É hb]at h
      have hkf:k=.free:=by
        have:=(Ÿ.mp (Ÿ.mp hb).1).1
        simpa using this
      by_cases hx:x=n
      · rw[hx,hkf];exact .inl Ġ
      · have NF:(x == n)=false:=by simpa using hx
        simp only[Ń,NF]at h ⊢
        exact(ih h).imp (Ċ _) id
    · rw[Ó hb]at h
      by_cases hx:x=n
      · have NF:(x == n)=true:=by simpa using hx
        simp only[Ń,NF]at h ⊢
        rcases h with h|h
        · exact .inr h
        · rw[hx,ă h];exact .inl Ġ
      · have NF:(x == n)=false:=by simpa using hx
        simp only[Ń,NF]at h ⊢
        exact(ih h).imp (Ċ _) id
theorem jV:∀ (names:Á (Str × iE)) (n:Nat)(þ more:Á (Str × Addr)),bT n names (þ++more)=bT n names þ++more
 | [],_,_,_=>rfl
 | (x,k) :: r,n,þ,more=>by
  unfold bT
  split
  ·exact jV r (n+1) ((x,n) :: þ) more
  ·exact jV r n þ more
theorem jW:∀ (names:Á (Str × iE)) (n:Nat)(þ:Á (Str × Addr)) (x:Str)(c:Addr),(x,c)∈bT n names þ->(x,b7)∈names∨(x,c)∈þ
 | [],_,_,_,_,h=>.inr h
 | (y,k) :: r,n,þ,x,c,h=>by
  unfold bT at h
  split at h
  ·rename_i hk
   have hk:k=.cell:=by simpa using hk
   rcases jW r _ _ x c h with z|z
   ·exact .inl (Ċ _ z)
   ·rcases Ò.mp z with z|z
    ·cases z;rw[hk];exact .inl Ġ
    ·exact .inr z
  ·exact(jW r _ _ x c h).imp (Ċ _) id
theorem oF 
  (hQ:Q (newEnv scope s.heap.objs.size globals (bT (s.heap.objs.size+1) scope.names closure) qual none .none (À outer) 0) { s with heap:=Ml (s.heap.push { cls:=.type "dict",data:=.dict #[] }) scope.names }) :
  ß M A (mr scope globals closure [] qual none .none (À outer)) Q E s:=by
 simp only[mr,HW,aT]
 refine Â (wpAny_alloc ?_)
 refine Â (wpAny_layCells _ (λ name kind cells=>by cases hkc:kind == b7<;>simp[hkc]) _ _ _ _ ?_)
 rw[show({ s with heap:=s.heap.push { cls:=.type "dict",data:=.dict #[] } }:Ï).heap.objs.size=s.heap.objs.size+1 from ş ..]
 exact Â (Ê (Ê hQ))
def Ą (X:Cx)(l:Á (Str × Í Nat)) (scope:Scope)(cl:Á (Str × Addr)) (C:Addr)(fp:Á Addr)(s3:Ï)(H3:Hp):Cx:=
 { X with N:=l.map (·.1),i':=s3,C_:=H3,env:=Rc scope cl C X.env,outer:=X.stack,ex:=fp,fn:=λ x=>scope.names.lookup x == À .cell,pn:=[],xe:=λ _ _=>False }
def xc (X:Cx)(ifs:Á Ů)(t:TT):Prop:=
 ∀ (Ä:Á (Addr × Obj)) (s:Ï) (σ:St) (H:Hp) (Q:Bool->Hp->Prop),Inv X Ä σ H s->t σ H Q->
  ß (á X.prog X.w) X.A (forIn ifs true λ c r=>if r=true then do let ok <-Gz c X.env (Ŝ c X.env);pure (bB ok) else pure (bB r)) (TP X Ä σ Q) X.xe s
def abe:TT:=λ _ H Q=>Q true H
theorem OL:xc X [] abe:=λ _ _ _ H _ I h=>wpAny_tests_nil ⟨H,I,h⟩
theorem OM (h:PT X c t):xc X [c] t:=λ Ä s σ H Q I hw=>wpAny_tests_one (h Ä s σ H Q I hw)
def Dc (e tg:Ů)(ifs:Á Ů)(p:ki)(d:Nat)(body:Ç->ED->YN Unit):Prop:=
 ∀ it þ env,compTurn e d it þ env=(uw p >>= λ _=>iI it >>= λ r=>match r with
  | none=>pure (.done .next)
  | some v=>kC tg it v >>= λ _=>gX tg env v >>= λ _=>(forIn ifs true λ c r=>if r=true then do let ok <-Gz c env (Ŝ c env);pure (bB ok) else pure (bB r)) >>= λ ok=>
   if ok=true then body þ env >>= λ _=>again (.compLoop e d it þ env) else again (.compLoop e d it þ env))
def MX (e:Ů):Prop:=(∃ a b c d,e=.ListComp a b c d)∨∃ a b c d,e=.SetComp a b c d
theorem qt (hn:MX e)(ht:Dc e tg ifs p d body)(I:Nat->Ï->Prop)
  (turn:∀ n s,I n s->ß (á prog w) A (iI it) (λ r s₁=>match r with
   | none=>R (.ok .next) s₁
   | some v=>ß (á prog w) A (kC tg it v) (λ _ s₁'=>ß (á prog w) A (gX tg env v) (λ _ s₂=>
     ß (á prog w) A (forIn ifs true λ c r=>if r=true then do let ok <-Gz c env (Ŝ c env);pure (bB ok) else pure (bB r)) (λ ok s₃=>
      if ok=true then ß (á prog w) A (body þ env) (λ _ s₅=>∃ m,m < n/\I m s₅) (λ _ _=>False) s₃
      else ∃ m,m < n/\I m s₃) (λ _ _=>False) s₂) (λ _ _=>False) s₁') (λ _ _=>False) s₁) (λ _ _=>False) s)
  (n:Nat) (h:I n s) :
  gK (á prog w) A (.compLoop e d it þ env) R s:=by
 have no:∀ {α:Type}{t:YN α}{Q:α->Ï->Prop}{E:Ç->Ï->Prop}{s:Ï},ß (á prog w) A t Q (λ _ _=>False) s->ß (á prog w) A t Q E s:=λ h=>fm h (λ _ _ q=>q) λ _ _ f=>f.elim
 refine codeAny_loop rfl I (λ n s hI=>?_) n h
 have hd:(á prog w).den (.compLoop e d it þ env)=(compTurn e d it þ env).onRaise (λ x=>do noteFrame x env;theTreesLotGoes x):=by rcases hn with⟨_,_,_,_,rfl⟩|⟨_,_,_,_,rfl⟩<;>rfl
 have hu:A.under (.compLoop e d it þ env)=A:=by rcases hn with⟨_,_,_,_,rfl⟩|⟨_,_,_,_,rfl⟩<;>rfl
 rw[hd,hu]
 refine wpAny_noted ?_
 rw[ht]
 refine Â (dU (Â (ak (no (turn n s hI)) (λ r s₁ h₁=>?_))))
 cases r with
 | none=>exact Ê h₁
 | some v=>
  refine Â (ak (no h₁) λ _ s1' Mu=>?_)
  refine Â (ak (no Mu) (λ _ s₂ h₂=>Â (ak (no h₂) (λ ok s₃ h₃=>?_))))
  cases ok with
  | false=>exact Ê ⟨rfl,h₃⟩
  | true=>exact Â (ak (no h₃) (λ _ s₅ h₅=>Ê ⟨rfl,h₅⟩))
theorem oP (hn:MX e)(hg:(ZL e)[d]? = À gc) (ha:gc.is_async=0)
  (h0:gK (á prog w) A (.compLoop e d it þ env) R s)
  (h:ß (á prog w) A (GA it) (λ it' s'=>gK (á prog w) A (.compLoop e d it' þ env) R s') (λ _ _=>False) s) :
  gK (á prog w) A (.compStart e d it þ env) R s:=by
 refine codeAny_of_tree ?_
 have hd:(á prog w).den (.compStart e d it þ env)=(compStart e d it þ env).onRaise (λ x=>do noteFrame x env;uw theWindowsPlace):=by rcases hn with⟨_,_,_,_,rfl⟩|⟨_,_,_,_,rfl⟩<;>rfl
 have hu:A.under (.compStart e d it þ env)=A:=by rcases hn with⟨_,_,_,_,rfl⟩|⟨_,_,_,_,rfl⟩<;>rfl
 rw[hd,hu]
 refine wpAny_notedAt ?_
 unfold compStart
 rw[hg]
 have e1:(À gc).elim false (λ x=>x.is_async != 0)=false:=by show(gc.is_async != 0)=false;rw[ha];rfl
 rw[e1]
 show ß _ _ (ask >>= _) _ _ s
 refine Â (c8 (wpAny_ite ?_))
 split
 ·first
   | exact Â (Ê (Ê (QZ rfl h0)))
   | exact Ê (QZ rfl h0)
 ·exact Â (b9 (Â (dU (Â (fm h (λ it' s' h'=>Ê (QZ rfl h')) λ _ _ x=>x.elim)))))
def Qa (l:Á (Str × Í Nat)) (g:TG)(tt:TT)(te:TE)(J:It)(σ:St)(H1:Hp)(Q:Addr->Hp->Prop):Prop:=
 ∀ D,H1 D=none->∃ W:Nat->Nat->Á V->St->Hp->Prop,(∃ m,W 0 m [] (xx l σ) (upd H1 D (.lst [])))/\∀ i m ys uh H2,W i m ys uh H2->
  (J.stop i H2/\Q D H2)∨(J.go i H2/\∀ x H3,J.HV i H2 x H3->g x uh H3 λ mF H4=>tt mF H4 λ b H5=>
   if b=true then te mF H5 λ v H6=>H6 D=À (.lst ys)/\ys.length < sizeLine/\∃ m',m' < m/\W (i+1) m' (ys++[v]) mF (upd H6 D (.lst (ys++[v]))) else ∃ m',m' < m/\W (i+1) m' ys mF H5)
def UB (l:Á (Str × Í Nat)) (wi:TI)(g:TG)(tt:TT)(te:TE)(σ:St)(H:Hp)(Q:Addr->Hp->Prop):Prop:=
 wi σ H λ J H1=>Qa l g tt te J σ H1 Q
theorem vc {α:Type}{X:Cx}{ifs:Á Ů}{scope:Scope}{cl:Á (Str × Addr)}{l:Á (Str × Í Nat)}{g:TG}{tt:TT}{body:Ç->ED->YN Unit}{gc:Comprehension} 
  (hn:MX e) (JH:Dc e tg ifs p 0 body) (hgc:(ZL e)[0]? = À gc) (has:gc.is_async=0)
  (zo:∀ y c,cl.lookup y=À c->X.env.cells.lookup y=À c) (Nt:∀ x∈scope.names,x.2=.free->∃ c,cl.lookup x.1=À c)
  (Bq:scope.kind=.function) (ye:∀ y∈scope.names,y.2=.cell->scope.names.lookup y.1=À .cell) (cA:X.calm=true) (Sr:jt X scope l)
  (hg:∀ cl C fp s3 H3,PG (Ą X l scope cl C fp s3 H3) tg g) (ht:∀ cl C fp s3 H3,xc (Ą X l scope cl C fp s3 H3) ifs tt)
  {Ä:Á (Addr × Obj)}{σ:St}{s3:Ï}{fp:Á Addr}{tn:Nat->Heap->Prop}{J:It}{Q:Hp->Prop}{RR:Addr->VX->Ï->Prop}{E:Ç->Ï->Prop}
  {W:Nat->Nat->α->St->Hp->Prop}{B:Nat->Nat->α->St->Hp->Prop}{y0:α}
  (hb:∀ cl C fp s3 H3 Ä s i m ys σ H,Inv (Ą X l scope cl C fp s3 H3) Ä σ H s->B i m ys σ H->
   ß (á X.prog X.w) X.A (body (.ref D) (Rc scope cl C X.env)) (λ _ s'=>∃ m' xA aD H',m' < m/\Inv (Ą X l scope cl C fp s3 H3) Ä aD H' s'/\W (i+1) m' xA aD H') (λ _ _=>False) s)
  (I3:Inv X Ä σ H3 s3) (T:Turn X.prog X.w X.K tg J fp it tn) (Lm:tn 0 s3.heap) (vE:∀ b∈fp,o_ X Ä H3 b)
  (w0:W 0 m0 y0 (xx l σ) H3)
  (turn:∀ i m ys uh H2,W i m ys uh H2->(J.stop i H2/\Q H2)∨(J.go i H2/\∀ x H3,J.HV i H2 x H3->g x uh H3 λ mF H4=>tt mF H4 λ b H5=>if b=true then B i m ys mF H5 else ∃ m',m' < m/\W (i+1) m' ys mF H5))
  (WB:∀ C (s':Ï) (H':Hp),Q H'->(∃ m,s'.heap.Ns C m)->Inv X Ä σ H' s'->o_ X Ä H' C->RR C (.ok .next) s') :
  ß (á X.prog X.w) X.A (mr scope X.env.globals cl [] X.env.qual none .none (À X.env)) (λ A7 s₄=>
   gK (á X.prog X.w) X.A (.compStart e 0 (.ref it) (.ref D) { A7 with scope:=YU scope X.env }) (RR A7.locals) s₄) E s3:=by
 refine oF ?_
 have eC:(newEnv scope s3.heap.objs.size X.env.globals (bT (s3.heap.objs.size+1) scope.names cl) X.env.qual none ē (À X.env) 0).locals=s3.heap.objs.size:=rfl
 have Z_:=cellsFrom_ok scope.names (s3.heap.push { cls:=.type "dict",data:=.dict #[] }) (s3.heap.objs.size+1) [] ⟨λ _ _ hm=>(nomatch hm),ot⟩ (by rw[ş];exact Î _)
 rw[ş]at Z_
 have ecs:bT (s3.heap.objs.size+1) scope.names cl=bT (s3.heap.objs.size+1) scope.names []++cl:=jV scope.names _ [] cl
 have Y9:(Ml (s3.heap.push { cls:=.type "dict",data:=.dict #[] }) scope.names).Ns s3.heap.objs.size (λ _=>none):=(Heap.Ns.new s3.heap (.type "dict")).keeps (abT _ _)
 have old:∀ b o,s3.heap.get? b=À o->(Ml (s3.heap.push { cls:=.type "dict",data:=.dict #[] }) scope.names).get? b=À o:=λ b o e=>abT _ _ b o (Å _ e)
 rw[ecs]at *
 have ownN:∀ x c,(bT (s3.heap.objs.size+1) scope.names []).lookup x=À c->scope.names.lookup x=À .cell:=λ x c e=>by
  rcases jW _ _ _ _ _ (mem_of_lookup e) with z|z
  ·exact ye _ z rfl
  ·exact nomatch z
 have ownS:∀ x,scope.names.lookup x=À .cell->∃ c,(bT (s3.heap.objs.size+1) scope.names []).lookup x=À c:=λ x e=>Af.mp (mn scope.names _ [] (.inl e))
 generalize ab8:bT (s3.heap.objs.size+1) scope.names []=own at *
 generalize hh4:Ml (s3.heap.push { cls:=.type "dict",data:=.dict #[] }) scope.names=h4 at *
 generalize hC:s3.heap.objs.size=C at *
 have eE:({ newEnv scope C X.env.globals (own++cl) X.env.qual none ē (À X.env) 0 with scope:=YU scope X.env }:ED)=Rc scope (own++cl) C X.env:=rfl
 have cs_of:∀ x c,(own++cl).lookup x=À c->(own.lookup x=À c/\h4.IsCell c none/\C+1<=c)∨(own.lookup x=none/\cl.lookup x=À c):=λ x c e=>by
  rw[sR]at e
  cases q:own.lookup x with
  | none=>rw[q]at e;exact .inr ⟨rfl,e⟩
  | some d=>rw[q]at e;cases e;exact .inl ⟨rfl,Z_.empty x c (mem_of_lookup q)⟩
 have of_cl:∀ x c,scope.names.lookup x≠À .cell->cl.lookup x=À c->(own++cl).lookup x=À c:=λ x c n e=>by
  rw[sR]
  cases q:own.lookup x with
  | none=>exact e
  | some d=>exact(n (ownN x d q)).elim
 have cltC:∀ y c,cl.lookup y=À c->c < C:=λ y c e=>by
  obtain⟨v,q⟩:=I3.cell y c (zo y c e)
  have:=q.lt
  rw[hC]at this
  exact this
 have fpC:∀ b∈fp,b≠C:=λ b hb z=>by
  obtain⟨o,ho,_⟩:=T.obj _ _ Lm b hb
  exact absurd (Ú ho) (by rw[z,hC];exact ŉ _)
 have cellC:∀ y c,(own++cl).lookup y=À c->c≠C:=λ y c e z=>by
  rcases cs_of y c e with⟨_,_,q⟩|⟨_,q⟩
  ·rw[z]at q;exact absurd q (Nat.not_succ_le_self _)
  ·exact absurd (cltC y c q) (by rw[z];exact ŉ _)
 have fpB:∀ b∈fp,b < C:=λ b hb=>by
  obtain⟨o,ho,_⟩:=T.obj _ _ Lm b hb
  rw[<-hC];exact Ú ho
 have fpCs:∀ b∈fp,∀ x c,(own++cl).lookup x=À c->c≠b:=λ b hb x c e z=>by
  rcases cs_of x c e with⟨_,_,q⟩|⟨_,q⟩
  ·rw[z]at q;exact absurd (ö (fpB b hb) (uS q)) (ŉ _)
  ·exact(vE b hb).2.2.2.2.1 x c (zo x c q) z
 have H3C:H3 C=none:=by
  have:=I3.fresh
  rw[hC]at this
  exact this
 have OK:(Ą X l scope (own++cl) C fp s3 H3).Ok:={
  mod:=I3.ok.mod
  kind:=Bq
  glob:=I3.ok.glob
  blt:=I3.ok.blt
  above:=eO hC
  inj:=λ x y c e1 e2=>by
   rcases cs_of x c e1 with⟨p1,_,p3⟩|⟨_,p1⟩<;>rcases cs_of y c e2 with⟨q1,_,q3⟩|⟨_,q1⟩
   ·exact name_of_addr Z_.apart (mem_of_lookup p1) (mem_of_lookup q1)
   ·exact absurd (cltC y c q1) (AF.mpr (uS p3))
   ·exact absurd (cltC x c p1) (AF.mpr (uS q3))
   ·exact I3.ok.inj x y c (zo x c p1) (zo y c q1)
  has:=λ x hx=>by
   show ∃ c,(own++cl).lookup x=À c
   rw[sR]
   cases q:own.lookup x with
   | some d=>exact⟨d,rfl⟩
   | none=>
    rcases qW hx with z|z
    ·obtain⟨c,e⟩:=Nt (x,.free) z rfl
     exact⟨c,e⟩
    ·obtain⟨c,e⟩:=ownS x z
     rw[q]at e;cases e
  U4:=λ x c hf e=>by
   have hf:(scope.names.lookup x == À b7)=true:=hf
   have hf:scope.names.lookup x=À .cell:=by simpa using hf
   obtain⟨d,ed⟩:=ownS x hf
   rcases cs_of x c e with⟨_,_,q⟩|⟨q,_⟩
   ·show s3.heap.objs.size<=c
    rw[hC];lia
   ·rw[q]at ed;cases ed
  hd:=I3.ok.hd
  frames:=I3.ok.frames
  Yk:=.inl rfl
  exf:=λ b hb=>⟨fpC b hb,fpCs b hb⟩
  bs:=λ b o e=>I3.bs b o e
  M8:=ā I3.ok.M8 I3.sz
  Hm:=λ b o e hb=>by
   rcases(vE b hb).2.2.2.1 with z|z
   ·exact I3.ok.Hm b o e z
   ·exact absurd (ö (Ú e) (ā I3.ok.M8 z)) (ŉ _)
  GR:=λ b hb hz=>by
   rcases Ò.mp (I3.Ei b hz) with z|z
   ·exact(vE b hb).2.1 z
   ·exact(vE b hb).2.2.1 z
  ud:=I3.stack
  R':=I3.F7 }
 have fpX:∀ {H':Hp},(∀ b∈fp,H' b=none)->∀ b∈fp,o_ (Ą X l scope (own++cl) C fp s3 H3) [] H' b:=λ hn b hb=>
  ⟨hn b hb,fpC b hb,OK.GR b hb,.inl hb,fpCs b hb,λ p hp=>nomatch hp⟩
 have I4:Inv (Ą X l scope (own++cl) C fp s3 H3) [] (xx l σ) H3 { s3 with heap:=h4 }:={
  ok:=OK
  os:=rfl
  bare:=I3.bare
  base:=Un.kept old
  loc:=by
   refine⟨_,Y9,λ i x v e1 e2 e3=>?_⟩
   have GP:(l.map (·.1))[i]? = À x:=e1
   have RN:(l.map λ p=>p.2.bind λ j=>(σ[j]?).join)[i]? = À (À v):=e2
   rw[ò]at GP RN
   cases el:l[i]? with
   | none=>rw[el]at GP;cases GP
   | some p=>
    rw[el]at GP RN
    obtain⟨y,o⟩:=p
    have aad:y=x:=ă GP
    subst aad
    cases o with
    | none=>cases RN
    | some j=>
     have Ni:(σ[j]?).join=À v:=ă RN
     have ej:σ[j]? = À (À v):=by
      cases q:σ[j]? with
      | none=>rw[q]at Ni;cases Ni
      | some z=>rw[q]at Ni;exact Ě À Ni
     obtain⟨k1,k2,k3⟩:=Sr.get el
     obtain⟨m,hn,hl⟩:=I3.loc
     obtain⟨u,r,lk⟩:=hl j y v k1 ej (k3.elim (λ z=>.inr (.inl z)) λ z=>.inr (.inr z))
     refine⟨u,r,.inr ⟨iB k2,?_⟩⟩
     rcases lk with⟨z,_⟩|⟨_,c,ec,Sg⟩
     ·rcases k3 with k3|k3<;>(rw[z]at k3;cases k3)
     ·have hm:(y,ŏ)∈scope.names:=by
       have:∀ {names:Á (Str × iE)},names.lookup y=À ŏ->(y,ŏ)∈names:=by
        intro names
        induction names with
        | nil=>intro h;simp at h
        | cons q r ih=>
         intro h
         obtain⟨n,k⟩:=q
         rw[Ń]at h
         split at h
         ·rename_i hy
          have:y=n:=by simpa using hy
          subst this
          cases h
          exact Ġ
         ·exact Ċ _ (ih h)
       exact this k2
      obtain⟨c',RT⟩:=Nt _ hm rfl
      have:c'=c:=by
       have:=zo _ _ RT
       rw[ec]at this
       exact(ă this).symm
      subst this
      obtain⟨o,ho,hd⟩:=Sg
      exact⟨c',of_cl _ _ (by rw[k2];intro z;cases z) RT,o,old _ _ ho,hd⟩
  cell:=λ x c e=>by
   rcases cs_of x c e with⟨_,q,_⟩|⟨_,q⟩
   ·exact⟨none,q⟩
   ·obtain⟨v,o,ho,hd⟩:=I3.cell x c (zo x c q)
    exact⟨v,o,old _ _ ho,hd⟩
  free:=H3C
  l_:=λ x c e=>by
   rcases cs_of x c e with⟨_,_,q⟩|⟨_,q⟩
   ·exact I3.ar.fresh (by rw[hC];lia)
   ·exact I3.l_ x c (zo x c q)
  pin:=λ p hp=>nomatch hp
  ar:=I3.ar.kept old
  len:=by show(List.map _ l).length=(List.map _ l).length;rw[Æ,Æ] }
 have st4:tn 0 h4:=T.keep _ _ _ Lm λ b _ o e=>old b o e
 have loop:∀ s4:Ï,s4={ s3 with heap:=h4 }->
   gK (á X.prog X.w) X.A (.compLoop e 0 (.ref it) (.ref D) (Rc scope (own++cl) C X.env)) (RR C) s4:=by
  rintro s4 rfl
  refine qt hn JH (λ n s'=>∃ i ys aD H',Inv (Ą X l scope (own++cl) C fp s3 H3) [] aD H' s'/\tn i s'.heap/\(∀ b∈fp,H' b=none)/\W i n ys aD H') ?_ m0
   ⟨0,y0,xx l σ,H3,I4,st4,λ b hb=>(vE b hb).1,w0⟩
  rintro n s5 ⟨i,ys,Zo,H5,I5,Mz,Vx,w5⟩
  rcases turn i n ys Zo H5 w5 with⟨stop,q⟩|⟨go,step⟩
  ·refine ak (T.done (Ą X l scope (own++cl) C fp s3 H3) rfl rfl rfl cA i [] s5 Zo H5 _ I5 (fpX Vx) Mz stop) λ r s6 zz=>?_
   obtain⟨hr,I6⟩:=zz
   subst hr
   obtain⟨m6,hn6,_⟩:=I6.loc
   have u:Un (Ic X.stack) fp H3 H5 s3.heap s6.heap:=I6.base
   refine WB C s6 H5 q ⟨m6,hn6⟩ (I3.Wh (s':=s6) (ch:=fp) I6.os u I6.ar I6.bare λ b hb=>⟨(vE b hb).2.2.2.1,(vE b hb).2.1,(vE b hb).2.2.2.2.1,(vE b hb).2.2.2.2.2⟩) ?_
   have hle:s3.heap.objs.size<=C:=eO hC
   have f0:=I3.Dx (H':=H5) hle I6.free
   exact f0
  ·refine ak (T.item (Ą X l scope (own++cl) C fp s3 H3) rfl rfl rfl cA i [] s5 Zo H5 _ I5 (fpX Vx) Mz go) λ r s6 zz=>?_
   obtain⟨u,hr,h6⟩:=zz
   subst hr
   refine ak h6 λ _ s7 zz=>?_
   obtain⟨x,H7,I7,r7,y7,st7,fr7⟩:=zz
   have I7':=I7.pinned (fpX fr7) (T.obj _ _ st7)
   have back:∀ {L4:St}{H8:Hp}{s8:Ï},Inv (Ą X l scope (own++cl) C fp s3 H3) ([]++sI fp s7.heap) L4 H8 s8->Inv (Ą X l scope (own++cl) C fp s3 H3) [] L4 H8 s8/\tn (i+1) s8.heap/\∀ b∈fp,H8 b=none:=λ {L4 H8 s8} I8=>by
    refine⟨I8.nJ,T.keep _ _ _ st7 λ b hb o e=>(I8.pin (b,o) (ç _ (ç _ (gy hb e)))).1,λ b hb=>?_⟩
    obtain⟨o,e,d⟩:=T.obj _ _ st7 b hb
    exact(I8.pin (b,o) (ç _ (ç _ (gy hb e)))).2.1
   refine ak (hg (own++cl) C fp s3 H3 _ s7 Zo H7 x u _ I7' r7 (step x H7 y7)) λ _ s8 zz=>?_
   obtain⟨L4,H8,I8,q8⟩:=zz
   refine ak (ht (own++cl) C fp s3 H3 _ s8 L4 H8 _ I8 q8) λ ok s9 zz=>?_
   obtain⟨H9,I9,q9⟩:=zz
   cases ok with
   | false=>
    rw[Ó (by decide)]at q9 ⊢
    obtain⟨m',hm,w9⟩:=q9
    obtain⟨z1,z2,z3⟩:=back I9
    exact⟨m',hm,i+1,ys,L4,H9,z1,z2,z3,w9⟩
   | true=>
    rw[É rfl]at q9 ⊢
    refine ak (hb (own++cl) C fp s3 H3 _ s9 i n ys L4 H9 I9 q9) λ _ Zf zz=>?_
    obtain⟨m',xA,aD,H',hm,I11,UP⟩:=zz
    obtain⟨z1,z2,z3⟩:=back I11
    exact⟨m',hm,i+1,xA,aD,_,z1,z2,z3,UP⟩
 exact oP hn hgc has (loop _ rfl) (T.self _ 0 _ _ _ st4 (loop _ rfl))
theorem EO {Y:Cx}{te:TE}(he:PE Y ŭ te)(Sv:Y.xe=λ _ _=>False){ys:Á V}{Ä:Á (Addr × Obj)}{σ:St}{N:V->Hp->Prop}(I:Inv Y Ä σ H s)
  (h:te σ H λ v H6=>H6 D=À (.lst ys)/\ys.length < sizeLine/\N v (upd H6 D (.lst (ys++[v])))) :
  ß (á Y.prog Y.w) Y.A (Ŝ ŭ Y.env >>= λ x=>call (.builtin "list.append") [.ref D,x] >>= λ _=>pure jN) (λ _ s'=>∃ v H',Inv Y Ä σ H' s'/\N v H') (λ _ _=>False) s:=by
 have h1:=he Ä s σ H _ I h
 rw[Sv]at h1
 refine Â (ak h1 λ xv s10 zz=>kj zz λ v H10 I10 r10 q10=>?_)
 obtain⟨aar,hz,UP⟩:=q10
 have h2:=yu _ s10 σ H10 (.ref D) [v] (.ref D) [xv] (λ z H'=>z=.ĥ/\H'=upd H10 D (.lst (ys++[v]))) I10 rfl (.cons r10 .nil) ⟨D,ys,v,rfl,rfl,aar,hz,rfl,rfl⟩
 rw[Sv]at h2
 refine Â (ak h2 λ _ Zf WA=>?_)
 obtain⟨_,H11,I11,_,_,e11⟩:=WA
 subst e11
 exact Ê ⟨v,_,I11,UP⟩
theorem xU {X:Cx}{ifs:Á Ů}{scope:Scope}{cl:Á (Str × Addr)}{l:Á (Str × Í Nat)}{g:TG}{tt:TT}{te:TE}
  (abY:V2 scope X.env=pure cl) (zo:∀ y c,cl.lookup y=À c->X.env.cells.lookup y=À c) (Nt:∀ x∈scope.names,x.2=.free->∃ c,cl.lookup x.1=À c)
  (Bq:scope.kind=.function) (ye:∀ y∈scope.names,y.2=.cell->scope.names.lookup y.1=À .cell) (cA:X.calm=true) (Sr:jt X scope l)
  (hg:∀ cl C fp s3 H3,PG (Ą X l scope cl C fp s3 H3) tg g) (ht:∀ cl C fp s3 H3,xc (Ą X l scope cl C fp s3 H3) ifs tt) (he:∀ cl C fp s3 H3,PE (Ą X l scope cl C fp s3 H3) ŭ te)
  {Ä:Á (Addr × Obj)}{σ:St}{s:Ï}{fp:Á Addr}{tn:Nat->Heap->Prop}{J:It}{Q:Addr->Hp->Prop}{RR:Ç->Addr->VX->Ï->Prop}{E:Ç->Ï->Prop}
  (I:Inv X Ä σ H s) (T:Turn X.prog X.w X.K tg J fp it tn) (st:tn 0 s.heap) (hfp:∀ b∈fp,o_ X Ä H b)
  (hw:Qa l g tt te J σ H Q)
  (WB:∀ D C (s':Ï) (H':Hp),Q D H'->(∃ m,s'.heap.Ns C m)->Inv X Ä σ H' s'->o_ X Ä H' C->RR (.ref D) C (.ok .next) s') :
  ß (á X.prog X.w) X.A (MT []) (λ þ s₃=>ß (á X.prog X.w) X.A (mr scope X.env.globals cl [] X.env.qual none .none (À X.env)) (λ A7 s₄=>
   gK (á X.prog X.w) X.A (.compStart (.ListComp ŭ [⟨tg,iter,ifs,0⟩] scope pos) 0 (.ref it) þ { A7 with scope:=YU scope X.env }) (RR þ A7.locals) s₄) E s₃) E s:=by
 refine js ?_ (by show 0<=sizeLine;exact Ă _)
 have I3:Inv X Ä σ (upd H s.heap.objs.size (.lst [])) { s with heap:=s.heap.push { cls:=.type "list",data:=.seq ([]:Á Ç).toArray } }:=
  I.J0 (its:=[]) (ys:=[]) (t':=s.toks) .nil (Ă _)
 have hD:H s.heap.objs.size=none:=I.fresh
 obtain⟨W,⟨m0,w0⟩,turn⟩:=hw _ hD
 have fpD:∀ b∈fp,b≠s.heap.objs.size:=λ b hb z=>by
  obtain⟨o,ho,_⟩:=T.obj _ _ st b hb
  exact absurd (Ú ho) (by rw[z];exact ŉ _)
 have vE:∀ b∈fp,o_ X Ä (upd H s.heap.objs.size (.lst [])) b:=λ b hb=>⟨by rw[ÿ (fpD b hb)];exact(hfp b hb).1,(hfp b hb).2⟩
 have Lm:tn 0 (s.heap.push { cls:=.type "list",data:=.seq ([]:Á Ç).toArray }):=T.keep _ _ _ st λ b _ o e=>Å _ e
 refine vc (α:=Á V) (B:=λ i m ys σ H5=>te σ H5 λ v H6=>H6 s.heap.objs.size=À (.lst ys)/\ys.length < sizeLine/\∃ m',m' < m/\W (i+1) m' (ys++[v]) σ (upd H6 s.heap.objs.size (.lst (ys++[v])))) (Q:=Q s.heap.objs.size) (p:=iter.pos) (body:=λ þ env=>Ŝ ŭ env >>= λ x=>call (.builtin "list.append") [þ,x] >>= λ _=>pure jN)
  (.inl ⟨_,_,_,_,rfl⟩) (λ _ _ _=>rfl) rfl rfl zo Nt Bq ye cA Sr hg ht (λ cl C fp s3 H3 Ä s' i m ys σ H I h=>?_) I3 T Lm vE w0 turn λ C s' H' q=>WB _ C s' H' q
 refine ak (EO (N:=λ v H'=>∃ m',m' < m/\W (i+1) m' (ys++[v]) σ H') (he cl C fp s3 H3) rfl I h) λ _ Zf ⟨v,H',I',m',hm,w'⟩=>⟨m',_,_,H',hm,I',w'⟩
def Lp (l:Á (Str × Í Nat)) (wi:TI)(g:TG)(tt:TT)(te:TE):TE:=λ σ H Q=>UB l wi g tt te σ H λ D H'=>Q (.ref D) H'
section
variable {X:Cx}{ŭ tg iter:Ů}{ifs:Á Ů}{scope:Scope}{pos:ki}{wi:TI}{g:TG}{tt:TT}{te:TE}
structure ž (X:Cx)(scope:Scope)(l:Á (Str × Í Nat)):Prop where
 kind:scope.kind=.function
 cell:∀ y∈scope.names,y.2=.cell->scope.names.lookup y.1=À .cell
 names:∀ y∈scope.names,y.2=.local->scope.names.lookup y.1=À .local
 free:∀ y∈scope.names,y.2=.free->X.env.kindOf y.1=À .cell∨X.env.kindOf y.1=À .free
 src:jt X scope l
theorem OC (l:Á (Str × Í Nat)) (iR:ž X scope l)(cA:X.calm=true)(hi:PI X tg iter wi)
  (hg:∀ cl C fp s3 H3,PG (Ą X l scope cl C fp s3 H3) tg g) (ht:∀ cl C fp s3 H3,xc (Ą X l scope cl C fp s3 H3) ifs tt) (he:∀ cl C fp s3 H3,PE (Ą X l scope cl C fp s3 H3) ŭ te)
  (hs:∀ x,ĉ iter X.env x=pure x:=by intro _;rfl) :
  PE X (.ListComp ŭ [⟨tg,iter,ifs,0⟩] scope pos) (Lp l wi g tt te):=by
 intro Ä s σ H Q I h
 obtain⟨cl,e1,e2,e3⟩:=ee (scope:=scope) (env:=X.env) λ x hx hf=>I.ok.has x.1 (iR.free x hx hf)
 rw[eval_ListComp]
 refine cL (use:=none) rfl hs e1 iR.kind iR.names (ak (hi Ä s σ H _ I h) λ v s1 h1=>ak h1 λ QB s2 h2=>?_)
 obtain⟨it,fp,tn,J,H2,e,I2,T,Ax,f2,hw⟩:=h2
 subst e
 refine xU (RR:=λ þ C=>Gy (á X.prog X.w) X.A X.xe none (EP X Ä σ Q) þ C) e1 e2 e3 iR.kind iR.cell cA iR.src hg ht he I2 T Ax f2 hw ?_
 intro D C s' H' q ⟨m,hn⟩ I' f'
 refine⟨m,hn,λ h' NA=>?_⟩
 exact⟨.ref D,H',I'.turned (t':=s'.toks) (λ b o hb e=>(NA.2 b hb).trans e) f'.1 f'.2.1 f'.2.2.2.1 f'.2.2.2.2.1 f'.2.2.2.2.2,rfl,q⟩
theorem Ea (l:Á (Str × Í Nat)) (iR:ž X scope l)(cA:X.calm=true)(hN:X.N.Nodup)(hy:X.N[i]? = À y)(hx:X.env.scope.names.lookup y=À .local)(hi:PI X tg iter wi)
  (hg:∀ cl C fp s3 H3,PG (Ą X l scope cl C fp s3 H3) tg g) (ht:∀ cl C fp s3 H3,xc (Ą X l scope cl C fp s3 H3) ifs tt) (he:∀ cl C fp s3 H3,PE (Ą X l scope cl C fp s3 H3) ŭ te)
  (Ss:fA (.ListComp ŭ [⟨tg,iter,ifs,0⟩] scope pos) (À (.Name y py)) Cd.line X.env=pure true)
  (hs:∀ x,ĉ iter X.env x=pure x:=by intro _;rfl) :
  PS X (.Assign [.Name y py] (.ListComp ŭ [⟨tg,iter,ifs,0⟩] scope pos) Cd) (Lo (Lp l wi g tt te) (Bh i)):=by
 intro Ä s σ H D0 I h
 obtain⟨cl,e1,e2,e3⟩:=ee (scope:=scope) (env:=X.env) λ x hx hf=>I.ok.has x.1 (iR.free x hx hf)
 rw[P' _ _ _ _ Ss]
 refine Â (dU (Â ?_))
 show ß _ X.A (do let _ <-Iy (.ListComp ŭ [⟨tg,iter,ifs,0⟩] scope pos) scope X.env _ (MT []) false (Ŝ iter X.env) (À (gX (.Name y py) X.env))) _ _ s
 refine Â (ak (cL (use:=À (gX (.Name y py) X.env)) (Q:=λ _ s'=>SP X Ä D0 .next s') rfl hs e1 iR.kind iR.names
  (ak (hi Ä s σ H _ I h) λ v s1 h1=>ak h1 λ QB s2 h2=>?_)) λ _ s' hq=>Ê (Ê hq))
 obtain⟨it,fp,tn,J,H2,e,I2,T,Ax,f2,hw⟩:=h2
 subst e
 refine xU (RR:=λ þ C=>Gy (á X.prog X.w) X.A X.xe (À (gX (.Name y py) X.env)) (λ _ s'=>SP X Ä D0 .next s') þ C) e1 e2 e3 iR.kind iR.cell cA iR.src hg ht he I2 T Ax f2 hw ?_
 intro D C s' H' q ⟨m,hn⟩ I' f'
 show ß _ X.A (gX (.Name y py) X.env (.ref D)) _ _ _
 refine yT (sM (v:=.ref D) I' hN hy (.inl hx) rfl (λ HF I'' hk=>?_) (.inr hx))
 obtain⟨a,JG,ha⟩:=hk
 have hCa:C≠a:=by
  rintro rfl
  rcases ha with z|z
  ·exact f'.2.1 z
  ·exact f'.2.2.2.2.1 y _ z rfl
 refine⟨m,hn.sameBut JG hCa,λ h' NA=>?_⟩
 exact⟨_,H',I''.turned (t':=HF.toks) (λ b o hb e=>(NA.2 b hb).trans e) f'.1 f'.2.1 f'.2.2.2.1 f'.2.2.2.2.1 f'.2.2.2.2.2,q⟩
end
def bu (n:Nat)(i:Int):Prop:=i.natAbs < 2 ^ n
theorem bu.mono (h:bu n i)(k:n<=m):bu m i:=ö h (Nat.pow_le_pow_right (by decide) k)
theorem bu.mul (h:bu n i)(k:bu m j):bu (n+m) (i * j):=by
 unfold bu at *
 rw[dZ,Nat.pow_add]
 exact Nat.mul_lt_mul'' h k
theorem bu.neg (h:bu n i):bu n (-i):=by unfold bu at *;rw[Int.natAbs_neg];exact h
theorem bu.add (h:bu n i)(k:bu n j):bu (n+1) (i+j):=by
 unfold bu at *
 have:=Int.natAbs_add_le i j
 rw[Nat.pow_succ]
 lia
theorem bu.le (h:bu n i)(k:j.natAbs<=i.natAbs):bu n j:=kA k h
theorem bu.bits (h:bu n i):bZ i<=n:=by
 unfold bZ
 split
 ·exact Ă _
 ·rename_i hz
  have h0:i.natAbs≠0:=by
   intro z
   apply hz
   have:i=0:=by lia
   simp[this]
  have:=(abo h0).mpr h
  lia
theorem bu.log (h:bu n i)(hn:0 < n):i.natAbs.log2 < n:=by
 by_cases h0:i.natAbs=0
 ·rw[h0]
  show Nat.log2 0 < n
  have:Nat.log2 0=0:=by decide
  rw[this];exact hn
 ·exact(abo h0).mpr h
theorem bu.Xx (h:bu 60000000 i)(k:bu 60000000 j):IntMulOk i j:=by
 have h1:=h.bits
 have h2:=k.bits
 unfold IntMulOk
 have e:xC (((bZ i+bZ j:Nat)):Int)=false:=by
  unfold xC
  refine ĳ ?_
  show ¬ ((((bZ i+bZ j:Nat)):Int) > (((2 ^ 27:Nat)):Int))
  have:(2 ^ 27:Nat)=134217728:=by decide
  lia
 simp[e]
 try (intro _ _;exact_mod_cast e)
theorem xZ (h1:-(2 ^ n) < i) (h2:i < 2 ^ n):bu n i:=by
 unfold bu
 have e:((2 ^ n:Nat):Int)=(2:Int) ^ n:=by
  rw[Int.natCast_pow];rfl
 have:(i.natAbs:Int) < ((2 ^ n:Nat):Int):=by rw[e];lia
 exact_mod_cast this
section
variable {X:Cx}
theorem Ox:fo X (Ŷ .Mult) (rI (λ i j=>bu 60000000 i/\bu 60000000 j) λ i j=>.int (i * j)):=Zc λ _ _ _ _ _ _ _ hc q=>mul_int q (hc.1.Xx hc.2)
theorem Kt:fo X (Ŷ .FloorDiv) (rI (λ _ j=>j≠0/\bu 9000 j) λ i j=>.int (i.fdiv j)):=Zc λ _ _ _ _ _ _ _ hc q=>floordiv_int hc.1 q (.inl (yK (hc.2.log (by decide))))
theorem zc:aQ X (.builtin "divmod") (λ xs H Q=>∃ i j,xs=[.int i,.int j]/\(0 < j/\bu 9000 j)/\∀ p,H p=none->Q (.ref p) (upd H p (.tup [.int (i / j),.int (i % j)]))):=by
 intro Ä s σ H xs us Q I r h
 obtain⟨i,j,rfl,⟨h1,h2⟩,q⟩:=h
 obtain⟨u,w',rfl,⟨t,rfl⟩,⟨t',rfl⟩⟩:=vals2 r
 refine divmod_int (by lia) ?_ (.inl (yK (h2.log (by decide))))
 rw[kq i (by lia),kr i (by lia)]
 have hn:H s.heap.objs.size=none:=I.ar.fresh (Î _)
 refine⟨.ref s.heap.objs.size,_,?_,rfl,q _ hn⟩
 refine I.laid (λ b o e=>Å _ e) (Î _) ⟨by simp only[å,dj];rw[bP];decide,[.int (i / j) s.toks,.int (i % j) (s.toks+1)],.cons ⟨_,rfl⟩ (.cons ⟨_,rfl⟩ .nil),?_⟩
 exact⟨_,Þ s.heap rfl,rfl,0,rfl⟩
theorem A2:∀ {bs:Á Bool}{us:Á Ç},Vals (bs.map V.bl) us->∀ (i:Nat)(v:Ç),us[i]? = À v->∃ b:Bool,bs[i]? = À b/\v=yQ b
 | [],us,r,i,v,e=>by
  cases r
  simp at e
 | b :: bs,us,r,i,v,e=>by
  cases r with
  | cons r1 r2=>
   cases i with
   | zero=>
    simp at e
    subst e
    exact⟨b,rfl,r1⟩
   | succ i=>
    obtain⟨b',e1,e2⟩:=A2 r2 i v (by simpa using e)
    exact⟨b',by simpa using e1,e2⟩
theorem Ec (bs:Á Bool):((Ģ bs.length).all λ i=>(bs[i]?).getD true)=bs.all id:=by
 rw[aY,ü,ü]
 constructor
 ·intro h b hb
  obtain⟨i,hi,e⟩:=bc hb
  have:=h i (Ae.mpr hi)
  simp only[Ñ hi,um,e]at this
  exact this
 ·intro h i hi
  have Ig:=Ae.mp hi
  simp only[Ñ Ig,um]
  exact h _ (cH Ig)
theorem GH (hc:X.calm=true):aQ X (.builtin "all") (λ xs H Q=>∃ (a:Addr) (bs:Á Bool),xs=[.ref a]/\f9 X.K H a (bs.map V.bl)/\Q (.bl (bs.all id)) H):=by
 intro Ä s σ H xs us Q I r h
 obtain⟨a,bs,rfl,ha,q⟩:=h
 obtain⟨u,rfl,ru⟩:=vals1 r
 cases ru
 obtain⟨its,rv,p,hz⟩:=I.list ha
 have hl:=p.isList
 have qy:a < s.heap.objs.size:=by obtain⟨_,e,_⟩:=hl;exact Ú e
 refine call_all_walk (yU hl ?_)
 refine⟨s.heap.objs.size,[s.heap.objs.size,a],[s.heap.objs.size],its.toArray.size,_,_,λ i=>(bs[i]?).getD true,rfl,Walks.list (A:=X.A.in1) (I.ok.hd hc) _ a (Ć qy) its.toArray,
  ⟨⟨_,Þ _ rfl,rfl,rfl⟩,hl.push _⟩,λ i v s' Q' E' hP hQ=>?_,λ h' tk hk=>?_⟩
 ·obtain⟨b,e,rfl⟩:=A2 rv i v (by simpa using hP)
  simp only[e,um]at hQ
  exact bo hQ
 ·have e:((Ģ its.toArray.size).all λ i=>(bs[i]?).getD true)=bs.all id:=by
   rw[Ý,<-rv.length,Æ];exact Ec bs
  rw[e]
  refine⟨.bl _,H,I.kept (t':=tk) λ b x e=>hk b x (λ hm=>?_) (Å _ e),rfl,q⟩
  rw[ñ.mp hm]at e
  exact ŉ _ (Ú e)
end
inductive Dt where
 | ĥ|bl (b:Bool)|int (i:Int)|str (x:Str)|tup (l:Á Dt)|lst (l:Á Dt)
mutual
def Dt.dep:Dt->Nat
 | .tup l=>g6 l+1
 | .lst l=>g6 l+1
 | _=>0
def g6:Á Dt->Nat
 | []=>0
 | d :: r=>max d.dep (g6 r)
end
mutual
def cS:Dt->Dt->Bool
 | .ĥ,.ĥ=>true
 | .bl a,.bl b=>a == b
 | .bl a,.int b=>(if a then 1 else 0) == b
 | .int a,.bl b=>a == (if b then 1 else 0)
 | .int a,.int b=>a == b
 | .str a,.str b=>a == b
 | .tup a,.tup b=>g7 a b
 | .lst a,.lst b=>g7 a b
 | _,_=>false
def g7:Á Dt->Á Dt->Bool
 | [],[]=>true
 | a :: r,b :: q=>cS a b && g7 r q
 | _,_=>false
end
mutual
def Rep (K:Ô)(N:Addr->Prop)(H:Hp):Dt->V->Prop
 | .ĥ,v=>v=.ĥ
 | .bl b,v=>v=.bl b
 | .int i,v=>v=.int i
 | .str x,v=>v=.str x
 | .tup l,v=>∃ a xs,v=.ref a/\¬ N a/\iP K H a xs/\c_ K N H l xs
 | .lst l,v=>∃ a xs,v=.ref a/\¬ N a/\f9 K H a xs/\c_ K N H l xs
def c_ (K:Ô)(N:Addr->Prop)(H:Hp):Á Dt->Á V->Prop
 | [],xs=>xs=[]
 | d :: r,xs=>∃ x ys,xs=x :: ys/\Rep K N H d x/\c_ K N H r ys
end
def xJ (N:Addr->Prop)(H H':Hp):Prop:=∀ b o,H b=À o->¬ N b->H' b=À o
theorem xJ.VJ {K:Ô}{N:Addr->Prop}(s:xJ N H H')(n:¬ N a)(h:iP K H a xs):iP K H' a xs:=by
 rcases h with(h|⟨o,h⟩)|h
 ·exact .inl (.inl (s _ _ h n))
 ·exact .inl (.inr ⟨o,s _ _ h n⟩)
 ·exact .inr h
theorem xJ.FZ {K:Ô}{N:Addr->Prop}(s:xJ N H H')(n:¬ N a)(h:f9 K H a xs):f9 K H' a xs:=by
 rcases h with(h|⟨o,h⟩)|h
 ·exact .inl (.inl (s _ _ h n))
 ·exact .inl (.inr ⟨o,s _ _ h n⟩)
 ·exact .inr h
mutual
theorem Rep.same {K:Ô}{N:Addr->Prop}(s:xJ N H H'):∀ {d:Dt}{v:V},Rep K N H d v->Rep K N H' d v
 | .ĥ,_,h=>h
 | .bl _,_,h=>h
 | .int _,_,h=>h
 | .str _,_,h=>h
 | .tup l,v,h=>by
  unfold Rep at h ⊢
  obtain⟨a,xs,e,n,q,r⟩:=h
  exact⟨a,xs,e,n,s.VJ n q,c_.same s r⟩
 | .lst l,v,h=>by
  unfold Rep at h ⊢
  obtain⟨a,xs,e,n,q,r⟩:=h
  exact⟨a,xs,e,n,s.FZ n q,c_.same s r⟩
theorem c_.same {K:Ô}{N:Addr->Prop}(s:xJ N H H'):∀ {l:Á Dt}{xs:Á V},c_ K N H l xs->c_ K N H' l xs
 | [],_,h=>h
 | d :: r,xs,h=>by
  unfold c_ at h ⊢
  obtain⟨x,ys,e,h1,h2⟩:=h
  exact⟨x,ys,e,Rep.same s h1,c_.same s h2⟩
end
theorem c_.length {K:Ô}{N:Addr->Prop}:∀ {l:Á Dt}{xs:Á V},c_ K N H l xs->l.length=xs.length
 | [],xs,h=>by unfold c_ at h;rw[h];rfl
 | d :: r,xs,h=>by
  unfold c_ at h
  obtain⟨x,ys,rfl,_,h2⟩:=h
  rw[å,å,c_.length h2]
theorem c_.get {K:Ô}{N:Addr->Prop}:∀ {l:Á Dt}{xs:Á V}{i:Nat}{d:Dt},c_ K N H l xs->l[i]? = À d->∃ x,xs[i]? = À x/\Rep K N H d x
 | [],xs,i,d,h,e=>by simp at e
 | d0 :: r,xs,0,d,h,e=>by
  unfold c_ at h
  obtain⟨x,ys,rfl,h1,_⟩:=h
  simp at e
  subst e
  exact⟨x,rfl,h1⟩
 | d0 :: r,xs,i+1,d,h,e=>by
  unfold c_ at h
  obtain⟨x,ys,rfl,_,h2⟩:=h
  obtain⟨y,e1,e2⟩:=c_.get (i:=i) h2 (by simpa using e)
  exact⟨y,by simpa using e1,e2⟩
theorem mW:∀ {l q:Á Dt},l.length≠q.length->g7 l q=false
 | [],[],h=>absurd rfl h
 | [],_ :: _,_=>by simp[g7]
 | _ :: _,[],_=>by simp[g7]
 | a :: r,b :: q,h=>by
  simp only[g7]
  rw[mW (l:=r) (q:=q) (by simpa using h),Ab]
theorem iW:∀ {l q:Á Dt},l.length=q.length->g7 l q=(Ģ l.length).all λ i=>match l[i]?,q[i]? with|some a,À b=>cS a b|_,_=>true
 | [],[],_=>by simp[g7]
 | a :: r,b :: q,h=>by
  simp only[g7]
  rw[iW (l:=r) (q:=q) (by simpa using h),å,EE,Ĩ,nW]
  simp[Function.comp_def]
theorem A9:∀ {l:Á Dt}{i:Nat}{d:Dt},l[i]? = À d->d.dep<=g6 l
 | [],i,d,e=>by simp at e
 | a :: r,0,d,e=>by simp at e;subst e;simp only[g6];exact Nat.le_max_left _ _
 | a :: r,i+1,d,e=>by
  have:=A9 (l:=r) (i:=i) (d:=d) (by simpa using e)
  simp only[g6]
  exact ā this (Nat.le_max_right _ _)
section
variable {X:Cx}{Ä:Á (Addr × Obj)}{σ:St}{H:Hp}{s:Ï}{N N':Addr->Prop}
theorem BM (I:Inv X Ä σ H s)(h:f9 X.K H a xs)(k:iP X.K H a ys):False:=by
 obtain⟨its,_,p,_⟩:=I.list h
 obtain⟨dh,_,q,_⟩:=I.tuple k
 obtain⟨o,e,c,_⟩:=p.isList
 obtain⟨o2,e2,c2,_⟩:=q
 rw[e]at e2
 cases e2
 rw[c]at c2
 injection c2 with z
 exact absurd z (by decide)
mutual
theorem Rep.inj (I:Inv X Ä σ H s):∀ {d e:Dt}{v:V},Rep X.K N H d v->Rep X.K N' H e v->d=e
 | .ĥ,.ĥ,_,_,_=>rfl
 | .ĥ,.bl _,_,h,k=>by unfold Rep at h k;rw[h]at k;cases k
 | .ĥ,.int _,_,h,k=>by unfold Rep at h k;rw[h]at k;cases k
 | .ĥ,.str _,_,h,k=>by unfold Rep at h k;rw[h]at k;cases k
 | .ĥ,.tup _,_,h,k=>by unfold Rep at h k;obtain⟨_,_,e,_⟩:=k;rw[h]at e;cases e
 | .ĥ,.lst _,_,h,k=>by unfold Rep at h k;obtain⟨_,_,e,_⟩:=k;rw[h]at e;cases e
 | .bl _,.ĥ,_,h,k=>by unfold Rep at h k;rw[h]at k;cases k
 | .bl x,.bl y,_,h,k=>by unfold Rep at h k;rw[h]at k;cases k;rfl
 | .bl _,.int _,_,h,k=>by unfold Rep at h k;rw[h]at k;cases k
 | .bl _,.str _,_,h,k=>by unfold Rep at h k;rw[h]at k;cases k
 | .bl _,.tup _,_,h,k=>by unfold Rep at h k;obtain⟨_,_,e,_⟩:=k;rw[h]at e;cases e
 | .bl _,.lst _,_,h,k=>by unfold Rep at h k;obtain⟨_,_,e,_⟩:=k;rw[h]at e;cases e
 | .int _,.ĥ,_,h,k=>by unfold Rep at h k;rw[h]at k;cases k
 | .int _,.bl _,_,h,k=>by unfold Rep at h k;rw[h]at k;cases k
 | .int x,.int y,_,h,k=>by unfold Rep at h k;rw[h]at k;cases k;rfl
 | .int _,.str _,_,h,k=>by unfold Rep at h k;rw[h]at k;cases k
 | .int _,.tup _,_,h,k=>by unfold Rep at h k;obtain⟨_,_,e,_⟩:=k;rw[h]at e;cases e
 | .int _,.lst _,_,h,k=>by unfold Rep at h k;obtain⟨_,_,e,_⟩:=k;rw[h]at e;cases e
 | .str _,.ĥ,_,h,k=>by unfold Rep at h k;rw[h]at k;cases k
 | .str _,.bl _,_,h,k=>by unfold Rep at h k;rw[h]at k;cases k
 | .str _,.int _,_,h,k=>by unfold Rep at h k;rw[h]at k;cases k
 | .str x,.str y,_,h,k=>by unfold Rep at h k;rw[h]at k;cases k;rfl
 | .str _,.tup _,_,h,k=>by unfold Rep at h k;obtain⟨_,_,e,_⟩:=k;rw[h]at e;cases e
 | .str _,.lst _,_,h,k=>by unfold Rep at h k;obtain⟨_,_,e,_⟩:=k;rw[h]at e;cases e
 | .tup _,.ĥ,_,h,k=>by unfold Rep at h k;obtain⟨_,_,e,_⟩:=h;rw[k]at e;cases e
 | .tup _,.bl _,_,h,k=>by unfold Rep at h k;obtain⟨_,_,e,_⟩:=h;rw[k]at e;cases e
 | .tup _,.int _,_,h,k=>by unfold Rep at h k;obtain⟨_,_,e,_⟩:=h;rw[k]at e;cases e
 | .tup _,.str _,_,h,k=>by unfold Rep at h k;obtain⟨_,_,e,_⟩:=h;rw[k]at e;cases e
 | .tup l,.tup q,_,h,k=>by
  unfold Rep at h k
  obtain⟨a,xs,rfl,_,h1,h2⟩:=h
  obtain⟨b,ys,e,_,k1,k2⟩:=k
  cases e
  have:=I.sN h1 k1
  subst this
  rw[c_.inj I h2 k2]
 | .tup _,.lst _,_,h,k=>by unfold Rep at h k;obtain⟨_,_,rfl,_,h1,_⟩:=h;obtain⟨_,_,e,_,k1,_⟩:=k;cases e;exact(BM I k1 h1).elim
 | .lst _,.ĥ,_,h,k=>by unfold Rep at h k;obtain⟨_,_,e,_⟩:=h;rw[k]at e;cases e
 | .lst _,.bl _,_,h,k=>by unfold Rep at h k;obtain⟨_,_,e,_⟩:=h;rw[k]at e;cases e
 | .lst _,.int _,_,h,k=>by unfold Rep at h k;obtain⟨_,_,e,_⟩:=h;rw[k]at e;cases e
 | .lst _,.str _,_,h,k=>by unfold Rep at h k;obtain⟨_,_,e,_⟩:=h;rw[k]at e;cases e
 | .lst _,.tup _,_,h,k=>by unfold Rep at h k;obtain⟨_,_,rfl,_,h1,_⟩:=h;obtain⟨_,_,e,_,k1,_⟩:=k;cases e;exact(BM I h1 k1).elim
 | .lst l,.lst q,_,h,k=>by
  unfold Rep at h k
  obtain⟨a,xs,rfl,_,h1,h2⟩:=h
  obtain⟨b,ys,e,_,k1,k2⟩:=k
  cases e
  have:=I.vS h1 k1
  subst this
  rw[c_.inj I h2 k2]
theorem c_.inj (I:Inv X Ä σ H s):∀ {l q:Á Dt}{xs:Á V},c_ X.K N H l xs->c_ X.K N' H q xs->l=q
 | [],[],_,_,_=>rfl
 | [],_ :: _,_,h,k=>by unfold c_ at h k;obtain⟨_,_,e,_⟩:=k;rw[h]at e;cases e
 | _ :: _,[],_,h,k=>by unfold c_ at h k;obtain⟨_,_,e,_⟩:=h;rw[k]at e;cases e
 | a :: r,b :: q,xs,h,k=>by
  unfold c_ at h k
  obtain⟨x,ys,rfl,h1,h2⟩:=h
  obtain⟨y,zs,e,k1,k2⟩:=k
  cases e
  rw[Rep.inj I h1 k1,c_.inj I h2 k2]
end
mutual
theorem vj:∀ d:Dt,cS d d=true
 | .ĥ=>by simp[cS]
 | .bl _=>by simp[cS]
 | .int _=>by simp[cS]
 | .str _=>by simp[cS]
 | .tup l=>by simp only[cS];exact n9 l
 | .lst l=>by simp only[cS];exact n9 l
theorem n9:∀ l:Á Dt,g7 l l=true
 | []=>by simp[g7]
 | d :: r=>by simp only[g7,vj d,n9 r,Bool.and_self]
end
theorem kL (ih:∀ (d e:Dt){v w:V}{u z:Ç},d.dep<=k->Rep X.K N H d v->Rep X.K N' H e w->RelV v u->RelV w z->rT A s u z (cS d e))
  {l q:Á Dt}{its dh:Á Ç}(hd:g6 l<=k) (h:c_ X.K N H l xs) (h':c_ X.K N' H q ys) (r:Vals xs its) (r':Vals ys dh) :
  ∀ j (h1:j < its.toArray.size) (h2:j < dh.toArray.size),rT A s its.toArray[j] dh.toArray[j] (match l[j]?,q[j]? with|some a,À b=>cS a b|_,_=>true):=by
 intro j h1 h2
 have n1:l.length=its.length:=h.length.trans r.length
 have n2:q.length=dh.length:=h'.length.trans r'.length
 have j1:j < l.length:=by rw[n1];simpa using h1
 have j2:j < q.length:=by rw[n2];simpa using h2
 obtain⟨x,ex,rx⟩:=h.get (Ñ j1)
 obtain⟨y,ey,ry⟩:=h'.get (Ñ j2)
 obtain⟨u,eu,ru⟩:=r.get ex
 obtain⟨z,ez,rz⟩:=r'.get ey
 rw[Ñ j1,Ñ j2]
 have e1:its.toArray[j]=u:=by
  have:=Ë.mp eu
  obtain⟨_,e⟩:=this
  simpa using e
 have e2:dh.toArray[j]=z:=by
  have:=Ë.mp ez
  obtain⟨_,e⟩:=this
  simpa using e
 rw[e1,e2]
 exact ih _ _ (ā (A9 (Ñ j1)) hd) rx ry ru rz
theorem pB {l q:Á Dt}{its dh:Á Ç}(h:c_ X.K N H l xs)(h':c_ X.K N' H q ys)(r:Vals xs its)(r':Vals ys dh) :
  ((Ģ (min its.toArray.size dh.toArray.size)).all (λ j=>match l[j]?,q[j]? with|some a,À b=>cS a b|_,_=>true) && its.toArray.size == dh.toArray.size)=g7 l q:=by
 have n1:l.length=its.toArray.size:=by simpa using h.length.trans r.length
 have n2:q.length=dh.toArray.size:=by simpa using h'.length.trans r'.length
 rw[<-n1,<-n2]
 by_cases hn:l.length=q.length
 ·rw[iW hn,hn,Nat.min_self]
  simp
 ·rw[mW hn]
  have:(l.length == q.length)=false:=by simpa using hn
  rw[this,Ab]
theorem zj (I:Inv X Ä σ H s):∀ (k:Nat) (A:ō),A.units+k < cLine->∀ (d e:Dt) {v w:V}{u z:Ç},d.dep<=k->Rep X.K N H d v->Rep X.K N' H e w->RelV v u->RelV w z->rT A s u z (cS d e):=by
 intro k
 induction k with
 | zero=>
  intro A hA d e v w u z hd h h' r r'
  have hu:A.units < cLine:=by lia
  cases d with
  | tup l=>exact absurd hd (by simp[Dt.dep])
  | lst l=>exact absurd hd (by simp[Dt.dep])
  | ĥ=>
   unfold Rep at h
   subst h
   cases e with
   | ĥ=>
    unfold Rep at h'
    subst h'
    have:=Ũ (A:=A) (s:=s) r r' rfl rfl
    simpa[cS,g8]using this
   | bl y=>
    unfold Rep at h'
    subst h'
    have:=Ũ (A:=A) (s:=s) r r' rfl rfl
    simpa[cS,g8]using this
   | int y=>
    unfold Rep at h'
    subst h'
    have:=Ũ (A:=A) (s:=s) r r' rfl rfl
    simpa[cS,g8]using this
   | str y=>
    unfold Rep at h'
    subst h'
    have:=Ũ (A:=A) (s:=s) r r' rfl rfl
    simpa[cS,g8]using this
   | tup y=>
    unfold Rep at h'
    obtain⟨a,xs,rfl,_,q1,_⟩:=h'
    cases r'
    obtain⟨its,_,p,_⟩:=I.tuple q1
    cases r
    simp only[cS]
    exact yO p hu
   | lst y=>
    unfold Rep at h'
    obtain⟨a,xs,rfl,_,q1,_⟩:=h'
    cases r'
    obtain⟨its,_,p,_⟩:=I.list q1
    cases r
    simp only[cS]
    exact An p.isList hu
  | bl x=>
   unfold Rep at h
   subst h
   cases e with
   | ĥ=>
    unfold Rep at h'
    subst h'
    have:=Ũ (A:=A) (s:=s) r r' rfl rfl
    simpa[cS,g8]using this
   | bl y=>
    unfold Rep at h'
    subst h'
    have:=Ũ (A:=A) (s:=s) r r' rfl rfl
    simpa[cS,g8]using this
   | int y=>
    unfold Rep at h'
    subst h'
    have:=Ũ (A:=A) (s:=s) r r' rfl rfl
    simpa[cS,g8]using this
   | str y=>
    unfold Rep at h'
    subst h'
    have:=Ũ (A:=A) (s:=s) r r' rfl rfl
    simpa[cS,g8]using this
   | tup y=>
    unfold Rep at h'
    obtain⟨a,xs,rfl,_,q1,_⟩:=h'
    cases r'
    obtain⟨its,_,p,_⟩:=I.tuple q1
    cases r
    simp only[cS]
    exact yN x p hu
   | lst y=>
    unfold Rep at h'
    obtain⟨a,xs,rfl,_,q1,_⟩:=h'
    cases r'
    obtain⟨its,_,p,_⟩:=I.list q1
    cases r
    simp only[cS]
    exact Al x p.isList hu
  | int x=>
   unfold Rep at h
   subst h
   cases e with
   | ĥ=>
    unfold Rep at h'
    subst h'
    have:=Ũ (A:=A) (s:=s) r r' rfl rfl
    simpa[cS,g8]using this
   | bl y=>
    unfold Rep at h'
    subst h'
    have:=Ũ (A:=A) (s:=s) r r' rfl rfl
    simpa[cS,g8]using this
   | int y=>
    unfold Rep at h'
    subst h'
    have:=Ũ (A:=A) (s:=s) r r' rfl rfl
    simpa[cS,g8]using this
   | str y=>
    unfold Rep at h'
    subst h'
    have:=Ũ (A:=A) (s:=s) r r' rfl rfl
    simpa[cS,g8]using this
   | tup y=>
    unfold Rep at h'
    obtain⟨a,xs,rfl,_,q1,_⟩:=h'
    cases r'
    obtain⟨its,_,p,_⟩:=I.tuple q1
    obtain⟨t,rfl⟩:=r
    simp only[cS]
    exact Am x t p hu
   | lst y=>
    unfold Rep at h'
    obtain⟨a,xs,rfl,_,q1,_⟩:=h'
    cases r'
    obtain⟨its,_,p,_⟩:=I.list q1
    obtain⟨t,rfl⟩:=r
    simp only[cS]
    exact AJ x t p.isList hu
  | str x=>
   unfold Rep at h
   subst h
   cases e with
   | ĥ=>
    unfold Rep at h'
    subst h'
    have:=Ũ (A:=A) (s:=s) r r' rfl rfl
    simpa[cS,g8]using this
   | bl y=>
    unfold Rep at h'
    subst h'
    have:=Ũ (A:=A) (s:=s) r r' rfl rfl
    simpa[cS,g8]using this
   | int y=>
    unfold Rep at h'
    subst h'
    have:=Ũ (A:=A) (s:=s) r r' rfl rfl
    simpa[cS,g8]using this
   | str y=>
    unfold Rep at h'
    subst h'
    have:=Ũ (A:=A) (s:=s) r r' rfl rfl
    simpa[cS,g8]using this
   | tup y=>
    unfold Rep at h'
    obtain⟨a,xs,rfl,_,q1,_⟩:=h'
    cases r'
    obtain⟨its,_,p,_⟩:=I.tuple q1
    obtain⟨t,rfl⟩:=r
    simp only[cS]
    exact Ao x t p hu
   | lst y=>
    unfold Rep at h'
    obtain⟨a,xs,rfl,_,q1,_⟩:=h'
    cases r'
    obtain⟨its,_,p,_⟩:=I.list q1
    obtain⟨t,rfl⟩:=r
    simp only[cS]
    exact AK x t p.isList hu
 | succ k ih=>
  intro A hA d e v w u z hd h h' r r'
  have hu:A.units < cLine:=by lia
  have hA':A.in1.units+k < cLine:=by have:A.in1.units=A.units+1:=rfl;lia
  cases d with
  | ĥ=>
   unfold Rep at h
   subst h
   cases e with
   | ĥ=>
    unfold Rep at h'
    subst h'
    have:=Ũ (A:=A) (s:=s) r r' rfl rfl
    simpa[cS,g8]using this
   | bl y=>
    unfold Rep at h'
    subst h'
    have:=Ũ (A:=A) (s:=s) r r' rfl rfl
    simpa[cS,g8]using this
   | int y=>
    unfold Rep at h'
    subst h'
    have:=Ũ (A:=A) (s:=s) r r' rfl rfl
    simpa[cS,g8]using this
   | str y=>
    unfold Rep at h'
    subst h'
    have:=Ũ (A:=A) (s:=s) r r' rfl rfl
    simpa[cS,g8]using this
   | tup y=>
    unfold Rep at h'
    obtain⟨a,xs,rfl,_,q1,_⟩:=h'
    cases r'
    obtain⟨its,_,p,_⟩:=I.tuple q1
    cases r
    simp only[cS]
    exact yO p hu
   | lst y=>
    unfold Rep at h'
    obtain⟨a,xs,rfl,_,q1,_⟩:=h'
    cases r'
    obtain⟨its,_,p,_⟩:=I.list q1
    cases r
    simp only[cS]
    exact An p.isList hu
  | bl x=>
   unfold Rep at h
   subst h
   cases e with
   | ĥ=>
    unfold Rep at h'
    subst h'
    have:=Ũ (A:=A) (s:=s) r r' rfl rfl
    simpa[cS,g8]using this
   | bl y=>
    unfold Rep at h'
    subst h'
    have:=Ũ (A:=A) (s:=s) r r' rfl rfl
    simpa[cS,g8]using this
   | int y=>
    unfold Rep at h'
    subst h'
    have:=Ũ (A:=A) (s:=s) r r' rfl rfl
    simpa[cS,g8]using this
   | str y=>
    unfold Rep at h'
    subst h'
    have:=Ũ (A:=A) (s:=s) r r' rfl rfl
    simpa[cS,g8]using this
   | tup y=>
    unfold Rep at h'
    obtain⟨a,xs,rfl,_,q1,_⟩:=h'
    cases r'
    obtain⟨its,_,p,_⟩:=I.tuple q1
    cases r
    simp only[cS]
    exact yN x p hu
   | lst y=>
    unfold Rep at h'
    obtain⟨a,xs,rfl,_,q1,_⟩:=h'
    cases r'
    obtain⟨its,_,p,_⟩:=I.list q1
    cases r
    simp only[cS]
    exact Al x p.isList hu
  | int x=>
   unfold Rep at h
   subst h
   cases e with
   | ĥ=>
    unfold Rep at h'
    subst h'
    have:=Ũ (A:=A) (s:=s) r r' rfl rfl
    simpa[cS,g8]using this
   | bl y=>
    unfold Rep at h'
    subst h'
    have:=Ũ (A:=A) (s:=s) r r' rfl rfl
    simpa[cS,g8]using this
   | int y=>
    unfold Rep at h'
    subst h'
    have:=Ũ (A:=A) (s:=s) r r' rfl rfl
    simpa[cS,g8]using this
   | str y=>
    unfold Rep at h'
    subst h'
    have:=Ũ (A:=A) (s:=s) r r' rfl rfl
    simpa[cS,g8]using this
   | tup y=>
    unfold Rep at h'
    obtain⟨a,xs,rfl,_,q1,_⟩:=h'
    cases r'
    obtain⟨its,_,p,_⟩:=I.tuple q1
    obtain⟨t,rfl⟩:=r
    simp only[cS]
    exact Am x t p hu
   | lst y=>
    unfold Rep at h'
    obtain⟨a,xs,rfl,_,q1,_⟩:=h'
    cases r'
    obtain⟨its,_,p,_⟩:=I.list q1
    obtain⟨t,rfl⟩:=r
    simp only[cS]
    exact AJ x t p.isList hu
  | str x=>
   unfold Rep at h
   subst h
   cases e with
   | ĥ=>
    unfold Rep at h'
    subst h'
    have:=Ũ (A:=A) (s:=s) r r' rfl rfl
    simpa[cS,g8]using this
   | bl y=>
    unfold Rep at h'
    subst h'
    have:=Ũ (A:=A) (s:=s) r r' rfl rfl
    simpa[cS,g8]using this
   | int y=>
    unfold Rep at h'
    subst h'
    have:=Ũ (A:=A) (s:=s) r r' rfl rfl
    simpa[cS,g8]using this
   | str y=>
    unfold Rep at h'
    subst h'
    have:=Ũ (A:=A) (s:=s) r r' rfl rfl
    simpa[cS,g8]using this
   | tup y=>
    unfold Rep at h'
    obtain⟨a,xs,rfl,_,q1,_⟩:=h'
    cases r'
    obtain⟨its,_,p,_⟩:=I.tuple q1
    obtain⟨t,rfl⟩:=r
    simp only[cS]
    exact Ao x t p hu
   | lst y=>
    unfold Rep at h'
    obtain⟨a,xs,rfl,_,q1,_⟩:=h'
    cases r'
    obtain⟨its,_,p,_⟩:=I.list q1
    obtain⟨t,rfl⟩:=r
    simp only[cS]
    exact AK x t p.isList hu
  | tup l=>
   have h0:=h
   unfold Rep at h
   obtain⟨a,xs,rfl,na,q1,q2⟩:=h
   cases r
   obtain⟨its,r1,p1,_⟩:=I.tuple q1
   have Qr:g6 l<=k:=by simp only[Dt.dep]at hd;lia
   cases e with
   | ĥ=>
    unfold Rep at h'
    subst h'
    cases r'
    simp only[cS]
    exact SeqAt.EqAt.tuple_none p1 hu
   | bl y=>
    unfold Rep at h'
    subst h'
    cases r'
    simp only[cS]
    exact SeqAt.EqAt.tuple_bool y p1 hu
   | int y=>
    unfold Rep at h'
    subst h'
    obtain⟨t,rfl⟩:=r'
    simp only[cS]
    exact SeqAt.EqAt.tuple_int y t p1 hu
   | str y=>
    unfold Rep at h'
    subst h'
    obtain⟨t,rfl⟩:=r'
    simp only[cS]
    exact SeqAt.EqAt.tuple_str y t p1 hu
   | tup q=>
    have Wz:=h'
    unfold Rep at h'
    obtain⟨b,ys,rfl,nb,k1,k2⟩:=h'
    cases r'
    obtain⟨dh,r2,p2,_⟩:=I.tuple k1
    by_cases GX:a=b
    ·subst GX
     have:=Rep.inj I h0 Wz
     rw[<-this,vj]
     exact sU _
    ·refine CS GX ?_
     simp only[cS]
     have:=C8 (A:=A) (s:=s) p1 p2 hu (kL (A:=A.in1) (λ d e=>ih A.in1 hA' d e) Qr q2 k2 r1 r2)
     rw[pB q2 k2 r1 r2]at this
     exact this
   | lst q=>
    have Wz:=h'
    unfold Rep at h'
    obtain⟨b,ys,rfl,nb,k1,k2⟩:=h'
    cases r'
    obtain⟨dh,r2,p2,_⟩:=I.list k1
    simp only[cS]
    exact SeqAt.EqAt.tuple_list p1 p2.isList hu
  | lst l=>
   have h0:=h
   unfold Rep at h
   obtain⟨a,xs,rfl,na,q1,q2⟩:=h
   cases r
   obtain⟨its,r1,p1,_⟩:=I.list q1
   have Qr:g6 l<=k:=by simp only[Dt.dep]at hd;lia
   cases e with
   | ĥ=>
    unfold Rep at h'
    subst h'
    cases r'
    simp only[cS]
    exact SeqAt.EqAt.list_none p1.isList hu
   | bl y=>
    unfold Rep at h'
    subst h'
    cases r'
    simp only[cS]
    exact SeqAt.EqAt.list_bool y p1.isList hu
   | int y=>
    unfold Rep at h'
    subst h'
    obtain⟨t,rfl⟩:=r'
    simp only[cS]
    exact SeqAt.EqAt.list_int y t p1.isList hu
   | str y=>
    unfold Rep at h'
    subst h'
    obtain⟨t,rfl⟩:=r'
    simp only[cS]
    exact SeqAt.EqAt.list_str y t p1.isList hu
   | tup q=>
    have Wz:=h'
    unfold Rep at h'
    obtain⟨b,ys,rfl,nb,k1,k2⟩:=h'
    cases r'
    obtain⟨dh,r2,p2,_⟩:=I.tuple k1
    simp only[cS]
    exact SeqAt.EqAt.list_tuple p1.isList p2 hu
   | lst q=>
    have Wz:=h'
    unfold Rep at h'
    obtain⟨b,ys,rfl,nb,k1,k2⟩:=h'
    cases r'
    obtain⟨dh,r2,p2,_⟩:=I.list k1
    by_cases GX:a=b
    ·subst GX
     have:=Rep.inj I h0 Wz
     rw[<-this,vj]
     exact sU _
    ·refine CS GX ?_
     simp only[cS]
     have n1:l.length=its.toArray.size:=by simpa using q2.length.trans r1.length
     have n2:q.length=dh.toArray.size:=by simpa using k2.length.trans r2.length
     by_cases hn:l.length=q.length
     ·have:=EF (A:=A) (s:=s) p1.isList p2.isList (by rw[<-n1,<-n2];exact hn) hu (kL (A:=A.in1) (λ d e=>ih A.in1 hA' d e) Qr q2 k2 r1 r2)
      rw[<-n1,<-iW hn]at this
      exact this
     ·rw[mW hn]
      refine wL p1.isList p2.isList ?_ hu
      rw[<-n1,<-n2]
      simpa using hn
def Yd (K:Ô)(neg:Bool):R2:=λ x y H Q=>∃ (N N':Addr->Prop) (l q:Á Dt) (c:Bool),(Rep K N H (if c then .tup l else .lst l) x/\Rep K N' H (if c then .tup q else .lst q) y)/\g6 l<=20/\Q (.bl (if neg then !g7 l q else g7 l q)) H
theorem TH (hu:X.A.units+30 < cLine):fo X (ċ .Eq) (Yd X.K false):=by
 intro Ä s σ H x y v u Q I rx ry h
 obtain⟨N,N',l,q,c,⟨h1,h2⟩,hd,hq⟩:=h
 have JI:X.A.units < cLine:=by lia
 have ND:X.A.in1.units+20 < cLine:=by have:X.A.in1.units=X.A.units+1:=rfl;lia
 cases c with
 | true=>
  simp only[aT]at h1 h2
  unfold Rep at h1 h2
  obtain⟨a,xs,rfl,_,q1,q2⟩:=h1
  obtain⟨b,ys,rfl,_,k1,k2⟩:=h2
  cases rx
  cases ry
  obtain⟨its,r1,p1,_⟩:=I.tuple q1
  obtain⟨dh,r2,p2,_⟩:=I.tuple k1
  have:=C8 (A:=X.A) (s:=s) p1 p2 JI (kL (A:=X.A.in1) (λ d e=>zj I 20 X.A.in1 ND d e) hd q2 k2 r1 r2)
  rw[pB q2 k2 r1 r2]at this
  exact this X.prog X.w _ _ ⟨.bl _,H,I,rfl,hq⟩
 | false=>
  simp only[ą,aa]at h1 h2
  unfold Rep at h1 h2
  obtain⟨a,xs,rfl,_,q1,q2⟩:=h1
  obtain⟨b,ys,rfl,_,k1,k2⟩:=h2
  cases rx
  cases ry
  obtain⟨its,r1,p1,_⟩:=I.list q1
  obtain⟨dh,r2,p2,_⟩:=I.list k1
  have n1:l.length=its.toArray.size:=by simpa using q2.length.trans r1.length
  have n2:q.length=dh.toArray.size:=by simpa using k2.length.trans r2.length
  by_cases hn:l.length=q.length
  ·have:=EF (A:=X.A) (s:=s) p1.isList p2.isList (by rw[<-n1,<-n2];exact hn) JI (kL (A:=X.A.in1) (λ d e=>zj I 20 X.A.in1 ND d e) hd q2 k2 r1 r2)
   rw[<-n1,<-iW hn]at this
   exact this X.prog X.w _ _ ⟨.bl _,H,I,rfl,hq⟩
  ·simp only[mW hn]at hq
   exact wL p1.isList p2.isList (by rw[<-n1,<-n2];simpa using hn) JI X.prog X.w _ _ ⟨.bl _,H,I,rfl,hq⟩
theorem TL (hu:X.A.units+30 < cLine):fo X (ċ .NotEq) (Yd X.K true):=by
 intro Ä s σ H x y v u Q I rx ry h
 obtain⟨N,N',l,q,c,⟨h1,h2⟩,hd,hq⟩:=h
 have JI:X.A.units < cLine:=by lia
 have ND:X.A.in1.units+20 < cLine:=by have:X.A.in1.units=X.A.units+1:=rfl;lia
 cases c with
 | true=>
  simp only[aT]at h1 h2
  unfold Rep at h1 h2
  obtain⟨a,xs,rfl,_,q1,q2⟩:=h1
  obtain⟨b,ys,rfl,_,k1,k2⟩:=h2
  cases rx
  cases ry
  obtain⟨its,r1,p1,_⟩:=I.tuple q1
  obtain⟨dh,r2,p2,_⟩:=I.tuple k1
  have:=abN (A:=X.A) (s:=s) p1 p2 JI (kL (A:=X.A.in1) (λ d e=>zj I 20 X.A.in1 ND d e) hd q2 k2 r1 r2)
  rw[pB q2 k2 r1 r2]at this
  exact this X.prog X.w _ _ ⟨.bl _,H,I,rfl,hq⟩
 | false=>
  simp only[ą,aa]at h1 h2
  unfold Rep at h1 h2
  obtain⟨a,xs,rfl,_,q1,q2⟩:=h1
  obtain⟨b,ys,rfl,_,k1,k2⟩:=h2
  cases rx
  cases ry
  obtain⟨its,r1,p1,_⟩:=I.list q1
  obtain⟨dh,r2,p2,_⟩:=I.list k1
  have n1:l.length=its.toArray.size:=by simpa using q2.length.trans r1.length
  have n2:q.length=dh.toArray.size:=by simpa using k2.length.trans r2.length
  by_cases hn:l.length=q.length
  ·have:=abL (A:=X.A) (s:=s) p1.isList p2.isList (by rw[<-n1,<-n2];exact hn) JI (kL (A:=X.A.in1) (λ d e=>zj I 20 X.A.in1 ND d e) hd q2 k2 r1 r2)
   rw[<-n1,<-iW hn]at this
   exact this X.prog X.w _ _ ⟨.bl _,H,I,rfl,hq⟩
  ·simp only[mW hn]at hq
   exact abM p1.isList p2.isList (by rw[<-n1,<-n2];simpa using hn) JI X.prog X.w _ _ ⟨.bl _,H,I,rfl,hq⟩
end
theorem jt.any:∀ {l:Á (Str × Í Nat)},jt X scope l->∀ {x:Str},(l.any λ p=>p.1 == x && p.2.isSome)=true->X.env.kindOf x=À .cell∨X.env.kindOf x=À .free
 | [],_,x,e=>by simp at e
 | (y,none) :: r,h,x,e=>jt.any (l:=r) h (by simpa using e)
 | (y,À k) :: r,h,x,e=>by
  rw[cw,om]at e
  rcases e with e|e
  ·have:y=x:=by simpa using e
   subst this
   exact h.1.2.2
  ·exact jt.any (l:=r) h.2 e
theorem ž.of (hk:scope.kind=.function)(hc:∀ y∈scope.names,y.2=.cell->scope.names.lookup y.1=À .cell)(hn:∀ y∈scope.names,y.2=.local->scope.names.lookup y.1=À .local)
  (hf:∀ y∈scope.names,y.2=.free->(l.any λ p=>p.1 == y.1 && p.2.isSome)=true) (hs:jt X scope l):ž X scope l:=⟨hk,hc,hn,λ y hy hyf=>hs.any (hf y hy hyf),hs⟩
theorem R0 (h:bu 64 i):bu 9000 i:=h.mono (by decide)
def EK (c:Bool)(h:Heap)(i l:Addr)(k:Nat):Prop:=if c=true then h.IsTupleIter i l k else h.IsListIter i l k
def t_ (c:Bool)(h:Heap)(l:Addr)(xs:ė Ç):Prop:=if c=true then h.IsTuple l xs else h.IsList l xs
theorem EK.at (x:EK c h i l k)(e:∀ o,h.get? i=À o->h'.get? i=À o):EK c h' i l k:=by
 cases c with
 | true=>obtain⟨o,ho,r⟩:=(show h.IsTupleIter i l k from x);exact(show h'.IsTupleIter i l k from⟨o,e o ho,r⟩)
 | false=>obtain⟨o,ho,r⟩:=(show h.IsListIter i l k from x);exact(show h'.IsListIter i l k from⟨o,e o ho,r⟩)
theorem t_.at (x:t_ c h l xs)(e:∀ o,h.get? l=À o->h'.get? l=À o):t_ c h' l xs:=by
 cases c with
 | true=>obtain⟨o,ho,r⟩:=(show h.IsTuple l xs from x);exact(show h'.IsTuple l xs from⟨o,e o ho,r⟩)
 | false=>obtain⟨o,ho,r⟩:=(show h.IsList l xs from x);exact(show h'.IsList l xs from⟨o,e o ho,r⟩)
theorem EK.obj (x:EK c h i l k):∃ o,h.get? i=À o/\∀ v,o.data≠.cell v:=by
 cases c with
 | true=>obtain⟨o,ho,_,d⟩:=(show h.IsTupleIter i l k from x);exact⟨o,ho,λ v z=>by rw[d]at z;cases z⟩
 | false=>obtain⟨o,ho,_,d⟩:=(show h.IsListIter i l k from x);exact⟨o,ho,λ v z=>by rw[d]at z;cases z⟩
section
variable {prog:ý}{w:ğ}{A:ō}{E:Ç->Ï->Prop}{s:Ï}
theorem v5 (hi:EK c s.heap i l k)(hl:t_ c s.heap l xs)(hx:xs[k]? = À v)
  (hQ:∀ h',EK c h' i l (k+1)->b_ i s.heap h'->Q v { s with heap:=h' }):ß (á prog w) A (ĵ (.ref i)) Q E s:=by
 cases c with
 | false=>exact wpAny_nextOf_list_item hi hl hx hQ
 | true=>
  have Ig:s.heap.IsTupleIter i l k:=hi
  obtain⟨o1,g1,g2,g3⟩:=id Ig
  obtain⟨o2,f1,_,n2,f3⟩:=(show s.heap.IsTuple l xs from hl)
  unfold ĵ
  refine Â (į (name:=ck "__next__") Ig.typeIs eM (ģ eM Ig.typeIs CL ?_ (Az _)))
  show ß _ _ (Mj (.ref i) 0 >>= _) _ _ s
  refine Â (ab g1 g3 (x:=.ref l) rfl ?_)
  show ß _ _ (if (ú l == ē)=true then _ else _) _ _ s
  rw[Ó (show ¬ ((ú l == ē)=true) from è)]
  show ß _ _ (Mj (.ref i) 1 >>= _) _ _ s
  refine Â (ab g1 g3 (x:=.int k 0) rfl ?_)
  show ß _ _ (uv (.ref l) >>= _) _ _ s
  refine Â (c9 f1 f3 ?_)
  simp only[cj,hx]
  refine Â (wpAny_setField g1 g3 (by simp) (Ê ⟨v,rfl,Ê (hQ _ (show Heap.IsTupleIter _ i l (k+1) from ?_) (gW ..))⟩))
  refine⟨_,dA _ g1 (Obj.isFreed_of_fields (MN g3 _)),(Obj.cls_mapFields ..).trans g2,?_⟩
  rw[MN g3]
  simp[bH]
theorem FE (hh:A.handled=none)(hi:EK c s.heap i l k)(hl:t_ c s.heap l xs)(hx:xs[k]? = none)
  (hE:∀ h' e,Heap.ExtBut i s.heap h'->(∃ o,h'.get? e=À o/\o.cls=.type "StopIteration")->E (.ref e) { s with heap:=h' }):ß (á prog w) A (ĵ (.ref i)) Q E s:=by
 cases c with
 | false=>exact wpAny_nextOf_list_end hh hi hl hx hE
 | true=>
  have Ig:s.heap.IsTupleIter i l k:=hi
  obtain⟨o1,g1,g2,g3⟩:=id Ig
  obtain⟨o2,f1,_,n2,f3⟩:=(show s.heap.IsTuple l xs from hl)
  unfold ĵ
  refine Â (į (name:=ck "__next__") Ig.typeIs eM (ģ eM Ig.typeIs CL ?_ (Az _)))
  show ß _ _ (Mj (.ref i) 0 >>= _) _ _ s
  refine Â (ab g1 g3 (x:=.ref l) rfl ?_)
  show ß _ _ (if (ú l == ē)=true then _ else _) _ _ s
  rw[Ó (show ¬ ((ú l == ē)=true) from è)]
  show ß _ _ (Mj (.ref i) 1 >>= _) _ _ s
  refine Â (ab g1 g3 (x:=.int k 0) rfl ?_)
  show ß _ _ (uv (.ref l) >>= _) _ _ s
  refine Â (c9 f1 f3 ?_)
  simp only[cj,hx]
  refine Â (b9 (Â (wpAny_setField g1 g3 (by simp) ?_)))
  show ß _ _ (newExc (.type "StopIteration") [] >>= _) _ _ _
  refine Â ?_
  simp only[newExc,newTuple]
  refine Â (ŝ ?_ (by size_fits))
  refine Â (m:=tN _ _) (t6 (a:=ē) (by first|rfl|(simp only[tN];rfl)) ?_)
  refine ŝ ?_ (by size_fits)
  simp only[raiseNew]
  refine Â (wpAny_handled ?_)
  first|rw[show A.in1.handled=none from hh]|rw[hh]
  refine Â (Ê (wpAny_throw ?_))
  exact hE _ _ (((gW ..).extBut.push _).push _) ⟨_,Þ _ rfl,rfl⟩
structure ZK (c1 c2:Bool)(h:Heap)(z a b i j l m:Addr)(k:Nat):Prop where
 zz:CN h z a b .none
 ins:oq h a (.ref i) (.ref j)
 out:∃ x y,oq h b x y
 i1:EK c1 h i l k
 i2:EK c2 h j m k
theorem PU (D:ZipApart z a b i j l m)(Z:ZK c1 c2 s.heap z a b i j l m k)
  (Fd:t_ c1 s.heap l xs) (Br:t_ c2 s.heap m ys) (hx:xs[k]? = À x) (hy:ys[k]? = À y)
  (hQ:∀ h',CN h' z a b (bH s.heap.objs.size)->oq h' a (.ref i) (.ref j)->oq h' b x y->EK c1 h' i l (k+1)->EK c2 h' j m (k+1)->oq h' s.heap.objs.size x y->
   (∀ d o,d≠z->d≠b->d≠i->d≠j->s.heap.get? d=À o->h'.get? d=À o)->Q (À (.ref s.heap.objs.size)) { s with heap:=h' }) :
  ß (á prog w) A (iI (.ref z)) Q E s:=by
 obtain⟨hz,Mv,⟨p1,p2,Nq⟩,h1,h2⟩:=Z
 have hT:s.TypeIs (.ref z) "zip":=⟨_,hz,rfl⟩
 unfold iI
 refine Â (jr (į (name:=ck "__next__") hT pX (ģ pX hT VN ?_ (US _))))
 show ß _ _ (Mj (.ref z) 2 >>= _) _ _ _
 refine Â (ab hz rfl (x:=.bool false) rfl ?_)
 show ß _ _ (Mj (.ref z) 3 >>= _) _ _ _
 refine Â (ab hz rfl (x:=.ref a) rfl ?_)
 refine Â (c9 Mv rfl ?_)
 show ß _ _ (az (.ref z) >>= _) _ _ _
 refine Â ?_
 unfold az
 refine Â (ab hz rfl (x:=.none) rfl (Ê ?_))
 simp only[aT]
 refine Â (b9 ?_)
 refine Â (ab hz rfl (x:=.ref b) rfl ?_)
 refine Â (Ĺ hz (by simp) λ q1 z1 t1=>?_)
 replace z1:CN q1 z a b .ellipsis:=z1
 refine Â ?_
 simp only[P2,Q6,ou,UW]
 refine Â (Â (wW ?_))
 show ß _ _ (ĵ (.ref i) >>= _) _ _ _
 refine Â (v5 (s:={ s with heap:=q1 }) (h1.at λ o e=>t1.extBut _ _ D.i1z e) (Fd.at λ o e=>t1.extBut _ _ D.l1z e) hx λ q2 i2 t2=>Ê ?_)
 have b2:oq q2 b p1 p2:=t2.extBut _ _ D.TOi1 (t1.extBut _ _ D.TOz Nq)
 refine Â (c9 b2 rfl ?_)
 refine Â (t9 b2 λ q3 b3 t3=>?_)
 replace b3:oq q3 b x p2:=b3
 refine Â (Rh (Ê ?_))
 refine Â (Â (wW ?_))
 show ß _ _ (ĵ (.ref j) >>= _) _ _ _
 refine Â (v5 (s:={ s with heap:=q3 }) (h2.at λ o e=>t3.extBut _ _ D.TOi2.symm (t2.extBut _ _ D.i12.symm (t1.extBut _ _ D.i2z e)))
  (Br.at λ o e=>t3.extBut _ _ D.l2TO (t2.extBut _ _ D.l2i1 (t1.extBut _ _ D.l2z e))) hy λ q4 j4 t4=>Ê ?_)
 have b4:oq q4 b x p2:=t4.extBut _ _ D.TOi2 b3
 refine Â (c9 b4 rfl ?_)
 refine Â (t9 b4 λ q5 b5 t5=>?_)
 replace b5:oq q5 b x y:=b5
 refine Â (Rh (Ê (Ê ?_)))
 refine Â (c9 b5 rfl ?_)
 refine Â (tZ ?_)
 have hsz:q5.objs.size=s.heap.objs.size:=by rw[t5.1,t4.1,t3.1,t2.1,t1.1]
 have z5:CN q5 z a b .ellipsis:=t5.extBut _ _ D.TOz.symm (t4.extBut _ _ D.i2z.symm (t3.extBut _ _ D.TOz.symm (t2.extBut _ _ D.i1z.symm z1)))
 have k5:∀ d o,d≠z->d≠b->d≠i->d≠j->s.heap.get? d=À o->q5.get? d=À o:=λ d o e1 e2 e3 e4 e=>
  t5.extBut _ _ e2 (t4.extBut _ _ e4 (t3.extBut _ _ e2 (t2.extBut _ _ e3 (t1.extBut _ _ e1 e))))
 have i5:EK c1 q5 i l (k+1):=i2.at λ o e=>t5.extBut _ _ D.TOi1.symm (t4.extBut _ _ D.i12 (t3.extBut _ _ D.TOi1.symm e))
 have j5:EK c2 q5 j m (k+1):=j4.at λ o e=>t5.extBut _ _ D.TOi2.symm e
 have zlt:z < q5.objs.size:=Ú z5
 show ß _ _ (kf (.ref z) (.ref q5.objs.size) >>= _) _ _ _
 refine Â ?_
 unfold kf
 have z6:CN (q5.push { cls:=.type "tuple",data:=.seq #[x,y] }) z a b .ellipsis:=Å _ z5
 refine Â (Ĺ z6 (by simp) λ q7 z7 t7=>?_)
 replace z7:CN q7 z a b (bH q5.objs.size):=z7
 refine Ĺ z7 (by simp) λ q8 z8 t8=>?_
 replace z8:CN q8 z a b (bH q5.objs.size):=z8
 have up:∀ d o,d≠z->q5.get? d=À o->q8.get? d=À o:=λ d o e1 e=>t8.extBut _ _ e1 (t7.extBut _ _ e1 (Å _ e))
 have T8:oq q8 q5.objs.size x y:=t8.extBut _ _ (ow zlt) (t7.extBut _ _ (ow zlt) (Þ _ rfl))
 rw[hsz]at z8 T8
 refine Ê ⟨_,rfl,Ê ?_⟩
 show Q (À (.ref q5.objs.size)) _
 rw[hsz]
 exact hQ q8 z8 (up _ _ D.TIz (k5 _ _ D.TIz D.TITO D.TIi1 D.TIi2 Mv)) (up _ _ D.TOz b5) (i5.at λ o e=>up _ o D.i1z e) (j5.at λ o e=>up _ o D.i2z e) T8 λ d o e1 e2 e3 e4 e=>up d o e1 (k5 d o e1 e2 e3 e4 e)
theorem UR (hh:A.handled=none)(D:ZipApart z a b i j l m)(Z:ZK c1 c2 s.heap z a b i j l m k)
  (Fd:t_ c1 s.heap l xs) (Br:t_ c2 s.heap m ys) (Nu:xs[k]? = none∨ys[k]? = none)
  (hQ:∀ h',(∀ d o,d≠z->d≠b->d≠i->d≠j->s.heap.get? d=À o->h'.get? d=À o)->Q none { s with heap:=h' }):ß (á prog w) A (iI (.ref z)) Q E s:=by
 obtain⟨hz,Mv,⟨p1,p2,Nq⟩,h1,h2⟩:=Z
 have hT:s.TypeIs (.ref z) "zip":=⟨_,hz,rfl⟩
 unfold iI
 have last:∀ h' e,(∀ d o,d≠z->d≠b->d≠i->d≠j->s.heap.get? d=À o->h'.get? d=À o)->(∃ o,h'.get? e=À o/\o.cls=.type "StopIteration")->
   ß (á prog w) A (do if <-isInstance (.ref e) (.type "StopIteration") then pure none else throw (.ref e):YN (Í Ç)) Q E { s with heap:=h' }:=λ h' e hk ⟨o,ho,hc⟩=>
  Â (AR (T:="StopIteration") (b:=true) ⟨o,ho,hc⟩ isSubtype_stop (Ê (hQ h' hk)))
 refine Â (jr (į (name:=ck "__next__") hT pX (ģ pX hT VN ?_ (US _))))
 show ß _ _ (Mj (.ref z) 2 >>= _) _ _ _
 refine Â (ab hz rfl (x:=.bool false) rfl ?_)
 show ß _ _ (Mj (.ref z) 3 >>= _) _ _ _
 refine Â (ab hz rfl (x:=.ref a) rfl ?_)
 refine Â (c9 Mv rfl ?_)
 show ß _ _ (az (.ref z) >>= _) _ _ _
 refine Â ?_
 unfold az
 refine Â (ab hz rfl (x:=.none) rfl (Ê ?_))
 simp only[aT]
 refine Â (b9 ?_)
 refine Â (ab hz rfl (x:=.ref b) rfl ?_)
 refine Â (Ĺ hz (by simp) λ q1 z1 t1=>?_)
 replace z1:CN q1 z a b .ellipsis:=z1
 refine Â ?_
 simp only[P2,Q6,ou,UW]
 refine Â (Â (wW ?_))
 show ß _ _ (ĵ (.ref i) >>= _) _ _ _
 cases hx:xs[k]? with
 | none=>
  refine Â (FE (s:={ s with heap:=q1 }) hh (h1.at λ o e=>t1.extBut _ _ D.i1z e) (Fd.at λ o e=>t1.extBut _ _ D.l1z e) hx λ q2 e t2 he=>?_)
  obtain⟨oe,Sn,WJ⟩:=he
  have z2:CN q2 z a b .ellipsis:=t2 _ _ D.i1z.symm z1
  have hez:e≠z:=λ x=>by subst x;rw[z2]at Sn;cases Sn;simp at WJ
  refine Ĺ z2 (by simp) λ q3 _ t3=>?_
  exact last q3 e (λ d o e1 _ e3 _ x=>t3.extBut _ _ e1 (t2 _ _ e3 (t1.extBut _ _ e1 x))) ⟨oe,t3.extBut _ _ hez Sn,WJ⟩
 | some x=>
  have hy:ys[k]? = none:=by
   rcases Nu with h|h
   ·rw[hx]at h;cases h
   ·exact h
  refine Â (v5 (s:={ s with heap:=q1 }) (h1.at λ o e=>t1.extBut _ _ D.i1z e) (Fd.at λ o e=>t1.extBut _ _ D.l1z e) hx λ q2 i2 t2=>Ê ?_)
  have b2:oq q2 b p1 p2:=t2.extBut _ _ D.TOi1 (t1.extBut _ _ D.TOz Nq)
  refine Â (c9 b2 rfl ?_)
  refine Â (t9 b2 λ q3 b3 t3=>?_)
  refine Â (Rh (Ê ?_))
  refine Â (Â (wW ?_))
  show ß _ _ (ĵ (.ref j) >>= _) _ _ _
  refine Â (FE (s:={ s with heap:=q3 }) hh (h2.at λ o e=>t3.extBut _ _ D.TOi2.symm (t2.extBut _ _ D.i12.symm (t1.extBut _ _ D.i2z e)))
   (Br.at λ o e=>t3.extBut _ _ D.l2TO (t2.extBut _ _ D.l2i1 (t1.extBut _ _ D.l2z e))) hy λ q4 e t4 he=>?_)
  obtain⟨oe,Sn,WJ⟩:=he
  have z4:CN q4 z a b .ellipsis:=t4 _ _ D.i2z.symm (t3.extBut _ _ D.TOz.symm (t2.extBut _ _ D.i1z.symm z1))
  have hez:e≠z:=λ x=>by subst x;rw[z4]at Sn;cases Sn;simp at WJ
  refine Ĺ z4 (by simp) λ q5 _ t5=>?_
  exact last q5 e (λ d o e1 e2 e3 e4 x=>t5.extBut _ _ e1 (t4 _ _ e4 (t3.extBut _ _ e2 (t2.extBut _ _ e3 (t1.extBut _ _ e1 x))))) ⟨oe,t5.extBut _ _ hez Sn,WJ⟩
theorem Kj (l m:Addr)(xs ys:ė Ç) :
  Meets (eF.«zip.__new__» ⟨[.type "zip",.ref l,.ref m],[]⟩) (λ _ R s=>s.heap.IsTuple l xs/\s.heap.IsTuple m ys/\
   R (.ok (.ret (.ref (s.heap.objs.size+4)))) { s with heap:=((((s.heap.push { cls:=.type "tuple_iterator",data:=.fields #[.ref l,.int 0 0] }).push { cls:=.type "tuple_iterator",data:=.fields #[.ref m,.int 0 0] }).push
    { cls:=.type "tuple",data:=.seq #[.ref s.heap.objs.size,.ref (s.heap.objs.size+1)] }).push { cls:=.type "tuple",data:=.seq #[.none,.none] }).push { cls:=.type "zip",data:=.fields #[.none,.bool false,.bool false,.ref (s.heap.objs.size+2),.ref (s.heap.objs.size+3)] } }):=
 .of_wp λ prog w A R s h=>by
  obtain⟨hp,g,d,tk,os⟩:=s;obtain⟨Fd,Br,h⟩:=h
  have aca:=sub_zip
  have hL1:YF (VY ⟨hp,g,d,tk,os⟩) l xs:=Fd
  have hL2:YF (VY ⟨hp.push { cls:=.type "tuple_iterator",data:=.fields #[.ref l,.int 0 0] },g,d,tk,os⟩) m ys:=abh Br _
  wp_walk using xb hL1,xb hL2
  simp only[ş]at h ⊢
  exact⟨_,rfl,h⟩
theorem L0 (Fd:t_ c s.heap l xs)(Br:t_ c s.heap m ys)
  (k:∀ h',ZK c c h' (s.heap.objs.size+4) (s.heap.objs.size+2) (s.heap.objs.size+3) s.heap.objs.size (s.heap.objs.size+1) l m 0->(∀ d o,s.heap.get? d=À o->h'.get? d=À o)->Q (.ref (s.heap.objs.size+4)) { s with heap:=h' }) :
  ß (á prog w) A (call (.type "zip") [.ref l,.ref m]) Q E s:=by
 cases c with
 | false=>exact call_zip_2 Fd Br λ h' hz Mv Nq Nv Qu _ hk=>k h' ⟨hz,Mv,⟨_,_,Nq⟩,Nv,Qu⟩ hk
 | true=>
  refine callType_new F.called_zip (by decide) (F.typeCall_zip_2 _ _) (F.newCall_zip_2 _ _) (λ obj=>F.args_object_init_3 obj _ _) F.entry_zip_new (Kj l m xs ys) ⟨Fd,Br,?_⟩
  have p:∀ (h:Heap) (o1 o2 o3 o4 o5:Obj) (d:Addr) (o:Obj),h.get? d=À o->(((((h.push o1).push o2).push o3).push o4).push o5).get? d=À o:=λ h o1 o2 o3 o4 o5 d o e=>
   Å _ (Å _ (Å _ (Å _ (Å _ e))))
  have q5:∀ (h:Heap) (o1 o2 o3 o4 o5:Obj),o5.isFreed=false->(((((h.push o1).push o2).push o3).push o4).push o5).get? (h.objs.size+4)=À o5:=λ h o1 o2 o3 o4 o5 f=>by
   have e:h.objs.size+4=((((h.push o1).push o2).push o3).push o4).objs.size:=by simp only[ş]
   rw[e];exact Þ _ f
  have q4:∀ (h:Heap) (o1 o2 o3 o4 o5:Obj),o4.isFreed=false->(((((h.push o1).push o2).push o3).push o4).push o5).get? (h.objs.size+3)=À o4:=λ h o1 o2 o3 o4 o5 f=>by
   have e:h.objs.size+3=(((h.push o1).push o2).push o3).objs.size:=by simp only[ş]
   rw[e];exact Å _ (Þ _ f)
  have q3:∀ (h:Heap) (o1 o2 o3 o4 o5:Obj),o3.isFreed=false->(((((h.push o1).push o2).push o3).push o4).push o5).get? (h.objs.size+2)=À o3:=λ h o1 o2 o3 o4 o5 f=>by
   have e:h.objs.size+2=((h.push o1).push o2).objs.size:=by simp only[ş]
   rw[e];exact Å _ (Å _ (Þ _ f))
  have q2:∀ (h:Heap) (o1 o2 o3 o4 o5:Obj),o2.isFreed=false->(((((h.push o1).push o2).push o3).push o4).push o5).get? (h.objs.size+1)=À o2:=λ h o1 o2 o3 o4 o5 f=>by
   have e:h.objs.size+1=(h.push o1).objs.size:=by simp only[ş]
   rw[e];exact Å _ (Å _ (Å _ (Þ _ f)))
  have q1:∀ (h:Heap) (o1 o2 o3 o4 o5:Obj),o1.isFreed=false->(((((h.push o1).push o2).push o3).push o4).push o5).get? h.objs.size=À o1:=λ h o1 o2 o3 o4 o5 f=>
   Å _ (Å _ (Å _ (Å _ (Þ _ f))))
  exact⟨⟨_,q5 _ _ _ _ _ _ rfl,rfl⟩,k _ ⟨q5 _ _ _ _ _ _ rfl,q3 _ _ _ _ _ _ rfl,⟨_,_,q4 _ _ _ _ _ _ rfl⟩,⟨_,q1 _ _ _ _ _ _ rfl,rfl,rfl⟩,⟨_,q2 _ _ _ _ _ _ rfl,rfl,rfl⟩⟩ λ d o e=>p _ _ _ _ _ _ d o e⟩
end
def yV (c:Bool)(K:Ô)(H:Hp)(a:Addr)(xs:Á V):Prop:=if c=true then iP K H a xs else f9 K H a xs
theorem Inv.VI (I:Inv X Ä σ H s)(h:yV c X.K H a xs):∃ its:Á Ç,Vals xs its/\t_ c s.heap a its.toArray:=by
 cases c with
 | true=>obtain⟨its,r,p,_⟩:=I.tuple (show iP X.K H a xs from h);exact⟨its,r,p⟩
 | false=>obtain⟨its,r,p,_⟩:=I.list (show f9 X.K H a xs from h);exact⟨its,r,p.isList⟩
theorem Inv.FY (I:Inv X Ä σ H s)(h:yV c X.K H a xs)(k:yV c X.K H a ys):xs=ys:=by
 cases c with
 | true=>exact I.sN (show iP X.K H a xs from h) k
 | false=>exact I.vS (show f9 X.K H a xs from h) k
def Itz (c:Bool)(K:Ô)(a b:Addr):It:=
  ⟨λ i H=>∃ xs ys x y,yV c K H a xs/\yV c K H b ys/\xs[i]? = À x/\ys[i]? = À y,
   λ i H v H'=>∃ T x y,v=.ref T/\H T=none/\H'=upd H T (.tup [x,y])/\∀ xs ys,yV c K H a xs->yV c K H b ys->xs[i]? = À x/\ys[i]? = À y,
   λ i H=>∃ xs ys,yV c K H a xs/\yV c K H b ys/\(xs.length<=i∨ys.length<=i)⟩
theorem Lx {K:Ô}{es:Á Ů}(c:Bool)(l m z a b i j:Addr)(D:ZipApart z a b i j l m) :
  Turn P w K (.Tuple es kk Ct) (Itz c K l m) [z,a,b,i,j] z (λ n h=>ZK c c h z a b i j l m n) where
 mem:=by simp
 obj:=λ n h st d hd=>by
  obtain⟨hz,Mv,⟨p1,p2,Nq⟩,h1,h2⟩:=st
  simp only[Ò,Ĉ,bz]at hd
  rcases hd with rfl|rfl|rfl|rfl|rfl
  ·exact⟨_,hz,λ v e=>nomatch e⟩
  ·exact⟨_,Mv,λ v e=>nomatch e⟩
  ·exact⟨_,Nq,λ v e=>nomatch e⟩
  ·exact h1.obj
  ·exact h2.obj
 keep:=λ n h h' st k=>by
  obtain⟨hz,Mv,⟨p1,p2,Nq⟩,h1,h2⟩:=st
  exact⟨k z (by simp) _ hz,k a (by simp) _ Mv,⟨p1,p2,k b (by simp) _ Nq⟩,h1.at λ o e=>k i (by simp) o e,h2.at λ o e=>k j (by simp) o e⟩
 item:=by
  intro X hP hw hK hc n Ä s σ H E I hf st hg
  subst hP hw hK
  obtain⟨xs,ys,x,y,Y_,WR,hx,hy⟩:=hg
  obtain⟨W4,r1,p1⟩:=I.VI Y_
  obtain⟨dh,r2,p2⟩:=I.VI WR
  obtain⟨u1,e1,ru1⟩:=r1.get hx
  obtain⟨u2,e2,ru2⟩:=r2.get hy
  refine PU D st p1 p2 (by simpa using e1) (by simpa using e2) λ h' z1 a1 b1 i1 j1 T1 kp=>?_
  refine⟨_,rfl,wpAny_letOwnedTupleGo_zip (s:={ s with heap:=h' }) z1 λ h2 z2 t2=>?_⟩
  have hTn:H s.heap.objs.size=none:=I.ar.fresh (Î _)
  have zT:s.heap.objs.size≠z:=ow (Ú (show s.heap.get? z=À _ from st.zz))
  have Ii:∀ d o,d∉[z,a,b,i,j]->s.heap.get? d=À o->h2.get? d=À o:=λ d o hd e=>by
   simp only[Ò,Ĉ,bz,not_or]at hd
   exact t2.extBut _ _ hd.1 (kp d o hd.1 hd.2.2.1 hd.2.2.2.1 hd.2.2.2.2 e)
  have T2:oq h2 s.heap.objs.size u1 u2:=t2.extBut _ _ zT T1
  have XD:∀ d o,H d=À o->d∉[z,a,b,i,j]:=λ d o e hd=>by rw[(hf d hd).1]at e;cases e
  have nT:∀ d o,H d=À o->d≠s.heap.objs.size:=λ d o e q=>by rw[q,hTn]at e;cases e
  have newOk:pf X.prog X.w (upd H s.heap.objs.size (.tup [x,y])) h2:=by
   intro d o e
   by_cases hd:d=s.heap.objs.size
   ·subst hd
    rw[Į]at e
    cases e
    exact⟨by show 2<=sizeLine;decide,[u1,u2],.cons ru1 (.cons ru2 .nil),_,T2,rfl,0,rfl⟩
   ·rw[ÿ hd]at e
    refine(I.ar d o e).Ce (λ q v hq r=>Ii q v ?_ r) (λ q r=>by rw[ÿ (nT q _ r)];exact r) (λ q xs' r=>by rw[ÿ (nT q _ r)];exact r)
    rcases hq with rfl|hq
    ·exact XD _ _ e
    ·exact XD _ _ hq
  have I2:Inv X Ä σ (upd H s.heap.objs.size (.tup [x,y])) { s with heap:=h2 }:=by
   refine I.step (g':=s.gens) (d':=s.drawn) (t':=s.toks) (ch:=[z,a,b,i,j]) (λ d hd=>⟨(hf d hd).2.2.2.1,(hf d hd).2.1,(hf d hd).2.2.2.2.1,(hf d hd).2.2.2.2.2⟩) (λ d o _ _ hd e _=>Ii d o hd e) (λ d o _ _ hd e _=>⟨o.slots,Ii d o hd e⟩)
    (λ d o hd e nn=>by rw[ÿ (Ć (Ú e))];exact nn) (λ d o hd e=>⟨o,Ii d o hd e⟩) (λ d xs' e=>by rw[ÿ (nT d _ e)];exact e) (λ d o u e=>by rw[ÿ (nT d _ e)];exact e)
    (λ d ps e=>⟨#[],by rw[ÿ (nT d _ e),e];simp⟩) (λ mm hm=>?_) newOk I.bare
   obtain⟨o,es',ep,ho,r⟩:=hm
   exact⟨o,es',ep,Ii _ o (λ hd=>(hf _ hd).2.1 rfl) ho,r⟩
  refine⟨.ref s.heap.objs.size,_,I2,rfl,⟨_,x,y,rfl,hTn,rfl,λ xs' xA k1 k2=>?_⟩,?_,λ d hd=>?_⟩
  ·rw[I.FY k1 Y_,I.FY k2 WR]
   exact⟨hx,hy⟩
  ·exact⟨z2,t2.extBut _ _ D.TIz a1,⟨_,_,t2.extBut _ _ D.TOz b1⟩,i1.at λ o e=>t2.extBut _ _ D.i1z e,j1.at λ o e=>t2.extBut _ _ D.i2z e⟩
  ·have hdn:d≠s.heap.objs.size:=by
    rintro rfl
    have lt:∀ {q:Addr}{o:Obj},s.heap.get? q=À o->s.heap.objs.size≠q:=λ e=>ow (Ú e)
    simp only[Ò,Ĉ,bz]at hd
    obtain⟨o1,g1,_⟩:=st.i1.obj
    obtain⟨o2,g2,_⟩:=st.i2.obj
    obtain⟨y1,y2,g3⟩:=st.out
    rcases hd with q|q|q|q|q
    ·exact lt st.zz q
    ·exact lt st.ins q
    ·exact lt g3 q
    ·exact lt g1 q
    ·exact lt g2 q
   rw[ÿ hdn]
   exact(hf d hd).1
 done:=by
  intro X hP hw hK hc n Ä s σ H E I hf st hg
  subst hP hw hK
  obtain⟨xs,ys,Y_,WR,hx⟩:=hg
  obtain⟨W4,r1,p1⟩:=I.VI Y_
  obtain⟨dh,r2,p2⟩:=I.VI WR
  have n1:=r1.length
  have n2:=r2.length
  refine UR (I.ok.hd hc) D st p1 p2 (hx.elim (λ q=>.inl (by simp;lia)) λ q=>.inr (by simp;lia)) λ h' kp=>⟨rfl,?_⟩
  have Ii:∀ d o,d∉[z,a,b,i,j]->s.heap.get? d=À o->h'.get? d=À o:=λ d o hd e=>by
   simp only[Ò,Ĉ,bz,not_or]at hd
   exact kp d o hd.1 hd.2.2.1 hd.2.2.2.1 hd.2.2.2.2 e
  have XD:∀ d o,H d=À o->d∉[z,a,b,i,j]:=λ d o e hd=>by rw[(hf d hd).1]at e;cases e
  have there:∀ d o,s.heap.get? d=À o->d∉[z,a,b,i,j]->∃ o',h'.get? d=À o':=λ d o e hd=>⟨o,Ii d o hd e⟩
  refine I.step (g':=s.gens) (d':=s.drawn) (t':=s.toks) (ch:=[z,a,b,i,j]) (λ d hd=>⟨(hf d hd).2.2.2.1,(hf d hd).2.1,(hf d hd).2.2.2.2.1,(hf d hd).2.2.2.2.2⟩) (λ d o _ _ hd e _=>Ii d o hd e) (λ d o _ _ hd e _=>⟨o.slots,Ii d o hd e⟩)
   (λ d o hd e nn=>nn) (λ d o hd e=>⟨o,Ii d o hd e⟩) (λ d xs' e=>e) (λ d o u e=>e) (λ d ps e=>⟨#[],by rw[e];simp⟩) (λ mm hm=>?_) (λ d o e=>?_) I.bare
  ·obtain⟨o,es',ep,ho,r⟩:=hm
   exact⟨o,es',ep,Ii _ o (λ hd=>(hf _ hd).2.1 rfl) ho,r⟩
  ·refine(I.ar d o e).Ce (λ q v hq r=>Ii q v ?_ r) (λ _ r=>r) (λ _ _ r=>r)
   rcases hq with rfl|hq
   ·exact XD _ _ e
   ·exact XD _ _ hq
 self:=λ _ _ _ _ _ st h=>ZO st.zz h
def aaz (K:Ô)(t:TA):TI:=λ σ H R=>t σ H λ vs H2=>∃ (c:Bool) (a b:Addr),vs=[.ref a,.ref b]/\(∃ xs,yV c K H2 a xs)/\(∃ ys,yV c K H2 b ys)/\R (Itz c K a b) H2
theorem T9 {X:Cx}{es:Á Ů}{ta tb:TE}(hg:Gl X "zip")(hm:X.mg "zip"=none)(h1:PE X e1 ta)(h2:PE X e2 tb)
  (hs:à [e1,e2] X.env=(false,Ŝ e1 X.env) :: à [e2] X.env:=by rfl) (DD:à [e2] X.env=[(false,Ŝ e2 X.env)]:=by rfl) (nc:(aO pos (à [e2] X.env)).any (·.1)=false:=by rfl) :
  PI X (.Tuple es kk Ct) (.Call (.Name "zip" p) [e1,e2] [] pos) (aaz X.K (Cm ta (Cm tb Pw))):=by
 intro Ä s σ H R I h
 refine mw (sA I hg hm abt ?_)
 refine cI (ak ((fM h1 (fM h2 lO DD) hs) pos Ä s σ H _ I h) λ us s1 zz=>kj zz λ vs H1 I1 r1 q1=>?_) hs nc
 obtain⟨c,a,b,rfl,⟨xs,hx⟩,⟨ys,hy⟩,q⟩:=q1
 obtain⟨u1,u2,rfl,ru1,ru2⟩:=vals2 r1
 cases ru1
 cases ru2
 obtain⟨W4,_,p1⟩:=I1.VI hx
 obtain⟨dh,_,p2⟩:=I1.VI hy
 have a1:a < s1.heap.objs.size:=by
  cases c with
  | true=>obtain⟨_,e,_⟩:=(show s1.heap.IsTuple a _ from p1);exact Ú e
  | false=>obtain⟨_,e,_⟩:=(show s1.heap.IsList a _ from p1);exact Ú e
 have a2:b < s1.heap.objs.size:=by
  cases c with
  | true=>obtain⟨_,e,_⟩:=(show s1.heap.IsTuple b _ from p2);exact Ú e
  | false=>obtain⟨_,e,_⟩:=(show s1.heap.IsList b _ from p2);exact Ú e
 refine L0 p1 p2 λ h' Z kp=>?_
 refine ZO (s:={ s1 with heap:=h' }) Z.zz ?_
 refine⟨_,_,_,_,H1,rfl,I1.kept (t':=s1.toks) kp,Lx c a b _ _ _ _ _ (zipApart_new a1 a2),Z,λ d hd=>?_,q⟩
 have hle:s1.heap.objs.size<=d:=by
  simp only[Ò,Ĉ,bz]at hd
  rcases hd with rfl|rfl|rfl|rfl|rfl
  ·exact iF _ _
  ·exact iF _ _
  ·exact iF _ _
  ·exact Î _
  ·exact iF _ _
 exact I1.Dx hle (I1.ar.fresh hle)
theorem GK (hc:X.calm=true):aQ X (.builtin "sum") (λ xs H Q=>∃ (a:Addr) (ns:Á Int),xs=[.ref a]/\f9 X.K H a (ns.map V.int)/\Q (.int ns.sum) H):=by
 intro Ä s σ H xs us Q I r h
 obtain⟨a,ns,rfl,ha,q⟩:=h
 obtain⟨u,rfl,ru⟩:=vals1 r
 cases ru
 obtain⟨its,rv,p,hz⟩:=I.list ha
 have hi:qa its ns:=intsAre_of rv
 obtain⟨ys,hy⟩:=hi.allInts.items
 refine sum_intListG (I.ok.hd hc) (hy ▸ p.isList) λ h' tk t' hk=>?_
 have g1:ns=ys.toList.map (·.1):=by
  rw[<-nums_intItems,<-hy]
  exact(show numsOf its.toArray.toList=ns from hi.numsOf).symm
 have g2:preSum (numAt ys) ys.size=ns.sum:=by rw[preSum_eq,List.take_of_length_le (by simp),g1]
 rw[g2]
 exact⟨.int ns.sum,H,I.kept (t':=tk) hk,⟨t',rfl⟩,q⟩
theorem iP.const {K:Ô}{its:ė Ç}{xs:Á V}(h:K.lookup a=À ⟨.type "tuple",od,.seq its n,sl⟩)(v:Vals xs its.toList)(hz:xs.length<=1000):iP K H a xs:=
 .inr ⟨_,its,n,h,rfl,rfl,by
  have h2:xs.length=its.size:=v.length
  rw[<-h2]
  exact Ŀ (Ş hz),v⟩
open PySem.Builtin.Str in
def Ul:V->Á V->Hp->VK->Prop:=λ x vs H Q=>∃ t sep,x=.str t/\vs=[.str sep]/\(decide (t.length < sep.length) || decide (strKind t < strKind sep))=false/\(sep.length == 0)=false/\(occurrences t sep 0 t.length (t.length+1)).isEmpty=false/\t.length<=1000/\
 (partsBetween t (occurrences t sep 0 t.length (t.length+1)) sep.length).length<=1000/\∀ l,H l=none->Q (.ref l) (upd H l (.lst ((partsBetween t (occurrences t sep 0 t.length (t.length+1)) sep.length).map V.str)))
theorem oY:∀ (n:Nat)(l:Á Str),Vals (l.map V.str) (strsFrom n l)
 | _,[]=>.nil
 | n,x :: r=>.cons ⟨n,rfl⟩ (oY (n+1) r)
theorem Kc:GG X "str.split" Ul:=by
 intro Ä s σ H x vs v us Q I rx rv h
 obtain⟨t,sep,rfl,rfl,h1,hy,hf,hz,hn,q⟩:=h
 obtain⟨tk,rfl⟩:=rx
 obtain⟨u,rfl,ru⟩:=rv.one
 obtain⟨tk2,rfl⟩:=ru
 refine jg F.slot_str_split ((Ex (T:="str") (x:=.str t) I ⟨tk,rfl⟩ rfl).1) F.entry_str_split (F.args_str_split_2 _ _) (meets_str_split_sep t sep tk tk2 h1 hy hf (Ŀ (Ş hz)) (Ŀ (Ş hn))) ?_
 refine⟨.ref s.heap.objs.size,_,I.J0 (t':=_) (oY s.toks _) ?_,rfl,q _ I.fresh⟩
 rw[Æ]
 exact Ŀ (Ş hn)
def Uh:V->Á V->Hp->VK->Prop:=λ x vs H Q=>∃ l xs y,x=.ref l/\vs=[y]/\H l=À (.lst xs)/\l9 y=true/\xs.all l9=true/\Q (.int ((xs.countP λ z=>g8 z y:Nat):Int)) H
theorem xW:∀ {xs:Á V}{us:Á Ç},Vals xs us->xs.all l9=true->us.countP (Jg x)=xs.countP λ z=>g8 z x
 | _,_,.nil,_=>rfl
 | y :: xs,u :: us,.cons r t,f=>by
  rw[Ĩ,ł]at f
  rw[wJ,wJ,xW t f.2,Du r f.1]
theorem J':GG X "list.count" Uh:=by
 intro Ä s σ H x vs v us Q I rx rv h
 obtain⟨l,xs,y,rfl,rfl,hH,fy,fx,q⟩:=h
 cases rx
 obtain⟨u,rfl,ru⟩:=rv.one
 obtain⟨z,its,n,r,hl,e⟩:=I.Hj hH
 refine jg F.slot_list_count ⟨_,e,rfl⟩ F.entry_list_count (F.args_list_count_2 _ _) (SeqAt.list_countAt l its.toArray n none #[] u (Jg y)) ⟨e,λ w hw=>qK ru fy r fx w (by simpa using hw),?_⟩
 refine⟨.int _,H,I.tok _,⟨_,rfl⟩,?_⟩
 rw[show its.toArray.toList=its from rfl,xW r fx]
 exact q
theorem Kx {X:Cx}{K:Ô}{es:Á Ů}{to:TE}{t:TA}{T id:String}{r:V->Á V->Hp->VK->Prop}(hK:X.K=K)(pa:wY T)(slot:Slot T name id)(NC:V5 (.builtin id)=pure (.type "method_descriptor")) (hm:GG X id r)(ho:PE X o to)(ha:PA X (e :: es) t)
  (kH:dS o name X.env (Ŝ o X.env)=Ŝ o X.env:=by rfl)
  (DA:((aO dD (à (e :: es) X.env)).all (λ x=>!x.1) && (Gx dD (tU [] X.env)).all (λ x=>x.1.isSome)
   && decide ((e :: es).length+([]:Á k7).length+(if ([]:Á k7).isEmpty then 0 else 1) < 30))=true:=by rfl)
  (kI:(lg.endLine == dD.line)=true:=by rfl) (hs:à (e :: es) X.env=(false,Ŝ e X.env) :: à es X.env:=by rfl) (pL:(aO dD (à es X.env)).any (·.1)=false:=by rfl) :
  PE X (.Call (.Attribute o name lg) (e :: es) [] dD) (tBM K T r to t):=by subst hK;exact X2 pa slot NC hm ho ha kH DA kI hs pL
theorem W5 {n:Nat}{i:Int}(h0:0<=i)(h1:i < n):Mn i n=À i.toNat:=by
 have:Av n i=À i.toNat:=by
  unfold Av
  rw[É h0,É h1]
 exact(zy this).1
end L2
namespace HT
open PySem PyProof.Rows
section
variable {prog:ý}{w:ğ}{A:ō}{E:Ç->Ï->Prop}{s:Ï}
theorem oE {items:ė Ç}{lo hi:Í Int}{Q:Ç->Ï->Prop}(ht:YG s.heap t items)(hs:s.heap.IsSliceOf sl vl vu .none)(pl:tK vl lo)(pu:tK vu hi)
  (h1:cV items.size 0 lo=0) (h2:cV items.size items.size hi=items.size) (h:Q (.ref t) s):ß (á prog w) A (n5 (.ref t) (.ref sl)) Q E s:=by
 obtain⟨os,Sq,Y3,WL⟩:=id hs
 have hTs:s.TypeIs (.ref sl) "slice":=⟨os,Sq,Y3⟩
 unfold n5
 try with_reducible refine Ŭ ?_
 first|refine Â (Ê ?_)|skip
 refine Â (YZ ht.typeIs (by decide) ?_)
 refine Â (į (name:=ck "__getitem__") ht.typeIs œ
  (ģ œ ht.typeIs U0 ?_ (V1 _ _)))
 show ß _ _ (rM (.ref t) >>= _) _ _ s
 refine Â (tupleItemsOf_ ht ?_)
 refine Â (qh hTs ?_)
 rw[É (by decide)]
 refine Â (kP hs pl pu ?_)
 have aay:((((cV items.size 0 lo:Nat):Int) == 0 && (1:Int) == 1 && (cV items.size items.size hi - cV items.size 0 lo) == items.size)=true):=by
  rw[h1,h2];simp
 show ß _ _ (if (((cV items.size 0 lo:Nat):Int) == 0 && (1:Int) == 1 && (cV items.size items.size hi - cV items.size 0 lo) == items.size)=true then _ else _) _ _ s
 rw[É aay]
 unfold Zs
 refine Â (Â (qh ht.typeIs (Ê ?_)))
 rw[É (by decide)]
 first
  | exact Â (b9 (Ê ⟨_,rfl,Ê h⟩))
  | exact Â (b9 (Â (Ê (Ê ⟨_,rfl,Ê h⟩))))
end
end HT
namespace L2
open PySem PySem.Spec PyProof.Rows
def Ug (K:Ô):R2:=λ x y H Q=>∃ a b xs ys,x=.ref a/\y=.ref b/\iP K H a xs/\iP K H b ys/\ys≠[]/\xs.length+ys.length<=sizeLine/\
 (xs=[]->Q (.ref b) H)/\(xs≠[]->∀ p,H p=none->Q (.ref p) (upd H p (.tup (xs++ys))))
theorem BY:fo X (Ŷ .Add) (Ug X.K):=by
 intro Ä s σ H x y v u Q I rx ry h
 obtain⟨a,b,xs,ys,rfl,rfl,ha,hb,hy,hz,q1,q2⟩:=h
 by_cases hx:xs=[]
 ·cases rx
  cases ry
  obtain⟨its,r1,p1,_⟩:=I.tuple ha
  obtain⟨dh,r2,p2,_⟩:=I.tuple hb
  obtain⟨⟨cls,dd,data,sl⟩,ho,hc,n,hd⟩:=id p1
  obtain⟨⟨RD,Qk,data2,QT⟩,dW,Jz,n2,hd2⟩:=id p2
  simp only at hc hd Jz hd2
  subst hc hd Jz hd2
  have he:its=[]:=r1.lN.mpr hx
  exact qf ⟨_,ho,rfl⟩ ⟨_,dW,rfl⟩ jh oz cJ cy (b8 _ _)
   (tuple_addW0 a b its.toArray dh.toArray n n2 dd Qk sl QT (by simp[he])) ⟨ho,dW,⟨.ref b,H,I,rfl,q1 hx⟩⟩
 ·exact Ov Ä s σ H (.ref a) (.ref b) v u Q I rx ry ⟨a,b,xs,ys,rfl,rfl,ha,hb,hx,hz,λ z=>absurd z hy,λ _=>q2 hx⟩
def Yg (K:Ô):V->Í Int->Í Int->Hp->VK->Prop:=λ x lo hi H Q=>∃ a xs,x=.ref a/\iP K H a xs/\
 ((HT.cV xs.length 0 lo=0/\HT.cV xs.length xs.length hi=xs.length)->Q (.ref a) H)/\(¬ (HT.cV xs.length 0 lo=0/\HT.cV xs.length xs.length hi=xs.length)->∀ p,H p=none->Q (.ref p) (upd H p (.tup (ve xs lo hi))))
theorem Pd:V_ X (Yg X.K):=by
 intro Ä s σ H x v vl vu lo hi sl Q I rx hs pl pu h
 obtain⟨a,xs,rfl,hx,q1,q2⟩:=h
 by_cases hw:HT.cV xs.length 0 lo=0/\HT.cV xs.length xs.length hi=xs.length
 ·cases rx
  obtain⟨its,r,ht,hz⟩:=I.tuple hx
  have hlen:its.toArray.size=xs.length:=by rw[Ý];exact r.length.symm
  refine⟨"tuple",_,œ.lookup,ht.typeIs,?_⟩
  exact HT.oE ht hs pl pu (by rw[hlen];exact hw.1) (by rw[hlen];exact hw.2) ⟨.ref a,H,I,rfl,q1 hw⟩
 ·exact Uw Ä s σ H (.ref a) v vl vu lo hi sl Q I rx hs pl pu ⟨a,xs,rfl,hx,hw,q2 hw⟩
open PySem.W
section
variable {prog:ý}{w:ğ}{A:ō}{E:Ç->Ï->Prop}{s:Ï}{K:Ô}{x C:Addr}{ox:Obj}{od:Í Obj}{name:Str}
end
section
variable {K:Ô}{C:Addr}{nm:Str}{bm:Á Ç}{ini:Í Ç}
end
def xcO (C e:Addr):HO:=.ext λ h=>∃ ox:Obj,h.get? e=À ox/\ox.cls=.ref C/\notCls ox=true/\ox.dict=none
section
variable {X:Cx}{Ä:Á (Addr × Obj)}{σ:St}{H:Hp}{s:Ï}{h':Heap}{a:Addr}{o:HO}
end
end L2
namespace L2
open PySem PySem.Spec PyProof.Rows
theorem mj:∀ {ns:Á Int}{us:Á Ç},qa us ns->Vals (ns.map V.int) us
 | _,_,.nil=>.nil
 | _,_,.cons x t h=>.cons ⟨t,rfl⟩ (mj h)
end L2
namespace Mm
open PySem L2
inductive AV where
 | ĥ|bl (b:Bool)|int (i:Int)|str (x:Str)|tup (xs:Á AV)|ref (i:Nat)|sq (xs:Á AV)
inductive AO where
 | lst (xs:Á AV)|dK (kvs:Á (Key × AV))|dT (kvs:Á (Á Key × AV))|ins (C:Nat) (fs:Á (Str × AV))|exc (C:Nat)|tab (i:Nat) (q:Str)
abbrev S:=Á AO
abbrev En:=Á (Í AV)
structure AX where
 cls:Nat
 fs:Á (Str × AV)
inductive R (α:Type) where
 | ok (a:α) (s:S)|ex (c:AX) (s:S)|bad
def R.bind {α β:Type}:R α->(α->S->R β)->R β
 | .ok a s,f=>f a s
 | .ex c s,_=>.ex c s
 | .bad,_=>.bad
inductive RS where
 | nx (e:En) (s:S)|rt (v:AV) (s:S)|bk (e:En) (s:S)|ct (e:En) (s:S)|ex (c:AX) (s:S)|bad
@[simp] theorem bI (a:α) (s:S) (f:α->S->R β):(R.ok a s).bind f=f a s:=rfl
@[simp] theorem Ķ (f:α->S->R β):(R.bad:R α).bind f=.bad:=rfl
structure Tx where
 K:Ô
 cl:Nat->Addr
def Qe (K:Ô)(H:Hp)(a:Addr)(xs:Á V):Prop:=
 (∃ o,H a=À (.yc o (.lst xs)))∨∃ (o:Obj) (its:ė Ç) (n:Nat),K.lookup a=À o/\o.cls=.type "list"/\o.dict=none/\o.data=.seq its n/\its.size<=sizeLine/\Vals xs its.toList
theorem Qe.FZ (h:Qe K H a xs):f9 K H a xs:=by
 rcases h with h|h
 ·exact .inl (.inr h)
 ·exact .inr h
mutual
def VR (T:Tx)(ρ:Á Addr)(H:Hp):AV->V->Prop
 | .ĥ,x=>x=.ĥ
 | .bl b,x=>x=.bl b
 | .int i,x=>x=.int i
 | .str z,x=>x=.str z
 | .tup xs,x=>∃ a vs,x=.ref a/\iP T.K H a vs/\Ĵ T ρ H xs vs
 | .ref i,x=>∃ a,ρ[i]? = À a/\x=.ref a
 | .sq xs,x=>∃ a vs,x=.ref a/\Qe T.K H a vs/\Ĵ T ρ H xs vs
def Ĵ (T:Tx)(ρ:Á Addr)(H:Hp):Á AV->Á V->Prop
 | [],vs=>vs=[]
 | v :: r,vs=>∃ x ys,vs=x :: ys/\VR T ρ H v x/\Ĵ T ρ H r ys
end
structure Gr (ρ:Á Addr)(H:Hp)(ħ:Á Addr)(H':Hp):Prop where
 pre:ρ <+: ħ
 mD:∀ b xs,H b=À (.tup xs)->H' b=À (.tup xs)
 jZ:∀ b o u,H b=À (.yc o u)->H' b=À (.yc o u)
structure Up (ρ:Á Addr)(H:Hp)(ħ:Á Addr)(H':Hp):Prop extends Gr ρ H ħ H' where
 fr:∀ b o,H b=À o->b∉ρ->H' b=À o/\b∉ħ
 live:∀ b,H' b=none->H b=none
theorem Up.refl:Up ρ H ρ H:=⟨⟨a7,λ _ _ h=>h,λ _ _ _ h=>h⟩,λ _ _ h n=>⟨h,n⟩,λ _ h=>h⟩
theorem Up.trans (a:Up ρ H ī H1)(b:Up ī H1 cR H2):Up ρ H cR H2:=
 ⟨⟨a.pre.trans b.pre,λ c xs h=>b.mD c xs (a.mD c xs h),λ c o u h=>b.jZ c o u (a.jZ c o u h)⟩,λ c o h n=>let ⟨h1,n1⟩:=a.fr c o h n;b.fr c o h1 n1,λ c h=>a.live c (b.live c h)⟩
theorem Up.add (a:Up ρ H ī H1)(h:H p=none):Up ρ H (ī++[p]) H1:=
 ⟨⟨a.pre.trans (fR _ _),a.mD,a.jZ⟩,λ b o e n=>⟨(a.fr b o e n).1,λ z=>by
  rcases ê.mp z with z|z
  ·exact(a.fr b o e n).2 z
  ·rw[ñ.mp z,h]at e;cases e⟩,a.live⟩
theorem FK {α:Type}{ρ ħ:Á α}(h:ρ <+: ħ){i:Nat}{a:α}(e:ρ[i]? = À a):ħ[i]? = À a:=by
 obtain⟨t,rfl⟩:=h
 rw[é]
 ·exact e
 ·exact(Ë.mp e).1
theorem Gr.VJ (u:Gr ρ H ħ H')(h:iP K H a vs):iP K H' a vs:=by
 rcases h with(h|⟨o,h⟩)|h
 ·exact .inl (.inl (u.mD _ _ h))
 ·exact .inl (.inr ⟨o,u.jZ _ _ _ h⟩)
 ·exact .inr h
theorem Gr.Zg (u:Gr ρ H ħ H')(h:Qe K H a vs):Qe K H' a vs:=by
 rcases h with⟨o,h⟩|h
 ·exact .inl ⟨o,u.jZ _ _ _ h⟩
 ·exact .inr h
section
variable {T:Tx}{ρ ħ:Á Addr}{H H':Hp}
mutual
theorem VR.gr (u:Gr ρ H ħ H'):∀ {v:AV}{x:V},VR T ρ H v x->VR T ħ H' v x
 | .ĥ,_,h=>h
 | .bl _,_,h=>h
 | .int _,_,h=>h
 | .str _,_,h=>h
 | .ref _,_,h=>by
  unfold VR at *
  obtain⟨a,h,e⟩:=h
  exact⟨a,FK u.pre h,e⟩
 | .tup _,_,h=>by
  unfold VR at *
  obtain⟨a,vs,e,h1,h2⟩:=h
  exact⟨a,vs,e,u.VJ h1,Ĵ.gr u h2⟩
 | .sq _,_,h=>by
  unfold VR at *
  obtain⟨a,vs,e,h1,h2⟩:=h
  exact⟨a,vs,e,u.Zg h1,Ĵ.gr u h2⟩
theorem Ĵ.gr (u:Gr ρ H ħ H'):∀ {l:Á AV}{xs:Á V},Ĵ T ρ H l xs->Ĵ T ħ H' l xs
 | [],_,h=>h
 | _ :: _,_,h=>by
  unfold Ĵ at *
  obtain⟨x,ys,e,h1,h2⟩:=h
  exact⟨x,ys,e,VR.gr u h1,Ĵ.gr u h2⟩
end
theorem VR.up (u:Up ρ H ħ H')(h:VR T ρ H v x):VR T ħ H' v x:=h.gr u.toGr
theorem Ĵ.up (u:Up ρ H ħ H')(h:Ĵ T ρ H v x):Ĵ T ħ H' v x:=h.gr u.toGr
theorem Ĵ.length:∀ {l:Á AV}{xs:Á V},Ĵ T ρ H l xs->l.length=xs.length
 | [],_,h=>by unfold Ĵ at h;subst h;rfl
 | _ :: _,_,h=>by
  unfold Ĵ at h
  obtain⟨x,ys,rfl,_,h2⟩:=h
  simp[Ĵ.length h2]
theorem Ĵ.nil:Ĵ T ρ H [] []:=by unfold Ĵ;rfl
theorem Ĵ.cons {v:AV}{x:V}{l:Á AV}{xs:Á V}(h:VR T ρ H v x)(k:Ĵ T ρ H l xs):Ĵ T ρ H (v :: l) (x :: xs):=by
 unfold Ĵ
 exact⟨x,xs,rfl,h,k⟩
theorem Ĵ.nil_inv (h:Ĵ T ρ H [] xs):xs=[]:=by unfold Ĵ at h;exact h
theorem Ĵ.cons_inv (h:Ĵ T ρ H (v :: l) xs):∃ x ys,xs=x :: ys/\VR T ρ H v x/\Ĵ T ρ H l ys:=by unfold Ĵ at h;exact h
theorem Ĵ.get:∀ {l:Á AV}{xs:Á V}{i:Nat}{v:AV},Ĵ T ρ H l xs->l[i]? = À v->∃ x,xs[i]? = À x/\VR T ρ H v x
 | [],_,_,_,_,e=>by simp at e
 | _ :: _,_,0,_,h,e=>by
  obtain⟨x,ys,rfl,h1,_⟩:=h.cons_inv
  simp at e;subst e
  exact⟨x,rfl,h1⟩
 | _ :: _,_,i+1,_,h,e=>by
  obtain⟨x,ys,rfl,_,h2⟩:=h.cons_inv
  exact Ĵ.get (i:=i) h2 (by simpa using e)
theorem Ĵ.append:∀ {l q:Á AV}{xs ys:Á V},Ĵ T ρ H l xs->Ĵ T ρ H q ys->Ĵ T ρ H (l++q) (xs++ys)
 | [],_,_,_,h,k=>by cases h.nil_inv;exact k
 | _ :: _,_,_,_,h,k=>by
  obtain⟨x,zs,rfl,h1,h2⟩:=h.cons_inv
  exact .cons h1 (Ĵ.append h2 k)
theorem Ĵ.one (h:VR T ρ H v x):Ĵ T ρ H [v] [x]:=.cons h .nil
theorem Ĵ.set:∀ {l:Á AV}{xs:Á V}{v:AV}{x:V}(i:Nat),Ĵ T ρ H l xs->VR T ρ H v x->Ĵ T ρ H (l.set i v) (xs.set i x)
 | [],_,_,_,_,h,_=>by cases h.nil_inv;exact .nil
 | _ :: _,_,_,_,0,h,k=>by
  obtain⟨x,zs,rfl,h1,h2⟩:=h.cons_inv
  exact .cons k h2
 | _ :: _,_,_,_,i+1,h,k=>by
  obtain⟨x,zs,rfl,h1,h2⟩:=h.cons_inv
  exact .cons h1 (Ĵ.set i h2 k)
theorem Ĵ.drop:∀ {l:Á AV}{xs:Á V}(n:Nat),Ĵ T ρ H l xs->Ĵ T ρ H (l.drop n) (xs.drop n)
 | _,_,0,h=>h
 | [],_,_+1,h=>by cases h.nil_inv;exact .nil
 | _ :: _,_,n+1,h=>by
  obtain⟨x,zs,rfl,h1,h2⟩:=h.cons_inv
  exact Ĵ.drop n h2
theorem Ĵ.take:∀ {l:Á AV}{xs:Á V}(n:Nat),Ĵ T ρ H l xs->Ĵ T ρ H (l.take n) (xs.take n)
 | _,_,0,h=>.nil
 | [],_,_+1,h=>by cases h.nil_inv;exact .nil
 | _ :: _,_,n+1,h=>by
  obtain⟨x,zs,rfl,h1,h2⟩:=h.cons_inv
  exact .cons h1 (Ĵ.take n h2)
theorem Ĵ.map {α:Type}{f:α->AV}{g:α->V}(h:∀ a,VR T ρ H (f a) (g a)):∀ (l:Á α),Ĵ T ρ H (l.map f) (l.map g)
 | []=>.nil
 | a :: r=>.cons (h a) (Ĵ.map h r)
theorem Ĵ.Bv:∀ {ns:Á Int}{xs:Á V},Ĵ T ρ H (ns.map AV.int) xs->xs=ns.map V.int
 | [],_,h=>h.nil_inv
 | _ :: _,_,h=>by
  obtain⟨x,zs,rfl,h1,h2⟩:=h.cons_inv
  unfold VR at h1
  rw[h1,Ĵ.Bv h2];rfl
theorem Ĵ.EV:∀ {ns:Á Bool}{xs:Á V},Ĵ T ρ H (ns.map AV.bl) xs->xs=ns.map V.bl
 | [],_,h=>h.nil_inv
 | _ :: _,_,h=>by
  obtain⟨x,zs,rfl,h1,h2⟩:=h.cons_inv
  unfold VR at h1
  rw[h1,Ĵ.EV h2];rfl
theorem bh:VR T ρ H (.int i) (.int i):=by unfold VR;rfl
theorem dw:VR T ρ H (.bl i) (.bl i):=by unfold VR;rfl
theorem sO:VR T ρ H (.str i) (.str i):=by unfold VR;rfl
theorem EA:VR T ρ H .ĥ .ĥ:=by unfold VR;rfl
theorem wC (h:ρ[i]? = À a):VR T ρ H (.ref i) (.ref a):=by unfold VR;exact⟨a,h,rfl⟩
theorem ja (h:iP T.K H a vs)(k:Ĵ T ρ H xs vs):VR T ρ H (.tup xs) (.ref a):=by unfold VR;exact⟨a,vs,rfl,h,k⟩
theorem VR.bq (h:VR T ρ H (.tup xs) x):∃ a vs,x=.ref a/\iP T.K H a vs/\Ĵ T ρ H xs vs:=by unfold VR at h;exact h
theorem VR.jH (h:VR T ρ H (.ref i) x):∃ a,ρ[i]? = À a/\x=.ref a:=by unfold VR at h;exact h
theorem VR.gF (h:VR T ρ H (.sq xs) x):∃ a vs,x=.ref a/\Qe T.K H a vs/\Ĵ T ρ H xs vs:=by unfold VR at h;exact h
theorem VR.int_inv (h:VR T ρ H (.int i) x):x=.int i:=by unfold VR at h;exact h
theorem VR.gg (h:VR T ρ H (.bl i) x):x=.bl i:=by unfold VR at h;exact h
theorem VR.str_inv (h:VR T ρ H (.str i) x):x=.str i:=by unfold VR at h;exact h
theorem VR.iL (h:VR T ρ H .ĥ x):x=.ĥ:=by unfold VR at h;exact h
def Wa (H:Hp)(q:Str)(ps:ė Ç):Prop:=TriplesOk ps.toList/\∀ pos cv,codeAmong pos ps.toList=À cv->∃ c oc u vs t,cv=.ref c/\H c=À (.yc oc u)/\oc.data=.fields vs/\vs[1]? = À (.str q t)
def OR (T:Tx)(ρ:Á Addr)(H:Hp):AO->Addr->Prop
 | .lst xs,a=>∃ vs,H a=À (.lst vs)/\Ĵ T ρ H xs vs
 | .dK kvs,a=>∃ ks:Á (Key × V),H a=À (.dK ks)/\kvs.map (·.1)=ks.map (·.1)/\Ĵ T ρ H (kvs.map (·.2)) (ks.map (·.2))
 | .dT kvs,a=>∃ ks:Á (Á Key × V),H a=À (.dT ks)/\kvs.map (·.1)=ks.map (·.1)/\Ĵ T ρ H (kvs.map (·.2)) (ks.map (·.2))
 | .ins C fs,a=>∃ (dx:Addr) (ks:Á (Str × V)),H a=À (.ins (T.cl C) dx ks)/\fs.map (·.1)=ks.map (·.1)/\Ĵ T ρ H (fs.map (·.2)) (ks.map (·.2))
 | .exc C,a=>H a=À (xcO (T.cl C) a)
 | .tab i q,a=>a=T.cl i/\∃ ps,H a=À (.PC ps)/\Wa H q ps
theorem OR.ex (h:OR T ρ H o a):∃ u,H a=À u:=by
 cases o with
 | lst xs=>obtain⟨_,h,_⟩:=h;exact⟨_,h⟩
 | dK xs=>obtain⟨_,h,_⟩:=h;exact⟨_,h⟩
 | dT xs=>obtain⟨_,h,_⟩:=h;exact⟨_,h⟩
 | ins C xs=>obtain⟨_,_,h,_⟩:=h;exact⟨_,h⟩
 | exc C=>exact⟨_,h⟩
 | tab i q=>obtain⟨_,_,h,_⟩:=h;exact⟨_,h⟩
theorem OR.up (u:Gr ρ H ħ H')(e:H' a=H a)(h:OR T ρ H o a):OR T ħ H' o a:=by
 cases o with
 | lst xs=>obtain⟨vs,h,k⟩:=h;exact⟨vs,e.trans h,k.gr u⟩
 | dK xs=>obtain⟨vs,h,q,k⟩:=h;exact⟨vs,e.trans h,q,k.gr u⟩
 | dT xs=>obtain⟨vs,h,q,k⟩:=h;exact⟨vs,e.trans h,q,k.gr u⟩
 | ins C xs=>obtain⟨dx,vs,h,q,k⟩:=h;exact⟨dx,vs,e.trans h,q,k.gr u⟩
 | exc C=>exact e.trans h
 | tab i q=>
  obtain⟨h1,ps,h2,h3,h4⟩:=h
  exact⟨h1,ps,e.trans h2,h3,λ pos cv z=>let ⟨c,oc,w,vs,t,k1,k2,k3⟩:=h4 pos cv z;⟨c,oc,w,vs,t,k1,u.jZ _ _ _ k2,k3⟩⟩
end
structure SR (T:Tx)(ρ:Á Addr)(s:S)(H:Hp):Prop where
 nd:ρ.Nodup
 len:ρ.length=s.length
 obj:∀ (i:Nat) (o:AO),s[i]? = À o->∃ a,ρ[i]? = À a/\OR T ρ H o a
section
variable {T:Tx}{ρ ħ:Á Addr}{s:S}{H H':Hp}
theorem SR.in (h:SR T ρ s H)(ha:a∈ρ):∃ u,H a=À u:=by
 obtain⟨i,hi,e⟩:=bc ha
 have Qu:i < s.length:=by rw[<-h.len];exact hi
 obtain⟨b,e2,q⟩:=h.obj i s[i] (Ñ Qu)
 rw[Ñ hi]at e2
 cases e2
 rw[e]at q
 exact q.ex
theorem SR.out (h:SR T ρ s H)(ha:H a=none):a∉ρ:=λ z=>by
 obtain⟨u,e⟩:=h.in z
 rw[ha]at e;cases e
theorem SR.fP (h:SR T ρ s H)(hp:H p=none):Up ρ H ρ (upd H p o):=
 ⟨⟨a7,λ b xs e=>by rw[ÿ (Ū e hp)];exact e,λ b o u e=>by rw[ÿ (Ū e hp)];exact e⟩,λ b u e n=>⟨by rw[ÿ (Ū e hp)];exact e,n⟩,λ b e=>by
  by_cases hb:b=p
  ·rw[hb];exact hp
  ·rw[ÿ hb]at e;exact e⟩
theorem SR.up (h:SR T ρ s H)(u:Gr ρ H ρ H')(k:∀ a∈ρ,H' a=H a):SR T ρ s H':=
 ⟨h.nd,h.len,λ i o e=>by
  obtain⟨a,e1,q⟩:=h.obj i o e
  exact⟨a,e1,q.up u (k a (Ŋ e1))⟩⟩
theorem SR.new (h:SR T ρ s H)(hp:H p=none):SR T ρ s (upd H p o):=
 h.up (h.fP hp).toGr λ a ha=>ÿ λ e=>h.out hp (e ▸ ha)
theorem SR.add (h:SR T ρ s H)(hp:p∉ρ)(k:OR T (ρ++[p]) H o p):SR T (ρ++[p]) (s++[o]) H:=by
 refine⟨gI.mpr ⟨h.nd,by simp,λ a ha b hb e=>hp (by rw[ñ.mp hb]at e;exact e ▸ ha)⟩,by simp[h.len],λ i q e=>?_⟩
 by_cases hi:i < s.length
 ·rw[é hi]at e
  obtain⟨a,e1,q1⟩:=h.obj i q e
  refine⟨a,by rw[é (by rw[h.len];exact hi)];exact e1,?_⟩
  exact q1.up ⟨fR _ _,λ _ _ e=>e,λ _ _ _ e=>e⟩ rfl
 ·rw[Ā (by lia)]at e
  have hz:i - s.length=0:=by
   have:=(Ë.mp e).1
   simp at this;lia
  rw[hz]at e
  cases e
  exact⟨p,by rw[Ā (by rw[h.len];lia),h.len,hz];rfl,k⟩
end
structure Rl (α β:Type) where
 r:Hp->Á Addr->Hp->α->β->Prop
 M5:∀ {H H1:Hp}{ρ:Á Addr}{H':Hp}{v:α}{x:β},(∀ b,H1 b=none->H b=none)->r H1 ρ H' v x->r H ρ H' v x
abbrev ia:=AX->Á Addr->S->Hp->Prop
def Out {α β:Type}(T:Tx)(XE:ia)(rl:Rl α β)(ρ:Á Addr)(H:Hp):R α->(β->Hp->Prop)->Prop
 | .ok v s,Q=>∀ ħ H' x,Up ρ H ħ H'->SR T ħ s H'->rl.r H ħ H' v x->Q x H'
 | .ex c s,_=>∀ ħ H',Up ρ H ħ H'->SR T ħ s H'->XE c ħ s H'
 | .bad,_=>False
theorem Out.up (u:Up ρ H ħ H')(h:Out T XE rl ρ H r Q):Out T XE rl ħ H' r Q:=by
 cases r with
 | ok v s=>exact λ cR H2 x u2 sr vr=>h cR H2 x (u.trans u2) sr (rl.M5 u.live vr)
 | ex c s=>exact λ cR H2 u2 sr=>h cR H2 (u.trans u2) sr
 | bad=>exact h
structure ER (T:Tx)(ρ:Á Addr)(H:Hp)(env:En)(σ:St):Prop where
 len:env.length=σ.length
 get:∀ (i:Nat) (v:AV),env[i]? = À (À v)->∃ x,σ[i]? = À (À x)/\VR T ρ H v x
theorem ER.up (u:Up ρ H ħ H')(h:ER T ρ H env σ):ER T ħ H' env σ:=
 ⟨h.len,λ i v e=>let ⟨x,e1,q⟩:=h.get i v e;⟨x,e1,q.up u⟩⟩
theorem ER.set (h:ER T ρ H env σ)(k:VR T ρ H v x):ER T ρ H (env.set i (À v)) (σ.set i (À x)):=by
 refine⟨by simp[h.len],λ j w e=>?_⟩
 by_cases Au:i=j
 ·subst Au
  have hl:i < env.length:=by
   have:=(Ë.mp e).1
   simpa using this
  rw[đ hl]at e
  cases e
  exact⟨x,by rw[đ (by rw[<-h.len];exact hl)],k⟩
 ·rw[ô Au]at e ⊢
  exact h.get j w e
def tG {α β:Type}(T:Tx)(XE:ia)(rl:Rl α β)(m:En->S->R α):St->Hp->(β->Hp->Prop)->Prop:=λ σ H Q=>
 ∃ ρ env s,SR T ρ s H/\ER T ρ H env σ/\Out T XE rl ρ H (m env s) Q
theorem step {rl:Rl α β} 
  (hs:SR T ρ s H) (he:ER T ρ H env σ) (ho:Out T XE rl2 ρ H ((m env s).bind k) Q)
  (hk:∀ v s1 ī H1 x,m env s=.ok v s1->Up ρ H ī H1->SR T ī s1 H1->ER T ī H1 env σ->rl.r H ī H1 v x->Out T XE rl2 ī H1 (k v s1) Q->F x H1):tG T XE rl m σ H F:=by
 refine⟨ρ,env,s,hs,he,?_⟩
 cases e:m env s with
 | ok v s1=>
  rw[e]at ho
  exact λ ī H1 x u sr vr=>hk v s1 ī H1 x e u sr (he.up u) vr (Out.up u ho)
 | ex c s1=>rw[e]at ho;exact ho
 | bad=>rw[e]at ho;exact ho
theorem Out.here (h:Out T XE rl ρ H (.ok v s) Q) (sr:SR T ρ s H)(r:rl.r H ρ H v x):Q x H:=h ρ H x .refl sr r
theorem Ŵ {α β:Type}{T:Tx}{XE:ia}{rl:Rl α β}{m:En->S->R α}{σ:St}{H:Hp}{Q:β->Hp->Prop}{P:Prop}(h:tG T XE rl m σ H Q)(k:∀ ρ env s,SR T ρ s H->ER T ρ H env σ->Out T XE rl ρ H (m env s) Q->P):P:=by
 obtain⟨ρ,env,s,hs,he,ho⟩:=h
 exact k ρ env s hs he ho
theorem PE.imp (h:PE X e t)(k:∀ σ H Q,t' σ H Q->t σ H Q):PE X e t':=λ Ä s σ H Q I hq=>h Ä s σ H Q I (k σ H Q hq)
theorem PT.imp (h:PT X e t)(k:∀ σ H Q,t' σ H Q->t σ H Q):PT X e t':=λ Ä s σ H Q I hq=>h Ä s σ H Q I (k σ H Q hq)
theorem PW.imp (h:PW X e t)(k:∀ σ H Q,t' σ H Q->t σ H Q):PW X e t':=λ wh Ä s σ H Q I hq=>h wh Ä s σ H Q I (k σ H Q hq)
theorem PA.imp (h:PA X e t)(k:∀ σ H Q,t' σ H Q->t σ H Q):PA X e t':=λ pos Ä s σ H Q I hq=>h pos Ä s σ H Q I (k σ H Q hq)
theorem PS.imp (h:PS X e t)(k:∀ D σ H,t' D σ H->t D σ H):PS X e t':=λ Ä s σ H Q I hq=>h Ä s σ H Q I (k Q σ H hq)
theorem p5.imp (h:p5 X e t)(k:∀ D σ H,t' D σ H->t D σ H):p5 X e t':=λ Ä s σ H Q I hq=>h Ä s σ H Q I (k Q σ H hq)
theorem PI.imp (h:PI X tg e t)(k:∀ σ H R,t' σ H R->t σ H R):PI X tg e t':=λ Ä s σ H Q I hq=>h Ä s σ H Q I (k σ H Q hq)
theorem PG.imp (h:PG X e t)(k:∀ v σ H Q,t' v σ H Q->t v σ H Q):PG X e t':=λ Ä s σ H v u Q I r hq=>h Ä s σ H v u Q I r (k v σ H Q hq)
theorem EM.imp (h:EM X e t)(k:∀ v σ H Q,t' v σ H Q->t v σ H Q):EM X e t':=λ Ä s σ H v u Q I r hq=>h Ä s σ H v u Q I r (k v σ H Q hq)
abbrev Ev:=En->S->R AV
abbrev jQ:=En->S->R (Á AV)
abbrev Eb:=En->S->R Bool
structure EJ (i:Int):Prop where
 f:bu 60000000 i
structure Rj (i:Int):Prop where
 f:bu 9000 i
instance {i:Int}:aN (EJ i):=eV _
instance {i:Int}:aN (Rj i):=eV _
def rV (T:Tx):Rl AV V:=⟨λ _ ρ H v x=>VR T ρ H v x,λ _ h=>h⟩
def rA (T:Tx):Rl (Á AV) (Á V):=⟨λ _ ρ H v x=>Ĵ T ρ H v x,λ _ h=>h⟩
def rB:Rl Bool Bool:=⟨λ _ _ _ b c=>b=c,λ _ h=>h⟩
def rL (T:Tx):Rl (Á AV) V:=⟨λ C_ ρ H xs x=>∃ a vs,x=.ref a/\C_ a=none/\a∉ρ/\H a=À (.lst vs)/\Ĵ T ρ H xs vs,λ k ⟨a,vs,e,h,r⟩=>⟨a,vs,e,k a h,r⟩⟩
def rQ (T:Tx):Rl (Á AV) V:=⟨λ _ ρ H xs x=>∃ a vs,x=.ref a/\(f9 T.K H a vs∨iP T.K H a vs)/\Ĵ T ρ H xs vs,λ _ h=>h⟩
theorem Out.Ĭ (h:Out T XE (rV T) ρ H (.ok v s) Q) (sr:SR T ρ s H)(r:VR T ρ H v x):Q x H:=h ρ H x .refl sr r
abbrev tE (T:Tx)(XE:ia)(m:Ev):TE:=tG T XE (rV T) m
abbrev tL (T:Tx)(XE:ia)(m:jQ):TE:=tG T XE (rL T) m
abbrev tQ (T:Tx)(XE:ia)(m:jQ):TE:=tG T XE (rQ T) m
abbrev tP (T:Tx)(XE:ia)(m:jQ):TA:=tG T XE (rA T) m
abbrev iT (T:Tx)(XE:ia)(m:Eb):TT:=tG T XE rB m
section
variable {T:Tx}{XE:ia}{X:Cx}{pos:ki}
def mv (i:Nat):Ev:=λ env s=>match env[i]? with
 | some (À v)=>.ok v s
 | _=>.bad
theorem aaE (h:PE X e (UE i)):PE X e (tE T XE (mv i)):=PE.imp h λ σ H Q zz=>Ŵ zz λ ρ env s hs he ho=>by
 unfold mv at ho
 split at ho
 ·rename_i v ev
  obtain⟨x,e1,q⟩:=he.get i v ev
  exact⟨x,e1,ho.Ĭ hs q⟩
 ·exact ho.elim
def mc (v:AV):Ev:=λ _ s=>.ok v s
theorem S7:PE X (.Constant (.int i) j pos) (tE T XE (mc (.int i))):=PE.imp TU λ σ H Q zz=>Ŵ zz λ ρ env s hs he ho=>ho.Ĭ hs bh
theorem Xl:PE X (.Constant (.bool i) j pos) (tE T XE (mc (.bl i))):=PE.imp X1 λ σ H Q zz=>Ŵ zz λ ρ env s hs he ho=>ho.Ĭ hs dw
theorem S_:PE X (.Constant .none j pos) (tE T XE (mc .ĥ)):=PE.imp TX λ σ H Q zz=>Ŵ zz λ ρ env s hs he ho=>ho.Ĭ hs EA
theorem Tc:PE X (.Constant (.str i) j pos) (tE T XE (mc (.str i))):=PE.imp T3 λ σ H Q zz=>Ŵ zz λ ρ env s hs he ho=>ho.Ĭ hs sO
theorem N3 (hg:Gl X x)(hm:X.mg x=À u)(r:RelV v u)(hv:∀ ρ H,VR T ρ H a v)(hd:(x == ("__debug__":Str))=false:=by decide):PE X (.Name x pos) (tE T XE (mc a)):=
 PE.imp (OF hg hm r hd) λ σ H Q zz=>Ŵ zz λ ρ env s hs he ho=>ho.Ĭ hs (hv ρ H)
def pQ (T:Tx)(XE:ia)(op:AV->AV->S->R AV):R2:=λ x y H Q=>∃ ρ v w s,SR T ρ s H/\VR T ρ H v x/\VR T ρ H w y/\Out T XE (rV T) ρ H (op v w s) Q
def r1M (T:Tx)(XE:ia)(op:AV->S->R AV):V->Hp->VK->Prop:=λ x H Q=>∃ ρ v s,SR T ρ s H/\VR T ρ H v x/\Out T XE (rV T) ρ H (op v s) Q
def Ö (op:AV->AV->S->R AV)(a b:Ev):Ev:=λ env s=>(a env s).bind λ v s1=>(b env s1).bind λ w s2=>op v w s2
def gR (op:AV->S->R AV)(a:Ev):Ev:=λ env s=>(a env s).bind λ v s1=>op v s1
theorem t2 (h:tE T XE (Ö op a b) σ H Q):Yu (pQ T XE op) (tE T XE a) (tE T XE b) σ H Q:=by
 obtain⟨ρ,env,s,hs,he,ho⟩:=h
 exact step hs he ho λ v s1 ī H1 x _ u1 Ŧ df ŧ Ĥ=>step Ŧ df Ĥ λ w s2 cR H2 y _ u2 jk lC p8 dW=>⟨cR,v,w,s2,jk,VR.up u2 ŧ,p8,dW⟩
theorem t1 (h:tE T XE (gR op a) σ H Q):tUn (r1M T XE op) (tE T XE a) σ H Q:=by
 obtain⟨ρ,env,s,hs,he,ho⟩:=h
 exact step hs he ho λ v s1 ī H1 x _ u1 Ŧ df ŧ Ĥ=>⟨ī,v,s1,Ŧ,ŧ,Ĥ⟩
theorem nu (DC:fo X (Ŷ o) (pQ T XE op)) (ha:PE X a (tE T XE m1)) (hb:PE X b (tE T XE m2)):PE X (.BinOp a o b pos) (tE T XE (Ö op m1 m2)):=
 PE.imp (X5 DC ha hb) λ _ _ _ h=>t2 h
theorem Xr (DC:Wc X (YX o) (r1M T XE op)) (ha:PE X a (tE T XE m1)):PE X (.UnaryOp o a pos) (tE T XE (gR op m1)):=
 PE.imp (X6 DC ha) λ _ _ _ h=>t1 h
theorem j9 (DC:fo X (ċ o) (pQ T XE op)) (ha:PE X a (tE T XE m1)) (hb:PE X b (tE T XE m2)) (hm:wN o b=false:=by rfl):PE X (.Compare a [o] [b] pos) (tE T XE (Ö op m1 m2)):=
 PE.imp (OB DC ha hb hm) λ _ _ _ h=>t2 h
theorem Xp (DC:U2 X (pQ T XE op)) (ha:PE X a (tE T XE m1)) (hb:PE X b (tE T XE m2)) (hs:EN b:=by exact λ _ _=>rfl):PE X (.Subscript a b pos) (tE T XE (Ö op m1 m2)):=
 PE.imp (X4 DC ha hb hs) λ _ _ _ h=>t2 h
theorem Out.alloc (h:Out T XE (rV T) ρ H (.ok (.ref s.length) (s++[o])) Q) (sr:SR T ρ s H)(hp:H p=none)(k:OR T (ρ++[p]) (upd H p u) o p):Q (.ref p) (upd H p u):=by
 have s1:SR T (ρ++[p]) (s++[o]) (upd H p u):=(sr.new hp).add (sr.out hp) k
 exact h _ _ _ ((sr.fP hp).add hp) s1 (wC (T:=T) (H:=upd H p u) (by rw[Ā (by rw[sr.len];exact Î _),sr.len,uT];rfl))
theorem Out.tup {ρ:Á Addr}{H:Hp}{s:S}{xs:Á AV}{vs:Á V}{p:Addr}{Q:VK}(h:Out T XE (rV T) ρ H (.ok (.tup xs) s) Q) (sr:SR T ρ s H)(hp:H p=none)(k:Ĵ T ρ H xs vs):Q (.ref p) (upd H p (.tup vs)):=
 h _ _ _ (sr.fP hp) (sr.new hp) (ja (iP.of Į) (Ĵ.up (sr.fP hp) k))
theorem Out.lst {ρ:Á Addr}{H:Hp}{s:S}{xs:Á AV}{vs:Á V}{p:Addr}{Q:VK}(h:Out T XE (rL T) ρ H (.ok xs s) Q) (sr:SR T ρ s H)(hp:H p=none)(k:Ĵ T ρ H xs vs):Q (.ref p) (upd H p (.lst vs)):=
 h _ _ _ (sr.fP hp) (sr.new hp) ⟨p,vs,rfl,hp,sr.out hp,Į,Ĵ.up (sr.fP hp) k⟩
theorem SR.dG (sr:SR T ρ s H)(e:s[i]? = À (.lst xs)) (h:VR T ρ H (.ref i) x):∃ a vs,x=.ref a/\ρ[i]? = À a/\H a=À (.lst vs)/\Ĵ T ρ H xs vs:=by
 obtain⟨a,e1,vs,h1,h2⟩:=sr.obj i _ e
 obtain⟨b,e2,rfl⟩:=h.jH
 rw[e1]at e2
 cases e2
 exact⟨a,vs,rfl,e1,h1,h2⟩
theorem SR.vg (sr:SR T ρ s H)(e:s[i]? = À (.dK xs)) (h:VR T ρ H (.ref i) x):∃ (a:Addr) (vs:Á (Key × V)),x=.ref a/\ρ[i]? = À a/\H a=À (.dK vs)/\xs.map (·.1)=vs.map (·.1)/\Ĵ T ρ H (xs.map (·.2)) (vs.map (·.2)):=by
 obtain⟨a,e1,vs,h1,h2⟩:=sr.obj i _ e
 obtain⟨b,e2,rfl⟩:=h.jH
 rw[e1]at e2
 cases e2
 exact⟨a,vs,rfl,e1,h1,h2⟩
theorem SR.Gh {ρ:Á Addr}{s:S}(sr:SR T ρ s H){i:Nat}(e:ρ[i]? = À a){u u0:HO}(h0:H a=À u0)(n1:∀ xs,u0≠.tup xs)(n2:∀ o v,u0≠.yc o v):Up ρ H ρ (upd H a u):=by
 refine⟨⟨a7,λ b xs h=>?_,λ b o v h=>?_⟩,λ b o h n=>⟨?_,n⟩,λ b h=>?_⟩
 ·rw[ÿ (qL h h0 λ z=>n1 xs z.symm)];exact h
 ·rw[ÿ (qL h h0 λ z=>n2 o v z.symm)];exact h
 ·rw[ÿ λ z=>n (by rw[z];exact Ŋ e)];exact h
 ·by_cases hb:b=a
  ·subst hb;rw[Į]at h;cases h
  ·rw[ÿ hb]at h;exact h
theorem SR.set (sr:SR T ρ s H)(e:ρ[i]? = À a)(up:Up ρ H ρ (upd H a u)) (k:OR T ρ (upd H a u) o a):SR T ρ (s.set i o) (upd H a u):=by
 refine⟨sr.nd,by simp[sr.len],λ j q ej=>?_⟩
 by_cases Au:i=j
 ·subst Au
  have hl:i < s.length:=by have:=(Ë.mp ej).1;simpa using this
  rw[đ hl]at ej
  cases ej
  exact⟨a,e,k⟩
 ·rw[ô Au]at ej
  obtain⟨b,e1,q1⟩:=sr.obj j q ej
  refine⟨b,e1,q1.up up.toGr (ÿ λ z=>Au ?_)⟩
  subst z
  have h1:=(Ë.mp e)
  have h2:=(Ë.mp e1)
  exact(iA sr.nd).mp (h1.2.trans h2.2.symm)
theorem Out.ų {α β:Type}{rl:Rl α β}{ρ:Á Addr}{c:Prop}{_:aN c}{r:R α}{Q:β->Hp->Prop}(h:Out T XE rl ρ H (if c then r else .bad) Q):c/\Out T XE rl ρ H r Q:=by
 by_cases hc:c
 ·rw[É hc]at h;exact⟨hc,h⟩
 ·rw[Ó hc]at h;exact h.elim
def need {α γ:Type}(o:Í γ)(f:γ->R α):R α:=match o with
 | some x=>f x
 | none=>.bad
@[simp] theorem ď (x:γ) (f:γ->R α):need (À x) f=f x:=rfl
theorem Out.Ē (h:Out T XE rl ρ H (need o f) Q):∃ x,o=À x/\Out T XE rl ρ H (f x) Q:=by
 cases o with
 | none=>exact h.elim
 | some x=>exact⟨x,rfl,h⟩
def û (s:S)(i:Nat):Í (Á AV):=match s[i]? with
 | some (.lst xs)=>À xs
 | _=>none
theorem ń (h:û s i=À xs):s[i]? = À (.lst xs):=by
 unfold û at h
 split at h
 ·cases h;assumption
 ·cases h
theorem og (h:s[i]? = À (.lst xs)):û s i=À xs:=by
 unfold û;rw[h]
def aj:AV->AV->S->R AV
 | .int i,.int j,s=>.ok (.int (i+j)) s
 | .str x,.str y,s=>if x.length+y.length<=sizeLine then .ok (.str (x++y)) s else .bad
 | .tup xs,.tup ys,s=>if ys≠[]/\xs.length+ys.length<=sizeLine then .ok (.tup (xs++ys)) s else .bad
 | .ref i,.ref j,s=>need (û s i) λ xs=>need (û s j) λ ys=>if xs.length+ys.length<=sizeLine then .ok (.ref s.length) (s++[.lst (xs++ys)]) else .bad
 | _,_,_=>.bad
theorem Ĵ.ne (h:Ĵ T ρ H l xs)(k:l≠[]):xs≠[]:=by
 intro z
 have:=h.length
 rw[z]at this
 exact k (Ź.mp this)
theorem OR.lst {ρ:Á Addr}{H:Hp}{a:Addr}{xs:Á AV}{vs:Á V}(h:H a=À (.lst vs)) (k:Ĵ T ρ H xs vs):OR T ρ H (.lst xs) a:=⟨vs,h,k⟩
theorem XH (hK:X.K=T.K):fo X (Ŷ .Add) (pQ T XE aj):=by
 rintro Ä s σ H x y v u Q I rx ry ⟨ρ,a,b,st,sr,va,vb,ho⟩
 cases a<;>cases b<;>try exact ho.elim
 ·exact TC Ä s σ H x y v u Q I rx ry ⟨_,_,va.int_inv,vb.int_inv,ho.Ĭ sr bh⟩
 ·obtain⟨hl,ho⟩:=ho.ų
  exact DY Ä s σ H x y v u Q I rx ry ⟨_,_,va.str_inv,vb.str_inv,hl,ho.Ĭ sr sO⟩
 ·obtain⟨hl,ho⟩:=ho.ų
  obtain⟨p,vs,rfl,h1,k1⟩:=va.bq
  obtain⟨q,ws,rfl,h2,k2⟩:=vb.bq
  refine BY Ä s σ H (.ref p) (.ref q) v u Q I rx ry ⟨p,q,vs,ws,rfl,rfl,hK ▸ h1,hK ▸ h2,k2.ne hl.1,by rw[<-k1.length,<-k2.length];exact hl.2,λ hx=>?_,λ _ r hr=>ho.tup sr hr (k1.append k2)⟩
  have NF:vs=[]:=hx
  subst NF
  exact ho.Ĭ sr (ja h2 (k1.append k2))
 ·obtain⟨xs,e1,ho⟩:=ho.Ē
  obtain⟨ys,e2,ho⟩:=ho.Ē
  obtain⟨hl,ho⟩:=ho.ų
  obtain⟨p,vs,rfl,_,h1,k1⟩:=sr.dG (ń e1) va
  obtain⟨q,ws,rfl,_,h2,k2⟩:=sr.dG (ń e2) vb
  refine TF Ä s σ H (.ref p) (.ref q) v u Q I rx ry ⟨p,q,vs,ws,rfl,rfl,h1,h2,by rw[<-k1.length,<-k2.length];exact hl,λ r hr=>ho.alloc sr hr ?_⟩
  exact OR.lst Į (Ĵ.gr ((sr.fP hr).add hr).toGr (k1.append k2))
def tu:AV->AV->S->R AV
 | .int i,.int j,s=>.ok (.int (i - j)) s
 | _,_,_=>.bad
theorem aaQ:fo X (Ŷ .Sub) (pQ T XE tu):=by
 rintro Ä s σ H x y v u Q I rx ry ⟨ρ,a,b,st,sr,va,vb,ho⟩
 cases a<;>cases b<;>try exact ho.elim
 exact TQ Ä s σ H x y v u Q I rx ry ⟨_,_,va.int_inv,vb.int_inv,ho.Ĭ sr bh⟩
def cO:AV->AV->S->R AV
 | .int i,.int j,s=>if EJ i/\EJ j then .ok (.int (i * j)) s else .bad
 | _,_,_=>.bad
theorem aaN:fo X (Ŷ .Mult) (pQ T XE cO):=by
 rintro Ä s σ H x y v u Q I rx ry ⟨ρ,a,b,st,sr,va,vb,ho⟩
 cases a<;>cases b<;>try exact ho.elim
 obtain⟨hl,ho⟩:=ho.ų
 exact Ox Ä s σ H x y v u Q I rx ry ⟨_,_,va.int_inv,vb.int_inv,⟨hl.1.f,hl.2.f⟩,ho.Ĭ sr bh⟩
def cU:AV->AV->S->R AV
 | .int i,.int j,s=>if j≠0/\Rj j then .ok (.int (i.fdiv j)) s else .bad
 | _,_,_=>.bad
theorem XM:fo X (Ŷ .FloorDiv) (pQ T XE cU):=by
 rintro Ä s σ H x y v u Q I rx ry ⟨ρ,a,b,st,sr,va,vb,ho⟩
 cases a<;>cases b<;>try exact ho.elim
 obtain⟨hl,ho⟩:=ho.ų
 exact Kt Ä s σ H x y v u Q I rx ry ⟨_,_,va.int_inv,vb.int_inv,⟨hl.1,hl.2.f⟩,ho.Ĭ sr bh⟩
def fL:AV->AV->S->R AV
 | .int i,.int j,s=>if j≠0 then .ok (.int (i.fmod j)) s else .bad
 | _,_,_=>.bad
theorem oMod:fo X (Ŷ .Mod) (pQ T XE fL):=by
 rintro Ä s σ H x y v u Q I rx ry ⟨ρ,a,b,st,sr,va,vb,ho⟩
 cases a<;>cases b<;>try exact ho.elim
 obtain⟨hl,ho⟩:=ho.ų
 exact Ow Ä s σ H x y v u Q I rx ry ⟨_,_,va.int_inv,vb.int_inv,hl,ho.Ĭ sr bh⟩
instance {i j:Int}:aN (IB i j):=inferInstanceAs (aN (0<=j/\j<=1000000/\i.natAbs < 2 ^ 64))
def BX:AV->AV->S->R AV
 | .int i,.int j,s=>if IB i j then .ok (.int (i ^ j.toNat)) s else .bad
 | _,_,_=>.bad
theorem aaP:fo X (Ŷ .Pow) (pQ T XE BX):=by
 rintro Ä s σ H x y v u Q I rx ry ⟨ρ,a,b,st,sr,va,vb,ho⟩
 cases a<;>cases b<;>try exact ho.elim
 obtain⟨hl,ho⟩:=ho.ų
 exact TM Ä s σ H x y v u Q I rx ry ⟨_,_,va.int_inv,vb.int_inv,hl,ho.Ĭ sr bh⟩
def eA:AV->S->R AV
 | .int i,s=>.ok (.int (-i)) s
 | _,_=>.bad
theorem aaO:Wc X (YX .USub) (r1M T XE eA):=by
 rintro Ä s σ H x v Q I rx ⟨ρ,a,st,sr,va,ho⟩
 cases a<;>try exact ho.elim
 exact UN Ä s σ H x v Q I rx ⟨_,va.int_inv,ho.Ĭ sr bh⟩
def nC:AV->AV->S->R AV
 | .int i,.int j,s=>.ok (.bl (decide (i < j))) s
 | .str i,.str j,s=>.ok (.bl (decide (i.cps.toList < j.cps.toList))) s
 | _,_,_=>.bad
theorem oLt:fo X (ċ .Lt) (pQ T XE nC):=by
 rintro Ä s σ H x y v u Q I rx ry ⟨ρ,a,b,st,sr,va,vb,ho⟩
 cases a<;>cases b<;>try exact ho.elim
 ·exact XY Ä s σ H x y v u Q I rx ry ⟨_,_,va.int_inv,vb.int_inv,ho.Ĭ sr dw⟩
 ·exact Hv Ä s σ H x y v u Q I rx ry ⟨_,_,va.str_inv,vb.str_inv,ho.Ĭ sr dw⟩
def j_:AV->AV->S->R AV
 | .int i,.int j,s=>.ok (.bl (decide (i<=j))) s
 | _,_,_=>.bad
theorem oLe:fo X (ċ .LtE) (pQ T XE j_):=by
 rintro Ä s σ H x y v u Q I rx ry ⟨ρ,a,b,st,sr,va,vb,ho⟩
 cases a<;>cases b<;>try exact ho.elim
 exact XX Ä s σ H x y v u Q I rx ry ⟨_,_,va.int_inv,vb.int_inv,ho.Ĭ sr dw⟩
def uf:AV->AV->S->R AV
 | .int i,.int j,s=>.ok (.bl (decide (j < i))) s
 | _,_,_=>.bad
theorem oGt:fo X (ċ .Gt) (pQ T XE uf):=by
 rintro Ä s σ H x y v u Q I rx ry ⟨ρ,a,b,st,sr,va,vb,ho⟩
 cases a<;>cases b<;>try exact ho.elim
 exact XW Ä s σ H x y v u Q I rx ry ⟨_,_,va.int_inv,vb.int_inv,ho.Ĭ sr dw⟩
def Kr:AV->AV->S->R AV
 | .int i,.int j,s=>.ok (.bl (decide (j<=i))) s
 | _,_,_=>.bad
theorem oGe:fo X (ċ .GtE) (pQ T XE Kr):=by
 rintro Ä s σ H x y v u Q I rx ry ⟨ρ,a,b,st,sr,va,vb,ho⟩
 cases a<;>cases b<;>try exact ho.elim
 exact XU Ä s σ H x y v u Q I rx ry ⟨_,_,va.int_inv,vb.int_inv,ho.Ĭ sr dw⟩
def toD:Nat->S->AV->Í Dt
 | _,_,.ĥ=>À .ĥ
 | _,_,.bl b=>À (.bl b)
 | _,_,.int b=>À (.int b)
 | _,_,.str b=>À (.str b)
 | n+1,s,.tup xs=>(xs.mapM (toD n s)).map .tup
 | n+1,s,.sq xs=>(xs.mapM (toD n s)).map .lst
 | n+1,s,.ref i=>(û s i).bind λ xs=>(xs.mapM (toD n s)).map .lst
 | _,_,_=>none
theorem vV (h:(a :: l).mapM f=À r):∃ b q,f a=À b/\l.mapM f=À q/\r=b :: q:=by
 rw[kg]at h
 cases e1:f a with
 | none=>rw[e1]at h;cases h
 | some b=>
  cases e2:l.mapM f with
  | none=>rw[e1,e2]at h;cases h
  | some q=>rw[e1,e2]at h;cases h;exact⟨b,q,rfl,rfl,rfl⟩
theorem uK (hf:∀ v d x,f v=À d->VR T ρ H v x->Rep T.K (λ _=>False) H d x):∀ {xs:Á AV}{l:Á Dt}{vs:Á V},xs.mapM f=À l->Ĵ T ρ H xs vs->c_ T.K (λ _=>False) H l vs
 | [],l,vs,h,k=>by
  rw[lY]at h
  cases h
  unfold c_
  exact k.nil_inv
 | a :: r,l,vs,h,k=>by
  obtain⟨b,q,h1,h2,rfl⟩:=vV h
  obtain⟨x,ys,rfl,k1,k2⟩:=k.cons_inv
  unfold c_
  exact⟨x,ys,rfl,hf a b x h1 k1,uK hf h2 k2⟩
theorem pR (sr:SR T ρ s H):∀ (n:Nat) (v:AV) (d:Dt) (x:V),toD n s v=À d->VR T ρ H v x->Rep T.K (λ _=>False) H d x
 | n,.ĥ,d,x,h,k=>by
  have h:À Dt.ĥ=À d:=by cases n<;>exact h
  cases h;unfold Rep;exact k.iL
 | n,.bl b,d,x,h,k=>by
  have h:À (Dt.bl b)=À d:=by cases n<;>exact h
  cases h;unfold Rep;exact k.gg
 | n,.int b,d,x,h,k=>by
  have h:À (Dt.int b)=À d:=by cases n<;>exact h
  cases h;unfold Rep;exact k.int_inv
 | n,.str b,d,x,h,k=>by
  have h:À (Dt.str b)=À d:=by cases n<;>exact h
  cases h;unfold Rep;exact k.str_inv
 | 0,.tup xs,d,x,h,k=>by cases h
 | 0,.sq xs,d,x,h,k=>by cases h
 | 0,.ref xs,d,x,h,k=>by cases h
 | n+1,.tup xs,d,x,h,k=>by
  have h:(xs.mapM (toD n s)).map Dt.tup=À d:=h
  obtain⟨a,vs,rfl,h1,k1⟩:=k.bq
  cases e:xs.mapM (toD n s) with
  | none=>rw[e]at h;cases h
  | some l=>
   rw[e]at h;cases h
   unfold Rep
   exact⟨a,vs,rfl,λ z=>z,h1,uK (λ v d x=>pR sr n v d x) e k1⟩
 | n+1,.sq xs,d,x,h,k=>by
  have h:(xs.mapM (toD n s)).map Dt.lst=À d:=h
  obtain⟨a,vs,rfl,h1,k1⟩:=k.gF
  cases e:xs.mapM (toD n s) with
  | none=>rw[e]at h;cases h
  | some l=>
   rw[e]at h;cases h
   unfold Rep
   exact⟨a,vs,rfl,λ z=>z,h1.FZ,uK (λ v d x=>pR sr n v d x) e k1⟩
 | n+1,.ref i,d,x,h,k=>by
  have h:(û s i).bind (λ xs=>(xs.mapM (toD n s)).map Dt.lst)=À d:=h
  cases e0:û s i with
  | none=>rw[e0]at h;cases h
  | some xs=>
   rw[e0]at h
   have h:(xs.mapM (toD n s)).map Dt.lst=À d:=h
   obtain⟨a,vs,rfl,_,h1,k1⟩:=sr.dG (ń e0) k
   cases e:xs.mapM (toD n s) with
   | none=>rw[e]at h;cases h
   | some l=>
    rw[e]at h;cases h
    unfold Rep
    exact⟨a,vs,rfl,λ z=>z,f9.of h1,uK (λ v d x=>pR sr n v d x) e k1⟩
def oC (s:S):AV->AV->Í Bool
 | .ĥ,.ĥ=>À true
 | .ĥ,.int _=>À false|.int _,.ĥ=>À false|.ĥ,.bl _=>À false|.bl _,.ĥ=>À false|.ĥ,.str _=>À false|.str _,.ĥ=>À false
 | .int i,.int j=>À (decide (i=j))
 | .bl i,.bl j=>À (decide (i=j))
 | .str i,.str j=>À (decide (i=j))
 | .int _,.str _=>À false|.str _,.int _=>À false|.bl _,.str _=>À false|.str _,.bl _=>À false
 | v,w=>match toD 20 s v,toD 20 s w with
  | some (.tup l),À (.tup q)=>if g6 l<=20 then À (g7 l q) else none
  | some (.lst l),À (.lst q)=>if g6 l<=20 then À (g7 l q) else none
  | _,_=>none
def cz (v w:AV)(s:S):R AV:=need (oC s v w) λ b=>.ok (.bl b) s
def aS (v w:AV)(s:S):R AV:=need (oC s v w) λ b=>.ok (.bl (!b)) s
def IE (s:S)(v w:AV)(b:Bool):Prop:=∃ (c:Bool) (l q:Á Dt),toD 20 s v=À (if c then .tup l else .lst l)/\toD 20 s w=À (if c then .tup q else .lst q)/\g6 l<=20/\b=g7 l q
theorem GQ (h:(match toD 20 s v,toD 20 s w with
  | some (.tup l),À (.tup q)=>if g6 l<=20 then À (g7 l q) else none
  | some (.lst l),À (.lst q)=>if g6 l<=20 then À (g7 l q) else none
  | _,_=>none)=À b):IE s v w b:=by
 split at h
 ·rename_i l q e1 e2
  split at h
  ·rename_i hd
   cases h
   exact⟨true,l,q,e1,e2,hd,rfl⟩
  ·cases h
 ·rename_i l q e1 e2
  split at h
  ·rename_i hd
   cases h
   exact⟨false,l,q,e1,e2,hd,rfl⟩
  ·cases h
 ·cases h
theorem Be (h:oC s v w=À b)(va:VR T ρ H v x)(vb:VR T ρ H w y):(Uu x y=true/\decide (x=y)=b)∨IE s v w b:=by
  cases v<;>cases w<;>first
    | exact .inr (GQ h)
    | (refine .inl ?_
       have h:À _=À b:=h
       cases h
       first
         | cases va.iL|cases va.int_inv|cases va.gg|cases va.str_inv
       first
         | cases vb.iL|cases vb.int_inv|cases vb.gg|cases vb.str_inv
       refine⟨rfl,?_⟩
       first
         | rfl
         | simp)
theorem oEq (hK:X.K=T.K)(hu:X.A.units+30 < cLine):fo X (ċ .Eq) (pQ T XE cz):=by
 rintro Ä s σ H x y v u Q I rx ry ⟨ρ,a,b,st,sr,va,vb,ho⟩
 obtain⟨c,e,ho⟩:=ho.Ē
 rcases Be e va vb with⟨h1,h2⟩|⟨t,l,q,e1,e2,hd,rfl⟩
 ·exact XT Ä s σ H x y v u Q I rx ry ⟨h1,by rw[h2];exact ho.Ĭ sr dw⟩
 ·refine TH hu Ä s σ H x y v u Q I rx ry ⟨λ _=>False,λ _=>False,l,q,t,⟨?_,?_⟩,hd,ho.Ĭ sr dw⟩
  ·exact hK ▸ pR sr 20 _ _ _ e1 va
  ·exact hK ▸ pR sr 20 _ _ _ e2 vb
theorem oNe (hK:X.K=T.K)(hu:X.A.units+30 < cLine):fo X (ċ .NotEq) (pQ T XE aS):=by
 rintro Ä s σ H x y v u Q I rx ry ⟨ρ,a,b,st,sr,va,vb,ho⟩
 obtain⟨c,e,ho⟩:=ho.Ē
 rcases Be e va vb with⟨h1,h2⟩|⟨t,l,q,e1,e2,hd,rfl⟩
 ·exact XZ Ä s σ H x y v u Q I rx ry ⟨h1,by rw[h2];exact ho.Ĭ sr dw⟩
 ·refine TL hu Ä s σ H x y v u Q I rx ry ⟨λ _=>False,λ _=>False,l,q,t,⟨?_,?_⟩,hd,ho.Ĭ sr dw⟩
  ·exact hK ▸ pR sr 20 _ _ _ e1 va
  ·exact hK ▸ pR sr 20 _ _ _ e2 vb
def kK:AV->Bool
 | .ĥ=>true
 | _=>false
def tm:AV->AV->S->R AV
 | v,.ĥ,s=>.ok (.bl (kK v)) s
 | _,_,_=>.bad
def Ou:AV->AV->S->R AV
 | v,.ĥ,s=>.ok (.bl (!kK v)) s
 | .bl a,.bl b,s=>.ok (.bl (a != b)) s
 | _,_,_=>.bad
theorem JO (h:VR T ρ H v x):decide (x=.ĥ)=kK v:=by
 cases v
 ·cases h.iL;rfl
 ·cases h.gg;rfl
 ·cases h.int_inv;rfl
 ·cases h.str_inv;rfl
 ·obtain⟨_,_,rfl,_⟩:=h.bq;rfl
 ·obtain⟨_,_,rfl⟩:=h.jH;rfl
 ·obtain⟨_,_,rfl,_⟩:=h.gF;rfl
theorem XN:fo X (ċ .Is) (pQ T XE tm):=by
 rintro Ä s σ H x y v u Q I rx ry ⟨ρ,a,b,st,sr,va,vb,ho⟩
 cases b<;>try (cases a<;>exact ho.elim)
 exact TJ Ä s σ H x y v u Q I rx ry ⟨vb.iL,by rw[JO va];cases a<;>exact ho.Ĭ sr dw⟩
def Ð:jQ:=λ _ s=>.ok [] s
def Ã (a:Ev)(r:jQ):jQ:=λ env s=>(a env s).bind λ v s1=>(r env s1).bind λ vs s2=>.ok (v :: vs) s2
theorem zN:PA X [] (tP T XE Ð):=PA.imp lO λ σ H Q zz=>Ŵ zz λ ρ env s hs he ho=>ho.here (x:=[]) hs (Ĵ.nil (T:=T) (ρ:=ρ) (H:=H))
theorem qS (ha:PE X e (tE T XE m)) (hr:PA X es (tP T XE r)) (hs:à (e :: es) X.env=(false,Ŝ e X.env) :: à es X.env:=by rfl):PA X (e :: es) (tP T XE (Ã m r)):=
 PA.imp (fM ha hr hs) λ σ H Q zz=>Ŵ zz λ ρ env s hs he ho=>
  step hs he ho λ v s1 ī H1 x _ u1 Ŧ df ŧ Ĥ=>step Ŧ df Ĥ λ w s2 cR H2 y _ u2 jk lC p8 dW=>dW.here jk (Ĵ.cons (VR.up u2 ŧ) p8)
def Ō (r:jQ):Ev:=λ env s=>(r env s).bind λ vs s1=>if vs.length<=sizeLine then .ok (.tup vs) s1 else .bad
theorem Td (h:PA X es (tP T XE r)):PE X (.Tuple es k pos) (tE T XE (Ō r)):=
 PE.imp (T4 h) λ σ H Q zz=>Ŵ zz λ ρ env s hs he ho=>step hs he ho λ v s1 ī H1 x _ u1 Ŧ df ŧ Ĥ=>by
  obtain⟨hl,Ĥ⟩:=Ĥ.ų
  have ŧ:Ĵ T ī H1 v x:=ŧ
  exact⟨by rw[<-ŧ.length];exact hl,λ p hp=>Ĥ.tup Ŧ hp ŧ⟩
def aL (r:jQ):jQ:=λ env s=>(r env s).bind λ vs s1=>if vs.length<=sizeLine then .ok vs s1 else .bad
theorem J6 (h:PA X es (tP T XE r)):PE X (.List es pos) (tL T XE (aL r)):=
 PE.imp (TV h) λ σ H Q zz=>Ŵ zz λ ρ env s hs he ho=>step hs he ho λ v s1 ī H1 x _ u1 Ŧ df ŧ Ĥ=>by
  obtain⟨hl,Ĥ⟩:=Ĥ.ų
  have ŧ:Ĵ T ī H1 v x:=ŧ
  exact⟨by rw[<-ŧ.length];exact hl,λ p hp=>Ĥ.lst Ŧ hp ŧ⟩
def Ę (r:jQ):Ev:=λ env s=>(r env s).bind λ vs s1=>.ok (.ref s1.length) (s1++[.lst vs])
theorem J4 (h:PE X e (tL T XE r)):PE X e (tE T XE (Ę r)):=
 PE.imp h λ σ H Q zz=>Ŵ zz λ ρ env s hs he ho=>by
  refine⟨ρ,env,s,hs,he,?_⟩
  unfold Ę at ho
  cases e:r env s with
  | bad=>rw[e]at ho;exact ho
  | ex c s1=>rw[e]at ho;exact ho
  | ok vs s1=>
   rw[e]at ho
   rintro ī H1 x u sr ⟨a,ws,e1,h0,h1,h2,k⟩
   subst e1
   have g:Gr ī H1 (ī++[a]) H1:=⟨fR _ _,λ _ _ z=>z,λ _ _ _ z=>z⟩
   refine ho (ī++[a]) H1 (.ref a) (u.add h0) (sr.add h1 (OR.lst h2 (k.gr g))) (wC (T:=T) (H:=H1) ?_)
   rw[Ā (by rw[sr.len];exact Î _),sr.len,uT];rfl
theorem Tn (h:PE X e (tL T XE r)):PE X e (tQ T XE r):=
 PE.imp h λ σ H Q zz=>Ŵ zz λ ρ env s hs he ho=>by
  refine⟨ρ,env,s,hs,he,?_⟩
  cases e:r env s with
  | bad=>rw[e]at ho;exact ho
  | ex c s1=>rw[e]at ho;exact ho
  | ok vs s1=>
   rw[e]at ho
   rintro ī H1 x u sr ⟨a,ws,e1,h0,h1,h2,k⟩
   exact ho ī H1 x u sr ⟨a,ws,e1,.inl (f9.of h2),k⟩
def items (v:AV)(s:S):Í (Á AV):=match v with
 | .tup xs=>À xs
 | .sq xs=>À xs
 | .ref i=>û s i
 | _=>none
theorem sy (h:items v s=À xs)(sr:SR T ρ s H)(va:VR T ρ H v x):∃ a vs,x=.ref a/\(f9 T.K H a vs∨iP T.K H a vs)/\Ĵ T ρ H xs vs:=by
 cases v<;>try cases h
 ·obtain⟨a,vs,rfl,h1,k⟩:=va.bq
  exact⟨a,vs,rfl,.inr h1,k⟩
 ·obtain⟨a,vs,rfl,_,h1,k⟩:=sr.dG (ń h) va
  exact⟨a,vs,rfl,.inl (f9.of h1),k⟩
 ·obtain⟨a,vs,rfl,h1,k⟩:=va.gF
  exact⟨a,vs,rfl,.inl h1.FZ,k⟩
def Hf (m:Ev):jQ:=λ env s=>(m env s).bind λ v s1=>need (items v s1) λ xs=>.ok xs s1
theorem Tj (h:PE X e (tE T XE m)):PE X e (tQ T XE (Hf m)):=
 PE.imp h λ σ H Q zz=>Ŵ zz λ ρ env s hs he ho=>step hs he ho λ v s1 ī H1 x _ u1 Ŧ df ŧ Ĥ=>by
  obtain⟨xs,e,Ĥ⟩:=Ĥ.Ē
  exact Ĥ ī H1 x .refl Ŧ (sy e Ŧ ŧ)
mutual
def AV.low (b:Nat):AV->Bool
 | .ref i=>decide (i < b)
 | .tup xs=>ķ b xs
 | .sq xs=>ķ b xs
 | _=>true
def ķ (b:Nat):Á AV->Bool
 | []=>true
 | v :: r=>v.low b && ķ b r
end
mutual
theorem VR.cut (e:ħ.take b=ρ):∀ {v:AV}{x:V},v.low b=true->VR T ħ H v x->VR T ρ H v x
 | .ĥ,_,_,h=>by unfold VR at *;exact h
 | .bl _,_,_,h=>by unfold VR at *;exact h
 | .int _,_,_,h=>by unfold VR at *;exact h
 | .str _,_,_,h=>by unfold VR at *;exact h
 | .ref i,_,k,h=>by
  obtain⟨a,e1,rfl⟩:=h.jH
  unfold AV.low at k
  exact wC (by rw[<-e,cx (Ė k)];exact e1)
 | .tup xs,_,k,h=>by
  obtain⟨a,vs,rfl,h1,h2⟩:=h.bq
  unfold AV.low at k
  exact ja h1 (Ĵ.cut e k h2)
 | .sq xs,_,k,h=>by
  obtain⟨a,vs,rfl,h1,h2⟩:=h.gF
  unfold AV.low at k
  unfold VR
  exact⟨a,vs,rfl,h1,Ĵ.cut e k h2⟩
theorem Ĵ.cut (e:ħ.take b=ρ):∀ {v:Á AV}{x:Á V},ķ b v=true->Ĵ T ħ H v x->Ĵ T ρ H v x
 | [],_,_,h=>by cases h.nil_inv;exact .nil
 | _ :: _,_,k,h=>by
  obtain⟨x,ys,rfl,h1,h2⟩:=h.cons_inv
  unfold ķ at k
  rw[ł]at k
  exact .cons (VR.cut e k.1 h1) (Ĵ.cut e k.2 h2)
end
mutual
theorem VR.low:∀ {v:AV}{x:V},VR T ρ H v x->v.low ρ.length=true
 | .ĥ,_,_=>by unfold AV.low;rfl
 | .bl _,_,_=>by unfold AV.low;rfl
 | .int _,_,_=>by unfold AV.low;rfl
 | .str _,_,_=>by unfold AV.low;rfl
 | .ref i,_,h=>by
  obtain⟨a,e1,rfl⟩:=h.jH
  unfold AV.low
  exact ø (Ë.mp e1).1
 | .tup xs,_,h=>by
  obtain⟨a,vs,rfl,h1,h2⟩:=h.bq
  unfold AV.low
  exact Ĵ.low h2
 | .sq xs,_,h=>by
  obtain⟨a,vs,rfl,h1,h2⟩:=h.gF
  unfold AV.low
  exact Ĵ.low h2
theorem Ĵ.low:∀ {v:Á AV}{x:Á V},Ĵ T ρ H v x->ķ ρ.length v=true
 | [],_,_=>by unfold ķ;rfl
 | _ :: _,_,h=>by
  obtain⟨x,ys,rfl,h1,h2⟩:=h.cons_inv
  unfold ķ
  rw[VR.low h1,Ĵ.low h2];rfl
end
def AO.low (b:Nat):AO->Bool
 | .lst xs=>ķ b xs
 | .dK kvs=>ķ b (kvs.map (·.2))
 | .dT kvs=>ķ b (kvs.map (·.2))
 | .ins _ fs=>ķ b (fs.map (·.2))
 | .exc _=>true
 | .tab _ _=>true
theorem OR.low (h:OR T ρ H o a):o.low ρ.length=true:=by
 cases o with
 | lst xs=>obtain⟨_,_,k⟩:=h;exact k.low
 | dK xs=>obtain⟨_,_,_,k⟩:=h;exact k.low
 | dT xs=>obtain⟨_,_,_,k⟩:=h;exact k.low
 | ins C xs=>obtain⟨_,_,_,_,k⟩:=h;exact k.low
 | exc C=>rfl
 | tab i q=>rfl
theorem OR.cut (e:ħ.take b=ρ)(k:o.low b=true)(h:OR T ħ H o a):OR T ρ H o a:=by
 cases o with
 | lst xs=>obtain⟨vs,h1,h2⟩:=h;exact⟨vs,h1,Ĵ.cut e k h2⟩
 | dK xs=>obtain⟨vs,h1,q,h2⟩:=h;exact⟨vs,h1,q,Ĵ.cut e k h2⟩
 | dT xs=>obtain⟨vs,h1,q,h2⟩:=h;exact⟨vs,h1,q,Ĵ.cut e k h2⟩
 | ins C xs=>obtain⟨dx,vs,h1,q,h2⟩:=h;exact⟨dx,vs,h1,q,Ĵ.cut e k h2⟩
 | exc C=>exact h
 | tab i q=>exact h
theorem SR.closed (sr:SR T ρ s H):s.all (AO.low s.length)=true:=by
 rw[ü]
 intro o ho
 obtain⟨i,hi,e⟩:=bc ho
 obtain⟨a,_,q⟩:=sr.obj i o (by rw[Ñ hi,e])
 rw[<-sr.len]
 exact q.low
theorem SR.cut (sr:SR T ħ s' H)(hl:ρ <+: ħ)(hb:ρ.length=b)(k:(s'.take b).all (AO.low b)=true):SR T ρ (s'.take b) H:=by
 have e:ħ.take b=ρ:=by obtain⟨t,rfl⟩:=hl;rw[<-hb,Ő];rfl
 have hle:b<=s'.length:=by rw[<-hb,<-sr.len];exact hl.length_le
 refine⟨?_,by rw[eG,Nat.min_eq_left hle];exact hb,λ i o ei=>?_⟩
 ·rw[<-e];exact sr.nd.sublist (ML _ _)
 ·have hi:i < b:=by have:=(Ë.mp ei).1;rw[eG]at this;lia
  have ei':=ei
  rw[cx hi]at ei
  obtain⟨a,e1,q⟩:=sr.obj i o ei
  refine⟨a,by rw[<-e,cx hi];exact e1,q.cut e ?_⟩
  exact ü.mp k o (Ŋ ei')
theorem Up.cut (u:Up ρ H ħ H'):Up ρ H ρ H':=⟨⟨a7,u.mD,u.jZ⟩,λ b o e n=>⟨(u.fr b o e n).1,n⟩,u.live⟩
def pD (m:Ev):Ev:=λ env s=>(m env s).bind λ v s1=>open Classical in if s1.take s.length=s/\v.low s.length=true then .ok v s else .bad
theorem Xn (h:PE X e (tE T XE m)):PE X e (tE T XE (pD m)):=
 PE.imp h λ σ H Q zz=>Ŵ zz λ ρ env s hs he ho=>by
  refine⟨ρ,env,s,hs,he,?_⟩
  unfold pD at ho
  cases e:m env s with
  | bad=>rw[e]at ho;exact ho
  | ex c s1=>rw[e]at ho;exact ho
  | ok v s1=>
   rw[e]at ho
   obtain⟨⟨e1,e2⟩,ho⟩:=ho.ų
   intro ī H1 x u sr vr
   have hc:=hs.closed
   have et:ī.take s.length=ρ:=by obtain⟨t,rfl⟩:=u.pre;rw[<-hs.len,Ő];rfl
   refine ho ρ H1 x u.cut ?_ (VR.cut et e2 vr)
   have:=sr.cut u.pre hs.len (by rw[e1];exact hc)
   rw[e1]at this
   exact this
def Ar (m:Ev):Ev:=λ env s=>(m env s).bind λ v s1=>if (s1.take s.length).all (AO.low s.length)=true/\v.low s.length=true then .ok v (s1.take s.length) else .bad
theorem S6 (h:PE X e (tE T XE m)):PE X e (tE T XE (Ar m)):=
 PE.imp h λ σ H Q zz=>Ŵ zz λ ρ env s hs he ho=>by
  refine⟨ρ,env,s,hs,he,?_⟩
  unfold Ar at ho
  cases e:m env s with
  | bad=>rw[e]at ho;exact ho
  | ex c s1=>rw[e]at ho;exact ho
  | ok v s1=>
   rw[e]at ho
   obtain⟨⟨e1,e2⟩,ho⟩:=ho.ų
   intro ī H1 x u sr vr
   have et:ī.take s.length=ρ:=by obtain⟨t,rfl⟩:=u.pre;rw[<-hs.len,Ő];rfl
   exact ho ρ H1 x u.cut (sr.cut u.pre hs.len e1) (VR.cut et e2 vr)
def aH (m:Ev):jQ:=λ env s=>(m env s).bind λ v s1=>match v with
 | .ref k=>need (û s1 k) λ xs=>if s.length<=k/\(s1.take s.length).all (AO.low s.length)=true/\ķ s.length xs=true then .ok xs (s1.take s.length) else .bad
 | _=>.bad
theorem N9 (h:PE X e (tE T XE m)):PE X e (tL T XE (aH m)):=
 PE.imp h λ σ H Q zz=>Ŵ zz λ ρ env s hs he ho=>by
  refine⟨ρ,env,s,hs,he,?_⟩
  unfold aH at ho
  cases e:m env s with
  | bad=>rw[e]at ho;exact ho
  | ex c s1=>rw[e]at ho;exact ho
  | ok v s1=>
   rw[e]at ho
   cases v with
   | ref k=>
    obtain⟨xs,e0,ho⟩:=ho.Ē
    obtain⟨⟨hk,e1,e2⟩,ho⟩:=ho.ų
    intro ī H1 x u sr vr
    obtain⟨a,vs,rfl,ea,h1,k1⟩:=sr.dG (ń e0) vr
    have et:ī.take s.length=ρ:=by obtain⟨t,rfl⟩:=u.pre;rw[<-hs.len,Ő];rfl
    have na:a∉ρ:=λ z=>by
     obtain⟨j,hj,ej⟩:=bc z
     have e3:ī[j]? = À a:=FK u.pre (by rw[Ñ hj,ej])
     have h3:=Ë.mp ea
     have h4:=Ë.mp e3
     have:k=j:=(iA sr.nd).mp (h3.2.trans h4.2.symm)
     rw[hs.len]at hj
     lia
    refine ho ρ H1 (.ref a) u.cut (sr.cut u.pre hs.len e1) ⟨a,vs,rfl,?_,na,h1,Ĵ.cut et e2 k1⟩
    cases eH:H a with
    | none=>rfl
    | some o=>exact absurd (Ŋ ea) (u.fr a o eH na).2
   | ĥ=>exact ho.elim
   | bl b=>exact ho.elim
   | int b=>exact ho.elim
   | str b=>exact ho.elim
   | tup b=>exact ho.elim
   | sq b=>exact ho.elim
theorem yf (h:Out T XE rB ρ H (.ok b s) Q) (sr:SR T ρ s H):Q b H:=h ρ H b .refl sr rfl
def truth (v:AV)(s:S):Í Bool:=match v with
 | .ĥ=>À false
 | .bl b=>À b
 | .int i=>À (i != 0)
 | .str x=>if x.length<=sizeLine then À ((x.length:Int) != 0) else none
 | .tup xs=>À (!xs.isEmpty)
 | .sq xs=>À (!xs.isEmpty)
 | .ref i=>match s[i]? with
  | some (.lst xs)=>À (!xs.isEmpty)
  | some (.dK xs)=>À (!xs.isEmpty)
  | _=>none
theorem Ĵ.emp (h:Ĵ T ρ H l xs):l.isEmpty=xs.isEmpty:=by
 cases l with
 | nil=>cases h.nil_inv;rfl
 | cons a r=>obtain⟨x,ys,rfl,_⟩:=h.cons_inv;rfl
theorem HQ (h:truth v s=À b)(sr:SR T ρ s H)(va:VR T ρ H v x):Rn T.K x H b:=by
 cases v with
 | ĥ=>cases va.iL;cases h;rfl
 | bl c=>cases va.gg;cases h;rfl
 | int c=>cases va.int_inv;cases h;rfl
 | str c=>
  cases va.str_inv
  have h:(if c.length<=sizeLine then À ((c.length:Int) != 0) else none)=À b:=h
  split at h
  ·cases h;exact⟨by assumption,rfl⟩
  ·cases h
 | tup c=>
  obtain⟨a,vs,rfl,h1,k⟩:=va.bq
  cases h
  exact .inr (.inl ⟨vs,h1,by rw[k.emp]⟩)
 | sq c=>
  obtain⟨a,vs,rfl,h1,k⟩:=va.gF
  cases h
  exact .inl ⟨vs,h1.FZ,by rw[k.emp]⟩
 | ref i=>
  have h:(match s[i]? with
   | some (.lst xs)=>À (!xs.isEmpty)
   | some (.dK xs)=>À (!xs.isEmpty)
   | _=>none)=À b:=h
  split at h
  ·rename_i xs e
   cases h
   obtain⟨a,vs,rfl,_,h1,k⟩:=sr.dG e va
   exact .inl ⟨vs,f9.of h1,by rw[k.emp]⟩
  ·rename_i xs e
   cases h
   obtain⟨a,vs,rfl,_,h1,k1,k⟩:=sr.vg e va
   refine .inr (.inr ⟨vs,h1,?_⟩)
   have:=Ě cf k1
   rw[Æ,Æ]at this
   cases xs<;>cases vs<;>first|rfl|(simp at this)
  ·cases h
def cT (m:Ev):Eb:=λ env s=>(m env s).bind λ v s1=>need (truth v s1) λ b=>.ok b s1
def cB (m:Ev):Eb:=λ env s=>(m env s).bind λ v s1=>match v with
 | .bl b=>.ok b s1
 | _=>.bad
theorem aaS (hK:X.K=T.K)(h:PE X e (tE T XE m)) (he:∀ whole,Gz e X.env whole=(do let v <-whole;uw e.pos;qg [v] (truthy v)):=by intro _;rfl):PT X e (iT T XE (cT m)):=
 PT.imp (KZ h he) λ σ H Q zz=>Ŵ zz λ ρ env s hs he ho=>step hs he ho λ v s1 ī H1 x _ u1 Ŧ df ŧ Ĥ=>by
  obtain⟨b,e,Ĥ⟩:=Ĥ.Ē
  exact⟨b,by rw[hK];exact HQ e Ŧ ŧ,yf Ĥ Ŧ⟩
theorem QU (h:iT T XE (cB m) σ H Q):tE T XE m σ H λ x H'=>∃ k,x=.bl k/\Q k H':=by
 obtain⟨ρ,env,s,hs,he,ho⟩:=h
 refine step hs he ho λ v s1 ī H1 x _ u1 Ŧ df ŧ Ĥ=>?_
 have ŧ:VR T ī H1 v x:=ŧ
 cases v<;>try exact Ĥ.elim
 exact⟨_,ŧ.gg,yf Ĥ Ŧ⟩
theorem gU (DC:fo X (ċ o) (pQ T XE op)) (ha:PE X a (tE T XE m1)) (hb:PE X b (tE T XE m2)) (hm:wN o b=false:=by rfl):PT X (.Compare a [o] [b] pos) (iT T XE (cB (Ö op m1 m2))):=
 PT.imp (OY DC ha hb hm) λ σ H Q h=>t2 (QU h)
def aU (op Hr:AV->AV->S->R AV)(a b c:Ev):Ev:=λ env s=>(a env s).bind λ v s1=>(b env s1).bind λ w s2=>(op v w s2).bind λ r s3=>match r with
 | .bl true=>(c env s3).bind λ z s4=>Hr w z s4
 | .bl false=>.ok (.bl false) s3
 | _=>.bad
theorem t3 (h:tE T XE (aU op Hr a b c) σ H Q):Em (pQ T XE op) (pQ T XE Hr) (tE T XE a) (tE T XE b) (tE T XE c) σ H Q:=by
 obtain⟨ρ,env,s,hs,he,ho⟩:=h
 refine step hs he ho λ v s1 ī H1 x _ u1 Ŧ df ŧ Ĥ=>step Ŧ df Ĥ λ w s2 cR H2 y _ u2 jk lC p8 dW=>⟨cR,v,w,s2,jk,VR.up u2 ŧ,p8,?_⟩
 cases e:op v w s2 with
 | bad=>rw[e]at dW;exact dW
 | ex c s3=>rw[e]at dW;exact dW
 | ok r s3=>
  rw[e]at dW
  intro nV H3 z u3 oW UO
  have UO:VR T nV H3 r z:=UO
  have dW:=Out.up u3 dW
  cases r<;>try exact dW.elim
  rename_i k _ _
  refine⟨k,UO.gg,?_⟩
  cases k with
  | false=>rw[Ó (by decide)];exact dW.Ĭ oW dw
  | true=>
   rw[É rfl]
   exact step oW (lC.up u3) dW λ q s4 Gm H4 x4 _ u4 Uy er4 PL ho4=>⟨Gm,w,q,s4,Uy,VR.up (u3.trans u4) p8,PL,ho4⟩
theorem vW (DC:fo X (ċ o) (pQ T XE op)) (So:fo X (ċ o') (pQ T XE Hr)) (ha:PE X a (tE T XE m1)) (hb:PE X b (tE T XE m2)) (hc:PE X c (tE T XE m3))
  (hm:Mk [o,o'] [b,c]=false:=by with_unfolding_all rfl):PE X (.Compare a [o,o'] [b,c] pos) (tE T XE (aU op Hr m1 m2 m3)):=PE.imp (Ky DC So ha hb hc hm) λ _ _ _ h=>t3 h
theorem sJ (DC:fo X (ċ o) (pQ T XE op)) (So:fo X (ċ o') (pQ T XE Hr)) (ha:PE X a (tE T XE m1)) (hb:PE X b (tE T XE m2)) (hc:PE X c (tE T XE m3))
  (hm:Mk [o,o'] [b,c]=false:=by with_unfolding_all rfl):PT X (.Compare a [o,o'] [b,c] pos) (iT T XE (cB (aU op Hr m1 m2 m3))):=PT.imp (KY DC So ha hb hc hm) λ σ H Q h=>t3 (QU h)
def IP (a b:Eb):Eb:=λ env s=>(a env s).bind λ c s1=>if c=true then b env s1 else .ok false s1
def rG (a b:Eb):Eb:=λ env s=>(a env s).bind λ c s1=>if c=true then .ok true s1 else b env s1
def dO (a:Eb):Eb:=λ env s=>(a env s).bind λ c s1=>.ok (!c) s1
def Xj (c:Eb)(a b:Ev):Ev:=λ env s=>(c env s).bind λ k s1=>if k=true then a env s1 else b env s1
theorem pw_and1' (h:PT X a (iT T XE m)):PW X (.BoolOp .And [a] pos) (iT T XE m):=pw_and1 h
theorem pw_or1' (h:PT X a (iT T XE m)):PW X (.BoolOp .Or [a] pos) (iT T XE m):=pw_or1 h
theorem pw_and' {rest:Á Ů}{m r:Eb}(h:PT X a (iT T XE m)) (k:PW X (.BoolOp .And (b :: rest) pos) (iT T XE r)):PW X (.BoolOp .And (a :: b :: rest) pos) (iT T XE (IP m r)):=
 PW.imp (pw_and h k) λ σ H Q zz=>Ŵ zz λ ρ env s hs he ho=>step hs he ho λ v s1 ī H1 x _ u1 Ŧ df ŧ Ĥ=>by
  cases (show v=x from ŧ)
  cases v with
  | true=>exact⟨ī,env,s1,Ŧ,df,Ĥ⟩
  | false=>exact yf Ĥ Ŧ
theorem pw_or' {rest:Á Ů}{m r:Eb}(h:PT X a (iT T XE m)) (k:PW X (.BoolOp .Or (b :: rest) pos) (iT T XE r)):PW X (.BoolOp .Or (a :: b :: rest) pos) (iT T XE (rG m r)):=
 PW.imp (pw_or h k) λ σ H Q zz=>Ŵ zz λ ρ env s hs he ho=>step hs he ho λ v s1 ī H1 x _ u1 Ŧ df ŧ Ĥ=>by
  cases (show v=x from ŧ)
  cases v with
  | true=>exact yf Ĥ Ŧ
  | false=>exact⟨ī,env,s1,Ŧ,df,Ĥ⟩
theorem OZ (h:PT X a (iT T XE m)):PT X (.UnaryOp .Not a pos) (iT T XE (dO m)):=
 PT.imp (Ue h) λ σ H Q zz=>Ŵ zz λ ρ env s hs he ho=>step hs he ho λ v s1 ī H1 x _ u1 Ŧ df ŧ Ĥ=>by
  cases (show v=x from ŧ)
  exact yf Ĥ Ŧ
theorem Xo (hc:PT X c (iT T XE S4)) (ha:PE X a (tE T XE ma)) (hb:PE X b (tE T XE mb)):PE X (.IfExp c a b pos) (tE T XE (Xj S4 ma mb)):=
 PE.imp (KD hc ha hb) λ σ H Q zz=>Ŵ zz λ ρ env s hs he ho=>step hs he ho λ v s1 ī H1 x _ u1 Ŧ df ŧ Ĥ=>by
  cases (show v=x from ŧ)
  cases v with
  | true=>exact⟨ī,env,s1,Ŧ,df,Ĥ⟩
  | false=>exact⟨ī,env,s1,Ŧ,df,Ĥ⟩
def mz (a b:Ev):Ev:=λ env s=>(a env s).bind λ v s1=>match v with
 | .bl true=>b env s1
 | .bl false=>.ok (.bl false) s1
 | _=>.bad
def mOr (a b:Ev):Ev:=λ env s=>(a env s).bind λ v s1=>match v with
 | .bl true=>.ok (.bl true) s1
 | .bl false=>b env s1
 | _=>.bad
def we:AV->S->R AV
 | .bl b,s=>.ok (.bl (!b)) s
 | _,_=>.bad
theorem Tb (h:PE X a (tE T XE m)):PE X (.BoolOp op [a] pos) (tE T XE m):=TZ h
theorem S5 {rest:Á Ů}{m r:Ev}(h:PE X a (tE T XE m)) (k:PE X (.BoolOp .And (b :: rest) pos) (tE T XE r)):PE X (.BoolOp .And (a :: b :: rest) pos) (tE T XE (mz m r)):=
 PE.imp (TR h k) λ σ H Q zz=>Ŵ zz λ ρ env s hs he ho=>step hs he ho λ v s1 ī H1 x _ u1 Ŧ df ŧ Ĥ=>by
  have ŧ:VR T ī H1 v x:=ŧ
  cases v<;>try exact Ĥ.elim
  rename_i b _ _
  refine⟨b,ŧ.gg,?_⟩
  cases b with
  | true=>exact⟨ī,env,s1,Ŧ,df,Ĥ⟩
  | false=>exact Ĥ.Ĭ Ŧ dw
theorem Ta (h:PE X a (tE T XE m)):PE X (.UnaryOp .Not a pos) (tE T XE (gR we m)):=
 PE.imp (TY h) λ σ H Q zz=>Ŵ zz λ ρ env s hs he ho=>step hs he ho λ v s1 ī H1 x _ u1 Ŧ df ŧ Ĥ=>by
  have ŧ:VR T ī H1 v x:=ŧ
  cases v<;>try exact Ĥ.elim
  exact⟨_,ŧ.gg,Ĥ.Ĭ Ŧ dw⟩
theorem Ĵ.oB (h:Ĵ T ρ H l xs)(e:oB l i=À v):∃ x,L2.oB xs i=À x/\VR T ρ H v x:=by
 unfold L2.oB at *
 rw[<-h.length]
 cases e1:Av l.length i with
 | none=>rw[e1]at e;cases e
 | some j=>rw[e1]at e;exact h.get e
def Ħ:AV->AV->S->R AV
 | .tup xs,.int i,s=>need (oB xs i) λ v=>.ok v s
 | .sq xs,.int i,s=>need (oB xs i) λ v=>.ok v s
 | .ref k,.int i,s=>need (û s k) λ xs=>need (oB xs i) λ v=>.ok v s
 | .str z,.int i,s=>if z.length<=sizeLine then need (oB z.cps.toList i) λ c=>.ok (.str ⟨#[c]⟩) s else .bad
 | _,_,_=>.bad
theorem oIx (hK:X.K=T.K):U2 X (pQ T XE Ħ):=by
 rintro value slice Ä s σ H x y v u Q I rx ry ⟨ρ,a,b,st,sr,va,vb,ho⟩ hs
 cases a<;>cases b<;>try exact ho.elim
 ·obtain⟨hl,ho⟩:=ho.ų
  obtain⟨c,e,ho⟩:=ho.Ē
  exact SH value slice Ä s σ H x y v u Q I rx ry ⟨_,_,c,va.str_inv,vb.int_inv,hl,e,ho.Ĭ sr sO⟩ hs
 ·obtain⟨c,e,ho⟩:=ho.Ē
  obtain⟨p,vs,rfl,h1,k⟩:=va.bq
  obtain⟨z,e2,k2⟩:=k.oB e
  exact SI value slice Ä s σ H _ y v u Q I rx ry ⟨p,vs,_,z,rfl,vb.int_inv,hK ▸ h1,e2,ho.Ĭ sr k2⟩ hs
 ·obtain⟨xs,e0,ho⟩:=ho.Ē
  obtain⟨c,e,ho⟩:=ho.Ē
  obtain⟨p,vs,rfl,_,h1,k⟩:=sr.dG (ń e0) va
  obtain⟨z,e2,k2⟩:=k.oB e
  exact Fo value slice Ä s σ H _ y v u Q I rx ry ⟨p,vs,_,z,rfl,vb.int_inv,f9.of h1,e2,ho.Ĭ sr k2⟩ hs
 ·obtain⟨c,e,ho⟩:=ho.Ē
  obtain⟨p,vs,rfl,h1,k⟩:=va.gF
  obtain⟨z,e2,k2⟩:=k.oB e
  exact Fo value slice Ä s σ H _ y v u Q I rx ry ⟨p,vs,_,z,rfl,vb.int_inv,hK ▸ h1.FZ,e2,ho.Ĭ sr k2⟩ hs
abbrev Eo:=En->S->R (Í Int)
def rO:Rl (Í Int) (Í Int):=⟨λ _ _ _ a b=>a=b,λ _ h=>h⟩
abbrev tO (T:Tx)(XE:ia)(m:Eo):TO:=tG T XE rO m
def oN:Eo:=λ _ s=>.ok none s
def oS (m:Ev):Eo:=λ env s=>(m env s).bind λ v s1=>match v with
 | .int i=>.ok (À i) s1
 | _=>.bad
theorem PO.imp (h:PO X e t)(k:∀ σ H Q,t' σ H Q->t σ H Q):PO X e t':=λ Ä s σ H Q I hq=>h Ä s σ H Q I (k σ H Q hq)
theorem KP:PO X none (tO T XE oN):=PO.imp OO λ σ H Q zz=>Ŵ zz λ ρ env s hs he ho=>ho ρ H none .refl hs rfl
theorem KQ (h:PE X e (tE T XE m)):PO X (À e) (tO T XE (oS m)):=
 PO.imp (OP h) λ σ H Q zz=>Ŵ zz λ ρ env s hs he ho=>step hs he ho λ v s1 ī H1 x _ u1 Ŧ df ŧ Ĥ=>by
  have ŧ:VR T ī H1 v x:=ŧ
  cases v<;>try exact Ĥ.elim
  exact⟨_,ŧ.int_inv,Ĥ ī H1 (À _) .refl Ŧ rfl⟩
def lB {α:Type}(xs:Á α)(lo hi:Í Int):Á α:=(xs.drop (HT.cV xs.length 0 lo)).take (HT.cV xs.length xs.length hi - HT.cV xs.length 0 lo)
theorem Ĵ.lB (h:Ĵ T ρ H l xs)(lo hi:Í Int):Ĵ T ρ H (lB l lo hi) (ve xs lo hi):=by
 unfold Mm.lB ve
 rw[h.length]
 exact(h.drop _).take _
def Hs (v:AV)(lo hi:Í Int)(s:S):R AV:=match v with
 | .tup xs=>.ok (.tup (lB xs lo hi)) s
 | .ref i=>need (û s i) λ xs=>.ok (.ref s.length) (s++[.lst (lB xs lo hi)])
 | .sq xs=>.ok (.ref s.length) (s++[.lst (lB xs lo hi)])
 | _=>.bad
def rSM (T:Tx)(XE:ia):V->Í Int->Í Int->Hp->VK->Prop:=λ x lo hi H Q=>∃ ρ v s,SR T ρ s H/\VR T ρ H v x/\Out T XE (rV T) ρ H (Hs v lo hi s) Q
theorem Nd (h:HT.cV xs.length 0 lo=0/\HT.cV xs.length xs.length hi=xs.length):ve xs lo hi=xs:=by
 unfold ve
 rw[h.1,h.2,Nat.sub_zero,List.drop_zero,List.take_length]
theorem oSl (hK:X.K=T.K):V_ X (rSM T XE):=by
 rintro Ä s σ H x v vl vu lo hi sl Q I rx hs pl pu ⟨ρ,a,st,sr,va,ho⟩
 cases a<;>try exact ho.elim
 ·obtain⟨p,vs,rfl,h1,k⟩:=va.bq
  refine Pd Ä s σ H _ v vl vu lo hi sl Q I rx hs pl pu ⟨p,vs,rfl,hK ▸ h1,λ hw=>?_,λ _ q hq=>ho.tup sr hq (k.lB lo hi)⟩
  have:=k.lB lo hi
  rw[Nd hw]at this
  exact ho.Ĭ sr (ja h1 this)
 ·obtain⟨xs,e0,ho⟩:=ho.Ē
  obtain⟨p,vs,rfl,_,h1,k⟩:=sr.dG (ń e0) va
  exact FW Ä s σ H _ v vl vu lo hi sl Q I rx hs pl pu ⟨p,vs,rfl,f9.of h1,λ q hq=>ho.alloc sr hq (OR.lst Į (Ĵ.gr ((sr.fP hq).add hq).toGr (k.lB lo hi)))⟩
 ·obtain⟨p,vs,rfl,h1,k⟩:=va.gF
  exact FW Ä s σ H _ v vl vu lo hi sl Q I rx hs pl pu ⟨p,vs,rfl,hK ▸ h1.FZ,λ q hq=>ho.alloc sr hq (OR.lst Į (Ĵ.gr ((sr.fP hq).add hq).toGr (k.lB lo hi)))⟩
def Ij (m:Ev)(lo hi:Eo):Ev:=λ env s=>(m env s).bind λ v s1=>(lo env s1).bind λ l s2=>(hi env s2).bind λ h s3=>Hs v l h s3
theorem Xq (hK:X.K=T.K)(he:PE X e (tE T XE m)) (hl:PO X lo (tO T XE ml)) (hh:PO X hi (tO T XE mh)):PE X (.Subscript e (.Slice lo hi none p2) pos) (tE T XE (Ij m ml mh)):=
 PE.imp (KG (oSl (XE:=XE) hK) he hl hh) λ σ H Q zz=>Ŵ zz λ ρ env s hs he ho=>
  step hs he ho λ v s1 ī H1 x _ u1 Ŧ df ŧ Ĥ=>step Ŧ df Ĥ λ l s2 cR H2 l' _ u2 jk lC e2 dW=>step jk lC dW λ h s3 nV H3 h' _ u3 oW Ji e3 yg=>by
   cases (show l=l' from e2)
   cases (show h=h' from e3)
   exact⟨nV,v,s3,oW,VR.up (u2.trans u3) ŧ,yg⟩
end
abbrev Ms:=En->S->RS
def R.eX {α:Type}:R α->(α->S->RS)->RS
 | .ok a s,f=>f a s
 | .ex c s,_=>.ex c s
 | .bad,_=>.bad
@[simp] theorem qm (a:α) (s:S) (f:α->S->RS):(R.ok a s).eX f=f a s:=rfl
def fX (T:Tx)(XE:ia)(ρ:Á Addr)(H:Hp):RS->Ends->Prop
 | .nx e s,D=>∀ ħ H' aD,Up ρ H ħ H'->SR T ħ s H'->ER T ħ H' e aD->D.nx aD H'
 | .rt v s,D=>∀ ħ H' x,Up ρ H ħ H'->SR T ħ s H'->VR T ħ H' v x->D.rt x H'
 | .bk e s,D=>∀ ħ H' aD,Up ρ H ħ H'->SR T ħ s H'->ER T ħ H' e aD->D.bk aD H'
 | .ct e s,D=>∀ ħ H' aD,Up ρ H ħ H'->SR T ħ s H'->ER T ħ H' e aD->D.ct aD H'
 | .ex c s,_=>∀ ħ H',Up ρ H ħ H'->SR T ħ s H'->XE c ħ s H'
 | .bad,_=>False
theorem fX.up (u:Up ρ H ħ H')(h:fX T XE ρ H r D):fX T XE ħ H' r D:=by
 cases r with
 | nx e s=>exact λ cR H2 x u2 sr vr=>h cR H2 x (u.trans u2) sr vr
 | rt e s=>exact λ cR H2 x u2 sr vr=>h cR H2 x (u.trans u2) sr vr
 | bk e s=>exact λ cR H2 x u2 sr vr=>h cR H2 x (u.trans u2) sr vr
 | ct e s=>exact λ cR H2 x u2 sr vr=>h cR H2 x (u.trans u2) sr vr
 | ex c s=>exact λ cR H2 u2 sr=>h cR H2 (u.trans u2) sr
 | bad=>exact h
def tS (T:Tx)(XE:ia)(m:Ms):TS:=λ D σ H=>∃ ρ env s,SR T ρ s H/\ER T ρ H env σ/\fX T XE ρ H (m env s) D
section
variable {T:Tx}{XE:ia}{X:Cx}{pos:ki}
theorem kS {rl:Rl α β} 
  (hs:SR T ρ s H) (he:ER T ρ H env σ) (ho:fX T XE ρ H ((m env s).eX k) D)
  (hk:∀ v s1 ī H1 x,m env s=.ok v s1->Up ρ H ī H1->SR T ī s1 H1->ER T ī H1 env σ->rl.r H ī H1 v x->fX T XE ī H1 (k v s1) D->F x H1):tG T XE rl m σ H F:=by
 refine⟨ρ,env,s,hs,he,?_⟩
 cases e:m env s with
 | ok v s1=>
  rw[e]at ho
  exact λ ī H1 x u sr vr=>hk v s1 ī H1 x e u sr (he.up u) vr (fX.up u ho)
 | ex c s1=>rw[e]at ho;exact ho
 | bad=>rw[e]at ho;exact ho
def Ľ:Ms:=λ env s=>.nx env s
theorem oX {m:Ms}{σ:St}{H:Hp}{D:Ends}{P:Prop}(h:tS T XE m D σ H)(k:∀ ρ env s,SR T ρ s H->ER T ρ H env σ->fX T XE ρ H (m env s) D->P):P:=by
 obtain⟨ρ,env,s,hs,he,ho⟩:=h
 exact k ρ env s hs he ho
def ì (a b:Ms):Ms:=λ env s=>match a env s with
 | .nx e s1=>b e s1
 | r=>r
theorem Oe:p5 X [] (tS T XE Ľ):=p5.imp OW λ D σ H zz=>oX zz λ ρ env s hs he ho=>ho ρ H σ .refl hs he
theorem J_ {st:Stmt}{rest:Á Stmt}{a b:Ms}(h1:PS X st (tS T XE a)) (h2:p5 X rest (tS T XE b)):p5 X (st :: rest) (tS T XE (ì a b)):=
 p5.imp (KW h1 h2) λ D σ H zz=>oX zz λ ρ env s hs he ho=>by
  refine⟨ρ,env,s,hs,he,?_⟩
  unfold ì at ho
  cases e:a env s with
  | nx e1 s1=>rw[e]at ho;exact λ cR H2 x u sr er=>⟨cR,e1,s1,sr,er,fX.up u ho⟩
  | rt v s1=>rw[e]at ho;exact ho
  | bk v s1=>rw[e]at ho;exact ho
  | ct v s1=>rw[e]at ho;exact ho
  | ex v s1=>rw[e]at ho;exact ho
  | bad=>rw[e]at ho;exact ho
theorem Of (h1:PS X st (tS T XE a)):p5 X [st] (tS T XE a):=OX h1
def tD (m:Ev):Ms:=λ env s=>(m env s).eX λ _ s1=>.nx env s1
theorem Oc (h:PE X e (tE T XE m)) (hs:fA e none pos.line X.env=pure false:=by rfl):PS X (.Expr e pos) (tS T XE (tD m)):=
 PS.imp (OV h hs) λ D σ H zz=>oX zz λ ρ env s hs he ho=>kS hs he ho λ v s1 ī H1 x _ u1 Ŧ df ŧ Ĥ=>Ĥ ī H1 σ .refl Ŧ df
def ě (m:Ev):Ms:=λ env s=>(m env s).eX λ v s1=>.rt v s1
theorem Tr (h:PE X e (tE T XE m)):PS X (.Return (À e) pos) (tS T XE (ě m)):=
 PS.imp (Uc h) λ D σ H zz=>oX zz λ ρ env s hs he ho=>kS hs he ho λ v s1 ī H1 x _ u1 Ŧ df ŧ Ĥ=>Ĥ ī H1 x .refl Ŧ ŧ
def eL (c:Eb)(a b:Ms):Ms:=λ env s=>(c env s).eX λ k s1=>if k=true then a env s1 else b env s1
theorem Xw (hc:PT X c (iT T XE S4)) (ha:p5 X a (tS T XE ma)) (hb:p5 X b (tS T XE mb)):PS X (.If c a b pos) (tS T XE (eL S4 ma mb)):=
 PS.imp (X_ hc ha hb) λ D σ H zz=>oX zz λ ρ env s hs he ho=>kS hs he ho λ v s1 ī H1 x _ u1 Ŧ df ŧ Ĥ=>by
  cases (show v=x from ŧ)
  cases v with
  | true=>exact⟨ī,env,s1,Ŧ,df,Ĥ⟩
  | false=>exact⟨ī,env,s1,Ŧ,df,Ĥ⟩
def Ī (i:Nat)(m:Ev):Ms:=λ env s=>(m env s).eX λ v s1=>.nx (env.set i (À v)) s1
theorem Dj (h:tS T XE (Ī i m) D σ H):Lo (tE T XE m) (Bh i) D σ H:=by
 obtain⟨ρ,env,s,hs,he,ho⟩:=h
 exact kS hs he ho λ v s1 ī H1 x _ u1 Ŧ df ŧ Ĥ=>Ĥ ī H1 _ .refl Ŧ (df.set ŧ)
theorem J9 (hN:X.N.Nodup)(he:PE X e (tE T XE m)) (hi:X.N[i]? = À x:=by rfl)(hx:Loc X.env.scope x:=by first|exact HX rfl|exact P5 rfl)(hs:fA e (À (.Name x pos')) pos.line X.env=pure false:=by rfl) (hf:X.fn x=true∨X.env.scope.names.lookup x=À .local:=by first|exact .inl rfl|exact .inr rfl|assumption) :
  PS X (.Assign [.Name x pos'] e pos) (tS T XE (Ī i m)):=PS.imp (Ud hN hi hx he hs hf) λ D σ H h=>Dj h
abbrev Mt:=AV->En->S->RS
abbrev Mp:=Á AV->En->S->RS
def Nj (Q:St->Hp->Prop):Ends:={ nx:=Q,rt:=λ _ _=>False }
def tT (T:Tx)(XE:ia)(m:Mt):TG:=λ x σ H Q=>∃ ρ env s v,SR T ρ s H/\ER T ρ H env σ/\VR T ρ H v x/\fX T XE ρ H (m v env s) (Nj Q)
def Zi (T:Tx)(XE:ia)(m:Mp):U3:=λ xs σ H Q=>∃ ρ env s vs,SR T ρ s H/\ER T ρ H env σ/\Ĵ T ρ H vs xs/\fX T XE ρ H (m vs env s) (Nj Q)
def gN (i:Nat):Mt:=λ v env s=>.nx (env.set i (À v)) s
def ę:Mp:=λ vs env s=>match vs with
 | []=>.nx env s
 | _=>.bad
def Ù (a:Mt)(r:Mp):Mp:=λ vs env s=>match vs with
 | v :: w=>match a v env s with
  | .nx e s1=>r w e s1
  | q=>q
 | _=>.bad
def gT (n:Nat)(r:Mp):Mt:=λ v env s=>match v with
 | .tup vs=>if vs.length=n then r vs env s else .bad
 | _=>.bad
theorem N4 (hN:X.N.Nodup)(hi:X.N[i]? = À x:=by rfl)(hx:Loc X.env.scope x:=by first|exact HX rfl|exact P5 rfl)(hf:X.fn x=true∨X.env.scope.names.lookup x=À .local:=by first|exact .inl rfl|exact .inr rfl|assumption):PG X (.Name x pos) (tT T XE (gN i)):=
 PG.imp (OG hN hi hx hf) λ x σ H Q ⟨ρ,env,s,v,hs,he,vr,ho⟩=>ho ρ H _ .refl hs (he.set vr)
theorem N6:EM X [] (Zi T XE ę):=EM.imp OH λ xs σ H Q ⟨ρ,env,s,vs,hs,he,vr,ho⟩=>by
 cases vs with
 | nil=>exact⟨vr.nil_inv,ho ρ H _ .refl hs he⟩
 | cons a r=>exact ho.elim
theorem J5 (h1:PG X e (tT T XE a)) (h2:EM X es (Zi T XE r)) (hs:(dC (e :: es) X.env).map (·.2)=gX e X.env :: (dC es X.env).map (·.2):=by rfl):EM X (e :: es) (Zi T XE (Ù a r)):=
 EM.imp (KI h1 h2 hs) λ xs σ H Q ⟨ρ,env,s,vs,hs,he,vr,ho⟩=>by
  cases vs with
  | nil=>exact ho.elim
  | cons v w=>
   obtain⟨x,ys,rfl,k1,k2⟩:=vr.cons_inv
   refine⟨x,ys,rfl,ρ,env,s,v,hs,he,k1,?_⟩
   unfold Ù at ho
   cases e:a v env s with
   | nx e1 s1=>simp only[e]at ho;exact λ cR H2 x u sr er=>⟨cR,e1,s1,w,sr,er,k2.up u,fX.up u ho⟩
   | rt v s1=>simp only[e]at ho;exact ho
   | bk v s1=>simp only[e]at ho;exact λ cR H2 x u sr er=>ho cR H2 x u sr er
   | ct v s1=>simp only[e]at ho;exact λ cR H2 x u sr er=>ho cR H2 x u sr er
   | ex v s1=>simp only[e]at ho;exact ho
   | bad=>simp only[e]at ho;exact ho
theorem Tg (hK:X.K=T.K)(hc:X.calm=true)(h:EM X es (Zi T XE r)) (hn:(dC es X.env).length=n:=by rfl) (VC:(dC es X.env).findIdx? (·.1)=none:=by rfl):PG X (.Tuple es k pos) (tT T XE (gT n r)):=
 PG.imp (KH hc h hn VC) λ x σ H Q ⟨ρ,env,s,v,hs,he,vr,ho⟩=>by
  obtain⟨vs,rfl⟩:∃ vs,v=.tup vs:=by
   cases v with
   | tup vs=>exact⟨vs,rfl⟩
   | _=>exact ho.elim
  obtain⟨a,ws,rfl,h1,k1⟩:=vr.bq
  have ho:fX T XE ρ H (if vs.length=n then r vs env s else .bad) (Nj Q):=ho
  by_cases hl:vs.length=n
  ·rw[É hl]at ho
   exact⟨a,ws,rfl,hK ▸ h1,by rw[<-k1.length];exact hl,ρ,env,s,vs,hs,he,k1,ho⟩
  ·rw[Ó hl]at ho;exact ho.elim
def mC (m:Ev)(g:Mt):Ms:=λ env s=>(m env s).eX λ v s1=>g v env s1
def pe (g:Mt):Prop:=∀ v env s,(∃ e s1,g v env s=.nx e s1)∨(∃ c s1,g v env s=.ex c s1)∨g v env s=.bad
def uy (g:Mp):Prop:=∀ v env s,(∃ e s1,g v env s=.nx e s1)∨(∃ c s1,g v env s=.ex c s1)∨g v env s=.bad
theorem Oo:pe (gN i):=λ v env s=>.inl ⟨_,_,rfl⟩
theorem Tz:uy ę:=λ v env s=>by
 cases v with
 | nil=>exact .inl ⟨_,_,rfl⟩
 | cons a r=>exact .inr (.inr rfl)
theorem Om (h:pe a)(k:uy r):uy (Ù a r):=λ v env s=>by
 cases v with
 | nil=>exact .inr (.inr rfl)
 | cons x w=>
  rcases h x env s with⟨e,s1,q⟩|⟨e,s1,q⟩|q
  ·have:Ù a r (x :: w) env s=r w e s1:=by unfold Ù;simp only[q]
   rw[this];exact k w e s1
  ·have:Ù a r (x :: w) env s=.ex e s1:=by unfold Ù;simp only[q]
   exact .inr (.inl ⟨_,_,this⟩)
  ·have:Ù a r (x :: w) env s=.bad:=by unfold Ù;simp only[q]
   exact .inr (.inr this)
theorem TB (k:uy r):pe (gT n r):=λ v env s=>by
 cases v<;>try exact .inr (.inr rfl)
 rename_i vs
 by_cases hl:vs.length=n
 ·have:gT n r (.tup vs) env s=r vs env s:=É hl
  rw[this];exact k vs env s
 ·have:gT n r (.tup vs) env s=.bad:=Ó hl
  exact .inr (.inr this)
theorem pe.out (k:pe g)(h:fX T XE ρ H (g v env s) D):fX T XE ρ H (g v env s) (Nj D.nx):=by
 rcases k v env s with⟨e,s1,q⟩|⟨e,s1,q⟩|q<;>rw[q]at h ⊢<;>exact h
theorem To (he:PE X e (tE T XE m)) (hg:PG X tg (tT T XE g)) (hon:pe g)(hs:wV [tg] e pos.line X.env=pure false:=by rfl)(hw:wU [tg] e X.env=pure none:=by rfl)
  (h1:(dC [tg] X.env).map (·.2)=[gX tg X.env]:=by rfl):PS X (.Assign [tg] e pos) (tS T XE (mC m g)):=
 PS.imp (T_ he hg hs hw h1) λ D σ H zz=>oX zz λ ρ env s hs he ho=>kS hs he ho λ v s1 ī H1 x _ u1 Ŧ df ŧ Ĥ=>⟨ī,env,s1,v,Ŧ,df,ŧ,hon.out Ĥ⟩
def pS (i j:Nat)(r:jQ):Ms:=λ env s=>(r env s).eX λ vs s1=>match vs with
 | [v,w]=>.nx ((env.set i (À v)).set j (À w)) s1
 | _=>.bad
theorem Tq (hc:X.calm=true)(hN:X.N.Nodup)(ha:PA X [a,b] (tP T XE r)) (hi:X.N[i]? = À x:=by rfl)(hj:X.N[j]? = À y:=by rfl)(Au:i≠j:=by decide)
  (hx:X.env.scope.names.lookup x=À .local:=by rfl) (hy:X.env.scope.names.lookup y=À .local:=by rfl)
  (hw:wU [.Tuple [.Name x px,.Name y py] kt pt] (.Tuple [a,b] k2 X') X.env=pure (À [x,y]):=by rfl)
  (hs:wV [.Tuple [.Name x px,.Name y py] kt pt] (.Tuple [a,b] k2 X') pos.line X.env=pure false:=by rfl) :
  PS X (.Assign [.Tuple [.Name x px,.Name y py] kt pt] (.Tuple [a,b] k2 X') pos) (tS T XE (pS i j r)):=
 PS.imp (Ub hc hN hi hj Au hx hy ha hw hs) λ D σ H zz=>oX zz λ ρ env s hs he ho=>kS hs he ho λ v s1 ī H1 x _ u1 Ŧ df ŧ Ĥ=>by
  have ŧ:Ĵ T ī H1 v x:=ŧ
  match v,ŧ,Ĥ with
  | [v,w],ŧ,Ĥ=>
   obtain⟨x1,ys,rfl,k1,k2⟩:=ŧ.cons_inv
   obtain⟨x2,ys,rfl,k4,k3⟩:=k2.cons_inv
   cases k3.nil_inv
   exact⟨x1,x2,rfl,Ĥ ī H1 _ .refl Ŧ ((df.set k1).set k4)⟩
  | [],_,Ĥ=>exact Ĥ.elim
  | [_],_,Ĥ=>exact Ĥ.elim
  | _ :: _ :: _ :: _,_,Ĥ=>exact Ĥ.elim
def Ay (c:Eb)(b:Ms):Nat->En->S->RS
 | 0,_,_=>.bad
 | n+1,env,s=>(c env s).eX λ k s1=>if k=true then (match b env s1 with
   | .nx e s2=>Ay c b n e s2
   | .ct e s2=>Ay c b n e s2
   | .bk e s2=>.nx e s2
   | r=>r) else .nx env s1
def HG (f:En->S->Nat)(c:Eb)(b:Ms):Ms:=λ env s=>Ay c b (f env s) env s
theorem Ts (f:En->S->Nat)(hp:Me (á X.prog X.w) X.A X.env X.xe) (hc:PT X c (iT T XE S4)) (hb:p5 X body (tS T XE mb)):PS X (.While c body [] pos) (tS T XE (HG f S4 mb)):=
 PS.imp (KU hp hc hb) λ D σ H zz=>oX zz λ ρ env s hs he ho=>by
  refine⟨λ n σ H=>∃ ρ env s,SR T ρ s H/\ER T ρ H env σ/\fX T XE ρ H (Ay S4 mb n env s) D,⟨f env s,ρ,env,s,hs,he,ho⟩,?_⟩
  rintro n σ H ⟨ρ,env,s,hs,he,ho⟩
  cases n with
  | zero=>exact ho.elim
  | succ n=>
   unfold Ay at ho
   refine kS hs he ho λ v s1 ī H1 x _ u1 Ŧ df ŧ Ĥ=>?_
   cases (show v=x from ŧ)
   cases v with
   | false=>exact Ĥ ī H1 σ .refl Ŧ df
   | true=>
    refine⟨λ aD H'=>∃ ρ env s,SR T ρ s H'/\ER T ρ H' env aD/\fX T XE ρ H' (Ay S4 mb n env s) D,λ aD H' h=>⟨n,iG n,h⟩,ī,env,s1,Ŧ,df,?_⟩
    simp only[É]at Ĥ
    cases e:mb env s1 with
    | nx e2 s2=>simp only[e]at Ĥ;exact λ cR H2 x u sr er=>⟨cR,e2,s2,sr,er,fX.up u Ĥ⟩
    | ct e2 s2=>simp only[e]at Ĥ;exact λ cR H2 x u sr er=>⟨cR,e2,s2,sr,er,fX.up u Ĥ⟩
    | bk e2 s2=>simp only[e]at Ĥ;exact λ cR H2 x u sr er=>Ĥ cR H2 x u sr er
    | rt v s2=>simp only[e]at Ĥ;exact Ĥ
    | ex v s2=>simp only[e]at Ĥ;exact Ĥ
    | bad=>simp only[e]at Ĥ;exact Ĥ
end
end Mm
namespace L2
open PySem PySem.Spec PyProof.Rows
theorem KJ (hl:PE X l tl):PI X tg l (λ σ H R=>tl σ H λ x H1=>∃ a,x=.ref a/\(((∃ xs,f9 X.K H1 a xs)/\R (U1 X.K a) H1)∨((∃ xs,iP X.K H1 a xs)/\R (V7 X.K a) H1))):=by
 intro Ä s σ H R I h
 refine ak (hl Ä s σ H _ I h) λ v s1 zz=>kj zz λ x H1 I1 r1 q1=>?_
 obtain⟨a,e,q⟩:=q1
 subst e
 cases r1
 rcases q with⟨⟨xs,hq⟩,q⟩|⟨⟨xs,hq⟩,q⟩
 ·obtain⟨its,rv,p,hz⟩:=I1.list hq
  refine yU p.isList ?_
  refine⟨s1.heap.objs.size,[s1.heap.objs.size],_,_,H1,rfl,I1.kept (t':=s1.toks) λ b o e=>Å _ e,yE a _,⟨_,Þ _ rfl,rfl,rfl⟩,λ b hb=>?_,q⟩
  have e:b=s1.heap.objs.size:=by simpa using hb
  subst e
  exact I1.Dx (Î _) (I1.ar.fresh (Î _))
 ·obtain⟨its,rv,p,hz⟩:=I1.tuple hq
  refine xb (show s1.heap.IsTuple a its.toArray from p) ?_
  refine⟨s1.heap.objs.size,[s1.heap.objs.size],_,_,H1,rfl,I1.kept (t':=s1.toks) λ b o e=>Å _ e,Ew a _,⟨_,Þ _ rfl,rfl,rfl⟩,λ b hb=>?_,q⟩
  have e:b=s1.heap.objs.size:=by simpa using hb
  subst e
  exact I1.Dx (Î _) (I1.ar.fresh (Î _))
end L2
namespace Mm
open PySem L2
theorem Up.mod (u:Up ρ H ħ H')(h:H D=none)(n:D∉ħ):Up ρ H ħ (upd H' D o):=
 ⟨⟨u.pre,λ b xs e=>by rw[ÿ (Ū e h)];exact u.mD b xs e,λ b p v e=>by rw[ÿ (Ū e h)];exact u.jZ b p v e⟩,λ b p e k=>⟨by rw[ÿ (Ū e h)];exact(u.fr b p e k).1,(u.fr b p e k).2⟩,λ b e=>by
  by_cases hb:b=D
  ·rw[hb];exact h
  ·rw[ÿ hb]at e;exact u.live b e⟩
theorem Wy (h:H D=À (.lst xs)):Gr ρ H ρ (upd H D o):=
 ⟨a7,λ b ys e=>by rw[ÿ (qL e h (by intro z;cases z))];exact e,λ b p v e=>by rw[ÿ (qL e h (by intro z;cases z))];exact e⟩
theorem ER.gr (h:ER T ρ H env σ)(u:Gr ρ H ħ H'):ER T ħ H' env σ:=
 ⟨h.len,λ i v e=>let ⟨x,e1,q⟩:=h.get i v e;⟨x,e1,q.gr u⟩⟩
abbrev Gd:=Á (Nat × Á AV)
def k6 (gs:Gd)(s:S):Prop:=∀ p∈gs,û s p.1=À p.2
theorem bM (s:S):k6 [] s ↔ True:=by simp[k6]
theorem lF (i:Nat)(xs:Á AV)(s:S):k6 [(i,xs)] s ↔ û s i=À xs:=by simp[k6]
structure Walks (T:Tx)(ρ:Á Addr)(H:Hp)(xs:Á AV)(gs:Gd)(J:It):Prop where
 turn:∀ ħ s' H',Up ρ H ħ H'->SR T ħ s' H'->k6 gs s'->(∀ (j:Nat) (v:AV),xs[j]? = À v->J.go j H'/\∀ x H'',J.HV j H' x H''->Up ħ H' ħ H''/\SR T ħ s' H''/\VR T ħ H'' v x)/\J.stop xs.length H'
abbrev Src:=En->S->R (Á AV × Gd)
def rW (T:Tx):Rl (Á AV × Gd) It:=⟨λ _ ρ H p J=>Walks T ρ H p.1 p.2 J,λ _ h=>h⟩
abbrev tW (T:Tx)(XE:ia)(m:Src):TI:=tG T XE (rW T) m
section
variable {T:Tx}{XE:ia}{X:Cx}{pos:ki}
theorem kT (h:H' a=À (.lst vs)∨Qe K H' a vs) (sr:SR T ħ s' H')(k:Ĵ T ħ H' xs vs) :
  (∀ (j:Nat) (v:AV),xs[j]? = À v->(U1 K a).go j H'/\∀ x H'',(U1 K a).HV j H' x H''->Up ħ H' ħ H''/\SR T ħ s' H''/\VR T ħ H'' v x)/\(U1 K a).stop xs.length H':=by
 have hq:f9 K H' a vs:=by rcases h with h|h;exact f9.of h;exact h.FZ
 refine⟨λ j v e=>?_,⟨vs,hq,by rw[k.length];exact Î _⟩⟩
 obtain⟨x,ex,kx⟩:=k.get e
 refine⟨⟨vs,x,hq,ex⟩,λ y H'' ⟨e1,e2⟩=>?_⟩
 subst e1
 have:=e2 vs hq
 rw[ex]at this
 cases this
 exact⟨.refl,sr,kx⟩
theorem CC (hq:iP K H' a vs)(sr:SR T ħ s' H')(k:Ĵ T ħ H' xs vs) :
  (∀ (j:Nat) (v:AV),xs[j]? = À v->(V7 K a).go j H'/\∀ x H'',(V7 K a).HV j H' x H''->Up ħ H' ħ H''/\SR T ħ s' H''/\VR T ħ H'' v x)/\(V7 K a).stop xs.length H':=by
 refine⟨λ j v e=>?_,⟨vs,hq,by rw[k.length];exact Î _⟩⟩
 obtain⟨x,ex,kx⟩:=k.get e
 refine⟨⟨vs,x,hq,ex⟩,λ y H'' ⟨e1,e2⟩=>?_⟩
 subst e1
 have:=e2 vs hq
 rw[ex]at this
 cases this
 exact⟨.refl,sr,kx⟩
def xw (r:jQ):Src:=λ env s=>(r env s).bind λ xs s1=>.ok (xs,[]) s1
theorem aaG (hK:X.K=T.K)(h:PE X e (tL T XE r)):PI X tg e (tW T XE (xw r)):=
 PI.imp (OI h) λ σ H R zz=>Ŵ zz λ ρ env s hs he ho=>by
  refine⟨ρ,env,s,hs,he,?_⟩
  unfold xw at ho
  cases e:r env s with
  | bad=>rw[e]at ho;exact ho
  | ex c s1=>rw[e]at ho;exact ho
  | ok xs s1=>
   rw[e]at ho
   rintro ī H1 x u sr ⟨a,vs,e1,h0,h1,h2,k⟩
   subst e1
   refine⟨a,rfl,⟨vs,f9.of h2⟩,ho ī H1 _ u sr ⟨λ ħ s' H' u' iw _=>?_⟩⟩
   rw[hK]
   exact kT (.inl (u'.fr a _ h2 h1).1) iw (k.up u')
def Ĳ (m:Ev):Src:=λ env s=>(m env s).bind λ v s1=>match v with
 | .tup xs=>.ok (xs,[]) s1
 | .sq xs=>.ok (xs,[]) s1
 | .ref i=>need (û s1 i) λ xs=>.ok (xs,[(i,xs)]) s1
 | _=>.bad
theorem aaI (hK:X.K=T.K)(h:PE X e (tE T XE m)):PI X tg e (tW T XE (Ĳ m)):=
 PI.imp (KJ h) λ σ H R zz=>Ŵ zz λ ρ env s hs he ho=>step hs he ho λ v s1 ī H1 x _ u1 Ŧ df ŧ Ĥ=>by
  have ŧ:VR T ī H1 v x:=ŧ
  cases v with
  | tup xs=>
   obtain⟨a,vs,rfl,h1,k⟩:=ŧ.bq
   refine⟨a,rfl,.inr ⟨⟨vs,hK ▸ h1⟩,Ĥ ī H1 _ .refl Ŧ ⟨λ ħ s' H' u' iw _=>?_⟩⟩⟩
   rw[hK]
   exact CC (u'.VJ h1) iw (k.up u')
  | sq xs=>
   obtain⟨a,vs,rfl,h1,k⟩:=ŧ.gF
   refine⟨a,rfl,.inl ⟨⟨vs,hK ▸ h1.FZ⟩,Ĥ ī H1 _ .refl Ŧ ⟨λ ħ s' H' u' iw _=>?_⟩⟩⟩
   rw[hK]
   exact kT (.inr (u'.Zg h1)) iw (k.up u')
  | ref i=>
   obtain⟨xs,e0,Ĥ⟩:=Ĥ.Ē
   obtain⟨a,vs,rfl,ea,h1,k⟩:=Ŧ.dG (ń e0) ŧ
   refine⟨a,rfl,.inl ⟨⟨vs,f9.of h1⟩,Ĥ ī H1 _ .refl Ŧ ⟨λ ħ s' H' u' iw g=>?_⟩⟩⟩
   have e2:=(lF i xs s').mp g
   obtain⟨b,ws,eb,_,h2,k2⟩:=iw.dG (ń e2) (VR.up u' ŧ)
   cases eb
   exact kT (.inl h2) iw k2
  | ĥ=>exact Ĥ.elim
  | bl b=>exact Ĥ.elim
  | int b=>exact Ĥ.elim
  | str b=>exact Ĥ.elim
def jj (lo:Int)(n:Nat):Á AV:=(Ģ n).map λ(i:Nat)=>AV.int (lo+i)
theorem CB (sr:SR T ħ s' H') :
  (∀ (j:Nat) (v:AV),(jj lo n)[j]? = À v->(Ri lo n).go j H'/\∀ x H'',(Ri lo n).HV j H' x H''->Up ħ H' ħ H''/\SR T ħ s' H''/\VR T ħ H'' v x)/\(Ri lo n).stop (jj lo n).length H':=by
 have hl:(jj lo n).length=n:=by simp[jj]
 refine⟨λ j v e=>?_,by rw[hl];exact Î _⟩
 have hj:j < n:=by have:=(Ë.mp e).1;rw[hl]at this;exact this
 refine⟨hj,λ y H'' ⟨e1,e2⟩=>?_⟩
 subst e1 e2
 have:(jj lo n)[j]? = À (.int (lo+j)):=by simp[jj,hj]
 rw[this]at e
 cases e
 exact⟨.refl,sr,bh⟩
def sL (r:jQ):Src:=λ env s=>(r env s).bind λ vs s1=>match vs with
 | [.int j]=>if -(2 ^ 62)<=j/\j < 2 ^ 62 then .ok (jj 0 j.toNat,[]) s1 else .bad
 | [.int i,.int j]=>if -(2 ^ 62)<=i/\i < 2 ^ 62/\-(2 ^ 62)<=j/\j < 2 ^ 62 then .ok (jj i (j - i).toNat,[]) s1 else .bad
 | _=>.bad
theorem Xt (hm:X.mg "range"=none)(ha:PE X a (tE T XE m)) (hg:Gl X "range":=by rfl)(hs:à [a] X.env=[(false,Ŝ a X.env)]:=by rfl):PI X tg (.Call (.Name "range" p) [a] [] pos) (tW T XE (sL (Ã m Ð))):=
 PI.imp (Hz hg hm (qS ha zN hs) hs) λ σ H R zz=>Ŵ zz λ ρ env s hs he ho=>step hs he ho λ v s1 ī H1 x e u1 Ŧ df ŧ Ĥ=>by
  have ŧ:Ĵ T ī H1 v x:=ŧ
  obtain⟨w,rfl⟩:∃ w,v=[w]:=by
   unfold Ã Ð at e
   cases e1:m env s with
   | ok w s2=>rw[e1]at e;cases e;exact⟨w,rfl⟩
   | ex c s2=>rw[e1]at e;cases e
   | bad=>rw[e1]at e;cases e
  obtain⟨y,ys,rfl,k1,k2⟩:=ŧ.cons_inv
  cases k2.nil_inv
  cases w with
  | int j=>
   obtain⟨⟨h1,h2⟩,Ĥ⟩:=Ĥ.ų
   cases k1.int_inv
   exact⟨j,rfl,h1,h2,Ĥ ī H1 _ .refl Ŧ ⟨λ ħ s' H' u' iw _=>CB iw⟩⟩
  | _=>exact Ĥ.elim
theorem Xu (hm:X.mg "range"=none)(ha:PE X a (tE T XE m)) (hb:PE X b (tE T XE n)) (hg:Gl X "range":=by rfl)(hs:à [a,b] X.env=[(false,Ŝ a X.env),(false,Ŝ b X.env)]:=by rfl) (DD:à [b] X.env=[(false,Ŝ b X.env)]:=by rfl) :
  PI X tg (.Call (.Name "range" p) [a,b] [] pos) (tW T XE (sL (Ã m (Ã n Ð)))):=
 PI.imp (HA hg hm (qS ha (qS hb zN DD) (by rw[hs,DD])) hs DD) λ σ H R zz=>Ŵ zz λ ρ env s hs he ho=>step hs he ho λ v s1 ī H1 x e u1 Ŧ df ŧ Ĥ=>by
  have ŧ:Ĵ T ī H1 v x:=ŧ
  obtain⟨w,z,rfl⟩:∃ w z,v=[w,z]:=by
   unfold Ã Ð at e
   cases e1:m env s with
   | ok w s2=>
    rw[e1]at e
    simp only[bI]at e
    cases e2:n env s2 with
    | ok z s3=>rw[e2]at e;cases e;exact⟨w,z,rfl⟩
    | ex c s2=>rw[e2]at e;cases e
    | bad=>rw[e2]at e;cases e
   | ex c s2=>rw[e1]at e;cases e
   | bad=>rw[e1]at e;cases e
  obtain⟨y,ys,rfl,k1,k2⟩:=ŧ.cons_inv
  obtain⟨y2,ys,rfl,k3,k4⟩:=k2.cons_inv
  cases k4.nil_inv
  cases w with
  | int i=>
   cases z with
   | int j=>
    obtain⟨h1,Ĥ⟩:=Ĥ.ų
    cases k1.int_inv
    cases k3.int_inv
    exact⟨i,j,rfl,h1,Ĥ ī H1 _ .refl Ŧ ⟨λ ħ s' H' u' iw _=>CB iw⟩⟩
   | _=>exact Ĥ.elim
  | _=>cases z<;>exact Ĥ.elim
def forL (bO:Mt)(body:Ms)(gs:Gd):Á AV->En->S->RS
 | [],env,s=>open Classical in if k6 gs s then .nx env s else .bad
 | v :: r,env,s=>open Classical in if k6 gs s then (match bO v env s with
   | .nx e1 s1=>(match body e1 s1 with
    | .nx e2 s2=>forL bO body gs r e2 s2
    | .ct e2 s2=>forL bO body gs r e2 s2
    | .bk e2 s2=>.nx e2 s2
    | q=>q)
   | .ex c s1=>.ex c s1
   | _=>.bad) else .bad
def gD (src:Src)(bO:Mt)(body:Ms):Ms:=λ env s=>(src env s).eX λ p s1=>forL bO body p.2 p.1 env s1
theorem fX.ų {ρ:Á Addr}{c:Prop}{_:aN c}{r:RS}{D:Ends}(h:fX T XE ρ H (if c then r else .bad) D):c/\fX T XE ρ H r D:=by
 by_cases hc:c
 ·rw[É hc]at h;exact⟨hc,h⟩
 ·rw[Ó hc]at h;exact h.elim
theorem Tp (hp:Me (á X.prog X.w) X.A X.env X.xe) (hc:X.calm=true)(hi:PI X tg iter (tW T XE src)) (hg:PG X tg (tT T XE bO)) (hb:p5 X body (tS T XE mb))
  (hs:∀ x,ĉ iter X.env x=pure x:=by intro _;rfl):PS X (.For tg iter body [] pos) (tS T XE (gD src bO mb)):=
 PS.imp (Ua hp hc hi hg hb hs) λ D σ H zz=>oX zz λ ρ env s hs he ho=>kS hs he ho λ p s1 ī H1 J _ u1 Ŧ df wk Ĥ=>by
  obtain⟨xs,gs⟩:=p
  have wk:Walks T ī H1 xs gs J:=wk
  refine⟨λ i m aD H'=>m=xs.length - i/\i<=xs.length/\∃ ħ bJ s',Up ī H1 ħ H'/\SR T ħ s' H'/\ER T ħ H' bJ aD/\fX T XE ħ H' (forL bO mb gs (xs.drop i) bJ s') D,⟨_,rfl,Ă _,ī,env,s1,.refl,Ŧ,df,Ĥ⟩,?_⟩
  rintro i m aD H' ⟨rfl,hi,ħ,bJ,s',u',iw,Jh,Ĝ⟩
  by_cases qy:i < xs.length
  ·rw[au qy]at Ĝ
   unfold forL at Ĝ
   obtain⟨si,Ĝ⟩:=Ĝ.ų
   obtain⟨w1,w2⟩:=(wk.turn ħ s' H' u' iw si).1 i xs[i] (Ñ qy)
   refine .inr ⟨w1,λ mF H2=>∃ cR Wq s2,Up ī H1 cR H2/\SR T cR s2 H2/\ER T cR H2 Wq mF/\fX T XE cR H2 (forL bO mb gs (xs.drop (i+1)) Wq s2) D,λ mF H2 h2=>⟨xs.length - (i+1),by lia,rfl,qy,h2⟩,λ x H'' hy=>?_⟩
   obtain⟨y1,y2,y3⟩:=w2 x H'' hy
   refine⟨ħ,bJ,s',xs[i],y2,Jh.up y1,y3,?_⟩
   have Ĝ:=fX.up y1 Ĝ
   cases et:bO xs[i] bJ s' with
   | nx e1 s1=>
    simp only[et]at Ĝ
    refine λ cR H2 mF u2 jk lC=>⟨cR,e1,s1,jk,lC,?_⟩
    have Ĝ:=fX.up u2 Ĝ
    have up2:Up ī H1 cR H2:=(u'.trans y1).trans u2
    cases eb:mb e1 s1 with
    | nx e2 s2=>simp only[eb]at Ĝ;exact λ nV H3 xB u3 oW Ji=>⟨nV,e2,s2,up2.trans u3,oW,Ji,fX.up u3 Ĝ⟩
    | ct e2 s2=>simp only[eb]at Ĝ;exact λ nV H3 xB u3 oW Ji=>⟨nV,e2,s2,up2.trans u3,oW,Ji,fX.up u3 Ĝ⟩
    | bk e2 s2=>simp only[eb]at Ĝ;exact λ nV H3 xB u3 oW Ji=>Ĝ nV H3 xB u3 oW Ji
    | rt v s2=>simp only[eb]at Ĝ;exact Ĝ
    | ex v s2=>simp only[eb]at Ĝ;exact Ĝ
    | bad=>simp only[eb]at Ĝ;exact Ĝ
   | ex c s1=>simp only[et]at Ĝ;exact Ĝ
   | rt v s2=>simp only[et]at Ĝ;exact Ĝ.elim
   | bk v s2=>simp only[et]at Ĝ;exact Ĝ.elim
   | ct v s2=>simp only[et]at Ĝ;exact Ĝ.elim
   | bad=>simp only[et]at Ĝ;exact Ĝ.elim
  ·have e:i=xs.length:=by lia
   subst e
   rw[iz]at Ĝ
   unfold forL at Ĝ
   obtain⟨si,Ĝ⟩:=Ĝ.ų
   exact .inl ⟨(wk.turn ħ s' H' u' iw si).2,Ĝ ħ H' aD .refl iw Jh⟩
abbrev Lc:=Á (Str × Í Nat)
def lS (l:Lc)(env:En):En:=l.map λ p=>p.2.bind λ j=>(env[j]?).join
theorem ER.src (h:ER T ρ H env σ)(l:Lc):ER T ρ H (lS l env) (xx l σ):=by
 refine⟨by simp[lS,xx],λ i v e=>?_⟩
 unfold lS at e
 unfold xx
 rw[ò]at e ⊢
 cases el:l[i]? with
 | none=>rw[el]at e;cases e
 | some p=>
  rw[el]at e
  obtain⟨n,o⟩:=p
  cases o with
  | none=>cases e
  | some j=>
   have e:À ((env[j]?).join)=À (À v):=e
   have e':env[j]? = À (À v):=by
    cases ej:env[j]? with
    | none=>rw[ej]at e;cases e
    | some q=>rw[ej]at e;cases e;rfl
   obtain⟨x,ex,k⟩:=h.get j v e'
   exact⟨x,by show À ((σ[j]?).join)=_;rw[ex];rfl,k⟩
def kZ:ia:=λ _ _ _ _=>False
def R.calm {α:Type}:R α->R α
 | .ex _ _=>.bad
 | r=>r
@[simp] theorem jv (a:α) (s:S):(R.ok a s).calm=.ok a s:=rfl
@[simp] theorem gZ:(R.bad:R α).calm=.bad:=rfl
def de:Eb:=λ _ s=>.ok true s
def ů (bO:Mt)(test:Eb)(ŭ:Ev)(gs:Gd):Á AV->En->S->Á AV->R (Á AV)
 | [],env,s,þ=>open Classical in if k6 gs s then .ok þ s else .bad
 | v :: r,env,s,þ=>open Classical in if k6 gs s then (match bO v env s with
   | .nx e1 s1=>(test e1 s1).calm.bind λ b s2=>if b=true then (ŭ e1 s2).calm.bind λ x s3=>ů bO test ŭ gs r e1 s3 (þ++[x]) else ů bO test ŭ gs r e1 s2 þ
   | _=>.bad) else .bad
def Œ (l:Lc)(src:Src)(bO:Mt)(test:Eb)(ŭ:Ev):jQ:=λ env s=>(src env s).bind λ p s1=>if p.1.length<=sizeLine then ů bO test ŭ p.2 p.1 (lS l env) s1 [] else .bad
theorem KN:xc X [] (iT T XE de):=λ Ä s σ H Q I ⟨ρ,env,st,hs,he,ho⟩=>OL Ä s σ H Q I (yf ho hs)
theorem KO (h:PT X c (iT T XE m)):xc X [c] (iT T XE m):=OM h
theorem EZ (h:tL T XE (Œ l src bO test ŭ) σ H Q):Lp l (tW T XE src) (tT T kZ bO) (iT T kZ test) (tE T kZ ŭ) σ H Q:=by
 obtain⟨ρ,env,s,hs,he,ho⟩:=h
 refine⟨ρ,env,s,hs,he,?_⟩
 unfold Œ at ho
 cases e:src env s with
 | bad=>rw[e]at ho;exact ho
 | ex c s1=>rw[e]at ho;exact ho
 | ok p s1=>
  rw[e]at ho
  obtain⟨xs,gs⟩:=p
  obtain⟨hlen,ho⟩:=ho.ų
  have hlen:xs.length<=sizeLine:=hlen
  intro ī H1 J u1 Ŧ wk D hD
  have wk:Walks T ī H1 xs gs J:=wk
  have nD:D∉ī:=Ŧ.out hD
  refine⟨λ i m ys aD H'=>m=xs.length - i/\i<=xs.length/\ys.length<=i/\∃ ħ bJ s' þ,Up ī H1 ħ H'/\SR T ħ s' H'/\ER T ħ H' bJ aD/\H' D=À (.lst ys)/\D∉ħ/\Ĵ T ħ H' þ ys/\Out T XE (rL T) ρ H (ů bO test ŭ gs (xs.drop i) bJ s' þ) Q,
   ⟨_,rfl,Ă _,Î _,ī,lS l env,s1,[],Ŧ.fP hD,Ŧ.new hD,((he.up u1).up (Ŧ.fP hD)).src l,Į,nD,.nil,ho⟩,?_⟩
  rintro i m ys aD H' ⟨rfl,hi,hy,ħ,bJ,s',þ,u',iw,Jh,hd,Ik,ka,Ĝ⟩
  by_cases qy:i < xs.length
  ·rw[au qy]at Ĝ
   unfold ů at Ĝ
   obtain⟨si,Ĝ⟩:=Ĝ.ų
   obtain⟨w1,w2⟩:=(wk.turn ħ s' H' u' iw si).1 i xs[i] (Ñ qy)
   refine .inr ⟨w1,λ x H'' Sw=>?_⟩
   obtain⟨y1,y2,y3⟩:=w2 x H'' Sw
   refine⟨ħ,bJ,s',xs[i],y2,Jh.up y1,y3,?_⟩
   have GY:=y1.fr D _ hd Ik
   have W7:=ka.up y1
   cases et:bO xs[i] bJ s' with
   | nx e1 s2=>
    simp only[et]at Ĝ
    refine λ cR H2 mF u2 jk lC=>⟨cR,e1,s2,jk,lC,?_⟩
    have hd2:=u2.fr D _ GY.1 GY.2
    have W8:=W7.up u2
    cases eb:test e1 s2 with
    | bad=>simp only[eb,gZ,Ķ]at Ĝ;exact Ĝ.elim
    | ex c s3=>simp only[eb,R.calm,Ķ]at Ĝ;exact Ĝ.elim
    | ok b s3=>
     simp only[eb,jv,bI]at Ĝ
     intro nV H3 b' u3 oW RO
     cases (show b=b' from RO)
     have xh:=u3.fr D _ hd2.1 hd2.2
     have QC:=W8.up u3
     have LB:Up ī H1 nV H3:=((u'.trans y1).trans u2).trans u3
     cases b with
     | false=>
      rw[Ó (by decide)]at Ĝ ⊢
      exact⟨xs.length - (i+1),by lia,rfl,qy,by lia,nV,e1,s3,þ,LB,oW,lC.up u3,xh.1,xh.2,QC,Ĝ⟩
     | true=>
      rw[É rfl]at Ĝ ⊢
      refine⟨nV,e1,s3,oW,lC.up u3,?_⟩
      cases ev:ŭ e1 s3 with
      | bad=>simp only[ev,gZ,Ķ]at Ĝ;exact Ĝ.elim
      | ex c s4=>simp only[ev,R.calm,Ķ]at Ĝ;exact Ĝ.elim
      | ok v s4=>
       simp only[ev,jv,bI]at Ĝ
       intro Gm H4 x4 u4 Uy PL
       have Bo:=u4.fr D _ xh.1 xh.2
       have ka4:=QC.up u4
       have g5:Gr Gm H4 Gm (upd H4 D (.lst (ys++[x4]))):=Wy Bo.1
       refine⟨Bo.1,by lia,xs.length - (i+1),by lia,rfl,qy,by rw[õ];exact Q7 hy,Gm,e1,s4,þ++[v],(LB.trans u4).mod hD Bo.2,Uy.up g5 λ a ha=>ÿ λ z=>Bo.2 (z ▸ ha),((lC.up u3).up u4).gr g5,Į,Bo.2,(ka4.append (.one PL)).gr g5,Ĝ⟩
   | ex c s1=>simp only[et]at Ĝ;exact Ĝ.elim
   | rt v s2=>simp only[et]at Ĝ;exact Ĝ.elim
   | bk v s2=>simp only[et]at Ĝ;exact Ĝ.elim
   | ct v s2=>simp only[et]at Ĝ;exact Ĝ.elim
   | bad=>simp only[et]at Ĝ;exact Ĝ.elim
  ·have e:i=xs.length:=by lia
   subst e
   rw[iz]at Ĝ
   unfold ů at Ĝ
   obtain⟨si,Ĝ⟩:=Ĝ.ų
   exact .inl ⟨(wk.turn ħ s' H' u' iw si).2,Ĝ ħ H' (.ref D) (u1.trans u') iw ⟨D,ys,rfl,u1.live D hD,Ik,hd,ka⟩⟩
theorem N7 (l:Lc)(iR:ž X scope l)(cA:X.calm=true)(hi:PI X tg iter (tW T XE src))
  (hg:∀ cl C fp s3 H3,PG (Ą X l scope cl C fp s3 H3) tg (tT T kZ bO)) (ht:∀ cl C fp s3 H3,xc (Ą X l scope cl C fp s3 H3) ifs (iT T kZ test)) (he:∀ cl C fp s3 H3,PE (Ą X l scope cl C fp s3 H3) ŭ (tE T kZ me))
  (hs:∀ x,ĉ iter X.env x=pure x:=by intro _;rfl):PE X (.ListComp ŭ [⟨tg,iter,ifs,0⟩] scope pos) (tL T XE (Œ l src bO test me)):=
 PE.imp (OC l iR cA hi hg ht he hs) λ _ _ _ h=>EZ h
theorem Ki (h:tE T XE (Ę r) σ H Q):tL T XE r σ H Q:=by
 obtain⟨ρ,env,s,hs,he,ho⟩:=h
 refine⟨ρ,env,s,hs,he,?_⟩
 unfold Ę at ho
 cases e:r env s with
 | bad=>rw[e]at ho;exact ho
 | ex c s1=>rw[e]at ho;exact ho
 | ok vs s1=>
  rw[e]at ho
  rintro ī H1 x u sr ⟨a,ws,e1,h0,h1,h2,k⟩
  subst e1
  have g:Gr ī H1 (ī++[a]) H1:=⟨fR _ _,λ _ _ z=>z,λ _ _ _ z=>z⟩
  refine ho (ī++[a]) H1 (.ref a) (u.add h0) (sr.add h1 (OR.lst h2 (k.gr g))) (wC (T:=T) (H:=H1) ?_)
  rw[Ā (by rw[sr.len];exact Î _),sr.len,uT];rfl
theorem DR (l:Lc)(iR:ž X scope l)(cA:X.calm=true)(hN:X.N.Nodup)(hi:PI X tg iter (tW T XE src))
  (hg:∀ cl C fp s3 H3,PG (Ą X l scope cl C fp s3 H3) tg (tT T kZ bO)) (ht:∀ cl C fp s3 H3,xc (Ą X l scope cl C fp s3 H3) ifs (iT T kZ test)) (he:∀ cl C fp s3 H3,PE (Ą X l scope cl C fp s3 H3) ŭ (tE T kZ me))
  (hy:X.N[i]? = À y:=by rfl) (hx:X.env.scope.names.lookup y=À .local:=by rfl)
  (Ss:fA (.ListComp ŭ [⟨tg,iter,ifs,0⟩] scope pos) (À (.Name y py)) Cd.line X.env=pure true:=by rfl)
  (hs:∀ x,ĉ iter X.env x=pure x:=by intro _;rfl) :
  PS X (.Assign [.Name y py] (.ListComp ŭ [⟨tg,iter,ifs,0⟩] scope pos) Cd) (tS T XE (Ī i (Ę (Œ l src bO test me)))):=
 PS.imp (Ea l iR cA hN hy hx hi hg ht he Ss hs) λ D σ H h=>EZ (Ki (Dj h))
def g_ (n:Nat)(body:Ms):Á AV->S->R AV:=λ args s=>match body (args.map À++Ü (n - args.length) none) s with
 | .rt v s1=>.ok v s1
 | .nx _ s1=>.ok .ĥ s1
 | .ex c s1=>.ex c s1
 | _=>.bad
def wx (T:Tx)(n:Nat)(F:Á AV->S->R AV):Sp:=λ vs H Q _=>vs.length=n/\∃ ρ s args,SR T ρ s H/\Ĵ T ρ H args vs/\Out T kZ (rV T) ρ H (F args s) Q
theorem Jj (N:Á Str)(k:Ĵ T ρ H args vs):ER T ρ H (args.map À++Ü (N.length - args.length) none) (L2.start N vs):=by
 refine⟨by simp[L2.start,k.length],λ i v e=>?_⟩
 unfold L2.start
 have hi:i < args.length:=by
  by_cases hi:i < args.length
  ·exact hi
  ·rw[Ā (by simpa using hi),C6]at e
   split at e<;>cases e
 rw[é (by simpa using hi),ò]at e
 cases ea:args[i]? with
 | none=>rw[ea]at e;cases e
 | some w=>
  rw[ea]at e;cases e
  obtain⟨x,ex,q⟩:=k.get ea
  exact⟨x,by rw[é (by simpa[<-k.length]using hi),ò,ex];rfl,q⟩
theorem Qm (F:Mo T.K x qual st f fd)(S:la N ps (ai st))
  (hb:∀ (ji:Ç) (A:ō) (outer:Á ED) (s:Ï) (H:Hp) (E:XK),iJ k (A.deeper (yJ qual (ai st) s.heap.objs.size f ji))->p5 (A8 C0 P w T.K mg base N qual (ai st) f ji A outer s H E).VF (fE st) (tS T kZ body)) :
  oA P w T.K mg base C0 (k+1) f fd ps (wx T ps.length (g_ N.length body)):=
 F.ok S (λ vs H Q E h=>h.1) λ ji A outer s H vs Q E hr ⟨hl,ρ,zR,args,sr,va,ho⟩=>by
  refine⟨_,hb ji A outer s H E hr,ρ,_,zR,sr,Jj N va,?_⟩
  unfold g_ at ho
  cases e:body (args.map À++Ü (N.length - args.length) none) zR with
  | nx e1 s1=>simp only[e]at ho;exact λ cR H2 mF u sr er=>ho cR H2 .ĥ u sr (EA (T:=T) (ρ:=cR) (H:=H2))
  | rt v s1=>simp only[e]at ho;exact ho
  | ex c s1=>simp only[e]at ho;exact ho
  | bk v s1=>simp only[e]at ho;exact ho.elim
  | ct v s1=>simp only[e]at ho;exact ho.elim
  | bad=>simp only[e]at ho;exact ho.elim
def Ø (n:Nat)(F:Á AV->S->R AV)(r:jQ):Ev:=λ env s=>(r env s).bind λ vs s1=>if vs.length=n then F vs s1 else .bad
theorem call_of (h:tE T kZ (Ø n F r) σ H Q):QV (wx T n F) [] E0 (tP T kZ r) σ H Q:=by
 obtain⟨ρ,env,s,hs,he,ho⟩:=h
 refine step hs he ho λ vs s1 ī H1 xs _ u1 Ŧ df ŧ Ĥ=>?_
 obtain⟨hl,Ĥ⟩:=Ĥ.ų
 have ŧ:Ĵ T ī H1 vs xs:=ŧ
 rw[fw]
 exact⟨by rw[<-ŧ.length];exact hl,ī,s1,vs,Ŧ,ŧ,Ĥ⟩
theorem NZ (hK:X.K=T.K)(G:oA X.prog X.w T.K X.mg X.base C0 k f fd ps (wx T n Fn)) (hr:iJ k X.A)(hm:X.mg x=À (.ref f)) (hk:fV T.K (.ref f)=true) (hb:Binds T.K fd ps [])
  (ha:PA X (e :: es) (tP T kZ r)) (hg:Gl X x:=by rfl) (xi:(x == ("__debug__":Str))=false:=by decide) (he:à (e :: es) X.env=(false,Ŝ e X.env) :: à es X.env:=by rfl) (nc:(aO pos (à es X.env)).any (·.1)=false:=by rfl) :
  PE X (.Call (.Name x p) (e :: es) [] pos) (tE T kZ (Ø n Fn r)):=
 PE.imp (OA (E:=E0) (by rw[hK];exact G) hr hg hm (by rw[hK];exact hk) (by rw[hK];exact hb) .nil X0 ha xi he nc) λ _ _ _ h=>call_of h
end
end Mm
namespace Ro
open PySem L2
def pE (top below:Int):Int:=if below < 0 then -((í top below:Nat):Int) else ((í top below:Nat):Int)
def fr (top below:Int):Int × Int:=(top.fdiv (pE top below),below.fdiv (pE top below))
theorem gQ (h:b≠0):0 < í t b:=Int.gcd_pos_of_ne_zero_right t h
theorem Jv (h:b≠0):pE t b≠0:=by
 have:=gQ (t:=t) h
 unfold pE
 split<;>lia
theorem vA (t b:Int):(pE t b).natAbs=í t b:=by
 unfold pE
 split<;>lia
theorem GV (t b:Int):pE t b ∣ t:=by
 unfold pE
 split
 ·exact(abk).mpr (iD ..)
 ·exact iD ..
theorem GW (t b:Int):pE t b ∣ b:=by
 unfold pE
 split
 ·exact(abk).mpr (lX ..)
 ·exact lX ..
theorem ŗ {a g:Int}(h:g ∣ a):a.fdiv g * g=a:=Int.fdiv_mul_cancel h
theorem Je (h:y ∣ x * v)(h2:í x y=1):y ∣ v:=by
 have h1:y.natAbs ∣ x.natAbs * v.natAbs:=by rw[<-dZ];exact iy.mpr h
 have hc:abm y.natAbs x.natAbs:=by
  show P4 y.natAbs x.natAbs=1
  rw[Nat.gcd_comm]
  exact h2
 exact iy.mp (hc.dvd_of_dvd_mul_left h1)
theorem R8 (t b:Int):(fr t b).1 * pE t b=t:=ŗ (GV t b)
theorem Nl (t b:Int):(fr t b).2 * pE t b=b:=ŗ (GW t b)
theorem Jo (t b:Int)(h:b≠0):(fr t b).1 * b=t * (fr t b).2:=by
 have h1:=R8 t b
 have h2:=Nl t b
 generalize (fr t b).1=x at *
 generalize (fr t b).2=y at *
 generalize pE t b=g at *
 subst h1
 rw[<-h2]
 rw[c6 y g,<-fu,kz]
theorem R_ (t b:Int)(h:b≠0):1<=(fr t b).2:=by
 have h2:=Nl t b
 have hg:=gQ (t:=t) h
 have hb:(pE t b < 0/\b < 0)∨(0 < pE t b/\0 < b):=by
  unfold pE
  split
  ·left;lia
  ·right;lia
 generalize (fr t b).2=y at *
 generalize pE t b=g at *
 rcases hb with⟨h3,h4⟩|⟨h3,h4⟩
 ·refine MF.mp λ hy=>?_
  have:0<=y * g:=Int.mul_nonneg_of_nonpos_of_nonpos (by lia) (by lia)
  lia
 ·refine MF.mp λ hy=>?_
  have:y * g<=0:=tJ (by lia) (by lia)
  lia
theorem R7 (t b:Int)(h:b≠0):í (fr t b).1 (fr t b).2=1:=by
 have h1:=R8 t b
 have h2:=Nl t b
 have hg:=gQ (t:=t) h
 have hn:=vA t b
 have e:í ((fr t b).1 * pE t b) ((fr t b).2 * pE t b)=í (fr t b).1 (fr t b).2 * (pE t b).natAbs:=PV ..
 rw[h1,h2,hn]at e
 have:1 * í t b=í (fr t b).1 (fr t b).2 * í t b:=by rw[abr];exact e
 exact(AE hg this).symm
theorem zk (hb:b≠0)(h1:1<=y)(h2:í x y=1)(h3:x * b=t * y):fr t b=(x,y):=by
 have k1:=R_ t b hb
 have k2:=R7 t b hb
 have k3:=Jo t b hb
 have e:x * (fr t b).2=(fr t b).1 * y:=by
  refine ko hb ?_
  have e1:x * (fr t b).2 * b=x * b * (fr t b).2:=kz ..
  have e2:(fr t b).1 * y * b=(fr t b).1 * b * y:=kz ..
  rw[e1,e2,h3,k3,kz]
 generalize hx:(fr t b).1=u at *
 generalize hy:(fr t b).2=v at *
 have d1:y ∣ v:=by
  have:y ∣ x * v:=⟨u,by rw[e,c6]⟩
  exact Je this h2
 have d2:v ∣ y:=by
  have:v ∣ u * y:=⟨x,by rw[<-e,c6]⟩
  exact Je this k2
 have ev:v=y:=Int.dvd_antisymm (by lia) (by lia) d2 d1
 have eu:u=x:=by
  rw[ev]at e
  exact(ko (by lia) e).symm
 rw[show fr t b=(u,v) from by rw[<-hx,<-hy],eu,ev]
def low (top below:Int):Int × Int:=
 (((if below < 0 then -1 else 1) * top).fdiv ((í top below:Nat):Int),((if below < 0 then -1 else 1) * below).fdiv ((í top below:Nat):Int))
theorem SX (t b:Int)(hb:b≠0):low t b=fr t b:=by
 unfold low fr pE
 by_cases h:b < 0
 ·rw[É h,É h]
  have hg:=gQ (t:=t) hb
  have key:∀ a:Int,((í t b:Nat):Int) ∣ a->(-1 * a).fdiv ((í t b:Nat):Int)=a.fdiv (-((í t b:Nat):Int)):=by
   rintro a ⟨c,hc⟩
   rw[hc]
   have e1:(-1 * (((í t b:Nat):Int) * c))=(-c) * ((í t b:Nat):Int):=by
    rw[abl,xE,c6,abl]
   have e2:(((í t b:Nat):Int) * c)=(-c) * (-((í t b:Nat):Int)):=by
    rw[Int.neg_mul_neg,c6]
   rw[e1,L9 _ (by lia),e2,L9 _ (by lia)]
  rw[key t (iD ..),key b (lX ..)]
 ·rw[Ó h,Ó h,xE,xE]
theorem boot_abs:č "abs"=À (.builtin "abs"):=by decide +kernel
theorem boot_divmod:č "divmod"=À (.builtin "divmod"):=by decide +kernel
theorem boot_list:č "list"=À (.type "list"):=by decide +kernel
theorem boot_tuple:č "tuple"=À (.type "tuple"):=by decide +kernel
theorem boot_int:č "int"=À (.type "int"):=by decide +kernel
theorem boot_bool:č "bool"=À (.type "bool"):=by decide +kernel
theorem boot_str:č "str"=À (.type "str"):=by decide +kernel
theorem boot_isinstance:č "isinstance"=À (.builtin "isinstance"):=by decide +kernel
theorem boot_all:č "all"=À (.builtin "all"):=by decide +kernel
theorem kne:¬ (("cells":Str)="turn"):=by decide +kernel
theorem aaT:(10:Int) ^ (18:Int).toNat=1000000000000000000:=by decide +kernel
end Ro
namespace L2
open PySem PySem.Spec PyProof.Rows
def Wb (K:Ô)(H:Hp)(x:V)(t:String):Prop:=match x with
 | .ĥ=>t="NoneType"
 | .bl _=>t="bool"
 | .int _=>t="int"
 | .str _=>t="str"
 | .ref a=>(t="tuple"/\∃ xs,iP K H a xs)∨(t="list"/\∃ xs,f9 K H a xs)∨(t="dict"/\((∃ kvs,H a=À (.dK kvs))∨∃ kvs,H a=À (.dT kvs)))
 | _=>False
def aaV (K:Ô):Á V->Hp->VK->Prop:=λ xs H Q=>∃ (t:String) (x:V) (n:String) (b:Bool),xs=[x,.ty n]/\Wb K H x t/\wZ K (.type t) (.type n)=À b/\Q (.bl b) H
theorem IT:aQ X (.builtin "isinstance") (aaV X.K):=by
 intro Ä s σ H xs us Q I r h
 obtain⟨t,x,n,b,rfl,hd,e,q⟩:=h
 obtain⟨u,w',rfl,ru,B9⟩:=vals2 r
 obtain rfl:w'=h_ n:=B9
 have fin:∀ tk,EP X Ä σ Q (.bool b) { s with toks:=tk }:=λ tk=>⟨.bl b,H,I.tok tk,rfl,q⟩
 cases x with
 | ĥ=>cases (show t=_ from hd);exact n_ I ru .ĥ e fin
 | bl y=>cases (show t=_ from hd);exact n_ I ru (.bl y) e fin
 | int y=>cases (show t=_ from hd);exact n_ I ru (.int y) e fin
 | str y=>cases (show t=_ from hd);exact n_ I ru (.str y) e fin
 | ref a=>
  cases ru
  rcases hd with⟨rfl,ys,q1⟩|⟨rfl,ys,q1⟩|⟨rfl,hk⟩
  ·obtain⟨its,_,p,_⟩:=I.tuple q1
   obtain⟨o,h1,h2,_⟩:=p
   exact ĸ Gs I.yl ⟨o,h1,h2⟩ e (λ z=>nomatch z) fin
  ·obtain⟨its,_,p,_⟩:=I.list q1
   obtain⟨o,h1,h2,_⟩:=p.isList
   exact ĸ rR I.yl ⟨o,h1,h2⟩ e (λ z=>nomatch z) fin
  ·have z:∃ o,s.heap.get? a=À o/\o.ExactDict:=by
    rcases hk with⟨kvs,hk⟩|⟨kvs,hk⟩
    ·obtain⟨_,_,_,_,o,_,_,e,ex,_⟩:=I.ar a _ hk
     exact⟨o,e,ex⟩
    ·obtain⟨_,_,_,_,o,_,_,e,ex,_⟩:=I.ar a _ hk
     exact⟨o,e,ex⟩
   obtain⟨o,h1,h2⟩:=z
   exact ĸ rP I.yl ⟨o,h1,h2.1⟩ e (λ z=>nomatch z) fin
 | EW y=>exact bw hd
 | R4 y=>exact bw hd
 | ty y=>exact bw hd
end L2
namespace Mm
open PySem L2
section
variable {T:Tx}{XE:ia}{X:Cx}{pos:ki}
def O5 (T:Tx)(XE:ia)(op:Á AV->S->R AV):Á V->Hp->VK->Prop:=λ vs H Q=>∃ ρ args s,SR T ρ s H/\Ĵ T ρ H args vs/\Out T XE (rV T) ρ H (op args s) Q
def VG {α:Type}(T:Tx)(XE:ia)(rl:Rl α V)(op:Á AV->S->R α):Á V->Hp->VK->Prop:=λ vs H Q=>∃ a ws ρ xs s,vs=[.ref a]/\SR T ρ s H/\(f9 T.K H a ws∨iP T.K H a ws)/\Ĵ T ρ H xs ws/\Out T XE rl ρ H (op xs s) Q
def kl (op:Á AV->S->R AV)(r:jQ):Ev:=λ env s=>(r env s).bind op
def mI {α:Type}(op:Á AV->S->R α)(r:jQ):En->S->R α:=λ env s=>(r env s).bind op
theorem Qg (h:tE T XE (kl op r) σ H Q):Yo (O5 T XE op) (tP T XE r) σ H Q:=by
 obtain⟨ρ,env,s,hs,he,ho⟩:=h
 exact step hs he ho λ v s1 ī H1 x _ u1 Ŧ df ŧ Ĥ=>⟨ī,v,s1,Ŧ,ŧ,Ĥ⟩
theorem Qh (h:tG T XE rl (mI op r) σ H Q):Yo (VG T XE rl op) (Cm (tQ T XE r) Pw) σ H Q:=by
 obtain⟨ρ,env,s,hs,he,ho⟩:=h
 refine step hs he ho λ v s1 ī H1 x _ u1 Ŧ df ŧ Ĥ=>?_
 obtain⟨a,ws,rfl,q,k⟩:=ŧ
 exact⟨a,ws,ī,v,s1,rfl,Ŧ,q,k,Ĥ⟩
theorem J3 {id:String}{op:Á AV->S->R AV}{es:Á Ů}{r:jQ}(hc:aQ X (.builtin id) (O5 T XE op)) (hm:X.mg x=none)(hv:č x=À (.builtin id)) (ha:PA X (e :: es) (tP T XE r)) (hg:Gl X x:=by rfl)(hn:x≠"__name__":=by decide)(xi:(x == ("__debug__":Str))=false:=by decide)
  (he:à (e :: es) X.env=(false,Ŝ e X.env) :: à es X.env:=by rfl) (nc:(aO pos (à es X.env)).any (·.1)=false:=by rfl):PE X (.Call (.Name x p) (e :: es) [] pos) (tE T XE (kl op r)):=
 PE.imp (kO hc hg hm hv ha hn xi he nc) λ _ _ _ h=>Qg h
theorem aaD {id:String}{op:Á AV->S->R AV}{es:Á Ů}{r:jQ}(hc:aQ X (.type id) (O5 T XE op)) (hm:X.mg x=none)(hv:č x=À (.type id)) (ha:PA X (e :: es) (tP T XE r)) (hg:Gl X x:=by rfl)(hn:x≠"__name__":=by decide)(xi:(x == ("__debug__":Str))=false:=by decide)
  (he:à (e :: es) X.env=(false,Ŝ e X.env) :: à es X.env:=by rfl) (nc:(aO pos (à es X.env)).any (·.1)=false:=by rfl):PE X (.Call (.Name x p) (e :: es) [] pos) (tE T XE (kl op r)):=
 PE.imp (sH hc hg hm hv ha hn xi he nc) λ _ _ _ h=>Qg h
theorem aaF {α:Type}{rl:Rl α V}{id:String}{op:Á AV->S->R α}{r:jQ}(hc:aQ X (.builtin id) (VG T XE rl op)) (hm:X.mg x=none)(hv:č x=À (.builtin id)) (ha:PE X e (tQ T XE r)) (hg:Gl X x:=by rfl)(hn:x≠"__name__":=by decide)(xi:(x == ("__debug__":Str))=false:=by decide)
  (he:à [e] X.env=(false,Ŝ e X.env) :: à [] X.env:=by rfl) (nc:(aO pos (à [] X.env)).any (·.1)=false:=by rfl):PE X (.Call (.Name x p) [e] [] pos) (tG T XE rl (mI op r)):=
 PE.imp (kO hc hg hm hv (fM ha lO he) hn xi he nc) λ _ _ _ h=>Qh h
theorem Xs {α:Type}{rl:Rl α V}{id:String}{op:Á AV->S->R α}{r:jQ}(hc:aQ X (.type id) (VG T XE rl op)) (hm:X.mg x=none)(hv:č x=À (.type id)) (ha:PE X e (tQ T XE r)) (hg:Gl X x:=by rfl)(hn:x≠"__name__":=by decide)(xi:(x == ("__debug__":Str))=false:=by decide)
  (he:à [e] X.env=(false,Ŝ e X.env) :: à [] X.env:=by rfl) (nc:(aO pos (à [] X.env)).any (·.1)=false:=by rfl):PE X (.Call (.Name x p) [e] [] pos) (tG T XE rl (mI op r)):=
 PE.imp (sH hc hg hm hv (fM ha lO he) hn xi he nc) λ _ _ _ h=>Qh h
def tj:Á AV->S->R AV
 | [.int i],s=>.ok (.int (if i < 0 then -i else i)) s
 | _,_=>.bad
theorem Ĵ.gS (h:Ĵ T ρ H [v] xs):∃ x,xs=[x]/\VR T ρ H v x:=by
 obtain⟨x,ys,rfl,k1,k2⟩:=h.cons_inv
 cases k2.nil_inv
 exact⟨x,rfl,k1⟩
theorem Ĵ.two_inv (h:Ĵ T ρ H [v,w] xs):∃ x y,xs=[x,y]/\VR T ρ H v x/\VR T ρ H w y:=by
 obtain⟨x,ys,rfl,k1,k2⟩:=h.cons_inv
 obtain⟨y,rfl,k3⟩:=k2.gS
 exact⟨x,y,rfl,k1,k3⟩
theorem cAbs:aQ X (.builtin "abs") (O5 T XE tj):=by
 rintro Ä s σ H xs us Q I r ⟨ρ,args,st,sr,va,ho⟩
 unfold tj at ho
 split at ho
 ·obtain⟨x,rfl,k⟩:=va.gS
  cases k.int_inv
  exact IS Ä s σ H _ us Q I r ⟨_,rfl,ho.Ĭ sr bh⟩
 ·exact ho.elim
def BW:Á AV->S->R AV
 | [.int i,.int j],s=>.ok (.int (if j < i then j else i)) s
 | _,_=>.bad
theorem Z7 (hc:X.calm=true):aQ X (.builtin "min") (O5 T XE BW):=by
 rintro Ä s σ H xs us Q I r ⟨ρ,args,st,sr,va,ho⟩
 unfold BW at ho
 split at ho
 ·obtain⟨x,y,rfl,k,k2⟩:=va.two_inv
  cases k.int_inv
  cases k2.int_inv
  exact GJ hc Ä s σ H _ us Q I r ⟨_,_,rfl,ho.Ĭ sr bh⟩
 ·exact ho.elim
def yx:Á AV->S->R AV
 | [.int i,.int j],s=>.ok (.int (if j > i then j else i)) s
 | _,_=>.bad
theorem Z6 (hc:X.calm=true):aQ X (.builtin "max") (O5 T XE yx):=by
 rintro Ä s σ H xs us Q I r ⟨ρ,args,st,sr,va,ho⟩
 unfold yx at ho
 split at ho
 ·obtain⟨x,y,rfl,k,k2⟩:=va.two_inv
  cases k.int_inv
  cases k2.int_inv
  exact GI hc Ä s σ H _ us Q I r ⟨_,_,rfl,ho.Ĭ sr bh⟩
 ·exact ho.elim
def nz:Á AV->S->R AV
 | [.int i,.int j],s=>if 0 < j/\Rj j then .ok (.tup [.int (i / j),.int (i % j)]) s else .bad
 | _,_=>.bad
theorem M_:aQ X (.builtin "divmod") (O5 T XE nz):=by
 rintro Ä s σ H xs us Q I r ⟨ρ,args,st,sr,va,ho⟩
 unfold nz at ho
 split at ho
 ·obtain⟨x,y,rfl,k,k2⟩:=va.two_inv
  cases k.int_inv
  cases k2.int_inv
  obtain⟨hl,ho⟩:=ho.ų
  exact zc Ä s σ H _ us Q I r ⟨_,_,rfl,⟨hl.1,hl.2.f⟩,λ p hp=>ho.tup sr hp (.cons bh (.one bh))⟩
 ·exact ho.elim
def oV:Á AV->S->R AV
 | [.int i],s=>.ok (.int i) s
 | [.bl b],s=>.ok (.int (if b then 1 else 0)) s
 | _,_=>.bad
theorem cInt:aQ X (.type "int") (O5 T XE oV):=by
 rintro Ä s σ H xs us Q I r ⟨ρ,args,st,sr,va,ho⟩
 unfold oV at ho
 split at ho
 ·obtain⟨x,rfl,k⟩:=va.gS
  cases k.int_inv
  exact xT Ä s σ H _ us Q I r (.inl ⟨_,rfl,ho.Ĭ sr bh⟩)
 ·obtain⟨x,rfl,k⟩:=va.gS
  cases k.gg
  exact xT Ä s σ H _ us Q I r (.inr ⟨_,rfl,ho.Ĭ sr bh⟩)
 ·exact ho.elim
def cZ:Á AV->S->R AV
 | [.str z],s=>if z.length<=sizeLine then .ok (.int z.length) s else .bad
 | [v],s=>need (items v s) λ xs=>.ok (.int xs.length) s
 | _,_=>.bad
theorem Z5 (hK:X.K=T.K):aQ X (.builtin "len") (O5 T XE cZ):=by
 rintro Ä s σ H xs us Q I r ⟨ρ,args,st,sr,va,ho⟩
 have rest:∀ v,args=[v]->Out T XE (rV T) ρ H (need (items v st) λ xs=>.ok (.int xs.length) st) Q->ß (á X.prog X.w) X.A (call (.builtin "len") us) (EP X Ä σ Q) X.xe s:=by
  rintro v rfl ho
  obtain⟨ys,e,ho⟩:=ho.Ē
  obtain⟨x,rfl,k⟩:=va.gS
  obtain⟨a,vs,rfl,h1,k1⟩:=sy e sr k
  exact qq Ä s σ H _ us Q I r ⟨a,vs,rfl,by rw[hK];exact h1,by rw[<-k1.length];exact ho.Ĭ sr bh⟩
 unfold cZ at ho
 split at ho
 ·obtain⟨x,rfl,k⟩:=va.gS
  cases k.str_inv
  obtain⟨hl,ho⟩:=ho.ų
  exact zd Ä s σ H _ us Q I r ⟨_,rfl,hl,ho.Ĭ sr bh⟩
 ·exact rest _ rfl ho
 ·exact ho.elim
def O2 (xs:Á AV)(s:S):R AV:=.ok (.int xs.length) s
theorem Wf (hK:X.K=T.K):aQ X (.builtin "len") (VG T XE (rV T) O2):=by
 rintro Ä s σ H xs us Q I r ⟨a,ws,ρ,ys,st,e,sr,h1,k,ho⟩
 subst e
 exact qq Ä s σ H _ us Q I r ⟨a,ws,rfl,by rw[hK];exact h1,by rw[<-k.length];exact ho.Ĭ sr bh⟩
def kJ:Á AV->Í (Á Int)
 | []=>À []
 | .int i :: r=>(kJ r).map (i :: ·)
 | _ :: _=>none
def pz:Á AV->Í (Á Bool)
 | []=>À []
 | .bl i :: r=>(pz r).map (i :: ·)
 | _ :: _=>none
theorem yi:∀ {l:Á AV}{ns:Á Int},kJ l=À ns->l=ns.map .int
 | [],_,h=>by cases h;rfl
 | v :: r,ns,h=>by
  cases v<;>try cases h
  rename_i i
  cases e:kJ r with
  | none=>rw[show kJ (.int i :: r)=(kJ r).map (i :: ·) from rfl,e]at h;cases h
  | some q=>
   rw[show kJ (.int i :: r)=(kJ r).map (i :: ·) from rfl,e]at h;cases h
   rw[yi e];rfl
theorem A1:∀ {l:Á AV}{ns:Á Bool},pz l=À ns->l=ns.map .bl
 | [],_,h=>by cases h;rfl
 | v :: r,ns,h=>by
  cases v<;>try cases h
  rename_i i
  cases e:pz r with
  | none=>rw[show pz (.bl i :: r)=(pz r).map (i :: ·) from rfl,e]at h;cases h
  | some q=>
   rw[show pz (.bl i :: r)=(pz r).map (i :: ·) from rfl,e]at h;cases h
   rw[A1 e];rfl
@[simp] theorem su (ns:Á Int):kJ (ns.map .int)=À ns:=by
 induction ns with
 | nil=>rfl
 | cons a r ih=>show(kJ (r.map .int)).map (a :: ·)=_;rw[ih];rfl
@[simp] theorem u6 (ns:Á Bool):pz (ns.map .bl)=À ns:=by
 induction ns with
 | nil=>rfl
 | cons a r ih=>show(pz (r.map .bl)).map (a :: ·)=_;rw[ih];rfl
def O3 (xs:Á AV)(s:S):R AV:=need (kJ xs) λ ns=>.ok (.int ns.sum) s
def ug (xs:Á AV)(s:S):R AV:=need (pz xs) λ ns=>.ok (.bl (ns.all id)) s
def Zd {α:Type}(T:Tx)(XE:ia)(rl:Rl α V)(op:Á AV->S->R α):Á V->Hp->VK->Prop:=λ vs H Q=>∃ a ws ρ xs s,vs=[.ref a]/\SR T ρ s H/\H a=À (.lst ws)/\Ĵ T ρ H xs ws/\Out T XE rl ρ H (op xs s) Q
theorem Wj (h:tG T XE rl (mI op r) σ H Q):Yo (Zd T XE rl op) (Cm (tL T XE r) Pw) σ H Q:=by
 obtain⟨ρ,env,s,hs,he,ho⟩:=h
 refine step hs he ho λ v s1 ī H1 x _ u1 Ŧ df ŧ Ĥ=>?_
 obtain⟨a,ws,rfl,_,_,q,k⟩:=ŧ
 exact⟨a,ws,ī,v,s1,rfl,Ŧ,q,k,Ĥ⟩
theorem QG {α:Type}{rl:Rl α V}{id:String}{op:Á AV->S->R α}{r:jQ}(hc:aQ X (.builtin id) (Zd T XE rl op)) (hm:X.mg x=none)(hv:č x=À (.builtin id)) (ha:PE X e (tL T XE r)) (hg:Gl X x:=by rfl)(hn:x≠"__name__":=by decide)(xi:(x == ("__debug__":Str))=false:=by decide)
  (he:à [e] X.env=(false,Ŝ e X.env) :: à [] X.env:=by rfl) (nc:(aO pos (à [] X.env)).any (·.1)=false:=by rfl):PE X (.Call (.Name x p) [e] [] pos) (tG T XE rl (mI op r)):=
 PE.imp (kO hc hg hm hv (fM ha lO he) hn xi he nc) λ _ _ _ h=>Wj h
theorem Z8 (hc:X.calm=true):aQ X (.builtin "sum") (Zd T XE (rV T) O3):=by
 rintro Ä s σ H xs us Q I r ⟨a,ws,ρ,ys,st,e,sr,h1,k,ho⟩
 subst e
 obtain⟨ns,e,ho⟩:=ho.Ē
 rw[yi e]at k
 rw[k.Bv]at h1
 exact GK hc Ä s σ H _ us Q I r ⟨a,ns,rfl,f9.of h1,ho.Ĭ sr bh⟩
theorem Z4 (hc:X.calm=true):aQ X (.builtin "all") (Zd T XE (rV T) ug):=by
 rintro Ä s σ H xs us Q I r ⟨a,ws,ρ,ys,st,e,sr,h1,k,ho⟩
 subst e
 obtain⟨ns,e,ho⟩:=ho.Ē
 rw[A1 e]at k
 rw[k.EV]at h1
 exact GH hc Ä s σ H _ us Q I r ⟨a,ns,rfl,f9.of h1,ho.Ĭ sr dw⟩
def FO (xs:Á AV)(s:S):R (Á AV):=.ok xs s
theorem Wg (hK:X.K=T.K):aQ X (.type "list") (VG T XE (rL T) FO):=by
 rintro Ä s σ H xs us Q I r ⟨a,ws,ρ,ys,st,e,sr,h1,k,ho⟩
 subst e
 exact ze Ä s σ H _ us Q I r ⟨a,ws,rfl,by rw[hK];exact h1,λ l hl=>ho.lst sr hl k⟩
def iu (xs:Á AV)(s:S):R AV:=.ok (.tup xs) s
theorem RA (hK:X.K=T.K):aQ X (.type "tuple") (VG T XE (rV T) iu):=by
 rintro Ä s σ H xs us Q I r ⟨a,ws,ρ,ys,st,e,sr,h1,k,ho⟩
 subst e
 refine xf Ä s σ H _ us Q I r ⟨a,ws,rfl,?_⟩
 rcases h1 with h1|h1
 ·exact .inl ⟨by rw[hK];exact h1,λ l hl=>ho.tup sr hl k⟩
 ·exact .inr ⟨by rw[hK];exact h1,ho.Ĭ sr (ja h1 k)⟩
def cu (v:AV)(s:S):Í String:=match v with
 | .ĥ=>À "NoneType"
 | .bl _=>À "bool"
 | .int _=>À "int"
 | .str _=>À "str"
 | .tup _=>À "tuple"
 | .sq _=>À "list"
 | .ref i=>match s[i]? with
  | some (.lst _)=>À "list"
  | some (.dK _)=>À "dict"
  | some (.dT _)=>À "dict"
  | _=>none
def fO:Á String:=["NoneType","bool","int","str","tuple","list","dict"]
def en (t n:String):Bool:=t == n || (t == "bool" && n == "int")
theorem SS (ht:t∈fO)(hn:n∈fO):wZ K (.type t) (.type n)=À (en t n):=by
 simp only[fO,Ò,Ĉ,bz]at ht hn
 rcases ht with rfl|rfl|rfl|rfl|rfl|rfl|rfl<;>rcases hn with rfl|rfl|rfl|rfl|rfl|rfl|rfl<;>rfl
theorem Pz (h:cu v s=À t)(sr:SR T ρ s H)(va:VR T ρ H v x):Wb T.K H x t/\t∈fO:=by
 cases v with
 | ĥ=>cases va.iL;cases h;exact⟨rfl,by simp[fO]⟩
 | bl c=>cases va.gg;cases h;exact⟨rfl,by simp[fO]⟩
 | int c=>cases va.int_inv;cases h;exact⟨rfl,by simp[fO]⟩
 | str c=>cases va.str_inv;cases h;exact⟨rfl,by simp[fO]⟩
 | tup c=>obtain⟨a,vs,rfl,h1,k⟩:=va.bq;cases h;exact⟨.inl ⟨rfl,vs,h1⟩,by simp[fO]⟩
 | sq c=>obtain⟨a,vs,rfl,h1,k⟩:=va.gF;cases h;exact⟨.inr (.inl ⟨rfl,vs,h1.FZ⟩),by simp[fO]⟩
 | ref i=>
  have h:(match s[i]? with
  | some (.lst _)=>À "list"
  | some (.dK _)=>À "dict"
  | some (.dT _)=>À "dict"
  | _=>none)=À t:=h
  obtain⟨a,e1,rfl⟩:=va.jH
  split at h
  ·rename_i xs e
   cases h
   obtain⟨b,e2,vs,h1,_⟩:=sr.obj i _ e
   rw[e1]at e2;cases e2
   exact⟨.inr (.inl ⟨rfl,vs,f9.of h1⟩),by simp[fO]⟩
  ·rename_i xs e
   cases h
   obtain⟨b,e2,vs,h1,_⟩:=sr.obj i _ e
   rw[e1]at e2;cases e2
   exact⟨.inr (.inr ⟨rfl,.inl ⟨vs,h1⟩⟩),by simp[fO]⟩
  ·rename_i xs e
   cases h
   obtain⟨b,e2,vs,h1,_⟩:=sr.obj i _ e
   rw[e1]at e2;cases e2
   exact⟨.inr (.inr ⟨rfl,.inr ⟨vs,h1⟩⟩),by simp[fO]⟩
  ·cases h
def aR (n:String)(v:AV)(s:S):R AV:=need (cu v s) λ t=>.ok (.bl (en t n)) s
theorem S8 (hK:X.K=T.K)(hn:n∈fO)(hm:X.mg "isinstance"=none)(hm2:X.mg nm=none)(hv2:č nm=À (.type n)) (ha:PE X e (tE T XE m)) (hg:Gl X "isinstance":=by rfl)(hg2:Gl X nm:=by rfl)(hnn:nm≠"__name__":=by decide)(xi:(nm == ("__debug__":Str))=false:=by decide)
  (he:à [e,.Name nm p2] X.env=(false,Ŝ e X.env) :: à [.Name nm p2] X.env:=by rfl) (he2:à [.Name nm p2] X.env=(false,Ŝ (.Name nm p2) X.env) :: à [] X.env:=by rfl) (nc:(aO pos (à [.Name nm p2] X.env)).any (·.1)=false:=by rfl) :
  PE X (.Call (.Name "isinstance" p) [e,.Name nm p2] [] pos) (tE T XE (gR (aR n) m)):=
 PE.imp (kO IT hg hm Ro.boot_isinstance (fM ha (fM (Oz (v:=.ty n) hg2 hm2 hv2 rfl hnn xi) lO he2) he) (by decide) (by decide) he nc) λ σ H Q zz=>Ŵ zz λ ρ env s hs he ho=>
  step hs he ho λ v s1 ī H1 x _ u1 Ŧ df ŧ Ĥ=>by
   obtain⟨t,e,Ĥ⟩:=Ĥ.Ē
   obtain⟨h1,h2⟩:=Pz e Ŧ ŧ
   exact⟨t,x,n,_,rfl,by rw[hK];exact h1,SS h2 hn,Ĥ.Ĭ Ŧ dw⟩
def Ye (T:Tx)(XE:ia)(op:AV->Á AV->S->R AV):V->Á V->Hp->VK->Prop:=λ x xs H Q=>∃ ρ v vs s,SR T ρ s H/\VR T ρ H v x/\Ĵ T ρ H vs xs/\Out T XE (rV T) ρ H (op v vs s) Q
def bX (n:String)(v:AV)(s:S):Í Unit:=match v,n with
 | .str _,"str"=>À ()
 | .sq _,"list"=>À ()
 | .ref i,"list"=>(û s i).map λ _=>()
 | .ref i,"dict"=>match s[i]? with
  | some (.dK _)=>À ()
  | some (.dT _)=>À ()
  | _=>none
 | _,_=>none
theorem vI (h:bX n v s=À ()) (sr:SR T ρ s H)(va:VR T ρ H v x):Zk T.K n x H:=by
 unfold bX at h
 split at h
 ·cases va.str_inv;rfl
 ·obtain⟨a,vs,rfl,h1,k⟩:=va.gF
  exact .inl ⟨rfl,vs,h1.FZ⟩
 ·rename_i i
  cases e:û s i with
  | none=>rw[e]at h;cases h
  | some xs=>
   obtain⟨a,vs,rfl,_,h1,k⟩:=sr.dG (ń e) va
   exact .inl ⟨rfl,vs,f9.of h1⟩
 ·rename_i i
  obtain⟨a,e1,rfl⟩:=va.jH
  split at h
  ·rename_i xs e
   obtain⟨b,e2,vs,h1,_⟩:=sr.obj i _ e
   rw[e1]at e2;cases e2
   exact .inr (.inr (.inl ⟨rfl,.inl ⟨vs,h1⟩⟩))
  ·rename_i xs e
   obtain⟨b,e2,vs,h1,_⟩:=sr.obj i _ e
   rw[e1]at e2;cases e2
   exact .inr (.inr (.inl ⟨rfl,.inr ⟨vs,h1⟩⟩))
  ·cases h
 ·cases h
def pN (n:String)(op:AV->Á AV->S->R AV)(o:Ev)(r:jQ):Ev:=λ env s=>(o env s).bind λ v s1=>need (bX n v s1) λ _=>(r env s1).bind λ vs s2=>op v vs s2
theorem Te (h:tE T XE (pN n op o r) σ H Q):tBM T.K n (Ye T XE op) (tE T XE o) (tP T XE r) σ H Q:=by
 obtain⟨ρ,env,s,hs,he,ho⟩:=h
 refine step hs he ho λ v s1 ī H1 x _ u1 Ŧ df ŧ Ĥ=>?_
 obtain⟨_,e,Ĥ⟩:=Ĥ.Ē
 exact⟨vI e Ŧ ŧ,step Ŧ df Ĥ λ vs s2 cR H2 xs _ u2 jk lC p8 dW=>⟨cR,v,vs,s2,jk,VR.up u2 ŧ,p8,dW⟩⟩
theorem DQ {n id:String}{es:Á Ů}{op:AV->Á AV->S->R AV}{m:Ev}{r:jQ}(hK:X.K=T.K)(pa:wY n)(slot:Slot n name id)(NC:V5 (.builtin id)=pure (.type "method_descriptor")) (hm:GG X id (Ye T XE op)) (ho:PE X o (tE T XE m)) (ha:PA X (e :: es) (tP T XE r))
  (kH:dS o name X.env (Ŝ o X.env)=Ŝ o X.env:=by rfl)
  (DA:((aO dD (à (e :: es) X.env)).all (λ x=>!x.1) && (Gx dD (tU [] X.env)).all (λ x=>x.1.isSome)
   && decide ((e :: es).length+([]:Á k7).length+(if ([]:Á k7).isEmpty then 0 else 1) < 30))=true:=by rfl)
  (kI:(lg.endLine == dD.line)=true:=by rfl) (hs:à (e :: es) X.env=(false,Ŝ e X.env) :: à es X.env:=by rfl) (pL:(aO dD (à es X.env)).any (·.1)=false:=by rfl) :
  PE X (.Call (.Attribute o name lg) (e :: es) [] dD) (tE T XE (pN n op m r)):=
 PE.imp (Kx hK pa slot NC hm ho ha kH DA kI hs pL) λ _ _ _ h=>Te h
def QF (n:String)(op:AV->Á AV->S->R AV)(o:Ev):Ev:=λ env s=>(o env s).bind λ v s1=>need (bX n v s1) λ _=>op v [] s1
theorem Out.aa3 (ho:Out T XE rl ρ H (.ok v (s.set i (.lst ys))) Q) (sr:SR T ρ s H)(ea:ρ[i]? = À a)(h1:H a=À (.lst vs)) (k:Ĵ T ρ H ys ws)(hx:rl.r H ρ (upd H a (.lst ws)) v x):Q x (upd H a (.lst ws)):=by
 have up:Up ρ H ρ (upd H a (.lst ws)):=sr.Gh ea h1 (λ _ z=>nomatch z) (λ _ _ z=>nomatch z)
 exact ho ρ _ x up (sr.set ea up (OR.lst Į (k.up up))) hx
theorem Out.QR (ho:Out T XE (rV T) ρ H (.ok v (s.set i (.lst ys))) Q) (sr:SR T ρ s H)(ea:ρ[i]? = À a)(h1:H a=À (.lst vs)) (k:Ĵ T ρ H ys ws)(hx:VR T ρ (upd H a (.lst ws)) v x):Q x (upd H a (.lst ws)):=ho.aa3 sr ea h1 k hx
def cN:AV->Á AV->S->R AV
 | .ref i,[w],s=>need (û s i) λ xs=>if xs.length < sizeLine then .ok .ĥ (s.set i (.lst (xs++[w]))) else .bad
 | _,_,_=>.bad
theorem Nf:GG X "list.append" (Ye T XE cN):=by
 rintro Ä s σ H x xs v us Q I rx rv ⟨ρ,a,vs,st,sr,va,vb,ho⟩
 unfold cN at ho
 split at ho
 ·obtain⟨ys,e,ho⟩:=ho.Ē
  obtain⟨hl,ho⟩:=ho.ų
  obtain⟨p,ws,rfl,ea,h1,k⟩:=sr.dG (ń e) va
  obtain⟨y,rfl,k2⟩:=vb.gS
  exact yu Ä s σ H _ _ v us Q I rx rv ⟨p,ws,y,rfl,rfl,h1,by rw[<-k.length];exact hl,ho.QR sr ea h1 (k.append (.one k2)) EA⟩
 ·exact ho.elim
def tq:AV->Á AV->S->R AV
 | .ref i,[.int j],s=>need (û s i) λ xs=>if 0<=j/\j < xs.length then need xs[j.toNat]? λ y=>.ok y (s.set i (.lst (xs.eraseIdx j.toNat))) else .bad
 | _,_,_=>.bad
theorem Ĵ.erase:∀ {l:Á AV}{xs:Á V}(i:Nat),Ĵ T ρ H l xs->Ĵ T ρ H (l.eraseIdx i) (xs.eraseIdx i)
 | [],_,_,h=>by cases h.nil_inv;exact .nil
 | _ :: _,_,0,h=>by obtain⟨x,ys,rfl,_,k⟩:=h.cons_inv;exact k
 | _ :: _,_,i+1,h=>by obtain⟨x,ys,rfl,k1,k⟩:=h.cons_inv;exact .cons k1 (Ĵ.erase i k)
theorem aab:GG X "list.pop" (Ye T XE tq):=by
 rintro Ä s σ H x xs v us Q I rx rv ⟨ρ,a,vs,st,sr,va,vb,ho⟩
 unfold tq at ho
 split at ho
 ·rename_i i0 j
  obtain⟨ys,e,ho⟩:=ho.Ē
  obtain⟨hj,ho⟩:=ho.ų
  obtain⟨y,ey,ho⟩:=ho.Ē
  obtain⟨p,ws,rfl,ea,h1,k⟩:=sr.dG (ń e) va
  obtain⟨z,rfl,k2⟩:=vb.gS
  cases k2.int_inv
  obtain⟨y',ey',ky⟩:=k.get ey
  have hl:=k.length
  obtain⟨its,_,_,hz⟩:=I.list (f9.of h1)
  have h63:=nr
  have up:Up ρ H ρ (upd H p (.lst (ws.eraseIdx j.toNat))):=sr.Gh ea h1 (λ _ z=>nomatch z) (λ _ _ z=>nomatch z)
  refine Kb Ä s σ H _ _ v us Q I rx rv ⟨p,ws,j,j.toNat,y',rfl,rfl,h1,by lia,by lia,W5 hj.1 (by rw[<-hl];exact hj.2),ey',ho.QR sr ea h1 (k.erase _) (VR.up up ky)⟩
 ·exact ho.elim
section
variable {κ:Type} [Ņ κ]
def fY:Á (κ × AV)->κ->Í AV
 | [],_=>none
 | p :: r,k=>if p.1=k then À p.2 else fY r k
def oH (kvs:Á (κ × AV)) (k:κ)(v:AV):Á (κ × AV):=
 if (kvs.any λ kv=>decide (kv.1=k))=true then kvs.map (λ kv=>if kv.1=k then (kv.1,v) else kv) else kvs++[(k,v)]
theorem iN (k:κ):∀ {kvs:Á (κ × AV)}{ks:Á (κ × V)},kvs.map (·.1)=ks.map (·.1)->Ĵ T ρ H (kvs.map (·.2)) (ks.map (·.2))->(∀ v,fY kvs k=À v->∃ x,lU ks k=À x/\VR T ρ H v x)/\(fY kvs k=none->lU ks k=none)
 | [],ks,e,h=>by
  cases ks with
  | nil=>exact⟨(λ v z=>nomatch z),λ _=>rfl⟩
  | cons a r=>cases e
 | p :: r,ks,e,h=>by
  cases ks with
  | nil=>cases e
  | cons q t=>
   rw[È,È,aI]at e
   rw[È,È]at h
   obtain⟨x,ys,e2,k1,k2⟩:=h.cons_inv
   rw[aI]at e2
   obtain⟨W3,SA⟩:=iN k e.2 (e2.2 ▸ k2)
   unfold fY
   by_cases hp:p.1=k
   ·rw[É hp,nP (e.1 ▸ hp)]
    refine⟨λ v z=>?_,λ z=>nomatch z⟩
    cases z
    exact⟨q.2,rfl,e2.1 ▸ k1⟩
   ·rw[Ó hp,nO (λ z=>hp (e.1.trans z))]
    exact⟨W3,SA⟩
theorem FN (k:κ)(kv:VR T ρ H v x)(e:kvs.map (·.1)=ks.map (·.1)) (h:Ĵ T ρ H (kvs.map (·.2)) (ks.map (·.2))) :
  (oH kvs k v).map (·.1)=(putK ks k x).map (·.1)/\Ĵ T ρ H ((oH kvs k v).map (·.2)) ((putK ks k x).map (·.2)):=by
 have an:∀ {kvs:Á (κ × AV)}{ks:Á (κ × V)},kvs.map (·.1)=ks.map (·.1)->(kvs.any λ kv=>decide (kv.1=k))=(ks.any λ kv=>decide (kv.1=k)):=by
  intro kvs
  induction kvs with
  | nil=>intro ks e;cases ks with|nil=>rfl|cons a r=>cases e
  | cons p r ih=>
   intro ks e
   cases ks with
   | nil=>cases e
   | cons q t=>
    rw[È,È,aI]at e
    rw[cw,cw,ih e.2,e.1]
 unfold oH putK
 rw[an e]
 by_cases ha:(ks.any λ kv=>decide (kv.1=k))=true
 ·rw[É ha,É ha]
  clear ha an
  induction kvs generalizing ks with
  | nil=>cases ks with|nil=>exact⟨rfl,.nil⟩|cons a r=>cases e
  | cons p r ih=>
   cases ks with
   | nil=>cases e
   | cons q t=>
    rw[È,È,aI]at e
    rw[È,È]at h
    obtain⟨y,ys,e2,k1,k2⟩:=h.cons_inv
    rw[aI]at e2
    obtain⟨i1,i2⟩:=ih e.2 (e2.2 ▸ k2)
    simp only[È,e.1]
    by_cases hq:q.1=k
    ·rw[É hq,É hq,i1];exact⟨rfl,.cons kv i2⟩
    ·rw[Ó hq,Ó hq,i1,e.1];exact⟨rfl,.cons (e2.1 ▸ k1) i2⟩
 ·rw[Ó ha,Ó ha,ä,ä,ä,ä,e]
  exact⟨rfl,h.append (.one kv)⟩
end
def lL:AV->Í Key
 | .int i=>À (.inl i)
 | .str x=>À (.inr x)
 | _=>none
theorem nj (h:lL v=À k)(va:VR T ρ H v x):x=kV k:=by
 cases v<;>try cases h
 ·cases va.int_inv;rfl
 ·cases va.str_inv;rfl
def mx (s:S)(i:Nat):Í (Á (Key × AV)):=match s[i]? with
 | some (.dK xs)=>À xs
 | _=>none
theorem jy (h:mx s i=À xs):s[i]? = À (.dK xs):=by
 unfold mx at h
 split at h
 ·cases h;assumption
 ·cases h
def ny:AV->AV->S->R AV
 | .ref i,y,s=>need (mx s i) λ kvs=>need (lL y) λ k=>need (fY kvs k) λ v=>.ok v s
 | _,_,_=>.bad
theorem N0 (hu:X.A.units+1 < cLine)(ho:PE X o (tE T XE m)) (hi:PE X i (tE T XE n)) (hs:Rk i:=by exact λ _ _=>rfl):PE X (.Subscript o i pos) (tE T XE (Ö ny m n)):=
 PE.imp (OD hu ho hi hs) λ σ H Q zz=>Ŵ zz λ ρ env s hs he ho=>step hs he ho λ v s1 ī H1 x _ u1 Ŧ df ŧ Ĥ=>step Ŧ df Ĥ λ w s2 cR H2 y _ u2 jk lC p8 dW=>by
  have ŧ:VR T cR H2 v x:=VR.up u2 ŧ
  cases v with
  | ref i=>
   obtain⟨kvs,e1,dW⟩:=dW.Ē
   obtain⟨k,e2,dW⟩:=dW.Ē
   obtain⟨z,e3,dW⟩:=dW.Ē
   obtain⟨a,ks,rfl,ea,h1,q1,q2⟩:=jk.vg (jy e1) ŧ
   obtain⟨x',ex,kx⟩:=(iN k q1 q2).1 z e3
   exact⟨a,x',rfl,by rw[nj e2 p8,<-ex];exact uW.k h1,dW.Ĭ jk kx⟩
  | _=>exact dW.elim
theorem aac {op:AV->AV->S->R AV}{b:Bool->Bool}(DC:∀ y w s,op y w s=(match w with|.ref i=>need (mx s i) λ kvs=>need (lL y) λ k=>.ok (.bl (b (fY kvs k).isSome)) s|_=>.bad)) {m n:Ev}{σ:St}{Q:VK}(h:tE T XE (Ö op m n) σ H Q) :
  tE T XE m σ H λ y H1=>tE T XE n σ H1 λ x H2=>∃ a o,x=.ref a/\uW H2 a y o/\Q (.bl (b o.isSome)) H2:=by
 obtain⟨ρ,env,s,hs,he,ho⟩:=h
 refine step hs he ho λ v s1 ī H1 x _ u1 Ŧ df ŧ Ĥ=>step Ŧ df Ĥ λ w s2 cR H2 y _ u2 jk lC p8 dW=>?_
 rw[DC]at dW
 have p8:VR T cR H2 w y:=p8
 cases w with
 | ref i=>
  obtain⟨kvs,e1,dW⟩:=dW.Ē
  obtain⟨k,e2,dW⟩:=dW.Ē
  obtain⟨a,ks,rfl,ea,h1,q1,q2⟩:=jk.vg (jy e1) p8
  have vk:=nj e2 (VR.up u2 ŧ)
  refine⟨a,lU ks k,rfl,by rw[vk];exact uW.k h1,?_⟩
  have:(lU ks k).isSome=(fY kvs k).isSome:=by
   cases ev:fY kvs k with
   | none=>rw[(iN k q1 q2).2 ev];rfl
   | some z=>obtain⟨x',ex,_⟩:=(iN k q1 q2).1 z ev;rw[ex];rfl
  rw[this]
  exact dW.Ĭ jk dw
 | _=>exact dW.elim
def putD (v d y:AV)(env:En)(s:S):RS:=match d with
 | .ref i=>match mx s i,lL y with
  | some kvs,À k=>if kvs.length < sizeLine then .nx env (s.set i (.dK (oH kvs k v))) else .bad
  | _,_=>.bad
 | _=>.bad
def qX (d y v:Ev):Ms:=λ env s=>(v env s).eX λ a s1=>(d env s1).eX λ b s2=>(y env s2).eX λ c s3=>putD a b c env s3
theorem Ob (hu:X.A.units+1 < cLine)(ho:PE X o (tE T XE m)) (hi:PE X i (tE T XE n)) (hv:PE X value (tE T XE r)) (hs:fA value (À (.Subscript o i pos')) pos.line X.env=pure false:=by rfl):PS X (.Assign [.Subscript o i pos'] value pos) (tS T XE (qX m n r)):=
 PS.imp (OU hu ho hi hv hs) λ D σ H zz=>oX zz λ ρ env s hs he ho=>kS hs he ho λ v s1 ī H1 x _ u1 Ŧ df ŧ Ĥ=>kS Ŧ df Ĥ λ d s2 cR H2 y _ u2 jk lC p8 dW=>kS jk lC dW λ c s3 nV H3 z _ u3 oW Ji UO yg=>by
  have p8:VR T nV H3 d y:=VR.up u3 p8
  have ŧ:VR T nV H3 v x:=VR.up (u2.trans u3) ŧ
  unfold putD at yg
  split at yg
  ·split at yg
   ·rename_i i kvs k e1 e2
    obtain⟨hl,yg⟩:=yg.ų
    obtain⟨a,ks,rfl,ea,h1,q1,q2⟩:=oW.vg (jy e1) p8
    have Y7:kvs.length=ks.length:=by have:=Ě cf q1;simpa using this
    refine⟨a,_,rfl,by rw[nj e2 UO];exact ID.k h1 (by rw[<-Y7];exact hl),?_⟩
    obtain⟨p1,p2⟩:=FN k ŧ q1 q2
    have up:Up nV H3 nV (upd H3 a (.dK (putK ks k x))):=oW.Gh ea h1 (λ _ z=>nomatch z) (λ _ _ z=>nomatch z)
    exact yg nV _ σ up (oW.set ea up ⟨_,Į,p1,p2.up up⟩) (Ji.up up)
   ·exact yg.elim
  ·exact yg.elim
def zM (d y z:AV)(s:S):R AV:=match d with
 | .ref i=>need (mx s i) λ kvs=>need (lL y) λ k=>.ok ((fY kvs k).getD z) s
 | _=>.bad
def oU (d y z:Ev):Ev:=λ env s=>(d env s).bind λ a s1=>need (bX "dict" a s1) λ _=>(y env s1).bind λ b s2=>(z env s2).bind λ c s3=>zM a b c s3
theorem SF (h:bX "dict" v s=À ()) (sr:SR T ρ s H)(va:VR T ρ H v x):∃ a,x=.ref a/\ZR H a:=by
 have:=vI h sr va
 cases v with
 | ref i=>
  obtain⟨a,e,rfl⟩:=va.jH
  refine⟨a,rfl,?_⟩
  rcases this with⟨z,_⟩|⟨z,_⟩|⟨_,⟨kvs,z⟩|⟨kvs,z⟩⟩|⟨z,_⟩
  ·exact absurd z (by decide)
  ·exact absurd z (by decide)
  ·exact .inl ⟨kvs,.inl z⟩
  ·exact .inr ⟨kvs,.inl z⟩
  ·exact absurd z (by decide)
 | _=>cases h
theorem N2 (hu:X.A.units+1 < cLine)(ho:PE X o (tE T XE m)) (he:PE X e (tE T XE n)) (hf:PE X f (tE T XE r)) (q:M2 X o "get" lg e f dD:=by exact⟨rfl,rfl,rfl,rfl⟩):PE X (.Call (.Attribute o "get" lg) [e,f] [] dD) (tE T XE (oU m n r)):=
 PE.imp (KA hu ho he hf q) λ σ H Q zz=>Ŵ zz λ ρ env s hs he ho=>step hs he ho λ d s1 ī H1 x _ u1 Ŧ df ŧ Ĥ=>by
  obtain⟨_,e0,Ĥ⟩:=Ĥ.Ē
  obtain⟨a,rfl,hd⟩:=SF e0 Ŧ ŧ
  refine⟨a,rfl,hd,step Ŧ df Ĥ λ w s2 cR H2 y _ u2 jk lC p8 dW=>step jk lC dW λ z s3 nV H3 z' _ u3 oW Ji UO yg=>?_⟩
  have ŧ:VR T nV H3 d (.ref a):=VR.up (u2.trans u3) ŧ
  cases d with
  | ref i=>
   obtain⟨kvs,e1,yg⟩:=yg.Ē
   obtain⟨k,e2,yg⟩:=yg.Ē
   obtain⟨b,ks,eb,ea,h1,q1,q2⟩:=oW.vg (jy e1) ŧ
   cases eb
   refine⟨lU ks k,by rw[nj e2 (VR.up u3 p8)];exact uW.k h1,?_⟩
   cases ev:fY kvs k with
   | none=>rw[(iN k q1 q2).2 ev];rw[ev]at yg;exact yg.Ĭ oW UO
   | some v=>obtain⟨x',ex,kx⟩:=(iN k q1 q2).1 v ev;rw[ex];rw[ev]at yg;exact yg.Ĭ oW kx
  | _=>exact yg.elim
def S0:Ev:=λ _ s=>.ok (.ref s.length) (s++[.dK []])
theorem Xm:PE X (.Dict [] [] pos) (tE T XE S0):=
 PE.imp KC λ σ H Q ⟨ρ,env,s,hs,he,ho⟩ p hp=>ho.alloc hs hp ⟨[],Į,rfl,.nil⟩
def B1:Á (Ev × Ev)->En->S->R (Á (AV × AV))
 | [],_,s=>.ok [] s
 | (a,b) :: r,env,s=>(a env s).bind λ v s1=>(b env s1).bind λ w s2=>(B1 r env s2).bind λ l s3=>.ok ((v,w) :: l) s3
def ym:Á (AV × AV)->Í (Á (Key × AV))
 | []=>À []
 | (a,b) :: r=>(lL a).bind λ k=>(ym r).map ((k,b) :: ·)
def zD (kvs more:Á (Key × AV)):Á (Key × AV):=more.foldl (λ þ kv=>oH þ kv.1 kv.2) kvs
def yr (l:Á (Ev × Ev)):Ev:=λ env s=>(B1 l env s).bind λ ps s1=>need (ym ps) λ kvs=>if kvs.length<=15 then .ok (.ref s1.length) (s1++[.dK (zD [] kvs)]) else .bad
def VRp (T:Tx)(ρ:Á Addr)(H:Hp)(ps:Á (AV × AV)) (xs:Á (V × V)):Prop:=Ĵ T ρ H (ps.map (·.1)) (xs.map (·.1))/\Ĵ T ρ H (ps.map (·.2)) (xs.map (·.2))
theorem bind_assoc (r:R α)(f:α->S->R β)(g:β->S->R γ):(r.bind f).bind g=r.bind λ a s=>(f a s).bind g:=by cases r<;>rfl
theorem BZ:∀ (l:Á (Ev × Ev)) {ρ:Á Addr}{s:S}{H:Hp}{k:Á (AV × AV)->S->R α}{F:Á (V × V)->Hp->Prop},SR T ρ s H->ER T ρ H env σ->Out T XE rl ρ H ((B1 l env s).bind k) Q->
  (∀ ps s1 ī H1 xs,B1 l env s=.ok ps s1->Up ρ H ī H1->SR T ī s1 H1->ER T ī H1 env σ->VRp T ī H1 ps xs->F xs H1)->zW (l.map λ p=>(tE T XE p.1,tE T XE p.2)) σ H F
 | [],ρ,s,H,k,F,hs,he,ho,hk=>hk [] s ρ H [] rfl .refl hs he ⟨.nil,.nil⟩
 | (a,b) :: r,ρ,s,H,k,F,hs,he,ho,hk=>by
  have e:(B1 ((a,b) :: r) env s).bind k=(a env s).bind λ v s1=>(b env s1).bind λ w s2=>(B1 r env s2).bind λ l s3=>k ((v,w) :: l) s3:=by
   show((a env s).bind λ v s1=>(b env s1).bind λ w s2=>(B1 r env s2).bind λ l s3=>.ok ((v,w) :: l) s3).bind k=_
   rw[bind_assoc]
   congr 1;funext v s1
   rw[bind_assoc]
   congr 1;funext w s2
   rw[bind_assoc]
   rfl
  rw[e]at ho
  refine step hs he ho λ v s1 ī H1 x q1 u1 Ŧ df ŧ Ĥ=>step Ŧ df Ĥ λ w s2 cR H2 y q2 u2 jk lC p8 dW=>?_
  refine BZ r jk lC dW λ ps s3 nV H3 xs q3 u3 oW Ji vp=>hk ((v,w) :: ps) s3 nV H3 _ (by have q1:a env s=.ok v s1:=q1;have q2:b env s1=.ok w s2:=q2;show((a env s).bind λ v s1=>(b env s1).bind λ w s2=>(B1 r env s2).bind λ l s3=>.ok ((v,w) :: l) s3)=_;rw[q1,bI,q2,bI,q3,bI]) ((u1.trans u2).trans u3) oW Ji ⟨?_,?_⟩
  ·exact .cons (VR.up (u2.trans u3) ŧ) vp.1
  ·exact .cons (VR.up u3 p8) vp.2
theorem yn:∀ {ps:Á (AV × AV)}{kvs:Á (Key × AV)}{xs:Á (V × V)},ym ps=À kvs->VRp T ρ H ps xs->∃ ks:Á (Key × V),xs=ks.map (λ kv=>(kV kv.1,kv.2))/\kvs.map (·.1)=ks.map (·.1)/\Ĵ T ρ H (kvs.map (·.2)) (ks.map (·.2))
 | [],kvs,xs,h,vp=>by
  cases h
  have:=vp.1.nil_inv
  cases xs with
  | nil=>exact⟨[],rfl,rfl,.nil⟩
  | cons a r=>cases this
 | (a,b) :: r,kvs,xs,h,vp=>by
  have h:(lL a).bind (λ k=>(ym r).map ((k,b) :: ·))=À kvs:=h
  cases e1:lL a with
  | none=>rw[e1]at h;cases h
  | some k=>
   cases e2:ym r with
   | none=>rw[e1,e2]at h;cases h
   | some q=>
    rw[e1,e2]at h
    cases h
    cases xs with
    | nil=>obtain⟨_,_,z,_⟩:=vp.1.cons_inv;cases z
    | cons p xs=>
     obtain⟨x1,y1,z1,k1,k2⟩:=vp.1.cons_inv
     obtain⟨x2,y2,z2,k3,k4⟩:=vp.2.cons_inv
     rw[È,aI]at z1 z2
     obtain⟨ks,rfl,q1,q2⟩:=yn e2 ⟨z1.2 ▸ k2,z2.2 ▸ k4⟩
     refine⟨(k,p.2) :: ks,?_,by rw[È,È,q1],.cons (z2.1 ▸ k3) q2⟩
     rw[È,<-nj e1 (z1.1 ▸ k1)]
theorem yt:∀ {more:Á (Key × AV)}{mo:Á (Key × V)}{kvs:Á (Key × AV)}{ks:Á (Key × V)},more.map (·.1)=mo.map (·.1)->Ĵ T ρ H (more.map (·.2)) (mo.map (·.2))->kvs.map (·.1)=ks.map (·.1)->Ĵ T ρ H (kvs.map (·.2)) (ks.map (·.2))->
  (zD kvs more).map (·.1)=(gz ks mo).map (·.1)/\Ĵ T ρ H ((zD kvs more).map (·.2)) ((gz ks mo).map (·.2))
 | [],mo,kvs,ks,e,h,e2,h2=>by
  cases mo with
  | nil=>exact⟨e2,h2⟩
  | cons a r=>cases e
 | p :: r,mo,kvs,ks,e,h,e2,h2=>by
  cases mo with
  | nil=>cases e
  | cons q t=>
   rw[È,È,aI]at e
   rw[È,È]at h
   obtain⟨y,ys,z,k1,k2⟩:=h.cons_inv
   rw[aI]at z
   obtain⟨p1,p2⟩:=FN p.1 (z.1 ▸ k1) e2 h2
   have:=yt (kvs:=oH kvs p.1 p.2) (ks:=putK ks q.1 q.2) e.2 (z.2 ▸ k2) (by rw[<-e.1];exact p1) (by rw[<-e.1];exact p2)
   exact this
theorem N1 (h:Qc X pos keys values (l.map λ p=>(tE T XE p.1,tE T XE p.2))) (Jx:keys.all (·.isSome)=true:=by rfl) (hl:keys.length=values.length:=by rfl)(h0:keys≠[]:=by decide)(h15:keys.length<=15:=by decide):PE X (.Dict keys values pos) (tE T XE (yr l)):=
 PE.imp (OE h Jx hl h0 h15) λ σ H Q ⟨ρ,env,s,hs,he,ho⟩ p hp=>by
  have u0:=hs.fP (o:=.dK []) hp
  have n0:=hs.out hp
  refine BZ l (hs.new hp) (he.up u0) (Out.up u0 ho) λ ps s1 ī H1 xs q0 u1 Ŧ df vp=>?_
  unfold yr at ho
  rw[q0,bI]at ho
  obtain⟨kvs,e1,ho⟩:=ho.Ē
  obtain⟨hl,ho⟩:=ho.ų
  obtain⟨ks,rfl,q1,q2⟩:=yn e1 vp
  have hd:=u1.fr p _ Į n0
  have Y7:kvs.length=ks.length:=by have:=Ě cf q1;simpa using this
  refine⟨hd.1,ks,rfl,by rw[<-Y7];exact hl,?_⟩
  obtain⟨m1,m2⟩:=yt q1 q2 (kvs:=[]) (ks:=[]) rfl .nil
  have g:Gr ī H1 (ī++[p]) (upd H1 p (.dK (gz [] ks))):=⟨fR _ _,λ b ys e=>by rw[ÿ (qL e hd.1 (by intro z;cases z))];exact e,λ b o v e=>by rw[ÿ (qL e hd.1 (by intro z;cases z))];exact e⟩
  have g1:Gr ī H1 ī (upd H1 p (.dK (gz [] ks))):=⟨a7,g.mD,g.jZ⟩
  have s2:SR T ī s1 (upd H1 p (.dK (gz [] ks))):=Ŧ.up g1 λ a ha=>ÿ λ z=>hd.2 (z ▸ ha)
  have s3:SR T (ī++[p]) (s1++[.dK (zD [] kvs)]) (upd H1 p (.dK (gz [] ks))):=s2.add hd.2 ⟨_,Į,m1,m2.gr g⟩
  have u2:Up ρ H (ī++[p]) (upd H1 p (.dK (gz [] ks))):=((u0.trans u1).mod hp hd.2).add hp
  exact ho _ _ _ u2 s3 (wC (T:=T) (H:=upd H1 p (.dK (gz [] ks))) (by rw[Ā (by rw[Ŧ.len];exact Î _),Ŧ.len,uT];rfl))
theorem Oa:Qc X pos [] [] (([]:Á (Ev × Ev)).map λ p=>(tE T XE p.1,tE T XE p.2)):=OQ
theorem J8 (hk:PE X k (tE T XE a)) (hv:PE X v (tE T XE b)) (hr:Qc X pos ks vs (l.map λ p=>(tE T XE p.1,tE T XE p.2))):Qc X pos (À k :: ks) (v :: vs) (((a,b) :: l).map λ p=>(tE T XE p.1,tE T XE p.2)):=KR hk hv hr
def m4 (o i:Ev):Mt:=λ v env s=>(o env s).eX λ a s1=>(i env s1).eX λ b s2=>match a,b with
 | .ref k,.int j=>match û s2 k with
  | some xs=>match Av xs.length j with
   | some n=>.nx env (s2.set k (.lst (xs.set n v)))
   | none=>.bad
  | none=>.bad
 | _,_=>.bad
theorem N5 (ho:PE X o (tE T XE m)) (hi:PE X i (tE T XE n))
  (ha:∀ v,gX (.Subscript o i pos) X.env v=(do
   let ov <-qg [v] (Ŝ o X.env)
   let iv <-qg [v,ov] (Ŝ i X.env)
   uw pos
   qg [v,ov,iv] (YV ov iv v)
   release [v,ov,iv] []):=by intro _;rfl):PG X (.Subscript o i pos) (tT T XE (m4 m n)):=
 PG.imp (T6 ho hi set_list ha) λ x σ H Q ⟨ρ,env,s,v,hs,he,vr,ho⟩=>by
  refine kS hs he ho λ a s1 ī H1 y _ u1 Ŧ df ŧ Ĥ=>kS Ŧ df Ĥ λ b s2 cR H2 z _ u2 jk lC p8 dW=>?_
  have ŧ:VR T cR H2 a y:=VR.up u2 ŧ
  have p8:VR T cR H2 b z:=p8
  have vr:VR T cR H2 v x:=VR.up (u1.trans u2) vr
  split at dW
  ·rename_i k j
   split at dW
   ·rename_i xs e1
    split at dW
    ·rename_i n e2
     obtain⟨p,ws,rfl,ea,h1,k1⟩:=jk.dG (ń e1) ŧ
     cases p8.int_inv
     have up:Up cR H2 cR (upd H2 p (.lst (ws.set n x))):=jk.Gh ea h1 (λ _ z=>nomatch z) (λ _ _ z=>nomatch z)
     exact⟨p,ws,_,n,rfl,rfl,h1,by rw[<-k1.length];exact e2,dW cR _ σ up (jk.set ea up (OR.lst Į ((k1.set n vr).up up))) (lC.up up)⟩
    ·exact dW.elim
   ·exact dW.elim
  ·exact dW.elim
theorem Oq:pe (m4 o i):=λ v env s=>by
 unfold m4
 cases o env s with
 | bad=>exact .inr (.inr rfl)
 | ex c s1=>exact .inr (.inl ⟨_,_,rfl⟩)
 | ok a s1=>
  simp only[qm]
  cases i env s1 with
  | bad=>exact .inr (.inr rfl)
  | ex c s1=>exact .inr (.inl ⟨_,_,rfl⟩)
  | ok b s2=>
   simp only[qm]
   split
   ·split
    ·split
     ·exact .inl ⟨_,_,rfl⟩
     ·exact .inr (.inr rfl)
    ·exact .inr (.inr rfl)
   ·exact .inr (.inr rfl)
def eh:AV->Bool
 | .ĥ=>true
 | .bl _=>true
 | .int _=>true
 | .str _=>true
 | _=>false
def toV:AV->V
 | .bl b=>.bl b
 | .int b=>.int b
 | .str b=>.str b
 | _=>.ĥ
theorem toV_eq (h:eh v=true)(k:VR T ρ H v x):x=toV v:=by
 cases v with
 | ĥ=>exact k.iL
 | bl b=>exact k.gg
 | int b=>exact k.int_inv
 | str b=>exact k.str_inv
 | _=>cases h
theorem toVs_eq:∀ {l:Á AV}{xs:Á V},l.all eh=true->Ĵ T ρ H l xs->xs=l.map toV
 | [],_,_,k=>k.nil_inv
 | v :: r,_,h,k=>by
  obtain⟨x,ys,rfl,k1,k2⟩:=k.cons_inv
  rw[Ĩ,ł]at h
  rw[toV_eq h.1 k1,toVs_eq h.2 k2];rfl
theorem qu:∀ v:AV,l9 (toV v)=true:=λ v=>by cases v<;>rfl
def Za (v:AV)(xs:Á AV):Bool:=inV (toV v) (xs.map toV)
def BV (v w:AV)(s:S):R AV:=need (items w s) λ xs=>if eh v=true/\xs.all eh=true then .ok (.bl (Za v xs)) s else .bad
theorem oIn (hK:X.K=T.K):fo X (ċ .In) (pQ T XE BV):=by
 rintro Ä s σ H x y v u Q I rx ry ⟨ρ,a,b,st,sr,va,vb,ho⟩
 obtain⟨xs,e,ho⟩:=ho.Ē
 obtain⟨⟨f1,f2⟩,ho⟩:=ho.ų
 obtain⟨p,ws,rfl,h1,k⟩:=sy e sr vb
 have e1:=toV_eq f1 va
 have e2:=toVs_eq f2 k
 subst e1 e2
 exact Ht Ä s σ H _ _ v u Q I rx ry ⟨p,_,rfl,by rw[hK];exact h1,qu a,by simp[qu],ho.Ĭ sr dw⟩
def qQ:AV->Á AV->S->R AV
 | .ref i,[w],s=>need (û s i) λ xs=>if eh w=true/\xs.all eh=true then .ok (.int ((xs.countP λ z=>g8 (toV z) (toV w):Nat):Int)) s else .bad
 | _,_,_=>.bad
theorem RI:GG X "list.count" (Ye T XE qQ):=by
 rintro Ä s σ H x xs v us Q I rx rv ⟨ρ,a,vs,st,sr,va,vb,ho⟩
 unfold qQ at ho
 split at ho
 ·obtain⟨ys,e,ho⟩:=ho.Ē
  obtain⟨⟨f1,f2⟩,ho⟩:=ho.ų
  obtain⟨p,ws,rfl,ea,h1,k⟩:=sr.dG (ń e) va
  obtain⟨y,rfl,k2⟩:=vb.gS
  have e1:=toV_eq f1 k2
  have e2:=toVs_eq f2 k
  subst e1 e2
  refine J' Ä s σ H _ _ v us Q I rx rv ⟨p,_,_,rfl,rfl,h1,qu _,by simp[qu],?_⟩
  rw[List.countP_map]
  exact ho.Ĭ sr bh
 ·exact ho.elim
end
section
variable {T:Tx}{XE:ia}{X:Cx}{pos:ki}
structure Fk (P:ý)(w:ğ)(T:Tx)(mg:Str->Í Ç)(base:Heap)(nm:Str)(n k:Nat)(Fn:Á AV->S->R AV):Prop where
 ex:∃ f fd ps,oA P w T.K mg base C0 k f fd ps (wx T n Fn)/\Binds T.K fd ps []/\mg nm=À (.ref f)/\fV T.K (.ref f)=true
theorem aaC (h:Fk X.prog X.w T X.mg X.base x n k Fn)(hr:iJ k X.A)(ha:PA X (e :: es) (tP T kZ r)) (hK:X.K=T.K:=by rfl)(hg:Gl X x:=by rfl)(xi:(x == ("__debug__":Str))=false:=by decide) (he:à (e :: es) X.env=(false,Ŝ e X.env) :: à es X.env:=by rfl) (nc:(aO pos (à es X.env)).any (·.1)=false:=by rfl) :
  PE X (.Call (.Name x p) (e :: es) [] pos) (tE T kZ (Ø n Fn r)):=by
 obtain⟨f,fd,ps,G,hb,hm,hk⟩:=h.ex
 exact NZ hK G hr hm hk hb ha hg xi he nc
structure C' (T:Tx)(mg:Str->Í Ç)(x:Str)(a:AV):Prop where
 ex:∃ v u,mg x=À u/\RelV v u/\∀ ρ H,VR T ρ H a v
theorem S9 (h:C' T X.mg x a)(hg:Gl X x:=by rfl)(hd:(x == ("__debug__":Str))=false:=by decide):PE X (.Name x pos) (tE T XE (mc a)):=by
 obtain⟨v,u,h1,h2,h3⟩:=h.ex
 exact N3 hg h1 h2 h3 hd
theorem aax (r:iJ k A):A.units+30 < cLine:=by have:=r.un;lia
def zl (m:Eb):Eb:=λ env s=>(m env s).bind λ v s1=>open Classical in if s1.take s.length=s then .ok v s else .bad
theorem Ya (h:PT X e (iT T XE m)):PT X e (iT T XE (zl m)):=
 PT.imp h λ σ H Q zz=>Ŵ zz λ ρ env s hs he ho=>by
  refine⟨ρ,env,s,hs,he,?_⟩
  unfold zl at ho
  cases e:m env s with
  | bad=>rw[e]at ho;exact ho
  | ex c s1=>rw[e]at ho;exact ho
  | ok v s1=>
   rw[e]at ho
   obtain⟨e1,ho⟩:=ho.ų
   intro ī H1 x u sr vr
   have:=sr.cut u.pre hs.len (by rw[e1];exact hs.closed)
   rw[e1]at this
   exact ho ρ H1 x u.cut this vr
def rMG {α:Type}(T:Tx)(XE:ia)(rl:Rl α V)(op:AV->Á AV->S->R α):V->Á V->Hp->VK->Prop:=λ x xs H Q=>∃ ρ v vs s,SR T ρ s H/\VR T ρ H v x/\Ĵ T ρ H vs xs/\Out T XE rl ρ H (op v vs s) Q
def Jq {α:Type}(n:String)(op:AV->Á AV->S->R α)(o:Ev)(r:jQ):En->S->R α:=λ env s=>(o env s).bind λ v s1=>need (bX n v s1) λ _=>(r env s1).bind λ vs s2=>op v vs s2
theorem Tf {α:Type}{rl:Rl α V}{n id:String}{es:Á Ů}{op:AV->Á AV->S->R α}{m:Ev}{r:jQ}(hK:X.K=T.K)(pa:wY n)(slot:Slot n name id)(NC:V5 (.builtin id)=pure (.type "method_descriptor")) (hm:GG X id (rMG T XE rl op)) (ho:PE X o (tE T XE m)) (ha:PA X (e :: es) (tP T XE r))
  (kH:dS o name X.env (Ŝ o X.env)=Ŝ o X.env:=by rfl)
  (DA:((aO dD (à (e :: es) X.env)).all (λ x=>!x.1) && (Gx dD (tU [] X.env)).all (λ x=>x.1.isSome)
   && decide ((e :: es).length+([]:Á k7).length+(if ([]:Á k7).isEmpty then 0 else 1) < 30))=true:=by rfl)
  (kI:(lg.endLine == dD.line)=true:=by rfl) (hs:à (e :: es) X.env=(false,Ŝ e X.env) :: à es X.env:=by rfl) (pL:(aO dD (à es X.env)).any (·.1)=false:=by rfl) :
  PE X (.Call (.Attribute o name lg) (e :: es) [] dD) (tG T XE rl (Jq n op m r)):=
 PE.imp (Kx hK pa slot NC hm ho ha kH DA kI hs pL) λ σ H Q zz=>Ŵ zz λ ρ env s hs he ho=>by
  refine step hs he ho λ v s1 ī H1 x _ u1 Ŧ df ŧ Ĥ=>?_
  obtain⟨_,e,Ĥ⟩:=Ĥ.Ē
  exact⟨vI e Ŧ ŧ,step Ŧ df Ĥ λ vs s2 cR H2 xs _ u2 jk lC p8 dW=>⟨cR,v,vs,s2,jk,VR.up u2 ŧ,p8,dW⟩⟩
open PySem.Builtin.Str in
def qR:AV->Á AV->S->R (Á AV)
 | .str t,[.str sep],s=>if (decide (t.length < sep.length) || decide (strKind t < strKind sep))=false/\(sep.length == 0)=false/\(occurrences t sep 0 t.length (t.length+1)).isEmpty=false/\t.length<=1000/\(partsBetween t (occurrences t sep 0 t.length (t.length+1)) sep.length).length<=1000
   then .ok ((partsBetween t (occurrences t sep 0 t.length (t.length+1)) sep.length).map AV.str) s else .bad
 | _,_,_=>.bad
theorem RJ:GG X "str.split" (rMG T XE (rL T) qR):=by
 rintro Ä s σ H x xs v us Q I rx rv ⟨ρ,a,vs,st,sr,va,vb,ho⟩
 unfold qR at ho
 split at ho
 ·obtain⟨⟨c1,c2,c3,c4,c5⟩,ho⟩:=ho.ų
  cases va.str_inv
  obtain⟨y,rfl,k2⟩:=vb.gS
  cases k2.str_inv
  exact Kc Ä s σ H _ _ v us Q I rx rv ⟨_,_,rfl,rfl,c1,c2,c3,c4,c5,λ l hl=>ho.lst sr hl (Ĵ.map (λ a=>sO) _)⟩
 ·exact ho.elim
theorem Jn (hl:ps.length=n):oA P w T.K mg base C0 k f fd ps (wx T n λ _ _=>.bad):=
 ⟨λ vs H Q E h=>h.1.trans hl.symm,λ A outer s H args us vs Q E _ _ _ _ h=>by obtain⟨_,ρ,st,a,_,_,z⟩:=h;exact z.elim⟩
def rq (xs ys:Á AV):Á AV:=(xs.zip ys).map λ p=>AV.tup [p.1,p.2]
def xr (c:Bool)(v:AV)(s:S):Í (Á AV × Gd):=match v with
 | .tup xs=>if c=true then À (xs,[]) else none
 | .sq xs=>if c=true then none else À (xs,[])
 | .ref i=>if c=true then none else (û s i).map λ xs=>(xs,[(i,xs)])
 | _=>none
theorem Cb (h:xr c v s=À (xs,gs)) (sr:SR T ρ s H)(va:VR T ρ H v x):∃ a,x=.ref a/\(∃ vs,yV c T.K H a vs)/\∀ ħ s' H',Up ρ H ħ H'->SR T ħ s' H'->k6 gs s'->∃ vs,yV c T.K H' a vs/\Ĵ T ħ H' xs vs:=by
 cases v with
 | tup ys=>
  have h:(if c=true then À (ys,[]) else none)=À (xs,gs):=h
  split at h
  ·rename_i hc
   cases h
   obtain⟨a,vs,rfl,h1,k⟩:=va.bq
   refine⟨a,rfl,⟨vs,by unfold yV;rw[É hc];exact h1⟩,λ ħ s' H' u iw _=>⟨vs,by unfold yV;rw[É hc];exact u.VJ h1,k.up u⟩⟩
  ·cases h
 | sq ys=>
  have h:(if c=true then none else À (ys,[]))=À (xs,gs):=h
  split at h
  ·cases h
  ·rename_i hc
   cases h
   obtain⟨a,vs,rfl,h1,k⟩:=va.gF
   refine⟨a,rfl,⟨vs,by unfold yV;rw[Ó hc];exact h1.FZ⟩,λ ħ s' H' u iw _=>⟨vs,by unfold yV;rw[Ó hc];exact(u.Zg h1).FZ,k.up u⟩⟩
 | ref i=>
  have h:(if c=true then none else (û s i).map λ xs=>(xs,[(i,xs)]))=À (xs,gs):=h
  split at h
  ·cases h
  ·rename_i hc
   cases e:û s i with
   | none=>rw[e]at h;cases h
   | some ys=>
    rw[e]at h
    cases h
    obtain⟨a,vs,rfl,ea,h1,k⟩:=sr.dG (ń e) va
    refine⟨a,rfl,⟨vs,by unfold yV;rw[Ó hc];exact f9.of h1⟩,λ ħ s' H' u iw g=>?_⟩
    obtain⟨b,ws,eb,_,h2,k2⟩:=iw.dG (ń ((lF i _ s').mp g)) (VR.up u va)
    cases eb
    exact⟨ws,by unfold yV;rw[Ó hc];exact f9.of h2,k2⟩
 | _=>cases h
def EB (v w:AV)(s:S):Í (Á AV × Gd):=
 match xr true v s,xr true w s with
 | some (xs,g),À (ys,h)=>À (rq xs ys,g++h)
 | _,_=>match xr false v s,xr false w s with
  | some (xs,g),À (ys,h)=>À (rq xs ys,g++h)
  | _,_=>none
theorem LX (h:EB v w s=À r):∃ c xs g ys h,xr c v s=À (xs,g)/\xr c w s=À (ys,h)/\r=(rq xs ys,g++h):=by
 unfold EB at h
 split at h
 ·rename_i xs g ys h' e1 e2
  cases h
  exact⟨true,xs,g,ys,h',e1,e2,rfl⟩
 ·split at h
  ·rename_i xs g ys h' e1 e2
   cases h
   exact⟨false,xs,g,ys,h',e1,e2,rfl⟩
  ·cases h
def HN (a b:Ev):Src:=λ env s=>(a env s).bind λ v s1=>(b env s1).bind λ w s2=>need (EB v w s2) λ r=>.ok r s2
theorem Np (k:k6 (g++h) s):k6 g s/\k6 h s:=⟨λ p hp=>k p (İ _ hp),λ p hp=>k p (ç _ hp)⟩
theorem Ti (hK:X.K=T.K)(hm:X.mg "zip"=none)(h1:PE X e1 (tE T XE a)) (h2:PE X e2 (tE T XE b)) (hg:Gl X "zip":=by rfl)
  (hs:à [e1,e2] X.env=(false,Ŝ e1 X.env) :: à [e2] X.env:=by rfl) (DD:à [e2] X.env=[(false,Ŝ e2 X.env)]:=by rfl) (nc:(aO pos (à [e2] X.env)).any (·.1)=false:=by rfl) :
  PI X (.Tuple es kk Ct) (.Call (.Name "zip" p) [e1,e2] [] pos) (tW T XE (HN a b)):=
 PI.imp (T9 hg hm h1 h2 hs DD nc) λ σ H R zz=>Ŵ zz λ ρ env s hs he ho=>step hs he ho λ v s1 ī H1 x _ u1 Ŧ df ŧ Ĥ=>step Ŧ df Ĥ λ w s2 cR H2 y _ u2 jk lC p8 dW=>by
  obtain⟨r,e,dW⟩:=dW.Ē
  obtain⟨c,xs,g,ys,h,q1,q2,rfl⟩:=LX e
  obtain⟨a1,rfl,x1,w1⟩:=Cb q1 jk (VR.up u2 ŧ)
  obtain⟨a2,rfl,x2,w2⟩:=Cb q2 jk p8
  refine⟨c,a1,a2,rfl,by rw[hK];exact x1,by rw[hK];exact x2,dW cR H2 _ .refl jk ⟨λ ħ s' H' u' iw gk=>?_⟩⟩
  obtain⟨g1,g2⟩:=Np gk
  obtain⟨vs,k1,k2⟩:=w1 ħ s' H' u' iw g1
  obtain⟨ws,k3,k4⟩:=w2 ħ s' H' u' iw g2
  rw[hK]
  have Fd:=k2.length
  have Br:=k4.length
  refine⟨λ j z ez=>?_,⟨vs,ws,k1,k3,?_⟩⟩
  ·have hj:j < xs.length/\j < ys.length:=by
    have:=(Ë.mp ez).1
    simp only[rq,Æ,Q5]at this
    lia
   have ez':z=.tup [xs[j],ys[j]]:=by
    have q:(rq xs ys)[j]? = À (.tup [xs[j],ys[j]]):=by
     simp[rq,List.getElem?_zip_eq_some,hj.1,hj.2]
    rw[q]at ez
    exact(ă ez).symm
   subst ez'
   obtain⟨x3,e3,v3⟩:=k2.get (Ñ hj.1)
   obtain⟨x4,e4,v4⟩:=k4.get (Ñ hj.2)
   refine⟨⟨vs,ws,x3,x4,k1,k3,e3,e4⟩,λ q H'' ⟨Tt,y1,y2,eq,hT,eH,hy⟩=>?_⟩
   obtain⟨f1,f2⟩:=hy vs ws k1 k3
   rw[e3]at f1;rw[e4]at f2
   cases f1;cases f2
   subst eq eH
   exact⟨iw.fP hT,iw.new hT,ja (iP.of Į) (Ĵ.up (iw.fP hT) (.cons v3 (.one v4)))⟩
  ·rw[<-Fd,<-Br]
   simp only[rq,Æ,Q5]
   lia
end
end Mm
namespace Mm
open PySem PySem.W PyProof.Rows
def ĭ {α:Type}(lt:Nat->Nat->Bool):KasT α->α
 | .ret a=>a
 | .ask i j k=>ĭ lt (k (lt i j))
theorem iS (lt:Nat->Nat->Bool)(f:α->KasT β):∀ t:KasT α,ĭ lt (t.bind f)=ĭ lt (f (ĭ lt t))
 | .ret a=>rfl
 | .ask i j k=>iS lt f (k (lt i j))
section
variable {O:KeyOrd}{key:Nat->O.α}
def fU (key:Nat->O.α)(p:ė Nat)(i:Nat):O.α:=key (p.getD i 0)
abbrev aM (O:KeyOrd)(key:Nat->O.α):Nat->Nat->Bool:=λ i j=>O.blt (key i) (key j)
def Aq (key:Nat->O.α)(p:ė Nat)(k:Nat):Prop:=∀ i j,i<=j->j < k->O.kle (fU key p i) (fU key p j)
def Qb (key:Nat->O.α)(p:ė Nat)(k:Nat):Prop:=∀ i j,i<=j->j < k->O.kle (fU key p j) (fU key p i)
theorem Pm (p:ė Nat):Aq key p 1:=λ i j h1 h2=>by
 have:i=j:=by lia
 subst this;exact bQ _
theorem Ll (h1:1<=n)(h:Aq key p n)(k:O.kle (fU key p (n - 1)) (fU key p n)):Aq key p (n+1):=λ i j h2 h3=>by
 by_cases hj:j < n
 ·exact h i j h2 hj
 ·have e:j=n:=by lia
  subst e
  by_cases hi:i=j
  ·subst hi;exact bQ _
  ·exact hX (h i (j - 1) (by lia) (by lia)) k
theorem qM (h1:1<=n)(h:Qb key p n)(k:O.kle (fU key p n) (fU key p (n - 1))):Qb key p (n+1):=λ i j h2 h3=>by
 by_cases hj:j < n
 ·exact h i j h2 hj
 ·have e:j=n:=by lia
  subst e
  by_cases hi:i=j
  ·subst hi;exact bQ _
  ·exact hX k (h i (j - 1) (by lia) (by lia))
theorem qw {p q:ė Nat}(h:p[i]? = q[j]?):p.getD i 0=q.getD j 0:=by
 rw[Ŕ,Ŕ,h]
theorem ni {p:ė Nat}(hj:j<=p.size)(k:Nat):fU key (av p i j) k=if i<=k/\k < j then fU key p (i+j - 1 - k) else fU key p k:=by
 unfold fU av
 have h:=getElem?_mirror_all (xs:=p) (i:=i) (j:=j) hj k
 split
 ·rename_i hk
  rw[É hk]at h
  rw[qw h]
 ·rename_i hk
  rw[Ó hk]at h
  rw[qw h]
theorem Di:∀ (f n:Nat),1<=n->Aq key p n->Aq key p (ĭ (aM O key) (aF p f n))/\n<=ĭ (aM O key) (aF p f n)/\ĭ (aM O key) (aF p f n)<=n+f/\
  (ĭ (aM O key) (aF p f n) < n+f->O.klt (fU key p (ĭ (aM O key) (aF p f n))) (fU key p (ĭ (aM O key) (aF p f n) - 1)))
 | 0,n,h1,h=>⟨h,Î _,Î _,λ z=>absurd z (ŉ _)⟩
 | f+1,n,h1,h=>by
  show Aq key p (ĭ (aM O key) (if aM O key (p.getD n 0) (p.getD (n - 1) 0)=true then .ret n else aF p f (n+1)))/\_
  by_cases c:aM O key (p.getD n 0) (p.getD (n - 1) 0)=true
  ·have e:ĭ (aM O key) (aF p (f+1) n)=n:=by
    show ĭ (aM O key) (if aM O key (p.getD n 0) (p.getD (n - 1) 0)=true then .ret n else aF p f (n+1))=n
    rw[É c];rfl
   rw[e,É c]
   exact⟨h,Î _,by lia,λ _=>c⟩
  ·have e:ĭ (aM O key) (aF p (f+1) n)=ĭ (aM O key) (aF p f (n+1)):=by
    show ĭ (aM O key) (if aM O key (p.getD n 0) (p.getD (n - 1) 0)=true then .ret n else aF p f (n+1))=_
    rw[Ó c]
   rw[e,Ó c]
   obtain⟨a1,a2,a3,a4⟩:=Di f (n+1) (by lia) (Ll h1 h (bx c))
   exact⟨a1,by lia,by lia,λ z=>a4 (by lia)⟩
def Alike (key:Nat->O.α)(p:ė Nat)(n q:Nat):Prop:=q+1<=n/\∀ i,n - (q+1)<=i->i < n->fU key p i=fU key p (n - 1)
theorem yC (hn:n<=p.size)(h:Alike key p n q)(k:Nat):fU key (av p (n - (q+1)) n) k=fU key p k:=by
 rw[ni hn]
 split
 ·rename_i hk
  rw[h.2 _ (by lia) (by lia),h.2 k hk.1 hk.2]
 ·rfl
theorem yw (e:∀ k,fU key p' k=fU key p k)(h:Qb key p n):Qb key p' n:=λ i j h1 h2=>by rw[e,e];exact h i j h1 h2
theorem uF:∀ (f:Nat)(p:ė Nat)(n q:Nat),n+f<=p.size->1<=n->Qb key p n->Alike key p n q->
  let r:=ĭ (aM O key) (ŀ f p n q)
  Qb key r.1 r.2.1/\Alike key r.1 r.2.1 r.2.2/\n<=r.2.1/\r.2.1<=n+f/\r.1.size=p.size/\r.1.Perm p
 | 0,p,n,q,hz,h1,h,a=>⟨h,a,Î _,Î _,rfl,dX _⟩
 | f+1,p,n,q,hz,h1,h,a=>by
  by_cases c:aM O key (p.getD n 0) (p.getD (n - 1) 0)=true
  ·by_cases hq:q > 0
   ·have e:ĭ (aM O key) (ŀ (f+1) p n q)=ĭ (aM O key) (ŀ f (av p (n - (q+1)) n) (n+1) 0):=by
     show ĭ (aM O key) (if aM O key (p.getD n 0) (p.getD (n - 1) 0)=true then (if q > 0 then ŀ f (av p (n - (q+1)) n) (n+1) 0 else ŀ f p (n+1) 0) else _)=_
     rw[É c,É hq]
    have ke:∀ k,fU key (av p (n - (q+1)) n) k=fU key p k:=yC (by lia) a
    have sz:(av p (n - (q+1)) n).size=p.size:=CW _ _ _ _
    have:=uF f (av p (n - (q+1)) n) (n+1) 0 (by rw[sz];lia) (by lia) (qM h1 (yw ke h) (by rw[ke,ke];exact fZ c)) ⟨by lia,λ i h2 h3=>by
     have e9:i=n:=by lia
     rw[e9];rfl⟩
    rw[e]
    obtain⟨b1,b2,b3,b4,b5,b6⟩:=this
    exact⟨b1,b2,by lia,by lia,by rw[b5,sz],b6.trans (tV _ _ _ _)⟩
   ·have e:ĭ (aM O key) (ŀ (f+1) p n q)=ĭ (aM O key) (ŀ f p (n+1) 0):=by
     show ĭ (aM O key) (if aM O key (p.getD n 0) (p.getD (n - 1) 0)=true then (if q > 0 then ŀ f (av p (n - (q+1)) n) (n+1) 0 else ŀ f p (n+1) 0) else _)=_
     rw[É c,Ó hq]
    have:=uF f p (n+1) 0 (by lia) (by lia) (qM h1 h (fZ c)) ⟨by lia,λ i h2 h3=>by
     have e9:i=n:=by lia
     rw[e9];rfl⟩
    rw[e]
    obtain⟨b1,b2,b3,b4,b5,b6⟩:=this
    exact⟨b1,b2,by lia,by lia,b5,b6⟩
  ·by_cases d:aM O key (p.getD (n - 1) 0) (p.getD n 0)=true
   ·have e:ĭ (aM O key) (ŀ (f+1) p n q)=(p,n,q):=by
     show ĭ (aM O key) (if aM O key (p.getD n 0) (p.getD (n - 1) 0)=true then _ else .ask (p.getD (n - 1) 0) (p.getD n 0) λ d=>if d=true then .ret (p,n,q) else ŀ f p (n+1) (q+1))=_
     rw[Ó c]
     show ĭ (aM O key) (if aM O key (p.getD (n - 1) 0) (p.getD n 0)=true then .ret (p,n,q) else ŀ f p (n+1) (q+1))=_
     rw[É d];rfl
    rw[e]
    exact⟨h,a,Î _,(by show n<=n+(f+1);lia),rfl,dX _⟩
   ·have e:ĭ (aM O key) (ŀ (f+1) p n q)=ĭ (aM O key) (ŀ f p (n+1) (q+1)):=by
     show ĭ (aM O key) (if aM O key (p.getD n 0) (p.getD (n - 1) 0)=true then _ else .ask (p.getD (n - 1) 0) (p.getD n 0) λ d=>if d=true then .ret (p,n,q) else ŀ f p (n+1) (q+1))=_
     rw[Ó c]
     show ĭ (aM O key) (if aM O key (p.getD (n - 1) 0) (p.getD n 0)=true then .ret (p,n,q) else ŀ f p (n+1) (q+1))=_
     rw[Ó d]
    have eq:fU key p n=fU key p (n - 1):=pY (bx d) (bx c)
    have:=uF f p (n+1) (q+1) (by lia) (by lia) (qM h1 h (by rw[eq];exact bQ _)) ⟨by have:=a.1;lia,λ i h2 h3=>by
     by_cases hi:i=n
     ·subst hi;rfl
     ·show fU key p i=fU key p n
      rw[eq];exact a.2 i (by lia) (by lia)⟩
    rw[e]
    obtain⟨b1,b2,b3,b4,b5,b6⟩:=this
    exact⟨b1,b2,by lia,by lia,b5,b6⟩
theorem Co (h1:1<=n)(hn:n<=nrem)(hz:nrem<=p.size)(h:Qb key p n) :
  let r:=ĭ (aM O key) (o9 n nrem p)
  Aq key r.2 r.1/\1<=r.1/\r.1<=nrem/\r.2.size=p.size/\r.2.Perm p:=by
 have e:ĭ (aM O key) (o9 n nrem p)=(ĭ (aM O key) (aF (av p 0 n) (nrem - n) n),av p 0 n):=by
  unfold o9
  rw[iS];rfl
 rw[e]
 have s0:Aq key (av p 0 n) n:=λ i j h2 h3=>by
  rw[ni (by lia),ni (by lia),É (by lia),É (by lia)]
  exact h _ _ (by lia) (by lia)
 obtain⟨a1,a2,a3,_⟩:=Di (nrem - n) n h1 s0
 exact⟨a1,by lia,by lia,CW _ _ _ _,tV _ _ _ _⟩
theorem sY (h1:1<=n)(hn:n+1<=nrem)(hz:nrem<=p.size)(h:Qb key p n)(hl:O.klt (fU key p n) (fU key p (n - 1))) :
  let r:=ĭ (aM O key) (bG n nrem p)
  Aq key r.2 r.1/\1<=r.1/\r.1<=nrem/\r.2.size=p.size/\r.2.Perm p:=by
 have d:=uF (key:=key) (nrem - (n+1)) p (n+1) 0 (by lia) (by lia) (qM h1 h (fZ hl)) ⟨by lia,λ i h2 h3=>by
     have e9:i=n:=by lia
     rw[e9];rfl⟩
 have e:ĭ (aM O key) (bG n nrem p)=ĭ (aM O key) (if (ĭ (aM O key) (ŀ (nrem - (n+1)) p (n+1) 0)).2.2 > 0 then o9 (ĭ (aM O key) (ŀ (nrem - (n+1)) p (n+1) 0)).2.1 nrem (av (ĭ (aM O key) (ŀ (nrem - (n+1)) p (n+1) 0)).1 ((ĭ (aM O key) (ŀ (nrem - (n+1)) p (n+1) 0)).2.1 - ((ĭ (aM O key) (ŀ (nrem - (n+1)) p (n+1) 0)).2.2+1)) (ĭ (aM O key) (ŀ (nrem - (n+1)) p (n+1) 0)).2.1) else o9 (ĭ (aM O key) (ŀ (nrem - (n+1)) p (n+1) 0)).2.1 nrem (ĭ (aM O key) (ŀ (nrem - (n+1)) p (n+1) 0)).1):=by
  unfold bG
  rw[iS]
 rw[e]
 generalize ĭ (aM O key) (ŀ (nrem - (n+1)) p (n+1) 0)=r at *
 obtain⟨b1,b2,b3,b4,b5,b6⟩:=d
 by_cases hq:r.2.2 > 0
 ·rw[É hq]
  have sz:(av r.1 (r.2.1 - (r.2.2+1)) r.2.1).size=r.1.size:=CW _ _ _ _
  obtain⟨c1,c2,c3,c4,c5⟩:=Co (key:=key) (p:=av r.1 (r.2.1 - (r.2.2+1)) r.2.1) (n:=r.2.1) (nrem:=nrem) (by lia) (by lia) (by rw[sz,b5];exact hz) (yw (yC (by lia) b2) b1)
  exact⟨c1,c2,c3,by rw[c4,sz,b5],c5.trans ((tV _ _ _ _).trans b6)⟩
 ·rw[Ó hq]
  obtain⟨c1,c2,c3,c4,c5⟩:=Co (key:=key) (p:=r.1) (n:=r.2.1) (nrem:=nrem) (by lia) (by lia) (by rw[b5];exact hz) b1
  exact⟨c1,c2,c3,by rw[c4,b5],c5.trans b6⟩
theorem IY (h1:1<=nrem)(hz:nrem<=p.size) :
  let r:=ĭ (aM O key) (hZ nrem p)
  Aq key r.2 r.1/\1<=r.1/\r.1<=nrem/\r.2.size=p.size/\r.2.Perm p:=by
 obtain⟨a1,a2,a3,a4⟩:=Di (key:=key) (p:=p) (nrem - 1) 1 (Î _) (Pm p)
 have e:ĭ (aM O key) (hZ nrem p)=ĭ (aM O key) (if (ĭ (aM O key) (aF p (nrem - 1) 1) == nrem)=true then .ret (ĭ (aM O key) (aF p (nrem - 1) 1),p) else if ĭ (aM O key) (aF p (nrem - 1) 1) > 1 then .ask (p.getD 0 0) (p.getD (ĭ (aM O key) (aF p (nrem - 1) 1) - 1) 0) λ c=>if c=true then .ret (ĭ (aM O key) (aF p (nrem - 1) 1),p) else bG (ĭ (aM O key) (aF p (nrem - 1) 1)) nrem (av p 0 (ĭ (aM O key) (aF p (nrem - 1) 1)))
  else bG (ĭ (aM O key) (aF p (nrem - 1) 1)) nrem p):=by
  unfold hZ
  rw[iS]
 rw[e]
 generalize ĭ (aM O key) (aF p (nrem - 1) 1)=n at *
 by_cases hn:(n == nrem)=true
 ·rw[É hn]
  have:n=nrem:=by simpa using hn
  exact⟨a1,a2,(by show n<=nrem;lia),rfl,dX _⟩
 ·rw[Ó hn]
  have Sk:n≠nrem:=by simpa using hn
  have hl:=a4 (by lia)
  by_cases h2:n > 1
  ·rw[É h2]
   have e2:ĭ (aM O key) (.ask (p.getD 0 0) (p.getD (n - 1) 0) λ c=>if c=true then .ret (n,p) else bG n nrem (av p 0 n))=ĭ (aM O key) (if aM O key (p.getD 0 0) (p.getD (n - 1) 0)=true then .ret (n,p) else bG n nrem (av p 0 n)):=rfl
   rw[e2]
   by_cases c:aM O key (p.getD 0 0) (p.getD (n - 1) 0)=true
   ·rw[É c]
    exact⟨a1,a2,(by show n<=nrem;lia),rfl,dX _⟩
   ·rw[Ó c]
    have all:∀ i,i < n->fU key p i=fU key p 0:=λ i hi=>by
     have q1:O.kle (fU key p 0) (fU key p i):=a1 0 i (Ă _) hi
     have q2:O.kle (fU key p i) (fU key p (n - 1)):=a1 i (n - 1) (by lia) (by lia)
     have q3:O.kle (fU key p (n - 1)) (fU key p 0):=bx c
     exact pY (hX q2 q3) q1
    have sz:(av p 0 n).size=p.size:=CW _ _ _ _
    have ke:∀ i,i < n->fU key (av p 0 n) i=fU key p 0:=λ i hi=>by
     rw[ni (by lia),É ⟨Ă _,hi⟩];exact all _ (by lia)
    obtain⟨c1,c2,c3,c4,c5⟩:=sY (key:=key) (p:=av p 0 n) (n:=n) (nrem:=nrem) (by lia) (by lia) (by rw[sz];exact hz)
     (λ i j h3 h4=>by rw[ke i (by lia),ke j h4];exact bQ _)
     (by rw[ni (by lia),Ó (by lia),ke (n - 1) (by lia),<-all (n - 1) (by lia)];exact hl)
    exact⟨c1,c2,c3,by rw[c4,sz],c5.trans (tV _ _ _ _)⟩
  ·rw[Ó h2]
   have hn1:n=1:=by lia
   subst hn1
   exact sY (key:=key) (by lia) (by lia) hz (λ i j h3 h4=>by
    have:i=j:=by lia
    subst this;exact bQ _) hl
theorem wm (hs:Aq key p k):∀ (f l r:Nat),l<=r->r<=k->r - l<=f->(∀ i,i < l->O.kle (fU key p i) (fU key p k))->(∀ i,r<=i->i < k->O.klt (fU key p k) (fU key p i))->
  let m:=ĭ (aM O key) (ť p k f l r)
  m<=k/\(∀ i,i < m->O.kle (fU key p i) (fU key p k))/\∀ i,m<=i->i < k->O.klt (fU key p k) (fU key p i)
 | 0,l,r,h1,h2,h3,h4,h5=>⟨(by show l<=k;lia),h4,λ i h6 h7=>h5 i (by have h6:l<=i:=h6;lia) h7⟩
 | f+1,l,r,h1,h2,h3,h4,h5=>by
  by_cases hl:l ≥ r
  ·have e:ĭ (aM O key) (ť p k (f+1) l r)=l:=by
    show ĭ (aM O key) (if l ≥ r then .ret l else _)=l
    rw[É hl];rfl
   rw[e]
   exact⟨by lia,h4,λ i h6 h7=>h5 i (by lia) h7⟩
  ·by_cases c:aM O key (p.getD k 0) (p.getD ((l+r) / 2) 0)=true
   ·have e:ĭ (aM O key) (ť p k (f+1) l r)=ĭ (aM O key) (ť p k f l ((l+r) / 2)):=by
     show ĭ (aM O key) (if l ≥ r then .ret l else .ask (p.getD k 0) (p.getD ((l+r) / 2) 0) λ c=>if c=true then ť p k f l ((l+r) / 2) else ť p k f ((l+r) / 2+1) r)=_
     rw[Ó hl]
     show ĭ (aM O key) (if aM O key (p.getD k 0) (p.getD ((l+r) / 2) 0)=true then ť p k f l ((l+r) / 2) else ť p k f ((l+r) / 2+1) r)=_
     rw[É c]
    rw[e]
    exact wm hs f l ((l+r) / 2) (by lia) (by lia) (by lia) h4 λ i h6 h7=>KeyOrd.klt_of_klt_of_kle (O:=O) c (hs _ i h6 h7)
   ·have e:ĭ (aM O key) (ť p k (f+1) l r)=ĭ (aM O key) (ť p k f ((l+r) / 2+1) r):=by
     show ĭ (aM O key) (if l ≥ r then .ret l else .ask (p.getD k 0) (p.getD ((l+r) / 2) 0) λ c=>if c=true then ť p k f l ((l+r) / 2) else ť p k f ((l+r) / 2+1) r)=_
     rw[Ó hl]
     show ĭ (aM O key) (if aM O key (p.getD k 0) (p.getD ((l+r) / 2) 0)=true then ť p k f l ((l+r) / 2) else ť p k f ((l+r) / 2+1) r)=_
     rw[Ó c]
    rw[e]
    exact wm hs f ((l+r) / 2+1) r (by lia) h2 (by lia) (λ i hi=>hX (hs i ((l+r) / 2) (by lia) (by lia)) (bx c)) h5
theorem NQ {p:ė Nat}(hk:k < p.size)(hl:l<=k)(i:Nat):fU key (AN p k (k - l)) i=if i=l then fU key p k else if l < i/\i<=k then fU key p (i - 1) else fU key p i:=by
 have h:=getElem?_bubble (xs:=p) hk (k - l) (by lia) i
 rw[show k - (k - l)=l by lia]at h
 by_cases hi:i=l
 ·rw[É hi]at h ⊢;unfold fU;rw[qw h]
 ·rw[Ó hi]at h ⊢
  by_cases h2:l < i/\i<=k
  ·rw[É h2]at h ⊢;unfold fU;rw[qw h]
  ·rw[Ó h2]at h ⊢;unfold fU;rw[qw h]
theorem af:∀ (f:Nat)(p:ė Nat)(k:Nat),k+f<=p.size->Aq key p k->
  let r:=ĭ (aM O key) (EH f p k)
  Aq key r (k+f)/\r.size=p.size/\r.Perm p
 | 0,p,k,h1,h=>⟨h,rfl,dX _⟩
 | f+1,p,k,h1,h=>by
  obtain⟨b1,b2,b3⟩:=wm (key:=key) h k 0 k (Ă _) (Î _) (by lia) (λ i hi=>by lia) (λ i h2 h3=>by lia)
  have e:ĭ (aM O key) (EH (f+1) p k)=ĭ (aM O key) (EH f (AN p k (k - ĭ (aM O key) (ť p k k 0 k))) (k+1)):=by
   show ĭ (aM O key) ((ť p k k 0 k).bind λ l=>EH f (AN p k (k - l)) (k+1))=_
   rw[iS]
  rw[e]
  generalize ĭ (aM O key) (ť p k k 0 k)=l at *
  have sz:(AN p k (k - l)).size=p.size:=bubble_size _ _ _
  have kb:∀ i,fU key (AN p k (k - l)) i=if i=l then fU key p k else if l < i/\i<=k then fU key p (i - 1) else fU key p i:=NQ (by lia) b1
  have s1:Aq key (AN p k (k - l)) (k+1):=λ i j h2 h3=>by
   rw[kb,kb]
   by_cases hi:i=l
   ·rw[É hi]
    by_cases hj:j=l
    ·rw[É hj];exact bQ _
    ·rw[Ó hj,É (by lia)]
     exact fZ (b3 (j - 1) (by lia) (by lia))
   ·rw[Ó hi]
    by_cases Qu:l < i/\i<=k
    ·rw[É Qu,Ó (by lia),É (by lia)]
     exact h _ _ (by lia) (by lia)
    ·rw[Ó Qu]
     by_cases hj:j=l
     ·rw[É hj];exact b2 i (by lia)
     ·rw[Ó hj]
      by_cases Y4:l < j/\j<=k
      ·rw[É Y4];exact h _ _ (by lia) (by lia)
      ·rw[Ó Y4];exact h _ _ h2 (by lia)
  obtain⟨c1,c2,c3⟩:=af f (AN p k (k - l)) (k+1) (by rw[sz];lia) s1
  exact⟨by rw[show k+(f+1)=k+1+f by lia];exact c1,by rw[c2,sz],c3.trans (bubble_perm _ _ _)⟩
theorem Pj (h1:1<=n):let r:=ĭ (aM O key) (tR n);Aq key r n/\r.size=n/\r.Perm (ı (Ģ n)):=by
 have hz:(ı (Ģ n)).size=n:=by simp
 obtain⟨a1,a2,a3,a4,a5⟩:=IY (key:=key) (p:=ı (Ģ n)) h1 (eO hz.symm)
 have e:ĭ (aM O key) (tR n)=ĭ (aM O key) (if (ĭ (aM O key) (hZ n (ı (Ģ n)))).1 < n then EH (n - max (ĭ (aM O key) (hZ n (ı (Ģ n)))).1 1) (ĭ (aM O key) (hZ n (ı (Ģ n)))).2 (max (ĭ (aM O key) (hZ n (ı (Ģ n)))).1 1) else .ret (ĭ (aM O key) (hZ n (ı (Ģ n)))).2):=by
  unfold tR
  rw[iS]
 rw[e]
 generalize ĭ (aM O key) (hZ n (ı (Ģ n)))=r at *
 by_cases h2:r.1 < n
 ·rw[É h2]
  have hm:max r.1 1=r.1:=by lia
  rw[hm]
  obtain⟨c1,c2,c3⟩:=af (key:=key) (n - r.1) r.2 r.1 (by rw[a4,hz];lia) a1
  exact⟨by rw[show n=r.1+(n - r.1) by lia];rw[show r.1+(n - r.1) - r.1=n - r.1 by lia];exact c1,by rw[c2,a4,hz],c3.trans a5⟩
 ·rw[Ó h2]
  have:r.1=n:=by lia
  exact⟨(by show Aq key r.2 n;rw[<-this];exact a1),(by show r.2.size=n;rw[a4,hz]),a5⟩
end
def qi {α:Type}(n:Nat)(Po:α->Prop):KasT α->Prop
 | .ret a=>Po a
 | .ask i j k=>i < n/\j < n/\∀ b,qi n Po (k b)
theorem qi.bind {α β:Type}{Po:α->Prop}{Pq:β->Prop}{f:α->KasT β}(hf:∀ a,Po a->qi n Pq (f a)):∀ {t:KasT α},qi n Po t->qi n Pq (t.bind f)
 | .ret a,h=>hf a h
 | .ask i j k,h=>⟨h.1,h.2.1,λ b=>qi.bind hf (h.2.2 b)⟩
def AllLt (n:Nat)(p:ė Nat):Prop:=∀ i,p.getD i 0 < n
theorem allLt_of (h1:1<=n)(h:∀ x∈p.toList,x < n):AllLt n p:=λ i=>by
 rw[Ŕ]
 cases e:p[i]? with
 | none=>exact h1
 | some x=>exact h x (by rw[oZ];exact Array.mem_of_getElem? e)
theorem AllLt.rev (h1:1<=n)(h:AllLt n p)(i j:Nat):AllLt n (av p i j):=allLt_of h1 λ x hx=>by
 have:x∈p.toList:=by
  have hp:=(tV p i j ((j - i) / 2))
  exact(jM.mp hp).mem_iff.mp hx
 obtain⟨k,hk,e⟩:=bc this
 have:=h k
 rw[Ŕ]at this
 have e2:p[k]? = À x:=by rw[<-ĕ,Ñ hk,e]
 rw[e2]at this
 exact this
theorem AllLt.bub (h1:1<=n)(h:AllLt n p)(i j:Nat):AllLt n (AN p i j):=allLt_of h1 λ x hx=>by
 have:x∈p.toList:=(jM.mp (bubble_perm p i j)).mem_iff.mp hx
 obtain⟨k,hk,e⟩:=bc this
 have:=h k
 rw[Ŕ]at this
 have e2:p[k]? = À x:=by rw[<-ĕ,Ñ hk,e]
 rw[e2]at this
 exact this
theorem Dh (h:AllLt n p):∀ (f m:Nat),qi n (λ _=>True) (aF p f m)
 | 0,m=>trivial
 | f+1,m=>⟨h _,h _,λ b=>by
  show qi n _ (if b=true then .ret m else aF p f (m+1))
  split
  ·trivial
  ·exact Dh h f (m+1)⟩
theorem uE (h1:1<=n):∀ (f:Nat) {p:ė Nat}(m q:Nat),AllLt n p->qi n (λ r=>AllLt n r.1) (ŀ f p m q)
 | 0,p,m,q,h=>h
 | f+1,p,m,q,h=>⟨h _,h _,λ b=>by
  show qi n _ (if b=true then (if q > 0 then ŀ f (av p (m - (q+1)) m) (m+1) 0 else ŀ f p (m+1) 0) else .ask (p.getD (m - 1) 0) (p.getD m 0) λ d=>if d=true then .ret (p,m,q) else ŀ f p (m+1) (q+1))
  split
  ·split
   ·exact uE h1 f _ _ (h.rev h1 _ _)
   ·exact uE h1 f _ _ h
  ·refine⟨h _,h _,λ d=>?_⟩
   show qi n _ (if d=true then .ret (p,m,q) else ŀ f p (m+1) (q+1))
   split
   ·exact h
   ·exact uE h1 f _ _ h⟩
theorem Cn (h1:1<=n){p:ė Nat}(h:AllLt n p)(m nrem:Nat):qi n (λ r=>AllLt n r.2) (o9 m nrem p):=by
 have a:=Dh (h.rev h1 0 m) (nrem - m) m
 unfold o9
 refine qi.bind (Pq:=λ r:Nat × ė Nat=>AllLt n r.2) (λ q _=>?_) a
 exact h.rev h1 0 m
theorem sX (h1:1<=n){p:ė Nat}(h:AllLt n p)(m nrem:Nat):qi n (λ r=>AllLt n r.2) (bG m nrem p):=
 qi.bind (λ r hr=>by
  show qi n _ (if r.2.2 > 0 then _ else _)
  split
  ·exact Cn h1 (AllLt.rev h1 hr _ _) _ _
  ·exact Cn h1 hr _ _) (uE h1 _ _ _ h)
theorem IX (h1:1<=n){p:ė Nat}(h:AllLt n p)(nrem:Nat):qi n (λ r=>AllLt n r.2) (hZ nrem p):=
 qi.bind (λ m _=>by
  show qi n _ (if (m == nrem)=true then .ret (m,p) else if m > 1 then .ask (p.getD 0 0) (p.getD (m - 1) 0) λ c=>if c=true then .ret (m,p) else bG m nrem (av p 0 m) else bG m nrem p)
  split
  ·exact h
  ·split
   ·refine⟨h _,h _,λ c=>?_⟩
    show qi n _ (if c=true then .ret (m,p) else bG m nrem (av p 0 m))
    split
    ·exact h
    ·exact sX h1 (h.rev h1 _ _) _ _
   ·exact sX h1 h _ _) (Dh h _ _)
theorem qT (h:AllLt n p)(k:Nat):∀ (f l r:Nat),qi n (λ _=>True) (ť p k f l r)
 | 0,l,r=>trivial
 | f+1,l,r=>by
  show qi n _ (if l ≥ r then .ret l else .ask (p.getD k 0) (p.getD ((l+r) / 2) 0) λ c=>if c=true then ť p k f l ((l+r) / 2) else ť p k f ((l+r) / 2+1) r)
  split
  ·trivial
  ·refine⟨h _,h _,λ c=>?_⟩
   show qi n _ (if c=true then ť p k f l ((l+r) / 2) else ť p k f ((l+r) / 2+1) r)
   split
   ·exact qT h k f _ _
   ·exact qT h k f _ _
theorem IM (h1:1<=n):∀ (f:Nat) {p:ė Nat}(k:Nat),AllLt n p->qi n (λ _=>True) (EH f p k)
 | 0,p,k,h=>trivial
 | f+1,p,k,h=>qi.bind (λ l _=>IM h1 f _ (h.bub h1 _ _)) (qT h k k 0 k)
theorem Ph (h1:1<=n):qi n (λ _=>True) (tR n):=
 qi.bind (λ r hr=>by
  show qi n _ (if r.1 < n then _ else _)
  split
  ·exact IM h1 _ _ hr
  ·trivial) (IX h1 (allLt_of h1 λ x hx=>by simpa using hx) n)
theorem QY (hc:∀ i j C,i < n->j < n->C (lt i j) s->cmp i j C s):∀ {t:KasT α},qi n (λ _=>True) t->Q (ĭ lt t) s->t.kasWp cmp Q s
 | .ret a,_,h=>h
 | .ask i j k,hi,h=>hc i j _ hi.1 hi.2.1 (QY hc (hi.2.2 _) h)
section
variable {prog:ý}{w:ğ}{A:ō}{E:Ç->Ï->Prop}{s:Ï}{a:Addr}{vs:Á Ç}
theorem Pf {O:KeyOrd}{key:Nat->O.α}{κ:Q_}{P:MO->Ï->Prop}(ho:s.heap.get? a=À (a9 "list" vs.toArray n)) (h2:2<=vs.length)(Sb:vs.length < 64)
  (hk:∀ h':Heap,(∀ b o,b≠a->s.heap.get? b=À o->h'.get? b=À o)->∀ Q:Q_->Ï->Prop,Q κ { s with heap:=h' }->ß (á prog w) A (keyKind' vs.toArray) Q (λ _ _=>False) { s with heap:=h' })
  (ha:∀ h':Heap,(∀ b o,b≠a->s.heap.get? b=À o->h'.get? b=À o)->∀ i j C,i < vs.length->j < vs.length->C (O.blt (key i) (key j)) { s with heap:=h' }->ß (á prog w) A (keyLt' κ (vs.getD i ē) (vs.getD j ē)) C (λ _ _=>False) { s with heap:=h' })
  (h:∀ p:ė Nat,Aq key p vs.length->p.size=vs.length->p.Perm (ı (Ģ vs.length))->P (.done (.ret .none)) { s with heap:=V3 s.heap a vs (ı (p.toList.map λ i=>vs.getD i ē)) }) :
  ß (á prog w) A (eF.«list.sort» ⟨[.ref a],[]⟩) P E s:=by
 have Nw:a < s.heap.objs.size:=Ú ho
 obtain⟨e1,Ĥ⟩:∃ e1,(s.heap.update a (ŵ λ _=>(#[]:ė Ç))).get? a=À (a9 "list" #[] e1):=⟨_,abR ho λ _=>#[]⟩
 rw[abS]
 refine Â (listItems_at ho rfl ?_)
 refine Â (wO ho rfl ?_ (by rw[Ý,bP];lia) (Ă _))
 refine Â (CY Ĥ rfl ?_)
 refine Â (tZ ?_ (by show vs.length<=_;rw[bP];lia))
 refine Â (js ?_ (Ă _))
 refine Ŭ ?_
 show ß (á prog w) A _ P E { s with heap:=((s.heap.update a (ŵ λ _=>(#[]:ė Ç))).push (a9 "tuple" vs.toArray 0)).push (a9 "list" #[] 0) }
 dsimp only
 have Sj:¬ vs.toArray.size < 2:=by rw[Ý];lia
 rw[Ó Sj,Ó Sj]
 have keep:∀ b o,b≠a->s.heap.get? b=À o->(((s.heap.update a (ŵ λ _=>(#[]:ė Ç))).push (a9 "tuple" vs.toArray 0)).push (a9 "list" #[] 0)).get? b=À o:=λ b o hb e=>
  Å _ (Å _ ((cW _ _ (bR hb)).trans e))
 refine Â (fm (hk _ keep _ ?_) (λ κ s0 hk=>hk) λ _ _ x=>x.elim)
 have ask:=QY (cmp:=kas_ask prog w A κ vs) (lt:=aM O key) (s:={ s with heap:=((s.heap.update a (ŵ λ _=>(#[]:ė Ç))).push (a9 "tuple" vs.toArray 0)).push (a9 "list" #[] 0) })
  (Q:=λ p HF=>p=ĭ (aM O key) (tR vs.length)/\HF={ s with heap:=((s.heap.update a (ŵ λ _=>(#[]:ė Ç))).push (a9 "tuple" vs.toArray 0)).push (a9 "list" #[] 0) }) (λ i j C hi hj hC=>ha _ keep i j C hi hj hC) (Ph (by lia)) ⟨rfl,rfl⟩
 refine Â (fm (kat_run (Q:=λ zR s'=>∃ p:ė Nat,p.size=vs.length/\arrOf zR=p.map (kas_item (vs.toArray.zip vs.toArray))/\failedOf zR=none/\p=ĭ (aM O key) (tR vs.length)/\s'={ s with heap:=((s.heap.update a (ŵ λ _=>(#[]:ė Ç))).push (a9 "tuple" vs.toArray 0)).push (a9 "list" #[] 0) })
  rfl h2 Sb (λ p' zR s' a1 a2 a3 a4=>⟨p',a1,a2,a3,a4.1,a4.2⟩) ask) ?_ λ _ _ e=>e)
 rintro⟨⟨⟩,zR⟩ s' ⟨p,hp,har,hf,rfl,rfl⟩
 dsimp only
 have aav:=kat_snds rfl har
 have hsz:(ı ((ĭ (aM O key) (tR vs.length)).toList.map λ i=>vs.getD i ē)).size=vs.length:=by rw[Ý,Æ,Ď,hp]
 rw[aav]
 have na:(((s.heap.update a (ŵ λ _=>(#[]:ė Ç))).push (a9 "tuple" vs.toArray 0)).push (a9 "list" #[] 0)).get? a=À (a9 "list" #[] e1):=Å _ (Å _ Ĥ)
 refine Â (CY na rfl ?_)
 refine Â (wO na rfl ?_ (Ă _) (ā (eO hsz) (by rw[bP];lia)))
 rw[hf]
 simp only[nX,ą,aa]
 obtain⟨q1,q2,q3⟩:=Pj (key:=key) (n:=vs.length) (by lia)
 exact Ê (h _ q1 q2 q3)
end
end Mm
namespace L2
open PySem PySem.Spec PyProof.Rows
theorem bf.pU (x:bf P w H h a o):∃ u,h.get? a=À u:=by
 cases o with
 | lst xs=>obtain⟨_,_,_,_,e⟩:=x;exact⟨_,e⟩
 | tup xs=>obtain⟨_,_,_,⟨_,e,_⟩⟩:=x;exact⟨_,e⟩
 | dK kvs=>obtain⟨_,_,_,_,o,_,_,e,_⟩:=x;exact⟨_,e⟩
 | dT kvs=>obtain⟨_,_,_,_,o,_,_,e,_⟩:=x;exact⟨_,e⟩
 | set S n=>obtain⟨o,_,_,_,e,_⟩:=x;exact⟨_,e⟩
 | ins C dx fs=>obtain⟨_,_,_,e,_⟩:=x;exact⟨_,e⟩
 | own y=>obtain⟨_,e⟩:=x;exact⟨_,e⟩
 | xd fs=>obtain⟨_,⟨_,_,_,e,_⟩,_⟩:=x;exact⟨_,e⟩
 | Ze lo hi=>obtain⟨_,_,_,e⟩:=x;exact⟨_,e⟩
 | yc ob u=>obtain⟨e,_⟩:=x;exact⟨_,e⟩
 | PC ps=>exact⟨_,show h.get? a=À _ from x⟩
 | met f y=>exact⟨_,show h.get? a=À _ from x⟩
 | ext φ=>obtain⟨_,⟨_,e⟩,_⟩:=x;exact⟨_,e⟩
theorem Inv.grown (I:Inv X Ä σ H s)(k:∀ b u,s.heap.get? b=À u->h'.get? b=À u)(e:∀ b u,s.heap.get? b=À u->H' b=H b)
  (new:∀ b o,s.heap.get? b=none->H' b=À o->bf X.prog X.w H' h' b o):Inv X Ä σ H' { s with heap:=h',toks:=t' }:=by
 have old:∀ b o,H b=À o->H' b=À o:=λ b o z=>by
  obtain⟨u,hu⟩:=(I.ar b o z).pU
  rw[e b u hu];exact z
 refine I.un ⟨λ b u q _ _ _=>k b u q,λ b u q _ _ _=>⟨u.slots,k b u q⟩,λ b u q n _=>by rw[e b u q];exact n,λ b u q _=>⟨u,k b u q⟩,λ b xs q=>old b _ q,λ b u xs q=>old b _ q,λ b ps q=>⟨#[],by rw[old b _ q];simp⟩⟩ λ b o z=>?_
 cases hb:s.heap.get? b with
 | some u=>
  rw[e b u hb]at z
  exact(I.ar b o z).Ce (λ c u _ q=>k c u q) (λ c q=>old c _ q) λ c xs q=>old c _ q
 | none=>exact new b o hb z
def Fv (a b:Str):Bool:=!decide (b.cps.toList < a.cps.toList)
def G2 (a:Str):Á Str->Á Str
 | []=>[a]
 | b :: r=>if Fv a b=true then a :: b :: r else b :: G2 a r
def kQ:Á Str->Á Str
 | []=>[]
 | a :: r=>G2 a (kQ r)
theorem sm (a:Str):∀ l,(G2 a l).Perm (a :: l)
 | []=>.refl _
 | b :: r=>by
  unfold G2
  split
  ·exact .refl _
  ·exact((sm a r).cons b).trans (.swap a b r)
theorem bY:∀ l,(kQ l).Perm l
 | []=>.refl _
 | a :: r=>(sm a (kQ r)).trans ((bY r).cons a)
abbrev oS:KeyOrd:=strKind.toKeyOrd
abbrev Nc (a:Str):oS.α:=a.cps.toList
theorem qD:Fv a b=true ↔ oS.kle (Nc a) (Nc b):=by
 unfold Fv KeyOrd.kle
 show(!decide (b.cps.toList < a.cps.toList))=true ↔ decide (b.cps.toList < a.cps.toList)=false
 simp
theorem Hg (a b:Str)(h:Fv a b≠true):Fv b a=true:=by
 rw[qD]
 refine bx λ z=>?_
 exact h (qD.mpr (fZ z))
theorem Hh (h:Fv a b=true)(k:Fv b c=true):Fv a c=true:=by
 rw[qD]at *
 exact hX h k
theorem JZ (h:Fv a b=true)(k:Fv b a=true):a=b:=by
 rw[qD]at *
 have e:a.cps.toList=b.cps.toList:=pY h k
 cases a with|mk x=>cases b with|mk y=>exact Ě Str.mk (MA.mp e)
theorem tf (a:Str):∀ {l:Á Str},l.Pairwise (λ x y=>Fv x y=true)->(G2 a l).Pairwise (λ x y=>Fv x y=true)
 | [],_=>C7 _ _
 | b :: r,h=>by
  unfold G2
  split
  ·rename_i hb
   refine ġ.mpr ⟨λ x hx=>?_,h⟩
   rcases Ò.mp hx with rfl|hx
   ·exact hb
   ·exact Hh hb ((ġ.mp h).1 x hx)
  ·rename_i hb
   refine ġ.mpr ⟨λ x hx=>?_,tf a (ġ.mp h).2⟩
   rcases Ò.mp ((sm a r).mem_iff.mp hx) with rfl|hx
   ·exact Hg _ _ hb
   ·exact(ġ.mp h).1 x hx
theorem lR:∀ l,(kQ l).Pairwise (λ x y=>Fv x y=true)
 | []=>ot
 | a :: r=>tf a (lR r)
theorem tF {α:Type}{le:α->α->Bool}(M5:∀ a b,le a b=true->le b a=true->a=b):∀ {l q:Á α},l.Perm q->l.Pairwise (λ x y=>le x y=true)->q.Pairwise (λ x y=>le x y=true)->l=q
 | [],q,p,_,_=>(List.nil_perm.mp p).symm
 | a :: r,q,p,h,k=>by
  cases q with
  | nil=>exact absurd (p.length_eq) (by simp)
  | cons b t=>
   have GX:a=b:=by
    rcases Ò.mp (p.mem_iff.mp Ġ) with e|ha
    ·exact e
    ·rcases Ò.mp (p.mem_iff.mpr Ġ) with e|hb
     ·exact e.symm
     ·exact M5 _ _ ((ġ.mp h).1 b hb) ((ġ.mp k).1 a ha)
   subst GX
   rw[tF M5 p.cons_inv (ġ.mp h).2 (ġ.mp k).2]
theorem wu {l q:Á Str}(p:l.Perm q)(h:l.Pairwise (λ x y=>Fv x y=true)):l=kQ q:=
 tF (λ _ _=>JZ) (p.trans (bY q).symm) h (lR q)
theorem NT {kvs:Á (Key × V)}(rel:KV kvs vs){ks:Á Str}(hk:kvs.map (·.1)=ks.map aJ) (e:vs[j]? = À (k,x)) (hj:j < ks.length):k=aJ ks[j]:=by
 have h1:(vs.map (·.1))=kvs.map (·.1):=by
  clear hk e
  unfold KV at rel
  induction rel with
  | nil=>rfl
  | cons h _ ih=>rw[È,È,ih,h.1]
 have h2:(vs.map (·.1))[j]? = À k:=by rw[ò,e];rfl
 rw[h1,hk,ò,Ñ hj]at h2
 exact(ă h2).symm
end L2
namespace Mm
open PySem PySem.W PyProof.Rows
section
variable {prog:ý}{w:ğ}{A:ō}{E:Ç->Ï->Prop}{s:Ï}{a:Addr}{vs:Á Ç}
theorem Lk {O:KeyOrd}{key:Nat->O.α}{κ:Q_}{P:MO->Ï->Prop}(ho:s.heap.get? a=À (a9 "list" vs.toArray n)) (Sb:vs.length < 64)
  (hk:∀ h':Heap,2<=vs.length->(∀ b o,b≠a->s.heap.get? b=À o->h'.get? b=À o)->∀ Q:Q_->Ï->Prop,Q κ { s with heap:=h' }->ß (á prog w) A (keyKind' vs.toArray) Q (λ _ _=>False) { s with heap:=h' })
  (ha:∀ h':Heap,(∀ b o,b≠a->s.heap.get? b=À o->h'.get? b=À o)->∀ i j C,i < vs.length->j < vs.length->C (O.blt (key i) (key j)) { s with heap:=h' }->ß (á prog w) A (keyLt' κ (vs.getD i ē) (vs.getD j ē)) C (λ _ _=>False) { s with heap:=h' })
  (h:∀ p:ė Nat,Aq key p vs.length->p.size=vs.length->p.Perm (ı (Ģ vs.length))->P (.done (.ret .none)) { s with heap:=V3 s.heap a vs (ı (p.toList.map λ i=>vs.getD i ē)) }) :
  ß (á prog w) A (eF.«list.sort» ⟨[.ref a],[]⟩) P E s:=by
 by_cases h2:2<=vs.length
 ·exact Pf ho h2 Sb (λ h' k=>hk h' h2 k) ha h
 ·have Nw:a < s.heap.objs.size:=Ú ho
  obtain⟨e1,Ĥ⟩:∃ e1,(s.heap.update a (ŵ λ _=>(#[]:ė Ç))).get? a=À (a9 "list" #[] e1):=⟨_,abR ho λ _=>#[]⟩
  rw[abS]
  refine Â (listItems_at ho rfl ?_)
  refine Â (wO ho rfl ?_ (by rw[Ý,bP];lia) (Ă _))
  refine Â (CY Ĥ rfl ?_)
  refine Â (tZ ?_ (by show vs.length<=_;rw[bP];lia))
  refine Â (js ?_ (Ă _))
  refine Ŭ ?_
  show ß (á prog w) A _ P E { s with heap:=((s.heap.update a (ŵ λ _=>(#[]:ė Ç))).push (a9 "tuple" vs.toArray 0)).push (a9 "list" #[] 0) }
  dsimp only
  have Sj:vs.toArray.size < 2:=by rw[Ý];lia
  rw[É Sj,É Sj]
  refine Â (Ê ?_)
  rw[StateT.run_pure]
  refine Â (Ê ?_)
  dsimp only
  have na:(((s.heap.update a (ŵ λ _=>(#[]:ė Ç))).push (a9 "tuple" vs.toArray 0)).push (a9 "list" #[] 0)).get? a=À (a9 "list" #[] e1):=Å _ (Å _ Ĥ)
  refine Â (CY na rfl ?_)
  refine Â (wO na rfl ?_ (Ă _) (by rw[Array.size_map];show(pairsOf vs).size<=_;rw[pairsOf_size,bP];lia))
  simp only[nX,ą,aa]
  have q:=h (ı (Ģ vs.length)) (λ i j h3 h4=>by
   have:i=j:=by lia
   subst this;exact bQ _) (by simp) (dX _)
  have e:ı ((ı (Ģ vs.length)).toList.map λ i=>vs.getD i ē)=(vs.toArray.zip vs.toArray).map (·.2):=by
   apply MA.mp
   apply PY
   ·simp
   ·intro i h5 h6
    have hi:i < vs.length:=by simpa using h5
    simp[hi]
  rw[e]at q
  exact Ê q
end
end Mm
namespace L2
open PySem PySem.Spec PyProof.Rows
def Ui:V->Á V->Hp->VK->Prop:=λ x vs H Q=>∃ d kvs,x=.ref d/\vs=[]/\H d=À (.dK kvs)/\∀ v,H v=none->Q (.ref v) (upd H v (.ext λ h=>h.IsItemsView v d))
theorem Ka:GG X "dict.items" Ui:=by
 rintro Ä s σ H x xs v us Q I rx rv ⟨d,kvs,rfl,rfl,hH,q⟩
 cases rx
 cases rv
 obtain⟨z,hd,vs,rel,dd⟩:=oQ I.ar hH
 refine yR Ak dd.typeIs PySem.F.entry_dict_items (PySem.F.args_dict_items_1 _) (meets_dict_items (Ż X.prog X.w) d hd) ⟨⟨vs,dd⟩,?_⟩
 refine⟨.ref s.heap.objs.size,_,I.laid (a:=s.heap.objs.size) (o:=.ext λ h=>h.IsItemsView s.heap.objs.size d) (t':=s.toks) (λ _ _ q=>Å _ q) (Î _) ⟨⟨_,Þ _ rfl,rfl,rfl⟩,⟨_,Þ _ rfl⟩,λ h1 h2 ⟨o,e,r⟩ k=>⟨o,k o e,r⟩⟩,rfl,q _ (I.ar.fresh (Î _))⟩
def O6:Á V->Hp->VK->Prop:=λ xs H Q=>∃ (v d:Addr)(kvs:Á (Key × V)) (ks:Á Str),xs=[.ref v]/\H v=À (.ext λ h=>h.IsItemsView v d)/\H d=À (.dK kvs)/\kvs.map (·.1)=ks.map aJ/\ks.length < 64/\
 ∀ l H' ws,H l=none->(∀ b o,H b=À o->H' b=À o)->(∀ b,H' b=none->H b=none)->H' l=À (.lst ws)->ws.length=ks.length->
  (∀ (j:Nat) (k:Str),(kQ ks)[j]? = À k->∃ a x,ws[j]? = À (.ref a)/\lU kvs (aJ k)=À x/\H a=none/\H' a=À (.tup [.str k,x]))->Q (.ref l) H'
theorem JK {as:Á Addr}(nd:as.Nodup)(hj:j < as.length):as.idxOf as[j]=j:=by
 have h1:=List.idxOf_lt_length_of_mem (cH hj)
 exact(iA nd).mp (List.getElem_idxOf h1)
theorem W' {kvs:Á (Key × V)}{vs:Á (Key × Ç)}(rel:KV kvs vs){j:Nat}{k:Key}(e:vs[j]? = À (k,x)):∃ y,kvs[j]? = À (k,y)/\RelV y x:=by
 unfold KV at rel
 induction rel generalizing j with
 | nil=>simp at e
 | cons h _ ih=>
  cases j with
  | zero=>
   simp at e
   subst e
   exact⟨_,(by rw[List.getElem?_cons_zero];exact Ě À (Prod.ext h.1 rfl)),h.2⟩
  | succ j=>exact ih (by simpa using e)
theorem PK {kvs:Á (Key × V)}{ks:Á Str}(hk:kvs.map (·.1)=ks.map aJ) (nd:ks.Nodup){j:Nat}{k:Str}(e:kvs[j]? = À (aJ k,y)):lU kvs (aJ k)=À y:=by
 induction kvs generalizing ks j with
 | nil=>simp at e
 | cons p r ih=>
  cases ks with
  | nil=>simp at hk
  | cons q t=>
   rw[È,È,aI]at hk
   cases j with
   | zero=>
    simp at e
    subst e
    exact nP rfl
   | succ j=>
    have e:r[j]? = À (aJ k,y):=by simpa using e
    rw[nO]
    ·exact ih hk.2 (Ţ.mp nd).2 e
    ·intro z
     have:k∈t:=by
      have h1:(r.map (·.1))[j]? = À (aJ k):=by rw[ò,e];rfl
      rw[hk.2]at h1
      have:=Ŋ h1
      obtain⟨k',h2,h3⟩:=â.mp this
      cases h3;exact h2
     rw[hk.1]at z
     have:q=k:=ur z
     subst this
     exact(Ţ.mp nd).1 (by assumption)
theorem NU {kvs:Á (Key × V)}{vs:Á (Key × Ç)}(rel:KV kvs vs):vs.map (·.1)=kvs.map (·.1):=by
 unfold KV at rel
 induction rel with
 | nil=>rfl
 | cons h _ ih=>rw[È,È,ih,h.1]
theorem Bf (h:Q true s):ß (á prog w) A (eqBool v v) Q E s:=by
 unfold eqBool
 refine Ŭ ?_
 rw[É (o7 v)]
 exact Â (b9 (Ê h))
theorem vL:∀ {as:Á Addr},(∀ (j:Nat)(a:Addr),as[j]? = À a->∃ (k:Str)(t:YO)(x:Ç),h.get? a=À { cls:=.type "tuple",data:=.seq #[.str k t,x] })->∃ fs,PySem.W.KatTups h (as.map ú) fs/\(∀ v∈fs,∃ (x:Str)(t:YO),v=.str x t)/\fs.length=as.length
 | [],_=>⟨[],VT,(λ v z=>nomatch z),rfl⟩
 | a :: r,g=>by
  obtain⟨k,t,x,e⟩:=g 0 a rfl
  obtain⟨fs,k1,k2,k3⟩:=vL (as:=r) λ j b hb=>g (j+1) b (by simpa using hb)
  refine⟨.str k t :: fs,VS e rfl rfl rfl k1,λ v hv=>?_,by simp[k3]⟩
  rcases Ò.mp hv with rfl|hv
  ·exact⟨k,t,rfl⟩
  ·exact k2 v hv
theorem A4 {X:Cx}(hc:X.calm=true):aQ X (.builtin "sorted") O6:=by
 rintro Ä s σ H xs us Q I rv ⟨v,d,kvs,ks,rfl,hv,hH,hk,Sb,q⟩
 obtain⟨u,rfl,ru⟩:=rv.one
 cases (show u=ú v from ru)
 obtain⟨z,hd,vs,rel,dd⟩:=oQ I.ar hH
 obtain⟨ep,hat⟩:=dd.dictAt
 have JJ:s.heap.IsItemsView v d:=(I.ar v _ hv).1
 have Y7:kvs.length=ks.length:=by have h1:=Ě cf hk;simpa using h1
 have JC:vs.length=ks.length:=by have h2:=rel.length;lia
 have nd:ks.Nodup:=by
  obtain⟨_,_,_,_,_,_,_,_,ndk⟩:=dd
  have e:vs.map (·.1)=kvs.map (·.1):=NU rel
  rw[e,hk]at ndk
  exact(MK.mp ndk).imp λ h z=>h (Ě aJ z)
 have hh:=I.ok.hd hc
 refine p4 kind_sorted plain_sorted entry_sorted (args_sorted1 _) ?_
 unfold eF.«sorted»
 refine Â (m:=checkCount "sorted" 1 1 _) (Ê ?_)
 refine Â (PySem.W.kdx_collect (A:=X.A.in1) (knd:=Ż X.prog X.w) (kvs:=vs) (ep:=ep) hh JJ hat (by rw[<-rel.length];exact z) λ h1 tk as Qw Vz hG=>?_)
 have hl:(as.map ú).length=ks.length:=by rw[Æ,Vz,JC]
 have ndA:as.Nodup:=hG.rise.imp λ h=>Ć h
 have tup:∀ j (hj:j < ks.length),∃ (a:Addr) (t:YO) (x:Ç) (y:V),as[j]? = À a/\kvs[j]? = À (aJ ks[j],y)/\RelV y x/\h1.get? a=À { cls:=.type "tuple",data:=.seq #[.str ks[j] t,x] }:=λ j hj=>by
  have Y5:j < as.length:=by rw[Vz,JC];exact hj
  obtain⟨key,k,x,e1,e2,e3⟩:=hG.pairs j as[j] (Ñ Y5)
  have ek:k=aJ ks[j]:=NT rel hk e1 hj
  subst ek
  obtain⟨t,et⟩:=H_ (show AM ks[j] key=true from e2)
  subst et
  obtain⟨y,e4,e5⟩:=W' rel e1
  exact⟨as[j],t,x,y,Ñ Y5,e4,e5,e3⟩
 refine Â (js ?_ (by rw[hl];exact Ŀ (Ş (by lia))))
 have hoL:(h1.push (a9 "list" (as.map ú).toArray 0)).get? h1.objs.size=À (a9 "list" (as.map ú).toArray 0):=Þ _ rfl
 have tupP:∀ h':Heap,(∀ b o,b≠h1.objs.size->(h1.push (a9 "list" (as.map ú).toArray 0)).get? b=À o->h'.get? b=À o)->∀ b o,h1.get? b=À o->h'.get? b=À o:=λ h' kk b o e=>kk b o (Ć (Ú e)) (Å _ e)
 refine Â (Ŭ (ģ slot_list_sort ⟨_,hoL,rfl⟩ abQ (Mm.Lk (O:=oS) (key:=λ i=>Nc (ks.getD i ⟨#[]⟩)) (κ:=tuples' true) hoL (by rw[hl];exact Sb) ?_ ?_ λ p p1 p2 p3=>⟨_,rfl,?_⟩) (args_list_sort _)))
 ·intro h' h2 kk Q' hq
  obtain⟨fs,k1,k2,k3⟩:=vL (h:=h') (as:=as) λ j a ha=>by
   have hj:j < ks.length:=by rw[<-JC,<-Vz];exact(Ë.mp ha).1
   obtain⟨b,t,x,y,e1,_,_,e2⟩:=tup j hj
   rw[ha]at e1;cases e1
   exact⟨_,t,x,tupP h' kk _ _ e2⟩
  refine PySem.W.kat_kind (T:=.type "str") k1 (by rw[k3,Vz,JC];rw[hl]at h2;lia) (λ v hv=>?_) (by decide) ?_
  ·obtain⟨x,t,rfl⟩:=k2 v hv
   exact ZI rfl
  ·have e:(h_ "str" != h_ "tuple")=true:=by decide
   rw[e];exact hq
 ·intro h' kk i j C hi hj hC
  rw[hl]at hi hj
  obtain⟨a,t,x,y,e1,e2,e3,e4⟩:=tup i hi
  obtain⟨b,t',x',y',f1,f2,f3,f4⟩:=tup j hj
  have g1:(as.map ú).getD i ē=.ref a:=by rw[bC,ò,e1];rfl
  have g2:(as.map ú).getD j ē=.ref b:=by rw[bC,ò,f1];rfl
  rw[g1,g2]
  have c1:Nc (ks.getD i ⟨#[]⟩)=Nc ks[i]:=by rw[bC,Ñ hi];rfl
  have c2:Nc (ks.getD j ⟨#[]⟩)=Nc ks[j]:=by rw[bC,Ñ hj];rfl
  have hC:C (oS.blt (Nc ks[i]) (Nc ks[j])) { s with heap:=h',toks:=tk }:=by rw[<-c1,<-c2];exact hC
  refine PySem.W.kat_lt (tupP h' kk _ _ e4) rfl (tupP h' kk _ _ f4) rfl ?_
  refine Ir (eqBool_str ?_)
  by_cases Au:i=j
  ·subst Au
   rw[e1]at f1;cases f1
   rw[e4]at f4
   injection f4 with f4
   injection f4 with _ _ f4 _
   injection f4 with f4 _
   have f4:=Ě C4 f4
   simp at f4
   obtain⟨_,rfl⟩:=f4
   rw[o7]
   refine Mf (Ir (Bf (Mf (PySem.W.kat_nil ?_))))
   rw[oS.irrefl]at hC
   exact hC
  ·have Sk:(ks[i] == ks[j])=false:=by
    rw[kY]
    exact λ z=>Au ((iA nd).mp z)
   rw[Sk]
   exact PySem.W.kat_no (strKind_oneLt _ _ _ _ _ _ _ _ _ rfl rfl hC)
 ·-- the new heap
  let ts:Á HO:=(Ģ ks.length).map λ j=>.tup [.str (ks.getD j ⟨#[]⟩),((kvs[j]?).map (·.2)).getD .ĥ]
  let ws:Á V:=p.toList.map λ i=>.ref (as.getD i 0)
  let H':Hp:=λ b=>if b=h1.objs.size then À (.lst ws) else if b∈as then ts[as.idxOf b]? else H b
  have hold:∀ b u,s.heap.get? b=À u->b≠h1.objs.size:=λ b u e=>Ć (Ú (Qw b u e))
  have aan:∀ b∈as,b < h1.objs.size:=λ b hb=>hG.there hb
  have JD:∀ b u,s.heap.get? b=À u->b∉as:=λ b u e hb=>absurd (Ú e) (AF.mpr (Ŀ (hG.above b hb)))
  have Qy:∀ b,(∀ u,s.heap.get? b≠À u)->H b=none:=λ b hb=>by
   cases q0:H b with
   | none=>rfl
   | some o=>obtain⟨u,hu⟩:=(I.ar _ o q0).pU;exact absurd hu (hb u)
  have e0:H h1.objs.size=none:=Qy _ λ u e=>hold _ u e rfl
  have eas:∀ b∈as,H b=none:=λ b hb=>Qy _ λ u e=>JD _ u e hb
  have eH:∀ b o,H b=À o->H' b=À o:=λ b o e=>by
   obtain⟨u,hu⟩:=(I.ar _ o e).pU
   show(if b=h1.objs.size then À (.lst ws) else if b∈as then ts[as.idxOf b]? else H b)=_
   rw[Ó (hold b u hu),Ó (JD b u hu)];exact e
  have eat:∀ j (hj:j < ks.length),∃ a y,as[j]? = À a/\kvs[j]? = À (aJ ks[j],y)/\H' a=À (.tup [.str ks[j],y]):=λ j hj=>by
   obtain⟨a,t,x,y,g1,g2,g3,g4⟩:=tup j hj
   obtain⟨Y5,ga⟩:=Ë.mp g1
   refine⟨a,y,g1,g2,?_⟩
   have ma:a∈as:=Ŋ g1
   show(if a=h1.objs.size then À (.lst ws) else if a∈as then ts[as.idxOf a]? else H a)=_
   rw[Ó (Ć (aan a ma)),É ma]
   have:as.idxOf a=j:=by rw[<-ga];exact JK ndA Y5
   rw[this]
   simp[ts,hj,g2]
  have pr:p.toList.Perm (Ģ ks.length):=by
   have:=jM.mp p3
   rw[hl]at this
   simpa using this
  have pl:p.toList.length=ks.length:=by rw[pr.length_eq,MI]
  have plt:∀ i∈p.toList,i < ks.length:=λ i hi=>by simpa using pr.mem_iff.mp hi
  have srt:p.toList.map (λ i=>ks.getD i ⟨#[]⟩)=kQ ks:=by
   refine wu ?_ ?_
   ·have h5:=pr.map (λ i=>ks.getD i ⟨#[]⟩)
    have e5:(Ģ ks.length).map (λ i=>ks.getD i ⟨#[]⟩)=ks:=by
     apply PY
     ·simp
     ·intro i h6 h7
      simp[h7]
    rw[e5]at h5
    exact h5
   ·rw[MK,AD]
    intro i j hi hj Au
    rw[qD]
    have:=p1 i j (Ŀ Au) (by rw[hl,<-pl];exact hj)
    unfold Mm.fU at this
    have gi:p.getD i 0=p.toList[i]:=by rw[Ŕ,<-ĕ,Ñ hi];rfl
    have gj:p.getD j 0=p.toList[j]:=by rw[Ŕ,<-ĕ,Ñ hj];rfl
    rw[gi,gj]at this
    exact this
  refine Ê ⟨_,rfl,.ref h1.objs.size,H',?_,rfl,?_⟩
  ·obtain⟨ec,hec⟩:=sortedHeap_at hoL (out:=ı (p.toList.map λ i=>(as.map ú).getD i ē))
   have keep:∀ b u,h1.get? b=À u->(V3 (h1.push (a9 "list" (as.map ú).toArray 0)) h1.objs.size (as.map ú) (ı (p.toList.map λ i=>(as.map ú).getD i ē))).get? b=À u:=λ b u e=>by
    rw[sortedHeap_old (Ć (Ú e)) (by rw[ş];exact lZ (Ú e))]
    exact Å _ e
   refine I.grown (λ b u e=>keep b u (Qw b u e)) (λ b u e=>?_) λ b o e z=>?_
   ·show(if b=h1.objs.size then À (.lst ws) else if b∈as then ts[as.idxOf b]? else H b)=_
    rw[Ó (hold b u e),Ó (JD b u e)]
   ·have z:(if b=h1.objs.size then À (.lst ws) else if b∈as then ts[as.idxOf b]? else H b)=À o:=z
    by_cases hb:b=h1.objs.size
    ·rw[É hb]at z
     cases z
     subst hb
     refine⟨by show(p.toList.map λ i=>V.ref (as.getD i 0)).length<=_;rw[Æ,pl];exact Ŀ (Ş (by lia)),p.toList.map λ i=>(as.map ú).getD i ē,ec,?_,?_⟩
     ·have:∀ (l:Á Nat),(∀ i∈l,i < ks.length)->Vals (l.map λ i=>V.ref (as.getD i 0)) (l.map λ i=>(as.map ú).getD i ē):=by
       intro l
       induction l with
       | nil=>intro _;exact .nil
       | cons i r ih=>
        intro hi
        refine .cons ?_ (ih λ x hx=>hi x (Ċ _ hx))
        have h8:i < as.length:=by rw[Vz,JC];exact hi i Ġ
        show(as.map ú).getD i ē=ú (as.getD i 0)
        simp[h8]
      exact this _ plt
     ·rw[hec]
    ·rw[Ó hb]at z
     by_cases WG:b∈as
     ·rw[É WG]at z
      obtain⟨j,hj,gj⟩:=bc WG
      have Qv:j < ks.length:=by rw[<-JC,<-Vz];exact hj
      obtain⟨a,t,x,y,g1,g2,g3,g4⟩:=tup j Qv
      rw[Ñ hj,gj]at g1
      cases g1
      rw[show as.idxOf b=j by rw[<-gj];exact JK ndA hj]at z
      have:o=.tup [.str ks[j],y]:=by
       have:ts[j]? = À (.tup [.str ks[j],y]):=by simp[ts,Qv,g2]
       rw[this]at z
       exact(ă z).symm
      subst this
      exact⟨by show 2<=sizeLine;decide,[.str ks[j] t,x],.cons ⟨t,rfl⟩ (.cons g3 .nil),_,keep _ _ g4,rfl,0,rfl⟩
     ·rw[Ó WG]at z
      obtain⟨u,hu⟩:=(I.ar _ o z).pU
      rw[e]at hu;cases hu
  ·refine q h1.objs.size H' ws e0 eH (λ b hb=>?_) (by show(if h1.objs.size=h1.objs.size then À (HO.lst ws) else _)=_;rw[É rfl]) (by show(p.toList.map _).length=_;rw[Æ,pl]) λ j k Qv=>?_
   ·cases q0:H b with
    | none=>rfl
    | some o=>rw[eH b o q0]at hb;cases hb
   ·rw[<-srt,ò]at Qv
    cases Y2:p.toList[j]? with
    | none=>rw[Y2]at Qv;cases Qv
    | some i=>
     rw[Y2]at Qv
     have hi:i < ks.length:=plt i (Ŋ Y2)
     have hk2:ks[i]=k:=by
      have:ks.getD i ⟨#[]⟩=k:=ă Qv
      rw[<-this];simp[hi]
     obtain⟨a,y,g1,g2,g3⟩:=eat i hi
     rw[hk2]at g2 g3
     refine⟨a,y,?_,PK hk nd g2,eas a (Ŋ g1),g3⟩
     show(p.toList.map λ i=>V.ref (as.getD i 0))[j]? = _
     rw[ò,Y2]
     show À (V.ref (as.getD i 0))=_
     rw[bC,g1];rfl
end L2
namespace Mm
open PySem L2
def jJ:Á (Key × AV)->Í (Á Str)
 | []=>À []
 | (.inr x,_) :: r=>(jJ r).map (x :: ·)
 | _ :: _=>none
theorem tH:∀ {kvs:Á (Key × AV)}{ks:Á Str},jJ kvs=À ks->kvs.map (·.1)=ks.map aJ
 | [],_,h=>by cases h;rfl
 | (.inr x,v) :: r,ks,h=>by
  have h:(jJ r).map (x :: ·)=À ks:=h
  cases e:jJ r with
  | none=>rw[e]at h;cases h
  | some q=>rw[e]at h;cases h;rw[È,tH e];rfl
 | (.inl x,v) :: r,ks,h=>by cases h
def aai (m:Ev):jQ:=λ env s=>(m env s).bind λ v s1=>match v with
 | .ref i=>need (mx s1 i) λ kvs=>need (jJ kvs) λ ks=>if ks.length < 64 then .ok ((kQ ks).map .str) s1 else .bad
 | _=>.bad
def vq (m:Ev):jQ:=λ env s=>(m env s).bind λ v s1=>match v with
 | .ref i=>need (mx s1 i) λ kvs=>need (jJ kvs) λ ks=>if ks.length < 64 then .ok ((kQ ks).map λ k=>.tup [.str k,(fY kvs (.inr k)).getD .ĥ]) s1 else .bad
 | _=>.bad
section
variable {T:Tx}{XE:ia}{X:Cx}{pos:ki}
theorem J7 (hm:X.mg "sorted"=none)(h:PE X e (tE T XE m)) (hcm:X.calm=true:=by rfl)(hg:Gl X "sorted":=by rfl)
  (kH:dS e "items" X.env (Ŝ e X.env)=Ŝ e X.env:=by rfl) (kI:(ap.endLine == cp.line)=true:=by rfl)
  (he:à [.Call (.Attribute e "items" ap) [] [] cp] X.env=(false,Ŝ (.Call (.Attribute e "items" ap) [] [] cp) X.env) :: à [] X.env:=by rfl) (nc:(aO pos (à [] X.env)).any (·.1)=false:=by rfl) :
  PE X (.Call (.Name "sorted" p) [.Call (.Attribute e "items" ap) [] [] cp] [] pos) (tL T XE (vq m)):=
 PE.imp (kO (A4 hcm) hg hm uq (fM (Kw k8 Ak PySem.F.type_dict_items Ka h kH kI) lO he) (by decide) (by decide) he nc) λ σ H Q zz=>Ŵ zz λ ρ env s hs he ho=>
  step hs he ho λ v s1 ī H1 x _ u1 Ŧ df ŧ Ĥ=>by
   cases v with
   | ref i=>
    obtain⟨kvs,e1,Ĥ⟩:=Ĥ.Ē
    obtain⟨ks,e2,Ĥ⟩:=Ĥ.Ē
    obtain⟨hl,Ĥ⟩:=Ĥ.ų
    obtain⟨a,qs,rfl,ea,h1,q1,q2⟩:=Ŧ.vg (jy e1) ŧ
    refine⟨.inr (.inr (.inl ⟨rfl,.inl ⟨qs,h1⟩⟩)),a,qs,rfl,rfl,h1,λ v hv=>?_⟩
    refine⟨v,a,qs,ks,rfl,Į,by rw[ÿ (Ū h1 hv)];exact h1,by rw[<-q1];exact tH e2,hl,λ l H' ws Si k1 k2 k3 k4 k5=>?_⟩
    have old:∀ b o,H1 b=À o->H' b=À o:=λ b o e=>k1 b o (by rw[ÿ (Ū e hv)];exact e)
    have Qx:H1 l=none:=by
     by_cases JC:l=v
     ·rw[JC];exact hv
     ·rw[ÿ JC]at Si;exact Si
    have up:Up ī H1 ī H':=⟨⟨a7,λ b xs e=>old b _ e,λ b o u e=>old b _ e⟩,λ b o e n=>⟨old b o e,n⟩,λ b e=>by
     have:=k2 b e
     by_cases WI:b=v
     ·rw[WI];exact hv
     ·rw[ÿ WI]at this;exact this⟩
    have jk:SR T ī s1 H':=Ŧ.up up.toGr λ b hb=>by
     obtain⟨u,hu⟩:=Ŧ.in hb
     rw[hu];exact old b u hu
    refine Ĥ ī H' (.ref l) up jk ⟨l,ws,rfl,Qx,Ŧ.out Qx,k3,?_⟩
    have len:(kQ ks).length=ws.length:=by rw[(bY ks).length_eq,k4]
    have all:∀ (Yb:Á Str) (PR:Á V),Yb.length=PR.length->(∀ (j:Nat) (k:Str),Yb[j]? = À k->∃ a' x,PR[j]? = À (.ref a')/\lU qs (aJ k)=À x/\H' a'=À (.tup [.str k,x]))->Ĵ T ī H' (Yb.map λ k=>AV.tup [.str k,(fY kvs (.inr k)).getD .ĥ]) PR:=by
     intro Yb
     induction Yb with
     | nil=>intro PR Br _;cases PR with|nil=>exact .nil|cons _ _=>simp at Br
     | cons k r ih=>
      intro PR Br g
      cases PR with
      | nil=>simp at Br
      | cons w PR=>
       obtain⟨a',x,f1,f2,f3⟩:=g 0 k rfl
       simp at f1
       subst f1
       refine .cons (ja (iP.of f3) (.cons sO (.one ?_))) (ih PR (by simpa using Br) λ j k' hj=>g (j+1) k' (by simpa using hj))
       cases ev:fY kvs (.inr k) with
       | none=>rw[(iN (.inr k) q1 q2).2 ev]at f2;cases f2
       | some v'=>
        obtain⟨x',ex,kx⟩:=(iN (.inr k) q1 q2).1 v' ev
        rw[f2]at ex;cases ex
        exact VR.up up kx
    exact all _ _ len λ j k hj=>by
     obtain⟨a',x,f1,f2,_,f3⟩:=k5 j k hj
     exact⟨a',x,f1,f2,f3⟩
   | _=>exact Ĥ.elim
end
end Mm
namespace Ro
open PySem L2 Mm
theorem boot_min:č "min"=À (.builtin "min"):=by decide +kernel
theorem boot_sum:č "sum"=À (.builtin "sum"):=by decide +kernel
def Qn (env:En):Nat:=match (env[(1:Nat)]?:Í (Í AV)) with
 | some (À (.int i))=>i.natAbs+1
 | _=>0
def Qo (env:En):Nat:=match (env[(4:Nat)]?:Í (Í AV)) with
 | some (À (.int i))=>i.natAbs+1
 | _=>0
def fj:AV:=.tup [.int 0,.int 1]
def Fp:AV:=.tup [.int 1,.int 1]
def aG:AV:=.tup [.str "of",.str "steps"]
def eS:Ms:=
 (ì (pS 0 1 (Ã (kl tj (Ã (mv 0) Ð)) (Ã (kl tj (Ã (mv 1) Ð)) Ð)))
 (ì (HG (λ env _=>Qn env) (cB (Ö aS (mv 1) (mc (.int 0)))) (pS 0 1 (Ã (mv 1) (Ã (Ö fL (mv 0) (mv 1)) Ð))))
 (ě (mv 0))))
def ĝ:Á AV->S->R AV:=g_ 2 eS
def jT:Ms:=
 (ì (Ī 2 (Ø 2 ĝ (Ã (mv 0) (Ã (mv 1) Ð))))
 (ì (eL (cB (Ö nC (mv 1) (mc (.int 0)))) (Ī 2 (gR eA (mv 2))) Ľ)
 (ě (Ō (Ã (Ö cU (mv 0) (mv 2)) (Ã (Ö cU (mv 1) (mv 2)) Ð))))))
def bU:Á AV->S->R AV:=g_ 3 jT
def Dl:Ms:=
 (ì (mC (mv 0) (gT 2 (Ù (gN 5) (Ù (gN 6) ę))))
 (ì (mC (mv 1) (gT 2 (Ù (gN 7) (Ù (gN 8) ę))))
 (ì (Ī 2 (Ø 2 ĝ (Ã (mv 6) (Ã (mv 8) Ð))))
 (ì (Ī 3 (Ö aj (Ö cO (mv 5) (Ö cU (mv 8) (mv 2))) (Ö cO (mv 7) (Ö cU (mv 6) (mv 2)))))
 (ì (Ī 4 (Ø 2 ĝ (Ã (mv 3) (Ã (mv 2) Ð))))
 (ě (Ō (Ã (Ö cU (mv 3) (mv 4)) (Ã (Ö cO (Ö cU (mv 6) (mv 2)) (Ö cU (mv 8) (mv 4))) Ð)))))))))
def pC:Á AV->S->R AV:=g_ 9 Dl
def uY:Ms:=
 (ì (Ī 1 (mc fj))
 (ì (gD (Ĳ (mv 0)) (gN 2) (Ī 1 (Ø 2 pC (Ã (mv 1) (Ã (mv 2) Ð)))))
 (ě (mv 1))))
def cM:Á AV->S->R AV:=g_ 3 uY
def lA:Ms:=
 (ě (Ø 2 pC (Ã (mv 1) (Ã (Ō (Ã (gR eA (Ö Ħ (mv 0) (mc (.int 0)))) (Ã (Ö Ħ (mv 0) (mc (.int 1))) Ð))) Ð))))
def cE:Á AV->S->R AV:=g_ 2 lA
def lz:Ms:=
 (ì (Ī 2 (Ø 2 ĝ (Ã (Ö Ħ (mv 0) (mc (.int 0))) (Ã (Ö Ħ (mv 1) (mc (.int 1))) Ð))))
 (ì (Ī 3 (Ø 2 ĝ (Ã (Ö Ħ (mv 1) (mc (.int 0))) (Ã (Ö Ħ (mv 0) (mc (.int 1))) Ð))))
 (ě (Ō (Ã (Ö cO (Ö cU (Ö Ħ (mv 0) (mc (.int 0))) (mv 2)) (Ö cU (Ö Ħ (mv 1) (mc (.int 0))) (mv 3))) (Ã (Ö cO (Ö cU (Ö Ħ (mv 0) (mc (.int 1))) (mv 3)) (Ö cU (Ö Ħ (mv 1) (mc (.int 1))) (mv 2))) Ð))))))
def bL:Á AV->S->R AV:=g_ 4 lz
def n6:Ms:=
 (ì (mC (mv 0) (gT 3 (Ù (gN 2) (Ù (gN 3) (Ù (gN 4) ę)))))
 (ì (eL (cB (Ö cz (mv 2) (mc (.str "of")))) (ě (mv 4)) Ľ)
 (ì (gD (Ĳ (Ij (mv 4) oN (oS (gR eA (mc (.int 1)))))) (gT 2 (Ù (gN 5) (Ù (gN 6) ę))) (eL (cB (Ö nC (mv 1) (mv 5))) (ě (mv 6)) Ľ))
 (ě (Ö Ħ (Ö Ħ (mv 4) (gR eA (mc (.int 1)))) (mc (.int 1)))))))
def ff:Á AV->S->R AV:=g_ 7 n6
def dM:Ms:=
 (ě (Ę (Œ [("row",none),("unit",À 1)] (Ĳ (mv 0)) (gN 0) (cB (Ö BV (Ö Ħ (mv 0) (mc (.int 0))) (mc aG))) (Ō (Ã (Ö Ħ (mv 0) (mc (.int 1))) (Ã (Ø 2 ff (Ã (mv 0) (Ã (mv 1) Ð))) Ð))))))
def ſ:Á AV->S->R AV:=g_ 2 dM
def jU:Ms:=
 (ì (Ī 2 (Ę (aL Ð)))
 (ì (gD (Ĳ (mv 0)) (gT 3 (Ù (gN 3) (Ù (gN 4) (Ù (gN 5) ę)))) (eL (cB (Ö cz (mv 3) (mc (.str "left")))) (ì (Ī 6 (Ø 2 bL (Ã (mv 1) (Ã (mv 5) Ð))))
 (ì (tD (pN "list" cN (mv 2) (Ã (Ō (Ã (mv 4) (Ã (mv 6) Ð))) Ð)))
 (Ī 1 (Ø 2 cE (Ã (mv 6) (Ã (mv 1) Ð)))))) Ľ))
 (ě (Ō (Ã (mv 2) (Ã (mv 1) Ð))))))
def cQ:Á AV->S->R AV:=g_ 7 jU
def ie:Ms:=
 (ì (Ī 2 (Ę (Œ [("kind",none),("name",none),("length",none)] (Ĳ (mv 0)) (gT 3 (Ù (gN 0) (Ù (gN 1) (Ù (gN 2) ę)))) (cB (Ö cz (mv 0) (mc (.str "length")))) (Ō (Ã (mv 1) (Ã (mv 2) Ð))))))
 (ì (eL (dO (cT (mv 2))) (ě (Ō (Ã (Ę (aL Ð)) (Ã (mv 1) Ð)))) Ľ)
 (ì (Ī 3 (mI O3 (Œ [("name",none),("length",none)] (Ĳ (mv 2)) (gT 2 (Ù (gN 0) (Ù (gN 1) ę))) de (mv 1))))
 (ě (Ō (Ã (Ę (Œ [("name",none),("length",none),("rest",À 1),("together",À 3)] (Ĳ (mv 2)) (gT 2 (Ù (gN 0) (Ù (gN 1) ę))) de (Ō (Ã (mv 0) (Ã (Ø 2 bL (Ã (mv 2) (Ã (Ø 2 bU (Ã (mv 1) (Ã (mv 3) Ð))) Ð))) Ð))))) (Ã (mc fj) Ð)))))))
def bD:Á AV->S->R AV:=g_ 4 ie
def ly:Ms:=
 (ì (Ī 2 (Ę (aH (Ø 2 ſ (Ã (mv 0) (Ã (mv 1) Ð))))))
 (ì (Ī 3 (Ø 2 cE (Ã (pD (Ø 1 cM (Ã (Ę (Œ [("name",none),("share",none)] (Ĳ (mv 2)) (gT 2 (Ù (gN 0) (Ù (gN 1) ę))) de (mv 1))) Ð))) (Ã (mc Fp) Ð))))
 (ì (mC (Ø 2 cQ (Ã (mv 0) (Ã (mv 3) Ð))) (gT 2 (Ù (gN 4) (Ù (gN 3) ę))))
 (ì (mC (Ø 2 bD (Ã (mv 0) (Ã (mv 3) Ð))) (gT 2 (Ù (gN 5) (Ù (gN 3) ę))))
 (ě (Ō (Ã (Ö aj (Ö aj (mv 2) (mv 4)) (mv 5)) (Ã (mv 3) Ð))))))))
def cD:Á AV->S->R AV:=g_ 6 ly
def pk:Ms:=
 (ì (Ī 1 S0)
 (ì (gD (Ĳ (mv 0)) (gT 2 (Ù (gN 2) (Ù (gN 3) ę))) (qX (mv 1) (mv 2) (pD (Ø 1 cM (Ã (Ę (aL (Ã (oU (mv 1) (mv 2) (mc fj)) (Ã (mv 3) Ð)))) Ð)))))
 (ě (Ę (Œ [("name",none),("part",none)] (xw (vq (mv 1))) (gT 2 (Ù (gN 0) (Ù (gN 1) ę))) (cB (Ö aS (mv 1) (mc fj))) (Ō (Ã (mv 0) (Ã (mv 1) Ð))))))))
def gm:Á AV->S->R AV:=g_ 4 pk
def pq:Ms:=
 (ì (mC (Ø 2 cD (Ã (mv 0) (Ã (mv 1) Ð))) (gT 2 (Ù (gN 2) (Ù (gN 3) ę))))
 (ě (Ę (aH (Ø 1 gm (Ã (mv 2) Ð))))))
def Đ:Á AV->S->R AV:=g_ 4 pq
def lh:Ms:=
 (ì (Ī 1 (Ę (mI FO (Hf (Ij (mv 0) oN (oS (mc (.int 63))))))))
 (ì (eL (zl (cB (Ö cz (mv 1) (Ę (aL Ð))))) (Ī 1 (Ę (aL (Ã (mc (.int 7)) Ð)))) Ľ)
 (ě (yr [((mc (.str "cells")),(mv 1)),((mc (.str "turn")),(mc (.int 0)))]))))
def dE:Á AV->S->R AV:=g_ 2 lh
def mT:Ms:=
 (ì (Ī 2 (Ö aj (Ö ny (mv 0) (mc (.str "turn"))) (mc (.int 1))))
 (ì (qX (mv 0) (mc (.str "turn")) (mv 2))
 (ì (Ī 3 (Ö fL (mv 2) (kl cZ (Ã (Ö ny (mv 0) (mc (.str "cells"))) Ð))))
 (ì (Ī 4 (Ö Ħ (Ö ny (mv 0) (mc (.str "cells"))) (mv 3)))
 (ì (eL (cB (Ö Kr (mv 4) (Ö BX (mc (.int 10)) (mc (.int 18))))) (ì (mC (kl nz (Ã (mv 4) (Ã (mv 1) Ð))) (gT 2 (Ù (m4 (Ö ny (mv 0) (mc (.str "cells"))) (mv 3)) (Ù (gN 6) ę))))
 (ě (mv 6))) Ľ)
 (ì (Ī 5 (Ö fL (Ö cO (Ö aj (Ö aj (Ö fL (mv 4) (mc (.int 2147483629))) (Ö cO (Ö cO (mv 2) (mv 2)) (mc (.int 7919)))) (mc (.int 11))) (mc (.int 48271))) (mc (.int 2147483647))))
 (ì (Ī 5 (Ö fL (Ö cO (mv 5) (mv 5)) (mc (.int 2147483587))))
 (ě (Ö fL (Ö cU (Ö fL (Ö cO (Ö aj (mv 5) (Ö cO (mv 2) (mc (.int 104729)))) (mc (.int 39373))) (mc (.int 2147483629))) (mc (.int 64))) (mv 1))))))))))
def ë:Á AV->S->R AV:=g_ 7 mT
def eW (rf:Á AV->S->R AV):Ms:=
 (ì (eL (cB (Ö tm (mv 1) (mc .ĥ))) (ě (Ö tm (mv 0) (mc .ĥ))) Ľ)
 (ì (eL (rG (cT (gR (aR "list") (mv 1))) (cT (gR (aR "tuple") (mv 1)))) (ì (eL (cB (Ö aS (gR (aR "list") (mv 0)) (gR (aR "list") (mv 1)))) (ě (mc (.bl false))) Ľ)
 (ì (eL (rG (cB (Ö aS (gR (aR "tuple") (mv 0)) (gR (aR "tuple") (mv 1)))) (cB (Ö aS (kl cZ (Ã (mv 0) Ð)) (kl cZ (Ã (mv 1) Ð))))) (ě (mc (.bl false))) Ľ)
 (ě (mI ug (Œ [("_law_one",none),("_law_other",none)] (HN (mv 0) (mv 1)) (gT 2 (Ù (gN 0) (Ù (gN 1) ę))) de (Ø 2 rf (Ã (mv 0) (Ã (mv 1) Ð)))))))) Ľ)
 (ì (eL (cT (gR (aR "str") (mv 1))) (ě (mz (gR (aR "str") (mv 0)) (Ö cz (mv 0) (mv 1)))) Ľ)
 (ě (mz (gR (aR "int") (mv 0)) (mz (gR we (gR (aR "bool") (mv 0))) (Ö cz (mv 0) (mv 1))))))))
def ć:Nat->Á AV->S->R AV
 | 0=>λ _ _=>.bad
 | n+1=>g_ 2 (eW (ć n))
def jS:Ms:=
 (ì (pS 3 4 (Ã (kl tj (Ã (mv 0) Ð)) (Ã (kl tj (Ã (mv 1) Ð)) Ð)))
 (ì (HG (λ env _=>Qo env) (cB (Ö uf (mv 4) (mc (.int 0)))) (pS 3 4 (Ã (mv 4) (Ã (Ö fL (mv 3) (mv 4)) Ð))))
 (ì (Ī 2 (Xj (cB (Ö nC (mv 1) (mc (.int 0)))) (gR eA (mc (.int 1))) (mc (.int 1))))
 (ě (Ō (Ã (Ö cU (Ö cO (mv 2) (mv 0)) (mv 3)) (Ã (Ö cU (Ö cO (mv 2) (mv 1)) (mv 3)) Ð)))))))
def Ś:Á AV->S->R AV:=g_ 5 jS
def pj:Ms:=
 (ì (mC (Ō (Ã (mc (.int 0)) (Ã (mc (.int 1)) Ð))) (gT 2 (Ù (gN 1) (Ù (gN 2) ę))))
 (ì (gD (Ĳ (mv 0)) (gT 2 (Ù (gN 3) (Ù (gN 4) ę))) (mC (Ø 2 Ś (Ã (Ö aj (Ö cO (mv 1) (mv 4)) (Ö cO (mv 3) (mv 2))) (Ã (Ö cO (mv 2) (mv 4)) Ð))) (gT 2 (Ù (gN 1) (Ù (gN 2) ę)))))
 (ě (Ō (Ã (mv 1) (Ã (mv 2) Ð))))))
def ao:Á AV->S->R AV:=g_ 5 pj
def lu:Ms:=
 (ě (Ø 2 Ś (Ã (Ö cO (Ö Ħ (mv 0) (mc (.int 0))) (Ö Ħ (mv 1) (mc (.int 0)))) (Ã (Ö cO (Ö Ħ (mv 0) (mc (.int 1))) (Ö Ħ (mv 1) (mc (.int 1)))) Ð))))
def aw:Á AV->S->R AV:=g_ 2 lu
def lr:Ms:=
 (ì (Ī 2 (Ę (Jq "str" qR (mc (.str "b aa zebra c quartzes ab m knows d mm likes z ba abcdefgh y zz e x f g hh jj kk pave")) (Ã (mc (.str " ")) Ð))))
 (ě (Ę (Œ [("_law_turn",none),("_law_some",À 2),("_law_state",À 0)] (sL (Ã (mv 1) Ð)) (gN 0) de (pN "list" tq (mv 1) (Ã (Ø 2 ë (Ã (mv 2) (Ã (kl cZ (Ã (mv 1) Ð)) Ð))) Ð))))))
def dF:Á AV->S->R AV:=g_ 3 lr
def mR:Ms:=
 (ì (Ī 1 (Ar (Ö Ħ (Ę (aL (Ã (mc (.int 2)) (Ã (mc (.int 3)) (Ã (mc (.int 4)) (Ã (mc (.int 5)) (Ã (mc (.int 10)) (Ã (Ö aj (mc (.int 1)) (Ø 2 ë (Ã (mv 0) (Ã (mc (.int 60)) Ð)))) Ð)))))))) (Ø 2 ë (Ã (mv 0) (Ã (mc (.int 6)) Ð))))))
 (ě (Ø 2 Ś (Ã (Ö aj (mc (.int 1)) (Ø 2 ë (Ã (mv 0) (Ã (mv 1) Ð)))) (Ã (mv 1) Ð)))))
def eY:Á AV->S->R AV:=g_ 2 mR
def ph:Ms:=
 (ì (Ī 3 (Ø 2 ë (Ã (mv 0) (Ã (mc (.int 8)) Ð))))
 (ì (eL (cB (Ö uf (mv 3) (mc (.int 5)))) (ě (Ō (Ã (Ō (Ã (mc (.str "length")) (Ã (mv 1) (Ã (Ö aj (mc (.int 1)) (Ø 2 ë (Ã (mv 0) (Ã (Ar (Ö Ħ (Ę (aL (Ã (mc (.int 5)) (Ã (mc (.int 1000)) Ð)))) (Ø 2 ë (Ã (mv 0) (Ã (mc (.int 2)) Ð))))) Ð)))) Ð)))) (Ã (mc (.int 0)) Ð)))) Ľ)
 (ì (eL (rG (cB (Ö uf (mv 3) (mc (.int 3)))) (cB (Ö cz (mv 2) (mc (.int 0))))) (ě (Ō (Ã (Ō (Ã (mc (.str "left")) (Ã (mv 1) (Ã (Ø 1 eY (Ã (mv 0) Ð)) Ð)))) (Ã (mc (.int 0)) Ð)))) Ľ)
 (ì (Ī 4 (Ö aj (mc (.int 1)) (Ø 2 ë (Ã (mv 0) (Ã (kl BW (Ã (mv 2) (Ã (Ar (Ö Ħ (Ę (aL (Ã (mc (.int 12)) (Ã (mc (.int 60)) Ð)))) (Ö cU (Ø 2 ë (Ã (mv 0) (Ã (mc (.int 3)) Ð))) (mc (.int 2))))) Ð))) Ð)))))
 (ì (eL (cB (Ö uf (mv 3) (mc (.int 1)))) (ě (Ō (Ã (Ō (Ã (mc (.str "of")) (Ã (mv 1) (Ã (Ø 2 Ś (Ã (mv 4) (Ã (mc (.int 60)) Ð))) Ð)))) (Ã (mv 4) Ð)))) Ľ)
 (ì (Ī 5 (Ę (aL Ð)))
 (ì (Ī 6 (mc (.int 0)))
 (ì (gD (sL (Ã (Ö aj (mc (.int 1)) (Ø 2 ë (Ã (mv 0) (Ã (mc (.int 3)) Ð)))) Ð)) (gN 7) (ì (Ī 6 (Ö aj (Ö aj (mv 6) (mc (.int 1))) (Ø 2 ë (Ã (mv 0) (Ã (Ar (Ö Ħ (Ę (aL (Ã (mc (.int 3)) (Ã (mc (.int 9)) (Ã (Ö BX (mc (.int 10)) (mc (.int 5))) Ð))))) (Ø 2 ë (Ã (mv 0) (Ã (mc (.int 3)) Ð))))) Ð)))))
 (tD (pN "list" cN (mv 5) (Ã (Ō (Ã (mv 6) (Ã (Ø 2 Ś (Ã (Ö aj (mc (.int 1)) (Ø 2 ë (Ã (mv 0) (Ã (mv 4) Ð)))) (Ã (mc (.int 60)) Ð))) Ð))) Ð)))))
 (ì (tD (pN "list" cN (mv 5) (Ã (Ō (Ã (mc .ĥ) (Ã (Ø 2 Ś (Ã (Ö aj (mc (.int 1)) (Ø 2 ë (Ã (mv 0) (Ã (mv 4) Ð)))) (Ã (mc (.int 60)) Ð))) Ð))) Ð)))
 (ě (Ō (Ã (Ō (Ã (mc (.str "steps")) (Ã (mv 1) (Ã (mI iu (Hf (mv 5))) Ð)))) (Ã (mv 4) Ð)))))))))))))
def gh:Á AV->S->R AV:=g_ 8 ph
def mS:Ms:=
 (ì (Ī 3 (mc (.int 60)))
 (ì (Ī 4 (Ę (aL Ð)))
 (ì (gD (sL (Ã (Ö cO (mv 2) (kl oV (Ã (pD (Ö aS (mv 1) (Ę (aL Ð)))) Ð))) Ð)) (gN 5) (ì (mC (Ø 3 gh (Ã (mv 0) (Ã (Ö Ħ (mv 1) (Ø 2 ë (Ã (mv 0) (Ã (kl cZ (Ã (mv 1) Ð)) Ð)))) (Ã (mv 3) Ð)))) (gT 2 (Ù (gN 6) (Ù (gN 7) ę))))
 (ì (Ī 3 (Ö tu (mv 3) (mv 7)))
 (eL (rG (cB (Ö aS (Ö Ħ (mv 6) (mc (.int 0))) (mc (.str "left")))) (cB (Ö nC (pD (pN "list" qQ (Ę (Œ [("_law_one",none)] (Ĳ (mv 4)) (gN 0) de (Ö Ħ (mv 0) (mc (.int 0))))) (Ã (mc (.str "left")) Ð))) (mc (.int 3))))) (tD (pN "list" cN (mv 4) (Ã (mv 6) Ð))) Ľ))))
 (ě (mI iu (Hf (mv 4)))))))
def eZ:Á AV->S->R AV:=g_ 8 mS
def gb:Ms:=
 (ì (Ī 1 (Ar (Ö Ħ (Ę (aL (Ã (Ø 2 ë (Ã (mv 0) (Ã (mc (.int 5)) Ð))) (Ã (Ø 2 ë (Ã (mv 0) (Ã (mc (.int 9)) Ð))) Ð)))) (kl oV (Ã (Ö cz (Ø 2 ë (Ã (mv 0) (Ã (mc (.int 6)) Ð))) (mc (.int 0))) Ð)))))
 (ě (Ar (Ø 3 eZ (Ã (mv 0) (Ã (Ę (aH (Ø 2 dF (Ã (mv 0) (Ã (Ö aj (mc (.int 1)) (Ø 2 ë (Ã (mv 0) (Ã (mc (.int 5)) Ð)))) Ð))))) (Ã (mv 1) Ð)))))))
def a_:Á AV->S->R AV:=g_ 2 gb
end Ro
namespace Mm
open PySem L2
theorem p7 (h:n<=1000):n<=sizeLine:=Ŀ (Ş h)
def R.wp {α:Type}:R α->(α->S->Prop)->Prop
 | .ok a s,Q=>Q a s
 | _,_=>False
def RS.wp:RS->(En->S->Prop)->(AV->S->Prop)->Prop
 | .nx e s,N,_=>N e s
 | .rt v s,_,T=>T v s
 | _,_,_=>False
theorem R.wp.mono {m:R α}(h:m.wp Q)(k:∀ a s,Q a s->Q' a s):m.wp Q':=by
 cases m with
 | ok a s=>exact k a s h
 | ex c s=>exact h.elim
 | bad=>exact h.elim
theorem RS.wp.mono {m:RS}(h:m.wp N T)(k:∀ a s,N a s->N' a s)(l:∀ a s,T a s->T' a s):m.wp N' T':=by
 cases m with
 | nx a s=>exact k a s h
 | rt a s=>exact l a s h
 | _=>exact h.elim
theorem R.wp.get {m:R α}(h:m.wp Q):∃ a s,m=.ok a s/\Q a s:=by
 cases m with
 | ok a s=>exact⟨a,s,rfl,h⟩
 | ex c s=>exact h.elim
 | bad=>exact h.elim
theorem R.wp.eq {m:R α}(h:m.wp (λ a s'=>a=v/\s'=s)):m=.ok v s:=by
 obtain⟨a,s',e,rfl,rfl⟩:=h.get;exact e
theorem LP (a:α)(s:S)(Q:α->S->Prop):(R.ok a s).wp Q=Q a s:=rfl
theorem wp_bind (m:R α)(f:α->S->R β)(Q:β->S->Prop):(m.bind f).wp Q=m.wp λ a s=>(f a s).wp Q:=by
 cases m<;>rfl
theorem dy (m:R α)(f:α->S->RS)(N:En->S->Prop)(T:AV->S->Prop):(m.eX f).wp N T=m.wp λ a s=>(f a s).wp N T:=by
 cases m<;>rfl
theorem jK (m:R α)(Q:α->S->Prop):m.calm.wp Q=m.wp Q:=by
 cases m<;>rfl
theorem LO (e:En)(s:S)(N:En->S->Prop)(T:AV->S->Prop):(RS.nx e s).wp N T=N e s:=rfl
theorem kW {α:Type}(c:Prop){_:aN c}(m:R α)(Q:α->S->Prop):(if c then m else .bad).wp Q=(c/\m.wp Q):=by
 by_cases h:c
 ·rw[É h];exact gO ⟨λ k=>⟨h,k⟩,λ k=>k.2⟩
 ·rw[Ó h];exact gO ⟨λ k=>k.elim,λ k=>(h k.1).elim⟩
theorem UQ (c:Prop){_:aN c}(m:RS)(N:En->S->Prop)(T:AV->S->Prop):(if c then m else .bad).wp N T=(c/\m.wp N T):=by
 by_cases h:c
 ·rw[É h];exact gO ⟨λ k=>⟨h,k⟩,λ k=>k.2⟩
 ·rw[Ó h];exact gO ⟨λ k=>k.elim,λ k=>(h k.1).elim⟩
theorem uN (c:Prop){_:aN c}{α:Type}(m n:R α)(Q:α->S->Prop):(if c then m else n).wp Q=if c then m.wp Q else n.wp Q:=by
 by_cases h:c
 ·rw[É h,É h]
 ·rw[Ó h,Ó h]
theorem LN (c:Prop){_:aN c}(m n:RS)(N:En->S->Prop)(T:AV->S->Prop):(if c then m else n).wp N T=if c then m.wp N T else n.wp N T:=by
 by_cases h:c
 ·rw[É h,É h]
 ·rw[Ó h,Ó h]
theorem uO (x:γ)(f:γ->R α)(Q:α->S->Prop):(need (À x) f).wp Q=(f x).wp Q:=rfl
theorem î:(([]:Á AV).length<=sizeLine)=True/\(∀ a:AV,([a].length<=sizeLine)=True)/\(∀ a b:AV,([a,b].length<=sizeLine)=True)/\(∀ a b c:AV,([a,b,c].length<=sizeLine)=True)/\
  (∀ a b c d e f:AV,([a,b,c,d,e,f].length<=sizeLine)=True)/\
  (([]:Á AV).length=0)=True/\(∀ a:AV,([a].length=1)=True)/\(∀ a b:AV,([a,b].length=2)=True)/\(∀ a b c:AV,([a,b,c].length=3)=True):=by
 refine⟨?_,?_,?_,?_,?_,?_,?_,?_,?_⟩<;>intros<;>first|exact YT rfl|exact YT (p7 (by show(_:Nat)<=1000;simp))
theorem WS :
  (∀ (a b:Ms) (env:En) (s:S) (N:En->S->Prop) (T:AV->S->Prop),(ì a b env s).wp N T=(a env s).wp (λ e s1=>(b e s1).wp N T) T)/\
  (∀ (i:Nat) (m:Ev) (env:En) (s:S) (N:En->S->Prop) (T:AV->S->Prop),(Ī i m env s).wp N T=(m env s).wp λ v s1=>N (env.set i (À v)) s1)/\
  (∀ (m:Ev) (env:En) (s:S) (N:En->S->Prop) (T:AV->S->Prop),(ě m env s).wp N T=(m env s).wp T)/\
  (∀ (c:Eb) (a b:Ms) (env:En) (s:S) (N:En->S->Prop) (T:AV->S->Prop),(eL c a b env s).wp N T=(c env s).wp λ k s1=>if k=true then (a env s1).wp N T else (b env s1).wp N T)/\
  (∀ (m:Ev) (env:En) (s:S) (N:En->S->Prop) (T:AV->S->Prop),(tD m env s).wp N T=(m env s).wp λ _ s1=>N env s1)/\
  (∀ (m:Ev) (g:Mt) (env:En) (s:S) (N:En->S->Prop) (T:AV->S->Prop),(mC m g env s).wp N T=(m env s).wp λ v s1=>(g v env s1).wp N T)/\
  (∀ (i j:Nat) (a b:Ev) (env:En) (s:S) (N:En->S->Prop) (T:AV->S->Prop),(pS i j (Ã a (Ã b Ð)) env s).wp N T=(a env s).wp λ v s1=>(b env s1).wp λ w s2=>N ((env.set i (À v)).set j (À w)) s2)/\
  (∀ (env:En) (s:S) (N:En->S->Prop) (T:AV->S->Prop),(Ľ env s).wp N T=N env s)/\
  (∀ (src:Src) (bO:Mt) (b:Ms) (env:En) (s:S) (N:En->S->Prop) (T:AV->S->Prop),(gD src bO b env s).wp N T=(src env s).wp λ p s1=>(forL bO b p.2 p.1 env s1).wp N T)/\
  (∀ (d y v:Ev) (env:En) (s:S) (N:En->S->Prop) (T:AV->S->Prop),(qX d y v env s).wp N T=(v env s).wp λ a s1=>(d env s1).wp λ b s2=>(y env s2).wp λ c s3=>(putD a b c env s3).wp N T)/\
  (∀ (i:Nat) (v:AV) (env:En) (s:S) (N:En->S->Prop) (T:AV->S->Prop),(gN i v env s).wp N T=N (env.set i (À v)) s)/\
  (∀ (n:Nat) (r:Mp) (vs:Á AV) (env:En) (s:S) (N:En->S->Prop) (T:AV->S->Prop),(gT n r (.tup vs) env s).wp N T=(vs.length=n/\(r vs env s).wp N T))/\
  (∀ (i:Nat) (r:Mp) (v:AV) (w:Á AV) (env:En) (s:S) (N:En->S->Prop) (T:AV->S->Prop),(Ù (gN i) r (v :: w) env s).wp N T=(r w (env.set i (À v)) s).wp N T)/\
  (∀ (env:En) (s:S) (N:En->S->Prop) (T:AV->S->Prop),(ę [] env s).wp N T=N env s)/\
  (∀ (o i:Ev) (r:Mp) (v:AV) (w:Á AV) (env:En) (s:S) (N:En->S->Prop),(Ù (m4 o i) r (v :: w) env s).wp N (λ _ _=>False)=(m4 o i v env s).wp (λ e s1=>(r w e s1).wp N (λ _ _=>False)) (λ _ _=>False))/\
  (∀ (n:Nat) (b:Ms) (v:AV) (s:S) (Q:AV->S->Prop),(g_ n b [v] s).wp Q=(b (À v :: Ü (n - 1) none) s).wp (λ _ s1=>Q .ĥ s1) Q)/\
  (∀ (n:Nat) (b:Ms) (v w:AV) (s:S) (Q:AV->S->Prop),(g_ n b [v,w] s).wp Q=(b (À v :: À w :: Ü (n - 2) none) s).wp (λ _ s1=>Q .ĥ s1) Q)/\
  (∀ (n:Nat) (b:Ms) (v w x:AV) (s:S) (Q:AV->S->Prop),(g_ n b [v,w,x] s).wp Q=(b (À v :: À w :: À x :: Ü (n - 3) none) s).wp (λ _ s1=>Q .ĥ s1) Q):=by
 refine⟨?_,?_,?_,?_,?_,?_,?_,?_,?_,?_,?_,?_,?_,?_,?_,?_,?_,?_⟩<;>intros
 ·rename_i a b env s N T;show(match a env s with|.nx e s1=>b e s1|r=>r).wp N T=_;cases a env s<;>rfl
 ·unfold Ī;rw[dy];rfl
 ·unfold ě;rw[dy];rfl
 ·unfold eL;rw[dy];congr 1;funext k s1;exact LN _ _ _ _ _
 ·unfold tD;rw[dy];rfl
 ·unfold mC;rw[dy]
 ·rename_i i j a b env s N T
  unfold pS Ã Ð
  cases a env s with
  | ok v s1=>
   simp only[bI,LP]
   cases b env s1<;>rfl
  | ex c s1=>rfl
  | bad=>rfl
 ·rfl
 ·unfold gD;rw[dy]
 ·unfold qX;rw[dy];congr 1;funext k s1;rw[dy];congr 1;funext k s1;rw[dy]
 ·rfl
 ·exact UQ _ _ _ _
 ·rfl
 ·rfl
 ·rename_i o i r v w env s N
  show(match m4 o i v env s with|.nx e s1=>r w e s1|q=>q).wp N _=_
  cases m4 o i v env s<;>rfl
 ·rename_i n b v s Q
  show(match b (À v :: Ü (n - 1) none) s with|.rt v s1=>R.ok v s1|.nx _ s1=>.ok .ĥ s1|.ex c s1=>.ex c s1|_=>.bad).wp Q=_
  cases b (À v :: Ü (n - 1) none) s<;>rfl
 ·rename_i n b v w s Q
  show(match b (À v :: À w :: Ü (n - 2) none) s with|.rt v s1=>R.ok v s1|.nx _ s1=>.ok .ĥ s1|.ex c s1=>.ex c s1|_=>.bad).wp Q=_
  cases b (À v :: À w :: Ü (n - 2) none) s<;>rfl
 ·rename_i n b v w x s Q
  show(match b (À v :: À w :: À x :: Ü (n - 3) none) s with|.rt v s1=>R.ok v s1|.nx _ s1=>.ok .ĥ s1|.ex c s1=>.ex c s1|_=>.bad).wp Q=_
  cases b (À v :: À w :: À x :: Ü (n - 3) none) s<;>rfl
def wD (v:AV)(s:S):R (Á AV × Gd):=match v with
 | .tup xs=>.ok (xs,[]) s
 | .sq xs=>.ok (xs,[]) s
 | .ref i=>need (û s i) λ xs=>.ok (xs,[(i,xs)]) s
 | _=>.bad
theorem WE :
  (∀ (v:AV) (env:En) (s:S) (Q:AV->S->Prop),(mc v env s).wp Q=Q v s)/\
  (∀ (op:AV->AV->S->R AV) (a b:Ev) (env:En) (s:S) (Q:AV->S->Prop),(Ö op a b env s).wp Q=(a env s).wp λ v s1=>(b env s1).wp λ w s2=>(op v w s2).wp Q)/\
  (∀ (op:AV->S->R AV) (a:Ev) (env:En) (s:S) (Q:AV->S->Prop),(gR op a env s).wp Q=(a env s).wp λ v s1=>(op v s1).wp Q)/\
  (∀ (r:jQ) (env:En) (s:S) (Q:AV->S->Prop),(Ō r env s).wp Q=(r env s).wp λ vs s1=>vs.length<=sizeLine/\Q (.tup vs) s1)/\
  (∀ (r:jQ) (env:En) (s:S) (Q:Á AV->S->Prop),(aL r env s).wp Q=(r env s).wp λ vs s1=>vs.length<=sizeLine/\Q vs s1)/\
  (∀ (r:jQ) (env:En) (s:S) (Q:AV->S->Prop),(Ę r env s).wp Q=(r env s).wp λ vs s1=>Q (.ref s1.length) (s1++[.lst vs]))/\
  (∀ (n:Nat) (F:Á AV->S->R AV) (r:jQ) (env:En) (s:S) (Q:AV->S->Prop),(Ø n F r env s).wp Q=(r env s).wp λ vs s1=>vs.length=n/\(F vs s1).wp Q)/\
  (∀ (a:Ev) (r:jQ) (env:En) (s:S) (Q:Á AV->S->Prop),(Ã a r env s).wp Q=(a env s).wp λ v s1=>(r env s1).wp λ vs s2=>Q (v :: vs) s2)/\
  (∀ (env:En) (s:S) (Q:Á AV->S->Prop),(Ð env s).wp Q=Q [] s)/\
  (∀ (m:Ev) (env:En) (s:S) (Q:Bool->S->Prop),(cB m env s).wp Q=(m env s).wp λ v s1=>match v with|.bl b=>Q b s1|_=>False)/\
  (∀ (m:Ev) (env:En) (s:S) (Q:Bool->S->Prop),(cT m env s).wp Q=(m env s).wp λ v s1=>match truth v s1 with|some b=>Q b s1|none=>False)/\
  (∀ (a:Eb) (env:En) (s:S) (Q:Bool->S->Prop),(dO a env s).wp Q=(a env s).wp λ c s1=>Q (!c) s1)/\
  (∀ (a b:Eb) (env:En) (s:S) (Q:Bool->S->Prop),(IP a b env s).wp Q=(a env s).wp λ c s1=>if c=true then (b env s1).wp Q else Q false s1)/\
  (∀ (a b:Eb) (env:En) (s:S) (Q:Bool->S->Prop),(rG a b env s).wp Q=(a env s).wp λ c s1=>if c=true then Q true s1 else (b env s1).wp Q)/\
  (∀ (env:En) (s:S) (Q:Bool->S->Prop),(de env s).wp Q=Q true s)/\
  (∀ (c:Eb) (a b:Ev) (env:En) (s:S) (Q:AV->S->Prop),(Xj c a b env s).wp Q=(c env s).wp λ k s1=>if k=true then (a env s1).wp Q else (b env s1).wp Q)/\
  (∀ (op:Á AV->S->R AV) (r:jQ) (env:En) (s:S) (Q:AV->S->Prop),(kl op r env s).wp Q=(r env s).wp λ vs s1=>(op vs s1).wp Q)/\
  (∀ {α:Type}(op:Á AV->S->R α) (r:jQ) (env:En) (s:S) (Q:α->S->Prop),(mI op r env s).wp Q=(r env s).wp λ vs s1=>(op vs s1).wp Q)/\
  (∀ (m:Ev) (env:En) (s:S) (Q:Á AV->S->Prop),(Hf m env s).wp Q=(m env s).wp λ v s1=>(need (items v s1) λ xs=>.ok xs s1).wp Q)/\
  (∀ (r:jQ) (env:En) (s:S) (Q:Á AV × Gd->S->Prop),(xw r env s).wp Q=(r env s).wp λ xs s1=>Q (xs,[]) s1)/\
  (∀ (m:Ev) (env:En) (s:S) (Q:Á AV × Gd->S->Prop),(Ĳ m env s).wp Q=(m env s).wp λ v s1=>(wD v s1).wp Q)/\
  (∀ (l:Lc) (src:Src) (bO:Mt) (test:Eb) (ŭ:Ev) (env:En) (s:S) (Q:Á AV->S->Prop),(Œ l src bO test ŭ env s).wp Q=(src env s).wp λ p s1=>p.1.length<=sizeLine/\(ů bO test ŭ p.2 p.1 (lS l env) s1 []).wp Q)/\
  (∀ (n:String) (op:AV->Á AV->S->R AV) (o:Ev) (r:jQ) (env:En) (s:S) (Q:AV->S->Prop),(pN n op o r env s).wp Q=(o env s).wp λ v s1=>(bX n v s1).isSome=true/\(r env s1).wp λ vs s2=>(op v vs s2).wp Q)/\
  (∀ {α:Type}(n:String) (op:AV->Á AV->S->R α) (o:Ev) (r:jQ) (env:En) (s:S) (Q:α->S->Prop),(Jq n op o r env s).wp Q=(o env s).wp λ v s1=>(bX n v s1).isSome=true/\(r env s1).wp λ vs s2=>(op v vs s2).wp Q)/\
  (∀ (n:String) (op:AV->Á AV->S->R AV) (o:Ev) (env:En) (s:S) (Q:AV->S->Prop),(QF n op o env s).wp Q=(o env s).wp λ v s1=>(bX n v s1).isSome=true/\(op v [] s1).wp Q)/\
  (∀ (d y z:Ev) (env:En) (s:S) (Q:AV->S->Prop),(oU d y z env s).wp Q=(d env s).wp λ a s1=>(bX "dict" a s1).isSome=true/\(y env s1).wp λ b s2=>(z env s2).wp λ c s3=>(zM a b c s3).wp Q)/\
  (∀ (env:En) (s:S) (Q:AV->S->Prop),(S0 env s).wp Q=Q (.ref s.length) (s++[.dK []]))/\
  (∀ (m:Ev) (lo hi:Eo) (env:En) (s:S) (Q:AV->S->Prop),(Ij m lo hi env s).wp Q=(m env s).wp λ v s1=>(lo env s1).wp λ l s2=>(hi env s2).wp λ h s3=>(Hs v l h s3).wp Q)/\
  (∀ (env:En) (s:S) (Q:Í Int->S->Prop),(oN env s).wp Q=Q none s)/\
  (∀ (m:Ev) (env:En) (s:S) (Q:Í Int->S->Prop),(oS m env s).wp Q=(m env s).wp λ v s1=>match v with|.int i=>Q (À i) s1|_=>False)/\
  (∀ (a b:Ev) (env:En) (s:S) (Q:AV->S->Prop),(mz a b env s).wp Q=(a env s).wp λ v s1=>match v with|.bl true=>(b env s1).wp Q|.bl false=>Q (.bl false) s1|_=>False)/\
  (∀ (a b:Ev) (env:En) (s:S) (Q:AV->S->Prop),(mOr a b env s).wp Q=(a env s).wp λ v s1=>match v with|.bl true=>Q (.bl true) s1|.bl false=>(b env s1).wp Q|_=>False)/\
  (∀ (m:Ev) (env:En) (s:S) (Q:AV->S->Prop),(pD m env s).wp Q=(m env s).wp λ v s1=>(s1.take s.length=s/\v.low s.length=true)/\Q v s)/\
  (∀ (m:Eb) (env:En) (s:S) (Q:Bool->S->Prop),(zl m env s).wp Q=(m env s).wp λ v s1=>(s1.take s.length=s)/\Q v s)/\
  (∀ (m:Ev) (env:En) (s:S) (Q:AV->S->Prop),(Ar m env s).wp Q=(m env s).wp λ v s1=>((s1.take s.length).all (AO.low s.length)=true/\v.low s.length=true)/\Q v (s1.take s.length))/\
  (∀ (m:Ev) (env:En) (s:S) (Q:Á AV->S->Prop),(aH m env s).wp Q=(m env s).wp λ v s1=>match v with|.ref k=>(need (û s1 k) λ xs=>if s.length<=k/\(s1.take s.length).all (AO.low s.length)=true/\ķ s.length xs=true then .ok xs (s1.take s.length) else .bad).wp Q|_=>False):=by
 refine⟨?_,?_,?_,?_,?_,?_,?_,?_,?_,?_,?_,?_,?_,?_,?_,?_,?_,?_,?_,?_,?_,?_,?_,?_,?_,?_,?_,?_,?_,?_,?_,?_,?_,?_,?_,?_⟩<;>intros
 ·rfl
 ·unfold Ö;rw[wp_bind];congr 1;funext v s1;rw[wp_bind]
 ·unfold gR;rw[wp_bind]
 ·unfold Ō;rw[wp_bind];congr 1;funext v s1;exact kW _ _ _
 ·unfold aL;rw[wp_bind];congr 1;funext v s1;exact kW _ _ _
 ·unfold Ę;rw[wp_bind];rfl
 ·unfold Ø;rw[wp_bind];congr 1;funext v s1;exact kW _ _ _
 ·unfold Ã;rw[wp_bind];congr 1;funext v s1;rw[wp_bind];rfl
 ·rfl
 ·unfold cB;rw[wp_bind];congr 1;funext v s1;cases v<;>rfl
 ·unfold cT;rw[wp_bind];congr 1;funext v s1;cases truth v s1<;>rfl
 ·unfold dO;rw[wp_bind];rfl
 ·unfold IP;rw[wp_bind];congr 1;funext v s1;exact uN _ _ _ _
 ·unfold rG;rw[wp_bind];congr 1;funext v s1;exact uN _ _ _ _
 ·rfl
 ·unfold Xj;rw[wp_bind];congr 1;funext v s1;exact uN _ _ _ _
 ·unfold kl;rw[wp_bind]
 ·unfold mI;rw[wp_bind]
 ·unfold Hf;rw[wp_bind]
 ·unfold xw;rw[wp_bind];rfl
 ·unfold Ĳ;rw[wp_bind];rfl
 ·unfold Œ;rw[wp_bind];congr 1;funext v s1;exact kW _ _ _
 ·unfold pN;rw[wp_bind];congr 1;funext v s1
  cases bX _ v s1 with
  | none=>exact gO ⟨λ k=>k.elim,λ k=>nomatch k.1⟩
  | some u=>rw[uO,wp_bind];exact gO ⟨λ k=>⟨rfl,k⟩,λ k=>k.2⟩
 ·unfold Jq;rw[wp_bind];congr 1;funext v s1
  cases bX _ v s1 with
  | none=>exact gO ⟨λ k=>k.elim,λ k=>nomatch k.1⟩
  | some u=>rw[uO,wp_bind];exact gO ⟨λ k=>⟨rfl,k⟩,λ k=>k.2⟩
 ·unfold QF;rw[wp_bind];congr 1;funext v s1
  cases bX _ v s1 with
  | none=>exact gO ⟨λ k=>k.elim,λ k=>nomatch k.1⟩
  | some u=>rw[uO];exact gO ⟨λ k=>⟨rfl,k⟩,λ k=>k.2⟩
 ·unfold oU;rw[wp_bind];congr 1;funext v s1
  cases bX _ v s1 with
  | none=>exact gO ⟨λ k=>k.elim,λ k=>nomatch k.1⟩
  | some u=>
   rw[uO,wp_bind]
   simp only[wp_bind]
   exact gO ⟨λ k=>⟨rfl,k⟩,λ k=>k.2⟩
 ·rfl
 ·unfold Ij;rw[wp_bind];congr 1;funext v s1;rw[wp_bind];congr 1;funext v s1;rw[wp_bind]
 ·rfl
 ·unfold oS;rw[wp_bind];congr 1;funext v s1;cases v<;>rfl
 ·unfold mz;rw[wp_bind];congr 1;funext v s1
  cases v with
  | bl b=>cases b<;>rfl
  | _=>rfl
 ·unfold mOr;rw[wp_bind];congr 1;funext v s1
  cases v with
  | bl b=>cases b<;>rfl
  | _=>rfl
 ·unfold pD;rw[wp_bind];congr 1;funext v s1;exact kW _ _ _
 ·unfold zl;rw[wp_bind];congr 1;funext v s1;exact kW _ _ _
 ·unfold Ar;rw[wp_bind];congr 1;funext v s1;exact kW _ _ _
 ·unfold aH;rw[wp_bind];congr 1;funext v s1;cases v<;>rfl
theorem lE (I:Á AV->En->S->Prop)(hg:∀ l env s,I l env s->k6 gs s)(h0:∀ env s,I [] env s->N env s)
  (h1:∀ v r env s,I (v :: r) env s->(bO v env s).wp (λ e s1=>(b e s1).wp (I r) T) (λ _ _=>False)):∀ l env s,I l env s->(forL bO b gs l env s).wp N T
 | [],env,s,h=>by unfold forL;rw[É (hg _ _ _ h)];exact h0 env s h
 | v :: r,env,s,h=>by
  unfold forL
  rw[É (hg _ _ _ h)]
  have k:=h1 v r env s h
  revert k
  cases bO v env s with
  | nx e1 s1=>
   intro k
   have k:(b e1 s1).wp (I r) T:=k
   dsimp only
   revert k
   cases b e1 s1 with
   | nx e2 s2=>intro k;exact lE I hg h0 h1 r e2 s2 k
   | rt e2 s2=>intro k;exact k
   | _=>intro k;exact k.elim
  | _=>intro k;exact k.elim
theorem eJ {bO:Mt}{test:Eb}{ŭ:Ev}{gs:Gd}{Q:Á AV->S->Prop}(I:Á AV->Á AV->En->S->Prop)(hg:∀ l þ env s,I l þ env s->k6 gs s)(h0:∀ þ env s,I [] þ env s->Q þ s)
  (h1:∀ v r þ env s,I (v :: r) þ env s->(bO v env s).wp (λ e s1=>(test e s1).wp λ c s2=>if c=true then (ŭ e s2).wp λ x s3=>I r (þ++[x]) e s3 else I r þ e s2) (λ _ _=>False)):∀ l þ env s,I l þ env s->(ů bO test ŭ gs l env s þ).wp Q
 | [],þ,env,s,h=>by unfold ů;rw[É (hg _ _ _ _ h)];exact h0 þ env s h
 | v :: r,þ,env,s,h=>by
  unfold ů
  rw[É (hg _ _ _ _ h)]
  have k:=h1 v r þ env s h
  revert k
  cases bO v env s with
  | nx e1 s1=>
   intro k
   dsimp only
   rw[wp_bind,jK]
   refine R.wp.mono k λ c s2 k=>?_
   rw[uN,wp_bind,jK]
   split
   ·rename_i hc;rw[É hc]at k
    exact R.wp.mono k λ x s3 k=>eJ I hg h0 h1 r (þ++[x]) e1 s3 k
   ·rename_i hc;rw[Ó hc]at k
    exact eJ I hg h0 h1 r þ e1 s2 k
  | _=>intro k;exact k.elim
theorem bj {m:R α}(h:m=.ok v s)(Q:α->S->Prop):m.wp Q=Q v s:=by rw[h];rfl
theorem LR {m:RS}(h:m=.nx e s)(N:En->S->Prop)(T:AV->S->Prop):m.wp N T=N e s:=by rw[h];rfl
theorem LQ (f:En->S->Nat)(c:Eb)(b:Ms)(env:En)(s:S)(N:En->S->Prop)(T:AV->S->Prop):(HG f c b env s).wp N T=(Ay c b (f env s) env s).wp N T:=rfl
theorem Ž (h:∀ K:En->S->Prop,(∀ e s,K e s=(b e s).wp N T)->(a env s).wp K T):(ì a b env s).wp N T:=by
 rw[WS.1]
 exact h _ λ _ _=>rfl
theorem WV :
  (∀ (v:AV) (l:En) (s:S) (Q:AV->S->Prop),(mv 0 (À v :: l) s).wp Q=Q v s)/\
  (∀ (n:Nat) (x:Í AV) (l:En) (s:S) (Q:AV->S->Prop),(mv (n+1) (x :: l) s).wp Q=(mv n l s).wp Q)/\
  (∀ (i j:Int) (s:S) (Q:AV->S->Prop),(aj (.int i) (.int j) s).wp Q=Q (.int (i+j)) s)/\
  (∀ (i j:Int) (s:S) (Q:AV->S->Prop),(tu (.int i) (.int j) s).wp Q=Q (.int (i - j)) s)/\
  (∀ (i j:Int) (s:S) (Q:AV->S->Prop),(cO (.int i) (.int j) s).wp Q=((EJ i/\EJ j)/\Q (.int (i * j)) s))/\
  (∀ (i j:Int) (s:S) (Q:AV->S->Prop),(cU (.int i) (.int j) s).wp Q=((j≠0/\Rj j)/\Q (.int (i.fdiv j)) s))/\
  (∀ (i j:Int) (s:S) (Q:AV->S->Prop),(fL (.int i) (.int j) s).wp Q=(j≠0/\Q (.int (i.fmod j)) s))/\
  (∀ (i:Int) (s:S) (Q:AV->S->Prop),(eA (.int i) s).wp Q=Q (.int (-i)) s)/\
  (∀ (b:Bool) (s:S) (Q:AV->S->Prop),(we (.bl b) s).wp Q=Q (.bl (!b)) s)/\
  (∀ (i j:Int) (s:S) (Q:AV->S->Prop),(nC (.int i) (.int j) s).wp Q=Q (.bl (decide (i < j))) s)/\
  (∀ (i j:Int) (s:S) (Q:AV->S->Prop),(j_ (.int i) (.int j) s).wp Q=Q (.bl (decide (i<=j))) s)/\
  (∀ (i j:Int) (s:S) (Q:AV->S->Prop),(uf (.int i) (.int j) s).wp Q=Q (.bl (decide (j < i))) s)/\
  (∀ (i j:Int) (s:S) (Q:AV->S->Prop),(Kr (.int i) (.int j) s).wp Q=Q (.bl (decide (j<=i))) s)/\
  (∀ (i j:Int) (s:S) (Q:AV->S->Prop),(cz (.int i) (.int j) s).wp Q=Q (.bl (decide (i=j))) s)/\
  (∀ (i j:Int) (s:S) (Q:AV->S->Prop),(aS (.int i) (.int j) s).wp Q=Q (.bl (!decide (i=j))) s)/\
  (∀ (i j:Str) (s:S) (Q:AV->S->Prop),(cz (.str i) (.str j) s).wp Q=Q (.bl (decide (i=j))) s)/\
  (∀ (i j:Str) (s:S) (Q:AV->S->Prop),(aS (.str i) (.str j) s).wp Q=Q (.bl (!decide (i=j))) s)/\
  (∀ (v:AV) (s:S) (Q:AV->S->Prop),(tm v .ĥ s).wp Q=Q (.bl (kK v)) s)/\
  (∀ (v:AV) (s:S) (Q:AV->S->Prop),(Ou v .ĥ s).wp Q=Q (.bl (!kK v)) s)/\
  (∀ (i:Int) (s:S) (Q:AV->S->Prop),(tj [.int i] s).wp Q=Q (.int (if i < 0 then -i else i)) s)/\
  (∀ (i j:Int) (s:S) (Q:AV->S->Prop),(BW [.int i,.int j] s).wp Q=Q (.int (if j < i then j else i)) s)/\
  (∀ (i:Int) (s:S) (Q:AV->S->Prop),(oV [.int i] s).wp Q=Q (.int i) s)/\
  (∀ (i:Bool) (s:S) (Q:AV->S->Prop),(oV [.bl i] s).wp Q=Q (.int (if i then 1 else 0)) s)/\
  (∀ (xs:Á AV) (i:Int) (s:S) (Q:AV->S->Prop),(Ħ (.tup xs) (.int i) s).wp Q=(need (oB xs i) λ v=>.ok v s).wp Q)/\
  (∀ (k:Nat) (i:Int) (s:S) (Q:AV->S->Prop),(Ħ (.ref k) (.int i) s).wp Q=(need (û s k) λ xs=>need (oB xs i) λ v=>.ok v s).wp Q)/\
  (∀ {α:Type}(a:α) (s:S) (Q:α->S->Prop),(R.ok a s).wp Q=Q a s)/\
  (∀ (e:En) (s:S) (N:En->S->Prop) (T:AV->S->Prop),(RS.nx e s).wp N T=N e s)/\
  (∀ {α γ:Type}(x:γ) (f:γ->R α) (Q:α->S->Prop),(need (À x) f).wp Q=(f x).wp Q)/\
  (∀ (xs:Á AV) (s:S) (Q:Á AV × Gd->S->Prop),(wD (.tup xs) s).wp Q=Q (xs,[]) s)/\
  (∀ (i j:Int) (s:S) (Q:AV->S->Prop),(BX (.int i) (.int j) s).wp Q=(IB i j/\Q (.int (i ^ j.toNat)) s))/\
  (∀ (i j:Int) (s:S) (Q:AV->S->Prop),(nz [.int i,.int j] s).wp Q=((0 < j/\Rj j)/\Q (.tup [.int (i / j),.int (i % j)]) s)):=by
 refine⟨?_,?_,?_,?_,?_,?_,?_,?_,?_,?_,?_,?_,?_,?_,?_,?_,?_,?_,?_,?_,?_,?_,?_,?_,?_,?_,?_,?_,?_,?_,?_⟩<;>intros<;>first|rfl|exact kW _ _ _
theorem Lq :
  (∀ (x y:Í AV) (l:En),(x :: l).set 0 y=y :: l)/\
  (∀ (x y:Í AV) (l:En) (n:Nat),(x :: l).set (n+1) y=x :: l.set n y)/\
  (∀ (n:Nat) (x:Í AV),Ü (n+1) x=x :: Ü n x)/\
  (∀ (x:Í AV),Ü 0 x=[])/\
  (∀ (a:AV) (l:Á AV),oB (a :: l) 0=À a)/\(∀ (a b:AV) (l:Á AV),oB (a :: b :: l) 1=À b)/\(∀ (a b c:AV) (l:Á AV),oB (a :: b :: c :: l) 2=À c)/\
  (∀ (l:Lc) (env:En),lS l env=l.map λ p=>p.2.bind λ j=>(env[j]?).join)/\
  (∀ (x:Í AV) (l:En),(x :: l)[0]? = À x)/\
  (∀ (x:Í AV) (l:En) (n:Nat),(x :: l)[n+1]? = l[n]?)/\
  (∀ {α β:Type}(f:α->β),[].map f=[])/\
  (∀ {α β:Type}(f:α->β) (x:α) (l:Á α),(x :: l).map f=f x :: l.map f)/\
  (∀ {α β:Type}(f:α->Í β),(none:Í α).bind f=none)/\
  (∀ {α β:Type}(f:α->Í β) (x:α),(À x).bind f=f x)/\
  (∀ {α:Type}(x:Í α),(À x).join=x):=by
 refine⟨?_,?_,?_,?_,?_,?_,?_,?_,?_,?_,?_,?_,?_,?_,?_⟩<;>intros<;>first|rfl|skip
 ·exact ql (j:=0) rfl
 ·exact ql (j:=1) rfl
 ·exact ql (j:=2) rfl
theorem UU:(∀ p:Prop,(True ∧ p)=p) ∧ (∀ p:Prop,(p ∧ True)=p) ∧ (∀ {α:Type}{_:aN True}(a b:α),(if True then a else b)=a) ∧ (∀ {α:Type}{_:aN False}(a b:α),(if False then a else b)=b) ∧ ((false=true)=False) ∧ (∀ (p:Prop){_:aN p},(decide p=true)=p) ∧ (∀ b:Bool,((!b)=true)=(b=false)) ∧ (∀ (p:Prop){_:aN p},(decide p=false)=¬p):=by
 refine⟨λ p=>true_and p,λ p=>and_true p,λ a b=>aT a b,λ a b=>aa a b,ą,λ p _=>yS,λ b=>MB b,λ p _=>gO decide_eq_false_iff_not⟩

end Mm
local macro_rules | `(tactic| walk_at "w") => `(tactic| simp only [↓Mm.WS, ↓Mm.WE, ↓Mm.WV, Mm.Lq, Mm.î, Mm.UU, Ì, ↓Û])
namespace Ro
open PySem L2 Mm
abbrev TK (K:Ô):Tx:=⟨K,λ _=>0⟩
structure Df (T:Tx)(mg:Str->Í Ç)(x:Str)(st:Stmt):Prop where
 ex:∃ f fd,Mo T.K x x st f fd/\mg x=À (.ref f)
theorem Wn {K:Ô}{cl:Nat->Addr}{h:Heap}{mg:Str->Í Ç}{x:Str}{st:Stmt}{f:Addr}{oc:Ç}{od an:Í Addr}{Ku:ė (Í Ç)}{kV doc pm ji ct:Ç}(X:K.In h)(G:h.Ns ū mg)(a:AI K ū x=À (À (.ref f)))
  (l:K.lookup f=À ⟨oc,od,.func (bS x x (jz st) (fE st) (ai st) .none kV doc pm an ji ct),Ku⟩) (c:oy K ji x=true) (k:fV K (.ref f)=true):Df ⟨K,cl⟩ mg x st:=
 ⟨⟨f,_,Sa l c k,yM X G a⟩⟩
theorem DO (X:K.In h)(G:h.Ns ū mg)(a:AI K ū x=À (À (.ref f))) (l:K.lookup f=À ⟨.type "tuple",od,.seq it n,sl⟩)(v:Vals vs it.toList)(hs:vs.length<=1000)(hv:∀ ρ H,Ĵ ⟨K,cl⟩ ρ H as vs):C' ⟨K,cl⟩ mg x (.tup as):=
 ⟨.ref f,.ref f,yM X G a,rfl,λ ρ H=>ja (iP.const l v hs) (hv ρ H)⟩
theorem jC (X:K.In h)(G:h.Ns ū mg)(e:AI K ū x=À (À u)) (r:RelV v u)(hv:∀ ρ H,VR ⟨K,cl⟩ ρ H a v):C' ⟨K,cl⟩ mg x a:=⟨v,u,yM X G e,r,hv⟩
section
variable {P:ý}{w:ğ}{T:Tx}{mg:Str->Í Ç}{base:Heap}
def Yj (N P:Á Str)(sc:Scope):Bool:=decide N.Nodup && (P.all (λ x=>decide (sc.names.lookup x=À .local) || decide (sc.names.lookup x=À .cell)) && sc.names.all λ y=>!decide (y.2=.free))
theorem QQ {N P:Á Str}{sc:Scope}(h1:sc.kind=.function)(h2:sc.isCoroutine=false)(h3:sc.isGenerator=false)(h4:N.take P.length=P)(h:Yj N P sc=true):la N P sc:=by
 unfold Yj at h
 rw[ł,ł,ü,ü]at h
 refine⟨h1,h2,h3,Ė h.1,h4,λ x hx=>?_,λ y hy=>?_⟩
 ·have:=h.2.1 x hx
  rw[om]at this
  exact this.imp Ė Ė
 ·have:=h.2.2 y hy
  rw[MB]at this
  exact of_decide_eq_false this
theorem len0 {α:Type}{us:Á α}(h:us.length=0):us=[]:=Ź.mp h
theorem Xa {α:Type}{us:Á α}(h:us.length=1):∃ a0,us=[a0]:=by
 cases us with
 | nil=>cases h
 | cons a us=>
  cases len0 (fS h)
  exact⟨a,rfl⟩
theorem Xc {α:Type}{us:Á α}(h:us.length=2):∃ a0 a1,us=[a0,a1]:=by
 cases us with
 | nil=>cases h
 | cons a us=>
  obtain⟨a1,rfl⟩:=Xa (fS h)
  exact⟨a,_,rfl⟩
theorem Xe {α:Type}{us:Á α}(h:us.length=3):∃ a0 a1 a2,us=[a0,a1,a2]:=by
 cases us with
 | nil=>cases h
 | cons a us=>
  obtain⟨a1,a2,rfl⟩:=Xc (fS h)
  exact⟨a,_,_,rfl⟩
theorem Xf {α:Type}{us:Á α}(h:us.length=4):∃ a0 a1 a2 a3,us=[a0,a1,a2,a3]:=by
 cases us with
 | nil=>cases h
 | cons a us=>
  obtain⟨a1,a2,a3,rfl⟩:=Xe (fS h)
  exact⟨a,_,_,_,rfl⟩
theorem Xg {α:Type}{us:Á α}(h:us.length=5):∃ a0 a1 a2 a3 a4,us=[a0,a1,a2,a3,a4]:=by
 cases us with
 | nil=>cases h
 | cons a us=>
  obtain⟨a1,a2,a3,a4,rfl⟩:=Xf (fS h)
  exact⟨a,_,_,_,_,rfl⟩
theorem Xh {α:Type}{us:Á α}(h:us.length=6):∃ a0 a1 a2 a3 a4 a5,us=[a0,a1,a2,a3,a4,a5]:=by
 cases us with
 | nil=>cases h
 | cons a us=>
  obtain⟨a1,a2,a3,a4,a5,rfl⟩:=Xg (fS h)
  exact⟨a,_,_,_,_,_,rfl⟩
theorem aaB {α:Type}{us:Á α}(h:us.length=7):∃ a0 a1 a2 a3 a4 a5 a6,us=[a0,a1,a2,a3,a4,a5,a6]:=by
 cases us with
 | nil=>cases h
 | cons a us=>
  obtain⟨a1,a2,a3,a4,a5,a6,rfl⟩:=Xh (fS h)
  exact⟨a,_,_,_,_,_,_,rfl⟩
theorem Ų (N:Á Str)(D:Df T mg x st)(S:la N (N.take n) (ai st))
  (hb:∀ (kV doc pm:Ç) (an:Í Addr) (ji ct:Ç) (us:Á Ç),us.length=(N.take n).length->Ra (bS x x (jz st) (fE st) (ai st) .none kV doc pm an ji ct) ⟨us,[]⟩=pure ((N.take n).zip us)) (hn:(N.take n).length=n)
  (h:∀ (f:Addr) (ji:Ç) (A:ō) (outer:Á ED) (s:Ï) (H:Hp) (E:XK),iJ k (A.deeper (yJ x (ai st) s.heap.objs.size f ji))->N.Nodup->p5 (A8 C0 P w T.K mg base N x (ai st) f ji A outer s H E).VF (fE st) (tS T kZ body)) :
  Fk P w T mg base x n (k+1) (g_ N.length body):=by
 obtain⟨f,fd,F,m⟩:=D.ex
 have:=Qm F S λ ji A outer s H E hr=>h f ji A outer s H E hr S.nd
 rw[hn]at this
 exact⟨f,fd,_,this,F.binds hb,m,F.kp⟩
theorem R3 (ps:Á Str)(D:Df T mg x st)(hl:ps.length=n)
  (hb:∀ (kV doc pm:Ç) (an:Í Addr) (ji ct:Ç) (us:Á Ç),us.length=ps.length->Ra (bS x x (jz st) (fE st) (ai st) .none kV doc pm an ji ct) ⟨us,[]⟩=pure (ps.zip us)):Fk P w T mg base x n k λ _ _=>.bad:=by
 obtain⟨f,fd,F,m⟩:=D.ex
 exact⟨f,fd,ps,Jn hl,F.binds hb,m,F.kp⟩
theorem Ux {K:Ô}{H:Hp}{a:Addr}{ns:Á Int}{E:XK}{fl:Á AV->S->R AV}(hl:(fl [.sq (ns.map AV.int)] []).wp λ v _=>v=.bl true) (hO:MZ H)(hS:f9 K H a (ns.map V.int)):wx (TK K) 1 fl [.ref a] H (λ v _=>v=.bl true) E:=by
 have hF:Qe K H a (ns.map V.int):=by
  rcases hS with h|h
  ·rcases h with h|h
   ·rcases hO a with z|⟨o,xs,z⟩
    ·rw[z]at h;cases h
    ·rw[z]at h;cases h
   ·exact .inl h
  ·exact .inr h
 refine⟨rfl,[],[],[.sq (ns.map AV.int)],⟨Š,rfl,(λ i o e=>nomatch e)⟩,?_,?_⟩
 ·unfold Ĵ
  refine⟨_,_,rfl,?_,by unfold Ĵ;rfl⟩
  unfold VR
  exact⟨a,_,rfl,hF,Ĵ.map (λ i=>bh) ns⟩
 ·obtain⟨v,s',e,rfl⟩:=hl.get
  rw[e]
  intro ħ H' x _ _ hx
  have hx:VR (TK K) ħ H' (.bl true) x:=hx
  unfold VR at hx
  exact hx
theorem RZ {l:mH}{w:ğ}{K:Ô}{h:Heap}{mg:Str->Í Ç}{fa:Addr}{st:Stmt}{k:Nat}{sp:Sp}(hfa:mg "law"=À (.ref fa)) (D:Df (TK K) mg "law" st)
  (hb:∀ (s:Ï) (v kV doc pm:Ç) (an:Í Addr) (ji ct:Ç),ui s (bS "law" "law" (jz st) (fE st) (ai st) .none kV doc pm an ji ct) ⟨[v],[]⟩ [("_law_script",v)])
  (F:∀ (base:Heap) (f:Addr) (fd:dI),Mo K "law" "law" st f fd->oA l.prog w K mg base C0 k f fd ["_law_script"] sp) :
  ∃ fd:dI,(∀ (s:Ï) (v:Ç),ui s fd ⟨[v],[]⟩ [("_law_script",v)])/\∀ base:Heap,K.In base->base.Ns ū mg->oA l.prog w K mg base C0 k fa fd ["_law_script"] sp:=by
 obtain⟨f,fd,G,m⟩:=D.ex
 cases m.symm.trans hfa
 refine⟨fd,?_,λ base _ _=>F base _ _ G⟩
 obtain⟨oc,od,kV,doc,pm,an,ji,ct,Ku,rfl,lk,Ie⟩:=G.ex
 exact λ s v=>hb s v kV doc pm an ji ct
end
theorem walk {l:mH}{q:ý}{loose:Á Str}{XP:(Str->Í Ç)->Heap->Prop}{YP:ğ->Heap->Prop}{d:DefRec}{K:Params->Ô}(fl:Á AV->S->R AV)(k:Nat)(hk:iJ k uu)(hl:∀ ns:Á Int,(fl [.sq (ns.map AV.int)] []).wp λ v _=>v=.bl true) (hn:l.most=À 63)(WK:d.params.defaults=[])
  (hY:∀ (w:ğ) (h:Heap),YP w h->(K w.params).In h)
  (F:∀ (w:ğ) (mg:Str->Í Ç) (fa:Addr) (h:Heap),(K w.params).In h->h.Ns ū mg->mg d.name=À (.ref fa)->
   ∃ fd:dI,(∀ (s:Ï) (u:Ç),ui s fd ⟨[u],[]⟩ [("_law_script",u)])/\∀ base:Heap,(K w.params).In base->base.Ns ū mg->oA l.prog w (K w.params) mg base C0 k fa fd ["_law_script"] (wx (TK (K w.params)) 1 fl)) :
  P8 q loose XP YP l.row.toRowW d [] (λ f vs=>Iv f vs):=
 L2.PM (n:=63) (x:="_law_script") (CX:=λ _=>C0) (sp:=λ w=>wx (TK (K w.params)) 1 fl) hn (by decide) WK hk hY F (λ w H a ns _ hO hS=>Ux (hl ns) hO hS) λ _ _ _ _ _ z=>z
def pw:Ms:=
 (ì (mC (Ø 2 cD (Ã (mv 0) (Ã (mv 1) Ð))) (gT 2 (Ù (gN 3) (Ù (gN 2) ę))))
 (ě (mv 2)))
def Ĕ:Á AV->S->R AV:=g_ 4 pw
end Ro
namespace Sx
open PySem
def AS (xs:ė Nat):Prop:=∀ (i j:Nat) (a b:Nat),i < j->xs[i]? = À a->xs[j]? = À b->a < b
theorem getD_at {xs:ė Nat}(h:m < xs.size):∃ a,xs[m]? = À a/\xs.getD m d=a:=⟨xs[m],by simp[h],by simp[Array.getD,h]⟩
theorem u5 (xs:ė Nat)(h:AS xs)(j:Nat):∀ (f lo hi:Nat),hi - lo<=f->lo<=hi->hi<=xs.size->(∀ i a,i < lo->xs[i]? = À a->a < j)->(∀ i a,hi<=i->xs[i]? = À a->j<=a)->
  iH xs j f lo hi<=xs.size/\(∀ i a,i < iH xs j f lo hi->xs[i]? = À a->a < j)/\(∀ i a,iH xs j f lo hi<=i->xs[i]? = À a->j<=a)
 | 0,lo,hi,h1,h2,h3,h4,h5=>by
  have:lo=hi:=by lia
  subst this
  exact⟨h3,h4,h5⟩
 | f+1,lo,hi,h1,h2,h3,h4,h5=>by
  unfold iH
  by_cases hl:lo < hi
  ·rw[É hl]
   have hm:(lo+hi) / 2 < xs.size:=by lia
   obtain⟨a,e1,e2⟩:=getD_at (d:=j) hm
   dsimp only
   rw[e2]
   by_cases ha:a < j
   ·rw[É ha]
    refine u5 xs h j f _ hi (by lia) (by lia) h3 (λ i b Ig eb=>?_) h5
    rcases Gp i ((lo+hi) / 2) with q|q
    ·exact Gq (h i _ b a q eb e1) ha
    ·have:i=(lo+hi) / 2:=by lia
     subst this
     rw[e1]at eb;cases eb;exact ha
   ·rw[Ó ha]
    refine u5 xs h j f lo _ (by lia) (by lia) (by lia) h4 λ i b Ig eb=>?_
    rcases Gp ((lo+hi) / 2) i with q|q
    ·exact Ŀ (kA (wX ha) (h _ i a b q e1 eb))
    ·have:i=(lo+hi) / 2:=by lia
     subst this
     rw[e1]at eb;cases eb;exact wX ha
  ·rw[Ó hl]
   have:lo=hi:=by lia
   subst this
   exact⟨h3,h4,h5⟩
theorem A0 (h:AS xs)(j:Nat):Ğ xs j<=xs.size/\(∀ i a,i < Ğ xs j->xs[i]? = À a->a < j)/\(∀ i a,Ğ xs j<=i->xs[i]? = À a->j<=a):=
 u5 xs h j xs.size 0 xs.size (by lia) (Ă _) (Î _) (λ _ _ h=>absurd h (oK _)) λ i a hi e=>by
  have:=(jL.mp e).1
  lia
theorem zt (xs:ė α)(p:Nat)(x:α)(hp:p<=xs.size)(i:Nat):(Gu xs p x)[i]? = if i < p then xs[i]? else if i=p then À x else xs[i - 1]?:=by
 rw[<-ĕ,SetTable.toList_insertAt]
 have hl:(xs.toList.take p).length=p:=by simp;lia
 by_cases h1:i < p
 ·rw[É h1,é (by lia),List.getElem?_take,É h1,ĕ]
 ·rw[Ó h1,Ā (by lia),hl]
  by_cases h2:i=p
  ·subst h2;simp
  ·rw[Ó h2]
   obtain⟨k,rfl⟩:∃ k,i=p+1+k:=⟨i - p - 1,by lia⟩
   rw[show p+1+k - p=k+1 by lia,List.getElem?_cons_succ,List.getElem?_drop,show p+1+k - 1=p+k by lia,ĕ]
theorem B7 (h:AS xs)(hj:xs[Ğ xs j]?≠À j):AS (Gu xs (Ğ xs j) j):=by
 obtain⟨b1,b2,b3⟩:=A0 h j
 intro i k a b hik ea eb
 rw[zt _ _ _ b1]at ea eb
 have gt:∀ m c,Ğ xs j<=m->xs[m]? = À c->j < c:=λ m c hm ec=>by
  rcases MM (b3 m c hm ec) with q|q
  ·exact q
  ·subst q
   rcases MM hm with z|z
   ·cases e0:xs[Ğ xs j]? with
    | none=>
     have h1:=(jL.mp ec).1
     have h2:=Array.getElem?_eq_none_iff.mp e0
     lia
    | some c0=>
     have:=h _ m c0 j z e0 ec
     have:=b3 _ c0 (Î _) e0
     lia
   ·rw[z]at hj;exact absurd ec hj
 split at ea
 ·rename_i h1
  split at eb
  ·exact h i k a b hik ea eb
  ·rename_i h2
   split at eb
   ·cases eb;exact b2 i a h1 ea
   ·exact Gq (b2 i a h1 ea) (gt (k - 1) b (by lia) eb)
 ·rename_i h1
  rw[Ó (by lia)]at eb
  split at ea
  ·rename_i h2
   cases ea
   rw[Ó (by lia)]at eb
   exact gt (k - 1) b (by lia) eb
  ·rename_i h2
   rw[Ó (by lia)]at eb
   exact h (i - 1) (k - 1) a b (by lia) ea eb
theorem B0 (hd:t.dummies=#[]):∀ (f:Nat) (p:SetTable.Probe) (m:SetTable.Met),p.dummy=none->yP t (λ _=>h+1) h f p=À m->∃ j,m=.empty j none/\t.slot j=.empty
 | 0,p,m,_,e=>by cases e
 | f+1,p,m,hp,e=>by
  unfold yP at e
  cases hs:t.slot p.j with
  | empty=>
   rw[hs]at e
   cases e
   exact⟨p.j,by rw[hp],hs⟩
  | dummy=>
   exfalso
   unfold MR at hs
   dsimp only at hs
   split at hs
   ·cases hs
   ·have:P9 t.dummies p.j=false:=by rw[hd];rfl
    rw[this]at hs
    cases hs
  | live i=>
   rw[hs]at e
   dsimp only at e
   rw[Ó (by simp;lia)]at e
   refine B0 hd f _ m ?_ e
   unfold SetTable.advance
   split
   ·exact hp
   ·exact hp
theorem Nn {t:tM}(hd:t.dummies=#[])(e:t.freeSlot h=À (sl,wd)):t.place[Ğ t.place sl]?≠À sl:=by
 unfold SetTable.freeSlot at e
 cases q:t.probe (λ _=>h+1) h (t.probeStart h) with
 | none=>rw[q]at e;cases e
 | some m=>
  rw[q]at e
  obtain⟨j,rfl,hs⟩:=B0 hd _ _ m rfl q
  cases e
  intro z
  unfold MR at hs
  dsimp only at hs
  simp only[uk]at z
  rw[z]at hs
  simp at hs
structure Good (bt:Bool)(n:Nat)(t:tM):Prop where
 fits:t.fits n=true
 dum:t.dummies=#[]
 led:bt=false->t.led=true
 rise:t.plain=true->AS t.place
theorem Dz (bt:Bool):Good bt 0 (.fresh 0 0 (!bt)):=⟨rfl,rfl,λ h=>by rw[h];rfl,λ _ i j a b _ e=>by simp[SetTable.fresh]at e⟩
theorem Good.Ln (g:Good bt n t)(m:Nat):Good bt m (t.standIn m):=⟨AL t m,rfl,g.led,λ h=>by cases h⟩
theorem Good.plain (g:Good bt n t):Good bt n { t with plain:=false }:=⟨SetTable.fits_plain_off g.fits,g.dum,g.led,λ h=>by cases h⟩
theorem Good.new {es:ė (Int × Ç)}(g:Good bt es.size t)(h:Int)(x:Ç):Good bt (layNew t es h x).1.size (layNew t es h x).2.1:=by
 have hf:=layNew_fits t es h x
 unfold layNew at hf ⊢
 cases e:t.freeSlot h with
 | none=>dsimp only;rw[Array.size_push];exact g.Ln _
 | some p=>
  obtain⟨sl,wd⟩:=p
  rw[e]at hf
  dsimp only at hf ⊢
  unfold SetTable.orStandIn at hf ⊢
  split
  ·refine⟨by assumption,?_,g.led,λ hp=>?_⟩
   ·show(if P9 t.dummies sl then SetTable.eraseAt t.dummies (Ğ t.dummies sl) else t.dummies)=#[]
    rw[g.dum];rfl
   ·exact B7 (g.rise hp) (Nn g.dum e)
  ·refine⟨AL _ _,rfl,g.led,λ h=>by cases h⟩
theorem HD {l:Á Nat}(h:l.Pairwise (· < ·)):AS l.toArray:=λ i j a b Au ea eb=>by
 rw[oJ]at ea eb
 obtain⟨h1,e1⟩:=Ë.mp ea
 obtain⟨h2,e2⟩:=Ë.mp eb
 rw[<-e1,<-e2]
 exact AD.mp h i j h1 h2 Au
theorem Good.Yh {es:ė (Int × Ç)}(g:Good bt es.size t)(wanted:Nat):Good bt (tX t es wanted).1.size (tX t es wanted).2.1:=by
 have hf:=relayAll_fits t es wanted
 unfold tX at hf ⊢
 cases e:t.relaid (es.map (·.1)) wanted with
 | none=>exact g.Ln _
 | some p=>
  obtain⟨t',order⟩:=p
  rw[e]at hf
  dsimp only at hf ⊢
  split
  ·rename_i hc
   rw[É hc]at hf
   unfold SetTable.relaid SetTable.laid at e
   cases e1:SetTable.layClean (EG wanted - 1) (es.map (·.1)) with
   | none=>rw[e1]at e;cases e
   | some owner=>
    rw[e1]at e
    cases e
    refine⟨hf,rfl,g.led,λ _=>HD ?_⟩
    rw[List.map_filterMap]
    have hr:(Ģ (EG wanted - 1+1)).Pairwise (· < ·):=List.pairwise_lt_range
    refine Zw _ (λ a b GX a' Vy b' mf=>?_) hr
    have f1:∀ {c c':Nat},c'∈((YL (λ x=>(c,x)) (owner.getD c none)).map (·.1))->c'=c:=λ {c c'} hc=>by
     cases q:owner.getD c none with
     | none=>rw[q]at hc;cases hc
     | some z=>rw[q]at hc;cases hc;rfl
    rw[f1 Vy,f1 mf]
    exact GX
  ·exact g.Ln _
open PyProof.Rows
def dN (w:ğ):Bool:=w.params.followText "set-order"
def gY {prog:ý}{w:ğ}{K:Type} [Ņ K] (knd:Ű prog w K):Á Ç->Á K->Prop
 | [],[]=>True
 | v :: vs,k :: ks=>knd.is k v=true/\gY knd vs ks
 | _,_=>False
def hR {K:Type} [Ņ K] (ks:Á K)(k:K):Á K:=if k∈ks then ks else ks++[k]
abbrev eU (es:ė (Int × Ç)) (ep:Nat)(t:tM):Obj:={ cls:=.type "set",dict:=none,data:=.set es ep t,slots:=#[] }
section
variable {prog:ý}{w:ğ}{K:Type} [Ņ K] {knd:Ű prog w K}{A:ō}{E:Ç->Ï->Prop}{s:Ï}{a:Addr}{ks:Á K}{k:K}{x:Ç}
theorem gY.length:∀ {vs:Á Ç}{ks:Á K},gY knd vs ks->vs.length=ks.length
 | [],[],_=>rfl
 | _ :: _,_ :: _,h=>by rw[å,å,gY.length h.2]
 | [],_ :: _,h=>h.elim
 | _ :: _,[],h=>h.elim
theorem gY.app:∀ {vs Zl:Á Ç}{ks my:Á K},gY knd vs ks->gY knd Zl my->gY knd (vs++Zl) (ks++my)
 | [],_,[],_,_,h=>h
 | _ :: _,_,_ :: _,_,h,h'=>⟨h.1,gY.app h.2 h'⟩
 | [],_,_ :: _,_,h,_=>h.elim
 | _ :: _,_,[],_,h,_=>h.elim
theorem gY.perm (p:Zl.Perm vs):∀ {ks:Á K},gY knd vs ks->∃ my,my.Perm ks/\gY knd Zl my:=by
 induction p with
 | nil=>intro ks h;exact⟨ks,.refl _,h⟩
 | cons v _ ih=>
  intro ks h
  cases ks with
  | nil=>exact h.elim
  | cons k ks=>obtain⟨my,p,q⟩:=ih h.2;exact⟨k :: my,p.cons k,h.1,q⟩
 | swap u v l=>
  intro ks h
  cases ks with
  | nil=>exact h.elim
  | cons k ks=>
   cases ks with
   | nil=>exact h.2.elim
   | cons j ks=>exact⟨j :: k :: ks,.swap _ _ _,h.2.1,h.1,h.2.2⟩
 | trans _ _ W3 SA=>intro ks h;obtain⟨k1,p1,q1⟩:=SA h;obtain⟨k2,p2,q2⟩:=W3 q1;exact⟨k2,p2.trans p1,q2⟩
theorem gY.mem:∀ {vs:Á Ç}{ks:Á K},gY knd vs ks->∀ k,k∈ks ↔ ∃ v∈vs,knd.is k v=true
 | [],[],_,k=>by simp
 | v :: vs,j :: ks,h,k=>by
  rw[Ò,gY.mem h.2 k]
  constructor
  ·rintro(rfl|⟨u,h1,h2⟩)
   ·exact⟨v,Ġ,h.1⟩
   ·exact⟨u,Ċ _ h1,h2⟩
  ·rintro⟨u,h1,h2⟩
   rcases Ò.mp h1 with rfl|h1
   ·exact .inl (knd.inj _ _ _ h2 h.1)
   ·exact .inr ⟨u,h1,h2⟩
 | [],_ :: _,h,_=>h.elim
 | _ :: _,[],h,_=>h.elim
def jR (knd:Ű prog w K)(h:Heap)(a:Addr)(ks:Á K):Prop:=
 ∃ es ep t my,h.get? a=À (eU es ep t)/\Good (dN w) es.size t/\es.size < scanBound/\ElemsOf knd es.toList/\gY knd (es.toList.map (·.2)) my/\my.Perm ks/\ks.Nodup
theorem FT (h:s.heap.get? a=À (eU es ep t)):(s.heap.update a (AG es' t')).get? a=À (eU es' (ep+1) t'):=by
 have:=dA (AG es' t') h (by rw[putSet_of es' t' rfl];rfl)
 rw[putSet_of es' t' rfl]at this
 exact this
theorem set_tail {g:Bool->YN Unit}(hg:∀ (b:Bool)(s₁:Ï)(Q':Unit->Ï->Prop),Q' () s₁->ß (á prog w) A (g b) Q' E s₁)
  {es:ė (Int × Ç)}{t:tM}(ho:s.heap.get? a=À (eU es ep t)) {uc:ė (Int × Ç)}{t2:tM}{ks1:Á K}(g2:Good (dN w) uc.size t2) (VA:uc.size < scanBound) (Qs:ElemsOf knd uc.toList)
  (hk:∃ my,gY knd (uc.toList.map (·.2)) my/\my.Perm ks1) (nd:ks1.Nodup) {R:Í Bool->Ï->Prop}
  (h:∀ h',b_ a s.heap h'->jR knd h' a ks1->R (À true) { s with heap:=h' }) :
  ß (á prog w) A (do
    storeSet a uc t2
    if (!wasDummy && t2.tooFull)=true then do
      g (tX t2 uc (fT uc.size)).2.2
      storeSet a (tX t2 uc (fT uc.size)).1 (tX t2 uc (fT uc.size)).2.1
      pure (À true)
     else pure (À true)) R E s:=by
 refine Â (Y0 ho rfl ?_ (nZ VA))
 have Ĥ:=FT (es':=uc) (t':=t2) ho
 have WW:=gW s.heap a (AG uc t2)
 obtain⟨my,q1,q2⟩:=hk
 split
 ·have hp:=relayAll_perm t2 uc (fT uc.size)
  have gr:=g2.Yh (fT uc.size)
  generalize tX t2 uc (fT uc.size)=Rl at hp gr ⊢
  obtain⟨es2,t3,abX⟩:=Rl
  dsimp only at hp gr ⊢
  have hsz:es2.size=uc.size:=by rw[<-Ď,hp.length_eq,Ď]
  refine Â (hg _ _ _ ?_)
  refine Â (Y0 Ĥ rfl ?_ (nZ (by rw[hsz];exact VA)))
  obtain⟨k2,p2,q3⟩:=gY.perm (hp.map (·.2)) q1
  refine Ê (h _ (WW.trans (gW _ a _)) ⟨es2,_,t3,k2,FT (s:={ s with heap:=s.heap.update a (AG uc t2) }) Ĥ,gr,by rw[hsz];exact VA,Qs.perm hp,q3,p2.trans q2,nd⟩)
 ·exact Ê (h _ WW ⟨uc,_,t2,my,Ĥ,g2,VA,Qs,q1,q2,nd⟩)
theorem Lh (Bp:knd.is k x=true)(iR:x.scannable=true)(hS:jR knd s.heap a ks)(JF:ks.length+1 < scanBound)
  (h:∀ h' b,b_ a s.heap h'->jR knd h' a (hR ks k)->Q b { s with heap:=h' }):ß (á prog w) A (setAddHashed a x (knd.hash k)) Q E s:=by
 obtain⟨es,ep,t,my,ho,g,hb,Qs,hK,hp,nd⟩:=id hS
 have hlen:es.size=ks.length:=by rw[<-hp.length_eq,<-hK.length,Æ,Ď]
 have VA:es.size+1 < scanBound:=by rw[hlen];exact JF
 unfold setAddHashed setAddHashedIn
 refine Ŭ (Â (eI ho rfl g.fits ?_))
 dsimp only
 rw[byScan_of iR hb Qs]
 simp only[↓Û]
 unfold setAddByScan
 refine Â ?_
 refine Â (b9 ?_)
 refine Â (wpAny_setScan_of Bp ho rfl g.fits Qs ?_)
 cases hr:List.findIdx? (λ e=>knd.is k e.2) es.toList with
 | some j=>
  dsimp only
  obtain⟨hj,hpj,_⟩:=List.findIdx?_eq_some_iff_getElem.mp hr
  have hm:k∈ks:=hp.mem_iff.mp ((hK.mem k).mpr ⟨_,â.mpr ⟨_,cH hj,rfl⟩,hpj⟩)
  refine Ê (Ê ?_)
  have e:s={ s with heap:=s.heap }:=by cases s;rfl
  rw[e]
  exact h s.heap _ (abi a s.heap) (by unfold hR;rw[É hm];exact hS)
 | none=>
  dsimp only
  have hm:k∉ks:=λ hm=>by
   obtain⟨v,h1,h2⟩:=(hK.mem k).mp (hp.mem_iff.mpr hm)
   obtain⟨e,he,rfl⟩:=â.mp h1
   have:=List.findIdx?_eq_none_iff.mp hr e he
   rw[h2]at this;cases this
  have hgw:∀ (b:Bool) {s₁:Ï}{Q':Unit->Ï->Prop},Q' () s₁->ß (á prog w) A (match b with|true=>rule "set.scan.the-table-gave-way" | false=>pure ()) Q' E s₁:=
   λ b s₁ Q' hq=>by cases b<;>first|exact Ê hq|exact b9 hq
  have yh:=layNew_perm t es (knd.hash k) x
  have gn:=g.new (knd.hash k) x
  generalize layNew t es (knd.hash k) x=L at yh gn ⊢
  obtain⟨uc,t1,wasDummy,ab6⟩:=L
  dsimp only at yh gn ⊢
  rw[L5]at yh
  have WM:ElemsOf knd uc.toList:=(Qs.push Bp iR).perm yh
  have WD:uc.size < scanBound:=by rw[<-Ď,yh.length_eq,õ,Ď];simpa using VA
  have Y8:∃ k1,gY knd (uc.toList.map (·.2)) k1/\k1.Perm (ks++[k]):=by
   have q:gY knd ((es.toList++[(knd.hash k,x)]).map (·.2)) (my++[k]):=by rw[ä];exact hK.app ⟨Bp,trivial⟩
   obtain⟨k1,p1,q1⟩:=gY.perm (yh.map (·.2)) q
   exact⟨k1,q1,p1.trans (hp.append_right _)⟩
  have nd1:(ks++[k]).Nodup:=gI.mpr ⟨nd,by simp,λ z hz y hy e=>by rw[ñ.mp hy]at e;subst e;exact hm hz⟩
  have Nu:∀ h',b_ a s.heap h'->jR knd h' a (ks++[k])->ß (á prog w) A (pure true) Q E { s with heap:=h' }:=λ h' JG Sd=>Ê (h h' _ JG (by unfold hR;rw[Ó hm];exact Sd))
  refine Â (hgw _ ?_)
  split
  ·refine Â ?_
   rw[hashByValue_scannable 8 iR]
   refine Ê ?_
   refine set_tail ?_ ho ?_ WD WM Y8 nd1 ?_
   ·intro b s₁ Q' hq;cases b<;>first|exact Ê hq|exact b9 hq
   ·split
    ·exact gn
    ·exact gn.plain
   ·intro h' JG Sd;dsimp only;exact Nu h' JG Sd
  ·refine Â (Ê ?_)
   simp only[↓Û]
   refine set_tail ?_ ho gn WD WM Y8 nd1 ?_
   ·intro b s₁ Q' hq;cases b<;>first|exact Ê hq|exact b9 hq
   ·intro h' JG Sd;dsimp only;exact Nu h' JG Sd
theorem jR.keep (hS:jR knd h a ks)(hk:∀ o,h.get? a=À o->h'.get? a=À o):jR knd h' a ks:=let ⟨es,ep,t,my,ho,r⟩:=hS;⟨es,ep,t,my,hk _ ho,r⟩
theorem jR.typeIs (hS:jR knd s.heap a ks):s.TypeIs (.ref a) "set":=let ⟨es,ep,t,my,ho,r⟩:=hS;⟨_,ho,rfl⟩
theorem jR.lt (hS:jR knd h a ks):a < h.objs.size:=let ⟨es,ep,t,my,ho,r⟩:=hS;Ú ho
theorem Pb (Bp:knd.is k x=true)(iR:x.scannable=true)(hS:jR knd s.heap a ks)(JF:ks.length+1 < scanBound)
  (h:∀ h',b_ a s.heap h'->jR knd h' a (hR ks k)->Q .none { s with heap:=h',toks:=s.toks+1 }) :
  ß (á prog w) A (call (.builtin "set.add") [.ref a,x]) Q E s:=by
 refine ģ F.slot_set_add hS.typeIs F.entry_set_add ?_ (F.args_set_add_2 _ _)
 unfold eF.«set.add» Q0
 simp only[wK,bind_assoc]
 unfold p_ setAdd
 refine Â (Ê ?_)
 try dsimp only
 refine Â (Ê ?_)
 try dsimp only
 refine Â ?_
 refine Ŭ ?_
 refine Â (knd.pyHash Bp ?_)
 refine Lh (s:={ s with toks:=s.toks+1 }) Bp iR hS JF λ h' b JG Sd=>?_
 show ß _ _ (ret ē) _ _ _
 exact Ê ⟨_,rfl,h h' JG Sd⟩
theorem uL (h:jR knd (s.heap.push (eU #[] 0 (.fresh 0 0 (!dN w)))) s.heap.objs.size []->Q (.ref s.heap.objs.size) { s with heap:=s.heap.push (eU #[] 0 (.fresh 0 0 (!dN w))) }) :
  ß (á prog w) A (newSet (.type "set")) Q E s:=by
 unfold newSet w_
 refine Â (Â (c8 (Ê ?_)))
 dsimp only
 simp only[newObj]
 refine Â (wpAny_alloc (Ê (h ⟨#[],0,_,[],Þ _ rfl,Dz _,by decide,λ e he=>by simp at he,trivial,.refl _,Š⟩)))
end
theorem vn (h:i < l.length):(l[i] :: l.eraseIdx i).Perm l:=by
 rw[List.eraseIdx_eq_take_drop_succ]
 refine P1.symm.trans ?_
 rw[<-au h,List.take_append_drop]
theorem FF (next:Nat->Nat):∀ (f k:Nat) (left:Á α) (out:ė α),left.length<=f->(MU next f k left out).toList.Perm (out.toList++left)
 | 0,k,left,out,h=>by
  have:left=[]:=Ź.mp (by lia)
  subst this
  rw[fw];exact .refl _
 | f+1,k,left,out,h=>by
  unfold MU
  cases left with
  | nil=>simp
  | cons x r=>
   have qy:next k % (x :: r).length < (x :: r).length:=Nat.mod_lt _ (by simp)
   rw[Ñ qy]
   dsimp only
   refine(FF next f (k+1) _ _ (by rw[dR qy];simp at h ⊢;lia)).trans ?_
   rw[L5,æ]
   refine Ad _ ?_
   exact(vn qy)
theorem HB (next:Nat->Nat)(xs:ė α):(AQ next xs).toList.Perm xs.toList:=by
 have:=FF next xs.size 0 xs.toList #[] (by simp)
 rw[ľ]at this
 exact this
abbrev jA (first:Ç)(i:Nat)(a:Addr)(n ep:Nat):Obj:={ cls:=.type "set_iterator",dict:=none,data:=.fields #[first,.int i 0,.ref a,.int n 0,.int ep 0],slots:=#[] }
section
variable {prog:ý}{w:ğ}{A:ō}{E:Ç->Ï->Prop}{s:Ï}{a:Addr}{es:ė (Int × Ç)}{ep:Nat}{t:tM}
theorem yv (hb:dN w=true)(ho:s.heap.get? a=À (eU es ep t)) (g:Good (dN w) es.size t)
  (h:Q (((AQ (w.params.setOrder a ep) es)[i]?).map λ e=>(e.2,sl)) s):ß (á prog w) A (EI a sl i ep) Q E s:=by
 unfold EI w_
 refine Â (eI ho rfl g.fits ?_)
 dsimp only
 refine Â (Â (c8 (Ê ?_)))
 have mf:(á prog w).w.params.followText "set-order"=true:=hb
 dsimp only
 rw[mf]
 simp only[aT,nX,ą,aa]
 unfold setWalk w_
 refine Â (Â (eI ho rfl g.fits ?_))
 dsimp only
 refine Â (Â (c8 (Ê ?_)))
 dsimp only
 rw[mf]
 simp only[aT]
 refine Â (c8 (Ê (Ê h)))
theorem vZ (hb:dN w=false)(ho:s.heap.get? a=À (eU es ep t)) (g:Good (dN w) es.size t) (hd:(!t.plain && decide (es.size > 1))=false)
  (h:Q (match es[Ğ t.place sl]?,t.place[Ğ t.place sl]? with|some (_,x),À j=>À (x,j+1)|_,_=>none) s):ß (á prog w) A (EI a sl i ep) Q E s:=by
 unfold EI w_
 refine Â (eI ho rfl g.fits ?_)
 dsimp only
 refine Â (Â (c8 (Ê ?_)))
 have mf:(á prog w).w.params.followText "set-order"=false:=hb
 dsimp only
 rw[mf]
 simp only[ą,aa]
 split
 ·rename_i hx
  have hx:(!t.plain && decide (es.size > 1))=true:=hx
  rw[hd]at hx;cases hx
 ·show ß _ _ ((if (!t.led && !es.isEmpty)=true then Rg "set:maker-not-led" else pure jN) >>= λ _=>_) _ _ _
  rw[g.led hb]
  simp only[lW,Ac,ą,aa]
  exact Â (Ê (Ê h))
theorem xY:∀ (n:Nat)(xs:Á α)(s:Ï){Q:Á α->Ï->Prop},xs.length<=n->(∀ ys d,ys.Perm xs->Q ys { s with drawn:=d })->ß (á prog w) A (Mi n xs) Q E s
 | 0,xs,s,Q,hl,h=>by
  have:xs=[]:=Ź.mp (by lia)
  subst this
  unfold Mi
  exact Ê (h [] s.drawn (.refl _))
 | n+1,[],s,Q,hl,h=>by
  unfold Mi
  exact Ê (h [] s.drawn (.refl _))
 | n+1,x :: r,s,Q,hl,h=>by
  unfold Mi
  refine Â ?_
  have hc:∀ {Q':Nat->Ï->Prop},(∀ i d,i < (x :: r).length->Q' i { s with drawn:=d })->ß (á prog w) A (choose .order (x :: r).length) Q' E s:=λ {Q'} hq Γ p hΓ=>by
   show Sem.wp (á prog w) Γ (.choose .order (x :: r).length .pure) _ _ p s
   rw[Sem.wp_choose]
   refine⟨by simp,?_⟩
   have:=hq ((á prog w).w.draws .order (s.drawn.get .order) % (x :: r).length) (s.drawn.bump .order) (Nat.mod_lt _ (by simp))
   first|exact this|(rw[Sem.wp_pure];exact this)|simpa using this
  refine hc λ i d hi=>?_
  rw[Ñ hi]
  dsimp only
  refine Â (xY n _ _ (by rw[dR hi];simp at hl ⊢;lia) λ ys d' p=>Ê (h _ d' ?_))
  exact(p.cons _).trans (vn hi)
end
theorem ay:Slot "set_iterator" "__next__" "set_iterator.__next__":=
 .of (owner:="set_iterator") (n:="__next__") (by rw[abU,P_];kernel_rfl) (by decide +kernel) (by decide +kernel) (by decide +kernel)
  (by first|exact .inl (by decide +kernel)|exact .inr (by decide +kernel)) (by rw[isSubtype_type];kernel_rfl)
theorem gP:entryFor table "set_iterator.__next__"=À eF.«set_iterator.__next__»:=entryFor_of_tree (by kernel_rfl)
theorem iK (a:Ç):argsOk "set_iterator.__next__" ⟨[a],[]⟩:=by unfold argsOk;kernel_rfl
theorem rg:Slot "set_iterator" "__iter__" "set_iterator.__iter__":=
 .of (owner:="set_iterator") (n:="__iter__") (by rw[abU,P_];kernel_rfl) (by decide +kernel) (by decide +kernel) (by decide +kernel)
  (by first|exact .inl (by decide +kernel)|exact .inr (by decide +kernel)) (by rw[isSubtype_type];kernel_rfl)
theorem xg:entryFor table "set_iterator.__iter__"=À eF.«dict_keyiterator.__iter__»:=
 entryFor_alias (id':="dict_keyiterator.__iter__") (by kernel_rfl) rfl (by decide +kernel) (by kernel_rfl)
theorem yY (a:Ç):argsOk "set_iterator.__iter__" ⟨[a],[]⟩:=by unfold argsOk;kernel_rfl
theorem vh:entryFor table "set.__iter__"=À eF.«frozenset.__iter__»:=
 entryFor_alias (id':="frozenset.__iter__") (by kernel_rfl) rfl (by decide +kernel) (by kernel_rfl)
section
variable {prog:ý}{w:ğ}{A:ō}{E:Ç->Ï->Prop}{s:Ï}{a I:Addr}{es:ė (Int × Ç)}{ep i sl:Nat}{t:tM}
theorem zx (hit:s.heap.get? I=À (jA f i a n ep)) (h:Q (.ref I) s):ß (á prog w) A (GA (.ref I)) Q E s:=by
 have hT:s.TypeIs (.ref I) "set_iterator":=⟨_,hit,rfl⟩
 refine YY hT rg (ģ rg hT xg ?_ (yY _))
 show ß _ _ (ret (.ref I)) _ _ s
 exact Ê ⟨_,rfl,"set_iterator",_,hT,ay.lookup,h⟩
theorem Fm (hit:s.heap.get? I=À (jA (.int sl 0) i a es.size ep)) (ho:s.heap.get? a=À (eU es ep t)) (g:Good (dN w) es.size t)
  (hn:∀ {E:Ç->Ï->Prop}{Q:Í (Ç × Nat)->Ï->Prop},Q (À (x,nx)) s->ß (á prog w) A.in1 (EI a sl i ep) Q E s)
  (h:∀ h',h'.get? I=À (jA (.int nx 0) (i+1) a es.size ep)->b_ I s.heap h'->Q (À x) { s with heap:=h' }):ß (á prog w) A (iI (.ref I)) Q E s:=by
 have hT:s.TypeIs (.ref I) "set_iterator":=⟨_,hit,rfl⟩
 unfold iI
 refine Â (jr (į (name:=ck "__next__") hT ay (ģ ay hT gP ?_ (iK _))))
 unfold eF.«set_iterator.__next__»
 refine Â (m:=GB _ _ _) (Ê ?_)
 refine Â (tY hit rfl ?_)
 dsimp only
 refine Â (fW ho rfl g.fits ?_)
 rw[Ó (by simp)]
 simp only[cj]
 refine Â (hn ?_)
 dsimp only
 refine Â (Ĺ hit (by simp) λ h1 e1 k1=>?_)
 refine Â (Ĺ (s:={ s with heap:=h1 }) e1 (by simp) λ h2 e2 k2=>?_)
 refine Ê ⟨_,rfl,Ê (h h2 ?_ (k1.trans k2))⟩
 have e3:((i+1:Nat):Int)=(i:Int)+1:=by lia
 show h2.get? I=À { cls:=.type "set_iterator",dict:=none,data:=.fields #[.int nx 0,.int ((i+1:Nat):Int) 0,.ref a,.int es.size 0,.int ep 0],slots:=#[] }
 rw[e3]
 simpa[bH]using e2
theorem Cf (hh:A.handled=none)(h:∀ h',(∀ b o,s.heap.get? b=À o->h'.get? b=À o)->Q none { s with heap:=h' }) :
  ß (á prog w) A.in1 (do raiseNew (<-newExc (.type "StopIteration") []):YN MO) (λ fin s'=>∃ r,fin=.done (.ret r)/\(ß (á prog w) A (pure (À r)) Q E s')) (λ x s'=>ß (á prog w) A (do if <-isInstance x (.type "StopIteration") then pure none else throw x) Q E s') s:=by
 refine Â ?_
 simp only[newExc,newTuple]
 refine Â (ŝ ?_ (by size_fits))
 refine Â (m:=tN _ _) (t6 (a:=ē) (by first|rfl|(simp only[tN];rfl)) ?_)
 refine ŝ ?_ (by size_fits)
 simp only[raiseNew]
 refine Â (wpAny_handled ?_)
 rw[show A.in1.handled=none from hh]
 refine Â (Ê (wpAny_throw ?_))
 refine Â (AR (T:="StopIteration") (b:=true) ⟨_,Þ _ rfl,rfl⟩ isSubtype_stop ?_)
 exact Ê (h _ λ b o e=>Å _ (Å _ e))
theorem Fl (hh:A.handled=none)(hit:s.heap.get? I=À (jA (.int sl 0) i a es.size ep)) (ho:s.heap.get? a=À (eU es ep t)) (g:Good (dN w) es.size t)
  (hn:∀ {E:Ç->Ï->Prop}{Q:Í (Ç × Nat)->Ï->Prop},Q none s->ß (á prog w) A.in1 (EI a sl i ep) Q E s)
  (h:∀ h',(∀ b o,b≠I->s.heap.get? b=À o->h'.get? b=À o)->Q none { s with heap:=h' }):ß (á prog w) A (iI (.ref I)) Q E s:=by
 have hT:s.TypeIs (.ref I) "set_iterator":=⟨_,hit,rfl⟩
 unfold iI
 refine Â (jr (į (name:=ck "__next__") hT ay (ģ ay hT gP ?_ (iK _))))
 unfold eF.«set_iterator.__next__»
 refine Â (m:=GB _ _ _) (Ê ?_)
 refine Â (tY hit rfl ?_)
 dsimp only
 refine Â (fW ho rfl g.fits ?_)
 rw[Ó (by simp)]
 simp only[cj]
 refine Â (hn ?_)
 dsimp only
 refine Â (Ĺ hit (by simp) λ h1 e1 k1=>?_)
 exact Cf (s:={ s with heap:=h1 }) hh λ h' k=>h h' λ b o hb e=>k b o ((k1.2 b hb).trans e)
theorem JU {ps:Á Nat}{p:Nat}{x:Int × Ç}{Q:Í Ç->Ï->Prop}(hit:s.heap.get? I=À (jA (.ref tp) i a es.size ep)) (ho:s.heap.get? a=À (eU es ep t)) (g:Good (dN w) es.size t)
  (VD:s.heap.get? tp=À { cls:=.type "tuple",data:=.seq (ps.map λ(i:Nat)=>bH i).toArray }) (hp:ps[i]? = À p) (hx:es[p]? = À x)
  (h:∀ h',h'.get? I=À (jA (.ref tp) (i+1) a es.size ep)->b_ I s.heap h'->Q (À x.2) { s with heap:=h' }):ß (á prog w) A (iI (.ref I)) Q E s:=by
 have hT:s.TypeIs (.ref I) "set_iterator":=⟨_,hit,rfl⟩
 unfold iI
 refine Â (jr (į (name:=ck "__next__") hT ay (ģ ay hT gP ?_ (iK _))))
 unfold eF.«set_iterator.__next__»
 refine Â (m:=GB _ _ _) (Ê ?_)
 refine Â (tY hit rfl ?_)
 dsimp only
 refine Â (fW ho rfl g.fits ?_)
 rw[Ó (by simp)]
 refine Â (m:=uv _) ?_
 unfold uv
 dsimp only
 refine Â (GF VD (Ê ?_))
 dsimp only
 simp only[cj]
 have e1:(ps.map λ(i:Nat)=>bH i).toArray[i]? = À (bH p):=by rw[oJ,ò,hp];rfl
 rw[e1]
 dsimp only[bH]
 refine Â ?_
 unfold setNextDrawn
 refine Â (eI ho rfl g.fits ?_)
 dsimp only
 simp only[cj,nX,ą,aa]
 rw[hx]
 refine Ê ?_
 refine Â (Ĺ hit (by simp) λ h1 e1 k1=>?_)
 refine Ê ⟨_,rfl,Ê (h h1 ?_ k1)⟩
 have e3:((i+1:Nat):Int)=(i:Int)+1:=by lia
 show h1.get? I=À { cls:=.type "set_iterator",dict:=none,data:=.fields #[.ref tp,.int ((i+1:Nat):Int) 0,.ref a,.int es.size 0,.int ep 0],slots:=#[] }
 rw[e3]
 simpa[bH]using e1
theorem JT {ps:Á Nat}{Q:Í Ç->Ï->Prop}(hh:A.handled=none)(hit:s.heap.get? I=À (jA (.ref tp) i a es.size ep)) (ho:s.heap.get? a=À (eU es ep t)) (g:Good (dN w) es.size t)
  (VD:s.heap.get? tp=À { cls:=.type "tuple",data:=.seq (ps.map λ(i:Nat)=>bH i).toArray }) (hp:ps[i]? = none)
  (h:∀ h',(∀ b o,b≠I->s.heap.get? b=À o->h'.get? b=À o)->Q none { s with heap:=h' }):ß (á prog w) A (iI (.ref I)) Q E s:=by
 have hT:s.TypeIs (.ref I) "set_iterator":=⟨_,hit,rfl⟩
 unfold iI
 refine Â (jr (į (name:=ck "__next__") hT ay (ģ ay hT gP ?_ (iK _))))
 unfold eF.«set_iterator.__next__»
 refine Â (m:=GB _ _ _) (Ê ?_)
 refine Â (tY hit rfl ?_)
 dsimp only
 refine Â (fW ho rfl g.fits ?_)
 rw[Ó (by simp)]
 refine Â (m:=uv _) ?_
 unfold uv
 dsimp only
 refine Â (GF VD (Ê ?_))
 dsimp only
 simp only[cj]
 have e1:(ps.map λ(i:Nat)=>bH i).toArray[i]? = none:=by rw[oJ,ò,hp];rfl
 rw[e1]
 dsimp only
 refine Â (Ĺ hit (by simp) λ h1 e1 k1=>?_)
 refine Â (Ĺ (s:={ s with heap:=h1 }) e1 (by simp) λ h2 e2 k2=>?_)
 exact Cf (s:={ s with heap:=h2 }) hh λ h' k=>h h' λ b o hb e=>k b o (((k1.trans k2).2 b hb).trans e)
end
theorem AZ (h:AS xs)(hi:i<=xs.size)(h1:∀ k b,k < i->xs[k]? = À b->b < j)(h2:∀ k b,i<=k->xs[k]? = À b->j<=b):Ğ xs j=i:=by
 obtain⟨b1,b2,b3⟩:=A0 h j
 rcases Nat.lt_trichotomy (Ğ xs j) i with q|q|q
 ·have hl:Ğ xs j < xs.size:=by lia
  have e:xs[Ğ xs j]? = À xs[Ğ xs j]:=by simp[hl]
  have:=h1 _ _ q e
  have:=b3 _ _ (Î _) e
  lia
 ·exact q
 ·have hl:i < xs.size:=by lia
  have e:xs[i]? = À xs[i]:=by simp[hl]
  have:=b2 _ _ q e
  have:=h2 _ _ (Î _) e
  lia
section
variable {prog:ý}{w:ğ}{K:Type} [Ņ K] {knd:Ű prog w K}{A:ō}{E:Ç->Ï->Prop}{s:Ï}{a:Addr}{ks:Á K}
def IF (prog:ý)(w:ğ){K:Type} [Ņ K] (knd:Ű prog w K)(A:ō)(ks:Á K)(a:Addr)(h h':Heap)(I:Addr):Prop:=
 (∀ b o,h.get? b=À o->h'.get? b=À o)/\∃ (L:Á Ç) (fp:Á Addr) (St:Nat->Heap->Prop),(∀ b∈fp,b=a∨h.objs.size<=b)/\I∈fp/\h.objs.size<=I/\Walks prog w A I fp [I] L.length (λ i v=>L[i]? = À v) St/\St 0 h'/\∃ my,gY knd L my/\my.Perm ks
theorem Li (hh:A'.handled=none)(hS:jR knd s.heap a ks)
  (h:∀ I h' d,IF prog w knd A' ks a s.heap h' I->Q (.ref I) { s with heap:=h',drawn:=d }):ß (á prog w) A (GA (.ref a)) Q E s:=by
 obtain⟨es,ep,t,my,ho,g,hb,Qs,hK,hp,nd⟩:=id hS
 have Nw:a < s.heap.objs.size:=Ú ho
 have hT:=hS.typeIs
 refine YY hT YD (ģ YD hT vh ?_ (F.args_set_iter_1 _))
 unfold eF.«frozenset.__iter__» Q2 p_ Q1
 refine Â (Â (m:=GB _ _ _) (Ê (Ê ?_)))
 refine Â (Â (fW ho rfl g.fits (Ê ?_)))
 have hdr:∀ {Q:Bool->Ï->Prop}{E:Ç->Ï->Prop},Q (!dN w && (!t.plain && decide (es.size > 1))) s->ß (á prog w) A.in1 (setDrawn a) Q E s:=λ {Q E} hq=>by
  unfold setDrawn w_
  refine Â (eI ho rfl g.fits ?_)
  dsimp only
  refine Â (Â (c8 (Ê (Ê hq))))
 refine Â (hdr ?_)
 have iter:∀ (f:Ç) (h1:Heap) (d:Drawn),(∀ b o,s.heap.get? b=À o->h1.get? b=À o)->s.heap.objs.size<=h1.objs.size->IF prog w knd A' ks a s.heap (h1.push (jA f 0 a es.size ep)) h1.objs.size->
   ß (á prog w) A.in1 (setEpoch a >>= λ e=>ZM "set_iterator" [f,bH 0,.ref a,bH es.size,bH e] >>= λ r=>ret r) (λ fin s'=>∃ r,fin=.done (.ret r)/\∃ T' q,s'.TypeIs r T'/\GD (.type T') "__next__"=pure (À q)/\Q r s') E { s with heap:=h1,drawn:=d }:=λ f h1 d k hz ok=>by
  refine Â (wpAny_setEpoch_of (s:={ s with heap:=h1,drawn:=d }) (k _ _ ho) rfl g.fits ?_)
  unfold ZM
  refine Â (ŝ ?_ (by size_fits))
  refine Ê ⟨_,rfl,"set_iterator",_,⟨jA f 0 a es.size ep,Þ _ rfl,rfl⟩,ay.lookup,h _ _ d ok⟩
 have JE:∀ (f:Ç) (h1:Heap),(h1.push (jA f 0 a es.size ep)).get? h1.objs.size=À (jA f 0 a es.size ep):=λ f h1=>Þ _ rfl
 have bt0:(!dN w && (!t.plain && decide (es.size > 1)))=false->ß (á prog w) A.in1 (setEpoch a >>= λ e=>ZM "set_iterator" [bH 0,bH 0,.ref a,bH es.size,bH e] >>= λ r=>ret r) (λ fin s'=>∃ r,fin=.done (.ret r)/\∃ T' q,s'.TypeIs r T'/\GD (.type T') "__next__"=pure (À q)/\Q r s') E s:=λ hd=>by
  have key:=iter (bH 0) s.heap s.drawn (λ _ _ e=>e) (Î _) ?_
  ·exact key
  refine⟨λ b o e=>Å _ e,?_⟩
  by_cases Sf:dN w=true
  ·refine⟨(AQ (w.params.setOrder a ep) es).toList.map (·.2),[s.heap.objs.size,a],λ i h=>h.get? s.heap.objs.size=À (jA (.int (0:Nat) 0) i a es.size ep)/\h.get? a=À (eU es ep t),?_,by simp,Î _,?_,⟨JE _ _,Å _ ho⟩,?_⟩
   ·intro b mf
    rcases Ò.mp mf with rfl|mf
    ·exact .inr (Î _)
    ·exact .inl (ñ.mp mf)
   ·refine⟨λ b mf=>by simp at mf ⊢;exact .inl mf,λ i h h' hs k=>⟨k _ (by simp) _ hs.1,k _ (by simp) _ hs.2⟩,λ i s' Q E hi st hq=>?_,λ s' Q E st hq=>?_,λ i s' Q E st hq=>zx st.1 hq⟩
    ·rw[Æ,Ď]at hi
     have e1:(AQ (w.params.setOrder a ep) es)[i]? = À (AQ (w.params.setOrder a ep) es)[i]:=by simp[hi]
     refine Fm (t:=t) (nx:=0) st.1 st.2 g (λ {E' Q'} Ny=>yv Sf st.2 g (by rw[e1];exact Ny)) λ h' e k=>?_
     exact hq _ h' s'.toks (by rw[ò,ĕ,e1];rfl) ⟨e,(k.2 a (Ć Nw)).trans st.2⟩ λ b o mf e'=>(k.2 b (by simpa using mf)).trans e'
    ·refine Fl (t:=t) hh st.1 st.2 g (λ {E' Q'} Ny=>yv Sf st.2 g (by rw[mK (by simp)];exact Ny)) λ h' k=>?_
     exact hq h' s'.toks λ b o mf e'=>k b o (by simpa using mf) e'
   ·obtain⟨k2,p2,q2⟩:=gY.perm ((HB (w.params.setOrder a ep) es).map (·.2)) hK
    exact⟨k2,q2,p2.trans hp⟩
  ·have Sf:dN w=false:=by simpa using Sf
   have hd2:(!t.plain && decide (es.size > 1))=false:=by rw[Sf]at hd;simpa using hd
   have hpz:t.place.size=es.size:=by have:=g.fits;simp only[SetTable.fits,ł,beq_iff_eq]at this;exact this.1
   have hr:AS t.place:=by
    cases nc:t.plain with
    | true=>exact g.rise nc
    | false=>
     rw[nc]at hd2
     simp at hd2
     intro i j x y Au ex ey
     have:=(jL.mp ey).1
     lia
   refine⟨es.toList.map (·.2),[s.heap.objs.size,a],λ i h=>∃ sl:Nat,h.get? s.heap.objs.size=À (jA (.int sl 0) i a es.size ep)/\h.get? a=À (eU es ep t)/\Ğ t.place sl=i,?_,by simp,Î _,?_,⟨0,JE _ _,Å _ ho,AZ hr (Ă _) (λ k b hk=>absurd hk (oK _)) λ k b _ _=>Ă _⟩,⟨my,hK,hp⟩⟩
   ·intro b mf
    rcases Ò.mp mf with rfl|mf
    ·exact .inr (Î _)
    ·exact .inl (ñ.mp mf)
   ·refine⟨λ b mf=>by simp at mf ⊢;exact .inl mf,λ i h h' ⟨sl,h1,h2,h3⟩ k=>⟨sl,k _ (by simp) _ h1,k _ (by simp) _ h2,h3⟩,λ i s' Q E hi ⟨sl,h1,h2,h3⟩ hq=>?_,λ s' Q E ⟨sl,h1,h2,h3⟩ hq=>?_,λ i s' Q E ⟨sl,h1,h2,h3⟩ hq=>zx h1 hq⟩
    ·rw[Æ,Ď]at hi
     have e1:es[i]? = À es[i]:=by simp[hi]
     have e2:t.place[i]? = À (t.place[i]'(by lia)):=by simp[hpz,hi]
     generalize t.place[i]'(by lia)=pl at e2
     refine Fm (t:=t) (nx:=pl+1) h1 h2 g (λ {E' Q'} Ny=>vZ Sf h2 g hd2 (by rw[h3,e1,e2];exact Ny)) λ h' e k=>?_
     refine hq _ h' s'.toks (by rw[ò,ĕ,e1];rfl) ⟨pl+1,e,(k.2 a (Ć Nw)).trans h2,AZ hr (by lia) (λ m b hm eb=>?_) λ m b hm eb=>?_⟩ λ b o mf e'=>(k.2 b (by simpa using mf)).trans e'
     ·rcases Gp m i with q|q
      ·exact lZ (hr m i b pl q eb e2)
      ·have:m=i:=by lia
       subst this
       rw[e2]at eb;cases eb;exact iG _
     ·exact hr i m pl b (by lia) e2 eb
    ·rw[Æ,Ď]at h3 h1
     refine Fl (t:=t) hh h1 h2 g (λ {E' Q'} Ny=>vZ Sf h2 g hd2 (by rw[h3,mK (Î _)];exact Ny)) λ h' k=>?_
     exact hq h' s'.toks λ b o mf e'=>k b o (by simpa using mf) e'
 split
 ·rename_i hd
  refine Â (xY _ _ _ (by simp) λ ps d hps=>?_)
  refine Â (tZ ?_ (by rw[Æ,hps.length_eq,MI];exact nZ hb))
  have key:=iter (.ref s.heap.objs.size) (s.heap.push { cls:=.type "tuple",data:=.seq (ps.map λ(i:Nat)=>bH i).toArray }) d (λ b o e=>Å _ e) (by rw[ş];exact abn _) ?_
  ·exact key
  have VD:(s.heap.push { cls:=.type "tuple",data:=.seq (ps.map λ(i:Nat)=>bH i).toArray }).get? s.heap.objs.size=À { cls:=.type "tuple",data:=.seq (ps.map λ(i:Nat)=>bH i).toArray }:=Þ _ rfl
  generalize hh1:s.heap.push { cls:=.type "tuple",data:=.seq (ps.map λ(i:Nat)=>bH i).toArray }=h1 at VD
  have XR:∀ b o,s.heap.get? b=À o->h1.get? b=À o:=λ b o e=>by rw[<-hh1];exact Å _ e
  have hz1:h1.objs.size=s.heap.objs.size+1:=by rw[<-hh1,ş]
  have inr:∀ p∈ps,p < es.size:=λ p WQ=>by have:=hps.mem_iff.mp WQ;simpa using this
  refine⟨λ b o e=>Å _ (XR b o e),ps.map λ p=>((es[p]?).map (·.2)).getD .none,[h1.objs.size,a,s.heap.objs.size],λ i h=>h.get? h1.objs.size=À (jA (.ref s.heap.objs.size) i a es.size ep)/\h.get? a=À (eU es ep t)/\h.get? s.heap.objs.size=À { cls:=.type "tuple",data:=.seq (ps.map λ(i:Nat)=>bH i).toArray },?_,by simp,by lia,?_,⟨JE _ _,Å _ (XR _ _ ho),Å _ VD⟩,?_⟩
  ·intro b mf
   simp only[Ò,Ĉ,bz]at mf
   rcases mf with rfl|rfl|rfl
   ·exact .inr (by lia)
   ·exact .inl rfl
   ·exact .inr (Î _)
  ·refine⟨λ b mf=>by simp at mf ⊢;exact .inl mf,λ i h h' hs k=>⟨k _ (by simp) _ hs.1,k _ (by simp) _ hs.2.1,k _ (by simp) _ hs.2.2⟩,λ i s' Q E hi st hq=>?_,λ s' Q E st hq=>?_,λ i s' Q E st hq=>zx st.1 hq⟩
   ·rw[Æ]at hi
    have e1:ps[i]? = À ps[i]:=by simp[hi]
    have e2:es[ps[i]]? = À (es[ps[i]]'(inr _ (cH hi))):=by simp[inr _ (cH hi)]
    refine JU (t:=t) st.1 st.2.1 g st.2.2 e1 e2 λ h' e k=>?_
    refine hq _ h' s'.toks ?_ ⟨e,(k.2 a (Ć (by rw[hz1];exact lZ Nw))).trans st.2.1,(k.2 _ (Ć (by rw[hz1];exact iG _))).trans st.2.2⟩ λ b o mf e'=>(k.2 b (by simpa using mf)).trans e'
    show(ps.map λ p=>((es[p]?).map (·.2)).getD .none)[i]? = _
    rw[ò,e1]
    show À ((YL (·.2) es[ps[i]]?).getD .none)=_
    rw[e2];rfl
   ·rw[Æ]at st
    refine JT (t:=t) hh st.1 st.2.1 g st.2.2 (by simp) λ h' k=>?_
    exact hq h' s'.toks λ b o mf e'=>k b o (by simpa using mf) e'
  ·have e1:(Ģ es.size).map (λ p=>((es[p]?).map (·.2)).getD .none)=es.toList.map (·.2):=by
    apply MG
    intro i
    by_cases hi:i < es.size
    ·simp[hi]
    ·simp[hi]
   have pp:(ps.map λ p=>((es[p]?).map (·.2)).getD .none).Perm (es.toList.map (·.2)):=by rw[<-e1];exact hps.map _
   obtain⟨k2,p2,q2⟩:=gY.perm pp hK
   exact⟨k2,q2,p2.trans hp⟩
 ·rename_i hd
  refine Â (Ê ?_)
  exact bt0 (by simpa using hd)
end
def uniq {K:Type} [Ņ K] (ks:Á K):Á K:=ks.foldl hR []
theorem DE {K:Type} [Ņ K] {ks:Á K}{k:K}(h:ks.Nodup):(hR ks k).Nodup:=by
 unfold hR
 split
 ·exact h
 ·exact gI.mpr ⟨h,by simp,λ z hz y hy e=>by rw[ñ.mp hy]at e;subst e;contradiction⟩
theorem JN {K:Type} [Ņ K] {ks:Á K}{k x:K}:x∈hR ks k ↔ x∈ks∨x=k:=by
 unfold hR
 split
 ·constructor
  ·exact .inl
  ·rintro(h|rfl)<;>assumption
 ·simp
theorem Bu {K:Type} [Ņ K] {ks:Á K}{k:K}:(hR ks k).length<=ks.length+1:=by
 unfold hR
 split
 ·lia
 ·simp
section
variable {prog:ý}{w:ğ}{K:Type} [Ņ K] {knd:Ű prog w K}{A:ō}{E:Ç->Ï->Prop}{s:Ï}{a:Addr}{ks:Á K}
theorem JB (hT:s.TypeIs (.ref a) "set") (h:Q false s):ß (á prog w) A (rJ (.ref a)) Q E s:=by
 unfold rJ
 refine Â (abV hT F.slot_set_len.lookup ?_)
 generalize he:("set.__len__":String)=nm
 wp_delta
 rw[show splitId nm=À ("set","__len__") from by rw[<-he];decide +kernel]
 subst he
 refine Â (AR (T:="set") (b:=true) hT sub_set_self ?_)
 refine C9 (λ z=>absurd z (by decide)) λ _=>?_
 refine C9 (λ _=>Â (qh hT (Ê h))) λ z=>absurd (by decide +kernel) z
theorem Cc (hh:A.handled=none)(hS:jR knd s.heap a ks)
  (h:∀ h' tk d vs my,(∀ b o,s.heap.get? b=À o->h'.get? b=À o)->gY knd vs my->my.Perm ks->R vs { s with heap:=h',toks:=tk,drawn:=d }):ß (á prog w) A (collect (.ref a)) R E s:=by
 have Nw:=hS.lt
 unfold collect
 refine Â (wpAny_runValue (abP PySem.F.entry_proto_collect ?_))
 rw[EC PySem.F.plain_proto_collect _]
 show ß _ A.in1 (MT [] >>= λ l=>again (.builtin "list.__iadd__" ⟨[l,.ref a],[]⟩)) _ _ s
 refine Â (ŝ ?_)
 refine Ê ⟨Iz Aj _,abP PySem.F.entry_list_iadd ?_⟩
 rw[EC Aj _]
 have nw:(s.heap.push { cls:=.type "list",data:=.seq ([]:Á Ç).toArray }).get? s.heap.objs.size=À { cls:=.type "list",data:=.seq #[] }:=Þ _ rfl
 have o1:∀ b o,s.heap.get? b=À o->(s.heap.push { cls:=.type "list",data:=.seq ([]:Á Ç).toArray }).get? b=À o:=λ b o e=>Å _ e
 have z1:(s.heap.push { cls:=.type "list",data:=.seq ([]:Á Ç).toArray }).objs.size=s.heap.objs.size+1:=ş ..
 generalize (s.heap.push { cls:=.type "list",data:=.seq ([]:Á Ç).toArray })=h1 at nw o1 z1 ⊢
 have S1:jR knd h1 a ks:=hS.keep λ o e=>o1 a o e
 show ß _ A.in1 (rH (.ref s.heap.objs.size) (.ref a) (.ref s.heap.objs.size)) _ _ { s with heap:=h1 }
 unfold rH
 refine Â (qh (s:={ s with heap:=h1 }) S1.typeIs ?_)
 have n1:uj (.ref s.heap.objs.size) (.ref a)=false:=by simp[uj];exact λ z=>ŉ _ (z ▸ Nw)
 have n2:(h_ "set" == h_ "list")=false:=by decide
 have n3:(h_ "set" == h_ "tuple")=false:=by decide
 simp only[n1,n2,n3,CK,ą,aa]
 refine Â (Li (s:={ s with heap:=h1 }) (A':=A.in1) hh S1 λ I h2 d zz=>?_)
 obtain⟨o2,L,fp,St,f1,f2,f3,W,st,kk⟩:=zz
 have S2:jR knd h2 a ks:=S1.keep λ o e=>o2 a o e
 have nS:s.heap.objs.size∉fp:=λ z=>by
  rcases f1 _ z with e|e
  ·rw[e]at Nw;exact ŉ _ Nw
  ·have e:h1.objs.size<=s.heap.objs.size:=e
   lia
 refine Â (Ŭ (JB (s:={ s with heap:=h2,drawn:=d }) S2.typeIs ?_))
 have nw2:=o2 _ _ nw
 have lp:∀ (h3:Heap) (c:Nat),(∀ b o,b≠s.heap.objs.size->h2.get? b=À o->h3.get? b=À o)->h3.get? s.heap.objs.size=À { cls:=.type "list",dict:=none,data:=.seq #[] c,slots:=#[] }->
   gK (á prog w) A (.builtin "list.extend.loop" ⟨[.ref s.heap.objs.size,.ref I,.ref s.heap.objs.size],[]⟩) (λ r s'=>match r with
    | .ok f=>(match f with|.ret v=>ß (á prog w) A (match v with|.ref a=>(load a >>= λ o=>match o.data with|.seq xs _=>pure xs.toList|_=>Rg "internal:collect")|_=>Rg "internal:collect") R E s'|_=>False)
    | .error x=>E x s') { s with heap:=h3,drawn:=d }:=λ h3 c k3 e3=>by
  obtain⟨my,q1,q2⟩:=kk
  have hll:L.length<=sizeLine:=by
   rw[q1.length,q2.length_eq]
   obtain⟨es,_,_,ks2,_,_,hb,_,hK,hp,_⟩:=hS
   have hz:es.size=ks.length:=by rw[<-hp.length_eq,<-hK.length,Æ,Ď]
   rw[<-hz]
   exact nZ hb
  refine codeAny_extend_loopS W.toS hll _ nS _ L.length 0 _ #[] c rfl (Ă _) (W.frame 0 h2 h3 st λ b hb o e=>k3 b o (λ z=>nS (z ▸ hb)) e) e3 (ItemsOf.nil _) λ s' þ c' mv e4 it=>?_
  obtain⟨h',g',d',tk',os'⟩:=s'
  have eg:g'=s.gens:=mv.gens
  have ed:d'=d:=mv.drawn
  have eo:os'=s.os:=mv.os
  subst eg ed eo
  show ß _ A (load s.heap.objs.size >>= _) _ _ _
  refine Â (GF e4 (Ê ?_))
  have ea:þ.toList=L:=MG λ j=>by
   by_cases hj:j < þ.size
   ·have:=it.2 j þ[j] (by simp[hj])
    rw[this];simp[hj]
   ·rw[h9 (by simpa using hj),h9 (by rw[<-it.1];lia)]
  refine h h' tk' d' þ.toList my (λ b o e=>?_) (by rw[ea];exact q1) q2
  have hb:b≠s.heap.objs.size:=Ć (Ú e)
  have WG:b≠I:=λ z=>by
   have h5:=Ú (o1 b o e)
   rw[z]at h5
   exact absurd h5 (AF.mpr f3)
  exact mv.heap b o (by simp[hb,WG]) (k3 b o hb (o2 b o (o1 b o e)))
 refine C9 (λ _=>?_) λ _=>Ê ⟨Iz xI _,qe (lp h2 0 (λ _ _ _ e=>e) nw2) (λ r s' hr=>by cases r with|ok f=>(cases f with|ret v=>exact hr|_=>exact hr.elim)|error x=>exact hr)⟩
 refine Â (b9 (Â ?_))
 show ß _ _ (updateSeq s.heap.objs.size (·.push .none) >>= λ _=>updateSeq s.heap.objs.size (·.pop)) _ _ { s with heap:=h2,drawn:=d }
 refine Â (abW nw2 rfl ?_)
 have u1:=dA (ŵ (·.push ē)) nw2 rfl
 refine abW (hz:=by seq_fits) u1 rfl ?_
 exact Ê ⟨Iz xI _,qe (lp _ _ (λ b o hb e=>(cW _ _ (bR hb)).trans ((cW _ _ (bR hb)).trans e)) (dA (ŵ (·.pop)) u1 rfl)) (λ r s' hr=>by cases r with|ok f=>(cases f with|ret v=>exact hr|_=>exact hr.elim)|error x=>exact hr)⟩
end
section
variable {prog:ý}{w:ğ}{K:Type} [Ņ K] {knd:Ű prog w K}{A:ō}{R:VX->Ï->Prop}{I:Addr}{fp wr:Á Addr}{G:ė Q4->ė Q4->Prop}{n:Nat}{P:Nat->Ç->Prop}{St:Nat->Ï->Prop}
end
section
variable {prog:ý}{w:ğ}{K:Type} [Ņ K] {knd:Ű prog w K}{A:ō}{E:Ç->Ï->Prop}{s:Ï}
end
end Sx
namespace L2
open PySem PySem.Spec PyProof.Rows
def Inner (wi:TI)(g:TG)(tt:TT)(te:TE)(D:Addr)(ys:Á V)(σ:St)(H:Hp)(N:Á V->St->Hp->Prop):Prop:=
 wi σ H λ J H1=>∃ W:Nat->Nat->Á V->St->Hp->Prop,(∃ m,W 0 m ys σ H1)/\∀ i m ys uh H2,W i m ys uh H2->
  (J.stop i H2/\N ys uh H2)∨(J.go i H2/\∀ x H3,J.HV i H2 x H3->g x uh H3 λ mF H4=>tt mF H4 λ b H5=>
   if b=true then te mF H5 λ v H6=>H6 D=À (.lst ys)/\ys.length < sizeLine/\∃ m',m' < m/\W (i+1) m' (ys++[v]) mF (upd H6 D (.lst (ys++[v]))) else ∃ m',m' < m/\W (i+1) m' ys mF H5)
def zr (e iter ŭ:Ů)(þ:Ç)(env:ED):YN Unit:=
 Ŝ iter env >>= λ x=>uw iter.pos >>= λ _=>ĉ iter env x >>= λ x=>qg [x] (GA x) >>= λ it=>runOwn (.compStart e 1 it þ env) env >>= λ _=>pure jN
theorem G0 (Sv:Y.xe=λ _ _=>False)(hc:Y.calm=true)(hn:MX e)(hgc:(ZL e)[1]? = À gc) (has:gc.is_async=0)
  (JH:Dc e tg ifs p 1 λ þ env=>Ŝ ŭ env >>= λ x=>call (.builtin "list.append") [þ,x] >>= λ _=>pure jN)
  (hi:PI Y tg iter wi) (hg:PG Y tg g) (ht:xc Y ifs tt) (he:PE Y ŭ te) (hs:∀ x,ĉ iter Y.env x=pure x)
  (I:Inv Y Ä σ H s) (h:Inner wi g tt te D ys σ H N) :
  ß (á Y.prog Y.w) Y.A (zr e iter ŭ (.ref D) Y.env) (λ _ s'=>∃ xA aD H',Inv Y Ä aD H' s'/\N xA aD H') (λ _ _=>False) s:=by
 unfold zr
 have h0:=hi Ä s σ H _ I h
 rw[Sv]at h0
 refine Â (ak h0 λ v s1 h1=>Â (dU (Â (t6 (hs v) (Â (Ŭ (ak h1 λ QB s2 h2=>?_)))))))
 obtain⟨it,fp,tn,J,H2,e2,I2,T,Ax,f2,W,⟨m0,w0⟩,turn⟩:=h2
 subst e2
 have Eh:∀ {H':Hp},(∀ b∈fp,H' b=none)->∀ b∈fp,o_ Y Ä H' b:=λ hn b hb=>⟨hn b hb,(f2 b hb).2⟩
 refine Â (wpAny_runOwn ?_)
 have loop:gK (á Y.prog Y.w) Y.A (.compLoop e 1 (.ref it) (.ref D) Y.env) (λ r s'=>match r with|.ok f=>ß (á Y.prog Y.w) Y.A (pure jN) (λ _ s'=>∃ xA aD H',Inv Y Ä aD H' s'/\N xA aD H') (λ _ _=>False) s'|.error x=>cameBackBy (á Y.prog Y.w) Y.A Y.env (λ _ _=>False) x s') s2:=by
  refine qt hn JH (λ n s'=>∃ i ys aD H',Inv Y Ä aD H' s'/\tn i s'.heap/\(∀ b∈fp,H' b=none)/\W i n ys aD H') ?_ m0 ⟨0,ys,σ,H2,I2,Ax,λ b hb=>(f2 b hb).1,w0⟩
  rintro n s3 ⟨i,Zn,xB,H3,I3,Lm,Ww,w3⟩
  rcases turn i n Zn xB H3 w3 with⟨stop,qn⟩|⟨go,step⟩
  ·refine ak (T.done Y rfl rfl rfl hc i Ä s3 xB H3 _ I3 (Eh Ww) Lm stop) λ r s4 zz=>?_
   obtain⟨hr,I4⟩:=zz
   subst hr
   exact Ê ⟨Zn,xB,H3,I4,qn⟩
  ·refine ak (T.item Y rfl rfl rfl hc i Ä s3 xB H3 _ I3 (Eh Ww) Lm go) λ r s4 zz=>?_
   obtain⟨u,hr,h4⟩:=zz
   subst hr
   refine ak h4 λ _ s5 zz=>?_
   obtain⟨x,H5,I5,r5,y5,Mz,Vx⟩:=zz
   have I5':=I5.pinned (Eh Vx) (T.obj _ _ Mz)
   have back:∀ {L4:St}{H8:Hp}{s8:Ï},Inv Y (Ä++sI fp s5.heap) L4 H8 s8->Inv Y Ä L4 H8 s8/\tn (i+1) s8.heap/\∀ b∈fp,H8 b=none:=λ {L4 H8 s8} I8=>by
    refine⟨I8.nJ,T.keep _ _ _ Mz λ b hb o e=>(I8.pin (b,o) (ç _ (ç _ (gy hb e)))).1,λ b hb=>?_⟩
    obtain⟨o,e,d⟩:=T.obj _ _ Mz b hb
    exact(I8.pin (b,o) (ç _ (ç _ (gy hb e)))).2.1
   have q1:=hg _ s5 xB H5 x u _ I5' r5 (step x H5 y5)
   rw[Sv]at q1
   refine ak q1 λ _ s6 zz=>?_
   obtain⟨VM,H6,I6,q6⟩:=zz
   have q2:=ht _ s6 VM H6 _ I6 q6
   rw[Sv]at q2
   refine ak q2 λ ok s7 zz=>?_
   obtain⟨H7,I7,q7⟩:=zz
   cases ok with
   | false=>
    rw[Ó (by decide)]at q7 ⊢
    obtain⟨m',hm,w9⟩:=q7
    obtain⟨z1,z2,z3⟩:=back I7
    exact⟨m',hm,i+1,Zn,VM,H7,z1,z2,z3,w9⟩
   | true=>
    rw[É rfl]at q7 ⊢
    refine ak (EO (N:=λ v H'=>∃ m',m' < n/\W (i+1) m' (Zn++[v]) VM H') he Sv I7 q7) λ _ Zf zz=>?_
    obtain⟨v,H',I11,m',hm,UP⟩:=zz
    obtain⟨z1,z2,z3⟩:=back I11
    exact⟨m',hm,i+1,_,VM,_,z1,z2,z3,UP⟩
 exact oP hn hgc has loop (T.self _ 0 _ _ _ Ax loop)
def Ep (l:Á (Str × Í Nat)) (wi:TI)(g:TG)(tt:TT)(PN:TI)(g1:TG)(PF:TT)(te:TE):TE:=λ σ H Q=>
 wi σ H λ J H1=>∀ D,H1 D=none->∃ W:Nat->Nat->Á V->St->Hp->Prop,(∃ m,W 0 m [] (xx l σ) (upd H1 D (.lst [])))/\∀ i m ys uh H2,W i m ys uh H2->
  (J.stop i H2/\Q (.ref D) H2)∨(J.go i H2/\∀ x H3,J.HV i H2 x H3->g x uh H3 λ mF H4=>tt mF H4 λ b H5=>
   if b=true then Inner PN g1 PF te D ys mF H5 λ xA aD H'=>∃ m',m' < m/\W (i+1) m' xA aD H' else ∃ m',m' < m/\W (i+1) m' ys mF H5)
section
variable {X:Cx}{ŭ tg iter Cr fJ:Ů}{ifs sk:Á Ů}{scope:Scope}{pos:ki}{wi PN:TI}{g g1:TG}{tt PF:TT}{te:TE}
theorem vd {l:Á (Str × Í Nat)}{cl:Á (Str × Addr)}(e2:∀ y c,cl.lookup y=À c->X.env.cells.lookup y=À c)(e3:∀ x∈scope.names,x.2=.free->∃ c,cl.lookup x.1=À c)(iR:ž X scope l)(cA:X.calm=true)
  (hg:∀ cl C fp s3 H3,PG (Ą X l scope cl C fp s3 H3) tg g) (ht:∀ cl C fp s3 H3,xc (Ą X l scope cl C fp s3 H3) ifs tt)
  (Nv:∀ cl C fp s3 H3,PI (Ą X l scope cl C fp s3 H3) Cr fJ PN) (Sh:∀ cl C fp s3 H3,PG (Ą X l scope cl C fp s3 H3) Cr g1) (Su:∀ cl C fp s3 H3,xc (Ą X l scope cl C fp s3 H3) sk PF)
  (he:∀ cl C fp s3 H3,PE (Ą X l scope cl C fp s3 H3) ŭ te) (NB:∀ env x,ĉ fJ env x=pure x)
  {Ä:Á (Addr × Obj)}{σ:St}{s2:Ï}{fp:Á Addr}{tn:Nat->Heap->Prop}{J:It}{Q:Addr->Hp->Prop}{RR:Ç->Addr->VX->Ï->Prop}{E:Ç->Ï->Prop}
  (I2:Inv X Ä σ H2 s2) (T:Turn X.prog X.w X.K tg J fp it tn) (Ax:tn 0 s2.heap) (f2:∀ b∈fp,o_ X Ä H2 b)
  (hw:∀ D,H2 D=none->∃ W:Nat->Nat->Á V->St->Hp->Prop,(∃ m,W 0 m [] (xx l σ) (upd H2 D (.lst [])))/\∀ i m ys uh H2,W i m ys uh H2->
   (J.stop i H2/\Q D H2)∨(J.go i H2/\∀ x H3,J.HV i H2 x H3->g x uh H3 λ mF H4=>tt mF H4 λ b H5=>
    if b=true then Inner PN g1 PF te D ys mF H5 λ xA aD H'=>∃ m',m' < m/\W (i+1) m' xA aD H' else ∃ m',m' < m/\W (i+1) m' ys mF H5))
  (WB:∀ D C (s':Ï) (H':Hp),Q D H'->(∃ m,s'.heap.Ns C m)->Inv X Ä σ H' s'->o_ X Ä H' C->RR (.ref D) C (.ok .next) s') :
  ß (á X.prog X.w) X.A (MT []) (λ þ s₃=>ß (á X.prog X.w) X.A (mr scope X.env.globals cl [] X.env.qual none .none (À X.env)) (λ A7 s₄=>
   gK (á X.prog X.w) X.A (.compStart (.ListComp ŭ [⟨tg,iter,ifs,0⟩,⟨Cr,fJ,sk,0⟩] scope pos) 0 (.ref it) þ { A7 with scope:=YU scope X.env }) (RR þ A7.locals) s₄) E s₃) E s2:=by
 refine js ?_ (by show 0<=sizeLine;exact Ă _)
 obtain⟨W,⟨m0,w0⟩,turn⟩:=hw _ I2.fresh
 have fpD:∀ b∈fp,b≠s2.heap.objs.size:=λ b hb z=>by
  obtain⟨o,ho,_⟩:=T.obj _ _ Ax b hb
  exact absurd (Ú ho) (by rw[z];exact ŉ _)
 refine vc (α:=Á V) (Q:=Q s2.heap.objs.size) (p:=iter.pos) (body:=zr (.ListComp ŭ [⟨tg,iter,ifs,0⟩,⟨Cr,fJ,sk,0⟩] scope pos) fJ ŭ)
  (B:=λ i m ys σ H5=>Inner PN g1 PF te s2.heap.objs.size ys σ H5 λ xA aD H'=>∃ m',m' < m/\W (i+1) m' xA aD H')
  (.inl ⟨_,_,_,_,rfl⟩) (λ it þ env=>by simp only[zr,bind_assoc,pure_bind];rfl) rfl rfl e2 e3 iR.kind iR.cell cA iR.src hg ht (λ cl C fp s3 H3 Ä s' i m ys σ H I h=>?_)
  (I2.J0 (its:=[]) (ys:=[]) (t':=s2.toks) .nil (Ă _)) T (T.keep _ _ _ Ax λ b _ o e=>Å _ e) (λ b hb=>⟨by rw[ÿ (fpD b hb)];exact(f2 b hb).1,(f2 b hb).2⟩) w0 turn λ C s' H' q=>WB _ C s' H' q
 exact ak (G0 (Y:=Ą X l scope cl C fp s3 H3) rfl cA (.inl ⟨_,_,_,_,rfl⟩) (gc:=⟨Cr,fJ,sk,0⟩) rfl rfl (p:=fJ.pos) (λ _ _ _=>rfl) (Nv cl C fp s3 H3) (Sh cl C fp s3 H3) (Su cl C fp s3 H3) (he cl C fp s3 H3) (NB _) I h) λ _ Zf ⟨xA,aD,H',I',m',hm,w'⟩=>⟨m',xA,aD,H',hm,I',w'⟩
theorem X3 (l:Á (Str × Í Nat)) (iR:ž X scope l)(cA:X.calm=true)(hi:PI X tg iter wi)
  (hg:∀ cl C fp s3 H3,PG (Ą X l scope cl C fp s3 H3) tg g) (ht:∀ cl C fp s3 H3,xc (Ą X l scope cl C fp s3 H3) ifs tt)
  (Nv:∀ cl C fp s3 H3,PI (Ą X l scope cl C fp s3 H3) Cr fJ PN) (Sh:∀ cl C fp s3 H3,PG (Ą X l scope cl C fp s3 H3) Cr g1) (Su:∀ cl C fp s3 H3,xc (Ą X l scope cl C fp s3 H3) sk PF)
  (he:∀ cl C fp s3 H3,PE (Ą X l scope cl C fp s3 H3) ŭ te)
  (hs:∀ x,ĉ iter X.env x=pure x:=by intro _;rfl) (NB:∀ env x,ĉ fJ env x=pure x:=by intro _ _;rfl) :
  PE X (.ListComp ŭ [⟨tg,iter,ifs,0⟩,⟨Cr,fJ,sk,0⟩] scope pos) (Ep l wi g tt PN g1 PF te):=by
 intro Ä s σ H Q I h
 obtain⟨cl,e1,e2,e3⟩:=ee (scope:=scope) (env:=X.env) λ x hx hf=>I.ok.has x.1 (iR.free x hx hf)
 rw[eval_ListComp]
 refine cL (use:=none) rfl hs e1 iR.kind iR.names (ak (hi Ä s σ H _ I h) λ v s1 h1=>ak h1 λ QB s2 h2=>?_)
 obtain⟨it,fp,tn,J,H2,e,I2,T,Ax,f2,hw⟩:=h2
 subst e
 refine vd (RR:=λ þ C=>Gy (á X.prog X.w) X.A X.xe none (EP X Ä σ Q) þ C) e2 e3 iR cA hg ht Nv Sh Su he NB I2 T Ax f2 hw ?_
 intro D C s' H' q ⟨m,hn⟩ I' f'
 refine⟨m,hn,λ h' NA=>?_⟩
 exact⟨.ref D,H',I'.turned (t':=s'.toks) (λ b o hb e=>(NA.2 b hb).trans e) f'.1 f'.2.1 f'.2.2.2.1 f'.2.2.2.2.1 f'.2.2.2.2.2,rfl,q⟩
theorem B3 {py Cd:ki}(l:Á (Str × Í Nat)) (iR:ž X scope l)(cA:X.calm=true)(hN:X.N.Nodup)(hy:X.N[i]? = À y)(hx:X.env.scope.names.lookup y=À .local)(hi:PI X tg iter wi)
  (hg:∀ cl C fp s3 H3,PG (Ą X l scope cl C fp s3 H3) tg g) (ht:∀ cl C fp s3 H3,xc (Ą X l scope cl C fp s3 H3) ifs tt)
  (Nv:∀ cl C fp s3 H3,PI (Ą X l scope cl C fp s3 H3) Cr fJ PN) (Sh:∀ cl C fp s3 H3,PG (Ą X l scope cl C fp s3 H3) Cr g1) (Su:∀ cl C fp s3 H3,xc (Ą X l scope cl C fp s3 H3) sk PF)
  (he:∀ cl C fp s3 H3,PE (Ą X l scope cl C fp s3 H3) ŭ te)
  (Ss:fA (.ListComp ŭ [⟨tg,iter,ifs,0⟩,⟨Cr,fJ,sk,0⟩] scope pos) (À (.Name y py)) Cd.line X.env=pure true)
  (hs:∀ x,ĉ iter X.env x=pure x:=by intro _;rfl) (NB:∀ env x,ĉ fJ env x=pure x:=by intro _ _;rfl) :
  PS X (.Assign [.Name y py] (.ListComp ŭ [⟨tg,iter,ifs,0⟩,⟨Cr,fJ,sk,0⟩] scope pos) Cd) (Lo (Ep l wi g tt PN g1 PF te) (Bh i)):=by
 intro Ä s σ H D0 I h
 obtain⟨cl,e1,e2,e3⟩:=ee (scope:=scope) (env:=X.env) λ x hx hf=>I.ok.has x.1 (iR.free x hx hf)
 rw[P' _ _ _ _ Ss]
 refine Â (dU (Â ?_))
 show ß _ X.A (do let _ <-Iy (.ListComp ŭ [⟨tg,iter,ifs,0⟩,⟨Cr,fJ,sk,0⟩] scope pos) scope X.env _ (MT []) false (Ŝ iter X.env) (À (gX (.Name y py) X.env))) _ _ s
 refine Â (ak (cL (use:=À (gX (.Name y py) X.env)) (Q:=λ _ s'=>SP X Ä D0 .next s') rfl hs e1 iR.kind iR.names
  (ak (hi Ä s σ H _ I h) λ v s1 h1=>ak h1 λ QB s2 h2=>?_)) λ _ s' hq=>Ê (Ê hq))
 obtain⟨it,fp,tn,J,H2,e,I2,T,Ax,f2,hw⟩:=h2
 subst e
 refine vd (RR:=λ þ C=>Gy (á X.prog X.w) X.A X.xe (À (gX (.Name y py) X.env)) (λ _ s'=>SP X Ä D0 .next s') þ C) e2 e3 iR cA hg ht Nv Sh Su he NB I2 T Ax f2 hw ?_
 intro D C s' H' q ⟨m,hn⟩ I' f'
 show ß _ X.A (gX (.Name y py) X.env (.ref D)) _ _ _
 refine yT (sM (v:=.ref D) I' hN hy (.inl hx) rfl (λ HF I'' hk=>?_) (.inr hx))
 obtain⟨a,JG,ha⟩:=hk
 have hCa:C≠a:=by
  rintro rfl
  rcases ha with z|z
  ·exact f'.2.1 z
  ·exact f'.2.2.2.2.1 y _ z rfl
 refine⟨m,hn.sameBut JG hCa,λ h' NA=>?_⟩
 exact⟨_,H',I''.turned (t':=HF.toks) (λ b o hb e=>(NA.2 b hb).trans e) f'.1 f'.2.1 f'.2.2.2.1 f'.2.2.2.2.1 f'.2.2.2.2.2,q⟩
end
open Sx
def xt {P:ý}{w:ğ}{K:Type} [Ņ K] (knd:Ű P w K)(d:Addr)(ks:Á K):HO:=.ext λ h=>jR knd h d ks
theorem FR {K:Type} [Ņ K] {knd:Ű P w K}{ks:Á K}(hS:jR knd h d ks):bf P w H h d (xt knd d ks):=
 ⟨hS,let ⟨_,_,_,_,ho,_⟩:=hS;⟨_,ho⟩,λ _ _ a k=>a.keep k⟩
theorem Inv.drawn (I:Inv X Ä σ H s)(d:Drawn):Inv X Ä σ H { s with drawn:=d }:=⟨I.ok,I.os,I.bare,I.base,I.loc,I.cell,I.free,I.l_,I.pin,I.ar,I.len⟩
section
variable {K:Type} [Ņ K] {enc:K->V}
end
theorem qA:∀ {vs:Á Ç}{ns:Á Int},gY (gM P w) vs ns->qa vs ns
 | [],[],_=>.nil
 | v :: vs,n :: ns,h=>by
  obtain⟨t,e⟩:∃ t,v=.int n t:=by
   have h1:wM n v=true:=h.1
   cases v<;>simp[wM]at h1
   subst h1
   exact⟨_,rfl⟩
  subst e
  exact .cons n t (qA h.2)
 | [],_ :: _,h=>h.elim
 | _ :: _,[],h=>h.elim
def FP {P:ý}{w:ğ}(knd:Ű P w Int):Á V->Hp->VK->Prop:=λ xs H Q=>∃ (d:Addr) (ks:Á Int),xs=[.ref d]/\H d=À (xt knd d ks)/\ks.length < 64/\∀ l (ns:Á Int),H l=none->ns.Perm ks->ns.Pairwise (·<=·)->Q (.ref l) (upd H l (.lst (ns.map V.int)))
theorem A5 (hc:X.calm=true):aQ X (.builtin "sorted") (FP (gM X.prog X.w)):=by
 rintro Ä s σ H xs us Q I rv ⟨d,ks,rfl,hH,Sb,q⟩
 obtain⟨u,rfl,ru⟩:=rv.one
 cases (show u=ú d from ru)
 have hS:jR (gM X.prog X.w) s.heap d ks:=(I.ar d _ hH).1
 refine p4 kind_sorted plain_sorted entry_sorted (args_sorted1 _) ?_
 unfold eF.«sorted»
 refine Â (m:=checkCount "sorted" 1 1 _) (Ê ?_)
 refine Â (Cc (A:=X.A.in1) (I.ok.hd hc) hS λ h' tk dr vs my Qw k1 k2=>?_)
 have hI:=qA k1
 have hl:vs.length=ks.length:=by rw[k1.length,k2.length_eq]
 refine Â (js ?_ (by rw[hl];exact Ŀ (Ş (by lia))))
 have hoL:(h'.push (a9 "list" vs.toArray 0)).get? h'.objs.size=À (a9 "list" vs.toArray 0):=Þ _ rfl
 refine Â (Ŭ (ģ slot_list_sort ⟨_,hoL,rfl⟩ abQ (list_sort_tree hoL hI (by rw[hl];exact Sb) λ out ns a1 a2 a3=>⟨_,rfl,?_⟩) (args_list_sort _)))
 have hold:∀ b u,s.heap.get? b=À u->b≠h'.objs.size:=λ b u e=>Ć (Ú (Qw b u e))
 have hHn:H h'.objs.size=none:=by
  cases q0:H h'.objs.size with
  | none=>rfl
  | some o=>obtain⟨u,hu⟩:=(I.ar _ o q0).pU;exact absurd rfl (hold _ u hu)
 obtain⟨ec,hec⟩:=sortedHeap_at hoL (out:=out)
 refine Ê ⟨_,rfl,.ref h'.objs.size,upd H h'.objs.size (.lst (ns.map V.int)),?_,rfl,q _ ns hHn (a2.trans k2) a3⟩
 refine(I.drawn dr).grown (t':=tk) (λ b u e=>?_) (λ b u e=>ÿ (hold b u e)) λ b o e z=>?_
 ·have e:s.heap.get? b=À u:=e
  rw[sortedHeap_old (hold b u e) (by rw[ş];exact lZ (Ú (Qw b u e)))]
  exact Å _ (Qw b u e)
 ·by_cases hb:b=h'.objs.size
  ·subst hb
   rw[Į]at z
   cases z
   refine⟨by rw[Æ,a2.length_eq,k2.length_eq];exact Ŀ (Ş (by lia)),_,ec,mj a1,?_⟩
   rw[hec]
  ·rw[ÿ hb]at z
   obtain⟨u,hu⟩:=(I.ar b o z).pU
   have e:s.heap.get? b=none:=e
   rw[hu]at e;cases e
def Lr {P:ý}{w:ğ}(knd:Ű P w Int)(l:Á (Str × Í Nat)) (wi:TI)(g:TG)(tt:TT)(te:TE):TE:=λ σ H Q=>
 wi σ H λ J H1=>∀ D,H1 D=none->∃ W:Nat->Nat->Á Int->St->Hp->Prop,(∃ m,W 0 m [] (xx l σ) (upd H1 D (xt knd D [])))/\∀ i m ys uh H2,W i m ys uh H2->
  (J.stop i H2/\Q (.ref D) H2)∨(J.go i H2/\∀ x H3,J.HV i H2 x H3->g x uh H3 λ mF H4=>tt mF H4 λ b H5=>
   if b=true then te mF H5 λ v H6=>∃ n,v=.int n/\H6 D=À (xt knd D ys)/\ys.length+1 < scanBound/\∃ m',m' < m/\W (i+1) m' (hR ys n) mF (upd H6 D (xt knd D (hR ys n))) else ∃ m',m' < m/\W (i+1) m' ys mF H5)
section
variable {X:Cx}{ŭ tg iter:Ů}{ifs:Á Ů}{scope:Scope}{pos:ki}{wi:TI}{g:TG}{tt:TT}{te:TE}
theorem Kz (l:Á (Str × Í Nat)) (iR:ž X scope l)(cA:X.calm=true)(hi:PI X tg iter wi)
  (hg:∀ cl C fp s3 H3,PG (Ą X l scope cl C fp s3 H3) tg g) (ht:∀ cl C fp s3 H3,xc (Ą X l scope cl C fp s3 H3) ifs tt)
  (he:∀ cl C fp s3 H3,PE (Ą X l scope cl C fp s3 H3) ŭ te) (hs:∀ x,ĉ iter X.env x=pure x:=by intro _;rfl) :
  PE X (.SetComp ŭ [⟨tg,iter,ifs,0⟩] scope pos) (Lr (gM X.prog X.w) l wi g tt te):=by
 intro Ä s σ H Q I h
 obtain⟨cl,e1,e2,e3⟩:=ee (scope:=scope) (env:=X.env) λ x hx hf=>I.ok.has x.1 (iR.free x hx hf)
 show ß _ X.A (Iy (.SetComp ŭ [⟨tg,iter,ifs,0⟩] scope pos) scope X.env iter.pos (newSet (.type "set")) false (Ŝ iter X.env) none) _ _ s
 refine cL (use:=none) rfl hs e1 iR.kind iR.names (ak (hi Ä s σ H _ I h) λ v s1 h1=>ak h1 λ QB s2 h2=>?_)
 obtain⟨it,fp,tn,J,H2,e,I2,T,Ax,f2,hw⟩:=h2
 subst e
 refine uL (knd:=gM X.prog X.w) λ hS=>?_
 obtain⟨W,⟨m0,w0⟩,turn⟩:=hw _ I2.fresh
 have fpD:∀ b∈fp,b≠s2.heap.objs.size:=λ b hb z=>by
  obtain⟨o,ho,_⟩:=T.obj _ _ Ax b hb
  exact absurd (Ú ho) (by rw[z];exact ŉ _)
 refine vc (α:=Á Int) (Q:=λ H'=>Q (.ref s2.heap.objs.size) H') (RR:=Gy (á X.prog X.w) X.A X.xe none (EP X Ä σ Q) (.ref s2.heap.objs.size)) (p:=iter.pos)
  (body:=λ þ env=>Ŝ ŭ env >>= λ v=>uw ŭ.pos >>= λ _=>call (.builtin "set.add") [þ,v] >>= λ _=>pure jN)
  (B:=λ i m ys σ H5=>te σ H5 λ v H6=>∃ n,v=.int n/\H6 s2.heap.objs.size=À (xt (gM X.prog X.w) s2.heap.objs.size ys)/\ys.length+1 < scanBound/\∃ m',m' < m/\W (i+1) m' (hR ys n) σ (upd H6 s2.heap.objs.size (xt (gM X.prog X.w) s2.heap.objs.size (hR ys n))))
  (.inr ⟨_,_,_,_,rfl⟩) (λ _ _ _=>rfl) rfl rfl e2 e3 iR.kind iR.cell cA iR.src hg ht (λ cl C fp s3 H3 Ä s' i m ys σ H I h=>?_)
  (I2.laid (a:=s2.heap.objs.size) (o:=xt (gM X.prog X.w) s2.heap.objs.size []) (t':=s2.toks) (λ b o e=>Å _ e) (Î _) (FR hS)) T (T.keep _ _ _ Ax λ b _ o e=>Å _ e) (λ b hb=>⟨by rw[ÿ (fpD b hb)];exact(f2 b hb).1,(f2 b hb).2⟩) w0 turn ?_
 ·refine Â (ak (he cl C fp s3 H3 Ä s' σ H _ I h) λ u s10 zz=>?_)
  obtain⟨v,H10,I10,r10,n,ev,hD,hz,m',hm,UP⟩:=zz
  subst ev
  obtain⟨t,rfl⟩:=r10
  refine Â (dU (Â (Pb (knd:=gM X.prog X.w) (intKind_is _ _ n t) rfl (I10.ar _ _ hD).1 hz λ h' sb S'=>Ê ⟨m',_,σ,_,hm,?_,UP⟩)))
  exact I10.write (t':=s10.toks+1) (e:=s2.heap.objs.size) (by rw[hD];trivial) (.inl rfl) (λ b u hb e=>(sb.2 b hb).trans e) (let ⟨_,_,_,_,ho,_⟩:=S';⟨_,ho⟩) (FR S')
 ·intro C s' H' q ⟨m,hn⟩ I' f'
  refine⟨m,hn,λ h' NA=>?_⟩
  exact⟨.ref s2.heap.objs.size,H',I'.turned (t':=s'.toks) (λ b o hb e=>(NA.2 b hb).trans e) f'.1 f'.2.1 f'.2.2.2.1 f'.2.2.2.2.1 f'.2.2.2.2.2,rfl,q⟩
end
end L2
namespace Mm
open PySem L2 Sx
def insI (a:Int):Á Int->Á Int
 | []=>[a]
 | b :: r=>if a<=b then a :: b :: r else b :: insI a r
def sortI:Á Int->Á Int
 | []=>[]
 | a :: r=>insI a (sortI r)
theorem insI_perm (a:Int):∀ l,(insI a l).Perm (a :: l)
 | []=>.refl _
 | b :: r=>by
  unfold insI
  split
  ·exact .refl _
  ·exact((insI_perm a r).cons b).trans (.swap _ _ _)
theorem sortI_perm:∀ l,(sortI l).Perm l
 | []=>.refl _
 | a :: r=>(insI_perm a (sortI r)).trans ((sortI_perm r).cons a)
theorem s_ (a:Int):∀ {l:Á Int},l.Pairwise (·<=·)->(insI a l).Pairwise (·<=·)
 | [],_=>C7 _ _
 | b :: r,h=>by
  unfold insI
  have h':=ġ.mp h
  split
  ·rename_i GX
   refine ġ.mpr ⟨λ c hc=>?_,h⟩
   rcases Ò.mp hc with rfl|hc
   ·exact GX
   ·exact Int.le_trans GX (h'.1 c hc)
  ·rename_i GX
   refine ġ.mpr ⟨λ c hc=>?_,s_ a h'.2⟩
   rcases Ò.mp ((insI_perm a r).mem_iff.mp hc) with rfl|hc
   ·lia
   ·exact h'.1 c hc
theorem lQ:∀ l,(sortI l).Pairwise (·<=·)
 | []=>.nil
 | a :: r=>s_ a (lQ r)
theorem Ef (p:l.Perm q)(h:l.Pairwise (·<=·)):l=sortI q:=
 (p.trans (sortI_perm q).symm).eq_of_pairwise (λ _ _ _ _ h1 h2=>Int.le_antisymm h1 h2) h (lQ q)
theorem Bg [Ņ K]:∀ (l ks:Á K),(l.foldl hR ks).length<=ks.length+l.length
 | [],ks=>Î _
 | a :: r,ks=>by
  have h1:=Bg r (hR ks a)
  have h2:(hR ks a).length<=ks.length+1:=Bu
  simp only[xG,å]
  lia
theorem boot_max:č "max"=À (.builtin "max"):=by decide +kernel
theorem Pe (h:n < 64):n+1 < scanBound:=by unfold scanBound;lia
section
variable {T:Tx}{XE:ia}{X:Cx}{pos:ki}
def jw (bO:Mt)(test:Eb)(ŭ:Ev)(gs:Gd):Á AV->En->S->Á Int->R (Á Int)
 | [],env,s,þ=>open Classical in if k6 gs s then .ok þ s else .bad
 | v :: r,env,s,þ=>open Classical in if k6 gs s then (match bO v env s with
   | .nx e1 s1=>(test e1 s1).calm.bind λ b s2=>if b=true then (ŭ e1 s2).calm.bind λ x s3=>(match x with|.int n=>jw bO test ŭ gs r e1 s3 (hR þ n)|_=>.bad) else jw bO test ŭ gs r e1 s2 þ
   | _=>.bad) else .bad
def vo (l:Lc)(src:Src)(bO:Mt)(test:Eb)(ŭ:Ev):jQ:=λ env s=>(src env s).bind λ p s1=>if p.1.length < 64 then (jw bO test ŭ p.2 p.1 (lS l env) s1 []).bind λ ns s2=>.ok ((sortI ns).map .int) s2 else .bad
theorem SR.ext (sr:SR T ρ s H)(h:H D=À (.ext φ)) (n:D∉ρ):SR T ρ s (upd H D o)/\Gr ρ H ρ (upd H D o):=by
 have g:Gr ρ H ρ (upd H D o):=⟨a7,λ b ys e=>by rw[ÿ (qL e h (by intro z;cases z))];exact e,λ b p v e=>by rw[ÿ (qL e h (by intro z;cases z))];exact e⟩
 exact⟨sr.up g λ a ha=>ÿ λ z=>n (z ▸ ha),g⟩
theorem IW (h:tL T XE (vo l src bO test ŭ) σ H Q) :
  Lr (gM X.prog X.w) l (tW T XE src) (tT T kZ bO) (iT T kZ test) (tE T kZ ŭ) σ H λ v H2=>FP (gM X.prog X.w) [v] H2 Q:=by
 obtain⟨ρ,env,s,hs,he,ho⟩:=h
 refine⟨ρ,env,s,hs,he,?_⟩
 unfold vo at ho
 cases e:src env s with
 | bad=>rw[e]at ho;exact ho
 | ex c s1=>rw[e]at ho;exact ho
 | ok p s1=>
  rw[e]at ho
  obtain⟨xs,gs⟩:=p
  obtain⟨hlen,ho⟩:=ho.ų
  have hlen:xs.length < 64:=hlen
  intro ī H1 J u1 Ŧ wk D hD
  have wk:Walks T ī H1 xs gs J:=wk
  have nD:D∉ī:=Ŧ.out hD
  refine⟨λ i m ys aD H'=>m=xs.length - i/\i<=xs.length/\ys.length<=i/\∃ ħ bJ s',Up ī H1 ħ H'/\SR T ħ s' H'/\ER T ħ H' bJ aD/\H' D=À (xt (gM X.prog X.w) D ys)/\D∉ħ/\Out T XE (rL T) ρ H ((jw bO test ŭ gs (xs.drop i) bJ s' ys).bind λ ns s2=>.ok ((sortI ns).map .int) s2) Q,
   ⟨_,rfl,Ă _,Î _,ī,lS l env,s1,Ŧ.fP hD,Ŧ.new hD,((he.up u1).up (Ŧ.fP hD)).src l,Į,nD,ho⟩,?_⟩
  rintro i m ys aD H' ⟨rfl,hi,hy,ħ,bJ,s',u',iw,Jh,hd,Ik,Ĝ⟩
  by_cases qy:i < xs.length
  ·rw[au qy]at Ĝ
   unfold jw at Ĝ
   by_cases si:k6 gs s'
   ·rw[É si]at Ĝ
    obtain⟨w1,w2⟩:=(wk.turn ħ s' H' u' iw si).1 i xs[i] (Ñ qy)
    refine .inr ⟨w1,λ x H'' Sw=>?_⟩
    obtain⟨y1,y2,y3⟩:=w2 x H'' Sw
    refine⟨ħ,bJ,s',xs[i],y2,Jh.up y1,y3,?_⟩
    have GY:=y1.fr D _ hd Ik
    cases et:bO xs[i] bJ s' with
    | nx e1 s2=>
     simp only[et]at Ĝ
     refine λ cR H2 mF u2 jk lC=>⟨cR,e1,s2,jk,lC,?_⟩
     have hd2:=u2.fr D _ GY.1 GY.2
     cases eb:test e1 s2 with
     | bad=>simp only[eb,gZ,Ķ]at Ĝ;exact Ĝ.elim
     | ex c s3=>simp only[eb,R.calm,Ķ]at Ĝ;exact Ĝ.elim
     | ok b s3=>
      simp only[eb,jv,bI]at Ĝ
      intro nV H3 b' u3 oW RO
      cases (show b=b' from RO)
      have xh:=u3.fr D _ hd2.1 hd2.2
      have LB:Up ī H1 nV H3:=((u'.trans y1).trans u2).trans u3
      cases b with
      | false=>
       rw[Ó (by decide)]at Ĝ ⊢
       exact⟨xs.length - (i+1),by lia,rfl,qy,by lia,nV,e1,s3,LB,oW,lC.up u3,xh.1,xh.2,Ĝ⟩
      | true=>
       rw[É rfl]at Ĝ ⊢
       refine⟨nV,e1,s3,oW,lC.up u3,?_⟩
       cases ev:ŭ e1 s3 with
       | bad=>simp only[ev,gZ,Ķ]at Ĝ;exact Ĝ.elim
       | ex c s4=>simp only[ev,R.calm,Ķ]at Ĝ;exact Ĝ.elim
       | ok v s4=>
        simp only[ev,jv,bI]at Ĝ
        intro Gm H4 x4 u4 Uy PL
        have PL:VR T Gm H4 v x4:=PL
        have Bo:=u4.fr D _ xh.1 xh.2
        cases v with
        | int n=>
         cases PL.int_inv
         obtain⟨sr5,g5⟩:=SR.ext (o:=xt (gM X.prog X.w) D (hR ys n)) Uy Bo.1 Bo.2
         exact⟨n,rfl,Bo.1,Pe (by lia),xs.length - (i+1),by lia,rfl,qy,ā Bu (by lia),Gm,e1,s4,(LB.trans u4).mod hD Bo.2,sr5,((lC.up u3).up u4).gr g5,Į,Bo.2,Ĝ⟩
        | _=>simp only[Ķ]at Ĝ;exact Ĝ.elim
    | ex c s1=>simp only[et,Ķ]at Ĝ;exact Ĝ.elim
    | rt v s2=>simp only[et,Ķ]at Ĝ;exact Ĝ.elim
    | bk v s2=>simp only[et,Ķ]at Ĝ;exact Ĝ.elim
    | ct v s2=>simp only[et,Ķ]at Ĝ;exact Ĝ.elim
    | bad=>simp only[et,Ķ]at Ĝ;exact Ĝ.elim
   ·rw[Ó si]at Ĝ;exact Ĝ.elim
  ·have e:i=xs.length:=by lia
   subst e
   rw[iz]at Ĝ
   unfold jw at Ĝ
   by_cases si:k6 gs s'
   ·rw[É si]at Ĝ
    refine .inl ⟨(wk.turn ħ s' H' u' iw si).2,D,ys,rfl,hd,by lia,λ l ns hl hp hs=>?_⟩
    rw[Ef hp hs]
    exact(Out.up (u1.trans u') Ĝ).lst iw hl (Ĵ.map (λ _=>bh) _)
   ·rw[Ó si]at Ĝ;exact Ĝ.elim
theorem N8 (hm:X.mg "sorted"=none)(l:Lc)(iR:ž X scope l)(cA:X.calm=true)(hi:PI X tg iter (tW T XE src))
  (hg:∀ cl C fp s3 H3,PG (Ą X l scope cl C fp s3 H3) tg (tT T kZ bO)) (ht:∀ cl C fp s3 H3,xc (Ą X l scope cl C fp s3 H3) ifs (iT T kZ test)) (he:∀ cl C fp s3 H3,PE (Ą X l scope cl C fp s3 H3) ŭ (tE T kZ me))
  (hs:∀ x,ĉ iter X.env x=pure x:=by intro _;rfl) (hgl:Gl X "sorted":=by rfl)
  (VC:à [.SetComp ŭ [⟨tg,iter,ifs,0⟩] scope X8] X.env=(false,Ŝ (.SetComp ŭ [⟨tg,iter,ifs,0⟩] scope X8) X.env) :: à [] X.env:=by rfl) (nc:(aO pos (à [] X.env)).any (·.1)=false:=by rfl) :
  PE X (.Call (.Name "sorted" p) [.SetComp ŭ [⟨tg,iter,ifs,0⟩] scope X8] [] pos) (tL T XE (vo l src bO test me)):=
 PE.imp (kO (A5 cA) hgl hm uq (fM (Kz l iR cA hi hg ht he hs) lO VC) (by decide) (by decide) VC nc) λ _ _ _ h=>IW h
end
end Mm
namespace L2
open PySem PySem.Spec PyProof.Rows
def ZS (x:Str):It:=⟨λ i _=>i < x.length,λ i H v H'=>H'=H/\∃ c,x.cps[i]? = À c/\v=.str ⟨#[c]⟩,λ i _=>x.length<=i⟩
theorem Lw {K:Ô}(x:Str)(t:YO)(it:Addr):Turn P w K tg (ZS x) [it] it (λ i h=>h.IsStrIter it "str_ascii_iterator" x t i) where
 mem:=by simp
 obj:=λ i h st b hb=>by
  have e:b=it:=by simpa using hb
  subst e
  obtain⟨o,e,c,d⟩:=st
  exact⟨o,e,λ v z=>by rw[d]at z;cases z⟩
 keep:=λ i h h' st k=>by
  obtain⟨o,e,c,d⟩:=st
  exact⟨o,k it (by simp) o e,c,d⟩
 item:=by
  intro X hP hw hK hc i Ä s σ H E I hf st hg
  subst hP hw hK
  have hi:x.cps[i]? = À (x.cps[i]'hg):=Array.getElem?_eq_getElem hg
  obtain⟨f0,f1,f2,f3,f4,f5⟩:=hf it (by simp)
  refine wpAny_pyNext_ascii_item st hi λ h' zR sb=>?_
  have I1:Inv X Ä σ H { s with heap:=h',toks:=s.toks+1 }:=I.turned (t':=s.toks+1) (λ b o hb e=>(sb.2 b hb).trans e) f0 f1 f3 f4 f5
  obtain⟨o,e,c,d⟩:=id zR
  exact⟨_,rfl,E_ (s:={ s with heap:=h',toks:=s.toks+1 }) e c d (by decide) ⟨.str _,H,I1,⟨_,rfl⟩,⟨rfl,_,hi,rfl⟩,zR,λ b hb=>(hf b hb).1⟩⟩
 done:=by
  intro X hP hw hK hc i Ä s σ H E I hf st hg
  subst hP hw hK
  obtain⟨f0,f1,f2,f3,f4,f5⟩:=hf it (by simp)
  have hg:x.cps.size<=i:=hg
  exact wpAny_pyNext_ascii_end (I.ok.hd hc) st (mK hg) λ h' eb=>⟨rfl,I.turned (t':=s.toks) (λ b o hb e=>eb b o hb e) f0 f1 f3 f4 f5⟩
 self:=λ _ _ _ _ _ st h=>wpAny_pyIter_striter_ascii st h
theorem T7 {te:TE}(h:PE X e te):PI X tg e (λ σ H R=>te σ H λ x H1=>∃ t,x=.str t/\t.cps.all (· < 128)=true/\R (ZS t) H1):=by
 intro Ä s σ H R I hq
 refine ak (h Ä s σ H _ I hq) λ u s1 zz=>?_
 obtain⟨x,H1,I1,rx,t,ex,ha,q⟩:=zz
 subst ex
 obtain⟨tk,rfl⟩:=rx
 refine wpAny_pyIter_ascii ha ?_
 refine⟨s1.heap.objs.size,[s1.heap.objs.size],_,ZS t,H1,rfl,I1.kept (t':=s1.toks) λ b o e=>Å _ e,Lw t tk _,⟨_,Þ _ rfl,rfl,rfl⟩,λ b hb=>?_,q⟩
 have e:b=s1.heap.objs.size:=by simpa using hb
 subst e
 exact I1.Dx (Î _) (I1.ar.fresh (Î _))
end L2
namespace Mm
open PySem L2
section
variable {T:Tx}{XE:ia}{X:Cx}{pos:ki}
structure Dg (i:Int):Prop where
 f:i.natAbs < 10 ^ 4300
instance {i:Int}:aN (Dg i):=eV _
abbrev Ej:=Str->En->S->R Str
def abZ (m:Ev)(r:Ej):Ej:=λ þ env s=>(m env s).bind λ v s1=>match v with
 | .str y=>if (þ++y).length<=sizeLine then r (þ++y) env s1 else .bad
 | _=>.bad
def sgn (c:Nat):AV:=.str ⟨#[c]⟩
def HM (m:Ev):Src:=λ env s=>(m env s).bind λ v s1=>match v with
 | .str t=>if t.cps.all (· < 128)=true then .ok (t.cps.toList.map sgn,[]) s1 else .bad
 | _=>.bad
theorem aaH (h:PE X e (tE T XE m)):PI X tg e (tW T XE (HM m)):=
 PI.imp (T7 h) λ σ H R zz=>Ŵ zz λ ρ env s hs he ho=>step hs he ho λ v s1 ī H1 x _ u1 Ŧ df ŧ Ĥ=>by
  have ŧ:VR T ī H1 v x:=ŧ
  cases v<;>try exact Ĥ.elim
  rename_i t _ _
  obtain⟨hl,Ĥ⟩:=Ĥ.ų
  refine⟨t,ŧ.str_inv,hl,Ĥ ī H1 _ .refl Ŧ ⟨λ ħ s' H' u' iw _=>⟨λ j v e=>?_,by show t.length<=_;rw[Æ];exact Î _⟩⟩⟩
  rw[ò]at e
  cases ec:t.cps.toList[j]? with
  | none=>rw[ec]at e;cases e
  | some c=>
   rw[ec]at e
   cases e
   have hj:j < t.cps.size:=by
    have:=(Ë.mp ec).1
    simpa using this
   refine⟨hj,λ y H'' ⟨e1,c',RT,ey⟩=>?_⟩
   subst e1 ey
   have:c'=c:=by
    rw[ĕ]at ec
    rw[ec]at RT
    exact(ă RT).symm
   subst this
   exact⟨.refl,iw,sO⟩
end
end Mm
namespace L2
open PySem PySem.Spec PySem.W PyProof.Rows
section
variable {M:Model}{A:ō}{E:Ç->Ï->Prop}{s:Ï}
end
section
variable {M:Model}{A:ō}{E:Ç->Ï->Prop}{K:Ô}{C D:Addr}{nm nm2:Str}{bm bm2:Á Ç}{ini acb:Í Ç}
end
section
variable {X:Cx}{Ä:Á (Addr × Obj)}{σ:St}{H:Hp}{s:Ï}
end
end L2
namespace Mm
open PySem L2
section
variable {T:Tx}{XE:ia}{X:Cx}{pos:ki}
end
end Mm
namespace L2
open PySem PySem.Spec PySem.W PyProof.Rows
section
variable {X:Cx}{e:Ů}{es:Á Ů}{v:V}{vs:Á V}
end
end L2
namespace Mm
open PySem L2
section
variable {T:Tx}{XE:ia}{X:Cx}{pos:ki}
end
open PySem.W
section
variable {T:Tx}{XE:ia}{X:Cx}{pos:ki}{mg:Str->Í Ç}
end
end Mm
namespace Ro
open PySem L2 Mm
section
variable {P:ý}{w:ğ}{T:Tx}{mg:Str->Í Ç}{base:Heap}
end
end Ro
namespace Mm
open PySem L2
section
variable {T:Tx}{XE:ia}{X:Cx}{pos:ki}
end
end Mm
namespace Ro
open PySem L2 Mm
section
variable {P:ý}{w:ğ}{T:Tx}{mg:Str->Í Ç}{base:Heap}
end
end Ro
namespace Mm
open PySem L2
section
variable {T:Tx}{XE:ia}{X:Cx}{pos:ki}
def Yy:Á AV->Í (Á Str)
 | []=>À []
 | .str x :: r=>(Yy r).map (x :: ·)
 | _=>none
end
end Mm
namespace L2
open PySem PySem.Spec PySem.W PyProof.Rows
theorem Hu:fo X (ċ .LtE) (λ x y H Q=>∃ i j,x=.str i/\y=.str j/\Q (.bl (!decide (j.cps.toList < i.cps.toList))) H):=by
 intro Ä s σ H x y v u Q I rx ry h
 obtain⟨i,j,rfl,rfl,q⟩:=h
 obtain⟨t,rfl⟩:=rx
 obtain⟨t',rfl⟩:=ry
 exact PySem.P.le_str (ũ I q rfl)
end L2
namespace Mm
open PySem L2 Sx
section
variable {T:Tx}{XE:ia}{X:Cx}{pos:ki}
def nB:AV->AV->S->R AV
 | .str i,.str j,s=>.ok (.bl (!decide (j.cps.toList < i.cps.toList))) s
 | _,_,_=>.bad
theorem Oh:fo X (ċ .LtE) (pQ T XE nB):=by
 rintro Ä s σ H x y v u Q I rx ry ⟨ρ,a,b,st,sr,va,vb,ho⟩
 cases a<;>cases b<;>try exact ho.elim
 exact Hu Ä s σ H x y v u Q I rx ry ⟨_,_,va.str_inv,vb.str_inv,ho.Ĭ sr dw⟩
theorem El:fA (.List v p) (À (.Name x q)) n env=pure false:=rfl
theorem Od (hN:X.N.Nodup)(he:PA X v (tP T XE l)) (hi:X.N[i]? = À x)(hx:Loc X.env.scope x)(hf:X.fn x=true∨X.env.scope.names.lookup x=À .local) :
  PS X (.Assign [.Name x pos'] (.List v p) pos) (tS T XE (Ī i (Ę (aL l)))):=J9 hN (J4 (J6 he)) hi hx El hf
end
mutual
def Wm:AV->Nat
 | .tup xs=>Ja xs+1
 | .sq xs=>Ja xs+1
 | _=>0
def Ja:Á AV->Nat
 | []=>0
 | v :: r=>max (Wm v) (Ja r)
end
section
variable {T:Tx}{XE:ia}{X:Cx}{Ä:Á (Addr × Obj)}{σ:St}{H:Hp}{s:Ï}{ρ:Á Addr}
end
section
variable {T:Tx}{XE:ia}{X:Cx}{pos:ki}
end
end Mm
namespace L2
open PySem PySem.Spec PyProof.Rows
section
variable {prog:ý}{w:ğ}{A:ō}{E:Ç->Ï->Prop}{s:Ï}
end
end L2
namespace Mm
open PySem L2
section
variable {T:Tx}{XE:ia}{X:Cx}{pos:ki}
def kindOf:AV->Bool
 | .tup _=>true
 | _=>false
end
end Mm
namespace Ro
open PySem L2 Mm
def ng:AV:=.int 8
def xK:Ms:=
 (ě (Ö nC (Ö cO (Ö Ħ (mv 0) (mc (.int 0))) (Ö Ħ (mv 1) (mc (.int 1)))) (Ö cO (Ö Ħ (mv 1) (mc (.int 0))) (Ö Ħ (mv 0) (mc (.int 1))))))
def gp:Á AV->S->R AV:=g_ 2 xK
def mU:Ms:=
 (ě (mz (gR (aR "int") (mv 0)) (gR we (gR (aR "bool") (mv 0)))))
def e8:Á AV->S->R AV:=g_ 1 mU
def oO:Ms:=
 (ě (mz (gR (aR "tuple") (mv 0)) (Ö cz (kl cZ (Ã (mv 0) Ð)) (mv 1))))
def ź:Á AV->S->R AV:=g_ 2 oO
def xM:Ms:=
 (ì (eL (rG (dO (cT (gR (aR "str") (mv 0)))) (dO (cB (aU j_ j_ (mc (.int 1)) (kl cZ (Ã (mv 0) Ð)) (mc ng))))) (ě (mc (.bl false))) Ľ)
 (ě (mI ug (Œ [("sign",none)] (HM (mv 0)) (gN 0) de (aU nB nB (mc (.str "a")) (mv 0) (mc (.str "z")))))))
def iQ:Á AV->S->R AV:=g_ 1 xM
end Ro
namespace Mm
open PySem L2
def NP:Key->d_
 | .inl i=>.int i
 | .inr x=>.str x
def toP:Nat->S->AV->Í d_
 | _,_,.ĥ=>À .none
 | _,_,.bl b=>À (.bool b)
 | _,_,.int b=>À (.int b)
 | _,_,.str b=>À (.str b)
 | n+1,s,.tup xs=>(xs.mapM (toP n s)).map .tuple
 | n+1,s,.ref i=>match s[i]? with
  | some (.lst xs)=>(xs.mapM (toP n s)).map .list
  | some (.dK kvs)=>((kvs.map (·.2)).mapM (toP n s)).map λ vs=>.dict ((kvs.map λ p=>NP p.1).zip vs)
  | _=>none
 | _,_,_=>none
mutual
def vD:d_->Bool
 | .list _=>true
 | .tuple xs=>oR xs
 | .dict kvs=>Bm kvs
 | _=>false
def oR:Á d_->Bool
 | []=>false
 | x :: xs=>vD x || oR xs
def Bm:Á (d_ × d_)->Bool
 | []=>false
 | (_,v) :: r=>vD v || Bm r
end
section
variable {T:Tx}{XE:ia}{X:Cx}{pos:ki}
def RdV (h:Heap)(v:V)(d:d_):Prop:=∀ u,RelV v u->∃ as,Reads h u d as/\(vD d=false->br∉as)
theorem jG (hf:∀ v d x,f v=À d->VR T ρ H v x->RdV h x d):∀ {xs:Á AV}{l:Á d_}{vs:Á V}{us:Á Ç},xs.mapM f=À l->Ĵ T ρ H xs vs->Vals vs us->∃ as,ReadsAll h us l as/\(oR l=false->br∉as)
 | [],l,vs,us,e,k,r=>by
  rw[lY]at e
  cases e
  cases k.nil_inv
  cases r
  exact⟨[],.nil,λ _ z=>nomatch z⟩
 | a :: r',l,vs,us,e,k,r=>by
  obtain⟨b,q,e1,e2,rfl⟩:=BF e
  obtain⟨x,ys,rfl,k1,k2⟩:=k.cons_inv
  cases r with
  | cons r1 r2=>
   obtain⟨as,h1,h2⟩:=hf a b x e1 k1 _ r1
   obtain⟨bs,h3,h4⟩:=jG hf e2 k2 r2
   refine⟨as++bs,.cons h1 h3,λ z m=>?_⟩
   unfold oR at z
   obtain⟨z1,z2⟩:=Bool.or_eq_false_iff.mp z
   exact(ê.mp m).elim (h2 z1) (h4 z2)
where
 BF {α β:Type}{f:α->Í β}{a:α}{l:Á α}{r:Á β}(h:(a :: l).mapM f=À r):∃ b q,f a=À b/\l.mapM f=À q/\r=b :: q:=by
  rw[kg]at h
  cases e1:f a with
  | none=>rw[e1]at h;cases h
  | some b=>
   cases e2:l.mapM f with
   | none=>rw[e1,e2]at h;cases h
   | some q=>rw[e1,e2]at h;cases h;exact⟨b,q,rfl,rfl,rfl⟩
theorem yo:∀ {es:Á L8}{vs:Á (Key × Ç)},PySem.Pairs (Ż prog w) es vs->ReadsAll h (es.map (·.key)) (vs.map λ p=>NP p.1) []/\es.map (·.val)=vs.map (·.2)
 | _,_,.nil=>⟨.nil,rfl⟩
 | _,_,.cons (e:=e) (kv:=kv) hk hv hr=>by
  obtain⟨h1,h2⟩:=yo hr
  refine⟨?_,by simp only[È,hv,h2]⟩
  obtain⟨k,v⟩:=kv
  have hk:vM k e.key=true:=hk
  rcases a8 hk with⟨i,t,rfl,q⟩|⟨x,t,rfl,q⟩
  ·rw[È,q];exact .cons (as:=[]) (.int i t) h1
  ·rw[È,q];exact .cons (as:=[]) (.str x t) h1
theorem yd:∀ {ks:Á d_}{vs:Á d_},ks.length=vs.length->Bm (ks.zip vs)=oR vs
 | [],[],_=>by simp[Bm,oR]
 | [],_ :: _,h=>by simp at h
 | _ :: _,[],h=>by simp at h
 | k :: ks,v :: vs,h=>by simp only[Md,Bm,oR,yd (by simpa using h)]
theorem BG:∀ {l:Á α}{r:Á β},l.mapM f=À r->l.length=r.length
 | [],r,h=>by rw[lY]at h;cases h;rfl
 | a :: l,r,h=>by
  obtain⟨b,q,_,h2,rfl⟩:=vV h
  simp[BG h2]
theorem Bz:∀ {κ:Type}{ks:Á (κ × V)}{vs:Á (κ × Ç)},KV ks vs->ks.map (·.1)=vs.map (·.1)/\Vals (ks.map (·.2)) (vs.map (·.2))
 | _,_,_,.nil=>⟨rfl,.nil⟩
 | _,_,_,.cons r t=>by
  obtain⟨h1,h2⟩:=Bz t
  exact⟨by simp only[È,r.1,h1],.cons r.2 h2⟩
theorem nF (sr:SR T ρ s H)(I:Inv X Ä σ H sh)(hK:X.K=T.K):∀ (n:Nat) (v:AV) (d:d_) (x:V),toP n s v=À d->VR T ρ H v x->RdV sh.heap x d
 | n,.ĥ,d,x,h,k=>by
  unfold toP at h;cases h;cases k.iL
  intro u r;cases r;exact⟨[],.none,λ _ z=>nomatch z⟩
 | n,.bl b,d,x,h,k=>by
  unfold toP at h;cases h;cases k.gg
  intro u r;cases r;exact⟨[],.bool b,λ _ z=>nomatch z⟩
 | n,.int b,d,x,h,k=>by
  unfold toP at h;cases h;cases k.int_inv
  intro u r;obtain⟨t,rfl⟩:=r;exact⟨[],.int b t,λ _ z=>nomatch z⟩
 | n,.str b,d,x,h,k=>by
  unfold toP at h;cases h;cases k.str_inv
  intro u r;obtain⟨t,rfl⟩:=r;exact⟨[],.str b t,λ _ z=>nomatch z⟩
 | 0,.tup xs,d,x,h,k=>by unfold toP at h;cases h
 | 0,.ref i,d,x,h,k=>by unfold toP at h;cases h
 | 0,.sq xs,d,x,h,k=>by unfold toP at h;cases h
 | n+1,.sq xs,d,x,h,k=>by unfold toP at h;cases h
 | n+1,.tup xs,d,x,h,k=>by
  unfold toP at h
  cases e:xs.mapM (toP n s) with
  | none=>rw[e]at h;cases h
  | some l=>
   rw[e]at h;cases h
   unfold VR at k
   obtain⟨a,vs,rfl,h1,h2⟩:=k
   intro u r
   cases (show u=ú a from r)
   obtain⟨its,vr,⟨o,g1,g2,m,g3⟩,_⟩:=I.tuple (by rw[hK];exact h1)
   obtain⟨as,ra,hs⟩:=jG (λ v d x e k=>nF sr I hK n v d x e k) e h2 vr
   exact⟨as,.tuple g1 g2 g3 ra,λ z=>hs (by unfold vD at z;exact z)⟩
 | n+1,.ref i,d,x,h,k=>by
  unfold toP at h
  split at h
  ·rename_i xs ei
   cases e:xs.mapM (toP n s) with
   | none=>rw[e]at h;cases h
   | some l=>
    rw[e]at h;cases h
    obtain⟨a,vs,rfl,_,h1,h2⟩:=sr.dG ei k
    intro u r
    cases (show u=ú a from r)
    obtain⟨_,its,m,vr,g⟩:_/\∃ (its:Á Ç) (m:Nat),Vals vs its/\sh.heap.get? a=À { cls:=.type "list",data:=.seq its.toArray m }:=I.ar a _ h1
    obtain⟨as,ra,hs⟩:=jG (λ v d x e k=>nF sr I hK n v d x e k) e h2 vr
    exact⟨a :: as,.list g rfl rfl ra,λ z=>by unfold vD at z;cases z⟩
  ·rename_i kvs ei
   cases e:(kvs.map (·.2)).mapM (toP n s) with
   | none=>rw[e]at h;cases h
   | some l=>
    rw[e]at h;cases h
    obtain⟨a,ks,rfl,_,h1,q1,q2⟩:=sr.vg ei k
    intro u r
    cases (show u=ú a from r)
    obtain⟨_,hsy,vs,rel,o,es,ep,g1,g2,g3,_,g5,_⟩:=oQ I.ar h1
    obtain⟨w1,w2⟩:=yo (h:=sh.heap) g5
    obtain⟨p1,p2⟩:=Bz rel
    have ll:(kvs.map λ p=>NP p.1).length=l.length:=by rw[Æ,<-BG e,Æ]
    obtain⟨as,ra,hs⟩:=jG (λ v d x e k=>nF sr I hK n v d x e k) e q2 p2
    refine⟨a :: []++as,.dict g1 g2.1 g3 ?_ ?_,λ z m=>?_⟩
    ·rw[List.map_fst_zip (eO ll)]
     have:(kvs.map λ p=>NP p.1)=vs.map λ p=>NP p.1:=by
      have h1:(kvs.map λ p=>NP p.1)=(kvs.map (·.1)).map NP:=by rw[ó];rfl
      have h2:(vs.map λ p=>NP p.1)=(vs.map (·.1)).map NP:=by rw[ó];rfl
      rw[h1,h2,q1,p1]
     rw[this];exact w1
    ·rw[List.map_snd_zip (eO ll.symm),w2];exact ra
    ·unfold vD at z
     rw[yd ll]at z
     rcases Ò.mp (show br∈a :: as from m) with e|m
     ·exact absurd e.symm (kY.mp hsy)
     ·exact hs z m
  ·cases h
def abf:d_->Str
 | .str x=>x
 | d=>d.shown
structure Shw (d:d_):Prop where
 sh:d.showable=true
 dl:d.hasDict=true->vD d=false
 dp:d.depth<=30
 ln:(abf d).length<=sizeLine
instance {d:d_}:aN (Shw d):=eV _
end
end Mm
namespace L2
open PySem PySem.Spec PyProof.Rows
end L2
namespace Mm
open PySem L2
section
variable {T:Tx}{XE:ia}{X:Cx}{pos:ki}
def aaR:AV->Á AV->S->R AV
 | .str sep,[.ref i],s=>need (û s i) λ xs=>need (Yy xs) λ ss=>if Q8 (ss.toArray.foldl (·+·.length+sep.length) 0)=false then .ok (.str (Txt.join sep ss)) s else .bad
 | _,_,_=>.bad
def ab0 (m k:Ev):Ev:=λ env s=>(m env s).bind λ v s1=>(k env s1).bind λ w s2=>match v,w with
 | .ref i,.int (.negSucc 0)=>need (û s2 i) λ xs=>.ok (.ref s2.length) (s2++[.lst xs.reverse])
 | _,_=>.bad
def wc:AV->AV->S->R AV
 | .ref i,.int k,s=>need (û s i) λ xs=>if (-1000<=k/\k<=1000)/\xs.length<=1000 then .ok (.ref s.length) (s++[.lst (Ü k.toNat xs).flatten]) else .bad
 | _,_,_=>.bad
theorem Ĵ.rep (h:Ĵ T ρ H l xs):∀ n:Nat,Ĵ T ρ H (Ü n l).flatten (Ü n xs).flatten
 | 0=>by simp;exact .nil
 | n+1=>by rw[ļ,ag,ļ,ag];exact h.append (Ĵ.rep h n)
theorem XO:fo X (Ŷ .Mult) (pQ T XE wc):=by
 rintro Ä s σ H x y v u Q I rx ry ⟨ρ,a,b,st,sr,va,vb,ho⟩
 cases a<;>cases b<;>try exact ho.elim
 obtain⟨xs,e,ho⟩:=ho.Ē
 obtain⟨⟨⟨h1,h2⟩,h3⟩,ho⟩:=ho.ų
 obtain⟨p,vs,rfl,_,hH,k⟩:=sr.dG (ń e) va
 cases vb.int_inv
 have hl:=k.length
 refine TN Ä s σ H _ _ v u Q I rx ry ⟨p,_,vs,rfl,rfl,hH,by lia,by lia,?_,λ q hq=>ho.alloc sr hq (OR.lst Į (Ĵ.gr ((sr.fP hq).add hq).toGr (Ĵ.rep k _)))⟩
 refine ā (Nat.mul_le_mul (show vs.length<=1000 by lia) (show _<=1000 by lia)) ?_
 rw[bP];decide
end
end Mm
namespace L2
open PySem PySem.Spec PyProof.Rows
end L2
namespace Mm
open PySem L2
section
variable {T:Tx}{XE:ia}{X:Cx}{pos:ki}
end
end Mm
namespace PySem
open Sem (wp)
open Builtin
theorem mV (l:Addr)(es:ė L8)(n:Nat)(dd:Í Addr)(sl:ė (Í Ç)) (b:Str)(u:YO) :
  Meets (eF.«dict.__eq__» ⟨[.ref l,.str b u],[]⟩) (λ _ R s=>s.heap.get? l=À { cls:=.type "dict",dict:=dd,data:=.dict es n,slots:=sl }/\R (.ok (.ret Gv)) s):=
 .of_wp λ prog w A R s h=>by obtain⟨hp,g,d,tk,os⟩:=s;obtain⟨hl,h⟩:=h;wp_walk;refine t6 Zu ?_;wp_walk;exact⟨_,rfl,h⟩
theorem nG (b:Str)(u:YO)(l:Addr)(es:ė L8)(n:Nat)(dd:Í Addr)(sl:ė (Í Ç)) :
  Meets (eF.«str.__eq__» ⟨[.str b u,.ref l],[]⟩) (λ _ R s=>s.heap.get? l=À { cls:=.type "dict",dict:=dd,data:=.dict es n,slots:=sl }/\R (.ok (.ret Gv)) s):=
 .of_wp λ prog w A R s h=>by obtain⟨hp,g,d,tk,os⟩:=s;obtain⟨hl,h⟩:=h;wp_walk;exact⟨_,rfl,h⟩
end PySem
namespace PySem
open Sem (wp)
open Builtin
end PySem
namespace L2
open PySem PySem.Spec PyProof.Rows Mm
section
variable {X:Cx}{pos:ki}
end
end L2
namespace L2
open PySem PySem.Spec PyProof.Rows
end L2
namespace Mm
open PySem L2
section
variable {T:Tx}{XE:ia}{X:Cx}{pos:ki}
end
end Mm
namespace Ro
open PySem L2 Mm
section
variable {P:ý}{w:ğ}{T:Tx}{mg:Str->Í Ç}{base:Heap}
end
end Ro
namespace Mm
open PySem L2
section
variable {T:Tx}{XE:ia}{X:Cx}{pos:ki}
end
end Mm
namespace L2
open PySem PySem.Spec PyProof.Rows
theorem qT (a b i:Int):(sQ a b 1 i).isSome=decide (a<=i/\i < b):=by
 unfold sQ
 simp only[show(1:Int) > 0 from by decide,aT,Int.emod_one,o7,dm]
 by_cases h:a<=i/\i < b
 ·rw[É (by simpa using h)];simp[h]
 ·rw[Ó (by simpa using h)];simp[h]
theorem B6 (ho:s.heap.get? l=À o)(hx:o.ExactDict)(hd:o.data=.dict es n)(b:Str)(u:YO)(hu:A.units < cLine):SeqAt.RcAt A s (.ref l) (.str b u) false:=λ prog w E Q h=>by
 obtain⟨cls,dd,data,sl⟩:=o
 obtain⟨hc,_,_⟩:=hx
 simp only at hc hd
 subst hc hd
 exact SeqAt.rc_eq_decline_or (k:=false) ⟨_,ho,rfl⟩ (GC s b u) (by decide) Zu Zt Q3
  (λ _ hq=>jg Zt ⟨_,ho,rfl⟩ F.entry_dict_eq (F.args_dict_eq_2 _ _) (mV l es n dd sl b u) ⟨ho,hq⟩)
  (λ _ hq=>jg Q3 (GC s b u) F.entry_str_eq (F.args_str_eq_2 _ _) (nG b u l es n dd sl) ⟨ho,hq⟩)
  (λ _ hq=>t6 (rfl:isSame (.ref l) (.str b u)=pure false) hq) (.inr hu) h
end L2
namespace Mm
open PySem L2
section
variable {T:Tx}{XE:ia}{X:Cx}{pos:ki}
def nA (v w:AV)(s:S):R AV:=match v,w with
 | .tup _,.str _=>.ok (.bl false) s
 | .ref i,.str _=>match s[i]? with
  | some (.lst _)=>.ok (.bl false) s
  | some (.dK _)=>.ok (.bl false) s
  | _=>.bad
 | v,w=>cz v w s
theorem XJ (hK:X.K=T.K)(hu:X.A.units+30 < cLine):fo X (ċ .Eq) (pQ T XE nA):=by
 rintro Ä s σ H x y v u Q I rx ry ⟨ρ,a,b,st,sr,va,vb,ho⟩
 have JI:X.A.units < cLine:=by lia
 unfold nA at ho
 split at ho
 ·obtain⟨p,vs,rfl,h1,k⟩:=va.bq
  cases vb.str_inv
  obtain⟨t,rfl⟩:=ry
  cases rx
  obtain⟨its,_,p1,_⟩:=I.tuple (hK ▸ h1)
  exact SeqAt.RcAt.tuple_str _ _ p1 JI X.prog X.w _ _ ⟨.bl false,H,I,rfl,ho.Ĭ sr dw⟩
 ·split at ho
  ·rename_i e
   obtain⟨p,vs,rfl,_,h1,k⟩:=sr.dG e va
   cases vb.str_inv
   obtain⟨t,rfl⟩:=ry
   cases rx
   obtain⟨its,_,p1,_⟩:=I.list (f9.of h1)
   exact SeqAt.RcAt.list_str _ _ p1.isList JI X.prog X.w _ _ ⟨.bl false,H,I,rfl,ho.Ĭ sr dw⟩
  ·rename_i e
   obtain⟨p,ks,rfl,_,h1,q1,q2⟩:=sr.vg e va
   cases vb.str_inv
   obtain⟨t,rfl⟩:=ry
   cases rx
   obtain⟨_,_,vs,rel,o,es,ep,g1,g2,g3,_⟩:=oQ I.ar h1
   exact B6 g1 g2 g3 _ _ JI X.prog X.w _ _ ⟨.bl false,H,I,rfl,ho.Ĭ sr dw⟩
  ·exact ho.elim
 ·exact oEq (T:=T) (XE:=XE) hK hu Ä s σ H x y v u Q I rx ry ⟨ρ,a,b,st,sr,va,vb,ho⟩
end
end Mm
namespace L2
open PySem PySem.Spec PyProof.Rows
namespace HT
section
variable {prog:ý}{w:ğ}{A:ō}{E:Ç->Ï->Prop}{s:Ï}
end
end HT
end L2
namespace Mm
open PySem L2
section
variable {T:Tx}{XE:ia}{X:Cx}{pos:ki}
end
end Mm
namespace L2
open PySem PySem.Spec PyProof.Rows
theorem Ks:fo X (Ŷ .Add) (λ x y H Q=>∃ a b xs,x=.ref a/\y=.ref b/\iP X.K H a xs/\iP X.K H b []/\xs≠[]/\Q (.ref a) H):=by
 intro Ä s σ H x y v u Q I rx ry h
 obtain⟨a,b,xs,rfl,rfl,ha,hb,hx,q⟩:=h
 cases rx
 cases ry
 obtain⟨its,r1,p1,_⟩:=I.tuple ha
 obtain⟨dh,r2,p2,_⟩:=I.tuple hb
 obtain⟨⟨cls,dd,data,sl⟩,ho,hc,n,hd⟩:=id p1
 obtain⟨⟨RD,Qk,data2,QT⟩,dW,Jz,n2,hd2⟩:=id p2
 simp only at hc hd Jz hd2
 subst hc hd Jz hd2
 have he:dh=[]:=r2.lN.mpr rfl
 have h1:¬ its.toArray.isEmpty=true:=by
  intro z
  have:its=[]:=by simpa using z
  exact hx (r1.lN.mp this)
 exact qf ⟨_,ho,rfl⟩ ⟨_,dW,rfl⟩ jh oz cJ cy (b8 _ _)
  (tuple_addW1 a b its.toArray dh.toArray n n2 dd Qk sl QT h1 (by simp[he])) ⟨ho,dW,⟨.ref a,H,I,rfl,q⟩⟩
end L2
namespace Mm
open PySem L2
section
variable {T:Tx}{XE:ia}{X:Cx}{pos:ki}
def pP (v w:AV)(s:S):R AV:=match v,w with
 | .tup xs,.tup ys=>if xs.length+ys.length<=sizeLine then .ok (.tup (xs++ys)) s else .bad
 | v,w=>aj v w s
theorem XI (hK:X.K=T.K):fo X (Ŷ .Add) (pQ T XE pP):=by
 rintro Ä s σ H x y v u Q I rx ry ⟨ρ,a,b,st,sr,va,vb,ho⟩
 unfold pP at ho
 split at ho
 ·rename_i xs ys
  obtain⟨hl,ho⟩:=ho.ų
  obtain⟨p,vs,rfl,h1,k1⟩:=va.bq
  obtain⟨q,ws,rfl,h2,k2⟩:=vb.bq
  have l1:=k1.length
  have l2:=k2.length
  by_cases hy:ys=[]
  ·subst hy
   cases k2.nil_inv
   rw[fw]at ho
   by_cases hx:xs=[]
   ·subst hx
    cases k1.nil_inv
    cases rx
    cases ry
    obtain⟨its,r1,p1,_⟩:=I.tuple (hK ▸ h1)
    obtain⟨dh,r2,p2,_⟩:=I.tuple (hK ▸ h2)
    obtain⟨⟨cls,dd,data,sl⟩,e1,hc,n,hd⟩:=id p1
    obtain⟨⟨RD,Qk,data2,QT⟩,e2,Jz,n2,hd2⟩:=id p2
    simp only at hc hd Jz hd2
    subst hc hd Jz hd2
    have he:its=[]:=r1.lN.mpr rfl
    exact qf ⟨_,e1,rfl⟩ ⟨_,e2,rfl⟩ jh oz cJ cy (b8 _ _)
     (abv p q its.toArray dh.toArray n n2 dd Qk sl QT (by simp[he])) ⟨e1,e2,⟨.ref q,H,I,rfl,ho.Ĭ sr (ja h2 .nil)⟩⟩
   ·exact Ks Ä s σ H _ _ v u Q I rx ry ⟨p,q,vs,rfl,rfl,hK ▸ h1,hK ▸ h2,λ z=>hx (by rw[z]at l1;exact Ź.mp l1),ho.Ĭ sr (ja h1 k1)⟩
  ·refine BY Ä s σ H _ _ v u Q I rx ry ⟨p,q,vs,ws,rfl,rfl,hK ▸ h1,hK ▸ h2,λ z=>hy (by rw[z]at l2;exact Ź.mp l2),by lia,λ hx=>?_,λ _ r hr=>ho.tup sr hr (k1.append k2)⟩
   have:xs=[]:=by rw[hx]at l1;exact Ź.mp l1
   subst this
   exact ho.Ĭ sr (ja h2 k2)
 ·exact XH (T:=T) (XE:=XE) hK Ä s σ H x y v u Q I rx ry ⟨ρ,a,b,st,sr,va,vb,ho⟩
end
end Mm
namespace Ro
open PySem L2 Mm
def gw:AV:=.int 60
def nh:AV:=.int 8
def kM:AV:=.int 3
def j8:AV:=.int 2
def lK:AV:=.int 4
def eK:AV:=.int 1000000
def jB:AV:=.int 1000
def kD:Ms:=
 (ě (mz (Ø 1 e8 (Ã (mv 0) Ð)) (aU j_ j_ (mv 1) (mv 0) (mv 2))))
def ĩ:Á AV->S->R AV:=g_ 3 kD
def xN:Ms:=
 (ì (eL (dO (cT (Ø 2 ź (Ã (mv 0) (Ã (mc (.int 2)) Ð))))) (ě (mc (.bl false))) Ľ)
 (ì (mC (mv 0) (gT 2 (Ù (gN 1) (Ù (gN 2) ę))))
 (ì (eL (rG (dO (cT (Ø 3 ĩ (Ã (mv 2) (Ã (mc (.int 1)) (Ã (mc gw) Ð)))))) (dO (cT (Ø 3 ĩ (Ã (mv 1) (Ã (mc (.int 1)) (Ã (mv 2) Ð))))))) (ě (mc (.bl false))) Ľ)
 (ě (Ö cz (Ø 2 ĝ (Ã (mv 1) (Ã (mv 2) Ð))) (mc (.int 1)))))))
def e_:Á AV->S->R AV:=g_ 3 xN
def ju:Ms:=
 (ì (Ī 1 (mc (.int 1)))
 (ì (gD (Ĳ (mv 0)) (gN 2) (ì (eL (dO (cT (Ø 3 ĩ (Ã (mv 2) (Ã (mv 1) (Ã (mc eK) Ð)))))) (ě (mc (.bl false))) Ľ)
 (Ī 1 (Ö aj (mv 2) (mc (.int 1))))))
 (ě (mc (.bl true)))))
def e7:Á AV->S->R AV:=g_ 3 ju
def uX:Ms:=
 (ì (eL (rG (dO (cT (gR (aR "tuple") (mv 0)))) (dO (cB (aU j_ j_ (mc j8) (kl cZ (Ã (mv 0) Ð)) (mc lK))))) (ě (mc (.bl false))) Ľ)
 (ì (eL (dO (cT (mI ug (Œ [("rate",none)] (Ĳ (mv 0)) (gN 0) de (mz (Ø 2 ź (Ã (mv 0) (Ã (mc (.int 2)) Ð))) (Ø 1 e_ (Ã (Ö Ħ (mv 0) (mc (.int 1))) Ð))))))) (ě (mc (.bl false))) Ľ)
 (ě (mz (Ö tm (Ö Ħ (Ö Ħ (mv 0) (gR eA (mc (.int 1)))) (mc (.int 0))) (mc .ĥ)) (pD (Ø 1 e7 (Ã (Ę (Œ [("upto",none),("part",none)] (Ĳ (Ij (mv 0) oN (oS (gR eA (mc (.int 1)))))) (gT 2 (Ù (gN 0) (Ù (gN 1) ę))) de (mv 0))) Ð)))))))
def iX:Á AV->S->R AV:=g_ 1 uX
def AY:Ms:=
 (ì (eL (dO (cT (Ø 2 ź (Ã (mv 0) (Ã (mc (.int 3)) Ð))))) (ě (mc (.bl false))) Ľ)
 (ì (mC (mv 0) (gT 3 (Ù (gN 1) (Ù (gN 2) (Ù (gN 3) ę)))))
 (ì (eL (dO (cT (Ø 1 iQ (Ã (mv 2) Ð)))) (ě (mc (.bl false))) Ľ)
 (ì (eL (rG (cB (Ö nA (mv 1) (mc (.str "of")))) (cB (Ö nA (mv 1) (mc (.str "left"))))) (ě (Ø 1 e_ (Ã (mv 3) Ð))) Ľ)
 (ì (eL (cB (Ö nA (mv 1) (mc (.str "steps")))) (ě (pD (Ø 1 iX (Ã (mv 3) Ð)))) Ľ)
 (ě (mz (Ö nA (mv 1) (mc (.str "length"))) (Ø 3 ĩ (Ã (mv 3) (Ã (mc (.int 1)) (Ã (mc jB) Ð)))))))))))
def kE:Á AV->S->R AV:=g_ 4 AY
def xO:Ms:=
 (ì (eL (rG (dO (cT (gR (aR "tuple") (mv 0)))) (cB (Ö uf (kl cZ (Ã (mv 0) Ð)) (mc nh)))) (ě (mc (.bl false))) Ľ)
 (ì (eL (dO (cT (mI ug (Œ [("row",none)] (Ĳ (mv 0)) (gN 0) de (pD (Ø 1 kE (Ã (mv 0) Ð))))))) (ě (mc (.bl false))) Ľ)
 (ě (Ö j_ (mI O2 (Œ [("row",none)] (Ĳ (mv 0)) (gN 0) (cB (Ö cz (Ö Ħ (mv 0) (mc (.int 0))) (mc (.str "left")))) (mv 0))) (mc kM)))))
def fe:Á AV->S->R AV:=g_ 1 xO
end Ro
namespace Mm
open PySem L2
def iV (bO:Mt)(test:Eb)(ŭ:Ev)(gs:Gd):Á AV->En->S->Á AV->R (Á AV × En)
 | [],env,s,þ=>open Classical in if k6 gs s then .ok (þ,env) s else .bad
 | v :: r,env,s,þ=>open Classical in if k6 gs s then (match bO v env s with
   | .nx e1 s1=>(test e1 s1).calm.bind λ b s2=>if b=true then (ŭ e1 s2).calm.bind λ x s3=>(if þ.length < 1000 then iV bO test ŭ gs r e1 s3 (þ++[x]) else .bad) else iV bO test ŭ gs r e1 s2 þ
   | _=>.bad) else .bad
def fD (bO:Mt)(test:Eb)(j':Src)(jm:Mt)(dH:Eb)(ŭ:Ev)(gs:Gd):Á AV->En->S->Á AV->R (Á AV)
 | [],env,s,þ=>open Classical in if k6 gs s then .ok þ s else .bad
 | v :: r,env,s,þ=>open Classical in if k6 gs s then (match bO v env s with
   | .nx e1 s1=>(test e1 s1).calm.bind λ b s2=>if b=true then (j' e1 s2).calm.bind λ p s3=>(iV jm dH ŭ p.2 p.1 e1 s3 þ).bind λ q s4=>fD bO test j' jm dH ŭ gs r q.2 s4 q.1 else fD bO test j' jm dH ŭ gs r e1 s2 þ
   | _=>.bad) else .bad
def pM (l:Lc)(src:Src)(bO:Mt)(test:Eb)(j':Src)(jm:Mt)(dH:Eb)(ŭ:Ev):jQ:=λ env s=>(src env s).bind λ p s1=>fD bO test j' jm dH ŭ p.2 p.1 (lS l env) s1 []
theorem Gr.trans (a:Gr ρ H ī H1)(b:Gr ī H1 cR H2):Gr ρ H cR H2:=
 ⟨a.pre.trans b.pre,λ c xs h=>b.mD c xs (a.mD c xs h),λ c o u h=>b.jZ c o u (a.jZ c o u h)⟩
structure IG (T:Tx)(ρ:Á Addr)(H:Hp)(xs:Á AV)(gs:Gd)(J:It):Prop where
 turn:∀ ħ s' H',Gr ρ H ħ H'->SR T ħ s' H'->k6 gs s'->(∀ (j:Nat) (v:AV),xs[j]? = À v->J.go j H'/\∀ x H'',J.HV j H' x H''->Up ħ H' ħ H''/\SR T ħ s' H''/\VR T ħ H'' v x)/\J.stop xs.length H'
def rWG (T:Tx):Rl (Á AV × Gd) It:=⟨λ _ ρ H p J=>IG T ρ H p.1 p.2 J,λ _ h=>h⟩
abbrev Yw (T:Tx)(XE:ia)(m:Src):TI:=tG T XE (rWG T) m
section
variable {T:Tx}{XE:ia}{X:Cx}{pos:ki}
theorem Xv (hK:X.K=T.K)(h:PE X e (tE T XE m)):PI X tg e (Yw T XE (Ĳ m)):=
 PI.imp (KJ h) λ σ H R zz=>Ŵ zz λ ρ env s hs he ho=>step hs he ho λ v s1 ī H1 x _ u1 Ŧ df ŧ Ĥ=>by
  have ŧ:VR T ī H1 v x:=ŧ
  cases v with
  | tup xs=>
   obtain⟨a,vs,rfl,h1,k⟩:=ŧ.bq
   refine⟨a,rfl,.inr ⟨⟨vs,hK ▸ h1⟩,Ĥ ī H1 _ .refl Ŧ ⟨λ ħ s' H' u' iw _=>?_⟩⟩⟩
   rw[hK]
   exact CC (u'.VJ h1) iw (k.gr u')
  | sq xs=>
   obtain⟨a,vs,rfl,h1,k⟩:=ŧ.gF
   refine⟨a,rfl,.inl ⟨⟨vs,hK ▸ h1.FZ⟩,Ĥ ī H1 _ .refl Ŧ ⟨λ ħ s' H' u' iw _=>?_⟩⟩⟩
   rw[hK]
   exact kT (.inr (u'.Zg h1)) iw (k.gr u')
  | ref i=>
   obtain⟨xs,e0,Ĥ⟩:=Ĥ.Ē
   obtain⟨a,vs,rfl,ea,h1,k⟩:=Ŧ.dG (ń e0) ŧ
   refine⟨a,rfl,.inl ⟨⟨vs,f9.of h1⟩,Ĥ ī H1 _ .refl Ŧ ⟨λ ħ s' H' u' iw g=>?_⟩⟩⟩
   have e2:=(lF i xs s').mp g
   obtain⟨b,ws,eb,_,h2,k2⟩:=iw.dG (ń e2) (ŧ.gr u')
   cases eb
   exact kT (.inl h2) iw k2
  | ĥ=>exact Ĥ.elim
  | bl b=>exact Ĥ.elim
  | int b=>exact Ĥ.elim
  | str b=>exact Ĥ.elim
theorem IV 
  (hD:Hb D=none) (ub:Up ρb Hb ρ H) (sr:SR T ρ s H) (er:ER T ρ H env σ) (hd:H D=À (.lst ys)) (nd:D∉ρ) (ka:Ĵ T ρ H þ ys)
  (ho:Out T XE (rL T) ρ0 H0 ((j' env s).calm.bind λ p s3=>(iV jm dH ŭ p.2 p.1 env s3 þ).bind F) Q) 
  (hN:∀ xA aD H',(∃ ħ bJ s' Wd,Up ρb Hb ħ H'/\D∉ħ/\SR T ħ s' H'/\ER T ħ H' bJ aD/\H' D=À (.lst xA)/\Ĵ T ħ H' Wd xA/\Out T XE (rL T) ρ0 H0 (F (Wd,bJ) s') Q)->N xA aD H') :
  Inner (Yw T kZ j') (tT T kZ jm) (iT T kZ dH) (tE T kZ ŭ) D ys σ H N:=by
 refine⟨ρ,env,s,sr,er,?_⟩
 cases e:j' env s with
 | bad=>rw[e]at ho;simp only[gZ,Ķ]at ho;exact ho.elim
 | ex c s1=>rw[e]at ho;simp only[R.calm,Ķ]at ho;exact ho.elim
 | ok p s1=>
  rw[e]at ho
  obtain⟨xs,gs⟩:=p
  simp only[jv,bI]at ho
  intro ī H1 J u1 Ŧ wk
  have wk:IG T ī H1 xs gs J:=wk
  have Mx:=u1.fr D _ hd nd
  refine⟨λ i m ys aD H'=>m=xs.length - i/\i<=xs.length/\∃ ħ bJ s' þ,Up ρb Hb ħ H'/\Gr ī H1 ħ H'/\SR T ħ s' H'/\ER T ħ H' bJ aD/\H' D=À (.lst ys)/\D∉ħ/\Ĵ T ħ H' þ ys/\Out T XE (rL T) ρ0 H0 ((iV jm dH ŭ gs (xs.drop i) bJ s' þ).bind F) Q,
   ⟨_,rfl,Ă _,ī,env,s1,þ,ub.trans u1,Up.refl.toGr,Ŧ,er.up u1,Mx.1,Mx.2,ka.up u1,ho⟩,?_⟩
  rintro i m ys aD H' ⟨rfl,hi,ħ,bJ,s',þ,u',g',iw,Jh,hd,Ik,ka,Ĝ⟩
  by_cases qy:i < xs.length
  ·rw[au qy]at Ĝ
   unfold iV at Ĝ
   by_cases si:k6 gs s'
   ·rw[É si]at Ĝ
    obtain⟨w1,w2⟩:=(wk.turn ħ s' H' g' iw si).1 i xs[i] (Ñ qy)
    refine .inr ⟨w1,λ x H'' Sw=>?_⟩
    obtain⟨y1,y2,y3⟩:=w2 x H'' Sw
    refine⟨ħ,bJ,s',xs[i],y2,Jh.up y1,y3,?_⟩
    have GY:=y1.fr D _ hd Ik
    have W7:=ka.up y1
    cases et:jm xs[i] bJ s' with
    | nx e1 s2=>
     simp only[et]at Ĝ
     refine λ cR H2 mF u2 jk lC=>⟨cR,e1,s2,jk,lC,?_⟩
     have hd2:=u2.fr D _ GY.1 GY.2
     have W8:=W7.up u2
     cases eb:dH e1 s2 with
     | bad=>simp only[eb,gZ,Ķ]at Ĝ;exact Ĝ.elim
     | ex c s3=>simp only[eb,R.calm,Ķ]at Ĝ;exact Ĝ.elim
     | ok b s3=>
      simp only[eb,jv,bI]at Ĝ
      intro nV H3 b' u3 oW RO
      cases (show b=b' from RO)
      have xh:=u3.fr D _ hd2.1 hd2.2
      have QC:=W8.up u3
      have LB:Up ρb Hb nV H3:=((u'.trans y1).trans u2).trans u3
      have gr3:Gr ī H1 nV H3:=Gr.trans g' ((y1.trans u2).trans u3).toGr
      cases b with
      | false=>
       rw[Ó (by decide)]at Ĝ ⊢
       exact⟨xs.length - (i+1),by lia,rfl,qy,nV,e1,s3,þ,LB,gr3,oW,lC.up u3,xh.1,xh.2,QC,Ĝ⟩
      | true=>
       rw[É rfl]at Ĝ ⊢
       refine⟨nV,e1,s3,oW,lC.up u3,?_⟩
       cases ev:ŭ e1 s3 with
       | bad=>simp only[ev,gZ,Ķ]at Ĝ;exact Ĝ.elim
       | ex c s4=>simp only[ev,R.calm,Ķ]at Ĝ;exact Ĝ.elim
       | ok v s4=>
        simp only[ev,jv,bI]at Ĝ
        by_cases hl:þ.length < 1000
        ·rw[É hl]at Ĝ
         intro Gm H4 x4 u4 Uy PL
         have Bo:=u4.fr D _ xh.1 xh.2
         have ka4:=QC.up u4
         have g5:Gr Gm H4 Gm (upd H4 D (.lst (ys++[x4]))):=Wy Bo.1
         exact⟨Bo.1,by rw[<-ka.length];exact ö hl (by rw[bP];decide),xs.length - (i+1),by lia,rfl,qy,Gm,e1,s4,þ++[v],(LB.trans u4).mod hD Bo.2,Gr.trans gr3 (Gr.trans u4.toGr g5),Uy.up g5 λ a ha=>ÿ λ z=>Bo.2 (z ▸ ha),((lC.up u3).up u4).gr g5,Į,Bo.2,(ka4.append (.one PL)).gr g5,Ĝ⟩
        ·rw[Ó hl]at Ĝ;exact Ĝ.elim
    | ex c s1=>simp only[et,Ķ]at Ĝ;exact Ĝ.elim
    | rt v s2=>simp only[et,Ķ]at Ĝ;exact Ĝ.elim
    | bk v s2=>simp only[et,Ķ]at Ĝ;exact Ĝ.elim
    | ct v s2=>simp only[et,Ķ]at Ĝ;exact Ĝ.elim
    | bad=>simp only[et,Ķ]at Ĝ;exact Ĝ.elim
   ·rw[Ó si]at Ĝ;exact Ĝ.elim
  ·have e:i=xs.length:=by lia
   subst e
   rw[iz]at Ĝ
   unfold iV at Ĝ
   by_cases si:k6 gs s'
   ·rw[É si]at Ĝ
    exact .inl ⟨(wk.turn ħ s' H' g' iw si).2,hN _ _ _ ⟨ħ,bJ,s',þ,u',Ik,iw,Jh,hd,ka,Ĝ⟩⟩
   ·rw[Ó si]at Ĝ;exact Ĝ.elim
theorem IU (h:tL T XE (pM l src bO test j' jm dH ŭ) σ H Q) :
  Ep l (tW T XE src) (tT T kZ bO) (iT T kZ test) (Yw T kZ j') (tT T kZ jm) (iT T kZ dH) (tE T kZ ŭ) σ H Q:=by
 obtain⟨ρ,env,s,hs,he,ho⟩:=h
 refine⟨ρ,env,s,hs,he,?_⟩
 unfold pM at ho
 cases e:src env s with
 | bad=>rw[e]at ho;exact ho
 | ex c s1=>rw[e]at ho;exact ho
 | ok p s1=>
  rw[e]at ho
  obtain⟨xs,gs⟩:=p
  intro ī H1 J u1 Ŧ wk D hD
  have wk:Walks T ī H1 xs gs J:=wk
  have nD:D∉ī:=Ŧ.out hD
  refine⟨λ i m ys aD H'=>m=xs.length - i/\i<=xs.length/\∃ ħ bJ s' þ,Up ī H1 ħ H'/\SR T ħ s' H'/\ER T ħ H' bJ aD/\H' D=À (.lst ys)/\D∉ħ/\Ĵ T ħ H' þ ys/\Out T XE (rL T) ρ H (fD bO test j' jm dH ŭ gs (xs.drop i) bJ s' þ) Q,
   ⟨_,rfl,Ă _,ī,lS l env,s1,[],Ŧ.fP hD,Ŧ.new hD,((he.up u1).up (Ŧ.fP hD)).src l,Į,nD,.nil,ho⟩,?_⟩
  rintro i m ys aD H' ⟨rfl,hi,ħ,bJ,s',þ,u',iw,Jh,hd,Ik,ka,Ĝ⟩
  by_cases qy:i < xs.length
  ·rw[au qy]at Ĝ
   unfold fD at Ĝ
   obtain⟨si,Ĝ⟩:=Ĝ.ų
   obtain⟨w1,w2⟩:=(wk.turn ħ s' H' u' iw si).1 i xs[i] (Ñ qy)
   refine .inr ⟨w1,λ x H'' Sw=>?_⟩
   obtain⟨y1,y2,y3⟩:=w2 x H'' Sw
   refine⟨ħ,bJ,s',xs[i],y2,Jh.up y1,y3,?_⟩
   have GY:=y1.fr D _ hd Ik
   have W7:=ka.up y1
   cases et:bO xs[i] bJ s' with
   | nx e1 s2=>
    simp only[et]at Ĝ
    refine λ cR H2 mF u2 jk lC=>⟨cR,e1,s2,jk,lC,?_⟩
    have hd2:=u2.fr D _ GY.1 GY.2
    have W8:=W7.up u2
    cases eb:test e1 s2 with
    | bad=>simp only[eb,gZ,Ķ]at Ĝ;exact Ĝ.elim
    | ex c s3=>simp only[eb,R.calm,Ķ]at Ĝ;exact Ĝ.elim
    | ok b s3=>
     simp only[eb,jv,bI]at Ĝ
     intro nV H3 b' u3 oW RO
     cases (show b=b' from RO)
     have xh:=u3.fr D _ hd2.1 hd2.2
     have QC:=W8.up u3
     have LB:Up ī H1 nV H3:=((u'.trans y1).trans u2).trans u3
     cases b with
     | false=>
      rw[Ó (by decide)]at Ĝ ⊢
      exact⟨xs.length - (i+1),by lia,rfl,qy,nV,e1,s3,þ,LB,oW,lC.up u3,xh.1,xh.2,QC,Ĝ⟩
     | true=>
      rw[É rfl]at Ĝ ⊢
      exact IV hD LB oW (lC.up u3) xh.1 xh.2 QC Ĝ λ xA aD H' ⟨Gm,aaf,s4,ZZ,f1,f2,f3,f4,f5,f6,f7⟩=>⟨xs.length - (i+1),by lia,rfl,qy,Gm,aaf,s4,ZZ,f1,f3,f4,f5,f2,f6,f7⟩
   | ex c s1=>simp only[et]at Ĝ;exact Ĝ.elim
   | rt v s2=>simp only[et]at Ĝ;exact Ĝ.elim
   | bk v s2=>simp only[et]at Ĝ;exact Ĝ.elim
   | ct v s2=>simp only[et]at Ĝ;exact Ĝ.elim
   | bad=>simp only[et]at Ĝ;exact Ĝ.elim
  ·have e:i=xs.length:=by lia
   subst e
   rw[iz]at Ĝ
   unfold fD at Ĝ
   obtain⟨si,Ĝ⟩:=Ĝ.ų
   exact .inl ⟨(wk.turn ħ s' H' u' iw si).2,Ĝ ħ H' (.ref D) (u1.trans u') iw ⟨D,ys,rfl,u1.live D hD,Ik,hd,ka⟩⟩
theorem BJ (l:Lc)(iR:ž X scope l)(cA:X.calm=true)(hN:X.N.Nodup)(hi:PI X tg iter (tW T XE src))
  (hg:∀ cl C fp s3 H3,PG (Ą X l scope cl C fp s3 H3) tg (tT T kZ bO)) (ht:∀ cl C fp s3 H3,xc (Ą X l scope cl C fp s3 H3) ifs (iT T kZ test))
  (Nv:∀ cl C fp s3 H3,PI (Ą X l scope cl C fp s3 H3) Cr fJ (Yw T kZ j')) (Sh:∀ cl C fp s3 H3,PG (Ą X l scope cl C fp s3 H3) Cr (tT T kZ jm)) (Su:∀ cl C fp s3 H3,xc (Ą X l scope cl C fp s3 H3) sk (iT T kZ dH))
  (he:∀ cl C fp s3 H3,PE (Ą X l scope cl C fp s3 H3) ŭ (tE T kZ me))
  (hy:X.N[i]? = À y:=by rfl) (hx:X.env.scope.names.lookup y=À .local:=by rfl)
  (Ss:fA (.ListComp ŭ [⟨tg,iter,ifs,0⟩,⟨Cr,fJ,sk,0⟩] scope pos) (À (.Name y py)) Cd.line X.env=pure true:=by rfl)
  (hs:∀ x,ĉ iter X.env x=pure x:=by intro _;rfl) (NB:∀ env x,ĉ fJ env x=pure x:=by intro _ _;rfl) :
  PS X (.Assign [.Name y py] (.ListComp ŭ [⟨tg,iter,ifs,0⟩,⟨Cr,fJ,sk,0⟩] scope pos) Cd) (tS T XE (Ī i (Ę (pM l src bO test j' jm dH me)))):=
 PS.imp (B3 l iR cA hN hy hx hi hg ht Nv Sh Su he Ss hs NB) λ D σ H h=>IU (Ki (Dj h))
end
end Mm
namespace Ro
open PySem L2 Mm
def gf:Ms:=
 (ì (Ī 3 (Ö aj (mv 1) (mv 2)))
 (ì (Ī 4 (Ę (pM [("kind",none),("name",none),("rates",none),("upto",none),("part",none)] (Ĳ (mv 0)) (gT 3 (Ù (gN 0) (Ù (gN 1) (Ù (gN 2) ę)))) (cB (Ö cz (mv 0) (mc (.str "steps")))) (Ĳ (Ij (mv 2) oN (oS (gR eA (mc (.int 1)))))) (gT 2 (Ù (gN 3) (Ù (gN 4) ę))) de (mv 3))))
 (ì (Ī 5 (Ę (vo [("upto",none),("first",À 1),("behind",À 3)] (Ĳ (mv 4)) (gN 0) (cB (aU nC nC (mv 1) (mv 0) (mv 2))) (mv 0))))
 (ě (Ę (Œ [("start",none),("end",none)] (HN (Ö aj (Ę (aL (Ã (mv 1) Ð))) (mv 5)) (Ö aj (mv 5) (Ę (aL (Ã (mv 3) Ð))))) (gT 2 (Ù (gN 0) (Ù (gN 1) ę))) de (Ō (Ã (mv 0) (Ã (Ö tu (mv 1) (mv 0)) Ð)))))))))
def Ŏ:Á AV->S->R AV:=g_ 6 gf
end Ro
namespace L2
open PySem PySem.Spec PyProof.Rows
def Um:V->Á V->Hp->VK->Prop:=λ x vs H Q=>∃ d kvs,x=.ref d/\vs=[]/\H d=À (.dK kvs)/\∀ v,H v=none->Q (.ref v) (upd H v (.ext λ h=>h.IsValuesView v d))
theorem Kd:GG X "dict.values" Um:=by
 rintro Ä s σ H x xs v us Q I rx rv ⟨d,kvs,rfl,rfl,hH,q⟩
 cases rx
 cases rv
 obtain⟨z,hd,vs,rel,dd⟩:=oQ I.ar hH
 refine yR yL dd.typeIs PySem.F.entry_dict_values (PySem.F.args_dict_values_1 _) (meets_dict_values (Ż X.prog X.w) d hd) ⟨⟨vs,dd⟩,?_⟩
 refine⟨.ref s.heap.objs.size,_,I.laid (a:=s.heap.objs.size) (o:=.ext λ h=>h.IsValuesView s.heap.objs.size d) (t':=s.toks) (λ _ _ q=>Å _ q) (Î _) ⟨⟨_,Þ _ rfl,rfl,rfl⟩,⟨_,Þ _ rfl⟩,λ h1 h2 ⟨o,e,r⟩ k=>⟨o,k o e,r⟩⟩,rfl,q _ (I.ar.fresh (Î _))⟩
def Uj:Á V->Hp->VK->Prop:=λ xs H Q=>∃ (v d:Addr)(kvs:Á (Key × V)),xs=[.ref v]/\H v=À (.ext λ h=>h.IsValuesView v d)/\H d=À (.dK kvs)/\∀ l,H l=none->Q (.ref l) (upd H l (.lst (kvs.map (·.2))))
theorem Fq:∀ {κ:Type}{ks:Á (κ × V)}{vs:Á (κ × Ç)},KV ks vs->Vals (ks.map (·.2)) (vs.map (·.2))
 | _,_,_,.nil=>.nil
 | _,_,_,.cons r t=>.cons r.2 (Fq t)
theorem Dn (hc:X.calm=true):aQ X (.type "list") Uj:=by
 rintro Ä s σ H xs us Q I rv ⟨v,d,kvs,rfl,hv,hH,q⟩
 obtain⟨u,rfl,ru⟩:=rv.one
 cases (show u=ú v from ru)
 obtain⟨z,hd,vs,rel,dd⟩:=oQ I.ar hH
 obtain⟨ep,hat⟩:=dd.dictAt
 have JJ:s.heap.IsValuesView v d:=(I.ar v _ hv).1
 have hh:=I.ok.hd hc
 have hl:vs.length=kvs.length:=rel.length.symm
 refine PySem.W.kdl_call (PySem.W.kdl_values (knd:=Ż X.prog X.w) (r:=v) (d:=d) (kvs:=vs) (ep:=ep)) hh ⟨JJ,hat⟩ (by rw[hl];exact z) λ h' tk þ c' Qw ho Nr=>?_
 have ea:þ.toList=vs.map (·.2):=PySem.W.kdl_vals_eq þ.toList (by rw[Ď,Nr.1]) λ j x hj=>Nr.2 j x (by rw[<-ĕ];exact hj)
 have hHn:H s.heap.objs.size=none:=I.ar.fresh (Î _)
 refine⟨.ref s.heap.objs.size,upd H s.heap.objs.size (.lst (kvs.map (·.2))),?_,rfl,q _ hHn⟩
 have hold:∀ b u,s.heap.get? b=À u->b≠s.heap.objs.size:=λ b u e=>Ć (Ú e)
 refine I.grown (λ b u e=>Qw b u e) (λ b u e=>ÿ (hold b u e)) λ b o e z'=>?_
 by_cases hb:b=s.heap.objs.size
 ·subst hb
  rw[Į]at z'
  cases z'
  refine⟨by rw[Æ];exact z,þ.toList,c',by rw[ea];exact Fq rel,?_⟩
  rw[ho]
 ·rw[ÿ hb]at z'
  obtain⟨u,hu⟩:=(I.ar b o z').pU
  rw[e]at hu;cases hu
end L2
namespace Mm
open PySem L2
section
variable {T:Tx}{XE:ia}{X:Cx}{pos:ki}
def vt (m:Ev):jQ:=λ env s=>(m env s).bind λ v s1=>match v with
 | .ref i=>need (mx s1 i) λ kvs=>.ok (kvs.map (·.2)) s1
 | _=>.bad
theorem N_ (hm:X.mg "list"=none)(h:PE X e (tE T XE m)) (hcm:X.calm=true:=by rfl)(hg:Gl X "list":=by rfl)
  (kH:dS e "values" X.env (Ŝ e X.env)=Ŝ e X.env:=by rfl) (kI:(ap.endLine == cp.line)=true:=by rfl)
  (he:à [.Call (.Attribute e "values" ap) [] [] cp] X.env=(false,Ŝ (.Call (.Attribute e "values" ap) [] [] cp) X.env) :: à [] X.env:=by rfl) (nc:(aO pos (à [] X.env)).any (·.1)=false:=by rfl) :
  PE X (.Call (.Name "list" p) [.Call (.Attribute e "values" ap) [] [] cp] [] pos) (tL T XE (vt m)):=
 PE.imp (sH (Dn hcm) hg hm Ro.boot_list (fM (Kw k8 yL PySem.F.type_dict_values Kd h kH kI) lO he) (by decide) (by decide) he nc) λ σ H Q zz=>Ŵ zz λ ρ env s hs he ho=>
  step hs he ho λ v s1 ī H1 x _ u1 Ŧ df ŧ Ĥ=>by
   cases v with
   | ref i=>
    obtain⟨kvs,e1,Ĥ⟩:=Ĥ.Ē
    obtain⟨a,qs,rfl,ea,h1,q1,q2⟩:=Ŧ.vg (jy e1) ŧ
    refine⟨.inr (.inr (.inl ⟨rfl,.inl ⟨qs,h1⟩⟩)),a,qs,rfl,rfl,h1,λ v hv=>?_⟩
    refine⟨v,a,qs,rfl,Į,by rw[ÿ (Ū h1 hv)];exact h1,λ l Si=>?_⟩
    have JC:l≠v:=λ z=>by rw[z,Į]at Si;cases Si
    have Qx:H1 l=none:=by rw[ÿ JC]at Si;exact Si
    let H':=upd (upd H1 v (.ext λ h=>h.IsValuesView v a)) l (.lst (qs.map (·.2)))
    have old:∀ b o,H1 b=À o->H' b=À o:=λ b o e=>by
     show upd _ _ _ b=_
     rw[ÿ (Ū e Qx),ÿ (Ū e hv)];exact e
    have up:Up ī H1 ī H':=⟨⟨a7,λ b xs e=>old b _ e,λ b o u e=>old b _ e⟩,λ b o e n=>⟨old b o e,n⟩,λ b e=>by
     by_cases hbl:b=l
     ·rw[hbl];exact Qx
     ·by_cases WI:b=v
      ·rw[WI];exact hv
      ·have e:upd (upd H1 v _) l _ b=none:=e
       rw[ÿ hbl,ÿ WI]at e;exact e⟩
    have jk:SR T ī s1 H':=Ŧ.up up.toGr λ b hb=>by
     obtain⟨u,hu⟩:=Ŧ.in hb
     rw[hu];exact old b u hu
    exact Ĥ ī H' (.ref l) up jk ⟨l,_,rfl,Qx,Ŧ.out Qx,Į,q2.up up⟩
   | _=>exact Ĥ.elim
def OS:AV->Í (Int × Int)
 | .tup [.int a,.int b]=>À (a,b)
 | _=>none
def DB (qs:Á (Key × AV)) (p:Key × AV):Bool:=match fY qs p.1 with
 | some y=>decide (OS p.2=OS y)
 | none=>false
def DK (p:Key × AV):Bool:=(OS p.2).isSome
def RU (ks qs:Á (Key × AV)):Bool:=ks.length == qs.length && ks.all (DB qs)
def yy:AV->AV->S->R AV
 | .ref i,.ref j,s=>need (mx s i) λ ks=>need (mx s j) λ qs=>if ks.all DK=true/\qs.all DK=true then .ok (.bl (!RU ks qs)) s else .bad
 | _,_,_=>.bad
theorem FJ (h:(OS v).isSome=true):∃ a b,v=.tup [.int a,.int b]:=by
 unfold OS at h
 split at h
 ·exact⟨_,_,rfl⟩
 ·cases h
theorem Cv:∀ {qs:Á (Key × AV)}{k:Key}{y:AV},fY qs k=À y->∃ p∈qs,p.2=y
 | p :: r,k,y,h=>by
  unfold fY at h
  split at h
  ·cases h;exact⟨p,.head _,rfl⟩
  ·obtain⟨q,hq,e⟩:=Cv h
   exact⟨q,.tail _ hq,e⟩
theorem RX (a b c d:Int):YM (.tuple [.int a,.int b]) (.tuple [.int c,.int d])=decide (À (a,b)=À (c,d)):=by
 simp only[YM,PyData.eqvAll]
 by_cases h1:a=c<;>by_cases h2:b=d<;>simp[h1,h2]
theorem toP_pr (s:S)(a b:Int):toP 1 s (.tup [.int a,.int b])=À (.tuple [.int a,.int b]):=by
 unfold toP
 simp only[kg,lY]
 unfold toP
 rfl
theorem Fc (sr:SR T ρ st H)(I:Inv X Ä σ H sh)(hK:X.K=T.K)(hu:X.A.units+30 < cLine)(b1:qs.map (·.1)=qV.map (·.1)) (b2:Ĵ T ρ H (qs.map (·.2)) (qV.map (·.2))) (b3:KV qV qU)(hq:qs.all DK=true) :
  ∀ {ks:Á (Key × AV)}{kV:Á (Key × V)}{kU:Á (Key × Ç)},ks.map (·.1)=kV.map (·.1)->Ĵ T ρ H (ks.map (·.2)) (kV.map (·.2))->KV kV kU->ks.all DK=true->PySem.W.KeqHits X.A.in1 sh qU kU (ks.all (DB qs))
 | [],kV,kU,e,_,r,_=>by
  cases kV with
  | cons=>cases e
  | nil=>cases r;exact .nil
 | (k,v) :: ks,kV,kU,e,vr,r,hk=>by
  cases kV with
  | nil=>cases e
  | cons kx kV=>
   obtain⟨k',x⟩:=kx
   rw[È,È]at e vr
   obtain⟨ek,et⟩:=L_ e
   have ek:k=k':=ek
   subst ek
   obtain⟨x',ys,ex,vx,vrs⟩:=vr.cons_inv
   obtain⟨rfl,rfl⟩:=L_ ex
   cases r with
   | cons r1 r2=>
    rename_i ku kU
    obtain⟨k2,u⟩:=ku
    obtain⟨ek2,ru⟩:=r1
    have ek2:k=k2:=ek2
    subst ek2
    rw[Ĩ,Ÿ]at hk
    have ih:=Fc sr I hK hu b1 b2 b3 hq et vrs r2 hk.2
    have rel:=b3.val k
    obtain⟨f1,f2⟩:=iN (T:=T) (ρ:=ρ) (H:=H) k b1 b2
    rw[Ĩ]
    cases hv:fY qs k with
    | none=>
     rw[f2 hv]at rel
     have hn:k_ qU k=none:=by
      cases q:k_ qU k with
      | none=>rfl
      | some z=>rw[q]at rel;exact rel.elim
     rw[show DB qs (k,v)=false from by unfold DB;rw[hv],Ac]
     exact .miss hn
    | some y=>
     obtain⟨y',hy,vy⟩:=f1 y hv
     rw[hy]at rel
     obtain⟨w',hw⟩:∃ w',k_ qU k=À w':=by
      cases q:k_ qU k with
      | none=>rw[q]at rel;exact rel.elim
      | some z=>exact⟨z,rfl⟩
     rw[hw]at rel
     have rel:RelV y' w':=rel
     obtain⟨a,b,ev⟩:=FJ (show(OS v).isSome=true from hk.1)
     obtain⟨p,hp,ep⟩:=Cv hv
     obtain⟨c,d,ey⟩:=FJ (show(OS y).isSome=true from by rw[<-ep];exact ü.mp hq p hp)
     subst ev ey
     obtain⟨as,ra,_⟩:=nF sr I hK 1 _ _ _ (toP_pr st a b) vx u ru
     obtain⟨bs,rb,_⟩:=nF sr I hK 1 _ _ _ (toP_pr st c d) vy w' rel
     have eq:=SeqAt.eqAt_reads _ _ X.A.in1 sh u w' as bs ra rb (by simp[P6,Iq]) (by simp[P6,Iq]) (by
      simp only[UX,mO]
      show X.A.units+_+_ < cLine
      have:min (max 0 (max 0 0)+1) (max 0 (max 0 0)+1)=1:=by decide
      lia)
     rw[RX]at eq
     rw[show DB qs (k,.tup [.int a,.int b])=decide (À (a,b)=À (c,d)) from by unfold DB;rw[hv];rfl]
     exact .hit hw eq ih
theorem XQ (hK:X.K=T.K)(hu:X.A.units+30 < cLine):fo X (ċ .NotEq) (pQ T XE yy):=by
 rintro Ä s σ H x y v u Q I rx ry ⟨ρ,a,b,st,sr,va,vb,ho⟩
 cases a<;>cases b<;>try exact ho.elim
 obtain⟨ks,e1,ho⟩:=ho.Ē
 obtain⟨qs,e2,ho⟩:=ho.Ē
 obtain⟨⟨hk,hq⟩,ho⟩:=ho.ų
 obtain⟨p,kV,rfl,_,h1,k1,k2⟩:=sr.vg (jy e1) va
 obtain⟨p',qV,rfl,_,h2,q1,q2⟩:=sr.vg (jy e2) vb
 cases rx
 cases ry
 obtain⟨_,m1,kU,r1,d1⟩:=oQ I.ar h1
 obtain⟨_,m2,qU,r2,d2⟩:=oQ I.ar h2
 have l1:kU.length=ks.length:=by rw[<-r1.length];have:=Ě cf k1;rw[Æ,Æ]at this;exact this.symm
 have l2:qU.length=qs.length:=by rw[<-r2.length];have:=Ě cf q1;rw[Æ,Æ]at this;exact this.symm
 refine PySem.W.keq_ne m1 m2 d1 d2 (by lia) (λ _=>Fc sr I hK hu q1 q2 r2 hq k1 k2 r1 hk) ?_
 rw[l1,l2]
 exact⟨.bl (!RU ks qs),H,I,rfl,ho.Ĭ sr dw⟩
end
end Mm
namespace Ro
open PySem L2 Mm
def l8:Ms:=
 (ì (mC (mv 0) (gT 3 (Ù (gN 3) (Ù (gN 4) (Ù (gN 2) ę)))))
 (ì (eL (cB (Ö cz (mv 3) (mc (.str "of")))) (ě (mv 2)) Ľ)
 (ì (Ī 1 (mc fj))
 (ì (gD (Ĳ (mv 2)) (gT 2 (Ù (gN 5) (Ù (gN 6) ę))) (eL (cT (Ø 2 gp (Ã (mv 1) (Ã (mv 6) Ð)))) (Ī 1 (mv 6)) Ľ))
 (ě (mv 1))))))
def ś:Á AV->S->R AV:=g_ 7 l8
def uZ:Ms:=
 (ě (Ø 2 gp (Ã (mc Fp) (Ã (pD (Ø 1 cM (Ã (Ę (Œ [("row",none)] (Ĳ (mv 0)) (gN 0) (cB (Ö BV (Ö Ħ (mv 0) (mc (.int 0))) (mc aG))) (Ø 1 ś (Ã (mv 0) Ð)))) Ð))) Ð))))
def dt:Á AV->S->R AV:=g_ 1 uZ
def fC:Ms:=
 (ì (gD (Ĳ (mv 1)) (gT 2 (Ù (gN 3) (Ù (gN 4) ę))) (qX (mv 0) (mv 3) (pD (Ø 1 ao (Ã (Ę (aL (Ã (oU (mv 0) (mv 3) (Ō (Ã (mc (.int 0)) (Ã (mc (.int 1)) Ð)))) (Ã (Ø 2 aw (Ã (mv 4) (Ã (Ō (Ã (mv 2) (Ã (mc (.int 1)) Ð))) Ð))) Ð)))) Ð)))))
 (ě (mv 0)))
def ő:Á AV->S->R AV:=g_ 5 fC
def ib:Ms:=
 (ì (Ī 2 (Ę (aL (Ã (mc (.str "of")) (Ã (mc (.str "steps")) (Ã (mc (.str "left")) (Ã (mc (.str "length")) Ð)))))))
 (ì (Ī 3 (Ō Ð))
 (ì (HG (λ _ _=>9) (zl (cB (Ö aS (mv 2) (Ę (aL Ð))))) (ì (Ī 4 (pN "list" tq (mv 2) (Ã (Ø 2 ë (Ã (mv 0) (Ã (kl cZ (Ã (mv 2) Ð)) Ð))) Ð)))
 (Ī 3 (Ö pP (mv 3) (mI iu (Œ [("_law_row_here",none),("_law_kind",À 4)] (Ĳ (mv 1)) (gN 0) (cB (Ö cz (Ö Ħ (mv 0) (mc (.int 0))) (mv 1))) (mv 0)))))))
 (ě (mv 3)))))
def aK:Á AV->S->R AV:=g_ 5 ib
def y9:Ms:=
 (ì (Ī 1 (Ø 1 dE (Ã (mv 0) Ð)))
 (ì (gD (sL (Ã (mc (.int 3)) Ð)) (gN 2) (ì (Ī 3 (Ø 1 a_ (Ã (mv 1) Ð)))
 (ì (Ī 4 (Ę (Œ [("_law_row_here",none)] (Ĳ (mv 3)) (gN 0) (cB (Ö cz (Ö Ħ (mv 0) (mc (.int 0))) (mc (.str "steps")))) (Ö Ħ (Ö Ħ (Ö Ħ (mv 0) (mc (.int 2))) (mc (.int 0))) (mc (.int 0))))))
 (ì (pS 9 10 (Ã (Ø 2 ë (Ã (mv 1) (Ã (mc (.int 12)) Ð))) (Ã (Ö aj (mc (.int 1)) (Ø 2 ë (Ã (mv 1) (Ã (mc (.int 24)) Ð)))) Ð)))
 (ì (eL (IP (zl (cB (Ö aS (mv 4) (Ę (aL Ð))))) (cB (Ö cz (Ø 2 ë (Ã (mv 1) (Ã (mc (.int 2)) Ð))) (mc (.int 0))))) (Ī 9 (kl yx (Ã (mc (.int 0)) (Ã (Ö tu (Ö Ħ (mv 4) (Ø 2 ë (Ã (mv 1) (Ã (kl cZ (Ã (mv 4) Ð)) Ð)))) (Ø 2 ë (Ã (mv 1) (Ã (mc (.int 12)) Ð)))) Ð)))) Ľ)
 (ì (pS 11 12 (Ã S0 (Ã S0 Ð)))
 (ì (gD (xw (aH (Ø 3 Ŏ (Ã (mv 3) (Ã (mv 9) (Ã (mv 10) Ð)))))) (gT 2 (Ù (gN 13) (Ù (gN 14) ę))) (ì (Ī 12 (Ar (Ø 3 ő (Ã (mv 12) (Ã (Ę (aH (Ø 2 Đ (Ã (mv 3) (Ã (mv 13) Ð))))) (Ã (mv 14) Ð))))))
 (ì (Ī 12 (Ar (Ø 3 ő (Ã (mv 12) (Ã (Ę (aL (Ã (Ō (Ã (mc (.str "")) (Ã (Ø 2 Ĕ (Ã (mv 3) (Ã (mv 13) Ð))) Ð))) Ð))) (Ã (mv 14) Ð))))))
 (gD (sL (Ã (mv 13) (Ã (Ö aj (mv 13) (mv 14)) Ð))) (gN 15) (ì (eL (rG (zl (cB (Ö aS (Ę (aH (Ø 2 Đ (Ã (mv 3) (Ã (mv 15) Ð))))) (Ę (aH (Ø 2 Đ (Ã (mv 3) (Ã (mv 13) Ð)))))))) (cB (Ö aS (Ø 2 Ĕ (Ã (mv 3) (Ã (mv 15) Ð))) (Ø 2 Ĕ (Ã (mv 3) (Ã (mv 13) Ð)))))) (ě (mc (.bl false))) Ľ)
 (Ī 11 (Ar (Ø 3 ő (Ã (mv 11) (Ã (Ö aj (Ę (aH (Ø 2 Đ (Ã (mv 3) (Ã (mv 15) Ð))))) (Ę (aL (Ã (Ō (Ã (mc (.str "")) (Ã (Ø 2 Ĕ (Ã (mv 3) (Ã (mv 15) Ð))) Ð))) Ð)))) (Ã (mc (.int 1)) Ð)))))))))))
 (ì (eL (rG (cB (Ö yy (mv 11) (mv 12))) (cB (Ö aS (pD (Ø 1 ao (Ã (Ę (vt (mv 12))) Ð))) (Ō (Ã (mv 10) (Ã (mc (.int 1)) Ð)))))) (ě (mc (.bl false))) Ľ)
 (ì (Ī 5 (Ø 2 aK (Ã (mv 1) (Ã (mv 3) Ð))))
 (ì (eL (rG (dO (cT (pD (Ø 1 fe (Ã (mv 5) Ð))))) (rG (cT (Ø 1 dt (Ã (mv 5) Ð))) (zl (cB (Ö aS (Ę (aH (Ø 2 Đ (Ã (mv 5) (Ã (mv 9) Ð))))) (Ę (aH (Ø 2 Đ (Ã (mv 3) (Ã (mv 9) Ð)))))))))) (ě (mc (.bl false))) Ľ)
 (ì (Ī 6 (mI iu (Œ [("_law_row_here",none)] (Ĳ (mv 3)) (gN 0) de (Ō (Ã (Ö Ħ (mv 0) (mc (.int 0))) (Ã (mc (.str "say")) (Ã (Ö Ħ (mv 0) (mc (.int 2))) Ð)))))))
 (ì (Ī 7 (Ę (aH (Ø 2 Đ (Ã (mv 6) (Ã (mv 9) Ð))))))
 (ì (Ī 8 (Ø 2 Ĕ (Ã (mv 6) (Ã (mv 9) Ð))))
 (ì (eL (dO (cT (Ø 2 (ć 9) (Ã (mv 8) (Ã (Ø 2 Ĕ (Ã (mv 3) (Ã (mv 9) Ð))) Ð))))) (ě (mc (.bl false))) Ľ)
 (eL (dO (cT (pD (Ø 2 (ć 9) (Ã (mv 7) (Ã (Ö wc (Ę (aL (Ã (Ō (Ã (mc (.str "say")) (Ã (pD (Ø 1 ao (Ã (Ę (aL (Ã (Ō (Ã (mc (.int 1)) (Ã (mc (.int 1)) Ð))) (Ã (Ō (Ã (gR eA (Ö Ħ (mv 8) (mc (.int 0)))) (Ã (Ö Ħ (mv 8) (mc (.int 1))) Ð))) Ð)))) Ð))) Ð))) Ð))) (kl oV (Ã (Ö aS (mv 8) (Ō (Ã (mc (.int 1)) (Ã (mc (.int 1)) Ð)))) Ð))) Ð)))))) (ě (mc (.bl false))) Ľ)))))))))))))))
 (ě (mc (.bl true)))))
def lD:Á AV->S->R AV:=g_ 16 y9
def top (i:Nat):Stmt:=VQ.main.body.getD i (.Pass ⟨0,0,0,0⟩)
set_option hygiene false in
local macro_rules | `(tactic| walk_at "a") => `(tactic| (show mg _ = none; with_reducible assumption))
set_option hygiene false in
local macro_rules | `(tactic| walk_at "q") => `(tactic| (first
 | ((with_reducible show PE _ _ (tE _ _ (mv _)));exact aaE (pv _))
 | ((with_reducible show PA _ (_ :: _) _);refine qS ?_ ?_)
 | ((with_reducible exact zN))
 | ((with_reducible exact S7))
 | ((with_reducible exact Tc))
 | ((with_reducible exact S_))
 | ((with_reducible exact Xl))
 | ((with_reducible show(_:Nat)<=_);first|decide|lia)
 | ((with_reducible show PE _ _ (tE _ _ (mc _)));exact S9 (by with_reducible assumption:C' T mg _ _))
 | ((with_reducible show PE _ _ (tE _ _ (Ö aj _ _)));refine nu (XH rfl) ?_ ?_)
 | ((with_reducible show PE _ _ (tE _ _ (Ö tu _ _)));refine nu (aaQ) ?_ ?_)
 | ((with_reducible show PE _ _ (tE _ _ (Ö cO _ _)));refine nu (aaN) ?_ ?_)
 | ((with_reducible show PE _ _ (tE _ _ (Ö cU _ _)));refine nu (XM) ?_ ?_)
 | ((with_reducible show PE _ _ (tE _ _ (Ö fL _ _)));refine nu (oMod) ?_ ?_)
 | ((with_reducible show PE _ _ (tE _ _ (Ö BX _ _)));refine nu (aaP) ?_ ?_)
 | ((with_reducible show PE _ _ (tE _ _ (Ø _ _ _)));refine aaC (by with_reducible assumption:Fk P w T mg base _ _ _ _) (hr.mono ?_) ?_)
 | ((with_reducible show PE _ _ (tE _ _ (Ö Ħ _ _)));refine Xp (oIx rfl) ?_ ?_)
 | ((with_reducible show PE _ _ (tE _ _ (Ö ny _ _)));refine N0 ND ?_ ?_)
 | ((with_reducible show PE _ _ (tE _ _ (Ō _)));refine Td ?_)
 | ((with_reducible show PE _ _ (tE _ _ (Ę _)));refine J4 ?_)
 | ((with_reducible show PE _ _ (tL _ _ (aL _)));refine J6 ?_)
 | ((with_reducible show PE _ _ (tE _ _ (Ö cz _ _)));refine j9 (oEq rfl hu) ?_ ?_)
 | ((with_reducible show PE _ _ (tE _ _ (Ö aS _ _)));refine j9 (oNe rfl hu) ?_ ?_)
 | ((with_reducible show PE _ _ (tE _ _ (Ö nC _ _)));refine j9 (oLt) ?_ ?_)
 | ((with_reducible show PE _ _ (tE _ _ (Ö j_ _ _)));refine j9 (oLe) ?_ ?_)
 | ((with_reducible show PE _ _ (tE _ _ (Ö uf _ _)));refine j9 (oGt) ?_ ?_)
 | ((with_reducible show PE _ _ (tE _ _ (Ö Kr _ _)));refine j9 (oGe) ?_ ?_)
 | ((with_reducible show PE _ _ (tE _ _ (Ö tm _ _)));refine j9 (XN) ?_ ?_)
 | ((with_reducible show PE _ _ (tE _ _ (Ö BV _ _)));refine j9 (oIn rfl) ?_ ?_)
 | ((with_reducible show PT _ _ (iT _ _ (cB (Ö cz _ _))));refine gU (oEq rfl hu) ?_ ?_)
 | ((with_reducible show PT _ _ (iT _ _ (cB (Ö aS _ _))));refine gU (oNe rfl hu) ?_ ?_)
 | ((with_reducible show PT _ _ (iT _ _ (cB (Ö nC _ _))));refine gU (oLt) ?_ ?_)
 | ((with_reducible show PT _ _ (iT _ _ (cB (Ö j_ _ _))));refine gU (oLe) ?_ ?_)
 | ((with_reducible show PT _ _ (iT _ _ (cB (Ö uf _ _))));refine gU (oGt) ?_ ?_)
 | ((with_reducible show PT _ _ (iT _ _ (cB (Ö Kr _ _))));refine gU (oGe) ?_ ?_)
 | ((with_reducible show PT _ _ (iT _ _ (cB (Ö tm _ _))));refine gU (XN) ?_ ?_)
 | ((with_reducible show PT _ _ (iT _ _ (cB (Ö BV _ _))));refine gU (oIn rfl) ?_ ?_)
 | ((with_reducible show PE _ _ (tE _ _ (aU nC nC _ _ _)));refine vW oLt oLt ?_ ?_ ?_)
 | ((with_reducible show PT _ _ (iT _ _ (cB (aU nC nC _ _ _))));refine sJ oLt oLt ?_ ?_ ?_)
 | ((with_reducible show PE _ _ (tE _ _ (aU j_ j_ _ _ _)));refine vW oLe oLe ?_ ?_ ?_)
 | ((with_reducible show PT _ _ (iT _ _ (cB (aU j_ j_ _ _ _))));refine sJ oLe oLe ?_ ?_ ?_)
 | ((with_reducible show PE _ _ (tE _ _ (aU nB nB _ _ _)));refine vW Oh Oh ?_ ?_ ?_)
 | ((with_reducible show PT _ _ (iT _ _ (cB (aU nB nB _ _ _))));refine sJ Oh Oh ?_ ?_ ?_)
 | ((with_reducible refine Ya ?_))
 | ((with_reducible refine OZ ?_))
 | ((with_reducible refine PW.pt (pw_and' ?_ ?_)))
 | ((with_reducible refine PW.pt (pw_or' ?_ ?_)))
 | ((with_reducible refine pw_and' ?_ ?_))
 | ((with_reducible refine pw_or' ?_ ?_))
 | ((with_reducible refine pw_and1' ?_))
 | ((with_reducible refine pw_or1' ?_))
 | ((with_reducible show PT _ _ (iT _ _ (cT _)));refine aaS rfl ?_)
 | ((with_reducible refine Ta ?_))
 | ((with_reducible show PE _ _ (tE _ _ (gR eA _)));refine Xr aaO ?_)
 | ((with_reducible refine S5 ?_ ?_))
 | ((with_reducible refine Tb ?_))
 | ((with_reducible show PE _ _ (tE _ _ (Xj _ _ _)));refine Xo ?_ ?_ ?_)
 | ((with_reducible exact Xm))
 | ((with_reducible show PE _ _ (tE _ _ (yr _)));(with_reducible refine N1 ?hh ?ha ?hb ?hc ?hd);(case ha=>rfl);(case hb=>rfl);(case hc=>exact List.cons_ne_nil _ _);(case hd=>decide))
 | ((with_reducible refine J8 ?_ ?_ ?_))
 | ((with_reducible exact Oa))
 | ((with_reducible show PE _ _ (tE _ _ (Ij _ _ _)));refine Xq rfl ?_ ?_ ?_)
 | ((with_reducible exact KP))
 | ((with_reducible refine KQ ?_))
 | ((with_reducible refine Xn ?_))
 | ((with_reducible refine S6 ?_))
 | ((with_reducible refine N9 ?_))
 | ((with_reducible refine Tj ?_))
 | ((with_reducible show PE _ _ (tE _ _ (oU _ _ _)));refine N2 ND ?_ ?_ ?_)
 | ((with_reducible show PE _ _ (tL _ _ (Jq "str" qR _ _))); refine Tf rfl PySem.F.plainAttrs_str PySem.F.slot_str_split PySem.F.type_str_split RJ ?_ ?_)
 | ((with_reducible show PE _ _ (tE _ _ (pN "list" cN _ _))); refine DQ rfl k9 PySem.F.slot_list_append PySem.F.type_list_append Nf ?_ ?_)
 | ((with_reducible show PE _ _ (tE _ _ (pN "list" tq _ _))); refine DQ rfl k9 PySem.F.slot_list_pop PySem.F.type_list_pop aab ?_ ?_)
 | ((with_reducible show PE _ _ (tE _ _ (pN "list" qQ _ _))); refine DQ rfl k9 PySem.F.slot_list_count PySem.F.type_list_count RI ?_ ?_)
 | ((with_reducible show PE _ _ (tE _ _ (kl cZ _))); refine J3 (Z5 rfl) (by walk_at "a") Q9 ?_)
 | ((with_reducible show PE _ _ (tE _ _ (kl tj _))); refine J3 (cAbs) (by walk_at "a") Ro.boot_abs ?_)
 | ((with_reducible show PE _ _ (tE _ _ (kl BW _))); refine J3 (Z7 rfl) (by walk_at "a") boot_min ?_)
 | ((with_reducible show PE _ _ (tE _ _ (kl yx _))); refine J3 (Z6 rfl) (by walk_at "a") boot_max ?_)
 | ((with_reducible show PE _ _ (tE _ _ (kl nz _))); refine J3 (M_) (by walk_at "a") Ro.boot_divmod ?_)
 | ((with_reducible show PE _ _ (tE _ _ (kl oV _))); refine aaD cInt (by walk_at "a") Ro.boot_int ?_)
 | ((with_reducible show PE _ _ (tE _ _ (mI O2 _))); refine aaF (Wf rfl) (by walk_at "a") Q9 ?_)
 | ((with_reducible show PE _ _ (tE _ _ (mI O3 _))); refine QG (Z8 rfl) (by walk_at "a") boot_sum ?_)
 | ((with_reducible show PE _ _ (tE _ _ (mI ug _))); refine QG (Z4 rfl) (by walk_at "a") Ro.boot_all ?_)
 | ((with_reducible show PE _ _ (tL _ _ (mI FO _))); refine Xs (Wg rfl) (by walk_at "a") Ro.boot_list ?_)
 | ((with_reducible show PE _ _ (tE _ _ (mI iu _))); refine Xs (RA rfl) (by walk_at "a") Ro.boot_tuple ?_)
 | ((with_reducible show PE _ _ (tL _ _ (vq _))); refine J7 (by walk_at "a") ?_)
 | ((with_reducible show PE _ _ (tE _ _ (gR (aR _) _))); refine S8 rfl (by decide) (by walk_at "a") (by walk_at "a") (by first | exact Ro.boot_int | exact Ro.boot_bool | exact Ro.boot_list | exact Ro.boot_tuple | exact Ro.boot_str) ?_)
 | ((with_reducible show PE _ _ (tE _ _ (Ö pP _ _)));refine nu (XI rfl) ?_ ?_)
 | ((with_reducible show PE _ _ (tE _ _ (Ö nA _ _)));refine j9 (XJ rfl hu) ?_ ?_)
 | ((with_reducible show PT _ _ (iT _ _ (cB (Ö nA _ _))));refine gU (XJ rfl hu) ?_ ?_)
 | ((with_reducible show PE _ _ (tE _ _ (Ö wc _ _)));refine nu XO ?_ ?_)
 | ((with_reducible show PE _ _ (tL _ _ (vt _))); refine N_ (by walk_at "a") ?_)
 | ((with_reducible show PE _ _ (tE _ _ (Ö yy _ _)));refine j9 (XQ rfl hu) ?_ ?_)
 | ((with_reducible show PT _ _ (iT _ _ (cB (Ö yy _ _))));refine gU (XQ rfl hu) ?_ ?_)
 | ((with_reducible show PI _ _ _ (tW _ _ (HM _)));refine aaH ?_)
 | ((with_reducible show PE _ _ (tL _ _ (Œ _ _ _ _ _)));refine N7 _ (ž.of rfl (by decide +kernel) (by decide +kernel) (by decide +kernel) (by repeat (first|exact trivial|refine⟨⟨rfl,rfl,by first|exact .inl rfl|exact .inr rfl⟩,?_⟩))) rfl ?_ (λ _ _ _ _ _=>?_) (λ _ _ _ _ _=>?_) (λ _ _ _ _ _=>?_))
 | ((with_reducible show PI _ _ _ (Yw _ _ (Ĳ _)));refine Xv rfl ?_)
 | ((with_reducible show PE _ _ (tL _ _ (vo _ _ _ _ _))); refine N8 (by walk_at "a") _ (ž.of rfl (by decide +kernel) (by decide +kernel) (by decide +kernel) (by repeat (first | exact trivial | refine ⟨⟨rfl, rfl, by first | exact .inl rfl | exact .inr rfl⟩, ?_⟩))) rfl ?_ (fun _ _ _ _ _ => ?_) (fun _ _ _ _ _ => ?_) (fun _ _ _ _ _ => ?_))
 | ((with_reducible exact KN))
 | ((with_reducible refine KO ?_))
 | ((with_reducible refine Tn ?_))
 | ((with_reducible show PI _ _ _ (tW _ _ (sL (Ã _ Ð)))); refine Xt (by walk_at "a") ?_)
 | ((with_reducible show PI _ _ _ (tW _ _ (sL _))); refine Xu (by walk_at "a") ?_ ?_)
 | ((with_reducible show PI _ _ _ (tW _ _ (HN _ _))); refine Ti rfl (by walk_at "a") ?_ ?_)
 | ((with_reducible show PI _ _ _ (tW _ _ (xw _)));refine aaG rfl ?_)
 | ((with_reducible show PI _ _ _ (tW _ _ (Ĳ _)));refine aaI rfl ?_)
 | ((with_reducible show PG _ _ (tT _ _ (gN _)));exact N4 (by first|exact nd|(show List.Nodup (_ :: _);decide +kernel)))
 | ((with_reducible show PG _ _ (tT _ _ (gT _ _)));refine Tg rfl rfl ?_)
 | ((with_reducible show PG _ _ (tT _ _ (m4 _ _)));refine N5 ?_ ?_)
 | ((with_reducible show EM _ (_ :: _) _);refine J5 ?_ ?_)
 | ((with_reducible exact N6))
 | ((with_reducible exact Oo))
 | ((with_reducible exact Tz))
 | ((with_reducible exact Oq))
 | ((with_reducible refine Om ?_ ?_))
 | ((with_reducible refine TB ?_))
 | ((with_reducible show PS _ _ (tS _ _ (Ī _ (Ę (Œ _ _ _ _ _)))));refine DR _ (ž.of rfl (by decide +kernel) (by decide +kernel) (by decide +kernel) (by repeat (first|exact trivial|refine⟨⟨rfl,rfl,by first|exact .inl rfl|exact .inr rfl⟩,?_⟩))) rfl nd ?_ (λ _ _ _ _ _=>?_) (λ _ _ _ _ _=>?_) (λ _ _ _ _ _=>?_))
 | ((with_reducible show PS _ _ (tS _ _ (Ī _ (Ę (pM _ _ _ _ _ _ _ _)))));refine BJ _ (ž.of rfl (by decide +kernel) (by decide +kernel) (by decide +kernel) (by repeat (first|exact trivial|refine⟨⟨rfl,rfl,by first|exact .inl rfl|exact .inr rfl⟩,?_⟩))) rfl nd ?_ (λ _ _ _ _ _=>?_) (λ _ _ _ _ _=>?_) (λ _ _ _ _ _=>?_) (λ _ _ _ _ _=>?_) (λ _ _ _ _ _=>?_) (λ _ _ _ _ _=>?_))
 | ((with_reducible show PS _ _ (tS _ _ (Ī _ (Ę (aL _)))));(with_reducible refine Od ?hN ?_ ?hi ?hx ?hf);(case hN=>exact nd);(case hi=>rfl);(case hx=>exact HX rfl);(case hf=>exact HX rfl))
 | ((with_reducible show PS _ _ (tS _ _ (Ī _ _)));refine J9 nd ?_)
 | ((with_reducible show PS _ _ (tS _ _ (ě _)));refine Tr ?_)
 | ((with_reducible show PS _ _ (tS _ _ (eL _ _ _)));refine Xw ?_ ?_ ?_)
 | ((with_reducible show PS _ _ (tS _ _ (tD _)));refine Oc ?_)
 | ((with_reducible show PS _ _ (tS _ _ (gD _ _ _)));refine Tp HY rfl ?_ ?_ ?_)
 | ((with_reducible show PS _ _ (tS _ _ (pS _ _ _)));refine Tq rfl nd ?_)
 | ((with_reducible show PS _ _ (tS _ _ (mC _ _)));refine To ?_ ?_ ?_)
 | ((with_reducible show PS _ _ (tS _ _ (qX _ _ _)));refine Ob ND ?_ ?_ ?_)
 | ((with_reducible show PS _ _ (tS _ _ (HG _ _ _)));refine Ts _ HY ?_ ?_)
 | ((with_reducible show p5 _ _ (tS _ _ (ì _ _)));refine J_ ?_ ?_)
 | ((with_reducible show p5 _ _ (tS _ _ Ľ));exact Oe)
 | (refine Of ?_)) <;> walk_at "q")
local macro_rules | `(tactic| walk_at "b") => `(tactic| (intro _ _ _ _ _ _ us hl; first | (cases len0 hl; rfl) | (obtain ⟨_, e⟩ := Xa hl; subst e; rfl) | (obtain ⟨_, _, e⟩ := Xc hl; subst e; rfl) | (obtain ⟨_, _, _, e⟩ := Xe hl; subst e; rfl) | (obtain ⟨_, _, _, _, e⟩ := Xf hl; subst e; rfl) | (obtain ⟨_, _, _, _, _, e⟩ := Xg hl; subst e; rfl) | (obtain ⟨_, _, _, _, _, _, e⟩ := Xh hl; subst e; rfl) | (obtain ⟨_, _, _, _, _, _, _, e⟩ := aaB hl; subst e; rfl)))
set_option hygiene false in
local macro_rules | `(tactic| walk_at "g") => `(tactic| (intro hr nd; have ND := WX hr; have hu := aax hr; walk_at "q"))
local macro_rules | `(tactic| walk_at "h") => `(tactic| ((· exact (QQ rfl rfl rfl rfl (by decide +kernel))); (· walk_at "b"); (· rfl); intro _ _ _ _ _ _ _; walk_at "g"))
section
variable (P:ý)(w:ğ){T:Tx}{mg:Str->Í Ç}(base:Heap)(wG:mg "abs"=none)(nR:mg "all"=none)(pW:mg "bool"=none)(nU:mg "divmod"=none)(kX:mg "int"=none)(ň:mg "isinstance"=none)(dz:mg "len"=none)(lV:mg "list"=none)(CG:mg "max"=none)(CH:mg "min"=none)(fQ:mg "range"=none)(je:mg "sorted"=none)(wH:mg "str"=none)(CI:mg "sum"=none)(aX:mg "tuple"=none)(wI:mg "zip"=none)(cm:C' T mg "GREATEST_BELOW" gw)(bN:C' T mg "GREATEST_LENGTH" jB)(cP:C' T mg "GREATEST_UPTO" eK)(eB:C' T mg "LEAST_RATES" j8)(dv:C' T mg "LONGEST_NAME" ng)(cn:C' T mg "MOST_LEFT_ROWS" kM)(fN:C' T mg "MOST_RATES" lK)(hW:C' T mg "MOST_ROWS" nh)(cq:C' T mg "NOTHING" fj)(wq:C' T mg "ONE" Fp)(ż:C' T mg "WHOLE_COIN_ROWS" aG)(d0:Df T mg "greatest_divisor" (top 3)) (d1:Df T mg "fraction_of" (top 4)) (d2:Df T mg "plus" (top 5)) (d3:Df T mg "sum_of" (top 6)) (d4:Df T mg "taken_from" (top 7)) (d5:Df T mg "product_of" (top 8)) (d6:Df T mg "is_less" (top 9)) (d7:Df T mg "is_number" (top 13)) (d8:Df T mg "is_number_from" (top 14)) (d9:Df T mg "is_tuple_of" (top 15)) (U5:Df T mg "is_name" (top 16)) (U6:Df T mg "is_part" (top 17)) (U7:Df T mg "are_uptos" (top 29)) (U8:Df T mg "is_rates" (top 28)) (U9:Df T mg "is_row" (top 27)) (U_:Df T mg "is_rows" (top 26)) (U':Df T mg "greatest_part" (top 31)) (Va:Df T mg "too_much" (top 30)) (Vb:Df T mg "part_at" (top 32)) (Vc:Df T mg "whole_coin_shares" (top 33)) (Vd:Df T mg "left_shares" (top 34)) (Ve:Df T mg "length_shares" (top 35)) (Vf:Df T mg "all_shares" (top 36)) (Vg:Df T mg "gathered" (top 37)) (Vh:Df T mg "parts_at" (top 38)) (Vi:Df T mg "waits_at" (top 39)) (Vj:Df T mg "unit_stretches" (top 40)) (Vk:Df T mg "_law_begin" (top 42)) (Vl:Df T mg "_law_take" (top 43)) (RH:Df T mg "_law_same" (top 44)) (Vm:Df T mg "_law_lowest" (top 45)) (Vn:Df T mg "_law_sum" (top 46)) (Vo:Df T mg "_law_times" (top 47)) (Vp:Df T mg "_law_names" (top 48)) (Vq:Df T mg "_law_part" (top 49)) (Vr:Df T mg "_law_row" (top 50)) (Vs:Df T mg "_law_rows" (top 51)) (Vt:Df T mg "_law_some_rows" (top 52)) (Vu:Df T mg "_law_added" (top 53)) (Vv:Df T mg "_law_by_kinds" (top 54)) (d40:Df T mg "law" (top 55)) (Ň:Fk P w T mg base "greatest_divisor" 2 1 ĝ)(j6:Fk P w T mg base "fraction_of" 2 2 bU)(vC:Fk P w T mg base "plus" 2 2 pC)(i6:Fk P w T mg base "sum_of" 1 3 cM)(fI:Fk P w T mg base "taken_from" 2 3 cE)(fH:Fk P w T mg base "product_of" 2 2 bL)(kF:Fk P w T mg base "is_less" 2 1 gp)(m_:Fk P w T mg base "is_number" 1 1 e8)(aq:Fk P w T mg base "is_number_from" 3 2 ĩ)(bW:Fk P w T mg base "is_tuple_of" 2 1 ź)(se:Fk P w T mg base "is_name" 1 1 iQ)(kG:Fk P w T mg base "is_part" 1 3 e_)(m9:Fk P w T mg base "are_uptos" 1 3 e7)(pH:Fk P w T mg base "is_rates" 1 4 iX)(vB:Fk P w T mg base "is_row" 1 5 kE)(sf:Fk P w T mg base "is_rows" 1 6 fe)(il:Fk P w T mg base "greatest_part" 1 2 ś)(pJ:Fk P w T mg base "too_much" 1 4 dt)(sg:Fk P w T mg base "part_at" 2 1 ff)(dP:Fk P w T mg base "whole_coin_shares" 2 2 ſ)(j7:Fk P w T mg base "left_shares" 2 4 cQ)(ip:Fk P w T mg base "length_shares" 2 3 bD)(fG:Fk P w T mg base "all_shares" 2 5 cD)(pG:Fk P w T mg base "gathered" 1 4 gm)(pI:Fk P w T mg base "parts_at" 2 6 Đ)(pK:Fk P w T mg base "waits_at" 2 6 Ĕ)(gv:Fk P w T mg base "unit_stretches" 3 1 Ŏ)(lH:Fk P w T mg base "_law_begin" 1 1 dE)(Ř:Fk P w T mg base "_law_take" 2 1 ë)(m8:Fk P w T mg base "_law_same" 2 10 (ć 9)) (ax:Fk P w T mg base "_law_lowest" 2 1 Ś)(iZ:Fk P w T mg base "_law_sum" 1 2 ao)(lJ:Fk P w T mg base "_law_times" 2 2 aw)(lI:Fk P w T mg base "_law_names" 2 2 dF)(m5:Fk P w T mg base "_law_part" 1 2 eY)(pF:Fk P w T mg base "_law_row" 3 3 gh)(m7:Fk P w T mg base "_law_rows" 3 4 eZ)(gu:Fk P w T mg base "_law_some_rows" 1 5 a_)(lG:Fk P w T mg base "_law_added" 3 3 ő)(ik:Fk P w T mg base "_law_by_kinds" 2 2 aK)
include wG d0 in
theorem oG:Fk P w T mg base "greatest_divisor" 2 1 ĝ:=by
 unfold ĝ eS
 refine Ų ["one","other"] d0 ?_ ?_ ?_ ?_
 walk_at "h"
include d1 Ň in
theorem v9:Fk P w T mg base "fraction_of" 2 2 bU:=by
 unfold bU jT
 refine Ų ["top","below","divisor"] d1 ?_ ?_ ?_ ?_
 walk_at "h"
include d2 Ň in
theorem Ol:Fk P w T mg base "plus" 2 2 pC:=by
 unfold pC Dl
 refine Ų ["one","other","shared","together","divisor","top","below","other_top","other_below"] d2 ?_ ?_ ?_ ?_
 walk_at "h"
include cq d3 vC in
theorem Hq:Fk P w T mg base "sum_of" 1 3 cM:=by
 unfold cM uY
 refine Ų ["parts","together","part"] d3 ?_ ?_ ?_ ?_
 walk_at "h"
include d4 vC in
theorem xq:Fk P w T mg base "taken_from" 2 3 cE:=by
 unfold cE lA
 refine Ų ["one","other"] d4 ?_ ?_ ?_ ?_
 walk_at "h"
include d5 Ň in
theorem xp:Fk P w T mg base "product_of" 2 2 bL:=by
 unfold bL lz
 refine Ų ["one","other","first","second"] d5 ?_ ?_ ?_ ?_
 walk_at "h"
include d6 in
theorem DS:Fk P w T mg base "is_less" 2 1 gp:=by
 unfold gp xK
 refine Ų ["one","other"] d6 ?_ ?_ ?_ ?_
 walk_at "h"
include pW kX ň d7 in
theorem zL:Fk P w T mg base "is_number" 1 1 e8:=by
 unfold e8 mU
 refine Ų ["thing"] d7 ?_ ?_ ?_ ?_
 walk_at "h"
include d8 m_ in
theorem qO:Fk P w T mg base "is_number_from" 3 2 ĩ:=by
 unfold ĩ kD
 refine Ų ["thing","least","most"] d8 ?_ ?_ ?_ ?_
 walk_at "h"
include ň dz aX d9 in
theorem v_:Fk P w T mg base "is_tuple_of" 2 1 ź:=by
 unfold ź oO
 refine Ų ["thing","many"] d9 ?_ ?_ ?_ ?_
 walk_at "h"
include nR ň dz wH dv U5 in
theorem DT:Fk P w T mg base "is_name" 1 1 iQ:=by
 unfold iQ xM
 refine Ų ["thing"] U5 ?_ ?_ ?_ ?_
 walk_at "h"
include cm U6 Ň aq bW in
theorem DU:Fk P w T mg base "is_part" 1 3 e_:=by
 unfold e_ xN
 refine Ų ["thing","top","below"] U6 ?_ ?_ ?_ ?_
 walk_at "h"
include cP U7 aq in
theorem zK:Fk P w T mg base "are_uptos" 1 3 e7:=by
 unfold e7 ju
 refine Ų ["things","least","thing"] U7 ?_ ?_ ?_ ?_
 walk_at "h"
include nR ň dz aX eB fN U8 bW kG m9 in
theorem BQ:Fk P w T mg base "is_rates" 1 4 iX:=by
 unfold iX uX
 refine Ų ["thing"] U8 ?_ ?_ ?_ ?_
 walk_at "h"
include bN U9 aq bW se kG pH in
theorem Ho:Fk P w T mg base "is_row" 1 5 kE:=by
 unfold kE AY
 refine Ų ["thing","kind","name","told"] U9 ?_ ?_ ?_ ?_
 walk_at "h"
include nR ň dz aX cn hW U_ vB in
theorem DV:Fk P w T mg base "is_rows" 1 6 fe:=by
 unfold fe xO
 refine Ų ["thing"] U_ ?_ ?_ ?_ ?_
 walk_at "h"
include cq U' kF in
theorem sF:Fk P w T mg base "greatest_part" 1 2 ś:=by
 unfold ś l8
 refine Ų ["row","greatest","told","kind","name","upto","part"] U' ?_ ?_ ?_ ?_
 walk_at "h"
include wq ż Va i6 kF il in
theorem BS:Fk P w T mg base "too_much" 1 4 dt:=by
 unfold dt uZ
 refine Ų ["rows"] Va ?_ ?_ ?_ ?_
 walk_at "h"
include Vb in
theorem DW:Fk P w T mg base "part_at" 2 1 ff:=by
 unfold ff n6
 refine Ų ["row","unit","kind","name","told","upto","part"] Vb ?_ ?_ ?_ ?_
 walk_at "h"
include ż Vc sg in
theorem nv:Fk P w T mg base "whole_coin_shares" 2 2 ſ:=by
 unfold ſ dM
 refine Ų ["rows","unit"] Vc ?_ ?_ ?_ ?_
 walk_at "h"
include Vd fI fH in
theorem wa:Fk P w T mg base "left_shares" 2 4 cQ:=by
 unfold cQ jU
 refine Ų ["rows","rest","shares","kind","name","part","share"] Vd ?_ ?_ ?_ ?_
 walk_at "h"
include CI cq Ve j6 fH in
theorem sG:Fk P w T mg base "length_shares" 2 3 bD:=by
 unfold bD ie
 refine Ų ["rows","rest","lengths","together"] Ve ?_ ?_ ?_ ?_
 walk_at "h"
include wq Vf i6 fI dP j7 ip in
theorem xo:Fk P w T mg base "all_shares" 2 5 cD:=by
 unfold cD ly
 refine Ų ["rows","unit","by_coin","rest","by_left","by_length"] Vf ?_ ?_ ?_ ?_
 walk_at "h"
include je cq Vg i6 in
theorem BP:Fk P w T mg base "gathered" 1 4 gm:=by
 unfold gm pk
 refine Ų ["shares","parts","name","share"] Vg ?_ ?_ ?_ ?_
 walk_at "h"
include Vh fG pG in
theorem BR:Fk P w T mg base "parts_at" 2 6 Đ:=by
 unfold Đ pq
 refine Ų ["rows","unit","shares","rest"] Vh ?_ ?_ ?_ ?_
 walk_at "h"
include Vi fG in
theorem BU:Fk P w T mg base "waits_at" 2 6 Ĕ:=by
 unfold Ĕ pw
 refine Ų ["rows","unit","rest","shares"] Vi ?_ ?_ ?_ ?_
 walk_at "h"
include je wI Vj in
theorem qP:Fk P w T mg base "unit_stretches" 3 1 Ŏ:=by
 unfold Ŏ gf
 refine Ų ["rows","first","many","behind","uptos","cuts"] Vj ?_ ?_ ?_ ?_
 walk_at "h"
include lV Vk in
theorem xl:Fk P w T mg base "_law_begin" 1 1 dE:=by
 unfold dE lh
 refine Ų ["_law_script","_law_cells"] Vk ?_ ?_ ?_ ?_
 walk_at "h"
include nU dz Vl in
theorem zJ:Fk P w T mg base "_law_take" 2 1 ë:=by
 unfold ë mT
 refine Ų ["_law_state","_law_many","_law_turn","_law_place","_law_cell","_law_mixed","_law_digit"] Vl ?_ ?_ ?_ ?_
 walk_at "h"
include nR pW kX ň dz lV wH aX wI RH in
theorem zI:∀ n:Nat,Fk P w T mg base "_law_same" 2 (n+1) (ć n):=by
 intro n;induction n with
 | zero=>exact R3 ["_law_found","_law_due"] RH rfl (by walk_at "b")
 | succ n ih=>
  unfold ć eW
  refine Ų (k:=n+1) ["_law_found","_law_due"] RH ?_ ?_ ?_ ?_
  walk_at "h"
include wG Vm in
theorem v8:Fk P w T mg base "_law_lowest" 2 1 Ś:=by
 unfold Ś jS
 refine Ų ["_law_top","_law_below","_law_sign","_law_one","_law_other"] Vm ?_ ?_ ?_ ?_
 walk_at "h"
include Vn ax in
theorem BO:Fk P w T mg base "_law_sum" 1 2 ao:=by
 unfold ao pj
 refine Ų ["_law_parts","_law_top","_law_below","_law_one","_law_other"] Vn ?_ ?_ ?_ ?_
 walk_at "h"
include Vo ax in
theorem xn:Fk P w T mg base "_law_times" 2 2 aw:=by
 unfold aw lu
 refine Ų ["_law_one","_law_other"] Vo ?_ ?_ ?_ ?_
 walk_at "h"
include dz fQ Vp Ř in
theorem xm:Fk P w T mg base "_law_names" 2 2 dF:=by
 unfold dF lr
 refine Ų ["_law_state","_law_many","_law_some"] Vp ?_ ?_ ?_ ?_
 walk_at "h"
include Vq Ř ax in
theorem zG:Fk P w T mg base "_law_part" 1 2 eY:=by
 unfold eY mR
 refine Ų ["_law_state","_law_below"] Vq ?_ ?_ ?_ ?_
 walk_at "h"
include CH fQ aX Vr Ř ax m5 in
theorem BN:Fk P w T mg base "_law_row" 3 3 gh:=by
 unfold gh ph
 refine Ų ["_law_state","_law_name","_law_room","_law_way","_law_most","_law_rates","_law_upto","_law_turn"] Vr ?_ ?_ ?_ ?_
 walk_at "h"
include kX dz fQ aX Vs Ř pF in
theorem zH:Fk P w T mg base "_law_rows" 3 4 eZ:=by
 unfold eZ mS
 refine Ų ["_law_state","_law_names_here","_law_many","_law_room","_law_found","_law_turn","_law_row_here","_law_taken"] Vs ?_ ?_ ?_ ?_
 walk_at "h"
include kX Vt Ř lI m7 in
theorem qN:Fk P w T mg base "_law_some_rows" 1 5 a_:=by
 unfold a_ gb
 refine Ų ["_law_state","_law_many"] Vt ?_ ?_ ?_ ?_
 walk_at "h"
include Vu iZ lJ in
theorem xk:Fk P w T mg base "_law_added" 3 3 ő:=by
 unfold ő fC
 refine Ų ["_law_found","_law_pairs","_law_many","_law_name","_law_part_here"] Vu ?_ ?_ ?_ ?_
 walk_at "h"
include dz aX Vv Ř in
theorem sE:Fk P w T mg base "_law_by_kinds" 2 2 aK:=by
 unfold aK ib
 refine Ų ["_law_state","_law_rows_here","_law_kinds","_law_found","_law_kind"] Vv ?_ ?_ ?_ ?_
 walk_at "h"
include kX dz lV CG fQ aX sf pJ pI pK gv lH Ř m8 iZ gu lG ik in
theorem Tw (F:Mo T.K "law" "law" (top 55) f fd):oA P w T.K mg base C0 11 f fd ["_law_script"] (wx T 1 lD):=by
 unfold lD y9
 have S:la ["_law_script","_law_state","_law_turn","_law_rows_here","_law_uptos","_law_other","_law_alone","_law_told","_law_waits","_law_first","_law_many","_law_one_by_one","_law_by_stretches","_law_begin_here","_law_size","_law_unit"] ["_law_script"] (ai (top 55)):=(QQ rfl rfl rfl rfl (by decide +kernel))
 refine Qm (k:=10) F S λ _ _ _ _ _ _ hr=>?_
 have nd:=S.nd
 revert nd hr
 walk_at "g"
include wG nR pW nU kX ň dz lV CG CH fQ je wH CI aX wI cm bN cP eB dv cn fN hW cq wq ż d0 d1 d2 d3 d4 d5 d6 d7 d8 d9 U5 U6 U7 U8 U9 U_ U' Va Vb Vc Vd Ve Vf Vg Vh Vi Vj Vk Vl RH Vm Vn Vo Vp Vq Vr Vs Vt Vu Vv in
theorem Ru (F:Mo T.K "law" "law" (top 55) f fd):oA P w T.K mg base C0 11 f fd ["_law_script"] (wx T 1 lD):=by
 have Ň:=oG P w base wG d0
 have j6:=v9 P w base d1 Ň
 have vC:=Ol P w base d2 Ň
 have i6:=Hq P w base cq d3 vC
 have fI:=xq P w base d4 vC
 have fH:=xp P w base d5 Ň
 have kF:=DS P w base d6
 have m_:=zL P w base pW kX ň d7
 have aq:=qO P w base d8 m_
 have bW:=v_ P w base ň dz aX d9
 have se:=DT P w base nR ň dz wH dv U5
 have kG:=DU P w base cm U6 Ň aq bW
 have m9:=zK P w base cP U7 aq
 have pH:=BQ P w base nR ň dz aX eB fN U8 bW kG m9
 have vB:=Ho P w base bN U9 aq bW se kG pH
 have sf:=DV P w base nR ň dz aX cn hW U_ vB
 have il:=sF P w base cq U' kF
 have pJ:=BS P w base wq ż Va i6 kF il
 have sg:=DW P w base Vb
 have dP:=nv P w base ż Vc sg
 have j7:=wa P w base Vd fI fH
 have ip:=sG P w base CI cq Ve j6 fH
 have fG:=xo P w base wq Vf i6 fI dP j7 ip
 have pG:=BP P w base je cq Vg i6
 have pI:=BR P w base Vh fG pG
 have pK:=BU P w base Vi fG
 have gv:=qP P w base je wI Vj
 have lH:=xl P w base lV Vk
 have Ř:=zJ P w base nU dz Vl
 have m8:=zI P w base nR pW kX ň dz lV wH aX wI RH 9
 have ax:=v8 P w base wG Vm
 have iZ:=BO P w base Vn ax
 have lJ:=xn P w base Vo ax
 have lI:=xm P w base dz fQ Vp Ř
 have m5:=zG P w base Vq Ř ax
 have pF:=BN P w base CH fQ aX Vr Ř ax m5
 have m7:=zH P w base kX dz fQ aX Vs Ř pF
 have gu:=qN P w base kX Vt Ř lI m7
 have lG:=xk P w base Vu iZ lJ
 have ik:=sE P w base dz aX Vv Ř
 exact Tw P w base kX dz lV CG fQ aX sf pJ pI pK gv lH Ř m8 iZ gu lG ik F
include wG nR pW nU kX ň dz lV CG CH fQ je wH CI aX wI cm bN cP eB dv cn fN hW cq wq ż d0 d1 d2 d3 d4 d5 d6 d7 d8 d9 U5 U6 U7 U8 U9 U_ U' Va Vb Vc Vd Ve Vf Vg Vh Vi Vj Vk Vl RH Vm Vn Vo Vp Vq Vr Vs Vt Vu Vv d40 in
theorem RY {l:mH}{K:Ô}(e:T=TK K){h:Heap}{fa:Addr}(hfa:mg "law"=À (.ref fa)):∃ fd:dI,(∀ (s:Ï) (v:Ç),ui s fd ⟨[v],[]⟩ [("_law_script",v)])/\∀ base:Heap,K.In base->base.Ns ū mg->oA l.prog w K mg base C0 11 fa fd ["_law_script"] (wx (TK K) 1 lD):=by
 subst e
 exact RZ (h:=h) hfa d40 (λ _ _ _ _ _ _ _ _=>.of_eq rfl) λ base f fd F=>Ru l.prog w base wG nR pW nU kX ň dz lV CG CH fQ je wH CI aX wI cm bN cP eB dv cn fN hW cq wq ż d0 d1 d2 d3 d4 d5 d6 d7 d8 d9 U5 U6 U7 U8 U9 U_ U' Va Vb Vc Vd Ve Vf Vg Vh Vi Vj Vk Vl RH Vm Vn Vo Vp Vq Vr Vs Vt Vu Vv F
end
end Ro
namespace Ro
open PySem L2
end Ro
namespace L2
open PySem PySem.Spec PyProof.Rows
end L2
namespace Ro
open PySem L2
abbrev Fs:=Á (Int × Int)
def den:Fs->Int
 | []=>1
 | f :: r=>f.2 * den r
def num:Fs->Int
 | []=>0
 | f :: r=>f.1 * den r+f.2 * num r
def ZU (fs:Fs):Prop:=∀ f∈fs,1<=f.2
theorem den_pos:∀ {fs:Fs},ZU fs->1<=den fs
 | [],_=>by decide
 | f :: r,h=>by
  have h1:1<=f.2:=h f Ġ
  have h2:=den_pos (fs:=r) λ g hg=>h g (Ċ _ hg)
  show 1<=f.2 * den r
  have:=dY (show 0 < f.2 by lia) (show 0 < den r by lia)
  lia
abbrev ig (a b:Int):Int:=((í a b:Nat):Int)
theorem zq (a b:Int):ig a b ∣ a:=iD ..
theorem qz (a b:Int):ig a b ∣ b:=lX ..
theorem Dp:í a b=1 ↔ abm a.natAbs b.natAbs:=Iff.rfl
theorem u_ (h1:í a c=1)(h2:í b c=1):í (a * b) c=1:=by
 rw[Dp]at *
 rw[dZ]
 exact ab3 h1 h2
theorem qr (h1:í a b=1)(h2:í a c=1):í a (b * c)=1:=by
 rw[Dp]at *
 rw[dZ]
 exact ab4 h1 h2
theorem r8 (h:í a b=1)(h1:x ∣ a)(h2:y ∣ b):í x y=1:=by
 rw[Dp]at *
 have q:P4 x.natAbs y.natAbs ∣ P4 a.natAbs b.natAbs:=Nat.dvd_gcd (YI (Nat.gcd_dvd_left ..) (iy.mpr h1)) (YI (Nat.gcd_dvd_right ..) (iy.mpr h2))
 rw[show P4 a.natAbs b.natAbs=1 from h]at q
 exact Nat.dvd_one.mp q
theorem zg {a b:Int}(hb:b≠0):í (a.fdiv (ig a b)) (b.fdiv (ig a b))=1:=by
 have p:=gQ (t:=a) hb
 have e1:=ŗ (zq a b)
 have e2:=ŗ (qz a b)
 have q:í (a.fdiv (ig a b) * ig a b) (b.fdiv (ig a b) * ig a b)=í a b:=by rw[e1,e2]
 rw[PV]at q
 have n:(ig a b).natAbs=í a b:=ME _
 rw[n]at q
 exact AE p (by rw[q,abr])
theorem mY {a g:Int}(h:g ∣ a)(ha:1<=a)(hg:1<=g):1<=a.fdiv g:=by
 have e:=ŗ h
 refine MF.mp λ z=>?_
 have:a.fdiv g * g<=0:=tJ (by lia) (by lia)
 lia
theorem OT {a b c d:Int}(hb:1<=b)(hd:1<=d)(h1:í a b=1)(h2:í c d=1) :
  fr (a * c) (b * d)=(a.fdiv (ig a d) * c.fdiv (ig c b),b.fdiv (ig c b) * d.fdiv (ig a d)):=by
 have WC:b≠0:=by lia
 have Mx:d≠0:=by lia
 have p1:1<=ig a d:=by have:=gQ (t:=a) Mx;show(1:Int)<=((í a d:Nat):Int);lia
 have p2:1<=ig c b:=by have:=gQ (t:=c) WC;show(1:Int)<=((í c b:Nat):Int);lia
 have ea:=ŗ (zq a d)
 have ed:=ŗ (qz a d)
 have ec:=ŗ (zq c b)
 have eb:=ŗ (qz c b)
 have c1:=zg (a:=a) Mx
 have c2:=zg (a:=c) WC
 have d1:=mY (qz a d) hd p1
 have d2:=mY (qz c b) hb p2
 have da:a.fdiv (ig a d) ∣ a:=⟨_,ea.symm⟩
 have db:b.fdiv (ig c b) ∣ b:=⟨_,eb.symm⟩
 have dc:c.fdiv (ig c b) ∣ c:=⟨_,ec.symm⟩
 have dd:d.fdiv (ig a d) ∣ d:=⟨_,ed.symm⟩
 refine zk (cb WC Mx) ?_ ?_ ?_
 ·have:=dY (show 0 < b.fdiv (ig c b) by lia) (show 0 < d.fdiv (ig a d) by lia)
  lia
 ·exact u_ (qr (r8 h1 da db) c1) (qr c2 (r8 h2 dc dd))
 ·generalize a.fdiv (ig a d)=a' at *
  generalize d.fdiv (ig a d)=d' at *
  generalize c.fdiv (ig c b)=c' at *
  generalize b.fdiv (ig c b)=b' at *
  generalize ig a d=g at *
  generalize ig c b=k at *
  rw[<-ea,<-ed,<-ec,<-eb]
  simp only[fu,c6,PX]
theorem ON {t b u d:Int}(hb:1<=b)(hd:1<=d)(h1:í t b=1)(h2:í u d=1) :
  fr (t * d+u * b) (b * d)=((t * d.fdiv (ig b d)+u * b.fdiv (ig b d)).fdiv (ig (t * d.fdiv (ig b d)+u * b.fdiv (ig b d)) (ig b d)),b.fdiv (ig b d) * d.fdiv (ig (t * d.fdiv (ig b d)+u * b.fdiv (ig b d)) (ig b d))):=by
 have WC:b≠0:=by lia
 have Mx:d≠0:=by lia
 have ps:1<=ig b d:=by have:=gQ (t:=b) Mx;show(1:Int)<=((í b d:Nat):Int);lia
 have eb:=ŗ (zq b d)
 have ed:=ŗ (qz b d)
 have cbd:=zg (a:=b) Mx
 have db:b.fdiv (ig b d) ∣ b:=⟨_,eb.symm⟩
 have dd:d.fdiv (ig b d) ∣ d:=⟨_,ed.symm⟩
 have pb:=mY (zq b d) hb ps
 have pd:=mY (qz b d) hd ps
 have ctb:=r8 h1 (uQ t) db
 have cud:=r8 h2 (uQ u) dd
 generalize b.fdiv (ig b d)=b' at *
 generalize Qr:d.fdiv (ig b d)=d' at *
 generalize ig b d=s at *
 generalize hT:t * d'+u * b'=T at *
 have s0:s≠0:=by lia
 have pg:1<=ig T s:=by have:=gQ (t:=T) s0;show(1:Int)<=((í T s:Nat):Int);lia
 have eT:=ŗ (zq T s)
 have es:=ŗ (qz T s)
 have cTs:=zg (a:=T) s0
 have psg:=mY (qz T s) ps pg
 have dT:T.fdiv (ig T s) ∣ T:=⟨_,eT.symm⟩
 have dg:d.fdiv (ig T s)=d' * s.fdiv (ig T s):=by
  have e:d=d' * s.fdiv (ig T s) * ig T s:=by rw[fu,es,ed]
  have g0:ig T s≠0:=by lia
  have e2:d.fdiv (ig T s) * ig T s=d' * s.fdiv (ig T s) * ig T s:=by
   rw[ŗ (⟨_,by rw[c6];exact e⟩:ig T s ∣ d)]
   exact e
  exact ko g0 e2
 have coT1:í T b'=1:=by
  have q:í (t * d') b'=1:=u_ ctb (by rw[Zv];exact cbd)
  rw[<-hT]
  rw[<-q]
  exact AA ..
 have coT2:í T d'=1:=by
  have q:í (u * b') d'=1:=u_ cud cbd
  rw[<-hT,Int.add_comm,<-q]
  exact AA ..
 rw[dg]
 refine zk (cb WC Mx) ?_ ?_ ?_
 ·have:=dY (show 0 < d' by lia) (show 0 < s.fdiv (ig T s) by lia)
  have:=dY (show 0 < b' by lia) this
  lia
 ·exact qr (r8 coT1 dT (uQ _)) (qr (r8 coT2 dT (uQ _)) cTs)
 ·generalize s.fdiv (ig T s)=k at *
  generalize T.fdiv (ig T s)=T' at *
  generalize ig T s=g at *
  have eN:t * d+u * b=T' * g * s:=by
   rw[eT,<-hT,<-ed,<-eb,abj,<-fu,<-fu]
  rw[eN,<-ed,<-eb,<-es]
  simp only[fu,c6,PX]
open Mm
def fq (q:Rat):AV:=.tup [.int q.num,.int q.den]
theorem oh (q:Rat):í q.num (q.den:Int)=1:=q.reduced
theorem iM (q:Rat):(1:Int)<=(q.den:Int):=by have:=q.den_pos;lia
theorem sd (h:b≠0):fr t b=((Õ t b).num,((Õ t b).den:Int)):=by
 refine zk h (iM _) (oh _) ?_
 have e:=ţ (Õ t b)
 have:=(Rat.divInt_eq_divInt_iff (by have:=(Õ t b).den_pos;lia) h).mp e
 exact this
theorem yW (p q:Rat):p+q=Õ (p.num * q.den+q.num * p.den) (p.den * q.den):=by
 have h1:(p.den:Int)≠0:=by have:=p.den_pos;lia
 have h2:(q.den:Int)≠0:=by have:=q.den_pos;lia
 rw[<-HZ _ _ h1 h2,ţ,ţ]
theorem FA (p q:Rat):p * q=Õ (p.num * q.num) (p.den * q.den):=by
 rw[<-o6,ţ,ţ]
theorem R6 (p q:Rat):fr (p.num * q.den+q.num * p.den) (p.den * q.den)=((p+q).num,((p+q).den:Int)):=by
 have h1:(p.den:Int)≠0:=by have:=p.den_pos;lia
 have h2:(q.den:Int)≠0:=by have:=q.den_pos;lia
 rw[sd (cb h1 h2),yW]
theorem R9 (p q:Rat):fr (p.num * q.num) (p.den * q.den)=((p * q).num,((p * q).den:Int)):=by
 have h1:(p.den:Int)≠0:=by have:=p.den_pos;lia
 have h2:(q.den:Int)≠0:=by have:=q.den_pos;lia
 rw[sd (cb h1 h2),FA]
structure Sz (n:Nat)(q:Rat):Prop where
 a:bu n q.num
 b:bu n (q.den:Int)
theorem Sz.mono (h:Sz n q)(k:n<=m):Sz m q:=⟨h.a.mono k,h.b.mono k⟩
theorem yb (h:b≠0)(ft:bu n t)(fb:bu n b):Sz n (Õ t b):=by
 have e:=sd (t:=t) h
 have e1:(fr t b).1=(Õ t b).num:=by rw[e]
 have e2:(fr t b).2=((Õ t b).den:Int):=by rw[e]
 have g:=Jv (t:=t) h
 refine⟨?_,?_⟩
 ·rw[<-e1]
  have h1:=R8 t b
  refine ft.le ?_
  have:t.natAbs=(fr t b).1.natAbs * (pE t b).natAbs:=by rw[<-dZ,h1]
  rw[this]
  exact mN _ (by lia)
 ·rw[<-e2]
  have h1:=Nl t b
  refine fb.le ?_
  have:b.natAbs=(fr t b).2.natAbs * (pE t b).natAbs:=by rw[<-dZ,h1]
  rw[this]
  exact mN _ (by lia)
theorem Sz.add (h:Sz n p)(k:Sz m q):Sz (n+m+1) (p+q):=by
 have h1:(p.den:Int)≠0:=by have:=p.den_pos;lia
 have h2:(q.den:Int)≠0:=by have:=q.den_pos;lia
 rw[yW]
 refine yb (cb h1 h2) ?_ ((h.b.mul k.b).mono (by lia))
 exact(h.a.mul k.b).add ((k.a.mul h.b).mono (by lia))
theorem Sz.mul (h:Sz n p)(k:Sz m q):Sz (n+m) (p * q):=by
 have h1:(p.den:Int)≠0:=by have:=p.den_pos;lia
 have h2:(q.den:Int)≠0:=by have:=q.den_pos;lia
 rw[FA]
 exact yb (cb h1 h2) (h.a.mul k.a) (h.b.mul k.b)
theorem Sz.neg (h:Sz n p):Sz n (-p):=⟨by rw[abK];exact h.a.neg,h.b⟩
theorem ae (h:bu n i)(k:n<=60000000):EJ i:=⟨h.mono k⟩
theorem ir (h:bu n i)(k:n<=9000):Rj i:=⟨h.mono k⟩
theorem E8 {x y:Int}(hx:0<=x)(hy:0 < y):0<=x.fmod y/\x.fmod y < y:=by
 rw[kr _ (by lia)]
 exact⟨UT _ (by lia),MC _ hy⟩
theorem Ff (hy:0 < y):ig y (x.fmod y)=ig x y:=by
 rw[kr _ (by lia)]
 show((í y (x % y):Nat):Int)=((í x y:Nat):Int)
 congr 1
 rw[Zv]
 have h1:=Int.emod_def x y
 rw[h1,Int.gcd_sub_mul_left_left]
theorem Bj:∀ (n:Nat)(x y:Int)(s:S),0<=x->0<=y->y.natAbs < n->
  Ay (cB (Ö aS (mv 1) (mc (.int 0)))) (pS 0 1 (Ã (mv 1) (Ã (Ö fL (mv 0) (mv 1)) Ð))) n [À (.int x),À (.int y)] s=.nx [À (.int (ig x y)),À (.int 0)] s
 | 0,_,_,_,_,_,h=>absurd h (oK _)
 | n+1,x,y,s,hx,hy,h=>by
  unfold Ay
  have e:cB (Ö aS (mv 1) (mc (.int 0))) [À (.int x),À (.int y)] s=.ok (!decide (y=0)) s:=rfl
  rw[e,qm]
  by_cases h0:y=0
  ·subst h0
   rw[Ó (by simp)]
   rw[show ig x 0=x by show((í x 0:Nat):Int)=x;rw[MD];lia]
  ·have VE:0 < y:=by lia
   obtain⟨m1,m2⟩:=E8 hx VE
   rw[É (by simpa using h0)]
   have e2:pS 0 1 (Ã (mv 1) (Ã (Ö fL (mv 0) (mv 1)) Ð)) [À (.int x),À (.int y)] s=.nx [À (.int y),À (.int (x.fmod y))] s:=by
    have e3:fL (.int x) (.int y) s=.ok (.int (x.fmod y)) s:=É h0
    show((fL (.int x) (.int y) s).bind _ |>.bind _).eX _=_
    rw[e3];rfl
   rw[e2]
   show Ay _ _ n _ s=_
   rw[Bj n y (x.fmod y) s hy m1 (by lia),Ff VE]
theorem JM (a b:Int):ig (if a < 0 then -a else a) (if b < 0 then -b else b)=ig a b:=by
 show((í _ _:Nat):Int)=((í a b:Nat):Int)
 congr 1
 split<;>split<;>simp[Int.gcd_neg,Int.neg_gcd]
theorem zm (a b:Int)(s:S):ĝ [.int a,.int b] s=.ok (.int (ig a b)) s:=by
 apply R.wp.eq
 unfold ĝ eS
 have e:∀ x y:Int,Qn [À (AV.int x),À (AV.int y)]=y.natAbs+1:=λ _ _=>rfl
 simp only[↓WS,↓WE,↓WV,Lq,î,UU,Ì,↓Û,↓LQ,e]
 rw[LR (Bj _ _ _ s (by split<;>lia) (by split<;>lia) (iG _)),JM]
 walk_at "w"
theorem Ke (h:EJ i)(k:EJ j):cO (.int i) (.int j) s=.ok (.int (i * j)) s:=É ⟨h,k⟩
theorem Nm (s:S)(h:b≠0)(fb:bu 9000 b):bU [.int a,.int b] s=.ok (fq (Õ a b)) s:=by
 have g1:=Jv (t:=a) h
 have fg:bu 9000 (pE a b):=by
  refine fb.le ?_
  rw[vA]
  exact YJ (by lia) (by have:=C5 a b;exact this)
 have e:=sd (t:=a) h
 have e1:a.fdiv (pE a b)=(Õ a b).num:=Ě Ag e
 have e2:b.fdiv (pE a b)=((Õ a b).den:Int):=Ě Ah e
 apply R.wp.eq
 unfold bU jT
 simp only[↓WS,↓WE,↓WV,Lq,î,UU,Ì,↓Û,↓bj (zm _ _ _)]
 by_cases hb:b < 0
 ·have eg:pE a b=-ig a b:=É hb
  rw[eg]at e1 e2 g1 fg
  simp only[hb,aT,e1,e2]
  exact⟨⟨g1,⟨fg⟩⟩,⟨g1,⟨fg⟩⟩,rfl⟩
 ·have eg:pE a b=ig a b:=Ó hb
  rw[eg]at e1 e2 g1 fg
  simp only[hb,aa,e1,e2]
  exact⟨⟨g1,⟨fg⟩⟩,⟨g1,⟨fg⟩⟩,rfl⟩
theorem Bt (h:b≠0):ig a b≠0:=by have:=gQ (t:=a) h;show((í a b:Nat):Int)≠0;lia
theorem mZ (h:b≠0)(f:bu n b):bu n (ig a b):=f.le (by
 show((í a b:Nat):Int).natAbs<=_
 rw[ME]
 exact YJ (by lia) (C5 a b))
theorem iY (h:g ∣ a)(h0:g≠0)(f:bu n a):bu n (a.fdiv g):=f.le (by
 have e:=ŗ h
 have:a.natAbs=(a.fdiv g).natAbs * g.natAbs:=by rw[<-dZ,e]
 rw[this]
 exact mN _ (by lia))
theorem jX (q:Rat):(q.den:Int)≠0:=by have:=q.den_pos;lia
theorem FH (hn:n<=9000)(h:Sz n p)(k:Sz n q)(s:S):pC [fq p,fq q] s=.ok (fq (p+q)) s:=by
 have e:=(ON (iM p) (iM q) (oh p) (oh q)).symm.trans (R6 p q)
 have e1:=Ě Ag e
 have e2:=Ě Ah e
 dsimp only at e1 e2
 have g1:ig (p.den:Int) (q.den:Int)≠0:=Bt (jX q)
 have f1:bu n (ig (p.den:Int) (q.den:Int)):=mZ (jX q) k.b
 have fd:=iY (qz (p.den:Int) (q.den:Int)) g1 k.b
 have fb:=iY (zq (p.den:Int) (q.den:Int)) g1 h.b
 have g2:ig (p.num * (q.den:Int).fdiv (ig (p.den:Int) (q.den:Int))+q.num * (p.den:Int).fdiv (ig (p.den:Int) (q.den:Int))) (ig (p.den:Int) (q.den:Int))≠0:=Bt g1
 have f2:bu n (ig (p.num * (q.den:Int).fdiv (ig (p.den:Int) (q.den:Int))+q.num * (p.den:Int).fdiv (ig (p.den:Int) (q.den:Int))) (ig (p.den:Int) (q.den:Int))):=mZ g1 f1
 have fb2:EJ ((p.den:Int).fdiv (ig (p.den:Int) (q.den:Int))):=ae fb (by lia)
 have d1:ig (p.num * (q.den:Int).fdiv (ig (p.den:Int) (q.den:Int))+q.num * (p.den:Int).fdiv (ig (p.den:Int) (q.den:Int))) (ig (p.den:Int) (q.den:Int)) ∣ (q.den:Int):=Int.dvd_trans (qz _ _) (qz _ _)
 have fq2:EJ ((q.den:Int).fdiv (ig (p.num * (q.den:Int).fdiv (ig (p.den:Int) (q.den:Int))+q.num * (p.den:Int).fdiv (ig (p.den:Int) (q.den:Int))) (ig (p.den:Int) (q.den:Int)))):=ae (iY d1 g2 k.b) (by lia)
 apply R.wp.eq
 unfold pC Dl fq
 simp only[↓WS,↓WE,↓WV,Lq,î,UU,Ì,↓Û,↓bj (zm _ _ _)]
 refine⟨⟨g1,ir f1 (by lia)⟩,⟨ae h.a (by lia),ae fd (by lia)⟩,⟨g1,ir f1 (by lia)⟩,⟨ae k.a (by lia),fb2⟩,⟨g2,ir f2 (by lia)⟩,⟨g1,ir f1 (by lia)⟩,⟨g2,ir f2 (by lia)⟩,⟨fb2,fq2⟩,?_⟩
 rw[e1,e2]
theorem neg_den (q:Rat):(-q).den=q.den:=rfl
theorem Cp (hn:n<=9000)(h:Sz n p)(k:Sz n q)(s:S):cE [fq p,fq q] s=.ok (fq (q - p)) s:=by
 have e:=FH hn k h.neg s
 have e2:q+-p=q - p:=by grind
 rw[e2]at e
 apply R.wp.eq
 unfold cE lA
 unfold fq at e ⊢
 rw[abK,neg_den]at e
 simp only[↓WS,↓WE,↓WV,Lq,î,UU,Ì,↓Û,↓bj e]
theorem FL (hn:n<=9000)(h:Sz n p)(k:Sz n q)(s:S):bL [fq p,fq q] s=.ok (fq (p * q)) s:=by
 have e:=(OT (iM p) (iM q) (oh p) (oh q)).symm.trans (R9 p q)
 have e1:=Ě Ag e
 have e2:=Ě Ah e
 dsimp only at e1 e2
 have g1:ig p.num (q.den:Int)≠0:=Bt (jX q)
 have g2:ig q.num (p.den:Int)≠0:=Bt (jX p)
 have f1:bu n (ig p.num (q.den:Int)):=mZ (jX q) k.b
 have f2:bu n (ig q.num (p.den:Int)):=mZ (jX p) h.b
 have b1:=ae (iY (zq p.num (q.den:Int)) g1 h.a) (by lia)
 have b2:=ae (iY (zq q.num (p.den:Int)) g2 k.a) (by lia)
 have b3:=ae (iY (qz q.num (p.den:Int)) g2 h.b) (by lia)
 have b4:=ae (iY (qz p.num (q.den:Int)) g1 k.b) (by lia)
 apply R.wp.eq
 unfold bL lz fq
 simp only[↓WS,↓WE,↓WV,Lq,î,UU,Ì,↓Û,↓bj (zm _ _ _)]
 refine⟨⟨g1,ir f1 (by lia)⟩,⟨g2,ir f2 (by lia)⟩,⟨b1,b2⟩,⟨g2,ir f2 (by lia)⟩,⟨g1,ir f1 (by lia)⟩,⟨b3,b4⟩,?_⟩
 rw[e1,e2]
def Č:Á Rat->Rat
 | []=>0
 | q :: r=>q+Č r
theorem oa:fj=fq 0:=rfl
theorem W6:Fp=fq 1:=rfl
def qj (n:Nat):Rat->Á Rat->Prop
 | a,[]=>Sz n a
 | a,q :: r=>Sz n a/\Sz n q/\qj n (a+q) r
inductive Ib (s:S):AV->Á AV->Gd->Prop
 | tup (xs:Á AV):Ib s (.tup xs) xs []
 | ref {i:Nat}{xs:Á AV}(h:û s i=À xs):Ib s (.ref i) xs [(i,xs)]
theorem Ib.ok (h:Ib s v xs gs):k6 gs s:=by
 cases h with
 | tup=>intro p hp;cases hp
 | ref h=>intro p hp;cases hp with
  | head=>exact h
  | tail _ hp=>cases hp
theorem Ib.src (h:Ib s v xs gs):wD v s=.ok (xs,gs) s:=by
 cases h with
 | tup=>rfl
 | ref h=>show need (û s _) _=_;rw[h];rfl
theorem Ek (hn:n<=9000)(w:Ib s v (l.map fq) gs) (h:qj n 0 l):cM [v] s=.ok (fq (Č l)) s:=by
 apply R.wp.eq
 unfold cM uY
 simp only[↓WS,↓WE,↓WV,Lq,î,UU,Ì,↓Û,oa,↓bj w.src]
 refine lE (λ xs env st=>st=s/\∃ a r x,xs=r.map fq/\env=[À v,À (fq a),x]/\qj n a r/\a+Č r=Č l) ?_ ?_ ?_ _ _ _ ⟨rfl,0,l,none,rfl,rfl,h,ah _⟩
 ·rintro _ _ st ⟨rfl,_⟩;exact w.ok
 ·rintro env st ⟨rfl,a,r,x,e,rfl,h1,h2⟩
  cases r with
  | cons=>cases e
  | nil=>
   walk_at "w"
   rw[<-h2,show a+Č []=a from eQ a]
 ·rintro y r env st ⟨rfl,a,r',x,e,rfl,h1,h2⟩
  cases r' with
  | nil=>cases e
  | cons q r'=>
   cases e
   simp only[↓WS,↓WE,↓WV,Lq,î,UU,Ì,↓Û,↓bj (FH hn h1.1 h1.2.1 _)]
   exact⟨a+q,r',_,rfl,rfl,h1.2.2,by rw[<-h2];show a+q+Č r'=a+(q+Č r');grind⟩
inductive Rw where
 | of (n:Str) (q:Rat)|steps (n:Str) (us:Á (Int × Rat)) (z:Rat)|left (n:Str) (q:Rat)|len (n:Str) (k:Int)
def oI (p:Int × Rat):AV:=.tup [.int p.1,fq p.2]
def rv:Rw->AV
 | .of n q=>.tup [.str "of",.str n,fq q]
 | .steps n us z=>.tup [.str "steps",.str n,.tup (us.map oI++[.tup [.ĥ,fq z]])]
 | .left n q=>.tup [.str "left",.str n,fq q]
 | .len n k=>.tup [.str "length",.str n,.int k]
def i_ (u:Int)(z:Rat):Á (Int × Rat)->Rat
 | []=>z
 | p :: r=>if u < p.1 then p.2 else i_ u z r
def ã (u:Int):Á Rw->Á (Str × Rat)
 | []=>[]
 | .of n q :: r=>(n,q) :: ã u r
 | .steps n us z :: r=>(n,i_ u z us) :: ã u r
 | .left _ _ :: r=>ã u r
 | .len _ _ :: r=>ã u r
def ŷ (p:Str × Rat):AV:=.tup [.str p.1,fq p.2]
theorem SD:((("steps":Str)="of")=False)/\((("left":Str)="of")=False)/\((("length":Str)="of")=False)/\
  ((("of":Str)="steps")=False)/\((("left":Str)="steps")=False)/\((("length":Str)="steps")=False)/\
  ((("of":Str)="left")=False)/\((("steps":Str)="left")=False)/\((("length":Str)="left")=False)/\
  ((("of":Str)="length")=False)/\((("steps":Str)="length")=False)/\((("left":Str)="length")=False):=by
 refine⟨?_,?_,?_,?_,?_,?_,?_,?_,?_,?_,?_,?_⟩<;>exact jO (by decide +kernel)
theorem xX (xs:Á α)(z:α):lB (xs++[z]) none (À (-1))=xs:=by
 unfold lB
 have h1:HT.cV (xs++[z]).length 0 none=0:=rfl
 have h2:HT.cV (xs++[z]).length (xs++[z]).length (À (-1))=xs.length:=by
  unfold HT.cV
  simp
  try lia
 rw[h1,h2]
 simp
theorem Hx (n:Str)(q:Rat)(u:Int)(s:S):ff [rv (.of n q),.int u] s=.ok (fq q) s:=by
 apply R.wp.eq
 unfold ff n6 rv
 simp only[↓WS,↓WE,↓WV,Lq,î,UU,Ì,↓Û,MS]
theorem Hy (n:Str)(us:Á (Int × Rat)) (z:Rat)(u:Int)(s:S):ff [rv (.steps n us z),.int u] s=.ok (fq (i_ u z us)) s:=by
 apply R.wp.eq
 unfold ff n6 rv
 simp only[↓WS,↓WE,↓WV,Lq,î,UU,Ì,↓Û,SD]
 rw[show(Hs (.tup (us.map oI++[.tup [.ĥ,fq z]])) none (À (-1)) s)=.ok (.tup (us.map oI)) s by show R.ok _ _=_;rw[xX]]
 walk_at "w"
 refine lE (λ xs env st=>st=s/\∃ r x y,xs=r.map oI/\env=[À (AV.tup [.str "steps",.str n,.tup (us.map oI++[.tup [.ĥ,fq z]])]),À (.int u),À (.str "steps"),À (.str n),À (.tup (us.map oI++[.tup [.ĥ,fq z]])),x,y]/\i_ u z r=i_ u z us) ?_ ?_ ?_ _ _ _ ⟨rfl,us,none,none,rfl,rfl,rfl⟩
 ·rintro _ _ st _ p hp;cases hp
 ·rintro env st ⟨rfl,r,x,y,e,rfl,h⟩
  cases r with
  | cons=>cases e
  | nil=>
   walk_at "w"
   rw[IK]
   walk_at "w"
   rw[<-h];rfl
 ·rintro v r env st ⟨rfl,r',x,y,e,rfl,h⟩
  cases r' with
  | nil=>cases e
  | cons p r'=>
   cases e
   unfold oI
   walk_at "w"
   have h':(if u < p.1 then p.2 else i_ u z r')=i_ u z us:=h
   split
   ·rename_i c
    rw[É c]at h'
    rw[h']
   ·rename_i c
    rw[Ó c]at h'
    exact⟨r',_,_,rfl,rfl,h'⟩
theorem in_of (x:Str)(b:Bool)(h:Za (.str x) [.str "of",.str "steps"]=b) (s:S):BV (.str x) aG s=.ok (.bl b) s:=by
 show(if eh (.str x)=true/\[AV.str "of",.str "steps"].all eh=true then R.ok (AV.bl (Za (.str x) [.str "of",.str "steps"])) s else .bad)=_
 rw[É ⟨rfl,rfl⟩,h]
theorem LI (hl:rows.length<=1000)(u:Int)(s:S):ſ [.tup (rows.map rv),.int u] s=.ok (.ref s.length) (s++[.lst ((ã u rows).map ŷ)]):=by
 apply R.wp.eq
 unfold ſ dM
 walk_at "w"
 refine⟨p7 (by rw[Æ];exact hl),eJ (λ xs þ env st=>st=s/\∃ r x,xs=r.map rv/\env=[x,À (.int u)]/\þ++(ã u r).map ŷ=(ã u rows).map ŷ) ?_ ?_ ?_ _ _ _ _ ⟨rfl,rows,none,rfl,rfl,rfl⟩⟩
 ·rintro _ _ _ st _ p hp;cases hp
 ·rintro þ env st ⟨rfl,r,x,e,rfl,h⟩
  cases r with
  | cons=>cases e
  | nil=>
   rw[show þ=(ã u rows).map ŷ by rw[<-h];simp[ã]]
   exact⟨rfl,rfl⟩
 ·rintro v r þ env st ⟨rfl,r',x,e,rfl,h⟩
  cases r' with
  | nil=>cases e
  | cons p r'=>
   cases e
   cases p with
   | of n q=>
    have e1:=Hx n q u st
    unfold rv at e1 ⊢
    simp only[↓WS,↓WE,↓WV,Lq,î,UU,Ì,↓Û,↓bj (in_of "of" true (by decide +kernel) _),↓bj e1]
    exact⟨r',_,rfl,rfl,by rw[<-h];simp[ã,ŷ]⟩
   | steps n us z=>
    have e1:=Hy n us z u st
    unfold rv at e1 ⊢
    simp only[↓WS,↓WE,↓WV,Lq,î,UU,Ì,↓Û,↓bj (in_of "steps" true (by decide +kernel) _),↓bj e1]
    exact⟨r',_,rfl,rfl,by rw[<-h];simp[ã,ŷ]⟩
   | left n q=>
    unfold rv
    simp only[↓WS,↓WE,↓WV,Lq,î,UU,Ì,↓Û,↓bj (in_of "left" false (by decide +kernel) _)]
    exact⟨r',_,rfl,rfl,by rw[<-h];rfl⟩
   | len n q=>
    unfold rv
    simp only[↓WS,↓WE,↓WV,Lq,î,UU,Ì,↓Û,↓bj (in_of "length" false (by decide +kernel) _)]
    exact⟨r',_,rfl,rfl,by rw[<-h];rfl⟩
def Ł:Rat->Á Rw->Á (Str × Rat)
 | _,[]=>[]
 | t,.left n q :: r=>(n,t * q) :: Ł (t - t * q) r
 | t,.of _ _ :: r=>Ł t r
 | t,.steps _ _ _ :: r=>Ł t r
 | t,.len _ _ :: r=>Ł t r
def ŋ:Rat->Á Rw->Rat
 | t,[]=>t
 | t,.left n q :: r=>ŋ (t - t * q) r
 | t,.of _ _ :: r=>ŋ t r
 | t,.steps _ _ _ :: r=>ŋ t r
 | t,.len _ _ :: r=>ŋ t r
def iU (m:Nat):Rat->Á Rw->Prop
 | _,[]=>True
 | t,.left n q :: r=>(Sz m t/\Sz m q/\Sz m (t * q)/\Sz m (t - t * q))/\iU m (t - t * q) r
 | t,.of _ _ :: r=>iU m t r
 | t,.steps _ _ _ :: r=>iU m t r
 | t,.len _ _ :: r=>iU m t r
theorem ŕ (s:S)(xs:Á AV):û (s++[.lst xs]) s.length=À xs:=by
 unfold û;simp
theorem uL (s:S)(a b:AO):(s++[a]).set s.length b=s++[b]:=by simp
theorem De (h:xs.length < sizeLine):cN (.ref s.length) [v] (s++[.lst xs])=.ok .ĥ (s++[.lst (xs++[v])]):=by
 unfold cN
 simp only[ŕ,ď,É h,uL]
theorem Fg (s:S)(xs:Á AV):(bX "list" (.ref s.length) (s++[.lst xs])).isSome=true:=by
 show((û (s++[.lst xs]) s.length).map λ _=>()).isSome=true
 rw[ŕ];rfl
theorem gx:∀ (t:Rat)(r:Á Rw),(Ł t r).length<=r.length
 | _,[]=>Î _
 | t,p :: r=>by
  cases p<;>unfold Ł
  ·have:=gx t r;simp;lia
  ·have:=gx t r;simp;lia
  ·rename_i n q;have:=gx (t - t * q) r;simp;lia
  ·have:=gx t r;simp;lia
theorem XF:∀ p:Rw,(∃ n q,p=.left n q)∨∃ kd n v,rv p=.tup [.str kd,.str n,v]/\((kd=("left":Str))=False)/\(∀ t r,Ł t (p :: r)=Ł t r)/\(∀ t r,ŋ t (p :: r)=ŋ t r)/\∀ m t r,iU m t (p :: r)=iU m t r
 | .left n q=>.inl ⟨n,q,rfl⟩
 | .of _ _=>.inr ⟨_,_,_,rfl,jO (by decide),λ _ _=>rfl,λ _ _=>rfl,λ _ _ _=>rfl⟩
 | .steps _ _ _=>.inr ⟨_,_,_,rfl,jO (by decide),λ _ _=>rfl,λ _ _=>rfl,λ _ _ _=>rfl⟩
 | .len _ _=>.inr ⟨_,_,_,rfl,jO (by decide),λ _ _=>rfl,λ _ _=>rfl,λ _ _ _=>rfl⟩
theorem NW (hm:m<=9000)(hl:rows.length<=999)(ok:iU m t rows)(s:S):cQ [.tup (rows.map rv),fq t] s=.ok (.tup [.ref s.length,fq (ŋ t rows)]) (s++[.lst ((Ł t rows).map ŷ)]):=by
 apply R.wp.eq
 unfold cQ jU
 walk_at "w"
 refine lE (λ xs env st=>∃ r þ a x y z w,st=s++[.lst þ]/\xs=r.map rv/\env=[À (AV.tup (rows.map rv)),À (fq a),À (.ref s.length),x,y,z,w]/\þ++(Ł a r).map ŷ=(Ł t rows).map ŷ/\ŋ a r=ŋ t rows/\iU m a r) ?_ ?_ ?_ _ _ _ ⟨rows,[],t,none,none,none,none,rfl,rfl,rfl,rfl,rfl,ok⟩
 ·rintro _ _ st _ p hp;cases hp
 ·rintro env st ⟨r,þ,a,x,y,z,w,rfl,e,rfl,h1,h2,h3⟩
  cases r with
  | cons=>cases e
  | nil=>
   walk_at "w"
   rw[<-h1,<-h2]
   simp[Ł,ŋ]
 ·rintro v r env st ⟨r',þ,a,x,y,z,w,rfl,e,rfl,h1,h2,h3⟩
  cases r' with
  | nil=>cases e
  | cons p r'=>
   cases e
   rcases XF p with⟨n,q,rfl⟩|⟨kd,n,v,e1,e2,e3,e4,e5⟩
   ·obtain⟨⟨k1,k2,k3,_⟩,k4⟩:=h3
    have Nr:þ.length < sizeLine:=by
     have e1:=Ě cf h1
     have e2:=gx t rows
     simp only[õ,Æ]at e1
     exact Ş (by lia)
    unfold rv
    simp only[↓WS,↓WE,↓WV,Lq,î,UU,Ì,↓Û,SD,MS,Fg,↓bj (FL hm k1 k2 _),↓bj (De Nr),↓bj (Cp hm k3 k1 _)]
    exact⟨r',_,_,_,_,_,_,rfl,rfl,rfl,by rw[<-h1];simp[Ł,ŷ],h2,k4⟩
   ·rw[e3]at h1;rw[e4]at h2;rw[e5]at h3
    rw[e1]
    simp only[↓WS,↓WE,↓WV,Lq,î,UU,Ì,↓Û,e2]
    exact⟨r',_,_,_,_,_,_,rfl,rfl,rfl,h1,h2,h3⟩
def ĺ:Á Rw->Á (Str × Int)
 | []=>[]
 | .len n k :: r=>(n,k) :: ĺ r
 | .left _ _ :: r=>ĺ r
 | .of _ _ :: r=>ĺ r
 | .steps _ _ _ :: r=>ĺ r
def uJ (p:Str × Int):AV:=.tup [.str p.1,.int p.2]
def jo (rows:Á Rw):Int:=((ĺ rows).map (·.2)).sum
def f_ (t:Rat)(rows:Á Rw):Á (Str × Rat):=(ĺ rows).map λ p=>(p.1,t * Õ p.2 (jo rows))
def jE (t:Rat)(rows:Á Rw):Rat:=if (ĺ rows).isEmpty=true then t else 0
theorem vR:∀ r:Á Rw,(ĺ r).length<=r.length
 | []=>Î _
 | p :: r=>by cases p<;>(unfold ĺ;have:=vR r;simp;lia)
theorem HR (s:S)(xs:Á AV):truth (.ref s.length) (s++[.lst xs])=À (!xs.isEmpty):=by
 unfold truth;simp
theorem su:∀ l:Á Int,kJ (l.map AV.int)=À l
 | []=>rfl
 | i :: r=>by show(kJ (r.map AV.int)).map (i :: ·)=_;rw[su r];rfl
theorem wF (s:S)(xs:Á AV):wD (.ref s.length) (s++[.lst xs])=.ok (xs,[(s.length,xs)]) (s++[.lst xs]):=by
 show need (û (s++[.lst xs]) s.length) _=_
 rw[ŕ];rfl
theorem Js (h:û s i=À xs):k6 [(i,xs)] s:=by
 intro p hp;cases hp with
 | head=>exact h
 | tail _ hp=>cases hp
structure EL (m:Nat)(t:Rat)(rows:Á Rw):Prop where
 t:Sz m t
 g:∀ p∈ĺ rows,jo rows≠0
 f:bu 9000 (jo rows)
 q:∀ p∈ĺ rows,Sz m (Õ p.2 (jo rows))
theorem aaJ:∀ p:Rw,(∃ n k,p=.len n k)∨∃ kd n v,rv p=.tup [.str kd,.str n,v]/\((kd=("length":Str))=False)/\∀ r,ĺ (p :: r)=ĺ r
 | .len n k=>.inl ⟨n,k,rfl⟩
 | .of _ _=>.inr ⟨_,_,_,rfl,jO (by decide),λ _=>rfl⟩
 | .steps _ _ _=>.inr ⟨_,_,_,rfl,jO (by decide),λ _=>rfl⟩
 | .left _ _=>.inr ⟨_,_,_,rfl,jO (by decide),λ _=>rfl⟩
theorem length_eq (hm:m<=9000)(hl:rows.length<=999)(ok:EL m t rows)(s:S):bD [.tup (rows.map rv),fq t] s=.ok (.tup [.ref (s.length+1),fq (jE t rows)]) (s++[.lst ((ĺ rows).map uJ),.lst ((f_ t rows).map ŷ)]):=by
 apply R.wp.eq
 unfold bD ie
 have Br:=vR rows
 have e1:∀ (Q:Á AV->S->Prop),(ů (gT 3 (Ù (gN 0) (Ù (gN 1) (Ù (gN 2) ę)))) (cB (Ö cz (mv 0) (mc (.str "length")))) (Ō (Ã (mv 1) (Ã (mv 2) Ð))) [] (rows.map rv) [none,none,none] s []).wp Q=Q ((ĺ rows).map uJ) s:=by
  intro Q
  refine bj (R.wp.eq (eJ (λ xs þ env st=>st=s/\∃ r x y z,xs=r.map rv/\env=[x,y,z]/\þ++(ĺ r).map uJ=(ĺ rows).map uJ) ?_ ?_ ?_ _ _ _ _ ⟨rfl,rows,none,none,none,rfl,rfl,rfl⟩)) Q
  ·rintro _ _ _ st _ p hp;cases hp
  ·rintro þ env st ⟨rfl,r,x,y,z,e,rfl,h⟩
   cases r with
   | cons=>cases e
   | nil=>exact⟨by rw[<-h];simp[ĺ],rfl⟩
  ·rintro v r þ env st ⟨rfl,r',x,y,z,e,rfl,h⟩
   cases r' with
   | nil=>cases e
   | cons p r'=>
    cases e
    rcases aaJ p with⟨n,k,rfl⟩|⟨kd,n,v,e1,e2,e3⟩
    ·unfold rv;simp only[↓WS,↓WE,↓WV,Lq,î,UU,Ì,↓Û,MS];exact⟨r',_,_,_,rfl,rfl,by rw[<-h];simp[ĺ,uJ]⟩
    ·rw[e3]at h;rw[e1];simp only[↓WS,↓WE,↓WV,Lq,î,UU,Ì,↓Û,e2];exact⟨r',_,_,_,rfl,rfl,h⟩
 simp only[↓WS,↓WE,↓WV,Lq,î,UU,Ì,↓Û,↓e1,HR]
 refine⟨p7 (by rw[Æ];lia),?_⟩
 cases hc:ĺ rows with
 | nil=>
  simp only[aE,wK,lW,gH,aT]
  refine⟨?_,?_⟩
  ·unfold jE;rw[hc];simp
  ·unfold f_;rw[hc];simp
 | cons p0 r0=>
  rw[<-hc]
  have Sk:((ĺ rows).map uJ).isEmpty=false:=by rw[hc];rfl
  rw[Sk]
  simp only[gH,lW,ą,aa]
  have e2:∀ (Q:Á AV->S->Prop),(ů (gT 2 (Ù (gN 0) (Ù (gN 1) ę))) de (mv 1) [(s.length,(ĺ rows).map uJ)] ((ĺ rows).map uJ) [none,none] (s++[.lst ((ĺ rows).map uJ)]) []).wp Q=Q ((ĺ rows).map λ p=>.int p.2) (s++[.lst ((ĺ rows).map uJ)]):=by
   intro Q
   refine bj (R.wp.eq (eJ (λ xs þ env st=>st=(s++[.lst ((ĺ rows).map uJ)])/\∃ r x y,xs=r.map uJ/\env=[x,y]/\þ++(r.map λ p=>AV.int p.2)=(ĺ rows).map λ p=>AV.int p.2) ?_ ?_ ?_ _ _ _ _ ⟨rfl,ĺ rows,none,none,rfl,rfl,rfl⟩)) Q
   ·rintro _ _ _ st ⟨rfl,_⟩;exact Js (ŕ _ _)
   ·rintro þ env st ⟨rfl,r,x,y,e,rfl,h⟩
    cases r with
    | cons=>cases e
    | nil=>exact⟨by rw[<-h];simp,rfl⟩
   ·rintro v r þ env st ⟨rfl,r',x,y,e,rfl,h⟩
    cases r' with
    | nil=>cases e
    | cons p r'=>cases e;unfold uJ;walk_at "w";exact⟨r',_,_,rfl,rfl,by rw[<-h];simp⟩
  have hz:((ĺ rows).map uJ).length<=sizeLine:=p7 (by rw[Æ];lia)
  have g0:jo rows≠0:=ok.g p0 (by rw[hc];exact .head _)
  have e3:∀ (Q:Á AV->S->Prop),(ů (gT 2 (Ù (gN 0) (Ù (gN 1) ę))) de (Ō (Ã (mv 0) (Ã (Ø 2 bL (Ã (mv 2) (Ã (Ø 2 bU (Ã (mv 1) (Ã (mv 3) Ð))) Ð))) Ð))) [(s.length,(ĺ rows).map uJ)] ((ĺ rows).map uJ) [none,none,À (fq t),À (.int (jo rows))] (s++[.lst ((ĺ rows).map uJ)]) []).wp Q=Q ((f_ t rows).map ŷ) (s++[.lst ((ĺ rows).map uJ)]):=by
   intro Q
   refine bj (R.wp.eq (eJ (λ xs þ env st=>st=(s++[.lst ((ĺ rows).map uJ)])/\∃ r x y,(∀ p∈r,p∈ĺ rows)/\xs=r.map uJ/\env=[x,y,À (fq t),À (.int (jo rows))]/\þ++(r.map λ p=>ŷ (p.1,t * Õ p.2 (jo rows)))=(f_ t rows).map ŷ) ?_ ?_ ?_ _ _ _ _ ⟨rfl,ĺ rows,none,none,λ _ h=>h,rfl,rfl,by unfold f_;simp⟩)) Q
   ·rintro _ _ _ st ⟨rfl,_⟩;exact Js (ŕ _ _)
   ·rintro þ env st ⟨rfl,r,x,y,_,e,rfl,h⟩
    cases r with
    | cons=>cases e
    | nil=>exact⟨by rw[<-h];simp,rfl⟩
   ·rintro v r þ env st ⟨rfl,r',x,y,hr,e,rfl,h⟩
    cases r' with
    | nil=>cases e
    | cons p r'=>
     cases e
     unfold uJ
     simp only[↓WS,↓WE,↓WV,Lq,î,UU,Ì,↓Û,↓bj (Nm _ g0 ok.f),↓bj (FL hm ok.t (ok.q p (hr p (.head _))) _)]
     exact⟨r',_,_,λ p hp=>hr p (.tail _ hp),rfl,rfl,by rw[<-h];simp[ŷ]⟩
  have e4:kJ ((ĺ rows).map λ p=>AV.int p.2)=À ((ĺ rows).map (·.2)):=by
   have:=su ((ĺ rows).map (·.2))
   rw[ó]at this
   exact this
  simp only[↓WS,↓WE,↓WV,Lq,î,UU,Ì,↓Û,↓bj (wF _ _),hz,↓e2,O3,e4]
  rw[show((ĺ rows).map (·.2)).sum=jo rows from rfl]
  simp only[↓WS,↓WE,↓WV,Lq,î,UU,Ì,↓Û,↓bj (wF _ _),hz,↓e3]
  refine⟨?_,?_⟩
  ·rw[show jE t rows=0 by unfold jE;rw[hc];rfl];simp[oa]
  ·simp
end Ro
namespace Mm
open PySem L2
mutual
theorem AV.low.mono (h:b<=c):∀ {v:AV},v.low b=true->v.low c=true
 | .ref i,k=>by simp only[AV.low,yS]at k ⊢;lia
 | .tup xs,k=>by simp only[AV.low]at k ⊢;exact ķ.mono h k
 | .sq xs,k=>by simp only[AV.low]at k ⊢;exact ķ.mono h k
 | .ĥ,_=>by simp only[AV.low]
 | .bl _,_=>by simp only[AV.low]
 | .int _,_=>by simp only[AV.low]
 | .str _,_=>by simp only[AV.low]
theorem ķ.mono (h:b<=c):∀ {l:Á AV},ķ b l=true->ķ c l=true
 | [],_=>by simp only[ķ]
 | v :: r,k=>by
  simp only[ķ,ł]at k ⊢
  exact⟨AV.low.mono h k.1,ķ.mono h k.2⟩
end
theorem AO.low.mono (h:b<=c){o:AO}(k:o.low b=true):o.low c=true:=by
 cases o<;>first|exact ķ.mono h k|rfl
def Cl (s:S):Prop:=s.all (AO.low s.length)=true
theorem Cl.add {s e:S}(h:Cl s)(k:e.all (AO.low (s.length+e.length))=true):Cl (s++e):=by
 unfold Cl at *
 rw[List.all_append,õ,k,dm]
 rw[ü]at h ⊢
 exact λ o ho=>AO.low.mono (by lia) (h o ho)
theorem Cl.set (h:Cl s)(k:o.low s.length=true):Cl (s.set i o):=by
 unfold Cl at *
 rw[š]
 rw[ü]at h ⊢
 intro x hx
 rcases List.mem_or_eq_of_mem_set hx with hx|rfl
 ·exact h x hx
 ·exact k
theorem du (h:û s k=À xs):û (s++e) k=À xs:=by
 have:=ń h
 refine og ?_
 have hk:k < s.length:=(Ë.mp this).1
 rw[é hk];exact this
theorem vU (s e:S)(k:Nat):û (s++e) (s.length+k)=û e k:=by
 unfold û
 rw[Ā (by lia),show s.length+k - s.length=k by lia]
theorem zf (h1:û st i=À xs)(h2:û st j=À ys)(hl:xs.length+ys.length<=sizeLine):aj (.ref i) (.ref j) st=.ok (.ref st.length) (st++[.lst (xs++ys)]):=by
 show(need (û st i) λ xs=>need (û st j) λ ys=>if xs.length+ys.length<=sizeLine then R.ok (AV.ref st.length) (st++[.lst (xs++ys)]) else .bad)=_
 rw[h1,ď,h2,ď,É hl]
end Mm
namespace Ro
open PySem L2 Mm
theorem iq (b:Nat)(q:Rat):(fq q).low b=true:=by simp[fq,AV.low,ķ]
theorem lM (b:Nat):∀ l:Á (Str × Rat),ķ b (l.map ŷ)=true
 | []=>by simp[ķ]
 | p :: r=>by simp only[È,ķ,lM b r];simp[ŷ,fq,AV.low,ķ]
theorem J1 (b:Nat):∀ l:Á (Str × Int),ķ b (l.map uJ)=true
 | []=>by simp[ķ]
 | p :: r=>by simp only[È,ķ,J1 b r];simp[uJ,AV.low,ķ]
def Ť (u:Int)(rows:Á Rw):Rat:=1 - Č ((ã u rows).map (·.2))
def aA (u:Int)(rows:Á Rw):Á (Str × Rat):=ã u rows++Ł (Ť u rows) rows++f_ (ŋ (Ť u rows) rows) rows
def Ŗ (u:Int)(rows:Á Rw):S:=[.lst ((ã u rows).map ŷ),.lst ((Ł (Ť u rows) rows).map ŷ),.lst ((ĺ rows).map uJ),.lst ((f_ (ŋ (Ť u rows) rows) rows).map ŷ),.lst ((ã u rows++Ł (Ť u rows) rows).map ŷ),.lst ((aA u rows).map ŷ)]
structure M1 (m:Nat)(u:Int)(rows:Á Rw):Prop where
 l:rows.length<=99
 a:qj m 0 ((ã u rows).map (·.2))
 b:Sz m (Č ((ã u rows).map (·.2)))
 c:iU m (Ť u rows) rows
 d:EL m (ŋ (Ť u rows) rows) rows
theorem sP:∀ (u:Int)(r:Á Rw),(ã u r).length<=r.length
 | _,[]=>Î _
 | u,p :: r=>by cases p<;>(unfold ã;have:=sP u r;simp;lia)
theorem sz1 (h:1<=m):Sz m 1:=by
 refine⟨?_,?_⟩<;>exact bu.mono (n:=1) (by show(1:Int).natAbs < 2 ^ 1;decide) h
theorem ES (hm:m<=9000)(My:1<=m)(ok:M1 m u rows)(cl:Cl s):cD [.tup (rows.map rv),.int u] s=.ok (.tup [.ref (s.length+5),fq (jE (ŋ (Ť u rows) rows) rows)]) (s++Ŗ u rows):=by
 have hl:=ok.l
 have hw:=sP u rows
 apply R.wp.eq
 unfold cD ly
 have e1:∀ (Q:Á AV->S->Prop),(ů (gT 2 (Ù (gN 0) (Ù (gN 1) ę))) de (mv 1) [(s.length,(ã u rows).map ŷ)] ((ã u rows).map ŷ) [none,none] (s++[.lst ((ã u rows).map ŷ)]) []).wp Q=Q (((ã u rows).map (·.2)).map fq) (s++[.lst ((ã u rows).map ŷ)]):=by
  intro Q
  refine bj (R.wp.eq (eJ (λ xs þ env st=>st=(s++[.lst ((ã u rows).map ŷ)])/\∃ r x y,xs=r.map ŷ/\env=[x,y]/\þ++((r.map (·.2)).map fq)=((ã u rows).map (·.2)).map fq) ?_ ?_ ?_ _ _ _ _ ⟨rfl,ã u rows,none,none,rfl,rfl,rfl⟩)) Q
  ·rintro _ _ _ st ⟨rfl,_⟩;exact Js (ŕ _ _)
  ·rintro þ env st ⟨rfl,r,x,y,e,rfl,h⟩
   cases r with
   | cons=>cases e
   | nil=>exact⟨by rw[<-h];simp,rfl⟩
  ·rintro v r þ env st ⟨rfl,r',x,y,e,rfl,h⟩
   cases r' with
   | nil=>cases e
   | cons p r'=>cases e;unfold ŷ;walk_at "w";exact⟨r',_,_,rfl,rfl,by rw[<-h];simp⟩
 have hz:((ã u rows).map ŷ).length<=sizeLine:=p7 (by rw[Æ];lia)
 simp only[↓WS,↓WE,↓WV,Lq,î,UU,Ì,↓Û,↓bj (LI (show rows.length<=1000 by lia) u _),ŕ,↓kW,gJ,Î,show s.all (AO.low s.length)=true from cl,lM,↓bj (wF _ _),hz,↓e1]
 have es:cM [.ref (s++[AO.lst ((ã u rows).map ŷ)]).length] ((s++[AO.lst ((ã u rows).map ŷ)])++[AO.lst (((ã u rows).map (·.2)).map fq)])=.ok (fq (Č ((ã u rows).map (·.2)))) _:=Ek hm (.ref (ŕ _ _)) ok.a
 rw[bj es]
 refine⟨⟨gJ,iq _ _⟩,?_⟩
 rw[W6,bj (Cp hm ok.b (sz1 My) _)]
 rw[show 1 - Č ((ã u rows).map (·.2))=Ť u rows from rfl]
 simp only[↓WS,↓WE,↓WV,Lq,î,UU,Ì,↓Û,↓bj (NW hm (show rows.length<=999 by lia) ok.c _),↓bj (length_eq hm (show rows.length<=999 by lia) ok.d _)]
 have l1:=gx (Ť u rows) rows
 have l2:=vR rows
 rw[bj (zf (xs:=(ã u rows).map ŷ) (ys:=(Ł (Ť u rows) rows).map ŷ) (by simp[û]) (by simp[û]) (p7 (by simp;lia)))]
 rw[bj (zf (xs:=(ã u rows).map ŷ++(Ł (Ť u rows) rows).map ŷ) (ys:=(f_ (ŋ (Ť u rows) rows) rows).map ŷ) (by simp[û]) (by simp only[æ,aC,ľ,õ,å,dj,Nat.add_assoc,YK];exact vU s _ 3) (p7 (by simp[f_];lia)))]
 refine⟨?_,?_⟩
 ·simp
 ·unfold Ŗ aA;simp
end Ro
namespace Mm
open PySem L2
theorem zh (s:S)(kvs:Á (Key × AV)):mx (s++[.dK kvs]) s.length=À kvs:=by unfold mx;simp
theorem NH (s:S)(kvs:Á (Key × AV)):(bX "dict" (.ref s.length) (s++[.dK kvs])).isSome=true:=by
 unfold bX;simp
end Mm
namespace Ro
open PySem L2 Mm
def kR (p:Str × Rat):Key × AV:=(.inr p.1,fq p.2)
def ř:Á (Str × Rat)->Str->Í Rat
 | [],_=>none
 | p :: r,n=>if p.1=n then À p.2 else ř r n
def nE (D:Á (Str × Rat)) (n:Str)(q:Rat):Á (Str × Rat):=
 if (D.any λ p=>decide (p.1=n))=true then D.map (λ p=>if p.1=n then (p.1,q) else p) else D++[(n,q)]
theorem Bx (p:Str × Rat)(n:Str):((kR p).1=(.inr n:Key))=(p.1=n):=gO ⟨λ h=>ur h,λ h=>Ě aJ h⟩
theorem nM (n:Str):∀ D:Á (Str × Rat),fY (D.map kR) (.inr n)=(ř D n).map fq
 | []=>rfl
 | p :: r=>by
  show(if (kR p).1=.inr n then À (kR p).2 else fY (r.map kR) (.inr n))=(if p.1=n then À p.2 else ř r n).map fq
  by_cases h:p.1=n
  ·rw[É h,É (by rw[Bx];exact h)];rfl
  ·rw[Ó h,Ó (by rw[Bx];exact h)];exact nM n r
theorem B4 (n:Str)(q:Rat)(D:Á (Str × Rat)):oH (D.map kR) (.inr n) (fq q)=(nE D n q).map kR:=by
 unfold oH nE
 have e:((D.map kR).any λ kv=>decide (kv.1=(.inr n:Key)))=D.any λ p=>decide (p.1=n):=by
  rw[List.any_map]
  congr 1
  funext p
  show decide ((kR p).1=.inr n)=decide (p.1=n)
  simp only[Bx]
 rw[e]
 split
 ·rw[ó,ó]
  apply Ļ
  intro p _
  show(if (kR p).1=.inr n then ((kR p).1,fq q) else kR p)=kR (if p.1=n then (p.1,q) else p)
  by_cases h:p.1=n
  ·rw[É h,É (by rw[Bx];exact h)];rfl
  ·rw[Ó h,Ó (by rw[Bx];exact h)]
 ·rw[ä];rfl
theorem Jr (s:S)(D:Á (Str × Rat)) (n:Str):zM (.ref s.length) (.str n) (fq 0) (s++[.dK (D.map kR)])=.ok (fq ((ř D n).getD 0)) (s++[.dK (D.map kR)]):=by
 show(need (mx (s++[.dK (D.map kR)]) s.length) λ kvs=>need (lL (.str n)) λ k=>R.ok ((fY kvs k).getD (fq 0)) (s++[.dK (D.map kR)]))=_
 rw[zh,ď]
 show R.ok ((fY (D.map kR) (.inr n)).getD (fq 0)) _=_
 rw[nM]
 cases ř D n<;>rfl
theorem O1 (n:Str)(q:Rat)(env:En)(h:D.length < sizeLine):putD (fq q) (.ref s.length) (.str n) env (s++[.dK (D.map kR)])=.nx env (s++[.dK ((nE D n q).map kR)]):=by
 show(match mx (s++[AO.dK (D.map kR)]) s.length,lL (.str n) with
  | some kvs,À k=>if kvs.length < sizeLine then RS.nx env ((s++[AO.dK (D.map kR)]).set s.length (.dK (oH kvs k (fq q)))) else .bad
  | _,_=>.bad)=_
 rw[zh]
 show(if (D.map kR).length < sizeLine then RS.nx env ((s++[AO.dK (D.map kR)]).set s.length (.dK (oH (D.map kR) (.inr n) (fq q)))) else .bad)=_
 rw[É (by rw[Æ];exact h),B4,uL]
theorem Pp (hm:m<=9000)(h:û st k=À [fq a,fq q])(z:1<=m)(h1:Sz m a)(h2:Sz m q)(h3:Sz m (a+q)):cM [.ref k] st=.ok (fq (a+q)) st:=by
 have z0:Sz m 0:=⟨bu.mono (n:=1) (by show(0:Int).natAbs < 2 ^ 1;decide) z,bu.mono (n:=1) (by show(1:Int).natAbs < 2 ^ 1;decide) z⟩
 have e:=Ek (l:=[a,q]) hm (.ref h) ⟨z0,h1,by rw[ah];exact⟨h1,h2,h3⟩⟩
 rw[e,show Č [a,q]=a+q by show a+(q+0)=a+q;rw[eQ]]
def ï:Á (Str × Rat)->Á (Str × Rat)->Á (Str × Rat)
 | D,[]=>D
 | D,(n,q) :: r=>ï (nE D n ((ř D n).getD 0+q)) r
def Ia (m:Nat):Á (Str × Rat)->Á (Str × Rat)->Prop
 | D,[]=>D.length < 64
 | D,(n,q) :: r=>(D.length < 64/\Sz m ((ř D n).getD 0)/\Sz m q/\Sz m ((ř D n).getD 0+q))/\Ia m (nE D n ((ř D n).getD 0+q)) r
def mB (D:Á (Str × Rat)):Á (Str × Rat):=(kQ (D.map (·.1))).map λ k=>(k,(ř D k).getD 0)
theorem rn:∀ {D:Á (Str × Rat)},n∈D.map (·.1)->∃ q,ř D n=À q
 | p :: r,h=>by
  unfold ř
  by_cases c:p.1=n
  ·exact⟨p.2,É c⟩
  ·rw[Ó c]
   rw[È]at h
   rcases Ò.mp h with h|h
   ·exact(c h.symm).elim
   ·exact rn h
theorem Gf:∀ D:Á (Str × Rat),jJ (D.map kR)=À (D.map (·.1))
 | []=>rfl
 | p :: r=>by show(jJ (r.map kR)).map (p.1 :: ·)=_;rw[Gf r];rfl
theorem HK (h:D.length < 64)(e:m env (s++[.dK (D.map kR)])=.ok (.ref s.length) (s++[.dK (D.map kR)])):vq m env (s++[.dK (D.map kR)])=.ok ((mB D).map ŷ) (s++[.dK (D.map kR)]):=by
 unfold vq
 rw[e,bI]
 dsimp only
 rw[zh,ď,Gf,ď,É (by rw[Æ];exact h)]
 congr 1
 unfold mB
 rw[ó]
 apply Ļ
 intro k hk
 have hk:k∈D.map (·.1):=(bY _).mem_iff.mp hk
 obtain⟨q,hq⟩:=rn hk
 show AV.tup [.str k,(fY (D.map kR) (.inr k)).getD .ĥ]=ŷ (k,(ř D k).getD 0)
 rw[nM,hq]
 rfl
theorem Ws (s:S)(p q:Rat):oC s (fq p) (fq q)=À (decide (p=q)):=by
 have e1:∀ p:Rat,toD 20 s (fq p)=À (.tup [.int p.num,.int p.den]):=λ p=>by simp[fq,toD]
 unfold oC
 simp only[fq]
 have GP:=e1 p
 have RN:=e1 q
 unfold fq at GP RN
 rw[GP,RN]
 dsimp only
 rw[É (show g6 [Dt.int p.num,Dt.int p.den]<=20 by simp[g6,Dt.dep])]
 simp only[g7,cS]
 congr 1
 by_cases h:p=q
 ·subst h;simp
 ·rw[ĳ h]
  cases h1:(p.num == q.num)<;>cases h2:((p.den:Int) == (q.den:Int))<;>try rfl
  have h3:(p.den:Int)=q.den:=by simpa using h2
  exact(h (Rat.ext (by simpa using h1) (by lia))).elim
theorem XC (s:S)(p q:Rat):aS (fq p) (fq q) s=.ok (.bl (!decide (p=q))) s:=by
 unfold aS;rw[Ws];rfl
theorem HL (l:Á Str):(kQ l).length=l.length:=(bY l).length_eq
theorem Bi (hm:m<=9000)(My:1<=m)(hk:û s k=À (l.map ŷ)) (ok:Ia m [] l) :
  gm [.ref k] s=.ok (.ref (s.length+1)) (s++[.dK ((ï [] l).map kR),.lst (((mB (ï [] l)).filter λ p=>!decide (p.2=0)).map ŷ)]):=by
 apply R.wp.eq
 unfold gm pk
 have w:∀ D:Á (Str × Rat),wD (.ref k) (s++[.dK (D.map kR)])=.ok (l.map ŷ,[(k,l.map ŷ)]) (s++[.dK (D.map kR)]):=λ D=>(Ib.ref (du hk)).src
 have w0:=w []
 rw[aE]at w0
 simp only[↓WS,↓WE,↓WV,Lq,î,UU,Ì,↓Û,↓bj w0]
 refine lE (λ xs env st=>∃ D r x y,st=s++[.dK (D.map kR)]/\xs=r.map ŷ/\env=[À (.ref k),À (.ref s.length),x,y]/\ï D r=ï [] l/\Ia m D r) ?_ ?_ ?_ _ _ _ ⟨[],l,none,none,rfl,rfl,rfl,rfl,ok⟩
 ·rintro _ _ st ⟨D,r,x,y,rfl,_⟩;exact Js (du hk)
 ·rintro env st ⟨D,r,x,y,rfl,e,rfl,h1,h2⟩
  cases r with
  | cons=>cases e
  | nil=>
   have h1:D=ï [] l:=h1
   have h2:D.length < 64:=h2
   simp only[↓WS,↓WE,↓WV,Lq,î,UU,Ì,↓Û,↓bj (HK h2 (m:=mv 1) (env:=[À (.ref k),À (.ref s.length),x,y]) rfl)]
   refine⟨p7 (by unfold mB;simp only[Æ,HL];lia),?_⟩
   refine eJ (λ xs þ env st=>st=s++[.dK (D.map kR)]/\∃ r x y,xs=r.map ŷ/\env=[x,y]/\þ++(r.filter λ p=>!decide (p.2=0)).map ŷ=((mB D).filter λ p=>!decide (p.2=0)).map ŷ) ?_ ?_ ?_ _ _ _ _ ⟨rfl,mB D,none,none,rfl,rfl,rfl⟩
   ·rintro _ _ _ st _ p hp;cases hp
   ·rintro þ env st ⟨rfl,r,x,y,e,rfl,h⟩
    cases r with
    | cons=>cases e
    | nil=>
     rw[<-h1,<-h]
     simp
   ·rintro v r þ env st ⟨rfl,r',x,y,e,rfl,h⟩
    cases r' with
    | nil=>cases e
    | cons p r'=>
     cases e
     rw[show ŷ p=.tup [.str p.1,fq p.2] from rfl]
     simp only[↓WS,↓WE,↓WV,Lq,î,UU,Ì,↓Û,oa,↓bj (XC _ _ _)]
     by_cases c:p.2=0
     ·simp only[c,not_true,aa]
      exact⟨r',_,_,rfl,rfl,by rw[<-h];simp[c]⟩
     ·simp only[c,not_false_eq_true,aT]
      exact⟨r',_,_,rfl,rfl,by rw[<-h];simp[c,ŷ]⟩
 ·rintro v r env st ⟨D,r',x,y,rfl,e,rfl,h1,h2⟩
  cases r' with
  | nil=>cases e
  | cons p r'=>
   cases e
   obtain⟨⟨k1,k2,k3,k4⟩,k5⟩:=h2
   rw[show ŷ p=.tup [.str p.1,fq p.2] from rfl]
   have es:cM [.ref (s++[AO.dK (D.map kR)]).length] ((s++[AO.dK (D.map kR)])++[AO.lst [fq ((ř D p.1).getD 0),fq p.2]])=.ok (fq ((ř D p.1).getD 0+p.2)) _:=Pp hm (ŕ _ _) My k2 k3 k4
   simp only[↓WS,↓WE,↓WV,Lq,î,UU,Ì,↓Û,oa,NH,↓bj (Jr _ _ _),↓bj es,gJ,iq,↓LR (O1 _ _ _ (Ş (show D.length<=1000 by lia)))]
   exact⟨_,r',_,_,rfl,rfl,rfl,h1,k5⟩
theorem vT (b:Nat):∀ D:Á (Str × Rat),ķ b ((D.map kR).map (·.2))=true
 | []=>by simp[ķ]
 | p :: r=>by simp only[È,ķ,vT b r];simp[kR,iq]
theorem n8 (h:Cl s):Cl (s++Ŗ u rows):=by
 refine h.add ?_
 simp[Ŗ,AO.low,lM,J1,-ä]
def ù (u:Int)(rows:Á Rw):Á (Str × Rat):=(mB (ï [] (aA u rows))).filter λ p=>!decide (p.2=0)
theorem Kv (hm:m<=9000)(My:1<=m)(ok:M1 m u rows)(ok2:Ia m [] (aA u rows)) (cl:Cl s):Đ [.tup (rows.map rv),.int u] s=.ok (.ref (s.length+6)) (s++(Ŗ u rows++[.lst ((ù u rows).map ŷ)])):=by
 have e:=ES hm My ok cl
 have hk:û (s++Ŗ u rows) (s.length+5)=À ((aA u rows).map ŷ):=vU s (Ŗ u rows) 5
 have cl':(s++Ŗ u rows).all (AO.low (s++Ŗ u rows).length)=true:=n8 cl
 have e2:û ((s++Ŗ u rows)++[.dK ((ï [] (aA u rows)).map kR),.lst (((mB (ï [] (aA u rows))).filter λ p=>!decide (p.2=0)).map ŷ)]) ((s++Ŗ u rows).length+1)=À (((mB (ï [] (aA u rows))).filter λ p=>!decide (p.2=0)).map ŷ):=vU (s++Ŗ u rows) _ 1
 apply R.wp.eq
 unfold Đ pq
 simp only[↓WS,↓WE,↓WV,Lq,î,UU,Ì,↓Û,↓bj e,↓bj (Bi hm My hk ok2),e2,↓kW,gJ,cl',lM,iF]
 refine⟨?_,?_⟩
 ·simp[Ŗ]
 ·unfold ù;rw[æ]
theorem BA (A B C:Í AV):∀ (n:Nat) (x y:Int) (s:S),0<=x->0<=y->y.natAbs < n->
  Ay (cB (Ö uf (mv 4) (mc (.int 0)))) (pS 3 4 (Ã (mv 4) (Ã (Ö fL (mv 3) (mv 4)) Ð))) n [A,B,C,À (.int x),À (.int y)] s=.nx [A,B,C,À (.int (ig x y)),À (.int 0)] s
 | 0,_,_,_,_,_,h=>absurd h (oK _)
 | n+1,x,y,s,hx,hy,h=>by
  unfold Ay
  have e:cB (Ö uf (mv 4) (mc (.int 0))) [A,B,C,À (.int x),À (.int y)] s=.ok (decide (0 < y)) s:=rfl
  rw[e,qm]
  by_cases h0:y=0
  ·subst h0
   rw[Ó (by simp)]
   rw[show ig x 0=x by show((í x 0:Nat):Int)=x;rw[MD];lia]
  ·have VE:0 < y:=by lia
   obtain⟨m1,m2⟩:=E8 hx VE
   rw[É (by simpa using VE)]
   have e2:pS 3 4 (Ã (mv 4) (Ã (Ö fL (mv 3) (mv 4)) Ð)) [A,B,C,À (.int x),À (.int y)] s=.nx [A,B,C,À (.int y),À (.int (x.fmod y))] s:=by
    have e3:fL (.int x) (.int y) s=.ok (.int (x.fmod y)) s:=É h0
    show((fL (.int x) (.int y) s).bind _ |>.bind _).eX _=_
    rw[e3];rfl
   rw[e2]
   show Ay _ _ n _ s=_
   rw[BA A B C n y (x.fmod y) s hy m1 (by lia),Ff VE]
theorem Jp (A B C X:Í AV)(y:Int):Qo [A,B,C,X,À (.int y)]=y.natAbs+1:=rfl
theorem sD (s:S)(h:b≠0)(fb:bu 9000 b)(fa:bu 60000000 a):Ś [.int a,.int b] s=.ok (fq (Õ a b)) s:=by
 have e:=(SX a b h).trans (sd (t:=a) h)
 have e1:((if b < 0 then -1 else 1) * a).fdiv (ig a b)=(Õ a b).num:=Ě Ag e
 have e2:((if b < 0 then -1 else 1) * b).fdiv (ig a b)=((Õ a b).den:Int):=Ě Ah e
 have g:=Bt (a:=a) h
 have fg:Rj (ig a b):=ir (mZ h fb) (Î _)
 have bs:∀ c:Prop,[aN c]->EJ (if c then -1 else 1):=λ c _=>by
  split
  ·exact ae (n:=1) (by show(-1:Int).natAbs < 2 ^ 1;decide) (by decide)
  ·exact ae (n:=1) (by show(1:Int).natAbs < 2 ^ 1;decide) (by decide)
 have bb:EJ b:=⟨fb.mono (by decide)⟩
 have ba:EJ a:=⟨fa⟩
 apply R.wp.eq
 unfold Ś jS
 simp only[↓WS,↓WE,↓WV,Lq,î,UU,Ì,↓Û,↓LQ,Jp]
 rw[LR (BA _ _ _ _ _ _ s (by split<;>lia) (by split<;>lia) (iG _)),JM]
 walk_at "w"
 by_cases c:b < 0
 ·simp only[c,aT]at e1 e2 ⊢
  have b1:=bs True
  rw[É trivial]at b1
  refine⟨⟨b1,ba⟩,⟨g,fg⟩,⟨b1,bb⟩,⟨g,fg⟩,?_⟩
  rw[e1,e2];rfl
 ·simp only[c,aa]at e1 e2 ⊢
  have b1:=bs False
  rw[Ó (λ z=>z)]at b1
  refine⟨⟨b1,ba⟩,⟨g,fg⟩,⟨b1,bb⟩,⟨g,fg⟩,?_⟩
  rw[e1,e2];rfl
theorem Hk (hn:n<=4400)(s:S)(hb:b≠0)(hd:d≠0)(fa:bu n a)(fb:bu n b)(fc:bu n c)(fd:bu n d):aw [.tup [.int a,.int b],.tup [.int c,.int d]] s=.ok (fq (Õ a b * Õ c d)) s:=by
 have e:=sD (a:=a * c) (b:=b * d) s (cb hb hd) ((fb.mul fd).mono (by lia)) ((fa.mul fc).mono (by lia))
 apply R.wp.eq
 unfold aw lu
 simp only[↓WS,↓WE,↓WV,Lq,î,UU,Ì,↓Û,↓bj e]
 refine⟨⟨ae fa (by lia),ae fc (by lia)⟩,⟨ae fb (by lia),ae fd (by lia)⟩,?_⟩
 rw[o6]
theorem Fz (hn:n<=4400)(w:Ib s v (l.map fq) gs) (h:qj n 0 l):ao [v] s=.ok (fq (Č l)) s:=by
 apply R.wp.eq
 unfold ao pj
 simp only[↓WS,↓WE,↓WV,Lq,î,UU,Ì,↓Û,↓bj w.src]
 refine lE (λ xs env st=>st=s/\∃ a r x y,xs=r.map fq/\env=[À v,À (.int (Rat.num a)),À (.int a.den),x,y]/\qj n a r/\a+Č r=Č l) ?_ ?_ ?_ _ _ _ ⟨rfl,0,l,none,none,rfl,rfl,h,ah _⟩
 ·rintro _ _ st ⟨rfl,_⟩;exact w.ok
 ·rintro env st ⟨rfl,a,r,x,y,e,rfl,h1,h2⟩
  cases r with
  | cons=>cases e
  | nil=>
   walk_at "w"
   rw[<-h2,show a+Č []=a from eQ a];rfl
 ·rintro y r env st ⟨rfl,a,r',x,y,e,rfl,h1,h2⟩
  cases r' with
  | nil=>cases e
  | cons q r'=>
   cases e
   obtain⟨k1,k2,k3⟩:=h1
   have e:=sD (a:=a.num * q.den+q.num * a.den) (b:=a.den * q.den) st (cb (jX a) (jX q)) ((k1.b.mul k2.b).mono (by lia)) (((k1.a.mul k2.b).add (k2.a.mul k1.b)).mono (by lia))
   rw[<-yW]at e
   rw[show fq q=.tup [.int q.num,.int q.den] from rfl]
   simp only[↓WS,↓WE,↓WV,Lq,î,UU,Ì,↓Û,↓bj e]
   refine⟨⟨ae k1.a (by lia),ae k2.b (by lia)⟩,⟨ae k2.a (by lia),ae k1.b (by lia)⟩,⟨ae k1.b (by lia),ae k2.b (by lia)⟩,?_⟩
   rw[show fq (a+q)=.tup [.int (a+q).num,.int (a+q).den] from rfl]
   walk_at "w"
   exact⟨a+q,r',_,_,rfl,rfl,k3,by rw[<-h2];show a+q+Č r'=a+(q+Č r');grind⟩
def pos (l:Á (Str × Rat)):Á (Str × Rat):=l.filter λ p=>decide (0 < p.2.num)
structure ZT (m:Nat)(u:Int)(rows:Á Rw):Prop where
 l:rows.length<=99
 a:qj m 0 (1 :: (ã u rows).map λ p=>-p.2)
 c:iU m (Ť u rows) rows
 d:EL m (ŋ (Ť u rows) rows) rows
 e:∀ p∈ĺ rows,bu m p.2
 f:bu m (jo rows)
 g:Ia m [] (pos (aA u rows))
 st:∀ n us z,Rw.steps n us z∈rows->us.length<=900
theorem Cg:∀ l:Á (Str × Rat),Č (l.map λ p=>-p.2)=-Č (l.map (·.2))
 | []=>by show(0:Rat)=-0;grind
 | p :: r=>by show -p.2+Č (r.map λ p=>-p.2)=-(p.2+Č (r.map (·.2)));rw[Cg r];grind
theorem BC (hm:m<=4400)(h:û st k=À [fq a,fq q])(z:1<=m)(h1:Sz m a)(h2:Sz m q)(h3:Sz m (a+q)):ao [.ref k] st=.ok (fq (a+q)) st:=by
 have z0:Sz m 0:=⟨bu.mono (n:=1) (by show(0:Int).natAbs < 2 ^ 1;decide) z,bu.mono (n:=1) (by show(1:Int).natAbs < 2 ^ 1;decide) z⟩
 have e:=Fz (l:=[a,q]) hm (.ref h) ⟨z0,h1,by rw[ah];exact⟨h1,h2,h3⟩⟩
 rw[e,show Č [a,q]=a+q by show a+(q+0)=a+q;rw[eQ]]
def mi (l:Á (Str × Rat)) (k:Str):Rat:=match l with
 | []=>0
 | p :: r=>(if p.1=k then p.2 else 0)+mi r k
theorem lb (n:Str):∀ D:Á (Str × Rat),(D.any λ p=>decide (p.1=n))=true ↔ n∈D.map (·.1)
 | []=>by simp
 | p :: r=>by simp only[cw,È,om,yS,Ò,lb n r];exact⟨λ h=>h.imp Eq.symm id,λ h=>h.imp Eq.symm id⟩
theorem yF:∀ {D:Á (Str × Rat)},n∉D.map (·.1)->ř D n=none
 | [],_=>rfl
 | p :: r,h=>by
  rw[È,Ò]at h
  unfold ř
  rw[Ó (λ z=>h (.inl z.symm)),yF (λ z=>h (.inr z))]
theorem vN (D:Á (Str × Rat)) (n:Str)(q:Rat):(nE D n q).map (·.1)=if n∈D.map (·.1) then D.map (·.1) else D.map (·.1)++[n]:=by
 unfold nE
 by_cases h:n∈D.map (·.1)
 ·rw[É h,É ((lb n D).mpr h),ó]
  apply Ļ
  intro p _
  show(if p.1=n then (p.1,q) else p).1=p.1
  split<;>rfl
 ·rw[Ó h,Ó (λ z=>h ((lb n D).mp z)),ä];rfl
theorem Cy (n k:Str)(q:Rat):∀ D:Á (Str × Rat),ř (D.map λ p=>if p.1=n then (p.1,q) else p) k=if k=n then (ř D k).map (λ _=>q) else ř D k
 | []=>by simp[ř]
 | p :: r=>by
  rw[È]
  unfold ř
  rw[Cy n k q r]
  by_cases h1:p.1=n
  ·rw[É h1]
   by_cases h2:p.1=k
   ·rw[É h2,É h2,É (h2.symm.trans h1)];rfl
   ·rw[Ó h2,Ó h2]
  ·rw[Ó h1]
   by_cases h2:p.1=k
   ·rw[É h2,É h2,Ó (λ z=>h1 (h2.trans z))]
   ·rw[Ó h2,Ó h2]
theorem Cw (k n:Str)(q:Rat):∀ D:Á (Str × Rat),n∉D.map (·.1)->ř (D++[(n,q)]) k=if k=n then À q else ř D k
 | [],_=>by
  show(if n=k then À q else none)=_
  by_cases h:k=n
  ·rw[É h,É h.symm]
  ·rw[Ó h,Ó (λ z=>h z.symm)];rfl
 | p :: r,hn=>by
  rw[È,Ò]at hn
  rw[aC]
  unfold ř
  rw[Cw k n q r (λ z=>hn (.inr z))]
  by_cases h:p.1=k
  ·rw[É h,É h,Ó (λ z=>hn (.inl (z.symm.trans h.symm)))]
  ·rw[Ó h,Ó h]
theorem wB (D:Á (Str × Rat)) (n k:Str)(q:Rat):ř (nE D n q) k=if k=n then À q else ř D k:=by
 unfold nE
 by_cases h:n∈D.map (·.1)
 ·rw[É ((lb n D).mpr h),Cy]
  by_cases e:k=n
  ·subst e
   obtain⟨q',hq⟩:=rn h
   rw[É rfl,É rfl,hq];rfl
  ·rw[Ó e,Ó e]
 ·rw[Ó (λ z=>h ((lb n D).mp z)),Cw k n q D h]
theorem fi (k:Str):∀ (l D:Á (Str × Rat)),k∈(ï D l).map (·.1) ↔ k∈D.map (·.1)∨k∈l.map (·.1)
 | [],D=>by simp[ï]
 | (n,q) :: r,D=>by
  unfold ï
  rw[fi k r,vN,È,Ò]
  by_cases h:n∈D.map (·.1)
  ·rw[É h]
   constructor
   ·rintro(h1|h1)
    ·exact .inl h1
    ·exact .inr (.inr h1)
   ·rintro(h1|rfl|h1)
    ·exact .inl h1
    ·exact .inl h
    ·exact .inr h1
  ·rw[Ó h,ê,ñ]
   constructor
   ·rintro((h1|rfl)|h1)
    ·exact .inl h1
    ·exact .inr (.inl rfl)
    ·exact .inr (.inr h1)
   ·rintro(h1|rfl|h1)
    ·exact .inl (.inl h1)
    ·exact .inl (.inr rfl)
    ·exact .inr h1
theorem bV:∀ (l D:Á (Str × Rat)),(D.map (·.1)).Nodup->((ï D l).map (·.1)).Nodup
 | [],D,h=>h
 | (n,q) :: r,D,h=>by
  unfold ï
  refine bV r _ ?_
  rw[vN]
  split
  ·exact h
  ·rename_i hn
   rw[gI]
   exact⟨h,by simp,λ a ha b hb=>by simp only[ñ]at hb;subst hb;exact λ z=>hn (z ▸ ha)⟩
theorem fF (k:Str):∀ (l D:Á (Str × Rat)),(ř (ï D l) k).getD 0=(ř D k).getD 0+mi l k
 | [],D=>by show _=_+(0:Rat);rw[eQ];rfl
 | (n,q) :: r,D=>by
  unfold ï
  rw[fF k r,wB]
  show _=(ř D k).getD 0+((if n=k then q else 0)+mi r k)
  by_cases h:k=n
  ·subst h;rw[É rfl,É rfl];show(ř D k).getD 0+q+_=_;grind
  ·rw[Ó h,Ó (λ z=>h z.symm)];grind
end Ro
namespace Mm
open PySem L2
theorem LL (a:Mt)(r:Mp)(v:AV)(w:Á AV)(env:En)(s:S)(N:En->S->Prop)(T:AV->S->Prop):(Ù a r (v :: w) env s).wp N T=(a v env s).wp (λ e s1=>(r w e s1).wp N T) T:=by
 show(match a v env s with|.nx e s1=>r w e s1|q=>q).wp N _=_
 cases a v env s<;>rfl
theorem LM (o i:Ev)(v:AV)(env:En)(s:S)(N:En->S->Prop)(T:AV->S->Prop):(m4 o i v env s).wp N T=(o env s).wp λ a s1=>(i env s1).wp λ b s2=>(match a,b with
 | .ref k,.int j=>match û s2 k with
  | some xs=>match Av xs.length j with
   | some n=>RS.nx env (s2.set k (.lst (xs.set n v)))
   | none=>.bad
  | none=>.bad
 | _,_=>.bad).wp N T:=by
 unfold m4;rw[dy];congr 1;funext a s1;rw[dy]
 try rfl
end Mm
namespace Ro
open PySem L2 Mm
theorem W_:¬ ((.inr "cells":Key)=.inr "turn"):=λ z=>kne (ur z)
def Bc (c:Nat)(t:Int):Á (Key × AV):=[(.inr "cells",.ref c),(.inr "turn",.int t)]
theorem Jc (c:Nat)(t:Int):fY (Bc c t) (.inr "cells")=À (.ref c):=É rfl
theorem Nh (c:Nat)(t:Int):fY (Bc c t) (.inr "turn")=À (.int t):=by
 unfold Bc fY
 rw[Ó W_]
 exact É rfl
theorem RM (c:Nat)(t u:Int):oH (Bc c t) (.inr "turn") (.int u)=Bc c u:=by
 unfold oH Bc
 rw[É (by simp)]
 simp only[È,aE,Ó W_,aT]
structure Dr (c d n:Nat)(s:S):Prop where
 ex:∃ (t:Int) (cells:Á Int),s[d]? = À (.dK (Bc c t))/\s[c]? = À (.lst (cells.map AV.int))/\cells≠[]/\0<=t/\t<=n
 cl:Cl s
structure Kp (c d:Nat)(s s':S):Prop where
 len:s'.length=s.length
 get:∀ i,i≠c->i≠d->s'[i]? = s[i]?
theorem Kp.trans (h:Kp c d s s')(k:Kp c d s' HF):Kp c d s HF:=⟨k.len.trans h.len,λ i h1 h2=>(k.get i h1 h2).trans (h.get i h1 h2)⟩
theorem Dr.mono (h:Dr c d n s)(k:n<=m):Dr c d m s:=by
 obtain⟨⟨t,cells,h1,h2,h3,h4,h5⟩,cl⟩:=h
 exact⟨⟨t,cells,h1,h2,h3,h4,by lia⟩,cl⟩
theorem Dr.ne (h:Dr c d n s):c≠d:=by
 obtain⟨⟨t,cells,h1,h2,_⟩,_⟩:=h
 rintro rfl
 rw[h1]at h2;cases h2
theorem Dr.BD (h:Dr c d n s):c < s.length:=by
 obtain⟨⟨t,cells,h1,h2,_⟩,_⟩:=h
 exact(Ë.mp h2).1
theorem Dr.BE (h:Dr c d n s):d < s.length:=by
 obtain⟨⟨t,cells,h1,h2,_⟩,_⟩:=h
 exact(Ë.mp h1).1
theorem Dr.app (h:Dr c d n s)(k:Cl (s++e)):Dr c d n (s++e):=by
 have l1:=h.BD
 have l2:=h.BE
 obtain⟨⟨t,cells,h1,h2,h3⟩,cl⟩:=h
 exact⟨⟨t,cells,by rw[é l2];exact h1,by rw[é l1];exact h2,h3⟩,k⟩
theorem Dr.set (h:Dr c d n s)(h1:i≠c)(h2:i≠d)(k:o.low s.length=true):Dr c d n (s.set i o):=by
 obtain⟨⟨t,cells,k1,k2,k3⟩,cl⟩:=h
 exact⟨⟨t,cells,by rw[ô h2];exact k1,by rw[ô h1];exact k2,k3⟩,cl.set k⟩
theorem low_ints (b:Nat):∀ l:Á Int,ķ b (l.map AV.int)=true
 | []=>by simp[ķ]
 | i :: r=>by simp only[È,ķ,low_ints b r];simp[AV.low]
theorem Nk {x m:Int}(h:0 < m)(k:m<=2147483648):bu 31 (x.fmod m):=by
 have h1:=oo x h
 have h2:=tI x h
 exact xZ (by lia) (by lia)
theorem g9 (h:0<=i)(k:i < 2 ^ n):bu n i:=xZ (by lia) k
theorem F_ (D:Dr c d n s)(hn:n<=1000000000)(hk:0 < k)(fk:bu 9000 k) :
  (ë [.ref d,.int k] s).wp λ v s'=>∃ r,v=.int r/\0<=r/\r < k/\Dr c d (n+1) s'/\Kp c d s s':=by
 have lc:=D.BD
 have ld:=D.BE
 have ne:=D.ne
 obtain⟨⟨t,cells,h1,h2,h3,h4,h5⟩,cl⟩:=D
 have e0:mx s d=À (Bc c t):=by unfold mx;rw[h1]
 have g1:ny (.ref d) (.str "turn") s=.ok (.int t) s:=by
  show(need (mx s d) λ kvs=>need (lL (.str "turn")) λ k=>need (fY kvs k) λ v=>R.ok v s)=_
  rw[e0,ď]
  rw[show lL (.str "turn")=À (.inr "turn") from rfl,ď,Nh];rfl
 let s1:=s.set d (.dK (Bc c (t+1)))
 have p1:∀ env,putD (.int (t+1)) (.ref d) (.str "turn") env s=.nx env s1:=λ env=>by
  show(match mx s d,lL (.str "turn") with
   | some kvs,À k=>if kvs.length < sizeLine then RS.nx env (s.set d (.dK (oH kvs k (.int (t+1))))) else .bad
   | _,_=>.bad)=_
  rw[e0]
  show(if (Bc c t).length < sizeLine then RS.nx env (s.set d (.dK (oH (Bc c t) (.inr "turn") (.int (t+1))))) else .bad)=_
  rw[É (Ş (by show(2:Nat)<=1000;lia)),RM]
 have e1:s1[d]? = À (.dK (Bc c (t+1))):=đ ld
 have e2:s1[c]? = À (.lst (cells.map AV.int)):=by show(s.set d _)[c]? = _;rw[ô (bR ne)];exact h2
 have l1:û s1 c=À (cells.map AV.int):=og e2
 have Mq:Cl s1:=cl.set (by simp[AO.low,Bc,ķ,AV.low,lc])
 have Zb:Kp c d s s1:=⟨š,λ i _ hi=>ô (bR hi)⟩
 have g2:ny (.ref d) (.str "cells") s1=.ok (.ref c) s1:=by
  show(need (mx s1 d) λ kvs=>need (lL (.str "cells")) λ k=>need (fY kvs k) λ v=>R.ok v s1)=_
  rw[show mx s1 d=À (Bc c (t+1)) by unfold mx;rw[e1],ď]
  rw[show lL (.str "cells")=À (.inr "cells") from rfl,ď,Jc];rfl
 have Qx:0 < cells.length:=Ip.mpr h3
 have lenE:cZ [.ref c] s1=.ok (.int cells.length) s1:=by
  show(need (û s1 c) λ xs=>R.ok (AV.int xs.length) s1)=_
  rw[l1,ď,Æ]
 have Fd:(0:Int) < cells.length:=by lia
 have j0:=oo (t+1) Fd
 have j1:=tI (t+1) Fd
 obtain⟨j,ej⟩:∃ j:Nat,(t+1).fmod cells.length=j:=⟨((t+1).fmod cells.length).toNat,by lia⟩
 have hj:j < cells.length:=by lia
 have ix:oB (cells.map AV.int) (j:Int)=À (.int cells[j]):=ql (by rw[ò,Ñ hj];rfl)
 have ixn:Av (cells.map AV.int).length (j:Int)=À j:=by
  unfold Av
  rw[Æ,É (by lia),É (by lia)];rfl
 unfold ë mT
 have gE:Ħ (.ref c) (.int j) s1=.ok (.int cells[j]) s1:=by
  show(need (û s1 c) λ xs=>need (oB xs j) λ v=>R.ok v s1)=_
  rw[l1,ď,ix];rfl
 have aaw:(10:Int) ^ (18:Int).toNat=1000000000000000000:=aaT
 have T1:bu 31 (t+1):=g9 (by lia) (by lia)
 simp only[↓WS,↓WE,↓WV,Lq,î,UU,Ì,↓Û,↓bj g1,↓LR (p1 _),↓bj g2,↓bj lenE,ej,↓bj gE,aaw]
 refine⟨by lia,⟨by lia,by lia,by decide⟩,?_⟩
 split
 ·simp only[↓WS,↓WE,↓WV,Lq,î,UU,Ì,↓Û,↓LL,↓LM,↓bj g2,l1,ixn]
  refine⟨⟨hk,⟨fk⟩⟩,_,rfl,UT _ (by lia),MC _ hk,⟨⟨t+1,cells.set j (cells[j] / k),?_,?_,?_,by lia,by lia⟩,?_⟩,?_⟩
  ·rw[ô ne];exact e1
  ·rw[đ (by show c < s1.length;rw[Zb.len];exact lc),YH]
  ·intro z
   have:=Ě cf z
   rw[š,dj]at this;lia
  ·refine Mq.set ?_
   rw[<-YH]
   exact low_ints _ _
  ·exact⟨by rw[š];exact Zb.len,λ i q1 q2=>by rw[ô (bR q1)];exact Zb.get i q1 q2⟩
 ·have F1:bu 31 (cells[j].fmod 2147483629):=Nk (by lia) (by lia)
  have c79:bu 13 (7919:Int):=g9 (by lia) (by lia)
  have c48:bu 16 (48271:Int):=g9 (by lia) (by lia)
  have c10:bu 17 (104729:Int):=g9 (by lia) (by lia)
  have c39:bu 16 (39373:Int):=g9 (by lia) (by lia)
  have F2:=T1.mul T1
  have F3:=F2.mul c79
  have F4:bu 76 (cells[j].fmod 2147483629+(t+1) * (t+1) * 7919):=bu.add (n:=75) (F1.mono (by lia)) (F3.mono (by lia))
  have F5:bu 77 (cells[j].fmod 2147483629+(t+1) * (t+1) * 7919+11):=bu.add F4 (g9 (by lia) (by lia))
  have F6:∀ x:Int,bu 49 (x.fmod 2147483587+(t+1) * 104729):=λ x=>bu.add (n:=48) ((Nk (by lia) (by lia)).mono (by lia)) ((T1.mul c10).mono (by lia))
  have bg:∀ {n:Nat}{i:Int},bu n i->n<=100->EJ i:=λ h k=>ae h (by lia)
  refine⟨by decide,⟨bg T1 (by lia),bg T1 (by lia)⟩,⟨bg F2 (by lia),bg c79 (by lia)⟩,⟨bg F5 (by lia),bg c48 (by lia)⟩,by decide,⟨bg (Nk (by lia) (by lia)) (by lia),bg (Nk (by lia) (by lia)) (by lia)⟩,by decide,⟨bg T1 (by lia),bg c10 (by lia)⟩,⟨bg (F6 _) (by lia),bg c39 (by lia)⟩,by decide,⟨by decide,ir (n:=7) (g9 (by lia) (by lia)) (by lia)⟩,by lia,_,rfl,oo _ hk,tI _ hk,⟨⟨t+1,cells,e1,e2,h3,by lia,by lia⟩,Mq⟩,Zb⟩
theorem Jm:∀ {v:AV},eh v=true->∃ d,toD n s v=À d/\d.dep=0
 | .ĥ,_=>⟨.ĥ,by unfold toD;rfl,by simp[Dt.dep]⟩
 | .bl b,_=>⟨.bl b,by unfold toD;rfl,by simp[Dt.dep]⟩
 | .int b,_=>⟨.int b,by unfold toD;rfl,by simp[Dt.dep]⟩
 | .str b,_=>⟨.str b,by unfold toD;rfl,by simp[Dt.dep]⟩
theorem ya:∀ {l:Á AV},l.all eh=true->∃ ds,l.mapM (toD n s)=À ds/\ds.length=l.length/\g6 ds=0
 | [],_=>⟨[],rfl,rfl,by simp[g6]⟩
 | v :: r,h=>by
  rw[Ĩ,ł]at h
  obtain⟨d,e1,e2⟩:=Jm (s:=s) (n:=n) h.1
  obtain⟨ds,e3,e4,e5⟩:=ya (s:=s) (n:=n) h.2
  exact⟨d :: ds,by rw[kg,e1,e3];rfl,by simp[e4],by simp[g6,e2,e5]⟩
theorem vi (h1:û s i=À xs)(h2:û s j=À [])(hf:xs.all eh=true):oC s (.ref i) (.ref j)=À xs.isEmpty:=by
 obtain⟨ds,e1,e2,e3⟩:=ya (s:=s) (n:=19) hf
 have t1:toD 20 s (.ref i)=À (.lst ds):=by
  simp only[toD,h1,l0,e1,iO]
 have t2:toD 20 s (.ref j)=À (.lst []):=by
  simp only[toD,h2,l0,lY];rfl
 unfold oC
 simp only
 rw[t1,t2]
 dsimp only
 rw[É (by lia)]
 congr 1
 cases xs with
 | nil=>cases ds with
  | nil=>simp[g7]
  | cons=>cases e2
 | cons=>cases ds with
  | nil=>cases e2
  | cons=>simp[g7]
theorem x_:∀ l:Á Int,(l.map AV.int).all eh=true
 | []=>rfl
 | i :: r=>by rw[È,Ĩ,x_ r];rfl
theorem IL (ns:Á Int):(dE [.sq (ns.map AV.int)] []).wp λ v s'=>∃ c d,v=.ref d/\Dr c d 0 s':=by
 obtain⟨ms,em⟩:∃ ms:Á Int,lB (ns.map AV.int) none (À 63)=ms.map AV.int:=by
  refine⟨lB ns none (À 63),?_⟩
  unfold lB;rw[Æ,<-List.map_drop,<-List.map_take]
 have e1:Hs (.sq (ns.map AV.int)) none (À 63) []=.ok (.ref 0) [.lst (ms.map AV.int)]:=by
  show R.ok _ ([]++[AO.lst (lB (ns.map AV.int) none (À 63))])=_
  rw[em];rfl
 have e2:items (.ref 0) [.lst (ms.map AV.int)]=À (ms.map AV.int):=rfl
 have e3:cz (.ref 1) (.ref 2) [.lst (ms.map AV.int),.lst (ms.map AV.int),.lst []]=.ok (.bl (ms.map AV.int).isEmpty) [.lst (ms.map AV.int),.lst (ms.map AV.int),.lst []]:=by
  unfold cz;rw[vi (xs:=ms.map AV.int) rfl rfl (x_ ms)];rfl
 have ed:∀ (env:En) (s:S) (k:Nat) (x:Í AV),yr [((mc (.str "cells")),(mv 1)),((mc (.str "turn")),(mc (.int 0)))] [x,À (.ref k)] s=.ok (.ref s.length) (s++[.dK (Bc k 0)]):=by
  intro env s k x
  unfold yr B1 B1 B1
  simp only[mc,mv,bI,Lq,ym,lL,l0,iO,ď]
  rw[É (by show(2:Nat)<=15;lia)]
  congr 1
 unfold dE lh
 simp only[↓WS,↓WE,↓WV,Lq,î,UU,Ì,↓Û,↓bj e1,e2,FO,å,dj,YK,aC,ľ,↓bj e3,List.take_succ_cons,List.take_zero,Ă,show(1<=sizeLine)=True from YT (p7 (by lia))]
 cases ms with
 | nil=>
  simp only[aE,wK,aT,↓bj (ed [] _ _ _)]
  refine⟨2,_,rfl,⟨⟨0,[7],rfl,rfl,by simp,by lia,by lia⟩,rfl⟩⟩
 | cons m r=>
  simp only[È,List.isEmpty_cons,ą,aa,↓bj (ed [] _ _ _)]
  refine⟨1,_,rfl,⟨⟨0,m :: r,rfl,rfl,by simp,by lia,by lia⟩,?_⟩⟩
  simp[Cl,AO.low,ķ,AV.low,low_ints,Bc]
theorem R0 (h:0 < k)(l:k < 1048576):bu 9000 k:=(g9 (n:=20) (by lia) (by lia)).mono (by lia)
theorem Yx {k:Int}(h:0 < k)(l:k < 1048576):(decide (0 < k) && decide (k < 1048576))=true:=by rw[ø h,ø l];rfl
theorem take1 {c d n:Nat}{s:S}{k:Int}(D:Dr c d n s)(hn:n<=1000000000:=by lia)(hk:(decide (0 < k) && decide (k < 1048576))=true:=by first|rfl|exact Yx (by lia) (by lia)) :
  (ë [.ref d,.int k] s).wp λ v s'=>∃ r,v=.int r/\0<=r/\r < k/\Dr c d (n+1) s'/\Kp c d s s':=by
 rw[ł]at hk
 exact F_ D hn (Ė hk.1) (R0 (Ė hk.1) (Ė hk.2))
theorem uP (m:Ev)(env:En)(s:S)(Q:Á AV × Gd->S->Prop):(sL (Ã m Ð) env s).wp Q=(m env s).wp λ v s1=>match v with|.int j=>(-(2 ^ 62)<=j/\j < 2 ^ 62)/\Q (jj 0 j.toNat,[]) s1|_=>False:=by
 unfold sL Ã Ð
 simp only[wp_bind,LP]
 congr 1
 funext v s1
 cases v<;>first|rfl|exact kW _ _ _
structure Gk (c d:Nat)(s s':S):Prop where
 len:s.length<=s'.length
 get:∀ i,i < s.length->i≠c->i≠d->s'[i]? = s[i]?
theorem Kp.gk (h:Kp c d s s'):Gk c d s s':=⟨by rw[h.len];exact Î _,λ i _ h1 h2=>h.get i h1 h2⟩
theorem Gk.app (c d:Nat)(s e:S):Gk c d s (s++e):=⟨by simp,λ i hi _ _=>é hi⟩
theorem Gk.trans (h:Gk c d s s')(k:Gk c d s' HF):Gk c d s HF:=⟨ā h.len k.len,λ i hi h1 h2=>(k.get i (ö hi h.len) h1 h2).trans (h.get i hi h1 h2)⟩
theorem Gk.lst {c d n i:Nat}{s s':S}{xs:Á AV}(h:Gk c d s s')(h1:i≠c)(h2:i≠d)(k:û s i=À xs):û s' i=À xs:=by
 have e:=ń k
 exact og ((h.get i (Ë.mp e).1 h1 h2).trans e)
theorem Gk.set (h:Gk c d s s')(hi:s.length<=i):Gk c d s (s'.set i o):=⟨by rw[š];exact h.len,λ j hj h1 h2=>by rw[ô (by lia)];exact h.get j hj h1 h2⟩
theorem Gk.cut (h:Gk c d s s')(D:Dr c d n s)(D':Dr c d m s'):Dr c d m (s'.take s.length)/\Kp c d s (s'.take s.length)/\(s'.take s.length).all (AO.low s.length)=true:=by
 have lc:=D.BD
 have ld:=D.BE
 have el:(s'.take s.length).length=s.length:=by rw[eG];have:=h.len;lia
 have eg:∀ i,i < s.length->(s'.take s.length)[i]? = s'[i]?:=λ i hi=>cx hi
 have cl:=D.cl
 obtain⟨⟨t,cells,h1,h2,h3,h4,h5⟩,cl'⟩:=D'
 have all:(s'.take s.length).all (AO.low s.length)=true:=by
  rw[ü]
  intro o ho
  obtain⟨i,hi,e⟩:=List.mem_iff_getElem.mp ho
  rw[el]at hi
  have e':(s'.take s.length)[i]? = À o:=by rw[Ñ (by rw[el];exact hi)];rw[e]
  rw[eg i hi]at e'
  by_cases c1:i=c
  ·subst c1;rw[h2]at e';cases e';exact low_ints _ _
  by_cases c2:i=d
  ·subst c2;rw[h1]at e';cases e';simp[AO.low,Bc,ķ,AV.low,lc]
  rw[h.get i hi c1 c2]at e'
  have:=ü.mp (show s.all (AO.low s.length)=true from cl) o (Ŋ e')
  exact this
 refine⟨⟨⟨t,cells,by rw[eg d ld];exact h1,by rw[eg c lc];exact h2,h3,h4,h5⟩,?_⟩,⟨el,λ i c1 c2=>?_⟩,all⟩
 ·unfold Cl;rw[el];exact all
 ·by_cases hi:i < s.length
  ·rw[eg i hi];exact h.get i hi c1 c2
  ·rw[h9 (by rw[el];lia),h9 (by lia)]
theorem vK {s:S}{i:Nat}{xs:Á AV}{j:Int}(h:û s i=À xs)(h0:0<=j)(h1:j < xs.length):∃ v,v∈xs/\Ħ (.ref i) (.int j) s=.ok v s:=by
 obtain⟨n,rfl⟩:∃ n:Nat,j=n:=⟨j.toNat,by lia⟩
 have hn:n < xs.length:=by lia
 refine⟨xs[n],cH hn,?_⟩
 show(need (û s i) λ xs=>need (oB xs n) λ v=>R.ok v s)=_
 rw[h,ď,ql (Ñ hn)];rfl
theorem Ym (h1:0<=j)(h2:j<=60)(h3:0 < b)(h4:b<=60):Sz 6 (Õ j b):=yb (by lia) (g9 (by lia) (by lia)) (g9 (by lia) (by lia))
theorem jY (h1:0<=j)(h3:0 < b):0<=Õ j b:=(bF h3).mpr h1
theorem div_add (h:b≠0):Õ a b+Õ c b=Õ (a+c) b:=by
 rw[HZ _ _ h h,<-abj,qd h]
theorem uG (h1:j<=b)(h3:0 < b):Õ j b<=1:=by
 have:0<=Õ (b - j) b:=jY (by lia) h3
 have e:Õ (b - j) b+Õ j b=1:=by
  rw[div_add (by lia),show b - j+j=b by lia,mQ (by lia)]
 grind
theorem qI (s:S)(h1:0<=a)(h2:a<=1000)(h3:0 < b)(h4:b<=1000):Ś [.int a,.int b] s=.ok (fq (Õ a b)) s:=sD s (by lia) ((g9 (n:=20) (by lia) (by lia)).mono (by lia)) ((g9 (n:=20) (by lia) (by lia)).mono (by lia))
def C1 (w:Int)(q:Rat):Prop:=∃ j,1<=j/\j<=w/\q=Õ j 60
def fB (w:Int):Rw->Prop
 | .of _ q=>1<=w/\w<=60/\C1 w q
 | .steps _ us z=>1<=w/\w<=60/\us.length<=3/\(∀ p∈us,C1 w p.2)/\C1 w z
 | .left _ q=>w=0/\0<=q/\q<=1/\Sz 6 q
 | .len _ k=>w=0/\1<=k/\k<=1000
theorem zC (b:Nat):∀ l:Á (Int × Rat),ķ b (l.map oI)=true
 | []=>by simp[ķ]
 | p :: r=>by simp only[È,ķ,zC b r];simp[oI,fq,AV.low,ķ]
theorem nt (b:Nat):∀ (l m:Á AV),ķ b (l++m)=(ķ b l && ķ b m)
 | [],m=>by simp[ķ]
 | v :: r,m=>by rw[aC];simp only[ķ,nt b r m,Bool.and_assoc]
theorem J2 (b:Nat):∀ r:Rw,(rv r).low b=true
 | .of n q=>by simp[rv,AV.low,ķ,iq]
 | .left n q=>by simp[rv,AV.low,ķ,iq]
 | .len n q=>by simp[rv,AV.low,ķ]
 | .steps n us z=>by simp[rv,AV.low,ķ,nt,zC,iq]
theorem OJ {c d n:Nat}{s:S}(D:Dr c d n s)(hn:n<=900001000){xs:Á AV}{m:Int}(hm:m=xs.length)(hm0:0 < m)(My:m<=10){P:Int->Prop}(hx:∀ v∈xs,∃ b,v=.int b/\P b) :
  (ë [.ref d,.int m] (s++[.lst xs])).wp λ v s2=>∃ b,Ħ (.ref s.length) v s2=.ok (.int b) s2/\P b/\(s2.take s.length).all (AO.low s.length)=true/\Dr c d (n+1) (s2.take s.length)/\Kp c d s (s2.take s.length):=by
 have lx:∀ b,ķ b xs=true:=λ b=>by
  clear hm hm0 My
  induction xs with
  | nil=>simp[ķ]
  | cons v r ih=>
   obtain⟨i,rfl,_⟩:=hx v (.head _)
   simp only[ķ,ih λ v hv=>hx v (.tail _ hv)];simp[AV.low]
 have D1':=D.app (e:=[.lst xs]) (D.cl.add (by simp[AO.low,lx]))
 refine(take1 D1').mono ?_
 rintro _ s2 ⟨j,rfl,j0,j1,D2,K2⟩
 obtain⟨v,hv,ev⟩:=vK (s:=s2) (i:=s.length) (j:=j) (K2.gk.lst (n:=0) (by have:=D.BD;lia) (by have:=D.BE;lia) (ŕ s _)) j0 (by lia)
 obtain⟨b,rfl,hb⟩:=hx v hv
 obtain⟨D3,K3,al⟩:=((Gk.app c d s _).trans K2.gk).cut D D2
 exact⟨b,ev,hb,al,D3,K3⟩
theorem append_at (h:û s i=À xs)(hl:xs.length < sizeLine):cN (.ref i) [v] s=.ok .ĥ (s.set i (.lst (xs++[v]))):=by
 unfold cN
 simp only[h,ď,É hl]
theorem sv (h:û s i=À xs):(bX "list" (.ref i) s).isSome=true:=by
 show((û s i).map λ _=>()).isSome=true
 rw[h];rfl
theorem qJ (h:û s i=À xs):û (s.set i (.lst ys)) i=À ys:=by
 refine og (đ ?_)
 exact(Ë.mp (ń h)).1
def jI:Str:="b aa zebra c quartzes ab m knows d mm likes z ba abcdefgh y zz e x f g hh jj kk pave"
open PySem.Builtin.Str in
def zE:Á Str:=partsBetween jI (occurrences jI " " 0 jI.length (jI.length+1)) (" ":Str).length
theorem Kl:zE.length=24:=by decide +kernel
open PySem.Builtin.Str in
theorem Og:(decide (jI.length < (" ":Str).length) || decide (pZ jI < pZ (" ":Str)))=false/\((" ":Str).length == 0)=false/\(occurrences jI " " 0 jI.length (jI.length+1)).isEmpty=false/\jI.length<=1000/\(partsBetween jI (occurrences jI " " 0 jI.length (jI.length+1)) (" ":Str).length).length<=1000:=by decide +kernel
theorem Pk (s:S):qR (.str "b aa zebra c quartzes ab m knows d mm likes z ba abcdefgh y zz e x f g hh jj kk pave") [.str " "] s=.ok (zE.map AV.str) s:=É Og
theorem hV (b:Nat):∀ l:Á Str,ķ b (l.map AV.str)=true
 | []=>by simp[ķ]
 | i :: r=>by simp only[È,ķ,hV b r];simp[AV.low]
theorem sC (h:û s i=À xs):cZ [.ref i] s=.ok (.int xs.length) s:=by
 show(need (û s i) λ xs=>R.ok (AV.int xs.length) s)=_
 rw[h];rfl
theorem Dw (f:α->β):∀ (l:Á α) (m:Nat),(l.map f).eraseIdx m=(l.eraseIdx m).map f
 | [],_=>rfl
 | a :: r,0=>rfl
 | a :: r,m+1=>by show f a :: (r.map f).eraseIdx m=f a :: (r.eraseIdx m).map f;rw[Dw f r m]
def nL:Á Rw->Nat
 | []=>0
 | .left _ _ :: r=>nL r+1
 | .of _ _ :: r=>nL r
 | .steps _ _ _ :: r=>nL r
 | .len _ _ :: r=>nL r
def Hc:Rw->AV
 | .left _ _=>.str "left"
 | .of _ _=>.str "of"
 | .steps _ _ _=>.str "steps"
 | .len _ _=>.str "length"
theorem NS:g8 (toV (.str "left")) (toV (.str "left"))=true:=by decide +kernel
theorem W9:g8 (toV (.str "of")) (toV (.str "left"))=false:=by decide +kernel
theorem JW:g8 (toV (.str "steps")) (toV (.str "left"))=false:=by decide +kernel
theorem kd_len:g8 (toV (.str "length")) (toV (.str "left"))=false:=by decide +kernel
theorem QI:∀ rs:Á Rw,(rs.map Hc).countP (λ z=>g8 (toV z) (toV (.str "left")))=nL rs
 | []=>rfl
 | r :: rs=>by
  rw[È,wJ,QI rs]
  cases r
  ·show _+(if g8 (toV (.str "of")) (toV (.str "left"))=true then 1 else 0)=nL rs;rw[W9];rfl
  ·show _+(if g8 (toV (.str "steps")) (toV (.str "left"))=true then 1 else 0)=nL rs;rw[JW];rfl
  ·show _+(if g8 (toV (.str "left")) (toV (.str "left"))=true then 1 else 0)=nL rs+1;rw[NS];rfl
  ·show _+(if g8 (toV (.str "length")) (toV (.str "left"))=true then 1 else 0)=nL rs;rw[kd_len];rfl
theorem vX:∀ (a b:Á Rw),nL (a++b)=nL a+nL b
 | [],b=>by simp[nL]
 | r :: a,b=>by rw[aC];have ih:=vX a b;cases r<;>(simp only[nL,ih];try lia)
theorem yH (u:Int):∀ (a b:Á Rw),ã u (a++b)=ã u a++ã u b
 | [],b=>by simp[ã]
 | r :: a,b=>by rw[aC];have ih:=yH u a b;cases r<;>(simp only[ã,ih,aC])
theorem eD:∀ (a b:Á Rat),Č (a++b)=Č a+Č b
 | [],b=>by show Č b=0+Č b;grind
 | q :: a,b=>by show q+Č (a++b)=q+Č a+Č b;rw[eD a b];grind
structure M0 (rs:Á Rw)(room:Int):Prop where
 a:∀ r∈rs,∃ w,fB w r
 s:∀ u,Č ((ã u rs).map (·.2))<=Õ (60 - room) 60
theorem JP (h:C1 w q):0<=q/\q<=Õ w 60/\q<=1∨60 < w:=by
 obtain⟨j,h1,h2,rfl⟩:=h
 by_cases c:60 < w
 ·exact .inr c
 refine .inl ⟨jY (by lia) (by lia),?_,uG (by lia) (by lia)⟩
 have e:Õ (w - j) 60+Õ j 60=Õ w 60:=by rw[div_add (by lia),show w - j+j=w by lia]
 have:0<=Õ (w - j) 60:=jY (by lia) (by lia)
 grind
theorem Eg (hz:C1 w z):∀ us:Á (Int × Rat),(∀ p∈us,C1 w p.2)->C1 w (i_ u z us)
 | [],_=>hz
 | p :: r,h=>by
  unfold i_
  split
  ·exact h p (.head _)
  ·exact Eg hz r λ p hp=>h p (.tail _ hp)
theorem fB.sum (h:fB w r)(u:Int):Č ((ã u [r]).map (·.2))<=Õ w 60:=by
 have one:∀ {n:Str}{q:Rat},C1 w q->w<=60->Č ([(n,q)].map (·.2))<=Õ w 60:=λ {n q} hq hw=>by
  rcases JP hq with⟨_,h2,_⟩|h2
  ·show q+0<=_;grind
  ·lia
 cases r with
 | of n q=>exact one h.2.2 h.2.1
 | steps n us z=>exact one (n:=n) (q:=i_ u z us) (Eg h.2.2.2.2 us h.2.2.2.1) h.2.1
 | left n q=>show(0:Rat)<=_;exact jY (by have:=h.1;lia) (by lia)
 | len n q=>show(0:Rat)<=_;exact jY (by have:=h.1;lia) (by lia)
theorem M0.snoc (h:M0 rs room)(k:fB w r):M0 (rs++[r]) (room - w):=by
 refine⟨λ x hx=>?_,λ u=>?_⟩
 ·rcases ê.mp hx with hx|hx
  ·exact h.a x hx
  ·simp only[ñ]at hx;subst hx;exact⟨w,k⟩
 ·rw[yH,ä,eD]
  have h1:=h.s u
  have h2:=k.sum u
  have e:Õ (60 - room) 60+Õ w 60=Õ (60 - (room - w)) 60:=by rw[div_add (by lia),show 60 - room+w=60 - (room - w) by lia]
  grind
theorem ne_nil (h1:û s i=À xs)(h2:û s j=À [])(hf:xs.all eh=true)(hx:xs≠[]):aS (.ref i) (.ref j) s=.ok (.bl true) s:=by
 unfold aS
 rw[vi h1 h2 hf]
 cases xs with
 | nil=>exact(hx rfl).elim
 | cons=>rfl
theorem r_:∀ l:Á Str,(l.map AV.str).all eh=true
 | []=>rfl
 | i :: r=>by rw[È,Ĩ,r_ r];rfl
theorem E7:∀ l:Á Rw,(l.map Hc).all eh=true
 | []=>rfl
 | r :: l=>by rw[È,Ĩ,E7 l];cases r<;>rfl
theorem B8 (r:Rw)(s:S):Ħ (rv r) (.int 0) s=.ok (Hc r) s:=by
 cases r<;>rfl
theorem zB (b:Nat):∀ l:Á Rw,ķ b (l.map rv)=true
 | []=>by simp[ķ]
 | r :: l=>by simp only[È,ķ,zB b l,J2];rfl
theorem NR (rs:Á Rw)(st:S)(L:Nat)(h:û st L=À (rs.map rv)) (Q:Á AV->S->Prop):(ů (gN 0) de (Ö Ħ (mv 0) (mc (.int 0))) [(L,rs.map rv)] (rs.map rv) [none] st []).wp Q=Q (rs.map Hc) st:=by
 refine bj (R.wp.eq (eJ (λ xs þ env s=>s=st/\∃ r x,xs=r.map rv/\env=[x]/\þ++r.map Hc=rs.map Hc) ?_ ?_ ?_ _ _ _ _ ⟨rfl,rs,none,rfl,rfl,rfl⟩)) Q
 ·rintro _ _ _ st ⟨rfl,_⟩;exact Js h
 ·rintro þ env st ⟨rfl,r,x,e,rfl,h⟩
  cases r with
  | cons=>cases e
  | nil=>exact⟨by rw[<-h];simp,rfl⟩
 ·rintro v r þ env st ⟨rfl,r',x,e,rfl,h⟩
  cases r' with
  | nil=>cases e
  | cons p r'=>
   cases e
   simp only[↓WS,↓WE,↓WV,Lq,î,UU,Ì,↓Û,↓bj (B8 p _)]
   exact⟨r',_,rfl,rfl,by rw[<-h];simp⟩
theorem GL (rs:Á Rw)(st:S):qQ (.ref st.length) [.str "left"] (st++[.lst (rs.map Hc)])=.ok (.int (nL rs)) (st++[.lst (rs.map Hc)]):=by
 show(need (û (st++[.lst (rs.map Hc)]) st.length) λ xs=>if eh (.str "left")=true/\xs.all eh=true then R.ok (AV.int ((xs.countP λ z=>g8 (toV z) (toV (.str "left")):Nat):Int)) (st++[.lst (rs.map Hc)]) else .bad)=_
 rw[ŕ,ď,É ⟨rfl,E7 rs⟩,QI]
structure Good (rs:Á Rw):Prop where
 a:∀ r∈rs,∃ w,fB w r
 s:∀ u,Č ((ã u rs).map (·.2))<=1
 l:rs.length<=8
 n:nL rs<=3
theorem Zh (z:1<=m):Sz m 0:=⟨bu.mono (n:=1) (by show(0:Int).natAbs < 2 ^ 1;decide) z,bu.mono (n:=1) (by show(1:Int).natAbs < 2 ^ 1;decide) z⟩
theorem rm:∀ (l:Á Rat)(a:Rat)(k:Nat),Sz k a->(∀ q∈l,Sz b q)->k+(b+1) * l.length<=m->b<=m->qj m a l/\Sz (k+(b+1) * l.length) (a+Č l)
 | [],a,k,h,_,hm,_=>⟨h.mono (by simp at hm;lia),by rw[show a+Č []=a from eQ a];exact h.mono (by simp)⟩
 | q :: r,a,k,h,hq,hm,hb=>by
  rw[å,abp,abq]at hm
  have h1:=h.add (hq q (.head _))
  obtain⟨i1,i2⟩:=rm r (a+q) (k+b+1) h1 (λ q Ny=>hq q (.tail _ Ny)) (by lia) hb
  refine⟨⟨h.mono (by lia),(hq q (.head _)).mono hb,i1⟩,?_⟩
  rw[show a+Č (q :: r)=a+q+Č r by show a+(q+Č r)=_;grind]
  rw[å,abp,abq]
  exact i2.mono (by lia)
theorem C1.sz (h:C1 w q)(hw:w<=60):Sz 6 q/\0<=q:=by
 obtain⟨j,h1,h2,rfl⟩:=h
 exact⟨Ym (by lia) (by lia) (by lia) (by lia),jY (by lia) (by lia)⟩
theorem CF (u:Int):∀ rs:Á Rw,(∀ r∈rs,∃ w,fB w r)->∀ p∈ã u rs,Sz 6 p.2/\0<=p.2
 | [],_,p,hp=>nomatch hp
 | r :: rs,h,p,hp=>by
  have ih:=CF u rs (λ r hr=>h r (.tail _ hr)) p
  obtain⟨w,hw⟩:=h r (.head _)
  cases r with
  | of n q=>
   rcases Ò.mp (show p∈(n,q) :: ã u rs from hp) with rfl|hp
   ·exact hw.2.2.sz hw.2.1
   ·exact ih hp
  | steps n us z=>
   rcases Ò.mp (show p∈(n,i_ u z us) :: ã u rs from hp) with rfl|hp
   ·exact(Eg hw.2.2.2.2 us hw.2.2.2.1).sz hw.2.1
   ·exact ih hp
  | left n q=>exact ih hp
  | len n q=>exact ih hp
theorem one_sub (q:Rat):1 - q=Õ (q.den - q.num) q.den:=by
 have h:=jX q
 have e:Õ q.den q.den+Õ (-q.num) q.den=Õ (q.den+-q.num) q.den:=div_add h
 rw[mQ h,<-VW,ţ]at e
 rw[Int.sub_eq_add_neg,<-e];grind
theorem DX (h0:0<=q)(h1:q<=1)(h:Sz 6 q):Sz 6 (1 - q):=by
 have n0:=Rat.num_nonneg.mpr h0
 have hd:(0:Int) < q.den:=by have:=q.den_pos;lia
 have n1:0<=(q.den:Int) - q.num:=by
  rw[<-bF hd,<-one_sub];grind
 rw[one_sub]
 refine yb (jX q) (h.b.le ?_) h.b
 lia
theorem qG:∀ (rs:Á Rw)(t:Rat)(k:Nat),Sz k t->0<=t->(∀ r∈rs,∃ w,fB w r)->k+6 * nL rs<=m->6<=m->
  iU m t rs/\Sz (k+6 * nL rs) (ŋ t rs)/\0<=ŋ t rs/\∀ p∈Ł t rs,Sz (k+6 * nL rs) p.2/\0<=p.2
 | [],t,k,h,h0,_,_,_=>⟨trivial,h.mono (by simp[nL]),h0,λ p hp=>nomatch hp⟩
 | r :: rs,t,k,h,h0,ha,hm,h6=>by
  have Vy:∀ r∈rs,∃ w,fB w r:=λ r hr=>ha r (.tail _ hr)
  obtain⟨w,hw⟩:=ha r (.head _)
  cases r with
  | left n q=>
   obtain⟨_,q0,q1,q2⟩:=hw
   have hm:k+6 * (nL rs+1)<=m:=hm
   have e:t - t * q=t * (1 - q):=by grind
   have s1:=h.mul q2
   have s2:Sz (k+6) (t - t * q):=by rw[e];exact h.mul (DX q0 q1 q2)
   have n1:0<=t * q:=kB h0 q0
   have n2:0<=t - t * q:=by rw[e];exact kB h0 (by grind)
   obtain⟨i1,i2,i3,i4⟩:=qG rs (t - t * q) (k+6) s2 n2 Vy (by lia) h6
   refine⟨⟨⟨h.mono (by lia),q2.mono (by lia),s1.mono (by lia),s2.mono (by lia)⟩,i1⟩,i2.mono (by show _<=k+6 * (nL rs+1);lia),i3,λ p hp=>?_⟩
   rcases Ò.mp (show p∈(n,t * q) :: Ł (t - t * q) rs from hp) with rfl|hp
   ·exact⟨s1.mono (by show _<=k+6 * (nL rs+1);lia),n1⟩
   ·exact⟨(i4 p hp).1.mono (by show _<=k+6 * (nL rs+1);lia),(i4 p hp).2⟩
  | of n q=>exact qG rs t k h h0 Vy hm h6
  | steps n us q=>exact qG rs t k h h0 Vy hm h6
  | len n q=>exact qG rs t k h h0 Vy hm h6
theorem Fx:∀ rs:Á Rw,(∀ r∈rs,∃ w,fB w r)->(∀ p∈ĺ rs,1<=p.2/\p.2<=1000)/\0<=jo rs/\jo rs<=1000 * rs.length/\((ĺ rs).length:Int)<=jo rs
 | [],_=>⟨λ p hp=>(nomatch hp),by decide,by decide,by decide⟩
 | r :: rs,h=>by
  obtain⟨i1,i2,i3,i4⟩:=Fx rs λ r hr=>h r (.tail _ hr)
  obtain⟨w,hw⟩:=h r (.head _)
  cases r with
  | len n k=>
   obtain⟨_,k1,k2⟩:=hw
   have e:jo (.len n k :: rs)=k+jo rs:=by simp[jo,ĺ]
   refine⟨λ p hp=>?_,by rw[e];lia,by rw[e,å];lia,?_⟩
   ·rcases Ò.mp (show p∈(n,k) :: ĺ rs from hp) with rfl|hp
    ·exact⟨k1,k2⟩
    ·exact i1 p hp
   ·rw[e];show(((ĺ rs).length+1:Nat):Int)<=_;lia
  | of n q=>exact⟨i1,i2,by rw[å];show jo rs<=_;lia,i4⟩
  | steps n us q=>exact⟨i1,i2,by rw[å];show jo rs<=_;lia,i4⟩
  | left n q=>exact⟨i1,i2,by rw[å];show jo rs<=_;lia,i4⟩
theorem qk (u:Int):∀ (rs:Á Rw) (t:Rat),(ã u rs).length+(Ł t rs).length+(ĺ rs).length=rs.length
 | [],_=>rfl
 | r :: rs,t=>by
  cases r with
  | left n q=>have:=qk u rs (t - t * q);simp only[ã,Ł,ĺ,å];lia
  | of n q=>have:=qk u rs t;simp only[ã,Ł,ĺ,å];lia
  | steps n us q=>have:=qk u rs t;simp only[ã,Ł,ĺ,å];lia
  | len n q=>have:=qk u rs t;simp only[ã,Ł,ĺ,å];lia
theorem O0 (D:Á (Str × Rat)) (n:Str)(q:Rat):(nE D n q).length<=D.length+1:=by
 have:=Ě cf (vN D n q)
 rw[Æ]at this
 rw[this]
 split<;>simp
theorem Dy (hb:b<=m):∀ (l D:Á (Str × Rat)) (i:Nat),(∀ p∈l,Sz b p.2)->(∀ k,Sz (i * (b+1)+1) ((ř D k).getD 0))->D.length<=i->i+l.length < 64->(i+l.length) * (b+1)+1<=m->Ia m D l
 | [],D,i,_,_,h3,h4,_=>by show D.length < 64;simp at h4;lia
 | (n,q) :: r,D,i,h1,h2,h3,h4,h5=>by
  have hq:=h1 (n,q) (.head _)
  rw[å]at h4 h5
  have h5':(i+1+r.length) * (b+1)+1<=m:=by rw[show i+1+r.length=i+(r.length+1) by lia];exact h5
  have e1:i * (b+1)+1<=m:=by
   have:=qb (b+1) (show i<=i+1+r.length by lia)
   lia
  have e2:(i+1) * (b+1)+1<=m:=by
   have:=qb (b+1) (show i+1<=i+1+r.length by lia)
   lia
  have e3:(i+1) * (b+1)+1=i * (b+1)+1+b+1:=by rw[Nat.add_mul];lia
  have s:=(h2 n).add hq
  refine⟨⟨by lia,(h2 n).mono e1,hq.mono hb,s.mono (by lia)⟩,Dy hb r _ (i+1) (λ p hp=>h1 p (.tail _ hp)) (λ k=>?_) (ā (O0 _ _ _) (by lia)) (by lia) h5'⟩
  rw[wB]
  split
  ·exact s.mono (by lia)
  ·exact(h2 k).mono (by lia)
structure ZQ (u:Int)(rs:Á Rw):Prop where
 a:M1 1000 u rs
 b:Ia 1000 [] (aA u rs)
 c:ZT 1000 u rs
 d:∀ p∈aA u rs,0<=p.2
theorem Good.Jk (g:Good rs)(u:Int):ZQ u rs:=by
 obtain⟨ga,gs,gl,gn⟩:=g
 have hw:=CF u rs ga
 have Y':=sP u rs
 have w1:∀ q∈(ã u rs).map (·.2),Sz 6 q:=λ q hq=>by
  obtain⟨p,hp,rfl⟩:=â.mp hq
  exact(hw p hp).1
 obtain⟨s1,s2⟩:=rm (b:=6) (m:=1000) ((ã u rs).map (·.2)) 0 1 (Zh (by lia)) w1 (by rw[Æ];lia) (by lia)
 rw[ah,Æ]at s2
 have w2:∀ q∈(1:Rat) :: (ã u rs).map (λ p=>-p.2),Sz 6 q:=λ q hq=>by
  rcases Ò.mp hq with rfl|hq
  ·exact sz1 (by lia)
  ·obtain⟨p,hp,rfl⟩:=â.mp hq
   exact(hw p hp).1.neg
 obtain⟨t1,t2⟩:=rm (b:=6) (m:=1000) ((1:Rat) :: (ã u rs).map (λ p=>-p.2)) 0 1 (Zh (by lia)) w2 (by simp;lia) (by lia)
 have er:Č ((1:Rat) :: (ã u rs).map (λ p=>-p.2))=Ť u rs:=by
  show 1+Č ((ã u rs).map λ p=>-p.2)=1 - Č ((ã u rs).map (·.2));rw[Cg];grind
 rw[ah,er]at t2
 have t3:Sz 64 (Ť u rs):=t2.mono (by simp;lia)
 have r0:0<=Ť u rs:=by have:=gs u;unfold Ť;grind
 obtain⟨l1,l2,l3,l4⟩:=qG (m:=1000) rs (Ť u rs) 64 t3 r0 ga (by lia) (by lia)
 obtain⟨n1,n2,n3,n4⟩:=Fx rs ga
 have hft:bu 13 (jo rs):=g9 n2 (by lia)
 have Ct:∀ p∈ĺ rs,0 < jo rs:=λ p hp=>by
  have:0 < (ĺ rs).length:=List.length_pos_of_mem hp
  lia
 have lq:∀ p∈ĺ rs,Sz 13 (Õ p.2 (jo rs)):=λ p hp=>by
  have:=Ct p hp
  exact yb (by lia) (g9 (by have:=(n1 p hp).1;lia) (by have:=(n1 p hp).2;lia)) hft
 have lok:EL 1000 (ŋ (Ť u rs) rs) rs:=⟨l2.mono (by lia),λ p hp=>by have:=Ct p hp;lia,hft.mono (by lia),λ p hp=>(lq p hp).mono (by lia)⟩
 have Z3:∀ p∈aA u rs,Sz 95 p.2/\0<=p.2:=λ p hp=>by
  unfold aA at hp
  rcases ê.mp hp with hp|hp
  ·rcases ê.mp hp with hp|hp
   ·exact⟨(hw p hp).1.mono (by lia),(hw p hp).2⟩
   ·exact⟨(l4 p hp).1.mono (by lia),(l4 p hp).2⟩
  ·unfold f_ at hp
   obtain⟨x,hx,rfl⟩:=â.mp hp
   exact⟨(l2.mul (lq x hx)).mono (by lia),kB l3 (jY (by have:=(n1 x hx).1;lia) (Ct x hx))⟩
 have Z1:(aA u rs).length<=8:=by
  have:=qk u rs (Ť u rs)
  unfold aA f_
  simp only[õ,Æ]
  lia
 have acf:(pos (aA u rs)).length<=8:=ā (bE _ _) Z1
 have z:∀ k,Sz (0 * (95+1)+1) ((ř [] k).getD 0):=λ k=>Zh (by lia)
 refine⟨⟨by lia,s1,s2.mono (by lia),l1,lok⟩,Dy (b:=95) (by lia) _ [] 0 (λ p hp=>(Z3 p hp).1) z (Î _) (by lia) (by lia),⟨by lia,t1,l1,lok,λ p hp=>g9 (by have:=(n1 p hp).1;lia) (Int.lt_of_le_of_lt (n1 p hp).2 (by decide +kernel)),hft.mono (by lia),Dy (b:=95) (by lia) _ [] 0 (λ p hp=>(Z3 p (aZ.mp hp).1).1) z (Î _) (by lia) (by lia),λ n us z hp=>?_⟩,λ p hp=>(Z3 p hp).2⟩
 obtain⟨w,hw⟩:=ga _ hp
 have:=hw.2.2.1
 lia
theorem TG:(en "int" "list"=false)/\(en "int" "tuple"=false)/\(en "int" "str"=false)/\(en "int" "int"=true)/\(en "int" "bool"=false)/\
  (en "str" "list"=false)/\(en "str" "tuple"=false)/\(en "str" "str"=true)/\
  (en "tuple" "list"=false)/\(en "tuple" "tuple"=true)/\(en "list" "list"=true)/\(en "list" "tuple"=false):=by
 refine⟨?_,?_,?_,?_,?_,?_,?_,?_,?_,?_,?_,?_⟩<;>decide +kernel
theorem NM (n:String)(i:Int)(s:S)(Q:AV->S->Prop):(aR n (.int i) s).wp Q=Q (.bl (en "int" n)) s:=rfl
theorem NN (n:String)(i:Str)(s:S)(Q:AV->S->Prop):(aR n (.str i) s).wp Q=Q (.bl (en "str" n)) s:=rfl
theorem NO (n:String)(i:Á AV)(s:S)(Q:AV->S->Prop):(aR n (.tup i) s).wp Q=Q (.bl (en "tuple" n)) s:=rfl
theorem Fj (h:û s i=À xs):aR n (.ref i) s=.ok (.bl (en "list" n)) s:=by
 have e:=ń h
 unfold aR
 rw[show cu (.ref i) s=À "list" by simp only[cu,e]];rfl
theorem Ge (b:Bool)(s:S):truth (.bl b) s=À b:=rfl
theorem QJ (a b:Bool)(s:S)(Q:AV->S->Prop):(aS (.bl a) (.bl b) s).wp Q=Q (.bl (!decide (a=b))) s:=rfl
theorem z_ (a b:Ev)(env:En)(s:S)(Q:Á AV × Gd->S->Prop):(HN a b env s).wp Q=(a env s).wp λ v s1=>(b env s1).wp λ w s2=>(need (EB v w s2) λ r=>.ok r s2).wp Q:=by
 unfold HN;rw[wp_bind];congr 1;funext v s1;rw[wp_bind]
theorem same_int (n:Nat)(i:Int)(s:S):ć (n+1) [.int i,.int i] s=.ok (.bl true) s:=by
 apply R.wp.eq
 unfold ć eW
 simp only[↓WS,↓WE,↓WV,Lq,î,UU,Ì,↓Û,kK,↓NM,TG,Ge,gH,nY]
theorem same_str (n:Nat)(i:Str)(s:S):ć (n+1) [.str i,.str i] s=.ok (.bl true) s:=by
 apply R.wp.eq
 unfold ć eW
 simp only[↓WS,↓WE,↓WV,Lq,î,UU,Ì,↓Û,kK,↓NN,TG,Ge,gH,nY]
theorem rC:∀ xs:Á AV,rq xs xs=xs.map λ x=>.tup [x,x]
 | []=>rfl
 | x :: r=>by have:=rC r;unfold rq at this ⊢;rw[Md,È,this];rfl
theorem y_:∀ n:Nat,pz (Ü n (.bl true))=À (Ü n true)
 | 0=>rfl
 | n+1=>by rw[ļ];show(pz (Ü n (.bl true))).map (true :: ·)=_;rw[y_ n];rfl
theorem yD (hg:k6 gs s)(h:∀ x∈xs,ć n [x,x] s=.ok (.bl true) s) (Q:Á AV->S->Prop)(k:∀ m,Q (Ü m (.bl true)) s) :
  (ů (gT 2 (Ù (gN 0) (Ù (gN 1) ę))) de (Ø 2 (ć n) (Ã (mv 0) (Ã (mv 1) Ð))) gs (rq xs xs) [none,none] s []).wp Q:=by
 rw[rC]
 refine eJ (λ ys þ env st=>st=s/\∃ r x y m,(∀ x∈r,x∈xs)/\ys=(r.map λ x=>AV.tup [x,x])/\env=[x,y]/\þ=Ü m (.bl true)) ?_ ?_ ?_ _ _ _ _ ⟨rfl,xs,none,none,0,λ _ h=>h,rfl,rfl,rfl⟩
 ·rintro _ _ _ st ⟨rfl,_⟩;exact hg
 ·rintro þ env st ⟨rfl,r,x,y,m,_,e,rfl,rfl⟩;exact k m
 ·rintro v r þ env st ⟨rfl,r',x,y,m,hr,e,rfl,rfl⟩
  cases r' with
  | nil=>cases e
  | cons p r'=>
   cases e
   simp only[↓WS,↓WE,↓WV,Lq,î,UU,Ì,↓Û,↓bj (h p (hr p (.head _)))]
   exact⟨r',_,_,m+1,λ x hx=>hr x (.tail _ hx),rfl,rfl,by rw[List.replicate_succ']⟩
theorem ET (m:Nat):(Ü m true).all id=true:=by
 rw[ü];intro b hb;rw[(sS.mp hb).2];rfl
theorem NY (xs:Á AV)(s:S):cZ [.tup xs] s=.ok (.int xs.length) s:=rfl
theorem B_ (hl:xs.length<=sizeLine)(h:∀ x∈xs,ć n [x,x] s=.ok (.bl true) s):ć (n+1) [.tup xs,.tup xs] s=.ok (.bl true) s:=by
 apply R.wp.eq
 unfold ć eW
 simp only[↓WS,↓WE,↓WV,Lq,î,UU,Ì,↓Û,kK,↓NO,TG,Ge,gH,nY,↓QJ,lW,↓bj (NY _ _),↓z_,EB,xr]
 refine⟨?_,?_⟩
 ·rw[rC,Æ];exact hl
 refine yD (by intro p hp;cases hp) h _ λ m=>?_
 unfold ug
 rw[y_]
 simp only[↓WS,↓WE,↓WV,Lq,î,UU,Ì,↓Û,ET]
theorem Ld (hl:xs.length<=sizeLine)(h1:û s i=À xs)(h2:û s j=À xs)(h:∀ x∈xs,ć n [x,x] s=.ok (.bl true) s):ć (n+1) [.ref i,.ref j] s=.ok (.bl true) s:=by
 apply R.wp.eq
 unfold ć eW
 simp only[↓WS,↓WE,↓WV,Lq,î,UU,Ì,↓Û,kK,↓bj (Fj h1),↓bj (Fj h2),TG,Ge,gH,nY,↓QJ,lW,↓bj (sC h1),↓bj (sC h2),↓z_,EB,xr,h1,h2,iO]
 refine⟨?_,?_⟩
 ·rw[rC,Æ];exact hl
 refine yD ?_ h _ λ m=>?_
 ·intro p hp
  simp only[aC,ľ,Ò,Ĉ,bz]at hp
  rcases hp with rfl|rfl
  ·exact h1
  ·exact h2
 unfold ug
 rw[y_]
 simp only[↓WS,↓WE,↓WV,Lq,î,UU,Ì,↓Û,ET]
theorem FQ (n:Nat)(q:Rat)(s:S):ć (n+2) [fq q,fq q] s=.ok (.bl true) s:=B_ (p7 (by show 2<=1000;lia)) λ x hx=>by
 simp only[Ò,Ĉ,bz]at hx
 rcases hx with rfl|rfl<;>exact same_int _ _ _
theorem O8 (n:Nat)(p:Str × Rat)(s:S):ć (n+3) [ŷ p,ŷ p] s=.ok (.bl true) s:=B_ (p7 (by show 2<=1000;lia)) λ x hx=>by
 simp only[Ò,Ĉ,bz]at hx
 rcases hx with rfl|rfl
 ·exact same_str _ _ _
 ·exact FQ _ _ _
theorem Le {l:Á (Str × Rat)}(hl:l.length<=999)(h1:û s i=À (l.map ŷ)) (h2:û s j=À (l.map ŷ)):ć 9 [.ref i,.ref j] s=.ok (.bl true) s:=Ld (p7 (by rw[Æ];lia)) h1 h2 λ x hx=>by
 obtain⟨p,_,rfl⟩:=â.mp hx
 exact O8 5 p s
theorem Fb:∀ (l D:Á (Str × Rat)),Ia m D l->(ï D l).length < 64
 | [],D,h=>h
 | (n,q) :: r,D,h=>Fb r _ h.2
def nk (s:S)(v:AV):Prop:=(∃ t,cu v s=À t)/\match v with
 | .int i=>bu 900 i
 | .str t=>t.cps.all (· < 128)=true/\t.length<=sizeLine
 | _=>True
def C3:Nat->S->AV->Prop
 | 0,s,v=>nk s v
 | n+1,s,v=>nk s v/\∀ xs,v=.tup xs->xs.length<=sizeLine/\∀ x∈xs,C3 n s x
theorem C3.leaf:∀ {n:Nat}{s:S}{v:AV},C3 n s v->nk s v
 | 0,_,_,h=>h
 | _+1,_,_,h=>h.1
def isNum:AV->Bool
 | .int _=>true
 | _=>false
def acd:AV->Bool
 | .tup [.int a,.int b]=>decide (1<=b) && decide (ig a b=1)
 | _=>false
def VH (c:Nat):Bool:=decide (97<=c) && decide (c<=122)
def isNm:AV->Bool
 | .str t=>(decide (1<=t.length) && decide (t.length<=8)) && t.cps.toList.all VH
 | _=>false
theorem zX (h:cu (.ref i) s=À t):t="list"∨t="dict":=by
 simp only[cu]at h
 split at h<;>first|(cases h;simp)|cases h
theorem DN (h:cu v s=À t):aR n v s=.ok (.bl (en t n)) s:=by unfold aR;rw[h];rfl
theorem JS (h:∃ t,cu v s=À t):mz (gR (aR "int") (mv 0)) (gR we (gR (aR "bool") (mv 0))) [À v] s=.ok (.bl (isNum v)) s:=by
 obtain⟨t,h⟩:=h
 show((aR "int" v s).bind λ v s1=>_)=_
 rw[DN h]
 show(match AV.bl (en t "int") with|.bl true=>((aR "bool" v s).bind λ w s2=>we w s2)|.bl false=>.ok (.bl false) s|_=>.bad)=_
 rw[DN h]
 cases v with
 | ref i=>rcases zX h with rfl|rfl<;>rfl
 | _=>cases h;rfl
theorem zw (h:∃ t,cu v s=À t):e8 [v] s=.ok (.bl (isNum v)) s:=by
 unfold e8 mU g_ ě
 show(match (mz (gR (aR "int") (mv 0)) (gR we (gR (aR "bool") (mv 0))) [À v] s).eX (λ v s1=>RS.rt v s1) with|.rt v s1=>R.ok v s1|.nx _ s1=>.ok .ĥ s1|.ex c s1=>.ex c s1|_=>.bad)=_
 rw[JS h];rfl
theorem comp_map {ŭ:Ev}{gs:Gd}{rest:En}(g:AV->AV)(hg:k6 gs s):∀ (xs þ:Á AV) (x:Í AV),(∀ v∈xs,ŭ (À v :: rest) s=.ok (g v) s)->ů (gN 0) de ŭ gs xs (x :: rest) s þ=.ok (þ++xs.map g) s
 | [],þ,x,_=>by unfold ů;rw[É hg];simp
 | v :: r,þ,x,h=>by
  unfold ů
  rw[É hg]
  show((ŭ (À v :: rest) s).calm.bind λ x s3=>ů (gN 0) de ŭ gs r (À v :: rest) s3 (þ++[x]))=_
  rw[h v (.head _)]
  show ů (gN 0) de ŭ gs r (À v :: rest) s (þ++[g v])=_
  rw[comp_map g hg r _ _ λ w hw=>h w (.tail _ hw)]
  simp
theorem u6 (f:AV->Bool):∀ xs:Á AV,pz (xs.map λ v=>.bl (f v))=À (xs.map f)
 | []=>rfl
 | v :: r=>by simp only[È,pz,u6 f r];rfl
theorem all_map {l:Lc}{src:Src}{ŭ:Ev}{env:En}{xs:Á AV}{gs:Gd}{rest:En}(f:AV->Bool)(e1:src env s=.ok (xs,gs) s) (hl:xs.length<=sizeLine)(hg:k6 gs s)(e2:lS l env=none :: rest)(h:∀ v∈xs,ŭ (À v :: rest) s=.ok (.bl (f v)) s) :
  mI ug (Œ l src (gN 0) de ŭ) env s=.ok (.bl (xs.all f)) s:=by
 unfold mI Œ
 rw[e1,bI,É hl,e2,comp_map (λ v=>.bl (f v)) hg xs [] none h]
 show(need (pz (xs.map λ v=>.bl (f v))) λ ns=>R.ok (AV.bl (ns.all id)) s)=_
 rw[u6]
 show R.ok (AV.bl ((xs.map f).all id)) s=_
 rw[nW];rfl
theorem ð (a:α)(s:S)(f:α->S->R β):(R.ok a s).bind f=f a s:=rfl
theorem bM (s:S):k6 [] s:=λ p hp=>nomatch hp
theorem W2 (h:c env s=.ok x s)(k:x=false->b env s=.rt v s):ì (eL c (ě (mc (.bl false))) Ľ) b env s=.rt (if x=true then .bl false else v) s:=by
 unfold ì eL
 rw[h]
 cases x with
 | true=>rfl
 | false=>exact k rfl
theorem QL (h:c env s=.ok x s)(k:x=false->d env s=.ok y s):rG c d env s=.ok (x || y) s:=by
 unfold rG
 rw[h]
 cases x with
 | true=>rfl
 | false=>exact k rfl
theorem bA (h:c env s=.ok x s):dO c env s=.ok (!x) s:=by unfold dO;rw[h];rfl
theorem jl (h:m env s=.ok (.bl x) s):cT m env s=.ok x s:=by unfold cT;rw[h];rfl
theorem r6 (h:m env s=.ok (.bl x) s):cB m env s=.ok x s:=by unfold cB;rw[h];rfl
theorem lP (h:m env s=.ok v s):ě m env s=.rt v s:=by unfold ě;rw[h];rfl
theorem rZ (h:a env s=.ok (.bl x) s) (k:x=true->b env s=.ok (.bl y) s):mz a b env s=.ok (.bl (x && y)) s:=by
 unfold mz
 rw[h]
 cases x with
 | false=>rfl
 | true=>exact k rfl
theorem qp (h:m env s=.ok v s)(k:F [v] s=.ok w s):Ø 1 F (Ã m Ð) env s=.ok w s:=by
 unfold Ø Ã Ð
 rw[h]
 exact k
theorem call2 (h:m env s=.ok v s)(h2:m2 env s=.ok v2 s)(k:F [v,v2] s=.ok w s):Ø 2 F (Ã m (Ã m2 Ð)) env s=.ok w s:=by
 unfold Ø Ã Ð
 rw[h,ð,h2]
 exact k
theorem Yz (h:m env s=.ok v s)(k:op v s=.ok w s):gR op m env s=.ok w s:=by unfold gR;rw[h];exact k
theorem af (h:m env s=.ok v s)(h2:m2 env s=.ok v2 s)(k:op v v2 s=.ok w s):Ö op m m2 env s=.ok w s:=by unfold Ö;rw[h,ð,h2];exact k
theorem wb (h:m env s=.ok v s)(k:op [v] s=.ok w s):kl op (Ã m Ð) env s=.ok w s:=by unfold kl Ã Ð;rw[h];exact k
theorem fh (h:b (args.map À++Ü (n - args.length) none) s=.rt v s):g_ n b args s=.ok v s:=by unfold g_;rw[h]
theorem u9 (h1:a env s=.ok v s)(h2:b env s=.ok w s)(h3:o v w s=.ok (.bl x) s) (h4:c env s=.ok z s)(h5:o' w z s=.ok (.bl y) s):aU o o' a b c env s=.ok (.bl (x && y)) s:=by
 unfold aU
 rw[h1,ð,h2,ð,h3,ð]
 cases x with
 | false=>rfl
 | true=>show((c env s).bind λ z s4=>o' w z s4)=_;rw[h4];exact h5
theorem SV:cZ [.tup xs] s=.ok (.int xs.length) s:=rfl
def bX (n:String):AV->S->Bool:=λ v s=>match cu v s with
 | some t=>en t n
 | none=>false
theorem JR (h:∃ t,cu v s=À t)(e:m env s=.ok v s):gR (aR n) m env s=.ok (.bl (bX n v s)) s:=by
 obtain⟨t,h⟩:=h
 refine Yz e ?_
 unfold bX
 rw[DN h,h]
theorem Ey (h:bX "tuple" v s=true):∃ xs,v=.tup xs:=by
 cases v with
 | tup xs=>exact⟨xs,rfl⟩
 | ref i=>
  unfold bX at h
  split at h
  ·rename_i t e;rcases zX e with rfl|rfl<;>exact absurd h (by decide)
  ·cases h
 | _=>exact absurd h (by unfold bX;simp only[cu];decide)
theorem ty_str (h:bX "str" v s=true):∃ xs,v=.str xs:=by
 cases v with
 | str xs=>exact⟨xs,rfl⟩
 | ref i=>
  unfold bX at h
  split at h
  ·rename_i t e;rcases zX e with rfl|rfl<;>exact absurd h (by decide)
  ·cases h
 | _=>exact absurd h (by unfold bX;simp only[cu];decide)
theorem zZ (xs:Á AV)(s:S):bX "tuple" (.tup xs) s=true:=by unfold bX;simp only[cu];decide
theorem PH (xs:Str)(s:S):bX "str" (.str xs) s=true:=by unfold bX;simp only[cu];decide
def isTup (n:Int):AV->Bool
 | .tup xs=>decide ((xs.length:Int)=n)
 | _=>false
theorem G':(bX "tuple" v s && isTup n v)=isTup n v:=by
 cases h:bX "tuple" v s with
 | true=>simp
 | false=>
  cases v with
  | tup xs=>rw[zZ]at h;cases h
  | _=>rfl
theorem hU (h:∃ t,cu v s=À t):ź [v,.int n] s=.ok (.bl (isTup n v)) s:=by
 rw[<-G' (s:=s)]
 refine fh (lP (rZ (JR h rfl) λ h1=>?_))
 obtain⟨xs,rfl⟩:=Ey h1
 exact af (wb rfl SV) rfl rfl
theorem QS (a c:Nat):(!decide ([c] < [a]))=decide (a<=c):=by
 have:([c] < [a]) ↔ c < a:=by
  rw[List.cons_lt_cons_iff];simp
 by_cases h:c < a
 ·simp[this,h]
 ·simp[this,h];lia
def smV:AV->Bool
 | .str u=>u.cps.toList.all VH
 | _=>false
theorem FX (c:Nat):smV (sgn c)=VH c:=by unfold smV sgn;simp
theorem SW (h:t.length<=sizeLine):cZ [.str t] s=.ok (.int t.length) s:=É h
theorem Xb (e:m env s=.ok (.str t) s) (h:t.length<=sizeLine):aU j_ j_ (mc (.int 1)) (kl cZ (Ã m Ð)) (mc (.int 8)) env s=.ok (.bl (decide (1<=t.length) && decide (t.length<=8))) s:=by
 rw[u9 (x:=decide ((1:Int)<=t.length)) (y:=decide ((t.length:Int)<=8)) rfl (wb e (SW h)) rfl rfl rfl]
 congr 3
 ·simp;lia
 ·simp;lia
theorem Pl (e:m env s=.ok (.str t) s) (h:t.cps.all (· < 128)=true):HM m env s=.ok (t.cps.toList.map sgn,[]) s:=by
 unfold HM
 rw[e]
 exact É h
theorem We (c:Nat)(s:S):aU nB nB (mc (.str "a")) (mv 0) (mc (.str "z")) [À (sgn c)] s=.ok (.bl (VH c)) s:=by
 have e1:("a":Str).cps.toList=[97]:=by decide +kernel
 have e2:("z":Str).cps.toList=[122]:=by decide +kernel
 show(match AV.bl (!decide ([c] < ("a":Str).cps.toList)) with|.bl true=>R.ok (AV.bl (!decide (("z":Str).cps.toList < [c]))) s|.bl false=>.ok (.bl false) s|_=>.bad)=_
 rw[e1,e2,QS,QS]
 unfold VH
 by_cases h:97<=c
 ·simp[h]
 ·simp[h]
theorem Lj (e:m env s=.ok (.str t) s) (e2:lS l env=[none])(h:t.cps.all (· < 128)=true) (hl:t.length<=sizeLine) :
  mI ug (Œ l (HM m) (gN 0) de (aU nB nB (mc (.str "a")) (mv 0) (mc (.str "z")))) env s=.ok (.bl (t.cps.toList.all VH)) s:=by
 rw[all_map smV (Pl e h) (by rw[Æ];exact hl) (bM s) e2 λ v hv=>?_]
 ·rw[nW]
  congr 2
  congr 1
  funext c
  exact FX c
 ·obtain⟨c,_,rfl⟩:=â.mp hv
  rw[We,FX]
theorem sj (h:c env s=.ok true s):ì (eL c (ě (mc (.bl false))) Ľ) b env s=.rt (.bl false) s:=by
 unfold ì eL
 rw[h];rfl
theorem xj (h:c env s=.ok false s)(k:b env s=r):ì (eL c (ě (mc (.bl false))) Ľ) b env s=r:=by
 unfold ì eL
 rw[h];exact k
theorem Oy (h:c env s=.ok true s):rG c d env s=.ok true s:=by unfold rG;rw[h];rfl
theorem wg (h:c env s=.ok false s)(k:d env s=r):rG c d env s=r:=by unfold rG;rw[h];exact k
theorem yj (h:∃ t,cu v s=À t)(e:m env s=.ok v s)(k:bX n v s=b):gR (aR n) m env s=.ok (.bl b) s:=k ▸ JR h e
theorem NI (h:bX "str" v s=false):isNm v=false:=by
 cases v with
 | str xs=>rw[PH]at h;cases h
 | _=>rfl
theorem DL (h:nk s v):iQ [v] s=.ok (.bl (isNm v)) s:=by
 obtain⟨ht,h⟩:=h
 cases hs:bX "str" v s with
 | true=>
  obtain⟨t,rfl⟩:=ty_str hs
  refine(fh (W2 (QL (bA (jl (yj ht rfl hs))) λ _=>bA (r6 (Xb rfl h.2))) λ _=>lP (Lj rfl rfl h.1 h.2))).trans ?_
  unfold isNm
  dsimp only
  cases (decide (1<=t.length) && decide (t.length<=8))<;>rfl
 | false=>
  rw[NI hs]
  exact fh (sj (Oy (bA (x:=false) (jl (yj ht rfl hs)))))
theorem G9 (h:isNum v=true):∃ i,v=.int i:=by
 cases v with
 | int i=>exact⟨i,rfl⟩
 | _=>cases h
theorem two_of (h:isTup 2 (.tup xs)=true):∃ a b,xs=[a,b]:=by
 have h:((xs.length:Int))=2:=by simpa[isTup]using h
 match xs,h with
 | [a,b],_=>exact⟨a,b,rfl⟩
 | [],h=>simp at h
 | [a],h=>simp at h
 | a :: b :: c :: r,h=>simp at h;lia
theorem Et (h:isTup n v=true):∃ xs,v=.tup xs:=by
 cases v with
 | tup xs=>exact⟨xs,rfl⟩
 | _=>cases h
theorem Sy (hj:1<=j):ig i j=1 ↔ í i j=1:=by
 show((í i j:Nat):Int)=1 ↔ _
 lia
theorem Dv (s:S)(a b c d:Int):cz (.tup [.int a,.int b]) (.tup [.int c,.int d]) s=.ok (.bl (decide (a=c) && decide (b=d))) s:=by
 unfold cz oC
 simp only
 have e:∀ x y:Int,toD 20 s (.tup [.int x,.int y])=À (.tup [.int x,.int y]):=λ x y=>by simp[toD]
 rw[e,e]
 dsimp only
 rw[É (show g6 [Dt.int a,Dt.int b]<=20 by simp[g6,Dt.dep])]
 simp only[g7,cS,ď]
 by_cases h1:a=c<;>by_cases h2:b=d<;>simp[h1,h2]
theorem jx {test:Eb}{gs:Gd}{rest:En}{s:S}(f:AV->Bool)(hg:k6 gs s):∀ (xs þ:Á AV) (x:Í AV),(∀ v∈xs,test (À v :: rest) s=.ok (f v) s)->ů (gN 0) test (mv 0) gs xs (x :: rest) s þ=.ok (þ++xs.filter f) s
 | [],þ,x,_=>by unfold ů;rw[É hg];simp
 | v :: r,þ,x,h=>by
  unfold ů
  rw[É hg]
  show((test (À v :: rest) s).calm.bind λ b s2=>if b=true then ((mv 0 (À v :: rest) s2).calm.bind λ x s3=>ů (gN 0) test (mv 0) gs r (À v :: rest) s3 (þ++[x])) else ů (gN 0) test (mv 0) gs r (À v :: rest) s2 þ)=_
  rw[h v (.head _)]
  show(if f v=true then ů (gN 0) test (mv 0) gs r (À v :: rest) s (þ++[v]) else ů (gN 0) test (mv 0) gs r (À v :: rest) s þ)=_
  rw[jx f hg r _ _ λ w hw=>h w (.tail _ hw),jx f hg r _ _ λ w hw=>h w (.tail _ hw)]
  cases hv:f v<;>simp[hv]
theorem ű (s:S)(xs:Á AV):û (s++[.lst xs]) s.length=À xs:=og (by simp)
theorem jF {s e:S}{i:Nat}{xs:Á AV}(h:û s i=À xs):û (s++e) i=À xs:=by
 refine og ?_
 have:=ń h
 rw[é (Ë.mp this).1]
 exact this
theorem pV (h:r env s=.ok vs s)(hl:vs.length<=1000):Ō r env s=.ok (.tup vs) s:=by
 unfold Ō
 rw[h,ð,É (Ŀ (Ş hl))]
theorem vJ (s:S)(h:Sz 901 p)(k:Sz 901 q):gp [fq p,fq q] s=.ok (.bl (decide (p.num * q.den < q.num * p.den))) s:=
 fh (lP (af (af rfl rfl (Ke (ae h.a (by decide)) (ae k.b (by decide)))) (af rfl rfl (Ke (ae k.a (by decide)) (ae h.b (by decide)))) rfl))
theorem Py (h:cu v s=À t):cu v (s++z)=À t:=by
 cases v with
 | ref i=>
  simp only[cu]at h ⊢
  cases e:s[i]? with
  | none=>rw[e]at h;cases h
  | some o=>rw[é (Ë.mp e).1,e];rw[e]at h;exact h
 | _=>exact h
theorem xV (g:AV->AV->AV)(hg:k6 gs s):∀ (xs:Á (AV × AV)) (þ:Á AV) (x y:Í AV),(∀ p∈xs,ŭ [À p.1,À p.2] s=.ok (g p.1 p.2) s)->ů (gT 2 (Ù (gN 0) (Ù (gN 1) ę))) de ŭ gs (xs.map λ p=>.tup [p.1,p.2]) [x,y] s þ=.ok (þ++xs.map λ p=>g p.1 p.2) s
 | [],þ,x,y,_=>by unfold ů;simp only[aE];rw[É hg];simp
 | p :: r,þ,x,y,h=>by
  simp only[È]
  unfold ů
  rw[É hg]
  show((ŭ [À p.1,À p.2] s).calm.bind λ x s3=>ů (gT 2 (Ù (gN 0) (Ù (gN 1) ę))) de ŭ gs (r.map λ p=>.tup [p.1,p.2]) [À p.1,À p.2] s3 (þ++[x]))=_
  rw[h p (.head _)]
  show ů (gT 2 (Ù (gN 0) (Ù (gN 1) ę))) de ŭ gs (r.map λ p=>.tup [p.1,p.2]) [À p.1,À p.2] s (þ++[g p.1 p.2])=_
  rw[xV g hg r _ _ _ λ w hw=>h w (.tail _ hw)]
  simp
theorem pO (h:L env s=.ok xs s):Ę L env s=.ok (.ref s.length) (s++[.lst xs]):=by unfold Ę;rw[h];rfl
theorem QK (a1:A env s=.ok v1 s1)(a2:B env s1=.ok v2 s2)(a3:aS v1 v2 s2=.ok (.bl b) s2) (t:s2.take s.length=s):zl (cB (Ö aS A B)) env s=.ok b s:=by
 unfold zl cB Ö
 rw[a1,ð,a2,ð,a3,ð,ð,É t]
def qOf:AV->Rat
 | .tup [.int a,.int b]=>Õ a b
 | _=>0
def XA:AV->Int
 | .int i=>i
 | _=>0
theorem Wu (h:(b (À v :: À w :: Ü (n - 2) none) s).wp (λ _ s1=>Q .ĥ s1) Q):(g_ n b [v,w] s).wp Q:=by rw[WS.2.2.2.2.2.2.2.2.2.2.2.2.2.2.2.2.1];exact h
theorem R5 (q:Rat):(.tup [.int (-q.num),.int q.den]:AV)=fq (-q):=rfl
def Ap (t:Str)(n:Nat):Prop:=(∀ c∈t.cps.toList,c < 128)/\t.length<=n
theorem Ap.all (h:Ap t n):t.cps.all (· < 128)=true:=by
 rw[Array.all_eq_true']
 intro c hc
 exact ø (h.1 c (oZ.mpr hc))
theorem Ap.mono (h:Ap t n)(k:n<=m):Ap t m:=⟨h.1,ā h.2 k⟩
theorem Ap.small (h:Ap t n)(k:n<=1000):t.length<=sizeLine:=Ŀ (Ş (ā h.2 k))
theorem Wt (h:(b (À v :: Ü (n - 1) none) s).wp (λ _ s1=>Q .ĥ s1) Q):(g_ n b [v] s).wp Q:=by rw[WS.2.2.2.2.2.2.2.2.2.2.2.2.2.2.2.1];exact h
theorem add_str (h:t.length+u.length<=1000):aj (.str t) (.str u) s=.ok (.str (t++u)) s:=É (Ŀ (Ş h))
theorem vz (h:m env s=.ok v (s++z)) (l:v.low s.length=true):pD m env s=.ok v s:=by
 unfold pD
 rw[h,ð,É ⟨by rw[Ő] ;rfl,l⟩]
theorem UH (D:Dr c d n s)(D':Dr c d m s')(G:Gk c d s s')(h:cu v s=À t):cu v s'=À t:=by
 cases v with
 | ref i=>
  obtain⟨⟨t1,cells,h1,h2,_⟩,_⟩:=D
  obtain⟨⟨t1',Z9,Mu,Jw,_⟩,_⟩:=D'
  simp only[cu]at h ⊢
  by_cases e1:i=c
  ·subst e1;rw[h2]at h;rw[Jw];exact h
  by_cases e2:i=d
  ·subst e2;rw[h1]at h;rw[Mu];exact h
  cases e:s[i]? with
  | none=>rw[e]at h;cases h
  | some o=>rw[G.get i (Ë.mp e).1 e1 e2,e];rw[e]at h;exact h
 | _=>exact h
theorem Fw (D:Dr c d n s)(D':Dr c d m s')(G:Gk c d s s')(h:nk s v):nk s' v:=by
 obtain⟨⟨t,ht⟩,h⟩:=h
 exact⟨⟨t,UH D D' G ht⟩,h⟩
theorem Kq (D:Dr c d n s)(D':Dr c d m s')(G:Gk c d s s'):∀ {k:Nat}{v:AV},C3 k s v->C3 k s' v
 | 0,_,h=>Fw D D' G h
 | k+1,v,h=>⟨Fw D D' G h.1,λ xs e=>⟨(h.2 xs e).1,λ x hx=>Kq D D' G ((h.2 xs e).2 x hx)⟩⟩
structure Th (s:S)(v:AV):Prop where
 ok:C3 1 s v
 dp:Wm v<=3
 lw:v.low s.length=true
theorem Th.gk (D:Dr c d n s)(D':Dr c d m s')(G:Gk c d s s')(h:Th s v):Th s' v:=⟨Kq D D' G h.ok,h.dp,AV.low.mono G.len h.lw⟩
theorem push (D:Dr c d n st)(h:∀ x∈xs,Th st x):Dr c d n (st++[.lst xs])/\Gk c d st (st++[.lst xs])/\∀ x,Th st x->Th (st++[.lst xs]) x:=by
 have lw:∀ l:Á AV,(∀ x∈l,Th st x)->ķ st.length l=true:=by
  intro l
  induction l with
  | nil=>intro _;simp[ķ]
  | cons a r ih=>intro h;simp only[ķ,(h a (.head _)).lw,ih λ x hx=>h x (.tail _ hx)];rfl
 have D':=D.app (e:=[.lst xs]) (D.cl.add (by simp only[Ĩ,jq,dm];exact ķ.mono (by simp) (lw xs h)))
 exact⟨D',Gk.app c d st _,λ x hx=>hx.gk D D' (Gk.app c d st _)⟩
theorem vm:∀ (l:Á α)(m:Nat)(h:m < l.length),(l[m] :: l.eraseIdx m).Perm l
 | [],_,h=>absurd h (by simp)
 | _ :: _,0,_=>uR _
 | a :: r,m+1,h=>((List.Perm.swap ..).trans (mM a (vm r m (by simpa using h))):(r[m]'(by simpa using h) :: a :: r.eraseIdx m).Perm (a :: r))
theorem Km:([]++zE).Nodup:=by decide +kernel
theorem names4 (D:Dr c d n s)(hn:n<=900000000)(k0:0<=k)(k1:k<=20):(dF [.ref d,.int k] s).wp λ v s'=>∃ (j:Nat) (zs:Á Str),v=.ref j/\s.length<=j/\û s' j=À (zs.map AV.str)/\(zs.length:Int)=k/\(∀ z∈zs,z∈zE)/\zs.Nodup/\Dr c d (n+20) s'/\Gk c d s s':=by
 have lc:=D.BD
 have ld:=D.BE
 unfold dF lr
 simp only[↓WS,↓WE,↓WV,Lq,î,UU,Ì,↓Û,↓uP,↓bj (Pk _),show ∀ s:S,(Mm.bX "str" (.str "b aa zebra c quartzes ab m knows d mm likes z ba abcdefgh y zz e x f g hh jj kk pave") s).isSome=true from λ _=>rfl]
 refine⟨⟨by lia,by lia⟩,p7 (by simp[jj];lia),?_⟩
 refine eJ (λ xs þ env st=>∃ (ys zs:Á Str) (x:Í AV),þ=zs.map AV.str/\û st s.length=À (ys.map AV.str)/\(xs.length:Int)+zs.length=k/\ys.length+zs.length=24/\(∀ z∈ys,z∈zE)/\(∀ z∈zs,z∈zE)/\(zs++ys).Nodup/\env=[x,À (.ref s.length),À (.ref d)]/\Dr c d (n+zs.length) st/\Gk c d s st) ?_ ?_ ?_ _ _ _ _ ⟨zE,[],none,rfl,ŕ _ _,by simp[jj];lia,by rw[Kl];rfl,λ _ h=>h,(λ _ h=>nomatch h),Km,rfl,D.app (D.cl.add (by simp[AO.low,hV])),Gk.app c d s _⟩
 ·rintro _ _ _ st _ p hp;cases hp
 ·rintro þ env st ⟨ys,zs,x,rfl,l1,l2,l3,m1,m2,nd,rfl,D1,G1⟩
  refine⟨st.length,zs,rfl,G1.len,ŕ _ _,by simpa using l2,m2,(gI.mp nd).1,?_,G1.trans (Gk.app c d st _)⟩
  have l2:((0:Nat):Int)+zs.length=k:=l2
  exact(D1.app (D1.cl.add (by simp[AO.low,hV]))).mono (by lia)
 ·rintro v r þ env st ⟨ys,zs,x,rfl,l1,l2,l3,m1,m2,nd,rfl,D1,G1⟩
  have l2:((r.length+1:Nat):Int)+zs.length=k:=l2
  simp only[↓WS,↓WE,↓WV,Lq,î,UU,Ì,↓Û,sv l1,↓bj (sC l1),Æ]
  refine(take1 D1).mono ?_
  rintro _ s1 ⟨j,rfl,j0,j1,D2,K2⟩
  have l4:=K2.gk.lst (n:=0) (by lia) (by lia) l1
  obtain⟨m,rfl⟩:∃ m:Nat,j=m:=⟨j.toNat,by lia⟩
  have hm:m < ys.length:=by lia
  have ep:tq (.ref s.length) [.int m] s1=.ok (.str ys[m]) (s1.set s.length (.lst ((ys.eraseIdx m).map AV.str))):=by
   show(need (û s1 s.length) λ xs=>if 0<=(m:Int)/\(m:Int) < xs.length then need xs[(m:Int).toNat]? λ y=>R.ok y (s1.set s.length (.lst (xs.eraseIdx (m:Int).toNat))) else .bad)=_
   rw[l4,ď,É ⟨by lia,by rw[Æ];lia⟩]
   show(need (ys.map AV.str)[m]? λ y=>R.ok y (s1.set s.length (.lst ((ys.map AV.str).eraseIdx m))))=_
   rw[ò,Ñ hm]
   show R.ok (AV.str ys[m]) _=_
   rw[Dw]
  rw[bj ep]
  refine⟨ys.eraseIdx m,zs++[ys[m]],_,by simp,qJ l4,by simp;lia,?_,λ z hz=>m1 z (List.mem_of_mem_eraseIdx hz),λ z hz=>?_,?_,rfl,?_,(G1.trans K2.gk).set (Î _)⟩
  ·rw[dR hm];simp;lia
  ·rcases ê.mp hz with hz|hz
   ·exact m2 z hz
   ·rw[ñ.mp hz];exact m1 _ (cH hm)
  ·rw[æ]
   refine(Ad zs ?_).nodup nd
   exact(vm ys m hm).symm
  ·exact(D2.mono (by simp;lia)).set (by lia) (by lia) (hV _ _)
theorem zF:∀ z∈zE,isNm (.str z)=true/\(z.cps.toList.all λ c=>decide (c < 128))=true/\z.length<=8:=by decide +kernel
theorem Kk (h:z∈zE):Ap z 8:=⟨λ c hc=>Ė (ü.mp (zF z h).2.1 c hc),(zF z h).2.2⟩
def dQ (a b:Int):AV->Bool
 | .int i=>decide (a<=i) && decide (i<=b)
 | _=>false
theorem DH (a b:Int)(v:AV):(isNum v && dQ a b v)=dQ a b v:=by cases v<;>rfl
theorem EX (h:m env s=.ok v s)(h2:m2 env s=.ok v2 s)(h3:m3 env s=.ok v3 s)(k:F [v,v2,v3] s=.ok w s):Ø 3 F (Ã m (Ã m2 (Ã m3 Ð))) env s=.ok w s:=by
 unfold Ø Ã Ð
 rw[h,ð,h2,ð,h3]
 exact k
theorem RB (h:isNum v=true):aU j_ j_ (mv 1) (mv 0) (mv 2) [À v,À (.int a),À (.int b)] s=.ok (.bl (dQ a b v)) s:=by
 obtain⟨i,rfl⟩:=G9 h
 exact u9 (x:=decide (a<=i)) (y:=decide (i<=b)) rfl rfl rfl rfl rfl
theorem uH (h:∃ t,cu v s=À t):ĩ [v,.int a,.int b] s=.ok (.bl (dQ a b v)) s:=by
 rw[<-DH]
 exact fh (lP (rZ (qp rfl (zw h)) λ hn=>RB hn))
def qB:AV->Bool
 | .tup [.int t,.int b]=>(decide (1<=b) && decide (b<=60)) && (decide (1<=t) && decide (t<=b)) && decide (ig t b=1)
 | _=>false
theorem zu (t b:Int):qB (.tup [.int t,.int b])=((decide (1<=b) && decide (b<=60)) && (decide (1<=t) && decide (t<=b)) && decide (ig t b=1)):=rfl
theorem NJ (h:isTup 2 v=false):qB v=false:=by
 unfold qB
 split
 ·exact absurd h (by simp[isTup])
 ·rfl
theorem vH (h:isNum v=false∨isNum w=false):qB (.tup [v,w])=false:=by
 unfold qB
 split
 ·rename_i e;cases e;rcases h with h|h<;>cases h
 ·rfl
theorem yz (h:C3 1 s v):e_ [v] s=.ok (.bl (qB v)) s:=by
 have ht:=h.leaf.1
 cases hs:isTup 2 v with
 | false=>
  rw[NJ hs]
  exact fh (sj (bA (x:=false) (jl (call2 rfl rfl (hs ▸ hU ht)))))
 | true=>
  obtain⟨xs,rfl⟩:=Et hs
  obtain⟨a,b,rfl⟩:=two_of hs
  obtain⟨_,h2⟩:=h.2 _ rfl
  have h1:=(h2 a (by simp)).leaf.1
  have h3:=(h2 b (by simp)).leaf.1
  refine fh (xj (bA (x:=true) (jl (call2 rfl rfl (hs ▸ hU ht)))) ?_)
  let E:En:=[À (.tup [a,b]),À a,À b]
  show ì _ _ E s=_
  have k1:dO (cT (Ø 3 ĩ (Ã (mv 2) (Ã (mc (.int 1)) (Ã (mc gw) Ð))))) E s=.ok (!dQ 1 60 b) s:=bA (jl (EX rfl rfl rfl (uH h3)))
  cases f1:dQ 1 60 b with
  | false=>
   rw[f1]at k1
   rw[show qB (.tup [a,b])=false from ?_]
   ·exact sj (Oy k1)
   ·cases b with
    | int j=>cases a with
     | int i=>rw[zu,show(decide (1<=j) && decide (j<=60))=false from f1];rfl
     | _=>exact vH (.inl rfl)
    | _=>exact vH (.inr rfl)
  | true=>
   rw[f1]at k1
   obtain⟨j,rfl⟩:∃ j,b=.int j:=by cases b with|int j=>exact⟨j,rfl⟩|_=>cases f1
   have k2:dO (cT (Ø 3 ĩ (Ã (mv 1) (Ã (mc (.int 1)) (Ã (mv 2) Ð))))) E s=.ok (!dQ 1 j a) s:=bA (jl (EX rfl rfl rfl (uH h1)))
   cases f2:dQ 1 j a with
   | false=>
    rw[f2]at k2
    rw[show qB (.tup [a,.int j])=false from ?_]
    ·exact sj (wg k1 k2)
    ·cases a with
     | int i=>rw[zu,show(decide (1<=i) && decide (i<=j))=false from f2,Ab];rfl
     | _=>exact vH (.inl rfl)
   | true=>
    rw[f2]at k2
    obtain⟨i,rfl⟩:∃ i,a=.int i:=by cases a with|int i=>exact⟨i,rfl⟩|_=>cases f2
    refine(xj (wg k1 k2) (lP (af (call2 rfl rfl (zm i j s)) rfl rfl))).trans ?_
    rw[zu,show(decide (1<=j) && decide (j<=60))=true from f1,show(decide (1<=i) && decide (i<=j))=true from f2];rfl
def lT:Int->Á AV->Bool
 | _,[]=>true
 | l,u :: r=>dQ l 1000000 u && lT (XA u+1) r
abbrev EU:Ms:=(ì (eL (dO (cT (Ø 3 ĩ (Ã (mv 2) (Ã (mv 1) (Ã (mc eK) Ð)))))) (ě (mc (.bl false))) Ľ) (Ī 1 (Ö aj (mv 2) (mc (.int 1)))))
theorem Gi (hg:k6 gs s):∀ (us:Á AV) (l:Int) (x:Í AV),(∀ u∈us,∃ t,cu u s=À t)->(lT l us=true->∃ e,forL (gN 2) EU gs us [x0,À (.int l),x] s=.nx e s)/\(lT l us=false->forL (gN 2) EU gs us [x0,À (.int l),x] s=.rt (.bl false) s)
 | [],l,x,_=>⟨λ _=>⟨_,by rw[forL,É hg]⟩,λ h=>by cases h⟩
 | u :: r,l,x,h=>by
  have hu:=h u (.head _)
  have k1:dO (cT (Ø 3 ĩ (Ã (mv 2) (Ã (mv 1) (Ã (mc eK) Ð))))) [x0,À (.int l),À u] s=.ok (!dQ l 1000000 u) s:=bA (jl (EX rfl rfl rfl (uH hu)))
  rw[forL,É hg]
  show(lT l (u :: r)=true->∃ e,(match EU [x0,À (.int l),À u] s with
   | .nx e2 s2=>forL (gN 2) EU gs r e2 s2|.ct e2 s2=>forL (gN 2) EU gs r e2 s2|.bk e2 s2=>.nx e2 s2|q=>q)=.nx e s)/\(_->(match EU [x0,À (.int l),À u] s with
   | .nx e2 s2=>forL (gN 2) EU gs r e2 s2|.ct e2 s2=>forL (gN 2) EU gs r e2 s2|.bk e2 s2=>.nx e2 s2|q=>q)=.rt (.bl false) s)
  cases f:dQ l 1000000 u with
  | false=>
   rw[f]at k1
   have:EU [x0,À (.int l),À u] s=.rt (.bl false) s:=sj k1
   rw[this]
   exact⟨(λ h=>by unfold lT at h;rw[f]at h;cases h),λ _=>rfl⟩
  | true=>
   rw[f]at k1
   obtain⟨i,rfl⟩:∃ i,u=.int i:=by cases u with|int i=>exact⟨i,rfl⟩|_=>cases f
   have:EU [x0,À (.int l),À (.int i)] s=.nx [x0,À (.int (i+1)),À (.int i)] s:=by
    unfold EU ì eL
    rw[k1];rfl
   rw[this]
   have ih:=Gi (x0:=x0) hg r (i+1) (À (.int i)) λ v hv=>h v (.tail _ hv)
   refine⟨λ h=>ih.1 ?_,λ h=>ih.2 ?_⟩
   ·unfold lT at h;rw[f]at h;exact h
   ·unfold lT at h;rw[f]at h;exact h
theorem Ez (l:û s i=À us)(h:∀ u∈us,∃ t,cu u s=À t):e7 [.ref i] s=.ok (.bl (lT 1 us)) s:=by
 refine fh ?_
 show ju [À (.ref i),none,none] s=_
 have src:Ĳ (mv 0) [À (.ref i),À (.int 1),none] s=.ok (us,[(i,us)]) s:=by
  show need (û s i) _=_
  rw[l];rfl
 obtain⟨h1,h2⟩:=Gi (x0:=À (.ref i)) ((Mm.lF i us s).mpr l) us 1 none h
 have f1:gD (Ĳ (mv 0)) (gN 2) EU [À (.ref i),À (.int 1),none] s=forL (gN 2) EU [(i,us)] us [À (.ref i),À (.int 1),none] s:=by unfold gD;rw[src];rfl
 unfold ju
 show ì (gD (Ĳ (mv 0)) (gN 2) EU) (ě (mc (.bl true))) [À (.ref i),À (.int 1),none] s=_
 unfold ì
 rw[f1]
 cases hu:lT 1 us with
 | true=>obtain⟨e,he⟩:=h1 hu;rw[he];rfl
 | false=>rw[h2 hu]
def i8:AV->Bool
 | .tup [_,p]=>qB p
 | _=>false
def Cu:AV->AV
 | .tup (u :: _)=>u
 | v=>v
def Im (p:AV × AV):AV:=.tup [p.1,p.2]
theorem tB:∀ {xs:Á AV},xs.all i8=true->∃ ps:Á (AV × AV),xs=ps.map Im/\∀ p∈ps,qB p.2=true
 | [],_=>⟨[],rfl,(λ _ h=>nomatch h)⟩
 | x :: r,h=>by
  rw[Ĩ,Ÿ]at h
  obtain⟨ps,e,hp⟩:=tB h.2
  have h1:=h.1
  unfold i8 at h1
  split at h1
  ·rename_i u p
   refine⟨(u,p) :: ps,by rw[e];rfl,λ q hq=>?_⟩
   rcases Ò.mp hq with rfl|hq
   ·exact h1
   ·exact hp q hq
  ·cases h1
theorem O7 (h:C3 2 s v):mz (Ø 2 ź (Ã (mv 0) (Ã (mc (.int 2)) Ð))) (Ø 1 e_ (Ã (Ö Ħ (mv 0) (mc (.int 1))) Ð)) [À v] s=.ok (.bl (i8 v)) s:=by
 have ht:=h.leaf.1
 have kt:Ø 2 ź (Ã (mv 0) (Ã (mc (.int 2)) Ð)) [À v] s=.ok (.bl (isTup 2 v)) s:=call2 rfl rfl (hU ht)
 cases hs:isTup 2 v with
 | false=>
  rw[hs]at kt
  rw[show i8 v=false from ?_]
  ·exact rZ (y:=true) kt λ h=>by cases h
  ·unfold i8;split
   ·exact absurd hs (by simp[isTup])
   ·rfl
 | true=>
  obtain⟨xs,rfl⟩:=Et hs
  obtain⟨a,b,rfl⟩:=two_of hs
  obtain⟨_,h2⟩:=h.2 _ rfl
  rw[hs]at kt
  exact rZ (x:=true) kt λ _=>qp rfl (yz (h2 b (by simp)))
def zv:AV->Bool
 | .tup xs=>(decide (2<=xs.length) && decide (xs.length<=4)) && (xs.all i8 && (kK (Cu (xs.getLastD .ĥ)) && lT 1 (xs.dropLast.map Cu)))
 | _=>false
theorem uI (xs:Á AV):zv (.tup xs)=((decide (2<=xs.length) && decide (xs.length<=4)) && (xs.all i8 && (kK (Cu (xs.getLastD .ĥ)) && lT 1 (xs.dropLast.map Cu)))):=rfl
theorem IZ (xs:Á α):lB xs none (À (-1))=xs.dropLast:=by
 unfold lB
 have h1:HT.cV xs.length 0 none=0:=rfl
 have h2:HT.cV xs.length xs.length (À (-1))=xs.length - 1:=by
  show(if (-1:Int) < 0 then ((-1:Int)+(xs.length:Int)).toNat else min (-1:Int).toNat xs.length)=_
  rw[É (by decide)];lia
 rw[h1,h2,List.dropLast_eq_take]
 simp
theorem M6 (xs:Á α)(d:α)(h:xs≠[]):oB xs (-1)=À (xs.getLastD d):=by
 have hl:1<=xs.length:=by cases xs with|nil=>exact absurd rfl h|cons=>simp
 unfold oB
 have e:Av xs.length (-1)=À (xs.length - 1):=by
  unfold Av
  rw[Ó (by lia),É (by lia)]
  congr 1;lia
 rw[e]
 show xs[xs.length - 1]? = _
 rw[AB,List.getLast?_eq_getElem?]
 cases q:xs[xs.length - 1]? with
 | none=>rw[List.getElem?_eq_none_iff]at q;lia
 | some v=>rfl
theorem Hw {ps:Á (AV × AV)}(h:C3 3 s (.tup (ps.map Im))):∀ p∈ps,C3 1 s p.1/\C3 1 s p.2:=λ p hp=>by
 obtain⟨_,h2⟩:=h.2 _ rfl
 obtain⟨_,h3⟩:=(h2 (Im p) (cC hp)).2 _ rfl
 exact⟨h3 p.1 (by simp),h3 p.2 (by simp)⟩
theorem NV (h:ps≠[]):∃ q,q∈ps/\(ps.map Im).getLastD .ĥ=Im q:=by
 rw[AB,List.getLast?_map]
 cases e:ps.getLast? with
 | none=>exact absurd (List.getLast?_eq_none_iff.mp e) h
 | some q=>exact⟨q,List.mem_of_getLast? e,rfl⟩
theorem Xd:aU j_ j_ (mc j8) (kl cZ (Ã (mv 0) Ð)) (mc lK) [À (.tup xs)] s=.ok (.bl (decide (2<=xs.length) && decide (xs.length<=4))) s:=by
 rw[u9 (x:=decide ((2:Int)<=xs.length)) (y:=decide ((xs.length:Int)<=4)) rfl (wb rfl SV) rfl rfl rfl]
 congr 3<;>(apply o8.mpr;lia)
theorem Ed (h:C3 3 s v):iX [v] s=.ok (.bl (zv v)) s:=by
 have ht:=h.leaf.1
 cases hs:bX "tuple" v s with
 | false=>
  rw[show zv v=false from ?_]
  ·exact fh (sj (Oy (bA (x:=false) (jl (yj ht rfl hs)))))
  ·unfold zv;split
   ·rw[zZ]at hs;cases hs
   ·rfl
 | true=>
  obtain⟨xs,rfl⟩:=Ey hs
  obtain⟨hl,h2⟩:=h.2 _ rfl
  let E:En:=[À (.tup xs)]
  have k0:=bA (x:=true) (jl (yj (m:=mv 0) (env:=E) ht rfl hs))
  have k1:=bA (r6 (Xd (xs:=xs) (s:=s)))
  cases f1:decide (2<=xs.length) && decide (xs.length<=4) with
  | false=>
   rw[f1]at k1
   rw[show zv (.tup xs)=false from by rw[uI,f1];rfl]
   exact fh (sj (wg k0 k1))
  | true=>
   rw[f1]at k1
   have k2:mI ug (Œ [("rate",none)] (Ĳ (mv 0)) (gN 0) de (mz (Ø 2 ź (Ã (mv 0) (Ã (mc (.int 2)) Ð))) (Ø 1 e_ (Ã (Ö Ħ (mv 0) (mc (.int 1))) Ð)))) E s=.ok (.bl (xs.all i8)) s:=
    all_map (rest:=[]) (gs:=[]) i8 rfl hl (bM s) rfl λ x hx=>O7 (h2 x hx)
   cases f2:xs.all i8 with
   | false=>
    rw[f2]at k2
    rw[show zv (.tup xs)=false from by rw[uI,f1,f2];rfl]
    exact fh (xj (wg k0 k1) (sj (bA (x:=false) (jl k2))))
   | true=>
    rw[f2]at k2
    obtain⟨ps,rfl,hp⟩:=tB f2
    have Bs:=Hw h
    have Sk:ps≠[]:=by rintro rfl;simp at f1
    obtain⟨q,hq,eq⟩:=NV Sk
    have e1:Ö Ħ (Ö Ħ (mv 0) (gR eA (mc (.int 1)))) (mc (.int 0)) E s=.ok q.1 s:=by
     have:Ö Ħ (mv 0) (gR eA (mc (.int 1))) E s=.ok (Im q) s:=by
      refine af rfl rfl ?_
      show(need (oB (ps.map Im) (-1)) λ v=>R.ok v s)=_
      rw[M6 _ .ĥ (by simpa using Sk),eq];rfl
     exact af this rfl rfl
    have e2:Ö tm (Ö Ħ (Ö Ħ (mv 0) (gR eA (mc (.int 1)))) (mc (.int 0))) (mc .ĥ) E s=.ok (.bl (kK q.1)) s:=af e1 rfl rfl
    have src:Ĳ (Ij (mv 0) oN (oS (gR eA (mc (.int 1))))) E s=.ok ((ps.dropLast).map λ p=>AV.tup [p.1,p.2],[]) s:=by
     show R.ok (lB (ps.map Im) none (À (-1)),[]) s=_
     rw[IZ,<-MJ];rfl
    have lc:Œ [("upto",none),("part",none)] (Ĳ (Ij (mv 0) oN (oS (gR eA (mc (.int 1)))))) (gT 2 (Ù (gN 0) (Ù (gN 1) ę))) de (mv 0) E s=.ok (ps.dropLast.map (·.1)) s:=by
     unfold Œ
     rw[src,ð,É (by simp only[Æ,List.length_dropLast];rw[Æ]at hl;lia)]
     exact(xV (λ a _=>a) (bM s) ps.dropLast [] none none λ p _=>rfl).trans (by simp)
    have e3:pD (Ø 1 e7 (Ã (Ę (Œ [("upto",none),("part",none)] (Ĳ (Ij (mv 0) oN (oS (gR eA (mc (.int 1)))))) (gT 2 (Ù (gN 0) (Ù (gN 1) ę))) de (mv 0))) Ð)) E s=.ok (.bl (lT 1 (ps.dropLast.map (·.1)))) s:=by
     refine vz (z:=[.lst (ps.dropLast.map (·.1))]) ?_ rfl
     unfold Ø Ã Ð
     rw[pO lc,ð]
     exact Ez (ű _ _) λ u hu=>by
      obtain⟨p,WQ,rfl⟩:=â.mp hu
      obtain⟨t,ht⟩:=(Bs p (List.dropLast_subset _ WQ)).1.leaf.1
      exact⟨t,Py ht⟩
    refine(fh (xj (wg k0 k1) (xj (bA (x:=true) (jl k2)) (lP (rZ e2 λ _=>e3))))).trans ?_
    rw[uI,f1,f2,eq,<-MJ,ó]
    rfl
theorem join_le:∀ (ts:Á Str),(∀ t∈ts,t.length<=b)->(VZ ", " ts).length<=ts.length * (b+2)
 | [],_=>ā (eO (show(VZ ", " []).length=0 by decide +kernel)) (Ă _)
 | [x],h=>by show x.length<=_;have:=h x (.head _);simp;lia
 | x :: y :: r,h=>by
  have ih:=join_le (y :: r) λ t ht=>h t (.tail _ ht)
  have hx:=h x (.head _)
  show(x++", "++VZ ", " (y :: r)).length<=_
  rw[wQ,wQ]
  have e2:((", ":String):Str).length=2:=rfl
  rw[e2,å,Zy];lia
theorem UM (h:∀ t∈ts,t.length<=b):(tupleText ts).length<=ts.length * (b+2)+3:=by
 have:=join_le ts h
 unfold tupleText
 rw[wQ,wQ]
 have e1:("(":Str).length=1:=by decide +kernel
 have e2:∀ c:Bool,((if c then ",)" else ")":String):Str).length<=2:=by intro c;cases c<;>decide +kernel
 have:=e2 (ts.length == 1)
 rw[e1];lia
def fdL:AV->Prop
 | .ĥ=>True
 | .bl _=>True
 | .int i=>bu 900 i
 | .str t=>Ap t 40
 | _=>False
def fd:Nat->AV->Prop
 | 0,v=>fdL v
 | n+1,v=>fdL v∨∃ xs,v=.tup xs/\xs.length<=24/\∀ x∈xs,fd n x
theorem q_:∀ {l:Á d_}{t:Str},t∈cX l->∃ d∈l,t=d.shown
 | [],t,h=>by simp[cX]at h
 | d :: r,t,h=>by
  simp only[cX,Ò]at h
  rcases h with rfl|h
  ·exact⟨d,.head _,rfl⟩
  ·obtain⟨e,he,k⟩:=q_ h;exact⟨e,.tail _ he,k⟩
theorem qZ:∀ l:Á d_,(cX l).length=l.length
 | []=>by simp[cX]
 | d :: r=>by simp[cX,qZ r]
def oD (t:Str):AV->Bool
 | .str u=>decide (u=t)
 | _=>false
def kOk (s:S):AV->Prop
 | .sq _=>False
 | .ref i=>(∃ xs,s[i]? = À (.lst xs))∨∃ d,s[i]? = À (.dK d)
 | _=>True
theorem RW (h:kOk s v):nA v (.str t) s=.ok (.bl (oD t v)) s:=by
 cases v with
 | sq xs=>exact h.elim
 | ref i=>
  unfold nA
  rcases h with⟨xs,e⟩|⟨d,e⟩
  ·simp only[e];rfl
  ·simp only[e];rfl
 | _=>rfl
def sx:AV->Bool
 | .tup [k,q,v]=>isNm q && (bif oD "of" k || oD "left" k then qB v else bif oD "steps" k then zv v else (oD "length" k && dQ 1 1000 v))
 | _=>false
theorem qC (k q v:AV):sx (.tup [k,q,v])=(isNm q && (bif oD "of" k || oD "left" k then qB v else bif oD "steps" k then zv v else (oD "length" k && dQ 1 1000 v))):=rfl
def okR (s:S)(v:AV):Prop:=C3 4 s v/\∀ k q p,v=.tup [k,q,p]->kOk s k
theorem NK (h:isTup 3 v=false):sx v=false:=by
 unfold sx
 split
 ·exact absurd h (by simp[isTup])
 ·rfl
theorem Ls (h:isTup 3 (.tup xs)=true):∃ a b c,xs=[a,b,c]:=by
 have h:((xs.length:Int))=3:=by simpa[isTup]using h
 match xs,h with
 | [a,b,c],_=>exact⟨a,b,c,rfl⟩
 | [],h=>simp at h
 | [_],h=>simp at h
 | [_,_],h=>simp at h
 | _ :: _ :: _ :: _ :: r,h=>simp at h;lia
theorem v7:∀ {n:Nat}{s:S}{v:AV},C3 (n+1) s v->C3 n s v
 | 0,_,_,h=>h.1
 | n+1,_,_,h=>⟨h.1,λ xs e=>⟨(h.2 xs e).1,λ x hx=>v7 ((h.2 xs e).2 x hx)⟩⟩
theorem QA (h:c env s=.ok true s)(k:m env s=.ok v s):ì (eL c (ě m) Ľ) b env s=.rt v s:=by
 unfold ì eL ě;rw[h]
 show(match (m env s).eX λ v s1=>RS.rt v s1 with|.nx e s1=>b e s1|r=>r)=_
 rw[k];rfl
theorem JL (h:c env s=.ok false s)(k:b env s=r):ì (eL c (ě m) Ľ) b env s=r:=by
 unfold ì eL;rw[h];exact k
theorem vv (h:m env s=.ok (.bl b) s):pD m env s=.ok (.bl b) s:=vz (z:=[]) (by rw[fw];exact h) rfl
theorem Ha (h:okR s v):kE [v] s=.ok (.bl (sx v)) s:=by
 have ht:=h.1.leaf.1
 cases hs:isTup 3 v with
 | false=>
  rw[NK hs]
  exact fh (sj (bA (x:=false) (jl (call2 rfl rfl (hs ▸ hU ht)))))
 | true=>
  obtain⟨xs,rfl⟩:=Et hs
  obtain⟨k,q,p,rfl⟩:=Ls hs
  obtain⟨_,h2⟩:=h.1.2 _ rfl
  have hk:=h.2 k q p rfl
  refine fh (xj (bA (x:=true) (jl (call2 rfl rfl (hs ▸ hU ht)))) ?_)
  let E:En:=[À (.tup [k,q,p]),À k,À q,À p]
  show ì _ _ E s=_
  have kn:dO (cT (Ø 1 iQ (Ã (mv 2) Ð))) E s=.ok (!isNm q) s:=bA (jl (qp rfl (DL (h2 q (by simp)).leaf)))
  have ek:∀ t:Str,Ö nA (mv 1) (mc (.str t)) E s=.ok (.bl (oD t k)) s:=λ t=>af rfl rfl (RW hk)
  have hp:=h2 p (by simp)
  rw[qC]
  cases f1:isNm q with
  | false=>rw[f1]at kn;exact sj kn
  | true=>
   rw[f1]at kn
   refine xj kn ?_
   have k1:=QL (r6 (ek "of")) λ _=>r6 (ek "left")
   cases f2:oD "of" k || oD "left" k with
   | true=>
    rw[f2]at k1
    exact QA k1 (qp rfl (yz (v7 (v7 hp))))
   | false=>
    rw[f2]at k1
    refine JL k1 ?_
    have k2:=r6 (ek "steps")
    cases f3:oD "steps" k with
    | true=>
     rw[f3]at k2
     exact QA k2 (vv (qp rfl (Ed hp)))
    | false=>
     rw[f3]at k2
     exact JL k2 (lP (rZ (x:=oD "length" k) (y:=dQ 1 1000 p) (ek "length") λ _=>EX rfl rfl rfl (uH hp.leaf.1)))
def isLeft (v:AV):Bool:=oD "left" (Cu v)
def yp (xs:Á AV):Nat:=(xs.filter isLeft).length
def Fi:AV->Bool
 | .tup xs=>decide (xs.length<=8) && (xs.all sx && decide (yp xs<=3))
 | _=>false
theorem Bw (xs:Á AV):Fi (.tup xs)=(decide (xs.length<=8) && (xs.all sx && decide (yp xs<=3))):=rfl
def Oj (s:S)(v:AV):Prop:=nk s v/\∀ xs,v=.tup xs->xs.length<=sizeLine/\∀ x∈xs,okR s x
theorem JQ (h:bX "tuple" v s=false):Fi v=false:=by
 cases v with
 | tup xs=>rw[zZ]at h;cases h
 | _=>rfl
theorem K' (h:sx x=true):∃ t q p,x=.tup [.str t,q,p]:=by
 unfold sx at h
 split at h
 ·rename_i k q p
  cases k with
  | str t=>exact⟨t,q,p,rfl⟩
  | _=>rw[Ÿ]at h;exact absurd h.2 (by simp[oD])
 ·cases h
theorem NX (e1:Ĳ (mv 0) env s=.ok (xs,[]) s) (hl:xs.length<=sizeLine)(e2:lS l env=[none])(h:xs.all sx=true):mI O2 (Œ l (Ĳ (mv 0)) (gN 0) (cB (Ö cz (Ö Ħ (mv 0) (mc (.int 0))) (mc (.str "left")))) (mv 0)) env s=.ok (.int (yp xs)) s:=by
 unfold mI Œ
 rw[e1,ð,É hl,e2,jx isLeft (bM s) xs [] none λ v hv=>?_]
 ·rfl
 ·obtain⟨t,q,p,rfl⟩:=K' (ü.mp h v hv)
  exact r6 (af rfl rfl rfl)
theorem DM (h:Oj s v):fe [v] s=.ok (.bl (Fi v)) s:=by
 have ht:=h.1.1
 cases hs:bX "tuple" v s with
 | false=>
  rw[JQ hs]
  exact fh (sj (Oy (bA (x:=false) (jl (yj ht rfl hs)))))
 | true=>
  obtain⟨xs,rfl⟩:=Ey hs
  obtain⟨hl,h2⟩:=h.2 _ rfl
  let E:En:=[À (.tup xs)]
  have k0:=bA (x:=true) (jl (yj (m:=mv 0) (env:=E) ht rfl hs))
  have k1:cB (Ö uf (kl cZ (Ã (mv 0) Ð)) (mc nh)) E s=.ok (!decide (xs.length<=8)) s:=by
   refine r6 (af (wb rfl SV) rfl ?_)
   show R.ok (AV.bl (decide ((xs.length:Int) > 8))) s=_
   congr 2
   rw[aY];simp;lia
  have k2:mI ug (Œ [("row",none)] (Ĳ (mv 0)) (gN 0) de (pD (Ø 1 kE (Ã (mv 0) Ð)))) E s=.ok (.bl (xs.all sx)) s:=
   all_map (rest:=[]) (gs:=[]) sx rfl hl (bM s) rfl λ x hx=>vv (qp rfl (Ha (h2 x hx)))
  rw[Bw]
  cases f1:decide (xs.length<=8) with
  | false=>rw[f1]at k1;exact fh (sj (wg k0 k1))
  | true=>
   rw[f1]at k1
   cases f2:xs.all sx with
   | false=>rw[f2]at k2;exact fh (xj (wg k0 k1) (sj (bA (x:=false) (jl k2))))
   | true=>
    rw[f2]at k2
    refine(fh (xj (wg k0 k1) (xj (bA (x:=true) (jl k2)) (lP (af (NX rfl hl rfl f2) rfl rfl))))).trans ?_
    show R.ok (AV.bl (decide ((yp xs:Int)<=3))) s=_
    congr 2
    rw[aY];simp;lia
theorem K_ (lo:Int)(n:Nat):jj lo (n+1)=.int lo :: jj (lo+1) n:=by
 unfold jj
 rw[EE,È,ó]
 congr 1
 ·simp
 ·refine Ļ λ i _=>?_
  simp only[Function.comp,AV.int.injEq];lia
def MY (p:Str):Prop:=isNm (.str p)=true/\Ap p 8
def Pq (q:Rat):Prop:=∃ a b,1<=a/\a<=b/\b<=60/\q=Õ a b
theorem Gj:∀ (us:Á AV)(l m:Int){x:Int},lT l us=true->(∀ u∈us,XA u<=m)->l<=m+1->m+1<=x->x<=1000000->lT l (us++[.int x])=true
 | [],l,m,x,_,_,h1,h2,h3=>by
  show((decide (l<=x) && decide (x<=1000000)) && true)=true
  rw[ø (show l<=x by lia),ø h3];rfl
 | u :: r,l,m,x,h,hu,h1,h2,h3=>by
  have h:(dQ l 1000000 u && lT (XA u+1) r)=true:=h
  rw[Ÿ]at h
  show(dQ l 1000000 u && lT (XA u+1) (r++[.int x]))=true
  rw[h.1,Gj r (XA u+1) m h.2 (λ v hv=>hu v (.tail _ hv)) (by have:=hu u (.head _);lia) h2 h3];rfl
def gL:AV->Prop
 | .ĥ=>True
 | .bl _=>True
 | .int i=>bu 80 i
 | .str t=>Ap t 20
 | _=>False
def wd:Nat->Nat
 | 0=>3
 | 1=>3
 | 2=>5
 | 3=>5
 | 4=>5
 | 5=>5
 | _=>12
def dOf:Á (Key × AV):=[(.inr "of",.int 1)]
def G (c d:Nat)(md:Bool)(s:S):Nat->AV->Prop
 | 0,v=>gL v
 | n+1,v=>gL v∨(∃ xs,v=.tup xs/\xs.length<=wd n/\∀ x∈xs,G c d md s n x)∨(md=false/\∃ i xs,v=.ref i/\i≠c/\i≠d/\û s i=À xs/\xs.length<=wd n/\∀ x∈xs,G c d md s n x)∨(md=true/\∃ i,v=.ref i/\i≠c/\i≠d/\(s[i]? = À (.dK [])∨s[i]? = À (.dK dOf)))
structure Pg (md:Bool)(n B:Nat)(d:d_):Prop where
 sh:d.showable=true
 nd:if md=true then vD d=false else d.hasDict=false
 dp:d.depth<=n
 ln:d.shown.length<=B
theorem Bn:∀ {l:Á d_},(∀ d∈l,vD d=false)->oR l=false
 | [],_=>by simp[oR]
 | d :: r,h=>by simp[oR,h d (.head _),Bn λ e he=>h e (.tail _ he)]
theorem Bl:∀ {l:Á d_},(∀ d∈l,d.hasDict=false)->sT l=false
 | [],_=>by simp[sT]
 | d :: r,h=>by simp[sT,h d (.head _),Bl λ e he=>h e (.tail _ he)]
theorem QM:∀ {l:Á d_},(∀ d∈l,Pg md n B d)->rE l=true/\mO l<=n
 | [],_=>by simp[rE,mO]
 | d :: r,h=>by
  obtain⟨a,c⟩:=QM (l:=r) λ e he=>h e (.tail _ he)
  have hd:=h d (.head _)
  simp only[rE,mO,a,hd.sh]
  exact⟨rfl,Nat.max_le.mpr ⟨hd.dp,c⟩⟩
theorem KH (hl:l.length<=w)(h:∀ d∈l,Pg md n B d):Pg md (n+1) (w * (B+2)+3) (.tuple l):=by
 obtain⟨a,c⟩:=QM h
 refine⟨by simpa[PyData.showable]using a,?_,by simp only[UX];lia,?_⟩
 ·cases md with
  | true=>rw[É rfl];show vD (.tuple l)=false;unfold vD;exact Bn λ d hd=>by have:=(h d hd).nd;rwa [É rfl]at this
  | false=>rw[Ó (by decide)];show P7 (.tuple l)=false;unfold P7;exact Bl λ d hd=>by have:=(h d hd).nd;rwa [Ó (by decide)]at this
 simp only[PyData.shown]
 have:=UM (b:=B) (ts:=cX l) λ t ht=>by obtain⟨d,hd,rfl⟩:=q_ ht;exact(h d hd).ln
 rw[qZ]at this
 have:l.length * (B+2)<=w * (B+2):=qb _ hl
 lia
theorem wo (h:Pq q):1<=q.num/\q.num<=(q.den:Int)/\(q.den:Int)<=60/\1<=(q.den:Int):=by
 obtain⟨a,b,h1,h2,h3,rfl⟩:=h
 have e:=sd (t:=a) (b:=b) (by lia)
 have e1:a.fdiv (pE a b)=(Õ a b).num:=Ě Ag e
 have e2:b.fdiv (pE a b)=((Õ a b).den:Int):=Ě Ah e
 have eg:pE a b=((í a b:Nat):Int):=Ó (by lia)
 have g0:0 < ((í a b:Nat):Int):=by
  have:0 < í a b:=Int.gcd_pos_of_ne_zero_left _ (by lia)
  lia
 have ga:((í a b:Nat):Int)<=a:=Int.le_of_dvd (by lia) (iD a b)
 rw[eg,kq _ (by lia)]at e1 e2
 rw[<-e1,<-e2]
 have m1:a / ((í a b:Nat):Int)<=b / ((í a b:Nat):Int):=Int.ediv_le_ediv g0 h2
 have m2:b / ((í a b:Nat):Int)<=b:=Int.ediv_le_self _ (by lia)
 have m3:1<=a / ((í a b:Nat):Int):=Int.le_ediv_of_mul_le g0 (by lia)
 exact⟨m3,m1,by lia,by lia⟩
theorem FI (h:Pq q):qB (fq q)=true:=by
 obtain⟨h1,h2,h3,h4⟩:=wo h
 show((decide (1<=(q.den:Int)) && decide ((q.den:Int)<=60)) && (decide (1<=q.num) && decide (q.num<=(q.den:Int))) && decide (ig q.num (q.den:Int)=1))=true
 rw[ø h4,ø h3,ø h1,ø h2,ø ((Sy h4).mpr (oh q))];rfl
theorem all2 {P:AV->Prop}(ha:P a)(hb:P b):∀ x∈[a,b],P x:=λ x hx=>by
 simp only[Ò,Ĉ,bz]at hx
 rcases hx with rfl|rfl<;>assumption
theorem Z2 {P:AV->Prop}(ha:P a)(hb:P b)(hc:P c):∀ x∈[a,b,c],P x:=λ x hx=>by
 simp only[Ò,Ĉ,bz]at hx
 rcases hx with rfl|rfl|rfl<;>assumption
theorem R1 (h0:0<=i)(h1:i<=1000):bu 80 i:=(g9 (n:=20) h0 (by lia)).mono (by lia)
theorem SJ:Ap "of" 20/\Ap "left" 20/\Ap "steps" 20/\Ap "length" 20:=by
 have:∀ t∈(["of","left","steps","length"]:Á Str),(t.cps.toList.all λ c=>decide (c < 128))=true/\t.length<=20:=by decide +kernel
 have f:∀ t∈(["of","left","steps","length"]:Á Str),Ap t 20:=λ t ht=>⟨λ c hc=>Ė (ü.mp (this t ht).1 c hc),(this t ht).2⟩
 exact⟨f _ (by simp),f _ (by simp),f _ (by simp),f _ (by simp)⟩
theorem mX (t:Str):oD t (.str t)=true:=ø rfl
theorem Jf:oD "of" (.str "steps")=false/\oD "left" (.str "steps")=false/\oD "of" (.str "length")=false/\oD "left" (.str "length")=false/\oD "steps" (.str "length")=false/\oD "left" (.str "of")=false:=by
 refine⟨?_,?_,?_,?_,?_,?_⟩<;>decide +kernel
def QN (us:Á (Int × Rat)) (z:Rat):Á (AV × AV):=us.map (λ p=>(AV.int p.1,fq p.2))++[(.ĥ,fq z)]
theorem KS (us:Á (Int × Rat)) (z:Rat):us.map oI++[.tup [.ĥ,fq z]]=(QN us z).map Im:=by
 unfold QN
 rw[ä,ó];rfl
theorem qH:∀ rs:Á Rw,yp (rs.map rv)=nL rs
 | []=>rfl
 | r :: rs=>by
  have ih:=qH rs
  unfold yp at ih ⊢
  obtain⟨e1,e2,e3,e4,e5,e6⟩:=Jf
  cases r with
  | left n q=>rw[È,mG (show isLeft (rv (.left n q))=true from mX _),å,ih];rfl
  | of n q=>rw[È,cG (by rw[show isLeft (rv (.of n q))=false from e6];decide),ih];rfl
  | steps n us z=>rw[È,cG (by rw[show isLeft (rv (.steps n us z))=false from e2];decide),ih];rfl
  | len n k=>rw[È,cG (by rw[show isLeft (rv (.len n k))=false from e4];decide),ih];rfl
end Ro
namespace Mm
open PySem L2 Sx
theorem LK (l:Lc)(src:Src)(bO:Mt)(test:Eb)(j':Src)(jm:Mt)(dH:Eb)(ŭ:Ev)(env:En)(s:S)(Q:Á AV->S->Prop) :
  (pM l src bO test j' jm dH ŭ env s).wp Q=(src env s).wp λ p s1=>(fD bO test j' jm dH ŭ p.2 p.1 (lS l env) s1 []).wp Q:=by unfold pM;rw[wp_bind]
theorem PQ (l:Lc)(src:Src)(bO:Mt)(test:Eb)(ŭ:Ev)(env:En)(s:S)(Q:Á AV->S->Prop) :
  (vo l src bO test ŭ env s).wp Q=(src env s).wp λ p s1=>p.1.length < 64/\(jw bO test ŭ p.2 p.1 (lS l env) s1 []).wp λ ns s2=>Q ((sortI ns).map .int) s2:=by
 unfold vo
 rw[wp_bind]
 congr 1
 funext p s1
 rw[kW,wp_bind]
 rfl
theorem Rx (h:Q þ s):(fD bO test j' jm dH ŭ [] [] env s þ).wp Q:=by
 unfold fD
 rw[É (by intro p hp;cases hp)]
 exact h
theorem M9 
  (h:(bO v env s).wp (λ e1 s1=>(test e1 s1).wp λ b s2=>if b=true then (j' e1 s2).wp λ p s3=>(iV jm dH ŭ p.2 p.1 e1 s3 þ).wp λ q s4=>(fD bO test j' jm dH ŭ [] r q.2 s4 q.1).wp Q else (fD bO test j' jm dH ŭ [] r e1 s2 þ).wp Q) (λ _ _=>False)) :
  (fD bO test j' jm dH ŭ [] (v :: r) env s þ).wp Q:=by
 unfold fD
 rw[É (by intro p hp;cases hp)]
 cases e:bO v env s with
 | nx e1 s1=>
  rw[e,LO]at h
  simp only[wp_bind,jK]
  refine h.mono λ b s2 k=>?_
  cases b with
  | true=>rw[É rfl]at k ⊢;simp only[wp_bind,jK];exact k
  | false=>rw[Ó (by decide)]at k ⊢;exact k
 | _=>rw[e]at h;exact h.elim
theorem Ry (h:Q (þ,env) s):(iV bO test ŭ [] [] env s þ).wp Q:=by
 unfold iV
 rw[É (by intro p hp;cases hp)]
 exact h
theorem M' 
  (h:(bO v env s).wp (λ e1 s1=>(test e1 s1).wp λ b s2=>if b=true then (ŭ e1 s2).wp λ x s3=>þ.length < 1000/\(iV bO test ŭ [] r e1 s3 (þ++[x])).wp Q else (iV bO test ŭ [] r e1 s2 þ).wp Q) (λ _ _=>False)) :
  (iV bO test ŭ [] (v :: r) env s þ).wp Q:=by
 unfold iV
 rw[É (by intro p hp;cases hp)]
 cases e:bO v env s with
 | nx e1 s1=>
  rw[e,LO]at h
  simp only[wp_bind,jK]
  refine h.mono λ b s2 k=>?_
  cases b with
  | true=>rw[É rfl]at k ⊢;simp only[wp_bind,jK];exact k.mono λ x s3 q=>by rw[É q.1];exact q.2
  | false=>rw[Ó (by decide)]at k ⊢;exact k
 | _=>rw[e]at h;exact h.elim
theorem Rz (hg:k6 gs s)(h:Q þ s):(jw bO test ŭ gs [] env s þ).wp Q:=by
 unfold jw
 rw[É hg]
 exact h
theorem Na (hg:k6 gs s)
  (h:(bO v env s).wp (λ e1 s1=>(test e1 s1).wp λ b s2=>if b=true then (ŭ e1 s2).wp λ x s3=>∃ n,x=.int n/\(jw bO test ŭ gs r e1 s3 (hR þ n)).wp Q else (jw bO test ŭ gs r e1 s2 þ).wp Q) (λ _ _=>False)) :
  (jw bO test ŭ gs (v :: r) env s þ).wp Q:=by
 unfold jw
 rw[É hg]
 cases e:bO v env s with
 | nx e1 s1=>
  rw[e,LO]at h
  simp only[wp_bind,jK]
  refine h.mono λ b s2 k=>?_
  cases b with
  | true=>rw[É rfl]at k ⊢;simp only[wp_bind,jK];exact k.mono λ x s3 ⟨n,e,q⟩=>by subst e;exact q
  | false=>rw[Ó (by decide)]at k ⊢;exact k
 | _=>rw[e]at h;exact h.elim
theorem LJ (o1 o2:AV->AV->S->R AV)(a b c:Ev)(env:En)(s:S)(Q:AV->S->Prop) :
  (aU o1 o2 a b c env s).wp Q=(a env s).wp λ v s1=>(b env s1).wp λ w s2=>(o1 v w s2).wp λ r s3=>match r with|.bl true=>(c env s3).wp λ x s4=>(o2 w x s4).wp Q|.bl false=>Q (.bl false) s3|_=>False:=by
 unfold aU
 simp only[wp_bind]
 congr 1;funext v s1;congr 1;funext w s2;congr 1;funext r s3
 cases r with
 | bl k=>cases k<;>simp only[wp_bind,LP]
 | _=>rfl
end Mm
namespace Ro
open PySem L2 Mm Sx
def mE:Á Rw->Á Int
 | []=>[]
 | .steps _ us _ :: r=>us.map (·.1)++mE r
 | .of _ _ :: r=>mE r
 | .left _ _ :: r=>mE r
 | .len _ _ :: r=>mE r
theorem Wr (h:env.length=5):∃ a b c d e,env=[a,b,c,d,e]:=by
 match env,h with
 | [a,b,c,d,e],_=>exact⟨a,b,c,d,e,rfl⟩
theorem Qf:∀ (us:Á (Int × Rat)) (env:En)(s:S)(þ:Á AV)(Q:Á AV × En->S->Prop),env.length=5->þ.length+us.length<=1000->(∀ bJ,bJ.length=5->Q (þ++us.map λ p=>.int p.1,bJ) s)->
  (iV (gT 2 (Ù (gN 3) (Ù (gN 4) ę))) de (mv 3) [] (us.map oI) env s þ).wp Q
 | [],env,s,þ,Q,he,hl,h=>Ry (by have:=h env he;simpa using this)
 | p :: us,env,s,þ,Q,he,hl,h=>by
  obtain⟨a,b,c,d,e,rfl⟩:=Wr he
  rw[È]
  refine M' ?_
  rw[show oI p=.tup [.int p.1,fq p.2] from rfl]
  simp only[å]at hl
  walk_at "w"
  refine⟨by lia,Qf us _ s _ Q rfl (by simp;lia) λ bJ k=>?_⟩
  have:=h bJ k
  simpa using this
theorem qo:∀ (rows:Á Rw)(env:En)(s:S)(þ:Á AV)(Q:Á AV->S->Prop),env.length=5->þ.length+(mE rows).length<=1000->Q (þ++(mE rows).map AV.int) s->
  (fD (gT 3 (Ù (gN 0) (Ù (gN 1) (Ù (gN 2) ę)))) (cB (Ö cz (mv 0) (mc (.str "steps")))) (Ĳ (Ij (mv 2) oN (oS (gR eA (mc (.int 1)))))) (gT 2 (Ù (gN 3) (Ù (gN 4) ę))) de (mv 3) [] (rows.map rv) env s þ).wp Q
 | [],env,s,þ,Q,he,hl,h=>Rx (by simpa[mE]using h)
 | r :: rows,env,s,þ,Q,he,hl,h=>by
  obtain⟨a,b,c,d,e,rfl⟩:=Wr he
  rw[È]
  refine M9 ?_
  cases r with
  | steps n us z=>
   unfold mE at hl h
   simp only[õ,Æ]at hl
   rw[show rv (.steps n us z)=.tup [.str "steps",.str n,.tup (us.map oI++[.tup [.ĥ,fq z]])] from rfl]
   simp only[↓WS,↓WE,↓WV,Lq,î,UU,Ì,↓Û,MS]
   rw[show(Hs (.tup (us.map oI++[.tup [.ĥ,fq z]])) none (À (-1)) s)=.ok (.tup (us.map oI)) s by show R.ok _ _=_;rw[xX]]
   walk_at "w"
   refine Qf us _ s þ _ rfl (by lia) λ bJ k=>qo rows bJ s _ Q k (by simp;lia) ?_
   rw[ä,ó,<-æ]at h
   exact h
  | of n q=>
   unfold mE at hl h
   rw[show rv (.of n q)=.tup [.str "of",.str n,fq q] from rfl]
   simp only[↓WS,↓WE,↓WV,Lq,î,UU,Ì,↓Û,SD]
   exact qo rows _ s _ Q rfl hl h
  | left n q=>
   unfold mE at hl h
   rw[show rv (.left n q)=.tup [.str "left",.str n,fq q] from rfl]
   simp only[↓WS,↓WE,↓WV,Lq,î,UU,Ì,↓Û,SD]
   exact qo rows _ s _ Q rfl hl h
  | len n q=>
   unfold mE at hl h
   rw[show rv (.len n q)=.tup [.str "length",.str n,.int q] from rfl]
   simp only[↓WS,↓WE,↓WV,Lq,î,UU,Ì,↓Û,SD]
   exact qo rows _ s _ Q rfl hl h
def Dm (lo hi u:Int):Bool:=decide (lo < u) && decide (u < hi)
theorem uz (hg:k6 gs s):∀ (us:Á Int) (x:Í AV) (þ:Á Int) (Q:Á Int->S->Prop),Q ((us.filter (Dm lo hi)).foldl hR þ) s->
  (jw (gN 0) (cB (aU nC nC (mv 1) (mv 0) (mv 2))) (mv 0) gs (us.map AV.int) [x,À (.int lo),À (.int hi)] s þ).wp Q
 | [],x,þ,Q,h=>Rz hg h
 | u :: us,x,þ,Q,h=>by
  rw[È]
  refine Na hg ?_
  simp only[↓WS,↓WE,↓WV,Lq,î,UU,Ì,↓Û,↓LJ]
  rw[cF]at h
  by_cases h1:lo < u
  ·by_cases h2:u < hi
   ·rw[show Dm lo hi u=true by simp[Dm,h1,h2],É rfl]at h
    simp only[h1,nY,h2]
    walk_at "w"
    exact⟨u,rfl,uz hg us _ _ Q h⟩
   ·rw[show Dm lo hi u=false by simp[Dm,h2],Ó (by decide)]at h
    simp only[h1,nY,h2,decide_false]
    walk_at "w"
    exact uz hg us _ _ Q h
  ·rw[show Dm lo hi u=false by simp[Dm,h1],Ó (by decide)]at h
   simp only[h1,decide_false]
   try walk_at "w"
   exact uz hg us _ _ Q h
def B1 (a b:Á Int):Á AV:=(a.zip b).map λ p=>.tup [.int p.1,.int (p.2 - p.1)]
theorem LZ (a b:Á Int):rq (a.map AV.int) (b.map AV.int)=(a.zip b).map λ p=>.tup [.int p.1,.int p.2]:=by
 unfold rq
 rw[List.zip_map,ó]
 rfl
theorem LY (hg:k6 gs s)(a b:Á Int)(Q:Á AV->S->Prop) :
  (ů (gT 2 (Ù (gN 0) (Ù (gN 1) ę))) de (Ō (Ã (mv 0) (Ã (Ö tu (mv 1) (mv 0)) Ð))) gs (rq (a.map AV.int) (b.map AV.int)) [none,none] s []).wp Q=Q (B1 a b) s:=by
 rw[LZ]
 refine bj (R.wp.eq (eJ (λ ys þ env st=>st=s/\∃ (r:Á (Int × Int)) (x y:Í AV),ys=(r.map λ p=>AV.tup [.int p.1,.int p.2])/\env=[x,y]/\þ++(r.map λ p=>AV.tup [.int p.1,.int (p.2 - p.1)])=B1 a b) ?_ ?_ ?_ _ _ _ _ ⟨rfl,a.zip b,none,none,rfl,rfl,rfl⟩)) Q
 ·rintro _ _ _ st ⟨rfl,_⟩;exact hg
 ·rintro þ env st ⟨rfl,r,x,y,e,rfl,h⟩
  cases r with
  | nil=>exact⟨by rw[<-h];simp,rfl⟩
  | cons=>cases e
 ·rintro v r þ env st ⟨rfl,r',x,y,e,rfl,h⟩
  cases r' with
  | nil=>cases e
  | cons p r'=>
   cases e
   walk_at "w"
   exact⟨r',_,_,rfl,rfl,by rw[<-h];simp⟩
def dn (rows:Á Rw)(f m:Int):Á Int:=sortI (uniq ((mE rows).filter (Dm f (f+m))))
def VL (rows:Á Rw)(f m:Int):S:=[.lst ((mE rows).map .int),.lst ((dn rows f m).map .int),.lst [.int f],.lst ((f :: dn rows f m).map .int),.lst [.int (f+m)],.lst ((dn rows f m++[f+m]).map .int),.lst (B1 (f :: dn rows f m) (dn rows f m++[f+m]))]
theorem I0 (rows:Á Rw)(f m:Int):(dn rows f m).length<=(mE rows).length:=by
 unfold dn uniq
 rw[(sortI_perm _).length_eq]
 have h1:=Bg ((mE rows).filter (Dm f (f+m))) []
 have h2:=bE (Dm f (f+m)) (mE rows)
 simp only[dj]at h1
 lia
theorem YA (hl:(mE rows).length < 64) (f m:Int)(s:S):Ŏ [.tup (rows.map rv),.int f,.int m] s=.ok (.ref (s.length+6)) (s++VL rows f m):=by
 have hc:=I0 rows f m
 apply R.wp.eq
 unfold Ŏ gf
 simp only[↓WS,↓WE,↓WV,Lq,î,UU,Ì,↓Û,↓LK]
 refine qo rows _ s [] _ rfl (by simp;lia) ?_
 simp only[↓WS,↓WE,↓WV,Lq,î,UU,Ì,↓Û,↓PQ,ľ]
 rw[show wD (.ref s.length) (s++[.lst ((mE rows).map AV.int)])=.ok ((mE rows).map AV.int,[(s.length,(mE rows).map AV.int)]) (s++[.lst ((mE rows).map AV.int)]) by show(need (û _ _) _)=_;rw[ŕ];rfl]
 walk_at "w"
 refine⟨by rw[Æ];exact hl,?_⟩
 refine uz (by rw[lF];exact ŕ _ _) _ _ _ _ ?_
 rw[show(List.filter (Dm f (f+m)) (mE rows)).foldl hR []=uniq ((mE rows).filter (Dm f (f+m))) from rfl]
 rw[show sortI (uniq ((mE rows).filter (Dm f (f+m))))=dn rows f m from rfl]
 have e0:(s++[AO.lst ((mE rows).map AV.int)]).length=s.length+1:=by simp
 generalize NB:s++[AO.lst ((mE rows).map AV.int)]=s1 at e0 ⊢
 generalize hC:dn rows f m=C at hc ⊢
 simp only[↓WS,↓WE,↓WV,Lq,î,UU,Ì,↓Û,↓z_]
 have l1:û (s1++[.lst (C.map AV.int)]) s1.length=À (C.map AV.int):=ŕ _ _
 generalize DD:s1++[.lst (C.map AV.int)]=s2 at l1 ⊢
 have e1:s2.length=s.length+2:=by rw[<-DD];simp[e0]
 rw[bj (zf (ŕ s2 _) (du l1) (p7 (by simp;lia)))]
 try walk_at "w"
 have l2:=ŕ (s2++[AO.lst [.int f]]) ([.int f]++C.map AV.int)
 have l1':û ((s2++[AO.lst [.int f]])++[.lst ([.int f]++C.map AV.int)]) s1.length=À (C.map AV.int):=du (du l1)
 have e2:(s2++[AO.lst [.int f]]).length=s.length+3:=by simp[e1]
 generalize hs3:(s2++[AO.lst [.int f]])++[.lst ([.int f]++C.map AV.int)]=s3 at l2 l1' ⊢
 have e3:s3.length=s.length+4:=by rw[<-hs3];simp[e1]
 rw[bj (zf (du l1') (ŕ s3 _) (p7 (by simp;lia)))]
 have l3:=ŕ (s3++[AO.lst [.int (f+m)]]) (C.map AV.int++[.int (f+m)])
 have l2':û ((s3++[AO.lst [.int (f+m)]])++[.lst (C.map AV.int++[.int (f+m)])]) (s2++[AO.lst [.int f]]).length=À ((f :: C).map AV.int):=du (du l2)
 have l3':û ((s3++[AO.lst [.int (f+m)]])++[.lst (C.map AV.int++[.int (f+m)])]) (s3++[AO.lst [.int (f+m)]]).length=À ((C++[f+m]).map AV.int):=by rw[l3];simp
 simp only[↓WS,↓WE,↓WV,Lq,î,UU,Ì,↓Û,EB,xr,l2',l3',iO]
 refine⟨p7 ?_,?_⟩
 ·unfold rq
  simp
  lia
 rw[show AV.int f :: C.map AV.int=(f :: C).map AV.int from rfl,LY ?_]
 ·refine⟨?_,?_⟩
  ·simp[e3]
  ·rw[<-hs3,<-DD,<-NB]
   unfold VL
   rw[hC]
   simp
 ·intro p hp
  simp only[aC,ľ,Ò,Ĉ,bz]at hp
  rcases hp with rfl|rfl
  ·exact l2'
  ·exact l3'
end Ro
namespace Ro
open PySem L2 Mm
theorem LG (hm:m<=9000)(My:1<=m)(ok:M1 m u rows)(cl:Cl s):Ĕ [.tup (rows.map rv),.int u] s=.ok (fq (jE (ŋ (Ť u rows) rows) rows)) (s++Ŗ u rows):=by
 apply R.wp.eq
 unfold Ĕ pw
 simp only[↓WS,↓WE,↓WV,Lq,î,UU,Ì,↓Û,↓bj (ES hm My ok cl)]
theorem nH:∀ (rows:Á Rw)(t:Rat),Č ((Ł t rows).map (·.2))+ŋ t rows=t
 | [],t=>by show(0:Rat)+t=t;grind
 | r :: rows,t=>by
  cases r with
  | left n q=>
   have:=nH rows (t - t * q)
   show t * q+Č ((Ł (t - t * q) rows).map (·.2))+ŋ (t - t * q) rows=t
   grind
  | of n q=>exact nH rows t
  | steps n us q=>exact nH rows t
  | len n q=>exact nH rows t
theorem Cj (t:Rat)(g:Int)(hg:g≠0):∀ l:Á (Str × Int),Č ((l.map λ p=>((p.1,t * Õ p.2 g):Str × Rat)).map (·.2))=t * Õ ((l.map (·.2)).sum) g
 | []=>by show(0:Rat)=t * Õ 0 g;rw[cg];grind
 | p :: r=>by
  have:=Cj t g hg r
  show t * Õ p.2 g+Č ((r.map λ p=>((p.1,t * Õ p.2 g):Str × Rat)).map (·.2))=t * Õ ((p :: r).map (·.2)).sum g
  rw[this,È,List.sum_cons,<-div_add hg]
  grind
theorem Pr (t:Rat)(h:∀ p∈ĺ rows,jo rows≠0):Č ((f_ t rows).map (·.2))+jE t rows=t:=by
 unfold jE
 cases hc:ĺ rows with
 | nil=>unfold f_;rw[hc];show(0:Rat)+t=t;grind
 | cons p r=>
  have g:=h p (by rw[hc];exact .head _)
  have:=Cj t (jo rows) g (ĺ rows)
  unfold f_
  rw[this,show((ĺ rows).map (·.2)).sum=jo rows from rfl,mQ g]
  show t * 1+0=t
  grind
theorem F8 (h:∀ p∈ĺ rows,jo rows≠0):Č ((aA u rows).map (·.2))+jE (ŋ (Ť u rows) rows) rows=1:=by
 unfold aA
 rw[ä,ä,eD,eD]
 have h1:=nH rows (Ť u rows)
 have h2:=Pr (ŋ (Ť u rows) rows) h
 have h3:Ť u rows=1 - Č ((ã u rows).map (·.2)):=rfl
 grind
theorem oj (h:a.Perm b):Č a=Č b:=by
 induction h with
 | nil=>rfl
 | cons x _ ih=>show x+Č _=x+Č _;rw[ih]
 | swap x y l=>show y+(x+Č l)=x+(y+Č l);grind
 | trans _ _ h1 h2=>exact h1.trans h2
theorem sum_set (n:Str)(q:Rat):∀ D:Á (Str × Rat),(D.map (·.1)).Nodup->n∈D.map (·.1)->Č ((D.map λ p=>if p.1=n then (p.1,q) else p).map (·.2))+(ř D n).getD 0=Č (D.map (·.2))+q
 | [],_,h=>nomatch h
 | p :: r,nd,h=>by
  rw[È,Ţ]at nd
  by_cases c:p.1=n
  ·have hn:n∉r.map (·.1):=c ▸ nd.1
   have e:(r.map λ p=>if p.1=n then (p.1,q) else p)=r:=by
    conv=>rhs;rw[<-List.map_id r]
    apply Ļ
    intro x hx
    rw[Ó (λ z=>hn (â.mpr ⟨x,hx,z⟩))];rfl
   rw[È,É c,e]
   unfold ř
   rw[É c]
   show q+Č (r.map (·.2))+p.2=p.2+Č (r.map (·.2))+q
   grind
  ·rw[È,Ó c]
   rw[È,Ò]at h
   have ih:=sum_set n q r nd.2 (h.resolve_left λ z=>c z.symm)
   unfold ř
   rw[Ó c]
   show p.2+Č _+_=p.2+Č _+q
   grind
theorem Pt (D:Á (Str × Rat)) (n:Str)(q:Rat)(nd:(D.map (·.1)).Nodup):Č ((nE D n ((ř D n).getD 0+q)).map (·.2))=Č (D.map (·.2))+q:=by
 unfold nE
 by_cases h:n∈D.map (·.1)
 ·rw[É ((lb n D).mpr h)]
  have:=sum_set n ((ř D n).getD 0+q) D nd h
  grind
 ·rw[Ó (λ z=>h ((lb n D).mp z)),ä,eD,yF h]
  show _+((0+q)+0)=_
  grind
theorem wy:∀ (l D:Á (Str × Rat)),(D.map (·.1)).Nodup->Č ((ï D l).map (·.2))=Č (D.map (·.2))+Č (l.map (·.2))
 | [],D,_=>by show _=_+(0:Rat);rw[eQ];rfl
 | (n,q) :: r,D,nd=>by
  unfold ï
  have Ik:((nE D n ((ř D n).getD 0+q)).map (·.1)).Nodup:=bV [(n,q)] D nd
  rw[wy r _ Ik,Pt D n q nd]
  show _=_+(q+Č (r.map (·.2)))
  grind
theorem CA:∀ (D:Á (Str × Rat)),(D.map (·.1)).Nodup->(D.map (·.1)).map (λ k=>(ř D k).getD 0)=D.map (·.2)
 | [],_=>rfl
 | p :: r,nd=>by
  rw[È,Ţ]at nd
  rw[È,È,È]
  have ih:=CA r nd.2
  congr 1
  ·unfold ř;rw[É rfl];rfl
  ·rw[<-ih]
   apply Ļ
   intro k hk
   rw[show ř (p :: r) k=if p.1=k then À p.2 else ř r k from rfl,Ó (λ(z:p.1=k)=>nd.1 (by rw[z];exact hk))]
theorem Pu (nd:(D.map (·.1)).Nodup):Č ((mB D).map (·.2))=Č (D.map (·.2)):=by
 unfold mB
 rw[ó,<-CA D nd]
 exact oj ((bY _).map _)
theorem Ci:∀ l:Á (Str × Rat),Č ((l.filter λ p=>!decide (p.2=0)).map (·.2))=Č (l.map (·.2))
 | []=>rfl
 | p :: r=>by
  have ih:=Ci r
  by_cases c:p.2=0
  ·rw[cG (by simpa using c),ih]
   show _=p.2+_
   rw[c];grind
  ·rw[mG (by simpa using c)]
   show p.2+_=p.2+_
   rw[ih]
theorem HP:Č ((ù u rows).map (·.2))=Č ((aA u rows).map (·.2)):=by
 unfold ù
 rw[Ci,Pu (bV _ [] Š),wy _ [] Š]
 show(0:Rat)+_=_
 grind
def Qd:Rw->Prop
 | .of n _=>MY n
 | .left n q=>MY n/\Pq q
 | .len n _=>MY n
 | .steps n us _=>MY n/\1<=us.length/\lT 1 (us.map λ p=>.int p.1)=true/\∀ p∈us,1<=p.1/\p.1<=400000
structure rY (rs:Á Rw)(room:Int):Prop where
 ok:M0 rs room
 ws:∃ ps:Á (Rw × Int),rs=ps.map (·.1)/\(∀ p∈ps,fB p.2 p.1/\Qd p.1)/\(ps.map (·.2)).sum=60 - room
theorem Lb:rY [] 60:=⟨⟨(λ _ h=>nomatch h),λ u=>by show(0:Rat)<=Õ 0 60;rw[cg];grind⟩,[],rfl,(λ _ h=>nomatch h),rfl⟩
theorem rY.snoc (h:rY rs room)(k:fB w r)(l:Qd r):rY (rs++[r]) (room - w):=by
 obtain⟨ps,e,hp,hs⟩:=h.ws
 refine⟨h.ok.snoc k,ps++[(r,w)],by rw[e,ä];rfl,λ p Bs=>?_,?_⟩
 ·rcases ê.mp Bs with Bs|Bs
  ·exact hp p Bs
  ·rw[ñ.mp Bs];exact⟨k,l⟩
 ·rw[ä,List.sum_append,hs]
  show 60 - room+(w+0)=60 - (room - w)
  lia
theorem yA (D:Dr c d n s)(hn:n<=900001000):(eY [.ref d] s).wp λ v s'=>∃ q,v=fq q/\Pq q/\0<=q/\q<=1/\Sz 6 q/\Dr c d (n+3) s'/\Kp c d s s':=by
 unfold eY mR
 walk_at "w"
 refine(take1 D).mono ?_
 rintro _ s1 ⟨r,rfl,h0,h1,D1,K1⟩
 walk_at "w"
 have D1':=D1.app (e:=[.lst [.int 2,.int 3,.int 4,.int 5,.int 10,.int (1+r)]]) (D1.cl.add (by simp[AO.low,ķ,AV.low]))
 refine(take1 D1').mono ?_
 rintro _ s2 ⟨j,rfl,j0,j1,D2,K2⟩
 obtain⟨v,hv,ev⟩:=vK (s:=s2) (i:=s1.length) (j:=j) (K2.gk.lst (n:=0) (by have:=D1.BD;lia) (by have:=D1.BE;lia) (ŕ s1 _)) j0 j1
 obtain⟨b,rfl,b0,b1⟩:∃ b,v=.int b/\1<=b/\b<=60:=by
  simp only[Ò,Ĉ,bz]at hv
  rcases hv with rfl|rfl|rfl|rfl|rfl|rfl<;>exact⟨_,rfl,by lia,by lia⟩
 have G:=(K1.gk.trans (Gk.app c d s1 _)).trans K2.gk
 obtain⟨D3,K3,al⟩:=G.cut D D2
 simp only[↓WS,↓WE,↓WV,Lq,î,UU,Ì,↓Û,↓bj ev,al,show AV.low s.length (.int b)=true by simp[AV.low]]
 refine(take1 D3).mono ?_
 rintro _ s3 ⟨i,rfl,i0,i1,D4,K4⟩
 simp only[↓WS,↓WE,↓WV,Lq,î,UU,Ì,↓Û,↓bj (qI (a:=1+i) (b:=b) _ (by lia) (by lia) (by lia) (by lia))]
 exact⟨_,rfl,⟨1+i,b,by lia,by lia,by lia,rfl⟩,jY (by lia) (by lia),uG (by lia) (by lia),Ym (by lia) (by lia) (by lia) (by lia),D4,K3.trans K4⟩
theorem La (D:Dr c d n s)(hn:n<=900000000)(Sl:MY nm)(r0:0<=room)(r1:room<=60):(gh [.ref d,.str nm,.int room] s).wp λ v s'=>∃ r w,v=.tup [rv r,.int w]/\fB w r/\Qd r/\0<=w/\w<=room/\Dr c d (n+20) s'/\Gk c d s s':=by
 unfold gh ph
 walk_at "w"
 refine(take1 D).mono ?_
 rintro _ s1 ⟨k,rfl,k0,k1,D1,K1⟩
 walk_at "w"
 split
 ·-- length
  rename_i c1
  have D1':=D1.app (e:=[.lst [.int 5,.int 1000]]) (D1.cl.add (by simp[AO.low,ķ,AV.low]))
  refine(take1 D1').mono ?_
  rintro _ s2 ⟨j,rfl,j0,j1,D2,K2⟩
  obtain⟨v,hv,ev⟩:=vK (s:=s2) (i:=s1.length) (j:=j) (K2.gk.lst (n:=0) (by have:=D1.BD;lia) (by have:=D1.BE;lia) (ŕ s1 _)) j0 j1
  obtain⟨b,rfl,b0,b1⟩:∃ b,v=.int b/\1<=b/\b<=1000:=by
   simp only[Ò,Ĉ,bz]at hv
   rcases hv with rfl|rfl<;>exact⟨_,rfl,by lia,by lia⟩
  obtain⟨D3,K3,al⟩:=((Gk.app c d s1 _).trans K2.gk).cut D1 D2
  simp only[↓WS,↓WE,↓WV,Lq,î,UU,Ì,↓Û,↓bj ev,al,show AV.low s1.length (.int b)=true by simp[AV.low]]
  refine(take1 D3).mono ?_
  rintro _ s3 ⟨i,rfl,i0,i1,D4,K4⟩
  walk_at "w"
  exact⟨.len nm (1+i),0,rfl,⟨rfl,by lia,by lia⟩,Sl,by lia,r0,D4.mono (by lia),K1.gk.trans (K3.gk.trans K4.gk)⟩
 ·split
  ·refine(yA D1 (by lia)).mono ?_
   rintro _ s2 ⟨q,rfl,hpq,q0,q1,q2,D2,K2⟩
   exact⟨.left nm q,0,rfl,⟨rfl,q0,q1,q2⟩,⟨Sl,hpq⟩,by lia,r0,D2.mono (by lia),K1.gk.trans K2.gk⟩
  split
  ·refine(yA D1 (by lia)).mono ?_
   rintro _ s2 ⟨q,rfl,hpq,q0,q1,q2,D2,K2⟩
   exact⟨.left nm q,0,rfl,⟨rfl,q0,q1,q2⟩,⟨Sl,hpq⟩,by lia,r0,D2.mono (by lia),K1.gk.trans K2.gk⟩
  rename_i c1 c2 c3
  have D1':=D1.app (e:=[.lst [.int 12,.int 60]]) (D1.cl.add (by simp[AO.low,ķ,AV.low]))
  refine(take1 D1').mono ?_
  rintro _ s2 ⟨j,rfl,j0,j1,D2,K2⟩
  have hj:j.fdiv 2=j / 2:=kq _ (by lia)
  obtain⟨v,hv,ev⟩:=vK (s:=s2) (i:=s1.length) (j:=j.fdiv 2) (K2.gk.lst (n:=0) (by have:=D1.BD;lia) (by have:=D1.BE;lia) (ŕ s1 _)) (by rw[hj];lia) (by rw[hj];show j / 2 < (2:Int);lia)
  obtain⟨b,rfl,b0,b1⟩:∃ b,v=.int b/\1<=b/\b<=60:=by
   simp only[Ò,Ĉ,bz]at hv
   rcases hv with rfl|rfl<;>exact⟨_,rfl,by lia,by lia⟩
  obtain⟨D3,K3,al⟩:=((Gk.app c d s1 _).trans K2.gk).cut D1 D2
  simp only[↓WS,↓WE,↓WV,Lq,î,UU,Ì,↓Û,↓bj ev,al,show AV.low s1.length (.int b)=true by simp[AV.low]]
  refine⟨⟨by decide,ir (n:=7) (g9 (by lia) (by lia)) (by lia)⟩,?_⟩
  obtain⟨m,em,m0,m1⟩:∃ m,(if b < room then b else room)=m/\1<=m/\m<=room:=⟨_,rfl,by split<;>lia,by split<;>lia⟩
  rw[em]
  refine(take1 D3).mono ?_
  rintro _ s3 ⟨i,rfl,i0,i1,D4,K4⟩
  have G4:Gk c d s s3:=K1.gk.trans (K3.gk.trans K4.gk)
  walk_at "w"
  split
  ·simp only[↓WS,↓WE,↓WV,Lq,î,UU,Ì,↓Û,↓bj (qI (a:=1+i) (b:=60) _ (by lia) (by lia) (by lia) (by lia))]
   exact⟨.of nm _,1+i,rfl,⟨by lia,by lia,1+i,by lia,by lia,rfl⟩,Sl,by lia,by lia,D4.mono (by lia),G4⟩
  ·-- steps
   have D5:=D4.app (e:=[.lst []]) (D4.cl.add (by simp[AO.low,ķ]))
   simp only[↓WS,↓WE,↓WV,Lq,î,UU,Ì,↓Û,↓uP]
   refine(take1 D5).mono ?_
   rintro _ s4 ⟨j2,rfl,a0,a1,D6,K6⟩
   walk_at "w"
   refine⟨⟨by lia,by lia⟩,?_⟩
   have lc:=D4.BD
   have ld:=D4.BE
   have L6:û s4 s3.length=À []:=K6.gk.lst (n:=0) (by lia) (by lia) (ŕ s3 _)
   refine lE (λ xs env st=>∃ (us:Á (Int × Rat)) (up:Int) (x:Í AV) (z:Nat),xs.length+us.length=(1+j2).toNat/\z=us.length/\0<=up/\up<=100001 * (z:Int)/\lT 1 (us.map λ p=>.int p.1)=true/\û st s3.length=À (us.map oI)/\(∀ p∈us,C1 (1+i) p.2/\p.1<=up/\1<=p.1/\p.1<=400000)/\env=[À (AV.ref d),À (.str nm),À (.int room),À (.int k),À (.int (1+i)),À (.ref s3.length),À (.int up),x]/\Dr c d (n+5+3 * z) st/\Gk c d s3 st) ?_ ?_ ?_ _ _ _ ⟨[],0,none,0,by simp[jj],rfl,by lia,by lia,rfl,L6,(λ _ h=>nomatch h),rfl,D6.mono (by lia),(Gk.app c d s3 _).trans K6.gk⟩
   ·rintro _ _ st _ p hp;cases hp
   ·rintro env st ⟨us,up,x,z,z0,rfl,u0,u1,uo,l1,l2,rfl,D7,G7⟩
    have z0:0+us.length=(1+j2).toNat:=z0
    simp only[↓WS,↓WE,↓WV,Lq,î,UU,Ì,↓Û,sv l1]
    refine(take1 D7).mono ?_
    rintro _ s5 ⟨j3,rfl,b0,b1,D8,K8⟩
    have l5:=K8.gk.lst (n:=0) (by lia) (by lia) l1
    have l6:=qJ (ys:=us.map oI++[AV.tup [.ĥ,fq (Õ (1+j3) 60)]]) l5
    simp only[↓WS,↓WE,↓WV,Lq,î,UU,Ì,↓Û,↓bj (qI (a:=1+j3) (b:=60) _ (by lia) (by lia) (by lia) (by lia)),↓bj (append_at l5 (Ş (by simp;lia))),items,l6,iu]
    refine⟨.steps nm us (Õ (1+j3) 60),1+i,rfl,⟨by lia,by lia,by lia,λ p hp=>(l2 p hp).1,1+j3,by lia,by lia,rfl⟩,⟨Sl,by lia,uo,λ p hp=>(l2 p hp).2.2⟩,by lia,by lia,?_,G4.trans ((G7.trans K8.gk).set (Î _))⟩
    exact(D8.mono (by lia)).set (by lia) (by lia) (by simp[AO.low,nt,zC,ķ,AV.low,iq])
   ·rintro v r env st ⟨us,up,x,z,z0,rfl,u0,u1,uo,l1,l2,rfl,D7,G7⟩
    have z0:r.length+1+us.length=(1+j2).toNat:=z0
    simp only[↓WS,↓WE,↓WV,Lq,î,UU,Ì,↓Û,show(10:Int) ^ (5:Int).toNat=100000 by decide,show IB 10 5=True from YT (by decide)]
    refine(OJ (m:=3) (xs:=[.int 3,.int 9,.int 100000]) D7 (by lia) (by rfl) (by lia) (by lia) (P:=λ b=>1<=b/\b<=100000) (by
     intro v hv
     simp only[Ò,Ĉ,bz]at hv
     rcases hv with rfl|rfl|rfl<;>exact⟨_,rfl,by lia,by lia⟩)).mono ?_
    rintro _ s5 ⟨b,ev,⟨b0,b1⟩,al,D8,K8⟩
    rw[bj ev]
    refine⟨⟨al,by simp[AV.low]⟩,?_⟩
    refine(take1 D8).mono ?_
    rintro _ s6 ⟨j3,rfl,b2,b3,D9,K9⟩
    have l6:=(K8.trans K9).gk.lst (n:=0) (by lia) (by lia) l1
    simp only[↓WS,↓WE,↓WV,Lq,î,UU,Ì,↓Û,sv l6]
    refine(take1 D9).mono ?_
    rintro _ s7 ⟨j4,rfl,b4,b5,D10,K10⟩
    have l7:=K10.gk.lst (n:=0) (by lia) (by lia) l6
    simp only[↓WS,↓WE,↓WV,Lq,î,UU,Ì,↓Û,↓bj (qI (a:=1+j4) (b:=60) _ (by lia) (by lia) (by lia) (by lia)),↓bj (append_at l7 (Ş (by simp;lia)))]
    refine⟨us++[(up+1+j3,Õ (1+j4) 60)],up+1+j3,_,us.length+1,by simp;lia,by simp,by lia,by lia,?_,?_,?_,rfl,?_,(((G7.trans K8.gk).trans K9.gk).trans K10.gk).set (Î _)⟩
    ·rw[ä]
     refine Gj _ 1 up uo (λ u hu=>?_) (by lia) (by lia) (by lia)
     obtain⟨p,hp,rfl⟩:=â.mp hu
     exact(l2 p hp).2.1
    ·rw[qJ l7,ä];rfl
    ·intro p hp
     rcases ê.mp hp with hp|hp
     ·have:=l2 p hp
      exact⟨this.1,by lia,by lia,by lia⟩
     ·simp only[ñ]at hp
      subst hp
      exact⟨⟨1+j4,by lia,by lia,rfl⟩,by dsimp only;lia,by dsimp only;lia,by dsimp only;lia⟩
    ·exact(D10.mono (by lia)).set (by lia) (by lia) (by simp[AO.low,nt,zC,ķ,AV.low,iq])
theorem nkd:∀ q:Rw,(∃ n p,q=.left n p)∨∃ kd,Hc q=.str kd/\((kd=("left":Str))=False)/\∀ l,nL (l++[q])=nL l
 | .left n p=>.inl ⟨n,p,rfl⟩
 | .of _ _=>.inr ⟨_,rfl,jO (by decide),λ l=>by rw[vX];rfl⟩
 | .steps _ _ _=>.inr ⟨_,rfl,jO (by decide),λ l=>by rw[vX];rfl⟩
 | .len _ _=>.inr ⟨_,rfl,jO (by decide),λ l=>by rw[vX];rfl⟩
theorem HE (D:Dr c d n s)(hn:n<=800000000)(hJ:û s J=À (zs.map AV.str)) (hz:zs≠[])(hzn:∀ z∈zs,MY z)(jc:J≠c)(jd:J≠d)(hz2:zs.length<=99)(k0:0<=k)(k1:k<=8) :
  (eZ [.ref d,.ref J,.int k] s).wp λ v s'=>∃ rs room,v=.tup (rs.map rv)/\rY rs room/\0<=room/\rs.length<=8/\nL rs<=3/\Dr c d (n+200) s'/\Gk c d s s':=by
 have lc:=D.BD
 have ld:=D.BE
 have hJl:J < s.length:=(Ë.mp (ń hJ)).1
 have hzl:0 < zs.length:=Ip.mpr hz
 unfold eZ mS
 have eN:aS (.ref J) (.ref (s++[AO.lst []]).length) ((s++[AO.lst []])++[.lst []])=.ok (.bl true) ((s++[AO.lst []])++[.lst []]):=ne_nil (du (du hJ)) (ŕ _ _) (r_ zs) (by simpa using hz)
 have D0:=D.app (e:=[.lst []]) (D.cl.add (by simp[AO.low,ķ]))
 simp only[↓WS,↓WE,↓WV,Lq,î,UU,Ì,↓Û,↓uP,↓bj eN,gJ,show ∀ b,AV.low b (.bl true)=true from λ _=>by simp[AV.low],xD]
 refine⟨⟨ae (n:=7) (g9 k0 (by lia)) (by lia),ae (n:=7) (g9 (by lia) (by lia)) (by lia)⟩,⟨by lia,by lia⟩,?_⟩
 refine lE (λ xs env st=>∃ (rs:Á Rw) (room:Int) (x y w:Í AV) (z:Nat),(xs.length:Int)+z=k/\rs.length<=z/\nL rs<=3/\rY rs room/\0<=room/\room<=60/\û st s.length=À (rs.map rv)/\û st J=À (zs.map AV.str)/\env=[À (AV.ref d),À (.ref J),À (.int k),À (.int room),À (.ref s.length),x,y,w]/\Dr c d (n+22 * z) st/\Gk c d s st) ?_ ?_ ?_ _ _ _ ⟨[],60,none,none,none,0,by simp[jj];lia,Î _,by simp[nL],Lb,by lia,by lia,ŕ _ _,du hJ,rfl,D0,Gk.app c d s _⟩
 ·rintro _ _ st _ p hp;cases hp
 ·rintro env st ⟨rs,room,x,y,w,z,z0,z1,z2,z3,z4,z5,l1,l2,rfl,D1,G1⟩
  have z0:((0:Nat):Int)+z=k:=z0
  simp only[↓WS,↓WE,↓WV,Lq,î,UU,Ì,↓Û,items,l1,iu]
  exact⟨rs,room,rfl,z3,z4,by lia,z2,D1.mono (by lia),G1⟩
 ·rintro v r env st ⟨rs,room,x,y,w,z,z0,z1,z2,z3,z4,z5,l1,l2,rfl,D1,G1⟩
  have z0:((r.length+1:Nat):Int)+z=k:=z0
  simp only[↓WS,↓WE,↓WV,Lq,î,UU,Ì,↓Û,↓bj (sC l2),Æ]
  refine(take1 D1).mono ?_
  rintro _ s1 ⟨j,rfl,j0,j1,D2,K2⟩
  obtain⟨v',hv,ev⟩:=vK (K2.gk.lst (n:=0) jc jd l2) j0 (by rw[Æ];exact j1)
  obtain⟨nm,Sl,rfl⟩:=â.mp hv
  simp only[↓WS,↓WE,↓WV,Lq,î,UU,Ì,↓Û,↓bj ev]
  refine(La D2 (by lia) (hzn nm Sl) z4 z5).mono ?_
  rintro _ s2 ⟨q,w',rfl,h1,WA,h2,h3,D3,G3⟩
  have l3:=G3.lst (n:=0) (by lia) (by lia) (K2.gk.lst (n:=0) (by lia) (by lia) l1)
  have l4:=G3.lst (n:=0) jc jd (K2.gk.lst (n:=0) jc jd l2)
  have G4:=(G1.trans K2.gk).trans G3
  have app:∀ bJ,(∃ (x y w:Í AV),bJ=[À (AV.ref d),À (.ref J),À (.int k),À (.int (room - w')),À (.ref s.length),x,y,w])->nL (rs++[q])<=3->(cN (.ref s.length) [rv q] s2).wp (λ _ s1=>∃ (rs:Á Rw) (room:Int) (x y w:Í AV) (z:Nat),(r.length:Int)+z=k/\rs.length<=z/\nL rs<=3/\rY rs room/\0<=room/\room<=60/\û s1 s.length=À (rs.map rv)/\û s1 J=À (zs.map AV.str)/\bJ=[À (AV.ref d),À (.ref J),À (.int k),À (.int room),À (.ref s.length),x,y,w]/\Dr c d (n+22 * z) s1/\Gk c d s s1):=by
   rintro bJ ⟨x',y',w2,rfl⟩ hnl
   rw[bj (append_at l3 (Ş (by simp;lia)))]
   refine⟨rs++[q],room - w',x',y',w2,z+1,by lia,by simp;lia,hnl,z3.snoc h1 WA,by lia,by lia,?_,?_,rfl,?_,G4.set (Î _)⟩
   ·rw[qJ l3,ä];rfl
   ·rw[show û (s2.set s.length _) J=û s2 J by unfold û;rw[ô (by lia)]];exact l4
   ·exact(D3.mono (by lia)).set (by lia) (by lia) (by simp[AO.low,nt,zB,ķ,J2])
  simp only[↓WS,↓WE,↓WV,Lq,î,UU,Ì,↓Û,↓bj (B8 q _)]
  rcases nkd q with⟨nm',q',rfl⟩|⟨kd,e1,e2,e3⟩
  case' inr=>
   rw[e1]
   simp only[↓WS,↓WE,↓WV,Lq,î,UU,Ì,↓Û,e2,sv l3]
   exact app _ ⟨_,_,_,rfl⟩ (by rw[e3];exact z2)
  case inl=>
   rw[show Hc (.left nm' q')=.str "left" from rfl]
   have w3:wD (.ref s.length) s2=_:=(Ib.ref l3).src
   simp only[↓WS,↓WE,↓WV,Lq,î,UU,Ì,↓Û,MS,sv l3,↓bj w3,↓NR rs s2 _ l3,Fg,↓bj (GL _ _),gJ,show ∀ b i,AV.low b (.int i)=true from λ _ _=>by simp[AV.low]]
   refine⟨p7 (by rw[Æ];lia),?_⟩
   split
   ·rename_i cc
    exact app _ ⟨_,_,_,rfl⟩ (by rw[vX];simp[nL];lia)
   ·refine⟨rs,room - w',_,_,_,z+1,by lia,by lia,z2,?_,by lia,by lia,l3,l4,rfl,D3.mono (by lia),G4⟩
    have:w'=0:=h1.1
    rw[this,Int.sub_zero];exact z3
theorem HJ (D:Dr c d n s)(hn:n<=700000000):(a_ [.ref d] s).wp λ v s'=>∃ rs,v=.tup (rs.map rv)/\Good rs/\(∃ room,0<=room/\rY rs room)/\Dr c d (n+240) s'/\Kp c d s s':=by
 have lc:=D.BD
 have ld:=D.BE
 unfold a_ gb
 walk_at "w"
 refine(take1 D).mono ?_
 rintro _ s1 ⟨a,rfl,a0,a1,D1,K1⟩
 refine(take1 D1).mono ?_
 rintro _ s2 ⟨b,rfl,b0,b1,D2,K2⟩
 have D2':=D2.app (e:=[.lst [.int a,.int b]]) (D2.cl.add (by simp[AO.low,ķ,AV.low]))
 refine(take1 D2').mono ?_
 rintro _ s3 ⟨e,rfl,e0,e1,D3,K3⟩
 walk_at "w"
 have l2:=D2.BD
 have l3:=D2.BE
 obtain⟨v,hv,ev⟩:=vK (s:=s3) (i:=s2.length) (j:=(if e=0 then 1 else 0)) (K3.gk.lst (n:=0) (by lia) (by lia) (ŕ s2 _)) (by split<;>lia) (by show _ < (2:Int);split<;>lia)
 obtain⟨k,rfl,k0,k1⟩:∃ k,v=.int k/\0<=k/\k<=8:=by
  simp only[Ò,Ĉ,bz]at hv
  rcases hv with rfl|rfl<;>exact⟨_,rfl,by lia,by lia⟩
 obtain⟨D4,K4,al⟩:=(((K1.trans K2).gk.trans (Gk.app c d s2 _)).trans K3.gk).cut D D3
 rw[bj (show(need (û s3 s2.length) λ xs=>need (oB xs (if e=0 then 1 else 0)) λ v=>R.ok v s3)=_ from ev)]
 refine⟨⟨al,by simp[AV.low]⟩,?_⟩
 revert D4 K4
 generalize s3.take s.length=s4
 intro D4 K4
 refine(take1 D4).mono ?_
 rintro _ s5 ⟨g,rfl,g0,g1,D5,K5⟩
 walk_at "w"
 refine(names4 D5 (by lia) (by lia) (by lia)).mono ?_
 rintro _ s6 ⟨j,zs,rfl,j0,j1,j2,jn,_,D6,G6⟩
 obtain⟨D7,K7,Z0⟩:=(K5.gk.trans G6).cut D4 D6
 have hj:s4.length<=j:=by rw[<-K5.len];exact j0
 simp only[↓WS,↓WE,↓WV,Lq,î,UU,Ì,↓Û,j1,↓kW,Z0,hV,hj]
 revert D7 K7 Z0
 generalize s6.take s4.length=s7
 intro D7 K7 Z0
 have hz:zs≠[]:=by rintro rfl;have:((0:Nat):Int)=1+g:=j2;lia
 have D7':=D7.app (e:=[.lst (zs.map AV.str)]) (D7.cl.add (by simp[AO.low,hV]))
 have l4:=D7.BD
 have l5:=D7.BE
 refine(HE D7' (by lia) (ŕ s7 _) hz (λ z h=>⟨(zF z (jn z h)).1,Kk (jn z h)⟩) (by lia) (by lia) (by lia) k0 k1).mono ?_
 rintro _ s8 ⟨rs,room,rfl,h1,h2,h3,h4,D8,G8⟩
 obtain⟨D9,K9,al9⟩:=(K7.gk.trans ((Gk.app c d s7 _).trans G8)).cut D4 D8
 refine⟨⟨al9,by simp[AV.low,zB]⟩,rs,rfl,⟨h1.ok.a,λ u=>?_,h3,h4⟩,⟨room,h2,h1⟩,D9.mono (by lia),K4.trans K9⟩
 have e1:=h1.ok.s u
 have e2:Õ (60 - room) 60<=1:=uG (by lia) (by lia)
 grind
def p6:Rw->Str
 | .of _ _=>"of"
 | .steps _ _ _=>"steps"
 | .left _ _=>"left"
 | .len _ _=>"length"
theorem JV (r:Rw):Hc r=.str (p6 r):=by cases r<;>rfl
def gC (rows:Á Rw)(k:Str):Á Rw:=rows.filter λ r=>decide (p6 r=k)
theorem Kg (e:m env s=.ok (.ref i) s) (l:û s i=À xs)(hf:xs.all eh=true):zl (cB (Ö aS m (Ę (aL Ð)))) env s=.ok (!xs.isEmpty) s:=by
 have e2:Ę (aL Ð) env s=.ok (.ref s.length) (s++[.lst []]):=by
  unfold Ę aL Ð
  simp only[ð]
  rw[É (show([]:Á AV).length<=sizeLine from Ă _)]
  rfl
 have e3:aS (.ref i) (.ref s.length) (s++[.lst []])=.ok (.bl (!xs.isEmpty)) (s++[.lst []]):=by
  unfold aS
  rw[vi (jF l) (ű _ []) hf]
  rfl
 unfold zl cB Ö
 rw[e,ð,e2,ð,e3,ð,ð,É]
 rw[Ő]
 rfl
theorem GS (rows:Á Rw)(k:Str)(e1:Ĳ (mv 1) env s=.ok (rows.map rv,[]) s) (hl:rows.length<=1000)(e2:lS l env=[none,À (.str k)]):Œ l (Ĳ (mv 1)) (gN 0) (cB (Ö cz (Ö Ħ (mv 0) (mc (.int 0))) (mv 1))) (mv 0) env s=.ok ((gC rows k).map rv) s:=by
 unfold Œ
 rw[e1,ð,É (p7 (by rw[Æ];exact hl)),e2,jx (λ v=>oD k (Cu v)) (bM s) _ _ _ λ v hv=>?_]
 ·rw[ľ]
  congr 1
  unfold gC
  rw[xF]
  congr 1
  refine MH λ r _=>?_
  show oD k (Cu (rv r))=_
  cases r<;>rfl
 ·obtain⟨r,_,rfl⟩:=â.mp hv
  refine r6 (af (af rfl rfl (B8 r s)) rfl ?_)
  rw[JV]
  cases r<;>rfl
abbrev e5 (d:Nat)(rows:Á Rw)(j:Nat)(qs:Á Rw)(x4:Í AV):En:=[À (.ref d),À (.tup (rows.map rv)),À (.ref j),À (.tup (qs.map rv)),x4]
abbrev cK:Eb:=zl (cB (Ö aS (mv 2) (Ę (aL Ð))))
abbrev bK:Ms:=(ì (Ī 4 (pN "list" tq (mv 2) (Ã (Ø 2 ë (Ã (mv 0) (Ã (kl cZ (Ã (mv 2) Ð)) Ð))) Ð)))
 (Ī 3 (Ö pP (mv 3) (mI iu (Œ [("_law_row_here",none),("_law_kind",À 4)] (Ĳ (mv 1)) (gN 0) (cB (Ö cz (Ö Ħ (mv 0) (mc (.int 0))) (mv 1))) (mv 0))))))
theorem Rq (h:xs.length+ys.length<=1000):pP (.tup xs) (.tup ys) s=.ok (.tup (xs++ys)) s:=by
 show(if xs.length+ys.length<=sizeLine then R.ok (AV.tup (xs++ys)) s else .bad)=_
 rw[É (p7 h)]
theorem LH {m:RS}{g:En->S->RS}{N:En->S->Prop}{T:AV->S->Prop}(h:m.wp (λ e s2=>(g e s2).wp N T) T):(match m with
   | .nx e s2=>g e s2
   | .ct e s2=>g e s2
   | .bk e s2=>.nx e s2
   | r=>r).wp N T:=by
 cases m with
 | nx e s=>exact h
 | rt v s=>exact h
 | _=>exact h.elim
theorem vO {rows:Á Rw}(hr:rows.length<=8)(jc:j≠c)(jd:j≠d)(T:AV->S->Prop):∀ (f n:Nat) (ks:Á Str) (qs:Á Rw) (x4:Í AV) (s:S),ks.length < f->ks.length<=4->qs.length+8 * ks.length<=32->Dr c d n s->n+ks.length<=800000000->û s j=À (ks.map AV.str)->
  (Ay cK bK f (e5 d rows j qs x4) s).wp (λ env s'=>∃ (my:Á Str) (x4':Í AV),my.Perm ks/\env=e5 d rows j (qs++my.flatMap (gC rows)) x4'/\Dr c d (n+ks.length) s'/\s'.length=s.length/\∀ i,i≠c->i≠d->i≠j->s'[i]? = s[i]?) T
 | 0,n,ks,qs,x4,s,h,_,_,_,_,_=>by lia
 | f+1,n,ks,qs,x4,s,h,h4,h8,D,hn,l=>by
  unfold Ay
  rw[show cK (e5 d rows j qs x4) s=.ok (!(ks.map AV.str).isEmpty) s from Kg (m:=mv 2) (env:=e5 d rows j qs x4) rfl l (r_ ks)]
  cases ks with
  | nil=>exact⟨[],x4,uR _,by simp,D,rfl,λ _ _ _ _=>rfl⟩
  | cons k0 ks0=>
   show(match bK (e5 d rows j qs x4) s with
    | .nx e s2=>Ay cK bK f e s2
    | .ct e s2=>Ay cK bK f e s2
    | .bk e s2=>.nx e s2
    | r=>r).wp _ _
   refine LH ?_
   generalize Y8:k0 :: ks0=ks at *
   have ab9:0 < ks.length:=by rw[<-Y8];simp
   have lc:=D.BD
   have ld:=D.BE
   have lj:j < s.length:=(Ë.mp (ń l)).1
   refine Ž λ K hK=>?_
   simp only[↓WS,↓WE,↓WV,Lq,î,UU,Ì,↓Û,sv l,↓bj (sC l),Æ]
   refine(take1 D).mono ?_
   rintro _ s1 ⟨i,rfl,i0,i1,D1,K1⟩
   have l1:=K1.gk.lst (n:=0) jc jd l
   obtain⟨m,rfl⟩:∃ m:Nat,i=m:=⟨i.toNat,by lia⟩
   have hm:m < ks.length:=by lia
   have ep:tq (.ref j) [.int m] s1=.ok (.str ks[m]) (s1.set j (.lst ((ks.eraseIdx m).map AV.str))):=by
    show(need (û s1 j) λ xs=>if 0<=(m:Int)/\(m:Int) < xs.length then need xs[(m:Int).toNat]? λ y=>R.ok y (s1.set j (.lst (xs.eraseIdx (m:Int).toNat))) else .bad)=_
    rw[l1,ď,É ⟨by lia,by rw[Æ];lia⟩]
    show(need (ks.map AV.str)[m]? λ y=>R.ok y (s1.set j (.lst ((ks.map AV.str).eraseIdx m))))=_
    rw[ò,Ñ hm]
    show R.ok (AV.str ks[m]) _=_
    rw[Dw]
   rw[bj ep,hK]
   clear hK K
   have D2:=D1.set (i:=j) (o:=.lst ((ks.eraseIdx m).map AV.str)) jc jd (hV _ _)
   have l2:=qJ (ys:=(ks.eraseIdx m).map AV.str) l1
   have n2:(s1.set j (.lst ((ks.eraseIdx m).map AV.str))).length=s.length:=by rw[š];exact K1.len
   have g2:∀ i,i≠c->i≠d->i≠j->(s1.set j (.lst ((ks.eraseIdx m).map AV.str)))[i]? = s[i]?:=λ i h1 h2 h3=>by rw[ô (bR h3)];exact K1.get i h1 h2
   revert D2 l2 n2 g2
   generalize s1.set j (.lst ((ks.eraseIdx m).map AV.str))=s2
   intro D2 l2 n2 g2
   have hle:(gC rows ks[m]).length<=8:=ā (bE _ _) hr
   have ef:=GS rows ks[m] (l:=[("_law_row_here",none),("_law_kind",À 4)]) (env:=e5 d rows j qs (À (.str ks[m]))) (s:=s2) rfl (by lia) rfl
   have eg:mI iu (Œ [("_law_row_here",none),("_law_kind",À 4)] (Ĳ (mv 1)) (gN 0) (cB (Ö cz (Ö Ħ (mv 0) (mc (.int 0))) (mv 1))) (mv 0)) (e5 d rows j qs (À (.str ks[m]))) s2=.ok (.tup ((gC rows ks[m]).map rv)) s2:=by unfold mI;rw[ef];rfl
   have ea:Ö pP (mv 3) (mI iu (Œ [("_law_row_here",none),("_law_kind",À 4)] (Ĳ (mv 1)) (gN 0) (cB (Ö cz (Ö Ħ (mv 0) (mc (.int 0))) (mv 1))) (mv 0))) (e5 d rows j qs (À (.str ks[m]))) s2=.ok (.tup ((qs++gC rows ks[m]).map rv)) s2:=by
    rw[ä]
    exact af (v:=.tup (qs.map rv)) rfl eg (Rq (by rw[Æ,Æ];lia))
   show(Ī 3 _ (e5 d rows j qs (À (.str ks[m]))) s2).wp _ _
   rw[WS.2.1,bj ea]
   have Qs:(ks.eraseIdx m).length+1=ks.length:=by rw[dR hm];lia
   refine(vO hr jc jd T f (n+1) (ks.eraseIdx m) (qs++gC rows ks[m]) (À (.str ks[m])) s2 (by lia) (by lia) (by rw[õ];lia) D2 (by lia) l2).mono ?_ (λ _ _ h=>h)
   rintro env s' ⟨my,x4',pm,rfl,D3,n3,g3⟩
   refine⟨ks[m] :: my,x4',((mM _ pm).trans (vm ks m hm)),by rw[ņ,æ],D3.mono (by lia),by lia,λ i h1 h2 h3=>by rw[g3 i h1 h2 h3,g2 i h1 h2 h3]⟩
theorem A3 (D:Dr c d n s)(hn:n<=700000000)(hr:rows.length<=8):(aK [.ref d,.tup (rows.map rv)] s).wp λ v s'=>∃ ks:Á Str,ks.Perm ["of","steps","left","length"]/\v=.tup ((ks.flatMap (gC rows)).map rv)/\Dr c d (n+4) s'/\Gk c d s s':=by
 have lc:=D.BD
 have ld:=D.BE
 unfold aK ib
 refine Wu ?_
 refine Ž λ K hK=>?_
 walk_at "w"
 refine⟨p7 (by simp),?_⟩
 rw[hK]
 clear hK K
 refine Ž λ K hK=>?_
 walk_at "w"
 rw[hK]
 clear hK K
 have D1:=D.app (e:=[.lst ((["of","steps","left","length"]:Á Str).map AV.str)]) (D.cl.add (by simp only[Ĩ,jq,dm,AO.low];exact hV _ _))
 have l1:û (s++[.lst ((["of","steps","left","length"]:Á Str).map AV.str)]) s.length=À ((["of","steps","left","length"]:Á Str).map AV.str):=ű _ _
 refine Ž λ K hK=>?_
 show(Ay cK bK 9 (e5 d rows s.length [] none) (s++[.lst ((["of","steps","left","length"]:Á Str).map AV.str)])).wp _ _
 refine(vO hr (by lia) (by lia) _ 9 n ["of","steps","left","length"] [] none _ (by decide) (by decide) (by decide) D1 (by show n+4<=_;lia) l1).mono ?_ (λ _ _ h=>h)
 rintro env s' ⟨ks,x4,pm,rfl,D2,n2,g2⟩
 rw[hK]
 walk_at "w"
 refine⟨ks,pm,by rw[ľ],D2,by rw[n2];simp,λ i hi h1 h2=>?_⟩
 rw[g2 i h1 h2 (by lia),é hi]
def Aw (a b:Rat):Rat:=if a < b then b else a
def Mr:Rw->Rat
 | .of _ q=>q
 | .steps _ us z=>(us.map (·.2)++[z]).foldl Aw 0
 | _=>0
theorem Fy (p q:Rat):decide (p.num * q.den < q.num * p.den)=decide (p < q):=o8.mpr (Rat.lt_iff p q).symm
theorem QH (h:Sz n a)(k:Sz n b):Sz n (Aw a b):=by unfold Aw;split<;>assumption
theorem Xy (h:a<=m)(k:b<=m):Aw a b<=m:=by unfold Aw;split<;>assumption
theorem Xz (h:0<=a):0<=Aw a b:=by unfold Aw;split<;>grind
theorem Yl:Sz 901 0:=by
 have:Sz 6 (Õ 0 60):=Ym (by lia) (by lia) (by lia) (by lia)
 rw[cg]at this
 exact this.mono (by lia)
abbrev gB:Ms:=(eL (cT (Ø 2 gp (Ã (mv 1) (Ã (mv 6) Ð)))) (Ī 1 (mv 6)) Ľ)
abbrev Qp:Ms:=(ì (eL (cB (Ö cz (mv 3) (mc (.str "of")))) (ě (mv 2)) Ľ)
 (ì (Ī 1 (mc fj))
 (ì (gD (Ĳ (mv 2)) (gT 2 (Ù (gN 5) (Ù (gN 6) ę))) gB)
 (ě (mv 1)))))
theorem Bk:∀ (xs:Á (AV × Rat)) (g:Rat)(x5 x6:Í AV),Sz 901 g->(∀ p∈xs,Sz 901 p.2)->∃ y5 y6,forL (gT 2 (Ù (gN 5) (Ù (gN 6) ę))) gB [] (xs.map λ p=>.tup [p.1,fq p.2]) [x0,À (fq g),x2,x3,x4,x5,x6] s=.nx [x0,À (fq ((xs.map (·.2)).foldl Aw g)),x2,x3,x4,y5,y6] s
 | [],g,x5,x6,_,_=>⟨x5,x6,by rw[aE,forL,É (bM s)];rfl⟩
 | p :: r,g,x5,x6,hg,h=>by
  have hp:=h p (.head _)
  obtain⟨y5,y6,ih⟩:=Bk (x0:=x0) (x2:=x2) (x3:=x3) (x4:=x4) (s:=s) r (Aw g p.2) (À p.1) (À (fq p.2)) (QH hg hp) λ q hq=>h q (.tail _ hq)
  refine⟨y5,y6,?_⟩
  rw[È,forL,É (bM s)]
  have e:gB [x0,À (fq g),x2,x3,x4,À p.1,À (fq p.2)] s=.nx [x0,À (fq (Aw g p.2)),x2,x3,x4,À p.1,À (fq p.2)] s:=by
   have c1:=jl (call2 (m:=mv 1) (m2:=mv 6) (env:=[x0,À (fq g),x2,x3,x4,À p.1,À (fq p.2)]) (s:=s) rfl rfl (vJ s hg hp))
   rw[Fy]at c1
   unfold gB eL
   rw[c1]
   unfold Aw
   by_cases hl:g < p.2
   ·rw[ø hl,É hl];rfl
   ·rw[ĳ hl,Ó hl];rfl
  show(match gB [x0,À (fq g),x2,x3,x4,À p.1,À (fq p.2)] s with
   | .nx e2 s2=>forL (gT 2 (Ù (gN 5) (Ù (gN 6) ę))) gB [] (r.map λ p:AV × Rat=>AV.tup [p.1,fq p.2]) e2 s2|.ct e2 s2=>forL (gT 2 (Ù (gN 5) (Ù (gN 6) ę))) gB [] (r.map λ p:AV × Rat=>AV.tup [p.1,fq p.2]) e2 s2|.bk e2 s2=>.nx e2 s2|q=>q)=_
  rw[e]
  exact ih
theorem DJ (h:C1 w q)(hw:w<=60):Sz 6 q:=by
 obtain⟨j,h1,h2,rfl⟩:=h
 exact Ym (by lia) (by lia) (by lia) (by lia)
theorem sZ (h:fB w r)(hk:p6 r="of"∨p6 r="steps")(s:S):ś [rv r] s=.ok (fq (Mr r)) s:=by
 cases r with
 | of n q=>rfl
 | left n q=>
  rcases hk with h|h
  ·exact absurd h (show ¬ (("left":Str)="of") by decide +kernel)
  ·exact absurd h (show ¬ (("left":Str)="steps") by decide +kernel)
 | len n k=>
  rcases hk with h|h
  ·exact absurd h (show ¬ (("length":Str)="of") by decide +kernel)
  ·exact absurd h (show ¬ (("length":Str)="steps") by decide +kernel)
 | steps n us z=>
  obtain⟨h1,h2,h3,h4,h5⟩:=h
  refine fh ?_
  let xs:Á (AV × Rat):=us.map (λ p=>(AV.int p.1,p.2))++[(.ĥ,z)]
  have ex:us.map oI++[AV.tup [.ĥ,fq z]]=xs.map λ p=>AV.tup [p.1,fq p.2]:=by
   show _=(us.map (λ p=>(AV.int p.1,p.2))++[(AV.ĥ,z)]).map _
   rw[ä,ó];rfl
  have eg:(xs.map (·.2)).foldl Aw 0=Mr (.steps n us z):=by
   show((us.map (λ p=>(AV.int p.1,p.2))++[(AV.ĥ,z)]).map (·.2)).foldl Aw 0=(us.map (·.2)++[z]).foldl Aw 0
   rw[ä,ó];rfl
  have hx:∀ p∈xs,Sz 901 p.2:=λ p hp=>by
   rcases ê.mp hp with hp|hp
   ·obtain⟨q,hq,rfl⟩:=â.mp hp
    exact(DJ (h4 q hq) h2).mono (by lia)
   ·rw[ñ.mp hp]
    exact(DJ h5 h2).mono (by lia)
  let V:AV:=rv (.steps n us z)
  obtain⟨y5,y6,hf⟩:=Bk (x0:=À V) (x2:=À (.tup (us.map oI++[.tup [.ĥ,fq z]]))) (x3:=À (.str "steps")) (x4:=À (.str n)) (s:=s) xs 0 none none Yl hx
  rw[eg,<-ex]at hf
  show Qp [À V,none,À (.tup (us.map oI++[.tup [.ĥ,fq z]])),À (.str "steps"),À (.str n),none,none] s=_
  unfold Qp
  refine(JL (c:=cB (Ö cz (mv 3) (mc (.str "of")))) (r6 (x:=false) (af rfl rfl ?_)) ?_)
  ·show R.ok (AV.bl (decide (("steps":Str)="of"))) s=_
   rw[show decide (("steps":Str)="of")=false by decide +kernel]
  ·show ì (gD (Ĳ (mv 2)) (gT 2 (Ù (gN 5) (Ù (gN 6) ę))) gB) (ě (mv 1)) [À V,À (fq 0),À (.tup (us.map oI++[.tup [.ĥ,fq z]])),À (.str "steps"),À (.str n),none,none] s=_
   unfold ì gD
   show(match forL (gT 2 (Ù (gN 5) (Ù (gN 6) ę))) gB [] (us.map oI++[.tup [.ĥ,fq z]]) [À V,À (fq 0),À (.tup (us.map oI++[.tup [.ĥ,fq z]])),À (.str "steps"),À (.str n),none,none] s with|.nx e s1=>ě (mv 1) e s1|r=>r)=_
   rw[hf]
   rfl
theorem Ju (h:fB w r):0<=Mr r/\Mr r<=Õ w 60/\Sz 6 (Mr r):=by
 have p60:∀ {q:Rat},C1 w q->w<=60->0<=q/\q<=Õ w 60/\Sz 6 q:=λ {q} hq hw=>by
  rcases JP hq with h|h
  ·exact⟨h.1,h.2.1,DJ hq hw⟩
  ·lia
 have z6:Sz 6 0:=by
  have:Sz 6 (Õ 0 60):=Ym (by lia) (by lia) (by lia) (by lia)
  rwa [cg]at this
 cases r with
 | of n q=>exact p60 h.2.2 h.2.1
 | left n q=>rw[h.1,cg];exact⟨by show(0:Rat)<=0;grind,by show(0:Rat)<=0;grind,z6⟩
 | len n k=>rw[h.1,cg];exact⟨by show(0:Rat)<=0;grind,by show(0:Rat)<=0;grind,z6⟩
 | steps n us z=>
  obtain⟨h1,h2,h3,h4,h5⟩:=h
  have gen:∀ (l:Á Rat) (g:Rat),(∀ q∈l,0<=q/\q<=Õ w 60/\Sz 6 q)->0<=g/\g<=Õ w 60/\Sz 6 g->0<=l.foldl Aw g/\l.foldl Aw g<=Õ w 60/\Sz 6 (l.foldl Aw g):=by
   intro l
   induction l with
   | nil=>intro g _ h;exact h
   | cons q r ih=>
    intro g hl hg
    have hq:=hl q (.head _)
    exact ih (Aw g q) (λ x hx=>hl x (.tail _ hx)) ⟨Xz hg.1,Xy hg.2.1 hq.2.1,QH hg.2.2 hq.2.2⟩
  refine gen (us.map (·.2)++[z]) 0 (λ q hq=>?_) ⟨by grind,jY (by lia) (by lia),z6⟩
  rcases ê.mp hq with hq|hq
  ·obtain⟨p,hp,rfl⟩:=â.mp hq
   exact p60 (h4 p hp) h2
  ·rw[ñ.mp hq];exact p60 h5 h2
theorem uD {test:Eb}{ŭ:Ev}{gs:Gd}{rest:En}(f:AV->Bool)(g:AV->AV)(hg:k6 gs s):∀ (xs þ:Á AV) (x:Í AV),(∀ v∈xs,test (À v :: rest) s=.ok (f v) s)->(∀ v∈xs,f v=true->ŭ (À v :: rest) s=.ok (g v) s)->ů (gN 0) test ŭ gs xs (x :: rest) s þ=.ok (þ++(xs.filter f).map g) s
 | [],þ,x,_,_=>by unfold ů;rw[É hg];simp
 | v :: r,þ,x,h,k=>by
  unfold ů
  rw[É hg]
  show((test (À v :: rest) s).calm.bind λ b s2=>if b=true then ((ŭ (À v :: rest) s2).calm.bind λ x s3=>ů (gN 0) test ŭ gs r (À v :: rest) s3 (þ++[x])) else ů (gN 0) test ŭ gs r (À v :: rest) s2 þ)=_
  rw[h v (.head _)]
  show(if f v=true then ((ŭ (À v :: rest) s).calm.bind λ x s3=>ů (gN 0) test ŭ gs r (À v :: rest) s3 (þ++[x])) else ů (gN 0) test ŭ gs r (À v :: rest) s þ)=_
  cases hv:f v with
  | false=>
   rw[Ó (by decide),uD f g hg r _ _ (λ w hw=>h w (.tail _ hw)) (λ w hw=>k w (.tail _ hw))]
   simp[hv]
  | true=>
   rw[É rfl,k v (.head _) hv]
   show ů (gN 0) test ŭ gs r (À v :: rest) s (þ++[g v])=_
   rw[uD f g hg r _ _ (λ w hw=>h w (.tail _ hw)) (λ w hw=>k w (.tail _ hw))]
   simp[hv]
theorem zb (h:m env s=.ok v s1)(k:F [v] s1=.ok w s2):Ø 1 F (Ã m Ð) env s=.ok w s2:=by
 unfold Ø Ã Ð
 rw[h]
 exact k
def NL (r:Rw):Bool:=match r with
 | .of _ _=>true
 | .steps _ _ _=>true
 | _=>false
def As (rs:Á Rw):Á Rat:=(rs.filter NL).map Mr
theorem Cs {ps:Á (Rw × Int)}(hp:∀ p∈ps,fB p.2 p.1)(h8:ps.length<=8)(hs:Č (As (ps.map (·.1)))<=1) (s:S):dt [.tup ((ps.map (·.1)).map rv)] s=.ok (.bl false) s:=by
 let rs:=ps.map (·.1)
 have hl:rs.length<=8:=by simp[rs];exact h8
 have hr:∀ r∈rs,∃ w,fB w r:=λ r h=>by
  obtain⟨p,Bs,rfl⟩:=â.mp h
  exact⟨p.2,hp p Bs⟩
 let E:En:=[À (.tup (rs.map rv))]
 have lc:Œ [("row",none)] (Ĳ (mv 0)) (gN 0) (cB (Ö BV (Ö Ħ (mv 0) (mc (.int 0))) (mc aG))) (Ø 1 ś (Ã (mv 0) Ð)) E s=.ok ((As rs).map fq) s:=by
  let f:AV->Bool:=λ v=>oD "of" (Cu v) || oD "steps" (Cu v)
  let g:AV->AV:=λ v=>match ś [v] s with|.ok w _=>w|_=>.ĥ
  unfold Œ
  rw[show Ĳ (mv 0) E s=.ok (rs.map rv,[]) s from rfl,ð,É (p7 (by rw[Æ];lia))]
  refine(uD f g (bM s) (rs.map rv) [] none (λ v hv=>?_) λ v hv hf=>?_).trans ?_
  ·obtain⟨r,_,rfl⟩:=â.mp hv
   refine r6 (af (af rfl rfl (B8 r s)) rfl ?_)
   rw[JV]
   show(if eh (.str (p6 r))=true/\[AV.str "of",.str "steps"].all eh=true then R.ok (AV.bl (Za (.str (p6 r)) [.str "of",.str "steps"])) s else .bad)=_
   rw[É ⟨rfl,rfl⟩]
   congr 2
   show(decide (("of":Str)=p6 r) || (decide (("steps":Str)=p6 r) || false))=_
   rw[CK,o8.mpr (eq_comm (a:=("of":Str)) (b:=p6 r)),o8.mpr (eq_comm (a:=("steps":Str)) (b:=p6 r))]
   cases r<;>rfl
  ·obtain⟨r,Nz,rfl⟩:=â.mp hv
   obtain⟨w,hw⟩:=hr r Nz
   have hk:p6 r="of"∨p6 r="steps":=by
    have hf:(oD "of" (Cu (rv r)) || oD "steps" (Cu (rv r)))=true:=hf
    rw[om]at hf
    rcases hf with h|h
    ·left;cases r<;>exact Ė h
    ·right;cases r<;>exact Ė h
   have e:=sZ hw hk s
   refine(qp rfl e).trans ?_
   show _=R.ok (match ś [rv r] s with|.ok w _=>w|_=>.ĥ) s
   rw[e]
  ·rw[ľ]
   congr 1
   rw[xF]
   unfold As
   rw[ó,ó]
   have ef:(f ∘ rv)=NL:=by
    funext r
    show(oD "of" (Cu (rv r)) || oD "steps" (Cu (rv r)))=_
    cases r with
    | of n q=>show(decide (("of":Str)="of") || _)=true;simp
    | steps n us z=>show(_ || decide (("steps":Str)="steps"))=true;simp
    | left n q=>show(decide (("left":Str)="of") || decide (("left":Str)="steps"))=false;decide +kernel
    | len n q=>show(decide (("length":Str)="of") || decide (("length":Str)="steps"))=false;decide +kernel
   rw[ef]
   refine Ļ λ r Nz=>?_
   obtain⟨WT,WU⟩:=aZ.mp Nz
   obtain⟨w,hw⟩:=hr r WT
   have hk:p6 r="of"∨p6 r="steps":=by cases r<;>first|exact .inl rfl|exact .inr rfl|cases WU
   show(match ś [rv r] s with|.ok w _=>w|_=>.ĥ)=fq (Mr r)
   rw[sZ hw hk s]
 have hsz:∀ q∈As rs,Sz 6 q:=λ q hq=>by
  obtain⟨r,Nz,rfl⟩:=â.mp hq
  obtain⟨w,hw⟩:=hr r (aZ.mp Nz).1
  exact(Ju hw).2.2
 have hgl:(As rs).length<=8:=by
  unfold As;rw[Æ];exact ā (bE _ _) hl
 obtain⟨so,sz⟩:=rm (b:=6) (m:=900) (As rs) 0 1 (Zh (by decide)) hsz (by lia) (by decide)
 have eg:pD (Ø 1 cM (Ã (Ę (Œ [("row",none)] (Ĳ (mv 0)) (gN 0) (cB (Ö BV (Ö Ħ (mv 0) (mc (.int 0))) (mc aG))) (Ø 1 ś (Ã (mv 0) Ð)))) Ð)) E s=.ok (fq (Č (As rs))) s:=by
  refine vz (z:=[.lst ((As rs).map fq)]) ?_ (iq _ _)
  exact zb (pO lc) (Ek (n:=900) (by decide) (Ib.ref (ű _ _)) so)
 refine fh (lP ?_)
 refine(call2 (v:=fq 1) rfl eg (vJ s ⟨g9 (by decide) (by decide),g9 (by decide) (by decide)⟩ ?_)).trans ?_
 ·rw[ah]at sz
  exact sz.mono (by lia)
 ·rw[Fy,ĳ]
  have:Č (As rs)<=1:=hs
  grind
theorem E6 (p q:α->Bool):∀ (l:Á α),(∀ x∈l,p x=true->q x=false)->(l.filter p++l.filter q).Perm (l.filter λ x=>p x || q x)
 | [],_=>uR _
 | x :: r,h=>by
  have ih:=E6 p q r λ y hy=>h y (.tail _ hy)
  have hx:=h x (.head _)
  cases hp:p x with
  | true=>
   have hq:=hx hp
   simp only[cF,hp,hq,aT,YB,ą,aa]
   exact mM x ih
  | false=>
   cases hq:q x with
   | true=>
    simp only[cF,hp,hq,aT,CJ,ą,aa]
    exact P1.trans (mM x ih)
   | false=>
    simp only[cF,hp,hq,CJ,ą,aa]
    exact ih
theorem vP (rows:Á Rw):∀ ks:Á Str,ks.Nodup->(ks.flatMap (gC rows)).Perm (rows.filter λ r=>decide (p6 r∈ks))
 | [],_=>by simp
 | k :: ks,h=>by
  rw[ņ]
  obtain⟨h1,h2⟩:=Ţ.mp h
  refine((vP rows ks h2).append_left _).trans ?_
  refine(E6 (λ r=>decide (p6 r=k)) (λ r=>decide (p6 r∈ks)) rows λ r _ hr=>?_).trans ?_
  ·have:p6 r=k:=Ė hr
   rw[this];exact ĳ h1
  ·rw[MH λ r _=>?_]
   rw[aY];simp
theorem SK (r:Rw):p6 r∈(["of","steps","left","length"]:Á Str):=by cases r<;>simp[p6]
theorem E9:(["of","steps","left","length"]:Á Str).Nodup:=by decide +kernel
theorem za {ks:Á Str}(h:ks.Perm ["of","steps","left","length"]):(ks.flatMap (gC rows)).Perm rows:=by
 refine(vP rows ks (h.symm.nodup E9)).trans ?_
 rw[List.filter_eq_self.mpr λ r _=>ø (h.symm.mem_iff.mp (SK r))]
theorem of_same (rows:Á Rw)(k:Str):∀ ks:Á Str,ks.Nodup->k∈ks->gC (ks.flatMap (gC rows)) k=gC rows k
 | [],_,h=>by cases h
 | a :: ks,h,hk=>by
  obtain⟨h1,h2⟩:=Ţ.mp h
  have out:∀ (b:Str),b≠k->gC (gC rows b) k=[]:=λ b hb=>by
   unfold gC
   rw[Ma,List.filter_eq_nil_iff]
   intro r _ hr
   simp at hr
   exact hb (hr.2.symm.trans hr.1)
  have outs:∀ l:Á Str,k∉l->gC (l.flatMap (gC rows)) k=[]:=by
   intro l
   induction l with
   | nil=>intro _;rfl
   | cons b l ih=>
    intro hb
    rw[ņ]
    show((gC rows b)++_).filter _=[]
    rw[L']
    have e1:=out b (λ e=>hb (by rw[e];exact .head _))
    have e2:=ih (λ e=>hb (.tail _ e))
    show gC (gC rows b) k++gC (l.flatMap (gC rows)) k=[]
    rw[e1,e2];rfl
  rw[ņ]
  show((gC rows a)++_).filter _=_
  rw[L']
  show gC (gC rows a) k++gC (ks.flatMap (gC rows)) k=_
  by_cases e:a=k
  ·subst e
   rw[outs ks h1,fw]
   unfold gC
   rw[Ma];simp
  ·rw[out a e,ľ]
   exact of_same rows k ks h2 ((Ò.mp hk).resolve_left (λ x=>e x.symm))
def whF (u:Int):Rw->Í (Str × Rat)
 | .of n q=>À (n,q)
 | .steps n us z=>À (n,i_ u z us)
 | _=>none
theorem nQ (u:Int):∀ l:Á Rw,ã u l=l.filterMap (whF u)
 | []=>rfl
 | r :: l=>by
  have ih:=nQ u l
  cases r with
  | of n q=>rw[CP (f:=whF u) (a:=.of n q) (b:=(n,q)) rfl];show(n,q) :: ã u l=_;rw[ih]
  | steps n us z=>rw[CP (f:=whF u) (a:=.steps n us z) (b:=(n,i_ u z us)) rfl];show(n,i_ u z us) :: ã u l=_;rw[ih]
  | left n q=>rw[CO rfl];exact ih
  | len n q=>rw[CO rfl];exact ih
theorem fK:∀ (l:Á Rw)(t:Rat),Ł t l=Ł t (gC l "left")/\ŋ t l=ŋ t (gC l "left")
 | [],t=>⟨rfl,rfl⟩
 | r :: l,t=>by
  have e:gC (r :: l) "left"=if p6 r="left" then r :: gC l "left" else gC l "left":=by unfold gC;rw[cF];simp
  rw[e]
  cases r with
  | left n q=>rw[É (show p6 (Rw.left n q)="left" from rfl)];simp only[Ł,ŋ,(fK l (t - t * q)).1,(fK l (t - t * q)).2];exact⟨trivial,trivial⟩
  | of n q=>rw[Ó (show ¬ (p6 (Rw.of n q)="left") from show ¬ (("of":Str)="left") by decide +kernel)];exact fK l t
  | steps n us z=>rw[Ó (show ¬ (p6 (Rw.steps n us z)="left") from show ¬ (("steps":Str)="left") by decide +kernel)];exact fK l t
  | len n k=>rw[Ó (show ¬ (p6 (Rw.len n k)="left") from show ¬ (("length":Str)="left") by decide +kernel)];exact fK l t
theorem kN:∀ (l:Á Rw),ĺ l=ĺ (gC l "length")
 | []=>rfl
 | r :: l=>by
  have e:gC (r :: l) "length"=if p6 r="length" then r :: gC l "length" else gC l "length":=by unfold gC;rw[cF];simp
  rw[e]
  cases r with
  | len n k=>rw[É (show p6 (Rw.len n k)="length" from rfl)];simp only[ĺ,kN l]
  | of n q=>rw[Ó (show ¬ (p6 (Rw.of n q)="length") from show ¬ (("of":Str)="length") by decide +kernel)];exact kN l
  | steps n us z=>rw[Ó (show ¬ (p6 (Rw.steps n us z)="length") from show ¬ (("steps":Str)="length") by decide +kernel)];exact kN l
  | left n k=>rw[Ó (show ¬ (p6 (Rw.left n k)="length") from show ¬ (("left":Str)="length") by decide +kernel)];exact kN l
theorem II {ks:Á Str}(h:ks.Perm ["of","steps","left","length"])(u:Int):(aA u (ks.flatMap (gC rows))).Perm (aA u rows)/\Ť u (ks.flatMap (gC rows))=Ť u rows/\(∀ t,Ł t (ks.flatMap (gC rows))=Ł t rows/\ŋ t (ks.flatMap (gC rows))=ŋ t rows)/\ĺ (ks.flatMap (gC rows))=ĺ rows:=by
 have nd:=h.symm.nodup E9
 have pm:=za (rows:=rows) h
 have w:(ã u (ks.flatMap (gC rows))).Perm (ã u rows):=by rw[nQ,nQ];exact pm.filterMap _
 have e1:Ť u (ks.flatMap (gC rows))=Ť u rows:=by unfold Ť;rw[oj (w.map _)]
 have e2:∀ t,Ł t (ks.flatMap (gC rows))=Ł t rows/\ŋ t (ks.flatMap (gC rows))=ŋ t rows:=λ t=>by
  have o:=of_same rows "left" ks nd (h.symm.mem_iff.mp (by simp))
  exact⟨by rw[(fK _ t).1,o,<-(fK rows t).1],by rw[(fK _ t).2,o,<-(fK rows t).2]⟩
 have e3:ĺ (ks.flatMap (gC rows))=ĺ rows:=by rw[kN,of_same rows "length" ks nd (h.symm.mem_iff.mp (by simp)),<-kN]
 refine⟨?_,e1,e2,e3⟩
 unfold aA
 rw[e1,(e2 _).1,(e2 _).2]
 unfold f_ jo
 rw[e3]
 exact(w.append_right _).append_right _
theorem Lu (h:l.Perm q)(k:Str):mi l k=mi q k:=by
 induction h with
 | nil=>rfl
 | cons x _ ih=>unfold mi;rw[ih]
 | swap x y l=>
  show(if y.1=k then y.2 else 0)+((if x.1=k then x.2 else 0)+mi l k)=(if x.1=k then x.2 else 0)+((if y.1=k then y.2 else 0)+mi l k)
  grind
 | trans _ _ h1 h2=>rw[h1,h2]
theorem K0 (h:l.Perm q):mB (ï [] l)=mB (ï [] q):=by
 have k1:=bV l [] Š
 have k2:=bV q [] Š
 have kp:((ï [] l).map (·.1)).Perm ((ï [] q).map (·.1)):=by
  rw[kh k1 k2]
  intro a
  rw[fi,fi,(h.map (·.1)).mem_iff]
 unfold mB
 rw[wu ((bY _).trans kp) (lR _)]
 refine Ļ λ k _=>?_
 rw[fF,fF,Lu h]
theorem DZ {ks:Á Str}(h:ks.Perm ["of","steps","left","length"])(u:Int):ù u (ks.flatMap (gC rows))=ù u rows:=by
 unfold ù
 rw[K0 (II h u).1]
def D6 (v:AV):Prop:=∀ n s,C3 n s v
theorem Dq (h:∀ s,nk s v)(hn:∀ xs,v≠.tup xs):D6 v:=λ n s=>by
 cases n with
 | zero=>exact h s
 | succ n=>exact⟨h s,λ xs e=>absurd e (hn xs)⟩
theorem E1 (h:bu 80 i):D6 (.int i):=Dq (λ s=>⟨⟨_,rfl⟩,h.mono (by decide)⟩) (λ _ e=>nomatch e)
theorem Wl:D6 .ĥ:=Dq (λ s=>⟨⟨_,rfl⟩,trivial⟩) (λ _ e=>nomatch e)
theorem Qj (h:Ap t 20):D6 (.str t):=Dq (λ s=>⟨⟨_,rfl⟩,h.all,h.small (by decide)⟩) (λ _ e=>nomatch e)
theorem E2 (hl:xs.length<=12)(h:∀ x∈xs,D6 x):D6 (.tup xs):=λ n s=>by
 cases n with
 | zero=>exact⟨⟨_,rfl⟩,trivial⟩
 | succ n=>exact⟨⟨⟨_,rfl⟩,trivial⟩,λ ys e=>by cases e;exact⟨p7 (by lia),λ x hx=>h x hx n s⟩⟩
theorem Ng {q:Rat}(h:Pq q):D6 (fq q):=by
 obtain⟨h1,h2,h3,h4⟩:=wo h
 exact E2 (by show 2<=12;decide) (all2 (E1 (R1 (by lia) (by lia))) (E1 (R1 (by lia) (by lia))))
structure ZV (k q:Str)(p:AV):Prop where
 nm:MY q
 kd:Ap k 20
 pl:D6 p
 ok:sx (.tup [.str k,.str q,p])=true
theorem DI (h:C1 w q)(hw:w<=60):Pq q:=by
 obtain⟨j,h1,h2,rfl⟩:=h
 exact⟨j,60,h1,by lia,by lia,rfl⟩
theorem aag (h0:0<=i)(h1:i<=1000000):bu 80 i:=(g9 (n:=20) h0 (by lia)).mono (by lia)
theorem yB (ok:fB w r)(h:Qd r):∃ k q p,rv r=.tup [.str k,.str q,p]/\ZV k q p:=by
 obtain⟨ka,kb,kc,kd⟩:=SJ
 obtain⟨e1,e2,e3,e4,e5,e6⟩:=Jf
 cases r with
 | of n q=>
  have hn:MY n:=h
  have hq:Pq q:=DI ok.2.2 ok.2.1
  refine⟨"of",n,fq q,rfl,hn,ka,Ng hq,?_⟩
  rw[qC,hn.1,mX,FI hq];rfl
 | left n q=>
  obtain⟨hn,hq⟩:=h
  refine⟨"left",n,fq q,rfl,hn,kb,Ng hq,?_⟩
  rw[qC,hn.1,mX,FI hq,Bool.or_true];rfl
 | len n k=>
  have hn:MY n:=h
  obtain⟨_,h1,h2⟩:=ok
  refine⟨"length",n,.int k,rfl,hn,kd,E1 (R1 (by lia) (by lia)),?_⟩
  rw[qC,hn.1,e3,e4,e5,mX]
  show(true && (true && (decide (1<=k) && decide (k<=1000))))=true
  rw[ø h1,ø h2];rfl
 | steps n us z=>
  obtain⟨hn,h1,h3,h4⟩:=h
  obtain⟨_,w60,h2,k4,k5⟩:=ok
  have h5:Pq z:=DI k5 w60
  have hp:∀ r∈QN us z,D6 r.1/\D6 r.2/\qB r.2=true:=λ r hr=>by
   rcases ê.mp hr with hr|hr
   ·obtain⟨p,hp,rfl⟩:=â.mp hr
    have:=h4 p hp
    have pp:=DI (k4 p hp) w60
    exact⟨E1 (aag (by lia) (by lia)),Ng pp,FI pp⟩
   ·rw[ñ.mp hr]
    exact⟨Wl,Ng h5,FI h5⟩
  have hl:(QN us z).length=us.length+1:=by simp[QN]
  refine⟨"steps",n,.tup ((QN us z).map Im),by rw[<-KS];rfl,hn,kc,E2 (by rw[Æ,hl];lia) λ x hx=>?_,?_⟩
  ·obtain⟨r,hr,rfl⟩:=â.mp hx
   exact E2 (by show 2<=12;decide) (all2 (hp r hr).1 (hp r hr).2.1)
  ·rw[qC,hn.1,e1,e2,mX]
   show zv (.tup ((QN us z).map Im))=true
   rw[uI,Æ,hl,ø (show 2<=us.length+1 by lia),ø (show us.length+1<=4 by lia)]
   have a1:((QN us z).map Im).all i8=true:=ü.mpr λ x hx=>by
    obtain⟨r,hr,rfl⟩:=â.mp hx
    exact(hp r hr).2.2
   rw[a1,<-KS]
   simp only[List.getLastD_concat,List.dropLast_concat,ó]
   show(true && (true && (kK (.ĥ) && lT 1 (us.map (Cu ∘ oI)))))=true
   rw[show(Cu ∘ oI)=(λ p:Int × Rat=>AV.int p.1) from rfl,h3];rfl
structure Rp (rs:Á Rw):Prop where
 r:∀ r∈rs,∃ w,fB w r/\Qd r
 l:rs.length<=8
 n:nL rs<=3
theorem Rp.is (h:Rp rs):Fi (.tup (rs.map rv))=true:=by
 rw[Bw,Æ,ø h.l,qH,ø h.n,ü.mpr λ x Ih=>?_]
 ·rfl
 ·obtain⟨r,hr,rfl⟩:=â.mp Ih
  obtain⟨w,h1,h2⟩:=h.r r hr
  obtain⟨k,q,p,e,R⟩:=yB h1 h2
  rw[e];exact R.ok
theorem Rp.Oj (h:Rp rs)(s:S):Oj s (.tup (rs.map rv)):=by
 refine⟨⟨⟨_,rfl⟩,trivial⟩,λ xs e=>?_⟩
 cases e
 refine⟨p7 (by rw[Æ];have:=h.l;lia),λ x hx=>?_⟩
 obtain⟨r,hr,rfl⟩:=â.mp hx
 obtain⟨w,h1,h2⟩:=h.r r hr
 obtain⟨k,q,p,e,R⟩:=yB h1 h2
 rw[e]
 refine⟨E2 (by show 3<=12;decide) (Z2 (Qj R.kd) (Qj (R.nm.2.mono (by decide))) R.pl) 4 s,λ k' q' p' e'=>?_⟩
 cases e'
 trivial
theorem Rp.rows (h:Rp rs)(s:S):fe [.tup (rs.map rv)] s=.ok (.bl true) s:=by
 rw[DM (h.Oj s),h.is]
theorem FC (h:a.Perm b):nL a=nL b:=by
 rw[<-qH,<-qH]
 exact((h.map rv).filter isLeft).length_eq
theorem rY.rp (h:rY rs room)(l:rs.length<=8)(n:nL rs<=3):Rp rs:=by
 obtain⟨ps,rfl,hp,_⟩:=h.ws
 exact⟨λ r hr=>by obtain⟨p,Bs,rfl⟩:=â.mp hr;exact⟨p.2,hp p Bs⟩,l,n⟩
theorem Rp.perm (h:Rp a)(p:b.Perm a):Rp b:=⟨λ r hr=>h.r r (p.mem_iff.mp hr),by rw[p.length_eq];exact h.l,by rw[FC p];exact h.n⟩
theorem Good.perm (g:Good rows){ks:Á Str}(h:ks.Perm ["of","steps","left","length"]):Good (ks.flatMap (gC rows)):=by
 have p:=za (rows:=rows) h
 refine⟨λ r hr=>g.a r (p.mem_iff.mp hr),λ u=>?_,by rw[p.length_eq];exact g.l,by rw[FC p];exact g.n⟩
 have w:(ã u (ks.flatMap (gC rows))).Perm (ã u rows):=by rw[nQ,nQ];exact p.filterMap _
 rw[oj (w.map _)]
 exact g.s u
theorem Jt:∀ {ps:Á (Rw × Int)},(∀ p∈ps,fB p.2 p.1)->Č (As (ps.map (·.1)))<=Õ ((ps.map (·.2)).sum) 60
 | [],_=>by show(0:Rat)<=Õ 0 60;rw[cg];grind
 | p :: ps,h=>by
  have ih:=Jt (ps:=ps) λ q hq=>h q (.tail _ hq)
  obtain⟨b1,b2,_⟩:=Ju (h p (.head _))
  have e:Õ p.2 60+Õ ((ps.map (·.2)).sum) 60=Õ (((p :: ps).map (·.2)).sum) 60:=by rw[div_add (by lia)];rfl
  have c:Č (As ((p :: ps).map (·.1)))<=Mr p.1+Č (As (ps.map (·.1))):=by
   unfold As
   rw[È,cF]
   cases NL p.1 with
   | true=>rw[É rfl,È];show Mr p.1+Č _<=_;grind
   | false=>rw[Ó (by decide)];grind
  rw[<-e]
  grind
theorem UJ {rows:Á Rw}(h:rY rows room)(h0:0<=room)(l:rows.length<=8){qs:Á Rw}(p:qs.Perm rows)(s:S):dt [.tup (qs.map rv)] s=.ok (.bl false) s:=by
 obtain⟨ps,e,hp,hs⟩:=h.ws
 have hq:∃ X9:Á (Rw × Int),qs=X9.map (·.1)/\∀ p∈X9,fB p.2 p.1:=by
  have:∀ r∈qs,∃ w,fB w r:=λ r hr=>by
   have hr:=p.mem_iff.mp hr
   rw[e]at hr
   obtain⟨x,hx,rfl⟩:=â.mp hr
   exact⟨x.2,(hp x hx).1⟩
  clear p
  induction qs with
  | nil=>exact⟨[],rfl,(λ _ h=>nomatch h)⟩
  | cons r qs ih=>
   obtain⟨w,hw⟩:=this r (.head _)
   obtain⟨X9,e',h'⟩:=ih λ x hx=>this x (.tail _ hx)
   refine⟨(r,w) :: X9,by rw[e'];rfl,λ x hx=>?_⟩
   rcases Ò.mp hx with rfl|hx
   ·exact hw
   ·exact h' x hx
 obtain⟨X9,e',h'⟩:=hq
 have DD:Č (As qs)<=1:=by
  have e1:Č (As qs)=Č (As rows):=by unfold As;exact oj ((p.filter NL).map Mr)
  have e2:=Jt (ps:=ps) λ p Bs=>(hp p Bs).1
  rw[<-e]at e2
  have e3:Õ ((ps.map (·.2)).sum) 60<=1:=by rw[hs];exact uG (by lia) (by lia)
  grind
 rw[e']
 refine Cs h' ?_ (by rw[<-e'];exact DD) s
 have:=p.length_eq
 have l2:=Ě cf e'
 rw[Æ]at l2
 lia
def eR (N:Int)(q:Rat):Prop:=∃ z:Int,q=Õ z N
theorem eR.add (hN:0 < N)(h:eR N p)(k:eR N q):eR N (p+q):=by
 obtain⟨a,rfl⟩:=h
 obtain⟨b,rfl⟩:=k
 exact⟨a+b,div_add (by lia)⟩
theorem eR.neg (hN:0 < N)(h:eR N p):eR N (-p):=by
 obtain⟨a,rfl⟩:=h
 exact⟨-a,by rw[VW]⟩
theorem eR.sub (hN:0 < N)(h:eR N p)(k:eR N q):eR N (p - q):=by
 rw[MQ];exact h.add hN (k.neg hN)
theorem eR.mulR (hN:0 < N)(hM:0 < M)(h:eR N p)(k:eR M q):eR (N * M) (p * q):=by
 obtain⟨a,rfl⟩:=h
 obtain⟨b,rfl⟩:=k
 exact⟨a * b,o6 _ _⟩
theorem eR.up (hN:0 < N)(hM:0 < M)(h:eR N p):eR (N * M) p:=by
 obtain⟨a,rfl⟩:=h
 exact⟨a * M,(qd (by lia)).symm⟩
theorem eR.zero (N:Int):eR N 0:=⟨0,(cg N).symm⟩
theorem eR.one (h:0 < N):eR N 1:=⟨N,(mQ (by lia)).symm⟩
theorem eR.self (q:Rat):eR q.den q:=⟨q.num,(ţ q).symm⟩
theorem eR.sum (hN:0 < N):∀ {l:Á Rat},(∀ q∈l,eR N q)->eR N (Č l)
 | [],_=>eR.zero N
 | q :: r,h=>by show eR N (q+Č r);exact(h q (.head _)).add hN (eR.sum hN λ x hx=>h x (.tail _ hx))
def Ft:Á Rw->Int
 | []=>1
 | .left _ q :: r=>q.den * Ft r
 | _ :: r=>Ft r
theorem jD:∀ rows:Á Rw,0 < Ft rows
 | []=>by decide
 | .left _ q :: r=>by have h1:=jD r;have:=iM q;exact dY (by lia) h1
 | .of _ _ :: r=>jD r
 | .steps _ _ _ :: r=>jD r
 | .len _ _ :: r=>jD r
theorem qE:∀ (rows:Á Rw){M:Int}{t:Rat},0 < M->eR M t->(∀ p∈Ł t rows,eR (M * Ft rows) p.2)/\eR (M * Ft rows) (ŋ t rows)
 | [],M,t,hM,h=>⟨(λ _ h=>nomatch h),by show eR (M * 1) t;rw[xD];exact h⟩
 | .of _ _ :: r,M,t,hM,h=>qE r hM h
 | .steps _ _ _ :: r,M,t,hM,h=>qE r hM h
 | .len _ _ :: r,M,t,hM,h=>qE r hM h
 | .left n q :: r,M,t,hM,h=>by
  have dq:=iM q
  have hM2:0 < M * (q.den:Int):=dY hM (by lia)
  have e1:eR (M * q.den) (t * q):=h.mulR hM (by lia) (eR.self q)
  have e2:eR (M * q.den) (t - t * q):=(h.up hM (by lia)).sub hM2 e1
  have ih:=qE r hM2 e2
  have em:M * Ft (.left n q :: r)=M * q.den * Ft r:=by show M * (q.den * Ft r)=_;rw[fu]
  rw[em]
  refine⟨λ p hp=>?_,ih.2⟩
  rcases Ò.mp hp with rfl|hp
  ·exact e1.up hM2 (jD r)
  ·exact ih.1 p hp
def nN (rows:Á Rw):Int:=60 * Ft rows * (if jo rows=0 then 1 else jo rows)
theorem CD:∀ {rows:Á Rw},(∀ r∈rows,∃ w,fB w r)->∀ p∈ã u rows,eR 60 p.2
 | r :: rows,h,p,hp=>by
  have ih:=CD (u:=u) (rows:=rows) λ x hx=>h x (.tail _ hx)
  obtain⟨w,hw⟩:=h r (.head _)
  have inP:∀ {q:Rat},C1 w q->eR 60 q:=λ {q} h=>by obtain⟨j,_,_,rfl⟩:=h;exact⟨j,rfl⟩
  cases r with
  | of n q=>
   rcases Ò.mp (show p∈(n,q) :: ã u rows from hp) with rfl|hp
   ·exact inP hw.2.2
   ·exact ih p hp
  | steps n us z=>
   rcases Ò.mp (show p∈(n,i_ u z us) :: ã u rows from hp) with rfl|hp
   ·obtain⟨_,_,_,h4,h5⟩:=hw
    have:∀ l:Á (Int × Rat),(∀ p∈l,C1 w p.2)->eR 60 (i_ u z l):=by
     intro l
     induction l with
     | nil=>intro _;exact inP h5
     | cons a l SA=>
      intro hl
      unfold i_
      split
      ·exact inP (hl a (.head _))
      ·exact SA λ x hx=>hl x (.tail _ hx)
    exact this us h4
   ·exact ih p hp
  | left n q=>exact ih p hp
  | len n k=>exact ih p hp
theorem Rt (h:∀ r∈rows,∃ w,fB w r)(u:Int)(ht:0<=jo rows):(∀ p∈aA u rows,eR (nN rows) p.2)/\eR (nN rows) (jE (ŋ (Ť u rows) rows) rows):=by
 have hT:0 < (if jo rows=0 then 1 else jo rows):=by split<;>lia
 have hL:=jD rows
 have Qq:(0:Int) < 60:=by decide
 have h6L:0 < 60 * Ft rows:=dY Qq hL
 have w:=CD (u:=u) h
 have r1:eR 60 (Ť u rows):=by
  unfold Ť
  exact(eR.one Qq).sub Qq (eR.sum Qq λ q hq=>by obtain⟨p,hp,rfl⟩:=â.mp hq;exact w p hp)
 obtain⟨l1,l2⟩:=qE rows Qq r1
 refine⟨λ p hp=>?_,?_⟩
 ·unfold aA at hp
  rcases ê.mp hp with hp|hp
  ·rcases ê.mp hp with hp|hp
   ·exact((w p hp).up Qq hL).up h6L hT
   ·exact(l1 p hp).up h6L hT
  ·unfold f_ at hp
   obtain⟨x,hx,rfl⟩:=â.mp hp
   unfold nN
   refine l2.mulR h6L hT ?_
   by_cases hz:jo rows=0
   ·rw[É hz,hz,Rat.divInt_zero];exact eR.zero _
   ·rw[Ó hz];exact⟨x.2,rfl⟩
 ·unfold jE
  split
  ·exact l2.up h6L hT
  ·exact eR.zero _
theorem vQ:∀ {rows:Á Rw}(m:Nat),(∀ r∈rows,Qd r)->nL rows<=m->Ft rows<=60 ^ m
 | [],m,_,_=>by
  show(1:Int)<=60 ^ m
  have:(0:Int) < 60 ^ m:=Int.pow_pos (by decide)
  lia
 | .of _ _ :: r,m,h,k=>vQ (rows:=r) m (λ x hx=>h x (.tail _ hx)) k
 | .steps _ _ _ :: r,m,h,k=>vQ (rows:=r) m (λ x hx=>h x (.tail _ hx)) k
 | .len _ _ :: r,m,h,k=>vQ (rows:=r) m (λ x hx=>h x (.tail _ hx)) k
 | .left n q :: r,0,h,k=>by simp[nL]at k
 | .left n q :: r,m+1,h,k=>by
  have ih:=vQ (rows:=r) m (λ x hx=>h x (.tail _ hx)) (by simp[nL]at k;lia)
  have hq:Qd (.left n q):=h _ (.head _)
  have Qq:=(wo hq.2).2.2.1
  have hp:=jD r
  have hd:=iM q
  show(q.den:Int) * Ft r<=60 ^ (m+1)
  rw[Int.pow_succ,c6 (60 ^ m)]
  exact VO Qq ih (by lia) (by lia)
theorem Es:∀ {rows:Á Rw},(∀ r∈rows,∃ w,fB w r)->0<=jo rows/\jo rows<=1000 * rows.length
 | [],_=>by decide
 | r :: rows,h=>by
  have ih:=Es (rows:=rows) λ x hx=>h x (.tail _ hx)
  obtain⟨w,hw⟩:=h r (.head _)
  unfold jo at ih ⊢
  rw[å]
  cases r with
  | len n k=>
   obtain⟨_,h1,h2⟩:=hw
   show 0<=k+((ĺ rows).map (·.2)).sum/\k+((ĺ rows).map (·.2)).sum<=_
   lia
  | of n q=>show 0<=((ĺ rows).map (·.2)).sum/\((ĺ rows).map (·.2)).sum<=_;lia
  | left n q=>show 0<=((ĺ rows).map (·.2)).sum/\((ĺ rows).map (·.2)).sum<=_;lia
  | steps n us z=>show 0<=((ĺ rows).map (·.2)).sum/\((ĺ rows).map (·.2)).sum<=_;lia
theorem vY (h:Rp rows):0 < nN rows/\nN rows<=2 ^ 40:=by
 have hr:∀ r∈rows,∃ w,fB w r:=λ r hr=>let ⟨w,h1,_⟩:=h.r r hr;⟨w,h1⟩
 have WA:∀ r∈rows,Qd r:=λ r hr=>let ⟨w,_,h2⟩:=h.r r hr;h2
 obtain⟨t1,t2⟩:=Es hr
 have l1:=jD rows
 have l2:Ft rows<=216000:=vQ 3 WA h.n
 have hl:=h.l
 have T1:0 < (if jo rows=0 then 1 else jo rows):=by split<;>lia
 have T2:(if jo rows=0 then 1 else jo rows)<=8000:=by split<;>lia
 unfold nN
 refine⟨dY (dY (by decide) l1) T1,?_⟩
 have:60 * Ft rows * (if jo rows=0 then 1 else jo rows)<=12960000 * 8000:=VO (by lia) T2 (by lia) (by lia)
 have:(12960000 * 8000:Int)<=2 ^ 40:=by decide
 lia
theorem vF (h:eR N q)(h0:0 < N)(h1:N<=2 ^ 40)(q0:0<=q)(q1:q<=1000):Sz 60 q:=by
 obtain⟨z,rfl⟩:=h
 have z0:0<=z:=(bF h0).mp q0
 have z1:z<=1000 * N:=by
  have e:(1000:Rat) - Õ z N=Õ (1000 * N - z) N:=by
   have e1:(1000:Rat)=Õ (1000 * N) N:=by
    rw[show Õ (1000 * N) N=Õ (1000 * N) (1 * N) by rw[xE],qd (by lia)];rfl
   have:=div_add (a:=1000 * N - z) (c:=z) (b:=N) (by lia)
   rw[show 1000 * N - z+z=1000 * N by lia,<-e1]at this
   grind
  have:0<=Õ (1000 * N - z) N:=by rw[<-e];grind
  have:=(bF h0).mp this
  lia
 have c:(1000:Int) * 2 ^ 40 < 2 ^ 60:=by decide
 exact yb (by lia) (g9 z0 (by lia)) (g9 (by lia) (by lia))
def km (k:Int)(ps:Á (Str × Rat)):Á (Str × Rat):=ps.map λ p=>(p.1,p.2 * (k:Rat))
abbrev aV:Ev:=pD (Ø 1 ao (Ã (Ę (aL (Ã (oU (mv 0) (mv 3) (Ō (Ã (mc (.int 0)) (Ã (mc (.int 1)) Ð)))) (Ã (Ø 2 aw (Ã (mv 4) (Ã (Ō (Ã (mv 2) (Ã (mc (.int 1)) Ð))) Ð))) Ð)))) Ð))
abbrev aB:Ms:=qX (mv 0) (mv 3) aV
theorem div_one (k:Int):Õ k 1=(k:Rat):=by
 have:=ţ (k:Rat)
 rw[UZ,UY]at this
 exact this
theorem PD (h:Sz 60 q)(k0:0<=k)(k1:k<=1000)(s:S):aw [fq q,.tup [.int k,.int 1]] s=.ok (fq (q * (k:Rat))) s:=by
 have e:=Hk (n:=60) (by decide) s (a:=q.num) (b:=q.den) (c:=k) (d:=1) (by have:=iM q;lia) (by decide) h.1 h.2 (g9 k0 (by lia)) (g9 (by decide) (by decide))
 rw[ţ]at e
 rw[show fq q=.tup [.int q.num,.int q.den] from rfl,e,div_one]
theorem M4 {i:Nat}{D:Á (Str × Rat)}{x1:Í AV}{k:Int}{n:Str}{q:Rat}{s:S}(hd:s[i]? = À (.dK (D.map kR))) (k0:0<=k)(k1:k<=1000)(hq:Sz 60 q)(h1:Sz 60 ((ř D n).getD 0)) (h2:Sz 60 (q * (k:Rat))) (h3:Sz 60 ((ř D n).getD 0+q * (k:Rat))) :
  aV [À (.ref i),x1,À (.int k),À (.str n),À (fq q)] s=.ok (fq ((ř D n).getD 0+q * (k:Rat))) s:=by
 let E:En:=[À (.ref i),x1,À (.int k),À (.str n),À (fq q)]
 have d1:mx s i=À (D.map kR):=by unfold mx;rw[hd]
 have t0:Ō (Ã (mc (.int 0)) (Ã (mc (.int 1)) Ð)) E s=.ok (fq 0) s:=pV (vs:=[.int 0,.int 1]) rfl (by simp)
 have eg:oU (mv 0) (mv 3) (Ō (Ã (mc (.int 0)) (Ã (mc (.int 1)) Ð))) E s=.ok (fq ((ř D n).getD 0)) s:=by
  unfold oU
  show(need (Mm.bX "dict" (.ref i) s) λ _=>(Ō (Ã (mc (.int 0)) (Ã (mc (.int 1)) Ð)) E s).bind λ c s3=>zM (.ref i) (.str n) c s3)=_
  rw[show Mm.bX "dict" (.ref i) s=À () from by show(match s[i]? with|some (.dK _)=>À ()|some (.dT _)=>À ()|_=>none)=_;rw[hd],ď,t0,ð]
  show(need (mx s i) λ kvs=>need (lL (.str n)) λ k=>R.ok ((fY kvs k).getD (fq 0)) s)=_
  rw[d1,ď,show lL (.str n)=À (.inr n) from rfl,ď,nM]
  cases ř D n<;>rfl
 have et:Ø 2 aw (Ã (mv 4) (Ã (Ō (Ã (mv 2) (Ã (mc (.int 1)) Ð))) Ð)) E s=.ok (fq (q * (k:Rat))) s:=call2 (v:=fq q) (v2:=.tup [.int k,.int 1]) rfl (pV (vs:=[.int k,.int 1]) rfl (by simp)) (PD hq k0 k1 s)
 have el:aL (Ã (oU (mv 0) (mv 3) (Ō (Ã (mc (.int 0)) (Ã (mc (.int 1)) Ð)))) (Ã (Ø 2 aw (Ã (mv 4) (Ã (Ō (Ã (mv 2) (Ã (mc (.int 1)) Ð))) Ð))) Ð)) E s=.ok [fq ((ř D n).getD 0),fq (q * (k:Rat))] s:=by
  have:∀ (a b:Ev),a E s=.ok (fq ((ř D n).getD 0)) s->b E s=.ok (fq (q * (k:Rat))) s->aL (Ã a (Ã b Ð)) E s=.ok [fq ((ř D n).getD 0),fq (q * (k:Rat))] s:=λ a b ha hb=>by
   unfold aL Ã Ð
   rw[ha,ð,hb]
   simp only[ð]
   rw[É (p7 (by simp))]
  exact this _ _ eg et
 refine vz (z:=[.lst [fq ((ř D n).getD 0),fq (q * (k:Rat))]]) ?_ (iq _ _)
 exact zb (pO el) (BC (m:=60) (by decide) (ű _ _) (by decide) h1 h2 h3)
theorem AU {i j:Nat}{k:Int}{gs:Gd}{al:Á (Str × Rat)}(k0:0<=k)(k1:k<=1000)(hg:gs=[(j,al.map ŷ)]) (ij:j≠i):∀ (ps:Á (Str × Rat)) (D:Á (Str × Rat)) (x1 x3 x4:Í AV) (s:S),s[i]? = À (.dK (D.map kR))->û s j=À (al.map ŷ)->Ia 60 D (km k ps)->(∀ p∈ps,Sz 60 p.2)->
  ∃ y3 y4,forL (gT 2 (Ù (gN 3) (Ù (gN 4) ę))) aB gs (ps.map ŷ) [À (.ref i),x1,À (.int k),x3,x4] s=.nx [À (.ref i),x1,À (.int k),y3,y4] (s.set i (.dK ((ï D (km k ps)).map kR)))
 | [],D,x1,x3,x4,s,hd,hj,_,_=>by
  refine⟨x3,x4,?_⟩
  rw[aE,forL,É (by rw[hg];exact(Mm.lF _ _ _).mpr hj)]
  have:s.set i (.dK ((ï D (km k [])).map kR))=s:=by
   show s.set i (.dK (D.map kR))=s
   have hi:=(Ë.mp hd)
   obtain⟨h1,h2⟩:=hi
   rw[<-h2];exact List.set_getElem_self h1
  rw[this]
 | p :: ps,D,x1,x3,x4,s,hd,hj,hG,hp=>by
  obtain⟨⟨hl,g1,g2,g3⟩,hG⟩:(D.length < 64/\Sz 60 ((ř D p.1).getD 0)/\Sz 60 (p.2 * (k:Rat))/\Sz 60 ((ř D p.1).getD 0+p.2 * (k:Rat)))/\Ia 60 (nE D p.1 ((ř D p.1).getD 0+p.2 * (k:Rat))) (km k ps):=hG
  rw[È,forL,É (by rw[hg];exact(Mm.lF _ _ _).mpr hj)]
  have ev:=M4 (x1:=x1) (n:=p.1) hd k0 k1 (hp p (.head _)) g1 g2 g3
  have hi:i < s.length:=(Ë.mp hd).1
  let D':=nE D p.1 ((ř D p.1).getD 0+p.2 * (k:Rat))
  have d1:mx s i=À (D.map kR):=by unfold mx;rw[hd]
  have eb:aB [À (.ref i),x1,À (.int k),À (.str p.1),À (fq p.2)] s=.nx [À (.ref i),x1,À (.int k),À (.str p.1),À (fq p.2)] (s.set i (.dK (D'.map kR))):=by
   unfold aB qX
   rw[ev]
   show putD (fq ((ř D p.1).getD 0+p.2 * (k:Rat))) (.ref i) (.str p.1) _ s=_
   show(match mx s i,lL (.str p.1) with
    | some kvs,À k'=>if kvs.length < sizeLine then RS.nx _ (s.set i (.dK (oH kvs k' (fq ((ř D p.1).getD 0+p.2 * (k:Rat)))))) else .bad
    | _,_=>.bad)=_
   rw[d1]
   show(if (D.map kR).length < sizeLine then RS.nx _ (s.set i (.dK (oH (D.map kR) (.inr p.1) (fq ((ř D p.1).getD 0+p.2 * (k:Rat)))))) else .bad)=_
   rw[É (Ş (by rw[Æ];lia)),B4]
  obtain⟨y3,y4,ih⟩:=AU k0 k1 hg ij ps D' x1 (À (.str p.1)) (À (fq p.2)) (s.set i (.dK (D'.map kR))) (đ hi) (by unfold û at hj ⊢;rw[ô (bR ij)];exact hj) hG λ q hq=>hp q (.tail _ hq)
  refine⟨y3,y4,?_⟩
  show(match aB [À (.ref i),x1,À (.int k),À (.str p.1),À (fq p.2)] s with
   | .nx e2 s2=>forL (gT 2 (Ù (gN 3) (Ù (gN 4) ę))) aB gs (ps.map ŷ) e2 s2|.ct e2 s2=>forL (gT 2 (Ù (gN 3) (Ù (gN 4) ę))) aB gs (ps.map ŷ) e2 s2|.bk e2 s2=>.nx e2 s2|q=>q)=_
  rw[eb]
  show forL (gT 2 (Ù (gN 3) (Ù (gN 4) ę))) aB gs (ps.map ŷ) [À (.ref i),x1,À (.int k),À (.str p.1),À (fq p.2)] (s.set i (.dK (D'.map kR)))=_
  rw[ih,List.set_set]
  rfl
theorem IH {ps D:Á (Str × Rat)}{s:S}(k0:0<=k)(k1:k<=1000)(ij:j≠i)(hd:s[i]? = À (.dK (D.map kR))) (hj:û s j=À (ps.map ŷ)) (hG:Ia 60 D (km k ps)) (hp:∀ p∈ps,Sz 60 p.2):ő [.ref i,.ref j,.int k] s=.ok (.ref i) (s.set i (.dK ((ï D (km k ps)).map kR))):=by
 obtain⟨y3,y4,e⟩:=AU (al:=ps) k0 k1 rfl ij ps D (À (.ref j)) none none s hd hj hG hp
 have src:Ĳ (mv 1) [À (.ref i),À (.ref j),À (.int k),none,none] s=.ok (ps.map ŷ,[(j,ps.map ŷ)]) s:=by
  show need (û s j) _=_
  rw[hj];rfl
 have eb:fC [À (.ref i),À (.ref j),À (.int k),none,none] s=.rt (.ref i) (s.set i (.dK ((ï D (km k ps)).map kR))):=by
  unfold fC ì gD
  rw[src]
  show(match forL (gT 2 (Ù (gN 3) (Ù (gN 4) ę))) aB [(j,ps.map ŷ)] (ps.map ŷ) [À (.ref i),À (.ref j),À (.int k),none,none] s with|.nx e s1=>ě (mv 0) e s1|r=>r)=_
  rw[e];rfl
 unfold ő g_
 show(match fC [À (.ref i),À (.ref j),À (.int k),none,none] s with|.rt v s1=>R.ok v s1|.nx _ s1=>.ok .ĥ s1|.ex c s1=>.ex c s1|_=>.bad)=_
 rw[eb]
theorem qv:∀ (a b D:Á (Str × Rat)),ï D (a++b)=ï (ï D a) b
 | [],b,D=>rfl
 | (n,q) :: a,b,D=>by show ï (nE D n ((ř D n).getD 0+q)) (a++b)=_;rw[qv a b];rfl
theorem uM (k:Str):∀ a b:Á (Str × Rat),mi (a++b) k=mi a k+mi b k
 | [],b=>by show mi b k=0+mi b k;grind
 | p :: a,b=>by show(if p.1=k then p.2 else 0)+mi (a++b) k=(if p.1=k then p.2 else 0)+mi a k+mi b k;rw[uM k a b];grind
theorem zY (hN:0 < N)(k:Str):∀ {L:Á (Str × Rat)},(∀ p∈L,eR N p.2)->eR N (mi L k)
 | [],_=>eR.zero N
 | p :: L,h=>by
  show eR N ((if p.1=k then p.2 else 0)+mi L k)
  refine eR.add hN ?_ (zY hN k λ x hx=>h x (.tail _ hx))
  split
  ·exact h p (.head _)
  ·exact eR.zero N
theorem nI (k:Str):∀ {L:Á (Str × Rat)},(∀ p∈L,0<=p.2)->0<=mi L k/\mi L k<=Č (L.map (·.2))
 | [],_=>by constructor<;>(show(0:Rat)<=0;grind)
 | p :: L,h=>by
  have ih:=nI k (L:=L) λ x hx=>h x (.tail _ hx)
  have hp:=h p (.head _)
  show 0<=(if p.1=k then p.2 else 0)+mi L k/\(if p.1=k then p.2 else 0)+mi L k<=p.2+Č (L.map (·.2))
  split<;>constructor<;>grind
theorem BL:∀ {l m:Á α},l.Nodup->(∀ x∈l,x∈m)->l.length<=m.length
 | [],m,_,_=>Ă _
 | a :: l,m,h,k=>by
  obtain⟨h1,h2⟩:=Ţ.mp h
  obtain⟨m1,m2,rfl⟩:=List.append_of_mem (k a (.head _))
  have:=BL (l:=l) (m:=m1++m2) h2 λ x hx=>by
   have hm:=k x (.tail _ hx)
   rcases ê.mp hm with hm|hm
   ·exact İ _ hm
   ·rcases Ò.mp hm with rfl|hm
    ·exact absurd hx h1
    ·exact ç _ hm
  simp at this ⊢
  lia
structure Dk (N:Int)(ns:Á Str)(L:Á (Str × Rat)):Prop where
 i:∀ p∈L,eR N p.2
 z:∀ p∈L,0<=p.2
 k:∀ p∈L,p.1∈ns
 s:Č (L.map (·.2))<=100
theorem Dk.pre (h:Dk N ns (a++b)):Dk N ns a:=by
 refine⟨λ p hp=>h.i p (İ _ hp),λ p hp=>h.z p (İ _ hp),λ p hp=>h.k p (İ _ hp),?_⟩
 have:=h.s
 rw[ä,eD]at this
 have nn:∀ l:Á (Str × Rat),(∀ p∈l,0<=p.2)->0<=Č (l.map (·.2)):=λ l hl=>by
  have:=nI "" hl
  grind
 have:=nn b λ p hp=>h.z p (ç _ hp)
 grind
theorem Dk.sz (h:Dk N ns L)(h0:0 < N)(h1:N<=2 ^ 40)(k:Str):Sz 60 ((ř (ï [] L) k).getD 0):=by
 rw[fF]
 have e:(ř ([]:Á (Str × Rat)) k).getD 0+mi L k=mi L k:=by show(0:Rat)+_=_;rw[ah]
 rw[e]
 obtain⟨b1,b2⟩:=nI k h.z
 exact vF (zY h0 k h.i) h0 h1 b1 (by have:=h.s;grind)
theorem Dk.len (h:Dk N ns L):(ï [] L).length<=ns.length:=by
 have:=BL (bV L [] Š) (m:=ns) λ x hx=>by
  rcases(fi x L []).mp hx with hx|hx
  ·cases hx
  ·obtain⟨p,hp,rfl⟩:=â.mp hx
   exact h.k p hp
 rwa [Æ]at this
theorem Dk.gok (h0:0 < N)(h1:N<=2 ^ 40)(hn:ns.length < 64):∀ (M L:Á (Str × Rat)),Dk N ns (L++M)->Ia 60 (ï [] L) M
 | [],L,h=>by show(ï [] L).length < 64;have:=h.pre.len;lia
 | (n,q) :: M,L,h=>by
  have h':Dk N ns ((L++[(n,q)])++M):=by rw[æ];exact h
  have hp:=h'.pre
  have hq:eR N q/\0<=q:=⟨h.i (n,q) (by simp),h.z (n,q) (by simp)⟩
  have ih:=Dk.gok h0 h1 hn M (L++[(n,q)]) h'
  rw[qv]at ih
  have e3:=hp.sz h0 h1 n
  rw[qv]at e3
  have ev:(ř (ï (ï [] L) [(n,q)]) n).getD 0=(ř (ï [] L) n).getD 0+q:=by
   show(ř (nE (ï [] L) n ((ř (ï [] L) n).getD 0+q)) n).getD 0=_
   rw[wB,É rfl];rfl
  rw[ev]at e3
  have q1:q<=1000:=by
   have:=hp.s
   rw[ä,eD]at this
   have a0:=(nI "" (L:=L) λ p WQ=>h.z p (İ _ WQ))
   have:Č (([(n,q)]:Á (Str × Rat)).map (·.2))=q:=by show q+0=q;grind
   grind
  exact⟨⟨by have:=h.pre.len;lia,h.pre.sz h0 h1 n,vF hq.1 h0 h1 hq.2 q1,e3⟩,ih⟩
open Sx
def pT:Int->Á Int->Int->Á (Int × Int)
 | f,[],g=>[(f,g - f)]
 | f,c :: cs,g=>(f,c - f) :: pT c cs g
def Il (p:Int × Int):AV:=.tup [.int p.1,.int p.2]
theorem B2 (g:Int):∀ (c:Á Int) (f:Int),B1 (f :: c) (c++[g])=(pT f c g).map Il
 | [],f=>rfl
 | a :: c,f=>by
  have ih:=B2 g c a
  show Il (f,a - f) :: B1 (a :: c) (c++[g])=Il (f,a - f) :: (pT a c g).map Il
  rw[ih]
theorem zS:∀ (c:Á Int)(f g:Int),c.Pairwise (· < ·)->(∀ x∈c,f < x/\x < g)->f < g->(∀ p∈pT f c g,f<=p.1/\1<=p.2/\p.1+p.2<=g/\∀ x∈c,¬ (p.1 < x/\x < p.1+p.2))/\((pT f c g).map (·.2)).sum=g - f
 | [],f,g,_,_,h=>by
  refine⟨λ p hp=>?_,by show g - f+0=g - f;lia⟩
  rw[ñ.mp hp]
  exact⟨by dsimp only;lia,by dsimp only;lia,by dsimp only;lia,(λ x hx=>nomatch hx)⟩
 | a :: c,f,g,hp,hx,h=>by
  obtain⟨h1,h2⟩:=ġ.mp hp
  have ha:=hx a (.head _)
  obtain⟨W3,SA⟩:=zS c a g h2 (λ x Ih=>⟨h1 x Ih,(hx x (.tail _ Ih)).2⟩) ha.2
  refine⟨λ p Bs=>?_,?_⟩
  ·rcases Ò.mp (show p∈(f,a - f) :: pT a c g from Bs) with rfl|Bs
   ·refine⟨by dsimp only;lia,by dsimp only;lia,by dsimp only;lia,λ x Ih=>?_⟩
    rcases Ò.mp Ih with rfl|Ih
    ·dsimp only;lia
    ·have:=h1 x Ih;dsimp only;lia
   ·obtain⟨b1,b2,b3,b4⟩:=W3 p Bs
    refine⟨by lia,b2,b3,λ x Ih=>?_⟩
    rcases Ò.mp Ih with rfl|Ih
    ·lia
    ·exact b4 x Ih
  ·show a - f+((pT a c g).map (·.2)).sum=g - f
   rw[SA];lia
theorem PJ (l:Á Int):(uniq l).Nodup:=by
 have:∀ (l þ:Á Int),þ.Nodup->(l.foldl hR þ).Nodup:=by
  intro l
  induction l with
  | nil=>intro þ h;exact h
  | cons a l ih=>intro þ h;exact ih _ (DE h)
 exact this l [] Š
theorem Lz (x:Int)(l:Á Int):x∈uniq l ↔ x∈l:=by
 have:∀ (l þ:Á Int),x∈l.foldl hR þ ↔ x∈þ∨x∈l:=by
  intro l
  induction l with
  | nil=>intro þ;simp
  | cons a l ih=>intro þ;rw[xG,ih,JN];simp[or_assoc]
 rw[show uniq l=l.foldl hR [] from rfl,this];simp
theorem sW (rows:Á Rw)(f m:Int):(dn rows f m).Pairwise (· < ·):=by
 unfold dn
 have nd:(sortI (uniq ((mE rows).filter (Dm f (f+m))))).Nodup:=(sortI_perm _).nodup_iff.mpr (PJ _)
 exact((lQ _).and nd).imp λ {a b} h=>by have:=h.1;have:=h.2;lia
theorem vf (rows:Á Rw)(f m x:Int):x∈dn rows f m ↔ x∈mE rows/\f < x/\x < f+m:=by
 unfold dn
 rw[(sortI_perm _).mem_iff,Lz,aZ]
 unfold Dm
 simp
theorem F0 (h:b<=u)(z:Rat):∀ us:Á (Int × Rat),(∀ p∈us,¬ (b < p.1/\p.1<=u))->i_ u z us=i_ b z us
 | [],_=>rfl
 | p :: us,k=>by
  have hp:=k p (.head _)
  have ih:=F0 h z us λ x hx=>k x (.tail _ hx)
  unfold i_
  by_cases c:b < p.1
  ·rw[É c,É (by lia)]
  ·rw[Ó c,Ó (by lia)];exact ih
theorem jb (h:b<=u):∀ rows:Á Rw,(∀ x∈mE rows,¬ (b < x/\x<=u))->ã u rows=ã b rows
 | [],_=>rfl
 | .of n q :: r,k=>by show(n,q) :: ã u r=(n,q) :: ã b r;rw[jb h r k]
 | .left n q :: r,k=>jb h r k
 | .len n q :: r,k=>jb h r k
 | .steps n us z :: r,k=>by
  show(n,i_ u z us) :: ã u r=(n,i_ b z us) :: ã b r
  rw[jb h r λ x hx=>k x (ç _ hx),F0 h z us λ p hp=>k p.1 (İ _ (cC hp))]
def wR (u:Int)(rows:Á Rw):Rat:=jE (ŋ (Ť u rows) rows) rows
theorem IJ (h:b<=u)(k:∀ x∈mE rows,¬ (b < x/\x<=u)):ù u rows=ù b rows/\wR u rows=wR b rows:=by
 have w:=jb h rows k
 have r:Ť u rows=Ť b rows:=by unfold Ť;rw[w]
 unfold ù wR aA
 rw[w,r]
 exact⟨rfl,rfl⟩
theorem zU (hm:1<=m)(hp:p∈pT f (dn rows f m) (f+m)) (h1:p.1<=u)(h2:u < p.1+p.2):ù u rows=ù p.1 rows/\wR u rows=wR p.1 rows:=by
 obtain⟨s1,_⟩:=zS (dn rows f m) f (f+m) (sW rows f m) (λ x hx=>((vf rows f m x).mp hx).2) (by lia)
 obtain⟨b1,b2,b3,b4⟩:=s1 p hp
 refine IJ h1 λ x hx hxu=>?_
 exact b4 x ((vf rows f m x).mpr ⟨hx,by lia,by lia⟩) ⟨hxu.1,by lia⟩
theorem z9:∀ {D:Á (Str × Rat)},(D.map (·.1)).Nodup->∀ {p:Str × Rat},p∈D->ř D p.1=À p.2
 | q :: D,h,p,hp=>by
  rw[È]at h
  obtain⟨h1,h2⟩:=Ţ.mp h
  rcases Ò.mp hp with rfl|hp
  ·unfold ř;rw[É rfl]
  ·unfold ř
   rw[Ó (λ e=>h1 (by rw[e];exact cC hp))]
   exact z9 h2 hp
theorem RV (ht:∀ k,mi L1 k=mi L2 k)(hk:∀ k,k∈L1.map (·.1) ↔ k∈L2.map (·.1)):RU ((ï [] L1).map kR) ((ï [] L2).map kR)=true:=by
 have n1:=bV L1 [] Š
 have n2:=bV L2 [] Š
 have kk:∀ k,k∈(ï [] L1).map (·.1) ↔ k∈(ï [] L2).map (·.1):=λ k=>by rw[fi,fi,hk k]
 have pm:=(kh n1 n2).mpr kk
 unfold RU
 rw[Ÿ]
 constructor
 ·rw[Æ,Æ]
  have:=pm.length_eq
  rw[Æ,Æ]at this
  rw[this];simp
 ·rw[ü]
  intro x hx
  obtain⟨p,hp,rfl⟩:=â.mp hx
  obtain⟨q2,e2⟩:=rn ((kk p.1).mp (cC hp))
  have v1:=z9 n1 hp
  have t1:=fF p.1 L1 []
  have t2:=fF p.1 L2 []
  rw[v1]at t1
  rw[e2,<-ht]at t2
  have e:p.2=q2:=(show p.2=_ from t1).trans (show _=q2 from t2.symm)
  unfold DB
  rw[show(kR p).1=(.inr p.1:Key) from rfl,nM,e2]
  show decide (OS (fq p.2)=OS (fq q2))=true
  rw[e];simp
theorem Gb (z:Int)(k:Str):∀ l:Á (Str × Rat),mi (km z l) k=mi l k * (z:Rat)
 | []=>by show(0:Rat)=0 * _;rw[ZJ]
 | p :: l=>by
  show(if p.1=k then p.2 * (z:Rat) else 0)+mi (km z l) k=((if p.1=k then p.2 else 0)+mi l k) * (z:Rat)
  rw[Gb z k l]
  split<;>grind
theorem zO (l:Á (Str × Rat)):km 1 l=l:=by
 unfold km
 rw[Ļ (g:=id) λ p _=>?_]
 ·simp
 ·show(p.1,p.2 * ((1:Int):Rat))=p
  rw[show((1:Int):Rat)=1 from rfl,Rat.mul_one]
theorem Pa (z:Int)(a b:Á (Str × Rat)):km z (a++b)=km z a++km z b:=by unfold km;rw[ä]
theorem Lg (z:Int)(l:Á (Str × Rat)):(km z l).map (·.1)=l.map (·.1):=by unfold km;rw[ó];rfl
theorem F' (k:Str)(l:Á (Str × Rat)):∀ n:Nat,mi (Ü n l).flatten k=mi l k * ((n:Int):Rat)
 | 0=>by show(0:Rat)=_ * ((0:Int):Rat);rw[show((0:Int):Rat)=0 from rfl,Rat.mul_zero]
 | n+1=>by
  rw[ļ,ag,uM,F' k l n]
  have:(((n+1:Nat):Int):Rat)=((n:Int):Rat)+1:=by
   rw[show((n+1:Nat):Int)=(n:Int)+1 from rfl,oM];rfl
  rw[this];grind
def mJ (rows:Á Rw)(u:Int):Á (Str × Rat):=ù u rows++[(("":Str),wR u rows)]
def JX (rows:Á Rw)(p:Int × Int):Á (Str × Rat):=(Ü p.2.toNat (mJ rows p.1)).flatten
def C2 (rows:Á Rw)(p:Int × Int):Á (Str × Rat):=km p.2 (mJ rows p.1)
theorem QE (rows:Á Rw)(k:Str):∀ ps:Á (Int × Int),(∀ p∈ps,1<=p.2)->mi (ps.flatMap (JX rows)) k=mi (ps.flatMap (C2 rows)) k
 | [],_=>rfl
 | p :: ps,h=>by
  rw[ņ,ņ,uM,uM,QE rows k ps λ q hq=>h q (.tail _ hq)]
  congr 1
  unfold JX C2
  rw[F',Gb,show((p.2.toNat:Nat):Int)=p.2 from by have:=h p (.head _);lia]
theorem QD (rows:Á Rw)(k:Str):∀ ps:Á (Int × Int),(∀ p∈ps,1<=p.2)->(k∈(ps.flatMap (JX rows)).map (·.1) ↔ k∈(ps.flatMap (C2 rows)).map (·.1))
 | [],_=>Iff.rfl
 | p :: ps,h=>by
  rw[ņ,ņ,ä,ä,ê,ê,QD rows k ps λ q hq=>h q (.tail _ hq)]
  have:k∈(JX rows p).map (·.1) ↔ k∈(C2 rows p).map (·.1):=by
   unfold JX C2
   rw[Lg]
   obtain⟨m,hm⟩:∃ m,p.2.toNat=m+1:=⟨p.2.toNat - 1,by have:=h p (.head _);lia⟩
   rw[hm]
   constructor
   ·intro hk
    obtain⟨x,hx,rfl⟩:=â.mp hk
    obtain⟨y,hy,hxy⟩:=P0.mp hx
    rw[(sS.mp hy).2]at hxy
    exact cC hxy
   ·intro hk
    obtain⟨x,hx,rfl⟩:=â.mp hk
    exact cC (P0.mpr ⟨_,sS.mpr ⟨by lia,rfl⟩,hx⟩)
  rw[this]
theorem M7 (rows:Á Rw){ps:Á (Int × Int)}(h:∀ p∈ps,1<=p.2):RU ((ï [] (ps.flatMap (JX rows))).map kR) ((ï [] (ps.flatMap (C2 rows))).map kR)=true:=RV (λ k=>QE rows k ps h) λ k=>QD rows k ps h
theorem qF:∀ (rows:Á Rw)(t:Rat),(∀ r∈rows,∃ w,fB w r)->0<=t->0<=ŋ t rows
 | [],t,_,h=>h
 | .of _ _ :: r,t,g,h=>qF r t (λ x hx=>g x (.tail _ hx)) h
 | .steps _ _ _ :: r,t,g,h=>qF r t (λ x hx=>g x (.tail _ hx)) h
 | .len _ _ :: r,t,g,h=>qF r t (λ x hx=>g x (.tail _ hx)) h
 | .left n q :: r,t,g,h=>by
  obtain⟨w,_,q0,q1,_⟩:=g (.left n q) (.head _)
  refine qF r (t - t * q) (λ x hx=>g x (.tail _ hx)) ?_
  have:0<=t * (1 - q):=kB h (by grind)
  grind
theorem QX (g:Good rows)(u:Int):0<=wR u rows:=by
 have r0:0<=Ť u rows:=by have:=g.s u;unfold Ť;grind
 have:=qF rows (Ť u rows) g.a r0
 unfold wR jE
 split
 ·exact this
 ·grind
def Kn:Rw->Str
 | .of n _=>n
 | .steps n _ _=>n
 | .left n _=>n
 | .len n _=>n
theorem Kf (rows:Á Rw):∀ p∈aA u rows,p.1∈rows.map Kn:=by
 have w:∀ (l:Á Rw),∀ p∈ã u l,p.1∈l.map Kn:=by
  intro l
  induction l with
  | nil=>intro p hp;cases hp
  | cons r l ih=>
   intro p hp
   cases r with
   | of n q=>
    rcases Ò.mp (show p∈(n,q) :: ã u l from hp) with rfl|hp
    ·exact .head _
    ·exact .tail _ (ih p hp)
   | steps n us z=>
    rcases Ò.mp (show p∈(n,i_ u z us) :: ã u l from hp) with rfl|hp
    ·exact .head _
    ·exact .tail _ (ih p hp)
   | left n q=>exact .tail _ (ih p hp)
   | len n q=>exact .tail _ (ih p hp)
 have lf:∀ (l:Á Rw) (t:Rat),∀ p∈Ł t l,p.1∈l.map Kn:=by
  intro l
  induction l with
  | nil=>intro t p hp;cases hp
  | cons r l ih=>
   intro t p hp
   cases r with
   | left n q=>
    rcases Ò.mp (show p∈(n,t * q) :: Ł (t - t * q) l from hp) with rfl|hp
    ·exact .head _
    ·exact .tail _ (ih _ p hp)
   | of n q=>exact .tail _ (ih t p hp)
   | steps n us z=>exact .tail _ (ih t p hp)
   | len n q=>exact .tail _ (ih t p hp)
 have ln:∀ (l:Á Rw),∀ p∈ĺ l,p.1∈l.map Kn:=by
  intro l
  induction l with
  | nil=>intro p hp;cases hp
  | cons r l ih=>
   intro p hp
   cases r with
   | len n q=>
    rcases Ò.mp (show p∈(n,q) :: ĺ l from hp) with rfl|hp
    ·exact .head _
    ·exact .tail _ (ih p hp)
   | of n q=>exact .tail _ (ih p hp)
   | steps n us z=>exact .tail _ (ih p hp)
   | left n q=>exact .tail _ (ih p hp)
 intro p hp
 unfold aA at hp
 rcases ê.mp hp with hp|hp
 ·rcases ê.mp hp with hp|hp
  ·exact w rows p hp
  ·exact lf rows _ p hp
 ·unfold f_ at hp
  obtain⟨x,hx,rfl⟩:=â.mp hp
  exact ln rows x hx
theorem wj (hp:p∈ù u rows):p.2=mi (aA u rows) p.1/\p.1∈(aA u rows).map (·.1):=by
 unfold ù at hp
 have hp:=(aZ.mp hp).1
 unfold mB at hp
 obtain⟨k,hk,rfl⟩:=â.mp hp
 refine⟨?_,?_⟩
 ·show(ř (ï [] (aA u rows)) k).getD 0=_
  rw[fF]
  show(0:Rat)+_=_
  rw[ah]
 ·have hk:=(bY _).mem_iff.mp hk
  exact((fi k _ []).mp hk).resolve_left (by simp)
structure Un (rows:Á Rw)(u:Int):Prop where
 i:∀ p∈mJ rows u,eR (nN rows) p.2
 z:∀ p∈mJ rows u,0<=p.2
 k:∀ p∈mJ rows u,p.1∈(("":Str) :: rows.map Kn)
 s:Č ((mJ rows u).map (·.2))=1
theorem Gg (g:Good rows)(h:Rp rows)(u:Int):Un rows u:=by
 have f:=g.Jk u
 have hN:=(vY h).1
 obtain⟨a1,a2⟩:=Rt g.a u (Es g.a).1
 refine⟨λ p hp=>?_,λ p hp=>?_,λ p hp=>?_,?_⟩
 ·rcases ê.mp hp with hp|hp
  ·rw[(wj hp).1];exact zY hN _ a1
  ·rw[ñ.mp hp];exact a2
 ·rcases ê.mp hp with hp|hp
  ·rw[(wj hp).1];exact(nI _ f.d).1
  ·rw[ñ.mp hp];exact QX g u
 ·rcases ê.mp hp with hp|hp
  ·obtain⟨q,hq,e⟩:=â.mp (wj hp).2
   rw[<-e];exact .tail _ (Kf rows q hq)
  ·rw[ñ.mp hp];exact .head _
 ·unfold mJ
  rw[ä,eD,HP]
  have:=F8 (u:=u) (rows:=rows) f.c.d.g
  have e:Č (([(("":Str),wR u rows)]:Á (Str × Rat)).map (·.2))=wR u rows:=by show wR u rows+0=_;grind
  rw[e];exact this
structure Ds (rows:Á Rw)(L:Á (Str × Rat)) (B:Int):Prop where
 i:∀ p∈L,eR (nN rows) p.2
 z:∀ p∈L,0<=p.2
 k:∀ p∈L,p.1∈(("":Str) :: rows.map Kn)
 s:Č (L.map (·.2))=(B:Rat)
theorem Jd (rows:Á Rw):Ds rows [] 0:=⟨(λ _ h=>nomatch h),(λ _ h=>nomatch h),(λ _ h=>nomatch h),rfl⟩
theorem F9 (z:Int):∀ l:Á (Str × Rat),Č ((km z l).map (·.2))=Č (l.map (·.2)) * (z:Rat)
 | []=>by show(0:Rat)=0 * _;rw[ZJ]
 | p :: l=>by
  show p.2 * (z:Rat)+Č ((km z l).map (·.2))=(p.2+Č (l.map (·.2))) * (z:Rat)
  rw[F9 z l];grind
theorem DF {z:Int}(h:0<=z):(0:Rat)<=(z:Rat):=by
 have:0<=Õ z 1:=jY h (by decide)
 rwa [div_one]at this
theorem Ds.km {rows:Á Rw}{L:Á (Str × Rat)}{B z u:Int}(h:Ds rows L B)(U:Un rows u)(hN:0 < nN rows)(z0:0<=z):Ds rows (L++Ro.km z (mJ rows u)) (B+z):=by
 have m:∀ {p:Str × Rat},p∈Ro.km z (mJ rows u)->∃ q∈mJ rows u,p=(q.1,q.2 * (z:Rat)):=λ {p} hp=>by
  obtain⟨q,hq,e⟩:=â.mp hp
  exact⟨q,hq,e.symm⟩
 refine⟨λ p hp=>?_,λ p hp=>?_,λ p hp=>?_,?_⟩
 ·rcases ê.mp hp with hp|hp
  ·exact h.i p hp
  ·obtain⟨q,hq,rfl⟩:=m hp
   have:=(U.i q hq).mulR hN (show(0:Int) < 1 by decide) (q:=(z:Rat)) ⟨z,(div_one z).symm⟩
   rwa [xD]at this
 ·rcases ê.mp hp with hp|hp
  ·exact h.z p hp
  ·obtain⟨q,hq,rfl⟩:=m hp
   exact kB (U.z q hq) (DF z0)
 ·rcases ê.mp hp with hp|hp
  ·exact h.k p hp
  ·obtain⟨q,hq,rfl⟩:=m hp
   exact U.k q hq
 ·rw[ä,eD,h.s,F9,U.s,oM]
  grind
theorem Ds.unit {rows:Á Rw}{L:Á (Str × Rat)}{B u:Int}(h:Ds rows L B)(U:Un rows u)(hN:0 < nN rows):Ds rows (L++mJ rows u) (B+1):=by
 have:=h.km U hN (z:=1) (by decide)
 rwa [zO]at this
theorem Ds.dk {rows:Á Rw}{L:Á (Str × Rat)}{B:Int}(h:Ds rows L B)(hB:B<=100):Dk (nN rows) (("":Str) :: rows.map Kn) L:=by
 refine⟨h.i,h.z,h.k,?_⟩
 rw[h.s]
 have:(0:Rat)<=((100 - B:Int):Rat):=DF (by lia)
 have e:((100 - B:Int):Rat)+(B:Rat)=100:=by rw[<-oM,show 100 - B+B=100 by lia];rfl
 grind
theorem Rr (R:Rp rows)(hd:s[i]? = À (.dK ((ï [] L).map kR))) (hj:û s j=À (M.map ŷ)) (ij:j≠i)(k0:0<=k)(k1:k<=1000)(h:Dk (nN rows) (("":Str) :: rows.map Kn) (L++km k M)) (hM:∀ p∈M,Sz 60 p.2) :
  ő [.ref i,.ref j,.int k] s=.ok (.ref i) (s.set i (.dK ((ï [] (L++km k M)).map kR))):=by
 obtain⟨n0,n1⟩:=vY R
 have hn:((("":Str) :: rows.map Kn)).length < 64:=by have:=R.l;simp;lia
 rw[IH k0 k1 ij hd hj (Dk.gok n0 n1 hn _ _ h) hM,qv]
theorem Ly (R:Rp rows)(U:Un rows u):∀ p∈mJ rows u,Sz 60 p.2:=λ p hp=>by
 obtain⟨n0,n1⟩:=vY R
 refine vF (U.i p hp) n0 n1 (U.z p hp) ?_
 have a:∀ (l:Á (Str × Rat)),(∀ p∈l,0<=p.2)->∀ p∈l,p.2<=Č (l.map (·.2)):=by
  intro l
  induction l with
  | nil=>intro _ p hp;cases hp
  | cons q l ih=>
   intro h p hp
   have nn:=(nI "" (L:=l) λ x hx=>h x (.tail _ hx))
   have hq:=h q (.head _)
   show p.2<=q.2+Č (l.map (·.2))
   rcases Ò.mp hp with rfl|hp
   ·grind
   ·have:=ih (λ x hx=>h x (.tail _ hx)) p hp;grind
 have:=a (mJ rows u) U.z p hp
 rw[U.s]at this
 grind
theorem IQ (h:m env s=.ok v s)(h2:m2 env s=.ok v2 s)(k:F [v,v2] s=.ok w s1):Ø 2 F (Ã m (Ã m2 Ð)) env s=.ok w s1:=by
 unfold Ø Ã Ð
 rw[h,ð,h2]
 exact k
theorem Er (g:Good rows)(cl:Cl s)(h:m env s=.ok (.tup (rows.map rv)) s) (h2:m2 env s=.ok (.int u) s):aH (Ø 2 Đ (Ã m (Ã m2 Ð))) env s=.ok ((ù u rows).map ŷ) s:=by
 have f:=g.Jk u
 have e:=Kv (by decide) (by decide) f.a f.b cl
 unfold aH
 rw[IQ h h2 e,ð]
 have l1:û (s++(Ŗ u rows++[.lst ((ù u rows).map ŷ)])) (s.length+6)=À ((ù u rows).map ŷ):=vU s (Ŗ u rows++[.lst ((ù u rows).map ŷ)]) 6
 show(need (û (s++(Ŗ u rows++[.lst ((ù u rows).map ŷ)])) (s.length+6)) _)=_
 rw[l1,ď,É]
 ·rw[Ő];rfl
 ·refine⟨by lia,?_,lM _ _⟩
  rw[Ő rfl];exact cl
theorem gA (g:Good rows)(cl:Cl s)(h:m env s=.ok (.tup (rows.map rv)) s) (h2:m2 env s=.ok (.int u) s):Ę (aH (Ø 2 Đ (Ã m (Ã m2 Ð)))) env s=.ok (.ref s.length) (s++[.lst ((ù u rows).map ŷ)]):=pO (Er g cl h h2)
theorem gG (g:Good rows)(cl:Cl s)(h:m env s=.ok (.tup (rows.map rv)) s) (h2:m2 env s=.ok (.int u) s):Ø 2 Ĕ (Ã m (Ã m2 Ð)) env s=.ok (fq (wR u rows)) (s++Ŗ u rows):=IQ h h2 (LG (by decide) (by decide) (g.Jk u).a cl)
theorem RC (cl:Cl s)(i:Nat)(D:Á (Str × Rat)):Cl (s.set i (.dK (D.map kR))):=cl.set (by simp only[AO.low,vT])
theorem vw (R:Rp rows)(cl:Cl s)(hd:s[i]? = À (.dK ((ï [] L).map kR))) (h1:m1 env s=.ok (.ref i) s) (he:e env s=.ok (.ref j) (s++z)) (hj:s.length<=j)(lj:û (s++z) j=À (M.map ŷ)) (h3:m3 env (s++z)=.ok (.int k) (s++z)) (k0:0<=k)(k1:k<=1000)(hD:Dk (nN rows) (("":Str) :: rows.map Kn) (L++km k M)) (hM:∀ p∈M,Sz 60 p.2) :
  Ar (Ø 3 ő (Ã m1 (Ã e (Ã m3 Ð)))) env s=.ok (.ref i) (s.set i (.dK ((ï [] (L++km k M)).map kR))):=by
 have hi:i < s.length:=(Ë.mp hd).1
 have Qr:(s++z)[i]? = À (.dK ((ï [] L).map kR)):=by rw[é hi];exact hd
 have ec:Ø 3 ő (Ã m1 (Ã e (Ã m3 Ð))) env s=.ok (.ref i) ((s++z).set i (.dK ((ï [] (L++km k M)).map kR))):=by
  unfold Ø Ã Ð
  rw[h1,ð,he,ð,h3]
  exact Rr R Qr lj (by lia) k0 k1 hD hM
 unfold Ar
 rw[ec,ð]
 have et:((s++z).set i (.dK ((ï [] (L++km k M)).map kR))).take s.length=s.set i (.dK ((ï [] (L++km k M)).map kR)):=by
  rw[List.set_append_left _ _ hi,Ő (by rw[š])]
 rw[et,É]
 refine⟨?_,by simp only[AV.low];exact ø hi⟩
 have:=RC cl i (ï [] (L++km k M))
 unfold Cl at this
 rwa [š]at this
def Pc (p:Str × Rat):Dt:=.tup [.str p.1,.tup [.int p.2.num,.int p.2.den]]
theorem Uv (s:S)(p:Str × Rat):toD 19 s (ŷ p)=À (Pc p):=by
 unfold ŷ fq Pc
 simp[toD]
theorem FV (s:S):∀ ps:Á (Str × Rat),(ps.map ŷ).mapM (toD 19 s)=À (ps.map Pc)
 | []=>by simp
 | p :: r=>by rw[È,kg,Uv,FV s r];rfl
theorem FU:∀ ps:Á (Str × Rat),g6 (ps.map Pc)<=20
 | []=>by simp[g6]
 | p :: r=>by
  have ih:=FU r
  simp only[È,g6,Pc,Dt.dep]
  lia
theorem FD {ps:Á (Str × Rat)}(h1:û s i=À (ps.map ŷ)) (h2:û s j=À (ps.map ŷ)):aS (.ref i) (.ref j) s=.ok (.bl false) s:=by
 have t:∀ k:Nat,û s k=À (ps.map ŷ)->toD 20 s (.ref k)=À (.lst (ps.map Pc)):=λ k hk=>by
  simp only[toD,hk,l0,FV,iO]
 unfold aS
 have:oC s (.ref i) (.ref j)=À true:=by
  unfold oC
  simp only
  rw[t i h1,t j h2]
  show(if g6 (ps.map Pc)<=20 then À (g7 (ps.map Pc) (ps.map Pc)) else none)=_
  rw[É (FU ps),n9]
 rw[this];rfl
abbrev r9 (x0:AV)(d:Nat)(x2:Í AV)(rows:Á Rw)(x4 x5 x6 x7 x8:Í AV)(f m:Int)(i j:Nat)(x13 x14 x15:Í AV):En:=[À x0,À (.ref d),x2,À (.tup (rows.map rv)),x4,x5,x6,x7,x8,À (.int f),À (.int m),À (.ref i),À (.ref j),x13,x14,x15]
abbrev uC:Eb:=(rG (zl (cB (Ö aS (Ę (aH (Ø 2 Đ (Ã (mv 3) (Ã (mv 15) Ð))))) (Ę (aH (Ø 2 Đ (Ã (mv 3) (Ã (mv 13) Ð)))))))) (cB (Ö aS (Ø 2 Ĕ (Ã (mv 3) (Ã (mv 15) Ð))) (Ø 2 Ĕ (Ã (mv 3) (Ã (mv 13) Ð))))))
abbrev uA:Ev:=(Ar (Ø 3 ő (Ã (mv 11) (Ã (Ö aj (Ę (aH (Ø 2 Đ (Ã (mv 3) (Ã (mv 15) Ð))))) (Ę (aL (Ã (Ō (Ã (mc (.str "")) (Ã (Ø 2 Ĕ (Ã (mv 3) (Ã (mv 15) Ð))) Ð))) Ð)))) (Ã (mc (.int 1)) Ð)))))
theorem HS (g:Good rows)(same:ù u rows=ù b rows/\wR u rows=wR b rows)(cl:Cl s) :
  uC (r9 x0 d x2 rows x4 x5 x6 x7 x8 f m i j (À (.int b)) x14 (À (.int u))) s=.ok false (s++Ŗ u rows++Ŗ b rows):=by
 let E:En:=r9 x0 d x2 rows x4 x5 x6 x7 x8 f m i j (À (.int b)) x14 (À (.int u))
 have Mq:Cl (s++[.lst ((ù u rows).map ŷ)]):=cl.add (by simp only[Ĩ,jq,dm,AO.low];exact lM _ _)
 have p1:=gA g (u:=u) (m:=mv 3) (m2:=mv 15) (env:=E) cl rfl rfl
 have p2:=gA g (u:=b) (m:=mv 3) (m2:=mv 13) (env:=E) Mq rfl rfl
 have c1:zl (cB (Ö aS (Ę (aH (Ø 2 Đ (Ã (mv 3) (Ã (mv 15) Ð))))) (Ę (aH (Ø 2 Đ (Ã (mv 3) (Ã (mv 13) Ð))))))) E s=.ok false s:=by
  refine QK p1 p2 ?_ ?_
  ·rw[same.1]
   exact FD (ps:=ù b rows) (jF (ű _ _)) (ű _ _)
  ·rw[æ,Ő];rfl
 have w1:=gG g (u:=u) (m:=mv 3) (m2:=mv 15) (env:=E) cl rfl rfl
 have Wi:Cl (s++Ŗ u rows):=n8 cl
 have w2:=gG g (u:=b) (m:=mv 3) (m2:=mv 13) (env:=E) Wi rfl rfl
 have c2:cB (Ö aS (Ø 2 Ĕ (Ã (mv 3) (Ã (mv 15) Ð))) (Ø 2 Ĕ (Ã (mv 3) (Ã (mv 13) Ð)))) E s=.ok false (s++Ŗ u rows++Ŗ b rows):=by
  unfold cB Ö
  rw[w1,ð,w2,ð,same.2]
  have e:=Dv (s++Ŗ u rows++Ŗ b rows) (wR b rows).num (wR b rows).den (wR b rows).num (wR b rows).den
  have:aS (fq (wR b rows)) (fq (wR b rows)) (s++Ŗ u rows++Ŗ b rows)=.ok (.bl false) (s++Ŗ u rows++Ŗ b rows):=by
   unfold cz at e
   unfold aS
   cases q:oC (s++Ŗ u rows++Ŗ b rows) (fq (wR b rows)) (fq (wR b rows)) with
   | none=>rw[show oC (s++Ŗ u rows++Ŗ b rows) (.tup [.int (wR b rows).num,.int (wR b rows).den]) (.tup [.int (wR b rows).num,.int (wR b rows).den])=none from q]at e;cases e
   | some t=>
    rw[show oC (s++Ŗ u rows++Ŗ b rows) (.tup [.int (wR b rows).num,.int (wR b rows).den]) (.tup [.int (wR b rows).num,.int (wR b rows).den])=À t from q]at e
    have e:R.ok (AV.bl t) (s++Ŗ u rows++Ŗ b rows)=_:=e
    simp at e
    subst e
    rfl
  rw[this];rfl
 show rG _ _ E s=_
 unfold rG
 rw[c1]
 exact c2
theorem Lv (h:a env s=.ok v s1)(k:b env s1=.ok w s2):Ō (Ã a (Ã b Ð)) env s=.ok (.tup [v,w]) s2:=by
 unfold Ō Ã Ð
 rw[h,ð,k]
 simp only[ð]
 rw[É (p7 (by simp))]
theorem Kh (h:a env s=.ok v s1):Ę (aL (Ã a Ð)) env s=.ok (.ref s1.length) (s1++[.lst [v]]):=by
 unfold Ę aL Ã Ð
 rw[h]
 simp only[ð]
 rw[É (p7 (by simp))];rfl
theorem tw (g:Good rows)(u:Int):(ù u rows).length<=63:=by
 have h:=Fb _ _ (g.Jk u).b
 unfold ù
 refine ā (bE _ _) ?_
 unfold mB
 rw[Æ,(bY _).length_eq,Æ]
 lia
theorem LA (g:Good rows)(RP:Rp rows)(cl:Cl s)(hd:s[i]? = À (.dK ((ï [] L).map kR))) (hD:Dk (nN rows) (("":Str) :: rows.map Kn) (L++mJ rows u)) :
  uA (r9 x0 d x2 rows x4 x5 x6 x7 x8 f m i j x13 x14 (À (.int u))) s=.ok (.ref i) (s.set i (.dK ((ï [] (L++mJ rows u)).map kR))):=by
 let E:En:=r9 x0 d x2 rows x4 x5 x6 x7 x8 f m i j x13 x14 (À (.int u))
 let s1:S:=s++[.lst ((ù u rows).map ŷ)]
 have Mq:Cl s1:=cl.add (by simp only[Ĩ,jq,dm,AO.low];exact lM _ _)
 have p1:=gA g (u:=u) (m:=mv 3) (m2:=mv 15) (env:=E) cl rfl rfl
 have w1:=gG g (u:=u) (m:=mv 3) (m2:=mv 15) (env:=E) Mq rfl rfl
 let s2:S:=s1++Ŗ u rows
 let s3:S:=s2++[.lst [ŷ ("",wR u rows)]]
 have t1:Ō (Ã (mc (.str "")) (Ã (Ø 2 Ĕ (Ã (mv 3) (Ã (mv 15) Ð))) Ð)) E s1=.ok (ŷ ("",wR u rows)) s2:=Lv rfl w1
 have n1:Ę (aL (Ã (Ō (Ã (mc (.str "")) (Ã (Ø 2 Ĕ (Ã (mv 3) (Ã (mv 15) Ð))) Ð))) Ð)) E s1=.ok (.ref s2.length) s3:=Kh t1
 have pl:=tw g u
 have l1:û s3 s.length=À ((ù u rows).map ŷ):=jF (jF (ű _ _))
 have l2:û s3 s2.length=À [ŷ ("",wR u rows)]:=ű _ _
 have ea:aj (.ref s.length) (.ref s2.length) s3=.ok (.ref s3.length) (s3++[.lst ((mJ rows u).map ŷ)]):=by
  show(need (û s3 s.length) λ xs=>need (û s3 s2.length) λ ys=>if xs.length+ys.length<=sizeLine then R.ok (AV.ref s3.length) (s3++[.lst (xs++ys)]) else .bad)=_
  rw[l1,ď,l2,ď,É (p7 (by rw[Æ];simp;lia))]
  unfold mJ
  rw[ä];rfl
 have he:Ö aj (Ę (aH (Ø 2 Đ (Ã (mv 3) (Ã (mv 15) Ð))))) (Ę (aL (Ã (Ō (Ã (mc (.str "")) (Ã (Ø 2 Ĕ (Ã (mv 3) (Ã (mv 15) Ð))) Ð))) Ð))) E s=.ok (.ref s3.length) (s++([.lst ((ù u rows).map ŷ)]++Ŗ u rows++[.lst [ŷ ("",wR u rows)]]++[.lst ((mJ rows u).map ŷ)])):=by
  unfold Ö
  rw[p1,ð,n1,ð,ea]
  congr 1
  show s++[.lst ((ù u rows).map ŷ)]++Ŗ u rows++[.lst [ŷ ("",wR u rows)]]++[.lst ((mJ rows u).map ŷ)]=_
  simp only[æ]
 have es:s++([.lst ((ù u rows).map ŷ)]++Ŗ u rows++[.lst [ŷ ("",wR u rows)]]++[.lst ((mJ rows u).map ŷ)])=s3++[.lst ((mJ rows u).map ŷ)]:=by
  show _=s++[.lst ((ù u rows).map ŷ)]++Ŗ u rows++[.lst [ŷ ("",wR u rows)]]++[.lst ((mJ rows u).map ŷ)]
  simp only[æ]
 have:=vw RP (k:=1) (M:=mJ rows u) (m1:=mv 11) (m3:=mc (.int 1)) (env:=E) cl hd rfl he (by simp only[s3,s2,s1,õ];lia) (by rw[es];exact ű _ _) rfl (by decide) (by decide) (by rw[zO];exact hD) (Ly RP (Gg g RP u))
 rw[zO]at this
 exact this
abbrev uB:Ms:=(ì (eL uC (ě (mc (.bl false))) Ľ) (Ī 11 uA))
theorem HU (g:Good rows)(RP:Rp rows)(same:ù u rows=ù b rows/\wR u rows=wR b rows)(D:Dr c d n s)(ic:i≠c/\i≠d)(hd:s[i]? = À (.dK ((ï [] L).map kR))) (hL:Ds rows L B)(hB:B+1<=100) :
  ∃ s',uB (r9 x0 d x2 rows x4 x5 x6 x7 x8 f m i j (À (.int b)) x14 (À (.int u))) s=.nx (r9 x0 d x2 rows x4 x5 x6 x7 x8 f m i j (À (.int b)) x14 (À (.int u))) s'/\Dr c d n s'/\s'[i]? = À (.dK ((ï [] (L++mJ rows b)).map kR))/\Ds rows (L++mJ rows b) (B+1)/\s.length<=s'.length/\∀ k,k < s.length->k≠i->s'[k]? = s[k]?:=by
 have hi:i < s.length:=(Ë.mp hd).1
 have U:=Gg g RP b
 have hN:=(vY RP).1
 have eu:mJ rows u=mJ rows b:=by unfold mJ;rw[same.1,same.2]
 have hL':=hL.unit U hN
 have Mq:Cl (s++Ŗ u rows):=n8 D.cl
 have Wi:Cl (s++Ŗ u rows++Ŗ b rows):=n8 Mq
 have D2:Dr c d n (s++Ŗ u rows++Ŗ b rows):=by
  have:s++Ŗ u rows++Ŗ b rows=s++(Ŗ u rows++Ŗ b rows):=æ _ _ _
  rw[this];rw[this]at Wi
  exact D.app Wi
 have Qu:i < (s++Ŗ u rows++Ŗ b rows).length:=by simp only[õ];lia
 have hd2:(s++Ŗ u rows++Ŗ b rows)[i]? = À (.dK ((ï [] L).map kR)):=by rw[æ,é hi];exact hd
 have c1:=HS g same (x0:=x0) (d:=d) (i:=i) (j:=j) (x2:=x2) (x4:=x4) (x5:=x5) (x6:=x6) (x7:=x7) (x8:=x8) (x14:=x14) (f:=f) (m:=m) D.cl
 have a1:=LA g RP (u:=u) (x0:=x0) (d:=d) (j:=j) (x2:=x2) (x4:=x4) (x5:=x5) (x6:=x6) (x7:=x7) (x8:=x8) (x13:=À (.int b)) (x14:=x14) (f:=f) (m:=m) Wi hd2 (by rw[eu];exact hL'.dk hB)
 rw[eu]at a1
 refine⟨(s++Ŗ u rows++Ŗ b rows).set i (.dK ((ï [] (L++mJ rows b)).map kR)),?_,?_,?_,hL',?_,λ k hk Y6=>?_⟩
 ·unfold uB ì eL
  rw[c1]
  show Ī 11 uA _ (s++Ŗ u rows++Ŗ b rows)=_
  unfold Ī
  rw[a1];rfl
 ·exact D2.set (i:=i) (o:=.dK ((ï [] (L++mJ rows b)).map kR)) ic.1 ic.2 (by simp only[AO.low,vT])
 ·exact đ Qu
 ·rw[š];simp only[õ];lia
 ·rw[ô (bR Y6),æ,é hk]
theorem wA (g:Good rows)(RP:Rp rows)(ic:i≠c/\i≠d):∀ (z:Nat) (u:Int) (L:Á (Str × Rat)) (B:Int) (x15:Í AV) (s:S),(∀ v:Int,u<=v->v < u+z->ù v rows=ù b rows/\wR v rows=wR b rows)->Dr c d n s->s[i]? = À (.dK ((ï [] L).map kR))->Ds rows L B->B+z<=100->
  ∃ s' Aa,forL (gN 15) uB [] (jj u z) (r9 x0 d x2 rows x4 x5 x6 x7 x8 f m i j (À (.int b)) x14 x15) s=.nx (r9 x0 d x2 rows x4 x5 x6 x7 x8 f m i j (À (.int b)) x14 Aa) s'/\Dr c d n s'/\s'[i]? = À (.dK ((ï [] (L++(Ü z (mJ rows b)).flatten)).map kR))/\Ds rows (L++(Ü z (mJ rows b)).flatten) (B+z)/\s.length<=s'.length/\∀ k,k < s.length->k≠i->s'[k]? = s[k]?
 | 0,u,L,B,x15,s,_,D,hd,hL,_=>by
  refine⟨s,x15,?_,D,by simpa using hd,by simpa using hL,Î _,λ _ _ _=>rfl⟩
  show forL (gN 15) uB [] [] _ s=_
  rw[forL,É (bM s)]
 | z+1,u,L,B,x15,s,same,D,hd,hL,hB=>by
  obtain⟨s1,e1,D1,GY,hL1,ln1,g1⟩:=HU g RP (same u (Io _) (by lia)) (x0:=x0) (j:=j) (x2:=x2) (x4:=x4) (x5:=x5) (x6:=x6) (x7:=x7) (x8:=x8) (x14:=x14) (f:=f) (m:=m) D ic hd hL (by lia)
  obtain⟨s2,Aa,e2,D2,hd2,hL2,ln2,g2⟩:=wA g RP ic z (u+1) (L++mJ rows b) (B+1) (À (.int u)) s1 (λ v h1 h2=>same v (by lia) (by lia)) D1 GY hL1 (by lia)
  refine⟨s2,Aa,?_,D2,?_,?_,by lia,λ k hk Y6=>by rw[g2 k (by lia) Y6,g1 k hk Y6]⟩
  ·rw[K_,forL,É (bM s)]
   show(match uB (r9 x0 d x2 rows x4 x5 x6 x7 x8 f m i j (À (.int b)) x14 (À (.int u))) s with
    | .nx e2 s2=>forL (gN 15) uB [] (jj (u+1) z) e2 s2|.ct e2 s2=>forL (gN 15) uB [] (jj (u+1) z) e2 s2|.bk e2 s2=>.nx e2 s2|q=>q)=_
   rw[e1]
   exact e2
  ·rw[hd2,ļ,ag,æ]
  ·rw[ļ,ag,<-æ,show B+((z+1:Nat):Int)=B+1+(z:Int) by lia]
   exact hL2
abbrev aP:Ev:=(Ar (Ø 3 ő (Ã (mv 12) (Ã (Ę (aH (Ø 2 Đ (Ã (mv 3) (Ã (mv 13) Ð))))) (Ã (mv 14) Ð)))))
abbrev aW:Ev:=(Ar (Ø 3 ő (Ã (mv 12) (Ã (Ę (aL (Ã (Ō (Ã (mc (.str "")) (Ã (Ø 2 Ĕ (Ã (mv 3) (Ã (mv 13) Ð))) Ð))) Ð))) (Ã (mv 14) Ð)))))
abbrev sB:Ms:=(ì (Ī 12 aP) (ì (Ī 12 aW) (gD (sL (Ã (mv 13) (Ã (Ö aj (mv 13) (mv 14)) Ð))) (gN 15) uB)))
theorem zV (g:Good rows)(RP:Rp rows)(same:∀ v:Int,b<=v->v < b+z->ù v rows=ù b rows/\wR v rows=wR b rows)(b0:0<=b)(b1:b<=1000000)(z1:1<=z)(D:Dr c d n s)(ic:i≠c/\i≠d)(jc:j≠c/\j≠d)(ij:i≠j)(h1:s[i]? = À (.dK ((ï [] L1).map kR))) (h2:s[j]? = À (.dK ((ï [] L2).map kR))) (d1:Ds rows L1 B)(d2:Ds rows L2 B)(hB:B+z<=100)(hB0:0<=B) :
  ∃ s' Aa,sB (r9 x0 d x2 rows x4 x5 x6 x7 x8 f m i j (À (.int b)) (À (.int z)) x15) s=.nx (r9 x0 d x2 rows x4 x5 x6 x7 x8 f m i j (À (.int b)) (À (.int z)) Aa) s'/\Dr c d n s'/\s'[i]? = À (.dK ((ï [] (L1++JX rows (b,z))).map kR))/\s'[j]? = À (.dK ((ï [] (L2++C2 rows (b,z))).map kR))/\Ds rows (L1++JX rows (b,z)) (B+z)/\Ds rows (L2++C2 rows (b,z)) (B+z)/\s.length<=s'.length/\∀ k,k < s.length->k≠i->k≠j->s'[k]? = s[k]?:=by
 have U:=Gg g RP b
 have hN:=(vY RP).1
 have usz:=Ly RP U
 have hi:i < s.length:=(Ë.mp h1).1
 have hj:j < s.length:=(Ë.mp h2).1
 have Y1:Ds rows (L2++C2 rows (b,z)) (B+z):=d2.km U hN (by lia)
 have k2:=Y1.dk hB
 have e2:L2++C2 rows (b,z)=(L2++km z (ù b rows))++km z [(("":Str),wR b rows)]:=by
  show L2++km z (mJ rows b)=_
  unfold mJ
  rw[Pa,æ]
 rw[e2]at k2
 let E:En:=r9 x0 d x2 rows x4 x5 x6 x7 x8 f m i j (À (.int b)) (À (.int z)) x15
 have p1:=gA g (u:=b) (m:=mv 3) (m2:=mv 13) (env:=E) D.cl rfl rfl
 have a1:aP E s=.ok (.ref j) (s.set j (.dK ((ï [] (L2++km z (ù b rows))).map kR))):=vw RP (k:=z) (M:=ù b rows) (m1:=mv 12) (m3:=mv 14) (env:=E) D.cl h2 rfl p1 (Î _) (ű _ _) rfl (by lia) (by lia) k2.pre λ p hp=>usz p (İ _ hp)
 let s1:S:=s.set j (.dK ((ï [] (L2++km z (ù b rows))).map kR))
 have D1:Dr c d n s1:=D.set (i:=j) (o:=.dK ((ï [] (L2++km z (ù b rows))).map kR)) jc.1 jc.2 (by simp only[AO.low,vT])
 have Jw:s1[j]? = À (.dK ((ï [] (L2++km z (ù b rows))).map kR)):=đ hj
 have w1:=gG g (u:=b) (m:=mv 3) (m2:=mv 13) (env:=E) D1.cl rfl rfl
 have n1:Ę (aL (Ã (Ō (Ã (mc (.str "")) (Ã (Ø 2 Ĕ (Ã (mv 3) (Ã (mv 13) Ð))) Ð))) Ð)) E s1=.ok (.ref (s1++Ŗ b rows).length) (s1++(Ŗ b rows++[.lst (([(("":Str),wR b rows)]:Á (Str × Rat)).map ŷ)])):=by
  rw[<-æ]
  exact Kh (Lv rfl w1)
 have a2:aW E s1=.ok (.ref j) (s1.set j (.dK ((ï [] (L2++km z (ù b rows)++km z [(("":Str),wR b rows)])).map kR))):=vw RP (k:=z) (M:=[(("":Str),wR b rows)]) (m1:=mv 12) (m3:=mv 14) (env:=E) D1.cl Jw rfl n1 (by rw[õ];lia) (by rw[<-æ];exact ű _ _) rfl (by lia) (by lia) k2 λ p hp=>usz p (ç _ hp)
 rw[<-e2]at a2
 let s2:S:=s1.set j (.dK ((ï [] (L2++C2 rows (b,z))).map kR))
 have D2:Dr c d n s2:=D1.set (i:=j) (o:=.dK ((ï [] (L2++C2 rows (b,z))).map kR)) jc.1 jc.2 (by simp only[AO.low,vT])
 have l2:s2.length=s.length:=by simp only[s2,s1,š]
 have Y4:s2[j]? = À (.dK ((ï [] (L2++C2 rows (b,z))).map kR)):=đ (by simp only[s1,š];exact hj)
 have keep:∀ k,k≠j->s2[k]? = s[k]?:=λ k hk=>by
  show(List.set _ j _)[k]? = _
  rw[ô (bR hk),ô (bR hk)]
 obtain⟨s3,Aa,e3,D3,xh,hL3,ln3,g3⟩:=wA g RP (x0:=x0) (d:=d) (j:=j) (x2:=x2) (x4:=x4) (x5:=x5) (x6:=x6) (x7:=x7) (x8:=x8) (x14:=À (.int z)) (f:=f) (m:=m) ic z.toNat b L1 B x15 s2 (λ v ha hb=>same v ha (by lia)) D2 (by rw[keep i ij];exact h1) d1 (by lia)
 have ez:((z.toNat:Nat):Int)=z:=by lia
 rw[ez]at hL3
 refine⟨s3,Aa,?_,D3,xh,by rw[g3 j (by lia) (bR ij)];exact Y4,hL3,Y1,by lia,λ k hk Mu Jw=>by rw[g3 k (by lia) Mu,keep k Jw]⟩
 unfold sB ì
 have t1:Ī 12 aP E s=.nx E s1:=by unfold Ī;rw[a1];rfl
 have t2:Ī 12 aW E s1=.nx E s2:=by unfold Ī;rw[a2];rfl
 have t3:sL (Ã (mv 13) (Ã (Ö aj (mv 13) (mv 14)) Ð)) E s2=.ok (jj b z.toNat,[]) s2:=by
  show(if -(2 ^ 62)<=b/\b < 2 ^ 62/\-(2 ^ 62)<=b+z/\b+z < 2 ^ 62 then R.ok (jj b (b+z - b).toNat,[]) s2 else .bad)=_
  rw[É (by lia),show b+z - b=z by lia]
 show(match Ī 12 aP E s with|.nx e s1=>_|r=>r)=_
 rw[t1]
 dsimp only
 rw[t2]
 dsimp only
 unfold gD
 rw[t3]
 exact e3
def M3 (rows:Á Rw)(p:Int × Int):Prop:=0<=p.1/\p.1<=1000000/\1<=p.2/\∀ v:Int,p.1<=v->v < p.1+p.2->ù v rows=ù p.1 rows/\wR v rows=wR p.1 rows
theorem rj (g:Good rows)(RP:Rp rows)(ic:i≠c/\i≠d)(jc:j≠c/\j≠d)(ij:i≠j):∀ (ps:Á (Int × Int)) (L1 L2:Á (Str × Rat)) (B:Int) (x13 x14 x15:Í AV) (s:S),(∀ p∈ps,M3 rows p)->Dr c d n s->s[i]? = À (.dK ((ï [] L1).map kR))->s[j]? = À (.dK ((ï [] L2).map kR))->Ds rows L1 B->Ds rows L2 B->0<=B->B+(ps.map (·.2)).sum<=100->
  ∃ s' LV LW Aa,forL (gT 2 (Ù (gN 13) (Ù (gN 14) ę))) sB [] (ps.map Il) (r9 x0 d x2 rows x4 x5 x6 x7 x8 f m i j x13 x14 x15) s=.nx (r9 x0 d x2 rows x4 x5 x6 x7 x8 f m i j LV LW Aa) s'/\Dr c d n s'/\s'[i]? = À (.dK ((ï [] (L1++ps.flatMap (JX rows))).map kR))/\s'[j]? = À (.dK ((ï [] (L2++ps.flatMap (C2 rows))).map kR))/\Ds rows (L1++ps.flatMap (JX rows)) (B+(ps.map (·.2)).sum)/\Ds rows (L2++ps.flatMap (C2 rows)) (B+(ps.map (·.2)).sum)/\s.length<=s'.length/\∀ k,k < s.length->k≠i->k≠j->s'[k]? = s[k]?
 | [],L1,L2,B,x13,x14,x15,s,_,D,h1,h2,d1,d2,_,_=>by
  refine⟨s,x13,x14,x15,?_,D,by simpa using h1,by simpa using h2,by simpa using d1,by simpa using d2,Î _,λ _ _ _ _=>rfl⟩
  rw[aE,forL,É (bM s)]
 | p :: ps,L1,L2,B,x13,x14,x15,s,hp,D,h1,h2,d1,d2,hB0,hB=>by
  obtain⟨b,z⟩:=p
  obtain⟨b0,b1,z1,same⟩:M3 rows (b,z):=hp _ (.head _)
  have hB:B+(z+(ps.map (·.2)).sum)<=100:=hB
  have sn:0<=(ps.map (·.2)).sum:=by
   have:∀ l:Á (Int × Int),(∀ p∈l,M3 rows p)->0<=(l.map (·.2)).sum:=by
    intro l
    induction l with
    | nil=>intro _;exact Io _
    | cons q l ih=>
     intro h
     have h1:=(h q (.head _)).2.2.1
     have h2:=ih λ x hx=>h x (.tail _ hx)
     show 0<=q.2+(l.map (·.2)).sum
     lia
   exact this ps λ q hq=>hp q (.tail _ hq)
  have z1:1<=z:=z1
  obtain⟨s1,Aa,e1,D1,Mu,Jw,d1',Y1,ln1,g1⟩:=zV g RP same b0 b1 z1 (x0:=x0) (x2:=x2) (x4:=x4) (x5:=x5) (x6:=x6) (x7:=x7) (x8:=x8) (x15:=x15) (f:=f) (m:=m) D ic jc ij h1 h2 d1 d2 (by lia) hB0
  have li:i < s.length:=(Ë.mp h1).1
  obtain⟨s2,LV,LW,abg,e2,D2,aal,aam,Z',aaa,ln2,g2⟩:=rj g RP (x0:=x0) (x2:=x2) (x4:=x4) (x5:=x5) (x6:=x6) (x7:=x7) (x8:=x8) (f:=f) (m:=m) ic jc ij ps (L1++JX rows (b,z)) (L2++C2 rows (b,z)) (B+z) (À (.int b)) (À (.int z)) Aa s1 (λ q hq=>hp q (.tail _ hq)) D1 Mu Jw d1' Y1 (by lia) (by lia)
  have es:B+((((b,z) :: ps).map (·.2)).sum)=B+z+(ps.map (·.2)).sum:=by show B+(z+(ps.map (·.2)).sum)=_;lia
  refine⟨s2,LV,LW,abg,?_,D2,?_,?_,?_,?_,by lia,λ k hk ha hb=>by rw[g2 k (by lia) ha hb,g1 k hk ha hb]⟩
  ·rw[È,forL,É (bM s)]
   show(match sB (r9 x0 d x2 rows x4 x5 x6 x7 x8 f m i j (À (.int b)) (À (.int z)) x15) s with
    | .nx e2 s2=>forL (gT 2 (Ù (gN 13) (Ù (gN 14) ę))) sB [] (ps.map Il) e2 s2|.ct e2 s2=>forL (gT 2 (Ù (gN 13) (Ù (gN 14) ę))) sB [] (ps.map Il) e2 s2|.bk e2 s2=>.nx e2 s2|q=>q)=_
   rw[e1]
   exact e2
  ·rw[aal,ņ,æ]
  ·rw[aam,ņ,æ]
  ·rw[es,ņ,<-æ];exact Z'
  ·rw[es,ņ,<-æ];exact aaa
theorem Ck (h0:0 < N)(h1:N<=2 ^ 40):∀ (l:Á Rat) (a:Rat),eR N a->0<=a->(∀ q∈l,eR N q/\0<=q)->a+Č l<=1000->qj 60 a l
 | [],a,ha,a0,_,hs=>vF ha h0 h1 a0 (by have:a+Č []=a:=eQ a;rw[this]at hs;exact hs)
 | q :: l,a,ha,a0,h,hs=>by
  have hq:=h q (.head _)
  have hs:a+(q+Č l)<=1000:=hs
  have nn:0<=Č l:=by
   have:∀ l:Á Rat,(∀ q∈l,0<=q)->0<=Č l:=by
    intro l
    induction l with
    | nil=>intro _;show(0:Rat)<=0;grind
    | cons x l ih=>intro h;have h1:=h x (.head _);have h2:=ih λ y hy=>h y (.tail _ hy);show 0<=x+Č l;grind
   exact this l λ x hx=>(h x (.tail _ hx)).2
  have WR:=hq.2
  exact⟨vF ha h0 h1 a0 (by grind),vF hq.1 h0 h1 hq.2 (by grind),Ck h0 h1 l (a+q) (ha.add h0 hq.1) (by grind) (λ x hx=>h x (.tail _ hx)) (by grind)⟩
theorem GU (h:Ds rows L B)(hN:0 < nN rows):(∀ q∈(ï [] L).map (·.2),eR (nN rows) q/\0<=q)/\Č ((ï [] L).map (·.2))=(B:Rat):=by
 refine⟨λ q hq=>?_,?_⟩
 ·obtain⟨p,hp,rfl⟩:=â.mp hq
  have v:=z9 (bV L [] Š) hp
  have t:=fF p.1 L []
  rw[v]at t
  have t:p.2=0+mi L p.1:=t
  rw[ah]at t
  rw[t]
  exact⟨zY hN _ h.i,(nI _ h.z).1⟩
 ·rw[wy L [] Š,<-h.s]
  show(0:Rat)+_=_
  rw[ah]
theorem LF (RP:Rp rows)(h:Ds rows L B)(hB:B<=100)(e:m env s=.ok (.ref j) s) (hj:s[j]? = À (.dK ((ï [] L).map kR))):pD (Ø 1 ao (Ã (Ę (vt m)) Ð)) env s=.ok (fq (B:Rat)) s:=by
 obtain⟨n0,n1⟩:=vY RP
 obtain⟨v1,v2⟩:=GU h n0
 have ev:vt m env s=.ok (((ï [] L).map (·.2)).map fq) s:=by
  unfold vt
  rw[e,ð]
  show(need (mx s j) λ kvs=>R.ok (kvs.map (·.2)) s)=_
  rw[show mx s j=À ((ï [] L).map kR) from by unfold mx;rw[hj],ď,ó,ó]
  rfl
 refine vz (z:=[.lst (((ï [] L).map (·.2)).map fq)]) ?_ (iq _ _)
 have so:=Ck n0 n1 ((ï [] L).map (·.2)) 0 (eR.zero _) (by grind) v1 (by
  rw[ah,v2]
  have:(0:Rat)<=((1000 - B:Int):Rat):=DF (by lia)
  have e:((1000 - B:Int):Rat)+(B:Rat)=1000:=by rw[<-oM,show 1000 - B+B=1000 by lia];rfl
  grind)
 rw[<-v2]
 exact zb (pO ev) (Fz (n:=60) (by decide) (Ib.ref (ű _ _)) so)
theorem Fh (D:Á (Str × Rat)):(D.map kR).all DK=true:=by
 rw[nW]
 exact ü.mpr λ p _=>rfl
theorem Tu (h1:s[i]? = À (.dK ((ï [] L1).map kR))) (h2:s[j]? = À (.dK ((ï [] L2).map kR))) (h:RU ((ï [] L1).map kR) ((ï [] L2).map kR)=true):yy (.ref i) (.ref j) s=.ok (.bl false) s:=by
 show(need (mx s i) λ ks=>need (mx s j) λ qs=>if ks.all DK=true/\qs.all DK=true then R.ok (AV.bl (!RU ks qs)) s else .bad)=_
 rw[show mx s i=À ((ï [] L1).map kR) from by unfold mx;rw[h1],ď,show mx s j=À ((ï [] L2).map kR) from by unfold mx;rw[h2],ď,É ⟨Fh _,Fh _⟩,h]
 rfl
def say:Rw->Rw
 | .of _ q=>.of "say" q
 | .steps _ us z=>.steps "say" us z
 | .left _ q=>.left "say" q
 | .len _ k=>.len "say" k
theorem Us (h:fB w r):fB w (say r):=by cases r<;>exact h
theorem Lf:∀ rows:Á Rw,nL (rows.map say)=nL rows
 | []=>rfl
 | r :: rows=>by have ih:=Lf rows;cases r<;>simp[say,nL,ih]
def Hl (p:Str × Rat):Str × Rat:=("say",p.2)
theorem oi (u:Int):∀ rows:Á Rw,ã u (rows.map say)=(ã u rows).map Hl
 | []=>rfl
 | r :: rows=>by have ih:=oi u rows;cases r<;>simp[say,ã,Hl,ih]
theorem i9:∀ (rows:Á Rw)(t:Rat),Ł t (rows.map say)=(Ł t rows).map Hl/\ŋ t (rows.map say)=ŋ t rows
 | [],t=>⟨rfl,rfl⟩
 | r :: rows,t=>by
  cases r with
  | left n q=>
   have ih:=i9 rows (t - t * q)
   simp only[È,say,Ł,ŋ,ih.1,ih.2,Hl]
   exact⟨trivial,trivial⟩
  | of n q=>exact i9 rows t
  | steps n us z=>exact i9 rows t
  | len n k=>exact i9 rows t
theorem qY:∀ rows:Á Rw,ĺ (rows.map say)=(ĺ rows).map λ p=>(("say":Str),p.2)
 | []=>rfl
 | r :: rows=>by have ih:=qY rows;cases r<;>simp[say,ĺ,ih]
theorem Ca (u:Int)(rows:Á Rw):Ť u (rows.map say)=Ť u rows:=by
 unfold Ť
 rw[oi,ó];rfl
theorem O' (rows:Á Rw):jo (rows.map say)=jo rows:=by
 unfold jo
 rw[qY,ó];rfl
theorem Ut (u:Int)(rows:Á Rw):wR u (rows.map say)=wR u rows:=by
 unfold wR
 rw[Ca,(i9 rows _).2]
 unfold jE
 rw[qY]
 cases ĺ rows<;>rfl
theorem O9 (u:Int)(rows:Á Rw):aA u (rows.map say)=(aA u rows).map Hl:=by
 unfold aA
 rw[oi,Ca,(i9 rows _).1,(i9 rows _).2,ä,ä]
 congr 1
 unfold f_
 rw[qY,O',ó,ó];rfl
theorem B' (g:Good rows):Good (rows.map say):=by
 refine⟨λ r hr=>?_,λ u=>?_,by rw[Æ];exact g.l,by rw[Lf];exact g.n⟩
 ·obtain⟨x,hx,rfl⟩:=â.mp hr
  obtain⟨w,hw⟩:=g.a x hx
  exact⟨w,Us hw⟩
 ·rw[oi,ó];exact g.s u
theorem Ga:∀ L:Á (Str × Rat),mi (L.map Hl) "say"=Č (L.map (·.2))
 | []=>rfl
 | p :: L=>by
  show(if ("say":Str)="say" then p.2 else 0)+mi (L.map Hl) "say"=p.2+Č (L.map (·.2))
  rw[É rfl,Ga L]
theorem O_ (h:L≠[]):mB (ï [] (L.map Hl))=[(("say":Str),Č (L.map (·.2)))]:=by
 have nd:=bV (L.map Hl) [] Š
 have kk:∀ k,k∈(ï [] (L.map Hl)).map (·.1) ↔ k=("say":Str):=λ k=>by
  rw[fi]
  constructor
  ·rintro(h|h)
   ·cases h
   ·rw[ó]at h
    obtain⟨p,_,rfl⟩:=â.mp h
    rfl
  ·rintro rfl
   right
   cases L with
   | nil=>exact absurd rfl h
   | cons p L=>exact .head _
 have pm:((ï [] (L.map Hl)).map (·.1)).Perm [("say":Str)]:=(kh nd (by simp)).mpr λ k=>by rw[kk];simp
 unfold mB
 rw[show kQ ((ï [] (L.map Hl)).map (·.1))=[("say":Str)] from List.perm_singleton.mp ((bY _).trans pm)]
 show[(("say":Str),(ř (ï [] (L.map Hl)) "say").getD 0)]=_
 rw[fF,Ga]
 show[(("say":Str),0+_)]=_
 rw[ah]
theorem HH (g:Good rows)(u:Int):ù u (rows.map say)=if wR u rows=1 then [] else [(("say":Str),1 - wR u rows)]:=by
 have f:=g.Jk u
 have hs:Č ((aA u rows).map (·.2))=1 - wR u rows:=by
  have:=F8 (u:=u) (rows:=rows) f.c.d.g
  unfold wR
  grind
 unfold ù
 rw[O9]
 by_cases hL:aA u rows=[]
 ·rw[hL]at hs ⊢
  have:wR u rows=1:=by have hs:(0:Rat)=1 - wR u rows:=hs;grind
  rw[É this];rfl
 ·rw[O_ hL,hs]
  by_cases hw:wR u rows=1
  ·rw[É hw,cG (by simp;grind)];rfl
  ·rw[Ó hw,mG (by simp;grind)];rfl
theorem LC:∀ {rows:Á Rw},(∀ r∈rows,∃ w,fB w r)->(mE rows).length<=3 * rows.length
 | [],_=>by simp[mE]
 | r :: rows,h=>by
  have ih:=LC (rows:=rows) λ x hx=>h x (.tail _ hx)
  obtain⟨w,hw⟩:=h r (.head _)
  cases r with
  | steps n us z=>
   have:=hw.2.2.1
   show(us.map (·.1)++mE rows).length<=_
   rw[õ,Æ,å]
   lia
  | of n q=>show(mE rows).length<=_;rw[å];lia
  | left n q=>show(mE rows).length<=_;rw[å];lia
  | len n q=>show(mE rows).length<=_;rw[å];lia
theorem BB (b:Nat):∀ l:Á (Int × Int),ķ b (l.map Il)=true
 | []=>by simp[ķ]
 | p :: l=>by simp only[È,ķ,BB b l];simp[Il,AV.low,ķ]
theorem Uz (g:Good rows)(cl:Cl s)(h1:m1 env s=.ok (.tup (rows.map rv)) s) (h2:m2 env s=.ok (.int f) s) (h3:m3 env s=.ok (.int m) s) :
  xw (aH (Ø 3 Ŏ (Ã m1 (Ã m2 (Ã m3 Ð))))) env s=.ok ((pT f (dn rows f m) (f+m)).map Il,[]) s:=by
 have hu:(mE rows).length < 64:=by have:=LC g.a;have:=g.l;lia
 have ec:Ø 3 Ŏ (Ã m1 (Ã m2 (Ã m3 Ð))) env s=.ok (.ref (s.length+6)) (s++VL rows f m):=by
  unfold Ø Ã Ð
  rw[h1,ð,h2,ð,h3]
  exact YA hu f m s
 have l1:û (s++VL rows f m) (s.length+6)=À ((pT f (dn rows f m) (f+m)).map Il):=by rw[<-B2];exact vU s (VL rows f m) 6
 have el:aH (Ø 3 Ŏ (Ã m1 (Ã m2 (Ã m3 Ð)))) env s=.ok ((pT f (dn rows f m) (f+m)).map Il) s:=by
  unfold aH
  rw[ec,ð]
  show(need (û (s++VL rows f m) (s.length+6)) _)=_
  rw[l1,ď,É]
  ·rw[Ő];rfl
  ·refine⟨by lia,?_,BB _ _⟩
   rw[Ő rfl];exact cl
 unfold xw
 rw[el];rfl
theorem UA (f0:0<=f)(f1:f<=500000)(m0:1<=m)(m1:m<=24):(∀ p∈pT f (dn rows f m) (f+m),M3 rows p)/\((pT f (dn rows f m) (f+m)).map (·.2)).sum=m:=by
 obtain⟨s1,s2⟩:=zS (dn rows f m) f (f+m) (sW rows f m) (λ x hx=>((vf rows f m x).mp hx).2) (by lia)
 refine⟨λ p hp=>?_,by rw[s2];lia⟩
 obtain⟨b1,b2,b3,_⟩:=s1 p hp
 exact⟨by lia,by lia,b2,λ v h1 h2=>zU m0 hp h1 h2⟩
def ab5:Rw->AV
 | .steps _ us _=>.int ((us.map (·.1)).headD 0)
 | _=>.ĥ
def SG (r:Rw):Bool:=match r with
 | .steps _ _ _=>true
 | _=>false
theorem LD (h:Rp rows)(e:m env s=.ok (.tup (rows.map rv)) s) (e2:lS l env=[none]) :
  ∃ us:Á Int,Œ l (Ĳ m) (gN 0) (cB (Ö cz (Ö Ħ (mv 0) (mc (.int 0))) (mc (.str "steps")))) (Ö Ħ (Ö Ħ (Ö Ħ (mv 0) (mc (.int 2))) (mc (.int 0))) (mc (.int 0))) env s=.ok (us.map AV.int) s/\us.length<=8/\∀ u∈us,1<=u/\u<=400000:=by
 let g:AV->AV:=λ v=>match v with
  | .tup [_,_,.tup (.tup (u :: _) :: _)]=>u
  | _=>.ĥ
 let us:Á Int:=(rows.filter SG).map λ r=>match r with
  | .steps _ us _=>(us.map (·.1)).headD 0
  | _=>0
 refine⟨us,?_,?_,λ u hu=>?_⟩
 ·unfold Œ Ĳ
  rw[e,ð]
  show(R.ok (rows.map rv,[]) s).bind _=_
  rw[ð,É (p7 (by rw[Æ];have:=h.l;lia)),e2]
  refine(uD (λ v=>oD "steps" (Cu v)) g (bM s) (rows.map rv) [] none (λ v hv=>?_) λ v hv hf=>?_).trans ?_
  ·obtain⟨r,_,rfl⟩:=â.mp hv
   refine r6 (af (af rfl rfl (B8 r s)) rfl ?_)
   rw[JV]
   cases r<;>rfl
  ·obtain⟨r,hr,rfl⟩:=â.mp hv
   cases r with
   | steps n vs z=>
    cases vs with
    | nil=>obtain⟨w,_,h2⟩:=h.r _ hr;exact absurd h2.2.1 (by simp)
    | cons a vs=>
     have i0:Ħ (.tup (oI a :: (vs.map oI++[.tup [.ĥ,fq z]]))) (.int 0) s=.ok (oI a) s:=by
      show(need (oB (oI a :: (vs.map oI++[.tup [.ĥ,fq z]])) 0) λ v=>R.ok v s)=_
      rw[Lq.2.2.2.2.1];rfl
     have i1:Ö Ħ (mv 0) (mc (.int 2)) [À (rv (.steps n (a :: vs) z))] s=.ok (.tup (oI a :: (vs.map oI++[.tup [.ĥ,fq z]]))) s:=rfl
     exact af (v:=oI a) (af i1 rfl i0) rfl rfl
   | of n q=>exact absurd hf (by show ¬ (decide (("of":Str)="steps")=true);decide +kernel)
   | left n q=>exact absurd hf (by show ¬ (decide (("left":Str)="steps")=true);decide +kernel)
   | len n q=>exact absurd hf (by show ¬ (decide (("length":Str)="steps")=true);decide +kernel)
  ·rw[ľ]
   congr 1
   rw[xF,ó,ó]
   have ef:((λ v=>oD "steps" (Cu v)) ∘ rv)=SG:=by
    funext r
    cases r with
    | of n q=>show decide (("of":Str)="steps")=false;decide +kernel
    | steps n vs z=>show decide (("steps":Str)="steps")=true;simp
    | left n q=>show decide (("left":Str)="steps")=false;decide +kernel
    | len n q=>show decide (("length":Str)="steps")=false;decide +kernel
   rw[ef]
   refine Ļ λ r Nz=>?_
   obtain⟨WT,WU⟩:=aZ.mp Nz
   cases r with
   | steps n vs z=>
    cases vs with
    | nil=>obtain⟨w,_,h2⟩:=h.r _ WT;exact absurd h2.2.1 (by simp)
    | cons a vs=>rfl
   | _=>cases WU
 ·show((rows.filter SG).map _).length<=8
  rw[Æ];exact ā (bE _ _) h.l
 ·obtain⟨r,Nz,rfl⟩:=â.mp hu
  obtain⟨WT,WU⟩:=aZ.mp Nz
  obtain⟨w,_,h2⟩:=h.r _ WT
  cases r with
  | steps n vs z=>
   cases vs with
   | nil=>exact absurd h2.2.1 (by simp)
   | cons a vs=>exact h2.2.2.2 a (.head _)
  | _=>cases WU
theorem zP (h:c env s=.ok false s1)(k:N env s1):(eL c a Ľ env s).wp N T:=by
 unfold eL;rw[h];exact k
abbrev t5:Ms:=(Ī 5 (Ø 2 aK (Ã (mv 1) (Ã (mv 3) Ð))))
abbrev c5:Eb:=(rG (dO (cT (pD (Ø 1 fe (Ã (mv 5) Ð))))) (rG (cT (Ø 1 dt (Ã (mv 5) Ð))) (zl (cB (Ö aS (Ę (aH (Ø 2 Đ (Ã (mv 5) (Ã (mv 9) Ð))))) (Ę (aH (Ø 2 Đ (Ã (mv 3) (Ã (mv 9) Ð))))))))))
abbrev m6:Ev:=(mI iu (Œ [("_law_row_here",none)] (Ĳ (mv 3)) (gN 0) de (Ō (Ã (Ö Ħ (mv 0) (mc (.int 0))) (Ã (mc (.str "say")) (Ã (Ö Ħ (mv 0) (mc (.int 2))) Ð))))))
theorem Ee (r:Rw)(s:S):Ō (Ã (Ö Ħ (mv 0) (mc (.int 0))) (Ã (mc (.str "say")) (Ã (Ö Ħ (mv 0) (mc (.int 2))) Ð))) [À (rv r)] s=.ok (rv (say r)) s:=by
 cases r<;>exact pV (vs:=[_,_,_]) rfl (by simp)
theorem Wk (g:Good rows)(gq:Good qs)(RQ:Rp qs)(h:rY rows room)(h0:0<=room)(pm:qs.Perm rows)(pp:∀ u,ù u qs=ù u rows)(cl:Cl s) :
  c5 (r9 x0 d x2 rows x4 (À (.tup (qs.map rv))) x6 x7 x8 f m i j x13 x14 x15) s=.ok false s:=by
 let E:En:=r9 x0 d x2 rows x4 (À (.tup (qs.map rv))) x6 x7 x8 f m i j x13 x14 x15
 have a1:dO (cT (pD (Ø 1 fe (Ã (mv 5) Ð)))) E s=.ok false s:=bA (x:=true) (jl (vv (qp (v:=.tup (qs.map rv)) rfl (RQ.rows s))))
 have a2:cT (Ø 1 dt (Ã (mv 5) Ð)) E s=.ok false s:=jl (qp (v:=.tup (qs.map rv)) rfl (UJ h h0 g.l pm s))
 have Mq:Cl (s++[.lst ((ù f qs).map ŷ)]):=cl.add (by simp only[Ĩ,jq,dm,AO.low];exact lM _ _)
 have p1:=gA gq (u:=f) (m:=mv 5) (m2:=mv 9) (env:=E) cl rfl rfl
 have p2:=gA g (u:=f) (m:=mv 3) (m2:=mv 9) (env:=E) Mq rfl rfl
 have a3:zl (cB (Ö aS (Ę (aH (Ø 2 Đ (Ã (mv 5) (Ã (mv 9) Ð))))) (Ę (aH (Ø 2 Đ (Ã (mv 3) (Ã (mv 9) Ð))))))) E s=.ok false s:=by
  refine QK p1 p2 ?_ ?_
  ·rw[pp]
   exact FD (ps:=ù f rows) (jF (ű _ _)) (ű _ _)
  ·rw[æ,Ő];rfl
 exact wg a1 (wg a2 a3)
theorem aa2 (hl:rows.length<=8) :
  m6 (r9 x0 d x2 rows x4 x5 x6 x7 x8 f m i j x13 x14 x15) s=.ok (.tup ((rows.map say).map rv)) s:=by
 unfold m6 mI Œ
 rw[show Ĳ (mv 3) (r9 x0 d x2 rows x4 x5 x6 x7 x8 f m i j x13 x14 x15) s=.ok (rows.map rv,[]) s from rfl,ð,É (p7 (by rw[Æ];lia))]
 let g:AV->AV:=λ v=>match Ō (Ã (Ö Ħ (mv 0) (mc (.int 0))) (Ã (mc (.str "say")) (Ã (Ö Ħ (mv 0) (mc (.int 2))) Ð))) [À v] s with|.ok w _=>w|_=>.ĥ
 rw[show lS [("_law_row_here",none)] (r9 x0 d x2 rows x4 x5 x6 x7 x8 f m i j x13 x14 x15)=[none] from rfl,comp_map g (bM s) (rows.map rv) [] none λ v hv=>?_]
 ·show R.ok (AV.tup ([]++(rows.map rv).map g)) s=_
  rw[ľ,ó,ó]
  congr 2
  refine Ļ λ r _=>?_
  show(match Ō (Ã (Ö Ħ (mv 0) (mc (.int 0))) (Ã (mc (.str "say")) (Ã (Ö Ħ (mv 0) (mc (.int 2))) Ð))) [À (rv r)] s with|.ok w _=>w|_=>.ĥ)=rv (say r)
  rw[Ee]
 ·obtain⟨r,_,rfl⟩:=â.mp hv
  rw[Ee]
  show _=R.ok (match Ō (Ã (Ö Ħ (mv 0) (mc (.int 0))) (Ã (mc (.str "say")) (Ã (Ö Ħ (mv 0) (mc (.int 2))) Ð))) [À (rv r)] s with|.ok w _=>w|_=>.ĥ) s
  rw[Ee]
abbrev c13:Eb:=(dO (cT (Ø 2 (ć 9) (Ã (mv 8) (Ã (Ø 2 Ĕ (Ã (mv 3) (Ã (mv 9) Ð))) Ð)))))
abbrev q14:Ev:=(pD (Ø 1 ao (Ã (Ę (aL (Ã (Ō (Ã (mc (.int 1)) (Ã (mc (.int 1)) Ð))) (Ã (Ō (Ã (gR eA (Ö Ħ (mv 8) (mc (.int 0)))) (Ã (Ö Ħ (mv 8) (mc (.int 1))) Ð))) Ð)))) Ð)))
abbrev l14:Ev:=(Ö wc (Ę (aL (Ã (Ō (Ã (mc (.str "say")) (Ã q14 Ð))) Ð))) (kl oV (Ã (Ö aS (mv 8) (Ō (Ã (mc (.int 1)) (Ã (mc (.int 1)) Ð)))) Ð)))
abbrev c14:Eb:=(dO (cT (pD (Ø 2 (ć 9) (Ã (mv 7) (Ã l14 Ð))))))
theorem RF (g:Good rows)(cl:Cl s) :
  c13 (r9 x0 d x2 rows x4 x5 x6 x7 (À (fq (wR f rows))) f m i j x13 x14 x15) s=.ok false (s++Ŗ f rows):=by
 let E:En:=r9 x0 d x2 rows x4 x5 x6 x7 (À (fq (wR f rows))) f m i j x13 x14 x15
 have w:=gG g (u:=f) (m:=mv 3) (m2:=mv 9) (env:=E) cl rfl rfl
 have e:Ø 2 (ć 9) (Ã (mv 8) (Ã (Ø 2 Ĕ (Ã (mv 3) (Ã (mv 9) Ð))) Ð)) E s=.ok (.bl true) (s++Ŗ f rows):=by
  have:∀ (F:Á AV->S->R AV) (a:Ev),a E s=.ok (fq (wR f rows)) (s++Ŗ f rows)->F [fq (wR f rows),fq (wR f rows)] (s++Ŗ f rows)=.ok (.bl true) (s++Ŗ f rows)->Ø 2 F (Ã (mv 8) (Ã a Ð)) E s=.ok (.bl true) (s++Ŗ f rows):=λ F a ha hF=>by
   unfold Ø Ã Ð
   show((((a E s).bind λ v s1=>(R.ok [] s1).bind λ vs s2=>R.ok (v :: vs) s2).bind λ vs s2=>R.ok (fq (wR f rows) :: vs) s2).bind λ vs s1=>if vs.length=2 then F vs s1 else .bad)=_
   rw[ha]
   exact hF
  exact this _ _ w (FQ 7 _ _)
 show dO (cT _) E s=_
 unfold dO cT
 rw[e];rfl
theorem RG (g:Good rows)(hz:Sz 60 (wR f rows)) (hz2:Sz 60 (1+-(wR f rows))) (l7:û s i7=À ((ù f (rows.map say)).map ŷ)) :
  c14 (r9 x0 d x2 rows x4 x5 x6 (À (.ref i7)) (À (fq (wR f rows))) f m i j x13 x14 x15) s=.ok false s:=by
 let E:En:=r9 x0 d x2 rows x4 x5 x6 (À (.ref i7)) (À (fq (wR f rows))) f m i j x13 x14 x15
 let w:=wR f rows
 have eq:q14 E s=.ok (fq (1+-w)) s:=by
  have el:aL (Ã (Ō (Ã (mc (.int 1)) (Ã (mc (.int 1)) Ð))) (Ã (Ō (Ã (gR eA (Ö Ħ (mv 8) (mc (.int 0)))) (Ã (Ö Ħ (mv 8) (mc (.int 1))) Ð))) Ð)) E s=.ok [fq 1,fq (-w)] s:=by
   have:∀ (a b:Ev),a E s=.ok (fq 1) s->b E s=.ok (fq (-w)) s->aL (Ã a (Ã b Ð)) E s=.ok [fq 1,fq (-w)] s:=λ a b ha hb=>by
    unfold aL Ã Ð
    rw[ha,ð,hb]
    simp only[ð]
    rw[É (p7 (by simp))]
   refine this _ _ (pV (vs:=[.int 1,.int 1]) rfl (by simp)) ?_
   rw[<-R5]
   exact pV (vs:=[.int (-w.num),.int w.den]) rfl (by simp)
  refine vz (z:=[.lst [fq 1,fq (-w)]]) ?_ (iq _ _)
  exact zb (pO el) (BC (m:=60) (by decide) (ű _ _) (by decide) (sz1 (by decide)) hz.neg hz2)
 have n1:Ę (aL (Ã (Ō (Ã (mc (.str "say")) (Ã q14 Ð))) Ð)) E s=.ok (.ref s.length) (s++[.lst [ŷ ("say",1+-w)]]):=Kh (Lv rfl eq)
 let s1:S:=s++[.lst [ŷ ("say",1+-w)]]
 have eN:aS (fq w) (.tup [.int 1,.int 1]) s1=.ok (.bl (!decide (w=1))) s1:=by
  have e:=Dv s1 w.num w.den 1 1
  unfold cz at e
  unfold aS
  have hw:(decide (w.num=1) && decide ((w.den:Int)=1))=decide (w=1):=by
   rw[aY,Ÿ]
   constructor
   ·rintro⟨a,b⟩
    have a:=Ė a
    have b:=Ė b
    apply ø
    rw[<-ţ w,a,b];rfl
   ·intro h
    have h:=Ė h
    rw[h];exact⟨rfl,rfl⟩
  rw[hw]at e
  cases q:oC s1 (.tup [.int w.num,.int w.den]) (.tup [.int 1,.int 1]) with
  | none=>rw[q]at e;cases e
  | some t=>
   rw[q]at e
   have e:R.ok (AV.bl t) s1=R.ok (AV.bl (decide (w=1))) s1:=e
   cases e
   rw[show oC s1 (fq w) (.tup [.int 1,.int 1])=À (decide (w=1)) from q];rfl
 have n2:kl oV (Ã (Ö aS (mv 8) (Ō (Ã (mc (.int 1)) (Ã (mc (.int 1)) Ð)))) Ð) E s1=.ok (.int (if (!decide (w=1))=true then 1 else 0)) s1:=wb (af (v:=fq w) (v2:=.tup [.int 1,.int 1]) rfl (pV (vs:=[.int 1,.int 1]) rfl (by simp)) eN) rfl
 have l1:û s1 s.length=À [ŷ ("say",1+-w)]:=ű _ _
 have sp:ù f (rows.map say)=(Ü (if (!decide (w=1))=true then (1:Int) else 0).toNat [(("say":Str),1+-w)]).flatten:=by
  rw[HH g]
  by_cases hw:w=1
  ·rw[É (show wR f rows=1 from hw),ø hw];rfl
  ·rw[Ó (show ¬ wR f rows=1 from hw),ĳ hw,MQ];rfl
 have e14:l14 E s=.ok (.ref s1.length) (s++([.lst [ŷ ("say",1+-w)]]++[.lst ((ù f (rows.map say)).map ŷ)])):=by
  have:∀ (a b:Ev),a E s=.ok (.ref s.length) s1->b E s1=.ok (.int (if (!decide (w=1))=true then 1 else 0)) s1->Ö wc a b E s=.ok (.ref s1.length) (s++([.lst [ŷ ("say",1+-w)]]++[.lst ((ù f (rows.map say)).map ŷ)])):=λ a b ha hb=>by
   unfold Ö
   rw[ha,ð,hb,ð]
   show(need (û s1 s.length) λ xs=>if (-1000<=(if (!decide (w=1))=true then (1:Int) else 0)/\(if (!decide (w=1))=true then (1:Int) else 0)<=1000)/\xs.length<=1000 then R.ok (AV.ref s1.length) (s1++[.lst (Ü (if (!decide (w=1))=true then (1:Int) else 0).toNat xs).flatten]) else .bad)=_
   rw[l1,ď,É ⟨by split<;>lia,by simp⟩]
   congr 1
   rw[<-æ,sp]
   congr 3
   split<;>rfl
  exact this _ _ n1 n2
 have pl:(ù f (rows.map say)).length<=999:=ā (tw (B' g) f) (by decide)
 have ec:pD (Ø 2 (ć 9) (Ã (mv 7) (Ã l14 Ð))) E s=.ok (.bl true) s:=by
  refine vz (z:=[.lst [ŷ ("say",1+-w)]]++[.lst ((ù f (rows.map say)).map ŷ)]) ?_ rfl
  have:∀ (F:Á AV->S->R AV) (a:Ev) (v:AV) (st:S),a E s=.ok v st->F [.ref i7,v] st=.ok (.bl true) st->Ø 2 F (Ã (mv 7) (Ã a Ð)) E s=.ok (.bl true) st:=λ F a v st ha hF=>by
   unfold Ø Ã Ð
   show((((a E s).bind λ v s1=>(R.ok [] s1).bind λ vs s2=>R.ok (v :: vs) s2).bind λ vs s2=>R.ok (AV.ref i7 :: vs) s2).bind λ vs s1=>if vs.length=2 then F vs s1 else .bad)=_
   rw[ha]
   exact hF
  refine this _ _ _ _ e14 (Le pl (jF l7) ?_)
  rw[<-æ];exact ű _ _
 exact bA (x:=true) (jl ec)
theorem Xk (i j:Int)(s:S)(Q:AV->S->Prop):(yx [.int i,.int j] s).wp Q=Q (.int (if j > i then j else i)) s:=rfl
abbrev Vw (x0:AV)(d:Nat)(x2:Í AV)(rows:Á Rw)(i4:Nat)(x5 x6 x7 x8:Í AV)(f m:Int)(LS LU x13 x14 x15:Í AV):En:=[À x0,À (.ref d),x2,À (.tup (rows.map rv)),À (.ref i4),x5,x6,x7,x8,À (.int f),À (.int m),LS,LU,x13,x14,x15]
theorem Jl {us:Á Int}(D:Dr c d n s)(hn:n<=100000)(l:û s i4=À (us.map AV.int)) (ic:i4≠c/\i4≠d)(ul:us.length<=8)(ub:∀ u∈us,1<=u/\u<=400000)(f0:0<=f)(f1:f<=400000)(T:AV->S->Prop) :
  ((eL (IP (zl (cB (Ö aS (mv 4) (Ę (aL Ð))))) (cB (Ö cz (Ø 2 ë (Ã (mv 1) (Ã (mc (.int 2)) Ð))) (mc (.int 0))))) (Ī 9 (kl yx (Ã (mc (.int 0)) (Ã (Ö tu (Ö Ħ (mv 4) (Ø 2 ë (Ã (mv 1) (Ã (kl cZ (Ã (mv 4) Ð)) Ð)))) (Ø 2 ë (Ã (mv 1) (Ã (mc (.int 12)) Ð)))) Ð)))) Ľ) (Vw x0 d x2 rows i4 x5 x6 x7 x8 f m LS LU x13 x14 x15) s).wp (λ env s'=>∃ f',env=Vw x0 d x2 rows i4 x5 x6 x7 x8 f' m LS LU x13 x14 x15/\0<=f'/\f'<=400000/\Dr c d (n+3) s') T:=by
 have flat:(us.map AV.int).all eh=true:=by rw[nW];exact ü.mpr λ _ _=>rfl
 rw[WS.2.2.2.1,WE.2.2.2.2.2.2.2.2.2.2.2.2.1,bj (Kg (m:=mv 4) (env:=Vw x0 d x2 rows i4 x5 x6 x7 x8 f m LS LU x13 x14 x15) rfl l flat)]
 cases us with
 | nil=>exact⟨f,rfl,f0,f1,D.mono (by lia)⟩
 | cons u0 us=>
  show(if true=true then _ else _)
  rw[É rfl]
  walk_at "w"
  refine(take1 D).mono ?_
  rintro _ s1 ⟨r,rfl,r0,r1,D1,K1⟩
  have l1:=K1.gk.lst (n:=0) ic.1 ic.2 l
  simp only[↓WS,↓WE,↓WV,Lq,î,UU,Ì,↓Û,↓bj (sC l1),Æ]
  split
  ·refine(F_ D1 (by lia) (by simp;try lia) (R0 (by simp;try lia) (by simp at ul ⊢;lia))).mono ?_
   rintro _ s2 ⟨k,rfl,k0,k1,D2,K2⟩
   have l2:=K2.gk.lst (n:=0) ic.1 ic.2 l1
   obtain⟨v,hv,ev⟩:=vK l2 k0 (by first|exact k1|(simp at k1 ⊢;lia))
   obtain⟨u,hu,rfl⟩:=â.mp hv
   obtain⟨u1,u2⟩:=ub u hu
   first|rw[bj ev]|(show(Ħ (.ref i4) (.int k) s2).wp _;rw[bj ev])
   refine(take1 D2).mono ?_
   rintro _ s3 ⟨t,rfl,t0,t1,D3,K3⟩
   simp only[↓WS,↓WE,↓WV,Lq,î,UU,Ì,↓Û,↓Xk]
   refine⟨_,rfl,?_,?_,D3.mono (by lia)⟩
   ·split<;>lia
   ·split<;>lia
  ·exact⟨f,rfl,f0,f1,D1.mono (by lia)⟩
abbrev c7:Eb:=(rG (cB (Ö yy (mv 11) (mv 12))) (cB (Ö aS (pD (Ø 1 ao (Ã (Ę (vt (mv 12))) Ð))) (Ō (Ã (mv 10) (Ã (mc (.int 1)) Ð))))))
abbrev UI:Ms:=
 (ì (pS 11 12 (Ã S0 (Ã S0 Ð)))
 (ì (gD (xw (aH (Ø 3 Ŏ (Ã (mv 3) (Ã (mv 9) (Ã (mv 10) Ð)))))) (gT 2 (Ù (gN 13) (Ù (gN 14) ę))) sB)
 (ì (eL c7 (ě (mc (.bl false))) Ľ)
 (ì t5
 (ì (eL c5 (ě (mc (.bl false))) Ľ)
 (ì (Ī 6 m6)
 (ì (Ī 7 (Ę (aH (Ø 2 Đ (Ã (mv 6) (Ã (mv 9) Ð))))))
 (ì (Ī 8 (Ø 2 Ĕ (Ã (mv 6) (Ã (mv 9) Ð))))
 (ì (eL c13 (ě (mc (.bl false))) Ľ)
 (eL c14 (ě (mc (.bl false))) Ľ))))))))))
theorem PB (D:Dr c d n s)(hn:n<=100000)(g:Good rows)(R11':rY rows room)(r0:0<=room)(f0:0<=f)(f1:f<=400000)(m0:1<=m)(m1:m<=24)(T:AV->S->Prop) :
  (UI (Vw x0 d x2 rows i4 x5 x6 x7 x8 f m LS LU x13 x14 x15) s).wp (λ env s'=>∃ y5 y6 y7 y8 y11 y12 LV LW Aa,env=Vw x0 d x2 rows i4 y5 y6 y7 y8 f m y11 y12 LV LW Aa/\Dr c d (n+4) s') T:=by
 have RP:=R11'.rp g.l g.n
 have lc:=D.BD
 have ld:=D.BE
 obtain⟨sa,ss⟩:=UA (rows:=rows) f0 (by lia) m0 m1
 refine Ž λ K hK=>?_
 walk_at "w"
 rw[hK]
 clear hK K
 have D1:Dr c d n (s++[.dK []]++[.dK []]):=(D.app (e:=[.dK []]) (D.cl.add (by simp[AO.low,ķ]))).app (e:=[.dK []]) ((D.cl.add (e:=[.dK []]) (by simp[AO.low,ķ])).add (by simp[AO.low,ķ]))
 have h1:(s++[AO.dK []]++[AO.dK []])[s.length]? = À (.dK ((ï [] []).map kR)):=by rw[æ,Ā (Î _)];simp[ï]
 have h2:(s++[AO.dK []]++[AO.dK []])[s.length+1]? = À (.dK ((ï [] []).map kR)):=by rw[æ,Ā (by lia)];simp[ï]
 have el:(s++[AO.dK []]).length=s.length+1:=by simp
 rw[el]
 revert D1 h1 h2
 generalize s++[AO.dK []]++[AO.dK []]=s1
 intro D1 h1 h2
 show(ì _ _ (r9 x0 d x2 rows (À (.ref i4)) x5 x6 x7 x8 f m s.length (s.length+1) x13 x14 x15) s1).wp _ _
 refine Ž λ K hK=>?_
 obtain⟨s2,LV,LW,Aa,e2,D2,Mu,Jw,d1,d2,_,_⟩:=rj g RP (x0:=x0) (d:=d) (x2:=x2) (x4:=À (.ref i4)) (x5:=x5) (x6:=x6) (x7:=x7) (x8:=x8) (f:=f) (m:=m) (i:=s.length) (j:=s.length+1) ⟨by lia,by lia⟩ ⟨by lia,by lia⟩ (by lia) (pT f (dn rows f m) (f+m)) [] [] 0 x13 x14 x15 s1 sa D1 h1 h2 (Jd rows) (Jd rows) (Io _) (by rw[ss];lia)
 have es:=Uz g (f:=f) (m:=m) (m1:=mv 3) (m2:=mv 9) (m3:=mv 10) (env:=r9 x0 d x2 rows (À (.ref i4)) x5 x6 x7 x8 f m s.length (s.length+1) x13 x14 x15) D1.cl rfl rfl rfl
 rw[WS.2.2.2.2.2.2.2.2.1,bj es]
 show(forL (gT 2 (Ù (gN 13) (Ù (gN 14) ę))) sB [] _ _ s1).wp _ _
 rw[LR e2,hK]
 clear hK K e2 es
 rw[ľ]at Mu Jw d1 d2
 rw[ss,Int.zero_add]at d1 d2
 have eb:=M7 rows (ps:=pT f (dn rows f m) (f+m)) λ p hp=>(sa p hp).2.2.1
 have c7':c7 (r9 x0 d x2 rows (À (.ref i4)) x5 x6 x7 x8 f m s.length (s.length+1) LV LW Aa) s2=.ok false s2:=by
  refine wg (r6 (af (v:=.ref s.length) (v2:=.ref (s.length+1)) rfl rfl (Tu Mu Jw eb))) ?_
  refine r6 (af (LF RP d2 (by lia) (m:=mv 12) rfl Jw) (pV (vs:=[.int m,.int 1]) rfl (by simp)) ?_)
  have e:=Dv s2 m 1 m 1
  unfold cz at e
  unfold aS
  have:fq (m:Rat)=.tup [.int m,.int 1]:=by unfold fq;rw[UZ,UY];rfl
  rw[this]
  cases q:oC s2 (.tup [.int m,.int 1]) (.tup [.int m,.int 1]) with
  | none=>rw[q]at e;cases e
  | some t=>
   rw[q]at e
   have e:R.ok (AV.bl t) s2=_:=e
   simp at e
   subst e
   rfl
 refine Ž λ K hK=>?_
 refine zP c7' ?_
 rw[hK]
 clear hK K
 refine Ž λ K hK=>?_
 rw[WS.2.1]
 walk_at "w"
 refine(A3 D2 (by lia) g.l).mono ?_
 rintro _ s3 ⟨ks,pm,rfl,D3,G3⟩
 rw[hK]
 clear hK K
 have bp:=za (rows:=rows) pm
 refine Ž λ K hK=>?_
 refine zP (Wk g (g.perm pm) (RP.perm bp) R11' r0 bp (λ u=>DZ pm u) D3.cl (x0:=x0) (d:=d) (i:=s.length) (j:=s.length+1) (x2:=x2) (x4:=À (.ref i4)) (x6:=x6) (x7:=x7) (x8:=x8) (x13:=LV) (x14:=LW) (x15:=Aa) (f:=f) (m:=m)) ?_
 rw[hK]
 clear hK K
 refine Ž λ K hK=>?_
 rw[WS.2.1,bj (aa2 g.l),hK]
 clear hK K
 have gs:=B' g
 refine Ž λ K hK=>?_
 rw[WS.2.1,bj (gA gs (u:=f) (m:=mv 6) (m2:=mv 9) D3.cl rfl rfl),hK]
 clear hK K
 have D4:Dr c d (n+4) (s3++[.lst ((ù f (rows.map say)).map ŷ)]):=D3.app (D3.cl.add (by simp only[Ĩ,jq,dm,AO.low];exact lM _ _))
 have l7:=ű s3 ((ù f (rows.map say)).map ŷ)
 refine Ž λ K hK=>?_
 rw[WS.2.1,bj (gG gs (u:=f) (m:=mv 6) (m2:=mv 9) D4.cl rfl rfl),hK,Ut]
 clear hK K
 have D5:Dr c d (n+4) (s3++[.lst ((ù f (rows.map say)).map ŷ)]++Ŗ f (rows.map say)):=D4.app (n8 D4.cl)
 have l7':û (s3++[.lst ((ù f (rows.map say)).map ŷ)]++Ŗ f (rows.map say)) s3.length=À ((ù f (rows.map say)).map ŷ):=jF l7
 revert D5 l7'
 generalize s3++[.lst ((ù f (rows.map say)).map ŷ)]++Ŗ f (rows.map say)=s5
 intro D5 l7'
 refine Ž λ K hK=>?_
 refine zP (RF g D5.cl (x0:=x0) (d:=d) (i:=s.length) (j:=s.length+1) (x2:=x2) (x4:=À (.ref i4)) (x5:=À (.tup ((ks.flatMap (gC rows)).map rv))) (x6:=À (.tup ((rows.map say).map rv))) (x7:=À (.ref s3.length)) (x13:=LV) (x14:=LW) (x15:=Aa) (f:=f) (m:=m)) ?_
 rw[hK]
 clear hK K
 have D6:Dr c d (n+4) (s5++Ŗ f rows):=D5.app (n8 D5.cl)
 have U:=Gg g RP f
 obtain⟨n0,n1⟩:=vY RP
 have wz:Sz 60 (wR f rows):=Ly RP U ("",wR f rows) (ç _ (.head _))
 have w0:=QX g f
 have w1:wR f rows<=1:=by
  have:=U.s
  unfold mJ at this
  rw[ä,eD]at this
  have nn:=nI "" (L:=ù f rows) λ p hp=>U.z p (İ _ hp)
  have e:Č (([(("":Str),wR f rows)]:Á (Str × Rat)).map (·.2))=wR f rows:=by show wR f rows+0=_;grind
  rw[e]at this
  grind
 have wz2:Sz 60 (1+-(wR f rows)):=vF ((eR.one n0).add n0 ((U.i ("",wR f rows) (ç _ (.head _))).neg n0)) n0 n1 (by grind) (by grind)
 refine zP (RG g (x0:=x0) (d:=d) (i:=s.length) (j:=s.length+1) (x2:=x2) (x4:=À (.ref i4)) (x5:=À (.tup ((ks.flatMap (gC rows)).map rv))) (x6:=À (.tup ((rows.map say).map rv))) (x13:=LV) (x14:=LW) (x15:=Aa) (f:=f) (m:=m) wz wz2 (jF l7')) ?_
 exact⟨_,_,_,_,_,_,_,_,_,rfl,D6⟩
theorem SU (ns:Á Int):(lD [.sq (ns.map AV.int)] []).wp λ v s'=>v=.bl true:=by
 unfold lD y9
 refine Wt ?_
 refine Ž λ K hK=>?_
 try walk_at "w"
 refine(IL ns).mono ?_
 rintro _ s0 ⟨c,d,rfl,D0⟩
 rw[hK]
 clear hK K
 refine Ž λ K hK=>?_
 rw[WS.2.2.2.2.2.2.2.2.1,uP]
 refine⟨⟨by decide,by decide⟩,?_⟩
 refine lE (λ l env st=>∃ (x2 x3 x4 x5 x6 x7 x8 x9 Zm LS LU x13 x14 x15:Í AV) (z:Nat),l.length+z=3/\env=[À (.sq (ns.map AV.int)),À (.ref d),x2,x3,x4,x5,x6,x7,x8,x9,Zm,LS,LU,x13,x14,x15]/\Dr c d (1000 * z) st) ?_ ?_ ?_ _ _ _ ⟨none,none,none,none,none,none,none,none,none,none,none,none,none,none,0,by simp[jj],rfl,D0⟩
 ·exact λ _ _ st _=>bM st
 case refine_2=>
  rintro env st ⟨x2,x3,x4,x5,x6,x7,x8,x9,Zm,LS,LU,x13,x14,x15,z,_,rfl,_⟩
  rw[hK]
  rfl
 rintro v r env st ⟨x2,x3,x4,x5,x6,x7,x8,x9,Zm,LS,LU,x13,x14,x15,z,hz,rfl,D1⟩
 clear hK K
 have hz:r.length+1+z=3:=hz
 rw[WS.2.2.2.2.2.2.2.2.2.2.1]
 refine Ž λ K hK=>?_
 try walk_at "w"
 refine(HJ D1 (by lia)).mono ?_
 rintro _ s1 ⟨rows,rfl,g,⟨room,r0,R⟩,D2,K2⟩
 rw[hK]
 clear hK K
 have RP:=R.rp g.l g.n
 refine Ž λ K hK=>?_
 obtain⟨us,eu,ul,ub⟩:=LD RP (l:=[("_law_row_here",none)]) (m:=mv 3) (env:=[À (.sq (ns.map AV.int)),À (.ref d),À v,À (.tup (rows.map rv)),x4,x5,x6,x7,x8,x9,Zm,LS,LU,x13,x14,x15]) (s:=s1) rfl rfl
 rw[WS.2.1]
 refine Eq.mpr (bj (pO eu) _) ?_
 rw[hK]
 clear hK K
 have lc:=D2.BD
 have ld:=D2.BE
 have D3:=D2.app (e:=[.lst (us.map AV.int)]) (D2.cl.add (by simp[AO.low,low_ints]))
 have l3:=ű s1 (us.map AV.int)
 have i4c:s1.length≠c/\s1.length≠d:=⟨by lia,by lia⟩
 revert D3 l3 i4c
 generalize s1++[.lst (us.map AV.int)]=s2
 generalize s1.length=i4
 intro D3 l3 i4c
 refine Ž λ K hK=>?_
 walk_at "w"
 refine(take1 D3).mono ?_
 rintro _ s3 ⟨a,rfl,a0,a1,D4,K4⟩
 try walk_at "w"
 refine(take1 D4).mono ?_
 rintro _ s4 ⟨b,rfl,b0,b1,D5,K5⟩
 try walk_at "w"
 rw[hK]
 clear hK K
 have l5:=(K4.trans K5).gk.lst (n:=0) i4c.1 i4c.2 l3
 show(ì _ _ (Vw (.sq (ns.map AV.int)) d (À v) rows i4 x5 x6 x7 x8 a (1+b) LS LU x13 x14 x15) s4).wp _ _
 refine Ž λ K hK=>?_
 refine(Jl D5 (by lia) l5 i4c ul ub a0 (by lia) _).mono ?_ (λ _ _ h=>h)
 rintro env s5 ⟨f,rfl,f0,f1,D6⟩
 rw[hK]
 clear hK K
 refine(PB D6 (by lia) g R r0 f0 f1 (by lia) (by lia) _).mono ?_ (λ _ _ h=>h)
 rintro env s6 ⟨y5,y6,y7,y8,y11,y12,LV,LW,Aa,rfl,D7⟩
 exact⟨_,_,_,_,_,_,_,_,_,_,_,_,_,_,z+1,by lia,rfl,D7.mono (by lia)⟩
end Ro
namespace PySem.W.Fast
theorem tw3602238574098958386:True:=⟨⟩
theorem tw2256558032731627055:True:=⟨⟩
theorem tw3277684692089900919:True:=⟨⟩
theorem tw2737373837230776719:True:=⟨⟩
theorem tw10238361895280614523:True:=⟨⟩
theorem tw8884333859572391498:True:=⟨⟩
theorem tw8796588918088640520:True:=⟨⟩
theorem tw7303816368546277287:True:=⟨⟩
theorem tw8007603334903815828:True:=⟨⟩
theorem tw2683151298579536190:True:=⟨⟩
theorem tw9762733309535465755:True:=⟨⟩
theorem tw12393923671232975517:True:=⟨⟩
theorem tw4524517781469201340:True:=⟨⟩
theorem tw7712974409797638505:True:=⟨⟩
theorem tw16775390428783139461:True:=⟨⟩
theorem tw13403298142135203081:True:=⟨⟩
theorem tw15867454787578786176:True:=⟨⟩
theorem tw2202192390458194386:True:=⟨⟩
theorem tw8583210180586453275:True:=⟨⟩
theorem tw8146745354735793127:True:=⟨⟩
theorem tw7251874099365250896:True:=⟨⟩
theorem tw15281755649589884697:True:=⟨⟩
theorem tw6209331078827256046:True:=⟨⟩
theorem tw13476186877453711109:True:=⟨⟩
theorem tw2222666344020034011:True:=⟨⟩
theorem tw16228866022704509610:True:=⟨⟩
theorem tw14963267396761319301:True:=⟨⟩
theorem tw2146849239763307040:True:=⟨⟩
theorem tw4568199112777587189:True:=⟨⟩
theorem tw13479124176635974937:True:=⟨⟩
theorem tw13583516117793345370:True:=⟨⟩
theorem tw4454940971033181210:True:=⟨⟩
theorem tw18278262307818278486:True:=⟨⟩
theorem tw8910298181567326139:True:=⟨⟩
theorem tw14077969494725577744:True:=⟨⟩
theorem tw12205186388610044333:True:=⟨⟩
theorem tw16735848761560697370:True:=⟨⟩
theorem tw15733037567584886202:True:=⟨⟩
theorem tw6793042213037663882:True:=⟨⟩
theorem tw1353423188335878998:True:=⟨⟩
theorem tw16014241321478938494:True:=⟨⟩
theorem tw1218668636945658047:True:=⟨⟩
theorem tw7232430773701038112:True:=⟨⟩
theorem tw14110940603716334396:True:=⟨⟩
theorem tw8112281879267857820:True:=⟨⟩
theorem tw13574188084463502098:True:=⟨⟩
theorem tw16820177713455313607:True:=⟨⟩
theorem tw876484371573229791:True:=⟨⟩
theorem tw12486087667007317661:True:=⟨⟩
theorem tw3567480333470184159:True:=⟨⟩
theorem tw7733170198475378410:True:=⟨⟩
theorem tw5645274869098599833:True:=⟨⟩
theorem tw5162962433760111847:True:=⟨⟩
theorem tw9250905200325962938:True:=⟨⟩
theorem tw2693169434532152333:True:=⟨⟩
theorem tw14276471830643929271:True:=⟨⟩
theorem tw15969029861745377183:True:=⟨⟩
theorem tw7591979984415537754:True:=⟨⟩
theorem tw12118925694583712935:True:=⟨⟩
theorem tw15599595452707896945:True:=⟨⟩
theorem tw15416514038822160720:True:=⟨⟩
theorem tw9721471032363660191:True:=⟨⟩
theorem tw16680351557477101572:True:=⟨⟩
theorem tw69060484324710030:True:=⟨⟩
theorem tw15874724729400858035:True:=⟨⟩
theorem tw1342221751795777718:True:=⟨⟩
theorem tw16748589158803915772:True:=⟨⟩
theorem tw18326231870613671545:True:=⟨⟩
theorem tw3219686824073582427:True:=⟨⟩
theorem tw17674247964794238720:True:=⟨⟩
theorem tw15881349160195471563:True:=⟨⟩
theorem tw16208430470623636254:True:=⟨⟩
theorem tw5655617212575654029:True:=⟨⟩
theorem tw4877561350969421406:True:=⟨⟩
theorem tw5382900641345963103:True:=⟨⟩
theorem tw12030592817858419479:True:=⟨⟩
theorem tw10650310800227280143:True:=⟨⟩
theorem tw8197160033993547592:True:=⟨⟩
theorem tw15028694721238164751:True:=⟨⟩
theorem tw4466566046975139102:True:=⟨⟩
theorem tw2583107020129890605:True:=⟨⟩
theorem tw13463519008694180312:True:=⟨⟩
theorem tw381849439960263553:True:=⟨⟩
theorem tw3672708914547668655:True:=⟨⟩
theorem tw8453103923521618008:True:=⟨⟩
theorem tw13535870308224872546:True:=⟨⟩
theorem tw6745742895716084391:True:=⟨⟩
theorem tw11239494324401749777:True:=⟨⟩
theorem tw4241579843278398543:True:=⟨⟩
theorem tw6460608454277430814:True:=⟨⟩
theorem tw4920740133472445362:True:=⟨⟩
theorem tw12715186780311768948:True:=⟨⟩
theorem tw15676245109351229496:True:=⟨⟩
theorem tw16088004272631600756:True:=⟨⟩
theorem tw4716357410554988678:True:=⟨⟩
theorem tw8916072385845639170:True:=⟨⟩
theorem tw17882247588906126187:True:=⟨⟩
theorem tw14716408258923386530:True:=⟨⟩
theorem tw16979990206026183620:True:=⟨⟩
theorem tw10140327732318448737:True:=⟨⟩
theorem tw4532475242232519495:True:=⟨⟩
theorem tw13914934849169720005:True:=⟨⟩
theorem tw290517730621647166:True:=⟨⟩
theorem tw13456577750313365291:True:=⟨⟩
theorem tw660428867996022164:True:=⟨⟩
theorem tw5876232576587268708:True:=⟨⟩
theorem tw3925985856543834235:True:=⟨⟩
theorem tw15283167594821299890:True:=⟨⟩
theorem tw16026541262345587611:True:=⟨⟩
theorem tw11296790865358569270:True:=⟨⟩
theorem tw15519865119404682488:True:=⟨⟩
theorem tw8253564767047112902:True:=⟨⟩
theorem tw2333669022178609076:True:=⟨⟩
theorem tw17537753059932716828:True:=⟨⟩
theorem tw14739983192656391636:True:=⟨⟩
theorem tw6289562073924782339:True:=⟨⟩
theorem tw3710554600871928846:True:=⟨⟩
theorem tw2375098660079604313:True:=⟨⟩
theorem tw17214443452389973404:True:=⟨⟩
theorem tw15599782691761755431:True:=⟨⟩
theorem tw12677896674461025689:True:=⟨⟩
theorem tw16544464459527275686:True:=⟨⟩
theorem tw14834257068461077349:True:=⟨⟩
theorem tw10887238078855450730:True:=⟨⟩
theorem tw17284843362954835470:True:=⟨⟩
theorem tw10215735135154699053:True:=⟨⟩
theorem tw17521137513138103042:True:=⟨⟩
theorem tw1997219007591128078:True:=⟨⟩
theorem tw14777664051083587886:True:=⟨⟩
theorem tw5265257079233247792:True:=⟨⟩
theorem tw2695912775627745025:True:=⟨⟩
theorem tw17758009072287100104:True:=⟨⟩
theorem tw15776633054237375516:True:=⟨⟩
theorem tw11569170246952087485:True:=⟨⟩
theorem tw8638126366616907199:True:=⟨⟩
theorem tw4065669724001705147:True:=⟨⟩
theorem tw18293545261909256838:True:=⟨⟩
theorem tw18133939480577474793:True:=⟨⟩
theorem tw14535428580907119586:True:=⟨⟩
theorem tw7479702312387915387:True:=⟨⟩
theorem tw5945073209597634686:True:=⟨⟩
theorem tw11082741995056439021:True:=⟨⟩
theorem tw8632035208646679518:True:=⟨⟩
theorem tw18394909952156617985:True:=⟨⟩
theorem tw13502477292734723167:True:=⟨⟩
theorem tw12861136690382226872:True:=⟨⟩
theorem tw8195406303138101598:True:=⟨⟩
theorem tw2840803594053345685:True:=⟨⟩
theorem tw14273807506450710626:True:=⟨⟩
theorem tw5773436781338107249:True:=⟨⟩
theorem tw12946873288556830275:True:=⟨⟩
theorem tw12077004803183931941:True:=⟨⟩
theorem tw732650777703815282:True:=⟨⟩
theorem tw17224880881650159744:True:=⟨⟩
theorem tw687575693141111938:True:=⟨⟩
theorem tw1570909063916173419:True:=⟨⟩
theorem tw797345987597633651:True:=⟨⟩
theorem tw14640505192246508604:True:=⟨⟩
theorem tw4312592442684590490:True:=⟨⟩
theorem tw6285353564958357628:True:=⟨⟩
theorem tw15850735288209681744:True:=⟨⟩
theorem tw8275207908216965912:True:=⟨⟩
theorem tw10715114468362173373:True:=⟨⟩
theorem tw8541516404509126986:True:=⟨⟩
theorem tw9278414087045074252:True:=⟨⟩
end PySem.W.Fast
end
open PySem PySem.W PyProof.Rows
set_option maxRecDepth 100000 in
set_option maxHeartbeats 0 in
theorem PySem.Challenge.cw_royaltree_k11_whole_units_parted_holds : PySem.Challenge.rw_royaltree_k11_whole_units_parted.Holds := by
 w_on;o_law;k_head;(case hw=>w_witness2)
 k_fill
 refine Ro.walk (l:=PySem.Challenge.rw_royaltree_k11_whole_units_parted) Ro.lD 11 ⟨rfl,rfl,by decide,by decide⟩ Ro.SU rfl rfl (λ w h Y=>PySem.W.kIn_of Y) ?F
 case F=>
  intro w mg fa h KX G WO
  refine' Ro.RY w ?_ ?_ ?_ ?_ ?_ ?_ ?_ ?_ ?_ ?_ ?_ ?_ ?_ ?_ ?_ ?_ ?_ ?_ ?_ ?_ ?_ ?_ ?_ ?_ ?_ ?_ ?_ ?_ ?_ ?_ ?_ ?_ ?_ ?_ ?_ ?_ ?_ ?_ ?_ ?_ ?_ ?_ ?_ ?_ ?_ ?_ ?_ ?_ ?_ ?_ ?_ ?_ ?_ ?_ ?_ ?_ ?_ ?_ ?_ ?_ ?_ ?_ ?_ ?_ ?_ ?_ ?_ ?_ rfl (h:=h) WO
  iterate 16 (exact mg_none_of KX G (by k_is))
  (refine' Ro.jC (x:="GREATEST_BELOW") (v:=.int 60) KX G ?a ?r ?w;(case a=>k_is);(case r=>exact⟨_,rfl⟩);(case w=>exact λ ρ H=>by unfold Mm.VR;rfl))
  (refine' Ro.jC (x:="GREATEST_LENGTH") (v:=.int 1000) KX G ?a ?r ?w;(case a=>k_is);(case r=>exact⟨_,rfl⟩);(case w=>exact λ ρ H=>by unfold Mm.VR;rfl))
  (refine' Ro.jC (x:="GREATEST_UPTO") (v:=.int 1000000) KX G ?a ?r ?w;(case a=>k_is);(case r=>exact⟨_,rfl⟩);(case w=>exact λ ρ H=>by unfold Mm.VR;rfl))
  (refine' Ro.jC (x:="LEAST_RATES") (v:=.int 2) KX G ?a ?r ?w;(case a=>k_is);(case r=>exact⟨_,rfl⟩);(case w=>exact λ ρ H=>by unfold Mm.VR;rfl))
  (refine' Ro.jC (x:="LONGEST_NAME") (v:=.int 8) KX G ?a ?r ?w;(case a=>k_is);(case r=>exact⟨_,rfl⟩);(case w=>exact λ ρ H=>by unfold Mm.VR;rfl))
  (refine' Ro.jC (x:="MOST_LEFT_ROWS") (v:=.int 3) KX G ?a ?r ?w;(case a=>k_is);(case r=>exact⟨_,rfl⟩);(case w=>exact λ ρ H=>by unfold Mm.VR;rfl))
  (refine' Ro.jC (x:="MOST_RATES") (v:=.int 4) KX G ?a ?r ?w;(case a=>k_is);(case r=>exact⟨_,rfl⟩);(case w=>exact λ ρ H=>by unfold Mm.VR;rfl))
  (refine' Ro.jC (x:="MOST_ROWS") (v:=.int 8) KX G ?a ?r ?w;(case a=>k_is);(case r=>exact⟨_,rfl⟩);(case w=>exact λ ρ H=>by unfold Mm.VR;rfl))
  (refine' Ro.DO (x:="NOTHING") (vs:=[.int 0,.int 1]) KX G ?a ?l ?v ?s ?w;(case a=>k_is);(case l=>k_is);(case v=>exact .cons ⟨_,rfl⟩ (.cons ⟨_,rfl⟩ (.nil)));(case s=>decide);(case w=>exact λ ρ H=>.cons (by unfold Mm.VR;rfl) (.cons (by unfold Mm.VR;rfl) (.nil))))
  (refine' Ro.DO (x:="ONE") (vs:=[.int 1,.int 1]) KX G ?a ?l ?v ?s ?w;(case a=>k_is);(case l=>k_is);(case v=>exact .cons ⟨_,rfl⟩ (.cons ⟨_,rfl⟩ (.nil)));(case s=>decide);(case w=>exact λ ρ H=>.cons (by unfold Mm.VR;rfl) (.cons (by unfold Mm.VR;rfl) (.nil))))
  (refine' Ro.DO (x:="WHOLE_COIN_ROWS") (vs:=[.str "of",.str "steps"]) KX G ?a ?l ?v ?s ?w;(case a=>k_is);(case l=>k_is);(case v=>exact .cons ⟨_,rfl⟩ (.cons ⟨_,rfl⟩ (.nil)));(case s=>decide);(case w=>exact λ ρ H=>.cons (by unfold Mm.VR;rfl) (.cons (by unfold Mm.VR;rfl) (.nil))))
  all_goals (refine' Ro.Wn KX G ?a ?l ?c ?k;(case a=>k_is);(case l=>k_is);(case c=>k_is);(case k=>k_is))
