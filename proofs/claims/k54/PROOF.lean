import PyProof.Rows.All
import Wide.All
import OpenK.AllK
import Wide.FinOn
import Lean
import PyProof.EqAt
import PyProof.EqKinds
import PyProof.TupleCall
import PySem.Challenge.RW_royaltree_k54_two_faults_at_once
set_option bootstrap.genMatcherCode false
set_option genSizeOf false
set_option compiler.extract_closed false
set_option Elab.async false
set_option linter.all false
set_option maxRecDepth 100000
noncomputable section
open And renaming intro->Nx
open Array renaming length_toList->Į,getD_eq_getD_getElem?->ŷ,getElem?_eq_getElem->ak,getElem?_toList->av,getElem?_setIfInBounds_self_of_lt->da,getElem?_eq_some_iff->dA,perm_iff_toList_perm->dB,getElem?_eq_none->fK,mem_toList_iff->ny,toList_inj->sI,toList->A3,size_push->MF
open Array.Perm renaming refl->bj
open Bool renaming false_ne_true->Ý,and_eq_true->Ĉ,and_true->ae,false_eq_true->aG,not_false->f6,eq_iff_iff->iR,or_eq_true->iS,not_eq_true'->jW,or_true->me,and_false->n_,not_true->pJ,false_or->AI,and_eq_false_iff->DW,and_eq_true_iff->FQ,or_eq_false_iff->FR,eq_false_iff->JT,or_false->Rg
open Classical renaming propDecidable->jv
open False renaming elim->aB
open ForInStep renaming yield->br
open Int renaming gcd->ė,toNat_natCast->bS,natAbs_dvd_natAbs->hW,eq_of_mul_eq_mul_right->jw,fmod_eq_emod_of_nonneg->jx,mul_right_comm->jy,natAbs_mul->jz,mul_assoc->kM,fmod_nonneg_of_pos->mH,mul_comm->mI,fmod_lt_of_pos->rj,mul_nonpos_of_nonpos_of_nonneg->rk,dvd_refl->sJ,gcd_dvd_right->sL,gcd_dvd_left->u6,gcd_add_mul_right_left->yO,mul_pos->F3,emod_lt_of_pos->JU,natAbs_natCast->JV,not_lt->JW,gcd_mul_right->MH,emod_nonneg->QV,mul_ne_zero->QW,gcd_comm->U6,neg_dvd->Xw
open List renaming getElem?_eq_getElem->Å,getElem?_eq_some_iff->Æ,length_map->Ê,append_assoc->Ñ,map_cons->Õ,size_toArray->Ú,getElem?_append_left->Ü,replicate->è,getElem?_map->ê,getElem?_set_ne->ì,append_nil->ð,getElem?_append_right->ñ,mem_cons->ò,mem_cons_of_mem->ÿ,mem_of_getElem?->Ā,range->Ă,getElem?_set_self->Ć,length_append->ć,all_eq_true->Đ,getD_eq_getElem?_getD->ĕ,lookup_cons->ĝ,toArray->Ğ,mem_append_right->ğ,mem_singleton->Ġ,all_cons->Ĩ,length_cons->Ķ,map_append->ķ,mem_cons_self->Ļ,pairwise_cons->Ō,mem_map->ŕ,find?_cons->Ś,length_set->ű,getElem_of_mem->af,contains_cons->aH,mem_append->aU,nil_append->aV,prefix_rfl->aW,all_nil->a9,map_nil->a_,any_cons->a',not_mem_nil->bg,getElem?_take_of_lt->bY,cons_append->cy,length_take->cz,length->cK,nodup_cons->cY,nodup_append->de,lookup->dM,mem_append_left->dN,getElem_inj->ee,mem_of_mem_eraseIdx->eX,prefix_append->fB,take_left->f7,getElem_mem->hX,forIn_cons->iT,map_congr_left->iV,mem_filterMap->jr,length_range->jY,any_eq_true->lj,getElem?_replicate->lr,pairwise_singleton->lu,length_nil->mL,mem_range->oh,filterMap_cons->pD,set_comm->pP,lookup_append->qN,map_map->r9,pairwise_map->r_,ext_getElem->uW,of_mem_zip->vA,take_left'->vB,forIn_nil->yw,length_eraseIdx_of_lt->yx,mapM_cons->yy,drop_eq_getElem_cons->yP,pairwise_iff_getElem->yQ,mapM_nil->AM,length_eq_zero_iff->A6,pairwise_mergeSort->A7,getElem?_eq_none->DZ,length_replicate->D1,length_singleton->D_,set_append_right->D',mergeSort_perm->F4,find?_eq_none->Jz,findIdx?_cons->JA,zip_cons_cons->JB,any_eq_false->JX,take_sublist->JY,countP_cons->MI,drop_length->MJ,filter_cons->MK,length_drop->ML,zipIdx_cons->MM,length_zip->Ny,mem_filter->Nz,zipIdx_nil->NA,map_set->Ue,find?->Xx
open List.Pairwise renaming nil->mK
open List.cons renaming injEq->aO,inj->Jy
open Nat renaming le_refl->Í,reduceSub->Ù,lt_of_lt_of_le->æ,ne_of_lt->ï,le_of_lt->Ħ,zero_le->ĩ,le_trans->ł,ne_of_gt->Ń,lt_irrefl->Ŝ,lt_of_le_of_lt->bz,lt_succ_of_lt->dz,lt_succ_self->eG,le_of_eq->gg,le_add_right->lE,lt_trans->mM,not_lt->mN,le_of_succ_le->sM,sub_self->sN,succ_le_succ->u7,eq_of_mul_eq_mul_right->yR,le_of_ble_eq_true->FT,le_succ->F5,add_le_add_left->JC,gcd->MN,not_lt_zero->QX,dvd_trans->Ug,Coprime->Xy,log2_lt->Xz,one_mul->XA,max_le->YV
open Nat.Coprime renaming mul_left->YT,mul_right->YU
open Nat.succ renaming inj->fC
open Ne renaming symm->ő
open Option renaming some->À,isSome_iff_exists->bQ,bind_some->b_,map_some->ir,isSome_map->qO,getD_some->se,isSome_some->FU,getD_none->JD
open Option.some renaming inj->ã,injEq->YW
open Or renaming inr->FV,inl->MO
open PUnit renaming unit->U8
open Prod renaming fst->dO,ext->yz
open PyProof renaming noPylong_of_log2->wF
open PyProof.Rows renaming seqObj->ċ,slot_tuple_getitem->Œ,envOfC->aJ,assignInOrder_cons->dk,listUpdate_at->dR,callWith_type1->gH,boot_sorted->iU,get?_update_seq->jC,AllBare->md,seqEpoch_at->mi,subscriptTail_builtinR->oy,mirror_perm->rq,IntsAre->r8,SortKind->wJ,assignInOrder_nil->wK,listItems_at->wN,envOfC->y6,entry_list_sort->A_,Subscript_->Ec,bubble->Ef,slot_list_sort->Em,subscriptTail->F',IsTup->Jx,entry_sorted->J5,plain_sorted->J8,kind_sorted->NC,entry_tuple_getitem->QZ,args_tuple_getitem->Rr,slot_tuple_getitem->Rw,unpackItems_tuple->Uq,boot_zip->XB,callWith_builtin1->XC,callWith_kw->XD,call_function_entry_kw->XF,formatField_int->XG,ksk_l1->XH,ksk_s1->XI,ksk_t1->XJ,kws_cons->XM,kws_nil->XN,list_sort_plain->X',args_list_sort->YY,failedOf->YZ,keyKind'->Y1,slicePart_none->Y6,sortedHeap_old->Y7
open PyProof.Rows.IsTup renaming new->AK
open PyProof.Rows.KeyOrd renaming klt_of_klt_of_kle->eO,kle_trans->gG,kle_of_klt->qM,kle_refl->uV,kle_of_not_klt->A5,kle_antisymm->DY,kle->Ud
open PySem renaming wpAny_bind->Ã,wpAny_pure->È,starEach->Î,Shared->Ô,wpAny->Ø,model->Û,sizeLine_eq->ā,Program->ą,wpAny_call_entry->ġ,eval->ģ,World->ħ,bootBuiltins->Ĳ,wpAny_callSpecial?_slot->Ĵ,backTo->ĺ,wpAny_field->ľ,compareOp->ņ,wpAny_holding->Ŏ,Around->Ŕ,wpAny_newObj_type->Ř,rawInt->Ŷ,behindInMarks->ao,wpAny_mono->aw,binaryOp->aY,attributeBase->bG,cellsFrom->bI,sysModules->bN,wpAny_Call_Name_kw->bO,wpAny_rule->bP,keywordEach->cc,wpAny_truthy_bool->cf,wpAny_attempt->cA,Builtin->cO,wpAny_seqItems->cU,assignEach->di,wpAny_setField_rec->dm,FuncData->dC,wpAny_passesOwn->dF,wpAny_standAt->dS,codeAny->ef,foldedSetIterable->eg,mem_of_lookup->eI,holding->e_,swapsWith->fb,pyNext->fE,bindName->fL,wpAny_newList->fM,tupleKind_room_in1->gn,backToKw->h_,wpAny_setField->ic,swappedStores->iZ,swapsWithSole->i0,bindArgs->jf,sliceBounds->jg,Pos->jA,letOwnedTupleGo->jD,Keyword->jX,standAt->j6,NameKind->kO,assign->kW,builtinsNs->kY,wpAny_bindName->kZ,getItem->mh,IsPair->mJ,assignInOrder->mS,getMethod->nC,tupleKind->nG,closureFor->ov,codeAny_mono->ow,codeAny_builtin->pE,wpAny_execs_nil->pG,IsPart->rm,newFunctionEnv->rr,wpAny_loadName_local->rx,wpAny_newTuple->ry,wpAny_updateSeq_pair->rC,BindsTo->r4,callerA->sf,wpAny_onRaise->uZ,PlainAttrs->u9,call_meets->vc,wpAny_call->vd,wpAny_pyIter_tuple->ve,callWith->wM,valueAt->wO,wpAny_pyIter_list->wQ,wpAny_typeOf->wR,DictEntry->yL,PassesOwn->yS,codeAmong->y4,noFill_tuple_add->y8,seqIndex?->y9,setFlight->y_,wpAny_isInstance->za,IsZip->AL,subscripted->AU,wpAny_letGo->AW,Within->A8,wpAny_updateSeq->Ba,atKey->Ee,evalEach->Eh,isSubtype_stop->Ei,isTrue->Ek,wpAny_Name->Ep,call->F8,plainId_quiet->F9,seq_tuple_add->F_,wpAny_comprehension_free->Ga,wpAny_handled->Gb,Env->Jw,bindC->JF,bindL->JG,field->JH,noteFrame->JK,pushCells->JL,Fin->J0,concat_meets->J4,pyIter->J9,wpAny_isTrue_Compare1->MQ,compEnvC->NB,seqIndex_of->ND,unbindBehindTheSuite->NF,wpAny_of_eq->NG,wpAny_throw->NH,wpAny_isSubtype_exc->Q0,wpAny_loadName_cell->Q1,Result->Rn,checkCount->Rt,defaultsOf->Ru,typeOf->Rx,wpAny_Constant_int->Ry,intKind->Uj,newList->Uk,setItem->Ul,slot_list_getitem->Um,unaryOp->Uo,wpAny_assign_Name->Ur,wpAny_loadPart_at->Us,wpAny_pyIter_slot->Ut,wpAny_sequenceKey->Uu,TriplesOk->Vi,checkBuiltinCall->Vj,storeName->Vk,updateSeq->Vl,wpAny_Dict_empty->Vm,wpAny_execs_cons->Vn,wpAny_pyIter_zip->Vo,Sem->X5,exec_Assign_arm->X_,pushCells_keeps->Ya,ZipApart->YX,firstArgMember->Y0,newEnv->Y2,raiseNew->Y4,ret->Y5,wpAny_Compare1->Y8,wpAny_loadPart->Y9
open PySem.Around renaming under_plainId->hU,under->qL
open PySem.Builtin.Dict renaming noArgs->Xr,showsAll->Xt
open PySem.Builtin.Dict_items renaming ownsTuple->MG
open PySem.Builtin.Int renaming intBits->bK,intTooBig->vz
open PySem.Builtin.List renaming listExtendWith->pK,listSameRef->r6
open PySem.Builtin.Range renaming rangeSize->U1
open PySem.Builtin.Slice renaming slicePlaces->cX,sliceAdjust->h8,sliceApplied->pL,sliceFields->U2,slicePartIndex->U3
open PySem.Builtin.SmallTypes renaming nextOf->Ľ,ownedTupleIsFree->aA,ownedTupleHandOut->jq
open PySem.Builtin.Str renaming strKind->oi
open PySem.Builtin.Tuple renaming tupleExact->dc,tupleItemsOf->pM,tupleIsExact->U4
open PySem.Calls renaming callWith_builtin->lD,call_function_entry->oj,spliced_cons->pO,spliced_nil->rh,Name_function_global->wD,evalArgs_plain->DX
open PySem.Challenge renaming pw_royaltree_k54_two_faults_at_once->Rj
open PySem.Code renaming isFrame->CF,isGuard->Ua,frames->U5
open PySem.EntryCells renaming newEntry->yM
open PySem.EqMixed renaming eq_bool_str->U9,eq_int_str->U_,eq_str_bool->U',eq_str_int->Va,ne_bool_str->Vc,ne_int_str->Vd,ne_str_bool->Ve,ne_str_int->Vf
open PySem.EqNone renaming eq_bool_none->XO,eq_int_none->XP,eq_none_bool->XQ,eq_none_int->XR,eq_none_none->XS,eq_none_str->XU,eq_str_none->XW,ne_bool_none->XX,ne_int_none->XY,ne_none_bool->XZ,ne_none_int->X0,ne_none_none->X1,ne_none_str->X2,ne_str_none->X3
open PySem.F renaming slot_dict_itemiterator_next->Ŧ,slot_dict_keyiterator_next->ů,plain_extend_loop->dQ,slot_tuple_iterator_next->eF,plainAttrs_list->eY,args_tuple_add_2->jB,entry_tuple_add->jZ,slot_tuple_add->kQ,slot_dict_get->lF,args_dict_itemiterator_next_1->m4,args_dict_keyiterator_next_1->nz,entry_dict_itemiterator_next->nA,slot_zip_next->og,entry_dict_keyiterator_next->om,slot_dict_items_iter->sO,excBase_ValueError->u_,entry_extend_loop->vC,args_dict_get_2->yA,attr_ValueError->yB,plainAttrs_dict->yC,plain_list_iadd->yD,slot_dict_items->yE,args_tuple_iterator_next_1->yN,entry_dict_get->yT,slot_dict_iter->yU,entry_tuple_iterator_next->AJ,slot_tuple_lt->AN,args_zip_next_1->QU,entry_zip_next->Rh
open PySem.Flow renaming next->A4
open PySem.Heap renaming get?_push_of_some->Ä,lt_size->Ï,get?_push_size->Ò,get?_update_other->ç,get?_update_self->ù,size_push->Ĺ,SameBut->d_,size_update->uU,IsTuple->Uc
open PySem.Heap.DictOf renaming new->YS
open PySem.Heap.IsSliceOf renaming new->Ub
open PySem.Heap.IsTuple renaming push->Xu
open PySem.Heap.SameBut renaming update->ŵ,refl->Xv
open PySem.NameKind renaming free->ŏ,cell->bL
open PySem.Obj renaming mapSeq->ô,mapFields->þ,isFreed_of_fields->df,data_mapFields->JZ
open PySem.Paired renaming length->oq,snoc->Ri
open PySem.PassesOwn renaming never->FW
open PySem.SeqAt renaming EqAt->pW
open PySem.SeqAt.EqAt renaming same->qP,bool_tuple->wH,none_tuple->wI,bool_list->yF,int_tuple->yG,none_list->yH,str_tuple->yI,int_list->yV,str_list->yW,int_str->AQ,of_refs->AR,str_int->AS
open PySem.SeqAt.RcAt renaming lists_lengths->uX,tuples->A9,lists->CI
open PySem.SeqAt.RcNeAt renaming lists->X6,lists_lengths->X7,tuples->X8
open PySem.Shared renaming TypeIs->jT,heap->Rq
open PySem.Str renaming ofString->Ĕ,empty->fG,length_append->gm
open PySem.Value renaming ref->Ð,none->í,bool->e8,type->gK,int->kU,str->sS,isInt->uY,builtin->yX,isStrOf->yY,float->Ed,isStrOf_shape->FX,bytes->Uh
open PySem.W renaming Frag->Ç,findIn->ú,nsIn->Ę,mg_none_of->Ĝ,kia_one->ı,keepIn->ĵ,fnOf->Ņ,codeHdIn->ų,emptyDict->aa,instObj->bF,clsIn->cP,codeIn->dg,tabObj->dh,kas_desc->eV,specialIn->fD,plainGet->gh,mg_of->gI,kas_place->gJ,takesIn->h9,kas_descPart->ib,hasDictIn->js,kas_rev->j3,cellsFrom_some->kR,isFn->kS,OpenLaw->lx,methodCall_KW->lG,kitOne->mO,kla_fn->mQ,lookIn->mR,plainGet_of->nB,kas_sort->nE,mroIn->oo,callWith_K->ou,kitx_dict->pQ,kitx_list->pR,methodObj->pU,plainOver->pV,makesIn->sP,takerIn->sQ,typeIn->vb,subIn->wG,callWith_K0->CG,codeHd_of_K->CH,kitx_tuple->Ea,handedIn->F6,kat_cons->F7,kat_yes->JE,kas_count->JI,kas_tail3->JJ,kas_bin->J7,WalkO->MP,kitOne->Rv,KasT->U7,notCls->Y3
open PySem.W.KatTups renaming cons->Rk,nil->Rm
open PySem.W.Looks renaming here->Vg,ld->Vh
open PySem.W.WData renaming int->X9
open PySem.W.WShape renaming has->Ui
open PySem.Within renaming cons->X4
open Rat renaming divInt->ro,num_divInt_den->rp
open StateT renaming run_pure->J1
open Sum renaming inr->bc,inl->sR
open Sum.inl renaming inj->QY
open Sum.inr renaming inj->jt
open True renaming intro->bt
open _root_ renaming List->Â,Option->É,if_pos->Ì,if_neg->Ö,congrArg->à,decide_eq_false->é,reduceIte->ë,decide_eq_true->ó,Array->Č,of_decide_eq_true->ō,decide_eq_true_eq->Ų,beq_eq_false_iff_ne->az,Decidable->a8,decide_true->bH,propext->eh,decide_false->e9,if_true->f9,if_false->ia,True->j2,beq_iff_eq->kX,or_false->nF,DecidableEq->ri,bne_self_eq_false->wL,beq_self_eq_true->yZ,eq_true->J6
namespace L2
open PySem PySem.Spec PyProof.Rows
abbrev Key:=Sum Int Str
def v5:Key->Value->Bool
 |.inl k,v=>uY k v
 |.inr x,v=>yY x v
noncomputable def V9 (w:ħ):Key->Int
 |.inl k=>hashInt k
 |.inr x=>hashStr w x
def bD:∀{k:Key}{v:Value},v5 k v=true->(∃i t,k=sR i/\v=kU i t)∨(∃x t,k=bc x/\v=sS x t)
 |.inl i,v,h=>by
  obtain⟨t,e⟩:=Value.isInt_shape (k:=i) (v:=v) h;exact .inl ⟨i,t,rfl,e⟩
 |.inr x,v,h=>by
  obtain⟨t,e⟩:=FX (x:=x) (v:=v) h;exact .inr ⟨x,t,rfl,e⟩
def E3 (i:Int)(t:Tok):v5 (.inl i) (.int i t)=true:=by simp[v5,uY]
def E4 (x:Str)(t:Tok):v5 (.inr x) (.str x t)=true:=by simp[v5,yY]
def OA (a b:Int):decide ((sR a:Key)=sR b)=(a == b):=by
 by_cases e:a=b
 ·subst e;simp
 ·have h:¬(sR a:Key)=sR b:=λq=>e (QY q);rw[é h];exact(az.mpr e).symm
def OD (a b:Str):decide ((bc a:Key)=bc b)=decide (a=b):=by
 by_cases e:a=b
 ·subst e;simp
 ·have h:¬(bc a:Key)=bc b:=λq=>e (jt q);rw[é h,é e]
def OB (a:Int)(b:Str):decide ((sR a:Key)=bc b)=false:=é (λq=>nomatch q)
def OC (a:Str)(b:Int):decide ((bc a:Key)=sR b)=false:=é (λq=>nomatch q)
def ay (prog:ą)(w:ħ):PySem.KeyKind prog w Key where
 is:=v5
 hash:=V9 w
 inj:=λv a b ha hb=>by
  rcases bD ha with⟨i,t,rfl,rfl⟩|⟨x,t,rfl,rfl⟩
  ·rcases bD hb with⟨j,u,rfl,e⟩|⟨y,u,rfl,e⟩
   ·injection e with e1 _;rw[e1]
   ·exact nomatch e
  ·rcases bD hb with⟨j,u,rfl,e⟩|⟨y,u,rfl,e⟩
   ·exact nomatch e
   ·injection e with e1 _;rw[e1]
 byValue:=λk v h=>by
  rcases bD h with⟨i,t,rfl,rfl⟩|⟨x,t,rfl,rfl⟩<;>rfl
 pyHash:=λhv h=>by
  rcases bD hv with⟨i,t,rfl,rfl⟩|⟨x,t,rfl,rfl⟩
  ·exact wpAny_pyHash_int h
  ·exact wpAny_pyHash_str h
 eqBool:=λhu hv h=>by
  rcases bD hu with⟨i,t,rfl,rfl⟩|⟨x,t,rfl,rfl⟩
  ·rcases bD hv with⟨j,u,rfl,rfl⟩|⟨y,u,rfl,rfl⟩
   ·rw[OA]at h;exact wpAny_eqBool_int h
   ·rw[OB]at h;exact AQ i t y u _ _ _ _ h
  ·rcases bD hv with⟨j,u,rfl,rfl⟩|⟨y,u,rfl,rfl⟩
   ·rw[OC]at h;exact AS x t j u _ _ _ _ h
   ·rw[OD]at h;exact wpAny_eqBool_str h
 «strs»:=λk x t v h=>by
  rcases bD h with⟨i,u,rfl,e⟩|⟨y,u,rfl,e⟩
  ·exact nomatch e
  ·injection e with e1 _
   subst e1;cases v<;>rfl
def qZ (prog:ą)(w:ħ)(i:Int)(t:Tok):(ay prog w).is (.inl i) (.int i t)=true:=E3 i t
def q_ (prog:ą)(w:ħ)(x:Str)(t:Tok):(ay prog w).is (.inr x) (.str x t)=true:=E4 x t
inductive V where
 |Ě|bl (b:Bool)|int (i:Int)|str (x:Str)|Bm (b:Č UInt8)|M0 (b:UInt64)|ref (a:Addr)|ty (n:String)
 deriving ri
def RelV:V->Value->Prop
 |.Ě,u=>u=í
 |.bl b,u=>u=e8 b
 |.int i,u=>∃t,u=kU i t
 |.str x,u=>∃t,u=sS x t
 |.Bm b,u=>∃t,u=Uh b t
 |.M0 b,u=>∃t,u=Ed b t
 |.ref a,u=>u=Ð a
 |.ty n,u=>u=gK n
abbrev Vals:Â V->Â Value->Prop:=Paired RelV
theorem Vals.length (r:Vals xs us):xs.length=us.length:=oq r
theorem Vals.get:∀{xs:Â V}{us:Â Value}{i:Nat}{x:V},Vals xs us->xs[i]?=À x->∃u,us[i]?=À u/\RelV x u
 |_,_,_,_,.nil,e=>by simp at e
 |_,_,0,_,.cons r _,e=>by simp at e;subst e;exact⟨_,rfl,r⟩
 |_,_,i+1,x,.cons _ t,e=>by
  obtain⟨u,a,b⟩:=Vals.get (i:=i) (x:=x) t (by simpa using e);exact⟨u,by simpa using a,b⟩
theorem Vals.set (r:RelV x u):∀{xs:Â V}{us:Â Value}(i:Nat),Vals xs us->Vals (xs.set i x) (us.set i u)
 |_,_,_,.nil=>.nil
 |_,_,0,.cons _ t=>.cons r t
 |_,_,i+1,.cons q t=>.cons q (Vals.set r i t)
theorem Vals.append:∀{xs ys:Â V}{us ws:Â Value},Vals xs us->Vals ys ws->Vals (xs++ys) (us++ws)
 |_,_,_,_,.nil,s=>s
 |_,_,_,_,.cons r t,s=>.cons r (Vals.append t s)
theorem Vals.take:∀{xs:Â V}{us:Â Value}(n:Nat),Vals xs us->Vals (xs.take n) (us.take n)
 |_,_,0,_=>.nil
 |_,_,_+1,.nil=>.nil
 |_,_,n+1,.cons r t=>.cons r (Vals.take n t)
theorem Vals.drop:∀{xs:Â V}{us:Â Value}(n:Nat),Vals xs us->Vals (xs.drop n) (us.drop n)
 |_,_,0,r=>r
 |_,_,_+1,.nil=>.nil
 |_,_,n+1,.cons _ t=>Vals.drop n t
def k7:É V->É Value->Prop
 |some v,À u=>RelV v u
 |none,none=>j2
 |_,_=>False
def KV {κ:Type}:Â (κ×V)->Â (κ×Value)->Prop:=Paired λ(p:κ×V) (q:κ×Value)=>p.1=q.1/\RelV p.2 q.2
def kV:Key->V
 |.inl i=>.int i
 |.inr x=>.str x
inductive HO where
 |lst (xs:Â V)
 |tup (xs:Â V)
 |dK (kvs:Â (Key×V))|dT (kvs:Â (Â Key×V))
 |set (S:Int->Bool) (n:Nat)
 |ins (C dx:Addr) (fs:Â (Str×V))
 |own (x:Addr)
 |xd (fs:Â (Str×V))
 |met (f x:Addr)
 |Tr (lo hi:Int)
 |hY (o:Obj) (u:HO)
 |pH (ps:Č Value)
 |ext (φ:Heap->Prop)
abbrev Hp:=Addr->É HO
def upd (H:Hp)(a:Addr)(o:HO):Hp:=λb=>if b=a then À o else H b
def ă:upd H a o a=À o:=by unfold upd;rw[Ì rfl]
def ä (h:b≠a):upd H a o b=H b:=by unfold upd;rw[Ö h]
def DP:upd (upd H a o) a u=upd H a u:=by
 funext b;unfold upd;split<;>rfl
def ug {H:Hp}{a b:Addr}{o u:HO}(h:H a=À o)(h':H b=À u)(d:o≠u):a≠b:=by
 intro e;subst e;rw[h]at h';exact d (ã h')
def ń {H:Hp}{a b:Addr}{o:HO}(h:H a=À o)(h':H b=none):a≠b:=by
 intro e;subst e;rw[h]at h';cases h'
section
variable (P:ą)(w:ħ)
def š (H:Hp)(h:Heap)(a:Addr):HO->Prop
 |.lst xs=>xs.length<=sizeLine/\∃b n,Vals xs b/\h.get? a=À {cls:=.type "list",data:=.seq b.toArray n}
 |.tup xs=>xs.length<=sizeLine/\∃b:Â Value,Vals xs b/\Jx h a b.toArray
 |.dK c=>c.length<=sizeLine/\(a == bN)=false/\∃l,KV c l/\h.DictOf (ay P w) a l
 |.dT c=>c.length<=sizeLine/\(a == bN)=false/\∃xs:Â (Â Key×Addr×Value),
   Paired (λ(p:Â Key×V) (q:Â Key×Addr×Value)=>p.1=q.1/\H q.2.1=À (.tup (p.1.map kV))/\RelV p.2 q.2.2) c xs/\
   ∃o i m,h.get? a=À o/\o.ExactDict/\o.data=.dict i m/\i.toList=xs.map (entryOfKey (nG (ay P w)))/\(xs.map (·.1)).Nodup
 |.set S n=>h.SetOf (Uj P w) a S n
 |.ins C e d=>H e=À (.own a)/\d.length<=1000/\e≠a/\h.get? a=À (bF C e)/\
   ∃mA,h.Ns1 e mA/\(∀f,k7 (d.lookup f) (mA f))/\A8 mA (d.map (·.1))
 |.own _=>∃o,h.get? a=À o
 |.xd d=>∃mA,h.Ns1 a mA/\∀f,k7 (d.lookup f) (mA f)
 |.Tr lo r=>∃t u v,h.get? a=À {cls:=.type "range",data:=.fields #[.int lo t,.int r u,.int 1 v]}
 |.hY o u=>h.get? a=À o/\š H h a u
 |.pH s=>h.get? a=À {cls:=.none,data:=.fields s}
 |.met f x=>h.get? a=À (pU (.ref f) (.ref x))
 |.ext g=>g h/\(∃o,h.get? a=À o)/\∀j k:Heap,g j->(∀o,j.get? a=À o->k.get? a=À o)->g k
def ly (H:Hp)(h:Heap):Prop:=∀a o,H a=À o->š P w H h a o
end
section
variable {P:ą}{w:ħ}{H H':Hp}{h h':Heap}{a:Addr}{o:HO}
theorem š.lt (x:š P w H h a o):a<h.objs.size:=by
 cases o with
 |lst xs=>obtain⟨_,_,_,_,e⟩:=x;exact Ï e
 |tup xs=>obtain⟨_,_,_,p⟩:=x;exact p.lt
 |dK b=>obtain⟨_,_,_,_,o,_,_,e,_⟩:=x;exact Ï e
 |dT b=>obtain⟨_,_,_,_,o,_,_,e,_⟩:=x;exact Ï e
 |set S n=>obtain⟨o,_,_,_,e,_⟩:=x;exact Ï e
 |ins C d c=>obtain⟨_,_,_,e,_⟩:=x;exact Ï e
 |own y=>obtain⟨_,e⟩:=x;exact Ï e
 |xd c=>obtain⟨_,⟨_,_,_,e,_⟩,_⟩:=x;exact Ï e
 |Tr lo g=>obtain⟨_,_,_,e⟩:=x;exact Ï e
 |hY i u=>obtain⟨e,_⟩:=x;exact Ï e
 |pH j=>exact Ï (show h.get? a=À _ from x)
 |met f y=>exact Ï (show h.get? a=À _ from x)
 |ext k=>obtain⟨_,⟨_,e⟩,_⟩:=x;exact Ï e
theorem Paired.OP:∀{c:Â α}{d:Â e},Paired F c d->(∀a b,F a b->G a b)->Paired G c d
 |_,_,.nil,_=>.nil
 |_,_,.cons r t,f=>.cons (f _ _ r) (Paired.OP t f)
def š.pq (x:š P w H h a o)(k:∀b u,(b=a∨H b=À (.own a))->h.get? b=À u->h'.get? b=À u)
  (E:∀b,H b=À (.own a)->H' b=À (.own a)) (F:∀b xs,H b=À (.tup xs)->H' b=À (.tup xs)):š P w H' h' a o:=by
 induction o with
 |lst xs=>obtain⟨z,l,n,r,e⟩:=x;exact⟨z,l,n,r,k _ _ (.inl rfl) e⟩
 |tup xs=>obtain⟨z,l,r,g,e,c⟩:=x;exact⟨z,l,r,g,k _ _ (.inl rfl) e,c⟩
 |dK m=>obtain⟨z,y,L,r,g,j,i,e,c⟩:=x;exact⟨z,y,L,r,g,j,i,k _ _ (.inl rfl) e,c⟩
 |dT m=>
  obtain⟨z,y,xs,r,g,j,i,e,c⟩:=x;exact⟨z,y,xs,Paired.OP r λp q z=>⟨z.1,F _ _ z.2.1,z.2.2⟩,g,j,i,k _ _ (.inl rfl) e,c⟩
 |set S n=>obtain⟨g,j,i,t,e,c⟩:=x;exact⟨g,j,i,t,k _ _ (.inl rfl) e,c⟩
 |ins C M D=>
  obtain⟨d,z,J,e,mA,⟨s,j,i,B,c⟩,r⟩:=x;exact⟨E _ d,z,J,k _ _ (.inl rfl) e,mA,⟨s,j,i,k _ _ (.inr d) B,c⟩,r⟩
 |own y=>obtain⟨g,e⟩:=x;exact⟨g,k _ _ (.inl rfl) e⟩
 |xd D=>obtain⟨mA,⟨s,j,i,e,c⟩,r⟩:=x;exact⟨mA,⟨s,j,i,k _ _ (.inl rfl) e,c⟩,r⟩
 |Tr lo N=>obtain⟨t,u,v,e⟩:=x;exact⟨t,u,v,k _ _ (.inl rfl) e⟩
 |hY g u I=>obtain⟨e,q⟩:=x;exact⟨k _ _ (.inl rfl) e,I q⟩
 |pH A=>
  have e:h.get? a=À {cls:=.none,data:=.fields A}:=x;show h'.get? a=À {cls:=.none,data:=.fields A};exact k a _ (.inl rfl) e
 |met f y=>
  have e:h.get? a=À (pU (.ref f) (.ref y)):=x;show h'.get? a=À (pU (.ref f) (.ref y));exact k a _ (.inl rfl) e
 |ext O=>obtain⟨p,⟨o,e⟩,st⟩:=x;exact⟨st _ _ p λo q=>k _ _ (.inl rfl) q,⟨o,k _ _ (.inl rfl) e⟩,st⟩
theorem ly.lt (x:ly P w H h)(e:H a=À o):a<h.objs.size:=(x a o e).lt
def ly.fresh (x:ly P w H h)(e:h.objs.size<=a):H a=none:=by
 cases q:H a with
 |none=>rfl
 |some u=>exact absurd (æ (x.lt q) e) (Ŝ _)
def ly.kept (x:ly P w H h)(k:∀b u,h.get? b=À u->h'.get? b=À u):ly P w H h':=λa o e=>
 (x a o e).pq (λb u _ q=>k b u q) (λ_ q=>q) λ_ _ q=>q
def ly.laid (x:ly P w H h)(k:∀b u,h.get? b=À u->h'.get? b=À u)(i:h.objs.size<=a)(d:š P w (upd H a o) h' a o):ly P w (upd H a o) h':=λb u e=>by
 have g:=x.fresh i;by_cases f:b=a
 ·subst f;rw[ă]at e;cases e;exact d
 ·rw[ä f]at e;exact(x b u e).pq (λc v _ q=>k c v q) (λc q=>by rw[ä (ń q g)];exact q) λc xs q=>by rw[ä (ń q g)];exact q
end
def Rd (H:Hp)(a:Addr)(u:HO):Prop:=H a=À u∨∃o,H a=À (.hY o u)
def Rd.ok (r:Rd H a u)(x:ly P w H h):š P w H h a u:=by
 rcases r with r|⟨o,r⟩
 ·exact x a u r
 ·obtain⟨_,q⟩:=x a _ r;exact q
def Q6:É HO->Prop
 |some (.lst _)=>j2
 |some (.dK _)=>j2
 |some (.dT _)=>j2
 |some (.set _ _)=>j2
 |some (.ins _ _ _)=>j2
 |some (.ext _)=>j2
 |_=>False
section
variable {P:ą}{w:ħ}{H:Hp}{h h':Heap}{x e:Addr}{o':HO}
def ly.write (p:ly P w H h)(i:Q6 (H x)) (m:e=x∨H e=À (.own x)) (k:∀b u,b≠e->h.get? b=À u->h'.get? b=À u)(j:∃u,h'.get? e=À u)
  (l:š P w (upd H x o') h' x o'):ly P w (upd H x o') h':=λb u q=>by
 have d:∀c y,H c=À (.own y)->c≠x:=λc y r z=>by subst z;rw[r]at i;exact i
 have f:∀c xs,H c=À (.tup xs)->c≠x:=λc xs r z=>by subst z;rw[r]at i;exact i
 by_cases g:b=x
 ·subst g;rw[ă]at q;cases q;exact l
 ·rw[ä g]at q;by_cases a:b=e
  ·have n:H b=À (.own x):=by
    rcases m with z|z
    ·exact absurd (a.trans z) g
    ·rw[a];exact z
   rw[q]at n;cases n;obtain⟨v,o⟩:=j;exact⟨v,by rw[a];exact o⟩
  ·refine(p b u q).pq (λc v hc r=>k c v ?_ r) (λc r=>by rw[ä (d c b r)];exact r) λc xs r=>by rw[ä (f c xs r)];exact r
   rcases hc with rfl|hc
   ·exact a
   ·rintro rfl;rcases m with z|z
    ·exact d c b hc z
    ·rw[hc]at z;cases z;exact g rfl
end
structure Un (fs ex:Â Addr)(H H':Hp)(h h':Heap):Prop where
 keep:∀b o,h.get? b=À o->H b=none->b∉fs->b∉ex->h'.get? b=À o
 slot:∀b o,h.get? b=À o->H b=none->b∈fs->b∉ex->∃sl,h'.get? b=À {o with slots:=sl}
 free:∀b o,h.get? b=À o->H b=none->b∉ex->H' b=none
 there:∀b o,h.get? b=À o->b∉ex->∃o',h'.get? b=À o'
 jR:∀b xs,H b=À (.tup xs)->H' b=À (.tup xs)
 iI:∀b o u,H b=À (.hY o u)->H' b=À (.hY o u)
 uI:∀b ps,H b=À (.pH ps)->∃more,H' b=À (.pH (ps++more))
section
variable {fs ZU ex ex':Â Addr}{H H1 H2:Hp}{h h1 h2 h':Heap}{a x e:Addr}{o:HO}
def Un.any (u:Un fs ex H H1 h h1)(q:h.get? b=À c)(n:H b=none)(f:b∉ex):∃g,h1.get? b=À {c with slots:=g}:=by
 by_cases d:b∈fs
 ·exact u.slot b c q n d f
 ·exact⟨c.slots,u.keep b c q n d f⟩
def Un.kept (k:∀b u,h.get? b=À u->h'.get? b=À u):Un fs ex H H h h':=
 ⟨λb c q _ _ _=>k b c q,λb c q _ _ _=>⟨c.slots,k b c q⟩,λ_ _ _ n _=>n,λb c q _=>⟨c,k b c q⟩,λ_ _ q=>q,λ_ _ _ q=>q,λ_ d q=>⟨#[],by rw[q];simp⟩⟩
def Un.refl:Un fs ex H H h h:=Un.kept λ_ _ q=>q
def Un.laid (k:∀b u,h.get? b=À u->h'.get? b=À u)(hp:h.objs.size<=a)(hn:H a=none):Un fs ex H (upd H a o) h h' where
 keep:=λb u q _ _ _=>k b u q
 slot:=λb u q _ _ _=>⟨u.slots,k b u q⟩
 free:=λb u q n _=>by rw[ä (ï (æ (Ï q) hp))];exact n
 there:=λb u q _=>⟨u,k b u q⟩
 jR:=λb xs q=>by rw[ä (ń q hn)];exact q
 iI:=λb u xs q=>by rw[ä (ń q hn)];exact q
 uI:=λb ps q=>⟨#[],by rw[ä (ń q hn),q];simp⟩
def Un.write (d:Q6 (H x)) (l:e=x∨H e=À (.own x)) (k:∀b u,b≠e->h.get? b=À u->h'.get? b=À u)(f:∃u,h'.get? e=À u):Un fs ex H (upd H x o) h h':=by
 have j:∀b,H b=none->b≠x:=λb n z=>by subst z;rw[n]at d;exact d
 have i:∀b,H b=none->b≠e:=λb n z=>by
  subst z;rcases l with r|r
  ·exact j b n r
  ·rw[n]at r;cases r
 have g:∀b u,H b=À u->¬Q6 (À u)->b≠x:=λb u q m z=>by subst z;rw[q]at d;exact m d
 refine⟨λb u q n _ _=>k b u (i b n) q,λb u q n _ _=>⟨u.slots,k b u (i b n) q⟩,λb u q n _=>by rw[ä (j b n)];exact n,λb u q _=>?_,
  λb xs q=>by rw[ä (g b _ q λz=>z)];exact q,λb u xs q=>by rw[ä (g b _ q λz=>z)];exact q,λb p q=>⟨#[],by rw[ä (g b _ q λz=>z),q];simp⟩⟩
 by_cases c:b=e
 ·subst c;exact f
 ·exact⟨u,k b u c q⟩
end
def JS (h:Heap)(H:Hp):Â Addr:=(Ă h.objs.size).filter λa=>(H a).isSome
def xD (h:Heap)(H:Hp):Heap:=PySem.W.hideAll h (JS h H)
def EV (h:Heap)(H:Hp):(xD h H).objs.size=h.objs.size:=PySem.W.hideAll_size _ _
def G' (e:h.get? b=À o)(n:H b=none):(xD h H).get? b=À o:=
 PySem.W.hideAll_get _ e λa=>by
  have q:(H b).isSome=true:=(Nz.mp a).2;rw[n]at q;simp at q
def Lx (e:(xD h H).get? b=À o):h.get? b=À o/\H b=none:=by
 have a:h.get? b=À o:=PySem.W.of_hideAll (JS h H) e;refine⟨a,?_⟩;cases q:H b with
 |none=>rfl
 |some x=>
  have c:b∈JS h H:=Nz.mpr ⟨oh.mpr (Ï a),by simp[q]⟩;have z:(xD h H).get? b=none:=PySem.W.hideAll_none (JS h H) c;rw[z]at e;cases e
noncomputable def sh (g h:Heap)(L:Addr):Â (Addr×Obj):=(Ă h.objs.size).filterMap λa=>if a=L∨(g.get? a).isSome=true then none else (h.get? a).map λo=>(a,o)
def Ab (c:a≠L)(d:g.get? a=none)(b:h.get? a=À o):(a,o)∈sh g h L:=
 jr.mpr ⟨a,oh.mpr (Ï b),by simp[c,d,b]⟩
def uk (c:p∈sh g h L):p.1≠L/\g.get? p.1=none/\h.get? p.1=À p.2:=by
 obtain⟨b,_,e⟩:=jr.mp c;split at e
 ·cases e
 ·rename_i a;cases q:h.get? b with
  |none=>rw[q]at e;simp at e
  |some u=>
   rw[q]at e;simp only[ir,YW]at e;subst e;refine⟨λz=>a (.inl z),?_,q⟩;show g.get? b=none;cases r:g.get? b with
   |none=>rfl
   |some v=>exact(a (.inr (by simp[r]))).elim
def HM:News g L h (sh g h L):=λp d=>let ⟨a,b,c⟩:=uk d;⟨c,a,b⟩
structure Mod (K:Ç)(mg:Str->É Value)(base:Heap):Prop where
 Sl:K.In base
 glob:base.Ns mainGlobals mg
 blt:∃mb,base.Ns kY mb/\∀x:Str,x≠"__name__"->mb x=Ĳ x
 nolimit:base.NoLimit
 HQ:base.NoDigits
 bmain:∃bm ob,mg "__builtins__"=À (.ref bm)/\bm≠kY/\base.get? bm=À ob/\ob.cls=.type "module"/\ob.dict=À kY/\ob.data=.plain
structure Cx where
 prog:ą
 w:ħ
 K:Ç
 mg:Str->É Value
 base:Heap
 A:Ŕ
 N:Â Str
 iX:Ô
 vf:Hp
 env:Jw
 outer:Â Jw
 stack:Â Jw
 ex:Â Addr
 fn:Str->Bool
 calm:Bool
 pn:Â (Addr×Obj)
 xe:Value->Ô->Prop
def yJ (l:Â Jw):Â Addr:=l.filterMap (·.frame)
abbrev Cx.fs (X:Cx):Â Addr:=yJ X.outer
def UB (a:Scope)(x:Str):Prop:=a.names.lookup x=À .local∨a.names.lookup x=À .cell∨a.names.lookup x=À .free
def Loc (a:Scope)(x:Str):Prop:=a.names.lookup x=À .local∨a.names.lookup x=À .cell
def Look (env:Jw)(h:Heap)(m:Str->É Value)(x:Str)(u:Value):Prop:=
 (env.kindOf x=À .local/\m x=À u)∨((env.kindOf x=À .cell∨env.kindOf x=À .free)/\∃c,env.cells.lookup x=À c/\h.IsCell c (À u))
structure Cx.Ok (X:Cx):Prop where
 mod:Mod X.K X.mg X.base
 kind:X.env.scope.kind=.function
 glob:X.env.globals=mainGlobals
 blt:X.env.builtins=kY
 above:X.iX.heap.objs.size<=X.env.locals
 inj:∀x y c,X.env.cells.lookup x=À c->X.env.cells.lookup y=À c->x=y
 has:∀x,(X.env.kindOf x=À .cell∨X.env.kindOf x=À .free)->∃c,X.env.cells.lookup x=À c
 MX:∀x c,X.fn x=true->X.env.cells.lookup x=À c->X.iX.heap.objs.size<=c
 hd:X.calm=true->X.A.handled=none
 frames:X.A.frames=À X.stack
 QE:X.stack=X.outer∨(X.stack=X.env::X.outer/\X.env.frame=À X.env.locals)
 R3:∀b∈X.ex,b≠X.env.locals/\∀x c,X.env.cells.lookup x=À c->c≠b
 bs:∀b o,X.base.get? b=À o->X.iX.heap.get? b=À o/\X.vf b=none
 Et:X.base.objs.size<=X.iX.heap.objs.size
 Ad:∀b o,X.base.get? b=À o->b∉X.ex
 zH:∀b∈X.ex,b∉X.fs
 nQ:X.iX.heap.FunFrames X.base X.outer
 JQ:∀b∈X.fs,X.vf b=none
structure Inv (X:Cx)(ø:Â (Addr×Obj)) (σ:Â (É V)) (H:Hp)(s:Ô):Prop where
 ok:X.Ok
 os:s.os=X.iX.os
 bare:md s.gens
 base:Un X.fs X.ex X.vf H X.iX.heap s.heap
 loc:∃m,s.heap.Ns X.env.locals m/\∀(i:Nat) (x:Str) (v:V),X.N[i]?=À x->σ[i]?=À (À v)->UB X.env.scope x->∃u,RelV v u/\Look X.env s.heap m x u
 cell:∀x c,X.env.cells.lookup x=À c->∃v,s.heap.IsCell c v
 free:H X.env.locals=none
 iH:∀x c,X.env.cells.lookup x=À c->H c=none
 pin:∀p∈X.pn++ø,s.heap.get? p.1=À p.2/\H p.1=none/\p.1≠X.env.locals/\p.1∉X.fs/\∀v,p.2.data≠.cell v
 Ů:ly X.prog X.w H s.heap
 len:σ.length=X.N.length
section
variable {X:Cx}{ø:Â (Addr×Obj)}{σ:Â (É V)}{H H':Hp}{s:Ô}{h':Heap}
def Cx.Ok.Wi (c:X.Ok)(e:X.base.get? b=À o):b∉X.fs:=λa=>by
 have:=(c.nQ.mem a).1;rw[e]at this;cases this
theorem Inv.bs (I:Inv X ø σ H s):∀b o,X.base.get? b=À o->s.heap.get? b=À o/\H b=none:=λb o e=>
 ⟨I.base.keep b o (I.ok.bs b o e).1 (I.ok.bs b o e).2 (I.ok.Wi e) (I.ok.Ad b o e),I.base.free b o (I.ok.bs b o e).1 (I.ok.bs b o e).2 (I.ok.Ad b o e)⟩
def Inv.bk (I:Inv X ø σ H s):∀b o,X.base.get? b=À o->s.heap.get? b=À o:=λb o e=>(I.bs b o e).1
theorem Inv.mod (I:Inv X ø σ H s):Mod X.K X.mg X.base:=I.ok.mod
def Inv.kG (I:Inv X ø σ H s):X.K.In s.heap:=I.ok.mod.Sl.keeps I.bk
theorem Inv.nolimit (I:Inv X ø σ H s):s.heap.NoLimit:=I.ok.mod.nolimit.keeps I.bk
def Inv.fr (I:Inv X ø σ H s):∃m,Fr X.base X.env.locals s.heap m:=
 let ⟨m,a,_⟩:=I.loc
 ⟨m,a,I.bk,ł I.ok.Et I.ok.above⟩
theorem Inv.lt (I:Inv X ø σ H s):X.env.locals<s.heap.objs.size:=let ⟨_,a,_⟩:=I.loc;a.lt
def Inv.sz (I:Inv X ø σ H s):X.iX.heap.objs.size<=s.heap.objs.size:=ł I.ok.above (Ħ I.lt)
def Inv.Wj (I:Inv X ø σ H s)(h:s.heap.objs.size<=a):a∉X.fs:=λb=>by
 obtain⟨_,o,c,_⟩:=I.ok.nQ.mem b;exact absurd (æ (Ï c) (ł I.sz h)) (Ŝ _)
def Inv.UE (I:Inv X ø σ H s):∀x c,X.env.cells.lookup x=À c->c≠X.env.locals:=λx c e z=>by
 obtain⟨v,o,d,hd⟩:=I.cell x c e;obtain⟨m,⟨h,g,f,b,a,_⟩,_⟩:=I.loc;rw[z,b]at d;cases d;rw[a]at hd;cases hd
theorem Inv.nQ (I:Inv X ø σ H s):s.heap.FunFrames X.base X.outer:=by
 have all:∀(l:Â Jw),(∀b∈yJ l,b∈X.fs)->X.iX.heap.FunFrames X.base l->s.heap.FunFrames X.base l:=by
  intro l;induction l with
  |nil=>intro _ _;trivial
  |cons g r k=>
   intro f hl;obtain⟨h,⟨L,o,d,i,j,hd⟩,hr⟩:=hl;have a:L∈X.fs:=f L (by unfold yJ;rw[pD,d];exact Ļ);obtain⟨m,e⟩:=I.base.slot L o j (I.ok.JQ L a) a λz=>I.ok.zH L z a;exact⟨h,⟨L,_,d,i,e,hd⟩,k (λb c=>f b (by unfold yJ;rw[pD,d];exact ÿ _ c)) hr⟩
 exact all X.outer (λ_ c=>c) I.ok.nQ
theorem Inv.stack (I:Inv X ø σ H s):s.heap.FunFrames X.base X.stack:=by
 rcases I.ok.QE with e|⟨e,a⟩
 ·rw[e];exact I.nQ
 ·rw[e];obtain⟨m,b,_⟩:=I.loc;refine .cons (by rw[I.ok.kind];decide) a b ?_ I.nQ;exact Heap.get?_none_of_le (ł I.ok.Et I.ok.above)
def Inv.Co (I:Inv X ø σ H s):∀b∈yJ X.stack,b∈X.env.locals::X.fs:=λb a=>by
 rcases I.ok.QE with e|⟨e,c⟩
 ·rw[e]at a;exact ÿ _ a
 ·rw[e]at a;unfold yJ at a;rw[pD,c]at a;exact a
def Inv.sE (I:Inv X ø σ H s):∀b∈yJ X.stack,H b=none:=λb hb=>by
 rcases ò.mp (I.Co b hb)with e|hb
 ·rw[e];exact I.free
 ·obtain⟨_,o,a,_⟩:=I.ok.nQ.mem hb;exact I.base.free b o a (I.ok.JQ b hb) λz=>I.ok.zH b z hb
def Inv.step {g':Č GenState}{t':Nat}{d':Drawn}{ch:Â Addr}(I:Inv X ø σ H s)
  (h:∀b∈ch,(b∈X.ex∨X.iX.heap.objs.size<=b)/\b≠X.env.locals/\(∀x c,X.env.cells.lookup x=À c->c≠b)/\∀p∈X.pn++ø,p.1≠b)
  (j:∀b o,b≠X.env.locals->b∉X.fs->b∉ch->s.heap.get? b=À o->H b=none->h'.get? b=À o)
  (B:∀b o,b≠X.env.locals->b∈X.fs->b∉ch->s.heap.get? b=À o->H b=none->∃Q,h'.get? b=À {o with slots:=Q}) (f:∀b o,b∉ch->s.heap.get? b=À o->H b=none->H' b=none)
  (D:∀b o,b∉ch->s.heap.get? b=À o->∃M,h'.get? b=À M)
  (O:∀b xs,H b=À (.tup xs)->H' b=À (.tup xs)) (J:∀b o u,H b=À (.hY o u)->H' b=À (.hY o u)) (N:∀b ps,H b=À (.pH ps)->∃more,H' b=À (.pH (ps++more)))
  (ns:∀m,s.heap.Ns X.env.locals m->h'.Ns X.env.locals m) (P:ly X.prog X.w H' h') (hg:md g') :
  Inv X ø σ H' {s with heap:=h',gens:=g',drawn:=d',toks:=t'}:=by
 have L:∀b o,X.iX.heap.get? b=À o->b≠X.env.locals:=λb o e=>ï (æ (Ï e) I.ok.above);have A:∀b o,X.iX.heap.get? b=À o->b∉X.ex->b∉ch:=λb o e a C=>by
  rcases(h b C).1 with z|z
  ·exact a z
  ·exact absurd (æ (Ï e) z) (Ŝ _)
 have g:∀x c,X.env.cells.lookup x=À c->∀v,s.heap.IsCell c v->h'.IsCell c v:=λx c e v ⟨o,E,hd⟩=>by
  have t:c∉ch:=λz=>(h c z).2.2.1 x c e rfl;by_cases U:c∈X.fs
  ·obtain⟨Q,q⟩:=B c o (I.UE x c e) U t E (I.iH x c e);exact⟨_,q,hd⟩
  ·exact⟨o,j c o (I.UE x c e) U t E (I.iH x c e),hd⟩
 refine⟨I.ok,I.os,hg,⟨λb o e n C a=>?_,λb o e n C a=>?_,λb o e n a=>?_,λb o e a=>?_,λb xs e=>O b xs (I.base.jR b xs e),λb o xs e=>J b o xs (I.base.iI b o xs e),λb ps e=>?_⟩,?_,λx c e=>?_,?_,λx c e=>?_,λp Y=>?_,P,I.len⟩
 ·exact j b o (L b o e) C (A b o e a) (I.base.keep b o e n C a) (I.base.free b o e n a)
 ·obtain⟨Q,y⟩:=I.base.slot b o e n C a;obtain⟨T,F⟩:=B b _ (L b o e) C (A b o e a) y (I.base.free b o e n a);exact⟨T,F⟩
 ·obtain⟨M,y⟩:=I.base.there b o e a;exact f b M (A b o e a) y (I.base.free b o e n a)
 ·obtain⟨M,y⟩:=I.base.there b o e a;exact D b M (A b o e a) y
 ·obtain⟨m1,y⟩:=I.base.uI b ps e;obtain⟨m2,F⟩:=N b _ y;exact⟨m1++m2,by rw[F,Array.append_assoc]⟩
 ·obtain⟨m,hn,hl⟩:=I.loc;refine⟨m,ns m hn,λi x v y F e3=>?_⟩;obtain⟨u,r,l⟩:=hl i x v y F e3;refine⟨u,r,?_⟩;rcases l with l|⟨k,c,e,z⟩
  ·exact .inl l
  ·exact .inr ⟨k,c,e,g x c e _ z⟩
 ·obtain⟨v,z⟩:=I.cell x c e;exact⟨v,g x c e v z⟩
 ·obtain⟨m,⟨o,_,_,E,_⟩,_⟩:=I.loc;exact f _ o (λz=>(h _ z).2.1 rfl) E I.free
 ·obtain⟨v,o,E,hd⟩:=I.cell x c e;exact f c o (λz=>(h c z).2.2.1 x c e rfl) E (I.iH x c e)
 ·obtain⟨e,n,Z,nf,d⟩:=I.pin p Y;have t:p.1∉ch:=λz=>(h p.1 z).2.2.2 p Y rfl;exact⟨j p.1 p.2 Z nf t e n,f p.1 p.2 t e n,Z,nf,d⟩
def Inv.un {t':Nat}(I:Inv X ø σ H s)(u:Un X.fs [] H H' s.heap h')(g:ly X.prog X.w H' h'):Inv X ø σ H' {s with heap:=h',toks:=t'}:=by
 obtain⟨m,⟨o,p,l,h,r⟩,_⟩:=id I.loc;obtain⟨v,i⟩:=u.any h I.free (by simp);exact I.step (g':=s.gens) (d':=s.drawn) (ch:=[]) (λ_ z=>nomatch z) (λb o _ f _ e n=>u.keep b o e n f (by simp)) (λb o _ f _ e n=>u.slot b o e n f (by simp)) (λb o _ e n=>u.free b o e n (by simp)) (λb o _ e=>u.there b o e (by simp)) u.jR u.iI u.uI (λq j=>by
  obtain⟨t,d,c,a,k⟩:=j;rw[h]at a;cases a;exact⟨_,d,c,i,k⟩) g I.bare
def Inv.call {g':Č GenState}{t':Nat}{d':Drawn}{ch:Â Addr}(I:Inv X ø σ H s)(u:Un (yJ X.stack) ch H H' s.heap h') (j:ly X.prog X.w H' h')(q:md g')
  (d:∀b∈ch,(b∈X.ex∨X.iX.heap.objs.size<=b)/\b≠X.env.locals/\(∀x c,X.env.cells.lookup x=À c->c≠b)/\∀p∈X.pn++ø,p.1≠b) :
  Inv X ø σ H' {s with heap:=h',gens:=g',drawn:=d',toks:=t'}:=by
 obtain⟨m,⟨o,A,y,k,r⟩,_⟩:=id I.loc;obtain⟨D,i⟩:=u.any k I.free λz=>(d _ z).2.1 rfl;exact I.step (ch:=ch) d (λb o i l a e n=>u.keep b o e n (λz=>(ò.mp (I.Co b z)).elim i l) a) (λb o _ _ a e n=>u.any e n a) (λb o a e n=>u.free b o e n a) (λb o a e=>u.there b o e a) u.jR u.iI u.uI (λB t=>by
  obtain⟨C,h,g,f,v⟩:=t;rw[k]at f;cases f;exact⟨_,h,g,i,v⟩) j q
def Inv.turned {t':Nat}{a:Addr}(I:Inv X ø σ H s)(k:∀b o,b≠a->s.heap.get? b=À o->h'.get? b=À o)(A:H a=none)(g:a≠X.env.locals)
  (j:a∈X.ex∨X.iX.heap.objs.size<=a) (l:∀x c,X.env.cells.lookup x=À c->c≠a) (t:∀p∈X.pn++ø,p.1≠a):Inv X ø σ H {s with heap:=h',toks:=t'}:=by
 have f:∀b u,H b=À u->b≠a:=λb u e z=>by rw[z,A]at e;cases e
 refine I.step (g':=s.gens) (d':=s.drawn) (ch:=[a]) (λb w=>?_) (λb o _ _ d e _=>k b o (λz=>d (by simp[z])) e) (λb o _ _ d e _=>⟨o.slots,k b o (λz=>d (by simp[z])) e⟩) (λ_ _ _ _ n=>n)
  (λb o d e=>⟨o,k b o (λz=>d (by simp[z])) e⟩) (λ_ _ e=>e) (λ_ _ _ e=>e) (λb C e=>⟨#[],by rw[e];simp⟩) (λm y=>?_) (λb u e=>?_) I.bare
 ·have e:b=a:=by simpa using w
  subst e;exact⟨j,g,l,t⟩
 ·obtain⟨o,i,h,B,r⟩:=y;exact⟨o,i,h,k _ o (ő g) B,r⟩
 ·refine(I.Ů b u e).pq (λc v d q=>k c v ?_ q) (λ_ q=>q) λ_ _ q=>q;rcases d with z|z
  ·rw[z];exact f b u e
  ·exact f c _ z
def Inv.tok (I:Inv X ø σ H s)(t:Nat):Inv X ø σ H {s with toks:=t}:=I.un (h':=s.heap) (t':=t) Un.refl I.Ů
theorem Inv.kept (I:Inv X ø σ H s)(k:∀b u,s.heap.get? b=À u->h'.get? b=À u):Inv X ø σ H {s with heap:=h',toks:=t'}:=I.un (Un.kept k) (I.Ů.kept k)
theorem Inv.laid (I:Inv X ø σ H s)(k:∀b u,s.heap.get? b=À u->h'.get? b=À u)(c:s.heap.objs.size<=a)(d:š X.prog X.w (upd H a o) h' a o) :
  Inv X ø σ (upd H a o) {s with heap:=h',toks:=t'}:=I.un (Un.laid k c (I.Ů.fresh c)) (I.Ů.laid k c d)
theorem Inv.write (I:Inv X ø σ H s)(f:Q6 (H x)) (d:e=x∨H e=À (.own x)) (k:∀b u,b≠e->s.heap.get? b=À u->h'.get? b=À u)(a:∃u,h'.get? e=À u)
  (c:š X.prog X.w (upd H x o) h' x o):Inv X ø σ (upd H x o) {s with heap:=h',toks:=t'}:=I.un (Un.write f d k a) (I.Ů.write f d k a c)
def Inv.DC (I:Inv X ø σ H s)(h:∀p∈a,s.heap.get? p.1=À p.2/\H p.1=none/\p.1≠X.env.locals/\p.1∉X.fs/\∀v,p.2.data≠.cell v):Inv X a σ H s:=
 ⟨I.ok,I.os,I.bare,I.base,I.loc,I.cell,I.free,I.iH,λp b=>(aU.mp b).elim (λz=>I.pin p (dN _ z)) (h p),I.Ů,I.len⟩
def ui {N:Â Str}(e:N.Nodup){i j:Nat}{x:Str}(a:N[i]?=À x)(b:N[j]?=À x):i=j:=by
 obtain⟨f,c⟩:=Æ.mp a;obtain⟨g,d⟩:=Æ.mp b;exact(ee e).mp (c.trans d.symm)
def wu {M:Model}{A:Ŕ}{E:Value->Ô->Prop}{i:Nat}{x:Str}{v:V}{u:Value}{Q:Unit->Ô->Prop}(I:Inv X ø σ H s)(hN:X.N.Nodup)(Y:X.N[i]?=À x)(t:Loc X.env.scope x)(r:RelV v u)
  (h:∀s',Inv X ø (σ.set i (À v)) H s'->(∃a,d_ a s.heap s'.heap/\(a=X.env.locals∨X.env.cells.lookup x=À a))->Q () s') (hf:X.fn x=true∨X.env.scope.names.lookup x=À .local:=by first|exact .inl rfl|exact .inr rfl|assumption):Ø M A (Vk X.env x u) Q E s:=by
 obtain⟨m,hn,hl⟩:=id I.loc;have U:(X.env.scope.kind == .class||(X.env.scope.kind == .module&&X.env.locals != X.env.globals))=false:=by rw[I.ok.kind];rfl
 have D:i<σ.length:=by rw[I.len];exact(Æ.mp Y).1
 have F:=I.UE;have l:∀{a:Addr}{h':Heap},(∃o,s.heap.get? a=À o/\H a=none)->d_ a s.heap h'->ly X.prog X.w H h':=λ{a h'} ha f b ob e=>by
  obtain⟨_,_,B⟩:=ha;refine(I.Ů b ob e).pq (λc w' hc q=>(f.2 c ?_).trans q) (λ_ q=>q) λ_ _ q=>q;rintro rfl;rcases hc with rfl|hc
  ·rw[B]at e;cases e
  ·rw[B]at hc;cases hc
 rcases t with hk|hk
 ·refine wpAny_storeName_local hk hn (λh' hn' f=>?_) U;obtain⟨oL,_,_,hoL,_⟩:=id hn;refine h _ ⟨I.ok,I.os,I.bare,⟨λb o e n J t=>?_,λb o e n J t=>?_,I.base.free,λb o e t=>?_,I.base.jR,I.base.iI,I.base.uI⟩,⟨_,hn',λj y v' g C e3=>?_⟩,λy c e=>?_,I.free,I.iH,λp hp=>?_,l ⟨oL,hoL,I.free⟩ f,by simpa using I.len⟩ ⟨_,f,.inl rfl⟩
  ·exact(f.2 b (ï (æ (Ï e) I.ok.above))).trans (I.base.keep b o e n J t)
  ·obtain⟨sl,g⟩:=I.base.slot b o e n J t;exact⟨sl,(f.2 b (ï (æ (Ï e) I.ok.above))).trans g⟩
  ·obtain⟨o',g⟩:=I.base.there b o e t;exact⟨o',(f.2 b (ï (æ (Ï e) I.ok.above))).trans g⟩
  ·by_cases O:j=i
   ·subst O;rw[Y]at g;cases g;rw[Ć D]at C;cases C;exact⟨u,r,.inl ⟨hk,by simp⟩⟩
   ·rw[ì (ő O)]at C;obtain⟨u',r',q⟩:=hl j y v' g C e3;refine⟨u',r',?_⟩;rcases q with⟨k,e⟩|⟨k,c,e,z⟩
    ·refine .inl ⟨k,?_⟩;have:y≠x:=λe=>O (ui hN g (e▸Y));simp[this,e]
    ·exact .inr ⟨k,c,e,z.sameBut f (F y c e)⟩
  ·obtain⟨w',z⟩:=I.cell y c e;exact⟨w',z.sameBut f (F y c e)⟩
  ·obtain⟨e,n,ne,nf,d⟩:=I.pin p hp;exact⟨(f.2 p.1 ne).trans e,n,ne,nf,d⟩
 ·have L:X.fn x=true:=by
   rcases hf with z|z
   ·exact z
   ·rw[z]at hk;cases hk
  obtain⟨c,hc⟩:=I.ok.has x (.inl hk);obtain⟨w',z⟩:=I.cell x c hc;refine wpAny_storeName_cell I.ok.kind hk hc z (λh' P f=>?_);obtain⟨oc,Z,VW⟩:=id z;refine h {s with heap:=h'} ⟨I.ok,I.os,I.bare,⟨λb o e n J t=>?_,λb o e n J t=>?_,I.base.free,λb o e t=>?_,I.base.jR,I.base.iI,I.base.uI⟩,⟨m,hn.sameBut f (ő (F x c hc)),λj y v' g C e3=>?_⟩,λy c' e=>?_,I.free,I.iH,λp hp=>?_,l ⟨oc,Z,I.iH x c hc⟩ f,by simpa using I.len⟩ ⟨c,f,.inr hc⟩
  ·exact(f.2 b (ï (æ (Ï e) (I.ok.MX x c L hc)))).trans (I.base.keep b o e n J t)
  ·obtain⟨sl,g⟩:=I.base.slot b o e n J t;exact⟨sl,(f.2 b (ï (æ (Ï e) (I.ok.MX x c L hc)))).trans g⟩
  ·obtain⟨o',g⟩:=I.base.there b o e t;exact⟨o',(f.2 b (ï (æ (Ï e) (I.ok.MX x c L hc)))).trans g⟩
  ·by_cases O:j=i
   ·subst O;rw[Y]at g;cases g;rw[Ć D]at C;cases C;exact⟨u,r,.inr ⟨.inl hk,c,hc,P⟩⟩
   ·rw[ì (ő O)]at C;obtain⟨u',r',q⟩:=hl j y v' g C e3;refine⟨u',r',?_⟩;rcases q with q|⟨k,c',e,z'⟩
    ·exact .inl q
    ·refine .inr ⟨k,c',e,z'.sameBut f ?_⟩;rintro rfl;exact O (ui hN g (I.ok.inj _ _ _ e hc▸Y))
  ·by_cases T:c'=c
   ·subst T;exact⟨_,P⟩
   ·obtain⟨w2,z2⟩:=I.cell y c' e;exact⟨w2,z2.sameBut f T⟩
  ·obtain⟨e,n,ne,nf,d⟩:=I.pin p hp;refine⟨(f.2 p.1 ?_).trans e,n,ne,nf,d⟩;intro q;rw[q,Z]at e;have q':oc=p.2:=ã e;exact d w' (by rw[<-q'];exact VW)
def fy (I:Inv X ø σ H s)(a:X.N.Nodup)(c:X.N[i]?=À x)(d:Loc X.env.scope x)(r:RelV v u)
  (h:∀s',Inv X ø (σ.set i (À v)) H s'->Q () s') (b:X.fn x=true∨X.env.scope.names.lookup x=À .local:=by first|exact .inl rfl|exact .inr rfl|assumption):Ø M A (Vk X.env x u) Q E s:=
 wu I a c d r (λs' B _=>h s' B) b
def Inv.RN (I:Inv X ø σ H s)(g:s'.os=s.os)(u:Un (yJ X.stack) ch H H' s.heap s'.heap) (d:ly X.prog X.w H' s'.heap)(f:md s'.gens)
  (a:∀b∈ch,(b∈X.ex∨X.iX.heap.objs.size<=b)/\b≠X.env.locals/\(∀x c,X.env.cells.lookup x=À c->c≠b)/\∀p∈X.pn++ø,p.1≠b):Inv X ø σ H' s':=by
 obtain⟨h',g',d',t',h⟩:=s';have e:h=s.os:=g;subst e;exact I.call (g':=g') (t':=t') (d':=d') u d f a
end
abbrev XK:=Value->É Addr->Hp->Prop
abbrev St:=Â (É V)
abbrev VK:=V->Hp->Prop
abbrev TE:=St->Hp->VK->Prop
abbrev TT:=St->Hp->(Bool->Hp->Prop)->Prop
abbrev TA:=St->Hp->(Â V->Hp->Prop)->Prop
structure Ends where
 nx:St->Hp->Prop
 rt:VK
 bk:St->Hp->Prop:=λ_ _=>False
 ct:St->Hp->Prop:=λ_ _=>False
abbrev TS:=Ends->St->Hp->Prop
def EP (X:Cx)(a:Â (Addr×Obj)) (b:St)(Q:VK)(u:Value)(s':Ô):Prop:=∃v A,Inv X a b A s'/\RelV v u/\Q v A
def TP (X:Cx)(a:Â (Addr×Obj)) (c:St)(Q:Bool->Hp->Prop)(b:Bool)(s':Ô):Prop:=∃A,Inv X a c A s'/\Q b A
def AP (X:Cx)(a:Â (Addr×Obj)) (c:St)(Q:Â V->Hp->Prop)(us:Â Value)(s':Ô):Prop:=∃b A,Inv X a c A s'/\Vals b us/\Q b A
def SP (X:Cx)(b:Â (Addr×Obj)) (D:Ends)(f:Flow)(s':Ô):Prop:=
 match f with
 |.next=>∃a A,Inv X b a A s'/\D.nx a A
 |.brk=>∃a A,Inv X b a A s'/\D.bk a A
 |.cont=>∃a A,Inv X b a A s'/\D.ct a A
 |.ret u=>∃v a A,Inv X b a A s'/\RelV v u/\D.rt v A
def PE (X:Cx)(e:Expr)(t:TE):Prop:=
 ∀(a:Â (Addr×Obj)) (s:Ô) (b:St) (H:Hp) (Q:VK),Inv X a b H s->t b H Q->Ø (Û X.prog X.w) X.A (ģ e X.env) (EP X a b Q) X.xe s
def PT (X:Cx)(e:Expr)(t:TT):Prop:=
 ∀(a:Â (Addr×Obj)) (s:Ô) (b:St) (H:Hp) (Q:Bool->Hp->Prop),Inv X a b H s->t b H Q->Ø (Û X.prog X.w) X.A (Ek e X.env (ģ e X.env)) (TP X a b Q) X.xe s
def PW (X:Cx)(e:Expr)(t:TT):Prop:=
 ∀(b:X5 Value) (a:Â (Addr×Obj)) (s:Ô) (c:St) (H:Hp) (Q:Bool->Hp->Prop),Inv X a c H s->t c H Q->Ø (Û X.prog X.w) X.A (Ek e X.env b) (TP X a c Q) X.xe s
def PW.pt (h:PW X e t):PT X e t:=h _
def PA (X:Cx)(c:Â Expr)(t:TA):Prop:=
 ∀(pos:jA) (a:Â (Addr×Obj)) (s:Ô) (b:St) (H:Hp) (Q:Â V->Hp->Prop),Inv X a b H s->t b H Q->Ø (Û X.prog X.w) X.A (spliced (ĺ pos (Î c X.env))) (AP X a b Q) X.xe s
def PS (X:Cx)(st:Stmt)(t:TS):Prop:=
 ∀(a:Â (Addr×Obj)) (s:Ô) (b:St) (H:Hp) (D:Ends),Inv X a b H s->t D b H->Ø (Û X.prog X.w) X.A (exec st X.env) (SP X a D) X.xe s
def lH (X:Cx)(st:Â Stmt)(t:TS):Prop:=
 ∀(a:Â (Addr×Obj)) (s:Ô) (b:St) (H:Hp) (D:Ends),Inv X a b H s->t D b H->Ø (Û X.prog X.w) X.A (execs st X.env) (SP X a D) X.xe s
def iv {α g:Type}{a b c:α->g->Prop}{P:Prop}(h:∃x y,a x y/\b x y/\c x y)(k:∀x y,a x y->b x y->c x y->P):P:=by
 obtain⟨x,y,d,e,f⟩:=h;exact k x y d e f
def au (h:Ø M A t Q E s)(b:∀a s,Q a s->B a s):Ø M A t B E s:=aw h b λ_ _ x=>x
section
variable {X:Cx}
def QM (i:Nat):TE:=λa H Q=>∃v,a[i]?=À (À v)/\Q v H
def tC (v:V):TE:=λ_ H Q=>Q v H
def P5 (j:X.N[i]?=À x)(o:UB X.env.scope x)(hd:(x == ("__debug__":Str))=false:=by decide) (f:(x == ("__classdict__":Str))=false:=by decide):PE X (.Name x pos) (QM i):=by
 intro d s p H Q I h;obtain⟨v,e,h⟩:=h;obtain⟨m,n,hl⟩:=I.loc;obtain⟨u,r,l⟩:=hl i x v j e o;have b:EP X d p Q u s:=⟨v,H,I,r,h⟩
 rcases l with⟨hk,k⟩|⟨hk,c,g,a⟩
 ·exact Ep (rx I.ok.kind hk n k b) hd
 ·rcases hk with hk|hk
  ·exact Ep (Q1 I.ok.kind hk g a b) hd
  ·exact Ep (wpAny_loadName_free I.ok.kind hk g a b f) hd
def PZ:PE X (.Constant (.int i) j pos) (tC (.int i)):=λ_ _ _ H _ I h=>Ry ⟨.int i,H,I.tok _,⟨_,rfl⟩,h⟩
def S9:PE X (.Constant (.bool b) j pos) (tC (.bl b)):=λ_ _ _ H _ I h=>Constant_bool ⟨.bl b,H,I,rfl,h⟩
def P1:PE X (.Constant .none j pos) (tC .Ě):=λ_ _ _ H _ I h=>Constant_none ⟨.Ě,H,I,rfl,h⟩
def P4:PE X (.Constant (.str x) j pos) (tC (.str x)):=λ_ _ _ H _ I h=>Calls.Constant_str ⟨.str x,H,I.tok _,⟨_,rfl⟩,h⟩
def Gl (X:Cx)(x:Str):Prop:=X.env.kindOf x=À .globalImplicit
def oR (I:Inv X a d H s)(b:Gl X x)(c:X.mg x=À u)(h:Q u s)
  (hd:(x == ("__debug__":Str))=false:=by decide):Ø (Û X.prog X.w) X.A (ģ (.Name x pos) X.env) Q E s:=
 wD I.ok.kind b (Calls.loadGlobal_global (by rw[I.ok.glob];exact I.mod.glob.keeps I.bk) c h) hd
def qj (I:Inv X a j H s)(d:Gl X x)(e:X.mg x=none)(g:Ĳ x=À u)(h:Q u s)
  (f:x≠"__name__":=by decide) (hd:(x == ("__debug__":Str))=false:=by decide):Ø (Û X.prog X.w) X.A (ģ (.Name x pos) X.env) Q E s:=by
 obtain⟨i,b,c⟩:=I.mod.blt;exact wD I.ok.kind d (Calls.loadGlobal_builtin (by rw[I.ok.glob];exact I.mod.glob.keeps I.bk) e (by rw[I.ok.blt];exact b.keeps I.bk) ((c x f).trans g) h) hd
def x_ (a:Gl X x)(b:X.mg x=À u)(r:RelV v u)(hd:(x == ("__debug__":Str))=false:=by decide):PE X (.Name x pos) (tC v):=
 λ_ _ _ H _ I h=>oR I a b ⟨v,H,I,r,h⟩ hd
def LH (a:Gl X x)(b:X.mg x=none)(d:Ĳ x=À u)(r:RelV v u)(c:x≠"__name__":=by decide)(hd:(x == ("__debug__":Str))=false:=by decide):PE X (.Name x pos) (tC v):=
 λ_ _ _ H _ I h=>qj I a b d ⟨v,H,I,r,h⟩ c hd
variable {a b:Expr}{ta tb:TE}{pos:jA}
def PC (X:Cx)(op:CmpOp)(a b:Expr)(t:TE):Prop:=
 ∀(c:Â (Addr×Obj)) (s:Ô) (f:St) (H:Hp) (Q:VK),Inv X c f H s->t f H Q->
  Ø (Û X.prog X.w) X.A (ģ a X.env) (λv d=>Ø (Û X.prog X.w) X.A (ģ b X.env) (λu e=>Ø (Û X.prog X.w) X.A (ņ op v u) (EP X c f Q) X.xe e) X.xe d) X.xe s
def Ac (b:Expr)(h:op≠.In)(e:op≠.NotIn):ao op b=false:=by
 have c:(op == CmpOp.In)=false:=by cases op<;>first|rfl|exact absurd rfl h
 have d:(op == CmpOp.NotIn)=false:=by cases op<;>first|rfl|exact absurd rfl e
 cases b<;>simp[ao,c,d]
def tB (t:TE):TT:=λd H Q=>t d H λx A=>∃c,x=.bl c/\Q c A
def PV (h:PC X op a b t)(d:ao op b=false:=by first|exact Ac _ (by decide) (by decide)|rfl):PE X (.Compare a [op] [b] pos) t:=λc s e H Q I hw=>Y8 (h c s e H Q I hw) d
def B7 (h:PC X op a b t)(f:ao op b=false:=by first|exact Ac _ (by decide) (by decide)|rfl):PT X (.Compare a [op] [b] pos) (tB t):=by
 intro e s l H Q I hw;refine MQ (au (h e s l H _ I hw) λv m f=>au f λu n g=>au g λc o k=>iv k λx A B j i=>?_) f;obtain⟨d,rfl,q⟩:=i;cases j;exact cf ⟨A,B,q⟩
variable {tA tB':TT}{rest:Â Expr}
def WZ (t u:TT):TT:=λd H Q=>t d H λc A=>if c=true then u d A Q else Q false A
def tOr (t u:TT):TT:=λd H Q=>t d H λc A=>if c=true then Q true A else u d A Q
def Xf (t:TT):TT:=λd H Q=>t d H λc A=>Q (!c) A
def pw_and1 (f:PT X a tA):PW X (.BoolOp .And [a] pos) tA:=by
 intro j d s g H Q I h;refine isTrue_and (au (f d s g H Q I h) λc i e=>?_);cases c with
 |true=>exact isTrue_and_nil e
 |false=>exact e
def pw_or1 (f:PT X a tA):PW X (.BoolOp .Or [a] pos) tA:=by
 intro j d s g H Q I h;refine isTrue_or (au (f d s g H Q I h) λc i e=>?_);cases c with
 |false=>exact isTrue_or_nil e
 |true=>exact e
def pw_and (g:PT X a tA)(i:PW X (.BoolOp .And (b::rest) pos) tB'):PW X (.BoolOp .And (a::b::rest) pos) (WZ tA tB'):=by
 intro k d s f H Q I h;refine isTrue_and (au (g d s f H _ I h) λc j l=>?_);obtain⟨A,B,e⟩:=l;cases c with
 |true=>exact i k d j f A Q B e
 |false=>exact⟨A,B,e⟩
def pw_or (g:PT X a tA)(i:PW X (.BoolOp .Or (b::rest) pos) tB'):PW X (.BoolOp .Or (a::b::rest) pos) (tOr tA tB'):=by
 intro k d s f H Q I h;refine isTrue_or (au (g d s f H _ I h) λc j l=>?_);obtain⟨A,B,e⟩:=l;cases c with
 |true=>exact⟨A,B,e⟩
 |false=>exact i k d j f A Q B e
def Qh (e:PT X a tA):PT X (.UnaryOp .Not a pos) (Xf tA):=by
 intro d s f H Q I h;exact isTrue_not (e d s f H (λc A=>Q (!c) A) I h)
def TB (ta tb:TE):TE:=λd H Q=>ta d H λx A=>∃c,x=.bl c/\if c=true then tb d A Q else Q (.bl false) A
def Xg (ta tb:TE):TE:=λd H Q=>ta d H λx A=>∃c,x=.bl c/\if c=true then Q (.bl true) A else tb d A Q
def TR (ta:TE):TE:=λd H Q=>ta d H λx A=>∃c,x=.bl c/\Q (.bl (!c)) A
def PR (g:PE X a ta)(i:PE X (.BoolOp .And (b::rest) pos) tb):PE X (.BoolOp .And (a::b::rest) pos) (TB ta tb):=by
 intro d s f H Q I h;refine BoolOp_and (au (g d s f H _ I h) λv k l=>iv l λx A B j e=>?_);obtain⟨c,rfl,e⟩:=e;cases j;refine cf ?_;cases c with
 |true=>exact i d k f A Q B e
 |false=>exact⟨.bl false,A,B,rfl,e⟩
def Tb (g:PE X a ta)(i:PE X (.BoolOp .Or (b::rest) pos) tb):PE X (.BoolOp .Or (a::b::rest) pos) (Xg ta tb):=by
 intro d s f H Q I h;refine BoolOp_or (au (g d s f H _ I h) λv k l=>iv l λx A B j e=>?_);obtain⟨c,rfl,e⟩:=e;cases j;refine cf ?_;cases c with
 |false=>exact i d k f A Q B e
 |true=>exact⟨.bl true,A,B,rfl,e⟩
def P2 (f:PE X a ta):PE X (.UnaryOp .Not a pos) (TR ta):=by
 intro d s j H Q I h;refine UnaryOp_ (au (f d s j H _ I h) λv k i=>iv i λx A B g e=>?_);obtain⟨c,rfl,e⟩:=e;cases g;exact not_of (cf ⟨.bl (!c),A,B,rfl,e⟩)
def tIf (t:TT)(ta tb:TE):TE:=λd H Q=>t d H λc A=>if c=true then ta d A Q else tb d A Q
def Ic (l:PT X c tA)(j:PE X a ta)(k:PE X b tb):PE X (.IfExp c a b pos) (tIf tA ta tb):=by
 intro e s f H Q I h;refine wpAny_IfExp (au (l e s f H _ I h) λd i m=>?_);obtain⟨A,B,g⟩:=m;cases d with
 |true=>exact j e i f A Q B g
 |false=>exact k e i f A Q B g
end
def gM (K:Ç)(H:Hp)(a:Addr)(xs:Â V):Prop:=
 Rd H a (.lst xs)∨
  ∃o b n,K.lookup a=À o/\o.cls=.type "list"/\o.dict=none/\o.data=.seq b n/\b.size<=sizeLine/\Vals xs b.toList
def gp (K:Ç)(H:Hp)(a:Addr)(xs:Â V):Prop:=
 Rd H a (.tup xs)∨
  ∃o b n,K.lookup a=À o/\o.cls=.type "tuple"/\o.data=.seq b n/\b.size<=sizeLine/\Vals xs b.toList
noncomputable def Vs:Value->É V
 |.none=>À .Ě
 |.bool b=>À (.bl b)
 |.int i _=>À (.int i)
 |.str x _=>À (.str x)
 |.bytes b _=>À (.Bm b)
 |.float b _=>À (.M0 b)
 |.ref a=>À (.ref a)
 |.type n=>À (.ty n)
 |_=>none
def RelV.abs (r:RelV x u):Vs u=À x:=by
 cases x with
 |Ě=>cases r;rfl
 |bl _=>cases r;rfl
 |int _=>obtain⟨t,rfl⟩:=r;rfl
 |str _=>obtain⟨t,rfl⟩:=r;rfl
 |Bm _=>obtain⟨t,rfl⟩:=r;rfl
 |M0 _=>obtain⟨t,rfl⟩:=r;rfl
 |ref _=>cases r;rfl
 |ty _=>cases r;rfl
theorem RelV.inj (r:RelV x u)(q:RelV y u):x=y:=ã (r.abs.symm.trans q.abs)
theorem Vals.inj:∀{xs ys:Â V}{us:Â Value},Vals xs us->Vals ys us->xs=ys
 |_,_,_,.nil,.nil=>rfl
 |_,_,_,.cons r t,.cons a b=>by rw[r.inj a,Vals.inj t b]
section
variable {X:Cx}{ø:Â (Addr×Obj)}{σ:St}{H:Hp}{s:Ô}{a:Addr}{xs ys:Â V}
def gM.of {K:Ç}(h:H a=À (.lst xs)):gM K H a xs:=.inl (.inl h)
def gp.of {K:Ç}(h:H a=À (.tup xs)):gp K H a xs:=.inl (.inl h)
def Inv.list (I:Inv X ø σ H s)(h:gM X.K H a xs):∃its:Â Value,Vals xs its/\PlainL s.heap a its.toArray/\xs.length<=sizeLine:=by
 rcases h with h|⟨o,its,n,c,b,hd,d,f,r⟩
 ·obtain⟨z,its,n,r,e⟩:=h.ok I.Ů;exact⟨its,r,⟨_,n,e,rfl,rfl,rfl⟩,z⟩
 ·refine⟨its.toList,r,⟨o,n,I.kG a o c,b,hd,by simpa using d⟩,?_⟩;have e:=r.length;simp only[Į]at e;lia
def Inv.tuple (I:Inv X ø σ H s)(h:gp X.K H a xs):∃its:Â Value,Vals xs its/\Jx s.heap a its.toArray/\xs.length<=sizeLine:=by
 rcases h with h|⟨o,its,n,c,b,d,f,r⟩
 ·obtain⟨z,its,r,p⟩:=h.ok I.Ů;exact⟨its,r,p,z⟩
 ·refine⟨its.toList,r,⟨o,I.kG a o c,b,n,by simpa using d⟩,?_⟩;have e:=r.length;simp only[Į]at e;lia
def Inv.uc (I:Inv X ø σ H s)(h:gM X.K H a xs)(h':gM X.K H a ys):xs=ys:=by
 obtain⟨c,r,⟨o,n,e,_,_,d⟩,_⟩:=I.list h;obtain⟨b,i,⟨k,j,g,_,_,f⟩,_⟩:=I.list h';rw[e]at g;cases g;rw[d]at f;injection f with d1 _
 have:c=b:=by simpa using à A3 d1
 subst this;exact r.inj i
def Inv.qH (I:Inv X ø σ H s)(h:gp X.K H a xs)(h':gp X.K H a ys):xs=ys:=by
 obtain⟨c,r,⟨o,e,_,n,d⟩,_⟩:=I.tuple h;obtain⟨b,i,⟨k,g,_,j,f⟩,_⟩:=I.tuple h';rw[e]at g;cases g;rw[d]at f;injection f with d1 _
 have:c=b:=by simpa using à A3 d1
 subst this;exact r.inj i
end
section
variable {X:Cx}{ø:Â (Addr×Obj)}{σ:St}{H:Hp}{s:Ô}{E:Value->Ô->Prop}
end
section
variable {X:Cx}{st:Stmt}{rest:Â Stmt}{t u:TS}{e:Expr}{te:TE}{pos:jA}
def TQ:TS:=λD a H=>D.nx a H
def Xj (t u:TS):TS:=λD a H=>t {D with nx:=u D} a H
def L6:lH X [] TQ:=λ_ _ a H _ I h=>pG ⟨a,H,I,h⟩
def Iz (c:PS X st t)(d:lH X rest u):lH X (st::rest) (Xj t u):=by
 intro a s i H D I h;refine Vn (au (c a s i H {D with nx:=u D} I h) λf g q=>?_);cases f with
 |next=>
  obtain⟨b,A,B,q⟩:=q;exact d a g b A D B q
 |ret v=>exact q
 |brk=>exact q
 |cont=>exact q
def L7 (b:PS X st t):lH X [st] t:=by
 intro a s c H D I h;refine Vn (au (b a s c H D I h) λf d q=>?_);cases f with
 |next=>exact pG q
 |ret v=>exact q
 |brk=>exact q
 |cont=>exact q
def Inv.quiet (I:Inv X a b H s):interactive X.env=false:=by simp[interactive,I.ok.kind]
def TL (te:TE):TS:=λD a H=>te a H λ_ A=>D.nx a A
def L4 (c:PE X e te)(hs:fb e none pos.line X.env=pure false:=by rfl):PS X (.Expr e pos) (TL te):=by
 intro a s b H D I h;exact wpAny_Expr_any (au (c a s b H _ I h) λv i f=>iv f λx A B g d=>⟨b,A,B,d⟩) I.quiet hs
def Xi (te:TE):TS:=λD a H=>te a H D.rt
def Qe (c:PE X e te):PS X (.Return (À e) pos) (Xi te):=by
 intro a s b H D I h;exact wpAny_Return_some (au (c a s b H _ I h) λv i g=>iv g λx A B f d=>⟨x,b,A,B,f,d⟩)
def Xc (c:TT)(t u:TS):TS:=λD a H=>c a H λb A=>if b=true then t D a A else u D a A
def Te (m:PT X c n)(k:lH X a t)(l:lH X b u):PS X (.If c a b pos) (Xc n t u):=by
 intro f s g H D I h;refine wpAny_If (au (m f s g H _ I h) λd j o=>?_);obtain⟨A,B,i⟩:=o;cases d with
 |true=>exact k f j g A D B i
 |false=>exact l f j g A D B i
end
abbrev TG:=V->St->Hp->(St->Hp->Prop)->Prop
abbrev Q7:=Â V->St->Hp->(St->Hp->Prop)->Prop
def PG (X:Cx)(a:Expr)(t:TG):Prop:=
 ∀b s d H v u Q,Inv X b d H s->RelV v u->t v d H Q->
  Ø (Û X.prog X.w) X.A (kW a X.env u) (λ_ s'=>∃c B,Inv X b c B s'/\Q c B) X.xe s
def CM (X:Cx)(ts:Â Expr)(t:Q7):Prop:=
 ∀a s d H c us Q,Inv X a d H s->Vals c us->t c d H Q->
  Ø (Û X.prog X.w) X.A (mS ((di ts X.env).map (·.2)) us) (λ_ s'=>∃b B,Inv X a b B s'/\Q b B) X.xe s
abbrev RE:=V->V->V->Hp->(Hp->Prop)->Prop
def RC (X:Cx)(t:RE):Prop:=
 ∀a s d H o i v c b u Q,Inv X a d H s->RelV o c->RelV i b->RelV v u->t o i v H Q->
  Ø (Û X.prog X.w) X.A (Ul c b u) (λ_ s'=>∃B,Inv X a d B s'/\Q B) X.xe s
abbrev UA:=V->V->Hp->VK->Prop
def Uz (X:Cx)(op:Operator)(t:UA):Prop:=
 ∀a s b H x y v u Q,Inv X a b H s->RelV x v->RelV y u->t x y H Q->
  Ø (Û X.prog X.w) X.A (inplaceOp op v u) (EP X a b Q) X.xe s
section
variable {X:Cx}{pos:jA}
def C7 (i:Nat):TG:=λv a H Q=>Q (a.set i (À v)) H
def LO (b:X.N.Nodup)(d:X.N[i]?=À x)(e:Loc X.env.scope x)(c:X.fn x=true∨X.env.scope.names.lookup x=À .local:=by first|exact .inl rfl|exact .inr rfl|assumption):PG X (.Name x pos) (C7 i):=by
 intro a s f H v u Q I r h;exact Ur (fy I b d e r (λs' A=>⟨_,H,A,h⟩) c)
def VL:Q7:=λa b H Q=>a=[]/\Q b H
def R7 (t:TG)(u:Q7):Q7:=λb c H Q=>∃v r,b=v::r/\t v c H λa A=>u r a A Q
def LP:CM X [] VL:=by
 intro a s b H c us Q I r h;obtain⟨e,h⟩:=h;subst e;cases r;exact wK ⟨b,H,I,h⟩
def Ij (f:PG X e t)(g:CM X b u)
  (hs:(di (e::b) X.env).map (·.2)=kW e X.env::(di b X.env).map (·.2):=by rfl):CM X (e::b) (R7 t u):=by
 intro a s m H o us Q I r h;obtain⟨v,n,d,h⟩:=h;subst d;cases r with
 |cons r j=>
  rw[hs];refine dk (au (f a s m H _ _ _ I r h) λ_ k l=>?_);obtain⟨c,A,B,i⟩:=l;exact g a k c A _ _ Q B j i
def VO (K:Ç)(n:Nat)(t:Q7):TG:=λv b H Q=>∃a xs,v=.ref a/\gp K H a xs/\xs.length=n/\t xs b H Q
def P7 (l:X.calm=true)(h:CM X d t)
  (m:(di d X.env).length=n:=by rfl) (f:(di d X.env).findIdx? (·.1)=none:=by rfl):PG X (.Tuple d k pos) (VO X.K n t):=by
 intro c s g H v u Q I r hw;obtain⟨a,xs,i,p,hl,hw⟩:=hw;subst i;cases r;obtain⟨x,rv,q,y⟩:=I.tuple p;refine assign_Tuple_tuple (I.ok.hd l) q (by simp[m,<-hl,rv.length]) f λj w=>?_;have A:Inv X c g H {s with heap:=j}:=I.kept (t':=s.toks) λb o e=>w b o (ï (Ï e)) e;exact h c _ g H xs _ Q A (by simpa using rv) hw
def VN (c b:TE)(t:RE):TG:=λv a H Q=>c a H λo A=>b a A λi B=>t o i v B λC=>Q a C
def P6 (j:PE X o J)(g:PE X i z)(hs:RC X t)
  (f:∀v,kW (.Subscript o i pos) X.env v=(do
   let b <-e_ [v] (ģ o X.env);let c <-e_ [v,b] (ģ i X.env)
   j6 pos
   e_ [v,b,c] (Ul b c v)
   release [v,b,c] []):=by intro _;rfl):PG X (.Subscript o i pos) (VN J z t):=by
 intro a s e H v u Q I r h;rw[f];refine Ã (Ŏ (au (j a s e H _ I h) λb q d=>iv d λx A D n k=>?_));refine Ã (Ŏ (au (g a q e A _ D k) λc w d=>iv d λy B E p l=>?_));refine Ã (dS (Ã (Ŏ (au (hs a w e B x y v b c u _ E n p r l) λ_ L d=>?_))));obtain⟨C,F,m⟩:=d;exact wpAny_release ⟨e,C,F,m⟩
def Mq (b:TE)(g:TG):TS:=λD a H=>b a H λx A=>g x a A D.nx
def P' (f:PE X e m)(i:PG X b g)(hs:i0 [b] e pos.line X.env=pure false:=by rfl)(hw:iZ [b] e X.env=pure none:=by rfl)
  (d:(di [b] X.env).map (·.2)=[kW b X.env]:=by rfl):PS X (.Assign [b] e pos) (Mq m g):=by
 intro a s c H D I h;refine wpAny_Assign_stores (au (f a s c H _ I h) λv l n=>iv n λx A B k j=>?_) hs hw;rw[d];exact au (i a l c A x v _ B k j) λ_ o q=>q
def Qf (c:X.N.Nodup)(g:X.N[i]?=À x)(j:Loc X.env.scope x)(d:PE X e m)(hs:fb e (À (.Name x b)) pos.line X.env=pure false:=by rfl) (f:X.fn x=true∨X.env.scope.names.lookup x=À .local:=by first|exact .inl rfl|exact .inr rfl|assumption) :
  PS X (.Assign [.Name x b] e pos) (Mq m (C7 i)):=by
 intro a s o H D I h;refine wpAny_Assign_Name (au (d a s o H _ I h) λv p n=>iv n λy A B l k=>?_) hs;exact fy B c g j l (λq C=>⟨_,A,C,k⟩) f
def Xh (i j:Nat)(b:TA):TS:=λD a H=>b a H λc A=>∃v w,c=[v,w]/\D.nx ((a.set i (À v)).set j (À w)) A
def Qd (Y:X.calm=true)(t:X.N.Nodup)(Z:X.N[i]?=À x)(hj:X.N[j]?=À y)(l:i≠j)
  (u:X.env.scope.names.lookup x=À .local) (z:X.env.scope.names.lookup y=À .local) (U:PA X [a,b] ta)
  (hw:iZ [.Tuple [.Name x F,.Name y J] E pt] (.Tuple [a,b] k2 k) X.env=pure (À [x,y]))
  (hs:i0 [.Tuple [.Name x F,.Name y J] E pt] (.Tuple [a,b] k2 k) pos.line X.env=pure false:=by rfl) :
  PS X (.Assign [.Tuple [.Name x F,.Name y J] E pt] (.Tuple [a,b] k2 k) pos) (Xh i j ta):=by
 intro c s L H D I h;rw[X_];refine Ã (dS ?_);rw[hs];refine Ã (È ?_);rw[Ö (by decide)];refine Ã (Tuple_ (au (U _ c s L H _ I h) λus d zz=>iv zz λvs B M r1 n=>?_));obtain⟨v,w,T,n⟩:=n;subst T;obtain⟨f,g,rfl,rv,r⟩:∃f g,us=[f,g]/\RelV v f/\RelV w g:=by
  cases r1 with
  |cons p q=>
   cases q with
   |cons p' q'=>
    cases q';exact⟨_,_,rfl,p,p'⟩
 refine Ř ?_ (by show 2<=sizeLine;decide);have O:Inv X c L B {d with heap:=d.heap.push {cls:=.type "tuple",data:=.seq [f,g].toArray}}:=M.kept (t':=d.toks) λb o e=>Ä _ e;rw[hw];refine Ã (È ?_);show Ø (Û X.prog X.w) X.A (do rule "assign.swapped-stores";let items <-unpackItems (.ref d.heap.objs.size) 2 none;mS [λv=>fL X.env y v,λv=>fL X.env x v] items.reverse;pure A4) _ _ _;refine Ã (bP (Ã (Uq (items:=#[f,g]) (I.ok.hd Y) (AK d.heap _) λh' m=>?_)));have P:=O.kept (h':=h') (t':=d.toks) λb o e=>m b o (ï (Ï e)) e;show Ø _ _ (mS [λv=>fL X.env y v,λv=>fL X.env x v] [g,f] >>= λ_=>pure A4) _ _ _;refine Ã (dk (kZ (fy P t hj (.inl z) r (λs2 Q=>?_) (.inr z))));refine dk (kZ (fy Q t Z (.inl u) rv (λs3 C=>wK (È ?_)) (.inr u)));rw[pP _ _ (ő l)]at C;exact⟨_,B,C,n⟩
def W0 (i:Nat)(b:TE)(c:UA):TS:=λD a H=>∃x,a[i]?=À (À x)/\b a H λy A=>c x y A λz B=>D.nx (a.set i (À z)) B
def Qa (M:X.N.Nodup)(p:X.N[i]?=À x)(g:Loc X.env.scope x)(P:PE X e te)(Y:Uz X op ti)(Q:X.fn x=true∨X.env.scope.names.lookup x=À .local:=by first|exact .inl rfl|exact .inr rfl|assumption) :
  PS X (.AugAssign (.Name x q) op e pos) (W0 i te ti):=by
 intro a s t H D I h;obtain⟨v,L,h⟩:=h;obtain⟨m,U,hl⟩:=I.loc;have j:UB X.env.scope x:=by rcases g with k|k;exact .inl k;exact .inr (.inl k)
 obtain⟨u,r,l⟩:=hl i x v p L j;refine wpAny_AugAssign_Name ?_;have o:Ø (Û X.prog X.w) X.A (ģ e X.env) (λw d=>Ø (Û X.prog X.w) X.A (inplaceOp op u w) (λr f=>Ø (Û X.prog X.w) X.A (Vk X.env x r) (λ_=>SP X a D .next) X.xe f) X.xe d) X.xe s:=by
  refine au (P a s t H _ I h) λw s1 n=>iv n λy B E r1 Z=>?_;refine au (Y a s1 t B v y u w _ E r r1 Z) λz s2 n=>iv n λzv C F r2 q2=>?_;exact fy F M p g r2 (λs3 J=>⟨_,C,J,q2⟩) Q
 rcases l with⟨hk,T⟩|⟨hk,c,O,b⟩
 ·exact rx I.ok.kind hk U T o
 ·rcases hk with hk|hk
  ·exact Q1 I.ok.kind hk O b o
  ·rcases g with k|k
   ·have:X.env.scope.names.lookup x=À .free:=hk;rw[k]at this;cases this
   ·have:X.env.scope.names.lookup x=À .free:=hk;rw[k]at this;cases this
def ipI (f:Int->Int->Int):UA:=λx y H Q=>∃i j,x=.int i/\y=.int j/\Q (.int (f i j)) H
def Ot:Uz X .Add (ipI λi j=>i+j):=by
 intro a s g H x y v u Q I d e h;obtain⟨i,j,b,c,q⟩:=h;subst b;subst c;obtain⟨t,rfl⟩:=d;obtain⟨f,rfl⟩:=e;exact iadd_int ⟨.int _,H,I.tok _,⟨_,rfl⟩,q⟩
def QN (c:TT)(tb:TS):TS:=λD a H=>∃W:Nat->St->Hp->Prop,(∃m,W m a H)/\∀m a H,W m a H->
 c a H λb B=>if b=true then ∃N:St->Hp->Prop,(∀d A,N d A->∃e,e<m/\W e d A)/\tb {D with nx:=N,ct:=N,bk:=D.nx} a B else D.nx a B
def Iy (r:yS (Û X.prog X.w) X.A X.env X.xe) (u:PT X c O)(t:lH X body tb):PS X (.While c body [] pos) (QN O tb):=by
 intro a s U H D I h;obtain⟨W,⟨x,P⟩,g⟩:=h;refine wpAny_While (codeAny_whileLoop (λn s'=>∃i E,Inv X a i E s'/\W n i E) ?_ x ⟨U,H,I,P⟩);rintro n y ⟨e,F,M,Q⟩;refine dF r (au (u a y e F _ M (g n e F Q)) λb z T=>?_);obtain⟨J,L,j⟩:=T;cases b with
 |true=>
  obtain⟨N,q,j⟩:=j;rw[Ì rfl];refine dF r (au (t a z e J _ L j) λf Y k=>?_);cases f with
  |next=>
   obtain⟨d,B,C,o⟩:=k;obtain⟨m,l,p⟩:=q d B o;exact⟨m,l,d,B,C,p⟩
  |cont=>
   obtain⟨d,B,C,o⟩:=k;obtain⟨m,l,p⟩:=q d B o;exact⟨m,l,d,B,C,p⟩
  |brk=>exact k
  |ret v=>exact k
 |false=>
  rw[Ö Ý];exact pG ⟨e,J,L,j⟩
end
structure It where
 go:Nat->Hp->Prop
 Jt:Nat->Hp->V->Hp->Prop
 stop:Nat->Hp->Prop
def rF (X:Cx)(a:Â (Addr×Obj)) (H:Hp)(b:Addr):Prop:=
 H b=none/\b≠X.env.locals/\b∉X.fs/\(b∈X.ex∨X.iX.heap.objs.size<=b)/\(∀x c,X.env.cells.lookup x=À c->c≠b)/\∀p∈X.pn++a,p.1≠b
def Inv.BB (I:Inv X d h H s)(a:s.heap.objs.size<=b)(f:H' b=none):rF X d H' b:=by
 refine⟨f,Ń (æ I.lt a),I.Wj a,.inr (ł I.sz a),λx c e z=>?_,λp g z=>?_⟩
 ·obtain⟨v,q⟩:=I.cell x c e;exact absurd (æ q.lt (by rw[z];exact a)) (Ŝ _)
 ·exact absurd (æ (Ï (I.pin p g).1) (by rw[z];exact a)) (Ŝ _)
structure Turn (P:ą)(w:ħ)(K:Ç)(tg:Expr)(J:It)(fp:Â Addr)(it:Addr)(tn:Nat->Heap->Prop):Prop where
 mem:it∈fp
 obj:∀i h,tn i h->∀b∈fp,∃o,h.get? b=À o/\∀v,o.data≠.cell v
 keep:∀i h h',tn i h->(∀b∈fp,∀o,h.get? b=À o->h'.get? b=À o)->tn i h'
 item:∀X,X.prog=P->X.w=w->X.K=K->X.calm=true->∀i ø s σ H E,Inv X ø σ H s->(∀b∈fp,rF X ø H b)->tn i s.heap->J.go i H->
  Ø (Û P w) X.A (fE (.ref it)) (λr s1=>∃u,r=À u/\
   Ø (Û P w) X.A (jD tg (.ref it) u) (λ_ s2=>∃x H',Inv X ø σ H' s2/\RelV x u/\J.Jt i H x H'/\tn (i+1) s2.heap/\∀b∈fp,H' b=none) E s1) E s
 done:∀X,X.prog=P->X.w=w->X.K=K->X.calm=true->∀i ø s σ H E,Inv X ø σ H s->(∀b∈fp,rF X ø H b)->tn i s.heap->J.stop i H->
  Ø (Û P w) X.A (fE (.ref it)) (λr s1=>r=none/\Inv X ø σ H s1) E s
 self:∀A i s Q E,tn i s.heap->Q (.ref it) s->Ø (Û P w) A (J9 (.ref it)) Q E s
abbrev TI:=St->Hp->(It->Hp->Prop)->Prop
def Yf (X:Cx)(a:Â (Addr×Obj)) (i:St)(h:Expr)(R:It->Hp->Prop)(c:Value)(f:Ô):Prop:=
 ∃e d g J A,c=.ref e/\Inv X a i A f/\Turn X.prog X.w X.K h J d e g/\g 0 f.heap/\(∀b∈d,rF X a A b)/\R J A
def PI (X:Cx)(e b:Expr)(f:TI):Prop:=
 ∀a s c H R,Inv X a c H s->f c H R->
  Ø (Û X.prog X.w) X.A (ģ b X.env) (λv d=>Ø (Û X.prog X.w) X.A (J9 v) (Yf X a c e R) X.xe d) X.xe s
def C9 (d:s.heap.get? e=À o)(b:o.cls=.type n)(hd:o.data=.fields vs)
    (c:["enumerate","zip","dict_itemiterator","dict_reverseitemiterator","odict_iterator","itertools.zip_longest","itertools.pairwise"].contains n=false) (a:Q () s):Ø M A (jD f (.ref e) u) Q E s:=by
  unfold jD;cases f<;>first
    |exact È a
    | (cases u<;>first
        |exact È a
        | (refine Ã (wpAny_load d ?_)
           rw[b,hd];show Ø M A (if (["enumerate","zip","dict_itemiterator","dict_reverseitemiterator","odict_iterator","itertools.zip_longest","itertools.pairwise"].contains n&&vs[0]? == À (Ŷ _))=true then _ else _) Q E s;rw[Ö (by intro h;rw[c,Bool.false_and]at h;cases h)];exact È a))
def Q2 (K:Ç)(a:Addr):It:=
 ⟨λi H=>∃xs x,gM K H a xs/\xs[i]?=À x,λi H x A=>A=H/\∀xs,gM K H a xs->xs[i]?=À x,λi H=>∃xs,gM K H a xs/\xs.length<=i⟩
def MS (K:Ç)(a:Addr):It:=
 ⟨λi H=>∃xs x,gp K H a xs/\xs[i]?=À x,λi H x A=>A=H/\∀xs,gp K H a xs->xs[i]?=À x,λi H=>∃xs,gp K H a xs/\xs.length<=i⟩
def Q3 (lo:Int)(n:Nat):It:=⟨λi _=>i<n,λi H x A=>A=H/\x=.int (lo+i),λi _=>n<=i⟩
def wz {P:ą}{w:ħ}{K:Ç}{tg:Expr}(a it:Addr):Turn P w K tg (Q2 K a) [it] it (λi h=>h.IsListIter it a i) where
 mem:=by simp
 obj:=λi h st b hb=>by
  have e:b=it:=by simpa using hb
  subst e;obtain⟨o,e,c,d⟩:=st;exact⟨o,e,λv z=>by rw[d]at z;cases z⟩
 keep:=λi h h' st k=>st.at λo e=>k it (by simp) o e
 item:=by
  intro X hP hw hK hc i ø s σ H E I hf st hg;subst hP hw hK;obtain⟨xs,x,hq,hx⟩:=hg;obtain⟨its,rv,p,hz⟩:=I.list hq;obtain⟨u,hu,ru⟩:=rv.get hx;obtain⟨f0,f1,f2,f3,f4,f5⟩:=hf it (by simp);refine wpAny_pyNext_list_item st p.isList (x:=u) (by simpa using hu) λh' IP sb=>?_;have I1:Inv X ø σ H {s with heap:=h'}:=I.turned (t':=s.toks) (λb o hb e=>(sb.2 b hb).trans e) f0 f1 f3 f4 f5;obtain⟨o,e,c,d⟩:=id IP;exact⟨u,rfl,C9 (s:={s with heap:=h'}) e c d (by decide) ⟨x,H,I1,ru,⟨rfl,λys hy=>by rw[I.uc hy hq];exact hx⟩,IP,λb hb=>(hf b hb).1⟩⟩
 done:=by
  intro X hP hw hK hc i ø s σ H E I hf st hg;subst hP hw hK;obtain⟨xs,hq,hx⟩:=hg;obtain⟨its,rv,p,hz⟩:=I.list hq;obtain⟨f0,f1,f2,f3,f4,f5⟩:=hf it (by simp);have hl:=rv.length;exact wpAny_pyNext_list_end (I.ok.hd hc) st p.isList (by simp;lia) λh' eb=>⟨rfl,I.turned (t':=s.toks) (λb o hb e=>eb b o hb e) f0 f1 f3 f4 f5⟩
 self:=λ_ _ _ _ _ st h=>wpAny_pyIter_listiter st h
def Cv {P:ą}{w:ħ}{K:Ç}{tg:Expr}(a it:Addr):Turn P w K tg (MS K a) [it] it (λi h=>h.IsTupleIter it a i) where
 mem:=by simp
 obj:=λi h st b hb=>by
  have e:b=it:=by simpa using hb
  subst e;obtain⟨o,e,c,d⟩:=st;exact⟨o,e,λv z=>by rw[d]at z;cases z⟩
 keep:=λi h h' st k=>st.at λo e=>k it (by simp) o e
 item:=by
  intro X hP hw hK hc i ø s σ H E I hf st hg;subst hP hw hK;obtain⟨xs,x,hq,hx⟩:=hg;obtain⟨its,rv,p,hz⟩:=I.tuple hq;obtain⟨u,hu,ru⟩:=rv.get hx;obtain⟨f0,f1,f2,f3,f4,f5⟩:=hf it (by simp);refine wpAny_pyNext_tuple_item st (show s.heap.IsTuple a its.toArray from p) (x:=u) (by simpa using hu) λh' IP sb=>?_;have I1:Inv X ø σ H {s with heap:=h'}:=I.turned (t':=s.toks) (λb o hb e=>(sb.2 b hb).trans e) f0 f1 f3 f4 f5;obtain⟨o,e,c,d⟩:=id IP;exact⟨u,rfl,C9 (s:={s with heap:=h'}) e c d (by decide) ⟨x,H,I1,ru,⟨rfl,λys hy=>by rw[I.qH hy hq];exact hx⟩,IP,λb hb=>(hf b hb).1⟩⟩
 done:=by
  intro X hP hw hK hc i ø s σ H E I hf st hg;subst hP hw hK;obtain⟨xs,hq,hx⟩:=hg;obtain⟨its,rv,p,hz⟩:=I.tuple hq;obtain⟨f0,f1,f2,f3,f4,f5⟩:=hf it (by simp);have hl:=rv.length;exact wpAny_pyNext_tuple_end (I.ok.hd hc) st (show s.heap.IsTuple a its.toArray from p) (by simp;lia) λh' eb=>⟨rfl,I.turned (t':=s.toks) (λb o hb e=>eb b o hb e) f0 f1 f3 f4 f5⟩
 self:=λ_ _ _ _ _ st h=>wpAny_pyIter_tupleiter st h
def Cu {P:ą}{w:ħ}{K:Ç}{tg:Expr}(it:Addr)(lo:Int)(n:Nat):Turn P w K tg (Q3 lo n) [it] it (λi h=>IsRangeIter h it (lo+(i:Nat)*1) ((n:Int)-(i:Nat)) 1) where
 mem:=by simp
 obj:=λi h st b hb=>by
  have e:b=it:=by simpa using hb
  subst e;exact⟨_,st,λv z=>by
   have z':Data.fields _=Data.cell v:=z;cases z'⟩
 keep:=λi h h' st k=>k it (by simp) _ st
 item:=by
  intro X hP hw hK hc i ø s σ H E I hf st hg;subst hP hw hK;obtain⟨f0,f1,f2,f3,f4,f5⟩:=hf it (by simp);have W:=Walks.range (prog:=X.prog) (w:=X.w) (I.ok.hd hc) it lo 1 n;refine W.item i s _ _ hg st λv h' tk hv IP kk=>?_;obtain⟨t,rfl⟩:=hv;have I1:Inv X ø σ H {s with heap:=h',toks:=tk}:=I.turned (λb o hb e=>kk b o (by simpa using hb) e) f0 f1 f3 f4 f5;refine⟨_,rfl,C9 (s:={s with heap:=h',toks:=tk}) (n:="range_iterator") IP rfl rfl (by decide) ⟨.int (lo+i),H,I1,⟨t,?_⟩,⟨rfl,rfl⟩,IP,λb hb=>(hf b hb).1⟩⟩;rw[Int.mul_one]
 done:=by
  intro X hP hw hK hc i ø s σ H E I hf st hg;subst hP hw hK;obtain⟨f0,f1,f2,f3,f4,f5⟩:=hf it (by simp);exact wpAny_pyNext_range_end (I.ok.hd hc) st (by have:n<=i:=hg;lia) λh' eb=>⟨rfl,I.turned (t':=s.toks) (λb o hb e=>eb b o hb e) f0 f1 f3 f4 f5⟩
 self:=λ_ _ _ _ _ st h=>wpAny_pyIter_rangeiter st h
section
variable {X:Cx}{tg:Expr}
def Sh (K:Ç)(tl:TE):TI:=λb H R=>tl b H λx A=>∃a,x=.ref a/\(∃xs,gM K A a xs)/\R (Q2 K a) A
def LR {l:Expr}{tl:TE}(hl:PE X l tl):PI X tg l (Sh X.K tl):=by
 intro c s n H R I h;refine au (hl c s n H _ I h) λv d m=>iv m λx B A k j=>?_;obtain⟨a,e,⟨xs,g⟩,q⟩:=j;subst e;cases k;obtain⟨i,rv,p,r⟩:=A.list g;refine wQ p.isList ?_;refine⟨d.heap.objs.size,[d.heap.objs.size],_,_,B,rfl,A.kept (t':=d.toks) λb o e=>Ä _ e,wz a _,⟨_,Ò _ rfl,rfl,rfl⟩,λb f=>?_,q⟩;have e:b=d.heap.objs.size:=by simpa using f
 subst e;exact A.BB (Í _) (A.Ů.fresh (Í _))
def IB {c:Â (Addr×Obj)}{f:St}{H:Hp}{s:Ô}{R:It->Hp->Prop}{E:Value->Ô->Prop}{lo a:Int}{t u v:Tok}{d:Nat}(I:Inv X c f H s)(i:-(2^62)<=lo) (j:lo<2^62)(k:-(2^62)<=a) (l:a<2^62)
  (q:R (Q3 lo (a-lo).toNat) H):Ø (Û X.prog X.w) X.A (J9 (.ref s.heap.objs.size)) (Yf X c f tg R) E {s with heap:=s.heap.push {cls:=.type "range",data:=.fields #[.int lo t,.int a u,.int 1 v]},toks:=d}:=by
 refine wpAny_pyIter_range (IsRange.new ..) (small_one i j k l) ?_;have B:Inv X c f H {s with heap:=s.heap.push {cls:=.type "range",data:=.fields #[.int lo t,.int a u,.int 1 v]},toks:=d}:=I.kept λb o e=>Ä _ e;refine⟨(s.heap.push {cls:=.type "range",data:=.fields #[.int lo t,.int a u,.int 1 v]}).objs.size,[(s.heap.push {cls:=.type "range",data:=.fields #[.int lo t,.int a u,.int 1 v]}).objs.size],_,_,H,rfl,
  B.kept (t':=d) λb o e=>Ä _ e,Cu _ lo (a-lo).toNat,?_,λb m=>?_,q⟩
 ·have g:lo+((0:Nat):Int)*1=lo:=by simp
  have h:(((a-lo).toNat:Nat):Int)-((0:Nat):Int)=U1 lo a 1:=by rw[rangeSize_one];split<;>lia
  show IsRangeIter _ _ (lo+((0:Nat):Int)*1) ((((a-lo).toNat:Nat):Int)-((0:Nat):Int)) 1;rw[g,h];exact Ò _ rfl
 ·have e:b=(s.heap.push {cls:=.type "range",data:=.fields #[.int lo t,.int a u,.int 1 v]}).objs.size:=by simpa using m
  subst e;exact B.BB (Í _) (B.Ů.fresh (Í _))
def Si (a:TA):TI:=λc H R=>a c H λb A=>∃j:Int,b=[.int j]/\-(2^62)<=j/\j<2^62/\R (Q3 0 j.toNat) A
def Fx {a:Expr}{d:TA}{p pos:jA}(g:Gl X "range")(i:X.mg "range"=none)(f:PA X [a] d)(hs:Î [a] X.env=[(false,ģ a X.env)]:=by rfl):PI X tg (.Call (.Name "range" p) [a] [] pos) (Si d):=by
 intro b s o H R I h;refine Call_ (qj I g i boot_range (gH (au (f pos b s o H _ I h) λus u n=>iv n λv B A l c=>?_) hs rfl));obtain⟨j,e,c,k,q⟩:=c;subst e;cases l with
 |cons r m=>
  cases m;obtain⟨t,rfl⟩:=r;exact call_range_1 (IB A (by lia) (by lia) c k (by simpa using q))
def Xb (e:TI)(g:TG)(tb:TS):TS:=λD a H=>e a H λJ B=>∃W:Nat->Nat->St->Hp->Prop,(∃m,W 0 m a B)/\∀i m a H,W i m a H->
 (J.stop i H/\D.nx a H)∨(J.go i H/\∃N:St->Hp->Prop,(∀b A,N b A->∃d,d<m/\W (i+1) d b A)/\∀x A,J.Jt i H x A->g x a A λc C=>tb {D with nx:=N,ct:=N,bk:=D.nx} c C)
def uu (a:Â Addr)(h:Heap):Â (Addr×Obj):=a.filterMap λb=>(h.get? b).map λo=>(b,o)
def kj (c:b∈a)(e:h.get? b=À o):(b,o)∈uu a h:=jr.mpr ⟨b,c,by rw[e];rfl⟩
def Fo (f:p∈uu c h):p.1∈c/\h.get? p.1=À p.2:=by
 obtain⟨b,d,e⟩:=jr.mp f;cases q:h.get? b with
 |none=>rw[q]at e;cases e
 |some o=>
  rw[q]at e;have a:(b,o)=p:=ã e;subst a;exact⟨d,q⟩
def Inv.pinned (I:Inv X a n H s)(k:∀b∈f,rF X a H b)(l:∀b∈f,∃o,s.heap.get? b=À o/\∀v,o.data≠.cell v):Inv X (a++uu f s.heap) n H s:=
 I.DC λp m=>(aU.mp m).elim (λz=>I.pin p (ğ _ z)) λz=>by
  obtain⟨g,e⟩:=Fo z;obtain⟨h,i,j,_⟩:=k p.1 g;obtain⟨o,c,d⟩:=l p.1 g;rw[e]at c;cases c;exact⟨e,h,i,j,d⟩
def Inv.pA (I:Inv X (a++pl) c H s):Inv X a c H s:=I.DC λp b=>I.pin p (ğ _ (dN _ b))
def Qc (M:yS (Û X.prog X.w) X.A X.env X.xe) (hc:X.calm=true)(hi:PI X tg q wi)(hg:PG X tg g)(j:lH X body tb)
  (hs:∀x,eg q X.env x=pure x:=by intro _;rfl):PS X (.For tg q body [] pos) (Xb wi g tb):=by
 intro a s σ H D I h;refine wpAny_For (au (hi a s σ H _ I h) λv s1 h1=>au h1 λYv s2 h2=>?_) hs;obtain⟨it,F,tn,J,H2,e,I2,T,st2,f2,W,⟨m0,w0⟩,U⟩:=h2;subst e;have k:∀{E:Hp},(∀b∈F,E b=none)->∀b∈F,rF X a E b:=λhn b j=>⟨hn b j,(f2 b j).2⟩
 refine codeAny_forLoop_any (λn s'=>∃i l E,Inv X a l E s'/\tn i s'.heap/\(∀b∈F,E b=none)/\W i n l E) ?_ m0 ⟨0,σ,H2,I2,st2,λb j=>(f2 b j).1,w0⟩;rintro n s3 ⟨i,p,Y,I3,P,L,w3⟩;rcases U i n p Y w3 with⟨Q,qn⟩|⟨go,N,hN,step⟩
 ·refine dF M (au (T.done X rfl rfl rfl hc i a s3 p Y X.xe I3 (k L) P Q) λr s4 z=>?_);obtain⟨hr,I4⟩:=z;subst hr;exact pG ⟨p,Y,I4,qn⟩
 ·refine dF M (au (T.item X rfl rfl rfl hc i a s3 p Y X.xe I3 (k L) P go) λr s4 z=>?_);obtain⟨u,hr,h4⟩:=z;subst hr;refine dF M (au h4 λ_ s5 z=>?_);obtain⟨x,H5,I5,r5,y5,y,UH⟩:=z;have Z:=I5.pinned (k UH) (T.obj _ _ y);refine dF M (au (hg _ s5 p H5 x u _ Z r5 (step x H5 y5)) λ_ s6 z=>?_);obtain⟨σ6,H6,I6,q6⟩:=z;refine dF M (au (j _ s6 σ6 H6 _ I6 q6) λf s7 t=>?_);have again:∀{c:St}{B:Hp},Inv X (a++uu F s5.heap) c B s7->N c B->∃m,m<n/\∃i l E,Inv X a l E s7/\tn i s7.heap/\(∀b∈F,E b=none)/\W i m l E:=λ{c B} C O=>by
   obtain⟨m',hm,w7⟩:=hN c B O;refine⟨m',hm,i+1,c,B,C.pA,T.keep _ _ _ y λb j o e=>(C.pin (b,o) (ğ _ (ğ _ (kj j e)))).1,λb j=>?_,w7⟩;obtain⟨o,e,d⟩:=T.obj _ _ y b j;exact(C.pin (b,o) (ğ _ (ğ _ (kj j e)))).2.1
  cases f with
  |next=>obtain⟨c,B,C,O⟩:=t;exact again C O
  |cont=>obtain⟨c,B,C,O⟩:=t;exact again C O
  |brk=>obtain⟨c,B,C,t⟩:=t;exact⟨c,B,C.pA,t⟩
  |ret v=>obtain⟨x7,c,B,C,r7,t⟩:=t;exact⟨x7,c,B,C.pA,r7,t⟩
end
def mz {K:Ç}{a:Addr}{xs:Â V}{g:TG}{tb:TS}{D:Ends}{b:St}{H:Hp}(Pv:Nat->St->Hp->Prop)(h0:Pv 0 b H)(hl:∀i b H,i<=xs.length->Pv i b H->gp K H a xs)
  (hs:∀i x b H,xs[i]?=À x->Pv i b H->g x b H λd A=>tb {D with nx:=Pv (i+1),ct:=Pv (i+1),bk:=D.nx} d A) (hd:∀b H,Pv xs.length b H->D.nx b H) :
  ∃W:Nat->Nat->St->Hp->Prop,(∃m,W 0 m b H)/\∀i m b H,W i m b H->
   ((MS K a).stop i H/\D.nx b H)∨((MS K a).go i H/\∃N:St->Hp->Prop,(∀c H',N c H'->∃h,h<m/\W (i+1) h c H')/\∀x H',(MS K a).Jt i H x H'->g x b H' λd A=>tb {D with nx:=N,ct:=N,bk:=D.nx} d A):=by
 refine⟨λi m b H=>m=xs.length-i/\i<=xs.length/\Pv i b H,⟨xs.length,by simp,ĩ _,h0⟩,?_⟩;rintro i m b H ⟨rfl,j,p⟩;have q:=hl i b H j p;by_cases f:i<xs.length
 ·refine .inr ⟨⟨xs,xs[i],q,by simp[f]⟩,Pv (i+1),λc H' k=>⟨xs.length-(i+1),by lia,rfl,f,k⟩,λx H' y=>?_⟩;obtain⟨e,y⟩:=y;subst e;exact hs i x b _ (y xs q) p
 ·have e:i=xs.length:=by lia
  subst e;exact .inl ⟨⟨xs,q,Í _⟩,hd b H p⟩
abbrev R2:=V->V->Hp->VK->Prop
def ju (X:Cx)(f:Value->Value->X5 Value)(r:R2):Prop:=
 ∀a s b H x y v u Q,Inv X a b H s->RelV x v->RelV y u->r x y H Q->
  Ø (Û X.prog X.w) X.A (f v u) (EP X a b Q) X.xe s
def RG (X:Cx)(f:Value->X5 Value)(r:V->Hp->VK->Prop):Prop:=
 ∀a s b H x v Q,Inv X a b H s->RelV x v->r x H Q->
  Ø (Û X.prog X.w) X.A (f v) (EP X a b Q) X.xe s
def cQ (X:Cx)(f:Value)(r:Â V->Hp->VK->Prop):Prop:=
 ∀a s b H xs us Q,Inv X a b H s->Vals xs us->r xs H Q->
  Ø (Û X.prog X.w) X.A (call f us) (EP X a b Q) X.xe s
def Vr (X:Cx)(r:V->Hp->(Bool->Hp->Prop)->Prop):Prop:=
 ∀a s b H x v Q,Inv X a b H s->RelV x v->r x H Q->
  Ø (Û X.prog X.w) X.A (truthy v) (TP X a b Q) X.xe s
def TU (r:R2)(b tb:TE):TE:=λa H Q=>b a H λx A=>tb a A λy B=>r x y B Q
def YN (r:V->Hp->VK->Prop)(a:TE):TE:=λb H Q=>a b H λx A=>r x A Q
def rI (C:Int->Int->Prop)(g:Int->Int->V):R2:=λx y H Q=>∃i j,x=.int i/\y=.int j/\C i j/\Q (g i j) H
def Ql (g:Int->Int->V):R2:=λx y H Q=>∃i j,x=.int i/\y=.int j/\Q (g i j) H
def rU (g:Int->V):V->Hp->VK->Prop:=λx H Q=>∃i,x=.int i/\Q (g i) H
section
variable {X:Cx}{a b c:Expr}{ta tb tc:TE}{pos:jA}
def NV (l:PE X a ta)(m:PE X b tb){d:Â (Addr×Obj)}{s:Ô}{e:St}{H:Hp}{R:V->V->Hp->Prop}(I:Inv X d e H s)
  (h:ta e H λx C=>tb e C λy B=>R x y B) {Q:Value->Ô->Prop}{f:Value->Value->X5 Value}
  (n:∀v u j x y B,Inv X d e B j->RelV x v->RelV y u->R x y B->Ø (Û X.prog X.w) X.A (f v u) Q X.xe j) :
  Ø (Û X.prog X.w) X.A (ģ a X.env) (λv g=>Ø (Û X.prog X.w) X.A (ģ b X.env) (λu i=>Ø (Û X.prog X.w) X.A (f v u) Q X.xe i) X.xe g) X.xe s:=by
 refine au (l d s e H _ I h) λv t k=>iv k λx C D q o=>?_;refine au (m d t e C _ D o) λu j k=>iv k λy B E r p=>?_;exact n v u j x y B E q r p
def Ta {op:Operator}{r:R2}(g:ju X (aY op) r) (e:PE X a ta)(f:PE X b tb):PE X (.BinOp a op b pos) (TU r ta tb):=by
 intro d s l H Q I h;exact wpAny_BinOp (NV e f I h λv u k x y A B i j q=>g d k l A x y v u Q B i j q)
def Tc (g:RG X (Uo op) r) (f:PE X a ta):PE X (.UnaryOp op a pos) (YN r ta):=by
 intro d s e H Q I h;exact UnaryOp_ (au (f d s e H _ I h) λv k l=>iv l λx A B j i=>g d k e A x v Q B j i)
def UN {f:Value->Value->X5 Value}{C:Int->Int->Prop}{g:Int->Int->Int}
  (rule:∀i j t u s Q E,C i j->Q (.int (g i j) s.toks) {s with toks:=s.toks+1}->Ø (Û X.prog X.w) X.A (f (.int i t) (.int j u)) Q E s) :
  ju X f (rI C λi j=>.int (g i j)):=by
 intro d s n H x y v u Q I k l h;obtain⟨i,j,rfl,rfl,e,q⟩:=h;obtain⟨t,rfl⟩:=k;obtain⟨m,rfl⟩:=l;exact rule i j t m s _ _ e ⟨.int (g i j),H,I.tok _,⟨_,rfl⟩,q⟩
def S2 {f:Value->Value->X5 Value}{g:Int->Int->Int}
  (rule:∀i j t u s Q E,Q (.int (g i j) s.toks) {s with toks:=s.toks+1}->Ø (Û X.prog X.w) X.A (f (.int i t) (.int j u)) Q E s) :
  ju X f (Ql λi j=>.int (g i j)):=by
 intro d s m H x y v u Q I e k h;obtain⟨i,j,rfl,rfl,q⟩:=h;obtain⟨t,rfl⟩:=e;obtain⟨l,rfl⟩:=k;exact rule i j t l s _ _ ⟨.int (g i j),H,I.tok _,⟨_,rfl⟩,q⟩
def Py {f:Value->Value->X5 Value}{g:Int->Int->Bool}
  (rule:∀i j t u s Q E,Q (.bool (g i j)) s->Ø (Û X.prog X.w) X.A (f (.int i t) (.int j u)) Q E s) :
  ju X f (Ql λi j=>.bl (g i j)):=by
 intro d s m H x y v u Q I e k h;obtain⟨i,j,rfl,rfl,q⟩:=h;obtain⟨t,rfl⟩:=e;obtain⟨l,rfl⟩:=k;exact rule i j t l s _ _ ⟨.bl (g i j),H,I,rfl,q⟩
def J_ (i j:Int):Prop:=0<=j/\j<=1000000/\i.natAbs<2^64
def PB:ju X (aY .Add) (Ql λi j=>.int (i+j)):=S2 λ_ _ _ _ _ _ _ q=>add_int q
def PM:ju X (aY .Sub) (Ql λi j=>.int (i-j)):=S2 λ_ _ _ _ _ _ _ q=>sub_int q
def LF:ju X (aY .Mod) (rI (λ_ j=>j≠0) λi j=>.int (i.fmod j)):=UN λ_ _ _ _ _ _ _ d q=>mod_int' d q
def PL:ju X (aY .Pow) (rI J_ λi j=>.int (i^j.toNat)):=UN λ_ _ _ _ _ _ _ d q=>pow_int_small d.1 d.2.1 d.2.2 q
def unI {f:Value->X5 Value}{g:Int->Int}
  (rule:∀i t s Q E,Q (.int (g i) s.toks) {s with toks:=s.toks+1}->Ø (Û X.prog X.w) X.A (f (.int i t)) Q E s) :
  RG X f (rU λi=>.int (g i)):=by
 intro d s j H x v Q I e h;obtain⟨i,rfl,q⟩:=h;obtain⟨t,rfl⟩:=e;exact rule i t s _ _ ⟨.int (g i),H,I.tok _,⟨_,rfl⟩,q⟩
def QQ:RG X (Uo .USub) (rU λi=>.int (-i)):=unI λ_ _ _ _ _ q=>neg_int q
end
noncomputable def Qw:V->V->Bool
 |.Ě,.Ě=>true|.Ě,.int _=>true|.int _,.Ě=>true|.Ě,.bl _=>true|.bl _,.Ě=>true|.Ě,.str _=>true|.str _,.Ě=>true
 |.int _,.int _=>true|.bl _,.bl _=>true|.str _,.str _=>true|.Bm _,.Bm _=>true
 |.int _,.str _=>true|.str _,.int _=>true|.bl _,.str _=>true|.str _,.bl _=>true
 |_,_=>false
def rEq:R2:=λx y H Q=>Qw x y=true/\Q (.bl (decide (x=y))) H
def rNe:R2:=λx y H Q=>Qw x y=true/\Q (.bl (!decide (x=y))) H
def C2:decide (V.int i=V.int j)=(i == j):=by
 rw[iR];simp
def GO:decide (V.bl i=V.bl j)=(i == j):=by
 rw[iR];simp
def C3:decide (V.str i=V.str j)=(i == j):=by
 rw[iR];simp
def C1:decide (V.Bm i=V.Bm j)=(i.toList == j.toList):=by
 rw[iR];cases i;cases j;simp
section
variable {X:Cx}{a b c:Expr}{ta tb tc:TE}{pos:jA}
def ť (I:Inv X d g H s)(q:Q (.bl k) H) (e:k=f):EP X d g Q (.bool f) s:=by
 subst e;exact⟨.bl k,H,I,rfl,q⟩
def S4:ju X (ņ .Eq) rEq:=by
 intro k s l H x y v u Q I g d h;obtain⟨f,q⟩:=h;cases x with
 |Ě=>
  cases g;cases y with
  |Ě=>cases d;exact XS (ť I q (by simp))
  |bl j=>cases d;exact XQ (ť I q (by simp))
  |int j=>obtain⟨e,rfl⟩:=d;exact XR (ť I q (by simp))
  |str j=>obtain⟨e,rfl⟩:=d;exact XU (ť I q (by simp))
  |_=>exact absurd (show false=true from f) Ý
 |bl i=>
  cases g;cases y with
  |Ě=>cases d;exact XO (ť I q (by simp))
  |bl j=>cases d;exact eq_bool (ť I q GO)
  |str j=>obtain⟨e,rfl⟩:=d;exact U9 (ť I q (by simp))
  |_=>exact absurd (show false=true from f) Ý
 |int i=>
  obtain⟨t,rfl⟩:=g;cases y with
  |Ě=>cases d;exact XP (ť I q (by simp))
  |int j=>obtain⟨e,rfl⟩:=d;exact eq_int (ť I q C2)
  |str j=>obtain⟨e,rfl⟩:=d;exact U_ (ť I q (by simp))
  |_=>exact absurd (show false=true from f) Ý
 |str i=>
  obtain⟨t,rfl⟩:=g;cases y with
  |Ě=>cases d;exact XW (ť I q (by simp))
  |bl j=>cases d;exact U' (ť I q (by simp))
  |int j=>obtain⟨e,rfl⟩:=d;exact Va (ť I q (by simp))
  |str j=>obtain⟨e,rfl⟩:=d;exact eq_str (ť I q C3)
  |_=>exact absurd (show false=true from f) Ý
 |Bm i=>
  obtain⟨t,rfl⟩:=g;cases y with
  |Bm j=>obtain⟨e,rfl⟩:=d;exact PySem.W.eq_bytes (ť I q C1)
  |_=>exact absurd (show false=true from f) Ý
 |_=>cases y<;>exact absurd (show false=true from f) Ý
def S8:ju X (ņ .NotEq) rNe:=by
 intro k s l H x y v u Q I g d h;obtain⟨f,q⟩:=h;cases x with
 |Ě=>
  cases g;cases y with
  |Ě=>cases d;exact X1 (ť I q (by simp))
  |bl j=>cases d;exact XZ (ť I q (by simp))
  |int j=>obtain⟨e,rfl⟩:=d;exact X0 (ť I q (by simp))
  |str j=>obtain⟨e,rfl⟩:=d;exact X2 (ť I q (by simp))
  |_=>exact absurd (show false=true from f) Ý
 |bl i=>
  cases g;cases y with
  |Ě=>cases d;exact XX (ť I q (by simp))
  |bl j=>cases d;exact ne_bool (ť I q (à not GO))
  |str j=>obtain⟨e,rfl⟩:=d;exact Vc (ť I q (by simp))
  |_=>exact absurd (show false=true from f) Ý
 |int i=>
  obtain⟨t,rfl⟩:=g;cases y with
  |Ě=>cases d;exact XY (ť I q (by simp))
  |int j=>obtain⟨e,rfl⟩:=d;exact ne_int (ť I q (à not C2))
  |str j=>obtain⟨e,rfl⟩:=d;exact Vd (ť I q (by simp))
  |_=>exact absurd (show false=true from f) Ý
 |str i=>
  obtain⟨t,rfl⟩:=g;cases y with
  |Ě=>cases d;exact X3 (ť I q (by simp))
  |bl j=>cases d;exact Ve (ť I q (by simp))
  |int j=>obtain⟨e,rfl⟩:=d;exact Vf (ť I q (by simp))
  |str j=>obtain⟨e,rfl⟩:=d;exact ne_str (ť I q (à not C3))
  |_=>exact absurd (show false=true from f) Ý
 |Bm i=>
  obtain⟨t,rfl⟩:=g;cases y with
  |Bm j=>obtain⟨e,rfl⟩:=d;exact PySem.W.ne_bytes (ť I q (à not C1))
  |_=>exact absurd (show false=true from f) Ý
 |_=>cases y<;>exact absurd (show false=true from f) Ý
def S7:ju X (ņ .Lt) (Ql λi j=>.bl (decide (i<j))):=Py λ_ _ _ _ _ _ _ q=>lt_int q
def S6:ju X (ņ .LtE) (Ql λi j=>.bl (decide (i<=j))):=Py λ_ _ _ _ _ _ _ q=>le_int q
def S5:ju X (ņ .GtE) (Ql λi j=>.bl (decide (j<=i))):=Py λ_ _ _ _ _ _ _ q=>ge_int q
def Fu:ju X (ņ .Lt) (λx y H Q=>∃i j,x=.str i/\y=.str j/\Q (.bl (decide (i.cps.toList<j.cps.toList))) H):=by
 intro d s k H x y v u Q I e f h;obtain⟨i,j,rfl,rfl,q⟩:=h;obtain⟨t,rfl⟩:=e;obtain⟨g,rfl⟩:=f;exact lt_str (ť I q rfl)
def PH:ju X (ņ .Is) (λx y H Q=>y=.Ě/\Q (.bl (decide (x=.Ě))) H):=by
 intro d s g H x y v u Q I e f h;obtain⟨rfl,q⟩:=h;cases f;refine is_none_gen (ť I q ?_);cases x<;>first
  |(cases e;rfl)
  |(obtain⟨t,rfl⟩:=e;rfl)
def LJ {op:CmpOp}{r:R2}(i:ju X (ņ op) r) (e:PE X a ta)(f:PE X b tb)(g:ao op b=false):PE X (.Compare a [op] [b] pos) (TU r ta tb):=by
 intro d s m H Q I h;exact Y8 (NV e f I h λv u l x y A B j k q=>i d l m A x y v u Q B j k q) g
def TY (t:TE):TT:=λd H Q=>t d H λx A=>∃k,x=.bl k/\Q k A
def L8 (m:ju X (ņ op) r) (i:PE X a ta)(j:PE X b tb)(l:ao op b=false):PT X (.Compare a [op] [b] pos) (TY (TU r ta tb)):=by
 intro d s g H Q I h;refine MQ (au (i d s g H _ I h) λv J f=>iv f λx A D q n=>au (j d J g A _ D n) λu L f=>iv f λy B E t o=>
  au (m d L g B x y v u _ E q t o) λc M ⟨z,C,F,w,k,e,p⟩=>?_) l
 subst e;cases w;exact cf ⟨C,F,p⟩
def NO (K:Ç)(x:V)(H:Hp)(k:Bool):Prop:=
 match x with
 |.Ě=>k=false
 |.bl b=>k=b
 |.int i=>k=(i != 0)
 |.str y=>y.length<=sizeLine/\k=((y.length:Int) != 0)
 |.Bm y=>y.size<=sizeLine/\k=((y.size:Int) != 0)
 |.ref p=>(∃xs,gM K H p xs/\k=!xs.isEmpty)∨(∃xs,gp K H p xs/\k=!xs.isEmpty)∨∃d,H p=À (.dK d)/\k=!d.isEmpty
 |_=>False
def BJ (r:KV kvs vs):(!vs.isEmpty)=!kvs.isEmpty:=by
 cases r<;>rfl
def tX (r:Vals xs its):(!its.toArray.isEmpty)=!xs.isEmpty:=by
 cases r<;>simp
def lX:(sizeLine:Nat)<2^63:=by rw[ā];decide
def QP:Vr X (λx H Q=>∃k,NO X.K x H k/\Q k H):=by
 intro A s E H x v Q I j h;obtain⟨k,e,q⟩:=h;have hl:=lX;have D:sizeLine=16777216:=ā;cases x with
 |Ě=>
  cases j;have d:k=false:=e;subst d;exact truthy_none ⟨H,I,q⟩
 |bl b=>
  cases j;have d:k=b:=e;subst d;exact cf ⟨H,I,q⟩
 |int i=>
  obtain⟨t,rfl⟩:=j;have d:k=(i != 0):=e;subst d;exact PySem.P.truthy_int ⟨H,I,q⟩
 |str y=>
  obtain⟨t,rfl⟩:=j;obtain⟨C,d⟩:y.length<=sizeLine/\k=((y.length:Int) != 0):=e;subst d;exact PySem.P.truthy_str (by lia) ⟨H,I.tok _,q⟩
 |Bm y=>
  obtain⟨t,rfl⟩:=j;obtain⟨C,d⟩:y.size<=sizeLine/\k=((y.size:Int) != 0):=e;subst d;exact PySem.W.truthy_bytes (by lia) ⟨H,I.tok _,q⟩
 |ref p=>
  cases j;have d:(∃xs,gM X.K H p xs/\k=!xs.isEmpty)∨(∃xs,gp X.K H p xs/\k=!xs.isEmpty)∨∃f,H p=À (.dK f)/\k=!f.isEmpty:=e;rcases d with⟨xs,l,d⟩|⟨xs,l,d⟩|⟨f,l,d⟩
  ·subst d;obtain⟨o,r,u,z⟩:=I.list l;have g:=r.length;exact wpAny_truthy_list u.isList (by simp only[Ú];lia) ⟨H,I.tok _,by rw[tX r];exact q⟩
  ·subst d;obtain⟨o,r,u,z⟩:=I.tuple l;have g:=r.length;exact truthy_tuple u (by simp only[Ú];lia) ⟨H,I.tok _,by rw[tX r];exact q⟩
  ·subst d;obtain⟨z,B,n,r,m⟩:f.length<=sizeLine/\(p == bN)=false/\∃n,KV f n/\s.heap.DictOf (ay X.prog X.w) p n:=I.Ů p _ l;have g:f.length=n.length:=oq r;exact wpAny_truthy_dict B m (by lia) ⟨H,I.tok _,by rw[BJ r];exact q⟩
 |_=>exact(show False from e).elim
def IA (g:PE X a ta)(i:∀d,Ek a X.env d=(do let v <-d;j6 a.pos;e_ [v] (truthy v))) :
  PT X a (λf H Q=>ta f H λx H'=>∃k,NO X.K x H' k/\Q k H'):=by
 intro e s f H Q I h;exact isTrue_plain (au (g e s f H _ I h) λv m n=>iv n λx A B l j=>QP e m f A x v Q B l j) (i _)
def B2:ju X (aY .Add) (λx y H Q=>∃i j,x=.str i/\y=.str j/\i.length+j.length<=sizeLine/\Q (.str (i++j)) H):=by
 intro d s m H x y v u Q I f g h;obtain⟨i,j,rfl,rfl,e,q⟩:=h;obtain⟨t,rfl⟩:=f;obtain⟨k,rfl⟩:=g;exact add_str (λk l=>⟨.str (i++j),H,I.tok _,⟨_,rfl⟩,q⟩) e
def vals1 (r:Vals [x] us):∃u,us=[u]/\RelV x u:=by
 cases r with
 |cons d e=>cases e;exact⟨_,rfl,d⟩
def vals2 (r:Vals [x,y] us):∃u d,us=[u,d]/\RelV x u/\RelV y d:=by
 cases r with
 |cons e f=>
  cases f with
  |cons g h=>cases h;exact⟨_,_,rfl,e,g⟩
def GA:cQ X (.builtin "abs") (λxs H Q=>∃i,xs=[.int i]/\Q (.int (if i<0 then -i else i)) H):=by
 intro d s f H xs us Q I r h;obtain⟨i,rfl,q⟩:=h;obtain⟨u,rfl,t,rfl⟩:=vals1 r;exact call_abs_int λu e=>⟨.int (if i<0 then -i else i),H,I.tok _,⟨_,rfl⟩,q⟩
end
structure Be (h:Heap)(x dx C:Addr)(mA:Str->É Value):Prop where
 obj:h.get? x=À (bF C dx)
 ns:h.Ns1 dx mA
 ne:dx≠x
def Fb {h:Heap}{c:Addr}{mA:Str->É Value}(n:h.Ns1 c mA):∃od,h.get? c=À od/\∀name,mR name od=À (mA name):=by
 obtain⟨o,d,l,j,hd,g,_,i⟩:=n;refine⟨o,j,λname=>?_⟩;have e:=i name;unfold nsFind findBy at e;rw[<-Array.find?_toList]at e;unfold mR;rw[hd];dsimp only;split
 ·rename_i y q;rw[q]at e;exact à À e
 ·rename_i q;rw[q]at e;have a:d.toList.any (·.refKey)=false:=by
   rw[JX];intro y k;obtain⟨z,t,b⟩:=g y (ny.mp k);simp[DictEntry.refKey,b]
  have f:¬d.toList.any (·.refKey)=true:=by rw[a];exact Ý
  rw[Ö f];exact à À e
def Be.look (I:Be h x a C mA):∃od,PySem.W.InstAt h x (bF C a) C (À od)/\∀name,mR name od=À (mA name):=
 let ⟨od,b,hl⟩:=Fb I.ns
 ⟨od,⟨I.obj,rfl,rfl,b⟩,hl⟩
section
variable {prog:ą}{w:ħ}{A:Ŕ}{E:Value->Ô->Prop}{s:Ô}{K:Ç}{x dx C f:Addr}{mA:Str->É Value}{name:Str}{v:Value}
def get_map (X:K.In s.heap)(I:Be s.heap x dx C mA)(d:gh K C name=true)(e:js K C=true)
  (c:ú K (.ref C) name=À none) (g:mA name=À v) (a:F6 v=true) (h:Q v {s with toks:=s.toks+1}) :
  Ø (Û prog w) A (getAttr (.ref x) name b) Q E s:=by
 obtain⟨i,J,hl⟩:=I.look;exact PySem.W.get_value X J (nB d).1 (PySem.W.findObj_own e c rfl (by rw[hl,g])) a h
def G6 (X:K.In s.heap)(I:Be s.heap x dx C mA)(a:gh K C name=true)
  (b:ú K (.ref C) name=À (À (.ref f))) (c:kS K (.ref f)=true) (d:mA name=none) (h:Q (.ref f,[.ref x]) s) :
  Ø (Û prog w) A (nC (.ref x) name pl) Q E s:=by
 obtain⟨e,J,hl⟩:=I.look;exact PySem.W.method_fn X J (nB a).1 (nB a).2 b (kX.mp c) (by show(mR name e).map (·.isSome)=À false;rw[hl,d];rfl) h
def Mf (X:K.In s.heap)(I:Be s.heap x dx C mA)
  (hs:ú K (.ref C) "__setattr__"=À (À (.builtin "object.__setattr__"))) (o:pV K C=true) (p:sQ K C name=À none) (n:js K C=true)
  (hw:A8 mA ns) (hsz:ns.length<=sizeLine)
  (h:∀h',Be h' x dx C (λy=>if y=name then À v else mA y)->d_ dx s.heap h'->Q () {s with heap:=h',toks:=s.toks+2}) :
  Ø (Û prog w) A (setAttr (.ref x) name v) Q E s:=by
 obtain⟨z,J,hl⟩:=I.look;refine PySem.W.set_plain X J hs (PySem.W.osa_open (s:={s with toks:=s.toks+1}) (r:=none) X J o p λb=>?_);obtain⟨t,m,g⟩:=PySem.W.any_some n;have q:s.heap.get? x=À ⟨.ref C,À dx,.plain,#[]⟩:=I.obj;refine Ã (È (Ã (Ã (Y9 q (Ã (Vg (s:={s with toks:=s.toks+1}) (PySem.W.looks_clsIn X m) ?_))))));rw[g];refine È (a:=À dx) (Ã (È (Ã ?_)));refine wpAny_nsSet1 (s:={s with toks:=s.toks+1}) I.ns λh' c d=>?_;obtain⟨u,l,k,j,i,e⟩:=c.count (X4 name v hw);refine Ã (wpAny_lookBehind j (by rw[i];exact pastItsLine_dict (ł e (by rw[Ķ];lia))) ?_);exact È (h _ ⟨(d.2 _ (ő I.ne)).trans I.obj,c,I.ne⟩ d)
def Hu (X:K.In s.heap)(i:sP K C=true)
  (e:ú K (.ref C) "__init__"=À (À (.ref f))) (c:vb K (.ref f)=À (.type "function"))
  (h:ef (Û prog w) (A.under (.builtin "type.__call__" ⟨.ref C::vs,b⟩)) (.call (.ref f) ⟨.ref (s.heap.objs.size+1)::vs,b⟩) (PySem.W.InitBack (s.heap.objs.size+1) R)
   {s with heap:=(s.heap.push aa).push (bF C s.heap.objs.size)}) :
  ef (Û prog w) A (.call (.ref C) ⟨vs,b⟩) R s:=by
 obtain⟨j,g,d,t,os⟩:=s;exact PySem.W.make_core (PySem.W.makes_of X i) (PySem.W.looks_findIn X e) (λa=>PySem.W.bind_fn X a c) (.inl rfl) h
end
def ko (f:Str)(v:V):Â (Str×V)->Â (Str×V)
 |[]=>[(f,v)]
 |(g,x)::r=>if g=f then (g,v)::r else (g,x)::ko f v r
theorem qY (f g:Str)(v:V):∀fs:Â (Str×V),(ko f v fs).lookup g=if g=f then À v else fs.lookup g
 |[]=>by
  show dM g [(f,v)]=_;by_cases h:g=f
  ·have a:(g == f)=true:=kX.mpr h;simp only[dM,a,Ì h]
  ·have a:(g == f)=false:=az.mpr h;simp only[dM,a,Ö h]
 |(k,x)::r=>by
  have c:=qY f g v r;rw[show ko f v ((k,x)::r)=(if k=f then (k,v)::r else (k,x)::ko f v r)from rfl];by_cases b:k=f
  ·rw[Ì b];by_cases h:g=k
   ·have a:(g == k)=true:=kX.mpr h;simp only[dM,a,Ì (h.trans b)]
   ·have a:(g == k)=false:=az.mpr h;simp only[dM,a,Ö (λe:g=f=>h (e.trans b.symm))]
  ·rw[Ö b];by_cases h:g=k
   ·have a:(g == k)=true:=kX.mpr h;simp only[dM,a,Ö (λe:g=f=>b (h.symm.trans e))]
   ·have a:(g == k)=false:=az.mpr h;simp only[dM,a];exact c
theorem qi (f:Str)(v:V):∀fs:Â (Str×V),f∈(ko f v fs).map (·.1)/\∀g,g∈fs.map (·.1)->g∈(ko f v fs).map (·.1)
 |[]=>⟨by simp[ko],λg h=>by simp at h⟩
 |(k,x)::r=>by
  obtain⟨b,c⟩:=qi f v r;rw[show ko f v ((k,x)::r)=(if k=f then (k,v)::r else (k,x)::ko f v r)from rfl];by_cases a:k=f
  ·rw[Ì a];subst a;exact⟨by simp,λg h=>by simpa using h⟩
  ·rw[Ö a];refine⟨?_,λg h=>?_⟩
   ·rw[Õ];exact ÿ _ b
   ·rw[Õ]at h⊢;rcases ò.mp h with e|e
    ·exact ò.mpr (.inl e)
    ·exact ÿ _ (c g e)
theorem qX (f:Str)(v:V):∀fs:Â (Str×V),(ko f v fs).length<=fs.length+1
 |[]=>by simp[ko]
 |(k,x)::r=>by
  have b:=qX f v r;rw[show ko f v ((k,x)::r)=(if k=f then (k,v)::r else (k,x)::ko f v r)from rfl];by_cases a:k=f
  ·rw[Ì a,Ķ,Ķ];lia
  ·rw[Ö a,Ķ,Ķ];lia
def k7.some_of (r:k7 (À v) o):∃u,o=À u/\RelV v u:=by
 cases o with
 |none=>exact(show False from r).elim
 |some u=>exact⟨u,rfl,r⟩
def k7.none_of (r:k7 none o):o=none:=by
 cases o with
 |none=>rfl
 |some u=>exact(show False from r).elim
def EU (r:RelV v u):F6 u=true:=by
 cases v with
 |Ě=>cases (show u=í from r);rfl
 |bl b=>cases (show u=e8 b from r);rfl
 |int i=>obtain⟨t,e⟩:=(show ∃t,u=kU i t from r);cases e;rfl
 |str x=>obtain⟨t,e⟩:=(show ∃t,u=sS x t from r);cases e;rfl
 |Bm b=>obtain⟨t,e⟩:=(show ∃t,u=Uh b t from r);cases e;rfl
 |M0 b=>obtain⟨t,e⟩:=(show ∃t,u=Ed b t from r);cases e;rfl
 |ref a=>cases (show u=Ð a from r);rfl
 |ty n=>cases (show u=gK n from r);rfl
section
variable {P:ą}{w:ħ}{H H':Hp}{h h':Heap}{a C dx:Addr}{fs ZU:Â (Str×V)}
def sv (b:ly P w H h)(e:H a=À (.ins C dx fs)):∃mA,Be h a dx C mA/\(∀f,k7 (fs.lookup f) (mA f))/\A8 mA (fs.map (·.1))/\fs.length<=1000/\H dx=À (.own a):=by
 obtain⟨d,z,c,g,mA,n,r,q⟩:=(show š P w H h a (.ins C dx fs)from b a _ e)
 exact⟨mA,⟨g,n,c⟩,r,q,z,d⟩
end
structure zb (K:Ç)(C:Addr):Prop where
 pg:gh K C fG=true
 hd:js K C=true
 po:pV K C=true
 sa:ú K (.ref C) "__setattr__"=À (À (.builtin "object.__setattr__"))
def zb.get {K:Ç}{C:Addr}(c:zb K C)(f:Str):gh K C f=true:=c.pg
def ji (K:Ç)(C:Addr)(f:Str):Prop:=ú K (.ref C) f=À none
def ji.TZ {K:Ç}{C:Addr}{f:Str}(n:ji K C f):sQ K C f=À none:=by
 unfold sQ;rw[show ú K (.ref C) f=À none from n];rfl
structure Meth (K:Ç)(C:Addr)(m:Str)(f:Addr):Prop where
 at_:ú K (.ref C) m=À (À (.ref f))
 fn:kS K (.ref f)=true
 kp:ĵ K (.ref f)=true
section
variable {X:Cx}{ø:Â (Addr×Obj)}{σ:St}{H:Hp}{s:Ô}{a C dx:Addr}{fs:Â (Str×V)}{f:Str}{v:V}{A:Ŕ}{E:Value->Ô->Prop}
def BD (I:Inv X ø σ H s)(e:H a=À (.ins C dx fs)) (c:zb X.K C)(n:ji X.K C f)(l:fs.lookup f=À v)
  (h:∀u s',Inv X ø σ H s'->RelV v u->Q u s'):Ø (Û X.prog X.w) A (getAttr (.ref a) f b) Q E s:=by
 obtain⟨mA,O,r,_,_,_⟩:=sv I.Ů e;obtain⟨u,hu,d⟩:=k7.some_of (v:=v) (o:=mA f) (by rw[<-l];exact r f);exact get_map I.kG O (c.get f) c.hd n hu (EU d) (h u _ (I.tok _) d)
def nR (I:Inv X ø σ H s)(e:H a=À (.ins C dx fs)) (c:zb X.K C)(k:Meth X.K C m g)(l:fs.lookup m=none)
  (h:Q (.ref g,[.ref a]) s):Ø (Û X.prog X.w) A (nC (.ref a) m pl) Q E s:=by
 obtain⟨mA,O,r,_,_,_⟩:=sv I.Ů e;have b:mA m=none:=k7.none_of (by rw[<-l];exact r m);exact G6 I.kG O (c.get m) k.at_ k.fn b h
def Ce (I:Inv X ø σ H s)(e:H a=À (.ins C dx fs)) (c:zb X.K C)(n:ji X.K C f)(hl:fs.length<1000)(t:RelV y u)
  (h:∀s',Inv X ø σ (upd H a (.ins C dx (ko f y fs))) s'->Q () s'):Ø (Û X.prog X.w) A (setAttr (.ref a) f u) Q E s:=by
 obtain⟨mA,O,r,i,_,d⟩:=sv I.Ů e;have p:(fs.map (·.1)).length<=sizeLine:=by rw[Ê,ā];lia
 refine Mf I.kG O c.sa c.po n.TZ c.hd i p λk B D=>h _ ?_;have hd:∃o,k.get? dx=À o:=let ⟨o,_,_,j,_⟩:=B.ns;⟨o,j⟩;refine I.write (x:=a) (e:=dx) (by rw[e];exact bt) (.inr d) (λb q l z=>(D.2 b l).trans z) hd ?_;refine⟨by rw[ä O.ne];exact d,?_,O.ne,B.obj,_,B.ns,λg=>?_,λg m=>?_⟩
 ·have:=qX f y fs;lia
 ·show k7 ((ko f y fs).lookup g) (if g=f then À u else mA g);rw[qY];by_cases q:g=f
  ·rw[Ì q,Ì q];exact t
  ·rw[Ö q,Ö q];exact r g
 ·by_cases q:g=f
  ·rw[q];exact(qi f y fs).1
  ·refine(qi f y fs).2 g (i g λz=>m ?_);show(if g=f then À u else mA g)=none;rw[Ö q];exact z
def Inv.made (I:Inv X ø σ H s):Inv X ø σ (upd (upd H s.heap.objs.size (.own (s.heap.objs.size+1))) (s.heap.objs.size+1) (.ins C s.heap.objs.size []))
  {s with heap:=(s.heap.push aa).push (bF C s.heap.objs.size)}:=by
 have c:(s.heap.push aa).get? s.heap.objs.size=À aa:=Ò s.heap rfl;have g:((s.heap.push aa).push (bF C s.heap.objs.size)).get? (s.heap.objs.size+1)=À (bF C s.heap.objs.size):=by
  have:=Ò (s.heap.push aa) (o:=bF C s.heap.objs.size) rfl;rwa [Ĺ]at this
 have h:(s.heap.push aa).Ns s.heap.objs.size (λ_=>none):=⟨aa,#[],_,c,rfl,(λe i=>absurd i (by simp)),λ_=>rfl⟩
 have B:=I.laid (a:=s.heap.objs.size) (o:=.own (s.heap.objs.size+1)) (h':=s.heap.push aa) (t':=s.toks) (λb u q=>Ä _ q) (Í _) ⟨_,c⟩;refine B.laid (a:=s.heap.objs.size+1) (o:=.ins C s.heap.objs.size []) (t':=s.toks) (λb u q=>Ä _ q) (gg (Ĺ _ _)) ?_;have d:s.heap.objs.size≠s.heap.objs.size+1:=ï (eG _);refine⟨by rw[ä d,ă],ĩ _,d,g,λ_=>none,(Heap.Ns1.of_empty h).at λo q=>Ä _ q,λ_=>bt,λy j=>absurd rfl j⟩
def Ke (c:bG e f env (ģ e env)=ģ e env)
  (h:Ø (Û prog w) A (ģ e env) (λo b=>Ø (Û prog w) A (getAttr o f true) Q E b) E s):Ø (Û prog w) A (ģ (.Attribute e f pos) env) Q E s:=
 Attribute_any_ h (by rw[arm_eval_Attribute,c])
end
def Xa (K:Ç)(d:TE)(f:Str):TE:=λe H Q=>d e H λx A=>∃a C c b v,x=.ref a/\A a=À (.ins C c b)/\zb K C/\ji K C f/\b.lookup f=À v/\Q v A
def WR (K:Ç)(e g:TE)(f:Str):TS:=λD c H=>g c H λy B=>e c B λx A=>∃a C d b,x=.ref a/\A a=À (.ins C d b)/\zb K C/\ji K C f/\b.length<1000/\
 D.nx c (upd A a (.ins C d (ko f y b)))
section
variable {X:Cx}{o e value:Expr}{f:Str}{pos pos' QO:jA}{ta tv:TE}
def PX (j:PE X e ta)(i:bG e f X.env (ģ e X.env)=ģ e X.env):PE X (.Attribute e f pos) (Xa X.K ta f):=by
 intro b s r H Q I h;refine Ke i (au (j b s r H _ I h) λu y p=>?_);obtain⟨x,A,B,m,a,C,t,w,v,g,d,c,n,l,q⟩:=p;subst g;obtain rfl:u=Ð a:=m;exact BD B d c n l λE z D k=>⟨v,A,D,k,q⟩
def Qb (j:PE X o ta)(k:PE X value tv)(hs:fb value (À (.Attribute o f pos')) pos.line X.env=pure false):PS X (.Assign [.Attribute o f pos'] value pos) (WR X.K ta tv f):=by
 intro b s d H D I h;refine plainObj_wpAny_Assign_Attribute (au (k b s d H _ I h) λu v w=>iv w λy A B t q=>au (j b v d A _ B q) λm M ⟨x,J,E,r,a,C,z,L,i,g,c,n,l,p⟩=>?_) hs;subst i;obtain rfl:m=Ð a:=r;exact Ce E g c n l t λN F=>⟨d,_,F,p⟩
def Nc (t:PE X e z)(I:Inv X d i H s)
  (h:z i H λx B=>∃a C j fs g,x=.ref a/\B a=À (.ins C j fs)/\zb X.K C/\Meth X.K C m g/\fs.lookup m=none/\
   ∀s1,Inv X d i B s1->Ø (Û X.prog X.w) X.A (wM pos (.ref g) [.ref a] (ĺ pos (Î args X.env)) (h_ pos (cc [] X.env))) Q X.xe s1)
  (v:ģ (.Call (.Attribute e m b) args [] pos) X.env=(do
   let n <-ģ e X.env
   j6 b.atName
   let (f,first) <-e_ [n] (nC n m pl)
   wM pos f first (ĺ pos (Î args X.env)) (h_ pos (cc [] X.env)))) :
  Ø (Û X.prog X.w) X.A (ģ (.Call (.Attribute e m b) args [] pos) X.env) Q X.xe s:=by
 refine lG (pl:=pl) (au (t d s i H _ I h) λu s1 ⟨x,B,D,y,a,C,j,fs,g,r,p,c,k,l,q⟩=>?_) v;subst r;obtain rfl:u=Ð a:=y;exact nR D p c k l (q s1 D)
end
section
variable {X:Cx}{ø:Â (Addr×Obj)}{σ:St}{H:Hp}{s:Ô}{A:Ŕ}{E:Value->Ô->Prop}{Q:Value->Ô->Prop}{c:Value}{b:Bool}
inductive rH (K:Ç) (H:Hp):V->Value->Prop where
 |Ě:rH K H .Ě (.type "NoneType")
 |bl (x:Bool):rH K H (.bl x) (.type "bool")
 |int (i:Int):rH K H (.int i) (.type "int")
 |str (x:Str):rH K H (.str x) (.type "str")
 |M0 (x:UInt64):rH K H (.M0 x) (.type "float")
 |lst {a:Addr}{xs:Â V}(e:H a=À (.lst xs)):rH K H (.ref a) (.type "list")
 |hY {a:Addr}{o:Obj}{xs:Â V}(e:H a=À (.hY o (.lst xs))):rH K H (.ref a) (.type "list")
 |tup {a:Addr}{xs:Â V}(e:H a=À (.tup xs)):rH K H (.ref a) (.type "tuple")
 |dK {a:Addr}{kvs:Â (Key×V)}(e:H a=À (.dK kvs)):rH K H (.ref a) (.type "dict")
 |dT {a:Addr}{kvs:Â (Â Key×V)}(e:H a=À (.dT kvs)):rH K H (.ref a) (.type "dict")
 |ins {a C dx:Addr}{fs:Â (Str×V)}(e:H a=À (.ins C dx fs)) (cl:zb K C) (ha:ú K (.ref C) "__class__"=À (À (.builtin "object.__class__")))
   (hn:fD K (.builtin "object.__class__") "__get__"=À (À (.builtin "getset_descriptor.__get__"))) (htk:h9 K (.builtin "object.__class__")=À true)
   (hm:oo K C (.type "object")=À true):rH K H (.ref a) (.ref C)
def mC (I:Inv X ø σ H s)(f:RelV x u)(M:rH X.K H x t)(e:mO X.K t c=À b)(h:∀L,Q (.bool b) {s with toks:=L}) :
  Ø (Û X.prog X.w) A (call (.builtin "isinstance") [u,c]) Q E s:=by
 cases M with
 |Ě=>cases (show u=í from f);exact ı PySem.W.kitx_none I.kG bt e (λz=>nomatch z) h
 |bl y=>cases (show u=e8 y from f);exact ı PySem.W.kitx_bool I.kG bt e (λz=>nomatch z) h
 |int i=>obtain⟨t,q⟩:=(show ∃t,u=kU i t from f);cases q;exact ı PySem.W.kitx_int I.kG bt e (λz=>nomatch z) h
 |str y=>obtain⟨t,q⟩:=(show ∃t,u=sS y t from f);cases q;exact ı PySem.W.kitx_str I.kG bt e (λz=>nomatch z) h
 |M0 y=>obtain⟨t,q⟩:=(show ∃t,u=Ed y t from f);cases q;exact ı PySem.W.kitx_float I.kG bt e (λz=>nomatch z) h
 |@lst a xs d=>
  cases (show u=Ð a from f);obtain⟨_,_,n,_,g⟩:=(show š X.prog X.w H s.heap a (.lst xs)from I.Ů a _ d)
  exact ı pR I.kG ⟨_,g,rfl⟩ e (λz=>nomatch z) h
 |@hY a F xs d=>
  cases (show u=Ð a from f);obtain⟨_,_,_,n,_,g⟩:=(show š X.prog X.w H s.heap a (.hY F (.lst xs))from I.Ů a _ d)
  exact ı pR I.kG ⟨_,g,rfl⟩ e (λz=>nomatch z) h
 |@tup a xs d=>
  cases (show u=Ð a from f);obtain⟨_,_,_,p⟩:=(show š X.prog X.w H s.heap a (.tup xs)from I.Ů a _ d)
  obtain⟨o,g,k,_⟩:=p;exact ı Ea I.kG ⟨o,g,k⟩ e (λz=>nomatch z) h
 |@dK a j d=>
  cases (show u=Ð a from f);obtain⟨_,_,U,_,p⟩:=(show š X.prog X.w H s.heap a (.dK j)from I.Ů a _ d)
  obtain⟨o,r,m,g,k,_⟩:=p;exact ı pQ I.kG ⟨o,g,k.1⟩ e (λz=>nomatch z) h
 |@dT a j d=>
  cases (show u=Ð a from f);obtain⟨_,_,xs,_,o,r,m,g,k,_⟩:=(show š X.prog X.w H s.heap a (.dT j)from I.Ů a _ d)
  exact ı pQ I.kG ⟨o,g,k.1⟩ e (λz=>nomatch z) h
 |@ins a C N P d cl v D l B=>
  cases (show u=Ð a from f);obtain⟨mA,O,_⟩:=sv I.Ů d;obtain⟨T,J,_⟩:=O.look;exact ı (PySem.W.kitx_own (cl.get _) cl.hd v D l B) I.kG J e (λz=>nomatch z) h
end
structure cW (k:Nat)(A:Ŕ):Prop where
 hd:A.handled=none
 gd:A.guards=À []
 dp:A.depth+3*k+5<recursionLimit
 un:A.units+16*k+200<cLine
def cW.mono (r:cW k A)(h:j<=k):cW j A:=⟨r.hd,r.gd,by have:=r.dp;lia,by have:=r.un;lia⟩
theorem cW.deeper (r:cW (k+1) A) (env:Jw):cW k (A.deeper env):=
 ⟨r.hd,r.gd,by have:=r.dp;show A.depth+1+3*k+5<_;lia,by have:=r.un;show A.units+3+16*k+200<_;lia⟩
def BQ {A:Ŕ}{C:Addr}{us:Â Value}{a:Â (Str×Value)}:(A.under (.builtin "type.__call__" ⟨.ref C::us,a⟩)).depth=A.depth+1:=by
 first|rfl|simp[qL,Code.weight,Code.isCreation,Ua,Code.isCaller,U5,CF,guardIds]
def BR {A:Ŕ}{C:Addr}{us:Â Value}{a:Â (Str×Value)}:(A.under (.builtin "type.__call__" ⟨.ref C::us,a⟩)).units=A.units+1:=by
 first|rfl|simp[qL,Code.cUnits,U5,CF]
def Aa {A:Ŕ}{C:Addr}{us:Â Value}{a:Â (Str×Value)}:(A.under (.builtin "type.__call__" ⟨.ref C::us,a⟩)).guards=A.guards:=by
 first|rfl|simp[qL,Code.guards,pushGuards,Ua,guardIds]
def cW.make {k:Nat}{A:Ŕ}(r:cW (k+1) A) (C:Addr)(us:Â Value)(a:Â (Str×Value)):cW k (A.under (.builtin "type.__call__" ⟨.ref C::us,a⟩)):=
 ⟨r.hd,by rw[Aa];exact r.gd,by have:=r.dp;rw[BQ];lia,by have:=r.un;rw[BR];lia⟩
theorem cW.depth (r:cW k A):A.depth<recursionLimit:=by have:=r.dp;lia
theorem cW.units (r:cW k A):A.units+64<cLine:=by have:=r.un;lia
def Cp:TA:=λ_ H Q=>Q [] H
def wx (b:TE)(c:TA):TA:=λa H Q=>b a H λx A=>c a A λxs B=>Q (x::xs) B
section
variable {X:Cx}{e:Expr}{es:Â Expr}{te:TE}{t:TA}{pos:jA}
def iM:PA X [] Cp:=λ_ _ _ _ H Q I h=>rh ⟨[],H,I,.nil,h⟩
def cu (d:PE X e te)(hr:PA X es t)(hs:Î (e::es) X.env=(false,ģ e X.env)::Î es X.env:=by rfl):PA X (e::es) (wx te t):=by
 intro pos a s c H Q I h;rw[hs];show Ø _ _ (spliced ((false,ģ e X.env)::ĺ pos (Î es X.env))) _ _ s;refine pO (au (d a s c H _ I h) λu k b=>iv b λx A C i f=>?_);exact au (hr pos a k c A _ C f) λus l b=>iv b λxs B D j g=>⟨x::xs,B,D,.cons i j,g⟩
def Xk (t:TA):TE:=λa H Q=>t a H λxs A=>xs.length<=sizeLine/\∀p,A p=none->Q (.ref p) (upd A p (.tup xs))
def Xe (t:TA):TE:=λa H Q=>t a H λxs A=>xs.length<=sizeLine/\∀p,A p=none->Q (.ref p) (upd A p (.lst xs))
def B4 (h:PA X es t):PE X (.Tuple es x1 pos) (Xk t):=by
 intro a s g H Q I f;refine wpAny_Tuple_spliced (au (h pos a s g H _ I f) λus c ⟨xs,A,B,r,z,q⟩=>⟨by rw[<-r.length];exact z,?_⟩);have d:A c.heap.objs.size=none:=B.Ů.fresh (Í _);refine⟨.ref c.heap.objs.size,upd A c.heap.objs.size (.tup xs),B.laid (t':=c.toks) (λb u e=>Ä _ e) (Í _) ?_,rfl,q _ d⟩;exact⟨z,us,r,⟨_,Ò _ rfl,rfl,_,rfl⟩⟩
def P0 (h:PA X es t):PE X (.List es pos) (Xe t):=by
 intro a s g H Q I f;refine wpAny_List_spliced (au (h pos a s g H _ I f) λus c ⟨xs,A,B,r,z,q⟩=>⟨by rw[<-r.length];exact z,?_⟩);have d:A c.heap.objs.size=none:=B.Ů.fresh (Í _);refine⟨.ref c.heap.objs.size,upd A c.heap.objs.size (.lst xs),B.laid (t':=c.toks) (λb u e=>Ä _ e) (Í _) ?_,rfl,q _ d⟩;exact⟨z,us,0,r,Ò _ rfl⟩
end
abbrev Sp:=Â V->Hp->VK->XK->Prop
abbrev Ge:=Â Jw->Hp->Ô->XK->Value->Ô->Prop
structure Bd (P:ą)(w:ħ)(K:Ç)(mg:Str->É Value)(base:Heap)(A:Ŕ)(outer:Â Jw)(s:Ô)(H:Hp):Prop where
 frames:A.frames=À outer
 mod:Mod K mg base
 bs:∀b o,base.get? b=À o->s.heap.get? b=À o/\H b=none
 Et:base.objs.size<=s.heap.objs.size
 nQ:s.heap.FunFrames base outer
 JQ:∀b∈yJ outer,H b=none
 Ů:ly P w H s.heap
 bare:md s.gens
def CE (outer:Â Jw)(P:ą)(w:ħ)(H:Hp)(s:Ô)(Q:VK)(u:Value)(s':Ô):Prop:=
 ∃v A,s'.os=s.os/\md s'.gens/\Un (yJ outer) [] H A s.heap s'.heap/\ly P w A s'.heap/\RelV v u/\Q v A
def CR (CX:Ge)(outer:Â Jw)(P:ą)(w:ħ)(H:Hp)(s:Ô)(Q:VK)(E:XK)(r:Rn)(s':Ô):Prop:=
 match r with
 |.ok (.ret u)=>CE outer P w H s Q u s'
 |.ok _=>False
 |.error e=>CX outer H s E e s'
structure ie (P:ą)(w:ħ)(K:Ç)(mg:Str->É Value)(base:Heap)(CX:Ge)(k:Nat)(f:Addr)(fd:dC)(ps:Â Str)(sp:Sp):Prop where
 len:∀vs H Q E,sp vs H Q E->vs.length=ps.length
 run:∀A outer s H args us vs Q E,cW k A->Bd P w K mg base A outer s H->r4 s fd args (ps.zip us)->Vals vs us->sp vs H Q E->
  ef (Û P w) A (.call (.ref f) args) (CR CX outer P w H s Q E) s
def ie.imp {P:ą}{w:ħ}{K:Ç}{mg:Str->É Value}{base:Heap}{CX:Ge}{k:Nat}{f:Addr}{d:dC}{ps:Â Str}{sp c:Sp}(F:ie P w K mg base CX k f d ps sp)
  (h:∀vs H Q E,c vs H Q E->sp vs H Q E):ie P w K mg base CX k f d ps c:=
 ⟨λvs H Q E q=>F.len vs H Q E (h _ _ _ _ q),λA a s H b us vs Q E hr g e j i=>F.run A a s H b us vs Q E hr g e j (h _ _ _ _ i)⟩
def Bd.make {P:ą}{w:ħ}{K:Ç}{mg:Str->É Value}{base:Heap}{A:Ŕ}{outer:Â Jw}{s:Ô}{H:Hp}(e:Bd P w K mg base A outer s H)(C:Addr)(us:Â Value)(a:Â (Str×Value)) :
  Bd P w K mg base (A.under (.builtin "type.__call__" ⟨.ref C::us,a⟩)) outer s H:=⟨by first|exact e.frames|(simpa[qL,Code.envs,CF,pushEnvs]using e.frames),e.mod,e.bs,e.Et,e.nQ,e.JQ,e.Ů,e.bare⟩
section
variable {X:Cx}{ø:Â (Addr×Obj)}{σ:St}{H:Hp}{s s':Ô}
def Inv.R1 (I:Inv X ø σ H s):Bd X.prog X.w X.K X.mg X.base X.A X.stack s H:=
 ⟨I.ok.frames,I.ok.mod,I.bs,ł I.ok.Et I.sz,I.stack,I.sE,I.Ů,I.bare⟩
def Inv.after (I:Inv X ø σ H s)(h:CE X.stack X.prog X.w H s Q u s'):EP X ø σ Q u s':=by
 obtain⟨v,A,os,a,un,c,r,q⟩:=h;obtain⟨f,g,d,t,e⟩:=s';obtain rfl:e=s.os:=os;exact⟨v,A,I.call (h':=f) (g':=g) (d':=d) (t':=t) (ch:=[]) un c a (λb z=>absurd z (by simp)),r,q⟩
end
def Nq (sp:Sp)(a:Â V)(E:XK)(t:TA):TE:=λc H Q=>t c H λb A=>sp (b++a) A Q E
def IU (C:Addr)(m:Str)(sp:Sp)(b:Â V)(E:XK)(f:TE)(t:TA):TE:=λd H Q=>f d H λx A=>∃a e c,x=.ref a/\A a=À (.ins C e c)/\c.lookup m=none/\
 t d A λg B=>sp (x::(g++b)) B Q E
def TN (C:Addr)(sp:Sp)(b:Â V)(E:XK)(t:TA):TE:=λd H Q=>t d H λc A=>∀x a,A x=none->A a=none->a≠x->
 sp (.ref x::(c++b)) (upd (upd A a (.own x)) x (.ins C a [])) (λv B=>v=.Ě/\Q (.ref x) B) E
def Binds (K:Ç)(a:dC)(ps:Â Str)(ds:Â Value):Prop:=
 ∀s us,K.In s.heap->(us++ds).length=ps.length->r4 s a ⟨us,[]⟩ (ps.zip (us++ds))
def Binds.all {K:Ç}{a:dC}{ps:Â Str}(h:∀us:Â Value,us.length=ps.length->jf a ⟨us,[]⟩=pure (ps.zip us)):Binds K a ps []:=λs us _ hl=>by
 rw[ð]at hl⊢;exact .of_eq (h us hl)
def Passes (CX:Ge)(X:Cx)(E:XK):Prop:=∀a b H s e s',Inv X a b H s->CX X.stack H s E e s'->X.xe e s'
section
variable {X:Cx}{CX:Ge}{k:Nat}{f C:Addr}{fd:dC}{ps:Â Str}{sp:Sp}{Bz:Â V}{ds:Â Value}{E:XK}{x m:Str}{p pos lI:jA}{e o:Expr}{es:Â Expr}{ta:TE}{t:TA}
def Cb (F:ie X.prog X.w X.K X.mg X.base CX k f fd ps sp)(hr:cW k X.A)(i:Binds X.K fd ps ds)(hd:Vals Bz ds)(j:Passes CX X E)
  (I:Inv X a d H s) (r:Vals vs us) (h:sp (vs++Bz) H Q E):Ø (Û X.prog X.w) X.A (call (.ref f) us) (EP X a d Q) X.xe s:=by
 have c:Vals (vs++Bz) (us++ds):=r.append hd;have hl:(us++ds).length=ps.length:=by rw[<-c.length];exact F.len _ _ _ _ h
 refine vd (ow (F.run X.A X.stack s H ⟨us,[]⟩ (us++ds) (vs++Bz) Q E hr I.R1 (i s us I.kG hl) c h) λr s' b=>?_);cases r with
 |error e=>exact j a d H s e s' I b
 |ok g=>
  cases g with
  |ret u=>exact I.after b
  |next=>exact aB b
  |brk=>exact aB b
  |cont=>exact aB b
def LI (F:ie X.prog X.w X.K X.mg X.base CX k f fd ps sp)(hr:cW k X.A)(j:Gl X x)(l:X.mg x=À (.ref f)) (hk:ĵ X.K (.ref f)=true) (g:Binds X.K fd ps ds)(hd:Vals Bz ds)(n:Passes CX X E)
  (d:PA X (e::es) t) (b:(x == ("__debug__":Str))=false:=by decide) (i:Î (e::es) X.env=(false,ģ e X.env)::Î es X.env:=by rfl) (c:(ĺ pos (Î es X.env)).any (·.1)=false:=by rfl) :
  PE X (.Call (.Name x p) (e::es) [] pos) (Nq sp Bz E t):=by
 intro a s v H Q I h;refine bO (oR I j l ?_ b);refine ou (h₀:=X.base) I.ok.mod.Sl hk (au (d pos a s v H _ I h) λus y u=>iv u λz D B r q=>⟨B.kG,?_⟩) i c;exact Cb F hr g hd n B r q
def LN (M:PE X o ta)(c:zb X.K C)(i:Meth X.K C m f)(F:ie X.prog X.w X.K X.mg X.base CX k f fd ps sp)(hr:cW k X.A)(L:Binds X.K fd ps ds)(hd:Vals Bz ds)(O:Passes CX X E)(z:PA X (e::es) t)
  (g:Î (e::es) X.env=(false,ģ e X.env)::Î es X.env:=by rfl) (d:(ĺ pos (Î es X.env)).any (·.1)=false:=by rfl)
  (N:ģ (.Call (.Attribute o m lI) (e::es) [] pos) X.env=(do
   let j <-ģ o X.env
   j6 lI.atName
   let (f,first) <-e_ [j] (nC j m pl)
   wM pos f first (ĺ pos (Î (e::es) X.env)) (h_ pos (cc [] X.env))):=by rfl) :
  PE X (.Call (.Attribute o m lI) (e::es) [] pos) (IU C m sp Bz E ta t):=by
 intro b s n H Q I h;refine lG (pl:=pl) (au (M b s n H _ I h) λu U ⟨x,J,B,T,a,dx,fs,y,v,l,q⟩=>?_) N;subst y;obtain rfl:u=Ð a:=T;refine nR B v c i l ?_;refine ou (first:=[.ref a]) (h₀:=X.base) I.ok.mod.Sl i.kp (au (z pos b U n J _ B q) λus s2 Y=>iv Y λvs Z D r P=>⟨D.kG,?_⟩) g d;exact Cb (us:=.ref a::us) (vs:=.ref a::vs) F hr L hd O D (.cons rfl r) P
def Ig (r:PE X o ta)(c:zb X.K C)(d:Meth X.K C m f)(F:ie X.prog X.w X.K X.mg X.base CX k f fd ps sp)(hr:cW k X.A)(n:Binds X.K fd ps ds)(hd:Vals Bz ds)(y:Passes CX X E)
  (v:ģ (.Call (.Attribute o m lI) [] [] pos) X.env=(do
   let g <-ģ o X.env
   j6 lI.atName
   let (f,first) <-e_ [g] (nC g m pl)
   wM pos f first (ĺ pos (Î [] X.env)) (h_ pos (cc [] X.env))):=by rfl) :
  PE X (.Call (.Attribute o m lI) [] [] pos) (IU C m sp Bz E ta Cp):=by
 intro b s D H Q I h;refine lG (pl:=pl) (au (r b s D H _ I h) λu N ⟨x,J,B,z,a,L,M,j,i,l,q⟩=>?_) v;subst j;obtain rfl:u=Ð a:=z;refine nR B i c d l ?_;exact CG (first:=[.ref a]) B.kG d.kp (Cb (us:=[.ref a]) (vs:=[.ref a]) F hr n hd y B (.cons rfl .nil) q)
structure Mk (K:Ç)(C f:Addr):Prop where
 makes:sP K C=true
 init:ú K (.ref C) "__init__"=À (À (.ref f))
 fn:kS K (.ref f)=true
 kp:ĵ K (.ref C)=true
def IE (M:Mk X.K C f)(F:ie X.prog X.w X.K X.mg X.base CX k f fd ps sp)(hr:cW (k+1) X.A) (n:Binds X.K fd ps ds)(hd:Vals Bz ds)
  (q:Passes CX X E) (I:Inv X b i H s) (r:Vals vs us)
  (h:∀x c,H x=none->H c=none->c≠x->sp (.ref x::(vs++Bz)) (upd (upd H c (.own x)) x (.ins C c [])) (λv J=>v=.Ě/\Q (.ref x) J) E) :
  Ø (Û X.prog X.w) X.A (call (.ref C) us) (EP X b i Q) X.xe s:=by
 have d:=h (s.heap.objs.size+1) s.heap.objs.size (I.Ů.fresh (F5 _)) (I.Ů.fresh (Í _)) (ï (eG _));have B:=Inv.made (C:=C) I;have g:Vals (V.ref (s.heap.objs.size+1)::(vs++Bz)) (Ð (s.heap.objs.size+1)::(us++ds)):=.cons rfl (r.append hd);have hl:(Ð (s.heap.objs.size+1)::us++ds).length=ps.length:=by
  have e:=g.length;rw[F.len _ _ _ _ d]at e;exact e.symm
 refine vd (Hu (f:=f) I.kG M.makes M.init (kX.mp M.fn) (ow (F.run _ X.stack _ _ ⟨Ð (s.heap.objs.size+1)::us,[]⟩ (Ð (s.heap.objs.size+1)::(us++ds)) _ _ E (hr.make C us [])
  (B.R1.make C us []) (n _ (Ð (s.heap.objs.size+1)::us) B.kG hl) g d) λr s' a=>?_))
 cases r with
 |error e=>exact q b i _ _ e s' B a
 |ok l=>
  cases l with
  |ret u=>
   obtain⟨v,D,L,rv,j,y⟩:=B.after a;subst j;exact⟨rv,⟨V.ref (s.heap.objs.size+1),D,L,rfl,y⟩⟩
  |next=>exact aB a
  |brk=>exact aB a
  |cont=>exact aB a
def Ie (M:Mk X.K C f)(F:ie X.prog X.w X.K X.mg X.base CX k f fd ps sp)(hr:cW (k+1) X.A) (d:Gl X x)(g:X.mg x=À (.ref C)) (c:Binds X.K fd ps ds)(hd:Vals Bz ds)(i:Passes CX X E)
  (a:(x == ("__debug__":Str))=false:=by decide):PE X (.Call (.Name x p) [] [] pos) (TN C sp Bz E Cp):=by
 intro b s j H Q I h;refine bO (oR I d g ?_ a);exact CG I.kG M.kp (IE (us:=[]) M F hr c hd i I .nil h)
end
section
variable {X:Cx}{CX:Ge}{k:Nat}{f C:Addr}{fd:dC}{ps ks:Â Str}{sp:Sp}{E:XK}{x m:Str}{p pos lI aad:jA}{e o:Expr}{es:Â Expr}{kws:Â jX}{te ta:TE}{t tk:TA}{nm:É Str}
variable {g:Â Value->Â Value->Â Value}{gV:Â V->Â V->Â V}
end
structure ij (N P:Â Str)(sc:Scope):Prop where
 kind:sc.kind=.function
 co:sc.isCoroutine=false
 gen:sc.isGenerator=false
 nd:N.Nodup
 pre:N.take P.length=P
 par:∀x∈P,sc.names.lookup x=À .local∨sc.names.lookup x=À .cell
 Pt:∀y∈sc.names,y.2≠.free
theorem vI {kindOf:Str->É kO}{x:Str}:∀{a:Â (Str×Value)}{m:Str->É Value},(∀v,(x,v)∉a)->JG kindOf a m x=m x
 |[],_,_=>rfl
 |(n,v)::r,m,h=>by
  unfold JG;rw[vI λw hw=>h w (ÿ _ hw)];split
  ·have:x≠n:=by rintro rfl;exact h v Ļ
   simp[this]
  ·rfl
theorem vG {kindOf:Str->É kO}{x:Str}:∀{a:Â (Str×Value)}{m:Str->É Value},(∀v,(x,v)∉a)->JF kindOf a m x=m x
 |[],_,_=>rfl
 |(n,v)::r,m,h=>by
  unfold JF;rw[vG λw hw=>h w (ÿ _ hw)];split
  ·rfl
  ·have:x≠n:=by rintro rfl;exact h v Ļ
   simp[this]
theorem vH {kindOf:Str->É kO}{x:Str}{v:Value}:∀{P:Â Str}{vs:Â Value}{i:Nat}{m:Str->É Value},P.Nodup->P[i]?=À x->vs[i]?=À v->kindOf x=À .local->
  JG kindOf (P.zip vs) m x=À v
 |[],_,_,_,_,h,_,_=>by simp at h
 |_::_,[],_,_,_,_,h,_=>by simp at h
 |p::P,w::vs,0,m,nd,a,b,c=>by
  simp at a b;subst a;subst b;show JG kindOf ((p,w)::P.zip vs) m p=_;unfold JG;rw[vI λv d=>(cY.mp nd).1 (vA d).1,Ì c];simp
 |p::P,w::vs,i+1,m,nd,a,b,c=>by
  show JG kindOf ((p,w)::P.zip vs) m x=_;unfold JG;exact vH (i:=i) (cY.mp nd).2 (by simpa using a) (by simpa using b) c
theorem vF {kindOf:Str->É kO}{x:Str}{v:Value}:∀{P:Â Str}{vs:Â Value}{i:Nat}{m:Str->É Value},P.Nodup->P[i]?=À x->vs[i]?=À v->kindOf x≠À .local->
  JF kindOf (P.zip vs) m x=À v
 |[],_,_,_,_,h,_,_=>by simp at h
 |_::_,[],_,_,_,_,h,_=>by simp at h
 |p::P,w::vs,0,m,nd,a,b,c=>by
  simp at a b;subst a;subst b;show JF kindOf ((p,w)::P.zip vs) m p=_;unfold JF;rw[vG λv d=>(cY.mp nd).1 (vA d).1,Ö c];simp
 |p::P,w::vs,i+1,m,nd,a,b,c=>by
  show JF kindOf ((p,w)::P.zip vs) m x=_;unfold JF;exact vF (i:=i) (cY.mp nd).2 (by simpa using a) (by simpa using b) c
def start (N:Â Str)(vs:Â V):St:=vs.map À++è (N.length-vs.length) none
noncomputable def k_ (CX:Ge)(P:ą)(w:ħ)(K:Ç)(mg:Str->É Value)(base:Heap)(N:Â Str)(qual:Str)(scope:Scope)(f:Addr)(cd:Value)(A:Ŕ)(outer:Â Jw)(s:Ô)(H:Hp)(E:XK):Cx where
 prog:=P
 w:=w
 K:=K
 mg:=mg
 base:=base
 A:=A.deeper (y6 qual scope s.heap.objs.size f cd)
 N:=N
 iX:=s
 vf:=H
 env:=y6 qual scope s.heap.objs.size f cd
 outer:=outer
 stack:=y6 qual scope s.heap.objs.size f cd::outer
 ex:=[]
 calm:=true
 fn:=λ_=>true
 pn:=[]
 xe:=λe s'=>Ø (Û P w) (A.deeper (y6 qual scope s.heap.objs.size f cd)) (leaving (y6 qual scope s.heap.objs.size f cd) e) (λ_ WQ=>CX outer H s E e WQ) (λe' WQ=>CX outer H s E e' WQ) s'
def zp {a:Scope}{n:Nat}{x:Str}(h:a.names.lookup x=À .cell):∃c,(bI n a.names []).lookup x=À c:=by
 have q:=kR a.names n [] (.inl h);exact bQ.mp q
def EX {CX:Ge}{P:ą}{w:ħ}{K:Ç}{mg:Str->É Value}{base:Heap}{N ps:Â Str}{d:Str}{scope:Scope}{f:Addr}{t:Value}{A:Ŕ}{outer:Â Jw}{s s1:Ô}{H:Hp}{E:XK}{us:Â Value}{vs:Â V}
  (S:ij N ps scope) (hd:A.handled=none) (j:Bd P w K mg base A outer s H) (hl:vs.length=ps.length) (r:Vals vs us)
  (x:InCallC s s.heap.objs.size (JG (y6 d scope s.heap.objs.size f t).kindOf (ps.zip us) λ_=>none) (bI (s.heap.objs.size+1) scope.names []) (JF (y6 d scope s.heap.objs.size f t).kindOf (ps.zip us) λ_=>none) s1) :
  Inv (k_ CX P w K mg base N d scope f t A outer s H E) [] (start N vs) H s1:=by
 have I:ps.length<=N.length:=by have:=à cK S.pre;rw[cz]at this;lia
 obtain⟨B,L,rfl,D⟩:=x.done;have l:∀b:Addr,b∉(k_ CX P w K mg base N d scope f t A outer s H E).ex:=λb z=>absurd (show b∈([]:Â Addr)from z) (by simp);refine⟨⟨j.mod,S.kind,rfl,rfl,Í _,λy z c B g=>?_,λy hy=>?_,λy c _ h=>?_,λ_=>hd,Around.frames_deeper j.frames,.inr ⟨rfl,rfl⟩,λb z=>absurd z (l b),j.bs,j.Et,λb _ _=>l b,λb z=>absurd z (l b),j.nQ,j.JQ⟩,
  rfl,j.bare,Un.kept D,⟨_,x.toInCall.ns,λi y v B g J=>?_⟩,λy c h=>⟨_,x.cell y c h⟩,j.Ů.fresh (Í _),λy c h=>?_,λp m=>absurd (show p∈([]:Â (Addr×Obj))from m) (by simp),j.Ů.kept D,?_⟩
 ·exact name_of_addr x.apart (eI B) (eI g)
 ·have hy:scope.names.lookup y=À .cell∨scope.names.lookup y=À .free:=hy;rcases hy with hy|hy
  ·exact zp hy
  ·exact absurd rfl (S.Pt _ (eI hy))
 ·exact Ħ (x.above y c (eI h))
 ·have C:i<vs.length:=by
   unfold start at g;by_cases C:i<vs.length
   ·exact C
   ·rw[ñ (by simpa using C)]at g;rw[lr]at g;split at g<;>cases g
  have F:vs[i]?=À v:=by
   unfold start at g;rw[Ü (by simpa using C),ê]at g;cases e:vs[i]? with
   |none=>rw[e]at g;cases g
   |some a=>rw[e]at g;cases g;rfl
  obtain⟨u,hu,rv⟩:=r.get F;have m:ps[i]?=À y:=by
   rw[<-S.pre,bY (by lia)];exact B
  have o:ps.Nodup:=by rw[<-S.pre];exact S.nd.sublist (JY _ _)
  refine⟨u,rv,?_⟩;rcases S.par y (Ā m)with k|k
  ·exact .inl ⟨k,vH o m hu k⟩
  ·obtain⟨c,e⟩:=zp (n:=s.heap.objs.size+1) k;refine .inr ⟨.inl k,c,e,?_⟩;have q:=x.cell y c e;rw[vF o m hu (by show scope.names.lookup y≠_;rw[k];decide)]at q;exact q
 ·exact j.Ů.fresh (Ħ (x.above y c (eI h)))
 ·unfold start;show _=N.length;rw[ć,Ê,D1];lia
def M3 {CX:Ge}{P:ą}{w:ħ}{K:Ç}{mg:Str->É Value}{base:Heap}{k:Nat}{f:Addr}{name a:Str}{d:Arguments}{body:Â Stmt}{scope:Scope}{T kV l U c ct oc:Value}{M od:É Addr}
  {F:Č (É Value)}{N ps:Â Str}{sp:Sp}(lk:K.lookup f=À ⟨oc,od,.func (Ņ name a d body scope T kV l U M c ct),F⟩) (C:dg K c a=true) (S:ij N ps scope)
  (B:∀vs H Q E,sp vs H Q E->vs.length=ps.length)
  (h:∀A outer s H vs Q E,cW k (A.deeper (y6 a scope s.heap.objs.size f c))->sp vs H Q E->
   ∃t,lH (k_ CX P w K mg base N a scope f c A outer s H E) body t/\t {nx:=λ_ H'=>Q .Ě H',rt:=Q} (start N vs) H) :
  ie P w K mg base CX (k+1) f (Ņ name a d body scope T kV l U M c ct) ps sp:=by
 refine⟨B,λA outer s H O us vs Q E hr m hb r z=>?_⟩;have hl:=B _ _ _ _ z;have L:K.In s.heap:=m.mod.Sl.keeps λb o e=>(m.bs b o e).1;have D:s.heap.NoLimit:=m.mod.nolimit.keeps λb o e=>(m.bs b o e).1;have i:∀y∈ps.zip us,scope.names.lookup y.1=À .local∨(scope.names.lookup y.1=À .cell/\((bI (s.heap.objs.size+1) scope.names []).lookup y.1).isSome=true):=λ⟨n,v⟩ hy=>by
  rcases S.par n (vA hy).1 with q|q
  ·exact .inl q
  ·exact .inr ⟨q,kR _ _ _ (.inl q)⟩
 refine codeAny_call_function hr.depth (L _ _ lk) rfl S.co S.gen rfl (PySem.W.codeRec_of L C) (hb _ _ _ _ ?_);refine wpAny_newFunctionEnv_cells S.kind i λY he X x=>?_;subst he;refine⟨D.keeps x.toInCall.keep,codeAny_func ?_⟩;obtain⟨t,ht,hq⟩:=h A outer s H vs Q E (hr.deeper _) z;have I:Inv (k_ CX P w K mg base N a scope f c A outer s H E) [] (start N vs) H X:=EX S hr.hd m hl r x;refine aw (ht [] X (start N vs) H _ I hq) (λZ s' j=>?_) λe s' j=>j;have p:∀{g:St}{H':Hp}{v:V}{u:Value},Inv (k_ CX P w K mg base N a scope f c A outer s H E) [] g H' s'->RelV v u->Q v H'->CE outer P w H s Q u s':=
  λ{g H' v u} J rv q=>⟨v,H',J.os,J.bare,J.base,J.Ů,rv,q⟩
 cases Z with
 |ret u=>
  obtain⟨v,g,H',J,rv,q⟩:=j;exact p J rv q
 |next=>
  obtain⟨g,H',J,q⟩:=j;exact p (v:=V.Ě) (u:=í) J rfl q
 |brk=>
  obtain⟨_,_,_,q⟩:=j;exact aB q
 |cont=>
  obtain⟨_,_,_,q⟩:=j;exact aB q
section
variable {X:Cx}{x:Str}{p pos:jA}{e:Expr}{es:Â Expr}{t:TA}{id T:String}{r:Â V->Hp->VK->Prop}
def Rc (r:Â V->Hp->VK->Prop)(t:TA):TE:=λb H Q=>t b H λa A=>r a A Q
def gD (g:cQ X (.builtin id) r) (j:Gl X x)(k:X.mg x=none)(m:Ĳ x=À (.builtin id)) (f:PA X (e::es) t) (l:x≠"__name__":=by decide)(b:(x == ("__debug__":Str))=false:=by decide)
  (i:Î (e::es) X.env=(false,ģ e X.env)::Î es X.env:=by rfl) (c:(ĺ pos (Î es X.env)).any (·.1)=false:=by rfl):PE X (.Call (.Name x p) (e::es) [] pos) (Rc r t):=by
 intro a s d H Q I h;refine bO (qj I j k m ?_ l b);exact XC (au (f pos a s d H _ I h) λus q v=>iv v λu A B o n=>g a q d A u us Q B o n) i c
def Fw (g:cQ X (.type T) r) (j:Gl X x)(k:X.mg x=none)(m:Ĳ x=À (.type T)) (f:PA X (e::es) t) (l:x≠"__name__":=by decide)(b:(x == ("__debug__":Str))=false:=by decide)
  (i:Î (e::es) X.env=(false,ģ e X.env)::Î es X.env:=by rfl) (c:(ĺ pos (Î es X.env)).any (·.1)=false:=by rfl):PE X (.Call (.Name x p) (e::es) [] pos) (Rc r t):=by
 intro a s d H Q I h;refine bO (qj I j k m ?_ l b);exact gH (au (f pos a s d H _ I h) λus q v=>iv v λu A B o n=>g a q d A u us Q B o n) i c
end
end L2
namespace HT
open PySem PyProof.Rows
section
open PySem.SeqAt
open PySem.AutoSeq1 (wpAny_loadPart')
open PySem.MeetsSeq PySem.MeetsSeq2 PySem.MeetsSeq3
end
section
variable {prog:ą}{w:ħ}{A:Ŕ}{E:Value->Ô->Prop}{s:Ô}
def Kn (u:Jx s.heap t vs.toArray)(r:Jx s.heap b ws.toArray)(l:vs≠[])
  (p:ws=[]->Q (.ref t) s) (q:ws≠[]->Q (.ref s.heap.objs.size) {s with heap:=s.heap.push {cls:=.type "tuple",data:=.seq (vs++ws).toArray}})
  (hsz:vs.length+ws.length<=sizeLine):Ø (Û prog w) A (aY .Add (.ref t) (.ref b)) Q E s:=by
 obtain⟨⟨cls,j,data,o⟩,h,k,n,hd⟩:=id u;obtain⟨⟨i,c,data2,g⟩,a,d,m,f⟩:=id r;simp only at k hd d f;subst k hd d f;have e:vs.toArray++ws.toArray=(vs++ws).toArray:=by simp
 by_cases hw:ws=[]
 ·exact J4 ⟨_,h,rfl⟩ ⟨_,a,rfl⟩ y8 F_ kQ jZ (jB _ _)
   (tuple_addW1 t b vs.toArray ws.toArray n m j c o g (by simpa using l) (by simp[hw])) ⟨h,a,p hw⟩
 ·refine J4 ⟨_,h,rfl⟩ ⟨_,a,rfl⟩ y8 F_ kQ jZ (jB _ _)
   (tuple_addW2 t b vs.toArray ws.toArray n m j c o g (by simpa using l) (by simpa using hw) (by rw[Ú,Ú];exact hsz)) ⟨h,a,?_⟩
  rw[e];exact q hw
def c_ (n d:Nat):É Int->Nat
 |none=>d
 |some v=>if v<0 then (v+(n:Int)).toNat else min v.toNat n
def Qt (n d:Nat)(hd:d<=n)(o:É Int):c_ n d o<=n:=by
 cases o with
 |none=>exact hd
 |some v=>
  show(if v<0 then (v+(n:Int)).toNat else min v.toNat n)<=n;by_cases a:v<0
  ·rw[Ì a];lia
  ·rw[Ö a];exact Nat.min_le_right _ _
def CV (v:Int)(n d:Nat):(if v<0 then max (v+(n:Int)) 0 else min v (n:Int))=((c_ n d (À v):Nat):Int):=by
 show(if v<0 then max (v+(n:Int)) 0 else min v (n:Int))=(((if v<0 then (v+(n:Int)).toNat else min v.toNat n):Nat):Int)
 by_cases a:v<0
 ·simp only[Ì a];lia
 ·simp only[Ö a];lia
def Bf (lo a:É Int)(n:Nat):h8 lo a 1 (n:Int)=(((c_ n 0 lo:Nat):Int),((c_ n n a:Nat):Int)):=by
 have b:¬((1:Int)<0):=by lia
 unfold h8;simp only[b,ia];refine yz ?_ ?_
 ·cases lo with
  |none=>rfl
  |some v=>exact CV v n 0
 ·cases a with
  |none=>rfl
  |some v=>exact CV v n n
def B5 (i j:Nat):cX (i:Int) (j:Int) 1=j-i:=by
 unfold cX;have a:(1:Int) > 0:=by lia
 simp only[a,f9,Int.ediv_one];split<;>lia
def uE (p:rm v o)(h:Q o s):Ø (Û prog w) A (U3 v) Q E s:=by
 cases p with
 |none=>exact Y6 h
 |int i t=>exact slicePart_int h
def jP {f:Addr}{d e:Value}{lo b:É Int}{n:Nat}{Q:Int×Int×Nat->Ô->Prop}(hs:s.heap.IsSliceOf f d e .none)(pl:rm d lo)(i:rm e b)
  (h:Q (((c_ n 0 lo:Nat):Int),1,c_ n n b-c_ n 0 lo) s):Ø (Û prog w) A (pL (.ref f) (pure (n:Int))) Q E s:=by
 obtain⟨os,c,g,a⟩:=id hs;unfold pL U2;refine Ã (Ã (ľ c a (x:=d) rfl (Ã (ľ c a (x:=e) rfl (Ã (ľ c a (x:=.none) rfl (È ?_)))))));refine Ã (Y6 ?_);show Ø _ _ (if ((1:Int) == 0)=true then _ else _) _ _ s;rw[Ö (by decide)];refine Ã (uE pl (Ã (uE i (Ã (È ?_)))));show Ø _ _ (match h8 lo b 1 (n:Int)with|(lo,b)=>pure (lo,(1:Int),cX lo b 1)) _ _ s;rw[Bf lo b n];show Ø _ _ (pure (((c_ n 0 lo:Nat):Int),(1:Int),cX ((c_ n 0 lo:Nat):Int) ((c_ n n b:Nat):Int) 1)) _ _ s;rw[B5];exact È h
def Ik (xs:Č Value)(i k:Nat):((Ă k).filterMap λ(m:Nat)=>xs[((i:Int)+(m:Int)*1).toNat]?).toArray=((xs.toList.drop i).take k).toArray:=by
 have e:(λ(m:Nat)=>xs[((i:Int)+(m:Int)*1).toNat]?)=λm=>xs[i+m]?:=by
  funext m;have:((i:Int)+(m:Int)*1).toNat=i+m:=by lia
  rw[this]
 rw[e];have:=pick_run xs i k;rw[List.filterMap_map]at this;have a:((λx=>xs[x]?) ∘ λx=>i+x)=λm=>xs[i+m]?:=rfl;rw[a]at this;rw[this]
def oK {t i:Addr}{items:Č Value}{j k:Value}{lo b:É Int}{Q:Value->Ô->Prop}(c:Jx s.heap t items)(hs:s.heap.IsSliceOf i j k .none)(pl:rm j lo)(n:rm k b)
  (hw:¬(c_ items.size 0 lo=0/\c_ items.size items.size b=items.size))
  (h:Q (.ref s.heap.objs.size) {s with heap:=s.heap.push {cls:=.type "tuple",data:=.seq ((items.toList.drop (c_ items.size 0 lo)).take (c_ items.size items.size b-c_ items.size 0 lo)).toArray}})
  (hsz:items.size<=sizeLine):Ø (Û prog w) A (mh (.ref t) (.ref i)) Q E s:=by
 have a:sizeOk (.seq ((items.toList.drop (c_ items.size 0 lo)).take (c_ items.size items.size b-c_ items.size 0 lo)).toArray):=by
  show((items.toList.drop (c_ items.size 0 lo)).take (c_ items.size items.size b-c_ items.size 0 lo)).toArray.size<=sizeLine;rw[Ú,cz,ML,Į];lia
 have o:c_ items.size items.size b<=items.size:=Qt _ _ (Í _) b;obtain⟨os,g,e,l⟩:=id hs;have d:s.TypeIs (.ref i) "slice":=⟨os,g,e⟩
 unfold mh;try with_reducible refine Ŏ ?_
 first|refine Ã (È ?_)|skip
 refine Ã (Uu c.typeIs (by decide) ?_);refine Ã (Ĵ (name:=Ĕ "__getitem__") c.typeIs Œ
  (ġ Œ c.typeIs QZ ?_ (Rr _ _)))
 show Ø _ _ (pM (.ref t) >>= _) _ _ s;refine Ã (tupleItemsOf_ c ?_);refine Ã (wR d ?_);rw[Ì (by decide)];refine Ã (jP hs pl n ?_);have f:¬((((c_ items.size 0 lo:Nat):Int) == 0&&(1:Int) == 1&&(c_ items.size items.size b-c_ items.size 0 lo) == items.size)=true):=by
  intro q;rw[Ĉ,Ĉ]at q;have p:((c_ items.size 0 lo:Nat):Int)=0:=eq_of_beq q.1.1;have r:c_ items.size items.size b-c_ items.size 0 lo=items.size:=eq_of_beq q.2;exact hw ⟨by lia,by lia⟩
 show Ø _ _ (if (((c_ items.size 0 lo:Nat):Int) == 0&&(1:Int) == 1&&(c_ items.size items.size b-c_ items.size 0 lo) == items.size)=true then _ else _) _ _ s;rw[Ö f,Ik];first
  |exact Ã (m:=dc _) (Ř (È ⟨_,rfl,È h⟩) a)
  |exact Ã (m:=dc _) (Ř (Ã (È (È ⟨_,rfl,È h⟩))) a)
  |exact Ã (Ã (m:=dc _) (Ř (È (È ⟨_,rfl,È h⟩)) a))
  |exact Ã (Ã (m:=dc _) (Ř (È ⟨_,rfl,È h⟩) a))
end
end HT
namespace L2
open PySem PySem.Spec PyProof.Rows
abbrev TO:=St->Hp->(É Int->Hp->Prop)->Prop
def PO (X:Cx)(e:É Expr)(t:TO):Prop:=
 ∀a s b H Q,Inv X a b H s->t b H Q->
  Ø (Û X.prog X.w) X.A (evalPart e X.env) (λu s'=>∃o B,Inv X a b B s'/\rm u o/\Q o B) X.xe s
def Mu:TO:=λ_ H Q=>Q none H
def TX (t:TE):TO:=λa H Q=>t a H λx A=>∃i,x=.int i/\Q (À i) A
def intsAre_of:∀{us:Â Value},Vals (ns.map V.int) us->r8 us ns:=by
 induction ns with
 |nil=>intro us r;rw[a_]at r;cases r;exact .nil
 |cons n ns a=>
  intro us r;rw[Õ]at r;cases r with
  |cons b c=>
   obtain⟨t,e⟩:=b;subst e;exact .cons n t (a c)
section
variable {X:Cx}{e:Expr}{te:TE}{lo hi:É Expr}{tl th:TO}{pos p2:jA}
def L0:PO X none Mu:=by
 intro a s b H Q I h;rw[evalPart_none];exact È ⟨none,H,I,.none,h⟩
def L1 (h:PE X e te):PO X (À e) (TX te):=by
 intro a s f H Q I hw;rw[evalPart_some];refine au (h a s f H _ I hw) λu g d=>iv d λx A B c b=>?_;obtain⟨i,rfl,q⟩:=b;obtain⟨t,rfl⟩:=c;exact⟨À i,A,B,.int i t,q⟩
def RD (X:Cx)(r:V->É Int->É Int->Hp->VK->Prop):Prop:=
 ∀a s f H x v c d lo hi b Q,Inv X a f H s->RelV x v->s.heap.IsSliceOf b c d .none->rm c lo->rm d hi->r x lo hi H Q->
  ∃T id,typeLookup (.type T) "__getitem__"=pure (À (.builtin id))/\s.TypeIs v T/\Ø (Û X.prog X.w) X.A (mh v (.ref b)) (EP X a f Q) X.xe s
def tSl (r:V->É Int->É Int->Hp->VK->Prop)(te:TE)(tl th:TO):TE:=λa H Q=>te a H λx A=>tl a A λl B=>th a B λu C=>r x l u C Q
def Ih (hr:RD X r)(j:PE X e te)(hl:PO X lo tl)(hu:PO X hi th):PE X (.Subscript e (.Slice lo hi none p2) pos) (tSl r te tl th):=by
 intro a s d H Q I h;refine Ec (au (j a s d H _ I h) λv M f=>iv f λx C E z p=>?_);refine wpAny_Slice (au (hl a M d C _ E p) λg N f=>iv f λl D F n t=>au (hu a N d D _ F t) λi c f=>iv f λu B J o y=>?_);rw[evalPart_none];refine È ?_;have L:Inv X a d B {c with heap:=c.heap.push {cls:=.type "slice",data:=.fields #[g,i,.none]}}:=J.kept (t':=c.toks) λb O q=>Ä _ q;obtain⟨T,id,hT,m,k⟩:=hr a {c with heap:=c.heap.push {cls:=.type "slice",data:=.fields #[g,i,.none]}} d B x v g i l u c.heap.objs.size Q L z (Ub ..) n o y;show Ø (Û X.prog X.w) X.A (F' e (.Slice lo hi none p2) v (.ref c.heap.objs.size)) (EP X a d Q) X.xe {c with heap:=c.heap.push {cls:=.type "slice",data:=.fields #[g,i,.none]}};exact tail_any (ops:=[.ref c.heap.objs.size,v]) m hT k (by with_unfolding_all rfl)
def tf (xs:Â V)(lo hi:É Int):Â V:=(xs.drop (HT.c_ xs.length 0 lo)).take (HT.c_ xs.length xs.length hi-HT.c_ xs.length 0 lo)
def qR (xs:Â V)(lo hi:É Int):(tf xs lo hi).length<=xs.length:=by
 unfold tf;rw[cz,ML];lia
def WN (K:Ç):V->É Int->É Int->Hp->VK->Prop:=λx lo hi H Q=>∃a xs,x=.ref a/\gp K H a xs/\
 ¬(HT.c_ xs.length 0 lo=0/\HT.c_ xs.length xs.length hi=xs.length)/\∀p,H p=none->Q (.ref p) (upd H p (.tup (tf xs lo hi)))
def Qy:RD X (WN X.K):=by
 intro i s y H x v u w lo hi t Q I n j l m h;obtain⟨a,xs,rfl,k,hw,q⟩:=h;cases n;obtain⟨d,r,f,g⟩:=I.tuple k;have c:d.toArray.size=xs.length:=by rw[Ú];exact r.length.symm
 refine⟨"tuple",_,Œ.lookup,f.typeIs,?_⟩;refine HT.oK f j l m (by rw[c];exact hw) ?_ (by rw[c];exact g);rw[c];refine⟨.ref s.heap.objs.size,_,I.laid (t':=s.toks) (o:=.tup (tf xs lo hi)) (λb p q=>Ä _ q) (Í _) ?_,rfl,q _ (I.Ů.fresh (Í _))⟩;exact⟨ł (qR xs lo hi) g,_,(r.drop (HT.c_ xs.length 0 lo)).take (HT.c_ xs.length xs.length hi-HT.c_ xs.length 0 lo),AK _ _⟩
def Th (K:Ç):R2:=λx y H Q=>∃a b xs c,x=.ref a/\y=.ref b/\gp K H a xs/\gp K H b c/\xs≠[]/\xs.length+c.length<=sizeLine/\
 (c=[]->Q (.ref a) H)/\(c≠[]->∀p,H p=none->Q (.ref p) (upd H p (.tup (xs++c))))
def Vals.sA (r:Vals xs us):us=[] ↔ xs=[]:=by
 cases r with
 |nil=>simp
 |cons _ _=>simp
def LD:ju X (aY .Add) (Th X.K):=by
 intro i s C H x y v u Q I r t h;obtain⟨a,b,xs,A,rfl,rfl,j,k,l,f,n,p⟩:=h;cases r;cases t;obtain⟨m,d,p1,_⟩:=I.tuple j;obtain⟨g,c,p2,_⟩:=I.tuple k;refine HT.Kn p1 p2 (λz=>l (d.sA.mp z)) (λz=>⟨.ref a,H,I,rfl,n (c.sA.mp z)⟩) (λz=>?_) (by rw[<-d.length,<-c.length];exact f);refine⟨.ref s.heap.objs.size,_,I.laid (t':=s.toks) (o:=.tup (xs++A)) (λb B q=>Ä _ q) (Í _) ?_,rfl,p (λw=>z (c.sA.mpr w)) _ (I.Ů.fresh (Í _))⟩;exact⟨by rw[ć];exact f,_,d.append c,AK _ _⟩
end
noncomputable def Dd (n:Nat)(i:Int):É Nat:=if 0<=i then (if i<n then À i.toNat else none)else if -(n:Int)<=i then À (i+n).toNat else none
def lJ {α:Type}(xs:Â α)(i:Int):É α:=(Dd xs.length i).bind λj=>xs[j]?
def xF (h:Dd n i=À j):y9 i n=À j/\j<n/\-(n:Int)<=i/\i<n:=by
 unfold Dd at h;by_cases b:0<=i
 ·rw[Ì b]at h;by_cases a:i<n
  ·rw[Ì a]at h;have e:i.toNat=j:=ã h;exact⟨by rw[ND b a,e],by lia,by lia,a⟩
  ·rw[Ö a]at h;cases h
 ·rw[Ö b]at h;by_cases a:-(n:Int)<=i
  ·rw[Ì a]at h;have e:(i+n).toNat=j:=ã h;exact⟨by rw[seqIndex_neg (by lia) a,e],by lia,a,by lia⟩
  ·rw[Ö a]at h;cases h
def w_ (h:lJ xs i=À v):∃j,y9 i xs.length=À j/\xs[j]?=À v/\j<xs.length/\-(xs.length:Int)<=i/\i<xs.length:=by
 unfold lJ at h;cases e:Dd xs.length i with
 |none=>rw[e]at h;cases h
 |some j=>
  rw[e]at h;obtain⟨a,b,c,d⟩:=xF e;exact⟨j,a,h,b,c,d⟩
def mj {α:Type}{xs:Â α}{j:Nat}{v:α}(h:xs[j]?=À v):lJ xs (j:Int)=À v:=by
 have a:j<xs.length:=(Æ.mp h).1;have e:Dd xs.length (j:Int)=À j:=by
  unfold Dd;rw[Ì (by lia),Ì (by lia)];simp
 unfold lJ;rw[e];exact h
def CN (b:Expr):Prop:=∀o i,AU b false o i=operate [o,i] (mh o i)
def Q4 (X:Cx)(r:R2):Prop:=
 ∀c a b s d H x y v u Q,Inv X b d H s->RelV x v->RelV y u->r x y H Q->
  AU a false v u=operate [v,u] (mh v u)->Ø (Û X.prog X.w) X.A (F' c a v u) (EP X b d Q) X.xe s
def CK (X:Cx)(id:String)(r:V->Â V->Hp->VK->Prop):Prop:=
 ∀a s b H x xs v us Q,Inv X a b H s->RelV x v->Vals xs us->r x xs H Q->
  Ø (Û X.prog X.w) X.A (call (.builtin id) (v::us)) (EP X a b Q) X.xe s
section
variable {X:Cx}{a b:Expr}{ta tb:TE}{pos:jA}
def S' (hr:Q4 X r)(d:PE X a ta)(e:PE X b tb)(hs:CN b):PE X (.Subscript a b pos) (TU r ta tb):=by
 intro c s j H Q I h;exact Ec (NV d e I h λv u i x y A B f g q=>hr a b c i j A x y v u Q B f g q (hs _ _))
def WJ (K:Ç):R2:=λx y H Q=>∃p xs i v,x=.ref p/\y=.int i/\gM K H p xs/\lJ xs i=À v/\Q v H
def WL (K:Ç):R2:=λx y H Q=>∃p xs i v,x=.ref p/\y=.int i/\gp K H p xs/\lJ xs i=À v/\Q v H
def WK:R2:=λx y H Q=>∃z i c,x=.str z/\y=.int i/\z.length<=sizeLine/\lJ z.cps.toList i=À c/\Q (.str ⟨#[c]⟩) H
def De:Q4 X (WJ X.K):=by
 intro n m c s C H x y v u Q I M N h B;obtain⟨p,xs,i,z,rfl,rfl,L,J,q⟩:=h;cases M;obtain⟨t,rfl⟩:=N;obtain⟨g,r,k,T⟩:=I.list L;obtain⟨j,e,D,O,E,F⟩:=w_ J;obtain⟨w,o,l⟩:=r.get D;have hl:=r.length;have P:=lX;have d:EP X c C Q w s:=⟨z,H,I,l,q⟩
 by_cases A:0<=i
 ·have f:i.toNat=j:=by
   rw[ND A F]at e;exact ã e
  exact item_listR k.isList A (by lia) (by rw[f];simpa using o) d B
 ·have f:(i+(g.toArray.size:Int)).toNat=j:=by
   rw[seqIndex_neg (by lia) E]at e;rw[Ú,<-hl];exact ã e
  exact oy (x:=w) k.isList.typeIs Um.lookup
   (wpAny_getItem_list_neg (Q:=λr s'=>r=w/\EP X c C Q r s') k.isList (by lia) (by rw[Ú]<;>lia) (by lia) (by rw[f];simpa using o) ⟨rfl,d⟩) B
def Oz:Q4 X (WL X.K):=by
 intro g f c s l H x y v u Q I E F h C;obtain⟨p,xs,i,z,rfl,rfl,B,A,q⟩:=h;cases E;obtain⟨t,rfl⟩:=F;obtain⟨D,r,k,O⟩:=I.tuple B;obtain⟨j,n,o,J,L,M⟩:=w_ A;obtain⟨w,m,e⟩:=r.get o;have hl:=r.length;have N:=lX;have d:EP X c l Q w s:=⟨z,H,I,e,q⟩
 exact oy (x:=w) k.typeIs Rw.lookup
  (getItem_tuple (j:=j) (Q:=λr s'=>r=w/\EP X c l Q r s') k (by lia) (by lia) (by rw[Ú,<-hl];exact n) (by simpa using m) ⟨rfl,d⟩) C
def Oy:Q4 X WK:=by
 intro e d g s F H x y v u Q I w A h r;obtain⟨z,i,c,rfl,rfl,D,p,q⟩:=h;obtain⟨t,rfl⟩:=w;obtain⟨E,rfl⟩:=A;obtain⟨j,f,m,B,n,o⟩:=w_ p;have hl:z.cps.toList.length=z.length:=by simp[Str.length]
 rw[hl]at f n o;have C:=lX;exact tail_any (typeIs_str s z t) slot_str_getitem.lookup (getItem_str (c:=c) (by
  have k:decide (i < -(2^63:Int))=false:=é (by lia);have l:decide (i≥2^63)=false:=é (by lia);rw[k,l,Rg]) (by rw[f];simpa using m) ⟨.str ⟨#[c]⟩,H,I.tok _,⟨_,rfl⟩,q⟩) r
def BU (its:Â Value)(n j:Nat)(u:Value):ô (·.setIfInBounds j u) {cls:=.type "list",data:=.seq its.toArray n}={cls:=.type "list",data:=.seq (its.set j u).toArray n}:=by
 simp[ô]
theorem Inv.lst {c:Â (Addr×Obj)}{d:St}{H:Hp}{s:Ô}{p:Addr}{xs:Â V}(I:Inv X c d H s)(h:H p=À (.lst xs)) :
  ∃its n,Vals xs its/\s.heap.get? p=À {cls:=.type "list",data:=.seq its.toArray n}/\xs.length<=sizeLine:=by
 obtain⟨z,its,n,r,e⟩:=I.Ů p _ h;exact⟨its,n,r,e,z⟩
def Inv.OM {c:Â (Addr×Obj)}{i:St}{H:Hp}{s:Ô}{p:Addr}{xs ys:Â V}{its its':Â Value}{n d:Nat}{f:Obj->Obj}(I:Inv X c i H s)(h:H p=À (.lst xs))
  (k:s.heap.get? p=À {cls:=.type "list",data:=.seq its.toArray n}) (g:f {cls:=.type "list",data:=.seq its.toArray n}={cls:=.type "list",data:=.seq its'.toArray d}) (r:Vals ys its') (hz:ys.length<=sizeLine) (t:Nat) :
  Inv X c i (upd H p (.lst ys)) {s with heap:=s.heap.update p f,toks:=t}:=by
 have e:(s.heap.update p f).get? p=À {cls:=.type "list",data:=.seq its'.toArray d}:=by
  rw[ù f k (by rw[g]<;>rfl),g]
 refine I.write (x:=p) (e:=p) (by rw[h];trivial) (.inl rfl) (λb u j q=>(ç _ _ (ő j)).trans q) ⟨_,e⟩ ?_;exact⟨hz,its',d,r,e⟩
def Tn:V->V->V->Hp->(Hp->Prop)->Prop:=λo i v H Q=>∃p xs k j,o=.ref p/\i=.int k/\H p=À (.lst xs)/\Dd xs.length k=À j/\Q (upd H p (.lst (xs.set j v)))
def set_list:RC X Tn:=by
 intro d s D H o i v L J u Q I C B rv h;obtain⟨p,xs,k,j,rfl,rfl,x,y,q⟩:=h;cases C;obtain⟨t,rfl⟩:=B;obtain⟨c,n,r,g,z⟩:=I.lst x;obtain⟨e,E,m,w⟩:=xF y;have hl:=r.length;have F:=lX;have A:Inv X d D (upd H p (.lst (xs.set j v))) {s with heap:=s.heap.update p (ô (·.setIfInBounds j u))}:=
  I.OM x g (BU c n j u) (r.set rv j) (by rw[ű];exact z) s.toks
 by_cases l:0<=k
 ·have f:k.toNat=j:=by
   rw[ND l w]at e;exact ã e
  exact PySem.W.ki_setAt g l (by lia) (by rw[Ú,<-hl];exact w) (by rw[f];exact⟨_,A,q⟩)
 ·have f:(k+(c.toArray.size:Int)).toNat=j:=by
   rw[seqIndex_neg (by lia) m]at e;rw[Ú,<-hl];exact ã e
  exact PySem.W.ki_setBack g (by lia) (by rw[Ú,<-hl];exact m) (by lia) (by rw[f];exact⟨_,A,q⟩)
def ym (lo c:É Int)(n:Nat):(jg lo c none n).1=((HT.c_ n 0 lo:Nat):Int)/\(jg lo c none n).2.1=((HT.c_ n n c:Nat):Int)/\(jg lo c none n).2.2=1:=by
 refine⟨?_,?_,rfl⟩
 ·cases lo with
  |none=>simp[jg,HT.c_]
  |some i=>
   simp only[jg,HT.c_,JD,show(1:Int) > 0 by decide,f9];by_cases h:i<0
   ·simp only[h,f9]<;>lia
   ·simp only[h,ia]<;>lia
 ·cases c with
  |none=>simp[jg,HT.c_]
  |some i=>
   simp only[jg,HT.c_,JD,show(1:Int) > 0 by decide,f9];by_cases h:i<0
   ·simp only[h,f9]<;>lia
   ·simp only[h,ia]<;>lia
def vt (its:Â Value)(lo c:É Int):slicePick its.toArray lo c none=((its.drop (HT.c_ its.length 0 lo)).take (HT.c_ its.length its.length c-HT.c_ its.length 0 lo)).toArray:=by
 obtain⟨d,e,f⟩:=ym lo c its.toArray.size;unfold slicePick;rw[d,e,f];simp only[sliceRange_one,pick_run,Ú]<;>rfl
def WM (K:Ç):V->É Int->É Int->Hp->VK->Prop:=λx lo c H Q=>∃a xs,x=.ref a/\gM K H a xs/\∀p,H p=none->Q (.ref p) (upd H p (.lst (tf xs lo c)))
def DJ:RD X (WM X.K):=by
 intro f s y H x v u w lo d t Q I n g l m h;obtain⟨a,xs,rfl,i,q⟩:=h;cases n;obtain⟨k,r,e,j⟩:=I.list i;have c:=r.length;refine⟨"list",_,Um.lookup,e.isList.typeIs,?_⟩;refine wpAny_getItem_list_slice e.isList g l m .none (by simp) ?_ (by rw[Ú]<;>lia);rw[vt,<-c];refine⟨.ref s.heap.objs.size,_,I.laid (t':=s.toks) (o:=.lst (tf xs lo d)) (λb p q=>Ä _ q) (Í _) ?_,rfl,q _ (I.Ů.fresh (Í _))⟩;exact⟨ł (qR xs lo d) j,_,0,(r.drop (HT.c_ xs.length 0 lo)).take (HT.c_ xs.length xs.length d-HT.c_ xs.length 0 lo),Ò _ rfl⟩
def iG:V->Bool
 |.Ě=>true
 |.bl _=>true
 |.int _=>true
 |.str _=>true
 |_=>false
def ik:V->V->Bool
 |.Ě,.Ě=>true
 |.bl a,.bl b=>a == b
 |.bl a,.int b=>(if a then 1 else 0) == b
 |.int a,.bl b=>a == (if b then 1 else 0)
 |.int a,.int b=>a == b
 |.str a,.str b=>a == b
 |_,_=>false
def ŝ (f:RelV y u)(c:RelV x v)(g:iG y=true)(e:iG x=true):pW A s u v (ik y x):=by
 cases y with
 |Ě=>
  cases f;cases x with
  |Ě=>cases c;exact qP _
  |bl b=>cases c;exact SeqAt.EqAt.none_bool b
  |int b=>obtain⟨t,rfl⟩:=c;exact SeqAt.EqAt.none_int b t
  |str b=>obtain⟨t,rfl⟩:=c;exact SeqAt.EqAt.none_str b t
  |_=>exact absurd (show false=true from e) Ý
 |bl a=>
  cases f;cases x with
  |Ě=>cases c;exact SeqAt.EqAt.bool_none a
  |bl b=>cases c;exact SeqAt.EqAt.bool_bool a b
  |int b=>obtain⟨t,rfl⟩:=c;exact SeqAt.EqAt.bool_int a b t
  |str b=>obtain⟨t,rfl⟩:=c;exact SeqAt.EqAt.bool_str a b t
  |_=>exact absurd (show false=true from e) Ý
 |int a=>
  obtain⟨d,rfl⟩:=f;cases x with
  |Ě=>cases c;exact SeqAt.EqAt.int_none a d
  |bl b=>cases c;exact SeqAt.EqAt.int_bool a d b
  |int b=>obtain⟨t,rfl⟩:=c;exact SeqAt.EqAt.int_int a d b t
  |str b=>obtain⟨t,rfl⟩:=c;exact AQ a d b t
  |_=>exact absurd (show false=true from e) Ý
 |str a=>
  obtain⟨d,rfl⟩:=f;cases x with
  |Ě=>cases c;exact SeqAt.EqAt.str_none a d
  |bl b=>cases c;exact SeqAt.EqAt.str_bool a d b
  |int b=>obtain⟨t,rfl⟩:=c;exact AS a d b t
  |str b=>obtain⟨t,rfl⟩:=c;exact SeqAt.EqAt.str_str a d b t
  |_=>exact absurd (show false=true from e) Ý
 |_=>exact absurd (show false=true from g) Ý
noncomputable def EK (x:V)(u:Value):Bool:=match u with
 |.none=>ik .Ě x
 |.bool b=>ik (.bl b) x
 |.int i _=>ik (.int i) x
 |.str z _=>ik (.str z) x
 |_=>false
def xv (r:RelV y u)(f:iG y=true):EK x u=ik y x:=by
 cases y with
 |Ě=>cases r;rfl
 |bl b=>cases r;rfl
 |int i=>obtain⟨t,rfl⟩:=r;rfl
 |str z=>obtain⟨t,rfl⟩:=r;rfl
 |_=>exact absurd (show false=true from f) Ý
theorem wY:∀{xs:Â V}{us:Â Value},Vals xs us->xs.all iG=true->us.any (EK x)=xs.any λy=>ik y x
 |_,_,.nil,_=>rfl
 |y::xs,u::us,.cons r t,f=>by
  rw[Ĩ,Ĉ]at f;rw[a',a',xv r f.1,wY t f.2]
theorem lY (d:RelV x v)(c:iG x=true):∀{xs:Â V}{us:Â Value},Vals xs us->xs.all iG=true->∀u∈us,pW A s u v (EK x u)
 |_,_,.nil,_=>λu hu=>by cases hu
 |y::xs,u::us,.cons r t,f=>λe hu=>by
  rw[Ĩ,Ĉ]at f;rcases ò.mp hu with rfl|hu
  ·rw[xv r f.1];exact ŝ r d f.1 c
  ·exact lY d c t f.2 e hu
def V5 (x:V)(xs:Â V):Bool:=xs.any λy=>ik y x
def rIn (K:Ç)(c:Bool):R2:=λx y H Q=>∃p xs,y=.ref p/\(gM K H p xs∨gp K H p xs)/\iG x=true/\xs.all iG=true/\Q (.bl (if c then !V5 x xs else V5 x xs)) H
def Ft:ju X (ņ .In) (rIn X.K false):=by
 intro g s l H x y v u Q I i k h;obtain⟨p,xs,rfl,hq,f,d,q⟩:=h;cases k;rcases hq with hq|hq
 ·obtain⟨c,r,e,j⟩:=I.list hq;refine SeqAt.in_listAt (EK x) e.isList (λw hw=>lY i f r d w (by simpa using hw)) ⟨.bl _,H,I,rfl,?_⟩;rw[show c.toArray.any (EK x)=c.any (EK x) by simp,wY r d];exact q
 ·obtain⟨c,r,e,j⟩:=I.tuple hq;refine SeqAt.in_tupleAt (EK x) e (λw hw=>lY i f r d w (by simpa using hw)) ⟨.bl _,H,I,rfl,?_⟩;rw[show c.toArray.any (EK x)=c.any (EK x) by simp,wY r d];exact q
def xh:cQ X (.builtin "len") (λxs H Q=>∃p ys,xs=[.ref p]/\(gM X.K H p ys∨gp X.K H p ys)/\Q (.int ys.length) H):=by
 intro g s l H xs us Q I r h;obtain⟨p,ys,rfl,hq,q⟩:=h;obtain⟨u,rfl,j⟩:=vals1 r;cases j;have k:=lX;rcases hq with hq|hq
 ·obtain⟨d,f,e,i⟩:=I.list hq;have c:=f.length;exact Calls.call_len_list e.isList (by simp only[Ú]<;>lia) ⟨.int ys.length,H,I.tok _,⟨s.toks+1,by rw[Ú,c]⟩,q⟩
 ·obtain⟨d,f,e,i⟩:=I.tuple hq;have c:=f.length;exact len_tuple e (by simp only[Ú]<;>lia) ⟨.int ys.length,H,I.tok _,⟨s.toks+1,by rw[Ú,c]⟩,q⟩
def xi:cQ X (.builtin "len") (λxs H Q=>∃z,xs=[.str z]/\z.length<=sizeLine/\Q (.int z.length) H):=by
 intro c s f H xs us Q I r h;obtain⟨z,rfl,e,q⟩:=h;obtain⟨u,rfl,t,rfl⟩:=vals1 r;have d:=lX;exact len_str (by lia) ⟨.int z.length,H,I.tok _,⟨_,rfl⟩,q⟩
def xj:cQ X (.type "list") (λxs H Q=>∃p ys,xs=[.ref p]/\(gM X.K H p ys∨gp X.K H p ys)/\∀l,H l=none->Q (.ref l) (upd H l (.lst ys))):=by
 intro t s B H xs us Q I r h;obtain⟨p,ys,rfl,hq,q⟩:=h;obtain⟨u,rfl,A⟩:=vals1 r;cases A;have i:∀c,Vals ys c->ys.length<=sizeLine->∀d f,(∀b z,s.heap.get? b=À z->d.get? b=À z)->
   d.get? s.heap.objs.size=À {cls:=.type "list",dict:=none,data:=.seq c.toArray f,slots:=#[]}->EP X t B Q (.ref s.heap.objs.size) {s with heap:=d}:=λc g k d f m e=>
  ⟨.ref s.heap.objs.size,_,I.laid (t':=s.toks) m (Í _) (show š X.prog X.w _ d _ (.lst ys)from⟨k,c,f,g,e⟩),rfl,q _ (I.Ů.fresh (Í _))⟩
 rcases hq with hq|hq
 ·obtain⟨c,g,y,k⟩:=I.list hq;have j:=g.length;obtain⟨o,x,v,n,hd⟩:=y.isList;exact call_list_seq p (.inl rfl) x v hd (λd f m e=>i c g k d f m e) (by simp only[Ú]<;>lia)
 ·obtain⟨c,g,y,k⟩:=I.tuple hq;have j:=g.length;obtain⟨o,x,v,n,hd⟩:=y;exact call_list_seq p (.inr rfl) x v hd (λd f m e=>i c g k d f m e) (by simp only[Ú]<;>lia)
def UR (K:Ç)(T:String)(x:V)(H:Hp):Prop:=match x with
 |.str _=>T="str"
 |.int _=>T="int"
 |.ref p=>(T="list"/\∃xs,gM K H p xs)∨(T="tuple"/\∃o,K.lookup p=À o/\o.cls=.type "tuple"/\o.dict=none)∨
   (T="dict"/\((∃c,H p=À (.dK c))∨∃c,H p=À (.dT c)))∨(T="set"/\∃S n,H p=À (.set S n))
 |_=>False
def Cw (I:Inv X l y H s)(r:RelV x v)(g:UR X.K T x H) :
  s.TypeIs v T/\∀a,v=.ref a->∃k,s.heap.get? a=À k/\k.dict=none:=by
 cases x with
 |str z=>
  obtain⟨t,rfl⟩:=r;cases (show T="str" from g);exact⟨typeIs_str s z t,λ_ e=>nomatch e⟩
 |int i=>
  obtain⟨t,rfl⟩:=r;cases (show T="int" from g);exact⟨typeIs_int s i t,λ_ e=>nomatch e⟩
 |ref p=>
  cases r;rcases g with⟨rfl,xs,u⟩|⟨rfl,o,d,q,hd⟩|⟨rfl,d⟩|⟨rfl,S,n,d⟩
  ·obtain⟨w,_,m,_⟩:=I.list u;refine⟨m.isList.typeIs,λa e=>?_⟩;cases e;obtain⟨o,n,e,c,hd,_⟩:=m;exact⟨o,e,hd⟩
  ·refine⟨⟨o,I.kG p o d,q⟩,λa e=>?_⟩;cases e;exact⟨o,I.kG _ o d,hd⟩
  ·have z:∃o,s.heap.get? p=À o/\o.ExactDict:=by
    rcases d with⟨j,d⟩|⟨j,d⟩
    ·obtain⟨_,_,_,_,o,_,_,e,f,_⟩:=I.Ů p _ d;exact⟨o,e,f⟩
    ·obtain⟨_,_,_,_,o,_,_,e,f,_⟩:=I.Ů p _ d;exact⟨o,e,f⟩
   obtain⟨o,e,f⟩:=z;refine⟨⟨o,e,f.1⟩,λa h=>?_⟩;cases h;exact⟨o,e,f.2.1⟩
  ·obtain⟨o,_,_,_,e,f,_⟩:=I.Ů p _ d;refine⟨⟨o,e,f.1⟩,λa h=>?_⟩;cases h;exact⟨o,e,f.2.1⟩
 |_=>exact aB g
def W_ (K:Ç)(T:String)(r:V->Â V->Hp->VK->Prop)(c:TE):TE:=λd H Q=>c d H λx A=>UR K T x A/\r x [] A Q
def W9 (K:Ç)(T:String)(r:V->Â V->Hp->VK->Prop)(d:TE)(t:TA):TE:=λc H Q=>d c H λx A=>UR K T x A/\t c A λxs B=>r x xs B Q
variable {o e:Expr}{es:Â Expr}{to:TE}{t:TA}{name:Str}{lI lM:jA}{T id:String}{r:V->Â V->Hp->VK->Prop}
def PU (q:u9 T)(g:Slot T name id)(i:Rx (.builtin id)=pure (.type "method_descriptor")) (n:CK X id r)(p:PE X o to)
  (d:bG o name X.env (ģ o X.env)=ģ o X.env:=by rfl) (f:(lI.endLine == lM.line)=true:=by rfl):PE X (.Call (.Attribute o name lI) [] [] lM) (W_ X.K T r to):=by
 intro c s k H Q I h;refine wpAny_Call_method0_late d f (au (p c s k H _ I h) λv w z=>?_);obtain⟨x,B,A,j,y,u⟩:=z;obtain⟨l,m⟩:=Cw A j y;exact⟨T,id,q,g,i,l,m,lD rfl (PySem.evalArgs_none (n c w k B x [] v [] Q A j .nil u))⟩
def S_ (z:u9 T)(j:Slot T name id)(k:Rx (.builtin id)=pure (.type "method_descriptor")) (w:CK X id r)(y:PE X o to)(u:PA X (e::es) t)
  (f:bG o name X.env (ģ o X.env)=ģ o X.env:=by rfl)
  (i:((ĺ lM (Î (e::es) X.env)).all (λx=>!x.1)&&(h_ lM (cc [] X.env)).all (λx=>x.1.isSome)
   && decide ((e::es).length+([]:Â jX).length+(if ([]:Â jX).isEmpty then 0 else 1)<30))=true:=by rfl)
  (g:(lI.endLine == lM.line)=true:=by rfl) (hs:Î (e::es) X.env=(false,ģ e X.env)::Î es X.env:=by rfl) (d:(ĺ lM (Î es X.env)).any (·.1)=false:=by rfl) :
  PE X (.Call (.Attribute o name lI) (e::es) [] lM) (W9 X.K T r to t):=by
 intro c s m H Q I h;refine wpAny_Call_method_late f i g rfl (au (y c s m H _ I h) λv L l=>?_);obtain⟨x,B,A,n,N,E⟩:=l;obtain⟨p,q⟩:=Cw A n N;refine⟨T,id,z,j,k,p,q,?_⟩;have hA:=u lM c L m B _ A E;rw[hs]at hA⊢;refine lD (by show(false||(ĺ lM (Î es X.env)).any (·.1))=false;rw[d]<;>rfl) (DX ?_);exact au hA λus M l=>iv l λO C D J F=>w c M m C x O v us Q D n J F
end
def Ye (X:Cx)(id:String)(r:V->Â V->Hp->VK->Prop):Prop:=
 ∀a s b H x xs v us Q,Inv X a b H s->RelV x v->Vals xs us->r x xs H Q->
  Ø (Û X.prog X.w) X.A (call (.builtin id) (v::us)) (EP X a b Q) X.xe s
def Vals.one:∀{x:V}{us:Â Value},Vals [x] us->∃u,us=[u]/\RelV x u
 |_,_,.cons r .nil=>⟨_,rfl,r⟩
theorem Vals.eraseIdx:∀{xs:Â V}{us:Â Value}(i:Nat),Vals xs us->Vals (xs.eraseIdx i) (us.eraseIdx i)
 |_,_,_,.nil=>.nil
 |_,_,0,.cons _ t=>t
 |_,_,i+1,.cons r t=>.cons r (Vals.eraseIdx i t)
theorem wb:∀(l:Â α)(i:Nat),(l.eraseIdx i).length<=l.length
 |[],_=>Í _
 |_::_,0=>F5 _
 |_::r,i+1=>u7 (wb r i)
section
variable {X:Cx}{ø:Â (Addr×Obj)}{σ:St}{H:Hp}{s:Ô}{l b:Addr}{xs ys zs:Â V}
def Inv.Sy {its its':Â Value}{n:Nat}{f:Č Value->Č Value}{t':Nat}(I:Inv X ø σ H s)(a:H l=À (.lst xs))
  (e:s.heap.get? l=À {cls:=.type "list",data:=.seq its.toArray n}) (d:f its.toArray=its'.toArray) (g:Vals ys its') (hz:ys.length<=sizeLine) :
  Inv X ø σ (upd H l (.lst ys)) {s with heap:=s.heap.update l (ô f),toks:=t'}:=by
 have q:=PySem.IsL.update e f;rw[d]at q;refine I.write (x:=l) (e:=l) (by rw[a];exact trivial) (.inl rfl) (λh u c hu=>(ç s.heap (ô f) (ő c)).trans hu) ⟨_,q⟩ ?_;exact⟨hz,its',_,g,q⟩
def Inv.OJ (I:Inv X ø σ H s)(a:Vals ys its)(hz:ys.length<=sizeLine) :
  Inv X ø σ (upd H s.heap.objs.size (.lst ys)) {s with heap:=s.heap.push {cls:=.type "list",data:=.seq its.toArray},toks:=t'}:=
 I.laid (λ_ _ q=>Ä _ q) (Í _) ⟨hz,its,0,a,Ò _ rfl⟩
theorem Inv.fresh (I:Inv X ø σ H s):H s.heap.objs.size=none:=I.Ů.fresh (Í _)
def Inv.Fd (I:Inv X ø σ H s)(a:H l=À (.lst xs)):xs.length<=sizeLine/\∃its n,Vals xs its/\xs.length=its.length/\s.heap.get? l=À {cls:=.type "list",data:=.seq its.toArray n}:=by
 obtain⟨z,its,n,r,e⟩:=I.Ů l _ a;exact⟨z,its,n,r,r.length,e⟩
end
section
variable {X:Cx}
def Ma:V->Â V->Hp->VK->Prop:=λx a H Q=>∃l xs y,x=.ref l/\a=[y]/\H l=À (.lst xs)/\xs.length<sizeLine/\Q .Ě (upd H l (.lst (xs++[y])))
def we:Ye X "list.append" Ma:=by
 intro c s j H x i v us Q I f rv h;obtain⟨l,xs,y,rfl,rfl,b,g,q⟩:=h;cases f;obtain⟨u,rfl,d⟩:=rv.one;obtain⟨z,a,n,r,hl,e⟩:=I.Fd b;refine vc F.slot_list_append ⟨_,e,rfl⟩ F.entry_list_append (F.args_list_append_2 _ _) (PySem.list_append l a.toArray n u (by rw[Ú];lia)) ⟨e,?_⟩;refine⟨.Ě,_,I.Sy (its':=a++[u]) b e (by simp) (r.append (.cons d .nil)) ?_,rfl,q⟩;rw[ć,D_];lia
def Qn:V->Â V->Hp->VK->Prop:=λx a H Q=>∃l xs i k y,x=.ref l/\a=[.int i]/\H l=À (.lst xs)/\-(2^63)<=i/\i<2^63/\y9 i xs.length=À k/\xs[k]?=À y/\Q y (upd H l (.lst (xs.eraseIdx k)))
def HJ:Ye X "list.pop" Qn:=by
 intro d s B H x A v us Q I p rv h;obtain⟨l,xs,i,k,y,rfl,rfl,c,f,g,j,m,q⟩:=h;cases p;obtain⟨u,rfl,o⟩:=rv.one;obtain⟨t,rfl⟩:=o;obtain⟨z,a,n,r,hl,e⟩:=I.Fd c;obtain⟨w,hw,b⟩:=r.get m;refine vc F.slot_list_pop ⟨_,e,rfl⟩ F.entry_list_pop (F.args_list_pop_2 _ _)
  (MeetsSeq.list_pop_at l a.toArray n i t k w (fitsIndex_both f g) (by rw[Ú,<-hl];exact j) (by rw[<-av];exact hw) (by rw[Ú];lia)) ⟨e,?_⟩
 refine⟨y,_,I.Sy (its':=a.eraseIdx k) c e ?_ (r.eraseIdx k) ?_,b,q⟩
 ·show a.toArray.eraseIdxIfInBounds k=(a.eraseIdx k).toArray;rw[List.eraseIdxIfInBounds_toArray]
 ·have:=wb xs k;lia
def WG:R2:=λx y H Q=>∃l b xs a,x=.ref l/\y=.ref b/\H l=À (.lst xs)/\H b=À (.lst a)/\xs.length+a.length<=sizeLine/\∀p,H p=none->Q (.ref p) (upd H p (.lst (xs++a)))
def PD:ju X (aY .Add) WG:=by
 intro d s C H x y v u Q I o p h;obtain⟨l,b,xs,B,rfl,rfl,j,i,t,q⟩:=h;cases o;cases p;obtain⟨z,c,n,r,hl,e⟩:=I.Fd j;obtain⟨A,a,w,m,k,f⟩:=I.Fd i;refine PySem.P.add_list e f ?_ (by rw[Ú,Ú];lia);have g:c.toArray++a.toArray=(c++a).toArray:=by simp
 rw[g];exact⟨.ref _,_,I.OJ (t':=s.toks) (r.append m) (by rw[ć];lia),rfl,q _ I.fresh⟩
end
section
variable {prog:ą}{w:ħ}{A:Ŕ}{E:Value->Ô->Prop}{s:Ô}
end
section
variable {X:Cx}
end
section
variable {κ:Type} [ri κ]
def iO (kvs:Â (κ×V)) (k:κ):É V:=(kvs.find? λa=>decide (a.1=k)).map (·.2)
def putK (kvs:Â (κ×V)) (k:κ)(v:V):Â (κ×V):=
 if (kvs.any λa=>decide (a.1=k))=true then kvs.map (λa=>if a.1=k then (a.1,v)else a)else kvs++[(k,v)]
def l' {p:κ×V}{r:Â (κ×V)}{k:κ}(e:p.1=k):iO (p::r) k=À p.2:=by simp[iO,Ś,e]
def l_ {p:κ×V}{r:Â (κ×V)}{k:κ}(e:¬p.1=k):iO (p::r) k=iO r k:=by simp[iO,Ś,e]
theorem AG (k:κ):∀kvs:Â (κ×V),(kvs.any λa=>decide (a.1=k))=(iO kvs k).isSome
 |[]=>rfl
 |p::r=>by
  rw[a'];by_cases e:p.1=k
  ·simp only[l' e,ó e,Bool.true_or,FU]
  ·rw[l_ e,é e,AI];exact AG k r
def lW (kvs:Â (κ×V)) (k:κ)(v:V):(putK kvs k v).length<=kvs.length+1:=by
 unfold putK;split
 ·rw[Ê];lia
 ·rw[ć,Ķ,mL];lia
def k7.jK (r:k7 o u):o.isSome=u.isSome:=by
 cases o with
 |none=>cases u with
  |none=>rfl
  |some _=>exact(show False from r).elim
 |some _=>cases u with
  |none=>exact(show False from r).elim
  |some _=>rfl
theorem k7.getD (r:k7 o u)(a:RelV d d'):RelV (o.getD d) (u.getD d'):=by
 cases o with
 |none=>cases u with
  |none=>exact a
  |some _=>exact(show False from r).elim
 |some _=>cases u with
  |none=>exact(show False from r).elim
  |some _=>exact r
def KV.val {kvs:Â (κ×V)}{vs:Â (κ×Value)}(r:KV kvs vs)(k:κ):k7 (iO kvs k) (wO vs k):=by
 unfold KV at r;induction r with
 |nil=>exact bt
 |@cons p q i c h t g=>
  obtain⟨d,f⟩:=h;by_cases e:p.1=k
  ·have a:q.1=k:=d.symm.trans e;have b:wO (q::c) k=À q.2:=by simp[wO,Ś,a]
   rw[l' e,b];exact f
  ·have a:¬q.1=k:=λz=>e (d.trans z);have b:wO (q::c) k=wO c k:=by simp[wO,Ś,a]
   rw[l_ e,b];exact g
theorem KV.any (r:KV kvs vs)(k:κ):(kvs.any λa=>decide (a.1=k))=vs.any λa=>decide (a.1=k):=by
 unfold KV at r;induction r with
 |nil=>rfl
 |cons h t b=>rw[a',a',b,h.1]
def KV.Qr (r:KV kvs vs)(k:κ)(f:RelV y u) :
  KV (kvs.map λa=>if a.1=k then (a.1,y)else a) (vs.map λa=>if a.1=k then (a.1,u)else a):=by
 unfold KV at r⊢;induction r with
 |nil=>exact .nil
 |@cons p q g i h t d=>
  rw[Õ,Õ];refine .cons ?_ d;obtain⟨b,c⟩:=h;by_cases e:p.1=k
  ·rw[Ì e,Ì (b.symm.trans e)];exact⟨b,f⟩
  ·rw[Ö e,Ö (λz=>e (b.trans z))];exact⟨b,c⟩
def KV.put (r:KV kvs vs)(k:κ)(a:RelV y u):KV (putK kvs k y) (stored vs k u):=by
 unfold putK stored;rw[r.any k];by_cases e:(vs.any λb=>decide (b.1=k))=true
 ·rw[Ì e,Ì e];exact r.Qr k a
 ·rw[Ö e,Ö e];exact Ri r ⟨rfl,a⟩
theorem KV.length (r:KV kvs vs):kvs.length=vs.length:=oq r
end
def t_ (r:RelV (kV k) u):(ay P w).is k u=true:=by
 cases k with
 |inl i=>obtain⟨t,e⟩:=(show ∃t,u=kU i t from r);subst e;exact qZ P w i t
 |inr x=>obtain⟨t,e⟩:=(show ∃t,u=sS x t from r);subst e;exact q_ P w x t
theorem vW:∀{ks:Â Key}{us:Â Value},Vals (ks.map kV) us->ItemsAre (ay P w) ks us
 |[],_,r=>by rw[a_]at r;cases r;exact .nil
 |k::ks,_,r=>by
  rw[Õ]at r;cases r with
  |cons h t=>exact .cons (t_ h) (vW t)
abbrev KT (H:Hp):Â (Â Key×V)->Â (Â Key×Addr×Value)->Prop:=Paired λp q=>p.1=q.1/\H q.2.1=À (.tup (p.1.map kV))/\RelV p.2 q.2.2
def KT.val {H:Hp}{kvs:Â (Â Key×V)}{xs:Â (Â Key×Addr×Value)}(r:KT H kvs xs)(k:Â Key):k7 (iO kvs k) ((Ee xs k).map (·.2)):=by
 induction r with
 |nil=>exact bt
 |@cons p q i c h t g=>
  obtain⟨d,_,f⟩:=h;by_cases e:p.1=k
  ·have a:q.1=k:=d.symm.trans e;have b:Ee (q::c) k=À q.2:=by simp[Ee,Ś,a]
   rw[l' e,b];exact f
  ·have a:¬q.1=k:=λz=>e (d.trans z);have b:Ee (q::c) k=Ee c k:=by simp[Ee,Ś,a]
   rw[l_ e,b];exact g
def KT.Qr (r:KT H kvs xs)(k:Â Key)(g:RelV y u) :
  KT H (kvs.map λb=>if b.1=k then (b.1,y)else b) (xs.map (putAt k u)):=by
 induction r with
 |nil=>exact .nil
 |@cons p q i j h t f=>
  rw[Õ,Õ];refine .cons ?_ f;obtain⟨a,c,d⟩:=h;unfold putAt;by_cases e:p.1=k
  ·rw[Ì e,Ì (a.symm.trans e)];exact⟨a,c,g⟩
  ·rw[Ö e,Ö (λz=>e (a.trans z))];exact⟨a,c,d⟩
def KT.put (r:KT H kvs xs)(k:Â Key)(c:H b=À (.tup (k.map kV))) (a:RelV y u) :
  KT H (putK kvs k y) (storedH xs k b u):=by
 have e:(kvs.any λd=>decide (d.1=k))=(Ee xs k).isSome:=by
  rw[AG,(r.val k).jK,qO]
 unfold putK storedH;rw[e];by_cases q:(Ee xs k).isSome=true
 ·rw[Ì q,Ì q];exact r.Qr k a
 ·rw[Ö q,Ö q];exact Ri r ⟨rfl,c,a⟩
def KT.keeps (r:KT H kvs xs)(a:∀b ys,H b=À (.tup ys)->H' b=À (.tup ys)):KT H' kvs xs:=
 Paired.OP r λ_ _ z=>⟨z.1,a _ _ z.2.1,z.2.2⟩
section
variable {P:ą}{w:ħ}{H:Hp}{h:Heap}{a:Addr}
def Ni (b:ly P w H h)(e:Rd H a u):š P w H h a u:=e.ok b
def tj (b:ly P w H h)(e:Rd H a (.dK kvs)):kvs.length<=sizeLine/\(a == bN)=false/\∃vs,KV kvs vs/\h.DictOf (ay P w) a vs:=
 show š P w H h a (.dK kvs)from Ni b e
def GS (b:ly P w H h)(e:H a=À (.dK kvs)):kvs.length<=sizeLine/\(a == bN)=false/\∃vs,KV kvs vs/\h.DictOf (ay P w) a vs:=tj b (.inl e)
def qh (g:ly P w H h)(e:H a=À (.tup (ks.map kV))):(nG (ay P w)).is h ks a:=by
 obtain⟨_,b,r,o,c,d,n,f⟩:=(show š P w H h a (.tup (ks.map kV))from g a _ e)
 exact⟨o,b.toArray,n,c,d,f,by simpa using vW r⟩
def tr (c:ly P w H h)(e:Rd H a (.dT kvs)):kvs.length<=sizeLine/\(a == bN)=false/\
  ∃xs,KT H kvs xs/\h.DictOfH (nG (ay P w)) a xs:=by
 obtain⟨z,y,xs,r,o,f,d,g,i,j,k,n⟩:=(show š P w H h a (.dT kvs)from Ni c e)
 refine⟨z,y,xs,r,o,f,d,g,i,j,k,λx hx=>?_,n⟩;have all:∀{l:Â (Â Key×V)}{m:Â (Â Key×Addr×Value)},KT H l m->∀x∈m,(nG (ay P w)).is h x.1 x.2.1:=by
  intro l m q;induction q with
  |nil=>intro x hx;exact nomatch hx
  |@cons p q u v b t s=>
   intro x hx;rcases ò.mp hx with e|hx
   ·subst e;exact qh c (by rw[<-b.1];exact b.2.1)
   ·exact s x hx
 exact all r x hx
def RX (b:ly P w H h)(e:H a=À (.dT kvs)):kvs.length<=sizeLine/\(a == bN)=false/\
  ∃xs,KT H kvs xs/\h.DictOfH (nG (ay P w)) a xs:=tr b (.inl e)
end
def jE (H:Hp)(a:Addr)(y:V)(r:É V):Prop:=
 (∃c k,Rd H a (.dK c)/\y=kV k/\r=iO c k)∨∃c k b,Rd H a (.dT c)/\y=.ref b/\H b=À (.tup (k.map kV))/\r=iO c k
def zc (H:Hp)(a:Addr)(y v:V)(H':Hp):Prop:=
 (∃c k,H a=À (.dK c)/\y=kV k/\c.length<sizeLine/\H'=upd H a (.dK (putK c k v)))∨
 ∃c k b,H a=À (.dT c)/\y=.ref b/\H b=À (.tup (k.map kV))/\c.length<sizeLine/\H'=upd H a (.dT (putK c k v))
theorem jE.k {H:Hp}{a:Addr}{kvs:Â (Key×V)}{k:Key}(e:H a=À (.dK kvs)):jE H a (kV k) (iO kvs k):=.inl ⟨kvs,k,.inl e,rfl,rfl⟩
def jE.t {H:Hp}{a b:Addr}{kvs:Â (Â Key×V)}{k:Â Key}(e:H a=À (.dT kvs)) (c:H b=À (.tup (k.map kV))):jE H a (.ref b) (iO kvs k):=.inr ⟨kvs,k,b,.inl e,rfl,c,rfl⟩
theorem zc.k {H:Hp}{a:Addr}{kvs:Â (Key×V)}{k:Key}{v:V}(e:H a=À (.dK kvs)) (hl:kvs.length<sizeLine):zc H a (kV k) v (upd H a (.dK (putK kvs k v))):=.inl ⟨kvs,k,e,rfl,hl,rfl⟩
def zc.t {H:Hp}{a b:Addr}{kvs:Â (Â Key×V)}{k:Â Key}{v:V}(e:H a=À (.dT kvs)) (c:H b=À (.tup (k.map kV))) (hl:kvs.length<sizeLine) :
  zc H a (.ref b) v (upd H a (.dT (putK kvs k v))):=.inr ⟨kvs,k,b,e,rfl,c,hl,rfl⟩
section
variable {X:Cx}{ø:Â (Addr×Obj)}{σ:St}{H:Hp}{s:Ô}{a:Addr}{y v:V}{u r:Value}{o:É V}{A:Ŕ}{E:Value->Ô->Prop}
def Inv.big (I:Inv X ø σ H s):bN<s.heap.objs.size:=by
 have h:mainGlobals<s.heap.objs.size:=(I.mod.glob.keeps I.bk).lt;exact mM (by decide) h
def EA (hu:A.units+1<cLine)(I:Inv X ø σ H s)(g:jE H a y (À v)) (q:RelV y u)(h:∀f s',Inv X ø σ H s'->RelV v f->Q f s') :
  Ø (Û X.prog X.w) A (mh (.ref a) u) Q E s:=by
 rcases g with⟨n,k,e,j,l⟩|⟨n,k,b,e,j,t,l⟩
 ·subst j;obtain⟨z,hd,B,c,i⟩:=tj I.Ů e;obtain⟨f,hw,d⟩:=k7.some_of (v:=v) (o:=wO B k) (by rw[l];exact c.val k);exact wpAny_getItem_of (t_ q) i.mapOf hw (h f _ (I.tok _) d)
 ·subst j;cases (show u=Ð b from q);obtain⟨z,hd,xs,c,i⟩:=tr I.Ů e;obtain⟨f,hw,d⟩:=k7.some_of (v:=v) (o:=(Ee xs k).map (·.2)) (by rw[l];exact c.val k);obtain⟨p,x,m⟩:=Option.map_eq_some_iff.mp hw;refine wpAny_getItem_heap (gn hu) (qh I.Ů t) i x ?_;rw[m];exact h f _ (I.tok _) d
def VC (hu:A.units+1<cLine)(I:Inv X ø σ H s)(g:jE H a y o)(j:RelV y u)(h:∀s',Inv X ø σ H s'->Q (.bool o.isSome) s') :
  Ø (Û X.prog X.w) A (ņ .In u (.ref a)) Q E s:=by
 rcases g with⟨i,k,e,f,l⟩|⟨i,k,b,e,f,m,l⟩
 ·subst f;obtain⟨z,hd,n,c,d⟩:=tj I.Ů e;refine wpAny_in_of (t_ j) hd d.mapOf ?_;rw[<-(c.val k).jK,<-l];exact h _ (I.tok _)
 ·subst f;cases (show u=Ð b from j);obtain⟨z,hd,xs,c,d⟩:=tr I.Ů e;refine wpAny_in_heap (gn hu) (qh I.Ů m) hd d ?_;have q:=(c.val k).jK;rw[qO]at q;rw[<-q,<-l];exact h _ (I.tok _)
def Ks (hu:A.units+1<cLine)(I:Inv X ø σ H s)(g:jE H a y o)(j:RelV y u)(h:∀s',Inv X ø σ H s'->Q (.bool (!o.isSome)) s') :
  Ø (Û X.prog X.w) A (ņ .NotIn u (.ref a)) Q E s:=by
 rcases g with⟨i,k,e,f,l⟩|⟨i,k,b,e,f,m,l⟩
 ·subst f;obtain⟨z,hd,n,c,d⟩:=tj I.Ů e;refine wpAny_notIn_of (t_ j) hd d.mapOf ?_;rw[<-(c.val k).jK,<-l];exact h _ (I.tok _)
 ·subst f;cases (show u=Ð b from j);obtain⟨z,hd,xs,c,d⟩:=tr I.Ů e;refine wpAny_notIn_heap (gn hu) (qh I.Ů m) hd d ?_;have q:=(c.val k).jK;rw[qO]at q;rw[<-q,<-l];exact h _ (I.tok _)
def xm (I:Inv X ø σ H s)(h:Q6 (H a)) (hs:d_ a s.heap h')(g:∃q,h'.get? a=À q)(c:š X.prog X.w (upd H a d) h' a d) :
  Inv X ø σ (upd H a d) {s with heap:=h',toks:=t'}:=
 I.write (x:=a) (e:=a) h (.inl rfl) (λb q f z=>(hs.2 b f).trans z) g c
def GR (z:kvs.length<=sizeLine)(hd:(a == bN)=false) (b:KV kvs vs)(dd:h'.DictOf (ay P w) a vs) :
  š P w H' h' a (.dK kvs):=⟨z,hd,vs,b,dd⟩
def EB (hu:A.units+1<cLine)(I:Inv X ø σ H s)(g:zc H a y v H')(F:RelV y u)(rv:RelV v r)(h:∀s',Inv X ø σ H' s'->Q () s') :
  Ø (Û X.prog X.w) A (Ul (.ref a) u r) Q E s:=by
 rcases g with⟨d,k,e,p,l,n⟩|⟨d,k,b,e,p,B,l,n⟩
 ·subst p n;obtain⟨z,hd,U,f,m⟩:=GS I.Ů e;have x:U.length<=sizeLine:=by rw[<-f.length];exact z
  have hl:(putK d k v).length<=sizeLine:=by have:=lW d k v;lia
  refine wpAny_setItem_pairs (hsz:=x) (t_ F) m λD i t=>h _ ?_;have T:∃q,D.get? a=À q:=let ⟨q,_,_,j,_⟩:=i;⟨q,j⟩;exact xm I (by rw[e];exact bt) t T (GR hl hd (f.put k rv) i)
 ·subst p n;cases (show u=Ð b from F);obtain⟨z,hd,xs,f,m⟩:=RX I.Ů e;have x:xs.length<=sizeLine:=by rw[<-oq f];exact z
  have hl:(putK d k v).length<=sizeLine:=by have:=lW d k v;lia
  refine wpAny_setItem_heap (hsz:=x) (gn hu) (qh I.Ů B) m λD i t=>h _ ?_;obtain⟨q,L,J,j,M,N,O,_,P⟩:=i;refine xm I (by rw[e];exact bt) t ⟨q,j⟩ ⟨hl,hd,_,(f.put k B rv).keeps λc Y C=>?_,q,L,J,j,M,N,O,P⟩;rw[ä (ug C e (λz=>nomatch z))];exact C
end
section
variable {X:Cx}{ø:Â (Addr×Obj)}{σ:St}{H:Hp}{s:Ô}{a:Addr}{kvs:Â (Key×V)}{k:Key}{u:Value}{A:Ŕ}{E:Value->Ô->Prop}
end
def NK (i:Expr):Prop:=∀b a,AU i false b a=operate [b,a] (mh b a)
def Mp {prog:ą}{w:ħ}{A:Ŕ}{E:Value->Ô->Prop}{s:Ô}{env:Jw}{b a:Expr}{pos:jA}{T id:String}{Q:Value->Ô->Prop}
  (hl:typeLookup (.type T) "__getitem__"=pure (À (.builtin id))) (hs:NK a)
  (h:Ø (Û prog w) A (ģ b env) (λo e=>Ø (Û prog w) A (ģ a env) (λi c=>c.TypeIs o T/\Ø (Û prog w) A (mh o i) Q E c) E e) E s) :
  Ø (Û prog w) A (ģ (.Subscript b a pos) env) Q E s:=by
 refine Ec (aw h (λo e j=>aw j (λi c d=>?_) λ_ _ x=>x) λ_ _ x=>x);obtain⟨hT,d⟩:=d;unfold F';refine Ã ?_;rw[getitemInPython_of_ne hT.not_modules];refine Ã (wpAny_specialOf hT hl ?_);have g:Ø (Û prog w) A (AU a false o i) (λr f=>Ø (Û prog w) A (letTemporaryGo b o r >>= λ_=>pure r) Q E f) E c:=by
  rw[hs o i];exact wpAny_operating (aw d (λr f k=>Ã (wpAny_letTemporaryGo (È k))) λ_ _ x=>x)
 first
  |exact È (Ã g)
  |exact Ã (È (Ã g))
  |exact Ã g
def zy (I:Inv X f i H s)(g:jE H a y o):s.TypeIs (.ref a) "dict":=by
 rcases g with⟨d,k,e,_,_⟩|⟨d,k,b,e,_,_,_⟩
 ·obtain⟨_,_,h,_,c⟩:=tj I.Ů e;exact c.typeIs
 ·obtain⟨_,_,xs,_,c⟩:=tr I.Ů e;exact c.typeIs
def TF (c d:TE):TE:=λb H Q=>c b H λx B=>d b B λy A=>∃a v,x=.ref a/\jE A a y (À v)/\Q v A
def W' (d c:TE):TE:=λb H Q=>d b H λy B=>c b B λx A=>∃a o,x=.ref a/\jE A a y o/\Q (.bl o.isSome) A
def Mr (d c:TE):TE:=λb H Q=>d b H λy B=>c b B λx A=>∃a o,x=.ref a/\jE A a y o/\Q (.bl (!o.isSome)) A
def Tu (c e d:TE):TS:=λD b H=>d b H λv B=>c b B λx C=>e b C λy E=>∃a A,x=.ref a/\zc E a y v A/\D.nx b A
section
variable {X:Cx}{o i e value:Expr}{pos pos' QO:jA}{td ty tv:TE}
def DA (hu:X.A.units+1<cLine)(k:PE X o td)(j:PE X i ty)(hs:NK i):PE X (.Subscript o i pos) (TF td ty):=by
 intro b s d H Q I h;refine Mp PySem.F.slot_dict_getitem.lookup hs (au (k b s d H _ I h) λu q r=>iv r λx C E n l=>au (j b q d C _ E l) λt w ⟨y,D,B,p,a,v,f,g,m⟩=>?_);subst f;obtain rfl:u=Ð a:=n;exact⟨zy B g,EA hu B g p λL z J c=>⟨v,D,J,c,m⟩⟩
def B3 (hu:X.A.units+1<cLine)(f:PE X i ty)(j:PE X o td):PC X .In i o (W' ty td):=by
 intro b s c H Q I h;refine au (f b s c H _ I h) λt q r=>iv r λy B D p l=>au (j b q c B _ D l) λu v ⟨x,C,E,n,a,k,d,g,m⟩=>?_;subst d;obtain rfl:u=Ð a:=n;exact VC hu E g p λw F=>⟨.bl k.isSome,C,F,rfl,m⟩
def Fv (hu:X.A.units+1<cLine)(f:PE X i ty)(j:PE X o td):PC X .NotIn i o (Mr ty td):=by
 intro b s c H Q I h;refine au (f b s c H _ I h) λt q r=>iv r λy B D p l=>au (j b q c B _ D l) λu v ⟨x,C,E,n,a,k,d,g,m⟩=>?_;subst d;obtain rfl:u=Ð a:=n;exact Ks hu E g p λw F=>⟨.bl (!k.isSome),C,F,rfl,m⟩
def DE (hu:X.A.units+1<cLine)(k:PE X o td)(j:PE X i ty)(l:PE X value tv)(hs:fb value (À (.Subscript o i pos')) pos.line X.env=pure false) :
  PS X (.Assign [.Subscript o i pos'] value pos) (Tu td ty tv):=by
 intro b s c H D I h;refine wpAny_Assign_Subscript (au (l b s c H _ I h) λr w d=>iv d λv B F rv m=>au (k b w c B _ F m) λu z d=>iv d λx C J q n=>au (j b z c C _ J n) λO P ⟨y,N,L,t,a,E,f,g,p⟩=>?_) hs;subst f;obtain rfl:u=Ð a:=q;exact EB hu L g t rv λQ M=>⟨c,E,M,p⟩
end
def zA (h:Heap)(a:bN<h.objs.size):š P w H (h.push {cls:=.type "dict",data:=.dict #[]}) h.objs.size (.dK []):=
 ⟨ĩ _,az.mpr (ő (ï a)),[],.nil,YS h⟩
def GV (h:Heap)(a:bN<h.objs.size):š P w H (h.push {cls:=.type "dict",data:=.dict #[]}) h.objs.size (.dT []):=
 ⟨ĩ _,az.mpr (ő (ï a)),[],.nil,_,#[],0,Ò _ rfl,⟨rfl,rfl,rfl⟩,rfl,rfl,List.nodup_nil⟩
def QI:TE:=λ_ H Q=>∀p,H p=none->Q (.ref p) (upd H p (.dK []))
def QJ:TE:=λ_ H Q=>∀p,H p=none->Q (.ref p) (upd H p (.dT []))
section
variable {X:Cx}{pos:jA}
def Ia:PE X (.Dict [] [] pos) QI:=λb s c H Q I h=>
 Vm ⟨.ref s.heap.objs.size,_,I.laid (a:=s.heap.objs.size) (o:=.dK []) (t':=s.toks) (λ_ _ q=>Ä _ q) (Í _) (zA s.heap I.big),rfl,h _ (I.Ů.fresh (Í _))⟩
def Ib:PE X (.Dict [] [] pos) QJ:=λb s c H Q I h=>
 Vm ⟨.ref s.heap.objs.size,_,I.laid (a:=s.heap.objs.size) (o:=.dT []) (t':=s.toks) (λ_ _ q=>Ä _ q) (Í _) (GV s.heap I.big),rfl,h _ (I.Ů.fresh (Í _))⟩
end
def yq:Â (TE×TE)->St->Hp->(Â (V×V)->Hp->Prop)->Prop
 |[],_,H,Q=>Q [] H
 |(c,d)::r,a,H,Q=>c a H λx A=>d a A λy B=>yq r a B λb C=>Q ((x,y)::b) C
abbrev VV:Â (V×V)->Â (Value×Value)->Prop:=Paired λp q=>RelV p.1 q.1/\RelV p.2 q.2
def MT (X:Cx)(pos:jA)(c:Â (É Expr)) (a:Â Expr)(d:Â (TE×TE)):Prop:=
 ∀b s e H Q,Inv X b e H s->yq d e H Q->
  Ø (Û X.prog X.w) X.A (evalPairs (pairTrees c a X.env pos)) (λg s'=>∃f B,Inv X b e B s'/\VV f g/\Q f B) X.xe s
def L3:MT X pos [] [] []:=λa s b H Q I h=>pairTrees_nil_walk ⟨[],H,I,.nil,h⟩
def Iq (hk:PE X k q)(f:PE X v r)(hr:MT X pos ks vs d) :
  MT X pos (À k::ks) (v::vs) ((q,r)::d):=λa s e H Q I h=>
 pairTrees_cons_walk (au (hk a s e H _ I h) λu o b=>iv b λx A D m i=>au (f a o e A _ D i) λw p b=>iv b λy B E n j=>
  au (hr a p e B _ E j) λz t b=>iv b λg C F c l=>⟨(x,y)::g,C,F,.cons ⟨m,n⟩ c,l⟩)
def fW (kvs more:Â (Key×V)):Â (Key×V):=more.foldl (λa b=>putK a b.1 b.2) kvs
def KV.merge:∀{more:Â (Key×V)}{rs:Â (Key×Value)}{kvs:Â (Key×V)}{vs:Â (Key×Value)},KV more rs->KV kvs vs->KV (fW kvs more) (merged vs rs):=by
 intro more rs kvs vs r;unfold KV at r;induction r generalizing kvs vs with
 |nil=>intro q;exact q
 |@cons p q c d h t a=>
  intro b;have e:KV (putK kvs p.1 p.2) (stored vs q.1 q.2):=by
   have:=b.put p.1 h.2;rw[<-h.1];exact this
  exact a e
theorem nr:∀more kvs,(fW kvs more).length<=kvs.length+more.length
 |[],kvs=>by show kvs.length<=kvs.length+0;lia
 |p::r,kvs=>by
  have a:=nr r (putK kvs p.1 p.2);have b:=lW kvs p.1 p.2;show(fW (putK kvs p.1 p.2) r).length<=_;rw[Ķ];lia
theorem sZ:∀{kvs:Â (Key×V)}{ws:Â (Value×Value)},VV (kvs.map λd=>(kV d.1,d.2)) ws->∃rs,Carries (ay P w) ws rs/\KV kvs rs
 |[],_,r=>by rw[a_]at r;cases r;exact⟨[],bt,.nil⟩
 |p::kvs,_,r=>by
  rw[Õ]at r;cases r with
  |@cons a b e bs h t=>
   obtain⟨rs,c,q⟩:=sZ (P:=P) (w:=w) t;obtain⟨b1,b2⟩:=b;exact⟨(p.1,b2)::rs,⟨t_ h.1,rfl,c⟩,.cons ⟨rfl,h.2⟩ q⟩
def TH (b:Â (TE×TE)):TE:=λe H Q=>∀p,H p=none->yq b e (upd H p (.dK [])) λd A=>A p=À (.dK [])/\∃a:Â (Key×V),d=a.map (λc=>(kV c.1,c.2))/\a.length<=15/\Q (.ref p) (upd A p (.dK (fW [] a)))
def LL (h:MT X pos b d m)(g:b.all (·.isSome)=true) (hl:b.length=d.length)(h0:b≠[])
  (k:b.length<=15):PE X (.Dict b d pos) (TH m):=by
 intro j s M H Q I q;have u:=I.Ů.fresh (Í s.heap.objs.size);have B:=I.laid (a:=s.heap.objs.size) (o:=.dK []) (h':=s.heap.push {cls:=.type "dict",data:=.dict #[]}) (t':=s.toks) (λ_ _ q=>Ä _ q) (Í _) (zA s.heap I.big);refine wpAny_Dict_walk (knd:=ay X.prog X.w) g hl h0 k (au (h j _ M _ _ B (q _ u)) λY U L=>?_);obtain⟨T,N,A,l,e,i,p,O,C⟩:=L;subst p;obtain⟨F,c,E⟩:=sZ (P:=X.prog) (w:=X.w) l;obtain⟨z,hd,J,D,n⟩:=GS A.Ů e;cases D;refine⟨F,c,n,λh' f x=>⟨.ref s.heap.objs.size,_,?_,rfl,C⟩⟩;have y:(fW [] i).length<=sizeLine:=by
  have r:=nr i [];rw[mL]at r;rw[ā];lia
 have t:∃q,h'.get? s.heap.objs.size=À q:=let ⟨q,_,_,v,_⟩:=f;⟨q,v⟩;exact xm A (by rw[e];exact bt) x t (GR y hd (E.merge .nil) f)
structure M1 (X:Cx)(o:Expr)(m:Str)(lI:jA)(e:Expr)(lM:jA):Prop where
 base:bG o m X.env (ģ o X.env)=ģ o X.env
 ZS:((ĺ lM (Î [e] X.env)).all (λx=>!x.1)&&(h_ lM (cc [] X.env)).all (λx=>x.1.isSome)
  && decide (([e]:Â Expr).length+([]:Â jX).length+(if ([]:Â jX).isEmpty then 0 else 1)<30))=true
 line:(lI.endLine == lM.line)=true
 trees:ĺ lM (Î [e] X.env)=[(false,ģ e X.env)]
def Vp (H:Hp)(a:Addr):Prop:=(∃b,Rd H a (.dK b))∨∃b,Rd H a (.dT b)
def BH (I:Inv X j l H s)(d:Vp H a) :
  s.TypeIs (.ref a) "dict"/\(∀b,Ð a=.ref b->∃c,s.heap.get? b=À c/\c.dict=none)/\(a == bN)=false:=by
 rcases d with⟨i,e⟩|⟨i,e⟩
 ·obtain⟨_,hd,k,_,f⟩:=tj I.Ů e;refine⟨f.typeIs,λb q=>?_,hd⟩;cases q;obtain⟨c,_,_,g,h,_⟩:=f;exact⟨c,g,h.2.1⟩
 ·obtain⟨_,hd,xs,_,f⟩:=tr I.Ů e;refine⟨f.typeIs,λb q=>?_,hd⟩;cases q;obtain⟨c,_,_,g,h,_⟩:=f;exact⟨c,g,h.2.1⟩
section
variable {X:Cx}{ø:Â (Addr×Obj)}{σ:St}{H:Hp}{s:Ô}{a:Addr}{y d:V}{u r:Value}{o:É V}{A:Ŕ}{E:Value->Ô->Prop}
def N3 (hu:A.units+1<cLine)(I:Inv X ø σ H s)(g:jE H a y o)(m:RelV y u)(h:∀n s',Inv X ø σ H s'->RelV (o.getD .Ě) n->Q n s') :
  Ø (Û X.prog X.w) A (call (.builtin "dict.get") [.ref a,u]) Q E s:=by
 rcases g with⟨j,k,e,i,l⟩|⟨j,k,b,e,i,p,l⟩
 ·subst i;obtain⟨z,hd,q,c,f⟩:=tj I.Ů e;refine call_meetsIn lF f.typeIs yT (yA _ _) (meets_dict_get (ay X.prog X.w) a (t_ m) hd) ⟨_,f.mapOf,h _ _ (I.tok _) ?_⟩;rw[l];exact(c.val k).getD rfl
 ·subst i;cases (show u=Ð b from m);obtain⟨z,hd,xs,c,f⟩:=tr I.Ů e;refine call_meetsIn lF f.typeIs yT (yA _ _) (meetsH_dict_get (nG (ay X.prog X.w)) a b hd) ⟨gn hu,k,xs,qh I.Ů p,f,h _ _ (I.tok _) ?_⟩;rw[l];exact(c.val k).getD rfl
end
def QH (c d:TE):TE:=λb H Q=>c b H λx A=>∃a,x=.ref a/\Vp A a/\d b A λy B=>∃o,jE B a y o/\Q (o.getD .Ě) B
section
variable {X:Cx}{o e f:Expr}{lI lM:jA}{td ty tx:TE}
def H_ (hu:X.A.units+1<cLine)(l:PE X o td)(k:PE X e ty)(m:M1 X o "get" lI e lM):PE X (.Call (.Attribute o "get" lI) [e] [] lM) (QH td ty):=by
 intro b s i H Q I h;refine wpAny_Call_method m.base m.ZS m.line yC lF PySem.F.type_dict_get (au (l b s i H _ I h) λu t v=>?_);obtain⟨x,C,B,q,a,j,d,n⟩:=v;subst j;obtain rfl:u=Ð a:=q;obtain⟨t1,t2,_⟩:=BH B d;refine⟨t1,t2,?_⟩;rw[m.trees];refine lD rfl (DX (pO (au (k b t i C _ B n) λw L ⟨y,D,E,r,z,g,p⟩=>rh ?_)));exact N3 hu E g r λN M J c=>⟨_,D,J,c,p⟩
end
section
variable {X:Cx}{ø:Â (Addr×Obj)}{σ:St}{H:Hp}{s:Ô}{a:Addr}{kvs:Â (Key×V)}{A:Ŕ}{E:Value->Ô->Prop}
end
section
variable {X:Cx}{ø:Â (Addr×Obj)}{σ:St}{H:Hp}{s:Ô}{a:Addr}{y:V}{u:Value}{A:Ŕ}{E:Value->Ô->Prop}
end
end L2
namespace Yb
open PySem PySem.W PySem.Calls PyProof.Rows
def rJ:∀ns vs,WellAll P h vs (ns.map X9)->r8 vs ns:=by
 intro ns;induction ns with
 |nil=>
  intro vs w;rw[a_]at w;cases w;exact .nil
 |cons n ns c=>
  intro vs w;rw[Õ]at w;cases w with
  |cons a b=>
   cases a;exact .cons _ _ (c _ b)
def FH {l:OpenLaw}{n:Nat}(t:l.most=À n){P:Params}{h:Heap}{args:Â WData}{c:Â Value}
  (b:l.row.toRowW.claim.pre args=true) (k:WellAll P h c args) :
  ∃a vs ns,c=[Ð a]/\args=[WData.list (ns.map X9)]/\h.get? a=À {cls:=.type "list",data:=.seq vs.toArray}/\r8 vs ns/\ns.length<=n:=by
 have j:WShape.hasAll [] args [.list .int]=true:=(pre_splitW b).1;have m:l.pre.holds [] {args:=args}=true:=(pre_splitW b).2;obtain⟨d,r,rfl,o,p⟩:=hasAllW_cons j;obtain rfl:=hasAllW_nil p;obtain⟨xs,rfl,s⟩:=hasW_list o;obtain⟨ns,rfl⟩:=items_int s;have f:ns.length<=n:=by
  unfold OpenLaw.pre at m;have g:(WTm.not (.lt (.lit (.int (n:Int))) (.len (.arg 0)))).holds [] {args:=[.list (ns.map .int)]}=true:=by
   have g:=(holds_andW m).1;rw[t]at g;exact g
  have i:=condW_of g (w_not (w_lt w_lit (w_len_list (w_arg rfl))));rw[Ê]at i;refine Nat.le_of_not_lt λq=>?_;have v:(n:Int)<((ns.length:Nat):Int):=by lia
  first
   |(rw[ó v]at i;exact absurd i (by decide))
   |(simp at i;lia)
 cases k with
 |cons w x=>
  cases x;cases w with
  |list u e=>exact⟨_,_,ns,rfl,rfl,u,rJ ns _ e,f⟩
def Fy (l:OpenLaw)(args:Â WData):l.row.toRowW.claim.post args (.bool true) args=true:=
 postW_of (r:=l.row.toRowW) (X:=(true == true))
  (show Ui [] (.bool true) .bool=true by first|rfl|decide|simp[Ui,WShape.arms,WShape.armsAll])
  (show(WTm.eq .res (.lit (.bool true))).value [] {args:=args,res:=À (.bool true),after:=args}=À (.bool (true == true))from w_eq_bool (w_res rfl) w_lit) rfl
def zi {l:OpenLaw}{n:Nat}{q:ą}{c:Â Str}{A:(Str->É Value)->Heap->Prop}{B:ħ->Heap->Prop}{d:DefRec}
  (M:l.most=À n) (s:d.params.defaults=[])
  (call:∀w iX b mg v h o x m e a vs ns,
   Ground q c [] A w iX mg v b.heap->B w b.heap->
   b.heap.get? h=À o->o.data=.func (docDef d.name d.params d.body d.scope x m e)->b.heap.CodeRec m d.name->mg d.name=À (.ref h)->
   b.heap.get? a=À {cls:=.type "list",data:=.seq vs.toArray}->r8 vs ns->ns.length<=n->b.gens=#[]->
   ef (Û l.prog w) sf (.call (.ref h) ⟨[.ref a],[]⟩) (λr s'=>r=.ok (.ret (.bool true))/\OldK b.heap s'.heap/\s'.os=b.os/\md s'.gens) b) :
  WalkO q c A B l.row.toRowW d [] (λf vs=>F8 f vs):=by
 intro w iX b mg v G Y h o x m e D kV N hd p hD t I y C Q k z P u J;obtain rfl:D=.none:=Dflts.none hD s;obtain rfl:kV=.none:=Dflts.noKw hD;obtain⟨a,vs,ns,rfl,rfl,j,g,i⟩:=FH M k u;refine enter_call (ow (call w iX b mg v h o x m e a vs ns G Y N (fd_plain hd) p t j g i I) λr s' O=>?_);obtain⟨rfl,E,F,H⟩:=O;exact⟨.inl ⟨.bool true,.bool true,[],rfl,λ_=>rfl,.bool true,Fy l _,λ_=>⟨mK,λ_ L=>(nomatch L)⟩⟩,E,F,H⟩
section
variable {prog:ą}{w:ħ}{A:Ŕ}{E:Value->Ô->Prop}{s:Ô}{K:Frag}
end
end Yb
namespace L2
open PySem PySem.Spec PyProof.Rows
theorem wB:∀{vs:Â Value}{ns:Â Int},r8 vs ns->Vals (ns.map V.int) vs
 |_,_,.nil=>.nil
 |_,_,.cons n t h=>.cons ⟨t,rfl⟩ (wB h)
noncomputable def inClass (s:Stmt)(j:Nat):Stmt:=match s with
 |.ClassDef _ _ _ a _ _ _ _ _ _ _=>a.getD j (.Pass ⟨0,0,0,0⟩)
 |_=>.Pass ⟨0,0,0,0⟩
noncomputable def cj (s:Stmt):Arguments:=match s with
 |.FunctionDef _ a _ _ _ _ _ _ _ _=>a
 |_=>{posonlyargs:=[],args:=[],vararg:=none,kwonlyargs:=[],kw_defaults:=[],kwarg:=none,defaults:=[]}
def aL (s:Stmt):Â Stmt:=match s with
 |.FunctionDef _ _ b _ _ _ _ _ _ _=>b
 |_=>[]
def ď (s:Stmt):Scope:=match s with
 |.FunctionDef _ _ _ _ _ _ a _ _ _=>a
 |_=>{kind:=.function,names:=[],isGenerator:=false,isCoroutine:=false}
abbrev E0:XK:=λ_ _ _=>False
structure Gg (K:Ç)(x qual:Str)(st:Stmt)(f:Addr)(fd:dC):Prop where
 ex:∃oc od kV doc pm an Yi ct osl,
  fd=Ņ x qual (cj st) (aL st) (ď st) .none kV doc pm an Yi ct/\K.lookup f=À ⟨oc,od,.func fd,osl⟩/\dg K Yi qual=true
 kp:ĵ K (.ref f)=true
section
variable {P:ą}{w:ħ}{K:Ç}{mg:Str->É Value}{base:Heap}
def Gg.binds {x a:Str}{st:Stmt}{f:Addr}{g:dC}{ps:Â Str}(F:Gg K x a st f g)
  (h:∀kV c e d b ct us,us.length=ps.length->jf (Ņ x a (cj st) (aL st) (ď st) .none kV c e d b ct) ⟨us,[]⟩=pure (ps.zip us)):Binds K g ps []:=by
 obtain⟨l,m,kV,c,e,d,b,ct,j,rfl,k,i⟩:=F.ex;exact .all (h kV c e d b ct)
def xB {x a:Str}{st:Stmt}{f:Addr}{i:Value}{od g:É Addr}{e:Č (É Value)}{kV d h b ct:Value}(l:K.lookup f=À ⟨i,od,.func (Ņ x a (cj st) (aL st) (ď st) .none kV d h g b ct),e⟩)
  (c:dg K b a=true) (k:ĵ K (.ref f)=true):Gg K x a st f (Ņ x a (cj st) (aL st) (ď st) .none kV d h g b ct):=⟨⟨i,od,kV,d,h,g,b,ct,e,rfl,l,c⟩,k⟩
end
def M7 (hr:cW k A):A.units+1<cLine:=bz (JC (by decide:1<=64) _) hr.units
def ſ (h:n<=1000):n<sizeLine:=bz h (by decide)
section
variable {X:Cx}
def pv (i:Nat)(b:X.N[i]?=À x:=by rfl)(c:UB X.env.scope x:=by first|exact MO rfl|exact FV (MO rfl)|exact FV (FV rfl)) (hd:(x == ("__debug__":Str))=false:=by decide)
  (a:(x == ("__classdict__":Str))=false:=by decide):PE X (.Name x pos) (QM i):=P5 b c hd a
end
section
variable {κ:Type} [ri κ]
end
end L2
set_option maxHeartbeats 4000000
namespace L2
open PySem PySem.Spec PyProof.Rows
def i3 (X:Cx)(scope:Scope):Â (Str×É Nat)->Prop
 |[]=>j2
 |(_,none)::r=>i3 X scope r
 |(x,À j)::r=>(X.N[j]?=À x/\scope.names.lookup x=À .free/\(X.env.kindOf x=À .cell∨X.env.kindOf x=À .free))/\i3 X scope r
def Ck (l:Â (Str×É Nat)) (a:St):St:=l.map λp=>p.2.bind λj=>(a[j]?).join
theorem i3.get:∀{l:Â (Str×É Nat)},i3 X scope l->∀{i:Nat}{x:Str}{j:Nat},l[i]?=À (x,À j)->
  X.N[j]?=À x/\scope.names.lookup x=À .free/\(X.env.kindOf x=À .cell∨X.env.kindOf x=À .free)
 |[],_,i,x,j,e=>by simp at e
 |(y,none)::r,h,0,x,j,e=>by simp at e
 |(y,none)::r,h,i+1,x,j,e=>i3.get (l:=r) h (i:=i) (by simpa using e)
 |(y,À k)::r,h,0,x,j,e=>by
  simp at e;obtain⟨rfl,rfl⟩:=e;exact h.1
 |(y,À k)::r,h,i+1,x,j,e=>i3.get (l:=r) h.2 (i:=i) (by simpa using e)
theorem nK (env:Jw):∀(names:Â (Str×kO)) (b:Â (Str×Addr)),(∀x∈names,x.2=.free->∃c,env.cells.lookup x.1=À c)->
  ∃cl,(forIn names b (λ(x:Str×kO) (q:Â (Str×Addr))=>(if x.2 == .free then do let a <-cellOf env x.1;pure (br ((x.1,a)::q))else pure (br q):X5 (ForInStep (Â (Str×Addr))))))=pure cl/\
   (∀y c,cl.lookup y=À c->env.cells.lookup y=À c∨b.lookup y=À c)/\(∀x∈names,x.2=.free->∃c,cl.lookup x.1=À c )/\(∀y,(∃c,b.lookup y=À c)->∃c,cl.lookup y=À c)
 |[],b,h=>⟨b,rfl,λ_ _ e=>.inr e,λ_ hx=>(nomatch hx),λ_ e=>e⟩
 |(n,k)::r,b,h=>by
  by_cases o:k=.free
  ·subst o;obtain⟨c,s⟩:=h (n,.free) Ļ rfl;obtain⟨cl,i,j,l,f⟩:=nK env r ((n,c)::b) λx hx=>h x (ÿ _ hx);have v:cellOf env n=pure c:=by
    unfold cellOf;have m:env.cells.lookup n=À c:=s;rw[m]
   have p:∃t,cl.lookup n=À t:=f n ⟨c,by simp[ĝ]⟩;refine⟨cl,?_,λy d e=>?_,λx hx g=>?_,λy ⟨d,e⟩=>?_⟩
   ·rw[iT];simp only[yZ,f9,v,pure_bind];exact i
   ·rcases j y d e with z|z
    ·exact .inl z
    ·rw[ĝ]at z;split at z
     ·rename_i w;have:y=n:=by simpa using w
      subst this;cases z;exact .inl s
     ·exact .inr z
   ·rcases ò.mp hx with rfl|hx
    ·exact p
    ·exact l x hx g
   ·refine f y ?_;rw[ĝ];split
    ·exact⟨_,rfl⟩
    ·exact⟨d,e⟩
  ·obtain⟨cl,i,j,l,f⟩:=nK env r b λx hx=>h x (ÿ _ hx);have u:(k == ŏ)=false:=by simpa using o
   refine⟨cl,?_,j,λx hx g=>?_,f⟩
   ·rw[iT];simp only[u,aG,ia,pure_bind];exact i
   ·rcases ò.mp hx with rfl|hx
    ·exact absurd g o
    ·exact l x hx g
def m7 (h:∀x∈scope.names,x.2=.free->∃c,env.cells.lookup x.1=À c) :
  ∃cl,ov scope env=pure cl/\(∀y c,cl.lookup y=À c->env.cells.lookup y=À c)/\∀x∈scope.names,x.2=.free->∃c,cl.lookup x.1=À c:=by
 obtain⟨cl,b,d,f,_⟩:=nK env scope.names [] h;refine⟨cl,?_,λy c e=>(d y c e).elim id λz=>by simp at z,f⟩;unfold ov;have a:=b;simp only[bind_pure_comp]at a⊢;first
  |(rw[a];rfl)
  |(simp only[a];rfl)
  |(simpa using a)
theorem hZ {env:Jw}:∀{names:Â (Str×kO)}{x:Str},names.lookup x=À .free->
    ((names.map λ(n,k)=>if (k == ŏ&&env.scope.kind == .function&&env.kindOf n == À .cell)then (n,bL)else (n,k)).lookup x=À .cell∨
     (names.map λ(n,k)=>if (k == ŏ&&env.scope.kind == .function&&env.kindOf n == À .cell)then (n,bL)else (n,k)).lookup x=À .free)
  |[],_,h=>by simp at h
  |(n,k)::r,x,h=>by
    have c:=@hZ env r x;show dM x ((if (k == ŏ&&env.scope.kind == .function&&env.kindOf n == À .cell)=true then (n,bL)else (n,k))::_)=_∨dM x ((if (k == ŏ&&env.scope.kind == .function&&env.kindOf n == À .cell)=true then (n,bL)else (n,k))::_)=_;cases a:x == n with
    |true=>
      simp only[ĝ,a]at h;cases h;by_cases b:(ŏ == ŏ&&env.scope.kind == .function&&env.kindOf n == À .cell)=true
      · rw[Ì b];left;simp[ĝ,a]
      · rw[Ö b];right;simp[ĝ,a]
    |false=>
      simp only[ĝ,a]at h;by_cases b:(k == ŏ&&env.scope.kind == .function&&env.kindOf n == À .cell)=true
      · rw[Ì b];simp only[ĝ,a];exact c h
      · rw[Ö b];simp only[ĝ,a];exact c h
theorem pe {env:Jw}{x:Str}:∀{names:Â (Str×kO)},
    ((names.map λ(n,k)=>if (k == ŏ&&env.scope.kind == .function&&env.kindOf n == À .cell)then (n,bL)else (n,k)).lookup x=À .cell∨
     (names.map λ(n,k)=>if (k == ŏ&&env.scope.kind == .function&&env.kindOf n == À .cell)then (n,bL)else (n,k)).lookup x=À .free)->(x,ŏ)∈names∨names.lookup x=À .cell
  |[],h=>by simp at h
  |(n,k)::r,h=>by
    have e:=@pe env x r;simp only[Õ]at h;by_cases c:(k == ŏ&&env.scope.kind == .function&&env.kindOf n == À .cell)=true
    · rw[Ì c]at h
      have d:k=.free:=by
        have:=(FQ.mp (FQ.mp c).1).1;simpa using this
      by_cases b:x=n
      · rw[b,d];exact .inl Ļ
      · have a:(x == n)=false:=by simpa using b
        simp only[ĝ,a]at h⊢;exact(e h).imp (ÿ _) id
    · rw[Ö c]at h
      by_cases b:x=n
      · have a:(x == n)=true:=by simpa using b
        simp only[ĝ,a]at h⊢;rcases h with h|h
        · exact .inr h
        · rw[b,ã h];exact .inl Ļ
      · have a:(x == n)=false:=by simpa using b
        simp only[ĝ,a]at h⊢;exact(e h).imp (ÿ _) id
theorem jl:∀names n a more,bI n names (a++more)=bI n names a++more
 |[],_,_,_=>rfl
 |(x,k)::r,n,a,more=>by
  unfold bI;split
  ·exact jl r (n+1) ((x,n)::a) more
  ·exact jl r n a more
theorem jm:∀names n a x c,(x,c)∈bI n names a->(x,bL)∈names∨(x,c)∈a
 |[],_,_,_,_,h=>.inr h
 |(y,k)::r,n,a,x,c,h=>by
  unfold bI at h;split at h
  ·rename_i b;have b:k=.cell:=by simpa using b
   rcases jm r _ _ x c h with z|z
   ·exact .inl (ÿ _ z)
   ·rcases ò.mp z with z|z
    ·cases z;rw[b];exact .inl Ļ
    ·exact .inr z
  ·exact(jm r _ _ x c h).imp (ÿ _) id
def mX 
  (h:Q (Y2 scope s.heap.objs.size b (bI (s.heap.objs.size+1) scope.names a) d none .none (À outer) 0) {s with heap:=JL (s.heap.push {cls:=.type "dict",data:=.dict #[]}) scope.names}) :
  Ø M A (rr scope b a [] d none .none (À outer)) Q E s:=by
 simp only[rr,FU,f9];refine Ã (wpAny_alloc ?_);refine Ã (wpAny_layCells _ (λg c e=>by cases f:c == bL<;>simp[f]) _ _ _ _ ?_);rw[show({s with heap:=s.heap.push {cls:=.type "dict",data:=.dict #[]}}:Ô).heap.objs.size=s.heap.objs.size+1 from Ĺ ..];exact Ã (È (È h))
noncomputable def ag (X:Cx)(l:Â (Str×É Nat)) (scope:Scope)(cl:Â (Str×Addr)) (C:Addr)(a:Â Addr)(b:Ô)(A:Hp):Cx:=
 {X with N:=l.map (·.1),iX:=b,vf:=A,env:=NB scope cl C X.env,outer:=X.stack,ex:=a,fn:=λx=>scope.names.lookup x == À .cell,pn:=[],xe:=λ_ _=>False}
def JN (X:Cx)(b:Â Expr)(t:TT):Prop:=
 ∀a s d H Q,Inv X a d H s->t d H Q->
  Ø (Û X.prog X.w) X.A (forIn b true λc r=>if r=true then do let e <-Ek c X.env (ģ c X.env);pure (br e)else pure (br r)) (TP X a d Q) X.xe s
def Xl:TT:=λ_ H Q=>Q true H
def LV:JN X [] Xl:=λ_ _ _ H _ I h=>wpAny_tests_nil ⟨H,I,h⟩
def LW (h:PT X c t):JN X [c] t:=λa s b H Q I hw=>wpAny_tests_one (h a s b H Q I hw)
def Gi (e i:Expr)(g:Â Expr)(p:jA)(d:Nat)(body:Value->Jw->X5 Unit):Prop:=
 ∀f b a,compTurn e d f b a=(j6 p >>= λ_=>fE f >>= λr=>match r with
  |none=>pure (.done .next)
  |some v=>jD i f v >>= λ_=>kW i a v >>= λ_=>(forIn g true λc r=>if r=true then do let h <-Ek c a (ģ c a);pure (br h)else pure (br r)) >>= λh=>
   if h=true then body b a >>= λ_=>again (.compLoop e d f b a)else again (.compLoop e d f b a))
def NI (e:Expr):Prop:=(∃a b c d,e=.ListComp a b c d)∨∃a b c d,e=.SetComp a b c d
def xl (J:NI e)(O:Gi e L H p d body)(I:Nat->Ô->Prop)
  (D:∀n s,I n s->Ø (Û prog w) A (fE z) (λr a=>match r with
   |none=>R (.ok .next) a
   |some v=>Ø (Û prog w) A (jD L z v) (λ_ o=>Ø (Û prog w) A (kW L env v) (λ_ k=>
     Ø (Û prog w) A (forIn H true λc r=>if r=true then do let C <-Ek c env (ģ c env);pure (br C)else pure (br r)) (λC b=>
      if C=true then Ø (Û prog w) A (body g env) (λ_ l=>∃m,m<n/\I m l) (λ_ _=>False) b
      else ∃m,m<n/\I m b) (λ_ _=>False) k) (λ_ _=>False) o) (λ_ _=>False) a) (λ_ _=>False) s)
  (n:Nat) (h:I n s) :
  ef (Û prog w) A (.compLoop e d z g env) R s:=by
 have B:∀{M:Type}{t:X5 M}{Q:M->Ô->Prop}{E:Value->Ô->Prop}{s:Ô},Ø (Û prog w) A t Q (λ_ _=>False) s->Ø (Û prog w) A t Q E s:=λh=>aw h (λ_ _ q=>q) λ_ _ f=>f.elim;refine codeAny_loop rfl I (λn s N=>?_) n h;have hd:(Û prog w).den (.compLoop e d z g env)=(compTurn e d z g env).onRaise (λx=>do JK x env;theTreesLotGoes x):=by rcases J with⟨_,_,_,_,rfl⟩|⟨_,_,_,_,rfl⟩<;>rfl
 have hu:A.under (.compLoop e d z g env)=A:=by rcases J with⟨_,_,_,_,rfl⟩|⟨_,_,_,_,rfl⟩<;>rfl
 rw[hd,hu];refine wpAny_noted ?_;rw[O];refine Ã (dS (Ã (au (B (D n s N)) (λr a i=>?_))));cases r with
 |none=>exact È i
 |some v=>
  refine Ã (au (B i) λ_ P F=>?_);refine Ã (au (B F) (λ_ k u=>Ã (au (B u) (λC b j=>?_))));cases C with
  |false=>exact È ⟨rfl,j⟩
  |true=>exact Ã (au (B j) (λ_ l y=>È ⟨rfl,y⟩))
def vl (g:NI e)(l:(clausesOf e)[d]?=À f) (k:f.is_async=0)
  (h0:ef (Û prog w) A (.compLoop e d b a env) R s)
  (h:Ø (Û prog w) A (J9 b) (λc s'=>ef (Û prog w) A (.compLoop e d c a env) R s') (λ_ _=>False) s) :
  ef (Û prog w) A (.compStart e d b a env) R s:=by
 refine codeAny_of_tree ?_;have hd:(Û prog w).den (.compStart e d b a env)=(compStart e d b a env).onRaise (λx=>do JK x env;j6 theWindowsPlace):=by rcases g with⟨_,_,_,_,rfl⟩|⟨_,_,_,_,rfl⟩<;>rfl
 have hu:A.under (.compStart e d b a env)=A:=by rcases g with⟨_,_,_,_,rfl⟩|⟨_,_,_,_,rfl⟩<;>rfl
 rw[hd,hu];refine wpAny_notedAt ?_;unfold compStart;rw[l];have i:(À f).elim false (λx=>x.is_async != 0)=false:=by show(f.is_async != 0)=false;rw[k];rfl
 rw[i];show Ø _ _ (ask >>= _) _ _ s;refine Ã (wpAny_askSetting (wpAny_ite ?_));split
 ·first
   |exact Ã (È (È (Nx rfl h0)))
   |exact È (Nx rfl h0)
 ·exact Ã (bP (Ã (dS (Ã (aw h (λc s' j=>È (Nx rfl j)) λ_ _ x=>x.elim)))))
def MR (l:Â (Str×É Nat)) (g:TG)(h:TT)(f:TE)(J:It)(j:St)(B:Hp)(Q:Addr->Hp->Prop):Prop:=
 ∀D,B D=none->∃W:Nat->Nat->Â V->St->Hp->Prop,(∃m,W 0 m [] (Ck l j) (upd B D (.lst [])))/\∀i m c e A,W i m c e A->
  (J.stop i A/\Q D A)∨(J.go i A/\∀x C,J.Jt i A x C->g x e C λa H=>h a H λb E=>
   if b=true then f a E λv F=>F D=À (.lst c)/\c.length<sizeLine/\∃d,d<m/\W (i+1) d (c++[v]) a (upd F D (.lst (c++[v])))else ∃d,d<m/\W (i+1) d c a E)
def QG (l:Â (Str×É Nat)) (d:TI)(g:TG)(c:TT)(b:TE)(a:St)(H:Hp)(Q:Addr->Hp->Prop):Prop:=
 d a H λJ A=>MR l g c b J a A Q
def GG {α:Type}{X:Cx}{ifs:Â Expr}{scope:Scope}{cl:Â (Str×Addr)}{l:Â (Str×É Nat)}{g:TG}{tt:TT}{body:Value->Jw->X5 Unit}{gc:Comprehension} 
  (hn:NI e) (Se:Gi e tg ifs p 0 body) (hgc:(clausesOf e)[0]?=À gc) (has:gc.is_async=0)
  (N:∀y c,cl.lookup y=À c->X.env.cells.lookup y=À c) (Sa:∀x∈scope.names,x.2=.free->∃c,cl.lookup x.1=À c)
  (Sb:scope.kind=.function) (R':∀y∈scope.names,y.2=.cell->scope.names.lookup y.1=À .cell) (M6:X.calm=true) (VY:i3 X scope l)
  (hg:∀cl C F f L,PG (ag X l scope cl C F f L) tg g) (ht:∀cl C F f L,JN (ag X l scope cl C F f L) ifs tt)
  {O:Â (Addr×Obj)}{σ:St}{f:Ô}{F:Â Addr}{tn:Nat->Heap->Prop}{J:It}{Q:Hp->Prop}{RR:Addr->Rn->Ô->Prop}{E:Value->Ô->Prop}
  {W:Nat->Nat->α->St->Hp->Prop}{B:Nat->Nat->α->St->Hp->Prop}{y0:α}
  (t:∀cl C F f L O s i m ys σ H,Inv (ag X l scope cl C F f L) O σ H s->B i m ys σ H->
   Ø (Û X.prog X.w) X.A (body (.ref D) (NB scope cl C X.env)) (λ_ s'=>∃m' UW U H',m'<m/\Inv (ag X l scope cl C F f L) O U H' s'/\W (i+1) m' UW U H') (λ_ _=>False) s)
  (M:Inv X O σ L f) (T:Turn X.prog X.w X.K tg J F it tn) (Tz:tn 0 f.heap) (I:∀b∈F,rF X O L b)
  (w0:W 0 m0 y0 (Ck l σ) L)
  (turn:∀i m ys UY H2,W i m ys UY H2->(J.stop i H2/\Q H2)∨(J.go i H2/\∀x L,J.Jt i H2 x L->g x UY L λUZ H4=>tt UZ H4 λb H5=>if b=true then B i m ys UZ H5 else ∃m',m'<m/\W (i+1) m' ys UZ H5))
  (VQ:∀C (s':Ô) (H':Hp),Q H'->(∃m,s'.heap.Ns C m)->Inv X O σ H' s'->rF X O H' C->RR C (.ok .next) s') :
  Ø (Û X.prog X.w) X.A (rr scope X.env.globals cl [] X.env.qual none .none (À X.env)) (λRP s₄=>
   ef (Û X.prog X.w) X.A (.compStart e 0 (.ref it) (.ref D) {RP with scope:=relabel scope X.env}) (RR RP.locals) s₄) E f:=by
 refine mX ?_;have eC:(Y2 scope f.heap.objs.size X.env.globals (bI (f.heap.objs.size+1) scope.names cl) X.env.qual none í (À X.env) 0).locals=f.heap.objs.size:=rfl;have VA:=cellsFrom_ok scope.names (f.heap.push {cls:=.type "dict",data:=.dict #[]}) (f.heap.objs.size+1) [] ⟨λ_ _ hm=>(nomatch hm),mK⟩ (by rw[Ĺ];exact Í _);rw[Ĺ]at VA;have ZQ:bI (f.heap.objs.size+1) scope.names cl=bI (f.heap.objs.size+1) scope.names []++cl:=jl scope.names _ [] cl;have hns:(JL (f.heap.push {cls:=.type "dict",data:=.dict #[]}) scope.names).Ns f.heap.objs.size (λ_=>none):=(Heap.Ns.new f.heap (.type "dict")).keeps (Ya _ _);have old:∀b o,f.heap.get? b=À o->(JL (f.heap.push {cls:=.type "dict",data:=.dict #[]}) scope.names).get? b=À o:=λb o e=>Ya _ _ b o (Ä _ e);rw[ZQ]at *
 have ownN:∀x c,(bI (f.heap.objs.size+1) scope.names []).lookup x=À c->scope.names.lookup x=À .cell:=λx c e=>by
  rcases jm _ _ _ _ _ (mem_of_lookup e)with z|z
  ·exact R' _ z rfl
  ·exact nomatch z
 have ownS:∀x,scope.names.lookup x=À .cell->∃c,(bI (f.heap.objs.size+1) scope.names []).lookup x=À c:=λx e=>bQ.mp (kR scope.names _ [] (.inl e));generalize aaa:bI (f.heap.objs.size+1) scope.names []=a at *
 generalize hh4:JL (f.heap.push {cls:=.type "dict",data:=.dict #[]}) scope.names=h4 at *
 generalize hC:f.heap.objs.size=C at *
 have eE:({Y2 scope C X.env.globals (a++cl) X.env.qual none í (À X.env) 0 with scope:=relabel scope X.env}:Jw)=NB scope (a++cl) C X.env:=rfl;have cs_of:∀x c,(a++cl).lookup x=À c->(a.lookup x=À c/\h4.IsCell c none/\C+1<=c)∨(a.lookup x=none/\cl.lookup x=À c):=λx c e=>by
  rw[qN]at e;cases q:a.lookup x with
  |none=>rw[q]at e;exact .inr ⟨rfl,e⟩
  |some d=>rw[q]at e;cases e;exact .inl ⟨rfl,VA.empty x c (mem_of_lookup q)⟩
 have of_cl:∀x c,scope.names.lookup x≠À .cell->cl.lookup x=À c->(a++cl).lookup x=À c:=λx c n e=>by
  rw[qN];cases q:a.lookup x with
  |none=>exact e
  |some d=>exact(n (ownN x d q)).elim
 have cltC:∀y c,cl.lookup y=À c->c<C:=λy c e=>by
  obtain⟨v,q⟩:=M.cell y c (N y c e);have:=q.lt;rw[hC]at this;exact this
 have fpC:∀b∈F,b≠C:=λb t z=>by
  obtain⟨o,ho,_⟩:=T.obj _ _ Tz b t;exact absurd (Ï ho) (by rw[z,hC];exact Ŝ _)
 have cellC:∀y c,(a++cl).lookup y=À c->c≠C:=λy c e z=>by
  rcases cs_of y c e with⟨_,_,q⟩|⟨_,q⟩
  ·rw[z]at q;exact absurd q (Nat.not_succ_le_self _)
  ·exact absurd (cltC y c q) (by rw[z];exact Ŝ _)
 have fpB:∀b∈F,b<C:=λb t=>by
  obtain⟨o,ho,_⟩:=T.obj _ _ Tz b t;rw[<-hC];exact Ï ho
 have fpCs:∀b∈F,∀x c,(a++cl).lookup x=À c->c≠b:=λb t x c e z=>by
  rcases cs_of x c e with⟨_,_,q⟩|⟨_,q⟩
  ·rw[z]at q;exact absurd (æ (fpB b t) (sM q)) (Ŝ _)
  ·exact(I b t).2.2.2.2.1 x c (N x c q) z
 have H3C:L C=none:=by
  have:=M.fresh;rw[hC]at this;exact this
 have OK:(ag X l scope (a++cl) C F f L).Ok:={
  mod:=M.ok.mod
  kind:=Sb
  glob:=M.ok.glob
  blt:=M.ok.blt
  above:=gg hC
  inj:=λx y c e1 e2=>by
   rcases cs_of x c e1 with⟨p1,_,p3⟩|⟨_,p1⟩<;>rcases cs_of y c e2 with⟨q1,_,q3⟩|⟨_,q1⟩
   ·exact name_of_addr VA.apart (mem_of_lookup p1) (mem_of_lookup q1)
   ·exact absurd (cltC y c q1) (mN.mpr (sM p3))
   ·exact absurd (cltC x c p1) (mN.mpr (sM q3))
   ·exact M.ok.inj x y c (N x c p1) (N y c q1)
  has:=λx hx=>by
   show ∃c,(a++cl).lookup x=À c
   rw[qN]
   cases q:a.lookup x with
   |some d=>exact⟨d,rfl⟩
   |none=>
    rcases pe hx with z|z
    ·obtain⟨c,e⟩:=Sa (x,.free) z rfl
     exact⟨c,e⟩
    ·obtain⟨c,e⟩:=ownS x z
     rw[q]at e;cases e
  MX:=λx c hf e=>by
   have hf:(scope.names.lookup x == À bL)=true:=hf
   have hf:scope.names.lookup x=À .cell:=by simpa using hf
   obtain⟨d,ed⟩:=ownS x hf
   rcases cs_of x c e with⟨_,_,q⟩|⟨q,_⟩
   ·show f.heap.objs.size<=c
    rw[hC];lia
   ·rw[q]at ed;cases ed
  hd:=M.ok.hd
  frames:=M.ok.frames
  QE:=.inl rfl
  R3:=λb t=>⟨fpC b t,fpCs b t⟩
  bs:=λb o e=>M.bs b o e
  Et:=ł M.ok.Et M.sz
  Ad:=λb o e t=>by
   rcases(I b t).2.2.2.1 with z|z
   ·exact M.ok.Ad b o e z
   ·exact absurd (æ (Ï e) (ł M.ok.Et z)) (Ŝ _)
  zH:=λb t hz=>by
   rcases ò.mp (M.Co b hz)with z|z
   ·exact(I b t).2.1 z
   ·exact(I b t).2.2.1 z
  nQ:=M.stack
  JQ:=M.sE}
 have fpX:∀{H':Hp},(∀b∈F,H' b=none)->∀b∈F,rF (ag X l scope (a++cl) C F f L) [] H' b:=λhn b t=>
  ⟨hn b t,fpC b t,OK.zH b t,.inl t,fpCs b t,λp hp=>nomatch hp⟩
 have I4:Inv (ag X l scope (a++cl) C F f L) [] (Ck l σ) L {f with heap:=h4}:={
  ok:=OK
  os:=rfl
  bare:=M.bare
  base:=Un.kept old
  loc:=by
   refine⟨_,hns,λi x v e1 e2 e3=>?_⟩
   have RY:(l.map (·.1))[i]?=À x:=e1
   have UG:(l.map λp=>p.2.bind λj=>(σ[j]?).join)[i]?=À (À v):=e2
   rw[ê]at RY UG
   cases el:l[i]? with
   |none=>rw[el]at RY;cases RY
   |some p=>
    rw[el]at RY UG
    obtain⟨y,o⟩:=p
    have VD:y=x:=ã RY
    subst VD
    cases o with
    |none=>cases UG
    |some j=>
     have Z:(σ[j]?).join=À v:=ã UG
     have ej:σ[j]?=À (À v):=by
      cases q:σ[j]? with
      |none=>rw[q]at Z;cases Z
      |some z=>rw[q]at Z;exact à À Z
     obtain⟨k1,k2,k3⟩:=VY.get el
     obtain⟨m,hn,hl⟩:=M.loc
     obtain⟨u,r,lk⟩:=hl j y v k1 ej (k3.elim (λz=>.inr (.inl z)) λz=>.inr (.inr z))
     refine⟨u,r,.inr ⟨hZ k2,?_⟩⟩
     rcases lk with⟨z,_⟩|⟨_,c,ec,Om⟩
     ·rcases k3 with k3|k3<;>(rw[z]at k3;cases k3)
     ·have hm:(y,ŏ)∈scope.names:=by
       have:∀{P:Â (Str×kO)},P.lookup y=À ŏ->(y,ŏ)∈P:=by
        intro P
        induction P with
        |nil=>intro h;simp at h
        |cons q r ih=>
         intro h
         obtain⟨n,k⟩:=q
         rw[ĝ]at h
         split at h
         ·rename_i hy
          have:y=n:=by simpa using hy
          subst this
          cases h
          exact Ļ
         ·exact ÿ _ (ih h)
       exact this k2
      obtain⟨c',Yj⟩:=Sa _ hm rfl
      have:c'=c:=by
       have:=N _ _ Yj
       rw[ec]at this
       exact(ã this).symm
      subst this
      obtain⟨o,ho,hd⟩:=Om
      exact⟨c',of_cl _ _ (by rw[k2];intro z;cases z) Yj,o,old _ _ ho,hd⟩
  cell:=λx c e=>by
   rcases cs_of x c e with⟨_,q,_⟩|⟨_,q⟩
   ·exact⟨none,q⟩
   ·obtain⟨v,o,ho,hd⟩:=M.cell x c (N x c q)
    exact⟨v,o,old _ _ ho,hd⟩
  free:=H3C
  iH:=λx c e=>by
   rcases cs_of x c e with⟨_,_,q⟩|⟨_,q⟩
   ·exact M.Ů.fresh (by rw[hC];lia)
   ·exact M.iH x c (N x c q)
  pin:=λp hp=>nomatch hp
  Ů:=M.Ů.kept old
  len:=by show(List.map _ l).length=(List.map _ l).length;rw[Ê,Ê]}
 have YL:tn 0 h4:=T.keep _ _ _ Tz λb _ o e=>old b o e;have loop:∀s4:Ô,s4={f with heap:=h4}->
   ef (Û X.prog X.w) X.A (.compLoop e 0 (.ref it) (.ref D) (NB scope (a++cl) C X.env)) (RR C) s4:=by
  rintro s4 rfl;refine xl hn Se (λn s'=>∃i ys U H',Inv (ag X l scope (a++cl) C F f L) [] U H' s'/\tn i s'.heap/\(∀b∈F,H' b=none)/\W i n ys U H') ?_ m0
   ⟨0,y0,Ck l σ,L,I4,YL,λb t=>(I b t).1,w0⟩
  rintro n s5 ⟨i,ys,U0,H5,I5,YM,UH,w5⟩;rcases turn i n ys U0 H5 w5 with⟨stop,q⟩|⟨go,step⟩
  ·refine au (T.done (ag X l scope (a++cl) C F f L) rfl rfl rfl M6 i [] s5 U0 H5 _ I5 (fpX UH) YM stop) λr s6 zz=>?_;obtain⟨hr,I6⟩:=zz;subst hr;obtain⟨m6,hn6,_⟩:=I6.loc;have u:Un (yJ X.stack) F L H5 f.heap s6.heap:=I6.base;refine VQ C s6 H5 q ⟨m6,hn6⟩ (M.RN (s':=s6) (ch:=F) I6.os u I6.Ů I6.bare λb t=>⟨(I b t).2.2.2.1,(I b t).2.1,(I b t).2.2.2.2.1,(I b t).2.2.2.2.2⟩) ?_;have hle:f.heap.objs.size<=C:=gg hC;have f0:=M.BB (H':=H5) hle I6.free;exact f0
  ·refine au (T.item (ag X l scope (a++cl) C F f L) rfl rfl rfl M6 i [] s5 U0 H5 _ I5 (fpX UH) YM go) λr s6 zz=>?_;obtain⟨u,hr,h6⟩:=zz;subst hr;refine au h6 λ_ s7 zz=>?_;obtain⟨x,H7,I7,r7,y7,WW,ZT⟩:=zz;have I7':=I7.pinned (fpX ZT) (T.obj _ _ WW);have back:∀{Y:St}{H8:Hp}{s8:Ô},Inv (ag X l scope (a++cl) C F f L) ([]++uu F s7.heap) Y H8 s8->Inv (ag X l scope (a++cl) C F f L) [] Y H8 s8/\tn (i+1) s8.heap/\∀b∈F,H8 b=none:=λ{Y H8 s8} I8=>by
    refine⟨I8.pA,T.keep _ _ _ WW λb t o e=>(I8.pin (b,o) (ğ _ (ğ _ (kj t e)))).1,λb t=>?_⟩;obtain⟨o,e,d⟩:=T.obj _ _ WW b t;exact(I8.pin (b,o) (ğ _ (ğ _ (kj t e)))).2.1
   refine au (hg (a++cl) C F f L _ s7 U0 H7 x u _ I7' r7 (step x H7 y7)) λ_ s8 zz=>?_;obtain⟨Y,H8,I8,q8⟩:=zz;refine au (ht (a++cl) C F f L _ s8 Y H8 _ I8 q8) λok s9 zz=>?_;obtain⟨H9,I9,q9⟩:=zz;cases ok with
   |false=>
    rw[Ö (by decide)]at q9⊢;obtain⟨m',hm,w9⟩:=q9;obtain⟨z1,z2,z3⟩:=back I9;exact⟨m',hm,i+1,ys,Y,H9,z1,z2,z3,w9⟩
   |true=>
    rw[Ì rfl]at q9⊢;refine au (t (a++cl) C F f L _ s9 i n ys Y H9 I9 q9) λ_ s11 zz=>?_;obtain⟨m',UW,U,H',hm,I11,w10⟩:=zz;obtain⟨z1,z2,z3⟩:=back I11;exact⟨m',hm,i+1,UW,U,_,z1,z2,z3,w10⟩
 exact vl hn hgc has (loop _ rfl) (T.self _ 0 _ _ _ YL (loop _ rfl))
def Kb {Y:Cx}{n:TE}(o:PE Y elt n)(c:Y.xe=λ_ _=>False){ys:Â V}{a:Â (Addr×Obj)}{d:St}{N:V->Hp->Prop}(I:Inv Y a d H s)
  (h:n d H λv F=>F D=À (.lst ys)/\ys.length<sizeLine/\N v (upd F D (.lst (ys++[v])))) :
  Ø (Û Y.prog Y.w) Y.A (ģ elt Y.env >>= λx=>call (.builtin "list.append") [.ref D,x] >>= λ_=>pure U8) (λ_ s'=>∃v H',Inv Y a d H' s'/\N v H') (λ_ _=>False) s:=by
 have l:=o a s d H _ I h;rw[c]at l;refine Ã (au l λr j t=>iv t λv B C i g=>?_);obtain⟨b,p,k⟩:=g;have m:=we _ j d B (.ref D) [v] (.ref D) [r] (λz H'=>z=.Ě/\H'=upd B D (.lst (ys++[v]))) C rfl (.cons i .nil) ⟨D,ys,v,rfl,rfl,b,p,rfl,rfl⟩;rw[c]at m;refine Ã (au m λ_ q f=>?_);obtain⟨_,J,E,_,_,e⟩:=f;subst e;exact È ⟨v,_,E,k⟩
def vJ {X:Cx}{ifs:Â Expr}{scope:Scope}{cl:Â (Str×Addr)}{l:Â (Str×É Nat)}{g:TG}{tt:TT}{te:TE}
  (Yo:ov scope X.env=pure cl) (O:∀y c,cl.lookup y=À c->X.env.cells.lookup y=À c) (P:∀x∈scope.names,x.2=.free->∃c,cl.lookup x.1=À c)
  (t:scope.kind=.function) (r:∀y∈scope.names,y.2=.cell->scope.names.lookup y.1=À .cell) (n:X.calm=true) (Z:i3 X scope l)
  (hg:∀cl C d L F,PG (ag X l scope cl C d L F) tg g) (ht:∀cl C d L F,JN (ag X l scope cl C d L F) ifs tt) (he:∀cl C d L F,PE (ag X l scope cl C d L F) elt te)
  {a:Â (Addr×Obj)}{j:St}{s:Ô}{d:Â Addr}{tn:Nat->Heap->Prop}{J:It}{Q:Addr->Hp->Prop}{RR:Value->Addr->Rn->Ô->Prop}{E:Value->Ô->Prop}
  (I:Inv X a j H s) (T:Turn X.prog X.w X.K tg J d it tn) (st:tn 0 s.heap) (U:∀b∈d,rF X a H b)
  (hw:MR l g tt te J j H Q)
  (VQ:∀D C (s':Ô) (H':Hp),Q D H'->(∃m,s'.heap.Ns C m)->Inv X a j H' s'->rF X a H' C->RR (.ref D) C (.ok .next) s') :
  Ø (Û X.prog X.w) X.A (Uk []) (λf s₃=>Ø (Û X.prog X.w) X.A (rr scope X.env.globals cl [] X.env.qual none .none (À X.env)) (λk s₄=>
   ef (Û X.prog X.w) X.A (.compStart (.ListComp elt [⟨tg,iter,ifs,0⟩] scope pos) 0 (.ref it) f {k with scope:=relabel scope X.env}) (RR f k.locals) s₄) E s₃) E s:=by
 refine fM ?_ (by show 0<=sizeLine;exact ĩ _);have I3:Inv X a j (upd H s.heap.objs.size (.lst [])) {s with heap:=s.heap.push {cls:=.type "list",data:=.seq ([]:Â Value).toArray}}:=
  I.OJ (its:=[]) (ys:=[]) (t':=s.toks) .nil (ĩ _)
 have hD:H s.heap.objs.size=none:=I.fresh;obtain⟨W,⟨m0,w0⟩,turn⟩:=hw _ hD;have fpD:∀b∈d,b≠s.heap.objs.size:=λb M z=>by
  obtain⟨o,ho,_⟩:=T.obj _ _ st b M;exact absurd (Ï ho) (by rw[z];exact Ŝ _)
 have Y:∀b∈d,rF X a (upd H s.heap.objs.size (.lst [])) b:=λb M=>⟨by rw[ä (fpD b M)];exact(U b M).1,(U b M).2⟩
 have Tz:tn 0 (s.heap.push {cls:=.type "list",data:=.seq ([]:Â Value).toArray}):=T.keep _ _ _ st λb _ o e=>Ä _ e;refine GG (α:=Â V) (B:=λi m ys j H5=>te j H5 λv H6=>H6 s.heap.objs.size=À (.lst ys)/\ys.length<sizeLine/\∃u,u<m/\W (i+1) u (ys++[v]) j (upd H6 s.heap.objs.size (.lst (ys++[v])))) (Q:=Q s.heap.objs.size) (p:=iter.pos) (body:=λf env=>ģ elt env >>= λx=>call (.builtin "list.append") [f,x] >>= λ_=>pure U8)
  (.inl ⟨_,_,_,_,rfl⟩) (λ_ _ _=>rfl) rfl rfl O P t r n Z hg ht (λcl C d L F a s' i m ys j H I h=>?_) I3 T Tz Y w0 turn λC s' H' q=>VQ _ C s' H' q
 refine au (Kb (N:=λv H'=>∃u,u<m/\W (i+1) u (ys++[v]) j H') (he cl C d L F) rfl I h) λ_ s11 ⟨v,H',I',u,hm,w'⟩=>⟨u,_,_,H',hm,I',w'⟩
def IT (l:Â (Str×É Nat)) (c:TI)(g:TG)(b:TT)(a:TE):TE:=λd H Q=>QG l c g b a d H λD A=>Q (.ref D) A
section
variable {X:Cx}{elt tg iter:Expr}{ifs:Â Expr}{scope:Scope}{pos:jA}{wi:TI}{g:TG}{tt:TT}{te:TE}
structure eQ (X:Cx)(scope:Scope)(l:Â (Str×É Nat)):Prop where
 kind:scope.kind=.function
 cell:∀y∈scope.names,y.2=.cell->scope.names.lookup y.1=À .cell
 names:∀y∈scope.names,y.2=.local->scope.names.lookup y.1=À .local
 free:∀y∈scope.names,y.2=.free->X.env.kindOf y.1=À .cell∨X.env.kindOf y.1=À .free
 src:i3 X scope l
def LK (l:Â (Str×É Nat)) (a:eQ X scope l)(d:X.calm=true)(Z:PI X tg iter wi)
  (Y:∀cl C f j B,PG (ag X l scope cl C f j B) tg g) (ht:∀cl C f j B,JN (ag X l scope cl C f j B) ifs tt) (P:∀cl C f j B,PE (ag X l scope cl C f j B) elt te)
  (hs:∀x,eg iter X.env x=pure x:=by intro _;rfl) :
  PE X (.ListComp elt [⟨tg,iter,ifs,0⟩] scope pos) (IT l wi g tt te):=by
 intro c s t H Q I h;obtain⟨cl,r,u,y⟩:=m7 (scope:=scope) (env:=X.env) λx hx U=>I.ok.has x.1 (a.free x hx U);rw[eval_ListComp];refine Ga (use:=none) rfl hs r a.kind a.names (au (Z c s t H _ I h) λv s1 M=>au M λYv s2 N=>?_);obtain⟨it,f,tn,J,H2,e,L,T,p,z,hw⟩:=N;subst e;refine vJ (RR:=λk C=>compPost (Û X.prog X.w) X.A X.xe none (EP X c t Q) k C) r u y a.kind a.cell d a.src Y ht P L T p z hw ?_;intro D C s' E q ⟨m,hn⟩ F i;refine⟨m,hn,λh' n=>?_⟩;exact⟨.ref D,E,F.turned (t':=s'.toks) (λb o O e=>(n.2 b O).trans e) i.1 i.2.1 i.2.2.2.1 i.2.2.2.2.1 i.2.2.2.2.2,rfl,q⟩
def B6 (l:Â (Str×É Nat)) (c:eQ X scope l)(j:X.calm=true)(hN:X.N.Nodup)(hy:X.N[i]?=À y)(t:X.env.scope.names.lookup y=À .local)(hi:PI X tg iter wi)
  (hg:∀cl C k p B,PG (ag X l scope cl C k p B) tg g) (ht:∀cl C k p B,JN (ag X l scope cl C k p B) ifs tt) (he:∀cl C k p B,PE (ag X l scope cl C k p B) elt te)
  (O:fb (.ListComp elt [⟨tg,iter,ifs,0⟩] scope pos) (À (.Name y n)) r.line X.env=pure true)
  (hs:∀x,eg iter X.env x=pure x:=by intro _;rfl) :
  PS X (.Assign [.Name y n] (.ListComp elt [⟨tg,iter,ifs,0⟩] scope pos) r) (Mq (IT l wi g tt te) (C7 i)):=by
 intro d s σ H Y I h;obtain⟨cl,Z,e2,e3⟩:=m7 (scope:=scope) (env:=X.env) λx t hf=>I.ok.has x.1 (c.free x t hf);rw[exec_Assign_Name_used _ _ _ _ O];refine Ã (dS (Ã ?_));show Ø _ X.A (do let _ <-comprehension (.ListComp elt [⟨tg,iter,ifs,0⟩] scope pos) scope X.env _ (Uk []) false (ģ iter X.env) (À (kW (.Name y n) X.env))) _ _ s;refine Ã (au (Ga (use:=À (kW (.Name y n) X.env)) (Q:=λ_ s'=>SP X d Y .next s') rfl hs Z c.kind c.names
  (au (hi d s σ H _ I h) λv s1 h1=>au h1 λYv s2 h2=>?_)) λ_ s' hq=>È (È hq))
 obtain⟨it,k,tn,J,H2,e,I2,T,U,f2,hw⟩:=h2;subst e;refine vJ (RR:=λu C=>compPost (Û X.prog X.w) X.A X.xe (À (kW (.Name y n) X.env)) (λ_ s'=>SP X d Y .next s') u C) Z e2 e3 c.kind c.cell j c.src hg ht he I2 T U f2 hw ?_;intro D C s' H' q ⟨m,hn⟩ I' f;show Ø _ X.A (kW (.Name y n) X.env (.ref D)) _ _ _;refine Ur (wu (v:=.ref D) I' hN hy (.inl t) rfl (λP E hk=>?_) (.inr t));obtain⟨a,M,ha⟩:=hk;have F:C≠a:=by
  rintro rfl;rcases ha with z|z
  ·exact f.2.1 z
  ·exact f.2.2.2.2.1 y _ z rfl
 refine⟨m,hn.sameBut M F,λh' L=>?_⟩;exact⟨_,H',E.turned (t':=P.toks) (λb o hb e=>(L.2 b hb).trans e) f.1 f.2.1 f.2.2.2.1 f.2.2.2.2.1 f.2.2.2.2.2,q⟩
end
def eZ (n:Nat)(i:Int):Prop:=i.natAbs<2^n
def eZ.mono (h:eZ n i)(k:n<=m):eZ m i:=æ h (Nat.pow_le_pow_right (by decide) k)
def eZ.mul (h:eZ n i)(k:eZ m j):eZ (n+m) (i*j):=by
 unfold eZ at *
 rw[jz,Nat.pow_add];exact Nat.mul_lt_mul'' h k
def eZ.add (h:eZ n i)(k:eZ n j):eZ (n+1) (i+j):=by
 unfold eZ at *
 have:=Int.natAbs_add_le i j;rw[Nat.pow_succ];lia
def eZ.le (h:eZ n i)(k:j.natAbs<=i.natAbs):eZ n j:=bz k h
def eZ.bits (h:eZ n i):bK i<=n:=by
 unfold bK;split
 ·exact ĩ _
 ·rename_i b;have a:i.natAbs≠0:=by
   intro z;apply b;have:i=0:=by lia
   simp[this]
  have:=(Xz a).mpr h;lia
def eZ.log (h:eZ n i)(b:0<n):i.natAbs.log2<n:=by
 by_cases a:i.natAbs=0
 ·rw[a];show Nat.log2 0<n;have:Nat.log2 0=0:=by decide
  rw[this];exact b
 ·exact(Xz a).mpr h
def eZ.SV (h:eZ 60000000 i)(k:eZ 60000000 j):IntMulOk i j:=by
 have a:=h.bits;have b:=k.bits;unfold IntMulOk;have e:vz (((bK i+bK j:Nat)):Int)=false:=by
  unfold vz;refine é ?_;show ¬((((bK i+bK j:Nat)):Int) > (((2^27:Nat)):Int));have:(2^27:Nat)=134217728:=by decide
  lia
 simp[e];try (intro _ _;exact_mod_cast e)
def vR (a:-(2^n)<i) (b:i<2^n):eZ n i:=by
 unfold eZ;have e:((2^n:Nat):Int)=(2:Int)^n:=by
  rw[Int.natCast_pow];rfl
 have:(i.natAbs:Int)<((2^n:Nat):Int):=by rw[e];lia
 exact_mod_cast this
section
variable {X:Cx}
def LG:ju X (aY .Mult) (rI (λi j=>eZ 60000000 i/\eZ 60000000 j) λi j=>.int (i*j)):=UN λ_ _ _ _ _ _ _ a q=>mul_int q (a.1.SV a.2)
def HX:ju X (aY .FloorDiv) (rI (λ_ j=>j≠0/\eZ 9000 j) λi j=>.int (i.fdiv j)):=UN λ_ _ _ _ _ _ _ a q=>floordiv_int a.1 q (.inl (wF (a.2.log (by decide))))
def xg:cQ X (.builtin "divmod") (λxs H Q=>∃i j,xs=[.int i,.int j]/\(0<j/\eZ 9000 j)/\∀p,H p=none->Q (.ref p) (upd H p (.tup [.int (i / j),.int (i % j)]))):=by
 intro a s l H xs us Q I r h;obtain⟨i,j,rfl,⟨f,c⟩,q⟩:=h;obtain⟨u,k,rfl,⟨t,rfl⟩,⟨g,rfl⟩⟩:=vals2 r;refine divmod_int (by lia) ?_ (.inl (wF (c.log (by decide))));rw[Int.fdiv_eq_ediv_of_nonneg i (by lia),jx i (by lia)];have d:H s.heap.objs.size=none:=I.Ů.fresh (Í _);refine⟨.ref s.heap.objs.size,_,?_,rfl,q _ d⟩;refine I.laid (λb o e=>Ä _ e) (Í _) ⟨by simp only[Ķ,mL];rw[ā];decide,[.int (i / j) s.toks,.int (i % j) (s.toks+1)],.cons ⟨_,rfl⟩ (.cons ⟨_,rfl⟩ .nil),?_⟩;exact⟨_,Ò s.heap rfl,rfl,0,rfl⟩
theorem zl:∀{bs:Â Bool}{us:Â Value},Vals (bs.map V.bl) us->∀(i:Nat)(v:Value),us[i]?=À v->∃b:Bool,bs[i]?=À b/\v=e8 b
 |[],us,r,i,v,e=>by
  cases r;simp at e
 |b::bs,us,r,i,v,e=>by
  cases r with
  |cons f g=>
   cases i with
   |zero=>
    simp at e;subst e;exact⟨b,rfl,f⟩
   |succ i=>
    obtain⟨a,c,d⟩:=zl g i v (by simpa using e);exact⟨a,by simpa using c,d⟩
def B9 (bs:Â Bool):((Ă bs.length).all λi=>(bs[i]?).getD true)=bs.all id:=by
 rw[iR,Đ,Đ];constructor
 ·intro h b d;obtain⟨i,c,e⟩:=af d;have:=h i (oh.mpr c);simp only[Å c,se,e]at this;exact this
 ·intro h i c;have a:=oh.mp c;simp only[Å a,se];exact h _ (hX a)
def Eu (l:X.calm=true):cQ X (.builtin "all") (λxs H Q=>∃(a:Addr) (bs:Â Bool),xs=[.ref a]/\gM X.K H a (bs.map V.bl)/\Q (.bl (bs.all id)) H):=by
 intro g s z H xs us Q I r h;obtain⟨a,bs,rfl,k,q⟩:=h;obtain⟨u,rfl,o⟩:=vals1 r;cases o;obtain⟨c,rv,p,y⟩:=I.list k;have hl:=p.isList;have d:a<s.heap.objs.size:=by obtain⟨_,e,_⟩:=hl;exact Ï e
 refine call_all_walk (wQ hl ?_);refine⟨s.heap.objs.size,[s.heap.objs.size,a],[s.heap.objs.size],c.toArray.size,_,_,λi=>(bs[i]?).getD true,rfl,Walks.list (A:=X.A.in1) (I.ok.hd l) _ a (ï d) c.toArray,
  ⟨⟨_,Ò _ rfl,rfl,rfl⟩,hl.push _⟩,λi v s' C B j f=>?_,λw t m=>?_⟩
 ·obtain⟨b,e,rfl⟩:=zl rv i v (by simpa using j);simp only[e,se]at f;exact cf f
 ·have e:((Ă c.toArray.size).all λi=>(bs[i]?).getD true)=bs.all id:=by
   rw[Ú,<-rv.length,Ê];exact B9 bs
  rw[e];refine⟨.bl _,H,I.kept (t':=t) λb x e=>m b x (λn=>?_) (Ä _ e),rfl,q⟩;rw[Ġ.mp n]at e;exact Ŝ _ (Ï e)
end
inductive Dt where
 |Ě|bl (b:Bool)|int (i:Int)|str (x:Str)|tup (l:Â Dt)|lst (l:Â Dt)
mutual
def Dt.dep:Dt->Nat
 |.tup l=>bZ l+1
 |.lst l=>bZ l+1
 |_=>0
def bZ:Â Dt->Nat
 |[]=>0
 |d::r=>max d.dep (bZ r)
end
mutual
def cS:Dt->Dt->Bool
 |.Ě,.Ě=>true
 |.bl a,.bl b=>a == b
 |.bl a,.int b=>(if a then 1 else 0) == b
 |.int a,.bl b=>a == (if b then 1 else 0)
 |.int a,.int b=>a == b
 |.str a,.str b=>a == b
 |.tup a,.tup b=>gW a b
 |.lst a,.lst b=>gW a b
 |_,_=>false
def gW:Â Dt->Â Dt->Bool
 |[],[]=>true
 |a::r,b::q=>cS a b&&gW r q
 |_,_=>false
end
mutual
def Rep (K:Ç)(N:Addr->Prop)(H:Hp):Dt->V->Prop
 |.Ě,v=>v=.Ě
 |.bl b,v=>v=.bl b
 |.int i,v=>v=.int i
 |.str x,v=>v=.str x
 |.tup l,v=>∃a xs,v=.ref a/\¬N a/\gp K H a xs/\cV K N H l xs
 |.lst l,v=>∃a xs,v=.ref a/\¬N a/\gM K H a xs/\cV K N H l xs
def cV (K:Ç)(N:Addr->Prop)(H:Hp):Â Dt->Â V->Prop
 |[],xs=>xs=[]
 |d::r,xs=>∃x a,xs=x::a/\Rep K N H d x/\cV K N H r a
end
def vD (N:Addr->Prop)(H H':Hp):Prop:=∀b o,H b=À o->¬N b->H' b=À o
def vD.Qz {K:Ç}{N:Addr->Prop}(s:vD N H H')(n:¬N a)(h:gp K H a xs):gp K H' a xs:=by
 rcases h with(h|⟨o,h⟩)|h
 ·exact .inl (.inl (s _ _ h n))
 ·exact .inl (.inr ⟨o,s _ _ h n⟩)
 ·exact .inr h
def vD.FK {K:Ç}{N:Addr->Prop}(s:vD N H H')(n:¬N a)(h:gM K H a xs):gM K H' a xs:=by
 rcases h with(h|⟨o,h⟩)|h
 ·exact .inl (.inl (s _ _ h n))
 ·exact .inl (.inr ⟨o,s _ _ h n⟩)
 ·exact .inr h
mutual
theorem Rep.same {K:Ç}{N:Addr->Prop}(s:vD N H H'):∀{d:Dt}{v:V},Rep K N H d v->Rep K N H' d v
 |.Ě,_,h=>h
 |.bl _,_,h=>h
 |.int _,_,h=>h
 |.str _,_,h=>h
 |.tup l,v,h=>by
  unfold Rep at h⊢;obtain⟨a,xs,e,n,q,r⟩:=h;exact⟨a,xs,e,n,s.Qz n q,cV.same s r⟩
 |.lst l,v,h=>by
  unfold Rep at h⊢;obtain⟨a,xs,e,n,q,r⟩:=h;exact⟨a,xs,e,n,s.FK n q,cV.same s r⟩
theorem cV.same {K:Ç}{N:Addr->Prop}(s:vD N H H'):∀{l:Â Dt}{xs:Â V},cV K N H l xs->cV K N H' l xs
 |[],_,h=>h
 |d::r,xs,h=>by
  unfold cV at h⊢;obtain⟨x,c,e,a,b⟩:=h;exact⟨x,c,e,Rep.same s a,cV.same s b⟩
end
theorem cV.length {K:Ç}{N:Addr->Prop}:∀{l:Â Dt}{xs:Â V},cV K N H l xs->l.length=xs.length
 |[],xs,h=>by unfold cV at h;rw[h];rfl
 |d::r,xs,h=>by
  unfold cV at h;obtain⟨x,b,rfl,_,a⟩:=h;rw[Ķ,Ķ,cV.length a]
theorem cV.get {K:Ç}{N:Addr->Prop}:∀{l:Â Dt}{xs:Â V}{i:Nat}{d:Dt},cV K N H l xs->l[i]?=À d->∃x,xs[i]?=À x/\Rep K N H d x
 |[],xs,i,d,h,e=>by simp at e
 |d0::r,xs,0,d,h,e=>by
  unfold cV at h;obtain⟨x,g,rfl,c,_⟩:=h;simp at e;subst e;exact⟨x,rfl,c⟩
 |d0::r,xs,i+1,d,h,e=>by
  unfold cV at h;obtain⟨x,g,rfl,_,f⟩:=h;obtain⟨y,a,b⟩:=cV.get (i:=i) f (by simpa using e);exact⟨y,by simpa using a,b⟩
theorem lP:∀{l q:Â Dt},l.length≠q.length->gW l q=false
 |[],[],h=>absurd rfl h
 |[],_::_,_=>by simp[gW]
 |_::_,[],_=>by simp[gW]
 |a::r,b::q,h=>by
  simp only[gW];rw[lP (l:=r) (q:=q) (by simpa using h),n_]
theorem iF:∀{l q:Â Dt},l.length=q.length->gW l q=(Ă l.length).all λi=>match l[i]?,q[i]? with|some a,À b=>cS a b|_,_=>true
 |[],[],_=>by simp[gW]
 |a::r,b::q,h=>by
  simp only[gW];rw[iF (l:=r) (q:=q) (by simpa using h),Ķ,List.range_succ_eq_map,Ĩ,List.all_map];simp[Function.comp_def]
theorem zx:∀{l:Â Dt}{i:Nat}{d:Dt},l[i]?=À d->d.dep<=bZ l
 |[],i,d,e=>by simp at e
 |a::r,0,d,e=>by simp at e;subst e;simp only[bZ];exact Nat.le_max_left _ _
 |a::r,i+1,d,e=>by
  have:=zx (l:=r) (i:=i) (d:=d) (by simpa using e);simp only[bZ];exact ł this (Nat.le_max_right _ _)
section
variable {X:Cx}{ø:Â (Addr×Obj)}{σ:St}{H:Hp}{s:Ô}{N N':Addr->Prop}
def Ae (I:Inv X ø σ H s)(h:gM X.K H a xs)(k:gp X.K H a ys):False:=by
 obtain⟨g,_,p,_⟩:=I.list h;obtain⟨f,_,q,_⟩:=I.tuple k;obtain⟨o,e,c,_⟩:=p.isList;obtain⟨i,d,b,_⟩:=q;rw[e]at d;cases d;rw[c]at b;injection b with z
 exact absurd z (by decide)
mutual
theorem Rep.inj (I:Inv X ø σ H s):∀{d e:Dt}{v:V},Rep X.K N H d v->Rep X.K N' H e v->d=e
 |.Ě,.Ě,_,_,_=>rfl
 |.Ě,.bl _,_,h,k=>by unfold Rep at h k;rw[h]at k;cases k
 |.Ě,.int _,_,h,k=>by unfold Rep at h k;rw[h]at k;cases k
 |.Ě,.str _,_,h,k=>by unfold Rep at h k;rw[h]at k;cases k
 |.Ě,.tup _,_,h,k=>by unfold Rep at h k;obtain⟨_,_,e,_⟩:=k;rw[h]at e;cases e
 |.Ě,.lst _,_,h,k=>by unfold Rep at h k;obtain⟨_,_,e,_⟩:=k;rw[h]at e;cases e
 |.bl _,.Ě,_,h,k=>by unfold Rep at h k;rw[h]at k;cases k
 |.bl x,.bl y,_,h,k=>by unfold Rep at h k;rw[h]at k;cases k;rfl
 |.bl _,.int _,_,h,k=>by unfold Rep at h k;rw[h]at k;cases k
 |.bl _,.str _,_,h,k=>by unfold Rep at h k;rw[h]at k;cases k
 |.bl _,.tup _,_,h,k=>by unfold Rep at h k;obtain⟨_,_,e,_⟩:=k;rw[h]at e;cases e
 |.bl _,.lst _,_,h,k=>by unfold Rep at h k;obtain⟨_,_,e,_⟩:=k;rw[h]at e;cases e
 |.int _,.Ě,_,h,k=>by unfold Rep at h k;rw[h]at k;cases k
 |.int _,.bl _,_,h,k=>by unfold Rep at h k;rw[h]at k;cases k
 |.int x,.int y,_,h,k=>by unfold Rep at h k;rw[h]at k;cases k;rfl
 |.int _,.str _,_,h,k=>by unfold Rep at h k;rw[h]at k;cases k
 |.int _,.tup _,_,h,k=>by unfold Rep at h k;obtain⟨_,_,e,_⟩:=k;rw[h]at e;cases e
 |.int _,.lst _,_,h,k=>by unfold Rep at h k;obtain⟨_,_,e,_⟩:=k;rw[h]at e;cases e
 |.str _,.Ě,_,h,k=>by unfold Rep at h k;rw[h]at k;cases k
 |.str _,.bl _,_,h,k=>by unfold Rep at h k;rw[h]at k;cases k
 |.str _,.int _,_,h,k=>by unfold Rep at h k;rw[h]at k;cases k
 |.str x,.str y,_,h,k=>by unfold Rep at h k;rw[h]at k;cases k;rfl
 |.str _,.tup _,_,h,k=>by unfold Rep at h k;obtain⟨_,_,e,_⟩:=k;rw[h]at e;cases e
 |.str _,.lst _,_,h,k=>by unfold Rep at h k;obtain⟨_,_,e,_⟩:=k;rw[h]at e;cases e
 |.tup _,.Ě,_,h,k=>by unfold Rep at h k;obtain⟨_,_,e,_⟩:=h;rw[k]at e;cases e
 |.tup _,.bl _,_,h,k=>by unfold Rep at h k;obtain⟨_,_,e,_⟩:=h;rw[k]at e;cases e
 |.tup _,.int _,_,h,k=>by unfold Rep at h k;obtain⟨_,_,e,_⟩:=h;rw[k]at e;cases e
 |.tup _,.str _,_,h,k=>by unfold Rep at h k;obtain⟨_,_,e,_⟩:=h;rw[k]at e;cases e
 |.tup l,.tup q,_,h,k=>by
  unfold Rep at h k;obtain⟨a,xs,rfl,_,c,g⟩:=h;obtain⟨b,j,e,_,f,i⟩:=k;cases e;have:=I.qH c f;subst this;rw[cV.inj I g i]
 |.tup _,.lst _,_,h,k=>by unfold Rep at h k;obtain⟨_,_,rfl,_,c,_⟩:=h;obtain⟨_,_,e,_,f,_⟩:=k;cases e;exact(Ae I f c).elim
 |.lst _,.Ě,_,h,k=>by unfold Rep at h k;obtain⟨_,_,e,_⟩:=h;rw[k]at e;cases e
 |.lst _,.bl _,_,h,k=>by unfold Rep at h k;obtain⟨_,_,e,_⟩:=h;rw[k]at e;cases e
 |.lst _,.int _,_,h,k=>by unfold Rep at h k;obtain⟨_,_,e,_⟩:=h;rw[k]at e;cases e
 |.lst _,.str _,_,h,k=>by unfold Rep at h k;obtain⟨_,_,e,_⟩:=h;rw[k]at e;cases e
 |.lst _,.tup _,_,h,k=>by unfold Rep at h k;obtain⟨_,_,rfl,_,c,_⟩:=h;obtain⟨_,_,e,_,f,_⟩:=k;cases e;exact(Ae I c f).elim
 |.lst l,.lst q,_,h,k=>by
  unfold Rep at h k;obtain⟨a,xs,rfl,_,c,g⟩:=h;obtain⟨b,j,e,_,f,i⟩:=k;cases e;have:=I.uc c f;subst this;rw[cV.inj I g i]
theorem cV.inj (I:Inv X ø σ H s):∀{l q:Â Dt}{xs:Â V},cV X.K N H l xs->cV X.K N' H q xs->l=q
 |[],[],_,_,_=>rfl
 |[],_::_,_,h,k=>by unfold cV at h k;obtain⟨_,_,e,_⟩:=k;rw[h]at e;cases e
 |_::_,[],_,h,k=>by unfold cV at h k;obtain⟨_,_,e,_⟩:=h;rw[k]at e;cases e
 |a::r,b::q,xs,h,k=>by
  unfold cV at h k;obtain⟨x,i,rfl,c,d⟩:=h;obtain⟨y,j,e,f,g⟩:=k;cases e;rw[Rep.inj I c f,cV.inj I d g]
end
mutual
theorem tw:∀d:Dt,cS d d=true
 |.Ě=>by simp[cS]
 |.bl _=>by simp[cS]
 |.int _=>by simp[cS]
 |.str _=>by simp[cS]
 |.tup l=>by simp only[cS];exact qa l
 |.lst l=>by simp only[cS];exact qa l
theorem qa:∀l:Â Dt,gW l l=true
 |[]=>by simp[gW]
 |d::r=>by simp only[gW,tw d,qa r,Bool.and_self]
end
def jM (E:∀(d e:Dt){v w:V}{u z:Value},d.dep<=k->Rep X.K N H d v->Rep X.K N' H e w->RelV v u->RelV w z->pW A s u z (cS d e))
  {l q:Â Dt}{its c:Â Value}(hd:bZ l<=k) (h:cV X.K N H l xs) (h':cV X.K N' H q ys) (r:Vals xs its) (n:Vals ys c) :
  ∀j (g:j<its.toArray.size) (i:j<c.toArray.size),pW A s its.toArray[j] c.toArray[j] (match l[j]?,q[j]? with|some a,À b=>cS a b|_,_=>true):=by
 intro j g i;have F:l.length=its.length:=h.length.trans r.length;have I:q.length=c.length:=h'.length.trans n.length;have f:j<l.length:=by rw[F];simpa using g
 have m:j<q.length:=by rw[I];simpa using i
 obtain⟨x,B,L⟩:=h.get (Å f);obtain⟨y,C,M⟩:=h'.get (Å m);obtain⟨u,t,J⟩:=r.get B;obtain⟨z,D,O⟩:=n.get C;rw[Å f,Å m];have o:its.toArray[j]=u:=by
  have:=Æ.mp t;obtain⟨_,e⟩:=this;simpa using e
 have p:c.toArray[j]=z:=by
  have:=Æ.mp D;obtain⟨_,e⟩:=this;simpa using e
 rw[o,p];exact E _ _ (ł (zx (Å f)) hd) L M J O
def nO {l q:Â Dt}{its c:Â Value}(h:cV X.K N H l xs)(h':cV X.K N' H q ys)(r:Vals xs its)(g:Vals ys c) :
  ((Ă (min its.toArray.size c.toArray.size)).all (λj=>match l[j]?,q[j]? with|some a,À b=>cS a b|_,_=>true)&&its.toArray.size == c.toArray.size)=gW l q:=by
 have e:l.length=its.toArray.size:=by simpa using h.length.trans r.length
 have f:q.length=c.toArray.size:=by simpa using h'.length.trans g.length
 rw[<-e,<-f];by_cases d:l.length=q.length
 ·rw[iF d,d,Nat.min_self];simp
 ·rw[lP d];have:(l.length == q.length)=false:=by simpa using d
  rw[this,n_]
set_option hygiene false in
local macro_rules|`(tactic|walk_at"p")=>`(tactic|(unfold Rep at c;subst c;have:=ŝ (A:=A) (s:=s) r f rfl rfl;simpa[cS,ik]using this))
set_option hygiene false in
local macro_rules|`(tactic|walk_at"r")=>`(tactic|(unfold Rep at c;obtain⟨a,xs,rfl,_,i,_⟩:=c;cases f))
def xu (I:Inv X ø σ H s):∀k A,A.units+k<cLine->∀(d e:Dt) {v w:V}{u z:Value},d.dep<=k->Rep X.K N H d v->Rep X.K N' H e w->RelV v u->RelV w z->pW A s u z (cS d e):=by
 intro k;induction k with
 |zero=>
  intro A hA d e v w u z hd h c r f;have hu:A.units<cLine:=by lia
  cases d with
  |tup l=>exact absurd hd (by simp[Dt.dep])
  |lst l=>exact absurd hd (by simp[Dt.dep])
  |Ě=>
   unfold Rep at h;subst h;cases e with
   |Ě=>
    walk_at"p"
   |bl y=>
    walk_at"p"
   |int y=>
    walk_at"p"
   |str y=>
    walk_at"p"
   |tup y=>
    walk_at"r";obtain⟨g,_,p,_⟩:=I.tuple i;cases r;simp only[cS];exact wI p hu
   |lst y=>
    walk_at"r";obtain⟨g,_,p,_⟩:=I.list i;cases r;simp only[cS];exact yH p.isList hu
  |bl x=>
   unfold Rep at h;subst h;cases e with
   |Ě=>
    walk_at"p"
   |bl y=>
    walk_at"p"
   |int y=>
    walk_at"p"
   |str y=>
    walk_at"p"
   |tup y=>
    walk_at"r";obtain⟨g,_,p,_⟩:=I.tuple i;cases r;simp only[cS];exact wH x p hu
   |lst y=>
    walk_at"r";obtain⟨g,_,p,_⟩:=I.list i;cases r;simp only[cS];exact yF x p.isList hu
  |int x=>
   unfold Rep at h;subst h;cases e with
   |Ě=>
    walk_at"p"
   |bl y=>
    walk_at"p"
   |int y=>
    walk_at"p"
   |str y=>
    walk_at"p"
   |tup y=>
    walk_at"r";obtain⟨g,_,p,_⟩:=I.tuple i;obtain⟨t,rfl⟩:=r;simp only[cS];exact yG x t p hu
   |lst y=>
    walk_at"r";obtain⟨g,_,p,_⟩:=I.list i;obtain⟨t,rfl⟩:=r;simp only[cS];exact yV x t p.isList hu
  |str x=>
   unfold Rep at h;subst h;cases e with
   |Ě=>
    walk_at"p"
   |bl y=>
    walk_at"p"
   |int y=>
    walk_at"p"
   |str y=>
    walk_at"p"
   |tup y=>
    walk_at"r";obtain⟨g,_,p,_⟩:=I.tuple i;obtain⟨t,rfl⟩:=r;simp only[cS];exact yI x t p hu
   |lst y=>
    walk_at"r";obtain⟨g,_,p,_⟩:=I.list i;obtain⟨t,rfl⟩:=r;simp only[cS];exact yW x t p.isList hu
 |succ k U=>
  intro A hA d e v w u z hd h c r f;have hu:A.units<cLine:=by lia
  have F:A.in1.units+k<cLine:=by have:A.in1.units=A.units+1:=rfl;lia
  cases d with
  |Ě=>
   unfold Rep at h;subst h;cases e with
   |Ě=>
    walk_at"p"
   |bl y=>
    walk_at"p"
   |int y=>
    walk_at"p"
   |str y=>
    walk_at"p"
   |tup y=>
    walk_at"r";obtain⟨g,_,p,_⟩:=I.tuple i;cases r;simp only[cS];exact wI p hu
   |lst y=>
    walk_at"r";obtain⟨g,_,p,_⟩:=I.list i;cases r;simp only[cS];exact yH p.isList hu
  |bl x=>
   unfold Rep at h;subst h;cases e with
   |Ě=>
    walk_at"p"
   |bl y=>
    walk_at"p"
   |int y=>
    walk_at"p"
   |str y=>
    walk_at"p"
   |tup y=>
    walk_at"r";obtain⟨g,_,p,_⟩:=I.tuple i;cases r;simp only[cS];exact wH x p hu
   |lst y=>
    walk_at"r";obtain⟨g,_,p,_⟩:=I.list i;cases r;simp only[cS];exact yF x p.isList hu
  |int x=>
   unfold Rep at h;subst h;cases e with
   |Ě=>
    walk_at"p"
   |bl y=>
    walk_at"p"
   |int y=>
    walk_at"p"
   |str y=>
    walk_at"p"
   |tup y=>
    walk_at"r";obtain⟨g,_,p,_⟩:=I.tuple i;obtain⟨t,rfl⟩:=r;simp only[cS];exact yG x t p hu
   |lst y=>
    walk_at"r";obtain⟨g,_,p,_⟩:=I.list i;obtain⟨t,rfl⟩:=r;simp only[cS];exact yV x t p.isList hu
  |str x=>
   unfold Rep at h;subst h;cases e with
   |Ě=>
    walk_at"p"
   |bl y=>
    walk_at"p"
   |int y=>
    walk_at"p"
   |str y=>
    walk_at"p"
   |tup y=>
    walk_at"r";obtain⟨g,_,p,_⟩:=I.tuple i;obtain⟨t,rfl⟩:=r;simp only[cS];exact yI x t p hu
   |lst y=>
    walk_at"r";obtain⟨g,_,p,_⟩:=I.list i;obtain⟨t,rfl⟩:=r;simp only[cS];exact yW x t p.isList hu
  |tup l=>
   have O:=h;unfold Rep at h;obtain⟨a,xs,rfl,na,i,J⟩:=h;cases r;obtain⟨g,L,p1,_⟩:=I.tuple i;have B:bZ l<=k:=by simp only[Dt.dep]at hd;lia
   cases e with
   |Ě=>
    unfold Rep at c;subst c;cases f;simp only[cS];exact SeqAt.EqAt.tuple_none p1 hu
   |bl y=>
    unfold Rep at c;subst c;cases f;simp only[cS];exact SeqAt.EqAt.tuple_bool y p1 hu
   |int y=>
    unfold Rep at c;subst c;obtain⟨t,rfl⟩:=f;simp only[cS];exact SeqAt.EqAt.tuple_int y t p1 hu
   |str y=>
    unfold Rep at c;subst c;obtain⟨t,rfl⟩:=f;simp only[cS];exact SeqAt.EqAt.tuple_str y t p1 hu
   |tup q=>
    have m:=c;unfold Rep at c;obtain⟨b,T,rfl,Q,C,D⟩:=c;cases f;obtain⟨j,E,o,_⟩:=I.tuple C;by_cases n:a=b
    ·subst n;have:=Rep.inj I O m;rw[<-this,tw];exact qP _
    ·refine AR n ?_;simp only[cS];have:=A9 (A:=A) (s:=s) p1 o hu (jM (A:=A.in1) (λd e=>U A.in1 F d e) B J D L E);rw[nO J D L E]at this;exact this
   |lst q=>
    have m:=c;unfold Rep at c;obtain⟨b,T,rfl,Q,C,D⟩:=c;cases f;obtain⟨j,E,o,_⟩:=I.list C;simp only[cS];exact SeqAt.EqAt.tuple_list p1 o.isList hu
  |lst l=>
   have O:=h;unfold Rep at h;obtain⟨a,xs,rfl,na,i,J⟩:=h;cases r;obtain⟨g,L,p1,_⟩:=I.list i;have B:bZ l<=k:=by simp only[Dt.dep]at hd;lia
   cases e with
   |Ě=>
    unfold Rep at c;subst c;cases f;simp only[cS];exact SeqAt.EqAt.list_none p1.isList hu
   |bl y=>
    unfold Rep at c;subst c;cases f;simp only[cS];exact SeqAt.EqAt.list_bool y p1.isList hu
   |int y=>
    unfold Rep at c;subst c;obtain⟨t,rfl⟩:=f;simp only[cS];exact SeqAt.EqAt.list_int y t p1.isList hu
   |str y=>
    unfold Rep at c;subst c;obtain⟨t,rfl⟩:=f;simp only[cS];exact SeqAt.EqAt.list_str y t p1.isList hu
   |tup q=>
    have m:=c;unfold Rep at c;obtain⟨b,T,rfl,Q,C,D⟩:=c;cases f;obtain⟨j,E,o,_⟩:=I.tuple C;simp only[cS];exact SeqAt.EqAt.list_tuple p1.isList o hu
   |lst q=>
    have m:=c;unfold Rep at c;obtain⟨b,T,rfl,Q,C,D⟩:=c;cases f;obtain⟨j,E,o,_⟩:=I.list C;by_cases n:a=b
    ·subst n;have:=Rep.inj I O m;rw[<-this,tw];exact qP _
    ·refine AR n ?_;simp only[cS];have P:l.length=g.toArray.size:=by simpa using J.length.trans L.length
     have Y:q.length=j.toArray.size:=by simpa using D.length.trans E.length
     by_cases M:l.length=q.length
     ·have:=CI (A:=A) (s:=s) p1.isList o.isList (by rw[<-P,<-Y];exact M) hu (jM (A:=A.in1) (λd e=>U A.in1 F d e) B J D L E);rw[<-P,<-iF M]at this;exact this
     ·rw[lP M];refine uX p1.isList o.isList ?_ hu;rw[<-P,<-Y];simpa using M
def Ti (K:Ç)(a:Bool):R2:=λx y H Q=>∃(N N':Addr->Prop) (l q:Â Dt) (c:Bool),(Rep K N H (if c then .tup l else .lst l) x/\Rep K N' H (if c then .tup q else .lst q) y)/\bZ l<=20/\Q (.bl (if a then !gW l q else gW l q)) H
def PF (hu:X.A.units+30<cLine):ju X (ņ .Eq) (Ti X.K false):=by
 intro ø s σ H x y v u Q I F J h;obtain⟨N,N',l,q,c,⟨i,j⟩,hd,t⟩:=h;have g:X.A.units<cLine:=by lia
 have AY:X.A.in1.units+20<cLine:=by have:X.A.in1.units=X.A.units+1:=rfl;lia
 cases c with
 |true=>
  simp only[f9]at i j;unfold Rep at i j;obtain⟨a,xs,rfl,_,D,n⟩:=i;obtain⟨b,L,rfl,_,B,m⟩:=j;cases F;cases J;obtain⟨k,o,p1,_⟩:=I.tuple D;obtain⟨f,p,z,_⟩:=I.tuple B;have:=A9 (A:=X.A) (s:=s) p1 z g (jM (A:=X.A.in1) (λd e=>xu I 20 X.A.in1 AY d e) hd n m o p);rw[nO n m o p]at this;exact this X.prog X.w _ _ ⟨.bl _,H,I,rfl,t⟩
 |false=>
  simp only[aG,ia]at i j;unfold Rep at i j;obtain⟨a,xs,rfl,_,D,n⟩:=i;obtain⟨b,L,rfl,_,B,m⟩:=j;cases F;cases J;obtain⟨k,o,p1,_⟩:=I.list D;obtain⟨f,p,z,_⟩:=I.list B;have C:l.length=k.toArray.size:=by simpa using n.length.trans o.length
  have E:q.length=f.toArray.size:=by simpa using m.length.trans p.length
  by_cases r:l.length=q.length
  ·have:=CI (A:=X.A) (s:=s) p1.isList z.isList (by rw[<-C,<-E];exact r) g (jM (A:=X.A.in1) (λd e=>xu I 20 X.A.in1 AY d e) hd n m o p);rw[<-C,<-iF r]at this;exact this X.prog X.w _ _ ⟨.bl _,H,I,rfl,t⟩
  ·simp only[lP r]at t;exact uX p1.isList z.isList (by rw[<-C,<-E];simpa using r) g X.prog X.w _ _ ⟨.bl _,H,I,rfl,t⟩
def PK (hu:X.A.units+30<cLine):ju X (ņ .NotEq) (Ti X.K true):=by
 intro ø s σ H x y v u Q I F J h;obtain⟨N,N',l,q,c,⟨i,j⟩,hd,t⟩:=h;have g:X.A.units<cLine:=by lia
 have AY:X.A.in1.units+20<cLine:=by have:X.A.in1.units=X.A.units+1:=rfl;lia
 cases c with
 |true=>
  simp only[f9]at i j;unfold Rep at i j;obtain⟨a,xs,rfl,_,D,n⟩:=i;obtain⟨b,L,rfl,_,B,m⟩:=j;cases F;cases J;obtain⟨k,o,p1,_⟩:=I.tuple D;obtain⟨f,p,z,_⟩:=I.tuple B;have:=X8 (A:=X.A) (s:=s) p1 z g (jM (A:=X.A.in1) (λd e=>xu I 20 X.A.in1 AY d e) hd n m o p);rw[nO n m o p]at this;exact this X.prog X.w _ _ ⟨.bl _,H,I,rfl,t⟩
 |false=>
  simp only[aG,ia]at i j;unfold Rep at i j;obtain⟨a,xs,rfl,_,D,n⟩:=i;obtain⟨b,L,rfl,_,B,m⟩:=j;cases F;cases J;obtain⟨k,o,p1,_⟩:=I.list D;obtain⟨f,p,z,_⟩:=I.list B;have C:l.length=k.toArray.size:=by simpa using n.length.trans o.length
  have E:q.length=f.toArray.size:=by simpa using m.length.trans p.length
  by_cases r:l.length=q.length
  ·have:=X6 (A:=X.A) (s:=s) p1.isList z.isList (by rw[<-C,<-E];exact r) g (jM (A:=X.A.in1) (λd e=>xu I 20 X.A.in1 AY d e) hd n m o p);rw[<-C,<-iF r]at this;exact this X.prog X.w _ _ ⟨.bl _,H,I,rfl,t⟩
  ·simp only[lP r]at t;exact X7 p1.isList z.isList (by rw[<-C,<-E];simpa using r) g X.prog X.w _ _ ⟨.bl _,H,I,rfl,t⟩
end
structure Wk (J:It)(xs:Â V)(ok:Hp->Prop):Prop where
 go:∀i H,ok H->i<xs.length->J.go i H
 stop:∀i H,ok H->i=xs.length->J.stop i H
 Jt:∀i H x H',ok H->J.Jt i H x H'->H'=H/\xs[i]?=À x
theorem i3.any:∀{l:Â (Str×É Nat)},i3 X scope l->∀{x:Str},(l.any λp=>p.1 == x&&p.2.isSome)=true->X.env.kindOf x=À .cell∨X.env.kindOf x=À .free
 |[],_,x,e=>by simp at e
 |(y,none)::r,h,x,e=>i3.any (l:=r) h (by simpa using e)
 |(y,À k)::r,h,x,e=>by
  rw[a',iS]at e;rcases e with e|e
  ·have:y=x:=by simpa using e
   subst this;exact h.1.2.2
  ·exact i3.any (l:=r) h.2 e
def eQ.of (hk:scope.kind=.function)(b:∀y∈scope.names,y.2=.cell->scope.names.lookup y.1=À .cell)(d:∀y∈scope.names,y.2=.local->scope.names.lookup y.1=À .local)
  (c:∀y∈scope.names,y.2=.free->(l.any λp=>p.1 == y.1&&p.2.isSome)=true) (hs:i3 X scope l):eQ X scope l:=⟨hk,b,d,λy e a=>hs.any (c y e a),hs⟩
def R4 (h:eZ 64 i):eZ 9000 i:=h.mono (by decide)
def CJ (c:Bool)(h:Heap)(i l:Addr)(k:Nat):Prop:=if c=true then h.IsTupleIter i l k else h.IsListIter i l k
def rG (c:Bool)(h:Heap)(l:Addr)(xs:Č Value):Prop:=if c=true then h.IsTuple l xs else h.IsList l xs
def CJ.at (x:CJ c h i l k)(e:∀o,h.get? i=À o->h'.get? i=À o):CJ c h' i l k:=by
 cases c with
 |true=>obtain⟨o,a,r⟩:=(show h.IsTupleIter i l k from x);exact(show h'.IsTupleIter i l k from⟨o,e o a,r⟩)
 |false=>obtain⟨o,a,r⟩:=(show h.IsListIter i l k from x);exact(show h'.IsListIter i l k from⟨o,e o a,r⟩)
def rG.at (x:rG c h l xs)(e:∀o,h.get? l=À o->h'.get? l=À o):rG c h' l xs:=by
 cases c with
 |true=>obtain⟨o,a,r⟩:=(show h.IsTuple l xs from x);exact(show h'.IsTuple l xs from⟨o,e o a,r⟩)
 |false=>obtain⟨o,a,r⟩:=(show h.IsList l xs from x);exact(show h'.IsList l xs from⟨o,e o a,r⟩)
def CJ.obj (x:CJ c h i l k):∃o,h.get? i=À o/\∀v,o.data≠.cell v:=by
 cases c with
 |true=>obtain⟨o,a,_,d⟩:=(show h.IsTupleIter i l k from x);exact⟨o,a,λv z=>by rw[d]at z;cases z⟩
 |false=>obtain⟨o,a,_,d⟩:=(show h.IsListIter i l k from x);exact⟨o,a,λv z=>by rw[d]at z;cases z⟩
section
variable {prog:ą}{w:ħ}{A:Ŕ}{E:Value->Ô->Prop}{s:Ô}
def uj (e:CJ c s.heap i l k)(hl:rG c s.heap l xs)(f:xs[k]?=À v)
  (d:∀h',CJ c h' i l (k+1)->d_ i s.heap h'->Q v {s with heap:=h'}):Ø (Û prog w) A (Ľ (.ref i)) Q E s:=by
 cases c with
 |false=>exact wpAny_nextOf_list_item e hl f d
 |true=>
  have a:s.heap.IsTupleIter i l k:=e;obtain⟨m,g1,g2,b⟩:=id a;obtain⟨n,g,_,j,h⟩:=(show s.heap.IsTuple l xs from hl)
  unfold Ľ;refine Ã (Ĵ (name:=Ĕ "__next__") a.typeIs eF (ġ eF a.typeIs AJ ?_ (yN _)));show Ø _ _ (JH (.ref i) 0 >>= _) _ _ s;refine Ã (ľ g1 b (x:=.ref l) rfl ?_);show Ø _ _ (if (Ð l == í)=true then _ else _) _ _ s;rw[Ö (show ¬((Ð l == í)=true)from Ý)];show Ø _ _ (JH (.ref i) 1 >>= _) _ _ s;refine Ã (ľ g1 b (x:=.int k 0) rfl ?_);show Ø _ _ (seqItems? (.ref l) >>= _) _ _ s;refine Ã (cU g h ?_);simp only[bS,f];refine Ã (ic g1 b (by simp) (È ⟨v,rfl,È (d _ (show Heap.IsTupleIter _ i l (k+1)from ?_) (ŵ ..))⟩));refine⟨_,ù _ g1 (df (JZ b _)),(Obj.cls_mapFields ..).trans g2,?_⟩;rw[JZ b];simp[Ŷ]
def Du (f:A.handled=none)(h:CJ c s.heap i l k)(hl:rG c s.heap l xs)(j:xs[k]?=none)
  (g:∀h' e,Heap.ExtBut i s.heap h'->(∃o,h'.get? e=À o/\o.cls=.type "StopIteration")->E (.ref e) {s with heap:=h'}):Ø (Û prog w) A (Ľ (.ref i)) Q E s:=by
 cases c with
 |false=>exact wpAny_nextOf_list_end f h hl j g
 |true=>
  have b:s.heap.IsTupleIter i l k:=h;obtain⟨r,g1,g2,d⟩:=id b;obtain⟨t,n,_,q,p⟩:=(show s.heap.IsTuple l xs from hl)
  unfold Ľ;refine Ã (Ĵ (name:=Ĕ "__next__") b.typeIs eF (ġ eF b.typeIs AJ ?_ (yN _)));show Ø _ _ (JH (.ref i) 0 >>= _) _ _ s;refine Ã (ľ g1 d (x:=.ref l) rfl ?_);show Ø _ _ (if (Ð l == í)=true then _ else _) _ _ s;rw[Ö (show ¬((Ð l == í)=true)from Ý)];show Ø _ _ (JH (.ref i) 1 >>= _) _ _ s;refine Ã (ľ g1 d (x:=.int k 0) rfl ?_);show Ø _ _ (seqItems? (.ref l) >>= _) _ _ s;refine Ã (cU n p ?_);simp only[bS,j];refine Ã (bP (Ã (ic g1 d (by simp) ?_)));show Ø _ _ (newExc (.type "StopIteration") [] >>= _) _ _ _;refine Ã ?_;simp only[newExc,newTuple];refine Ã (Ř ?_ (by size_fits));refine Ã (m:=Y0 _ _) (NG (a:=í) (by first|rfl|(simp only[Y0];rfl)) ?_);refine Ř ?_ (by size_fits);simp only[Y4];refine Ã (Gb ?_);first|rw[show A.in1.handled=none from f]|rw[f]
  refine Ã (È (NH ?_));exact g _ _ (((ŵ ..).extBut.push _).push _) ⟨_,Ò _ rfl,rfl⟩
structure ZK (c1 c2:Bool)(h:Heap)(z a b i j l m:Addr)(k:Nat):Prop where
 zz:AL h z a b .none
 ins:mJ h a (.ref i) (.ref j)
 out:∃x y,mJ h b x y
 i1:CJ c1 h i l k
 i2:CJ c2 h j m k
def ME (D:YX z a b i j l m)(Z:ZK c1 c2 s.heap z a b i j l m k)
  (J:rG c1 s.heap l xs) (L:rG c2 s.heap m ys) (hx:xs[k]?=À x) (hy:ys[k]?=À y)
  (hQ:∀h',AL h' z a b (Ŷ s.heap.objs.size)->mJ h' a (.ref i) (.ref j)->mJ h' b x y->CJ c1 h' i l (k+1)->CJ c2 h' j m (k+1)->mJ h' s.heap.objs.size x y->
   (∀d o,d≠z->d≠b->d≠i->d≠j->s.heap.get? d=À o->h'.get? d=À o)->Q (À (.ref s.heap.objs.size)) {s with heap:=h'}) :
  Ø (Û prog w) A (fE (.ref z)) Q E s:=by
 obtain⟨g,h,⟨p1,M,I⟩,h1,h2⟩:=Z;have hT:s.TypeIs (.ref z) "zip":=⟨_,g,rfl⟩
 unfold fE;refine Ã (cA (Ĵ (name:=Ĕ "__next__") hT og (ġ og hT Rh ?_ (QU _))));show Ø _ _ (JH (.ref z) 2 >>= _) _ _ _;refine Ã (ľ g rfl (x:=.bool false) rfl ?_);show Ø _ _ (JH (.ref z) 3 >>= _) _ _ _;refine Ã (ľ g rfl (x:=.ref a) rfl ?_);refine Ã (cU h rfl ?_);show Ø _ _ (aA (.ref z) >>= _) _ _ _;refine Ã ?_;unfold aA;refine Ã (ľ g rfl (x:=.none) rfl (È ?_));simp only[f9];refine Ã (bP ?_);refine Ã (ľ g rfl (x:=.ref b) rfl ?_);refine Ã (dm g (by simp) λU N t1=>?_);replace N:AL U z a b .ellipsis:=N;refine Ã ?_;simp only[MM,NA,iT,yw];refine Ã (Ã (uZ ?_));show Ø _ _ (Ľ (.ref i) >>= _) _ _ _;refine Ã (uj (s:={s with heap:=U}) (h1.at λo e=>t1.extBut _ _ D.i1z e) (J.at λo e=>t1.extBut _ _ D.l1z e) hx λq2 i2 t2=>È ?_);have b2:mJ q2 b p1 M:=t2.extBut _ _ D.TOi1 (t1.extBut _ _ D.TOz I);refine Ã (cU b2 rfl ?_);refine Ã (rC b2 λX b3 t3=>?_);replace b3:mJ X b x M:=b3;refine Ã (AW (È ?_));refine Ã (Ã (uZ ?_));show Ø _ _ (Ľ (.ref j) >>= _) _ _ _;refine Ã (uj (s:={s with heap:=X}) (h2.at λo e=>t3.extBut _ _ D.TOi2.symm (t2.extBut _ _ D.i12.symm (t1.extBut _ _ D.i2z e)))
  (L.at λo e=>t3.extBut _ _ D.l2TO (t2.extBut _ _ D.l2i1 (t1.extBut _ _ D.l2z e))) hy λq4 j4 p=>È ?_)
 have b4:mJ q4 b x M:=p.extBut _ _ D.TOi2 b3;refine Ã (cU b4 rfl ?_);refine Ã (rC b4 λc b5 q=>?_);replace b5:mJ c b x y:=b5;refine Ã (AW (È (È ?_)));refine Ã (cU b5 rfl ?_);refine Ã (ry ?_);have n:c.objs.size=s.heap.objs.size:=by rw[q.1,p.1,t3.1,t2.1,t1.1]
 have z5:AL c z a b .ellipsis:=q.extBut _ _ D.TOz.symm (p.extBut _ _ D.i2z.symm (t3.extBut _ _ D.TOz.symm (t2.extBut _ _ D.i1z.symm N)));have T:∀d o,d≠z->d≠b->d≠i->d≠j->s.heap.get? d=À o->c.get? d=À o:=λd o f u C H e=>
  q.extBut _ _ u (p.extBut _ _ H (t3.extBut _ _ u (t2.extBut _ _ C (t1.extBut _ _ f e))))
 have i5:CJ c1 c i l (k+1):=i2.at λo e=>q.extBut _ _ D.TOi1.symm (p.extBut _ _ D.i12 (t3.extBut _ _ D.TOi1.symm e));have j5:CJ c2 c j m (k+1):=j4.at λo e=>q.extBut _ _ D.TOi2.symm e;have t:z<c.objs.size:=Ï z5;show Ø _ _ (jq (.ref z) (.ref c.objs.size) >>= _) _ _ _;refine Ã ?_;unfold jq;have z6:AL (c.push {cls:=.type "tuple",data:=.seq #[x,y]}) z a b .ellipsis:=Ä _ z5;refine Ã (dm z6 (by simp) λq7 O Y=>?_);replace O:AL q7 z a b (Ŷ c.objs.size):=O;refine dm O (by simp) λv B t8=>?_;replace B:AL v z a b (Ŷ c.objs.size):=B;have r:∀d o,d≠z->c.get? d=À o->v.get? d=À o:=λd o f e=>t8.extBut _ _ f (Y.extBut _ _ f (Ä _ e));have P:mJ v c.objs.size x y:=t8.extBut _ _ (Ń t) (Y.extBut _ _ (Ń t) (Ò _ rfl));rw[n]at B P;refine È ⟨_,rfl,È ?_⟩;show Q (À (.ref c.objs.size)) _;rw[n];exact hQ v B (r _ _ D.TIz (T _ _ D.TIz D.TITO D.TIi1 D.TIi2 h)) (r _ _ D.TOz b5) (i5.at λo e=>r _ o D.i1z e) (j5.at λo e=>r _ o D.i2z e) P λd o f u C H e=>r d o f (T d o f u C H e)
def QT (P:A.handled=none)(D:YX z a b i j l m)(Z:ZK c1 c2 s.heap z a b i j l m k)
  (t:rG c1 s.heap l xs) (H:rG c2 s.heap m ys) (r:xs[k]?=none∨ys[k]?=none)
  (hQ:∀h',(∀d o,d≠z->d≠b->d≠i->d≠j->s.heap.get? d=À o->h'.get? d=À o)->Q none {s with heap:=h'}):Ø (Û prog w) A (fE (.ref z)) Q E s:=by
 obtain⟨p,y,⟨p1,p2,B⟩,O,h2⟩:=Z;have hT:s.TypeIs (.ref z) "zip":=⟨_,p,rfl⟩
 unfold fE;have g:∀h' e,(∀d o,d≠z->d≠b->d≠i->d≠j->s.heap.get? d=À o->h'.get? d=À o)->(∃o,h'.get? e=À o/\o.cls=.type "StopIteration")->
   Ø (Û prog w) A (do if <-isInstance (.ref e) (.type "StopIteration")then pure none else throw (.ref e):X5 (É Value)) Q E {s with heap:=h'}:=λh' e hk ⟨o,ho,hc⟩=>
  Ã (za (T:="StopIteration") (b:=true) ⟨o,ho,hc⟩ Ei (È (hQ h' hk)))
 refine Ã (cA (Ĵ (name:=Ĕ "__next__") hT og (ġ og hT Rh ?_ (QU _))));show Ø _ _ (JH (.ref z) 2 >>= _) _ _ _;refine Ã (ľ p rfl (x:=.bool false) rfl ?_);show Ø _ _ (JH (.ref z) 3 >>= _) _ _ _;refine Ã (ľ p rfl (x:=.ref a) rfl ?_);refine Ã (cU y rfl ?_);show Ø _ _ (aA (.ref z) >>= _) _ _ _;refine Ã ?_;unfold aA;refine Ã (ľ p rfl (x:=.none) rfl (È ?_));simp only[f9];refine Ã (bP ?_);refine Ã (ľ p rfl (x:=.ref b) rfl ?_);refine Ã (dm p (by simp) λL u t1=>?_);replace u:AL L z a b .ellipsis:=u;refine Ã ?_;simp only[MM,NA,iT,yw];refine Ã (Ã (uZ ?_));show Ø _ _ (Ľ (.ref i) >>= _) _ _ _;cases I:xs[k]? with
 |none=>
  refine Ã (Du (s:={s with heap:=L}) P (O.at λo e=>t1.extBut _ _ D.i1z e) (t.at λo e=>t1.extBut _ _ D.l1z e) I λM e t2 C=>?_);obtain⟨J,c,f⟩:=C;have Y:AL M z a b .ellipsis:=t2 _ _ D.i1z.symm u;have n:e≠z:=λx=>by subst x;rw[Y]at c;cases c;simp at f
  refine dm Y (by simp) λN _ t3=>?_;exact g N e (λd o q _ v _ x=>t3.extBut _ _ q (t2 _ _ v (t1.extBut _ _ q x))) ⟨J,t3.extBut _ _ n c,f⟩
 |some x=>
  have hy:ys[k]?=none:=by
   rcases r with h|h
   ·rw[I]at h;cases h
   ·exact h
  refine Ã (uj (s:={s with heap:=L}) (O.at λo e=>t1.extBut _ _ D.i1z e) (t.at λo e=>t1.extBut _ _ D.l1z e) I λM i2 t2=>È ?_);have b2:mJ M b p1 p2:=t2.extBut _ _ D.TOi1 (t1.extBut _ _ D.TOz B);refine Ã (cU b2 rfl ?_);refine Ã (rC b2 λN b3 t3=>?_);refine Ã (AW (È ?_));refine Ã (Ã (uZ ?_));show Ø _ _ (Ľ (.ref j) >>= _) _ _ _;refine Ã (Du (s:={s with heap:=N}) P (h2.at λo e=>t3.extBut _ _ D.TOi2.symm (t2.extBut _ _ D.i12.symm (t1.extBut _ _ D.i2z e)))
   (H.at λo e=>t3.extBut _ _ D.l2TO (t2.extBut _ _ D.l2i1 (t1.extBut _ _ D.l2z e))) hy λq4 e U C=>?_)
  obtain⟨J,c,f⟩:=C;have z4:AL q4 z a b .ellipsis:=U _ _ D.i2z.symm (t3.extBut _ _ D.TOz.symm (t2.extBut _ _ D.i1z.symm u));have n:e≠z:=λx=>by subst x;rw[z4]at c;cases c;simp at f
  refine dm z4 (by simp) λq5 _ X=>?_;exact g q5 e (λd o q e2 v e4 x=>X.extBut _ _ q (U _ _ e4 (t3.extBut _ _ e2 (t2.extBut _ _ v (t1.extBut _ _ q x))))) ⟨J,X.extBut _ _ n c,f⟩
def HL (l m:Addr)(xs ys:Č Value) :
  Meets (cO.«zip.__new__» ⟨[.type "zip",.ref l,.ref m],[]⟩) (λ_ R s=>s.heap.IsTuple l xs/\s.heap.IsTuple m ys/\
   R (.ok (.ret (.ref (s.heap.objs.size+4)))) {s with heap:=((((s.heap.push {cls:=.type "tuple_iterator",data:=.fields #[.ref l,.int 0 0]}).push {cls:=.type "tuple_iterator",data:=.fields #[.ref m,.int 0 0]}).push
    {cls:=.type "tuple",data:=.seq #[.ref s.heap.objs.size,.ref (s.heap.objs.size+1)]}).push {cls:=.type "tuple",data:=.seq #[.none,.none]}).push {cls:=.type "zip",data:=.fields #[.none,.bool false,.bool false,.ref (s.heap.objs.size+2),.ref (s.heap.objs.size+3)]}}):=
 .of_wp λprog w A R s h=>by
  obtain⟨f,g,d,j,os⟩:=s;obtain⟨c,e,h⟩:=h;have i:=sub_zip;have a:Uc (Rq ⟨f,g,d,j,os⟩) l xs:=c;have b:Uc (Rq ⟨f.push {cls:=.type "tuple_iterator",data:=.fields #[.ref l,.int 0 0]},g,d,j,os⟩) m ys:=Xu e _;wp_walk using ve a,ve b
  simp only[Ĺ]at h⊢;exact⟨_,rfl,h⟩
def Jv (n:rG c s.heap l xs)(q:rG c s.heap m ys)
  (k:∀h',ZK c c h' (s.heap.objs.size+4) (s.heap.objs.size+2) (s.heap.objs.size+3) s.heap.objs.size (s.heap.objs.size+1) l m 0->(∀d o,s.heap.get? d=À o->h'.get? d=À o)->Q (.ref (s.heap.objs.size+4)) {s with heap:=h'}) :
  Ø (Û prog w) A (call (.type "zip") [.ref l,.ref m]) Q E s:=by
 cases c with
 |false=>exact call_zip_2 n q λh' B r t u v _ z=>k h' ⟨B,r,⟨_,_,t⟩,u,v⟩ z
 |true=>
  refine callType_new F.called_zip (by decide) (F.typeCall_zip_2 _ _) (F.newCall_zip_2 _ _) (λx=>F.args_object_init_3 x _ _) F.entry_zip_new (HL l m xs ys) ⟨n,q,?_⟩;have p:∀(h:Heap) (a b g i j:Obj) (d:Addr) (o:Obj),h.get? d=À o->(((((h.push a).push b).push g).push i).push j).get? d=À o:=λh a b g i j d o e=>
   Ä _ (Ä _ (Ä _ (Ä _ (Ä _ e))))
  have y:∀(h:Heap) (a b g i j:Obj),j.isFreed=false->(((((h.push a).push b).push g).push i).push j).get? (h.objs.size+4)=À j:=λh a b g i j f=>by
   have e:h.objs.size+4=((((h.push a).push b).push g).push i).objs.size:=by simp only[Ĺ]
   rw[e];exact Ò _ f
  have I:∀(h:Heap) (a b g i j:Obj),i.isFreed=false->(((((h.push a).push b).push g).push i).push j).get? (h.objs.size+3)=À i:=λh a b g i j f=>by
   have e:h.objs.size+3=(((h.push a).push b).push g).objs.size:=by simp only[Ĺ]
   rw[e];exact Ä _ (Ò _ f)
  have H:∀(h:Heap) (a b g i j:Obj),g.isFreed=false->(((((h.push a).push b).push g).push i).push j).get? (h.objs.size+2)=À g:=λh a b g i j f=>by
   have e:h.objs.size+2=((h.push a).push b).objs.size:=by simp only[Ĺ]
   rw[e];exact Ä _ (Ä _ (Ò _ f))
  have D:∀(h:Heap) (a b g i j:Obj),b.isFreed=false->(((((h.push a).push b).push g).push i).push j).get? (h.objs.size+1)=À b:=λh a b g i j f=>by
   have e:h.objs.size+1=(h.push a).objs.size:=by simp only[Ĺ]
   rw[e];exact Ä _ (Ä _ (Ä _ (Ò _ f)))
  have C:∀(h:Heap) (a b g i j:Obj),a.isFreed=false->(((((h.push a).push b).push g).push i).push j).get? h.objs.size=À a:=λh a b g i j f=>
   Ä _ (Ä _ (Ä _ (Ä _ (Ò _ f))))
  exact⟨⟨_,y _ _ _ _ _ _ rfl,rfl⟩,k _ ⟨y _ _ _ _ _ _ rfl,H _ _ _ _ _ _ rfl,⟨_,_,I _ _ _ _ _ _ rfl⟩,⟨_,C _ _ _ _ _ _ rfl,rfl,rfl⟩,⟨_,D _ _ _ _ _ _ rfl,rfl,rfl⟩⟩ λd o e=>p _ _ _ _ _ _ d o e⟩
end
def wV (c:Bool)(K:Ç)(H:Hp)(a:Addr)(xs:Â V):Prop:=if c=true then gp K H a xs else gM K H a xs
def Inv.Rb (I:Inv X b d H s)(h:wV c X.K H a xs):∃its:Â Value,Vals xs its/\rG c s.heap a its.toArray:=by
 cases c with
 |true=>obtain⟨its,r,p,_⟩:=I.tuple (show gp X.K H a xs from h);exact⟨its,r,p⟩
 |false=>obtain⟨its,r,p,_⟩:=I.list (show gM X.K H a xs from h);exact⟨its,r,p.isList⟩
def Inv.DM (I:Inv X b d H s)(h:wV c X.K H a xs)(k:wV c X.K H a ys):xs=ys:=by
 cases c with
 |true=>exact I.qH (show gp X.K H a xs from h) k
 |false=>exact I.uc (show gM X.K H a xs from h) k
def Yd (c:Bool)(K:Ç)(a b:Addr):It:=
  ⟨λi H=>∃xs d x y,wV c K H a xs/\wV c K H b d/\xs[i]?=À x/\d[i]?=À y,
   λi H v A=>∃T x y,v=.ref T/\H T=none/\A=upd H T (.tup [x,y])/\∀xs d,wV c K H a xs->wV c K H b d->xs[i]?=À x/\d[i]?=À y,
   λi H=>∃xs d,wV c K H a xs/\wV c K H b d/\(xs.length<=i∨d.length<=i)⟩
def I_ {K:Ç}{es:Â Expr}(c:Bool)(l m z a b i j:Addr)(D:YX z a b i j l m) :
  Turn P w K (.Tuple es kk QO) (Yd c K l m) [z,a,b,i,j] z (λn h=>ZK c c h z a b i j l m n) where
 mem:=by simp
 obj:=λn h st d hd=>by
  obtain⟨hz,VS,⟨p1,p2,VT⟩,h1,h2⟩:=st;simp only[ò,bg,nF]at hd;rcases hd with rfl|rfl|rfl|rfl|rfl
  ·exact⟨_,hz,λv e=>nomatch e⟩
  ·exact⟨_,VS,λv e=>nomatch e⟩
  ·exact⟨_,VT,λv e=>nomatch e⟩
  ·exact h1.obj
  ·exact h2.obj
 keep:=λn h h' st k=>by
  obtain⟨hz,VS,⟨p1,p2,VT⟩,h1,h2⟩:=st;exact⟨k z (by simp) _ hz,k a (by simp) _ VS,⟨p1,p2,k b (by simp) _ VT⟩,h1.at λo e=>k i (by simp) o e,h2.at λo e=>k j (by simp) o e⟩
 item:=by
  intro X hP hw hK hc n ø s σ H E I hf st hg;subst hP hw hK;obtain⟨xs,ys,x,y,UK,UL,hx,hy⟩:=hg;obtain⟨V7,r1,p1⟩:=I.Rb UK;obtain⟨V8,r2,p2⟩:=I.Rb UL;obtain⟨u1,e1,ru1⟩:=r1.get hx;obtain⟨u2,e2,ru2⟩:=r2.get hy;refine ME D st p1 p2 (by simpa using e1) (by simpa using e2) λh' z1 a1 b1 i1 j1 T1 kp=>?_;refine⟨_,rfl,wpAny_letOwnedTupleGo_zip (s:={s with heap:=h'}) z1 λh2 z2 t2=>?_⟩;have Yn:H s.heap.objs.size=none:=I.Ů.fresh (Í _);have zT:s.heap.objs.size≠z:=Ń (Ï (show s.heap.get? z=À _ from st.zz));have F0:∀d o,d∉[z,a,b,i,j]->s.heap.get? d=À o->h2.get? d=À o:=λd o hd e=>by
   simp only[ò,bg,nF,not_or]at hd;exact t2.extBut _ _ hd.1 (kp d o hd.1 hd.2.2.1 hd.2.2.2.1 hd.2.2.2.2 e)
  have T2:mJ h2 s.heap.objs.size u1 u2:=t2.extBut _ _ zT T1;have SW:∀d o,H d=À o->d∉[z,a,b,i,j]:=λd o e hd=>by rw[(hf d hd).1]at e;cases e
  have nT:∀d o,H d=À o->d≠s.heap.objs.size:=λd o e q=>by rw[q,Yn]at e;cases e
  have newOk:ly X.prog X.w (upd H s.heap.objs.size (.tup [x,y])) h2:=by
   intro d o e;by_cases hd:d=s.heap.objs.size
   ·subst hd;rw[ă]at e;cases e;exact⟨by show 2<=sizeLine;decide,[u1,u2],.cons ru1 (.cons ru2 .nil),_,T2,rfl,0,rfl⟩
   ·rw[ä hd]at e;refine(I.Ů d o e).pq (λq v hq r=>F0 q v ?_ r) (λq r=>by rw[ä (nT q _ r)];exact r) (λq Xp r=>by rw[ä (nT q _ r)];exact r);rcases hq with rfl|hq
    ·exact SW _ _ e
    ·exact SW _ _ hq
  have I2:Inv X ø σ (upd H s.heap.objs.size (.tup [x,y])) {s with heap:=h2}:=by
   refine I.step (g':=s.gens) (d':=s.drawn) (t':=s.toks) (ch:=[z,a,b,i,j]) (λd hd=>⟨(hf d hd).2.2.2.1,(hf d hd).2.1,(hf d hd).2.2.2.2.1,(hf d hd).2.2.2.2.2⟩) (λd o _ _ hd e _=>F0 d o hd e) (λd o _ _ hd e _=>⟨o.slots,F0 d o hd e⟩)
    (λd o hd e nn=>by rw[ä (ï (Ï e))];exact nn) (λd o hd e=>⟨o,F0 d o hd e⟩) (λd Xp e=>by rw[ä (nT d _ e)];exact e) (λd o u e=>by rw[ä (nT d _ e)];exact e)
    (λd ps e=>⟨#[],by rw[ä (nT d _ e),e];simp⟩) (λmm hm=>?_) newOk I.bare
   obtain⟨o,VI,ep,ho,r⟩:=hm;exact⟨o,VI,ep,F0 _ o (λhd=>(hf _ hd).2.1 rfl) ho,r⟩
  refine⟨.ref s.heap.objs.size,_,I2,rfl,⟨_,x,y,rfl,Yn,rfl,λXp UW k1 k2=>?_⟩,?_,λd hd=>?_⟩
  ·rw[I.DM k1 UK,I.DM k2 UL];exact⟨hx,hy⟩
  ·exact⟨z2,t2.extBut _ _ D.TIz a1,⟨_,_,t2.extBut _ _ D.TOz b1⟩,i1.at λo e=>t2.extBut _ _ D.i1z e,j1.at λo e=>t2.extBut _ _ D.i2z e⟩
  ·have Z9:d≠s.heap.objs.size:=by
    rintro rfl;have lt:∀{q:Addr}{o:Obj},s.heap.get? q=À o->s.heap.objs.size≠q:=λe=>Ń (Ï e);simp only[ò,bg,nF]at hd;obtain⟨o1,g1,_⟩:=st.i1.obj;obtain⟨o2,g2,_⟩:=st.i2.obj;obtain⟨y1,y2,g3⟩:=st.out;rcases hd with q|q|q|q|q
    ·exact lt st.zz q
    ·exact lt st.ins q
    ·exact lt g3 q
    ·exact lt g1 q
    ·exact lt g2 q
   rw[ä Z9];exact(hf d hd).1
 done:=by
  intro X hP hw hK hc n ø s σ H E I hf st hg;subst hP hw hK;obtain⟨xs,ys,UK,UL,hx⟩:=hg;obtain⟨V7,r1,p1⟩:=I.Rb UK;obtain⟨V8,r2,p2⟩:=I.Rb UL;have n1:=r1.length;have n2:=r2.length;refine QT (I.ok.hd hc) D st p1 p2 (hx.elim (λq=>.inl (by simp;lia)) λq=>.inr (by simp;lia)) λh' kp=>⟨rfl,?_⟩
  have F0:∀d o,d∉[z,a,b,i,j]->s.heap.get? d=À o->h'.get? d=À o:=λd o hd e=>by
   simp only[ò,bg,nF,not_or]at hd;exact kp d o hd.1 hd.2.2.1 hd.2.2.2.1 hd.2.2.2.2 e
  have SW:∀d o,H d=À o->d∉[z,a,b,i,j]:=λd o e hd=>by rw[(hf d hd).1]at e;cases e
  have there:∀d o,s.heap.get? d=À o->d∉[z,a,b,i,j]->∃o',h'.get? d=À o':=λd o e hd=>⟨o,F0 d o hd e⟩
  refine I.step (g':=s.gens) (d':=s.drawn) (t':=s.toks) (ch:=[z,a,b,i,j]) (λd hd=>⟨(hf d hd).2.2.2.1,(hf d hd).2.1,(hf d hd).2.2.2.2.1,(hf d hd).2.2.2.2.2⟩) (λd o _ _ hd e _=>F0 d o hd e) (λd o _ _ hd e _=>⟨o.slots,F0 d o hd e⟩)
   (λd o hd e nn=>nn) (λd o hd e=>⟨o,F0 d o hd e⟩) (λd Xp e=>e) (λd o u e=>e) (λd ps e=>⟨#[],by rw[e];simp⟩) (λmm hm=>?_) (λd o e=>?_) I.bare
  ·obtain⟨o,VI,ep,ho,r⟩:=hm;exact⟨o,VI,ep,F0 _ o (λhd=>(hf _ hd).2.1 rfl) ho,r⟩
  ·refine(I.Ů d o e).pq (λq v hq r=>F0 q v ?_ r) (λ_ r=>r) (λ_ _ r=>r);rcases hq with rfl|hq
   ·exact SW _ _ e
   ·exact SW _ _ hq
 self:=λ_ _ _ _ _ st h=>Vo st.zz h
def V4 (K:Ç)(t:TA):TI:=λf H R=>t f H λd A=>∃c a b,d=[.ref a,.ref b]/\(∃xs,wV c K A a xs)/\(∃e,wV c K A b e)/\R (Yd c K a b) A
def P9 {X:Cx}{y:Â Expr}{u tb:TE}(E:Gl X "zip")(F:X.mg "zip"=none)(C:PE X e1 u)(D:PE X g tb)
  (hs:Î [e1,g] X.env=(false,ģ e1 X.env)::Î [g] X.env:=by rfl) (l:Î [g] X.env=[(false,ģ g X.env)]:=by rfl) (k:(ĺ pos (Î [g] X.env)).any (·.1)=false:=by rfl) :
  PI X (.Tuple y T v) (.Call (.Name "zip" p) [e1,g] [] pos) (V4 X.K (wx u (wx tb Cp))):=by
 intro j s Q H R I h;refine bO (qj I E F XB ?_);refine gH (au ((cu C (cu D iM l) hs) pos j s Q H _ I h) λus f P=>iv P λvs B A O N=>?_) hs k;obtain⟨c,a,b,rfl,⟨xs,J⟩,⟨ys,L⟩,q⟩:=N;obtain⟨U,Y,rfl,n,o⟩:=vals2 O;cases n;cases o;obtain⟨r,_,p1⟩:=A.Rb J;obtain⟨t,_,m⟩:=A.Rb L;have w:a<f.heap.objs.size:=by
  cases c with
  |true=>obtain⟨_,e,_⟩:=(show f.heap.IsTuple a _ from p1);exact Ï e
  |false=>obtain⟨_,e,_⟩:=(show f.heap.IsList a _ from p1);exact Ï e
 have x:b<f.heap.objs.size:=by
  cases c with
  |true=>obtain⟨_,e,_⟩:=(show f.heap.IsTuple b _ from m);exact Ï e
  |false=>obtain⟨_,e,_⟩:=(show f.heap.IsList b _ from m);exact Ï e
 refine Jv p1 m λz Z M=>?_;refine Vo (s:={f with heap:=z}) Z.zz ?_;refine⟨_,_,_,_,B,rfl,A.kept (t':=f.toks) M,I_ c a b _ _ _ _ _ (zipApart_new w x),Z,λd hd=>?_,q⟩;have i:f.heap.objs.size<=d:=by
  simp only[ò,bg,nF]at hd;rcases hd with rfl|rfl|rfl|rfl|rfl
  ·exact lE _ _
  ·exact lE _ _
  ·exact lE _ _
  ·exact Í _
  ·exact lE _ _
 exact A.BB i (A.Ů.fresh i)
def gp.const {K:Ç}{its:Č Value}{xs:Â V}(h:K.lookup a=À ⟨.type "tuple",od,.seq its n,c⟩)(v:Vals xs its.toList)(hz:xs.length<=1000):gp K H a xs:=
 .inr ⟨_,its,n,h,rfl,rfl,by
  have b:xs.length=its.size:=v.length;rw[<-b];exact Ħ (ſ hz),v⟩
open PySem.Builtin.Str in
def Qq:V->Â V->Hp->VK->Prop:=λx b H Q=>∃t a,x=.str t/\b=[.str a]/\(decide (t.length<a.length)||decide (strKind t<strKind a))=false/\(a.length == 0)=false/\(occurrences t a 0 t.length (t.length+1)).isEmpty=false/\t.length<=1000/\
 (partsBetween t (occurrences t a 0 t.length (t.length+1)) a.length).length<=1000/\∀l,H l=none->Q (.ref l) (upd H l (.lst ((partsBetween t (occurrences t a 0 t.length (t.length+1)) a.length).map V.str)))
theorem nv:∀n l,Vals (l.map V.str) (strsFrom n l)
 |_,[]=>.nil
 |n,x::r=>.cons ⟨n,rfl⟩ (nv (n+1) r)
def HK:CK X "str.split" Qq:=by
 intro d s n H x m v us Q I l rv h;obtain⟨t,a,rfl,rfl,f,i,g,j,c,q⟩:=h;obtain⟨e,rfl⟩:=l;obtain⟨u,rfl,k⟩:=rv.one;obtain⟨b,rfl⟩:=k;refine vc F.slot_str_split ((Cw (T:="str") (x:=.str t) I ⟨e,rfl⟩ rfl).1) F.entry_str_split (F.args_str_split_2 _ _) (meets_str_split_sep t a e b f i g (Ħ (ſ j)) (Ħ (ſ c))) ?_;refine⟨.ref s.heap.objs.size,_,I.OJ (t':=_) (nv s.toks _) ?_,rfl,q _ I.fresh⟩;rw[Ê];exact Ħ (ſ c)
def Qk:V->Â V->Hp->VK->Prop:=λx a H Q=>∃l xs y,x=.ref l/\a=[y]/\H l=À (.lst xs)/\iG y=true/\xs.all iG=true/\Q (.int ((xs.countP λz=>ik z y:Nat):Int)) H
theorem vK:∀{xs:Â V}{us:Â Value},Vals xs us->xs.all iG=true->us.countP (EK x)=xs.countP λz=>ik z x
 |_,_,.nil,_=>rfl
 |y::xs,u::us,.cons r t,f=>by
  rw[Ĩ,Ĉ]at f;rw[MI,MI,vK t f.2,xv r f.1]
def HH:CK X "list.count" Qk:=by
 intro c s k H x j v us Q I i rv h;obtain⟨l,xs,y,rfl,rfl,f,d,b,q⟩:=h;cases i;obtain⟨u,rfl,g⟩:=rv.one;obtain⟨z,a,n,r,hl,e⟩:=I.Fd f;refine vc F.slot_list_count ⟨_,e,rfl⟩ F.entry_list_count (F.args_list_count_2 _ _) (SeqAt.list_countAt l a.toArray n none #[] u (EK y)) ⟨e,λw hw=>lY g d r b w (by simpa using hw),?_⟩;refine⟨.int _,H,I.tok _,⟨_,rfl⟩,?_⟩;rw[show a.toArray.toList=a from rfl,vK r b];exact q
def H0 {X:Cx}{K:Ç}{c:Â Expr}{k:TE}{t:TA}{T id:String}{r:V->Â V->Hp->VK->Prop}(l:X.K=K)(q:u9 T)(i:Slot T name id)(j:Rx (.builtin id)=pure (.type "method_descriptor")) (n:CK X id r)(p:PE X o k)(m:PA X (e::c) t)
  (d:bG o name X.env (ģ o X.env)=ģ o X.env:=by rfl)
  (h:((ĺ a (Î (e::c) X.env)).all (λx=>!x.1)&&(h_ a (cc [] X.env)).all (λx=>x.1.isSome)
   && decide ((e::c).length+([]:Â jX).length+(if ([]:Â jX).isEmpty then 0 else 1)<30))=true:=by rfl)
  (f:(g.endLine == a.line)=true:=by rfl) (hs:Î (e::c) X.env=(false,ģ e X.env)::Î c X.env:=by rfl) (b:(ĺ a (Î c X.env)).any (·.1)=false:=by rfl) :
  PE X (.Call (.Attribute o name g) (e::c) [] a) (W9 K T r k t):=by subst l;exact S_ q i j n p m d h f hs b
def Sj {n:Nat}{i:Int}(h0:0<=i)(a:i<n):y9 i n=À i.toNat:=by
 have:Dd n i=À i.toNat:=by
  unfold Dd;rw[Ì h0,Ì a]
 exact(xF this).1
end L2
namespace HT
open PySem PyProof.Rows
section
variable {prog:ą}{w:ħ}{A:Ŕ}{E:Value->Ô->Prop}{s:Ô}
def mU {items:Č Value}{lo c:É Int}{Q:Value->Ô->Prop}(a:Jx s.heap t items)(hs:s.heap.IsSliceOf g m n .none)(pl:rm m lo)(l:rm n c)
  (i:c_ items.size 0 lo=0) (j:c_ items.size items.size c=items.size) (h:Q (.ref t) s):Ø (Û prog w) A (mh (.ref t) (.ref g)) Q E s:=by
 obtain⟨os,f,e,k⟩:=id hs;have d:s.TypeIs (.ref g) "slice":=⟨os,f,e⟩
 unfold mh;try with_reducible refine Ŏ ?_
 first|refine Ã (È ?_)|skip
 refine Ã (Uu a.typeIs (by decide) ?_);refine Ã (Ĵ (name:=Ĕ "__getitem__") a.typeIs Œ
  (ġ Œ a.typeIs QZ ?_ (Rr _ _)))
 show Ø _ _ (pM (.ref t) >>= _) _ _ s;refine Ã (tupleItemsOf_ a ?_);refine Ã (wR d ?_);rw[Ì (by decide)];refine Ã (jP hs pl l ?_);have b:((((c_ items.size 0 lo:Nat):Int) == 0&&(1:Int) == 1&&(c_ items.size items.size c-c_ items.size 0 lo) == items.size)=true):=by
  rw[i,j];simp
 show Ø _ _ (if (((c_ items.size 0 lo:Nat):Int) == 0&&(1:Int) == 1&&(c_ items.size items.size c-c_ items.size 0 lo) == items.size)=true then _ else _) _ _ s;rw[Ì b];unfold U4;refine Ã (Ã (wR a.typeIs (È ?_)));rw[Ì (by decide)];first
  |exact Ã (bP (È ⟨_,rfl,È h⟩))
  |exact Ã (bP (Ã (È (È ⟨_,rfl,È h⟩))))
end
end HT
namespace L2
open PySem PySem.Spec PyProof.Rows
def Qj (K:Ç):R2:=λx y H Q=>∃a b xs c,x=.ref a/\y=.ref b/\gp K H a xs/\gp K H b c/\c≠[]/\xs.length+c.length<=sizeLine/\
 (xs=[]->Q (.ref b) H)/\(xs≠[]->∀p,H p=none->Q (.ref p) (upd H p (.tup (xs++c))))
def HW:ju X (aY .Add) (Qj X.K):=by
 intro i s Y H x y v u Q I w A h;obtain⟨a,b,xs,U,rfl,rfl,p,q,E,J,N,O⟩:=h;by_cases j:xs=[]
 ·cases w;cases A;obtain⟨f,P,p1,_⟩:=I.tuple p;obtain⟨g,Z,M,_⟩:=I.tuple q;obtain⟨⟨B,C,o,T⟩,t,r,n,hd⟩:=id p1;obtain⟨⟨m,k,data2,l⟩,e,c,L,d⟩:=id M;simp only at r hd c d;subst r hd c d;have D:f=[]:=P.sA.mpr j;exact J4 ⟨_,t,rfl⟩ ⟨_,e,rfl⟩ y8 F_ kQ jZ (jB _ _)
   (tuple_addW0 a b f.toArray g.toArray n L C k T l (by simp[D])) ⟨t,e,⟨.ref b,H,I,rfl,N j⟩⟩
 ·exact LD i s Y H (.ref a) (.ref b) v u Q I w A ⟨a,b,xs,U,rfl,rfl,p,q,j,J,λz=>absurd z E,λ_=>O j⟩
def To (K:Ç):V->É Int->É Int->Hp->VK->Prop:=λx lo b H Q=>∃a xs,x=.ref a/\gp K H a xs/\
 ((HT.c_ xs.length 0 lo=0/\HT.c_ xs.length xs.length b=xs.length)->Q (.ref a) H)/\(¬(HT.c_ xs.length 0 lo=0/\HT.c_ xs.length xs.length b=xs.length)->∀p,H p=none->Q (.ref p) (upd H p (.tup (tf xs lo b))))
def Mg:RD X (To X.K):=by
 intro c s t H x v p q lo e o Q I l f j k h;obtain⟨a,xs,rfl,i,m,n⟩:=h;by_cases hw:HT.c_ xs.length 0 lo=0/\HT.c_ xs.length xs.length e=xs.length
 ·cases l;obtain⟨d,r,g,u⟩:=I.tuple i;have b:d.toArray.size=xs.length:=by rw[Ú];exact r.length.symm
  refine⟨"tuple",_,Œ.lookup,g.typeIs,?_⟩;exact HT.mU g f j k (by rw[b];exact hw.1) (by rw[b];exact hw.2) ⟨.ref a,H,I,rfl,m hw⟩
 ·exact Qy c s t H (.ref a) v p q lo e o Q I l f j k ⟨a,xs,rfl,i,hw,n hw⟩
open PySem.W
section
variable {prog:ą}{w:ħ}{A:Ŕ}{E:Value->Ô->Prop}{s:Ô}{K:Ç}{x C:Addr}{ox:Obj}{od:É Obj}{name:Str}
structure NQ (K:Ç)(C:Addr):Prop where
 ga:ú K (.ref C) "__getattribute__"=À (À (.builtin "BaseException.__getattribute__"))
 gx:ú K (.ref C) "__getattr__"=À none
 sb:wG K (.ref C) (.type "BaseException")=À true
def KI:builtinKind "BaseException.__getattribute__"=À .slot:=by decide+kernel
def G5:splitId "BaseException.__getattribute__"=À ("BaseException","__getattribute__"):=by decide+kernel
def R8:(yX "BaseException.__getattribute__" == yX "object.__getattribute__")=false:=by decide+kernel
def Jr {a:Value}{Q:Unit->Ô->Prop}(X:K.In s.heap)(I:InstAt s.heap x ox C od)(g:NQ K C)(c:Q () s) :
  Ø (Û prog w) A (Vj "BaseException.__getattribute__" ⟨[.ref x,a],[]⟩) Q E s:=by
 have B:=I.type (M:=Û prog w);have D:=looks_subIn (M:=Û prog w) X g.sb;have b:=PySem.F.args_bexc_ga (.ref x) a;simp only[Vj,KI,G5];refine Ã ?_;unfold isInstance;refine Ã (B.here (D.here ?_));rw[Ö (by decide)];unfold argsOk at b;split at b
 ·rename_i d e;rw[e];dsimp only;rw[b];exact È c
 ·rename_i e;rw[e];exact È c
def Jq {f:Tok}{b a:Value}{Q:Fin->Ô->Prop}(X:K.In s.heap)(I:InstAt s.heap x ox C od)(c:findObj K C od name=À (.bind b a))
  (e:Ø (Û prog w) A (call b [a,.ref x,.ref C]) (λv s'=>Q (.done (.ret v)) s') E s) :
  Ø (Û prog w) A (cO.«object.__getattribute__» ⟨[.ref x,.str name f],[]⟩) Q E s:=by
 obtain⟨h,g,d,t,os⟩:=s;have B:=I.type (M:=Û prog w);have D:=looks_find (M:=Û prog w) X I c;unfold cO.«object.__getattribute__»;refine Ã (È ?_);refine Ã (È (Ã (B.at (Ã (D.at ?_)))));show Ø _ _ (e_ [a] (call b [a,.ref x,.ref C]) >>= Y5) _ _ _;exact Ã (Ŏ (au e λv s' z=>È z))
def T9 {b:Tok}{fill a:Bool}{Q:Value->Ô->Prop}(X:K.In s.heap)(I:InstAt s.heap x ox C od)(g:NQ K C)
  (e:Ø (Û prog w) A.in1 (cO.«object.__getattribute__» ⟨[.ref x,.str name b],[]⟩) (λf s'=>∃v,f=.done (.ret v)/\handedIn v=true/\Q v s') (λ_ _=>False) s) :
  Ø (Û prog w) A (getAttrBy (.ref x) (.str name b) fill a) Q E s:=by
 have B:=I.type (M:=Û prog w);have D:=looks_findIn (M:=Û prog w) X g.ga;have L2:=looks_findIn (M:=Û prog w) X g.gx;have d:onTheHeap (Ð C)=true:=rfl;unfold getAttrBy;refine Ŏ (Ã (B.here (Ã (D.here ?_))));dsimp only;rw[Ö (by rw[R8,n_];decide)];unfold getAttrByItsOwn hookBefore;rw[Ì d];refine Ã (L2.here (Ã (cA (Ŏ ?_))));unfold callGetattribute;rw[Ö (by rw[show onTheHeap (yX "BaseException.__getattribute__")=false from rfl,n_];decide)];unfold boundAndCalled;refine Ã (NG (yB.ga.bind (.ref x)) ?_);refine vd (codeAny_call_builtin yB.ga.plain PySem.F.entry_bexc_ga (Jr X I g ?_));refine aw e (λf s' z=>?_) (λ_ _ z=>z.elim);obtain⟨v,rfl,c,q⟩:=z;exact handed_on c q
structure Ka (K:Ç)(C:Addr):Prop extends NQ K C where
 ca:ú K (.ref C) "__class__"=À (À (.builtin "object.__class__"))
 cn:fD K (.builtin "object.__class__") "__get__"=À (À (.builtin "getset_descriptor.__get__"))
 ct:h9 K (.builtin "object.__class__")=À true
 cm:oo K C (.type "object")=À true
 cl:(cP K C).isSome=true
def zI {a c:Value}(b:(cP K C).isSome=true) (d:ú K (.ref C) name=À (À a)) (e:fD K a "__get__"=À (À c)) (f:h9 K a=À true):findObj K C od name=À (.bind c a):=by
 obtain⟨g,b⟩:=bQ.mp b;simp[findObj,b,d,e,f]
def Js {Q:É Value->Ô->Prop}(X:K.In s.heap)(I:InstAt s.heap x ox C od)(g:Ka K C)(a:Q (À (.ref C)) {s with toks:=s.toks+1}) :
  Ø (Û prog w) A (getAttr? (.ref x) "__class__") Q E s:=by
 unfold getAttr? getAttrBy?;refine Ã (wpAny_mkText (Ã (cA ?_)));refine T9 (s:={s with toks:=s.toks+1}) X I g.toNQ (Jq (s:={s with toks:=s.toks+1}) X I (zI g.cl g.ca g.cn g.ct) (vd (class_get (s:={s with toks:=s.toks+1}) (ox:=ox) (od:=od) X I g.cm ⟨_,rfl,rfl,?_⟩)));exact È a
def CW (a:(cP K C).isSome=true):∃c1 d1 b c,K.lookup C=À ⟨c1,d1,.cls b,c⟩:=by
 unfold cP at a;split at a
 ·exact⟨_,_,_,_,by assumption⟩
 ·cases a
def zX (g:Ka K C):KitX K (.ref x) (.ref C) (λh=>∃ox od,InstAt h x ox C od) where
 ty:=λ_ _ _ ⟨_,_,I⟩=>I.type
 it:=λ_ _ X _ A' Q' E' s' k' q'=>by
  obtain⟨c1,d1,cd,sl,hl⟩:=CW g.cl;show Ø _ A' (isType (.ref C)) Q' E' s';unfold isType loadHead;exact Ã (Y9 (k' C _ (X C _ hl)) (È q'))
 ne:=λh tp dd its n sl X Yt=>by
  obtain⟨c1,d1,cd,sl',hl⟩:=CW g.cl;cases e:(Ð C == Ð tp)with
  |false=>rfl
  |true=>
   have e2:C=tp:=Value.ref.inj (kX.mp e);rw[<-e2,X C _ hl]at Yt;cases Yt
 ca:=λX ⟨_,_,I⟩ k=>Js X I g k
end
noncomputable abbrev sW:Â Value:=[.type "ValueError",.type "Exception",.type "BaseException",.type "object"]
def IQ (b:Č yL):Bool:=b.toList.all λa=>match a.key with|.str _ _=>true|_=>false
def IS (h:IQ b=true):StrKeys b:=by
 intro a c;have q:=Đ.mp h a (ny.mpr c);cases k:a.key with
 |str n t=>exact⟨n,t,rfl⟩
 |_=>rw[k]at q;cases q
structure UC (K:Ç)(N:Addr)(m:Str->É Value):Prop where
 ex:∃nc nd es ep nsl,K.lookup N=À ⟨nc,nd,.dict es ep,nsl⟩/\IQ es=true/\∀x,nsFind es x=m x
def UC.ns {K:Ç}{h:Heap}(x:UC K N m)(X:K.In h):h.Ns N m:=by
 obtain⟨d,nd,b,a,c,l,q,e⟩:=x.ex;exact⟨_,b,a,X _ _ l,rfl,IS q,e⟩
inductive oB (K:Ç):Â Value->Prop
 |base:oB K sW
 |own {B:Addr}{c0:Value}{dd:É Addr}{cd:ClassData}{sl:Č (É Value)}{m:Str->É Value}{tl:Â Value}(l:K.lookup B=À ⟨c0,dd,.cls cd,sl⟩) (n:UC K cd.ns m) (i:m "__init__"=none) (t:oB K tl):oB K (.ref B::tl)
def oB.PN {K:Ç}(t:oB K l)(X:K.In h):OwnTail h sW l:=by
 induction t with
 |base=>exact .base
 |own l n i _ a=>exact .own (X _ _ l) (n.ns X) i a
structure iA (K:Ç)(C:Addr)(nm:Str)(bm:Â Value)(AZ:É Value):Prop where
 ex:∃q N bs sn sub ab col dd k0 k1 k2 k3 k5 m,K.lookup C=À (excClassObj nm q C N bs bm true sn sub ab col dd k0 k1 k2 k3 k5 "ValueError.__new__")/\UC K N m/\m "__init__"=AZ
 tail:oB K bm
section
variable {K:Ç}{C:Addr}{nm:Str}{bm:Â Value}{AZ:É Value}
def iA.cls (x:iA K C nm bm AZ):∃a,cP K C=À a/\a.mro=.ref C::bm/\a.hasDict=true/\a.name=nm:=by
 obtain⟨q,N,bs,j,sub,c,b,d,e,f,g,h,i,m,l,_⟩:=x.ex;exact⟨_,by unfold cP;rw[l],rfl,rfl,rfl⟩
def iA.M9 (x:iA K C nm bm AZ):(cP K C).isSome=true:=by
 obtain⟨a,e,_⟩:=x.cls;rw[e];rfl
def iA.mro (x:iA K C nm bm AZ)(T:Value):wG K (.ref C) T=À ((Ð C::bm).contains T):=by
 obtain⟨b,e,a,_⟩:=x.cls;show oo K C T=_;unfold oo;rw[e,b_,a,Ö (by simp)]
def iA.JR (x:iA K C nm bm AZ)(T:Value)(a:(∃n b i,∃D,T=.ref D/\iA K D n b i)∨∃t,T=.type t/\kitMeta t=true):Rv K (.ref C) T=À ((Ð C::bm).contains T):=by
 unfold Rv;by_cases q:(Ð C == T)=true
 ·rw[Ì q,kX.mp q];simp
 ·rw[Ö q];rcases a with⟨n,b,i,D,rfl,y⟩|⟨t,rfl,y⟩
  ·have z:((cP K D).isSome&&vb K (.ref D) == À (.type "type"))=true:=by
    rw[y.M9];obtain⟨_,_,_,_,_,_,_,_,_,_,_,_,_,_,l,_⟩:=y.ex;have e:vb K (.ref D)=À (.type "type"):=by
     show Option.map (λo=>o.cls) (K.lookup D)=_;rw[l];rfl
    rw[e];rfl
   unfold kitCls;dsimp only;rw[Ì z];exact x.mro _
  ·unfold kitCls;dsimp only;rw[Ì y];exact x.mro _
end
def UT (C e:Addr):HO:=.ext λh=>∃a:Obj,h.get? e=À a/\a.cls=.ref C/\Y3 a=true/\a.dict=none
def YR (C e b:Addr):HO:=.ext λh=>∃a:Obj,h.get? e=À a/\a.cls=.ref C/\Y3 a=true/\a.dict=À b
def š.there (x:š P w H h a o):∃c,h.get? a=À c:=by
 cases o with
 |lst xs=>obtain⟨_,_,_,_,e⟩:=x;exact⟨_,e⟩
 |tup xs=>obtain⟨_,_,_,c,e,_⟩:=x;exact⟨_,e⟩
 |dK b=>obtain⟨_,_,_,_,o,_,_,e,_⟩:=x;exact⟨_,e⟩
 |dT b=>obtain⟨_,_,_,_,o,_,_,e,_⟩:=x;exact⟨_,e⟩
 |set S n=>obtain⟨o,_,_,_,e,_⟩:=x;exact⟨_,e⟩
 |ins C g d=>obtain⟨_,_,_,e,_⟩:=x;exact⟨_,e⟩
 |own y=>obtain⟨_,e⟩:=x;exact⟨_,e⟩
 |xd d=>obtain⟨_,⟨_,_,_,e,_⟩,_⟩:=x;exact⟨_,e⟩
 |Tr lo i=>obtain⟨_,_,_,e⟩:=x;exact⟨_,e⟩
 |hY c u=>obtain⟨e,_⟩:=x;exact⟨_,e⟩
 |pH j=>exact⟨_,(show h.get? a=À _ from x)⟩
 |met f y=>exact⟨_,(show h.get? a=À _ from x)⟩
 |ext k=>obtain⟨_,⟨_,e⟩,_⟩:=x;exact⟨_,e⟩
section
variable {X:Cx}{ø:Â (Addr×Obj)}{σ:St}{H:Hp}{s:Ô}{h':Heap}{a:Addr}{o:HO}
def Inv.gone (I:Inv X ø σ H s)(b:s.heap.get? a=none):H a=none:=by
 cases q:H a with
 |none=>rfl
 |some u=>
  obtain⟨c,e⟩:=(I.Ů a u q).there;rw[b]at e;cases e
def Inv.So (I:Inv X ø σ H s)(k:∀b u,s.heap.get? b=À u->h'.get? b=À u)(g:s.heap.get? a=none)(e:š X.prog X.w (upd H a o) h' a o):Inv X ø σ (upd H a o) {s with heap:=h',toks:=t'}:=by
 have h:=I.gone g;have i:∀b u,s.heap.get? b=À u->b≠a:=λb u q z=>by subst z;rw[g]at q;cases q
 have d:∀b u,H b=À u->b≠a:=λb u q=>ń q h;refine I.un ⟨λb u q _ _ _=>k b u q,λb u q _ _ _=>⟨u.slots,k b u q⟩,λb u q n _=>by rw[ä (i b u q)];exact n,λb u q _=>⟨u,k b u q⟩,
  λb xs q=>by rw[ä (d b _ q)];exact q,λb u xs q=>by rw[ä (d b _ q)];exact q,λb j q=>⟨#[],by rw[ä (d b _ q),q];simp⟩⟩ λb u q=>?_
 by_cases f:b=a
 ·subst f;rw[ă]at q;cases q;exact e
 ·rw[ä f]at q;exact(I.Ů b u q).pq (λc v _ z=>k c v z) (λc z=>by rw[ä (d c _ z)];exact z) λc xs z=>by rw[ä (d c _ z)];exact z
end
def Uy (H:Hp)(e C:Addr):Prop:=H e=À (UT C e)∨∃a b,H e=À (YR C e a)/\H a=À (.xd b)
def Uy.inst (x:Uy H e C)(I:Inv X f j H s):∃ox od,InstAt s.heap e ox C od:=by
 rcases x with x|⟨h,i,x,g⟩
 ·obtain⟨⟨ox,a,b,c,d⟩,_⟩:=I.Ů _ _ x;exact⟨ox,none,a,b,c,by rw[d];trivial⟩
 ·obtain⟨⟨ox,a,b,c,d⟩,_⟩:=I.Ů _ _ x;obtain⟨mA,⟨od,_,_,q,_⟩,_⟩:=I.Ů _ _ g;exact⟨ox,À od,a,b,c,by rw[d];exact q⟩
def WI (K:Ç):Â V->Hp->VK->Prop:=λxs H Q=>∃e C v c b,xs=[.ref e,v]/\(match v with|.ty n=>c=gK n|.ref a=>c=Ð a|_=>False)/\Uy H e C/\Ka K C/\Rv K (.ref C) c=À b/\Q (.bl b) H
def GC:cQ X (.builtin "isinstance") (WI X.K):=by
 rintro h s t H xs us Q I rv ⟨e,C,v,c,b,rfl,d,k,g,l,q⟩;obtain⟨o,m,J⟩:=k.inst I;cases rv with
 |cons p rv=>
  cases rv with
  |cons i rv=>
   cases rv;cases (show _=Ð e from p);rename_i f;have j:f=c:=by
    cases v with
    |ty n=>exact(show f=gK n from i).trans d.symm
    |ref a=>exact(show f=Ð a from i).trans d.symm
    |_=>exact d.elim
   subst j;exact ı (zX g) I.kG ⟨o,m,J⟩ l (λz=>nomatch z) λr=>⟨.bl b,H,I.tok _,rfl,q⟩
end L2
namespace L2
open PySem PySem.Spec PyProof.Rows
theorem kK:∀{a:Â Str}{us:Â Value},StrsAre us a->Vals (a.map V.str) us
 |_,_,.nil=>.nil
 |_,_,.cons x t h=>.cons ⟨t,rfl⟩ (kK h)
end L2
namespace Mm
open PySem L2
inductive AV where
 |Ě|bl (b:Bool)|int (i:Int)|str (x:Str)|tup (xs:Â AV)|ref (i:Nat)|sq (xs:Â AV)
inductive AO where
 |lst (xs:Â AV)|dK (kvs:Â (Key×AV))|dT (kvs:Â (Â Key×AV))|ins (C:Nat) (fs:Â (Str×AV))|exc (C:Nat)|tab (i:Nat) (q:Str)|G_ (kvs:Â (Â Key×AV))
abbrev S:=Â AO
abbrev En:=Â (É AV)
structure AX where
 cls:Nat
 fs:Â (Str×AV)
inductive R (α:Type) where
 |ok (a:α) (s:S)|ex (c:AX) (s:S)|bad
def R.bind {α b:Type}:R α->(α->S->R b)->R b
 |.ok a s,f=>f a s
 |.ex c s,_=>.ex c s
 |.bad,_=>.bad
inductive RS where
 |nx (e:En) (s:S)|rt (v:AV) (s:S)|bk (e:En) (s:S)|ct (e:En) (s:S)|ex (c:AX) (s:S)|bad
@[simp] theorem â (a:α) (s:S) (f:α->S->R b):(R.ok a s).bind f=f a s:=rfl
@[simp] theorem oC (f:α->S->R a):(R.bad:R α).bind f=.bad:=rfl
structure Tx where
 K:Ç
 cl:Nat->Addr
def JO (K:Ç)(H:Hp)(a:Addr)(xs:Â V):Prop:=
 (∃o,H a=À (.hY o (.lst xs)))∨∃o b n,K.lookup a=À o/\o.cls=.type "list"/\o.dict=none/\o.data=.seq b n/\b.size<=sizeLine/\Vals xs b.toList
def JO.FK (h:JO K H a xs):gM K H a xs:=by
 rcases h with h|h
 ·exact .inl (.inr h)
 ·exact .inr h
mutual
def VR (T:Tx)(ρ:Â Addr)(H:Hp):AV->V->Prop
 |.Ě,x=>x=.Ě
 |.bl b,x=>x=.bl b
 |.int i,x=>x=.int i
 |.str z,x=>x=.str z
 |.tup xs,x=>∃a c,x=.ref a/\gp T.K H a c/\Ĭ T ρ H xs c
 |.ref i,x=>∃a,ρ[i]?=À a/\x=.ref a
 |.sq xs,x=>∃a c,x=.ref a/\JO T.K H a c/\Ĭ T ρ H xs c
def Ĭ (T:Tx)(ρ:Â Addr)(H:Hp):Â AV->Â V->Prop
 |[],a=>a=[]
 |v::r,a=>∃x b,a=x::b/\VR T ρ H v x/\Ĭ T ρ H r b
end
structure Gr (ρ:Â Addr)(H:Hp)(n9:Â Addr)(H':Hp):Prop where
 pre:ρ <+:n9
 jR:∀b xs,H b=À (.tup xs)->H' b=À (.tup xs)
 iI:∀b o u,H b=À (.hY o u)->H' b=À (.hY o u)
structure Up (ρ:Â Addr)(H:Hp)(n9:Â Addr)(H':Hp):Prop extends Gr ρ H n9 H' where
 fr:∀b o,H b=À o->b∉ρ->H' b=À o/\b∉n9
 live:∀b,H' b=none->H b=none
def Up.refl:Up ρ H ρ H:=⟨⟨aW,λ_ _ h=>h,λ_ _ _ h=>h⟩,λ_ _ h n=>⟨h,n⟩,λ_ h=>h⟩
theorem Up.trans (a:Up ρ H d A)(b:Up d A e B):Up ρ H e B:=
 ⟨⟨a.pre.trans b.pre,λc xs h=>b.jR c xs (a.jR c xs h),λc o u h=>b.iI c o u (a.iI c o u h)⟩,λc o h n=>let ⟨f,g⟩:=a.fr c o h n;b.fr c o f g,λc h=>a.live c (b.live c h)⟩
def Up.add (a:Up ρ H c A)(h:H p=none):Up ρ H (c++[p]) A:=
 ⟨⟨a.pre.trans (fB _ _),a.jR,a.iI⟩,λb o e n=>⟨(a.fr b o e n).1,λz=>by
  rcases aU.mp z with z|z
  ·exact(a.fr b o e n).2 z
  ·rw[Ġ.mp z,h]at e;cases e⟩,a.live⟩
def ya {α:Type}{ρ b:Â α}(h:ρ <+:b){i:Nat}{a:α}(e:ρ[i]?=À a):b[i]?=À a:=by
 obtain⟨t,rfl⟩:=h;rw[Ü]
 ·exact e
 ·exact(Æ.mp e).1
def Gr.Qz (u:Gr ρ H b H')(h:gp K H a vs):gp K H' a vs:=by
 rcases h with(h|⟨o,h⟩)|h
 ·exact .inl (.inl (u.jR _ _ h))
 ·exact .inl (.inr ⟨o,u.iI _ _ _ h⟩)
 ·exact .inr h
def Gr.Tw (u:Gr ρ H b H')(h:JO K H a vs):JO K H' a vs:=by
 rcases h with⟨o,h⟩|h
 ·exact .inl ⟨o,u.iI _ _ _ h⟩
 ·exact .inr h
structure Gs (ρ:Â Addr)(H:Hp)(n9:Â Addr)(H':Hp):Prop where
 pre:ρ <+:n9
 Qz:∀{K a vs},gp K H a vs->gp K H' a vs
 Tw:∀{K a vs},JO K H a vs->JO K H' a vs
def Gr.gs (u:Gr ρ H a H'):Gs ρ H a H':=⟨u.pre,u.Qz,u.Tw⟩
section
variable {T:Tx}{ρ n9:Â Addr}{H H':Hp}
mutual
theorem VR.gs (u:Gs ρ H n9 H'):∀{v:AV}{x:V},VR T ρ H v x->VR T n9 H' v x
 |.Ě,_,h=>h
 |.bl _,_,h=>h
 |.int _,_,h=>h
 |.str _,_,h=>h
 |.ref _,_,h=>by
  unfold VR at *
  obtain⟨a,h,e⟩:=h;exact⟨a,ya u.pre h,e⟩
 |.tup _,_,h=>by
  unfold VR at *
  obtain⟨a,d,e,b,c⟩:=h;exact⟨a,d,e,u.Qz b,Ĭ.gs u c⟩
 |.sq _,_,h=>by
  unfold VR at *
  obtain⟨a,d,e,b,c⟩:=h;exact⟨a,d,e,u.Tw b,Ĭ.gs u c⟩
theorem Ĭ.gs (u:Gs ρ H n9 H'):∀{l:Â AV}{xs:Â V},Ĭ T ρ H l xs->Ĭ T n9 H' l xs
 |[],_,h=>h
 |_::_,_,h=>by
  unfold Ĭ at *
  obtain⟨x,c,e,a,b⟩:=h;exact⟨x,c,e,VR.gs u a,Ĭ.gs u b⟩
end
def VR.gr (u:Gr ρ H n9 H')(h:VR T ρ H v x):VR T n9 H' v x:=h.gs u.gs
def Ĭ.gr (u:Gr ρ H n9 H')(h:Ĭ T ρ H v x):Ĭ T n9 H' v x:=h.gs u.gs
def VR.up (u:Up ρ H n9 H')(h:VR T ρ H v x):VR T n9 H' v x:=h.gr u.toGr
def Ĭ.up (u:Up ρ H n9 H')(h:Ĭ T ρ H v x):Ĭ T n9 H' v x:=h.gr u.toGr
theorem Ĭ.length:∀{l:Â AV}{xs:Â V},Ĭ T ρ H l xs->l.length=xs.length
 |[],_,h=>by unfold Ĭ at h;subst h;rfl
 |_::_,_,h=>by
  unfold Ĭ at h;obtain⟨x,b,rfl,_,a⟩:=h;simp[Ĭ.length a]
def Ĭ.nil:Ĭ T ρ H [] []:=by unfold Ĭ;rfl
def Ĭ.cons {v:AV}{x:V}{l:Â AV}{xs:Â V}(h:VR T ρ H v x)(k:Ĭ T ρ H l xs):Ĭ T ρ H (v::l) (x::xs):=by
 unfold Ĭ;exact⟨x,xs,rfl,h,k⟩
def Ĭ.nil_inv (h:Ĭ T ρ H [] xs):xs=[]:=by unfold Ĭ at h;exact h
def Ĭ.cons_inv (h:Ĭ T ρ H (v::l) xs):∃x ys,xs=x::ys/\VR T ρ H v x/\Ĭ T ρ H l ys:=by unfold Ĭ at h;exact h
theorem Ĭ.get:∀{l:Â AV}{xs:Â V}{i:Nat}{v:AV},Ĭ T ρ H l xs->l[i]?=À v->∃x,xs[i]?=À x/\VR T ρ H v x
 |[],_,_,_,_,e=>by simp at e
 |_::_,_,0,_,h,e=>by
  obtain⟨x,c,rfl,a,_⟩:=h.cons_inv;simp at e;subst e;exact⟨x,rfl,a⟩
 |_::_,_,i+1,_,h,e=>by
  obtain⟨x,c,rfl,_,b⟩:=h.cons_inv;exact Ĭ.get (i:=i) b (by simpa using e)
theorem Ĭ.append:∀{l q:Â AV}{xs ys:Â V},Ĭ T ρ H l xs->Ĭ T ρ H q ys->Ĭ T ρ H (l++q) (xs++ys)
 |[],_,_,_,h,k=>by cases h.nil_inv;exact k
 |_::_,_,_,_,h,k=>by
  obtain⟨x,c,rfl,a,b⟩:=h.cons_inv;exact .cons a (Ĭ.append b k)
def Ĭ.one (h:VR T ρ H v x):Ĭ T ρ H [v] [x]:=.cons h .nil
theorem Ĭ.set:∀{l:Â AV}{xs:Â V}{v:AV}{x:V}(i:Nat),Ĭ T ρ H l xs->VR T ρ H v x->Ĭ T ρ H (l.set i v) (xs.set i x)
 |[],_,_,_,_,h,_=>by cases h.nil_inv;exact .nil
 |_::_,_,_,_,0,h,k=>by
  obtain⟨x,c,rfl,b,a⟩:=h.cons_inv;exact .cons k a
 |_::_,_,_,_,i+1,h,k=>by
  obtain⟨x,c,rfl,b,a⟩:=h.cons_inv;exact .cons b (Ĭ.set i a k)
theorem Ĭ.drop:∀{l:Â AV}{xs:Â V}(n:Nat),Ĭ T ρ H l xs->Ĭ T ρ H (l.drop n) (xs.drop n)
 |_,_,0,h=>h
 |[],_,_+1,h=>by cases h.nil_inv;exact .nil
 |_::_,_,n+1,h=>by
  obtain⟨x,c,rfl,b,a⟩:=h.cons_inv;exact Ĭ.drop n a
theorem Ĭ.take:∀{l:Â AV}{xs:Â V}(n:Nat),Ĭ T ρ H l xs->Ĭ T ρ H (l.take n) (xs.take n)
 |_,_,0,h=>.nil
 |[],_,_+1,h=>by cases h.nil_inv;exact .nil
 |_::_,_,n+1,h=>by
  obtain⟨x,c,rfl,a,b⟩:=h.cons_inv;exact .cons a (Ĭ.take n b)
theorem Ĭ.map {α:Type}{f:α->AV}{g:α->V}(h:∀a,VR T ρ H (f a) (g a)):∀(l:Â α),Ĭ T ρ H (l.map f) (l.map g)
 |[]=>.nil
 |a::r=>.cons (h a) (Ĭ.map h r)
theorem Ĭ.zU:∀{ns:Â Int}{xs:Â V},Ĭ T ρ H (ns.map AV.int) xs->xs=ns.map V.int
 |[],_,h=>h.nil_inv
 |_::_,_,h=>by
  obtain⟨x,c,rfl,a,b⟩:=h.cons_inv;unfold VR at a;rw[a,Ĭ.zU b];rfl
theorem Ĭ.CT:∀{ns:Â Bool}{xs:Â V},Ĭ T ρ H (ns.map AV.bl) xs->xs=ns.map V.bl
 |[],_,h=>h.nil_inv
 |_::_,_,h=>by
  obtain⟨x,c,rfl,a,b⟩:=h.cons_inv;unfold VR at a;rw[a,Ĭ.CT b];rfl
def bJ:VR T ρ H (.int i) (.int i):=by unfold VR;rfl
def eU:VR T ρ H (.bl i) (.bl i):=by unfold VR;rfl
def jo:VR T ρ H (.str i) (.str i):=by unfold VR;rfl
def uK:VR T ρ H .Ě .Ě:=by unfold VR;rfl
def n7 (h:ρ[i]?=À a):VR T ρ H (.ref i) (.ref a):=by unfold VR;exact⟨a,h,rfl⟩
def kB (h:gp T.K H a vs)(k:Ĭ T ρ H xs vs):VR T ρ H (.tup xs) (.ref a):=by unfold VR;exact⟨a,vs,rfl,h,k⟩
def VR.cx (h:VR T ρ H (.tup xs) x):∃a vs,x=.ref a/\gp T.K H a vs/\Ĭ T ρ H xs vs:=by unfold VR at h;exact h
def VR.fx (h:VR T ρ H (.ref i) x):∃a,ρ[i]?=À a/\x=.ref a:=by unfold VR at h;exact h
def VR.hJ (h:VR T ρ H (.sq xs) x):∃a vs,x=.ref a/\JO T.K H a vs/\Ĭ T ρ H xs vs:=by unfold VR at h;exact h
def VR.int_inv (h:VR T ρ H (.int i) x):x=.int i:=by unfold VR at h;exact h
def VR.iD (h:VR T ρ H (.bl i) x):x=.bl i:=by unfold VR at h;exact h
def VR.str_inv (h:VR T ρ H (.str i) x):x=.str i:=by unfold VR at h;exact h
def VR.il (h:VR T ρ H .Ě x):x=.Ě:=by unfold VR at h;exact h
def vE (H:Hp)(q:Str)(ps:Č Value):Prop:=Vi ps.toList/\∀pos a,y4 pos ps.toList=À a->∃c b u d t,a=.ref c/\H c=À (.hY b u)/\b.data=.fields d/\d[1]?=À (.str q t)
def OR (T:Tx)(ρ:Â Addr)(H:Hp):AO->Addr->Prop
 |.lst xs,a=>∃f,H a=À (.lst f)/\Ĭ T ρ H xs f
 |.dK b,a=>∃c:Â (Key×V),H a=À (.dK c)/\b.map (·.1)=c.map (·.1)/\Ĭ T ρ H (b.map (·.2)) (c.map (·.2))
 |.dT b,a=>∃c:Â (Â Key×V),H a=À (.dT c)/\b.map (·.1)=c.map (·.1)/\Ĭ T ρ H (b.map (·.2)) (c.map (·.2))
 |.ins C d,a=>∃g c,H a=À (.ins (T.cl C) g c)/\d.map (·.1)=c.map (·.1)/\Ĭ T ρ H (d.map (·.2)) (c.map (·.2))
 |.exc C,a=>H a=À (UT (T.cl C) a)
 |.tab i q,a=>a=T.cl i/\∃e,H a=À (.pH e)/\vE H q e
 |.G_ b,a=>∃o j h c,H a=À (.hY o (.dT c))/\o.data=.dict j h/\b.map (·.1)=c.map (·.1)/\Ĭ T ρ H (b.map (·.2)) (c.map (·.2))
def OR.ex (h:OR T ρ H o a):∃u,H a=À u:=by
 cases o with
 |lst xs=>obtain⟨_,h,_⟩:=h;exact⟨_,h⟩
 |dK xs=>obtain⟨_,h,_⟩:=h;exact⟨_,h⟩
 |dT xs=>obtain⟨_,h,_⟩:=h;exact⟨_,h⟩
 |ins C xs=>obtain⟨_,_,h,_⟩:=h;exact⟨_,h⟩
 |exc C=>exact⟨_,h⟩
 |tab i q=>obtain⟨_,_,h,_⟩:=h;exact⟨_,h⟩
 |G_ xs=>obtain⟨_,_,_,_,h,_⟩:=h;exact⟨_,h⟩
theorem OR.gs (u:Gs ρ H n9 H')(tb:∀c b w vs,H c=À (.hY b w)->b.data=.fields vs->H' c=À (.hY b w)) (e:H' a=H a)(h:OR T ρ H o a):OR T n9 H' o a:=by
 cases o with
 |lst xs=>obtain⟨vs,h,k⟩:=h;exact⟨vs,e.trans h,k.gs u⟩
 |dK xs=>obtain⟨vs,h,q,k⟩:=h;exact⟨vs,e.trans h,q,k.gs u⟩
 |dT xs=>obtain⟨vs,h,q,k⟩:=h;exact⟨vs,e.trans h,q,k.gs u⟩
 |ins C xs=>obtain⟨j,vs,h,q,k⟩:=h;exact⟨j,vs,e.trans h,q,k.gs u⟩
 |exc C=>exact e.trans h
 |tab i q=>
  obtain⟨n,A,p,r,s⟩:=h;exact⟨n,A,e.trans p,r,λpos g z=>let ⟨c,b,w,vs,t,v,x,f,y⟩:=s pos g z;⟨c,b,w,vs,t,v,tb _ _ _ _ x f,f,y⟩⟩
 |G_ xs=>obtain⟨o,m,l,vs,h,d,q,k⟩:=h;exact⟨o,m,l,vs,e.trans h,d,q,k.gs u⟩
def OR.up (u:Gr ρ H n9 H')(e:H' a=H a)(h:OR T ρ H o a):OR T n9 H' o a:=h.gs u.gs (λ_ _ _ _ k _=>u.iI _ _ _ k) e
end
structure SR (T:Tx)(ρ:Â Addr)(s:S)(H:Hp):Prop where
 nd:ρ.Nodup
 len:ρ.length=s.length
 obj:∀(i:Nat) (o:AO),s[i]?=À o->∃a,ρ[i]?=À a/\OR T ρ H o a
section
variable {T:Tx}{ρ n9:Â Addr}{s:S}{H H':Hp}
def SR.in (h:SR T ρ s H)(g:a∈ρ):∃u,H a=À u:=by
 obtain⟨i,f,e⟩:=af g;have c:i<s.length:=by rw[<-h.len];exact f
 obtain⟨b,d,q⟩:=h.obj i s[i] (Å c);rw[Å f]at d;cases d;rw[e]at q;exact q.ex
def SR.out (h:SR T ρ s H)(b:H a=none):a∉ρ:=λz=>by
 obtain⟨u,e⟩:=h.in z;rw[b]at e;cases e
def SR.eT (h:SR T ρ s H)(a:H p=none):Up ρ H ρ (upd H p o):=
 ⟨⟨aW,λb xs e=>by rw[ä (ń e a)];exact e,λb o u e=>by rw[ä (ń e a)];exact e⟩,λb u e n=>⟨by rw[ä (ń e a)];exact e,n⟩,λb e=>by
  by_cases c:b=p
  ·rw[c];exact a
  ·rw[ä c]at e;exact e⟩
theorem SR.up (h:SR T ρ s H)(u:Gr ρ H ρ H')(k:∀a∈ρ,H' a=H a):SR T ρ s H':=
 ⟨h.nd,h.len,λi o e=>by
  obtain⟨a,b,q⟩:=h.obj i o e;exact⟨a,b,q.up u (k a (Ā b))⟩⟩
def SR.new (h:SR T ρ s H)(b:H p=none):SR T ρ s (upd H p o):=
 h.up (h.eT b).toGr λa c=>ä λe=>h.out b (e▸c)
def SR.add (h:SR T ρ s H)(l:p∉ρ)(k:OR T (ρ++[p]) H o p):SR T (ρ++[p]) (s++[o]) H:=by
 refine⟨de.mpr ⟨h.nd,by simp,λa g b j e=>l (by rw[Ġ.mp j]at e;exact e▸g)⟩,by simp[h.len],λi q e=>?_⟩;by_cases c:i<s.length
 ·rw[Ü c]at e;obtain⟨a,f,m⟩:=h.obj i q e;refine⟨a,by rw[Ü (by rw[h.len];exact c)];exact f,?_⟩;exact m.up ⟨fB _ _,λ_ _ e=>e,λ_ _ _ e=>e⟩ rfl
 ·rw[ñ (by lia)]at e;have d:i-s.length=0:=by
   have:=(Æ.mp e).1;simp at this;lia
  rw[d]at e;cases e;exact⟨p,by rw[ñ (by rw[h.len];lia),h.len,d];rfl,k⟩
end
structure Rl (α β:Type) where
 r:Hp->Â Addr->Hp->α->β->Prop
 Vu:∀{H H1:Hp}{ρ:Â Addr}{H':Hp}{v:α}{x:β},(∀b,H1 b=none->H b=none)->r H1 ρ H' v x->r H ρ H' v x
abbrev gO:=AX->Â Addr->S->Hp->Prop
def Out {α b:Type}(T:Tx)(XE:gO)(d:Rl α b)(ρ:Â Addr)(H:Hp):R α->(b->Hp->Prop)->Prop
 |.ok v s,Q=>∀a A x,Up ρ H a A->SR T a s A->d.r H a A v x->Q x A
 |.ex c s,_=>∀a A,Up ρ H a A->SR T a s A->XE c a s A
 |.bad,_=>False
def Out.up (u:Up ρ H e H')(h:Out T XE f ρ H r Q):Out T XE f e H' r Q:=by
 cases r with
 |ok v s=>exact λa A x d b g=>h a A x (u.trans d) b (f.Vu u.live g)
 |ex c s=>exact λa A d b=>h a A (u.trans d) b
 |bad=>exact h
def Out.imp (h:Out T XE b ρ H r Q)(k:∀x H',Q x H'->B x H'):Out T XE b ρ H r B:=by
 cases r with
 |ok v s=>exact λa A x e d f=>k _ _ (h a A x e d f)
 |ex c s=>exact h
 |bad=>exact h
structure ER (T:Tx)(ρ:Â Addr)(H:Hp)(env:En)(σ:St):Prop where
 len:env.length=σ.length
 get:∀(i:Nat) (v:AV),env[i]?=À (À v)->∃x,σ[i]?=À (À x)/\VR T ρ H v x
theorem ER.up (u:Up ρ H a H')(h:ER T ρ H env c):ER T a H' env c:=
 ⟨h.len,λi v e=>let ⟨x,b,q⟩:=h.get i v e;⟨x,b,q.up u⟩⟩
theorem ER.set (h:ER T ρ H env b)(k:VR T ρ H v x):ER T ρ H (env.set i (À v)) (b.set i (À x)):=by
 refine⟨by simp[h.len],λj w e=>?_⟩;by_cases a:i=j
 ·subst a;have hl:i<env.length:=by
   have:=(Æ.mp e).1;simpa using this
  rw[Ć hl]at e;cases e;exact⟨x,by rw[Ć (by rw[<-h.len];exact hl)],k⟩
 ·rw[ì a]at e⊢;exact h.get j w e
def tG {α c:Type}(T:Tx)(XE:gO)(d:Rl α c)(m:En->S->R α):St->Hp->(c->Hp->Prop)->Prop:=λe H Q=>
 ∃b a s,SR T b s H/\ER T b H a e/\Out T XE d b H (m a s) Q
def step {g:Rl α l} 
  (hs:SR T ρ s H) (f:ER T ρ H env h) (b:Out T XE d ρ H ((m env s).bind k) Q)
  (hk:∀v s1 a A x,m env s=.ok v s1->Up ρ H a A->SR T a s1 A->ER T a A env h->g.r H a A v x->Out T XE d a A (k v s1) Q->F x A):tG T XE g m h H F:=by
 refine⟨ρ,env,s,hs,f,?_⟩;cases e:m env s with
 |ok v s1=>
  rw[e]at b;exact λa A x u i j=>hk v s1 a A x e u i (f.up u) j (Out.up u b)
 |ex c s1=>rw[e]at b;exact b
 |bad=>rw[e]at b;exact b
def Out.here (h:Out T XE a ρ H (.ok v s) Q) (b:SR T ρ s H)(r:a.r H ρ H v x):Q x H:=h ρ H x .refl b r
def ś {α b:Type}{T:Tx}{XE:gO}{a:Rl α b}{m:En->S->R α}{c:St}{H:Hp}{Q:b->Hp->Prop}{P:Prop}(h:tG T XE a m c H Q)(k:∀ρ env s,SR T ρ s H->ER T ρ H env c->Out T XE a ρ H (m env s) Q->P):P:=by
 obtain⟨ρ,env,s,f,d,e⟩:=h;exact k ρ env s f d e
def PE.imp (h:PE X e t)(k:∀b H Q,t' b H Q->t b H Q):PE X e t':=λa s b H Q I c=>h a s b H Q I (k b H Q c)
def PT.imp (h:PT X e t)(k:∀b H Q,t' b H Q->t b H Q):PT X e t':=λa s b H Q I c=>h a s b H Q I (k b H Q c)
def PW.imp (h:PW X e t)(k:∀b H Q,t' b H Q->t b H Q):PW X e t':=λd a s b H Q I c=>h d a s b H Q I (k b H Q c)
def PA.imp (h:PA X e t)(k:∀b H Q,t' b H Q->t b H Q):PA X e t':=λpos a s b H Q I c=>h pos a s b H Q I (k b H Q c)
def PS.imp (h:PS X e t)(k:∀D b H,t' D b H->t D b H):PS X e t':=λa s b H Q I c=>h a s b H Q I (k Q b H c)
def lH.imp (h:lH X e t)(k:∀D b H,t' D b H->t D b H):lH X e t':=λa s b H Q I c=>h a s b H Q I (k Q b H c)
def PI.imp (h:PI X d e t)(k:∀b H R,t' b H R->t b H R):PI X d e t':=λa s b H Q I c=>h a s b H Q I (k b H Q c)
def PG.imp (h:PG X e t)(k:∀v b H Q,t' v b H Q->t v b H Q):PG X e t':=λa s b H v u Q I r c=>h a s b H v u Q I r (k v b H Q c)
def CM.imp (h:CM X e t)(k:∀v b H Q,t' v b H Q->t v b H Q):CM X e t':=λa s b H v u Q I r c=>h a s b H v u Q I r (k v b H Q c)
abbrev Ev:=En->S->R AV
abbrev gL:=En->S->R (Â AV)
abbrev Eb:=En->S->R Bool
structure JM (i:Int):Prop where
 f:eZ 60000000 i
structure Q5 (i:Int):Prop where
 f:eZ 9000 i
instance {i:Int}:a8 (JM i):=jv _
instance {i:Int}:a8 (Q5 i):=jv _
def rV (T:Tx):Rl AV V:=⟨λ_ a H v x=>VR T a H v x,λ_ h=>h⟩
def rA (T:Tx):Rl (Â AV) (Â V):=⟨λ_ a H v x=>Ĭ T a H v x,λ_ h=>h⟩
def rB:Rl Bool Bool:=⟨λ_ _ _ b c=>b=c,λ_ h=>h⟩
def rL (T:Tx):Rl (Â AV) V:=⟨λvf c H xs x=>∃a b,x=.ref a/\vf a=none/\a∉c/\H a=À (.lst b)/\Ĭ T c H xs b,λk ⟨a,b,e,h,r⟩=>⟨a,b,e,k a h,r⟩⟩
def rQ (T:Tx):Rl (Â AV) V:=⟨λ_ c H xs x=>∃a b,x=.ref a/\(gM T.K H a b∨gp T.K H a b)/\Ĭ T c H xs b,λ_ h=>h⟩
def Out.Ł (h:Out T XE (rV T) ρ H (.ok v s) Q) (a:SR T ρ s H)(r:VR T ρ H v x):Q x H:=h ρ H x .refl a r
abbrev tE (T:Tx)(XE:gO)(m:Ev):TE:=tG T XE (rV T) m
abbrev tL (T:Tx)(XE:gO)(m:gL):TE:=tG T XE (rL T) m
abbrev tQ (T:Tx)(XE:gO)(m:gL):TE:=tG T XE (rQ T) m
abbrev tP (T:Tx)(XE:gO)(m:gL):TA:=tG T XE (rA T) m
abbrev jV (T:Tx)(XE:gO)(m:Eb):TT:=tG T XE rB m
section
variable {T:Tx}{XE:gO}{X:Cx}{pos:jA}
def mv (i:Nat):Ev:=λa s=>match a[i]? with
 |some (À v)=>.ok v s
 |_=>.bad
def Wd (h:PE X e (QM i)):PE X e (tE T XE (mv i)):=PE.imp h λl H Q j=>ś j λk c s g f a=>by
 unfold mv at a;split at a
 ·rename_i v d;obtain⟨x,b,q⟩:=f.get i v d;exact⟨x,b,a.Ł g q⟩
 ·exact a.elim
def mc (v:AV):Ev:=λ_ s=>.ok v s
def OX:PE X (.Constant (.int i) j pos) (tE T XE (mc (.int i))):=PE.imp PZ λg H Q d=>ś d λf a s c e b=>b.Ł c bJ
def SD:PE X (.Constant (.bool i) j pos) (tE T XE (mc (.bl i))):=PE.imp S9 λg H Q d=>ś d λf a s c e b=>b.Ł c eU
def O3:PE X (.Constant .none j pos) (tE T XE (mc .Ě)):=PE.imp P1 λg H Q d=>ś d λf a s c e b=>b.Ł c uK
def O5:PE X (.Constant (.str i) j pos) (tE T XE (mc (.str i))):=PE.imp P4 λg H Q d=>ś d λf a s c e b=>b.Ł c jo
def K_ (c:Gl X x)(d:X.mg x=À u)(r:RelV v u)(g:∀ρ H,VR T ρ H a v)(hd:(x == ("__debug__":Str))=false:=by decide):PE X (.Name x pos) (tE T XE (mc a)):=
 PE.imp (x_ c d r hd) λj H Q h=>ś h λρ b s f i e=>e.Ł f (g ρ H)
def yg (T:Tx)(XE:gO)(op:AV->AV->S->R AV):R2:=λx y H Q=>∃a v w s,SR T a s H/\VR T a H v x/\VR T a H w y/\Out T XE (rV T) a H (op v w s) Q
def WC (T:Tx)(XE:gO)(op:AV->S->R AV):V->Hp->VK->Prop:=λx H Q=>∃a v s,SR T a s H/\VR T a H v x/\Out T XE (rV T) a H (op v s) Q
def Ó (op:AV->AV->S->R AV)(a b:Ev):Ev:=λc s=>(a c s).bind λv d=>(b c d).bind λw e=>op v w e
def aI (op:AV->S->R AV)(a:Ev):Ev:=λb s=>(a b s).bind λv c=>op v c
def t2 (h:tE T XE (Ó op a b) u H Q):TU (yg T XE op) (tE T XE a) (tE T XE b) u H Q:=by
 obtain⟨D,l,s,p,n,o⟩:=h;exact step p n o λv z t A x _ C f c i d=>step f c d λw q k B y _ r g m j e=>⟨k,v,w,q,g,VR.up r i,j,e⟩
def t1 (h:tE T XE (aI op a) m H Q):YN (WC T XE op) (tE T XE a) m H Q:=by
 obtain⟨o,f,s,k,i,j⟩:=h;exact step k i j λv l e A x _ n c g d b=>⟨e,v,l,c,d,b⟩
def ql (c:ju X (aY o) (yg T XE op)) (d:PE X a (tE T XE f)) (e:PE X b (tE T XE g)):PE X (.BinOp a o b pos) (tE T XE (Ó op f g)):=
 PE.imp (Ta c d e) λ_ _ _ h=>t2 h
def SK (b:RG X (Uo o) (WC T XE op)) (c:PE X a (tE T XE d)):PE X (.UnaryOp o a pos) (tE T XE (aI op d)):=
 PE.imp (Tc b c) λ_ _ _ h=>t1 h
def nY (c:ju X (ņ o) (yg T XE op)) (d:PE X a (tE T XE g)) (e:PE X b (tE T XE i)) (f:ao o b=false:=by rfl):PE X (.Compare a [o] [b] pos) (tE T XE (Ó op g i)):=
 PE.imp (LJ c d e f) λ_ _ _ h=>t2 h
def SH (c:Q4 X (yg T XE op)) (d:PE X a (tE T XE f)) (e:PE X b (tE T XE g)) (hs:CN b:=by exact λ_ _=>rfl):PE X (.Subscript a b pos) (tE T XE (Ó op f g)):=
 PE.imp (S' c d e hs) λ_ _ _ h=>t2 h
def Out.alloc (h:Out T XE (rV T) ρ H (.ok (.ref s.length) (s++[o])) Q) (a:SR T ρ s H)(b:H p=none)(k:OR T (ρ++[p]) (upd H p u) o p):Q (.ref p) (upd H p u):=by
 have c:SR T (ρ++[p]) (s++[o]) (upd H p u):=(a.new b).add (a.out b) k;exact h _ _ _ ((a.eT b).add b) c (n7 (T:=T) (H:=upd H p u) (by rw[ñ (by rw[a.len];exact Í _),a.len,sN];rfl))
theorem Out.tup {ρ:Â Addr}{H:Hp}{s:S}{xs:Â AV}{vs:Â V}{p:Addr}{Q:VK}(h:Out T XE (rV T) ρ H (.ok (.tup xs) s) Q) (b:SR T ρ s H)(a:H p=none)(k:Ĭ T ρ H xs vs):Q (.ref p) (upd H p (.tup vs)):=
 h _ _ _ (b.eT a) (b.new a) (kB (gp.of ă) (Ĭ.up (b.eT a) k))
theorem Out.lst {ρ:Â Addr}{H:Hp}{s:S}{xs:Â AV}{vs:Â V}{p:Addr}{Q:VK}(h:Out T XE (rL T) ρ H (.ok xs s) Q) (b:SR T ρ s H)(a:H p=none)(k:Ĭ T ρ H xs vs):Q (.ref p) (upd H p (.lst vs)):=
 h _ _ _ (b.eT a) (b.new a) ⟨p,vs,rfl,a,b.out a,ă,Ĭ.up (b.eT a) k⟩
def SR.eR (j:SR T ρ s H)(e:s[i]?=À (.lst xs)) (h:VR T ρ H (.ref i) x):∃a vs,x=.ref a/\ρ[i]?=À a/\H a=À (.lst vs)/\Ĭ T ρ H xs vs:=by
 obtain⟨a,c,vs,f,g⟩:=j.obj i _ e;obtain⟨b,d,rfl⟩:=h.fx;rw[c]at d;cases d;exact⟨a,vs,rfl,c,f,g⟩
def SR.Ez (j:SR T ρ s H)(e:s[i]?=À (.dK xs)) (h:VR T ρ H (.ref i) x):∃a vs,x=.ref a/\ρ[i]?=À a/\H a=À (.dK vs)/\xs.map (·.1)=vs.map (·.1)/\Ĭ T ρ H (xs.map (·.2)) (vs.map (·.2)):=by
 obtain⟨a,c,vs,f,g⟩:=j.obj i _ e;obtain⟨b,d,rfl⟩:=h.fx;rw[c]at d;cases d;exact⟨a,vs,rfl,c,f,g⟩
def SR.uJ {ρ:Â Addr}{s:S}(j:SR T ρ s H){i:Nat}(e:ρ[i]?=À a){u c:HO}(h0:H a=À c)(f:∀xs,c≠.tup xs)(g:∀o v,c≠.hY o v):Up ρ H ρ (upd H a u):=by
 refine⟨⟨aW,λb xs h=>?_,λb o v h=>?_⟩,λb o h n=>⟨?_,n⟩,λb h=>?_⟩
 ·rw[ä (ug h h0 λz=>f xs z.symm)];exact h
 ·rw[ä (ug h h0 λz=>g o v z.symm)];exact h
 ·rw[ä λz=>n (by rw[z];exact Ā e)];exact h
 ·by_cases d:b=a
  ·subst d;rw[ă]at h;cases h
  ·rw[ä d]at h;exact h
theorem SR.set (f:SR T ρ s H)(e:ρ[i]?=À a)(n:Up ρ H ρ (upd H a u)) (k:OR T ρ (upd H a u) o a):SR T ρ (s.set i o) (upd H a u):=by
 refine⟨f.nd,by simp[f.len],λj q d=>?_⟩;by_cases c:i=j
 ·subst c;have hl:i<s.length:=by have:=(Æ.mp d).1;simpa using this
  rw[Ć hl]at d;cases d;exact⟨a,e,k⟩
 ·rw[ì c]at d;obtain⟨b,g,m⟩:=f.obj j q d;refine⟨b,g,m.up n.toGr (ä λz=>c ?_)⟩;subst z;have h:=(Æ.mp e)
  have l:=(Æ.mp g)
  exact(ee f.nd).mp (h.2.trans l.2.symm)
def Out.ū {α d:Type}{b:Rl α d}{ρ:Â Addr}{c:Prop}{_:a8 c}{r:R α}{Q:d->Hp->Prop}(h:Out T XE b ρ H (if c then r else .bad) Q):c/\Out T XE b ρ H r Q:=by
 by_cases a:c
 ·rw[Ì a]at h;exact⟨a,h⟩
 ·rw[Ö a]at h;exact h.elim
def need {α a:Type}(o:É a)(f:a->R α):R α:=match o with
 |some x=>f x
 |none=>.bad
@[simp] theorem õ (x:a) (f:a->R α):need (À x) f=f x:=rfl
def Out.ü (h:Out T XE a ρ H (need o f) Q):∃x,o=À x/\Out T XE a ρ H (f x) Q:=by
 cases o with
 |none=>exact h.elim
 |some x=>exact⟨x,rfl,h⟩
def ö (s:S)(i:Nat):É (Â AV):=match s[i]? with
 |some (.lst xs)=>À xs
 |_=>none
def Ē (h:ö s i=À xs):s[i]?=À (.lst xs):=by
 unfold ö at h;split at h
 ·cases h;assumption
 ·cases h
def f' (h:s[i]?=À (.lst xs)):ö s i=À xs:=by
 unfold ö;rw[h]
noncomputable def ĸ:AV->AV->S->R AV
 |.int i,.int j,s=>.ok (.int (i+j)) s
 |.str x,.str y,s=>if x.length+y.length<=sizeLine then .ok (.str (x++y)) s else .bad
 |.tup xs,.tup a,s=>if a≠[]/\xs.length+a.length<=sizeLine then .ok (.tup (xs++a)) s else .bad
 |.ref i,.ref j,s=>need (ö s i) λxs=>need (ö s j) λa=>if xs.length+a.length<=sizeLine then .ok (.ref s.length) (s++[.lst (xs++a)])else .bad
 |_,_,_=>.bad
def Ĭ.ne (h:Ĭ T ρ H l xs)(k:l≠[]):xs≠[]:=by
 intro z;have:=h.length;rw[z]at this;exact k (A6.mp this)
theorem OR.lst {ρ:Â Addr}{H:Hp}{a:Addr}{xs:Â AV}{vs:Â V}(h:H a=À (.lst vs)) (k:Ĭ T ρ H xs vs):OR T ρ H (.lst xs) a:=⟨vs,h,k⟩
def Wl (z:X.K=T.K):ju X (aY .Add) (yg T XE ĸ):=by
 rintro d s n H x y v u Q I i j ⟨E,a,b,st,e,k,l,c⟩;cases a<;>cases b<;>try exact c.elim
 ·exact PB d s n H x y v u Q I i j ⟨_,_,k.int_inv,l.int_inv,c.Ł e bJ⟩
 ·obtain⟨hl,c⟩:=c.ū;exact B2 d s n H x y v u Q I i j ⟨_,_,k.str_inv,l.str_inv,hl,c.Ł e jo⟩
 ·obtain⟨hl,c⟩:=c.ū;obtain⟨p,m,rfl,o,g⟩:=k.cx;obtain⟨q,w,rfl,h,f⟩:=l.cx;refine HW d s n H (.ref p) (.ref q) v u Q I i j ⟨p,q,m,w,rfl,rfl,z▸o,z▸h,f.ne hl.1,by rw[<-g.length,<-f.length];exact hl.2,λC=>?_,λ_ r hr=>c.tup e hr (g.append f)⟩;have t:m=[]:=C;subst t;exact c.Ł e (kB h (g.append f))
 ·obtain⟨xs,A,c⟩:=c.ü;obtain⟨D,B,c⟩:=c.ü;obtain⟨hl,c⟩:=c.ū;obtain⟨p,m,rfl,_,o,g⟩:=e.eR (Ē A) k;obtain⟨q,w,rfl,_,h,f⟩:=e.eR (Ē B) l;refine PD d s n H (.ref p) (.ref q) v u Q I i j ⟨p,q,m,w,rfl,rfl,o,h,by rw[<-g.length,<-f.length];exact hl,λr hr=>c.alloc e hr ?_⟩;exact OR.lst ă (Ĭ.gr ((e.eT hr).add hr).toGr (g.append f))
def wj:AV->AV->S->R AV
 |.int i,.int j,s=>.ok (.int (i-j)) s
 |_,_,_=>.bad
def Wq:ju X (aY .Sub) (yg T XE wj):=by
 rintro c s j H x y v u Q I e f ⟨k,a,b,st,g,h,i,d⟩;cases a<;>cases b<;>try exact d.elim
 exact PM c s j H x y v u Q I e f ⟨_,_,h.int_inv,i.int_inv,d.Ł g bJ⟩
def jd:AV->AV->S->R AV
 |.int i,.int j,s=>if JM i/\JM j then .ok (.int (i*j)) s else .bad
 |_,_,_=>.bad
def Wm:ju X (aY .Mult) (yg T XE jd):=by
 rintro c s k H x y v u Q I e g ⟨l,a,b,st,h,i,j,d⟩;cases a<;>cases b<;>try exact d.elim
 obtain⟨hl,d⟩:=d.ū;exact LG c s k H x y v u Q I e g ⟨_,_,i.int_inv,j.int_inv,⟨hl.1.f,hl.2.f⟩,d.Ł h bJ⟩
def kl:AV->AV->S->R AV
 |.int i,.int j,s=>if j≠0/\Q5 j then .ok (.int (i.fdiv j)) s else .bad
 |_,_,_=>.bad
def SY:ju X (aY .FloorDiv) (yg T XE kl):=by
 rintro c s k H x y v u Q I e g ⟨l,a,b,st,h,i,j,d⟩;cases a<;>cases b<;>try exact d.elim
 obtain⟨hl,d⟩:=d.ū;exact HX c s k H x y v u Q I e g ⟨_,_,i.int_inv,j.int_inv,⟨hl.1,hl.2.f⟩,d.Ł h bJ⟩
def jc:AV->AV->S->R AV
 |.int i,.int j,s=>if j≠0 then .ok (.int (i.fmod j)) s else .bad
 |_,_,_=>.bad
def oMod:ju X (aY .Mod) (yg T XE jc):=by
 rintro c s j H x y v u Q I e f ⟨k,a,b,st,g,h,i,d⟩;cases a<;>cases b<;>try exact d.elim
 obtain⟨hl,d⟩:=d.ū;exact LF c s j H x y v u Q I e f ⟨_,_,h.int_inv,i.int_inv,hl,d.Ł g bJ⟩
instance {i j:Int}:a8 (J_ i j):=inferInstanceAs (a8 (0<=j/\j<=1000000/\i.natAbs<2^64))
def Dv:AV->AV->S->R AV
 |.int i,.int j,s=>if J_ i j then .ok (.int (i^j.toNat)) s else .bad
 |_,_,_=>.bad
def Wo:ju X (aY .Pow) (yg T XE Dv):=by
 rintro c s j H x y v u Q I e f ⟨k,a,b,st,g,h,i,d⟩;cases a<;>cases b<;>try exact d.elim
 obtain⟨hl,d⟩:=d.ū;exact PL c s j H x y v u Q I e f ⟨_,_,h.int_inv,i.int_inv,hl,d.Ł g bJ⟩
def Am:AV->S->R AV
 |.int i,s=>.ok (.int (-i)) s
 |_,_=>.bad
def Wn:RG X (Uo .USub) (WC T XE Am):=by
 rintro b s g H x v Q I d ⟨h,a,st,e,f,c⟩;cases a<;>try exact c.elim
 exact QQ b s g H x v Q I d ⟨_,f.int_inv,c.Ł e bJ⟩
noncomputable def Fq:AV->AV->S->R AV
 |.int i,.int j,s=>.ok (.bl (decide (i<j))) s
 |.str i,.str j,s=>.ok (.bl (decide (i.cps.toList<j.cps.toList))) s
 |_,_,_=>.bad
def oLt:ju X (ņ .Lt) (yg T XE Fq):=by
 rintro c s j H x y v u Q I e f ⟨k,a,b,st,g,h,i,d⟩;cases a<;>cases b<;>try exact d.elim
 ·exact S7 c s j H x y v u Q I e f ⟨_,_,h.int_inv,i.int_inv,d.Ł g eU⟩
 ·exact Fu c s j H x y v u Q I e f ⟨_,_,h.str_inv,i.str_inv,d.Ł g eU⟩
def xY:AV->AV->S->R AV
 |.int i,.int j,s=>.ok (.bl (decide (i<=j))) s
 |_,_,_=>.bad
def oLe:ju X (ņ .LtE) (yg T XE xY):=by
 rintro c s j H x y v u Q I e f ⟨k,a,b,st,g,h,i,d⟩;cases a<;>cases b<;>try exact d.elim
 exact S6 c s j H x y v u Q I e f ⟨_,_,h.int_inv,i.int_inv,d.Ł g eU⟩
def Wy:AV->AV->S->R AV
 |.int i,.int j,s=>.ok (.bl (decide (j<i))) s
 |_,_,_=>.bad
def HR:AV->AV->S->R AV
 |.int i,.int j,s=>.ok (.bl (decide (j<=i))) s
 |_,_,_=>.bad
def YB:ju X (ņ .GtE) (yg T XE HR):=by
 rintro c s j H x y v u Q I e f ⟨k,a,b,st,g,h,i,d⟩;cases a<;>cases b<;>try exact d.elim
 exact S5 c s j H x y v u Q I e f ⟨_,_,h.int_inv,i.int_inv,d.Ł g eU⟩
def toD:Nat->S->AV->É Dt
 |_,_,.Ě=>À .Ě
 |_,_,.bl b=>À (.bl b)
 |_,_,.int b=>À (.int b)
 |_,_,.str b=>À (.str b)
 |n+1,s,.tup xs=>(xs.mapM (toD n s)).map .tup
 |n+1,s,.sq xs=>(xs.mapM (toD n s)).map .lst
 |n+1,s,.ref i=>(ö s i).bind λxs=>(xs.mapM (toD n s)).map .lst
 |_,_,_=>none
def BS (h:(a::l).mapM f=À r):∃b q,f a=À b/\l.mapM f=À q/\r=b::q:=by
 rw[yy]at h;cases c:f a with
 |none=>rw[c]at h;cases h
 |some b=>
  cases d:l.mapM f with
  |none=>rw[c,d]at h;cases h
  |some q=>rw[c,d]at h;cases h;exact⟨b,q,rfl,rfl,rfl⟩
theorem sC (c:∀v d x,f v=À d->VR T ρ H v x->Rep T.K (λ_=>False) H d x):∀{xs:Â AV}{l:Â Dt}{vs:Â V},xs.mapM f=À l->Ĭ T ρ H xs vs->cV T.K (λ_=>False) H l vs
 |[],l,vs,h,k=>by
  rw[AM]at h;cases h;unfold cV;exact k.nil_inv
 |a::r,l,vs,h,k=>by
  obtain⟨b,q,e,g,rfl⟩:=BS h;obtain⟨x,m,rfl,i,j⟩:=k.cons_inv;unfold cV;exact⟨x,m,rfl,c a b x e i,sC c g j⟩
theorem n6 (j:SR T ρ s H):∀n v d x,toD n s v=À d->VR T ρ H v x->Rep T.K (λ_=>False) H d x
 |n,.Ě,d,x,h,k=>by
  have h:À Dt.Ě=À d:=by cases n<;>exact h
  cases h;unfold Rep;exact k.il
 |n,.bl b,d,x,h,k=>by
  have h:À (Dt.bl b)=À d:=by cases n<;>exact h
  cases h;unfold Rep;exact k.iD
 |n,.int b,d,x,h,k=>by
  have h:À (Dt.int b)=À d:=by cases n<;>exact h
  cases h;unfold Rep;exact k.int_inv
 |n,.str b,d,x,h,k=>by
  have h:À (Dt.str b)=À d:=by cases n<;>exact h
  cases h;unfold Rep;exact k.str_inv
 |0,.tup xs,d,x,h,k=>by cases h
 |0,.sq xs,d,x,h,k=>by cases h
 |0,.ref xs,d,x,h,k=>by cases h
 |n+1,.tup xs,d,x,h,k=>by
  have h:(xs.mapM (toD n s)).map Dt.tup=À d:=h;obtain⟨a,g,rfl,c,f⟩:=k.cx;cases e:xs.mapM (toD n s)with
  |none=>rw[e]at h;cases h
  |some l=>
   rw[e]at h;cases h;unfold Rep;exact⟨a,g,rfl,λz=>z,c,sC (λv d x=>n6 j n v d x) e f⟩
 |n+1,.sq xs,d,x,h,k=>by
  have h:(xs.mapM (toD n s)).map Dt.lst=À d:=h;obtain⟨a,g,rfl,c,f⟩:=k.hJ;cases e:xs.mapM (toD n s)with
  |none=>rw[e]at h;cases h
  |some l=>
   rw[e]at h;cases h;unfold Rep;exact⟨a,g,rfl,λz=>z,c.FK,sC (λv d x=>n6 j n v d x) e f⟩
 |n+1,.ref i,d,x,h,k=>by
  have h:(ö s i).bind (λxs=>(xs.mapM (toD n s)).map Dt.lst)=À d:=h;cases m:ö s i with
  |none=>rw[m]at h;cases h
  |some xs=>
   rw[m]at h;have h:(xs.mapM (toD n s)).map Dt.lst=À d:=h;obtain⟨a,g,rfl,_,c,f⟩:=j.eR (Ē m) k;cases e:xs.mapM (toD n s)with
   |none=>rw[e]at h;cases h
   |some l=>
    rw[e]at h;cases h;unfold Rep;exact⟨a,g,rfl,λz=>z,gM.of c,sC (λv d x=>n6 j n v d x) e f⟩
def zE (s:S):AV->AV->É Bool
 |.Ě,.Ě=>À true
 |.Ě,.int _=>À false|.int _,.Ě=>À false|.Ě,.bl _=>À false|.bl _,.Ě=>À false|.Ě,.str _=>À false|.str _,.Ě=>À false
 |.int i,.int j=>À (decide (i=j))
 |.bl i,.bl j=>À (decide (i=j))
 |.str i,.str j=>À (decide (i=j))
 |.int _,.str _=>À false|.str _,.int _=>À false|.bl _,.str _=>À false|.str _,.bl _=>À false
 |v,w=>match toD 20 s v,toD 20 s w with
  |some (.tup l),À (.tup q)=>if bZ l<=20 then À (gW l q)else none
  |some (.lst l),À (.lst q)=>if bZ l<=20 then À (gW l q)else none
  |_,_=>none
def bf (v w:AV)(s:S):R AV:=need (zE s v w) λb=>.ok (.bl b) s
def iW (v w:AV)(s:S):R AV:=need (zE s v w) λb=>.ok (.bl (!b)) s
def Gf (s:S)(v w:AV)(b:Bool):Prop:=∃(c:Bool) (l q:Â Dt),toD 20 s v=À (if c then .tup l else .lst l)/\toD 20 s w=À (if c then .tup q else .lst q)/\bZ l<=20/\b=gW l q
def EJ (h:(match toD 20 s v,toD 20 s w with
  |some (.tup l),À (.tup q)=>if bZ l<=20 then À (gW l q)else none
  |some (.lst l),À (.lst q)=>if bZ l<=20 then À (gW l q)else none
  |_,_=>none)=À b):Gf s v w b:=by
 split at h
 ·rename_i l q a c;split at h
  ·rename_i hd;cases h;exact⟨true,l,q,a,c,hd,rfl⟩
  ·cases h
 ·rename_i l q a c;split at h
  ·rename_i hd;cases h;exact⟨false,l,q,a,c,hd,rfl⟩
  ·cases h
 ·cases h
def zF (h:zE s v w=À b)(a:VR T ρ H v x)(c:VR T ρ H w y):(Qw x y=true/\decide (x=y)=b)∨Gf s v w b:=by
  cases v<;>cases w<;>first
    |exact .inr (EJ h)
    | (refine .inl ?_
       have h:À _=À b:=h;cases h;first
         |cases a.il|cases a.int_inv|cases a.iD|cases a.str_inv
       first
         |cases c.il|cases c.int_inv|cases c.iD|cases c.str_inv
       refine⟨rfl,?_⟩;first
         |rfl
         |simp)
def oEq (h:X.K=T.K)(hu:X.A.units+30<cLine):ju X (ņ .Eq) (yg T XE bf):=by
 rintro d s n H x y v u Q I i j ⟨z,a,b,st,g,k,m,f⟩;obtain⟨c,e,f⟩:=f.ü;rcases zF e k m with⟨r,w⟩|⟨t,l,q,o,p,hd,rfl⟩
 ·exact S4 d s n H x y v u Q I i j ⟨r,by rw[w];exact f.Ł g eU⟩
 ·refine PF hu d s n H x y v u Q I i j ⟨λ_=>False,λ_=>False,l,q,t,⟨?_,?_⟩,hd,f.Ł g eU⟩
  ·exact h▸n6 g 20 _ _ _ o k
  ·exact h▸n6 g 20 _ _ _ p m
def YD (h:X.K=T.K)(hu:X.A.units+30<cLine):ju X (ņ .NotEq) (yg T XE iW):=by
 rintro d s n H x y v u Q I i j ⟨z,a,b,st,g,k,m,f⟩;obtain⟨c,e,f⟩:=f.ü;rcases zF e k m with⟨r,w⟩|⟨t,l,q,o,p,hd,rfl⟩
 ·exact S8 d s n H x y v u Q I i j ⟨r,by rw[w];exact f.Ł g eU⟩
 ·refine PK hu d s n H x y v u Q I i j ⟨λ_=>False,λ_=>False,l,q,t,⟨?_,?_⟩,hd,f.Ł g eU⟩
  ·exact h▸n6 g 20 _ _ _ o k
  ·exact h▸n6 g 20 _ _ _ p m
noncomputable def ni:AV->Bool
 |.Ě=>true
 |_=>false
def ur:AV->AV->S->R AV
 |v,.Ě,s=>.ok (.bl (ni v)) s
 |_,_,_=>.bad
def LC:AV->AV->S->R AV
 |v,.Ě,s=>.ok (.bl (!ni v)) s
 |.bl a,.bl b,s=>.ok (.bl (a != b)) s
 |_,_,_=>.bad
def Hd (h:VR T ρ H v x):decide (x=.Ě)=ni v:=by
 cases v
 ·cases h.il;rfl
 ·cases h.iD;rfl
 ·cases h.int_inv;rfl
 ·cases h.str_inv;rfl
 ·obtain⟨_,_,rfl,_⟩:=h.cx;rfl
 ·obtain⟨_,_,rfl⟩:=h.fx;rfl
 ·obtain⟨_,_,rfl,_⟩:=h.hJ;rfl
def S0:ju X (ņ .Is) (yg T XE ur):=by
 rintro c s j H x y v u Q I e f ⟨k,a,b,st,g,h,i,d⟩;cases b<;>try (cases a<;>exact d.elim)
 exact PH c s j H x y v u Q I e f ⟨i.il,by rw[Hd h];cases a<;>exact d.Ł g eU⟩
def Ë:gL:=λ_ s=>.ok [] s
def Á (a:Ev)(r:gL):gL:=λb s=>(a b s).bind λv c=>(r b c).bind λe d=>.ok (v::e) d
def Dz:PA X [] (tP T XE Ë):=PA.imp iM λf H Q d=>ś d λρ a s c e b=>b.here (x:=[]) c (Ĭ.nil (T:=T) (ρ:=ρ) (H:=H))
def An (l:PE X e (tE T XE m)) (hr:PA X b (tP T XE r)) (hs:Î (e::b) X.env=(false,ģ e X.env)::Î b X.env:=by rfl):PA X (e::b) (tP T XE (Á m r)):=
 PA.imp (cu l hr hs) λF H Q q=>ś q λE j s hs n o=>
  step hs n o λv z t A x _ D f a h c=>step f a c λw C u B y _ p g k i d=>d.here g (Ĭ.cons (VR.up p h) i)
def î (r:gL):Ev:=λa s=>(r a s).bind λb c=>if b.length<=sizeLine then .ok (.tup b) c else .bad
def O6 (h:PA X g (tP T XE r)):PE X (.Tuple g k pos) (tE T XE (î r)):=
 PE.imp (B4 h) λu H Q n=>ś n λt e s m i j=>step m i j λv o d A x _ q c f a b=>by
  obtain⟨hl,b⟩:=b.ū;have a:Ĭ T d A v x:=a;exact⟨by rw[<-a.length];exact hl,λp l=>b.tup c l a⟩
def Ŵ (r:gL):gL:=λa s=>(r a s).bind λb c=>if b.length<=sizeLine then .ok b c else .bad
def Pa (h:PA X g (tP T XE r)):PE X (.List g pos) (tL T XE (Ŵ r)):=
 PE.imp (P0 h) λt H Q m=>ś m λq e s l i j=>step l i j λv n d A x _ o c f a b=>by
  obtain⟨hl,b⟩:=b.ū;have a:Ĭ T d A v x:=a;exact⟨by rw[<-a.length];exact hl,λp k=>b.lst c k a⟩
def ī (r:gL):Ev:=λa s=>(r a s).bind λc b=>.ok (.ref b.length) (b++[.lst c])
def O2 (h:PE X e (tL T XE r)):PE X e (tE T XE (ī r)):=
 PE.imp h λB H Q t=>ś t λv f s p o b=>by
  refine⟨v,f,s,p,o,?_⟩;unfold ī at b;cases e:r f s with
  |bad=>rw[e]at b;exact b
  |ex c q=>rw[e]at b;exact b
  |ok w q=>
   rw[e]at b;rintro d A x u i ⟨a,y,j,l,m,n,k⟩;subst j;have g:Gr d A (d++[a]) A:=⟨fB _ _,λ_ _ z=>z,λ_ _ _ z=>z⟩
   refine b (d++[a]) A (.ref a) (u.add l) (i.add m (OR.lst n (k.gr g))) (n7 (T:=T) (H:=A) ?_);rw[ñ (by rw[i.len];exact Í _),i.len,sN];rfl
noncomputable def items (v:AV)(s:S):É (Â AV):=match v with
 |.tup xs=>À xs
 |.sq xs=>À xs
 |.ref i=>ö s i
 |_=>none
def qg (h:items v s=À xs)(d:SR T ρ s H)(c:VR T ρ H v x):∃a vs,x=.ref a/\(gM T.K H a vs∨gp T.K H a vs)/\Ĭ T ρ H xs vs:=by
 cases v<;>try cases h
 ·obtain⟨a,vs,rfl,b,k⟩:=c.cx;exact⟨a,vs,rfl,.inr b,k⟩
 ·obtain⟨a,vs,rfl,_,b,k⟩:=d.eR (Ē h) c;exact⟨a,vs,rfl,.inl (gM.of b),k⟩
 ·obtain⟨a,vs,rfl,b,k⟩:=c.hJ;exact⟨a,vs,rfl,.inl b.FK,k⟩
def KY (m:Ev):gL:=λa s=>(m a s).bind λv b=>need (items v b) λxs=>.ok xs b
def Pb (h:PE X e (tE T XE m)):PE X e (tQ T XE (KY m)):=
 PE.imp h λq H Q l=>ś l λp f s k i j=>step k i j λv n d A x _ o b g c a=>by
  obtain⟨xs,e,a⟩:=a.ü;exact a d A x .refl b (qg e b c)
mutual
def AV.low (b:Nat):AV->Bool
 |.ref i=>decide (i<b)
 |.tup xs=>ĭ b xs
 |.sq xs=>ĭ b xs
 |_=>true
def ĭ (b:Nat):Â AV->Bool
 |[]=>true
 |v::r=>v.low b&&ĭ b r
end
mutual
theorem VR.cut (e:f.take b=ρ):∀{v:AV}{x:V},v.low b=true->VR T f H v x->VR T ρ H v x
 |.Ě,_,_,h=>by unfold VR at *;exact h
 |.bl _,_,_,h=>by unfold VR at *;exact h
 |.int _,_,_,h=>by unfold VR at *;exact h
 |.str _,_,_,h=>by unfold VR at *;exact h
 |.ref i,_,k,h=>by
  obtain⟨a,j,rfl⟩:=h.fx;unfold AV.low at k;exact n7 (by rw[<-e,bY (ō k)];exact j)
 |.tup xs,_,k,h=>by
  obtain⟨a,g,rfl,c,d⟩:=h.cx;unfold AV.low at k;exact kB c (Ĭ.cut e k d)
 |.sq xs,_,k,h=>by
  obtain⟨a,g,rfl,c,d⟩:=h.hJ;unfold AV.low at k;unfold VR;exact⟨a,g,rfl,c,Ĭ.cut e k d⟩
theorem Ĭ.cut (e:a.take b=ρ):∀{v:Â AV}{x:Â V},ĭ b v=true->Ĭ T a H v x->Ĭ T ρ H v x
 |[],_,_,h=>by cases h.nil_inv;exact .nil
 |_::_,_,k,h=>by
  obtain⟨x,f,rfl,c,d⟩:=h.cons_inv;unfold ĭ at k;rw[Ĉ]at k;exact .cons (VR.cut e k.1 c) (Ĭ.cut e k.2 d)
end
mutual
theorem VR.low:∀{v:AV}{x:V},VR T ρ H v x->v.low ρ.length=true
 |.Ě,_,_=>by unfold AV.low;rfl
 |.bl _,_,_=>by unfold AV.low;rfl
 |.int _,_,_=>by unfold AV.low;rfl
 |.str _,_,_=>by unfold AV.low;rfl
 |.ref i,_,h=>by
  obtain⟨a,c,rfl⟩:=h.fx;unfold AV.low;exact ó (Æ.mp c).1
 |.tup xs,_,h=>by
  obtain⟨a,e,rfl,d,b⟩:=h.cx;unfold AV.low;exact Ĭ.low b
 |.sq xs,_,h=>by
  obtain⟨a,e,rfl,d,b⟩:=h.hJ;unfold AV.low;exact Ĭ.low b
theorem Ĭ.low:∀{v:Â AV}{x:Â V},Ĭ T ρ H v x->ĭ ρ.length v=true
 |[],_,_=>by unfold ĭ;rfl
 |_::_,_,h=>by
  obtain⟨x,c,rfl,a,b⟩:=h.cons_inv;unfold ĭ;rw[VR.low a,Ĭ.low b];rfl
end
noncomputable def AO.low (b:Nat):AO->Bool
 |.lst xs=>ĭ b xs
 |.dK a=>ĭ b (a.map (·.2))
 |.dT a=>ĭ b (a.map (·.2))
 |.ins _ c=>ĭ b (c.map (·.2))
 |.exc _=>true
 |.tab _ _=>true
 |.G_ a=>ĭ b (a.map (·.2))
theorem OR.low (h:OR T ρ H o a):o.low ρ.length=true:=by
 cases o with
 |lst xs=>obtain⟨_,_,k⟩:=h;exact k.low
 |dK xs=>obtain⟨_,_,_,k⟩:=h;exact k.low
 |dT xs=>obtain⟨_,_,_,k⟩:=h;exact k.low
 |ins C xs=>obtain⟨_,_,_,_,k⟩:=h;exact k.low
 |exc C=>rfl
 |tab i q=>rfl
 |G_ xs=>obtain⟨_,_,_,_,_,_,_,k⟩:=h;exact k.low
theorem OR.cut (e:j.take b=ρ)(k:o.low b=true)(h:OR T j H o a):OR T ρ H o a:=by
 cases o with
 |lst xs=>obtain⟨g,c,f⟩:=h;exact⟨g,c,Ĭ.cut e k f⟩
 |dK xs=>obtain⟨g,c,q,f⟩:=h;exact⟨g,c,q,Ĭ.cut e k f⟩
 |dT xs=>obtain⟨g,c,q,f⟩:=h;exact⟨g,c,q,Ĭ.cut e k f⟩
 |ins C xs=>obtain⟨l,g,c,q,f⟩:=h;exact⟨l,g,c,q,Ĭ.cut e k f⟩
 |exc C=>exact h
 |tab i q=>exact h
 |G_ xs=>obtain⟨o,n,m,g,c,d,q,f⟩:=h;exact⟨o,n,m,g,c,d,q,Ĭ.cut e k f⟩
def SR.closed (b:SR T ρ s H):s.all (AO.low s.length)=true:=by
 rw[Đ];intro o d;obtain⟨i,c,e⟩:=af d;obtain⟨a,_,q⟩:=b.obj i o (by rw[Å c,e]);rw[<-b.len];exact q.low
theorem SR.cut (j:SR T c s' H)(hl:ρ <+:c)(g:ρ.length=b)(k:(s'.take b).all (AO.low b)=true):SR T ρ (s'.take b) H:=by
 have e:c.take b=ρ:=by obtain⟨t,rfl⟩:=hl;rw[<-g,vB];rfl
 have h:b<=s'.length:=by rw[<-g,<-j.len];exact hl.length_le
 refine⟨?_,by rw[cz,Nat.min_eq_left h];exact g,λi o d=>?_⟩
 ·rw[<-e];exact j.nd.sublist (JY _ _)
 ·have l:i<b:=by have:=(Æ.mp d).1;rw[cz]at this;lia
  have f:=d;rw[bY l]at d;obtain⟨a,m,q⟩:=j.obj i o d;refine⟨a,by rw[<-e,bY l];exact m,q.cut e ?_⟩;exact Đ.mp k o (Ā f)
def Up.cut (u:Up ρ H a H'):Up ρ H ρ H':=⟨⟨aW,u.jR,u.iI⟩,λb o e n=>⟨(u.fr b o e n).1,n⟩,u.live⟩
def BC (m:Ev):Ev:=λa s=>(m a s).bind λv b=>open Classical in if b.take s.length=s/\v.low s.length=true then .ok v s else .bad
def SF (h:PE X e (tE T XE m)):PE X e (tE T XE (BC m)):=
 PE.imp h λw H Q r=>ś r λf b s d n a=>by
  refine⟨f,b,s,d,n,?_⟩;unfold BC at a;cases e:m b s with
  |bad=>rw[e]at a;exact a
  |ex c o=>rw[e]at a;exact a
  |ok v o=>
   rw[e]at a;obtain⟨⟨i,j⟩,a⟩:=a.ū;intro g A x u p q;have l:=d.closed;have k:g.take s.length=f:=by obtain⟨t,rfl⟩:=u.pre;rw[<-d.len,vB];rfl
   refine a f A x u.cut ?_ (VR.cut k j q);have:=p.cut u.pre d.len (by rw[i];exact l);rw[i]at this;exact this
def Ym (m:Ev):Ev:=λa s=>(m a s).bind λv b=>if (b.take s.length).all (AO.low s.length)=true/\v.low s.length=true then .ok v (b.take s.length)else .bad
def i_ (m:Ev):gL:=λa s=>(m a s).bind λv b=>match v with
 |.ref k=>need (ö b k) λxs=>if s.length<=k/\(b.take s.length).all (AO.low s.length)=true/\ĭ s.length xs=true then .ok xs (b.take s.length)else .bad
 |_=>.bad
def Lj (h:PE X e (tE T XE m)):PE X e (tL T XE (i_ m)):=
 PE.imp h λZ H Q U=>ś U λl f s i L d=>by
  refine⟨l,f,s,i,L,?_⟩;unfold i_ at d;cases e:m f s with
  |bad=>rw[e]at d;exact d
  |ex c N=>rw[e]at d;exact d
  |ok v N=>
   rw[e]at d;cases v with
   |ref k=>
    obtain⟨xs,r,d⟩:=d.ü;obtain⟨⟨Y,w,y⟩,d⟩:=d.ū;intro g A x u n O;obtain⟨a,P,rfl,p,F,M⟩:=n.eR (Ē r) O;have E:g.take s.length=l:=by obtain⟨t,rfl⟩:=u.pre;rw[<-i.len,vB];rfl
    have na:a∉l:=λz=>by
     obtain⟨j,q,D⟩:=af z;have B:g[j]?=À a:=ya u.pre (by rw[Å q,D]);have I:=Æ.mp p;have J:=Æ.mp B;have:k=j:=(ee n.nd).mp (I.2.trans J.2.symm);rw[i.len]at q;lia
    refine d l A (.ref a) u.cut (n.cut u.pre i.len w) ⟨a,P,rfl,?_,na,F,Ĭ.cut E y M⟩;cases C:H a with
    |none=>rfl
    |some o=>exact absurd (Ā p) (u.fr a o C na).2
   |Ě=>exact d.elim
   |bl b=>exact d.elim
   |int b=>exact d.elim
   |str b=>exact d.elim
   |tup b=>exact d.elim
   |sq b=>exact d.elim
def vU (h:Out T XE rB ρ H (.ok b s) Q) (a:SR T ρ s H):Q b H:=h ρ H b .refl a rfl
noncomputable def truth (v:AV)(s:S):É Bool:=match v with
 |.Ě=>À false
 |.bl b=>À b
 |.int i=>À (i != 0)
 |.str x=>if x.length<=sizeLine then À ((x.length:Int) != 0)else none
 |.tup xs=>À (!xs.isEmpty)
 |.sq xs=>À (!xs.isEmpty)
 |.ref i=>match s[i]? with
  |some (.lst xs)=>À (!xs.isEmpty)
  |some (.dK xs)=>À (!xs.isEmpty)
  |_=>none
def Ĭ.emp (h:Ĭ T ρ H l xs):l.isEmpty=xs.isEmpty:=by
 cases l with
 |nil=>cases h.nil_inv;rfl
 |cons a r=>obtain⟨x,b,rfl,_⟩:=h.cons_inv;rfl
def FO (h:truth v s=À b)(j:SR T ρ s H)(d:VR T ρ H v x):NO T.K x H b:=by
 cases v with
 |Ě=>cases d.il;cases h;rfl
 |bl c=>cases d.iD;cases h;rfl
 |int c=>cases d.int_inv;cases h;rfl
 |str c=>
  cases d.str_inv;have h:(if c.length<=sizeLine then À ((c.length:Int) != 0)else none)=À b:=h;split at h
  ·cases h;exact⟨by assumption,rfl⟩
  ·cases h
 |tup c=>
  obtain⟨a,f,rfl,g,k⟩:=d.cx;cases h;exact .inr (.inl ⟨f,g,by rw[k.emp]⟩)
 |sq c=>
  obtain⟨a,f,rfl,g,k⟩:=d.hJ;cases h;exact .inl ⟨f,g.FK,by rw[k.emp]⟩
 |ref i=>
  have h:(match s[i]? with
   |some (.lst xs)=>À (!xs.isEmpty)
   |some (.dK xs)=>À (!xs.isEmpty)
   |_=>none)=À b:=h
  split at h
  ·rename_i xs e;cases h;obtain⟨a,f,rfl,_,g,k⟩:=j.eR e d;exact .inl ⟨f,gM.of g,by rw[k.emp]⟩
  ·rename_i xs e;cases h;obtain⟨a,f,rfl,_,g,l,k⟩:=j.Ez e d;refine .inr (.inr ⟨f,g,?_⟩);have:=à cK l;rw[Ê,Ê]at this;cases xs<;>cases f<;>first|rfl|(simp at this)
  ·cases h
def cT (m:Ev):Eb:=λa s=>(m a s).bind λv c=>need (truth v c) λb=>.ok b c
def cB (m:Ev):Eb:=λa s=>(m a s).bind λv c=>match v with
 |.bl b=>.ok b c
 |_=>.bad
def Wz (k:X.K=T.K)(h:PE X e (tE T XE m)) (f:∀a,Ek e X.env a=(do let v <-a;j6 e.pos;e_ [v] (truthy v)):=by intro _;rfl):PT X e (jV T XE (cT m)):=
 PT.imp (IA h f) λu H Q o=>ś o λt i s n f l=>step n f l λv q p A x _ r d j g c=>by
  obtain⟨b,e,c⟩:=c.ü;exact⟨b,by rw[k];exact FO e d g,vU c d⟩
def DN (h:jV T XE (cB m) l H Q):tE T XE m l H λx H'=>∃k,x=.bl k/\Q k H':=by
 obtain⟨p,e,s,j,g,i⟩:=h;refine step j g i λv n d A x _ o c f a b=>?_;have a:VR T d A v x:=a;cases v<;>try exact b.elim
 exact⟨_,a.iD,vU b c⟩
def km (c:ju X (ņ o) (yg T XE op)) (d:PE X a (tE T XE g)) (e:PE X b (tE T XE i)) (f:ao o b=false:=by rfl):PT X (.Compare a [o] [b] pos) (jV T XE (cB (Ó op g i))):=
 PT.imp (L8 c d e f) λj H Q h=>t2 (DN h)
noncomputable def Wc (op e:AV->AV->S->R AV)(a b c:Ev):Ev:=λd s=>(a d s).bind λv g=>(b d g).bind λw h=>(op v w h).bind λr f=>match r with
 |.bl true=>(c d f).bind λz i=>e w z i
 |.bl false=>.ok (.bl false) f
 |_=>.bad
def zm (a b:Eb):Eb:=λd s=>(a d s).bind λc e=>if c=true then b d e else .ok false e
def FZ (a b:Eb):Eb:=λd s=>(a d s).bind λc e=>if c=true then .ok true e else b d e
noncomputable def p6 (a:Eb):Eb:=λb s=>(a b s).bind λc d=>.ok (!c) d
def Q9 (c:Eb)(a b:Ev):Ev:=λd s=>(c d s).bind λk e=>if k=true then a d e else b d e
def pw_and1' (h:PT X a (jV T XE m)):PW X (.BoolOp .And [a] pos) (jV T XE m):=pw_and1 h
def pw_or1' (h:PT X a (jV T XE m)):PW X (.BoolOp .Or [a] pos) (jV T XE m):=pw_or1 h
def pw_and' {rest:Â Expr}{m r:Eb}(h:PT X a (jV T XE m)) (k:PW X (.BoolOp .And (b::rest) pos) (jV T XE r)):PW X (.BoolOp .And (a::b::rest) pos) (jV T XE (zm m r)):=
 PW.imp (pw_and h k) λu H Q p=>ś p λt e s n j l=>step n j l λv o i A x _ q d f g c=>by
  cases (show v=x from g);cases v with
  |true=>exact⟨i,e,o,d,f,c⟩
  |false=>exact vU c d
def pw_or' {rest:Â Expr}{m r:Eb}(h:PT X a (jV T XE m)) (k:PW X (.BoolOp .Or (b::rest) pos) (jV T XE r)):PW X (.BoolOp .Or (a::b::rest) pos) (jV T XE (FZ m r)):=
 PW.imp (pw_or h k) λu H Q p=>ś p λt e s n j l=>step n j l λv o i A x _ q d f g c=>by
  cases (show v=x from g);cases v with
  |true=>exact vU c d
  |false=>exact⟨i,e,o,d,f,c⟩
def L' (h:PT X a (jV T XE m)):PT X (.UnaryOp .Not a pos) (jV T XE (p6 m)):=
 PT.imp (Qh h) λq H Q k=>ś k λp e s j g i=>step j g i λv n l A x _ o c f d b=>by
  cases (show v=x from d);exact vU b c
def SG (n:PT X c (jV T XE i)) (l:PE X a (tE T XE ma)) (m:PE X b (tE T XE r)):PE X (.IfExp c a b pos) (tE T XE (Q9 i ma r)):=
 PE.imp (Ic n l m) λy H Q t=>ś t λw d s q o p=>step q o p λv k h A x _ u g e j f=>by
  cases (show v=x from j);cases v with
  |true=>exact⟨h,d,k,g,e,f⟩
  |false=>exact⟨h,d,k,g,e,f⟩
def Fe (a b:Ev):Ev:=λc s=>(a c s).bind λv d=>match v with
 |.bl true=>b c d
 |.bl false=>.ok (.bl false) d
 |_=>.bad
noncomputable def UM (a b:Ev):Ev:=λc s=>(a c s).bind λv d=>match v with
 |.bl true=>.ok (.bl true) d
 |.bl false=>b c d
 |_=>.bad
def HU:AV->S->R AV
 |.bl b,s=>.ok (.bl (!b)) s
 |_,_=>.bad
def OS {rest:Â Expr}{m r:Ev}(h:PE X a (tE T XE m)) (k:PE X (.BoolOp .And (b::rest) pos) (tE T XE r)):PE X (.BoolOp .And (a::b::rest) pos) (tE T XE (Fe m r)):=
 PE.imp (PR h k) λu H Q p=>ś p λt g s n j l=>step n j l λv o f A x _ q e i d c=>by
  have d:VR T f A v x:=d;cases v<;>try exact c.elim
  rename_i b _ _;refine⟨b,d.iD,?_⟩;cases b with
  |true=>exact⟨f,g,o,e,i,c⟩
  |false=>exact c.Ł e eU
def SI {rest:Â Expr}{m r:Ev}(h:PE X a (tE T XE m)) (k:PE X (.BoolOp .Or (b::rest) pos) (tE T XE r)):PE X (.BoolOp .Or (a::b::rest) pos) (tE T XE (UM m r)):=
 PE.imp (Tb h k) λu H Q p=>ś p λt g s n j l=>step n j l λv o f A x _ q e i d c=>by
  have d:VR T f A v x:=d;cases v<;>try exact c.elim
  rename_i b _ _;refine⟨b,d.iD,?_⟩;cases b with
  |true=>exact c.Ł e eU
  |false=>exact⟨f,g,o,e,i,c⟩
def O4 (h:PE X a (tE T XE m)):PE X (.UnaryOp .Not a pos) (tE T XE (aI HU m)):=
 PE.imp (P2 h) λq H Q l=>ś l λp f s k i j=>step k i j λv n e A x _ o d g b c=>by
  have b:VR T e A v x:=b;cases v<;>try exact c.elim
  exact⟨_,b.iD,c.Ł d eU⟩
theorem Ĭ.lJ (h:Ĭ T ρ H l xs)(e:lJ l i=À v):∃x,L2.lJ xs i=À x/\VR T ρ H v x:=by
 unfold L2.lJ at *
 rw[<-h.length];cases a:Dd l.length i with
 |none=>rw[a]at e;cases e
 |some j=>rw[a]at e;exact h.get e
def Ċ:AV->AV->S->R AV
 |.tup xs,.int i,s=>need (lJ xs i) λv=>.ok v s
 |.sq xs,.int i,s=>need (lJ xs i) λv=>.ok v s
 |.ref k,.int i,s=>need (ö s k) λxs=>need (lJ xs i) λv=>.ok v s
 |.str z,.int i,s=>if z.length<=sizeLine then need (lJ z.cps.toList i) λc=>.ok (.str ⟨#[c]⟩) s else .bad
 |_,_,_=>.bad
def oIx (B:X.K=T.K):Q4 X (yg T XE Ċ):=by
 rintro f d h s A H x y v u Q I q r ⟨D,a,b,st,m,t,w,g⟩ o;cases a<;>cases b<;>try exact g.elim
 ·obtain⟨hl,g⟩:=g.ū;obtain⟨c,e,g⟩:=g.ü;exact Oy f d h s A H x y v u Q I q r ⟨_,_,c,t.str_inv,w.int_inv,hl,e,g.Ł m jo⟩ o
 ·obtain⟨c,e,g⟩:=g.ü;obtain⟨p,n,rfl,j,k⟩:=t.cx;obtain⟨z,i,l⟩:=k.lJ e;exact Oz f d h s A H _ y v u Q I q r ⟨p,n,_,z,rfl,w.int_inv,B▸j,i,g.Ł m l⟩ o
 ·obtain⟨xs,C,g⟩:=g.ü;obtain⟨c,e,g⟩:=g.ü;obtain⟨p,n,rfl,_,j,k⟩:=m.eR (Ē C) t;obtain⟨z,i,l⟩:=k.lJ e;exact De f d h s A H _ y v u Q I q r ⟨p,n,_,z,rfl,w.int_inv,gM.of j,i,g.Ł m l⟩ o
 ·obtain⟨c,e,g⟩:=g.ü;obtain⟨p,n,rfl,j,k⟩:=t.hJ;obtain⟨z,i,l⟩:=k.lJ e;exact De f d h s A H _ y v u Q I q r ⟨p,n,_,z,rfl,w.int_inv,B▸j.FK,i,g.Ł m l⟩ o
abbrev Eo:=En->S->R (É Int)
def rO:Rl (É Int) (É Int):=⟨λ_ _ _ a b=>a=b,λ_ h=>h⟩
abbrev tO (T:Tx)(XE:gO)(m:Eo):TO:=tG T XE rO m
def oN:Eo:=λ_ s=>.ok none s
noncomputable def oS (m:Ev):Eo:=λa s=>(m a s).bind λv b=>match v with
 |.int i=>.ok (À i) b
 |_=>.bad
def PO.imp (h:PO X e t)(k:∀b H Q,t' b H Q->t b H Q):PO X e t':=λa s b H Q I c=>h a s b H Q I (k b H Q c)
def Io:PO X none (tO T XE oN):=PO.imp L0 λg H Q d=>ś d λe a s c f b=>b e H none .refl c rfl
def Ip (h:PE X e (tE T XE m)):PO X (À e) (tO T XE (oS m)):=
 PO.imp (L1 h) λq H Q l=>ś l λp f s k i j=>step k i j λv n c A x _ o d g a b=>by
  have a:VR T c A v x:=a;cases v<;>try exact b.elim
  exact⟨_,a.int_inv,b c A (À _) .refl d rfl⟩
noncomputable def k9 {α:Type}(xs:Â α)(lo a:É Int):Â α:=(xs.drop (HT.c_ xs.length 0 lo)).take (HT.c_ xs.length xs.length a-HT.c_ xs.length 0 lo)
theorem Ĭ.k9 (h:Ĭ T ρ H l xs)(lo a:É Int):Ĭ T ρ H (k9 l lo a) (tf xs lo a):=by
 unfold Mm.k9 tf;rw[h.length];exact(h.drop _).take _
def HV (v:AV)(lo a:É Int)(s:S):R AV:=match v with
 |.tup xs=>.ok (.tup (k9 xs lo a)) s
 |.ref i=>need (ö s i) λxs=>.ok (.ref s.length) (s++[.lst (k9 xs lo a)])
 |.sq xs=>.ok (.ref s.length) (s++[.lst (k9 xs lo a)])
 |_=>.bad
def rSM (T:Tx)(XE:gO):V->É Int->É Int->Hp->VK->Prop:=λx lo b H Q=>∃a v s,SR T a s H/\VR T a H v x/\Out T XE (rV T) a H (HV v lo b s) Q
def Kq (h:HT.c_ xs.length 0 lo=0/\HT.c_ xs.length xs.length a=xs.length):tf xs lo a=xs:=by
 unfold tf;rw[h.1,h.2,Nat.sub_zero,List.drop_zero,List.take_length]
def oSl (w:X.K=T.K):RD X (rSM T XE):=by
 rintro b s u H x v r t lo d n Q I m i j l ⟨z,a,st,f,o,e⟩;cases a<;>try exact e.elim
 ·obtain⟨p,h,rfl,g,k⟩:=o.cx;refine Mg b s u H _ v r t lo d n Q I m i j l ⟨p,h,rfl,w▸g,λhw=>?_,λ_ q c=>e.tup f c (k.k9 lo d)⟩;have:=k.k9 lo d;rw[Kq hw]at this;exact e.Ł f (kB g this)
 ·obtain⟨xs,y,e⟩:=e.ü;obtain⟨p,h,rfl,_,g,k⟩:=f.eR (Ē y) o;exact DJ b s u H _ v r t lo d n Q I m i j l ⟨p,h,rfl,gM.of g,λq c=>e.alloc f c (OR.lst ă (Ĭ.gr ((f.eT c).add c).toGr (k.k9 lo d)))⟩
 ·obtain⟨p,h,rfl,g,k⟩:=o.hJ;exact DJ b s u H _ v r t lo d n Q I m i j l ⟨p,h,rfl,w▸g.FK,λq c=>e.alloc f c (OR.lst ă (Ĭ.gr ((f.eT c).add c).toGr (k.k9 lo d)))⟩
def OO (m:Ev)(lo b:Eo):Ev:=λa s=>(m a s).bind λv c=>(lo a c).bind λl d=>(b a d).bind λh e=>HV v l h e
def SJ (w:X.K=T.K)(c:PE X e (tE T XE m)) (hl:PO X lo (tO T XE E)) (y:PO X z (tO T XE D)):PE X (.Subscript e (.Slice lo z none Y) pos) (tE T XE (OO m E D)):=
 PE.imp (Ih (oSl (XE:=XE) w) c hl y) λσ H Q L=>ś L λρ r s B c A=>
  step B c A λv Z M O x _ u1 i a n d=>step i a d λl s2 N P C _ I j b p f=>step j b f λh F o U u _ J k t q g=>by
   cases (show l=C from p);cases (show h=u from q);exact⟨o,v,F,k,VR.up (I.trans J) n,g⟩
end
abbrev Ms:=En->S->RS
def R.bM {α:Type}:R α->(α->S->RS)->RS
 |.ok a s,f=>f a s
 |.ex c s,_=>.ex c s
 |.bad,_=>.bad
@[simp] theorem dV (a:α) (s:S) (f:α->S->RS):(R.ok a s).bM f=f a s:=rfl
def fc (T:Tx)(XE:gO)(ρ:Â Addr)(H:Hp):RS->Ends->Prop
 |.nx e s,D=>∀a A b,Up ρ H a A->SR T a s A->ER T a A e b->D.nx b A
 |.rt v s,D=>∀a A x,Up ρ H a A->SR T a s A->VR T a A v x->D.rt x A
 |.bk e s,D=>∀a A b,Up ρ H a A->SR T a s A->ER T a A e b->D.bk b A
 |.ct e s,D=>∀a A b,Up ρ H a A->SR T a s A->ER T a A e b->D.ct b A
 |.ex c s,_=>∀a A,Up ρ H a A->SR T a s A->XE c a s A
 |.bad,_=>False
def fc.up (u:Up ρ H g H')(h:fc T XE ρ H r D):fc T XE g H' r D:=by
 cases r with
 |nx e s=>exact λa A x d b f=>h a A x (u.trans d) b f
 |rt e s=>exact λa A x d b f=>h a A x (u.trans d) b f
 |bk e s=>exact λa A x d b f=>h a A x (u.trans d) b f
 |ct e s=>exact λa A x d b f=>h a A x (u.trans d) b f
 |ex c s=>exact λa A d b=>h a A (u.trans d) b
 |bad=>exact h
def tS (T:Tx)(XE:gO)(m:Ms):TS:=λD c H=>∃b a s,SR T b s H/\ER T b H a c/\fc T XE b H (m a s) D
section
variable {T:Tx}{XE:gO}{X:Cx}{pos:jA}
def dZ {f:Rl α j} 
  (hs:SR T ρ s H) (d:ER T ρ H env g) (b:fc T XE ρ H ((m env s).bM k) D)
  (hk:∀v s1 a A x,m env s=.ok v s1->Up ρ H a A->SR T a s1 A->ER T a A env g->f.r H a A v x->fc T XE a A (k v s1) D->F x A):tG T XE f m g H F:=by
 refine⟨ρ,env,s,hs,d,?_⟩;cases e:m env s with
 |ok v s1=>
  rw[e]at b;exact λa A x u h i=>hk v s1 a A x e u h (d.up u) i (fc.up u b)
 |ex c s1=>rw[e]at b;exact b
 |bad=>rw[e]at b;exact b
def aN:Ms:=λa s=>.nx a s
def jQ {m:Ms}{a:St}{H:Hp}{D:Ends}{P:Prop}(h:tS T XE m D a H)(k:∀ρ env s,SR T ρ s H->ER T ρ H env a->fc T XE ρ H (m env s) D->P):P:=by
 obtain⟨ρ,env,s,d,b,c⟩:=h;exact k ρ env s d b c
def ý (a b:Ms):Ms:=λc s=>match a c s with
 |.nx e d=>b e d
 |r=>r
def Lp:lH X [] (tS T XE aN):=lH.imp L6 λD g H e=>jQ e λf a s d b c=>c f H g .refl d b
def HG {st:Stmt}{rest:Â Stmt}{a b:Ms}(j:PS X st (tS T XE a)) (k:lH X rest (tS T XE b)):lH X (st::rest) (tS T XE (ý a b)):=
 lH.imp (Iz j k) λD q H o=>jQ o λp d s m l c=>by
  refine⟨p,d,s,m,l,?_⟩;unfold ý at c;cases e:a d s with
  |nx h f=>rw[e]at c;exact λg A x u n i=>⟨g,h,f,n,i,fc.up u c⟩
  |rt v f=>rw[e]at c;exact c
  |bk v f=>rw[e]at c;exact c
  |ct v f=>rw[e]at c;exact c
  |ex v f=>rw[e]at c;exact c
  |bad=>rw[e]at c;exact c
def Lr (b:PS X st (tS T XE a)):lH X [st] (tS T XE a):=L7 b
def ĥ (m:Ev):Ms:=λa s=>(m a s).bM λ_ b=>.nx a b
def Lm (h:PE X e (tE T XE m)) (hs:fb e none pos.line X.env=pure false:=by rfl):PS X (.Expr e pos) (tS T XE (ĥ m)):=
 PS.imp (L4 h hs) λD l H k=>jQ k λp f s hs g i=>dZ hs g i λv n d A x _ o c a j b=>b d A l .refl c a
def ş (m:Ev):Ms:=λa s=>(m a s).bM λv b=>.rt v b
def Ph (h:PE X e (tE T XE m)):PS X (.Return (À e) pos) (tS T XE (ş m)):=
 PS.imp (Qe h) λD q H l=>jQ l λp f s k i j=>dZ k i j λv n d A x _ o b g c a=>a d A x .refl b c
def gb (c:Eb)(a b:Ms):Ms:=λd s=>(c d s).bM λk e=>if k=true then a d e else b d e
def SQ (n:PT X c (jV T XE i)) (l:lH X a (tS T XE ma)) (m:lH X b (tS T XE r)):PS X (.If c a b pos) (tS T XE (gb i ma r)):=
 PS.imp (Te n l m) λD y H t=>jQ t λw d s q o p=>dZ q o p λv k h A x _ u g e j f=>by
  cases (show v=x from j);cases v with
  |true=>exact⟨h,d,k,g,e,f⟩
  |false=>exact⟨h,d,k,g,e,f⟩
def Š (i:Nat)(m:Ev):Ms:=λa s=>(m a s).bM λv b=>.nx (a.set i (À v)) b
def Gm (h:tS T XE (Š i m) D l H):Mq (tE T XE m) (C7 i) D l H:=by
 obtain⟨p,f,s,k,g,j⟩:=h;exact dZ k g j λv n e A x _ o c a d b=>b e A _ .refl c (a.set d)
def Pj (b:X.N.Nodup)(c:PE X e (tE T XE m)) (f:X.N[i]?=À x:=by rfl)(g:Loc X.env.scope x:=by first|exact MO rfl|exact FV rfl)(hs:fb e (À (.Name x a)) pos.line X.env=pure false:=by rfl) (d:X.fn x=true∨X.env.scope.names.lookup x=À .local:=by first|exact .inl rfl|exact .inr rfl|assumption) :
  PS X (.Assign [.Name x a] e pos) (tS T XE (Š i m)):=PS.imp (Qf b f g c hs d) λD j H h=>Gm h
abbrev Mt:=AV->En->S->RS
abbrev NJ:=Â AV->En->S->RS
def Kv (Q:St->Hp->Prop):Ends:={nx:=Q,rt:=λ_ _=>False}
def tT (T:Tx)(XE:gO)(m:Mt):TG:=λx c H Q=>∃b a s v,SR T b s H/\ER T b H a c/\VR T b H v x/\fc T XE b H (m v a s) (Kv Q)
def UQ (T:Tx)(XE:gO)(m:NJ):Q7:=λxs d H Q=>∃b a s c,SR T b s H/\ER T b H a d/\Ĭ T b H c xs/\fc T XE b H (m c a s) (Kv Q)
def gN (i:Nat):Mt:=λv a s=>.nx (a.set i (À v)) s
def Ű:NJ:=λb a s=>match b with
 |[]=>.nx a s
 |_=>.bad
def ß (a:Mt)(r:NJ):NJ:=λd b s=>match d with
 |v::w=>match a v b s with
  |.nx e c=>r w e c
  |q=>q
 |_=>.bad
def gT (n:Nat)(r:NJ):Mt:=λv a s=>match v with
 |.tup b=>if b.length=n then r b a s else .bad
 |_=>.bad
def Le (b:X.N.Nodup)(e:X.N[i]?=À x:=by rfl)(h:Loc X.env.scope x:=by first|exact MO rfl|exact FV rfl)(d:X.fn x=true∨X.env.scope.names.lookup x=À .local:=by first|exact .inl rfl|exact .inr rfl|assumption):PG X (.Name x pos) (tT T XE (gN i)):=
 PG.imp (LO b e h d) λx l H Q ⟨k,a,s,v,g,c,j,f⟩=>f k H _ .refl g (c.set j)
def Lg:CM X [] (UQ T XE Ű):=CM.imp LP λxs i H Q ⟨h,c,s,g,e,d,f,b⟩=>by
 cases g with
 |nil=>exact⟨f.nil_inv,b h H _ .refl e d⟩
 |cons a r=>exact b.elim
def HA (k:PG X e (tT T XE a)) (l:CM X i (UQ T XE r)) (hs:(di (e::i) X.env).map (·.2)=kW e X.env::(di i X.env).map (·.2):=by rfl):CM X (e::i) (UQ T XE (ß a r)):=
 CM.imp (Ij k l hs) λxs z H Q ⟨y,d,s,q,hs,m,p,b⟩=>by
  cases q with
  |nil=>exact b.elim
  |cons v w=>
   obtain⟨x,t,rfl,n,o⟩:=p.cons_inv;refine⟨x,t,rfl,y,d,s,v,hs,m,n,?_⟩;unfold ß at b;cases e:a v d s with
   |nx j g=>simp only[e]at b;exact λc A x u h f=>⟨c,j,g,w,h,f,o.up u,fc.up u b⟩
   |rt v g=>simp only[e]at b;exact b
   |bk v g=>simp only[e]at b;exact λc A x u h f=>b c A x u h f
   |ct v g=>simp only[e]at b;exact λc A x u h f=>b c A x u h f
   |ex v g=>simp only[e]at b;exact b
   |bad=>simp only[e]at b;exact b
def O9 (l:X.K=T.K)(m:X.calm=true)(h:CM X e (UQ T XE r)) (p:(di e X.env).length=n:=by rfl) (f:(di e X.env).findIdx? (·.1)=none:=by rfl):PG X (.Tuple e k pos) (tT T XE (gT n r)):=
 PG.imp (P7 m h p f) λx w H Q ⟨i,d,s,v,q,o,t,c⟩=>by
  obtain⟨b,rfl⟩:∃b,v=.tup b:=by
   cases v with
   |tup b=>exact⟨b,rfl⟩
   |_=>exact c.elim
  obtain⟨a,u,rfl,j,g⟩:=t.cx;have c:fc T XE i H (if b.length=n then r b d s else .bad) (Kv Q):=c;by_cases hl:b.length=n
  ·rw[Ì hl]at c;exact⟨a,u,rfl,l▸j,by rw[<-g.length];exact hl,i,d,s,b,q,o,g,c⟩
  ·rw[Ö hl]at c;exact c.elim
def m3 (m:Ev)(g:Mt):Ms:=λa s=>(m a s).bM λv b=>g v a b
def nH (g:Mt):Prop:=∀v a s,(∃e b,g v a s=.nx e b)∨(∃c b,g v a s=.ex c b)∨g v a s=.bad
def sg (g:NJ):Prop:=∀v a s,(∃e b,g v a s=.nx e b)∨(∃c b,g v a s=.ex c b)∨g v a s=.bad
def LA:nH (gN i):=λv a s=>.inl ⟨_,_,rfl⟩
def Pw:sg Ű:=λv b s=>by
 cases v with
 |nil=>exact .inl ⟨_,_,rfl⟩
 |cons a r=>exact .inr (.inr rfl)
def Lz (h:nH a)(k:sg r):sg (ß a r):=λv b s=>by
 cases v with
 |nil=>exact .inr (.inr rfl)
 |cons x w=>
  rcases h x b s with⟨e,c,q⟩|⟨e,c,q⟩|q
  ·have:ß a r (x::w) b s=r w e c:=by unfold ß;simp only[q]
   rw[this];exact k w e c
  ·have:ß a r (x::w) b s=.ex e c:=by unfold ß;simp only[q]
   exact .inr (.inl ⟨_,_,this⟩)
  ·have:ß a r (x::w) b s=.bad:=by unfold ß;simp only[q]
   exact .inr (.inr this)
def Px (k:sg r):nH (gT n r):=λv a s=>by
 cases v<;>try exact .inr (.inr rfl)
 rename_i b;by_cases hl:b.length=n
 ·have:gT n r (.tup b) a s=r b a s:=Ì hl;rw[this];exact k b a s
 ·have:gT n r (.tup b) a s=.bad:=Ö hl;exact .inr (.inr this)
def nH.out (k:nH g)(h:fc T XE ρ H (g v env s) D):fc T XE ρ H (g v env s) (Kv D.nx):=by
 rcases k v env s with⟨e,a,q⟩|⟨e,a,q⟩|q<;>rw[q]at h⊢<;>exact h
def Pc (d:PE X e (tE T XE m)) (n:PG X a (tT T XE g)) (h:nH g)(hs:i0 [a] e pos.line X.env=pure false:=by rfl)(hw:iZ [a] e X.env=pure none:=by rfl)
  (l:(di [a] X.env).map (·.2)=[kW a X.env]:=by rfl):PS X (.Assign [a] e pos) (tS T XE (m3 m g)):=
 PS.imp (P' d n hs hw l) λD u H q=>jQ q λt b s hs d o=>dZ hs d o λv p k A x _ r i c j f=>⟨k,b,p,v,i,c,j,h.out f⟩
def r3 (i j:Nat)(r:gL):Ms:=λa s=>(r a s).bM λc b=>match c with
 |[v,w]=>.nx ((a.set i (À v)).set j (À w)) b
 |_=>.bad
def Pg (t:X.calm=true)(p:X.N.Nodup)(q:PA X [a,b] (tP T XE r)) (z:X.N[i]?=À x:=by rfl)(B:X.N[j]?=À y:=by rfl)(h:i≠j:=by decide)
  (E:X.env.scope.names.lookup x=À .local:=by rfl) (F:X.env.scope.names.lookup y=À .local:=by rfl)
  (hw:iZ [.Tuple [.Name x m,.Name y n] l pt] (.Tuple [a,b] k2 e) X.env=pure (À [x,y]):=by rfl)
  (hs:i0 [.Tuple [.Name x m,.Name y n] l pt] (.Tuple [a,b] k2 e) pos.line X.env=pure false:=by rfl) :
  PS X (.Assign [.Tuple [.Name x m,.Name y n] l pt] (.Tuple [a,b] k2 e) pos) (tS T XE (r3 i j r)):=
 PS.imp (Qd t p z B h E F q hw hs) λD Y H O=>jQ O λU o s hs u C=>dZ hs u C λv P f A x _ Q k g d c=>by
  have d:Ĭ T f A v x:=d
  match v,d,c with
  |[v,w],d,c=>
   obtain⟨x1,M,rfl,I,k2⟩:=d.cons_inv;obtain⟨x2,M,rfl,L,J⟩:=k2.cons_inv;cases J.nil_inv;exact⟨x1,x2,rfl,c f A _ .refl k ((g.set I).set L)⟩
  |[],_,c=>exact c.elim
  |[_],_,c=>exact c.elim
  |_::_::_::_,_,c=>exact c.elim
def YI (T:Tx)(XE:gO)(op:AV->AV->S->R AV):UA:=λx y H Q=>∃a v w s,SR T a s H/\VR T a H v x/\VR T a H w y/\Out T XE (rV T) a H (op v w s) Q
noncomputable def FD (i:Nat)(op:AV->AV->S->R AV)(m:Ev):Ms:=λa s=>match a[i]? with
 |some (À v)=>(m a s).bM λw b=>(op v w b).bM λz c=>.nx (a.set i (À z)) c
 |_=>.bad
def Pd (E:X.N.Nodup)(b:Uz X o (YI T XE op)) (d:PE X e (tE T XE m)) (I:X.N[i]?=À x:=by rfl)(L:Loc X.env.scope x:=by first|exact MO rfl|exact FV rfl)(F:X.fn x=true∨X.env.scope.names.lookup x=À .local:=by first|exact .inl rfl|exact .inr rfl|assumption) :
  PS X (.AugAssign (.Name x q) o e pos) (tS T XE (FD i op m)):=
 PS.imp (Qa E I L d b F) λD Y H P=>jQ P λU B s J d b=>by
  unfold FD at b;split at b
  ·rename_i v C;obtain⟨x,u,k⟩:=d.get i v C;refine⟨x,u,dZ J d b λw r n Q y _ O g f j a=>⟨n,v,w,r,g,k.up O,j,?_⟩⟩;cases e:op v w r with
   |bad=>rw[e]at a;exact a
   |ex c M=>rw[e]at a;exact a
   |ok z M=>
    rw[e]at a;exact λp A x2 t h l=>a p A _ t h ((f.up t).set l)
  ·exact b.elim
def uq:AV->AV->S->R AV
 |.int i,.int j,s=>.ok (.int (i+j)) s
 |_,_,_=>.bad
def V0:Uz X .Add (YI T XE uq):=by
 rintro c s j H x y v u Q I e f ⟨k,a,b,st,g,h,i,d⟩;cases a<;>cases b<;>try exact d.elim
 exact Ot c s j H x y v u Q I e f ⟨_,_,h.int_inv,i.int_inv,d.Ł g bJ⟩
def DS (c:Eb)(b:Ms):Nat->En->S->RS
 |0,_,_=>.bad
 |n+1,a,s=>(c a s).bM λk f=>if k=true then (match b a f with
   |.nx e d=>DS c b n e d
   |.ct e d=>DS c b n e d
   |.bk e d=>.nx e d
   |r=>r)else .nx a f
def IF (f:En->S->Nat)(c:Eb)(b:Ms):Ms:=λa s=>DS c b (f a s) a s
def Po (f:En->S->Nat)(O:yS (Û X.prog X.w) X.A X.env X.xe) (N:PT X c (jV T XE i)) (M:lH X body (tS T XE y)):PS X (.While c body [] pos) (tS T XE (IF f i y)):=
 PS.imp (Iy O N M) λD z H P=>jQ P λg b s F E m=>by
  refine⟨λn z H=>∃g b s,SR T g s H/\ER T g H b z/\fc T XE g H (DS i y n b s) D,⟨f b s,g,b,s,F,E,m⟩,?_⟩;rintro n z H ⟨g,b,s,F,E,m⟩;cases n with
  |zero=>exact m.elim
  |succ n=>
   unfold DS at m;refine dZ F E m λv J q L x _ Q p l I a=>?_;cases (show v=x from I);cases v with
   |false=>exact a q L z .refl p l
   |true=>
    refine⟨λr B=>∃g b s,SR T g s B/\ER T g B b r/\fc T XE g B (DS i y n b s) D,λr B h=>⟨n,eG n,h⟩,q,b,J,p,l,?_⟩;simp only[Ì]at a;cases e:y b J with
    |nx t j=>simp only[e]at a;exact λd C x u o k=>⟨d,t,j,o,k,fc.up u a⟩
    |ct t j=>simp only[e]at a;exact λd C x u o k=>⟨d,t,j,o,k,fc.up u a⟩
    |bk t j=>simp only[e]at a;exact λd C x u o k=>a d C x u o k
    |rt v j=>simp only[e]at a;exact a
    |ex v j=>simp only[e]at a;exact a
    |bad=>simp only[e]at a;exact a
end
end Mm
namespace L2
open PySem PySem.Spec PyProof.Rows
def P8 (hl:PE X l tl):PI X t l (λj H R=>tl j H λx B=>∃a,x=.ref a/\(((∃xs,gM X.K B a xs)/\R (Q2 X.K a) B)∨((∃xs,gp X.K B a xs)/\R (MS X.K a) B))):=by
 intro f s j H R I h;refine au (hl f s j H _ I h) λv c r=>iv r λx B A n m=>?_;obtain⟨a,e,q⟩:=m;subst e;cases n;rcases q with⟨⟨xs,i⟩,q⟩|⟨⟨xs,i⟩,q⟩
 ·obtain⟨d,rv,p,k⟩:=A.list i;refine wQ p.isList ?_;refine⟨c.heap.objs.size,[c.heap.objs.size],_,_,B,rfl,A.kept (t':=c.toks) λb o e=>Ä _ e,wz a _,⟨_,Ò _ rfl,rfl,rfl⟩,λb g=>?_,q⟩;have e:b=c.heap.objs.size:=by simpa using g
  subst e;exact A.BB (Í _) (A.Ů.fresh (Í _))
 ·obtain⟨d,rv,p,k⟩:=A.tuple i;refine ve (show c.heap.IsTuple a d.toArray from p) ?_;refine⟨c.heap.objs.size,[c.heap.objs.size],_,_,B,rfl,A.kept (t':=c.toks) λb o e=>Ä _ e,Cv a _,⟨_,Ò _ rfl,rfl,rfl⟩,λb g=>?_,q⟩;have e:b=c.heap.objs.size:=by simpa using g
  subst e;exact A.BB (Í _) (A.Ů.fresh (Í _))
end L2
namespace Mm
open PySem L2
def Up.mod (u:Up ρ H a H')(h:H D=none)(n:D∉a):Up ρ H a (upd H' D o):=
 ⟨⟨u.pre,λb xs e=>by rw[ä (ń e h)];exact u.jR b xs e,λb p v e=>by rw[ä (ń e h)];exact u.iI b p v e⟩,λb p e k=>⟨by rw[ä (ń e h)];exact(u.fr b p e k).1,(u.fr b p e k).2⟩,λb e=>by
  by_cases c:b=D
  ·rw[c];exact h
  ·rw[ä c]at e;exact u.live b e⟩
def VP (h:H D=À (.lst xs)):Gr ρ H ρ (upd H D o):=
 ⟨aW,λb a e=>by rw[ä (ug e h (by intro z;cases z))];exact e,λb p v e=>by rw[ä (ug e h (by intro z;cases z))];exact e⟩
theorem ER.gr (h:ER T ρ H env c)(u:Gr ρ H a H'):ER T a H' env c:=
 ⟨h.len,λi v e=>let ⟨x,b,q⟩:=h.get i v e;⟨x,b,q.gr u⟩⟩
abbrev Gd:=Â (Nat×Â AV)
def u0 (gs:Gd)(s:S):Prop:=∀p∈gs,ö s p.1=À p.2
def C8 (i:Nat)(xs:Â AV)(s:S):u0 [(i,xs)] s ↔ ö s i=À xs:=by simp[u0]
structure Walks (T:Tx)(ρ:Â Addr)(H:Hp)(xs:Â AV)(gs:Gd)(J:It):Prop where
 turn:∀n9 s' H',Up ρ H n9 H'->SR T n9 s' H'->u0 gs s'->(∀j v,xs[j]?=À v->J.go j H'/\∀x H'',J.Jt j H' x H''->Up n9 H' n9 H''/\SR T n9 s' H''/\VR T n9 H'' v x)/\J.stop xs.length H'
abbrev Src:=En->S->R (Â AV×Gd)
def rW (T:Tx):Rl (Â AV×Gd) It:=⟨λ_ a H p J=>Walks T a H p.1 p.2 J,λ_ h=>h⟩
abbrev tW (T:Tx)(XE:gO)(m:Src):TI:=tG T XE (rW T) m
section
variable {T:Tx}{XE:gO}{X:Cx}{pos:jA}
def qK (h:H' a=À (.lst vs)∨JO K H' a vs) (l:SR T b s' H')(k:Ĭ T b H' xs vs) :
  (∀j v,xs[j]?=À v->(Q2 K a).go j H'/\∀x A,(Q2 K a).Jt j H' x A->Up b H' b A/\SR T b s' A/\VR T b A v x)/\(Q2 K a).stop xs.length H':=by
 have c:gM K H' a vs:=by rcases h with h|h;exact gM.of h;exact h.FK
 refine⟨λj v e=>?_,⟨vs,c,by rw[k.length];exact Í _⟩⟩;obtain⟨x,d,i⟩:=k.get e;refine⟨⟨vs,x,c,d⟩,λy A ⟨f,g⟩=>?_⟩;subst f;have:=g vs c;rw[d]at this;cases this;exact⟨.refl,l,i⟩
def Jg (c:gp K H' a vs)(i:SR T b s' H')(k:Ĭ T b H' xs vs) :
  (∀j v,xs[j]?=À v->(MS K a).go j H'/\∀x A,(MS K a).Jt j H' x A->Up b H' b A/\SR T b s' A/\VR T b A v x)/\(MS K a).stop xs.length H':=by
 refine⟨λj v e=>?_,⟨vs,c,by rw[k.length];exact Í _⟩⟩;obtain⟨x,d,h⟩:=k.get e;refine⟨⟨vs,x,c,d⟩,λy A ⟨f,g⟩=>?_⟩;subst f;have:=g vs c;rw[d]at this;cases this;exact⟨.refl,i,h⟩
def uF (r:gL):Src:=λa s=>(r a s).bind λxs b=>.ok (xs,[]) b
def Wg (n:X.K=T.K)(h:PE X e (tL T XE r)):PI X D e (tW T XE (uF r)):=
 PI.imp (LR h) λE H R w=>ś w λy d s p o b=>by
  refine⟨y,d,s,p,o,?_⟩;unfold uF at b;cases e:r d s with
  |bad=>rw[e]at b;exact b
  |ex c q=>rw[e]at b;exact b
  |ok xs q=>
   rw[e]at b;rintro g A x u t ⟨a,v,l,C,m,i,k⟩;subst l;refine⟨a,rfl,⟨v,gM.of i⟩,b g A _ u t ⟨λz s' B j f _=>?_⟩⟩;rw[n];exact qK (.inl (j.fr a _ i m).1) f (k.up j)
noncomputable def aX (m:Ev):Src:=λb s=>(m b s).bind λv a=>match v with
 |.tup xs=>.ok (xs,[]) a
 |.sq xs=>.ok (xs,[]) a
 |.ref i=>need (ö a i) λxs=>.ok (xs,[(i,xs)]) a
 |_=>.bad
def Wh (r:X.K=T.K)(h:PE X e (tE T XE m)):PI X N e (tW T XE (aX m)):=
 PI.imp (P8 h) λU H R J=>ś J λQ y s F D E=>step F D E λv M l A x _ O j z f c=>by
  have f:VR T l A v x:=f;cases v with
  |tup xs=>
   obtain⟨a,p,rfl,n,k⟩:=f.cx;refine⟨a,rfl,.inr ⟨⟨p,r▸n⟩,c l A _ .refl j ⟨λq s' B o d _=>?_⟩⟩⟩;rw[r];exact Jg (o.Qz n) d (k.up o)
  |sq xs=>
   obtain⟨a,p,rfl,n,k⟩:=f.hJ;refine⟨a,rfl,.inl ⟨⟨p,r▸n.FK⟩,c l A _ .refl j ⟨λq s' B o d _=>?_⟩⟩⟩;rw[r];exact qK (.inr (o.Tw n)) d (k.up o)
  |ref i=>
   obtain⟨xs,t,c⟩:=c.ü;obtain⟨a,p,rfl,L,n,k⟩:=j.eR (Ē t) f;refine⟨a,rfl,.inl ⟨⟨p,gM.of n⟩,c l A _ .refl j ⟨λq s' B o d g=>?_⟩⟩⟩;have u:=(C8 i xs s').mp g;obtain⟨b,P,w,_,C,I⟩:=d.eR (Ē u) (VR.up o f);cases w;exact qK (.inl C) d I
  |Ě=>exact c.elim
  |bl b=>exact c.elim
  |int b=>exact c.elim
  |str b=>exact c.elim
noncomputable def uz (lo:Int)(n:Nat):Â AV:=(Ă n).map λ(i:Nat)=>AV.int (lo+i)
def Jf (f:SR T a s' H') :
  (∀j v,(uz lo n)[j]?=À v->(Q3 lo n).go j H'/\∀x A,(Q3 lo n).Jt j H' x A->Up a H' a A/\SR T a s' A/\VR T a A v x)/\(Q3 lo n).stop (uz lo n).length H':=by
 have hl:(uz lo n).length=n:=by simp[uz]
 refine⟨λj v e=>?_,by rw[hl];exact Í _⟩;have b:j<n:=by have:=(Æ.mp e).1;rw[hl]at this;exact this
 refine⟨b,λy A ⟨c,d⟩=>?_⟩;subst c d;have:(uz lo n)[j]?=À (.int (lo+j)):=by simp[uz,b]
 rw[this]at e;cases e;exact⟨.refl,f,bJ⟩
def IJ (r:gL):Src:=λa s=>(r a s).bind λc b=>match c with
 |[.int j]=>if -(2^62)<=j/\j<2^62 then .ok (uz 0 j.toNat,[]) b else .bad
 |[.int i,.int j]=>if -(2^62)<=i/\i<2^62/\-(2^62)<=j/\j<2^62 then .ok (uz i (j-i).toNat,[]) b else .bad
 |_=>.bad
def SN (u:X.mg "range"=none)(q:PE X a (tE T XE m)) (t:Gl X "range":=by rfl)(hs:Î [a] X.env=[(false,ģ a X.env)]:=by rfl):PI X L (.Call (.Name "range" p) [a] [] pos) (tW T XE (IJ (Á m Ë))):=
 PI.imp (Fx t u (An q Dz hs) hs) λQ H R E=>ś E λP h s hs r z=>step hs r z λv J f A x e N k l d b=>by
  have d:Ĭ T f A v x:=d;obtain⟨w,rfl⟩:∃w,v=[w]:=by
   unfold Á Ë at e;cases g:m h s with
   |ok w D=>rw[g]at e;cases e;exact⟨w,rfl⟩
   |ex c D=>rw[g]at e;cases e
   |bad=>rw[g]at e;cases e
  obtain⟨y,O,rfl,B,C⟩:=d.cons_inv;cases C.nil_inv;cases w with
  |int j=>
   obtain⟨⟨n,o⟩,b⟩:=b.ū;cases B.int_inv;exact⟨j,rfl,n,o,b f A _ .refl k ⟨λF s' I M i _=>Jf i⟩⟩
  |_=>exact b.elim
def forL (b:Mt)(body:Ms)(gs:Gd):Â AV->En->S->RS
 |[],a,s=>open Classical in if u0 gs s then .nx a s else .bad
 |v::r,a,s=>open Classical in if u0 gs s then (match b v a s with
   |.nx g f=>(match body g f with
    |.nx d e=>forL b body gs r d e
    |.ct d e=>forL b body gs r d e
    |.bk d e=>.nx d e
    |q=>q)
   |.ex c f=>.ex c f
   |_=>.bad)else .bad
def qE (b:Src)(c:Mt)(body:Ms):Ms:=λa s=>(b a s).bM λp d=>forL c body p.2 p.1 a d
def fc.ū {ρ:Â Addr}{c:Prop}{_:a8 c}{r:RS}{D:Ends}(h:fc T XE ρ H (if c then r else .bad) D):c/\fc T XE ρ H r D:=by
 by_cases a:c
 ·rw[Ì a]at h;exact⟨a,h⟩
 ·rw[Ö a]at h;exact h.elim
def Pf (hp:yS (Û X.prog X.w) X.A X.env X.xe) (hc:X.calm=true)(hi:PI X tg q (tW T XE src)) (hg:PG X tg (tT T XE n)) (hb:lH X body (tS T XE U))
  (hs:∀x,eg q X.env x=pure x:=by intro _;rfl):PS X (.For tg q body [] pos) (tS T XE (qE src n U)):=
 PS.imp (Qc hp hc hi hg hb hs) λD σ H zz=>jQ zz λρ env s hs he ho=>dZ hs he ho λp N k P J _ u1 sr1 VH Y ho1=>by
  obtain⟨xs,gs⟩:=p;have Y:Walks T k P xs gs J:=Y;refine⟨λi m z B=>m=xs.length-i/\i<=xs.length/\∃b d s',Up k P b B/\SR T b s' B/\ER T b B d z/\fc T XE b B (forL n U gs (xs.drop i) d s') D,⟨_,rfl,ĩ _,k,env,N,.refl,sr1,VH,ho1⟩,?_⟩;rintro i m z B ⟨rfl,hi,b,d,s',u',u,M,a⟩;by_cases t:i<xs.length
  ·rw[yP t]at a;unfold forL at a;obtain⟨r,a⟩:=a.ū;obtain⟨w1,w2⟩:=(Y.turn b s' B u' u r).1 i xs[i] (Å t);refine .inr ⟨w1,λE C=>∃f o g,Up k P f C/\SR T f g C/\ER T f C o E/\fc T XE f C (forL n U gs (xs.drop (i+1)) o g) D,λE C h2=>⟨xs.length-(i+1),by lia,rfl,t,h2⟩,λx Z hy=>?_⟩;obtain⟨y1,y2,y3⟩:=w2 x Z hy;refine⟨b,d,s',xs[i],y2,M.up y1,y3,?_⟩;have a:=fc.up y1 a;cases L:n xs[i] d s' with
   |nx e1 N=>
    simp only[L]at a;refine λf C E u2 QA Yl=>⟨f,e1,N,QA,Yl,?_⟩
    have a:=fc.up u2 a;have O:Up k P f C:=(u'.trans y1).trans u2;cases I:U e1 N with
    |nx Q g=>simp only[I]at a;exact λl H3 F y j h=>⟨l,Q,g,O.trans y,j,h,fc.up y a⟩
    |ct Q g=>simp only[I]at a;exact λl H3 F y j h=>⟨l,Q,g,O.trans y,j,h,fc.up y a⟩
    |bk Q g=>simp only[I]at a;exact λl H3 F y j h=>a l H3 F y j h
    |rt v g=>simp only[I]at a;exact a
    |ex v g=>simp only[I]at a;exact a
    |bad=>simp only[I]at a;exact a
   |ex c N=>simp only[L]at a;exact a
   |rt v g=>simp only[L]at a;exact a.elim
   |bk v g=>simp only[L]at a;exact a.elim
   |ct v g=>simp only[L]at a;exact a.elim
   |bad=>simp only[L]at a;exact a.elim
  ·have e:i=xs.length:=by lia
   subst e;rw[MJ]at a;unfold forL at a;obtain⟨r,a⟩:=a.ū;exact .inl ⟨(Y.turn b s' B u' u r).2,a b B z .refl u M⟩
abbrev Lc:=Â (Str×É Nat)
def Cj (l:Lc)(env:En):En:=l.map λp=>p.2.bind λj=>(env[j]?).join
def ER.src (h:ER T ρ H env c)(l:Lc):ER T ρ H (Cj l env) (Ck l c):=by
 refine⟨by simp[Cj,Ck],λi v e=>?_⟩;unfold Cj at e;unfold Ck;rw[ê]at e⊢;cases b:l[i]? with
 |none=>rw[b]at e;cases e
 |some p=>
  rw[b]at e;obtain⟨n,o⟩:=p;cases o with
  |none=>cases e
  |some j=>
   have e:À ((env[j]?).join)=À (À v):=e;have d:env[j]?=À (À v):=by
    cases a:env[j]? with
    |none=>rw[a]at e;cases e
    |some q=>rw[a]at e;cases e;rfl
   obtain⟨x,f,k⟩:=h.get j v d;exact⟨x,by show À ((c[j]?).join)=_;rw[f];rfl,k⟩
def FY:gO:=λ_ _ _ _=>False
def R.calm {α:Type}:R α->R α
 |.ex _ _=>.bad
 |r=>r
@[simp] theorem CU (a:α) (s:S):(R.ok a s).calm=.ok a s:=rfl
@[simp] theorem zo:(R.bad:R α).calm=.bad:=rfl
def jk:Eb:=λ_ s=>.ok true s
def bh (d:Mt)(a:Eb)(elt:Ev)(gs:Gd):Â AV->En->S->Â AV->R (Â AV)
 |[],e,s,c=>open Classical in if u0 gs s then .ok c s else .bad
 |v::r,e,s,c=>open Classical in if u0 gs s then (match d v e s with
   |.nx f h=>(a f h).calm.bind λb g=>if b=true then (elt f g).calm.bind λx i=>bh d a elt gs r f i (c++[x])else bh d a elt gs r f g c
   |_=>.bad)else .bad
def Ż (l:Lc)(c:Src)(d:Mt)(b:Eb)(elt:Ev):gL:=λa s=>(c a s).bind λp e=>if p.1.length<=sizeLine then bh d b elt p.2 p.1 (Cj l a) e []else .bad
def Il:JN X [] (jV T XE jk):=λa s e H Q I ⟨g,b,st,d,f,c⟩=>LV a s e H Q I (vU c d)
def Im (h:PT X c (jV T XE m)):JN X [c] (jV T XE m):=LW h
def CY (h:tL T XE (Ż l src F n elt) σ H Q):IT l (tW T XE src) (tT T FY F) (jV T FY n) (tE T FY elt) σ H Q:=by
 obtain⟨ρ,B,s,hs,he,u⟩:=h;refine⟨ρ,B,s,hs,he,?_⟩;unfold Ż at u;cases e:src B s with
 |bad=>rw[e]at u;exact u
 |ex c s1=>rw[e]at u;exact u
 |ok p s1=>
  rw[e]at u;obtain⟨xs,gs⟩:=p;obtain⟨y,u⟩:=u.ū;have y:xs.length<=sizeLine:=y;intro o H1 J u1 w wk D hD;have wk:Walks T o H1 xs gs J:=wk;have nD:D∉o:=w.out hD;refine⟨λi m P UX A=>m=xs.length-i/\i<=xs.length/\P.length<=i/\∃f g s' j,Up o H1 f A/\SR T f s' A/\ER T f A g UX/\A D=À (.lst P)/\D∉f/\Ĭ T f A j P/\Out T XE (rL T) ρ H (bh F n elt gs (xs.drop i) g s' j) Q,
   ⟨_,rfl,ĩ _,Í _,o,Cj l B,s1,[],w.eT hD,w.new hD,((he.up u1).up (w.eT hD)).src l,ă,nD,.nil,u⟩,?_⟩
  rintro i m P UX A ⟨rfl,hi,hy,f,g,s',j,u',E,ZR,hd,Yz,ka,d⟩;by_cases t:i<xs.length
  ·rw[yP t]at d;unfold bh at d;obtain⟨C,d⟩:=d.ū;obtain⟨w1,w2⟩:=(wk.turn f s' A u' E C).1 i xs[i] (Å t);refine .inr ⟨w1,λx H'' hy'=>?_⟩;obtain⟨y1,y2,y3⟩:=w2 x H'' hy';refine⟨f,g,s',xs[i],y2,ZR.up y1,y3,?_⟩;have U:=y1.fr D _ hd Yz;have ka1:=ka.up y1;cases N:F xs[i] g s' with
   |nx M s2=>
    simp only[N]at d;refine λXq H2 UZ u2 QA q=>⟨Xq,M,s2,QA,q,?_⟩
    have Y:=u2.fr D _ U.1 U.2;have ka2:=ka1.up u2;cases eb:n M s2 with
    |bad=>simp only[eb,zo,oC]at d;exact d.elim
    |ex c s3=>simp only[eb,R.calm,oC]at d;exact d.elim
    |ok b s3=>
     simp only[eb,CU,â]at d;intro I H3 b' O YK ZP;cases (show b=b' from ZP);have r:=O.fr D _ Y.1 Y.2;have Z:=ka2.up O;have YP:Up o H1 I H3:=((u'.trans y1).trans u2).trans O;cases b with
     |false=>
      rw[Ö (by decide)]at d⊢;exact⟨xs.length-(i+1),by lia,rfl,t,by lia,I,M,s3,j,YP,YK,q.up O,r.1,r.2,Z,d⟩
     |true=>
      rw[Ì rfl]at d⊢;refine⟨I,M,s3,YK,q.up O,?_⟩;cases ev:elt M s3 with
      |bad=>simp only[ev,zo,oC]at d;exact d.elim
      |ex c s4=>simp only[ev,R.calm,oC]at d;exact d.elim
      |ok v s4=>
       simp only[ev,CU,â]at d;intro L H4 x4 u4 sr4 vr4;have k:=u4.fr D _ r.1 r.2;have ka4:=Z.up u4;have g5:Gr L H4 L (upd H4 D (.lst (P++[x4]))):=VP k.1;refine⟨k.1,by lia,xs.length-(i+1),by lia,rfl,t,by rw[ć];exact u7 hy,L,M,s4,j++[v],(YP.trans u4).mod hD k.2,sr4.up g5 λa ha=>ä λz=>k.2 (z▸ha),((q.up O).up u4).gr g5,ă,k.2,(ka4.append (.one vr4)).gr g5,d⟩
   |ex c s1=>simp only[N]at d;exact d.elim
   |rt v s2=>simp only[N]at d;exact d.elim
   |bk v s2=>simp only[N]at d;exact d.elim
   |ct v s2=>simp only[N]at d;exact d.elim
   |bad=>simp only[N]at d;exact d.elim
  ·have e:i=xs.length:=by lia
   subst e;rw[MJ]at d;unfold bh at d;obtain⟨C,d⟩:=d.ū;exact .inl ⟨(wk.turn f s' A u' E C).2,d f A (.ref D) (u1.trans u') E ⟨D,P,rfl,u1.live D hD,Yz,hd,ka⟩⟩
def Li (l:Lc)(f:eQ X scope l)(b:X.calm=true)(o:PI X k a (tW T XE i))
  (n:∀cl C c d A,PG (ag X l scope cl C c d A) k (tT T FY j)) (p:∀cl C c d A,JN (ag X l scope cl C c d A) g (jV T FY e)) (m:∀cl C c d A,PE (ag X l scope cl C c d A) elt (tE T FY q))
  (hs:∀x,eg a X.env x=pure x:=by intro _;rfl):PE X (.ListComp elt [⟨k,a,g,0⟩] scope pos) (tL T XE (Ż l i j e q)):=
 PE.imp (LK l f b o n p m hs) λ_ _ _ h=>CY h
def Pp (h:tE T XE (ī r) v H Q):tL T XE r v H Q:=by
 obtain⟨t,f,s,p,o,b⟩:=h;refine⟨t,f,s,p,o,?_⟩;unfold ī at b;cases e:r f s with
 |bad=>rw[e]at b;exact b
 |ex c q=>rw[e]at b;exact b
 |ok w q=>
  rw[e]at b;rintro d A x u i ⟨a,y,j,l,m,n,k⟩;subst j;have g:Gr d A (d++[a]) A:=⟨fB _ _,λ_ _ z=>z,λ_ _ _ z=>z⟩
  refine b (d++[a]) A (.ref a) (u.add l) (i.add m (OR.lst n (k.gr g))) (n7 (T:=T) (H:=A) ?_);rw[ñ (by rw[i.len];exact Í _),i.len,sN];rfl
def BX (l:Lc)(j:eQ X scope l)(b:X.calm=true)(p:X.N.Nodup)(s:PI X n a (tW T XE m))
  (r:∀cl C c e A,PG (ag X l scope cl C c e A) n (tT T FY o)) (t:∀cl C c e A,JN (ag X l scope cl C c e A) d (jV T FY g)) (q:∀cl C c e A,PE (ag X l scope cl C c e A) elt (tE T FY w))
  (v:X.N[i]?=À y:=by rfl) (u:X.env.scope.names.lookup y=À .local:=by rfl)
  (k:fb (.ListComp elt [⟨n,a,d,0⟩] scope pos) (À (.Name y z)) f.line X.env=pure true:=by rfl)
  (hs:∀x,eg a X.env x=pure x:=by intro _;rfl) :
  PS X (.Assign [.Name y z] (.ListComp elt [⟨n,a,d,0⟩] scope pos) f) (tS T XE (Š i (ī (Ż l m o g w)))):=
 PS.imp (B6 l j b p v u s r t q k hs) λD B H h=>CY (Pp (Gm h))
noncomputable def dU (n:Nat)(body:Ms):Â AV->S->R AV:=λa s=>match body (a.map À++è (n-a.length) none) s with
 |.rt v b=>.ok v b
 |.nx _ b=>.ok .Ě b
 |.ex c b=>.ex c b
 |_=>.bad
def zG (N:Â Str)(k:Ĭ T ρ H args vs):ER T ρ H (args.map À++è (N.length-args.length) none) (L2.start N vs):=by
 refine⟨by simp[L2.start,k.length],λi v e=>?_⟩;unfold L2.start;have a:i<args.length:=by
  by_cases a:i<args.length
  ·exact a
  ·rw[ñ (by simpa using a),lr]at e;split at e<;>cases e
 rw[Ü (by simpa using a),ê]at e;cases b:args[i]? with
 |none=>rw[b]at e;cases e
 |some w=>
  rw[b]at e;cases e;obtain⟨x,c,q⟩:=k.get b;exact⟨x,by rw[Ü (by simpa[<-k.length]using a),ê,c];rfl,q⟩
def ě (n:Nat)(F:Â AV->S->R AV)(r:gL):Ev:=λa s=>(r a s).bind λb c=>if b.length=n then F b c else .bad
end
end Mm
namespace Ro
open PySem L2
def yK (top a:Int):Int:=if a<0 then -((ė top a:Nat):Int)else ((ė top a:Nat):Int)
def fr (top a:Int):Int×Int:=(top.fdiv (yK top a),a.fdiv (yK top a))
def mB (h:b≠0):0<ė t b:=Int.gcd_pos_of_ne_zero_right t h
def BE (t b:Int):(yK t b).natAbs=ė t b:=by
 unfold yK;split<;>lia
def EO (t b:Int):yK t b ∣ t:=by
 unfold yK;split
 ·exact(Xw).mpr (u6 ..)
 ·exact u6 ..
def ES (t b:Int):yK t b ∣ b:=by
 unfold yK;split
 ·exact(Xw).mpr (sL ..)
 ·exact sL ..
def aC {a g:Int}(h:g ∣ a):a.fdiv g*g=a:=Int.fdiv_mul_cancel h
def GW (h:y ∣ x*v)(b:ė x y=1):y ∣ v:=by
 have a:y.natAbs ∣ x.natAbs*v.natAbs:=by rw[<-jz];exact hW.mpr h
 have c:Xy y.natAbs x.natAbs:=by
  show MN y.natAbs x.natAbs=1;rw[Nat.gcd_comm];exact b
 exact hW.mp (c.dvd_of_dvd_mul_left a)
def R6 (t b:Int):(fr t b).1*yK t b=t:=aC (EO t b)
def Og (t b:Int):(fr t b).2*yK t b=b:=aC (ES t b)
def G3 (t b:Int)(h:b≠0):(fr t b).1*b=t*(fr t b).2:=by
 have a:=R6 t b;have c:=Og t b;generalize (fr t b).1=x at *
 generalize (fr t b).2=y at *
 generalize yK t b=g at *
 subst a;rw[<-c];rw[mI y g,<-kM,jy]
def Of (t b:Int)(h:b≠0):1<=(fr t b).2:=by
 have f:=Og t b;have i:=mB (t:=t) h;have d:(yK t b<0/\b<0)∨(0<yK t b/\0<b):=by
  unfold yK;split
  ·left;lia
  ·right;lia
 generalize (fr t b).2=y at *
 generalize yK t b=g at *
 rcases d with⟨a,c⟩|⟨a,c⟩
 ·refine JW.mp λe=>?_;have:0<=y*g:=Int.mul_nonneg_of_nonpos_of_nonpos (by lia) (by lia);lia
 ·refine JW.mp λe=>?_;have:y*g<=0:=rk (by lia) (by lia);lia
def Oe (t b:Int)(h:b≠0):ė (fr t b).1 (fr t b).2=1:=by
 have a:=R6 t b;have c:=Og t b;have d:=mB (t:=t) h;have f:=BE t b;have e:ė ((fr t b).1*yK t b) ((fr t b).2*yK t b)=ė (fr t b).1 (fr t b).2*(yK t b).natAbs:=MH ..;rw[a,c,f]at e;have:1*ė t b=ė (fr t b).1 (fr t b).2*ė t b:=by rw[XA];exact e
 exact(yR d this).symm
def C6 (a:b≠0)(n:1<=y)(h:ė x y=1)(i:x*b=t*y):fr t b=(x,y):=by
 have o:=Of t b a;have l:=Oe t b a;have m:=G3 t b a;have e:x*(fr t b).2=(fr t b).1*y:=by
  refine jw a ?_;have d:x*(fr t b).2*b=x*b*(fr t b).2:=jy ..;have f:(fr t b).1*y*b=(fr t b).1*b*y:=jy ..;rw[d,f,i,m,jy]
 generalize j:(fr t b).1=u at *
 generalize k:(fr t b).2=v at *
 have d1:y ∣ v:=by
  have:y ∣ x*v:=⟨u,by rw[e,mI]⟩
  exact GW this h
 have d2:v ∣ y:=by
  have:v ∣ u*y:=⟨x,by rw[<-e,mI]⟩
  exact GW this l
 have c:v=y:=Int.dvd_antisymm (by lia) (by lia) d2 d1;have g:u=x:=by
  rw[c]at e;exact(jw (by lia) e).symm
 rw[show fr t b=(u,v)from by rw[<-j,<-k],g,c]
noncomputable def low (top a:Int):Int×Int:=
 (((if a<0 then -1 else 1)*top).fdiv ((ė top a:Nat):Int),((if a<0 then -1 else 1)*a).fdiv ((ė top a:Nat):Int))
def boot_abs:Ĳ "abs"=À (.builtin "abs"):=by decide+kernel
def boot_divmod:Ĳ "divmod"=À (.builtin "divmod"):=by decide+kernel
def boot_list:Ĳ "list"=À (.type "list"):=by decide+kernel
def boot_tuple:Ĳ "tuple"=À (.type "tuple"):=by decide+kernel
def boot_int:Ĳ "int"=À (.type "int"):=by decide+kernel
def boot_bool:Ĳ "bool"=À (.type "bool"):=by decide+kernel
def boot_str:Ĳ "str"=À (.type "str"):=by decide+kernel
def boot_isinstance:Ĳ "isinstance"=À (.builtin "isinstance"):=by decide+kernel
def boot_all:Ĳ "all"=À (.builtin "all"):=by decide+kernel
def kne:¬(("cells":Str)="turn"):=by decide+kernel
def WA:(10:Int)^(18:Int).toNat=1000000000000000000:=by decide+kernel
end Ro
namespace L2
open PySem PySem.Spec PyProof.Rows
def RF (K:Ç)(H:Hp)(x:V)(t:String):Prop:=match x with
 |.Ě=>t="NoneType"
 |.bl _=>t="bool"
 |.int _=>t="int"
 |.str _=>t="str"
 |.ref a=>(t="tuple"/\∃xs,gp K H a xs)∨(t="list"/\∃xs,gM K H a xs)∨(t="dict"/\((∃b,H a=À (.dK b))∨∃b,H a=À (.dT b)))
 |_=>False
def WH (K:Ç):Â V->Hp->VK->Prop:=λxs H Q=>∃t x n b,xs=[x,.ty n]/\RF K H x t/\mO K (.type t) (.type n)=À b/\Q (.bl b) H
def GB:cQ X (.builtin "isinstance") (WH X.K):=by
 intro i s D H xs us Q I r h;obtain⟨t,x,n,b,rfl,hd,e,q⟩:=h;obtain⟨u,B,rfl,j,w⟩:=vals2 r;obtain rfl:B=gK n:=w;have c:∀A,EP X i D Q (.bool b) {s with toks:=A}:=λA=>⟨.bl b,H,I.tok A,rfl,q⟩
 cases x with
 |Ě=>cases (show t=_ from hd);exact mC I j .Ě e c
 |bl y=>cases (show t=_ from hd);exact mC I j (.bl y) e c
 |int y=>cases (show t=_ from hd);exact mC I j (.int y) e c
 |str y=>cases (show t=_ from hd);exact mC I j (.str y) e c
 |ref a=>
  cases j;rcases hd with⟨rfl,C,v⟩|⟨rfl,C,v⟩|⟨rfl,g⟩
  ·obtain⟨l,_,p,_⟩:=I.tuple v;obtain⟨o,d,f,_⟩:=p;exact ı Ea I.kG ⟨o,d,f⟩ e (λz=>nomatch z) c
  ·obtain⟨l,_,p,_⟩:=I.list v;obtain⟨o,d,f,_⟩:=p.isList;exact ı pR I.kG ⟨o,d,f⟩ e (λz=>nomatch z) c
  ·have z:∃o,s.heap.get? a=À o/\o.ExactDict:=by
    rcases g with⟨m,g⟩|⟨m,g⟩
    ·obtain⟨_,_,_,_,o,_,_,e,k,_⟩:=I.Ů a _ g;exact⟨o,e,k⟩
    ·obtain⟨_,_,_,_,o,_,_,e,k,_⟩:=I.Ů a _ g;exact⟨o,e,k⟩
   obtain⟨o,d,f⟩:=z;exact ı pQ I.kG ⟨o,d,f.1⟩ e (λz=>nomatch z) c
 |Bm y=>exact aB hd
 |M0 y=>exact aB hd
 |ty y=>exact aB hd
end L2
namespace Mm
open PySem L2
section
variable {T:Tx}{XE:gO}{X:Cx}{pos:jA}
def Tg (T:Tx)(XE:gO)(op:Â AV->S->R AV):Â V->Hp->VK->Prop:=λc H Q=>∃b a s,SR T b s H/\Ĭ T b H a c/\Out T XE (rV T) b H (op a s) Q
def WD {α:Type}(T:Tx)(XE:gO)(d:Rl α V)(op:Â AV->S->R α):Â V->Hp->VK->Prop:=λe H Q=>∃a b c xs s,e=[.ref a]/\SR T c s H/\(gM T.K H a b∨gp T.K H a b)/\Ĭ T c H xs b/\Out T XE d c H (op xs s) Q
def A2 (op:Â AV->S->R AV)(r:gL):Ev:=λa s=>(r a s).bind op
def vo {α:Type}(op:Â AV->S->R α)(r:gL):En->S->R α:=λa s=>(r a s).bind op
def RO (h:tE T XE (A2 op r) l H Q):Rc (Tg T XE op) (tP T XE r) l H Q:=by
 obtain⟨n,e,s,j,g,i⟩:=h;exact step j g i λv k d A x _ m b f c a=>⟨d,v,k,b,c,a⟩
def RT (h:tG T XE m (vo op r) p H Q):Rc (WD T XE m op) (wx (tQ T XE r) Cp) p H Q:=by
 obtain⟨u,f,s,l,i,j⟩:=h;refine step l i j λv n e A x _ t c g d b=>?_;obtain⟨a,o,rfl,q,k⟩:=d;exact⟨a,o,e,v,n,rfl,c,q,k,b⟩
def OQ {id:String}{op:Â AV->S->R AV}{a:Â Expr}{r:gL}(f:cQ X (.builtin id) (Tg T XE op)) (j:X.mg x=none)(l:Ĳ x=À (.builtin id)) (d:PA X (e::a) (tP T XE r)) (i:Gl X x:=by rfl)(k:x≠"__name__":=by decide)(b:(x == ("__debug__":Str))=false:=by decide)
  (g:Î (e::a) X.env=(false,ģ e X.env)::Î a X.env:=by rfl) (c:(ĺ pos (Î a X.env)).any (·.1)=false:=by rfl):PE X (.Call (.Name x p) (e::a) [] pos) (tE T XE (A2 op r)):=
 PE.imp (gD f i j l d k b g c) λ_ _ _ h=>RO h
def We {α:Type}{d:Rl α V}{id:String}{op:Â AV->S->R α}{r:gL}(g:cQ X (.type id) (WD T XE d op)) (j:X.mg x=none)(l:Ĳ x=À (.type id)) (f:PE X e (tQ T XE r)) (i:Gl X x:=by rfl)(k:x≠"__name__":=by decide)(a:(x == ("__debug__":Str))=false:=by decide)
  (c:Î [e] X.env=(false,ģ e X.env)::Î [] X.env:=by rfl) (b:(ĺ pos (Î [] X.env)).any (·.1)=false:=by rfl):PE X (.Call (.Name x p) [e] [] pos) (tG T XE d (vo op r)):=
 PE.imp (Fw g i j l (cu f iM c) k a c b) λ_ _ _ h=>RT h
def wh:Â AV->S->R AV
 |[.int i],s=>.ok (.int (if i<0 then -i else i)) s
 |_,_=>.bad
def Ĭ.iq (h:Ĭ T ρ H [v] xs):∃x,xs=[x]/\VR T ρ H v x:=by
 obtain⟨x,c,rfl,a,b⟩:=h.cons_inv;cases b.nil_inv;exact⟨x,rfl,a⟩
def Ĭ.two_inv (h:Ĭ T ρ H [v,w] xs):∃x y,xs=[x,y]/\VR T ρ H v x/\VR T ρ H w y:=by
 obtain⟨x,d,rfl,a,b⟩:=h.cons_inv;obtain⟨y,rfl,c⟩:=b.iq;exact⟨x,y,rfl,a,c⟩
def cAbs:cQ X (.builtin "abs") (Tg T XE wh):=by
 rintro a s f H xs us Q I r ⟨g,c,st,d,e,b⟩;unfold wh at b;split at b
 ·obtain⟨x,rfl,k⟩:=e.iq;cases k.int_inv;exact GA a s f H _ us Q I r ⟨_,rfl,b.Ł d bJ⟩
 ·exact b.elim
noncomputable def S3:Â AV->S->R AV
 |[.int i,.int j],s=>.ok (.int (if j<i then j else i)) s
 |_,_=>.bad
def l0:Â AV->S->R AV
 |[.int i,.int j],s=>if 0<j/\Q5 j then .ok (.tup [.int (i / j),.int (i % j)]) s else .bad
 |_,_=>.bad
def Km:cQ X (.builtin "divmod") (Tg T XE l0):=by
 rintro b s i H xs us Q I r ⟨j,c,st,g,h,a⟩;unfold l0 at a;split at a
 ·obtain⟨x,y,rfl,k,e⟩:=h.two_inv;cases k.int_inv;cases e.int_inv;obtain⟨hl,a⟩:=a.ū;exact xg b s i H _ us Q I r ⟨_,_,rfl,⟨hl.1,hl.2.f⟩,λp d=>a.tup g d (.cons bJ (.one bJ))⟩
 ·exact a.elim
noncomputable def Nh:Â AV->S->R AV
 |[.int i],s=>.ok (.int i) s
 |[.bl b],s=>.ok (.int (if b then 1 else 0)) s
 |_,_=>.bad
def kI:Â AV->S->R AV
 |[.str z],s=>if z.length<=sizeLine then .ok (.int z.length) s else .bad
 |[v],s=>need (items v s) λxs=>.ok (.int xs.length) s
 |_,_=>.bad
def Vy (j:X.K=T.K):cQ X (.builtin "len") (Tg T XE kI):=by
 rintro c s g H xs us Q I r ⟨n,d,st,f,h,b⟩;have rest:∀v,d=[v]->Out T XE (rV T) n H (need (items v st) λxs=>.ok (.int xs.length) st) Q->Ø (Û X.prog X.w) X.A (call (.builtin "len") us) (EP X c g Q) X.xe s:=by
  rintro v rfl b;obtain⟨o,e,b⟩:=b.ü;obtain⟨x,rfl,k⟩:=h.iq;obtain⟨a,m,rfl,i,l⟩:=qg e f k;exact xh c s g H _ us Q I r ⟨a,m,rfl,by rw[j];exact i,by rw[<-l.length];exact b.Ł f bJ⟩
 unfold kI at b;split at b
 ·obtain⟨x,rfl,k⟩:=h.iq;cases k.str_inv;obtain⟨hl,b⟩:=b.ū;exact xi c s g H _ us Q I r ⟨_,rfl,hl,b.Ł f bJ⟩
 ·exact rest _ rfl b
 ·exact b.elim
noncomputable def oM:Â AV->É (Â Int)
 |[]=>À []
 |.int i::r=>(oM r).map (i::·)
 |_::_=>none
noncomputable def vi:Â AV->É (Â Bool)
 |[]=>À []
 |.bl i::r=>(vi r).map (i::·)
 |_::_=>none
theorem vV:∀{l:Â AV}{ns:Â Int},oM l=À ns->l=ns.map .int
 |[],_,h=>by cases h;rfl
 |v::r,ns,h=>by
  cases v<;>try cases h
  rename_i i;cases e:oM r with
  |none=>rw[show oM (.int i::r)=(oM r).map (i::·)from rfl,e]at h;cases h
  |some q=>
   rw[show oM (.int i::r)=(oM r).map (i::·)from rfl,e]at h;cases h;rw[vV e];rfl
theorem zk:∀{l:Â AV}{ns:Â Bool},vi l=À ns->l=ns.map .bl
 |[],_,h=>by cases h;rfl
 |v::r,ns,h=>by
  cases v<;>try cases h
  rename_i i;cases e:vi r with
  |none=>rw[show vi (.bl i::r)=(vi r).map (i::·)from rfl,e]at h;cases h
  |some q=>
   rw[show vi (.bl i::r)=(vi r).map (i::·)from rfl,e]at h;cases h;rw[zk e];rfl
def Fz (xs:Â AV)(s:S):R AV:=need (vi xs) λa=>.ok (.bl (a.all id)) s
def Q_ {α:Type}(T:Tx)(XE:gO)(d:Rl α V)(op:Â AV->S->R α):Â V->Hp->VK->Prop:=λe H Q=>∃a c b xs s,e=[.ref a]/\SR T b s H/\H a=À (.lst c)/\Ĭ T b H xs c/\Out T XE d b H (op xs s) Q
def RQ (h:tG T XE m (vo op r) p H Q):Rc (Q_ T XE m op) (wx (tL T XE r) Cp) p H Q:=by
 obtain⟨u,f,s,l,i,j⟩:=h;refine step l i j λv n e A x _ t c g d b=>?_;obtain⟨a,o,rfl,_,_,q,k⟩:=d;exact⟨a,o,e,v,n,rfl,c,q,k,b⟩
def ua (m:Ev):gL:=λa s=>(m a s).bind λv b=>match v with
 |.ref i=>need (ö b i) λxs=>.ok xs b
 |_=>.bad
def NZ (h:tG T XE t (vo op (ua m)) w H Q):Rc (Q_ T XE t op) (wx (tE T XE m) Cp) w H Q:=by
 obtain⟨z,c,s,r,p,n⟩:=h;have e:vo op (ua m) c s=(m c s).bind λv f=>(match v with
   |.ref i=>need (ö f i) λxs=>(.ok xs f:R (Â AV))
   |_=>.bad).bind op:=by
  unfold vo ua;cases m c s<;>rfl
 rw[e]at n;refine step r p n λv f j A x _ y g o d b=>?_;have d:VR T j A v x:=d;cases v with
 |ref i=>
  cases l:ö f i with
  |none=>simp only[l]at b;exact b.elim
  |some xs=>
   simp only[l,õ,â]at b;obtain⟨a,u,rfl,_,q,k⟩:=g.eR (Ē l) d;exact⟨a,u,j,xs,f,rfl,g,q,k,b⟩
 |_=>exact b.elim
def SM {α:Type}{d:Rl α V}{id:String}{op:Â AV->S->R α}{r:gL}(g:cQ X (.builtin id) (Q_ T XE d op)) (j:X.mg x=none)(l:Ĳ x=À (.builtin id)) (f:PE X e (tL T XE r)) (i:Gl X x:=by rfl)(k:x≠"__name__":=by decide)(a:(x == ("__debug__":Str))=false:=by decide)
  (c:Î [e] X.env=(false,ģ e X.env)::Î [] X.env:=by rfl) (b:(ĺ pos (Î [] X.env)).any (·.1)=false:=by rfl):PE X (.Call (.Name x p) [e] [] pos) (tG T XE d (vo op r)):=
 PE.imp (gD g i j l (cu f iM c) k a c b) λ_ _ _ h=>RQ h
def Nd {α:Type}{d:Rl α V}{id:String}{op:Â AV->S->R α}{r:Ev}(g:cQ X (.builtin id) (Q_ T XE d op)) (j:X.mg x=none)(l:Ĳ x=À (.builtin id)) (f:PE X e (tE T XE r)) (i:Gl X x:=by rfl)(k:x≠"__name__":=by decide)(a:(x == ("__debug__":Str))=false:=by decide)
  (c:Î [e] X.env=(false,ģ e X.env)::Î [] X.env:=by rfl) (b:(ĺ pos (Î [] X.env)).any (·.1)=false:=by rfl):PE X (.Call (.Name x p) [e] [] pos) (tG T XE d (vo op (ua r))):=
 PE.imp (gD g i j l (cu f iM c) k a c b) λ_ _ _ h=>NZ h
def RK (f:X.calm=true):cQ X (.builtin "all") (Q_ T XE (rV T) Fz):=by
 rintro b s i H xs us Q I r ⟨a,j,m,l,st,e,h,d,k,c⟩;subst e;obtain⟨g,e,c⟩:=c.ü;rw[zk e]at k;rw[k.CT]at d;exact Eu f b s i H _ us Q I r ⟨a,g,rfl,gM.of d,c.Ł h eU⟩
def DF (xs:Â AV)(s:S):R (Â AV):=.ok xs s
def RL (d:X.K=T.K):cQ X (.type "list") (WD T XE (rL T) DF):=by
 rintro b s i H xs us Q I r ⟨a,h,m,j,st,e,g,c,k,f⟩;subst e;exact xj b s i H _ us Q I r ⟨a,h,rfl,by rw[d];exact c,λl hl=>f.lst g hl k⟩
noncomputable def DO (v:AV)(s:S):É String:=match v with
 |.Ě=>À "NoneType"
 |.bl _=>À "bool"
 |.int _=>À "int"
 |.str _=>À "str"
 |.tup _=>À "tuple"
 |.sq _=>À "list"
 |.ref i=>match s[i]? with
  |some (.lst _)=>À "list"
  |some (.dK _)=>À "dict"
  |some (.dT _)=>À "dict"
  |_=>none
def fz:Â String:=["NoneType","bool","int","str","tuple","list","dict"]
def fI (t n:String):Bool:=t == n||(t == "bool" && n == "int")
def OE (b:t∈fz)(a:n∈fz):mO K (.type t) (.type n)=À (fI t n):=by
 simp only[fz,ò,bg,nF]at b a;rcases b with rfl|rfl|rfl|rfl|rfl|rfl|rfl<;>rcases a with rfl|rfl|rfl|rfl|rfl|rfl|rfl<;>rfl
def Mv (h:DO v s=À t)(m:SR T ρ s H)(j:VR T ρ H v x):RF T.K H x t/\t∈fz:=by
 cases v with
 |Ě=>cases j.il;cases h;exact⟨rfl,by simp[fz]⟩
 |bl c=>cases j.iD;cases h;exact⟨rfl,by simp[fz]⟩
 |int c=>cases j.int_inv;cases h;exact⟨rfl,by simp[fz]⟩
 |str c=>cases j.str_inv;cases h;exact⟨rfl,by simp[fz]⟩
 |tup c=>obtain⟨a,f,rfl,d,k⟩:=j.cx;cases h;exact⟨.inl ⟨rfl,f,d⟩,by simp[fz]⟩
 |sq c=>obtain⟨a,f,rfl,d,k⟩:=j.hJ;cases h;exact⟨.inr (.inl ⟨rfl,f,d.FK⟩),by simp[fz]⟩
 |ref i=>
  have h:(match s[i]? with
  |some (.lst _)=>À "list"
  |some (.dK _)=>À "dict"
  |some (.dT _)=>À "dict"
  |_=>none)=À t:=h
  obtain⟨a,l,rfl⟩:=j.fx;split at h
  ·rename_i xs e;cases h;obtain⟨b,g,f,d,_⟩:=m.obj i _ e;rw[l]at g;cases g;exact⟨.inr (.inl ⟨rfl,f,gM.of d⟩),by simp[fz]⟩
  ·rename_i xs e;cases h;obtain⟨b,g,f,d,_⟩:=m.obj i _ e;rw[l]at g;cases g;exact⟨.inr (.inr ⟨rfl,.inl ⟨f,d⟩⟩),by simp[fz]⟩
  ·rename_i xs e;cases h;obtain⟨b,g,f,d,_⟩:=m.obj i _ e;rw[l]at g;cases g;exact⟨.inr (.inr ⟨rfl,.inr ⟨f,d⟩⟩),by simp[fz]⟩
  ·cases h
def gC (n:String)(v:AV)(s:S):R AV:=need (DO v s) λt=>.ok (.bl (fI t n)) s
def O0 (y:X.K=T.K)(C:n∈fz)(B:X.mg "isinstance"=none)(i:X.mg nm=none)(l:Ĳ nm=À (.type n)) (z:PE X e (tE T XE m)) (A:Gl X "isinstance":=by rfl)(h:Gl X nm:=by rfl)(j:nm≠"__name__":=by decide)(f:(nm == ("__debug__":Str))=false:=by decide)
  (d:Î [e,.Name nm b] X.env=(false,ģ e X.env)::Î [.Name nm b] X.env:=by rfl) (g:Î [.Name nm b] X.env=(false,ģ (.Name nm b) X.env)::Î [] X.env:=by rfl) (k:(ĺ pos (Î [.Name nm b] X.env)).any (·.1)=false:=by rfl) :
  PE X (.Call (.Name "isinstance" p) [e,.Name nm b] [] pos) (tE T XE (aI (gC n) m)):=
 PE.imp (gD GB A B Ro.boot_isinstance (cu z (cu (LH (v:=.ty n) h i l rfl j f) iM g) d) (by decide) (by decide) d k) λO H Q F=>ś F λN q s E d D=>
  step E d D λv L I J x _ M c r o a=>by
   obtain⟨t,e,a⟩:=a.ü;obtain⟨u,w⟩:=Mv e c o;exact⟨t,x,n,_,rfl,by rw[y];exact u,OE w C,a.Ł c eU⟩
def Ra (T:Tx)(XE:gO)(op:AV->Â AV->S->R AV):V->Â V->Hp->VK->Prop:=λx xs H Q=>∃a v b s,SR T a s H/\VR T a H v x/\Ĭ T a H b xs/\Out T XE (rV T) a H (op v b s) Q
def jL (n:String)(v:AV)(s:S):É Unit:=match v,n with
 |.str _,"str"=>À ()
 |.sq _,"list"=>À ()
 |.ref i,"list"=>(ö s i).map λ_=>()
 |.ref i,"dict"=>match s[i]? with
  |some (.dK _)=>À ()
  |some (.dT _)=>À ()
  |_=>none
 |_,_=>none
def tY (h:jL n v s=À ()) (j:SR T ρ s H)(g:VR T ρ H v x):UR T.K n x H:=by
 unfold jL at h;split at h
 ·cases g.str_inv;rfl
 ·obtain⟨a,d,rfl,c,k⟩:=g.hJ;exact .inl ⟨rfl,d,c.FK⟩
 ·rename_i i;cases e:ö s i with
  |none=>rw[e]at h;cases h
  |some xs=>
   obtain⟨a,d,rfl,_,c,k⟩:=j.eR (Ē e) g;exact .inl ⟨rfl,d,gM.of c⟩
 ·rename_i i;obtain⟨a,l,rfl⟩:=g.fx;split at h
  ·rename_i xs e;obtain⟨b,f,d,c,_⟩:=j.obj i _ e;rw[l]at f;cases f;exact .inr (.inr (.inl ⟨rfl,.inl ⟨d,c⟩⟩))
  ·rename_i xs e;obtain⟨b,f,d,c,_⟩:=j.obj i _ e;rw[l]at f;cases f;exact .inr (.inr (.inl ⟨rfl,.inr ⟨d,c⟩⟩))
  ·cases h
 ·cases h
def eN (n:String)(op:AV->Â AV->S->R AV)(o:Ev)(r:gL):Ev:=λa s=>(o a s).bind λv b=>need (jL n v b) λ_=>(r a b).bind λd c=>op v d c
def O7 (h:tE T XE (eN n op o r) z H Q):W9 T.K n (Ra T XE op) (tE T XE o) (tP T XE r) z H Q:=by
 obtain⟨E,k,s,q,m,p⟩:=h;refine step q m p λv C y A x _ D b d c a=>?_;obtain⟨_,e,a⟩:=a.ü;exact⟨tY e b c,step b d a λw t j B xs _ u g l i f=>⟨j,v,w,t,g,VR.up u c,i,f⟩⟩
def xN {n id:String}{c:Â Expr}{op:AV->Â AV->S->R AV}{m:Ev}{r:gL}(l:X.K=T.K)(t:u9 n)(j:Slot n name id)(k:Rx (.builtin id)=pure (.type "method_descriptor")) (q:CK X id (Ra T XE op)) (s:PE X o (tE T XE m)) (p:PA X (e::c) (tP T XE r))
  (d:bG o name X.env (ģ o X.env)=ģ o X.env:=by rfl)
  (i:((ĺ a (Î (e::c) X.env)).all (λx=>!x.1)&&(h_ a (cc [] X.env)).all (λx=>x.1.isSome)
   && decide ((e::c).length+([]:Â jX).length+(if ([]:Â jX).isEmpty then 0 else 1)<30))=true:=by rfl)
  (f:(g.endLine == a.line)=true:=by rfl) (hs:Î (e::c) X.env=(false,ģ e X.env)::Î c X.env:=by rfl) (b:(ĺ a (Î c X.env)).any (·.1)=false:=by rfl) :
  PE X (.Call (.Attribute o name g) (e::c) [] a) (tE T XE (eN n op m r)):=
 PE.imp (H0 l t j k q s p d i f hs b) λ_ _ _ h=>O7 h
def Nb (n:String)(op:AV->Â AV->S->R AV)(o:Ev):Ev:=λa s=>(o a s).bind λv b=>need (jL n v b) λ_=>op v [] b
def Out.WT (f:Out T XE h ρ H (.ok v (s.set i (.lst ys))) Q) (d:SR T ρ s H)(c:ρ[i]?=À a)(e:H a=À (.lst vs)) (k:Ĭ T ρ H ys ws)(g:h.r H ρ (upd H a (.lst ws)) v x):Q x (upd H a (.lst ws)):=by
 have b:Up ρ H ρ (upd H a (.lst ws)):=d.uJ c e (λ_ z=>nomatch z) (λ_ _ z=>nomatch z);exact f ρ _ x b (d.set c b (OR.lst ă (k.up b))) g
def Out.Nk (d:Out T XE (rV T) ρ H (.ok v (s.set i (.lst ys))) Q) (f:SR T ρ s H)(b:ρ[i]?=À a)(c:H a=À (.lst vs)) (k:Ĭ T ρ H ys ws)(e:VR T ρ (upd H a (.lst ws)) v x):Q x (upd H a (.lst ws)):=d.WT f b c k e
def a6:AV->Â AV->S->R AV
 |.ref i,[w],s=>need (ö s i) λxs=>if xs.length<sizeLine then .ok .Ě (s.set i (.lst (xs++[w])))else .bad
 |_,_,_=>.bad
def Kr:CK X "list.append" (Ra T XE a6):=by
 rintro c s n H x xs v us Q I i rv ⟨r,a,o,st,f,j,l,b⟩;unfold a6 at b;split at b
 ·obtain⟨q,e,b⟩:=b.ü;obtain⟨hl,b⟩:=b.ū;obtain⟨p,m,rfl,g,d,k⟩:=f.eR (Ē e) j;obtain⟨y,rfl,h⟩:=l.iq;exact we c s n H _ _ v us Q I i rv ⟨p,m,y,rfl,rfl,d,by rw[<-k.length];exact hl,b.Nk f g d (k.append (.one h)) uK⟩
 ·exact b.elim
noncomputable def ra:AV->Â AV->S->R AV
 |.ref i,[.int j],s=>need (ö s i) λxs=>if 0<=j/\j<xs.length then need xs[j.toNat]? λy=>.ok y (s.set i (.lst (xs.eraseIdx j.toNat)))else .bad
 |_,_,_=>.bad
theorem Ĭ.erase:∀{l:Â AV}{xs:Â V}(i:Nat),Ĭ T ρ H l xs->Ĭ T ρ H (l.eraseIdx i) (xs.eraseIdx i)
 |[],_,_,h=>by cases h.nil_inv;exact .nil
 |_::_,_,0,h=>by obtain⟨x,b,rfl,_,k⟩:=h.cons_inv;exact k
 |_::_,_,i+1,h=>by obtain⟨x,b,rfl,a,k⟩:=h.cons_inv;exact .cons a (Ĭ.erase i k)
def VB:CK X "list.pop" (Ra T XE ra):=by
 rintro c s D H x xs v us Q I u rv ⟨m,a,J,st,g,A,B,b⟩;unfold ra at b;split at b
 ·rename_i F j;obtain⟨L,e,b⟩:=b.ü;obtain⟨i,b⟩:=b.ū;obtain⟨y,n,b⟩:=b.ü;obtain⟨p,l,rfl,h,d,k⟩:=g.eR (Ē e) A;obtain⟨z,rfl,r⟩:=B.iq;cases r.int_inv;obtain⟨C,f,t⟩:=k.get n;have hl:=k.length;obtain⟨q,_,_,E⟩:=I.list (gM.of d);have o:=lX;have w:Up m H m (upd H p (.lst (l.eraseIdx j.toNat))):=g.uJ h d (λ_ z=>nomatch z) (λ_ _ z=>nomatch z);refine HJ c s D H _ _ v us Q I u rv ⟨p,l,j,j.toNat,C,rfl,rfl,d,by lia,by lia,Sj i.1 (by rw[<-hl];exact i.2),f,b.Nk g h d (k.erase _) (VR.up w t)⟩
 ·exact b.elim
section
variable {κ:Type} [ri κ]
def bE:Â (κ×AV)->κ->É AV
 |[],_=>none
 |p::r,k=>if p.1=k then À p.2 else bE r k
def kn (kvs:Â (κ×AV)) (k:κ)(v:AV):Â (κ×AV):=
 if (kvs.any λa=>decide (a.1=k))=true then kvs.map (λa=>if a.1=k then (a.1,v)else a)else kvs++[(k,v)]
theorem fA (k:κ):∀{kvs:Â (κ×AV)}{ks:Â (κ×V)},kvs.map (·.1)=ks.map (·.1)->Ĭ T ρ H (kvs.map (·.2)) (ks.map (·.2))->(∀v,bE kvs k=À v->∃x,iO ks k=À x/\VR T ρ H v x)/\(bE kvs k=none->iO ks k=none)
 |[],ks,e,h=>by
  cases ks with
  |nil=>exact⟨(λv z=>nomatch z),λ_=>rfl⟩
  |cons a r=>cases e
 |p::r,ks,e,h=>by
  cases ks with
  |nil=>cases e
  |cons q t=>
   rw[Õ,Õ,aO]at e;rw[Õ,Õ]at h;obtain⟨x,j,c,g,i⟩:=h.cons_inv;rw[aO]at c;obtain⟨d,f⟩:=fA k e.2 (c.2▸i);unfold bE;by_cases b:p.1=k
   ·rw[Ì b,l' (e.1▸b)];refine⟨λv z=>?_,λz=>nomatch z⟩;cases z;exact⟨q.2,rfl,c.1▸g⟩
   ·rw[Ö b,l_ (λz=>b (e.1.trans z))];exact⟨d,f⟩
def ye (k:κ)(b:VR T ρ H v x)(e:kvs.map (·.1)=ks.map (·.1)) (h:Ĭ T ρ H (kvs.map (·.2)) (ks.map (·.2))) :
  (kn kvs k v).map (·.1)=(putK ks k x).map (·.1)/\Ĭ T ρ H ((kn kvs k v).map (·.2)) ((putK ks k x).map (·.2)):=by
 have i:∀{kvs:Â (κ×AV)}{ks:Â (κ×V)},kvs.map (·.1)=ks.map (·.1)->(kvs.any λb=>decide (b.1=k))=(ks.any λb=>decide (b.1=k)):=by
  intro kvs;induction kvs with
  |nil=>intro ks e;cases ks with|nil=>rfl|cons a r=>cases e
  |cons p r g=>
   intro ks e;cases ks with
   |nil=>cases e
   |cons q t=>
    rw[Õ,Õ,aO]at e;rw[a',a',g e.2,e.1]
 unfold kn putK;rw[i e];by_cases c:(ks.any λb=>decide (b.1=k))=true
 ·rw[Ì c,Ì c];clear c i;induction kvs generalizing ks with
  |nil=>cases ks with|nil=>exact⟨rfl,.nil⟩|cons a r=>cases e
  |cons p r g=>
   cases ks with
   |nil=>cases e
   |cons q t=>
    rw[Õ,Õ,aO]at e;rw[Õ,Õ]at h;obtain⟨y,o,f,m,n⟩:=h.cons_inv;rw[aO]at f;obtain⟨j,l⟩:=g e.2 (f.2▸n);simp only[Õ,e.1];by_cases d:q.1=k
    ·rw[Ì d,Ì d,j];exact⟨rfl,.cons b l⟩
    ·rw[Ö d,Ö d,j,e.1];exact⟨rfl,.cons (f.1▸m) l⟩
 ·rw[Ö c,Ö c,ķ,ķ,ķ,ķ,e];exact⟨rfl,h.append (.one b)⟩
end
noncomputable def hI:AV->É Key
 |.int i=>À (.inl i)
 |.str x=>À (.inr x)
 |_=>none
def jN (h:hI v=À k)(a:VR T ρ H v x):x=kV k:=by
 cases v<;>try cases h
 ·cases a.int_inv;rfl
 ·cases a.str_inv;rfl
def lA (s:S)(i:Nat):É (Â (Key×AV)):=match s[i]? with
 |some (.dK xs)=>À xs
 |_=>none
def mq (h:lA s i=À xs):s[i]?=À (.dK xs):=by
 unfold lA at h;split at h
 ·cases h;assumption
 ·cases h
def Bt (h:s[i]?=À (.dK xs)):lA s i=À xs:=by unfold lA;rw[h]
def fZ:AV->AV->S->R AV
 |.ref i,y,s=>need (lA s i) λa=>need (hI y) λk=>need (bE a k) λv=>.ok v s
 |_,_,_=>.bad
def K4 (hu:X.A.units+1<cLine)(f:PE X o (tE T XE m)) (F:PE X i (tE T XE n)) (hs:NK i:=by exact λ_ _=>rfl):PE X (.Subscript o i pos) (tE T XE (Ó fZ m n)):=
 PE.imp (DA hu f F hs) λσ H Q P=>ś P λρ t s hs E f=>step hs E f λv s1 U Y x _ u1 h e c g=>step h e g λw s2 l B y _ N d u j b=>by
  have c:VR T l B v x:=VR.up N c;cases v with
  |ref i=>
   obtain⟨I,p,b⟩:=b.ü;obtain⟨k,q,b⟩:=b.ü;obtain⟨z,r,b⟩:=b.ü;obtain⟨a,ks,rfl,Z,D,L,M⟩:=d.Ez (mq p) c;obtain⟨O,C,J⟩:=(fA k L M).1 z r;exact⟨a,O,rfl,by rw[jN q j,<-C];exact jE.k D,b.Ł d J⟩
  |_=>exact b.elim
def o_:AV->AV->S->R AV
 |y,.ref i,s=>need (lA s i) λa=>need (hI y) λk=>.ok (.bl (bE a k).isSome) s
 |_,_,_=>.bad
def uo:AV->AV->S->R AV
 |y,.ref i,s=>need (lA s i) λa=>need (hI y) λk=>.ok (.bl (!(bE a k).isSome)) s
 |_,_,_=>.bad
def Bw {op:AV->AV->S->R AV}{b:Bool->Bool}(j:∀y w s,op y w s=(match w with|.ref i=>need (lA s i) λkvs=>need (hI y) λk=>.ok (.bl (b (bE kvs k).isSome)) s|_=>.bad)) {m n:Ev}{r:St}{Q:VK}(h:tE T XE (Ó op m n) r H Q) :
  tE T XE m r H λy B=>tE T XE n r B λx A=>∃a o,x=.ref a/\jE A a y o/\Q (.bl (b o.isSome)) A:=by
 obtain⟨ρ,I,s,P,N,O⟩:=h;refine step P N O λv s1 Z B x _ u1 l f p g=>step l f g λw s2 q A y _ U e J d c=>?_;rw[j]at c;have d:VR T q A w y:=d;cases w with
 |ref i=>
  obtain⟨kvs,E,c⟩:=c.ü;obtain⟨k,F,c⟩:=c.ü;obtain⟨a,u,rfl,ea,M,C,D⟩:=e.Ez (mq E) d;have Y:=jN F (VR.up U p);refine⟨a,iO u k,rfl,by rw[Y];exact jE.k M,?_⟩;have:(iO u k).isSome=(bE kvs k).isSome:=by
   cases t:bE kvs k with
   |none=>rw[(fA k C D).2 t];rfl
   |some z=>obtain⟨x',L,_⟩:=(fA k C D).1 z t;rw[L];rfl
  rw[this];exact c.Ł e eU
 |_=>exact c.elim
def OU (hu:X.A.units+1<cLine)(c:PE X i (tE T XE m)) (d:PE X o (tE T XE n)) (a:ao .In o=false:=by rfl):PE X (.Compare i [.In] [o] pos) (tE T XE (Ó o_ m n)):=
 PE.imp (PV (B3 hu c d) a) λe H Q h=>Bw (b:=id) (λy w s=>by cases w<;>rfl) h
def Qg (hu:X.A.units+1<cLine)(c:PE X i (tE T XE m)) (d:PE X o (tE T XE n)) (a:ao .In o=false:=by rfl):PT X (.Compare i [.In] [o] pos) (jV T XE (cB (Ó o_ m n))):=
 PT.imp (B7 (B3 hu c d) a) λe H Q h=>Bw (b:=id) (λy w s=>by cases w<;>rfl) (DN h)
def L_ (hu:X.A.units+1<cLine)(c:PE X i (tE T XE m)) (d:PE X o (tE T XE n)) (a:ao .NotIn o=false:=by rfl):PT X (.Compare i [.NotIn] [o] pos) (jV T XE (cB (Ó uo m n))):=
 PT.imp (B7 (Fv hu c d) a) λe H Q h=>Bw (b:=not) (λy w s=>by cases w<;>rfl) (DN h)
def putD (v d y:AV)(env:En)(s:S):RS:=match d with
 |.ref i=>match lA s i,hI y with
  |some a,À k=>if a.length<sizeLine then .nx env (s.set i (.dK (kn a k v)))else .bad
  |_,_=>.bad
 |_=>.bad
def kJ (d y v:Ev):Ms:=λe s=>(v e s).bM λa f=>(d e f).bM λb g=>(y e g).bM λc h=>putD a b c e h
def Ll (hu:X.A.units+1<cLine)(C:PE X o (tE T XE m)) (hi:PE X i (tE T XE n)) (hv:PE X e (tE T XE r)) (hs:fb e (À (.Subscript o i l)) pos.line X.env=pure false:=by rfl):PS X (.Assign [.Subscript o i l] e pos) (tS T XE (kJ m n r)):=
 PS.imp (DE hu C hi hv hs) λD σ H zz=>jQ zz λρ env s hs he C=>dZ hs he C λv s1 Rf H1 x _ u1 J q h E=>dZ J q E λd s2 Xq H2 y _ u2 L t j F=>dZ L t F λc s3 f B z _ U g u M b=>by
  have j:VR T f B d y:=VR.up U j;have h:VR T f B v x:=VR.up (u2.trans U) h;unfold putD at b;split at b
  ·split at b
   ·rename_i i I k Y Z;obtain⟨hl,b⟩:=b.ū;obtain⟨a,P,rfl,N,O,Q,q2⟩:=g.Ez (mq Y) j;have w:I.length=P.length:=by have:=à cK Q;simpa using this
    refine⟨a,_,rfl,by rw[jN Z M];exact zc.k O (by rw[<-w];exact hl),?_⟩;obtain⟨p1,p2⟩:=ye k h Q q2;have p:Up f B f (upd B a (.dK (putK P k x))):=g.uJ N O (λ_ z=>nomatch z) (λ_ _ z=>nomatch z);exact b f _ σ p (g.set N p ⟨_,ă,p1,p2.up p⟩) (u.up p)
   ·exact b.elim
  ·exact b.elim
def HS (d y z:AV)(s:S):R AV:=match d with
 |.ref i=>need (lA s i) λa=>need (hI y) λk=>.ok ((bE a k).getD z) s
 |_=>.bad
def Na (d y z:Ev):Ev:=λe s=>(d e s).bind λa f=>need (jL "dict" a f) λ_=>(y e f).bind λb g=>(z e g).bind λc h=>HS a b c h
def Ou (h:jL "dict" v s=À ()) (d:SR T ρ s H)(c:VR T ρ H v x):∃a,x=.ref a/\Vp H a:=by
 have:=tY h d c;cases v with
 |ref i=>
  obtain⟨a,e,rfl⟩:=c.fx;refine⟨a,rfl,?_⟩;rcases this with⟨z,_⟩|⟨z,_⟩|⟨_,⟨b,z⟩|⟨b,z⟩⟩|⟨z,_⟩
  ·exact absurd z (by decide)
  ·exact absurd z (by decide)
  ·exact .inl ⟨b,.inl z⟩
  ·exact .inr ⟨b,.inl z⟩
  ·exact absurd z (by decide)
 |_=>cases h
def ON:Ev:=λ_ s=>.ok (.ref s.length) (s++[.dK []])
def SE:PE X (.Dict [] [] pos) (tE T XE ON):=
 PE.imp Ia λg H Q ⟨f,a,s,d,e,b⟩ p c=>b.alloc d c ⟨[],ă,rfl,.nil⟩
noncomputable def Iu:Â (Ev×Ev)->En->S->R (Â (AV×AV))
 |[],_,s=>.ok [] s
 |(a,b)::r,c,s=>(a c s).bind λv d=>(b c d).bind λw e=>(Iu r c e).bind λl f=>.ok ((v,w)::l) f
def v7:Â (AV×AV)->É (Â (Key×AV))
 |[]=>À []
 |(a,b)::r=>(hI a).bind λk=>(v7 r).map ((k,b)::·)
def xO (kvs more:Â (Key×AV)):Â (Key×AV):=more.foldl (λa b=>kn a b.1 b.2) kvs
def wc (l:Â (Ev×Ev)):Ev:=λb s=>(Iu l b s).bind λd c=>need (v7 d) λa=>if a.length<=15 then .ok (.ref c.length) (c++[.dK (xO [] a)])else .bad
def Yg (T:Tx)(ρ:Â Addr)(H:Hp)(ps:Â (AV×AV)) (xs:Â (V×V)):Prop:=Ĭ T ρ H (ps.map (·.1)) (xs.map (·.1))/\Ĭ T ρ H (ps.map (·.2)) (xs.map (·.2))
def bind_assoc (r:R α)(f:α->S->R b)(g:b->S->R c):(r.bind f).bind g=r.bind λa s=>(f a s).bind g:=by cases r<;>rfl
theorem Ao:∀(l:Â (Ev×Ev)) {ρ:Â Addr}{s:S}{H:Hp}{k:Â (AV×AV)->S->R α}{F:Â (V×V)->Hp->Prop},SR T ρ s H->ER T ρ H env O->Out T XE rl ρ H ((Iu l env s).bind k) Q->
  (∀ps s1 c A xs,Iu l env s=.ok ps s1->Up ρ H c A->SR T c s1 A->ER T c A env O->Yg T c A ps xs->F xs A)->yq (l.map λp=>(tE T XE p.1,tE T XE p.2)) O H F
 |[],ρ,s,H,k,F,t,j,n,m=>m [] s ρ H [] rfl .refl t j ⟨.nil,.nil⟩
 |(a,b)::r,ρ,s,H,k,F,t,j,n,m=>by
  have e:(Iu ((a,b)::r) env s).bind k=(a env s).bind λv s1=>(b env s1).bind λw d=>(Iu r env d).bind λl f=>k ((v,w)::l) f:=by
   show((a env s).bind λv s1=>(b env s1).bind λw d=>(Iu r env d).bind λl f=>.ok ((v,w)::l) f).bind k=_;rw[bind_assoc];congr 1;funext v s1;rw[bind_assoc];congr 1;funext w d;rw[bind_assoc];rfl
  rw[e]at n;refine step t j n λv s1 c A x u Y B g I o=>step B g o λw d Z H2 y z M C h J q=>?_;refine Ao r C h q λps f L P xs U E D i N=>m ((v,w)::ps) f L P _ (by have u:a env s=.ok v s1:=u;have z:b env s1=.ok w d:=z;show((a env s).bind λv s1=>(b env s1).bind λw d=>(Iu r env d).bind λl f=>.ok ((v,w)::l) f)=_;rw[u,â,z,â,U,â]) ((Y.trans M).trans E) D i ⟨?_,?_⟩
  ·exact .cons (VR.up (M.trans E) I) N.1
  ·exact .cons (VR.up E J) N.2
theorem v8:∀{ps:Â (AV×AV)}{kvs:Â (Key×AV)}{xs:Â (V×V)},v7 ps=À kvs->Yg T ρ H ps xs->∃ks:Â (Key×V),xs=ks.map (λi=>(kV i.1,i.2))/\kvs.map (·.1)=ks.map (·.1)/\Ĭ T ρ H (kvs.map (·.2)) (ks.map (·.2))
 |[],kvs,xs,h,c=>by
  cases h;have:=c.1.nil_inv;cases xs with
  |nil=>exact⟨[],rfl,rfl,.nil⟩
  |cons a r=>cases this
 |(a,b)::r,kvs,xs,h,c=>by
  have h:(hI a).bind (λk=>(v7 r).map ((k,b)::·))=À kvs:=h;cases d:hI a with
  |none=>rw[d]at h;cases h
  |some k=>
   cases e:v7 r with
   |none=>rw[d,e]at h;cases h
   |some q=>
    rw[d,e]at h;cases h;cases xs with
    |nil=>obtain⟨_,_,z,_⟩:=c.1.cons_inv;cases z
    |cons p xs=>
     obtain⟨x1,t,f,j,l⟩:=c.1.cons_inv;obtain⟨x2,u,g,m,n⟩:=c.2.cons_inv;rw[Õ,aO]at f g;obtain⟨ks,rfl,o,s⟩:=v8 e ⟨f.2▸l,g.2▸n⟩;refine⟨(k,p.2)::ks,?_,by rw[Õ,Õ,o],.cons (g.1▸m) s⟩;rw[Õ,<-jN d (f.1▸j)]
theorem wd:∀{more:Â (Key×AV)}{b:Â (Key×V)}{kvs:Â (Key×AV)}{ks:Â (Key×V)},more.map (·.1)=b.map (·.1)->Ĭ T ρ H (more.map (·.2)) (b.map (·.2))->kvs.map (·.1)=ks.map (·.1)->Ĭ T ρ H (kvs.map (·.2)) (ks.map (·.2))->
  (xO kvs more).map (·.1)=(fW ks b).map (·.1)/\Ĭ T ρ H ((xO kvs more).map (·.2)) ((fW ks b).map (·.2))
 |[],b,kvs,ks,e,h,c,d=>by
  cases b with
  |nil=>exact⟨c,d⟩
  |cons a r=>cases e
 |p::r,b,kvs,ks,e,h,c,d=>by
  cases b with
  |nil=>cases e
  |cons q t=>
   rw[Õ,Õ,aO]at e;rw[Õ,Õ]at h;obtain⟨y,j,z,f,g⟩:=h.cons_inv;rw[aO]at z;obtain⟨p1,i⟩:=ye p.1 (z.1▸f) c d;have:=wd (kvs:=kn kvs p.1 p.2) (ks:=putK ks q.1 q.2) e.2 (z.2▸g) (by rw[<-e.1];exact p1) (by rw[<-e.1];exact i);exact this
def K6 (h:MT X pos c f (l.map λp=>(tE T XE p.1,tE T XE p.2))) (k:c.all (·.isSome)=true:=by rfl) (hl:c.length=f.length:=by rfl)(h0:c≠[]:=by decide)(n:c.length<=15:=by decide):PE X (.Dict c f pos) (tE T XE (wc l)):=
 PE.imp (LL h k hl h0 n) λσ H Q ⟨Y,B,s,r,E,i⟩ p m=>by
  have t:=r.eT (o:=.dK []) m;have J:=r.out m;refine Ao l (r.new m) (E.up t) (Out.up t i) λZ w d A xs L x j C U=>?_;unfold wc at i;rw[L,â]at i;obtain⟨kvs,y,i⟩:=i.ü;obtain⟨hl,i⟩:=i.ū;obtain⟨ks,rfl,u,M⟩:=v8 y U;have hd:=x.fr p _ ă J;have q:kvs.length=ks.length:=by have:=à cK u;simpa using this
  refine⟨hd.1,ks,rfl,by rw[<-q];exact hl,?_⟩;obtain⟨F,I⟩:=wd u M (kvs:=[]) (ks:=[]) rfl .nil;have g:Gr d A (d++[p]) (upd A p (.dK (fW [] ks))):=⟨fB _ _,λb ys e=>by rw[ä (ug e hd.1 (by intro z;cases z))];exact e,λb o v e=>by rw[ä (ug e hd.1 (by intro z;cases z))];exact e⟩
  have g1:Gr d A d (upd A p (.dK (fW [] ks))):=⟨aW,g.jR,g.iI⟩
  have N:SR T d w (upd A p (.dK (fW [] ks))):=j.up g1 λa D=>ä λz=>hd.2 (z▸D);have O:SR T (d++[p]) (w++[.dK (xO [] kvs)]) (upd A p (.dK (fW [] ks))):=N.add hd.2 ⟨_,ă,F,I.gr g⟩;have P:Up Y H (d++[p]) (upd A p (.dK (fW [] ks))):=((t.trans x).mod m hd.2).add m;exact i _ _ _ P O (n7 (T:=T) (H:=upd A p (.dK (fW [] ks))) (by rw[ñ (by rw[j.len];exact Í _),j.len,sN];rfl))
def Lk:MT X pos [] [] (([]:Â (Ev×Ev)).map λp=>(tE T XE p.1,tE T XE p.2)):=L3
def HD (hk:PE X k (tE T XE a)) (c:PE X v (tE T XE b)) (hr:MT X pos ks vs (l.map λp=>(tE T XE p.1,tE T XE p.2))):MT X pos (À k::ks) (v::vs) (((a,b)::l).map λp=>(tE T XE p.1,tE T XE p.2)):=Iq hk c hr
def lQ (o i:Ev):Mt:=λv c s=>(o c s).bM λa e=>(i c e).bM λb d=>match a,b with
 |.ref k,.int j=>match ö d k with
  |some xs=>match Dd xs.length j with
   |some n=>.nx c (d.set k (.lst (xs.set n v)))
   |none=>.bad
  |none=>.bad
 |_,_=>.bad
def Lf (t:PE X o (tE T XE m)) (U:PE X i (tE T XE n))
  (O:∀v,kW (.Subscript o i pos) X.env v=(do
   let h <-e_ [v] (ģ o X.env);let w <-e_ [v,h] (ģ i X.env)
   j6 pos
   e_ [v,h,w] (Ul h w v)
   release [v,h,w] []):=by intro _;rfl):PG X (.Subscript o i pos) (tT T XE (lQ m n)):=
 PG.imp (P6 t U set_list O) λx σ H Q ⟨ρ,N,s,v,Y,P,C,t⟩=>by
  refine dZ Y P t λa s1 Rf H1 y _ Z B q f u=>dZ B q u λb s2 d A z _ I e r g c=>?_;have f:VR T d A a y:=VR.up I f;have g:VR T d A b z:=g;have C:VR T d A v x:=VR.up (Z.trans I) C;split at c
  ·rename_i k j;split at c
   ·rename_i xs L;split at c
    ·rename_i n M;obtain⟨p,J,rfl,D,E,F⟩:=e.eR (Ē L) f;cases g.int_inv;have l:Up d A d (upd A p (.lst (J.set n x))):=e.uJ D E (λ_ z=>nomatch z) (λ_ _ z=>nomatch z);exact⟨p,J,_,n,rfl,rfl,E,by rw[<-F.length];exact M,c d _ σ l (e.set D l (OR.lst ă ((F.set n C).up l))) (r.up l)⟩
    ·exact c.elim
   ·exact c.elim
  ·exact c.elim
def LB:nH (lQ o i):=λv d s=>by
 unfold lQ;cases o d s with
 |bad=>exact .inr (.inr rfl)
 |ex c e=>exact .inr (.inl ⟨_,_,rfl⟩)
 |ok a e=>
  simp only[dV];cases i d e with
  |bad=>exact .inr (.inr rfl)
  |ex c e=>exact .inr (.inl ⟨_,_,rfl⟩)
  |ok b f=>
   simp only[dV];split
   ·split
    ·split
     ·exact .inl ⟨_,_,rfl⟩
     ·exact .inr (.inr rfl)
    ·exact .inr (.inr rfl)
   ·exact .inr (.inr rfl)
def gy:AV->Bool
 |.Ě=>true
 |.bl _=>true
 |.int _=>true
 |.str _=>true
 |_=>false
def toV:AV->V
 |.bl b=>.bl b
 |.int b=>.int b
 |.str b=>.str b
 |_=>.Ě
def toV_eq (h:gy v=true)(k:VR T ρ H v x):x=toV v:=by
 cases v with
 |Ě=>exact k.il
 |bl b=>exact k.iD
 |int b=>exact k.int_inv
 |str b=>exact k.str_inv
 |_=>cases h
theorem toVs_eq:∀{l:Â AV}{xs:Â V},l.all gy=true->Ĭ T ρ H l xs->xs=l.map toV
 |[],_,_,k=>k.nil_inv
 |v::r,_,h,k=>by
  obtain⟨x,c,rfl,a,b⟩:=k.cons_inv;rw[Ĩ,Ĉ]at h;rw[toV_eq h.1 a,toVs_eq h.2 b];rfl
def jI:∀v:AV,iG (toV v)=true:=λv=>by cases v<;>rfl
def inA (v:AV)(xs:Â AV):Bool:=V5 (toV v) (xs.map toV)
def Al (v w:AV)(s:S):R AV:=need (items w s) λxs=>if gy v=true/\xs.all gy=true then .ok (.bl (inA v xs)) s else .bad
def YC (m:X.K=T.K):ju X (ņ .In) (yg T XE Al):=by
 rintro d s t H x y v u Q I n o ⟨z,a,b,st,f,q,r,c⟩;obtain⟨xs,e,c⟩:=c.ü;obtain⟨⟨i,j⟩,c⟩:=c.ū;obtain⟨p,w,rfl,l,k⟩:=qg e f r;have g:=toV_eq i q;have h:=toVs_eq j k;subst g h;exact Ft d s t H _ _ v u Q I n o ⟨p,_,rfl,by rw[m];exact l,jI a,by simp[jI],c.Ł f eU⟩
def mG:AV->Â AV->S->R AV
 |.ref i,[w],s=>need (ö s i) λxs=>if gy w=true/\xs.all gy=true then .ok (.int ((xs.countP λz=>ik (toV z) (toV w):Nat):Int)) s else .bad
 |_,_,_=>.bad
def N0:CK X "list.count" (Ra T XE mG):=by
 rintro c s q H x xs v us Q I m rv ⟨z,a,t,st,d,n,o,b⟩;unfold mG at b;split at b
 ·obtain⟨w,e,b⟩:=b.ü;obtain⟨⟨h,i⟩,b⟩:=b.ū;obtain⟨p,u,rfl,r,j,k⟩:=d.eR (Ē e) n;obtain⟨y,rfl,l⟩:=o.iq;have f:=toV_eq h l;have g:=toVs_eq i k;subst f g;refine HH c s q H _ _ v us Q I m rv ⟨p,_,_,rfl,rfl,j,jI _,by simp[jI],?_⟩;rw[List.countP_map];exact b.Ł d bJ
 ·exact b.elim
end
section
variable {T:Tx}{XE:gO}{X:Cx}{pos:jA}
structure wU (T:Tx)(mg:Str->É Value)(x:Str)(a:AV):Prop where
 ex:∃v u,mg x=À u/\RelV v u/\∀ρ H,VR T ρ H a v
def O1 (h:wU T X.mg x a)(e:Gl X x:=by rfl)(hd:(x == ("__debug__":Str))=false:=by decide):PE X (.Name x pos) (tE T XE (mc a)):=by
 obtain⟨v,u,b,c,d⟩:=h.ex;exact K_ e b c d hd
def Sf (r:cW k A):A.units+30<cLine:=by have:=r.un;lia
def KJ (m:Eb):Eb:=λa s=>(m a s).bind λv b=>open Classical in if b.take s.length=s then .ok v s else .bad
def Tf (h:PT X e (jV T XE m)):PT X e (jV T XE (KJ m)):=
 PT.imp h λp H Q n=>ś n λg b s d i a=>by
  refine⟨g,b,s,d,i,?_⟩;unfold KJ at a;cases e:m b s with
  |bad=>rw[e]at a;exact a
  |ex c j=>rw[e]at a;exact a
  |ok v j=>
   rw[e]at a;obtain⟨f,a⟩:=a.ū;intro o A x u k l;have:=k.cut u.pre d.len (by rw[f];exact d.closed);rw[f]at this;exact a g A x u.cut this l
def YJ {α:Type}(T:Tx)(XE:gO)(c:Rl α V)(op:AV->Â AV->S->R α):V->Â V->Hp->VK->Prop:=λx xs H Q=>∃a v b s,SR T a s H/\VR T a H v x/\Ĭ T a H b xs/\Out T XE c a H (op v b s) Q
def G4 {α:Type}(n:String)(op:AV->Â AV->S->R α)(o:Ev)(r:gL):En->S->R α:=λa s=>(o a s).bind λv b=>need (jL n v b) λ_=>(r a b).bind λd c=>op v d c
def O8 {α:Type}{A:Rl α V}{n id:String}{c:Â Expr}{op:AV->Â AV->S->R α}{m:Ev}{r:gL}(D:X.K=T.K)(J:u9 n)(j:Slot n name id)(u:Rx (.builtin id)=pure (.type "method_descriptor")) (I:CK X id (YJ T XE A op)) (q:PE X o (tE T XE m)) (E:PA X (e::c) (tP T XE r))
  (d:bG o name X.env (ģ o X.env)=ģ o X.env:=by rfl)
  (i:((ĺ a (Î (e::c) X.env)).all (λx=>!x.1)&&(h_ a (cc [] X.env)).all (λx=>x.1.isSome)
   && decide ((e::c).length+([]:Â jX).length+(if ([]:Â jX).isEmpty then 0 else 1)<30))=true:=by rfl)
  (f:(h.endLine == a.line)=true:=by rfl) (hs:Î (e::c) X.env=(false,ģ e X.env)::Î c X.env:=by rfl) (b:(ĺ a (Î c X.env)).any (·.1)=false:=by rfl) :
  PE X (.Call (.Attribute o name h) (e::c) [] a) (tG T XE A (G4 n op m r)):=
 PE.imp (H0 D J j u I q E d i f hs b) λσ H Q O=>ś O λρ B s hs F q=>by
  refine step hs F q λv Z P U x _ u1 k p l g=>?_;obtain⟨_,e,g⟩:=g.ü;exact⟨tY e k l,step k p g λN L z Y xs _ M w C y t=>⟨z,v,N,L,w,VR.up M l,y,t⟩⟩
open PySem.Builtin.Str in
noncomputable def pa:AV->Â AV->S->R (Â AV)
 |.str t,[.str a],s=>if (decide (t.length<a.length)||decide (strKind t<strKind a))=false/\(a.length == 0)=false/\(occurrences t a 0 t.length (t.length+1)).isEmpty=false/\t.length<=1000/\(partsBetween t (occurrences t a 0 t.length (t.length+1)) a.length).length<=1000
   then .ok ((partsBetween t (occurrences t a 0 t.length (t.length+1)) a.length).map AV.str) s else .bad
 |_,_,_=>.bad
def N2:CK X "str.split" (YJ T XE (rL T) pa):=by
 rintro c s o H x xs v us Q I j rv ⟨q,a,p,st,k,m,n,b⟩;unfold pa at b;split at b
 ·obtain⟨⟨d,e,f,g,h⟩,b⟩:=b.ū;cases m.str_inv;obtain⟨y,rfl,i⟩:=n.iq;cases i.str_inv;exact HK c s o H _ _ v us Q I j rv ⟨_,_,rfl,rfl,d,e,f,g,h,λl hl=>b.lst k hl (Ĭ.map (λa=>jo) _)⟩
 ·exact b.elim
def uT (xs ys:Â AV):Â AV:=(xs.zip ys).map λp=>AV.tup [p.1,p.2]
noncomputable def yl (c:Bool)(v:AV)(s:S):É (Â AV×Gd):=match v with
 |.tup xs=>if c=true then À (xs,[])else none
 |.sq xs=>if c=true then none else À (xs,[])
 |.ref i=>if c=true then none else (ö s i).map λxs=>(xs,[(i,xs)])
 |_=>none
def AA (h:yl c v s=À (xs,gs)) (r:SR T ρ s H)(m:VR T ρ H v x):∃a,x=.ref a/\(∃vs,wV c T.K H a vs)/\∀d s' H',Up ρ H d H'->SR T d s' H'->u0 gs s'->∃vs,wV c T.K H' a vs/\Ĭ T d H' xs vs:=by
 cases v with
 |tup n=>
  have h:(if c=true then À (n,[])else none)=À (xs,gs):=h;split at h
  ·rename_i f;cases h;obtain⟨a,vs,rfl,j,k⟩:=m.cx;refine⟨a,rfl,⟨vs,by unfold wV;rw[Ì f];exact j⟩,λd s' H' u l _=>⟨vs,by unfold wV;rw[Ì f];exact u.Qz j,k.up u⟩⟩
  ·cases h
 |sq n=>
  have h:(if c=true then none else À (n,[]))=À (xs,gs):=h;split at h
  ·cases h
  ·rename_i f;cases h;obtain⟨a,vs,rfl,j,k⟩:=m.hJ;refine⟨a,rfl,⟨vs,by unfold wV;rw[Ö f];exact j.FK⟩,λd s' H' u l _=>⟨vs,by unfold wV;rw[Ö f];exact(u.Tw j).FK,k.up u⟩⟩
 |ref i=>
  have h:(if c=true then none else (ö s i).map λxs=>(xs,[(i,xs)]))=À (xs,gs):=h;split at h
  ·cases h
  ·rename_i f;cases e:ö s i with
   |none=>rw[e]at h;cases h
   |some n=>
    rw[e]at h;cases h;obtain⟨a,vs,rfl,w,j,k⟩:=r.eR (Ē e) m;refine⟨a,rfl,⟨vs,by unfold wV;rw[Ö f];exact gM.of j⟩,λd s' H' u l g=>?_⟩;obtain⟨b,t,o,_,p,q⟩:=l.eR (Ē ((C8 i _ s').mp g)) (VR.up u m);cases o;exact⟨t,by unfold wV;rw[Ö f];exact gM.of p,q⟩
 |_=>cases h
def FP (v w:AV)(s:S):É (Â AV×Gd):=
 match yl true v s,yl true w s with
 |some (xs,g),À (a,h)=>À (uT xs a,g++h)
 |_,_=>match yl false v s,yl false w s with
  |some (xs,g),À (a,h)=>À (uT xs a,g++h)
  |_,_=>none
def Ju (h:FP v w s=À r):∃c xs g ys h,yl c v s=À (xs,g)/\yl c w s=À (ys,h)/\r=(uT xs ys,g++h):=by
 unfold FP at h;split at h
 ·rename_i xs g ys d a b;cases h;exact⟨true,xs,g,ys,d,a,b,rfl⟩
 ·split at h
  ·rename_i xs g ys d a b;cases h;exact⟨false,xs,g,ys,d,a,b,rfl⟩
  ·cases h
def IK (a b:Ev):Src:=λc s=>(a c s).bind λv e=>(b c e).bind λw d=>need (FP v w d) λr=>.ok r d
def KH (k:u0 (g++h) s):u0 g s/\u0 h s:=⟨λp a=>k p (dN _ a),λp a=>k p (ğ _ a)⟩
def O_ (A:X.K=T.K)(hm:X.mg "zip"=none)(h1:PE X e1 (tE T XE a)) (h2:PE X k (tE T XE b)) (hg:Gl X "zip":=by rfl)
  (hs:Î [e1,k] X.env=(false,ģ e1 X.env)::Î [k] X.env:=by rfl) (F:Î [k] X.env=[(false,ģ k X.env)]:=by rfl) (E:(ĺ pos (Î [k] X.env)).any (·.1)=false:=by rfl) :
  PI X (.Tuple es kk QO) (.Call (.Name "zip" p) [e1,k] [] pos) (tW T XE (IK a b)):=
 PI.imp (P9 hg hm h1 h2 hs F E) λσ H R zz=>ś zz λρ env s hs he ho=>step hs he ho λv s1 Rf H1 x _ u1 L o M D=>step L o D λw s2 Q H2 y _ u2 i Yl N f=>by
  obtain⟨r,e,f⟩:=f.ü;obtain⟨c,xs,g,n,h,q1,q2,rfl⟩:=Ju e;obtain⟨a1,rfl,x1,w1⟩:=AA q1 i (VR.up u2 M);obtain⟨a2,rfl,x2,w2⟩:=AA q2 i N;refine⟨c,a1,a2,rfl,by rw[A];exact x1,by rw[A];exact x2,f Q H2 _ .refl i ⟨λl s' U u' d gk=>?_⟩⟩;obtain⟨g1,g2⟩:=KH gk;obtain⟨O,I,k2⟩:=w1 l s' U u' d g1;obtain⟨P,J,k4⟩:=w2 l s' U u' d g2;rw[A];have B:=k2.length;have C:=k4.length;refine⟨λj z t=>?_,⟨O,P,I,J,?_⟩⟩
  ·have m:j<xs.length/\j<n.length:=by
    have:=(Æ.mp t).1;simp only[uT,Ê,Ny]at this;lia
   have u:z=.tup [xs[j],n[j]]:=by
    have q:(uT xs n)[j]?=À (.tup [xs[j],n[j]]):=by
     simp[uT,List.getElem?_zip_eq_some,m.1,m.2]
    rw[q]at t;exact(ã t).symm
   subst u;obtain⟨x3,Y,v3⟩:=k2.get (Å m.1);obtain⟨x4,Z,v4⟩:=k4.get (Å m.2);refine⟨⟨O,P,x3,x4,I,J,Y,Z⟩,λq H'' ⟨Tt,y1,y2,eq,hT,eH,hy⟩=>?_⟩;obtain⟨f1,f2⟩:=hy O P I J;rw[Y]at f1;rw[Z]at f2;cases f1;cases f2;subst eq eH;exact⟨d.eT hT,d.new hT,kB (gp.of ă) (Ĭ.up (d.eT hT) (.cons v3 (.one v4)))⟩
  ·rw[<-B,<-C];simp only[uT,Ê,Ny];lia
end
end Mm
namespace Mm
open PySem PySem.W PyProof.Rows
def c9 {α:Type}(lt:Nat->Nat->Bool):U7 α->α
 |.ret a=>a
 |.ask i j k=>c9 lt (k (lt i j))
theorem iy (lt:Nat->Nat->Bool)(f:α->U7 b):∀t:U7 α,c9 lt (t.bind f)=c9 lt (f (c9 lt t))
 |.ret a=>rfl
 |.ask i j k=>iy lt f (k (lt i j))
def dw (lt:Nat->Nat->Bool){c:Prop}{_:a8 c}(a b:U7 α):c9 lt (if c then a else b)=if c then c9 lt a else c9 lt b:=by split<;>rfl
section
variable {O:KeyOrd}{key:Nat->O.α}
abbrev jU (O:KeyOrd)(key:Nat->O.α):Nat->Nat->Bool:=λi j=>O.blt (key i) (key j)
def Ah (key:Nat->O.α)(x y:Nat):Prop:=O.klt (key x) (key y)∨key x=key y/\x<y
theorem Ah.kle (h:Ah key x y):O.kle (key x) (key y):=by
 rcases h with h|⟨h,_⟩
 ·exact qM h
 ·rw[h];exact uV _
def Ah.Ng (h:¬jU O key x y=true)(k:y<x):Ah key y x:=by
 cases e:O.blt (key y) (key x)with
 |true=>exact .inl e
 |false=>exact .inr ⟨O.total _ _ e (by simpa using h),k⟩
theorem Ah.trans (h:Ah key x y)(k:Ah key y z):Ah key x z:=by
 rcases h with h|⟨h,a⟩
 ·exact .inl (eO h k.kle)
 ·rcases k with k|⟨k,b⟩
  ·exact .inl (by rw[h];exact k)
  ·exact .inr ⟨h.trans k,mM a b⟩
abbrev dn (p:Č Nat)(i:Nat):Nat:=p.getD i 0
def zd (key:Nat->O.α)(p:Č Nat)(k:Nat):Prop:=∀i j,i<j->j<k->Ah key (dn p i) (dn p j)
def NL (key:Nat->O.α)(p:Č Nat)(k:Nat):Prop:=∀i j,i<j->j<k->Ah key (dn p j) (dn p i)
structure Pm (p:Č Nat)(n N:Nat):Prop where
 sz:p.size=N
 le:n<=N
 lo:∀i,i<n->dn p i<n
 hi:∀i,n<=i->i<N->dn p i=i
def oJ {p q:Č Nat}(h:p[i]?=q[j]?):p.getD i 0=q.getD j 0:=by
 rw[ŷ,ŷ,h]
def gQ {p:Č Nat}(b:j<=p.size)(k:Nat):dn (j3 p i j) k=if i<=k/\k<j then dn p (i+j-1-k)else dn p k:=by
 have h:=getElem?_mirror_all (xs:=p) (i:=i) (j:=j) b k;split
 ·rename_i a;rw[Ì a]at h;exact oJ h
 ·rename_i a;rw[Ö a]at h;exact oJ h
def Pm.rev (h:Pm p n N)(d:j<=n):Pm (j3 p i j) n N:=by
 have:=h.sz;have:=h.le;refine⟨(mirror_size _ _ _ _).trans h.sz,h.le,λk c=>?_,λk a b=>?_⟩
 ·rw[gQ (by lia)];split
  ·exact h.lo _ (by lia)
  ·exact h.lo _ c
 ·rw[gQ (by lia),Ö (by lia)];exact h.hi k a b
def Pm.succ (h:Pm p n N)(c:n<N):Pm p (n+1) N:=⟨h.sz,c,λi b=>by
 by_cases e:i<n
 ·exact dz (h.lo i e)
 ·rw[h.hi i (by lia) (by lia)];exact b,λi d a=>h.hi i (by lia) a⟩
def IM (d:1<=n)(h:zd key p n)(k:Ah key (dn p (n-1)) (dn p n)):zd key p (n+1):=λi j a f=>by
 by_cases c:j<n
 ·exact h i j a c
 ·have e:j=n:=by lia
  subst e;by_cases b:i=j-1
  ·rw[b];exact k
  ·exact(h i (j-1) (by lia) (by lia)).trans k
theorem Bh:∀f n,1<=n->n+f<=N->Pm p n N->zd key p n->∃r,c9 (jU O key) (kas_asc p f n)=r/\zd key p r/\Pm p r N/\n<=r/\r<=n+f/\(r<n+f->jU O key (dn p r) (dn p (r-1))=true)
 |0,n,b,j,a,h=>⟨n,rfl,h,a,Í _,Í _,λz=>absurd z (Ŝ _)⟩
 |f+1,n,b,j,a,h=>by
  by_cases c:jU O key (dn p n) (dn p (n-1))=true
  ·refine⟨n,?_,h,a,Í _,by lia,λ_=>c⟩;exact(dw ..).trans (Ì c)
  ·obtain⟨r,e,d,g,k,l,i⟩:=Bh f (n+1) (by lia) (by lia) (a.succ (by lia)) (IM b h (.Ng c (by rw[a.hi n (Í _) (by lia)];exact a.lo _ (by lia))));refine⟨r,?_,d,g,by lia,by lia,λz=>i (by lia)⟩;exact(dw ..).trans ((Ö c).trans e)
structure Dn (key:Nat->O.α)(p:Č Nat)(n q N:Nat):Prop where
 pm:Pm p n N
 lq:q+1<=n
 a:NL key p (n-(q+1))
 b:∀i,i<n-(q+1)->O.klt (key (dn p (n-1))) (key (dn p i))
 c:∀i,n-(q+1)<=i->i<n->key (dn p i)=key (dn p (n-1))
 d:∀i j,n-(q+1)<=i->i<j->j<n->dn p i<dn p j
def Dn.rev (h:Dn key p n q N):NL key (j3 p (n-(q+1)) n) n:=λi j e f=>by
 have:=h.pm.sz;have:=h.pm.le;have:=h.lq;rw[gQ (by lia),gQ (by lia)];by_cases k:n-(q+1)<=j
 ·rw[Ì ⟨k,f⟩];by_cases g:n-(q+1)<=i
  ·rw[Ì ⟨g,by lia⟩];exact .inr ⟨(h.c _ (by lia) (by lia)).trans (h.c _ (by lia) (by lia)).symm,h.d _ _ (by lia) (by lia) (by lia)⟩
  ·rw[Ö (by lia)];exact .inl (by rw[h.c _ (by lia) (by lia)];exact h.b i (by lia))
 ·rw[Ö (by lia),Ö (by lia)];exact h.a i j e (by lia)
def Dn.one (h:Dn key p n 0 N):NL key p n:=λi j c d=>by
 by_cases f:j<n-1
 ·exact h.a i j c (by lia)
 ·have e:j=n-1:=by lia
  rw[e];exact .inl (h.b i (by lia))
def Dn.start (d:Pm p n N)(f:1<=n)(c:n<N)(h:NL key p n)(k:O.klt (key (dn p n)) (key (dn p (n-1)))):Dn key p (n+1) 0 N:=by
 refine⟨d.succ c,by lia,h,λi l=>?_,λi a b=>?_,λi j a b g=>by lia⟩
 ·show O.klt (key (dn p n)) _;by_cases e:i=n-1
  ·rw[e];exact k
  ·exact eO k (h i (n-1) (by lia) (by lia)).kle
 ·rw[show i=n+1-1 by lia]
theorem xq:∀f p n q,n+f<=N->Dn key p n q N->∃r,c9 (jU O key) (eV f p n q)=r/\Dn key r.1 r.2.1 r.2.2 N/\n<=r.2.1/\r.2.1<=n+f/\r.1.Perm p
 |0,p,n,q,x,h=>⟨_,rfl,h,Í _,Í _,bj _⟩
 |f+1,p,n,q,x,h=>by
  have E:=h.lq;have F:=h.pm.sz;by_cases c:jU O key (dn p n) (dn p (n-1))=true
  ·have l:∀g:Č Nat,Pm g n N->NL key g n->g.Perm p->dn g n=dn p n->key (dn g (n-1))=key (dn p (n-1))->∃r,c9 (jU O key) (eV f g (n+1) 0)=r/\Dn key r.1 r.2.1 r.2.2 N/\n<=r.2.1/\r.2.1<=n+(f+1)/\r.1.Perm p:=λg y z A B C=>by
    obtain⟨r,e,b1,b2,b3,b4⟩:=xq f g (n+1) 0 (by lia) (.start y (by lia) (by lia) z (by rw[B,C];exact c));exact⟨r,e,b1,by lia,by lia,b4.trans A⟩
   have e:c9 (jU O key) (eV (f+1) p n q)=if q > 0 then c9 (jU O key) (eV f (j3 p (n-(q+1)) n) (n+1) 0)else c9 (jU O key) (eV f p (n+1) 0):=(dw ..).trans ((Ì c).trans (dw ..))
   rw[e];by_cases m:q > 0
   ·rw[Ì m];exact l _ (h.pm.rev (Í _)) h.rev (rq _ _ _ _) (by rw[gQ (by lia),Ö (by lia)]) (by rw[gQ (by lia),Ì (by lia)];exact h.c _ (by lia) (by lia))
   ·rw[Ö m];have:q=0:=by lia
    subst this;exact l p h.pm h.one (bj _) rfl rfl
  ·have e:c9 (jU O key) (eV (f+1) p n q)=if jU O key (dn p (n-1)) (dn p n)=true then (p,n,q)else c9 (jU O key) (eV f p (n+1) (q+1)):=(dw ..).trans ((Ö c).trans (dw (jU O key) (c:=jU O key (dn p (n-1)) (dn p n)=true) (.ret (p,n,q)) (eV f p (n+1) (q+1))))
   rw[e];by_cases d:jU O key (dn p (n-1)) (dn p n)=true
   ·rw[Ì d];exact⟨_,rfl,h,Í _,(by show n<=n+(f+1);lia),bj _⟩
   ·rw[Ö d];have k:key (dn p n)=key (dn p (n-1)):=O.total _ _ (by simpa using c) (by simpa using d);have t:n+1-(q+1+1)=n-(q+1):=by lia
    have w:dn p n=n:=h.pm.hi n (Í _) (by lia);obtain⟨r,e,b1,b2,b3,b4⟩:=xq f p (n+1) (q+1) (by lia) ⟨h.pm.succ (by lia),by lia,by rw[t];exact h.a,λi s=>by
      show O.klt (key (dn p n)) _;rw[k];exact h.b i (by lia),λi u o=>by
      show _=key (dn p n);by_cases s:i=n
      ·rw[s]
      ·rw[k];exact h.c i (by lia) (by lia),λi j u o D=>by
      by_cases v:j=n
      ·rw[v,w];exact h.pm.lo i (by lia)
      ·exact h.d i j (by lia) o (by lia)⟩
    exact⟨r,e,b1,by lia,by lia,b4⟩
def Cn (key:Nat->O.α)(N:Nat)(p:Č Nat)(r:Nat×Č Nat):Prop:=zd key r.2 r.1/\1<=r.1/\Pm r.2 r.1 N/\r.2.Perm p
def AF (d:1<=n)(a:Pm p n N)(h:NL key p n):Cn key N p (c9 (jU O key) (JJ n N p)):=by
 have m:=a.sz;have hl:=a.le;have f:zd key (j3 p 0 n) n:=λi j k l=>by
  rw[gQ (by lia),gQ (by lia),Ì (by lia),Ì (by lia)];exact h _ _ (by lia) (by lia)
 obtain⟨r,e,b,c,g,_⟩:=Bh (N-n) n d (by lia) (a.rev (Í _)) f;unfold JJ;rw[iy,e];exact⟨b,(by show 1<=r;lia),c,rq _ _ _ _⟩
def qT (g:1<=n)(i:n<N)(j:Pm p n N)(h:NL key p n)(hl:O.klt (key (dn p n)) (key (dn p (n-1)))):Cn key N p (c9 (jU O key) (ib n N p)):=by
 obtain⟨r,e,b1,b2,b3,b4⟩:=xq (key:=key) (N-(n+1)) p (n+1) 0 (by lia) (.start j g i h hl);unfold ib;rw[iy,e,dw];split
 ·obtain⟨a,b,c,d⟩:=AF (by lia) (b1.pm.rev (Í _)) b1.rev;exact⟨a,b,c,d.trans ((rq _ _ _ _).trans b4)⟩
 ·rename_i f;have f:r.2.2=0:=by lia
  rw[f]at b1;obtain⟨a,b,c,d⟩:=AF (by lia) b1.pm b1.one;exact⟨a,b,c,d.trans b4⟩
def GJ (w:1<=N)(h:Pm p 1 N):Cn key N p (c9 (jU O key) (JI N p)):=by
 obtain⟨n,e,b,a,d,v,k⟩:=Bh (key:=key) (p:=p) (N-1) 1 (Í _) (by lia) h (λi j r g=>by lia);have x:=h.sz;unfold JI;rw[iy,e,dw];split
 ·exact⟨b,d,a,bj _⟩
 ·rename_i t;have u:n≠N:=by simpa using t
  have hl:=k (by lia);rw[dw];split
  ·rename_i r;show Cn key N p (c9 (jU O key) (if jU O key (dn p 0) (dn p (n-1))=true then .ret (n,p)else ib n N (j3 p 0 n)));rw[dw];split
   ·exact⟨b,d,a,bj _⟩
   ·rename_i c;obtain⟨l,m,o,q⟩:=qT (key:=key) (p:=j3 p 0 n) d (by lia) (a.rev (Í _)) (λi j g s=>by
      rw[gQ (by lia),gQ (by lia),Ì (by lia),Ì (by lia)];exact b _ _ (by lia) (by lia))
     (by
      rw[gQ (by lia),gQ (by lia),Ö (by lia),Ì (by lia),show 0+n-1-(n-1)=0 by lia];exact eO hl (A5 c))
    exact⟨l,m,o,q.trans (rq _ _ _ _)⟩
  ·have f:n=1:=by lia
   subst f;exact qT (by lia) (by lia) a (λi j g s=>by lia) hl
theorem uw (hs:zd key p k)(hk:∀i,i<k->dn p i<dn p k):∀f l r,l<=r->r<=k->r-l<=f->(∀i,i<l->Ah key (dn p i) (dn p k))->(∀i,r<=i->i<k->Ah key (dn p k) (dn p i))->
  ∃m,c9 (jU O key) (gJ p k f l r)=m/\m<=k/\(∀i,i<m->Ah key (dn p i) (dn p k))/\∀i,m<=i->i<k->Ah key (dn p k) (dn p i)
 |0,l,r,o,h,q,b,d=>⟨l,rfl,by lia,b,λi j a=>d i (by lia) a⟩
 |f+1,l,r,o,h,q,b,d=>by
  have e:c9 (jU O key) (gJ p k (f+1) l r)=if l≥r then l else if jU O key (dn p k) (dn p ((l+r) / 2))=true then c9 (jU O key) (gJ p k f l ((l+r) / 2))else c9 (jU O key) (gJ p k f ((l+r) / 2+1) r):=by
   refine(dw ..).trans ?_;congr 1;exact dw ..
  rw[e];by_cases hl:l≥r
  ·rw[Ì hl];exact⟨l,rfl,by lia,b,λi j a=>d i (by lia) a⟩
  ·rw[Ö hl];by_cases c:jU O key (dn p k) (dn p ((l+r) / 2))=true
   ·rw[Ì c];refine uw hs hk f l ((l+r) / 2) (by lia) (by lia) (by lia) b λi j a=>?_;by_cases n:i=(l+r) / 2
    ·rw[n];exact .inl c
    ·exact Ah.trans (.inl c) (hs _ i (by lia) a)
   ·rw[Ö c];have g:Ah key (dn p ((l+r) / 2)) (dn p k):=.Ng c (hk _ (by lia));refine uw hs hk f ((l+r) / 2+1) r (by lia) h (by lia) (λi n=>?_) d;by_cases e:i=(l+r) / 2
    ·rw[e];exact g
    ·exact(hs i ((l+r) / 2) (by lia) (by lia)).trans g
def NS {p:Č Nat}(hk:k<p.size)(hl:l<=k)(i:Nat):dn (Ef p k (k-l)) i=if i=l then dn p k else if l<i/\i<=k then dn p (i-1)else dn p i:=by
 have h:=getElem?_bubble (xs:=p) hk (k-l) (by lia) i;rw[show k-(k-l)=l by lia]at h;by_cases b:i=l
 ·rw[Ì b]at h⊢;exact oJ h
 ·rw[Ö b]at h⊢;by_cases a:l<i/\i<=k
  ·rw[Ì a]at h⊢;exact oJ h
  ·rw[Ö a]at h⊢;exact oJ h
theorem xa:∀f p k,k+f=N->Pm p k N->zd key p k->∃r,c9 (jU O key) (J7 f p k)=r/\zd key r N/\r.size=N/\r.Perm p
 |0,p,k,o,a,h=>⟨p,rfl,(by rw[<-o];exact h),a.sz,bj _⟩
 |f+1,p,k,o,a,h=>by
  have y:=a.sz;have s:dn p k=k:=a.hi k (Í _) (by lia);obtain⟨l,e,b1,b2,b3⟩:=uw (key:=key) h (λi b=>by rw[s];exact a.lo i b) k 0 k (ĩ _) (Í _) (by lia) (λi b=>by lia) (λi m n=>by lia);have w:c9 (jU O key) (J7 (f+1) p k)=c9 (jU O key) (J7 f (Ef p k (k-l)) (k+1)):=by
   show c9 (jU O key) ((gJ p k k 0 k).bind λl=>J7 f (Ef p k (k-l)) (k+1))=_;rw[iy,e]
  have g:=NS (p:=p) (k:=k) (by lia) b1;have z:zd key (Ef p k (k-l)) (k+1):=λi j m n=>by
   rw[g,g];by_cases b:i=l
   ·rw[Ì b,Ö (by lia),Ì (by lia)];exact b3 (j-1) (by lia) (by lia)
   ·rw[Ö b];by_cases c:l<i/\i<=k
    ·rw[Ì c,Ö (by lia),Ì (by lia)];exact h _ _ (by lia) (by lia)
    ·rw[Ö c];by_cases q:j=l
     ·rw[Ì q];exact b2 i (by lia)
     ·rw[Ö q];by_cases d:l<j/\j<=k
      ·rw[Ì d];exact h _ _ (by lia) (by lia)
      ·rw[Ö d];exact h _ _ m (by lia)
  have p1:Pm (Ef p k (k-l)) (k+1) N:=by
   refine⟨(bubble_size _ _ _).trans y,by lia,λi b=>?_,λi m n=>?_⟩
   ·rw[g];split
    ·rw[s];lia
    ·split
     ·exact dz (a.lo _ (by lia))
     ·exact dz (a.lo _ (by lia))
   ·rw[g,Ö (by lia),Ö (by lia)];exact a.hi i (by lia) n
  obtain⟨r,x,t,u,v⟩:=xa f (Ef p k (k-l)) (k+1) (by lia) p1 z;exact⟨r,w.trans x,t,u,v.trans (bubble_perm _ _ _)⟩
def DL (f:1<=n):let r:=c9 (jU O key) (nE n);zd key r n/\r.size=n/\r.Perm (Ğ (Ă n)):=by
 have m:(Ğ (Ă n)).size=n:=by simp
 have g:∀i,i<n->dn (Ğ (Ă n)) i=i:=λi a=>by simp[dn,Array.getD,a]
 obtain⟨c,o,b,d⟩:=GJ (key:=key) (p:=Ğ (Ă n)) f ⟨m,f,λi a=>by rw[g i (by lia)];exact a,λi _ a=>g i a⟩;unfold nE;rw[iy];generalize c9 (jU O key) (JI n (Ğ (Ă n)))=r at *
 have hl:=b.le;rw[dw];split
 ·have l:max r.1 1=r.1:=by lia
  rw[l];obtain⟨q,e,h,j,k⟩:=xa (key:=key) (n-r.1) r.2 r.1 (by lia) b c;rw[e];exact⟨h,j,k.trans d⟩
 ·have:r.1=n:=by lia
  exact⟨(by show zd key r.2 n;rw[<-this];exact c),b.sz,d⟩
end
def oA {α:Type}(n:Nat)(A:α->Prop):U7 α->Prop
 |.ret a=>A a
 |.ask i j k=>i<n/\j<n/\∀b,oA n A (k b)
theorem oA.bind {α d:Type}{A:α->Prop}{Pq:d->Prop}{f:α->U7 d}(c:∀a,A a->oA n Pq (f a)):∀{t:U7 α},oA n A t->oA n Pq (t.bind f)
 |.ret a,h=>c a h
 |.ask i j k,h=>⟨h.1,h.2.1,λb=>oA.bind c (h.2.2 b)⟩
def AllLt (n:Nat)(p:Č Nat):Prop:=∀i,p.getD i 0<n
def allLt_of (a:1<=n)(h:∀x∈p.toList,x<n):AllLt n p:=λi=>by
 rw[ŷ];cases e:p[i]? with
 |none=>exact a
 |some x=>exact h x (by rw[ny];exact Array.mem_of_getElem? e)
def AllLt.rev (b:1<=n)(h:AllLt n p)(i j:Nat):AllLt n (j3 p i j):=allLt_of b λx f=>by
 have:x∈p.toList:=by
  have d:=(rq p i j ((j-i) / 2))
  exact(dB.mp d).mem_iff.mp f
 obtain⟨k,c,e⟩:=af this;have:=h k;rw[ŷ]at this;have a:p[k]?=À x:=by rw[<-av,Å c,e]
 rw[a]at this;exact this
def AllLt.Y' (b:1<=n)(h:AllLt n p)(i j:Nat):AllLt n (Ef p i j):=allLt_of b λx d=>by
 have:x∈p.toList:=(dB.mp (bubble_perm p i j)).mem_iff.mp d;obtain⟨k,c,e⟩:=af this;have:=h k;rw[ŷ]at this;have a:p[k]?=À x:=by rw[<-av,Å c,e]
 rw[a]at this;exact this
theorem Bg (h:AllLt n p):∀f m,oA n (λ_=>j2) (kas_asc p f m)
 |0,m=>trivial
 |f+1,m=>⟨h _,h _,λb=>by
  show oA n _ (if b=true then .ret m else kas_asc p f (m+1));split
  ·trivial
  ·exact Bg h f (m+1)⟩
theorem si (a:1<=n):∀(f:Nat) {p:Č Nat}(m q:Nat),AllLt n p->oA n (λr=>AllLt n r.1) (eV f p m q)
 |0,p,m,q,h=>h
 |f+1,p,m,q,h=>⟨h _,h _,λb=>by
  show oA n _ (if b=true then (if q > 0 then eV f (j3 p (m-(q+1)) m) (m+1) 0 else eV f p (m+1) 0)else .ask (p.getD (m-1) 0) (p.getD m 0) λd=>if d=true then .ret (p,m,q)else eV f p (m+1) (q+1));split
  ·split
   ·exact si a f _ _ (h.rev a _ _)
   ·exact si a f _ _ h
  ·refine⟨h _,h _,λd=>?_⟩;show oA n _ (if d=true then .ret (p,m,q)else eV f p (m+1) (q+1));split
   ·exact h
   ·exact si a f _ _ h⟩
def AE (c:1<=n){p:Č Nat}(h:AllLt n p)(m b:Nat):oA n (λr=>AllLt n r.2) (JJ m b p):=by
 have a:=Bg (h.rev c 0 m) (b-m) m;unfold JJ;refine oA.bind (Pq:=λr:Nat×Č Nat=>AllLt n r.2) (λq _=>?_) a;exact h.rev c 0 m
def qS (b:1<=n){p:Č Nat}(h:AllLt n p)(m a:Nat):oA n (λr=>AllLt n r.2) (ib m a p):=
 oA.bind (λr hr=>by
  show oA n _ (if r.2.2 > 0 then _ else _);split
  ·exact AE b (AllLt.rev b hr _ _) _ _
  ·exact AE b hr _ _) (si b _ _ _ h)
def GI (b:1<=n){p:Č Nat}(h:AllLt n p)(a:Nat):oA n (λr=>AllLt n r.2) (JI a p):=
 oA.bind (λm _=>by
  show oA n _ (if (m == a)=true then .ret (m,p)else if m > 1 then .ask (p.getD 0 0) (p.getD (m-1) 0) λc=>if c=true then .ret (m,p)else ib m a (j3 p 0 m)else ib m a p);split
  ·exact h
  ·split
   ·refine⟨h _,h _,λc=>?_⟩;show oA n _ (if c=true then .ret (m,p)else ib m a (j3 p 0 m));split
    ·exact h
    ·exact qS b (h.rev b _ _) _ _
   ·exact qS b h _ _) (Bg h _ _)
theorem uv (h:AllLt n p)(k:Nat):∀f l r,oA n (λ_=>j2) (gJ p k f l r)
 |0,l,r=>trivial
 |f+1,l,r=>by
  show oA n _ (if l≥r then .ret l else .ask (p.getD k 0) (p.getD ((l+r) / 2) 0) λc=>if c=true then gJ p k f l ((l+r) / 2)else gJ p k f ((l+r) / 2+1) r);split
  ·trivial
  ·refine⟨h _,h _,λc=>?_⟩;show oA n _ (if c=true then gJ p k f l ((l+r) / 2)else gJ p k f ((l+r) / 2+1) r);split
   ·exact uv h k f _ _
   ·exact uv h k f _ _
theorem Gw (a:1<=n):∀(f:Nat) {p:Č Nat}(k:Nat),AllLt n p->oA n (λ_=>j2) (J7 f p k)
 |0,p,k,h=>trivial
 |f+1,p,k,h=>oA.bind (λl _=>Gw a f _ (h.Y' a _ _)) (uv h k k 0 k)
def DK (a:1<=n):oA n (λ_=>j2) (nE n):=
 oA.bind (λr hr=>by
  show oA n _ (if r.1<n then _ else _);split
  ·exact Gw a _ _ hr
  ·trivial) (GI a (allLt_of a λx b=>by simpa using b) n)
theorem Jo (c:∀i j C,i<n->j<n->C (lt i j) s->cmp i j C s):∀{t:U7 α},oA n (λ_=>j2) t->Q (c9 lt t) s->t.kasWp cmp Q s
 |.ret a,_,h=>h
 |.ask i j k,b,h=>c i j _ b.1 b.2.1 (Jo c (b.2.2 _) h)
section
variable {prog:ą}{w:ħ}{A:Ŕ}{E:Value->Ô->Prop}{s:Ô}{a:Addr}{vs:Â Value}
def Mj {O:KeyOrd}{key:Nat->O.α}{κ:wJ}{P:J0->Ô->Prop}(l:s.heap.get? a=À (ċ "list" vs.toArray n)) (D:2<=vs.length)(q:vs.length<64)
  (hk:∀h':Heap,(∀b o,b≠a->s.heap.get? b=À o->h'.get? b=À o)->∀Q:wJ->Ô->Prop,Q κ {s with heap:=h'}->Ø (Û prog w) A (Y1 vs.toArray) Q (λ_ _=>False) {s with heap:=h'})
  (F:∀h':Heap,(∀b o,b≠a->s.heap.get? b=À o->h'.get? b=À o)->∀i j C,i<vs.length->j<vs.length->C (O.blt (key i) (key j)) {s with heap:=h'}->Ø (Û prog w) A (keyLt' κ (vs.getD i í) (vs.getD j í)) C (λ_ _=>False) {s with heap:=h'})
  (h:∀p:Č Nat,zd key p vs.length->p.size=vs.length->p.Perm (Ğ (Ă vs.length))->P (.done (.ret .none)) {s with heap:=sortedHeap s.heap a vs (Ğ (p.toList.map λi=>vs.getD i í))}) :
  Ø (Û prog w) A (cO.«list.sort» ⟨[.ref a],[]⟩) P E s:=by
 have M:a<s.heap.objs.size:=Ï l;obtain⟨m,g⟩:∃m,(s.heap.update a (ô λ_=>(#[]:Č Value))).get? a=À (ċ "list" #[] m):=⟨_,jC l λ_=>#[]⟩
 rw[X'];refine Ã (wN l rfl ?_);refine Ã (dR l rfl ?_ (by rw[Ú,ā];lia) (ĩ _));refine Ã (mi g rfl ?_);refine Ã (ry ?_ (by show vs.length<=_;rw[ā];lia));refine Ã (fM ?_ (ĩ _));refine Ŏ ?_;show Ø (Û prog w) A _ P E {s with heap:=((s.heap.update a (ô λ_=>(#[]:Č Value))).push (ċ "tuple" vs.toArray 0)).push (ċ "list" #[] 0)};dsimp only;have f:¬vs.toArray.size<2:=by rw[Ú];lia
 rw[Ö f,Ö f];have d:∀b o,b≠a->s.heap.get? b=À o->(((s.heap.update a (ô λ_=>(#[]:Č Value))).push (ċ "tuple" vs.toArray 0)).push (ċ "list" #[] 0)).get? b=À o:=λb o H e=>
  Ä _ (Ä _ ((ç _ _ (ő H)).trans e))
 refine Ã (aw (hk _ d _ ?_) (λκ Z hk=>hk) λ_ _ x=>x.elim);have ask:=Jo (cmp:=kas_ask prog w A κ vs) (lt:=jU O key) (s:={s with heap:=((s.heap.update a (ô λ_=>(#[]:Č Value))).push (ċ "tuple" vs.toArray 0)).push (ċ "list" #[] 0)})
  (Q:=λp u=>p=c9 (jU O key) (nE vs.length)/\u={s with heap:=((s.heap.update a (ô λ_=>(#[]:Č Value))).push (ċ "tuple" vs.toArray 0)).push (ċ "list" #[] 0)}) (λi j C J L hC=>F _ d i j C J L hC) (DK (by lia)) ⟨rfl,rfl⟩
 refine Ã (aw (kat_run (Q:=λc s'=>∃p:Č Nat,p.size=vs.length/\arrOf c=p.map (kas_item (vs.toArray.zip vs.toArray))/\YZ c=none/\p=c9 (jU O key) (nE vs.length)/\s'={s with heap:=((s.heap.update a (ô λ_=>(#[]:Č Value))).push (ċ "tuple" vs.toArray 0)).push (ċ "list" #[] 0)})
  rfl D q (λT c s' y z B v=>⟨T,y,z,B,v.1,v.2⟩) ask) ?_ λ_ _ e=>e)
 rintro⟨⟨⟩,c⟩ s' ⟨p,N,r,I,rfl,rfl⟩;dsimp only;have k:=kat_snds rfl r;have t:(Ğ ((c9 (jU O key) (nE vs.length)).toList.map λi=>vs.getD i í)).size=vs.length:=by rw[Ú,Ê,Į,N]
 rw[k];have na:(((s.heap.update a (ô λ_=>(#[]:Č Value))).push (ċ "tuple" vs.toArray 0)).push (ċ "list" #[] 0)).get? a=À (ċ "list" #[] m):=Ä _ (Ä _ g);refine Ã (mi na rfl ?_);refine Ã (dR na rfl ?_ (ĩ _) (ł (gg t) (by rw[ā];lia)));rw[I];simp only[wL,aG,ia];obtain⟨U,X,Y⟩:=DL (key:=key) (n:=vs.length) (by lia);exact È (h _ U X Y)
end
end Mm
namespace L2
open PySem PySem.Spec PyProof.Rows
def š.qG (x:š P w H h a o):∃u,h.get? a=À u:=by
 cases o with
 |lst xs=>obtain⟨_,_,_,_,e⟩:=x;exact⟨_,e⟩
 |tup xs=>obtain⟨_,_,_,⟨_,e,_⟩⟩:=x;exact⟨_,e⟩
 |dK b=>obtain⟨_,_,_,_,o,_,_,e,_⟩:=x;exact⟨_,e⟩
 |dT b=>obtain⟨_,_,_,_,o,_,_,e,_⟩:=x;exact⟨_,e⟩
 |set S n=>obtain⟨o,_,_,_,e,_⟩:=x;exact⟨_,e⟩
 |ins C d c=>obtain⟨_,_,_,e,_⟩:=x;exact⟨_,e⟩
 |own y=>obtain⟨_,e⟩:=x;exact⟨_,e⟩
 |xd c=>obtain⟨_,⟨_,_,_,e,_⟩,_⟩:=x;exact⟨_,e⟩
 |Tr lo g=>obtain⟨_,_,_,e⟩:=x;exact⟨_,e⟩
 |hY i u=>obtain⟨e,_⟩:=x;exact⟨_,e⟩
 |pH j=>exact⟨_,show h.get? a=À _ from x⟩
 |met f y=>exact⟨_,show h.get? a=À _ from x⟩
 |ext k=>obtain⟨_,⟨_,e⟩,_⟩:=x;exact⟨_,e⟩
def Inv.grown (I:Inv X d h H s)(k:∀b u,s.heap.get? b=À u->h'.get? b=À u)(e:∀b u,s.heap.get? b=À u->H' b=H b)
  (f:∀b o,s.heap.get? b=none->H' b=À o->š X.prog X.w H' h' b o):Inv X d h H' {s with heap:=h',toks:=t'}:=by
 have a:∀b o,H b=À o->H' b=À o:=λb o z=>by
  obtain⟨u,hu⟩:=(I.Ů b o z).qG;rw[e b u hu];exact z
 refine I.un ⟨λb u q _ _ _=>k b u q,λb u q _ _ _=>⟨u.slots,k b u q⟩,λb u q n _=>by rw[e b u q];exact n,λb u q _=>⟨u,k b u q⟩,λb xs q=>a b _ q,λb u xs q=>a b _ q,λb i q=>⟨#[],by rw[a b _ q];simp⟩⟩ λb o z=>?_;cases g:s.heap.get? b with
 |some u=>
  rw[e b u g]at z;exact(I.Ů b o z).pq (λc u _ q=>k c u q) (λc q=>a c _ q) λc xs q=>a c _ q
 |none=>exact f b o g z
def z0 (a b:Str):Bool:=!decide (b.cps.toList<a.cps.toList)
def EW (a:Str):Â Str->Â Str
 |[]=>[a]
 |b::r=>if z0 a b=true then a::b::r else b::EW a r
def ŀ:Â Str->Â Str
 |[]=>[]
 |a::r=>EW a (ŀ r)
theorem qe (a:Str):∀l,(EW a l).Perm (a::l)
 |[]=>.refl _
 |b::r=>by
  unfold EW;split
  ·exact .refl _
  ·exact((qe a r).cons b).trans (.swap a b r)
theorem ky:∀l,(ŀ l).Perm l
 |[]=>.refl _
 |a::r=>(qe a (ŀ r)).trans ((ky r).cons a)
abbrev oS:KeyOrd:=strKind.toKeyOrd
abbrev Ey (a:Str):oS.α:=a.cps.toList
def ja:z0 a b=true ↔ oS.kle (Ey a) (Ey b):=by
 unfold z0 Ud;show(!decide (b.cps.toList<a.cps.toList))=true ↔ decide (b.cps.toList<a.cps.toList)=false;simp
def E_ (a b:Str)(h:z0 a b≠true):z0 b a=true:=by
 rw[ja];refine A5 λz=>?_;exact h (ja.mpr (qM z))
def v_ (h:z0 a b=true)(k:z0 b c=true):z0 a c=true:=by
 rw[ja]at *
 exact gG h k
def ub (h:z0 a b=true)(k:z0 b a=true):a=b:=by
 rw[ja]at *
 have e:a.cps.toList=b.cps.toList:=DY h k;cases a with|mk x=>cases b with|mk y=>exact à Str.mk (sI.mp e)
theorem qW (a:Str):∀{l:Â Str},l.Pairwise (λx y=>z0 x y=true)->(EW a l).Pairwise (λx y=>z0 x y=true)
 |[],_=>lu _ _
 |b::r,h=>by
  unfold EW;split
  ·rename_i c;refine Ō.mpr ⟨λx hx=>?_,h⟩;rcases ò.mp hx with rfl|hx
   ·exact c
   ·exact v_ c ((Ō.mp h).1 x hx)
  ·rename_i c;refine Ō.mpr ⟨λx hx=>?_,qW a (Ō.mp h).2⟩;rcases ò.mp ((qe a r).mem_iff.mp hx)with rfl|hx
   ·exact E_ _ _ c
   ·exact(Ō.mp h).1 x hx
theorem pj:∀l,(ŀ l).Pairwise (λx y=>z0 x y=true)
 |[]=>mK
 |a::r=>qW a (pj r)
theorem gF {α:Type}{le:α->α->Bool}(c:∀a b,le a b=true->le b a=true->a=b):∀{l q:Â α},l.Perm q->l.Pairwise (λx y=>le x y=true)->q.Pairwise (λx y=>le x y=true)->l=q
 |[],q,p,_,_=>(List.nil_perm.mp p).symm
 |a::r,q,p,h,k=>by
  cases q with
  |nil=>exact absurd (p.length_eq) (by simp)
  |cons b t=>
   have d:a=b:=by
    rcases ò.mp (p.mem_iff.mp Ļ)with e|ha
    ·exact e
    ·rcases ò.mp (p.mem_iff.mpr Ļ)with e|hb
     ·exact e.symm
     ·exact c _ _ ((Ō.mp h).1 b hb) ((Ō.mp k).1 a ha)
   subst d;rw[gF c p.cons_inv (Ō.mp h).2 (Ō.mp k).2]
def Cg {l q:Â Str}(p:l.Perm q)(h:l.Pairwise (λx y=>z0 x y=true)):l=ŀ q:=
 gF (λ_ _=>ub) (p.trans (ky q).symm) h (pj q)
theorem pk:∀{l:Â Str},sortedS l=true->l.Pairwise (λx y=>z0 x y=true)
 |[],_=>.nil
 |[a],_=>lu _ _
 |a::b::r,h=>by
  have h:(!ltCps b.cps.toList a.cps.toList&&risingS b r)=true:=h;rw[Ĉ]at h;have d:(b::r).Pairwise (λx y=>z0 x y=true):=pk h.2;have c:z0 a b=true:=by
   have:=h.1;rw[ltCps_eq]at this;exact this
  refine Ō.mpr ⟨λx hx=>?_,d⟩;rcases ò.mp hx with rfl|hx
  ·exact c
  ·exact v_ c ((Ō.mp d).1 x hx)
theorem uG:∀{l:Â Value}{ks:Â Str},l.length=ks.length->(∀j (a:j<ks.length),∃t,l[j]?=À (.str ks[j] t))->StrsAre l ks
 |[],[],_,_=>.nil
 |[],_::_,h,_=>by simp at h
 |_::_,[],h,_=>by simp at h
 |v::r,k::q,h,g=>by
  obtain⟨t,e⟩:=g 0 (by simp);simp at e;subst e;exact .cons k t (uG (by simpa using h) λj a=>by
   obtain⟨t,e⟩:=g (j+1) (by simpa using a);exact⟨t,by simpa using e⟩)
def KW {kvs:Â (Key×V)}(a:KV kvs vs){ks:Â Str}(hk:kvs.map (·.1)=ks.map bc) (e:vs[j]?=À (k,x)) (d:j<ks.length):k=bc ks[j]:=by
 have c:(vs.map (·.1))=kvs.map (·.1):=by
  clear hk e;unfold KV at a;induction a with
  |nil=>rfl
  |cons h _ f=>rw[Õ,Õ,f,h.1]
 have b:(vs.map (·.1))[j]?=À k:=by rw[ê,e];rfl
 rw[c,hk,ê,Å d]at b;exact(ã b).symm
def Qo:Â V->Hp->VK->Prop:=λxs H Q=>∃d a b,xs=[.ref d]/\H d=À (.dK a)/\a.map (·.1)=b.map bc/\b.length<64/\∀l,H l=none->Q (.ref l) (upd H l (.lst ((ŀ b).map V.str)))
def Bn {X:Cx}(hc:X.calm=true):cQ X (.builtin "sorted") Qo:=by
 rintro T s σ H xs us Q I rv ⟨d,kvs,l,rfl,hH,P,B,q⟩;obtain⟨u,rfl,ru⟩:=rv.one;cases (show u=Ð d from ru);obtain⟨z,hd,U,n,dd⟩:=GS I.Ů hH;obtain⟨ep,E⟩:=dd.dictAt;have J:U.length=l.length:=by
  have v:=à cK P;have y:=n.length;rw[Ê,Ê]at v;lia
 have hh:=I.ok.hd hc;refine oj NC J8 J5 (args_sorted1 _) ?_;unfold cO.«sorted»;refine Ã (m:=Rt "sorted" 1 1 _) (È ?_);refine Ã (PySem.W.kdu_collect (A:=X.A.in1) (PySem.W.kdl_dict (knd:=ay X.prog X.w) (kvs:=U) (ep:=ep) hd) hh E (by rw[<-n.length];exact z) λf tk a h g=>?_);have hl:a.toList.length=l.length:=by rw[Į,g.1,J]
 have D:StrsAre a.toList l:=uG hl λj O=>by
  have p:j<a.size:=by rw[<-Į,hl];exact O
  obtain⟨k,x,r,e2⟩:=g.2 j a[j] (by rw[ak p]);have ek:k=bc l[j]:=KW n P r O;subst ek;obtain⟨t,et⟩:=FX (show yY l[j] a[j]=true from e2);exact⟨t,by rw[av,ak p,et]⟩
 refine Ã (fM ?_ (by rw[hl];exact Ħ (ſ (by lia))));have i:(f.push (ċ "list" a.toList.toArray 0)).get? f.objs.size=À (ċ "list" a.toList.toArray 0):=Ò _ rfl;refine Ã (Ŏ (ġ Em ⟨_,i,rfl⟩ A_ (list_sort_treeK strKind_oneLt i D.keysOf (λY Z rest e=>keyKind_strs (by rw[<-e];exact D)) (by rw[hl];exact B) λM a1 a2=>⟨_,rfl,?_⟩) (YY _)));obtain⟨L,v,y,h3⟩:=sorted_out_str D a1 a2;have r:L=ŀ l:=Cg y (pk h3);subst r;have c:∀b u,s.heap.get? b=À u->b≠f.objs.size:=λb u e=>ï (Ï (h b u e));have C:H f.objs.size=none:=by
  cases q0:H f.objs.size with
  |none=>rfl
  |some o=>obtain⟨u,hu⟩:=(I.Ů _ o q0).qG;exact absurd rfl (c _ u hu)
 obtain⟨ec,F⟩:=sortedHeap_at i (out:=(arrOf M).map (·.2));refine È ⟨_,rfl,.ref f.objs.size,upd H f.objs.size (.lst ((ŀ l).map V.str)),?_,rfl,q _ C⟩;refine I.grown (λb u e=>?_) (λb u e=>ä (c b u e)) λb o e z=>?_
 ·rw[Y7 (c b u e) (by rw[Ĺ];exact dz (Ï (h b u e)))];exact Ä _ (h b u e)
 ·by_cases N:b=f.objs.size
  ·subst N;rw[ă]at z;cases z;refine⟨by rw[Ê,y.length_eq];exact Ħ (ſ (by lia)),_,ec,kK v,?_⟩;rw[F]
  ·rw[ä N]at z;obtain⟨u,hu⟩:=(I.Ů b o z).qG;rw[e]at hu;cases hu
end L2
namespace Mm
open PySem PySem.W PyProof.Rows
section
variable {prog:ą}{w:ħ}{A:Ŕ}{E:Value->Ô->Prop}{s:Ô}{a:Addr}{vs:Â Value}
def II {O:KeyOrd}{key:Nat->O.α}{κ:wJ}{P:J0->Ô->Prop}(d:s.heap.get? a=À (ċ "list" vs.toArray n)) (l:vs.length<64)
  (hk:∀h':Heap,2<=vs.length->(∀b o,b≠a->s.heap.get? b=À o->h'.get? b=À o)->∀Q:wJ->Ô->Prop,Q κ {s with heap:=h'}->Ø (Û prog w) A (Y1 vs.toArray) Q (λ_ _=>False) {s with heap:=h'})
  (t:∀h':Heap,(∀b o,b≠a->s.heap.get? b=À o->h'.get? b=À o)->∀i j C,i<vs.length->j<vs.length->C (O.blt (key i) (key j)) {s with heap:=h'}->Ø (Û prog w) A (keyLt' κ (vs.getD i í) (vs.getD j í)) C (λ_ _=>False) {s with heap:=h'})
  (h:∀p:Č Nat,zd key p vs.length->p.size=vs.length->p.Perm (Ğ (Ă vs.length))->P (.done (.ret .none)) {s with heap:=sortedHeap s.heap a vs (Ğ (p.toList.map λi=>vs.getD i í))}) :
  Ø (Û prog w) A (cO.«list.sort» ⟨[.ref a],[]⟩) P E s:=by
 by_cases m:2<=vs.length
 ·exact Mj d m l (λh' k=>hk h' m k) t h
 ·have v:a<s.heap.objs.size:=Ï d;obtain⟨g,f⟩:∃g,(s.heap.update a (ô λ_=>(#[]:Č Value))).get? a=À (ċ "list" #[] g):=⟨_,jC d λ_=>#[]⟩
  rw[X'];refine Ã (wN d rfl ?_);refine Ã (dR d rfl ?_ (by rw[Ú,ā];lia) (ĩ _));refine Ã (mi f rfl ?_);refine Ã (ry ?_ (by show vs.length<=_;rw[ā];lia));refine Ã (fM ?_ (ĩ _));refine Ŏ ?_;show Ø (Û prog w) A _ P E {s with heap:=((s.heap.update a (ô λ_=>(#[]:Č Value))).push (ċ "tuple" vs.toArray 0)).push (ċ "list" #[] 0)};dsimp only;have c:vs.toArray.size<2:=by rw[Ú];lia
  rw[Ì c,Ì c];refine Ã (È ?_);rw[J1];refine Ã (È ?_);dsimp only;have na:(((s.heap.update a (ô λ_=>(#[]:Č Value))).push (ċ "tuple" vs.toArray 0)).push (ċ "list" #[] 0)).get? a=À (ċ "list" #[] g):=Ä _ (Ä _ f);refine Ã (mi na rfl ?_);refine Ã (dR na rfl ?_ (ĩ _) (by rw[Array.size_map];show(pairsOf vs).size<=_;rw[pairsOf_size,ā];lia));simp only[wL,aG,ia];have q:=h (Ğ (Ă vs.length)) (λi j x y=>by lia) (by simp) (bj _);have e:Ğ ((Ğ (Ă vs.length)).toList.map λi=>vs.getD i í)=(vs.toArray.zip vs.toArray).map (·.2):=by
   apply sI.mp;apply uW
   ·simp
   ·intro i r z;have u:i<vs.length:=by simpa using r
    simp[u]
  rw[e]at q;exact È q
end
end Mm
namespace L2
open PySem PySem.Spec PyProof.Rows
def Ha {as:Â Addr}(nd:as.Nodup)(b:j<as.length):as.idxOf as[j]=j:=by
 have a:=List.idxOf_lt_length_of_mem (hX b);exact(ee nd).mp (List.getElem_idxOf a)
def qU (h:Q true s):Ø (Û prog w) A (eqBool v v) Q E s:=by
 unfold eqBool;refine Ŏ ?_;rw[Ì (yZ v)];exact Ã (bP (È h))
end L2
namespace Mm
open PySem L2
noncomputable def kz:Â (Key×AV)->É (Â Str)
 |[]=>À []
 |(.inr x,_)::r=>(kz r).map (x::·)
 |_::_=>none
theorem rg:∀{kvs:Â (Key×AV)}{ks:Â Str},kz kvs=À ks->kvs.map (·.1)=ks.map bc
 |[],_,h=>by cases h;rfl
 |(.inr x,v)::r,ks,h=>by
  have h:(kz r).map (x::·)=À ks:=h;cases e:kz r with
  |none=>rw[e]at h;cases h
  |some q=>rw[e]at h;cases h;rw[Õ,rg e];rfl
 |(.inl x,v)::r,ks,h=>by cases h
def qc (m:Ev):gL:=λa s=>(m a s).bind λv d=>match v with
 |.ref i=>need (lA d i) λb=>need (kz b) λc=>if c.length<64 then .ok ((ŀ c).map .str) d else .bad
 |_=>.bad
section
variable {T:Tx}{XE:gO}{X:Cx}{pos:jA}
def HB (u:X.mg "sorted"=none)(h:PE X e (tE T XE m)) (f:X.calm=true:=by rfl)(t:Gl X "sorted":=by rfl)(d:Î [e] X.env=(false,ģ e X.env)::Î [] X.env:=by rfl) (g:(ĺ pos (Î [] X.env)).any (·.1)=false:=by rfl) :
  PE X (.Call (.Name "sorted" p) [e] [] pos) (tL T XE (qc m)):=
 PE.imp (gD (Bn f) t u iU (cu h iM d) (by decide) (by decide) d g) λO H Q D=>ś D λN o s y d w=>step y d w λv L E F x _ M c q j b=>by
  cases v with
  |ref i=>
   obtain⟨A,k,b⟩:=b.ü;obtain⟨z,n,b⟩:=b.ü;obtain⟨hl,b⟩:=b.ū;obtain⟨a,C,rfl,I,r,B,J⟩:=c.Ez (mq k) j;exact⟨a,C,z,rfl,r,by rw[<-B];exact rg n,hl,λl hl=>b.lst c hl (Ĭ.map (λ_=>jo) _)⟩
  |_=>exact b.elim
end
end Mm
namespace Ro
open PySem L2 Mm
def M4 (env:En):Nat:=match (env[(1:Nat)]?:É (É AV))with
 |some (À (.int i))=>i.natAbs+1
 |_=>0
def ž:AV:=.tup [.int 0,.int 1]
def nj:AV:=.tup [.int 1,.int 1]
noncomputable def Ť:AV:=.tup [.str "of",.str "steps"]
def eK:Ms:=
 (ý (r3 0 1 (Á (A2 wh (Á (mv 0) Ë)) (Á (A2 wh (Á (mv 1) Ë)) Ë)))
 (ý (IF (λa _=>M4 a) (cB (Ó iW (mv 1) (mc (.int 0)))) (r3 0 1 (Á (mv 1) (Á (Ó jc (mv 0) (mv 1)) Ë))))
 (ş (mv 0))))
def ŭ:Â AV->S->R AV:=dU 2 eK
def Bi:Ms:=
 (ý (m3 (mv 0) (gT 2 (ß (gN 5) (ß (gN 6) Ű))))
 (ý (m3 (mv 1) (gT 2 (ß (gN 7) (ß (gN 8) Ű))))
 (ý (Š 2 (ě 2 ŭ (Á (mv 6) (Á (mv 8) Ë))))
 (ý (Š 3 (Ó ĸ (Ó jd (mv 5) (Ó kl (mv 8) (mv 2))) (Ó jd (mv 7) (Ó kl (mv 6) (mv 2)))))
 (ý (Š 4 (ě 2 ŭ (Á (mv 3) (Á (mv 2) Ë))))
 (ş (î (Á (Ó kl (mv 3) (mv 4)) (Á (Ó jd (Ó kl (mv 6) (mv 2)) (Ó kl (mv 8) (mv 4))) Ë)))))))))
def qb:Â AV->S->R AV:=dU 9 Bi
def sV:Ms:=
 (ý (Š 1 (mc ž))
 (ý (qE (aX (mv 0)) (gN 2) (Š 1 (ě 2 qb (Á (mv 1) (Á (mv 2) Ë)))))
 (ş (mv 1))))
def gv:Â AV->S->R AV:=dU 3 sV
def j9:Ms:=
 (ý (Š 1 (ī (vo DF (KY (OO (mv 0) oN (oS (mc (.int 63))))))))
 (ý (gb (KJ (cB (Ó bf (mv 1) (ī (Ŵ Ë))))) (Š 1 (ī (Ŵ (Á (mc (.int 7)) Ë)))) aN)
 (ş (wc [((mc (.str "cells")),(mv 1)),((mc (.str "turn")),(mc (.int 0)))]))))
def dv:Â AV->S->R AV:=dU 2 j9
def lK:Ms:=
 (ý (Š 2 (Ó ĸ (Ó fZ (mv 0) (mc (.str "turn"))) (mc (.int 1))))
 (ý (kJ (mv 0) (mc (.str "turn")) (mv 2))
 (ý (Š 3 (Ó jc (mv 2) (A2 kI (Á (Ó fZ (mv 0) (mc (.str "cells"))) Ë))))
 (ý (Š 4 (Ó Ċ (Ó fZ (mv 0) (mc (.str "cells"))) (mv 3)))
 (ý (gb (cB (Ó HR (mv 4) (Ó Dv (mc (.int 10)) (mc (.int 18))))) (ý (m3 (A2 l0 (Á (mv 4) (Á (mv 1) Ë))) (gT 2 (ß (lQ (Ó fZ (mv 0) (mc (.str "cells"))) (mv 3)) (ß (gN 6) Ű))))
 (ş (mv 6))) aN)
 (ý (Š 5 (Ó jc (Ó jd (Ó ĸ (Ó ĸ (Ó jc (mv 4) (mc (.int 2147483629))) (Ó jd (Ó jd (mv 2) (mv 2)) (mc (.int 7919)))) (mc (.int 11))) (mc (.int 48271))) (mc (.int 2147483647))))
 (ý (Š 5 (Ó jc (Ó jd (mv 5) (mv 5)) (mc (.int 2147483587))))
 (ş (Ó jc (Ó kl (Ó jc (Ó jd (Ó ĸ (mv 5) (Ó jd (mv 2) (mc (.int 104729)))) (mc (.int 39373))) (mc (.int 2147483629))) (mc (.int 64))) (mv 1))))))))))
def Ţ:Â AV->S->R AV:=dU 7 lK
def cZ (rf:Â AV->S->R AV):Ms:=
 (ý (gb (cB (Ó ur (mv 1) (mc .Ě))) (ş (Ó ur (mv 0) (mc .Ě))) aN)
 (ý (gb (FZ (cT (aI (gC "list") (mv 1))) (cT (aI (gC "tuple") (mv 1)))) (ý (gb (cB (Ó iW (aI (gC "list") (mv 0)) (aI (gC "list") (mv 1)))) (ş (mc (.bl false))) aN)
 (ý (gb (FZ (cB (Ó iW (aI (gC "tuple") (mv 0)) (aI (gC "tuple") (mv 1)))) (cB (Ó iW (A2 kI (Á (mv 0) Ë)) (A2 kI (Á (mv 1) Ë))))) (ş (mc (.bl false))) aN)
 (ş (vo Fz (Ż [("_law_one",none),("_law_other",none)] (IK (mv 0) (mv 1)) (gT 2 (ß (gN 0) (ß (gN 1) Ű))) jk (ě 2 rf (Á (mv 0) (Á (mv 1) Ë)))))))) aN)
 (ý (gb (cT (aI (gC "str") (mv 1))) (ş (Fe (aI (gC "str") (mv 0)) (Ó bf (mv 0) (mv 1)))) aN)
 (ş (Fe (aI (gC "int") (mv 0)) (Fe (aI HU (aI (gC "bool") (mv 0))) (Ó bf (mv 0) (mv 1))))))))
def đ:Nat->Â AV->S->R AV
 |0=>λ_ _=>.bad
 |n+1=>dU 2 (cZ (đ n))
end Ro
namespace Dx
open PySem PySem.W PyProof.Rows
section
variable {prog:ą}{w:ħ}{A:Ŕ}{E:Value->Ô->Prop}{s:Ô}
noncomputable abbrev Ov (own:Value)(f:Bool)(d:Addr)(i n ep:Nat)(x y:Value):Obj:={cls:=.type "dict_itemiterator",data:=.fields #[own,.bool f,.ref d,.int i 0,.int n 0,.int ep 0,x,y]}
abbrev pr (e:yL):Obj:={cls:=.type "tuple",data:=.seq #[e.key,e.val]}
def Wk (h:Heap)(c d S:Addr)(i n ep:Nat):Prop:=∃b f x y,h.get? c=À (Ov b f d i n ep x y)/\(b=.none∨∃(a:Addr) (e:Obj),b=Ŷ a/\h.get? a=À e/\a≠c/\a≠S)
def M_:MG ((Manifest.find? "dict_itemiterator").elim "dict_itemiterator" λx=>x.tpName)=true:=by decide+kernel
def tH {h p c:Heap}(l:g<h.objs.size)(s1:d_ g h p)(m:d_ g (p.push (pr e)) c) (t:c.get? g=À (Ov (Ŷ (a:Addr)) f d i n ep x y)) (r:c.get? a=À u)(k:a≠g)(j:a≠S) :
  Wk c g d S i n ep/\c.get? h.objs.size=À (pr e)/\c.objs.size=h.objs.size+1/\∀b o,b≠g->h.get? b=À o->c.get? b=À o:=
 ⟨⟨_,f,x,y,t,.inr ⟨a,u,rfl,r,k,j⟩⟩,by rw[m.2 _ (Ń l),<-s1.1];exact Ò _ rfl,by rw[m.1,Ĺ,s1.1],
  λb o q z=>by rw[m.2 b q];exact Ä _ ((s1.2 b q).trans z)⟩
def Fm {od:Obj}{Q:É Value->Ô->Prop}(hw:Wk s.heap c d S i e.size ep)(O:S<s.heap.objs.size)(X:s.heap.get? d=À od)(hd:od.data=.dict e ep)(T:i<e.size)
   (C:∀h',Wk h' c d S (i+1) e.size ep->h'.get? s.heap.objs.size=À (pr e[i])->h'.objs.size=s.heap.objs.size+1->(∀b o,b≠c->s.heap.get? b=À o->h'.get? b=À o)->Q (À (.ref s.heap.objs.size)) {s with heap:=h'}):Ø (Û prog w) A (fE (.ref c)) Q E s:=by
  obtain⟨j,g,M,tk,os⟩:=s;obtain⟨o1,o2,o3,o4⟩:=od;simp only at hd;subst hd;obtain⟨H,f,x,y,p,U⟩:=hw;have hT:jT ⟨j,g,M,tk,os⟩ (.ref c) "dict_itemiterator":=⟨_,p,rfl⟩
  have m:c<j.objs.size:=Ï p;have N:(if (i:Int)<0 then none else e[(i:Int).toNat]?)=À e[i]:=by rw[Ö (by lia),bS,ak T]
  unfold fE;refine Ã (cA (Ĵ (name:=Ĕ "__next__") hT Ŧ
    (ġ Ŧ hT nA ?_ (m4 _))))
  unfold cO.«dict_itemiterator.__next__»;wp_walk
  rw[N];have k:d_ c j (j.update c (þ λx=>x.setIfInBounds (2+1) (Ŷ ((i:Int)+1)))):=ŵ ..;have I:(j.update c (þ λx=>x.setIfInBounds (2+1) (Ŷ ((i:Int)+1)))).get? c=À (Ov H f d (i+1) e.size ep x y):=ù _ p rfl;rcases U with rfl|⟨a,oa,rfl,P,l,v⟩
  · wp_walk
    rw[M_,Ì rfl,Ö (by decide+kernel)];generalize j.update c (þ λx=>x.setIfInBounds (2+1) (Ŷ ((i:Int)+1)))=h at *
    have B:(h.push (pr e[i])).get? c=_:=Ä _ I;have D:=ù (þ λx=>x.setIfInBounds 6 e[i].key) B rfl;have Y:=ù (þ λx=>x.setIfInBounds (6+1) e[i].val) D rfl;have Z:=ù (þ λx=>x.setIfInBounds 0 (Ŷ h.objs.size)) Y rfl;have k6:=ù (þ λx=>x.setIfInBounds 1 (e8 false)) Z rfl;have L:=(((ŵ (h.push (pr e[i])) c (þ λx=>x.setIfInBounds 6 e[i].key)).trans (ŵ _ c (þ λx=>x.setIfInBounds (6+1) e[i].val))).trans (ŵ _ c (þ λx=>x.setIfInBounds 0 (Ŷ h.objs.size)))).trans (ŵ _ c (þ λx=>x.setIfInBounds 1 (e8 false)));have z:h.objs.size≠c:=by rw[k.1];exact Ń m
    obtain⟨q,r,t,u⟩:=tH (S:=S) m k L k6 ((L.2 _ z).trans (Ò _ rfl)) z (by rw[k.1];exact Ń O);refine⟨_,rfl,È ?_⟩;rw[show h.objs.size=j.objs.size from k.1];rw[show h.objs.size=j.objs.size from k.1]at q r t u;exact C _ q r t u
  · wp_walk
    rw[M_,Ì rfl,Ö (by decide+kernel)];generalize j.update c (þ λx=>x.setIfInBounds (2+1) (Ŷ ((i:Int)+1)))=h at *
    have B:(h.push (pr e[i])).get? c=_:=Ä _ I;have n:(h.push (pr e[i])).get? a=À oa:=Ä _ ((k.2 a l).trans P);show Ø _ _ (loadIfAlive ((a:Int).toNat)) _ _ _;rw[bS];refine PySem.W.kdx_alive n ?_;cases f with
    |true=>
      wp_walk
      refine⟨_,rfl,È ?_⟩;obtain⟨q,r,t,u⟩:=tH (S:=S) m k (Xv _ _) B n l v;rw[show h.objs.size=j.objs.size from k.1];exact C _ q r t u
    |false=>
      wp_walk
      have D:=ù (þ λx=>x.setIfInBounds 1 (e8 true)) B rfl;have J:=ŵ (h.push (pr e[i])) c (þ λx=>x.setIfInBounds 1 (e8 true));refine⟨_,rfl,È ?_⟩;obtain⟨q,r,t,u⟩:=tH (S:=S) m k J D ((J.2 a l).trans n) l v;rw[show h.objs.size=j.objs.size from k.1];exact C _ q r t u
def Fj {od:Obj}{Q:É Value->Ô->Prop}(m:A.handled=none)(c:s.heap.get? h=À (Ov q f d a.size a.size ep x y)) (n:s.heap.get? d=À od)(hd:od.data=.dict a ep)
   (k:∀h',(∀b o,b≠h->s.heap.get? b=À o->h'.get? b=À o)->Q none {s with heap:=h'}):Ø (Û prog w) A (fE (.ref h)) Q E s:=by
  obtain⟨p,g,i,r,os⟩:=s;obtain⟨t,u,v,z⟩:=od;simp only at hd;subst hd;have hT:jT ⟨p,g,i,r,os⟩ (.ref h) "dict_itemiterator":=⟨_,c,rfl⟩
  have j:(if (a.size:Int)<0 then none else a[(a.size:Int).toNat]?)=none:=by rw[Ö (by lia),bS,fK (Í _)]
  unfold fE;refine Ã (cA (Ĵ (name:=Ĕ "__next__") hT Ŧ
    (ġ Ŧ hT nA ?_ (m4 _))))
  unfold cO.«dict_itemiterator.__next__»;wp_walk
  rw[j];wp_walk
  have hA:A.in1.handled=none:=m;simp only[Y4];refine Ã (Gb ?_);rw[hA];refine Ã (È (NH ?_));refine Ã (za (T:="StopIteration") (b:=true) ⟨_,Ò _ rfl,rfl⟩ Ei (È (k _ λb o l e=>?_)));exact Ä _ (Ä _ ((ç _ _ (ő l)).trans e))
def BK {od:Obj}{Q:Value->Ô->Prop}(c:s.heap.IsItemsView v d)(i:s.heap.get? d=À od)(hd:od.data=.dict f ep)
   (h:Q (.ref s.heap.objs.size) {s with heap:=s.heap.push (Ov .none false d 0 f.size ep .none .none)}):Ø (Û prog w) A (J9 (.ref v)) Q E s:=by
  obtain⟨k,g,e,l,os⟩:=s;obtain⟨m,n,o,p⟩:=od;simp only at hd;subst hd;have hT:=c.typeIs (s:=⟨k,g,e,l,os⟩);obtain⟨⟨q,r,t,u⟩,j,a,b⟩:=c;simp only at a b;subst a b;refine Ut hT sO (ġ sO hT PySem.F.entry_dict_items_iter ?_ (PySem.F.args_dict_items_iter_1 _));unfold cO.«dict_items.__iter__»;wp_walk
  exact⟨_,rfl,"dict_itemiterator",_,⟨_,Ò _ rfl,rfl⟩,Ŧ.lookup,h⟩
abbrev JR (d:Addr)(i n ep:Nat):Obj:={cls:=.type "dict_keyiterator",data:=.fields #[.ref d,.int i 0,.int n 0,.int ep 0]}
def HN {od:Obj}{Q:É Value->Ô->Prop}(c:s.heap.get? f=À (JR d i a.size ep)) (n:s.heap.get? d=À od)(hd:od.data=.dict a ep)(m:i<a.size)
   (k:∀h',h'.get? f=À (JR d (i+1) a.size ep)->(∀b o,b≠f->s.heap.get? b=À o->h'.get? b=À o)->Q (À a[i].key) {s with heap:=h'}):Ø (Û prog w) A (fE (.ref f)) Q E s:=by
  obtain⟨p,g,h,q,os⟩:=s;obtain⟨r,t,u,v⟩:=od;simp only at hd;subst hd;have hT:jT ⟨p,g,h,q,os⟩ (.ref f) "dict_keyiterator":=⟨_,c,rfl⟩
  have j:(if (i:Int)<0 then none else a[(i:Int).toNat]?)=À a[i]:=by rw[Ö (by lia),bS,ak m]
  unfold fE;refine Ã (cA (Ĵ (name:=Ĕ "__next__") hT ů
    (ġ ů hT om ?_ (nz _))))
  unfold cO.«dict_keyiterator.__next__»;wp_walk
  rw[j];wp_walk
  refine⟨_,rfl,È (k _ (ù _ c rfl) λb o l e=>(ç _ _ (ő l)).trans e)⟩
def Fi {od:Obj}{Q:É Value->Ô->Prop}(m:A.handled=none)(c:s.heap.get? f=À (JR d i a.size ep)) (n:a.size<=i)(p:s.heap.get? d=À od)(hd:od.data=.dict a ep)
   (k:∀h',(∀b o,b≠f->s.heap.get? b=À o->h'.get? b=À o)->Q none {s with heap:=h'}):Ø (Û prog w) A (fE (.ref f)) Q E s:=by
  obtain⟨q,g,h,r,os⟩:=s;obtain⟨t,u,v,x⟩:=od;simp only at hd;subst hd;have hT:jT ⟨q,g,h,r,os⟩ (.ref f) "dict_keyiterator":=⟨_,c,rfl⟩
  have j:(if (i:Int)<0 then none else a[(i:Int).toNat]?)=none:=by rw[Ö (by lia),bS,fK n]
  unfold fE;refine Ã (cA (Ĵ (name:=Ĕ "__next__") hT ů
    (ġ ů hT om ?_ (nz _))))
  unfold cO.«dict_keyiterator.__next__»;wp_walk
  rw[j];wp_walk
  have hA:A.in1.handled=none:=m;simp only[Y4];refine Ã (Gb ?_);rw[hA];refine Ã (È (NH ?_));refine Ã (za (T:="StopIteration") (b:=true) ⟨_,Ò _ rfl,rfl⟩ Ei (È (k _ λb o l e=>?_)));exact Ä _ (Ä _ ((ç _ _ (ő l)).trans e))
def EY {od:Obj}{Q:Value->Ô->Prop}(lo:(d == bN)=false) (b:s.heap.get? d=À od)(i:od.ExactDict)(hd:od.data=.dict e ep)
   (f:Q (.ref s.heap.objs.size) {s with heap:=s.heap.push (JR d 0 e.size ep)}):Ø (Û prog w) A (J9 (.ref d)) Q E s:=by
  obtain⟨h,g,c,j,os⟩:=s;have a:od.cls=.type "dict":=i.1;have hT:jT ⟨h,g,c,j,os⟩ (.ref d) "dict":=⟨_,b,a⟩
  obtain⟨k,l,m,n⟩:=od;simp only at hd a;subst hd a;refine Ut hT yU (ġ yU hT PySem.F.entry_dict_iter ?_ (PySem.F.args_dict_iter_1 _));unfold cO.«dict.__iter__»;wp_walk
  exact⟨_,rfl,"dict_keyiterator",_,⟨_,Ò _ rfl,rfl⟩,ů.lookup,f⟩
end
end Dx
namespace L2
open PySem PySem.Spec PyProof.Rows
def oI:KeyOrd where
 α:=Int
 blt a b:=decide (a<b)
 irrefl a:=by simp
 trans a b c h k:=by simp at *;lia
 negTrans a b c h:=by simp at *;lia
 total a b h k:=by simp at *;lia
theorem wo:∀{as:Â Addr}{us:Â Value},Vals (as.map V.ref) us->us=as.map Ð
 |[],_,h=>by cases h;rfl
 |a::r,_,h=>by
  cases h with
  |cons h t=>rw[Õ,<-wo t];exact à (·::_) h
end L2
namespace Mm
open PySem PySem.W PyProof.Rows
def IL {O:KeyOrd}{key:Nat->O.α}(h:zd key p p.toList.length):p.toList.Pairwise (Ah key):=by
 rw[yQ];intro i j c b a;have:=h i j a b;unfold dn at this;have g:∀i (h:i<p.toList.length),p.getD i 0=p.toList[i]:=λi h=>by rw[ŷ,<-av,Å h];rfl
 rw[g i c,g j b]at this;exact this
theorem qJ {as:Â Addr}:∀{l:Â Nat},(∀i∈l,i<as.length)->L2.Vals (l.map λi=>L2.V.ref (as.getD i 0)) (l.map λi=>(as.map Ð).getD i í)
 |[],_=>.nil
 |i::r,a=>.cons (by
   have b:i<as.length:=a i Ļ;show(as.map Ð).getD i í=Ð (as.getD i 0);simp[b]) (qJ λx c=>a x (ÿ _ c))
section
variable {prog:ą}{w:ħ}{A:Ŕ}{E:Value->Ô->Prop}{s:Ô}{a:Addr}{vs:Â Value}
def Ci {ns:Â Int}{f:Value}{P:J0->Ô->Prop}(N:s.heap.get? a=À (ċ "list" vs.toArray n)) (hl:ns.length=vs.length)(R_:vs.length<64)
  (X:∀(i:Nat) (v:Value) (k:Int),vs[i]?=À v->ns[i]?=À k->∀(h:Heap) (l:Nat),(∀b o,b≠a->s.heap.get? b=À o->h.get? b=À o)->
   Ø (Û prog w) A (call f [v]) (λu s'=>∃h' Xm t,s'={s with heap:=h',toks:=Xm}/\u=.int k t/\∀b o,h.get? b=À o->h'.get? b=À o) (λ_ _=>False) {s with heap:=h,toks:=l})
  (h:∀(p:Č Nat) (h':Heap) (l c:Nat),zd (O:=L2.oI) (λi=>ns.getD i 0) p vs.length->p.size=vs.length->p.Perm (Ğ (Ă vs.length))->(∀b o,b≠a->s.heap.get? b=À o->h'.get? b=À o)->
   h'.get? a=À (ċ "list" (Ğ (p.toList.map λi=>vs.getD i í)) c)->P (.done (.ret .none)) {s with heap:=h',toks:=l}) :
  Ø (Û prog w) A (ksk_tree a f false) P E s:=by
 have hla:a<s.heap.objs.size:=Ï N;obtain⟨r,T⟩:∃r,(s.heap.update a (ô λ_=>(#[]:Č Value))).get? a=À (ċ "list" #[] r):=⟨_,jC N λ_=>#[]⟩
 unfold ksk_tree;refine Ã (wN N rfl ?_);refine Ã (dR N rfl ?_ (by rw[Ú,ā];lia) (ĩ _));refine Ã (mi T rfl ?_);refine Ã (ry ?_ (by show vs.length<=_;rw[ā];lia));refine Ã (fM ?_ (ĩ _));refine Ŏ ?_;have k0:∀b o,b≠a->s.heap.get? b=À o->(((s.heap.update a (ô λ_=>(#[]:Č Value))).push (ċ "tuple" vs.toArray 0)).push (ċ "list" #[] 0)).get? b=À o:=λb o q e=>
  Ä _ (Ä _ ((ç _ _ (ő q)).trans e))
 have a0:(((s.heap.update a (ô λ_=>(#[]:Č Value))).push (ċ "tuple" vs.toArray 0)).push (ċ "list" #[] 0)).get? a=À (ċ "list" #[] r):=Ä _ (Ä _ T);have s0:(((s.heap.update a (ô λ_=>(#[]:Č Value))).push (ċ "tuple" vs.toArray 0)).push (ċ "list" #[] 0)).get? ((s.heap.update a (ô λ_=>(#[]:Č Value))).push (ċ "tuple" vs.toArray 0)).objs.size=À (ċ "list" #[] 0):=Ò _ rfl;have hS:s.heap.objs.size<((s.heap.update a (ô λ_=>(#[]:Č Value))).push (ċ "tuple" vs.toArray 0)).objs.size:=by rw[Ĺ,uU];exact eG _
 generalize ((s.heap.update a (ô λ_=>(#[]:Č Value))).push (ċ "tuple" vs.toArray 0)).objs.size=S at *
 show Ø (Û prog w) A (ksk_rest a f false vs.toArray r (.ref S)) P E {s with heap:=((s.heap.update a (ô λ_=>(#[]:Č Value))).push (ċ "tuple" vs.toArray 0)).push (ċ "list" #[] 0),toks:=s.toks};generalize ((s.heap.update a (ô λ_=>(#[]:Č Value))).push (ċ "tuple" vs.toArray 0)).push (ċ "list" #[] 0)=h0 at *
 have B:∀b o,s.heap.get? b=À o->b≠S:=λb o e=>ï (mM (Ï e) hS);have I:S≠a:=(B a _ N).symm;have up:∀(g:Heap) (F:Č Value->Č Value) b o,b≠S->g.get? b=À o->(g.update S (ô F)).get? b=À o:=λg F b o q e=>(ç _ _ (ő q)).trans e;unfold ksk_rest;refine Ã (bP ?_);rw[List.forIn_toArray];refine Ã (ksk_fold (λi s'=>∃h' l kA e,s'={s with heap:=h',toks:=l}/\(∀b o,b≠a->s.heap.get? b=À o->h'.get? b=À o)/\h'.get? S=À (ċ "list" kA e)/\h'.get? a=À (ċ "list" #[] r)/\r8 kA.toList (ns.take i)) vs 0 _
  ⟨h0,s.toks,#[],0,rfl,k0,s0,a0,by simpa using IntsAre.nil⟩ ?step ?done)
 case step=>
  rintro j x s' hx ⟨h',l,kA,e,rfl,Z,Y,ha,d⟩;simp only[Nat.zero_add]at d⊢;have hj:j<vs.length:=(Æ.mp hx).1;have L:ns[j]?=À ns[j]:=Å (by lia);have hz:kA.size<=vs.length:=by
   have h1:=d.length;rw[Į,cz]at h1;lia
  refine Ã (cA (aw (X j x ns[j] hx L h' l Z) (λv U he=>?_) λ_ _ hF=>hF.elim));obtain⟨g,tk2,t2,rfl,rfl,k2⟩:=he;try dsimp only
  have nk:=k2 _ _ Y;obtain⟨c2,Z2⟩:∃c2,(g.update S (ô (·.push (.int ns[j] t2)))).get? S=À (ċ "list" (kA.push (.int ns[j] t2)) c2):=⟨_,jC nk (·.push (.int ns[j] t2))⟩
  have ek:ns.take (j+1)=ns.take j++[ns[j]]:=by rw[List.take_add_one,L];simp
  have ea:(kA.push (kU ns[j] t2)).toList=kA.toList++[kU ns[j] t2]:=by simp
  refine Ã (dR nk rfl ?_ (by rw[ā];lia) (ł (gg (MF ..)) (by rw[ā];lia)));exact È ⟨rfl,_,_,kA.push (.int ns[j] t2),c2,rfl,λb o q z=>up _ _ b o (B b o z) (k2 b o (Z b o q z)),Z2,up _ _ _ _ I.symm (k2 _ _ ha),by rw[ea,ek];exact ksk_snoc d⟩
 case done=>
  rintro s' ⟨h',l,kA,e,rfl,Z,Y,ha,d⟩;have d:r8 kA.toList ns:=by rw[List.take_of_length_le (by lia)]at d;exact d
  have y:kA.toList.length=vs.length:=by rw[d.length,hl]
  have M:kA.size=vs.length:=by rw[<-Į,y]
  try dsimp only
  refine Ã (wN Y rfl ?_);have H:∀(p:Č Nat) (st:SortSt),zd (O:=L2.oI) (λi=>ns.getD i 0) p vs.length->p.size=vs.length->p.Perm (Ğ (Ă vs.length))->(arrOf st).map (·.2)=Ğ (p.toList.map λi=>vs.getD i í)->YZ st=none->
    Ø (Û prog w) A (ksk_tail a false r (.ref S) st) P E {s with heap:=h',toks:=l}:=λp st q1 q2 q3 q4 q5=>by
   have na:(h'.update S (ô λ_=>(#[]:Č Value))).get? a=À (ċ "list" #[] r):=up _ _ _ _ I.symm ha;unfold ksk_tail;try dsimp only
   refine Ã (dR Y rfl ?_ (by rw[M,ā];lia) (ĩ _));refine Ã (AW ?_);refine Ã (mi na rfl ?_);rw[q4,q5];refine Ã (dR na rfl ?_ (ĩ _) (by show(Ğ (p.toList.map _)).size<=_;rw[Ú,Ê,Į,q2,ā];lia));simp only[wL,aG,ia];obtain⟨c3,Z3⟩:∃c3,((h'.update S (ô λ_=>(#[]:Č Value))).update a (ô λ_=>Ğ (p.toList.map λi=>vs.getD i í))).get? a=À (ċ "list" (Ğ (p.toList.map λi=>vs.getD i í)) c3):=⟨_,jC na _⟩
   exact È (h p _ _ c3 q1 q2 q3 (λb o q z=>(ç _ _ (ő q)).trans (up _ _ b o (B b o z) (Z b o q z))) Z3)
  unfold ksk_end;try dsimp only
  rw[Ö Ý];by_cases D:vs.toArray.size<2
  ·rw[Ì D,Ì D];refine Ã (È ?_);rw[J1];refine Ã (È ?_);rw[Ú]at D;refine H (Ğ (Ă vs.length)) _ (λi j h3 h4=>by lia) (by simp) (bj _) ?_ rfl;show((if false=true then (kA.zip vs.toArray).reverse else kA.zip vs.toArray).map (·.2))=_;rw[Ö Ý];apply sI.mp;apply uW
   ·simp[M]
   ·intro i h5 h6;have d:i<vs.length:=by simpa using h6
    simp[d]
  ·rw[Ö D,Ö D];rw[Ú]at D;rw[ksk_kind d (by lia)];refine Ã (È ?_);have g:∀i,i<vs.length->∃t,kA.toList.getD i í=.int (ns.getD i 0) t:=λi J=>by
    obtain⟨t,e⟩:=d.get i ns[i] (Å (by lia));exact⟨t,by rw[ĕ,e,ĕ,Å (by lia)];rfl⟩
   have ask:=Jo (cmp:=kas_ask prog w A oneType' kA.toList) (lt:=jU L2.oI λi=>ns.getD i 0) (s:={s with heap:=h',toks:=l})
    (Q:=λp U=>p=c9 (jU L2.oI λi=>ns.getD i 0) (nE vs.length)/\U={s with heap:=h',toks:=l}) (λi j C J hj' hC=>by
     obtain⟨t,ei⟩:=g i J;obtain⟨u,ej⟩:=g j hj';unfold kas_ask;rw[ei,ej];exact kat_lt_int hC) (DK (by lia)) ⟨rfl,rfl⟩
   have ez:kA.zip vs.toArray=kA.toList.toArray.zip vs.toArray:=by simp
   rw[Ö Ý,ez];refine Ã (aw (kat_run (Q:=λm s'=>∃p:Č Nat,p.size=vs.length/\arrOf m=p.map (kas_item (kA.toList.toArray.zip vs.toArray))/\YZ m=none/\p=c9 (jU L2.oI λi=>ns.getD i 0) (nE vs.length)/\s'={s with heap:=h',toks:=l})
    y (by lia) R_ (λp' m s' a1 a2 a3 a4=>⟨p',a1,a2,a3,a4.1,a4.2⟩) ask) ?_ λ_ _ e=>e)
   rintro⟨⟨⟩,m⟩ s' ⟨p,hp,ZZ,hf,rfl,rfl⟩;obtain⟨q1,q2,q3⟩:=DL (O:=L2.oI) (key:=λi=>ns.getD i 0) (n:=vs.length) (by lia);exact H _ m q1 q2 q3 (kat_snds y ZZ) hf
end
end Mm
namespace L2
open PySem PySem.Spec PyProof.Rows
def Wb (O P:KeyOrd):KeyOrd where
 α:=O.α×P.α
 blt a b:=O.blt a.1 b.1||(!O.blt b.1 a.1&&P.blt a.2 b.2)
 irrefl a:=by simp[O.irrefl,P.irrefl]
 trans a b c h k:=by
  simp only[iS,Ĉ,jW]at h k⊢;rcases h with h|⟨h,h'⟩<;>rcases k with k|⟨k,k'⟩
  ·exact .inl (O.trans _ _ _ h k)
  ·exact .inl (eO h k)
  ·exact .inl (KeyOrd.klt_of_kle_of_klt h k)
  ·exact .inr ⟨gG h k,P.trans _ _ _ h' k'⟩
 negTrans a b c h:=by
  simp only[iS,Ĉ,jW]at h⊢;rcases h with h|⟨h,h'⟩
  ·exact(O.negTrans _ b.1 _ h).imp .inl .inl
  ·cases e1:O.blt a.1 b.1 with
   |true=>exact .inl (.inl rfl)
   |false=>
    cases e2:O.blt b.1 c.1 with
    |true=>exact .inr (.inl rfl)
    |false=>exact(P.negTrans _ b.2 _ h').imp (λz=>.inr ⟨gG h e2,z⟩) λz=>.inr ⟨gG e1 h,z⟩
 total a b h k:=by
  simp only[FR,DW,Bool.not_eq_false']at h k;have e:=O.total _ _ h.1 k.1;refine yz e (P.total _ _ ?_ ?_)
  ·rcases h.2 with z|z
   ·rw[k.1]at z;cases z
   ·exact z
  ·rcases k.2 with z|z
   ·rw[h.1]at z;cases z
   ·exact z
def FJ {X:Cx}{A:Ŕ}{O:KeyOrd}{κ:wJ}{key:Nat->O.α}{as:Â Addr}{K:Value->Ô->Prop}{E:Value->Ô->Prop}(I:Inv X k N H s)(n:as.length<64)
  (hk:∀(A:Ŕ) (h':Heap),2<=as.length->(∀b o,s.heap.get? b=À o->h'.get? b=À o)->∀Q:wJ->Ô->Prop,Q κ {s with heap:=h'}->Ø (Û X.prog X.w) A (Y1 (as.map Ð).toArray) Q (λ_ _=>False) {s with heap:=h'})
  (J:∀(h':Heap),(∀b o,s.heap.get? b=À o->h'.get? b=À o)->∀(i j:Nat) (a b:Addr) C,as[i]?=À a->as[j]?=À b->C (O.blt (key i) (key j)) {s with heap:=h'}->Ø (Û X.prog X.w) A.in1 (keyLt' κ (.ref a) (.ref b)) C (λ_ _=>False) {s with heap:=h'})
  (q:∀(p:Â Nat) (l:Addr) (s':Ô),p.Perm (Ă as.length)->p.Pairwise (Mm.Ah key)->H l=none->Inv X k N (upd H l (.lst (p.map λi=>V.ref (as.getD i 0)))) s'->K (.ref l) s') :
  Ø (Û X.prog X.w) A (Uk (as.map Ð) >>= λl=>e_ [l] (call (.builtin "list.sort") [l]) >>= λ_=>Y5 l) (λm s'=>∃v,m=.done (.ret v)/\K v s') E s:=by
 have hl:(as.map Ð).length=as.length:=Ê _;refine Ã (fM ?_ (by rw[hl];exact Ħ (ſ (by lia))));have c:(s.heap.push (ċ "list" (as.map Ð).toArray 0)).get? s.heap.objs.size=À (ċ "list" (as.map Ð).toArray 0):=Ò _ rfl;have B:∀h':Heap,(∀b o,b≠s.heap.objs.size->(s.heap.push (ċ "list" (as.map Ð).toArray 0)).get? b=À o->h'.get? b=À o)->∀b o,s.heap.get? b=À o->h'.get? b=À o:=λh' f b o e=>f b o (ï (Ï e)) (Ä _ e);refine Ã (Ŏ (ġ Em ⟨_,c,rfl⟩ A_ (Mm.II (O:=O) (key:=key) (κ:=κ) c (by rw[hl];exact n) ?_ ?_ λp p1 P M=>⟨_,rfl,?_⟩) (YY _)))
 ·intro h' y f D L;exact hk _ h' (by rw[hl]at y;exact y) (B h' f) D L
 ·intro h' f i j C d t hC;rw[hl]at d t;have g:∀i (h:i<as.length),(as.map Ð).getD i í=.ref as[i]:=λi h=>by rw[ĕ,ê,Å h];rfl
  rw[g i d,g j t];exact J h' (B h' f) i j _ _ C (Å d) (Å t) hC
 ·have pr:p.toList.Perm (Ă as.length):=by
   have:=dB.mp M;rw[hl]at this;simpa using this
  have z:p.toList.length=as.length:=by rw[pr.length_eq,jY]
  have x:∀i∈p.toList,i<as.length:=λi d=>by simpa using pr.mem_iff.mp d
  refine È ⟨_,rfl,q p.toList s.heap.objs.size _ pr ?_ (I.Ů.fresh (Í _)) ?_⟩
  ·exact Mm.IL (by rw[z,<-hl];exact p1)
  ·obtain⟨F,r⟩:=sortedHeap_at c (out:=Ğ (p.toList.map λi=>(as.map Ð).getD i í));refine I.laid (a:=s.heap.objs.size) (t':=s.toks) (λb u e=>?_) (Í _) ⟨by rw[Ê,z];exact Ħ (ſ (by lia)),p.toList.map λi=>(as.map Ð).getD i í,F,?_,r⟩
   ·rw[Y7 (ï (Ï e)) (by rw[Ĺ];exact dz (Ï e))];exact Ä _ e
   ·exact Mm.qJ x
end L2
namespace Dx
open PySem PySem.W PyProof.Rows
structure Got (es:Č yL)(bot:Addr)(h:Heap)(as:Â Addr):Prop where
 rise:as.Pairwise (· < ·)
 above:∀a∈as,bot<a
 pairs:∀(j:Nat) (a:Addr),as[j]?=À a->∃e,es[j]?=À e/\h.get? a=À (pr e)
def Got.lt (g:Got f b h as)(c:a∈as):a<h.objs.size:=by
 obtain⟨j,d⟩:=List.mem_iff_getElem?.mp c;obtain⟨_,_,e⟩:=g.pairs j a d;exact Ï e
def Got.keep (g:Got f c h as)(k:∀b o,c<b->h.get? b=À o->h'.get? b=À o):Got f c h' as:=⟨g.rise,g.above,λj a d=>by
 obtain⟨e,i,l⟩:=g.pairs j a d;exact⟨e,i,k _ _ (g.above a (Ā d)) l⟩⟩
def Got.snoc (g:Got f d h as)(t:h.objs.size=n)(hl:d<n)(r:f[as.length]?=À e)(k:∀b o,d<b->h.get? b=À o->h'.get? b=À o)(q:h'.get? n=À (pr e)):Got f d h' (as++[n]):=by
 subst t;have l:=g.keep k;refine⟨List.pairwise_append.mpr ⟨g.rise,lu _ _,λa ha b p=>by rw[Ġ.mp p];exact g.lt ha⟩,λa ha=>?_,λj a c=>?_⟩
 ·rcases aU.mp ha with ha|ha
  ·exact g.above a ha
  ·rw[Ġ.mp ha];exact hl
 ·rw[List.getElem?_append]at c;split at c
  ·exact l.pairs j a c
  ·rename_i s;cases i:j-as.length with
   |zero=>
    rw[i]at c;cases c;have:j=as.length:=by lia
    subst this;exact⟨e,r,q⟩
   |succ m=>rw[i]at c;cases c
structure Fl (h0 h:Heap)(S I d:Addr)(od:Obj)(es:Č yL)(ep:Nat)(Vt:Č Value)(c:Nat)(as:Â Addr):Prop where
 wk:Wk h I d S as.length es.size ep
 dd:h.get? d=À od
 ls:h.get? S=À {cls:=.type "list",data:=.seq Vt c}
 ac:Vt.toList=as.map Ð
 got:Got es I h as
 lt:I<h.objs.size
 old:∀b o,b≠S->b≠I->h0.get? b=À o->h.get? b=À o
section
variable {prog:ą}{w:ħ}{A:Ŕ}{E:Value->Ô->Prop}{s:Ô}{R:Rn->Ô->Prop}
def fill {od:Obj}{h0:Heap}(P:A.handled=none)(i:S<I)(H:d≠S)(D:d≠I)(hd:od.data=.dict n ep)(hz:n.size<=sizeLine)(res:Value)
  (N:∀h' l g c as,as.length=n.size->g.toList=as.map Ð->h'.get? S=À {cls:=.type "list",data:=.seq g c}->Got n I h' as->(∀b o,b≠S->b≠I->h0.get? b=À o->h'.get? b=À o)->R (.ok (.ret res)) {s with heap:=h',toks:=l}) :
  ∀(m:Nat) (h:Heap) (l c:Nat) (g:Č Value) (as:Â Addr),n.size-as.length=m->as.length<=n.size->Fl h0 h S I d od n ep g c as->
   ef (Û prog w) A (.builtin "list.extend.loop" ⟨[.ref S,.ref I,res],[]⟩) R {s with heap:=h,toks:=l}:=by
 intro m;induction m with
 |zero=>
  intro h l c g as T Q F;have e:as.length=n.size:=by lia
  obtain⟨C,f,x,y,j,_⟩:=F.wk;rw[e]at j;refine pE vC ?_;rw[hU dQ _];refine Ã (m:=fE (.ref I)) (Fj (s:={s with heap:=h,toks:=l}) (A:=A.in1) P j F.dd hd λh' k=>?_);exact È (N h' l g c as e F.ac (k _ _ (ï i) F.ls) (F.got.keep λb o r z=>k b o (Ń r) z) λb o q p z=>k b o p (F.old b o q p z))
 |succ m U=>
  intro h l c g as T Q F;have u:as.length<n.size:=by lia
  have v:g.size=as.length:=by rw[<-Į,F.ac,Ê]
  refine pE vC ?_;rw[hU dQ _];refine Ã (m:=fE (.ref I)) (Fm (s:={s with heap:=h,toks:=l}) F.wk (Ï F.ls) F.dd hd u λh' Y p1 M k=>?_);dsimp only at p1 M k⊢;have B:=k S _ (ï i) F.ls;have t:∀b o,b≠S->h'.get? b=À o->(h'.update S (ô (·.push (Ð h.objs.size)))).get? b=À o:=λb o r e=>(ç _ _ (ő r)).trans e;have J:h.objs.size≠S:=Ń (Ï F.ls);show Ø _ A.in1 (Vl S (·.push (Ð h.objs.size)) >>= _) _ _ _;refine Ã (Ba B rfl (È ⟨F9 dQ _,U _ l _ (g.push (.ref h.objs.size)) (as++[h.objs.size]) (by rw[ć];simp;lia) (by rw[ć];simp;lia) ⟨?_,t d _ H (k d _ D F.dd),ù _ B rfl,?_,?_,?_,λb o q p e=>t b o q (k b o p (F.old b o q p e))⟩⟩) (by rw[v];lia) (by show(g.push _).size<=sizeLine+1;rw[MF,v];lia))
  ·obtain⟨C,f,x,y,j,L⟩:=Y;rw[ć,D_];refine⟨C,f,x,y,t _ _ (Ń i) j,?_⟩;rcases L with L|⟨a,X,e,O,q,p⟩
   ·exact .inl L
   ·exact .inr ⟨a,X,e,t _ _ p O,q,p⟩
  ·rw[Array.toList_push,F.ac,ķ];rfl
  ·exact F.got.snoc rfl F.lt (ak u) (λb o r e=>t b o (Ń (mM i r)) (k b o (Ń r) e)) (t _ _ J p1)
  ·rw[uU];rw[M];exact dz F.lt
def xw {od:Obj}(U:A.handled=none)(C:s.heap.IsItemsView r d)(i:s.heap.get? d=À od)(hd:od.data=.dict l ep)(hz:l.size<=sizeLine)(y:S≠r)(p:d≠S)(I:s.heap.get? S=À {cls:=.type "list",data:=.seq #[] c})(res:Value)
  (T:∀h' q g c as,as.length=l.size->g.toList=as.map Ð->h'.get? S=À {cls:=.type "list",data:=.seq g c}->Got l s.heap.objs.size h' as->(∀b o,b≠S->s.heap.get? b=À o->h'.get? b=À o)->R (.ok (.ret res)) {s with heap:=h',toks:=q}) :
  Ø (Û prog w) A.in1 (pK (.ref S) (.ref r) res)
   (λv s'=>match v with|.done f=>R (.ok f) s'|.again t=>t.quiet=true/\ef (Û prog w) A t R s') (λe s'=>R (.error e) s') s:=by
 have n:S<s.heap.objs.size:=Ï I;have B:d<s.heap.objs.size:=Ï i;have Q:∀(h:Heap) (c q:Nat),(∀b o,b≠S->(s.heap.push (Ov .none false d 0 l.size ep .none .none)).get? b=À o->h.get? b=À o)->h.get? S=À {cls:=.type "list",data:=.seq #[] c}->
   ef (Û prog w) A (.builtin "list.extend.loop" ⟨[.ref S,.ref s.heap.objs.size,res],[]⟩) R {s with heap:=h,toks:=q}:=λh c q k e=>by
  have H:=k s.heap.objs.size _ (Ń n) (Ò _ rfl);refine fill (h0:=s.heap) U n p (ï B) hd hz res (λh' D g t as L M N O P=>T h' D g t as L M N O λb o u z=>P b o u (ï (Ï z)) z) l.size h q c #[] [] rfl (ĩ _)
   ⟨⟨_,_,_,_,H,.inl rfl⟩,k d _ p (Ä _ i),e,rfl,⟨.nil,(λ_ z=>nomatch z),λj a z=>by simp at z⟩,Ï H,λb o x _ z=>k b o x (Ä _ z)⟩
 have hT:=C.typeIs;unfold pK;have x:r6 (.ref S) (.ref r)=false:=by simp[r6,y]
 refine Ã (wR hT ?_);rw[x];refine Ã (BK C i hd ?_);refine Ã (Ŏ (PySem.W.kdx_hint (let ⟨o,X,z,_⟩:=C;⟨o,Ä _ X,z⟩) ?_));have m:=Ä (Ov .none false d 0 l.size ep .none .none) I;dsimp only;rw[Ì (by decide+kernel)];refine Ã (bP (Ã ?_));have J:=ù (ô (·.push í)) m rfl;show Ø _ _ (Vl S (·.push .none) >>= λ_=>Vl S (·.pop)) _ _ _;refine Ã (Ba m rfl (Ba (hz:=by seq_fits) J rfl (È ⟨F9 dQ _,Q _ _ _ (λb o u e=>?_) (ù (ô (·.pop)) J rfl)⟩)));rw[ç _ _ (ő u),ç _ _ (ő u)];exact e
def vk {R:Â Value->Ô->Prop}{od:Obj}(C:A.handled=none)(D:s.heap.IsItemsView r d)(k:s.heap.get? d=À od)(hd:od.data=.dict i ep)(hz:i.size<=sizeLine)
  (h:∀h' f as,(∀b o,s.heap.get? b=À o->h'.get? b=À o)->as.length=i.size->Got i s.heap.objs.size h' as->R (as.map Ð) {s with heap:=h',toks:=f}):Ø (Û prog w) A (collect (.ref r)) R E s:=by
 have v:=D;obtain⟨I,l,x⟩:=v;have J:=Ï l;have do_:=Ï k;have H:(s.heap.push {cls:=.type "list",data:=.seq ([]:Â Value).toArray}).get? s.heap.objs.size=À {cls:=.type "list",data:=.seq #[]}:=Ò _ rfl;unfold collect;obtain⟨B,j⟩:∃B:Rn->Ô->Prop,B=λq s'=>∃h' f e c as,q=.ok (.ret (.ref s.heap.objs.size))/\s'={s with heap:=h',toks:=f}/\as.length=i.size/\e.toList=as.map Ð/\h'.get? s.heap.objs.size=À {cls:=.type "list",data:=.seq e c}/\Got i s.heap.objs.size h' as/\∀b o,s.heap.get? b=À o->h'.get? b=À o:=⟨_,rfl⟩
 refine Ã (wpAny_runValue (ow (R:=B) (pE entry_proto_collect' ?_) ?_))
 ·rw[hU PySem.F.plain_proto_collect _];refine Ã (m:=Uk []) (Ř (È ⟨F9 yD _,pE entry_list_iadd' ?_⟩));rw[hU yD _];refine xw (s:={s with heap:=s.heap.push {cls:=.type "list",data:=.seq ([]:Â Value).toArray}}) C ⟨I,Ä _ l,x⟩ (Ä _ k) hd hz (Ń J) (ï do_) H _ λh' f e c as n p t g u=>?_;rw[j];exact⟨h',f,e,c,as,rfl,rfl,n,p,t,⟨g.rise,λa y=>bz (by show _<=(s.heap.push _).objs.size;rw[Ĺ];exact F5 _) (g.above a y),g.pairs⟩,λb o z=>u b o (ï (Ï z)) (Ä _ z)⟩
 ·intro q s' z;rw[j]at z;obtain⟨h',f,e,c,as,rfl,rfl,n,p,t,g,u⟩:=z;show Ø _ A (load s.heap.objs.size >>= _) _ _ _;refine Ã (wpAny_load t (È ?_));show R e.toList _;rw[p];exact h h' f as u n g
end
section
variable {prog:ą}{w:ħ}{A:Ŕ}{E:Value->Ô->Prop}{s:Ô}
def Hs {Q:Value->Ô->Prop}(hu:A.units<cLine)(o:s.heap.get? a=À {cls:=.type "tuple",dict:=dd,data:=.seq #[.str x t,.int i u] n,slots:=I})(p:s.heap.get? b=À {cls:=.type "tuple",dict:=l,data:=.seq #[.str y t',.int j r] m,slots:=q})
  (h:Q (.bool (if x == y then decide (i<j)else decide (x.cps.toList<y.cps.toList))) s) (e:(x == y&&i == j)=false):Ø (Û prog w) A (ņ .Lt (.ref a) (.ref b)) Q E s:=by
 have B:s.TypeIs (.ref a) "tuple":=⟨_,o,rfl⟩
 have C:s.TypeIs (.ref b) "tuple":=⟨_,p,rfl⟩
 show Ø (Û prog w) A (richCompare .Lt (.ref a) (.ref b)) Q E s;refine wpAny_richCompare_same_room B C AN (ġ AN B PySem.F.entry_tuple_lt ?_ (PySem.F.args_tuple_lt_2 _ _)) hu;obtain⟨z,g,v,J,os⟩:=s;unfold cO.«tuple.__lt__»;have f:∀{A:Ŕ}{E:Value->Ô->Prop}{s:Ô}{Q:Bool->Ô->Prop},Q (x == y) s->Ø (Û prog w) A (eqBool (.str x t) (.str y t')) Q E s:=λh=>eqBool_str h;have k:∀{A:Ŕ}{E:Value->Ô->Prop}{s:Ô}{Q:Bool->Ô->Prop},Q (decide (i=j)) s->Ø (Û prog w) A (eqBool (.int i u) (.int j r)) Q E s:=λh=>(Uj prog w).eqBool (a:=i) (b:=j) (by simp[Uj,uY]) (by simp[Uj,uY]) h;wp_walk
 refine NG sub_tuple_self ?_;generalize eqBool=D at f k⊢;generalize d:richCompare=H;wp_walk
 simp only[JB,List.zip_nil_right,iT,yw];refine f ?_;cases c:x == y with
 |false=>
  rw[c,Ö Ý]at h;subst d;refine Ã (bP (Ã (PySem.P.lt_str ?_)));exact È (È (È ⟨_,rfl,by simp,h⟩))
 |true=>
  rw[c,Ì rfl]at h;rw[c,Bool.true_and]at e;refine È ?_;wp_walk
  refine k ?_;rw[é (by simpa using e)];subst d;refine Ã (bP (Ã (PySem.P.lt_int ?_)));exact È (È (È ⟨_,rfl,by simp,h⟩))
end
end Dx
namespace L2
open PySem PySem.Spec PyProof.Rows
abbrev oP:KeyOrd:=Wb oS oI
abbrev kP (k:Str×Int):oP.α:=(Ey k.1,k.2)
abbrev cM (k:Str×Int):Â Key:=[.inr k.1,.inl k.2]
def lV (z:cM a=cM b):a=b:=by
 have:=Jy z;exact yz (jt this.1) (QY (Jy this.2).1)
def A1 (a b:Str×Int):Bool:=!oP.blt (kP b) (kP a)
def rd (l:Â (Str×Int)):Â (Str×Int):=l.mergeSort A1
def ki:A1 a b=true ↔ oP.kle (kP a) (kP b):=by unfold A1 Ud;simp
def Hl (h:A1 a b=true)(k:A1 b a=true):a=b:=by
 have:=DY (ki.mp h) (ki.mp k);have c:Ey a.1=Ey b.1:=à (λz:oP.α=>z.1) this;refine yz (ub (ja.mpr ?_) (ja.mpr ?_)) (show a.2=b.2 from à (λz:oP.α=>z.2) this)
 ·rw[c];exact uV _
 ·rw[c];exact uV _
def ku (l:Â (Str×Int)):(rd l).Perm l:=F4 l A1
def E9 (h:A1 a b=true)(k:A1 b c=true):A1 a c=true:=ki.mpr (gG (ki.mp h) (ki.mp k))
def E8 (a b:Str×Int):(A1 a b||A1 b a)=true:=by
 cases h:A1 a b with
 |true=>rfl
 |false=>rw[AI];exact ki.mpr (qM (by unfold A1 at h;simpa[KeyOrd.klt]using h))
def yo (l:Â (Str×Int)):(rd l).Pairwise λa b=>A1 a b=true:=
 A7 (le:=A1) (λ_ _ _=>E9) E8 l
def Cf {l q:Â (Str×Int)}(p:l.Perm q)(h:l.Pairwise λa b=>A1 a b=true):l=rd q:=
 gF (λ_ _=>Hl) (p.trans (ku q).symm) h (yo q)
def Gx (f:(a.1 == b.1&&a.2 == b.2)=false):oP.blt (kP a) (kP b)=if a.1 == b.1 then decide (a.2<b.2)else decide (a.1.cps.toList<b.1.cps.toList):=by
 show(oS.blt (Ey a.1) (Ey b.1)||(!oS.blt (Ey b.1) (Ey a.1)&&decide (a.2<b.2)))=_;cases e:a.1 == b.1 with
 |true=>
  have e:=eq_of_beq e;rw[e,oS.irrefl];rfl
 |false=>
  rw[Ö Ý];cases c:oS.blt (Ey a.1) (Ey b.1)with
  |true=>exact c.symm
  |false=>
   cases d:oS.blt (Ey b.1) (Ey a.1)with
   |true=>exact c.symm
   |false=>
    have:a.1=b.1:=ub (ja.mpr d) (ja.mpr c);rw[this,yZ]at e;cases e
theorem Paired.at {R:α->a->Prop}{l:Â α}{m:Â a}(h:Paired R l m):∀{j:Nat}{q:a},m[j]?=À q->∃p,l[j]?=À p/\R p q:=by
 induction h with
 |nil=>intro j q e;simp at e
 |cons h _ b=>
  intro j q e;cases j with
  |zero=>simp at e;subst e;exact⟨_,rfl,h⟩
  |succ j=>exact b (by simpa using e)
theorem DQ {κ:Type} [ri κ] {k:κ}:∀{kvs:Â (κ×V)}{j:Nat},(kvs.map (·.1)).Nodup->kvs[j]?=À (k,y)->iO kvs k=À y
 |[],_,_,e=>by simp at e
 |p::r,0,_,e=>by simp at e;subst e;exact l' rfl
 |p::r,j+1,nd,e=>by
  have e:r[j]?=À (k,y):=by simpa using e
  rw[Õ,cY]at nd;rw[l_ λz=>nd.1 (z▸ŕ.mpr ⟨_,Ā e,rfl⟩)];exact DQ nd.2 e
theorem Dh {P:Value->Prop}:∀{as:Â Addr},(∀(j:Nat) (a:Addr),as[j]?=À a->∃(f:Value) (o:Obj) (r:Â Value) (n:Nat),h.get? a=À o/\o.cls=.type "tuple"/\o.data=.seq (f::r).toArray n/\P f)->∃fs,PySem.W.KatTups h (as.map Ð) fs/\(∀v∈fs,P v)/\fs.length=as.length
 |[],_=>⟨[],Rm,(λv z=>nomatch z),rfl⟩
 |a::r,g=>by
  obtain⟨f,o,x,n,c,d,e,i⟩:=g 0 a rfl;obtain⟨fs,l,m,p⟩:=Dh (as:=r) λj b k=>g (j+1) b (by simpa using k);refine⟨f::fs,Rk c d e (by simp) l,λv hv=>?_,by simp[p]⟩;rcases ò.mp hv with rfl|hv
  ·exact i
  ·exact m v hv
def Qp:Â V->Hp->VK->Prop:=λxs H Q=>∃(v d:Addr)(c:Â (Â Key×V)) (e:Â (Str×Int)),xs=[.ref v]/\H v=À (.ext λh=>h.IsItemsView v d)/\H d=À (.dT c)/\c.map (·.1)=e.map cM/\e.length<64/\
 ∀l A f,H l=none->(∀b o,H b=À o->A b=À o)->(∀b,A b=none->H b=none)->A l=À (.lst f)->f.length=e.length->
  (∀(j:Nat) (k:Str×Int),(rd e)[j]?=À k->∃a b x,f[j]?=À (.ref a)/\iO c (cM k)=À x/\H b=À (.tup [.str k.1,.int k.2])/\A a=À (.tup [.ref b,x]))->Q (.ref l) A
def xZ {X:Cx}(I:Inv X f o H s)(e:H b=À (.tup [.str x,.int i])):∃t u dd n a,s.heap.get? b=À {cls:=.type "tuple",dict:=dd,data:=.seq #[.str x t,.int i u] n,slots:=a}:=by
 obtain⟨_,h,r,⟨l,dd,m,a⟩,g,c,n,d⟩:=(show š X.prog X.w H s.heap b (.tup [.str x,.int i])from I.Ů b _ e)
 cases r with
 |cons j r=>
  cases r with
  |cons k r=>
   cases r;obtain⟨t,rfl⟩:=j;obtain⟨u,rfl⟩:=k;dsimp only at c d;subst c d;exact⟨t,u,dd,n,a,g⟩
def Bp {X:Cx}(hc:X.calm=true)(hu:X.A.units+2<cLine):cQ X (.builtin "sorted") Qp:=by
 rintro ø s σ H xs us Q I rv ⟨v,d,g,c,rfl,hv,hH,hk,R_,q⟩;obtain⟨u,rfl,ru⟩:=rv.one;cases (show u=Ð v from ru);obtain⟨z,hd,xs,rel,o,es,ep,h1,h2,h3,h4,h5⟩:=(show š X.prog X.w H s.heap d (.dT g)from I.Ů d _ hH)
 have Sg:s.heap.IsItemsView v d:=(I.Ů v _ hv).1;have Yq:g.length=c.length:=by have h1:=à cK hk;simpa using h1
 have Yu:g.length=xs.length:=rel.length;have Yp:es.size=c.length:=by rw[<-Į,h4,Ê,<-Yu,Yq]
 have nd:c.Nodup:=by
  have e:xs.map (·.1)=c.map cM:=by
   rw[<-hk];clear h4 h5 hk Yq Yu z hH q;induction rel with
   |nil=>rfl
   |cons h _ ih=>rw[Õ,Õ,ih,h.1]
  rw[e]at h5;exact(r_.mp h5).imp λh z=>h (à cM z)
 have hh:=I.ok.hd hc;refine oj NC J8 J5 (args_sorted1 _) ?_;unfold cO.«sorted»;refine Ã (m:=Rt "sorted" 1 1 _) (È ?_);refine Ã (Dx.vk (A:=X.A.in1) hh Sg h1 h3 (by rw[Yp];exact Ħ (ſ (by lia))) λhp tk as hkp ZY hG=>?_);have hl:as.length=c.length:=by rw[ZY,Yp]
 have ndA:as.Nodup:=hG.rise.imp λh=>ï h;have J:∀j (a:Addr),as[j]?=À a->∃(B:j<c.length) (b:Addr) (x:Value) (y:V),g[j]?=À (cM c[j],y)/\(xs[j]?).map (·.2.1)=À b/\RelV y x/\H b=À (.tup [.str c[j].1,.int c[j].2])/\hp.get? a=À {cls:=.type "tuple",data:=.seq #[.ref b,x]}:=λj a Z=>by
  have B:j<c.length:=by rw[<-hl];exact(Æ.mp Z).1
  obtain⟨e,L,e2⟩:=hG.pairs j a Z;rw[<-av,h4,ê]at L;cases e3:xs[j]? with
  |none=>rw[e3]at L;cases L
  |some y=>
   rw[e3]at L;cases L;obtain⟨p,f1,f2,f3,f4⟩:=Paired.at rel e3;have f5:p.1=cM c[j]:=by
    have:(g.map (·.1))[j]?=À p.1:=by rw[ê,f1];rfl
    rw[hk,ê,Å B]at this;exact(ã this).symm
   rw[f5]at f3;exact⟨B,y.2.1,y.2.2,p.2,by rw[f1,<-f5],rfl,f4,f3,e2⟩
 let H1:Hp:=λb=>if b∈as then À (.tup [.ref (((xs[as.idxOf b]?).map (·.2.1)).getD 0),((g[as.idxOf b]?).map (·.2)).getD .Ě])else H b
 have F:∀b u,s.heap.get? b=À u->b∉as:=λb u e M=>absurd (Ï e) (mN.mpr (Ħ (hG.above b M)));have eas:∀b∈as,H b=none:=λb M=>by
  cases q0:H b with
  |none=>rfl
  |some o=>obtain⟨u,hu⟩:=(I.Ů _ o q0).qG;exact absurd M (F b u hu)
 have Y_:∀j (a:Addr),as[j]?=À a->∃(B:j<c.length) (b:Addr) (y:V),iO g (cM c[j])=À y/\H b=À (.tup [.str c[j].1,.int c[j].2])/\H1 a=À (.tup [.ref b,y]):=λj a Z=>by
  obtain⟨B,b,x,y,g1,g2,g3,g4,f⟩:=J j a Z;have U:as.idxOf a=j:=by
   obtain⟨hja,ga⟩:=Æ.mp Z;rw[<-ga];exact Ha ndA hja
  refine⟨B,b,y,?_,g4,?_⟩
  ·exact DQ (by rw[hk];exact r_.mpr (nd.imp λh z=>h (lV z))) g1
  ·show(if a∈as then _ else _)=_;rw[Ì (Ā Z),U,g2,g1];rfl
 have I1:Inv X ø σ H1 {s with heap:=hp,toks:=tk}:=by
  refine I.grown hkp (λb u e=>Ö (F b u e)) λb o e z=>?_;have z:(if b∈as then À (HO.tup [.ref (((xs[as.idxOf b]?).map (·.2.1)).getD 0),((g[as.idxOf b]?).map (·.2)).getD .Ě])else H b)=À o:=z;by_cases M:b∈as
  ·rw[Ì M]at z;obtain⟨j,B,gj⟩:=af M;obtain⟨_,k,x,y,g1,g2,g3,g4,f⟩:=J j b (by rw[Å B,gj]);rw[show as.idxOf b=j by rw[<-gj];exact Ha ndA B,g2,g1]at z;cases z;exact⟨by show 2<=sizeLine;decide,[.ref k,x],.cons rfl (.cons g3 .nil),_,f,rfl,0,rfl⟩
  ·rw[Ö M]at z;obtain⟨u,hu⟩:=(I.Ů _ o z).qG;rw[e]at hu;cases hu
 have r:∀b o,H b=À o->H1 b=À o:=λb o e=>by
  obtain⟨u,hu⟩:=(I.Ů _ o e).qG;show(if b∈as then _ else H b)=_;rw[Ö (F b u hu)];exact e
 have kD:∀i (U:i<c.length),kP (c.getD i (⟨#[]⟩,0))=kP c[i]:=λi U=>by rw[ĕ,Å U];rfl
 refine FJ (A:=X.A.in1) (O:=oP) (κ:=tuples' false) (key:=λi=>kP (c.getD i (⟨#[]⟩,0))) I1 (by rw[hl];exact R_) ?_ ?_ ?_
 ·intro A h' h2 Y Q' hq;obtain⟨fs,k1,k2,k3⟩:=Dh (h:=h') (P:=λv=>∃(b:Addr) (o:Obj),v=.ref b/\h'.get? b=À o/\o.cls=.type "tuple") (as:=as) λj a Z=>by
   obtain⟨_,b,x,y,_,_,_,g4,f⟩:=J j a Z;obtain⟨t,u,dd,n,sl,e⟩:=xZ I1 (r _ _ g4);exact⟨.ref b,_,[x],0,Y _ _ f,rfl,rfl,b,_,rfl,Y _ _ e,rfl⟩
  refine PySem.W.kat_kind (T:=.type "tuple") k1 (by rw[k3];lia) (λv hv=>?_) (by decide) ?_
  ·obtain⟨b,o,rfl,L,e2⟩:=k2 v hv;rw[<-e2];exact(Vh L).andThen .now
  ·have e:(gK "tuple" != gK "tuple")=false:=by decide
   rw[e];exact hq
 ·intro h' Y i j a b C ea eb hC;obtain⟨U,k,x,y,_,_,_,f4,f5⟩:=J i a ea;obtain⟨B,k',x',y',_,_,_,g4,f⟩:=J j b eb;obtain⟨t,u,dd,n,sl,L⟩:=xZ I1 (r _ _ f4);obtain⟨t',u',dd',n',sl',e2⟩:=xZ I1 (r _ _ g4);rw[kD i U,kD j B]at hC;refine PySem.W.kat_lt (Y _ _ f5) rfl (Y _ _ f) rfl (F7 ?_);by_cases UI:i=j
  ·subst UI;rw[ea]at eb;cases eb;rw[f5]at f;injection f with f
   injection f with _ _ f _
   injection f with f _
   have f:=à A3 f;simp at f;obtain⟨rfl,rfl⟩:=f;refine qU (JE (F7 (qU (JE (PySem.W.kat_nil ?_)))));rw[oP.irrefl]at hC;exact hC
  ·have Yr:c[i]≠c[j]:=λz=>UI ((ee nd).mp z);have key:∀{x:Str}{i:Int}{b:Addr}{t u:Tok}{dd:É Addr}{n:Nat}{sl:Č (É Value)},h'.get? b=À {cls:=.type "tuple",dict:=dd,data:=.seq #[.str x t,.int i u] n,slots:=sl}->IsTupleKey (ay X.prog X.w) h' (cM (x,i)) b:=λ{x i b t u dd n sl} e=>⟨_,_,n,e,rfl,rfl,.cons (q_ _ _ x t) (.cons (qZ _ _ i u) .nil)⟩
   refine wpAny_eqBool_tuple (x:=cM c[i]) (y:=cM c[j]) (by show X.A.units+1+1<cLine;lia) (key (Y _ _ L)) (key (Y _ _ e2)) ?_;have M:(c[i].1 == c[j].1&&c[i].2 == c[j].2)=false:=by
    rw[DW];by_cases h1:c[i].1=c[j].1
    ·exact .inr (az.mpr λh2=>Yr (yz h1 h2))
    ·exact .inl (az.mpr h1)
   rw[show decide (cM c[i]=cM c[j])=false from é λz=>Yr (lV z)];refine PySem.W.kat_no (PySem.W.kat_one _ _ (Dx.Hs (by show X.A.units+1+1<cLine;lia) (Y _ _ L) (Y _ _ e2) ?_ M));rw[<-Gx M];exact hC
 ·intro p l s' pr WU E I2;have e:p.map (λi=>c.getD i (⟨#[]⟩,0))=rd c:=by
   refine Cf ?_ (r_.mpr (WU.imp λh=>ki.mpr h.kle));have h5:=pr.map (λi=>c.getD i (⟨#[]⟩,0));rw[hl]at h5;have e5:(Ă c.length).map (λi=>c.getD i (⟨#[]⟩,0))=c:=by
    apply uW
    ·simp
    ·intro i h6 h7;simp[h7]
   rw[e5]at h5;exact h5
  have hl1:H l=none:=by
   cases q0:H l with
   |none=>rfl
   |some o=>rw[r l o q0]at E;cases E
  refine⟨.ref l,_,I2,rfl,q l _ (p.map λi=>V.ref (as.getD i 0)) hl1 (λb o h=>by rw[ä (ń (r b o h) E)];exact r b o h) (λb h=>?_) ă (by rw[Ê,pr.length_eq,jY,hl]) λj k D=>?_⟩
  ·cases q0:H b with
   |none=>rfl
   |some o=>rw[ä (ń (r b o q0) E),r b o q0]at h;cases h
  ·rw[<-e,ê]at D;cases N:p[j]? with
   |none=>rw[N]at D;cases D
   |some i=>
    rw[N]at D;have U:i<as.length:=by simpa using pr.mem_iff.mp (Ā N)
    obtain⟨hi',b,y,g1,g2,g3⟩:=Y_ i as[i] (Å U);have UJ:c[i]=k:=by
     have:c.getD i (⟨#[]⟩,0)=k:=ã D;rw[<-this];simp[hi']
    rw[UJ]at g1 g2;refine⟨as[i],b,y,?_,g1,g2,?_⟩
    ·rw[ê,N];show À (V.ref (as.getD i 0))=_;rw[ĕ,Å U];rfl
    ·rw[ä (ń g3 E)];exact g3
end L2
namespace Mm
open PySem L2
def qF (h:n<=1000):n<=sizeLine:=Ħ (ſ h)
def R.wp {α:Type}:R α->(α->S->Prop)->Prop
 |.ok a s,Q=>Q a s
 |_,_=>False
def RS.wp:RS->(En->S->Prop)->(AV->S->Prop)->Prop
 |.nx e s,N,_=>N e s
 |.rt v s,_,T=>T v s
 |_,_,_=>False
def R.wp.mono {m:R α}(h:m.wp Q)(k:∀a s,Q a s->A a s):m.wp A:=by
 cases m with
 |ok a s=>exact k a s h
 |ex c s=>exact h.elim
 |bad=>exact h.elim
def R.wp.get {m:R α}(h:m.wp Q):∃a s,m=.ok a s/\Q a s:=by
 cases m with
 |ok a s=>exact⟨a,s,rfl,h⟩
 |ex c s=>exact h.elim
 |bad=>exact h.elim
def R.wp.eq {m:R α}(h:m.wp (λa s'=>a=v/\s'=s)):m=.ok v s:=by
 obtain⟨a,s',e,rfl,rfl⟩:=h.get;exact e
def DU (a:α)(s:S)(Q:α->S->Prop):(R.ok a s).wp Q=Q a s:=rfl
def wp_bind (m:R α)(f:α->S->R b)(Q:b->S->Prop):(m.bind f).wp Q=m.wp λa s=>(f a s).wp Q:=by
 cases m<;>rfl
def bX (m:R α)(f:α->S->RS)(N:En->S->Prop)(T:AV->S->Prop):(m.bM f).wp N T=m.wp λa s=>(f a s).wp N T:=by
 cases m<;>rfl
def DT (m:R α)(Q:α->S->Prop):m.calm.wp Q=m.wp Q:=by
 cases m<;>rfl
def kL {α:Type}(c:Prop){_:a8 c}(m:R α)(Q:α->S->Prop):(if c then m else .bad).wp Q=(c/\m.wp Q):=by
 by_cases h:c
 ·rw[Ì h];exact eh ⟨λk=>⟨h,k⟩,λk=>k.2⟩
 ·rw[Ö h];exact eh ⟨λk=>k.elim,λk=>(h k.1).elim⟩
def Jm (c:Prop){_:a8 c}(m:RS)(N:En->S->Prop)(T:AV->S->Prop):(if c then m else .bad).wp N T=(c/\m.wp N T):=by
 by_cases h:c
 ·rw[Ì h];exact eh ⟨λk=>⟨h,k⟩,λk=>k.2⟩
 ·rw[Ö h];exact eh ⟨λk=>k.elim,λk=>(h k.1).elim⟩
def sH (c:Prop){_:a8 c}{α:Type}(m n:R α)(Q:α->S->Prop):(if c then m else n).wp Q=if c then m.wp Q else n.wp Q:=by
 by_cases h:c
 ·rw[Ì h,Ì h]
 ·rw[Ö h,Ö h]
def Jn (c:Prop){_:a8 c}(m n:RS)(N:En->S->Prop)(T:AV->S->Prop):(if c then m else n).wp N T=if c then m.wp N T else n.wp N T:=by
 by_cases h:c
 ·rw[Ì h,Ì h]
 ·rw[Ö h,Ö h]
def pC (x:a)(f:a->R α)(Q:α->S->Prop):(need (À x) f).wp Q=(f x).wp Q:=rfl
def ę:(([]:Â AV).length<=sizeLine)=j2/\(∀a:AV,([a].length<=sizeLine)=j2)/\(∀a b:AV,([a,b].length<=sizeLine)=j2)/\(∀a b c:AV,([a,b,c].length<=sizeLine)=j2)/\
  (∀a b c d e f:AV,([a,b,c,d,e,f].length<=sizeLine)=j2)/\
  (([]:Â AV).length=0)=j2/\(∀a:AV,([a].length=1)=j2)/\(∀a b:AV,([a,b].length=2)=j2)/\(∀a b c:AV,([a,b,c].length=3)=j2):=by
 refine⟨?_,?_,?_,?_,?_,?_,?_,?_,?_⟩<;>intros<;>first|exact J6 rfl|exact J6 (qF (by show(_:Nat)<=1000;simp))
def WS :
  (∀a b env s N T,(ý a b env s).wp N T=(a env s).wp (λe s1=>(b e s1).wp N T) T)/\
  (∀i m env s N T,(Š i m env s).wp N T=(m env s).wp λv s1=>N (env.set i (À v)) s1)/\
  (∀m env s N T,(ş m env s).wp N T=(m env s).wp T)/\
  (∀c a b env s N T,(gb c a b env s).wp N T=(c env s).wp λk s1=>if k=true then (a env s1).wp N T else (b env s1).wp N T)/\
  (∀m env s N T,(ĥ m env s).wp N T=(m env s).wp λ_ s1=>N env s1)/\
  (∀m g env s N T,(m3 m g env s).wp N T=(m env s).wp λv s1=>(g v env s1).wp N T)/\
  (∀i j a b env s N T,(r3 i j (Á a (Á b Ë)) env s).wp N T=(a env s).wp λv s1=>(b env s1).wp λw l=>N ((env.set i (À v)).set j (À w)) l)/\
  (∀env s N T,(aN env s).wp N T=N env s)/\
  (∀f h b env s N T,(qE f h b env s).wp N T=(f env s).wp λp s1=>(forL h b p.2 p.1 env s1).wp N T)/\
  (∀d y v env s N T,(kJ d y v env s).wp N T=(v env s).wp λa s1=>(d env s1).wp λb l=>(y env l).wp λc t=>(putD a b c env t).wp N T)/\
  (∀i v env s N T,(gN i v env s).wp N T=N (env.set i (À v)) s)/\
  (∀n r vs env s N T,(gT n r (.tup vs) env s).wp N T=(vs.length=n/\(r vs env s).wp N T))/\
  (∀i r v w env s N T,(ß (gN i) r (v::w) env s).wp N T=(r w (env.set i (À v)) s).wp N T)/\
  (∀env s N T,(Ű [] env s).wp N T=N env s)/\
  (∀o i r v w env s N,(ß (lQ o i) r (v::w) env s).wp N (λ_ _=>False)=(lQ o i v env s).wp (λe s1=>(r w e s1).wp N (λ_ _=>False)) (λ_ _=>False))/\
  (∀n b v s Q,(dU n b [v] s).wp Q=(b (À v::è (n-1) none) s).wp (λ_ s1=>Q .Ě s1) Q)/\
  (∀n b v w s Q,(dU n b [v,w] s).wp Q=(b (À v::À w::è (n-2) none) s).wp (λ_ s1=>Q .Ě s1) Q)/\
  (∀n b v w x s Q,(dU n b [v,w,x] s).wp Q=(b (À v::À w::À x::è (n-3) none) s).wp (λ_ s1=>Q .Ě s1) Q):=by
 refine⟨?_,?_,?_,?_,?_,?_,?_,?_,?_,?_,?_,?_,?_,?_,?_,?_,?_,?_⟩<;>intros
 ·rename_i a b env s N T;show(match a env s with|.nx e s1=>b e s1|r=>r).wp N T=_;cases a env s<;>rfl
 ·unfold Š;rw[bX];rfl
 ·unfold ş;rw[bX];rfl
 ·unfold gb;rw[bX];congr 1;funext k s1;exact Jn _ _ _ _ _
 ·unfold ĥ;rw[bX];rfl
 ·unfold m3;rw[bX]
 ·rename_i i j a b env s N T;unfold r3 Á Ë;cases a env s with
  |ok v s1=>
   simp only[â,DU];cases b env s1<;>rfl
  |ex c s1=>rfl
  |bad=>rfl
 ·rfl
 ·unfold qE;rw[bX]
 ·unfold kJ;rw[bX];congr 1;funext k s1;rw[bX];congr 1;funext k s1;rw[bX]
 ·rfl
 ·exact Jm _ _ _ _
 ·rfl
 ·rfl
 ·rename_i o i r v w env s N;show(match lQ o i v env s with|.nx e s1=>r w e s1|q=>q).wp N _=_;cases lQ o i v env s<;>rfl
 ·rename_i n b v s Q;show(match b (À v::è (n-1) none) s with|.rt v s1=>R.ok v s1|.nx _ s1=>.ok .Ě s1|.ex c s1=>.ex c s1|_=>.bad).wp Q=_;cases b (À v::è (n-1) none) s<;>rfl
 ·rename_i n b v w s Q;show(match b (À v::À w::è (n-2) none) s with|.rt v s1=>R.ok v s1|.nx _ s1=>.ok .Ě s1|.ex c s1=>.ex c s1|_=>.bad).wp Q=_;cases b (À v::À w::è (n-2) none) s<;>rfl
 ·rename_i n b v w x s Q;show(match b (À v::À w::À x::è (n-3) none) s with|.rt v s1=>R.ok v s1|.nx _ s1=>.ok .Ě s1|.ex c s1=>.ex c s1|_=>.bad).wp Q=_;cases b (À v::À w::À x::è (n-3) none) s<;>rfl
noncomputable def DR (v:AV)(s:S):R (Â AV×Gd):=match v with
 |.tup xs=>.ok (xs,[]) s
 |.sq xs=>.ok (xs,[]) s
 |.ref i=>need (ö s i) λxs=>.ok (xs,[(i,xs)]) s
 |_=>.bad
def WE :
  (∀v env s Q,(mc v env s).wp Q=Q v s)/\
  (∀op a b env s Q,(Ó op a b env s).wp Q=(a env s).wp λv s1=>(b env s1).wp λw e=>(op v w e).wp Q)/\
  (∀op a env s Q,(aI op a env s).wp Q=(a env s).wp λv s1=>(op v s1).wp Q)/\
  (∀r env s Q,(î r env s).wp Q=(r env s).wp λvs s1=>vs.length<=sizeLine/\Q (.tup vs) s1)/\
  (∀r env s Q,(Ŵ r env s).wp Q=(r env s).wp λvs s1=>vs.length<=sizeLine/\Q vs s1)/\
  (∀r env s Q,(ī r env s).wp Q=(r env s).wp λvs s1=>Q (.ref s1.length) (s1++[.lst vs]))/\
  (∀n F r env s Q,(ě n F r env s).wp Q=(r env s).wp λvs s1=>vs.length=n/\(F vs s1).wp Q)/\
  (∀a r env s Q,(Á a r env s).wp Q=(a env s).wp λv s1=>(r env s1).wp λvs e=>Q (v::vs) e)/\
  (∀env s Q,(Ë env s).wp Q=Q [] s)/\
  (∀m env s Q,(cB m env s).wp Q=(m env s).wp λv s1=>match v with|.bl b=>Q b s1|_=>False)/\
  (∀m env s Q,(cT m env s).wp Q=(m env s).wp λv s1=>match truth v s1 with|some b=>Q b s1|none=>False)/\
  (∀a env s Q,(p6 a env s).wp Q=(a env s).wp λc s1=>Q (!c) s1)/\
  (∀a b env s Q,(zm a b env s).wp Q=(a env s).wp λc s1=>if c=true then (b env s1).wp Q else Q false s1)/\
  (∀a b env s Q,(FZ a b env s).wp Q=(a env s).wp λc s1=>if c=true then Q true s1 else (b env s1).wp Q)/\
  (∀env s Q,(jk env s).wp Q=Q true s)/\
  (∀c a b env s Q,(Q9 c a b env s).wp Q=(c env s).wp λk s1=>if k=true then (a env s1).wp Q else (b env s1).wp Q)/\
  (∀op r env s Q,(A2 op r env s).wp Q=(r env s).wp λvs s1=>(op vs s1).wp Q)/\
  (∀{α:Type}(op:Â AV->S->R α) (r:gL) (env:En) (s:S) (Q:α->S->Prop),(vo op r env s).wp Q=(r env s).wp λvs s1=>(op vs s1).wp Q)/\
  (∀m env s Q,(KY m env s).wp Q=(m env s).wp λv s1=>(need (items v s1) λxs=>.ok xs s1).wp Q)/\
  (∀r env s Q,(uF r env s).wp Q=(r env s).wp λxs s1=>Q (xs,[]) s1)/\
  (∀m env s Q,(aX m env s).wp Q=(m env s).wp λv s1=>(DR v s1).wp Q)/\
  (∀l g j f elt env s Q,(Ż l g j f elt env s).wp Q=(g env s).wp λp s1=>p.1.length<=sizeLine/\(bh j f elt p.2 p.1 (Cj l env) s1 []).wp Q)/\
  (∀n op o r env s Q,(eN n op o r env s).wp Q=(o env s).wp λv s1=>(jL n v s1).isSome=true/\(r env s1).wp λvs e=>(op v vs e).wp Q)/\
  (∀{α:Type}(n:String) (op:AV->Â AV->S->R α) (o:Ev) (r:gL) (env:En) (s:S) (Q:α->S->Prop),(G4 n op o r env s).wp Q=(o env s).wp λv s1=>(jL n v s1).isSome=true/\(r env s1).wp λvs e=>(op v vs e).wp Q)/\
  (∀n op o env s Q,(Nb n op o env s).wp Q=(o env s).wp λv s1=>(jL n v s1).isSome=true/\(op v [] s1).wp Q)/\
  (∀d y z env s Q,(Na d y z env s).wp Q=(d env s).wp λa s1=>(jL "dict" a s1).isSome=true/\(y env s1).wp λb e=>(z env e).wp λc q=>(HS a b c q).wp Q)/\
  (∀env s Q,(ON env s).wp Q=Q (.ref s.length) (s++[.dK []]))/\
  (∀m lo t env s Q,(OO m lo t env s).wp Q=(m env s).wp λv s1=>(lo env s1).wp λl e=>(t env e).wp λh q=>(HV v l h q).wp Q)/\
  (∀env s Q,(oN env s).wp Q=Q none s)/\
  (∀m env s Q,(oS m env s).wp Q=(m env s).wp λv s1=>match v with|.int i=>Q (À i) s1|_=>False)/\
  (∀a b env s Q,(Fe a b env s).wp Q=(a env s).wp λv s1=>match v with|.bl true=>(b env s1).wp Q|.bl false=>Q (.bl false) s1|_=>False)/\
  (∀a b env s Q,(UM a b env s).wp Q=(a env s).wp λv s1=>match v with|.bl true=>Q (.bl true) s1|.bl false=>(b env s1).wp Q|_=>False)/\
  (∀m env s Q,(BC m env s).wp Q=(m env s).wp λv s1=>(s1.take s.length=s/\v.low s.length=true)/\Q v s)/\
  (∀m env s Q,(KJ m env s).wp Q=(m env s).wp λv s1=>(s1.take s.length=s)/\Q v s)/\
  (∀m env s Q,(Ym m env s).wp Q=(m env s).wp λv s1=>((s1.take s.length).all (AO.low s.length)=true/\v.low s.length=true)/\Q v (s1.take s.length))/\
  (∀m env s Q,(i_ m env s).wp Q=(m env s).wp λv s1=>match v with|.ref k=>(need (ö s1 k) λxs=>if s.length<=k/\(s1.take s.length).all (AO.low s.length)=true/\ĭ s.length xs=true then .ok xs (s1.take s.length)else .bad).wp Q|_=>False):=by
 refine⟨?_,?_,?_,?_,?_,?_,?_,?_,?_,?_,?_,?_,?_,?_,?_,?_,?_,?_,?_,?_,?_,?_,?_,?_,?_,?_,?_,?_,?_,?_,?_,?_,?_,?_,?_,?_⟩<;>intros
 ·rfl
 ·unfold Ó;rw[wp_bind];congr 1;funext v s1;rw[wp_bind]
 ·unfold aI;rw[wp_bind]
 ·unfold î;rw[wp_bind];congr 1;funext v s1;exact kL _ _ _
 ·unfold Ŵ;rw[wp_bind];congr 1;funext v s1;exact kL _ _ _
 ·unfold ī;rw[wp_bind];rfl
 ·unfold ě;rw[wp_bind];congr 1;funext v s1;exact kL _ _ _
 ·unfold Á;rw[wp_bind];congr 1;funext v s1;rw[wp_bind];rfl
 ·rfl
 ·unfold cB;rw[wp_bind];congr 1;funext v s1;cases v<;>rfl
 ·unfold cT;rw[wp_bind];congr 1;funext v s1;cases truth v s1<;>rfl
 ·unfold p6;rw[wp_bind];rfl
 ·unfold zm;rw[wp_bind];congr 1;funext v s1;exact sH _ _ _ _
 ·unfold FZ;rw[wp_bind];congr 1;funext v s1;exact sH _ _ _ _
 ·rfl
 ·unfold Q9;rw[wp_bind];congr 1;funext v s1;exact sH _ _ _ _
 ·unfold A2;rw[wp_bind]
 ·unfold vo;rw[wp_bind]
 ·unfold KY;rw[wp_bind]
 ·unfold uF;rw[wp_bind];rfl
 ·unfold aX;rw[wp_bind];rfl
 ·unfold Ż;rw[wp_bind];congr 1;funext v s1;exact kL _ _ _
 ·unfold eN;rw[wp_bind];congr 1;funext v s1;cases jL _ v s1 with
  |none=>exact eh ⟨λk=>k.elim,λk=>nomatch k.1⟩
  |some u=>rw[pC,wp_bind];exact eh ⟨λk=>⟨rfl,k⟩,λk=>k.2⟩
 ·unfold G4;rw[wp_bind];congr 1;funext v s1;cases jL _ v s1 with
  |none=>exact eh ⟨λk=>k.elim,λk=>nomatch k.1⟩
  |some u=>rw[pC,wp_bind];exact eh ⟨λk=>⟨rfl,k⟩,λk=>k.2⟩
 ·unfold Nb;rw[wp_bind];congr 1;funext v s1;cases jL _ v s1 with
  |none=>exact eh ⟨λk=>k.elim,λk=>nomatch k.1⟩
  |some u=>rw[pC];exact eh ⟨λk=>⟨rfl,k⟩,λk=>k.2⟩
 ·unfold Na;rw[wp_bind];congr 1;funext v s1;cases jL _ v s1 with
  |none=>exact eh ⟨λk=>k.elim,λk=>nomatch k.1⟩
  |some u=>
   rw[pC,wp_bind];simp only[wp_bind];exact eh ⟨λk=>⟨rfl,k⟩,λk=>k.2⟩
 ·rfl
 ·unfold OO;rw[wp_bind];congr 1;funext v s1;rw[wp_bind];congr 1;funext v s1;rw[wp_bind]
 ·rfl
 ·unfold oS;rw[wp_bind];congr 1;funext v s1;cases v<;>rfl
 ·unfold Fe;rw[wp_bind];congr 1;funext v s1;cases v with
  |bl b=>cases b<;>rfl
  |_=>rfl
 ·unfold UM;rw[wp_bind];congr 1;funext v s1;cases v with
  |bl b=>cases b<;>rfl
  |_=>rfl
 ·unfold BC;rw[wp_bind];congr 1;funext v s1;exact kL _ _ _
 ·unfold KJ;rw[wp_bind];congr 1;funext v s1;exact kL _ _ _
 ·unfold Ym;rw[wp_bind];congr 1;funext v s1;exact kL _ _ _
 ·unfold i_;rw[wp_bind];congr 1;funext v s1;cases v<;>rfl
theorem xA (I:Â AV->En->S->Prop)(c:∀l env s,I l env s->u0 gs s)(h0:∀env s,I [] env s->N env s)
  (g:∀v r env s,I (v::r) env s->(a v env s).wp (λe s1=>(b e s1).wp (I r) T) (λ_ _=>False)):∀l env s,I l env s->(forL a b gs l env s).wp N T
 |[],env,s,h=>by unfold forL;rw[Ì (c _ _ _ h)];exact h0 env s h
 |v::r,env,s,h=>by
  unfold forL;rw[Ì (c _ _ _ h)];have k:=g v r env s h;revert k;cases a v env s with
  |nx d s1=>
   intro k;have k:(b d s1).wp (I r) T:=k;dsimp only;revert k;cases b d s1 with
   |nx f i=>intro k;exact xA I c h0 g r f i k
   |rt f i=>intro k;exact k
   |_=>intro k;exact k.elim
  |_=>intro k;exact k.elim
theorem ml {d:Mt}{b:Eb}{elt:Ev}{gs:Gd}{Q:Â AV->S->Prop}(I:Â AV->Â AV->En->S->Prop)(f:∀l a env s,I l a env s->u0 gs s)(h0:∀a env s,I [] a env s->Q a s)
  (i:∀v r a env s,I (v::r) a env s->(d v env s).wp (λe s1=>(b e s1).wp λc g=>if c=true then (elt e g).wp λx m=>I r (a++[x]) e m else I r a e g) (λ_ _=>False)):∀l a env s,I l a env s->(bh d b elt gs l env s a).wp Q
 |[],a,env,s,h=>by unfold bh;rw[Ì (f _ _ _ _ h)];exact h0 a env s h
 |v::r,a,env,s,h=>by
  unfold bh;rw[Ì (f _ _ _ _ h)];have k:=i v r a env s h;revert k;cases d v env s with
  |nx n s1=>
   intro k;dsimp only;rw[wp_bind,DT];refine R.wp.mono k λc g k=>?_;rw[sH,wp_bind,DT];split
   ·rename_i j;rw[Ì j]at k;exact R.wp.mono k λx m k=>ml I f h0 i r (a++[x]) n m k
   ·rename_i j;rw[Ö j]at k;exact ml I f h0 i r a n g k
  |_=>intro k;exact k.elim
def eW {m:R α}(h:m=.ok v s)(Q:α->S->Prop):m.wp Q=Q v s:=by rw[h];rfl
def CD {m:RS}(h:m=.nx e s)(N:En->S->Prop)(T:AV->S->Prop):m.wp N T=N e s:=by rw[h];rfl
def QR (f:En->S->Nat)(c:Eb)(b:Ms)(env:En)(s:S)(N:En->S->Prop)(T:AV->S->Prop):(IF f c b env s).wp N T=(DS c b (f env s) env s).wp N T:=rfl
def aF (h:∀K:En->S->Prop,(∀e s,K e s=(b e s).wp N T)->(a env s).wp K T):(ý a b env s).wp N T:=by
 rw[WS.1];exact h _ λ_ _=>rfl
def WV :
  (∀v l s Q,(mv 0 (À v::l) s).wp Q=Q v s)/\
  (∀n x l s Q,(mv (n+1) (x::l) s).wp Q=(mv n l s).wp Q)/\
  (∀i j s Q,(ĸ (.int i) (.int j) s).wp Q=Q (.int (i+j)) s)/\
  (∀i j s Q,(wj (.int i) (.int j) s).wp Q=Q (.int (i-j)) s)/\
  (∀i j s Q,(jd (.int i) (.int j) s).wp Q=((JM i/\JM j)/\Q (.int (i*j)) s))/\
  (∀i j s Q,(kl (.int i) (.int j) s).wp Q=((j≠0/\Q5 j)/\Q (.int (i.fdiv j)) s))/\
  (∀i j s Q,(jc (.int i) (.int j) s).wp Q=(j≠0/\Q (.int (i.fmod j)) s))/\
  (∀i s Q,(Am (.int i) s).wp Q=Q (.int (-i)) s)/\
  (∀b s Q,(HU (.bl b) s).wp Q=Q (.bl (!b)) s)/\
  (∀i j s Q,(Fq (.int i) (.int j) s).wp Q=Q (.bl (decide (i<j))) s)/\
  (∀i j s Q,(xY (.int i) (.int j) s).wp Q=Q (.bl (decide (i<=j))) s)/\
  (∀i j s Q,(Wy (.int i) (.int j) s).wp Q=Q (.bl (decide (j<i))) s)/\
  (∀i j s Q,(HR (.int i) (.int j) s).wp Q=Q (.bl (decide (j<=i))) s)/\
  (∀i j s Q,(bf (.int i) (.int j) s).wp Q=Q (.bl (decide (i=j))) s)/\
  (∀i j s Q,(iW (.int i) (.int j) s).wp Q=Q (.bl (!decide (i=j))) s)/\
  (∀i j s Q,(bf (.str i) (.str j) s).wp Q=Q (.bl (decide (i=j))) s)/\
  (∀i j s Q,(iW (.str i) (.str j) s).wp Q=Q (.bl (!decide (i=j))) s)/\
  (∀v s Q,(ur v .Ě s).wp Q=Q (.bl (ni v)) s)/\
  (∀v s Q,(LC v .Ě s).wp Q=Q (.bl (!ni v)) s)/\
  (∀i s Q,(wh [.int i] s).wp Q=Q (.int (if i<0 then -i else i)) s)/\
  (∀i j s Q,(S3 [.int i,.int j] s).wp Q=Q (.int (if j<i then j else i)) s)/\
  (∀i s Q,(Nh [.int i] s).wp Q=Q (.int i) s)/\
  (∀i s Q,(Nh [.bl i] s).wp Q=Q (.int (if i then 1 else 0)) s)/\
  (∀xs i s Q,(Ċ (.tup xs) (.int i) s).wp Q=(need (lJ xs i) λv=>.ok v s).wp Q)/\
  (∀k i s Q,(Ċ (.ref k) (.int i) s).wp Q=(need (ö s k) λxs=>need (lJ xs i) λv=>.ok v s).wp Q)/\
  (∀{α:Type}(a:α) (s:S) (Q:α->S->Prop),(R.ok a s).wp Q=Q a s)/\
  (∀e s N T,(RS.nx e s).wp N T=N e s)/\
  (∀{α c:Type}(x:c) (f:c->R α) (Q:α->S->Prop),(need (À x) f).wp Q=(f x).wp Q)/\
  (∀xs s Q,(DR (.tup xs) s).wp Q=Q (xs,[]) s)/\
  (∀i j s Q,(Dv (.int i) (.int j) s).wp Q=(J_ i j/\Q (.int (i^j.toNat)) s))/\
  (∀i j s Q,(l0 [.int i,.int j] s).wp Q=((0<j/\Q5 j)/\Q (.tup [.int (i / j),.int (i % j)]) s)):=by
 refine⟨?_,?_,?_,?_,?_,?_,?_,?_,?_,?_,?_,?_,?_,?_,?_,?_,?_,?_,?_,?_,?_,?_,?_,?_,?_,?_,?_,?_,?_,?_,?_⟩<;>intros<;>first|rfl|exact kL _ _ _
def Lq :
  (∀(x y:É AV) (l:En),(x::l).set 0 y=y::l)/\
  (∀(x y:É AV) (l:En) (n:Nat),(x::l).set (n+1) y=x::l.set n y)/\
  (∀(n:Nat) (x:É AV),è (n+1) x=x::è n x)/\
  (∀(x:É AV),è 0 x=[])/\
  (∀(a:AV) (l:Â AV),lJ (a::l) 0=À a)/\(∀(a b:AV) (l:Â AV),lJ (a::b::l) 1=À b)/\(∀(a b c:AV) (l:Â AV),lJ (a::b::c::l) 2=À c)/\
  (∀(l:Lc) (env:En),Cj l env=l.map λp=>p.2.bind λj=>(env[j]?).join)/\
  (∀(x:É AV) (l:En),(x::l)[0]?=À x)/\
  (∀(x:É AV) (l:En) (n:Nat),(x::l)[n+1]?=l[n]?)/\
  (∀{α d:Type}(f:α->d),[].map f=[])/\
  (∀{α d:Type}(f:α->d) (x:α) (l:Â α),(x::l).map f=f x::l.map f)/\
  (∀{α d:Type}(f:α->É d),(none:É α).bind f=none)/\
  (∀{α d:Type}(f:α->É d) (x:α),(À x).bind f=f x)/\
  (∀{α:Type}(x:É α),(À x).join=x):=by
 refine⟨?_,?_,?_,?_,?_,?_,?_,?_,?_,?_,?_,?_,?_,?_,?_⟩<;>intros<;>first|rfl|skip
 ·exact mj (j:=0) rfl
 ·exact mj (j:=1) rfl
 ·exact mj (j:=2) rfl
def UU:(∀p:Prop,(j2 ∧ p)=p) ∧ (∀p:Prop,(p ∧ j2)=p) ∧ (∀{α:Type}{_:a8 j2}(a b:α),(if j2 then a else b)=a) ∧ (∀{α:Type}{_:a8 False}(a b:α),(if False then a else b)=b) ∧ ((false=true)=False) ∧ (∀(p:Prop){_:a8 p},(decide p=true)=p) ∧ (∀b:Bool,((!b)=true)=(b=false)) ∧ (∀(p:Prop){_:a8 p},(decide p=false)=¬p):=by
 refine⟨λp=>true_and p,λp=>and_true p,λa b=>f9 a b,λa b=>ia a b,aG,λp _=>Ų,λb=>jW b,λp _=>eh decide_eq_false_iff_not⟩

end Mm
local macro_rules |`(tactic|walk_at"w") => `(tactic|simp only [↓Mm.WS, ↓Mm.WE, ↓Mm.WV, Mm.Lq, Mm.ę, Mm.UU, Ù, ↓ë])
local macro_rules|`(tactic|simp?[$a:simpLemma,*])=>`(tactic|simp only[↓Mm.WS,↓Mm.WE,↓Mm.WV,Mm.Lq,Mm.ę,Mm.UU,Ù,↓ë,$a:simpLemma,*])
namespace Ro
open PySem L2 Mm
structure Df (T:Tx)(mg:Str->É Value)(x:Str)(st:Stmt):Prop where
 ex:∃f fd,Gg T.K x x st f fd/\mg x=À (.ref f)
def RW {K:Ç}{cl:Nat->Addr}{h:Heap}{mg:Str->É Value}{x:Str}{st:Stmt}{f:Addr}{i:Value}{od g:É Addr}{e:Č (É Value)}{kV d j b ct:Value}(X:K.In h)(G:h.Ns mainGlobals mg)(a:Ę K mainGlobals x=À (À (.ref f)))
  (l:K.lookup f=À ⟨i,od,.func (Ņ x x (cj st) (aL st) (ď st) .none kV d j g b ct),e⟩) (c:dg K b x=true) (k:ĵ K (.ref f)=true):Df ⟨K,cl⟩ mg x st:=
 ⟨⟨f,_,xB l c k,gI X G a⟩⟩
def BN (X:K.In h)(G:h.Ns mainGlobals mg)(a:Ę K mainGlobals x=À (À (.ref f))) (l:K.lookup f=À ⟨.type "tuple",od,.seq c n,d⟩)(v:Vals vs c.toList)(hs:vs.length<=1000)(b:∀ρ H,Ĭ ⟨K,cl⟩ ρ H as vs):wU ⟨K,cl⟩ mg x (.tup as):=
 ⟨.ref f,.ref f,gI X G a,rfl,λρ H=>kB (gp.const l v hs) (b ρ H)⟩
def Di (X:K.In h)(G:h.Ns mainGlobals mg)(e:Ę K mainGlobals x=À (À u)) (r:RelV v u)(b:∀ρ H,VR ⟨K,cl⟩ ρ H a v):wU ⟨K,cl⟩ mg x a:=⟨v,u,gI X G e,r,b⟩
section
variable {P:ą}{w:ħ}{T:Tx}{mg:Str->É Value}{base:Heap}
def Tv (N P:Â Str)(a:Scope):Bool:=decide N.Nodup&&(P.all (λx=>decide (a.names.lookup x=À .local)||decide (a.names.lookup x=À .cell))&&a.names.all λy=>!decide (y.2=.free))
def ŗ {N P:Â Str}{a:Scope}(b:a.kind=.function)(c:a.isCoroutine=false)(d:a.isGenerator=false)(e:N.take P.length=P)(h:Tv N P a=true):ij N P a:=by
 unfold Tv at h;rw[Ĉ,Ĉ,Đ,Đ]at h;refine⟨b,c,d,ō h.1,e,λx f=>?_,λy g=>?_⟩
 ·have:=h.2.1 x f;rw[iS]at this;exact this.imp ō ō
 ·have:=h.2.2 y g;rw[jW]at this;exact of_decide_eq_false this
def len0 {α:Type}{us:Â α}(h:us.length=0):us=[]:=A6.mp h
def Sq {α:Type}{us:Â α}(h:us.length=1):∃b,us=[b]:=by
 cases us with
 |nil=>cases h
 |cons a us=>
  cases len0 (fC h);exact⟨a,rfl⟩
def Sr {α:Type}{us:Â α}(h:us.length=2):∃c b,us=[c,b]:=by
 cases us with
 |nil=>cases h
 |cons a us=>
  obtain⟨b,rfl⟩:=Sq (fC h);exact⟨a,_,rfl⟩
def Ss {α:Type}{us:Â α}(h:us.length=3):∃d b c,us=[d,b,c]:=by
 cases us with
 |nil=>cases h
 |cons a us=>
  obtain⟨b,c,rfl⟩:=Sr (fC h);exact⟨a,_,_,rfl⟩
def Su {α:Type}{us:Â α}(h:us.length=4):∃e b c d,us=[e,b,c,d]:=by
 cases us with
 |nil=>cases h
 |cons a us=>
  obtain⟨b,c,d,rfl⟩:=Ss (fC h);exact⟨a,_,_,_,rfl⟩
def Sv {α:Type}{us:Â α}(h:us.length=5):∃f b c d e,us=[f,b,c,d,e]:=by
 cases us with
 |nil=>cases h
 |cons a us=>
  obtain⟨b,c,d,e,rfl⟩:=Su (fC h);exact⟨a,_,_,_,_,rfl⟩
def Sw {α:Type}{us:Â α}(h:us.length=6):∃g b c d e f,us=[g,b,c,d,e,f]:=by
 cases us with
 |nil=>cases h
 |cons a us=>
  obtain⟨b,c,d,e,f,rfl⟩:=Sv (fC h);exact⟨a,_,_,_,_,_,rfl⟩
def V_ {α:Type}{us:Â α}(h:us.length=7):∃i b c d e f g,us=[i,b,c,d,e,f,g]:=by
 cases us with
 |nil=>cases h
 |cons a us=>
  obtain⟨b,c,d,e,f,g,rfl⟩:=Sw (fC h);exact⟨a,_,_,_,_,_,_,rfl⟩
end
end Ro
namespace L2
open PySem PySem.Spec PyProof.Rows
theorem Inv.HQ (I:Inv X a b H s):s.heap.NoDigits:=I.ok.mod.HQ.keeps I.bk
def PY (g:X.calm=true)(h:PE X e k):PE X (.FormattedValue e (-1) none pos) (λd H Q=>k d H λx A=>(∃i,x=.int i/\i.natAbs<10^4300/\Q (.str (toString i)) A)∨∃t,x=.str t/\t.length<=sizeLine/\Q (.str t) A):=by
 intro a s d H Q I j;refine wpAny_FormattedValue_plain (au (h a s d H _ I j) λu m l=>iv l λx A B f q=>?_);rcases q with⟨i,rfl,c,q⟩|⟨t,rfl,c,q⟩
 ·obtain⟨t,rfl⟩:=f;exact XG (B.ok.hd g) B.HQ (λ_=>⟨.str _,A,B.tok _,⟨_,rfl⟩,q⟩) λb=>absurd c (mN.mpr b)
 ·obtain⟨n,rfl⟩:=f;exact wpAny_formatField_str ⟨.str _,A,B,⟨_,rfl⟩,q⟩ ⟨.str _,A,B.tok _,⟨_,rfl⟩,q⟩ c
abbrev TJ:=St->Hp->Str->(Str->Hp->Prop)->Prop
def PJ (X:Cx)(e:Â Expr)(t:TJ):Prop:=∀a s d H b Q,Inv X a d H s->t d H b Q->
 Joins (Û X.prog X.w) X.A X.xe (Eh e X.env) b (λc f=>∃B,Inv X a d B f/\Q c B) s
def TM:TJ:=λb H a Q=>Q a H
def QK (c:TE)(r:TJ):TJ:=λb H a Q=>c b H λx A=>∃y,x=.str y/\(a++y).length<=sizeLine/\r b A (a++y) Q
def P_:PJ X [] TM:=λa s c H b Q I h=>⟨H,I,h⟩
def LX (g:PE X e k)(hr:PJ X b r)(hs:Eh (e::b) X.env=ģ e X.env::Eh b X.env:=by rfl):PJ X (e::b) (QK k r):=by
 intro a s c H d Q I h;rw[hs];refine au (g a s c H _ I h) λu j l=>?_;obtain⟨x,A,B,i,y,f,hl,q⟩:=l;subst f;obtain⟨t,rfl⟩:=i;exact⟨y,t,rfl,hl,hr a j c A _ Q B q⟩
theorem vZ:∀{ps:Â (X5 Value)}{a:Str}{Q B:Str->Ô->Prop}{s:Ô},Joins M A E ps a Q s->(∀o s,Q o s->B o s)->Joins M A E ps a B s
 |[],_,_,_,_,h,k=>k _ _ h
 |_::_,_,_,_,_,h,k=>aw h (λ_ _ b=>iv b λy t e hl r=>⟨y,t,e,hl,vZ r k⟩) λ_ _ x=>x
def LM (h:PJ X (e1::c::d) t):PE X (.JoinedStr (e1::c::d) pos) (λb H Q=>t b H fG λout A=>out.length<=sizeLine/\Q (.str out) A):=by
 intro a s b H Q I e;exact wpAny_JoinedStr (vZ (h a s b H fG _ I e) λout f ⟨A,B,hl,q⟩=>⟨hl,.str out,A,B.tok _,⟨_,rfl⟩,q⟩)
end L2
namespace Mm
open PySem L2
section
variable {T:Tx}{XE:gO}{X:Cx}{pos:jA}
structure Dg (i:Int):Prop where
 f:i.natAbs<10^4300
instance {i:Int}:a8 (Dg i):=jv _
def WX (i:Int):Str:=Ĕ (toString i)
def gB:AV->S->R AV
 |.int i,s=>if Dg i then .ok (.str (WX i)) s else .bad
 |.str t,s=>if t.length<=sizeLine then .ok (.str t) s else .bad
 |_,_=>.bad
def OW (j:X.calm=true)(h:PE X e (tE T XE m)):PE X (.FormattedValue e (-1) none pos) (tE T XE (aI gB m)):=
 PE.imp (PY j h) λt H Q o=>ś o λr g s n k l=>step n k l λv p d A x _ q c i b a=>by
  have b:VR T d A v x:=b;cases v<;>try exact a.elim
  ·obtain⟨hl,a⟩:=a.ū;exact .inl ⟨_,b.int_inv,hl.f,a.Ł c jo⟩
  ·obtain⟨hl,a⟩:=a.ū;exact .inr ⟨_,b.str_inv,hl,a.Ł c jo⟩
abbrev Ej:=Str->En->S->R Str
def lh:Ej:=λa _ s=>.ok a s
noncomputable def ar (m:Ev)(r:Ej):Ej:=λa b s=>(m b s).bind λv c=>match v with
 |.str y=>if (a++y).length<=sizeLine then r (a++y) b c else .bad
 |_=>.bad
def WO:Rl Str Str:=⟨λ_ _ _ a b=>a=b,λ_ h=>h⟩
def tJ (T:Tx)(XE:gO)(m:Ej):TJ:=λd H b Q=>∃c a s,SR T c s H/\ER T c H a d/\Out T XE WO c H (m b a s) Q
def PJ.imp (h:PJ X d t)(k:∀c H a Q,t' c H a Q->t c H a Q):PJ X d t':=λb s c H a Q I e=>h b s c H a Q I (k c H a Q e)
def O':PJ X [] (tJ T XE lh):=PJ.imp P_ λg H a Q ⟨e,b,s,d,f,c⟩=>c e H a .refl d rfl
def Lh (i:PE X e (tE T XE m)) (hr:PJ X h (tJ T XE r)) (hs:Eh (e::h) X.env=ģ e X.env::Eh h X.env:=by rfl):PJ X (e::h) (tJ T XE (ar m r)):=
 PJ.imp (LX i hr hs) λp H a Q ⟨o,f,s,hs,i,k⟩=>step hs i k λv l d A x _ n j g c b=>by
  have c:VR T d A v x:=c;cases v<;>try exact b.elim
  obtain⟨hl,b⟩:=b.ū;exact⟨_,c.str_inv,hl,d,f,l,j,g,b⟩
def fJ (r:Ej):Ev:=λa s=>(r fG a s).bind λt b=>if t.length<=sizeLine then .ok (.str t) b else .bad
def Lb (h:PJ X (e1::d::f) (tJ T XE r)):PE X (.JoinedStr (e1::d::f) pos) (tE T XE (fJ r)):=
 PE.imp (LM h) λo H Q l=>ś l λm b s i g a=>by
  refine⟨m,b,s,i,g,?_⟩;unfold fJ at a;cases e:r fG b s with
  |bad=>rw[e]at a;exact a
  |ex c j=>rw[e]at a;exact a
  |ok t j=>
   rw[e]at a;obtain⟨hl,a⟩:=a.ū;intro n A x u k ex;cases (show t=x from ex);exact⟨hl,(Out.up u a).Ł k jo⟩
end
end Mm
namespace L2
open PySem PySem.Spec PySem.W PyProof.Rows
def XT (h:Heap)(e:Addr)(vs:Č Value):Prop:=vs[1]?=À .none∨∃T a b,vs[1]?=À (.ref T)/\T≠e/\h.get? T=À a/\a.data=.fields b/\b[3]?=À .none
structure Way (fs:Â Addr)(e:Addr)(oe:Obj)(h h':Heap):Prop where
 keep:∀b o,h.get? b=À o->b∉fs->b≠e->h'.get? b=À o
 slot:∀b o,h.get? b=À o->b∈fs->∃sl,h'.get? b=À {o with slots:=sl}
 exc:∃vs,h'.get? e=À {oe with data:=.fields vs}/\1<vs.size/\XT h' e vs
def oV (hd:o.data=.fields ts)(b:ts[3]?=À .none):þ (·.setIfInBounds 3 .none) o=o:=by
 obtain⟨c,d,a,f⟩:=o;have hd:a=.fields ts:=hd;subst hd;show Obj.mk c d (.fields (ts.setIfInBounds 3 .none)) f=_;congr 2;apply Array.ext_getElem?;intro i;rw[Array.getElem?_setIfInBounds];split
 ·rename_i e;subst e;split
  ·exact b.symm
  ·rename_i g;rw[fK (by lia)]at b;cases b
 ·rfl
def BV (hd:o.data=.fields ts)(f:Č Value->Č Value):þ f o={o with data:=.fields (f ts)}:=by
 obtain⟨c,d,a,b⟩:=o;have hd:a=.fields ts:=hd;subst hd;rfl
section
variable {M:Model}{A:Ŕ}{E:Value->Ô->Prop}{s:Ô}
def zD 
  (q:A.frames=À (env::outer)) (hl:s.heap.FunFrames base (env::outer)) (F:env.frame=À L) (y:s.heap.get? e=À h) (hd:h.data=.fields vs) (hz:1<vs.size)
  (H:∀h',Way (yJ (env::outer)) e h s.heap h'->Q () {s with heap:=h'}) :
  Ø M A (do let a <-frameOf env;let pl <-entryPlaceOf L P;let b <-yM head a .none (Ŷ L) .none pl;setField (.ref e) 1 b) (λ_ s'=>Ø M A (y_ (.ref e) none) Q E s') E s:=by
 have C:e∉yJ (env::outer):=λz=>by
  obtain⟨_,o,B,r⟩:=hl.mem z;rw[y]at B;cases B;exact r vs hd
 refine Ã (wpAny_frameOf_fun q hl F λg u=>?_);refine Ã (wpAny_entryPlaceOf λpl t=>?_);refine Ã ?_;simp only[yM,newFields];refine Ř ?_ (t.sizeOk5 _ _ _ _ _);generalize J:([head,Ð L,í,Ŷ L,í]++(if pl.isEmpty then è 6 í else pl)).toArray=c;have N:5<=c.size:=by rw[<-J];simp
 have w:g.get? e=À h:=(u.2.1 e C).trans y;have d:g.objs.size≠e:=Ń (Ï w);have j:(g.push {cls:=.type "traceback",data:=.fields c}).get? e=À h:=Ä _ w;refine ic j hd hz ?_;have v:(þ (·.setIfInBounds 1 (Ð g.objs.size)) h)={h with data:=.fields (vs.setIfInBounds 1 (.ref g.objs.size))}:=BV hd _;have l:(þ (·.setIfInBounds 1 (Ð g.objs.size)) h).data=.fields (vs.setIfInBounds 1 (.ref g.objs.size)):=by rw[v]
 have k:=ù (þ (·.setIfInBounds 1 (Ð g.objs.size))) j (df l);have gT:=(ç (g.push {cls:=.type "traceback",data:=.fields c}) (þ (·.setIfInBounds 1 (Ð g.objs.size))) (ő d)).trans (Ò g rfl);unfold y_;refine Ã (ľ k l (x:=.ref g.objs.size) (by rw[da hz]) ?_);rw[Ì (by simp)];refine ic gT rfl (by lia) (H _ ?_);have m:∀b o,g.get? b=À o->b≠e->(((g.push {cls:=.type "traceback",data:=.fields c}).update e (þ (·.setIfInBounds 1 (Ð g.objs.size)))).update g.objs.size (þ (·.setIfInBounds 3 ((none:É Addr).elim í λf=>Ŷ f)))).get? b=À o:=λb o i p=>by
  rw[ç _ _ (Ń (Ï i)),ç _ _ (ő p)];exact Ä _ i
 refine⟨λb o i n D=>m b o ((u.2.1 b n).trans i) D,λb o i n=>?_,?_⟩
 ·obtain⟨O,I⟩:=u.2.2 b o i;exact⟨O,m b _ I λz=>C (z▸n)⟩
 ·refine⟨vs.setIfInBounds 1 (.ref g.objs.size),?_,by simpa using hz,.inr ⟨g.objs.size,_,_,by rw[da hz],d,ù _ gT (df (by rw[BV (o:={cls:=.type "traceback",data:=.fields c}) (ts:=c) rfl])),by rw[BV (o:={cls:=.type "traceback",data:=.fields c}) (ts:=c) rfl],?_⟩⟩
  ·rw[ç _ _ d,k,v]
  ·rw[da (by lia)];rfl
def Dj 
  (g:A.frames=À (env::outer)) (hl:s.heap.FunFrames base (env::outer)) (j:env.frame=À L) (i:s.heap.get? e=À k) (hd:k.data=.fields vs) (n:XT s.heap e vs)
  (l:∀h',Way (yJ (env::outer)) e k s.heap h'->Q () {s with heap:=h'}):Ø M A (JK (.ref e) env) (λ_ s'=>Ø M A (y_ (.ref e) none) Q E s') E s:=by
 unfold JK;simp only[j];rcases n with d|⟨T,p,r,d,m,hT,a,h⟩
 ·refine Ã (ľ i hd d ?_);rw[Ö (by decide)];exact zD g hl j i hd (dA.mp d).1 l
 ·refine Ã (ľ i hd d ?_);rw[Ì (show(Ð T != í)=true from by simp)];refine Ã (ľ hT a h ?_);rw[Ö (show ¬((í == Ŷ L)=true)from by simp[Ŷ])];refine Ã (ic hT a (dA.mp h).1 ?_);have same:∀b o,s.heap.get? b=À o->(s.heap.update T (þ (·.setIfInBounds 3 í))).get? b=À o:=λb o c=>by
   by_cases f:b=T
   ·subst f;rw[hT]at c;cases c;have q:=ù (þ (·.setIfInBounds 3 í)) hT (by rw[oV a h];exact df a);rw[q,oV a h]
   ·rw[ç _ _ (ő f)];exact c
  refine zD (s:={s with heap:=s.heap.update T (þ (·.setIfInBounds 3 í))}) g (hl.of_keeps λb o c _=>⟨o,same b o c,rfl⟩) j (same e k i) hd (dA.mp d).1 λh' W=>l h' ?_;exact⟨λb o c=>W.keep b o (same b o c),λb o c=>W.slot b o (same b o c),W.exc⟩
def Hm 
  (a:A.frames=À (env::outer)) (hl:s.heap.FunFrames base (env::outer)) (d:env.frame=À L) (c:s.heap.get? e=À b) (hd:b.data=.fields vs) (g:XT s.heap e vs)
  (f:∀h',Way (yJ (env::outer)) e b s.heap h'->Q () {s with heap:=h'}):Ø M A (leaving env (.ref e)) Q E s:=by
 unfold leaving;exact Ã (Dj a hl d c hd g f)
def EL (h:s.heap.get? e=À l)(hd:l.data=.fields vs)(k:XT s.heap e vs)
  (i:∀h',(∀b o,s.heap.get? b=À o->h'.get? b=À o)->Q () {s with heap:=h'}):Ø M A (y_ (.ref e) none) Q E s:=by
 unfold y_;rcases k with d|⟨T,m,n,d,j,hT,a,f⟩
 ·refine Ã (ľ h hd d ?_);rw[Ö (by decide)];exact È (i s.heap λ_ _ z=>z)
 ·refine Ã (ľ h hd d ?_);rw[Ì (show(Ð T != í)=true from by simp)];refine ic hT a (dA.mp f).1 (i _ λb o g=>?_);by_cases c:b=T
  ·subst c;rw[hT]at g;cases g;have q:=ù (þ (·.setIfInBounds 3 í)) hT (by rw[oV a f];exact df a);exact q.trans (by rw[oV a f])
  ·exact(ç _ _ (ő c)).trans g
end
def MD (C e:Addr)(d:É Addr):HO:=.ext λh=>∃a b,h.get? e=À a/\a.cls=.ref C/\a.dict=d/\a.data=.fields b
def Way.Ů (W:Way fs e a h h')(l:∀b∈fs,H b=none)(j:H e=À (MD C e d)) (A:h.get? e=À a)(hc:a.cls=.ref C)(o:a.dict=d)(x:ly P w H h):ly P w H h':=λb u q=>by
 obtain⟨f,g,p,s⟩:=W.exc;by_cases i:b=e
 ·subst i;rw[j]at q;cases q;exact⟨⟨_,f,g,hc,o,rfl⟩,⟨_,g⟩,λt y ⟨n,f,z,r⟩ k=>⟨n,f,k n z,r⟩⟩
 ·refine(x b u q).pq (λc v hc z=>W.keep c v z (λm=>?_) ?_) (λc z=>z) λc xs z=>z
  ·rcases hc with rfl|hc
   ·rw[l c m]at q;cases q
   ·rw[l c m]at hc;cases hc
  ·rintro rfl;rcases hc with rfl|hc
   ·exact i rfl
   ·rw[j]at hc;cases hc
def Way.un (W:Way fs e l h h')(k:H e=À (MD C e d)) (hs:∀b∈fs,b∈f):Un f [] H H h h':=by
 have g:∀b,H b=none->b≠e:=λb n z=>by subst z;rw[k]at n;cases n
 have a:∀b o,h.get? b=À o->b≠e->∃i,h'.get? b=À {o with slots:=i}:=λb o q z=>by
  by_cases m:b∈fs
  ·exact W.slot b o q m
  ·exact⟨o.slots,W.keep b o q m z⟩
 refine⟨λb o q n j _=>W.keep b o q (λz=>j (hs b z)) (g b n),λb o q n _ _=>a b o q (g b n),λ_ _ _ n _=>n,λb o q _=>?_,λ_ _ q=>q,λ_ _ _ q=>q,λ_ p q=>⟨#[],by rw[q];simp⟩⟩;by_cases z:b=e
 ·subst z;obtain⟨r,c,_⟩:=W.exc;exact⟨_,c⟩
 ·obtain⟨i,c⟩:=a b o q z;exact⟨_,c⟩
structure Lies (C e:Addr)(d:É Addr)(H:Hp)(h:Heap):Prop where
 JS:H e=À (MD C e d)
 ex:∃ox vs,h.get? e=À ox/\ox.cls=.ref C/\ox.dict=d/\ox.data=.fields vs/\XT h e vs
def pX (P:ą)(w:ħ):Ge:=λa H s E b s'=>∃e C d A,b=.ref e/\s'.os=s.os/\md s'.gens/\Un (yJ a) [] H A s.heap s'.heap/\ly P w A s'.heap/\Lies C e d A s'.heap/\E b (À C) A
def Un.way (u:Un fs [] A H h0 h)(W:Way (L::fs) e s h h') (k:H e=À (MD C e d)) (j:h0.objs.size<=L):Un fs [] A H h0 h':=by
 have l:∀b,H b=none->b≠e:=λb n z=>by subst z;rw[k]at n;cases n
 have nL:∀b o,h0.get? b=À o->b≠L:=λb o q z=>by subst z;exact absurd (Ï q) (mN.mpr j)
 refine⟨λb o q n f a=>W.keep b o (u.keep b o q n f a) (λz=>?_) (l b (u.free b o q n a)),λb o q n f a=>?_,u.free,λb o q a=>?_,u.jR,u.iI,u.uI⟩
 ·rcases ò.mp z with z|z
  ·exact nL b o q z
  ·exact f z
 ·obtain⟨p,g⟩:=u.slot b o q n f a;obtain⟨i,c⟩:=W.slot b _ g (ÿ _ f);exact⟨i,c⟩
 ·obtain⟨r,g⟩:=u.there b o q a;by_cases z:b=e
  ·subst z;obtain⟨t,c,_⟩:=W.exc;exact⟨_,c⟩
  ·by_cases m:b∈L::fs
   ·obtain⟨p,c⟩:=W.slot b _ g m;exact⟨_,c⟩
   ·exact⟨_,W.keep b _ g m z⟩
def Lets (X:Cx)(E:XK):Prop:=∀a b H s e C d,Inv X a b H s->Lies C e d H s.heap->E (.ref e) (À C) H->X.xe (.ref e) s
def Lets.passes (l:Lets X E):Passes (pX X.prog X.w) X E:=by
 rintro b f H s g s' I ⟨e,C,d,A,rfl,os,a,un,c,x,q⟩;obtain⟨v,B,J,r,rfl⟩:=I.after (Q:=λv B=>B=A) (u:=.none) ⟨.Ě,A,os,a,un,c,rfl,rfl⟩;exact l b f _ s' e C d J x q
def K0 {K:Ç}{mg:Str->É Value}{N:Â Str}{scope:Scope}{outer:Â Jw}{E:XK}:Lets (k_ (pX P w) P w K mg base N i scope f n A outer s H E) E:=by
 intro h u B s' e C d I x q;obtain⟨p,r,b,c,g,j,k⟩:=x.ex;refine Hm (base:=base) (outer:=outer) I.ok.frames I.stack rfl b j k λo W=>?_;refine⟨e,C,d,B,rfl,I.os,I.bare,I.base.way W x.JS (Í _),W.Ů I.sE x.JS b c g I.Ů,⟨x.JS,?_⟩,q⟩;obtain⟨a,l,t,m⟩:=W.exc;exact⟨_,a,l,c,g,rfl,m⟩
def Qu (C:Addr)(E:XK)(t:TA):TS:=λ_ b H=>t b H λa A=>a.length<=sizeLine/\∀e,A e=none->E (.ref e) (À C) (upd A e (MD C e none))
def Iv (x:iA X.K C nm bm none)(hk:ĵ X.K (.ref C)=true) (Z:Gl X B)(p:X.mg B=À (.ref C)) (U:X.calm=true)(l:Lets X E)(Q:PA X (a::as) t)
  (y:(B == ("__debug__":Str))=false:=by decide) (Y:Î (a::as) X.env=(false,ģ a X.env)::Î as X.env:=by rfl) (z:(ĺ c (Î as X.env)).any (·.1)=false:=by rfl) :
  PS X (.Raise (À (.Call (.Name B np) (a::as) [] c)) none pos) (Qu C E t):=by
 intro j s O H D I h;obtain⟨q,N,bs,sn,sub,ab,col,dd,k0,k1,k2,k3,k5,m,lC,n,i⟩:=x.ex;have T:bm.contains (.type "BaseException")=true:=(x.tail.PN I.kG).hasType (X:="BaseException") (b:=true) (by decide+kernel);rw[arm_exec_Raise];refine Ã (dS (wpAny_raiseStmt_made_sub (C:=C) (nm:=nm) (q:=q) (N:=N) (bs:=bs) (bm:=bm) (hdct:=true) (sn:=sn) (sub:=sub) (ab:=ab) (col:=col) (dd:=dd) (k0:=k0) (k1:=k1) (k2:=k2) (k3:=k3) (k5:=k5) (newId:="ValueError.__new__") T (I.ok.hd U) (Ã (aw (bO (oR I Z p ?_ y)) (λv L u=>Ã (dS (È u))) λ_ _ x=>x))));refine ou (h₀:=X.base) I.ok.mod.Sl hk (au (Q c j s O H _ I h) λus s1 ⟨M,H1,A,r,hl,q1⟩=>⟨A.kG,?_⟩) Y z;obtain⟨hp,g,d,tk,os⟩:=s1;refine wpAny_call_exc_subU (hrest:=by rw[aV,<-r.length];exact hl) u_ (by decide+kernel) u_ (x.tail.PN A.kG) (A.kG _ _ lC) (n.ns A.kG) i λh' e p=>?_;obtain⟨t,w,_,_⟩:=p.there;have f:hp.get? e=none:=p.new;refine⟨e,t,rfl,p.keeps _ _ (A.kG _ _ lC),w,?_⟩;refine l j O _ _ e C none (A.So (a:=e) (o:=MD C e none) (t':=tk) p.keeps f ?_) ⟨ă ..,_,_,w,rfl,rfl,rfl,.inl rfl⟩ (q1 e (A.gone f));exact⟨⟨_,_,w,rfl,rfl,rfl⟩,⟨_,w⟩,λh1 h2 ⟨J,M,P,r⟩ k=>⟨J,M,k J P,r⟩⟩
section
variable {M:Model}{A:Ŕ}{E:Value->Ô->Prop}{K:Ç}{C D:Addr}{nm nm2:Str}{bm Yh:Â Value}{AZ V6:É Value}
def Hv (X:K.In s.heap)(x:iA K C nm bm AZ)(y:iA K D nm2 Yh V6)(u:s.heap.get? e=À z)(r:z.cls=.ref C)(h:Q ((Ð C::bm).contains (.ref D)) s):Ø M A (excMatches (.ref e) (.ref D)) Q E s:=by
 obtain⟨q1,H,m,B,i,k,a,o,J,L,N,O,P,m1,lC,n1,Y⟩:=x.ex;obtain⟨q2,I,n,F,j,l,c,p,T,b1,b2,b3,b5,m2,w,n2,Z⟩:=y.ex;have hC:=X _ _ lC;have hD:=X _ _ w;have q:(Ð D::Yh).contains (.type "BaseException")=true:=by rw[aH,(y.tail.PN X).hasType (X:="BaseException") (b:=true) (by decide+kernel),me]
 obtain⟨U,g,d,t,os⟩:=s;have f:=PySem.tc_notTuple;unfold excMatches
 repeat (first|(with_reducible refine Us u ?_;rw[r])|with_reducible refine Us hD ?_|(with_reducible refine Q0 hD ?_;rw[q])|with_reducible refine Q0 hC ?_|wp_step)
 cases v:(Ð C::bm).contains (.ref D)<;>(rw[v]at h;wp_walk;exact h)
end
section
variable {X:Cx}{ø:Â (Addr×Obj)}{σ:St}{H:Hp}{s:Ô}
def KN (I:Inv X ø σ H s)(U:X.N.Nodup)(F:X.N[i]?=À n)(hk:X.env.scope.names.lookup n=À .local)
  (h:∀s',Inv X ø (σ.set i none) H s'->Q () s'):Ø M A (do fL X.env n .none;NF X.env n pos) Q E s:=by
 obtain⟨m,J,hl⟩:=id I.loc;have r:(X.env.scope.kind == .class||(X.env.scope.kind == .module&&X.env.locals != X.env.globals))=false:=by rw[I.ok.kind];rfl
 have t:i<σ.length:=by rw[I.len];exact(Æ.mp F).1
 have l:=I.UE;obtain⟨oL,_,_,Y,_⟩:=id J;refine wpAny_nameGoes_keeps hk J r λT v D f=>?_;have a:ly X.prog X.w H T:=λb ob e=>by
  refine(I.Ů b ob e).pq (λc O hc q=>(f.2 c ?_).trans q) (λ_ q=>q) λ_ _ q=>q;rintro rfl;rcases hc with rfl|hc
  ·rw[I.free]at e;cases e
  ·rw[I.free]at hc;cases hc
 refine h _ ⟨I.ok,I.os,I.bare,⟨λb o e n B u=>?_,λb o e n B u=>?_,I.base.free,λb o e u=>?_,I.base.jR,I.base.iI,I.base.uI⟩,⟨_,D,λj y v' g x P=>?_⟩,λy c e=>?_,I.free,I.iH,λp Z=>?_,a,by simpa using I.len⟩
 ·exact(f.2 b (ï (æ (Ï e) I.ok.above))).trans (I.base.keep b o e n B u)
 ·obtain⟨sl,g⟩:=I.base.slot b o e n B u;exact⟨sl,(f.2 b (ï (æ (Ï e) I.ok.above))).trans g⟩
 ·obtain⟨o',g⟩:=I.base.there b o e u;exact⟨o',(f.2 b (ï (æ (Ï e) I.ok.above))).trans g⟩
 ·by_cases C:j=i
  ·subst C;rw[Ć t]at x;cases x
  ·rw[ì (ő C)]at x;obtain⟨u',r',q⟩:=hl j y v' g x P;refine⟨u',r',?_⟩;rcases q with⟨k,e⟩|⟨k,c,e,z⟩
   ·refine .inl ⟨k,?_⟩;have:y≠n:=λe=>C (ui U g (e▸F));simp[this,e]
   ·exact .inr ⟨k,c,e,z.sameBut f (l y c e)⟩
 ·obtain⟨O,z⟩:=I.cell y c e;exact⟨O,z.sameBut f (l y c e)⟩
 ·obtain⟨e,n,L,nf,d⟩:=I.pin p Z;exact⟨(f.2 p.1 L).trans e,n,L,nf,d⟩
noncomputable abbrev Cx.m_ (X:Cx)(xe:Value->Ô->Prop)(pn:Â (Addr×Obj)):Cx:={X with xe:=xe,pn:=pn}
noncomputable abbrev Cx.m9 (X:Cx)(e:Addr):Cx:={X with A:=X.A.mark (À (.ref e)),calm:=false,xe:=λ_ _=>False}
theorem Inv.m_ (I:Inv X ø σ H s):Inv (X.m_ xe (X.pn++ø)) [] σ H s:=
 ⟨⟨I.ok.mod,I.ok.kind,I.ok.glob,I.ok.blt,I.ok.above,I.ok.inj,I.ok.has,I.ok.MX,I.ok.hd,I.ok.frames,I.ok.QE,I.ok.R3,I.ok.bs,I.ok.Et,I.ok.Ad,I.ok.zH,I.ok.nQ,I.ok.JQ⟩,I.os,I.bare,I.base,I.loc,I.cell,I.free,I.iH,λp a=>I.pin p (by simpa using a),I.Ů,I.len⟩
def Inv.Af (I:Inv (X.m_ xe (X.pn++ø)) a σ H s):Inv X ø σ H s:=
 ⟨⟨I.ok.mod,I.ok.kind,I.ok.glob,I.ok.blt,I.ok.above,I.ok.inj,I.ok.has,I.ok.MX,I.ok.hd,I.ok.frames,I.ok.QE,I.ok.R3,I.ok.bs,I.ok.Et,I.ok.Ad,I.ok.zH,I.ok.nQ,I.ok.JQ⟩,I.os,I.bare,I.base,I.loc,I.cell,I.free,I.iH,λp b=>I.pin p (dN _ b),I.Ů,I.len⟩
theorem Inv.m9 (I:Inv X ø σ H s):Inv (X.m9 e) ø σ H s:=
 ⟨⟨I.ok.mod,I.ok.kind,I.ok.glob,I.ok.blt,I.ok.above,I.ok.inj,I.ok.has,I.ok.MX,(λz=>nomatch z),I.ok.frames,I.ok.QE,I.ok.R3,I.ok.bs,I.ok.Et,I.ok.Ad,I.ok.zH,I.ok.nQ,I.ok.JQ⟩,I.os,I.bare,I.base,I.loc,I.cell,I.free,I.iH,I.pin,I.Ů,I.len⟩
def Inv.S1 (a:X.calm=true->X.A.handled=none)(I:Inv (X.m9 e) ø σ H s):Inv X ø σ H s:=
 ⟨⟨I.ok.mod,I.ok.kind,I.ok.glob,I.ok.blt,I.ok.above,I.ok.inj,I.ok.has,I.ok.MX,a,I.ok.frames,I.ok.QE,I.ok.R3,I.ok.bs,I.ok.Et,I.ok.Ad,I.ok.zH,I.ok.nQ,I.ok.JQ⟩,I.os,I.bare,I.base,I.loc,I.cell,I.free,I.iH,I.pin,I.Ů,I.len⟩
end
def T8 (C e:Addr):É Addr->HO
 |none=>UT C e
 |some a=>YR C e a
def Inv.NY (I:Inv X c o H s)(h:H e=À (MD C e d)):Inv X c o (upd H e (T8 C e d)) s:=by
 obtain⟨⟨a,q,b,f,g,l⟩,_⟩:=I.Ů _ _ h;have j:Q6 (H e):=by rw[h];trivial
 have i:Y3 a=true:=by unfold Y3;rw[l]
 refine I.un (h':=s.heap) (t':=s.toks) (Un.write j (.inl rfl) (λ_ _ _ z=>z) ⟨_,b⟩) (I.Ů.write j (.inl rfl) (λ_ _ _ z=>z) ⟨_,b⟩ ?_);cases d with
 |none=>exact⟨⟨a,b,f,i,g⟩,⟨_,b⟩,λm n ⟨a,z,r⟩ k=>⟨a,k a z,r⟩⟩
 |some p=>exact⟨⟨a,b,f,i,g⟩,⟨_,b⟩,λm n ⟨a,z,r⟩ k=>⟨a,k a z,r⟩⟩
def M5 (i:Nat)(D:Ends):Ends where
 nx:=λσ H=>D.nx (σ.set i none) H
 rt:=D.rt
 bk:=λσ H=>D.bk (σ.set i none) H
 ct:=λσ H=>D.ct (σ.set i none) H
def GY (K:Ç)(N i:Nat)(B:Addr)(ts:TS)(D:Ends):XK:=λf h A=>∃e C d,f=.ref e/\h=À C/\A e=À (MD C e d)/\(∃g c b,iA K C g c b/\(Ð C::c).contains (.ref B)=true)/\
 ∀a:St,a.length=N->ts (M5 i D) (a.set i (À (.ref e))) (upd A e (T8 C e d))
def Qv (K:Ç)(N i:Nat)(A:Addr)(tb:XK->TS)(ts:TS):TS:=λD a H=>tb (GY K N i A ts D) D a H
def Iw 
  (hN:X.N.Nodup) (xc:iA X.K T nm bm AZ) (hm:X.mg xn=À (.ref T)) (hg:Gl X xn)
  (hb:∀xe pn E1,Lets (X.m_ xe pn) E1->lH (X.m_ xe pn) body (tb E1)) (hs:∀e,lH (X.m9 e) (y::o) ts)
  (hi:X.N[i]?=À n:=by rfl) (hx:X.env.scope.names.lookup n=À .local:=by rfl) (l:X.stack=X.env::X.outer:=by rfl) (L:X.env.frame=À X.env.locals:=by rfl) (Y:(xn == ("__debug__":Str))=false:=by decide) :
  PS X (.Try body [.ExceptHandler (À (.Name xn np)) (À n) (y::o) M] [] [] pos) (Qv X.K X.N.length i T tb ts):=by
 intro b s σ H D I h;refine wpAny_Try_except ?_;refine aw (hb (λU s'=>∃e C d a B,U=.ref e/\Inv X b a B s'/\Lies C e d B s'.heap/\GY X.K X.N.length i T ts D U (À C) B) (X.pn++b) _ ?_ [] s σ H D I.m_ h) (λf j g=>?_) ?_
 ·exact λYF a B s' e C d J x q=>⟨e,C,d,a,B,rfl,J.Af,x,q⟩
 ·cases f with
  |next=>
   obtain⟨a,B,J,q⟩:=g;exact È ⟨a,B,J.Af,q⟩
  |brk=>obtain⟨a,B,J,q⟩:=g;exact⟨a,B,J.Af,q⟩
  |cont=>obtain⟨a,B,J,q⟩:=g;exact⟨a,B,J.Af,q⟩
  |ret u=>obtain⟨v,a,B,J,r,q⟩:=g;exact⟨v,a,B,J.Af,r,q⟩
 ·rintro U j ⟨e,C,d,p,H1,rfl,J,x,e',C',d',z1,z2,he,⟨nm',bm',aac,xC,O⟩,q⟩;cases z1;cases z2;obtain⟨ox,vs,o1,o2,o3,o4,o5⟩:=x.ex;have Z:X.A.frames=À (X.env::X.outer):=by rw[<-l];exact J.ok.frames
  have hl:j.heap.FunFrames X.base (X.env::X.outer):=by rw[<-l];exact J.stack
  refine Dj Z hl L o1 o4 o5 λh' W=>?_;have W:Way (yJ X.stack) e ox j.heap h':=by rw[l];exact W
  have P:Inv X b p H1 {j with heap:=h'}:=J.call (ch:=[]) (g':=j.gens) (d':=j.drawn) (t':=j.toks) (W.un x.JS λ_ z=>z) (W.Ů J.sE x.JS o1 o2 o3 J.Ů) J.bare λ_ z=>nomatch z
  obtain⟨vs',p1,p2,p3⟩:=W.exc;refine wpAny_handleBy_cons (codeAny_handlers_test ?_) (by intro z;cases z);refine oR (X:=X.m9 e) P.m9 hg hm ?_ Y;refine Hv P.kG xC xc p1 o2 ?_;rw[O];refine codeAny_handlers_suite_as (EL p1 rfl p3 λh2 k=>?_);have J2:Inv X b p H1 {j with heap:=h2}:=P.un (h':=h2) (t':=j.toks) (Un.kept k) (P.Ů.kept k);refine fy (J2.NY he) hN hi (.inl hx) (v:=.ref e) rfl (λs3 J3=>?_) (.inr hx);refine aw (hs e b s3 _ _ (M5 i D) J3.m9 (q p J.len)) (λf s4 g=>?_) λ_ _ z=>z.elim;have c:∀{a:St}{B:Hp}{Q:Unit->Ô->Prop},Inv (X.m9 e) b a B s4->(∀t,Inv X b (a.set i none) B t->Q () t)->Ø (Û X.prog X.w) X.A (do fL X.env n .none;NF X.env n M) Q X.xe s4:=λE k=>KN (E.S1 J.ok.hd) hN hi hx k;cases f with
  |next=>obtain⟨a,B,E,m⟩:=g;exact c E λt F=>⟨_,B,F,m⟩
  |brk=>obtain⟨a,B,E,m⟩:=g;exact c E λt F=>⟨_,B,F,m⟩
  |cont=>obtain⟨a,B,E,m⟩:=g;exact c E λt F=>⟨_,B,F,m⟩
  |ret u=>obtain⟨v,a,B,E,r,m⟩:=g;exact c E λt F=>⟨v,_,B,F,r,m⟩
end L2
namespace Mm
open PySem L2
def mT (T:Tx)(E:XK):gO:=λc _ _ H=>∀e,H e=none->c.fs=[]->E (.ref e) (À (T.cl c.cls)) (upd H e (MD (T.cl c.cls) e none))
structure Ls (T:Tx)(X:Cx)(XE:gO):Prop where
 ex:∃E,Lets X E/\∀c ρ s H,XE c ρ s H->mT T E c ρ s H
section
variable {T:Tx}{XE:gO}{X:Cx}{pos:jA}
def Sx:Ls T X FY:=⟨⟨E0,λ_ _ _ _ _ _ _ _ _ z=>z.elim,λ_ _ _ _ z=>z.elim⟩⟩
def z9:Ls T (k_ (pX P w) P w K mg base N a scope f b A outer s H E) (mT T E):=⟨⟨E,K0,λ_ _ _ _ z=>z⟩⟩
def HY:yS (Û P w) (A.deeper (aJ a scope s.heap.objs.size f b)) (aJ a scope s.heap.objs.size f b) (k_ (pX P w) P w K mg base N a scope f b A outer s H E).xe:=PassesOwn.leaving
def F2 (T:Tx)(n:Nat)(F:Â AV->S->R AV):Sp:=λc H Q E=>c.length=n/\∃b s a,SR T b s H/\Ĭ T b H a c/\Out T (mT T E) (rV T) b H (F a s) Q
def xx (F:Gg T.K x g st f p)(S:ij N ps (ď st))
  (q:∀b A outer s H E,cW k (A.deeper (aJ g (ď st) s.heap.objs.size f b))->lH (k_ (pX P w) P w T.K mg base N g (ď st) f b A outer s H E) (aL st) (tS T (mT T E) body)) :
  ie P w T.K mg base (pX P w) (k+1) f p ps (F2 T ps.length (dU N.length body)):=by
 obtain⟨M,O,kV,o,U,I,b,ct,t,rfl,r,m⟩:=F.ex;refine M3 r m S (λz H Q E h=>h.1) λA outer s H z Q E hr C=>?_;obtain⟨hl,ρ,i,d,n,y,a⟩:=C;refine⟨_,q b A outer s H E hr,ρ,_,i,n,zG N y,?_⟩;unfold dU at a;cases e:body (d.map À++è (N.length-d.length) none) i with
 |nx J l=>simp only[e]at a;exact λj B D u n L=>a j B .Ě u n (uK (T:=T) (ρ:=j) (H:=B))
 |rt v l=>simp only[e]at a;exact a
 |ex c l=>simp only[e]at a;exact a
 |bk v l=>simp only[e]at a;exact a.elim
 |ct v l=>simp only[e]at a;exact a.elim
 |bad=>simp only[e]at a;exact a.elim
def Out.xe (h:Out T XE b ρ H r Q)(k:∀c ρ s H,XE c ρ s H->A c ρ s H):Out T A b ρ H r Q:=by
 cases r with
 |ok v s=>exact h
 |ex c s=>exact λa B u d=>k _ _ _ _ (h a B u d)
 |bad=>exact h
def GD (k:∀c ρ s H,XE c ρ s H->mT T E c ρ s H)(h:tE T XE (ě n F r) p H Q):Nq (F2 T n F) [] E (tP T XE r) p H Q:=by
 obtain⟨ρ,g,s,m,j,l⟩:=h;refine step m j l λf o d A xs _ q e i a b=>?_;obtain⟨hl,b⟩:=b.ū;have a:Ĭ T d A f xs:=a;rw[ð];exact⟨by rw[<-a.length];exact hl,d,o,f,e,a,b.xe k⟩
structure jh (P:ą)(w:ħ)(T:Tx)(mg:Str->É Value)(base:Heap)(nm:Str)(n k:Nat)(Fn:Â AV->S->R AV):Prop where
 ex:∃f fd ps,ie P w T.K mg base (pX P w) k f fd ps (F2 T n Fn)/\Binds T.K fd ps []/\mg nm=À (.ref f)/\ĵ T.K (.ref f)=true
def SA (h:jh X.prog X.w T X.mg X.base x n k B)(hr:cW k X.A)(i:PA X (e::a) (tP T XE r)) (ls:Ls T X XE)(b:X.K=T.K:=by rfl)(o:Gl X x:=by rfl)(c:(x == ("__debug__":Str))=false:=by decide) (m:Î (e::a) X.env=(false,ģ e X.env)::Î a X.env:=by rfl) (d:(ĺ pos (Î a X.env)).any (·.1)=false:=by rfl) :
  PE X (.Call (.Name x p) (e::a) [] pos) (tE T XE (ě n B r)):=by
 obtain⟨f,t,u,G,j,s,q⟩:=h.ex;obtain⟨E,l,g⟩:=ls.ex;exact PE.imp (LI (E:=E) (by rw[b];exact G) hr o s (by rw[b];exact q) (by rw[b];exact j) .nil l.passes i c m d) λ_ _ _ h=>GD g h
noncomputable def yk (c:Nat)(r:gL):Ms:=λa s=>(r a s).bM λd b=>if d.length<=1000 then .ex ⟨c,[]⟩ b else .bad
def HF (x:iA T.K (T.cl c) nm bm none) (hk:ĵ T.K (.ref (T.cl c))=true) (y:X.mg m=À (.ref (T.cl c))) (ls:Ls T X XE)(u:PA X (a::as) (tP T XE r)) (n:X.K=T.K:=by rfl)(v:X.calm=true:=by rfl)(w:Gl X m:=by rfl)
  (h:(m == ("__debug__":Str))=false:=by decide) (i:Î (a::as) X.env=(false,ģ a X.env)::Î as X.env:=by rfl) (j:(ĺ f (Î as X.env)).any (·.1)=false:=by rfl) :
  PS X (.Raise (À (.Call (.Name m I) (a::as) [] f)) none pos) (tS T XE (yk c r)):=by
 obtain⟨E,l,t⟩:=ls.ex;refine PS.imp (Iv (E:=E) (by rw[n];exact x) (by rw[n];exact hk) w y v l u h i j) λD N H F=>jQ F λM p s C i B=>dZ C i B λo J g A xs _ L k q d b=>?_;have d:Ĭ T g A o xs:=d;by_cases hl:o.length<=1000
 ·rw[Ì hl]at b;refine⟨by rw[<-d.length,ā];lia,λe z=>t _ _ _ _ (b g A .refl k) e z rfl⟩
 ·rw[Ö hl]at b;exact b.elim
noncomputable def R9 (i:Nat):RS->RS
 |.nx e s=>.nx (e.set i none) s
 |.bk e s=>.bk (e.set i none) s
 |.ct e s=>.ct (e.set i none) s
 |.rt v s=>.rt v s
 |_=>.bad
def Cc (n i:Nat)(sub:Nat->Bool)(b h:Ms):Ms:=λa s=>match b a s with
 |.ex c d=>if sub c.cls=true then R9 i (h ((è n none).set i (À (.ref d.length))) (d++[.exc c.cls]))else .bad
 |r=>r
def ER.unset (h:ER T ρ H env b)(i:Nat):ER T ρ H (env.set i none) (b.set i none):=by
 refine⟨by simp[h.len],λj w e=>?_⟩;by_cases a:i=j
 ·subst a;rw[List.getElem?_set]at e;simp at e
 ·rw[ì a]at e⊢;exact h.get j w e
def DP (H:Hp)(e:Addr)(a b:HO):upd (upd H e a) e b=upd H e b:=by
 funext c;by_cases d:c=e
 ·subst d;rw[ă,ă]
 ·rw[ä d,ä d,ä d]
def Pk 
  (hN:X.N.Nodup) (xc:iA T.K CC nm bm E) (hm:X.mg xn=À (.ref CC)) (C:∀c,sub c=true->∃nm bm E,iA T.K (T.cl c) nm bm E/\(Ð (T.cl c)::bm).contains (.ref CC)=true)
  (hb:∀xe pn B,Ls T (X.m_ xe pn) B->lH (X.m_ xe pn) body (tS T B b)) (hs:∀e,lH (X.m9 e) (w::p) (tS T FY h)) (hK:X.K=T.K:=by rfl) (hg:Gl X xn:=by rfl)
  (hi:X.N[i]?=À n:=by rfl) (hx:X.env.scope.names.lookup n=À .local:=by rfl) (hn:X.N.length=N:=by rfl) (Y:X.stack=X.env::X.outer:=by rfl) (y:X.env.frame=À X.env.locals:=by rfl) (U:(xn == ("__debug__":Str))=false:=by decide) :
  PS X (.Try body [.ExceptHandler (À (.Name xn np)) (À n) (w::p) aab] [] [] pos) (tS T XE (Cc N i sub b h)):=by
 refine PS.imp (Iw (tb:=λL=>tS T (mT T L) b) hN (by rw[hK];exact xc) hm hg (λxe pn L l=>hb xe pn _ ⟨⟨L,l,λ_ _ _ _ z=>z⟩⟩) hs hi hx Y y U) λD σ H zz=>?_;obtain⟨ρ,x,s,sr,er,a⟩:=zz;refine⟨ρ,x,s,sr,er,?_⟩;unfold Cc at a;cases r:b x s with
 |nx e o=>simp only[r]at a;exact a
 |rt v o=>simp only[r]at a;exact a
 |bk e o=>simp only[r]at a;exact a
 |ct e o=>simp only[r]at a;exact a
 |bad=>simp only[r]at a;exact a
 |ex c o=>
  simp only[r]at a;intro q M u f e m hfs;by_cases Q:sub c.cls=true
  ·rw[Ì Q]at a;refine⟨e,T.cl c.cls,none,rfl,rfl,ă ..,by rw[hK];exact C _ Q,λUX hl=>?_⟩;rw[DP];have u2:Up ρ H (q++[e]) (upd M e (T8 (T.cl c.cls) e none)):=(u.trans (f.eT m)).add (u.live e m);have Z:SR T (q++[e]) (o++[.exc c.cls]) (upd M e (T8 (T.cl c.cls) e none)):=(f.new m).add (f.out m) (ă ..);have P:ER T (q++[e]) (upd M e (T8 (T.cl c.cls) e none)) ((è N none).set i (À (.ref o.length))) (UX.set i (À (.ref e))):=by
    refine ER.set ⟨by rw[D1,<-hn];exact hl.symm,λj v O=>?_⟩ (n7 ?_)
    ·rw[lr]at O;split at O<;>cases O
    ·rw[ñ (by rw[f.len];lia),f.len];simp
   refine⟨_,_,_,Z,P,?_⟩;have a:=fc.up u2 a;cases t:h ((è N none).set i (À (.ref o.length))) (o++[.exc c.cls])with
   |nx e1 J=>rw[t]at a;exact λk A I F g d=>a k A _ F g (d.unset i)
   |bk e1 J=>rw[t]at a;exact λk A I F g d=>a k A _ F g (d.unset i)
   |ct e1 J=>rw[t]at a;exact λk A I F g d=>a k A _ F g (d.unset i)
   |rt v J=>rw[t]at a;exact a
   |ex c2 J=>rw[t]at a;exact a.elim
   |bad=>rw[t]at a;exact a.elim
  ·rw[Ö Q]at a;exact a.elim
end
end Mm
namespace L2
open PySem PySem.Spec PySem.W PyProof.Rows
def Tj (K:Ç):Â V->Hp->VK->Prop:=λxs H Q=>∃(e C c:Addr) (a:Â Addr) (b:Bool),xs=[.ref e,.ref c]/\Uy H e C/\Ka K C/\H c=À (.tup (a.map V.ref))/\kitAny K (.ref C) (a.map Ð)=À b/\Q (.bl b) H
theorem wC:∀{a:Â Addr}{us:Â Value},Vals (a.map V.ref) us->us=a.map Ð
 |[],_,r=>by cases r;rfl
 |c::a,_,r=>by
  cases r with
  |cons b d=>
   cases (show _=Ð c from b);rw[wC d];rfl
def Ew:cQ X (.builtin "isinstance") (Tj X.K):=by
 rintro c s F H xs us Q I rv ⟨e,C,y,A,b,rfl,f,g,d,h,q⟩;obtain⟨t,m,J⟩:=f.inst I;obtain⟨u,D,rfl,v,w⟩:=vals2 rv;cases (show _=Ð e from v);cases (show _=Ð y from w);obtain⟨z,E,x,r,i,j,n,k⟩:=I.Ů _ _ d;obtain⟨l,o,a,p⟩:=r;cases (show l=_ from j);cases (show a=_ from k);cases wC x;exact PySem.W.kia_tup (zX g) I.kG ⟨t,m,J⟩ i h (λz=>nomatch z) λB=>⟨.bl b,H,I.tok _,rfl,q⟩
def tK (vs:Â V):TA:=λ_ H Q=>Q vs H
section
variable {X:Cx}{e:Expr}{es:Â Expr}{v:V}{vs:Â V}
def Dy:PA X [] (tK []):=λpos a s b H Q I h=>iM pos a s b H Q I h
def HZ (b:PE X e (tC v)) (c:PA X es (tK vs)) (hs:Î (e::es) X.env=(false,ģ e X.env)::Î es X.env:=by rfl):PA X (e::es) (tK (v::vs)):=λpos a s d H Q I h=>cu b c hs pos a s d H Q I h
end
end L2
namespace Mm
open PySem L2
section
variable {T:Tx}{XE:gO}{X:Cx}{pos:jA}
def Vz (v:V)(c:Value):Prop:=match v with|.ty n=>c=gK n|.ref a=>c=Ð a|_=>False
noncomputable def eS (a:Nat->É Bool)(v:AV)(s:S):R AV:=match v with
 |.ref i=>match s[i]? with
  |some (.exc c)=>need (a c) λb=>.ok (.bl b) s
  |_=>.bad
 |_=>.bad
def C_ (m:SR T ρ s H)(n:VR T ρ H v x)(d:Out T XE (rV T) ρ H (eS f v s) Q) :
  ∃e c b,x=.ref e/\H e=À (UT (T.cl c) e)/\f c=À b/\Out T XE (rV T) ρ H (.ok (.bl b) s) Q:=by
 unfold eS at d;split at d
 ·rename_i i;obtain⟨a,h,rfl⟩:=n.fx;split at d
  ·rename_i c k;obtain⟨b,j,d⟩:=d.ü;obtain⟨o,g,l⟩:=m.obj _ _ k;rw[h]at g;cases g;exact⟨a,c,b,rfl,l,j,d⟩
  ·exact d.elim
 ·exact d.elim
def OZ (F:PE X cl (tC v)) (l:Vz v c)(d:∀C b,h C=À b->Ka T.K (T.cl C)/\mO T.K (.ref (T.cl C)) c=À b) (B:X.mg "isinstance"=none)(z:PE X e (tE T XE m)) (o:X.K=T.K:=by rfl)(A:Gl X "isinstance":=by rfl)
  (g:Î [e,cl] X.env=(false,ģ e X.env)::Î [cl] X.env:=by rfl) (i:Î [cl] X.env=(false,ģ cl X.env)::Î [] X.env:=by rfl) (k:(ĺ pos (Î [cl] X.env)).any (·.1)=false:=by rfl) :
  PE X (.Call (.Name "isinstance" p) [e,cl] [] pos) (tE T XE (aI (eS h) m)):=
 PE.imp (gD GC A B Ro.boot_isinstance (cu z (cu F iM i) g) (by decide) (by decide) g k) λY H Q L=>ś L λU q s E g D=>
  step E g D λw O M N x _ P f r n j=>by
   obtain⟨a,C,b,rfl,t,u,y⟩:=C_ f n j;obtain⟨I,J⟩:=d C b u;exact⟨a,T.cl C,v,c,b,rfl,l,.inl t,by rw[o];exact I,by rw[o];exact J,y.Ł f eU⟩
def La {g:Â Addr}(F:PA X cls (tK (g.map V.ref))) (hl:g.length<=1000)(d:∀C b,i C=À b->Ka T.K (T.cl C)/\PySem.W.kitAny T.K (.ref (T.cl C)) (g.map Ð)=À b) (B:X.mg "isinstance"=none)(z:PE X e (tE T XE m)) (r:X.K=T.K:=by rfl)(A:Gl X "isinstance":=by rfl)
  (h:Î [e,.Tuple cls x1 f] X.env=(false,ģ e X.env)::Î [.Tuple cls x1 f] X.env:=by rfl) (j:Î [.Tuple cls x1 f] X.env=(false,ģ (.Tuple cls x1 f) X.env)::Î [] X.env:=by rfl) (n:(ĺ pos (Î [.Tuple cls x1 f] X.env)).any (·.1)=false:=by rfl) :
  PE X (.Call (.Name "isinstance" p) [e,.Tuple cls x1 f] [] pos) (tE T XE (aI (eS i) m)):=
 PE.imp (gD Ew A B Ro.boot_isinstance (cu z (cu (B4 F) iM j) h) (by decide) (by decide) h n) λZ H Q M=>ś M λY t s E h D=>
  step E h D λw P N O x _ U c u o l=>by
   obtain⟨a,C,b,rfl,q,v,y⟩:=C_ c o l;obtain⟨I,J⟩:=d C b v;refine⟨by rw[Ê,ā];lia,λL k=>⟨a,T.cl C,L,g,b,rfl,.inl ?_,by rw[r];exact I,ă ..,by rw[r];exact J,?_⟩⟩
   ·rw[ä (ń q k)];exact q
   ·exact(Out.up (c.eT k) y).Ł (c.new k) eU
end
open PySem.W
noncomputable def Xo:Â Str:=["RoyalError","BadFraction","Taken","NoName","TooMuch","NoRate","NoneLeft","Endless","BadRow"]
def iP (i:Nat):Str:=Xo.getD i ""
def QS (T:Tx)(i:Nat):Â Value:=if i=0 then sW else .ref (T.cl 0)::sW
structure Xs (T:Tx)(mg:Str->É Value):Prop where
 c:∀i,i<9->∃AZ,iA T.K (T.cl i) (iP i) (QS T i) AZ/\(i<7->AZ=none)
 is:∀i,i<9->Ka T.K (T.cl i)
 kp:∀i,i<9->ĵ T.K (.ref (T.cl i))=true
 gl:∀i,i<9->mg (iP i)=À (.ref (T.cl i))
def Jp:∀i,i<9->∀j,j<9->iP i=iP j->i=j:=by decide+kernel
def J' (x:iA K C n b i)(y:iA K C g h k):n=g:=by
 obtain⟨j,d,_,_,e⟩:=x.cls;obtain⟨c,a,_,_,f⟩:=y.cls;rw[d]at a;cases a;exact e.symm.trans f
section
variable {T:Tx}{XE:gO}{X:Cx}{pos:jA}{mg:Str->É Value}
def Xs.inj (x:Xs T mg)(d:i<9)(f:j<9)(e:T.cl i=T.cl j):i=j:=by
 obtain⟨_,a,_⟩:=x.c i d;obtain⟨_,b,_⟩:=x.c j f;rw[e]at a;exact Jp i d j f (J' a b)
def ĉ (i c:Nat):Bool:=c == i||i == 0
def Xs.has (x:Xs T mg){c i:Nat}(n:c<9)(k:i<9):(Ð (T.cl c)::QS T c).contains (.ref (T.cl i))=ĉ i c:=by
 have l:sW.contains (.ref (T.cl i))=false:=by simp[aH]
 have f:∀a b:Addr,(Ð a == Ð b)=decide (a=b):=λa b=>by
  by_cases h:a=b
  ·subst h;simp
  ·simp[h]
 unfold ĉ QS;rw[aH,f];by_cases h:c=i
 ·subst h;simp
 ·have j:T.cl i≠T.cl c:=λe=>h (x.inj n k e.symm);by_cases g:c=0
  ·subst g;have:¬i=0:=λe=>h e.symm;simp[j,l,h,this]
  ·rw[Ö g,aH,f,l];by_cases d:i=0
   ·subst d;simp
   ·have m:T.cl i≠T.cl 0:=λe=>d (x.inj k (by decide) e);simp[j,m,h,d]
theorem Xs.JR (x:Xs T mg){c i:Nat}(d:c<9)(e:i<9):Rv T.K (.ref (T.cl c)) (.ref (T.cl i))=À (ĉ i c):=by
 obtain⟨_,a,_⟩:=x.c c d;obtain⟨_,b,_⟩:=x.c i e;rw[a.JR _ (.inl ⟨_,_,_,_,rfl,b⟩),x.has d e]
theorem Xs.Sm (x:Xs T mg){c:Nat}(b:c<9):∀{a:Â Nat},(∀i∈a,i<9)->kitAny T.K (.ref (T.cl c)) ((a.map T.cl).map Ð)=À (a.any λi=>ĉ i c)
 |[],_=>rfl
 |i::a,h=>by
  show(match Rv T.K (.ref (T.cl c)) (.ref (T.cl i))with
   |some true=>À true
   |some false=>kitAny T.K (.ref (T.cl c)) ((a.map T.cl).map Ð)
   |none=>none)=_
  rw[x.JR b (h i (.head _)),a'];cases ĉ i c with
  |true=>rfl
  |false=>rw[AI];exact Xs.Sm x b λj d=>h j (.tail _ d)
def vg (i c:Nat):É Bool:=if c<9 then À (ĉ i c)else none
def zf (a:Â Nat)(c:Nat):É Bool:=if c<9 then À (a.any λi=>ĉ i c)else none
def SS (x:Xs T X.mg)(k:c<7)(ls:Ls T X XE)(j:PA X (a::as) (tP T XE r)) (i:X.K=T.K:=by rfl)(d:X.calm=true:=by rfl)(m:Gl X (iP c):=by rfl)
  (e:(iP c == ("__debug__":Str))=false:=by decide+kernel) (l:Î (a::as) X.env=(false,ģ a X.env)::Î as X.env:=by rfl) (f:(ĺ b (Î as X.env)).any (·.1)=false:=by rfl) :
  PS X (.Raise (À (.Call (.Name (iP c) o) (a::as) [] b)) none pos) (tS T XE (yk c r)):=by
 obtain⟨n,g,h⟩:=x.c c (by lia);cases h k;exact HF g (x.kp c (by lia)) (x.gl c (by lia)) ls j i d m e l f
def SU {body a:Â Stmt}{d:Stmt}{n:Str}{i f N:Nat}{b h:Ms}(x:Xs T X.mg)(g:f<9)(t:X.N.Nodup)
  (u:∀xe pn A,Ls T (X.m_ xe pn) A->lH (X.m_ xe pn) body (tS T A b)) (hs:∀e,lH (X.m9 e) (d::a) (tS T FY h)) (s:X.K=T.K:=by rfl) (v:Gl X (iP f):=by rfl)
  (w:X.N[i]?=À n:=by rfl) (z:X.env.scope.names.lookup n=À .local:=by rfl) (y:X.N.length=N:=by rfl) (m:X.stack=X.env::X.outer:=by rfl) (j:X.env.frame=À X.env.locals:=by rfl) (l:(iP f == ("__debug__":Str))=false:=by decide+kernel) :
  PS X (.Try body [.ExceptHandler (À (.Name (iP f) C)) (À n) (d::a) o] [] [] pos) (tS T XE (Cc N i (λc=>decide (c<9)&&ĉ f c) b h)):=by
 obtain⟨B,q,_⟩:=x.c f g;refine Pk t q (x.gl f g) (λc k=>?_) u hs s v w z y m j l;rw[Ĉ,decide_eq_true_iff]at k;obtain⟨p,r,_⟩:=x.c c k.1;exact⟨_,_,_,r,(x.has k.1 g).trans k.2⟩
def OY {i:Nat}{m:Ev}(x:Xs T X.mg)(l:i<9)(s:X.mg "isinstance"=none)(o:PE X e (tE T XE m)) (n:X.K=T.K:=by rfl)(r:Gl X "isinstance":=by rfl)(g:Gl X (iP i):=by rfl) (d:(iP i == ("__debug__":Str))=false:=by decide+kernel)
  (q:Î [e,.Name (iP i) a] X.env=(false,ģ e X.env)::Î [.Name (iP i) a] X.env:=by rfl) (f:Î [.Name (iP i) a] X.env=(false,ģ (.Name (iP i) a) X.env)::Î [] X.env:=by rfl) (j:(ĺ pos (Î [.Name (iP i) a] X.env)).any (·.1)=false:=by rfl) :
  PE X (.Call (.Name "isinstance" p) [e,.Name (iP i) a] [] pos) (tE T XE (aI (eS (vg i)) m)):=
 OZ (c:=.ref (T.cl i)) (x_ (v:=.ref (T.cl i)) g (x.gl i l) rfl d) rfl (λC b h=>by
  unfold vg at h;split at h
  ·rename_i k;cases h;exact⟨x.is C k,x.JR k l⟩
  ·cases h) s o n r q f j
def Dw (x:Xs T X.mg)(d:i<9)(h:PA X a (tK ((e.map T.cl).map V.ref))) (c:Gl X (iP i):=by rfl) (b:(iP i == ("__debug__":Str))=false:=by decide+kernel) (hs:Î (.Name (iP i) p::a) X.env=(false,ģ (.Name (iP i) p) X.env)::Î a X.env:=by rfl) :
  PA X (.Name (iP i) p::a) (tK (((i::e).map T.cl).map V.ref)):=HZ (x_ (v:=.ref (T.cl i)) c (x.gl i d) rfl b) h hs
def K' {c:Â Nat}{cls:Â Expr}{x1:Nat}{m:Ev}(x:Xs T X.mg)(q:c.all (· < 9)=true) (hl:c.length<=1000)(r:X.mg "isinstance"=none)(s:PA X cls (tK ((c.map T.cl).map V.ref))) (l:PE X e (tE T XE m)) (k:X.K=T.K:=by rfl)(o:Gl X "isinstance":=by rfl)
  (n:Î [e,.Tuple cls x1 a] X.env=(false,ģ e X.env)::Î [.Tuple cls x1 a] X.env:=by rfl) (d:Î [.Tuple cls x1 a] X.env=(false,ģ (.Tuple cls x1 a) X.env)::Î [] X.env:=by rfl) (g:(ĺ pos (Î [.Tuple cls x1 a] X.env)).any (·.1)=false:=by rfl) :
  PE X (.Call (.Name "isinstance" p) [e,.Tuple cls x1 a] [] pos) (tE T XE (aI (eS (zf c)) m)):=
 La s (by rw[Ê];exact hl) (λC b h=>by
  unfold zf at h;split at h
  ·rename_i j;cases h;exact⟨x.is C j,x.Sm j λi f=>ō (Đ.mp q i f)⟩
  ·cases h) r l k o n d g
end
end Mm
namespace Ro
open PySem L2 Mm
section
variable {P:ą}{w:ħ}{T:Tx}{mg:Str->É Value}{base:Heap}
def cL (N:Â Str)(D:Df T mg x st)(S:ij N (N.take n) (ď st))
  (e:∀kV b i c a ct us,us.length=(N.take n).length->jf (Ņ x x (cj st) (aL st) (ď st) .none kV b i c a ct) ⟨us,[]⟩=pure ((N.take n).zip us)) (g:(N.take n).length=n)
  (h:∀f a A outer s H E,cW k (A.deeper (aJ x (ď st) s.heap.objs.size f a))->N.Nodup->Ls T (k_ (pX P w) P w T.K mg base N x (ď st) f a A outer s H E) (mT T E)->lH (k_ (pX P w) P w T.K mg base N x (ď st) f a A outer s H E) (aL st) (tS T (mT T E) body)) :
  jh P w T mg base x n (k+1) (dU N.length body):=by
 obtain⟨f,d,F,m⟩:=D.ex;have:=xx F S λa A outer s H E hr=>h f a A outer s H E hr S.nd z9;rw[g]at this;exact⟨f,d,_,this,F.binds e,m,F.kp⟩
def EM (hl:ps.length=n):ie P w T.K mg base (pX P w) k f e ps (F2 T n λ_ _=>.bad):=
 ⟨λd H Q E h=>h.1.trans hl.symm,λA b s H c us d Q E _ _ _ _ h=>by obtain⟨_,g,st,a,_,_,z⟩:=h;exact z.elim⟩
def KC (ps:Â Str)(D:Df T mg x st)(hl:ps.length=n)
  (e:∀kV b g c a ct us,us.length=ps.length->jf (Ņ x x (cj st) (aL st) (ď st) .none kV b g c a ct) ⟨us,[]⟩=pure (ps.zip us)):jh P w T mg base x n k λ_ _=>.bad:=by
 obtain⟨f,d,F,m⟩:=D.ex;exact⟨f,d,ps,EM hl,F.binds e,m,F.kp⟩
end
end Ro
namespace Mm
open PySem L2
noncomputable def wm (f:Str)(v:AV):Â (Str×AV)->Â (Str×AV)
 |[]=>[(f,v)]
 |(g,x)::r=>if g=f then (g,v)::r else (g,x)::wm f v r
section
variable {T:Tx}{XE:gO}{X:Cx}{pos:jA}
def qQ (T:Tx)(ρ:Â Addr)(H:Hp)(fs:Â (Str×AV)) (ks:Â (Str×V)):Prop:=fs.map (·.1)=ks.map (·.1)/\Ĭ T ρ H (fs.map (·.2)) (ks.map (·.2))
theorem qQ.nil:qQ T ρ H [] []:=⟨rfl,.nil⟩
def qQ.nil_inv (h:qQ T ρ H [] ks):ks=[]:=by
 have:=h.1;cases ks with
 |nil=>rfl
 |cons a r=>simp at this
theorem qQ.cons_inv (h:qQ T ρ H ((g,v)::fs) ks):∃x r,ks=(g,x)::r/\VR T ρ H v x/\qQ T ρ H fs r:=by
 obtain⟨b,c⟩:=h;cases ks with
 |nil=>simp at b
 |cons a r=>
  obtain⟨i,x⟩:=a;simp only[Õ,aO]at b;obtain⟨y,j,e,d,f⟩:=Ĭ.cons_inv (show Ĭ T ρ H (v::fs.map (·.2)) (x::r.map (·.2))from c);cases e;obtain⟨rfl,b⟩:=b;exact⟨x,r,rfl,d,b,f⟩
theorem qQ.cons {ρ:Â Addr}{H:Hp}{g:Str}{v:AV}{x:V}{fs:Â (Str×AV)}{ks:Â (Str×V)}(h:VR T ρ H v x)(k:qQ T ρ H fs ks):qQ T ρ H ((g,v)::fs) ((g,x)::ks):=
 ⟨by simp[k.1],.cons h k.2⟩
theorem qQ.get:∀{fs:Â (Str×AV)}{ks:Â (Str×V)},qQ T ρ H fs ks->fs.lookup f=À v->∃x,ks.lookup f=À x/\VR T ρ H v x
 |[],_,_,e=>by cases e
 |(g,w)::fs,ks,h,e=>by
  obtain⟨x,r,rfl,a,b⟩:=h.cons_inv;rw[ĝ]at e⊢;by_cases q:(f == g)=true
  ·rw[q]at e⊢;cases e;exact⟨x,rfl,a⟩
  ·rw[JT.mpr q]at e⊢;exact qQ.get b e
theorem qQ.Ě:∀{fs:Â (Str×AV)}{ks:Â (Str×V)},qQ T ρ H fs ks->fs.lookup f=none->ks.lookup f=none
 |[],_,h,_=>by rw[h.nil_inv];rfl
 |(g,w)::fs,ks,h,e=>by
  obtain⟨x,r,rfl,b,a⟩:=h.cons_inv;rw[ĝ]at e⊢;by_cases q:(f == g)=true
  ·rw[q]at e;cases e
  ·rw[JT.mpr q]at e⊢;exact qQ.Ě a e
theorem qQ.put (k:VR T ρ H v x):∀{fs:Â (Str×AV)}{ks:Â (Str×V)},qQ T ρ H fs ks->qQ T ρ H (wm f v fs) (ko f x ks)
 |[],_,h=>by rw[h.nil_inv];exact .cons k .nil
 |(g,w)::fs,ks,h=>by
  obtain⟨y,r,rfl,b,a⟩:=h.cons_inv;unfold wm ko;by_cases q:g=f
  ·rw[Ì q,Ì q];exact .cons k a
  ·rw[Ö q,Ö q];exact .cons b (qQ.put k a)
theorem qQ.gr (u:Gr ρ H a H')(h:qQ T ρ H fs ks):qQ T a H' fs ks:=⟨h.1,h.2.gr u⟩
theorem qQ.length (h:qQ T ρ H fs ks):fs.length=ks.length:=by
 have:=à cK h.1;simpa using this
def SR.Hc (m:SR T ρ s H)(e:s[i]?=À (.ins c fs)) (h:VR T ρ H (.ref i) x):∃a d ks,x=.ref a/\ρ[i]?=À a/\H a=À (.ins (T.cl c) d ks)/\qQ T ρ H fs ks:=by
 obtain⟨a,f,rfl⟩:=h.fx;obtain⟨b,g,d,ks,j,k,l⟩:=m.obj i _ e;rw[f]at g;cases g;exact⟨a,d,ks,rfl,f,j,k,l⟩
noncomputable def qd (c:Nat)(v:AV)(s:S):É (Nat×Â (Str×AV)):=match v with
 |.ref i=>match s[i]? with
  |some (.ins a b)=>if a=c then À (i,b)else none
  |_=>none
 |_=>none
def tV (h:qd c v s=À (i,fs)):v=.ref i/\s[i]?=À (.ins c fs):=by
 unfold qd at h;split at h
 ·rename_i j;split at h
  ·rename_i b a e;split at h
   ·rename_i q;cases h;exact⟨rfl,by rw[e,q]⟩
   ·cases h
  ·cases h
 ·cases h
def œ (c:Nat)(f:Str)(v:AV)(s:S):R AV:=need (qd c v s) λp=>need (p.2.lookup f) λw=>.ok w s
def OV (cl:zb T.K (T.cl c)) (na:ji T.K (T.cl c) f) (d:PE X e (tE T XE m)) (n:X.K=T.K:=by rfl)(D:bG e f X.env (ģ e X.env)=ģ e X.env:=by rfl):PE X (.Attribute e f pos) (tE T XE (aI (œ c f) m)):=
 PE.imp (PX d D) λY H Q J=>ś J λU z s F d E=>step F d E λv O L M x _ P b A l g=>by
  obtain⟨p,q,h⟩:=g.ü;obtain⟨w,r,j⟩:=h.ü;obtain⟨i,N⟩:=p;obtain⟨rfl,t⟩:=tV q;obtain⟨a,o,I,rfl,_,B,C⟩:=b.Hc t l;obtain⟨y,u,k⟩:=C.get r;exact⟨a,T.cl c,o,I,y,rfl,B,n▸cl,n▸na,u,j.Ł b k⟩
def iN (c:Nat)(f:Str)(d mv:Ev):Ms:=λa s=>(mv a s).bM λy e=>(d a e).bM λx b=>match qd c x b with
 |some p=>if p.2.length<1000 then .nx a (b.set p.1 (.ins c (wm f y p.2)))else .bad
 |none=>.bad
def Pe {I mv:Ev}(cl:zb T.K (T.cl c)) (na:ji T.K (T.cl c) f) (Q:PE X o (tE T XE I)) (U:PE X b (tE T XE mv)) (E:X.K=T.K:=by rfl)(hs:fb b (À (.Attribute o f m)) pos.line X.env=pure false:=by rfl) :
  PS X (.Assign [.Attribute o f m] b pos) (tS T XE (iN c f I mv)):=
 PS.imp (Qb Q U hs) λD σ H ⟨ρ,M,s,Z,N,h⟩=>dZ Z N h λy s1 Rf H1 J _ u1 u r l P=>dZ u r P λx Y d A x' _ u2 j t v g=>by
  have l:VR T d A y J:=VR.up u2 l;cases e:qd c x Y with
  |none=>simp only[e]at g;exact g.elim
  |some p=>
   simp only[e]at g;obtain⟨i,O⟩:=p;obtain⟨rfl,L⟩:=tV e;obtain⟨a,q,F,rfl,w,B,C⟩:=j.Hc L v;by_cases hl:O.length<1000
   ·rw[Ì hl]at g;have n:Up d A d (upd A a (.ins (T.cl c) q (ko f J F))):=j.uJ w B (λ_ z=>nomatch z) (λ_ _ z=>nomatch z);refine⟨a,T.cl c,q,F,rfl,B,E▸cl,E▸na,by rw[<-C.length];exact hl,g d _ σ n (j.set w n ?_) (t.up n)⟩;have k:=(C.put (f:=f) l).gr n.toGr;exact⟨q,_,ă ..,k.1,k.2⟩
   ·rw[Ö hl]at g;exact g.elim
def ē (c:Nat)(m:Str)(n:Nat)(F:Â AV->S->R AV)(e:Ev)(r:gL):Ev:=λa s=>(e a s).bind λx b=>need (qd c x b) λp=>if p.2.lookup m=none then (r a b).bind λd f=>if d.length=n then F (x::d) f else .bad else .bad
structure fF (P:ą)(w:ħ)(T:Tx)(mg:Str->É Value)(base:Heap)(c:Nat)(m:Str)(n k:Nat)(Fn:Â AV->S->R AV):Prop where
 ex:∃f fd ps,ie P w T.K mg base (pX P w) k f fd ps (F2 T (n+1) Fn)/\Binds T.K fd ps []/\Meth T.K (T.cl c) m f
def Dm (k:∀c ρ s H,XE c ρ s H->mT T E c ρ s H)(h:tE T XE (ē c m n F U r) σ H Q):IU (T.cl c) m (F2 T (n+1) F) [] E (tE T XE U) (tP T XE r) σ H Q:=by
 obtain⟨ρ,D,s,O,M,N⟩:=h;refine step O M N λx s1 w A x' _ u1 g l b e=>?_;obtain⟨p,z,f⟩:=e.ü;obtain⟨o,q⟩:=f.ū;clear e f;obtain⟨i,fs⟩:=p;obtain⟨rfl,C⟩:=tV z;have b:VR T w A (.ref i) x':=b;obtain⟨a,y,P,rfl,ea,J,L⟩:=g.Hc C b;refine⟨a,y,P,rfl,J,L.Ě o,?_⟩;refine step g l q λvs Y j B xs _ Z v I d t=>?_;obtain⟨hl,u⟩:=t.ū;have d:Ĭ T j B vs xs:=d;rw[ð];exact⟨by simp[<-d.length,hl],j,Y,_,v,.cons (b.up Z) d,u.xe k⟩
def Ld (cl:zb T.K (T.cl c)) (h:fF X.prog X.w T X.mg X.base c m n k B)(hr:cW k X.A)(u:PE X o (tE T XE x)) (q:PA X (e::b) (tP T XE r)) (ls:Ls T X XE)(d:X.K=T.K:=by rfl)
  (i:Î (e::b) X.env=(false,ģ e X.env)::Î b X.env:=by rfl) (g:(ĺ pos (Î b X.env)).any (·.1)=false:=by rfl)
  (v:ģ (.Call (.Attribute o m a) (e::b) [] pos) X.env=(do
   let j <-ģ o X.env
   j6 a.atName
   let (f,first) <-e_ [j] (nC j m pl)
   wM pos f first (ĺ pos (Î (e::b) X.env)) (h_ pos (cc [] X.env))):=by rfl) :
  PE X (.Call (.Attribute o m a) (e::b) [] pos) (tE T XE (ē c m n B x r)):=by
 obtain⟨f,y,z,G,s,t⟩:=h.ex;obtain⟨E,l,p⟩:=ls.ex;exact PE.imp (LN (E:=E) (pl:=pl) u (d▸cl) (d▸t) (by rw[d];exact G) hr (by rw[d];exact s) .nil l.passes q i g v) λ_ _ _ h=>Dm p h
def Hy (cl:zb T.K (T.cl c)) (h:fF X.prog X.w T X.mg X.base c m 0 k C)(hr:cW k X.A)(i:PE X o (tE T XE M)) (ls:Ls T X XE)(e:X.K=T.K:=by rfl)
  (I:ģ (.Call (.Attribute o m b) [] [] pos) X.env=(do
   let n <-ģ o X.env
   j6 b.atName
   let (f,first) <-e_ [n] (nC n m pl)
   wM pos f first (ĺ pos (Î [] X.env)) (h_ pos (cc [] X.env))):=by rfl) :
  PE X (.Call (.Attribute o m b) [] [] pos) (tE T XE (ē c m 0 C M Ë)):=by
 obtain⟨f,N,P,G,y,D⟩:=h.ex;obtain⟨E,l,v⟩:=ls.ex;refine PE.imp (Ig (E:=E) (pl:=pl) i (e▸cl) (e▸D) (by rw[e];exact G) hr (by rw[e];exact y) .nil l.passes I) λY H Q h=>?_;obtain⟨ρ,g,s,F,z,i⟩:=Dm v h;refine⟨ρ,g,s,F,z,i.imp λx B ⟨a,p,u,q,r,t,d,j,U,J,O,L⟩=>⟨a,p,u,q,r,t,?_⟩⟩;exact L d B [] .refl J (Ĭ.nil (T:=T) (ρ:=d) (H:=B))
noncomputable def qk (c:Nat)(F:Â AV->S->R AV):Ev:=λ_ s=>(F [.ref s.length] (s++[.ins c []])).bind λv a=>match v with
 |.Ě=>.ok (.ref s.length) a
 |_=>.bad
structure Rz (P:ą)(w:ħ)(T:Tx)(mg:Str->É Value)(base:Heap)(c:Nat)(nm:Str)(k:Nat)(Fn:Â AV->S->R AV):Prop where
 ex:∃f fd ps,ie P w T.K mg base (pX P w) k f fd ps (F2 T 1 Fn)/\Binds T.K fd ps []/\Mk T.K (T.cl c) f/\mg nm=À (.ref (T.cl c))
def Hx (h:Rz X.prog X.w T X.mg X.base c x k C)(hr:cW (k+1) X.A) (ls:Ls T X XE)(o:X.K=T.K:=by rfl)(L:Gl X x:=by rfl)(q:(x == ("__debug__":Str))=false:=by decide):PE X (.Call (.Name x p) [] [] pos) (tE T XE (qk c C)):=by
 obtain⟨f,fd,ps,G,J,M,N⟩:=h.ex;obtain⟨E,l,I⟩:=ls.ex;refine PE.imp (Ie (E:=E) (o▸M) (by rw[o];exact G) hr L N (by rw[o];exact J) .nil l.passes q) λσ H Q Z=>ś Z λj F s m he b=>?_;intro a d D hd r;have i:upd H d (.own a) a=none:=by rw[ä (ő r)];exact D
 have P:Up j H j (upd (upd H d (.own a)) a (.ins (T.cl c) d [])):=(m.eT hd).trans ((m.new hd).eT i);have U:Up j H (j++[a]) (upd (upd H d (.own a)) a (.ins (T.cl c) d [])):=P.add D;have y:SR T (j++[a]) (s++[.ins c []]) (upd (upd H d (.own a)) a (.ins (T.cl c) d [])):=((m.new hd).new i).add ((m.new hd).out i) ⟨d,[],ă ..,rfl,.nil⟩;have n:VR T (j++[a]) (upd (upd H d (.own a)) a (.ins (T.cl c) d [])) (.ref s.length) (.ref a):=n7 (by rw[ñ (by rw[m.len];lia),m.len];simp);refine⟨rfl,j++[a],s++[.ins c []],[.ref s.length],y,.one n,?_⟩;have b:=Out.up U b;unfold qk at b;cases e:C [.ref s.length] (s++[.ins c []])with
 |bad=>rw[e]at b;exact b.elim
 |ex c' O=>rw[e]at b;exact λg B u t=>I _ _ _ _ (b g B u t)
 |ok v O=>
  rw[e]at b;intro g B Y u t z;rw[â]at b;have z:VR T g B v Y:=z;cases v with
  |Ě=>exact⟨z.il,b g B (.ref a) u t (n.up u)⟩
  |_=>exact b.elim
end
end Mm
namespace Ro
open PySem L2 Mm
structure f_ (T:Tx)(c:Nat)(m qual:Str)(st:Stmt):Prop where
 ex:∃f fd,Gg T.K m qual st f fd/\Meth T.K (T.cl c) m f
structure Uw (T:Tx)(mg:Str->É Value)(c:Nat)(nm qual:Str)(st:Stmt):Prop where
 ex:∃f fd,Gg T.K "__init__" qual st f fd/\Mk T.K (T.cl c) f/\mg nm=À (.ref (T.cl c))
structure Bk (T:Tx)(c:Nat)(fs:Â Str):Prop where
 cl:zb T.K (T.cl c)
 na:∀f∈fs,ji T.K (T.cl c) f
section
variable {P:ą}{w:ħ}{T:Tx}{mg:Str->É Value}{base:Heap}
def aD (N:Â Str)(D:f_ T c m b st)(S:ij N (N.take (n+1)) (ď st))
  (i:∀kV d l e a ct us,us.length=(N.take (n+1)).length->jf (Ņ m b (cj st) (aL st) (ď st) .none kV d l e a ct) ⟨us,[]⟩=pure ((N.take (n+1)).zip us)) (j:(N.take (n+1)).length=n+1)
  (h:∀f a A outer s H E,cW k (A.deeper (aJ b (ď st) s.heap.objs.size f a))->N.Nodup->Ls T (k_ (pX P w) P w T.K mg base N b (ď st) f a A outer s H E) (mT T E)->lH (k_ (pX P w) P w T.K mg base N b (ď st) f a A outer s H E) (aL st) (tS T (mT T E) body)) :
  fF P w T mg base c m n (k+1) (dU N.length body):=by
 obtain⟨f,g,F,M⟩:=D.ex;have:=xx F S λa A outer s H E hr=>h f a A outer s H E hr S.nd z9;rw[j]at this;exact⟨f,g,_,this,F.binds i,M⟩
def Oa (N:Â Str)(D:Uw T mg c nm b st)(S:ij N (N.take 1) (ď st))
  (i:∀kV d m e a ct us,us.length=(N.take 1).length->jf (Ņ "__init__" b (cj st) (aL st) (ď st) .none kV d m e a ct) ⟨us,[]⟩=pure ((N.take 1).zip us)) (l:(N.take 1).length=1)
  (h:∀f a A outer s H E,cW k (A.deeper (aJ b (ď st) s.heap.objs.size f a))->N.Nodup->Ls T (k_ (pX P w) P w T.K mg base N b (ď st) f a A outer s H E) (mT T E)->lH (k_ (pX P w) P w T.K mg base N b (ď st) f a A outer s H E) (aL st) (tS T (mT T E) body)) :
  Rz P w T mg base c nm (k+1) (dU N.length body):=by
 obtain⟨f,g,F,M,j⟩:=D.ex;have:=xx F S λa A outer s H E hr=>h f a A outer s H E hr S.nd z9;rw[l]at this;exact⟨f,g,_,this,F.binds i,M,j⟩
end
end Ro
namespace Mm
open PySem L2
section
variable {T:Tx}{XE:gO}{X:Cx}{pos:jA}
def T4:Â AV->É (Â Str)
 |[]=>À []
 |.str x::r=>(T4 r).map (x::·)
 |_=>none
def VM (m:Ev):gL:=λa s=>(m a s).bind λv b=>match v with
 |.ref i=>need (ö b i) λl=>need (T4 l) λc=>if c.length<64 then .ok ((ŀ c).map .str) b else .bad
 |_=>.bad
def Pz (a y:AV)(s:S):R AV:=match a with
 |.ref i=>need (lA s i) λb=>need (hI y) λk=>.ok ((bE b k).getD .Ě) s
 |_=>.bad
def z_ (d y:Ev):Ev:=λc s=>(d c s).bind λa e=>need (jL "dict" a e) λ_=>(y c e).bind λb f=>Pz a b f
def K8 (hu:X.A.units+1<cLine)(B:PE X o (tE T XE m)) (z:PE X e (tE T XE n)) (q:M1 X o "get" j e l:=by exact⟨rfl,rfl,rfl,rfl⟩):PE X (.Call (.Attribute o "get" j) [e] [] l) (tE T XE (z_ m n)):=
 PE.imp (H_ hu B z q) λσ H Q zz=>ś zz λρ U s hs z B=>step hs z B λd s1 Rf H1 x _ u1 r u f g=>by
  obtain⟨_,M,g⟩:=g.ü;obtain⟨a,rfl,hd⟩:=Ou M r f;refine⟨a,rfl,hd,step r u g λw s2 F L y _ u2 h Y E p=>?_⟩;have f:VR T F L d (.ref a):=VR.up u2 f;cases d with
  |ref i=>
   obtain⟨D,N,C⟩:=p.ü;obtain⟨k,O,c⟩:=C.ü;obtain⟨b,ks,P,ea,h1,I,J⟩:=h.Ez (mq N) f;cases P;refine⟨iO ks k,by rw[jN O E];exact jE.k h1,?_⟩;cases t:bE D k with
   |none=>rw[(fA k I J).2 t];rw[t]at c;exact c.Ł h uK
   |some v=>obtain⟨x',Z,kx⟩:=(fA k I J).1 v t;rw[Z];rw[t]at c;exact c.Ł h kx
  |_=>exact p.elim
end
end Mm
namespace L2
open PySem PySem.Spec PyProof.Rows
abbrev Ap (x:Str)(p:jA):Arguments:={posonlyargs:=[],args:=[{arg:=x,annotation:=none,pos:=p}],vararg:=none,kwonlyargs:=[],kw_defaults:=[],kwarg:=none,defaults:=[]}
abbrev Er (x:Str)(p1 p2 p3:jA):Expr:=.Subscript (.Name x p1) (.Constant (.int 1) 0 p2) p3
abbrev Az (x:Str):Scope:={kind:=.function,names:=[(x,.local)],isGenerator:=false,isCoroutine:=false,more:=[]}
def RA (h:Heap)(f:Addr)(q:Str)(a:Arguments)(body:Expr)(scope:Scope):Prop:=∃d c b,h.get? f=À {cls:=.type "function",data:=.func (mQ "<lambda>" q a body scope [] d c b)}/\h.CodeRec c q
section
variable {prog:ą}{w:ħ}{A:Ŕ}{E:Value->Ô->Prop}{s:Ô}
def Hk {Q:Value->Ô->Prop}(C:RA s.heap f q (Ap x J) (Er x p1 L M) (Az x)) (m:s.heap.NoLimit)(d:A.depth<recursionLimit)(F:(x == ("__debug__":Str))=false) (D:Jx s.heap t its)(k:its[1]?=À v)
  (B:∀u p g,jf (mQ "<lambda>" q (Ap x J) (Er x p1 L M) (Az x) [] u p g) ⟨[.ref t],[]⟩=pure [(x,.ref t)])
  (y:∀h' N,(∀b o,s.heap.get? b=À o->h'.get? b=À o)->Q v {s with heap:=h',toks:=N}):Ø (Û prog w) A (call (.ref f) [.ref t]) Q E s:=by
 obtain⟨u,p,g,e,l⟩:=C;refine vd (PySem.W.kla_callFunE d e rfl rfl rfl rfl l ?_);rw[B];refine È (wpAny_newFunctionEnv (by simp) (by simp) (λc n h=>⟨m.fresh _ h,?_⟩) rfl);have a:∀b o,s.heap.get? b=À o->c.get? b=À o:=λb o e=>h.extBut b o (ï (Ï e)) (Ä _ e);obtain⟨o,H,I⟩:=D;have i:Jx c t its:=⟨o,a _ _ H,I⟩
 have O:1<its.size:=by
  rcases Nat.lt_or_ge 1 its.size with z|z
  ·exact z
  ·rw[fK z]at k;cases k
 refine PySem.W.kla_codeExpr (Ec (Ep (rx rfl ?_ n (v:=.ref t) ?_ ?_) F))
 ·simp[Env.kindOf,Y2]
 ·simp
 ·refine Ry ?_;exact oy (x:=v) i.typeIs Rw.lookup
   (getItem_tuple (j:=1) (Q:=λr s'=>r=v/\Q r s') i (by decide) (by decide) (by simp[y9];lia) k ⟨rfl,y _ _ a⟩) rfl
end
open Mm
def Cq {pos:jA}{i:Obj}(h:vE H q ps)(k:∀b o u,H b=À (.hY o u)->H' b=À (.hY o u))
  (m:H' c=À (.hY i u)) (hd:i.data=.fields vs) (n:vs[1]?=À (.str q t)):vE H' q (ps++#[Ŷ pos.line,Ŷ pos.col,.ref c]):=by
 have e:(ps++#[Ŷ pos.line,Ŷ pos.col,.ref c]).toList=ps.toList++[Ŷ pos.line,Ŷ pos.col,.ref c]:=by simp
 refine⟨by rw[e];exact TriplesOk_snoc _ _ _ _ h.1,λp f z=>?_⟩;rw[e]at z;have g:∀l:Â Value,Vi l->y4 p (l++[Ŷ pos.line,Ŷ pos.col,.ref c])=À f->y4 p l=À f∨f=.ref c:=by
  intro l hl
  fun_induction Vi l with
  |case1=>
   intro z;have z:(if (((pos.line:Int) == p.line)&&((pos.col:Int) == p.col))=true then À (Ð c)else none)=À f:=z;split at z
   ·cases z;exact .inr rfl
   ·cases z
  |case2 a b C d D r s=>
   intro z;simp only[cy,y4]at z⊢;split at z
   ·rename_i q;rw[Ì q];exact .inl z
   ·rename_i q;rw[Ö q];exact s hl z
  |case3=>exact hl.elim
 rcases g _ h.1 z with z|rfl
 ·obtain⟨j,y,A,B,t1,v,w,x⟩:=h.2 p f z;exact⟨j,y,A,B,t1,v,k _ _ _ w,x⟩
 ·exact⟨c,i,u,vs,t,rfl,m,hd,n⟩
section
variable {X:Cx}{pos:jA}
structure Gh (H H':Hp)(P:Addr)(q:Str):Prop where
 keep:∀b o,H b=À o->b≠P->H' b=À o
 live:∀b,H' b=none->H b=none
 tab:∃ps,H' P=À (.pH ps)/\vE H' q ps
def Xd (P:Addr)(q:Str):St->Hp->(Addr->Hp->Prop)->Prop:=λ_ H Q=>(∃a,H P=À (.pH a)/\vE H q a)/\∀A f,Gh H A P q->A f=none->Q f A
def OG 
  (l:X.env.code=.ref c) (hC:ų X.K c P=true) (hq:X.env.qual++"<lambda>"=q) (Z:ov scope X.env=pure []) (VU:Ru i X.env=([],[]))
  (I:Inv X ø σ H s) (h:Xd P q σ H Q) :
  Ø (Û X.prog X.w) X.A (ģ (.Lambda i body scope m) X.env) (λv s'=>∃f H',v=.ref f/\Inv X ø σ H' s'/\RA s'.heap f q i body scope/\Q f H') X.xe s:=by
 obtain⟨⟨y,x,hT⟩,hQ⟩:=h;have k:s.heap.get? P=À (dh y):=I.Ů P _ x;have E:s.heap.Ns mainGlobals X.mg:=I.mod.glob.keeps I.bk;obtain⟨bm,ob,b1,b2,b3,b4,b5,b6⟩:=I.mod.bmain;have hgP:mainGlobals≠P:=λz=>by
  obtain⟨o,es,ep,e,hd,_⟩:=E;rw[z,k]at e;cases e;cases hd
 have hbP:bm≠P:=λz=>by
  have e:=I.bk _ _ b3;rw[z,k]at e;cases e;cases b4
 have hbG:bm≠mainGlobals:=λz=>by
  obtain⟨o,es,ep,e,hd,_⟩:=I.mod.glob;rw[z,e]at b3;cases b3;rw[hd]at b6;cases b6
 have hB:s.heap.BuiltinsAt X.mg P:=⟨bm,ob,b1,b2,hbG,hbP,I.bk _ _ b3,b4,b5,b6⟩
 have C:PySem.W.CodeHd s.heap c P:=CH I.kG hC;refine PySem.W.kla_eval VU ?_;cases hf:y4 m y.toList with
 |some cv=>
  refine PySem.W.kla_makeFunctionHit (mg:=X.mg) Z I.ok.glob E l C k hT.1 hf hB λO p tk hk r=>?_;obtain⟨c1,M,u,vs,t,rfl,L,k3,k4⟩:=hT.2 m cv hf;have Z6:s.heap.CodeRec (.ref c1) q:=⟨c1,M,vs,t,rfl,(I.Ů c1 _ L).1,k3,k4⟩
  have UJ:∀(o:Obj) b u,s.heap.get? b=À u->(p.push o).get? b=À u:=λo b u e=>Ä _ (hk b u e);exact⟨p.objs.size,H,rfl,I.kept (UJ _),⟨_,_,_,by rw[<-hq];exact Ò _ rfl,Z6.keeps (UJ _)⟩,hQ H _ ⟨λ_ _ e _=>e,λ_ e=>e,y,x,hT⟩ (I.Ů.fresh r)⟩
 |none=>
  refine PySem.W.kla_makeFunction (mg:=X.mg) Z I.ok.glob E l C k hT.1 hf hgP hB λa O p tk hx D F VX Ys=>?_;obtain⟨c₂,M,vs,t,e2,J,hd,hv⟩:=VX;cases e2;rw[hq]at hv;have r:s.heap.objs.size<=p.objs.size:=Ħ (bz D F);have nc:H a=none:=I.Ů.fresh D;have ncP:a≠P:=λz=>by rw[z,x]at nc;cases nc
  let B:Hp:=upd (upd H a (.hY M (.own a))) P (.pH (y++#[Ŷ m.line,Ŷ m.col,.ref a]));have L:∀b o,H b=À o->b≠P->B b=À o:=λb o e n=>by
   show upd _ _ _ b=_;rw[ä n,ä (ń e nc)];exact e
  have nP:∀b o,H b=À o->o≠.pH y->b≠P:=λb o e n z=>by subst z;rw[x]at e;exact n (ã e).symm
  have g:∀b o,s.heap.get? b=À o->b≠P->∀u:Obj,(p.push u).get? b=À o:=λb o e n u=>Ä _ (hx b o n e);have U:∀b o,s.heap.get? b=À o->H b=none->B b=none:=λb o e n=>by
   show upd _ _ _ b=_;rw[ä (λz=>by rw[z,x]at n;cases n),ä (λz=>by rw[z]at e;exact absurd (Ï e) (mN.mpr D))];exact n
  have eP:B P=À (.pH (y++#[Ŷ m.line,Ŷ m.col,.ref a])):=ă ..;have ec:B a=À (.hY M (.own a)):=by show upd _ _ _ a=_;rw[ä ncP];exact ă ..
  have live:∀b,B b=none->H b=none:=λb e=>by
   by_cases j:b=P
   ·subst j;rw[eP]at e;cases e
   ·by_cases Y:b=a
    ·rw[Y];exact nc
    ·have T:upd (upd H a (.hY M (.own a))) P (.pH (y++#[Ŷ m.line,Ŷ m.col,.ref a])) b=none:=e;rw[ä j,ä Y]at T;exact T
  have ff:∀b o u,H b=À (.hY o u)->B b=À (.hY o u):=λb o u e=>L b _ e (nP b _ e (λz=>nomatch z));have tt:∀b xs,H b=À (.tup xs)->B b=À (.tup xs):=λb xs e=>L b _ e (nP b _ e (λz=>nomatch z));have Z':B p.objs.size=none:=by
   show upd _ _ _ _=_;rw[ä (λz=>by have:=Ï k;rw[<-z]at this;exact absurd (æ this r) (Ŝ _)),ä (λz=>by rw[<-z]at F;exact absurd F (Ŝ _))];exact I.Ů.fresh r
  let N:=PySem.W.kla_obj "<lambda>" (X.env.qual++"<lambda>") i body scope [] ((X.mg "__name__").getD .none) a O;have un:Un X.fs [] H B s.heap (p.push N):=
   ⟨λb o e n _ _=>g b o e (λz=>by rw[z,x]at n;cases n) N,λb o e n _ _=>⟨o.slots,g b o e (λz=>by rw[z,x]at n;cases n) N⟩,λb o e n _=>U b o e n,λb o e _=>by
     by_cases j:b=P
     ·exact⟨_,by rw[j];exact Ä _ Ys⟩
     ·exact⟨o,g b o e j N⟩,tt,ff,λb ps' e=>by
     by_cases j:b=P
     ·subst j;rw[x]at e;cases e;exact⟨_,eP⟩
     ·exact⟨#[],by rw[L b _ e j];simp⟩⟩
  have ho:ly X.prog X.w B (p.push N):=λb u e=>by
   by_cases j:b=P
   ·subst j;rw[eP]at e;cases e;exact Ä _ Ys
   ·by_cases Y:b=a
    ·subst Y;rw[ec]at e;cases e;exact⟨Ä _ J,⟨_,Ä _ J⟩⟩
    ·have T:upd (upd H a (.hY M (.own a))) P (.pH (y++#[Ŷ m.line,Ŷ m.col,.ref a])) b=À u:=e;rw[ä j,ä Y]at T;refine(I.Ů b u T).pq (λd v hd q=>g d v q ?_ N) (λd q=>L d _ q (nP d _ q (λz=>nomatch z))) tt;rcases hd with z|z
     ·rw[z];exact j
     ·exact nP d _ z (λz=>nomatch z)
  exact⟨p.objs.size,B,rfl,I.un un ho,⟨_,_,_,by rw[<-hq];exact Ò _ rfl,a,M,vs,t,rfl,Ä _ J,hd,hv⟩,hQ B _ ⟨L,live,_,eP,Cq hT ff ec hd hv⟩ Z'⟩
def QL (K:Ç)(P:Addr)(q:Str)(t:TE):TE:=λf H Q=>t f H λx A=>∃(l:Addr) (b:Â Addr) (c:Â Int),x=.ref l/\A l=À (.lst (b.map V.ref))/\c.length=b.length/\(∀(j:Nat) (a:Addr) (d:Int),b[j]?=À a->c[j]?=À d->∃y r,gp K A a (y::.int d::r))/\b.length<64/\
 (∃e,A P=À (.pH e)/\vE A q e)/\∀B d (p:Â Nat),Gh A B P q->B d=none->p.Perm (Ă b.length)->p.Pairwise (Ah (O:=oI) λi=>c.getD i 0)->Q (.ref d) (upd B d (.lst (p.map λi=>V.ref (b.getD i 0))))
def Ii (he:PE X e t)(hm:X.mg "sorted"=none)(Z_:X.A.depth<recursionLimit)
  (C:X.env.code=.ref c) (hC:ų X.K c P=true) (hq:X.env.qual++"<lambda>"=q) (Z4:ov (Az y) X.env=pure []) (L:Ru (Ap y p0) X.env=([],[])) (hy:(y == ("__debug__":Str))=false)
  (hb:∀t pm Y B,jf (mQ "<lambda>" q (Ap y p0) (Er y p1 p2 p3) (Az y) [] pm Y B) ⟨[.ref t],[]⟩=pure [(y,.ref t)]) (hg:Gl X "sorted":=by rfl)
  (hs:Î [e] X.env=(false,ģ e X.env)::Î [] X.env:=by rfl) (J:ĺ pos (Î [e] X.env)=(false,ģ e X.env)::ĺ pos (Î [] X.env):=by rfl) (Sd:(ĺ pos (Î [e] X.env)).any (·.1)=false:=by rfl) :
  PE X (.Call (.Name "sorted" p) [e] [⟨À (Ĕ "key"),.Lambda (Ap y p0) (Er y p1 p2 p3) (Az y) lp,j⟩] pos) (QL X.K P q t):=by
 intro O s σ H Q I h;refine bO (qj I hg hm iU ?_ (by decide) (by decide));refine XD ?_ J Sd;rw[J];refine pO (au (he O s σ H _ I h) λu s1 zz=>?_);obtain⟨x,H1,I1,r1,l,g,ds,ex,hl,Z8,VZ,R_,ht,hQ⟩:=zz;subst ex;cases (show u=Ð l from r1);refine rh ?_;refine XM ?_;refine au (OG (q:=q) (P:=P) (Q:=λf H'=>Gh H1 H' P q) C hC hq Z4 L I1 ⟨ht,λH' f k _=>k⟩) λv d ⟨f,E,ev,F,lf,T⟩=>?_;subst ev;refine XN ?_;have nP:∀b o,H1 b=À o->(∀ps,o≠.pH ps)->b≠P:=λb o e n z=>by
  obtain⟨ps,hp,_⟩:=ht;rw[z,hp]at e;exact n ps (ã e).symm
 have hl2:E l=À (.lst (g.map V.ref)):=T.keep l _ hl (nP l _ hl (λ_ z=>nomatch z));obtain⟨_,its,n,rel,hL⟩:=(show š X.prog X.w E d.heap l (.lst (g.map V.ref))from F.Ů l _ hl2)
 have:=wo rel;subst this;refine XF NC J8 J5 (XI _ _) ?_;unfold cO.«sorted»;refine Ã (m:=Rt "sorted" 1 1 _) (È ?_);refine Ã (collect_list (A:=X.A.in1) ⟨_,hL,rfl,n,rfl⟩ ?_ (by rw[Ê];exact Ħ (ſ (by lia))));refine Ã (fM ?_ (by rw[Ê];exact Ħ (ſ (by lia))));have up:∀b o,d.heap.get? b=À o->(((d.heap.push (ċ "list" #[] 0)).update d.heap.objs.size (ô (·++(g.map Ð).toArray))).push (ċ "list" (g.map Ð).toArray 0)).get? b=À o:=λb o e=>by
  refine Ä _ ?_;rw[ç _ _ (Ń (Ï e))];exact Ä _ e
 have hD:d.heap.objs.size<((d.heap.push (ċ "list" #[] 0)).update d.heap.objs.size (ô (·++(g.map Ð).toArray))).objs.size:=by rw[uU,Ĺ];exact eG _
 have M:(((d.heap.push (ċ "list" #[] 0)).update d.heap.objs.size (ô (·++(g.map Ð).toArray))).push (ċ "list" (g.map Ð).toArray 0)).get? ((d.heap.push (ċ "list" #[] 0)).update d.heap.objs.size (ô (·++(g.map Ð).toArray))).objs.size=À (ċ "list" (g.map Ð).toArray 0):=Ò _ rfl;generalize ((d.heap.push (ċ "list" #[] 0)).update d.heap.objs.size (ô (·++(g.map Ð).toArray))).objs.size=D at *
 generalize ((d.heap.push (ċ "list" #[] 0)).update d.heap.objs.size (ô (·++(g.map Ð).toArray))).push (ċ "list" (g.map Ð).toArray 0)=h0 at *
 have nD:∀b o,d.heap.get? b=À o->b≠D:=λb o e=>ï (mM (Ï e) hD);have U:(g.map Ð).length=g.length:=Ê _;refine Ã (Ŏ (wpAny_call_entry_kw Em ⟨_,M,rfl⟩ A_ ?_ (XH _ _)));show Ø (Û X.prog X.w) X.A.in1.in1 (cO.«list.sort» ⟨[.ref D],[(Ĕ "key",.ref f)]⟩) _ _ {d with heap:=h0};rw[XJ];refine Mm.Ci (s:={d with heap:=h0}) (ns:=ds) M (by rw[Z8,U]) (by rw[U];exact R_) (λi v k N hk h tk j=>?_) λp h' tk c q1 q2 q3 j ha=>⟨_,rfl,?_⟩
 ·have j:∀b o,d.heap.get? b=À o->h.get? b=À o:=λb o e=>j b o (nD b o e) (up b o e);rw[ê]at N;cases ea:g[i]? with
  |none=>rw[ea]at N;cases N
  |some a=>
   rw[ea]at N;cases N;obtain⟨y',r,e⟩:=VZ i a k ea hk;have Z:gp X.K E a (y'::.int k::r):=by
    rcases e with(e|⟨o,e⟩)|e
    ·exact .inl (.inl (T.keep a _ e (nP a _ e (λ_ z=>nomatch z))))
    ·exact .inl (.inr ⟨o,T.keep a _ e (nP a _ e (λ_ z=>nomatch z))⟩)
    ·exact .inr e
   obtain⟨its,e1,⟨o,Z,e3,n,e4⟩,_⟩:=F.tuple Z;cases e1 with
   |cons e5 e6=>
    cases e6 with
    |cons e6 e7=>
     obtain⟨t',rfl⟩:=e6;obtain⟨pm,Y,B,f1,f2⟩:=lf;exact Hk (s:={d with heap:=h,toks:=tk}) ⟨pm,Y,B,j _ _ f1,f2.keeps j⟩ (F.nolimit.keeps j) Z_ hy ⟨o,j _ _ Z,e3,n,e4⟩ rfl (hb a) λh' Xm k'=>⟨h',Xm,t',rfl,rfl,k'⟩
 ·have j:∀b o,d.heap.get? b=À o->h'.get? b=À o:=λb o e=>j b o (nD b o e) (up b o e);rw[U]at q1 q2 q3;have pr:p.toList.Perm (Ă g.length):=by simpa using dB.mp q3
  have pl:p.toList.length=g.length:=by rw[pr.length_eq,jY]
  have plt:∀i∈p.toList,i<g.length:=λi hi=>by simpa using pr.mem_iff.mp hi
  have hn:E D=none:=F.Ů.fresh (Ħ hD);refine È ⟨_,rfl,.ref D,_,F.laid (a:=D) (o:=.lst (p.toList.map λi=>V.ref (g.getD i 0))) (t':=tk) j (Ħ hD) ⟨by rw[Ê,pl];exact Ħ (ſ (by lia)),p.toList.map λi=>(g.map Ð).getD i í,c,?_,ha⟩,rfl,hQ E D p.toList T hn pr ?_⟩
  ·exact Mm.qJ plt
  ·exact Mm.IL (by rw[pl];exact q1)
end
end L2
namespace L2
open PySem PySem.Spec PyProof.Rows
def CL (ts:Â Addr)(H:Hp):Prop:=(∀P∈ts,H P=À (.pH #[]))/\∀b,b∉ts->H b=none∨∃o xs,H b=À (.hY o (.lst xs))
def E7 {K:Ç}{c:Ô} 
  (KX:K.In c.heap) (hT:∀q∈ts,c.heap.get? q=À (dh #[])) (ZW:∀q∈ts,isCodeTable c.heap q) (ZX:∀q∈ts,K.lookup q=none)
  (J:c.heap.Ns mainGlobals mg) (f:c.heap.Ns kY mb) (Z0:∀x:Str,x≠"__name__"->mb x=Ĳ x) (I:c.heap.NoLimit) (Z7:c.heap.NoDigits)
  (Z1:∃bm t,mg "__builtins__"=À (.ref bm)/\bm≠kY/\c.heap.get? bm=À t/\t.cls=.type "module"/\t.dict=À kY/\t.data=.plain) (hg:c.gens=#[])
  (E:c.heap.get? a=À {cls:=.type "list",data:=.seq vs.toArray}) (hi:r8 vs ns) (hl:ns.length<=sizeLine) (hr:cW k sf)
  (F:∀base:Heap,K.In base->base.Ns mainGlobals mg->ie P w K mg base CX k fa fd [x] sp) (y:∀s u,r4 s fd ⟨[u],[]⟩ [(x,u)])
  (hsp:∀H:Hp,CL ts H->gM K H a (ns.map V.int)->sp [.ref a] H (λv _=>v=.bl true) λ_ _ _=>False)
  (Z:∀H e s',CX [] H c (λ_ _ _=>False) e s'->False) :
  ef (Û P w) sf (.call (.ref fa) ⟨[.ref a],[]⟩) (λr s'=>r=.ok (.ret (.bool true))/\OldK c.heap s'.heap/\s'.os=c.os/\md s'.gens) c:=by
 have rv:=wB hi;have M:=hi.length;have N:a∉ts:=λz=>by
  have e:=hT a z;rw[E]at e;cases e
 have l:∀H:Hp,CL ts H->gM K H a (ns.map V.int)->ly P w H c.heap->(∀b,H b≠none->b=a∨b∈ts)->(H a≠none->K.lookup a=none)->
   ef (Û P w) sf (.call (.ref fa) ⟨[.ref a],[]⟩) (λr s'=>r=.ok (.ret (.bool true))/\OldK c.heap s'.heap/\s'.os=c.os/\md s'.gens) c:=by
  intro H hO hS L hA hK;have base_of:∀{b:Addr}{o:Obj},c.heap.get? b=À o->H b=none->(xD c.heap H).get? b=À o:=λe n=>G' e n;have O:∀{b:Addr}{o:Obj},c.heap.get? b=À o->o≠{cls:=.type "list",data:=.seq vs.toArray}->o≠dh #[]->H b=none:=λ{b o} e n1 n2=>by
   cases q:H b with
   |none=>rfl
   |some u=>
    rcases hA b (by rw[q];simp)with e'|e'
    ·subst e';rw[E]at e;exact(n1 (ã e).symm).elim
    ·rw[hT b e']at e;exact(n2 (ã e).symm).elim
  have i:∀{b:Addr}{m:Str->É Value},c.heap.Ns b m->(xD c.heap H).Ns b m:=λ{b m} ⟨o,es,ep,e,d,r⟩=>⟨o,es,ep,base_of e (O e (λz=>by rw[z]at d;cases d) λz=>by rw[z]at d;cases d),d,r⟩
  have D:K.In (xD c.heap H):=λb o e=>base_of (KX b o e) (by
   cases q:H b with
   |none=>rfl
   |some u=>
    rcases hA b (by rw[q];simp)with e'|e'
    ·subst e';rw[hK (by rw[q];simp)]at e;cases e
    ·rw[ZX b e']at e;cases e)
  have hM:Mod K mg (xD c.heap H):=⟨D,i J,⟨mb,i f,Z0⟩,let ⟨mc,X,Y⟩:=I;⟨mc,i X,Y⟩,let ⟨mc,X,Y⟩:=Z7;⟨mc,i X,Y⟩,
   let ⟨bm,t,b1,b2,b3,b4,b5,b6⟩:=Z1;⟨bm,t,b1,b2,base_of b3 (O b3 (λz=>by rw[z]at b6;cases b6) λz=>by rw[z]at b6;cases b6),b4,b5,b6⟩⟩
  have e0:Bd P w K mg (xD c.heap H) sf [] c H:=⟨rfl,hM,λb o e=>Lx e,gg (EV _ _),trivial,λb f=>absurd (show b∈([]:Â Addr)from f) (by simp),L,.of_eq hg⟩
  refine ow ((F _ D (i J)).run sf [] c H ⟨[.ref a],[]⟩ [.ref a] [.ref a] _ _ hr e0 (y c (.ref a)) (.cons rfl .nil) (hsp H hO hS)) λr s' h=>?_;cases r with
  |error e=>exact(Z H e s' h).elim
  |ok fl=>
   cases fl with
   |next=>exact aB h
   |brk=>exact aB h
   |cont=>exact aB h
   |ret u=>
    obtain⟨v,H',os,C,un,p,r',q⟩:=h;have q':v=.bl true:=q;subst q';obtain rfl:u=e8 true:=r';have Q:∀b o,c.heap.get? b=À o->s'.heap.get? b=À o∨(b∈ts/\o=dh #[]/\∃g,s'.heap.get? b=À (dh g)):=λb o e=>by
     by_cases f:b∈ts
     ·refine .inr ⟨f,?_,?_⟩
      ·rw[hT b f]at e;exact(ã e).symm
      ·obtain⟨g,z⟩:=un.uI b _ (hO.1 b f);exact⟨_,p b _ z⟩
     ·rcases hO.2 b f with z|⟨t,xs,z⟩
      ·exact .inl (un.keep b o e z (by intro z;exact absurd (show b∈([]:Â Addr)from z) (by simp)) (by simp))
      ·have z2:=un.iI b t _ z;obtain⟨e1,_⟩:=L b _ z;obtain⟨e2,_⟩:=p b _ z2;rw[e]at e1;cases e1;exact .inl e2
    refine⟨rfl,⟨λb o e=>?_,λb o e=>?_⟩,os,C⟩
    ·rcases Q b o e with z|⟨f,rfl,g,z⟩
     ·exact .inl z
     ·exact .inr (.inl ⟨ZW b f,rfl,#[],g,rfl,by rw[z];simp⟩)
    ·rcases Q b o e with z|⟨_,_,g,z⟩
     ·exact⟨_,z⟩
     ·exact⟨_,z⟩
 have T:∀H:Hp,(∀P∈ts,H P=À (.pH #[]))->∀b∈ts,∀u,H b=À u->š P w H c.heap b u:=λH h b f u e=>by
  rw[h b f]at e;cases e;exact hT b f
 cases hk:K.lookup a with
 |some o=>
  have e:=KX a o hk;rw[E]at e;cases e;refine l (λb=>if b∈ts then À (.pH #[])else none) ⟨λq A=>Ì A,λb f=>.inl (Ö f)⟩ (.inr ⟨_,vs.toArray,_,hk,rfl,rfl,rfl,by rw[Ú,M];exact hl,by simpa using rv⟩) (λb u z=>?_) (λb z=>?_) λz=>absurd (Ö N) z
  ·by_cases f:b∈ts
   ·exact T _ (λq A=>Ì A) b f u z
   ·have U:=(Ö f).symm.trans z;cases U
  ·by_cases f:b∈ts
   ·exact .inr f
   ·exact absurd (Ö f) z
 |none=>
  have B:∀b,b∉ts->(λb=>if b∈ts then À (HO.pH #[])else if b=a then À (HO.hY {cls:=.type "list",data:=.seq vs.toArray} (.lst (ns.map V.int)))else none) b=if b=a then À (HO.hY {cls:=.type "list",data:=.seq vs.toArray} (.lst (ns.map V.int)))else none:=λb f=>Ö f
  refine l (λb=>if b∈ts then À (.pH #[])else if b=a then À (.hY {cls:=.type "list",data:=.seq vs.toArray} (.lst (ns.map V.int)))else none) ⟨λq A=>Ì A,λb j=>?_⟩ (.inl (.inr ⟨{cls:=.type "list",data:=.seq vs.toArray},(B a N).trans (Ì rfl)⟩)) (λb u z=>?_) (λb z=>?_) λ_=>hk
  ·by_cases f:b=a
   ·exact .inr ⟨_,_,(B b j).trans (Ì f)⟩
   ·exact .inl ((B b j).trans (Ö f))
  ·by_cases j:b∈ts
   ·exact T _ (λq A=>Ì A) b j u z
   ·by_cases f:b=a
    ·have U:=((B b j).trans (Ì f)).symm.trans z;cases U;subst f;exact⟨E,by rw[Ê];exact hl,vs,_,rv,E⟩
    ·have U:=((B b j).trans (Ö f)).symm.trans z;cases U
  ·by_cases j:b∈ts
   ·exact .inr j
   ·by_cases f:b=a
    ·exact .inl f
    ·exact absurd ((B b j).trans (Ö f)) z
def Je {l:lx}{j:Â Str}{M:(Str->É Value)->Heap->Prop}{A:ħ->Heap->Prop}{d:DefRec}{K:Params->Ç}{CX:ħ->Ge}{sp:ħ->Sp}(ts:Â Addr)
  (hn:l.most=À n) (I:n<=sizeLine) (D:d.params.defaults=[]) (hr:cW k sf)
  (U:∀(w:ħ) (h:Heap),A w h->(K w.params).In h) (hT:∀(w:ħ) (h:Heap),A w h->∀q∈ts,h.get? q=À (dh #[]))
  (z:∀(w:ħ) (h:Heap),A w h->∀q∈ts,isCodeTable h q) (C:∀(w:ħ) (h:Heap),(K w.params).In h->∀q∈ts,(K w.params).lookup q=none)
  (F:∀(w:ħ) (mg:Str->É Value) (r:Addr) (h:Heap),(K w.params).In h->h.Ns mainGlobals mg->mg d.name=À (.ref r)->
   ∃t:dC,(∀(s:Ô) (u:Value),r4 s t ⟨[u],[]⟩ [(x,u)])/\
    ∀base:Heap,(K w.params).In base->base.Ns mainGlobals mg->ie l.prog w (K w.params) mg base (CX w) k r t [x] (sp w))
  (J:∀(w:ħ) (H:Hp) (a:Addr) (ns:Â Int),ns.length<=n->CL ts H->gM (K w.params) H a (ns.map V.int)->sp w [.ref a] H (λv _=>v=.bl true) λ_ _ _=>False)
  (y:∀(w:ħ) (H:Hp) (s:Ô) (e:Value) (s':Ô),CX w [] H s (λ_ _ _=>False) e s'->False) :
  MP q j M A l.row.toRowW d [] (λf vs=>F8 f vs):=by
 refine Yb.zi hn D λw L p mg mb r o pm cd N a vs ns G Y ho hd Z E m i c hg=>?_;have B:=U w _ Y;obtain⟨t,X,O⟩:=F w mg r _ B G.T.g E;exact E7 B (hT w _ Y) (z w _ Y) (C w _ B) G.T.g G.T.b G.T.builtins G.T.nolimit G.T.nodigits G.T.bmain hg m i (ł c I) hr O X (λH P Q=>J w H a ns c P Q) λH e s'=>y w H p e s'
end L2
namespace Mm
open PySem L2
def tabAt (i:Nat)(q:Str):AO->Bool
 |.tab j r=>decide (j=i/\r=q)
 |_=>false
def FN (h:tabAt i q o=true):o=.tab i q:=by
 cases o with
 |tab j r=>have h:=ō h;rw[h.1,h.2]
 |_=>cases h
def p8:AV->Int
 |.tup (_::.int d::_)=>d
 |_=>0
def qf:AV->Bool
 |.tup (_::.int _::_)=>true
 |_=>false
noncomputable def A0 (ds:Â Int)(i j:Nat):Bool:=decide (ds.getD i 0<ds.getD j 0∨ds.getD i 0=ds.getD j 0/\i<=j)
def zV (ds:Â Int):Â Nat:=(Ă ds.length).mergeSort (A0 ds)
def oO (ds:Â Int):(zV ds).Perm (Ă ds.length):=F4 ..
def tZ (ds:Â Int):(zV ds).Pairwise λi j=>A0 ds i j=true:=
 A7 (le:=A0 ds) (λa b c h k=>by unfold A0 at *;simp only[Ų]at *;lia) (λa b=>by unfold A0;simp only[iS,Ų];lia) _
def Hf {p:Â Nat}(pr:p.Perm (Ă ds.length)) (h:p.Pairwise (Ah (O:=oI) λi=>ds.getD i 0)):p=zV ds:=
 gF (le:=A0 ds) (λa b h k=>by unfold A0 at *;simp only[Ų]at *;lia) (pr.trans (oO ds).symm) (h.imp λ{i j} h=>by
  unfold A0;rcases h with h|⟨h,k⟩
  ·exact ó (.inl (ō (show decide (ds.getD i 0<ds.getD j 0)=true from h)))
  ·exact ó (.inr ⟨h,Ħ k⟩)) (tZ ds)
def pick (l:Â AV)(p:Â Nat):Â AV:=p.map λi=>l.getD i .Ě
def tR (i:Nat)(q:Str)(m:Ev):gL:=λa s=>(m a s).bind λv b=>match v with
 |.ref k=>need (ö b k) λl=>if l.all qf=true/\l.length<64/\b.any (tabAt i q)=true then .ok (pick l (zV (l.map p8))) b else .bad
 |_=>.bad
section
variable {T:Tx}{XE:gO}{X:Cx}{pos:jA}
theorem Ax {ρ:Â Addr}{H:Hp}:∀{l:Â AV}{vs:Â V},(∀v∈l,∃xs,v=.tup xs)->Ĭ T ρ H l vs->∃as:Â Addr,vs=as.map V.ref/\as.length=l.length/\∀(j:Nat) (a:Addr) (xs:Â AV),as[j]?=À a->l[j]?=À (.tup xs)->∃ws,gp T.K H a ws/\Ĭ T ρ H xs ws
 |[],vs,_,k=>by
  cases k.nil_inv;exact⟨[],rfl,rfl,λj a d e=>by simp at e⟩
 |v::l,vs,h,k=>by
  obtain⟨x,o,rfl,m,n⟩:=k.cons_inv;obtain⟨as,rfl,c,f⟩:=Ax (λw hw=>h w (.tail _ hw)) n;obtain⟨xs,rfl⟩:=h v (.head _);obtain⟨a,ws,rfl,g,i⟩:=m.cx;refine⟨a::as,rfl,by simp[c],λj b d g1 g2=>?_⟩;cases j with
  |zero=>simp at g1 g2;subst g1 g2;exact⟨ws,g,i⟩
  |succ j=>exact f j b d (by simpa using g1) (by simpa using g2)
theorem Ĭ.pick {as:Â Addr}(k:Ĭ T ρ H l (as.map V.ref)):∀{p:Â Nat},(∀i∈p,i<as.length)->Ĭ T ρ H (pick l p) (p.map λi=>V.ref (as.getD i 0))
 |[],_=>.nil
 |i::r,c=>by
  have a:=c i (.head _);have hl:i<l.length:=by rw[k.length,Ê];exact a
  refine .cons ?_ (Ĭ.pick k λj e=>c j (.tail _ e));obtain⟨x,b,d⟩:=Ĭ.get k (Å hl);rw[ê,Å a]at b;cases b;show VR T ρ H (l.getD i .Ě) (.ref (as.getD i 0));rw[ĕ,ĕ,Å hl,Å a];exact d
def BI (h:qf v=true):∃y d r,v=.tup (y::.int d::r):=by
 unfold qf at h;split at h
 ·exact⟨_,_,_,rfl⟩
 ·cases h
def HC (hm:X.mg "sorted"=none)(Z:X.A.depth<recursionLimit)(w:X.env.code=.ref c)(hC:ų T.K c (T.cl i)=true) (h:PE X e (tE T XE m))
  (hK:X.K=T.K:=by rfl) (hq:X.env.qual++"<lambda>"=q:=by rfl) (Y:ov (Az y) X.env=pure []:=by rfl) (E:Ru (Ap y p0) X.env=([],[]):=by rfl) (hy:(y == ("__debug__":Str))=false:=by decide)
  (M:∀t pm cv N,jf (mQ "<lambda>" q (Ap y p0) (Er y p1 p2 p3) (Az y) [] pm cv N) ⟨[.ref t],[]⟩=pure [(y,.ref t)]:=by intros;rfl) (hg:Gl X "sorted":=by rfl)
  (hs:Î [e] X.env=(false,ģ e X.env)::Î [] X.env:=by rfl) (U:ĺ pos (Î [e] X.env)=(false,ģ e X.env)::ĺ pos (Î [] X.env):=by rfl) (Sd:(ĺ pos (Î [e] X.env)).any (·.1)=false:=by rfl) :
  PE X (.Call (.Name "sorted" p) [e] [⟨À (Ĕ "key"),.Lambda (Ap y p0) (Er y p1 p2 p3) (Az y) lp,kp⟩] pos) (tL T XE (tR i q m)):=
 PE.imp (Ii (P:=T.cl i) (q:=q) h hm Z w (by rw[hK];exact hC) hq Y E hy M hg hs U Sd) λσ H Q zz=>ś zz λρ env s hs he ho=>step hs he ho λv s1 g H1 x _ u1 f VH Xn F=>by
  cases v with
  |ref k=>
   obtain⟨l,e1,ho2⟩:=F.ü;obtain⟨⟨hd,hl,ht⟩,I⟩:=ho2.ū;obtain⟨a,vs,rfl,ea,h1,kk⟩:=f.eR (Ē e1) Xn;have hd:∀v∈l,∃y d r,v=.tup (y::.int d::r):=λv hv=>BI (Đ.mp hd v hv);obtain⟨as,rfl,J,VZ⟩:=Ax (λv hv=>let ⟨y,d,r,z⟩:=hd v hv;⟨_,z⟩) kk;obtain⟨o,ho,hot⟩:=lj.mp ht;cases FN hot;obtain⟨j,B,ej⟩:=af ho;obtain⟨P,L,rfl,ps,h2,h3⟩:=f.obj j _ (by rw[Å B,ej]);refine⟨a,as,l.map p8,rfl,h1,by rw[Ê,J],λj b d g1 g2=>?_,by rw[J];exact hl,⟨ps,h2,h3⟩,λH2 d p C hd pr WU=>?_⟩
   ·have B:j<l.length:=by rw[<-J];exact(Æ.mp g1).1
    obtain⟨y,d',r,z⟩:=hd l[j] (hX B);obtain⟨ws,f1,f2⟩:=VZ j b _ g1 (by rw[Å B,z]);obtain⟨y',ys,rfl,_,f3⟩:=f2.cons_inv;obtain⟨z',zs,rfl,f4,_⟩:=f3.cons_inv;rw[f4.int_inv]at f1;rw[ê,Å B,z]at g2;cases g2;exact⟨y',zs,by rw[hK];exact f1⟩
   have nP:∀b o,H1 b=À o->o≠.pH ps->b≠T.cl i:=λb o e n z=>by subst z;rw[h2]at e;exact n (ã e).symm
   have mP:T.cl i∈g:=Ā L;have up:Up g H1 g H2:=⟨⟨aW,λb xs e=>C.keep b _ e (nP b _ e (λz=>nomatch z)),λb o u e=>C.keep b _ e (nP b _ e (λz=>nomatch z))⟩,λb o e n=>⟨C.keep b o e λz=>n (z▸mP),n⟩,C.live⟩
   have QA:SR T g s1 H2:=⟨f.nd,f.len,λi' o' O=>by
    obtain⟨b,D,q3⟩:=f.obj i' o' O;by_cases M:b=T.cl i
    ·subst M;have UI:i'=j:=by
      have l1:=(Æ.mp D).1;have l2:=(Æ.mp L).1;rw[Å l1]at D;rw[Å l2]at L;have e4:=(ã D).trans (ã L).symm;have pw:=yQ.mp f.nd;rcases Nat.lt_trichotomy i' j with z|z|z
      ·exact(pw _ _ l1 l2 z e4).elim
      ·exact z
      ·exact(pw _ _ l2 l1 z e4.symm).elim
     subst UI;rw[Å B,ej]at O;cases O;exact⟨_,D,rfl,C.tab⟩
    ·obtain⟨u,eu⟩:=q3.ex;exact⟨b,D,q3.up up.toGr ((C.keep b u eu M).trans eu.symm)⟩⟩
   rw[<-Hf (ds:=l.map p8) (by rw[Ê,<-J];exact pr) WU]at I;exact(Out.up up I).lst QA hd (Ĭ.up up (Ĭ.pick kk λi hi=>by simpa using pr.mem_iff.mp hi))
  |_=>exact F.elim
end
end Mm
namespace Ro
open PySem L2 Mm
def ZO (r:cW k A):A.depth<recursionLimit:=by have:=r.dp;lia
structure Ux (T:Tx)(mg:Str->É Value)(x:Str)(st:Stmt)(i:Nat):Prop where
 ex:∃f fd c,Gg T.K x x st f fd/\mg x=À (.ref f)/\fd.code=.ref c/\ų T.K c (T.cl i)=true
section
variable {P:ą}{w:ħ}{T:Tx}{mg:Str->É Value}{base:Heap}
def Ob (N:Â Str)(D:Ux T mg x st i)(S:ij N (N.take n) (ď st))
  (I:∀kV g C y d ct us,us.length=(N.take n).length->jf (Ņ x x (cj st) (aL st) (ď st) .none kV g C y d ct) ⟨us,[]⟩=pure ((N.take n).zip us)) (J:(N.take n).length=n)
  (h:∀f c A outer s H E,ų T.K c (T.cl i)=true->cW k (A.deeper (aJ x (ď st) s.heap.objs.size f (.ref c)))->N.Nodup->Ls T (k_ (pX P w) P w T.K mg base N x (ď st) f (.ref c) A outer s H E) (mT T E)->lH (k_ (pX P w) P w T.K mg base N x (ď st) f (.ref c) A outer s H E) (aL st) (tS T (mT T E) body)) :
  jh P w T mg base x n (k+1) (dU N.length body):=by
 obtain⟨f,z,c,F,m,q,hC⟩:=D.ex;have j:ie P w T.K mg base (pX P w) (k+1) f z (N.take n) (F2 T (N.take n).length (dU N.length body)):=by
  obtain⟨oc,od,kV,g,C,y,d,ct,M,rfl,L,r⟩:=F.ex;have q:d=.ref c:=q;subst q;refine M3 L r S (λU H Q E h=>h.1) λA outer s H U Q E hr X=>?_;obtain⟨hl,ρ,l,b,t,O,a⟩:=X;refine⟨_,h f c A outer s H E hC hr S.nd z9,ρ,_,l,t,zG N O,?_⟩;unfold dU at a;cases e:body (b.map À++è (N.length-b.length) none) l with
  |nx Z p=>simp only[e]at a;exact λo B Y u t er=>a o B .Ě u t (uK (T:=T) (ρ:=o) (H:=B))
  |rt v p=>simp only[e]at a;exact a
  |ex c p=>simp only[e]at a;exact a
  |bk v p=>simp only[e]at a;exact a.elim
  |ct v p=>simp only[e]at a;exact a.elim
  |bad=>simp only[e]at a;exact a.elim
 rw[J]at j;exact⟨f,z,_,j,F.binds I,m,F.kp⟩
def spT (K:Ç)(ts:Â Addr)(c:Â (Nat×Str)) (b:Â AV->S->R AV):Sp:=λa H Q E=>a.length=1/\∀cl,(c.map λp=>cl p.1)=ts->F2 ⟨K,cl⟩ 1 b a H Q E
def tabS (a:Â (Nat×Str)):S:=a.map λp=>.tab p.1 p.2
def Ml {ts:Â Addr}{ns:Â Int}(nd:ts.Nodup)(hl:(l [.sq (ns.map AV.int)] (tabS d)).wp λv _=>v=.bl true) (c:CL ts H)(n:gM K H a (ns.map V.int)):spT K ts d l [.ref a] H (λv _=>v=.bl true) E:=by
 have m:JO K H a (ns.map V.int):=by
  rcases n with h|h
  ·rcases h with h|h
   ·by_cases k:a∈ts
    ·rw[c.1 a k]at h;cases h
    ·rcases c.2 a k with z|⟨o,xs,z⟩
     ·rw[z]at h;cases h
     ·rw[z]at h;cases h
   ·exact .inl h
  ·exact .inr h
 refine⟨rfl,λcl j=>⟨rfl,ts,tabS d,[.sq (ns.map AV.int)],⟨nd,by rw[<-j];simp[tabS],λi o e=>?_⟩,?_,?_⟩⟩
 ·unfold tabS at e;rw[ê]at e;cases q:d[i]? with
  |none=>rw[q]at e;cases e
  |some p=>
   rw[q]at e;cases e;have g:ts[i]?=À (cl p.1):=by rw[<-j,ê,q];rfl
   exact⟨_,g,rfl,#[],c.1 _ (Ā g),trivial,λpos r z=>by cases z⟩
 ·unfold Ĭ;refine⟨_,_,rfl,?_,by unfold Ĭ;rfl⟩;unfold VR;exact⟨a,_,rfl,m,Ĭ.map (λi=>bJ) ns⟩
 ·obtain⟨v,s',e,rfl⟩:=hl.get;rw[e];intro f A x _ _ b;have b:VR ⟨K,cl⟩ f A (.bl true) x:=b;unfold VR at b;exact b
def Kz {l:lx}{K:Ç}{i:Â (Nat×Str)}(e:mg "law"=À (.ref n)) (j:(i.map λp=>cl p.1)=ts) (D:Df ⟨K,cl⟩ mg "law" st)
  (q:∀s v kV b g d a ct,r4 s (Ņ "law" "law" (cj st) (aL st) (ď st) .none kV b g d a ct) ⟨[v],[]⟩ [("_law_script",v)])
  (F:∀base f c,Gg K "law" "law" st f c->ie l.prog w K mg base (pX l.prog w) k f c ["_law_script"] (F2 ⟨K,cl⟩ 1 o)) :
  ∃c:dC,(∀s v,r4 s c ⟨[v],[]⟩ [("_law_script",v)])/\∀base:Heap,K.In base->base.Ns mainGlobals mg->ie l.prog w K mg base (pX l.prog w) k n c ["_law_script"] (spT K ts i o):=by
 obtain⟨f,c,G,m⟩:=D.ex;cases m.symm.trans e;refine⟨c,?_,λbase _ _=>(F base _ _ G).imp λz H Q E h=>h.2 cl j⟩;obtain⟨x,y,kV,b,g,d,a,ct,t,rfl,u,r⟩:=G.ex;exact λs v=>q s v kV b g d a ct
end
def T7 {l:lx}{b:Â Str}{B:(Str->É Value)->Heap->Prop}{A:ħ->Heap->Prop}{d:DefRec}{K:Params->Ç}(ts:Â Addr)(p:Â (Nat×Str)) (g:Â AV->S->R AV)(k:Nat)(nd:ts.Nodup)(hk:cW k sf)(hl:∀ns:Â Int,(g [.sq (ns.map AV.int)] (tabS p)).wp λv _=>v=.bl true) (E:l.most=À 63)(o:d.params.defaults=[])
  (m:∀(w:ħ) (h:Heap),A w h->(K w.params).In h) (hT:∀(w:ħ) (h:Heap),A w h->∀q∈ts,h.get? q=À (dh #[]))
  (i:∀(w:ħ) (h:Heap),(K w.params).In h->∀q∈ts,∃c,ų (K w.params) c q=true) (j:∀(w:ħ) (h:Heap),(K w.params).In h->∀q∈ts,(K w.params).lookup q=none)
  (F:∀(w:ħ) (mg:Str->É Value) (r:Addr) (h:Heap),(K w.params).In h->h.Ns mainGlobals mg->mg d.name=À (.ref r)->
   ∃t:dC,(∀(s:Ô) (u:Value),r4 s t ⟨[u],[]⟩ [("_law_script",u)])/\∀base:Heap,(K w.params).In base->base.Ns mainGlobals mg->ie l.prog w (K w.params) mg base (pX l.prog w) k r t ["_law_script"] (spT (K w.params) ts p g)) :
  MP q b B A l.row.toRowW d [] (λf vs=>F8 f vs):=
 L2.Je ts (n:=63) (x:="_law_script") (CX:=λw=>pX l.prog w) (sp:=λw=>spT (K w.params) ts p g) E (by decide) o hk m hT (λw h Y q y=>by
  obtain⟨c,e⟩:=i w h (m w h Y) q y;exact((CH (m w h Y) e).tab (hT w h Y q y)).isCodeTable) j F (λw H a ns _ C D=>Ml nd (hl ns) C D) λ_ _ _ _ _ ⟨_,_,_,_,_,_,_,_,_,_,z⟩=>z
end Ro
namespace Mm
open PySem L2
section
variable {T:Tx}{XE:gO}{X:Cx}{pos:jA}
end
end Mm
namespace Ro
open PySem L2 Mm
def Bq (l t:Â Addr)(i:Nat):Addr:=if i<20 then l.getD i 0 else t.getD (i-20) 0
def SO {K:Ç}{C:Addr}{nm:Str}{bm:Â Value}{b:É Value}(x:iA K C nm bm b)(ga:ú K (.ref C) "__getattribute__"=À (À (.builtin "BaseException.__getattribute__"))) (gx:ú K (.ref C) "__getattr__"=À none) (ca:ú K (.ref C) "__class__"=À (À (.builtin "object.__class__")))
  (cn:fD K (.builtin "object.__class__") "__get__"=À (À (.builtin "getset_descriptor.__get__"))) (ct:h9 K (.builtin "object.__class__")=À true):Ka K C:=by
 have a:∀{l:Â Value},oB K l->l.contains (.type "BaseException")=true/\l.contains (.type "object")=true:=by
  intro l t;induction t with
  |base=>exact⟨by decide+kernel,by decide+kernel⟩
  |own _ _ _ _ c=>rw[aH,aH,c.1,c.2];exact⟨me _,me _⟩
 refine {ga:=ga,gx:=gx,sb:=?_,ca:=ca,cn:=cn,ct:=ct,cm:=?_,cl:=x.M9}
 ·rw[x.mro,aH,(a x.tail).1,me]
 ·show wG K (.ref C) (.type "object")=À true;rw[x.mro,aH,(a x.tail).2,me]
structure wW (K:Ç)(mg:Str->É Value)(C:Addr)(nm:Str)(bm:Â Value)(AZ:É Value):Prop where
 tl:oB K bm->iA K C nm bm AZ/\(AZ=none->oB K (.ref C::bm))
 is:iA K C nm bm AZ->Ka K C
 kp:ĵ K (.ref C)=true
 gl:mg nm=À (.ref C)
def T_ {K:Ç}{h:Heap}{mg:Str->É Value}{C N:Addr}{nm q:Str}{bm bs sub:Â Value}{sn:Â Str}{ab:Bool}{col:É Bool}{dd nd:É Addr}{f g kc j m b:É Value}{o:Value}{c:Č yL}{ep:Nat}{d:Č (É Value)}(X:K.In h)(G:h.Ns mainGlobals mg)
  (a:Ę K mainGlobals nm=À (À (.ref C))) (l:K.lookup C=À (excClassObj nm q C N bs bm true sn sub ab col dd f g kc j m "ValueError.__new__")) (n:K.lookup N=À ⟨o,nd,.dict c ep,d⟩) (s:IQ c=true) (k:ĵ K (.ref C)=true)
  (ga:ú K (.ref C) "__getattribute__"=À (À (.builtin "BaseException.__getattribute__"))) (gx:ú K (.ref C) "__getattr__"=À none) (ca:ú K (.ref C) "__class__"=À (À (.builtin "object.__class__")))
  (cn:fD K (.builtin "object.__class__") "__get__"=À (À (.builtin "getset_descriptor.__get__"))) (ct:h9 K (.builtin "object.__class__")=À true) (i:nsFind c "__init__"=b):wW K mg C nm bm b:=
 ⟨λt=>⟨⟨⟨_,_,_,_,_,_,_,_,_,_,_,_,_,_,l,⟨_,_,_,_,_,n,s,λ_=>rfl⟩,i⟩,t⟩,λe=>.own l ⟨_,_,_,_,_,n,s,λ_=>rfl⟩ (i.trans e) t⟩,λx=>SO x ga gx ca cn ct,k,gI X G a⟩
def T' {K:Ç}{mg:Str->É Value}{b c1 c2 c3 c4 e f g j:Addr}{r t:Â Addr}{I J:É Value}(x0:wW K mg b "RoyalError" sW none)(x1:wW K mg c1 "BadFraction" (.ref b::sW) none) (x2:wW K mg c2 "Taken" (.ref b::sW) none) (x3:wW K mg c3 "NoName" (.ref b::sW) none) (x4:wW K mg c4 "TooMuch" (.ref b::sW) none) (x5:wW K mg e "NoRate" (.ref b::sW) none) (x6:wW K mg f "NoneLeft" (.ref b::sW) none) (x7:wW K mg g "Endless" (.ref b::sW) I) (x8:wW K mg j "BadRow" (.ref b::sW) J) :
  Xs ⟨K,Bq (b::c1::c2::c3::c4::e::f::g::j::r) t⟩ mg:=by
 obtain⟨k,d⟩:=x0.tl .base;have c:=d rfl;have l:=(x1.tl c).1;have m:=(x2.tl c).1;have o:=(x3.tl c).1;have q:=(x4.tl c).1;have s:=(x5.tl c).1;have u:=(x6.tl c).1;have v:=(x7.tl c).1;have w:=(x8.tl c).1;have a:∀{p:Nat->Prop},p 0->p 1->p 2->p 3->p 4->p 5->p 6->p 7->p 8->∀i,i<9->p i:=λ{p} x y z A B C D E F i H=>by
  match i,H with
  |0,_=>exact x
  |1,_=>exact y
  |2,_=>exact z
  |3,_=>exact A
  |4,_=>exact B
  |5,_=>exact C
  |6,_=>exact D
  |7,_=>exact E
  |8,_=>exact F
  |n+9,h=>exact absurd h (by omega)
 refine⟨a ⟨_,k,λ_=>rfl⟩ ⟨_,l,λ_=>rfl⟩ ⟨_,m,λ_=>rfl⟩ ⟨_,o,λ_=>rfl⟩ ⟨_,q,λ_=>rfl⟩ ⟨_,s,λ_=>rfl⟩ ⟨_,u,λ_=>rfl⟩ ⟨_,v,λh=>absurd h (by omega)⟩ ⟨_,w,λh=>absurd h (by omega)⟩,
  a (x0.is k) (x1.is l) (x2.is m) (x3.is o) (x4.is q) (x5.is s) (x6.is u) (x7.is v) (x8.is w),a x0.kp x1.kp x2.kp x3.kp x4.kp x5.kp x6.kp x7.kp x8.kp,a x0.gl x1.gl x2.gl x3.gl x4.gl x5.gl x6.gl x7.gl x8.gl⟩
structure Uv (K:Ç)(C:Addr)(fs:Â Str):Prop where
 c:zb K C
 na:∀f∈fs,ji K C f
def RI {K:Ç}{C:Addr}{fs:Â Str}{nm:Str}(a:Ę K mainGlobals nm=À (À (.ref C))) (b:gh K C fG=true)(hd:js K C=true)(c:pV K C=true)(d:ú K (.ref C) "__setattr__"=À (À (.builtin "object.__setattr__"))) (na:∀f∈fs,ú K (.ref C) f=À none):Uv K C fs:=⟨⟨b,hd,c,d⟩,na⟩
def Uv.bk {T:Tx}{C:Addr}{c:Nat}{fs:Â Str}(h:Uv T.K C fs)(e:T.cl c=C):Bk T c fs:=⟨by rw[e];exact h.c,λf a=>by rw[e];exact h.na f a⟩
def N5 {K:Ç}{cl:Nat->Addr}{c:Nat}{C:Addr}{m b:Str}{st:Stmt}{f:Addr}{n:Value}{od i:É Addr}{h:Č (É Value)}{kV g o d ct:Value}(e:cl c=C)(a:ú K (.ref C) m=À (À (.ref f)))
  (l:K.lookup f=À ⟨n,od,.func (Ņ m b (cj st) (aL st) (ď st) .none kV g o i d ct),h⟩) (j:dg K d b=true) (k:ĵ K (.ref f)=true) (fn:kS K (.ref f)=true):f_ ⟨K,cl⟩ c m b st:=
 ⟨f,_,xB l j k,by show Meth K (cl c) m f;rw[e];exact⟨a,fn,k⟩⟩
def N4 {K:Ç}{cl:Nat->Addr}{h:Heap}{mg:Str->É Value}{c:Nat}{C:Addr}{nm b:Str}{st:Stmt}{f:Addr}{p:Value}{od m:É Addr}{j:Č (É Value)}{kV i q d ct:Value}(X:K.In h)(G:h.Ns mainGlobals mg)(e:cl c=C)(g:Ę K mainGlobals nm=À (À (.ref C))) (a:ú K (.ref C) "__init__"=À (À (.ref f)))
  (l:K.lookup f=À ⟨p,od,.func (Ņ "__init__" b (cj st) (aL st) (ď st) .none kV i q m d ct),j⟩) (n:dg K d b=true) (k:ĵ K (.ref f)=true) (fn:kS K (.ref f)=true) (o:sP K C=true) (kc:ĵ K (.ref C)=true):Uw ⟨K,cl⟩ mg c nm b st:=
 ⟨f,_,xB l n k,by show Mk K (cl c) f;rw[e];exact⟨o,a,fn,kc⟩,by show mg nm=À (.ref (cl c));rw[e];exact gI X G g⟩
def N6 {K:Ç}{cl:Nat->Addr}{h:Heap}{mg:Str->É Value}{x:Str}{st:Stmt}{i:Nat}{f b P:Addr}{n:Value}{od j:É Addr}{g:Č (É Value)}{kV d o ct:Value}(X:K.In h)(G:h.Ns mainGlobals mg)(e:cl i=P)(a:Ę K mainGlobals x=À (À (.ref f)))
  (l:K.lookup f=À ⟨n,od,.func (Ņ x x (cj st) (aL st) (ď st) .none kV d o j (.ref b) ct),g⟩) (c:dg K (.ref b) x=true) (k:ĵ K (.ref f)=true) (m:ų K b P=true):Ux ⟨K,cl⟩ mg x st i:=
 ⟨f,_,b,xB l c k,gI X G a,rfl,by show ų K b (cl i)=true;rw[e];exact m⟩
def T3 {K:Ç}{x:Str}{st:Stmt}{f b P:Addr}{i:Value}{od g:É Addr}{e:Č (É Value)}{kV d j ct:Value}(a:Ę K mainGlobals x=À (À (.ref f)))
  (l:K.lookup f=À ⟨i,od,.func (Ņ x x (cj st) (aL st) (ď st) .none kV d j g (.ref b) ct),e⟩) (h:ų K b P=true):∃c,ų K c P=true:=⟨b,h⟩
def Pr {p:Str->Prop}:∀f∈([]:Â Str),p f:=λ_ h=>nomatch h
end Ro
namespace L2
open PySem PySem.Spec PyProof.Rows
section
variable {X:Cx}{ø:Â (Addr×Obj)}{σ:St}{H:Hp}{s:Ô}
def Inv.Nj (I:Inv X ø σ H s)(e:H a=À u)(n:∀v,X.vf a=À v->(∀xs,v≠.tup xs)/\(∀o w,v≠.hY o w)/\∀ps,v≠.pH ps) (r:∀xs,u≠.tup xs)(t:∀x,u≠.own x)(k:š X.prog X.w H s.heap a f):Inv X ø σ (upd H a f) s:=by
 have d:∀b,H b=none->upd H a f b=none:=λb z=>by rw[ä λy=>by rw[y,e]at z;cases z];exact z
 have t1:∀b xs,H b=À (.tup xs)->upd H a f b=À (.tup xs):=λb xs z=>by
  rw[ä λy=>by rw[y,e]at z;exact r _ (ã z)];exact z
 have st:∀b o,š X.prog X.w H s.heap b o->š X.prog X.w (upd H a f) s.heap b o:=λb o z=>z.pq (λ_ _ _ q=>q) (λc q=>by
  rw[ä λy=>by rw[y,e]at q;exact t _ (ã q)];exact q) t1
 have g:∀b v,X.vf b=À v->((∃xs,v=.tup xs)∨(∃o w,v=.hY o w)∨∃ps,v=.pH ps)->b≠a:=λb v z q y=>by
  subst y;obtain⟨j,l,m⟩:=n v z;rcases q with⟨_,q⟩|⟨_,_,q⟩|⟨_,q⟩
  ·exact j _ q
  ·exact l _ _ q
  ·exact m _ q
 refine⟨I.ok,I.os,I.bare,⟨I.base.keep,I.base.slot,λb o q n x=>d _ (I.base.free b o q n x),I.base.there,λb xs z=>?_,λb o w z=>?_,λb ps z=>?_⟩,I.loc,I.cell,d _ I.free,λx c z=>d _ (I.iH x c z),λp i=>let ⟨A,B,C⟩:=I.pin p i;⟨A,d _ B,C⟩,λb o z=>?_,I.len⟩
 ·rw[ä (g b _ z (.inl ⟨_,rfl⟩))];exact I.base.jR b xs z
 ·rw[ä (g b _ z (.inr (.inl ⟨_,_,rfl⟩)))];exact I.base.iI b o w z
 ·rw[ä (g b _ z (.inr (.inr ⟨_,rfl⟩)))];exact I.base.uI b ps z
 ·by_cases h:b=a
  ·subst h;rw[ă]at z;cases z;exact st _ _ k
  ·rw[ä h]at z;exact st _ _ (I.Ů b o z)
def Inv.YQ (I:Inv X ø σ H s)(e:H a=À (.dT ks)):∀v,X.vf a=À v->(∀xs,v≠.tup xs)/\(∀o w,v≠.hY o w)/\∀ps,v≠.pH ps:=λv z=>
 ⟨(λxs q=>by subst q;have:=I.base.jR a _ z;rw[e]at this;cases this),(λo w q=>by subst q;have:=I.base.iI a _ _ z;rw[e]at this;cases this),λps q=>by subst q;obtain⟨_,this⟩:=I.base.uI a _ z;rw[e]at this;cases this⟩
end
def Yc (a:Addr)(o:Obj):It:=
 ⟨λi H=>∃b,H a=À (.hY o (.dT b))/\i<b.length,λi H x A=>A=H/\∀b,H a=À (.hY o (.dT b))->∃c p,b[i]?=À c/\x=.ref p/\H p=À (.tup (c.1.map kV)),λi H=>∃b,H a=À (.hY o (.dT b))/\b.length<=i⟩
def zM {X:Cx}(I:Inv X q z H s)(e:H a=À (.hY o (.dT ks))) (hd:o.data=.dict c ep):s.heap.get? a=À o/\c.size=ks.length/\∀(i:Nat) (h:i<c.size),∃n p,ks[i]?=À n/\c[i].key=.ref p/\H p=À (.tup (n.1.map kV)):=by
 obtain⟨f,_,_,xs,b,y,t,r,g,_,j,k,_⟩:=(show š X.prog X.w H s.heap a (.hY o (.dT ks))from I.Ů a _ e)
 rw[f]at g;cases g;rw[hd]at j;cases j;have hl:c.size=ks.length:=by rw[<-Į,k,Ê,<-b.length]
 refine⟨f,hl,λi l=>?_⟩;have m:i<xs.length:=by rw[<-b.length,<-hl];exact l
 obtain⟨p,u,x,v,_⟩:=Paired.at b (Å m);refine⟨p,xs[i].2.1,u,?_,v⟩;have d:c.toList[i]?=À (entryOfKey (nG (ay X.prog X.w)) xs[i]):=by rw[k,ê,Å m];rfl
 rw[av,ak l]at d;rw[ã d];rfl
def I0 {P:ą}{w:ħ}{K:Ç}{tg:Expr}{o:Obj}(a it:Addr)(hd:o.data=.dict es ep):Turn P w K tg (Yc a o) [it] it (λi h=>h.get? it=À (Dx.JR a i es.size ep)) where
 mem:=by simp
 obj:=λi h st b hb=>by
  have e:b=it:=by simpa using hb
  subst e;exact⟨_,st,(λv z=>nomatch z)⟩
 keep:=λi h h' st k=>k it (by simp) _ st
 item:=by
  intro X hP hw hK hc i ø s σ H E I hf st hg;subst hP hw hK;obtain⟨ks,hq,hx⟩:=hg;obtain⟨h0,hl,hk⟩:=zM I hq hd;obtain⟨f0,f1,f2,f3,f4,f5⟩:=hf it (by simp);have hi:i<es.size:=by rw[hl];exact hx
  obtain⟨kv,p,k1,k2,k3⟩:=hk i hi;refine Dx.HN st h0 hd hi λh' IP sb=>?_;have I1:Inv X ø σ H {s with heap:=h'}:=I.turned (t':=s.toks) sb f0 f1 f3 f4 f5;exact⟨_,rfl,C9 (s:={s with heap:=h'}) IP rfl rfl (by decide) ⟨.ref p,H,I1,k2,⟨rfl,λys hy=>by rw[hq]at hy;cases hy;exact⟨kv,p,k1,rfl,k3⟩⟩,IP,λb hb=>(hf b hb).1⟩⟩
 done:=by
  intro X hP hw hK hc i ø s σ H E I hf st hg;subst hP hw hK;obtain⟨ks,hq,hx⟩:=hg;obtain⟨h0,hl,_⟩:=zM I hq hd;obtain⟨f0,f1,f2,f3,f4,f5⟩:=hf it (by simp);exact Dx.Fi (I.ok.hd hc) st (by rw[hl];exact hx) h0 hd λh' eb=>⟨rfl,I.turned (t':=s.toks) eb f0 f1 f3 f4 f5⟩
 self:=λ_ _ _ _ _ st h=>wpAny_pyIter_keyiter ⟨_,st,rfl,rfl⟩ h
def V3 (tl:TE):TI:=λe H R=>tl e H λx A=>∃a b,x=.ref a/\A a=À (.dT b)/\∀o d c,o.data=.dict d c->R (Yc a o) (upd A a (.hY o (.dT b)))
def LQ {X:Cx}(hl:PE X l tl):PI X J l (V3 tl):=by
 intro c s m H R I h;refine au (hl c s m H _ I h) λv d E=>iv E λx C A y u=>?_;obtain⟨a,k,e,g,q⟩:=u;subst e;cases y;have j:=(show š X.prog X.w C d.heap a (.dT k)from A.Ů a _ g)
 obtain⟨_,lo,xs,D,o,p,n,i,r,f,F,_⟩:=id j;refine Dx.EY lo i r f ?_;have B:Inv X c m (upd C a (.hY o (.dT k))) d:=A.Nj g (A.YQ g) (λ_ z=>nomatch z) (λ_ z=>nomatch z) ⟨i,j⟩;refine⟨d.heap.objs.size,[d.heap.objs.size],_,_,_,rfl,B.kept (t':=d.toks) λb o e=>Ä _ e,I0 a _ f,Ò _ rfl,λb t=>?_,q o p n f⟩;have e:b=d.heap.objs.size:=by simpa using t
 subst e;exact B.BB (Í _) (B.Ů.fresh (Í _))
end L2
namespace Mm
open PySem L2
def rN (T:Tx):Rl (Â AV) V:=⟨λ_ a H v x=>∃p xs,x=.ref p/\H p=À (.tup xs)/\Ĭ T a H v xs,λ_ h=>h⟩
abbrev tN (T:Tx)(XE:gO)(m:gL):TE:=tG T XE (rN T) m
def nq:Â AV->É (Â Key)
 |[]=>À []
 |v::r=>(hI v).bind λk=>(nq r).map (k::·)
def Bu (s:S)(i:Nat):É (Â (Â Key×AV)):=match s[i]? with
 |some (.dT xs)=>À xs
 |_=>none
def mu {s:S}{i:Nat}{xs:Â (Â Key×AV)}(h:Bu s i=À xs):s[i]?=À (.dT xs):=by
 unfold Bu at h;split at h
 ·cases h;assumption
 ·cases h
def Bv {s:S}{i:Nat}{xs:Â (Â Key×AV)}(h:s[i]?=À (.dT xs)):Bu s i=À xs:=by unfold Bu;rw[h]
section
variable {T:Tx}{XE:gO}{X:Cx}{pos:jA}
theorem mF {ρ:Â Addr}{H:Hp}:∀{vs:Â AV}{ks:Â Key}{xs:Â V},nq vs=À ks->Ĭ T ρ H vs xs->xs=ks.map kV
 |[],ks,xs,h,k=>by
  cases h;unfold Ĭ at k;exact k
 |v::r,ks,xs,h,k=>by
  obtain⟨x,e,rfl,c,d⟩:=k.cons_inv;unfold nq at h;cases a:hI v with
  |none=>rw[a]at h;cases h
  |some q=>
   rw[a]at h;cases b:nq r with
   |none=>rw[b]at h;cases h
   |some t=>
    rw[b]at h;cases h;rw[jN a c,mF b d];rfl
def SR.GL {ρ:Â Addr}{H:Hp}{s:S}(j:SR T ρ s H){i:Nat}{xs:Â (Â Key×AV)}(e:s[i]?=À (.dT xs)) {x:V}(h:VR T ρ H (.ref i) x):∃a vs,x=.ref a/\ρ[i]?=À a/\H a=À (.dT vs)/\xs.map (·.1)=vs.map (·.1)/\Ĭ T ρ H (xs.map (·.2)) (vs.map (·.2)):=by
 obtain⟨a,c,vs,f,g⟩:=j.obj i _ e;obtain⟨b,d,rfl⟩:=h.fx;rw[c]at d;cases d;exact⟨a,vs,rfl,c,f,g⟩
def BY (r:gL):gL:=λa s=>(r a s).bind λb c=>if b.length<=sizeLine then .ok b c else .bad
def BW {f:Â Expr}{k:Nat}{r:gL}(h:PA X f (tP T XE r)):PE X (.Tuple f k pos) (tN T XE (BY r)):=
 PE.imp (B4 h) λt H Q ⟨q,g,s,m,j,l⟩=>step m j l λv n e A x _ o c i a b=>by
  obtain⟨hl,b⟩:=b.ū;have a:Ĭ T e A v x:=a;exact⟨by rw[<-a.length];exact hl,λp d=>b _ _ _ (c.eT d) (c.new d) ⟨p,x,rfl,ă,Ĭ.up (c.eT d) a⟩⟩
def ue (r:gL)(n:Ev):Ev:=λa s=>(BY r a s).bind λf e=>(n a e).bind λd c=>match d with
 |.ref i=>need (Bu c i) λb=>need (nq f) λk=>.ok (.bl (bE b k).isSome) c
 |_=>.bad
def Kt {r:gL}{n:Ev}{u:St}{H:Hp}{Q:VK}(h:tE T XE (ue r n) u H Q) :
  tN T XE (BY r) u H λy B=>tE T XE n u B λx A=>∃a o,x=.ref a/\jE A a y o/\Q (.bl o.isSome) A:=by
 obtain⟨ρ,J,s,Z,O,U⟩:=h;refine step Z O U λvs s1 m B y _ u1 j f l g=>step j f g λw s2 q A x _ u2 e L c b=>?_;have c:VR T q A w x:=c;obtain⟨p,xs,rfl,Y,vx⟩:=(show ∃p xs,y=.ref p/\B p=À (.tup xs)/\Ĭ T m B vs xs from l)
 cases w with
 |ref i=>
  obtain⟨d,F,b⟩:=b.ü;obtain⟨k,I,b⟩:=b.ü;obtain⟨a,C,rfl,ea,N,D,E⟩:=e.GL (mu F) c;have P:A p=À (.tup (k.map kV)):=by rw[<-mF I vx];exact u2.jR p xs Y
  refine⟨a,iO C k,rfl,jE.t N P,?_⟩;have:(iO C k).isSome=(bE d k).isSome:=by
   cases v:bE d k with
   |none=>rw[(fA k D E).2 v];rfl
   |some z=>obtain⟨x',M,_⟩:=(fA k D E).1 z v;rw[M];rfl
  rw[this];exact b.Ł e eU
 |_=>exact b.elim
def L9 {a:Â Expr}{e:Nat}{f:jA}{o:Expr}{r:gL}{n:Ev}(hu:X.A.units+1<cLine)(c:PA X a (tP T XE r)) (d:PE X o (tE T XE n)) (b:ao .In o=false:=by rfl):PT X (.Compare (.Tuple a e f) [.In] [o] pos) (jV T XE (cB (ue r n))):=
 PT.imp (B7 (B3 hu (BW c) d) b) λg H Q h=>Kt (DN h)
def qD (d:Ev)(r:gL)(v:Ev):Ms:=λe s=>(v e s).bM λa h=>(d e h).bM λb j=>(BY r e j).bM λc g=>match b with
 |.ref i=>match Bu g i,nq c with
  |some f,À k=>if f.length<sizeLine then .nx e (g.set i (.dT (kn f k a)))else .bad
  |_,_=>.bad
 |_=>.bad
def HE {o e:Expr}{E:Â Expr}{Y:Nat}{tp g:jA}{m r:Ev}{n:gL}(hu:X.A.units+1<cLine)(I:PE X o (tE T XE m)) (hi:PA X E (tP T XE n)) (hv:PE X e (tE T XE r)) (hs:fb e (À (.Subscript o (.Tuple E Y tp) g)) pos.line X.env=pure false:=by rfl) :
  PS X (.Assign [.Subscript o (.Tuple E Y tp) g] e pos) (tS T XE (qD m n r)):=
 PS.imp (DE hu I (BW hi) hv hs) λD σ H ⟨ρ,env,s,hs,he,I⟩=>dZ hs he I λv s1 Rf H1 x _ u1 N u j J=>dZ N u J λd s2 Xq H2 y _ u2 O w l L=>dZ O w L λc s3 f B z _ u3 h C P b=>by
  have l:VR T f B d y:=VR.up u3 l;have j:VR T f B v x:=VR.up (u2.trans u3) j;obtain⟨p,xs,rfl,hp,vx⟩:=(show ∃p xs,z=.ref p/\B p=À (.tup xs)/\Ĭ T f B c xs from P)
  split at b
  ·split at b
   ·rename_i i _ _ M k e1 e2;obtain⟨hl,b⟩:=b.ū;obtain⟨a,Z,rfl,Q,U,q1,q2⟩:=h.GL (mu e1) l;have F:M.length=Z.length:=by have:=à cK q1;simpa using this
    have hk:B p=À (.tup (k.map kV)):=by rw[<-mF e2 vx];exact hp
    refine⟨a,_,rfl,zc.t U hk (by rw[<-F];exact hl),?_⟩;obtain⟨p1,p2⟩:=ye k j q1 q2;have q:Up f B f (upd B a (.dT (putK Z k x))):=h.uJ Q U (λ_ z=>nomatch z) (λ_ _ z=>nomatch z);exact b f _ σ q (h.set Q q ⟨_,ă,p1,p2.up q⟩) (C.up q)
   ·exact b.elim
  ·exact b.elim
def Ff:Ev:=λ_ s=>.ok (.ref s.length) (s++[.dT []])
def OT:PE X (.Dict [] [] pos) (tE T XE Ff):=
 PE.imp Ib λg H Q ⟨f,a,s,d,e,b⟩ p c=>b.alloc d c ⟨[],ă,rfl,.nil⟩
end
end Mm
namespace L2
open PySem PySem.Spec PyProof.Rows
def Mb:V->Â V->Hp->VK->Prop:=λx b H Q=>∃d a,x=.ref d/\b=[]/\H d=À (.dT a)/\∀v,H v=none->Q (.ref v) (upd H v (.ext λh=>h.IsItemsView v d))
def Fh:CK X "dict.items" Mb:=by
 rintro g s y H x xs v us Q I l rv ⟨d,b,rfl,rfl,i,q⟩;cases l;cases rv;obtain⟨z,hd,xs,j,o,n,m,c,f,p,t,u⟩:=(show š X.prog X.w H s.heap d (.dT b)from I.Ů d _ i)
 have hT:s.TypeIs (.ref d) "dict":=⟨o,c,f.1⟩
 refine ġ yE hT PySem.F.entry_dict_items ?_ (PySem.F.args_dict_items_1 _);unfold cO.«dict.items» Xr Xt;refine Ã (Ã (wpAny_notOrdered_dict hT (È ?_)));rw[Ö (by rw[hd];exact Ý)];exact Ã (È (Ã (Ř (È ⟨_,rfl,.ref s.heap.objs.size,_,I.laid (a:=s.heap.objs.size) (o:=.ext λh=>h.IsItemsView s.heap.objs.size d) (t':=s.toks) (λ_ _ q=>Ä _ q) (Í _) ⟨⟨_,Ò _ rfl,rfl,rfl⟩,⟨_,Ò _ rfl⟩,λc f ⟨o,e,r⟩ k=>⟨o,k o e,r⟩⟩,rfl,q _ (I.Ů.fresh (Í _))⟩))))
end L2
namespace Mm
open PySem L2
noncomputable def n5:Â (Â Key×AV)->É (Â (Str×Int))
 |[]=>À []
 |([.inr x,.inl i],_)::r=>(n5 r).map ((x,i)::·)
 |_::_=>none
theorem ux:∀{kvs:Â (Â Key×AV)}{ks:Â (Str×Int)},n5 kvs=À ks->kvs.map (·.1)=ks.map cM
 |[],_,h=>by cases h;rfl
 |(k,v)::r,ks,h=>by
  unfold n5 at h;split at h
  ·rename_i e;cases e
  ·rename_i x i _ _ e;cases e;cases e:n5 r with
   |none=>rw[e]at h;cases h
   |some q=>rw[e]at h;cases h;rw[Õ,ux e];rfl
  ·cases h
def i9 (m:Ev):gL:=λb s=>(m b s).bind λv d=>match v with
 |.ref i=>need (Bu d i) λa=>need (n5 a) λc=>if c.length<64 then .ok ((rd c).map λk=>.tup [.tup [.str k.1,.int k.2],(bE a (cM k)).getD .Ě]) d else .bad
 |_=>.bad
section
variable {T:Tx}{XE:gO}{X:Cx}{pos:jA}
def Fg (hm:X.mg "sorted"=none)(hu:X.A.units+2<cLine)(h:PE X e (tE T XE m)) (Z5:X.calm=true:=by rfl)(hg:Gl X "sorted":=by rfl)
  (D:bG e "items" X.env (ģ e X.env)=ģ e X.env:=by rfl) (E:(ap.endLine == cp.line)=true:=by rfl)
  (he:Î [.Call (.Attribute e "items" ap) [] [] cp] X.env=(false,ģ (.Call (.Attribute e "items" ap) [] [] cp) X.env)::Î [] X.env:=by rfl) (Sd:(ĺ pos (Î [] X.env)).any (·.1)=false:=by rfl) :
  PE X (.Call (.Name "sorted" p) [.Call (.Attribute e "items" ap) [] [] cp] [] pos) (tL T XE (i9 m)):=
 PE.imp (gD (Bp Z5 hu) hg hm iU (cu (PU yC yE PySem.F.type_dict_items Fh h D E) iM he) (by decide) (by decide) he Sd) λσ H Q zz=>ś zz λρ env s hs he ho=>
  step hs he ho λv s1 t Z x _ u1 B VH Xn d=>by
   cases v with
   |ref i=>
    obtain⟨U,e1,d⟩:=d.ü;obtain⟨ks,e2,d⟩:=d.ü;obtain⟨hl,d⟩:=d.ū;obtain⟨a,Y,rfl,ea,h1,q1,q2⟩:=B.GL (mu e1) Xn;refine⟨.inr (.inr (.inl ⟨rfl,.inr ⟨Y,h1⟩⟩)),a,Y,rfl,rfl,h1,λv hv=>?_⟩;have ZV:Z a=À (.dT Y):=h1;refine⟨v,a,Y,ks,rfl,ă,by rw[ä (ń ZV hv)];exact h1,by rw[<-q1];exact ux e2,hl,λl C ws N k1 k2 k3 k4 k5=>?_⟩;have f:∀b o,Z b=À o->C b=À o:=λb o e=>k1 b o (by rw[ä (ń e hv)];exact e);have O:Z l=none:=by
     by_cases P:l=v
     ·rw[P];exact hv
     ·rw[ä P]at N;exact N
    have up:Up t Z t C:=⟨⟨aW,λb xs e=>f b _ e,λb o u e=>f b _ e⟩,λb o e n=>⟨f b o e,n⟩,λb e=>by
     have:=k2 b e;by_cases M:b=v
     ·rw[M];exact hv
     ·rw[ä M]at this;exact this⟩
    have QA:SR T t s1 C:=B.up up.toGr λb hb=>by
     obtain⟨u,hu⟩:=B.in hb;rw[hu];exact f b u hu
    refine d t C (.ref l) up QA ⟨l,ws,rfl,O,B.out O,k3,?_⟩;have len:(rd ks).length=ws.length:=by rw[(ku ks).length_eq,k4]
    have all:∀(q:Â (Str×Int)) (c:Â V),q.length=c.length->(∀(j:Nat) (k:Str×Int),q[j]?=À k->∃J b x,c[j]?=À (.ref J)/\iO Y (cM k)=À x/\C b=À (.tup [.str k.1,.int k.2])/\C J=À (.tup [.ref b,x]))->Ĭ T t C (q.map λk=>AV.tup [.tup [.str k.1,.int k.2],(bE U (cM k)).getD .Ě]) c:=by
     intro q;induction q with
     |nil=>intro c y _;cases c with|nil=>exact .nil|cons _ _=>simp at y
     |cons k r ih=>
      intro c y g;cases c with
      |nil=>simp at y
      |cons w c=>
       obtain⟨J,b,x,f1,L,I,f3⟩:=g 0 k rfl;simp at f1;subst f1;refine .cons (kB (gp.of f3) (.cons (kB (gp.of I) (.cons jo (.one bJ))) (.one ?_))) (ih c (by simpa using y) λj k' hj=>g (j+1) k' (by simpa using hj));cases ev:bE U (cM k)with
       |none=>rw[(fA (cM k) q1 q2).2 ev]at L;cases L
       |some v'=>
        obtain⟨x',ex,kx⟩:=(fA (cM k) q1 q2).1 v' ev;rw[L]at ex;cases ex;exact VR.up up kx
    exact all _ _ len λj k hj=>by
     obtain⟨J,b,x,f1,L,I,f3⟩:=k5 j k hj;refine⟨J,b,x,f1,L,?_,f3⟩;have:b≠v:=λz=>by rw[z,ă]at I;cases I
     rw[ä this]at I;exact f _ _ I
   |_=>exact d.elim
end
def Sk:Key->AV
 |.inl i=>.int i
 |.inr x=>.str x
def tupK (k:Â Key):AV:=.tup (k.map Sk)
def FL (m:Ev):Src:=λb s=>(m b s).bind λv c=>match v with
 |.ref i=>need (Bu c i) λa=>.ok (a.map λp=>tupK p.1,[]) (c.set i (.G_ a))
 |_=>.bad
section
variable {T:Tx}{XE:gO}{X:Cx}{pos:jA}
theorem uL:∀k:Â Key,Ĭ T ρ H (k.map Sk) (k.map kV)
 |[]=>.nil
 |.inl i::r=>.cons bJ (uL r)
 |.inr x::r=>.cons jo (uL r)
def Wf (h:PE X e (tE T XE m)):PI X tg e (tW T XE (FL m)):=
 PI.imp (LQ h) λσ H R zz=>ś zz λρ N s hs Y Z=>step hs Y Z λv s1 d B x _ u1 g P k c=>by
  have k:VR T d B v x:=k;cases v with
  |ref i=>
   obtain⟨b,J,c⟩:=c.ü;obtain⟨a,f,rfl,C,D,t,q2⟩:=g.GL (mu J) k;refine⟨a,f,rfl,D,λo Q O hd=>?_⟩;have w:Up d B d (upd B a (.hY o (.dT f))):=g.uJ C D (λ_ z=>nomatch z) (λ_ _ z=>nomatch z);refine c d _ _ w (g.set C w ⟨o,Q,O,f,ă,hd,t,q2.up w⟩) ⟨λy s' I u' u _=>?_⟩;have r:I a=À (.hY o (.dT f)):=u'.iI a _ _ ă;have hl:b.length=f.length:=by have:=à cK t;simpa using this
   refine⟨λj v l=>?_,⟨f,r,by rw[Ê,hl];exact Í _⟩⟩;rw[ê]at l;have E:j<b.length:=by
    cases z:b[j]? with
    |none=>rw[z]at l;cases l
    |some q=>exact(Æ.mp z).1
   refine⟨⟨f,r,by rw[<-hl];exact E⟩,λx A ⟨L,M⟩=>?_⟩;subst L;obtain⟨F,p,g1,rfl,U⟩:=M f r;refine⟨.refl,u,?_⟩;have n:(b[j]?).map (·.1)=À F.1:=by rw[<-ê,t,ê,g1];rfl
   rw[Å E]at l n;cases l;have n:b[j].1=F.1:=ã n;show VR T y A (tupK b[j].1) _;rw[n];exact kB (gp.of U) (uL _)
  |_=>exact c.elim
def FE (m:Ev)(b:Ms):Ms:=λa s=>match m a s with
 |.ok (.ref i) _=>match b a s with
  |.nx e d=>match d[i]?,Bu s i with
   |some (.G_ f),À _=>.nx e (d.set i (.dT f))
   |_,_=>.bad
  |.ex c d=>.ex c d
  |_=>.bad
 |_=>.bad
def Oj {H:Hp}{o:Obj}(e:H a=À (.hY o (.dT ks))):Gs ρ H ρ (upd H a (.dT ks)):=
 ⟨aW,λ{K b c} h=>by
  rcases h with(h|⟨o,h⟩)|h
  ·exact .inl (.inl (by rw[ä λz=>by rw[z,e]at h;cases h];exact h))
  ·exact .inl (.inr ⟨o,by rw[ä λz=>by rw[z,e]at h;cases h];exact h⟩)
  ·exact .inr h,λ{K b c} h=>by
  rcases h with⟨o,h⟩|h
  ·exact .inl ⟨o,by rw[ä λz=>by rw[z,e]at h;cases h];exact h⟩
  ·exact .inr h⟩
def Pn (h:PS X st (tS T XE b)):PS X st (tS T XE (FE m b)):=by
 intro A s σ H D I ⟨ρ,B,t,hs,he,d⟩;unfold FE at d;split at d
 ·rename_i i _ _;cases r:b B t with
  |nx e1 O=>
   rw[r]at d;dsimp only at d;split at d
   ·rename_i kvs kv0 e2 e0;obtain⟨a,ea,ks0,h0,_⟩:=hs.obj i _ (mu e0);refine au (h A s σ H {nx:=λF Q=>∃o Y U E,Q a=À (.hY o (.dT E))/\o.data=.dict Y U/\D.nx F (upd Q a (.dT E)),rt:=λ_ _=>False} I ⟨ρ,B,t,hs,he,?_⟩) λf s' z=>?_
    ·rw[r];intro P H1 UY L l N;obtain⟨Z,p,o,Y,U,E,h1,hd,q1,q2⟩:=l.obj i _ e2;have:Z=a:=by rw[ya L.pre ea]at p;exact(ã p).symm
     subst this;have g:=Oj (ρ:=P) h1;refine⟨o,Y,U,E,h1,hd,d P _ UY ⟨⟨L.pre,λb xs z=>?_,λb o w z=>?_⟩,λb o z n=>?_,λb z=>?_⟩ ⟨l.nd,by simp[l.len],λj o' J=>?_⟩ ⟨N.len,λj v J=>?_⟩⟩
     ·rw[ä λy=>by rw[y,h0]at z;cases z];exact L.jR b xs z
     ·rw[ä λy=>by rw[y,h0]at z;cases z];exact L.iI b o w z
     ·rw[ä λy=>n (by rw[y];exact Ā ea)];exact L.fr b o z n
     ·by_cases hb:b=Z
      ·rw[hb,ă]at z;cases z
      ·rw[ä hb]at z;exact L.live b z
     ·by_cases C:i=j
      ·subst C;have hl:i<O.length:=(Æ.mp e2).1;rw[Ć hl]at J;cases J;exact⟨Z,p,E,ă,q1,q2.gs g⟩
      ·rw[ì C]at J;obtain⟨c,M,q3⟩:=l.obj j o' J;refine⟨c,M,q3.gs g (λc oc w vs z k=>?_) (ä λy=>C ?_)⟩
       ·rw[ä λy=>by rw[y,h1]at z;cases z;rw[hd]at k;cases k];exact z
       ·subst y;exact(ee l.nd).mp ((Æ.mp p).2.trans (Æ.mp M).2.symm)
     ·obtain⟨x,ex,k⟩:=N.get j v J;exact⟨x,ex,k.gs g⟩
    ·cases f with
     |next=>
      obtain⟨F,Q,I',o,Y,U,E,M,hd,q⟩:=z;have hk:=(show š X.prog X.w Q s'.heap a (.hY o (.dT E))from I'.Ů a _ M)
      exact⟨F,_,I'.Nj M (I.YQ h0) (λ_ z=>nomatch z) (λ_ z=>nomatch z) hk.2,q⟩
     |brk=>obtain⟨_,_,_,z⟩:=z;exact z.elim
     |cont=>obtain⟨_,_,_,z⟩:=z;exact z.elim
     |ret u=>obtain⟨_,_,_,_,_,z⟩:=z;exact z.elim
   ·exact d.elim
  |ex c O=>
   rw[r]at d;exact h A s σ H D I ⟨ρ,B,t,hs,he,by rw[r];exact d⟩
  |bk e O=>rw[r]at d;exact d.elim
  |ct e O=>rw[r]at d;exact d.elim
  |rt v O=>rw[r]at d;exact d.elim
  |bad=>rw[r]at d;exact d.elim
 ·exact d.elim
end
end Mm
namespace L2
open PySem PySem.Spec PyProof.Rows
def Inv.news {X:Cx}{t':Nat}(I:Inv X a p H s)(F:Fr X.base X.env.locals s.heap m)(A:Fr X.base X.env.locals h' m)(B:News X.base X.env.locals h' (sh X.base s.heap X.env.locals)):Inv X a p H {s with heap:=h',toks:=t'}:=by
 have c:∀b o,b≠X.env.locals->s.heap.get? b=À o->h'.get? b=À o:=λb o n e=>by
  cases z:X.base.get? b with
  |some w=>
   have:=F.keep b w z;rw[e]at this;cases this;exact A.keep b _ z
  |none=>exact(B (b,o) (Ab n z e)).1
 have g:∀b u,H b=À u->b≠X.env.locals:=λb u e z=>by rw[z,I.free]at e;cases e
 refine I.step (g':=s.gens) (d':=s.drawn) (ch:=[]) (λ_ z=>nomatch z) (λb o n _ _ e _=>c b o n e) (λb o n _ _ e _=>⟨o.slots,c b o n e⟩) (λb o _ e z=>z) (λb o _ e=>?_) (λb xs e=>e) (λb o w e=>e) (λb q e=>⟨#[],by rw[e];simp⟩) (λk j=>?_) (λb w e=>?_) I.bare
 ·by_cases f:b=X.env.locals
  ·obtain⟨l,_,_,h,_⟩:=A.ns;exact⟨l,by rw[f];exact h⟩
  ·exact⟨o,c b o f e⟩
 ·have i:k=m:=by
   funext y;exact j.agree F.ns y
  rw[i];exact A.ns
 ·refine(I.Ů b w e).pq (λd v hd z=>c d v ?_ z) (λd z=>z) (λd xs z=>z);rcases hd with y|y
  ·rw[y];exact g b w e
  ·exact g d _ y
def Ex {X:Cx}(i:X.calm=true):cQ X (.builtin "max") (λxs H Q=>∃(a:Addr) (ns:Â Int),xs=[.ref a]/\H a=À (.lst (ns.map V.int))/\0<ns.length/\∀M,M∈ns->(∀a,a∈ns->a<=M)->Q (.int M) H):=by
 rintro b s v H xs us Q I r ⟨a,ns,rfl,f,c,q⟩;obtain⟨u,rfl,k⟩:=vals1 r;cases k;obtain⟨j,rv,p,n⟩:=I.list (gM.of f);obtain⟨m,F⟩:=I.fr;exact max_list_N (I.ok.hd i) F (HM (g:=X.base) (h:=s.heap) (L:=X.env.locals)) p.isList (intsAre_of rv) c λl M t o A B d e=>⟨.int M,H,I.news F A B,⟨t,rfl⟩,q M d e⟩
end L2
namespace Mm
open PySem L2
section
variable {T:Tx}{XE:gO}{X:Cx}{pos:jA}
def isT:AV->Bool
 |.tup _=>true
 |_=>false
def B8 (xs:Â AV)(s:S):R AV:=need (oM xs) λa=>need a.max? λM=>.ok (.int M) s
def RM (h:X.calm=true):cQ X (.builtin "max") (Q_ T XE (rV T) B8):=by
 rintro c s l H xs us Q I r ⟨a,m,o,n,st,e,j,f,k,b⟩;subst e;obtain⟨i,e,b⟩:=b.ü;obtain⟨M,d,b⟩:=b.ü;rw[vV e]at k;rw[k.zU]at f;rw[List.max?_eq_some_iff]at d;refine Ex h c s l H _ us Q I r ⟨a,i,rfl,f,List.length_pos_of_mem d.1,λA f g=>?_⟩;rw[show A=M by have:=d.2 A f;have:=g M d.1;lia];exact b.Ł j bJ
def YE:AV->AV->S->R AV
 |v,.ref i,s=>need (toD 20 s v) λb=>need (ö s i) λxs=>need (xs.mapM (toD 20 s)) λa=>if xs.all isT=true/\bZ a<=20 then .ok (.bl (a.any λd=>cS d b)) s else .bad
 |_,_,_=>.bad
def ud (d:Ev)(r:gL):Ev:=λa s=>(d a s).bind λb g=>(BY r a g).bind λc f=>match b with
 |.ref i=>need (Bu f i) λe=>need (nq c) λk=>need (bE e k) λv=>.ok v f
 |_=>.bad
def Hw (hu:X.A.units+1<cLine)(j:PE X o (tE T XE m)) (L:PA X E (tP T XE r)):PE X (.Subscript o (.Tuple E kk tp) pos) (tE T XE (ud m r)):=
 PE.imp (DA hu j (BW L) (λ_ _=>rfl)) λσ H Q zz=>ś zz λρ C s O J j=>step O J j λb s1 Rf H1 x _ u1 n h e l=>step n h l λc s2 g B y _ u2 f D q d=>by
  have e:VR T g B b x:=VR.up u2 e;obtain⟨p,xs,rfl,N,vx⟩:=(show ∃p xs,y=.ref p/\B p=À (.tup xs)/\Ĭ T g B c xs from q)
  cases b with
  |ref i=>
   obtain⟨P,u,d⟩:=d.ü;obtain⟨k,w,d⟩:=d.ü;obtain⟨v,z,d⟩:=d.ü;obtain⟨a,ks,rfl,ea,I,Y,Z⟩:=f.GL (mu u) e;obtain⟨x',F,U⟩:=(fA k Y Z).1 v z;have M:B p=À (.tup (k.map kV)):=by rw[<-mF w vx];exact N
   exact⟨a,x',rfl,F▸jE.t I M,d.Ł f U⟩
  |_=>exact d.elim
end
end Mm
namespace L2
open PySem PySem.Spec PyProof.Rows
def TV (i j k:Nat)(b:TA):TS:=λD a H=>b a H λc A=>∃v w z,c=[v,w,z]/\D.nx (((a.set i (À v)).set j (À w)).set k (À z)) A
def L5 (hc:X.calm=true)(r:X.N.Nodup)(hi:X.N[i]?=À x)(hj:X.N[j]?=À y)(hk:X.N[k]?=À z)(t:i≠j)(u:i≠k)(B:j≠k)
  (P:X.env.scope.names.lookup x=À .local) (Q:X.env.scope.names.lookup y=À .local) (hz:X.env.scope.names.lookup z=À .local) (ha:PA X [a,b,c] ta)
  (hw:iZ [.Tuple [.Name x U,.Name y Y,.Name z Z] T pt] (.Tuple [a,b,c] k2 n) X.env=pure (À [x,y,z]))
  (hs:i0 [.Tuple [.Name x U,.Name y Y,.Name z Z] T pt] (.Tuple [a,b,c] k2 n) pos.line X.env=pure false) :
  PS X (.Assign [.Tuple [.Name x U,.Name y Y,.Name z Z] T pt] (.Tuple [a,b,c] k2 n) pos) (TV i j k ta):=by
 intro d s σ H D I h;rw[X_];refine Ã (dS ?_);rw[hs];refine Ã (È ?_);rw[Ö (by decide)];refine Ã (Tuple_ (au (ha _ d s σ H _ I h) λus f zz=>iv zz λvs M I1 r1 J=>?_));obtain⟨v,w,q,e1,J⟩:=J;subst e1;obtain⟨g,l,m,rfl,rv,L,rz⟩:∃g l m,us=[g,l,m]/\RelV v g/\RelV w l/\RelV q m:=by
  cases r1 with
  |cons p q=>
   cases q with
   |cons p' q'=>
    cases q' with
    |cons E F=>
     cases F;exact⟨_,_,_,rfl,p,p',E⟩
 refine Ř ?_ (by show 3<=sizeLine;decide);have I2:Inv X d σ M {f with heap:=f.heap.push {cls:=.type "tuple",data:=.seq [g,l,m].toArray}}:=I1.kept (t':=f.toks) λb o e=>Ä _ e;rw[hw];refine Ã (È ?_);show Ø (Û X.prog X.w) X.A (do rule "assign.swapped-stores";let items <-unpackItems (.ref f.heap.objs.size) 3 none;mS [λv=>fL X.env z v,λv=>fL X.env y v,λv=>fL X.env x v] items.reverse;pure A4) _ _ _;refine Ã (bP (Ã (Uq (items:=#[g,l,m]) (I.ok.hd hc) (AK f.heap _) λh' C=>?_)));have I3:=I2.kept (h':=h') (t':=f.toks) λb o e=>C b o (ï (Ï e)) e;show Ø _ _ (mS [λv=>fL X.env z v,λv=>fL X.env y v,λv=>fL X.env x v] [m,l,g] >>= λ_=>pure A4) _ _ _;refine Ã (dk (kZ (fy I3 r hk (.inl hz) rz (λs2 I4=>?_) (.inr hz))));refine dk (kZ (fy I4 r hj (.inl Q) L (λs3 I5=>?_) (.inr Q)));refine dk (kZ (fy I5 r hi (.inl P) rv (λs4 O=>wK (È ?_)) (.inr P)));rw[pP _ _ (ő t),pP _ _ (ő u),pP _ _ (ő B)]at O;exact⟨_,M,O,J⟩
end L2
namespace Mm
open PySem L2
section
variable {T:Tx}{XE:gO}{X:Cx}{pos:jA}
noncomputable def Ay (i j k:Nat)(r:gL):Ms:=λa s=>(r a s).bM λc b=>match c with
 |[v,w,z]=>.nx (((a.set i (À v)).set j (À w)).set k (À z)) b
 |_=>.bad
def Ln (I:X.calm=true)(E:X.N.Nodup)(F:PA X [a,b,c] (tP T XE r)) (L:X.N[i]?=À x:=by rfl)(M:X.N[j]?=À y:=by rfl)(hk:X.N[k]?=À z:=by rfl)(l:i≠j:=by decide)(m:i≠k:=by decide)(n:j≠k:=by decide)
  (P:X.env.scope.names.lookup x=À .local:=by rfl) (Q:X.env.scope.names.lookup y=À .local:=by rfl) (hz:X.env.scope.names.lookup z=À .local:=by rfl)
  (hw:iZ [.Tuple [.Name x q,.Name y t,.Name z u] p pt] (.Tuple [a,b,c] k2 f) X.env=pure (À [x,y,z]):=by rfl)
  (hs:i0 [.Tuple [.Name x q,.Name y t,.Name z u] p pt] (.Tuple [a,b,c] k2 f) pos.line X.env=pure false:=by rfl) :
  PS X (.Assign [.Tuple [.Name x q,.Name y t,.Name z u] p pt] (.Tuple [a,b,c] k2 f) pos) (tS T XE (Ay i j k r)):=
 PS.imp (L5 I E L M hk l m n P Q hz F hw hs) λD σ H zz=>jQ zz λρ C s hs J O=>dZ hs J O λv s1 g A x _ u1 o h e d=>by
  have e:Ĭ T g A v x:=e
  match v,e,d with
  |[v,w,z],e,d=>
   obtain⟨x1,B,rfl,U,k2⟩:=e.cons_inv;obtain⟨x2,B,rfl,Z,Y⟩:=k2.cons_inv;obtain⟨x3,B,rfl,k6,k5⟩:=Y.cons_inv;cases k5.nil_inv;exact⟨x1,x2,x3,rfl,d g A _ .refl o (((h.set U).set Z).set k6)⟩
  |[],_,d=>exact d.elim
  |[_],_,d=>exact d.elim
  |[_,_],_,d=>exact d.elim
  |_::_::_::_::_,_,d=>exact d.elim
end
end Mm
namespace L2
open PySem PySem.Spec PyProof.Rows
section
variable {prog:ą}{w:ħ}{A:Ŕ}{E:Value->Ô->Prop}{s:Ô}
end
end L2
namespace Mm
open PySem L2
section
variable {T:Tx}{XE:gO}{X:Cx}{pos:jA}
def kindOf:AV->Bool
 |.tup _=>true
 |_=>false
end
end Mm
namespace L2
open PySem PySem.Spec PyProof.Rows
end L2
namespace Mm
open PySem L2
section
variable {T:Tx}{XE:gO}{X:Cx}{pos:jA}
end
end Mm
namespace L2
open PySem PySem.Spec PyProof.Rows
end L2
namespace Mm
open PySem L2
section
variable {T:Tx}{XE:gO}{X:Cx}{pos:jA}
end
end Mm
namespace L2
open PySem PySem.Spec PyProof.Rows
def Qm:V->Â V->Hp->VK->Prop:=λx a H Q=>∃l xs y,∃j:Nat,x=.ref l/\a=[y]/\H l=À (.lst xs)/\iG y=true/\xs.all iG=true/\xs.findIdx? (λz=>ik z y)=À j/\Q (.int (j:Int)) H
theorem zJ:∀{xs:Â V}{us:Â Value},Vals xs us->xs.all iG=true->us.findIdx? (EK x)=xs.findIdx? λz=>ik z x
 |_,_,.nil,_=>rfl
 |y::xs,u::us,.cons r t,f=>by
  rw[Ĩ,Ĉ]at f;rw[JA,JA,zJ t f.2,xv r f.1]
def HI:CK X "list.index" Qm:=by
 intro f s E H x D v us Q I B rv h;obtain⟨l,xs,y,j,rfl,rfl,p,g,b,d,q⟩:=h;cases B;obtain⟨u,rfl,A⟩:=rv.one;obtain⟨z,a,n,r,hl,e⟩:=I.Fd p;rw[<-zJ r b,List.findIdx?_eq_some_iff_getElem]at d;obtain⟨c,i,k⟩:=d;have t:j<sizeLine:=æ c (by rw[<-r.length];exact z);refine vc F.slot_list_index ⟨_,e,rfl⟩ F.entry_list_index (F.args_list_index_2 _ _) (SeqAt.list_indexAt l a.toArray n none #[] u (EK y) j (by simpa using c) (by rw[ā]at t;lia) (by simpa using i) (λm C o=>by have:=k m o;simpa using this)) ⟨e,λw hw=>lY A g r b w (by simpa using hw),?_⟩;exact⟨.int _,H,I.tok _,⟨_,rfl⟩,q⟩
end L2
namespace Mm
open PySem L2
section
variable {T:Tx}{XE:gO}{X:Cx}{pos:jA}
def jb:AV->Â AV->S->R AV
 |.ref i,[w],s=>need (ö s i) λxs=>if gy w=true/\xs.all gy=true then need (xs.findIdx? λz=>ik (toV z) (toV w)) λj=>.ok (.int (j:Int)) s else .bad
 |_,_,_=>.bad
def N1:CK X "list.index" (Ra T XE jb):=by
 rintro c s t H x xs v us Q I o rv ⟨B,a,w,st,d,q,r,b⟩;unfold jb at b;split at b
 ·obtain⟨A,e,b⟩:=b.ü;obtain⟨⟨i,l⟩,b⟩:=b.ū;obtain⟨j,h,b⟩:=b.ü;obtain⟨p,z,rfl,u,m,k⟩:=d.eR (Ē e) q;obtain⟨y,rfl,n⟩:=r.iq;have f:=toV_eq i n;have g:=toVs_eq l k;subst f g;exact HI c s t H _ _ v us Q I o rv ⟨p,_,_,j,rfl,rfl,m,jI _,by simp[jI],by rw[List.findIdx?_map];exact h,b.Ł d bJ⟩
 ·exact b.elim
end
end Mm
namespace Ro
open PySem L2 Mm
def iL:AV:=.str "coin"
def bC:AV:=.int 182
def p4:Ms:=
 (ş (Ó Fq (Ó jd (Ó Ċ (mv 0) (mc (.int 0))) (Ó Ċ (mv 1) (mc (.int 1)))) (Ó jd (Ó Ċ (mv 1) (mc (.int 0))) (Ó Ċ (mv 0) (mc (.int 1))))))
def cI:Â AV->S->R AV:=dU 2 p4
def eD:Ms:=
 (ý (m3 (mv 0) (gT 3 (ß (gN 3) (ß (gN 4) (ß (gN 2) Ű)))))
 (ý (gb (cB (Ó bf (mv 3) (mc (.str "of")))) (ş (mv 2)) aN)
 (ý (Š 1 (mc ž))
 (ý (qE (aX (mv 2)) (gT 2 (ß (gN 5) (ß (gN 6) Ű))) (gb (cT (ě 2 cI (Á (mv 1) (Á (mv 6) Ë)))) (Š 1 (mv 6)) aN))
 (ş (mv 1))))))
def Ŀ:Â AV->S->R AV:=dU 7 eD
def nI:Ms:=
 (ş (ě 2 cI (Á (mc nj) (Á (BC (ě 1 gv (Á (ī (Ż [("row",none)] (aX (mv 0)) (gN 0) (cB (Ó Al (Ó Ċ (mv 0) (mc (.int 0))) (mc Ť))) (ě 1 Ŀ (Á (mv 0) Ë)))) Ë))) Ë))))
def aj:Â AV->S->R AV:=dU 1 nI
def pY:Ms:=
 (ş (ī (tR 20 "by_days.<locals>.<lambda>" (mv 0))))
def aM:Â AV->S->R AV:=dU 1 pY
def j_:Ms:=
 (ý (m3 (mv 0) (gT 6 (ß (gN 1) (ß (gN 2) (ß (gN 3) (ß (gN 4) (ß (gN 5) (ß (gN 6) Ű))))))))
 (ş (Q9 (cB (Ó bf (mv 1) (mc (.str "sold")))) (mv 4) (aI Am (mv 4)))))
def cq:Â AV->S->R AV:=dU 7 j_
def jj:Ms:=
 (ý (Š 2 (mc (.int 0)))
 (ý (qE (aX (mv 0)) (gN 3) (gb (cB (Ó bf (Ó Ċ (mv 3) (mc (.int 2))) (mv 1))) (ý (FD 2 uq (ě 1 cq (Á (mv 3) Ë)))
 (gb (cB (Ó Fq (mv 2) (mc (.int 0)))) (ş (mc (.bl true))) aN)) aN))
 (ş (mc (.bl false)))))
def ax:Â AV->S->R AV:=dU 4 jj
def gR:Ms:=
 (ý (iN 9 "keeps" (mv 0) ON)
 (ý (iN 9 "rows" (mv 0) ON)
 (ý (iN 9 "hands" (mv 0) Ff)
 (ý (iN 9 "makers" (mv 0) ON)
 (ý (iN 9 "rates" (mv 0) Ff)
 (ý (iN 9 "half" (mv 0) (mc bC))
 (ý (iN 9 "money" (mv 0) (ī (Ŵ Ë)))
    (iN 9 "debts" (mv 0) (ī (Ŵ Ë))))))))))
def aQ:Â AV->S->R AV:=dU 1 gR
def cg:Ms:=
 (gb (cB (Ó uo (mv 1) (aI (œ 9 "keeps") (mv 0)))) (yk 3 (Á (fJ (ar (mc (.str "no person is called ")) (ar (aI gB (mv 1)) lh))) Ë)) aN)
def û:Â AV->S->R AV:=dU 2 cg
def du:Ms:=
 (gb (cB (Ó uo (mv 1) (aI (œ 9 "rows") (mv 0)))) (yk 3 (Á (fJ (ar (mc (.str "no work is called ")) (ar (aI gB (mv 1)) lh))) Ë)) aN)
def č:Â AV->S->R AV:=dU 2 du
def gS:Ms:=
 (ş (UM (Ó o_ (mv 1) (aI (œ 9 "keeps") (mv 0))) (Ó o_ (mv 1) (aI (œ 9 "rows") (mv 0)))))
def Ũ:Â AV->S->R AV:=dU 2 gS
def dt:Ms:=
 (gb (cT (ē 9 "has_name" 1 Ũ (mv 0) (Á (mv 1) Ë))) (yk 2 (Á (fJ (ar (mc (.str "a person or a work is called ")) (ar (aI gB (mv 1)) (ar (mc (.str " already")) lh)))) Ë)) aN)
def ř:Â AV->S->R AV:=dU 2 dt
def cR:Ms:=
 (ý (ĥ (ē 9 "need_free" 1 ř (mv 0) (Á (mv 1) Ë)))
    (kJ (aI (œ 9 "keeps") (mv 0)) (mv 1) (mc ž)))
def Ő:Â AV->S->R AV:=dU 2 cR
def en:Ms:=
 (ý (ĥ (ē 9 "need_free" 1 ř (mv 0) (Á (mv 1) Ë)))
    (kJ (aI (œ 9 "rows") (mv 0)) (mv 1) (î Ë)))
def ŧ:Â AV->S->R AV:=dU 2 en
def dG:Ms:=
 (ş (ī (qc (aI (œ 9 "keeps") (mv 0)))))
def Ş:Â AV->S->R AV:=dU 1 dG
def fj:Ms:=
 (ş (ī (qc (aI (œ 9 "rows") (mv 0)))))
def Ź:Â AV->S->R AV:=dU 1 fj
def bw:Ms:=
 (ý (ĥ (ē 9 "need_work" 1 č (mv 0) (Á (mv 1) Ë)))
 (ý (qE (aX (mv 2)) (gT 3 (ß (gN 3) (ß (gN 4) (ß (gN 5) Ű)))) (gb (p6 (cT (ē 9 "has_name" 1 Ũ (mv 0) (Á (mv 4) Ë)))) (yk 3 (Á (fJ (ar (mc (.str "no person and no work is called ")) (ar (aI gB (mv 4)) lh))) Ë)) aN))
 (ý (gb (cT (ě 1 aj (Á (mv 2) Ë))) (yk 4 (Á (mc (.str "the rows give away more than the whole")) Ë)) aN)
    (kJ (aI (œ 9 "rows") (mv 0)) (mv 1) (mv 2)))))
def İ:Â AV->S->R AV:=dU 6 bw
def fi:Ms:=
 (ý (ĥ (ē 9 "need_work" 1 č (mv 0) (Á (mv 1) Ë)))
 (ş (Ó fZ (aI (œ 9 "rows") (mv 0)) (mv 1))))
def ŋ:Â AV->S->R AV:=dU 2 fi
def a5:Ms:=
 (ý (ĥ (ē 9 "need_person" 1 û (mv 0) (Á (mv 1) Ë)))
 (ý (ĥ (ē 9 "need_person" 1 û (mv 0) (Á (mv 3) Ë)))
 (ý (gb (cB (Ó bf (mv 1) (mv 3))) (yk 3 (Á (mc (.str "nobody hands on to themselves")) Ë)) aN)
 (ý (gb (cB (ue (Á (mv 1) (Á (mv 2) Ë)) (aI (œ 9 "hands") (mv 0)))) (yk 2 (Á (fJ (ar (aI gB (mv 1)) (ar (mc (.str " has a hand of that day already")) lh))) Ë)) aN)
    (qD (aI (œ 9 "hands") (mv 0)) (Á (mv 1) (Á (mv 2) Ë)) (î (Á (mv 3) (Á (mv 4) Ë))))))))
def Ī:Â AV->S->R AV:=dU 5 a5
def eo:Ms:=
 (ý (ĥ (ē 9 "need_person" 1 û (mv 0) (Á (mv 1) Ë)))
 (ş (ī (Ż [("giver",none),("day",none),("name",none),("part",none),("person",À 1)] (uF (i9 (aI (œ 9 "hands") (mv 0)))) (gT 2 (ß (gT 2 (ß (gN 0) (ß (gN 1) Ű))) (ß (gT 2 (ß (gN 2) (ß (gN 3) Ű))) Ű))) (cB (Ó bf (mv 0) (mv 4))) (î (Á (mv 1) (Á (mv 2) (Á (mv 3) Ë))))))))
def Ň:Â AV->S->R AV:=dU 2 eo
def aK:Ms:=
 (ý (ĥ (ē 9 "need_work" 1 č (mv 0) (Á (mv 1) Ë)))
 (ý (ĥ (ē 9 "need_person" 1 û (mv 0) (Á (mv 3) Ë)))
 (ý (gb (cB (Ó o_ (mv 1) (aI (œ 9 "makers") (mv 0)))) (yk 2 (Á (fJ (ar (mc (.str "the maker of ")) (ar (aI gB (mv 1)) (ar (mc (.str " is known already")) lh)))) Ë)) aN)
    (kJ (aI (œ 9 "makers") (mv 0)) (mv 1) (î (Á (mv 2) (Á (mv 3) Ë)))))))
def Ė:Â AV->S->R AV:=dU 4 aK
def ey:Ms:=
 (ý (ĥ (ē 9 "need_work" 1 č (mv 0) (Á (mv 1) Ë)))
 (ş (z_ (aI (œ 9 "makers") (mv 0)) (mv 1))))
def ň:Â AV->S->R AV:=dU 2 ey
def cC:Ms:=
 (ý (gb (cB (Ó bf (mv 1) (mc iL))) (yk 2 (Á (mc (.str "a coin is worth a coin")) Ë)) aN)
 (ý (gb (cB (ue (Á (mv 1) (Á (mv 2) Ë)) (aI (œ 9 "rates") (mv 0)))) (yk 2 (Á (fJ (ar (aI gB (mv 1)) (ar (mc (.str " has a worth of that day already")) lh))) Ë)) aN)
    (qD (aI (œ 9 "rates") (mv 0)) (Á (mv 1) (Á (mv 2) Ë)) (mv 3))))
def ŉ:Â AV->S->R AV:=dU 4 cC
def cE:Ms:=
 (ý (gb (cB (Ó bf (mv 1) (mc iL))) (ş (mc nj)) aN)
 (ý (FE (aI (œ 9 "rates") (mv 0)) (Š 3 (ī (Ż [("told",none),("told_day",none),("currency",À 1),("day",À 2)] (FL (aI (œ 9 "rates") (mv 0))) (gT 2 (ß (gN 0) (ß (gN 1) Ű))) (zm (cB (Ó bf (mv 0) (mv 2))) (cB (Ó xY (mv 1) (mv 3)))) (mv 1)))))
 (ý (gb (p6 (cT (mv 3))) (yk 5 (Á (fJ (ar (aI gB (mv 1)) (ar (mc (.str " has no worth on that day")) lh))) Ë)) aN)
 (ş (ud (aI (œ 9 "rates") (mv 0)) (Á (mv 1) (Á (vo B8 (ua (mv 3))) Ë)))))))
def å:Â AV->S->R AV:=dU 4 cE
def fQ:Ms:=
 (ş (ī (Ż [("worth",none),("currency",none),("day",none)] (uF (i9 (aI (œ 9 "rates") (mv 0)))) (gT 2 (ß (gT 2 (ß (gN 1) (ß (gN 2) Ű))) (ß (gN 0) Ű))) jk (î (Á (mv 1) (Á (mv 2) (Á (mv 0) Ë)))))))
def aZ:Â AV->S->R AV:=dU 1 fQ
def eB:Ms:=
 (ý (ĥ (ē 9 "need_person" 1 û (mv 0) (Á (mv 1) Ë)))
    (kJ (aI (œ 9 "keeps") (mv 0)) (mv 1) (mv 2)))
def Ū:Â AV->S->R AV:=dU 3 eB
def fe:Ms:=
 (ý (ĥ (ē 9 "need_person" 1 û (mv 0) (Á (mv 1) Ë)))
 (ş (Ó fZ (aI (œ 9 "keeps") (mv 0)) (mv 1))))
def Ŗ:Â AV->S->R AV:=dU 2 fe
def gU:Ms:=
  (iN 9 "half" (mv 0) (mv 1))
def aR:Â AV->S->R AV:=dU 2 gU
def fO:Ms:=
 (ş (aI (œ 9 "half") (mv 0)))
def ai:Â AV->S->R AV:=dU 1 fO
def cD:Ms:=
 (ý (ĥ (ē 9 "need_work" 1 č (mv 0) (Á (mv 2) Ë)))
 (ý (ĥ (ē 9 "worth_of" 2 å (mv 0) (Á (mv 5) (Á (mv 1) Ë))))
 (ĥ (eN "list" a6 (aI (œ 9 "money") (mv 0)) (Á (î (Á (mc (.str "sold")) (Á (mv 1) (Á (mv 2) (Á (mv 3) (Á (mv 4) (Á (mv 5) Ë))))))) Ë)))))
def Ŋ:Â AV->S->R AV:=dU 6 cD
def bu:Ms:=
 (ý (ĥ (ē 9 "need_work" 1 č (mv 0) (Á (mv 2) Ë)))
 (ý (ĥ (ē 9 "worth_of" 2 å (mv 0) (Á (mv 5) (Á (mv 1) Ë))))
 (ý (Š 6 (î (Á (mc (.str "back")) (Á (mv 1) (Á (mv 2) (Á (mv 3) (Á (mv 4) (Á (mv 5) Ë))))))))
 (ý (gb (cT (BC (ě 2 ax (Á (ī (i_ (ě 1 aM (Á (Ó ĸ (aI (œ 9 "money") (mv 0)) (ī (Ŵ (Á (mv 6) Ë)))) Ë)))) (Á (mv 2) Ë))))) (yk 6 (Á (fJ (ar (mc (.str "more of ")) (ar (aI gB (mv 2)) (ar (mc (.str " would be brought back than were left")) lh)))) Ë)) aN)
 (ĥ (eN "list" a6 (aI (œ 9 "money") (mv 0)) (Á (mv 6) Ë)))))))
def į:Â AV->S->R AV:=dU 7 bu
def fh:Ms:=
 (ş (ī (i_ (ě 1 aM (Á (aI (œ 9 "money") (mv 0)) Ë)))))
def Ÿ:Â AV->S->R AV:=dU 1 fh
def eA:Ms:=
 (ý (ĥ (ē 9 "need_person" 1 û (mv 0) (Á (mv 3) Ë)))
 (ĥ (eN "list" a6 (aI (œ 9 "debts") (mv 0)) (Á (î (Á (mv 1) (Á (mv 2) (Á (mv 3) (Á (mv 4) Ë))))) Ë))))
def ũ:Â AV->S->R AV:=dU 5 eA
def fN:Ms:=
 (ş (ī (i_ (ě 1 aM (Á (aI (œ 9 "debts") (mv 0)) Ë)))))
def ah:Â AV->S->R AV:=dU 1 fN
def iB:Ms:=
 (ý (Š 2 (ī (G4 "str" pa (mc (.str "b aa zebra c quartzes ab m knows d mm likes z ba abcdefgh y zz e x f g hh jj kk say")) (Á (mc (.str " ")) Ë))))
 (ş (ī (Ż [("_law_turn",none),("_law_some",À 2),("_law_state",À 0)] (IJ (Á (mv 1) Ë)) (gN 0) jk (eN "list" ra (mv 1) (Á (ě 2 Ţ (Á (mv 2) (Á (A2 kI (Á (mv 1) Ë)) Ë))) Ë))))))
def bT:Â AV->S->R AV:=dU 3 iB
def j7:Ms:=
 (ý (r3 2 3 (Á (ē 9 "person_names" 0 Ş (mv 0) Ë) (Á (ē 9 "work_names" 0 Ź (mv 0) Ë) Ë)))
 (ý (Š 1 (ī (Ŵ (Á (ē 9 "half_days" 0 ai (mv 0) Ë) (Á (mv 2) (Á (mv 3) (Á (ī (Ż [("_law_work",none),("_law_book",À 0)] (aX (mv 3)) (gN 0) jk (ē 9 "rows_of" 1 ŋ (mv 1) (Á (mv 0) Ë)))) Ë)))))))
 (ý (Š 1 (Ó ĸ (mv 1) (ī (Ŵ (Á (ī (Ż [("_law_person",none),("_law_book",À 0)] (aX (mv 2)) (gN 0) jk (ē 9 "hands_of" 1 Ň (mv 1) (Á (mv 0) Ë)))) (Á (ī (Ż [("_law_work",none),("_law_book",À 0)] (aX (mv 3)) (gN 0) jk (ē 9 "known_of" 1 ň (mv 1) (Á (mv 0) Ë)))) Ë))))))
 (ý (Š 1 (Ó ĸ (mv 1) (ī (Ŵ (Á (ī (Ż [("_law_person",none),("_law_book",À 0)] (aX (mv 2)) (gN 0) jk (ē 9 "keep_of" 1 Ŗ (mv 1) (Á (mv 0) Ë)))) (Á (ē 9 "rate_list" 0 aZ (mv 0) Ë) Ë))))))
 (ş (Ó ĸ (mv 1) (ī (Ŵ (Á (ē 9 "money_list" 0 Ÿ (mv 0) Ë) (Á (ē 9 "debt_list" 0 ah (mv 0) Ë) Ë))))))))))
def ck:Â AV->S->R AV:=dU 4 j7
def eJ:Ms:=
 (gb (cB (Ó bf (Ó Ċ (mv 1) (mc (.int 0))) (mc (.str "rows_of")))) (ĥ (ē 9 "rows_of" 1 ŋ (mv 0) (Á (Ó Ċ (mv 1) (mc (.int 1))) Ë))) (gb (cB (Ó bf (Ó Ċ (mv 1) (mc (.int 0))) (mc (.str "hands_of")))) (ĥ (ē 9 "hands_of" 1 Ň (mv 0) (Á (Ó Ċ (mv 1) (mc (.int 1))) Ë))) (gb (cB (Ó bf (Ó Ċ (mv 1) (mc (.int 0))) (mc (.str "known_of")))) (ĥ (ē 9 "known_of" 1 ň (mv 0) (Á (Ó Ċ (mv 1) (mc (.int 1))) Ë))) (gb (cB (Ó bf (Ó Ċ (mv 1) (mc (.int 0))) (mc (.str "keep_of")))) (ĥ (ē 9 "keep_of" 1 Ŗ (mv 0) (Á (Ó Ċ (mv 1) (mc (.int 1))) Ë))) (ĥ (ē 9 "worth_of" 2 å (mv 0) (Á (Ó Ċ (mv 1) (mc (.int 1))) (Á (Ó Ċ (mv 1) (mc (.int 2))) Ë))))))))
def ź:Â AV->S->R AV:=dU 2 eJ
def ļ:Ms:=
 (ý (Š 2 (Ó Ċ (mv 1) (mc (.int 0))))
 (gb (cB (Ó bf (mv 2) (mc (.str "person")))) (ĥ (ē 9 "add_person" 1 Ő (mv 0) (Á (Ó Ċ (mv 1) (mc (.int 1))) Ë))) (gb (cB (Ó bf (mv 2) (mc (.str "work")))) (ĥ (ē 9 "add_work" 1 ŧ (mv 0) (Á (Ó Ċ (mv 1) (mc (.int 1))) Ë))) (gb (cB (Ó bf (mv 2) (mc (.str "rows")))) (ĥ (ē 9 "put_rows" 2 İ (mv 0) (Á (Ó Ċ (mv 1) (mc (.int 1))) (Á (Ó Ċ (mv 1) (mc (.int 2))) Ë)))) (gb (cB (Ó bf (mv 2) (mc (.str "hand")))) (ĥ (ē 9 "hand_on" 4 Ī (mv 0) (Á (Ó Ċ (mv 1) (mc (.int 1))) (Á (Ó Ċ (mv 1) (mc (.int 2))) (Á (Ó Ċ (mv 1) (mc (.int 3))) (Á (Ó Ċ (mv 1) (mc (.int 4))) Ë)))))) (gb (cB (Ó bf (mv 2) (mc (.str "known")))) (ĥ (ē 9 "make_known" 3 Ė (mv 0) (Á (Ó Ċ (mv 1) (mc (.int 1))) (Á (Ó Ċ (mv 1) (mc (.int 2))) (Á (Ó Ċ (mv 1) (mc (.int 3))) Ë))))) (gb (cB (Ó bf (mv 2) (mc (.str "rate")))) (ĥ (ē 9 "put_rate" 3 ŉ (mv 0) (Á (Ó Ċ (mv 1) (mc (.int 1))) (Á (Ó Ċ (mv 1) (mc (.int 2))) (Á (Ó Ċ (mv 1) (mc (.int 3))) Ë))))) (gb (cB (Ó bf (mv 2) (mc (.str "keep")))) (ĥ (ē 9 "put_keep" 2 Ū (mv 0) (Á (Ó Ċ (mv 1) (mc (.int 1))) (Á (Ó Ċ (mv 1) (mc (.int 2))) Ë)))) (gb (cB (Ó bf (mv 2) (mc (.str "half")))) (ĥ (ē 9 "put_half" 1 aR (mv 0) (Á (Ó Ċ (mv 1) (mc (.int 1))) Ë))) (gb (cB (Ó bf (mv 2) (mc (.str "sold")))) (ĥ (ē 9 "put_sold" 5 Ŋ (mv 0) (Á (Ó Ċ (mv 1) (mc (.int 1))) (Á (Ó Ċ (mv 1) (mc (.int 2))) (Á (Ó Ċ (mv 1) (mc (.int 3))) (Á (Ó Ċ (mv 1) (mc (.int 4))) (Á (Ó Ċ (mv 1) (mc (.int 5))) Ë))))))) (gb (cB (Ó bf (mv 2) (mc (.str "back")))) (ĥ (ē 9 "put_back" 5 į (mv 0) (Á (Ó Ċ (mv 1) (mc (.int 1))) (Á (Ó Ċ (mv 1) (mc (.int 2))) (Á (Ó Ċ (mv 1) (mc (.int 3))) (Á (Ó Ċ (mv 1) (mc (.int 4))) (Á (Ó Ċ (mv 1) (mc (.int 5))) Ë))))))) (gb (cB (Ó bf (mv 2) (mc (.str "debt")))) (ĥ (ē 9 "put_debt" 4 ũ (mv 0) (Á (Ó Ċ (mv 1) (mc (.int 1))) (Á (Ó Ċ (mv 1) (mc (.int 2))) (Á (Ó Ċ (mv 1) (mc (.int 3))) (Á (Ó Ċ (mv 1) (mc (.int 4))) Ë)))))) (ĥ (ě 2 ź (Á (mv 0) (Á (mv 1) Ë))))))))))))))))
def Þ:Â AV->S->R AV:=dU 3 ļ
def i4:Ms:=
 (ý (Š 2 (mc .Ě))
 (ý (Cc 5 4 (λc=>decide (c<9)&&ĉ 0 c) (ĥ (ě 2 Þ (Á (mv 0) (Á (mv 1) Ë)))) (Š 2 (mv 4)))
 (ý (gb (cB (Ó ur (mv 2) (mc .Ě))) (ş (mc (.str ""))) aN)
 (ý (Š 3 (ī (Ŵ (Á (aI (eS (vg 3)) (mv 2)) (Á (aI (eS (vg 2)) (mv 2)) (Á (aI (eS (vg 4)) (mv 2)) Ë))))))
 (ý (Š 3 (Ó ĸ (mv 3) (ī (Ŵ (Á (aI (eS (vg 5)) (mv 2)) (Á (aI (eS (vg 6)) (mv 2)) Ë))))))
 (ý (gb (FZ (cB (Ó iW (eN "list" mG (mv 3) (Á (mc (.bl true)) Ë)) (mc (.int 1)))) (cT (aI (eS (zf [1,8,7])) (mv 2)))) (ş (mc (.str "other"))) aN)
 (ş (BC (Ó Ċ (ī (Ŵ (Á (mc (.str "NoName")) (Á (mc (.str "Taken")) (Á (mc (.str "TooMuch")) (Á (mc (.str "NoRate")) (Á (mc (.str "NoneLeft")) Ë))))))) (eN "list" jb (mv 3) (Á (mc (.bl true)) Ë)))))))))))
def ţ:Â AV->S->R AV:=dU 5 i4
def iC:Ms:=
 (ý (Š 1 (ī (i_ (ě 2 bT (Á (mv 0) (Á (mc (.int 8)) Ë))))))
 (ý (r3 5 6 (Á (OO (mv 1) oN (oS (Ó ĸ (mc (.int 2)) (ě 2 Ţ (Á (mv 0) (Á (mc (.int 3)) Ë)))))) (Á (OO (mv 1) (oS (mc (.int 4))) (oS (Ó ĸ (mc (.int 6)) (ě 2 Ţ (Á (mv 0) (Á (mc (.int 3)) Ë)))))) Ë)))
 (ý (Ay 7 8 9 (Á (ě 2 Ţ (Á (mv 0) (Á (mc (.int 300)) Ë))) (Á (Ó ĸ (mc (.int 1)) (ě 2 Ţ (Á (mv 0) (Á (mc (.int 300)) Ë)))) (Á (Ó ĸ (mc (.int 1)) (ě 2 Ţ (Á (mv 0) (Á (mc (.int 300)) Ë)))) Ë))))
 (ý (Š 2 (Ó ĸ (ī (Ż [("_law_name",none)] (aX (mv 5)) (gN 0) jk (î (Á (mc (.str "person")) (Á (mv 0) Ë))))) (ī (Ż [("_law_name",none)] (aX (mv 6)) (gN 0) jk (î (Á (mc (.str "work")) (Á (mv 0) Ë)))))))
 (ý (Š 2 (Ó ĸ (mv 2) (ī (Ŵ (Á (î (Á (mc (.str "rows")) (Á (Ó Ċ (mv 6) (mc (.int 0))) (Á (î (Á (î (Á (mc (.str "of")) (Á (Ó Ċ (mv 5) (mc (.int 0))) (Á (î (Á (mc (.int 1)) (Á (mc (.int 3)) Ë))) Ë)))) (Á (î (Á (mc (.str "left")) (Á (Ó Ċ (mv 6) (mc (.int 1))) (Á (î (Á (mc (.int 1)) (Á (mc (.int 2)) Ë))) Ë)))) Ë))) Ë)))) (Á (î (Á (mc (.str "half")) (Á (mc (.int 30)) Ë))) Ë))))))
 (ý (Š 2 (Ó ĸ (mv 2) (ī (Ŵ (Á (î (Á (mc (.str "hand")) (Á (Ó Ċ (mv 5) (mc (.int 0))) (Á (mv 7) (Á (Ó Ċ (mv 5) (mc (.int 1))) (Á (î (Á (mc (.int 1)) (Á (mc (.int 2)) Ë))) Ë)))))) (Á (î (Á (mc (.str "known")) (Á (Ó Ċ (mv 6) (mc (.int 0))) (Á (mc (.int 3)) (Á (Ó Ċ (mv 5) (mc (.int 1))) Ë))))) Ë))))))
 (ý (Š 2 (Ó ĸ (mv 2) (ī (Ŵ (Á (î (Á (mc (.str "rate")) (Á (mc (.str "usd")) (Á (mv 8) (Á (î (Á (mc (.int 2)) (Á (mc (.int 3)) Ë))) Ë))))) (Á (î (Á (mc (.str "keep")) (Á (Ó Ċ (mv 5) (mc (.int 1))) (Á (î (Á (mc (.int 1)) (Á (mc (.int 4)) Ë))) Ë)))) (Á (î (Á (mc (.str "debt")) (Á (mc (.str "wrong")) (Á (mc (.int 5)) (Á (Ó Ċ (mv 5) (mc (.int 0))) (Á (mc (.int 7)) Ë)))))) Ë)))))))
 (ý (Š 2 (Ó ĸ (mv 2) (ī (Ŵ (Á (î (Á (mc (.str "sold")) (Á (mv 9) (Á (Ó Ċ (mv 6) (mc (.int 0))) (Á (mc (.int 5)) (Á (mc (.int 90)) (Á (mc (.str "coin")) Ë))))))) (Á (î (Á (mc (.str "back")) (Á (Ó ĸ (mv 9) (mc (.int 4))) (Á (Ó Ċ (mv 6) (mc (.int 0))) (Á (mc (.int 2)) (Á (mc (.int 1)) (Á (mc (.str "coin")) Ë))))))) Ë))))))
 (ý (Š 3 (qk 9 aQ))
 (ý (qE (aX (mv 2)) (gN 4) (ĥ (ě 2 Þ (Á (mv 3) (Á (mv 4) Ë)))))
 (ş (î (Á (mv 3) (Á (mv 5) (Á (mv 6) (Á (î (Á (mv 7) (Á (mv 8) (Á (mv 9) Ë)))) Ë))))))))))))))))
def bU:Â AV->S->R AV:=dU 10 iC
def j8:Ms:=
 (ý (m3 (î (Á (Ó Ċ (mv 0) (mc (.int 0))) (Á (Ó Ċ (mv 0) (mc (.int 1))) (Á (Ó Ċ (mv 1) (mc (.int 0))) (Á (Ó Ċ (mv 1) (mc (.int 1))) Ë))))) (gT 4 (ß (gN 5) (ß (gN 6) (ß (gN 7) (ß (gN 8) Ű))))))
 (ý (m3 (mv 2) (gT 3 (ß (gN 9) (ß (gN 10) (ß (gN 11) Ű)))))
 (ý (Š 3 (î (Á (î (Á (mc (.str "of")) (Á (mv 5) (Á (î (Á (mc (.int 2)) (Á (mc (.int 3)) Ë))) Ë)))) (Á (î (Á (mc (.str "steps")) (Á (mv 6) (Á (î (Á (î (Á (mc (.int 4)) (Á (î (Á (mc (.int 1)) (Á (mc (.int 2)) Ë))) Ë))) (Á (î (Á (mc .Ě) (Á (î (Á (mc (.int 1)) (Á (mc (.int 9)) Ë))) Ë))) Ë))) Ë)))) Ë))))
 (ý (Š 4 (ī (Ŵ (Á (î (Á (î (Á (mc (.str "person")) (Á (mv 7) Ë))) (Á (mc (.str "Taken")) Ë))) (Á (î (Á (î (Á (mc (.str "work")) (Á (mv 5) Ë))) (Á (mc (.str "Taken")) Ë))) (Á (î (Á (î (Á (mc (.str "person")) (Á (mv 5) Ë))) (Á (mc (.str "Taken")) Ë))) Ë))))))
 (ý (Š 4 (Ó ĸ (mv 4) (ī (Ŵ (Á (î (Á (î (Á (mc (.str "rows")) (Á (mc (.str "nobody")) (Á (mv 3) Ë)))) (Á (mc (.str "NoName")) Ë))) (Á (î (Á (î (Á (mc (.str "rows")) (Á (mv 5) (Á (mv 3) Ë)))) (Á (mc (.str "NoName")) Ë))) Ë))))))
 (ý (Š 4 (Ó ĸ (mv 4) (ī (Ŵ (Á (î (Á (î (Á (mc (.str "rows")) (Á (mv 7) (Á (Ó ĸ (mv 3) (î (Á (î (Á (mc (.str "left")) (Á (mc (.str "nobody")) (Á (î (Á (mc (.int 1)) (Á (mc (.int 2)) Ë))) Ë)))) Ë))) Ë)))) (Á (mc (.str "NoName")) Ë))) Ë)))))
 (ý (ĥ (eN "list" a6 (mv 4) (Á (î (Á (î (Á (mc (.str "rows")) (Á (mv 7) (Á (mv 3) Ë)))) (Á (mc (.str "TooMuch")) Ë))) Ë)))
 (ý (Š 4 (Ó ĸ (mv 4) (ī (Ŵ (Á (î (Á (î (Á (mc (.str "hand")) (Á (mv 5) (Á (mv 9) (Á (mc (.str "nobody")) (Á (î (Á (mc (.int 1)) (Á (mc (.int 9)) Ë))) Ë)))))) (Á (mc (.str "NoName")) Ë))) (Á (î (Á (î (Á (mc (.str "hand")) (Á (mv 5) (Á (mv 9) (Á (mv 5) (Á (î (Á (mc (.int 1)) (Á (mc (.int 9)) Ë))) Ë)))))) (Á (mc (.str "NoName")) Ë))) Ë))))))
 (ý (Š 4 (Ó ĸ (mv 4) (ī (Ŵ (Á (î (Á (î (Á (mc (.str "hand")) (Á (mv 5) (Á (mv 9) (Á (mv 7) (Á (î (Á (mc (.int 1)) (Á (mc (.int 9)) Ë))) Ë)))))) (Á (mc (.str "NoName")) Ë))) (Á (î (Á (î (Á (mc (.str "hand")) (Á (mv 7) (Á (mv 9) (Á (mv 6) (Á (î (Á (mc (.int 1)) (Á (mc (.int 9)) Ë))) Ë)))))) (Á (mc (.str "NoName")) Ë))) Ë))))))
 (ý (Š 4 (Ó ĸ (mv 4) (ī (Ŵ (Á (î (Á (î (Á (mc (.str "hand")) (Á (mv 5) (Á (mv 9) (Á (mv 6) (Á (î (Á (mc (.int 1)) (Á (mc (.int 9)) Ë))) Ë)))))) (Á (mc (.str "Taken")) Ë))) (Á (î (Á (î (Á (mc (.str "known")) (Á (mv 7) (Á (mc (.int 9)) (Á (mv 8) Ë))))) (Á (mc (.str "NoName")) Ë))) Ë))))))
 (ý (Š 4 (Ó ĸ (mv 4) (ī (Ŵ (Á (î (Á (î (Á (mc (.str "known")) (Á (mv 7) (Á (mc (.int 9)) (Á (mc (.str "nobody")) Ë))))) (Á (mc (.str "NoName")) Ë))) (Á (î (Á (î (Á (mc (.str "known")) (Á (mv 5) (Á (mc (.int 9)) (Á (mv 6) Ë))))) (Á (mc (.str "NoName")) Ë))) Ë))))))
 (ý (Š 4 (Ó ĸ (mv 4) (ī (Ŵ (Á (î (Á (î (Á (mc (.str "known")) (Á (mv 7) (Á (mc (.int 9)) (Á (mv 5) Ë))))) (Á (mc (.str "Taken")) Ë))) (Á (î (Á (î (Á (mc (.str "rate")) (Á (mc (.str "usd")) (Á (mv 10) (Á (î (Á (mc (.int 1)) (Á (mc (.int 2)) Ë))) Ë))))) (Á (mc (.str "Taken")) Ë))) Ë))))))
 (ý (Š 4 (Ó ĸ (mv 4) (ī (Ŵ (Á (î (Á (î (Á (mc (.str "rate")) (Á (mc (.str "coin")) (Á (mv 10) (Á (î (Á (mc (.int 1)) (Á (mc (.int 1)) Ë))) Ë))))) (Á (mc (.str "Taken")) Ë))) (Á (î (Á (î (Á (mc (.str "keep")) (Á (mv 7) (Á (î (Á (mc (.int 1)) (Á (mc (.int 2)) Ë))) Ë)))) (Á (mc (.str "NoName")) Ë))) Ë))))))
 (ý (Š 4 (Ó ĸ (mv 4) (ī (Ŵ (Á (î (Á (î (Á (mc (.str "sold")) (Á (mc (.int 0)) (Á (mv 5) (Á (mc (.int 1)) (Á (mc (.int 1)) (Á (mc (.str "usd")) Ë))))))) (Á (mc (.str "NoName")) Ë))) (Á (î (Á (î (Á (mc (.str "sold")) (Á (Ó wj (mv 10) (mc (.int 1))) (Á (mv 7) (Á (mc (.int 1)) (Á (mc (.int 1)) (Á (mc (.str "usd")) Ë))))))) (Á (mc (.str "NoRate")) Ë))) Ë))))))
 (ý (Š 4 (Ó ĸ (mv 4) (ī (Ŵ (Á (î (Á (î (Á (mc (.str "back")) (Á (mc (.int 0)) (Á (mc (.str "nobody")) (Á (mc (.int 9)) (Á (mc (.int 1)) (Á (mc (.str "usd")) Ë))))))) (Á (mc (.str "NoName")) Ë))) (Á (î (Á (î (Á (mc (.str "back")) (Á (mc (.int 0)) (Á (mv 7) (Á (mc (.int 9)) (Á (mc (.int 1)) (Á (mc (.str "usd")) Ë))))))) (Á (mc (.str "NoRate")) Ë))) Ë))))))
 (ý (qE (aX (î (Á (î (Á (Ó ĸ (mv 11) (mc (.int 9))) (Á (mv 7) (Á (mc (.int 4)) Ë)))) (Á (î (Á (mv 11) (Á (mv 7) (Á (mc (.int 4)) Ë)))) (Á (î (Á (Ó wj (mv 11) (mc (.int 1))) (Á (mv 7) (Á (mc (.int 1)) Ë)))) (Á (î (Á (mc (.int 0)) (Á (mv 8) (Á (mc (.int 1)) Ë)))) Ë)))))) (gT 3 (ß (gN 12) (ß (gN 13) (ß (gN 14) Ű)))) (ĥ (eN "list" a6 (mv 4) (Á (î (Á (î (Á (mc (.str "back")) (Á (mv 12) (Á (mv 13) (Á (mv 14) (Á (mc (.int 1)) (Á (mc (.str "coin")) Ë))))))) (Á (mc (.str "NoneLeft")) Ë))) Ë))))
 (ý (Š 4 (Ó ĸ (mv 4) (ī (Ŵ (Á (î (Á (î (Á (mc (.str "debt")) (Á (mc (.str "advance")) (Á (mc (.int 1)) (Á (mv 8) (Á (mc (.int 1)) Ë)))))) (Á (mc (.str "NoName")) Ë))) (Á (î (Á (î (Á (mc (.str "rows_of")) (Á (mv 5) Ë))) (Á (mc (.str "NoName")) Ë))) Ë))))))
 (ý (Š 4 (Ó ĸ (mv 4) (ī (Ŵ (Á (î (Á (î (Á (mc (.str "hands_of")) (Á (mv 7) Ë))) (Á (mc (.str "NoName")) Ë))) (Á (î (Á (î (Á (mc (.str "known_of")) (Á (mv 6) Ë))) (Á (mc (.str "NoName")) Ë))) (Á (î (Á (î (Á (mc (.str "keep_of")) (Á (mv 8) Ë))) (Á (mc (.str "NoName")) Ë))) Ë)))))))
 (ş (Ó ĸ (mv 4) (ī (Ŵ (Á (î (Á (î (Á (mc (.str "worth_of")) (Á (mc (.str "eur")) (Á (mc (.int 900)) Ë)))) (Á (mc (.str "NoRate")) Ë))) (Á (î (Á (î (Á (mc (.str "worth_of")) (Á (mc (.str "usd")) (Á (Ó wj (mv 10) (mc (.int 1))) Ë)))) (Á (mc (.str "NoRate")) Ë))) Ë))))))))))))))))))))))))
def fR:Â AV->S->R AV:=dU 15 j8
def Gp:Ms:=
 (ý (Š 1 (ě 1 dv (Á (mv 0) Ë)))
 (ý (m3 (ě 1 bU (Á (mv 1) Ë)) (gT 4 (ß (gN 5) (ß (gN 6) (ß (gN 7) (ß (gN 8) Ű))))))
 (ý (Š 2 (ě 1 ck (Á (mv 5) Ë)))
 (ý (Š 3 (ī (i_ (ě 3 fR (Á (mv 6) (Á (mv 7) (Á (mv 8) Ë)))))))
 (ý (IF (λ_ _=>60) (KJ (cB (Ó iW (mv 3) (ī (Ŵ Ë))))) (ý (m3 (eN "list" ra (mv 3) (Á (ě 2 Ţ (Á (mv 1) (Á (A2 kI (Á (mv 3) Ë)) Ë))) Ë)) (gT 2 (ß (gN 9) (ß (gN 10) Ű))))
 (gb (FZ (cB (Ó iW (ě 2 ţ (Á (mv 5) (Á (mv 9) Ë))) (mv 10))) (p6 (cT (ě 2 (đ 9) (Á (ě 1 ck (Á (mv 5) Ë)) (Á (mv 2) Ë)))))) (ş (mc (.bl false))) aN)))
 (ý (Š 4 (ī (Ŵ (Á (î (Á (mc (.str "hand")) (Á (Ó Ċ (mv 6) (mc (.int 0))) (Á (Ó ĸ (Ó Ċ (mv 8) (mc (.int 0))) (mc (.int 1))) (Á (Ó Ċ (mv 6) (mc (.int 1))) (Á (î (Á (mc (.int 1)) (Á (mc (.int 9)) Ë))) Ë)))))) (Á (î (Á (mc (.str "known")) (Á (Ó Ċ (mv 7) (mc (.int 1))) (Á (mc (.int 9)) (Á (Ó Ċ (mv 6) (mc (.int 0))) Ë))))) Ë)))))
 (ý (Š 4 (Ó ĸ (mv 4) (ī (Ŵ (Á (î (Á (mc (.str "back")) (Á (Ó ĸ (Ó Ċ (mv 8) (mc (.int 2))) (mc (.int 9))) (Á (Ó Ċ (mv 7) (mc (.int 0))) (Á (mc (.int 3)) (Á (mc (.int 1)) (Á (mc (.str "coin")) Ë))))))) (Á (î (Á (mc (.str "sold")) (Á (Ó Ċ (mv 8) (mc (.int 1))) (Á (Ó Ċ (mv 7) (mc (.int 1))) (Á (mc (.int 1)) (Á (mc (.int 1)) (Á (mc (.str "usd")) Ë))))))) Ë))))))
 (ş (Ó bf (ī (Ż [("_law_deed_here",none),("_law_book",À 5)] (aX (mv 4)) (gN 0) jk (ě 2 ţ (Á (mv 1) (Á (mv 0) Ë))))) (ī (Ŵ (Á (mc (.str "")) (Á (mc (.str "")) (Á (mc (.str "")) (Á (mc (.str "")) Ë)))))))))))))))
def tD:Â AV->S->R AV:=dU 11 Gp
def top (i:Nat):Stmt:=Rj.main.body.getD i (.Pass ⟨0,0,0,0⟩)
set_option hygiene false in
local macro_rules |`(tactic|walk_at"a") => `(tactic|(show mg _=none; with_reducible assumption))
def xTm(p:Array Lean.Term)(s:String):Lean.Term:=
 let f a:=match List.reverse a with|[x]=>x|x::y=>Lean.Syntax.mkApp x y.toArray|_=>p[0]!
 f ((((s.replace "(" " ( ").replace ")" " ) ").splitOn " ").foldl (λs t=>match t,s with|"",_=>s|"(",_=>[]::s|")",a::b::r=>(f a::b)::r|")",_=>s|t,a::r=>((match t.toNat? with|some n=>p[n]!|_=>Lean.mkIdent t.toName)::a)::r|_,_=>s) [[]]).head!
set_option hygiene false in
def xTg:Array (Lean.TSyntax `Lean.Parser.Tactic.tacticSeq):=Lean.Unhygienic.run do
 let p:=#[←`(_),←`(?_),←`((_::_)),←`(by decide),←`([]),←`((by with_reducible assumption:wU T mg _ _)),←`((by with_reducible assumption:jh P w T mg base _ _ _ _)),←`(by first|with_reducible assumption|exact Sx),←`(by walk_at"a"),←`(by decide+kernel),←`((by with_reducible assumption:fF P w T mg base _ _ _ _ _)),←`((by with_reducible assumption:Rz P w T mg base _ _ _ _)),←`((by decide:2 <= 30)),←`(λ_ _ _ _=>?_),←`(λ_=>?_),←`((G4 "str" pa _ _)),←`((eN "list" a6 _ _)),←`((eN "list" ra _ _)),←`((eN "list" mG _ _)),←`((eN "list" jb _ _)),←`(by first |exact Ro.boot_int |exact Ro.boot_bool |exact Ro.boot_list |exact Ro.boot_tuple |exact Ro.boot_str),←`(by repeat (first|exact trivial|refine⟨⟨rfl,rfl,by first|exact .inl rfl|exact .inr rfl⟩,?_⟩)),←`(λ_ _ _ _ _=>?_),←`((by first|exact nd|(show List.Nodup (_::_);decide+kernel))),←`(by first|exact HY|exact FW)]
 (((((("~mv 0,Wd(pv 0);PA 0 2(tK 0),Dw xs 3 1;PA 0 4(tK 0),Dy;PA 0 2 0,An 1 1;Dz;OX;O5;O3;SD;~mc 0,O1 5;~Ó ĸ 0 0,ql(Wl rfl)1 1;~Ó wj 0 0,ql Wq 1 1;~Ó jd 0 0,ql Wm 1 1;~Ó kl 0 0,ql SY 1 1;~Ó jc 0 0,ql oMod 1 1;~Ó Dv 0 0,ql Wo 1 1;~ě 0 0 0,SA 6(hr.mono 1)1 7;~aI(eS(vg 0))0,OY xs 3 8 1;~aI(eS(zf 0))0,K' xs 3 3 8 1 1;~aI(œ 0 0)0,OV bk.cl(bk.na 0 9)1;~ē 0 0 0 0 0 Ë,Hy bk.cl 10(hr.mono 1)1 7;~ē 0 0 0 0 0 0,Ld bk.cl 10(hr.mono 1)1 1 7;~qk 0 0,Hx 11(hr.mono 1)7;^iN 0 0 0 0,Pe bk.cl(bk.na 0 9)1 1;~z_ 0 0,K8 AY 1 1;&i9 0,Fg 8(bz(JC 12 0)hu)1;&tR 0 0 0,HC 8(ZO hr)rfl hC 1;~vo B8(ua 0,Nd(RM rfl)8 9 1;~ud 0 0,Hw AY 1 1;%FL 0,Wf 1;^FE 0 0,Pn 1;^yk 0 0,SS xs 3 7 1;^Cc 0 0 0 0 0,SU xs 3 nd 13 14;~Ó Ċ 0 0,SH(oIx rfl)1 1;~Ó fZ 0 0,K4 AY 1 1;~î 0,O6 1;~ī 0,O2 1;&Ŵ 0,Pa 1;~Ó bf 0 0,nY(oEq rfl hu)1 1;~Ó iW 0 0,nY(YD rfl hu)1 1;~Ó Fq 0 0,nY oLt 1 1;~Ó xY 0 0,nY oLe 1 1;~Ó HR 0 0,nY YB 1 1;~Ó ur 0 0,nY S0 1 1;~Ó Al 0 0,nY(YC rfl)1 1;!Ó bf 0 0,km(oEq rfl hu)1 1;!Ó iW 0 0,km(YD rfl hu)1 1;!Ó Fq 0 0,km oLt 1 1;!Ó xY 0 0,km oLe 1 1;!Ó HR 0 0,km YB 1 1;!Ó ur 0 0,km S0 1 1;!Ó Al 0 0,km(YC rfl)1 1;~Ó o_ 0 0,OU AY 1 1;!Ó o_ 0 0,Qg AY 1 1;!Ó uo 0 0,L_ AY 1 1;Tf 1;L' 1;PW.pt(pw_and' 1 1);PW.pt(pw_or' 1 1);pw_and' 1 1;pw_or' 1 1;pw_and1' 1;pw_or1' 1;PT 0 0(jV 0 0(cT 0)),Wz rfl 1;O4 1;~aI Am 0,SK Wn 1;OS 1 1;SI 1 1;~Q9 0 0 0,SG 1 1 1;SE;HD 1 1 1;Lk;~OO 0 0 0,SJ rfl 1 1 1;Io;Ip 1;SF 1;Lj 1;Pb 1;PE 0 0(tL 0 0 15),O8 rfl PySem.F.plainAttrs_str PySem.F.slot_str_split PySem.F.type_str_split N2 1 1;PE 0 0(tE 0 0 16),xN rfl eY PySem.F.slot_list_append PySem.F.type_list_append Kr 1 1;PE 0 0(tE 0 0 17),xN rfl eY PySem.F.slot_list_pop PySem.F.type_list_pop VB 1 1;PE 0 0(tE 0 0 18),xN rfl eY PySem.F.slot_list_count PySem.F.type_list_count N0 1 1;PE 0 0(tE 0 0 19),xN rfl eY PySem.F.slot_list_index PySem.F.type_list_index N1 1 1;~A2 kI 0,OQ(Vy rfl)8 PySem.boot_len 1;~A2 wh 0,OQ cAbs 8 Ro.boot_abs 1;~A2 l0 0,OQ Km 8 Ro.boot_divmod 1;~vo Fz(ua 0,Nd(RK rfl)8 Ro.boot_all 1;~vo Fz 0,SM(RK rfl)8 Ro.boot_all 1;&vo DF 0,We(RL rfl)8 Ro.boot_list 1;&qc 0,HB 8 1;~aI(gC 0)0,O0 rfl 3 8 8 20 1;~aI gB 0,OW rfl 1;~fJ 0,Lb 1;PJ 0 2(tJ 0 0(ar 0 0)),Lh 1 1;O';&Ż 0 0 0 0 0,Li 0(eQ.of rfl 9 9 9 21)rfl 1 22 22 22;Il;Im 1;%IJ(Á 0 Ë,SN 8 1;%IK 0 0,O_ rfl 8 1 1;%uF 0,Wg rfl 1;%aX 0,Wh rfl 1;PG 0 0(tT 0 0(gN 0)),Le 23;PG 0 0(tT 0 0(gT 0 0)),O9 rfl rfl 1;PG 0 0(tT 0 0(lQ 0 0)),Lf 1 1;CM 0 2 0,HA 1 1;Lg;LA;Pw;LB;Lz 1 1;Px 1;^Š 0(ī(Ż 0 0 0 0 0,BX 0(eQ.of rfl 9 9 9 21)rfl nd 1 22 22 22;^Š 0 0,Pj nd 1;^ş 0,Ph 1;^gb 0 0 0,SQ 1 1 1;^ĥ 0,Lm 1;^qE 0 0 0,Pf 24 rfl 1 1 1;^r3 0 0 0,Pg rfl nd 1;^Ay 0 0 0 0,Ln rfl nd 1;^m3 0 0,Pc 1 1 1;^kJ 0 0 0,Ll AY 1 1 1;^qD 0 0 0,HE AY 1 1 1;PE 0 0(tE 0 0 Ff),OT;!ue 0 0,L9 AY 1 1;^FD 0 uq 0,Pd nd V0 1;^IF 0 0 0,Po 0 24 1 1;lH 0 0(tS 0 0(ý 0 0)),HG 1 1;lH 0 0(tS 0 0 aN),Lp".replace "~" "PE 0 0(tE 0 0(").replace "^" "PS 0 0(tS 0 0(").replace "&" "PE 0 0(tL 0 0(").replace "!" "PT 0 0(jV 0 0(cB(").replace "%" "PI 0 0 0(tW 0 0(").splitOn ";").toArray.mapM λs=>match s.splitOn "," with
 |[x,y]=>`(Lean.Parser.Tactic.tacticSeq|(with_reducible show $(xTm p (x++"))))")));refine $(xTm p y))
 |_=>`(Lean.Parser.Tactic.tacticSeq|with_reducible refine $(xTm p s))
set_option hygiene false in
local macro_rules|`(tactic|walk_at"q")=>do
 let g:=xTg
 `(tactic|(first|((with_reducible show(_:Nat)<=_);first|decide|lia)|((with_reducible show PE _ _ (tE _ _ (wc _)));(with_reducible refine K6 ?_ ?_ ?_ ?_ ?_);rotate_left;rfl;rfl;exact List.cons_ne_nil _ _;decide)$[|$g]*|refine Lr ?_)<;>walk_at"q")
local macro_rules |`(tactic|walk_at"b") => `(tactic|(intro _ _ _ _ _ _ us hl; first |(cases len0 hl; rfl) |(obtain ⟨_, e⟩ := Sq hl; subst e; rfl) |(obtain ⟨_, _, e⟩ := Sr hl; subst e; rfl) |(obtain ⟨_, _, _, e⟩ := Ss hl; subst e; rfl) |(obtain ⟨_, _, _, _, e⟩ := Su hl; subst e; rfl) |(obtain ⟨_, _, _, _, _, e⟩ := Sv hl; subst e; rfl) |(obtain ⟨_, _, _, _, _, _, e⟩ := Sw hl; subst e; rfl) |(obtain ⟨_, _, _, _, _, _, _, e⟩ := V_ hl; subst e; rfl)))
set_option hygiene false in
local macro_rules |`(tactic|walk_at"g") => `(tactic|(intro hr nd ls; have AY := M7 hr; have hu := Sf hr; walk_at"q"))
section
variable (P:ą)(w:ħ){T:Tx}{mg:Str->É Value}(base:Heap)(xs:Xs T mg)(bk:Bk T 9 ["keeps","rows","hands","makers","rates","half","money","debts"])
variable (uN:mg "abs"=none)
variable (uO:mg "all"=none)
variable (n8:mg "bool"=none)
variable (iQ:mg "divmod"=none)
variable (uP:mg "int"=none)
variable (aT:mg "isinstance"=none)
variable (jS:mg "len"=none)
variable (kC:mg "list"=none)
variable (uQ:mg "max"=none)
variable (kE:mg "range"=none)
variable (a7:mg "sorted"=none)
variable (uR:mg "str"=none)
variable (kF:mg "tuple"=none)
variable (uS:mg "zip"=none)
variable (kq:wU T mg "COIN" iL)
variable (ż:wU T mg "FIRST_HALF_DAYS" bC)
variable (bW:wU T mg "NOTHING" ž)
variable (pd:wU T mg "ONE" nj)
variable (Ž:wU T mg "WHOLE_COIN_ROWS" Ť)
variable (eL:jh P w T mg base "greatest_divisor" 2 1 ŭ)
variable (BF:jh P w T mg base "plus" 2 2 qb)
variable (tU:jh P w T mg base "sum_of" 1 3 gv)
variable (jJ:jh P w T mg base "is_less" 2 1 cI)
variable (hE:jh P w T mg base "greatest_part" 1 2 Ŀ)
variable (nX:jh P w T mg base "too_much" 1 4 aj)
variable (fV:jh P w T mg base "by_days" 1 1 aM)
variable (kg:jh P w T mg base "units_more" 1 1 cq)
variable (jn:jh P w T mg base "lacks_units" 2 2 ax)
variable (gX:Rz P w T mg base 9 "Book" 1 aQ)
variable (Ď:fF P w T mg base 9 "need_person" 1 1 û)
variable (Ĥ:fF P w T mg base 9 "need_work" 1 1 č)
variable (cG:fF P w T mg base 9 "has_name" 1 1 Ũ)
variable (bV:fF P w T mg base 9 "need_free" 1 2 ř)
variable (fo:fF P w T mg base 9 "add_person" 1 3 Ő)
variable (gY:fF P w T mg base 9 "add_work" 1 3 ŧ)
variable (dI:fF P w T mg base 9 "person_names" 0 1 Ş)
variable (fv:fF P w T mg base 9 "work_names" 0 1 Ź)
variable (g9:fF P w T mg base 9 "put_rows" 2 5 İ)
variable (c6:fF P w T mg base 9 "rows_of" 1 2 ŋ)
variable (iJ:fF P w T mg base 9 "hand_on" 4 2 Ī)
variable (cF:fF P w T mg base 9 "hands_of" 1 2 Ň)
variable (ft:fF P w T mg base 9 "make_known" 3 2 Ė)
variable (cH:fF P w T mg base 9 "known_of" 1 2 ň)
variable (g8:fF P w T mg base 9 "put_rate" 3 1 ŉ)
variable (aS:fF P w T mg base 9 "worth_of" 2 1 å)
variable (fU:fF P w T mg base 9 "rate_list" 0 1 aZ)
variable (g7:fF P w T mg base 9 "put_keep" 2 2 Ū)
variable (c5:fF P w T mg base 9 "keep_of" 1 2 Ŗ)
variable (g6:fF P w T mg base 9 "put_half" 1 1 aR)
variable (fT:fF P w T mg base 9 "half_days" 0 1 ai)
variable (g_:fF P w T mg base 9 "put_sold" 5 2 Ŋ)
variable (gZ:fF P w T mg base 9 "put_back" 5 3 į)
variable (fu:fF P w T mg base 9 "money_list" 0 2 Ÿ)
variable (g0:fF P w T mg base 9 "put_debt" 4 2 ũ)
variable (fS:fF P w T mg base 9 "debt_list" 0 2 ah)
variable (ke:jh P w T mg base "_law_begin" 1 1 dv)
variable (c8:jh P w T mg base "_law_take" 2 1 Ţ)
variable (lR:jh P w T mg base "_law_same" 2 10 (đ 9))
variable (h__law_names54:jh P w T mg base "_law_names" 2 2 bT)
variable (nS:jh P w T mg base "_law_all" 1 3 ck)
variable (nU:jh P w T mg base "_law_ask" 2 3 ź)
variable (gz:jh P w T mg base "_law_deed" 2 6 Þ)
variable (lS:jh P w T mg base "_law_word" 2 7 ţ)
variable (iK:jh P w T mg base "_law_started" 1 7 bU)
variable (nV:jh P w T mg base "_law_bad" 3 1 fR)
local macro_rules|`(tactic|exists $f,$k,$n)=>`(tactic|(refine $f (k:=$k) $n (by with_reducible assumption) (ŗ rfl rfl rfl rfl (by decide+kernel)) (by walk_at"b") rfl λ_ _ _ _ _ _ _=>?_;walk_at"g"))
include xs bk uN in
theorem mZ (_:Df T mg "greatest_divisor" (top 14)):jh P w T mg base "greatest_divisor" 2 1 ŭ:=by
 unfold ŭ eK;exists cL,0,["one","other"]
include xs bk eL in
theorem Ly (_:Df T mg "plus" (top 15)):jh P w T mg base "plus" 2 2 qb:=by
 unfold qb Bi;exists cL,1,["one","other","shared","together","divisor","top","below","other_top","other_below"]
include xs bk bW BF in
theorem Fp (_:Df T mg "sum_of" (top 16)):jh P w T mg base "sum_of" 1 3 gv:=by
 unfold gv sV;exists cL,2,["parts","together","part"]
include xs bk in
theorem B1 (_:Df T mg "is_less" (top 17)):jh P w T mg base "is_less" 2 1 cI:=by
 unfold cI p4;exists cL,0,["one","other"]
include xs bk bW jJ in
theorem qB (_:Df T mg "greatest_part" (top 21)):jh P w T mg base "greatest_part" 1 2 Ŀ:=by
 unfold Ŀ eD;exists cL,1,["row","greatest","told","kind","name","upto","part"]
include xs bk pd Ž tU jJ hE in
theorem Ak (_:Df T mg "too_much" (top 20)):jh P w T mg base "too_much" 1 4 aj:=by
 unfold aj nI;exists cL,3,["rows"]
include xs bk a7 in
theorem B0 (_:Ux T mg "by_days" (top 25) 20):jh P w T mg base "by_days" 1 1 aM:=by
 unfold aM pY;refine Ob (k:=0) ["rows"] (by with_reducible assumption) (ŗ rfl rfl rfl rfl (by decide+kernel)) (by walk_at"b") rfl λ_ _ _ _ _ _ _ hC=>?_;walk_at"g"
include xs bk in
theorem vr (_:Df T mg "units_more" (top 26)):jh P w T mg base "units_more" 1 1 cq:=by
 unfold cq j_;exists cL,0,["row","kind","day","work","count","amount","currency"]
include xs bk kg in
theorem um (_:Df T mg "lacks_units" (top 27)):jh P w T mg base "lacks_units" 2 2 ax:=by
 unfold ax jj;exists cL,1,["rows","work","left","row"]
include xs bk ż in
theorem qo (_:Uw T mg 9 "Book" "Book.__init__" (inClass (top 28) 0)):Rz P w T mg base 9 "Book" 1 aQ:=by
 unfold aQ gR;exists Oa,0,["self"]
include xs bk in
theorem mY (_:f_ T 9 "need_person" "Book.need_person" (inClass (top 28) 1)):fF P w T mg base 9 "need_person" 1 1 û:=by
 unfold û cg;exists aD,0,["self","name"]
include xs bk in
theorem o8 (_:f_ T 9 "need_work" "Book.need_work" (inClass (top 28) 2)):fF P w T mg base 9 "need_work" 1 1 č:=by
 unfold č du;exists aD,0,["self","name"]
include xs bk in
theorem qr (_:f_ T 9 "has_name" "Book.has_name" (inClass (top 28) 3)):fF P w T mg base 9 "has_name" 1 1 Ũ:=by
 unfold Ũ gS;exists aD,0,["self","name"]
include xs bk cG in
theorem o7 (_:f_ T 9 "need_free" "Book.need_free" (inClass (top 28) 4)):fF P w T mg base 9 "need_free" 1 2 ř:=by
 unfold ř dt;exists aD,1,["self","name"]
include xs bk bW bV in
theorem nZ (_:f_ T 9 "add_person" "Book.add_person" (inClass (top 28) 5)):fF P w T mg base 9 "add_person" 1 3 Ő:=by
 unfold Ő cR;exists aD,2,["self","name"]
include xs bk bV in
theorem qp (_:f_ T 9 "add_work" "Book.add_work" (inClass (top 28) 6)):fF P w T mg base 9 "add_work" 1 3 ŧ:=by
 unfold ŧ en;exists aD,2,["self","name"]
include xs bk a7 in
theorem lZ (_:f_ T 9 "person_names" "Book.person_names" (inClass (top 28) 7)):fF P w T mg base 9 "person_names" 0 1 Ş:=by
 unfold Ş dG;exists aD,0,["self"]
include xs bk a7 in
theorem n4 (_:f_ T 9 "work_names" "Book.work_names" (inClass (top 28) 8)):fF P w T mg base 9 "work_names" 0 1 Ź:=by
 unfold Ź fj;exists aD,0,["self"]
include xs bk nX Ĥ cG in
theorem qy (_:f_ T 9 "put_rows" "Book.put_rows" (inClass (top 28) 9)):fF P w T mg base 9 "put_rows" 2 5 İ:=by
 unfold İ bw;exists aD,4,["self","work","rows","kind","name","told"]
include xs bk Ĥ in
theorem rS (_:f_ T 9 "rows_of" "Book.rows_of" (inClass (top 28) 10)):fF P w T mg base 9 "rows_of" 1 2 ŋ:=by
 unfold ŋ fi;exists aD,1,["self","work"]
include xs bk Ď in
theorem rP (_:f_ T 9 "hand_on" "Book.hand_on" (inClass (top 28) 11)):fF P w T mg base 9 "hand_on" 4 2 Ī:=by
 unfold Ī a5;exists aD,1,["self","person","day","name","part"]
include xs bk a7 Ď in
theorem qq (_:f_ T 9 "hands_of" "Book.hands_of" (inClass (top 28) 12)):fF P w T mg base 9 "hands_of" 1 2 Ň:=by
 unfold Ň eo;exists aD,1,["self","person"]
include xs bk Ď Ĥ in
theorem n0 (_:f_ T 9 "make_known" "Book.make_known" (inClass (top 28) 13)):fF P w T mg base 9 "make_known" 3 2 Ė:=by
 unfold Ė aK;exists aD,1,["self","work","day","person"]
include xs bk Ĥ in
theorem qs (_:f_ T 9 "known_of" "Book.known_of" (inClass (top 28) 14)):fF P w T mg base 9 "known_of" 1 2 ň:=by
 unfold ň ey;exists aD,1,["self","work"]
include xs bk kq in
theorem qx (_:f_ T 9 "put_rate" "Book.put_rate" (inClass (top 28) 15)):fF P w T mg base 9 "put_rate" 3 1 ŉ:=by
 unfold ŉ cC;exists aD,0,["self","currency","day","worth"]
include xs bk uQ kq pd in
theorem qA (_:f_ T 9 "worth_of" "Book.worth_of" (inClass (top 28) 16)):fF P w T mg base 9 "worth_of" 2 1 å:=by
 unfold å cE;exists aD,0,["self","currency","day","days"]
include xs bk a7 in
theorem o9 (_:f_ T 9 "rate_list" "Book.rate_list" (inClass (top 28) 17)):fF P w T mg base 9 "rate_list" 0 1 aZ:=by
 unfold aZ fQ;exists aD,0,["self"]
include xs bk Ď in
theorem qw (_:f_ T 9 "put_keep" "Book.put_keep" (inClass (top 28) 18)):fF P w T mg base 9 "put_keep" 2 2 Ū:=by
 unfold Ū eB;exists aD,1,["self","person","part"]
include xs bk Ď in
theorem rR (_:f_ T 9 "keep_of" "Book.keep_of" (inClass (top 28) 19)):fF P w T mg base 9 "keep_of" 1 2 Ŗ:=by
 unfold Ŗ fe;exists aD,1,["self","person"]
include xs bk in
theorem qv (_:f_ T 9 "put_half" "Book.put_half" (inClass (top 28) 20)):fF P w T mg base 9 "put_half" 1 1 aR:=by
 unfold aR gU;exists aD,0,["self","days"]
include xs bk in
theorem o6 (_:f_ T 9 "half_days" "Book.half_days" (inClass (top 28) 21)):fF P w T mg base 9 "half_days" 0 1 ai:=by
 unfold ai fO;exists aD,0,["self"]
include xs bk Ĥ aS in
theorem qz (_:f_ T 9 "put_sold" "Book.put_sold" (inClass (top 28) 22)):fF P w T mg base 9 "put_sold" 5 2 Ŋ:=by
 unfold Ŋ cD;exists aD,1,["self","day","work","count","amount","currency"]
include xs bk fV jn Ĥ aS in
theorem qt (_:f_ T 9 "put_back" "Book.put_back" (inClass (top 28) 23)):fF P w T mg base 9 "put_back" 5 3 į:=by
 unfold į bu;exists aD,2,["self","day","work","count","amount","currency","row"]
include xs bk fV in
theorem n3 (_:f_ T 9 "money_list" "Book.money_list" (inClass (top 28) 24)):fF P w T mg base 9 "money_list" 0 2 Ÿ:=by
 unfold Ÿ fh;exists aD,1,["self"]
include xs bk Ď in
theorem qu (_:f_ T 9 "put_debt" "Book.put_debt" (inClass (top 28) 25)):fF P w T mg base 9 "put_debt" 4 2 ũ:=by
 unfold ũ eA;exists aD,1,["self","kind","day","person","coins"]
include xs bk fV in
theorem oZ (_:f_ T 9 "debt_list" "Book.debt_list" (inClass (top 28) 26)):fF P w T mg base 9 "debt_list" 0 2 ah:=by
 unfold ah fN;exists aD,1,["self"]
include xs bk kC in
theorem vq (_:Df T mg "_law_begin" (top 30)):jh P w T mg base "_law_begin" 1 1 dv:=by
 unfold dv j9;exists cL,0,["_law_script","_law_cells"]
include xs bk iQ jS in
theorem xW (_:Df T mg "_law_take" (top 31)):jh P w T mg base "_law_take" 2 1 Ţ:=by
 unfold Ţ lK;exists cL,0,["_law_state","_law_many","_law_turn","_law_place","_law_cell","_law_mixed","_law_digit"]
include xs bk uO n8 uP aT jS kC uR kF uS in
theorem xV (_:Df T mg "_law_same" (top 32)):∀n:Nat,jh P w T mg base "_law_same" 2 (n+1) (đ n):=by
 intro n;induction n with
 |zero=>exact KC ["_law_found","_law_due"] (by with_reducible assumption) rfl (by walk_at"b")
 |succ n a=>
  unfold đ cZ;refine cL (k:=n+1) ["_law_found","_law_due"] (by with_reducible assumption) (ŗ rfl rfl rfl rfl (by decide+kernel)) (by walk_at"b") rfl λ_ _ _ _ _ _ _=>?_;walk_at"g"
include xs bk jS kE c8 in
theorem rX (_:Df T mg "_law_names" (top 33)):jh P w T mg base "_law_names" 2 2 bT:=by
 unfold bT iB;exists cL,1,["_law_state","_law_many","_law_some"]
include xs bk dI fv c6 cF cH fU c5 fT fu fS in
theorem Ag (_:Df T mg "_law_all" (top 34)):jh P w T mg base "_law_all" 1 3 ck:=by
 unfold ck j7;exists cL,2,["_law_book","_law_found","_law_people","_law_works"]
include xs bk c6 cF cH aS c5 in
theorem Ai (_:Df T mg "_law_ask" (top 36)):jh P w T mg base "_law_ask" 2 3 ź:=by
 unfold ź eJ;exists cL,2,["_law_book","_law_deed_here"]
include xs bk fo gY g9 iJ ft g8 g7 g6 g_ gZ g0 nU in
theorem xU (_:Df T mg "_law_deed" (top 35)):jh P w T mg base "_law_deed" 2 6 Þ:=by
 unfold Þ ļ;exists cL,5,["_law_book","_law_deed_here","_law_word_here"]
include xs bk aT gz in
theorem xX (_:Df T mg "_law_word" (top 37)):jh P w T mg base "_law_word" 2 7 ţ:=by
 unfold ţ i4;exists cL,6,["_law_book","_law_deed_here","_law_caught","_law_fits","error"]
include xs bk gX c8 h__law_names54 gz in
theorem rY (_:Df T mg "_law_started" (top 38)):jh P w T mg base "_law_started" 1 7 bU:=by
 unfold bU iC;exists cL,6,["_law_state","_law_names_here","_law_deeds","_law_book","_law_deed_here","_law_people","_law_works","_law_hand","_law_rate","_law_sold"]
include xs bk in
theorem Aj (_:Df T mg "_law_bad" (top 39)):jh P w T mg base "_law_bad" 3 1 fR:=by
 unfold fR j8;exists cL,0,["_law_people","_law_works","_law_days","_law_much","_law_some","_law_one","_law_two","_law_first","_law_second","_law_hand","_law_rate","_law_sold","_law_day","_law_work","_law_count"]
include xs bk jS ke c8 lR nS lS iK nV in
theorem Pu {f:Addr}{c:dC}(F:Gg T.K "law" "law" (top 40) f c):ie P w T.K mg base (pX P w) 11 f c ["_law_script"] (F2 T 1 tD):=by
 unfold tD Gp;have S:ij ["_law_script","_law_state","_law_ahead","_law_some","_law_good","_law_book","_law_people","_law_works","_law_days","_law_deed_here","_law_due"] ["_law_script"] (ď (top 40)):=(ŗ rfl rfl rfl rfl (by decide+kernel))
 refine xx (k:=10) F S λb A a s H E hr=>?_;have nd:=S.nd;have ls:Ls T (k_ (pX P w) P w T.K mg base ["_law_script","_law_state","_law_ahead","_law_some","_law_good","_law_book","_law_people","_law_works","_law_days","_law_deed_here","_law_due"] "law" (ď (top 40)) f b A a s H E) (mT T E):=z9;have AY:=M7 hr;have hu:=Sf hr;walk_at"q"
end
def Ds (T:Tx)(mg:Str->É Value):Prop:=Df T mg "law" (top 40)/\Df T mg "greatest_divisor" (top 14)/\Df T mg "plus" (top 15)/\Df T mg "sum_of" (top 16)/\Df T mg "is_less" (top 17)/\Df T mg "greatest_part" (top 21)/\Df T mg "too_much" (top 20)/\Ux T mg "by_days" (top 25) 20/\Df T mg "units_more" (top 26)/\Df T mg "lacks_units" (top 27)/\Uw T mg 9 "Book" "Book.__init__" (inClass (top 28) 0)/\f_ T 9 "need_person" "Book.need_person" (inClass (top 28) 1)/\f_ T 9 "need_work" "Book.need_work" (inClass (top 28) 2)/\f_ T 9 "has_name" "Book.has_name" (inClass (top 28) 3)/\f_ T 9 "need_free" "Book.need_free" (inClass (top 28) 4)/\f_ T 9 "add_person" "Book.add_person" (inClass (top 28) 5)/\f_ T 9 "add_work" "Book.add_work" (inClass (top 28) 6)/\f_ T 9 "person_names" "Book.person_names" (inClass (top 28) 7)/\f_ T 9 "work_names" "Book.work_names" (inClass (top 28) 8)/\f_ T 9 "put_rows" "Book.put_rows" (inClass (top 28) 9)/\f_ T 9 "rows_of" "Book.rows_of" (inClass (top 28) 10)/\f_ T 9 "hand_on" "Book.hand_on" (inClass (top 28) 11)/\f_ T 9 "hands_of" "Book.hands_of" (inClass (top 28) 12)/\f_ T 9 "make_known" "Book.make_known" (inClass (top 28) 13)/\f_ T 9 "known_of" "Book.known_of" (inClass (top 28) 14)/\f_ T 9 "put_rate" "Book.put_rate" (inClass (top 28) 15)/\f_ T 9 "worth_of" "Book.worth_of" (inClass (top 28) 16)/\f_ T 9 "rate_list" "Book.rate_list" (inClass (top 28) 17)/\f_ T 9 "put_keep" "Book.put_keep" (inClass (top 28) 18)/\f_ T 9 "keep_of" "Book.keep_of" (inClass (top 28) 19)/\f_ T 9 "put_half" "Book.put_half" (inClass (top 28) 20)/\f_ T 9 "half_days" "Book.half_days" (inClass (top 28) 21)/\f_ T 9 "put_sold" "Book.put_sold" (inClass (top 28) 22)/\f_ T 9 "put_back" "Book.put_back" (inClass (top 28) 23)/\f_ T 9 "money_list" "Book.money_list" (inClass (top 28) 24)/\f_ T 9 "put_debt" "Book.put_debt" (inClass (top 28) 25)/\f_ T 9 "debt_list" "Book.debt_list" (inClass (top 28) 26)/\Df T mg "_law_begin" (top 30)/\Df T mg "_law_take" (top 31)/\Df T mg "_law_same" (top 32)/\Df T mg "_law_names" (top 33)/\Df T mg "_law_all" (top 34)/\Df T mg "_law_ask" (top 36)/\Df T mg "_law_deed" (top 35)/\Df T mg "_law_word" (top 37)/\Df T mg "_law_started" (top 38)/\Df T mg "_law_bad" (top 39)
def NR {P:ą}{w:ħ}{T:Tx}{mg:Str->É Value}{base:Heap}(xs:Xs T mg)(bk:Bk T 9 ["keeps","rows","hands","makers","rates","half","money","debts"])(uN:mg "abs"=none)(uO:mg "all"=none)(n8:mg "bool"=none)(iQ:mg "divmod"=none)(uP:mg "int"=none)(aT:mg "isinstance"=none)(jS:mg "len"=none)(kC:mg "list"=none)(uQ:mg "max"=none)(kE:mg "range"=none)(a7:mg "sorted"=none)(uR:mg "str"=none)(kF:mg "tuple"=none)(uS:mg "zip"=none)(kq:wU T mg "COIN" iL)(ż:wU T mg "FIRST_HALF_DAYS" bC)(bW:wU T mg "NOTHING" ž)(pd:wU T mg "ONE" nj)(Ž:wU T mg "WHOLE_COIN_ROWS" Ť)(D:Ds T mg){f:Addr}{a:dC}(F:Gg T.K "law" "law" (top 40) f a) :
  ie P w T.K mg base (pX P w) 11 f a ["_law_script"] (F2 T 1 tD):=by
 have D:=D.2;have eL:=mZ P w base xs bk uN D.1;have D:=D.2;have BF:=Ly P w base xs bk eL D.1;have D:=D.2;have tU:=Fp P w base xs bk bW BF D.1;have D:=D.2;have jJ:=B1 P w base xs bk D.1;have D:=D.2;have hE:=qB P w base xs bk bW jJ D.1;have D:=D.2;have nX:=Ak P w base xs bk pd Ž tU jJ hE D.1;have D:=D.2;have fV:=B0 P w base xs bk a7 D.1;have D:=D.2;have kg:=vr P w base xs bk D.1;have D:=D.2;have jn:=um P w base xs bk kg D.1;have D:=D.2;have gX:=qo P w base xs bk ż D.1;have D:=D.2;have Ď:=mY P w base xs bk D.1;have D:=D.2;have Ĥ:=o8 P w base xs bk D.1;have D:=D.2;have cG:=qr P w base xs bk D.1;have D:=D.2;have bV:=o7 P w base xs bk cG D.1;have D:=D.2;have fo:=nZ P w base xs bk bW bV D.1;have D:=D.2;have gY:=qp P w base xs bk bV D.1;have D:=D.2;have dI:=lZ P w base xs bk a7 D.1;have D:=D.2;have fv:=n4 P w base xs bk a7 D.1;have D:=D.2;have g9:=qy P w base xs bk nX Ĥ cG D.1;have D:=D.2;have c6:=rS P w base xs bk Ĥ D.1;have D:=D.2;have iJ:=rP P w base xs bk Ď D.1;have D:=D.2;have cF:=qq P w base xs bk a7 Ď D.1;have D:=D.2;have ft:=n0 P w base xs bk Ď Ĥ D.1;have D:=D.2;have cH:=qs P w base xs bk Ĥ D.1;have D:=D.2;have g8:=qx P w base xs bk kq D.1;have D:=D.2;have aS:=qA P w base xs bk uQ kq pd D.1;have D:=D.2;have fU:=o9 P w base xs bk a7 D.1;have D:=D.2;have g7:=qw P w base xs bk Ď D.1;have D:=D.2;have c5:=rR P w base xs bk Ď D.1;have D:=D.2;have g6:=qv P w base xs bk D.1;have D:=D.2;have fT:=o6 P w base xs bk D.1;have D:=D.2;have g_:=qz P w base xs bk Ĥ aS D.1;have D:=D.2;have gZ:=qt P w base xs bk fV jn Ĥ aS D.1;have D:=D.2;have fu:=n3 P w base xs bk fV D.1;have D:=D.2;have g0:=qu P w base xs bk Ď D.1;have D:=D.2;have fS:=oZ P w base xs bk fV D.1;have D:=D.2;have ke:=vq P w base xs bk kC D.1;have D:=D.2;have c8:=xW P w base xs bk iQ jS D.1;have D:=D.2;have lR:=xV P w base xs bk uO n8 uP aT jS kC uR kF uS D.1 9;have D:=D.2;have h__law_names54:=rX P w base xs bk jS kE c8 D.1;have D:=D.2;have nS:=Ag P w base xs bk dI fv c6 cF cH fU c5 fT fu fS D.1;have D:=D.2;have nU:=Ai P w base xs bk c6 cF cH aS c5 D.1;have D:=D.2;have gz:=xU P w base xs bk fo gY g9 iJ ft g8 g7 g6 g_ gZ g0 nU D.1;have D:=D.2;have lS:=xX P w base xs bk aT gz D.1;have D:=D.2;have iK:=rY P w base xs bk gX c8 h__law_names54 gz D.1;have D:=D.2;have nV:=Aj P w base xs bk D;exact Pu P w base xs bk jS ke c8 lR nS lS iK nV F
def N_ {l:lx}{w:ħ}{K:Ç}{h:Heap}{mg:Str->É Value}{m a c1 c2 c3 c4 c d e g cB i:Addr}{n o:É Value}(X:K.In h)(G:h.Ns mainGlobals mg)(k:mg "law"=À (.ref m)) (x0:wW K mg a "RoyalError" sW none)(x1:wW K mg c1 "BadFraction" (.ref a::sW) none) (x2:wW K mg c2 "Taken" (.ref a::sW) none) (x3:wW K mg c3 "NoName" (.ref a::sW) none) (x4:wW K mg c4 "TooMuch" (.ref a::sW) none) (x5:wW K mg c "NoRate" (.ref a::sW) none) (x6:wW K mg d "NoneLeft" (.ref a::sW) none) (x7:wW K mg e "Endless" (.ref a::sW) n) (x8:wW K mg g "BadRow" (.ref a::sW) o) (b:Uv K cB ["keeps","rows","hands","makers","rates","half","money","debts"])(uN:Ę K mainGlobals "abs"=À none)(uO:Ę K mainGlobals "all"=À none)(n8:Ę K mainGlobals "bool"=À none)(iQ:Ę K mainGlobals "divmod"=À none)(uP:Ę K mainGlobals "int"=À none)(aT:Ę K mainGlobals "isinstance"=À none)(jS:Ę K mainGlobals "len"=À none)(kC:Ę K mainGlobals "list"=À none)(uQ:Ę K mainGlobals "max"=À none)(kE:Ę K mainGlobals "range"=À none)(a7:Ę K mainGlobals "sorted"=À none)(uR:Ę K mainGlobals "str"=À none)(kF:Ę K mainGlobals "tuple"=À none)(uS:Ę K mainGlobals "zip"=À none)(kq:wU ⟨K,Bq [a,c1,c2,c3,c4,c,d,e,g,cB] [i]⟩ mg "COIN" iL)(ż:wU ⟨K,Bq [a,c1,c2,c3,c4,c,d,e,g,cB] [i]⟩ mg "FIRST_HALF_DAYS" bC)(bW:wU ⟨K,Bq [a,c1,c2,c3,c4,c,d,e,g,cB] [i]⟩ mg "NOTHING" ž)(pd:wU ⟨K,Bq [a,c1,c2,c3,c4,c,d,e,g,cB] [i]⟩ mg "ONE" nj)(Ž:wU ⟨K,Bq [a,c1,c2,c3,c4,c,d,e,g,cB] [i]⟩ mg "WHOLE_COIN_ROWS" Ť)(D:Ds ⟨K,Bq [a,c1,c2,c3,c4,c,d,e,g,cB] [i]⟩ mg):∃j:dC,(∀(s:Ô) (v:Value),r4 s j ⟨[v],[]⟩ [("_law_script",v)])/\∀base:Heap,K.In base->base.Ns mainGlobals mg->ie l.prog w K mg base (pX l.prog w) 11 m j ["_law_script"] (spT K [i] [(20,"by_days.<locals>.<lambda>")] tD):=
 Kz k rfl D.1 (λ_ _ _ _ _ _ _ _=>.of_eq rfl) λbase f j F=>NR (T' x0 x1 x2 x3 x4 x5 x6 x7 x8) (b.bk rfl) (Ĝ X G uN) (Ĝ X G uO) (Ĝ X G n8) (Ĝ X G iQ) (Ĝ X G uP) (Ĝ X G aT) (Ĝ X G jS) (Ĝ X G kC) (Ĝ X G uQ) (Ĝ X G kE) (Ĝ X G a7) (Ĝ X G uR) (Ĝ X G kF) (Ĝ X G uS) kq ż bW pd Ž D F
end Ro
namespace Ro
open PySem L2
end Ro
namespace L2
open PySem PySem.Spec PyProof.Rows
end L2
namespace Ro
open PySem L2
abbrev Fs:=Â (Int×Int)
noncomputable def den:Fs->Int
 |[]=>1
 |f::r=>f.2*den r
def num:Fs->Int
 |[]=>0
 |f::r=>f.1*den r+f.2*num r
def Vq (fs:Fs):Prop:=∀f∈fs,1<=f.2
theorem den_pos:∀{fs:Fs},Vq fs->1<=den fs
 |[],_=>by decide
 |f::r,h=>by
  have b:1<=f.2:=h f Ļ;have c:=den_pos (fs:=r) λg a=>h g (ÿ _ a);show 1<=f.2*den r;have:=F3 (show 0<f.2 by lia) (show 0<den r by lia);lia
abbrev ig (a b:Int):Int:=((ė a b:Nat):Int)
def Hb (a b:Int):ig a b ∣ a:=u6 ..
def zS (a b:Int):ig a b ∣ b:=sL ..
def Br:ė a b=1 ↔ Xy a.natAbs b.natAbs:=Iff.rfl
def zq (d:ė a c=1)(e:ė b c=1):ė (a*b) c=1:=by
 rw[Br]at *
 rw[jz];exact YT d e
def zr (d:ė a b=1)(e:ė a c=1):ė a (b*c)=1:=by
 rw[Br]at *
 rw[jz];exact YU d e
def xk (h:ė a b=1)(c:x ∣ a)(d:y ∣ b):ė x y=1:=by
 rw[Br]at *
 have q:MN x.natAbs y.natAbs ∣ MN a.natAbs b.natAbs:=Nat.dvd_gcd (Ug (Nat.gcd_dvd_left ..) (hW.mpr c)) (Ug (Nat.gcd_dvd_right ..) (hW.mpr d));rw[show MN a.natAbs b.natAbs=1 from h]at q;exact Nat.dvd_one.mp q
def GF {a b:Int}(e:b≠0):ė (a.fdiv (ig a b)) (b.fdiv (ig a b))=1:=by
 have p:=mB (t:=a) e;have c:=aC (Hb a b);have d:=aC (zS a b);have q:ė (a.fdiv (ig a b)*ig a b) (b.fdiv (ig a b)*ig a b)=ė a b:=by rw[c,d]
 rw[MH]at q;have n:(ig a b).natAbs=ė a b:=JV _;rw[n]at q;exact yR p (by rw[q,XA])
def tF {a g:Int}(h:g ∣ a)(b:1<=a)(c:1<=g):1<=a.fdiv g:=by
 have e:=aC h;refine JW.mp λz=>?_;have:a.fdiv g*g<=0:=rk (by lia) (by lia);lia
def LZ {t b u d:Int}(M:1<=b)(hd:1<=d)(J:ė t b=1)(L:ė u d=1) :
  fr (t*d+u*b) (b*d)=((t*d.fdiv (ig b d)+u*b.fdiv (ig b d)).fdiv (ig (t*d.fdiv (ig b d)+u*b.fdiv (ig b d)) (ig b d)),b.fdiv (ig b d)*d.fdiv (ig (t*d.fdiv (ig b d)+u*b.fdiv (ig b d)) (ig b d))):=by
 have v:b≠0:=by lia
 have f:d≠0:=by lia
 have w:1<=ig b d:=by have:=mB (t:=b) f;show(1:Int)<=((ė b d:Nat):Int);lia
 have r:=aC (Hb b d);have m:=aC (zS b d);have i:=GF (a:=b) f;have C:b.fdiv (ig b d) ∣ b:=⟨_,r.symm⟩
 have D:d.fdiv (ig b d) ∣ d:=⟨_,m.symm⟩
 have Q:=tF (Hb b d) M w;have U:=tF (zS b d) hd w;have o:=xk J (sJ t) C;have p:=xk L (sJ u) D;generalize b.fdiv (ig b d)=h at *
 generalize N:d.fdiv (ig b d)=c at *
 generalize ig b d=s at *
 generalize hT:t*c+u*h=T at *
 have A:s≠0:=by lia
 have O:1<=ig T s:=by have:=mB (t:=T) A;show(1:Int)<=((ė T s:Nat):Int);lia
 have y:=aC (Hb T s);have z:=aC (zS T s);have n:=GF (a:=T) A;have P:=tF (zS T s) w O;have x:T.fdiv (ig T s) ∣ T:=⟨_,y.symm⟩
 have E:d.fdiv (ig T s)=c*s.fdiv (ig T s):=by
  have e:d=c*s.fdiv (ig T s)*ig T s:=by rw[kM,z,m]
  have I:ig T s≠0:=by lia
  have F:d.fdiv (ig T s)*ig T s=c*s.fdiv (ig T s)*ig T s:=by
   rw[aC (⟨_,by rw[mI];exact e⟩:ig T s ∣ d)];exact e
  exact jw I F
 have j:ė T h=1:=by
  have q:ė (t*c) h=1:=zq o (by rw[U6];exact i);rw[<-hT];rw[<-q];exact yO ..
 have l:ė T c=1:=by
  have q:ė (u*h) c=1:=zq p i;rw[<-hT,Int.add_comm,<-q];exact yO ..
 rw[E];refine C6 (QW v f) ?_ ?_ ?_
 ·have:=F3 (show 0<c by lia) (show 0<s.fdiv (ig T s) by lia);have:=F3 (show 0<h by lia) this;lia
 ·exact zr (xk j x (sJ _)) (zr (xk l x (sJ _)) n)
 ·generalize s.fdiv (ig T s)=k at *
  generalize T.fdiv (ig T s)=B at *
  generalize ig T s=g at *
  have H:t*d+u*b=B*g*s:=by
   rw[y,<-hT,<-m,<-r,Int.add_mul,<-kM,<-kM]
  rw[H,<-m,<-r,<-z];simp only[kM,mI,Int.mul_left_comm]
open Mm
def fq (q:Rat):AV:=.tup [.int q.num,.int q.den]
def yh (q:Rat):ė q.num (q.den:Int)=1:=q.reduced
def yi (q:Rat):(1:Int)<=(q.den:Int):=by have:=q.den_pos;lia
def Oh (h:b≠0):fr t b=((ro t b).num,((ro t b).den:Int)):=by
 refine C6 h (yi _) (yh _) ?_;have e:=rp (ro t b);have:=(Rat.divInt_eq_divInt_iff (by have:=(ro t b).den_pos;lia) h).mp e;exact this
def Kc (p q:Rat):p+q=ro (p.num*q.den+q.num*p.den) (p.den*q.den):=by
 have a:(p.den:Int)≠0:=by have:=p.den_pos;lia
 have b:(q.den:Int)≠0:=by have:=q.den_pos;lia
 rw[<-Rat.divInt_add_divInt _ _ a b,rp,rp]
def Od (p q:Rat):fr (p.num*q.den+q.num*p.den) (p.den*q.den)=((p+q).num,((p+q).den:Int)):=by
 have a:(p.den:Int)≠0:=by have:=p.den_pos;lia
 have b:(q.den:Int)≠0:=by have:=q.den_pos;lia
 rw[Oh (QW a b),Kc]
structure Sz (n:Nat)(q:Rat):Prop where
 a:eZ n q.num
 b:eZ n (q.den:Int)
def nJ (h:eZ n i)(k:n<=60000000):JM i:=⟨h.mono k⟩
def qm (h:eZ n i)(k:n<=9000):Q5 i:=⟨h.mono k⟩
def KG {x y:Int}(b:0<=x)(a:0<y):0<=x.fmod y/\x.fmod y<y:=by
 rw[jx _ (by lia)];exact⟨QV _ (by lia),JU _ a⟩
def KP (b:0<y):ig y (x.fmod y)=ig x y:=by
 rw[jx _ (by lia)];show((ė y (x % y):Nat):Int)=((ė x y:Nat):Int)
 congr 1;rw[U6];have a:=Int.emod_def x y;rw[a,Int.gcd_sub_mul_left_left]
theorem zN:∀n x y s,0<=x->0<=y->y.natAbs<n->
  DS (cB (Ó iW (mv 1) (mc (.int 0)))) (r3 0 1 (Á (mv 1) (Á (Ó jc (mv 0) (mv 1)) Ë))) n [À (.int x),À (.int y)] s=.nx [À (.int (ig x y)),À (.int 0)] s
 |0,_,_,_,_,_,h=>absurd h (QX _)
 |n+1,x,y,s,f,g,h=>by
  unfold DS;have e:cB (Ó iW (mv 1) (mc (.int 0))) [À (.int x),À (.int y)] s=.ok (!decide (y=0)) s:=rfl;rw[e,dV];by_cases b:y=0
  ·subst b;rw[Ö (by simp)];rw[show ig x 0=x by show((ė x 0:Nat):Int)=x;rw[Int.gcd_zero_right];lia]
  ·have a:0<y:=by lia
   obtain⟨i,j⟩:=KG f a;rw[Ì (by simpa using b)];have c:r3 0 1 (Á (mv 1) (Á (Ó jc (mv 0) (mv 1)) Ë)) [À (.int x),À (.int y)] s=.nx [À (.int y),À (.int (x.fmod y))] s:=by
    have d:jc (.int x) (.int y) s=.ok (.int (x.fmod y)) s:=Ì b;show((jc (.int x) (.int y) s).bind _ |>.bind _).bM _=_;rw[d];rfl
   rw[c];show DS _ _ n _ s=_;rw[zN n y (x.fmod y) s g i (by lia),KP a]
def Oo (a b:Int):ig (if a<0 then -a else a) (if b<0 then -b else b)=ig a b:=by
 show((ė _ _:Nat):Int)=((ė a b:Nat):Int)
 congr 1;split<;>split<;>simp[Int.gcd_neg,Int.neg_gcd]
def Oi (a b:Int)(s:S):ŭ [.int a,.int b] s=.ok (.int (ig a b)) s:=by
 apply R.wp.eq;unfold ŭ eK;have e:∀x y:Int,M4 [À (AV.int x),À (AV.int y)]=y.natAbs+1:=λ_ _=>rfl;simp?[↓QR,e];rw[CD (zN _ _ _ s (by split<;>lia) (by split<;>lia) (eG _)),Oo];walk_at"w"
def M8 (h:b≠0):ig a b≠0:=by have:=mB (t:=a) h;show((ė a b:Nat):Int)≠0;lia
def zK (h:b≠0)(f:eZ n b):eZ n (ig a b):=f.le (by
 show((ė a b:Nat):Int).natAbs<=_;rw[JV];exact Nat.le_of_dvd (by lia) (Int.gcd_dvd_natAbs_right a b))
def tM (h:g ∣ a)(h0:g≠0)(f:eZ n a):eZ n (a.fdiv g):=f.le (by
 have e:=aC h;have:a.natAbs=(a.fdiv g).natAbs*g.natAbs:=by rw[<-jz,e]
 rw[this];exact Nat.le_mul_of_pos_right _ (by lia))
def GP (q:Rat):(q.den:Int)≠0:=by have:=q.den_pos;lia
def LY (o:n<=9000)(h:Sz n p)(k:Sz n q)(s:S):qb [fq p,fq q] s=.ok (fq (p+q)) s:=by
 have e:=(LZ (yi p) (yi q) (yh p) (yh q)).symm.trans (Od p q);have g:=à dO e;have i:=à Prod.snd e;dsimp only at g i;have g1:ig (p.den:Int) (q.den:Int)≠0:=M8 (GP q);have d:eZ n (ig (p.den:Int) (q.den:Int)):=zK (GP q) k.b;have m:=tM (zS (p.den:Int) (q.den:Int)) g1 k.b;have l:=tM (Hb (p.den:Int) (q.den:Int)) g1 h.b;have g2:ig (p.num*(q.den:Int).fdiv (ig (p.den:Int) (q.den:Int))+q.num*(p.den:Int).fdiv (ig (p.den:Int) (q.den:Int))) (ig (p.den:Int) (q.den:Int))≠0:=M8 g1;have j:eZ n (ig (p.num*(q.den:Int).fdiv (ig (p.den:Int) (q.den:Int))+q.num*(p.den:Int).fdiv (ig (p.den:Int) (q.den:Int))) (ig (p.den:Int) (q.den:Int))):=zK g1 d;have c:JM ((p.den:Int).fdiv (ig (p.den:Int) (q.den:Int))):=nJ l (by lia);have d1:ig (p.num*(q.den:Int).fdiv (ig (p.den:Int) (q.den:Int))+q.num*(p.den:Int).fdiv (ig (p.den:Int) (q.den:Int))) (ig (p.den:Int) (q.den:Int)) ∣ (q.den:Int):=Int.dvd_trans (zS _ _) (zS _ _);have f:JM ((q.den:Int).fdiv (ig (p.num*(q.den:Int).fdiv (ig (p.den:Int) (q.den:Int))+q.num*(p.den:Int).fdiv (ig (p.den:Int) (q.den:Int))) (ig (p.den:Int) (q.den:Int)))):=nJ (tM d1 g2 k.b) (by lia);apply R.wp.eq;unfold qb Bi fq;simp?[↓eW (Oi _ _ _)];refine⟨⟨g1,qm d (by lia)⟩,⟨nJ h.a (by lia),nJ m (by lia)⟩,⟨g1,qm d (by lia)⟩,⟨nJ k.a (by lia),c⟩,⟨g2,qm j (by lia)⟩,⟨g1,qm d (by lia)⟩,⟨g2,qm j (by lia)⟩,⟨c,f⟩,?_⟩;rw[g,i]
def vv:Â Rat->Rat
 |[]=>0
 |q::r=>q+vv r
def EZ:ž=fq 0:=rfl
def CO (n:Nat):Rat->Â Rat->Prop
 |a,[]=>Sz n a
 |a,q::r=>Sz n a/\Sz n q/\CO n (a+q) r
inductive NP (s:S):AV->Â AV->Gd->Prop
 |tup (xs:Â AV):NP s (.tup xs) xs []
 |ref {i:Nat}{xs:Â AV}(h:ö s i=À xs):NP s (.ref i) xs [(i,xs)]
def NP.ok (h:NP s v xs gs):u0 gs s:=by
 cases h with
 |tup=>intro p a;cases a
 |ref h=>intro p a;cases a with
  |head=>exact h
  |tail _ a=>cases a
def NP.src (h:NP s v xs gs):DR v s=.ok (xs,gs) s:=by
 cases h with
 |tup=>rfl
 |ref h=>show need (ö s _) _=_;rw[h];rfl
def QF (g:n<=9000)(w:NP s v (l.map fq) gs) (h:CO n 0 l):gv [v] s=.ok (fq (vv l)) s:=by
 apply R.wp.eq;unfold gv sV;simp?[EZ,↓eW w.src];refine xA (λxs b st=>st=s/\∃a r x,xs=r.map fq/\b=[À v,À (fq a),x]/\CO n a r/\a+vv r=vv l) ?_ ?_ ?_ _ _ _ ⟨rfl,0,l,none,rfl,rfl,h,Rat.zero_add _⟩
 ·rintro _ _ st ⟨rfl,_⟩;exact w.ok
 ·rintro b st ⟨rfl,a,r,x,e,rfl,d,f⟩;cases r with
  |cons=>cases e
  |nil=>
   walk_at"w";rw[<-f,show a+vv []=a from Rat.add_zero a]
 ·rintro y r b st ⟨rfl,a,c,x,e,rfl,d,f⟩;cases c with
  |nil=>cases e
  |cons q c=>
   cases e;simp?[↓eW (LY g d.1 d.2.1 _)];exact⟨a+q,c,_,rfl,rfl,d.2.2,by rw[<-f];show a+q+vv c=a+(q+vv c);grind⟩
def Ģ (s:S)(xs:Â AV):ö (s++[.lst xs]) s.length=À xs:=by
 unfold ö;simp
end Ro
namespace Mm
open PySem L2
mutual
theorem AV.low.mono (h:b<=c):∀{v:AV},v.low b=true->v.low c=true
 |.ref i,k=>by simp only[AV.low,Ų]at k⊢;lia
 |.tup xs,k=>by simp only[AV.low]at k⊢;exact ĭ.mono h k
 |.sq xs,k=>by simp only[AV.low]at k⊢;exact ĭ.mono h k
 |.Ě,_=>by simp only[AV.low]
 |.bl _,_=>by simp only[AV.low]
 |.int _,_=>by simp only[AV.low]
 |.str _,_=>by simp only[AV.low]
theorem ĭ.mono (h:b<=c):∀{l:Â AV},ĭ b l=true->ĭ c l=true
 |[],_=>by simp only[ĭ]
 |v::r,k=>by
  simp only[ĭ,Ĉ]at k⊢;exact⟨AV.low.mono h k.1,ĭ.mono h k.2⟩
end
theorem AO.low.mono (h:b<=c){o:AO}(k:o.low b=true):o.low c=true:=by
 cases o<;>first|exact ĭ.mono h k|rfl
def Cl (s:S):Prop:=s.all (AO.low s.length)=true
def Cl.add {s e:S}(h:Cl s)(k:e.all (AO.low (s.length+e.length))=true):Cl (s++e):=by
 unfold Cl at *
 rw[List.all_append,ć,k,ae];rw[Đ]at h⊢;exact λo a=>AO.low.mono (by lia) (h o a)
theorem Cl.set (h:Cl s)(k:o.low s.length=true):Cl (s.set i o):=by
 unfold Cl at *
 rw[ű];rw[Đ]at h⊢;intro x a;rcases List.mem_or_eq_of_mem_set a with a|rfl
 ·exact h x a
 ·exact k
def ĳ (h:ö s k=À xs):ö (s++e) k=À xs:=by
 have:=Ē h;refine f' ?_;have a:k<s.length:=(Æ.mp this).1;rw[Ü a];exact this
def p7 (a:ö st i=À xs)(b:ö st j=À ys)(hl:xs.length+ys.length<=sizeLine):ĸ (.ref i) (.ref j) st=.ok (.ref st.length) (st++[.lst (xs++ys)]):=by
 show(need (ö st i) λxs=>need (ö st j) λys=>if xs.length+ys.length<=sizeLine then R.ok (AV.ref st.length) (st++[.lst (xs++ys)])else .bad)=_;rw[a,õ,b,õ,Ì hl]
end Mm
namespace Ro
open PySem L2 Mm
end Ro
namespace Mm
open PySem L2
end Mm
namespace Ro
open PySem L2 Mm
def FI (l:Â Str):(ŀ l).length=l.length:=(ky l).length_eq
end Ro
namespace Mm
open PySem L2
def Jk (a:Mt)(r:NJ)(v:AV)(w:Â AV)(env:En)(s:S)(N:En->S->Prop)(T:AV->S->Prop):(ß a r (v::w) env s).wp N T=(a v env s).wp (λe s1=>(r w e s1).wp N T) T:=by
 show(match a v env s with|.nx e s1=>r w e s1|q=>q).wp N _=_;cases a v env s<;>rfl
def Jl (o i:Ev)(v:AV)(env:En)(s:S)(N:En->S->Prop)(T:AV->S->Prop):(lQ o i v env s).wp N T=(o env s).wp λa s1=>(i env s1).wp λb c=>(match a,b with
 |.ref k,.int j=>match ö c k with
  |some xs=>match Dd xs.length j with
   |some n=>RS.nx env (c.set k (.lst (xs.set n v)))
   |none=>.bad
  |none=>.bad
 |_,_=>.bad).wp N T:=by
 unfold lQ;rw[bX];congr 1;funext a s1;rw[bX];try rfl
end Mm
namespace Ro
open PySem L2 Mm
def Sn:¬((.inr "cells":Key)=.inr "turn"):=λz=>kne (jt z)
noncomputable def xt (c:Nat)(t:Int):Â (Key×AV):=[(.inr "cells",.ref c),(.inr "turn",.int t)]
def GU (c:Nat)(t:Int):bE (xt c t) (.inr "cells")=À (.ref c):=Ì rfl
def Ku (c:Nat)(t:Int):bE (xt c t) (.inr "turn")=À (.int t):=by
 unfold xt bE;rw[Ö Sn];exact Ì rfl
def N7 (c:Nat)(t u:Int):kn (xt c t) (.inr "turn") (.int u)=xt c u:=by
 unfold kn xt;rw[Ì (by simp)];simp only[Õ,a_,Ö Sn,f9]
structure Dr (c d n:Nat)(s:S):Prop where
 ex:∃t cells,s[d]?=À (.dK (xt c t))/\s[c]?=À (.lst (cells.map AV.int))/\cells≠[]/\0<=t/\t<=n
 cl:Cl s
structure Kp (c d:Nat)(s s':S):Prop where
 len:s'.length=s.length
 get:∀i,i≠c->i≠d->s'[i]?=s[i]?
theorem Kp.trans (h:Kp c d s s')(k:Kp c d s' a):Kp c d s a:=⟨k.len.trans h.len,λi b e=>(k.get i b e).trans (h.get i b e)⟩
def Dr.mono (h:Dr c d n s)(k:n<=m):Dr c d m s:=by
 obtain⟨⟨t,a,b,e,f,g,i⟩,cl⟩:=h;exact⟨⟨t,a,b,e,f,g,by lia⟩,cl⟩
def Dr.ne (h:Dr c d n s):c≠d:=by
 obtain⟨⟨t,a,e,b,_⟩,_⟩:=h;rintro rfl;rw[e]at b;cases b
def Dr.F1 (h:Dr c d n s):c<s.length:=by
 obtain⟨⟨t,a,e,b,_⟩,_⟩:=h;exact(Æ.mp b).1
def Dr.K1 (h:Dr c d n s):d<s.length:=by
 obtain⟨⟨t,a,b,e,_⟩,_⟩:=h;exact(Æ.mp b).1
def Dr.app (h:Dr c d n s)(k:Cl (s++e)):Dr c d n (s++e):=by
 have i:=h.F1;have j:=h.K1;obtain⟨⟨t,a,b,f,g⟩,cl⟩:=h;exact⟨⟨t,a,by rw[Ü j];exact b,by rw[Ü i];exact f,g⟩,k⟩
theorem Dr.set (h:Dr c d n s)(b:i≠c)(e:i≠d)(k:o.low s.length=true):Dr c d n (s.set i o):=by
 obtain⟨⟨t,a,f,g,j⟩,cl⟩:=h;exact⟨⟨t,a,by rw[ì e];exact f,by rw[ì b];exact g,j⟩,cl.set k⟩
theorem low_ints (b:Nat):∀l:Â Int,ĭ b (l.map AV.int)=true
 |[]=>by simp[ĭ]
 |i::r=>by simp only[Õ,ĭ,low_ints b r];simp[AV.low]
def KA {x m:Int}(h:0<m)(k:m<=2147483648):eZ 31 (x.fmod m):=by
 have a:=mH x h;have b:=rj x h;exact vR (by lia) (by lia)
def tI (h:0<=i)(k:i<2^n):eZ n i:=vR (by lia) k
def Mw (D:Dr c d n s)(hn:n<=1000000000)(hk:0<k)(fk:eZ 9000 k) :
  (Ţ [.ref d,.int k] s).wp λv s'=>∃r,v=.int r/\0<=r/\r<k/\Dr c d (n+1) s'/\Kp c d s s':=by
 have N:=D.F1;have ld:=D.K1;have O:=D.ne;obtain⟨⟨t,a,h1,h2,M,h4,h5⟩,cl⟩:=D;have J:lA s d=À (xt c t):=by unfold lA;rw[h1]
 have g1:fZ (.ref d) (.str "turn") s=.ok (.int t) s:=by
  show(need (lA s d) λf=>need (hI (.str "turn")) λk=>need (bE f k) λv=>R.ok v s)=_;rw[J,õ];rw[show hI (.str "turn")=À (.inr "turn")from rfl,õ,Ku];rfl
 let b:=s.set d (.dK (xt c (t+1)));have p1:∀l,putD (.int (t+1)) (.ref d) (.str "turn") l s=.nx l b:=λl=>by
  show(match lA s d,hI (.str "turn")with
   |some f,À k=>if f.length<sizeLine then RS.nx l (s.set d (.dK (kn f k (.int (t+1)))))else .bad
   |_,_=>.bad)=_
  rw[J];show(if (xt c t).length<sizeLine then RS.nx l (s.set d (.dK (kn (xt c t) (.inr "turn") (.int (t+1)))))else .bad)=_;rw[Ì (ſ (by show(2:Nat)<=1000;lia)),N7]
 have E:b[d]?=À (.dK (xt c (t+1))):=Ć ld;have L:b[c]?=À (.lst (a.map AV.int)):=by show(s.set d _)[c]?=_;rw[ì (ő O)];exact h2
 have H:ö b c=À (a.map AV.int):=f' L;have q:Cl b:=cl.set (by simp[AO.low,xt,ĭ,AV.low,N]);have m:Kp c d s b:=⟨ű,λi _ hi=>ì (ő hi)⟩
 have g2:fZ (.ref d) (.str "cells") b=.ok (.ref c) b:=by
  show(need (lA b d) λf=>need (hI (.str "cells")) λk=>need (bE f k) λv=>R.ok v b)=_;rw[show lA b d=À (xt c (t+1)) by unfold lA;rw[E],õ];rw[show hI (.str "cells")=À (.inr "cells")from rfl,õ,GU];rfl
 have hl0:0<a.length:=List.length_pos_iff.mpr M;have y:kI [.ref c] b=.ok (.int a.length) b:=by
  show(need (ö b c) λxs=>R.ok (AV.int xs.length) b)=_;rw[H,õ,Ê]
 have u:(0:Int)<a.length:=by lia
 have j0:=mH (t+1) u;have j1:=rj (t+1) u;obtain⟨j,Z⟩:∃j:Nat,(t+1).fmod a.length=j:=⟨((t+1).fmod a.length).toNat,by lia⟩
 have hj:j<a.length:=by lia
 have ix:lJ (a.map AV.int) (j:Int)=À (.int a[j]):=mj (by rw[ê,Å hj];rfl);have F:Dd (a.map AV.int).length (j:Int)=À j:=by
  unfold Dd;rw[Ê,Ì (by lia),Ì (by lia)];rfl
 unfold Ţ lK;have gE:Ċ (.ref c) (.int j) b=.ok (.int a[j]) b:=by
  show(need (ö b c) λxs=>need (lJ xs j) λv=>R.ok v b)=_;rw[H,õ,ix];rfl
 have w:(10:Int)^(18:Int).toNat=1000000000000000000:=WA;have A:eZ 31 (t+1):=tI (by lia) (by lia);rw[WS.2.2.2.2.2.2.2.2.2.2.2.2.2.2.2.2.1];refine aF λK e=>?_;simp?[↓eW g1];rw[e];clear e K;refine aF λK e=>?_;simp?[↓CD (p1 _)];rw[e];clear e K;refine aF λK e=>?_;simp?[↓eW g2,↓eW y,Z];refine⟨by lia,?_⟩;rw[e];clear e K;refine aF λK e=>?_;simp?[↓eW g2,↓eW gE];rw[e];clear e K;refine aF λK e=>?_;simp?[w];refine⟨⟨by lia,by lia,by decide⟩,?_⟩;split
 ·simp?[↓Jk,↓Jl,↓eW g2,H,F];refine⟨⟨hk,⟨fk⟩⟩,_,rfl,QV _ (by lia),JU _ hk,⟨⟨t+1,a.set j (a[j] / k),?_,?_,?_,by lia,by lia⟩,?_⟩,?_⟩
  ·rw[ì O];exact E
  ·rw[Ć (by show c<b.length;rw[m.len];exact N),Ue]
  ·intro z;have:=à cK z;rw[ű,mL]at this;lia
  ·refine q.set ?_;rw[<-Ue];exact low_ints _ _
  ·exact⟨by rw[ű];exact m.len,λi P q2=>by rw[ì (ő P)];exact m.get i P q2⟩
 ·rw[e];clear e K;walk_at"w";have Q:eZ 31 (a[j].fmod 2147483629):=KA (by lia) (by lia);have p:eZ 13 (7919:Int):=tI (by lia) (by lia);have C:eZ 16 (48271:Int):=tI (by lia) (by lia);have o:eZ 17 (104729:Int):=tI (by lia) (by lia);have B:eZ 16 (39373:Int):=tI (by lia) (by lia);have I:=A.mul A;have T:=I.mul p;have U:eZ 76 (a[j].fmod 2147483629+(t+1)*(t+1)*7919):=eZ.add (n:=75) (Q.mono (by lia)) (T.mono (by lia));have X:eZ 77 (a[j].fmod 2147483629+(t+1)*(t+1)*7919+11):=eZ.add U (tI (by lia) (by lia));have Y:∀x:Int,eZ 49 (x.fmod 2147483587+(t+1)*104729):=λx=>eZ.add (n:=48) ((KA (by lia) (by lia)).mono (by lia)) ((A.mul o).mono (by lia));have g:∀{n:Nat}{i:Int},eZ n i->n<=100->JM i:=λh k=>nJ h (by lia);refine⟨by decide,⟨g A (by lia),g A (by lia)⟩,⟨g I (by lia),g p (by lia)⟩,⟨g X (by lia),g C (by lia)⟩,by decide,⟨g (KA (by lia) (by lia)) (by lia),g (KA (by lia) (by lia)) (by lia)⟩,by decide,⟨g A (by lia),g o (by lia)⟩,⟨g (Y _) (by lia),g B (by lia)⟩,by decide,⟨by decide,qm (n:=7) (tI (by lia) (by lia)) (by lia)⟩,by lia,_,rfl,mH _ hk,rj _ hk,⟨⟨t+1,a,E,L,M,by lia,by lia⟩,q⟩,m⟩
def G1:∀{v:AV},gy v=true->∃d,toD n s v=À d/\d.dep=0
 |.Ě,_=>⟨.Ě,by unfold toD;rfl,by simp[Dt.dep]⟩
 |.bl b,_=>⟨.bl b,by unfold toD;rfl,by simp[Dt.dep]⟩
 |.int b,_=>⟨.int b,by unfold toD;rfl,by simp[Dt.dep]⟩
 |.str b,_=>⟨.str b,by unfold toD;rfl,by simp[Dt.dep]⟩
theorem vT:∀{l:Â AV},l.all gy=true->∃ds,l.mapM (toD n s)=À ds/\ds.length=l.length/\bZ ds=0
 |[],_=>⟨[],rfl,rfl,by simp[bZ]⟩
 |v::r,h=>by
  rw[Ĩ,Ĉ]at h;obtain⟨d,a,b⟩:=G1 (s:=s) (n:=n) h.1;obtain⟨ds,c,e,f⟩:=vT (s:=s) (n:=n) h.2;exact⟨d::ds,by rw[yy,a,c];rfl,by simp[e],by simp[bZ,b,f]⟩
def GZ (d:ö s i=À xs)(e:ö s j=À [])(f:xs.all gy=true):zE s (.ref i) (.ref j)=À xs.isEmpty:=by
 obtain⟨a,c,b,g⟩:=vT (s:=s) (n:=19) f;have t1:toD 20 s (.ref i)=À (.lst a):=by
  simp only[toD,d,b_,c,ir]
 have t2:toD 20 s (.ref j)=À (.lst []):=by
  simp only[toD,e,b_,AM];rfl
 unfold zE;simp only;rw[t1,t2];dsimp only;rw[Ì (by lia)];congr 1;cases xs with
 |nil=>cases a with
  |nil=>simp[gW]
  |cons=>cases b
 |cons=>cases a with
  |nil=>cases b
  |cons=>simp[gW]
theorem vS:∀l:Â Int,(l.map AV.int).all gy=true
 |[]=>rfl
 |i::r=>by rw[Õ,Ĩ,vS r];rfl
def R4 (h:0<k)(l:k<1048576):eZ 9000 k:=(tI (n:=20) (by lia) (by lia)).mono (by lia)
def Nr {k:Int}(h:0<k)(l:k<1048576):(decide (0<k)&&decide (k<1048576))=true:=by rw[ó h,ó l];rfl
def take1 {c d n:Nat}{s:S}{k:Int}(D:Dr c d n s)(a:n<=1000000000:=by lia)(hk:(decide (0<k)&&decide (k<1048576))=true:=by first|rfl|exact Nr (by lia) (by lia)) :
  (Ţ [.ref d,.int k] s).wp λv s'=>∃r,v=.int r/\0<=r/\r<k/\Dr c d (n+1) s'/\Kp c d s s':=by
 rw[Ĉ]at hk;exact Mw D a (ō hk.1) (R4 (ō hk.1) (ō hk.2))
def MC (m:Ev)(env:En)(s:S)(Q:Â AV×Gd->S->Prop):(IJ (Á m Ë) env s).wp Q=(m env s).wp λv s1=>match v with|.int j=>(-(2^62)<=j/\j<2^62)/\Q (uz 0 j.toNat,[]) s1|_=>False:=by
 unfold IJ Á Ë;simp only[wp_bind,DU];congr 1;funext v s1;cases v<;>first|rfl|exact kL _ _ _
structure Gk (c d:Nat)(s s':S):Prop where
 len:s.length<=s'.length
 get:∀i,i<s.length->i≠c->i≠d->s'[i]?=s[i]?
def Kp.gk (h:Kp c d s s'):Gk c d s s':=⟨by rw[h.len];exact Í _,λi _ a b=>h.get i a b⟩
def Gk.app (c d:Nat)(s e:S):Gk c d s (s++e):=⟨by simp,λi a _ _=>Ü a⟩
theorem Gk.trans (h:Gk c d s s')(k:Gk c d s' a):Gk c d s a:=⟨ł h.len k.len,λi f b e=>(k.get i (æ f h.len) b e).trans (h.get i f b e)⟩
def Gk.lst {c d n i:Nat}{s s':S}{xs:Â AV}(h:Gk c d s s')(a:i≠c)(b:i≠d)(k:ö s i=À xs):ö s' i=À xs:=by
 have e:=Ē k;exact f' ((h.get i (Æ.mp e).1 a b).trans e)
theorem Gk.set (h:Gk c d s s')(f:s.length<=i):Gk c d s (s'.set i o):=⟨by rw[ű];exact h.len,λj e a b=>by rw[ì (by lia)];exact h.get j e a b⟩
def Gk.cut (h:Gk c d s s')(D:Dr c d n s)(A:Dr c d m s'):Dr c d m (s'.take s.length)/\Kp c d s (s'.take s.length)/\(s'.take s.length).all (AO.low s.length)=true:=by
 have r:=D.F1;have ld:=D.K1;have g:(s'.take s.length).length=s.length:=by rw[cz];have:=h.len;lia
 have l:∀i,i<s.length->(s'.take s.length)[i]?=s'[i]?:=λi a=>bY a;have cl:=D.cl;obtain⟨⟨t,b,p,q,v,w,x⟩,u⟩:=A;have all:(s'.take s.length).all (AO.low s.length)=true:=by
  rw[Đ];intro o y;obtain⟨i,a,e⟩:=List.mem_iff_getElem.mp y;rw[g]at a;have f:(s'.take s.length)[i]?=À o:=by rw[Å (by rw[g];exact a)];rw[e]
  rw[l i a]at f;by_cases j:i=c
  ·subst j;rw[q]at f;cases f;exact low_ints _ _
  by_cases k:i=d
  ·subst k;rw[p]at f;cases f;simp[AO.low,xt,ĭ,AV.low,r]
  rw[h.get i a j k]at f;have:=Đ.mp (show s.all (AO.low s.length)=true from cl) o (Ā f);exact this
 refine⟨⟨⟨t,b,by rw[l d ld];exact p,by rw[l c r];exact q,v,w,x⟩,?_⟩,⟨g,λi j k=>?_⟩,all⟩
 ·unfold Cl;rw[g];exact all
 ·by_cases a:i<s.length
  ·rw[l i a];exact h.get i a j k
  ·rw[DZ (by rw[g];lia),DZ (by lia)]
def append_at (h:ö s i=À xs)(hl:xs.length<sizeLine):a6 (.ref i) [v] s=.ok .Ě (s.set i (.lst (xs++[v]))):=by
 unfold a6;simp only[h,õ,Ì hl]
def xE (h:ö s i=À xs):(jL "list" (.ref i) s).isSome=true:=by
 show((ö s i).map λ_=>()).isSome=true;rw[h];rfl
def xM (h:ö s i=À xs):ö (s.set i (.lst ys)) i=À ys:=by
 refine f' (Ć ?_);exact(Æ.mp (Ē h)).1
theorem gA (b:Nat):∀l:Â Str,ĭ b (l.map AV.str)=true
 |[]=>by simp[ĭ]
 |i::r=>by simp only[Õ,ĭ,gA b r];simp[AV.low]
def xH (h:ö s i=À xs):kI [.ref i] s=.ok (.int xs.length) s:=by
 show(need (ö s i) λxs=>R.ok (AV.int xs.length) s)=_;rw[h];rfl
theorem G0 (f:α->b):∀(l:Â α) (m:Nat),(l.map f).eraseIdx m=(l.eraseIdx m).map f
 |[],_=>rfl
 |a::r,0=>rfl
 |a::r,m+1=>by show f a::(r.map f).eraseIdx m=f a::(r.eraseIdx m).map f;rw[G0 f r m]
def TG:(fI "int" "list"=false)/\(fI "int" "tuple"=false)/\(fI "int" "str"=false)/\(fI "int" "int"=true)/\(fI "int" "bool"=false)/\
  (fI "str" "list"=false)/\(fI "str" "tuple"=false)/\(fI "str" "str"=true)/\
  (fI "tuple" "list"=false)/\(fI "tuple" "tuple"=true)/\(fI "list" "list"=true)/\(fI "list" "tuple"=false):=by
 refine⟨?_,?_,?_,?_,?_,?_,?_,?_,?_,?_,?_,?_⟩<;>decide+kernel
def KR (n:String)(i:Int)(s:S)(Q:AV->S->Prop):(gC n (.int i) s).wp Q=Q (.bl (fI "int" n)) s:=rfl
def KS (n:String)(i:Str)(s:S)(Q:AV->S->Prop):(gC n (.str i) s).wp Q=Q (.bl (fI "str" n)) s:=rfl
def KU (n:String)(i:Â AV)(s:S)(Q:AV->S->Prop):(gC n (.tup i) s).wp Q=Q (.bl (fI "tuple" n)) s:=rfl
def Dc (h:ö s i=À xs):gC n (.ref i) s=.ok (.bl (fI "list" n)) s:=by
 have e:=Ē h;unfold gC;rw[show DO (.ref i) s=À "list" by simp only[DO,e]];rfl
def wy (b:Bool)(s:S):truth (.bl b) s=À b:=rfl
def Nf (a b:Bool)(s:S)(Q:AV->S->Prop):(iW (.bl a) (.bl b) s).wp Q=Q (.bl (!decide (a=b))) s:=rfl
def DV (a b:Ev)(env:En)(s:S)(Q:Â AV×Gd->S->Prop):(IK a b env s).wp Q=(a env s).wp λv s1=>(b env s1).wp λw c=>(need (FP v w c) λr=>.ok r c).wp Q:=by
 unfold IK;rw[wp_bind];congr 1;funext v s1;rw[wp_bind]
def same_int (n:Nat)(i:Int)(s:S):đ (n+1) [.int i,.int i] s=.ok (.bl true) s:=by
 apply R.wp.eq;unfold đ cZ;simp?[ni,↓KR,TG,wy,f6,bH]
def same_str (n:Nat)(i:Str)(s:S):đ (n+1) [.str i,.str i] s=.ok (.bl true) s:=by
 apply R.wp.eq;unfold đ cZ;simp?[ni,↓KS,TG,wy,f6,bH]
theorem xb:∀n:Nat,vi (è n (.bl true))=À (è n true)
 |0=>rfl
 |n+1=>by rw[List.replicate_succ];show(vi (è n (.bl true))).map (true::·)=_;rw[xb n];rfl
def CP (m:Nat):(è m true).all id=true:=by
 rw[Đ];intro b a;rw[(List.mem_replicate.mp a).2];rfl
def KZ (xs:Â AV)(s:S):kI [.tup xs] s=.ok (.int xs.length) s:=rfl
end Ro
namespace Mm
open PySem L2
def US (c:Nat)(m:Str)(n:Nat)(F:Â AV->S->R AV)(b:Ev)(r:gL)(env:En)(s:S)(Q:AV->S->Prop):(ē c m n F b r env s).wp Q=(b env s).wp λx s1=>match qd c x s1 with
 |some p=>p.2.lookup m=none/\(r env s1).wp λa d=>a.length=n/\(F (x::a) d).wp Q
 |none=>False:=by
 unfold ē;rw[wp_bind];congr 1;funext x s1;cases qd c x s1 with
 |none=>rfl
 |some p=>
  rw[pC,kL,wp_bind];congr 1;congr 1;funext a d;rw[kL]
def MA (c:Nat)(f:Str)(b mv:Ev)(env:En)(s:S)(N:En->S->Prop)(T:AV->S->Prop):(iN c f b mv env s).wp N T=(mv env s).wp λy s1=>(b env s1).wp λx a=>match qd c x a with
 |some p=>p.2.length<1000/\N env (a.set p.1 (.ins c (wm f y p.2)))
 |none=>False:=by
 unfold iN;rw[bX];congr 1;funext y s1;rw[bX];congr 1;funext x a;cases qd c x a with
 |none=>rfl
 |some p=>exact Jm _ _ _ _
def su (h:s[i]?=À (.ins c fs)):qd c (.ref i) s=À (i,fs):=by
 unfold qd;dsimp only;rw[h];dsimp only;rw[Ì rfl]
def BA (h:s[i]?=À (.ins c fs)) (l:fs.lookup f=À v):œ c f (.ref i) s=.ok v s:=by
 unfold œ;rw[su h];dsimp only[need];rw[l]
structure At (B:Nat)(m:Â AO)(s:S):Prop where
 get:∀i,i<m.length->s[B+i]?=m[i]?
def At.at (h:At B m s)(e:m[i]?=À o):s[B+i]?=À o:=by
 rw[h.get i (Æ.mp e).1];exact e
def At.len (h:At B m s)(k:0<m.length):B+m.length<=s.length:=by
 have e:=h.get (m.length-1) (by lia);rw[Å (by lia:m.length-1<m.length)]at e;have:=(Æ.mp e).1;lia
def At.app (h:At B m s)(e:S):At B m (s++e):=⟨λi a=>by
 have q:=h.get i a;rw[Å a]at q⊢;rw[Ü (Æ.mp q).1];exact q⟩
def At.new (s e:S):At s.length e (s++e):=⟨λi a=>by rw[ñ (by lia)];congr 1;lia⟩
theorem At.set (h:At B m s)(i:Nat)(o:AO):At B (m.set i o) (s.set (B+i) o):=⟨λj a=>by
 rw[ű]at a;by_cases e:i=j
 ·subst e;have q:=h.get i a;rw[Å a]at q;rw[Ć (Æ.mp q).1,Ć a]
 ·rw[ì (by lia),ì e];exact h.get j a⟩
def At.keep (h:At B m s)(k:∀i,B<=i->i<B+m.length->s'[i]?=s[i]?):At B m s':=⟨λi a=>by rw[k _ (by lia) (by lia)];exact h.get i a⟩
mutual
def Rp (b:Nat)(s:S):Dt->AV->Prop
 |.Ě,v=>v=.Ě
 |.bl _,_=>False
 |.int i,v=>v=.int i
 |.str x,v=>v=.str x
 |.tup l,v=>∃xs,v=.tup xs/\l.length<=1000/\bA b s l xs
 |.lst l,v=>∃i xs,v=.ref i/\b<=i/\ö s i=À xs/\l.length<=1000/\bA b s l xs
def bA (b:Nat)(s:S):Â Dt->Â AV->Prop
 |[],xs=>xs=[]
 |d::l,xs=>∃x r,xs=x::r/\Rp b s d x/\bA b s l r
end
mutual
theorem Rp.mono (k:∀i xs,ö s i=À xs->ö s' i=À xs):∀{d:Dt}{v:AV},Rp b s d v->Rp b s' d v
 |.Ě,_,h=>by unfold Rp at h⊢;exact h
 |.bl _,_,h=>by unfold Rp at h;exact h.elim
 |.int _,_,h=>by unfold Rp at h⊢;exact h
 |.str _,_,h=>by unfold Rp at h⊢;exact h
 |.tup l,_,h=>by
  unfold Rp at h⊢;obtain⟨xs,e,hl,h⟩:=h;exact⟨xs,e,hl,bA.mono k h⟩
 |.lst l,_,h=>by
  unfold Rp at h⊢;obtain⟨i,xs,e,c,a,hl,h⟩:=h;exact⟨i,xs,e,c,k i xs a,hl,bA.mono k h⟩
theorem bA.mono (k:∀i xs,ö s i=À xs->ö s' i=À xs):∀{l:Â Dt}{xs:Â AV},bA b s l xs->bA b s' l xs
 |[],_,h=>by unfold bA at h⊢;exact h
 |_::_,_,h=>by
  unfold bA at h⊢;obtain⟨x,r,e,a,c⟩:=h;exact⟨x,r,e,Rp.mono k a,bA.mono k c⟩
end
def Rp.app (h:Rp b s d v)(e:S):Rp b (s++e) d v:=h.mono λ_ _ q=>ĳ q
def bA.app (h:bA b s l xs)(e:S):bA b (s++e) l xs:=h.mono λ_ _ q=>ĳ q
def bA.nil:bA b s [] []:=by unfold bA;rfl
def bA.cons {b:Nat}{s:S}{d:Dt}{v:AV}{l:Â Dt}{xs:Â AV}(h:Rp b s d v)(k:bA b s l xs):bA b s (d::l) (v::xs):=by unfold bA;exact⟨v,xs,rfl,h,k⟩
theorem bA.length:∀{l:Â Dt}{xs:Â AV},bA b s l xs->l.length=xs.length
 |[],_,h=>by unfold bA at h;subst h;rfl
 |_::_,_,h=>by
  unfold bA at h;obtain⟨x,r,rfl,_,a⟩:=h;simp[bA.length a]
def kr (s:S)(i:Int):Rp b s (.int i) (.int i):=by unfold Rp;rfl
def l3 (s:S)(i:Str):Rp b s (.str i) (.str i):=by unfold Rp;rfl
def Ca (s:S):Rp b s .Ě .Ě:=by unfold Rp;rfl
def uA (hl:l.length<=1000)(h:bA b s l xs):Rp b s (.tup l) (.tup xs):=by unfold Rp;exact⟨xs,rfl,hl,h⟩
def B' (e:ö s i=À xs)(a:b<=i)(hl:l.length<=1000)(h:bA b s l xs):Rp b s (.lst l) (.ref i):=by unfold Rp;exact⟨i,xs,rfl,a,e,hl,h⟩
theorem bA.map:∀{l:Â α},(∀a∈l,Rp b s (f a) (g a))->bA b s (l.map f) (l.map g)
 |[],_=>.nil
 |a::l,h=>.cons (h a (.head _)) (bA.map λb c=>h b (.tail _ c))
end Mm
namespace Ro
open PySem L2 Mm
def uC (d:u0 gs s)(h:∀p∈xs.zip ys,đ n [p.1,p.2] s=.ok (.bl true) s) (Q:Â AV->S->Prop)(k:∀m,Q (è m (.bl true)) s) :
  (bh (gT 2 (ß (gN 0) (ß (gN 1) Ű))) jk (ě 2 (đ n) (Á (mv 0) (Á (mv 1) Ë))) gs (uT xs ys) [none,none] s []).wp Q:=by
 unfold uT;refine ml (λg a b st=>st=s/\∃r x y m,(∀p∈r,p∈xs.zip ys)/\g=(r.map λp=>AV.tup [p.1,p.2])/\b=[x,y]/\a=è m (.bl true)) ?_ ?_ ?_ _ _ _ _ ⟨rfl,xs.zip ys,none,none,0,λ_ h=>h,rfl,rfl,rfl⟩
 ·rintro _ _ _ st ⟨rfl,_⟩;exact d
 ·rintro a b st ⟨rfl,r,x,y,m,_,e,rfl,rfl⟩;exact k m
 ·rintro v r a b st ⟨rfl,c,x,y,m,hr,e,rfl,rfl⟩;cases c with
  |nil=>cases e
  |cons p c=>
   cases e;simp?[↓eW (h p (hr p (.head _)))];exact⟨c,_,_,m+1,λx f=>hr x (.tail _ f),rfl,rfl,by rw[List.replicate_succ']⟩
def AH (h:xs.length=ys.length):(uT xs ys).length=xs.length:=by unfold uT;simp[h]
def FG (hl:xs.length<=sizeLine)(a:xs.length=ys.length)(h:∀p∈xs.zip ys,đ n [p.1,p.2] s=.ok (.bl true) s):đ (n+1) [.tup xs,.tup ys] s=.ok (.bl true) s:=by
 apply R.wp.eq;unfold đ cZ;simp?[ni,↓KU,TG,wy,f6,bH,↓Nf,pJ,↓eW (KZ _ _),↓DV,FP,yl,a];refine⟨?_,?_⟩
 ·rw[AH a];exact hl
 refine uC (by intro p b;cases b) h _ λm=>?_;unfold Fz;rw[xb];simp?[CP]
def FF (hl:xs.length<=sizeLine)(c:xs.length=ys.length)(a:ö s i=À xs)(b:ö s j=À ys)(h:∀p∈xs.zip ys,đ n [p.1,p.2] s=.ok (.bl true) s):đ (n+1) [.ref i,.ref j] s=.ok (.bl true) s:=by
 apply R.wp.eq;unfold đ cZ;simp?[ni,↓eW (Dc a),↓eW (Dc b),TG,wy,f6,bH,↓Nf,pJ,↓eW (xH a),↓eW (xH b),↓DV,FP,yl,a,b,ir,c];refine⟨?_,?_⟩
 ·rw[AH c];exact hl
 refine uC ?_ h _ λm=>?_
 ·intro p d;simp only[cy,aV,ò,bg,nF]at d;rcases d with rfl|rfl
  ·exact a
  ·exact b
 unfold Fz;rw[xb];simp?[CP]
def IG (n:Nat)(s:S):đ (n+1) [.Ě,.Ě] s=.ok (.bl true) s:=by
 apply R.wp.eq;unfold đ cZ;simp?[ni]
mutual
theorem DI:∀{d:Dt}{v w:AV}{n:Nat},Rp b s d v->Rp b s d w->d.dep<n->đ n [v,w] s=.ok (.bl true) s
 |_,_,_,0,_,_,h=>absurd h (QX _)
 |.Ě,_,_,n+1,h,k,_=>by unfold Rp at h k;subst h k;exact IG n s
 |.bl _,_,_,n+1,h,k,_=>by unfold Rp at h;exact h.elim
 |.int _,_,_,n+1,h,k,_=>by unfold Rp at h k;subst h k;exact same_int n _ s
 |.str _,_,_,n+1,h,k,_=>by unfold Rp at h k;subst h k;exact same_str n _ s
 |.tup l,_,_,n+1,h,k,hd=>by
  unfold Rp at h k;obtain⟨xs,rfl,hl,h⟩:=h;obtain⟨g,rfl,_,k⟩:=k;have e:=h.length;have f:=k.length;have hd:bZ l+1<n+1:=by simpa[Dt.dep]using hd
  exact FG (qF (by lia)) (by lia) (uD h k (by lia))
 |.lst l,_,_,n+1,h,k,hd=>by
  unfold Rp at h k;obtain⟨i,xs,rfl,_,a,hl,h⟩:=h;obtain⟨j,g,rfl,_,c,_,k⟩:=k;have e:=h.length;have f:=k.length;have hd:bZ l+1<n+1:=by simpa[Dt.dep]using hd
  exact FF (qF (by lia)) (by lia) a c (uD h k (by lia))
theorem uD:∀{l:Â Dt}{xs ys:Â AV}{n:Nat},bA b s l xs->bA b s l ys->bZ l<n->∀p∈xs.zip ys,đ n [p.1,p.2] s=.ok (.bl true) s
 |[],_,_,n,h,k,_=>by
  unfold bA at h;subst h;intro p hp;simp at hp
 |d::l,_,_,n,h,k,hd=>by
  unfold bA at h k;obtain⟨x,r,rfl,a,c⟩:=h;obtain⟨y,t,rfl,e,f⟩:=k;have hd:max d.dep (bZ l)<n:=by simpa[bZ]using hd
  intro p hp;rw[JB]at hp;rcases ò.mp hp with rfl|hp
  ·exact DI a e (by lia)
  ·exact uD c f (by lia) p hp
end
end Ro
namespace Mm
open PySem L2
mutual
theorem Rp.low:∀{d:Dt}{v:AV},Rp b s d v->v.low s.length=true
 |.Ě,_,h=>by unfold Rp at h;subst h;simp only[AV.low]
 |.bl _,_,h=>by unfold Rp at h;exact h.elim
 |.int _,_,h=>by unfold Rp at h;subst h;simp only[AV.low]
 |.str _,_,h=>by unfold Rp at h;subst h;simp only[AV.low]
 |.tup l,_,h=>by
  unfold Rp at h;obtain⟨xs,rfl,_,h⟩:=h;simp only[AV.low];exact bA.low h
 |.lst l,_,h=>by
  unfold Rp at h;obtain⟨i,xs,rfl,_,a,_⟩:=h;simp only[AV.low,Ų];exact(Æ.mp (Ē a)).1
theorem bA.low:∀{l:Â Dt}{xs:Â AV},bA b s l xs->ĭ s.length xs=true
 |[],_,h=>by unfold bA at h;subst h;simp only[ĭ]
 |_::_,_,h=>by
  unfold bA at h;obtain⟨x,r,rfl,a,c⟩:=h;simp only[ĭ,Rp.low a,bA.low c];rfl
end
theorem bA.append:∀{l q:Â Dt}{xs ys:Â AV},bA b s l xs->bA b s q ys->bA b s (l++q) (xs++ys)
 |[],_,_,_,h,k=>by unfold bA at h;subst h;exact k
 |_::_,_,_,_,h,k=>by
  unfold bA at h;obtain⟨x,r,rfl,a,c⟩:=h;exact .cons a (bA.append c k)
def bA.one (h:Rp b s d v):bA b s [d] [v]:=.cons h .nil
def pb (c:Cl s)(h:bA b s l xs):Cl (s++[.lst xs]):=c.add (by
 have:=h.low;simp only[Ĩ,a9,AO.low,ae];exact ĭ.mono (by simp) this)
def yb (a:b<=s.length)(hl:l.length<=1000)(h:bA b s l xs):Rp b (s++[.lst xs]) (.lst l) (.ref s.length):=B' (Ro.Ģ s xs) a hl (h.app _)
def jF:bh d b elt [] [] env s a=.ok a s:=by unfold bh;exact Ì (show u0 [] s from λp c=>nomatch c)
def Jd (h:ö s i=À xs):DR (.ref i) s=.ok (xs,[(i,xs)]) s:=by
 show(need (ö s i) λxs=>R.ok (xs,[(i,xs)]) s)=_;rw[h];rfl
def GH {b:Nat}(C:S->Prop){names:Â Str}{i:Nat}{s:S}{elt:Ev}{x0:É AV}{rest:En}(f:Str->Dt)(t:ö s i=À (names.map AV.str)) (c:C s)
  (h:∀x∈names,∀e,C (s++e)->(elt (À (.str x)::rest) (s++e)).wp λv s'=>∃j,s'=s++e++j/\C s'/\Rp b s' (f x) v) :
  (bh (gN 0) jk elt [(i,names.map AV.str)] (names.map AV.str) (x0::rest) s []).wp λa s'=>∃e,s'=s++e/\C s'/\bA b s' (names.map f) a:=by
 refine ml (λxs a d st=>∃done r x e,names=done++r/\xs=r.map AV.str/\d=x::rest/\st=s++e/\C st/\bA b st (done.map f) a) ?_ ?_ ?_ _ _ _ _ ⟨[],names,x0,[],rfl,rfl,rfl,by simp,c,.nil⟩
 ·rintro _ _ _ st ⟨_,_,_,e,_,_,_,rfl,_⟩ p u;rw[Ġ.mp u];exact ĳ t
 ·rintro a d st ⟨done,r,x,e,g,k,rfl,rfl,l,m⟩;cases r with
  |cons=>cases k
  |nil=>rw[ð]at g;subst g;exact⟨e,rfl,l,m⟩
 ·rintro v r a d st ⟨done,n,x,e,g,k,rfl,rfl,l,m⟩;cases n with
  |nil=>cases k
  |cons y n=>
   cases k;walk_at"w";refine(h y (by rw[g];simp) e l).mono ?_;rintro v s' ⟨j,rfl,o,q⟩;exact⟨done++[y],n,_,e++j,by rw[g];simp,rfl,rfl,by simp,o,by rw[ķ];exact(m.app j).append (.one q)⟩
def nN (d:b v env s=.nx e1 s)(e:a e1 s=.ok true s)(f:elt e1 s=.ok x s)(g:u0 gs s:=by exact λp h=>nomatch h):bh b a elt gs (v::r) env s c=bh b a elt gs r e1 s (c++[x]):=by
 rw[bh,Ì g,d];dsimp only;rw[e];show(if true=true then (elt e1 s).calm.bind λx i=>bh b a elt gs r e1 i (c++[x])else bh b a elt gs r e1 s c)=_;rw[Ì rfl,f];rfl
def Bs (d:b v env s=.nx e1 s)(e:a e1 s=.ok false s)(f:u0 gs s:=by exact λp g=>nomatch g):bh b a elt gs (v::r) env s c=bh b a elt gs r e1 s c:=by
 rw[bh,Ì f,d];dsimp only;rw[e];show(if false=true then (elt e1 s).calm.bind λx h=>bh b a elt gs r e1 h (c++[x])else bh b a elt gs r e1 s c)=_;rw[Ö (by decide)]
end Mm
namespace Ro
open PySem L2 Mm
def kT {α:Type}(f:α->Str)(g:α->AV)(l:Â α):Â (Key×AV):=l.map λa=>(.inr (f a),g a)
theorem Cy (f:α->Str)(g:α->AV)(x:Str):∀l:Â α,bE (kT f g l) (.inr x)=(l.find? λa=>decide (f a=x)).map g
 |[]=>rfl
 |a::r=>by
  show(if (bc (f a):Key)=bc x then À (g a)else bE (kT f g r) (.inr x))=_;rw[Cy f g x r,Ś];by_cases h:f a=x
  ·rw[Ì (by rw[h]),ó h];rfl
  ·rw[Ö (λz=>h (jt z)),é h]
def yv (h:x∈l):bE (kT id g l) (.inr x)=À (g x):=by
 rw[Cy];cases e:l.find? λa=>decide (id a=x)with
 |none=>
  have:=Jz.mp e x h;simp at this
 |some a=>
  have:=List.find?_some e;have:a=x:=by simpa using this
  rw[this];rfl
def Jc (h:x∉l):bE (kT id g l) (.inr x)=none:=by
 rw[Cy];have:(l.find? λa=>decide (id a=x))=none:=Jz.mpr λa b=>by
  simp only[id,Ų];intro e;exact h (e▸b)
 rw[this];rfl
theorem Ja (f:α->Str)(g:α->AV):∀l:Â α,kz (kT f g l)=À (l.map f)
 |[]=>rfl
 |a::r=>by
  show(kz (kT f g r)).map (f a::·)=_;rw[Ja f g r];rfl
def qC (h:x∉l)(d:v=g x):kn (kT id g l) (.inr x) v=kT id g (l++[x]):=by
 unfold kn;have:((kT id g l).any λe=>decide (e.1=bc x))=false:=by
  rw[JX];intro p c;obtain⟨a,b,rfl⟩:=ŕ.mp c;simp only[id,Ų];intro z;exact h (jt z▸b)
 rw[this,Ö (by decide)];unfold kT;rw[ķ,d];rfl
def Hh (h:∀x∈l,g x=g' x):kT id g l=kT id g' l:=iV λa b=>by show(_,g a)=(_,g' a);rw[h a b]
def uy (h:x∈l):kn (kT id g l) (.inr x) v=kT id (λy=>if y=x then v else g y) l:=by
 unfold kn;have:((kT id g l).any λb=>decide (b.1=bc x))=true:=by
  rw[lj];exact⟨(.inr x,g x),ŕ.mpr ⟨x,h,rfl⟩,by simp⟩
 rw[Ì this];unfold kT;rw[r9];refine iV λa c=>?_;show(if (bc a:Key)=bc x then ((bc a:Key),v)else (bc a,g a))=(bc a,if a=x then v else g a)
 by_cases e:a=x
 ·rw[Ì (by rw[e]),Ì e]
 ·rw[Ö (λz=>e (jt z)),Ö e]
def vh (B:Nat)(h:Int):Â (Str×AV):=[("keeps",.ref (B+1)),("rows",.ref (B+2)),("hands",.ref (B+3)),("makers",.ref (B+4)),("rates",.ref (B+5)),("half",.int h),("money",.ref (B+6)),("debts",.ref (B+7))]
def gw (B:Nat)(h:Int):(vh B h).lookup (Ĕ "keeps")=À (AV.ref (B+1)):=by rfl
def kd (B:Nat)(h:Int):(vh B h).lookup (Ĕ "rows")=À (AV.ref (B+2)):=by rfl
def oF (B:Nat)(h:Int):(vh B h).lookup (Ĕ "hands")=À (AV.ref (B+3)):=by rfl
def my (B:Nat)(h:Int):(vh B h).lookup (Ĕ "makers")=À (AV.ref (B+4)):=by rfl
def jH (B:Nat)(h:Int):(vh B h).lookup (Ĕ "rates")=À (AV.ref (B+5)):=by rfl
def KD (B:Nat)(h:Int):(vh B h).lookup (Ĕ "half")=À (AV.int h):=by rfl
def oG (B:Nat)(h:Int):(vh B h).lookup (Ĕ "money")=À (AV.ref (B+6)):=by rfl
def zL (B:Nat)(h:Int):(vh B h).lookup (Ĕ "debts")=À (AV.ref (B+7)):=by rfl
def R5 (B:Nat)(h:Int)(k:((["keeps","rows","hands","makers","rates","half","money","debts"]:Â Str).any λf=>m == f)=false):(vh B h).lookup m=none:=by
 simp only[a',List.any_nil,Rg,FR]at k;obtain⟨a,b,c,d,e,g,i,j⟩:=k;unfold vh;simp only[ĝ,a,b,c,d,e,g,i,j,List.lookup_nil]
def xr (h:lA s i=À kvs):o_ (.str x) (.ref i) s=.ok (.bl (bE kvs (.inr x)).isSome) s:=by
 show(need (lA s i) λkvs=>need (hI (.str x)) λk=>R.ok (AV.bl (bE kvs k).isSome) s)=_;rw[h];rfl
def sk (h:lA s i=À kvs):uo (.str x) (.ref i) s=.ok (.bl (!(bE kvs (.inr x)).isSome)) s:=by
 show(need (lA s i) λkvs=>need (hI (.str x)) λk=>R.ok (AV.bl (!(bE kvs k).isSome)) s)=_;rw[h];rfl
def MY (h:lA s i=À kvs)(e:bE kvs (.inr x)=À v):fZ (.ref i) (.str x) s=.ok v s:=by
 show(need (lA s i) λkvs=>need (hI (.str x)) λk=>need (bE kvs k) λv=>R.ok v s)=_;rw[h,õ,show hI (.str x)=À (.inr x)from rfl,õ,e];rfl
def kh:(bE (kT id g l) (.inr x)).isSome=decide (x∈l):=by
 by_cases h:x∈l
 ·rw[yv h,ó h];rfl
 ·rw[Jc h,é h];rfl
def dX (h:b env s=.rt v s1)(a:env=as.map À++è (n-as.length) none:=by rfl):dU n b as s=.ok v s1:=by subst a;unfold dU;rw[h]
def i8 (h:b env s=.nx e s1)(a:env=as.map À++è (n-as.length) none:=by rfl):dU n b as s=.ok .Ě s1:=by subst a;unfold dU;rw[h]
def bB (h:b env s=.ex c s1)(a:env=as.map À++è (n-as.length) none:=by rfl):dU n b as s=.ex c s1:=by subst a;unfold dU;rw[h]
def aE (h:a env s=.ex c s1):ý a b env s=.ex c s1:=by unfold ý;rw[h]
def á (h:a env s=.nx e s1):ý a b env s=b e s1:=by unfold ý;rw[h]
def mx (h:m env s=.ex c s1):ĥ m env s=.ex c s1:=by unfold ĥ;rw[h];rfl
def i6 (h:m env s=.ok v s1):ĥ m env s=.nx env s1:=by unfold ĥ;rw[h];rfl
def eM (h:c env s=.ok true s1):gb c a b env s=a env s1:=by unfold gb;rw[h];rfl
def Ą (h:c env s=.ok false s1):gb c a b env s=b env s1:=by unfold gb;rw[h];rfl
def cJ:mv 0 (À v::l) s=.ok v s:=rfl
def iz:mv 1 (x::À v::l) s=.ok v s:=rfl
def zW (h:a.length<=1000)(k:x.length<=1000)(e:m env s=.ok (.str x) s) (r:Ej)(Q:AV->S->Prop)(hr:∀t:Str,t.length<=2000->((r t env s).bind λt s1=>if t.length<=sizeLine then R.ok (AV.str t) s1 else .bad).wp Q):(fJ (ar (mc (.str a)) (ar (aI gB m) r)) env s).wp Q:=by
 have b:(fG++a).length=a.length:=by rw[gm];show 0+_=_;lia
 have c:(fG++a++x).length=a.length+x.length:=by rw[gm,b]
 unfold fJ ar mc aI;simp only[â];rw[Ì (by rw[b,ā];lia)];have d:gB (.str x) s=.ok (.str x) s:=Ì (by rw[ā];lia);simp only[e,â,d];rw[Ì (by rw[c,ā];lia)];exact hr _ (by rw[c];lia)
def join_nil (h:∀t,Q (.str t) s):∀t:Str,t.length<=2000->((lh t env s).bind λt s1=>if t.length<=sizeLine then R.ok (AV.str t) s1 else .bad).wp Q:=λt a=>by
 unfold lh;rw[â,Ì (by rw[ā];lia)];exact h t
def join_one (c:a.length<=1000)(h:∀t,Q (.str t) s):∀t:Str,t.length<=2000->((ar (mc (.str a)) lh t env s).bind λt s1=>if t.length<=sizeLine then R.ok (AV.str t) s1 else .bad).wp Q:=λt d=>by
 have b:(t++a).length=t.length+a.length:=gm _ _;unfold ar mc lh;simp only[â];rw[Ì (by rw[b,ā];lia),â,Ì (by rw[b,ā];lia)];exact h _
def l8 (h:(m env s).wp λ_ s1=>s1=s):yk c (Á m Ë) env s=.ex ⟨c,[]⟩ s:=by
 obtain⟨v,s1,e,rfl⟩:=h.get;unfold yk Á Ë;rw[e];rfl
def Qi (h:lA s i=À kvs)(l:kvs.length<1000):putD v (.ref i) (.str x) env s=.nx env (s.set i (.dK (kn kvs (.inr x) v))):=by
 show(match lA s i,hI (.str x)with
  |some kvs,À k=>if kvs.length<sizeLine then RS.nx env (s.set i (.dK (kn kvs k v)))else .bad
  |_,_=>.bad)=_
 rw[h];show(if kvs.length<sizeLine then _ else _)=_;rw[Ì (by rw[ā];lia)]
def t9 (f:α->Str)(g:α->AV)(l:Â α):(kT f g l).length=l.length:=by unfold kT;rw[Ê]
def Cd (h:a env s=.rt v s1):ý a b env s=.rt v s1:=by unfold ý;rw[h]
def cN (h:m l s=.ok v s1):Š i m l s=.nx (l.set i (À v)) s1:=by unfold Š;rw[h];rfl
def Ts {r:RS}(h:r.wp (λe s'=>e=env/\s'=t) (λ_ _=>False)):r=.nx env t:=by
 cases r with
 |nx e s'=>obtain⟨rfl,rfl⟩:=h;rfl
 |_=>exact h.elim
theorem fw:∀{l:Â AV},(∀v∈l,v.low b=true)->ĭ b l=true
 |[],_=>by simp[ĭ]
 |v::r,h=>by simp only[ĭ,h v (.head _),fw λw hw=>h w (.tail _ hw)];rfl
def Hg (k:x.length<=1000)(g:a.length<=1000)(e:m env s=.ok (.str x) s) (f:∀t,Q (.str t) s):(fJ (ar (aI gB m) (ar (mc (.str a)) lh)) env s).wp Q:=by
 have b:(fG++x).length=x.length:=by rw[gm];show 0+_=_;lia
 have c:(fG++x++a).length=x.length+a.length:=by rw[gm,b]
 have d:gB (.str x) s=.ok (.str x) s:=Ì (by rw[ā];lia);unfold fJ ar mc aI lh;simp only[e,â,d];rw[Ì (by rw[b,ā];lia)]
 (try simp only[â])
 rw[Ì (by rw[c,ā];lia),â,Ì (by rw[c,ā];lia)];exact f _
def ix0:Ċ (.tup (a::l)) (.int 0) s=.ok a s:=by
 show(need (lJ (a::l) 0) λv=>R.ok v s)=_;rw[show lJ (a::l) 0=À a from Lq.2.2.2.2.1 a l];rfl
def ix2:Ċ (.tup (a::b::c::l)) (.int 2) s=.ok c s:=by
 show(need (lJ (a::b::c::l) 2) λv=>R.ok v s)=_;rw[show lJ (a::b::c::l) 2=À c from Lq.2.2.2.2.2.2.1 a b c l];rfl
def lL (h:a env s=.ok v s1):ě 1 F (Á a Ë) env s=F [v] s1:=by
 unfold ě Á Ë;rw[h];rfl
def fm (h:a env s=.ok v s1)(k:b env s1=.ok w c):ě 2 F (Á a (Á b Ë)) env s=F [v,w] c:=by
 unfold ě Á Ë;rw[h,â,k];rfl
def bq (h:m env s=.ok xs s1):ī m env s=.ok (.ref s1.length) (s1++[.lst xs]):=by
 unfold ī;rw[h];rfl
def fH (h:c env s=.ok false s1):gb c a aN env s=.nx env s1:=(Ą h).trans rfl
def mv2:mv 2 (a::b::À v::l) s=.ok v s:=rfl
def ID {a b y:Str}(e:a.length<=1000)(f:b.length<=1000)(g:y.length<=1000)(d:m env s=.ok (.str y) s):yk c (Á (fJ (ar (mc (.str a)) (ar (aI gB m) (ar (mc (.str b)) lh)))) Ë) env s=.ex ⟨c,[]⟩ s:=l8 (zW e g d _ _ (join_one f λ_=>rfl))
def uH {t:S}{k:Nat}(c:Cl s)(lo:ĭ s.length xs=true)(e:m env s=.ok (.ref k) (s++t)) (a:ö (s++t) k=À xs) (hk:s.length<=k):i_ m env s=.ok xs s:=by
 apply R.wp.eq;simp?[↓eW e,a,↓kL,f7];exact⟨hk,c,lo⟩
def Oq:qd c (.ref s.length) (s++AO.ins c fs::t)=À (s.length,fs):=su (by rw[ñ (Í _)];simp)
def Qx:(s++a::t).set s.length o=s++o::t:=by rw[D' _ _ (Í _)];simp
def i7 (hl:fs.length<1000)(e:m (À (.ref s.length)::env) (s++.ins c fs::t)=.ok v (s++.ins c fs::t')):iN c f (mv 0) m (À (.ref s.length)::env) (s++.ins c fs::t)=.nx (À (.ref s.length)::env) (s++.ins c (wm f v fs)::t'):=by
 unfold iN;simp only[e,dV,cJ,Oq];rw[Ì hl,Qx]
def GK:ON env (s++a::t)=.ok (.ref (s.length+(t.length+1))) (s++a::(t++[.dK []])):=by
 unfold ON;rw[ć,Ķ,Ñ];rfl
def Np:Ff env (s++a::t)=.ok (.ref (s.length+(t.length+1))) (s++a::(t++[.dT []])):=by
 unfold Ff;rw[ć,Ķ,Ñ];rfl
def M':ī (Ŵ Ë) env (s++a::t)=.ok (.ref (s.length+(t.length+1))) (s++a::(t++[.lst []])):=by
 apply R.wp.eq;simp?[ć,Ķ,Ñ,cy]
def KQ (s:S):aQ [.ref s.length] (s++[.ins 9 []])=.ok .Ě (s++[.ins 9 (vh s.length 182),.dK [],.dK [],.dT [],.dK [],.dT [],.lst [],.lst []]):=by
 unfold aQ gR;refine i8 (env:=[À (.ref s.length)]) (e:=[À (.ref s.length)]) ?_;rw[á (i7 (by show 0<1000;lia) GK),á (i7 (by show 1<1000;lia) GK),á (i7 (by show 2<1000;lia) Np),á (i7 (by show 3<1000;lia) GK),á (i7 (by show 4<1000;lia) Np),
  á (i7 (m:=mc bC) (v:=.int 182) (by show 5<1000;lia) rfl),á (i7 (by show 6<1000;lia) M'),i7 (by show 7<1000;lia) M']
 rfl
def K2 (s:S)(env:En):qk 9 aQ env s=.ok (.ref s.length) (s++[.ins 9 (vh s.length 182),.dK [],.dK [],.dT [],.dK [],.dT [],.lst [],.lst []]):=by
 unfold qk;rw[KQ];rfl
def Gv (ns:Â Int)(p:Cl a):(dv [.sq (ns.map AV.int)] a).wp λv s'=>∃c d e,v=.ref d/\s'=a++e/\Dr c d 0 s'/\a.length<=c/\a.length<=d:=by
 obtain⟨b,z⟩:∃b:Â Int,k9 (ns.map AV.int) none (À 63)=b.map AV.int:=by
  refine⟨k9 ns none (À 63),?_⟩;unfold k9;rw[Ê,<-List.map_drop,<-List.map_take]
 have u:HV (.sq (ns.map AV.int)) none (À 63) a=.ok (.ref a.length) (a++[.lst (b.map AV.int)]):=by
  show R.ok _ (a++[AO.lst (k9 (ns.map AV.int) none (À 63))])=_;rw[z]
 have w:items (.ref a.length) (a++[.lst (b.map AV.int)])=À (b.map AV.int):=Ģ _ _;have q:Cl (a++[.lst (b.map AV.int)]):=p.add (by simp[AO.low,low_ints]);have i:Cl (a++[.lst (b.map AV.int)]++[.lst (b.map AV.int)]):=q.add (by simp[AO.low,low_ints]);have n:ö (a++[.lst (b.map AV.int)]++[.lst (b.map AV.int)]) (a++[AO.lst (b.map AV.int)]).length=À (b.map AV.int):=Ģ _ _;have b2:a.length<=(a++[AO.lst (b.map AV.int)]).length:=by simp
 unfold dv j9;simp?[↓eW u,w,DF];rw[Ñ]at *
 have g2:a.length<=(a++([AO.lst (b.map AV.int)]++[AO.lst (b.map AV.int)])).length:=by simp
 generalize ([AO.lst (b.map AV.int)]++[AO.lst (b.map AV.int)])=g at *
 generalize (a++[AO.lst (b.map AV.int)]).length=C at *
 have y:bf (.ref C) (.ref (a++g).length) (a++g++[.lst []])=.ok (.bl (b.map AV.int).isEmpty) (a++g++[.lst []]):=by
  unfold bf;rw[GZ (xs:=b.map AV.int) (ĳ n) (Ģ _ _) (vS b)];rfl
 have l:∀(s:S) (k:Nat) (x:É AV),wc [((mc (.str "cells")),(mv 1)),((mc (.str "turn")),(mc (.int 0)))] [x,À (.ref k)] s=.ok (.ref s.length) (s++[.dK (xt k 0)]):=by
  intro s k x;unfold wc Iu Iu Iu;simp only[mc,mv,â,Lq,v7,hI,b_,ir,õ];rw[Ì (by show(2:Nat)<=15;lia)];congr 1
 simp?[↓eW y,f7];have h:∀(k:Nat) (e:S) (f:Â Int),ö (a++e) k=À (f.map AV.int)->f≠[]->Cl (a++e)->a.length<=k->∃c d t,AV.ref (a++e).length=.ref d/\a++e++[.dK (xt k 0)]=a++t/\Dr c d 0 (a++e++[.dK (xt k 0)])/\a.length<=c/\a.length<=d:=λk e f hl A cl B=>by
  have D:=(Æ.mp (Ē hl)).1;refine⟨k,_,_,rfl,by rw[Ñ],⟨⟨0,f,by rw[ñ (Í _)];simp,Ē (ĳ hl),A,by lia,by lia⟩,cl.add ?_⟩,B,by simp⟩;simp only[Ĩ,a9,AO.low,xt,Õ,a_,ĭ,AV.low,ae,Ų];simp;simp at D;lia
 cases b with
 |nil=>
  simp only[a_,List.isEmpty_nil,f9,↓eW (l _ _ _)];have o:=Ģ (a++g) [.int 7];have j:Cl (a++g++[.lst [.int 7]]):=i.add (by simp[AO.low,ĭ,AV.low]);rw[Ñ]at o j⊢;exact h _ _ [7] o (by simp) j g2
 |cons m r=>
  simp only[Õ,List.isEmpty_cons,aG,ia,↓eW (l _ _ _)];exact h _ _ (m::r) n (by simp) i b2
theorem C5:∀(l:Â α)(m:Nat)(h:m<l.length),(l[m]::l.eraseIdx m).Perm l
 |[],_,h=>absurd h (by simp)
 |_::_,0,_=>List.Perm.refl _
 |a::r,m+1,h=>((List.Perm.swap ..).trans (List.Perm.cons a (C5 r m (by simpa using h))):(r[m]'(by simpa using h)::a::r.eraseIdx m).Perm (a::r))
end Ro
set_option maxHeartbeats 400000
namespace Ro
open PySem L2 Mm
structure Pv where
 d:Dt
 v:AV
 h:∀b s,Rp b s d v
theorem Pv.low (p:Pv)(b:Nat):p.v.low b=true:=AV.low.mono (ĩ _) (p.h 0 []).low
def pI (i:Int):Pv:=⟨.int i,.int i,λ_ s=>kr s i⟩
def pS (x:Str):Pv:=⟨.str x,.str x,λ_ s=>l3 s x⟩
def pN:Pv:=⟨.Ě,.Ě,λ_ s=>Ca s⟩
noncomputable def pT (l:Â Pv)(hl:l.length<=1000):Pv:=⟨.tup (l.map Pv.d),.tup (l.map Pv.v),λb s=>uA (by rw[Ê];exact hl) (bA.map λa _=>a.h b s)⟩
def pF (a b:Int):Pv:=pT [pI a,pI b] (by simp)
abbrev Mo:Type:=Bool×Int×Str×Int×Int×Str
def mW (b:Bool):Str:=if b then "sold" else "back"
def mE (x:Mo):AV:=.tup [.str (mW x.1),.int x.2.1,.str x.2.2.1,.int x.2.2.2.1,.int x.2.2.2.2.1,.str x.2.2.2.2.2]
def mD (x:Mo):Dt:=.tup [.str (mW x.1),.int x.2.1,.str x.2.2.1,.int x.2.2.2.1,.int x.2.2.2.2.1,.str x.2.2.2.2.2]
def dE (x:Str×Int×Str×Int):AV:=.tup [.str x.1,.int x.2.1,.str x.2.2.1,.int x.2.2.2]
def dD (x:Str×Int×Str×Int):Dt:=.tup [.str x.1,.int x.2.1,.str x.2.2.1,.int x.2.2.2]
def hV (x:Pv×Pv):AV:=.tup [x.1.v,x.2.v]
def tK (f:α->AV)(x:(Str×Int)×α):Â Key×AV:=(cM x.1,f x.2)
structure Bo where
 ps:Â Str
 kf:Str->Pv
 ws:Â Str
 rf:Str->Pv
 hs:Â ((Str×Int)×(Pv×Pv))
 ms:Â Str
 mf:Str->Pv
 rs:Â ((Str×Int)×Pv)
 h:Int
 mn:Â Mo
 db:Â (Str×Int×Str×Int)
def mid (B:Nat)(V:Bo):Â AO:=[.ins 9 (vh B V.h),.dK (kT id (λp=>(V.kf p).v) V.ps),.dK (kT id (λp=>(V.rf p).v) V.ws),.dT (V.hs.map (tK hV)),.dK (kT id (λp=>(V.mf p).v) V.ms),.dT (V.rs.map (tK Pv.v)),.lst (V.mn.map mE),.lst (V.db.map dE)]
abbrev oQ:Str:="by_days.<locals>.<lambda>"
structure Ŭ (B:Nat)(V:Bo)(s:S):Prop where
 at_:At B (mid B V) s
 cl:Cl s
 t0:s[0]?=À (.tab 20 oQ)
 b0:0<B
structure Bb (B:Nat)(s s':S):Prop where
 len:s.length<=s'.length
 get:∀i,i<s.length->i<B∨B+8<=i->s'[i]?=s[i]?
def Bb.app (h:Bb B s s')(e:S):Bb B s (s'++e):=⟨by have:=h.len;simp;lia,λi a k=>by rw[Ü (by have:=h.len;lia)];exact h.get i a k⟩
def Bb.refl (B:Nat)(s:S):Bb B s s:=⟨Í _,λ_ _ _=>rfl⟩
theorem Bb.trans (h:Bb B s s')(k:Bb B s' a):Bb B s a:=⟨ł h.len k.len,λi b q=>(k.get i (æ b h.len) q).trans (h.get i b q)⟩
section
variable {B:Nat}{V V1:Bo}{s:S}
theorem Ŭ.len (h:Ŭ B V s):B+8<=s.length:=h.at_.len (by show 0<8;lia)
theorem Ŭ.app (h:Ŭ B V s)(c:Cl (s++e)):Ŭ B V (s++e):=⟨h.at_.app e,c,by rw[Ü (by have:=h.len;lia)];exact h.t0,h.b0⟩
def Ŭ.put (h:Ŭ B V s){i:Nat}{o:AO}(c:i<8)(lo:o.low s.length=true)(b:(mid B V).set i o=mid B V1):Ŭ B V1 (s.set (B+i) o)/\Bb B s (s.set (B+i) o):=by
 have a:=h.b0;refine⟨⟨by rw[<-b];exact h.at_.set i o,h.cl.set lo,by rw[ì (by lia)];exact h.t0,a⟩,by rw[ű];exact Í _,λj d e=>?_⟩;rw[ì (by lia)]
def CS (h:Ŭ B V s):s[B]?=À (.ins 9 (vh B V.h)):=h.at_.at (i:=0) rfl
def gq (h:Ŭ B V s):lA s (B+1)=À (kT id (λp=>(V.kf p).v) V.ps):=Bt (h.at_.at (i:=1) rfl)
def j' (h:Ŭ B V s):lA s (B+2)=À (kT id (λp=>(V.rf p).v) V.ws):=Bt (h.at_.at (i:=2) rfl)
def oD (h:Ŭ B V s):Bu s (B+3)=À (V.hs.map (tK hV)):=Bv (h.at_.at (i:=3) rfl)
def mr (h:Ŭ B V s):lA s (B+4)=À (kT id (λp=>(V.mf p).v) V.ms):=Bt (h.at_.at (i:=4) rfl)
def lN (h:Ŭ B V s):Bu s (B+5)=À (V.rs.map (tK Pv.v)):=Bv (h.at_.at (i:=5) rfl)
def oU (h:Ŭ B V s):ö s (B+6)=À (V.mn.map mE):=f' (h.at_.at (i:=6) rfl)
def z8 (h:Ŭ B V s):ö s (B+7)=À (V.db.map dE):=f' (h.at_.at (i:=7) rfl)
def dH (h:Ŭ B V s){f:Str}{v:AV}{l:En}(k:(vh B V.h).lookup f=À v):aI (œ 9 f) (mv 0) (À (.ref B)::l) s=.ok v s:=by
 unfold aI;rw[cJ,â];exact BA (CS h) k
def u5 (h:Ŭ B V s)(l:((["keeps","rows","hands","makers","rates","half","money","debts"]:Â Str).any λf=>m == f)=false) (e1:c env s=.ok (.ref B) s) (a:r env s=.ok vs s) (b:vs.length=n:=by rfl):ē 9 m n F c r env s=F (.ref B::vs) s:=by
 unfold ē;rw[e1,â,su (CS h)];dsimp only[need];rw[Ì (R5 B V.h l),a,â];exact Ì b
def p1 (h:a env s=.ok v s):Á a Ë env s=.ok [v] s:=by unfold Á Ë;rw[h];rfl
def rK (h:Ŭ B V s)(l:((["keeps","rows","hands","makers","rates","half","money","debts"]:Â Str).any λf=>m == f)=false) (e1:b env s=.ok (.ref B) s) (a:ma env s=.ok v s):ē 9 m 1 F b (Á ma Ë) env s=F [.ref B,v] s:=u5 h l e1 (p1 a)
def rM (h:Ŭ B V s)(a:x∈V.ps):û [.ref B,.str x] s=.ok .Ě s:=by
 unfold û cg;refine i8 (env:=[À (.ref B),À (.str x)]) (Ą (s1:=s) (R.wp.eq ?_));simp?[↓eW (dH h (gw B V.h)),↓eW (sk (gq h)),kh,a,bH,pJ]
def uh (h:Ŭ B V s)(b:x.length<=1000)(a:x∉V.ps):û [.ref B,.str x] s=.ex ⟨3,[]⟩ s:=by
 unfold û cg;refine bB (env:=[À (.ref B),À (.str x)]) ((eM (s1:=s) (R.wp.eq ?_)).trans (l8 (zW (by decide) b rfl _ _ (join_nil λ_=>rfl))));simp?[↓eW (dH h (gw B V.h)),↓eW (sk (gq h)),kh,a,e9,f6]
def vp (h:Ŭ B V s)(a:x∈V.ws):č [.ref B,.str x] s=.ok .Ě s:=by
 unfold č du;refine i8 (env:=[À (.ref B),À (.str x)]) (Ą (s1:=s) (R.wp.eq ?_));simp?[↓eW (dH h (kd B V.h)),↓eW (sk (j' h)),kh,a,bH,pJ]
def xQ (h:Ŭ B V s)(b:x.length<=1000)(a:x∉V.ws):č [.ref B,.str x] s=.ex ⟨3,[]⟩ s:=by
 unfold č du;refine bB (env:=[À (.ref B),À (.str x)]) ((eM (s1:=s) (R.wp.eq ?_)).trans (l8 (zW (by decide) b rfl _ _ (join_nil λ_=>rfl))));simp?[↓eW (dH h (kd B V.h)),↓eW (sk (j' h)),kh,a,e9,f6]
def fX (h:Ŭ B V s)(e1:c env s=.ok (.ref B) s) (a:ma env s=.ok (.str x) s) (b:x∈V.ps):ĥ (ē 9 "need_person" 1 û c (Á ma Ë)) env s=.nx env s:=i6 ((rK h (by decide+kernel) e1 a).trans (rM h b))
def uf (h:Ŭ B V s)(c:x.length<=1000)(e1:d env s=.ok (.ref B) s) (a:ma env s=.ok (.str x) s) (b:x∉V.ps):ĥ (ē 9 "need_person" 1 û d (Á ma Ë)) env s=.ex ⟨3,[]⟩ s:=mx ((rK h (by decide+kernel) e1 a).trans (uh h c b))
def fY (h:Ŭ B V s)(e1:c env s=.ok (.ref B) s) (a:ma env s=.ok (.str x) s) (b:x∈V.ws):ĥ (ē 9 "need_work" 1 č c (Á ma Ë)) env s=.nx env s:=i6 ((rK h (by decide+kernel) e1 a).trans (vp h b))
def wg (h:Ŭ B V s)(c:x.length<=1000)(e1:d env s=.ok (.ref B) s) (a:ma env s=.ok (.str x) s) (b:x∉V.ws):ĥ (ē 9 "need_work" 1 č d (Á ma Ë)) env s=.ex ⟨3,[]⟩ s:=mx ((rK h (by decide+kernel) e1 a).trans (xQ h c b))
def lU (h:Ŭ B V s)(x:Str):Ũ [.ref B,.str x] s=.ok (.bl (decide (x∈V.ps∨x∈V.ws))) s:=by
 apply R.wp.eq;unfold Ũ gS;by_cases a:x∈V.ps
 ·simp?[↓eW (dH h (gw B V.h)),↓eW (xr (gq h)),kh,a,bH,true_or]
 ·simp?[↓eW (dH h (gw B V.h)),↓eW (xr (gq h)),kh,a,e9,false_or,↓eW (dH h (kd B V.h)),↓eW (xr (j' h))]
def nu (h:Ŭ B V s)(a:¬(x∈V.ps∨x∈V.ws)):ř [.ref B,.str x] s=.ok .Ě s:=by
 unfold ř dt;refine i8 (env:=[À (.ref B),À (.str x)]) (Ą (s1:=s) (R.wp.eq ?_));simp?[↓eW ((rK (m:="has_name") h (by decide+kernel) cJ iz).trans (lU h x)),a,e9,wy]
def oY (h:Ŭ B V s)(b:x.length<=1000)(a:x∈V.ps∨x∈V.ws):ř [.ref B,.str x] s=.ex ⟨2,[]⟩ s:=by
 unfold ř dt;refine bB (env:=[À (.ref B),À (.str x)]) ((eM (s1:=s) (R.wp.eq ?_)).trans (l8 (zW (by decide) b rfl _ _ (join_one (by decide) λ_=>rfl))));simp?[↓eW ((rK (m:="has_name") h (by decide+kernel) cJ iz).trans (lU h x)),a,bH,wy]
def oE (h:lA s i=À kvs)(l:kvs.length<64)(e1:v env s=.ok w s)(a:d env s=.ok (.ref i) s) (b:y env s=.ok (.str x) s):kJ d y v env s=.nx env (s.set i (.dK (kn kvs (.inr x) w))):=by
 unfold kJ;rw[e1,dV,a,dV,b,dV];exact Qi h (by lia)
def sT (h:Ŭ B V s)(a:¬(x∈V.ps∨x∈V.ws)) (hl:V.ps.length<64)(hk:(V.kf x).v=ž):Ő [.ref B,.str x] s=.ok .Ě (s.set (B+1) (.dK (kT id (λp=>(V.kf p).v) (V.ps++[x])))):=by
 unfold Ő cR;have e:=oE (env:=[À (.ref B),À (.str x)]) (v:=mc ž) (w:=ž) (y:=mv 1) (x:=x) (gq h) (by rw[t9];exact hl) rfl (dH h (gw B V.h)) rfl;rw[qC (λz=>a (.inl z)) hk.symm]at e;exact i8 (env:=[À (.ref B),À (.str x)]) ((á (i6 ((rK (m:="need_free") h (by decide+kernel) cJ iz).trans (nu h a)))).trans e)
def m5 (h:Ŭ B V s)(b:x.length<=1000)(a:x∈V.ps∨x∈V.ws):Ő [.ref B,.str x] s=.ex ⟨2,[]⟩ s:=by
 unfold Ő cR;exact bB (env:=[À (.ref B),À (.str x)]) (aE (mx ((rK (m:="need_free") h (by decide+kernel) cJ iz).trans (oY h b a))))
def wX (h:Ŭ B V s)(a:¬(x∈V.ps∨x∈V.ws)) (hl:V.ws.length<64)(hk:(V.rf x).v=.tup []):ŧ [.ref B,.str x] s=.ok .Ě (s.set (B+2) (.dK (kT id (λp=>(V.rf p).v) (V.ws++[x])))):=by
 unfold ŧ en;have e:=oE (env:=[À (.ref B),À (.str x)]) (v:=î Ë) (w:=.tup []) (y:=mv 1) (x:=x) (j' h) (by rw[t9];exact hl) (by apply R.wp.eq;walk_at"w") (dH h (kd B V.h)) rfl;rw[qC (λz=>a (.inr z)) hk.symm]at e;exact i8 (env:=[À (.ref B),À (.str x)]) ((á (i6 ((rK (m:="need_free") h (by decide+kernel) cJ iz).trans (nu h a)))).trans e)
def ze (h:Ŭ B V s)(b:x.length<=1000)(a:x∈V.ps∨x∈V.ws):ŧ [.ref B,.str x] s=.ex ⟨2,[]⟩ s:=by
 unfold ŧ en;exact bB (env:=[À (.ref B),À (.str x)]) (aE (mx ((rK (m:="need_free") h (by decide+kernel) cJ iz).trans (oY h b a))))
def Ar (h:Ŭ B V s)(d:Int):aR [.ref B,.int d] s=.ok .Ě (s.set B (.ins 9 (vh B d))):=by
 apply R.wp.eq;unfold aR gU;simp?[↓MA,su (CS h)];refine⟨by show 8<1000;lia,rfl⟩
def yd (h:Ŭ B V s)(a:x∈V.ps)(hl:V.ps.length<64)(p:Pv):Ū [.ref B,.str x,p.v] s=.ok .Ě (s.set (B+1) (.dK (kT id (λy=>if y=x then p.v else (V.kf y).v) V.ps))):=by
 unfold Ū eB;have e:=oE (env:=[À (.ref B),À (.str x),À p.v]) (v:=mv 2) (w:=p.v) (y:=mv 1) (x:=x) (gq h) (by rw[t9];exact hl) rfl (dH h (gw B V.h)) rfl;rw[uy a]at e;exact i8 (env:=[À (.ref B),À (.str x),À p.v]) ((á (fX h cJ iz a)).trans e)
def As (h:Ŭ B V s)(b:x.length<=1000)(a:x∉V.ps)(v:AV):Ū [.ref B,.str x,v] s=.ex ⟨3,[]⟩ s:=by
 unfold Ū eB;exact bB (env:=[À (.ref B),À (.str x),À v]) (aE (uf h b cJ iz a))
def nt (e:r env s=.ok vs s)(hl:vs.length<=1000):BY r env s=.ok vs s:=by
 unfold BY;rw[e,â,Ì (qF hl)]
theorem Cr {k:Str×Int}(f:α->AV):∀l:Â ((Str×Int)×α),(bE (l.map (tK f)) (cM k)).isSome=decide (k∈l.map dO)
 |[]=>rfl
 |x::r=>by
  show(if cM x.1=cM k then À (f x.2)else bE (r.map (tK f)) (cM k)).isSome=_;by_cases a:x.1=k
  ·rw[Ì (by rw[a]),ó (by rw[Õ,a];exact .head _)];rfl
  ·rw[Ö λz=>a (lV z),Cr f r,Õ];congr 1;rw[ò];exact eh ⟨.inr,λz=>z.resolve_left λe=>a e.symm⟩
def sj {l:Â ((Str×Int)×α)}{f:α->AV}(h:Bu s i=À (l.map (tK f))) (e1:r env s=.ok [.str a,.int k] s)(b:d env s=.ok (.ref i) s):cB (ue r d) env s=.ok (decide ((a,k)∈l.map dO)) s:=by
 unfold cB ue;rw[nt e1 (by simp),â,b,â];dsimp only;rw[h,õ,show nq [.str a,.int k]=À (cM (a,k))from rfl,õ,Cr];rfl
def zC {l:Â ((Str×Int)×α)}{f:α->AV}(h:Bu s i=À (l.map (tK f))) (j:(a,k)∉l.map dO) (hl:l.length<64)(c:v env s=.ok w s)(e1:r env s=.ok [.str a,.int k] s)(g:d env s=.ok (.ref i) s):qD d r v env s=.nx env (s.set i (.dT (l.map (tK f)++[(cM (a,k),w)]))):=by
 unfold qD;rw[c,dV,g,dV,nt e1 (by simp),dV];dsimp only;rw[h,show nq [.str a,.int k]=À (cM (a,k))from rfl];dsimp only;rw[Ì (by rw[Ê];exact ſ (by lia))];congr 3;unfold kn;rw[Ö];rw[lj];rintro⟨p,m,e⟩;obtain⟨x,n,rfl⟩:=ŕ.mp m;exact j (by rw[<-lV (a:=x.1) (b:=(a,k)) (ō e)];exact ŕ.mpr ⟨x,n,rfl⟩)
noncomputable abbrev hA (B:Nat)(x:Str)(k:Int)(y:Str)(v:AV):En:=[À (.ref B),À (.str x),À (.int k),À (.str y),À v]
def G8 (h:Ŭ B V s)(b:x.length<=1000)(a:x∉V.ps):Ī [.ref B,.str x,.int k,.str y,v] s=.ex ⟨3,[]⟩ s:=by
 unfold Ī a5;exact bB (env:=hA B x k y v) (aE (uf h b cJ iz a))
def zQ (h:Ŭ B V s)(c:y.length<=1000)(a:x∈V.ps)(b:y∉V.ps):Ī [.ref B,.str x,.int k,.str y,v] s=.ex ⟨3,[]⟩ s:=by
 unfold Ī a5;exact bB (env:=hA B x k y v) ((á (fX h cJ iz a)).trans (aE (uf (ma:=mv 3) h c cJ rfl b)))
def eq_str (e1:a env s=.ok (.str x) s) (c:b env s=.ok (.str y) s) (d:decide (x=y)=t):cB (Ó bf a b) env s=.ok t s:=by
 subst d;unfold cB Ó;rw[e1,â,c,â];rfl
def ET (h:Ŭ B V s)(a:x∈V.ps):Ī [.ref B,.str x,.int k,.str x,v] s=.ex ⟨3,[]⟩ s:=by
 unfold Ī a5;exact bB (env:=hA B x k x v) ((á (fX h cJ iz a)).trans ((á (fX (ma:=mv 3) h cJ rfl a)).trans (aE ((eM (eq_str (y:=x) iz rfl (ó rfl))).trans (l8 (by walk_at"w"))))))
def KO (h:Ŭ B V s)(e:x.length<=1000)(c:x∈V.ps)(d:y∈V.ps)(f:x≠y)(hk:(x,k)∈V.hs.map dO):Ī [.ref B,.str x,.int k,.str y,v] s=.ex ⟨2,[]⟩ s:=by
 have b:=sj (env:=hA B x k y v) (r:=Á (mv 1) (Á (mv 2) Ë)) (a:=x) (k:=k) (oD h) rfl (dH h (oF B V.h));rw[ó hk]at b;unfold Ī a5;exact bB (env:=hA B x k y v) ((á (fX h cJ iz c)).trans ((á (fX (ma:=mv 3) h cJ rfl d)).trans ((á (fH (eq_str (y:=y) iz rfl (é f)))).trans (aE ((eM b).trans (l8 (Hg e (by decide) iz λ_=>rfl)))))))
def G9 (h:Ŭ B V s)(d:x∈V.ps)(e:y∈V.ps)(f:x≠y)(hk:(x,k)∉V.hs.map dO) (hl:V.hs.length<64):Ī [.ref B,.str x,.int k,.str y,v] s=.ok .Ě (s.set (B+3) (.dT (V.hs.map (tK hV)++[(cM (x,k),.tup [.str y,v])]))):=by
 have b:=sj (env:=hA B x k y v) (r:=Á (mv 1) (Á (mv 2) Ë)) (a:=x) (k:=k) (oD h) rfl (dH h (oF B V.h));rw[é hk]at b;have c:=zC (env:=hA B x k y v) (r:=Á (mv 1) (Á (mv 2) Ë)) (a:=x) (k:=k) (v:=î (Á (mv 3) (Á (mv 4) Ë))) (w:=.tup [.str y,v]) (oD h) hk hl (by apply R.wp.eq;walk_at"w") rfl (dH h (oF B V.h));unfold Ī a5;exact i8 (env:=hA B x k y v) ((á (fX h cJ iz d)).trans ((á (fX (ma:=mv 3) h cJ rfl e)).trans ((á (fH (eq_str (y:=y) iz rfl (é f)))).trans ((á (fH b)).trans c))))
noncomputable abbrev kA (B:Nat)(x:Str)(k:Int)(y:Str):En:=[À (.ref B),À (.str x),À (.int k),À (.str y)]
def E5 (h:Ŭ B V s)(b:x.length<=1000)(a:x∉V.ws):Ė [.ref B,.str x,.int k,.str y] s=.ex ⟨3,[]⟩ s:=by
 unfold Ė aK;exact bB (env:=kA B x k y) (aE (wg h b cJ iz a))
def v9 (h:Ŭ B V s)(c:y.length<=1000)(a:x∈V.ws)(b:y∉V.ps):Ė [.ref B,.str x,.int k,.str y] s=.ex ⟨3,[]⟩ s:=by
 unfold Ė aK;exact bB (env:=kA B x k y) ((á (fY h cJ iz a)).trans (aE (uf (ma:=mv 3) h c cJ rfl b)))
def GQ (h:lA s i=À (kT id g l)) (e1:a env s=.ok (.str x) s) (b:d env s=.ok (.ref i) s) (c:decide (x∈l)=t):cB (Ó o_ a d) env s=.ok t s:=by
 subst c;unfold cB Ó;rw[e1,â,b,â,xr h,kh];rfl
def Hi (h:Ŭ B V s)(d:x.length<=1000)(b:x∈V.ws)(c:y∈V.ps)(a:x∈V.ms):Ė [.ref B,.str x,.int k,.str y] s=.ex ⟨2,[]⟩ s:=by
 unfold Ė aK;exact bB (env:=kA B x k y) ((á (fY h cJ iz b)).trans ((á (fX (ma:=mv 3) h cJ rfl c)).trans (aE ((eM (GQ (mr h) iz (dH h (my B V.h)) (ó a))).trans (ID (by decide) (by decide) d iz)))))
def E6 (h:Ŭ B V s)(c:x∈V.ws)(d:y∈V.ps)(a:x∉V.ms)(hl:V.ms.length<64):Ė [.ref B,.str x,.int k,.str y] s=.ok .Ě (s.set (B+4) (.dK (kT id (λz=>if z=x then .tup [.int k,.str y]else (V.mf z).v) (V.ms++[x])))):=by
 have b:=oE (env:=kA B x k y) (v:=î (Á (mv 2) (Á (mv 3) Ë))) (w:=.tup [.int k,.str y]) (y:=mv 1) (x:=x) (mr h) (by rw[t9];exact hl) (by apply R.wp.eq;walk_at"w") (dH h (my B V.h)) rfl;rw[Hh (g':=λz=>if z=x then .tup [.int k,.str y]else (V.mf z).v) (λz f=>(Ö λe=>a (by rw[<-e];exact f)).symm),qC a (Ì rfl).symm]at b;unfold Ė aK;exact i8 (env:=kA B x k y) ((á (fY h cJ iz c)).trans ((á (fX (ma:=mv 3) h cJ rfl d)).trans ((á (fH (GQ (mr h) iz (dH h (my B V.h)) (é a)))).trans b)))
abbrev rA (B:Nat)(x:Str)(k:Int)(v:AV):En:=[À (.ref B),À (.str x),À (.int k),À v]
def FA (k:Int)(v:AV):ŉ [.ref B,.str "coin",.int k,v] s=.ex ⟨2,[]⟩ s:=by
 unfold ŉ cC;exact bB (env:=rA B "coin" k v) (aE ((eM (eq_str (b:=mc iL) iz rfl (ó rfl))).trans (l8 (by walk_at"w"))))
def Mc {x:Str}(h:Ŭ B V s)(d:x≠"coin")(e:x.length<=1000)(hk:(x,k)∈V.rs.map dO):ŉ [.ref B,.str x,.int k,v] s=.ex ⟨2,[]⟩ s:=by
 have c:=sj (env:=rA B x k v) (r:=Á (mv 1) (Á (mv 2) Ë)) (a:=x) (k:=k) (lN h) rfl (dH h (jH B V.h));rw[ó hk]at c;unfold ŉ cC;exact bB (env:=rA B x k v) ((á (fH (eq_str (b:=mc iL) iz rfl (é d)))).trans (aE ((eM c).trans (l8 (Hg e (by decide) iz λ_=>rfl)))))
def IC {x:Str}(h:Ŭ B V s)(e:x≠"coin")(hk:(x,k)∉V.rs.map dO) (hl:V.rs.length<64):ŉ [.ref B,.str x,.int k,v] s=.ok .Ě (s.set (B+5) (.dT (V.rs.map (tK Pv.v)++[(cM (x,k),v)]))):=by
 have c:=sj (env:=rA B x k v) (r:=Á (mv 1) (Á (mv 2) Ë)) (a:=x) (k:=k) (lN h) rfl (dH h (jH B V.h));rw[é hk]at c;have d:=zC (env:=rA B x k v) (r:=Á (mv 1) (Á (mv 2) Ë)) (a:=x) (k:=k) (v:=mv 3) (w:=v) (lN h) hk hl rfl rfl (dH h (jH B V.h));unfold ŉ cC;exact i8 (env:=rA B x k v) ((á (fH (eq_str (b:=mc iL) iz rfl (é e)))).trans ((á (fH c)).trans d))
def Aq (h:Ŭ B V s)(e:x.length<=1000)(d:x∉V.ps):ũ [.ref B,a,b,.str x,c] s=.ex ⟨3,[]⟩ s:=by
 unfold ũ eA;exact bB (env:=[À (.ref B),À a,À b,À (.str x),À c]) (aE (uf (ma:=mv 3) h e cJ rfl d))
def sU (h:ö s i=À xs)(l:xs.length<900)(e1:o env s=.ok (.ref i) s) (b:a env s=.ok v s):ĥ (eN "list" a6 o (Á a Ë)) env s=.nx env (s.set i (.lst (xs++[v]))):=by
 refine i6 (v:=.Ě) (R.wp.eq ?_);simp?[↓eW e1,xE h,↓eW b,↓eW (append_at (v:=v) h (ſ (by lia)))]
def yc (h:Ŭ B V s)(e:x∈V.ps)(hl:V.db.length<64):ũ [.ref B,a,b,.str x,c] s=.ok .Ě (s.set (B+7) (.lst (V.db.map dE++[.tup [a,b,.str x,c]]))):=by
 unfold ũ eA;have d:î (Á (mv 1) (Á (mv 2) (Á (mv 3) (Á (mv 4) Ë)))) [À (.ref B),À a,À b,À (.str x),À c] s=.ok (.tup [a,b,.str x,c]) s:=by
  unfold î;rw[show Á (mv 1) (Á (mv 2) (Á (mv 3) (Á (mv 4) Ë))) [À (.ref B),À a,À b,À (.str x),À c] s=.ok [a,b,.str x,c] s from rfl,â];exact Ì (qF (by simp))
 exact i8 (env:=[À (.ref B),À a,À b,À (.str x),À c]) ((á (fX (ma:=mv 3) h cJ rfl e)).trans (sU (z8 h) (by rw[Ê];lia) (dH h (zL B V.h)) d))
def B_ (h:Ŭ B V s)(b:x.length<=1000)(a:x∉V.ws):ŋ [.ref B,.str x] s=.ex ⟨3,[]⟩ s:=by
 unfold ŋ fi;exact bB (env:=[À (.ref B),À (.str x)]) (aE (wg h b cJ iz a))
def zR (h:Ŭ B V s)(b:x.length<=1000)(a:x∉V.ps):Ň [.ref B,.str x] s=.ex ⟨3,[]⟩ s:=by
 unfold Ň eo;exact bB (env:=[À (.ref B),À (.str x)]) (aE (uf h b cJ iz a))
def zY (h:Ŭ B V s)(b:x.length<=1000)(a:x∉V.ws):ň [.ref B,.str x] s=.ex ⟨3,[]⟩ s:=by
 unfold ň ey;exact bB (env:=[À (.ref B),À (.str x)]) (aE (wg h b cJ iz a))
def BL (h:Ŭ B V s)(b:x.length<=1000)(a:x∉V.ps):Ŗ [.ref B,.str x] s=.ex ⟨3,[]⟩ s:=by
 unfold Ŗ fe;exact bB (env:=[À (.ref B),À (.str x)]) (aE (uf h b cJ iz a))
end
end Ro
set_option maxHeartbeats 400000
namespace Ro
open PySem L2 Mm
abbrev sm (x:Int):Prop:=0<=x/\x<1000
def yn (h:sm x):JM x:=nJ (n:=10) (tI h.1 (by have:=h.2;lia)) (by lia)
def xI (a b c d:Int)(e:sm a)(f:sm b)(g:sm c)(hd:sm d):cI [.tup [.int a,.int b],.tup [.int c,.int d]] s=.ok (.bl (decide (a*d<c*b))) s:=by
 apply R.wp.eq;unfold cI p4;walk_at"w";exact⟨⟨yn e,yn hd⟩,⟨yn g,yn f⟩⟩
def xy:forL c b [] [] env s=.nx env s:=by unfold forL;exact Ì (show u0 [] s from λp a=>nomatch a)
def oH (d:a v env s=.nx e1 s1)(e:b e1 s1=.nx c g):forL a b [] (v::r) env s=forL a b [] r c g:=by
 rw[forL,Ì (show u0 [] s from λp f=>nomatch f),d];dsimp only;rw[e]
def Oc (d:a v env s=.nx e1 s1)(e:b e1 s1=.ex c g):forL a b [] (v::r) env s=.ex c g:=by
 rw[forL,Ì (show u0 [] s from λp f=>nomatch f),d];dsimp only;rw[e]
def mz (e:m env s=.ok (.tup xs) s):qE (aX m) a b env s=forL a b [] xs env s:=by
 unfold qE aX;rw[e];rfl
def zO (n v:AV):Ŀ [.tup [.str "of",n,v]] s=.ok v s:=by
 unfold Ŀ eD;exact dX (env:=[À (.tup [.str "of",n,v]),none,none,none,none,none,none]) ((á (e:=[À (.tup [.str "of",n,v]),none,À v,À (.str "of"),À n,none,none]) (s1:=s) rfl).trans (Cd ((eM (eq_str (x:="of") (y:="of") rfl rfl (ó rfl))).trans rfl)))
def vu:AV:=.tup [.tup [.int 4,.tup [.int 1,.int 2]],.tup [.Ě,.tup [.int 1,.int 9]]]
def zP (n:AV):Ŀ [.tup [.str "steps",n,vu]] s=.ok (.tup [.int 1,.int 2]) s:=by
 have a:cT (ě 2 cI (Á (mv 1) (Á (mv 6) Ë))) [À (.tup [.str "steps",n,vu]),À ž,À vu,À (.str "steps"),À n,À (.int 4),À (.tup [.int 1,.int 2])] s=.ok true s:=by
  unfold cT;rw[fm (v:=ž) (w:=.tup [.int 1,.int 2]) rfl rfl,show ž=.tup [.int 0,.int 1]from rfl,xI 0 1 1 2 ⟨by lia,by lia⟩ ⟨by lia,by lia⟩ ⟨by lia,by lia⟩ ⟨by lia,by lia⟩];rfl
 have b:cT (ě 2 cI (Á (mv 1) (Á (mv 6) Ë))) [À (.tup [.str "steps",n,vu]),À (.tup [.int 1,.int 2]),À vu,À (.str "steps"),À n,À .Ě,À (.tup [.int 1,.int 9])] s=.ok false s:=by
  unfold cT;rw[fm (v:=.tup [.int 1,.int 2]) (w:=.tup [.int 1,.int 9]) rfl rfl,xI 1 2 1 9 ⟨by lia,by lia⟩ ⟨by lia,by lia⟩ ⟨by lia,by lia⟩ ⟨by lia,by lia⟩];rfl
 unfold Ŀ eD;refine dX (env:=[À (.tup [.str "steps",n,vu]),none,none,none,none,none,none]) ((á (e:=[À (.tup [.str "steps",n,vu]),none,À vu,À (.str "steps"),À n,none,none]) (s1:=s) rfl).trans ((á (fH (eq_str (x:="steps") (y:="of") rfl rfl (by decide+kernel)))).trans ((á (cN (v:=ž) rfl)).trans ?_)));refine(á (s1:=s) (e:=[À (.tup [.str "steps",n,vu]),À (.tup [.int 1,.int 2]),À vu,À (.str "steps"),À n,À .Ě,À (.tup [.int 1,.int 9])]) ?_).trans rfl;refine(mz (xs:=[.tup [.int 4,.tup [.int 1,.int 2]],.tup [.Ě,.tup [.int 1,.int 9]]]) rfl).trans ?_;rw[oH (e1:=[À (.tup [.str "steps",n,vu]),À ž,À vu,À (.str "steps"),À n,À (.int 4),À (.tup [.int 1,.int 2])]) (s1:=s) rfl ((eM a).trans (cN (v:=.tup [.int 1,.int 2]) rfl)),oH (e1:=[À (.tup [.str "steps",n,vu]),À (.tup [.int 1,.int 2]),À vu,À (.str "steps"),À n,À .Ě,À (.tup [.int 1,.int 9])]) (s1:=s) rfl (fH b),xy]
def WB:Rat:=⟨1,3,by decide,by decide⟩
def YH:Rat:=⟨2,3,by decide,by decide⟩
def YG:Rat:=⟨1,2,by decide,by decide⟩
def q76:Rat:=⟨7,6,by decide,by decide⟩
def Nn (h:sm q.num)(k:sm q.den):Sz 10 q:=⟨tI h.1 (by have:=h.2;lia),tI k.1 (by have:=k.2;lia)⟩
def WY:vv [WB]=WB:=by decide+kernel
def sum2:vv [YH,YG]=q76:=by decide+kernel
def IX (c:Cl s)(e:Ż [("row",none)] (aX (mv 0)) (gN 0) (cB (Ó Al (Ó Ċ (mv 0) (mc (.int 0))) (mc Ť))) (ě 1 Ŀ (Á (mv 0) Ë)) [À v] s=.ok (l.map fq) s) (h:CO 10 0 l)(hs:vv l=q)(g:sm q.num)(i:sm q.den):aj [v] s=.ok (.bl (decide (1*(q.den:Int)<q.num*1))) s:=by
 have b:=(lL (F:=gv) (bq e)).trans (QF (n:=10) (by lia) (.ref (Ģ s (l.map fq))) h);rw[hs]at b;have f:BC (ě 1 gv (Á (ī (Ż [("row",none)] (aX (mv 0)) (gN 0) (cB (Ó Al (Ó Ċ (mv 0) (mc (.int 0))) (mc Ť))) (ě 1 Ŀ (Á (mv 0) Ë)))) Ë)) [À v] s=.ok (fq q) s:=by
  unfold BC;rw[b,â];exact Ì ⟨f7,by simp[AV.low,ĭ,fq]⟩
 have d:=(fm (F:=cI) (a:=mc nj) (v:=nj) (env:=[À v]) rfl f).trans (xI 1 1 q.num q.den ⟨by lia,by lia⟩ ⟨by lia,by lia⟩ g i);unfold aj nI;refine dX (env:=[À v]) ?_;unfold ş;rw[d];rfl
def Tp (one second:AV):Ż [("row",none)] (aX (mv 0)) (gN 0) (cB (Ó Al (Ó Ċ (mv 0) (mc (.int 0))) (mc Ť))) (ě 1 Ŀ (Á (mv 0) Ë)) [À (.tup [.tup [.str "of",one,.tup [.int 1,.int 3]],.tup [.str "left",second,.tup [.int 1,.int 2]]])] s=.ok ([WB].map fq) s:=by
 unfold Ż aX;rw[cJ,â];dsimp only;rw[â];dsimp only;rw[Ì (qF (by simp)),nN (e1:=[À (.tup [.str "of",one,.tup [.int 1,.int 3]])]) rfl rfl ((lL cJ).trans (zO one _)),Bs (e1:=[À (.tup [.str "left",second,.tup [.int 1,.int 2]])]) rfl rfl,jF];rfl
def Tq (one two:AV):Ż [("row",none)] (aX (mv 0)) (gN 0) (cB (Ó Al (Ó Ċ (mv 0) (mc (.int 0))) (mc Ť))) (ě 1 Ŀ (Á (mv 0) Ë)) [À (.tup [.tup [.str "of",one,.tup [.int 2,.int 3]],.tup [.str "steps",two,vu]])] s=.ok ([YH,YG].map fq) s:=by
 unfold Ż aX;rw[cJ,â];dsimp only;rw[â];dsimp only;rw[Ì (qF (by simp)),nN (e1:=[À (.tup [.str "of",one,.tup [.int 2,.int 3]])]) rfl rfl ((lL cJ).trans (zO one _)),nN (e1:=[À (.tup [.str "steps",two,vu])]) rfl rfl ((lL cJ).trans (zP two)),jF];rfl
def IZ (c:Cl s)(one second:AV):aj [.tup [.tup [.str "of",one,.tup [.int 1,.int 3]],.tup [.str "left",second,.tup [.int 1,.int 2]]]] s=.ok (.bl false) s:=
 IX c (Tp one second) ⟨Nn (by decide+kernel) (by decide+kernel),Nn (by decide+kernel) (by decide+kernel),Nn (by decide+kernel) (by decide+kernel)⟩ WY (by decide+kernel) (by decide+kernel)
def My (c:Cl s)(one two:AV):aj [.tup [.tup [.str "of",one,.tup [.int 2,.int 3]],.tup [.str "steps",two,vu]]] s=.ok (.bl true) s:=
 IX c (Tq one two) ⟨Nn (by decide+kernel) (by decide+kernel),Nn (by decide+kernel) (by decide+kernel),Nn (by decide+kernel) (by decide+kernel),Nn (by decide+kernel) (by decide+kernel),Nn (by decide+kernel) (by decide+kernel)⟩ sum2 (by decide+kernel) (by decide+kernel)
section
variable {B:Nat}{V V1:Bo}{s:S}
abbrev wA (B:Nat)(x:Str)(R:AV)(a b c:É AV):En:=[À (.ref B),À (.str x),À R,a,b,c]
noncomputable abbrev rT:Mt:=gT 3 (ß (gN 3) (ß (gN 4) (ß (gN 5) Ű)))
abbrev rB:Ms:=gb (p6 (cT (ē 9 "has_name" 1 Ũ (mv 0) (Á (mv 4) Ë)))) (yk 3 (Á (fJ (ar (mc (.str "no person and no work is called ")) (ar (aI gB (mv 4)) lh))) Ë)) aN
def Dq (h:Ŭ B V s){y:Str}{b:Bool}(d:decide (y∈V.ps∨y∈V.ws)=b) (x:Str)(R a c:AV):p6 (cT (ē 9 "has_name" 1 Ũ (mv 0) (Á (mv 4) Ë))) (wA B x R (À a) (À (.str y)) (À c)) s=.ok (!b) s:=by
 subst d;unfold p6 cT;rw[rK (m:="has_name") (v:=.str y) h (by decide+kernel) cJ rfl,lU h y];rfl
def sD (h:Ŭ B V s){y:Str}(b:y∈V.ps∨y∈V.ws)(x:Str)(R a c:AV)(l:Â AV)(u v w:É AV):forL rT rB [] (.tup [a,.str y,c]::l) (wA B x R u v w) s=forL rT rB [] l (wA B x R (À a) (À (.str y)) (À c)) s:=
 oH (e1:=wA B x R (À a) (À (.str y)) (À c)) (s1:=s) rfl (fH (Dq h (ó b) x R a c))
def Qs (h:Ŭ B V s){y:Str}(hl:y.length<=1000)(b:¬(y∈V.ps∨y∈V.ws)) (x:Str)(R a c:AV)(l:Â AV)(u v w:É AV):forL rT rB [] (.tup [a,.str y,c]::l) (wA B x R u v w) s=.ex ⟨3,[]⟩ s:=
 Oc (e1:=wA B x R (À a) (À (.str y)) (À c)) (s1:=s) rfl ((eM (Dq h (é b) x R a c)).trans (l8 (zW (by decide+kernel) hl rfl _ _ (join_nil λ_=>rfl))))
def rb (h:Ŭ B V s)(b:x.length<=1000)(a:x∉V.ws)(R:AV):İ [.ref B,.str x,R] s=.ex ⟨3,[]⟩ s:=by
 unfold İ bw;exact bB (env:=wA B x R none none none) (aE (wg h b cJ iz a))
def Au (h:Ŭ B V s)(a:x∈V.ws){l:Â AV}(hl:forL rT rB [] l (wA B x (.tup l) none none none) s=.ex ⟨3,[]⟩ s):İ [.ref B,.str x,.tup l] s=.ex ⟨3,[]⟩ s:=by
 unfold İ bw;exact bB (env:=wA B x (.tup l) none none none) ((á (fY h cJ iz a)).trans (aE ((mz rfl).trans hl)))
def IY {R:AV}(e:aj [R] s=.ok (.bl b) s):cT (ě 1 aj (Á (mv 2) Ë)) (wA B x R a d c) s=.ok b s:=by
 unfold cT;rw[lL (v:=R) rfl,e];rfl
def Av (h:Ŭ B V s)(d:x∈V.ws){l:Â AV}(hl:forL rT rB [] l (wA B x (.tup l) none none none) s=.nx (wA B x (.tup l) a b c) s) (e:aj [.tup l] s=.ok (.bl true) s):İ [.ref B,.str x,.tup l] s=.ex ⟨4,[]⟩ s:=by
 unfold İ bw;exact bB (env:=wA B x (.tup l) none none none) ((á (fY h cJ iz d)).trans ((á ((mz rfl).trans hl)).trans (aE ((eM (IY e)).trans (l8 (by walk_at"w"))))))
def yf (h:Ŭ B V s)(d:x∈V.ws)(hw:V.ws.length<64){l:Â AV}(hl:forL rT rB [] l (wA B x (.tup l) none none none) s=.nx (wA B x (.tup l) a b c) s) (f:aj [.tup l] s=.ok (.bl false) s):İ [.ref B,.str x,.tup l] s=.ok .Ě (s.set (B+2) (.dK (kT id (λy=>if y=x then .tup l else (V.rf y).v) V.ws))):=by
 have e:=oE (env:=wA B x (.tup l) a b c) (v:=mv 2) (w:=.tup l) (y:=mv 1) (x:=x) (j' h) (by rw[t9];exact hw) rfl (dH h (kd B V.h)) rfl;rw[uy d]at e;unfold İ bw;exact i8 (env:=wA B x (.tup l) none none none) ((á (fY h cJ iz d)).trans ((á ((mz rfl).trans hl)).trans ((á (fH (IY f))).trans e)))
end
end Ro
set_option maxHeartbeats 400000
namespace Ro
open PySem L2 Mm
def Yy:Mo:=(true,0,⟨#[]⟩,0,0,⟨#[]⟩)
def vj (l:Â Mo):Â Mo:=(zV (l.map (·.2.1))).map λi=>l.getD i Yy
def Ox {ds:Â Int}(h:i∈zV ds):i<ds.length:=by simpa using(oO ds).mem_iff.mp h
def LU (l:Â Mo)(g:AV->Int)(b:(l.map mE).map g=l.map (·.2.1)):pick (l.map mE) (zV ((l.map mE).map g))=(vj l).map mE:=by
 unfold pick vj;rw[b,r9];refine iV λi a=>?_;have a:=Ox a;rw[Ê]at a;simp[ĕ,a]
def BP (b:Nat)(l:Â Mo):ĭ b (l.map mE)=true:=by
 induction l with
 |nil=>simp[ĭ]
 |cons x r a=>rw[Õ];simp only[ĭ,a,mE,AV.low];rfl
noncomputable def un (x:Mo):Int:=if x.1 then x.2.2.2.1 else -x.2.2.2.1
def jO (w:Str):Â Mo->Int->Bool
 |[],_=>false
 |x::r,n=>if x.2.2.1=w then (if n+un x<0 then true else jO w r (n+un x))else jO w r n
section
variable {s:S}
def Dl:(mW b=Ĕ "sold")=(b=true):=by
 cases b
 ·exact eh ⟨λz=>absurd z (by decide+kernel),(λz=>nomatch z)⟩
 ·exact eh ⟨λ_=>rfl,λ_=>rfl⟩
def T5 (x:Mo){env:En}(a:k env s=.ok (.str (mW x.1)) s) (b:m env s=.ok (.int x.2.2.2.1) s):Q9 (cB (Ó bf k (mc (.str "sold")))) m (aI Am m) env s=.ok (.int (un x)) s:=by
 apply R.wp.eq;unfold un;by_cases h:x.1=true
 ·simp?[↓eW a,Dl,h,bH,↓eW b]
 ·simp?[↓eW a,Dl,h,e9,↓eW b]
def vw (x:Mo):cq [mE x] s=.ok (.int (un x)) s:=by
 unfold cq j_;refine dX (env:=[À (mE x),none,none,none,none,none,none]) ((á (e:=[À (mE x),À (.str (mW x.1)),À (.int x.2.1),À (.str x.2.2.1),À (.int x.2.2.2.1),À (.int x.2.2.2.2.1),À (.str x.2.2.2.2.2)]) (s1:=s) ?_).trans ?_)
 ·apply Ts;unfold mE;walk_at"w";rfl
 ·unfold ş;rw[T5 x rfl rfl];rfl
def xa (c:a env s=.ok v s1)(d:b env s1=.ok w e):Ó op a b env s=op v w e:=by
 unfold Ó;rw[c,â,d];rfl
def NT {env:En}(h:env[i]?=À (À a)) (e:m env s=.ok v s1)(b:op a v s1=.ok w c):FD i op m env s=.nx (env.set i (À w)) c:=by
 unfold FD;rw[h];dsimp only;rw[e];dsimp only[R.bM];rw[b]
def Hj {w:Str}{l:Â Mo}{i:Nat}(h:ö s i=À (l.map mE)):ax [.ref i,.str w] s=.ok (.bl (jO w l 0)) s:=by
 apply R.wp.eq;unfold ax jj;simp?[↓eW (Jd h)];refine xA (λxs env st=>∃(q:Â Mo) (n:Int) (x3:É AV),xs=q.map mE/\env=[À (.ref i),À (.str w),À (.int n),x3]/\st=s/\jO w q n=jO w l 0) ?_ ?_ ?_ _ _ _ ⟨l,0,none,rfl,rfl,rfl,rfl⟩
 ·rintro _ _ st ⟨_,_,_,_,_,rfl,_⟩ p g;rw[Ġ.mp g];exact h
 ·rintro env st ⟨q,n,x3,d,rfl,rfl,a⟩;cases q with
  |cons _ _=>cases d
  |nil=>
   walk_at"w";rw[<-a];rfl
 ·rintro v j env st ⟨q,n,x3,d,rfl,rfl,a⟩;cases q with
  |nil=>cases d
  |cons x q=>
   cases d;rw[jO]at a;have e:Ċ (mE x) (.int 2) st=.ok (.str x.2.2.1) st:=ix2;have f:=NT (i:=2) (op:=uq) (env:=[À (.ref i),À (.str w),À (.int n),À (mE x)]) (s:=st) (m:=ě 1 cq (Á (mv 3) Ë)) rfl (show _=R.ok (.int (un x)) st from vw x) (show uq (.int n) (.int (un x)) st=.ok (.int (n+un x)) st from rfl);by_cases b:x.2.2.1=w
   ·rw[Ì b]at a;by_cases c:n+un x<0
    ·rw[Ì c]at a;simp?[↓eW e,J6 b,bH,↓CD f,J6 c];rw[a]
    ·rw[Ö c]at a;simp?[↓eW e,J6 b,bH,↓CD f,eq_false c,e9];exact⟨q,_,_,rfl,rfl,a⟩
   ·rw[Ö b]at a;simp?[↓eW e,eq_false b,e9];exact⟨q,_,_,rfl,rfl,a⟩
end
def NX (h:ö s i=À xs)(e1:a env s=.ok (.ref i) s) (d:b env s=.ok y s)(hl:xs.length<900):Ó ĸ a (ī (Ŵ (Á b Ë))) env s=.ok (.ref (s.length+1)) (s++[.lst [y]]++[.lst (xs++[y])]):=by
 have e:ī (Ŵ (Á b Ë)) env s=.ok (.ref s.length) (s++[.lst [y]]):=by
  apply R.wp.eq;simp?[↓eW d]
 refine(xa e1 e).trans ?_;show(need (ö (s++[.lst [y]]) i) λxs=>need (ö (s++[.lst [y]]) s.length) λc=>if xs.length+c.length<=sizeLine then R.ok (AV.ref (s++[AO.lst [y]]).length) (s++[AO.lst [y]]++[AO.lst (xs++c)])else .bad)=_;rw[ĳ h,Ģ,õ,õ,Ì (qF (by simp;lia))];simp
def Gz (h:ö s i=À xs)(e:m env s=.ok (.ref i) s):p6 (cT m) env s=.ok xs.isEmpty s:=by
 have a:truth (.ref i) s=À (!xs.isEmpty):=by
  unfold truth;dsimp only;rw[Ē h]
 apply R.wp.eq;simp?[↓eW e,a];exact Bool.not_not _
section
variable {B:Nat}{V V1:Bo}{s:S}
def sY (h:ö s i=À xs)(hd:xs.all qf=true)(hl:xs.length<64)(t:s[0]?=À (.tab 20 oQ)):aM [.ref i] s=.ok (.ref s.length) (s++[.lst (pick xs (zV (xs.map p8)))]):=by
 have e:∀q,tR 20 oQ (mv 0) (À (.ref i)::q) s=.ok (pick xs (zV (xs.map p8))) s:=λq=>by
  unfold tR;rw[cJ,â];dsimp only;rw[h,õ,Ì ⟨hd,hl,lj.mpr ⟨_,Ā t,by simp[tabAt]⟩⟩]
 unfold aM pY;exact dX (env:=[À (.ref i)]) (by unfold ş;rw[bq (e [])];rfl)
def Ht (l:Â Mo):(l.map mE).all qf=true:=by
 rw[Đ];intro v a;obtain⟨x,_,rfl⟩:=ŕ.mp a;rfl
def Bl {l:Â Mo}(h:ö s i=À (l.map mE)) (hl:l.length<64)(t:s[0]?=À (.tab 20 oQ)):aM [.ref i] s=.ok (.ref s.length) (s++[.lst ((vj l).map mE)]):=by
 rw[sY h (Ht l) (by rw[Ê];exact hl) t,LU l p8 (by rw[r9];rfl)]
def zZ (h:Ŭ B V s)(n:V.mn.length<63)(x:Mo){env:En}(a:mv 0 env s=.ok (.ref B) s) (b:∀s,mv 2 env s=.ok (.str w) s) (c:mv 6 env s=.ok (mE x) s):cT (BC (ě 2 ax (Á (ī (i_ (ě 1 aM (Á (Ó ĸ (aI (œ 9 "money") (mv 0)) (ī (Ŵ (Á (mv 6) Ë)))) Ë)))) (Á (mv 2) Ë)))) env s=.ok (jO w (vj (V.mn++[x])) 0) s:=by
 have f:aI (œ 9 "money") (mv 0) env s=.ok (.ref (B+6)) s:=by
  unfold aI;rw[a,â];exact BA (CS h) (oG B V.h)
 have k:=NX (oU h) f c (by rw[Ê];lia);have l:ö (s++[.lst [mE x]]++[.lst (V.mn.map mE++[mE x])]) (s.length+1)=À ((V.mn++[x]).map mE):=by
  have:=Ģ (s++[.lst [mE x]]) (V.mn.map mE++[mE x]);rw[ķ];simpa using this
 have hl:=h.len;have m:(s++[AO.lst [mE x]]++[AO.lst (V.mn.map mE++[mE x])])[0]?=À (.tab 20 oQ):=by
  rw[Ñ,Ü (by lia)];exact h.t0
 have d:=(lL (F:=aM) k).trans (Bl l (by simp;lia) m);have i:=uH (t:=[.lst [mE x]]++[.lst (V.mn.map mE++[mE x])]++[.lst ((vj (V.mn++[x])).map mE)]) h.cl (BP s.length (vj (V.mn++[x]))) (by rw[<-Ñ,<-Ñ];exact d) (by rw[<-Ñ,<-Ñ];exact Ģ _ _) (by simp);have j:ī (i_ (ě 1 aM (Á (Ó ĸ (aI (œ 9 "money") (mv 0)) (ī (Ŵ (Á (mv 6) Ë)))) Ë))) env s=.ok (.ref s.length) (s++[.lst ((vj (V.mn++[x])).map mE)]):=bq i;have e:=(fm (F:=ax) j (b _)).trans (Hj (w:=w) (Ģ s ((vj (V.mn++[x])).map mE)));have g:BC (ě 2 ax (Á (ī (i_ (ě 1 aM (Á (Ó ĸ (aI (œ 9 "money") (mv 0)) (ī (Ŵ (Á (mv 6) Ë)))) Ë)))) (Á (mv 2) Ë))) env s=.ok (.bl (jO w (vj (V.mn++[x])) 0)) s:=by
  unfold BC;rw[e,â];exact Ì ⟨f7,by simp[AV.low]⟩
 unfold cT;rw[g,â];rfl
def GN (a c:Str)(d0 k:Int)(b:Bool)(e:decide (a=c/\d0<=k)=b):zm (cB (Ó bf (mv 0) (mv 2))) (cB (Ó xY (mv 1) (mv 3))) [À (.str a),À (.int d0),À (.str c),À (.int k)] s=.ok b s:=by
 subst e;apply R.wp.eq;by_cases d:a=c
 ·simp?[d,bH,true_and]
 ·simp?[d,e9,false_and]
def CZ (h:Ŭ B V s){a:Str}{d0:Int}{f:Pv}(hr:V.rs=[((a,d0),f)]) (c:Str)(k:Int)(l:Â Int)(hl:(if a=c/\d0<=k then [d0]else [])=l):FE (aI (œ 9 "rates") (mv 0)) (Š 3 (ī (Ż [("told",none),("told_day",none),("currency",À 1),("day",À 2)] (FL (aI (œ 9 "rates") (mv 0))) (gT 2 (ß (gN 0) (ß (gN 1) Ű))) (zm (cB (Ó bf (mv 0) (mv 2))) (cB (Ó xY (mv 1) (mv 3)))) (mv 1)))) [À (.ref B),À (.str c),À (.int k),none] s=.nx [À (.ref B),À (.str c),À (.int k),À (.ref s.length)] (s++[.lst (l.map AV.int)]):=by
 have d:=dH (l:=[À (.str c),À (.int k),none]) h (jH B V.h);have o:=h.len;have hd:=lN h;rw[hr]at hd;have j:∀st:S,bh (gT 2 (ß (gN 0) (ß (gN 1) Ű))) (zm (cB (Ó bf (mv 0) (mv 2))) (cB (Ó xY (mv 1) (mv 3)))) (mv 1) [] [.tup [.str a,.int d0]] [none,none,À (.str c),À (.int k)] st []=.ok (l.map AV.int) st:=λst=>by
  by_cases b:a=c/\d0<=k
  ·rw[Ì b]at hl;rw[<-hl,nN (e1:=[À (.str a),À (.int d0),À (.str c),À (.int k)]) (x:=.int d0) rfl (GN a c d0 k true (ó b)) rfl,jF];rfl
  ·rw[Ö b]at hl;rw[<-hl,Bs (e1:=[À (.str a),À (.int d0),À (.str c),À (.int k)]) rfl (GN a c d0 k false (é b)),jF];rfl
 have e1:Ż [("told",none),("told_day",none),("currency",À 1),("day",À 2)] (FL (aI (œ 9 "rates") (mv 0))) (gT 2 (ß (gN 0) (ß (gN 1) Ű))) (zm (cB (Ó bf (mv 0) (mv 2))) (cB (Ó xY (mv 1) (mv 3)))) (mv 1) [À (.ref B),À (.str c),À (.int k),none] s=.ok (l.map AV.int) (s.set (B+5) (.G_ ([((a,d0),f)].map (tK Pv.v)))):=by
  unfold Ż FL;rw[d,â];dsimp only;rw[hd,õ,â];dsimp only;rw[Ì (qF (by simp))];exact j _
 have g:=cN (i:=3) (l:=[À (.ref B),À (.str c),À (.int k),none]) (bq e1);have g1:(s.set (B+5) (.G_ ([((a,d0),f)].map (tK Pv.v)))++[AO.lst (l.map AV.int)])[B+5]?=À (.G_ ([((a,d0),f)].map (tK Pv.v))):=by
  rw[Ü (by rw[ű];lia),Ć (by lia)]
 unfold FE;rw[d];dsimp only;rw[g];dsimp only;rw[g1,hd];dsimp only;rw[List.set_append_left _ _ (by rw[ű];lia),List.set_set];have n:s.set (B+5) (.dT ([((a,d0),f)].map (tK Pv.v)))=s:=by
  obtain⟨m,e⟩:=Æ.mp (h.at_.at (i:=5) rfl);rw[hr]at e;rw[<-e];exact List.set_getElem_self m
 rw[n,ű];rfl
def uM (k:Int):å [.ref B,.str "coin",.int k] s=.ok nj s:=by
 unfold å cE;exact dX (env:=[À (.ref B),À (.str "coin"),À (.int k),none]) (Cd ((eM (eq_str (b:=mc iL) iz rfl (ó rfl))).trans rfl))
def CA (h:Ŭ B V s){a:Str}{d0:Int}{f:Pv}(hr:V.rs=[((a,d0),f)]) {c:Str}{k:Int}(e:c≠"coin")(i:c.length<=1000)(g:¬(a=c/\d0<=k)):å [.ref B,.str c,.int k] s=.ex ⟨5,[]⟩ (s++[.lst []]):=by
 have j:=CZ h hr c k [] (Ö g);have d:=Gz (m:=mv 3) (env:=[À (.ref B),À (.str c),À (.int k),À (.ref s.length)]) (Ģ s []) rfl;unfold å cE;exact bB (env:=[À (.ref B),À (.str c),À (.int k),none]) ((á (fH (eq_str (b:=mc iL) iz rfl (é e)))).trans ((á j).trans (aE ((eM d).trans (l8 (Hg i (by decide) iz λ_=>rfl))))))
def CB (h:Ŭ B V s){c:Str}{d0:Int}{f:Pv}(hr:V.rs=[((c,d0),f)]) {k:Int}(o:c≠"coin")(p:d0<=k):å [.ref B,.str c,.int k] s=.ok f.v (s++[.lst [.int d0]]):=by
 have q:=CZ h hr c k [d0] (Ì ⟨rfl,p⟩);have d:=Ģ s [.int d0];have t:=h.len;have a:At B (mid B V) (s++[.lst [.int d0]]):=h.at_.app _;have e:=Gz (m:=mv 3) (env:=[À (.ref B),À (.str c),À (.int k),À (.ref s.length)]) d rfl;have g:aI (œ 9 "rates") (mv 0) [À (.ref B),À (.str c),À (.int k),À (.ref s.length)] (s++[.lst [.int d0]])=.ok (.ref (B+5)) (s++[.lst [.int d0]]):=by
  unfold aI;rw[cJ,â];exact BA (a.at (i:=0) rfl) (jH B V.h)
 have n:vo B8 (ua (mv 3)) [À (.ref B),À (.str c),À (.int k),À (.ref s.length)] (s++[.lst [.int d0]])=.ok (.int d0) (s++[.lst [.int d0]]):=by
  unfold vo ua;rw[show mv 3 [À (.ref B),À (.str c),À (.int k),À (.ref s.length)] (s++[.lst [.int d0]])=.ok (.ref s.length) (s++[.lst [.int d0]])from rfl,â];dsimp only;rw[d,õ,â];unfold B8;rw[show oM [.int d0]=À [d0]from rfl,õ];rfl
 have l:=nt (r:=Á (mv 1) (Á (vo B8 (ua (mv 3))) Ë)) (env:=[À (.ref B),À (.str c),À (.int k),À (.ref s.length)]) (s:=s++[.lst [.int d0]]) (vs:=[.str c,.int d0]) (by unfold Á Ë;rw[iz,â,n,â];rfl) (by simp);have j:ud (aI (œ 9 "rates") (mv 0)) (Á (mv 1) (Á (vo B8 (ua (mv 3))) Ë)) [À (.ref B),À (.str c),À (.int k),À (.ref s.length)] (s++[.lst [.int d0]])=.ok f.v (s++[.lst [.int d0]]):=by
  unfold ud;rw[g,â,l,â];dsimp only;rw[Bv (a.at (i:=5) rfl),hr,õ,show nq [.str c,.int d0]=À (cM (c,d0))from rfl,õ,show bE ([((c,d0),f)].map (tK Pv.v)) (cM (c,d0))=À f.v from Ì rfl,õ]
 unfold å cE;exact dX (env:=[À (.ref B),À (.str c),À (.int k),none]) ((á (fH (eq_str (b:=mc iL) iz rfl (é o)))).trans ((á q).trans ((á (fH e)).trans (by unfold ş;rw[j];rfl))))
abbrev mA (B:Nat)(k:Int)(x:Str)(c a:Int)(u:Str):Â AV:=[.ref B,.int k,.str x,.int c,.int a,.str u]
noncomputable abbrev mV (B:Nat)(k:Int)(x:Str)(c a:Int)(u:Str)(r:En):En:=À (.ref B)::À (.int k)::À (.str x)::À (.int c)::À (.int a)::À (.str u)::r
def Ji (h:Ŭ B V s)(b:å [.ref B,.str u,.int d] s=.ok w s1):ĥ (ē 9 "worth_of" 2 å (mv 0) (Á (mv 5) (Á (mv 1) Ë))) (mV B d x c a u r) s=.nx (mV B d x c a u r) s1:=i6 ((u5 (vs:=[.str u,.int d]) h (by decide+kernel) cJ rfl).trans b)
def Nv (h:Ŭ B V s)(b:å [.ref B,.str u,.int d] s=.ex z s1):ĥ (ē 9 "worth_of" 2 å (mv 0) (Á (mv 5) (Á (mv 1) Ë))) (mV B d x c a u r) s=.ex z s1:=mx ((u5 (vs:=[.str u,.int d]) h (by decide+kernel) cJ rfl).trans b)
def Mh (h:Ŭ B V s)(d:x.length<=1000)(b:x∉V.ws):Ŋ (mA B k x c a u) s=.ex ⟨3,[]⟩ s:=by
 unfold Ŋ cD;exact bB (env:=mV B k x c a u []) (aE (wg (ma:=mv 2) h d cJ rfl b))
def Kh (h:Ŭ B V s)(d:x.length<=1000)(b:x∉V.ws):į (mA B k x c a u) s=.ex ⟨3,[]⟩ s:=by
 unfold į bu;exact bB (env:=mV B k x c a u [none]) (aE (wg (ma:=mv 2) h d cJ rfl b))
def Mi (h:Ŭ B V s)(d:x∈V.ws)(b:å [.ref B,.str u,.int k] s=.ex z s1):Ŋ (mA B k x c a u) s=.ex z s1:=by
 unfold Ŋ cD;exact bB (env:=mV B k x c a u []) ((á (fY (ma:=mv 2) h cJ rfl d)).trans (aE (Nv h b)))
def Ki (h:Ŭ B V s)(d:x∈V.ws)(b:å [.ref B,.str u,.int k] s=.ex z s1):į (mA B k x c a u) s=.ex z s1:=by
 unfold į bu;exact bB (env:=mV B k x c a u [none]) ((á (fY (ma:=mv 2) h cJ rfl d)).trans (aE (Nv h b)))
def IH (h:Ŭ B V s)(j:x∈V.ws)(hl:V.mn.length<64)(i:å [.ref B,.str u,.int k] s=.ok w (s++e)) (d:Cl (s++e)):Ŋ (mA B k x c a u) s=.ok .Ě ((s++e).set (B+6) (.lst ((V.mn++[(true,k,x,c,a,u)]).map mE))):=by
 have b:=h.app d;have g:î (Á (mc (.str "sold")) (Á (mv 1) (Á (mv 2) (Á (mv 3) (Á (mv 4) (Á (mv 5) Ë)))))) (mV B k x c a u []) (s++e)=.ok (mE (true,k,x,c,a,u)) (s++e):=by
  apply R.wp.eq;walk_at"w";rfl
 have f:=sU (env:=mV B k x c a u []) (oU b) (by rw[Ê];lia) (dH b (oG B V.h)) g;rw[ķ];unfold Ŋ cD;exact i8 (env:=mV B k x c a u []) ((á (fY (ma:=mv 2) h cJ rfl j)).trans ((á (Ji h i)).trans f))
def zj:Š 6 (î (Á (mc (.str "back")) (Á (mv 1) (Á (mv 2) (Á (mv 3) (Á (mv 4) (Á (mv 5) Ë))))))) (mV B k x c a u [none]) s=.nx (mV B k x c a u [À (mE (false,k,x,c,a,u))]) s:=by
 refine cN (l:=mV B k x c a u [none]) (R.wp.eq ?_);walk_at"w";rfl
def Kg (h:Ŭ B V s)(j:x.length<=1000)(i:x∈V.ws)(hl:V.mn.length<63)(f:å [.ref B,.str u,.int k] s=.ok w (s++e)) (d:Cl (s++e)) (hk:jO x (vj (V.mn++[(false,k,x,c,a,u)])) 0=true):į (mA B k x c a u) s=.ex ⟨6,[]⟩ (s++e):=by
 have g:=h.app d;have b:=zZ (w:=x) (env:=mV B k x c a u [À (mE (false,k,x,c,a,u))]) g hl (false,k,x,c,a,u) rfl (λ_=>rfl) rfl;rw[hk]at b;unfold į bu;exact bB (env:=mV B k x c a u [none]) ((á (fY (ma:=mv 2) h cJ rfl i)).trans ((á (Ji h f)).trans ((á zj).trans (aE ((eM b).trans (ID (by decide+kernel) (by decide+kernel) j mv2))))))
def Gq (h:Ŭ B V s)(j:x∈V.ws)(hl:V.mn.length<63)(i:å [.ref B,.str u,.int k] s=.ok w (s++e)) (f:Cl (s++e)) (hk:jO x (vj (V.mn++[(false,k,x,c,a,u)])) 0=false):į (mA B k x c a u) s=.ok .Ě ((s++e).set (B+6) (.lst ((V.mn++[(false,k,x,c,a,u)]).map mE))):=by
 have b:=h.app f;have d:=zZ (w:=x) (env:=mV B k x c a u [À (mE (false,k,x,c,a,u))]) b hl (false,k,x,c,a,u) rfl (λ_=>rfl) rfl;rw[hk]at d;have g:=sU (env:=mV B k x c a u [À (mE (false,k,x,c,a,u))]) (a:=mv 6) (oU b) (by rw[Ê];lia) (dH b (oG B V.h)) rfl;rw[ķ];unfold į bu;exact i8 (env:=mV B k x c a u [none]) ((á (fY (ma:=mv 2) h cJ rfl j)).trans ((á (Ji h i)).trans ((á zj).trans ((á (fH d)).trans g))))
end
def Ow {ds:Â Int}{p:Â Nat}(pr:p.Perm (Ă ds.length)) (h:p.Pairwise λi j=>A0 ds i j=true):zV ds=p:=
 gF (le:=A0 ds) (λa b h k=>by unfold A0 at *;simp only[Ų]at *;lia) ((oO ds).trans pr.symm) (tZ ds) h
def xf {l:Â Mo}{p:Â Nat}(pr:p.Perm (Ă l.length)) (h:p.Pairwise λi j=>A0 (l.map (·.2.1)) i j=true):vj l=p.map λi=>l.getD i Yy:=by
 unfold vj;rw[Ow (by rw[Ê];exact pr) h]
def MV {a b c:Mo}(d:a.2.1<=b.2.1)(e:b.2.1<=c.2.1):vj [a,b,c]=[a,b,c]:=by
 rw[xf (l:=[a,b,c]) (p:=[0,1,2]) (show[0,1,2].Perm (Ă 3) by decide) (by simp[A0];lia)];rfl
def RJ {a b c:Mo}(d:a.2.1<=c.2.1)(e:c.2.1<b.2.1):vj [a,b,c]=[a,c,b]:=by
 rw[xf (l:=[a,b,c]) (p:=[0,2,1]) (show[0,2,1].Perm (Ă 3) by decide) (by simp[A0];lia)];rfl
def MW {a b c:Mo}(d:a.2.1<=b.2.1)(e:c.2.1<a.2.1):vj [a,b,c]=[c,a,b]:=by
 rw[xf (l:=[a,b,c]) (p:=[2,0,1]) (show[2,0,1].Perm (Ă 3) by decide) (by simp[A0];lia)];rfl
def Vx {a b:Mo}(c:a.2.1<=b.2.1):vj [a,b]=[a,b]:=by
 rw[xf (l:=[a,b]) (p:=[0,1]) (show[0,1].Perm (Ă 2) by decide) (by simp[A0];lia)];rfl
end Ro
set_option maxHeartbeats 400000
namespace Ro
open PySem L2 Mm
def dJ:R AV->R AV
 |.ok _ s=>.ok .Ě s
 |.ex c s=>.ex c s
 |.bad=>.bad
def Jb (r:R AV):dJ (dJ r)=dJ r:=by cases r<;>rfl
def dY {as:Â AV}(a:b env s=ĥ m e1 s1)(c:m e1 s1=r)(d:env=as.map À++è (n-as.length) none:=by rfl):dU n b as s=dJ r:=by
 subst d;unfold dU;rw[a];unfold ĥ;rw[c];cases r<;>rfl
def dq {w z:Str}(a:decide (w=z)=t):cB (Ó bf (mv 2) (mc (.str z))) [x,y,À (.str w)] s=.ok t s:=by subst a;rfl
def aq {w z:Str}(a:decide (w=z)=t):cB (Ó bf (Ó Ċ (mv 1) (mc (.int 0))) (mc (.str z))) [x,À (.tup (.str w::l))] s=.ok t s:=by
 subst a;unfold cB Ó;rw[show mv 1 [x,À (.tup (.str w::l))] s=.ok (.tup (.str w::l)) s from rfl,â,show mc (.int 0) [x,À (.tup (.str w::l))] s=.ok (.int 0) s from rfl,â,ix0];rfl
section
variable {B:Nat}{V V1:Bo}{s:S}
def lO (h:Ŭ B V s):Þ [.ref B,.tup [.str "person",a]] s=dJ (Ő [.ref B,a] s):=by
 unfold Þ ļ;refine dY (env:=[À (.ref B),À (.tup [.str "person",a]),none]) ((á (e:=[À (.ref B),À (.tup [.str "person",a]),À (.str "person")]) (s1:=s) rfl).trans ((eM (dq (by decide+kernel))))) (u5 (vs:=[a]) h (by decide+kernel) cJ rfl)
def vN (h:Ŭ B V s):Þ [.ref B,.tup [.str "work",a]] s=dJ (ŧ [.ref B,a] s):=by
 unfold Þ ļ;refine dY (env:=[À (.ref B),À (.tup [.str "work",a]),none]) ((á (e:=[À (.ref B),À (.tup [.str "work",a]),À (.str "work")]) (s1:=s) rfl).trans ((Ą (dq (by decide+kernel))).trans ((eM (dq (by decide+kernel)))))) (u5 (vs:=[a]) h (by decide+kernel) cJ rfl)
def jG (h:Ŭ B V s):Þ [.ref B,.tup [.str "rows",a,b]] s=dJ (İ [.ref B,a,b] s):=by
 unfold Þ ļ;refine dY (env:=[À (.ref B),À (.tup [.str "rows",a,b]),none]) ((á (e:=[À (.ref B),À (.tup [.str "rows",a,b]),À (.str "rows")]) (s1:=s) rfl).trans ((Ą (dq (by decide+kernel))).trans ((Ą (dq (by decide+kernel))).trans ((eM (dq (by decide+kernel))))))) (u5 (vs:=[a,b]) h (by decide+kernel) cJ rfl)
def iu (h:Ŭ B V s):Þ [.ref B,.tup [.str "hand",a,b,c,d]] s=dJ (Ī [.ref B,a,b,c,d] s):=by
 unfold Þ ļ;refine dY (env:=[À (.ref B),À (.tup [.str "hand",a,b,c,d]),none]) ((á (e:=[À (.ref B),À (.tup [.str "hand",a,b,c,d]),À (.str "hand")]) (s1:=s) rfl).trans ((Ą (dq (by decide+kernel))).trans ((Ą (dq (by decide+kernel))).trans ((Ą (dq (by decide+kernel))).trans ((eM (dq (by decide+kernel)))))))) (u5 (vs:=[a,b,c,d]) h (by decide+kernel) cJ rfl)
def iE (h:Ŭ B V s):Þ [.ref B,.tup [.str "known",a,b,c]] s=dJ (Ė [.ref B,a,b,c] s):=by
 unfold Þ ļ;refine dY (env:=[À (.ref B),À (.tup [.str "known",a,b,c]),none]) ((á (e:=[À (.ref B),À (.tup [.str "known",a,b,c]),À (.str "known")]) (s1:=s) rfl).trans ((Ą (dq (by decide+kernel))).trans ((Ą (dq (by decide+kernel))).trans ((Ą (dq (by decide+kernel))).trans ((Ą (dq (by decide+kernel))).trans ((eM (dq (by decide+kernel))))))))) (u5 (vs:=[a,b,c]) h (by decide+kernel) cJ rfl)
def p9 (h:Ŭ B V s):Þ [.ref B,.tup [.str "rate",a,b,c]] s=dJ (ŉ [.ref B,a,b,c] s):=by
 unfold Þ ļ;refine dY (env:=[À (.ref B),À (.tup [.str "rate",a,b,c]),none]) ((á (e:=[À (.ref B),À (.tup [.str "rate",a,b,c]),À (.str "rate")]) (s1:=s) rfl).trans ((Ą (dq (by decide+kernel))).trans ((Ą (dq (by decide+kernel))).trans ((Ą (dq (by decide+kernel))).trans ((Ą (dq (by decide+kernel))).trans ((Ą (dq (by decide+kernel))).trans ((eM (dq (by decide+kernel)))))))))) (u5 (vs:=[a,b,c]) h (by decide+kernel) cJ rfl)
def vM (h:Ŭ B V s):Þ [.ref B,.tup [.str "keep",a,b]] s=dJ (Ū [.ref B,a,b] s):=by
 unfold Þ ļ;refine dY (env:=[À (.ref B),À (.tup [.str "keep",a,b]),none]) ((á (e:=[À (.ref B),À (.tup [.str "keep",a,b]),À (.str "keep")]) (s1:=s) rfl).trans ((Ą (dq (by decide+kernel))).trans ((Ą (dq (by decide+kernel))).trans ((Ą (dq (by decide+kernel))).trans ((Ą (dq (by decide+kernel))).trans ((Ą (dq (by decide+kernel))).trans ((Ą (dq (by decide+kernel))).trans ((eM (dq (by decide+kernel))))))))))) (u5 (vs:=[a,b]) h (by decide+kernel) cJ rfl)
def EC (h:Ŭ B V s):Þ [.ref B,.tup [.str "half",a]] s=dJ (aR [.ref B,a] s):=by
 unfold Þ ļ;refine dY (env:=[À (.ref B),À (.tup [.str "half",a]),none]) ((á (e:=[À (.ref B),À (.tup [.str "half",a]),À (.str "half")]) (s1:=s) rfl).trans ((Ą (dq (by decide+kernel))).trans ((Ą (dq (by decide+kernel))).trans ((Ą (dq (by decide+kernel))).trans ((Ą (dq (by decide+kernel))).trans ((Ą (dq (by decide+kernel))).trans ((Ą (dq (by decide+kernel))).trans ((Ą (dq (by decide+kernel))).trans ((eM (dq (by decide+kernel)))))))))))) (u5 (vs:=[a]) h (by decide+kernel) cJ rfl)
def p_ (h:Ŭ B V s):Þ [.ref B,.tup [.str "sold",a,b,c,d,e]] s=dJ (Ŋ [.ref B,a,b,c,d,e] s):=by
 unfold Þ ļ;refine dY (env:=[À (.ref B),À (.tup [.str "sold",a,b,c,d,e]),none]) ((á (e:=[À (.ref B),À (.tup [.str "sold",a,b,c,d,e]),À (.str "sold")]) (s1:=s) rfl).trans ((Ą (dq (by decide+kernel))).trans ((Ą (dq (by decide+kernel))).trans ((Ą (dq (by decide+kernel))).trans ((Ą (dq (by decide+kernel))).trans ((Ą (dq (by decide+kernel))).trans ((Ą (dq (by decide+kernel))).trans ((Ą (dq (by decide+kernel))).trans ((Ą (dq (by decide+kernel))).trans ((eM (dq (by decide+kernel))))))))))))) (u5 (vs:=[a,b,c,d,e]) h (by decide+kernel) cJ rfl)
def mw (h:Ŭ B V s):Þ [.ref B,.tup [.str "back",a,b,c,d,e]] s=dJ (į [.ref B,a,b,c,d,e] s):=by
 unfold Þ ļ;refine dY (env:=[À (.ref B),À (.tup [.str "back",a,b,c,d,e]),none]) ((á (e:=[À (.ref B),À (.tup [.str "back",a,b,c,d,e]),À (.str "back")]) (s1:=s) rfl).trans ((Ą (dq (by decide+kernel))).trans ((Ą (dq (by decide+kernel))).trans ((Ą (dq (by decide+kernel))).trans ((Ą (dq (by decide+kernel))).trans ((Ą (dq (by decide+kernel))).trans ((Ą (dq (by decide+kernel))).trans ((Ą (dq (by decide+kernel))).trans ((Ą (dq (by decide+kernel))).trans ((Ą (dq (by decide+kernel))).trans ((eM (dq (by decide+kernel)))))))))))))) (u5 (vs:=[a,b,c,d,e]) h (by decide+kernel) cJ rfl)
def vL (h:Ŭ B V s):Þ [.ref B,.tup [.str "debt",a,b,c,d]] s=dJ (ũ [.ref B,a,b,c,d] s):=by
 unfold Þ ļ;refine dY (env:=[À (.ref B),À (.tup [.str "debt",a,b,c,d]),none]) ((á (e:=[À (.ref B),À (.tup [.str "debt",a,b,c,d]),À (.str "debt")]) (s1:=s) rfl).trans ((Ą (dq (by decide+kernel))).trans ((Ą (dq (by decide+kernel))).trans ((Ą (dq (by decide+kernel))).trans ((Ą (dq (by decide+kernel))).trans ((Ą (dq (by decide+kernel))).trans ((Ą (dq (by decide+kernel))).trans ((Ą (dq (by decide+kernel))).trans ((Ą (dq (by decide+kernel))).trans ((Ą (dq (by decide+kernel))).trans ((Ą (dq (by decide+kernel))).trans ((eM (dq (by decide+kernel))))))))))))))) (u5 (vs:=[a,b,c,d]) h (by decide+kernel) cJ rfl)
def zh (h:Ŭ B V s):ź [.ref B,.tup [.str "rows_of",a]] s=dJ (ŋ [.ref B,a] s):=by
 unfold ź eJ;refine dY (env:=[À (.ref B),À (.tup [.str "rows_of",a])]) ((eM (aq (by decide+kernel)))) (u5 (vs:=[a]) h (by decide+kernel) cJ rfl)
def xp (h:Ŭ B V s):Þ [.ref B,.tup [.str "rows_of",a]] s=dJ (ŋ [.ref B,a] s):=by
 rw[<-Jb,<-zh h];unfold Þ ļ;exact dY (env:=[À (.ref B),À (.tup [.str "rows_of",a]),none]) ((á (e:=[À (.ref B),À (.tup [.str "rows_of",a]),À (.str "rows_of")]) (s1:=s) rfl).trans ((Ą (dq (by decide+kernel))).trans ((Ą (dq (by decide+kernel))).trans ((Ą (dq (by decide+kernel))).trans ((Ą (dq (by decide+kernel))).trans ((Ą (dq (by decide+kernel))).trans ((Ą (dq (by decide+kernel))).trans ((Ą (dq (by decide+kernel))).trans ((Ą (dq (by decide+kernel))).trans ((Ą (dq (by decide+kernel))).trans ((Ą (dq (by decide+kernel))).trans ((Ą (dq (by decide+kernel))))))))))))))) (fm rfl rfl)
def wZ (h:Ŭ B V s):ź [.ref B,.tup [.str "hands_of",a]] s=dJ (Ň [.ref B,a] s):=by
 unfold ź eJ;refine dY (env:=[À (.ref B),À (.tup [.str "hands_of",a])]) ((Ą (aq (by decide+kernel))).trans ((eM (aq (by decide+kernel))))) (u5 (vs:=[a]) h (by decide+kernel) cJ rfl)
def vm (h:Ŭ B V s):Þ [.ref B,.tup [.str "hands_of",a]] s=dJ (Ň [.ref B,a] s):=by
 rw[<-Jb,<-wZ h];unfold Þ ļ;exact dY (env:=[À (.ref B),À (.tup [.str "hands_of",a]),none]) ((á (e:=[À (.ref B),À (.tup [.str "hands_of",a]),À (.str "hands_of")]) (s1:=s) rfl).trans ((Ą (dq (by decide+kernel))).trans ((Ą (dq (by decide+kernel))).trans ((Ą (dq (by decide+kernel))).trans ((Ą (dq (by decide+kernel))).trans ((Ą (dq (by decide+kernel))).trans ((Ą (dq (by decide+kernel))).trans ((Ą (dq (by decide+kernel))).trans ((Ą (dq (by decide+kernel))).trans ((Ą (dq (by decide+kernel))).trans ((Ą (dq (by decide+kernel))).trans ((Ą (dq (by decide+kernel))))))))))))))) (fm rfl rfl)
def w6 (h:Ŭ B V s):ź [.ref B,.tup [.str "known_of",a]] s=dJ (ň [.ref B,a] s):=by
 unfold ź eJ;refine dY (env:=[À (.ref B),À (.tup [.str "known_of",a])]) ((Ą (aq (by decide+kernel))).trans ((Ą (aq (by decide+kernel))).trans ((eM (aq (by decide+kernel)))))) (u5 (vs:=[a]) h (by decide+kernel) cJ rfl)
def vn (h:Ŭ B V s):Þ [.ref B,.tup [.str "known_of",a]] s=dJ (ň [.ref B,a] s):=by
 rw[<-Jb,<-w6 h];unfold Þ ļ;exact dY (env:=[À (.ref B),À (.tup [.str "known_of",a]),none]) ((á (e:=[À (.ref B),À (.tup [.str "known_of",a]),À (.str "known_of")]) (s1:=s) rfl).trans ((Ą (dq (by decide+kernel))).trans ((Ą (dq (by decide+kernel))).trans ((Ą (dq (by decide+kernel))).trans ((Ą (dq (by decide+kernel))).trans ((Ą (dq (by decide+kernel))).trans ((Ą (dq (by decide+kernel))).trans ((Ą (dq (by decide+kernel))).trans ((Ą (dq (by decide+kernel))).trans ((Ą (dq (by decide+kernel))).trans ((Ą (dq (by decide+kernel))).trans ((Ą (dq (by decide+kernel))))))))))))))) (fm rfl rfl)
def zg (h:Ŭ B V s):ź [.ref B,.tup [.str "keep_of",a]] s=dJ (Ŗ [.ref B,a] s):=by
 unfold ź eJ;refine dY (env:=[À (.ref B),À (.tup [.str "keep_of",a])]) ((Ą (aq (by decide+kernel))).trans ((Ą (aq (by decide+kernel))).trans ((Ą (aq (by decide+kernel))).trans ((eM (aq (by decide+kernel))))))) (u5 (vs:=[a]) h (by decide+kernel) cJ rfl)
def xo (h:Ŭ B V s):Þ [.ref B,.tup [.str "keep_of",a]] s=dJ (Ŗ [.ref B,a] s):=by
 rw[<-Jb,<-zg h];unfold Þ ļ;exact dY (env:=[À (.ref B),À (.tup [.str "keep_of",a]),none]) ((á (e:=[À (.ref B),À (.tup [.str "keep_of",a]),À (.str "keep_of")]) (s1:=s) rfl).trans ((Ą (dq (by decide+kernel))).trans ((Ą (dq (by decide+kernel))).trans ((Ą (dq (by decide+kernel))).trans ((Ą (dq (by decide+kernel))).trans ((Ą (dq (by decide+kernel))).trans ((Ą (dq (by decide+kernel))).trans ((Ą (dq (by decide+kernel))).trans ((Ą (dq (by decide+kernel))).trans ((Ą (dq (by decide+kernel))).trans ((Ą (dq (by decide+kernel))).trans ((Ą (dq (by decide+kernel))))))))))))))) (fm rfl rfl)
def w8 (h:Ŭ B V s):ź [.ref B,.tup [.str "worth_of",a,b]] s=dJ (å [.ref B,a,b] s):=by
 unfold ź eJ;refine dY (env:=[À (.ref B),À (.tup [.str "worth_of",a,b])]) ((Ą (aq (by decide+kernel))).trans ((Ą (aq (by decide+kernel))).trans ((Ą (aq (by decide+kernel))).trans ((Ą (aq (by decide+kernel))))))) (u5 (vs:=[a,b]) h (by decide+kernel) cJ rfl)
def m8 (h:Ŭ B V s):Þ [.ref B,.tup [.str "worth_of",a,b]] s=dJ (å [.ref B,a,b] s):=by
 rw[<-Jb,<-w8 h];unfold Þ ļ;exact dY (env:=[À (.ref B),À (.tup [.str "worth_of",a,b]),none]) ((á (e:=[À (.ref B),À (.tup [.str "worth_of",a,b]),À (.str "worth_of")]) (s1:=s) rfl).trans ((Ą (dq (by decide+kernel))).trans ((Ą (dq (by decide+kernel))).trans ((Ą (dq (by decide+kernel))).trans ((Ą (dq (by decide+kernel))).trans ((Ą (dq (by decide+kernel))).trans ((Ą (dq (by decide+kernel))).trans ((Ą (dq (by decide+kernel))).trans ((Ą (dq (by decide+kernel))).trans ((Ą (dq (by decide+kernel))).trans ((Ą (dq (by decide+kernel))).trans ((Ą (dq (by decide+kernel))))))))))))))) (fm rfl rfl)
end
end Ro
set_option maxHeartbeats 400000
namespace Ro
open PySem L2 Mm
def He (h:s[i]?=À (.exc c)) (e:a c=À b):eS a (.ref i) s=.ok (.bl b) s:=by
 unfold eS;simp only[h,e,õ]
def pn:Ë env s=.ok [] s:=rfl
def pc (b:a env s=.ok v s)(c:r env s=.ok vs s):Á a r env s=.ok (v::vs) s:=by
 unfold Á;rw[b,â,c];rfl
def ll (h:r env s=.ok vs s)(hl:vs.length<=1000):Ŵ r env s=.ok vs s:=by
 unfold Ŵ;rw[h,â,Ì (qF hl)]
def aP (c:a env s=.ok v s1)(d:b env s1=.ok w e):Ó op a b env s=op v w e:=by
 unfold Ó;rw[c,â,d];rfl
def Nt (b:a env s=.ok v s1):aI op a env s=op v s1:=by
 unfold aI;rw[b];rfl
def Hz (h:ö s i=À xs)(c:a env s=.ok (.ref i) s) (d:r env s=.ok vs s):eN "list" op a r env s=op (.ref i) vs s:=by
 unfold eN;rw[c,â];obtain⟨u,b⟩:=bQ.mp (xE h);rw[b,õ,d];rfl
def Jj (hd:Þ [a,d] s=.ok .Ě s'):ţ [a,d] s=.ok (.str "") s':=by
 unfold ţ i4;refine dX (env:=[À a,À d,none,none,none]) ((á (cN (v:=.Ě) rfl)).trans ((á (e:=[À a,À d,À .Ě,none,none]) (s1:=s') ?_).trans (Cd ((eM (s1:=s') rfl).trans rfl))));unfold Cc;rw[i6 ((fm (v:=a) (w:=d) rfl rfl).trans hd)];rfl
noncomputable def fits (c:Nat):Â AV:=[.bl (ĉ 3 c),.bl (ĉ 2 c),.bl (ĉ 4 c),.bl (ĉ 5 c),.bl (ĉ 6 c)]
def Nu:Â AV:=[.str "NoName",.str "Taken",.str "TooMuch",.str "NoRate",.str "NoneLeft"]
def pB {c j:Nat}(o:c<9)(N:((fits c).countP λz=>ik (toV z) (toV (.bl true)))=1) (M:((fits c).findIdx? λz=>ik (toV z) (toV (.bl true)))=À j) (hT:zf [1,8,7] c=À false)(hw:lJ Nu (j:Int)=À (.str w)) (hd:Þ [a,d] s=.ex ⟨c,[]⟩ s')(cl:Cl s'):∃e,ţ [a,d] s=.ok (.str w) (s'++e)/\Cl (s'++e):=by
 have O:(decide (c<9)&&ĉ 0 c)=true:=by rw[ó o];simp[ĉ]
 have g:∀t:S,(s'++(.exc c::t))[s'.length]?=À (.exc c):=λt=>by rw[ñ (Í _)];simp
 have hA:∀i,vg i c=À (ĉ i c):=λi=>Ì o;have f:∀(i:Nat) (t:S) (q r:É AV),aI (eS (vg i)) (mv 2) [none,none,À (.ref s'.length),q,r] (s'++(.exc c::t))=.ok (.bl (ĉ i c)) (s'++(.exc c::t)):=λi t q r=>(Nt rfl).trans (He (g t) (hA i));have u:Cl (s'++[.exc c]):=cl.add (by simp[AO.low]);have x:Cl (s'++[.exc c]++[.lst [.bl (ĉ 3 c),.bl (ĉ 2 c),.bl (ĉ 4 c)]]):=u.add (by simp[AO.low,ĭ,AV.low]);have y:Cl (s'++[.exc c]++[.lst [.bl (ĉ 3 c),.bl (ĉ 2 c),.bl (ĉ 4 c)]]++[.lst [.bl (ĉ 5 c),.bl (ĉ 6 c)]]):=x.add (by simp[AO.low,ĭ,AV.low]);have l:Cl (s'++[.exc c]++[.lst [.bl (ĉ 3 c),.bl (ĉ 2 c),.bl (ĉ 4 c)]]++[.lst [.bl (ĉ 5 c),.bl (ĉ 6 c)]]++[.lst (fits c)]):=y.add (by simp[AO.low,ĭ,AV.low,fits]);have Q:=Ģ (s'++[.exc c]) [.bl (ĉ 3 c),.bl (ĉ 2 c),.bl (ĉ 4 c)];have T:=Ģ (s'++[.exc c]++[.lst [.bl (ĉ 3 c),.bl (ĉ 2 c),.bl (ĉ 4 c)]]) [.bl (ĉ 5 c),.bl (ĉ 6 c)];have h:=Ģ (s'++[.exc c]++[.lst [.bl (ĉ 3 c),.bl (ĉ 2 c),.bl (ĉ 4 c)]]++[.lst [.bl (ĉ 5 c),.bl (ĉ 6 c)]]) (fits c);have B:=bq (ll (pc (f 3 [] none none) (pc (f 2 [] none none) (pc (f 4 [] none none) pn))) (by simp));have C:=bq (ll (s:=s'++[.exc c]++[.lst [.bl (ĉ 3 c),.bl (ĉ 2 c),.bl (ĉ 4 c)]]) (pc (by rw[Ñ];exact f 5 _ (À (.ref (s'++[AO.exc c]).length)) none) (pc (by rw[Ñ];exact f 6 _ (À (.ref (s'++[AO.exc c]).length)) none) pn)) (by simp));have m:=(aP (op:=ĸ) (a:=mv 3) (v:=.ref (s'++[AO.exc c]).length) rfl C).trans (p7 (ĳ Q) T (qF (by simp)));generalize b:s'++[AO.exc c]++[.lst [.bl (ĉ 3 c),.bl (ĉ 2 c),.bl (ĉ 4 c)]]++[.lst [.bl (ĉ 5 c),.bl (ĉ 6 c)]]=A at h m l;have J:(A++[.lst (fits c)])[s'.length]?=À (.exc c):=by rw[<-b];simp only[Ñ];exact g _
 have n:(fits c).all gy=true:=rfl;have D:eN "list" mG (mv 3) (Á (mc (.bl true)) Ë) [none,none,À (.ref s'.length),À (.ref A.length),none] (A++[.lst (fits c)])=.ok (.int 1) (A++[.lst (fits c)]):=by
  rw[Hz (vs:=[.bl true]) h rfl rfl];show(need (ö _ _) λxs=>if gy (.bl true)=true/\xs.all gy=true then R.ok _ _ else .bad)=_;rw[h,õ,Ì ⟨rfl,n⟩,N];rfl
 have E:FZ (cB (Ó iW (eN "list" mG (mv 3) (Á (mc (.bl true)) Ë)) (mc (.int 1)))) (cT (aI (eS (zf [1,8,7])) (mv 2))) [none,none,À (.ref s'.length),À (.ref A.length),none] (A++[.lst (fits c)])=.ok false (A++[.lst (fits c)]):=by
  have k:cT (aI (eS (zf [1,8,7])) (mv 2)) [none,none,À (.ref s'.length),À (.ref A.length),none] (A++[.lst (fits c)])=.ok false (A++[.lst (fits c)]):=by
   have P:aI (eS (zf [1,8,7])) (mv 2) [none,none,À (.ref s'.length),À (.ref A.length),none] (A++[.lst (fits c)])=.ok (.bl false) (A++[.lst (fits c)]):=(Nt rfl).trans (He J hT);unfold cT;rw[P];rfl
  unfold FZ cB;rw[aP D (w:=.int 1) rfl];exact k
 have F:Ó Ċ (ī (Ŵ (Á (mc (.str "NoName")) (Á (mc (.str "Taken")) (Á (mc (.str "TooMuch")) (Á (mc (.str "NoRate")) (Á (mc (.str "NoneLeft")) Ë))))))) (eN "list" jb (mv 3) (Á (mc (.bl true)) Ë)) [none,none,À (.ref s'.length),À (.ref A.length),none] (A++[.lst (fits c)])=.ok (.str w) (A++[.lst (fits c)]++[.lst Nu]):=by
  have L:=bq (ll (r:=Á (mc (.str "NoName")) (Á (mc (.str "Taken")) (Á (mc (.str "TooMuch")) (Á (mc (.str "NoRate")) (Á (mc (.str "NoneLeft")) Ë))))) (env:=[none,none,À (.ref s'.length),À (.ref A.length),none]) (s:=A++[.lst (fits c)]) (vs:=Nu) rfl (by decide));have p:=ĳ (e:=[.lst Nu]) h;have k:eN "list" jb (mv 3) (Á (mc (.bl true)) Ë) [none,none,À (.ref s'.length),À (.ref A.length),none] (A++[.lst (fits c)]++[.lst Nu])=.ok (.int j) (A++[.lst (fits c)]++[.lst Nu]):=by
   rw[Hz (vs:=[.bl true]) p rfl rfl];show(need (ö (A++[.lst (fits c)]++[.lst Nu]) A.length) λxs=>if gy (.bl true)=true/\xs.all gy=true then need (xs.findIdx? λz=>ik (toV z) (toV (.bl true))) λj=>R.ok (AV.int (j:Int)) (A++[.lst (fits c)]++[.lst Nu])else .bad)=_;rw[p,õ,Ì ⟨rfl,n⟩,M];rfl
  rw[aP L k];show(need (ö _ _) λxs=>need (lJ xs j) λv=>R.ok v _)=_;rw[Ģ,õ,hw];rfl
 have H:BC (Ó Ċ (ī (Ŵ (Á (mc (.str "NoName")) (Á (mc (.str "Taken")) (Á (mc (.str "TooMuch")) (Á (mc (.str "NoRate")) (Á (mc (.str "NoneLeft")) Ë))))))) (eN "list" jb (mv 3) (Á (mc (.bl true)) Ë))) [none,none,À (.ref s'.length),À (.ref A.length),none] (A++[.lst (fits c)])=.ok (.str w) (A++[.lst (fits c)]):=by
  unfold BC;rw[F,â];exact Ì ⟨f7,by simp[AV.low]⟩
 have I:ş (BC (Ó Ċ (ī (Ŵ (Á (mc (.str "NoName")) (Á (mc (.str "Taken")) (Á (mc (.str "TooMuch")) (Á (mc (.str "NoRate")) (Á (mc (.str "NoneLeft")) Ë))))))) (eN "list" jb (mv 3) (Á (mc (.bl true)) Ë)))) [none,none,À (.ref s'.length),À (.ref A.length),none] (A++[.lst (fits c)])=.rt (.str w) (A++[.lst (fits c)]):=by
  unfold ş;rw[H];rfl
 refine⟨[.exc c]++[.lst [.bl (ĉ 3 c),.bl (ĉ 2 c),.bl (ĉ 4 c)]]++[.lst [.bl (ĉ 5 c),.bl (ĉ 6 c)]]++[.lst (fits c)],?_,?_⟩
 ·simp only[<-Ñ];rw[b];unfold ţ i4;refine dX (env:=[À a,À d,none,none,none]) ((á (cN (v:=.Ě) rfl)).trans ((á (e:=[none,none,À (.ref s'.length),none,none]) (s1:=s'++[.exc c]) ?_).trans ((á (fH rfl)).trans ((á (cN B)).trans ((á (cN m)).trans ((á (fH E)).trans ?_))))))
  ·unfold Cc;rw[mx ((fm (v:=a) (w:=d) rfl rfl).trans hd)];dsimp only;rw[Ì O];rfl
  ·exact I
 ·simp only[<-Ñ];rw[b];exact l
def cw (c:Nat):É Str:=if c=3 then À "NoName" else if c=2 then À "Taken" else if c=4 then À "TooMuch" else if c=5 then À "NoRate" else if c=6 then À "NoneLeft" else none
def Mz {c:Nat}(hw:cw c=À w)(hd:Þ [a,d] s=.ex ⟨c,[]⟩ s')(cl:Cl s'):∃e,ţ [a,d] s=.ok (.str w) (s'++e)/\Cl (s'++e):=by
 unfold cw at hw;by_cases f:c=3
 ·subst f;cases hw;exact pB (j:=0) (by lia) (by decide+kernel) (by decide+kernel) (by decide+kernel) rfl hd cl
 rw[Ö f]at hw;by_cases b:c=2
 ·subst b;cases hw;exact pB (j:=1) (by lia) (by decide+kernel) (by decide+kernel) (by decide+kernel) rfl hd cl
 rw[Ö b]at hw;by_cases g:c=4
 ·subst g;cases hw;exact pB (j:=2) (by lia) (by decide+kernel) (by decide+kernel) (by decide+kernel) rfl hd cl
 rw[Ö g]at hw;by_cases h:c=5
 ·subst h;cases hw;exact pB (j:=3) (by lia) (by decide+kernel) (by decide+kernel) (by decide+kernel) rfl hd cl
 rw[Ö h]at hw;by_cases i:c=6
 ·subst i;cases hw;exact pB (j:=4) (by lia) (by decide+kernel) (by decide+kernel) (by decide+kernel) rfl hd cl
 rw[Ö i]at hw;cases hw
end Ro
set_option maxHeartbeats 400000
namespace Ro
open PySem L2 Mm
theorem xK (h:∀x,(g x).low b=true):∀l:Â Str,ĭ b ((kT id g l).map (·.2))=true
 |[]=>by simp[kT,ĭ]
 |x::r=>by
  show ĭ b (g x::(kT id g r).map (·.2))=true;simp only[ĭ,h x,xK h r];rfl
def oz (V:Bo)(d:AV)(V1:Bo):Prop:=∀B s,Ŭ B V s->∃s',Þ [.ref B,d] s=.ok .Ě s'/\Ŭ B V1 s'/\Bb B s s'
def NM (V:Bo)(d:AV)(c:Nat):Prop:=∀B s,Ŭ B V s->∃e,Þ [.ref B,d] s=.ex ⟨c,[]⟩ (s++e)/\Cl (s++e)
section
variable {V V1:Bo}
def tq (j:i<8)(k:∀{B:Nat}{s:S},Ŭ B V s->∃(e:S)(o:AO),Þ [.ref B,d] s=.ok .Ě ((s++e).set (B+i) o)/\Cl (s++e)/\o.low (s++e).length=true/\(mid B V).set i o=mid B V1):oz V d V1:=by
 intro B s h;obtain⟨e,o,b,c,f,g⟩:=k h;have a:=(h.app c).put j f g;exact⟨_,b,a.1,((Bb.refl B s).app e).trans a.2⟩
def kb (e:i<8)(k:∀{B:Nat}{s:S},Ŭ B V s->∃o:AO,Þ [.ref B,d] s=.ok .Ě (s.set (B+i) o)/\o.low s.length=true/\(mid B V).set i o=mid B V1):oz V d V1:=by
 refine tq e λ{B s} h=>?_;obtain⟨o,a,b,c⟩:=k h;exact⟨[],o,by rw[ð];exact a,by rw[ð];exact h.cl,by rw[ð];exact b,c⟩
def cb (k:∀{B:Nat}{s:S},Ŭ B V s->Þ [.ref B,d] s=.ex ⟨c,[]⟩ s):NM V d c:=λB s h=>⟨[],by rw[ð];exact k h,by rw[ð];exact h.cl⟩
def xG (p:Pv)(f:Str->Pv)(x:Str)(l:Â Str):kT id (λy=>if y=x then p.v else (f y).v) l=kT id (λy=>((if y=x then p else f y:Pv)).v) l:=by
 congr;funext y;split<;>rfl
def xJ (p:Pv)(f:Str->Pv)(x:Str)(l:Â Str)(b:Nat):(AO.dK (kT id (λy=>if y=x then p.v else (f y).v) l)).low b=true:=by
 rw[xG];exact xK (λ_=>Pv.low _ _) _
def Hr (f:α->AV)(c:∀a,(f a).low b=true) (d:v.low b=true)(l:Â ((Str×Int)×α)) (k:Â Key):(AO.dT (l.map (tK f)++[(k,v)])).low b=true:=by
 show ĭ b ((l.map (tK f)++[(k,v)]).map (·.2))=true;refine fw λw hw=>?_;rw[ķ,aU]at hw;rcases hw with hw|hw
 ·rw[r9]at hw;obtain⟨x,_,rfl⟩:=ŕ.mp hw;exact c _
 ·simp only[Õ,a_,Ġ]at hw;rw[hw];exact d
def Hn (x:Pv×Pv)(b:Nat):(hV x).low b=true:=by simp[hV,AV.low,ĭ,Pv.low]
def zB (a:¬(x∈V.ps∨x∈V.ws)) (hl:V.ps.length<64)(hk:(V.kf x).v=ž):oz V (.tup [.str "person",.str x]) {V with ps:=V.ps++[x]}:=
 kb (i:=1) (by lia) λh=>⟨_,(lO h).trans (à dJ (sT h a hl hk)),xK (λ_=>Pv.low _ _) _,rfl⟩
def EI (a:¬(x∈V.ps∨x∈V.ws)) (hl:V.ws.length<64)(hk:(V.rf x).v=.tup []):oz V (.tup [.str "work",.str x]) {V with ws:=V.ws++[x]}:=
 kb (i:=2) (by lia) λh=>⟨_,(vN h).trans (à dJ (wX h a hl hk)),xK (λ_=>Pv.low _ _) _,rfl⟩
def EE (d:Int):oz V (.tup [.str "half",.int d]) {V with h:=d}:=
 kb (i:=0) (by lia) λ{B s} h=>⟨.ins 9 (vh B d),(EC h).trans (à dJ (Ar h d)),by
  have:=h.len;simp[AO.low,vh,ĭ,AV.low];lia,rfl⟩
def EF (a:x∈V.ps)(hl:V.ps.length<64)(p:Pv):oz V (.tup [.str "keep",.str x,p.v]) {V with kf:=λy=>if y=x then p else V.kf y}:=
 kb (i:=1) (by lia) λh=>⟨_,(vM h).trans (à dJ (yd h a hl p)),xJ p V.kf x _ _,by rw[xG];rfl⟩
def vP (b:x∈V.ps)(c:y∈V.ps)(d:x≠y)(hk:(x,k)∉V.hs.map dO) (hl:V.hs.length<64)(p:Pv):oz V (.tup [.str "hand",.str x,.int k,.str y,p.v]) {V with hs:=V.hs++[((x,k),(pS y,p))]}:=
 kb (i:=3) (by lia) λh=>⟨_,(iu h).trans (à dJ (G9 h b c d hk hl)),Hr hV (λa=>Hn a _) (Hn (pS y,p) _) _ _,by unfold mid;rw[ķ];rfl⟩
def tm (b:x∈V.ws)(c:y∈V.ps)(a:x∉V.ms)(hl:V.ms.length<64):oz V (.tup [.str "known",.str x,.int k,.str y]) {V with ms:=V.ms++[x],mf:=λz=>if z=x then pT [pI k,pS y] (by simp)else V.mf z}:=
 kb (i:=4) (by lia) λh=>⟨_,(iE h).trans (à dJ (E6 h b c a hl)),xJ (pT [pI k,pS y] (by simp)) V.mf x _ _,by
  rw[show AV.tup [.int k,.str y]=(pT [pI k,pS y] (by simp)).v from rfl,xG];rfl⟩
def EG {x:Str}(b:x≠"coin")(hk:(x,k)∉V.rs.map dO) (hl:V.rs.length<64)(p:Pv):oz V (.tup [.str "rate",.str x,.int k,p.v]) {V with rs:=V.rs++[((x,k),p)]}:=
 kb (i:=5) (by lia) λh=>⟨_,(p9 h).trans (à dJ (IC h b hk hl)),Hr Pv.v (λa=>a.low _) (p.low _) _ _,by unfold mid;rw[ķ];rfl⟩
def OL (l:Â (Str×Int×Str×Int)) (b:Nat):ĭ b (l.map dE)=true:=fw λv a=>by
 obtain⟨x,_,rfl⟩:=ŕ.mp a;simp[dE,AV.low,ĭ]
def ED (b:x∈V.ps)(hl:V.db.length<64)(w:Str)(k a:Int):oz V (.tup [.str "debt",.str w,.int k,.str x,.int a]) {V with db:=V.db++[(w,k,x,a)]}:=
 kb (i:=7) (by lia) λh=>⟨_,(vL h).trans (à dJ (yc h b hl)),by
  have:=OL (V.db++[(w,k,x,a)]);simp only[ķ]at this;exact this _,by unfold mid;rw[ķ];rfl⟩
def EH (f:x∈V.ws)(hw:V.ws.length<64)(R:Pv){l:Â AV}(d:R.v=.tup l)(hl:∀{B:Nat}{s:S},Ŭ B V s->∃a b c,forL rT rB [] l (wA B x (.tup l) none none none) s=.nx (wA B x (.tup l) a b c) s) (g:∀{s:S},Cl s->aj [.tup l] s=.ok (.bl false) s):oz V (.tup [.str "rows",.str x,.tup l]) {V with rf:=λy=>if y=x then R else V.rf y}:=
 kb (i:=2) (by lia) λ{B s} h=>by
  obtain⟨a,b,c,e⟩:=hl h;refine⟨_,(jG h).trans (à dJ (yf h f hw e (g h.cl))),?_,?_⟩
  ·rw[<-d];exact xJ R V.rf x _ _
  ·rw[<-d,xG];rfl
def vQ (f:x∈V.ws)(hl:V.mn.length<64)(hw:∀{B:Nat}{s:S},Ŭ B V s->∃w e,å [.ref B,.str u,.int k] s=.ok w (s++e)/\Cl (s++e)):oz V (.tup [.str "sold",.int k,.str x,.int c,.int a,.str u]) {V with mn:=V.mn++[(true,k,x,c,a,u)]}:=
 tq (i:=6) (by lia) λ{B s} h=>by
  obtain⟨w,e,d,b⟩:=hw h;exact⟨e,_,(p_ h).trans (à dJ (IH h f hl d b)),b,BP _ _,rfl⟩
def vO (f:x∈V.ws)(hl:V.mn.length<63)(hw:∀{B:Nat}{s:S},Ŭ B V s->∃w e,å [.ref B,.str u,.int k] s=.ok w (s++e)/\Cl (s++e)) (hk:jO x (vj (V.mn++[(false,k,x,c,a,u)])) 0=false):oz V (.tup [.str "back",.int k,.str x,.int c,.int a,.str u]) {V with mn:=V.mn++[(false,k,x,c,a,u)]}:=
 tq (i:=6) (by lia) λ{B s} h=>by
  obtain⟨w,e,d,b⟩:=hw h;exact⟨e,_,(mw h).trans (à dJ (Gq h f hl d b hk)),b,BP _ _,rfl⟩
def Cz (h:Ŭ B V s):∃w e,å [.ref B,.str "coin",.int k] s=.ok w (s++e)/\Cl (s++e):=⟨nj,[],by rw[ð];exact uM k,by rw[ð];exact h.cl⟩
def T6 {c:Str}(hr:V.rs=[((c,d0),f)]) (a:c≠"coin")(b:d0<=k)(h:Ŭ B V s):∃w e,å [.ref B,.str c,.int k] s=.ok w (s++e)/\Cl (s++e):=⟨_,_,CB h hr a b,h.cl.add (by simp[AO.low,ĭ,AV.low])⟩
end
structure Nm (P W:Â Str)(one two first second:Str):Prop where
 o:one∈P
 t:two∈P
 f:first∈W
 g:second∈W
 ot:one≠two
 fg:first≠second
 dj:∀x∈P,x∉W
 ln:∀x,x∈P∨x∈W->x.length<=1000
 nP:("nobody":Str)∉P
 nW:("nobody":Str)∉W
 lp:P.length<64
 lw:W.length<64
def Vb (P W:Â Str):Bo:=⟨P,λ_=>pF 0 1,W,λ_=>pT [] (by simp),[],[],λ_=>pN,[],182,[],[]⟩
def DG (one second:Str):Pv:=pT [pT [pS "of",pS one,pF 1 3] (by simp),pT [pS "left",pS second,pF 1 2] (by simp)] (by simp)
def wq (one second:Str):Â AV:=[.tup [.str "of",.str one,.tup [.int 1,.int 3]],.tup [.str "left",.str second,.tup [.int 1,.int 2]]]
def kH (one two:Str):Â AV:=[.tup [.str "of",.str one,.tup [.int 2,.int 3]],.tup [.str "steps",.str two,vu]]
section
variable (P W:Â Str)(one two first second:Str)(hd rt sd:Int)
def W1:Bo:={Vb P W with rf:=λy=>if y=first then DG one second else pT [] (by simp)}
def W2:Bo:={W1 P W one first second with h:=30}
def W3:Bo:={W2 P W one first second with hs:=[((one,hd),(pS two,pF 1 2))]}
def W4:Bo:={W3 P W one two first second hd with ms:=[first],mf:=λz=>if z=first then pT [pI 3,pS two] (by simp)else pN}
def W5:Bo:={W4 P W one two first second hd with rs:=[(("usd",rt),pF 2 3)]}
def W6:Bo:={W5 P W one two first second hd rt with kf:=λy=>if y=two then pF 1 4 else pF 0 1}
def W7:Bo:={W6 P W one two first second hd rt with db:=[("wrong",5,one,7)]}
def W8:Bo:={W7 P W one two first second hd rt with mn:=[(true,sd,first,5,90,"coin")]}
def VF:Bo:={W8 P W one two first second hd rt sd with mn:=[(true,sd,first,5,90,"coin"),(false,sd+4,first,2,1,"coin")]}
end
inductive Run:Bo->Â AV->Bo->Prop
 |nil (V:Bo):Run V [] V
 |cons {V V1 V2:Bo}{d:AV}{l:Â AV}(h:oz V d V1) (k:Run V1 l V2):Run V (d::l) V2
section
variable {P W:Â Str}{one two first second:Str}{hd rt sd:Int}
def C4 (one two first second:Str)(hd rt sd:Int):Â AV:=
  [.tup [.str "rows",.str first,.tup (wq one second)],.tup [.str "half",.int 30],
   .tup [.str "hand",.str one,.int hd,.str two,.tup [.int 1,.int 2]],.tup [.str "known",.str first,.int 3,.str two],
   .tup [.str "rate",.str "usd",.int rt,.tup [.int 2,.int 3]],.tup [.str "keep",.str two,.tup [.int 1,.int 4]],.tup [.str "debt",.str "wrong",.int 5,.str one,.int 7],
   .tup [.str "sold",.int sd,.str first,.int 5,.int 90,.str "coin"],.tup [.str "back",.int (sd+4),.str first,.int 2,.int 1,.str "coin"]]
def DH {V:Bo}{x a b:Str}{u v w z:AV}{R:AV}(c:a∈V.ps∨a∈V.ws)(d:b∈V.ps∨b∈V.ws)(h:Ŭ B V s):∃p q r,forL rT rB [] [.tup [u,.str a,v],.tup [w,.str b,z]] (wA B x R none none none) s=.nx (wA B x R p q r) s:=by
 rw[sD h c,sD h d,xy];exact⟨_,_,_,rfl⟩
def qI:("usd":Str)≠"coin":=by decide+kernel
def OF:jO first (vj (([(true,sd,first,5,90,"coin")]:Â Mo)++([(false,sd+4,first,2,1,"coin")]:Â Mo))) 0=false:=by
 rw[cy,aV,Vx (by show sd<=sd+4;lia)];simp[jO,un]
def start (N:Nm P W one two first second):Run (Vb P W) (C4 one two first second hd rt sd) (VF P W one two first second hd rt sd):=by
 refine .cons (V1:=W1 P W one first second) (EH N.f N.lw (DG one second) rfl (DH (.inl N.o) (.inr N.g)) λc=>IZ c _ _) ?_;refine .cons (V1:=W2 P W one first second) (EE 30) ?_;refine .cons (V1:=W3 P W one two first second hd) (vP (V:=W2 P W one first second) N.o N.t N.ot (λz=>nomatch z) (show 0<64 by lia) (pF 1 2)) ?_;refine .cons (V1:=W4 P W one two first second hd) (tm (V:=W3 P W one two first second hd) N.f N.t (λz=>nomatch z) (show 0<64 by lia)) ?_;refine .cons (V1:=W5 P W one two first second hd rt) (EG (V:=W4 P W one two first second hd) qI (λz=>nomatch z) (show 0<64 by lia) (pF 2 3)) ?_;refine .cons (V1:=W6 P W one two first second hd rt) (EF N.t N.lp (pF 1 4)) ?_;refine .cons (V1:=W7 P W one two first second hd rt) (ED (V:=W6 P W one two first second hd rt) N.o (show 0<64 by lia) "wrong" 5 7) ?_;refine .cons (V1:=W8 P W one two first second hd rt sd) (vQ (V:=W7 P W one two first second hd rt) N.f (show 0<64 by lia) Cz) ?_;refine .cons (V1:=VF P W one two first second hd rt sd) (vO (V:=W8 P W one two first second hd rt sd) N.f (show 1<63 by lia) Cz OF) ?_;exact .nil _
end
end Ro
set_option maxHeartbeats 400000
namespace Ro
open PySem L2 Mm
section
variable {P W:Â Str}{one two first second:Str}{hd rt sd:Int}{V:Bo}
def Nm.fP (N:Nm P W one two first second):first∉P:=λz=>N.dj _ z N.f
def Nm.gP (N:Nm P W one two first second):second∉P:=λz=>N.dj _ z N.g
def Nm.oW (N:Nm P W one two first second):one∉W:=N.dj _ N.o
def Nm.tW (N:Nm P W one two first second):two∉W:=N.dj _ N.t
def Nm.lo (N:Nm P W one two first second):one.length<=1000:=N.ln _ (.inl N.o)
def Nm.lt (N:Nm P W one two first second):two.length<=1000:=N.ln _ (.inl N.t)
def Nm.lf (N:Nm P W one two first second):first.length<=1000:=N.ln _ (.inr N.f)
def Nm.lg (N:Nm P W one two first second):second.length<=1000:=N.ln _ (.inr N.g)
def z7:("nobody":Str).length<=1000:=by decide+kernel
def rE (V:Bo)(p:AV):Prop:=∃d w c,p=.tup [d,.str w]/\cw c=À w/\NM V d c
def k8 (h:NM V d 3):rE V (.tup [d,.str "NoName"]):=⟨_,_,3,rfl,rfl,h⟩
def Bj (h:NM V d 2):rE V (.tup [d,.str "Taken"]):=⟨_,_,2,rfl,rfl,h⟩
def Vv (h:NM V d 4):rE V (.tup [d,.str "TooMuch"]):=⟨_,_,4,rfl,rfl,h⟩
def Kj (h:NM V d 5):rE V (.tup [d,.str "NoRate"]):=⟨_,_,5,rfl,rfl,h⟩
def Vw (h:NM V d 6):rE V (.tup [d,.str "NoneLeft"]):=⟨_,_,6,rfl,rfl,h⟩
def all_cons {Q:α->Prop}{a:α}{l:Â α}(h:Q a)(k:∀x∈l,Q x):∀x∈a::l,Q x:=λx b=>(ò.mp b).elim (λe=>e▸h) (k x)
def b1 (one two first second:Str):Â AV:=[.tup [.tup [.str "person",.str first],.str "Taken"],.tup [.tup [.str "work",.str one],.str "Taken"],.tup [.tup [.str "person",.str one],.str "Taken"]]
def b2 (one two first second:Str):Â AV:=[.tup [.tup [.str "rows",.str "nobody",.tup (kH one two)],.str "NoName"],.tup [.tup [.str "rows",.str one,.tup (kH one two)],.str "NoName"]]
def b3 (one two first second:Str):Â AV:=[.tup [.tup [.str "rows",.str first,.tup (kH one two++[.tup [.str "left",.str "nobody",.tup [.int 1,.int 2]]])],.str "NoName"]]
def b4 (one two first second:Str):Â AV:=[.tup [.tup [.str "rows",.str first,.tup (kH one two)],.str "TooMuch"]]
def hT (x:Str)(k:Int)(y:Str):AV:=.tup [.str "hand",.str x,.int k,.str y,.tup [.int 1,.int 9]]
def kN (x y:Str):AV:=.tup [.str "known",.str x,.int 9,.str y]
def b5 (one two first second:Str)(hd:Int):Â AV:=[.tup [hT one hd "nobody",.str "NoName"],.tup [hT one hd one,.str "NoName"]]
def b6 (one two first second:Str)(hd:Int):Â AV:=[.tup [hT one hd first,.str "NoName"],.tup [hT first hd two,.str "NoName"]]
def b7 (one two first second:Str)(hd:Int):Â AV:=[.tup [hT one hd two,.str "Taken"],.tup [kN first second,.str "NoName"]]
def b8 (one two first second:Str):Â AV:=[.tup [kN first "nobody",.str "NoName"],.tup [kN one two,.str "NoName"]]
def b9 (one two first second:Str)(rt:Int):Â AV:=[.tup [kN first one,.str "Taken"],.tup [.tup [.str "rate",.str "usd",.int rt,.tup [.int 1,.int 2]],.str "Taken"]]
def Gn (one two first second:Str)(rt:Int):Â AV:=[.tup [.tup [.str "rate",.str "coin",.int rt,.tup [.int 1,.int 1]],.str "Taken"],.tup [.tup [.str "keep",.str first,.tup [.int 1,.int 2]],.str "NoName"]]
def JP (one two first second:Str)(rt:Int):Â AV:=[.tup [.tup [.str "sold",.int 0,.str one,.int 1,.int 1,.str "usd"],.str "NoName"],.tup [.tup [.str "sold",.int (rt-1),.str first,.int 1,.int 1,.str "usd"],.str "NoRate"]]
def Kf (one two first second:Str):Â AV:=[.tup [.tup [.str "back",.int 0,.str "nobody",.int 9,.int 1,.str "usd"],.str "NoName"],.tup [.tup [.str "back",.int 0,.str first,.int 9,.int 1,.str "usd"],.str "NoRate"]]
def bk (k:Int)(x:Str)(c:Int):AV:=.tup [.tup [.str "back",.int k,.str x,.int c,.int 1,.str "coin"],.str "NoneLeft"]
def UD (one two first second:Str)(sd:Int):Â AV:=[bk (sd+9) first 4,bk sd first 4,bk (sd-1) first 1,bk 0 second 1]
def NU (one two first second:Str):Â AV:=[.tup [.tup [.str "debt",.str "advance",.int 1,.str second,.int 1],.str "NoName"],.tup [.tup [.str "rows_of",.str one],.str "NoName"]]
def Q8 (one two first second:Str):Â AV:=[.tup [.tup [.str "hands_of",.str first],.str "NoName"],.tup [.tup [.str "known_of",.str two],.str "NoName"],.tup [.tup [.str "keep_of",.str second],.str "NoName"]]
def RH (rt:Int):Â AV:=[.tup [.tup [.str "worth_of",.str "eur",.int 900],.str "NoRate"],.tup [.tup [.str "worth_of",.str "usd",.int (rt-1)],.str "NoRate"]]
abbrev G (P W:Â Str)(one two first second:Str)(hd rt sd:Int):Bo:=VF P W one two first second hd rt sd
def ok1 (N:Nm P W one two first second):∀p∈b1 one two first second,rE (G P W one two first second hd rt sd) p:=
 all_cons (Bj (cb λh=>(lO h).trans (à dJ (m5 h N.lf (.inr N.f)))))
 (all_cons (Bj (cb λh=>(vN h).trans (à dJ (ze h N.lo (.inl N.o)))))
 (all_cons (Bj (cb λh=>(lO h).trans (à dJ (m5 h N.lo (.inl N.o))))) λ_ z=>nomatch z))
def ok2 (N:Nm P W one two first second):∀p∈b2 one two first second,rE (G P W one two first second hd rt sd) p:=
 all_cons (k8 (cb λh=>(jG h).trans (à dJ (rb h z7 N.nW _))))
 (all_cons (k8 (cb λh=>(jG h).trans (à dJ (rb h N.lo N.oW _)))) λ_ z=>nomatch z)
def ok3 (N:Nm P W one two first second):∀p∈b3 one two first second,rE (G P W one two first second hd rt sd) p:=
 all_cons (k8 (cb λh=>(jG h).trans (à dJ (Au h N.f (by
  show forL rT rB [] [.tup [.str "of",.str one,.tup [.int 2,.int 3]],.tup [.str "steps",.str two,vu],.tup [.str "left",.str "nobody",.tup [.int 1,.int 2]]] _ _=_;rw[sD h (.inl N.o),sD h (.inl N.t),Qs h z7 (λz=>z.elim N.nP N.nW)]))))) λ_ z=>nomatch z
def ok4 (N:Nm P W one two first second):∀p∈b4 one two first second,rE (G P W one two first second hd rt sd) p:=
 all_cons (Vv (cb λh=>by
  obtain⟨a,b,c,e⟩:=DH (x:=first) (R:=.tup (kH one two)) (u:=.str "of") (v:=.tup [.int 2,.int 3]) (w:=.str "steps") (z:=vu) (.inl N.o) (.inl N.t) h;exact(jG h).trans (à dJ (Av h N.f e (My h.cl _ _))))) λ_ z=>nomatch z
def ok5 (N:Nm P W one two first second):∀p∈b5 one two first second hd,rE (G P W one two first second hd rt sd) p:=
 all_cons (k8 (cb λh=>(iu h).trans (à dJ (zQ h z7 N.o N.nP))))
 (all_cons (k8 (cb λh=>(iu h).trans (à dJ (ET h N.o)))) λ_ z=>nomatch z)
def ok6 (N:Nm P W one two first second):∀p∈b6 one two first second hd,rE (G P W one two first second hd rt sd) p:=
 all_cons (k8 (cb λh=>(iu h).trans (à dJ (zQ h N.lf N.o N.fP))))
 (all_cons (k8 (cb λh=>(iu h).trans (à dJ (G8 h N.lf N.fP)))) λ_ z=>nomatch z)
def ok7 (N:Nm P W one two first second):∀p∈b7 one two first second hd,rE (G P W one two first second hd rt sd) p:=
 all_cons (Bj (cb λh=>(iu h).trans (à dJ (KO h N.lo N.o N.t N.ot (.head _)))))
 (all_cons (k8 (cb λh=>(iE h).trans (à dJ (v9 h N.lg N.f N.gP)))) λ_ z=>nomatch z)
def ok8 (N:Nm P W one two first second):∀p∈b8 one two first second,rE (G P W one two first second hd rt sd) p:=
 all_cons (k8 (cb λh=>(iE h).trans (à dJ (v9 h z7 N.f N.nP))))
 (all_cons (k8 (cb λh=>(iE h).trans (à dJ (E5 h N.lo N.oW)))) λ_ z=>nomatch z)
def ok9 (N:Nm P W one two first second):∀p∈b9 one two first second rt,rE (G P W one two first second hd rt sd) p:=
 all_cons (Bj (cb λh=>(iE h).trans (à dJ (Hi h N.lf N.f N.o (.head _)))))
 (all_cons (Bj (cb λh=>(p9 h).trans (à dJ (Mc h qI (by decide+kernel) (.head _))))) λ_ z=>nomatch z)
def Wr (N:Nm P W one two first second):∀p∈Gn one two first second rt,rE (G P W one two first second hd rt sd) p:=
 all_cons (Bj (cb λh=>(p9 h).trans (à dJ (FA _ _))))
 (all_cons (k8 (cb λh=>(vM h).trans (à dJ (As h N.lf N.fP _)))) λ_ z=>nomatch z)
def xR (c:Cl s):Cl (s++[.lst []]):=c.add (by simp[AO.low,ĭ])
def xT (h:Ŭ B (G P W one two first second hd rt sd) s) {c:Str}{k:Int}(a:c≠"coin")(d:c.length<=1000)(b:¬(("usd":Str)=c/\rt<=k)):å [.ref B,.str c,.int k] s=.ex ⟨5,[]⟩ (s++[.lst []]):=CA h rfl a d b
def BO:("usd":Str).length<=1000:=by decide+kernel
def Ws (N:Nm P W one two first second):∀p∈JP one two first second rt,rE (G P W one two first second hd rt sd) p:=
 all_cons (k8 (cb λh=>(p_ h).trans (à dJ (Mh h N.lo N.oW))))
 (all_cons (Kj λB s h=>⟨_,(p_ h).trans (à dJ (Mi h N.f (xT h qI BO (λz=>by have:=z.2;lia)))),xR h.cl⟩) λ_ z=>nomatch z)
def Wt (N:Nm P W one two first second)(hr:1<=rt):∀p∈Kf one two first second,rE (G P W one two first second hd rt sd) p:=
 all_cons (k8 (cb λh=>(mw h).trans (à dJ (Kh h z7 N.nW))))
 (all_cons (Kj λB s h=>⟨_,(mw h).trans (à dJ (Ki h N.f (xT h qI BO (λz=>by have:=z.2;lia)))),xR h.cl⟩) λ_ z=>nomatch z)
def pf (b:x.length<=1000)(a:x∈W)(hk:jO x (vj [(true,sd,first,5,90,"coin"),(false,sd+4,first,2,1,"coin"),(false,k,x,c,1,"coin")]) 0=true):rE (G P W one two first second hd rt sd) (bk k x c):=
 Vw λB s h=>⟨[],(mw h).trans (à dJ (Kg (w:=nj) h b a (show 2<63 by lia) (by rw[ð];exact uM k) (by rw[ð];exact h.cl) hk)),by rw[ð];exact h.cl⟩
def Wu (N:Nm P W one two first second)(hs:1<=sd):∀p∈UD one two first second sd,rE (G P W one two first second hd rt sd) p:=
 all_cons (pf N.lf N.f (by rw[MV (by show sd<=sd+4;lia) (by show sd+4<=sd+9;lia)];simp[jO,un]))
 (all_cons (pf N.lf N.f (by rw[RJ (by show sd<=sd;lia) (by show sd<sd+4;lia)];simp[jO,un]))
 (all_cons (pf N.lf N.f (by rw[MW (by show sd<=sd+4;lia) (by show sd-1<sd;lia)];simp[jO,un]))
 (all_cons (pf N.lg N.g (by rw[MW (by show sd<=sd+4;lia) (by show 0<sd;lia)];simp[jO,un])) λ_ z=>nomatch z)))
def Wv (N:Nm P W one two first second):∀p∈NU one two first second,rE (G P W one two first second hd rt sd) p:=
 all_cons (k8 (cb λh=>(vL h).trans (à dJ (Aq h N.lg N.gP))))
 (all_cons (k8 (cb λh=>(xp h).trans (à dJ (B_ h N.lo N.oW)))) λ_ z=>nomatch z)
def Ww (N:Nm P W one two first second):∀p∈Q8 one two first second,rE (G P W one two first second hd rt sd) p:=
 all_cons (k8 (cb λh=>(vm h).trans (à dJ (zR h N.lf N.fP))))
 (all_cons (k8 (cb λh=>(vn h).trans (à dJ (zY h N.lt N.tW))))
 (all_cons (k8 (cb λh=>(xo h).trans (à dJ (BL h N.lg N.gP)))) λ_ z=>nomatch z))
def Wx:∀p∈RH rt,rE (G P W one two first second hd rt sd) p:=
 all_cons (Kj λB s h=>⟨_,(m8 h).trans (à dJ (xT h (by decide+kernel) (by decide+kernel) (λz=>absurd z.1 (by decide+kernel)))),xR h.cl⟩)
 (all_cons (Kj λB s h=>⟨_,(m8 h).trans (à dJ (xT h qI BO (λz=>by have:=z.2;lia))),xR h.cl⟩) λ_ z=>nomatch z)
def p5 (one two first second:Str)(hd rt sd:Int):Â AV:=b1 one two first second++b2 one two first second++b3 one two first second++b4 one two first second++b5 one two first second hd++b6 one two first second hd++b7 one two first second hd++b8 one two first second++b9 one two first second rt++Gn one two first second rt++JP one two first second rt++Kf one two first second++UD one two first second sd++NU one two first second++Q8 one two first second++RH rt
def bR {Q:α->Prop}{l q:Â α}(h:∀x∈l,Q x)(k:∀x∈q,Q x):∀x∈l++q,Q x:=λx a=>(aU.mp a).elim (h x) (k x)
def Kl (N:Nm P W one two first second)(hr:1<=rt)(hs:1<=sd):∀p∈p5 one two first second hd rt sd,rE (G P W one two first second hd rt sd) p:=
 bR (bR (bR (bR (bR (bR (bR (bR (bR (bR (bR (bR (bR (bR (bR (ok1 N) (ok2 N)) (ok3 N)) (ok4 N)) (ok5 N)) (ok6 N)) (ok7 N)) (ok8 N)) (ok9 N)) (Wr N)) (Ws N)) (Wt N hr)) (Wu N hs)) (Wv N)) (Ww N)) Wx
def qV (one two first second:Str)(hd rt sd:Int):Â AV:=[.tup [.str "hand",.str one,.int (hd+1),.str two,.tup [.int 1,.int 9]],.tup [.str "known",.str second,.int 9,.str one],.tup [.str "back",.int (sd+9),.str first,.int 3,.int 1,.str "coin"],.tup [.str "sold",.int rt,.str second,.int 1,.int 1,.str "usd"]]
def G7 (N:Nm P W one two first second):∃V,Run (G P W one two first second hd rt sd) (qV one two first second hd rt sd) V:=by
 refine⟨_,.cons (vP (V:=G P W one two first second hd rt sd) N.o N.t N.ot ?_ (show 1<64 by lia) (pF 1 9)) (.cons (tm N.g N.o ?_ (show 1<64 by lia)) (.cons (vO N.f (show 2<63 by lia) Cz ?_) (.cons (vQ N.g (show 3<64 by lia) (T6 rfl qI (Int.le_refl rt))) (.nil _))))⟩
 ·intro z;have:(one,hd+1)=(one,hd):=Ġ.mp z;have:=à Prod.snd this;have:hd+1=hd:=this;lia
 ·intro z;exact N.fg (Ġ.mp z).symm
 ·show jO first (vj [(true,sd,first,5,90,"coin"),(false,sd+4,first,2,1,"coin"),(false,sd+9,first,3,1,"coin")]) 0=false
  rw[MV (by show sd<=sd+4;lia) (by show sd+4<=sd+9;lia)];simp[jO,un]
end
end Ro
set_option maxHeartbeats 400000
namespace Ro
open PySem L2 Mm
def Tl (b:Nat)(m:Ev)(env:En)(s:S)(d:Dt):Prop:=∃v e,m env s=.ok v (s++e)/\Cl (s++e)/\Rp b (s++e) d v
def NN (b:Nat)(r:gL)(env:En)(s:S)(l:Â Dt):Prop:=∃a e,r env s=.ok a (s++e)/\Cl (s++e)/\bA b (s++e) l a
def pz (c:Cl s)(e:m env s=.ok v s)(h:Rp b s d v):Tl b m env s d:=⟨v,[],by rw[ð];exact e,by rw[ð];exact c,by rw[ð];exact h⟩
def yt (c:Cl s):NN b Ë env s []:=⟨[],[],by rw[ð];rfl,by rw[ð];exact c,.nil⟩
def gf (i:Tl b m env s d)(j:∀e,Cl (s++e)->NN b r env (s++e) l):NN b (Á m r) env s (d::l):=by
 obtain⟨v,e,h,c,k⟩:=i;obtain⟨o,a,g,f,n⟩:=j e c;refine⟨v::o,e++a,?_,by rw[<-Ñ];exact f,by rw[<-Ñ];exact .cons (k.app a) n⟩;unfold Á;rw[h,â,g,â,Ñ]
def le_app (h:b<=s.length)(e:S):b<=(s++e).length:=by rw[ć];lia
def l9 (a:b<=s.length)(hl:l.length<=1000)(h:NN b r env s l):Tl b (ī r) env s (.lst l):=by
 obtain⟨d,e,h,c,k⟩:=h;exact⟨_,e++[.lst d],by rw[bq h,Ñ],by rw[<-Ñ];exact pb c k,by rw[<-Ñ];exact yb (le_app a e) hl k⟩
def yr (hl:l.length<=1000)(h:NN b r env s l):NN b (Ŵ r) env s l:=by
 obtain⟨a,e,h,c,k⟩:=h;refine⟨a,e,?_,c,k⟩;unfold Ŵ;rw[h,â,Ì (qF (by rw[<-k.length];exact hl))]
def Cs {y:Ev}(z:b<=s.length)(hl:l.length+q.length<=1000)(p:Tl b a env s (.lst l)) (t:∀e,Cl (s++e)->Tl b y env (s++e) (.lst q)):Tl b (Ó ĸ a y) env s (.lst (l++q)):=by
 obtain⟨v,e,h,c,k⟩:=p;obtain⟨w,d,o,n,m⟩:=t e c;have k:=k.app d;unfold Rp at k m;obtain⟨i,xs,rfl,_,u,_,f⟩:=k;obtain⟨j,A,rfl,_,x,_,g⟩:=m;have B:=f.length;have C:=g.length;have r:=f.append g;refine⟨_,e++d++[.lst (xs++A)],?_,by rw[<-Ñ,<-Ñ];exact pb n r,by rw[<-Ñ,<-Ñ];exact yb (le_app (le_app z e) d) (by rw[ć];exact hl) r⟩;rw[aP h o,p7 u x (qF (by lia)),Ñ,Ñ,Ñ]
def sF {names:Â Str}{f:Str->Dt}(j:ö s i=À (names.map AV.str)) (c:Cl s)(hl:names.length<=1000)(n:m (À (.ref B)::env) s=.ok (.ref i) s) (h:∀x∈names,∀e,Cl (s++e)->Tl b elt [À (.str x),À (.ref B)] (s++e) (f x)):NN b (Ż [(t,none),(u,À 0)] (aX m) (gN 0) jk elt) (À (.ref B)::env) s (names.map f):=by
 have p:=GH (b:=b) (elt:=elt) Cl (x0:=none) (rest:=[À (.ref B)]) f j c (λx r e k=>by
  obtain⟨v,l,d,g,o⟩:=h x r e k;rw[d];exact⟨l,rfl,g,o⟩)
 obtain⟨a,s',q,e,rfl,d,g⟩:=p.get;refine⟨a,e,?_,d,g⟩;unfold Ż aX;rw[n,â];dsimp only;rw[j,õ,â];dsimp only;rw[Ì (qF (by rw[Ê];exact hl))];exact q
def iY (l:Â ((Str×Int)×α)) (k:Str×Int):É α:=(l.find? λp=>decide (p.1=k)).map (·.2)
theorem yu (f:α->AV)(k:Str×Int):∀l:Â ((Str×Int)×α),bE (l.map (tK f)) (cM k)=(iY l k).map f
 |[]=>rfl
 |x::r=>by
  show(if cM x.1=cM k then À (f x.2)else bE (r.map (tK f)) (cM k))=_;unfold iY;rw[Ś,yu f k r];by_cases a:x.1=k
  ·rw[Ì (by rw[a]),ó a];rfl
  ·rw[Ö λz=>a (lV z),é a];rfl
theorem Ir (f:α->AV):∀l:Â ((Str×Int)×α),n5 (l.map (tK f))=À (l.map dO)
 |[]=>rfl
 |x::r=>by
  show(n5 (r.map (tK f))).map (x.1::·)=_;rw[Ir f r];rfl
def sK (l:Â ((Str×Int)×α)):Â (Str×Int):=rd (l.map dO)
def yj (l:Â ((Str×Int)×α)):(sK l).length=l.length:=by unfold sK;rw[(ku _).length_eq,Ê]
def AB {l:Â ((Str×Int)×α)}{f:α->AV}(h:Bu s i=À (l.map (tK f))) (hl:l.length<64)(z:α)(e:m env s=.ok (.ref i) s):i9 m env s=.ok ((sK l).map λk=>.tup [.tup [.str k.1,.int k.2],f ((iY l k).getD z)]) s:=by
 unfold i9;rw[e,â];dsimp only;rw[h,õ,Ir,õ,Ì (by rw[Ê];exact hl)];congr 1;refine iV λk b=>?_;have b:k∈l.map dO:=(ku _).mem_iff.mp b;rw[yu];cases e:iY l k with
 |some a=>rfl
 |none=>
  have:=Cr (k:=k) f l;rw[yu,e,ó b]at this;cases this
theorem s_ (w:Str×Int->AV)(s:S):∀(l:Â (Str×Int)) (a b c:É AV) (d:Â AV),bh (gT 2 (ß (gT 2 (ß (gN 1) (ß (gN 2) Ű))) (ß (gN 0) Ű))) jk (î (Á (mv 1) (Á (mv 2) (Á (mv 0) Ë)))) [] (l.map λk=>.tup [.tup [.str k.1,.int k.2],w k]) [a,b,c] s d=.ok (d++l.map λk=>.tup [.str k.1,.int k.2,w k]) s
 |[],a,b,c,d=>by rw[a_,jF];simp
 |x::r,a,b,c,d=>by
  have e:î (Á (mv 1) (Á (mv 2) (Á (mv 0) Ë))) [À (w x),À (.str x.1),À (.int x.2)] s=.ok (.tup [.str x.1,.int x.2,w x]) s:=by
   apply R.wp.eq;walk_at"w"
  rw[Õ,nN (e1:=[À (w x),À (.str x.1),À (.int x.2)]) rfl rfl e,s_ w s r];simp
theorem nM (w:Str×Int->Pv×Pv)(y:Str)(s:S):∀(l:Â (Str×Int)) (a b c d:É AV) (e:Â AV),bh (gT 2 (ß (gT 2 (ß (gN 0) (ß (gN 1) Ű))) (ß (gT 2 (ß (gN 2) (ß (gN 3) Ű))) Ű))) (cB (Ó bf (mv 0) (mv 4))) (î (Á (mv 1) (Á (mv 2) (Á (mv 3) Ë)))) [] (l.map λk=>.tup [.tup [.str k.1,.int k.2],hV (w k)]) [a,b,c,d,À (.str y)] s e=.ok (e++(l.filter λk=>decide (k.1=y)).map λk=>.tup [.int k.2,(w k).1.v,(w k).2.v]) s
 |[],a,b,c,d,e=>by rw[a_,jF];simp
 |x::r,a,b,c,d,e=>by
  have g:î (Á (mv 1) (Á (mv 2) (Á (mv 3) Ë))) [À (.str x.1),À (.int x.2),À (w x).1.v,À (w x).2.v,À (.str y)] s=.ok (.tup [.int x.2,(w x).1.v,(w x).2.v]) s:=by
   apply R.wp.eq;walk_at"w"
  by_cases f:x.1=y
  ·rw[Õ,nN (e1:=[À (.str x.1),À (.int x.2),À (w x).1.v,À (w x).2.v,À (.str y)]) rfl (eq_str (x:=x.1) (y:=y) rfl rfl (ó f)) g,nM w y s r,MK,ó f];simp
  ·rw[Õ,Bs (e1:=[À (.str x.1),À (.int x.2),À (w x).1.v,À (w x).2.v,À (.str y)]) rfl (eq_str (x:=x.1) (y:=y) rfl rfl (é f)),nM w y s r,MK,é f];rfl
def pZ:Pv×Pv:=(pN,pN)
def hD (V:Bo)(x:Str):Dt:=.lst (((sK V.hs).filter λk=>decide (k.1=x)).map λk=>.tup [.int k.2,((iY V.hs k).getD pZ).1.d,((iY V.hs k).getD pZ).2.d])
def rD (V:Bo):Dt:=.lst ((sK V.rs).map λk=>.tup [.str k.1,.int k.2,((iY V.rs k).getD pN).d])
def nD (V:Bo)(x:Str):Dt:=if x∈V.ms then (V.mf x).d else .Ě
def MZ (l:Â Dt)(xs:Â AV):Dt:=.lst ((zV (xs.map p8)).map λi=>l.getD i .Ě)
def told (V:Bo):Dt:=.lst ([.int V.h,.lst ((ŀ V.ps).map .str),.lst ((ŀ V.ws).map .str),.lst ((ŀ V.ws).map λx=>(V.rf x).d)]++[.lst ((ŀ V.ps).map (hD V)),.lst ((ŀ V.ws).map (nD V))]++[.lst ((ŀ V.ps).map λx=>(V.kf x).d),rD V]++[MZ (V.mn.map mD) (V.mn.map mE),MZ (V.db.map dD) (V.db.map dE)])
theorem bA.getD:∀{l:Â Dt}{xs:Â AV},bA b s l xs->∀i,Rp b s (l.getD i .Ě) (xs.getD i .Ě)
 |[],_,h,i=>by unfold bA at h;subst h;exact Ca s
 |_::_,_,h,0=>by unfold bA at h;obtain⟨x,r,rfl,a,_⟩:=h;exact a
 |_::_,_,h,i+1=>by unfold bA at h;obtain⟨x,r,rfl,_,c⟩:=h;exact bA.getD c i
section
variable {B:Nat}{V:Bo}{s:S}
def sG (h:Ŭ B V s)(l:((["keeps","rows","hands","makers","rates","half","money","debts"]:Â Str).any λf=>m == f)=false) (k:∃v e,F [.ref B,.str x] s=.ok v (s++e)/\Cl (s++e)/\Rp b (s++e) d v):Tl b (ē 9 m 1 F (mv 1) (Á (mv 0) Ë)) [À (.str x),À (.ref B)] s d:=by
 unfold Tl;rw[rK (v:=.str x) h l rfl rfl];exact k
def px (h:Ŭ B V s)(l:((["keeps","rows","hands","makers","rates","half","money","debts"]:Â Str).any λf=>m == f)=false) (k:∃v e,F [.ref B] s=.ok v (s++e)/\Cl (s++e)/\Rp b (s++e) d v):Tl b (ē 9 m 0 F (mv 0) Ë) (À (.ref B)::env) s d:=by
 unfold Tl;rw[u5 (vs:=[]) (n:=0) h l cJ rfl];exact k
def UO {r:R AV}(c:Cl s)(h:r=.ok v s)(k:Rp b s d v):∃v e,r=.ok v (s++e)/\Cl (s++e)/\Rp b (s++e) d v:=⟨v,[],by rw[ð];exact h,by rw[ð];exact c,by rw[ð];exact k⟩
def UP {r:R AV}(a:b<=s.length)(c:Cl s)(hl:l.length<=1000)(h:r=.ok (.ref s.length) (s++[.lst xs])) (k:bA b s l xs):∃v e,r=.ok v (s++e)/\Cl (s++e)/\Rp b (s++e) (.lst l) v:=⟨_,_,h,pb c k,yb a hl k⟩
def FC (h:Ŭ B V s)(a:x∈V.ws):∃v e,ŋ [.ref B,.str x] s=.ok v (s++e)/\Cl (s++e)/\Rp b (s++e) (V.rf x).d v:=by
 refine UO (v:=(V.rf x).v) h.cl ?_ (Pv.h _ _ _);unfold ŋ fi;exact dX (env:=[À (.ref B),À (.str x)]) ((á (fY h cJ iz a)).trans (by unfold ş;rw[(aP (op:=fZ) (dH h (kd B V.h)) iz).trans (MY (j' h) (yv a))];rfl))
def E2 (h:Ŭ B V s)(a:x∈V.ps):∃v e,Ŗ [.ref B,.str x] s=.ok v (s++e)/\Cl (s++e)/\Rp b (s++e) (V.kf x).d v:=by
 refine UO (v:=(V.kf x).v) h.cl ?_ (Pv.h _ _ _);unfold Ŗ fe;exact dX (env:=[À (.ref B),À (.str x)]) ((á (fX h cJ iz a)).trans (by unfold ş;rw[(aP (op:=fZ) (dH h (gw B V.h)) iz).trans (MY (gq h) (yv a))];rfl))
def BH (h:lA s i=À kvs):(jL "dict" (.ref i) s).isSome=true:=by
 have e:=mq h;unfold jL;simp only[e];rfl
def KL (h:lA s i=À kvs)(e1:d env s=.ok (.ref i) s) (a:y env s=.ok (.str x) s):z_ d y env s=.ok ((bE kvs (.inr x)).getD .Ě) s:=by
 obtain⟨u,b⟩:=bQ.mp (BH h);unfold z_;rw[e1,â,b,õ,a,â];show(need (lA s i) λkvs=>need (hI (.str x)) λk=>R.ok ((bE kvs k).getD .Ě) s)=_;rw[h];rfl
def BM (h:Ŭ B V s){x:Str}(c:x∈V.ws):∃v e,ň [.ref B,.str x] s=.ok v (s++e)/\Cl (s++e)/\Rp b (s++e) (nD V x) v:=by
 refine UO (v:=(bE (kT id (λp=>(V.mf p).v) V.ms) (.inr x)).getD .Ě) h.cl ?_ ?_
 ·unfold ň ey;exact dX (env:=[À (.ref B),À (.str x)]) ((á (fY h cJ iz c)).trans (by unfold ş;rw[KL (mr h) (dH h (my B V.h)) iz];rfl))
 ·unfold nD;by_cases a:x∈V.ms
  ·rw[Ì a,yv a];exact Pv.h _ _ _
  ·rw[Ö a,Jc a];exact Ca s
def BG (d:b<=s.length)(h:Ŭ B V s){x:Str}(f:x∈V.ps)(hl:V.hs.length<64):∃v e,Ň [.ref B,.str x] s=.ok v (s++e)/\Cl (s++e)/\Rp b (s++e) (hD V x) v:=by
 have g:=List.length_filter_le (λk:Str×Int=>decide (k.1=x)) (sK V.hs);rw[yj]at g;refine UP d (xs:=((sK V.hs).filter λk=>decide (k.1=x)).map λk=>.tup [.int k.2,((iY V.hs k).getD pZ).1.v,((iY V.hs k).getD pZ).2.v]) h.cl (by rw[Ê];lia) ?_ (bA.map λk _=>uA (by simp) (.cons (kr s _) (.cons (Pv.h _ _ _) (.one (Pv.h _ _ _)))));have a:=AB (oD h) hl pZ (dH (l:=[À (.str x)]) h (oF B V.h));have c:Ż [("giver",none),("day",none),("name",none),("part",none),("person",À 1)] (uF (i9 (aI (œ 9 "hands") (mv 0)))) (gT 2 (ß (gT 2 (ß (gN 0) (ß (gN 1) Ű))) (ß (gT 2 (ß (gN 2) (ß (gN 3) Ű))) Ű))) (cB (Ó bf (mv 0) (mv 4))) (î (Á (mv 1) (Á (mv 2) (Á (mv 3) Ë)))) [À (.ref B),À (.str x)] s=.ok (((sK V.hs).filter λk=>decide (k.1=x)).map λk=>.tup [.int k.2,((iY V.hs k).getD pZ).1.v,((iY V.hs k).getD pZ).2.v]) s:=by
  unfold Ż uF;rw[a,â,â];dsimp only;rw[Ì (qF (by rw[Ê,yj];lia))];have:=nM (λk=>(iY V.hs k).getD pZ) x s (sK V.hs) none none none none [];rw[aV]at this;exact this
 unfold Ň eo;exact dX (env:=[À (.ref B),À (.str x)]) ((á (fX h cJ iz f)).trans (by unfold ş;rw[bq c];rfl))
def Aw (d:b<=s.length)(h:Ŭ B V s)(hl:V.rs.length<64):∃v e,aZ [.ref B] s=.ok v (s++e)/\Cl (s++e)/\Rp b (s++e) (rD V) v:=by
 refine UP d (xs:=(sK V.rs).map λk=>.tup [.str k.1,.int k.2,((iY V.rs k).getD pN).v]) h.cl (by rw[Ê,yj];lia) ?_ (bA.map λk _=>uA (by simp) (.cons (l3 s _) (.cons (kr s _) (.one (Pv.h _ _ _)))));have a:=AB (lN h) hl pN (dH (l:=[]) h (jH B V.h));have c:Ż [("worth",none),("currency",none),("day",none)] (uF (i9 (aI (œ 9 "rates") (mv 0)))) (gT 2 (ß (gT 2 (ß (gN 1) (ß (gN 2) Ű))) (ß (gN 0) Ű))) jk (î (Á (mv 1) (Á (mv 2) (Á (mv 0) Ë)))) [À (.ref B)] s=.ok ((sK V.rs).map λk=>.tup [.str k.1,.int k.2,((iY V.rs k).getD pN).v]) s:=by
  unfold Ż uF;rw[a,â,â];dsimp only;rw[Ì (qF (by rw[Ê,yj];lia))];have:=s_ (λk=>((iY V.rs k).getD pN).v) s (sK V.rs) none none none [];rw[aV]at this;exact this
 unfold aZ fQ;exact dX (env:=[À (.ref B)]) (by unfold ş;rw[bq c];rfl)
def Hq (c:∀v∈xs,v.low b=true)(p:Â Nat):ĭ b (pick xs p)=true:=fw λv a=>by
 unfold pick at a;obtain⟨i,_,rfl⟩:=ŕ.mp a;rw[ĕ];cases e:xs[i]? with
 |none=>rfl
 |some w=>exact c w (Ā e)
def C0 (h:Ŭ B V s)(k:(vh B V.h).lookup f=À (.ref i)) (a:ö s i=À xs)(hd:xs.all qf=true)(hl:xs.length<64)(lo:∀v∈xs,v.low s.length=true):i_ (ě 1 aM (Á (aI (œ 9 f) (mv 0)) Ë)) [À (.ref B)] s=.ok (pick xs (zV (xs.map p8))) s:=
 uH (t:=[.lst (pick xs (zV (xs.map p8)))]) h.cl (Hq lo _) ((lL (dH h k)).trans (sY a hd hl h.t0)) (Ģ _ _) (Í _)
def DB (h:bA b s l xs)(hl:xs.length<64):((zV (xs.map p8)).map λi=>l.getD i .Ě).length<=1000/\bA b s ((zV (xs.map p8)).map λi=>l.getD i .Ě) (pick xs (zV (xs.map p8))):=by
 refine⟨?_,bA.map λi _=>bA.getD h i⟩;rw[Ê,(oO _).length_eq,jY,Ê];lia
def xP (d:b<=s.length)(h:Ŭ B V s)(hl:V.mn.length<64):∃v e,Ÿ [.ref B] s=.ok v (s++e)/\Cl (s++e)/\Rp b (s++e) (MZ (V.mn.map mD) (V.mn.map mE)) v:=by
 obtain⟨a,c⟩:=DB (s:=s) (l:=V.mn.map mD) (xs:=V.mn.map mE) (bA.map λx _=>uA (by simp) (.cons (l3 s _) (.cons (kr s _) (.cons (l3 s _) (.cons (kr s _) (.cons (kr s _) (.one (l3 s _)))))))) (by rw[Ê];exact hl);refine UP d h.cl a ?_ c;unfold Ÿ fh;exact dX (env:=[À (.ref B)]) (by unfold ş;rw[bq (C0 h (oG B V.h) (oU h) (Ht _) (by rw[Ê];exact hl) (λv f=>by obtain⟨x,_,rfl⟩:=ŕ.mp f;simp[mE,AV.low,ĭ]))];rfl)
def zu (f:b<=s.length)(h:Ŭ B V s)(hl:V.db.length<64):∃v e,ah [.ref B] s=.ok v (s++e)/\Cl (s++e)/\Rp b (s++e) (MZ (V.db.map dD) (V.db.map dE)) v:=by
 obtain⟨c,d⟩:=DB (s:=s) (l:=V.db.map dD) (xs:=V.db.map dE) (bA.map λx _=>uA (by simp) (.cons (l3 s _) (.cons (kr s _) (.cons (l3 s _) (.one (kr s _)))))) (by rw[Ê];exact hl);refine UP f h.cl c ?_ d;unfold ah fN;exact dX (env:=[À (.ref B)]) (by unfold ş;rw[bq (C0 h (zL B V.h) (z8 h) (by rw[Đ];intro v a;obtain⟨x,_,rfl⟩:=ŕ.mp a;rfl) (by rw[Ê];exact hl) (λv a=>by obtain⟨x,_,rfl⟩:=ŕ.mp a;simp[dE,AV.low,ĭ]))];rfl)
end
end Ro
set_option maxHeartbeats 400000
namespace Ro
open PySem L2 Mm
section
variable {B:Nat}{V:Bo}{s:S}
def PQ (h:r env s=.ok [v,w] s1):r3 i j r env s=.nx ((env.set i (À v)).set j (À w)) s1:=by
 unfold r3;rw[h];rfl
def Dp (h:lA s i=À (kT id g l)) (hl:l.length<64)(e:m env s=.ok (.ref i) s):qc m env s=.ok ((ŀ l).map AV.str) s:=by
 unfold qc;rw[e,â];dsimp only;rw[h,õ,Ja,õ,List.map_id,Ì hl]
def rZ (h:Ŭ B V s)(l:V.ps.length<64):Ş [.ref B] s=.ok (.ref s.length) (s++[.lst ((ŀ V.ps).map AV.str)]):=by
 unfold Ş dG;exact dX (env:=[À (.ref B)]) (by unfold ş;rw[bq (Dp (gq h) l (dH h (gw B V.h)))];rfl)
def vy (h:Ŭ B V s)(l:V.ws.length<64):Ź [.ref B] s=.ok (.ref s.length) (s++[.lst ((ŀ V.ws).map AV.str)]):=by
 unfold Ź fj;exact dX (env:=[À (.ref B)]) (by unfold ş;rw[bq (Dp (j' h) l (dH h (kd B V.h)))];rfl)
def Ol (h:Ŭ B V s):∃v e,ai [.ref B] s=.ok v (s++e)/\Cl (s++e)/\Rp b (s++e) (.int V.h) v:=by
 refine UO h.cl ?_ (kr s V.h);unfold ai fO;exact dX (env:=[À (.ref B)]) (by unfold ş;rw[dH h (KD B V.h)];rfl)
def oX:x∈ŀ l ↔ x∈l:=(ky l).mem_iff
def ph (s:S)(l:Â Str):bA b s (l.map Dt.str) (l.map AV.str):=bA.map λa _=>l3 s a
def Ct {q:Ms}(h:Tl b m env s d)(k:∀v e,Cl (s++e)->Rp b (s++e) d v->∃w a,q (env.set i (À v)) (s++e)=.rt w (s++e++a)/\Cl (s++e++a)/\Rp b (s++e++a) d' w):∃w a,ý (Š i m) q env s=.rt w (s++a)/\Cl (s++a)/\Rp b (s++a) d' w:=by
 obtain⟨v,e,j,l,n⟩:=h;obtain⟨w,a,c,f,g⟩:=k v e l n;rw[Ñ]at c f g;exact⟨w,e++a,(á (cN j)).trans c,f,g⟩
structure Td (c B:Nat)(V:Bo)(ip iw:Nat)(s:S):Prop where
 b:Ŭ B V s
 l:c<=s.length
 lp:c<=ip
 lw:c<=iw
 p:ö s ip=À ((ŀ V.ps).map AV.str)
 w:ö s iw=À ((ŀ V.ws).map AV.str)
theorem Td.app {q:Nat}(h:Td q B V a d s)(c:Cl (s++e)):Td q B V a d (s++e):=⟨h.b.app c,le_app h.l e,h.lp,h.lw,ĳ h.p,ĳ h.w⟩
structure RB (V:Bo):Prop where
 p:V.ps.length<64
 w:V.ws.length<64
 h:V.hs.length<64
 r:V.rs.length<64
 m:V.mn.length<64
 d:V.db.length<64
def AD (h:l.length<64):(ŀ l).length<=1000:=by rw[FI];lia
def wa (h:l.length<64)(f:Str->α):((ŀ l).map f).length<=1000:=by rw[Ê];exact AD h
def MU (I:b=s.length)(h:Ŭ B V s)(L:RB V):∃v e,ck [.ref B] s=.ok v (s++e)/\Cl (s++e)/\Rp b (s++e) (told V) v:=by
 have J:Cl (s++[.lst ((ŀ V.ps).map AV.str)]):=pb (b:=b) (l:=(ŀ V.ps).map Dt.str) h.cl (ph _ _);have H:=h.app J;have M:Cl (s++[.lst ((ŀ V.ps).map AV.str)]++[.lst ((ŀ V.ws).map AV.str)]):=pb (b:=b) (l:=(ŀ V.ws).map Dt.str) J (ph _ _);have O:=H.app M;have t2:Td b B V s.length (s++[AO.lst ((ŀ V.ps).map AV.str)]).length (s++[.lst ((ŀ V.ps).map AV.str)]++[.lst ((ŀ V.ws).map AV.str)]):=⟨O,by rw[I];simp,gg I,by rw[I];simp,ĳ (Ģ _ _),Ģ _ _⟩
 have N:Á (ē 9 "person_names" 0 Ş (mv 0) Ë) (Á (ē 9 "work_names" 0 Ź (mv 0) Ë) Ë) [À (.ref B),none,none,none] s=.ok [.ref s.length,.ref (s++[AO.lst ((ŀ V.ps).map AV.str)]).length] (s++[.lst ((ŀ V.ps).map AV.str)]++[.lst ((ŀ V.ws).map AV.str)]):=by
  unfold Á;rw[(u5 (m:="person_names") (vs:=[]) (n:=0) h (by decide+kernel) cJ rfl).trans (rZ h L.p),â,(u5 (m:="work_names") (vs:=[]) (n:=0) H (by decide+kernel) cJ rfl).trans (vy H L.w),â];rfl
 suffices k:∃w i,j7 [À (.ref B),none,none,none] s=.rt w (s++i)/\Cl (s++i)/\Rp b (s++i) (told V) w by
  obtain⟨w,e,D,E,F⟩:=k;exact⟨w,e,dX D,E,F⟩
 unfold j7;rw[á (PQ N)];rw[Ñ]at *
 generalize (s++[AO.lst ((ŀ V.ps).map AV.str)]).length=C at *
 generalize s.length=A at *
 generalize ([AO.lst ((ŀ V.ps).map AV.str)]++[AO.lst ((ŀ V.ws).map AV.str)])=Q at *
 clear N J H O h I;suffices k:∀s,Td b B V A C s->∃w i,(ý (Š 1 (ī (Ŵ (Á (ē 9 "half_days" 0 ai (mv 0) Ë) (Á (mv 2) (Á (mv 3) (Á (ī (Ż [("_law_work",none),("_law_book",À 0)] (aX (mv 3)) (gN 0) jk (ē 9 "rows_of" 1 ŋ (mv 1) (Á (mv 0) Ë)))) Ë))))))) _) [À (.ref B),none,À (.ref A),À (.ref C)] s=.rt w (s++i)/\Cl (s++i)/\Rp b (s++i) (told V) w by
  obtain⟨w,i,D,E,F⟩:=k _ t2;exact⟨w,Q++i,by rw[<-Ñ];exact D,by rw[<-Ñ];exact E,by rw[<-Ñ];exact F⟩
 clear M t2;intro s t;have T:=λ(s:S) (t:Td b B V A C s)=>B' (b:=b) (l:=(ŀ V.ps).map Dt.str) t.p t.lp (wa L.p _) (ph _ _);have rw_:=λ(s:S) (t:Td b B V A C s)=>B' (b:=b) (l:=(ŀ V.ws).map Dt.str) t.w t.lw (wa L.w _) (ph _ _);refine Ct (d:=.lst [.int V.h,.lst ((ŀ V.ps).map .str),.lst ((ŀ V.ws).map .str),.lst ((ŀ V.ws).map λx=>(V.rf x).d)]) (l9 t.l (by simp) (yr (by simp) (gf (px t.b (by decide+kernel) (Ol t.b)) λe c=>gf (pz c rfl (T _ (t.app c))) λi g=>gf (pz g rfl (rw_ _ ((t.app c).app g))) λP o=>gf (l9 (((t.app c).app g).app o).l (wa L.w _) (sF (((t.app c).app g).app o).w o (AD L.w) rfl λx u f j=>sG ((((t.app c).app g).app o).app j).b (by decide+kernel) (FC ((((t.app c).app g).app o).app j).b (oX.mp u)))) λ_ c=>yt c))) ?_;intro v e c r;have t:=t.app c;clear c;generalize s++e=s at t r⊢;refine Ct (d:=.lst ([.int V.h,.lst ((ŀ V.ps).map .str),.lst ((ŀ V.ws).map .str),.lst ((ŀ V.ws).map λx=>(V.rf x).d)]++[.lst ((ŀ V.ps).map (hD V)),.lst ((ŀ V.ws).map (nD V))])) (Cs t.l (by simp) (pz t.b.cl rfl r) λe c=>l9 (t.app c).l (by simp) (yr (by simp) (gf (l9 (t.app c).l (wa L.p _) (sF (t.app c).p c (AD L.p) rfl λx u f j=>sG ((t.app c).app j).b (by decide+kernel) (BG ((t.app c).app j).l ((t.app c).app j).b (oX.mp u) L.h))) λi g=>gf (l9 ((t.app c).app g).l (wa L.w _) (sF ((t.app c).app g).w g (AD L.w) rfl λx u f j=>sG (((t.app c).app g).app j).b (by decide+kernel) (BM (((t.app c).app g).app j).b (oX.mp u)))) λ_ c=>yt c))) ?_;intro v e c r;have t:=t.app c;clear c;generalize s++e=s at t r⊢;refine Ct (d:=.lst ([.int V.h,.lst ((ŀ V.ps).map .str),.lst ((ŀ V.ws).map .str),.lst ((ŀ V.ws).map λx=>(V.rf x).d)]++[.lst ((ŀ V.ps).map (hD V)),.lst ((ŀ V.ws).map (nD V))]++[.lst ((ŀ V.ps).map λx=>(V.kf x).d),rD V])) (Cs t.l (by simp) (pz t.b.cl rfl r) λe c=>l9 (t.app c).l (by simp) (yr (by simp) (gf (l9 (t.app c).l (wa L.p _) (sF (t.app c).p c (AD L.p) rfl λx u f j=>sG ((t.app c).app j).b (by decide+kernel) (E2 ((t.app c).app j).b (oX.mp u)))) λi g=>gf (px ((t.app c).app g).b (by decide+kernel) (Aw ((t.app c).app g).l ((t.app c).app g).b L.r)) λ_ c=>yt c))) ?_;intro v e c r;have t:=t.app c;clear c;generalize s++e=s at t r⊢;obtain⟨w,e,D,E,F⟩:=Cs (y:=ī (Ŵ (Á (ē 9 "money_list" 0 Ÿ (mv 0) Ë) (Á (ē 9 "debt_list" 0 ah (mv 0) Ë) Ë)))) (q:=[MZ (V.mn.map mD) (V.mn.map mE),MZ (V.db.map dD) (V.db.map dE)]) (env:=[À (.ref B),À v,À (.ref A),À (.ref C)]) (a:=mv 1) t.l (by simp) (pz t.b.cl rfl r) λe c=>l9 (t.app c).l (by simp) (yr (by simp) (gf (px (t.app c).b (by decide+kernel) (xP (t.app c).l (t.app c).b L.m)) λi g=>gf (px ((t.app c).app g).b (by decide+kernel) (zu ((t.app c).app g).l ((t.app c).app g).b L.d)) λ_ c=>yt c));exact⟨w,e,by unfold ş;exact(à (λz=>R.bM z λv s=>RS.rt v s) D),E,F⟩
end
end Ro
set_option maxHeartbeats 400000
namespace Ro
open PySem L2 Mm
def vX (h:ö s j=À (a::l)):Ċ (.ref j) (.int 0) s=.ok a s:=by
 show(need (ö s j) λxs=>need (lJ xs 0) λv=>R.ok v s)=_;rw[h,õ,show lJ (a::l) 0=À a from mj (j:=0) rfl];rfl
def vY (h:ö s j=À (a::b::l)):Ċ (.ref j) (.int 1) s=.ok b s:=by
 show(need (ö s j) λxs=>need (lJ xs 1) λv=>R.ok v s)=_;rw[h,õ,show lJ (a::b::l) 1=À b from mj (j:=1) rfl];rfl
def tu (h:r env s=.ok vs s)(hl:Nat.ble vs.length 1000=true):î r env s=.ok (.tup vs) s:=by
 unfold î;rw[h,â,Ì (qF (FT hl))]
def Gj (h:m env s=.ok v s)(k:g v env s=.nx e1 s1):m3 m g env s=.nx e1 s1:=by
 unfold m3;rw[h];exact k
structure Bx (s st:S)(i:Nat)(L:Â AV):Prop where
 ex:∃e,st=s++e
 le:s.length<=i
 at_:ö st i=À L
def Fin (s:S)(L:Â AV)(r:RS):Prop:=∃k e,r=.rt (.ref k) (s++e)/\s.length<=k/\ö (s++e) k=À L
def Gy (h:Bx s st i L)(c:r env st=.ok vs st)(hl:L.length+vs.length<=1000)(e:m env st=.ok (.ref i) st):∃j a,Ó ĸ m (ī (Ŵ r)) env st=.ok (.ref j) a/\Bx s a j (L++vs):=by
 obtain⟨⟨d,rfl⟩,f,at_⟩:=h;have b:=bq (ll c (by lia));refine⟨_,_,(aP e b).trans (p7 (ĳ at_) (Ģ _ _) (qF hl)),⟨_,by rw[Ñ,Ñ]⟩,by simp,Ģ _ _⟩
def sX (h:Bx s st i L)(v:AV):Bx s (st.set i (.lst (L++[v]))) i (L++[v]):=by
 obtain⟨⟨b,rfl⟩,a,at_⟩:=h;exact⟨⟨_,by rw[D' _ _ a]⟩,a,xM at_⟩
noncomputable abbrev Bc (a0 a1 a2 a3:AV)(o t f g:Str)(hd rt sd:Int)(i:Nat)(x y z:É AV):En:=[À a0,À a1,À a2,À a3,À (.ref i),À (.str o),À (.str t),À (.str f),À (.str g),À (.int hd),À (.int rt),À (.int sd),x,y,z]
section
variable {a0 a1 a2 a3:AV}{o t f g:Str}{hd rt sd:Int}{s st:S}{i:Nat}{L M vs:Â AV}{x y z:É AV}
def hR {rest:Ms}{r:gL}(h:Bx s st i L)(b:r (Bc a0 a1 a2 a3 o t f g hd rt sd i x y z) st=.ok vs st) (hl:L.length+vs.length<=1000)(k:∀j a,Bx s a j (L++vs)->Fin s M (rest (Bc a0 a1 a2 a3 o t f g hd rt sd j x y z) a)):Fin s M (ý (Š 4 (Ó ĸ (mv 4) (ī (Ŵ r)))) rest (Bc a0 a1 a2 a3 o t f g hd rt sd i x y z) st):=by
 obtain⟨j,a,e,c⟩:=Gy (m:=mv 4) h b hl rfl;rw[á (cN e)];exact k j a c
def QB {rest:Ms}{a:Ev}(h:Bx s st i L)(c:a (Bc a0 a1 a2 a3 o t f g hd rt sd i x y z) st=.ok v st) (hl:L.length<900)(k:∀b,Bx s b i (L++[v])->Fin s M (rest (Bc a0 a1 a2 a3 o t f g hd rt sd i x y z) b)):Fin s M (ý (ĥ (eN "list" a6 (mv 4) (Á a Ë))) rest (Bc a0 a1 a2 a3 o t f g hd rt sd i x y z) st):=by
 rw[á (sU h.at_ hl rfl c)];exact k _ (sX h v)
def QD {r:gL}(h:Bx s st i L)(c:r (Bc a0 a1 a2 a3 o t f g hd rt sd i x y z) st=.ok vs st) (hl:L.length+vs.length<=1000)(d:L++vs=M):Fin s M (ş (Ó ĸ (mv 4) (ī (Ŵ r))) (Bc a0 a1 a2 a3 o t f g hd rt sd i x y z) st):=by
 obtain⟨j,l,e,a⟩:=Gy (m:=mv 4) h c hl rfl;rw[d]at a;obtain⟨⟨b,rfl⟩,k,at_⟩:=a;exact⟨j,b,by unfold ş;rw[e];rfl,k,at_⟩
def QC {rest:Ms}{m:Ev}(h:Bx s st i L)(e:m (Bc a0 a1 a2 a3 o t f g hd rt sd i x y z) st=.ok (.tup [.tup [.int k1,.str w1,.int c1],.tup [.int k2,.str w2,.int c2],.tup [.int k3,.str w3,.int c3],.tup [.int k4,.str w4,.int c4]]) st) (hl:L.length<800)(k:∀a x y z,Bx s a i (L++[bk k1 w1 c1]++[bk k2 w2 c2]++[bk k3 w3 c3]++[bk k4 w4 c4])->Fin s M (rest (Bc a0 a1 a2 a3 o t f g hd rt sd i x y z) a)) :
  Fin s M (ý (qE (aX m) (gT 3 (ß (gN 12) (ß (gN 13) (ß (gN 14) Ű)))) (ĥ (eN "list" a6 (mv 4) (Á (î (Á (î (Á (mc (.str "back")) (Á (mv 12) (Á (mv 13) (Á (mv 14) (Á (mc (.int 1)) (Á (mc (.str "coin")) Ë))))))) (Á (mc (.str "NoneLeft")) Ë))) Ë)))) rest (Bc a0 a1 a2 a3 o t f g hd rt sd i x y z) st):=by
 have step:∀{L:Â AV}{st:S}{x y z:É AV}{l:Â AV}(k1:Int) (w1:Str) (c1:Int),ö st i=À L->L.length<900->forL (gT 3 (ß (gN 12) (ß (gN 13) (ß (gN 14) Ű)))) (ĥ (eN "list" a6 (mv 4) (Á (î (Á (î (Á (mc (.str "back")) (Á (mv 12) (Á (mv 13) (Á (mv 14) (Á (mc (.int 1)) (Á (mc (.str "coin")) Ë))))))) (Á (mc (.str "NoneLeft")) Ë))) Ë))) [] (.tup [.int k1,.str w1,.int c1]::l) (Bc a0 a1 a2 a3 o t f g hd rt sd i x y z) st=forL (gT 3 (ß (gN 12) (ß (gN 13) (ß (gN 14) Ű)))) (ĥ (eN "list" a6 (mv 4) (Á (î (Á (î (Á (mc (.str "back")) (Á (mv 12) (Á (mv 13) (Á (mv 14) (Á (mc (.int 1)) (Á (mc (.str "coin")) Ë))))))) (Á (mc (.str "NoneLeft")) Ë))) Ë))) [] l (Bc a0 a1 a2 a3 o t f g hd rt sd i (À (.int k1)) (À (.str w1)) (À (.int c1))) (st.set i (.lst (L++[bk k1 w1 c1]))):=λk1 w1 c1 b c=>oH (e1:=Bc a0 a1 a2 a3 o t f g hd rt sd i (À (.int k1)) (À (.str w1)) (À (.int c1))) rfl (sU b c rfl rfl);have b:=sX h (bk k1 w1 c1);have c:=sX b (bk k2 w2 c2);have d:=sX c (bk k3 w3 c3);have j:=sX d (bk k4 w4 c4);rw[á ((mz e).trans ((step k1 w1 c1 h.at_ (by lia)).trans ((step k2 w2 c2 b.at_ (by simp;lia)).trans ((step k3 w3 c3 c.at_ (by simp;lia)).trans ((step k4 w4 c4 d.at_ (by simp;lia)).trans xy)))))];exact k _ _ _ _ j
end
def Kd (h:ys≠[])(hl:xs.length+ys.length<=1000):ĸ (.tup xs) (.tup ys) s=.ok (.tup (xs++ys)) s:=Ì ⟨h,qF hl⟩
def Kk (d:ö s a=À (.str one::.str two::p)) (hw:ö s b=À (.str first::.str second::w)):∃k e,fR [.ref a,.ref b,.tup [.int hd,.int rt,.int sd]] s=.ok (.ref k) (s++e)/\s.length<=k/\ö (s++e) k=À (p5 one two first second hd rt sd):=by
 suffices q:Fin s (p5 one two first second hd rt sd) (j8 [À (.ref a),À (.ref b),À (.tup [.int hd,.int rt,.int sd]),none,none,none,none,none,none,none,none,none,none,none,none] s) by
  obtain⟨k,e,c,f,g⟩:=q;exact⟨k,e,dX c,f,g⟩
 unfold j8;have e1:î (Á (Ó Ċ (mv 0) (mc (.int 0))) (Á (Ó Ċ (mv 0) (mc (.int 1))) (Á (Ó Ċ (mv 1) (mc (.int 0))) (Á (Ó Ċ (mv 1) (mc (.int 1))) Ë)))) [À (.ref a),À (.ref b),À (.tup [.int hd,.int rt,.int sd]),none,none,none,none,none,none,none,none,none,none,none,none] s=.ok (.tup [.str one,.str two,.str first,.str second]) s:=
  tu (pc ((aP (v:=.ref a) (w:=.int 0) rfl rfl).trans (vX d)) (pc ((aP (v:=.ref a) (w:=.int 1) rfl rfl).trans (vY d)) (pc ((aP (v:=.ref b) (w:=.int 0) rfl rfl).trans (vX hw)) (pc ((aP (v:=.ref b) (w:=.int 1) rfl rfl).trans (vY hw)) pn)))) rfl
 rw[á (Gj e1 (e1:=[À (.ref a),À (.ref b),À (.tup [.int hd,.int rt,.int sd]),none,none,À (.str one),À (.str two),À (.str first),À (.str second),none,none,none,none,none,none]) (s1:=s) rfl)];rw[á (Gj (v:=.tup [.int hd,.int rt,.int sd]) rfl (e1:=[À (.ref a),À (.ref b),À (.tup [.int hd,.int rt,.int sd]),none,none,À (.str one),À (.str two),À (.str first),À (.str second),À (.int hd),À (.int rt),À (.int sd),none,none,none]) (s1:=s) rfl)];rw[á (cN (v:=.tup (kH one two)) rfl)];rw[á (cN (bq (ll (vs:=b1 one two first second) rfl (by simp[b1]))))];have c:Bx s (s++[.lst (b1 one two first second)]) s.length (b1 one two first second):=⟨⟨_,rfl⟩,Í _,Ģ _ _⟩
 generalize s++[AO.lst (b1 one two first second)]=st at c⊢;generalize s.length=i at c⊢;rw[show((([À (.ref a),À (.ref b),À (.tup [.int hd,.int rt,.int sd]),none,none,À (.str one),À (.str two),À (.str first),À (.str second),À (.int hd),À (.int rt),À (.int sd),none,none,none]:En).set 3 (À (.tup (kH one two)))).set 4 (À (.ref i)))=Bc (.ref a) (.ref b) (.tup [.int hd,.int rt,.int sd]) (.tup (kH one two)) one two first second hd rt sd i none none none from rfl];unfold p5;refine hR c (vs:=b2 one two first second) (by rfl) (by simp[b1,b2]) λi st h=>?_;refine hR h (vs:=b3 one two first second) ?_ (by simp[b1,b2,b3]) λi st h=>?_
 ·exact pc (tu (pc (tu (pc rfl (pc rfl (pc ((aP (v:=.tup (kH one two)) (w:=.tup [.tup [.str "left",.str "nobody",.tup [.int 1,.int 2]]]) rfl rfl).trans (Kd (by simp) (by simp[kH]))) pn))) rfl) (pc rfl pn)) rfl) pn
 refine QB h (v:=.tup [.tup [.str "rows",.str first,.tup (kH one two)],.str "TooMuch"]) (by rfl) (by simp[b1,b2,b3]) λst h=>?_;refine hR h (vs:=b5 one two first second hd) (by rfl) (by simp[b1,b2,b3,b5]) λi st h=>?_;refine hR h (vs:=b6 one two first second hd) (by rfl) (by simp[b1,b2,b3,b5,b6]) λi st h=>?_;refine hR h (vs:=b7 one two first second hd) (by rfl) (by simp[b1,b2,b3,b5,b6,b7]) λi st h=>?_;refine hR h (vs:=b8 one two first second) (by rfl) (by simp[b1,b2,b3,b5,b6,b7,b8]) λi st h=>?_;refine hR h (vs:=b9 one two first second rt) (by rfl) (by simp[b1,b2,b3,b5,b6,b7,b8,b9]) λi st h=>?_;refine hR h (vs:=Gn one two first second rt) (by rfl) (by simp[b1,b2,b3,b5,b6,b7,b8,b9,Gn]) λi st h=>?_;refine hR h (vs:=JP one two first second rt) (by rfl) (by simp[b1,b2,b3,b5,b6,b7,b8,b9,Gn,JP]) λi st h=>?_;refine hR h (vs:=Kf one two first second) (by rfl) (by simp[b1,b2,b3,b5,b6,b7,b8,b9,Gn,JP,Kf]) λi st h=>?_;refine QC h (k1:=sd+9) (w1:=first) (c1:=4) (k2:=sd) (w2:=first) (c2:=4) (k3:=sd-1) (w3:=first) (c3:=1) (k4:=0) (w4:=second) (c4:=1) (by rfl) (by simp[b1,b2,b3,b5,b6,b7,b8,b9,Gn,JP,Kf]) λst x y z h=>?_;refine hR h (vs:=NU one two first second) (by rfl) (by simp[b1,b2,b3,b5,b6,b7,b8,b9,Gn,JP,Kf,NU]) λi st h=>?_;refine hR h (vs:=Q8 one two first second) (by rfl) (by simp[b1,b2,b3,b5,b6,b7,b8,b9,Gn,JP,Kf,NU,Q8]) λi st h=>?_;exact QD h (vs:=RH rt) (by rfl) (by simp[b1,b2,b3,b5,b6,b7,b8,b9,Gn,JP,Kf,NU,Q8,RH]) (by simp[b4,UD])
end Ro
set_option maxHeartbeats 400000
namespace Ro
open PySem L2 Mm
noncomputable def je:Str:="b aa zebra c quartzes ab m knows d mm likes z ba abcdefgh y zz e x f g hh jj kk say"
open PySem.Builtin.Str in
def xS:Â Str:=partsBetween je (occurrences je " " 0 je.length (je.length+1)) (" ":Str).length
def HP:xS.length=24:=by decide+kernel
open PySem.Builtin.Str in
def Lv:(decide (je.length<(" ":Str).length)||decide (oi je<oi (" ":Str)))=false/\((" ":Str).length == 0)=false/\(occurrences je " " 0 je.length (je.length+1)).isEmpty=false/\je.length<=1000/\(partsBetween je (occurrences je " " 0 je.length (je.length+1)) (" ":Str).length).length<=1000:=by decide+kernel
def Mn (s:S):pa (.str "b aa zebra c quartzes ab m knows d mm likes z ba abcdefgh y zz e x f g hh jj kk say") [.str " "] s=.ok (xS.map AV.str) s:=Ì Lv
def Lu:([]++xS).Nodup:=by decide+kernel
def Lw:∀z∈xS,z.length<=1000/\z≠"nobody":=by
 have:(xS.all λz=>decide (z.length<=1000/\z≠"nobody"))=true:=by decide+kernel
 exact λz a=>ō (Đ.mp this z a)
def BZ (D:Dr c d n s)(H:n<=900000000)(k0:0<=k)(k1:k<=20):(bT [.ref d,.int k] s).wp λv s'=>∃(j:Nat) (a:Â Str),v=.ref j/\s.length<=j/\ö s' j=À (a.map AV.str)/\(a.length:Int)=k/\(∀z∈a,z∈xS)/\a.Nodup/\Dr c d (n+20) s'/\Gk c d s s':=by
 have L:=D.F1;have ld:=D.K1;unfold bT iB;simp?[↓MC,↓eW (Mn _),show ∀s:S,(jL "str" (.str "b aa zebra c quartzes ab m knows d mm likes z ba abcdefgh y zz e x f g hh jj kk say") s).isSome=true from λ_=>rfl];refine⟨⟨by lia,by lia⟩,qF (by simp[uz];lia),?_⟩;refine ml (λxs e f st=>∃(b a:Â Str) (x:É AV),e=a.map AV.str/\ö st s.length=À (b.map AV.str)/\(xs.length:Int)+a.length=k/\b.length+a.length=24/\(∀z∈b,z∈xS)/\(∀z∈a,z∈xS)/\(a++b).Nodup/\f=[x,À (.ref s.length),À (.ref d)]/\Dr c d (n+a.length) st/\Gk c d s st) ?_ ?_ ?_ _ _ _ _ ⟨xS,[],none,rfl,Ģ _ _,by simp[uz];lia,by rw[HP];rfl,λ_ h=>h,(λ_ h=>nomatch h),Lu,rfl,D.app (D.cl.add (by simp[AO.low,gA])),Gk.app c d s _⟩
 ·rintro _ _ _ st _ p E;cases E
 ·rintro e f st ⟨b,a,x,rfl,o,g,F,q,t,nd,rfl,A,B⟩;refine⟨st.length,a,rfl,B.len,Ģ _ _,by simpa using g,t,(de.mp nd).1,?_,B.trans (Gk.app c d st _)⟩;have g:((0:Nat):Int)+a.length=k:=g;exact(A.app (A.cl.add (by simp[AO.low,gA]))).mono (by lia)
 ·rintro v r e f st ⟨b,a,x,rfl,o,g,F,q,t,nd,rfl,A,B⟩;have g:((r.length+1:Nat):Int)+a.length=k:=g;simp?[xE o,↓eW (xH o),Ê];refine(take1 A).mono ?_;rintro _ i ⟨j,rfl,I,J,D2,C⟩;have u:=C.gk.lst (n:=0) (by lia) (by lia) o;obtain⟨m,rfl⟩:∃m:Nat,j=m:=⟨j.toNat,by lia⟩
  have l:m<b.length:=by lia
  have w:ra (.ref s.length) [.int m] i=.ok (.str b[m]) (i.set s.length (.lst ((b.eraseIdx m).map AV.str))):=by
   show(need (ö i s.length) λxs=>if 0<=(m:Int)/\(m:Int)<xs.length then need xs[(m:Int).toNat]? λy=>R.ok y (i.set s.length (.lst (xs.eraseIdx (m:Int).toNat)))else .bad)=_;rw[u,õ,Ì ⟨by lia,by rw[Ê];lia⟩];show(need (b.map AV.str)[m]? λy=>R.ok y (i.set s.length (.lst ((b.map AV.str).eraseIdx m))))=_;rw[ê,Å l];show R.ok (AV.str b[m]) _=_;rw[G0]
  rw[eW w];refine⟨b.eraseIdx m,a++[b[m]],_,by simp,xM u,by simp;lia,?_,λz hz=>q z (eX hz),λz hz=>?_,?_,rfl,?_,(B.trans C.gk).set (Í _)⟩
  ·rw[yx l];simp;lia
  ·rcases aU.mp hz with hz|hz
   ·exact t z hz
   ·rw[Ġ.mp hz];exact q _ (hX l)
  ·rw[Ñ];refine(List.Perm.append_left a ?_).nodup nd;exact(C5 b m l).symm
  ·exact(D2.mono (by simp;lia)).set (by lia) (by lia) (gA _ _)
structure LS (c d n B ip iw:Nat)(P W:Â Str)(V:Bo)(s:S):Prop where
 dr:Dr c d n s
 b:Ŭ B V s
 p:ö s ip=À (P.map AV.str)
 w:ö s iw=À (W.map AV.str)
 c0:0<c/\c<B
 d0:0<d/\d<B
 p0:ip<B/\ip≠c/\ip≠d
 w0:iw<B/\iw≠c/\iw≠d
section
variable {c d n m B ip iw:Nat}{P W:Â Str}{V V1:Bo}{s s':S}
theorem LS.app (h:LS c d n B ip iw P W V s)(k:Cl (s++e)):LS c d n B ip iw P W V (s++e):=⟨h.dr.app k,h.b.app k,ĳ h.p,ĳ h.w,h.c0,h.d0,h.p0,h.w0⟩
def LS.kp (h:LS c d n B ip iw P W V s)(k:Kp c d s s')(D:Dr c d m s'):LS c d m B ip iw P W V s':=by
 have a:=h.c0;have d0:=h.d0;exact⟨D,⟨h.b.at_.keep λi e _=>k.get i (by lia) (by lia),D.cl,(k.get 0 (by lia) (by lia)).trans h.b.t0,h.b.b0⟩,k.gk.lst (n:=0) h.p0.2.1 h.p0.2.2 h.p,k.gk.lst (n:=0) h.w0.2.1 h.w0.2.2 h.w,a,d0,h.p0,h.w0⟩
def Bb.lst (k:Bb B s s')(h:ö s i=À xs)(a:i<B∨B+8<=i):ö s' i=À xs:=by
 have e:=Ē h;exact f' ((k.get i (Æ.mp e).1 a).trans e)
def LS.Za (h:LS c d n B ip iw P W V s)(k:Bb B s s')(b:Ŭ B V1 s'):LS c d n B ip iw P W V1 s':=by
 have i:=h.dr.F1;have ld:=h.dr.K1;obtain⟨⟨t,a,e,f,g⟩,_⟩:=h.dr;exact⟨⟨⟨t,a,by rw[k.get d ld (.inl h.d0.2)];exact e,by rw[k.get c i (.inl h.c0.2)];exact f,g⟩,b.cl⟩,b,k.lst h.p (.inl h.p0.1),k.lst h.w (.inl h.w0.1),h.c0,h.d0,h.p0,h.w0⟩
end
def dP (x:Str):AV:=.tup [.str "person",.str x]
def dW (x:Str):AV:=.tup [.str "work",.str x]
theorem zt (c:u0 gs s)(t:Str):∀(l:Â Str) (a:É AV) (b:Â AV),bh (gN 0) jk (î (Á (mc (.str t)) (Á (mv 0) Ë))) gs (l.map AV.str) [a] s b=.ok (b++l.map λx=>.tup [.str t,.str x]) s
 |[],a,b=>by rw[a_,bh,Ì c];simp
 |x::r,a,b=>by
  rw[Õ,nN (e1:=[À (.str x)]) rfl rfl (show î (Á (mc (.str t)) (Á (mv 0) Ë)) [À (.str x)] s=.ok (.tup [.str t,.str x]) s from rfl) c,zt c t r];simp
def IV {l:Â Str}(h:ö s i=À (l.map AV.str)) (hl:l.length<64)(t:Str)(e:m env s=.ok (.ref i) s):ī (Ż [("_law_name",none)] (aX m) (gN 0) jk (î (Á (mc (.str t)) (Á (mv 0) Ë)))) env s=.ok (.ref s.length) (s++[.lst (l.map λx=>.tup [.str t,.str x])]):=by
 refine bq ?_;unfold Ż aX;rw[e,â];dsimp only;rw[h,õ,â];dsimp only;rw[Ì (qF (by rw[Ê];lia))];have:=zt (s:=s) (gs:=[(i,l.map AV.str)]) (λp a=>by rw[Ġ.mp a];exact h) t l none [];rw[aV]at this;exact this
theorem uB:∀(l ps:Â Str),(ps++l).Nodup->ps.length+l.length<64->Run (Vb (ps++l) []) r A->Run (Vb ps []) (l.map dP++r) A
 |[],ps,_,_,h=>by rw[ð]at h;exact h
 |x::l,ps,nd,hl,h=>by
  have a:x∉ps:=λz=>by
   rw[de]at nd;exact nd.2.2 x z x (.head _) rfl
  rw[Õ,cy];refine .cons (V1:=Vb (ps++[x]) []) (zB (V:=Vb ps []) (λz=>z.elim a (λz=>nomatch z)) (by show ps.length<64;lia) rfl) (uB l (ps++[x]) (by rw[Ñ];exact nd) (by simp at hl⊢;lia) (by rw[Ñ];exact h))
theorem wt (P:Â Str):∀(l ws:Â Str),(ws++l).Nodup->(∀x∈l,x∉P)->ws.length+l.length<64->Run (Vb P (ws++l)) r A->Run (Vb P ws) (l.map dW++r) A
 |[],ws,_,_,_,h=>by rw[ð]at h;exact h
 |x::l,ws,nd,a,hl,h=>by
  have b:x∉ws:=λz=>by
   rw[de]at nd;exact nd.2.2 x z x (.head _) rfl
  rw[Õ,cy];refine .cons (V1:=Vb P (ws++[x])) (EI (V:=Vb P ws) (λz=>z.elim (a x (.head _)) b) (by show ws.length<64;lia) rfl) (wt P l (ws++[x]) (by rw[Ñ];exact nd) (λy c=>a y (.tail _ c)) (by simp at hl⊢;lia) (by rw[Ñ];exact h))
def Md (N:Nm P W one two first second)(nd:(P++W).Nodup):Run (Vb [] []) (P.map dP++(W.map dW++C4 one two first second hd rt sd)) (VF P W one two first second hd rt sd):=by
 have n:=de.mp nd;refine uB P [] n.1 (by simpa using N.lp) ?_;rw[aV];refine wt P W [] n.2.1 (λx a z=>N.dj x z a) (by simpa using N.lw) ?_;rw[aV];exact start N
theorem Run.wp {V C:Bo}{s:S}{ds:Â AV}(h:LS c d n B y z P W V s){i:Nat}(E:i<B)(hd:i≠c/\i≠d)(hl:ö s i=À ds)(r:Run V ds C)(f g j m o q t x:É AV){N:En->S->Prop}{T:AV->S->Prop}(k:∀s' x,LS c d n B y z P W C s'->N [f,g,À (.ref i),À (.ref B),x,j,m,o,q,t] s'):(forL (gN 4) (ĥ (ě 2 Þ (Á (mv 3) (Á (mv 4) Ë)))) [(i,ds)] ds [f,g,À (.ref i),À (.ref B),x,j,m,o,q,t] s).wp N T:=by
 refine xA (λxs a st=>∃A x,Run A xs C/\LS c d n B y z P W A st/\ö st i=À ds/\a=[f,g,À (.ref i),À (.ref B),x,j,m,o,q,t]) ?_ ?_ ?_ _ _ _ ⟨V,x,r,h,hl,rfl⟩
 ·rintro _ _ st ⟨A,x,_,_,e,_⟩ p F;rw[Ġ.mp F];exact e
 ·rintro a st ⟨A,x,r,h,_,rfl⟩;cases r;exact k st x h
 ·rintro v l a st ⟨A,x,r,h,e,rfl⟩;cases r with
  |cons hd r=>
   obtain⟨H,D,b1,u⟩:=hd B st h.b;show(ĥ _ _ st).wp _ _;rw[i6 ((fm (v:=.ref B) (w:=v) rfl rfl).trans D)];exact⟨_,_,r,h.Za u b1,u.lst e (.inl E),rfl⟩
end Ro
set_option maxHeartbeats 400000
namespace Ro
open PySem L2 Mm
theorem oT:∀{l:Â AV}{v:AV},ĭ b l=true->v∈l->v.low b=true
 |[],_,_,h=>nomatch h
 |x::r,v,h,hv=>by
  simp only[ĭ,Ĉ]at h;rcases ò.mp hv with rfl|hv
  ·exact h.1
  ·exact oT h.2 hv
def MB (i j k:Nat)(a b c:Ev)(env:En)(s:S)(N:En->S->Prop)(T:AV->S->Prop):(Ay i j k (Á a (Á b (Á c Ë))) env s).wp N T=(a env s).wp λv s1=>(b env s1).wp λw d=>(c env d).wp λz e=>N (((env.set i (À v)).set j (À w)).set k (À z)) e:=by
 unfold Ay Á Ë;cases a env s with
 |ok v s1=>
  simp only[â,DU];cases b env s1 with
  |ok w d=>
   simp only[â,DU];cases c env d<;>rfl
  |ex c s1=>rfl
  |bad=>rfl
 |ex c s1=>rfl
 |bad=>rfl
structure By (s st:S)(i:Nat)(L:Â AV):Prop where
 bx:Bx s st i L
 cl:Cl st
noncomputable abbrev Es (d nl i ip iw:Nat)(x:É AV)(hd rt sd:Int):En:=[À (.ref d),À (.ref nl),À (.ref i),x,none,À (.ref ip),À (.ref iw),À (.int hd),À (.int rt),À (.int sd)]
def NW (h:By s st i L)(l:r env st=.ok vs st)(hl:L.length+vs.length<=1000)(o:∀b,ĭ b L=true)(d:∀b,ĭ b vs=true)(e:m env st=.ok (.ref i) st):∃j a,Ó ĸ m (ī (Ŵ r)) env st=.ok (.ref j) a/\By s a j (L++vs):=by
 obtain⟨⟨⟨c,rfl⟩,p,at_⟩,cl⟩:=h;have k:=bq (ll l (by lia));have f:Cl (s++c++[.lst vs]):=cl.add (by simp only[Ĩ,a9,AO.low,ae];exact d _);have g:Cl (s++c++[.lst vs]++[.lst (L++vs)]):=f.add (by
  simp only[Ĩ,a9,AO.low,ae];exact fw λv n=>(aU.mp n).elim (oT (o _)) (oT (d _)))
 exact⟨_,_,(aP e k).trans (p7 (ĳ at_) (Ģ _ _) (qF hl)),⟨⟨_,by rw[Ñ,Ñ]⟩,by simp,Ģ _ _⟩,g⟩
def yp {rest:Ms}{r:gL}{N:En->S->Prop}{T:AV->S->Prop}(h:By s st i L)(l:r (Es d g i c f none hd rt sd) st=.ok vs st) (hl:L.length+vs.length<=1000)(o:∀b,ĭ b L=true)(p:∀b,ĭ b vs=true)(k:∀j a,By s a j (L++vs)->(rest (Es d g j c f none hd rt sd) a).wp N T):(ý (Š 2 (Ó ĸ (mv 2) (ī (Ŵ r)))) rest (Es d g i c f none hd rt sd) st).wp N T:=by
 obtain⟨j,a,e,n⟩:=NW (m:=mv 2) h l hl o p rfl;rw[á (cN e)];exact k j a n
def sx (h:∀b,ĭ b l=true)(k:∀b,ĭ b q=true):∀b,ĭ b (l++q)=true:=λb=>fw λv a=>(aU.mp a).elim (oT (h b)) (oT (k b))
def sy (t:Str)(l:Â Str)(b:Nat):ĭ b (l.map λx=>AV.tup [.str t,.str x])=true:=fw λv a=>by
 obtain⟨x,_,rfl⟩:=ŕ.mp a;simp[AV.low,ĭ]
def Nl (h:ö s i=À xs):HV (.ref i) lo a s=.ok (.ref s.length) (s++[.lst (k9 xs lo a)]):=by
 show(need (ö s i) λxs=>R.ok (AV.ref s.length) (s++[.lst (k9 xs lo a)]))=_;rw[h];rfl
def Wa:∀{l:Â Str},(l.length:Int)=8->∃a b c d e f g h,l=[a,b,c,d,e,f,g,h]
 |[a,b,c,d,e,f,g,h],_=>⟨a,b,c,d,e,f,g,h,rfl⟩
 |[],z=>by simp at z
 |[_],z=>by simp at z
 |[_,_],z=>by simp at z
 |[_,_,_],z=>by simp at z
 |[_,_,_,_],z=>by simp at z
 |[_,_,_,_,_],z=>by simp at z
 |[_,_,_,_,_,_],z=>by simp at z
 |[_,_,_,_,_,_,_],z=>by simp at z
 |_::_::_::_::_::_::_::_::_::_,z=>by simp at z;lia
def RU {a b c d e f g h:Str}{k:Int}(k0:0<=k)(k1:k<3):∃p,k9 ([a,b,c,d,e,f,g,h].map AV.str) none (À (2+k))=(a::b::p).map AV.str/\(a::b::p).Sublist [a,b,c,d]:=by
 obtain rfl|rfl|rfl:k=0∨k=1∨k=2:=by lia
 ·exact⟨[],rfl,by simp⟩
 ·exact⟨[c],rfl,by simp⟩
 ·exact⟨[c,d],rfl,by simp⟩
def RV {a b c d e f g h:Str}{k:Int}(k0:0<=k)(k1:k<3):∃p,k9 ([a,b,c,d,e,f,g,h].map AV.str) (À 4) (À (6+k))=(e::f::p).map AV.str/\(e::f::p).Sublist [e,f,g,h]:=by
 obtain rfl|rfl|rfl:k=0∨k=1∨k=2:=by lia
 ·exact⟨[],rfl,by simp⟩
 ·exact⟨[g],rfl,by simp⟩
 ·exact⟨[g,h],rfl,by simp⟩
def SX {one two first second:Str}{p w l q:Â Str}(c:(one::two::p).Sublist l) (hw:(first::second::w).Sublist q) (nd:(l++q).Nodup) (hl:l.length=4)(g:q.length=4)(b:∀x∈l++q,x.length<=1000/\x≠"nobody"):Nm (one::two::p) (first::second::w) one two first second/\((one::two::p)++(first::second::w)).Nodup:=by
 have f:((one::two::p)++(first::second::w)).Nodup:=nd.sublist (c.append hw);have n:=de.mp f;have d:∀x,x∈one::two::p->x∈l++q:=λx a=>dN _ (c.subset a);have e:∀x,x∈first::second::w->x∈l++q:=λx a=>ğ _ (hw.subset a)
 refine⟨⟨.head _,.tail _ (.head _),.head _,.tail _ (.head _),λz=>(cY.mp n.1).1 (by rw[z];exact .head _),λz=>(cY.mp n.2.1).1 (by rw[z];exact .head _),λx a z=>n.2.2 x a x z rfl,λx a=>a.elim (λz=>(b x (d x z)).1) (λz=>(b x (e x z)).1),λz=>(b _ (d _ z)).2 rfl,λz=>(b _ (e _ z)).2 rfl,?_,?_⟩,f⟩
 ·have:=c.length_le;lia
 ·have:=hw.length_le;lia
section
variable {st:S}{d nl i ip iw:Nat}{x:É AV}{hd rt sd:Int}{a b:Str}{p:Â Str}
def N8 (h:ö st ip=À ((a::b::p).map AV.str)):Ó Ċ (mv 5) (mc (.int 0)) (Es d nl i ip iw x hd rt sd) st=.ok (.str a) st:=(aP (v:=.ref ip) (w:=.int 0) rfl rfl).trans (vX h)
def N9 (h:ö st ip=À ((a::b::p).map AV.str)):Ó Ċ (mv 5) (mc (.int 1)) (Es d nl i ip iw x hd rt sd) st=.ok (.str b) st:=(aP (v:=.ref ip) (w:=.int 1) rfl rfl).trans (vY h)
def Ky (h:ö st iw=À ((a::b::p).map AV.str)):Ó Ċ (mv 6) (mc (.int 0)) (Es d nl i ip iw x hd rt sd) st=.ok (.str a) st:=(aP (v:=.ref iw) (w:=.int 0) rfl rfl).trans (vX h)
def VJ (h:ö st iw=À ((a::b::p).map AV.str)):Ó Ċ (mv 6) (mc (.int 1)) (Es d nl i ip iw x hd rt sd) st=.ok (.str b) st:=(aP (v:=.ref iw) (w:=.int 1) rfl rfl).trans (vY h)
end
def By.lst (h:By s st i L)(k:ö s j=À xs):ö st j=À xs:=by
 obtain⟨⟨⟨e,rfl⟩,_,_⟩,_⟩:=h;exact ĳ k
def Ho (a:B+8<=b):(mid B (Vb [] [])).all (AO.low b)=true:=by
 simp[mid,Vb,AO.low,vh,kT,ĭ,AV.low];lia
def Cm (D:Dr c d n s)(hn:n<=1000)(t0:s[0]?=À (.tab 20 oQ)) (c0:0<c)(d0:0<d):(bU [.ref d] s).wp λv s'=>∃(B T U:Nat) (one two first second:Str) (p w:Â Str) (hd rt sd:Int),v=.tup [.ref B,.ref T,.ref U,.tup [.int hd,.int rt,.int sd]]/\Nm (one::two::p) (first::second::w) one two first second/\1<=rt/\1<=sd/\LS c d (n+40) B T U (one::two::p) (first::second::w) (VF (one::two::p) (first::second::w) one two first second hd rt sd) s':=by
 unfold bU iC;rw[WS.2.2.2.2.2.2.2.2.2.2.2.2.2.2.2.1];refine aF λK P=>?_;walk_at"w";refine(BZ D (by lia) (by lia) (by lia)).mono ?_;rintro _ s2 ⟨j,z,rfl,hj,l2,ln,nm,YA,D2,G2⟩;obtain⟨D3,K3,al⟩:=G2.cut D D2;simp?[l2,hj,al,gA];rw[P];clear P K;have t3:(s2.take s.length)[0]?=À (.tab 20 oQ):=by rw[K3.get 0 (by lia) (by lia)];exact t0
 generalize s2.take s.length=s3 at D3 K3 t3⊢;have lc3:=D3.F1;have ld3:=D3.K1;have D4:=D3.app (e:=[AO.lst (z.map AV.str)]) (D3.cl.add (by simp only[Ĩ,a9,AO.low,ae];exact gA _ _));have l4:=Ģ s3 (z.map AV.str);have t4:(s3++[AO.lst (z.map AV.str)])[0]?=À (.tab 20 oQ):=by rw[Ü (by lia)];exact t3
 have I:c≠s3.length/\d≠s3.length:=⟨by lia,by lia⟩
 generalize s3.length=nl at l4 I⊢;generalize s3++[AO.lst (z.map AV.str)]=s4 at D4 t4 l4⊢;clear D2 G2 l2 al D3 K3 t3 lc3 ld3 t0 D hj;obtain⟨na,k,nc,nd,o,u,ng,nh,rfl⟩:=Wa ln;refine aF λK P=>?_;walk_at"w";refine(take1 D4).mono ?_;rintro _ Z ⟨a,rfl,a0,a1,D5,K5⟩;have l5:=K5.gk.lst (n:=0) I.1.symm I.2.symm l4;have t5:Z[0]?=À (.tab 20 oQ):=(K5.get 0 (by lia) (by lia)).trans t4;obtain⟨p,ep,sp⟩:=RU (a:=na) (b:=k) (c:=nc) (d:=nd) (e:=o) (f:=u) (g:=ng) (h:=nh) a0 a1;walk_at"w";rw[eW (Nl l5),ep];have C:c≠Z.length/\d≠Z.length:=⟨by have:=D5.F1;lia,by have:=D5.K1;lia⟩
 have D6:=D5.app (e:=[AO.lst ((na::k::p).map AV.str)]) (D5.cl.add (by simp only[Ĩ,a9,AO.low,ae];exact gA _ _));have E:=Ģ Z ((na::k::p).map AV.str);have l6:=ĳ (e:=[AO.lst ((na::k::p).map AV.str)]) l5;have t6:(Z++[AO.lst ((na::k::p).map AV.str)])[0]?=À (.tab 20 oQ):=by rw[Ü (by have:=D5.F1;lia)];exact t5
 generalize Z.length=T at E C⊢;generalize Z++[AO.lst ((na::k::p).map AV.str)]=s6 at D6 E l6 t6⊢;clear D5 K5 l5 t5 D4 l4 t4 ep;refine(take1 D6).mono ?_;rintro _ s7 ⟨b,rfl,b0,b1,D7,K7⟩;have l7:=K7.gk.lst (n:=0) I.1.symm I.2.symm l6;have Yx:=K7.gk.lst (n:=0) C.1.symm C.2.symm E;have t7:s7[0]?=À (.tab 20 oQ):=(K7.get 0 (by lia) (by lia)).trans t6;obtain⟨w,ew,sw⟩:=RV (a:=na) (b:=k) (c:=nc) (d:=nd) (e:=o) (f:=u) (g:=ng) (h:=nh) b0 b1;walk_at"w";rw[eW (Nl l7),ew,P];clear P K;have J:c≠s7.length/\d≠s7.length:=⟨by have:=D7.F1;lia,by have:=D7.K1;lia⟩
 have D8:=D7.app (e:=[AO.lst ((o::u::w).map AV.str)]) (D7.cl.add (by simp only[Ĩ,a9,AO.low,ae];exact gA _ _));have H:=Ģ s7 ((o::u::w).map AV.str);have Y:=ĳ (e:=[AO.lst ((o::u::w).map AV.str)]) Yx;have t8:(s7++[AO.lst ((o::u::w).map AV.str)])[0]?=À (.tab 20 oQ):=by rw[Ü (by have:=D7.F1;lia)];exact t7
 generalize s7.length=U at H J⊢;generalize s7++[AO.lst ((o::u::w).map AV.str)]=s8 at D8 H Y t8⊢;clear D7 K7 l7 Yx t7 D6 E l6 t6 ew;obtain⟨N,nd2⟩:=SX (l:=[na,k,nc,nd]) (q:=[o,u,ng,nh]) sp sw YA rfl rfl (λx hx=>Lw x (nm x hx));clear sp sw YA nm ln;refine aF λK P=>?_;rw[MB];walk_at"w";refine(take1 D8).mono ?_;rintro _ s9 ⟨hd,rfl,h0,h1,D9,K9⟩;refine(take1 D9).mono ?_;rintro _ s10 ⟨r,rfl,r0,r1,D10,K10⟩;walk_at"w";refine(take1 D10).mono ?_;rintro _ A ⟨q,rfl,q0,q1,F,K11⟩;have K:=(K9.trans K10).trans K11;have H:=K.gk.lst (n:=0) J.1.symm J.2.symm H;have E:=K.gk.lst (n:=0) C.1.symm C.2.symm Y;have t:=(K.get 0 (by lia) (by lia)).trans t8;walk_at"w";rw[P];clear P Y D8 D9 D10 K9 K10 K11 K t8 h0 h1 r1 q1;have r1:1<=1+r:=by lia
 have q1:1<=1+q:=by lia
 generalize 1+r=rt at r1⊢;generalize 1+q=sd at q1⊢;have l64p:=N.lp;have l64w:=N.lw;have c1:Cl (A++[.lst ((na::k::p).map dP)]):=F.cl.add (by simp only[Ĩ,a9,AO.low,ae];exact sy _ _ _);have c2:Cl (A++[.lst ((na::k::p).map dP)]++[.lst ((o::u::w).map dW)]):=c1.add (by simp only[Ĩ,a9,AO.low,ae];exact sy _ _ _);have M:∀b,ĭ b ((na::k::p).map dP++(o::u::w).map dW)=true:=sx (sy _ _) (sy _ _);have c3:Cl (A++[.lst ((na::k::p).map dP)]++[.lst ((o::u::w).map dW)]++[.lst ((na::k::p).map dP++(o::u::w).map dW)]):=c2.add (by simp only[Ĩ,a9,AO.low,ae];exact M _);have e2:=(aP (op:=ĸ) (env:=[À (.ref d),À (.ref nl),none,none,none,À (.ref T),À (.ref U),À (.int hd),À (.int rt),À (.int sd)]) (IV (m:=mv 5) E l64p "person" rfl) (IV (m:=mv 6) (ĳ H) l64w "work" rfl)).trans (p7 (ĳ (Ģ _ _)) (Ģ _ _) (qF (by rw[Ê,Ê];lia)));rw[show(λx:Str=>AV.tup [AV.str "person",.str x])=dP from rfl,show(λx:Str=>AV.tup [AV.str "work",.str x])=dW from rfl]at e2;rw[á (cN e2)];have Q:By A (A++[.lst ((na::k::p).map dP)]++[.lst ((o::u::w).map dW)]++[.lst ((na::k::p).map dP++(o::u::w).map dW)]) (A++[AO.lst ((na::k::p).map dP)]++[AO.lst ((o::u::w).map dW)]).length ((na::k::p).map dP++(o::u::w).map dW):=⟨⟨⟨_,by rw[Ñ,Ñ]⟩,by simp,Ģ _ _⟩,c3⟩
 clear c1 c2 c3 e2;generalize (A++[AO.lst ((na::k::p).map dP)]++[AO.lst ((o::u::w).map dW)]).length=i at Q⊢;generalize A++[AO.lst ((na::k::p).map dP)]++[AO.lst ((o::u::w).map dW)]++[AO.lst ((na::k::p).map dP++(o::u::w).map dW)]=st at Q⊢;have lz:((na::k::p).map dP++(o::u::w).map dW).length<200:=by rw[ć,Ê,Ê];lia
 generalize hL:(na::k::p).map dP++(o::u::w).map dW=L at Q M lz⊢;refine yp Q (vs:=[.tup [.str "rows",.str o,.tup (wq na u)],.tup [.str "half",.int 30]]) ?_ (by simp;lia) M (λb=>by simp[AV.low,ĭ,wq]) λi st y=>?_
 ·exact pc (tu (pc rfl (pc (Ky (Q.lst H)) (pc (tu (pc (tu (pc rfl (pc (N8 (Q.lst E)) (pc rfl pn))) rfl) (pc (tu (pc rfl (pc (VJ (Q.lst H)) (pc rfl pn))) rfl) pn)) rfl) pn))) rfl) (pc rfl pn)
 clear Q;have lo1:=sx M (λb=>show ĭ b [.tup [.str "rows",.str o,.tup (wq na u)],.tup [.str "half",.int 30]]=true by simp[AV.low,ĭ,wq]);refine yp y (vs:=[.tup [.str "hand",.str na,.int hd,.str k,.tup [.int 1,.int 2]],.tup [.str "known",.str o,.int 3,.str k]]) ?_ (by simp;lia) lo1 (λb=>by simp[AV.low,ĭ]) λi st y2=>?_
 ·exact pc (tu (pc rfl (pc (N8 (y.lst E)) (pc rfl (pc (N9 (y.lst E)) (pc rfl pn))))) rfl) (pc (tu (pc rfl (pc (Ky (y.lst H)) (pc rfl (pc (N9 (y.lst E)) pn)))) rfl) pn)
 clear y;have X:=sx lo1 (λb=>show ĭ b [.tup [.str "hand",.str na,.int hd,.str k,.tup [.int 1,.int 2]],.tup [.str "known",.str o,.int 3,.str k]]=true by simp[AV.low,ĭ]);refine yp y2 (vs:=[.tup [.str "rate",.str "usd",.int rt,.tup [.int 2,.int 3]],.tup [.str "keep",.str k,.tup [.int 1,.int 4]],.tup [.str "debt",.str "wrong",.int 5,.str na,.int 7]]) ?_ (by simp;lia) X (λb=>by simp[AV.low,ĭ]) λi st y3=>?_
 ·exact pc rfl (pc (tu (pc rfl (pc (N9 (y2.lst E)) (pc rfl pn))) rfl) (pc (tu (pc rfl (pc rfl (pc rfl (pc (N8 (y2.lst E)) (pc rfl pn))))) rfl) pn))
 clear y2;have Yw:=sx X (λb=>show ĭ b [.tup [.str "rate",.str "usd",.int rt,.tup [.int 2,.int 3]],.tup [.str "keep",.str k,.tup [.int 1,.int 4]],.tup [.str "debt",.str "wrong",.int 5,.str na,.int 7]]=true by simp[AV.low,ĭ]);refine yp y3 (vs:=[.tup [.str "sold",.int sd,.str o,.int 5,.int 90,.str "coin"],.tup [.str "back",.int (sd+4),.str o,.int 2,.int 1,.str "coin"]]) ?_ (by simp;lia) Yw (λb=>by simp[AV.low,ĭ]) λi st O=>?_
 ·exact pc (tu (pc rfl (pc rfl (pc (Ky (y3.lst H)) (pc rfl (pc rfl (pc rfl pn)))))) rfl) (pc (tu (pc rfl (pc rfl (pc (Ky (y3.lst H)) (pc rfl (pc rfl (pc rfl pn)))))) rfl) pn)
 clear y3 lo1 X Yw M;have Yk:L++[.tup [.str "rows",.str o,.tup (wq na u)],.tup [.str "half",.int 30]]++[.tup [.str "hand",.str na,.int hd,.str k,.tup [.int 1,.int 2]],.tup [.str "known",.str o,.int 3,.str k]]++[.tup [.str "rate",.str "usd",.int rt,.tup [.int 2,.int 3]],.tup [.str "keep",.str k,.tup [.int 1,.int 4]],.tup [.str "debt",.str "wrong",.int 5,.str na,.int 7]]++[.tup [.str "sold",.int sd,.str o,.int 5,.int 90,.str "coin"],.tup [.str "back",.int (sd+4),.str o,.int 2,.int 1,.str "coin"]]=(na::k::p).map dP++((o::u::w).map dW++C4 na k o u hd rt sd):=by
  rw[<-hL];simp[C4]
 rw[Yk]at O;clear Yk hL lz;have cB:Cl (st++mid st.length (Vb [] [])):=O.cl.add (Ho (Í _));have l1:=O.lst E;have l2:=O.lst H;have la:=O.bx.at_;have le:=O.bx.le;have lt:=(Æ.mp (Ē la)).1;have Dst:Dr c d (n+40) st:=by
  have cl:=O.cl;obtain⟨⟨⟨e,rfl⟩,_,_⟩,_⟩:=O;exact(F.app cl).mono (by lia)
 have YO:st[0]?=À (.tab 20 oQ):=by
  obtain⟨⟨⟨e,rfl⟩,_,_⟩,_⟩:=O;rw[Ü (by have:=F.F1;lia)];exact t
 have lc:=F.F1;have ld:=F.K1;have llp:=(Æ.mp (Ē E)).1;have llw:=(Æ.mp (Ē H)).1;have lsl:A.length<=st.length:=by
  obtain⟨⟨⟨e,rfl⟩,_,_⟩,_⟩:=O;simp
 have ls:LS c d (n+40) st.length T U (na::k::p) (o::u::w) (Vb [] []) (st++mid st.length (Vb [] [])):=⟨Dst.app cB,⟨At.new _ _,cB,by rw[Ü (by lia)];exact YO,by lia⟩,ĳ l1,ĳ l2,⟨c0,by lia⟩,⟨d0,by lia⟩,⟨by lia,C.1.symm,C.2.symm⟩,⟨by lia,J.1.symm,J.2.symm⟩⟩
 have em:=K2 st (Es d nl i T U none hd rt sd);rw[á (cN em)];have la:=ĳ (e:=mid st.length (Vb [] [])) la;rw[show[AO.ins 9 (vh st.length 182),.dK [],.dK [],.dT [],.dK [],.dT [],.lst [],.lst []]=mid st.length (Vb [] [])from rfl];generalize st++mid st.length (Vb [] [])=s12 at ls la⊢;have hic:i≠c/\i≠d:=⟨by lia,by lia⟩
 clear em O Dst YO cB l1 l2 lc ld llp llw lsl E H F t;generalize st.length=B at ls lt⊢;refine aF λK P=>?_;simp?[↓eW (Jd la)];refine Run.wp ls lt hic la (Md N nd2) _ _ _ _ _ _ _ _ ?_;intro s' x ls';rw[P];walk_at"w";exact⟨qF (by simp),B,T,U,na,k,o,u,p,w,hd,rt,sd,rfl,N,r1,q1,ls'⟩
end Ro
set_option maxHeartbeats 400000
namespace Mm
open PySem L2
mutual
theorem Rp.zero:∀{d:Dt}{v:AV},Rp b s d v->Rp 0 s d v
 |.Ě,_,h=>by unfold Rp at h⊢;exact h
 |.bl _,_,h=>by unfold Rp at h;exact h.elim
 |.int _,_,h=>by unfold Rp at h⊢;exact h
 |.str _,_,h=>by unfold Rp at h⊢;exact h
 |.tup l,_,h=>by
  unfold Rp at h⊢;obtain⟨xs,e,hl,h⟩:=h;exact⟨xs,e,hl,bA.zero h⟩
 |.lst l,_,h=>by
  unfold Rp at h⊢;obtain⟨i,xs,e,_,a,hl,h⟩:=h;exact⟨i,xs,e,ĩ _,a,hl,bA.zero h⟩
theorem bA.zero:∀{l:Â Dt}{xs:Â AV},bA b s l xs->bA 0 s l xs
 |[],_,h=>by unfold bA at h⊢;exact h
 |_::_,_,h=>by
  unfold bA at h⊢;obtain⟨x,r,e,a,c⟩:=h;exact⟨x,r,e,Rp.zero a,bA.zero c⟩
end
mutual
theorem Rp.up (k:∀i xs,b<=i->ö s i=À xs->ö s' i=À xs):∀{d:Dt}{v:AV},Rp b s d v->Rp b s' d v
 |.Ě,_,h=>by unfold Rp at h⊢;exact h
 |.bl _,_,h=>by unfold Rp at h;exact h.elim
 |.int _,_,h=>by unfold Rp at h⊢;exact h
 |.str _,_,h=>by unfold Rp at h⊢;exact h
 |.tup l,_,h=>by
  unfold Rp at h⊢;obtain⟨xs,e,hl,h⟩:=h;exact⟨xs,e,hl,bA.up k h⟩
 |.lst l,_,h=>by
  unfold Rp at h⊢;obtain⟨i,xs,e,a,c,hl,h⟩:=h;exact⟨i,xs,e,a,k i xs a c,hl,bA.up k h⟩
theorem bA.up (k:∀i xs,b<=i->ö s i=À xs->ö s' i=À xs):∀{l:Â Dt}{xs:Â AV},bA b s l xs->bA b s' l xs
 |[],_,h=>by unfold bA at h⊢;exact h
 |_::_,_,h=>by
  unfold bA at h⊢;obtain⟨x,r,e,a,c⟩:=h;exact⟨x,r,e,Rp.up k a,bA.up k c⟩
end
def zw (h:∀d∈l,d.dep<=m):bZ l<=m:=by
 induction l with
 |nil=>simp[bZ]
 |cons a r b=>
  simp only[bZ];exact YV.mpr ⟨h a (.head _),b λd hd=>h d (.tail _ hd)⟩
def gu {f:α->Dt}(h:∀x,(f x).dep<=m) (l:Â α):bZ (l.map f)<=m:=zw λd hd=>by
 obtain⟨x,_,rfl⟩:=ŕ.mp hd;exact h x
end Mm
namespace Ro
open PySem L2 Mm
def GX {l:Â Dt}(h:∀d∈l,d.dep<=1)(xs:Â AV):(MZ l xs).dep<=2:=by
 unfold MZ;simp only[Dt.dep];have:=gu (f:=λi=>l.getD i .Ě) (m:=1) (λi=>by
  rw[ĕ];cases e:l[i]? with
  |none=>simp[Dt.dep]
  |some d=>exact h d (Ā e)) (zV (xs.map p8))
 lia
def IW (P W:Â Str)(one two first second:Str)(hd rt sd:Int):(told (VF P W one two first second hd rt sd)).dep<9:=by
 have b:∀x,((VF P W one two first second hd rt sd).rf x).d.dep<=3:=λx=>by
  show(if x=first then DG one second else pT [] (by simp)).d.dep<=3;split<;>simp[DG,pT,pS,pF,pI,Dt.dep,bZ]
 have c:∀x,(hD (VF P W one two first second hd rt sd) x).dep<=3:=λx=>by
  unfold hD;simp only[Dt.dep];have:=gu (m:=2) (f:=λk=>Dt.tup [.int k.2,((iY (VF P W one two first second hd rt sd).hs k).getD pZ).1.d,((iY (VF P W one two first second hd rt sd).hs k).getD pZ).2.d]) (λk=>by
   rw[show iY (VF P W one two first second hd rt sd).hs k=if (one,hd)=k then À (pS two,pF 1 2)else none by
    unfold iY
    show(Xx _ [((one,hd),(pS two,pF 1 2))]).map _=_
    by_cases h:(one,hd)=k
    ·rw[Ì h,Ś,ó h];rfl
    ·rw[Ö h,Ś,é h];rfl]
   split<;>simp[pZ,pN,pS,pF,pT,pI,Dt.dep,bZ]) ((sK (VF P W one two first second hd rt sd).hs).filter λk=>decide (k.1=x))
  lia
 have e:∀x,(nD (VF P W one two first second hd rt sd) x).dep<=3:=λx=>by
  unfold nD;split
  ·show((if x=first then pT [pI 3,pS two] (by simp)else pN).d).dep<=3;split<;>simp[pT,pS,pI,pN,Dt.dep,bZ]
  ·simp[Dt.dep]
 have g:∀x,((VF P W one two first second hd rt sd).kf x).d.dep<=3:=λx=>by
  show((if x=two then pF 1 4 else pF 0 1).d).dep<=3;split<;>simp[pF,pT,pI,Dt.dep,bZ]
 have i:(rD (VF P W one two first second hd rt sd)).dep<=3:=by
  unfold rD;simp only[Dt.dep];have:=gu (m:=2) (f:=λk=>Dt.tup [.str k.1,.int k.2,((iY (VF P W one two first second hd rt sd).rs k).getD pN).d]) (λk=>by
   rw[show iY (VF P W one two first second hd rt sd).rs k=if ((("usd":Str),rt):Str×Int)=k then À (pF 2 3)else none by
    unfold iY
    show(Xx _ [((("usd":Str),rt),pF 2 3)]).map _=_
    by_cases h:((("usd":Str),rt):Str×Int)=k
    ·rw[Ì h,Ś,ó h];rfl
    ·rw[Ö h,Ś,é h];rfl]
   split<;>simp[pN,pF,pT,pI,Dt.dep,bZ]) (sK (VF P W one two first second hd rt sd).rs)
  lia
 have j:=GX (l:=(VF P W one two first second hd rt sd).mn.map mD) (λd h=>by
  obtain⟨x,_,rfl⟩:=ŕ.mp h;simp[mD,Dt.dep,bZ]) ((VF P W one two first second hd rt sd).mn.map mE)
 have n:=GX (l:=(VF P W one two first second hd rt sd).db.map dD) (λd h=>by
  obtain⟨x,_,rfl⟩:=ŕ.mp h;simp[dD,Dt.dep,bZ]) ((VF P W one two first second hd rt sd).db.map dE)
 have a:=λl=>gu (f:=Dt.str) (m:=3) (λ_=>by simp[Dt.dep]) l;have k:∀{l:Â Dt},bZ l<=3->(Dt.lst l).dep<=4:=λh=>by simp only[Dt.dep];lia
 refine bz (u7 (zw (m:=4) λd hd=>?_)) (show 5<9 by lia);simp only[cy,aV,ò,bg,nF]at hd;rcases hd with rfl|rfl|rfl|rfl|rfl|rfl|rfl|rfl|rfl|rfl
 ·simp[Dt.dep]
 ·exact k (a _)
 ·exact k (a _)
 ·exact k (gu b _)
 ·exact k (gu c _)
 ·exact k (gu e _)
 ·exact k (gu g _)
 ·lia
 ·lia
 ·lia
end Ro
set_option maxHeartbeats 400000
namespace Ro
open PySem L2 Mm
def Pl (p:AV):Prop:=(∃d,(∀s,toD 19 s p=À d)/\d.dep<=10)/\∀b,p.low b=true
theorem DD {s:S}:∀{l:Â AV},(∀p∈l,Pl p)->∃ds,l.mapM (toD 19 s)=À ds/\ds.length=l.length/\bZ ds<=10
 |[],_=>⟨[],rfl,rfl,by simp[bZ]⟩
 |v::r,h=>by
  obtain⟨⟨d,a,b⟩,_⟩:=h v (.head _);obtain⟨ds,c,e,f⟩:=DD (s:=s) λp g=>h p (.tail _ g);exact⟨d::ds,by rw[yy,a s,c];rfl,by simp[e],by simp only[bZ];exact YV.mpr ⟨b,f⟩⟩
def Kw (d:ö s i=À xs)(e:ö s j=À [])(f:∀p∈xs,Pl p):zE s (.ref i) (.ref j)=À xs.isEmpty:=by
 obtain⟨a,c,b,g⟩:=DD (s:=s) f;have t1:toD 20 s (.ref i)=À (.lst a):=by
  simp only[toD,d,b_,c,ir]
 have t2:toD 20 s (.ref j)=À (.lst []):=by
  simp only[toD,e,b_,AM];rfl
 unfold zE;simp only;rw[t1,t2];dsimp only;rw[Ì (by lia)];congr 1;cases xs with
 |nil=>cases a with
  |nil=>simp[gW]
  |cons=>cases b
 |cons=>cases a with
  |nil=>cases b
  |cons=>simp[gW]
def Ko (h:ö st k=À L)(b:∀p∈L,Pl p)(e:∀s,mv 3 env s=.ok (.ref k) s):KJ (cB (Ó iW (mv 3) (ī (Ŵ Ë)))) env st=.ok (!L.isEmpty) st:=by
 have a:cB (Ó iW (mv 3) (ī (Ŵ Ë))) env st=.ok (!L.isEmpty) (st++[.lst []]):=by
  unfold cB;rw[aP (e st) (bq (ll pn (by simp)))];unfold iW;rw[Kw (ĳ h) (Ģ _ _) b];rfl
 unfold KJ;rw[a,â];exact Ì f7
def CQ (one two first second:Str)(hd rt sd:Int):∀p∈p5 one two first second hd rt sd,Pl p:=by
 unfold p5 b1 b2 b3 b4 b5 b6 b7 b8 b9 Gn JP Kf UD NU Q8 RH kH
 repeat first
  |refine bR ?_ ?_
  |refine all_cons ⟨⟨_,λ_=>rfl,FT rfl⟩,λb=>by simp[AV.low,ĭ,hT,kN,bk,vu]⟩ ?_
  |exact λ_ z=>nomatch z
section
variable {c d n m B ip iw:Nat}{P W:Â Str}{V V1:Bo}{s s':S}
theorem LS.set (h:LS c d n B ip iw P W V s)(q:B+8<=i)(lo:o.low s.length=true):LS c d n B ip iw P W V (s.set i o):=by
 have f:=h.c0;have d0:=h.d0;have k:=h.p0;have l:=h.w0;have e:=h.b.b0;have g:∀j,j<B+8->(s.set i o)[j]?=s[j]?:=λj a=>ì (by lia);have D:=h.dr.set (i:=i) (by lia) (by lia) lo;exact⟨D,⟨h.b.at_.keep λj _ a=>g j a,D.cl,(g 0 (by lia)).trans h.b.t0,e⟩,f' ((g ip (by lia)).trans (Ē h.p)),f' ((g iw (by lia)).trans (Ē h.w)),f,d0,k,l⟩
theorem LS.mono (h:LS c d n B ip iw P W V s)(k:n<=m):LS c d m B ip iw P W V s:=⟨h.dr.mono k,h.b,h.p,h.w,h.c0,h.d0,h.p0,h.w0⟩
end
def Fc {L:Â AV}(h:∀p∈L,Pl p)(j b:Nat):(AO.lst (L.eraseIdx j)).low b=true:=fw λv a=>(h v (eX a)).2 b
def Jh {m:RS}{g:En->S->RS}{N:En->S->Prop}{T:AV->S->Prop}(h:m.wp (λe a=>(g e a).wp N T) T):(match m with
   |.nx e a=>g e a
   |.ct e a=>g e a
   |.bk e a=>.nx e a
   |r=>r).wp N T:=by
 cases m with
 |nx e s=>exact h
 |rt v s=>exact h
 |_=>exact h.elim
abbrev lC:Eb:=KJ (cB (Ó iW (mv 3) (ī (Ŵ Ë))))
abbrev lT:Eb:=FZ (cB (Ó iW (ě 2 ţ (Á (mv 5) (Á (mv 9) Ë))) (mv 10))) (p6 (cT (ě 2 (đ 9) (Á (ě 1 ck (Á (mv 5) Ë)) (Á (mv 2) Ë)))))
abbrev lB:Ms:=ý (m3 (eN "list" ra (mv 3) (Á (ě 2 Ţ (Á (mv 1) (Á (A2 kI (Á (mv 3) Ë)) Ë))) Ë)) (gT 2 (ß (gN 9) (ß (gN 10) Ű)))) (gb lT (ş (mc (.bl false))) aN)
noncomputable abbrev El (x0:É AV)(d:Nat)(va:AV)(k B ip iw:Nat)(dy:AV)(x9 Nw:É AV):En:=[x0,À (.ref d),À va,À (.ref k),none,À (.ref B),À (.ref ip),À (.ref iw),À dy,x9,Nw]
structure Lo (c d n B ip iw:Nat)(P W:Â Str)(V:Bo)(b k:Nat)(sc:S)(L:Â AV)(st:S):Prop where
 ls:LS c d n B ip iw P W V st
 at_:ö st k=À L
 bad:∀p∈L,rE V p
 pl:∀p∈L,Pl p
 fr:∀i xs,b<=i->ö sc i=À xs->ö st i=À xs
 lb:B+8<=b/\b<=k/\sc.length<=k
section
variable {c d n B ip iw b k:Nat}{P W:Â Str}{V:Bo}{sc st:S}{L:Â AV}{va dy:AV}{x0:É AV}
theorem Lo.app (h:Lo c d n B ip iw P W V b k sc L st)(a:Cl (st++e)):Lo c d n B ip iw P W V b k sc L (st++e):=⟨h.ls.app a,ĳ h.at_,h.bad,h.pl,λi xs f g=>ĳ (h.fr i xs f g),h.lb⟩
def Me (h:Lo c d n B ip iw P W V b k sc L st)(m:RB V)(hd:(told V).dep<9) (hr:Rp b sc (told V) va) (g f:É AV):∃e,p6 (cT (ě 2 (đ 9) (Á (ě 1 ck (Á (mv 5) Ë)) (Á (mv 2) Ë)))) (El x0 d va k B ip iw dy g f) st=.ok false (st++e)/\Cl (st++e):=by
 obtain⟨v,e,j,i,o⟩:=MU rfl h.ls.b m;have l:=h.app i;have p:=(hr.up l.fr).zero;refine⟨e,?_,i⟩;unfold p6 cT;rw[fm ((lL (F:=ck) (env:=El x0 d va k B ip iw dy g f) (a:=mv 5) (v:=.ref B) rfl).trans j) (show mv 2 (El x0 d va k B ip iw dy g f) (st++e)=.ok va (st++e)from rfl),DI o.zero p hd];rfl
def Mx (h:Lo c d n B ip iw P W V b k sc L st)(z:RB V)(hd:(told V).dep<9) (hr:Rp b sc (told V) va) (x:rE V (.tup [q,.str w])):∃e,lT (El x0 d va k B ip iw dy (À q) (À (.str w))) st=.ok false (st++e)/\Cl (st++e):=by
 obtain⟨C,D,A,s,hw,y⟩:=x;cases s;obtain⟨f,r,l⟩:=y B st h.ls.b;obtain⟨g,u,m⟩:=Mz hw r l;have i:Cl (st++(f++g)):=by rw[<-Ñ];exact m
 obtain⟨p,t,o⟩:=Me (x0:=x0) (dy:=dy) (h.app i) z hd hr (À q) (À (.str w));refine⟨f++g++p,?_,by rw[<-Ñ];exact o⟩;have j:cB (Ó iW (ě 2 ţ (Á (mv 5) (Á (mv 9) Ë))) (mv 10)) (El x0 d va k B ip iw dy (À q) (À (.str w))) st=.ok false (st++(f++g)):=by
  unfold cB;rw[aP ((fm (F:=ţ) (a:=mv 5) (b:=mv 9) (v:=.ref B) (w:=q) rfl rfl).trans u) (show mv 10 (El x0 d va k B ip iw dy (À q) (À (.str w))) (st++f++g)=.ok (.str w) (st++f++g)from rfl),Ñ];show((need (À (decide (w=w))) λb=>R.ok (AV.bl (!b)) (st++(f++g))).bind _)=_;rw[ó rfl];rfl
 show FZ _ _ _ _=_;unfold FZ;rw[j,â,Ö (by decide),t,Ñ]
theorem Dk (M:RB V)(hd:(told V).dep<9) (hr:Rp b sc (told V) va) {N:En->S->Prop}{T:AV->S->Prop}(z:∀n st t a,Lo c d n B ip iw P W V b k sc [] st->N (El x0 d va k B ip iw dy t a) st):∀(f n:Nat) (L:Â AV) (st:S) (t a:É AV),L.length<f->n+L.length<=1000->Lo c d n B ip iw P W V b k sc L st->(DS lC lB f (El x0 d va k B ip iw dy t a) st).wp N T
 |0,_,_,_,_,_,h,_,_=>absurd h (by lia)
 |f+1,n,L,st,t,a,Z,J,h=>by
  unfold DS;rw[show lC (El x0 d va k B ip iw dy t a) st=.ok (!L.isEmpty) st from Ko h.at_ h.pl (λ_=>rfl)];show(if (!L.isEmpty)=true then _ else _:RS).wp N T;cases L with
  |nil=>exact z n st t a h
  |cons p r=>
   rw[Ì (show(!(p::r).isEmpty)=true from rfl)];refine Jh (m:=lB (El x0 d va k B ip iw dy t a) st) (g:=DS lC lB f) ?_;have lb:=h.lb;have c0:=h.ls.c0;have d0:=h.ls.d0;refine aF λK I=>?_;simp?[xE h.at_,↓eW (xH h.at_)];refine(take1 h.ls.dr (hk:=Nr (by simp) (by simp at J⊢;lia))).mono ?_;rintro _ s ⟨j,rfl,j0,j1,O,C⟩;have F:=h.ls.kp C O;have v:=C.gk.lst (n:=0) (by lia) (by lia) h.at_;obtain⟨m,rfl⟩:∃m:Nat,j=m:=⟨j.toNat,by lia⟩
   have E:m<(p::r).length:=by lia
   have X:ra (.ref k) [.int m] s=.ok (p::r)[m] (s.set k (.lst ((p::r).eraseIdx m))):=by
    show(need (ö s k) λxs=>if 0<=(m:Int)/\(m:Int)<xs.length then need xs[(m:Int).toNat]? λy=>R.ok y (s.set k (.lst (xs.eraseIdx (m:Int).toNat)))else .bad)=_;rw[v,õ,Ì ⟨by lia,by lia⟩];show(need (p::r)[m]? λy=>R.ok y (s.set k (.lst ((p::r).eraseIdx m))))=_;rw[Å E];rfl
   have o:=h.bad _ (hX E);have A:Lo c d (n+1) B ip iw P W V b k sc ((p::r).eraseIdx m) (s.set k (.lst ((p::r).eraseIdx m))):=⟨F.set (by lia) (Fc h.pl m _),xM v,λx u=>h.bad x (eX u),λx u=>h.pl x (eX u),λi xs hi u=>by
    have lt:=(Æ.mp (Ē u)).1;exact f' (by rw[ì (by lia)];exact Ē (C.gk.lst (n:=0) (by lia) (by lia) (h.fr i xs hi u))),lb⟩
   have l:((p::r).eraseIdx m).length=r.length:=by rw[yx E];simp
   rw[eW X];generalize (p::r)[m]=pp at o⊢;obtain⟨q,w,Q,rfl,hw,D⟩:=o;generalize s.set k (.lst ((p::r).eraseIdx m))=H at A⊢;generalize (p::r).eraseIdx m=L2 at A l⊢;walk_at"w";rw[I];clear I K;obtain⟨e,Y,U⟩:=Mx (x0:=x0) (dy:=dy) A M hd hr ⟨q,w,Q,rfl,hw,D⟩;rw[show gb lT (ş (mc (.bl false))) aN (El x0 d va k B ip iw dy (À q) (À (.str w))) H=.nx (El x0 d va k B ip iw dy (À q) (À (.str w))) (H++e)from fH Y];exact Dk M hd hr z f (n+1) L2 (H++e) _ _ (by rw[l];simp at Z;lia) (by rw[l];simp at J;lia) (A.app U)
end
end Ro
set_option maxHeartbeats 400000
namespace Ro
open PySem L2 Mm
def OI (N:Nm P W one two first second):RB (VF P W one two first second hd rt sd):=⟨N.lp,N.lw,show 1<64 by lia,show 1<64 by lia,show 2<64 by lia,show 1<64 by lia⟩
def Gu (one two first second:Str)(hd rt sd:Int)(b:Nat):ĭ b (p5 one two first second hd rt sd)=true:=fw λv a=>(CQ one two first second hd rt sd v a).2 b
def EN {V C:Bo}(h:Ŭ B V s)(k:ö s i=À ds)(j:B+8<=i)(r:Run V ds C):(bh (gN 0) jk (ě 2 ţ (Á (mv 1) (Á (mv 0) Ë))) [(i,ds)] ds [none,À (.ref B)] s []).wp λa s'=>a=ds.map (λ_=>AV.str "")/\Cl s':=by
 refine ml (λxs a c st=>∃A x done,Run A xs C/\Ŭ B A st/\ö st i=À ds/\ds=done++xs/\a=done.map (λ_=>AV.str "")/\c=[x,À (.ref B)]) ?_ ?_ ?_ _ _ _ _ ⟨V,none,[],r,h,k,rfl,rfl,rfl⟩
 ·rintro _ _ _ st ⟨_,_,_,_,_,e,_⟩ p m;rw[Ġ.mp m];exact e
 ·rintro a c st ⟨A,x,done,r,b,e,d,rfl,rfl⟩;rw[ð]at d;rw[d];exact⟨rfl,b.cl⟩
 ·rintro v l a c st ⟨A,x,done,r,b,e,d,rfl,rfl⟩;cases r with
  |cons hd r=>
   obtain⟨n,g,b1,f⟩:=hd B st b;simp?[↓eW (Jj g)];exact⟨_,_,done++[v],r,b1,f.lst e (.inr j),by rw[d];simp,by simp,rfl⟩
def Kx {s:S}(a:ö s i=À [.str "",.str "",.str "",.str ""])(b:ö s j=À [.str "",.str "",.str "",.str ""]):bf (.ref i) (.ref j) s=.ok (.bl true) s:=by
 have t:∀k,ö s k=À [.str "",.str "",.str "",.str ""]->toD 20 s (.ref k)=À (.lst [.str "",.str "",.str "",.str ""]):=λk h=>by
  simp only[toD,h,b_];rfl
 unfold bf zE;simp only;rw[t i a,t j b];dsimp only;rw[Ì (by simp[bZ,Dt.dep])];rfl
noncomputable abbrev Eg (x0:É AV)(d:Nat)(va:AV)(k B ip iw:Nat)(hd rt sd:Int)(x4 x9 Nw:É AV):En:=[x0,À (.ref d),À va,À (.ref k),x4,À (.ref B),À (.ref ip),À (.ref iw),À (.tup [.int hd,.int rt,.int sd]),x9,Nw]
section
variable {st:S}{d k B ip iw:Nat}{x0 x4 x9 Nw:É AV}{va:AV}{hd rt sd:Int}{a b:Str}{p:Â Str}
def RZ (h:ö st ip=À ((a::b::p).map AV.str)):Ó Ċ (mv 6) (mc (.int 0)) (Eg x0 d va k B ip iw hd rt sd x4 x9 Nw) st=.ok (.str a) st:=(aP (v:=.ref ip) (w:=.int 0) rfl rfl).trans (vX h)
def VE (h:ö st ip=À ((a::b::p).map AV.str)):Ó Ċ (mv 6) (mc (.int 1)) (Eg x0 d va k B ip iw hd rt sd x4 x9 Nw) st=.ok (.str b) st:=(aP (v:=.ref ip) (w:=.int 1) rfl rfl).trans (vY h)
def VG (h:ö st iw=À ((a::b::p).map AV.str)):Ó Ċ (mv 7) (mc (.int 0)) (Eg x0 d va k B ip iw hd rt sd x4 x9 Nw) st=.ok (.str a) st:=(aP (v:=.ref iw) (w:=.int 0) rfl rfl).trans (vX h)
def R0 (h:ö st iw=À ((a::b::p).map AV.str)):Ó Ċ (mv 7) (mc (.int 1)) (Eg x0 d va k B ip iw hd rt sd x4 x9 Nw) st=.ok (.str b) st:=(aP (v:=.ref iw) (w:=.int 1) rfl rfl).trans (vY h)
end
def g1 (one two second:Str)(hd:Int):Â AV:=[.tup [.str "hand",.str one,.int (hd+1),.str two,.tup [.int 1,.int 9]],.tup [.str "known",.str second,.int 9,.str one]]
def g2 (first second:Str)(rt sd:Int):Â AV:=[.tup [.str "back",.int (sd+9),.str first,.int 3,.int 1,.str "coin"],.tup [.str "sold",.int rt,.str second,.int 1,.int 1,.str "usd"]]
def OH (ns:Â Int):(tD [.sq (ns.map AV.int)] (tabS [(20,"by_days.<locals>.<lambda>")])).wp λv _=>v=.bl true:=by
 have P:Cl (tabS [(20,"by_days.<locals>.<lambda>")]):=rfl;unfold tD Gp;rw[WS.2.2.2.2.2.2.2.2.2.2.2.2.2.2.2.1];refine aF λK f=>?_;walk_at"w";refine(Gv ns P).mono ?_;rintro _ s0 ⟨c,d,e0,rfl,es,D0,J,d0⟩;have t0:s0[0]?=À (.tab 20 oQ):=by rw[es];rfl
 have J:0<c:=J;have d0:0<d:=d0;clear es;rw[f];clear f K;refine aF λK f=>?_;walk_at"w";refine(Cm D0 (by lia) t0 J d0).mono ?_;rintro _ I ⟨B,j,k,one,two,first,second,p,w,hd,rt,sd,rfl,N,r1,q1,ls⟩;walk_at"w";refine⟨rfl,?_⟩;rw[f];clear f K;have lm:=OI (hd:=hd) (rt:=rt) (sd:=sd) N;have z:=IW (one::two::p) (first::second::w) one two first second hd rt sd
 obtain⟨o,e,ea,Y,Q⟩:=MU rfl ls.b lm;have h:=ls.app Y;have hB:=ls.b.len;have y:I.length<=(I++e).length:=by simp
 refine aF λK f=>?_;simp?[↓eW ea];rw[f];clear f K ea Y ls;generalize I.length=bb at Q hB y⊢;generalize I++e=u at h Q y⊢;obtain⟨l,F,eb,A,D⟩:=Kk (hd:=hd) (rt:=rt) (sd:=sd) (one:=one) (two:=two) (first:=first) (second:=second) h.p h.w;have lo:=Gu one two first second hd rt sd
 refine aF λK f=>?_;have et:=uH (m:=ě 3 fR (Á (mv 6) (Á (mv 7) (Á (mv 8) Ë)))) (env:=[À (.sq (ns.map AV.int)),À (.ref d),À o,none,none,À (.ref B),À (.ref j),À (.ref k),À (.tup [.int hd,.int rt,.int sd]),none,none]) (s:=u) h.b.cl (lo _) (show _=R.ok (AV.ref l) (u++F)from eb) D A;rw[CD (cN (bq et)),f];clear f K eb et;have U:Cl (u++[.lst (p5 one two first second hd rt sd)]):=h.b.cl.add (by simp only[Ĩ,a9,AO.low,ae];exact lo _);have q:Lo c d 40 B j k (one::two::p) (first::second::w) (VF (one::two::p) (first::second::w) one two first second hd rt sd) bb u.length u (p5 one two first second hd rt sd) (u++[.lst (p5 one two first second hd rt sd)]):=⟨(h.app U).mono (by lia),Ģ _ _,Kl N r1 q1,CQ _ _ _ _ _ _ _,λi xs _ hx=>ĳ hx,hB,y,Í _⟩
 have C:(p5 one two first second hd rt sd).length=34:=rfl;generalize u++[AO.lst (p5 one two first second hd rt sd)]=T at q⊢;generalize p5 one two first second hd rt sd=L at q C⊢
 clear U D A lo h;refine aF λK f=>?_;show(DS lC lB 60 (El (À (.sq (ns.map AV.int))) d o u.length B j k (.tup [.int hd,.int rt,.int sd]) none none) T).wp K _;refine Dk lm z Q ?_ 60 40 L T none none (by lia) (by lia) q;intro n st x g lo;rw[f];clear f K q C L T;have ls:=lo.ls;have lb:=lo.lb;generalize u.length=l at *
 rw[show El (À (.sq (ns.map AV.int))) d o l B j k (.tup [.int hd,.int rt,.int sd]) x g=Eg (À (.sq (ns.map AV.int))) d o l B j k hd rt sd none x g from rfl];have Z:=bq (ll (r:=Á (î (Á (mc (.str "hand")) (Á (Ó Ċ (mv 6) (mc (.int 0))) (Á (Ó ĸ (Ó Ċ (mv 8) (mc (.int 0))) (mc (.int 1))) (Á (Ó Ċ (mv 6) (mc (.int 1))) (Á (î (Á (mc (.int 1)) (Á (mc (.int 9)) Ë))) Ë)))))) (Á (î (Á (mc (.str "known")) (Á (Ó Ċ (mv 7) (mc (.int 1))) (Á (mc (.int 9)) (Á (Ó Ċ (mv 6) (mc (.int 0))) Ë))))) Ë)) (env:=Eg (À (.sq (ns.map AV.int))) d o l B j k hd rt sd none x g) (s:=st) (vs:=g1 one two second hd)
  (pc (tu (pc rfl (pc (RZ ls.p) (pc rfl (pc (VE ls.p) (pc rfl pn))))) rfl) (pc (tu (pc rfl (pc (R0 ls.w) (pc rfl (pc (RZ ls.p) pn)))) rfl) pn)) (by simp[g1]))
 refine aF λK f=>?_;rw[CD (cN Z),f];clear f K Z;rw[show(Eg (À (.sq (ns.map AV.int))) d o l B j k hd rt sd none x g).set 4 (À (.ref st.length))=Eg (À (.sq (ns.map AV.int))) d o l B j k hd rt sd (À (.ref st.length)) x g from rfl];have M:Cl (st++[.lst (g1 one two second hd)]):=ls.b.cl.add (by simp[AO.low,g1,ĭ,AV.low]);have t:=ls.app M;have l4:=Ģ st (g1 one two second hd);have hst:=ls.b.len;have e2:=bq (ll (r:=Á (î (Á (mc (.str "back")) (Á (Ó ĸ (Ó Ċ (mv 8) (mc (.int 2))) (mc (.int 9))) (Á (Ó Ċ (mv 7) (mc (.int 0))) (Á (mc (.int 3)) (Á (mc (.int 1)) (Á (mc (.str "coin")) Ë))))))) (Á (î (Á (mc (.str "sold")) (Á (Ó Ċ (mv 8) (mc (.int 1))) (Á (Ó Ċ (mv 7) (mc (.int 1))) (Á (mc (.int 1)) (Á (mc (.int 1)) (Á (mc (.str "usd")) Ë))))))) Ë)) (env:=Eg (À (.sq (ns.map AV.int))) d o l B j k hd rt sd (À (.ref st.length)) x g) (s:=st++[.lst (g1 one two second hd)]) (vs:=g2 first second rt sd)
  (pc (tu (pc rfl (pc rfl (pc (VG t.w) (pc rfl (pc rfl (pc rfl pn)))))) rfl) (pc (tu (pc rfl (pc rfl (pc (R0 t.w) (pc rfl (pc rfl (pc rfl pn)))))) rfl) pn)) (by simp[g2]))
 have O:Cl (st++[.lst (g1 one two second hd)]++[.lst (g2 first second rt sd)]):=M.add (by simp[AO.low,g2,ĭ,AV.low]);have X:Cl (st++[.lst (g1 one two second hd)]++[.lst (g2 first second rt sd)]++[.lst (qV one two first second hd rt sd)]):=O.add (by simp[AO.low,qV,ĭ,AV.low]);have F:=(aP (op:=ĸ) (a:=mv 4) (v:=.ref st.length) rfl e2).trans (p7 (ĳ l4) (Ģ _ _) (qF (by simp[g1,g2])));refine aF λK f=>?_;rw[CD (cN F),f];clear f K e2 F;rw[show g1 one two second hd++g2 first second rt sd=qV one two first second hd rt sd from rfl];have E:=(t.app O).app X;have H:=Ģ (st++[.lst (g1 one two second hd)]++[.lst (g2 first second rt sd)]) (qV one two first second hd rt sd);have hi:B+8<=(st++[AO.lst (g1 one two second hd)]++[AO.lst (g2 first second rt sd)]).length:=by simp;lia
 generalize (st++[AO.lst (g1 one two second hd)]++[AO.lst (g2 first second rt sd)]).length=gi at H hi⊢;generalize st++[AO.lst (g1 one two second hd)]++[AO.lst (g2 first second rt sd)]++[AO.lst (qV one two first second hd rt sd)]=s6 at E H⊢;clear M O X t l4 ls lo;rw[show(Eg (À (.sq (ns.map AV.int))) d o l B j k hd rt sd (À (.ref st.length)) x g).set 4 (À (.ref gi))=Eg (À (.sq (ns.map AV.int))) d o l B j k hd rt sd (À (.ref gi)) x g from rfl];obtain⟨V',rn⟩:=G7 (hd:=hd) (rt:=rt) (sd:=sd) N;have gr:=EN E.b H hi rn;simp?[↓eW (Jd H)];refine⟨qF (by simp[qV]),?_⟩;refine gr.mono ?_;rintro Vt s7 ⟨rfl,c7⟩;refine⟨qF (by simp),?_⟩;rw[show(qV one two first second hd rt sd).map (λ_=>AV.str "")=[.str "",.str "",.str "",.str ""]from rfl,eW (Kx (ĳ (Ģ _ _)) (Ģ _ _))]
end Ro
end
namespace PySem.W.Fast
section
variable (a:True)
def tw18158726848695352414:=a
def tw12470125452769594805:=a
def tw11995029215302974819:=a
def tw530920347483862567:=a
def tw11638432979916144592:=a
def tw4877639431880105372:=a
def tw8750414495053962630:=a
def tw13478311987649878240:=a
def tw8667681451375392249:=a
def tw1155041670837910756:=a
def tw14948715622757024009:=a
def tw14810181382048222301:=a
def tw3667134730435130017:=a
def tw16714542482938231697:=a
def tw14185751360341031456:=a
def tw3472530534965533636:=a
def tw15450171877750979351:=a
def tw292825116161632096:=a
def tw4713885316738054941:=a
def tw15924065120543940059:=a
def tw723499986087697984:=a
def tw6827510344103354246:=a
def tw6070790910745531242:=a
def tw8973696561880604908:=a
def tw16530599111681568069:=a
def tw16099461990276224115:=a
def tw11881903655247775893:=a
def tw3983219522926244226:=a
def tw6059423680192440488:=a
def tw6460431711822885164:=a
def tw1421744369816960823:=a
def tw6934152685137221538:=a
def tw16568512497335018129:=a
def tw6081251847633037482:=a
def tw8723625305274359692:=a
def tw12012468855216279876:=a
def tw12117458129569839958:=a
def tw1949243555028330800:=a
def tw16142554536962033893:=a
def tw11785345858451218338:=a
def tw18245340428682750319:=a
def tw13537202420507215788:=a
def tw6202505596551700529:=a
def tw5084712005645197728:=a
def tw4039213240833577764:=a
def tw272400076848520233:=a
def tw12491782269609063324:=a
def tw11589959139874143098:=a
def tw6965078047962091491:=a
def tw6565327686588054524:=a
def tw7579198595859681731:=a
def tw11319996490397626393:=a
def tw11076056595734473391:=a
def tw17304475742698997545:=a
def tw12010897728806819210:=a
def tw9886938059199157892:=a
def tw1802634478358025780:=a
def tw9608609652712950519:=a
def tw12427912686144442963:=a
def tw14150048738187904206:=a
def tw18272727905850848580:=a
def tw15918401185869453926:=a
def tw17448990211172794754:=a
def tw16497261832588426846:=a
def tw11570099924477264286:=a
def tw3289077980274627975:=a
def tw6061356842302116465:=a
def tw11335419936226314439:=a
def tw10280818832497999125:=a
def tw10493542253228960948:=a
def tw8000996684842445219:=a
def tw6920220185384367027:=a
def tw1944181349281086300:=a
def tw17165548965669533231:=a
def tw16429336061973492669:=a
def tw11704340250842147984:=a
def tw4016560041037844793:=a
def tw9078511501913002151:=a
def tw11455145990495474750:=a
def tw629024246442390095:=a
def tw16042025754906951570:=a
def tw8165022936774303510:=a
def tw12043042994917663820:=a
def tw13726490782762567024:=a
def tw10526353016730565224:=a
def tw3607537036367702702:=a
def tw13918143854599070585:=a
def tw18174199203886649954:=a
def tw2593396193521775121:=a
def tw1210955024877100034:=a
def tw16441879273830065719:=a
def tw10762258397636643570:=a
def tw4132002624556324599:=a
def tw14961677650041904923:=a
def tw8074546361824701934:=a
def tw13142259114056431119:=a
def tw1124481496737426100:=a
def tw8798683415316604727:=a
def tw3914979481420158915:=a
def tw9900697598365618315:=a
def tw4406475190328777113:=a
def tw2480009494810366153:=a
def tw7322496881601160895:=a
def tw2486493426367281935:=a
def tw14980163890982822688:=a
def tw8766251138358324591:=a
def tw17754842103832642752:=a
def tw10374106006699271768:=a
def tw4893036388569993689:=a
def tw5044019197894647552:=a
def tw15584724956741895401:=a
def tw6533330720851683371:=a
def tw2674615330068621417:=a
def tw6826291309963262928:=a
def tw17015002999306527409:=a
def tw4193784863346008399:=a
def tw325897083788800492:=a
def tw16110253641745567446:=a
def tw13407158941828607414:=a
def tw15947716672974147154:=a
def tw8776610473850358581:=a
def tw16947329104872292628:=a
def tw5221726987368494170:=a
def tw6676937339129036392:=a
def tw10376919943873188233:=a
def tw11039226246091900335:=a
def tw8360733597143775494:=a
def tw16658769472739785942:=a
def tw15435894072673005356:=a
def tw14696541873171552746:=a
def tw15988405142571939871:=a
def tw14586278012278712683:=a
def tw10002073734628418458:=a
def tw18410444756025347005:=a
def tw12521419893034662625:=a
def tw9274914456029478677:=a
def tw10348576996337258872:=a
def tw10325024686322043879:=a
def tw6430027890707818645:=a
def tw4496597037927676455:=a
def tw3888528500665545112:=a
def tw17268397499051553232:=a
def tw16898105986381838503:=a
def tw1204560995885100952:=a
def tw7308740711048738076:=a
def tw6746029569345359457:=a
def tw6756103954802695756:=a
def tw15704986004549393799:=a
def tw3112027825979854783:=a
def tw7158890778715267342:=a
def tw1404883358579572291:=a
def tw13769581405754705684:=a
def tw7238454127556143241:=a
def tw17920295595236687097:=a
def tw3548810505317127475:=a
def tw1934622515789908759:=a
def tw1128480965615749299:=a
def tw9596007897009928946:=a
def tw9064150396884144124:=a
def tw8207801180979100455:=a
def tw6344963989374865348:=a
def tw3789067139288746676:=a
def tw2643137963847888309:=a
def tw11952072267969774690:=a
def tw1959264666501137197:=a
def tw4276702681876862853:=a
def tw6175444250785393437:=a
def tw5133673428409779879:=a
def tw3723921419335424509:=a
def tw7167065931666534417:=a
def tw1636994583004724639:=a
def tw15906448127967025125:=a
def tw6513938439632793021:=a
def tw15262837044218424720:=a
def tw8904454322963025482:=a
def tw14549176244510794100:=a
def tw7777213324703497792:=a
def tw3803772524020837241:=a
def tw5909805097006337392:=a
def tw6922426252596228393:=a
def tw18304897978149890159:=a
def tw9854396940531460292:=a
def tw2169196413041599088:=a
def tw11449953059889777661:=a
def tw8580344409674652128:=a
def tw4636407501706076221:=a
def tw377381915887835102:=a
def tw10756674237767649152:=a
def tw3713159267748047356:=a
def tw15991904714520443856:=a
def tw12419222479002338840:=a
def tw8007981096283528916:=a
def tw16842657019971223488:=a
def tw7232156925021524640:=a
def tw18216342194662263153:=a
def tw15258280786484280197:=a
def tw3126623011311818837:=a
def tw13033648016873305372:=a
def tw1623819630355978810:=a
def tw4588916187969452838:=a
def tw1664644904832187259:=a
def tw12844029359519508545:=a
def tw6934133457484766472:=a
def tw4724071665532679108:=a
def tw463424707876929030:=a
def tw363175014638450008:=a
def tw16961565095230839645:=a
def tw12125761156793273114:=a
def tw10390274174860964862:=a
def tw12038799224418462236:=a
def tw7230061546305877345:=a
def tw11535968674648671399:=a
def tw5191829344854692931:=a
def tw7729010131425087489:=a
def tw18191002985878671579:=a
def tw16849092904686519341:=a
def tw6343634908280811677:=a
def tw4193557328001489315:=a
def tw13673725617497577486:=a
def tw18415404073008163222:=a
def tw6219240632278604384:=a
def tw3148756071156102599:=a
def tw170715592722142979:=a
def tw4963461178475416784:=a
def tw3145442909226483959:=a
def tw13659069861091180327:=a
def tw7670032827235612457:=a
def tw2032003196334558356:=a
def tw11358617477395902650:=a
def tw9709814183299823113:=a
def tw2075428869533436841:=a
def tw2829103672897970359:=a
def tw11781902998603181955:=a
def tw5353358629548776619:=a
def tw3079360107646055477:=a
def tw9995987147723153841:=a
def tw9084918508873579960:=a
def tw4586915373802302800:=a
def tw12164732985907809496:=a
def tw15045728504959561827:=a
def tw13537200812634810646:=a
def tw8861593345370427682:=a
def tw13400036200223742771:=a
def tw8121719357430819817:=a
def tw5201183770980139307:=a
def tw1995582836338046222:=a
def tw1978799858192301153:=a
def tw6547873543299761721:=a
def tw12852952079736490179:=a
def tw9453868025496422166:=a
def tw5756125137861691417:=a
def tw757200548032299851:=a
def tw6034582604507842390:=a
def tw6031991913425137856:=a
def tw82679155713843094:=a
def tw5851821715192019801:=a
def tw3841031293727660333:=a
def tw2253722364358782345:=a
def tw13098855701832558168:=a
def tw11609258824652303682:=a
def tw18197576085144891402:=a
def tw16709614592940040618:=a
def tw14197413305773782113:=a
def tw12958779886546392008:=a
def tw8831503274554706058:=a
def tw17671153898198752511:=a
def tw10411857628174025555:=a
def tw4910270987421793591:=a
def tw4796239022664892932:=a
def tw12333412042749778878:=a
def tw11750263863036173351:=a
def tw16418120323341709803:=a
def tw10433761669147095254:=a
def tw9739978194728247751:=a
def tw9658437507941916635:=a
def tw3446578513611267523:=a
def tw12981911038589055134:=a
def tw12575357381190085777:=a
def tw1082934316713049648:=a
def tw10702766272463351844:=a
def tw10379313232490178572:=a
def tw17732091233627341487:=a
def tw17490803513436601338:=a
def tw12971109501943141191:=a
def tw11664105481320604523:=a
def tw7190027090046373564:=a
def tw6425152507177825113:=a
def tw5592598237675032462:=a
def tw4160834873308376561:=a
def tw3444910078015517120:=a
def tw15076824396626808962:=a
def tw9355872486844768284:=a
def tw420361307387887305:=a
def tw4833759189836314187:=a
def tw17821688952307863468:=a
def tw12849282154863249999:=a
def tw12123417179873823198:=a
def tw15307411120615166444:=a
def tw435311582363888416:=a
def tw724704728471365656:=a
def tw6686780570768121035:=a
def tw1813846715513577581:=a
def tw14466188727507525569:=a
def tw7132598524199829611:=a
def tw7974525040204075734:=a
def tw12653300314037901212:=a
def tw10824014235276932965:=a
def tw394135099308173184:=a
def tw902917455748545716:=a
def tw18352739458083222070:=a
def tw18320007180984660116:=a
def tw16133278616424348880:=a
def tw5469585658958780858:=a
def tw5025882604089778334:=a
def tw7302695993642683780:=a
def tw5935423335873035900:=a
def tw11192114187161736417:=a
def tw10891134514286611233:=a
def tw11961203316818872878:=a
def tw7952718140237761566:=a
def tw7103903876255204869:=a
def tw10497523667372023842:=a
def tw6155208395619030983:=a
def tw6897963211159260911:=a
def tw10056766923677191202:=a
def tw13797467106059656386:=a
def tw6102555423129056115:=a
def tw5876673651606013720:=a
def tw1464659375187742575:=a
def tw7785214271858015259:=a
def tw12443898251325071399:=a
def tw109634439900839240:=a
def tw11927200822596522562:=a
def tw9040221572897551594:=a
def tw8437240474610438514:=a
def tw8883571055606470647:=a
def tw2234210565651206755:=a
def tw145605944137720477:=a
def tw14276295368683443247:=a
def tw6153416175851977598:=a
def tw1939589511698631271:=a
def tw5723083463928279148:=a
def tw14136115317418773729:=a
def tw11619672207845159926:=a
def tw12390131971181910765:=a
def tw18186770437405710457:=a
def tw13730957157011219461:=a
def tw11088554249261436536:=a
def tw16571275173398590620:=a
def tw11568066786902503207:=a
def tw14085568945253683597:=a
def tw7115045022518581308:=a
def tw17429616816637728398:=a
def tw17128697289669186773:=a
def tw15525645404839369704:=a
def tw12627334238998408672:=a
def tw9458289624343622643:=a
def tw8907439945102509806:=a
def tw6472772082109735309:=a
def tw5074235592892786363:=a
def tw4620702111901532687:=a
def tw4306820829766589553:=a
def tw414249496500480585:=a
def tw3986026515403228225:=a
def tw17496615336167507688:=a
def tw16550977433664562350:=a
def tw14747409361230300163:=a
def tw1321159819109649854:=a
def tw10172977584174249527:=a
def tw18193288570609397683:=a
def tw7574968540913446806:=a
def tw4575343200507168091:=a
def tw14398922197556086822:=a
def tw9749939709707975103:=a
def tw8377577154378998072:=a
def tw7759222072662509561:=a
def tw7721204482068128366:=a
def tw6395632850889961941:=a
def tw6192666430160376182:=a
def tw5649821513486006752:=a
def tw5647558191123245173:=a
def tw5077846114274720567:=a
def tw2684479455265503829:=a
def tw2386167485599993780:=a
def tw18317434493852927053:=a
def tw16690131977657108000:=a
def tw10616074646316352902:=a
def tw15853458900522049146:=a
def tw2124457136449792217:=a
def tw12998600234541956057:=a
def tw13331077055678217668:=a
def tw13715354208846622645:=a
def tw933628615833079039:=a
def tw3697919285635999862:=a
def tw7690328734774793396:=a
def tw6623691478094403102:=a
def tw6444852084746398836:=a
def tw5213930430444920587:=a
def tw4014716899050175597:=a
def tw3639097970574314485:=a
def tw1845939106817772421:=a
def tw17894408395492668715:=a
def tw17491642768097060771:=a
def tw1649139741321435952:=a
def tw16146218452433549864:=a
def tw15721787034349670964:=a
def tw2830552473505719700:=a
def tw6995091038380066441:=a
def tw6725689095126286385:=a
def tw3183253696525011124:=a
def tw2281930789057367921:=a
def tw1812100957570357647:=a
def tw17791467713857394824:=a
def tw1599164276809027429:=a
def tw14435207283529979138:=a
def tw13739134381754166062:=a
def tw11879435928281936064:=a
def tw11741133007865760870:=a
def tw10246787095687489902:=a
def tw5924471688848327227:=a
def tw9548214259101818341:=a
def tw4772452658663108069:=a
def tw18351942482781771581:=a
def tw17472716384591615511:=a
def tw16420086433228085140:=a
def tw15748149385142170213:=a
def tw15067543541428329089:=a
def tw13360296732464420928:=a
def tw131045046563687410:=a
def tw12549896182301418948:=a
def tw14308792012451066421:=a
def tw8896791207458193107:=a
def tw16607168223444804507:=a
def tw9790896647733878712:=a
def tw8657579407081081197:=a
def tw4887258588505444462:=a
def tw4174049733917430748:=a
def tw3580648476452849311:=a
def tw17331999557354878248:=a
def tw12171797090973065544:=a
def tw12150464940915779895:=a
def tw8538973802891053555:=a
def tw7405482798423605611:=a
def tw6933150914819980453:=a
def tw3267426888295787705:=a
def tw17171398496811634922:=a
def tw17088462826645305656:=a
def tw15064096133304094178:=a
def tw13269656105826033711:=a
def tw12543814120467549211:=a
def tw11575606945062197277:=a
def tw9976565557076723091:=a
def tw9912719416580780517:=a
def tw9864876287317464885:=a
def tw9840438461592651564:=a
def tw9722835447842599794:=a
def tw9676093020950060933:=a
def tw9624150523847723269:=a
def tw9452829370567120084:=a
def tw943859075739313115:=a
def tw9336906462348933074:=a
def tw9134203721429674709:=a
def tw8787822538159136315:=a
def tw8543888059102121879:=a
def tw8513416912454103318:=a
def tw850132561011034551:=a
def tw8482677228358604460:=a
def tw8370674713132745306:=a
def tw8246985153051187080:=a
def tw8024913261353156749:=a
def tw7522059310191409049:=a
def tw7464040495844109987:=a
def tw7426796604820364683:=a
def tw7292345033197234453:=a
def tw7093983508888579313:=a
def tw6954596682473154542:=a
def tw6735834151349664129:=a
def tw6614430140003785945:=a
def tw6576507596288760000:=a
def tw6432187831308593304:=a
def tw6422896511122295365:=a
def tw6341615721331749644:=a
def tw6298664350221229097:=a
def tw6182681688879988089:=a
def tw6166564653476771235:=a
def tw611409721261164614:=a
def tw5946693977156858586:=a
def tw5839317041565617018:=a
def tw5682967711366699660:=a
def tw5528815146800410987:=a
def tw5480507219953207461:=a
def tw5368525847668514656:=a
def tw534785738555249426:=a
def tw5177382807154631668:=a
def tw5101526942809758177:=a
def tw4870735626731086523:=a
def tw4846448916276182142:=a
def tw4693972404580289153:=a
def tw4556393900388481911:=a
def tw4554964982364151560:=a
end
end PySem.W.Fast
open PySem PySem.W PyProof.Rows
set_option maxRecDepth 100000 in
set_option maxHeartbeats 0 in
theorem PySem.Challenge.cw_royaltree_k54_two_faults_at_once_holds : PySem.Challenge.rw_royaltree_k54_two_faults_at_once.Holds := by
 w_on;o_law;k_head;(case hw=>w_witness2)
 k_fill
 refine Ro.T7 (l:=PySem.Challenge.rw_royaltree_k54_two_faults_at_once) _ [(20,"by_days.<locals>.<lambda>")] Ro.tD 11 (by decide) ⟨rfl,rfl,by decide,by decide⟩ Ro.OH rfl rfl (λw h Y=>PySem.W.km_in_of Y) (λw h Y=>PySem.W.km_tabs_of Y) ?TC ?TK ?F;case TC=>
  intro w h KX;refine List.forall_mem_cons.mpr ⟨?_,λ_ z=>nomatch z⟩;refine' Ro.T3 (x:="by_days") (st:=Ro.top 25) ?a ?l ?c;(case a=>k_is);(case l=>k_is);(case c=>first|k_is|kernel_rfl|rfl)
 case TK=>
  intro w h KX;refine List.forall_mem_cons.mpr ⟨?_,λ_ z=>nomatch z⟩;first|k_is|kernel_rfl|rfl
 case F=>
  intro w mg fa h KX G hmg;refine' Ro.N_ KX G hmg ?x0 ?x1 ?x2 ?x3 ?x4 ?x5 ?x6 ?x7 ?x8 ?b ?uN ?uO ?n8 ?iQ ?uP ?aT ?jS ?kC ?uQ ?kE ?a7 ?uR ?kF ?uS ?kq ?ż ?bW ?pd ?Ž ⟨?ZN,?d0,?d1,?d2,?d3,?d4,?d5,?d6,?d7,?d8,?d9,?Zb,?Zc,?Zd,?Ze,?Zf,?Zg,?Zh,?Zi,?Zj,?Zk,?Zl,?Zm,?Zn,?Zo,?Zp,?Zq,?Zr,?Zs,?Zt,?Zu,?Zv,?Zw,?Zx,?Zy,?Zz,?ZA,?ZC,?ZD,?ZE,?ZF,?ZG,?ZH,?ZI,?ZJ,?ZL,?ZM⟩;(case x0|x1|x2|x3|x4|x5|x6|x7|x8=>(refine' Ro.T_ KX G ?a ?l ?n ?s ?k ?g ?h ?j ?cn ?ct ?i;(case a=>k_is);(case l=>k_is);(case n=>k_is);(case s=>first|rfl|decide+kernel);(case k=>k_is);(case g=>k_is);(case h=>k_is);(case j=>k_is);(case cn=>k_is);(case ct=>k_is);(case i=>first|rfl|decide+kernel)));(case b=>(refine' Ro.RI (nm:="Book") ?ba ?bp ?bd ?bo ?bs ?bn;(case ba=>k_is);(case bp=>k_is);(case bd=>k_is);(case bo=>k_is);(case bs=>k_is);(case bn=>exact List.forall_mem_cons.mpr ⟨by k_is,List.forall_mem_cons.mpr ⟨by k_is,List.forall_mem_cons.mpr ⟨by k_is,List.forall_mem_cons.mpr ⟨by k_is,List.forall_mem_cons.mpr ⟨by k_is,List.forall_mem_cons.mpr ⟨by k_is,List.forall_mem_cons.mpr ⟨by k_is,List.forall_mem_cons.mpr ⟨by k_is,Ro.Pr⟩⟩⟩⟩⟩⟩⟩⟩)));(case uN|uO|n8|iQ|uP|aT|jS|kC|uQ|kE|a7|uR|kF|uS=>k_is);(case kq=>(refine' Ro.Di (x:="COIN") (v:=.str "coin") KX G ?a ?r ?w;(case a=>k_is);(case r=>exact⟨_,rfl⟩);(case w=>exact λρ H=>by unfold Mm.VR;rfl)));(case ż=>(refine' Ro.Di (x:="FIRST_HALF_DAYS") (v:=.int 182) KX G ?a ?r ?w;(case a=>k_is);(case r=>exact⟨_,rfl⟩);(case w=>exact λρ H=>by unfold Mm.VR;rfl)));(case bW=>(refine' Ro.BN (x:="NOTHING") (vs:=[.int 0,.int 1]) KX G ?a ?l ?v ?s ?w;(case a=>k_is);(case l=>k_is);(case v=>exact .cons ⟨_,rfl⟩ (.cons ⟨_,rfl⟩ (.nil)));(case s=>decide);(case w=>exact λρ H=>.cons (by unfold Mm.VR;rfl) (.cons (by unfold Mm.VR;rfl) (.nil)))));(case pd=>(refine' Ro.BN (x:="ONE") (vs:=[.int 1,.int 1]) KX G ?a ?l ?v ?s ?w;(case a=>k_is);(case l=>k_is);(case v=>exact .cons ⟨_,rfl⟩ (.cons ⟨_,rfl⟩ (.nil)));(case s=>decide);(case w=>exact λρ H=>.cons (by unfold Mm.VR;rfl) (.cons (by unfold Mm.VR;rfl) (.nil)))));(case Ž=>(refine' Ro.BN (x:="WHOLE_COIN_ROWS") (vs:=[.str "of",.str "steps"]) KX G ?a ?l ?v ?s ?w;(case a=>k_is);(case l=>k_is);(case v=>exact .cons ⟨_,rfl⟩ (.cons ⟨_,rfl⟩ (.nil)));(case s=>decide);(case w=>exact λρ H=>.cons (by unfold Mm.VR;rfl) (.cons (by unfold Mm.VR;rfl) (.nil)))));(case d0|d1|d2|d3|d4|d5|d7|d8|ZC|ZD|ZE|ZF|ZG|ZH|ZI|ZJ|ZL|ZM|ZN=>(refine' Ro.RW KX G ?a ?l ?c ?k;(case a=>k_is);(case l=>k_is);(case c=>k_is);(case k=>k_is)));(case d6=>(refine' Ro.N6 KX G rfl ?a ?l ?c ?k ?h;(case a=>k_is);(case l=>k_is);(case c=>k_is);(case k=>k_is);(case h=>first|k_is|kernel_rfl|rfl)));(case d9=>(refine' Ro.N4 KX G rfl ?g ?a ?l ?c ?k ?f ?m ?kc;(case g=>k_is);(case a=>k_is);(case l=>k_is);(case c=>k_is);(case k=>k_is);(case f=>k_is);(case m=>k_is);(case kc=>k_is)));(case Zb|Zc|Zd|Ze|Zf|Zg|Zh|Zi|Zj|Zk|Zl|Zm|Zn|Zo|Zp|Zq|Zr|Zs|Zt|Zu|Zv|Zw|Zx|Zy|Zz|ZA=>(refine' Ro.N5 rfl ?a ?l ?c ?k ?f;(case a=>k_is);(case l=>k_is);(case c=>k_is);(case k=>k_is);(case f=>k_is)))
