import PyProof.Rows.All
import Wide.All
import OpenK.AllK
import Wide.FinOn
import Lean
import PyProof.EqAt
import PyProof.EqKinds
import PyProof.TupleCall
import PySem.Challenge.RW_royaltree_k14_hands
set_option bootstrap.genMatcherCode false
set_option genSizeOf false
set_option Elab.async false
set_option linter.all false
set_option maxRecDepth 100000
noncomputable section
open And renaming intro->Pc
open Array renaming getD_eq_getD_getElem?->ĳ,getElem?_toList->ś,length_toList->Ź,getElem?_setIfInBounds_self_of_lt->dy,getElem?_eq_some_iff->dR,perm_iff_toList_perm->dS,getElem?_eq_getElem->eJ,mem_toList_iff->pe,toList->ud,toList_inj->uY,getElem?_eq_none->Ci
open Array.Perm renaming refl->eG
open Bool renaming false_ne_true->æ,and_eq_true->Č,false_eq_true->av,and_true->dc,not_true->df,not_false->dZ,or_true->eK,eq_iff_iff->jW,not_eq_true'->lX,or_eq_true->oA,and_false->qc,false_or->B1,and_eq_false_iff->Fc,and_eq_true_iff->GQ,or_eq_false_iff->GR,eq_false_iff->LD,or_false->Ta
open Classical renaming propDecidable->eX
open False renaming elim->ao
open ForInStep renaming yield->bj
open Int renaming gcd->ŏ,toNat_natCast->gU,fmod_eq_emod_of_nonneg->ll,mul_right_comm->lq,fmod_nonneg_of_pos->oB,mul_comm->oC,natAbs_mul->qj,fmod_lt_of_pos->ue,gcd_dvd_right->uZ,gcd_dvd_left->xa,eq_of_mul_eq_mul_right->AH,natAbs_dvd_natAbs->GS,one_mul->G2,mul_fdiv_cancel->KU,emod_lt_of_pos->LF,emod_nonneg->SG,neg_dvd->aaE,neg_mul->aaF
open List renaming getElem?_eq_getElem->Å,getElem?_eq_some_iff->Æ,append_assoc->È,map_cons->Ó,length_map->Õ,size_toArray->Ú,mem_cons->Þ,getElem?_append_right->ß,replicate->à,getElem?_append_left->á,mem_of_getElem?->é,getElem?_map->ì,getElem?_set_ne->ð,mem_singleton->ò,getD_eq_getElem?_getD->ô,mem_cons_of_mem->õ,length_append->þ,range->Ă,all_eq_true->ă,length_cons->č,not_mem_nil->Ď,lookup_cons->ĕ,getElem?_set_self->Ę,mem_cons_self->ģ,mem_append_right->Ĥ,toArray->ĥ,getElem_of_mem->ĩ,contains_cons->Ł,pairwise_cons->ł,all_cons->Ő,mem_map->Ŕ,pairwise_map->Ř,map_append->Š,nodup_cons->š,any_cons->ax,getElem?_take_of_lt->ay,length_nil->aO,length_set->aP,mem_append->aQ,prefix_rfl->aR,getElem_inj->aY,length_take->aZ,length->bS,map_nil->bT,mergeSort_perm->cx,take_left->cG,find?_cons->c_,mem_filter->da,lookup->d_,prefix_append->fW,filter_cons_of_neg->f6,filter_cons_of_pos->f7,pairwise_mergeSort->f9,length_range->gR,set_append_right->hW,any_eq_true->iQ,cons_append->iR,mem_append_left->jf,append_nil->jX,forIn_cons->jY,nil_append->jZ,all_nil->kg,mem_filterMap->k9,pairwise_iff_getElem->lT,map_id->lY,nodup_append->lZ,reverse_cons->l6,ext_getElem->m7,getElem?_replicate->m8,getElem_mem->m9,pairwise_singleton->m_,length_zip->oG,take_left'->oH,length_filter_le->oW,mem_range->qf,filterMap_cons->rH,length_reverse->rJ,mapM_nil->rZ,set_comm->r_,lookup_append->tj,take_sublist->uI,length_drop->wU,mem_reverse->wV,of_mem_zip->xI,forIn_nil->Ak,mapM_cons->Al,drop_eq_getElem_cons->AI,getElem?_zip_eq_some->AJ,length_eq_zero_iff->Ck,map_map->DL,getElem?_eq_none->Fd,length_replicate->Fe,length_singleton->Ff,mem_iff_getElem->GU,find?_eq_none->KY,zip_cons_cons->KZ,any_eq_false->LH,drop_length->Oz,zipIdx_cons->OA,zipIdx_nil->Pd,map_drop->Tc,map_take->Td,map_set->Xd
open List.Pairwise renaming nil->oF
open List.cons renaming injEq->Ŵ,inj->KW
open Nat renaming reduceSub->Ç,le_refl->Ï,lt_of_lt_of_le->ä,ne_of_lt->ç,zero_le->ñ,ne_of_gt->đ,le_of_lt->Ė,le_trans->ě,lt_irrefl->Ņ,lt_of_le_of_lt->bw,not_lt->iX,le_of_eq->kF,le_succ->mK,lt_succ_of_lt->mL,le_add_right->nk,lt_succ_self->nq,le_of_succ_le->u6,sub_self->u7,le_mul_of_pos_right->DM,add_le_add_left->K0,succ_le_succ->Pe,not_lt_zero->SH,lt_trans->Yi,zero_add->Yj,log2_lt->aaG
open Nat.succ renaming inj->fX
open Ne renaming symm->Ŝ
open Option renaming some->À,bind_some->aj,map_some->bH,isSome_iff_exists->bU,isSome_map->tm,getD_some->uJ,isSome_some->GV,getD_none->K6
open Option.some renaming inj->è,injEq->abm
open Or renaming inl->GW,inr->OB
open PUnit renaming unit->Yk
open Prod renaming ext->ng
open PyProof renaming noPylong_of_log2->yN
open PyProof.Rows renaming slot_tuple_getitem->ņ,boot_sorted->ŕ,seqObj->Ų,envOfC->az,callWith_type1->cH,assignInOrder_cons->dE,AllBare->n8,mirror_perm->uj,listUpdate_at->wZ,SortKind->yS,args_sorted1->yT,assignInOrder_nil->yU,entry_sorted->yW,plain_sorted->yZ,bubble->AQ,envOfC->AS,kind_sorted->B',mirror_size->Ca,seqEpoch_at->Cb,entry_list_sort->Co,args_list_sort->Fj,slot_list_sort->Fu,sortedHeap_old->Fv,sortedHeap_at->G7,subscriptTail->G8,IntsAre->LG,subscriptTail_builtinR->LM,entry_tuple_getitem->SK,Subscript_->Ti,args_tuple_getitem->Tj,sortedHeap->Tp,IsTup->Xb,StrsAre->Xe,unpackItems_tuple->Xl,boot_enumerate->aaH,boot_zip->aaI,callWith_builtin1->aaJ,callWith_kw->aaK,formatField_int->aaL,ksk_l1->aaM,ksk_s1->aaN,ksk_sorted->aaO,ksk_t1->aaP,kws_cons->aaQ,kws_nil->aaR,seqObj->aaS,get?_update_seq->abg,list_sort_plain->abh
open PyProof.Rows.IsTup renaming new->u5
open PyProof.Rows.KeyOrd renaming kle_refl->ź,kle_trans->ai,kle_of_not_klt->a9,kle_of_klt->dg,kle_antisymm->jl,klt_of_klt_of_kle->Aj,kle->Xc
open PySem renaming wpAny_bind->Â,starEach->Ì,wpAny_pure->Í,Shared->Ò,wpAny->Ù,model->Ý,Program->Ą,eval->Ć,backTo->Ĕ,World->ğ,sizeLine_eq->ġ,bootBuiltins->Ĭ,compareOp->Į,Around->į,wpAny_call_entry->ı,wpAny_field->Ķ,Expr->ń,wpAny_holding->Ŋ,wpAny_newObj_type->Ŏ,wpAny_callSpecial?_slot->Œ,attributeBase->Ŧ,rawInt->ŧ,wpAny_Call_Name_kw->ų,behindInMarks->ae,wpAny_mono->aW,keywordEach->bG,cellsFrom->bI,binaryOp->bO,wpAny_truthy_bool->cy,sysModules->cI,wpAny_rule->cJ,holding->cR,FuncData->cW,wpAny_seqItems->cX,assignEach->dD,tupleKind_room_in1->dF,wpAny_setField_rec->dG,wpAny_passesOwn->dW,swapsWith->eB,wpAny_standAt->eF,codeAny->eM,foldedSetIterable->eO,mem_of_lookup->eS,Builtin->fB,backToKw->gu,bindName->gw,Keyword->iV,NameKind->iW,wpAny_setField->i3,standAt->kh,swappedStores->ki,swapsWithSole->kj,wpAny_attempt->km,wpAny_newList->kn,sliceBounds->kG,assign->lu,letOwnedTupleGo->lz,pyNext->lA,Pos->mT,builtinsNs->mY,wpAny_bindName->mZ,getItem->n_,IsPair->oE,assignInOrder->oM,getMethod->pA,tupleKind->pC,PlainAttrs->qm,call_meetsIn->qq,closureFor->qr,codeAny_mono->qt,codeAny_builtin->rM,wpAny_execs_nil->rP,IsPart->uf,bindArgs->uh,newFunctionEnv->uk,wpAny_updateSeq_pair->um,BindsTo->uG,callerA->uK,wpAny_onRaise->w4,wpAny_pyIter_tuple->xi,callWith->yV,intKind->yY,valueAt->y9,wpAny_pyIter_list->y_,wpAny_typeOf->za,DictEntry->AD,Env->AF,PassesOwn->AK,codeAmong->AR,noFill_tuple_add->AU,setFlight->AW,IsZip->B3,subscripted->Cc,Within->Cm,wpAny_updateSeq->Cp,PyData->Fg,atKey->Fm,call_meets->Fo,checkCount->Fp,evalEach->Fq,isTrue->Ft,wpAny_call->Fw,wpAny_newTuple->Fx,call->G4,plainId_quiet->G5,seq_tuple_add->G6,wpAny_comprehension_free->G9,bindC->K_,bindL->K',field->La,noteFrame->Lb,pushCells->Ld,seqIndex?->Le,concat_meets->LJ,setItem->LL,typeOf->LN,wpAny_isTrue_Compare1->OD,compEnvC->Pg,seqIndex_of->Ph,unbindBehindTheSuite->Pj,wpAny_letGo->Pk,wpAny_of_eq->Pl,Tok->SJ,wpAny_isSubtype_exc->SM,Result->Tg,defaultsOf->Tn,pyIter->To,wpAny_Name->Tq,newList->Xi,slot_list_getitem->Xj,unaryOp->Xk,wpAny_Call_method->Xm,wpAny_assign_Name->Xn,wpAny_loadPart_at->Xo,wpAny_pyIter_enum->Xp,wpAny_sequenceKey->Xq,TriplesOk->Yv,checkBuiltinCall->Yw,updateSeq->Yx,wpAny_Dict_empty->Yy,wpAny_execs_cons->Yz,wpAny_isInstance->YA,wpAny_pyIter_zip->YB,Fin->aa7,exec_Assign_arm->abf,pushCells_keeps->abi
open PySem.Around renaming under_plainId->iP,under->tf
open PySem.Builtin.Dict renaming noArgs->aaA,showsAll->aaB
open PySem.Builtin.Dict_items renaming ownsTuple->Oy
open PySem.Builtin.Int renaming intBits->bM,intTooBig->xH
open PySem.Builtin.List renaming listExtendWith->rT,listSameRef->uH
open PySem.Builtin.Range renaming rangeSize->Yd
open PySem.Builtin.Slice renaming slicePlaces->cZ,sliceAdjust->iU,sliceApplied->rX,sliceFields->Ye,slicePartIndex->Yf
open PySem.Builtin.SmallTypes renaming nextOf->Ĵ,ownedTupleIsFree->ak,ownedTupleHandOut->kZ
open PySem.Builtin.Str renaming strKind->qg
open PySem.Builtin.Tuple renaming tupleExact->dz,tupleItemsOf->rY,tupleIsExact->Yg
open PySem.Calls renaming call_function_entry->bE,spliced_cons->fC,callWith_builtin->gq,spliced_nil->lS,evalArgs_plain->pf,Name_function_global->yM
open PySem.Challenge renaming pw_royaltree_k14_hands->Tf
open PySem.Code renaming isFrame->DK,isGuard->W9,frames->Yh
open PySem.EntryCells renaming newEntry->AE
open PySem.EqMixed renaming eq_bool_str->Yl,eq_int_str->Ym,eq_str_bool->Yn,eq_str_int->Yo,ne_bool_str->Yp,ne_int_str->Yq,ne_str_bool->Yr,ne_str_int->Ys
open PySem.EqNone renaming eq_bool_none->aaT,eq_int_none->aaU,eq_none_bool->aaV,eq_none_int->aaW,eq_none_none->aaX,eq_none_str->aaY,eq_str_none->aaZ,ne_bool_none->aa0,ne_int_none->aa1,ne_none_bool->aa2,ne_none_int->aa3,ne_none_none->aa4,ne_none_str->aa5,ne_str_none->aa6
open PySem.F renaming slot_dict_itemiterator_next->ř,slot_dict_get->a7,plain_extend_loop->eA,slot_tuple_iterator_next->eR,plainAttrs_dict->fu,plainAttrs_list->fw,slot_dict_items->fz,entry_dict_get->f_,args_tuple_add_2->lr,entry_tuple_add->l8,slot_tuple_add->mU,args_dict_itemiterator_next_1->oX,entry_dict_itemiterator_next->ph,slot_zip_next->qd,slot_dict_items_iter->u9,excBase_ValueError->xb,args_dict_items_1->xJ,entry_extend_loop->xK,entry_dict_items->yO,args_dict_get_2->Am,args_dict_get_3->An,attr_ValueError->Ao,plain_list_iadd->Ap,type_dict_items->Aq,args_tuple_iterator_next_1->AG,entry_tuple_iterator_next->B2,slot_list_pop->B4,slot_tuple_lt->B5,type_dict_get->B6,type_list_pop->B7,args_zip_next_1->SF,entry_zip_next->Tb
open PySem.Flow renaming next->Cj
open PySem.Heap renaming get?_push_of_some->Ã,lt_size->Ð,get?_push_size->Ø,get?_update_self->ú,get?_update_other->ý,size_push->Ģ,SameBut->eL,get?_none_of_le->qe,IsTuple->Xa
open PySem.Heap.DictOf renaming new->abl
open PySem.Heap.IsSliceOf renaming new->W_
open PySem.Heap.IsTuple renaming push->aaC
open PySem.Heap.SameBut renaming update->ť,refl->aaD
open PySem.NameKind renaming free->Ń,cell->bN
open PySem.Obj renaming mapFields->ø,mapSeq->ň,isFreed_of_fields->dA,data_mapFields->LI
open PySem.Paired renaming length->qk,snoc->Te
open PySem.PassesOwn renaming never->GX
open PySem.SeqAt renaming EqAt->sj
open PySem.SeqAt.EqAt renaming same->tu,bool_tuple->yQ,none_tuple->yR,bool_list->Ar,int_tuple->As,none_list->Au,str_tuple->Av,int_list->AL,str_list->AM,int_str->B8,of_refs->B9,str_int->B_
open PySem.SeqAt.RcAt renaming lists_lengths->wY,tuples->Cn,lists->DO
open PySem.SeqAt.RcNeAt renaming list_str->aa9,lists->aba,lists_lengths->abb,tuple_str->abc,tuples->abd
open PySem.Shared renaming TypeIs->Pf,heap->Th
open PySem.Str renaming ofString->å,empty->gf,length_append->mM
open PySem.Value renaming ref->Î,none->ë,type->bW,bool->fD,isInt->lU,isStrOf_shape->qp,isStrOf->rK,int->vg,str->vh,builtin->AN,float->Fi,bytes->Xf
open PySem.W renaming Frag->É,findIn->ö,mg_none_of->ĉ,nsIn->ď,keepIn->Ġ,kia_one->ī,kas_desc->ĸ,fnOf->ľ,kas_place->ő,codeHdIn->ţ,emptyDict->ű,kas_rev->ag,kas_asc->aA,kas_descPart->bx,instObj->bF,clsIn->cQ,codeIn->dB,tabObj->dC,kat_cons->dU,specialIn->gb,plainGet->gW,mg_of->hJ,kas_count->hU,kat_yes->iY,takesIn->iZ,hasDictIn->k_,cellsFrom_some->mV,isFn->mW,OpenLaw->ni,methodCall_KW->nr,kitOne->oJ,lookIn->oK,callWith_K0->pj,plainGet_of->pk,kas_tail3->pB,mroIn->qh,callWith_K->qo,kitx_dict->sd,kitx_list->se,methodObj->sf,plainOver->si,kat_kind->ug,kas_sort->ui,kat_nil->vc,makesIn->vd,takerIn->ve,kat_lt->xf,kat_no->xg,typeIn->xh,subIn->yP,codeHd_of_K->DN,kas_bin->DP,kitx_tuple->Fh,handedIn->G3,KatTups->K8,kla_obj->K9,kitOne->LK,WalkO->OC
open PySem.W.KatTups renaming cons->u_,nil->wW
open PySem.W.Looks renaming of_pure->wX,here->Yt,ld->Yu
open PySem.W.WData renaming int->abe
open PySem.W.WShape renaming has->Xg
open PySem.Within renaming cons->aa8
open Rat renaming divInt->ŉ
open Sum renaming inr->Ť,inl->vf
open Sum.inl renaming inj->SI
open Sum.inr renaming inj->lb
open True renaming intro->bq
open _root_ renaming List->Á,Option->Ë,if_pos->Ñ,reduceIte->Ô,if_neg->Ö,of_decide_eq_true->î,decide_eq_false->ÿ,Array->Ğ,decide_eq_true->Ī,congrArg->ĵ,beq_eq_false_iff_ne->Ş,Decidable->ŷ,decide_true->Ÿ,decide_false->aL,or_false->bP,decide_eq_true_eq->eN,if_true->fE,propext->fF,if_false->gy,beq_iff_eq->mX,DecidableEq->n9,beq_self_eq_true->pq,eq_true->yX,bne_self_eq_false->Xh
namespace L2
open PySem PySem.Spec PyProof.Rows
abbrev Key:=Sum Int Str
def yf:Key->Value->Bool
 | .inl k,v=>lU k v
 | .inr x,v=>rK x v
def ZJ (w:ğ):Key->Int
 | .inl k=>hashInt k
 | .inr x=>hashStr w x
theorem bA:∀ {k:Key}{v:Value},yf k v=true->(∃ i t,k=vf i/\v=vg i t)∨(∃ x t,k=Ť x/\v=vh x t)
 | .inl i,v,h=>by
  obtain⟨t,e⟩:=Value.isInt_shape (k:=i) (v:=v) h
  exact .inl ⟨i,t,rfl,e⟩
 | .inr x,v,h=>by
  obtain⟨t,e⟩:=qp (x:=x) (v:=v) h
  exact .inr ⟨x,t,rfl,e⟩
theorem FY (i:Int)(t:SJ):yf (.inl i) (.int i t)=true:=by simp[yf,lU]
theorem FZ (x:Str)(t:SJ):yf (.inr x) (.str x t)=true:=by simp[yf,rK]
theorem Qo (a b:Int):decide ((vf a:Key)=vf b)=(a == b):=by
 by_cases e:a=b
 ·subst e;simp
 ·have h:¬ (vf a:Key)=vf b:=λ q=>e (SI q)
  rw[ÿ h]
  exact(Ş.mpr e).symm
theorem Qr (a b:Str):decide ((Ť a:Key)=Ť b)=decide (a=b):=by
 by_cases e:a=b
 ·subst e;simp
 ·have h:¬ (Ť a:Key)=Ť b:=λ q=>e (lb q)
  rw[ÿ h,ÿ e]
theorem Qp (a:Int)(b:Str):decide ((vf a:Key)=Ť b)=false:=ÿ (λ q=>nomatch q)
theorem Qq (a:Str)(b:Int):decide ((Ť a:Key)=vf b)=false:=ÿ (λ q=>nomatch q)
def Ţ (prog:Ą)(w:ğ):PySem.KeyKind prog w Key where
 is:=yf
 hash:=ZJ w
 inj:=λ v a b ha hb=>by
  rcases bA ha with⟨i,t,rfl,rfl⟩|⟨x,t,rfl,rfl⟩
  ·rcases bA hb with⟨j,u,rfl,e⟩|⟨y,u,rfl,e⟩
   ·injection e with e1 _;rw[e1]
   ·exact nomatch e
  ·rcases bA hb with⟨j,u,rfl,e⟩|⟨y,u,rfl,e⟩
   ·exact nomatch e
   ·injection e with e1 _;rw[e1]
 byValue:=λ k v h=>by
  rcases bA h with⟨i,t,rfl,rfl⟩|⟨x,t,rfl,rfl⟩<;>rfl
 pyHash:=λ hv h=>by
  rcases bA hv with⟨i,t,rfl,rfl⟩|⟨x,t,rfl,rfl⟩
  ·exact wpAny_pyHash_int h
  ·exact wpAny_pyHash_str h
 eqBool:=λ hu hv h=>by
  rcases bA hu with⟨i,t,rfl,rfl⟩|⟨x,t,rfl,rfl⟩
  ·rcases bA hv with⟨j,u,rfl,rfl⟩|⟨y,u,rfl,rfl⟩
   ·rw[Qo]at h;exact wpAny_eqBool_int h
   ·rw[Qp]at h;exact B8 i t y u _ _ _ _ h
  ·rcases bA hv with⟨j,u,rfl,rfl⟩|⟨y,u,rfl,rfl⟩
   ·rw[Qq]at h;exact B_ x t j u _ _ _ _ h
   ·rw[Qr]at h;exact wpAny_eqBool_str h
 «strs»:=λ k x t v h=>by
  rcases bA h with⟨i,u,rfl,e⟩|⟨y,u,rfl,e⟩
  ·exact nomatch e
  ·injection e with e1 _
   subst e1
   cases v<;>rfl
theorem ua (prog:Ą)(w:ğ)(i:Int)(t:SJ):(Ţ prog w).is (.inl i) (.int i t)=true:=FY i t
theorem ub (prog:Ą)(w:ğ)(x:Str)(t:SJ):(Ţ prog w).is (.inr x) (.str x t)=true:=FZ x t
inductive V where
 | Ē|bl (b:Bool)|int (i:Int)|str (x:Str)|CA (b:Ğ UInt8)|OO (b:UInt64)|ref (a:Addr)|ty (n:String)
 deriving n9
def RelV:V->Value->Prop
 | .Ē,u=>u=ë
 | .bl b,u=>u=fD b
 | .int i,u=>∃ t,u=vg i t
 | .str x,u=>∃ t,u=vh x t
 | .CA b,u=>∃ t,u=Xf b t
 | .OO b,u=>∃ t,u=Fi b t
 | .ref a,u=>u=Î a
 | .ty n,u=>u=bW n
abbrev Vals:Á V->Á Value->Prop:=Paired RelV
theorem Vals.length (r:Vals xs us):xs.length=us.length:=qk r
theorem Vals.get:∀ {xs:Á V}{us:Á Value}{i:Nat}{x:V},Vals xs us->xs[i]? = À x->∃ u,us[i]? = À u/\RelV x u
 | _,_,_,_,.nil,e=>by simp at e
 | _,_,0,_,.cons r _,e=>by simp at e;subst e;exact⟨_,rfl,r⟩
 | _,_,i+1,x,.cons _ t,e=>by
  obtain⟨u,h1,h2⟩:=Vals.get (i:=i) (x:=x) t (by simpa using e)
  exact⟨u,by simpa using h1,h2⟩
theorem Vals.set (r:RelV x u):∀ {xs:Á V}{us:Á Value}(i:Nat),Vals xs us->Vals (xs.set i x) (us.set i u)
 | _,_,_,.nil=>.nil
 | _,_,0,.cons _ t=>.cons r t
 | _,_,i+1,.cons q t=>.cons q (Vals.set r i t)
theorem Vals.append:∀ {xs ys:Á V}{us ws:Á Value},Vals xs us->Vals ys ws->Vals (xs++ys) (us++ws)
 | _,_,_,_,.nil,s=>s
 | _,_,_,_,.cons r t,s=>.cons r (Vals.append t s)
theorem Vals.take:∀ {xs:Á V}{us:Á Value}(n:Nat),Vals xs us->Vals (xs.take n) (us.take n)
 | _,_,0,_=>.nil
 | _,_,_+1,.nil=>.nil
 | _,_,n+1,.cons r t=>.cons r (Vals.take n t)
theorem Vals.drop:∀ {xs:Á V}{us:Á Value}(n:Nat),Vals xs us->Vals (xs.drop n) (us.drop n)
 | _,_,0,r=>r
 | _,_,_+1,.nil=>.nil
 | _,_,n+1,.cons _ t=>Vals.drop n t
def m4:Ë V->Ë Value->Prop
 | some v,À u=>RelV v u
 | none,none=>True
 | _,_=>False
def KV {κ:Type}:Á (κ × V)->Á (κ × Value)->Prop:=Paired λ(p:κ × V) (q:κ × Value)=>p.1=q.1/\RelV p.2 q.2
def kV:Key->V
 | .inl i=>.int i
 | .inr x=>.str x
inductive HO where
 | lst (xs:Á V)
 | tup (xs:Á V)
 | dK (kvs:Á (Key × V))|dT (kvs:Á (Á Key × V))
 | set (S:Int->Bool) (n:Nat)
 | ins (C dx:Addr) (fs:Á (Str × V))
 | own (x:Addr)
 | xd (fs:Á (Str × V))
 | met (f x:Addr)
 | Wy (lo hi:Int)
 | oZ (o:Obj) (u:HO)
 | uW (ps:Ğ Value)
 | ext (φ:Heap->Prop)
abbrev Hp:=Addr->Ë HO
def upd (H:Hp)(a:Addr)(o:HO):Hp:=λ b=>if b=a then À o else H b
theorem û:upd H a o a=À o:=by unfold upd;rw[Ñ rfl]
theorem ã (h:b≠a):upd H a o b=H b:=by unfold upd;rw[Ö h]
theorem E8:upd (upd H a o) a u=upd H a u:=by
 funext b;unfold upd;split<;>rfl
theorem vY {H:Hp}{a b:Addr}{o u:HO}(h:H a=À o)(h':H b=À u)(d:o≠u):a≠b:=by
 intro e;subst e;rw[h]at h';exact d (è h')
theorem Đ {H:Hp}{a b:Addr}{o:HO}(h:H a=À o)(h':H b=none):a≠b:=by
 intro e;subst e;rw[h]at h';cases h'
section
variable (P:Ą)(w:ğ)
def Ũ (H:Hp)(h:Heap)(a:Addr):HO->Prop
 | .lst xs=>xs.length<=sizeLine/\∃ (its:Á Value) (n:Nat),Vals xs its/\h.get? a=À { cls:=.type "list",data:=.seq its.toArray n }
 | .tup xs=>xs.length<=sizeLine/\∃ its:Á Value,Vals xs its/\Xb h a its.toArray
 | .dK kvs=>kvs.length<=sizeLine/\(a == cI)=false/\∃ vs,KV kvs vs/\h.DictOf (Ţ P w) a vs
 | .dT kvs=>kvs.length<=sizeLine/\(a == cI)=false/\∃ xs:Á (Á Key × Addr × Value),
   Paired (λ(p:Á Key × V) (q:Á Key × Addr × Value)=>p.1=q.1/\H q.2.1=À (.tup (p.1.map kV))/\RelV p.2 q.2.2) kvs xs/\
   ∃ o es ep,h.get? a=À o/\o.ExactDict/\o.data=.dict es ep/\es.toList=xs.map (entryOfKey (pC (Ţ P w)))/\(xs.map (·.1)).Nodup
 | .set S n=>h.SetOf (yY P w) a S n
 | .ins C dx fs=>H dx=À (.own a)/\fs.length<=1000/\dx≠a/\h.get? a=À (bF C dx)/\
   ∃ mA,h.Ns1 dx mA/\(∀ f,m4 (fs.lookup f) (mA f))/\Cm mA (fs.map (·.1))
 | .own _=>∃ o,h.get? a=À o
 | .xd fs=>∃ mA,h.Ns1 a mA/\∀ f,m4 (fs.lookup f) (mA f)
 | .Wy lo hi=>∃ t u v,h.get? a=À { cls:=.type "range",data:=.fields #[.int lo t,.int hi u,.int 1 v] }
 | .oZ o u=>h.get? a=À o/\Ũ H h a u
 | .uW ps=>h.get? a=À { cls:=.none,data:=.fields ps }
 | .met f x=>h.get? a=À (sf (.ref f) (.ref x))
 | .ext φ=>φ h/\(∃ o,h.get? a=À o)/\∀ h1 h2:Heap,φ h1->(∀ o,h1.get? a=À o->h2.get? a=À o)->φ h2
def m3 (H:Hp)(h:Heap):Prop:=∀ a o,H a=À o->Ũ P w H h a o
end
section
variable {P:Ą}{w:ğ}{H H':Hp}{h h':Heap}{a:Addr}{o:HO}
theorem Ũ.lt (x:Ũ P w H h a o):a < h.objs.size:=by
 cases o with
 | lst xs=>obtain⟨_,_,_,_,e⟩:=x;exact Ð e
 | tup xs=>obtain⟨_,_,_,p⟩:=x;exact p.lt
 | dK kvs=>obtain⟨_,_,_,_,o,_,_,e,_⟩:=x;exact Ð e
 | dT kvs=>obtain⟨_,_,_,_,o,_,_,e,_⟩:=x;exact Ð e
 | set S n=>obtain⟨o,_,_,_,e,_⟩:=x;exact Ð e
 | ins C dx fs=>obtain⟨_,_,_,e,_⟩:=x;exact Ð e
 | own y=>obtain⟨_,e⟩:=x;exact Ð e
 | xd fs=>obtain⟨_,⟨_,_,_,e,_⟩,_⟩:=x;exact Ð e
 | Wy lo hi=>obtain⟨_,_,_,e⟩:=x;exact Ð e
 | oZ ob u=>obtain⟨e,_⟩:=x;exact Ð e
 | uW ps=>exact Ð (show h.get? a=À _ from x)
 | met f y=>exact Ð (show h.get? a=À _ from x)
 | ext φ=>obtain⟨_,⟨_,e⟩,_⟩:=x;exact Ð e
theorem Paired.QA:∀ {l₁:Á α}{l₂:Á β},Paired F l₁ l₂->(∀ a b,F a b->G a b)->Paired G l₁ l₂
 | _,_,.nil,_=>.nil
 | _,_,.cons r t,f=>.cons (f _ _ r) (Paired.QA t f)
theorem Ũ.p8 (x:Ũ P w H h a o)(k:∀ b u,(b=a∨H b=À (.own a))->h.get? b=À u->h'.get? b=À u)
  (ho:∀ b,H b=À (.own a)->H' b=À (.own a)) (ht:∀ b xs,H b=À (.tup xs)->H' b=À (.tup xs)):Ũ P w H' h' a o:=by
 induction o with
 | lst xs=>obtain⟨z,its,n,r,e⟩:=x;exact⟨z,its,n,r,k _ _ (.inl rfl) e⟩
 | tup xs=>obtain⟨z,its,r,ob,e,c⟩:=x;exact⟨z,its,r,ob,k _ _ (.inl rfl) e,c⟩
 | dK kvs=>obtain⟨z,y,vs,r,ob,es,ep,e,c⟩:=x;exact⟨z,y,vs,r,ob,es,ep,k _ _ (.inl rfl) e,c⟩
 | dT kvs=>
  obtain⟨z,y,xs,r,ob,es,ep,e,c⟩:=x
  exact⟨z,y,xs,Paired.QA r λ p q z=>⟨z.1,ht _ _ z.2.1,z.2.2⟩,ob,es,ep,k _ _ (.inl rfl) e,c⟩
 | set S n=>obtain⟨ob,es,ep,t,e,c⟩:=x;exact⟨ob,es,ep,t,k _ _ (.inl rfl) e,c⟩
 | ins C dx fs=>
  obtain⟨d,z,ne,e,mA,⟨od,es,ep,e2,c⟩,r⟩:=x
  exact⟨ho _ d,z,ne,k _ _ (.inl rfl) e,mA,⟨od,es,ep,k _ _ (.inr d) e2,c⟩,r⟩
 | own y=>obtain⟨ob,e⟩:=x;exact⟨ob,k _ _ (.inl rfl) e⟩
 | xd fs=>obtain⟨mA,⟨od,es,ep,e,c⟩,r⟩:=x;exact⟨mA,⟨od,es,ep,k _ _ (.inl rfl) e,c⟩,r⟩
 | Wy lo hi=>obtain⟨t,u,v,e⟩:=x;exact⟨t,u,v,k _ _ (.inl rfl) e⟩
 | oZ ob u ih=>obtain⟨e,q⟩:=x;exact⟨k _ _ (.inl rfl) e,ih q⟩
 | uW ps=>
  have e:h.get? a=À { cls:=.none,data:=.fields ps }:=x
  show h'.get? a=À { cls:=.none,data:=.fields ps }
  exact k a _ (.inl rfl) e
 | met f y=>
  have e:h.get? a=À (sf (.ref f) (.ref y)):=x
  show h'.get? a=À (sf (.ref f) (.ref y))
  exact k a _ (.inl rfl) e
 | ext φ=>obtain⟨p,⟨o,e⟩,st⟩:=x;exact⟨st _ _ p λ o q=>k _ _ (.inl rfl) q,⟨o,k _ _ (.inl rfl) e⟩,st⟩
theorem m3.lt (x:m3 P w H h)(e:H a=À o):a < h.objs.size:=(x a o e).lt
theorem m3.fresh (x:m3 P w H h)(e:h.objs.size<=a):H a=none:=by
 cases q:H a with
 | none=>rfl
 | some u=>exact absurd (ä (x.lt q) e) (Ņ _)
theorem m3.kept (x:m3 P w H h)(k:∀ b u,h.get? b=À u->h'.get? b=À u):m3 P w H h':=λ a o e=>
 (x a o e).p8 (λ b u _ q=>k b u q) (λ _ q=>q) λ _ _ q=>q
theorem m3.laid (x:m3 P w H h)(k:∀ b u,h.get? b=À u->h'.get? b=À u)(hp:h.objs.size<=a)(new:Ũ P w (upd H a o) h' a o):m3 P w (upd H a o) h':=λ b u e=>by
 have hn:=x.fresh hp
 by_cases hb:b=a
 ·subst hb;rw[û]at e;cases e;exact new
 ·rw[ã hb]at e
  exact(x b u e).p8 (λ c v _ q=>k c v q) (λ c q=>by rw[ã (Đ q hn)];exact q) λ c xs q=>by rw[ã (Đ q hn)];exact q
end
def Rd (H:Hp)(a:Addr)(u:HO):Prop:=H a=À u∨∃ o,H a=À (.oZ o u)
theorem Rd.ok (r:Rd H a u)(x:m3 P w H h):Ũ P w H h a u:=by
 rcases r with r|⟨o,r⟩
 ·exact x a u r
 ·obtain⟨_,q⟩:=x a _ r
  exact q
def SS:Ë HO->Prop
 | some (.lst _)=>True
 | some (.dK _)=>True
 | some (.dT _)=>True
 | some (.set _ _)=>True
 | some (.ins _ _ _)=>True
 | some (.ext _)=>True
 | _=>False
section
variable {P:Ą}{w:ğ}{H:Hp}{h h':Heap}{x e:Addr}{o':HO}
theorem m3.write (ok:m3 P w H h)(mu:SS (H x)) (he:e=x∨H e=À (.own x)) (k:∀ b u,b≠e->h.get? b=À u->h'.get? b=À u)(S2:∃ u,h'.get? e=À u)
  (new:Ũ P w (upd H x o') h' x o'):m3 P w (upd H x o') h':=λ b u q=>by
 have VZ:∀ c y,H c=À (.own y)->c≠x:=λ c y r z=>by subst z;rw[r]at mu;exact mu
 have ZW:∀ c xs,H c=À (.tup xs)->c≠x:=λ c xs r z=>by subst z;rw[r]at mu;exact mu
 by_cases hb:b=x
 ·subst hb;rw[û]at q;cases q;exact new
 ·rw[ã hb]at q
  by_cases Mz:b=e
  ·have q':H b=À (.own x):=by
    rcases he with z|z
    ·exact absurd (Mz.trans z) hb
    ·rw[Mz];exact z
   rw[q]at q';cases q'
   obtain⟨v,hv⟩:=S2
   exact⟨v,by rw[Mz];exact hv⟩
  ·refine(ok b u q).p8 (λ c v hc r=>k c v ?_ r) (λ c r=>by rw[ã (VZ c b r)];exact r) λ c xs r=>by rw[ã (ZW c xs r)];exact r
   rcases hc with rfl|hc
   ·exact Mz
   ·rintro rfl
    rcases he with z|z
    ·exact VZ c b hc z
    ·rw[hc]at z;cases z;exact hb rfl
end
structure Un (fs ex:Á Addr)(H H':Hp)(h h':Heap):Prop where
 keep:∀ b o,h.get? b=À o->H b=none->b∉fs->b∉ex->h'.get? b=À o
 slot:∀ b o,h.get? b=À o->H b=none->b∈fs->b∉ex->∃ sl,h'.get? b=À { o with slots:=sl }
 free:∀ b o,h.get? b=À o->H b=none->b∉ex->H' b=none
 there:∀ b o,h.get? b=À o->b∉ex->∃ o',h'.get? b=À o'
 mJ:∀ b xs,H b=À (.tup xs)->H' b=À (.tup xs)
 kS:∀ b o u,H b=À (.oZ o u)->H' b=À (.oZ o u)
 wD:∀ b ps,H b=À (.uW ps)->∃ more,H' b=À (.uW (ps++more))
section
variable {fs XI ex ex':Á Addr}{H H1 H2:Hp}{h h1 h2 h':Heap}{a x e:Addr}{o:HO}
theorem Un.any (u:Un fs ex H H1 h h1)(q:h.get? b=À ob)(n:H b=none)(hx:b∉ex):∃ sl,h1.get? b=À { ob with slots:=sl }:=by
 by_cases hb:b∈fs
 ·exact u.slot b ob q n hb hx
 ·exact⟨ob.slots,u.keep b ob q n hb hx⟩
theorem Un.kept (k:∀ b u,h.get? b=À u->h'.get? b=À u):Un fs ex H H h h':=
 ⟨λ b ob q _ _ _=>k b ob q,λ b ob q _ _ _=>⟨ob.slots,k b ob q⟩,λ _ _ _ n _=>n,λ b ob q _=>⟨ob,k b ob q⟩,λ _ _ q=>q,λ _ _ _ q=>q,λ _ ps q=>⟨#[],by rw[q];simp⟩⟩
theorem Un.refl:Un fs ex H H h h:=Un.kept λ _ _ q=>q
theorem Un.laid (k:∀ b u,h.get? b=À u->h'.get? b=À u)(hp:h.objs.size<=a)(hn:H a=none):Un fs ex H (upd H a o) h h' where
 keep:=λ b u q _ _ _=>k b u q
 slot:=λ b u q _ _ _=>⟨u.slots,k b u q⟩
 free:=λ b u q n _=>by rw[ã (ç (ä (Ð q) hp))];exact n
 there:=λ b u q _=>⟨u,k b u q⟩
 mJ:=λ b xs q=>by rw[ã (Đ q hn)];exact q
 kS:=λ b u xs q=>by rw[ã (Đ q hn)];exact q
 wD:=λ b ps q=>⟨#[],by rw[ã (Đ q hn),q];simp⟩
theorem Un.write (mu:SS (H x)) (he:e=x∨H e=À (.own x)) (k:∀ b u,b≠e->h.get? b=À u->h'.get? b=À u)(S2:∃ u,h'.get? e=À u):Un fs ex H (upd H x o) h h':=by
 have hx:∀ b,H b=none->b≠x:=λ b n z=>by subst z;rw[n]at mu;exact mu
 have hb:∀ b,H b=none->b≠e:=λ b n z=>by
  subst z
  rcases he with r|r
  ·exact hx b n r
  ·rw[n]at r;cases r
 have hm:∀ b u,H b=À u->¬ SS (À u)->b≠x:=λ b u q nm z=>by subst z;rw[q]at mu;exact nm mu
 refine⟨λ b u q n _ _=>k b u (hb b n) q,λ b u q n _ _=>⟨u.slots,k b u (hb b n) q⟩,λ b u q n _=>by rw[ã (hx b n)];exact n,λ b u q _=>?_,
  λ b xs q=>by rw[ã (hm b _ q λ z=>z)];exact q,λ b u xs q=>by rw[ã (hm b _ q λ z=>z)];exact q,λ b ps q=>⟨#[],by rw[ã (hm b _ q λ z=>z),q];simp⟩⟩
 by_cases Mz:b=e
 ·subst Mz;exact S2
 ·exact⟨u,k b u Mz q⟩
end
def LA (h:Heap)(H:Hp):Á Addr:=(Ă h.objs.size).filter λ a=>(H a).isSome
def zE (h:Heap)(H:Hp):Heap:=PySem.W.hideAll h (LA h H)
theorem FT (h:Heap)(H:Hp):(zE h H).objs.size=h.objs.size:=PySem.W.hideAll_size _ _
theorem Im (e:h.get? b=À o)(n:H b=none):(zE h H).get? b=À o:=
 PySem.W.hideAll_get _ e λ hm=>by
  have q:(H b).isSome=true:=(da.mp hm).2
  rw[n]at q;simp at q
theorem Nk (e:(zE h H).get? b=À o):h.get? b=À o/\H b=none:=by
 have e':h.get? b=À o:=PySem.W.of_hideAll (LA h H) e
 refine⟨e',?_⟩
 cases q:H b with
 | none=>rfl
 | some x=>
  have hm:b∈LA h H:=da.mpr ⟨qf.mpr (Ð e'),by simp[q]⟩
  have z:(zE h H).get? b=none:=PySem.W.hideAll_none (LA h H) hm
  rw[z]at e;cases e
def ze (g h:Heap)(L:Addr):Á (Addr × Obj):=(Ă h.objs.size).filterMap λ a=>if a=L∨(g.get? a).isSome=true then none else (h.get? a).map λ o=>(a,o)
theorem t_ (h1:a≠L)(h2:g.get? a=none)(h3:h.get? a=À o):(a,o)∈ze g h L:=
 k9.mpr ⟨a,qf.mpr (Ð h3),by simp[h1,h2,h3]⟩
theorem v7 (hp:p∈ze g h L):p.1≠L/\g.get? p.1=none/\h.get? p.1=À p.2:=by
 obtain⟨b,_,e⟩:=k9.mp hp
 split at e
 ·cases e
 ·rename_i hn
  cases q:h.get? b with
  | none=>rw[q]at e;simp at e
  | some u=>
   rw[q]at e
   simp only[bH,abm]at e
   subst e
   refine⟨λ z=>hn (.inl z),?_,q⟩
   show g.get? b=none
   cases r:g.get? b with
   | none=>rfl
   | some v=>exact(hn (.inr (by simp[r]))).elim
theorem Jp:News g L h (ze g h L):=λ p hp=>let ⟨a,b,c⟩:=v7 hp;⟨c,a,b⟩
structure Mod (K:É)(mg:Str->Ë Value)(base:Heap):Prop where
 Vm:K.In base
 glob:base.Ns mainGlobals mg
 blt:∃ mb,base.Ns mY mb/\∀ x:Str,x≠"__name__"->mb x=Ĭ x
 nolimit:base.NoLimit
 Jt:base.NoDigits
 bmain:∃ bm ob,mg "__builtins__"=À (.ref bm)/\bm≠mY/\base.get? bm=À ob/\ob.cls=.type "module"/\ob.dict=À mY/\ob.data=.plain
structure Cx where
 prog:Ą
 w:ğ
 K:É
 mg:Str->Ë Value
 base:Heap
 A:į
 N:Á Str
 jS:Ò
 Cr:Hp
 env:AF
 outer:Á AF
 stack:Á AF
 ex:Á Addr
 fn:Str->Bool
 calm:Bool
 pn:Á (Addr × Obj)
 xe:Value->Ò->Prop
def Ax (l:Á AF):Á Addr:=l.filterMap (·.frame)
abbrev Cx.fs (X:Cx):Á Addr:=Ax X.outer
def YF (sc:Scope)(x:Str):Prop:=sc.names.lookup x=À .local∨sc.names.lookup x=À .cell∨sc.names.lookup x=À .free
def Loc (sc:Scope)(x:Str):Prop:=sc.names.lookup x=À .local∨sc.names.lookup x=À .cell
def Look (env:AF)(h:Heap)(m:Str->Ë Value)(x:Str)(u:Value):Prop:=
 (env.kindOf x=À .local/\m x=À u)∨((env.kindOf x=À .cell∨env.kindOf x=À .free)/\∃ c,env.cells.lookup x=À c/\h.IsCell c (À u))
structure Cx.Ok (X:Cx):Prop where
 mod:Mod X.K X.mg X.base
 kind:X.env.scope.kind=.function
 glob:X.env.globals=mainGlobals
 blt:X.env.builtins=mY
 above:X.jS.heap.objs.size<=X.env.locals
 inj:∀ x y c,X.env.cells.lookup x=À c->X.env.cells.lookup y=À c->x=y
 has:∀ x,(X.env.kindOf x=À .cell∨X.env.kindOf x=À .free)->∃ c,X.env.cells.lookup x=À c
 OI:∀ x c,X.fn x=true->X.env.cells.lookup x=À c->X.jS.heap.objs.size<=c
 hd:X.calm=true->X.A.handled=none
 frames:X.A.frames=À X.stack
 Se:X.stack=X.outer∨(X.stack=X.env :: X.outer/\X.env.frame=À X.env.locals)
 UI:∀ b∈X.ex,b≠X.env.locals/\∀ x c,X.env.cells.lookup x=À c->c≠b
 bs:∀ b o,X.base.get? b=À o->X.jS.heap.get? b=À o/\X.Cr b=none
 DX:X.base.objs.size<=X.jS.heap.objs.size
 BC:∀ b o,X.base.get? b=À o->b∉X.ex
 Bg:∀ b∈X.ex,b∉X.fs
 pI:X.jS.heap.FunFrames X.base X.outer
 Lm:∀ b∈X.fs,X.Cr b=none
structure Inv (X:Cx)(Ä:Á (Addr × Obj)) (σ:Á (Ë V)) (H:Hp)(s:Ò):Prop where
 ok:X.Ok
 os:s.os=X.jS.os
 bare:n8 s.gens
 base:Un X.fs X.ex X.Cr H X.jS.heap s.heap
 loc:∃ m,s.heap.Ns X.env.locals m/\∀ (i:Nat) (x:Str) (v:V),X.N[i]? = À x->σ[i]? = À (À v)->YF X.env.scope x->∃ u,RelV v u/\Look X.env s.heap m x u
 cell:∀ x c,X.env.cells.lookup x=À c->∃ v,s.heap.IsCell c v
 free:H X.env.locals=none
 kB:∀ x c,X.env.cells.lookup x=À c->H c=none
 pin:∀ p∈X.pn++Ä,s.heap.get? p.1=À p.2/\H p.1=none/\p.1≠X.env.locals/\p.1∉X.fs/\∀ v,p.2.data≠.cell v
 ļ:m3 X.prog X.w H s.heap
 len:σ.length=X.N.length
section
variable {X:Cx}{Ä:Á (Addr × Obj)}{σ:Á (Ë V)}{H H':Hp}{s:Ò}{h':Heap}
theorem Cx.Ok.ZU (ok:X.Ok)(e:X.base.get? b=À o):b∉X.fs:=λ hb=>by
 have:=(ok.pI.mem hb).1
 rw[e]at this;cases this
theorem Inv.bs (I:Inv X Ä σ H s):∀ b o,X.base.get? b=À o->s.heap.get? b=À o/\H b=none:=λ b o e=>
 ⟨I.base.keep b o (I.ok.bs b o e).1 (I.ok.bs b o e).2 (I.ok.ZU e) (I.ok.BC b o e),I.base.free b o (I.ok.bs b o e).1 (I.ok.bs b o e).2 (I.ok.BC b o e)⟩
theorem Inv.bk (I:Inv X Ä σ H s):∀ b o,X.base.get? b=À o->s.heap.get? b=À o:=λ b o e=>(I.bs b o e).1
theorem Inv.mod (I:Inv X Ä σ H s):Mod X.K X.mg X.base:=I.ok.mod
theorem Inv.mz (I:Inv X Ä σ H s):X.K.In s.heap:=I.ok.mod.Vm.keeps I.bk
theorem Inv.fr (I:Inv X Ä σ H s):∃ m,Fr X.base X.env.locals s.heap m:=
 let ⟨m,hn,_⟩:=I.loc
 ⟨m,hn,I.bk,ě I.ok.DX I.ok.above⟩
theorem Inv.lt (I:Inv X Ä σ H s):X.env.locals < s.heap.objs.size:=let ⟨_,hn,_⟩:=I.loc;hn.lt
theorem Inv.sz (I:Inv X Ä σ H s):X.jS.heap.objs.size<=s.heap.objs.size:=ě I.ok.above (Ė I.lt)
theorem Inv.ZV (I:Inv X Ä σ H s)(h:s.heap.objs.size<=a):a∉X.fs:=λ hb=>by
 obtain⟨_,o,ho,_⟩:=I.ok.pI.mem hb
 exact absurd (ä (Ð ho) (ě I.sz h)) (Ņ _)
theorem Inv.Hv (I:Inv X Ä σ H s):∀ x c,X.env.cells.lookup x=À c->c≠X.env.locals:=λ x c e z=>by
 obtain⟨v,o,ho,hd⟩:=I.cell x c e
 obtain⟨m,⟨o',es,ep,cE,P',_⟩,_⟩:=I.loc
 rw[z,cE]at ho;cases ho;rw[P']at hd;cases hd
theorem Inv.pI (I:Inv X Ä σ H s):s.heap.FunFrames X.base X.outer:=by
 have all:∀ (l:Á AF),(∀ b∈Ax l,b∈X.fs)->X.jS.heap.FunFrames X.base l->s.heap.FunFrames X.base l:=by
  intro l
  induction l with
  | nil=>intro _ _;trivial
  | cons env r ih=>
   intro hs hl
   obtain⟨hk,⟨L,o,hf,hn,ho,hd⟩,hr⟩:=hl
   have hL:L∈X.fs:=hs L (by unfold Ax;rw[rH,hf];exact ģ)
   obtain⟨sl,e⟩:=I.base.slot L o ho (I.ok.Lm L hL) hL λ z=>I.ok.Bg L z hL
   exact⟨hk,⟨L,_,hf,hn,e,hd⟩,ih (λ b hb=>hs b (by unfold Ax;rw[rH,hf];exact õ _ hb)) hr⟩
 exact all X.outer (λ _ hb=>hb) I.ok.pI
theorem Inv.stack (I:Inv X Ä σ H s):s.heap.FunFrames X.base X.stack:=by
 rcases I.ok.Se with e|⟨e,hf⟩
 ·rw[e];exact I.pI
 ·rw[e]
  obtain⟨m,hn,_⟩:=I.loc
  refine .cons (by rw[I.ok.kind];decide) hf hn ?_ I.pI
  exact qe (ě I.ok.DX I.ok.above)
theorem Inv.DC (I:Inv X Ä σ H s):∀ b∈Ax X.stack,b∈X.env.locals :: X.fs:=λ b hb=>by
 rcases I.ok.Se with e|⟨e,hf⟩
 ·rw[e]at hb;exact õ _ hb
 ·rw[e]at hb
  unfold Ax at hb
  rw[rH,hf]at hb
  exact hb
theorem Inv.uV (I:Inv X Ä σ H s):∀ b∈Ax X.stack,H b=none:=λ b hb=>by
 rcases Þ.mp (I.DC b hb) with e|hb
 ·rw[e];exact I.free
 ·obtain⟨_,o,ho,_⟩:=I.ok.pI.mem hb
  exact I.base.free b o ho (I.ok.Lm b hb) λ z=>I.ok.Bg b z hb
theorem Inv.step {g':Ğ GenState}{t':Nat}{d':Drawn}{ch:Á Addr}(I:Inv X Ä σ H s)
  (Lp:∀ b∈ch,(b∈X.ex∨X.jS.heap.objs.size<=b)/\b≠X.env.locals/\(∀ x c,X.env.cells.lookup x=À c->c≠b)/\∀ p∈X.pn++Ä,p.1≠b)
  (keep:∀ b o,b≠X.env.locals->b∉X.fs->b∉ch->s.heap.get? b=À o->H b=none->h'.get? b=À o)
  (slot:∀ b o,b≠X.env.locals->b∈X.fs->b∉ch->s.heap.get? b=À o->H b=none->∃ sl,h'.get? b=À { o with slots:=sl }) (free:∀ b o,b∉ch->s.heap.get? b=À o->H b=none->H' b=none)
  (there:∀ b o,b∉ch->s.heap.get? b=À o->∃ o',h'.get? b=À o')
  (mJ:∀ b xs,H b=À (.tup xs)->H' b=À (.tup xs)) (kS:∀ b o u,H b=À (.oZ o u)->H' b=À (.oZ o u)) (wD:∀ b ps,H b=À (.uW ps)->∃ more,H' b=À (.uW (ps++more)))
  (ns:∀ m,s.heap.Ns X.env.locals m->h'.Ns X.env.locals m) (ļ:m3 X.prog X.w H' h') (hg:n8 g') :
  Inv X Ä σ H' { s with heap:=h',gens:=g',drawn:=d',toks:=t' }:=by
 have neL:∀ b o,X.jS.heap.get? b=À o->b≠X.env.locals:=λ b o e=>ç (ä (Ð e) I.ok.above)
 have neC:∀ b o,X.jS.heap.get? b=À o->b∉X.ex->b∉ch:=λ b o e hx hb=>by
  rcases(Lp b hb).1 with z|z
  ·exact hx z
  ·exact absurd (ä (Ð e) z) (Ņ _)
 have cellK:∀ x c,X.env.cells.lookup x=À c->∀ v,s.heap.IsCell c v->h'.IsCell c v:=λ x c e v ⟨o,ho,hd⟩=>by
  have VY:c∉ch:=λ z=>(Lp c z).2.2.1 x c e rfl
  by_cases hc:c∈X.fs
  ·obtain⟨sl,q⟩:=slot c o (I.Hv x c e) hc VY ho (I.kB x c e)
   exact⟨_,q,hd⟩
  ·exact⟨o,keep c o (I.Hv x c e) hc VY ho (I.kB x c e),hd⟩
 refine⟨I.ok,I.os,hg,⟨λ b o e n hb hx=>?_,λ b o e n hb hx=>?_,λ b o e n hx=>?_,λ b o e hx=>?_,λ b xs e=>mJ b xs (I.base.mJ b xs e),λ b o xs e=>kS b o xs (I.base.kS b o xs e),λ b ps e=>?_⟩,?_,λ x c e=>?_,?_,λ x c e=>?_,λ p hp=>?_,ļ,I.len⟩
 ·exact keep b o (neL b o e) hb (neC b o e hx) (I.base.keep b o e n hb hx) (I.base.free b o e n hx)
 ·obtain⟨sl,e1⟩:=I.base.slot b o e n hb hx
  obtain⟨WB,e2⟩:=slot b _ (neL b o e) hb (neC b o e hx) e1 (I.base.free b o e n hx)
  exact⟨WB,e2⟩
 ·obtain⟨o',e1⟩:=I.base.there b o e hx
  exact free b o' (neC b o e hx) e1 (I.base.free b o e n hx)
 ·obtain⟨o',e1⟩:=I.base.there b o e hx
  exact there b o' (neC b o e hx) e1
 ·obtain⟨m1,e1⟩:=I.base.wD b ps e
  obtain⟨m2,e2⟩:=wD b _ e1
  exact⟨m1++m2,by rw[e2,Array.append_assoc]⟩
 ·obtain⟨m,hn,hl⟩:=I.loc
  refine⟨m,ns m hn,λ i x v e1 e2 e3=>?_⟩
  obtain⟨u,r,l⟩:=hl i x v e1 e2 e3
  refine⟨u,r,?_⟩
  rcases l with l|⟨k,c,e,z⟩
  ·exact .inl l
  ·exact .inr ⟨k,c,e,cellK x c e _ z⟩
 ·obtain⟨v,z⟩:=I.cell x c e
  exact⟨v,cellK x c e v z⟩
 ·obtain⟨m,⟨o,_,_,ho,_⟩,_⟩:=I.loc
  exact free _ o (λ z=>(Lp _ z).2.1 rfl) ho I.free
 ·obtain⟨v,o,ho,hd⟩:=I.cell x c e
  exact free c o (λ z=>(Lp c z).2.2.1 x c e rfl) ho (I.kB x c e)
 ·obtain⟨e,n,ne,nf,d⟩:=I.pin p hp
  have VY:p.1∉ch:=λ z=>(Lp p.1 z).2.2.2 p hp rfl
  exact⟨keep p.1 p.2 ne nf VY e n,free p.1 p.2 VY e n,ne,nf,d⟩
theorem Inv.un {t':Nat}(I:Inv X Ä σ H s)(u:Un X.fs [] H H' s.heap h')(ļ:m3 X.prog X.w H' h'):Inv X Ä σ H' { s with heap:=h',toks:=t' }:=by
 obtain⟨m,⟨o,es,ep,ho,r⟩,_⟩:=id I.loc
 obtain⟨sl,hL⟩:=u.any ho I.free (by simp)
 exact I.step (g':=s.gens) (d':=s.drawn) (ch:=[]) (λ _ z=>nomatch z) (λ b o _ hb _ e n=>u.keep b o e n hb (by simp)) (λ b o _ hb _ e n=>u.slot b o e n hb (by simp)) (λ b o _ e n=>u.free b o e n (by simp)) (λ b o _ e=>u.there b o e (by simp)) u.mJ u.kS u.wD (λ m' hm=>by
  obtain⟨o',HR,YV,cE,r'⟩:=hm
  rw[ho]at cE;cases cE
  exact⟨_,HR,YV,hL,r'⟩) ļ I.bare
theorem Inv.call {g':Ğ GenState}{t':Nat}{d':Drawn}{ch:Á Addr}(I:Inv X Ä σ H s)(u:Un (Ax X.stack) ch H H' s.heap h') (ļ:m3 X.prog X.w H' h')(hg:n8 g')
  (Lp:∀ b∈ch,(b∈X.ex∨X.jS.heap.objs.size<=b)/\b≠X.env.locals/\(∀ x c,X.env.cells.lookup x=À c->c≠b)/\∀ p∈X.pn++Ä,p.1≠b) :
  Inv X Ä σ H' { s with heap:=h',gens:=g',drawn:=d',toks:=t' }:=by
 obtain⟨m,⟨o,es,ep,ho,r⟩,_⟩:=id I.loc
 obtain⟨sl,hL⟩:=u.any ho I.free λ z=>(Lp _ z).2.1 rfl
 exact I.step (ch:=ch) Lp (λ b o hL hb hc e n=>u.keep b o e n (λ z=>(Þ.mp (I.DC b z)).elim hL hb) hc) (λ b o _ _ hc e n=>u.any e n hc) (λ b o hc e n=>u.free b o e n hc) (λ b o hc e=>u.there b o e hc) u.mJ u.kS u.wD (λ m' hm=>by
  obtain⟨o',HR,YV,cE,r'⟩:=hm
  rw[ho]at cE;cases cE
  exact⟨_,HR,YV,hL,r'⟩) ļ hg
theorem Inv.turned {t':Nat}{it:Addr}(I:Inv X Ä σ H s)(k:∀ b o,b≠it->s.heap.get? b=À o->h'.get? b=À o)(hn:H it=none)(hL:it≠X.env.locals)
  (h1:it∈X.ex∨X.jS.heap.objs.size<=it) (h2:∀ x c,X.env.cells.lookup x=À c->c≠it) (h3:∀ p∈X.pn++Ä,p.1≠it):Inv X Ä σ H { s with heap:=h',toks:=t' }:=by
 have nit:∀ b u,H b=À u->b≠it:=λ b u e z=>by rw[z,hn]at e;cases e
 refine I.step (g':=s.gens) (d':=s.drawn) (ch:=[it]) (λ b hb=>?_) (λ b o _ _ hc e _=>k b o (λ z=>hc (by simp[z])) e) (λ b o _ _ hc e _=>⟨o.slots,k b o (λ z=>hc (by simp[z])) e⟩) (λ _ _ _ _ n=>n)
  (λ b o hc e=>⟨o,k b o (λ z=>hc (by simp[z])) e⟩) (λ _ _ e=>e) (λ _ _ _ e=>e) (λ b ps e=>⟨#[],by rw[e];simp⟩) (λ m hm=>?_) (λ b u e=>?_) I.bare
 ·have e:b=it:=by simpa using hb
  subst e
  exact⟨h1,hL,h2,h3⟩
 ·obtain⟨o,es,ep,ho,r⟩:=hm
  exact⟨o,es,ep,k _ o (Ŝ hL) ho,r⟩
 ·refine(I.ļ b u e).p8 (λ c v hc q=>k c v ?_ q) (λ _ q=>q) λ _ _ q=>q
  rcases hc with z|z
  ·rw[z];exact nit b u e
  ·exact nit c _ z
theorem Inv.tok (I:Inv X Ä σ H s)(t:Nat):Inv X Ä σ H { s with toks:=t }:=I.un (h':=s.heap) (t':=t) Un.refl I.ļ
theorem Inv.kept (I:Inv X Ä σ H s)(k:∀ b u,s.heap.get? b=À u->h'.get? b=À u):Inv X Ä σ H { s with heap:=h',toks:=t' }:=I.un (Un.kept k) (I.ļ.kept k)
theorem Inv.laid (I:Inv X Ä σ H s)(k:∀ b u,s.heap.get? b=À u->h'.get? b=À u)(hp:s.heap.objs.size<=a)(new:Ũ X.prog X.w (upd H a o) h' a o) :
  Inv X Ä σ (upd H a o) { s with heap:=h',toks:=t' }:=I.un (Un.laid k hp (I.ļ.fresh hp)) (I.ļ.laid k hp new)
theorem Inv.write (I:Inv X Ä σ H s)(mu:SS (H x)) (he:e=x∨H e=À (.own x)) (k:∀ b u,b≠e->s.heap.get? b=À u->h'.get? b=À u)(S2:∃ u,h'.get? e=À u)
  (new:Ũ X.prog X.w (upd H x o) h' x o):Inv X Ä σ (upd H x o) { s with heap:=h',toks:=t' }:=I.un (Un.write mu he k S2) (I.ļ.write mu he k S2 new)
theorem Inv.EV (I:Inv X Ä σ H s)(h:∀ p∈JS,s.heap.get? p.1=À p.2/\H p.1=none/\p.1≠X.env.locals/\p.1∉X.fs/\∀ v,p.2.data≠.cell v):Inv X JS σ H s:=
 ⟨I.ok,I.os,I.bare,I.base,I.loc,I.cell,I.free,I.kB,λ p hp=>(aQ.mp hp).elim (λ z=>I.pin p (jf _ z)) (h p),I.ļ,I.len⟩
theorem vZ {N:Á Str}(hN:N.Nodup){i j:Nat}{x:Str}(a:N[i]? = À x)(b:N[j]? = À x):i=j:=by
 obtain⟨h1,e1⟩:=Æ.mp a
 obtain⟨h2,e2⟩:=Æ.mp b
 exact(aY hN).mp (e1.trans e2.symm)
theorem yD {M:Model}{A:į}{E:Value->Ò->Prop}{i:Nat}{x:Str}{v:V}{u:Value}{Q:Unit->Ò->Prop}(I:Inv X Ä σ H s)(hN:X.N.Nodup)(hi:X.N[i]? = À x)(hx:Loc X.env.scope x)(r:RelV v u)
  (h:∀ s',Inv X Ä (σ.set i (À v)) H s'->(∃ a,eL a s.heap s'.heap/\(a=X.env.locals∨X.env.cells.lookup x=À a))->Q () s') (hf:X.fn x=true∨X.env.scope.names.lookup x=À .local:=by first|exact .inl rfl|exact .inr rfl|assumption):Ù M A (storeName X.env x u) Q E s:=by
 obtain⟨m,hn,hl⟩:=id I.loc
 have P_:(X.env.scope.kind == .class || (X.env.scope.kind == .module && X.env.locals != X.env.globals))=false:=by rw[I.ok.kind];rfl
 have hiσ:i < σ.length:=by rw[I.len];exact(Æ.mp hi).1
 have Hv:=I.Hv
 have tracked:∀ {a:Addr}{h':Heap},(∃ o,s.heap.get? a=À o/\H a=none)->eL a s.heap h'->m3 X.prog X.w H h':=λ {a h'} ha hs b ob e=>by
  obtain⟨_,_,OY⟩:=ha
  refine(I.ļ b ob e).p8 (λ c w' hc q=>(hs.2 c ?_).trans q) (λ _ q=>q) λ _ _ q=>q
  rintro rfl
  rcases hc with rfl|hc
  ·rw[OY]at e;cases e
  ·rw[OY]at hc;cases hc
 rcases hx with hk|hk
 ·refine wpAny_storeName_local hk hn (λ h' Zm hs=>?_) P_
  obtain⟨oL,_,_,hoL,_⟩:=id hn
  refine h _ ⟨I.ok,I.os,I.bare,⟨λ b o e n hb hx=>?_,λ b o e n hb hx=>?_,I.base.free,λ b o e hx=>?_,I.base.mJ,I.base.kS,I.base.wD⟩,⟨_,Zm,λ j y v' e1 e2 e3=>?_⟩,λ y c e=>?_,I.free,I.kB,λ p hp=>?_,tracked ⟨oL,hoL,I.free⟩ hs,by simpa using I.len⟩ ⟨_,hs,.inl rfl⟩
  ·exact(hs.2 b (ç (ä (Ð e) I.ok.above))).trans (I.base.keep b o e n hb hx)
  ·obtain⟨sl,e1⟩:=I.base.slot b o e n hb hx
   exact⟨sl,(hs.2 b (ç (ä (Ð e) I.ok.above))).trans e1⟩
  ·obtain⟨o',e1⟩:=I.base.there b o e hx
   exact⟨o',(hs.2 b (ç (ä (Ð e) I.ok.above))).trans e1⟩
  ·by_cases hj:j=i
   ·subst hj
    rw[hi]at e1;cases e1
    rw[Ę hiσ]at e2
    cases e2
    exact⟨u,r,.inl ⟨hk,by simp⟩⟩
   ·rw[ð (Ŝ hj)]at e2
    obtain⟨u',r',q⟩:=hl j y v' e1 e2 e3
    refine⟨u',r',?_⟩
    rcases q with⟨k,e⟩|⟨k,c,e,z⟩
    ·refine .inl ⟨k,?_⟩
     have:y≠x:=λ e=>hj (vZ hN e1 (e ▸ hi))
     simp[this,e]
    ·exact .inr ⟨k,c,e,z.sameBut hs (Hv y c e)⟩
  ·obtain⟨w',z⟩:=I.cell y c e
   exact⟨w',z.sameBut hs (Hv y c e)⟩
  ·obtain⟨e,n,ne,nf,d⟩:=I.pin p hp
   exact⟨(hs.2 p.1 ne).trans e,n,ne,nf,d⟩
 ·have Zd:X.fn x=true:=by
   rcases hf with z|z
   ·exact z
   ·rw[z]at hk;cases hk
  obtain⟨c,hc⟩:=I.ok.has x (.inl hk)
  obtain⟨w',z⟩:=I.cell x c hc
  refine wpAny_storeName_cell I.ok.kind hk hc z (λ h' hc' hs=>?_)
  obtain⟨oc,U9,Zn⟩:=id z
  refine h { s with heap:=h' } ⟨I.ok,I.os,I.bare,⟨λ b o e n hb hx=>?_,λ b o e n hb hx=>?_,I.base.free,λ b o e hx=>?_,I.base.mJ,I.base.kS,I.base.wD⟩,⟨m,hn.sameBut hs (Ŝ (Hv x c hc)),λ j y v' e1 e2 e3=>?_⟩,λ y c' e=>?_,I.free,I.kB,λ p hp=>?_,tracked ⟨oc,U9,I.kB x c hc⟩ hs,by simpa using I.len⟩ ⟨c,hs,.inr hc⟩
  ·exact(hs.2 b (ç (ä (Ð e) (I.ok.OI x c Zd hc)))).trans (I.base.keep b o e n hb hx)
  ·obtain⟨sl,e1⟩:=I.base.slot b o e n hb hx
   exact⟨sl,(hs.2 b (ç (ä (Ð e) (I.ok.OI x c Zd hc)))).trans e1⟩
  ·obtain⟨o',e1⟩:=I.base.there b o e hx
   exact⟨o',(hs.2 b (ç (ä (Ð e) (I.ok.OI x c Zd hc)))).trans e1⟩
  ·by_cases hj:j=i
   ·subst hj
    rw[hi]at e1;cases e1
    rw[Ę hiσ]at e2
    cases e2
    exact⟨u,r,.inr ⟨.inl hk,c,hc,hc'⟩⟩
   ·rw[ð (Ŝ hj)]at e2
    obtain⟨u',r',q⟩:=hl j y v' e1 e2 e3
    refine⟨u',r',?_⟩
    rcases q with q|⟨k,c',e,z'⟩
    ·exact .inl q
    ·refine .inr ⟨k,c',e,z'.sameBut hs ?_⟩
     rintro rfl
     exact hj (vZ hN e1 (I.ok.inj _ _ _ e hc ▸ hi))
  ·by_cases hcc:c'=c
   ·subst hcc;exact⟨_,hc'⟩
   ·obtain⟨w2,z2⟩:=I.cell y c' e
    exact⟨w2,z2.sameBut hs hcc⟩
  ·obtain⟨e,n,ne,nf,d⟩:=I.pin p hp
   refine⟨(hs.2 p.1 ?_).trans e,n,ne,nf,d⟩
   intro q
   rw[q,U9]at e
   have q':oc=p.2:=è e
   exact d w' (by rw[<-q'];exact Zn)
theorem g_ (I:Inv X Ä σ H s)(hN:X.N.Nodup)(hi:X.N[i]? = À x)(hx:Loc X.env.scope x)(r:RelV v u)
  (h:∀ s',Inv X Ä (σ.set i (À v)) H s'->Q () s') (hf:X.fn x=true∨X.env.scope.names.lookup x=À .local:=by first|exact .inl rfl|exact .inr rfl|assumption):Ù M A (storeName X.env x u) Q E s:=
 yD I hN hi hx r (λ s' I' _=>h s' I') hf
theorem Inv.TQ (I:Inv X Ä σ H s)(ho:s'.os=s.os)(u:Un (Ax X.stack) ch H H' s.heap s'.heap) (ļ:m3 X.prog X.w H' s'.heap)(hg:n8 s'.gens)
  (Lp:∀ b∈ch,(b∈X.ex∨X.jS.heap.objs.size<=b)/\b≠X.env.locals/\(∀ x c,X.env.cells.lookup x=À c->c≠b)/\∀ p∈X.pn++Ä,p.1≠b):Inv X Ä σ H' s':=by
 obtain⟨h',g',d',t',o'⟩:=s'
 have e:o'=s.os:=ho
 subst e
 exact I.call (g':=g') (t':=t') (d':=d') u ļ hg Lp
end
abbrev XK:=Value->Ë Addr->Hp->Prop
abbrev St:=Á (Ë V)
abbrev VK:=V->Hp->Prop
abbrev TE:=St->Hp->VK->Prop
abbrev TT:=St->Hp->(Bool->Hp->Prop)->Prop
abbrev TA:=St->Hp->(Á V->Hp->Prop)->Prop
structure Ends where
 nx:St->Hp->Prop
 rt:VK
 bk:St->Hp->Prop:=λ _ _=>False
 ct:St->Hp->Prop:=λ _ _=>False
abbrev TS:=Ends->St->Hp->Prop
def EP (X:Cx)(Ä:Á (Addr × Obj)) (σ:St)(Q:VK)(u:Value)(s':Ò):Prop:=∃ v H',Inv X Ä σ H' s'/\RelV v u/\Q v H'
def TP (X:Cx)(Ä:Á (Addr × Obj)) (σ:St)(Q:Bool->Hp->Prop)(b:Bool)(s':Ò):Prop:=∃ H',Inv X Ä σ H' s'/\Q b H'
def AP (X:Cx)(Ä:Á (Addr × Obj)) (σ:St)(Q:Á V->Hp->Prop)(us:Á Value)(s':Ò):Prop:=∃ vs H',Inv X Ä σ H' s'/\Vals vs us/\Q vs H'
def SP (X:Cx)(Ä:Á (Addr × Obj)) (D:Ends)(f:Flow)(s':Ò):Prop:=
 match f with
 | .next=>∃ bh H',Inv X Ä bh H' s'/\D.nx bh H'
 | .brk=>∃ bh H',Inv X Ä bh H' s'/\D.bk bh H'
 | .cont=>∃ bh H',Inv X Ä bh H' s'/\D.ct bh H'
 | .ret u=>∃ v bh H',Inv X Ä bh H' s'/\RelV v u/\D.rt v H'
def PE (X:Cx)(e:ń)(t:TE):Prop:=
 ∀ (Ä:Á (Addr × Obj)) (s:Ò) (σ:St) (H:Hp) (Q:VK),Inv X Ä σ H s->t σ H Q->Ù (Ý X.prog X.w) X.A (Ć e X.env) (EP X Ä σ Q) X.xe s
def PT (X:Cx)(e:ń)(t:TT):Prop:=
 ∀ (Ä:Á (Addr × Obj)) (s:Ò) (σ:St) (H:Hp) (Q:Bool->Hp->Prop),Inv X Ä σ H s->t σ H Q->Ù (Ý X.prog X.w) X.A (Ft e X.env (Ć e X.env)) (TP X Ä σ Q) X.xe s
def PW (X:Cx)(e:ń)(t:TT):Prop:=
 ∀ (whole:Sem Value) (Ä:Á (Addr × Obj)) (s:Ò) (σ:St) (H:Hp) (Q:Bool->Hp->Prop),Inv X Ä σ H s->t σ H Q->Ù (Ý X.prog X.w) X.A (Ft e X.env whole) (TP X Ä σ Q) X.xe s
theorem PW.pt (h:PW X e t):PT X e t:=h _
def PA (X:Cx)(es:Á ń)(t:TA):Prop:=
 ∀ (pos:mT) (Ä:Á (Addr × Obj)) (s:Ò) (σ:St) (H:Hp) (Q:Á V->Hp->Prop),Inv X Ä σ H s->t σ H Q->Ù (Ý X.prog X.w) X.A (spliced (Ĕ pos (Ì es X.env))) (AP X Ä σ Q) X.xe s
def PS (X:Cx)(st:Stmt)(t:TS):Prop:=
 ∀ (Ä:Á (Addr × Obj)) (s:Ò) (σ:St) (H:Hp) (D:Ends),Inv X Ä σ H s->t D σ H->Ù (Ý X.prog X.w) X.A (exec st X.env) (SP X Ä D) X.xe s
def nu (X:Cx)(st:Á Stmt)(t:TS):Prop:=
 ∀ (Ä:Á (Addr × Obj)) (s:Ò) (σ:St) (H:Hp) (D:Ends),Inv X Ä σ H s->t D σ H->Ù (Ý X.prog X.w) X.A (execs st X.env) (SP X Ä D) X.xe s
theorem jA {α β:Type}{a b c:α->β->Prop}{P:Prop}(h:∃ x y,a x y/\b x y/\c x y)(k:∀ x y,a x y->b x y->c x y->P):P:=by
 obtain⟨x,y,h1,h2,h3⟩:=h
 exact k x y h1 h2 h3
theorem af (h:Ù M A t Q E s)(hQ:∀ a s,Q a s->Q' a s):Ù M A t Q' E s:=aW h hQ λ _ _ x=>x
section
variable {X:Cx}
def Sm (i:Nat):TE:=λ σ H Q=>∃ v,σ[i]? = À (À v)/\Q v H
def tC (v:V):TE:=λ _ H Q=>Q v H
theorem RD (hN:X.N[i]? = À x)(hv:YF X.env.scope x)(hd:(x == ("__debug__":Str))=false:=by decide) (Er:(x == ("__classdict__":Str))=false:=by decide):PE X (.Name x pos) (Sm i):=by
 intro Ä s σ H Q I h
 obtain⟨v,e,h⟩:=h
 obtain⟨m,hn,hl⟩:=I.loc
 obtain⟨u,r,l⟩:=hl i x v hN e hv
 have fin:EP X Ä σ Q u s:=⟨v,H,I,r,h⟩
 rcases l with⟨hk,hm⟩|⟨hk,c,hc,ya⟩
 ·exact Tq (wpAny_loadName_local I.ok.kind hk hn hm fin) hd
 ·rcases hk with hk|hk
  ·exact Tq (wpAny_loadName_cell I.ok.kind hk hc ya fin) hd
  ·exact Tq (wpAny_loadName_free I.ok.kind hk hc ya fin Er) hd
theorem Rx:PE X (.Constant (.int i) j pos) (tC (.int i)):=λ _ _ _ H _ I h=>wpAny_Constant_int ⟨.int i,H,I.tok _,⟨_,rfl⟩,h⟩
theorem Wf:PE X (.Constant (.bool b) j pos) (tC (.bl b)):=λ _ _ _ H _ I h=>Constant_bool ⟨.bl b,H,I,rfl,h⟩
theorem Rz:PE X (.Constant .none j pos) (tC .Ē):=λ _ _ _ H _ I h=>Constant_none ⟨.Ē,H,I,rfl,h⟩
theorem RB:PE X (.Constant (.str x) j pos) (tC (.str x)):=λ _ _ _ H _ I h=>Calls.Constant_str ⟨.str x,H,I.tok _,⟨_,rfl⟩,h⟩
def Gl (X:Cx)(x:Str):Prop:=X.env.kindOf x=À .globalImplicit
theorem oy (I:Inv X Ä σ H s)(hg:Gl X x)(hm:X.mg x=À u)(h:Q u s)
  (hd:(x == ("__debug__":Str))=false:=by decide):Ù (Ý X.prog X.w) X.A (Ć (.Name x pos) X.env) Q E s:=
 yM I.ok.kind hg (Calls.loadGlobal_global (by rw[I.ok.glob];exact I.mod.glob.keeps I.bk) hm h) hd
theorem pO (I:Inv X Ä σ H s)(hg:Gl X x)(hm:X.mg x=none)(hv:Ĭ x=À u)(h:Q u s)
  (hn:x≠"__name__":=by decide) (hd:(x == ("__debug__":Str))=false:=by decide):Ù (Ý X.prog X.w) X.A (Ć (.Name x pos) X.env) Q E s:=by
 obtain⟨mb,h1,h2⟩:=I.mod.blt
 exact yM I.ok.kind hg (Calls.loadGlobal_builtin (by rw[I.ok.glob];exact I.mod.glob.keeps I.bk) hm (by rw[I.ok.blt];exact h1.keeps I.bk) ((h2 x hn).trans hv) h) hd
theorem zW (hg:Gl X x)(hm:X.mg x=À u)(r:RelV v u)(hd:(x == ("__debug__":Str))=false:=by decide):PE X (.Name x pos) (tC v):=
 λ _ _ _ H _ I h=>oy I hg hm ⟨v,H,I,r,h⟩ hd
theorem EU (hg:Gl X x)(hm:X.mg x=none)(hv:Ĭ x=À u)(r:RelV v u)(hn:x≠"__name__":=by decide)(hd:(x == ("__debug__":Str))=false:=by decide):PE X (.Name x pos) (tC v):=
 λ _ _ _ H _ I h=>pO I hg hm hv ⟨v,H,I,r,h⟩ hn hd
variable {a b:ń}{ta tb:TE}{pos:mT}
def PC (X:Cx)(op:CmpOp)(a b:ń)(t:TE):Prop:=
 ∀ (Ä:Á (Addr × Obj)) (s:Ò) (σ:St) (H:Hp) (Q:VK),Inv X Ä σ H s->t σ H Q->
  Ù (Ý X.prog X.w) X.A (Ć a X.env) (λ v s₁=>Ù (Ý X.prog X.w) X.A (Ć b X.env) (λ u s₂=>Ù (Ý X.prog X.w) X.A (Į op v u) (EP X Ä σ Q) X.xe s₂) X.xe s₁) X.xe s
theorem BB (b:ń)(h:op≠.In)(h2:op≠.NotIn):ae op b=false:=by
 have e1:(op == CmpOp.In)=false:=by cases op<;>first|rfl|exact absurd rfl h
 have e2:(op == CmpOp.NotIn)=false:=by cases op<;>first|rfl|exact absurd rfl h2
 cases b<;>simp[ae,e1,e2]
def tB (t:TE):TT:=λ σ H Q=>t σ H λ x H1=>∃ c,x=.bl c/\Q c H1
theorem Ru (h:PC X op a b t)(h1:ae op b=false:=by first|exact BB _ (by decide) (by decide)|rfl):PE X (.Compare a [op] [b] pos) t:=λ Ä s σ H Q I hw=>wpAny_Compare1 (h Ä s σ H Q I hw) h1
theorem Dn (h:PC X op a b t)(h1:ae op b=false:=by first|exact BB _ (by decide) (by decide)|rfl):PT X (.Compare a [op] [b] pos) (tB t):=by
 intro Ä s σ H Q I hw
 refine OD (af (h Ä s σ H _ I hw) λ v s1 h1=>af h1 λ u s2 h2=>af h2 λ c s3 zz=>jA zz λ x H1 I1 r1 q1=>?_) h1
 obtain⟨d,rfl,q⟩:=q1
 cases r1
 exact cy ⟨H1,I1,q⟩
variable {tA tB':TT}{rest:Á ń}
def aaj (t u:TT):TT:=λ σ H Q=>t σ H λ c H1=>if c=true then u σ H1 Q else Q false H1
def tOr (t u:TT):TT:=λ σ H Q=>t σ H λ c H1=>if c=true then Q true H1 else u σ H1 Q
def aar (t:TT):TT:=λ σ H Q=>t σ H λ c H1=>Q (!c) H1
theorem pw_and1 (ha:PT X a tA):PW X (.BoolOp .And [a] pos) tA:=by
 intro wh Ä s σ H Q I h
 refine isTrue_and (af (ha Ä s σ H Q I h) λ c s1 e=>?_)
 cases c with
 | true=>exact isTrue_and_nil e
 | false=>exact e
theorem pw_or1 (ha:PT X a tA):PW X (.BoolOp .Or [a] pos) tA:=by
 intro wh Ä s σ H Q I h
 refine isTrue_or (af (ha Ä s σ H Q I h) λ c s1 e=>?_)
 cases c with
 | false=>exact isTrue_or_nil e
 | true=>exact e
theorem pw_and (ha:PT X a tA)(hb:PW X (.BoolOp .And (b :: rest) pos) tB'):PW X (.BoolOp .And (a :: b :: rest) pos) (aaj tA tB'):=by
 intro wh Ä s σ H Q I h
 refine isTrue_and (af (ha Ä s σ H _ I h) λ c s1 zz=>?_)
 obtain⟨H1,I1,q1⟩:=zz
 cases c with
 | true=>exact hb wh Ä s1 σ H1 Q I1 q1
 | false=>exact⟨H1,I1,q1⟩
theorem pw_or (ha:PT X a tA)(hb:PW X (.BoolOp .Or (b :: rest) pos) tB'):PW X (.BoolOp .Or (a :: b :: rest) pos) (tOr tA tB'):=by
 intro wh Ä s σ H Q I h
 refine isTrue_or (af (ha Ä s σ H _ I h) λ c s1 zz=>?_)
 obtain⟨H1,I1,q1⟩:=zz
 cases c with
 | true=>exact⟨H1,I1,q1⟩
 | false=>exact hb wh Ä s1 σ H1 Q I1 q1
theorem RP (ha:PT X a tA):PT X (.UnaryOp .Not a pos) (aar tA):=by
 intro Ä s σ H Q I h
 exact isTrue_not (ha Ä s σ H (λ c H1=>Q (!c) H1) I h)
def WI (ta tb:TE):TE:=λ σ H Q=>ta σ H λ x H1=>∃ c,x=.bl c/\if c=true then tb σ H1 Q else Q (.bl false) H1
def aas (ta tb:TE):TE:=λ σ H Q=>ta σ H λ x H1=>∃ c,x=.bl c/\if c=true then Q (.bl true) H1 else tb σ H1 Q
def WT (ta:TE):TE:=λ σ H Q=>ta σ H λ x H1=>∃ c,x=.bl c/\Q (.bl (!c)) H1
theorem Rt (ha:PE X a ta)(hb:PE X (.BoolOp .And (b :: rest) pos) tb):PE X (.BoolOp .And (a :: b :: rest) pos) (WI ta tb):=by
 intro Ä s σ H Q I h
 refine BoolOp_and (af (ha Ä s σ H _ I h) λ v s1 zz=>jA zz λ x H1 I1 r1 q1=>?_)
 obtain⟨c,rfl,q1⟩:=q1
 cases r1
 refine cy ?_
 cases c with
 | true=>exact hb Ä s1 σ H1 Q I1 q1
 | false=>exact⟨.bl false,H1,I1,rfl,q1⟩
theorem Wj (ha:PE X a ta)(hb:PE X (.BoolOp .Or (b :: rest) pos) tb):PE X (.BoolOp .Or (a :: b :: rest) pos) (aas ta tb):=by
 intro Ä s σ H Q I h
 refine BoolOp_or (af (ha Ä s σ H _ I h) λ v s1 zz=>jA zz λ x H1 I1 r1 q1=>?_)
 obtain⟨c,rfl,q1⟩:=q1
 cases r1
 refine cy ?_
 cases c with
 | false=>exact hb Ä s1 σ H1 Q I1 q1
 | true=>exact⟨.bl true,H1,I1,rfl,q1⟩
theorem RA (ha:PE X a ta):PE X (.UnaryOp .Not a pos) (WT ta):=by
 intro Ä s σ H Q I h
 refine UnaryOp_ (af (ha Ä s σ H _ I h) λ v s1 zz=>jA zz λ x H1 I1 r1 q1=>?_)
 obtain⟨c,rfl,q1⟩:=q1
 cases r1
 exact not_of (cy ⟨.bl (!c),H1,I1,rfl,q1⟩)
def tIf (t:TT)(ta tb:TE):TE:=λ σ H Q=>t σ H λ c H1=>if c=true then ta σ H1 Q else tb σ H1 Q
theorem JH (hc:PT X c tA)(ha:PE X a ta)(hb:PE X b tb):PE X (.IfExp c a b pos) (tIf tA ta tb):=by
 intro Ä s σ H Q I h
 refine wpAny_IfExp (af (hc Ä s σ H _ I h) λ d s1 zz=>?_)
 obtain⟨H1,I1,q1⟩:=zz
 cases d with
 | true=>exact ha Ä s1 σ H1 Q I1 q1
 | false=>exact hb Ä s1 σ H1 Q I1 q1
end
def fZ (K:É)(H:Hp)(a:Addr)(xs:Á V):Prop:=
 Rd H a (.lst xs)∨
  ∃ (o:Obj) (its:Ğ Value) (n:Nat),K.lookup a=À o/\o.cls=.type "list"/\o.dict=none/\o.data=.seq its n/\its.size<=sizeLine/\Vals xs its.toList
def hZ (K:É)(H:Hp)(a:Addr)(xs:Á V):Prop:=
 Rd H a (.tup xs)∨
  ∃ (o:Obj) (its:Ğ Value) (n:Nat),K.lookup a=À o/\o.cls=.type "tuple"/\o.data=.seq its n/\its.size<=sizeLine/\Vals xs its.toList
def YG:Value->Ë V
 | .none=>À .Ē
 | .bool b=>À (.bl b)
 | .int i _=>À (.int i)
 | .str x _=>À (.str x)
 | .bytes b _=>À (.CA b)
 | .float b _=>À (.OO b)
 | .ref a=>À (.ref a)
 | .type n=>À (.ty n)
 | _=>none
theorem RelV.abs (r:RelV x u):YG u=À x:=by
 cases x with
 | Ē=>cases r;rfl
 | bl _=>cases r;rfl
 | int _=>obtain⟨t,rfl⟩:=r;rfl
 | str _=>obtain⟨t,rfl⟩:=r;rfl
 | CA _=>obtain⟨t,rfl⟩:=r;rfl
 | OO _=>obtain⟨t,rfl⟩:=r;rfl
 | ref _=>cases r;rfl
 | ty _=>cases r;rfl
theorem RelV.inj (r:RelV x u)(q:RelV y u):x=y:=è (r.abs.symm.trans q.abs)
theorem Vals.inj:∀ {xs ys:Á V}{us:Á Value},Vals xs us->Vals ys us->xs=ys
 | _,_,_,.nil,.nil=>rfl
 | _,_,_,.cons r t,.cons r' t'=>by rw[r.inj r',Vals.inj t t']
section
variable {X:Cx}{Ä:Á (Addr × Obj)}{σ:St}{H:Hp}{s:Ò}{a:Addr}{xs ys:Á V}
theorem fZ.of {K:É}(h:H a=À (.lst xs)):fZ K H a xs:=.inl (.inl h)
theorem hZ.of {K:É}(h:H a=À (.tup xs)):hZ K H a xs:=.inl (.inl h)
theorem Inv.list (I:Inv X Ä σ H s)(h:fZ X.K H a xs):∃ its:Á Value,Vals xs its/\PlainL s.heap a its.toArray/\xs.length<=sizeLine:=by
 rcases h with h|⟨o,its,n,hk,hc,hd,hs,hz,r⟩
 ·obtain⟨z,its,n,r,e⟩:=h.ok I.ļ
  exact⟨its,r,⟨_,n,e,rfl,rfl,rfl⟩,z⟩
 ·refine⟨its.toList,r,⟨o,n,I.mz a o hk,hc,hd,by simpa using hs⟩,?_⟩
  have e:=r.length
  simp only[Ź]at e
  lia
theorem Inv.tuple (I:Inv X Ä σ H s)(h:hZ X.K H a xs):∃ its:Á Value,Vals xs its/\Xb s.heap a its.toArray/\xs.length<=sizeLine:=by
 rcases h with h|⟨o,its,n,hk,hc,hs,hz,r⟩
 ·obtain⟨z,its,r,p⟩:=h.ok I.ļ
  exact⟨its,r,p,z⟩
 ·refine⟨its.toList,r,⟨o,I.mz a o hk,hc,n,by simpa using hs⟩,?_⟩
  have e:=r.length
  simp only[Ź]at e
  lia
theorem Inv.vT (I:Inv X Ä σ H s)(h:fZ X.K H a xs)(h':fZ X.K H a ys):xs=ys:=by
 obtain⟨its,r,⟨o,n,e,_,_,d⟩,_⟩:=I.list h
 obtain⟨its',r',⟨o',n',e',_,_,d'⟩,_⟩:=I.list h'
 rw[e]at e';cases e'
 rw[d]at d'
 injection d' with d1 _
 have:its=its':=by simpa using ĵ ud d1
 subst this
 exact r.inj r'
theorem Inv.sY (I:Inv X Ä σ H s)(h:hZ X.K H a xs)(h':hZ X.K H a ys):xs=ys:=by
 obtain⟨its,r,⟨o,e,_,n,d⟩,_⟩:=I.tuple h
 obtain⟨its',r',⟨o',e',_,n',d'⟩,_⟩:=I.tuple h'
 rw[e]at e';cases e'
 rw[d]at d'
 injection d' with d1 _
 have:its=its':=by simpa using ĵ ud d1
 subst this
 exact r.inj r'
end
section
variable {X:Cx}{Ä:Á (Addr × Obj)}{σ:St}{H:Hp}{s:Ò}{E:Value->Ò->Prop}
end
section
variable {X:Cx}{st:Stmt}{rest:Á Stmt}{t u:TS}{e:ń}{te:TE}{pos:mT}
def WR:TS:=λ D σ H=>D.nx σ H
def aav (t u:TS):TS:=λ D σ H=>t { D with nx:=u D } σ H
theorem NQ:nu X [] WR:=λ _ _ σ H _ I h=>rP ⟨σ,H,I,h⟩
theorem JZ (h1:PS X st t)(h2:nu X rest u):nu X (st :: rest) (aav t u):=by
 intro Ä s σ H D I h
 refine Yz (af (h1 Ä s σ H { D with nx:=u D } I h) λ f s1 q=>?_)
 cases f with
 | next=>
  obtain⟨bh,H',I',q⟩:=q
  exact h2 Ä s1 bh H' D I' q
 | ret v=>exact q
 | brk=>exact q
 | cont=>exact q
theorem NR (h1:PS X st t):nu X [st] t:=by
 intro Ä s σ H D I h
 refine Yz (af (h1 Ä s σ H D I h) λ f s1 q=>?_)
 cases f with
 | next=>exact rP q
 | ret v=>exact q
 | brk=>exact q
 | cont=>exact q
theorem Inv.quiet (I:Inv X Ä σ H s):interactive X.env=false:=by simp[interactive,I.ok.kind]
def WM (te:TE):TS:=λ D σ H=>te σ H λ _ H1=>D.nx σ H1
theorem NO (he:PE X e te)(hs:eB e none pos.line X.env=pure false:=by rfl):PS X (.Expr e pos) (WM te):=by
 intro Ä s σ H D I h
 exact wpAny_Expr_any (af (he Ä s σ H _ I h) λ v s1 zz=>jA zz λ x H1 I1 r1 q1=>⟨σ,H1,I1,q1⟩) I.quiet hs
def aau (te:TE):TS:=λ D σ H=>te σ H D.rt
theorem RM (he:PE X e te):PS X (.Return (À e) pos) (aau te):=by
 intro Ä s σ H D I h
 exact wpAny_Return_some (af (he Ä s σ H _ I h) λ v s1 zz=>jA zz λ x H1 I1 r1 q1=>⟨x,σ,H1,I1,r1,q1⟩)
def aao (c:TT)(t u:TS):TS:=λ D σ H=>c σ H λ b H1=>if b=true then t D σ H1 else u D σ H1
theorem Wo (hc:PT X c tc)(ha:nu X a t)(hb:nu X b u):PS X (.If c a b pos) (aao tc t u):=by
 intro Ä s σ H D I h
 refine wpAny_If (af (hc Ä s σ H _ I h) λ d s1 zz=>?_)
 obtain⟨H1,I1,q1⟩:=zz
 cases d with
 | true=>exact ha Ä s1 σ H1 D I1 q1
 | false=>exact hb Ä s1 σ H1 D I1 q1
end
abbrev TG:=V->St->Hp->(St->Hp->Prop)->Prop
abbrev SU:=Á V->St->Hp->(St->Hp->Prop)->Prop
def PG (X:Cx)(target:ń)(t:TG):Prop:=
 ∀ (Ä:Á (Addr × Obj)) (s:Ò) (σ:St) (H:Hp) (v:V) (u:Value) (Q:St->Hp->Prop),Inv X Ä σ H s->RelV v u->t v σ H Q->
  Ù (Ý X.prog X.w) X.A (lu target X.env u) (λ _ s'=>∃ bh H',Inv X Ä bh H' s'/\Q bh H') X.xe s
def DS (X:Cx)(ts:Á ń)(t:SU):Prop:=
 ∀ (Ä:Á (Addr × Obj)) (s:Ò) (σ:St) (H:Hp) (vs:Á V) (us:Á Value) (Q:St->Hp->Prop),Inv X Ä σ H s->Vals vs us->t vs σ H Q->
  Ù (Ý X.prog X.w) X.A (oM ((dD ts X.env).map (·.2)) us) (λ _ s'=>∃ bh H',Inv X Ä bh H' s'/\Q bh H') X.xe s
abbrev Tz:=V->V->V->Hp->(Hp->Prop)->Prop
def Pr (X:Cx)(t:Tz):Prop:=
 ∀ (Ä:Á (Addr × Obj)) (s:Ò) (σ:St) (H:Hp) (o i v:V) (ov iv u:Value) (Q:Hp->Prop),Inv X Ä σ H s->RelV o ov->RelV i iv->RelV v u->t o i v H Q->
  Ù (Ý X.prog X.w) X.A (LL ov iv u) (λ _ s'=>∃ H',Inv X Ä σ H' s'/\Q H') X.xe s
section
variable {X:Cx}{pos:mT}
def Eh (i:Nat):TG:=λ v σ H Q=>Q (σ.set i (À v)) H
theorem ND (hN:X.N.Nodup)(hi:X.N[i]? = À x)(hx:Loc X.env.scope x)(hf:X.fn x=true∨X.env.scope.names.lookup x=À .local:=by first|exact .inl rfl|exact .inr rfl|assumption):PG X (.Name x pos) (Eh i):=by
 intro Ä s σ H v u Q I r h
 exact Xn (g_ I hN hi hx r (λ s' I'=>⟨_,H,I',h⟩) hf)
def YY:SU:=λ vs σ H Q=>vs=[]/\Q σ H
def UM (t:TG)(u:SU):SU:=λ vs σ H Q=>∃ v r,vs=v :: r/\t v σ H λ bh H'=>u r bh H' Q
theorem NF:DS X [] YY:=by
 intro Ä s σ H vs us Q I r h
 obtain⟨e,h⟩:=h
 subst e
 cases r
 exact yU ⟨σ,H,I,h⟩
theorem JN (h1:PG X e t)(h2:DS X es u)
  (hs:(dD (e :: es) X.env).map (·.2)=lu e X.env :: (dD es X.env).map (·.2):=by rfl):DS X (e :: es) (UM t u):=by
 intro Ä s σ H vs us Q I r h
 obtain⟨v,vr,e1,h⟩:=h
 subst e1
 cases r with
 | cons r rr=>
  rw[hs]
  refine dE (af (h1 Ä s σ H _ _ _ I r h) λ _ s1 zz=>?_)
  obtain⟨Cg,H1,I1,q1⟩:=zz
  exact h2 Ä s1 Cg H1 _ _ Q I1 rr q1
def Y0 (K:É)(n:Nat)(t:SU):TG:=λ v σ H Q=>∃ a xs,v=.ref a/\hZ K H a xs/\xs.length=n/\t xs σ H Q
theorem RE (hc:X.calm=true)(h:DS X es t)
  (hn:(dD es X.env).length=n:=by rfl) (CS:(dD es X.env).findIdx? (·.1)=none:=by rfl):PG X (.Tuple es k pos) (Y0 X.K n t):=by
 intro Ä s σ H v u Q I r hw
 obtain⟨a,xs,e1,hq,hl,hw⟩:=hw
 subst e1
 cases r
 obtain⟨its,rv,ht,hz⟩:=I.tuple hq
 refine assign_Tuple_tuple (I.ok.hd hc) ht (by simp[hn,<-hl,rv.length]) CS λ h' hx=>?_
 have I1:Inv X Ä σ H { s with heap:=h' }:=I.kept (t':=s.toks) λ b o e=>hx b o (ç (Ð e)) e
 exact h Ä _ σ H xs _ Q I1 (by simpa using rv) hw
def YZ (to ti:TE)(t:Tz):TG:=λ v σ H Q=>to σ H λ o H1=>ti σ H1 λ i H2=>t o i v H2 λ H3=>Q σ H3
theorem JM (ho:PE X o to)(hi:PE X i ti)(hs:Pr X t)
  (ha:∀ v,lu (.Subscript o i pos) X.env v=(do
   let ov <-cR [v] (Ć o X.env)
   let iv <-cR [v,ov] (Ć i X.env)
   kh pos
   cR [v,ov,iv] (LL ov iv v)
   release [v,ov,iv] []):=by intro _;rfl):PG X (.Subscript o i pos) (YZ to ti t):=by
 intro Ä s σ H v u Q I r h
 rw[ha]
 refine Â (Ŋ (af (ho Ä s σ H _ I h) λ ov s1 zz=>jA zz λ x H1 I1 r1 q1=>?_))
 refine Â (Ŋ (af (hi Ä s1 σ H1 _ I1 q1) λ iv s2 zz=>jA zz λ y H2 I2 r2 q2=>?_))
 refine Â (eF (Â (Ŋ (af (hs Ä s2 σ H2 x y v ov iv u _ I2 r1 r2 r q2) λ _ s3 zz=>?_))))
 obtain⟨H3,I3,q3⟩:=zz
 exact wpAny_release ⟨σ,H3,I3,q3⟩
def Og (te:TE)(g:TG):TS:=λ D σ H=>te σ H λ x H1=>g x σ H1 D.nx
theorem RI (he:PE X e te)(hg:PG X tg g)(hs:kj [tg] e pos.line X.env=pure false:=by rfl)(hw:ki [tg] e X.env=pure none:=by rfl)
  (h1:(dD [tg] X.env).map (·.2)=[lu tg X.env]:=by rfl):PS X (.Assign [tg] e pos) (Og te g):=by
 intro Ä s σ H D I h
 refine wpAny_Assign_stores (af (he Ä s σ H _ I h) λ v s1 zz=>jA zz λ x H1 I1 r1 q1=>?_) hs hw
 rw[h1]
 exact af (hg Ä s1 σ H1 x v _ I1 r1 q1) λ _ s2 q=>q
theorem RN (hN:X.N.Nodup)(hi:X.N[i]? = À x)(hx:Loc X.env.scope x)(he:PE X e te)(hs:eB e (À (.Name x pos')) pos.line X.env=pure false:=by rfl) (hf:X.fn x=true∨X.env.scope.names.lookup x=À .local:=by first|exact .inl rfl|exact .inr rfl|assumption) :
  PS X (.Assign [.Name x pos'] e pos) (Og te (Eh i)):=by
 intro Ä s σ H D I h
 refine wpAny_Assign_Name (af (he Ä s σ H _ I h) λ v s1 zz=>jA zz λ y H1 I1 r1 q1=>?_) hs
 exact g_ I1 hN hi hx r1 (λ s2 I2=>⟨_,H1,I2,q1⟩) hf
def aat (i j:Nat)(ta:TA):TS:=λ D σ H=>ta σ H λ vs H1=>∃ v w,vs=[v,w]/\D.nx ((σ.set i (À v)).set j (À w)) H1
theorem RL (hc:X.calm=true)(hN:X.N.Nodup)(hi:X.N[i]? = À x)(hj:X.N[j]? = À y)(om:i≠j)
  (hx:X.env.scope.names.lookup x=À .local) (hy:X.env.scope.names.lookup y=À .local) (ha:PA X [a,b] ta)
  (hw:ki [.Tuple [.Name x px,.Name y py] kt pt] (.Tuple [a,b] k2 J0) X.env=pure (À [x,y]))
  (hs:kj [.Tuple [.Name x px,.Name y py] kt pt] (.Tuple [a,b] k2 J0) pos.line X.env=pure false:=by rfl) :
  PS X (.Assign [.Tuple [.Name x px,.Name y py] kt pt] (.Tuple [a,b] k2 J0) pos) (aat i j ta):=by
 intro Ä s σ H D I h
 rw[abf]
 refine Â (eF ?_)
 rw[hs]
 refine Â (Í ?_)
 rw[Ö (by decide)]
 refine Â (Tuple_ (af (ha _ Ä s σ H _ I h) λ us s1 zz=>jA zz λ vs H1 I1 r1 q1=>?_))
 obtain⟨v,w,e1,q1⟩:=q1
 subst e1
 obtain⟨u1,u2,rfl,rv,xD⟩:∃ u1 u2,us=[u1,u2]/\RelV v u1/\RelV w u2:=by
  cases r1 with
  | cons p q=>
   cases q with
   | cons p' q'=>
    cases q'
    exact⟨_,_,rfl,p,p'⟩
 refine Ŏ ?_ (by show 2<=sizeLine;decide)
 have I2:Inv X Ä σ H1 { s1 with heap:=s1.heap.push { cls:=.type "tuple",data:=.seq [u1,u2].toArray } }:=I1.kept (t':=s1.toks) λ b o e=>Ã _ e
 rw[hw]
 refine Â (Í ?_)
 show Ù (Ý X.prog X.w) X.A (do rule "assign.swapped-stores";let items <-unpackItems (.ref s1.heap.objs.size) 2 none;oM [λ v=>gw X.env y v,λ v=>gw X.env x v] items.reverse;pure Cj) _ _ _
 refine Â (cJ (Â (Xl (items:=#[u1,u2]) (I.ok.hd hc) (u5 s1.heap _) λ h' Iv=>?_)))
 have I3:=I2.kept (h':=h') (t':=s1.toks) λ b o e=>Iv b o (ç (Ð e)) e
 show Ù _ _ (oM [λ v=>gw X.env y v,λ v=>gw X.env x v] [u2,u1] >>= λ _=>pure Cj) _ _ _
 refine Â (dE (mZ (g_ I3 hN hj (.inl hy) xD (λ s2 I4=>?_) (.inr hy))))
 refine dE (mZ (g_ I4 hN hi (.inl hx) rv (λ s3 I5=>yU (Í ?_)) (.inr hx)))
 rw[r_ _ _ (Ŝ om)]at I5
 exact⟨_,H1,I5,q1⟩
def Sn (c:TT)(tb:TS):TS:=λ D σ H=>∃ W:Nat->St->Hp->Prop,(∃ m,W m σ H)/\∀ m σ H,W m σ H->
 c σ H λ b H1=>if b=true then ∃ N:St->Hp->Prop,(∀ bh H',N bh H'->∃ m',m' < m/\W m' bh H')/\tb { D with nx:=N,ct:=N,bk:=D.nx } σ H1 else D.nx σ H1
theorem JY (hp:AK (Ý X.prog X.w) X.A X.env X.xe) (hc:PT X c tc)(hb:nu X body tb):PS X (.While c body [] pos) (Sn tc tb):=by
 intro Ä s σ H D I h
 obtain⟨W,⟨m0,w0⟩,turn⟩:=h
 refine wpAny_While (codeAny_whileLoop (λ n s'=>∃ bh H',Inv X Ä bh H' s'/\W n bh H') ?_ m0 ⟨σ,H,I,w0⟩)
 rintro n s1 ⟨Cg,H1,I1,w1⟩
 refine dW hp (af (hc Ä s1 Cg H1 _ I1 (turn n Cg H1 w1)) λ b s2 zz=>?_)
 obtain⟨H2,I2,q2⟩:=zz
 cases b with
 | true=>
  obtain⟨N,hN,q2⟩:=q2
  rw[Ñ rfl]
  refine dW hp (af (hb Ä s2 Cg H2 _ I2 q2) λ f s3 q3=>?_)
  cases f with
  | next=>
   obtain⟨AB,H3,I3,n3⟩:=q3
   obtain⟨m',hm,w3⟩:=hN AB H3 n3
   exact⟨m',hm,AB,H3,I3,w3⟩
  | cont=>
   obtain⟨AB,H3,I3,n3⟩:=q3
   obtain⟨m',hm,w3⟩:=hN AB H3 n3
   exact⟨m',hm,AB,H3,I3,w3⟩
  | brk=>exact q3
  | ret v=>exact q3
 | false=>
  rw[Ö æ]
  exact rP ⟨Cg,H2,I2,q2⟩
end
structure It where
 go:Nat->Hp->Prop
 LC:Nat->Hp->V->Hp->Prop
 stop:Nat->Hp->Prop
def uo (X:Cx)(Ä:Á (Addr × Obj)) (H:Hp)(b:Addr):Prop:=
 H b=none/\b≠X.env.locals/\b∉X.fs/\(b∈X.ex∨X.jS.heap.objs.size<=b)/\(∀ x c,X.env.cells.lookup x=À c->c≠b)/\∀ p∈X.pn++Ä,p.1≠b
theorem Inv.CK (I:Inv X Ä σ H s)(hb:s.heap.objs.size<=b)(hn:H' b=none):uo X Ä H' b:=by
 refine⟨hn,đ (ä I.lt hb),I.ZV hb,.inr (ě I.sz hb),λ x c e z=>?_,λ p hp z=>?_⟩
 ·obtain⟨v,q⟩:=I.cell x c e
  exact absurd (ä q.lt (by rw[z];exact hb)) (Ņ _)
 ·exact absurd (ä (Ð (I.pin p hp).1) (by rw[z];exact hb)) (Ņ _)
structure Turn (P:Ą)(w:ğ)(K:É)(tg:ń)(J:It)(fp:Á Addr)(it:Addr)(tn:Nat->Heap->Prop):Prop where
 mem:it∈fp
 obj:∀ i h,tn i h->∀ b∈fp,∃ o,h.get? b=À o/\∀ v,o.data≠.cell v
 keep:∀ i h h',tn i h->(∀ b∈fp,∀ o,h.get? b=À o->h'.get? b=À o)->tn i h'
 item:∀ (X:Cx),X.prog=P->X.w=w->X.K=K->X.calm=true->∀ (i:Nat) (Ä:Á (Addr × Obj)) (s:Ò) (σ:St) (H:Hp) (E:Value->Ò->Prop),Inv X Ä σ H s->(∀ b∈fp,uo X Ä H b)->tn i s.heap->J.go i H->
  Ù (Ý P w) X.A (lA (.ref it)) (λ r s1=>∃ u,r=À u/\
   Ù (Ý P w) X.A (lz tg (.ref it) u) (λ _ s2=>∃ x H',Inv X Ä σ H' s2/\RelV x u/\J.LC i H x H'/\tn (i+1) s2.heap/\∀ b∈fp,H' b=none) E s1) E s
 done:∀ (X:Cx),X.prog=P->X.w=w->X.K=K->X.calm=true->∀ (i:Nat) (Ä:Á (Addr × Obj)) (s:Ò) (σ:St) (H:Hp) (E:Value->Ò->Prop),Inv X Ä σ H s->(∀ b∈fp,uo X Ä H b)->tn i s.heap->J.stop i H->
  Ù (Ý P w) X.A (lA (.ref it)) (λ r s1=>r=none/\Inv X Ä σ H s1) E s
 self:∀ (A:į) (i:Nat) (s:Ò) (Q:Value->Ò->Prop) (E:Value->Ò->Prop),tn i s.heap->Q (.ref it) s->Ù (Ý P w) A (To (.ref it)) Q E s
abbrev TI:=St->Hp->(It->Hp->Prop)->Prop
def PIE (X:Cx)(Ä:Á (Addr × Obj)) (σ:St)(tg:ń)(R:It->Hp->Prop)(X1:Value)(s2:Ò):Prop:=
 ∃ (it:Addr) (fp:Á Addr) (tn:Nat->Heap->Prop) (J:It) (H':Hp),X1=.ref it/\Inv X Ä σ H' s2/\Turn X.prog X.w X.K tg J fp it tn/\tn 0 s2.heap/\(∀ b∈fp,uo X Ä H' b)/\R J H'
def PI (X:Cx)(tg iter:ń)(wi:TI):Prop:=
 ∀ (Ä:Á (Addr × Obj)) (s:Ò) (σ:St) (H:Hp) (R:It->Hp->Prop),Inv X Ä σ H s->wi σ H R->
  Ù (Ý X.prog X.w) X.A (Ć iter X.env) (λ v s1=>Ù (Ý X.prog X.w) X.A (To v) (PIE X Ä σ tg R) X.xe s1) X.xe s
theorem Ih (ho:s.heap.get? it=À o)(hc:o.cls=.type n)(hd:o.data=.fields vs)
    (hn:["enumerate","zip","dict_itemiterator","dict_reverseitemiterator","odict_iterator","itertools.zip_longest","itertools.pairwise"].contains n=false) (hQ:Q () s):Ù M A (lz tg (.ref it) u) Q E s:=by
  unfold lz
  cases tg<;>first
    | exact Í hQ
    | (cases u<;>first
        | exact Í hQ
        | (refine Â (wpAny_load ho ?_)
           rw[hc,hd]
           show Ù M A (if (["enumerate","zip","dict_itemiterator","dict_reverseitemiterator","odict_iterator","itertools.zip_longest","itertools.pairwise"].contains n && vs[0]? == À (ŧ _))=true then _ else _) Q E s
           rw[Ö (by intro h;rw[hn,Bool.false_and]at h;cases h)]
           exact Í hQ))
def SN (K:É)(a:Addr):It:=
 ⟨λ i H=>∃ xs x,fZ K H a xs/\xs[i]? = À x,λ i H x H'=>H'=H/\∀ xs,fZ K H a xs->xs[i]? = À x,λ i H=>∃ xs,fZ K H a xs/\xs.length<=i⟩
def Tv (K:É)(a:Addr):It:=
 ⟨λ i H=>∃ xs x,hZ K H a xs/\xs[i]? = À x,λ i H x H'=>H'=H/\∀ xs,hZ K H a xs->xs[i]? = À x,λ i H=>∃ xs,hZ K H a xs/\xs.length<=i⟩
def SO (lo:Int)(n:Nat):It:=⟨λ i _=>i < n,λ i H x H'=>H'=H/\x=.int (lo+i),λ i _=>n<=i⟩
theorem yG {P:Ą}{w:ğ}{K:É}{tg:ń}(a it:Addr):Turn P w K tg (SN K a) [it] it (λ i h=>h.IsListIter it a i) where
 mem:=by simp
 obj:=λ i h st b hb=>by
  have e:b=it:=by simpa using hb
  subst e
  obtain⟨o,e,c,d⟩:=st
  exact⟨o,e,λ v z=>by rw[d]at z;cases z⟩
 keep:=λ i h h' st k=>st.at λ o e=>k it (by simp) o e
 item:=by
  intro X hP hw hK hc i Ä s σ H E I hf st hg
  subst hP hw hK
  obtain⟨xs,x,hq,hx⟩:=hg
  obtain⟨its,rv,p,hz⟩:=I.list hq
  obtain⟨u,hu,ru⟩:=rv.get hx
  obtain⟨f0,f1,f2,f3,f4,f5⟩:=hf it (by simp)
  refine wpAny_pyNext_list_item st p.isList (x:=u) (by simpa using hu) λ h' uF sb=>?_
  have I1:Inv X Ä σ H { s with heap:=h' }:=I.turned (t':=s.toks) (λ b o hb e=>(sb.2 b hb).trans e) f0 f1 f3 f4 f5
  obtain⟨o,e,c,d⟩:=id uF
  exact⟨u,rfl,Ih (s:={ s with heap:=h' }) e c d (by decide) ⟨x,H,I1,ru,⟨rfl,λ ys hy=>by rw[I.vT hy hq];exact hx⟩,uF,λ b hb=>(hf b hb).1⟩⟩
 done:=by
  intro X hP hw hK hc i Ä s σ H E I hf st hg
  subst hP hw hK
  obtain⟨xs,hq,hx⟩:=hg
  obtain⟨its,rv,p,hz⟩:=I.list hq
  obtain⟨f0,f1,f2,f3,f4,f5⟩:=hf it (by simp)
  have hl:=rv.length
  exact wpAny_pyNext_list_end (I.ok.hd hc) st p.isList (by simp;lia) λ h' eb=>⟨rfl,I.turned (t':=s.toks) (λ b o hb e=>eb b o hb e) f0 f1 f3 f4 f5⟩
 self:=λ _ _ _ _ _ st h=>wpAny_pyIter_listiter st h
theorem DH {P:Ą}{w:ğ}{K:É}{tg:ń}(a it:Addr):Turn P w K tg (Tv K a) [it] it (λ i h=>h.IsTupleIter it a i) where
 mem:=by simp
 obj:=λ i h st b hb=>by
  have e:b=it:=by simpa using hb
  subst e
  obtain⟨o,e,c,d⟩:=st
  exact⟨o,e,λ v z=>by rw[d]at z;cases z⟩
 keep:=λ i h h' st k=>st.at λ o e=>k it (by simp) o e
 item:=by
  intro X hP hw hK hc i Ä s σ H E I hf st hg
  subst hP hw hK
  obtain⟨xs,x,hq,hx⟩:=hg
  obtain⟨its,rv,p,hz⟩:=I.tuple hq
  obtain⟨u,hu,ru⟩:=rv.get hx
  obtain⟨f0,f1,f2,f3,f4,f5⟩:=hf it (by simp)
  refine wpAny_pyNext_tuple_item st (show s.heap.IsTuple a its.toArray from p) (x:=u) (by simpa using hu) λ h' uF sb=>?_
  have I1:Inv X Ä σ H { s with heap:=h' }:=I.turned (t':=s.toks) (λ b o hb e=>(sb.2 b hb).trans e) f0 f1 f3 f4 f5
  obtain⟨o,e,c,d⟩:=id uF
  exact⟨u,rfl,Ih (s:={ s with heap:=h' }) e c d (by decide) ⟨x,H,I1,ru,⟨rfl,λ ys hy=>by rw[I.sY hy hq];exact hx⟩,uF,λ b hb=>(hf b hb).1⟩⟩
 done:=by
  intro X hP hw hK hc i Ä s σ H E I hf st hg
  subst hP hw hK
  obtain⟨xs,hq,hx⟩:=hg
  obtain⟨its,rv,p,hz⟩:=I.tuple hq
  obtain⟨f0,f1,f2,f3,f4,f5⟩:=hf it (by simp)
  have hl:=rv.length
  exact wpAny_pyNext_tuple_end (I.ok.hd hc) st (show s.heap.IsTuple a its.toArray from p) (by simp;lia) λ h' eb=>⟨rfl,I.turned (t':=s.toks) (λ b o hb e=>eb b o hb e) f0 f1 f3 f4 f5⟩
 self:=λ _ _ _ _ _ st h=>wpAny_pyIter_tupleiter st h
theorem DG {P:Ą}{w:ğ}{K:É}{tg:ń}(it:Addr)(lo:Int)(n:Nat):Turn P w K tg (SO lo n) [it] it (λ i h=>IsRangeIter h it (lo+(i:Nat) * 1) ((n:Int) - (i:Nat)) 1) where
 mem:=by simp
 obj:=λ i h st b hb=>by
  have e:b=it:=by simpa using hb
  subst e
  exact⟨_,st,λ v z=>by
   have z':Data.fields _=Data.cell v:=z
   cases z'⟩
 keep:=λ i h h' st k=>k it (by simp) _ st
 item:=by
  intro X hP hw hK hc i Ä s σ H E I hf st hg
  subst hP hw hK
  obtain⟨f0,f1,f2,f3,f4,f5⟩:=hf it (by simp)
  have W:=Walks.range (prog:=X.prog) (w:=X.w) (I.ok.hd hc) it lo 1 n
  refine W.item i s _ _ hg st λ v h' tk hv uF kk=>?_
  obtain⟨t,rfl⟩:=hv
  have I1:Inv X Ä σ H { s with heap:=h',toks:=tk }:=I.turned (λ b o hb e=>kk b o (by simpa using hb) e) f0 f1 f3 f4 f5
  refine⟨_,rfl,Ih (s:={ s with heap:=h',toks:=tk }) (n:="range_iterator") uF rfl rfl (by decide) ⟨.int (lo+i),H,I1,⟨t,?_⟩,⟨rfl,rfl⟩,uF,λ b hb=>(hf b hb).1⟩⟩
  rw[Int.mul_one]
 done:=by
  intro X hP hw hK hc i Ä s σ H E I hf st hg
  subst hP hw hK
  obtain⟨f0,f1,f2,f3,f4,f5⟩:=hf it (by simp)
  exact wpAny_pyNext_range_end (I.ok.hd hc) st (by have:n<=i:=hg;lia) λ h' eb=>⟨rfl,I.turned (t':=s.toks) (λ b o hb e=>eb b o hb e) f0 f1 f3 f4 f5⟩
 self:=λ _ _ _ _ _ st h=>wpAny_pyIter_rangeiter st h
section
variable {X:Cx}{tg:ń}
def Ve (K:É)(tl:TE):TI:=λ σ H R=>tl σ H λ x H1=>∃ a,x=.ref a/\(∃ xs,fZ K H1 a xs)/\R (SN K a) H1
theorem NH {l:ń}{tl:TE}(hl:PE X l tl):PI X tg l (Ve X.K tl):=by
 intro Ä s σ H R I h
 refine af (hl Ä s σ H _ I h) λ v s1 zz=>jA zz λ x H1 I1 r1 q1=>?_
 obtain⟨a,e,⟨xs,hq⟩,q⟩:=q1
 subst e
 cases r1
 obtain⟨its,rv,p,hz⟩:=I1.list hq
 refine y_ p.isList ?_
 refine⟨s1.heap.objs.size,[s1.heap.objs.size],_,_,H1,rfl,I1.kept (t':=s1.toks) λ b o e=>Ã _ e,yG a _,⟨_,Ø _ rfl,rfl,rfl⟩,λ b hb=>?_,q⟩
 have e:b=s1.heap.objs.size:=by simpa using hb
 subst e
 exact I1.CK (Ï _) (I1.ļ.fresh (Ï _))
theorem Ka {Ä:Á (Addr × Obj)}{σ:St}{H:Hp}{s:Ò}{R:It->Hp->Prop}{E:Value->Ò->Prop}{lo hi:Int}{t u v:SJ}{tk:Nat}(I:Inv X Ä σ H s)(h1:-(2 ^ 62)<=lo) (h2:lo < 2 ^ 62)(h3:-(2 ^ 62)<=hi) (h4:hi < 2 ^ 62)
  (q:R (SO lo (hi - lo).toNat) H):Ù (Ý X.prog X.w) X.A (To (.ref s.heap.objs.size)) (PIE X Ä σ tg R) E { s with heap:=s.heap.push { cls:=.type "range",data:=.fields #[.int lo t,.int hi u,.int 1 v] },toks:=tk }:=by
 refine wpAny_pyIter_range (IsRange.new ..) (small_one h1 h2 h3 h4) ?_
 have I1:Inv X Ä σ H { s with heap:=s.heap.push { cls:=.type "range",data:=.fields #[.int lo t,.int hi u,.int 1 v] },toks:=tk }:=I.kept λ b o e=>Ã _ e
 refine⟨(s.heap.push { cls:=.type "range",data:=.fields #[.int lo t,.int hi u,.int 1 v] }).objs.size,[(s.heap.push { cls:=.type "range",data:=.fields #[.int lo t,.int hi u,.int 1 v] }).objs.size],_,_,H,rfl,
  I1.kept (t':=tk) λ b o e=>Ã _ e,DG _ lo (hi - lo).toNat,?_,λ b hb=>?_,q⟩
 ·have e1:lo+((0:Nat):Int) * 1=lo:=by simp
  have e2:(((hi - lo).toNat:Nat):Int) - ((0:Nat):Int)=Yd lo hi 1:=by rw[rangeSize_one];split<;>lia
  show IsRangeIter _ _ (lo+((0:Nat):Int) * 1) ((((hi - lo).toNat:Nat):Int) - ((0:Nat):Int)) 1
  rw[e1,e2]
  exact Ø _ rfl
 ·have e:b=(s.heap.push { cls:=.type "range",data:=.fields #[.int lo t,.int hi u,.int 1 v] }).objs.size:=by simpa using hb
  subst e
  exact I1.CK (Ï _) (I1.ļ.fresh (Ï _))
def Vf (ta:TA):TI:=λ σ H R=>ta σ H λ vs H1=>∃ j:Int,vs=[.int j]/\-(2 ^ 62)<=j/\j < 2 ^ 62/\R (SO 0 j.toNat) H1
theorem Gs {a:ń}{ta:TA}{p pos:mT}(hg:Gl X "range")(hm:X.mg "range"=none)(ha:PA X [a] ta)(hs:Ì [a] X.env=[(false,Ć a X.env)]:=by rfl):PI X tg (.Call (.Name "range" p) [a] [] pos) (Vf ta):=by
 intro Ä s σ H R I h
 refine Call_ (pO I hg hm boot_range (cH (af (ha pos Ä s σ H _ I h) λ us s1 zz=>jA zz λ vs H1 I1 r1 q1=>?_) hs rfl))
 obtain⟨j,e,q1,q2,q⟩:=q1
 subst e
 cases r1 with
 | cons r rr=>
  cases rr
  obtain⟨t,rfl⟩:=r
  exact call_range_1 (Ka I1 (by lia) (by lia) q1 q2 (by simpa using q))
def aan (wi:TI)(g:TG)(tb:TS):TS:=λ D σ H=>wi σ H λ J H1=>∃ W:Nat->Nat->St->Hp->Prop,(∃ m,W 0 m σ H1)/\∀ i m σ H,W i m σ H->
 (J.stop i H/\D.nx σ H)∨(J.go i H/\∃ N:St->Hp->Prop,(∀ bh H',N bh H'->∃ m',m' < m/\W (i+1) m' bh H')/\∀ x H',J.LC i H x H'->g x σ H' λ B0 H2=>tb { D with nx:=N,ct:=N,bk:=D.nx } B0 H2)
def wb (fp:Á Addr)(h:Heap):Á (Addr × Obj):=fp.filterMap λ b=>(h.get? b).map λ o=>(b,o)
theorem mD (hb:b∈fp)(e:h.get? b=À o):(b,o)∈wb fp h:=k9.mpr ⟨b,hb,by rw[e];rfl⟩
theorem Gi (hp:p∈wb fp h):p.1∈fp/\h.get? p.1=À p.2:=by
 obtain⟨b,hb,e⟩:=k9.mp hp
 cases q:h.get? b with
 | none=>rw[q]at e;cases e
 | some o=>
  rw[q]at e
  have e':(b,o)=p:=è e
  subst e'
  exact⟨hb,q⟩
theorem Inv.pinned (I:Inv X Ä σ H s)(hf:∀ b∈fp,uo X Ä H b)(ho:∀ b∈fp,∃ o,s.heap.get? b=À o/\∀ v,o.data≠.cell v):Inv X (Ä++wb fp s.heap) σ H s:=
 I.EV λ p hp=>(aQ.mp hp).elim (λ z=>I.pin p (Ĥ _ z)) λ z=>by
  obtain⟨hb,e⟩:=Gi z
  obtain⟨f0,f1,f2,_⟩:=hf p.1 hb
  obtain⟨o,e',d⟩:=ho p.1 hb
  rw[e]at e';cases e'
  exact⟨e,f0,f1,f2,d⟩
theorem Inv.rE (I:Inv X (Ä++pl) σ H s):Inv X Ä σ H s:=I.EV λ p hp=>I.pin p (Ĥ _ (jf _ hp))
theorem RK (hp:AK (Ý X.prog X.w) X.A X.env X.xe) (hc:X.calm=true)(hi:PI X tg iter wi)(hg:PG X tg g)(hb:nu X body tb)
  (hs:∀ x,eO iter X.env x=pure x:=by intro _;rfl):PS X (.For tg iter body [] pos) (aan wi g tb):=by
 intro Ä s σ H D I h
 refine wpAny_For (af (hi Ä s σ H _ I h) λ v s1 h1=>af h1 λ X1 s2 h2=>?_) hs
 obtain⟨it,fp,tn,J,H2,e,I2,T,G0,f2,W,⟨m0,w0⟩,turn⟩:=h2
 subst e
 have Sd:∀ {H':Hp},(∀ b∈fp,H' b=none)->∀ b∈fp,uo X Ä H' b:=λ hn b hb=>⟨hn b hb,(f2 b hb).2⟩
 refine codeAny_forLoop_any (λ n s'=>∃ i bh H',Inv X Ä bh H' s'/\tn i s'.heap/\(∀ b∈fp,H' b=none)/\W i n bh H') ?_ m0 ⟨0,σ,H2,I2,G0,λ b hb=>(f2 b hb).1,w0⟩
 rintro n s3 ⟨i,AB,H3,I3,GH,fr3,w3⟩
 rcases turn i n AB H3 w3 with⟨stop,qn⟩|⟨go,N,hN,step⟩
 ·refine dW hp (af (T.done X rfl rfl rfl hc i Ä s3 AB H3 X.xe I3 (Sd fr3) GH stop) λ r s4 zz=>?_)
  obtain⟨hr,I4⟩:=zz
  subst hr
  exact rP ⟨AB,H3,I4,qn⟩
 ·refine dW hp (af (T.item X rfl rfl rfl hc i Ä s3 AB H3 X.xe I3 (Sd fr3) GH go) λ r s4 zz=>?_)
  obtain⟨u,hr,h4⟩:=zz
  subst hr
  refine dW hp (af h4 λ _ s5 zz=>?_)
  obtain⟨x,H5,I5,r5,y5,S',XH⟩:=zz
  have I5':=I5.pinned (Sd XH) (T.obj _ _ S')
  refine dW hp (af (hg _ s5 AB H5 x u _ I5' r5 (step x H5 y5)) λ _ s6 zz=>?_)
  obtain⟨σ6,H6,I6,q6⟩:=zz
  refine dW hp (af (hb _ s6 σ6 H6 _ I6 q6) λ f s7 q7=>?_)
  have again:∀ {KS:St}{H7:Hp},Inv X (Ä++wb fp s5.heap) KS H7 s7->N KS H7->∃ m,m < n/\∃ i bh H',Inv X Ä bh H' s7/\tn i s7.heap/\(∀ b∈fp,H' b=none)/\W i m bh H':=λ {KS H7} I7 n7=>by
   obtain⟨m',hm,w7⟩:=hN KS H7 n7
   refine⟨m',hm,i+1,KS,H7,I7.rE,T.keep _ _ _ S' λ b hb o e=>(I7.pin (b,o) (Ĥ _ (Ĥ _ (mD hb e)))).1,λ b hb=>?_,w7⟩
   obtain⟨o,e,d⟩:=T.obj _ _ S' b hb
   exact(I7.pin (b,o) (Ĥ _ (Ĥ _ (mD hb e)))).2.1
  cases f with
  | next=>obtain⟨KS,H7,I7,n7⟩:=q7;exact again I7 n7
  | cont=>obtain⟨KS,H7,I7,n7⟩:=q7;exact again I7 n7
  | brk=>obtain⟨KS,H7,I7,q7⟩:=q7;exact⟨KS,H7,I7.rE,q7⟩
  | ret v=>obtain⟨x7,KS,H7,I7,r7,q7⟩:=q7;exact⟨x7,KS,H7,I7.rE,r7,q7⟩
end
abbrev R2:=V->V->Hp->VK->Prop
def kI (X:Cx)(f:Value->Value->Sem Value)(r:R2):Prop:=
 ∀ (Ä:Á (Addr × Obj)) (s:Ò) (σ:St) (H:Hp) (x y:V) (v u:Value) (Q:VK),Inv X Ä σ H s->RelV x v->RelV y u->r x y H Q->
  Ù (Ý X.prog X.w) X.A (f v u) (EP X Ä σ Q) X.xe s
def TF (X:Cx)(f:Value->Sem Value)(r:V->Hp->VK->Prop):Prop:=
 ∀ (Ä:Á (Addr × Obj)) (s:Ò) (σ:St) (H:Hp) (x:V) (v:Value) (Q:VK),Inv X Ä σ H s->RelV x v->r x H Q->
  Ù (Ý X.prog X.w) X.A (f v) (EP X Ä σ Q) X.xe s
def cq (X:Cx)(f:Value)(r:Á V->Hp->VK->Prop):Prop:=
 ∀ (Ä:Á (Addr × Obj)) (s:Ò) (σ:St) (H:Hp) (xs:Á V) (us:Á Value) (Q:VK),Inv X Ä σ H s->Vals xs us->r xs H Q->
  Ù (Ý X.prog X.w) X.A (call f us) (EP X Ä σ Q) X.xe s
def YE (X:Cx)(r:V->Hp->(Bool->Hp->Prop)->Prop):Prop:=
 ∀ (Ä:Á (Addr × Obj)) (s:Ò) (σ:St) (H:Hp) (x:V) (v:Value) (Q:Bool->Hp->Prop),Inv X Ä σ H s->RelV x v->r x H Q->
  Ù (Ý X.prog X.w) X.A (truthy v) (TP X Ä σ Q) X.xe s
def WU (r:R2)(ta tb:TE):TE:=λ σ H Q=>ta σ H λ x H1=>tb σ H1 λ y H2=>r x y H2 Q
def tUn (r:V->Hp->VK->Prop)(ta:TE):TE:=λ σ H Q=>ta σ H λ x H1=>r x H1 Q
def rI (C:Int->Int->Prop)(g:Int->Int->V):R2:=λ x y H Q=>∃ i j,x=.int i/\y=.int j/\C i j/\Q (g i j) H
def S9 (g:Int->Int->V):R2:=λ x y H Q=>∃ i j,x=.int i/\y=.int j/\Q (g i j) H
def rU (g:Int->V):V->Hp->VK->Prop:=λ x H Q=>∃ i,x=.int i/\Q (g i) H
section
variable {X:Cx}{a b c:ń}{ta tb tc:TE}{pos:mT}
theorem Px (ha:PE X a ta)(hb:PE X b tb){Ä:Á (Addr × Obj)}{s:Ò}{σ:St}{H:Hp}{R:V->V->Hp->Prop}(I:Inv X Ä σ H s)
  (h:ta σ H λ x H1=>tb σ H1 λ y H2=>R x y H2) {Q:Value->Ò->Prop}{f:Value->Value->Sem Value}
  (hf:∀ v u s2 x y H2,Inv X Ä σ H2 s2->RelV x v->RelV y u->R x y H2->Ù (Ý X.prog X.w) X.A (f v u) Q X.xe s2) :
  Ù (Ý X.prog X.w) X.A (Ć a X.env) (λ v s₁=>Ù (Ý X.prog X.w) X.A (Ć b X.env) (λ u s₂=>Ù (Ý X.prog X.w) X.A (f v u) Q X.xe s₂) X.xe s₁) X.xe s:=by
 refine af (ha Ä s σ H _ I h) λ v s1 zz=>jA zz λ x H1 I1 r1 q1=>?_
 refine af (hb Ä s1 σ H1 _ I1 q1) λ u s2 zz=>jA zz λ y H2 I2 r2 q2=>?_
 exact hf v u s2 x y H2 I2 r1 r2 q2
theorem Wi {op:Operator}{r:R2}(ho:kI X (bO op) r) (ha:PE X a ta)(hb:PE X b tb):PE X (.BinOp a op b pos) (WU r ta tb):=by
 intro Ä s σ H Q I h
 exact wpAny_BinOp (Px ha hb I h λ v u s2 x y H2 I2 rx ry q=>ho Ä s2 σ H2 x y v u Q I2 rx ry q)
theorem Wm (ho:TF X (Xk op) r) (ha:PE X a ta):PE X (.UnaryOp op a pos) (tUn r ta):=by
 intro Ä s σ H Q I h
 exact UnaryOp_ (af (ha Ä s σ H _ I h) λ v s1 zz=>jA zz λ x H1 I1 r1 q1=>ho Ä s1 σ H1 x v Q I1 r1 q1)
theorem X5 {f:Value->Value->Sem Value}{C:Int->Int->Prop}{g:Int->Int->Int}
  (rule:∀ (i j:Int) (t u:SJ) (s:Ò) (Q:Value->Ò->Prop) (E:Value->Ò->Prop),C i j->Q (.int (g i j) s.toks) { s with toks:=s.toks+1 }->Ù (Ý X.prog X.w) X.A (f (.int i t) (.int j u)) Q E s) :
  kI X f (rI C λ i j=>.int (g i j)):=by
 intro Ä s σ H x y v u Q I rx ry h
 obtain⟨i,j,rfl,rfl,hc,q⟩:=h
 obtain⟨t,rfl⟩:=rx
 obtain⟨t',rfl⟩:=ry
 exact rule i j t t' s _ _ hc ⟨.int (g i j),H,I.tok _,⟨_,rfl⟩,q⟩
theorem Z2 {f:Value->Value->Sem Value}{g:Int->Int->Int}
  (rule:∀ (i j:Int) (t u:SJ) (s:Ò) (Q:Value->Ò->Prop) (E:Value->Ò->Prop),Q (.int (g i j) s.toks) { s with toks:=s.toks+1 }->Ù (Ý X.prog X.w) X.A (f (.int i t) (.int j u)) Q E s) :
  kI X f (S9 λ i j=>.int (g i j)):=by
 intro Ä s σ H x y v u Q I rx ry h
 obtain⟨i,j,rfl,rfl,q⟩:=h
 obtain⟨t,rfl⟩:=rx
 obtain⟨t',rfl⟩:=ry
 exact rule i j t t' s _ _ ⟨.int (g i j),H,I.tok _,⟨_,rfl⟩,q⟩
theorem Rg {f:Value->Value->Sem Value}{g:Int->Int->Bool}
  (rule:∀ (i j:Int) (t u:SJ) (s:Ò) (Q:Value->Ò->Prop) (E:Value->Ò->Prop),Q (.bool (g i j)) s->Ù (Ý X.prog X.w) X.A (f (.int i t) (.int j u)) Q E s) :
  kI X f (S9 λ i j=>.bl (g i j)):=by
 intro Ä s σ H x y v u Q I rx ry h
 obtain⟨i,j,rfl,rfl,q⟩:=h
 obtain⟨t,rfl⟩:=rx
 obtain⟨t',rfl⟩:=ry
 exact rule i j t t' s _ _ ⟨.bl (g i j),H,I,rfl,q⟩
def LO (i j:Int):Prop:=0<=j/\j<=1000000/\i.natAbs < 2 ^ 64
theorem Ri:kI X (bO .Add) (S9 λ i j=>.int (i+j)):=Z2 λ _ _ _ _ _ _ _ q=>add_int q
theorem Nt:kI X (bO .Mod) (rI (λ _ j=>j≠0) λ i j=>.int (i.fmod j)):=X5 λ _ _ _ _ _ _ _ hc q=>mod_int' hc q
theorem Rq:kI X (bO .Pow) (rI LO λ i j=>.int (i ^ j.toNat)):=X5 λ _ _ _ _ _ _ _ hc q=>pow_int_small hc.1 hc.2.1 hc.2.2 q
theorem unI {f:Value->Sem Value}{g:Int->Int}
  (rule:∀ (i:Int) (t:SJ) (s:Ò) (Q:Value->Ò->Prop) (E:Value->Ò->Prop),Q (.int (g i) s.toks) { s with toks:=s.toks+1 }->Ù (Ý X.prog X.w) X.A (f (.int i t)) Q E s) :
  TF X f (rU λ i=>.int (g i)):=by
 intro Ä s σ H x v Q I rx h
 obtain⟨i,rfl,q⟩:=h
 obtain⟨t,rfl⟩:=rx
 exact rule i t s _ _ ⟨.int (g i),H,I.tok _,⟨_,rfl⟩,q⟩
theorem Sv:TF X (Xk .USub) (rU λ i=>.int (-i)):=unI λ _ _ _ _ _ q=>neg_int q
end
def R8:V->V->Bool
 | .Ē,.Ē=>true|.Ē,.int _=>true|.int _,.Ē=>true|.Ē,.bl _=>true|.bl _,.Ē=>true|.Ē,.str _=>true|.str _,.Ē=>true
 | .int _,.int _=>true|.bl _,.bl _=>true|.str _,.str _=>true|.CA _,.CA _=>true
 | .int _,.str _=>true|.str _,.int _=>true|.bl _,.str _=>true|.str _,.bl _=>true
 | _,_=>false
def rEq:R2:=λ x y H Q=>R8 x y=true/\Q (.bl (decide (x=y))) H
def rNe:R2:=λ x y H Q=>R8 x y=true/\Q (.bl (!decide (x=y))) H
theorem Ea:decide (V.int i=V.int j)=(i == j):=by
 rw[jW]
 simp
theorem HC:decide (V.bl i=V.bl j)=(i == j):=by
 rw[jW]
 simp
theorem Ec:decide (V.str i=V.str j)=(i == j):=by
 rw[jW]
 simp
theorem D_:decide (V.CA i=V.CA j)=(i.toList == j.toList):=by
 rw[jW]
 cases i
 cases j
 simp
section
variable {X:Cx}{a b c:ń}{ta tb tc:TE}{pos:mT}
theorem Ŗ (I:Inv X Ä σ H s)(q:Q (.bl k) H) (e:k=k'):EP X Ä σ Q (.bool k') s:=by
 subst e
 exact⟨.bl k,H,I,rfl,q⟩
theorem V_:kI X (Į .Eq) rEq:=by
 intro Ä s σ H x y v u Q I rx ry h
 obtain⟨hs,q⟩:=h
 cases x with
 | Ē=>
  cases rx
  cases y with
  | Ē=>cases ry;exact aaX (Ŗ I q (by simp))
  | bl j=>cases ry;exact aaV (Ŗ I q (by simp))
  | int j=>obtain⟨t',rfl⟩:=ry;exact aaW (Ŗ I q (by simp))
  | str j=>obtain⟨t',rfl⟩:=ry;exact aaY (Ŗ I q (by simp))
  | _=>exact absurd (show false=true from hs) æ
 | bl i=>
  cases rx
  cases y with
  | Ē=>cases ry;exact aaT (Ŗ I q (by simp))
  | bl j=>cases ry;exact eq_bool (Ŗ I q HC)
  | str j=>obtain⟨t',rfl⟩:=ry;exact Yl (Ŗ I q (by simp))
  | _=>exact absurd (show false=true from hs) æ
 | int i=>
  obtain⟨t,rfl⟩:=rx
  cases y with
  | Ē=>cases ry;exact aaU (Ŗ I q (by simp))
  | int j=>obtain⟨t',rfl⟩:=ry;exact eq_int (Ŗ I q Ea)
  | str j=>obtain⟨t',rfl⟩:=ry;exact Ym (Ŗ I q (by simp))
  | _=>exact absurd (show false=true from hs) æ
 | str i=>
  obtain⟨t,rfl⟩:=rx
  cases y with
  | Ē=>cases ry;exact aaZ (Ŗ I q (by simp))
  | bl j=>cases ry;exact Yn (Ŗ I q (by simp))
  | int j=>obtain⟨t',rfl⟩:=ry;exact Yo (Ŗ I q (by simp))
  | str j=>obtain⟨t',rfl⟩:=ry;exact eq_str (Ŗ I q Ec)
  | _=>exact absurd (show false=true from hs) æ
 | CA i=>
  obtain⟨t,rfl⟩:=rx
  cases y with
  | CA j=>obtain⟨t',rfl⟩:=ry;exact PySem.W.eq_bytes (Ŗ I q D_)
  | _=>exact absurd (show false=true from hs) æ
 | _=>cases y<;>exact absurd (show false=true from hs) æ
theorem Wd:kI X (Į .NotEq) rNe:=by
 intro Ä s σ H x y v u Q I rx ry h
 obtain⟨hs,q⟩:=h
 cases x with
 | Ē=>
  cases rx
  cases y with
  | Ē=>cases ry;exact aa4 (Ŗ I q (by simp))
  | bl j=>cases ry;exact aa2 (Ŗ I q (by simp))
  | int j=>obtain⟨t',rfl⟩:=ry;exact aa3 (Ŗ I q (by simp))
  | str j=>obtain⟨t',rfl⟩:=ry;exact aa5 (Ŗ I q (by simp))
  | _=>exact absurd (show false=true from hs) æ
 | bl i=>
  cases rx
  cases y with
  | Ē=>cases ry;exact aa0 (Ŗ I q (by simp))
  | bl j=>cases ry;exact ne_bool (Ŗ I q (ĵ not HC))
  | str j=>obtain⟨t',rfl⟩:=ry;exact Yp (Ŗ I q (by simp))
  | _=>exact absurd (show false=true from hs) æ
 | int i=>
  obtain⟨t,rfl⟩:=rx
  cases y with
  | Ē=>cases ry;exact aa1 (Ŗ I q (by simp))
  | int j=>obtain⟨t',rfl⟩:=ry;exact ne_int (Ŗ I q (ĵ not Ea))
  | str j=>obtain⟨t',rfl⟩:=ry;exact Yq (Ŗ I q (by simp))
  | _=>exact absurd (show false=true from hs) æ
 | str i=>
  obtain⟨t,rfl⟩:=rx
  cases y with
  | Ē=>cases ry;exact aa6 (Ŗ I q (by simp))
  | bl j=>cases ry;exact Yr (Ŗ I q (by simp))
  | int j=>obtain⟨t',rfl⟩:=ry;exact Ys (Ŗ I q (by simp))
  | str j=>obtain⟨t',rfl⟩:=ry;exact ne_str (Ŗ I q (ĵ not Ec))
  | _=>exact absurd (show false=true from hs) æ
 | CA i=>
  obtain⟨t,rfl⟩:=rx
  cases y with
  | CA j=>obtain⟨t',rfl⟩:=ry;exact PySem.W.ne_bytes (Ŗ I q (ĵ not D_))
  | _=>exact absurd (show false=true from hs) æ
 | _=>cases y<;>exact absurd (show false=true from hs) æ
theorem Wc:kI X (Į .Lt) (S9 λ i j=>.bl (decide (i < j))):=Rg λ _ _ _ _ _ _ _ q=>lt_int q
theorem Wb:kI X (Į .Gt) (S9 λ i j=>.bl (decide (j < i))):=Rg λ _ _ _ _ _ _ _ q=>gt_int q
theorem Wa:kI X (Į .GtE) (S9 λ i j=>.bl (decide (j<=i))):=Rg λ _ _ _ _ _ _ _ q=>ge_int q
theorem Gn:kI X (Į .Lt) (λ x y H Q=>∃ i j,x=.str i/\y=.str j/\Q (.bl (decide (i.cps.toList < j.cps.toList))) H):=by
 intro Ä s σ H x y v u Q I rx ry h
 obtain⟨i,j,rfl,rfl,q⟩:=h
 obtain⟨t,rfl⟩:=rx
 obtain⟨t',rfl⟩:=ry
 exact lt_str (Ŗ I q rfl)
theorem Rm:kI X (Į .Is) (λ x y H Q=>y=.Ē/\Q (.bl (decide (x=.Ē))) H):=by
 intro Ä s σ H x y v u Q I rx ry h
 obtain⟨rfl,q⟩:=h
 cases ry
 refine is_none_gen (Ŗ I q ?_)
 cases x<;>first
  | (cases rx;rfl)
  | (obtain⟨t,rfl⟩:=rx;rfl)
theorem Nx {op:CmpOp}{r:R2}(ho:kI X (Į op) r) (ha:PE X a ta)(hb:PE X b tb)(hm:ae op b=false):PE X (.Compare a [op] [b] pos) (WU r ta tb):=by
 intro Ä s σ H Q I h
 exact wpAny_Compare1 (Px ha hb I h λ v u s2 x y H2 I2 rx ry q=>ho Ä s2 σ H2 x y v u Q I2 rx ry q) hm
def WY (t:TE):TT:=λ σ H Q=>t σ H λ x H'=>∃ k,x=.bl k/\Q k H'
theorem NS (ho:kI X (Į op) r) (ha:PE X a ta)(hb:PE X b tb)(hm:ae op b=false):PT X (.Compare a [op] [b] pos) (WY (WU r ta tb)):=by
 intro Ä s σ H Q I h
 refine OD (af (ha Ä s σ H _ I h) λ v s1 zz=>jA zz λ x H1 I1 r1 q1=>af (hb Ä s1 σ H1 _ I1 q1) λ u s2 zz=>jA zz λ y H2 I2 r2 q2=>
  af (ho Ä s2 σ H2 x y v u _ I2 r1 r2 q2) λ c s3 ⟨z,H3,I3,r3,k,e,q3⟩=>?_) hm
 subst e
 cases r3
 exact cy ⟨H3,I3,q3⟩
def Pt (K:É)(x:V)(H:Hp)(k:Bool):Prop:=
 match x with
 | .Ē=>k=false
 | .bl b=>k=b
 | .int i=>k=(i != 0)
 | .str y=>y.length<=sizeLine/\k=((y.length:Int) != 0)
 | .CA y=>y.size<=sizeLine/\k=((y.size:Int) != 0)
 | .ref p=>(∃ xs,fZ K H p xs/\k=!xs.isEmpty)∨(∃ xs,hZ K H p xs/\k=!xs.isEmpty)∨∃ kvs,H p=À (.dK kvs)/\k=!kvs.isEmpty
 | _=>False
theorem CT (r:KV kvs vs):(!vs.isEmpty)=!kvs.isEmpty:=by
 cases r<;>rfl
theorem vP (r:Vals xs its):(!its.toArray.isEmpty)=!xs.isEmpty:=by
 cases r<;>simp
theorem nQ:(sizeLine:Nat) < 2 ^ 63:=by rw[ġ];decide
theorem Sr:YE X (λ x H Q=>∃ k,Pt X.K x H k/\Q k H):=by
 intro Ä s σ H x v Q I rx h
 obtain⟨k,e,q⟩:=h
 have hl:=nQ
 have hs:sizeLine=16777216:=ġ
 cases x with
 | Ē=>
  cases rx
  have e':k=false:=e
  subst e'
  exact truthy_none ⟨H,I,q⟩
 | bl b=>
  cases rx
  have e':k=b:=e
  subst e'
  exact cy ⟨H,I,q⟩
 | int i=>
  obtain⟨t,rfl⟩:=rx
  have e':k=(i != 0):=e
  subst e'
  exact PySem.P.truthy_int ⟨H,I,q⟩
 | str y=>
  obtain⟨t,rfl⟩:=rx
  obtain⟨hy,e'⟩:y.length<=sizeLine/\k=((y.length:Int) != 0):=e
  subst e'
  exact PySem.P.truthy_str (by lia) ⟨H,I.tok _,q⟩
 | CA y=>
  obtain⟨t,rfl⟩:=rx
  obtain⟨hy,e'⟩:y.size<=sizeLine/\k=((y.size:Int) != 0):=e
  subst e'
  exact PySem.W.truthy_bytes (by lia) ⟨H,I.tok _,q⟩
 | ref p=>
  cases rx
  have e':(∃ xs,fZ X.K H p xs/\k=!xs.isEmpty)∨(∃ xs,hZ X.K H p xs/\k=!xs.isEmpty)∨∃ kvs,H p=À (.dK kvs)/\k=!kvs.isEmpty:=e
  rcases e' with⟨xs,hx,e'⟩|⟨xs,hx,e'⟩|⟨kvs,hx,e'⟩
  ·subst e'
   obtain⟨its,r,pl,hz⟩:=I.list hx
   have hlen:=r.length
   exact wpAny_truthy_list pl.isList (by simp only[Ú];lia) ⟨H,I.tok _,by rw[vP r];exact q⟩
  ·subst e'
   obtain⟨its,r,pl,hz⟩:=I.tuple hx
   have hlen:=r.length
   exact truthy_tuple pl (by simp only[Ú];lia) ⟨H,I.tok _,by rw[vP r];exact q⟩
  ·subst e'
   obtain⟨hz,hS,vs,r,m⟩:kvs.length<=sizeLine/\(p == cI)=false/\∃ vs,KV kvs vs/\s.heap.DictOf (Ţ X.prog X.w) p vs:=I.ļ p _ hx
   have hlen:kvs.length=vs.length:=qk r
   exact wpAny_truthy_dict hS m (by lia) ⟨H,I.tok _,by rw[CT r];exact q⟩
 | _=>exact(show False from e).elim
theorem J6 (ha:PE X a ta)(he:∀ whole,Ft a X.env whole=(do let v <-whole;kh a.pos;cR [v] (truthy v))) :
  PT X a (λ σ H Q=>ta σ H λ x H'=>∃ k,Pt X.K x H' k/\Q k H'):=by
 intro Ä s σ H Q I h
 exact isTrue_plain (af (ha Ä s σ H _ I h) λ v s1 zz=>jA zz λ x H1 I1 r1 q1=>Sr Ä s1 σ H1 x v Q I1 r1 q1) (he _)
theorem Dh:kI X (bO .Add) (λ x y H Q=>∃ i j,x=.str i/\y=.str j/\i.length+j.length<=sizeLine/\Q (.str (i++j)) H):=by
 intro Ä s σ H x y v u Q I rx ry h
 obtain⟨i,j,rfl,rfl,hz,q⟩:=h
 obtain⟨t,rfl⟩:=rx
 obtain⟨t',rfl⟩:=ry
 exact add_str (λ t' tk=>⟨.str (i++j),H,I.tok _,⟨_,rfl⟩,q⟩) hz
theorem vals1 (r:Vals [x] us):∃ u,us=[u]/\RelV x u:=by
 cases r with
 | cons r1 r2=>cases r2;exact⟨_,rfl,r1⟩
theorem vals2 (r:Vals [x,y] us):∃ u w',us=[u,w']/\RelV x u/\RelV y w':=by
 cases r with
 | cons r1 r2=>
  cases r2 with
  | cons r3 r4=>cases r4;exact⟨_,_,rfl,r1,r3⟩
theorem Ho:cq X (.builtin "abs") (λ xs H Q=>∃ i,xs=[.int i]/\Q (.int (if i < 0 then -i else i)) H):=by
 intro Ä s σ H xs us Q I r h
 obtain⟨i,rfl,q⟩:=h
 obtain⟨u,rfl,t,rfl⟩:=vals1 r
 exact call_abs_int λ u tk=>⟨.int (if i < 0 then -i else i),H,I.tok _,⟨_,rfl⟩,q⟩
end
structure Cs (h:Heap)(x dx C:Addr)(mA:Str->Ë Value):Prop where
 obj:h.get? x=À (bF C dx)
 ns:h.Ns1 dx mA
 ne:dx≠x
theorem F8 {h:Heap}{dx:Addr}{mA:Str->Ë Value}(n:h.Ns1 dx mA):∃ od,h.get? dx=À od/\∀ name,oK name od=À (mA name):=by
 obtain⟨o,es,ep,ho,hd,hk,_,hm⟩:=n
 refine⟨o,ho,λ name=>?_⟩
 have e:=hm name
 unfold nsFind findBy at e
 rw[<-Array.find?_toList]at e
 unfold oK
 rw[hd]
 dsimp only
 split
 ·rename_i y q
  rw[q]at e
  exact ĵ À e
 ·rename_i q
  rw[q]at e
  have a:es.toList.any (·.refKey)=false:=by
   rw[LH]
   intro y hy
   obtain⟨z,t,Zi⟩:=hk y (pe.mp hy)
   simp[DictEntry.refKey,Zi]
  have a':¬ es.toList.any (·.refKey)=true:=by rw[a];exact æ
  rw[Ö a']
  exact ĵ À e
theorem Cs.look (I:Cs h x dx C mA):∃ od,PySem.W.InstAt h x (bF C dx) C (À od)/\∀ name,oK name od=À (mA name):=
 let ⟨od,ho,hl⟩:=F8 I.ns
 ⟨od,⟨I.obj,rfl,rfl,ho⟩,hl⟩
section
variable {prog:Ą}{w:ğ}{A:į}{E:Value->Ò->Prop}{s:Ò}{K:É}{x dx C f:Addr}{mA:Str->Ë Value}{name:Str}{v:Value}
theorem get_map (X:K.In s.heap)(I:Cs s.heap x dx C mA)(hg:gW K C name=true)(hh:k_ K C=true)
  (ha:ö K (.ref C) name=À none) (hv:mA name=À v) (S6:G3 v=true) (h:Q v { s with toks:=s.toks+1 }) :
  Ù (Ý prog w) A (getAttr (.ref x) name expr) Q E s:=by
 obtain⟨od,J,hl⟩:=I.look
 exact PySem.W.get_value X J (pk hg).1 (PySem.W.findObj_own hh ha rfl (by rw[hl,hv])) S6 h
theorem Ig (X:K.In s.heap)(I:Cs s.heap x dx C mA)(hg:gW K C name=true)
  (hf:ö K (.ref C) name=À (À (.ref f))) (ht:mW K (.ref f)=true) (hv:mA name=none) (h:Q (.ref f,[.ref x]) s) :
  Ù (Ý prog w) A (pA (.ref x) name pl) Q E s:=by
 obtain⟨od,J,hl⟩:=I.look
 exact PySem.W.method_fn X J (pk hg).1 (pk hg).2 hf (mX.mp ht) (by show(oK name od).map (·.isSome)=À false;rw[hl,hv];rfl) h
theorem N5 (X:K.In s.heap)(I:Cs s.heap x dx C mA)
  (hs:ö K (.ref C) "__setattr__"=À (À (.builtin "object.__setattr__"))) (hp:si K C=true) (ht:ve K C name=À none) (hh:k_ K C=true)
  (hw:Cm mA ns) (hsz:ns.length<=sizeLine)
  (h:∀ h',Cs h' x dx C (λ y=>if y=name then À v else mA y)->eL dx s.heap h'->Q () { s with heap:=h',toks:=s.toks+2 }) :
  Ù (Ý prog w) A (setAttr (.ref x) name v) Q E s:=by
 obtain⟨od,J,hl⟩:=I.look
 refine PySem.W.set_plain X J hs (PySem.W.osa_open (s:={ s with toks:=s.toks+1 }) (r:=none) X J hp ht λ b=>?_)
 obtain⟨cd,hc,P'⟩:=PySem.W.any_some hh
 have hx:s.heap.get? x=À ⟨.ref C,À dx,.plain,#[]⟩:=I.obj
 refine Â (Í (Â (Â (wpAny_loadPart hx (Â (Yt (s:={ s with toks:=s.toks+1 }) (PySem.W.looks_clsIn X hc) ?_))))))
 rw[P']
 refine Í (a:=À dx) (Â (Í (Â ?_)))
 refine wpAny_nsSet1 (s:={ s with toks:=s.toks+1 }) I.ns λ h' Lu S4=>?_
 obtain⟨oD,esD,epD,hoD,hdD,hcD⟩:=Lu.count (aa8 name v hw)
 refine Â (wpAny_lookBehind hoD (by rw[hdD];exact pastItsLine_dict (ě hcD (by rw[č];lia))) ?_)
 exact Í (h _ ⟨(S4.2 _ (Ŝ I.ne)).trans I.obj,Lu,I.ne⟩ S4)
theorem IL (X:K.In s.heap)(hm:vd K C=true)
  (hi:ö K (.ref C) "__init__"=À (À (.ref f))) (hf:xh K (.ref f)=À (.type "function"))
  (h:eM (Ý prog w) (A.under (.builtin "type.__call__" ⟨.ref C :: vs,kw⟩)) (.call (.ref f) ⟨.ref (s.heap.objs.size+1) :: vs,kw⟩) (PySem.W.InitBack (s.heap.objs.size+1) R)
   { s with heap:=(s.heap.push ű).push (bF C s.heap.objs.size) }) :
  eM (Ý prog w) A (.call (.ref C) ⟨vs,kw⟩) R s:=by
 obtain⟨hh,g,d,t,os⟩:=s
 exact PySem.W.make_core (PySem.W.makes_of X hm) (PySem.W.looks_findIn X hi) (λ self=>PySem.W.bind_fn X self hf) (.inl rfl) h
end
def mG (f:Str)(v:V):Á (Str × V)->Á (Str × V)
 | []=>[(f,v)]
 | (g,x) :: r=>if g=f then (g,v) :: r else (g,x) :: mG f v r
theorem t9 (f g:Str)(v:V):∀ fs:Á (Str × V),(mG f v fs).lookup g=if g=f then À v else fs.lookup g
 | []=>by
  show d_ g [(f,v)]=_
  by_cases h:g=f
  ·have hb:(g == f)=true:=mX.mpr h
   simp only[d_,hb,Ñ h]
  ·have hb:(g == f)=false:=Ş.mpr h
   simp only[d_,hb,Ö h]
 | (k,x) :: r=>by
  have ih:=t9 f g v r
  rw[show mG f v ((k,x) :: r)=(if k=f then (k,v) :: r else (k,x) :: mG f v r) from rfl]
  by_cases hk:k=f
  ·rw[Ñ hk]
   by_cases h:g=k
   ·have hb:(g == k)=true:=mX.mpr h
    simp only[d_,hb,Ñ (h.trans hk)]
   ·have hb:(g == k)=false:=Ş.mpr h
    simp only[d_,hb,Ö (λ e:g=f=>h (e.trans hk.symm))]
  ·rw[Ö hk]
   by_cases h:g=k
   ·have hb:(g == k)=true:=mX.mpr h
    simp only[d_,hb,Ö (λ e:g=f=>hk (h.symm.trans e))]
   ·have hb:(g == k)=false:=Ş.mpr h
    simp only[d_,hb]
    exact ih
theorem sG (f:Str)(v:V):∀ fs:Á (Str × V),f∈(mG f v fs).map (·.1)/\∀ g,g∈fs.map (·.1)->g∈(mG f v fs).map (·.1)
 | []=>⟨by simp[mG],λ g h=>by simp at h⟩
 | (k,x) :: r=>by
  obtain⟨i1,i2⟩:=sG f v r
  rw[show mG f v ((k,x) :: r)=(if k=f then (k,v) :: r else (k,x) :: mG f v r) from rfl]
  by_cases hk:k=f
  ·rw[Ñ hk]
   subst hk
   exact⟨by simp,λ g h=>by simpa using h⟩
  ·rw[Ö hk]
   refine⟨?_,λ g h=>?_⟩
   ·rw[Ó]
    exact õ _ i1
   ·rw[Ó]at h ⊢
    rcases Þ.mp h with e|e
    ·exact Þ.mpr (.inl e)
    ·exact õ _ (i2 g e)
theorem t6 (f:Str)(v:V):∀ fs:Á (Str × V),(mG f v fs).length<=fs.length+1
 | []=>by simp[mG]
 | (k,x) :: r=>by
  have ih:=t6 f v r
  rw[show mG f v ((k,x) :: r)=(if k=f then (k,v) :: r else (k,x) :: mG f v r) from rfl]
  by_cases hk:k=f
  ·rw[Ñ hk,č,č];lia
  ·rw[Ö hk,č,č];lia
theorem m4.some_of (r:m4 (À v) o):∃ u,o=À u/\RelV v u:=by
 cases o with
 | none=>exact(show False from r).elim
 | some u=>exact⟨u,rfl,r⟩
theorem m4.none_of (r:m4 none o):o=none:=by
 cases o with
 | none=>rfl
 | some u=>exact(show False from r).elim
theorem FR (r:RelV v u):G3 u=true:=by
 cases v with
 | Ē=>cases (show u=ë from r);rfl
 | bl b=>cases (show u=fD b from r);rfl
 | int i=>obtain⟨t,e⟩:=(show ∃ t,u=vg i t from r);cases e;rfl
 | str x=>obtain⟨t,e⟩:=(show ∃ t,u=vh x t from r);cases e;rfl
 | CA b=>obtain⟨t,e⟩:=(show ∃ t,u=Xf b t from r);cases e;rfl
 | OO b=>obtain⟨t,e⟩:=(show ∃ t,u=Fi b t from r);cases e;rfl
 | ref a=>cases (show u=Î a from r);rfl
 | ty n=>cases (show u=bW n from r);rfl
section
variable {P:Ą}{w:ğ}{H H':Hp}{h h':Heap}{a C dx:Addr}{fs XI:Á (Str × V)}
theorem uQ (ļ:m3 P w H h)(e:H a=À (.ins C dx fs)):∃ mA,Cs h a dx C mA/\(∀ f,m4 (fs.lookup f) (mA f))/\Cm mA (fs.map (·.1))/\fs.length<=1000/\H dx=À (.own a):=by
 obtain⟨d,z,ne,ob,mA,n,r,q⟩:=(show Ũ P w H h a (.ins C dx fs) from ļ a _ e)
 exact⟨mA,⟨ob,n,ne⟩,r,q,z,d⟩
end
structure AY (K:É)(C:Addr):Prop where
 pg:gW K C gf=true
 hd:k_ K C=true
 po:si K C=true
 sa:ö K (.ref C) "__setattr__"=À (À (.builtin "object.__setattr__"))
theorem AY.get {K:É}{C:Addr}(c:AY K C)(f:Str):gW K C f=true:=c.pg
def kH (K:É)(C:Addr)(f:Str):Prop:=ö K (.ref C) f=À none
theorem kH.WZ {K:É}{C:Addr}{f:Str}(n:kH K C f):ve K C f=À none:=by
 unfold ve
 rw[show ö K (.ref C) f=À none from n]
 rfl
structure Meth (K:É)(C:Addr)(m:Str)(f:Addr):Prop where
 at_:ö K (.ref C) m=À (À (.ref f))
 fn:mW K (.ref f)=true
 kp:Ġ K (.ref f)=true
section
variable {X:Cx}{Ä:Á (Addr × Obj)}{σ:St}{H:Hp}{s:Ò}{a C dx:Addr}{fs:Á (Str × V)}{f:Str}{v:V}{A:į}{E:Value->Ò->Prop}
theorem CM (I:Inv X Ä σ H s)(e:H a=À (.ins C dx fs)) (c:AY X.K C)(n:kH X.K C f)(l:fs.lookup f=À v)
  (h:∀ u s',Inv X Ä σ H s'->RelV v u->Q u s'):Ù (Ý X.prog X.w) A (getAttr (.ref a) f b) Q E s:=by
 obtain⟨mA,O,r,_,_,_⟩:=uQ I.ļ e
 obtain⟨u,hu,ru⟩:=m4.some_of (v:=v) (o:=mA f) (by rw[<-l];exact r f)
 exact get_map I.mz O (c.get f) c.hd n hu (FR ru) (h u _ (I.tok _) ru)
theorem pL (I:Inv X Ä σ H s)(e:H a=À (.ins C dx fs)) (c:AY X.K C)(k:Meth X.K C m g)(l:fs.lookup m=none)
  (h:Q (.ref g,[.ref a]) s):Ù (Ý X.prog X.w) A (pA (.ref a) m pl) Q E s:=by
 obtain⟨mA,O,r,_,_,_⟩:=uQ I.ļ e
 have hn:mA m=none:=m4.none_of (by rw[<-l];exact r m)
 exact Ig I.mz O (c.get m) k.at_ k.fn hn h
theorem Dz (I:Inv X Ä σ H s)(e:H a=À (.ins C dx fs)) (c:AY X.K C)(n:kH X.K C f)(hl:fs.length < 1000)(ry:RelV y u)
  (h:∀ s',Inv X Ä σ (upd H a (.ins C dx (mG f y fs))) s'->Q () s'):Ù (Ý X.prog X.w) A (setAttr (.ref a) f u) Q E s:=by
 obtain⟨mA,O,r,wi,_,ho⟩:=uQ I.ļ e
 have hz:(fs.map (·.1)).length<=sizeLine:=by rw[Õ,ġ];lia
 refine N5 I.mz O c.sa c.po n.WZ c.hd wi hz λ h' O' sb=>h _ ?_
 have hd:∃ o,h'.get? dx=À o:=let ⟨o,_,_,e',_⟩:=O'.ns;⟨o,e'⟩
 refine I.write (x:=a) (e:=dx) (by rw[e];exact bq) (.inr ho) (λ b q hb z=>(sb.2 b hb).trans z) hd ?_
 refine⟨by rw[ã O.ne];exact ho,?_,O.ne,O'.obj,_,O'.ns,λ g=>?_,λ g hg=>?_⟩
 ·have:=t6 f y fs;lia
 ·show m4 ((mG f y fs).lookup g) (if g=f then À u else mA g)
  rw[t9]
  by_cases q:g=f
  ·rw[Ñ q,Ñ q];exact ry
  ·rw[Ö q,Ö q];exact r g
 ·by_cases q:g=f
  ·rw[q];exact(sG f y fs).1
  ·refine(sG f y fs).2 g (wi g λ z=>hg ?_)
   show(if g=f then À u else mA g)=none
   rw[Ö q];exact z
theorem Inv.made (I:Inv X Ä σ H s):Inv X Ä σ (upd (upd H s.heap.objs.size (.own (s.heap.objs.size+1))) (s.heap.objs.size+1) (.ins C s.heap.objs.size []))
  { s with heap:=(s.heap.push ű).push (bF C s.heap.objs.size) }:=by
 have e1:(s.heap.push ű).get? s.heap.objs.size=À ű:=Ø s.heap rfl
 have e2:((s.heap.push ű).push (bF C s.heap.objs.size)).get? (s.heap.objs.size+1)=À (bF C s.heap.objs.size):=by
  have:=Ø (s.heap.push ű) (o:=bF C s.heap.objs.size) rfl
  rwa [Ģ]at this
 have e3:(s.heap.push ű).Ns s.heap.objs.size (λ _=>none):=⟨ű,#[],_,e1,rfl,(λ e he=>absurd he (by simp)),λ _=>rfl⟩
 have I1:=I.laid (a:=s.heap.objs.size) (o:=.own (s.heap.objs.size+1)) (h':=s.heap.push ű) (t':=s.toks) (λ b u q=>Ã _ q) (Ï _) ⟨_,e1⟩
 refine I1.laid (a:=s.heap.objs.size+1) (o:=.ins C s.heap.objs.size []) (t':=s.toks) (λ b u q=>Ã _ q) (kF (Ģ _ _)) ?_
 have ne:s.heap.objs.size≠s.heap.objs.size+1:=ç (nq _)
 refine⟨by rw[ã ne,û],ñ _,ne,e2,λ _=>none,(Heap.Ns1.of_empty e3).at λ o q=>Ã _ q,λ _=>bq,λ y hy=>absurd rfl hy⟩
theorem LZ (hb:Ŧ e f env (Ć e env)=Ć e env)
  (h:Ù (Ý prog w) A (Ć e env) (λ o s₁=>Ù (Ý prog w) A (getAttr o f true) Q E s₁) E s):Ù (Ý prog w) A (Ć (.Attribute e f pos) env) Q E s:=
 Attribute_any_ h (by rw[arm_eval_Attribute,hb])
end
def aam (K:É)(ta:TE)(f:Str):TE:=λ σ H Q=>ta σ H λ x H1=>∃ a C dx fs v,x=.ref a/\H1 a=À (.ins C dx fs)/\AY K C/\kH K C f/\fs.lookup f=À v/\Q v H1
def aag (K:É)(ta tv:TE)(f:Str):TS:=λ D σ H=>tv σ H λ y H1=>ta σ H1 λ x H2=>∃ a C dx fs,x=.ref a/\H2 a=À (.ins C dx fs)/\AY K C/\kH K C f/\fs.length < 1000/\
 D.nx σ (upd H2 a (.ins C dx (mG f y fs)))
section
variable {X:Cx}{o e value:ń}{f:Str}{pos pos' DF:mT}{ta tv:TE}
theorem Rv (he:PE X e ta)(hb:Ŧ e f X.env (Ć e X.env)=Ć e X.env):PE X (.Attribute e f pos) (aam X.K ta f):=by
 intro Ä s σ H Q I h
 refine LZ hb (af (he Ä s σ H _ I h) λ u s1 zz=>?_)
 obtain⟨x,H1,I1,rx,a,C,dx,fs,v,ex,ea,c,n,l,q⟩:=zz
 subst ex
 obtain rfl:u=Î a:=rx
 exact CM I1 ea c n l λ u' s2 I2 ru=>⟨v,H1,I2,ru,q⟩
theorem RJ (ha:PE X o ta)(hv:PE X value tv)(hs:eB value (À (.Attribute o f pos')) pos.line X.env=pure false):PS X (.Assign [.Attribute o f pos'] value pos) (aag X.K ta tv f):=by
 intro Ä s σ H D I h
 refine plainObj_wpAny_Assign_Attribute (af (hv Ä s σ H _ I h) λ u s1 zz=>jA zz λ y H1 I1 ry q=>af (ha Ä s1 σ H1 _ I1 q) λ ov s2 ⟨x,H2,I2,rx,a,C,dx,fs,ex,ea,c,n,l,q2⟩=>?_) hs
 subst ex
 obtain rfl:ov=Î a:=rx
 exact Dz I2 ea c n l ry λ s3 I3=>⟨σ,_,I3,q2⟩
theorem O5 (he:PE X e te)(I:Inv X Ä σ H s)
  (h:te σ H λ x H1=>∃ a C dx fs g,x=.ref a/\H1 a=À (.ins C dx fs)/\AY X.K C/\Meth X.K C m g/\fs.lookup m=none/\
   ∀ s1,Inv X Ä σ H1 s1->Ù (Ý X.prog X.w) X.A (yV pos (.ref g) [.ref a] (Ĕ pos (Ì args X.env)) (gu pos (bG [] X.env))) Q X.xe s1)
  (ht:Ć (.Call (.Attribute e m bR) args [] pos) X.env=(do
   let ov <-Ć e X.env
   kh bR.atName
   let (f,first) <-cR [ov] (pA ov m pl)
   yV pos f first (Ĕ pos (Ì args X.env)) (gu pos (bG [] X.env)))) :
  Ù (Ý X.prog X.w) X.A (Ć (.Call (.Attribute e m bR) args [] pos) X.env) Q X.xe s:=by
 refine nr (pl:=pl) (af (he Ä s σ H _ I h) λ u s1 ⟨x,H1,I1,rx,a,C,dx,fs,g,ex,ea,c,k,l,q⟩=>?_) ht
 subst ex
 obtain rfl:u=Î a:=rx
 exact pL I1 ea c k l (q s1 I1)
end
section
variable {X:Cx}{Ä:Á (Addr × Obj)}{σ:St}{H:Hp}{s:Ò}{A:į}{E:Value->Ò->Prop}{Q:Value->Ò->Prop}{c:Value}{b:Bool}
inductive ur (K:É) (H:Hp):V->Value->Prop where
 | Ē:ur K H .Ē (.type "NoneType")
 | bl (x:Bool):ur K H (.bl x) (.type "bool")
 | int (i:Int):ur K H (.int i) (.type "int")
 | str (x:Str):ur K H (.str x) (.type "str")
 | OO (x:UInt64):ur K H (.OO x) (.type "float")
 | lst {a:Addr}{xs:Á V}(e:H a=À (.lst xs)):ur K H (.ref a) (.type "list")
 | oZ {a:Addr}{o:Obj}{xs:Á V}(e:H a=À (.oZ o (.lst xs))):ur K H (.ref a) (.type "list")
 | tup {a:Addr}{xs:Á V}(e:H a=À (.tup xs)):ur K H (.ref a) (.type "tuple")
 | dK {a:Addr}{kvs:Á (Key × V)}(e:H a=À (.dK kvs)):ur K H (.ref a) (.type "dict")
 | dT {a:Addr}{kvs:Á (Á Key × V)}(e:H a=À (.dT kvs)):ur K H (.ref a) (.type "dict")
 | ins {a C dx:Addr}{fs:Á (Str × V)}(e:H a=À (.ins C dx fs)) (cl:AY K C) (ha:ö K (.ref C) "__class__"=À (À (.builtin "object.__class__")))
   (hn:gb K (.builtin "object.__class__") "__get__"=À (À (.builtin "getset_descriptor.__get__"))) (htk:iZ K (.builtin "object.__class__")=À true)
   (hm:qh K C (.type "object")=À true):ur K H (.ref a) (.ref C)
theorem oq (I:Inv X Ä σ H s)(rx:RelV x u)(ty:ur X.K H x t)(e:oJ X.K t c=À b)(h:∀ tk,Q (.bool b) { s with toks:=tk }) :
  Ù (Ý X.prog X.w) A (call (.builtin "isinstance") [u,c]) Q E s:=by
 cases ty with
 | Ē=>cases (show u=ë from rx);exact ī PySem.W.kitx_none I.mz bq e (λ z=>nomatch z) h
 | bl y=>cases (show u=fD y from rx);exact ī PySem.W.kitx_bool I.mz bq e (λ z=>nomatch z) h
 | int i=>obtain⟨t,q⟩:=(show ∃ t,u=vg i t from rx);cases q;exact ī PySem.W.kitx_int I.mz bq e (λ z=>nomatch z) h
 | str y=>obtain⟨t,q⟩:=(show ∃ t,u=vh y t from rx);cases q;exact ī PySem.W.kitx_str I.mz bq e (λ z=>nomatch z) h
 | OO y=>obtain⟨t,q⟩:=(show ∃ t,u=Fi y t from rx);cases q;exact ī PySem.W.kitx_float I.mz bq e (λ z=>nomatch z) h
 | @lst a xs ea=>
  cases (show u=Î a from rx)
  obtain⟨_,_,n,_,h1⟩:=(show Ũ X.prog X.w H s.heap a (.lst xs) from I.ļ a _ ea)
  exact ī se I.mz ⟨_,h1,rfl⟩ e (λ z=>nomatch z) h
 | @oZ a ob xs ea=>
  cases (show u=Î a from rx)
  obtain⟨_,_,_,n,_,h1⟩:=(show Ũ X.prog X.w H s.heap a (.oZ ob (.lst xs)) from I.ļ a _ ea)
  exact ī se I.mz ⟨_,h1,rfl⟩ e (λ z=>nomatch z) h
 | @tup a xs ea=>
  cases (show u=Î a from rx)
  obtain⟨_,_,_,p⟩:=(show Ũ X.prog X.w H s.heap a (.tup xs) from I.ļ a _ ea)
  obtain⟨o,h1,h2,_⟩:=p
  exact ī Fh I.mz ⟨o,h1,h2⟩ e (λ z=>nomatch z) h
 | @dK a kvs ea=>
  cases (show u=Î a from rx)
  obtain⟨_,_,vs,_,p⟩:=(show Ũ X.prog X.w H s.heap a (.dK kvs) from I.ļ a _ ea)
  obtain⟨o,es,ep,h1,h2,_⟩:=p
  exact ī sd I.mz ⟨o,h1,h2.1⟩ e (λ z=>nomatch z) h
 | @dT a kvs ea=>
  cases (show u=Î a from rx)
  obtain⟨_,_,xs,_,o,es,ep,h1,h2,_⟩:=(show Ũ X.prog X.w H s.heap a (.dT kvs) from I.ļ a _ ea)
  exact ī sd I.mz ⟨o,h1,h2.1⟩ e (λ z=>nomatch z) h
 | @ins a C dx fs ea cl ha hn htk hm=>
  cases (show u=Î a from rx)
  obtain⟨mA,O,_⟩:=uQ I.ļ ea
  obtain⟨od,J,_⟩:=O.look
  exact ī (PySem.W.kitx_own (cl.get _) cl.hd ha hn htk hm) I.mz J e (λ z=>nomatch z) h
end
structure cN (k:Nat)(A:į):Prop where
 hd:A.handled=none
 gd:A.guards=À []
 dp:A.depth+3 * k+5 < recursionLimit
 un:A.units+16 * k+200 < cLine
theorem cN.mono (r:cN k A)(h:j<=k):cN j A:=⟨r.hd,r.gd,by have:=r.dp;lia,by have:=r.un;lia⟩
theorem cN.deeper (r:cN (k+1) A) (env:AF):cN k (A.deeper env):=
 ⟨r.hd,r.gd,by have:=r.dp;show A.depth+1+3 * k+5 < _;lia,by have:=r.un;show A.units+3+16 * k+200 < _;lia⟩
theorem CY {A:į}{C:Addr}{us:Á Value}{kw:Á (Str × Value)}:(A.under (.builtin "type.__call__" ⟨.ref C :: us,kw⟩)).depth=A.depth+1:=by
 first|rfl|simp[tf,Code.weight,Code.isCreation,W9,Code.isCaller,Yh,DK,guardIds]
theorem CZ {A:į}{C:Addr}{us:Á Value}{kw:Á (Str × Value)}:(A.under (.builtin "type.__call__" ⟨.ref C :: us,kw⟩)).units=A.units+1:=by
 first|rfl|simp[tf,Code.cUnits,Yh,DK]
theorem Bz {A:į}{C:Addr}{us:Á Value}{kw:Á (Str × Value)}:(A.under (.builtin "type.__call__" ⟨.ref C :: us,kw⟩)).guards=A.guards:=by
 first|rfl|simp[tf,Code.guards,pushGuards,W9,guardIds]
theorem cN.make {k:Nat}{A:į}(r:cN (k+1) A) (C:Addr)(us:Á Value)(kw:Á (Str × Value)):cN k (A.under (.builtin "type.__call__" ⟨.ref C :: us,kw⟩)):=
 ⟨r.hd,by rw[Bz];exact r.gd,by have:=r.dp;rw[CY];lia,by have:=r.un;rw[CZ];lia⟩
theorem cN.depth (r:cN k A):A.depth < recursionLimit:=by have:=r.dp;lia
theorem cN.units (r:cN k A):A.units+64 < cLine:=by have:=r.un;lia
def BQ:TA:=λ _ H Q=>Q [] H
def yF (ta:TE)(tr:TA):TA:=λ σ H Q=>ta σ H λ x H1=>tr σ H1 λ xs H2=>Q (x :: xs) H2
section
variable {X:Cx}{e:ń}{es:Á ń}{te:TE}{t:TA}{pos:mT}
theorem eW:PA X [] BQ:=λ _ _ _ _ H Q I h=>lS ⟨[],H,I,.nil,h⟩
theorem aN (ha:PE X e te)(hr:PA X es t)(hs:Ì (e :: es) X.env=(false,Ć e X.env) :: Ì es X.env:=by rfl):PA X (e :: es) (yF te t):=by
 intro pos Ä s σ H Q I h
 rw[hs]
 show Ù _ _ (spliced ((false,Ć e X.env) :: Ĕ pos (Ì es X.env))) _ _ s
 refine fC (af (ha Ä s σ H _ I h) λ u s1 zz=>jA zz λ x H1 I1 r1 q1=>?_)
 exact af (hr pos Ä s1 σ H1 _ I1 q1) λ us s2 zz=>jA zz λ xs H2 I2 r2 q2=>⟨x :: xs,H2,I2,.cons r1 r2,q2⟩
def aaw (t:TA):TE:=λ σ H Q=>t σ H λ xs H1=>xs.length<=sizeLine/\∀ p,H1 p=none->Q (.ref p) (upd H1 p (.tup xs))
def aaq (t:TA):TE:=λ σ H Q=>t σ H λ xs H1=>xs.length<=sizeLine/\∀ p,H1 p=none->Q (.ref p) (upd H1 p (.lst xs))
theorem Dk (h:PA X es t):PE X (.Tuple es x1 pos) (aaw t):=by
 intro Ä s σ H Q I hq
 refine wpAny_Tuple_spliced (af (h pos Ä s σ H _ I hq) λ us s1 ⟨xs,H1,I1,r,z,q⟩=>⟨by rw[<-r.length];exact z,?_⟩)
 have hf:H1 s1.heap.objs.size=none:=I1.ļ.fresh (Ï _)
 refine⟨.ref s1.heap.objs.size,upd H1 s1.heap.objs.size (.tup xs),I1.laid (t':=s1.toks) (λ b u e=>Ã _ e) (Ï _) ?_,rfl,q _ hf⟩
 exact⟨z,us,r,⟨_,Ø _ rfl,rfl,_,rfl⟩⟩
theorem Ry (h:PA X es t):PE X (.List es pos) (aaq t):=by
 intro Ä s σ H Q I hq
 refine wpAny_List_spliced (af (h pos Ä s σ H _ I hq) λ us s1 ⟨xs,H1,I1,r,z,q⟩=>⟨by rw[<-r.length];exact z,?_⟩)
 have hf:H1 s1.heap.objs.size=none:=I1.ļ.fresh (Ï _)
 refine⟨.ref s1.heap.objs.size,upd H1 s1.heap.objs.size (.lst xs),I1.laid (t':=s1.toks) (λ b u e=>Ã _ e) (Ï _) ?_,rfl,q _ hf⟩
 exact⟨z,us,0,r,Ø _ rfl⟩
end
abbrev Sp:=Á V->Hp->VK->XK->Prop
abbrev G_:=Á AF->Hp->Ò->XK->Value->Ò->Prop
structure Cq (P:Ą)(w:ğ)(K:É)(mg:Str->Ë Value)(base:Heap)(A:į)(outer:Á AF)(s:Ò)(H:Hp):Prop where
 frames:A.frames=À outer
 mod:Mod K mg base
 bs:∀ b o,base.get? b=À o->s.heap.get? b=À o/\H b=none
 DX:base.objs.size<=s.heap.objs.size
 pI:s.heap.FunFrames base outer
 Lm:∀ b∈Ax outer,H b=none
 ļ:m3 P w H s.heap
 bare:n8 s.gens
def CE (outer:Á AF)(P:Ą)(w:ğ)(H:Hp)(s:Ò)(Q:VK)(u:Value)(s':Ò):Prop:=
 ∃ v H',s'.os=s.os/\n8 s'.gens/\Un (Ax outer) [] H H' s.heap s'.heap/\m3 P w H' s'.heap/\RelV v u/\Q v H'
def CR (CX:G_)(outer:Á AF)(P:Ą)(w:ğ)(H:Hp)(s:Ò)(Q:VK)(E:XK)(r:Tg)(s':Ò):Prop:=
 match r with
 | .ok (.ret u)=>CE outer P w H s Q u s'
 | .ok _=>False
 | .error e=>CX outer H s E e s'
structure hX (P:Ą)(w:ğ)(K:É)(mg:Str->Ë Value)(base:Heap)(CX:G_)(k:Nat)(f:Addr)(fd:cW)(ps:Á Str)(sp:Sp):Prop where
 len:∀ vs H Q E,sp vs H Q E->vs.length=ps.length
 run:∀ (A:į) (outer:Á AF) (s:Ò) (H:Hp) (args:Args) (us:Á Value) (vs:Á V) (Q:VK) (E:XK),cN k A->Cq P w K mg base A outer s H->uG s fd args (ps.zip us)->Vals vs us->sp vs H Q E->
  eM (Ý P w) A (.call (.ref f) args) (CR CX outer P w H s Q E) s
theorem hX.imp {P:Ą}{w:ğ}{K:É}{mg:Str->Ë Value}{base:Heap}{CX:G_}{k:Nat}{f:Addr}{fd:cW}{ps:Á Str}{sp sp':Sp}(F:hX P w K mg base CX k f fd ps sp)
  (h:∀ vs H Q E,sp' vs H Q E->sp vs H Q E):hX P w K mg base CX k f fd ps sp':=
 ⟨λ vs H Q E q=>F.len vs H Q E (h _ _ _ _ q),λ A outer s H args us vs Q E hr he hb hv hs=>F.run A outer s H args us vs Q E hr he hb hv (h _ _ _ _ hs)⟩
theorem Cq.make {P:Ą}{w:ğ}{K:É}{mg:Str->Ë Value}{base:Heap}{A:į}{outer:Á AF}{s:Ò}{H:Hp}(e:Cq P w K mg base A outer s H)(C:Addr)(us:Á Value)(kw:Á (Str × Value)) :
  Cq P w K mg base (A.under (.builtin "type.__call__" ⟨.ref C :: us,kw⟩)) outer s H:=⟨by first|exact e.frames|(simpa[tf,Code.envs,DK,pushEnvs]using e.frames),e.mod,e.bs,e.DX,e.pI,e.Lm,e.ļ,e.bare⟩
section
variable {X:Cx}{Ä:Á (Addr × Obj)}{σ:St}{H:Hp}{s s':Ò}
theorem Inv.UG (I:Inv X Ä σ H s):Cq X.prog X.w X.K X.mg X.base X.A X.stack s H:=
 ⟨I.ok.frames,I.ok.mod,I.bs,ě I.ok.DX I.sz,I.stack,I.uV,I.ļ,I.bare⟩
theorem Inv.after (I:Inv X Ä σ H s)(h:CE X.stack X.prog X.w H s Q u s'):EP X Ä σ Q u s':=by
 obtain⟨v,H',os,bare,un,ļ,r,q⟩:=h
 obtain⟨hh,g,d,t,os'⟩:=s'
 obtain rfl:os'=s.os:=os
 exact⟨v,H',I.call (h':=hh) (g':=g) (d':=d) (t':=t) (ch:=[]) un ļ bare (λ b z=>absurd z (by simp)),r,q⟩
end
def Km (sp:Sp)(vw:Á V)(E:XK)(t:TA):TE:=λ σ H Q=>t σ H λ vs H1=>sp (vs++vw) H1 Q E
def Ko (C:Addr)(m:Str)(sp:Sp)(vw:Á V)(E:XK)(ta:TE)(t:TA):TE:=λ σ H Q=>ta σ H λ x H1=>∃ a dx fs,x=.ref a/\H1 a=À (.ins C dx fs)/\fs.lookup m=none/\
 t σ H1 λ vs H2=>sp (x :: (vs++vw)) H2 Q E
def WO (C:Addr)(sp:Sp)(vw:Á V)(E:XK)(t:TA):TE:=λ σ H Q=>t σ H λ vs H1=>∀ x dx,H1 x=none->H1 dx=none->dx≠x->
 sp (.ref x :: (vs++vw)) (upd (upd H1 dx (.own x)) x (.ins C dx [])) (λ v H2=>v=.Ē/\Q (.ref x) H2) E
def Binds (K:É)(fd:cW)(ps:Á Str)(ds:Á Value):Prop:=
 ∀ (s:Ò) (us:Á Value),K.In s.heap->(us++ds).length=ps.length->uG s fd ⟨us,[]⟩ (ps.zip (us++ds))
theorem Binds.all {K:É}{fd:cW}{ps:Á Str}(h:∀ us:Á Value,us.length=ps.length->uh fd ⟨us,[]⟩=pure (ps.zip us)):Binds K fd ps []:=λ s us _ hl=>by
 rw[jX]at hl ⊢
 exact .of_eq (h us hl)
def Passes (CX:G_)(X:Cx)(E:XK):Prop:=∀ (Ä:Á (Addr × Obj)) (σ:St) (H:Hp) (s:Ò) (e:Value) (s':Ò),Inv X Ä σ H s->CX X.stack H s E e s'->X.xe e s'
section
variable {X:Cx}{CX:G_}{k:Nat}{f C:Addr}{fd:cW}{ps:Á Str}{sp:Sp}{vw:Á V}{ds:Á Value}{E:XK}{x m:Str}{p pos bR:mT}{e o:ń}{es:Á ń}{ta:TE}{t:TA}
theorem zZ (F:hX X.prog X.w X.K X.mg X.base CX k f fd ps sp)(hr:cN k X.A)(hb:Binds X.K fd ps ds)(hd:Vals vw ds)(hx:Passes CX X E)
  (I:Inv X Ä σ H s) (r:Vals vs us) (h:sp (vs++vw) H Q E):Ù (Ý X.prog X.w) X.A (call (.ref f) us) (EP X Ä σ Q) X.xe s:=by
 have r2:Vals (vs++vw) (us++ds):=r.append hd
 have hl:(us++ds).length=ps.length:=by rw[<-r2.length];exact F.len _ _ _ _ h
 refine Fw (qt (F.run X.A X.stack s H ⟨us,[]⟩ (us++ds) (vs++vw) Q E hr I.UG (hb s us I.mz hl) r2 h) λ r s' hq=>?_)
 cases r with
 | error e=>exact hx Ä σ H s e s' I hq
 | ok fl=>
  cases fl with
  | ret u=>exact I.after hq
  | next=>exact ao hq
  | brk=>exact ao hq
  | cont=>exact ao hq
theorem Nw (F:hX X.prog X.w X.K X.mg X.base CX k f fd ps sp)(hr:cN k X.A)(hg:Gl X x)(hm:X.mg x=À (.ref f)) (hk:Ġ X.K (.ref f)=true) (hb:Binds X.K fd ps ds)(hd:Vals vw ds)(hx:Passes CX X E)
  (ha:PA X (e :: es) t) (mx:(x == ("__debug__":Str))=false:=by decide) (he:Ì (e :: es) X.env=(false,Ć e X.env) :: Ì es X.env:=by rfl) (fi:(Ĕ pos (Ì es X.env)).any (·.1)=false:=by rfl) :
  PE X (.Call (.Name x p) (e :: es) [] pos) (Km sp vw E t):=by
 intro Ä s σ H Q I h
 refine ų (oy I hg hm ?_ mx)
 refine qo (h₀:=X.base) I.ok.mod.Vm hk (af (ha pos Ä s σ H _ I h) λ us s1 zz=>jA zz λ vs H1 I1 r q=>⟨I1.mz,?_⟩) he fi
 exact zZ F hr hb hd hx I1 r q
theorem JC (F:hX X.prog X.w X.K X.mg X.base CX k f fd ps sp)(hr:cN k X.A)(hg:Gl X x)(hm:X.mg x=À (.ref f)) (hk:Ġ X.K (.ref f)=true) (hb:Binds X.K fd ps ds)(hd:Vals vw ds)(hx:Passes CX X E)
  (mx:(x == ("__debug__":Str))=false:=by decide):PE X (.Call (.Name x p) [] [] pos) (Km sp vw E BQ):=by
 intro Ä s σ H Q I h
 refine ų (oy I hg hm ?_ mx)
 exact pj I.mz hk (zZ (us:=[]) F hr hb hd hx I .nil h)
theorem NC (he:PE X o ta)(c:AY X.K C)(hm:Meth X.K C m f)(F:hX X.prog X.w X.K X.mg X.base CX k f fd ps sp)(hr:cN k X.A)(hb:Binds X.K fd ps ds)(hd:Vals vw ds)(hx:Passes CX X E)(ha:PA X (e :: es) t)
  (CS:Ì (e :: es) X.env=(false,Ć e X.env) :: Ì es X.env:=by rfl) (fi:(Ĕ pos (Ì es X.env)).any (·.1)=false:=by rfl)
  (ht:Ć (.Call (.Attribute o m bR) (e :: es) [] pos) X.env=(do
   let ov <-Ć o X.env
   kh bR.atName
   let (f,first) <-cR [ov] (pA ov m pl)
   yV pos f first (Ĕ pos (Ì (e :: es) X.env)) (gu pos (bG [] X.env))):=by rfl) :
  PE X (.Call (.Attribute o m bR) (e :: es) [] pos) (Ko C m sp vw E ta t):=by
 intro Ä s σ H Q I h
 refine nr (pl:=pl) (af (he Ä s σ H _ I h) λ u s1 ⟨x,H1,I1,rx,a,dx,fs,ex,ea,l,q⟩=>?_) ht
 subst ex
 obtain rfl:u=Î a:=rx
 refine pL I1 ea c hm l ?_
 refine qo (first:=[.ref a]) (h₀:=X.base) I.ok.mod.Vm hm.kp (af (ha pos Ä s1 σ H1 _ I1 q) λ us s2 zz=>jA zz λ vs H2 I2 r q2=>⟨I2.mz,?_⟩) CS fi
 exact zZ (us:=.ref a :: us) (vs:=.ref a :: vs) F hr hb hd hx I2 (.cons rfl r) q2
theorem JJ (he:PE X o ta)(c:AY X.K C)(hm:Meth X.K C m f)(F:hX X.prog X.w X.K X.mg X.base CX k f fd ps sp)(hr:cN k X.A)(hb:Binds X.K fd ps ds)(hd:Vals vw ds)(hx:Passes CX X E)
  (ht:Ć (.Call (.Attribute o m bR) [] [] pos) X.env=(do
   let ov <-Ć o X.env
   kh bR.atName
   let (f,first) <-cR [ov] (pA ov m pl)
   yV pos f first (Ĕ pos (Ì [] X.env)) (gu pos (bG [] X.env))):=by rfl) :
  PE X (.Call (.Attribute o m bR) [] [] pos) (Ko C m sp vw E ta BQ):=by
 intro Ä s σ H Q I h
 refine nr (pl:=pl) (af (he Ä s σ H _ I h) λ u s1 ⟨x,H1,I1,rx,a,dx,fs,ex,ea,l,q⟩=>?_) ht
 subst ex
 obtain rfl:u=Î a:=rx
 refine pL I1 ea c hm l ?_
 exact pj (first:=[.ref a]) I1.mz hm.kp (zZ (us:=[.ref a]) (vs:=[.ref a]) F hr hb hd hx I1 (.cons rfl .nil) q)
structure Mk (K:É)(C f:Addr):Prop where
 makes:vd K C=true
 init:ö K (.ref C) "__init__"=À (À (.ref f))
 fn:mW K (.ref f)=true
 kp:Ġ K (.ref C)=true
theorem Ke (M:Mk X.K C f)(F:hX X.prog X.w X.K X.mg X.base CX k f fd ps sp)(hr:cN (k+1) X.A) (hb:Binds X.K fd ps ds)(hd:Vals vw ds)
  (hx:Passes CX X E) (I:Inv X Ä σ H s) (r:Vals vs us)
  (h:∀ x dx,H x=none->H dx=none->dx≠x->sp (.ref x :: (vs++vw)) (upd (upd H dx (.own x)) x (.ins C dx [])) (λ v H2=>v=.Ē/\Q (.ref x) H2) E) :
  Ù (Ý X.prog X.w) X.A (call (.ref C) us) (EP X Ä σ Q) X.xe s:=by
 have hq:=h (s.heap.objs.size+1) s.heap.objs.size (I.ļ.fresh (mK _)) (I.ļ.fresh (Ï _)) (ç (nq _))
 have I2:=Inv.made (C:=C) I
 have r2:Vals (V.ref (s.heap.objs.size+1) :: (vs++vw)) (Î (s.heap.objs.size+1) :: (us++ds)):=.cons rfl (r.append hd)
 have hl:(Î (s.heap.objs.size+1) :: us++ds).length=ps.length:=by
  have e:=r2.length
  rw[F.len _ _ _ _ hq]at e
  exact e.symm
 refine Fw (IL (f:=f) I.mz M.makes M.init (mX.mp M.fn) (qt (F.run _ X.stack _ _ ⟨Î (s.heap.objs.size+1) :: us,[]⟩ (Î (s.heap.objs.size+1) :: (us++ds)) _ _ E (hr.make C us [])
  (I2.UG.make C us []) (hb _ (Î (s.heap.objs.size+1) :: us) I2.mz hl) r2 hq) λ r s' U'=>?_))
 cases r with
 | error e=>exact hx Ä σ _ _ e s' I2 U'
 | ok fl=>
  cases fl with
  | ret u=>
   obtain⟨v,H',I3,rv,ev,q3⟩:=I2.after U'
   subst ev
   exact⟨rv,⟨V.ref (s.heap.objs.size+1),H',I3,rfl,q3⟩⟩
  | next=>exact ao U'
  | brk=>exact ao U'
  | cont=>exact ao U'
theorem JI (M:Mk X.K C f)(F:hX X.prog X.w X.K X.mg X.base CX k f fd ps sp)(hr:cN (k+1) X.A) (hg:Gl X x)(hm:X.mg x=À (.ref C)) (hb:Binds X.K fd ps ds)(hd:Vals vw ds)(hx:Passes CX X E)
  (mx:(x == ("__debug__":Str))=false:=by decide):PE X (.Call (.Name x p) [] [] pos) (WO C sp vw E BQ):=by
 intro Ä s σ H Q I h
 refine ų (oy I hg hm ?_ mx)
 exact pj I.mz M.kp (Ke (us:=[]) M F hr hb hd hx I .nil h)
end
section
variable {X:Cx}{CX:G_}{k:Nat}{f C:Addr}{fd:cW}{ps ks:Á Str}{sp:Sp}{E:XK}{x m:Str}{p pos bR abt:mT}{e o:ń}{es:Á ń}{kws:Á iV}{te ta:TE}{t tk:TA}{nm:Ë Str}
variable {g:Á Value->Á Value->Á Value}{gV:Á V->Á V->Á V}
end
structure i4 (N P:Á Str)(sc:Scope):Prop where
 kind:sc.kind=.function
 co:sc.isCoroutine=false
 gen:sc.isGenerator=false
 nd:N.Nodup
 pre:N.take P.length=P
 par:∀ x∈P,sc.names.lookup x=À .local∨sc.names.lookup x=À .cell
 Ra:∀ y∈sc.names,y.2≠.free
theorem xR {kindOf:Str->Ë iW}{x:Str}:∀ {binds:Á (Str × Value)}{m:Str->Ë Value},(∀ v,(x,v)∉binds)->K' kindOf binds m x=m x
 | [],_,_=>rfl
 | (n,v) :: r,m,h=>by
  unfold K'
  rw[xR λ w hw=>h w (õ _ hw)]
  split
  ·have:x≠n:=by rintro rfl;exact h v ģ
   simp[this]
  ·rfl
theorem xP {kindOf:Str->Ë iW}{x:Str}:∀ {binds:Á (Str × Value)}{m:Str->Ë Value},(∀ v,(x,v)∉binds)->K_ kindOf binds m x=m x
 | [],_,_=>rfl
 | (n,v) :: r,m,h=>by
  unfold K_
  rw[xP λ w hw=>h w (õ _ hw)]
  split
  ·rfl
  ·have:x≠n:=by rintro rfl;exact h v ģ
   simp[this]
theorem xQ {kindOf:Str->Ë iW}{x:Str}{v:Value}:∀ {P:Á Str}{vs:Á Value}{i:Nat}{m:Str->Ë Value},P.Nodup->P[i]? = À x->vs[i]? = À v->kindOf x=À .local->
  K' kindOf (P.zip vs) m x=À v
 | [],_,_,_,_,h,_,_=>by simp at h
 | _ :: _,[],_,_,_,_,h,_=>by simp at h
 | p :: P,w :: vs,0,m,nd,h1,h2,hk=>by
  simp at h1 h2;subst h1;subst h2
  show K' kindOf ((p,w) :: P.zip vs) m p=_
  unfold K'
  rw[xR λ v hv=>(š.mp nd).1 (xI hv).1,Ñ hk]
  simp
 | p :: P,w :: vs,i+1,m,nd,h1,h2,hk=>by
  show K' kindOf ((p,w) :: P.zip vs) m x=_
  unfold K'
  exact xQ (i:=i) (š.mp nd).2 (by simpa using h1) (by simpa using h2) hk
theorem xO {kindOf:Str->Ë iW}{x:Str}{v:Value}:∀ {P:Á Str}{vs:Á Value}{i:Nat}{m:Str->Ë Value},P.Nodup->P[i]? = À x->vs[i]? = À v->kindOf x≠À .local->
  K_ kindOf (P.zip vs) m x=À v
 | [],_,_,_,_,h,_,_=>by simp at h
 | _ :: _,[],_,_,_,_,h,_=>by simp at h
 | p :: P,w :: vs,0,m,nd,h1,h2,hk=>by
  simp at h1 h2;subst h1;subst h2
  show K_ kindOf ((p,w) :: P.zip vs) m p=_
  unfold K_
  rw[xP λ v hv=>(š.mp nd).1 (xI hv).1,Ö hk]
  simp
 | p :: P,w :: vs,i+1,m,nd,h1,h2,hk=>by
  show K_ kindOf ((p,w) :: P.zip vs) m x=_
  unfold K_
  exact xO (i:=i) (š.mp nd).2 (by simpa using h1) (by simpa using h2) hk
def start (N:Á Str)(vs:Á V):St:=vs.map À++à (N.length - vs.length) none
def m5 (CX:G_)(P:Ą)(w:ğ)(K:É)(mg:Str->Ë Value)(base:Heap)(N:Á Str)(qual:Str)(scope:Scope)(f:Addr)(cd:Value)(A:į)(outer:Á AF)(s:Ò)(H:Hp)(E:XK):Cx where
 prog:=P
 w:=w
 K:=K
 mg:=mg
 base:=base
 A:=A.deeper (AS qual scope s.heap.objs.size f cd)
 N:=N
 jS:=s
 Cr:=H
 env:=AS qual scope s.heap.objs.size f cd
 outer:=outer
 stack:=AS qual scope s.heap.objs.size f cd :: outer
 ex:=[]
 calm:=true
 fn:=λ _=>true
 pn:=[]
 xe:=λ e s'=>Ù (Ý P w) (A.deeper (AS qual scope s.heap.objs.size f cd)) (leaving (AS qual scope s.heap.objs.size f cd) e) (λ _ Dv=>CX outer H s E e Dv) (λ e' Dv=>CX outer H s E e' Dv) s'
theorem A6 {sc:Scope}{n:Nat}{x:Str}(h:sc.names.lookup x=À .cell):∃ c,(bI n sc.names []).lookup x=À c:=by
 have q:=mV sc.names n [] (.inl h)
 exact bU.mp q
theorem FV {CX:G_}{P:Ą}{w:ğ}{K:É}{mg:Str->Ë Value}{base:Heap}{N ps:Á Str}{qual:Str}{scope:Scope}{f:Addr}{cd:Value}{A:į}{outer:Á AF}{s s1:Ò}{H:Hp}{E:XK}{us:Á Value}{vs:Á V}
  (S:i4 N ps scope) (hd:A.handled=none) (e0:Cq P w K mg base A outer s H) (hl:vs.length=ps.length) (r:Vals vs us)
  (x:InCallC s s.heap.objs.size (K' (AS qual scope s.heap.objs.size f cd).kindOf (ps.zip us) λ _=>none) (bI (s.heap.objs.size+1) scope.names []) (K_ (AS qual scope s.heap.objs.size f cd).kindOf (ps.zip us) λ _=>none) s1) :
  Inv (m5 CX P w K mg base N qual scope f cd A outer s H E) [] (start N vs) H s1:=by
 have fi:ps.length<=N.length:=by have:=ĵ bS S.pre;rw[aZ]at this;lia
 obtain⟨h1,tk,rfl,hk⟩:=x.done
 have noA:∀ b:Addr,b∉(m5 CX P w K mg base N qual scope f cd A outer s H E).ex:=λ b z=>absurd (show b∈([]:Á Addr) from z) (by simp)
 refine⟨⟨e0.mod,S.kind,rfl,rfl,Ï _,λ y z c h1 h2=>?_,λ y hy=>?_,λ y c _ h=>?_,λ _=>hd,Around.frames_deeper e0.frames,.inr ⟨rfl,rfl⟩,λ b z=>absurd z (noA b),e0.bs,e0.DX,λ b _ _=>noA b,λ b z=>absurd z (noA b),e0.pI,e0.Lm⟩,
  rfl,e0.bare,Un.kept hk,⟨_,x.toInCall.ns,λ i y v h1 h2 h3=>?_⟩,λ y c h=>⟨_,x.cell y c h⟩,e0.ļ.fresh (Ï _),λ y c h=>?_,λ p hp=>absurd (show p∈([]:Á (Addr × Obj)) from hp) (by simp),e0.ļ.kept hk,?_⟩
 ·exact name_of_addr x.apart (eS h1) (eS h2)
 ·have hy:scope.names.lookup y=À .cell∨scope.names.lookup y=À .free:=hy
  rcases hy with hy|hy
  ·exact A6 hy
  ·exact absurd rfl (S.Ra _ (eS hy))
 ·exact Ė (x.above y c (eS h))
 ·have hi:i < vs.length:=by
   unfold start at h2
   by_cases hi:i < vs.length
   ·exact hi
   ·rw[ß (by simpa using hi)]at h2
    rw[m8]at h2
    split at h2<;>cases h2
  have ha:vs[i]? = À v:=by
   unfold start at h2
   rw[á (by simpa using hi),ì]at h2
   cases e:vs[i]? with
   | none=>rw[e]at h2;cases h2
   | some a=>rw[e]at h2;cases h2;rfl
  obtain⟨u,hu,rv⟩:=r.get ha
  have hp:ps[i]? = À y:=by
   rw[<-S.pre,ay (by lia)];exact h1
  have ndP:ps.Nodup:=by rw[<-S.pre];exact S.nd.sublist (uI _ _)
  refine⟨u,rv,?_⟩
  rcases S.par y (é hp) with k|k
  ·exact .inl ⟨k,xQ ndP hp hu k⟩
  ·obtain⟨c,e⟩:=A6 (n:=s.heap.objs.size+1) k
   refine .inr ⟨.inl k,c,e,?_⟩
   have q:=x.cell y c e
   rw[xO ndP hp hu (by show scope.names.lookup y≠_;rw[k];decide)]at q
   exact q
 ·exact e0.ļ.fresh (Ė (x.above y c (eS h)))
 ·unfold start
  show _=N.length
  rw[þ,Õ,Fe]
  lia
theorem OP {CX:G_}{P:Ą}{w:ğ}{K:É}{mg:Str->Ë Value}{base:Heap}{k:Nat}{f:Addr}{name qual:Str}{params:Arguments}{body:Á Stmt}{scope:Scope}{dV kV doc pm dH ct oc:Value}{an od:Ë Addr}
  {xB:Ğ (Ë Value)}{N ps:Á Str}{sp:Sp}(lk:K.lookup f=À ⟨oc,od,.func (ľ name qual params body scope dV kV doc pm an dH ct),xB⟩) (Er:dB K dH qual=true) (S:i4 N ps scope)
  (len:∀ vs H Q E,sp vs H Q E->vs.length=ps.length)
  (UY:∀ (A:į) (outer:Á AF) (s:Ò) (H:Hp) (vs:Á V) (Q:VK) (E:XK),cN k (A.deeper (AS qual scope s.heap.objs.size f dH))->sp vs H Q E->
   ∃ t,nu (m5 CX P w K mg base N qual scope f dH A outer s H E) body t/\t { nx:=λ _ H'=>Q .Ē H',rt:=Q } (start N vs) H) :
  hX P w K mg base CX (k+1) f (ľ name qual params body scope dV kV doc pm an dH ct) ps sp:=by
 refine⟨len,λ A outer s H args us vs Q E hr e0 hb r S5=>?_⟩
 have hl:=len _ _ _ _ S5
 have KX:K.In s.heap:=e0.mod.Vm.keeps λ b o e=>(e0.bs b o e).1
 have lim:s.heap.NoLimit:=e0.mod.nolimit.keeps λ b o e=>(e0.bs b o e).1
 have Bn:∀ y∈ps.zip us,scope.names.lookup y.1=À .local∨(scope.names.lookup y.1=À .cell/\((bI (s.heap.objs.size+1) scope.names []).lookup y.1).isSome=true):=λ⟨n,v⟩ hy=>by
  rcases S.par n (xI hy).1 with q|q
  ·exact .inl q
  ·exact .inr ⟨q,mV _ _ _ (.inl q)⟩
 refine codeAny_call_function hr.depth (KX _ _ lk) rfl S.co S.gen rfl (PySem.W.codeRec_of KX Er) (hb _ _ _ _ ?_)
 refine wpAny_newFunctionEnv_cells S.kind Bn λ env he s1 x=>?_
 subst he
 refine⟨lim.keeps x.toInCall.keep,codeAny_func ?_⟩
 obtain⟨t,ht,hq⟩:=UY A outer s H vs Q E (hr.deeper _) S5
 have I:Inv (m5 CX P w K mg base N qual scope f dH A outer s H E) [] (start N vs) H s1:=FV S hr.hd e0 hl r x
 refine aW (ht [] s1 (start N vs) H _ I hq) (λ fl s' hs=>?_) λ e s' hs=>hs
 have fin:∀ {bh:St}{H':Hp}{v:V}{u:Value},Inv (m5 CX P w K mg base N qual scope f dH A outer s H E) [] bh H' s'->RelV v u->Q v H'->CE outer P w H s Q u s':=
  λ {bh H' v u} J rv q=>⟨v,H',J.os,J.bare,J.base,J.ļ,rv,q⟩
 cases fl with
 | ret u=>
  obtain⟨v,bh,H',J,rv,q⟩:=hs
  exact fin J rv q
 | next=>
  obtain⟨bh,H',J,q⟩:=hs
  exact fin (v:=V.Ē) (u:=ë) J rfl q
 | brk=>
  obtain⟨_,_,_,q⟩:=hs
  exact ao q
 | cont=>
  obtain⟨_,_,_,q⟩:=hs
  exact ao q
section
variable {X:Cx}{x:Str}{p pos:mT}{e:ń}{es:Á ń}{t:TA}{id T:String}{r:Á V->Hp->VK->Prop}
def WJ (r:Á V->Hp->VK->Prop)(t:TA):TE:=λ σ H Q=>t σ H λ vs H1=>r vs H1 Q
theorem dn (hc:cq X (.builtin id) r) (hg:Gl X x)(hm:X.mg x=none)(hv:Ĭ x=À (.builtin id)) (ha:PA X (e :: es) t) (hn:x≠"__name__":=by decide)(mx:(x == ("__debug__":Str))=false:=by decide)
  (he:Ì (e :: es) X.env=(false,Ć e X.env) :: Ì es X.env:=by rfl) (fi:(Ĕ pos (Ì es X.env)).any (·.1)=false:=by rfl):PE X (.Call (.Name x p) (e :: es) [] pos) (WJ r t):=by
 intro Ä s σ H Q I h
 refine ų (pO I hg hm hv ?_ hn mx)
 exact aaJ (af (ha pos Ä s σ H _ I h) λ us s1 zz=>jA zz λ vs H1 I1 r1 q1=>hc Ä s1 σ H1 vs us Q I1 r1 q1) he fi
theorem Gq (hc:cq X (.type T) r) (hg:Gl X x)(hm:X.mg x=none)(hv:Ĭ x=À (.type T)) (ha:PA X (e :: es) t) (hn:x≠"__name__":=by decide)(mx:(x == ("__debug__":Str))=false:=by decide)
  (he:Ì (e :: es) X.env=(false,Ć e X.env) :: Ì es X.env:=by rfl) (fi:(Ĕ pos (Ì es X.env)).any (·.1)=false:=by rfl):PE X (.Call (.Name x p) (e :: es) [] pos) (WJ r t):=by
 intro Ä s σ H Q I h
 refine ų (pO I hg hm hv ?_ hn mx)
 exact cH (af (ha pos Ä s σ H _ I h) λ us s1 zz=>jA zz λ vs H1 I1 r1 q1=>hc Ä s1 σ H1 vs us Q I1 r1 q1) he fi
end
end L2
namespace HT
open PySem PyProof.Rows
section
open PySem.SeqAt
open PySem.AutoSeq1 (wpAny_loadPart')
open PySem.MeetsSeq PySem.MeetsSeq2 PySem.MeetsSeq3
end
section
variable {prog:Ą}{w:ğ}{A:į}{E:Value->Ò->Prop}{s:Ò}
theorem L4 (ht:Xb s.heap t vs.toArray)(hb:Xb s.heap b ws.toArray)(hv:vs≠[])
  (h1:ws=[]->Q (.ref t) s) (h2:ws≠[]->Q (.ref s.heap.objs.size) { s with heap:=s.heap.push { cls:=.type "tuple",data:=.seq (vs++ws).toArray } })
  (hsz:vs.length+ws.length<=sizeLine):Ù (Ý prog w) A (bO .Add (.ref t) (.ref b)) Q E s:=by
 obtain⟨⟨cls,dd,data,sl⟩,ho,hc,n,hd⟩:=id ht
 obtain⟨⟨YN,SW,data2,WC⟩,ck,U0,n2,hd2⟩:=id hb
 simp only at hc hd U0 hd2
 subst hc hd U0 hd2
 have e:vs.toArray++ws.toArray=(vs++ws).toArray:=by simp
 by_cases hw:ws=[]
 ·exact LJ ⟨_,ho,rfl⟩ ⟨_,ck,rfl⟩ AU G6 mU l8 (lr _ _)
   (tuple_addW1 t b vs.toArray ws.toArray n n2 dd SW sl WC (by simpa using hv) (by simp[hw])) ⟨ho,ck,h1 hw⟩
 ·refine LJ ⟨_,ho,rfl⟩ ⟨_,ck,rfl⟩ AU G6 mU l8 (lr _ _)
   (tuple_addW2 t b vs.toArray ws.toArray n n2 dd SW sl WC (by simpa using hv) (by simpa using hw) (by rw[Ú,Ú];exact hsz)) ⟨ho,ck,?_⟩
  rw[e]
  exact h2 hw
def dw (n d:Nat):Ë Int->Nat
 | none=>d
 | some v=>if v < 0 then (v+(n:Int)).toNat else min v.toNat n
theorem R5 (n d:Nat)(hd:d<=n)(o:Ë Int):dw n d o<=n:=by
 cases o with
 | none=>exact hd
 | some v=>
  show(if v < 0 then (v+(n:Int)).toNat else min v.toNat n)<=n
  by_cases hv:v < 0
  ·rw[Ñ hv];lia
  ·rw[Ö hv];exact Nat.min_le_right _ _
theorem DZ (v:Int)(n d:Nat):(if v < 0 then max (v+(n:Int)) 0 else min v (n:Int))=((dw n d (À v):Nat):Int):=by
 show(if v < 0 then max (v+(n:Int)) 0 else min v (n:Int))=(((if v < 0 then (v+(n:Int)).toNat else min v.toNat n):Nat):Int)
 by_cases hv:v < 0
 ·simp only[Ñ hv];lia
 ·simp only[Ö hv];lia
theorem Cu (lo hi:Ë Int)(n:Nat):iU lo hi 1 (n:Int)=(((dw n 0 lo:Nat):Int),((dw n n hi:Nat):Int)):=by
 have h1:¬ ((1:Int) < 0):=by lia
 unfold iU
 simp only[h1,gy]
 refine ng ?_ ?_
 ·cases lo with
  | none=>rfl
  | some v=>exact DZ v n 0
 ·cases hi with
  | none=>rfl
  | some v=>exact DZ v n n
theorem Dl (i j:Nat):cZ (i:Int) (j:Int) 1=j - i:=by
 unfold cZ
 have h1:(1:Int) > 0:=by lia
 simp only[h1,fE,Int.ediv_one]
 split<;>lia
theorem wu (p:uf v o)(h:Q o s):Ù (Ý prog w) A (Yf v) Q E s:=by
 cases p with
 | none=>exact slicePart_none h
 | int i t=>exact slicePart_int h
theorem lM {sl:Addr}{vl vu:Value}{lo hi:Ë Int}{n:Nat}{Q:Int × Int × Nat->Ò->Prop}(hs:s.heap.IsSliceOf sl vl vu .none)(pl:uf vl lo)(pu:uf vu hi)
  (h:Q (((dw n 0 lo:Nat):Int),1,dw n n hi - dw n 0 lo) s):Ù (Ý prog w) A (rX (.ref sl) (pure (n:Int))) Q E s:=by
 obtain⟨os,Qf,XQ,U4⟩:=id hs
 unfold rX Ye
 refine Â (Â (Ķ Qf U4 (x:=vl) rfl (Â (Ķ Qf U4 (x:=vu) rfl (Â (Ķ Qf U4 (x:=.none) rfl (Í ?_)))))))
 refine Â (slicePart_none ?_)
 show Ù _ _ (if ((1:Int) == 0)=true then _ else _) _ _ s
 rw[Ö (by decide)]
 refine Â (wu pl (Â (wu pu (Â (Í ?_)))))
 show Ù _ _ (match iU lo hi 1 (n:Int) with|(lo,hi)=>pure (lo,(1:Int),cZ lo hi 1)) _ _ s
 rw[Cu lo hi n]
 show Ù _ _ (pure (((dw n 0 lo:Nat):Int),(1:Int),cZ ((dw n 0 lo:Nat):Int) ((dw n n hi:Nat):Int) 1)) _ _ s
 rw[Dl]
 exact Í h
theorem JP (xs:Ğ Value)(i k:Nat):((Ă k).filterMap λ(m:Nat)=>xs[((i:Int)+(m:Int) * 1).toNat]?).toArray=((xs.toList.drop i).take k).toArray:=by
 have e:(λ(m:Nat)=>xs[((i:Int)+(m:Int) * 1).toNat]?)=λ m=>xs[i+m]?:=by
  funext m
  have:((i:Int)+(m:Int) * 1).toNat=i+m:=by lia
  rw[this]
 rw[e]
 have:=pick_run xs i k
 rw[List.filterMap_map]at this
 have e2:((λ x=>xs[x]?) ∘ λ x=>i+x)=λ m=>xs[i+m]?:=rfl
 rw[e2]at this
 rw[this]
theorem qK {t sl:Addr}{items:Ğ Value}{vl vu:Value}{lo hi:Ë Int}{Q:Value->Ò->Prop}(ht:Xb s.heap t items)(hs:s.heap.IsSliceOf sl vl vu .none)(pl:uf vl lo)(pu:uf vu hi)
  (hw:¬ (dw items.size 0 lo=0/\dw items.size items.size hi=items.size))
  (h:Q (.ref s.heap.objs.size) { s with heap:=s.heap.push { cls:=.type "tuple",data:=.seq ((items.toList.drop (dw items.size 0 lo)).take (dw items.size items.size hi - dw items.size 0 lo)).toArray } })
  (hsz:items.size<=sizeLine):Ù (Ý prog w) A (n_ (.ref t) (.ref sl)) Q E s:=by
 have Eu:sizeOk (.seq ((items.toList.drop (dw items.size 0 lo)).take (dw items.size items.size hi - dw items.size 0 lo)).toArray):=by
  show((items.toList.drop (dw items.size 0 lo)).take (dw items.size items.size hi - dw items.size 0 lo)).toArray.size<=sizeLine
  rw[Ú,aZ,wU,Ź]
  lia
 have hj:dw items.size items.size hi<=items.size:=R5 _ _ (Ï _) hi
 obtain⟨os,Qf,XQ,U4⟩:=id hs
 have Y4:s.TypeIs (.ref sl) "slice":=⟨os,Qf,XQ⟩
 unfold n_
 try with_reducible refine Ŋ ?_
 first|refine Â (Í ?_)|skip
 refine Â (Xq ht.typeIs (by decide) ?_)
 refine Â (Œ (name:=å "__getitem__") ht.typeIs ņ
  (ı ņ ht.typeIs SK ?_ (Tj _ _)))
 show Ù _ _ (rY (.ref t) >>= _) _ _ s
 refine Â (tupleItemsOf_ ht ?_)
 refine Â (za Y4 ?_)
 rw[Ñ (by decide)]
 refine Â (lM hs pl pu ?_)
 have hno:¬ ((((dw items.size 0 lo:Nat):Int) == 0 && (1:Int) == 1 && (dw items.size items.size hi - dw items.size 0 lo) == items.size)=true):=by
  intro q
  rw[Č,Č]at q
  have q1:((dw items.size 0 lo:Nat):Int)=0:=eq_of_beq q.1.1
  have q2:dw items.size items.size hi - dw items.size 0 lo=items.size:=eq_of_beq q.2
  exact hw ⟨by lia,by lia⟩
 show Ù _ _ (if (((dw items.size 0 lo:Nat):Int) == 0 && (1:Int) == 1 && (dw items.size items.size hi - dw items.size 0 lo) == items.size)=true then _ else _) _ _ s
 rw[Ö hno,JP]
 first
  | exact Â (m:=dz _) (Ŏ (Í ⟨_,rfl,Í h⟩) Eu)
  | exact Â (m:=dz _) (Ŏ (Â (Í (Í ⟨_,rfl,Í h⟩))) Eu)
  | exact Â (Â (m:=dz _) (Ŏ (Í (Í ⟨_,rfl,Í h⟩)) Eu))
  | exact Â (Â (m:=dz _) (Ŏ (Í ⟨_,rfl,Í h⟩) Eu))
end
end HT
namespace L2
open PySem PySem.Spec PyProof.Rows
abbrev TO:=St->Hp->(Ë Int->Hp->Prop)->Prop
def PO (X:Cx)(e:Ë ń)(t:TO):Prop:=
 ∀ (Ä:Á (Addr × Obj)) (s:Ò) (σ:St) (H:Hp) (Q:Ë Int->Hp->Prop),Inv X Ä σ H s->t σ H Q->
  Ù (Ý X.prog X.w) X.A (evalPart e X.env) (λ u s'=>∃ o H',Inv X Ä σ H' s'/\uf u o/\Q o H') X.xe s
def Oi:TO:=λ _ H Q=>Q none H
def WX (t:TE):TO:=λ σ H Q=>t σ H λ x H1=>∃ i,x=.int i/\Q (À i) H1
section
variable {X:Cx}{e:ń}{te:TE}{lo hi:Ë ń}{tl th:TO}{pos p2:mT}
theorem NL:PO X none Oi:=by
 intro Ä s σ H Q I h
 rw[evalPart_none]
 exact Í ⟨none,H,I,.none,h⟩
theorem NM (h:PE X e te):PO X (À e) (WX te):=by
 intro Ä s σ H Q I hw
 rw[evalPart_some]
 refine af (h Ä s σ H _ I hw) λ u s1 zz=>jA zz λ x H1 I1 r1 q1=>?_
 obtain⟨i,rfl,q⟩:=q1
 obtain⟨t,rfl⟩:=r1
 exact⟨À i,H1,I1,.int i t,q⟩
def Tw (X:Cx)(r:V->Ë Int->Ë Int->Hp->VK->Prop):Prop:=
 ∀ (Ä:Á (Addr × Obj)) (s:Ò) (σ:St) (H:Hp) (x:V) (v vl vu:Value) (lo hi:Ë Int) (sl:Addr) (Q:VK),Inv X Ä σ H s->RelV x v->s.heap.IsSliceOf sl vl vu .none->uf vl lo->uf vu hi->r x lo hi H Q->
  ∃ T id,typeLookup (.type T) "__getitem__"=pure (À (.builtin id))/\s.TypeIs v T/\Ù (Ý X.prog X.w) X.A (n_ v (.ref sl)) (EP X Ä σ Q) X.xe s
def tSl (r:V->Ë Int->Ë Int->Hp->VK->Prop)(te:TE)(tl th:TO):TE:=λ σ H Q=>te σ H λ x H1=>tl σ H1 λ l H2=>th σ H2 λ u H3=>r x l u H3 Q
theorem JK (hr:Tw X r)(he:PE X e te)(hl:PO X lo tl)(hu:PO X hi th):PE X (.Subscript e (.Slice lo hi none p2) pos) (tSl r te tl th):=by
 intro Ä s σ H Q I h
 refine Ti (af (he Ä s σ H _ I h) λ v s1 zz=>jA zz λ x H1 I1 r1 q1=>?_)
 refine wpAny_Slice (af (hl Ä s1 σ H1 _ I1 q1) λ vl s2 zz=>jA zz λ l H2 I2 pl q2=>af (hu Ä s2 σ H2 _ I2 q2) λ vu s3 zz=>jA zz λ u H3 I3 pu q3=>?_)
 rw[evalPart_none]
 refine Í ?_
 have I4:Inv X Ä σ H3 { s3 with heap:=s3.heap.push { cls:=.type "slice",data:=.fields #[vl,vu,.none] } }:=I3.kept (t':=s3.toks) λ b ob q=>Ã _ q
 obtain⟨T,id,hT,ht,hg⟩:=hr Ä { s3 with heap:=s3.heap.push { cls:=.type "slice",data:=.fields #[vl,vu,.none] } } σ H3 x v vl vu l u s3.heap.objs.size Q I4 r1 (W_ ..) pl pu q3
 show Ù (Ý X.prog X.w) X.A (G8 e (.Slice lo hi none p2) v (.ref s3.heap.objs.size)) (EP X Ä σ Q) X.xe { s3 with heap:=s3.heap.push { cls:=.type "slice",data:=.fields #[vl,vu,.none] } }
 exact tail_any (ops:=[.ref s3.heap.objs.size,v]) ht hT hg (by with_unfolding_all rfl)
def vt (xs:Á V)(lo hi:Ë Int):Á V:=(xs.drop (HT.dw xs.length 0 lo)).take (HT.dw xs.length xs.length hi - HT.dw xs.length 0 lo)
theorem tF (xs:Á V)(lo hi:Ë Int):(vt xs lo hi).length<=xs.length:=by
 unfold vt
 rw[aZ,wU]
 lia
def aae (K:É):V->Ë Int->Ë Int->Hp->VK->Prop:=λ x lo hi H Q=>∃ a xs,x=.ref a/\hZ K H a xs/\
 ¬ (HT.dw xs.length 0 lo=0/\HT.dw xs.length xs.length hi=xs.length)/\∀ p,H p=none->Q (.ref p) (upd H p (.tup (vt xs lo hi)))
theorem R':Tw X (aae X.K):=by
 intro Ä s σ H x v vl vu lo hi sl Q I rx hs pl pu h
 obtain⟨a,xs,rfl,hx,hw,q⟩:=h
 cases rx
 obtain⟨its,r,ht,hz⟩:=I.tuple hx
 have hlen:its.toArray.size=xs.length:=by rw[Ú];exact r.length.symm
 refine⟨"tuple",_,ņ.lookup,ht.typeIs,?_⟩
 refine HT.qK ht hs pl pu (by rw[hlen];exact hw) ?_ (by rw[hlen];exact hz)
 rw[hlen]
 refine⟨.ref s.heap.objs.size,_,I.laid (t':=s.toks) (o:=.tup (vt xs lo hi)) (λ b ob q=>Ã _ q) (Ï _) ?_,rfl,q _ (I.ļ.fresh (Ï _))⟩
 exact⟨ě (tF xs lo hi) hz,_,(r.drop (HT.dw xs.length 0 lo)).take (HT.dw xs.length xs.length hi - HT.dw xs.length 0 lo),u5 _ _⟩
def Wt (K:É):R2:=λ x y H Q=>∃ a b xs ys,x=.ref a/\y=.ref b/\hZ K H a xs/\hZ K H b ys/\xs≠[]/\xs.length+ys.length<=sizeLine/\
 (ys=[]->Q (.ref a) H)/\(ys≠[]->∀ p,H p=none->Q (.ref p) (upd H p (.tup (xs++ys))))
theorem Vals.uS (r:Vals xs us):us=[] ↔ xs=[]:=by
 cases r with
 | nil=>simp
 | cons _ _=>simp
theorem Nr:kI X (bO .Add) (Wt X.K):=by
 intro Ä s σ H x y v u Q I rx ry h
 obtain⟨a,b,xs,ys,rfl,rfl,ha,hb,hx,hz,q1,q2⟩:=h
 cases rx
 cases ry
 obtain⟨its,r1,p1,_⟩:=I.tuple ha
 obtain⟨eV,r2,p2,_⟩:=I.tuple hb
 refine HT.L4 p1 p2 (λ z=>hx (r1.uS.mp z)) (λ z=>⟨.ref a,H,I,rfl,q1 (r2.uS.mp z)⟩) (λ z=>?_) (by rw[<-r1.length,<-r2.length];exact hz)
 refine⟨.ref s.heap.objs.size,_,I.laid (t':=s.toks) (o:=.tup (xs++ys)) (λ b ob q=>Ã _ q) (Ï _) ?_,rfl,q2 (λ w=>z (r2.uS.mpr w)) _ (I.ļ.fresh (Ï _))⟩
 exact⟨by rw[þ];exact hz,_,r1.append r2,u5 _ _⟩
end
def Ez (n:Nat)(i:Int):Ë Nat:=if 0<=i then (if i < n then À i.toNat else none) else if -(n:Int)<=i then À (i+n).toNat else none
def l9 {α:Type}(xs:Á α)(i:Int):Ë α:=(Ez xs.length i).bind λ j=>xs[j]?
theorem zJ (h:Ez n i=À j):Le i n=À j/\j < n/\-(n:Int)<=i/\i < n:=by
 unfold Ez at h
 by_cases h0:0<=i
 ·rw[Ñ h0]at h
  by_cases h1:i < n
  ·rw[Ñ h1]at h
   have e:i.toNat=j:=è h
   exact⟨by rw[Ph h0 h1,e],by lia,by lia,h1⟩
  ·rw[Ö h1]at h;cases h
 ·rw[Ö h0]at h
  by_cases h1:-(n:Int)<=i
  ·rw[Ñ h1]at h
   have e:(i+n).toNat=j:=è h
   exact⟨by rw[seqIndex_neg (by lia) h1,e],by lia,h1,by lia⟩
  ·rw[Ö h1]at h;cases h
theorem zf (h:l9 xs i=À v):∃ j,Le i xs.length=À j/\xs[j]? = À v/\j < xs.length/\-(xs.length:Int)<=i/\i < xs.length:=by
 unfold l9 at h
 cases e:Ez xs.length i with
 | none=>rw[e]at h;cases h
 | some j=>
  rw[e]at h
  obtain⟨h1,h2,h3,h4⟩:=zJ e
  exact⟨j,h1,h,h2,h3,h4⟩
theorem l_ {α:Type}{xs:Á α}{j:Nat}{v:α}(h:xs[j]? = À v):l9 xs (j:Int)=À v:=by
 have hj:j < xs.length:=(Æ.mp h).1
 have e:Ez xs.length (j:Int)=À j:=by
  unfold Ez
  rw[Ñ (by lia),Ñ (by lia)];simp
 unfold l9;rw[e];exact h
def DT (b:ń):Prop:=∀ o i,Cc b false o i=operate [o,i] (n_ o i)
def SQ (X:Cx)(r:R2):Prop:=
 ∀ (value slice:ń) (Ä:Á (Addr × Obj)) (s:Ò) (σ:St) (H:Hp) (x y:V) (v u:Value) (Q:VK),Inv X Ä σ H s->RelV x v->RelV y u->r x y H Q->
  Cc slice false v u=operate [v,u] (n_ v u)->Ù (Ý X.prog X.w) X.A (G8 value slice v u) (EP X Ä σ Q) X.xe s
def Fy (X:Cx)(id:String)(r:V->Á V->Hp->VK->Prop):Prop:=
 ∀ (Ä:Á (Addr × Obj)) (s:Ò) (σ:St) (H:Hp) (x:V) (xs:Á V) (v:Value) (us:Á Value) (Q:VK),Inv X Ä σ H s->RelV x v->Vals xs us->r x xs H Q->
  Ù (Ý X.prog X.w) X.A (call (.builtin id) (v :: us)) (EP X Ä σ Q) X.xe s
section
variable {X:Cx}{a b:ń}{ta tb:TE}{pos:mT}
theorem Wh (hr:SQ X r)(ha:PE X a ta)(hb:PE X b tb)(hs:DT b):PE X (.Subscript a b pos) (WU r ta tb):=by
 intro Ä s σ H Q I h
 exact Ti (Px ha hb I h λ v u s2 x y H2 I2 rx ry q=>hr a b Ä s2 σ H2 x y v u Q I2 rx ry q (hs _ _))
def aaa (K:É):R2:=λ x y H Q=>∃ p xs i v,x=.ref p/\y=.int i/\fZ K H p xs/\l9 xs i=À v/\Q v H
def aac (K:É):R2:=λ x y H Q=>∃ p xs i v,x=.ref p/\y=.int i/\hZ K H p xs/\l9 xs i=À v/\Q v H
def aab:R2:=λ x y H Q=>∃ z i c,x=.str z/\y=.int i/\z.length<=sizeLine/\l9 z.cps.toList i=À c/\Q (.str ⟨#[c]⟩) H
theorem EC:SQ X (aaa X.K):=by
 intro value slice Ä s σ H x y v u Q I rx ry h hs
 obtain⟨p,xs,i,z,rfl,rfl,hq,he,q⟩:=h
 cases rx
 obtain⟨t,rfl⟩:=ry
 obtain⟨its,r,pl,hz⟩:=I.list hq
 obtain⟨j,h1,h2,h3,h4,h5⟩:=zf he
 obtain⟨w,ew,xD⟩:=r.get h2
 have hl:=r.length
 have hn:=nQ
 have fin:EP X Ä σ Q w s:=⟨z,H,I,xD,q⟩
 by_cases h0:0<=i
 ·have hj:i.toNat=j:=by
   rw[Ph h0 h5]at h1
   exact è h1
  exact item_listR pl.isList h0 (by lia) (by rw[hj];simpa using ew) fin hs
 ·have hj:(i+(its.toArray.size:Int)).toNat=j:=by
   rw[seqIndex_neg (by lia) h4]at h1
   rw[Ú,<-hl]
   exact è h1
  exact LM (x:=w) pl.isList.typeIs Xj.lookup
   (wpAny_getItem_list_neg (Q:=λ r s'=>r=w/\EP X Ä σ Q r s') pl.isList (by lia) (by rw[Ú]<;>lia) (by lia) (by rw[hj];simpa using ew) ⟨rfl,fin⟩) hs
theorem Qn:SQ X (aac X.K):=by
 intro value slice Ä s σ H x y v u Q I rx ry h hs
 obtain⟨p,xs,i,z,rfl,rfl,hq,he,q⟩:=h
 cases rx
 obtain⟨t,rfl⟩:=ry
 obtain⟨its,r,pl,hz⟩:=I.tuple hq
 obtain⟨j,h1,h2,h3,h4,h5⟩:=zf he
 obtain⟨w,ew,xD⟩:=r.get h2
 have hl:=r.length
 have hn:=nQ
 have fin:EP X Ä σ Q w s:=⟨z,H,I,xD,q⟩
 exact LM (x:=w) pl.typeIs slot_tuple_getitem.lookup
  (getItem_tuple (j:=j) (Q:=λ r s'=>r=w/\EP X Ä σ Q r s') pl (by lia) (by lia) (by rw[Ú,<-hl];exact h1) (by simpa using ew) ⟨rfl,fin⟩) hs
theorem Qm:SQ X aab:=by
 intro value slice Ä s σ H x y v u Q I rx ry h hs
 obtain⟨z,i,c,rfl,rfl,hz,he,q⟩:=h
 obtain⟨t,rfl⟩:=rx
 obtain⟨t',rfl⟩:=ry
 obtain⟨j,h1,h2,h3,h4,h5⟩:=zf he
 have hl:z.cps.toList.length=z.length:=by simp[Str.length]
 rw[hl]at h1 h4 h5
 have hn:=nQ
 exact tail_any (typeIs_str s z t) slot_str_getitem.lookup (getItem_str (c:=c) (by
  have e1:decide (i < -(2 ^ 63:Int))=false:=ÿ (by lia)
  have e2:decide (i ≥ 2 ^ 63)=false:=ÿ (by lia)
  rw[e1,e2,Ta]) (by rw[h1];simpa using h2) ⟨.str ⟨#[c]⟩,H,I.tok _,⟨_,rfl⟩,q⟩) hs
theorem C1 (its:Á Value)(n j:Nat)(u:Value):ň (·.setIfInBounds j u) { cls:=.type "list",data:=.seq its.toArray n }={ cls:=.type "list",data:=.seq (its.set j u).toArray n }:=by
 simp[ň]
theorem Inv.lst {Ä:Á (Addr × Obj)}{σ:St}{H:Hp}{s:Ò}{p:Addr}{xs:Á V}(I:Inv X Ä σ H s)(h:H p=À (.lst xs)) :
  ∃ (its:Á Value) (n:Nat),Vals xs its/\s.heap.get? p=À { cls:=.type "list",data:=.seq its.toArray n }/\xs.length<=sizeLine:=by
 obtain⟨z,its,n,r,e⟩:=I.ļ p _ h
 exact⟨its,n,r,e,z⟩
theorem Inv.Qz {Ä:Á (Addr × Obj)}{σ:St}{H:Hp}{s:Ò}{p:Addr}{xs ys:Á V}{its its':Á Value}{n n':Nat}{f:Obj->Obj}(I:Inv X Ä σ H s)(h:H p=À (.lst xs))
  (ho:s.heap.get? p=À { cls:=.type "list",data:=.seq its.toArray n }) (hf:f { cls:=.type "list",data:=.seq its.toArray n }={ cls:=.type "list",data:=.seq its'.toArray n' }) (r:Vals ys its') (hz:ys.length<=sizeLine) (t:Nat) :
  Inv X Ä σ (upd H p (.lst ys)) { s with heap:=s.heap.update p f,toks:=t }:=by
 have e:(s.heap.update p f).get? p=À { cls:=.type "list",data:=.seq its'.toArray n' }:=by
  rw[ú f ho (by rw[hf]<;>rfl),hf]
 refine I.write (x:=p) (e:=p) (by rw[h];trivial) (.inl rfl) (λ b u hb q=>(ý _ _ (Ŝ hb)).trans q) ⟨_,e⟩ ?_
 exact⟨hz,its',n',r,e⟩
def Ww:V->V->V->Hp->(Hp->Prop)->Prop:=λ o i v H Q=>∃ p xs k j,o=.ref p/\i=.int k/\H p=À (.lst xs)/\Ez xs.length k=À j/\Q (upd H p (.lst (xs.set j v)))
theorem set_list:Pr X Ww:=by
 intro Ä s σ H o i v ov iv u Q I ro ri rv h
 obtain⟨p,xs,k,j,rfl,rfl,hp,hj,q⟩:=h
 cases ro
 obtain⟨t,rfl⟩:=ri
 obtain⟨its,n,r,ho,hz⟩:=I.lst hp
 obtain⟨h1,h2,h3,h4⟩:=zJ hj
 have hl:=r.length
 have hn:=nQ
 have I':Inv X Ä σ (upd H p (.lst (xs.set j v))) { s with heap:=s.heap.update p (ň (·.setIfInBounds j u)) }:=
  I.Qz hp ho (C1 its n j u) (r.set rv j) (by rw[aP];exact hz) s.toks
 by_cases h0:0<=k
 ·have hk:k.toNat=j:=by
   rw[Ph h0 h4]at h1
   exact è h1
  exact PySem.W.ki_setAt ho h0 (by lia) (by rw[Ú,<-hl];exact h4) (by rw[hk];exact⟨_,I',q⟩)
 ·have hk:(k+(its.toArray.size:Int)).toNat=j:=by
   rw[seqIndex_neg (by lia) h3]at h1
   rw[Ú,<-hl]
   exact è h1
  exact PySem.W.ki_setBack ho (by lia) (by rw[Ú,<-hl];exact h3) (by lia) (by rw[hk];exact⟨_,I',q⟩)
theorem z_ (lo hi:Ë Int)(n:Nat):(kG lo hi none n).1=((HT.dw n 0 lo:Nat):Int)/\(kG lo hi none n).2.1=((HT.dw n n hi:Nat):Int)/\(kG lo hi none n).2.2=1:=by
 refine⟨?_,?_,rfl⟩
 ·cases lo with
  | none=>simp[kG,HT.dw]
  | some i=>
   simp only[kG,HT.dw,K6,show(1:Int) > 0 by decide,fE]
   by_cases h:i < 0
   ·simp only[h,fE]<;>lia
   ·simp only[h,gy]<;>lia
 ·cases hi with
  | none=>simp[kG,HT.dw]
  | some i=>
   simp only[kG,HT.dw,K6,show(1:Int) > 0 by decide,fE]
   by_cases h:i < 0
   ·simp only[h,fE]<;>lia
   ·simp only[h,gy]<;>lia
theorem xF (its:Á Value)(lo hi:Ë Int):slicePick its.toArray lo hi none=((its.drop (HT.dw its.length 0 lo)).take (HT.dw its.length its.length hi - HT.dw its.length 0 lo)).toArray:=by
 obtain⟨h1,h2,h3⟩:=z_ lo hi its.toArray.size
 unfold slicePick
 rw[h1,h2,h3]
 simp only[sliceRange_one,pick_run,Ú]<;>rfl
def aad (K:É):V->Ë Int->Ë Int->Hp->VK->Prop:=λ x lo hi H Q=>∃ a xs,x=.ref a/\fZ K H a xs/\∀ p,H p=none->Q (.ref p) (upd H p (.lst (vt xs lo hi)))
theorem E4:Tw X (aad X.K):=by
 intro Ä s σ H x v vl vu lo hi sl Q I rx hs pl pu h
 obtain⟨a,xs,rfl,hx,q⟩:=h
 cases rx
 obtain⟨its,r,ht,hz⟩:=I.list hx
 have hlen:=r.length
 refine⟨"list",_,Xj.lookup,ht.isList.typeIs,?_⟩
 refine wpAny_getItem_list_slice ht.isList hs pl pu .none (by simp) ?_ (by rw[Ú]<;>lia)
 rw[xF,<-hlen]
 refine⟨.ref s.heap.objs.size,_,I.laid (t':=s.toks) (o:=.lst (vt xs lo hi)) (λ b ob q=>Ã _ q) (Ï _) ?_,rfl,q _ (I.ļ.fresh (Ï _))⟩
 exact⟨ě (tF xs lo hi) hz,_,0,(r.drop (HT.dw xs.length 0 lo)).take (HT.dw xs.length xs.length hi - HT.dw xs.length 0 lo),Ø _ rfl⟩
def qG:V->Bool
 | .Ē=>true
 | .bl _=>true
 | .int _=>true
 | .str _=>true
 | _=>false
def kR:V->V->Bool
 | .Ē,.Ē=>true
 | .bl a,.bl b=>a == b
 | .bl a,.int b=>(if a then 1 else 0) == b
 | .int a,.bl b=>a == (if b then 1 else 0)
 | .int a,.int b=>a == b
 | .str a,.str b=>a == b
 | _,_=>false
theorem œ (ry:RelV y u)(rx:RelV x v)(fy:qG y=true)(fx:qG x=true):sj A s u v (kR y x):=by
 cases y with
 | Ē=>
  cases ry
  cases x with
  | Ē=>cases rx;exact tu _
  | bl b=>cases rx;exact SeqAt.EqAt.none_bool b
  | int b=>obtain⟨t,rfl⟩:=rx;exact SeqAt.EqAt.none_int b t
  | str b=>obtain⟨t,rfl⟩:=rx;exact SeqAt.EqAt.none_str b t
  | _=>exact absurd (show false=true from fx) æ
 | bl a=>
  cases ry
  cases x with
  | Ē=>cases rx;exact SeqAt.EqAt.bool_none a
  | bl b=>cases rx;exact SeqAt.EqAt.bool_bool a b
  | int b=>obtain⟨t,rfl⟩:=rx;exact SeqAt.EqAt.bool_int a b t
  | str b=>obtain⟨t,rfl⟩:=rx;exact SeqAt.EqAt.bool_str a b t
  | _=>exact absurd (show false=true from fx) æ
 | int a=>
  obtain⟨t',rfl⟩:=ry
  cases x with
  | Ē=>cases rx;exact SeqAt.EqAt.int_none a t'
  | bl b=>cases rx;exact SeqAt.EqAt.int_bool a t' b
  | int b=>obtain⟨t,rfl⟩:=rx;exact SeqAt.EqAt.int_int a t' b t
  | str b=>obtain⟨t,rfl⟩:=rx;exact B8 a t' b t
  | _=>exact absurd (show false=true from fx) æ
 | str a=>
  obtain⟨t',rfl⟩:=ry
  cases x with
  | Ē=>cases rx;exact SeqAt.EqAt.str_none a t'
  | bl b=>cases rx;exact SeqAt.EqAt.str_bool a t' b
  | int b=>obtain⟨t,rfl⟩:=rx;exact B_ a t' b t
  | str b=>obtain⟨t,rfl⟩:=rx;exact SeqAt.EqAt.str_str a t' b t
  | _=>exact absurd (show false=true from fx) æ
 | _=>exact absurd (show false=true from fy) æ
def CJ (x:V)(u:Value):Bool:=match u with
 | .none=>kR .Ē x
 | .bool b=>kR (.bl b) x
 | .int i _=>kR (.int i) x
 | .str z _=>kR (.str z) x
 | _=>false
theorem HP (r:RelV y u)(f:qG y=true):CJ x u=kR y x:=by
 cases y with
 | Ē=>cases r;rfl
 | bl b=>cases r;rfl
 | int i=>obtain⟨t,rfl⟩:=r;rfl
 | str z=>obtain⟨t,rfl⟩:=r;rfl
 | _=>exact absurd (show false=true from f) æ
theorem qw:∀ {xs:Á V}{us:Á Value},Vals xs us->xs.all qG=true->us.any (CJ x)=xs.any λ y=>kR y x
 | _,_,.nil,_=>rfl
 | y :: xs,u :: us,.cons r t,f=>by
  rw[Ő,Č]at f
  rw[ax,ax,HP r f.1,qw t f.2]
theorem nS (rx:RelV x v)(fx:qG x=true):∀ {xs:Á V}{us:Á Value},Vals xs us->xs.all qG=true->∀ u∈us,sj A s u v (CJ x u)
 | _,_,.nil,_=>λ u hu=>by cases hu
 | y :: xs,u :: us,.cons r t,f=>λ u' hu=>by
  rw[Ő,Č]at f
  rcases Þ.mp hu with rfl|hu
  ·rw[HP r f.1];exact œ r rx f.1 fx
  ·exact nS rx fx t f.2 u' hu
def X0 (x:V)(xs:Á V):Bool:=xs.any λ y=>kR y x
def rIn (K:É)(neg:Bool):R2:=λ x y H Q=>∃ p xs,y=.ref p/\(fZ K H p xs∨hZ K H p xs)/\qG x=true/\xs.all qG=true/\Q (.bl (if neg then !X0 x xs else X0 x xs)) H
theorem Gm:kI X (Į .In) (rIn X.K false):=by
 intro Ä s σ H x y v u Q I rx ry h
 obtain⟨p,xs,rfl,hq,fx,fs,q⟩:=h
 cases ry
 rcases hq with hq|hq
 ·obtain⟨its,r,pl,hz⟩:=I.list hq
  refine SeqAt.in_listAt (CJ x) pl.isList (λ w hw=>nS rx fx r fs w (by simpa using hw)) ⟨.bl _,H,I,rfl,?_⟩
  rw[show its.toArray.any (CJ x)=its.any (CJ x) by simp,qw r fs]
  exact q
 ·obtain⟨its,r,pl,hz⟩:=I.tuple hq
  refine SeqAt.in_tupleAt (CJ x) pl (λ w hw=>nS rx fx r fs w (by simpa using hw)) ⟨.bl _,H,I,rfl,?_⟩
  rw[show its.toArray.any (CJ x)=its.any (CJ x) by simp,qw r fs]
  exact q
theorem zU:kI X (Į .NotIn) (rIn X.K true):=by
 intro Ä s σ H x y v u Q I rx ry h
 obtain⟨p,xs,rfl,hq,fx,fs,q⟩:=h
 cases ry
 rcases hq with hq|hq
 ·obtain⟨its,r,pl,hz⟩:=I.list hq
  refine SeqAt.notIn_listAt (CJ x) pl.isList (λ w hw=>nS rx fx r fs w (by simpa using hw)) ⟨.bl _,H,I,rfl,?_⟩
  rw[show its.toArray.any (CJ x)=its.any (CJ x) by simp,qw r fs]
  exact q
 ·obtain⟨its,r,pl,hz⟩:=I.tuple hq
  refine SeqAt.notIn_tupleAt (CJ x) pl (λ w hw=>nS rx fx r fs w (by simpa using hw)) ⟨.bl _,H,I,rfl,?_⟩
  rw[show its.toArray.any (CJ x)=its.any (CJ x) by simp,qw r fs]
  exact q
theorem zi:cq X (.builtin "len") (λ xs H Q=>∃ p ys,xs=[.ref p]/\(fZ X.K H p ys∨hZ X.K H p ys)/\Q (.int ys.length) H):=by
 intro Ä s σ H xs us Q I r h
 obtain⟨p,ys,rfl,hq,q⟩:=h
 obtain⟨u,rfl,rx⟩:=vals1 r
 cases rx
 have hn:=nQ
 rcases hq with hq|hq
 ·obtain⟨its,r',pl,hz⟩:=I.list hq
  have hlen:=r'.length
  exact Calls.call_len_list pl.isList (by simp only[Ú]<;>lia) ⟨.int ys.length,H,I.tok _,⟨s.toks+1,by rw[Ú,hlen]⟩,q⟩
 ·obtain⟨its,r',pl,hz⟩:=I.tuple hq
  have hlen:=r'.length
  exact len_tuple pl (by simp only[Ú]<;>lia) ⟨.int ys.length,H,I.tok _,⟨s.toks+1,by rw[Ú,hlen]⟩,q⟩
theorem zj:cq X (.builtin "len") (λ xs H Q=>∃ z,xs=[.str z]/\z.length<=sizeLine/\Q (.int z.length) H):=by
 intro Ä s σ H xs us Q I r h
 obtain⟨z,rfl,hz,q⟩:=h
 obtain⟨u,rfl,t,rfl⟩:=vals1 r
 have hn:=nQ
 exact len_str (by lia) ⟨.int z.length,H,I.tok _,⟨_,rfl⟩,q⟩
theorem zk:cq X (.type "list") (λ xs H Q=>∃ p ys,xs=[.ref p]/\(fZ X.K H p ys∨hZ X.K H p ys)/\∀ l,H l=none->Q (.ref l) (upd H l (.lst ys))):=by
 intro Ä s σ H xs us Q I r h
 obtain⟨p,ys,rfl,hq,q⟩:=h
 obtain⟨u,rfl,rx⟩:=vals1 r
 cases rx
 have fin:∀ (its:Á Value),Vals ys its->ys.length<=sizeLine->∀ (h':Heap) (c':Nat),(∀ b o',s.heap.get? b=À o'->h'.get? b=À o')->
   h'.get? s.heap.objs.size=À { cls:=.type "list",dict:=none,data:=.seq its.toArray c',slots:=#[] }->EP X Ä σ Q (.ref s.heap.objs.size) { s with heap:=h' }:=λ its r' hz h' c' kp e=>
  ⟨.ref s.heap.objs.size,_,I.laid (t':=s.toks) kp (Ï _) (show Ũ X.prog X.w _ h' _ (.lst ys) from⟨hz,its,c',r',e⟩),rfl,q _ (I.ļ.fresh (Ï _))⟩
 rcases hq with hq|hq
 ·obtain⟨its,r',pl,hz⟩:=I.list hq
  have hlen:=r'.length
  obtain⟨o,ho,hc,n,hd⟩:=pl.isList
  exact call_list_seq p (.inl rfl) ho hc hd (λ h' c' kp e=>fin its r' hz h' c' kp e) (by simp only[Ú]<;>lia)
 ·obtain⟨its,r',pl,hz⟩:=I.tuple hq
  have hlen:=r'.length
  obtain⟨o,ho,hc,n,hd⟩:=pl
  exact call_list_seq p (.inr rfl) ho hc hd (λ h' c' kp e=>fin its r' hz h' c' kp e) (by simp only[Ú]<;>lia)
theorem xl:cq X (.type "tuple") (λ xs H Q=>∃ p ys,xs=[.ref p]/\((fZ X.K H p ys/\∀ l,H l=none->Q (.ref l) (upd H l (.tup ys)))∨(hZ X.K H p ys/\Q (.ref p) H))):=by
 intro Ä s σ H xs us Q I r h
 obtain⟨p,ys,rfl,h⟩:=h
 obtain⟨u,rfl,rx⟩:=vals1 r
 cases rx
 rcases h with⟨hq,q⟩|⟨hq,q⟩
 ·obtain⟨its,r',pl,hz⟩:=I.list hq
  have hlen:=r'.length
  refine call_tuple_list pl.isList (λ h' kp=>?_) (by simp only[Ú]<;>lia)
  have I1:Inv X Ä σ H { s with heap:=h' }:=I.kept (t':=s.toks) kp
  have I2:Inv X Ä σ (upd H h'.objs.size (.tup ys)) { s with heap:=h'.push { cls:=.type "tuple",data:=.seq its.toArray } }:=
   I1.laid (t':=s.toks) (λ b o e=>Ã _ e) (Ï _) (show Ũ X.prog X.w _ _ _ (.tup ys) from⟨hz,its,r',u5 _ _⟩)
  exact⟨.ref h'.objs.size,_,I2,rfl,q _ (I1.ļ.fresh (Ï _))⟩
 ·obtain⟨its,r',pl,hz⟩:=I.tuple hq
  exact call_tuple_same pl ⟨.ref p,H,I,rfl,q⟩
def X9 (K:É)(T:String)(x:V)(H:Hp):Prop:=match x with
 | .str _=>T="str"
 | .int _=>T="int"
 | .ref p=>(T="list"/\∃ xs,fZ K H p xs)∨(T="tuple"/\∃ o,K.lookup p=À o/\o.cls=.type "tuple"/\o.dict=none)∨
   (T="dict"/\((∃ kvs,H p=À (.dK kvs))∨∃ kvs,H p=À (.dT kvs)))∨(T="set"/\∃ S n,H p=À (.set S n))
 | _=>False
theorem DI (I:Inv X Ä σ H s)(r:RelV x v)(ty:X9 X.K T x H) :
  s.TypeIs v T/\∀ a,v=.ref a->∃ ob,s.heap.get? a=À ob/\ob.dict=none:=by
 cases x with
 | str z=>
  obtain⟨t,rfl⟩:=r
  cases (show T="str" from ty)
  exact⟨typeIs_str s z t,λ _ e=>nomatch e⟩
 | int i=>
  obtain⟨t,rfl⟩:=r
  cases (show T="int" from ty)
  exact⟨typeIs_int s i t,λ _ e=>nomatch e⟩
 | ref p=>
  cases r
  rcases ty with⟨rfl,xs,hq⟩|⟨rfl,o,hk,hc,hd⟩|⟨rfl,hk⟩|⟨rfl,S,n,hk⟩
  ·obtain⟨its,_,pl,_⟩:=I.list hq
   refine⟨pl.isList.typeIs,λ a e=>?_⟩
   cases e
   obtain⟨o,n,e,c,hd,_⟩:=pl
   exact⟨o,e,hd⟩
  ·refine⟨⟨o,I.mz p o hk,hc⟩,λ a e=>?_⟩
   cases e
   exact⟨o,I.mz _ o hk,hd⟩
  ·have z:∃ o,s.heap.get? p=À o/\o.ExactDict:=by
    rcases hk with⟨kvs,hk⟩|⟨kvs,hk⟩
    ·obtain⟨_,_,_,_,o,_,_,e,ex,_⟩:=I.ļ p _ hk
     exact⟨o,e,ex⟩
    ·obtain⟨_,_,_,_,o,_,_,e,ex,_⟩:=I.ļ p _ hk
     exact⟨o,e,ex⟩
   obtain⟨o,e,ex⟩:=z
   refine⟨⟨o,e,ex.1⟩,λ a e2=>?_⟩
   cases e2
   exact⟨o,e,ex.2.1⟩
  ·obtain⟨o,_,_,_,e,ex,_⟩:=I.ļ p _ hk
   refine⟨⟨o,e,ex.1⟩,λ a e2=>?_⟩
   cases e2
   exact⟨o,e,ex.2.1⟩
 | _=>exact ao ty
def aak (K:É)(T:String)(r:V->Á V->Hp->VK->Prop)(to:TE):TE:=λ σ H Q=>to σ H λ x H1=>X9 K T x H1/\r x [] H1 Q
def tBM (K:É)(T:String)(r:V->Á V->Hp->VK->Prop)(to:TE)(t:TA):TE:=λ σ H Q=>to σ H λ x H1=>X9 K T x H1/\t σ H1 λ xs H2=>r x xs H2 Q
variable {o e:ń}{es:Á ń}{to:TE}{t:TA}{name:Str}{bR aw:mT}{T id:String}{r:V->Á V->Hp->VK->Prop}
theorem Dj (pa:qm T)(slot:Slot T name id)(Ir:LN (.builtin id)=pure (.type "method_descriptor")) (hm:Fy X id r)(ho:PE X o to)
  (jL:Ŧ o name X.env (Ć o X.env)=Ć o X.env:=by rfl) (jM:(bR.endLine == aw.line)=true:=by rfl):PE X (.Call (.Attribute o name bR) [] [] aw) (aak X.K T r to):=by
 intro Ä s σ H Q I h
 refine wpAny_Call_method0_late jL jM (af (ho Ä s σ H _ I h) λ v s1 zz=>?_)
 obtain⟨x,H1,I1,r1,ty,q1⟩:=zz
 obtain⟨h1,h2⟩:=DI I1 r1 ty
 exact⟨T,id,pa,slot,Ir,h1,h2,gq rfl (PySem.evalArgs_none (hm Ä s1 σ H1 x [] v [] Q I1 r1 .nil q1))⟩
theorem Wg (pa:qm T)(slot:Slot T name id)(Ir:LN (.builtin id)=pure (.type "method_descriptor")) (hm:Fy X id r)(ho:PE X o to)(ha:PA X (e :: es) t)
  (jL:Ŧ o name X.env (Ć o X.env)=Ć o X.env:=by rfl)
  (CQ:((Ĕ aw (Ì (e :: es) X.env)).all (λ x=>!x.1) && (gu aw (bG [] X.env)).all (λ x=>x.1.isSome)
   && decide ((e :: es).length+([]:Á iV).length+(if ([]:Á iV).isEmpty then 0 else 1) < 30))=true:=by rfl)
  (jM:(bR.endLine == aw.line)=true:=by rfl) (hs:Ì (e :: es) X.env=(false,Ć e X.env) :: Ì es X.env:=by rfl) (pM:(Ĕ aw (Ì es X.env)).any (·.1)=false:=by rfl) :
  PE X (.Call (.Attribute o name bR) (e :: es) [] aw) (tBM X.K T r to t):=by
 intro Ä s σ H Q I h
 refine wpAny_Call_method_late jL CQ jM rfl (af (ho Ä s σ H _ I h) λ v s1 zz=>?_)
 obtain⟨x,H1,I1,r1,ty,q1⟩:=zz
 obtain⟨h1,h2⟩:=DI I1 r1 ty
 refine⟨T,id,pa,slot,Ir,h1,h2,?_⟩
 have hA:=ha aw Ä s1 σ H1 _ I1 q1
 rw[hs]at hA ⊢
 refine gq (by show(false || (Ĕ aw (Ì es X.env)).any (·.1))=false;rw[pM]<;>rfl) (pf ?_)
 exact af hA λ us s2 zz=>jA zz λ vs H2 I2 r2 q2=>hm Ä s2 σ H2 x vs v us Q I2 r1 r2 q2
end
def YC (X:Cx)(id:String)(r:V->Á V->Hp->VK->Prop):Prop:=
 ∀ (Ä:Á (Addr × Obj)) (s:Ò) (σ:St) (H:Hp) (x:V) (xs:Á V) (v:Value) (us:Á Value) (Q:VK),Inv X Ä σ H s->RelV x v->Vals xs us->r x xs H Q->
  Ù (Ý X.prog X.w) X.A (call (.builtin id) (v :: us)) (EP X Ä σ Q) X.xe s
theorem Vals.one:∀ {x:V}{us:Á Value},Vals [x] us->∃ u,us=[u]/\RelV x u
 | _,_,.cons r .nil=>⟨_,rfl,r⟩
theorem Vals.zero:∀ {us:Á Value},Vals [] us->us=[]
 | _,.nil=>rfl
theorem Vals.eraseIdx:∀ {xs:Á V}{us:Á Value}(i:Nat),Vals xs us->Vals (xs.eraseIdx i) (us.eraseIdx i)
 | _,_,_,.nil=>.nil
 | _,_,0,.cons _ t=>t
 | _,_,i+1,.cons r t=>.cons r (Vals.eraseIdx i t)
theorem Vals.reverse (h:Vals xs us):Vals xs.reverse us.reverse:=by
 induction h with
 | nil=>exact .nil
 | cons r t ih=>rw[l6,l6];exact Vals.append ih (.cons r .nil)
theorem yl:∀ (l:Á α)(i:Nat),(l.eraseIdx i).length<=l.length
 | [],_=>Ï _
 | _ :: _,0=>mK _
 | _ :: r,i+1=>Pe (yl r i)
section
variable {X:Cx}{Ä:Á (Addr × Obj)}{σ:St}{H:Hp}{s:Ò}{l b:Addr}{xs ys zs:Á V}
theorem Inv.Qy {its its':Á Value}{n:Nat}{f:Ğ Value->Ğ Value}{t':Nat}(I:Inv X Ä σ H s)(hH:H l=À (.lst xs))
  (e:s.heap.get? l=À { cls:=.type "list",data:=.seq its.toArray n }) (hf:f its.toArray=its'.toArray) (hv:Vals ys its') (hz:ys.length<=sizeLine) :
  Inv X Ä σ (upd H l (.lst ys)) { s with heap:=s.heap.update l (ň f),toks:=t' }:=by
 have q:=PySem.IsL.update e f
 rw[hf]at q
 refine I.write (x:=l) (e:=l) (by rw[hH];exact trivial) (.inl rfl) (λ b' u hb hu=>(ý s.heap (ň f) (Ŝ hb)).trans hu) ⟨_,q⟩ ?_
 exact⟨hz,its',_,hv,q⟩
theorem Inv.Qw (I:Inv X Ä σ H s)(hv:Vals ys its)(hz:ys.length<=sizeLine) :
  Inv X Ä σ (upd H s.heap.objs.size (.lst ys)) { s with heap:=s.heap.push { cls:=.type "list",data:=.seq its.toArray },toks:=t' }:=
 I.laid (λ _ _ q=>Ã _ q) (Ï _) ⟨hz,its,0,hv,Ø _ rfl⟩
theorem Inv.fresh (I:Inv X Ä σ H s):H s.heap.objs.size=none:=I.ļ.fresh (Ï _)
theorem Inv.F_ (I:Inv X Ä σ H s)(hH:H l=À (.lst xs)):xs.length<=sizeLine/\∃ (its:Á Value) (n:Nat),Vals xs its/\xs.length=its.length/\s.heap.get? l=À { cls:=.type "list",data:=.seq its.toArray n }:=by
 obtain⟨z,its,n,r,e⟩:=I.ļ l _ hH
 exact⟨z,its,n,r,r.length,e⟩
end
section
variable {X:Cx}
def NW:V->Á V->Hp->VK->Prop:=λ x vs H Q=>∃ l xs y,x=.ref l/\vs=[y]/\H l=À (.lst xs)/\xs.length < sizeLine/\Q .Ē (upd H l (.lst (xs++[y])))
theorem yq:YC X "list.append" NW:=by
 intro Ä s σ H x vs v us Q I rx rv h
 obtain⟨l,xs,y,rfl,rfl,hH,hz,q⟩:=h
 cases rx
 obtain⟨u,rfl,ru⟩:=rv.one
 obtain⟨z,its,n,r,hl,e⟩:=I.F_ hH
 refine Fo F.slot_list_append ⟨_,e,rfl⟩ F.entry_list_append (F.args_list_append_2 _ _) (PySem.list_append l its.toArray n u (by rw[Ú];lia)) ⟨e,?_⟩
 refine⟨.Ē,_,I.Qy (its':=its++[u]) hH e (by simp) (r.append (.cons ru .nil)) ?_,rfl,q⟩
 rw[þ,Ff]
 lia
def RU:V->Á V->Hp->VK->Prop:=λ x vs H Q=>∃ l xs i k y,x=.ref l/\vs=[.int i]/\H l=À (.lst xs)/\-(2 ^ 63)<=i/\i < 2 ^ 63/\Le i xs.length=À k/\xs[k]? = À y/\Q y (upd H l (.lst (xs.eraseIdx k)))
theorem Ji:YC X "list.pop" RU:=by
 intro Ä s σ H x vs v us Q I rx rv h
 obtain⟨l,xs,i,k,y,rfl,rfl,hH,h1,h2,hk,hy,q⟩:=h
 cases rx
 obtain⟨u,rfl,ru⟩:=rv.one
 obtain⟨t,rfl⟩:=ru
 obtain⟨z,its,n,r,hl,e⟩:=I.F_ hH
 obtain⟨w,hw,xD⟩:=r.get hy
 refine Fo F.slot_list_pop ⟨_,e,rfl⟩ F.entry_list_pop (F.args_list_pop_2 _ _)
  (MeetsSeq.list_pop_at l its.toArray n i t k w (fitsIndex_both h1 h2) (by rw[Ú,<-hl];exact hk) (by rw[<-ś];exact hw) (by rw[Ú];lia)) ⟨e,?_⟩
 refine⟨y,_,I.Qy (its':=its.eraseIdx k) hH e ?_ (r.eraseIdx k) ?_,xD,q⟩
 ·show its.toArray.eraseIdxIfInBounds k=(its.eraseIdx k).toArray
  rw[List.eraseIdxIfInBounds_toArray]
 ·have:=yl xs k
  lia
def J':V->Á V->Hp->VK->Prop:=λ x vs H Q=>∃ l xs,x=.ref l/\vs=[]/\H l=À (.lst xs)/\Q .Ē (upd H l (.lst xs.reverse))
theorem C4:YC X "list.reverse" J':=by
 intro Ä s σ H x vs v us Q I rx rv h
 obtain⟨l,xs,rfl,rfl,hH,q⟩:=h
 cases rx
 have hus:=rv.zero
 subst hus
 obtain⟨z,its,n,r,hl,e⟩:=I.F_ hH
 refine Fo F.slot_list_reverse ⟨_,e,rfl⟩ F.entry_list_reverse (F.args_list_reverse_1 _) (AutoSeq1.list_reverse_list_0 l its.toArray n (by rw[Ú];lia)) ⟨e,?_⟩
 refine⟨.Ē,_,I.Qy (its':=its.reverse) hH e (by simp) r.reverse ?_,rfl,q⟩
 rw[rJ]
 lia
def Z9:R2:=λ x y H Q=>∃ l b xs zs,x=.ref l/\y=.ref b/\H l=À (.lst xs)/\H b=À (.lst zs)/\xs.length+zs.length<=sizeLine/\∀ p,H p=none->Q (.ref p) (upd H p (.lst (xs++zs)))
theorem Rj:kI X (bO .Add) Z9:=by
 intro Ä s σ H x y v u Q I rx ry h
 obtain⟨l,b,xs,zs,rfl,rfl,hH,hB,hz,q⟩:=h
 cases rx
 cases ry
 obtain⟨z,its,n,r,hl,e⟩:=I.F_ hH
 obtain⟨z2,eV,n2,r2,vK,e2⟩:=I.F_ hB
 refine PySem.P.add_list e e2 ?_ (by rw[Ú,Ú];lia)
 have ea:its.toArray++eV.toArray=(its++eV).toArray:=by simp
 rw[ea]
 exact⟨.ref _,_,I.Qw (t':=s.toks) (r.append r2) (by rw[þ];lia),rfl,q _ I.fresh⟩
end
section
variable {prog:Ą}{w:ğ}{A:į}{E:Value->Ò->Prop}{s:Ò}
end
section
variable {X:Cx}
end
section
variable {κ:Type} [n9 κ]
def gP (kvs:Á (κ × V)) (k:κ):Ë V:=(kvs.find? λ kv=>decide (kv.1=k)).map (·.2)
def putK (kvs:Á (κ × V)) (k:κ)(v:V):Á (κ × V):=
 if (kvs.any λ kv=>decide (kv.1=k))=true then kvs.map (λ kv=>if kv.1=k then (kv.1,v) else kv) else kvs++[(k,v)]
theorem lP {p:κ × V}{r:Á (κ × V)}{k:κ}(e:p.1=k):gP (p :: r) k=À p.2:=by simp[gP,c_,e]
theorem lO {p:κ × V}{r:Á (κ × V)}{k:κ}(e:¬ p.1=k):gP (p :: r) k=gP r k:=by simp[gP,c_,e]
theorem BX (k:κ):∀ kvs:Á (κ × V),(kvs.any λ kv=>decide (kv.1=k))=(gP kvs k).isSome
 | []=>rfl
 | p :: r=>by
  rw[ax]
  by_cases e:p.1=k
  ·simp only[lP e,Ī e,Bool.true_or,GV]
  ·rw[lO e,ÿ e,B1];exact BX k r
theorem nO (kvs:Á (κ × V)) (k:κ)(v:V):(putK kvs k v).length<=kvs.length+1:=by
 unfold putK
 split
 ·rw[Õ];lia
 ·rw[þ,č,aO];lia
theorem m4.lH (r:m4 o u):o.isSome=u.isSome:=by
 cases o with
 | none=>cases u with
  | none=>rfl
  | some _=>exact(show False from r).elim
 | some _=>cases u with
  | none=>exact(show False from r).elim
  | some _=>rfl
theorem m4.getD (r:m4 o u)(rd:RelV d d'):RelV (o.getD d) (u.getD d'):=by
 cases o with
 | none=>cases u with
  | none=>exact rd
  | some _=>exact(show False from r).elim
 | some _=>cases u with
  | none=>exact(show False from r).elim
  | some _=>exact r
theorem KV.val {kvs:Á (κ × V)}{vs:Á (κ × Value)}(r:KV kvs vs)(k:κ):m4 (gP kvs k) (y9 vs k):=by
 unfold KV at r
 induction r with
 | nil=>exact bq
 | @cons p q ps qs h t ih=>
  obtain⟨h1,h2⟩:=h
  by_cases e:p.1=k
  ·have e':q.1=k:=h1.symm.trans e
   have b:y9 (q :: qs) k=À q.2:=by simp[y9,c_,e']
   rw[lP e,b];exact h2
  ·have e':¬ q.1=k:=λ z=>e (h1.trans z)
   have b:y9 (q :: qs) k=y9 qs k:=by simp[y9,c_,e']
   rw[lO e,b];exact ih
theorem KV.any (r:KV kvs vs)(k:κ):(kvs.any λ kv=>decide (kv.1=k))=vs.any λ kv=>decide (kv.1=k):=by
 unfold KV at r
 induction r with
 | nil=>rfl
 | cons h t ih=>rw[ax,ax,ih,h.1]
theorem KV.R0 (r:KV kvs vs)(k:κ)(ry:RelV y u) :
  KV (kvs.map λ kv=>if kv.1=k then (kv.1,y) else kv) (vs.map λ kv=>if kv.1=k then (kv.1,u) else kv):=by
 unfold KV at r ⊢
 induction r with
 | nil=>exact .nil
 | @cons p q ps qs h t ih=>
  rw[Ó,Ó]
  refine .cons ?_ ih
  obtain⟨h1,h2⟩:=h
  by_cases e:p.1=k
  ·rw[Ñ e,Ñ (h1.symm.trans e)];exact⟨h1,ry⟩
  ·rw[Ö e,Ö (λ z=>e (h1.trans z))];exact⟨h1,h2⟩
theorem KV.put (r:KV kvs vs)(k:κ)(ry:RelV y u):KV (putK kvs k y) (stored vs k u):=by
 unfold putK stored
 rw[r.any k]
 by_cases e:(vs.any λ kv=>decide (kv.1=k))=true
 ·rw[Ñ e,Ñ e];exact r.R0 k ry
 ·rw[Ö e,Ö e];exact Te r ⟨rfl,ry⟩
theorem KV.length (r:KV kvs vs):kvs.length=vs.length:=qk r
end
theorem tY (r:RelV (kV k) u):(Ţ P w).is k u=true:=by
 cases k with
 | inl i=>obtain⟨t,e⟩:=(show ∃ t,u=vg i t from r);subst e;exact ua P w i t
 | inr x=>obtain⟨t,e⟩:=(show ∃ t,u=vh x t from r);subst e;exact ub P w x t
theorem yd:∀ {ks:Á Key}{us:Á Value},Vals (ks.map kV) us->ItemsAre (Ţ P w) ks us
 | [],_,r=>by rw[bT]at r;cases r;exact .nil
 | k :: ks,_,r=>by
  rw[Ó]at r
  cases r with
  | cons h t=>exact .cons (tY h) (yd t)
abbrev KT (H:Hp):Á (Á Key × V)->Á (Á Key × Addr × Value)->Prop:=Paired λ p q=>p.1=q.1/\H q.2.1=À (.tup (p.1.map kV))/\RelV p.2 q.2.2
theorem KT.val {H:Hp}{kvs:Á (Á Key × V)}{xs:Á (Á Key × Addr × Value)}(r:KT H kvs xs)(k:Á Key):m4 (gP kvs k) ((Fm xs k).map (·.2)):=by
 induction r with
 | nil=>exact bq
 | @cons p q ps qs h t ih=>
  obtain⟨h1,_,h2⟩:=h
  by_cases e:p.1=k
  ·have e':q.1=k:=h1.symm.trans e
   have b:Fm (q :: qs) k=À q.2:=by simp[Fm,c_,e']
   rw[lP e,b];exact h2
  ·have e':¬ q.1=k:=λ z=>e (h1.trans z)
   have b:Fm (q :: qs) k=Fm qs k:=by simp[Fm,c_,e']
   rw[lO e,b];exact ih
theorem KT.R0 (r:KT H kvs xs)(k:Á Key)(ry:RelV y u) :
  KT H (kvs.map λ kv=>if kv.1=k then (kv.1,y) else kv) (xs.map (putAt k u)):=by
 induction r with
 | nil=>exact .nil
 | @cons p q ps qs h t ih=>
  rw[Ó,Ó]
  refine .cons ?_ ih
  obtain⟨h1,h2,h3⟩:=h
  unfold putAt
  by_cases e:p.1=k
  ·rw[Ñ e,Ñ (h1.symm.trans e)];exact⟨h1,h2,ry⟩
  ·rw[Ö e,Ö (λ z=>e (h1.trans z))];exact⟨h1,h2,h3⟩
theorem KT.put (r:KT H kvs xs)(k:Á Key)(hb:H b=À (.tup (k.map kV))) (ry:RelV y u) :
  KT H (putK kvs k y) (storedH xs k b u):=by
 have e:(kvs.any λ kv=>decide (kv.1=k))=(Fm xs k).isSome:=by
  rw[BX,(r.val k).lH,tm]
 unfold putK storedH
 rw[e]
 by_cases q:(Fm xs k).isSome=true
 ·rw[Ñ q,Ñ q];exact r.R0 k ry
 ·rw[Ö q,Ö q];exact Te r ⟨rfl,hb,ry⟩
theorem KT.keeps (r:KT H kvs xs)(ht:∀ b ys,H b=À (.tup ys)->H' b=À (.tup ys)):KT H' kvs xs:=
 Paired.QA r λ _ _ z=>⟨z.1,ht _ _ z.2.1,z.2.2⟩
section
variable {P:Ą}{w:ğ}{H:Hp}{h:Heap}{a:Addr}
theorem O_ (ok:m3 P w H h)(e:Rd H a u):Ũ P w H h a u:=e.ok ok
theorem tM (ok:m3 P w H h)(e:Rd H a (.dK kvs)):kvs.length<=sizeLine/\(a == cI)=false/\∃ vs,KV kvs vs/\h.DictOf (Ţ P w) a vs:=
 show Ũ P w H h a (.dK kvs) from O_ ok e
theorem Ba (ok:m3 P w H h)(e:H a=À (.dK kvs)):kvs.length<=sizeLine/\(a == cI)=false/\∃ vs,KV kvs vs/\h.DictOf (Ţ P w) a vs:=tM ok (.inl e)
theorem pN (ok:m3 P w H h)(e:H a=À (.tup (ks.map kV))):(pC (Ţ P w)).is h ks a:=by
 obtain⟨_,its,r,o,h1,h2,n,h3⟩:=(show Ũ P w H h a (.tup (ks.map kV)) from ok a _ e)
 exact⟨o,its.toArray,n,h1,h2,h3,by simpa using yd r⟩
theorem tR (ok:m3 P w H h)(e:Rd H a (.dT kvs)):kvs.length<=sizeLine/\(a == cI)=false/\
  ∃ xs,KT H kvs xs/\h.DictOfH (pC (Ţ P w)) a xs:=by
 obtain⟨z,y,xs,r,o,es,ep,h1,h2,h3,h4,h5⟩:=(show Ũ P w H h a (.dT kvs) from O_ ok e)
 refine⟨z,y,xs,r,o,es,ep,h1,h2,h3,h4,λ x hx=>?_,h5⟩
 have all:∀ {l:Á (Á Key × V)}{m:Á (Á Key × Addr × Value)},KT H l m->∀ x∈m,(pC (Ţ P w)).is h x.1 x.2.1:=by
  intro l m q
  induction q with
  | nil=>intro x hx;exact nomatch hx
  | @cons p q ps qs hq t ih=>
   intro x hx
   rcases Þ.mp hx with e|hx
   ·subst e
    exact pN ok (by rw[<-hq.1];exact hq.2.1)
   ·exact ih x hx
 exact all r x hx
theorem UD (ok:m3 P w H h)(e:H a=À (.dT kvs)):kvs.length<=sizeLine/\(a == cI)=false/\
  ∃ xs,KT H kvs xs/\h.DictOfH (pC (Ţ P w)) a xs:=tR ok (.inl e)
end
def j9 (H:Hp)(a:Addr)(y:V)(r:Ë V):Prop:=
 (∃ kvs k,Rd H a (.dK kvs)/\y=kV k/\r=gP kvs k)∨∃ kvs k b,Rd H a (.dT kvs)/\y=.ref b/\H b=À (.tup (k.map kV))/\r=gP kvs k
def xj (H:Hp)(a:Addr)(y v:V)(H':Hp):Prop:=
 (∃ kvs k,H a=À (.dK kvs)/\y=kV k/\kvs.length < sizeLine/\H'=upd H a (.dK (putK kvs k v)))∨
 ∃ kvs k b,H a=À (.dT kvs)/\y=.ref b/\H b=À (.tup (k.map kV))/\kvs.length < sizeLine/\H'=upd H a (.dT (putK kvs k v))
theorem j9.k {H:Hp}{a:Addr}{kvs:Á (Key × V)}{k:Key}(e:H a=À (.dK kvs)):j9 H a (kV k) (gP kvs k):=.inl ⟨kvs,k,.inl e,rfl,rfl⟩
theorem j9.t {H:Hp}{a b:Addr}{kvs:Á (Á Key × V)}{k:Á Key}(e:H a=À (.dT kvs)) (eb:H b=À (.tup (k.map kV))):j9 H a (.ref b) (gP kvs k):=.inr ⟨kvs,k,b,.inl e,rfl,eb,rfl⟩
theorem xj.k {H:Hp}{a:Addr}{kvs:Á (Key × V)}{k:Key}{v:V}(e:H a=À (.dK kvs)) (hl:kvs.length < sizeLine):xj H a (kV k) v (upd H a (.dK (putK kvs k v))):=.inl ⟨kvs,k,e,rfl,hl,rfl⟩
theorem xj.t {H:Hp}{a b:Addr}{kvs:Á (Á Key × V)}{k:Á Key}{v:V}(e:H a=À (.dT kvs)) (eb:H b=À (.tup (k.map kV))) (hl:kvs.length < sizeLine) :
  xj H a (.ref b) v (upd H a (.dT (putK kvs k v))):=.inr ⟨kvs,k,b,e,rfl,eb,hl,rfl⟩
section
variable {X:Cx}{Ä:Á (Addr × Obj)}{σ:St}{H:Hp}{s:Ò}{a:Addr}{y v:V}{u r:Value}{o:Ë V}{A:į}{E:Value->Ò->Prop}
theorem Inv.big (I:Inv X Ä σ H s):cI < s.heap.objs.size:=by
 have h:mainGlobals < s.heap.objs.size:=(I.mod.glob.keeps I.bk).lt
 exact Yi (by decide) h
theorem FI (hu:A.units+1 < cLine)(I:Inv X Ä σ H s)(g:j9 H a y (À v)) (ry:RelV y u)(h:∀ w' s',Inv X Ä σ H s'->RelV v w'->Q w' s') :
  Ù (Ý X.prog X.w) A (n_ (.ref a) u) Q E s:=by
 rcases g with⟨kvs,k,e,ey,l⟩|⟨kvs,k,b,e,ey,eb,l⟩
 ·subst ey
  obtain⟨z,hd,vs,rel,dd⟩:=tM I.ļ e
  obtain⟨w',hw,xD⟩:=m4.some_of (v:=v) (o:=y9 vs k) (by rw[l];exact rel.val k)
  exact wpAny_getItem_of (tY ry) dd.mapOf hw (h w' _ (I.tok _) xD)
 ·subst ey
  cases (show u=Î b from ry)
  obtain⟨z,hd,xs,rel,dd⟩:=tR I.ļ e
  obtain⟨w',hw,xD⟩:=m4.some_of (v:=v) (o:=(Fm xs k).map (·.2)) (by rw[l];exact rel.val k)
  obtain⟨p,hp,hp2⟩:=Option.map_eq_some_iff.mp hw
  refine wpAny_getItem_heap (dF hu) (pN I.ļ eb) dd hp ?_
  rw[hp2]
  exact h w' _ (I.tok _) xD
theorem YT (hu:A.units+1 < cLine)(I:Inv X Ä σ H s)(g:j9 H a y o)(ry:RelV y u)(h:∀ s',Inv X Ä σ H s'->Q (.bool o.isSome) s') :
  Ù (Ý X.prog X.w) A (Į .In u (.ref a)) Q E s:=by
 rcases g with⟨kvs,k,e,ey,l⟩|⟨kvs,k,b,e,ey,eb,l⟩
 ·subst ey
  obtain⟨z,hd,vs,rel,dd⟩:=tM I.ļ e
  refine wpAny_in_of (tY ry) hd dd.mapOf ?_
  rw[<-(rel.val k).lH,<-l]
  exact h _ (I.tok _)
 ·subst ey
  cases (show u=Î b from ry)
  obtain⟨z,hd,xs,rel,dd⟩:=tR I.ļ e
  refine wpAny_in_heap (dF hu) (pN I.ļ eb) hd dd ?_
  have q:=(rel.val k).lH
  rw[tm]at q
  rw[<-q,<-l]
  exact h _ (I.tok _)
theorem L9 (hu:A.units+1 < cLine)(I:Inv X Ä σ H s)(g:j9 H a y o)(ry:RelV y u)(h:∀ s',Inv X Ä σ H s'->Q (.bool (!o.isSome)) s') :
  Ù (Ý X.prog X.w) A (Į .NotIn u (.ref a)) Q E s:=by
 rcases g with⟨kvs,k,e,ey,l⟩|⟨kvs,k,b,e,ey,eb,l⟩
 ·subst ey
  obtain⟨z,hd,vs,rel,dd⟩:=tM I.ļ e
  refine wpAny_notIn_of (tY ry) hd dd.mapOf ?_
  rw[<-(rel.val k).lH,<-l]
  exact h _ (I.tok _)
 ·subst ey
  cases (show u=Î b from ry)
  obtain⟨z,hd,xs,rel,dd⟩:=tR I.ļ e
  refine wpAny_notIn_heap (dF hu) (pN I.ļ eb) hd dd ?_
  have q:=(rel.val k).lH
  rw[tm]at q
  rw[<-q,<-l]
  exact h _ (I.tok _)
theorem zp (I:Inv X Ä σ H s)(mu:SS (H a)) (hs:eL a s.heap h')(he:∃ q,h'.get? a=À q)(new:Ũ X.prog X.w (upd H a ob) h' a ob) :
  Inv X Ä σ (upd H a ob) { s with heap:=h',toks:=t' }:=
 I.write (x:=a) (e:=a) mu (.inl rfl) (λ b q hb z=>(hs.2 b hb).trans z) he new
theorem HE (z:kvs.length<=sizeLine)(hd:(a == cI)=false) (rel:KV kvs vs)(dd:h'.DictOf (Ţ P w) a vs) :
  Ũ P w H' h' a (.dK kvs):=⟨z,hd,vs,rel,dd⟩
theorem xT (hu:A.units+1 < cLine)(I:Inv X Ä σ H s)(g:xj H a y v H')(ry:RelV y u)(rv:RelV v r)(h:∀ s',Inv X Ä σ H' s'->Q () s') :
  Ù (Ý X.prog X.w) A (LL (.ref a) u r) Q E s:=by
 rcases g with⟨kvs,k,e,ey,l,eH⟩|⟨kvs,k,b,e,ey,eb,l,eH⟩
 ·subst ey eH
  obtain⟨z,hd,vs,rel,dd⟩:=Ba I.ļ e
  have hz:vs.length<=sizeLine:=by rw[<-rel.length];exact z
  have hl:(putK kvs k v).length<=sizeLine:=by have:=nO kvs k v;lia
  refine wpAny_setItem_pairs (hsz:=hz) (tY ry) dd λ h' OM hs=>h _ ?_
  have he:∃ q,h'.get? a=À q:=let ⟨q,_,_,hq,_⟩:=OM;⟨q,hq⟩
  exact zp I (by rw[e];exact bq) hs he (HE hl hd (rel.put k rv) OM)
 ·subst ey eH
  cases (show u=Î b from ry)
  obtain⟨z,hd,xs,rel,dd⟩:=UD I.ļ e
  have hz:xs.length<=sizeLine:=by rw[<-qk rel];exact z
  have hl:(putK kvs k v).length<=sizeLine:=by have:=nO kvs k v;lia
  refine wpAny_setItem_heap (hsz:=hz) (dF hu) (pN I.ļ eb) dd λ h' OM hs=>h _ ?_
  obtain⟨q,es,ep,hq,h2,h3,h4,_,h5⟩:=OM
  refine zp I (by rw[e];exact bq) hs ⟨q,hq⟩ ⟨hl,hd,_,(rel.put k eb rv).keeps λ c ys ec=>?_,q,es,ep,hq,h2,h3,h4,h5⟩
  rw[ã (vY ec e (λ z=>nomatch z))]
  exact ec
end
section
variable {X:Cx}{Ä:Á (Addr × Obj)}{σ:St}{H:Hp}{s:Ò}{a:Addr}{kvs:Á (Key × V)}{k:Key}{u:Value}{A:į}{E:Value->Ò->Prop}
end
def Pp (i:ń):Prop:=∀ ov iv,Cc i false ov iv=operate [ov,iv] (n_ ov iv)
theorem Oe {prog:Ą}{w:ğ}{A:į}{E:Value->Ò->Prop}{s:Ò}{env:AF}{value slice:ń}{pos:mT}{T id:String}{Q:Value->Ò->Prop}
  (hl:typeLookup (.type T) "__getitem__"=pure (À (.builtin id))) (hs:Pp slice)
  (h:Ù (Ý prog w) A (Ć value env) (λ o s₁=>Ù (Ý prog w) A (Ć slice env) (λ i s₂=>s₂.TypeIs o T/\Ù (Ý prog w) A (n_ o i) Q E s₂) E s₁) E s) :
  Ù (Ý prog w) A (Ć (.Subscript value slice pos) env) Q E s:=by
 refine Ti (aW h (λ o s₁ h₁=>aW h₁ (λ i s₂ h₂=>?_) λ _ _ x=>x) λ _ _ x=>x)
 obtain⟨hT,h₂⟩:=h₂
 unfold G8
 refine Â ?_
 rw[getitemInPython_of_ne hT.not_modules]
 refine Â (wpAny_specialOf hT hl ?_)
 have fin:Ù (Ý prog w) A (Cc slice false o i) (λ r s₃=>Ù (Ý prog w) A (letTemporaryGo value o r >>= λ _=>pure r) Q E s₃) E s₂:=by
  rw[hs o i]
  exact wpAny_operating (aW h₂ (λ r s₃ h₃=>Â (wpAny_letTemporaryGo (Í h₃))) λ _ _ x=>x)
 first
  | exact Í (Â fin)
  | exact Â (Í (Â fin))
  | exact Â fin
theorem A9 (I:Inv X Ä σ H s)(g:j9 H a y o):s.TypeIs (.ref a) "dict":=by
 rcases g with⟨kvs,k,e,_,_⟩|⟨kvs,k,b,e,_,_,_⟩
 ·obtain⟨_,_,vs,_,dd⟩:=tM I.ļ e
  exact dd.typeIs
 ·obtain⟨_,_,xs,_,dd⟩:=tR I.ļ e
  exact dd.typeIs
def WK (td ty:TE):TE:=λ σ H Q=>td σ H λ x H1=>ty σ H1 λ y H2=>∃ a v,x=.ref a/\j9 H2 a y (À v)/\Q v H2
def aal (ty td:TE):TE:=λ σ H Q=>ty σ H λ y H1=>td σ H1 λ x H2=>∃ a o,x=.ref a/\j9 H2 a y o/\Q (.bl o.isSome) H2
def Oh (ty td:TE):TE:=λ σ H Q=>ty σ H λ y H1=>td σ H1 λ x H2=>∃ a o,x=.ref a/\j9 H2 a y o/\Q (.bl (!o.isSome)) H2
def Wz (td ty tv:TE):TS:=λ D σ H=>tv σ H λ v H1=>td σ H1 λ x H2=>ty σ H2 λ y H3=>∃ a H4,x=.ref a/\xj H3 a y v H4/\D.nx σ H4
section
variable {X:Cx}{o i e value:ń}{pos pos' DF:mT}{td ty tv:TE}
theorem Nz (hu:X.A.units+1 < cLine)(ho:PE X o td)(hi:PE X i ty)(hs:Pp i):PE X (.Subscript o i pos) (WK td ty):=by
 intro Ä s σ H Q I h
 refine Oe PySem.F.slot_dict_getitem.lookup hs (af (ho Ä s σ H _ I h) λ u s1 zz=>jA zz λ x H1 I1 rx q1=>af (hi Ä s1 σ H1 _ I1 q1) λ iv s2 ⟨y,H2,I2,ry,a,v,ex,g,q2⟩=>?_)
 subst ex
 obtain rfl:u=Î a:=rx
 exact⟨A9 I2 g,FI hu I2 g ry λ w' s3 I3 xD=>⟨v,H2,I3,xD,q2⟩⟩
theorem Di (hu:X.A.units+1 < cLine)(hi:PE X i ty)(ho:PE X o td):PC X .In i o (aal ty td):=by
 intro Ä s σ H Q I h
 refine af (hi Ä s σ H _ I h) λ iv s1 zz=>jA zz λ y H1 I1 ry q1=>af (ho Ä s1 σ H1 _ I1 q1) λ u s2 ⟨x,H2,I2,rx,a,ov,ex,g,q2⟩=>?_
 subst ex
 obtain rfl:u=Î a:=rx
 exact YT hu I2 g ry λ s3 I3=>⟨.bl ov.isSome,H2,I3,rfl,q2⟩
theorem Gp (hu:X.A.units+1 < cLine)(hi:PE X i ty)(ho:PE X o td):PC X .NotIn i o (Oh ty td):=by
 intro Ä s σ H Q I h
 refine af (hi Ä s σ H _ I h) λ iv s1 zz=>jA zz λ y H1 I1 ry q1=>af (ho Ä s1 σ H1 _ I1 q1) λ u s2 ⟨x,H2,I2,rx,a,ov,ex,g,q2⟩=>?_
 subst ex
 obtain rfl:u=Î a:=rx
 exact L9 hu I2 g ry λ s3 I3=>⟨.bl (!ov.isSome),H2,I3,rfl,q2⟩
theorem EY (hu:X.A.units+1 < cLine)(ho:PE X o td)(hi:PE X i ty)(hv:PE X value tv)(hs:eB value (À (.Subscript o i pos')) pos.line X.env=pure false) :
  PS X (.Assign [.Subscript o i pos'] value pos) (Wz td ty tv):=by
 intro Ä s σ H D I h
 refine wpAny_Assign_Subscript (af (hv Ä s σ H _ I h) λ r s1 zz=>jA zz λ v H1 I1 rv q1=>af (ho Ä s1 σ H1 _ I1 q1) λ u s2 zz=>jA zz λ x H2 I2 rx q2=>af (hi Ä s2 σ H2 _ I2 q2) λ iv s3 ⟨y,H3,I3,ry,a,H4,ex,g,q3⟩=>?_) hs
 subst ex
 obtain rfl:u=Î a:=rx
 exact xT hu I3 g ry rv λ s4 I4=>⟨σ,H4,I4,q3⟩
end
theorem A_ (h:Heap)(hb:cI < h.objs.size):Ũ P w H (h.push { cls:=.type "dict",data:=.dict #[] }) h.objs.size (.dK []):=
 ⟨ñ _,Ş.mpr (Ŝ (ç hb)),[],.nil,abl h⟩
theorem HG (h:Heap)(hb:cI < h.objs.size):Ũ P w H (h.push { cls:=.type "dict",data:=.dict #[] }) h.objs.size (.dT []):=
 ⟨ñ _,Ş.mpr (Ŝ (ç hb)),[],.nil,_,#[],0,Ø _ rfl,⟨rfl,rfl,rfl⟩,rfl,rfl,List.nodup_nil⟩
def Si:TE:=λ _ H Q=>∀ p,H p=none->Q (.ref p) (upd H p (.dK []))
def Sj:TE:=λ _ H Q=>∀ p,H p=none->Q (.ref p) (upd H p (.dT []))
section
variable {X:Cx}{pos:mT}
theorem JF:PE X (.Dict [] [] pos) Si:=λ Ä s σ H Q I h=>
 Yy ⟨.ref s.heap.objs.size,_,I.laid (a:=s.heap.objs.size) (o:=.dK []) (t':=s.toks) (λ _ _ q=>Ã _ q) (Ï _) (A_ s.heap I.big),rfl,h _ (I.ļ.fresh (Ï _))⟩
theorem JG:PE X (.Dict [] [] pos) Sj:=λ Ä s σ H Q I h=>
 Yy ⟨.ref s.heap.objs.size,_,I.laid (a:=s.heap.objs.size) (o:=.dT []) (t':=s.toks) (λ _ _ q=>Ã _ q) (Ï _) (HG s.heap I.big),rfl,h _ (I.ļ.fresh (Ï _))⟩
end
def Ae:Á (TE × TE)->St->Hp->(Á (V × V)->Hp->Prop)->Prop
 | [],_,H,Q=>Q [] H
 | (tk,tv) :: r,σ,H,Q=>tk σ H λ x H1=>tv σ H1 λ y H2=>Ae r σ H2 λ ps H3=>Q ((x,y) :: ps) H3
abbrev VV:Á (V × V)->Á (Value × Value)->Prop:=Paired λ p q=>RelV p.1 q.1/\RelV p.2 q.2
def OG (X:Cx)(pos:mT)(keys:Á (Ë ń)) (values:Á ń)(Sq:Á (TE × TE)):Prop:=
 ∀ (Ä:Á (Addr × Obj)) (s:Ò) (σ:St) (H:Hp) (Q:Á (V × V)->Hp->Prop),Inv X Ä σ H s->Ae Sq σ H Q->
  Ù (Ý X.prog X.w) X.A (evalPairs (pairTrees keys values X.env pos)) (λ vs s'=>∃ ps H',Inv X Ä σ H' s'/\VV ps vs/\Q ps H') X.xe s
theorem NN:OG X pos [] [] []:=λ Ä s σ H Q I h=>pairTrees_nil_walk ⟨[],H,I,.nil,h⟩
theorem JV (hk:PE X k tk)(hv:PE X v tv)(hr:OG X pos ks vs Sq) :
  OG X pos (À k :: ks) (v :: vs) ((tk,tv) :: Sq):=λ Ä s σ H Q I h=>
 pairTrees_cons_walk (af (hk Ä s σ H _ I h) λ u s1 zz=>jA zz λ x H1 I1 rx q1=>af (hv Ä s1 σ H1 _ I1 q1) λ w2 s2 zz=>jA zz λ y H2 I2 ry q2=>
  af (hr Ä s2 σ H2 _ I2 q2) λ ws s3 zz=>jA zz λ ps H3 I3 rel q3=>⟨(x,y) :: ps,H3,I3,.cons ⟨rx,ry⟩ rel,q3⟩)
def gM (kvs more:Á (Key × V)):Á (Key × V):=more.foldl (λ acc kv=>putK acc kv.1 kv.2) kvs
theorem KV.merge:∀ {more:Á (Key × V)}{rs:Á (Key × Value)}{kvs:Á (Key × V)}{vs:Á (Key × Value)},KV more rs->KV kvs vs->KV (gM kvs more) (merged vs rs):=by
 intro more rs kvs vs r
 unfold KV at r
 induction r generalizing kvs vs with
 | nil=>intro q;exact q
 | @cons p q ps qs h t ih=>
  intro r0
  have e:KV (putK kvs p.1 p.2) (stored vs q.1 q.2):=by
   have:=r0.put p.1 h.2
   rw[<-h.1];exact this
  exact ih e
theorem o8:∀ (more kvs:Á (Key × V)),(gM kvs more).length<=kvs.length+more.length
 | [],kvs=>by show kvs.length<=kvs.length+0;lia
 | p :: r,kvs=>by
  have h1:=o8 r (putK kvs p.1 p.2)
  have h2:=nO kvs p.1 p.2
  show(gM (putK kvs p.1 p.2) r).length<=_
  rw[č];lia
theorem vn:∀ {kvs:Á (Key × V)}{ws:Á (Value × Value)},VV (kvs.map λ kv=>(kV kv.1,kv.2)) ws->∃ rs,Carries (Ţ P w) ws rs/\KV kvs rs
 | [],_,r=>by rw[bT]at r;cases r;exact⟨[],bq,.nil⟩
 | p :: kvs,_,r=>by
  rw[Ó]at r
  cases r with
  | @cons a b as bs h t=>
   obtain⟨rs,c,q⟩:=vn (P:=P) (w:=w) t
   obtain⟨b1,b2⟩:=b
   exact⟨(p.1,b2) :: rs,⟨tY h.1,rfl,c⟩,.cons ⟨rfl,h.2⟩ q⟩
def WL (Sq:Á (TE × TE)):TE:=λ σ H Q=>∀ p,H p=none->Ae Sq σ (upd H p (.dK [])) λ ps H2=>H2 p=À (.dK [])/\∃ kvs:Á (Key × V),ps=kvs.map (λ kv=>(kV kv.1,kv.2))/\kvs.length<=15/\Q (.ref p) (upd H2 p (.dK (gM [] kvs)))
theorem NA (h:OG X pos keys values Sq)(Ii:keys.all (·.isSome)=true) (hl:keys.length=values.length)(h0:keys≠[])
  (SX:keys.length<=15):PE X (.Dict keys values pos) (WL Sq):=by
 intro Ä s σ H Q I q
 have hn:=I.ļ.fresh (Ï s.heap.objs.size)
 have I1:=I.laid (a:=s.heap.objs.size) (o:=.dK []) (h':=s.heap.push { cls:=.type "dict",data:=.dict #[] }) (t':=s.toks) (λ _ _ q=>Ã _ q) (Ï _) (A_ s.heap I.big)
 refine wpAny_Dict_walk (knd:=Ţ X.prog X.w) Ii hl h0 SX (af (h Ä _ σ _ _ I1 (q _ hn)) λ ws s2 zz=>?_)
 obtain⟨ps,H2,I2,rel,e,kvs,ep,lk,q2⟩:=zz
 subst ep
 obtain⟨rs,c,rk⟩:=vn (P:=X.prog) (w:=X.w) rel
 obtain⟨z,hd,vs0,r0,dd⟩:=Ba I2.ļ e
 cases r0
 refine⟨rs,c,dd,λ h' OM hs=>⟨.ref s.heap.objs.size,_,?_,rfl,q2⟩⟩
 have hz:(gM [] kvs).length<=sizeLine:=by
  have h1:=o8 kvs []
  rw[aO]at h1
  rw[ġ];lia
 have he:∃ q,h'.get? s.heap.objs.size=À q:=let ⟨q,_,_,hq,_⟩:=OM;⟨q,hq⟩
 exact zp I2 (by rw[e];exact bq) hs he (HE hz hd (rk.merge .nil) OM)
structure M1 (X:Cx)(o:ń)(m:Str)(bR:mT)(e:ń)(aw:mT):Prop where
 base:Ŧ o m X.env (Ć o X.env)=Ć o X.env
 YX:((Ĕ aw (Ì [e] X.env)).all (λ x=>!x.1) && (gu aw (bG [] X.env)).all (λ x=>x.1.isSome)
  && decide (([e]:Á ń).length+([]:Á iV).length+(if ([]:Á iV).isEmpty then 0 else 1) < 30))=true
 line:(bR.endLine == aw.line)=true
 trees:Ĕ aw (Ì [e] X.env)=[(false,Ć e X.env)]
structure M2 (X:Cx)(o:ń)(m:Str)(bR:mT)(e f:ń)(aw:mT):Prop where
 base:Ŧ o m X.env (Ć o X.env)=Ć o X.env
 YX:((Ĕ aw (Ì [e,f] X.env)).all (λ x=>!x.1) && (gu aw (bG [] X.env)).all (λ x=>x.1.isSome)
  && decide (([e,f]:Á ń).length+([]:Á iV).length+(if ([]:Á iV).isEmpty then 0 else 1) < 30))=true
 line:(bR.endLine == aw.line)=true
 trees:Ĕ aw (Ì [e,f] X.env)=[(false,Ć e X.env),(false,Ć f X.env)]
def Xu (H:Hp)(a:Addr):Prop:=(∃ kvs,Rd H a (.dK kvs))∨∃ kvs,Rd H a (.dT kvs)
theorem vO (I:Inv X Ä σ H s)(d:Xu H a) :
  s.TypeIs (.ref a) "dict"/\(∀ b,Î a=.ref b->∃ ob,s.heap.get? b=À ob/\ob.dict=none)/\(a == cI)=false:=by
 rcases d with⟨kvs,e⟩|⟨kvs,e⟩
 ·obtain⟨_,hd,vs,_,dd⟩:=tM I.ļ e
  refine⟨dd.typeIs,λ b q=>?_,hd⟩
  cases q
  obtain⟨ob,_,_,h1,h2,_⟩:=dd
  exact⟨ob,h1,h2.2.1⟩
 ·obtain⟨_,hd,xs,_,dd⟩:=tR I.ļ e
  refine⟨dd.typeIs,λ b q=>?_,hd⟩
  cases q
  obtain⟨ob,_,_,h1,h2,_⟩:=dd
  exact⟨ob,h1,h2.2.1⟩
section
variable {X:Cx}{Ä:Á (Addr × Obj)}{σ:St}{H:Hp}{s:Ò}{a:Addr}{y d:V}{u r:Value}{o:Ë V}{A:į}{E:Value->Ò->Prop}
theorem PH (hu:A.units+1 < cLine)(I:Inv X Ä σ H s)(g:j9 H a y o)(ry:RelV y u)(h:∀ w' s',Inv X Ä σ H s'->RelV (o.getD .Ē) w'->Q w' s') :
  Ù (Ý X.prog X.w) A (call (.builtin "dict.get") [.ref a,u]) Q E s:=by
 rcases g with⟨kvs,k,e,ey,l⟩|⟨kvs,k,b,e,ey,eb,l⟩
 ·subst ey
  obtain⟨z,hd,vs,rel,dd⟩:=tM I.ļ e
  refine qq a7 dd.typeIs f_ (Am _ _) (meets_dict_get (Ţ X.prog X.w) a (tY ry) hd) ⟨_,dd.mapOf,h _ _ (I.tok _) ?_⟩
  rw[l]
  exact(rel.val k).getD rfl
 ·subst ey
  cases (show u=Î b from ry)
  obtain⟨z,hd,xs,rel,dd⟩:=tR I.ļ e
  refine qq a7 dd.typeIs f_ (Am _ _) (meetsH_dict_get (pC (Ţ X.prog X.w)) a b hd) ⟨dF hu,k,xs,pN I.ļ eb,dd,h _ _ (I.tok _) ?_⟩
  rw[l]
  exact(rel.val k).getD rfl
theorem PK (hu:A.units+1 < cLine)(I:Inv X Ä σ H s)(g:j9 H a y o)(ry:RelV y u)(rd:RelV d r)(h:∀ w' s',Inv X Ä σ H s'->RelV (o.getD d) w'->Q w' s') :
  Ù (Ý X.prog X.w) A (call (.builtin "dict.get") [.ref a,u,r]) Q E s:=by
 rcases g with⟨kvs,k,e,ey,l⟩|⟨kvs,k,b,e,ey,eb,l⟩
 ·subst ey
  obtain⟨z,hd,vs,rel,dd⟩:=tM I.ļ e
  refine qq a7 dd.typeIs f_ (An _ _ _) (meets_dict_get_default (Ţ X.prog X.w) a (tY ry) hd r) ⟨_,dd.mapOf,h _ _ (I.tok _) ?_⟩
  rw[l]
  exact(rel.val k).getD rd
 ·subst ey
  cases (show u=Î b from ry)
  obtain⟨z,hd,xs,rel,dd⟩:=tR I.ļ e
  refine qq a7 dd.typeIs f_ (An _ _ _) (meetsH_dict_get_default (pC (Ţ X.prog X.w)) a b hd r) ⟨dF hu,k,xs,pN I.ļ eb,dd,h _ _ (I.tok _) ?_⟩
  rw[l]
  exact(rel.val k).getD rd
end
def Sg (td ty:TE):TE:=λ σ H Q=>td σ H λ x H1=>∃ a,x=.ref a/\Xu H1 a/\ty σ H1 λ y H2=>∃ o,j9 H2 a y o/\Q (o.getD .Ē) H2
def Sh (td ty tx:TE):TE:=λ σ H Q=>td σ H λ x H1=>∃ a,x=.ref a/\Xu H1 a/\ty σ H1 λ y H2=>tx σ H2 λ z H3=>∃ o,j9 H3 a y o/\Q (o.getD z) H3
section
variable {X:Cx}{o e f:ń}{bR aw:mT}{td ty tx:TE}
theorem JD (hu:X.A.units+1 < cLine)(ho:PE X o td)(he:PE X e ty)(m:M1 X o "get" bR e aw):PE X (.Call (.Attribute o "get" bR) [e] [] aw) (Sg td ty):=by
 intro Ä s σ H Q I h
 refine Xm m.base m.YX m.line fu a7 B6 (af (ho Ä s σ H _ I h) λ u s1 zz=>?_)
 obtain⟨x,H1,I1,rx,a,ex,d,q1⟩:=zz
 subst ex
 obtain rfl:u=Î a:=rx
 obtain⟨t1,t2,_⟩:=vO I1 d
 refine⟨t1,t2,?_⟩
 rw[m.trees]
 refine gq rfl (pf (fC (af (he Ä s1 σ H1 _ I1 q1) λ iv s2 ⟨y,H2,I2,ry,ov,g,q2⟩=>lS ?_)))
 exact PH hu I2 g ry λ w' s3 I3 xD=>⟨_,H2,I3,xD,q2⟩
theorem JE (hu:X.A.units+1 < cLine)(ho:PE X o td)(he:PE X e ty)(hf:PE X f tx)(m:M2 X o "get" bR e f aw):PE X (.Call (.Attribute o "get" bR) [e,f] [] aw) (Sh td ty tx):=by
 intro Ä s σ H Q I h
 refine Xm m.base m.YX m.line fu a7 B6 (af (ho Ä s σ H _ I h) λ u s1 zz=>?_)
 obtain⟨x,H1,I1,rx,a,ex,d,q1⟩:=zz
 subst ex
 obtain rfl:u=Î a:=rx
 obtain⟨t1,t2,_⟩:=vO I1 d
 refine⟨t1,t2,?_⟩
 rw[m.trees]
 refine gq rfl (pf (fC (af (he Ä s1 σ H1 _ I1 q1) λ iv s2 zz=>jA zz λ y H2 I2 ry q2=>
  fC (af (hf Ä s2 σ H2 _ I2 q2) λ fv s3 ⟨z,H3,I3,rz,ov,g,q3⟩=>lS ?_))))
 exact PK hu I3 g ry rz λ w' s4 I4 xD=>⟨_,H3,I4,xD,q3⟩
end
section
variable {X:Cx}{Ä:Á (Addr × Obj)}{σ:St}{H:Hp}{s:Ò}{a:Addr}{kvs:Á (Key × V)}{A:į}{E:Value->Ò->Prop}
end
section
variable {X:Cx}{Ä:Á (Addr × Obj)}{σ:St}{H:Hp}{s:Ò}{a:Addr}{y:V}{u:Value}{A:į}{E:Value->Ò->Prop}
end
end L2
namespace Att
open PySem PySem.W PySem.Calls PyProof.Rows
theorem uw:∀ (ns:Á Int)(vs:Á Value),WellAll P h vs (ns.map abe)->LG vs ns:=by
 intro ns
 induction ns with
 | nil=>
  intro vs w
  rw[bT]at w
  cases w
  exact .nil
 | cons n ns ih=>
  intro vs w
  rw[Ó]at w
  cases w with
  | cons a b=>
   cases a
   exact .cons _ _ (ih _ b)
theorem Gx {l:OpenLaw}{n:Nat}(hn:l.most=À n){P:Params}{h:Heap}{args:Á WData}{vals:Á Value}
  (ME:l.row.toRowW.claim.pre args=true) (Vc:WellAll P h vals args) :
  ∃ a vs ns,vals=[Î a]/\args=[WData.list (ns.map abe)]/\h.get? a=À { cls:=.type "list",data:=.seq vs.toArray }/\LG vs ns/\ns.length<=n:=by
 have hsh:WShape.hasAll [] args [.list .int]=true:=(pre_splitW ME).1
 have hc:l.pre.holds [] { args:=args }=true:=(pre_splitW ME).2
 obtain⟨d,r,rfl,h1,h2⟩:=hasAllW_cons hsh
 obtain rfl:=hasAllW_nil h2
 obtain⟨xs,rfl,h3⟩:=hasW_list h1
 obtain⟨ns,rfl⟩:=items_int h3
 have hlen:ns.length<=n:=by
  unfold OpenLaw.pre at hc
  have h4:(WTm.not (.lt (.lit (.int (n:Int))) (.len (.arg 0)))).holds [] { args:=[.list (ns.map .int)] }=true:=by
   have h4:=(holds_andW hc).1
   rw[hn]at h4
   exact h4
  have h5:=condW_of h4 (w_not (w_lt w_lit (w_len_list (w_arg rfl))))
  rw[Õ]at h5
  refine Nat.le_of_not_lt λ q=>?_
  have q':(n:Int) < ((ns.length:Nat):Int):=by lia
  first
   | (rw[Ī q']at h5;exact absurd h5 (by decide))
   | (simp at h5;lia)
 cases Vc with
 | cons w1 w2=>
  cases w2
  cases w1 with
  | list ho Ii=>exact⟨_,_,ns,rfl,rfl,ho,uw ns _ Ii,hlen⟩
theorem Gu (l:OpenLaw)(args:Á WData):l.row.toRowW.claim.post args (.bool true) args=true:=
 postW_of (r:=l.row.toRowW) (X:=(true == true))
  (show Xg [] (.bool true) .bool=true by first|rfl|decide|simp[Xg,WShape.arms,WShape.armsAll])
  (show(WTm.eq .res (.lit (.bool true))).value [] { args:=args,res:=À (.bool true),after:=args }=À (.bool (true == true)) from w_eq_bool (w_res rfl) w_lit) rfl
theorem A0 {l:OpenLaw}{n:Nat}{q:Ą}{loose:Á Str}{XP:(Str->Ë Value)->Heap->Prop}{YP:ğ->Heap->Prop}{d:DefRec}
  (hn:l.most=À n) (U3:d.params.defaults=[])
  (call:∀ (w:ğ) (jS s₁:Ò) (mg mb:Str->Ë Value) (fa:Addr) (o:Obj) (pm cd doc:Value) (a:Addr) (vs:Á Value) (ns:Á Int),
   Ground q loose [] XP w jS mg mb s₁.heap->YP w s₁.heap->
   s₁.heap.get? fa=À o->o.data=.func (docDef d.name d.params d.body d.scope pm cd doc)->s₁.heap.CodeRec cd d.name->mg d.name=À (.ref fa)->
   s₁.heap.get? a=À { cls:=.type "list",data:=.seq vs.toArray }->LG vs ns->ns.length<=n->s₁.gens=#[]->
   eM (Ý l.prog w) uK (.call (.ref fa) ⟨[.ref a],[]⟩) (λ r s'=>r=.ok (.ret (.bool true))/\OldK s₁.heap s'.heap/\s'.os=s₁.os/\n8 s'.gens) s₁) :
  WalkO q loose XP YP l.row.toRowW d [] (λ f vs=>G4 f vs):=by
 intro w jS s₁ mg mb G Y fa o pm cd doc dV kV ho hd Er hD U8 hg args vals as ME abq hrd Vc hlo
 obtain rfl:dV=.none:=Dflts.none hD U3
 obtain rfl:kV=.none:=Dflts.noKw hD
 obtain⟨a,vs,ns,rfl,rfl,Qd,hints,hlen⟩:=Gx hn ME Vc
 refine enter_call (qt (call w jS s₁ mg mb fa o pm cd doc a vs ns G Y ho (fd_plain hd) Er U8 Qd hints hlen hg) λ r s' hq=>?_)
 obtain⟨rfl,h2,h3,h4⟩:=hq
 exact⟨.inl ⟨.bool true,.bool true,[],rfl,λ _=>rfl,.bool true,Gu l _,λ _=>⟨oF,λ _ hm=>(nomatch hm)⟩⟩,h2,h3,h4⟩
section
variable {prog:Ą}{w:ğ}{A:į}{E:Value->Ò->Prop}{s:Ò}{K:Frag}
end
end Att
namespace L2
open PySem PySem.Spec PyProof.Rows
theorem yJ:∀ {vs:Á Value}{ns:Á Int},LG vs ns->Vals (ns.map V.int) vs
 | _,_,.nil=>.nil
 | _,_,.cons n t h=>.cons ⟨t,rfl⟩ (yJ h)
def inClass (s:Stmt)(j:Nat):Stmt:=match s with
 | .ClassDef _ _ _ body _ _ _ _ _ _ _=>body.getD j (.Pass ⟨0,0,0,0⟩)
 | _=>.Pass ⟨0,0,0,0⟩
def cA (s:Stmt):Arguments:=match s with
 | .FunctionDef _ a _ _ _ _ _ _ _ _=>a
 | _=>{ posonlyargs:=[],args:=[],vararg:=none,kwonlyargs:=[],kw_defaults:=[],kwarg:=none,defaults:=[] }
def aB (s:Stmt):Á Stmt:=match s with
 | .FunctionDef _ _ b _ _ _ _ _ _ _=>b
 | _=>[]
def Ċ (s:Stmt):Scope:=match s with
 | .FunctionDef _ _ _ _ _ _ sc _ _ _=>sc
 | _=>{ kind:=.function,names:=[],isGenerator:=false,isCoroutine:=false }
abbrev E0:XK:=λ _ _ _=>False
structure Ha (K:É)(x qual:Str)(st:Stmt)(f:Addr)(fd:cW):Prop where
 ex:∃ (oc:Value) (od:Ë Addr) (kV doc pm:Value) (an:Ë Addr) (dH ct:Value) (xB:Ğ (Ë Value)),
  fd=ľ x qual (cA st) (aB st) (Ċ st) .none kV doc pm an dH ct/\K.lookup f=À ⟨oc,od,.func fd,xB⟩/\dB K dH qual=true
 kp:Ġ K (.ref f)=true
section
variable {P:Ą}{w:ğ}{K:É}{mg:Str->Ë Value}{base:Heap}
theorem Ha.binds {x qual:Str}{st:Stmt}{f:Addr}{fd:cW}{ps:Á Str}(F:Ha K x qual st f fd)
  (h:∀ (kV doc pm:Value) (an:Ë Addr) (dH ct:Value) (us:Á Value),us.length=ps.length->uh (ľ x qual (cA st) (aB st) (Ċ st) .none kV doc pm an dH ct) ⟨us,[]⟩=pure (ps.zip us)):Binds K fd ps []:=by
 obtain⟨oc,od,kV,doc,pm,an,dH,ct,xB,rfl,lk,Er⟩:=F.ex
 exact .all (h kV doc pm an dH ct)
theorem zB {x qual:Str}{st:Stmt}{f:Addr}{oc:Value}{od an:Ë Addr}{xB:Ğ (Ë Value)}{kV doc pm dH ct:Value}(l:K.lookup f=À ⟨oc,od,.func (ľ x qual (cA st) (aB st) (Ċ st) .none kV doc pm an dH ct),xB⟩)
  (c:dB K dH qual=true) (k:Ġ K (.ref f)=true):Ha K x qual st f (ľ x qual (cA st) (aB st) (Ċ st) .none kV doc pm an dH ct):=⟨⟨oc,od,kV,doc,pm,an,dH,ct,xB,rfl,l,c⟩,k⟩
end
theorem O1 (hr:cN k A):A.units+1 < cLine:=bw (K0 (by decide:1<=64) _) hr.units
theorem ş (h:n<=1000):n < sizeLine:=bw h (by decide)
section
variable {X:Cx}
theorem pv (i:Nat)(hN:X.N[i]? = À x:=by rfl)(hv:YF X.env.scope x:=by first|exact GW rfl|exact OB (GW rfl)|exact OB (OB rfl)) (hd:(x == ("__debug__":Str))=false:=by decide)
  (Er:(x == ("__classdict__":Str))=false:=by decide):PE X (.Name x pos) (Sm i):=RD hN hv hd Er
end
section
variable {κ:Type} [n9 κ]
end
end L2
set_option maxHeartbeats 4000000
namespace L2
open PySem PySem.Spec PyProof.Rows
def kq (X:Cx)(scope:Scope):Á (Str × Ë Nat)->Prop
 | []=>True
 | (_,none) :: r=>kq X scope r
 | (x,À j) :: r=>(X.N[j]? = À x/\scope.names.lookup x=À .free/\(X.env.kindOf x=À .cell∨X.env.kindOf x=À .free))/\kq X scope r
def DB (l:Á (Str × Ë Nat)) (σ:St):St:=l.map λ p=>p.2.bind λ j=>(σ[j]?).join
theorem kq.get:∀ {l:Á (Str × Ë Nat)},kq X scope l->∀ {i:Nat}{x:Str}{j:Nat},l[i]? = À (x,À j)->
  X.N[j]? = À x/\scope.names.lookup x=À .free/\(X.env.kindOf x=À .cell∨X.env.kindOf x=À .free)
 | [],_,i,x,j,e=>by simp at e
 | (y,none) :: r,h,0,x,j,e=>by simp at e
 | (y,none) :: r,h,i+1,x,j,e=>kq.get (l:=r) h (i:=i) (by simpa using e)
 | (y,À k) :: r,h,0,x,j,e=>by
  simp at e
  obtain⟨rfl,rfl⟩:=e
  exact h.1
 | (y,À k) :: r,h,i+1,x,j,e=>kq.get (l:=r) h.2 (i:=i) (by simpa using e)
theorem pE (env:AF):∀ (names:Á (Str × iW)) (OJ:Á (Str × Addr)),(∀ x∈names,x.2=.free->∃ c,env.cells.lookup x.1=À c)->
  ∃ cl,(forIn names OJ (λ(x:Str × iW) (cs:Á (Str × Addr))=>(if x.2 == .free then do let a <-cellOf env x.1;pure (bj ((x.1,a) :: cs)) else pure (bj cs):Sem (ForInStep (Á (Str × Addr))))))=pure cl/\
   (∀ y c,cl.lookup y=À c->env.cells.lookup y=À c∨OJ.lookup y=À c)/\(∀ x∈names,x.2=.free->∃ c,cl.lookup x.1=À c )/\(∀ y,(∃ c,OJ.lookup y=À c)->∃ c,cl.lookup y=À c)
 | [],OJ,h=>⟨OJ,rfl,λ _ _ e=>.inr e,λ _ hx=>(nomatch hx),λ _ e=>e⟩
 | (n,k) :: r,OJ,h=>by
  by_cases hk:k=.free
  ·subst hk
   obtain⟨c,ec⟩:=h (n,.free) ģ rfl
   obtain⟨cl,e1,e2,e3,e4⟩:=pE env r ((n,c) :: OJ) λ x hx=>h x (õ _ hx)
   have hc:cellOf env n=pure c:=by
    unfold cellOf
    have XF:env.cells.lookup n=À c:=ec
    rw[XF]
   have own:∃ c',cl.lookup n=À c':=e4 n ⟨c,by simp[ĕ]⟩
   refine⟨cl,?_,λ y d e=>?_,λ x hx hf=>?_,λ y ⟨d,e⟩=>?_⟩
   ·rw[jY]
    simp only[pq,fE,hc,pure_bind]
    exact e1
   ·rcases e2 y d e with z|z
    ·exact .inl z
    ·rw[ĕ]at z
     split at z
     ·rename_i hy
      have:y=n:=by simpa using hy
      subst this
      cases z
      exact .inl ec
     ·exact .inr z
   ·rcases Þ.mp hx with rfl|hx
    ·exact own
    ·exact e3 x hx hf
   ·refine e4 y ?_
    rw[ĕ]
    split
    ·exact⟨_,rfl⟩
    ·exact⟨d,e⟩
  ·obtain⟨cl,e1,e2,e3,e4⟩:=pE env r OJ λ x hx=>h x (õ _ hx)
   have hb:(k == Ń)=false:=by simpa using hk
   refine⟨cl,?_,e2,λ x hx hf=>?_,e4⟩
   ·rw[jY]
    simp only[hb,av,gy,pure_bind]
    exact e1
   ·rcases Þ.mp hx with rfl|hx
    ·exact absurd hf hk
    ·exact e3 x hx hf
theorem oY (h:∀ x∈scope.names,x.2=.free->∃ c,env.cells.lookup x.1=À c) :
  ∃ cl,qr scope env=pure cl/\(∀ y c,cl.lookup y=À c->env.cells.lookup y=À c)/\∀ x∈scope.names,x.2=.free->∃ c,cl.lookup x.1=À c:=by
 obtain⟨cl,e1,e2,e3,_⟩:=pE env scope.names [] h
 refine⟨cl,?_,λ y c e=>(e2 y c e).elim id λ z=>by simp at z,e3⟩
 unfold qr
 have Ll:=e1
 simp only[bind_pure_comp]at Ll ⊢
 first
  | (rw[Ll];rfl)
  | (simp only[Ll];rfl)
  | (simpa using Ll)
theorem iS {env:AF}:∀ {names:Á (Str × iW)}{x:Str},names.lookup x=À .free->
    ((names.map λ(n,k)=>if (k == Ń && env.scope.kind == .function && env.kindOf n == À .cell) then (n,bN) else (n,k)).lookup x=À .cell∨
     (names.map λ(n,k)=>if (k == Ń && env.scope.kind == .function && env.kindOf n == À .cell) then (n,bN) else (n,k)).lookup x=À .free)
  | [],_,h=>by simp at h
  | (n,k) :: r,x,h=>by
    have ih:=@iS env r x
    show d_ x ((if (k == Ń && env.scope.kind == .function && env.kindOf n == À .cell)=true then (n,bN) else (n,k)) :: _)=_∨d_ x ((if (k == Ń && env.scope.kind == .function && env.kindOf n == À .cell)=true then (n,bN) else (n,k)) :: _)=_
    cases hx:x == n with
    | true=>
      simp only[ĕ,hx]at h
      cases h
      by_cases hc:(Ń == Ń && env.scope.kind == .function && env.kindOf n == À .cell)=true
      · rw[Ñ hc];left;simp[ĕ,hx]
      · rw[Ö hc];right;simp[ĕ,hx]
    | false=>
      simp only[ĕ,hx]at h
      by_cases hc:(k == Ń && env.scope.kind == .function && env.kindOf n == À .cell)=true
      · rw[Ñ hc];simp only[ĕ,hx];exact ih h
      · rw[Ö hc];simp only[ĕ,hx];exact ih h
theorem rn {env:AF}{x:Str}:∀ {names:Á (Str × iW)},
    ((names.map λ(n,k)=>if (k == Ń && env.scope.kind == .function && env.kindOf n == À .cell) then (n,bN) else (n,k)).lookup x=À .cell∨
     (names.map λ(n,k)=>if (k == Ń && env.scope.kind == .function && env.kindOf n == À .cell) then (n,bN) else (n,k)).lookup x=À .free)->(x,Ń)∈names∨names.lookup x=À .cell
  | [],h=>by simp at h
  | (n,k) :: r,h=>by
    have ih:=@rn env x r
    simp only[Ó]at h
    by_cases hb:(k == Ń && env.scope.kind == .function && env.kindOf n == À .cell)=true
    · rw[Ñ hb]at h
      have hkf:k=.free:=by
        have:=(GQ.mp (GQ.mp hb).1).1
        simpa using this
      by_cases hx:x=n
      · rw[hx,hkf];exact .inl ģ
      · have Iv:(x == n)=false:=by simpa using hx
        simp only[ĕ,Iv]at h ⊢
        exact(ih h).imp (õ _) id
    · rw[Ö hb]at h
      by_cases hx:x=n
      · have Iv:(x == n)=true:=by simpa using hx
        simp only[ĕ,Iv]at h ⊢
        rcases h with h|h
        · exact .inr h
        · rw[hx,è h];exact .inl ģ
      · have Iv:(x == n)=false:=by simpa using hx
        simp only[ĕ,Iv]at h ⊢
        exact(ih h).imp (õ _) id
theorem kN:∀ (names:Á (Str × iW)) (n:Nat)(acc more:Á (Str × Addr)),bI n names (acc++more)=bI n names acc++more
 | [],_,_,_=>rfl
 | (x,k) :: r,n,acc,more=>by
  unfold bI
  split
  ·exact kN r (n+1) ((x,n) :: acc) more
  ·exact kN r n acc more
theorem kO:∀ (names:Á (Str × iW)) (n:Nat)(acc:Á (Str × Addr)) (x:Str)(c:Addr),(x,c)∈bI n names acc->(x,bN)∈names∨(x,c)∈acc
 | [],_,_,_,_,h=>.inr h
 | (y,k) :: r,n,acc,x,c,h=>by
  unfold bI at h
  split at h
  ·rename_i hk
   have hk:k=.cell:=by simpa using hk
   rcases kO r _ _ x c h with z|z
   ·exact .inl (õ _ z)
   ·rcases Þ.mp z with z|z
    ·cases z;rw[hk];exact .inl ģ
    ·exact .inr z
  ·exact(kO r _ _ x c h).imp (õ _) id
theorem oR 
  (hQ:Q (newEnv scope s.heap.objs.size globals (bI (s.heap.objs.size+1) scope.names closure) qual none .none (À outer) 0) { s with heap:=Ld (s.heap.push { cls:=.type "dict",data:=.dict #[] }) scope.names }) :
  Ù M A (uk scope globals closure [] qual none .none (À outer)) Q E s:=by
 simp only[uk,GV,fE]
 refine Â (wpAny_alloc ?_)
 refine Â (wpAny_layCells _ (λ name kind cells=>by cases hkc:kind == bN<;>simp[hkc]) _ _ _ _ ?_)
 rw[show({ s with heap:=s.heap.push { cls:=.type "dict",data:=.dict #[] } }:Ò).heap.objs.size=s.heap.objs.size+1 from Ģ ..]
 exact Â (Í (Í hQ))
def ż (X:Cx)(l:Á (Str × Ë Nat)) (scope:Scope)(cl:Á (Str × Addr)) (C:Addr)(fp:Á Addr)(s3:Ò)(H3:Hp):Cx:=
 { X with N:=l.map (·.1),jS:=s3,Cr:=H3,env:=Pg scope cl C X.env,outer:=X.stack,ex:=fp,fn:=λ x=>scope.names.lookup x == À .cell,pn:=[],xe:=λ _ _=>False }
def Li (X:Cx)(ifs:Á ń)(t:TT):Prop:=
 ∀ (Ä:Á (Addr × Obj)) (s:Ò) (σ:St) (H:Hp) (Q:Bool->Hp->Prop),Inv X Ä σ H s->t σ H Q->
  Ù (Ý X.prog X.w) X.A (forIn ifs true λ c r=>if r=true then do let ok <-Ft c X.env (Ć c X.env);pure (bj ok) else pure (bj r)) (TP X Ä σ Q) X.xe s
def aax:TT:=λ _ H Q=>Q true H
theorem NI:Li X [] aax:=λ _ _ _ H _ I h=>wpAny_tests_nil ⟨H,I,h⟩
theorem NJ (h:PT X c t):Li X [c] t:=λ Ä s σ H Q I hw=>wpAny_tests_one (h Ä s σ H Q I hw)
def Hc (e tg:ń)(ifs:Á ń)(p:mT)(d:Nat)(body:Value->AF->Sem Unit):Prop:=
 ∀ it acc env,compTurn e d it acc env=(kh p >>= λ _=>lA it >>= λ r=>match r with
  | none=>pure (.done .next)
  | some v=>lz tg it v >>= λ _=>lu tg env v >>= λ _=>(forIn ifs true λ c r=>if r=true then do let ok <-Ft c env (Ć c env);pure (bj ok) else pure (bj r)) >>= λ ok=>
   if ok=true then body acc env >>= λ _=>again (.compLoop e d it acc env) else again (.compLoop e d it acc env))
def Pm (e:ń):Prop:=(∃ a b c d,e=.ListComp a b c d)∨∃ a b c d,e=.SetComp a b c d
theorem zl (hn:Pm e)(ht:Hc e tg ifs p d body)(I:Nat->Ò->Prop)
  (turn:∀ n s,I n s->Ù (Ý prog w) A (lA it) (λ r s₁=>match r with
   | none=>R (.ok .next) s₁
   | some v=>Ù (Ý prog w) A (lz tg it v) (λ _ s₁'=>Ù (Ý prog w) A (lu tg env v) (λ _ s₂=>
     Ù (Ý prog w) A (forIn ifs true λ c r=>if r=true then do let ok <-Ft c env (Ć c env);pure (bj ok) else pure (bj r)) (λ ok s₃=>
      if ok=true then Ù (Ý prog w) A (body acc env) (λ _ s₅=>∃ m,m < n/\I m s₅) (λ _ _=>False) s₃
      else ∃ m,m < n/\I m s₃) (λ _ _=>False) s₂) (λ _ _=>False) s₁') (λ _ _=>False) s₁) (λ _ _=>False) s)
  (n:Nat) (h:I n s) :
  eM (Ý prog w) A (.compLoop e d it acc env) R s:=by
 have no:∀ {α:Type}{t:Sem α}{Q:α->Ò->Prop}{E:Value->Ò->Prop}{s:Ò},Ù (Ý prog w) A t Q (λ _ _=>False) s->Ù (Ý prog w) A t Q E s:=λ h=>aW h (λ _ _ q=>q) λ _ _ f=>f.elim
 refine codeAny_loop rfl I (λ n s hI=>?_) n h
 have hd:(Ý prog w).den (.compLoop e d it acc env)=(compTurn e d it acc env).onRaise (λ x=>do Lb x env;theTreesLotGoes x):=by rcases hn with⟨_,_,_,_,rfl⟩|⟨_,_,_,_,rfl⟩<;>rfl
 have hu:A.under (.compLoop e d it acc env)=A:=by rcases hn with⟨_,_,_,_,rfl⟩|⟨_,_,_,_,rfl⟩<;>rfl
 rw[hd,hu]
 refine wpAny_noted ?_
 rw[ht]
 refine Â (eF (Â (af (no (turn n s hI)) (λ r s₁ h₁=>?_))))
 cases r with
 | none=>exact Í h₁
 | some v=>
  refine Â (af (no h₁) λ _ s1' Y2=>?_)
  refine Â (af (no Y2) (λ _ s₂ h₂=>Â (af (no h₂) (λ ok s₃ h₃=>?_))))
  cases ok with
  | false=>exact Í ⟨rfl,h₃⟩
  | true=>exact Â (af (no h₃) (λ _ s₅ h₅=>Í ⟨rfl,h₅⟩))
theorem xo (hn:Pm e)(hg:(clausesOf e)[d]? = À gc) (ha:gc.is_async=0)
  (h0:eM (Ý prog w) A (.compLoop e d it acc env) R s)
  (h:Ù (Ý prog w) A (To it) (λ it' s'=>eM (Ý prog w) A (.compLoop e d it' acc env) R s') (λ _ _=>False) s) :
  eM (Ý prog w) A (.compStart e d it acc env) R s:=by
 refine codeAny_of_tree ?_
 have hd:(Ý prog w).den (.compStart e d it acc env)=(compStart e d it acc env).onRaise (λ x=>do Lb x env;kh theWindowsPlace):=by rcases hn with⟨_,_,_,_,rfl⟩|⟨_,_,_,_,rfl⟩<;>rfl
 have hu:A.under (.compStart e d it acc env)=A:=by rcases hn with⟨_,_,_,_,rfl⟩|⟨_,_,_,_,rfl⟩<;>rfl
 rw[hd,hu]
 refine wpAny_notedAt ?_
 unfold compStart
 rw[hg]
 have e1:(À gc).elim false (λ x=>x.is_async != 0)=false:=by show(gc.is_async != 0)=false;rw[ha];rfl
 rw[e1]
 show Ù _ _ (ask >>= _) _ _ s
 refine Â (wpAny_askSetting (wpAny_ite ?_))
 split
 ·first
   | exact Â (Í (Í (Pc rfl h0)))
   | exact Í (Pc rfl h0)
 ·exact Â (cJ (Â (eF (Â (aW h (λ it' s' h'=>Í (Pc rfl h')) λ _ _ x=>x.elim)))))
def OE (l:Á (Str × Ë Nat)) (g:TG)(tt:TT)(te:TE)(J:It)(σ:St)(H1:Hp)(Q:Addr->Hp->Prop):Prop:=
 ∀ D,H1 D=none->∃ W:Nat->Nat->Á V->St->Hp->Prop,(∃ m,W 0 m [] (DB l σ) (upd H1 D (.lst [])))/\∀ i m ys Cg H2,W i m ys Cg H2->
  (J.stop i H2/\Q D H2)∨(J.go i H2/\∀ x H3,J.LC i H2 x H3->g x Cg H3 λ B0 H4=>tt B0 H4 λ b H5=>
   if b=true then te B0 H5 λ v H6=>H6 D=À (.lst ys)/\ys.length < sizeLine/\∃ m',m' < m/\W (i+1) m' (ys++[v]) B0 (upd H6 D (.lst (ys++[v]))) else ∃ m',m' < m/\W (i+1) m' ys B0 H5)
def Sf (l:Á (Str × Ë Nat)) (wi:TI)(g:TG)(tt:TT)(te:TE)(σ:St)(H:Hp)(Q:Addr->Hp->Prop):Prop:=
 wi σ H λ J H1=>OE l g tt te J σ H1 Q
theorem Hw {α:Type}{X:Cx}{ifs:Á ń}{scope:Scope}{cl:Á (Str × Addr)}{l:Á (Str × Ë Nat)}{g:TG}{tt:TT}{body:Value->AF->Sem Unit}{gc:Comprehension} 
  (hn:Pm e) (Va:Hc e tg ifs p 0 body) (hgc:(clausesOf e)[0]? = À gc) (has:gc.is_async=0)
  (zD:∀ y c,cl.lookup y=À c->X.env.cells.lookup y=À c) (MA:∀ x∈scope.names,x.2=.free->∃ c,cl.lookup x.1=À c)
  (Bn:scope.kind=.function) (ya:∀ y∈scope.names,y.2=.cell->scope.names.lookup y.1=À .cell) (mN:X.calm=true) (Qi:kq X scope l)
  (hg:∀ cl C fp s3 H3,PG (ż X l scope cl C fp s3 H3) tg g) (ht:∀ cl C fp s3 H3,Li (ż X l scope cl C fp s3 H3) ifs tt)
  {Ä:Á (Addr × Obj)}{σ:St}{s3:Ò}{fp:Á Addr}{tn:Nat->Heap->Prop}{J:It}{Q:Hp->Prop}{RR:Addr->Tg->Ò->Prop}{E:Value->Ò->Prop}
  {W:Nat->Nat->α->St->Hp->Prop}{B:Nat->Nat->α->St->Hp->Prop}{y0:α}
  (hb:∀ cl C fp s3 H3 Ä s i m ys σ H,Inv (ż X l scope cl C fp s3 H3) Ä σ H s->B i m ys σ H->
   Ù (Ý X.prog X.w) X.A (body (.ref D) (Pg scope cl C X.env)) (λ _ s'=>∃ m' Yb bh H',m' < m/\Inv (ż X l scope cl C fp s3 H3) Ä bh H' s'/\W (i+1) m' Yb bh H') (λ _ _=>False) s)
  (I3:Inv X Ä σ H3 s3) (T:Turn X.prog X.w X.K tg J fp it tn) (GH:tn 0 s3.heap) (vJ:∀ b∈fp,uo X Ä H3 b)
  (w0:W 0 m0 y0 (DB l σ) H3)
  (turn:∀ i m ys Cg H2,W i m ys Cg H2->(J.stop i H2/\Q H2)∨(J.go i H2/\∀ x H3,J.LC i H2 x H3->g x Cg H3 λ B0 H4=>tt B0 H4 λ b H5=>if b=true then B i m ys B0 H5 else ∃ m',m' < m/\W (i+1) m' ys B0 H5))
  (SY:∀ C (s':Ò) (H':Hp),Q H'->(∃ m,s'.heap.Ns C m)->Inv X Ä σ H' s'->uo X Ä H' C->RR C (.ok .next) s') :
  Ù (Ý X.prog X.w) X.A (uk scope X.env.globals cl [] X.env.qual none .none (À X.env)) (λ Hu s₄=>
   eM (Ý X.prog X.w) X.A (.compStart e 0 (.ref it) (.ref D) { Hu with scope:=relabel scope X.env }) (RR Hu.locals) s₄) E s3:=by
 refine oR ?_
 have eC:(newEnv scope s3.heap.objs.size X.env.globals (bI (s3.heap.objs.size+1) scope.names cl) X.env.qual none ë (À X.env) 0).locals=s3.heap.objs.size:=rfl
 have YQ:=cellsFrom_ok scope.names (s3.heap.push { cls:=.type "dict",data:=.dict #[] }) (s3.heap.objs.size+1) [] ⟨λ _ _ hm=>(nomatch hm),oF⟩ (by rw[Ģ];exact Ï _)
 rw[Ģ]at YQ
 have ecs:bI (s3.heap.objs.size+1) scope.names cl=bI (s3.heap.objs.size+1) scope.names []++cl:=kN scope.names _ [] cl
 have XS:(Ld (s3.heap.push { cls:=.type "dict",data:=.dict #[] }) scope.names).Ns s3.heap.objs.size (λ _=>none):=(Heap.Ns.new s3.heap (.type "dict")).keeps (abi _ _)
 have old:∀ b o,s3.heap.get? b=À o->(Ld (s3.heap.push { cls:=.type "dict",data:=.dict #[] }) scope.names).get? b=À o:=λ b o e=>abi _ _ b o (Ã _ e)
 rw[ecs]at *
 have ownN:∀ x c,(bI (s3.heap.objs.size+1) scope.names []).lookup x=À c->scope.names.lookup x=À .cell:=λ x c e=>by
  rcases kO _ _ _ _ _ (mem_of_lookup e) with z|z
  ·exact ya _ z rfl
  ·exact nomatch z
 have ownS:∀ x,scope.names.lookup x=À .cell->∃ c,(bI (s3.heap.objs.size+1) scope.names []).lookup x=À c:=λ x e=>bU.mp (mV scope.names _ [] (.inl e))
 generalize abr:bI (s3.heap.objs.size+1) scope.names []=own at *
 generalize hh4:Ld (s3.heap.push { cls:=.type "dict",data:=.dict #[] }) scope.names=h4 at *
 generalize hC:s3.heap.objs.size=C at *
 have eE:({ newEnv scope C X.env.globals (own++cl) X.env.qual none ë (À X.env) 0 with scope:=relabel scope X.env }:AF)=Pg scope (own++cl) C X.env:=rfl
 have cs_of:∀ x c,(own++cl).lookup x=À c->(own.lookup x=À c/\h4.IsCell c none/\C+1<=c)∨(own.lookup x=none/\cl.lookup x=À c):=λ x c e=>by
  rw[tj]at e
  cases q:own.lookup x with
  | none=>rw[q]at e;exact .inr ⟨rfl,e⟩
  | some d=>rw[q]at e;cases e;exact .inl ⟨rfl,YQ.empty x c (mem_of_lookup q)⟩
 have of_cl:∀ x c,scope.names.lookup x≠À .cell->cl.lookup x=À c->(own++cl).lookup x=À c:=λ x c n e=>by
  rw[tj]
  cases q:own.lookup x with
  | none=>exact e
  | some d=>exact(n (ownN x d q)).elim
 have cltC:∀ y c,cl.lookup y=À c->c < C:=λ y c e=>by
  obtain⟨v,q⟩:=I3.cell y c (zD y c e)
  have:=q.lt
  rw[hC]at this
  exact this
 have fpC:∀ b∈fp,b≠C:=λ b hb z=>by
  obtain⟨o,ho,_⟩:=T.obj _ _ GH b hb
  exact absurd (Ð ho) (by rw[z,hC];exact Ņ _)
 have cellC:∀ y c,(own++cl).lookup y=À c->c≠C:=λ y c e z=>by
  rcases cs_of y c e with⟨_,_,q⟩|⟨_,q⟩
  ·rw[z]at q;exact absurd q (Nat.not_succ_le_self _)
  ·exact absurd (cltC y c q) (by rw[z];exact Ņ _)
 have fpB:∀ b∈fp,b < C:=λ b hb=>by
  obtain⟨o,ho,_⟩:=T.obj _ _ GH b hb
  rw[<-hC];exact Ð ho
 have fpCs:∀ b∈fp,∀ x c,(own++cl).lookup x=À c->c≠b:=λ b hb x c e z=>by
  rcases cs_of x c e with⟨_,_,q⟩|⟨_,q⟩
  ·rw[z]at q;exact absurd (ä (fpB b hb) (u6 q)) (Ņ _)
  ·exact(vJ b hb).2.2.2.2.1 x c (zD x c q) z
 have H3C:H3 C=none:=by
  have:=I3.fresh
  rw[hC]at this
  exact this
 have OK:(ż X l scope (own++cl) C fp s3 H3).Ok:={
  mod:=I3.ok.mod
  kind:=Bn
  glob:=I3.ok.glob
  blt:=I3.ok.blt
  above:=kF hC
  inj:=λ x y c e1 e2=>by
   rcases cs_of x c e1 with⟨p1,_,p3⟩|⟨_,p1⟩<;>rcases cs_of y c e2 with⟨q1,_,q3⟩|⟨_,q1⟩
   ·exact name_of_addr YQ.apart (mem_of_lookup p1) (mem_of_lookup q1)
   ·exact absurd (cltC y c q1) (iX.mpr (u6 p3))
   ·exact absurd (cltC x c p1) (iX.mpr (u6 q3))
   ·exact I3.ok.inj x y c (zD x c p1) (zD y c q1)
  has:=λ x hx=>by
   show ∃ c,(own++cl).lookup x=À c
   rw[tj]
   cases q:own.lookup x with
   | some d=>exact⟨d,rfl⟩
   | none=>
    rcases rn hx with z|z
    ·obtain⟨c,e⟩:=MA (x,.free) z rfl
     exact⟨c,e⟩
    ·obtain⟨c,e⟩:=ownS x z
     rw[q]at e;cases e
  OI:=λ x c hf e=>by
   have hf:(scope.names.lookup x == À bN)=true:=hf
   have hf:scope.names.lookup x=À .cell:=by simpa using hf
   obtain⟨d,ed⟩:=ownS x hf
   rcases cs_of x c e with⟨_,_,q⟩|⟨q,_⟩
   ·show s3.heap.objs.size<=c
    rw[hC];lia
   ·rw[q]at ed;cases ed
  hd:=I3.ok.hd
  frames:=I3.ok.frames
  Se:=.inl rfl
  UI:=λ b hb=>⟨fpC b hb,fpCs b hb⟩
  bs:=λ b o e=>I3.bs b o e
  DX:=ě I3.ok.DX I3.sz
  BC:=λ b o e hb=>by
   rcases(vJ b hb).2.2.2.1 with z|z
   ·exact I3.ok.BC b o e z
   ·exact absurd (ä (Ð e) (ě I3.ok.DX z)) (Ņ _)
  Bg:=λ b hb hz=>by
   rcases Þ.mp (I3.DC b hz) with z|z
   ·exact(vJ b hb).2.1 z
   ·exact(vJ b hb).2.2.1 z
  pI:=I3.stack
  Lm:=I3.uV }
 have fpX:∀ {H':Hp},(∀ b∈fp,H' b=none)->∀ b∈fp,uo (ż X l scope (own++cl) C fp s3 H3) [] H' b:=λ hn b hb=>
  ⟨hn b hb,fpC b hb,OK.Bg b hb,.inl hb,fpCs b hb,λ p hp=>nomatch hp⟩
 have I4:Inv (ż X l scope (own++cl) C fp s3 H3) [] (DB l σ) H3 { s3 with heap:=h4 }:={
  ok:=OK
  os:=rfl
  bare:=I3.bare
  base:=Un.kept old
  loc:=by
   refine⟨_,XS,λ i x v e1 e2 e3=>?_⟩
   have Ll:(l.map (·.1))[i]? = À x:=e1
   have XD:(l.map λ p=>p.2.bind λ j=>(σ[j]?).join)[i]? = À (À v):=e2
   rw[ì]at Ll XD
   cases el:l[i]? with
   | none=>rw[el]at Ll;cases Ll
   | some p=>
    rw[el]at Ll XD
    obtain⟨y,o⟩:=p
    have YU:y=x:=è Ll
    subst YU
    cases o with
    | none=>cases XD
    | some j=>
     have Md:(σ[j]?).join=À v:=è XD
     have ej:σ[j]? = À (À v):=by
      cases q:σ[j]? with
      | none=>rw[q]at Md;cases Md
      | some z=>rw[q]at Md;exact ĵ À Md
     obtain⟨k1,k2,k3⟩:=Qi.get el
     obtain⟨m,hn,hl⟩:=I3.loc
     obtain⟨u,r,lk⟩:=hl j y v k1 ej (k3.elim (λ z=>.inr (.inl z)) λ z=>.inr (.inr z))
     refine⟨u,r,.inr ⟨iS k2,?_⟩⟩
     rcases lk with⟨z,_⟩|⟨_,c,ec,P9⟩
     ·rcases k3 with k3|k3<;>(rw[z]at k3;cases k3)
     ·have hm:(y,Ń)∈scope.names:=by
       have:∀ {names:Á (Str × iW)},names.lookup y=À Ń->(y,Ń)∈names:=by
        intro names
        induction names with
        | nil=>intro h;simp at h
        | cons q r ih=>
         intro h
         obtain⟨n,k⟩:=q
         rw[ĕ]at h
         split at h
         ·rename_i hy
          have:y=n:=by simpa using hy
          subst this
          cases h
          exact ģ
         ·exact õ _ (ih h)
       exact this k2
      obtain⟨c',XF⟩:=MA _ hm rfl
      have:c'=c:=by
       have:=zD _ _ XF
       rw[ec]at this
       exact(è this).symm
      subst this
      obtain⟨o,ho,hd⟩:=P9
      exact⟨c',of_cl _ _ (by rw[k2];intro z;cases z) XF,o,old _ _ ho,hd⟩
  cell:=λ x c e=>by
   rcases cs_of x c e with⟨_,q,_⟩|⟨_,q⟩
   ·exact⟨none,q⟩
   ·obtain⟨v,o,ho,hd⟩:=I3.cell x c (zD x c q)
    exact⟨v,o,old _ _ ho,hd⟩
  free:=H3C
  kB:=λ x c e=>by
   rcases cs_of x c e with⟨_,_,q⟩|⟨_,q⟩
   ·exact I3.ļ.fresh (by rw[hC];lia)
   ·exact I3.kB x c (zD x c q)
  pin:=λ p hp=>nomatch hp
  ļ:=I3.ļ.kept old
  len:=by show(List.map _ l).length=(List.map _ l).length;rw[Õ,Õ] }
 have st4:tn 0 h4:=T.keep _ _ _ GH λ b _ o e=>old b o e
 have loop:∀ s4:Ò,s4={ s3 with heap:=h4 }->
   eM (Ý X.prog X.w) X.A (.compLoop e 0 (.ref it) (.ref D) (Pg scope (own++cl) C X.env)) (RR C) s4:=by
  rintro s4 rfl
  refine zl hn Va (λ n s'=>∃ i ys bh H',Inv (ż X l scope (own++cl) C fp s3 H3) [] bh H' s'/\tn i s'.heap/\(∀ b∈fp,H' b=none)/\W i n ys bh H') ?_ m0
   ⟨0,y0,DB l σ,H3,I4,st4,λ b hb=>(vJ b hb).1,w0⟩
  rintro n s5 ⟨i,ys,Yc,H5,I5,S',XH,w5⟩
  rcases turn i n ys Yc H5 w5 with⟨stop,q⟩|⟨go,step⟩
  ·refine af (T.done (ż X l scope (own++cl) C fp s3 H3) rfl rfl rfl mN i [] s5 Yc H5 _ I5 (fpX XH) S' stop) λ r s6 zz=>?_
   obtain⟨hr,I6⟩:=zz
   subst hr
   obtain⟨m6,hn6,_⟩:=I6.loc
   have u:Un (Ax X.stack) fp H3 H5 s3.heap s6.heap:=I6.base
   refine SY C s6 H5 q ⟨m6,hn6⟩ (I3.TQ (s':=s6) (ch:=fp) I6.os u I6.ļ I6.bare λ b hb=>⟨(vJ b hb).2.2.2.1,(vJ b hb).2.1,(vJ b hb).2.2.2.2.1,(vJ b hb).2.2.2.2.2⟩) ?_
   have hle:s3.heap.objs.size<=C:=kF hC
   have f0:=I3.CK (H':=H5) hle I6.free
   exact f0
  ·refine af (T.item (ż X l scope (own++cl) C fp s3 H3) rfl rfl rfl mN i [] s5 Yc H5 _ I5 (fpX XH) S' go) λ r s6 zz=>?_
   obtain⟨u,hr,h6⟩:=zz
   subst hr
   refine af h6 λ _ s7 zz=>?_
   obtain⟨x,H7,I7,r7,y7,st7,fr7⟩:=zz
   have I7':=I7.pinned (fpX fr7) (T.obj _ _ st7)
   have back:∀ {SE:St}{H8:Hp}{s8:Ò},Inv (ż X l scope (own++cl) C fp s3 H3) ([]++wb fp s7.heap) SE H8 s8->Inv (ż X l scope (own++cl) C fp s3 H3) [] SE H8 s8/\tn (i+1) s8.heap/\∀ b∈fp,H8 b=none:=λ {SE H8 s8} I8=>by
    refine⟨I8.rE,T.keep _ _ _ st7 λ b hb o e=>(I8.pin (b,o) (Ĥ _ (Ĥ _ (mD hb e)))).1,λ b hb=>?_⟩
    obtain⟨o,e,d⟩:=T.obj _ _ st7 b hb
    exact(I8.pin (b,o) (Ĥ _ (Ĥ _ (mD hb e)))).2.1
   refine af (hg (own++cl) C fp s3 H3 _ s7 Yc H7 x u _ I7' r7 (step x H7 y7)) λ _ s8 zz=>?_
   obtain⟨SE,H8,I8,q8⟩:=zz
   refine af (ht (own++cl) C fp s3 H3 _ s8 SE H8 _ I8 q8) λ ok s9 zz=>?_
   obtain⟨H9,I9,q9⟩:=zz
   cases ok with
   | false=>
    rw[Ö (by decide)]at q9 ⊢
    obtain⟨m',hm,w9⟩:=q9
    obtain⟨z1,z2,z3⟩:=back I9
    exact⟨m',hm,i+1,ys,SE,H9,z1,z2,z3,w9⟩
   | true=>
    rw[Ñ rfl]at q9 ⊢
    refine af (hb (own++cl) C fp s3 H3 _ s9 i n ys SE H9 I9 q9) λ _ s11 zz=>?_
    obtain⟨m',Yb,bh,H',hm,I11,w10⟩:=zz
    obtain⟨z1,z2,z3⟩:=back I11
    exact⟨m',hm,i+1,Yb,bh,_,z1,z2,z3,w10⟩
 exact xo hn hgc has (loop _ rfl) (T.self _ 0 _ _ _ st4 (loop _ rfl))
theorem LR {Y:Cx}{te:TE}(he:PE Y g0 te)(hxe:Y.xe=λ _ _=>False){ys:Á V}{Ä:Á (Addr × Obj)}{σ:St}{N:V->Hp->Prop}(I:Inv Y Ä σ H s)
  (h:te σ H λ v H6=>H6 D=À (.lst ys)/\ys.length < sizeLine/\N v (upd H6 D (.lst (ys++[v])))) :
  Ù (Ý Y.prog Y.w) Y.A (Ć g0 Y.env >>= λ x=>call (.builtin "list.append") [.ref D,x] >>= λ _=>pure Yk) (λ _ s'=>∃ v H',Inv Y Ä σ H' s'/\N v H') (λ _ _=>False) s:=by
 have h1:=he Ä s σ H _ I h
 rw[hxe]at h1
 refine Â (af h1 λ xv s10 zz=>jA zz λ v H10 I10 Wr q10=>?_)
 obtain⟨Zj,hz,w10⟩:=q10
 have h2:=yq _ s10 σ H10 (.ref D) [v] (.ref D) [xv] (λ z H'=>z=.Ē/\H'=upd H10 D (.lst (ys++[v]))) I10 rfl (.cons Wr .nil) ⟨D,ys,v,rfl,rfl,Zj,hz,rfl,rfl⟩
 rw[hxe]at h2
 refine Â (af h2 λ _ s11 XJ=>?_)
 obtain⟨_,H11,I11,_,_,e11⟩:=XJ
 subst e11
 exact Í ⟨v,_,I11,w10⟩
theorem xS {X:Cx}{ifs:Á ń}{scope:Scope}{cl:Á (Str × Addr)}{l:Á (Str × Ë Nat)}{g:TG}{tt:TT}{te:TE}
  (abk:qr scope X.env=pure cl) (zD:∀ y c,cl.lookup y=À c->X.env.cells.lookup y=À c) (MA:∀ x∈scope.names,x.2=.free->∃ c,cl.lookup x.1=À c)
  (Bn:scope.kind=.function) (ya:∀ y∈scope.names,y.2=.cell->scope.names.lookup y.1=À .cell) (mN:X.calm=true) (Qi:kq X scope l)
  (hg:∀ cl C fp s3 H3,PG (ż X l scope cl C fp s3 H3) tg g) (ht:∀ cl C fp s3 H3,Li (ż X l scope cl C fp s3 H3) ifs tt) (he:∀ cl C fp s3 H3,PE (ż X l scope cl C fp s3 H3) g0 te)
  {Ä:Á (Addr × Obj)}{σ:St}{s:Ò}{fp:Á Addr}{tn:Nat->Heap->Prop}{J:It}{Q:Addr->Hp->Prop}{RR:Value->Addr->Tg->Ò->Prop}{E:Value->Ò->Prop}
  (I:Inv X Ä σ H s) (T:Turn X.prog X.w X.K tg J fp it tn) (st:tn 0 s.heap) (hfp:∀ b∈fp,uo X Ä H b)
  (hw:OE l g tt te J σ H Q)
  (SY:∀ D C (s':Ò) (H':Hp),Q D H'->(∃ m,s'.heap.Ns C m)->Inv X Ä σ H' s'->uo X Ä H' C->RR (.ref D) C (.ok .next) s') :
  Ù (Ý X.prog X.w) X.A (Xi []) (λ acc s₃=>Ù (Ý X.prog X.w) X.A (uk scope X.env.globals cl [] X.env.qual none .none (À X.env)) (λ Hu s₄=>
   eM (Ý X.prog X.w) X.A (.compStart (.ListComp g0 [⟨tg,iter,ifs,0⟩] scope pos) 0 (.ref it) acc { Hu with scope:=relabel scope X.env }) (RR acc Hu.locals) s₄) E s₃) E s:=by
 refine kn ?_ (by show 0<=sizeLine;exact ñ _)
 have I3:Inv X Ä σ (upd H s.heap.objs.size (.lst [])) { s with heap:=s.heap.push { cls:=.type "list",data:=.seq ([]:Á Value).toArray } }:=
  I.Qw (its:=[]) (ys:=[]) (t':=s.toks) .nil (ñ _)
 have hD:H s.heap.objs.size=none:=I.fresh
 obtain⟨W,⟨m0,w0⟩,turn⟩:=hw _ hD
 have fpD:∀ b∈fp,b≠s.heap.objs.size:=λ b hb z=>by
  obtain⟨o,ho,_⟩:=T.obj _ _ st b hb
  exact absurd (Ð ho) (by rw[z];exact Ņ _)
 have vJ:∀ b∈fp,uo X Ä (upd H s.heap.objs.size (.lst [])) b:=λ b hb=>⟨by rw[ã (fpD b hb)];exact(hfp b hb).1,(hfp b hb).2⟩
 have GH:tn 0 (s.heap.push { cls:=.type "list",data:=.seq ([]:Á Value).toArray }):=T.keep _ _ _ st λ b _ o e=>Ã _ e
 refine Hw (α:=Á V) (B:=λ i m ys σ H5=>te σ H5 λ v H6=>H6 s.heap.objs.size=À (.lst ys)/\ys.length < sizeLine/\∃ m',m' < m/\W (i+1) m' (ys++[v]) σ (upd H6 s.heap.objs.size (.lst (ys++[v])))) (Q:=Q s.heap.objs.size) (p:=iter.pos) (body:=λ acc env=>Ć g0 env >>= λ x=>call (.builtin "list.append") [acc,x] >>= λ _=>pure Yk)
  (.inl ⟨_,_,_,_,rfl⟩) (λ _ _ _=>rfl) rfl rfl zD MA Bn ya mN Qi hg ht (λ cl C fp s3 H3 Ä s' i m ys σ H I h=>?_) I3 T GH vJ w0 turn λ C s' H' q=>SY _ C s' H' q
 refine af (LR (N:=λ v H'=>∃ m',m' < m/\W (i+1) m' (ys++[v]) σ H') (he cl C fp s3 H3) rfl I h) λ _ s11 ⟨v,H',I',m',hm,w'⟩=>⟨m',_,_,H',hm,I',w'⟩
def Kn (l:Á (Str × Ë Nat)) (wi:TI)(g:TG)(tt:TT)(te:TE):TE:=λ σ H Q=>Sf l wi g tt te σ H λ D H'=>Q (.ref D) H'
section
variable {X:Cx}{g0 tg iter:ń}{ifs:Á ń}{scope:Scope}{pos:mT}{wi:TI}{g:TG}{tt:TT}{te:TE}
structure eY (X:Cx)(scope:Scope)(l:Á (Str × Ë Nat)):Prop where
 kind:scope.kind=.function
 cell:∀ y∈scope.names,y.2=.cell->scope.names.lookup y.1=À .cell
 names:∀ y∈scope.names,y.2=.local->scope.names.lookup y.1=À .local
 free:∀ y∈scope.names,y.2=.free->X.env.kindOf y.1=À .cell∨X.env.kindOf y.1=À .free
 src:kq X scope l
theorem Ny (l:Á (Str × Ë Nat)) (Bp:eY X scope l)(mN:X.calm=true)(hi:PI X tg iter wi)
  (hg:∀ cl C fp s3 H3,PG (ż X l scope cl C fp s3 H3) tg g) (ht:∀ cl C fp s3 H3,Li (ż X l scope cl C fp s3 H3) ifs tt) (he:∀ cl C fp s3 H3,PE (ż X l scope cl C fp s3 H3) g0 te)
  (hs:∀ x,eO iter X.env x=pure x:=by intro _;rfl) :
  PE X (.ListComp g0 [⟨tg,iter,ifs,0⟩] scope pos) (Kn l wi g tt te):=by
 intro Ä s σ H Q I h
 obtain⟨cl,e1,e2,e3⟩:=oY (scope:=scope) (env:=X.env) λ x hx hf=>I.ok.has x.1 (Bp.free x hx hf)
 rw[eval_ListComp]
 refine G9 (use:=none) rfl hs e1 Bp.kind Bp.names (af (hi Ä s σ H _ I h) λ v s1 h1=>af h1 λ X1 s2 h2=>?_)
 obtain⟨it,fp,tn,J,H2,e,I2,T,G0,f2,hw⟩:=h2
 subst e
 refine xS (RR:=λ acc C=>compPost (Ý X.prog X.w) X.A X.xe none (EP X Ä σ Q) acc C) e1 e2 e3 Bp.kind Bp.cell mN Bp.src hg ht he I2 T G0 f2 hw ?_
 intro D C s' H' q ⟨m,hn⟩ I' f'
 refine⟨m,hn,λ h' Zt=>?_⟩
 exact⟨.ref D,H',I'.turned (t':=s'.toks) (λ b o hb e=>(Zt.2 b hb).trans e) f'.1 f'.2.1 f'.2.2.2.1 f'.2.2.2.2.1 f'.2.2.2.2.2,rfl,q⟩
theorem Dm (l:Á (Str × Ë Nat)) (Bp:eY X scope l)(mN:X.calm=true)(hN:X.N.Nodup)(hy:X.N[i]? = À y)(hx:X.env.scope.names.lookup y=À .local)(hi:PI X tg iter wi)
  (hg:∀ cl C fp s3 H3,PG (ż X l scope cl C fp s3 H3) tg g) (ht:∀ cl C fp s3 H3,Li (ż X l scope cl C fp s3 H3) ifs tt) (he:∀ cl C fp s3 H3,PE (ż X l scope cl C fp s3 H3) g0 te)
  (Zu:eB (.ListComp g0 [⟨tg,iter,ifs,0⟩] scope pos) (À (.Name y py)) Sa.line X.env=pure true)
  (hs:∀ x,eO iter X.env x=pure x:=by intro _;rfl) :
  PS X (.Assign [.Name y py] (.ListComp g0 [⟨tg,iter,ifs,0⟩] scope pos) Sa) (Og (Kn l wi g tt te) (Eh i)):=by
 intro Ä s σ H D0 I h
 obtain⟨cl,e1,e2,e3⟩:=oY (scope:=scope) (env:=X.env) λ x hx hf=>I.ok.has x.1 (Bp.free x hx hf)
 rw[exec_Assign_Name_used _ _ _ _ Zu]
 refine Â (eF (Â ?_))
 show Ù _ X.A (do let _ <-comprehension (.ListComp g0 [⟨tg,iter,ifs,0⟩] scope pos) scope X.env _ (Xi []) false (Ć iter X.env) (À (lu (.Name y py) X.env))) _ _ s
 refine Â (af (G9 (use:=À (lu (.Name y py) X.env)) (Q:=λ _ s'=>SP X Ä D0 .next s') rfl hs e1 Bp.kind Bp.names
  (af (hi Ä s σ H _ I h) λ v s1 h1=>af h1 λ X1 s2 h2=>?_)) λ _ s' hq=>Í (Í hq))
 obtain⟨it,fp,tn,J,H2,e,I2,T,G0,f2,hw⟩:=h2
 subst e
 refine xS (RR:=λ acc C=>compPost (Ý X.prog X.w) X.A X.xe (À (lu (.Name y py) X.env)) (λ _ s'=>SP X Ä D0 .next s') acc C) e1 e2 e3 Bp.kind Bp.cell mN Bp.src hg ht he I2 T G0 f2 hw ?_
 intro D C s' H' q ⟨m,hn⟩ I' f'
 show Ù _ X.A (lu (.Name y py) X.env (.ref D)) _ _ _
 refine Xn (yD (v:=.ref D) I' hN hy (.inl hx) rfl (λ Dv I'' hk=>?_) (.inr hx))
 obtain⟨a,hsb,ha⟩:=hk
 have hCa:C≠a:=by
  rintro rfl
  rcases ha with z|z
  ·exact f'.2.1 z
  ·exact f'.2.2.2.2.1 y _ z rfl
 refine⟨m,hn.sameBut hsb hCa,λ h' Zt=>?_⟩
 exact⟨_,H',I''.turned (t':=Dv.toks) (λ b o hb e=>(Zt.2 b hb).trans e) f'.1 f'.2.1 f'.2.2.2.1 f'.2.2.2.2.1 f'.2.2.2.2.2,q⟩
end
def fA (n:Nat)(i:Int):Prop:=i.natAbs < 2 ^ n
theorem fA.mono (h:fA n i)(k:n<=m):fA m i:=ä h (Nat.pow_le_pow_right (by decide) k)
theorem fA.mul (h:fA n i)(k:fA m j):fA (n+m) (i * j):=by
 unfold fA at *
 rw[qj,Nat.pow_add]
 exact Nat.mul_lt_mul'' h k
theorem fA.add (h:fA n i)(k:fA n j):fA (n+1) (i+j):=by
 unfold fA at *
 have:=Int.natAbs_add_le i j
 rw[Nat.pow_succ]
 lia
theorem fA.le (h:fA n i)(k:j.natAbs<=i.natAbs):fA n j:=bw k h
theorem fA.bits (h:fA n i):bM i<=n:=by
 unfold bM
 split
 ·exact ñ _
 ·rename_i hz
  have h0:i.natAbs≠0:=by
   intro z
   apply hz
   have:i=0:=by lia
   simp[this]
  have:=(aaG h0).mpr h
  lia
theorem fA.log (h:fA n i)(hn:0 < n):i.natAbs.log2 < n:=by
 by_cases h0:i.natAbs=0
 ·rw[h0]
  show Nat.log2 0 < n
  have:Nat.log2 0=0:=by decide
  rw[this];exact hn
 ·exact(aaG h0).mpr h
theorem fA.VX (h:fA 60000000 i)(k:fA 60000000 j):IntMulOk i j:=by
 have h1:=h.bits
 have h2:=k.bits
 unfold IntMulOk
 have e:xH (((bM i+bM j:Nat)):Int)=false:=by
  unfold xH
  refine ÿ ?_
  show ¬ ((((bM i+bM j:Nat)):Int) > (((2 ^ 27:Nat)):Int))
  have:(2 ^ 27:Nat)=134217728:=by decide
  lia
 simp[e]
 try (intro _ _;exact_mod_cast e)
theorem xX (h1:-(2 ^ n) < i) (h2:i < 2 ^ n):fA n i:=by
 unfold fA
 have e:((2 ^ n:Nat):Int)=(2:Int) ^ n:=by
  rw[Int.natCast_pow];rfl
 have:(i.natAbs:Int) < ((2 ^ n:Nat):Int):=by rw[e];lia
 exact_mod_cast this
section
variable {X:Cx}
theorem Nu:kI X (bO .Mult) (rI (λ i j=>fA 60000000 i/\fA 60000000 j) λ i j=>.int (i * j)):=X5 λ _ _ _ _ _ _ _ hc q=>mul_int q (hc.1.VX hc.2)
theorem Jy:kI X (bO .FloorDiv) (rI (λ _ j=>j≠0/\fA 9000 j) λ i j=>.int (i.fdiv j)):=X5 λ _ _ _ _ _ _ _ hc q=>floordiv_int hc.1 q (.inl (yN (hc.2.log (by decide))))
theorem zh:cq X (.builtin "divmod") (λ xs H Q=>∃ i j,xs=[.int i,.int j]/\(0 < j/\fA 9000 j)/\∀ p,H p=none->Q (.ref p) (upd H p (.tup [.int (i / j),.int (i % j)]))):=by
 intro Ä s σ H xs us Q I r h
 obtain⟨i,j,rfl,⟨h1,h2⟩,q⟩:=h
 obtain⟨u,w',rfl,⟨t,rfl⟩,⟨t',rfl⟩⟩:=vals2 r
 refine divmod_int (by lia) ?_ (.inl (yN (h2.log (by decide))))
 rw[Int.fdiv_eq_ediv_of_nonneg i (by lia),ll i (by lia)]
 have hn:H s.heap.objs.size=none:=I.ļ.fresh (Ï _)
 refine⟨.ref s.heap.objs.size,_,?_,rfl,q _ hn⟩
 refine I.laid (λ b o e=>Ã _ e) (Ï _) ⟨by simp only[č,aO];rw[ġ];decide,[.int (i / j) s.toks,.int (i % j) (s.toks+1)],.cons ⟨_,rfl⟩ (.cons ⟨_,rfl⟩ .nil),?_⟩
 exact⟨_,Ø s.heap rfl,rfl,0,rfl⟩
theorem A2:∀ {bs:Á Bool}{us:Á Value},Vals (bs.map V.bl) us->∀ (i:Nat)(v:Value),us[i]? = À v->∃ b:Bool,bs[i]? = À b/\v=fD b
 | [],us,r,i,v,e=>by
  cases r
  simp at e
 | b :: bs,us,r,i,v,e=>by
  cases r with
  | cons r1 r2=>
   cases i with
   | zero=>
    simp at e
    subst e
    exact⟨b,rfl,r1⟩
   | succ i=>
    obtain⟨b',e1,e2⟩:=A2 r2 i v (by simpa using e)
    exact⟨b',by simpa using e1,e2⟩
theorem Dp (bs:Á Bool):((Ă bs.length).all λ i=>(bs[i]?).getD true)=bs.all id:=by
 rw[jW,ă,ă]
 constructor
 ·intro h b hb
  obtain⟨i,hi,e⟩:=ĩ hb
  have:=h i (qf.mpr hi)
  simp only[Å hi,uJ,e]at this
  exact this
 ·intro h i hi
  have Es:=qf.mp hi
  simp only[Å Es,uJ]
  exact h _ (m9 Es)
theorem FE (hc:X.calm=true):cq X (.builtin "all") (λ xs H Q=>∃ (a:Addr) (bs:Á Bool),xs=[.ref a]/\fZ X.K H a (bs.map V.bl)/\Q (.bl (bs.all id)) H):=by
 intro Ä s σ H xs us Q I r h
 obtain⟨a,bs,rfl,ha,q⟩:=h
 obtain⟨u,rfl,ru⟩:=vals1 r
 cases ru
 obtain⟨its,rv,p,hz⟩:=I.list ha
 have hl:=p.isList
 have Bo:a < s.heap.objs.size:=by obtain⟨_,e,_⟩:=hl;exact Ð e
 refine call_all_walk (y_ hl ?_)
 refine⟨s.heap.objs.size,[s.heap.objs.size,a],[s.heap.objs.size],its.toArray.size,_,_,λ i=>(bs[i]?).getD true,rfl,Walks.list (A:=X.A.in1) (I.ok.hd hc) _ a (ç Bo) its.toArray,
  ⟨⟨_,Ø _ rfl,rfl,rfl⟩,hl.push _⟩,λ i v s' Q' E' hP hQ=>?_,λ h' tk hk=>?_⟩
 ·obtain⟨b,e,rfl⟩:=A2 rv i v (by simpa using hP)
  simp only[e,uJ]at hQ
  exact cy hQ
 ·have e:((Ă its.toArray.size).all λ i=>(bs[i]?).getD true)=bs.all id:=by
   rw[Ú,<-rv.length,Õ];exact Dp bs
  rw[e]
  refine⟨.bl _,H,I.kept (t':=tk) λ b x e=>hk b x (λ hm=>?_) (Ã _ e),rfl,q⟩
  rw[ò.mp hm]at e
  exact Ņ _ (Ð e)
end
inductive Dt where
 | Ē|bl (b:Bool)|int (i:Int)|str (x:Str)|tup (l:Á Dt)|lst (l:Á Dt)
mutual
def Dt.dep:Dt->Nat
 | .tup l=>a_ l+1
 | .lst l=>a_ l+1
 | _=>0
def a_:Á Dt->Nat
 | []=>0
 | d :: r=>max d.dep (a_ r)
end
mutual
def cS:Dt->Dt->Bool
 | .Ē,.Ē=>true
 | .bl a,.bl b=>a == b
 | .bl a,.int b=>(if a then 1 else 0) == b
 | .int a,.bl b=>a == (if b then 1 else 0)
 | .int a,.int b=>a == b
 | .str a,.str b=>a == b
 | .tup a,.tup b=>eU a b
 | .lst a,.lst b=>eU a b
 | _,_=>false
def eU:Á Dt->Á Dt->Bool
 | [],[]=>true
 | a :: r,b :: q=>cS a b && eU r q
 | _,_=>false
end
mutual
def Rep (K:É)(N:Addr->Prop)(H:Hp):Dt->V->Prop
 | .Ē,v=>v=.Ē
 | .bl b,v=>v=.bl b
 | .int i,v=>v=.int i
 | .str x,v=>v=.str x
 | .tup l,v=>∃ a xs,v=.ref a/\¬ N a/\hZ K H a xs/\cY K N H l xs
 | .lst l,v=>∃ a xs,v=.ref a/\¬ N a/\fZ K H a xs/\cY K N H l xs
def cY (K:É)(N:Addr->Prop)(H:Hp):Á Dt->Á V->Prop
 | [],xs=>xs=[]
 | d :: r,xs=>∃ x ys,xs=x :: ys/\Rep K N H d x/\cY K N H r ys
end
def xM (N:Addr->Prop)(H H':Hp):Prop:=∀ b o,H b=À o->¬ N b->H' b=À o
theorem xM.WD {K:É}{N:Addr->Prop}(s:xM N H H')(n:¬ N a)(h:hZ K H a xs):hZ K H' a xs:=by
 rcases h with(h|⟨o,h⟩)|h
 ·exact .inl (.inl (s _ _ h n))
 ·exact .inl (.inr ⟨o,s _ _ h n⟩)
 ·exact .inr h
theorem xM.GF {K:É}{N:Addr->Prop}(s:xM N H H')(n:¬ N a)(h:fZ K H a xs):fZ K H' a xs:=by
 rcases h with(h|⟨o,h⟩)|h
 ·exact .inl (.inl (s _ _ h n))
 ·exact .inl (.inr ⟨o,s _ _ h n⟩)
 ·exact .inr h
mutual
theorem Rep.same {K:É}{N:Addr->Prop}(s:xM N H H'):∀ {d:Dt}{v:V},Rep K N H d v->Rep K N H' d v
 | .Ē,_,h=>h
 | .bl _,_,h=>h
 | .int _,_,h=>h
 | .str _,_,h=>h
 | .tup l,v,h=>by
  unfold Rep at h ⊢
  obtain⟨a,xs,e,n,q,r⟩:=h
  exact⟨a,xs,e,n,s.WD n q,cY.same s r⟩
 | .lst l,v,h=>by
  unfold Rep at h ⊢
  obtain⟨a,xs,e,n,q,r⟩:=h
  exact⟨a,xs,e,n,s.GF n q,cY.same s r⟩
theorem cY.same {K:É}{N:Addr->Prop}(s:xM N H H'):∀ {l:Á Dt}{xs:Á V},cY K N H l xs->cY K N H' l xs
 | [],_,h=>h
 | d :: r,xs,h=>by
  unfold cY at h ⊢
  obtain⟨x,ys,e,h1,h2⟩:=h
  exact⟨x,ys,e,Rep.same s h1,cY.same s h2⟩
end
theorem cY.length {K:É}{N:Addr->Prop}:∀ {l:Á Dt}{xs:Á V},cY K N H l xs->l.length=xs.length
 | [],xs,h=>by unfold cY at h;rw[h];rfl
 | d :: r,xs,h=>by
  unfold cY at h
  obtain⟨x,ys,rfl,_,h2⟩:=h
  rw[č,č,cY.length h2]
theorem cY.get {K:É}{N:Addr->Prop}:∀ {l:Á Dt}{xs:Á V}{i:Nat}{d:Dt},cY K N H l xs->l[i]? = À d->∃ x,xs[i]? = À x/\Rep K N H d x
 | [],xs,i,d,h,e=>by simp at e
 | d0 :: r,xs,0,d,h,e=>by
  unfold cY at h
  obtain⟨x,ys,rfl,h1,_⟩:=h
  simp at e
  subst e
  exact⟨x,rfl,h1⟩
 | d0 :: r,xs,i+1,d,h,e=>by
  unfold cY at h
  obtain⟨x,ys,rfl,_,h2⟩:=h
  obtain⟨y,e1,e2⟩:=cY.get (i:=i) h2 (by simpa using e)
  exact⟨y,by simpa using e1,e2⟩
theorem nF:∀ {l q:Á Dt},l.length≠q.length->eU l q=false
 | [],[],h=>absurd rfl h
 | [],_ :: _,_=>by simp[eU]
 | _ :: _,[],_=>by simp[eU]
 | a :: r,b :: q,h=>by
  simp only[eU]
  rw[nF (l:=r) (q:=q) (by simpa using h),qc]
theorem jz:∀ {l q:Á Dt},l.length=q.length->eU l q=(Ă l.length).all λ i=>match l[i]?,q[i]? with|some a,À b=>cS a b|_,_=>true
 | [],[],_=>by simp[eU]
 | a :: r,b :: q,h=>by
  simp only[eU]
  rw[jz (l:=r) (q:=q) (by simpa using h),č,List.range_succ_eq_map,Ő,List.all_map]
  simp[Function.comp_def]
theorem A8:∀ {l:Á Dt}{i:Nat}{d:Dt},l[i]? = À d->d.dep<=a_ l
 | [],i,d,e=>by simp at e
 | a :: r,0,d,e=>by simp at e;subst e;simp only[a_];exact Nat.le_max_left _ _
 | a :: r,i+1,d,e=>by
  have:=A8 (l:=r) (i:=i) (d:=d) (by simpa using e)
  simp only[a_]
  exact ě this (Nat.le_max_right _ _)
section
variable {X:Cx}{Ä:Á (Addr × Obj)}{σ:St}{H:Hp}{s:Ò}{N N':Addr->Prop}
theorem BD (I:Inv X Ä σ H s)(h:fZ X.K H a xs)(k:hZ X.K H a ys):False:=by
 obtain⟨its,_,p,_⟩:=I.list h
 obtain⟨eV,_,q,_⟩:=I.tuple k
 obtain⟨o,e,c,_⟩:=p.isList
 obtain⟨o2,e2,c2,_⟩:=q
 rw[e]at e2
 cases e2
 rw[c]at c2
 injection c2 with z
 exact absurd z (by decide)
mutual
theorem Rep.inj (I:Inv X Ä σ H s):∀ {d e:Dt}{v:V},Rep X.K N H d v->Rep X.K N' H e v->d=e
 | .Ē,.Ē,_,_,_=>rfl
 | .Ē,.bl _,_,h,k=>by unfold Rep at h k;rw[h]at k;cases k
 | .Ē,.int _,_,h,k=>by unfold Rep at h k;rw[h]at k;cases k
 | .Ē,.str _,_,h,k=>by unfold Rep at h k;rw[h]at k;cases k
 | .Ē,.tup _,_,h,k=>by unfold Rep at h k;obtain⟨_,_,e,_⟩:=k;rw[h]at e;cases e
 | .Ē,.lst _,_,h,k=>by unfold Rep at h k;obtain⟨_,_,e,_⟩:=k;rw[h]at e;cases e
 | .bl _,.Ē,_,h,k=>by unfold Rep at h k;rw[h]at k;cases k
 | .bl x,.bl y,_,h,k=>by unfold Rep at h k;rw[h]at k;cases k;rfl
 | .bl _,.int _,_,h,k=>by unfold Rep at h k;rw[h]at k;cases k
 | .bl _,.str _,_,h,k=>by unfold Rep at h k;rw[h]at k;cases k
 | .bl _,.tup _,_,h,k=>by unfold Rep at h k;obtain⟨_,_,e,_⟩:=k;rw[h]at e;cases e
 | .bl _,.lst _,_,h,k=>by unfold Rep at h k;obtain⟨_,_,e,_⟩:=k;rw[h]at e;cases e
 | .int _,.Ē,_,h,k=>by unfold Rep at h k;rw[h]at k;cases k
 | .int _,.bl _,_,h,k=>by unfold Rep at h k;rw[h]at k;cases k
 | .int x,.int y,_,h,k=>by unfold Rep at h k;rw[h]at k;cases k;rfl
 | .int _,.str _,_,h,k=>by unfold Rep at h k;rw[h]at k;cases k
 | .int _,.tup _,_,h,k=>by unfold Rep at h k;obtain⟨_,_,e,_⟩:=k;rw[h]at e;cases e
 | .int _,.lst _,_,h,k=>by unfold Rep at h k;obtain⟨_,_,e,_⟩:=k;rw[h]at e;cases e
 | .str _,.Ē,_,h,k=>by unfold Rep at h k;rw[h]at k;cases k
 | .str _,.bl _,_,h,k=>by unfold Rep at h k;rw[h]at k;cases k
 | .str _,.int _,_,h,k=>by unfold Rep at h k;rw[h]at k;cases k
 | .str x,.str y,_,h,k=>by unfold Rep at h k;rw[h]at k;cases k;rfl
 | .str _,.tup _,_,h,k=>by unfold Rep at h k;obtain⟨_,_,e,_⟩:=k;rw[h]at e;cases e
 | .str _,.lst _,_,h,k=>by unfold Rep at h k;obtain⟨_,_,e,_⟩:=k;rw[h]at e;cases e
 | .tup _,.Ē,_,h,k=>by unfold Rep at h k;obtain⟨_,_,e,_⟩:=h;rw[k]at e;cases e
 | .tup _,.bl _,_,h,k=>by unfold Rep at h k;obtain⟨_,_,e,_⟩:=h;rw[k]at e;cases e
 | .tup _,.int _,_,h,k=>by unfold Rep at h k;obtain⟨_,_,e,_⟩:=h;rw[k]at e;cases e
 | .tup _,.str _,_,h,k=>by unfold Rep at h k;obtain⟨_,_,e,_⟩:=h;rw[k]at e;cases e
 | .tup l,.tup q,_,h,k=>by
  unfold Rep at h k
  obtain⟨a,xs,rfl,_,h1,h2⟩:=h
  obtain⟨b,ys,e,_,k1,k2⟩:=k
  cases e
  have:=I.sY h1 k1
  subst this
  rw[cY.inj I h2 k2]
 | .tup _,.lst _,_,h,k=>by unfold Rep at h k;obtain⟨_,_,rfl,_,h1,_⟩:=h;obtain⟨_,_,e,_,k1,_⟩:=k;cases e;exact(BD I k1 h1).elim
 | .lst _,.Ē,_,h,k=>by unfold Rep at h k;obtain⟨_,_,e,_⟩:=h;rw[k]at e;cases e
 | .lst _,.bl _,_,h,k=>by unfold Rep at h k;obtain⟨_,_,e,_⟩:=h;rw[k]at e;cases e
 | .lst _,.int _,_,h,k=>by unfold Rep at h k;obtain⟨_,_,e,_⟩:=h;rw[k]at e;cases e
 | .lst _,.str _,_,h,k=>by unfold Rep at h k;obtain⟨_,_,e,_⟩:=h;rw[k]at e;cases e
 | .lst _,.tup _,_,h,k=>by unfold Rep at h k;obtain⟨_,_,rfl,_,h1,_⟩:=h;obtain⟨_,_,e,_,k1,_⟩:=k;cases e;exact(BD I h1 k1).elim
 | .lst l,.lst q,_,h,k=>by
  unfold Rep at h k
  obtain⟨a,xs,rfl,_,h1,h2⟩:=h
  obtain⟨b,ys,e,_,k1,k2⟩:=k
  cases e
  have:=I.vT h1 k1
  subst this
  rw[cY.inj I h2 k2]
theorem cY.inj (I:Inv X Ä σ H s):∀ {l q:Á Dt}{xs:Á V},cY X.K N H l xs->cY X.K N' H q xs->l=q
 | [],[],_,_,_=>rfl
 | [],_ :: _,_,h,k=>by unfold cY at h k;obtain⟨_,_,e,_⟩:=k;rw[h]at e;cases e
 | _ :: _,[],_,h,k=>by unfold cY at h k;obtain⟨_,_,e,_⟩:=h;rw[k]at e;cases e
 | a :: r,b :: q,xs,h,k=>by
  unfold cY at h k
  obtain⟨x,ys,rfl,h1,h2⟩:=h
  obtain⟨y,zs,e,k1,k2⟩:=k
  cases e
  rw[Rep.inj I h1 k1,cY.inj I h2 k2]
end
mutual
theorem vz:∀ d:Dt,cS d d=true
 | .Ē=>by simp[cS]
 | .bl _=>by simp[cS]
 | .int _=>by simp[cS]
 | .str _=>by simp[cS]
 | .tup l=>by simp only[cS];exact sy l
 | .lst l=>by simp only[cS];exact sy l
theorem sy:∀ l:Á Dt,eU l l=true
 | []=>by simp[eU]
 | d :: r=>by simp only[eU,vz d,sy r,Bool.and_self]
end
theorem lJ (ih:∀ (d e:Dt){v w:V}{u z:Value},d.dep<=k->Rep X.K N H d v->Rep X.K N' H e w->RelV v u->RelV w z->sj A s u z (cS d e))
  {l q:Á Dt}{its eV:Á Value}(hd:a_ l<=k) (h:cY X.K N H l xs) (h':cY X.K N' H q ys) (r:Vals xs its) (r':Vals ys eV) :
  ∀ j (h1:j < its.toArray.size) (h2:j < eV.toArray.size),sj A s its.toArray[j] eV.toArray[j] (match l[j]?,q[j]? with|some a,À b=>cS a b|_,_=>true):=by
 intro j h1 h2
 have n1:l.length=its.length:=h.length.trans r.length
 have n2:q.length=eV.length:=h'.length.trans r'.length
 have j1:j < l.length:=by rw[n1];simpa using h1
 have j2:j < q.length:=by rw[n2];simpa using h2
 obtain⟨x,ex,rx⟩:=h.get (Å j1)
 obtain⟨y,ey,ry⟩:=h'.get (Å j2)
 obtain⟨u,eu,ru⟩:=r.get ex
 obtain⟨z,ez,rz⟩:=r'.get ey
 rw[Å j1,Å j2]
 have e1:its.toArray[j]=u:=by
  have:=Æ.mp eu
  obtain⟨_,e⟩:=this
  simpa using e
 have e2:eV.toArray[j]=z:=by
  have:=Æ.mp ez
  obtain⟨_,e⟩:=this
  simpa using e
 rw[e1,e2]
 exact ih _ _ (ě (A8 (Å j1)) hd) rx ry ru rz
theorem pH {l q:Á Dt}{its eV:Á Value}(h:cY X.K N H l xs)(h':cY X.K N' H q ys)(r:Vals xs its)(r':Vals ys eV) :
  ((Ă (min its.toArray.size eV.toArray.size)).all (λ j=>match l[j]?,q[j]? with|some a,À b=>cS a b|_,_=>true) && its.toArray.size == eV.toArray.size)=eU l q:=by
 have n1:l.length=its.toArray.size:=by simpa using h.length.trans r.length
 have n2:q.length=eV.toArray.size:=by simpa using h'.length.trans r'.length
 rw[<-n1,<-n2]
 by_cases hn:l.length=q.length
 ·rw[jz hn,hn,Nat.min_self]
  simp
 ·rw[nF hn]
  have:(l.length == q.length)=false:=by simpa using hn
  rw[this,qc]
theorem zu (I:Inv X Ä σ H s):∀ (k:Nat) (A:į),A.units+k < cLine->∀ (d e:Dt) {v w:V}{u z:Value},d.dep<=k->Rep X.K N H d v->Rep X.K N' H e w->RelV v u->RelV w z->sj A s u z (cS d e):=by
 intro k
 induction k with
 | zero=>
  intro A hA d e v w u z hd h h' r r'
  have hu:A.units < cLine:=by lia
  cases d with
  | tup l=>exact absurd hd (by simp[Dt.dep])
  | lst l=>exact absurd hd (by simp[Dt.dep])
  | Ē=>
   unfold Rep at h
   subst h
   cases e with
   | Ē=>
    unfold Rep at h'
    subst h'
    have:=œ (A:=A) (s:=s) r r' rfl rfl
    simpa[cS,kR]using this
   | bl y=>
    unfold Rep at h'
    subst h'
    have:=œ (A:=A) (s:=s) r r' rfl rfl
    simpa[cS,kR]using this
   | int y=>
    unfold Rep at h'
    subst h'
    have:=œ (A:=A) (s:=s) r r' rfl rfl
    simpa[cS,kR]using this
   | str y=>
    unfold Rep at h'
    subst h'
    have:=œ (A:=A) (s:=s) r r' rfl rfl
    simpa[cS,kR]using this
   | tup y=>
    unfold Rep at h'
    obtain⟨a,xs,rfl,_,q1,_⟩:=h'
    cases r'
    obtain⟨its,_,p,_⟩:=I.tuple q1
    cases r
    simp only[cS]
    exact yR p hu
   | lst y=>
    unfold Rep at h'
    obtain⟨a,xs,rfl,_,q1,_⟩:=h'
    cases r'
    obtain⟨its,_,p,_⟩:=I.list q1
    cases r
    simp only[cS]
    exact Au p.isList hu
  | bl x=>
   unfold Rep at h
   subst h
   cases e with
   | Ē=>
    unfold Rep at h'
    subst h'
    have:=œ (A:=A) (s:=s) r r' rfl rfl
    simpa[cS,kR]using this
   | bl y=>
    unfold Rep at h'
    subst h'
    have:=œ (A:=A) (s:=s) r r' rfl rfl
    simpa[cS,kR]using this
   | int y=>
    unfold Rep at h'
    subst h'
    have:=œ (A:=A) (s:=s) r r' rfl rfl
    simpa[cS,kR]using this
   | str y=>
    unfold Rep at h'
    subst h'
    have:=œ (A:=A) (s:=s) r r' rfl rfl
    simpa[cS,kR]using this
   | tup y=>
    unfold Rep at h'
    obtain⟨a,xs,rfl,_,q1,_⟩:=h'
    cases r'
    obtain⟨its,_,p,_⟩:=I.tuple q1
    cases r
    simp only[cS]
    exact yQ x p hu
   | lst y=>
    unfold Rep at h'
    obtain⟨a,xs,rfl,_,q1,_⟩:=h'
    cases r'
    obtain⟨its,_,p,_⟩:=I.list q1
    cases r
    simp only[cS]
    exact Ar x p.isList hu
  | int x=>
   unfold Rep at h
   subst h
   cases e with
   | Ē=>
    unfold Rep at h'
    subst h'
    have:=œ (A:=A) (s:=s) r r' rfl rfl
    simpa[cS,kR]using this
   | bl y=>
    unfold Rep at h'
    subst h'
    have:=œ (A:=A) (s:=s) r r' rfl rfl
    simpa[cS,kR]using this
   | int y=>
    unfold Rep at h'
    subst h'
    have:=œ (A:=A) (s:=s) r r' rfl rfl
    simpa[cS,kR]using this
   | str y=>
    unfold Rep at h'
    subst h'
    have:=œ (A:=A) (s:=s) r r' rfl rfl
    simpa[cS,kR]using this
   | tup y=>
    unfold Rep at h'
    obtain⟨a,xs,rfl,_,q1,_⟩:=h'
    cases r'
    obtain⟨its,_,p,_⟩:=I.tuple q1
    obtain⟨t,rfl⟩:=r
    simp only[cS]
    exact As x t p hu
   | lst y=>
    unfold Rep at h'
    obtain⟨a,xs,rfl,_,q1,_⟩:=h'
    cases r'
    obtain⟨its,_,p,_⟩:=I.list q1
    obtain⟨t,rfl⟩:=r
    simp only[cS]
    exact AL x t p.isList hu
  | str x=>
   unfold Rep at h
   subst h
   cases e with
   | Ē=>
    unfold Rep at h'
    subst h'
    have:=œ (A:=A) (s:=s) r r' rfl rfl
    simpa[cS,kR]using this
   | bl y=>
    unfold Rep at h'
    subst h'
    have:=œ (A:=A) (s:=s) r r' rfl rfl
    simpa[cS,kR]using this
   | int y=>
    unfold Rep at h'
    subst h'
    have:=œ (A:=A) (s:=s) r r' rfl rfl
    simpa[cS,kR]using this
   | str y=>
    unfold Rep at h'
    subst h'
    have:=œ (A:=A) (s:=s) r r' rfl rfl
    simpa[cS,kR]using this
   | tup y=>
    unfold Rep at h'
    obtain⟨a,xs,rfl,_,q1,_⟩:=h'
    cases r'
    obtain⟨its,_,p,_⟩:=I.tuple q1
    obtain⟨t,rfl⟩:=r
    simp only[cS]
    exact Av x t p hu
   | lst y=>
    unfold Rep at h'
    obtain⟨a,xs,rfl,_,q1,_⟩:=h'
    cases r'
    obtain⟨its,_,p,_⟩:=I.list q1
    obtain⟨t,rfl⟩:=r
    simp only[cS]
    exact AM x t p.isList hu
 | succ k ih=>
  intro A hA d e v w u z hd h h' r r'
  have hu:A.units < cLine:=by lia
  have hA':A.in1.units+k < cLine:=by have:A.in1.units=A.units+1:=rfl;lia
  cases d with
  | Ē=>
   unfold Rep at h
   subst h
   cases e with
   | Ē=>
    unfold Rep at h'
    subst h'
    have:=œ (A:=A) (s:=s) r r' rfl rfl
    simpa[cS,kR]using this
   | bl y=>
    unfold Rep at h'
    subst h'
    have:=œ (A:=A) (s:=s) r r' rfl rfl
    simpa[cS,kR]using this
   | int y=>
    unfold Rep at h'
    subst h'
    have:=œ (A:=A) (s:=s) r r' rfl rfl
    simpa[cS,kR]using this
   | str y=>
    unfold Rep at h'
    subst h'
    have:=œ (A:=A) (s:=s) r r' rfl rfl
    simpa[cS,kR]using this
   | tup y=>
    unfold Rep at h'
    obtain⟨a,xs,rfl,_,q1,_⟩:=h'
    cases r'
    obtain⟨its,_,p,_⟩:=I.tuple q1
    cases r
    simp only[cS]
    exact yR p hu
   | lst y=>
    unfold Rep at h'
    obtain⟨a,xs,rfl,_,q1,_⟩:=h'
    cases r'
    obtain⟨its,_,p,_⟩:=I.list q1
    cases r
    simp only[cS]
    exact Au p.isList hu
  | bl x=>
   unfold Rep at h
   subst h
   cases e with
   | Ē=>
    unfold Rep at h'
    subst h'
    have:=œ (A:=A) (s:=s) r r' rfl rfl
    simpa[cS,kR]using this
   | bl y=>
    unfold Rep at h'
    subst h'
    have:=œ (A:=A) (s:=s) r r' rfl rfl
    simpa[cS,kR]using this
   | int y=>
    unfold Rep at h'
    subst h'
    have:=œ (A:=A) (s:=s) r r' rfl rfl
    simpa[cS,kR]using this
   | str y=>
    unfold Rep at h'
    subst h'
    have:=œ (A:=A) (s:=s) r r' rfl rfl
    simpa[cS,kR]using this
   | tup y=>
    unfold Rep at h'
    obtain⟨a,xs,rfl,_,q1,_⟩:=h'
    cases r'
    obtain⟨its,_,p,_⟩:=I.tuple q1
    cases r
    simp only[cS]
    exact yQ x p hu
   | lst y=>
    unfold Rep at h'
    obtain⟨a,xs,rfl,_,q1,_⟩:=h'
    cases r'
    obtain⟨its,_,p,_⟩:=I.list q1
    cases r
    simp only[cS]
    exact Ar x p.isList hu
  | int x=>
   unfold Rep at h
   subst h
   cases e with
   | Ē=>
    unfold Rep at h'
    subst h'
    have:=œ (A:=A) (s:=s) r r' rfl rfl
    simpa[cS,kR]using this
   | bl y=>
    unfold Rep at h'
    subst h'
    have:=œ (A:=A) (s:=s) r r' rfl rfl
    simpa[cS,kR]using this
   | int y=>
    unfold Rep at h'
    subst h'
    have:=œ (A:=A) (s:=s) r r' rfl rfl
    simpa[cS,kR]using this
   | str y=>
    unfold Rep at h'
    subst h'
    have:=œ (A:=A) (s:=s) r r' rfl rfl
    simpa[cS,kR]using this
   | tup y=>
    unfold Rep at h'
    obtain⟨a,xs,rfl,_,q1,_⟩:=h'
    cases r'
    obtain⟨its,_,p,_⟩:=I.tuple q1
    obtain⟨t,rfl⟩:=r
    simp only[cS]
    exact As x t p hu
   | lst y=>
    unfold Rep at h'
    obtain⟨a,xs,rfl,_,q1,_⟩:=h'
    cases r'
    obtain⟨its,_,p,_⟩:=I.list q1
    obtain⟨t,rfl⟩:=r
    simp only[cS]
    exact AL x t p.isList hu
  | str x=>
   unfold Rep at h
   subst h
   cases e with
   | Ē=>
    unfold Rep at h'
    subst h'
    have:=œ (A:=A) (s:=s) r r' rfl rfl
    simpa[cS,kR]using this
   | bl y=>
    unfold Rep at h'
    subst h'
    have:=œ (A:=A) (s:=s) r r' rfl rfl
    simpa[cS,kR]using this
   | int y=>
    unfold Rep at h'
    subst h'
    have:=œ (A:=A) (s:=s) r r' rfl rfl
    simpa[cS,kR]using this
   | str y=>
    unfold Rep at h'
    subst h'
    have:=œ (A:=A) (s:=s) r r' rfl rfl
    simpa[cS,kR]using this
   | tup y=>
    unfold Rep at h'
    obtain⟨a,xs,rfl,_,q1,_⟩:=h'
    cases r'
    obtain⟨its,_,p,_⟩:=I.tuple q1
    obtain⟨t,rfl⟩:=r
    simp only[cS]
    exact Av x t p hu
   | lst y=>
    unfold Rep at h'
    obtain⟨a,xs,rfl,_,q1,_⟩:=h'
    cases r'
    obtain⟨its,_,p,_⟩:=I.list q1
    obtain⟨t,rfl⟩:=r
    simp only[cS]
    exact AM x t p.isList hu
  | tup l=>
   have h0:=h
   unfold Rep at h
   obtain⟨a,xs,rfl,na,q1,q2⟩:=h
   cases r
   obtain⟨its,r1,p1,_⟩:=I.tuple q1
   have P':a_ l<=k:=by simp only[Dt.dep]at hd;lia
   cases e with
   | Ē=>
    unfold Rep at h'
    subst h'
    cases r'
    simp only[cS]
    exact SeqAt.EqAt.tuple_none p1 hu
   | bl y=>
    unfold Rep at h'
    subst h'
    cases r'
    simp only[cS]
    exact SeqAt.EqAt.tuple_bool y p1 hu
   | int y=>
    unfold Rep at h'
    subst h'
    obtain⟨t,rfl⟩:=r'
    simp only[cS]
    exact SeqAt.EqAt.tuple_int y t p1 hu
   | str y=>
    unfold Rep at h'
    subst h'
    obtain⟨t,rfl⟩:=r'
    simp only[cS]
    exact SeqAt.EqAt.tuple_str y t p1 hu
   | tup q=>
    have UO:=h'
    unfold Rep at h'
    obtain⟨b,ys,rfl,nb,k1,k2⟩:=h'
    cases r'
    obtain⟨eV,r2,p2,_⟩:=I.tuple k1
    by_cases Lo:a=b
    ·subst Lo
     have:=Rep.inj I h0 UO
     rw[<-this,vz]
     exact tu _
    ·refine B9 Lo ?_
     simp only[cS]
     have:=Cn (A:=A) (s:=s) p1 p2 hu (lJ (A:=A.in1) (λ d e=>ih A.in1 hA' d e) P' q2 k2 r1 r2)
     rw[pH q2 k2 r1 r2]at this
     exact this
   | lst q=>
    have UO:=h'
    unfold Rep at h'
    obtain⟨b,ys,rfl,nb,k1,k2⟩:=h'
    cases r'
    obtain⟨eV,r2,p2,_⟩:=I.list k1
    simp only[cS]
    exact SeqAt.EqAt.tuple_list p1 p2.isList hu
  | lst l=>
   have h0:=h
   unfold Rep at h
   obtain⟨a,xs,rfl,na,q1,q2⟩:=h
   cases r
   obtain⟨its,r1,p1,_⟩:=I.list q1
   have P':a_ l<=k:=by simp only[Dt.dep]at hd;lia
   cases e with
   | Ē=>
    unfold Rep at h'
    subst h'
    cases r'
    simp only[cS]
    exact SeqAt.EqAt.list_none p1.isList hu
   | bl y=>
    unfold Rep at h'
    subst h'
    cases r'
    simp only[cS]
    exact SeqAt.EqAt.list_bool y p1.isList hu
   | int y=>
    unfold Rep at h'
    subst h'
    obtain⟨t,rfl⟩:=r'
    simp only[cS]
    exact SeqAt.EqAt.list_int y t p1.isList hu
   | str y=>
    unfold Rep at h'
    subst h'
    obtain⟨t,rfl⟩:=r'
    simp only[cS]
    exact SeqAt.EqAt.list_str y t p1.isList hu
   | tup q=>
    have UO:=h'
    unfold Rep at h'
    obtain⟨b,ys,rfl,nb,k1,k2⟩:=h'
    cases r'
    obtain⟨eV,r2,p2,_⟩:=I.tuple k1
    simp only[cS]
    exact SeqAt.EqAt.list_tuple p1.isList p2 hu
   | lst q=>
    have UO:=h'
    unfold Rep at h'
    obtain⟨b,ys,rfl,nb,k1,k2⟩:=h'
    cases r'
    obtain⟨eV,r2,p2,_⟩:=I.list k1
    by_cases Lo:a=b
    ·subst Lo
     have:=Rep.inj I h0 UO
     rw[<-this,vz]
     exact tu _
    ·refine B9 Lo ?_
     simp only[cS]
     have n1:l.length=its.toArray.size:=by simpa using q2.length.trans r1.length
     have n2:q.length=eV.toArray.size:=by simpa using k2.length.trans r2.length
     by_cases hn:l.length=q.length
     ·have:=DO (A:=A) (s:=s) p1.isList p2.isList (by rw[<-n1,<-n2];exact hn) hu (lJ (A:=A.in1) (λ d e=>ih A.in1 hA' d e) P' q2 k2 r1 r2)
      rw[<-n1,<-jz hn]at this
      exact this
     ·rw[nF hn]
      refine wY p1.isList p2.isList ?_ hu
      rw[<-n1,<-n2]
      simpa using hn
def Wu (K:É)(neg:Bool):R2:=λ x y H Q=>∃ (N N':Addr->Prop) (l q:Á Dt) (c:Bool),(Rep K N H (if c then .tup l else .lst l) x/\Rep K N' H (if c then .tup q else .lst q) y)/\a_ l<=20/\Q (.bl (if neg then !eU l q else eU l q)) H
theorem Rk (hu:X.A.units+30 < cLine):kI X (Į .Eq) (Wu X.K false):=by
 intro Ä s σ H x y v u Q I rx ry h
 obtain⟨N,N',l,q,c,⟨h1,h2⟩,hd,hq⟩:=h
 have Lw:X.A.units < cLine:=by lia
 have Bq:X.A.in1.units+20 < cLine:=by have:X.A.in1.units=X.A.units+1:=rfl;lia
 cases c with
 | true=>
  simp only[fE]at h1 h2
  unfold Rep at h1 h2
  obtain⟨a,xs,rfl,_,q1,q2⟩:=h1
  obtain⟨b,ys,rfl,_,k1,k2⟩:=h2
  cases rx
  cases ry
  obtain⟨its,r1,p1,_⟩:=I.tuple q1
  obtain⟨eV,r2,p2,_⟩:=I.tuple k1
  have:=Cn (A:=X.A) (s:=s) p1 p2 Lw (lJ (A:=X.A.in1) (λ d e=>zu I 20 X.A.in1 Bq d e) hd q2 k2 r1 r2)
  rw[pH q2 k2 r1 r2]at this
  exact this X.prog X.w _ _ ⟨.bl _,H,I,rfl,hq⟩
 | false=>
  simp only[av,gy]at h1 h2
  unfold Rep at h1 h2
  obtain⟨a,xs,rfl,_,q1,q2⟩:=h1
  obtain⟨b,ys,rfl,_,k1,k2⟩:=h2
  cases rx
  cases ry
  obtain⟨its,r1,p1,_⟩:=I.list q1
  obtain⟨eV,r2,p2,_⟩:=I.list k1
  have n1:l.length=its.toArray.size:=by simpa using q2.length.trans r1.length
  have n2:q.length=eV.toArray.size:=by simpa using k2.length.trans r2.length
  by_cases hn:l.length=q.length
  ·have:=DO (A:=X.A) (s:=s) p1.isList p2.isList (by rw[<-n1,<-n2];exact hn) Lw (lJ (A:=X.A.in1) (λ d e=>zu I 20 X.A.in1 Bq d e) hd q2 k2 r1 r2)
   rw[<-n1,<-jz hn]at this
   exact this X.prog X.w _ _ ⟨.bl _,H,I,rfl,hq⟩
  ·simp only[nF hn]at hq
   exact wY p1.isList p2.isList (by rw[<-n1,<-n2];simpa using hn) Lw X.prog X.w _ _ ⟨.bl _,H,I,rfl,hq⟩
theorem Rn (hu:X.A.units+30 < cLine):kI X (Į .NotEq) (Wu X.K true):=by
 intro Ä s σ H x y v u Q I rx ry h
 obtain⟨N,N',l,q,c,⟨h1,h2⟩,hd,hq⟩:=h
 have Lw:X.A.units < cLine:=by lia
 have Bq:X.A.in1.units+20 < cLine:=by have:X.A.in1.units=X.A.units+1:=rfl;lia
 cases c with
 | true=>
  simp only[fE]at h1 h2
  unfold Rep at h1 h2
  obtain⟨a,xs,rfl,_,q1,q2⟩:=h1
  obtain⟨b,ys,rfl,_,k1,k2⟩:=h2
  cases rx
  cases ry
  obtain⟨its,r1,p1,_⟩:=I.tuple q1
  obtain⟨eV,r2,p2,_⟩:=I.tuple k1
  have:=abd (A:=X.A) (s:=s) p1 p2 Lw (lJ (A:=X.A.in1) (λ d e=>zu I 20 X.A.in1 Bq d e) hd q2 k2 r1 r2)
  rw[pH q2 k2 r1 r2]at this
  exact this X.prog X.w _ _ ⟨.bl _,H,I,rfl,hq⟩
 | false=>
  simp only[av,gy]at h1 h2
  unfold Rep at h1 h2
  obtain⟨a,xs,rfl,_,q1,q2⟩:=h1
  obtain⟨b,ys,rfl,_,k1,k2⟩:=h2
  cases rx
  cases ry
  obtain⟨its,r1,p1,_⟩:=I.list q1
  obtain⟨eV,r2,p2,_⟩:=I.list k1
  have n1:l.length=its.toArray.size:=by simpa using q2.length.trans r1.length
  have n2:q.length=eV.toArray.size:=by simpa using k2.length.trans r2.length
  by_cases hn:l.length=q.length
  ·have:=aba (A:=X.A) (s:=s) p1.isList p2.isList (by rw[<-n1,<-n2];exact hn) Lw (lJ (A:=X.A.in1) (λ d e=>zu I 20 X.A.in1 Bq d e) hd q2 k2 r1 r2)
   rw[<-n1,<-jz hn]at this
   exact this X.prog X.w _ _ ⟨.bl _,H,I,rfl,hq⟩
  ·simp only[nF hn]at hq
   exact abb p1.isList p2.isList (by rw[<-n1,<-n2];simpa using hn) Lw X.prog X.w _ _ ⟨.bl _,H,I,rfl,hq⟩
end
structure Wk (J:It)(xs:Á V)(ok:Hp->Prop):Prop where
 go:∀ i H,ok H->i < xs.length->J.go i H
 stop:∀ i H,ok H->i=xs.length->J.stop i H
 LC:∀ i H x H',ok H->J.LC i H x H'->H'=H/\xs[i]? = À x
theorem kq.any:∀ {l:Á (Str × Ë Nat)},kq X scope l->∀ {x:Str},(l.any λ p=>p.1 == x && p.2.isSome)=true->X.env.kindOf x=À .cell∨X.env.kindOf x=À .free
 | [],_,x,e=>by simp at e
 | (y,none) :: r,h,x,e=>kq.any (l:=r) h (by simpa using e)
 | (y,À k) :: r,h,x,e=>by
  rw[ax,oA]at e
  rcases e with e|e
  ·have:y=x:=by simpa using e
   subst this
   exact h.1.2.2
  ·exact kq.any (l:=r) h.2 e
theorem eY.of (hk:scope.kind=.function)(hc:∀ y∈scope.names,y.2=.cell->scope.names.lookup y.1=À .cell)(hn:∀ y∈scope.names,y.2=.local->scope.names.lookup y.1=À .local)
  (hf:∀ y∈scope.names,y.2=.free->(l.any λ p=>p.1 == y.1 && p.2.isSome)=true) (hs:kq X scope l):eY X scope l:=⟨hk,hc,hn,λ y hy hyf=>hs.any (hf y hy hyf),hs⟩
theorem UJ (h:fA 64 i):fA 9000 i:=h.mono (by decide)
def DQ (c:Bool)(h:Heap)(i l:Addr)(k:Nat):Prop:=if c=true then h.IsTupleIter i l k else h.IsListIter i l k
def uq (c:Bool)(h:Heap)(l:Addr)(xs:Ğ Value):Prop:=if c=true then h.IsTuple l xs else h.IsList l xs
theorem DQ.at (x:DQ c h i l k)(e:∀ o,h.get? i=À o->h'.get? i=À o):DQ c h' i l k:=by
 cases c with
 | true=>obtain⟨o,ho,r⟩:=(show h.IsTupleIter i l k from x);exact(show h'.IsTupleIter i l k from⟨o,e o ho,r⟩)
 | false=>obtain⟨o,ho,r⟩:=(show h.IsListIter i l k from x);exact(show h'.IsListIter i l k from⟨o,e o ho,r⟩)
theorem uq.at (x:uq c h l xs)(e:∀ o,h.get? l=À o->h'.get? l=À o):uq c h' l xs:=by
 cases c with
 | true=>obtain⟨o,ho,r⟩:=(show h.IsTuple l xs from x);exact(show h'.IsTuple l xs from⟨o,e o ho,r⟩)
 | false=>obtain⟨o,ho,r⟩:=(show h.IsList l xs from x);exact(show h'.IsList l xs from⟨o,e o ho,r⟩)
theorem DQ.obj (x:DQ c h i l k):∃ o,h.get? i=À o/\∀ v,o.data≠.cell v:=by
 cases c with
 | true=>obtain⟨o,ho,_,d⟩:=(show h.IsTupleIter i l k from x);exact⟨o,ho,λ v z=>by rw[d]at z;cases z⟩
 | false=>obtain⟨o,ho,_,d⟩:=(show h.IsListIter i l k from x);exact⟨o,ho,λ v z=>by rw[d]at z;cases z⟩
section
variable {prog:Ą}{w:ğ}{A:į}{E:Value->Ò->Prop}{s:Ò}
theorem v5 (hi:DQ c s.heap i l k)(hl:uq c s.heap l xs)(hx:xs[k]? = À v)
  (hQ:∀ h',DQ c h' i l (k+1)->eL i s.heap h'->Q v { s with heap:=h' }):Ù (Ý prog w) A (Ĵ (.ref i)) Q E s:=by
 cases c with
 | false=>exact wpAny_nextOf_list_item hi hl hx hQ
 | true=>
  have Es:s.heap.IsTupleIter i l k:=hi
  obtain⟨o1,g1,g2,g3⟩:=id Es
  obtain⟨o2,f1,_,n2,f3⟩:=(show s.heap.IsTuple l xs from hl)
  unfold Ĵ
  refine Â (Œ (name:=å "__next__") Es.typeIs eR (ı eR Es.typeIs B2 ?_ (AG _)))
  show Ù _ _ (La (.ref i) 0 >>= _) _ _ s
  refine Â (Ķ g1 g3 (x:=.ref l) rfl ?_)
  show Ù _ _ (if (Î l == ë)=true then _ else _) _ _ s
  rw[Ö (show ¬ ((Î l == ë)=true) from æ)]
  show Ù _ _ (La (.ref i) 1 >>= _) _ _ s
  refine Â (Ķ g1 g3 (x:=.int k 0) rfl ?_)
  show Ù _ _ (seqItems? (.ref l) >>= _) _ _ s
  refine Â (cX f1 f3 ?_)
  simp only[gU,hx]
  refine Â (i3 g1 g3 (by simp) (Í ⟨v,rfl,Í (hQ _ (show Heap.IsTupleIter _ i l (k+1) from ?_) (ť ..))⟩))
  refine⟨_,ú _ g1 (dA (LI g3 _)),(Obj.cls_mapFields ..).trans g2,?_⟩
  rw[LI g3]
  simp[ŧ]
theorem EL (hh:A.handled=none)(hi:DQ c s.heap i l k)(hl:uq c s.heap l xs)(hx:xs[k]? = none)
  (hE:∀ h' e,Heap.ExtBut i s.heap h'->(∃ o,h'.get? e=À o/\o.cls=.type "StopIteration")->E (.ref e) { s with heap:=h' }):Ù (Ý prog w) A (Ĵ (.ref i)) Q E s:=by
 cases c with
 | false=>exact wpAny_nextOf_list_end hh hi hl hx hE
 | true=>
  have Es:s.heap.IsTupleIter i l k:=hi
  obtain⟨o1,g1,g2,g3⟩:=id Es
  obtain⟨o2,f1,_,n2,f3⟩:=(show s.heap.IsTuple l xs from hl)
  unfold Ĵ
  refine Â (Œ (name:=å "__next__") Es.typeIs eR (ı eR Es.typeIs B2 ?_ (AG _)))
  show Ù _ _ (La (.ref i) 0 >>= _) _ _ s
  refine Â (Ķ g1 g3 (x:=.ref l) rfl ?_)
  show Ù _ _ (if (Î l == ë)=true then _ else _) _ _ s
  rw[Ö (show ¬ ((Î l == ë)=true) from æ)]
  show Ù _ _ (La (.ref i) 1 >>= _) _ _ s
  refine Â (Ķ g1 g3 (x:=.int k 0) rfl ?_)
  show Ù _ _ (seqItems? (.ref l) >>= _) _ _ s
  refine Â (cX f1 f3 ?_)
  simp only[gU,hx]
  refine Â (cJ (Â (i3 g1 g3 (by simp) ?_)))
  show Ù _ _ (newExc (.type "StopIteration") [] >>= _) _ _ _
  refine Â ?_
  simp only[newExc,newTuple]
  refine Â (Ŏ ?_ (by size_fits))
  refine Â (m:=firstArgMember _ _) (Pl (a:=ë) (by first|rfl|(simp only[firstArgMember];rfl)) ?_)
  refine Ŏ ?_ (by size_fits)
  simp only[raiseNew]
  refine Â (wpAny_handled ?_)
  first|rw[show A.in1.handled=none from hh]|rw[hh]
  refine Â (Í (wpAny_throw ?_))
  exact hE _ _ (((ť ..).extBut.push _).push _) ⟨_,Ø _ rfl,rfl⟩
structure ZK (c1 c2:Bool)(h:Heap)(z a b i j l m:Addr)(k:Nat):Prop where
 zz:B3 h z a b .none
 ins:oE h a (.ref i) (.ref j)
 out:∃ x y,oE h b x y
 i1:DQ c1 h i l k
 i2:DQ c2 h j m k
theorem Ox (D:ZipApart z a b i j l m)(Z:ZK c1 c2 s.heap z a b i j l m k)
  (Az:uq c1 s.heap l xs) (vK:uq c2 s.heap m ys) (hx:xs[k]? = À x) (hy:ys[k]? = À y)
  (hQ:∀ h',B3 h' z a b (ŧ s.heap.objs.size)->oE h' a (.ref i) (.ref j)->oE h' b x y->DQ c1 h' i l (k+1)->DQ c2 h' j m (k+1)->oE h' s.heap.objs.size x y->
   (∀ d o,d≠z->d≠b->d≠i->d≠j->s.heap.get? d=À o->h'.get? d=À o)->Q (À (.ref s.heap.objs.size)) { s with heap:=h' }) :
  Ù (Ý prog w) A (lA (.ref z)) Q E s:=by
 obtain⟨hz,Ln,⟨p1,p2,My⟩,h1,h2⟩:=Z
 have hT:s.TypeIs (.ref z) "zip":=⟨_,hz,rfl⟩
 unfold lA
 refine Â (km (Œ (name:=å "__next__") hT qd (ı qd hT Tb ?_ (SF _))))
 show Ù _ _ (La (.ref z) 2 >>= _) _ _ _
 refine Â (Ķ hz rfl (x:=.bool false) rfl ?_)
 show Ù _ _ (La (.ref z) 3 >>= _) _ _ _
 refine Â (Ķ hz rfl (x:=.ref a) rfl ?_)
 refine Â (cX Ln rfl ?_)
 show Ù _ _ (ak (.ref z) >>= _) _ _ _
 refine Â ?_
 unfold ak
 refine Â (Ķ hz rfl (x:=.none) rfl (Í ?_))
 simp only[fE]
 refine Â (cJ ?_)
 refine Â (Ķ hz rfl (x:=.ref b) rfl ?_)
 refine Â (dG hz (by simp) λ q1 z1 t1=>?_)
 replace z1:B3 q1 z a b .ellipsis:=z1
 refine Â ?_
 simp only[OA,Pd,jY,Ak]
 refine Â (Â (w4 ?_))
 show Ù _ _ (Ĵ (.ref i) >>= _) _ _ _
 refine Â (v5 (s:={ s with heap:=q1 }) (h1.at λ o e=>t1.extBut _ _ D.i1z e) (Az.at λ o e=>t1.extBut _ _ D.l1z e) hx λ q2 i2 t2=>Í ?_)
 have b2:oE q2 b p1 p2:=t2.extBut _ _ D.TOi1 (t1.extBut _ _ D.TOz My)
 refine Â (cX b2 rfl ?_)
 refine Â (um b2 λ q3 b3 t3=>?_)
 replace b3:oE q3 b x p2:=b3
 refine Â (Pk (Í ?_))
 refine Â (Â (w4 ?_))
 show Ù _ _ (Ĵ (.ref j) >>= _) _ _ _
 refine Â (v5 (s:={ s with heap:=q3 }) (h2.at λ o e=>t3.extBut _ _ D.TOi2.symm (t2.extBut _ _ D.i12.symm (t1.extBut _ _ D.i2z e)))
  (vK.at λ o e=>t3.extBut _ _ D.l2TO (t2.extBut _ _ D.l2i1 (t1.extBut _ _ D.l2z e))) hy λ q4 j4 t4=>Í ?_)
 have b4:oE q4 b x p2:=t4.extBut _ _ D.TOi2 b3
 refine Â (cX b4 rfl ?_)
 refine Â (um b4 λ q5 b5 t5=>?_)
 replace b5:oE q5 b x y:=b5
 refine Â (Pk (Í (Í ?_)))
 refine Â (cX b5 rfl ?_)
 refine Â (Fx ?_)
 have hsz:q5.objs.size=s.heap.objs.size:=by rw[t5.1,t4.1,t3.1,t2.1,t1.1]
 have z5:B3 q5 z a b .ellipsis:=t5.extBut _ _ D.TOz.symm (t4.extBut _ _ D.i2z.symm (t3.extBut _ _ D.TOz.symm (t2.extBut _ _ D.i1z.symm z1)))
 have k5:∀ d o,d≠z->d≠b->d≠i->d≠j->s.heap.get? d=À o->q5.get? d=À o:=λ d o e1 e2 e3 e4 e=>
  t5.extBut _ _ e2 (t4.extBut _ _ e4 (t3.extBut _ _ e2 (t2.extBut _ _ e3 (t1.extBut _ _ e1 e))))
 have i5:DQ c1 q5 i l (k+1):=i2.at λ o e=>t5.extBut _ _ D.TOi1.symm (t4.extBut _ _ D.i12 (t3.extBut _ _ D.TOi1.symm e))
 have j5:DQ c2 q5 j m (k+1):=j4.at λ o e=>t5.extBut _ _ D.TOi2.symm e
 have zlt:z < q5.objs.size:=Ð z5
 show Ù _ _ (kZ (.ref z) (.ref q5.objs.size) >>= _) _ _ _
 refine Â ?_
 unfold kZ
 have z6:B3 (q5.push { cls:=.type "tuple",data:=.seq #[x,y] }) z a b .ellipsis:=Ã _ z5
 refine Â (dG z6 (by simp) λ q7 z7 t7=>?_)
 replace z7:B3 q7 z a b (ŧ q5.objs.size):=z7
 refine dG z7 (by simp) λ q8 z8 t8=>?_
 replace z8:B3 q8 z a b (ŧ q5.objs.size):=z8
 have up:∀ d o,d≠z->q5.get? d=À o->q8.get? d=À o:=λ d o e1 e=>t8.extBut _ _ e1 (t7.extBut _ _ e1 (Ã _ e))
 have T8:oE q8 q5.objs.size x y:=t8.extBut _ _ (đ zlt) (t7.extBut _ _ (đ zlt) (Ø _ rfl))
 rw[hsz]at z8 T8
 refine Í ⟨_,rfl,Í ?_⟩
 show Q (À (.ref q5.objs.size)) _
 rw[hsz]
 exact hQ q8 z8 (up _ _ D.TIz (k5 _ _ D.TIz D.TITO D.TIi1 D.TIi2 Ln)) (up _ _ D.TOz b5) (i5.at λ o e=>up _ o D.i1z e) (j5.at λ o e=>up _ o D.i2z e) T8 λ d o e1 e2 e3 e4 e=>up d o e1 (k5 d o e1 e2 e3 e4 e)
theorem SD (hh:A.handled=none)(D:ZipApart z a b i j l m)(Z:ZK c1 c2 s.heap z a b i j l m k)
  (Az:uq c1 s.heap l xs) (vK:uq c2 s.heap m ys) (Za:xs[k]? = none∨ys[k]? = none)
  (hQ:∀ h',(∀ d o,d≠z->d≠b->d≠i->d≠j->s.heap.get? d=À o->h'.get? d=À o)->Q none { s with heap:=h' }):Ù (Ý prog w) A (lA (.ref z)) Q E s:=by
 obtain⟨hz,Ln,⟨p1,p2,My⟩,h1,h2⟩:=Z
 have hT:s.TypeIs (.ref z) "zip":=⟨_,hz,rfl⟩
 unfold lA
 have last:∀ h' e,(∀ d o,d≠z->d≠b->d≠i->d≠j->s.heap.get? d=À o->h'.get? d=À o)->(∃ o,h'.get? e=À o/\o.cls=.type "StopIteration")->
   Ù (Ý prog w) A (do if <-isInstance (.ref e) (.type "StopIteration") then pure none else throw (.ref e):Sem (Ë Value)) Q E { s with heap:=h' }:=λ h' e hk ⟨o,ho,hc⟩=>
  Â (YA (T:="StopIteration") (b:=true) ⟨o,ho,hc⟩ isSubtype_stop (Í (hQ h' hk)))
 refine Â (km (Œ (name:=å "__next__") hT qd (ı qd hT Tb ?_ (SF _))))
 show Ù _ _ (La (.ref z) 2 >>= _) _ _ _
 refine Â (Ķ hz rfl (x:=.bool false) rfl ?_)
 show Ù _ _ (La (.ref z) 3 >>= _) _ _ _
 refine Â (Ķ hz rfl (x:=.ref a) rfl ?_)
 refine Â (cX Ln rfl ?_)
 show Ù _ _ (ak (.ref z) >>= _) _ _ _
 refine Â ?_
 unfold ak
 refine Â (Ķ hz rfl (x:=.none) rfl (Í ?_))
 simp only[fE]
 refine Â (cJ ?_)
 refine Â (Ķ hz rfl (x:=.ref b) rfl ?_)
 refine Â (dG hz (by simp) λ q1 z1 t1=>?_)
 replace z1:B3 q1 z a b .ellipsis:=z1
 refine Â ?_
 simp only[OA,Pd,jY,Ak]
 refine Â (Â (w4 ?_))
 show Ù _ _ (Ĵ (.ref i) >>= _) _ _ _
 cases hx:xs[k]? with
 | none=>
  refine Â (EL (s:={ s with heap:=q1 }) hh (h1.at λ o e=>t1.extBut _ _ D.i1z e) (Az.at λ o e=>t1.extBut _ _ D.l1z e) hx λ q2 e t2 he=>?_)
  obtain⟨oe,Qe,U1⟩:=he
  have z2:B3 q2 z a b .ellipsis:=t2 _ _ D.i1z.symm z1
  have Zb:e≠z:=λ x=>by subst x;rw[z2]at Qe;cases Qe;simp at U1
  refine dG z2 (by simp) λ q3 _ t3=>?_
  exact last q3 e (λ d o e1 _ e3 _ x=>t3.extBut _ _ e1 (t2 _ _ e3 (t1.extBut _ _ e1 x))) ⟨oe,t3.extBut _ _ Zb Qe,U1⟩
 | some x=>
  have hy:ys[k]? = none:=by
   rcases Za with h|h
   ·rw[hx]at h;cases h
   ·exact h
  refine Â (v5 (s:={ s with heap:=q1 }) (h1.at λ o e=>t1.extBut _ _ D.i1z e) (Az.at λ o e=>t1.extBut _ _ D.l1z e) hx λ q2 i2 t2=>Í ?_)
  have b2:oE q2 b p1 p2:=t2.extBut _ _ D.TOi1 (t1.extBut _ _ D.TOz My)
  refine Â (cX b2 rfl ?_)
  refine Â (um b2 λ q3 b3 t3=>?_)
  refine Â (Pk (Í ?_))
  refine Â (Â (w4 ?_))
  show Ù _ _ (Ĵ (.ref j) >>= _) _ _ _
  refine Â (EL (s:={ s with heap:=q3 }) hh (h2.at λ o e=>t3.extBut _ _ D.TOi2.symm (t2.extBut _ _ D.i12.symm (t1.extBut _ _ D.i2z e)))
   (vK.at λ o e=>t3.extBut _ _ D.l2TO (t2.extBut _ _ D.l2i1 (t1.extBut _ _ D.l2z e))) hy λ q4 e t4 he=>?_)
  obtain⟨oe,Qe,U1⟩:=he
  have z4:B3 q4 z a b .ellipsis:=t4 _ _ D.i2z.symm (t3.extBut _ _ D.TOz.symm (t2.extBut _ _ D.i1z.symm z1))
  have Zb:e≠z:=λ x=>by subst x;rw[z4]at Qe;cases Qe;simp at U1
  refine dG z4 (by simp) λ q5 _ t5=>?_
  exact last q5 e (λ d o e1 e2 e3 e4 x=>t5.extBut _ _ e1 (t4 _ _ e4 (t3.extBut _ _ e2 (t2.extBut _ _ e3 (t1.extBut _ _ e1 x))))) ⟨oe,t5.extBut _ _ Zb Qe,U1⟩
theorem Jo (l m:Addr)(xs ys:Ğ Value) :
  Meets (fB.«zip.__new__» ⟨[.type "zip",.ref l,.ref m],[]⟩) (λ _ R s=>s.heap.IsTuple l xs/\s.heap.IsTuple m ys/\
   R (.ok (.ret (.ref (s.heap.objs.size+4)))) { s with heap:=((((s.heap.push { cls:=.type "tuple_iterator",data:=.fields #[.ref l,.int 0 0] }).push { cls:=.type "tuple_iterator",data:=.fields #[.ref m,.int 0 0] }).push
    { cls:=.type "tuple",data:=.seq #[.ref s.heap.objs.size,.ref (s.heap.objs.size+1)] }).push { cls:=.type "tuple",data:=.seq #[.none,.none] }).push { cls:=.type "zip",data:=.fields #[.none,.bool false,.bool false,.ref (s.heap.objs.size+2),.ref (s.heap.objs.size+3)] } }):=
 .of_wp λ prog w A R s h=>by
  obtain⟨hp,g,d,tk,os⟩:=s;obtain⟨Az,vK,h⟩:=h
  have MF:=sub_zip
  have hL1:Xa (Th ⟨hp,g,d,tk,os⟩) l xs:=Az
  have hL2:Xa (Th ⟨hp.push { cls:=.type "tuple_iterator",data:=.fields #[.ref l,.int 0 0] },g,d,tk,os⟩) m ys:=aaC vK _
  wp_walk using xi hL1,xi hL2
  simp only[Ģ]at h ⊢
  exact⟨_,rfl,h⟩
theorem KR (Az:uq c s.heap l xs)(vK:uq c s.heap m ys)
  (k:∀ h',ZK c c h' (s.heap.objs.size+4) (s.heap.objs.size+2) (s.heap.objs.size+3) s.heap.objs.size (s.heap.objs.size+1) l m 0->(∀ d o,s.heap.get? d=À o->h'.get? d=À o)->Q (.ref (s.heap.objs.size+4)) { s with heap:=h' }) :
  Ù (Ý prog w) A (call (.type "zip") [.ref l,.ref m]) Q E s:=by
 cases c with
 | false=>exact call_zip_2 Az vK λ h' hz Ln My hi1 MC _ hk=>k h' ⟨hz,Ln,⟨_,_,My⟩,hi1,MC⟩ hk
 | true=>
  refine callType_new F.called_zip (by decide) (F.typeCall_zip_2 _ _) (F.newCall_zip_2 _ _) (λ obj=>F.args_object_init_3 obj _ _) F.entry_zip_new (Jo l m xs ys) ⟨Az,vK,?_⟩
  have p:∀ (h:Heap) (o1 o2 o3 o4 o5:Obj) (d:Addr) (o:Obj),h.get? d=À o->(((((h.push o1).push o2).push o3).push o4).push o5).get? d=À o:=λ h o1 o2 o3 o4 o5 d o e=>
   Ã _ (Ã _ (Ã _ (Ã _ (Ã _ e))))
  have q5:∀ (h:Heap) (o1 o2 o3 o4 o5:Obj),o5.isFreed=false->(((((h.push o1).push o2).push o3).push o4).push o5).get? (h.objs.size+4)=À o5:=λ h o1 o2 o3 o4 o5 f=>by
   have e:h.objs.size+4=((((h.push o1).push o2).push o3).push o4).objs.size:=by simp only[Ģ]
   rw[e];exact Ø _ f
  have q4:∀ (h:Heap) (o1 o2 o3 o4 o5:Obj),o4.isFreed=false->(((((h.push o1).push o2).push o3).push o4).push o5).get? (h.objs.size+3)=À o4:=λ h o1 o2 o3 o4 o5 f=>by
   have e:h.objs.size+3=(((h.push o1).push o2).push o3).objs.size:=by simp only[Ģ]
   rw[e];exact Ã _ (Ø _ f)
  have q3:∀ (h:Heap) (o1 o2 o3 o4 o5:Obj),o3.isFreed=false->(((((h.push o1).push o2).push o3).push o4).push o5).get? (h.objs.size+2)=À o3:=λ h o1 o2 o3 o4 o5 f=>by
   have e:h.objs.size+2=((h.push o1).push o2).objs.size:=by simp only[Ģ]
   rw[e];exact Ã _ (Ã _ (Ø _ f))
  have q2:∀ (h:Heap) (o1 o2 o3 o4 o5:Obj),o2.isFreed=false->(((((h.push o1).push o2).push o3).push o4).push o5).get? (h.objs.size+1)=À o2:=λ h o1 o2 o3 o4 o5 f=>by
   have e:h.objs.size+1=(h.push o1).objs.size:=by simp only[Ģ]
   rw[e];exact Ã _ (Ã _ (Ã _ (Ø _ f)))
  have q1:∀ (h:Heap) (o1 o2 o3 o4 o5:Obj),o1.isFreed=false->(((((h.push o1).push o2).push o3).push o4).push o5).get? h.objs.size=À o1:=λ h o1 o2 o3 o4 o5 f=>
   Ã _ (Ã _ (Ã _ (Ã _ (Ø _ f))))
  exact⟨⟨_,q5 _ _ _ _ _ _ rfl,rfl⟩,k _ ⟨q5 _ _ _ _ _ _ rfl,q3 _ _ _ _ _ _ rfl,⟨_,_,q4 _ _ _ _ _ _ rfl⟩,⟨_,q1 _ _ _ _ _ _ rfl,rfl,rfl⟩,⟨_,q2 _ _ _ _ _ _ rfl,rfl,rfl⟩⟩ λ d o e=>p _ _ _ _ _ _ d o e⟩
end
def zb (c:Bool)(K:É)(H:Hp)(a:Addr)(xs:Á V):Prop:=if c=true then hZ K H a xs else fZ K H a xs
theorem Inv.Ob (I:Inv X Ä σ H s)(h:zb c X.K H a xs):∃ its:Á Value,Vals xs its/\uq c s.heap a its.toArray:=by
 cases c with
 | true=>obtain⟨its,r,p,_⟩:=I.tuple (show hZ X.K H a xs from h);exact⟨its,r,p⟩
 | false=>obtain⟨its,r,p,_⟩:=I.list (show fZ X.K H a xs from h);exact⟨its,r,p.isList⟩
theorem Inv.Ac (I:Inv X Ä σ H s)(h:zb c X.K H a xs)(k:zb c X.K H a ys):xs=ys:=by
 cases c with
 | true=>exact I.sY (show hZ X.K H a xs from h) k
 | false=>exact I.vT (show fZ X.K H a xs from h) k
def Itz (c:Bool)(K:É)(a b:Addr):It:=
  ⟨λ i H=>∃ xs ys x y,zb c K H a xs/\zb c K H b ys/\xs[i]? = À x/\ys[i]? = À y,
   λ i H v H'=>∃ T x y,v=.ref T/\H T=none/\H'=upd H T (.tup [x,y])/\∀ xs ys,zb c K H a xs->zb c K H b ys->xs[i]? = À x/\ys[i]? = À y,
   λ i H=>∃ xs ys,zb c K H a xs/\zb c K H b ys/\(xs.length<=i∨ys.length<=i)⟩
theorem Kr {K:É}{es:Á ń}(c:Bool)(l m z a b i j:Addr)(D:ZipApart z a b i j l m) :
  Turn P w K (.Tuple es kk DF) (Itz c K l m) [z,a,b,i,j] z (λ n h=>ZK c c h z a b i j l m n) where
 mem:=by simp
 obj:=λ n h st d hd=>by
  obtain⟨hz,Ln,⟨p1,p2,My⟩,h1,h2⟩:=st
  simp only[Þ,Ď,bP]at hd
  rcases hd with rfl|rfl|rfl|rfl|rfl
  ·exact⟨_,hz,λ v e=>nomatch e⟩
  ·exact⟨_,Ln,λ v e=>nomatch e⟩
  ·exact⟨_,My,λ v e=>nomatch e⟩
  ·exact h1.obj
  ·exact h2.obj
 keep:=λ n h h' st k=>by
  obtain⟨hz,Ln,⟨p1,p2,My⟩,h1,h2⟩:=st
  exact⟨k z (by simp) _ hz,k a (by simp) _ Ln,⟨p1,p2,k b (by simp) _ My⟩,h1.at λ o e=>k i (by simp) o e,h2.at λ o e=>k j (by simp) o e⟩
 item:=by
  intro X hP hw hK hc n Ä s σ H E I hf st hg
  subst hP hw hK
  obtain⟨xs,ys,x,y,XW,XX,hx,hy⟩:=hg
  obtain⟨Vi,r1,p1⟩:=I.Ob XW
  obtain⟨eV,r2,p2⟩:=I.Ob XX
  obtain⟨u1,e1,R4⟩:=r1.get hx
  obtain⟨u2,e2,ru2⟩:=r2.get hy
  refine Ox D st p1 p2 (by simpa using e1) (by simpa using e2) λ h' z1 a1 b1 i1 j1 T1 kp=>?_
  refine⟨_,rfl,wpAny_letOwnedTupleGo_zip (s:={ s with heap:=h' }) z1 λ h2 z2 t2=>?_⟩
  have hTn:H s.heap.objs.size=none:=I.ļ.fresh (Ï _)
  have zT:s.heap.objs.size≠z:=đ (Ð (show s.heap.get? z=À _ from st.zz))
  have uR:∀ d o,d∉[z,a,b,i,j]->s.heap.get? d=À o->h2.get? d=À o:=λ d o hd e=>by
   simp only[Þ,Ď,bP,not_or]at hd
   exact t2.extBut _ _ hd.1 (kp d o hd.1 hd.2.2.1 hd.2.2.2.1 hd.2.2.2.2 e)
  have T2:oE h2 s.heap.objs.size u1 u2:=t2.extBut _ _ zT T1
  have Jq:∀ d o,H d=À o->d∉[z,a,b,i,j]:=λ d o e hd=>by rw[(hf d hd).1]at e;cases e
  have nT:∀ d o,H d=À o->d≠s.heap.objs.size:=λ d o e q=>by rw[q,hTn]at e;cases e
  have newOk:m3 X.prog X.w (upd H s.heap.objs.size (.tup [x,y])) h2:=by
   intro d o e
   by_cases hd:d=s.heap.objs.size
   ·subst hd
    rw[û]at e
    cases e
    exact⟨by show 2<=sizeLine;decide,[u1,u2],.cons R4 (.cons ru2 .nil),_,T2,rfl,0,rfl⟩
   ·rw[ã hd]at e
    refine(I.ļ d o e).p8 (λ q v hq r=>uR q v ?_ r) (λ q r=>by rw[ã (nT q _ r)];exact r) (λ q SA r=>by rw[ã (nT q _ r)];exact r)
    rcases hq with rfl|hq
    ·exact Jq _ _ e
    ·exact Jq _ _ hq
  have I2:Inv X Ä σ (upd H s.heap.objs.size (.tup [x,y])) { s with heap:=h2 }:=by
   refine I.step (g':=s.gens) (d':=s.drawn) (t':=s.toks) (ch:=[z,a,b,i,j]) (λ d hd=>⟨(hf d hd).2.2.2.1,(hf d hd).2.1,(hf d hd).2.2.2.2.1,(hf d hd).2.2.2.2.2⟩) (λ d o _ _ hd e _=>uR d o hd e) (λ d o _ _ hd e _=>⟨o.slots,uR d o hd e⟩)
    (λ d o hd e nn=>by rw[ã (ç (Ð e))];exact nn) (λ d o hd e=>⟨o,uR d o hd e⟩) (λ d SA e=>by rw[ã (nT d _ e)];exact e) (λ d o u e=>by rw[ã (nT d _ e)];exact e)
    (λ d ps e=>⟨#[],by rw[ã (nT d _ e),e];simp⟩) (λ mm hm=>?_) newOk I.bare
   obtain⟨o,HR,ep,ho,r⟩:=hm
   exact⟨o,HR,ep,uR _ o (λ hd=>(hf _ hd).2.1 rfl) ho,r⟩
  refine⟨.ref s.heap.objs.size,_,I2,rfl,⟨_,x,y,rfl,hTn,rfl,λ SA Yb k1 k2=>?_⟩,?_,λ d hd=>?_⟩
  ·rw[I.Ac k1 XW,I.Ac k2 XX]
   exact⟨hx,hy⟩
  ·exact⟨z2,t2.extBut _ _ D.TIz a1,⟨_,_,t2.extBut _ _ D.TOz b1⟩,i1.at λ o e=>t2.extBut _ _ D.i1z e,j1.at λ o e=>t2.extBut _ _ D.i2z e⟩
  ·have Y':d≠s.heap.objs.size:=by
    rintro rfl
    have lt:∀ {q:Addr}{o:Obj},s.heap.get? q=À o->s.heap.objs.size≠q:=λ e=>đ (Ð e)
    simp only[Þ,Ď,bP]at hd
    obtain⟨o1,g1,_⟩:=st.i1.obj
    obtain⟨o2,g2,_⟩:=st.i2.obj
    obtain⟨y1,y2,g3⟩:=st.out
    rcases hd with q|q|q|q|q
    ·exact lt st.zz q
    ·exact lt st.ins q
    ·exact lt g3 q
    ·exact lt g1 q
    ·exact lt g2 q
   rw[ã Y']
   exact(hf d hd).1
 done:=by
  intro X hP hw hK hc n Ä s σ H E I hf st hg
  subst hP hw hK
  obtain⟨xs,ys,XW,XX,hx⟩:=hg
  obtain⟨Vi,r1,p1⟩:=I.Ob XW
  obtain⟨eV,r2,p2⟩:=I.Ob XX
  have n1:=r1.length
  have n2:=r2.length
  refine SD (I.ok.hd hc) D st p1 p2 (hx.elim (λ q=>.inl (by simp;lia)) λ q=>.inr (by simp;lia)) λ h' kp=>⟨rfl,?_⟩
  have uR:∀ d o,d∉[z,a,b,i,j]->s.heap.get? d=À o->h'.get? d=À o:=λ d o hd e=>by
   simp only[Þ,Ď,bP,not_or]at hd
   exact kp d o hd.1 hd.2.2.1 hd.2.2.2.1 hd.2.2.2.2 e
  have Jq:∀ d o,H d=À o->d∉[z,a,b,i,j]:=λ d o e hd=>by rw[(hf d hd).1]at e;cases e
  have there:∀ d o,s.heap.get? d=À o->d∉[z,a,b,i,j]->∃ o',h'.get? d=À o':=λ d o e hd=>⟨o,uR d o hd e⟩
  refine I.step (g':=s.gens) (d':=s.drawn) (t':=s.toks) (ch:=[z,a,b,i,j]) (λ d hd=>⟨(hf d hd).2.2.2.1,(hf d hd).2.1,(hf d hd).2.2.2.2.1,(hf d hd).2.2.2.2.2⟩) (λ d o _ _ hd e _=>uR d o hd e) (λ d o _ _ hd e _=>⟨o.slots,uR d o hd e⟩)
   (λ d o hd e nn=>nn) (λ d o hd e=>⟨o,uR d o hd e⟩) (λ d SA e=>e) (λ d o u e=>e) (λ d ps e=>⟨#[],by rw[e];simp⟩) (λ mm hm=>?_) (λ d o e=>?_) I.bare
  ·obtain⟨o,HR,ep,ho,r⟩:=hm
   exact⟨o,HR,ep,uR _ o (λ hd=>(hf _ hd).2.1 rfl) ho,r⟩
  ·refine(I.ļ d o e).p8 (λ q v hq r=>uR q v ?_ r) (λ _ r=>r) (λ _ _ r=>r)
   rcases hq with rfl|hq
   ·exact Jq _ _ e
   ·exact Jq _ _ hq
 self:=λ _ _ _ _ _ st h=>YB st.zz h
def ZC (K:É)(t:TA):TI:=λ σ H R=>t σ H λ vs H2=>∃ (c:Bool) (a b:Addr),vs=[.ref a,.ref b]/\(∃ xs,zb c K H2 a xs)/\(∃ ys,zb c K H2 b ys)/\R (Itz c K a b) H2
theorem RG {X:Cx}{es:Á ń}{ta tb:TE}(hg:Gl X "zip")(hm:X.mg "zip"=none)(h1:PE X e1 ta)(h2:PE X e2 tb)
  (hs:Ì [e1,e2] X.env=(false,Ć e1 X.env) :: Ì [e2] X.env:=by rfl) (S4:Ì [e2] X.env=[(false,Ć e2 X.env)]:=by rfl) (fi:(Ĕ pos (Ì [e2] X.env)).any (·.1)=false:=by rfl) :
  PI X (.Tuple es kk DF) (.Call (.Name "zip" p) [e1,e2] [] pos) (ZC X.K (yF ta (yF tb BQ))):=by
 intro Ä s σ H R I h
 refine ų (pO I hg hm aaI ?_)
 refine cH (af ((aN h1 (aN h2 eW S4) hs) pos Ä s σ H _ I h) λ us s1 zz=>jA zz λ vs H1 I1 r1 q1=>?_) hs fi
 obtain⟨c,a,b,rfl,⟨xs,hx⟩,⟨ys,hy⟩,q⟩:=q1
 obtain⟨u1,u2,rfl,R4,ru2⟩:=vals2 r1
 cases R4
 cases ru2
 obtain⟨Vi,_,p1⟩:=I1.Ob hx
 obtain⟨eV,_,p2⟩:=I1.Ob hy
 have a1:a < s1.heap.objs.size:=by
  cases c with
  | true=>obtain⟨_,e,_⟩:=(show s1.heap.IsTuple a _ from p1);exact Ð e
  | false=>obtain⟨_,e,_⟩:=(show s1.heap.IsList a _ from p1);exact Ð e
 have a2:b < s1.heap.objs.size:=by
  cases c with
  | true=>obtain⟨_,e,_⟩:=(show s1.heap.IsTuple b _ from p2);exact Ð e
  | false=>obtain⟨_,e,_⟩:=(show s1.heap.IsList b _ from p2);exact Ð e
 refine KR p1 p2 λ h' Z kp=>?_
 refine YB (s:={ s1 with heap:=h' }) Z.zz ?_
 refine⟨_,_,_,_,H1,rfl,I1.kept (t':=s1.toks) kp,Kr c a b _ _ _ _ _ (zipApart_new a1 a2),Z,λ d hd=>?_,q⟩
 have hle:s1.heap.objs.size<=d:=by
  simp only[Þ,Ď,bP]at hd
  rcases hd with rfl|rfl|rfl|rfl|rfl
  ·exact nk _ _
  ·exact nk _ _
  ·exact nk _ _
  ·exact Ï _
  ·exact nk _ _
 exact I1.CK hle (I1.ļ.fresh hle)
def Ite (K:É)(a:Addr):It:=
  ⟨λ i H=>∃ xs x,fZ K H a xs/\xs[i]? = À x,
   λ i H v H'=>∃ T x,v=.ref T/\H T=none/\H'=upd H T (.tup [.int (i:Int),x])/\∀ xs,fZ K H a xs->xs[i]? = À x,
   λ i H=>∃ xs,fZ K H a xs/\xs.length<=i⟩
structure EK (h:Heap)(e it l:Addr)(k:Nat):Prop where
 ee:∃ old,IsEnum h e it k old
 ii:h.IsListIter it l k
theorem GK {K:É}{es:Á ń}(l e it:Addr)(hei:e≠it) :
  Turn P w K (.Tuple es kk DF) (Ite K l) [e,it] e (λ n h=>EK h e it l n) where
 mem:=by simp
 obj:=λ n h st d hd=>by
  obtain⟨⟨old,he⟩,o,ho,_,dd⟩:=st
  simp only[Þ,Ď,bP]at hd
  rcases hd with rfl|rfl
  ·exact⟨_,he,λ v z=>nomatch z⟩
  ·exact⟨o,ho,λ v z=>by rw[dd]at z;cases z⟩
 keep:=λ n h h' st k=>by
  obtain⟨⟨old,he⟩,o,ho,r⟩:=st
  exact⟨⟨old,k e (by simp) _ he⟩,o,k it (by simp) o ho,r⟩
 item:=by
  intro X hP hw hK hc n Ä s σ H E I hf st hg
  subst hP hw hK
  obtain⟨xs,x,hq,hx⟩:=hg
  obtain⟨its,r1,p1⟩:=I.Ob (c:=false) hq
  obtain⟨u1,e1,R4⟩:=r1.get hx
  obtain⟨⟨old,he⟩,hit⟩:=st
  have hT:H s.heap.objs.size=none:=I.ļ.fresh (Ï _)
  have eT:s.heap.objs.size≠e:=đ (Ð (show s.heap.get? e=À _ from he))
  have iT:s.heap.objs.size≠it:=by obtain⟨o,ho,_⟩:=hit;exact đ (Ð ho)
  refine wpAny_pyNext_enum_item he hit p1 (by simpa using e1) hei λ h' z1 i1 T1 _ kp=>?_
  refine⟨_,rfl,wpAny_letOwnedTupleGo_enum (s:={ s with heap:=h',toks:=s.toks+1 }) z1 λ h2 z2 t2=>?_⟩
  have uR:∀ d o,d∉[e,it]->s.heap.get? d=À o->h2.get? d=À o:=λ d o hd q=>by
   simp only[Þ,Ď,bP,not_or]at hd
   exact(t2.2 d hd.1).trans (kp d o hd.1 hd.2 q)
  have T2:h2.get? s.heap.objs.size=À { cls:=.type "tuple",data:=.seq #[.int (n:Int) s.toks,u1] }:=(t2.2 _ eT).trans T1
  have Jq:∀ d o,H d=À o->d∉[e,it]:=λ d o q hd=>by rw[(hf d hd).1]at q;cases q
  have nT:∀ d o,H d=À o->d≠s.heap.objs.size:=λ d o q z=>by rw[z,hT]at q;cases q
  have newOk:m3 X.prog X.w (upd H s.heap.objs.size (.tup [.int (n:Int),x])) h2:=by
   intro d o q
   by_cases hd:d=s.heap.objs.size
   ·subst hd
    rw[û]at q
    cases q
    exact⟨by show 2<=sizeLine;decide,[.int (n:Int) s.toks,u1],.cons ⟨_,rfl⟩ (.cons R4 .nil),_,T2,rfl,0,rfl⟩
   ·rw[ã hd]at q
    refine(I.ļ d o q).p8 (λ a v ha r=>uR a v ?_ r) (λ a r=>by rw[ã (nT a _ r)];exact r) (λ a SA r=>by rw[ã (nT a _ r)];exact r)
    rcases ha with rfl|ha
    ·exact Jq _ _ q
    ·exact Jq _ _ ha
  have I2:Inv X Ä σ (upd H s.heap.objs.size (.tup [.int (n:Int),x])) { s with heap:=h2,toks:=s.toks+1 }:=by
   refine I.step (g':=s.gens) (d':=s.drawn) (t':=s.toks+1) (ch:=[e,it]) (λ d hd=>⟨(hf d hd).2.2.2.1,(hf d hd).2.1,(hf d hd).2.2.2.2.1,(hf d hd).2.2.2.2.2⟩) (λ d o _ _ hd q _=>uR d o hd q) (λ d o _ _ hd q _=>⟨o.slots,uR d o hd q⟩)
    (λ d o hd q nn=>by rw[ã (ç (Ð q))];exact nn) (λ d o hd q=>⟨o,uR d o hd q⟩) (λ d SA q=>by rw[ã (nT d _ q)];exact q) (λ d o u q=>by rw[ã (nT d _ q)];exact q)
    (λ d ps q=>⟨#[],by rw[ã (nT d _ q),q];simp⟩) (λ mm hm=>?_) newOk I.bare
   obtain⟨o,HR,ep,ho,r⟩:=hm
   exact⟨o,HR,ep,uR _ o (λ hd=>(hf _ hd).2.1 rfl) ho,r⟩
  refine⟨.ref s.heap.objs.size,_,I2,rfl,⟨_,x,rfl,hT,rfl,λ SA k1=>?_⟩,?_,λ d hd=>?_⟩
  ·rw[I.Ac (c:=false) k1 hq]
   exact hx
  ·refine⟨⟨_,by simpa using z2⟩,?_⟩
   obtain⟨o,ho,r⟩:=i1
   exact⟨o,(t2.2 it hei.symm).trans ho,r⟩
  ·have Y':d≠s.heap.objs.size:=by
    rintro rfl
    simp only[Þ,Ď,bP]at hd
    rcases hd with q|q
    ·exact eT q
    ·exact iT q
   rw[ã Y']
   exact(hf d hd).1
 done:=by
  intro X hP hw hK hc n Ä s σ H E I hf st hg
  subst hP hw hK
  obtain⟨xs,hq,hx⟩:=hg
  obtain⟨its,r1,p1⟩:=I.Ob (c:=false) hq
  have n1:=r1.length
  obtain⟨⟨old,he⟩,hit⟩:=st
  refine wpAny_pyNext_enum_end (I.ok.hd hc) he hit p1 (by simp;lia) λ h' kp=>⟨rfl,?_⟩
  have uR:∀ d o,d∉[e,it]->s.heap.get? d=À o->h'.get? d=À o:=λ d o hd q=>by
   simp only[Þ,Ď,bP,not_or]at hd
   exact kp d o hd.2 q
  have Jq:∀ d o,H d=À o->d∉[e,it]:=λ d o q hd=>by rw[(hf d hd).1]at q;cases q
  refine I.step (g':=s.gens) (d':=s.drawn) (t':=s.toks) (ch:=[e,it]) (λ d hd=>⟨(hf d hd).2.2.2.1,(hf d hd).2.1,(hf d hd).2.2.2.2.1,(hf d hd).2.2.2.2.2⟩) (λ d o _ _ hd q _=>uR d o hd q) (λ d o _ _ hd q _=>⟨o.slots,uR d o hd q⟩)
   (λ d o hd q nn=>nn) (λ d o hd q=>⟨o,uR d o hd q⟩) (λ d SA q=>q) (λ d o u q=>q) (λ d ps q=>⟨#[],by rw[q];simp⟩) (λ mm hm=>?_) (λ d o q=>?_) I.bare
  ·obtain⟨o,HR,ep,ho,r⟩:=hm
   exact⟨o,HR,ep,uR _ o (λ hd=>(hf _ hd).2.1 rfl) ho,r⟩
  ·refine(I.ļ d o q).p8 (λ a v ha r=>uR a v ?_ r) (λ _ r=>r) (λ _ _ r=>r)
   rcases ha with rfl|ha
   ·exact Jq _ _ q
   ·exact Jq _ _ ha
 self:=λ _ _ _ _ _ st h=>by
  obtain⟨⟨old,he⟩,_⟩:=st
  exact Xp he h
def Vd (K:É)(t:TA):TI:=λ σ H R=>t σ H λ vs H2=>∃ a,vs=[.ref a]/\(∃ xs,fZ K H2 a xs)/\R (Ite K a) H2
theorem NG {X:Cx}{es:Á ń}{ta:TE}(hg:Gl X "enumerate")(hm:X.mg "enumerate"=none)(h1:PE X e1 ta)
  (hs:Ì [e1] X.env=(false,Ć e1 X.env) :: Ì [] X.env:=by rfl) (fi:(Ĕ pos (Ì [] X.env)).any (·.1)=false:=by rfl) :
  PI X (.Tuple es kk DF) (.Call (.Name "enumerate" p) [e1] [] pos) (Vd X.K (yF ta BQ)):=by
 intro Ä s σ H R I h
 refine ų (pO I hg hm aaH ?_)
 refine cH (af ((aN h1 eW hs) pos Ä s σ H _ I h) λ us s1 zz=>jA zz λ vs H1 I1 r1 q1=>?_) hs fi
 obtain⟨a,rfl,⟨xs,hx⟩,q⟩:=q1
 obtain⟨u1,rfl,R4⟩:=r1.one
 cases (show u1=Î a from R4)
 obtain⟨its,_,p1⟩:=I1.Ob (c:=false) hx
 refine call_enumerate_list p1 λ h' z i _ kp=>?_
 refine Xp (s:={ s1 with heap:=h' }) z ?_
 refine⟨_,_,_,_,H1,rfl,I1.kept (t':=s1.toks) kp,GK a (s1.heap.objs.size+1) s1.heap.objs.size (Nat.succ_ne_self _),⟨⟨_,z⟩,i⟩,λ d hd=>?_,q⟩
 have hle:s1.heap.objs.size<=d:=by
  simp only[Þ,Ď,bP]at hd
  rcases hd with rfl|rfl
  ·exact mK _
  ·exact Ï _
 exact I1.CK hle (I1.ļ.fresh hle)
theorem hZ.const {K:É}{its:Ğ Value}{xs:Á V}(h:K.lookup a=À ⟨.type "tuple",od,.seq its n,sl⟩)(v:Vals xs its.toList)(hz:xs.length<=1000):hZ K H a xs:=
 .inr ⟨_,its,n,h,rfl,rfl,by
  have h2:xs.length=its.size:=v.length
  rw[<-h2]
  exact Ė (ş hz),v⟩
open PySem.Builtin.Str in
def RZ:V->Á V->Hp->VK->Prop:=λ x vs H Q=>∃ t sep,x=.str t/\vs=[.str sep]/\(decide (t.length < sep.length) || decide (strKind t < strKind sep))=false/\(sep.length == 0)=false/\(occurrences t sep 0 t.length (t.length+1)).isEmpty=false/\t.length<=1000/\
 (partsBetween t (occurrences t sep 0 t.length (t.length+1)) sep.length).length<=1000/\∀ l,H l=none->Q (.ref l) (upd H l (.lst ((partsBetween t (occurrences t sep 0 t.length (t.length+1)) sep.length).map V.str)))
theorem pb:∀ (n:Nat)(l:Á Str),Vals (l.map V.str) (strsFrom n l)
 | _,[]=>.nil
 | n,x :: r=>.cons ⟨n,rfl⟩ (pb (n+1) r)
theorem Jj:Fy X "str.split" RZ:=by
 intro Ä s σ H x vs v us Q I rx rv h
 obtain⟨t,sep,rfl,rfl,h1,hy,hf,hz,hn,q⟩:=h
 obtain⟨tk,rfl⟩:=rx
 obtain⟨u,rfl,ru⟩:=rv.one
 obtain⟨tk2,rfl⟩:=ru
 refine Fo F.slot_str_split ((DI (T:="str") (x:=.str t) I ⟨tk,rfl⟩ rfl).1) F.entry_str_split (F.args_str_split_2 _ _) (meets_str_split_sep t sep tk tk2 h1 hy hf (Ė (ş hz)) (Ė (ş hn))) ?_
 refine⟨.ref s.heap.objs.size,_,I.Qw (t':=_) (pb s.toks _) ?_,rfl,q _ I.fresh⟩
 rw[Õ]
 exact Ė (ş hn)
theorem JB {X:Cx}{K:É}{es:Á ń}{to:TE}{t:TA}{T id:String}{r:V->Á V->Hp->VK->Prop}(hK:X.K=K)(pa:qm T)(slot:Slot T name id)(Ir:LN (.builtin id)=pure (.type "method_descriptor")) (hm:Fy X id r)(ho:PE X o to)(ha:PA X (e :: es) t)
  (jL:Ŧ o name X.env (Ć o X.env)=Ć o X.env:=by rfl)
  (CQ:((Ĕ aw (Ì (e :: es) X.env)).all (λ x=>!x.1) && (gu aw (bG [] X.env)).all (λ x=>x.1.isSome)
   && decide ((e :: es).length+([]:Á iV).length+(if ([]:Á iV).isEmpty then 0 else 1) < 30))=true:=by rfl)
  (jM:(bR.endLine == aw.line)=true:=by rfl) (hs:Ì (e :: es) X.env=(false,Ć e X.env) :: Ì es X.env:=by rfl) (pM:(Ĕ aw (Ì es X.env)).any (·.1)=false:=by rfl) :
  PE X (.Call (.Attribute o name bR) (e :: es) [] aw) (tBM K T r to t):=by subst hK;exact Wg pa slot Ir hm ho ha jL CQ jM hs pM
theorem Vj {n:Nat}{i:Int}(h0:0<=i)(h1:i < n):Le i n=À i.toNat:=by
 have:Ez n i=À i.toNat:=by
  unfold Ez
  rw[Ñ h0,Ñ h1]
 exact(zJ this).1
end L2
namespace HT
open PySem PyProof.Rows
section
variable {prog:Ą}{w:ğ}{A:į}{E:Value->Ò->Prop}{s:Ò}
theorem oQ {items:Ğ Value}{lo hi:Ë Int}{Q:Value->Ò->Prop}(ht:Xb s.heap t items)(hs:s.heap.IsSliceOf sl vl vu .none)(pl:uf vl lo)(pu:uf vu hi)
  (h1:dw items.size 0 lo=0) (h2:dw items.size items.size hi=items.size) (h:Q (.ref t) s):Ù (Ý prog w) A (n_ (.ref t) (.ref sl)) Q E s:=by
 obtain⟨os,Qf,XQ,U4⟩:=id hs
 have Y4:s.TypeIs (.ref sl) "slice":=⟨os,Qf,XQ⟩
 unfold n_
 try with_reducible refine Ŋ ?_
 first|refine Â (Í ?_)|skip
 refine Â (Xq ht.typeIs (by decide) ?_)
 refine Â (Œ (name:=å "__getitem__") ht.typeIs ņ
  (ı ņ ht.typeIs SK ?_ (Tj _ _)))
 show Ù _ _ (rY (.ref t) >>= _) _ _ s
 refine Â (tupleItemsOf_ ht ?_)
 refine Â (za Y4 ?_)
 rw[Ñ (by decide)]
 refine Â (lM hs pl pu ?_)
 have ZA:((((dw items.size 0 lo:Nat):Int) == 0 && (1:Int) == 1 && (dw items.size items.size hi - dw items.size 0 lo) == items.size)=true):=by
  rw[h1,h2];simp
 show Ù _ _ (if (((dw items.size 0 lo:Nat):Int) == 0 && (1:Int) == 1 && (dw items.size items.size hi - dw items.size 0 lo) == items.size)=true then _ else _) _ _ s
 rw[Ñ ZA]
 unfold Yg
 refine Â (Â (za ht.typeIs (Í ?_)))
 rw[Ñ (by decide)]
 first
  | exact Â (cJ (Í ⟨_,rfl,Í h⟩))
  | exact Â (cJ (Â (Í (Í ⟨_,rfl,Í h⟩))))
end
end HT
namespace L2
open PySem PySem.Spec PyProof.Rows
def RQ (K:É):R2:=λ x y H Q=>∃ a b xs ys,x=.ref a/\y=.ref b/\hZ K H a xs/\hZ K H b ys/\ys≠[]/\xs.length+ys.length<=sizeLine/\
 (xs=[]->Q (.ref b) H)/\(xs≠[]->∀ p,H p=none->Q (.ref p) (upd H p (.tup (xs++ys))))
theorem Jx:kI X (bO .Add) (RQ X.K):=by
 intro Ä s σ H x y v u Q I rx ry h
 obtain⟨a,b,xs,ys,rfl,rfl,ha,hb,hy,hz,q1,q2⟩:=h
 by_cases hx:xs=[]
 ·cases rx
  cases ry
  obtain⟨its,r1,p1,_⟩:=I.tuple ha
  obtain⟨eV,r2,p2,_⟩:=I.tuple hb
  obtain⟨⟨cls,dd,data,sl⟩,ho,hc,n,hd⟩:=id p1
  obtain⟨⟨YN,SW,data2,WC⟩,ck,U0,n2,hd2⟩:=id p2
  simp only at hc hd U0 hd2
  subst hc hd U0 hd2
  have he:its=[]:=r1.uS.mpr hx
  exact LJ ⟨_,ho,rfl⟩ ⟨_,ck,rfl⟩ AU G6 mU l8 (lr _ _)
   (tuple_addW0 a b its.toArray eV.toArray n n2 dd SW sl WC (by simp[he])) ⟨ho,ck,⟨.ref b,H,I,rfl,q1 hx⟩⟩
 ·exact Nr Ä s σ H (.ref a) (.ref b) v u Q I rx ry ⟨a,b,xs,ys,rfl,rfl,ha,hb,hx,hz,λ z=>absurd z hy,λ _=>q2 hx⟩
def Wx (K:É):V->Ë Int->Ë Int->Hp->VK->Prop:=λ x lo hi H Q=>∃ a xs,x=.ref a/\hZ K H a xs/\
 ((HT.dw xs.length 0 lo=0/\HT.dw xs.length xs.length hi=xs.length)->Q (.ref a) H)/\(¬ (HT.dw xs.length 0 lo=0/\HT.dw xs.length xs.length hi=xs.length)->∀ p,H p=none->Q (.ref p) (upd H p (.tup (vt xs lo hi))))
theorem N6:Tw X (Wx X.K):=by
 intro Ä s σ H x v vl vu lo hi sl Q I rx hs pl pu h
 obtain⟨a,xs,rfl,hx,q1,q2⟩:=h
 by_cases hw:HT.dw xs.length 0 lo=0/\HT.dw xs.length xs.length hi=xs.length
 ·cases rx
  obtain⟨its,r,ht,hz⟩:=I.tuple hx
  have hlen:its.toArray.size=xs.length:=by rw[Ú];exact r.length.symm
  refine⟨"tuple",_,ņ.lookup,ht.typeIs,?_⟩
  exact HT.oQ ht hs pl pu (by rw[hlen];exact hw.1) (by rw[hlen];exact hw.2) ⟨.ref a,H,I,rfl,q1 hw⟩
 ·exact R' Ä s σ H (.ref a) v vl vu lo hi sl Q I rx hs pl pu ⟨a,xs,rfl,hx,hw,q2 hw⟩
open PySem.W
section
variable {prog:Ą}{w:ğ}{A:į}{E:Value->Ò->Prop}{s:Ò}{K:É}{x C:Addr}{ox:Obj}{od:Ë Obj}{name:Str}
structure Pu (K:É)(C:Addr):Prop where
 ga:ö K (.ref C) "__getattribute__"=À (À (.builtin "BaseException.__getattribute__"))
 gx:ö K (.ref C) "__getattr__"=À none
 sb:yP K (.ref C) (.type "BaseException")=À true
theorem Mr:builtinKind "BaseException.__getattribute__"=À .slot:=by decide +kernel
theorem Ic:splitId "BaseException.__getattribute__"=À ("BaseException","__getattribute__"):=by decide +kernel
theorem UN:(AN "BaseException.__getattribute__" == AN "object.__getattribute__")=false:=by decide +kernel
theorem KO {nameV:Value}{Q:Unit->Ò->Prop}(X:K.In s.heap)(I:InstAt s.heap x ox C od)(g:Pu K C)(hq:Q () s) :
  Ù (Ý prog w) A (Yw "BaseException.__getattribute__" ⟨[.ref x,nameV],[]⟩) Q E s:=by
 have L0:=I.type (M:=Ý prog w)
 have L1:=looks_subIn (M:=Ý prog w) X g.sb
 have ha:=PySem.F.args_bexc_ga (.ref x) nameV
 simp only[Yw,Mr,Ic]
 refine Â ?_
 unfold isInstance
 refine Â (L0.here (L1.here ?_))
 rw[Ö (by decide)]
 unfold argsOk at ha
 split at ha
 ·rename_i sg e
  rw[e]
  dsimp only
  rw[ha]
  exact Í hq
 ·rename_i e
  rw[e]
  exact Í hq
theorem KN {tk:SJ}{gv a:Value}{Q:Fin->Ò->Prop}(X:K.In s.heap)(I:InstAt s.heap x ox C od)(hf:findObj K C od name=À (.bind gv a))
  (hq:Ù (Ý prog w) A (call gv [a,.ref x,.ref C]) (λ v s'=>Q (.done (.ret v)) s') E s) :
  Ù (Ý prog w) A (fB.«object.__getattribute__» ⟨[.ref x,.str name tk],[]⟩) Q E s:=by
 obtain⟨hh,gg,d,t,os⟩:=s
 have L0:=I.type (M:=Ý prog w)
 have L1:=looks_find (M:=Ý prog w) X I hf
 unfold fB.«object.__getattribute__»
 refine Â (Í ?_)
 refine Â (Í (Â (L0.at (Â (L1.at ?_)))))
 show Ù _ _ (cR [a] (call gv [a,.ref x,.ref C]) >>= ret) _ _ _
 exact Â (Ŋ (af hq λ v s' z=>Í z))
theorem W7 {tk:SJ}{fill expr:Bool}{Q:Value->Ò->Prop}(X:K.In s.heap)(I:InstAt s.heap x ox C od)(g:Pu K C)
  (hq:Ù (Ý prog w) A.in1 (fB.«object.__getattribute__» ⟨[.ref x,.str name tk],[]⟩) (λ f s'=>∃ v,f=.done (.ret v)/\handedIn v=true/\Q v s') (λ _ _=>False) s) :
  Ù (Ý prog w) A (getAttrBy (.ref x) (.str name tk) fill expr) Q E s:=by
 have L0:=I.type (M:=Ý prog w)
 have L1:=looks_findIn (M:=Ý prog w) X g.ga
 have L2:=looks_findIn (M:=Ý prog w) X g.gx
 have ho:onTheHeap (Î C)=true:=rfl
 unfold getAttrBy
 refine Ŋ (Â (L0.here (Â (L1.here ?_))))
 dsimp only
 rw[Ö (by rw[UN,qc];decide)]
 unfold getAttrByItsOwn hookBefore
 rw[Ñ ho]
 refine Â (L2.here (Â (km (Ŋ ?_))))
 unfold callGetattribute
 rw[Ö (by rw[show onTheHeap (AN "BaseException.__getattribute__")=false from rfl,qc];decide)]
 unfold boundAndCalled
 refine Â (Pl (Ao.ga.bind (.ref x)) ?_)
 refine Fw (codeAny_call_builtin Ao.ga.plain PySem.F.entry_bexc_ga (KO X I g ?_))
 refine aW hq (λ f s' z=>?_) (λ _ _ z=>z.elim)
 obtain⟨v,rfl,hh,q⟩:=z
 exact handed_on hh q
structure LQ (K:É)(C:Addr):Prop extends Pu K C where
 ca:ö K (.ref C) "__class__"=À (À (.builtin "object.__class__"))
 cn:gb K (.builtin "object.__class__") "__get__"=À (À (.builtin "getset_descriptor.__get__"))
 ct:iZ K (.builtin "object.__class__")=À true
 cm:qh K C (.type "object")=À true
 cl:(cQ K C).isSome=true
theorem Bh {a gv:Value}(hc:(cQ K C).isSome=true) (ha:ö K (.ref C) name=À (À a)) (hg:gb K a "__get__"=À (À gv)) (ht:iZ K a=À true):findObj K C od name=À (.bind gv a):=by
 obtain⟨cd,hc⟩:=bU.mp hc
 simp[findObj,hc,ha,hg,ht]
theorem KP {Q:Ë Value->Ò->Prop}(X:K.In s.heap)(I:InstAt s.heap x ox C od)(g:LQ K C)(hq:Q (À (.ref C)) { s with toks:=s.toks+1 }) :
  Ù (Ý prog w) A (getAttr? (.ref x) "__class__") Q E s:=by
 unfold getAttr? getAttrBy?
 refine Â (wpAny_mkText (Â (km ?_)))
 refine W7 (s:={ s with toks:=s.toks+1 }) X I g.toPu (KN (s:={ s with toks:=s.toks+1 }) X I (Bh g.cl g.ca g.cn g.ct) (Fw (class_get (s:={ s with toks:=s.toks+1 }) (ox:=ox) (od:=od) X I g.cm ⟨_,rfl,rfl,?_⟩)))
 exact Í hq
theorem D6 (hc:(cQ K C).isSome=true):∃ c1 d1 cd sl,K.lookup C=À ⟨c1,d1,.cls cd,sl⟩:=by
 unfold cQ at hc
 split at hc
 ·exact⟨_,_,_,_,by assumption⟩
 ·cases hc
theorem Bs (g:LQ K C):KitX K (.ref x) (.ref C) (λ h=>∃ ox od,InstAt h x ox C od) where
 ty:=λ _ _ _ ⟨_,_,I⟩=>I.type
 it:=λ _ _ X _ A' Q' E' s' k' q'=>by
  obtain⟨c1,d1,cd,sl,hl⟩:=D6 g.cl
  show Ù _ A' (isType (.ref C)) Q' E' s'
  unfold isType loadHead
  exact Â (wpAny_loadPart (k' C _ (X C _ hl)) (Í q'))
 ne:=λ h tp dd its n sl X htp=>by
  obtain⟨c1,d1,cd,WB,hl⟩:=D6 g.cl
  cases e:(Î C == Î tp) with
  | false=>rfl
  | true=>
   have e2:C=tp:=Value.ref.inj (mX.mp e)
   rw[<-e2,X C _ hl]at htp
   cases htp
 ca:=λ X ⟨_,_,I⟩ k=>KP X I g k
end
abbrev uM:Á Value:=[.type "ValueError",.type "Exception",.type "BaseException",.type "object"]
def Kk (es:Ğ AD):Bool:=es.toList.all λ en=>match en.key with|.str _ _=>true|_=>false
theorem Kl (h:Kk es=true):StrKeys es:=by
 intro en he
 have q:=ă.mp h en (pe.mpr he)
 cases k:en.key with
 | str n t=>exact⟨n,t,rfl⟩
 | _=>rw[k]at q;cases q
structure Xw (K:É)(N:Addr)(m:Str->Ë Value):Prop where
 ex:∃ nc nd es ep X4,K.lookup N=À ⟨nc,nd,.dict es ep,X4⟩/\Kk es=true/\∀ x,nsFind es x=m x
theorem Xw.ns {K:É}{h:Heap}(x:Xw K N m)(X:K.In h):h.Ns N m:=by
 obtain⟨nc,nd,es,ep,X4,l,q,e⟩:=x.ex
 exact⟨_,es,ep,X _ _ l,rfl,Kl q,e⟩
inductive qv (K:É):Á Value->Prop
 | base:qv K uM
 | own {B:Addr}{c0:Value}{dd:Ë Addr}{cd:ClassData}{sl:Ğ (Ë Value)}{m:Str->Ë Value}{tl:Á Value}(l:K.lookup B=À ⟨c0,dd,.cls cd,sl⟩) (n:Xw K cd.ns m) (i:m "__init__"=none) (t:qv K tl):qv K (.ref B :: tl)
theorem qv.Rr {K:É}(t:qv K l)(X:K.In h):OwnTail h uM l:=by
 induction t with
 | base=>exact .base
 | own l n i _ ih=>exact .own (X _ _ l) (n.ns X) i ih
structure jm (K:É)(C:Addr)(nm:Str)(bm:Á Value)(rS:Ë Value):Prop where
 ex:∃ q N bs sn sub ab col dd k0 k1 k2 k3 k5 m,K.lookup C=À (excClassObj nm q C N bs bm true sn sub ab col dd k0 k1 k2 k3 k5 "ValueError.__new__")/\Xw K N m/\m "__init__"=rS
 tail:qv K bm
section
variable {K:É}{C:Addr}{nm:Str}{bm:Á Value}{rS:Ë Value}
theorem jm.cls (x:jm K C nm bm rS):∃ cd,cQ K C=À cd/\cd.mro=.ref C :: bm/\cd.hasDict=true/\cd.name=nm:=by
 obtain⟨q,N,bs,sn,sub,ab,col,dd,k0,k1,k2,k3,k5,m,l,_⟩:=x.ex
 exact⟨_,by unfold cQ;rw[l],rfl,rfl,rfl⟩
theorem jm.O2 (x:jm K C nm bm rS):(cQ K C).isSome=true:=by
 obtain⟨cd,e,_⟩:=x.cls
 rw[e];rfl
theorem jm.mro (x:jm K C nm bm rS)(T:Value):yP K (.ref C) T=À ((Î C :: bm).contains T):=by
 obtain⟨cd,e,em,_⟩:=x.cls
 show qh K C T=_
 unfold qh
 rw[e,aj,em,Ö (by simp)]
theorem jm.Vn (x:jm K C nm bm rS)(T:Value)(ht:(∃ n b i,∃ D,T=.ref D/\jm K D n b i)∨∃ t,T=.type t/\kitMeta t=true):LK K (.ref C) T=À ((Î C :: bm).contains T):=by
 unfold LK
 by_cases q:(Î C == T)=true
 ·rw[Ñ q,mX.mp q];simp
 ·rw[Ö q]
  rcases ht with⟨n,b,i,D,rfl,y⟩|⟨t,rfl,y⟩
  ·have z:((cQ K D).isSome && xh K (.ref D) == À (.type "type"))=true:=by
    rw[y.O2]
    obtain⟨_,_,_,_,_,_,_,_,_,_,_,_,_,_,l,_⟩:=y.ex
    have e:xh K (.ref D)=À (.type "type"):=by
     show Option.map (λ o=>o.cls) (K.lookup D)=_
     rw[l]
     rfl
    rw[e]
    rfl
   unfold kitCls
   dsimp only
   rw[Ñ z]
   exact x.mro _
  ·unfold kitCls
   dsimp only
   rw[Ñ y]
   exact x.mro _
end
def Ya (C e:Addr):HO:=.ext λ h=>∃ ox:Obj,h.get? e=À ox/\ox.cls=.ref C/\notCls ox=true/\ox.dict=none
def xcD (C e dx:Addr):HO:=.ext λ h=>∃ ox:Obj,h.get? e=À ox/\ox.cls=.ref C/\notCls ox=true/\ox.dict=À dx
theorem Ũ.there (x:Ũ P w H h a o):∃ ob,h.get? a=À ob:=by
 cases o with
 | lst xs=>obtain⟨_,_,_,_,e⟩:=x;exact⟨_,e⟩
 | tup xs=>obtain⟨_,_,_,ob,e,_⟩:=x;exact⟨_,e⟩
 | dK kvs=>obtain⟨_,_,_,_,o,_,_,e,_⟩:=x;exact⟨_,e⟩
 | dT kvs=>obtain⟨_,_,_,_,o,_,_,e,_⟩:=x;exact⟨_,e⟩
 | set S n=>obtain⟨o,_,_,_,e,_⟩:=x;exact⟨_,e⟩
 | ins C dx fs=>obtain⟨_,_,_,e,_⟩:=x;exact⟨_,e⟩
 | own y=>obtain⟨_,e⟩:=x;exact⟨_,e⟩
 | xd fs=>obtain⟨_,⟨_,_,_,e,_⟩,_⟩:=x;exact⟨_,e⟩
 | Wy lo hi=>obtain⟨_,_,_,e⟩:=x;exact⟨_,e⟩
 | oZ ob u=>obtain⟨e,_⟩:=x;exact⟨_,e⟩
 | uW ps=>exact⟨_,(show h.get? a=À _ from x)⟩
 | met f y=>exact⟨_,(show h.get? a=À _ from x)⟩
 | ext φ=>obtain⟨_,⟨_,e⟩,_⟩:=x;exact⟨_,e⟩
section
variable {X:Cx}{Ä:Á (Addr × Obj)}{σ:St}{H:Hp}{s:Ò}{h':Heap}{a:Addr}{o:HO}
theorem Inv.gone (I:Inv X Ä σ H s)(hn:s.heap.get? a=none):H a=none:=by
 cases q:H a with
 | none=>rfl
 | some u=>
  obtain⟨ob,e⟩:=(I.ļ a u q).there
  rw[hn]at e;cases e
theorem Inv.Vr (I:Inv X Ä σ H s)(k:∀ b u,s.heap.get? b=À u->h'.get? b=À u)(hn:s.heap.get? a=none)(new:Ũ X.prog X.w (upd H a o) h' a o):Inv X Ä σ (upd H a o) { s with heap:=h',toks:=t' }:=by
 have ha:=I.gone hn
 have nb:∀ b u,s.heap.get? b=À u->b≠a:=λ b u q z=>by subst z;rw[hn]at q;cases q
 have nh:∀ b u,H b=À u->b≠a:=λ b u q=>Đ q ha
 refine I.un ⟨λ b u q _ _ _=>k b u q,λ b u q _ _ _=>⟨u.slots,k b u q⟩,λ b u q n _=>by rw[ã (nb b u q)];exact n,λ b u q _=>⟨u,k b u q⟩,
  λ b xs q=>by rw[ã (nh b _ q)];exact q,λ b u xs q=>by rw[ã (nh b _ q)];exact q,λ b ps q=>⟨#[],by rw[ã (nh b _ q),q];simp⟩⟩ λ b u q=>?_
 by_cases hb:b=a
 ·subst hb;rw[û]at q;cases q;exact new
 ·rw[ã hb]at q
  exact(I.ļ b u q).p8 (λ c v _ z=>k c v z) (λ c z=>by rw[ã (nh c _ z)];exact z) λ c xs z=>by rw[ã (nh c _ z)];exact z
end
def Xv (H:Hp)(e C:Addr):Prop:=H e=À (Ya C e)∨∃ dx fs,H e=À (xcD C e dx)/\H dx=À (.xd fs)
theorem Xv.inst (x:Xv H e C)(I:Inv X Ä σ H s):∃ ox od,InstAt s.heap e ox C od:=by
 rcases x with x|⟨dx,fs,x,hf⟩
 ·obtain⟨⟨ox,e1,e2,e3,e4⟩,_⟩:=I.ļ _ _ x
  exact⟨ox,none,e1,e2,e3,by rw[e4];trivial⟩
 ·obtain⟨⟨ox,e1,e2,e3,e4⟩,_⟩:=I.ļ _ _ x
  obtain⟨mA,⟨od,_,_,q,_⟩,_⟩:=I.ļ _ _ hf
  exact⟨ox,À od,e1,e2,e3,by rw[e4];exact q⟩
def Z' (K:É):Á V->Hp->VK->Prop:=λ xs H Q=>∃ e C v c b,xs=[.ref e,v]/\(match v with|.ty n=>c=bW n|.ref a=>c=Î a|_=>False)/\Xv H e C/\LQ K C/\LK K (.ref C) c=À b/\Q (.bl b) H
theorem Hr:cq X (.builtin "isinstance") (Z' X.K):=by
 rintro Ä s σ H xs us Q I rv ⟨e,C,v,c,b,rfl,hv,hx,g,kb,q⟩
 obtain⟨ox,od,J⟩:=hx.inst I
 cases rv with
 | cons r1 rv=>
  cases rv with
  | cons r2 rv=>
   cases rv
   cases (show _=Î e from r1)
   rename_i u2
   have e2:u2=c:=by
    cases v with
    | ty n=>exact(show u2=bW n from r2).trans hv.symm
    | ref a=>exact(show u2=Î a from r2).trans hv.symm
    | _=>exact hv.elim
   subst e2
   exact ī (Bs g) I.mz ⟨ox,od,J⟩ kb (λ z=>nomatch z) λ tk=>⟨.bl b,H,I.tok _,rfl,q⟩
end L2
namespace L2
open PySem PySem.Spec PyProof.Rows
theorem Ad:∀ {ss:Á Str}{us:Á Value},Vals (ss.map V.str) us->∃ l:Á (Str × SJ),strValues l=us/\l.map (·.1)=ss
 | [],_,.nil=>⟨[],rfl,rfl⟩
 | x :: r,_,.cons ⟨t,e⟩ h=>by
  obtain⟨l,h1,h2⟩:=Ad h
  subst e
  exact⟨(x,t) :: l,by rw[<-h1];rfl,by rw[Ó,h2]⟩
def RX:Á V->Hp->VK->Prop:=λ xs H Q=>∃ (l:Addr)(ss:Á Str),xs=[.ref l]/\H l=À (.lst (ss.map V.str))/\ss.length < 64/\∀ (Lz:Á Str) d,H d=none->Lz.Perm ss->sortedS Lz=true->Q (.ref d) (upd H d (.lst (Lz.map V.str)))
theorem wB:∀ {ss:Á Str}{us:Á Value},Vals (ss.map V.str) us->Xe us ss
 | [],_,.nil=>.nil
 | x :: r,_,.cons ⟨t,e⟩ h=>by subst e;exact .cons x t (wB h)
theorem iM:∀ {ss:Á Str}{us:Á Value},Xe us ss->Vals (ss.map V.str) us
 | _,_,.nil=>.nil
 | _,_,.cons x t h=>.cons ⟨t,rfl⟩ (iM h)
theorem vm:cq X (.builtin "sorted") RX:=by
 rintro Ä s σ H xs us Q I rv ⟨l,ss,rfl,hH,El,q⟩
 obtain⟨u,rfl,ru⟩:=rv.one
 cases (show u=Î l from ru)
 obtain⟨z,its,n,r,hl,e⟩:=I.F_ hH
 rw[Õ]at hl
 refine sorted_strs ⟨_,e,rfl,n,rfl⟩ (wB r) (by lia) λ out Lz a1 a2 a3=>?_
 obtain⟨e',he⟩:=sortedAll_at s.heap its out
 have hd:H (s.heap.objs.size+1)=none:=I.ļ.fresh (mK _)
 refine⟨.ref (s.heap.objs.size+1),_,I.laid (a:=s.heap.objs.size+1) (o:=.lst (Lz.map V.str)) (t':=s.toks) (λ b o z=>sortedAll_old z) (mK _) ⟨?_,_,e',iM a1,?_⟩,rfl,q Lz _ hd a2 a3⟩
 ·rw[Õ,a2.length_eq];exact Ė (ş (by lia))
 ·rw[he]
end L2
namespace Mm
open PySem L2
inductive AV where
 | Ē|bl (b:Bool)|int (i:Int)|str (x:Str)|tup (xs:Á AV)|ref (i:Nat)|sq (xs:Á AV)
inductive AO where
 | lst (xs:Á AV)|dK (kvs:Á (Key × AV))|dT (kvs:Á (Á Key × AV))|ins (C:Nat) (fs:Á (Str × AV))|exc (C:Nat)|tab (i:Nat) (q:Str)
abbrev S:=Á AO
abbrev En:=Á (Ë AV)
structure AX where
 cls:Nat
 fs:Á (Str × AV)
inductive R (α:Type) where
 | ok (a:α) (s:S)|ex (c:AX) (s:S)|bad
def R.bind {α β:Type}:R α->(α->S->R β)->R β
 | .ok a s,f=>f a s
 | .ex c s,_=>.ex c s
 | .bad,_=>.bad
inductive RS where
 | nx (e:En) (s:S)|rt (v:AV) (s:S)|bk (e:En) (s:S)|ct (e:En) (s:S)|ex (c:AX) (s:S)|bad
@[simp] theorem ą (a:α) (s:S) (f:α->S->R β):(R.ok a s).bind f=f a s:=rfl
@[simp] theorem qz (f:α->S->R β):(R.bad:R α).bind f=.bad:=rfl
structure Tx where
 K:É
 cl:Nat->Addr
def OH (K:É)(H:Hp)(a:Addr)(xs:Á V):Prop:=
 (∃ o,H a=À (.oZ o (.lst xs)))∨∃ (o:Obj) (its:Ğ Value) (n:Nat),K.lookup a=À o/\o.cls=.type "list"/\o.dict=none/\o.data=.seq its n/\its.size<=sizeLine/\Vals xs its.toList
theorem OH.GF (h:OH K H a xs):fZ K H a xs:=by
 rcases h with h|h
 ·exact .inl (.inr h)
 ·exact .inr h
mutual
def VR (T:Tx)(ρ:Á Addr)(H:Hp):AV->V->Prop
 | .Ē,x=>x=.Ē
 | .bl b,x=>x=.bl b
 | .int i,x=>x=.int i
 | .str z,x=>x=.str z
 | .tup xs,x=>∃ a vs,x=.ref a/\hZ T.K H a vs/\Ħ T ρ H xs vs
 | .ref i,x=>∃ a,ρ[i]? = À a/\x=.ref a
 | .sq xs,x=>∃ a vs,x=.ref a/\OH T.K H a vs/\Ħ T ρ H xs vs
def Ħ (T:Tx)(ρ:Á Addr)(H:Hp):Á AV->Á V->Prop
 | [],vs=>vs=[]
 | v :: r,vs=>∃ x ys,vs=x :: ys/\VR T ρ H v x/\Ħ T ρ H r ys
end
structure Gr (ρ:Á Addr)(H:Hp)(Ň:Á Addr)(H':Hp):Prop where
 pre:ρ <+: Ň
 mJ:∀ b xs,H b=À (.tup xs)->H' b=À (.tup xs)
 kS:∀ b o u,H b=À (.oZ o u)->H' b=À (.oZ o u)
structure Up (ρ:Á Addr)(H:Hp)(Ň:Á Addr)(H':Hp):Prop extends Gr ρ H Ň H' where
 fr:∀ b o,H b=À o->b∉ρ->H' b=À o/\b∉Ň
 live:∀ b,H' b=none->H b=none
theorem Up.refl:Up ρ H ρ H:=⟨⟨aR,λ _ _ h=>h,λ _ _ _ h=>h⟩,λ _ _ h n=>⟨h,n⟩,λ _ h=>h⟩
theorem Up.trans (a:Up ρ H Ě H1)(b:Up Ě H1 bf H2):Up ρ H bf H2:=
 ⟨⟨a.pre.trans b.pre,λ c xs h=>b.mJ c xs (a.mJ c xs h),λ c o u h=>b.kS c o u (a.kS c o u h)⟩,λ c o h n=>let ⟨h1,n1⟩:=a.fr c o h n;b.fr c o h1 n1,λ c h=>a.live c (b.live c h)⟩
theorem Up.add (a:Up ρ H Ě H1)(h:H p=none):Up ρ H (Ě++[p]) H1:=
 ⟨⟨a.pre.trans (fW _ _),a.mJ,a.kS⟩,λ b o e n=>⟨(a.fr b o e n).1,λ z=>by
  rcases aQ.mp z with z|z
  ·exact(a.fr b o e n).2 z
  ·rw[ò.mp z,h]at e;cases e⟩,a.live⟩
theorem EW {α:Type}{ρ Ň:Á α}(h:ρ <+: Ň){i:Nat}{a:α}(e:ρ[i]? = À a):Ň[i]? = À a:=by
 obtain⟨t,rfl⟩:=h
 rw[á]
 ·exact e
 ·exact(Æ.mp e).1
theorem Gr.WD (u:Gr ρ H Ň H')(h:hZ K H a vs):hZ K H' a vs:=by
 rcases h with(h|⟨o,h⟩)|h
 ·exact .inl (.inl (u.mJ _ _ h))
 ·exact .inl (.inr ⟨o,u.kS _ _ _ h⟩)
 ·exact .inr h
theorem Gr.sqF (u:Gr ρ H Ň H')(h:OH K H a vs):OH K H' a vs:=by
 rcases h with⟨o,h⟩|h
 ·exact .inl ⟨o,u.kS _ _ _ h⟩
 ·exact .inr h
section
variable {T:Tx}{ρ Ň:Á Addr}{H H':Hp}
mutual
theorem VR.gr (u:Gr ρ H Ň H'):∀ {v:AV}{x:V},VR T ρ H v x->VR T Ň H' v x
 | .Ē,_,h=>h
 | .bl _,_,h=>h
 | .int _,_,h=>h
 | .str _,_,h=>h
 | .ref _,_,h=>by
  unfold VR at *
  obtain⟨a,h,e⟩:=h
  exact⟨a,EW u.pre h,e⟩
 | .tup _,_,h=>by
  unfold VR at *
  obtain⟨a,vs,e,h1,h2⟩:=h
  exact⟨a,vs,e,u.WD h1,Ħ.gr u h2⟩
 | .sq _,_,h=>by
  unfold VR at *
  obtain⟨a,vs,e,h1,h2⟩:=h
  exact⟨a,vs,e,u.sqF h1,Ħ.gr u h2⟩
theorem Ħ.gr (u:Gr ρ H Ň H'):∀ {l:Á AV}{xs:Á V},Ħ T ρ H l xs->Ħ T Ň H' l xs
 | [],_,h=>h
 | _ :: _,_,h=>by
  unfold Ħ at *
  obtain⟨x,ys,e,h1,h2⟩:=h
  exact⟨x,ys,e,VR.gr u h1,Ħ.gr u h2⟩
end
theorem VR.up (u:Up ρ H Ň H')(h:VR T ρ H v x):VR T Ň H' v x:=h.gr u.toGr
theorem Ħ.up (u:Up ρ H Ň H')(h:Ħ T ρ H v x):Ħ T Ň H' v x:=h.gr u.toGr
theorem Ħ.length:∀ {l:Á AV}{xs:Á V},Ħ T ρ H l xs->l.length=xs.length
 | [],_,h=>by unfold Ħ at h;subst h;rfl
 | _ :: _,_,h=>by
  unfold Ħ at h
  obtain⟨x,ys,rfl,_,h2⟩:=h
  simp[Ħ.length h2]
theorem Ħ.nil:Ħ T ρ H [] []:=by unfold Ħ;rfl
theorem Ħ.cons {v:AV}{x:V}{l:Á AV}{xs:Á V}(h:VR T ρ H v x)(k:Ħ T ρ H l xs):Ħ T ρ H (v :: l) (x :: xs):=by
 unfold Ħ
 exact⟨x,xs,rfl,h,k⟩
theorem Ħ.nil_inv (h:Ħ T ρ H [] xs):xs=[]:=by unfold Ħ at h;exact h
theorem Ħ.cons_inv (h:Ħ T ρ H (v :: l) xs):∃ x ys,xs=x :: ys/\VR T ρ H v x/\Ħ T ρ H l ys:=by unfold Ħ at h;exact h
theorem Ħ.get:∀ {l:Á AV}{xs:Á V}{i:Nat}{v:AV},Ħ T ρ H l xs->l[i]? = À v->∃ x,xs[i]? = À x/\VR T ρ H v x
 | [],_,_,_,_,e=>by simp at e
 | _ :: _,_,0,_,h,e=>by
  obtain⟨x,ys,rfl,h1,_⟩:=h.cons_inv
  simp at e;subst e
  exact⟨x,rfl,h1⟩
 | _ :: _,_,i+1,_,h,e=>by
  obtain⟨x,ys,rfl,_,h2⟩:=h.cons_inv
  exact Ħ.get (i:=i) h2 (by simpa using e)
theorem Ħ.append:∀ {l q:Á AV}{xs ys:Á V},Ħ T ρ H l xs->Ħ T ρ H q ys->Ħ T ρ H (l++q) (xs++ys)
 | [],_,_,_,h,k=>by cases h.nil_inv;exact k
 | _ :: _,_,_,_,h,k=>by
  obtain⟨x,zs,rfl,h1,h2⟩:=h.cons_inv
  exact .cons h1 (Ħ.append h2 k)
theorem Ħ.one (h:VR T ρ H v x):Ħ T ρ H [v] [x]:=.cons h .nil
theorem Ħ.set:∀ {l:Á AV}{xs:Á V}{v:AV}{x:V}(i:Nat),Ħ T ρ H l xs->VR T ρ H v x->Ħ T ρ H (l.set i v) (xs.set i x)
 | [],_,_,_,_,h,_=>by cases h.nil_inv;exact .nil
 | _ :: _,_,_,_,0,h,k=>by
  obtain⟨x,zs,rfl,h1,h2⟩:=h.cons_inv
  exact .cons k h2
 | _ :: _,_,_,_,i+1,h,k=>by
  obtain⟨x,zs,rfl,h1,h2⟩:=h.cons_inv
  exact .cons h1 (Ħ.set i h2 k)
theorem Ħ.drop:∀ {l:Á AV}{xs:Á V}(n:Nat),Ħ T ρ H l xs->Ħ T ρ H (l.drop n) (xs.drop n)
 | _,_,0,h=>h
 | [],_,_+1,h=>by cases h.nil_inv;exact .nil
 | _ :: _,_,n+1,h=>by
  obtain⟨x,zs,rfl,h1,h2⟩:=h.cons_inv
  exact Ħ.drop n h2
theorem Ħ.take:∀ {l:Á AV}{xs:Á V}(n:Nat),Ħ T ρ H l xs->Ħ T ρ H (l.take n) (xs.take n)
 | _,_,0,h=>.nil
 | [],_,_+1,h=>by cases h.nil_inv;exact .nil
 | _ :: _,_,n+1,h=>by
  obtain⟨x,zs,rfl,h1,h2⟩:=h.cons_inv
  exact .cons h1 (Ħ.take n h2)
theorem Ħ.reverse:∀ {l:Á AV}{xs:Á V},Ħ T ρ H l xs->Ħ T ρ H l.reverse xs.reverse
 | [],_,h=>by cases h.nil_inv;exact .nil
 | _ :: _,_,h=>by
  obtain⟨x,zs,rfl,h1,h2⟩:=h.cons_inv
  rw[l6,l6]
  exact(Ħ.reverse h2).append (.one h1)
theorem Ħ.map {α:Type}{f:α->AV}{g:α->V}(h:∀ a,VR T ρ H (f a) (g a)):∀ (l:Á α),Ħ T ρ H (l.map f) (l.map g)
 | []=>.nil
 | a :: r=>.cons (h a) (Ħ.map h r)
theorem Ħ.DW:∀ {ns:Á Bool}{xs:Á V},Ħ T ρ H (ns.map AV.bl) xs->xs=ns.map V.bl
 | [],_,h=>h.nil_inv
 | _ :: _,_,h=>by
  obtain⟨x,zs,rfl,h1,h2⟩:=h.cons_inv
  unfold VR at h1
  rw[h1,Ħ.DW h2];rfl
theorem Ħ.wC:∀ {ns:Á Str}{xs:Á V},Ħ T ρ H (ns.map AV.str) xs->xs=ns.map V.str
 | [],_,h=>h.nil_inv
 | _ :: _,_,h=>by
  obtain⟨x,zs,rfl,h1,h2⟩:=h.cons_inv
  unfold VR at h1
  rw[h1,Ħ.wC h2];rfl
theorem dY:VR T ρ H (.int i) (.int i):=by unfold VR;rfl
theorem dt:VR T ρ H (.bl i) (.bl i):=by unfold VR;rfl
theorem iO:VR T ρ H (.str i) (.str i):=by unfold VR;rfl
theorem sZ:VR T ρ H .Ē .Ē:=by unfold VR;rfl
theorem p_ (h:ρ[i]? = À a):VR T ρ H (.ref i) (.ref a):=by unfold VR;exact⟨a,h,rfl⟩
theorem jT (h:hZ T.K H a vs)(k:Ħ T ρ H xs vs):VR T ρ H (.tup xs) (.ref a):=by unfold VR;exact⟨a,vs,rfl,h,k⟩
theorem VR.bV (h:VR T ρ H (.tup xs) x):∃ a vs,x=.ref a/\hZ T.K H a vs/\Ħ T ρ H xs vs:=by unfold VR at h;exact h
theorem VR.fS (h:VR T ρ H (.ref i) x):∃ a,ρ[i]? = À a/\x=.ref a:=by unfold VR at h;exact h
theorem VR.iL (h:VR T ρ H (.sq xs) x):∃ a vs,x=.ref a/\OH T.K H a vs/\Ħ T ρ H xs vs:=by unfold VR at h;exact h
theorem VR.int_inv (h:VR T ρ H (.int i) x):x=.int i:=by unfold VR at h;exact h
theorem VR.jv (h:VR T ρ H (.bl i) x):x=.bl i:=by unfold VR at h;exact h
theorem VR.str_inv (h:VR T ρ H (.str i) x):x=.str i:=by unfold VR at h;exact h
theorem VR.ja (h:VR T ρ H .Ē x):x=.Ē:=by unfold VR at h;exact h
def xN (H:Hp)(q:Str)(ps:Ğ Value):Prop:=Yv ps.toList/\∀ pos cv,AR pos ps.toList=À cv->∃ c oc u vs t,cv=.ref c/\H c=À (.oZ oc u)/\oc.data=.fields vs/\vs[1]? = À (.str q t)
def OR (T:Tx)(ρ:Á Addr)(H:Hp):AO->Addr->Prop
 | .lst xs,a=>∃ vs,H a=À (.lst vs)/\Ħ T ρ H xs vs
 | .dK kvs,a=>∃ ks:Á (Key × V),H a=À (.dK ks)/\kvs.map (·.1)=ks.map (·.1)/\Ħ T ρ H (kvs.map (·.2)) (ks.map (·.2))
 | .dT kvs,a=>∃ ks:Á (Á Key × V),H a=À (.dT ks)/\kvs.map (·.1)=ks.map (·.1)/\Ħ T ρ H (kvs.map (·.2)) (ks.map (·.2))
 | .ins C fs,a=>∃ (dx:Addr) (ks:Á (Str × V)),H a=À (.ins (T.cl C) dx ks)/\fs.map (·.1)=ks.map (·.1)/\Ħ T ρ H (fs.map (·.2)) (ks.map (·.2))
 | .exc C,a=>H a=À (Ya (T.cl C) a)
 | .tab i q,a=>a=T.cl i/\∃ ps,H a=À (.uW ps)/\xN H q ps
theorem OR.ex (h:OR T ρ H o a):∃ u,H a=À u:=by
 cases o with
 | lst xs=>obtain⟨_,h,_⟩:=h;exact⟨_,h⟩
 | dK xs=>obtain⟨_,h,_⟩:=h;exact⟨_,h⟩
 | dT xs=>obtain⟨_,h,_⟩:=h;exact⟨_,h⟩
 | ins C xs=>obtain⟨_,_,h,_⟩:=h;exact⟨_,h⟩
 | exc C=>exact⟨_,h⟩
 | tab i q=>obtain⟨_,_,h,_⟩:=h;exact⟨_,h⟩
theorem OR.up (u:Gr ρ H Ň H')(e:H' a=H a)(h:OR T ρ H o a):OR T Ň H' o a:=by
 cases o with
 | lst xs=>obtain⟨vs,h,k⟩:=h;exact⟨vs,e.trans h,k.gr u⟩
 | dK xs=>obtain⟨vs,h,q,k⟩:=h;exact⟨vs,e.trans h,q,k.gr u⟩
 | dT xs=>obtain⟨vs,h,q,k⟩:=h;exact⟨vs,e.trans h,q,k.gr u⟩
 | ins C xs=>obtain⟨dx,vs,h,q,k⟩:=h;exact⟨dx,vs,e.trans h,q,k.gr u⟩
 | exc C=>exact e.trans h
 | tab i q=>
  obtain⟨h1,ps,h2,h3,h4⟩:=h
  exact⟨h1,ps,e.trans h2,h3,λ pos cv z=>let ⟨c,oc,w,vs,t,k1,k2,k3⟩:=h4 pos cv z;⟨c,oc,w,vs,t,k1,u.kS _ _ _ k2,k3⟩⟩
end
structure SR (T:Tx)(ρ:Á Addr)(s:S)(H:Hp):Prop where
 nd:ρ.Nodup
 len:ρ.length=s.length
 obj:∀ (i:Nat) (o:AO),s[i]? = À o->∃ a,ρ[i]? = À a/\OR T ρ H o a
section
variable {T:Tx}{ρ Ň:Á Addr}{s:S}{H H':Hp}
theorem SR.in (h:SR T ρ s H)(ha:a∈ρ):∃ u,H a=À u:=by
 obtain⟨i,hi,e⟩:=ĩ ha
 have MC:i < s.length:=by rw[<-h.len];exact hi
 obtain⟨b,e2,q⟩:=h.obj i s[i] (Å MC)
 rw[Å hi]at e2
 cases e2
 rw[e]at q
 exact q.ex
theorem SR.out (h:SR T ρ s H)(ha:H a=none):a∉ρ:=λ z=>by
 obtain⟨u,e⟩:=h.in z
 rw[ha]at e;cases e
theorem SR.dQ (h:SR T ρ s H)(hp:H p=none):Up ρ H ρ (upd H p o):=
 ⟨⟨aR,λ b xs e=>by rw[ã (Đ e hp)];exact e,λ b o u e=>by rw[ã (Đ e hp)];exact e⟩,λ b u e n=>⟨by rw[ã (Đ e hp)];exact e,n⟩,λ b e=>by
  by_cases hb:b=p
  ·rw[hb];exact hp
  ·rw[ã hb]at e;exact e⟩
theorem SR.up (h:SR T ρ s H)(u:Gr ρ H ρ H')(k:∀ a∈ρ,H' a=H a):SR T ρ s H':=
 ⟨h.nd,h.len,λ i o e=>by
  obtain⟨a,e1,q⟩:=h.obj i o e
  exact⟨a,e1,q.up u (k a (é e1))⟩⟩
theorem SR.new (h:SR T ρ s H)(hp:H p=none):SR T ρ s (upd H p o):=
 h.up (h.dQ hp).toGr λ a ha=>ã λ e=>h.out hp (e ▸ ha)
theorem SR.add (h:SR T ρ s H)(hp:p∉ρ)(k:OR T (ρ++[p]) H o p):SR T (ρ++[p]) (s++[o]) H:=by
 refine⟨lZ.mpr ⟨h.nd,by simp,λ a ha b hb e=>hp (by rw[ò.mp hb]at e;exact e ▸ ha)⟩,by simp[h.len],λ i q e=>?_⟩
 by_cases hi:i < s.length
 ·rw[á hi]at e
  obtain⟨a,e1,q1⟩:=h.obj i q e
  refine⟨a,by rw[á (by rw[h.len];exact hi)];exact e1,?_⟩
  exact q1.up ⟨fW _ _,λ _ _ e=>e,λ _ _ _ e=>e⟩ rfl
 ·rw[ß (by lia)]at e
  have hz:i - s.length=0:=by
   have:=(Æ.mp e).1
   simp at this;lia
  rw[hz]at e
  cases e
  exact⟨p,by rw[ß (by rw[h.len];lia),h.len,hz];rfl,k⟩
end
structure Rl (α β:Type) where
 r:Hp->Á Addr->Hp->α->β->Prop
 LX:∀ {H H1:Hp}{ρ:Á Addr}{H':Hp}{v:α}{x:β},(∀ b,H1 b=none->H b=none)->r H1 ρ H' v x->r H ρ H' v x
abbrev j6:=AX->Á Addr->S->Hp->Prop
def Out {α β:Type}(T:Tx)(XE:j6)(rl:Rl α β)(ρ:Á Addr)(H:Hp):R α->(β->Hp->Prop)->Prop
 | .ok v s,Q=>∀ Ň H' x,Up ρ H Ň H'->SR T Ň s H'->rl.r H Ň H' v x->Q x H'
 | .ex c s,_=>∀ Ň H',Up ρ H Ň H'->SR T Ň s H'->XE c Ň s H'
 | .bad,_=>False
theorem Out.up (u:Up ρ H Ň H')(h:Out T XE rl ρ H r Q):Out T XE rl Ň H' r Q:=by
 cases r with
 | ok v s=>exact λ bf H2 x u2 sr vr=>h bf H2 x (u.trans u2) sr (rl.LX u.live vr)
 | ex c s=>exact λ bf H2 u2 sr=>h bf H2 (u.trans u2) sr
 | bad=>exact h
theorem Out.imp (h:Out T XE rl ρ H r Q)(k:∀ x H',Q x H'->Q' x H'):Out T XE rl ρ H r Q':=by
 cases r with
 | ok v s=>exact λ bf H2 x u2 sr vr=>k _ _ (h bf H2 x u2 sr vr)
 | ex c s=>exact h
 | bad=>exact h
structure ER (T:Tx)(ρ:Á Addr)(H:Hp)(env:En)(σ:St):Prop where
 len:env.length=σ.length
 get:∀ (i:Nat) (v:AV),env[i]? = À (À v)->∃ x,σ[i]? = À (À x)/\VR T ρ H v x
theorem ER.up (u:Up ρ H Ň H')(h:ER T ρ H env σ):ER T Ň H' env σ:=
 ⟨h.len,λ i v e=>let ⟨x,e1,q⟩:=h.get i v e;⟨x,e1,q.up u⟩⟩
theorem ER.set (h:ER T ρ H env σ)(k:VR T ρ H v x):ER T ρ H (env.set i (À v)) (σ.set i (À x)):=by
 refine⟨by simp[h.len],λ j w e=>?_⟩
 by_cases om:i=j
 ·subst om
  have hl:i < env.length:=by
   have:=(Æ.mp e).1
   simpa using this
  rw[Ę hl]at e
  cases e
  exact⟨x,by rw[Ę (by rw[<-h.len];exact hl)],k⟩
 ·rw[ð om]at e ⊢
  exact h.get j w e
def tG {α β:Type}(T:Tx)(XE:j6)(rl:Rl α β)(m:En->S->R α):St->Hp->(β->Hp->Prop)->Prop:=λ σ H Q=>
 ∃ ρ env s,SR T ρ s H/\ER T ρ H env σ/\Out T XE rl ρ H (m env s) Q
theorem step {rl:Rl α β} 
  (hs:SR T ρ s H) (he:ER T ρ H env σ) (ho:Out T XE rl2 ρ H ((m env s).bind k) Q)
  (hk:∀ v s1 Ě H1 x,m env s=.ok v s1->Up ρ H Ě H1->SR T Ě s1 H1->ER T Ě H1 env σ->rl.r H Ě H1 v x->Out T XE rl2 Ě H1 (k v s1) Q->F x H1):tG T XE rl m σ H F:=by
 refine⟨ρ,env,s,hs,he,?_⟩
 cases e:m env s with
 | ok v s1=>
  rw[e]at ho
  exact λ Ě H1 x u sr vr=>hk v s1 Ě H1 x e u sr (he.up u) vr (Out.up u ho)
 | ex c s1=>rw[e]at ho;exact ho
 | bad=>rw[e]at ho;exact ho
theorem Out.here (h:Out T XE rl ρ H (.ok v s) Q) (sr:SR T ρ s H)(r:rl.r H ρ H v x):Q x H:=h ρ H x .refl sr r
theorem ŀ {α β:Type}{T:Tx}{XE:j6}{rl:Rl α β}{m:En->S->R α}{σ:St}{H:Hp}{Q:β->Hp->Prop}{P:Prop}(h:tG T XE rl m σ H Q)(k:∀ ρ env s,SR T ρ s H->ER T ρ H env σ->Out T XE rl ρ H (m env s) Q->P):P:=by
 obtain⟨ρ,env,s,hs,he,ho⟩:=h
 exact k ρ env s hs he ho
theorem PE.imp (h:PE X e t)(k:∀ σ H Q,t' σ H Q->t σ H Q):PE X e t':=λ Ä s σ H Q I hq=>h Ä s σ H Q I (k σ H Q hq)
theorem PT.imp (h:PT X e t)(k:∀ σ H Q,t' σ H Q->t σ H Q):PT X e t':=λ Ä s σ H Q I hq=>h Ä s σ H Q I (k σ H Q hq)
theorem PW.imp (h:PW X e t)(k:∀ σ H Q,t' σ H Q->t σ H Q):PW X e t':=λ wh Ä s σ H Q I hq=>h wh Ä s σ H Q I (k σ H Q hq)
theorem PA.imp (h:PA X e t)(k:∀ σ H Q,t' σ H Q->t σ H Q):PA X e t':=λ pos Ä s σ H Q I hq=>h pos Ä s σ H Q I (k σ H Q hq)
theorem PS.imp (h:PS X e t)(k:∀ D σ H,t' D σ H->t D σ H):PS X e t':=λ Ä s σ H Q I hq=>h Ä s σ H Q I (k Q σ H hq)
theorem nu.imp (h:nu X e t)(k:∀ D σ H,t' D σ H->t D σ H):nu X e t':=λ Ä s σ H Q I hq=>h Ä s σ H Q I (k Q σ H hq)
theorem PI.imp (h:PI X tg e t)(k:∀ σ H R,t' σ H R->t σ H R):PI X tg e t':=λ Ä s σ H Q I hq=>h Ä s σ H Q I (k σ H Q hq)
theorem PG.imp (h:PG X e t)(k:∀ v σ H Q,t' v σ H Q->t v σ H Q):PG X e t':=λ Ä s σ H v u Q I r hq=>h Ä s σ H v u Q I r (k v σ H Q hq)
theorem DS.imp (h:DS X e t)(k:∀ v σ H Q,t' v σ H Q->t v σ H Q):DS X e t':=λ Ä s σ H v u Q I r hq=>h Ä s σ H v u Q I r (k v σ H Q hq)
abbrev Ev:=En->S->R AV
abbrev fY:=En->S->R (Á AV)
abbrev Eb:=En->S->R Bool
structure Lf (i:Int):Prop where
 f:fA 60000000 i
structure Pn (i:Int):Prop where
 f:fA 9000 i
instance {i:Int}:ŷ (Lf i):=eX _
instance {i:Int}:ŷ (Pn i):=eX _
def rV (T:Tx):Rl AV V:=⟨λ _ ρ H v x=>VR T ρ H v x,λ _ h=>h⟩
def rA (T:Tx):Rl (Á AV) (Á V):=⟨λ _ ρ H v x=>Ħ T ρ H v x,λ _ h=>h⟩
def rB:Rl Bool Bool:=⟨λ _ _ _ b c=>b=c,λ _ h=>h⟩
def rL (T:Tx):Rl (Á AV) V:=⟨λ Cr ρ H xs x=>∃ a vs,x=.ref a/\Cr a=none/\a∉ρ/\H a=À (.lst vs)/\Ħ T ρ H xs vs,λ k ⟨a,vs,e,h,r⟩=>⟨a,vs,e,k a h,r⟩⟩
def rQ (T:Tx):Rl (Á AV) V:=⟨λ _ ρ H xs x=>∃ a vs,x=.ref a/\(fZ T.K H a vs∨hZ T.K H a vs)/\Ħ T ρ H xs vs,λ _ h=>h⟩
theorem Out.ķ (h:Out T XE (rV T) ρ H (.ok v s) Q) (sr:SR T ρ s H)(r:VR T ρ H v x):Q x H:=h ρ H x .refl sr r
abbrev tE (T:Tx)(XE:j6)(m:Ev):TE:=tG T XE (rV T) m
abbrev tL (T:Tx)(XE:j6)(m:fY):TE:=tG T XE (rL T) m
abbrev tQ (T:Tx)(XE:j6)(m:fY):TE:=tG T XE (rQ T) m
abbrev tP (T:Tx)(XE:j6)(m:fY):TA:=tG T XE (rA T) m
abbrev lj (T:Tx)(XE:j6)(m:Eb):TT:=tG T XE rB m
section
variable {T:Tx}{XE:j6}{X:Cx}{pos:mT}
def mv (i:Nat):Ev:=λ env s=>match env[i]? with
 | some (À v)=>.ok v s
 | _=>.bad
theorem ZP (h:PE X e (Sm i)):PE X e (tE T XE (mv i)):=PE.imp h λ σ H Q zz=>ŀ zz λ ρ env s hs he ho=>by
 unfold mv at ho
 split at ho
 ·rename_i v ev
  obtain⟨x,e1,q⟩:=he.get i v ev
  exact⟨x,e1,ho.ķ hs q⟩
 ·exact ho.elim
def mc (v:AV):Ev:=λ _ s=>.ok v s
theorem QK:PE X (.Constant (.int i) j pos) (tE T XE (mc (.int i))):=PE.imp Rx λ σ H Q zz=>ŀ zz λ ρ env s hs he ho=>ho.ķ hs dY
theorem VD:PE X (.Constant (.bool i) j pos) (tE T XE (mc (.bl i))):=PE.imp Wf λ σ H Q zz=>ŀ zz λ ρ env s hs he ho=>ho.ķ hs dt
theorem QQ:PE X (.Constant .none j pos) (tE T XE (mc .Ē)):=PE.imp Rz λ σ H Q zz=>ŀ zz λ ρ env s hs he ho=>ho.ķ hs sZ
theorem QS:PE X (.Constant (.str i) j pos) (tE T XE (mc (.str i))):=PE.imp RB λ σ H Q zz=>ŀ zz λ ρ env s hs he ho=>ho.ķ hs iO
theorem MX (hg:Gl X x)(hm:X.mg x=À u)(r:RelV v u)(hv:∀ ρ H,VR T ρ H a v)(hd:(x == ("__debug__":Str))=false:=by decide):PE X (.Name x pos) (tE T XE (mc a)):=
 PE.imp (zW hg hm r hd) λ σ H Q zz=>ŀ zz λ ρ env s hs he ho=>ho.ķ hs (hv ρ H)
def yz (T:Tx)(XE:j6)(op:AV->AV->S->R AV):R2:=λ x y H Q=>∃ ρ v w s,SR T ρ s H/\VR T ρ H v x/\VR T ρ H w y/\Out T XE (rV T) ρ H (op v w s) Q
def Z7 (T:Tx)(XE:j6)(op:AV->S->R AV):V->Hp->VK->Prop:=λ x H Q=>∃ ρ v s,SR T ρ s H/\VR T ρ H v x/\Out T XE (rV T) ρ H (op v s) Q
def Û (op:AV->AV->S->R AV)(a b:Ev):Ev:=λ env s=>(a env s).bind λ v s1=>(b env s1).bind λ w s2=>op v w s2
def cj (op:AV->S->R AV)(a:Ev):Ev:=λ env s=>(a env s).bind λ v s1=>op v s1
theorem t2 (h:tE T XE (Û op a b) σ H Q):WU (yz T XE op) (tE T XE a) (tE T XE b) σ H Q:=by
 obtain⟨ρ,env,s,hs,he,ho⟩:=h
 exact step hs he ho λ v s1 Ě H1 x _ u1 İ aM Ĝ Ā=>step İ aM Ā λ w s2 bf H2 y _ u2 fm oh iN ck=>⟨bf,v,w,s2,fm,VR.up u2 Ĝ,iN,ck⟩
theorem t1 (h:tE T XE (cj op a) σ H Q):tUn (Z7 T XE op) (tE T XE a) σ H Q:=by
 obtain⟨ρ,env,s,hs,he,ho⟩:=h
 exact step hs he ho λ v s1 Ě H1 x _ u1 İ aM Ĝ Ā=>⟨Ě,v,s1,İ,Ĝ,Ā⟩
theorem vX (Ip:kI X (bO o) (yz T XE op)) (ha:PE X a (tE T XE m1)) (hb:PE X b (tE T XE m2)):PE X (.BinOp a o b pos) (tE T XE (Û op m1 m2)):=
 PE.imp (Wi Ip ha hb) λ _ _ _ h=>t2 h
theorem VL (Ip:TF X (Xk o) (Z7 T XE op)) (ha:PE X a (tE T XE m1)):PE X (.UnaryOp o a pos) (tE T XE (cj op m1)):=
 PE.imp (Wm Ip ha) λ _ _ _ h=>t1 h
theorem mC (Ip:kI X (Į o) (yz T XE op)) (ha:PE X a (tE T XE m1)) (hb:PE X b (tE T XE m2)) (hm:ae o b=false:=by rfl):PE X (.Compare a [o] [b] pos) (tE T XE (Û op m1 m2)):=
 PE.imp (Nx Ip ha hb hm) λ _ _ _ h=>t2 h
theorem VH (Ip:SQ X (yz T XE op)) (ha:PE X a (tE T XE m1)) (hb:PE X b (tE T XE m2)) (hs:DT b:=by exact λ _ _=>rfl):PE X (.Subscript a b pos) (tE T XE (Û op m1 m2)):=
 PE.imp (Wh Ip ha hb hs) λ _ _ _ h=>t2 h
theorem Out.alloc (h:Out T XE (rV T) ρ H (.ok (.ref s.length) (s++[o])) Q) (sr:SR T ρ s H)(hp:H p=none)(k:OR T (ρ++[p]) (upd H p u) o p):Q (.ref p) (upd H p u):=by
 have s1:SR T (ρ++[p]) (s++[o]) (upd H p u):=(sr.new hp).add (sr.out hp) k
 exact h _ _ _ ((sr.dQ hp).add hp) s1 (p_ (T:=T) (H:=upd H p u) (by rw[ß (by rw[sr.len];exact Ï _),sr.len,u7];rfl))
theorem Out.tup {ρ:Á Addr}{H:Hp}{s:S}{xs:Á AV}{vs:Á V}{p:Addr}{Q:VK}(h:Out T XE (rV T) ρ H (.ok (.tup xs) s) Q) (sr:SR T ρ s H)(hp:H p=none)(k:Ħ T ρ H xs vs):Q (.ref p) (upd H p (.tup vs)):=
 h _ _ _ (sr.dQ hp) (sr.new hp) (jT (hZ.of û) (Ħ.up (sr.dQ hp) k))
theorem Out.lst {ρ:Á Addr}{H:Hp}{s:S}{xs:Á AV}{vs:Á V}{p:Addr}{Q:VK}(h:Out T XE (rL T) ρ H (.ok xs s) Q) (sr:SR T ρ s H)(hp:H p=none)(k:Ħ T ρ H xs vs):Q (.ref p) (upd H p (.lst vs)):=
 h _ _ _ (sr.dQ hp) (sr.new hp) ⟨p,vs,rfl,hp,sr.out hp,û,Ħ.up (sr.dQ hp) k⟩
theorem SR.fj (sr:SR T ρ s H)(e:s[i]? = À (.lst xs)) (h:VR T ρ H (.ref i) x):∃ a vs,x=.ref a/\ρ[i]? = À a/\H a=À (.lst vs)/\Ħ T ρ H xs vs:=by
 obtain⟨a,e1,vs,h1,h2⟩:=sr.obj i _ e
 obtain⟨b,e2,rfl⟩:=h.fS
 rw[e1]at e2
 cases e2
 exact⟨a,vs,rfl,e1,h1,h2⟩
theorem SR.zm (sr:SR T ρ s H)(e:s[i]? = À (.dK xs)) (h:VR T ρ H (.ref i) x):∃ (a:Addr) (vs:Á (Key × V)),x=.ref a/\ρ[i]? = À a/\H a=À (.dK vs)/\xs.map (·.1)=vs.map (·.1)/\Ħ T ρ H (xs.map (·.2)) (vs.map (·.2)):=by
 obtain⟨a,e1,vs,h1,h2⟩:=sr.obj i _ e
 obtain⟨b,e2,rfl⟩:=h.fS
 rw[e1]at e2
 cases e2
 exact⟨a,vs,rfl,e1,h1,h2⟩
theorem SR.wH {ρ:Á Addr}{s:S}(sr:SR T ρ s H){i:Nat}(e:ρ[i]? = À a){u u0:HO}(h0:H a=À u0)(n1:∀ xs,u0≠.tup xs)(n2:∀ o v,u0≠.oZ o v):Up ρ H ρ (upd H a u):=by
 refine⟨⟨aR,λ b xs h=>?_,λ b o v h=>?_⟩,λ b o h n=>⟨?_,n⟩,λ b h=>?_⟩
 ·rw[ã (vY h h0 λ z=>n1 xs z.symm)];exact h
 ·rw[ã (vY h h0 λ z=>n2 o v z.symm)];exact h
 ·rw[ã λ z=>n (by rw[z];exact é e)];exact h
 ·by_cases hb:b=a
  ·subst hb;rw[û]at h;cases h
  ·rw[ã hb]at h;exact h
theorem SR.set (sr:SR T ρ s H)(e:ρ[i]? = À a)(up:Up ρ H ρ (upd H a u)) (k:OR T ρ (upd H a u) o a):SR T ρ (s.set i o) (upd H a u):=by
 refine⟨sr.nd,by simp[sr.len],λ j q ej=>?_⟩
 by_cases om:i=j
 ·subst om
  have hl:i < s.length:=by have:=(Æ.mp ej).1;simpa using this
  rw[Ę hl]at ej
  cases ej
  exact⟨a,e,k⟩
 ·rw[ð om]at ej
  obtain⟨b,e1,q1⟩:=sr.obj j q ej
  refine⟨b,e1,q1.up up.toGr (ã λ z=>om ?_)⟩
  subst z
  have h1:=(Æ.mp e)
  have h2:=(Æ.mp e1)
  exact(aY sr.nd).mp (h1.2.trans h2.2.symm)
theorem Out.ō {α β:Type}{rl:Rl α β}{ρ:Á Addr}{c:Prop}{_:ŷ c}{r:R α}{Q:β->Hp->Prop}(h:Out T XE rl ρ H (if c then r else .bad) Q):c/\Out T XE rl ρ H r Q:=by
 by_cases hc:c
 ·rw[Ñ hc]at h;exact⟨hc,h⟩
 ·rw[Ö hc]at h;exact h.elim
def need {α γ:Type}(o:Ë γ)(f:γ->R α):R α:=match o with
 | some x=>f x
 | none=>.bad
@[simp] theorem ê (x:γ) (f:γ->R α):need (À x) f=f x:=rfl
theorem Out.ó (h:Out T XE rl ρ H (need o f) Q):∃ x,o=À x/\Out T XE rl ρ H (f x) Q:=by
 cases o with
 | none=>exact h.elim
 | some x=>exact⟨x,rfl,h⟩
def ï (s:S)(i:Nat):Ë (Á AV):=match s[i]? with
 | some (.lst xs)=>À xs
 | _=>none
theorem ć (h:ï s i=À xs):s[i]? = À (.lst xs):=by
 unfold ï at h
 split at h
 ·cases h;assumption
 ·cases h
theorem bB (h:s[i]? = À (.lst xs)):ï s i=À xs:=by
 unfold ï;rw[h]
def cw:AV->AV->S->R AV
 | .int i,.int j,s=>.ok (.int (i+j)) s
 | .str x,.str y,s=>if x.length+y.length<=sizeLine then .ok (.str (x++y)) s else .bad
 | .tup xs,.tup ys,s=>if ys≠[]/\xs.length+ys.length<=sizeLine then .ok (.tup (xs++ys)) s else .bad
 | .ref i,.ref j,s=>need (ï s i) λ xs=>need (ï s j) λ ys=>if xs.length+ys.length<=sizeLine then .ok (.ref s.length) (s++[.lst (xs++ys)]) else .bad
 | _,_,_=>.bad
theorem Ħ.ne (h:Ħ T ρ H l xs)(k:l≠[]):xs≠[]:=by
 intro z
 have:=h.length
 rw[z]at this
 exact k (Ck.mp this)
theorem OR.lst {ρ:Á Addr}{H:Hp}{a:Addr}{xs:Á AV}{vs:Á V}(h:H a=À (.lst vs)) (k:Ħ T ρ H xs vs):OR T ρ H (.lst xs) a:=⟨vs,h,k⟩
theorem ZX (hK:X.K=T.K):kI X (bO .Add) (yz T XE cw):=by
 rintro Ä s σ H x y v u Q I rx ry ⟨ρ,a,b,st,sr,va,vb,ho⟩
 cases a<;>cases b<;>try exact ho.elim
 ·exact Ri Ä s σ H x y v u Q I rx ry ⟨_,_,va.int_inv,vb.int_inv,ho.ķ sr dY⟩
 ·obtain⟨hl,ho⟩:=ho.ō
  exact Dh Ä s σ H x y v u Q I rx ry ⟨_,_,va.str_inv,vb.str_inv,hl,ho.ķ sr iO⟩
 ·obtain⟨hl,ho⟩:=ho.ō
  obtain⟨p,vs,rfl,h1,k1⟩:=va.bV
  obtain⟨q,ws,rfl,h2,k2⟩:=vb.bV
  refine Jx Ä s σ H (.ref p) (.ref q) v u Q I rx ry ⟨p,q,vs,ws,rfl,rfl,hK ▸ h1,hK ▸ h2,k2.ne hl.1,by rw[<-k1.length,<-k2.length];exact hl.2,λ hx=>?_,λ _ r hr=>ho.tup sr hr (k1.append k2)⟩
  have Iv:vs=[]:=hx
  subst Iv
  exact ho.ķ sr (jT h2 (k1.append k2))
 ·obtain⟨xs,e1,ho⟩:=ho.ó
  obtain⟨ys,e2,ho⟩:=ho.ó
  obtain⟨hl,ho⟩:=ho.ō
  obtain⟨p,vs,rfl,_,h1,k1⟩:=sr.fj (ć e1) va
  obtain⟨q,ws,rfl,_,h2,k2⟩:=sr.fj (ć e2) vb
  refine Rj Ä s σ H (.ref p) (.ref q) v u Q I rx ry ⟨p,q,vs,ws,rfl,rfl,h1,h2,by rw[<-k1.length,<-k2.length];exact hl,λ r hr=>ho.alloc sr hr ?_⟩
  exact OR.lst û (Ħ.gr ((sr.dQ hr).add hr).toGr (k1.append k2))
def V9:AV->AV->S->R AV
 | .int i,.int j,s=>.ok (.int (i - j)) s
 | _,_,_=>.bad
def nY:AV->AV->S->R AV
 | .int i,.int j,s=>if Lf i/\Lf j then .ok (.int (i * j)) s else .bad
 | _,_,_=>.bad
theorem ZY:kI X (bO .Mult) (yz T XE nY):=by
 rintro Ä s σ H x y v u Q I rx ry ⟨ρ,a,b,st,sr,va,vb,ho⟩
 cases a<;>cases b<;>try exact ho.elim
 obtain⟨hl,ho⟩:=ho.ō
 exact Nu Ä s σ H x y v u Q I rx ry ⟨_,_,va.int_inv,vb.int_inv,⟨hl.1.f,hl.2.f⟩,ho.ķ sr dY⟩
def sS:AV->AV->S->R AV
 | .int i,.int j,s=>if j≠0/\Pn j then .ok (.int (i.fdiv j)) s else .bad
 | _,_,_=>.bad
theorem V1:kI X (bO .FloorDiv) (yz T XE sS):=by
 rintro Ä s σ H x y v u Q I rx ry ⟨ρ,a,b,st,sr,va,vb,ho⟩
 cases a<;>cases b<;>try exact ho.elim
 obtain⟨hl,ho⟩:=ho.ō
 exact Jy Ä s σ H x y v u Q I rx ry ⟨_,_,va.int_inv,vb.int_inv,⟨hl.1,hl.2.f⟩,ho.ķ sr dY⟩
def kC:AV->AV->S->R AV
 | .int i,.int j,s=>if j≠0 then .ok (.int (i.fmod j)) s else .bad
 | _,_,_=>.bad
theorem oMod:kI X (bO .Mod) (yz T XE kC):=by
 rintro Ä s σ H x y v u Q I rx ry ⟨ρ,a,b,st,sr,va,vb,ho⟩
 cases a<;>cases b<;>try exact ho.elim
 obtain⟨hl,ho⟩:=ho.ō
 exact Nt Ä s σ H x y v u Q I rx ry ⟨_,_,va.int_inv,vb.int_inv,hl,ho.ķ sr dY⟩
instance {i j:Int}:ŷ (LO i j):=inferInstanceAs (ŷ (0<=j/\j<=1000000/\i.natAbs < 2 ^ 64))
def EN:AV->AV->S->R AV
 | .int i,.int j,s=>if LO i j then .ok (.int (i ^ j.toNat)) s else .bad
 | _,_,_=>.bad
theorem Z1:kI X (bO .Pow) (yz T XE EN):=by
 rintro Ä s σ H x y v u Q I rx ry ⟨ρ,a,b,st,sr,va,vb,ho⟩
 cases a<;>cases b<;>try exact ho.elim
 obtain⟨hl,ho⟩:=ho.ō
 exact Rq Ä s σ H x y v u Q I rx ry ⟨_,_,va.int_inv,vb.int_inv,hl,ho.ķ sr dY⟩
def EM:AV->S->R AV
 | .int i,s=>.ok (.int (-i)) s
 | _,_=>.bad
theorem Z0:TF X (Xk .USub) (Z7 T XE EM):=by
 rintro Ä s σ H x v Q I rx ⟨ρ,a,st,sr,va,ho⟩
 cases a<;>try exact ho.elim
 exact Sv Ä s σ H x v Q I rx ⟨_,va.int_inv,ho.ķ sr dY⟩
def Jv:AV->AV->S->R AV
 | .int i,.int j,s=>.ok (.bl (decide (i < j))) s
 | .str i,.str j,s=>.ok (.bl (decide (i.cps.toList < j.cps.toList))) s
 | _,_,_=>.bad
theorem oLt:kI X (Į .Lt) (yz T XE Jv):=by
 rintro Ä s σ H x y v u Q I rx ry ⟨ρ,a,b,st,sr,va,vb,ho⟩
 cases a<;>cases b<;>try exact ho.elim
 ·exact Wc Ä s σ H x y v u Q I rx ry ⟨_,_,va.int_inv,vb.int_inv,ho.ķ sr dt⟩
 ·exact Gn Ä s σ H x y v u Q I rx ry ⟨_,_,va.str_inv,vb.str_inv,ho.ķ sr dt⟩
def Z3:AV->AV->S->R AV
 | .int i,.int j,s=>.ok (.bl (decide (i<=j))) s
 | _,_,_=>.bad
def Dc:AV->AV->S->R AV
 | .int i,.int j,s=>.ok (.bl (decide (j < i))) s
 | _,_,_=>.bad
theorem oGt:kI X (Į .Gt) (yz T XE Dc):=by
 rintro Ä s σ H x y v u Q I rx ry ⟨ρ,a,b,st,sr,va,vb,ho⟩
 cases a<;>cases b<;>try exact ho.elim
 exact Wb Ä s σ H x y v u Q I rx ry ⟨_,_,va.int_inv,vb.int_inv,ho.ķ sr dt⟩
def Gj:AV->AV->S->R AV
 | .int i,.int j,s=>.ok (.bl (decide (j<=i))) s
 | _,_,_=>.bad
theorem oGe:kI X (Į .GtE) (yz T XE Gj):=by
 rintro Ä s σ H x y v u Q I rx ry ⟨ρ,a,b,st,sr,va,vb,ho⟩
 cases a<;>cases b<;>try exact ho.elim
 exact Wa Ä s σ H x y v u Q I rx ry ⟨_,_,va.int_inv,vb.int_inv,ho.ķ sr dt⟩
def toD:Nat->S->AV->Ë Dt
 | _,_,.Ē=>À .Ē
 | _,_,.bl b=>À (.bl b)
 | _,_,.int b=>À (.int b)
 | _,_,.str b=>À (.str b)
 | n+1,s,.tup xs=>(xs.mapM (toD n s)).map .tup
 | n+1,s,.sq xs=>(xs.mapM (toD n s)).map .lst
 | n+1,s,.ref i=>(ï s i).bind λ xs=>(xs.mapM (toD n s)).map .lst
 | _,_,_=>none
theorem C0 (h:(a :: l).mapM f=À r):∃ b q,f a=À b/\l.mapM f=À q/\r=b :: q:=by
 rw[Al]at h
 cases e1:f a with
 | none=>rw[e1]at h;cases h
 | some b=>
  cases e2:l.mapM f with
  | none=>rw[e1,e2]at h;cases h
  | some q=>rw[e1,e2]at h;cases h;exact⟨b,q,rfl,rfl,rfl⟩
theorem uU (hf:∀ v d x,f v=À d->VR T ρ H v x->Rep T.K (λ _=>False) H d x):∀ {xs:Á AV}{l:Á Dt}{vs:Á V},xs.mapM f=À l->Ħ T ρ H xs vs->cY T.K (λ _=>False) H l vs
 | [],l,vs,h,k=>by
  rw[rZ]at h
  cases h
  unfold cY
  exact k.nil_inv
 | a :: r,l,vs,h,k=>by
  obtain⟨b,q,h1,h2,rfl⟩:=C0 h
  obtain⟨x,ys,rfl,k1,k2⟩:=k.cons_inv
  unfold cY
  exact⟨x,ys,rfl,hf a b x h1 k1,uU hf h2 k2⟩
theorem pX (sr:SR T ρ s H):∀ (n:Nat) (v:AV) (d:Dt) (x:V),toD n s v=À d->VR T ρ H v x->Rep T.K (λ _=>False) H d x
 | n,.Ē,d,x,h,k=>by
  have h:À Dt.Ē=À d:=by cases n<;>exact h
  cases h;unfold Rep;exact k.ja
 | n,.bl b,d,x,h,k=>by
  have h:À (Dt.bl b)=À d:=by cases n<;>exact h
  cases h;unfold Rep;exact k.jv
 | n,.int b,d,x,h,k=>by
  have h:À (Dt.int b)=À d:=by cases n<;>exact h
  cases h;unfold Rep;exact k.int_inv
 | n,.str b,d,x,h,k=>by
  have h:À (Dt.str b)=À d:=by cases n<;>exact h
  cases h;unfold Rep;exact k.str_inv
 | 0,.tup xs,d,x,h,k=>by cases h
 | 0,.sq xs,d,x,h,k=>by cases h
 | 0,.ref xs,d,x,h,k=>by cases h
 | n+1,.tup xs,d,x,h,k=>by
  have h:(xs.mapM (toD n s)).map Dt.tup=À d:=h
  obtain⟨a,vs,rfl,h1,k1⟩:=k.bV
  cases e:xs.mapM (toD n s) with
  | none=>rw[e]at h;cases h
  | some l=>
   rw[e]at h;cases h
   unfold Rep
   exact⟨a,vs,rfl,λ z=>z,h1,uU (λ v d x=>pX sr n v d x) e k1⟩
 | n+1,.sq xs,d,x,h,k=>by
  have h:(xs.mapM (toD n s)).map Dt.lst=À d:=h
  obtain⟨a,vs,rfl,h1,k1⟩:=k.iL
  cases e:xs.mapM (toD n s) with
  | none=>rw[e]at h;cases h
  | some l=>
   rw[e]at h;cases h
   unfold Rep
   exact⟨a,vs,rfl,λ z=>z,h1.GF,uU (λ v d x=>pX sr n v d x) e k1⟩
 | n+1,.ref i,d,x,h,k=>by
  have h:(ï s i).bind (λ xs=>(xs.mapM (toD n s)).map Dt.lst)=À d:=h
  cases e0:ï s i with
  | none=>rw[e0]at h;cases h
  | some xs=>
   rw[e0]at h
   have h:(xs.mapM (toD n s)).map Dt.lst=À d:=h
   obtain⟨a,vs,rfl,_,h1,k1⟩:=sr.fj (ć e0) k
   cases e:xs.mapM (toD n s) with
   | none=>rw[e]at h;cases h
   | some l=>
    rw[e]at h;cases h
    unfold Rep
    exact⟨a,vs,rfl,λ z=>z,fZ.of h1,uU (λ v d x=>pX sr n v d x) e k1⟩
def CI (s:S):AV->AV->Ë Bool
 | .Ē,.Ē=>À true
 | .Ē,.int _=>À false|.int _,.Ē=>À false|.Ē,.bl _=>À false|.bl _,.Ē=>À false|.Ē,.str _=>À false|.str _,.Ē=>À false
 | .int i,.int j=>À (decide (i=j))
 | .bl i,.bl j=>À (decide (i=j))
 | .str i,.str j=>À (decide (i=j))
 | .int _,.str _=>À false|.str _,.int _=>À false|.bl _,.str _=>À false|.str _,.bl _=>À false
 | v,w=>match toD 20 s v,toD 20 s w with
  | some (.tup l),À (.tup q)=>if a_ l<=20 then À (eU l q) else none
  | some (.lst l),À (.lst q)=>if a_ l<=20 then À (eU l q) else none
  | _,_=>none
def cM (v w:AV)(s:S):R AV:=need (CI s v w) λ b=>.ok (.bl b) s
def oV (v w:AV)(s:S):R AV:=need (CI s v w) λ b=>.ok (.bl (!b)) s
def G' (s:S)(v w:AV)(b:Bool):Prop:=∃ (c:Bool) (l q:Á Dt),toD 20 s v=À (if c then .tup l else .lst l)/\toD 20 s w=À (if c then .tup q else .lst q)/\a_ l<=20/\b=eU l q
theorem FJ (h:(match toD 20 s v,toD 20 s w with
  | some (.tup l),À (.tup q)=>if a_ l<=20 then À (eU l q) else none
  | some (.lst l),À (.lst q)=>if a_ l<=20 then À (eU l q) else none
  | _,_=>none)=À b):G' s v w b:=by
 split at h
 ·rename_i l q e1 e2
  split at h
  ·rename_i hd
   cases h
   exact⟨true,l,q,e1,e2,hd,rfl⟩
  ·cases h
 ·rename_i l q e1 e2
  split at h
  ·rename_i hd
   cases h
   exact⟨false,l,q,e1,e2,hd,rfl⟩
  ·cases h
 ·cases h
theorem Be (h:CI s v w=À b)(va:VR T ρ H v x)(vb:VR T ρ H w y):(R8 x y=true/\decide (x=y)=b)∨G' s v w b:=by
  cases v<;>cases w<;>first
    | exact .inr (FJ h)
    | (refine .inl ?_
       have h:À _=À b:=h
       cases h
       first
         | cases va.ja|cases va.int_inv|cases va.jv|cases va.str_inv
       first
         | cases vb.ja|cases vb.int_inv|cases vb.jv|cases vb.str_inv
       refine⟨rfl,?_⟩
       first
         | rfl
         | simp)
theorem oEq (hK:X.K=T.K)(hu:X.A.units+30 < cLine):kI X (Į .Eq) (yz T XE cM):=by
 rintro Ä s σ H x y v u Q I rx ry ⟨ρ,a,b,st,sr,va,vb,ho⟩
 obtain⟨c,e,ho⟩:=ho.ó
 rcases Be e va vb with⟨h1,h2⟩|⟨t,l,q,e1,e2,hd,rfl⟩
 ·exact V_ Ä s σ H x y v u Q I rx ry ⟨h1,by rw[h2];exact ho.ķ sr dt⟩
 ·refine Rk hu Ä s σ H x y v u Q I rx ry ⟨λ _=>False,λ _=>False,l,q,t,⟨?_,?_⟩,hd,ho.ķ sr dt⟩
  ·exact hK ▸ pX sr 20 _ _ _ e1 va
  ·exact hK ▸ pX sr 20 _ _ _ e2 vb
theorem ZZ (hK:X.K=T.K)(hu:X.A.units+30 < cLine):kI X (Į .NotEq) (yz T XE oV):=by
 rintro Ä s σ H x y v u Q I rx ry ⟨ρ,a,b,st,sr,va,vb,ho⟩
 obtain⟨c,e,ho⟩:=ho.ó
 rcases Be e va vb with⟨h1,h2⟩|⟨t,l,q,e1,e2,hd,rfl⟩
 ·exact Wd Ä s σ H x y v u Q I rx ry ⟨h1,by rw[h2];exact ho.ķ sr dt⟩
 ·refine Rn hu Ä s σ H x y v u Q I rx ry ⟨λ _=>False,λ _=>False,l,q,t,⟨?_,?_⟩,hd,ho.ķ sr dt⟩
  ·exact hK ▸ pX sr 20 _ _ _ e1 va
  ·exact hK ▸ pX sr 20 _ _ _ e2 vb
def mO:AV->Bool
 | .Ē=>true
 | _=>false
def uc:AV->AV->S->R AV
 | v,.Ē,s=>.ok (.bl (mO v)) s
 | _,_,_=>.bad
def Nq:AV->AV->S->R AV
 | v,.Ē,s=>.ok (.bl (!mO v)) s
 | .bl a,.bl b,s=>.ok (.bl (a != b)) s
 | _,_,_=>.bad
theorem Iz (h:VR T ρ H v x):decide (x=.Ē)=mO v:=by
 cases v
 ·cases h.ja;rfl
 ·cases h.jv;rfl
 ·cases h.int_inv;rfl
 ·cases h.str_inv;rfl
 ·obtain⟨_,_,rfl,_⟩:=h.bV;rfl
 ·obtain⟨_,_,rfl⟩:=h.fS;rfl
 ·obtain⟨_,_,rfl,_⟩:=h.iL;rfl
theorem V2:kI X (Į .Is) (yz T XE uc):=by
 rintro Ä s σ H x y v u Q I rx ry ⟨ρ,a,b,st,sr,va,vb,ho⟩
 cases b<;>try (cases a<;>exact ho.elim)
 exact Rm Ä s σ H x y v u Q I rx ry ⟨vb.ja,by rw[Iz va];cases a<;>exact ho.ķ sr dt⟩
def Ü:fY:=λ _ s=>.ok [] s
def Ê (a:Ev)(r:fY):fY:=λ env s=>(a env s).bind λ v s1=>(r env s1).bind λ vs s2=>.ok (v :: vs) s2
theorem ET:PA X [] (tP T XE Ü):=PA.imp eW λ σ H Q zz=>ŀ zz λ ρ env s hs he ho=>ho.here (x:=[]) hs (Ħ.nil (T:=T) (ρ:=ρ) (H:=H))
theorem BG (ha:PE X e (tE T XE m)) (hr:PA X es (tP T XE r)) (hs:Ì (e :: es) X.env=(false,Ć e X.env) :: Ì es X.env:=by rfl):PA X (e :: es) (tP T XE (Ê m r)):=
 PA.imp (aN ha hr hs) λ σ H Q zz=>ŀ zz λ ρ env s hs he ho=>
  step hs he ho λ v s1 Ě H1 x _ u1 İ aM Ĝ Ā=>step İ aM Ā λ w s2 bf H2 y _ u2 fm oh iN ck=>ck.here fm (Ħ.cons (VR.up u2 Ĝ) iN)
def gL (r:fY):Ev:=λ env s=>(r env s).bind λ vs s1=>if vs.length<=sizeLine then .ok (.tup vs) s1 else .bad
theorem QT (h:PA X es (tP T XE r)):PE X (.Tuple es k pos) (tE T XE (gL r)):=
 PE.imp (Dk h) λ σ H Q zz=>ŀ zz λ ρ env s hs he ho=>step hs he ho λ v s1 Ě H1 x _ u1 İ aM Ĝ Ā=>by
  obtain⟨hl,Ā⟩:=Ā.ō
  have Ĝ:Ħ T Ě H1 v x:=Ĝ
  exact⟨by rw[<-Ĝ.length];exact hl,λ p hp=>Ā.tup İ hp Ĝ⟩
def cf (r:fY):fY:=λ env s=>(r env s).bind λ vs s1=>if vs.length<=sizeLine then .ok vs s1 else .bad
theorem QZ (h:PA X es (tP T XE r)):PE X (.List es pos) (tL T XE (cf r)):=
 PE.imp (Ry h) λ σ H Q zz=>ŀ zz λ ρ env s hs he ho=>step hs he ho λ v s1 Ě H1 x _ u1 İ aM Ĝ Ā=>by
  obtain⟨hl,Ā⟩:=Ā.ō
  have Ĝ:Ħ T Ě H1 v x:=Ĝ
  exact⟨by rw[<-Ĝ.length];exact hl,λ p hp=>Ā.lst İ hp Ĝ⟩
def Ĺ (r:fY):Ev:=λ env s=>(r env s).bind λ vs s1=>.ok (.ref s1.length) (s1++[.lst vs])
theorem QP (h:PE X e (tL T XE r)):PE X e (tE T XE (Ĺ r)):=
 PE.imp h λ σ H Q zz=>ŀ zz λ ρ env s hs he ho=>by
  refine⟨ρ,env,s,hs,he,?_⟩
  unfold Ĺ at ho
  cases e:r env s with
  | bad=>rw[e]at ho;exact ho
  | ex c s1=>rw[e]at ho;exact ho
  | ok vs s1=>
   rw[e]at ho
   rintro Ě H1 x u sr ⟨a,ws,e1,h0,h1,h2,k⟩
   subst e1
   have g:Gr Ě H1 (Ě++[a]) H1:=⟨fW _ _,λ _ _ z=>z,λ _ _ _ z=>z⟩
   refine ho (Ě++[a]) H1 (.ref a) (u.add h0) (sr.add h1 (OR.lst h2 (k.gr g))) (p_ (T:=T) (H:=H1) ?_)
   rw[ß (by rw[sr.len];exact Ï _),sr.len,u7];rfl
def items (v:AV)(s:S):Ë (Á AV):=match v with
 | .tup xs=>À xs
 | .sq xs=>À xs
 | .ref i=>ï s i
 | _=>none
theorem ou (h:items v s=À xs)(sr:SR T ρ s H)(va:VR T ρ H v x):∃ a vs,x=.ref a/\(fZ T.K H a vs∨hZ T.K H a vs)/\Ħ T ρ H xs vs:=by
 cases v<;>try cases h
 ·obtain⟨a,vs,rfl,h1,k⟩:=va.bV
  exact⟨a,vs,rfl,.inr h1,k⟩
 ·obtain⟨a,vs,rfl,_,h1,k⟩:=sr.fj (ć h) va
  exact⟨a,vs,rfl,.inl (fZ.of h1),k⟩
 ·obtain⟨a,vs,rfl,h1,k⟩:=va.iL
  exact⟨a,vs,rfl,.inl h1.GF,k⟩
def Bt (m:Ev):fY:=λ env s=>(m env s).bind λ v s1=>need (items v s1) λ xs=>.ok xs s1
theorem Q0 (h:PE X e (tE T XE m)):PE X e (tQ T XE (Bt m)):=
 PE.imp h λ σ H Q zz=>ŀ zz λ ρ env s hs he ho=>step hs he ho λ v s1 Ě H1 x _ u1 İ aM Ĝ Ā=>by
  obtain⟨xs,e,Ā⟩:=Ā.ó
  exact Ā Ě H1 x .refl İ (ou e İ Ĝ)
mutual
def AV.low (b:Nat):AV->Bool
 | .ref i=>decide (i < b)
 | .tup xs=>Ĩ b xs
 | .sq xs=>Ĩ b xs
 | _=>true
def Ĩ (b:Nat):Á AV->Bool
 | []=>true
 | v :: r=>v.low b && Ĩ b r
end
mutual
theorem VR.cut (e:Ň.take b=ρ):∀ {v:AV}{x:V},v.low b=true->VR T Ň H v x->VR T ρ H v x
 | .Ē,_,_,h=>by unfold VR at *;exact h
 | .bl _,_,_,h=>by unfold VR at *;exact h
 | .int _,_,_,h=>by unfold VR at *;exact h
 | .str _,_,_,h=>by unfold VR at *;exact h
 | .ref i,_,k,h=>by
  obtain⟨a,e1,rfl⟩:=h.fS
  unfold AV.low at k
  exact p_ (by rw[<-e,ay (î k)];exact e1)
 | .tup xs,_,k,h=>by
  obtain⟨a,vs,rfl,h1,h2⟩:=h.bV
  unfold AV.low at k
  exact jT h1 (Ħ.cut e k h2)
 | .sq xs,_,k,h=>by
  obtain⟨a,vs,rfl,h1,h2⟩:=h.iL
  unfold AV.low at k
  unfold VR
  exact⟨a,vs,rfl,h1,Ħ.cut e k h2⟩
theorem Ħ.cut (e:Ň.take b=ρ):∀ {v:Á AV}{x:Á V},Ĩ b v=true->Ħ T Ň H v x->Ħ T ρ H v x
 | [],_,_,h=>by cases h.nil_inv;exact .nil
 | _ :: _,_,k,h=>by
  obtain⟨x,ys,rfl,h1,h2⟩:=h.cons_inv
  unfold Ĩ at k
  rw[Č]at k
  exact .cons (VR.cut e k.1 h1) (Ħ.cut e k.2 h2)
end
mutual
theorem VR.low:∀ {v:AV}{x:V},VR T ρ H v x->v.low ρ.length=true
 | .Ē,_,_=>by unfold AV.low;rfl
 | .bl _,_,_=>by unfold AV.low;rfl
 | .int _,_,_=>by unfold AV.low;rfl
 | .str _,_,_=>by unfold AV.low;rfl
 | .ref i,_,h=>by
  obtain⟨a,e1,rfl⟩:=h.fS
  unfold AV.low
  exact Ī (Æ.mp e1).1
 | .tup xs,_,h=>by
  obtain⟨a,vs,rfl,h1,h2⟩:=h.bV
  unfold AV.low
  exact Ħ.low h2
 | .sq xs,_,h=>by
  obtain⟨a,vs,rfl,h1,h2⟩:=h.iL
  unfold AV.low
  exact Ħ.low h2
theorem Ħ.low:∀ {v:Á AV}{x:Á V},Ħ T ρ H v x->Ĩ ρ.length v=true
 | [],_,_=>by unfold Ĩ;rfl
 | _ :: _,_,h=>by
  obtain⟨x,ys,rfl,h1,h2⟩:=h.cons_inv
  unfold Ĩ
  rw[VR.low h1,Ħ.low h2];rfl
end
def AO.low (b:Nat):AO->Bool
 | .lst xs=>Ĩ b xs
 | .dK kvs=>Ĩ b (kvs.map (·.2))
 | .dT kvs=>Ĩ b (kvs.map (·.2))
 | .ins _ fs=>Ĩ b (fs.map (·.2))
 | .exc _=>true
 | .tab _ _=>true
theorem OR.low (h:OR T ρ H o a):o.low ρ.length=true:=by
 cases o with
 | lst xs=>obtain⟨_,_,k⟩:=h;exact k.low
 | dK xs=>obtain⟨_,_,_,k⟩:=h;exact k.low
 | dT xs=>obtain⟨_,_,_,k⟩:=h;exact k.low
 | ins C xs=>obtain⟨_,_,_,_,k⟩:=h;exact k.low
 | exc C=>rfl
 | tab i q=>rfl
theorem OR.cut (e:Ň.take b=ρ)(k:o.low b=true)(h:OR T Ň H o a):OR T ρ H o a:=by
 cases o with
 | lst xs=>obtain⟨vs,h1,h2⟩:=h;exact⟨vs,h1,Ħ.cut e k h2⟩
 | dK xs=>obtain⟨vs,h1,q,h2⟩:=h;exact⟨vs,h1,q,Ħ.cut e k h2⟩
 | dT xs=>obtain⟨vs,h1,q,h2⟩:=h;exact⟨vs,h1,q,Ħ.cut e k h2⟩
 | ins C xs=>obtain⟨dx,vs,h1,q,h2⟩:=h;exact⟨dx,vs,h1,q,Ħ.cut e k h2⟩
 | exc C=>exact h
 | tab i q=>exact h
theorem SR.closed (sr:SR T ρ s H):s.all (AO.low s.length)=true:=by
 rw[ă]
 intro o ho
 obtain⟨i,hi,e⟩:=ĩ ho
 obtain⟨a,_,q⟩:=sr.obj i o (by rw[Å hi,e])
 rw[<-sr.len]
 exact q.low
theorem SR.cut (sr:SR T Ň s' H)(hl:ρ <+: Ň)(hb:ρ.length=b)(k:(s'.take b).all (AO.low b)=true):SR T ρ (s'.take b) H:=by
 have e:Ň.take b=ρ:=by obtain⟨t,rfl⟩:=hl;rw[<-hb,oH];rfl
 have hle:b<=s'.length:=by rw[<-hb,<-sr.len];exact hl.length_le
 refine⟨?_,by rw[aZ,Nat.min_eq_left hle];exact hb,λ i o ei=>?_⟩
 ·rw[<-e];exact sr.nd.sublist (uI _ _)
 ·have hi:i < b:=by have:=(Æ.mp ei).1;rw[aZ]at this;lia
  have ei':=ei
  rw[ay hi]at ei
  obtain⟨a,e1,q⟩:=sr.obj i o ei
  refine⟨a,by rw[<-e,ay hi];exact e1,q.cut e ?_⟩
  exact ă.mp k o (é ei')
theorem Up.cut (u:Up ρ H Ň H'):Up ρ H ρ H':=⟨⟨aR,u.mJ,u.kS⟩,λ b o e n=>⟨(u.fr b o e n).1,n⟩,u.live⟩
def Ie (m:Ev):Ev:=λ env s=>(m env s).bind λ v s1=>open Classical in if s1.take s.length=s/\v.low s.length=true then .ok v s else .bad
theorem VF (h:PE X e (tE T XE m)):PE X e (tE T XE (Ie m)):=
 PE.imp h λ σ H Q zz=>ŀ zz λ ρ env s hs he ho=>by
  refine⟨ρ,env,s,hs,he,?_⟩
  unfold Ie at ho
  cases e:m env s with
  | bad=>rw[e]at ho;exact ho
  | ex c s1=>rw[e]at ho;exact ho
  | ok v s1=>
   rw[e]at ho
   obtain⟨⟨e1,e2⟩,ho⟩:=ho.ō
   intro Ě H1 x u sr vr
   have hc:=hs.closed
   have et:Ě.take s.length=ρ:=by obtain⟨t,rfl⟩:=u.pre;rw[<-hs.len,oH];rfl
   refine ho ρ H1 x u.cut ?_ (VR.cut et e2 vr)
   have:=sr.cut u.pre hs.len (by rw[e1];exact hc)
   rw[e1]at this
   exact this
def Mu (m:Ev):Ev:=λ env s=>(m env s).bind λ v s1=>if (s1.take s.length).all (AO.low s.length)=true/\v.low s.length=true then .ok v (s1.take s.length) else .bad
theorem QJ (h:PE X e (tE T XE m)):PE X e (tE T XE (Mu m)):=
 PE.imp h λ σ H Q zz=>ŀ zz λ ρ env s hs he ho=>by
  refine⟨ρ,env,s,hs,he,?_⟩
  unfold Mu at ho
  cases e:m env s with
  | bad=>rw[e]at ho;exact ho
  | ex c s1=>rw[e]at ho;exact ho
  | ok v s1=>
   rw[e]at ho
   obtain⟨⟨e1,e2⟩,ho⟩:=ho.ō
   intro Ě H1 x u sr vr
   have et:Ě.take s.length=ρ:=by obtain⟨t,rfl⟩:=u.pre;rw[<-hs.len,oH];rfl
   exact ho ρ H1 x u.cut (sr.cut u.pre hs.len e1) (VR.cut et e2 vr)
def nN (m:Ev):fY:=λ env s=>(m env s).bind λ v s1=>match v with
 | .ref k=>need (ï s1 k) λ xs=>if s.length<=k/\(s1.take s.length).all (AO.low s.length)=true/\Ĩ s.length xs=true then .ok xs (s1.take s.length) else .bad
 | _=>.bad
theorem M' (h:PE X e (tE T XE m)):PE X e (tL T XE (nN m)):=
 PE.imp h λ σ H Q zz=>ŀ zz λ ρ env s hs he ho=>by
  refine⟨ρ,env,s,hs,he,?_⟩
  unfold nN at ho
  cases e:m env s with
  | bad=>rw[e]at ho;exact ho
  | ex c s1=>rw[e]at ho;exact ho
  | ok v s1=>
   rw[e]at ho
   cases v with
   | ref k=>
    obtain⟨xs,e0,ho⟩:=ho.ó
    obtain⟨⟨hk,e1,e2⟩,ho⟩:=ho.ō
    intro Ě H1 x u sr vr
    obtain⟨a,vs,rfl,ea,h1,k1⟩:=sr.fj (ć e0) vr
    have et:Ě.take s.length=ρ:=by obtain⟨t,rfl⟩:=u.pre;rw[<-hs.len,oH];rfl
    have na:a∉ρ:=λ z=>by
     obtain⟨j,hj,ej⟩:=ĩ z
     have e3:Ě[j]? = À a:=EW u.pre (by rw[Å hj,ej])
     have h3:=Æ.mp ea
     have h4:=Æ.mp e3
     have:k=j:=(aY sr.nd).mp (h3.2.trans h4.2.symm)
     rw[hs.len]at hj
     lia
    refine ho ρ H1 (.ref a) u.cut (sr.cut u.pre hs.len e1) ⟨a,vs,rfl,?_,na,h1,Ħ.cut et e2 k1⟩
    cases eH:H a with
    | none=>rfl
    | some o=>exact absurd (é ea) (u.fr a o eH na).2
   | Ē=>exact ho.elim
   | bl b=>exact ho.elim
   | int b=>exact ho.elim
   | str b=>exact ho.elim
   | tup b=>exact ho.elim
   | sq b=>exact ho.elim
theorem yc (h:Out T XE rB ρ H (.ok b s) Q) (sr:SR T ρ s H):Q b H:=h ρ H b .refl sr rfl
def truth (v:AV)(s:S):Ë Bool:=match v with
 | .Ē=>À false
 | .bl b=>À b
 | .int i=>À (i != 0)
 | .str x=>if x.length<=sizeLine then À ((x.length:Int) != 0) else none
 | .tup xs=>À (!xs.isEmpty)
 | .sq xs=>À (!xs.isEmpty)
 | .ref i=>match s[i]? with
  | some (.lst xs)=>À (!xs.isEmpty)
  | some (.dK xs)=>À (!xs.isEmpty)
  | _=>none
theorem Ħ.emp (h:Ħ T ρ H l xs):l.isEmpty=xs.isEmpty:=by
 cases l with
 | nil=>cases h.nil_inv;rfl
 | cons a r=>obtain⟨x,ys,rfl,_⟩:=h.cons_inv;rfl
theorem GJ (h:truth v s=À b)(sr:SR T ρ s H)(va:VR T ρ H v x):Pt T.K x H b:=by
 cases v with
 | Ē=>cases va.ja;cases h;rfl
 | bl c=>cases va.jv;cases h;rfl
 | int c=>cases va.int_inv;cases h;rfl
 | str c=>
  cases va.str_inv
  have h:(if c.length<=sizeLine then À ((c.length:Int) != 0) else none)=À b:=h
  split at h
  ·cases h;exact⟨by assumption,rfl⟩
  ·cases h
 | tup c=>
  obtain⟨a,vs,rfl,h1,k⟩:=va.bV
  cases h
  exact .inr (.inl ⟨vs,h1,by rw[k.emp]⟩)
 | sq c=>
  obtain⟨a,vs,rfl,h1,k⟩:=va.iL
  cases h
  exact .inl ⟨vs,h1.GF,by rw[k.emp]⟩
 | ref i=>
  have h:(match s[i]? with
   | some (.lst xs)=>À (!xs.isEmpty)
   | some (.dK xs)=>À (!xs.isEmpty)
   | _=>none)=À b:=h
  split at h
  ·rename_i xs e
   cases h
   obtain⟨a,vs,rfl,_,h1,k⟩:=sr.fj e va
   exact .inl ⟨vs,fZ.of h1,by rw[k.emp]⟩
  ·rename_i xs e
   cases h
   obtain⟨a,vs,rfl,_,h1,k1,k⟩:=sr.zm e va
   refine .inr (.inr ⟨vs,h1,?_⟩)
   have:=ĵ bS k1
   rw[Õ,Õ]at this
   cases xs<;>cases vs<;>first|rfl|(simp at this)
  ·cases h
def cT (m:Ev):Eb:=λ env s=>(m env s).bind λ v s1=>need (truth v s1) λ b=>.ok b s1
def cB (m:Ev):Eb:=λ env s=>(m env s).bind λ v s1=>match v with
 | .bl b=>.ok b s1
 | _=>.bad
theorem Z5 (hK:X.K=T.K)(h:PE X e (tE T XE m)) (he:∀ whole,Ft e X.env whole=(do let v <-whole;kh e.pos;cR [v] (truthy v)):=by intro _;rfl):PT X e (lj T XE (cT m)):=
 PT.imp (J6 h he) λ σ H Q zz=>ŀ zz λ ρ env s hs he ho=>step hs he ho λ v s1 Ě H1 x _ u1 İ aM Ĝ Ā=>by
  obtain⟨b,e,Ā⟩:=Ā.ó
  exact⟨b,by rw[hK];exact GJ e İ Ĝ,yc Ā İ⟩
theorem E6 (h:lj T XE (cB m) σ H Q):tE T XE m σ H λ x H'=>∃ k,x=.bl k/\Q k H':=by
 obtain⟨ρ,env,s,hs,he,ho⟩:=h
 refine step hs he ho λ v s1 Ě H1 x _ u1 İ aM Ĝ Ā=>?_
 have Ĝ:VR T Ě H1 v x:=Ĝ
 cases v<;>try exact Ā.elim
 exact⟨_,Ĝ.jv,yc Ā İ⟩
theorem jb (Ip:kI X (Į o) (yz T XE op)) (ha:PE X a (tE T XE m1)) (hb:PE X b (tE T XE m2)) (hm:ae o b=false:=by rfl):PT X (.Compare a [o] [b] pos) (lj T XE (cB (Û op m1 m2))):=
 PT.imp (NS Ip ha hb hm) λ σ H Q h=>t2 (E6 h)
def ZO (op op':AV->AV->S->R AV)(a b c:Ev):Ev:=λ env s=>(a env s).bind λ v s1=>(b env s1).bind λ w s2=>(op v w s2).bind λ r s3=>match r with
 | .bl true=>(c env s3).bind λ z s4=>op' w z s4
 | .bl false=>.ok (.bl false) s3
 | _=>.bad
def FC (a b:Eb):Eb:=λ env s=>(a env s).bind λ c s1=>if c=true then b env s1 else .ok false s1
def FD (a b:Eb):Eb:=λ env s=>(a env s).bind λ c s1=>if c=true then .ok true s1 else b env s1
def A3 (a:Eb):Eb:=λ env s=>(a env s).bind λ c s1=>.ok (!c) s1
def VB (c:Eb)(a b:Ev):Ev:=λ env s=>(c env s).bind λ k s1=>if k=true then a env s1 else b env s1
theorem pw_and1' (h:PT X a (lj T XE m)):PW X (.BoolOp .And [a] pos) (lj T XE m):=pw_and1 h
theorem pw_or1' (h:PT X a (lj T XE m)):PW X (.BoolOp .Or [a] pos) (lj T XE m):=pw_or1 h
theorem pw_and' {rest:Á ń}{m r:Eb}(h:PT X a (lj T XE m)) (k:PW X (.BoolOp .And (b :: rest) pos) (lj T XE r)):PW X (.BoolOp .And (a :: b :: rest) pos) (lj T XE (FC m r)):=
 PW.imp (pw_and h k) λ σ H Q zz=>ŀ zz λ ρ env s hs he ho=>step hs he ho λ v s1 Ě H1 x _ u1 İ aM Ĝ Ā=>by
  cases (show v=x from Ĝ)
  cases v with
  | true=>exact⟨Ě,env,s1,İ,aM,Ā⟩
  | false=>exact yc Ā İ
theorem pw_or' {rest:Á ń}{m r:Eb}(h:PT X a (lj T XE m)) (k:PW X (.BoolOp .Or (b :: rest) pos) (lj T XE r)):PW X (.BoolOp .Or (a :: b :: rest) pos) (lj T XE (FD m r)):=
 PW.imp (pw_or h k) λ σ H Q zz=>ŀ zz λ ρ env s hs he ho=>step hs he ho λ v s1 Ě H1 x _ u1 İ aM Ĝ Ā=>by
  cases (show v=x from Ĝ)
  cases v with
  | true=>exact yc Ā İ
  | false=>exact⟨Ě,env,s1,İ,aM,Ā⟩
theorem NV (h:PT X a (lj T XE m)):PT X (.UnaryOp .Not a pos) (lj T XE (A3 m)):=
 PT.imp (RP h) λ σ H Q zz=>ŀ zz λ ρ env s hs he ho=>step hs he ho λ v s1 Ě H1 x _ u1 İ aM Ĝ Ā=>by
  cases (show v=x from Ĝ)
  exact yc Ā İ
theorem VG (hc:PT X c (lj T XE QB)) (ha:PE X a (tE T XE ma)) (hb:PE X b (tE T XE mb)):PE X (.IfExp c a b pos) (tE T XE (VB QB ma mb)):=
 PE.imp (JH hc ha hb) λ σ H Q zz=>ŀ zz λ ρ env s hs he ho=>step hs he ho λ v s1 Ě H1 x _ u1 İ aM Ĝ Ā=>by
  cases (show v=x from Ĝ)
  cases v with
  | true=>exact⟨Ě,env,s1,İ,aM,Ā⟩
  | false=>exact⟨Ě,env,s1,İ,aM,Ā⟩
def Ga (a b:Ev):Ev:=λ env s=>(a env s).bind λ v s1=>match v with
 | .bl true=>b env s1
 | .bl false=>.ok (.bl false) s1
 | _=>.bad
def X3 (a b:Ev):Ev:=λ env s=>(a env s).bind λ v s1=>match v with
 | .bl true=>.ok (.bl true) s1
 | .bl false=>b env s1
 | _=>.bad
def Jw:AV->S->R AV
 | .bl b,s=>.ok (.bl (!b)) s
 | _,_=>.bad
theorem QE {rest:Á ń}{m r:Ev}(h:PE X a (tE T XE m)) (k:PE X (.BoolOp .And (b :: rest) pos) (tE T XE r)):PE X (.BoolOp .And (a :: b :: rest) pos) (tE T XE (Ga m r)):=
 PE.imp (Rt h k) λ σ H Q zz=>ŀ zz λ ρ env s hs he ho=>step hs he ho λ v s1 Ě H1 x _ u1 İ aM Ĝ Ā=>by
  have Ĝ:VR T Ě H1 v x:=Ĝ
  cases v<;>try exact Ā.elim
  rename_i b _ _
  refine⟨b,Ĝ.jv,?_⟩
  cases b with
  | true=>exact⟨Ě,env,s1,İ,aM,Ā⟩
  | false=>exact Ā.ķ İ dt
theorem VI {rest:Á ń}{m r:Ev}(h:PE X a (tE T XE m)) (k:PE X (.BoolOp .Or (b :: rest) pos) (tE T XE r)):PE X (.BoolOp .Or (a :: b :: rest) pos) (tE T XE (X3 m r)):=
 PE.imp (Wj h k) λ σ H Q zz=>ŀ zz λ ρ env s hs he ho=>step hs he ho λ v s1 Ě H1 x _ u1 İ aM Ĝ Ā=>by
  have Ĝ:VR T Ě H1 v x:=Ĝ
  cases v<;>try exact Ā.elim
  rename_i b _ _
  refine⟨b,Ĝ.jv,?_⟩
  cases b with
  | true=>exact Ā.ķ İ dt
  | false=>exact⟨Ě,env,s1,İ,aM,Ā⟩
theorem QR (h:PE X a (tE T XE m)):PE X (.UnaryOp .Not a pos) (tE T XE (cj Jw m)):=
 PE.imp (RA h) λ σ H Q zz=>ŀ zz λ ρ env s hs he ho=>step hs he ho λ v s1 Ě H1 x _ u1 İ aM Ĝ Ā=>by
  have Ĝ:VR T Ě H1 v x:=Ĝ
  cases v<;>try exact Ā.elim
  exact⟨_,Ĝ.jv,Ā.ķ İ dt⟩
theorem Ħ.l9 (h:Ħ T ρ H l xs)(e:l9 l i=À v):∃ x,L2.l9 xs i=À x/\VR T ρ H v x:=by
 unfold L2.l9 at *
 rw[<-h.length]
 cases e1:Ez l.length i with
 | none=>rw[e1]at e;cases e
 | some j=>rw[e1]at e;exact h.get e
def Ŀ:AV->AV->S->R AV
 | .tup xs,.int i,s=>need (l9 xs i) λ v=>.ok v s
 | .sq xs,.int i,s=>need (l9 xs i) λ v=>.ok v s
 | .ref k,.int i,s=>need (ï s k) λ xs=>need (l9 xs i) λ v=>.ok v s
 | .str z,.int i,s=>if z.length<=sizeLine then need (l9 z.cps.toList i) λ c=>.ok (.str ⟨#[c]⟩) s else .bad
 | _,_,_=>.bad
theorem oIx (hK:X.K=T.K):SQ X (yz T XE Ŀ):=by
 rintro value slice Ä s σ H x y v u Q I rx ry ⟨ρ,a,b,st,sr,va,vb,ho⟩ hs
 cases a<;>cases b<;>try exact ho.elim
 ·obtain⟨hl,ho⟩:=ho.ō
  obtain⟨c,e,ho⟩:=ho.ó
  exact Qm value slice Ä s σ H x y v u Q I rx ry ⟨_,_,c,va.str_inv,vb.int_inv,hl,e,ho.ķ sr iO⟩ hs
 ·obtain⟨c,e,ho⟩:=ho.ó
  obtain⟨p,vs,rfl,h1,k⟩:=va.bV
  obtain⟨z,e2,k2⟩:=k.l9 e
  exact Qn value slice Ä s σ H _ y v u Q I rx ry ⟨p,vs,_,z,rfl,vb.int_inv,hK ▸ h1,e2,ho.ķ sr k2⟩ hs
 ·obtain⟨xs,e0,ho⟩:=ho.ó
  obtain⟨c,e,ho⟩:=ho.ó
  obtain⟨p,vs,rfl,_,h1,k⟩:=sr.fj (ć e0) va
  obtain⟨z,e2,k2⟩:=k.l9 e
  exact EC value slice Ä s σ H _ y v u Q I rx ry ⟨p,vs,_,z,rfl,vb.int_inv,fZ.of h1,e2,ho.ķ sr k2⟩ hs
 ·obtain⟨c,e,ho⟩:=ho.ó
  obtain⟨p,vs,rfl,h1,k⟩:=va.iL
  obtain⟨z,e2,k2⟩:=k.l9 e
  exact EC value slice Ä s σ H _ y v u Q I rx ry ⟨p,vs,_,z,rfl,vb.int_inv,hK ▸ h1.GF,e2,ho.ķ sr k2⟩ hs
abbrev Eo:=En->S->R (Ë Int)
def rO:Rl (Ë Int) (Ë Int):=⟨λ _ _ _ a b=>a=b,λ _ h=>h⟩
abbrev tO (T:Tx)(XE:j6)(m:Eo):TO:=tG T XE rO m
def oN:Eo:=λ _ s=>.ok none s
def oS (m:Ev):Eo:=λ env s=>(m env s).bind λ v s1=>match v with
 | .int i=>.ok (À i) s1
 | _=>.bad
theorem PO.imp (h:PO X e t)(k:∀ σ H Q,t' σ H Q->t σ H Q):PO X e t':=λ Ä s σ H Q I hq=>h Ä s σ H Q I (k σ H Q hq)
theorem JT:PO X none (tO T XE oN):=PO.imp NL λ σ H Q zz=>ŀ zz λ ρ env s hs he ho=>ho ρ H none .refl hs rfl
theorem JU (h:PE X e (tE T XE m)):PO X (À e) (tO T XE (oS m)):=
 PO.imp (NM h) λ σ H Q zz=>ŀ zz λ ρ env s hs he ho=>step hs he ho λ v s1 Ě H1 x _ u1 İ aM Ĝ Ā=>by
  have Ĝ:VR T Ě H1 v x:=Ĝ
  cases v<;>try exact Ā.elim
  exact⟨_,Ĝ.int_inv,Ā Ě H1 (À _) .refl İ rfl⟩
def j' {α:Type}(xs:Á α)(lo hi:Ë Int):Á α:=(xs.drop (HT.dw xs.length 0 lo)).take (HT.dw xs.length xs.length hi - HT.dw xs.length 0 lo)
theorem Ħ.j' (h:Ħ T ρ H l xs)(lo hi:Ë Int):Ħ T ρ H (j' l lo hi) (vt xs lo hi):=by
 unfold Mm.j' vt
 rw[h.length]
 exact(h.drop _).take _
def sT (v:AV)(lo hi:Ë Int)(s:S):R AV:=match v with
 | .tup xs=>.ok (.tup (j' xs lo hi)) s
 | .ref i=>need (ï s i) λ xs=>.ok (.ref s.length) (s++[.lst (j' xs lo hi)])
 | .sq xs=>.ok (.ref s.length) (s++[.lst (j' xs lo hi)])
 | _=>.bad
def rSM (T:Tx)(XE:j6):V->Ë Int->Ë Int->Hp->VK->Prop:=λ x lo hi H Q=>∃ ρ v s,SR T ρ s H/\VR T ρ H v x/\Out T XE (rV T) ρ H (sT v lo hi s) Q
theorem L5 (h:HT.dw xs.length 0 lo=0/\HT.dw xs.length xs.length hi=xs.length):vt xs lo hi=xs:=by
 unfold vt
 rw[h.1,h.2,Nat.sub_zero,List.drop_zero,List.take_length]
theorem oSl (hK:X.K=T.K):Tw X (rSM T XE):=by
 rintro Ä s σ H x v vl vu lo hi sl Q I rx hs pl pu ⟨ρ,a,st,sr,va,ho⟩
 cases a<;>try exact ho.elim
 ·obtain⟨p,vs,rfl,h1,k⟩:=va.bV
  refine N6 Ä s σ H _ v vl vu lo hi sl Q I rx hs pl pu ⟨p,vs,rfl,hK ▸ h1,λ hw=>?_,λ _ q hq=>ho.tup sr hq (k.j' lo hi)⟩
  have:=k.j' lo hi
  rw[L5 hw]at this
  exact ho.ķ sr (jT h1 this)
 ·obtain⟨xs,e0,ho⟩:=ho.ó
  obtain⟨p,vs,rfl,_,h1,k⟩:=sr.fj (ć e0) va
  exact E4 Ä s σ H _ v vl vu lo hi sl Q I rx hs pl pu ⟨p,vs,rfl,fZ.of h1,λ q hq=>ho.alloc sr hq (OR.lst û (Ħ.gr ((sr.dQ hq).add hq).toGr (k.j' lo hi)))⟩
 ·obtain⟨p,vs,rfl,h1,k⟩:=va.iL
  exact E4 Ä s σ H _ v vl vu lo hi sl Q I rx hs pl pu ⟨p,vs,rfl,hK ▸ h1.GF,λ q hq=>ho.alloc sr hq (OR.lst û (Ħ.gr ((sr.dQ hq).add hq).toGr (k.j' lo hi)))⟩
def AA (m:Ev)(lo hi:Eo):Ev:=λ env s=>(m env s).bind λ v s1=>(lo env s1).bind λ l s2=>(hi env s2).bind λ h s3=>sT v l h s3
theorem VJ (hK:X.K=T.K)(he:PE X e (tE T XE m)) (hl:PO X lo (tO T XE ml)) (hh:PO X hi (tO T XE mh)):PE X (.Subscript e (.Slice lo hi none p2) pos) (tE T XE (AA m ml mh)):=
 PE.imp (JK (oSl (XE:=XE) hK) he hl hh) λ σ H Q zz=>ŀ zz λ ρ env s hs he ho=>
  step hs he ho λ v s1 Ě H1 x _ u1 İ aM Ĝ Ā=>step İ aM Ā λ l s2 bf H2 l' _ u2 fm oh e2 ck=>step fm oh ck λ h s3 oz H3 h' _ u3 qi zv e3 lg=>by
   cases (show l=l' from e2)
   cases (show h=h' from e3)
   exact⟨oz,v,s3,qi,VR.up (u2.trans u3) Ĝ,lg⟩
end
abbrev Ms:=En->S->RS
def R.cu {α:Type}:R α->(α->S->RS)->RS
 | .ok a s,f=>f a s
 | .ex c s,_=>.ex c s
 | .bad,_=>.bad
@[simp] theorem fK (a:α) (s:S) (f:α->S->RS):(R.ok a s).cu f=f a s:=rfl
def fG (T:Tx)(XE:j6)(ρ:Á Addr)(H:Hp):RS->Ends->Prop
 | .nx e s,D=>∀ Ň H' bh,Up ρ H Ň H'->SR T Ň s H'->ER T Ň H' e bh->D.nx bh H'
 | .rt v s,D=>∀ Ň H' x,Up ρ H Ň H'->SR T Ň s H'->VR T Ň H' v x->D.rt x H'
 | .bk e s,D=>∀ Ň H' bh,Up ρ H Ň H'->SR T Ň s H'->ER T Ň H' e bh->D.bk bh H'
 | .ct e s,D=>∀ Ň H' bh,Up ρ H Ň H'->SR T Ň s H'->ER T Ň H' e bh->D.ct bh H'
 | .ex c s,_=>∀ Ň H',Up ρ H Ň H'->SR T Ň s H'->XE c Ň s H'
 | .bad,_=>False
theorem fG.up (u:Up ρ H Ň H')(h:fG T XE ρ H r D):fG T XE Ň H' r D:=by
 cases r with
 | nx e s=>exact λ bf H2 x u2 sr vr=>h bf H2 x (u.trans u2) sr vr
 | rt e s=>exact λ bf H2 x u2 sr vr=>h bf H2 x (u.trans u2) sr vr
 | bk e s=>exact λ bf H2 x u2 sr vr=>h bf H2 x (u.trans u2) sr vr
 | ct e s=>exact λ bf H2 x u2 sr vr=>h bf H2 x (u.trans u2) sr vr
 | ex c s=>exact λ bf H2 u2 sr=>h bf H2 (u.trans u2) sr
 | bad=>exact h
def tS (T:Tx)(XE:j6)(m:Ms):TS:=λ D σ H=>∃ ρ env s,SR T ρ s H/\ER T ρ H env σ/\fG T XE ρ H (m env s) D
section
variable {T:Tx}{XE:j6}{X:Cx}{pos:mT}
theorem dP {rl:Rl α β} 
  (hs:SR T ρ s H) (he:ER T ρ H env σ) (ho:fG T XE ρ H ((m env s).cu k) D)
  (hk:∀ v s1 Ě H1 x,m env s=.ok v s1->Up ρ H Ě H1->SR T Ě s1 H1->ER T Ě H1 env σ->rl.r H Ě H1 v x->fG T XE Ě H1 (k v s1) D->F x H1):tG T XE rl m σ H F:=by
 refine⟨ρ,env,s,hs,he,?_⟩
 cases e:m env s with
 | ok v s1=>
  rw[e]at ho
  exact λ Ě H1 x u sr vr=>hk v s1 Ě H1 x e u sr (he.up u) vr (fG.up u ho)
 | ex c s1=>rw[e]at ho;exact ho
 | bad=>rw[e]at ho;exact ho
def ŭ:Ms:=λ env s=>.nx env s
theorem mR {m:Ms}{σ:St}{H:Hp}{D:Ends}{P:Prop}(h:tS T XE m D σ H)(k:∀ ρ env s,SR T ρ s H->ER T ρ H env σ->fG T XE ρ H (m env s) D->P):P:=by
 obtain⟨ρ,env,s,hs,he,ho⟩:=h
 exact k ρ env s hs he ho
def ē (a b:Ms):Ms:=λ env s=>match a env s with
 | .nx e s1=>b e s1
 | r=>r
theorem Ng:nu X [] (tS T XE ŭ):=nu.imp NQ λ D σ H zz=>mR zz λ ρ env s hs he ho=>ho ρ H σ .refl hs he
theorem Jg {st:Stmt}{rest:Á Stmt}{a b:Ms}(h1:PS X st (tS T XE a)) (h2:nu X rest (tS T XE b)):nu X (st :: rest) (tS T XE (ē a b)):=
 nu.imp (JZ h1 h2) λ D σ H zz=>mR zz λ ρ env s hs he ho=>by
  refine⟨ρ,env,s,hs,he,?_⟩
  unfold ē at ho
  cases e:a env s with
  | nx e1 s1=>rw[e]at ho;exact λ bf H2 x u sr er=>⟨bf,e1,s1,sr,er,fG.up u ho⟩
  | rt v s1=>rw[e]at ho;exact ho
  | bk v s1=>rw[e]at ho;exact ho
  | ct v s1=>rw[e]at ho;exact ho
  | ex v s1=>rw[e]at ho;exact ho
  | bad=>rw[e]at ho;exact ho
theorem Nh (h1:PS X st (tS T XE a)):nu X [st] (tS T XE a):=NR h1
def au (m:Ev):Ms:=λ env s=>(m env s).cu λ _ s1=>.nx env s1
theorem Nc (h:PE X e (tE T XE m)) (hs:eB e none pos.line X.env=pure false:=by rfl):PS X (.Expr e pos) (tS T XE (au m)):=
 PS.imp (NO h hs) λ D σ H zz=>mR zz λ ρ env s hs he ho=>dP hs he ho λ v s1 Ě H1 x _ u1 İ aM Ĝ Ā=>Ā Ě H1 σ .refl İ aM
def Ŭ (m:Ev):Ms:=λ env s=>(m env s).cu λ v s1=>.rt v s1
theorem Q5 (h:PE X e (tE T XE m)):PS X (.Return (À e) pos) (tS T XE (Ŭ m)):=
 PS.imp (RM h) λ D σ H zz=>mR zz λ ρ env s hs he ho=>dP hs he ho λ v s1 Ě H1 x _ u1 İ aM Ĝ Ā=>Ā Ě H1 x .refl İ Ĝ
def lW (c:Eb)(a b:Ms):Ms:=λ env s=>(c env s).cu λ k s1=>if k=true then a env s1 else b env s1
theorem VT (hc:PT X c (lj T XE QB)) (ha:nu X a (tS T XE ma)) (hb:nu X b (tS T XE mb)):PS X (.If c a b pos) (tS T XE (lW QB ma mb)):=
 PS.imp (Wo hc ha hb) λ D σ H zz=>mR zz λ ρ env s hs he ho=>dP hs he ho λ v s1 Ě H1 x _ u1 İ aM Ĝ Ā=>by
  cases (show v=x from Ĝ)
  cases v with
  | true=>exact⟨Ě,env,s1,İ,aM,Ā⟩
  | false=>exact⟨Ě,env,s1,İ,aM,Ā⟩
def bL (i:Nat)(m:Ev):Ms:=λ env s=>(m env s).cu λ v s1=>.nx (env.set i (À v)) s1
theorem Hf (h:tS T XE (bL i m) D σ H):Og (tE T XE m) (Eh i) D σ H:=by
 obtain⟨ρ,env,s,hs,he,ho⟩:=h
 exact dP hs he ho λ v s1 Ě H1 x _ u1 İ aM Ĝ Ā=>Ā Ě H1 _ .refl İ (aM.set Ĝ)
theorem Jf (hN:X.N.Nodup)(he:PE X e (tE T XE m)) (hi:X.N[i]? = À x:=by rfl)(hx:Loc X.env.scope x:=by first|exact GW rfl|exact OB rfl)(hs:eB e (À (.Name x pos')) pos.line X.env=pure false:=by rfl) (hf:X.fn x=true∨X.env.scope.names.lookup x=À .local:=by first|exact .inl rfl|exact .inr rfl|assumption) :
  PS X (.Assign [.Name x pos'] e pos) (tS T XE (bL i m)):=PS.imp (RN hN hi hx he hs hf) λ D σ H h=>Hf h
abbrev Mt:=AV->En->S->RS
abbrev Lh:=Á AV->En->S->RS
def Me (Q:St->Hp->Prop):Ends:={ nx:=Q,rt:=λ _ _=>False }
def tT (T:Tx)(XE:j6)(m:Mt):TG:=λ x σ H Q=>∃ ρ env s v,SR T ρ s H/\ER T ρ H env σ/\VR T ρ H v x/\fG T XE ρ H (m v env s) (Me Q)
def X8 (T:Tx)(XE:j6)(m:Lh):SU:=λ xs σ H Q=>∃ ρ env s vs,SR T ρ s H/\ER T ρ H env σ/\Ħ T ρ H vs xs/\fG T XE ρ H (m vs env s) (Me Q)
def gN (i:Nat):Mt:=λ v env s=>.nx (env.set i (À v)) s
def gm:Lh:=λ vs env s=>match vs with
 | []=>.nx env s
 | _=>.bad
def Ĳ (a:Mt)(r:Lh):Lh:=λ vs env s=>match vs with
 | v :: w=>match a v env s with
  | .nx e s1=>r w e s1
  | q=>q
 | _=>.bad
def gT (n:Nat)(r:Lh):Mt:=λ v env s=>match v with
 | .tup vs=>if vs.length=n then r vs env s else .bad
 | _=>.bad
theorem M4 (hN:X.N.Nodup)(hi:X.N[i]? = À x:=by rfl)(hx:Loc X.env.scope x:=by first|exact GW rfl|exact OB rfl)(hf:X.fn x=true∨X.env.scope.names.lookup x=À .local:=by first|exact .inl rfl|exact .inr rfl|assumption):PG X (.Name x pos) (tT T XE (gN i)):=
 PG.imp (ND hN hi hx hf) λ x σ H Q ⟨ρ,env,s,v,hs,he,vr,ho⟩=>ho ρ H _ .refl hs (he.set vr)
theorem M7:DS X [] (X8 T XE gm):=DS.imp NF λ xs σ H Q ⟨ρ,env,s,vs,hs,he,vr,ho⟩=>by
 cases vs with
 | nil=>exact⟨vr.nil_inv,ho ρ H _ .refl hs he⟩
 | cons a r=>exact ho.elim
theorem IV (h1:PG X e (tT T XE a)) (h2:DS X es (X8 T XE r)) (hs:(dD (e :: es) X.env).map (·.2)=lu e X.env :: (dD es X.env).map (·.2):=by rfl):DS X (e :: es) (X8 T XE (Ĳ a r)):=
 DS.imp (JN h1 h2 hs) λ xs σ H Q ⟨ρ,env,s,vs,hs,he,vr,ho⟩=>by
  cases vs with
  | nil=>exact ho.elim
  | cons v w=>
   obtain⟨x,ys,rfl,k1,k2⟩:=vr.cons_inv
   refine⟨x,ys,rfl,ρ,env,s,v,hs,he,k1,?_⟩
   unfold Ĳ at ho
   cases e:a v env s with
   | nx e1 s1=>simp only[e]at ho;exact λ bf H2 x u sr er=>⟨bf,e1,s1,w,sr,er,k2.up u,fG.up u ho⟩
   | rt v s1=>simp only[e]at ho;exact ho
   | bk v s1=>simp only[e]at ho;exact λ bf H2 x u sr er=>ho bf H2 x u sr er
   | ct v s1=>simp only[e]at ho;exact λ bf H2 x u sr er=>ho bf H2 x u sr er
   | ex v s1=>simp only[e]at ho;exact ho
   | bad=>simp only[e]at ho;exact ho
theorem QW (hK:X.K=T.K)(hc:X.calm=true)(h:DS X es (X8 T XE r)) (hn:(dD es X.env).length=n:=by rfl) (CS:(dD es X.env).findIdx? (·.1)=none:=by rfl):PG X (.Tuple es k pos) (tT T XE (gT n r)):=
 PG.imp (RE hc h hn CS) λ x σ H Q ⟨ρ,env,s,v,hs,he,vr,ho⟩=>by
  obtain⟨vs,rfl⟩:∃ vs,v=.tup vs:=by
   cases v with
   | tup vs=>exact⟨vs,rfl⟩
   | _=>exact ho.elim
  obtain⟨a,ws,rfl,h1,k1⟩:=vr.bV
  have ho:fG T XE ρ H (if vs.length=n then r vs env s else .bad) (Me Q):=ho
  by_cases hl:vs.length=n
  ·rw[Ñ hl]at ho
   exact⟨a,ws,rfl,hK ▸ h1,by rw[<-k1.length];exact hl,ρ,env,s,vs,hs,he,k1,ho⟩
  ·rw[Ö hl]at ho;exact ho.elim
def Dw (m:Ev)(g:Mt):Ms:=λ env s=>(m env s).cu λ v s1=>g v env s1
def nt (g:Mt):Prop:=∀ v env s,(∃ e s1,g v env s=.nx e s1)∨(∃ c s1,g v env s=.ex c s1)∨g v env s=.bad
def uL (g:Lh):Prop:=∀ v env s,(∃ e s1,g v env s=.nx e s1)∨(∃ c s1,g v env s=.ex c s1)∨g v env s=.bad
theorem Nm:nt (gN i):=λ v env s=>.inl ⟨_,_,rfl⟩
theorem Rc:uL gm:=λ v env s=>by
 cases v with
 | nil=>exact .inl ⟨_,_,rfl⟩
 | cons a r=>exact .inr (.inr rfl)
theorem Nl (h:nt a)(k:uL r):uL (Ĳ a r):=λ v env s=>by
 cases v with
 | nil=>exact .inr (.inr rfl)
 | cons x w=>
  rcases h x env s with⟨e,s1,q⟩|⟨e,s1,q⟩|q
  ·have:Ĳ a r (x :: w) env s=r w e s1:=by unfold Ĳ;simp only[q]
   rw[this];exact k w e s1
  ·have:Ĳ a r (x :: w) env s=.ex e s1:=by unfold Ĳ;simp only[q]
   exact .inr (.inl ⟨_,_,this⟩)
  ·have:Ĳ a r (x :: w) env s=.bad:=by unfold Ĳ;simp only[q]
   exact .inr (.inr this)
theorem Rf (k:uL r):nt (gT n r):=λ v env s=>by
 cases v<;>try exact .inr (.inr rfl)
 rename_i vs
 by_cases hl:vs.length=n
 ·have:gT n r (.tup vs) env s=r vs env s:=Ñ hl
  rw[this];exact k vs env s
 ·have:gT n r (.tup vs) env s=.bad:=Ö hl
  exact .inr (.inr this)
theorem nt.out (k:nt g)(h:fG T XE ρ H (g v env s) D):fG T XE ρ H (g v env s) (Me D.nx):=by
 rcases k v env s with⟨e,s1,q⟩|⟨e,s1,q⟩|q<;>rw[q]at h ⊢<;>exact h
theorem Q1 (he:PE X e (tE T XE m)) (hg:PG X tg (tT T XE g)) (hon:nt g)(hs:kj [tg] e pos.line X.env=pure false:=by rfl)(hw:ki [tg] e X.env=pure none:=by rfl)
  (h1:(dD [tg] X.env).map (·.2)=[lu tg X.env]:=by rfl):PS X (.Assign [tg] e pos) (tS T XE (Dw m g)):=
 PS.imp (RI he hg hs hw h1) λ D σ H zz=>mR zz λ ρ env s hs he ho=>dP hs he ho λ v s1 Ě H1 x _ u1 İ aM Ĝ Ā=>⟨Ě,env,s1,v,İ,aM,Ĝ,hon.out Ā⟩
def p0 (i j:Nat)(r:fY):Ms:=λ env s=>(r env s).cu λ vs s1=>match vs with
 | [v,w]=>.nx ((env.set i (À v)).set j (À w)) s1
 | _=>.bad
theorem Q4 (hc:X.calm=true)(hN:X.N.Nodup)(ha:PA X [a,b] (tP T XE r)) (hi:X.N[i]? = À x:=by rfl)(hj:X.N[j]? = À y:=by rfl)(om:i≠j:=by decide)
  (hx:X.env.scope.names.lookup x=À .local:=by rfl) (hy:X.env.scope.names.lookup y=À .local:=by rfl)
  (hw:ki [.Tuple [.Name x px,.Name y py] kt pt] (.Tuple [a,b] k2 J0) X.env=pure (À [x,y]):=by rfl)
  (hs:kj [.Tuple [.Name x px,.Name y py] kt pt] (.Tuple [a,b] k2 J0) pos.line X.env=pure false:=by rfl) :
  PS X (.Assign [.Tuple [.Name x px,.Name y py] kt pt] (.Tuple [a,b] k2 J0) pos) (tS T XE (p0 i j r)):=
 PS.imp (RL hc hN hi hj om hx hy ha hw hs) λ D σ H zz=>mR zz λ ρ env s hs he ho=>dP hs he ho λ v s1 Ě H1 x _ u1 İ aM Ĝ Ā=>by
  have Ĝ:Ħ T Ě H1 v x:=Ĝ
  match v,Ĝ,Ā with
  | [v,w],Ĝ,Ā=>
   obtain⟨x1,ys,rfl,k1,k2⟩:=Ĝ.cons_inv
   obtain⟨x2,ys,rfl,k4,k3⟩:=k2.cons_inv
   cases k3.nil_inv
   exact⟨x1,x2,rfl,Ā Ě H1 _ .refl İ ((aM.set k1).set k4)⟩
  | [],_,Ā=>exact Ā.elim
  | [_],_,Ā=>exact Ā.elim
  | _ :: _ :: _ :: _,_,Ā=>exact Ā.elim
def LB (c:Eb)(b:Ms):Nat->En->S->RS
 | 0,_,_=>.bad
 | n+1,env,s=>(c env s).cu λ k s1=>if k=true then (match b env s1 with
   | .nx e s2=>LB c b n e s2
   | .ct e s2=>LB c b n e s2
   | .bk e s2=>.nx e s2
   | r=>r) else .nx env s1
def N4 (f:En->S->Nat)(c:Eb)(b:Ms):Ms:=λ env s=>LB c b (f env s) env s
theorem Q7 (f:En->S->Nat)(hp:AK (Ý X.prog X.w) X.A X.env X.xe) (hc:PT X c (lj T XE QB)) (hb:nu X body (tS T XE mb)):PS X (.While c body [] pos) (tS T XE (N4 f QB mb)):=
 PS.imp (JY hp hc hb) λ D σ H zz=>mR zz λ ρ env s hs he ho=>by
  refine⟨λ n σ H=>∃ ρ env s,SR T ρ s H/\ER T ρ H env σ/\fG T XE ρ H (LB QB mb n env s) D,⟨f env s,ρ,env,s,hs,he,ho⟩,?_⟩
  rintro n σ H ⟨ρ,env,s,hs,he,ho⟩
  cases n with
  | zero=>exact ho.elim
  | succ n=>
   unfold LB at ho
   refine dP hs he ho λ v s1 Ě H1 x _ u1 İ aM Ĝ Ā=>?_
   cases (show v=x from Ĝ)
   cases v with
   | false=>exact Ā Ě H1 σ .refl İ aM
   | true=>
    refine⟨λ bh H'=>∃ ρ env s,SR T ρ s H'/\ER T ρ H' env bh/\fG T XE ρ H' (LB QB mb n env s) D,λ bh H' h=>⟨n,nq n,h⟩,Ě,env,s1,İ,aM,?_⟩
    simp only[Ñ]at Ā
    cases e:mb env s1 with
    | nx e2 s2=>simp only[e]at Ā;exact λ bf H2 x u sr er=>⟨bf,e2,s2,sr,er,fG.up u Ā⟩
    | ct e2 s2=>simp only[e]at Ā;exact λ bf H2 x u sr er=>⟨bf,e2,s2,sr,er,fG.up u Ā⟩
    | bk e2 s2=>simp only[e]at Ā;exact λ bf H2 x u sr er=>Ā bf H2 x u sr er
    | rt v s2=>simp only[e]at Ā;exact Ā
    | ex v s2=>simp only[e]at Ā;exact Ā
    | bad=>simp only[e]at Ā;exact Ā
end
end Mm
namespace L2
open PySem PySem.Spec PyProof.Rows
theorem RF (hl:PE X l tl):PI X tg l (λ σ H R=>tl σ H λ x H1=>∃ a,x=.ref a/\(((∃ xs,fZ X.K H1 a xs)/\R (SN X.K a) H1)∨((∃ xs,hZ X.K H1 a xs)/\R (Tv X.K a) H1))):=by
 intro Ä s σ H R I h
 refine af (hl Ä s σ H _ I h) λ v s1 zz=>jA zz λ x H1 I1 r1 q1=>?_
 obtain⟨a,e,q⟩:=q1
 subst e
 cases r1
 rcases q with⟨⟨xs,hq⟩,q⟩|⟨⟨xs,hq⟩,q⟩
 ·obtain⟨its,rv,p,hz⟩:=I1.list hq
  refine y_ p.isList ?_
  refine⟨s1.heap.objs.size,[s1.heap.objs.size],_,_,H1,rfl,I1.kept (t':=s1.toks) λ b o e=>Ã _ e,yG a _,⟨_,Ø _ rfl,rfl,rfl⟩,λ b hb=>?_,q⟩
  have e:b=s1.heap.objs.size:=by simpa using hb
  subst e
  exact I1.CK (Ï _) (I1.ļ.fresh (Ï _))
 ·obtain⟨its,rv,p,hz⟩:=I1.tuple hq
  refine xi (show s1.heap.IsTuple a its.toArray from p) ?_
  refine⟨s1.heap.objs.size,[s1.heap.objs.size],_,_,H1,rfl,I1.kept (t':=s1.toks) λ b o e=>Ã _ e,DH a _,⟨_,Ø _ rfl,rfl,rfl⟩,λ b hb=>?_,q⟩
  have e:b=s1.heap.objs.size:=by simpa using hb
  subst e
  exact I1.CK (Ï _) (I1.ļ.fresh (Ï _))
end L2
namespace Mm
open PySem L2
theorem Up.mod (u:Up ρ H Ň H')(h:H D=none)(n:D∉Ň):Up ρ H Ň (upd H' D o):=
 ⟨⟨u.pre,λ b xs e=>by rw[ã (Đ e h)];exact u.mJ b xs e,λ b p v e=>by rw[ã (Đ e h)];exact u.kS b p v e⟩,λ b p e k=>⟨by rw[ã (Đ e h)];exact(u.fr b p e k).1,(u.fr b p e k).2⟩,λ b e=>by
  by_cases hb:b=D
  ·rw[hb];exact h
  ·rw[ã hb]at e;exact u.live b e⟩
theorem Y1 (h:H D=À (.lst xs)):Gr ρ H ρ (upd H D o):=
 ⟨aR,λ b ys e=>by rw[ã (vY e h (by intro z;cases z))];exact e,λ b p v e=>by rw[ã (vY e h (by intro z;cases z))];exact e⟩
theorem ER.gr (h:ER T ρ H env σ)(u:Gr ρ H Ň H'):ER T Ň H' env σ:=
 ⟨h.len,λ i v e=>let ⟨x,e1,q⟩:=h.get i v e;⟨x,e1,q.gr u⟩⟩
abbrev Gd:=Á (Nat × Á AV)
def x_ (gs:Gd)(s:S):Prop:=∀ p∈gs,ï s p.1=À p.2
theorem Ei (i:Nat)(xs:Á AV)(s:S):x_ [(i,xs)] s ↔ ï s i=À xs:=by simp[x_]
structure Walks (T:Tx)(ρ:Á Addr)(H:Hp)(xs:Á AV)(gs:Gd)(J:It):Prop where
 turn:∀ Ň s' H',Up ρ H Ň H'->SR T Ň s' H'->x_ gs s'->(∀ (j:Nat) (v:AV),xs[j]? = À v->J.go j H'/\∀ x H'',J.LC j H' x H''->Up Ň H' Ň H''/\SR T Ň s' H''/\VR T Ň H'' v x)/\J.stop xs.length H'
abbrev Src:=En->S->R (Á AV × Gd)
def rW (T:Tx):Rl (Á AV × Gd) It:=⟨λ _ ρ H p J=>Walks T ρ H p.1 p.2 J,λ _ h=>h⟩
abbrev tW (T:Tx)(XE:j6)(m:Src):TI:=tG T XE (rW T) m
section
variable {T:Tx}{XE:j6}{X:Cx}{pos:mT}
theorem s_ (h:H' a=À (.lst vs)∨OH K H' a vs) (sr:SR T Ň s' H')(k:Ħ T Ň H' xs vs) :
  (∀ (j:Nat) (v:AV),xs[j]? = À v->(SN K a).go j H'/\∀ x H'',(SN K a).LC j H' x H''->Up Ň H' Ň H''/\SR T Ň s' H''/\VR T Ň H'' v x)/\(SN K a).stop xs.length H':=by
 have hq:fZ K H' a vs:=by rcases h with h|h;exact fZ.of h;exact h.GF
 refine⟨λ j v e=>?_,⟨vs,hq,by rw[k.length];exact Ï _⟩⟩
 obtain⟨x,ex,kx⟩:=k.get e
 refine⟨⟨vs,x,hq,ex⟩,λ y H'' ⟨e1,e2⟩=>?_⟩
 subst e1
 have:=e2 vs hq
 rw[ex]at this
 cases this
 exact⟨.refl,sr,kx⟩
theorem Kv (hq:hZ K H' a vs)(sr:SR T Ň s' H')(k:Ħ T Ň H' xs vs) :
  (∀ (j:Nat) (v:AV),xs[j]? = À v->(Tv K a).go j H'/\∀ x H'',(Tv K a).LC j H' x H''->Up Ň H' Ň H''/\SR T Ň s' H''/\VR T Ň H'' v x)/\(Tv K a).stop xs.length H':=by
 refine⟨λ j v e=>?_,⟨vs,hq,by rw[k.length];exact Ï _⟩⟩
 obtain⟨x,ex,kx⟩:=k.get e
 refine⟨⟨vs,x,hq,ex⟩,λ y H'' ⟨e1,e2⟩=>?_⟩
 subst e1
 have:=e2 vs hq
 rw[ex]at this
 cases this
 exact⟨.refl,sr,kx⟩
def BN (r:fY):Src:=λ env s=>(r env s).bind λ xs s1=>.ok (xs,[]) s1
theorem ZQ (hK:X.K=T.K)(h:PE X e (tL T XE r)):PI X tg e (tW T XE (BN r)):=
 PI.imp (NH h) λ σ H R zz=>ŀ zz λ ρ env s hs he ho=>by
  refine⟨ρ,env,s,hs,he,?_⟩
  unfold BN at ho
  cases e:r env s with
  | bad=>rw[e]at ho;exact ho
  | ex c s1=>rw[e]at ho;exact ho
  | ok xs s1=>
   rw[e]at ho
   rintro Ě H1 x u sr ⟨a,vs,e1,h0,h1,h2,k⟩
   subst e1
   refine⟨a,rfl,⟨vs,fZ.of h2⟩,ho Ě H1 _ u sr ⟨λ Ň s' H' u' mI _=>?_⟩⟩
   rw[hK]
   exact s_ (.inl (u'.fr a _ h2 h1).1) mI (k.up u')
def dO (m:Ev):Src:=λ env s=>(m env s).bind λ v s1=>match v with
 | .tup xs=>.ok (xs,[]) s1
 | .sq xs=>.ok (xs,[]) s1
 | .ref i=>need (ï s1 i) λ xs=>.ok (xs,[(i,xs)]) s1
 | _=>.bad
theorem ZR (hK:X.K=T.K)(h:PE X e (tE T XE m)):PI X tg e (tW T XE (dO m)):=
 PI.imp (RF h) λ σ H R zz=>ŀ zz λ ρ env s hs he ho=>step hs he ho λ v s1 Ě H1 x _ u1 İ aM Ĝ Ā=>by
  have Ĝ:VR T Ě H1 v x:=Ĝ
  cases v with
  | tup xs=>
   obtain⟨a,vs,rfl,h1,k⟩:=Ĝ.bV
   refine⟨a,rfl,.inr ⟨⟨vs,hK ▸ h1⟩,Ā Ě H1 _ .refl İ ⟨λ Ň s' H' u' mI _=>?_⟩⟩⟩
   rw[hK]
   exact Kv (u'.WD h1) mI (k.up u')
  | sq xs=>
   obtain⟨a,vs,rfl,h1,k⟩:=Ĝ.iL
   refine⟨a,rfl,.inl ⟨⟨vs,hK ▸ h1.GF⟩,Ā Ě H1 _ .refl İ ⟨λ Ň s' H' u' mI _=>?_⟩⟩⟩
   rw[hK]
   exact s_ (.inr (u'.sqF h1)) mI (k.up u')
  | ref i=>
   obtain⟨xs,e0,Ā⟩:=Ā.ó
   obtain⟨a,vs,rfl,ea,h1,k⟩:=İ.fj (ć e0) Ĝ
   refine⟨a,rfl,.inl ⟨⟨vs,fZ.of h1⟩,Ā Ě H1 _ .refl İ ⟨λ Ň s' H' u' mI g=>?_⟩⟩⟩
   have e2:=(Ei i xs s').mp g
   obtain⟨b,ws,eb,_,h2,k2⟩:=mI.fj (ć e2) (VR.up u' Ĝ)
   cases eb
   exact s_ (.inl h2) mI k2
  | Ē=>exact Ā.elim
  | bl b=>exact Ā.elim
  | int b=>exact Ā.elim
  | str b=>exact Ā.elim
def pY (lo:Int)(n:Nat):Á AV:=(Ă n).map λ(i:Nat)=>AV.int (lo+i)
theorem Ku (sr:SR T Ň s' H') :
  (∀ (j:Nat) (v:AV),(pY lo n)[j]? = À v->(SO lo n).go j H'/\∀ x H'',(SO lo n).LC j H' x H''->Up Ň H' Ň H''/\SR T Ň s' H''/\VR T Ň H'' v x)/\(SO lo n).stop (pY lo n).length H':=by
 have hl:(pY lo n).length=n:=by simp[pY]
 refine⟨λ j v e=>?_,by rw[hl];exact Ï _⟩
 have hj:j < n:=by have:=(Æ.mp e).1;rw[hl]at this;exact this
 refine⟨hj,λ y H'' ⟨e1,e2⟩=>?_⟩
 subst e1 e2
 have:(pY lo n)[j]? = À (.int (lo+j)):=by simp[pY,hj]
 rw[this]at e
 cases e
 exact⟨.refl,sr,dY⟩
def BO (r:fY):Src:=λ env s=>(r env s).bind λ vs s1=>match vs with
 | [.int j]=>if -(2 ^ 62)<=j/\j < 2 ^ 62 then .ok (pY 0 j.toNat,[]) s1 else .bad
 | [.int i,.int j]=>if -(2 ^ 62)<=i/\i < 2 ^ 62/\-(2 ^ 62)<=j/\j < 2 ^ 62 then .ok (pY i (j - i).toNat,[]) s1 else .bad
 | _=>.bad
theorem VQ (hm:X.mg "range"=none)(ha:PE X a (tE T XE m)) (hg:Gl X "range":=by rfl)(hs:Ì [a] X.env=[(false,Ć a X.env)]:=by rfl):PI X tg (.Call (.Name "range" p) [a] [] pos) (tW T XE (BO (Ê m Ü))):=
 PI.imp (Gs hg hm (BG ha ET hs) hs) λ σ H R zz=>ŀ zz λ ρ env s hs he ho=>step hs he ho λ v s1 Ě H1 x e u1 İ aM Ĝ Ā=>by
  have Ĝ:Ħ T Ě H1 v x:=Ĝ
  obtain⟨w,rfl⟩:∃ w,v=[w]:=by
   unfold Ê Ü at e
   cases e1:m env s with
   | ok w s2=>rw[e1]at e;cases e;exact⟨w,rfl⟩
   | ex c s2=>rw[e1]at e;cases e
   | bad=>rw[e1]at e;cases e
  obtain⟨y,ys,rfl,k1,k2⟩:=Ĝ.cons_inv
  cases k2.nil_inv
  cases w with
  | int j=>
   obtain⟨⟨h1,h2⟩,Ā⟩:=Ā.ō
   cases k1.int_inv
   exact⟨j,rfl,h1,h2,Ā Ě H1 _ .refl İ ⟨λ Ň s' H' u' mI _=>Ku mI⟩⟩
  | _=>exact Ā.elim
def forL (jj:Mt)(body:Ms)(gs:Gd):Á AV->En->S->RS
 | [],env,s=>open Classical in if x_ gs s then .nx env s else .bad
 | v :: r,env,s=>open Classical in if x_ gs s then (match jj v env s with
   | .nx e1 s1=>(match body e1 s1 with
    | .nx e2 s2=>forL jj body gs r e2 s2
    | .ct e2 s2=>forL jj body gs r e2 s2
    | .bk e2 s2=>.nx e2 s2
    | q=>q)
   | .ex c s1=>.ex c s1
   | _=>.bad) else .bad
def Dy (src:Src)(jj:Mt)(body:Ms):Ms:=λ env s=>(src env s).cu λ p s1=>forL jj body p.2 p.1 env s1
theorem fG.ō {ρ:Á Addr}{c:Prop}{_:ŷ c}{r:RS}{D:Ends}(h:fG T XE ρ H (if c then r else .bad) D):c/\fG T XE ρ H r D:=by
 by_cases hc:c
 ·rw[Ñ hc]at h;exact⟨hc,h⟩
 ·rw[Ö hc]at h;exact h.elim
theorem Q3 (hp:AK (Ý X.prog X.w) X.A X.env X.xe) (hc:X.calm=true)(hi:PI X tg iter (tW T XE src)) (hg:PG X tg (tT T XE jj)) (hb:nu X body (tS T XE mb))
  (hs:∀ x,eO iter X.env x=pure x:=by intro _;rfl):PS X (.For tg iter body [] pos) (tS T XE (Dy src jj mb)):=
 PS.imp (RK hp hc hi hg hb hs) λ D σ H zz=>mR zz λ ρ env s hs he ho=>dP hs he ho λ p s1 Ě H1 J _ u1 İ aM wk Ā=>by
  obtain⟨xs,gs⟩:=p
  have wk:Walks T Ě H1 xs gs J:=wk
  refine⟨λ i m bh H'=>m=xs.length - i/\i<=xs.length/\∃ Ň vy s',Up Ě H1 Ň H'/\SR T Ň s' H'/\ER T Ň H' vy bh/\fG T XE Ň H' (forL jj mb gs (xs.drop i) vy s') D,⟨_,rfl,ñ _,Ě,env,s1,.refl,İ,aM,Ā⟩,?_⟩
  rintro i m bh H' ⟨rfl,hi,Ň,vy,s',u',mI,XG,cE⟩
  by_cases Bo:i < xs.length
  ·rw[AI Bo]at cE
   unfold forL at cE
   obtain⟨Qa,cE⟩:=cE.ō
   obtain⟨w1,w2⟩:=(wk.turn Ň s' H' u' mI Qa).1 i xs[i] (Å Bo)
   refine .inr ⟨w1,λ B0 H2=>∃ bf UH s2,Up Ě H1 bf H2/\SR T bf s2 H2/\ER T bf H2 UH B0/\fG T XE bf H2 (forL jj mb gs (xs.drop (i+1)) UH s2) D,λ B0 H2 h2=>⟨xs.length - (i+1),by lia,rfl,Bo,h2⟩,λ x H'' hy=>?_⟩
   obtain⟨y1,y2,y3⟩:=w2 x H'' hy
   refine⟨Ň,vy,s',xs[i],y2,XG.up y1,y3,?_⟩
   have cE:=fG.up y1 cE
   cases et:jj xs[i] vy s' with
   | nx e1 s1=>
    simp only[et]at cE
    refine λ bf H2 B0 u2 fm oh=>⟨bf,e1,s1,fm,oh,?_⟩
    have cE:=fG.up u2 cE
    have up2:Up Ě H1 bf H2:=(u'.trans y1).trans u2
    cases eb:mb e1 s1 with
    | nx e2 s2=>simp only[eb]at cE;exact λ oz H3 AB u3 qi zv=>⟨oz,e2,s2,up2.trans u3,qi,zv,fG.up u3 cE⟩
    | ct e2 s2=>simp only[eb]at cE;exact λ oz H3 AB u3 qi zv=>⟨oz,e2,s2,up2.trans u3,qi,zv,fG.up u3 cE⟩
    | bk e2 s2=>simp only[eb]at cE;exact λ oz H3 AB u3 qi zv=>cE oz H3 AB u3 qi zv
    | rt v s2=>simp only[eb]at cE;exact cE
    | ex v s2=>simp only[eb]at cE;exact cE
    | bad=>simp only[eb]at cE;exact cE
   | ex c s1=>simp only[et]at cE;exact cE
   | rt v s2=>simp only[et]at cE;exact cE.elim
   | bk v s2=>simp only[et]at cE;exact cE.elim
   | ct v s2=>simp only[et]at cE;exact cE.elim
   | bad=>simp only[et]at cE;exact cE.elim
  ·have e:i=xs.length:=by lia
   subst e
   rw[Oz]at cE
   unfold forL at cE
   obtain⟨Qa,cE⟩:=cE.ō
   exact .inl ⟨(wk.turn Ň s' H' u' mI Qa).2,cE Ň H' bh .refl mI XG⟩
abbrev Lc:=Á (Str × Ë Nat)
def DA (l:Lc)(env:En):En:=l.map λ p=>p.2.bind λ j=>(env[j]?).join
theorem ER.src (h:ER T ρ H env σ)(l:Lc):ER T ρ H (DA l env) (DB l σ):=by
 refine⟨by simp[DA,DB],λ i v e=>?_⟩
 unfold DA at e
 unfold DB
 rw[ì]at e ⊢
 cases el:l[i]? with
 | none=>rw[el]at e;cases e
 | some p=>
  rw[el]at e
  obtain⟨n,o⟩:=p
  cases o with
  | none=>cases e
  | some j=>
   have e:À ((env[j]?).join)=À (À v):=e
   have e':env[j]? = À (À v):=by
    cases ej:env[j]? with
    | none=>rw[ej]at e;cases e
    | some q=>rw[ej]at e;cases e;rfl
   obtain⟨x,ex,k⟩:=h.get j v e'
   exact⟨x,by show À ((σ[j]?).join)=_;rw[ex];rfl,k⟩
def GY:j6:=λ _ _ _ _=>False
def R.calm {α:Type}:R α->R α
 | .ex _ _=>.bad
 | r=>r
@[simp] theorem DY (a:α) (s:S):(R.ok a s).calm=.ok a s:=rfl
@[simp] theorem A5:(R.bad:R α).calm=.bad:=rfl
def j_:Eb:=λ _ s=>.ok true s
def aJ (jj:Mt)(test:Eb)(g0:Ev)(gs:Gd):Á AV->En->S->Á AV->R (Á AV)
 | [],env,s,acc=>open Classical in if x_ gs s then .ok acc s else .bad
 | v :: r,env,s,acc=>open Classical in if x_ gs s then (match jj v env s with
   | .nx e1 s1=>(test e1 s1).calm.bind λ b s2=>if b=true then (g0 e1 s2).calm.bind λ x s3=>aJ jj test g0 gs r e1 s3 (acc++[x]) else aJ jj test g0 gs r e1 s2 acc
   | _=>.bad) else .bad
def aE (l:Lc)(src:Src)(jj:Mt)(test:Eb)(g0:Ev):fY:=λ env s=>(src env s).bind λ p s1=>if p.1.length<=sizeLine then aJ jj test g0 p.2 p.1 (DA l env) s1 [] else .bad
theorem JQ:Li X [] (lj T XE j_):=λ Ä s σ H Q I ⟨ρ,env,st,hs,he,ho⟩=>NI Ä s σ H Q I (yc ho hs)
theorem JR (h:PT X c (lj T XE m)):Li X [c] (lj T XE m):=NJ h
theorem D8 (h:tL T XE (aE l src jj test g0) σ H Q):Kn l (tW T XE src) (tT T GY jj) (lj T GY test) (tE T GY g0) σ H Q:=by
 obtain⟨ρ,env,s,hs,he,ho⟩:=h
 refine⟨ρ,env,s,hs,he,?_⟩
 unfold aE at ho
 cases e:src env s with
 | bad=>rw[e]at ho;exact ho
 | ex c s1=>rw[e]at ho;exact ho
 | ok p s1=>
  rw[e]at ho
  obtain⟨xs,gs⟩:=p
  obtain⟨hlen,ho⟩:=ho.ō
  have hlen:xs.length<=sizeLine:=hlen
  intro Ě H1 J u1 İ wk D hD
  have wk:Walks T Ě H1 xs gs J:=wk
  have nD:D∉Ě:=İ.out hD
  refine⟨λ i m ys bh H'=>m=xs.length - i/\i<=xs.length/\ys.length<=i/\∃ Ň vy s' acc,Up Ě H1 Ň H'/\SR T Ň s' H'/\ER T Ň H' vy bh/\H' D=À (.lst ys)/\D∉Ň/\Ħ T Ň H' acc ys/\Out T XE (rL T) ρ H (aJ jj test g0 gs (xs.drop i) vy s' acc) Q,
   ⟨_,rfl,ñ _,Ï _,Ě,DA l env,s1,[],İ.dQ hD,İ.new hD,((he.up u1).up (İ.dQ hD)).src l,û,nD,.nil,ho⟩,?_⟩
  rintro i m ys bh H' ⟨rfl,hi,hy,Ň,vy,s',acc,u',mI,XG,hd,nd',ka,cE⟩
  by_cases Bo:i < xs.length
  ·rw[AI Bo]at cE
   unfold aJ at cE
   obtain⟨Qa,cE⟩:=cE.ō
   obtain⟨w1,w2⟩:=(wk.turn Ň s' H' u' mI Qa).1 i xs[i] (Å Bo)
   refine .inr ⟨w1,λ x H'' hy'=>?_⟩
   obtain⟨y1,y2,y3⟩:=w2 x H'' hy'
   refine⟨Ň,vy,s',xs[i],y2,XG.up y1,y3,?_⟩
   have Lr:=y1.fr D _ hd nd'
   have ka1:=ka.up y1
   cases et:jj xs[i] vy s' with
   | nx e1 s2=>
    simp only[et]at cE
    refine λ bf H2 B0 u2 fm oh=>⟨bf,e1,s2,fm,oh,?_⟩
    have hd2:=u2.fr D _ Lr.1 Lr.2
    have ka2:=ka1.up u2
    cases eb:test e1 s2 with
    | bad=>simp only[eb,A5,qz]at cE;exact cE.elim
    | ex c s3=>simp only[eb,R.calm,qz]at cE;exact cE.elim
    | ok b s3=>
     simp only[eb,DY,ą]at cE
     intro oz H3 b' u3 qi eb'
     cases (show b=b' from eb')
     have XR:=u3.fr D _ hd2.1 hd2.2
     have ka3:=ka2.up u3
     have up3:Up Ě H1 oz H3:=((u'.trans y1).trans u2).trans u3
     cases b with
     | false=>
      rw[Ö (by decide)]at cE ⊢
      exact⟨xs.length - (i+1),by lia,rfl,Bo,by lia,oz,e1,s3,acc,up3,qi,oh.up u3,XR.1,XR.2,ka3,cE⟩
     | true=>
      rw[Ñ rfl]at cE ⊢
      refine⟨oz,e1,s3,qi,oh.up u3,?_⟩
      cases ev:g0 e1 s3 with
      | bad=>simp only[ev,A5,qz]at cE;exact cE.elim
      | ex c s4=>simp only[ev,R.calm,qz]at cE;exact cE.elim
      | ok v s4=>
       simp only[ev,DY,ą]at cE
       intro ρ4 H4 x4 u4 sr4 vr4
       have U2:=u4.fr D _ XR.1 XR.2
       have ka4:=ka3.up u4
       have g5:Gr ρ4 H4 ρ4 (upd H4 D (.lst (ys++[x4]))):=Y1 U2.1
       refine⟨U2.1,by lia,xs.length - (i+1),by lia,rfl,Bo,by rw[þ];exact Pe hy,ρ4,e1,s4,acc++[v],(up3.trans u4).mod hD U2.2,sr4.up g5 λ a ha=>ã λ z=>U2.2 (z ▸ ha),((oh.up u3).up u4).gr g5,û,U2.2,(ka4.append (.one vr4)).gr g5,cE⟩
   | ex c s1=>simp only[et]at cE;exact cE.elim
   | rt v s2=>simp only[et]at cE;exact cE.elim
   | bk v s2=>simp only[et]at cE;exact cE.elim
   | ct v s2=>simp only[et]at cE;exact cE.elim
   | bad=>simp only[et]at cE;exact cE.elim
  ·have e:i=xs.length:=by lia
   subst e
   rw[Oz]at cE
   unfold aJ at cE
   obtain⟨Qa,cE⟩:=cE.ō
   exact .inl ⟨(wk.turn Ň s' H' u' mI Qa).2,cE Ň H' (.ref D) (u1.trans u') mI ⟨D,ys,rfl,u1.live D hD,nd',hd,ka⟩⟩
theorem M_ (l:Lc)(Bp:eY X scope l)(mN:X.calm=true)(hi:PI X tg iter (tW T XE src))
  (hg:∀ cl C fp s3 H3,PG (ż X l scope cl C fp s3 H3) tg (tT T GY jj)) (ht:∀ cl C fp s3 H3,Li (ż X l scope cl C fp s3 H3) ifs (lj T GY test)) (he:∀ cl C fp s3 H3,PE (ż X l scope cl C fp s3 H3) g0 (tE T GY me))
  (hs:∀ x,eO iter X.env x=pure x:=by intro _;rfl):PE X (.ListComp g0 [⟨tg,iter,ifs,0⟩] scope pos) (tL T XE (aE l src jj test me)):=
 PE.imp (Ny l Bp mN hi hg ht he hs) λ _ _ _ h=>D8 h
theorem Q9 (h:tE T XE (Ĺ r) σ H Q):tL T XE r σ H Q:=by
 obtain⟨ρ,env,s,hs,he,ho⟩:=h
 refine⟨ρ,env,s,hs,he,?_⟩
 unfold Ĺ at ho
 cases e:r env s with
 | bad=>rw[e]at ho;exact ho
 | ex c s1=>rw[e]at ho;exact ho
 | ok vs s1=>
  rw[e]at ho
  rintro Ě H1 x u sr ⟨a,ws,e1,h0,h1,h2,k⟩
  subst e1
  have g:Gr Ě H1 (Ě++[a]) H1:=⟨fW _ _,λ _ _ z=>z,λ _ _ _ z=>z⟩
  refine ho (Ě++[a]) H1 (.ref a) (u.add h0) (sr.add h1 (OR.lst h2 (k.gr g))) (p_ (T:=T) (H:=H1) ?_)
  rw[ß (by rw[sr.len];exact Ï _),sr.len,u7];rfl
theorem C3 (l:Lc)(Bp:eY X scope l)(mN:X.calm=true)(hN:X.N.Nodup)(hi:PI X tg iter (tW T XE src))
  (hg:∀ cl C fp s3 H3,PG (ż X l scope cl C fp s3 H3) tg (tT T GY jj)) (ht:∀ cl C fp s3 H3,Li (ż X l scope cl C fp s3 H3) ifs (lj T GY test)) (he:∀ cl C fp s3 H3,PE (ż X l scope cl C fp s3 H3) g0 (tE T GY me))
  (hy:X.N[i]? = À y:=by rfl) (hx:X.env.scope.names.lookup y=À .local:=by rfl)
  (Zu:eB (.ListComp g0 [⟨tg,iter,ifs,0⟩] scope pos) (À (.Name y py)) Sa.line X.env=pure true:=by rfl)
  (hs:∀ x,eO iter X.env x=pure x:=by intro _;rfl) :
  PS X (.Assign [.Name y py] (.ListComp g0 [⟨tg,iter,ifs,0⟩] scope pos) Sa) (tS T XE (bL i (Ĺ (aE l src jj test me)))):=
 PS.imp (Dm l Bp mN hN hy hx hi hg ht he Zu hs) λ D σ H h=>D8 (Q9 (Hf h))
def fe (n:Nat)(body:Ms):Á AV->S->R AV:=λ args s=>match body (args.map À++à (n - args.length) none) s with
 | .rt v s1=>.ok v s1
 | .nx _ s1=>.ok .Ē s1
 | .ex c s1=>.ex c s1
 | _=>.bad
theorem Bf (N:Á Str)(k:Ħ T ρ H args vs):ER T ρ H (args.map À++à (N.length - args.length) none) (L2.start N vs):=by
 refine⟨by simp[L2.start,k.length],λ i v e=>?_⟩
 unfold L2.start
 have hi:i < args.length:=by
  by_cases hi:i < args.length
  ·exact hi
  ·rw[ß (by simpa using hi),m8]at e
   split at e<;>cases e
 rw[á (by simpa using hi),ì]at e
 cases ea:args[i]? with
 | none=>rw[ea]at e;cases e
 | some w=>
  rw[ea]at e;cases e
  obtain⟨x,ex,q⟩:=k.get ea
  exact⟨x,by rw[á (by simpa[<-k.length]using hi),ì,ex];rfl,q⟩
def ę (n:Nat)(F:Á AV->S->R AV)(r:fY):Ev:=λ env s=>(r env s).bind λ vs s1=>if vs.length=n then F vs s1 else .bad
end
end Mm
namespace Ro
open PySem L2
def vI (top below:Int):Int:=if below < 0 then -((ŏ top below:Nat):Int) else ((ŏ top below:Nat):Int)
def fr (top below:Int):Int × Int:=(top.fdiv (vI top below),below.fdiv (vI top below))
theorem qI (h:b≠0):0 < ŏ t b:=Int.gcd_pos_of_ne_zero_right t h
theorem P4 (h:b≠0):vI t b≠0:=by
 have:=qI (t:=t) h
 unfold vI
 split<;>lia
theorem CN (t b:Int):(vI t b).natAbs=ŏ t b:=by
 unfold vI
 split<;>lia
theorem FO (t b:Int):vI t b ∣ t:=by
 unfold vI
 split
 ·exact(aaE).mpr (xa ..)
 ·exact xa ..
theorem FP (t b:Int):vI t b ∣ b:=by
 unfold vI
 split
 ·exact(aaE).mpr (uZ ..)
 ·exact uZ ..
theorem tU {a g:Int}(h:g ∣ a):a.fdiv g * g=a:=Int.fdiv_mul_cancel h
theorem HL (h:y ∣ x * v)(h2:ŏ x y=1):y ∣ v:=by
 have h1:y.natAbs ∣ x.natAbs * v.natAbs:=by rw[<-qj];exact GS.mpr h
 have hc:Nat.Coprime y.natAbs x.natAbs:=by
  show Nat.gcd y.natAbs x.natAbs=1
  rw[Nat.gcd_comm]
  exact h2
 exact GS.mp (hc.dvd_of_dvd_mul_left h1)
theorem P0 (t b:Int):(fr t b).1 * vI t b=t:=tU (FO t b)
theorem Mo (t b:Int):(fr t b).2 * vI t b=b:=tU (FP t b)
theorem HZ (t b:Int)(h:b≠0):(fr t b).1 * b=t * (fr t b).2:=by
 have h1:=P0 t b
 have h2:=Mo t b
 generalize (fr t b).1=x at *
 generalize (fr t b).2=y at *
 generalize vI t b=g at *
 subst h1
 rw[<-h2]
 rw[oC y g,<-Int.mul_assoc,lq]
theorem P1 (t b:Int)(h:b≠0):1<=(fr t b).2:=by
 have h2:=Mo t b
 have hg:=qI (t:=t) h
 have hb:(vI t b < 0/\b < 0)∨(0 < vI t b/\0 < b):=by
  unfold vI
  split
  ·left;lia
  ·right;lia
 generalize (fr t b).2=y at *
 generalize vI t b=g at *
 rcases hb with⟨h3,h4⟩|⟨h3,h4⟩
 ·refine Int.not_lt.mp λ hy=>?_
  have:0<=y * g:=Int.mul_nonneg_of_nonpos_of_nonpos (by lia) (by lia)
  lia
 ·refine Int.not_lt.mp λ hy=>?_
  have:y * g<=0:=Int.mul_nonpos_of_nonpos_of_nonneg (by lia) (by lia)
  lia
theorem PZ (t b:Int)(h:b≠0):ŏ (fr t b).1 (fr t b).2=1:=by
 have h1:=P0 t b
 have h2:=Mo t b
 have hg:=qI (t:=t) h
 have hn:=CN t b
 have e:ŏ ((fr t b).1 * vI t b) ((fr t b).2 * vI t b)=ŏ (fr t b).1 (fr t b).2 * (vI t b).natAbs:=Int.gcd_mul_right ..
 rw[h1,h2,hn]at e
 have:1 * ŏ t b=ŏ (fr t b).1 (fr t b).2 * ŏ t b:=by rw[Nat.one_mul];exact e
 exact(Nat.eq_of_mul_eq_mul_right hg this).symm
theorem Mp (hb:b≠0)(h1:1<=y)(h2:ŏ x y=1)(h3:x * b=t * y):fr t b=(x,y):=by
 have k1:=P1 t b hb
 have k2:=PZ t b hb
 have k3:=HZ t b hb
 have e:x * (fr t b).2=(fr t b).1 * y:=by
  refine AH hb ?_
  have e1:x * (fr t b).2 * b=x * b * (fr t b).2:=lq ..
  have e2:(fr t b).1 * y * b=(fr t b).1 * b * y:=lq ..
  rw[e1,e2,h3,k3,lq]
 generalize hx:(fr t b).1=u at *
 generalize hy:(fr t b).2=v at *
 have d1:y ∣ v:=by
  have:y ∣ x * v:=⟨u,by rw[e,oC]⟩
  exact HL this h2
 have d2:v ∣ y:=by
  have:v ∣ u * y:=⟨x,by rw[<-e,oC]⟩
  exact HL this k2
 have ev:v=y:=Int.dvd_antisymm (by lia) (by lia) d2 d1
 have eu:u=x:=by
  rw[ev]at e
  exact(AH (by lia) e).symm
 rw[show fr t b=(u,v) from by rw[<-hx,<-hy],eu,ev]
def low (top below:Int):Int × Int:=
 (((if below < 0 then -1 else 1) * top).fdiv ((ŏ top below:Nat):Int),((if below < 0 then -1 else 1) * below).fdiv ((ŏ top below:Nat):Int))
theorem Qx (t b:Int)(hb:b≠0):low t b=fr t b:=by
 unfold low fr vI
 by_cases h:b < 0
 ·rw[Ñ h,Ñ h]
  have hg:=qI (t:=t) hb
  have key:∀ a:Int,((ŏ t b:Nat):Int) ∣ a->(-1 * a).fdiv ((ŏ t b:Nat):Int)=a.fdiv (-((ŏ t b:Nat):Int)):=by
   rintro a ⟨c,hc⟩
   rw[hc]
   have e1:(-1 * (((ŏ t b:Nat):Int) * c))=(-c) * ((ŏ t b:Nat):Int):=by
    rw[aaF,G2,oC,aaF]
   have e2:(((ŏ t b:Nat):Int) * c)=(-c) * (-((ŏ t b:Nat):Int)):=by
    rw[Int.neg_mul_neg,oC]
   rw[e1,KU _ (by lia),e2,KU _ (by lia)]
  rw[key t (xa ..),key b (uZ ..)]
 ·rw[Ö h,Ö h,G2,G2]
theorem boot_abs:Ĭ "abs"=À (.builtin "abs"):=by decide +kernel
theorem boot_divmod:Ĭ "divmod"=À (.builtin "divmod"):=by decide +kernel
theorem boot_list:Ĭ "list"=À (.type "list"):=by decide +kernel
theorem boot_tuple:Ĭ "tuple"=À (.type "tuple"):=by decide +kernel
theorem boot_int:Ĭ "int"=À (.type "int"):=by decide +kernel
theorem boot_bool:Ĭ "bool"=À (.type "bool"):=by decide +kernel
theorem boot_str:Ĭ "str"=À (.type "str"):=by decide +kernel
theorem boot_isinstance:Ĭ "isinstance"=À (.builtin "isinstance"):=by decide +kernel
theorem boot_all:Ĭ "all"=À (.builtin "all"):=by decide +kernel
theorem kne:¬ (("cells":Str)="turn"):=by decide +kernel
theorem Z6:(10:Int) ^ (18:Int).toNat=1000000000000000000:=by decide +kernel
end Ro
namespace L2
open PySem PySem.Spec PyProof.Rows
def TB (K:É)(H:Hp)(x:V)(t:String):Prop:=match x with
 | .Ē=>t="NoneType"
 | .bl _=>t="bool"
 | .int _=>t="int"
 | .str _=>t="str"
 | .ref a=>(t="tuple"/\∃ xs,hZ K H a xs)∨(t="list"/\∃ xs,fZ K H a xs)∨(t="dict"/\((∃ kvs,H a=À (.dK kvs))∨∃ kvs,H a=À (.dT kvs)))
 | _=>False
def Z_ (K:É):Á V->Hp->VK->Prop:=λ xs H Q=>∃ (t:String) (x:V) (n:String) (b:Bool),xs=[x,.ty n]/\TB K H x t/\oJ K (.type t) (.type n)=À b/\Q (.bl b) H
theorem Hq:cq X (.builtin "isinstance") (Z_ X.K):=by
 intro Ä s σ H xs us Q I r h
 obtain⟨t,x,n,b,rfl,hd,e,q⟩:=h
 obtain⟨u,w',rfl,ru,xD⟩:=vals2 r
 obtain rfl:w'=bW n:=xD
 have fin:∀ tk,EP X Ä σ Q (.bool b) { s with toks:=tk }:=λ tk=>⟨.bl b,H,I.tok tk,rfl,q⟩
 cases x with
 | Ē=>cases (show t=_ from hd);exact oq I ru .Ē e fin
 | bl y=>cases (show t=_ from hd);exact oq I ru (.bl y) e fin
 | int y=>cases (show t=_ from hd);exact oq I ru (.int y) e fin
 | str y=>cases (show t=_ from hd);exact oq I ru (.str y) e fin
 | ref a=>
  cases ru
  rcases hd with⟨rfl,ys,q1⟩|⟨rfl,ys,q1⟩|⟨rfl,hk⟩
  ·obtain⟨its,_,p,_⟩:=I.tuple q1
   obtain⟨o,h1,h2,_⟩:=p
   exact ī Fh I.mz ⟨o,h1,h2⟩ e (λ z=>nomatch z) fin
  ·obtain⟨its,_,p,_⟩:=I.list q1
   obtain⟨o,h1,h2,_⟩:=p.isList
   exact ī se I.mz ⟨o,h1,h2⟩ e (λ z=>nomatch z) fin
  ·have z:∃ o,s.heap.get? a=À o/\o.ExactDict:=by
    rcases hk with⟨kvs,hk⟩|⟨kvs,hk⟩
    ·obtain⟨_,_,_,_,o,_,_,e,ex,_⟩:=I.ļ a _ hk
     exact⟨o,e,ex⟩
    ·obtain⟨_,_,_,_,o,_,_,e,ex,_⟩:=I.ļ a _ hk
     exact⟨o,e,ex⟩
   obtain⟨o,h1,h2⟩:=z
   exact ī sd I.mz ⟨o,h1,h2.1⟩ e (λ z=>nomatch z) fin
 | CA y=>exact ao hd
 | OO y=>exact ao hd
 | ty y=>exact ao hd
end L2
namespace Mm
open PySem L2
section
variable {T:Tx}{XE:j6}{X:Cx}{pos:mT}
def Ws (T:Tx)(XE:j6)(op:Á AV->S->R AV):Á V->Hp->VK->Prop:=λ vs H Q=>∃ ρ args s,SR T ρ s H/\Ħ T ρ H args vs/\Out T XE (rV T) ρ H (op args s) Q
def X7 {α:Type}(T:Tx)(XE:j6)(rl:Rl α V)(op:Á AV->S->R α):Á V->Hp->VK->Prop:=λ vs H Q=>∃ a ws ρ xs s,vs=[.ref a]/\SR T ρ s H/\(fZ T.K H a ws∨hZ T.K H a ws)/\Ħ T ρ H xs ws/\Out T XE rl ρ H (op xs s) Q
def zM (op:Á AV->S->R AV)(r:fY):Ev:=λ env s=>(r env s).bind op
def CL {α:Type}(op:Á AV->S->R α)(r:fY):En->S->R α:=λ env s=>(r env s).bind op
theorem TR (h:tE T XE (zM op r) σ H Q):WJ (Ws T XE op) (tP T XE r) σ H Q:=by
 obtain⟨ρ,env,s,hs,he,ho⟩:=h
 exact step hs he ho λ v s1 Ě H1 x _ u1 İ aM Ĝ Ā=>⟨Ě,v,s1,İ,Ĝ,Ā⟩
theorem TX (h:tG T XE rl (CL op r) σ H Q):WJ (X7 T XE rl op) (yF (tQ T XE r) BQ) σ H Q:=by
 obtain⟨ρ,env,s,hs,he,ho⟩:=h
 refine step hs he ho λ v s1 Ě H1 x _ u1 İ aM Ĝ Ā=>?_
 obtain⟨a,ws,rfl,q,k⟩:=Ĝ
 exact⟨a,ws,Ě,v,s1,rfl,İ,q,k,Ā⟩
theorem QC {id:String}{op:Á AV->S->R AV}{es:Á ń}{r:fY}(hc:cq X (.builtin id) (Ws T XE op)) (hm:X.mg x=none)(hv:Ĭ x=À (.builtin id)) (ha:PA X (e :: es) (tP T XE r)) (hg:Gl X x:=by rfl)(hn:x≠"__name__":=by decide)(mx:(x == ("__debug__":Str))=false:=by decide)
  (he:Ì (e :: es) X.env=(false,Ć e X.env) :: Ì es X.env:=by rfl) (fi:(Ĕ pos (Ì es X.env)).any (·.1)=false:=by rfl):PE X (.Call (.Name x p) (e :: es) [] pos) (tE T XE (zM op r)):=
 PE.imp (dn hc hg hm hv ha hn mx he fi) λ _ _ _ h=>TR h
theorem VP {α:Type}{rl:Rl α V}{id:String}{op:Á AV->S->R α}{r:fY}(hc:cq X (.type id) (X7 T XE rl op)) (hm:X.mg x=none)(hv:Ĭ x=À (.type id)) (ha:PE X e (tQ T XE r)) (hg:Gl X x:=by rfl)(hn:x≠"__name__":=by decide)(mx:(x == ("__debug__":Str))=false:=by decide)
  (he:Ì [e] X.env=(false,Ć e X.env) :: Ì [] X.env:=by rfl) (fi:(Ĕ pos (Ì [] X.env)).any (·.1)=false:=by rfl):PE X (.Call (.Name x p) [e] [] pos) (tG T XE rl (CL op r)):=
 PE.imp (Gq hc hg hm hv (aN ha eW he) hn mx he fi) λ _ _ _ h=>TX h
def yu:Á AV->S->R AV
 | [.int i],s=>.ok (.int (if i < 0 then -i else i)) s
 | _,_=>.bad
theorem Ħ.mE (h:Ħ T ρ H [v] xs):∃ x,xs=[x]/\VR T ρ H v x:=by
 obtain⟨x,ys,rfl,k1,k2⟩:=h.cons_inv
 cases k2.nil_inv
 exact⟨x,rfl,k1⟩
theorem Ħ.two_inv (h:Ħ T ρ H [v,w] xs):∃ x y,xs=[x,y]/\VR T ρ H v x/\VR T ρ H w y:=by
 obtain⟨x,ys,rfl,k1,k2⟩:=h.cons_inv
 obtain⟨y,rfl,k3⟩:=k2.mE
 exact⟨x,y,rfl,k1,k3⟩
theorem cAbs:cq X (.builtin "abs") (Ws T XE yu):=by
 rintro Ä s σ H xs us Q I r ⟨ρ,args,st,sr,va,ho⟩
 unfold yu at ho
 split at ho
 ·obtain⟨x,rfl,k⟩:=va.mE
  cases k.int_inv
  exact Ho Ä s σ H _ us Q I r ⟨_,rfl,ho.ķ sr dY⟩
 ·exact ho.elim
def V7:Á AV->S->R AV
 | [.int i,.int j],s=>.ok (.int (if j < i then j else i)) s
 | _,_=>.bad
def nW:Á AV->S->R AV
 | [.int i,.int j],s=>if 0 < j/\Pn j then .ok (.tup [.int (i / j),.int (i % j)]) s else .bad
 | _,_=>.bad
theorem L3:cq X (.builtin "divmod") (Ws T XE nW):=by
 rintro Ä s σ H xs us Q I r ⟨ρ,args,st,sr,va,ho⟩
 unfold nW at ho
 split at ho
 ·obtain⟨x,y,rfl,k,k2⟩:=va.two_inv
  cases k.int_inv
  cases k2.int_inv
  obtain⟨hl,ho⟩:=ho.ō
  exact zh Ä s σ H _ us Q I r ⟨_,_,rfl,⟨hl.1,hl.2.f⟩,λ p hp=>ho.tup sr hp (.cons dY (.one dY))⟩
 ·exact ho.elim
def O8:Á AV->S->R AV
 | [.int i],s=>.ok (.int i) s
 | [.bl b],s=>.ok (.int (if b then 1 else 0)) s
 | _,_=>.bad
def jP:Á AV->S->R AV
 | [.str z],s=>if z.length<=sizeLine then .ok (.int z.length) s else .bad
 | [v],s=>need (items v s) λ xs=>.ok (.int xs.length) s
 | _,_=>.bad
theorem YM (hK:X.K=T.K):cq X (.builtin "len") (Ws T XE jP):=by
 rintro Ä s σ H xs us Q I r ⟨ρ,args,st,sr,va,ho⟩
 have rest:∀ v,args=[v]->Out T XE (rV T) ρ H (need (items v st) λ xs=>.ok (.int xs.length) st) Q->Ù (Ý X.prog X.w) X.A (call (.builtin "len") us) (EP X Ä σ Q) X.xe s:=by
  rintro v rfl ho
  obtain⟨ys,e,ho⟩:=ho.ó
  obtain⟨x,rfl,k⟩:=va.mE
  obtain⟨a,vs,rfl,h1,k1⟩:=ou e sr k
  exact zi Ä s σ H _ us Q I r ⟨a,vs,rfl,by rw[hK];exact h1,by rw[<-k1.length];exact ho.ķ sr dY⟩
 unfold jP at ho
 split at ho
 ·obtain⟨x,rfl,k⟩:=va.mE
  cases k.str_inv
  obtain⟨hl,ho⟩:=ho.ō
  exact zj Ä s σ H _ us Q I r ⟨_,rfl,hl,ho.ķ sr dY⟩
 ·exact rest _ rfl ho
 ·exact ho.elim
def xk:Á AV->Ë (Á Bool)
 | []=>À []
 | .bl i :: r=>(xk r).map (i :: ·)
 | _ :: _=>none
theorem A1:∀ {l:Á AV}{ns:Á Bool},xk l=À ns->l=ns.map .bl
 | [],_,h=>by cases h;rfl
 | v :: r,ns,h=>by
  cases v<;>try cases h
  rename_i i
  cases e:xk r with
  | none=>rw[show xk (.bl i :: r)=(xk r).map (i :: ·) from rfl,e]at h;cases h
  | some q=>
   rw[show xk (.bl i :: r)=(xk r).map (i :: ·) from rfl,e]at h;cases h
   rw[A1 e];rfl
def J9 (xs:Á AV)(s:S):R AV:=need (xk xs) λ ns=>.ok (.bl (ns.all id)) s
def Z8 {α:Type}(T:Tx)(XE:j6)(rl:Rl α V)(op:Á AV->S->R α):Á V->Hp->VK->Prop:=λ vs H Q=>∃ a ws ρ xs s,vs=[.ref a]/\SR T ρ s H/\H a=À (.lst ws)/\Ħ T ρ H xs ws/\Out T XE rl ρ H (op xs s) Q
theorem TV (h:tG T XE rl (CL op r) σ H Q):WJ (Z8 T XE rl op) (yF (tL T XE r) BQ) σ H Q:=by
 obtain⟨ρ,env,s,hs,he,ho⟩:=h
 refine step hs he ho λ v s1 Ě H1 x _ u1 İ aM Ĝ Ā=>?_
 obtain⟨a,ws,rfl,_,_,q,k⟩:=Ĝ
 exact⟨a,ws,Ě,v,s1,rfl,İ,q,k,Ā⟩
theorem VO {α:Type}{rl:Rl α V}{id:String}{op:Á AV->S->R α}{r:fY}(hc:cq X (.builtin id) (Z8 T XE rl op)) (hm:X.mg x=none)(hv:Ĭ x=À (.builtin id)) (ha:PE X e (tL T XE r)) (hg:Gl X x:=by rfl)(hn:x≠"__name__":=by decide)(mx:(x == ("__debug__":Str))=false:=by decide)
  (he:Ì [e] X.env=(false,Ć e X.env) :: Ì [] X.env:=by rfl) (fi:(Ĕ pos (Ì [] X.env)).any (·.1)=false:=by rfl):PE X (.Call (.Name x p) [e] [] pos) (tG T XE rl (CL op r)):=
 PE.imp (dn hc hg hm hv (aN ha eW he) hn mx he fi) λ _ _ _ h=>TV h
theorem YL (hc:X.calm=true):cq X (.builtin "all") (Z8 T XE (rV T) J9):=by
 rintro Ä s σ H xs us Q I r ⟨a,ws,ρ,ys,st,e,sr,h1,k,ho⟩
 subst e
 obtain⟨ns,e,ho⟩:=ho.ó
 rw[A1 e]at k
 rw[k.DW]at h1
 exact FE hc Ä s σ H _ us Q I r ⟨a,ns,rfl,fZ.of h1,ho.ķ sr dt⟩
def rm (xs:Á AV)(s:S):R (Á AV):=.ok xs s
theorem TN (hK:X.K=T.K):cq X (.type "list") (X7 T XE (rL T) rm):=by
 rintro Ä s σ H xs us Q I r ⟨a,ws,ρ,ys,st,e,sr,h1,k,ho⟩
 subst e
 exact zk Ä s σ H _ us Q I r ⟨a,ws,rfl,by rw[hK];exact h1,λ l hl=>ho.lst sr hl k⟩
def sW (xs:Á AV)(s:S):R AV:=.ok (.tup xs) s
theorem Py (hK:X.K=T.K):cq X (.type "tuple") (X7 T XE (rV T) sW):=by
 rintro Ä s σ H xs us Q I r ⟨a,ws,ρ,ys,st,e,sr,h1,k,ho⟩
 subst e
 refine xl Ä s σ H _ us Q I r ⟨a,ws,rfl,?_⟩
 rcases h1 with h1|h1
 ·exact .inl ⟨by rw[hK];exact h1,λ l hl=>ho.tup sr hl k⟩
 ·exact .inr ⟨by rw[hK];exact h1,ho.ķ sr (jT h1 k)⟩
def E7 (v:AV)(s:S):Ë String:=match v with
 | .Ē=>À "NoneType"
 | .bl _=>À "bool"
 | .int _=>À "int"
 | .str _=>À "str"
 | .tup _=>À "tuple"
 | .sq _=>À "list"
 | .ref i=>match s[i]? with
  | some (.lst _)=>À "list"
  | some (.dK _)=>À "dict"
  | some (.dT _)=>À "dict"
  | _=>none
def fT:Á String:=["NoneType","bool","int","str","tuple","list","dict"]
def gn (t n:String):Bool:=t == n || (t == "bool" && n == "int")
theorem Qs (ht:t∈fT)(hn:n∈fT):oJ K (.type t) (.type n)=À (gn t n):=by
 simp only[fT,Þ,Ď,bP]at ht hn
 rcases ht with rfl|rfl|rfl|rfl|rfl|rfl|rfl<;>rcases hn with rfl|rfl|rfl|rfl|rfl|rfl|rfl<;>rfl
theorem Oj (h:E7 v s=À t)(sr:SR T ρ s H)(va:VR T ρ H v x):TB T.K H x t/\t∈fT:=by
 cases v with
 | Ē=>cases va.ja;cases h;exact⟨rfl,by simp[fT]⟩
 | bl c=>cases va.jv;cases h;exact⟨rfl,by simp[fT]⟩
 | int c=>cases va.int_inv;cases h;exact⟨rfl,by simp[fT]⟩
 | str c=>cases va.str_inv;cases h;exact⟨rfl,by simp[fT]⟩
 | tup c=>obtain⟨a,vs,rfl,h1,k⟩:=va.bV;cases h;exact⟨.inl ⟨rfl,vs,h1⟩,by simp[fT]⟩
 | sq c=>obtain⟨a,vs,rfl,h1,k⟩:=va.iL;cases h;exact⟨.inr (.inl ⟨rfl,vs,h1.GF⟩),by simp[fT]⟩
 | ref i=>
  have h:(match s[i]? with
  | some (.lst _)=>À "list"
  | some (.dK _)=>À "dict"
  | some (.dT _)=>À "dict"
  | _=>none)=À t:=h
  obtain⟨a,e1,rfl⟩:=va.fS
  split at h
  ·rename_i xs e
   cases h
   obtain⟨b,e2,vs,h1,_⟩:=sr.obj i _ e
   rw[e1]at e2;cases e2
   exact⟨.inr (.inl ⟨rfl,vs,fZ.of h1⟩),by simp[fT]⟩
  ·rename_i xs e
   cases h
   obtain⟨b,e2,vs,h1,_⟩:=sr.obj i _ e
   rw[e1]at e2;cases e2
   exact⟨.inr (.inr ⟨rfl,.inl ⟨vs,h1⟩⟩),by simp[fT]⟩
  ·rename_i xs e
   cases h
   obtain⟨b,e2,vs,h1,_⟩:=sr.obj i _ e
   rw[e1]at e2;cases e2
   exact⟨.inr (.inr ⟨rfl,.inr ⟨vs,h1⟩⟩),by simp[fT]⟩
  ·cases h
def dN (n:String)(v:AV)(s:S):R AV:=need (E7 v s) λ t=>.ok (.bl (gn t n)) s
theorem QN (hK:X.K=T.K)(hn:n∈fT)(hm:X.mg "isinstance"=none)(Zl:X.mg nm=none)(Zv:Ĭ nm=À (.type n)) (ha:PE X e (tE T XE m)) (hg:Gl X "isinstance":=by rfl)(Qb:Gl X nm:=by rfl)(hnn:nm≠"__name__":=by decide)(mx:(nm == ("__debug__":Str))=false:=by decide)
  (he:Ì [e,.Name nm p2] X.env=(false,Ć e X.env) :: Ì [.Name nm p2] X.env:=by rfl) (Ik:Ì [.Name nm p2] X.env=(false,Ć (.Name nm p2) X.env) :: Ì [] X.env:=by rfl) (fi:(Ĕ pos (Ì [.Name nm p2] X.env)).any (·.1)=false:=by rfl) :
  PE X (.Call (.Name "isinstance" p) [e,.Name nm p2] [] pos) (tE T XE (cj (dN n) m)):=
 PE.imp (dn Hq hg hm Ro.boot_isinstance (aN ha (aN (EU (v:=.ty n) Qb Zl Zv rfl hnn mx) eW Ik) he) (by decide) (by decide) he fi) λ σ H Q zz=>ŀ zz λ ρ env s hs he ho=>
  step hs he ho λ v s1 Ě H1 x _ u1 İ aM Ĝ Ā=>by
   obtain⟨t,e,Ā⟩:=Ā.ó
   obtain⟨h1,h2⟩:=Oj e İ Ĝ
   exact⟨t,x,n,_,rfl,by rw[hK];exact h1,Qs h2 hn,Ā.ķ İ dt⟩
def S_ (T:Tx)(XE:j6)(op:AV->Á AV->S->R AV):V->Á V->Hp->VK->Prop:=λ x xs H Q=>∃ ρ v vs s,SR T ρ s H/\VR T ρ H v x/\Ħ T ρ H vs xs/\Out T XE (rV T) ρ H (op v vs s) Q
def lI (n:String)(v:AV)(s:S):Ë Unit:=match v,n with
 | .str _,"str"=>À ()
 | .sq _,"list"=>À ()
 | .ref i,"list"=>(ï s i).map λ _=>()
 | .ref i,"dict"=>match s[i]? with
  | some (.dK _)=>À ()
  | some (.dT _)=>À ()
  | _=>none
 | _,_=>none
theorem qP (h:lI n v s=À ()) (sr:SR T ρ s H)(va:VR T ρ H v x):X9 T.K n x H:=by
 unfold lI at h
 split at h
 ·cases va.str_inv;rfl
 ·obtain⟨a,vs,rfl,h1,k⟩:=va.iL
  exact .inl ⟨rfl,vs,h1.GF⟩
 ·rename_i i
  cases e:ï s i with
  | none=>rw[e]at h;cases h
  | some xs=>
   obtain⟨a,vs,rfl,_,h1,k⟩:=sr.fj (ć e) va
   exact .inl ⟨rfl,vs,fZ.of h1⟩
 ·rename_i i
  obtain⟨a,e1,rfl⟩:=va.fS
  split at h
  ·rename_i xs e
   obtain⟨b,e2,vs,h1,_⟩:=sr.obj i _ e
   rw[e1]at e2;cases e2
   exact .inr (.inr (.inl ⟨rfl,.inl ⟨vs,h1⟩⟩))
  ·rename_i xs e
   obtain⟨b,e2,vs,h1,_⟩:=sr.obj i _ e
   rw[e1]at e2;cases e2
   exact .inr (.inr (.inl ⟨rfl,.inr ⟨vs,h1⟩⟩))
  ·cases h
 ·cases h
def pS (n:String)(op:AV->Á AV->S->R AV)(o:Ev)(r:fY):Ev:=λ env s=>(o env s).bind λ v s1=>need (lI n v s1) λ _=>(r env s1).bind λ vs s2=>op v vs s2
theorem QU (h:tE T XE (pS n op o r) σ H Q):tBM T.K n (S_ T XE op) (tE T XE o) (tP T XE r) σ H Q:=by
 obtain⟨ρ,env,s,hs,he,ho⟩:=h
 refine step hs he ho λ v s1 Ě H1 x _ u1 İ aM Ĝ Ā=>?_
 obtain⟨_,e,Ā⟩:=Ā.ó
 exact⟨qP e İ Ĝ,step İ aM Ā λ vs s2 bf H2 xs _ u2 fm oh iN ck=>⟨bf,v,vs,s2,fm,VR.up u2 Ĝ,iN,ck⟩⟩
theorem IT {n id:String}{es:Á ń}{op:AV->Á AV->S->R AV}{m:Ev}{r:fY}(hK:X.K=T.K)(pa:qm n)(slot:Slot n name id)(Ir:LN (.builtin id)=pure (.type "method_descriptor")) (hm:Fy X id (S_ T XE op)) (ho:PE X o (tE T XE m)) (ha:PA X (e :: es) (tP T XE r))
  (jL:Ŧ o name X.env (Ć o X.env)=Ć o X.env:=by rfl)
  (CQ:((Ĕ aw (Ì (e :: es) X.env)).all (λ x=>!x.1) && (gu aw (bG [] X.env)).all (λ x=>x.1.isSome)
   && decide ((e :: es).length+([]:Á iV).length+(if ([]:Á iV).isEmpty then 0 else 1) < 30))=true:=by rfl)
  (jM:(bR.endLine == aw.line)=true:=by rfl) (hs:Ì (e :: es) X.env=(false,Ć e X.env) :: Ì es X.env:=by rfl) (pM:(Ĕ aw (Ì es X.env)).any (·.1)=false:=by rfl) :
  PE X (.Call (.Attribute o name bR) (e :: es) [] aw) (tE T XE (pS n op m r)):=
 PE.imp (JB hK pa slot Ir hm ho ha jL CQ jM hs pM) λ _ _ _ h=>QU h
def yo (n:String)(op:AV->Á AV->S->R AV)(o:Ev):Ev:=λ env s=>(o env s).bind λ v s1=>need (lI n v s1) λ _=>op v [] s1
theorem EI {n id:String}{op:AV->Á AV->S->R AV}{m:Ev}(hK:X.K=T.K)(pa:qm n)(slot:Slot n name id)(Ir:LN (.builtin id)=pure (.type "method_descriptor")) (hm:Fy X id (S_ T XE op)) (ho:PE X o (tE T XE m))
  (jL:Ŧ o name X.env (Ć o X.env)=Ć o X.env:=by rfl) (jM:(bR.endLine == aw.line)=true:=by rfl):PE X (.Call (.Attribute o name bR) [] [] aw) (tE T XE (yo n op m)):=
 PE.imp (Dj pa slot Ir hm ho jL jM) λ σ H Q zz=>ŀ zz λ ρ env s hs he ho=>step hs he ho λ v s1 Ě H1 x _ u1 İ aM Ĝ Ā=>by
  obtain⟨_,e,Ā⟩:=Ā.ó
  exact⟨by rw[hK];exact qP e İ Ĝ,Ě,v,[],s1,İ,Ĝ,.nil,Ā⟩
theorem Out.aah (ho:Out T XE rl ρ H (.ok v (s.set i (.lst ys))) Q) (sr:SR T ρ s H)(ea:ρ[i]? = À a)(h1:H a=À (.lst vs)) (k:Ħ T ρ H ys ws)(hx:rl.r H ρ (upd H a (.lst ws)) v x):Q x (upd H a (.lst ws)):=by
 have up:Up ρ H ρ (upd H a (.lst ws)):=sr.wH ea h1 (λ _ z=>nomatch z) (λ _ _ z=>nomatch z)
 exact ho ρ _ x up (sr.set ea up (OR.lst û (k.up up))) hx
theorem Out.Kg (ho:Out T XE (rV T) ρ H (.ok v (s.set i (.lst ys))) Q) (sr:SR T ρ s H)(ea:ρ[i]? = À a)(h1:H a=À (.lst vs)) (k:Ħ T ρ H ys ws)(hx:VR T ρ (upd H a (.lst ws)) v x):Q x (upd H a (.lst ws)):=ho.aah sr ea h1 k hx
def Ż:AV->Á AV->S->R AV
 | .ref i,[w],s=>need (ï s i) λ xs=>if xs.length < sizeLine then .ok .Ē (s.set i (.lst (xs++[w]))) else .bad
 | _,_,_=>.bad
theorem L8:Fy X "list.append" (S_ T XE Ż):=by
 rintro Ä s σ H x xs v us Q I rx rv ⟨ρ,a,vs,st,sr,va,vb,ho⟩
 unfold Ż at ho
 split at ho
 ·obtain⟨ys,e,ho⟩:=ho.ó
  obtain⟨hl,ho⟩:=ho.ō
  obtain⟨p,ws,rfl,ea,h1,k⟩:=sr.fj (ć e) va
  obtain⟨y,rfl,k2⟩:=vb.mE
  exact yq Ä s σ H _ _ v us Q I rx rv ⟨p,ws,y,rfl,rfl,h1,by rw[<-k.length];exact hl,ho.Kg sr ea h1 (k.append (.one k2)) sZ⟩
 ·exact ho.elim
def lK:AV->Á AV->S->R AV
 | .ref i,[],s=>need (ï s i) λ xs=>.ok .Ē (s.set i (.lst xs.reverse))
 | _,_,_=>.bad
theorem HB:Fy X "list.reverse" (S_ T XE lK):=by
 rintro Ä s σ H x xs v us Q I rx rv ⟨ρ,a,vs,st,sr,va,vb,ho⟩
 unfold lK at ho
 split at ho
 ·obtain⟨ys,e,ho⟩:=ho.ó
  obtain⟨p,ws,rfl,ea,h1,k⟩:=sr.fj (ć e) va
  cases vb.nil_inv
  exact C4 Ä s σ H _ _ v us Q I rx rv ⟨p,ws,rfl,rfl,h1,ho.Kg sr ea h1 k.reverse sZ⟩
 ·exact ho.elim
def yw:AV->Á AV->S->R AV
 | .ref i,[.int j],s=>need (ï s i) λ xs=>if 0<=j/\j < xs.length then need xs[j.toNat]? λ y=>.ok y (s.set i (.lst (xs.eraseIdx j.toNat))) else .bad
 | _,_,_=>.bad
theorem Ħ.erase:∀ {l:Á AV}{xs:Á V}(i:Nat),Ħ T ρ H l xs->Ħ T ρ H (l.eraseIdx i) (xs.eraseIdx i)
 | [],_,_,h=>by cases h.nil_inv;exact .nil
 | _ :: _,_,0,h=>by obtain⟨x,ys,rfl,_,k⟩:=h.cons_inv;exact k
 | _ :: _,_,i+1,h=>by obtain⟨x,ys,rfl,k1,k⟩:=h.cons_inv;exact .cons k1 (Ħ.erase i k)
theorem UC:Fy X "list.pop" (S_ T XE yw):=by
 rintro Ä s σ H x xs v us Q I rx rv ⟨ρ,a,vs,st,sr,va,vb,ho⟩
 unfold yw at ho
 split at ho
 ·rename_i i0 j
  obtain⟨ys,e,ho⟩:=ho.ó
  obtain⟨hj,ho⟩:=ho.ō
  obtain⟨y,ey,ho⟩:=ho.ó
  obtain⟨p,ws,rfl,ea,h1,k⟩:=sr.fj (ć e) va
  obtain⟨z,rfl,k2⟩:=vb.mE
  cases k2.int_inv
  obtain⟨y',ey',ky⟩:=k.get ey
  have hl:=k.length
  obtain⟨its,_,_,hz⟩:=I.list (fZ.of h1)
  have h63:=nQ
  have up:Up ρ H ρ (upd H p (.lst (ws.eraseIdx j.toNat))):=sr.wH ea h1 (λ _ z=>nomatch z) (λ _ _ z=>nomatch z)
  refine Ji Ä s σ H _ _ v us Q I rx rv ⟨p,ws,j,j.toNat,y',rfl,rfl,h1,by lia,by lia,Vj hj.1 (by rw[<-hl];exact hj.2),ey',ho.Kg sr ea h1 (k.erase _) (VR.up up ky)⟩
 ·exact ho.elim
section
variable {κ:Type} [n9 κ]
def Ů:Á (κ × AV)->κ->Ë AV
 | [],_=>none
 | p :: r,k=>if p.1=k then À p.2 else Ů r k
def mF (kvs:Á (κ × AV)) (k:κ)(v:AV):Á (κ × AV):=
 if (kvs.any λ kv=>decide (kv.1=k))=true then kvs.map (λ kv=>if kv.1=k then (kv.1,v) else kv) else kvs++[(k,v)]
theorem cV (k:κ):∀ {kvs:Á (κ × AV)}{ks:Á (κ × V)},kvs.map (·.1)=ks.map (·.1)->Ħ T ρ H (kvs.map (·.2)) (ks.map (·.2))->(∀ v,Ů kvs k=À v->∃ x,gP ks k=À x/\VR T ρ H v x)/\(Ů kvs k=none->gP ks k=none)
 | [],ks,e,h=>by
  cases ks with
  | nil=>exact⟨(λ v z=>nomatch z),λ _=>rfl⟩
  | cons a r=>cases e
 | p :: r,ks,e,h=>by
  cases ks with
  | nil=>cases e
  | cons q t=>
   rw[Ó,Ó,Ŵ]at e
   rw[Ó,Ó]at h
   obtain⟨x,ys,e2,k1,k2⟩:=h.cons_inv
   rw[Ŵ]at e2
   obtain⟨ih1,ih2⟩:=cV k e.2 (e2.2 ▸ k2)
   unfold Ů
   by_cases hp:p.1=k
   ·rw[Ñ hp,lP (e.1 ▸ hp)]
    refine⟨λ v z=>?_,λ z=>nomatch z⟩
    cases z
    exact⟨q.2,rfl,e2.1 ▸ k1⟩
   ·rw[Ö hp,lO (λ z=>hp (e.1.trans z))]
    exact⟨ih1,ih2⟩
theorem uT (k:κ)(kv:VR T ρ H v x)(e:kvs.map (·.1)=ks.map (·.1)) (h:Ħ T ρ H (kvs.map (·.2)) (ks.map (·.2))) :
  (mF kvs k v).map (·.1)=(putK ks k x).map (·.1)/\Ħ T ρ H ((mF kvs k v).map (·.2)) ((putK ks k x).map (·.2)):=by
 have an:∀ {kvs:Á (κ × AV)}{ks:Á (κ × V)},kvs.map (·.1)=ks.map (·.1)->(kvs.any λ kv=>decide (kv.1=k))=(ks.any λ kv=>decide (kv.1=k)):=by
  intro kvs
  induction kvs with
  | nil=>intro ks e;cases ks with|nil=>rfl|cons a r=>cases e
  | cons p r ih=>
   intro ks e
   cases ks with
   | nil=>cases e
   | cons q t=>
    rw[Ó,Ó,Ŵ]at e
    rw[ax,ax,ih e.2,e.1]
 unfold mF putK
 rw[an e]
 by_cases ha:(ks.any λ kv=>decide (kv.1=k))=true
 ·rw[Ñ ha,Ñ ha]
  clear ha an
  induction kvs generalizing ks with
  | nil=>cases ks with|nil=>exact⟨rfl,.nil⟩|cons a r=>cases e
  | cons p r ih=>
   cases ks with
   | nil=>cases e
   | cons q t=>
    rw[Ó,Ó,Ŵ]at e
    rw[Ó,Ó]at h
    obtain⟨y,ys,e2,k1,k2⟩:=h.cons_inv
    rw[Ŵ]at e2
    obtain⟨i1,i2⟩:=ih e.2 (e2.2 ▸ k2)
    simp only[Ó,e.1]
    by_cases hq:q.1=k
    ·rw[Ñ hq,Ñ hq,i1];exact⟨rfl,.cons kv i2⟩
    ·rw[Ö hq,Ö hq,i1,e.1];exact⟨rfl,.cons (e2.1 ▸ k1) i2⟩
 ·rw[Ö ha,Ö ha,Š,Š,Š,Š,e]
  exact⟨rfl,h.append (.one kv)⟩
end
def fR:AV->Ë Key
 | .int i=>À (.inl i)
 | .str x=>À (.inr x)
 | _=>none
theorem g8 (h:fR v=À k)(va:VR T ρ H v x):x=kV k:=by
 cases v<;>try cases h
 ·cases va.int_inv;rfl
 ·cases va.str_inv;rfl
def j8 (s:S)(i:Nat):Ë (Á (Key × AV)):=match s[i]? with
 | some (.dK xs)=>À xs
 | _=>none
theorem i6 (h:j8 s i=À xs):s[i]? = À (.dK xs):=by
 unfold j8 at h
 split at h
 ·cases h;assumption
 ·cases h
theorem jx (h:s[i]? = À (.dK xs)):j8 s i=À xs:=by unfold j8;rw[h]
def Ļ:AV->AV->S->R AV
 | .ref i,y,s=>need (j8 s i) λ kvs=>need (fR y) λ k=>need (Ů kvs k) λ v=>.ok v s
 | _,_,_=>.bad
theorem MT (hu:X.A.units+1 < cLine)(ho:PE X o (tE T XE m)) (hi:PE X i (tE T XE n)) (hs:Pp i:=by exact λ _ _=>rfl):PE X (.Subscript o i pos) (tE T XE (Û Ļ m n)):=
 PE.imp (Nz hu ho hi hs) λ σ H Q zz=>ŀ zz λ ρ env s hs he ho=>step hs he ho λ v s1 Ě H1 x _ u1 İ aM Ĝ Ā=>step İ aM Ā λ w s2 bf H2 y _ u2 fm oh iN ck=>by
  have Ĝ:VR T bf H2 v x:=VR.up u2 Ĝ
  cases v with
  | ref i=>
   obtain⟨kvs,e1,ck⟩:=ck.ó
   obtain⟨k,e2,ck⟩:=ck.ó
   obtain⟨z,e3,ck⟩:=ck.ó
   obtain⟨a,ks,rfl,ea,h1,q1,q2⟩:=fm.zm (i6 e1) Ĝ
   obtain⟨x',ex,kx⟩:=(cV k q1 q2).1 z e3
   exact⟨a,x',rfl,by rw[g8 e2 iN,<-ex];exact j9.k h1,ck.ķ fm kx⟩
  | _=>exact ck.elim
def rg:AV->AV->S->R AV
 | y,.ref i,s=>need (j8 s i) λ kvs=>need (fR y) λ k=>.ok (.bl (Ů kvs k).isSome) s
 | _,_,_=>.bad
def wa:AV->AV->S->R AV
 | y,.ref i,s=>need (j8 s i) λ kvs=>need (fR y) λ k=>.ok (.bl (!(Ů kvs k).isSome)) s
 | _,_,_=>.bad
theorem CG {op:AV->AV->S->R AV}{b:Bool->Bool}(Ip:∀ y w s,op y w s=(match w with|.ref i=>need (j8 s i) λ kvs=>need (fR y) λ k=>.ok (.bl (b (Ů kvs k).isSome)) s|_=>.bad)) {m n:Ev}{σ:St}{Q:VK}(h:tE T XE (Û op m n) σ H Q) :
  tE T XE m σ H λ y H1=>tE T XE n σ H1 λ x H2=>∃ a o,x=.ref a/\j9 H2 a y o/\Q (.bl (b o.isSome)) H2:=by
 obtain⟨ρ,env,s,hs,he,ho⟩:=h
 refine step hs he ho λ v s1 Ě H1 x _ u1 İ aM Ĝ Ā=>step İ aM Ā λ w s2 bf H2 y _ u2 fm oh iN ck=>?_
 rw[Ip]at ck
 have iN:VR T bf H2 w y:=iN
 cases w with
 | ref i=>
  obtain⟨kvs,e1,ck⟩:=ck.ó
  obtain⟨k,e2,ck⟩:=ck.ó
  obtain⟨a,ks,rfl,ea,h1,q1,q2⟩:=fm.zm (i6 e1) iN
  have vk:=g8 e2 (VR.up u2 Ĝ)
  refine⟨a,gP ks k,rfl,by rw[vk];exact j9.k h1,?_⟩
  have:(gP ks k).isSome=(Ů kvs k).isSome:=by
   cases ev:Ů kvs k with
   | none=>rw[(cV k q1 q2).2 ev];rfl
   | some z=>obtain⟨x',ex,_⟩:=(cV k q1 q2).1 z ev;rw[ex];rfl
  rw[this]
  exact ck.ķ fm dt
 | _=>exact ck.elim
theorem QG (hu:X.A.units+1 < cLine)(hi:PE X i (tE T XE m)) (ho:PE X o (tE T XE n)) (h1:ae .In o=false:=by rfl):PE X (.Compare i [.In] [o] pos) (tE T XE (Û rg m n)):=
 PE.imp (Ru (Di hu hi ho) h1) λ σ H Q h=>CG (b:=id) (λ y w s=>by cases w<;>rfl) h
theorem RO (hu:X.A.units+1 < cLine)(hi:PE X i (tE T XE m)) (ho:PE X o (tE T XE n)) (h1:ae .In o=false:=by rfl):PT X (.Compare i [.In] [o] pos) (lj T XE (cB (Û rg m n))):=
 PT.imp (Dn (Di hu hi ho) h1) λ σ H Q h=>CG (b:=id) (λ y w s=>by cases w<;>rfl) (E6 h)
theorem NU (hu:X.A.units+1 < cLine)(hi:PE X i (tE T XE m)) (ho:PE X o (tE T XE n)) (h1:ae .NotIn o=false:=by rfl):PT X (.Compare i [.NotIn] [o] pos) (lj T XE (cB (Û wa m n))):=
 PT.imp (Dn (Gp hu hi ho) h1) λ σ H Q h=>CG (b:=not) (λ y w s=>by cases w<;>rfl) (E6 h)
def putD (v d y:AV)(env:En)(s:S):RS:=match d with
 | .ref i=>match j8 s i,fR y with
  | some kvs,À k=>if kvs.length < sizeLine then .nx env (s.set i (.dK (mF kvs k v))) else .bad
  | _,_=>.bad
 | _=>.bad
def rq (d y v:Ev):Ms:=λ env s=>(v env s).cu λ a s1=>(d env s1).cu λ b s2=>(y env s2).cu λ c s3=>putD a b c env s3
theorem Nb (hu:X.A.units+1 < cLine)(ho:PE X o (tE T XE m)) (hi:PE X i (tE T XE n)) (hv:PE X value (tE T XE r)) (hs:eB value (À (.Subscript o i pos')) pos.line X.env=pure false:=by rfl):PS X (.Assign [.Subscript o i pos'] value pos) (tS T XE (rq m n r)):=
 PS.imp (EY hu ho hi hv hs) λ D σ H zz=>mR zz λ ρ env s hs he ho=>dP hs he ho λ v s1 Ě H1 x _ u1 İ aM Ĝ Ā=>dP İ aM Ā λ d s2 bf H2 y _ u2 fm oh iN ck=>dP fm oh ck λ c s3 oz H3 z _ u3 qi zv W4 lg=>by
  have iN:VR T oz H3 d y:=VR.up u3 iN
  have Ĝ:VR T oz H3 v x:=VR.up (u2.trans u3) Ĝ
  unfold putD at lg
  split at lg
  ·split at lg
   ·rename_i i kvs k e1 e2
    obtain⟨hl,lg⟩:=lg.ō
    obtain⟨a,ks,rfl,ea,h1,q1,q2⟩:=qi.zm (i6 e1) iN
    have Io:kvs.length=ks.length:=by have:=ĵ bS q1;simpa using this
    refine⟨a,_,rfl,by rw[g8 e2 W4];exact xj.k h1 (by rw[<-Io];exact hl),?_⟩
    obtain⟨p1,p2⟩:=uT k Ĝ q1 q2
    have up:Up oz H3 oz (upd H3 a (.dK (putK ks k x))):=qi.wH ea h1 (λ _ z=>nomatch z) (λ _ _ z=>nomatch z)
    exact lg oz _ σ up (qi.set ea up ⟨_,û,p1,p2.up up⟩) (zv.up up)
   ·exact lg.elim
  ·exact lg.elim
def Ju (d y z:AV)(s:S):R AV:=match d with
 | .ref i=>need (j8 s i) λ kvs=>need (fR y) λ k=>.ok ((Ů kvs k).getD z) s
 | _=>.bad
def vW (d y z:Ev):Ev:=λ env s=>(d env s).bind λ a s1=>need (lI "dict" a s1) λ _=>(y env s1).bind λ b s2=>(z env s2).bind λ c s3=>Ju a b c s3
theorem Iy (h:lI "dict" v s=À ()) (sr:SR T ρ s H)(va:VR T ρ H v x):∃ a,x=.ref a/\Xu H a:=by
 have:=qP h sr va
 cases v with
 | ref i=>
  obtain⟨a,e,rfl⟩:=va.fS
  refine⟨a,rfl,?_⟩
  rcases this with⟨z,_⟩|⟨z,_⟩|⟨_,⟨kvs,z⟩|⟨kvs,z⟩⟩|⟨z,_⟩
  ·exact absurd z (by decide)
  ·exact absurd z (by decide)
  ·exact .inl ⟨kvs,.inl z⟩
  ·exact .inr ⟨kvs,.inl z⟩
  ·exact absurd z (by decide)
 | _=>cases h
theorem MW (hu:X.A.units+1 < cLine)(ho:PE X o (tE T XE m)) (he:PE X e (tE T XE n)) (hf:PE X f (tE T XE r)) (q:M2 X o "get" bR e f aw:=by exact⟨rfl,rfl,rfl,rfl⟩):PE X (.Call (.Attribute o "get" bR) [e,f] [] aw) (tE T XE (vW m n r)):=
 PE.imp (JE hu ho he hf q) λ σ H Q zz=>ŀ zz λ ρ env s hs he ho=>step hs he ho λ d s1 Ě H1 x _ u1 İ aM Ĝ Ā=>by
  obtain⟨_,e0,Ā⟩:=Ā.ó
  obtain⟨a,rfl,hd⟩:=Iy e0 İ Ĝ
  refine⟨a,rfl,hd,step İ aM Ā λ w s2 bf H2 y _ u2 fm oh iN ck=>step fm oh ck λ z s3 oz H3 z' _ u3 qi zv W4 lg=>?_⟩
  have Ĝ:VR T oz H3 d (.ref a):=VR.up (u2.trans u3) Ĝ
  cases d with
  | ref i=>
   obtain⟨kvs,e1,lg⟩:=lg.ó
   obtain⟨k,e2,lg⟩:=lg.ó
   obtain⟨b,ks,eb,ea,h1,q1,q2⟩:=qi.zm (i6 e1) Ĝ
   cases eb
   refine⟨gP ks k,by rw[g8 e2 (VR.up u3 iN)];exact j9.k h1,?_⟩
   cases ev:Ů kvs k with
   | none=>rw[(cV k q1 q2).2 ev];rw[ev]at lg;exact lg.ķ qi W4
   | some v=>obtain⟨x',ex,kx⟩:=(cV k q1 q2).1 v ev;rw[ex];rw[ev]at lg;exact lg.ķ qi kx
  | _=>exact lg.elim
def CW:Ev:=λ _ s=>.ok (.ref s.length) (s++[.dK []])
theorem VE:PE X (.Dict [] [] pos) (tE T XE CW):=
 PE.imp JF λ σ H Q ⟨ρ,env,s,hs,he,ho⟩ p hp=>ho.alloc hs hp ⟨[],û,rfl,.nil⟩
def EX:Á (Ev × Ev)->En->S->R (Á (AV × AV))
 | [],_,s=>.ok [] s
 | (a,b) :: r,env,s=>(a env s).bind λ v s1=>(b env s1).bind λ w s2=>(EX r env s2).bind λ l s3=>.ok ((v,w) :: l) s3
def qQ:Á (AV × AV)->Ë (Á (Key × AV))
 | []=>À []
 | (a,b) :: r=>(fR a).bind λ k=>(qQ r).map ((k,b) :: ·)
def zN (kvs more:Á (Key × AV)):Á (Key × AV):=more.foldl (λ acc kv=>mF acc kv.1 kv.2) kvs
def gp (l:Á (Ev × Ev)):Ev:=λ env s=>(EX l env s).bind λ ps s1=>need (qQ ps) λ kvs=>if kvs.length<=15 then .ok (.ref s1.length) (s1++[.dK (zN [] kvs)]) else .bad
def VRp (T:Tx)(ρ:Á Addr)(H:Hp)(ps:Á (AV × AV)) (xs:Á (V × V)):Prop:=Ħ T ρ H (ps.map (·.1)) (xs.map (·.1))/\Ħ T ρ H (ps.map (·.2)) (xs.map (·.2))
theorem bind_assoc (r:R α)(f:α->S->R β)(g:β->S->R γ):(r.bind f).bind g=r.bind λ a s=>(f a s).bind g:=by cases r<;>rfl
theorem BH:∀ (l:Á (Ev × Ev)) {ρ:Á Addr}{s:S}{H:Hp}{k:Á (AV × AV)->S->R α}{F:Á (V × V)->Hp->Prop},SR T ρ s H->ER T ρ H env σ->Out T XE rl ρ H ((EX l env s).bind k) Q->
  (∀ ps s1 Ě H1 xs,EX l env s=.ok ps s1->Up ρ H Ě H1->SR T Ě s1 H1->ER T Ě H1 env σ->VRp T Ě H1 ps xs->F xs H1)->Ae (l.map λ p=>(tE T XE p.1,tE T XE p.2)) σ H F
 | [],ρ,s,H,k,F,hs,he,ho,hk=>hk [] s ρ H [] rfl .refl hs he ⟨.nil,.nil⟩
 | (a,b) :: r,ρ,s,H,k,F,hs,he,ho,hk=>by
  have e:(EX ((a,b) :: r) env s).bind k=(a env s).bind λ v s1=>(b env s1).bind λ w s2=>(EX r env s2).bind λ l s3=>k ((v,w) :: l) s3:=by
   show((a env s).bind λ v s1=>(b env s1).bind λ w s2=>(EX r env s2).bind λ l s3=>.ok ((v,w) :: l) s3).bind k=_
   rw[bind_assoc]
   congr 1;funext v s1
   rw[bind_assoc]
   congr 1;funext w s2
   rw[bind_assoc]
   rfl
  rw[e]at ho
  refine step hs he ho λ v s1 Ě H1 x q1 u1 İ aM Ĝ Ā=>step İ aM Ā λ w s2 bf H2 y q2 u2 fm oh iN ck=>?_
  refine BH r fm oh ck λ ps s3 oz H3 xs q3 u3 qi zv vp=>hk ((v,w) :: ps) s3 oz H3 _ (by have q1:a env s=.ok v s1:=q1;have q2:b env s1=.ok w s2:=q2;show((a env s).bind λ v s1=>(b env s1).bind λ w s2=>(EX r env s2).bind λ l s3=>.ok ((v,w) :: l) s3)=_;rw[q1,ą,q2,ą,q3,ą]) ((u1.trans u2).trans u3) qi zv ⟨?_,?_⟩
  ·exact .cons (VR.up (u2.trans u3) Ĝ) vp.1
  ·exact .cons (VR.up u3 iN) vp.2
theorem yg:∀ {ps:Á (AV × AV)}{kvs:Á (Key × AV)}{xs:Á (V × V)},qQ ps=À kvs->VRp T ρ H ps xs->∃ ks:Á (Key × V),xs=ks.map (λ kv=>(kV kv.1,kv.2))/\kvs.map (·.1)=ks.map (·.1)/\Ħ T ρ H (kvs.map (·.2)) (ks.map (·.2))
 | [],kvs,xs,h,vp=>by
  cases h
  have:=vp.1.nil_inv
  cases xs with
  | nil=>exact⟨[],rfl,rfl,.nil⟩
  | cons a r=>cases this
 | (a,b) :: r,kvs,xs,h,vp=>by
  have h:(fR a).bind (λ k=>(qQ r).map ((k,b) :: ·))=À kvs:=h
  cases e1:fR a with
  | none=>rw[e1]at h;cases h
  | some k=>
   cases e2:qQ r with
   | none=>rw[e1,e2]at h;cases h
   | some q=>
    rw[e1,e2]at h
    cases h
    cases xs with
    | nil=>obtain⟨_,_,z,_⟩:=vp.1.cons_inv;cases z
    | cons p xs=>
     obtain⟨x1,y1,z1,k1,k2⟩:=vp.1.cons_inv
     obtain⟨x2,y2,z2,k3,k4⟩:=vp.2.cons_inv
     rw[Ó,Ŵ]at z1 z2
     obtain⟨ks,rfl,q1,q2⟩:=yg e2 ⟨z1.2 ▸ k2,z2.2 ▸ k4⟩
     refine⟨(k,p.2) :: ks,?_,by rw[Ó,Ó,q1],.cons (z2.1 ▸ k3) q2⟩
     rw[Ó,<-g8 e1 (z1.1 ▸ k1)]
theorem yp:∀ {more:Á (Key × AV)}{mo:Á (Key × V)}{kvs:Á (Key × AV)}{ks:Á (Key × V)},more.map (·.1)=mo.map (·.1)->Ħ T ρ H (more.map (·.2)) (mo.map (·.2))->kvs.map (·.1)=ks.map (·.1)->Ħ T ρ H (kvs.map (·.2)) (ks.map (·.2))->
  (zN kvs more).map (·.1)=(gM ks mo).map (·.1)/\Ħ T ρ H ((zN kvs more).map (·.2)) ((gM ks mo).map (·.2))
 | [],mo,kvs,ks,e,h,e2,h2=>by
  cases mo with
  | nil=>exact⟨e2,h2⟩
  | cons a r=>cases e
 | p :: r,mo,kvs,ks,e,h,e2,h2=>by
  cases mo with
  | nil=>cases e
  | cons q t=>
   rw[Ó,Ó,Ŵ]at e
   rw[Ó,Ó]at h
   obtain⟨y,ys,z,k1,k2⟩:=h.cons_inv
   rw[Ŵ]at z
   obtain⟨p1,p2⟩:=uT p.1 (z.1 ▸ k1) e2 h2
   have:=yp (kvs:=mF kvs p.1 p.2) (ks:=putK ks q.1 q.2) e.2 (z.2 ▸ k2) (by rw[<-e.1];exact p1) (by rw[<-e.1];exact p2)
   exact this
theorem MU (h:OG X pos keys values (l.map λ p=>(tE T XE p.1,tE T XE p.2))) (Ii:keys.all (·.isSome)=true:=by rfl) (hl:keys.length=values.length:=by rfl)(h0:keys≠[]:=by decide)(SX:keys.length<=15:=by decide):PE X (.Dict keys values pos) (tE T XE (gp l)):=
 PE.imp (NA h Ii hl h0 SX) λ σ H Q ⟨ρ,env,s,hs,he,ho⟩ p hp=>by
  have u0:=hs.dQ (o:=.dK []) hp
  have n0:=hs.out hp
  refine BH l (hs.new hp) (he.up u0) (Out.up u0 ho) λ ps s1 Ě H1 xs q0 u1 İ aM vp=>?_
  unfold gp at ho
  rw[q0,ą]at ho
  obtain⟨kvs,e1,ho⟩:=ho.ó
  obtain⟨hl,ho⟩:=ho.ō
  obtain⟨ks,rfl,q1,q2⟩:=yg e1 vp
  have hd:=u1.fr p _ û n0
  have Io:kvs.length=ks.length:=by have:=ĵ bS q1;simpa using this
  refine⟨hd.1,ks,rfl,by rw[<-Io];exact hl,?_⟩
  obtain⟨m1,m2⟩:=yp q1 q2 (kvs:=[]) (ks:=[]) rfl .nil
  have g:Gr Ě H1 (Ě++[p]) (upd H1 p (.dK (gM [] ks))):=⟨fW _ _,λ b ys e=>by rw[ã (vY e hd.1 (by intro z;cases z))];exact e,λ b o v e=>by rw[ã (vY e hd.1 (by intro z;cases z))];exact e⟩
  have g1:Gr Ě H1 Ě (upd H1 p (.dK (gM [] ks))):=⟨aR,g.mJ,g.kS⟩
  have s2:SR T Ě s1 (upd H1 p (.dK (gM [] ks))):=İ.up g1 λ a ha=>ã λ z=>hd.2 (z ▸ ha)
  have s3:SR T (Ě++[p]) (s1++[.dK (zN [] kvs)]) (upd H1 p (.dK (gM [] ks))):=s2.add hd.2 ⟨_,û,m1,m2.gr g⟩
  have u2:Up ρ H (Ě++[p]) (upd H1 p (.dK (gM [] ks))):=((u0.trans u1).mod hp hd.2).add hp
  exact ho _ _ _ u2 s3 (p_ (T:=T) (H:=upd H1 p (.dK (gM [] ks))) (by rw[ß (by rw[İ.len];exact Ï _),İ.len,u7];rfl))
theorem Na:OG X pos [] [] (([]:Á (Ev × Ev)).map λ p=>(tE T XE p.1,tE T XE p.2)):=NN
theorem Jc (hk:PE X k (tE T XE a)) (hv:PE X v (tE T XE b)) (hr:OG X pos ks vs (l.map λ p=>(tE T XE p.1,tE T XE p.2))):OG X pos (À k :: ks) (v :: vs) (((a,b) :: l).map λ p=>(tE T XE p.1,tE T XE p.2)):=JV hk hv hr
def nH (o i:Ev):Mt:=λ v env s=>(o env s).cu λ a s1=>(i env s1).cu λ b s2=>match a,b with
 | .ref k,.int j=>match ï s2 k with
  | some xs=>match Ez xs.length j with
   | some n=>.nx env (s2.set k (.lst (xs.set n v)))
   | none=>.bad
  | none=>.bad
 | _,_=>.bad
theorem M6 (ho:PE X o (tE T XE m)) (hi:PE X i (tE T XE n))
  (ha:∀ v,lu (.Subscript o i pos) X.env v=(do
   let ov <-cR [v] (Ć o X.env)
   let iv <-cR [v,ov] (Ć i X.env)
   kh pos
   cR [v,ov,iv] (LL ov iv v)
   release [v,ov,iv] []):=by intro _;rfl):PG X (.Subscript o i pos) (tT T XE (nH m n)):=
 PG.imp (JM ho hi set_list ha) λ x σ H Q ⟨ρ,env,s,v,hs,he,vr,ho⟩=>by
  refine dP hs he ho λ a s1 Ě H1 y _ u1 İ aM Ĝ Ā=>dP İ aM Ā λ b s2 bf H2 z _ u2 fm oh iN ck=>?_
  have Ĝ:VR T bf H2 a y:=VR.up u2 Ĝ
  have iN:VR T bf H2 b z:=iN
  have vr:VR T bf H2 v x:=VR.up (u1.trans u2) vr
  split at ck
  ·rename_i k j
   split at ck
   ·rename_i xs e1
    split at ck
    ·rename_i n e2
     obtain⟨p,ws,rfl,ea,h1,k1⟩:=fm.fj (ć e1) Ĝ
     cases iN.int_inv
     have up:Up bf H2 bf (upd H2 p (.lst (ws.set n x))):=fm.wH ea h1 (λ _ z=>nomatch z) (λ _ _ z=>nomatch z)
     exact⟨p,ws,_,n,rfl,rfl,h1,by rw[<-k1.length];exact e2,ck bf _ σ up (fm.set ea up (OR.lst û ((k1.set n vr).up up))) (oh.up up)⟩
    ·exact ck.elim
   ·exact ck.elim
  ·exact ck.elim
theorem Np:nt (nH o i):=λ v env s=>by
 unfold nH
 cases o env s with
 | bad=>exact .inr (.inr rfl)
 | ex c s1=>exact .inr (.inl ⟨_,_,rfl⟩)
 | ok a s1=>
  simp only[fK]
  cases i env s1 with
  | bad=>exact .inr (.inr rfl)
  | ex c s1=>exact .inr (.inl ⟨_,_,rfl⟩)
  | ok b s2=>
   simp only[fK]
   split
   ·split
    ·split
     ·exact .inl ⟨_,_,rfl⟩
     ·exact .inr (.inr rfl)
    ·exact .inr (.inr rfl)
   ·exact .inr (.inr rfl)
def nG:AV->Bool
 | .Ē=>true
 | .bl _=>true
 | .int _=>true
 | .str _=>true
 | _=>false
def toV:AV->V
 | .bl b=>.bl b
 | .int b=>.int b
 | .str b=>.str b
 | _=>.Ē
theorem toV_eq (h:nG v=true)(k:VR T ρ H v x):x=toV v:=by
 cases v with
 | Ē=>exact k.ja
 | bl b=>exact k.jv
 | int b=>exact k.int_inv
 | str b=>exact k.str_inv
 | _=>cases h
theorem toVs_eq:∀ {l:Á AV}{xs:Á V},l.all nG=true->Ħ T ρ H l xs->xs=l.map toV
 | [],_,_,k=>k.nil_inv
 | v :: r,_,h,k=>by
  obtain⟨x,ys,rfl,k1,k2⟩:=k.cons_inv
  rw[Ő,Č]at h
  rw[toV_eq h.1 k1,toVs_eq h.2 k2];rfl
theorem qH:∀ v:AV,qG (toV v)=true:=λ v=>by cases v<;>rfl
def XZ (v:AV)(xs:Á AV):Bool:=X0 (toV v) (xs.map toV)
def Dd (v w:AV)(s:S):R AV:=need (items w s) λ xs=>if nG v=true/\xs.all nG=true then .ok (.bl (XZ v xs)) s else .bad
def rh (v w:AV)(s:S):R AV:=need (items w s) λ xs=>if nG v=true/\xs.all nG=true then .ok (.bl (!XZ v xs)) s else .bad
theorem oIn (hK:X.K=T.K):kI X (Į .In) (yz T XE Dd):=by
 rintro Ä s σ H x y v u Q I rx ry ⟨ρ,a,b,st,sr,va,vb,ho⟩
 obtain⟨xs,e,ho⟩:=ho.ó
 obtain⟨⟨f1,f2⟩,ho⟩:=ho.ō
 obtain⟨p,ws,rfl,h1,k⟩:=ou e sr vb
 have e1:=toV_eq f1 va
 have e2:=toVs_eq f2 k
 subst e1 e2
 exact Gm Ä s σ H _ _ v u Q I rx ry ⟨p,_,rfl,by rw[hK];exact h1,qH a,by simp[qH],ho.ķ sr dt⟩
theorem V4 (hK:X.K=T.K):kI X (Į .NotIn) (yz T XE rh):=by
 rintro Ä s σ H x y v u Q I rx ry ⟨ρ,a,b,st,sr,va,vb,ho⟩
 obtain⟨xs,e,ho⟩:=ho.ó
 obtain⟨⟨f1,f2⟩,ho⟩:=ho.ō
 obtain⟨p,ws,rfl,h1,k⟩:=ou e sr vb
 have e1:=toV_eq f1 va
 have e2:=toVs_eq f2 k
 subst e1 e2
 exact zU Ä s σ H _ _ v u Q I rx ry ⟨p,_,rfl,by rw[hK];exact h1,qH a,by simp[qH],ho.ķ sr dt⟩
end
section
variable {T:Tx}{XE:j6}{X:Cx}{pos:mT}
structure Lg (T:Tx)(mg:Str->Ë Value)(x:Str)(a:AV):Prop where
 ex:∃ v u,mg x=À u/\RelV v u/\∀ ρ H,VR T ρ H a v
theorem QO (h:Lg T X.mg x a)(hg:Gl X x:=by rfl)(hd:(x == ("__debug__":Str))=false:=by decide):PE X (.Name x pos) (tE T XE (mc a)):=by
 obtain⟨v,u,h1,h2,h3⟩:=h.ex
 exact MX hg h1 h2 h3 hd
theorem Vb (r:cN k A):A.units+30 < cLine:=by have:=r.un;lia
def P2 (m:Eb):Eb:=λ env s=>(m env s).bind λ v s1=>open Classical in if s1.take s.length=s then .ok v s else .bad
theorem Wq (h:PT X e (lj T XE m)):PT X e (lj T XE (P2 m)):=
 PT.imp h λ σ H Q zz=>ŀ zz λ ρ env s hs he ho=>by
  refine⟨ρ,env,s,hs,he,?_⟩
  unfold P2 at ho
  cases e:m env s with
  | bad=>rw[e]at ho;exact ho
  | ex c s1=>rw[e]at ho;exact ho
  | ok v s1=>
   rw[e]at ho
   obtain⟨e1,ho⟩:=ho.ō
   intro Ě H1 x u sr vr
   have:=sr.cut u.pre hs.len (by rw[e1];exact hs.closed)
   rw[e1]at this
   exact ho ρ H1 x u.cut this vr
def rMG {α:Type}(T:Tx)(XE:j6)(rl:Rl α V)(op:AV->Á AV->S->R α):V->Á V->Hp->VK->Prop:=λ x xs H Q=>∃ ρ v vs s,SR T ρ s H/\VR T ρ H v x/\Ħ T ρ H vs xs/\Out T XE rl ρ H (op v vs s) Q
def Ib {α:Type}(n:String)(op:AV->Á AV->S->R α)(o:Ev)(r:fY):En->S->R α:=λ env s=>(o env s).bind λ v s1=>need (lI n v s1) λ _=>(r env s1).bind λ vs s2=>op v vs s2
theorem QV {α:Type}{rl:Rl α V}{n id:String}{es:Á ń}{op:AV->Á AV->S->R α}{m:Ev}{r:fY}(hK:X.K=T.K)(pa:qm n)(slot:Slot n name id)(Ir:LN (.builtin id)=pure (.type "method_descriptor")) (hm:Fy X id (rMG T XE rl op)) (ho:PE X o (tE T XE m)) (ha:PA X (e :: es) (tP T XE r))
  (jL:Ŧ o name X.env (Ć o X.env)=Ć o X.env:=by rfl)
  (CQ:((Ĕ aw (Ì (e :: es) X.env)).all (λ x=>!x.1) && (gu aw (bG [] X.env)).all (λ x=>x.1.isSome)
   && decide ((e :: es).length+([]:Á iV).length+(if ([]:Á iV).isEmpty then 0 else 1) < 30))=true:=by rfl)
  (jM:(bR.endLine == aw.line)=true:=by rfl) (hs:Ì (e :: es) X.env=(false,Ć e X.env) :: Ì es X.env:=by rfl) (pM:(Ĕ aw (Ì es X.env)).any (·.1)=false:=by rfl) :
  PE X (.Call (.Attribute o name bR) (e :: es) [] aw) (tG T XE rl (Ib n op m r)):=
 PE.imp (JB hK pa slot Ir hm ho ha jL CQ jM hs pM) λ σ H Q zz=>ŀ zz λ ρ env s hs he ho=>by
  refine step hs he ho λ v s1 Ě H1 x _ u1 İ aM Ĝ Ā=>?_
  obtain⟨_,e,Ā⟩:=Ā.ó
  exact⟨qP e İ Ĝ,step İ aM Ā λ vs s2 bf H2 xs _ u2 fm oh iN ck=>⟨bf,v,vs,s2,fm,VR.up u2 Ĝ,iN,ck⟩⟩
open PySem.Builtin.Str in
def rj:AV->Á AV->S->R (Á AV)
 | .str t,[.str sep],s=>if (decide (t.length < sep.length) || decide (strKind t < strKind sep))=false/\(sep.length == 0)=false/\(occurrences t sep 0 t.length (t.length+1)).isEmpty=false/\t.length<=1000/\(partsBetween t (occurrences t sep 0 t.length (t.length+1)) sep.length).length<=1000
   then .ok ((partsBetween t (occurrences t sep 0 t.length (t.length+1)) sep.length).map AV.str) s else .bad
 | _,_,_=>.bad
theorem PB:Fy X "str.split" (rMG T XE (rL T) rj):=by
 rintro Ä s σ H x xs v us Q I rx rv ⟨ρ,a,vs,st,sr,va,vb,ho⟩
 unfold rj at ho
 split at ho
 ·obtain⟨⟨c1,c2,c3,c4,c5⟩,ho⟩:=ho.ō
  cases va.str_inv
  obtain⟨y,rfl,k2⟩:=vb.mE
  cases k2.str_inv
  exact Jj Ä s σ H _ _ v us Q I rx rv ⟨_,_,rfl,rfl,c1,c2,c3,c4,c5,λ l hl=>ho.lst sr hl (Ħ.map (λ a=>iO) _)⟩
 ·exact ho.elim
def wR (xs ys:Á AV):Á AV:=(xs.zip ys).map λ p=>AV.tup [p.1,p.2]
def xW (xs:Á AV):Á AV:=(Ă xs.length).zip xs |>.map λ p=>AV.tup [.int (p.1:Int),p.2]
def xE (c:Bool)(v:AV)(s:S):Ë (Á AV × Gd):=match v with
 | .tup xs=>if c=true then À (xs,[]) else none
 | .sq xs=>if c=true then none else À (xs,[])
 | .ref i=>if c=true then none else (ï s i).map λ xs=>(xs,[(i,xs)])
 | _=>none
theorem wt (h:xE c v s=À (xs,gs)) (sr:SR T ρ s H)(va:VR T ρ H v x):∃ a,x=.ref a/\(∃ vs,zb c T.K H a vs)/\∀ Ň s' H',Up ρ H Ň H'->SR T Ň s' H'->x_ gs s'->∃ vs,zb c T.K H' a vs/\Ħ T Ň H' xs vs:=by
 cases v with
 | tup ys=>
  have h:(if c=true then À (ys,[]) else none)=À (xs,gs):=h
  split at h
  ·rename_i hc
   cases h
   obtain⟨a,vs,rfl,h1,k⟩:=va.bV
   refine⟨a,rfl,⟨vs,by unfold zb;rw[Ñ hc];exact h1⟩,λ Ň s' H' u mI _=>⟨vs,by unfold zb;rw[Ñ hc];exact u.WD h1,k.up u⟩⟩
  ·cases h
 | sq ys=>
  have h:(if c=true then none else À (ys,[]))=À (xs,gs):=h
  split at h
  ·cases h
  ·rename_i hc
   cases h
   obtain⟨a,vs,rfl,h1,k⟩:=va.iL
   refine⟨a,rfl,⟨vs,by unfold zb;rw[Ö hc];exact h1.GF⟩,λ Ň s' H' u mI _=>⟨vs,by unfold zb;rw[Ö hc];exact(u.sqF h1).GF,k.up u⟩⟩
 | ref i=>
  have h:(if c=true then none else (ï s i).map λ xs=>(xs,[(i,xs)]))=À (xs,gs):=h
  split at h
  ·cases h
  ·rename_i hc
   cases e:ï s i with
   | none=>rw[e]at h;cases h
   | some ys=>
    rw[e]at h
    cases h
    obtain⟨a,vs,rfl,ea,h1,k⟩:=sr.fj (ć e) va
    refine⟨a,rfl,⟨vs,by unfold zb;rw[Ö hc];exact fZ.of h1⟩,λ Ň s' H' u mI g=>?_⟩
    obtain⟨b,ws,eb,_,h2,k2⟩:=mI.fj (ć ((Ei i _ s').mp g)) (VR.up u va)
    cases eb
    exact⟨ws,by unfold zb;rw[Ö hc];exact fZ.of h2,k2⟩
 | _=>cases h
def GP (v w:AV)(s:S):Ë (Á AV × Gd):=
 match xE true v s,xE true w s with
 | some (xs,g),À (ys,h)=>À (wR xs ys,g++h)
 | _,_=>match xE false v s,xE false w s with
  | some (xs,g),À (ys,h)=>À (wR xs ys,g++h)
  | _,_=>none
theorem KQ (h:GP v w s=À r):∃ c xs g ys h,xE c v s=À (xs,g)/\xE c w s=À (ys,h)/\r=(wR xs ys,g++h):=by
 unfold GP at h
 split at h
 ·rename_i xs g ys h' e1 e2
  cases h
  exact⟨true,xs,g,ys,h',e1,e2,rfl⟩
 ·split at h
  ·rename_i xs g ys h' e1 e2
   cases h
   exact⟨false,xs,g,ys,h',e1,e2,rfl⟩
  ·cases h
def Ki (a b:Ev):Src:=λ env s=>(a env s).bind λ v s1=>(b env s1).bind λ w s2=>need (GP v w s2) λ r=>.ok r s2
theorem Mq (k:x_ (g++h) s):x_ g s/\x_ h s:=⟨λ p hp=>k p (jf _ hp),λ p hp=>k p (Ĥ _ hp)⟩
theorem QX (hK:X.K=T.K)(hm:X.mg "zip"=none)(h1:PE X e1 (tE T XE a)) (h2:PE X e2 (tE T XE b)) (hg:Gl X "zip":=by rfl)
  (hs:Ì [e1,e2] X.env=(false,Ć e1 X.env) :: Ì [e2] X.env:=by rfl) (S4:Ì [e2] X.env=[(false,Ć e2 X.env)]:=by rfl) (fi:(Ĕ pos (Ì [e2] X.env)).any (·.1)=false:=by rfl) :
  PI X (.Tuple es kk DF) (.Call (.Name "zip" p) [e1,e2] [] pos) (tW T XE (Ki a b)):=
 PI.imp (RG hg hm h1 h2 hs S4 fi) λ σ H R zz=>ŀ zz λ ρ env s hs he ho=>step hs he ho λ v s1 Ě H1 x _ u1 İ aM Ĝ Ā=>step İ aM Ā λ w s2 bf H2 y _ u2 fm oh iN ck=>by
  obtain⟨r,e,ck⟩:=ck.ó
  obtain⟨c,xs,g,ys,h,q1,q2,rfl⟩:=KQ e
  obtain⟨a1,rfl,x1,w1⟩:=wt q1 fm (VR.up u2 Ĝ)
  obtain⟨a2,rfl,x2,w2⟩:=wt q2 fm iN
  refine⟨c,a1,a2,rfl,by rw[hK];exact x1,by rw[hK];exact x2,ck bf H2 _ .refl fm ⟨λ Ň s' H' u' mI gk=>?_⟩⟩
  obtain⟨g1,g2⟩:=Mq gk
  obtain⟨vs,k1,k2⟩:=w1 Ň s' H' u' mI g1
  obtain⟨ws,k3,k4⟩:=w2 Ň s' H' u' mI g2
  rw[hK]
  have Az:=k2.length
  have vK:=k4.length
  refine⟨λ j z ez=>?_,⟨vs,ws,k1,k3,?_⟩⟩
  ·have hj:j < xs.length/\j < ys.length:=by
    have:=(Æ.mp ez).1
    simp only[wR,Õ,oG]at this
    lia
   have YW:z=.tup [xs[j],ys[j]]:=by
    have q:(wR xs ys)[j]? = À (.tup [xs[j],ys[j]]):=by
     simp[wR,AJ,hj.1,hj.2]
    rw[q]at ez
    exact(è ez).symm
   subst YW
   obtain⟨x3,e3,v3⟩:=k2.get (Å hj.1)
   obtain⟨x4,e4,v4⟩:=k4.get (Å hj.2)
   refine⟨⟨vs,ws,x3,x4,k1,k3,e3,e4⟩,λ q H'' ⟨Tt,y1,y2,eq,hT,eH,hy⟩=>?_⟩
   obtain⟨f1,f2⟩:=hy vs ws k1 k3
   rw[e3]at f1;rw[e4]at f2
   cases f1;cases f2
   subst eq eH
   exact⟨mI.dQ hT,mI.new hT,jT (hZ.of û) (Ħ.up (mI.dQ hT) (.cons v3 (.one v4)))⟩
  ·rw[<-Az,<-vK]
   simp only[wR,Õ,oG]
   lia
end
end Mm
namespace Mm
open PySem PySem.W PyProof.Rows
def ĭ {α:Type}(lt:Nat->Nat->Bool):KasT α->α
 | .ret a=>a
 | .ask i j k=>ĭ lt (k (lt i j))
theorem jg (lt:Nat->Nat->Bool)(f:α->KasT β):∀ t:KasT α,ĭ lt (t.bind f)=ĭ lt (f (ĭ lt t))
 | .ret a=>rfl
 | .ask i j k=>jg lt f (k (lt i j))
section
variable {O:KeyOrd}{key:Nat->O.α}
def fQ (key:Nat->O.α)(p:Ğ Nat)(i:Nat):O.α:=key (p.getD i 0)
abbrev aI (O:KeyOrd)(key:Nat->O.α):Nat->Nat->Bool:=λ i j=>O.blt (key i) (key j)
def Aw (key:Nat->O.α)(p:Ğ Nat)(k:Nat):Prop:=∀ i j,i<=j->j < k->O.kle (fQ key p i) (fQ key p j)
def OF (key:Nat->O.α)(p:Ğ Nat)(k:Nat):Prop:=∀ i j,i<=j->j < k->O.kle (fQ key p j) (fQ key p i)
theorem Oc (p:Ğ Nat):Aw key p 1:=λ i j h1 h2=>by
 have:i=j:=by lia
 subst this;exact ź _
theorem Kj (h1:1<=n)(h:Aw key p n)(k:O.kle (fQ key p (n - 1)) (fQ key p n)):Aw key p (n+1):=λ i j h2 h3=>by
 by_cases hj:j < n
 ·exact h i j h2 hj
 ·have e:j=n:=by lia
  subst e
  by_cases hi:i=j
  ·subst hi;exact ź _
  ·exact ai (h i (j - 1) (by lia) (by lia)) k
theorem qX (h1:1<=n)(h:OF key p n)(k:O.kle (fQ key p n) (fQ key p (n - 1))):OF key p (n+1):=λ i j h2 h3=>by
 by_cases hj:j < n
 ·exact h i j h2 hj
 ·have e:j=n:=by lia
  subst e
  by_cases hi:i=j
  ·subst hi;exact ź _
  ·exact ai k (h i (j - 1) (by lia) (by lia))
theorem qJ {p q:Ğ Nat}(h:p[i]? = q[j]?):p.getD i 0=q.getD j 0:=by
 rw[ĳ,ĳ,h]
theorem nK {p:Ğ Nat}(hj:j<=p.size)(k:Nat):fQ key (ag p i j) k=if i<=k/\k < j then fQ key p (i+j - 1 - k) else fQ key p k:=by
 unfold fQ ag
 have h:=getElem?_mirror_all (xs:=p) (i:=i) (j:=j) hj k
 split
 ·rename_i hk
  rw[Ñ hk]at h
  rw[qJ h]
 ·rename_i hk
  rw[Ö hk]at h
  rw[qJ h]
theorem Cy:∀ (f n:Nat),1<=n->Aw key p n->Aw key p (ĭ (aI O key) (aA p f n))/\n<=ĭ (aI O key) (aA p f n)/\ĭ (aI O key) (aA p f n)<=n+f/\
  (ĭ (aI O key) (aA p f n) < n+f->O.klt (fQ key p (ĭ (aI O key) (aA p f n))) (fQ key p (ĭ (aI O key) (aA p f n) - 1)))
 | 0,n,h1,h=>⟨h,Ï _,Ï _,λ z=>absurd z (Ņ _)⟩
 | f+1,n,h1,h=>by
  show Aw key p (ĭ (aI O key) (if aI O key (p.getD n 0) (p.getD (n - 1) 0)=true then .ret n else aA p f (n+1)))/\_
  by_cases c:aI O key (p.getD n 0) (p.getD (n - 1) 0)=true
  ·have e:ĭ (aI O key) (aA p (f+1) n)=n:=by
    show ĭ (aI O key) (if aI O key (p.getD n 0) (p.getD (n - 1) 0)=true then .ret n else aA p f (n+1))=n
    rw[Ñ c];rfl
   rw[e,Ñ c]
   exact⟨h,Ï _,by lia,λ _=>c⟩
  ·have e:ĭ (aI O key) (aA p (f+1) n)=ĭ (aI O key) (aA p f (n+1)):=by
    show ĭ (aI O key) (if aI O key (p.getD n 0) (p.getD (n - 1) 0)=true then .ret n else aA p f (n+1))=_
    rw[Ö c]
   rw[e,Ö c]
   obtain⟨a1,a2,a3,a4⟩:=Cy f (n+1) (by lia) (Kj h1 h (a9 c))
   exact⟨a1,by lia,by lia,λ z=>a4 (by lia)⟩
def Alike (key:Nat->O.α)(p:Ğ Nat)(n q:Nat):Prop:=q+1<=n/\∀ i,n - (q+1)<=i->i < n->fQ key p i=fQ key p (n - 1)
theorem yB (hn:n<=p.size)(h:Alike key p n q)(k:Nat):fQ key (ag p (n - (q+1)) n) k=fQ key p k:=by
 rw[nK hn]
 split
 ·rename_i hk
  rw[h.2 _ (by lia) (by lia),h.2 k hk.1 hk.2]
 ·rfl
theorem yt (e:∀ k,fQ key p' k=fQ key p k)(h:OF key p n):OF key p' n:=λ i j h1 h2=>by rw[e,e];exact h i j h1 h2
theorem uP:∀ (f:Nat)(p:Ğ Nat)(n q:Nat),n+f<=p.size->1<=n->OF key p n->Alike key p n q->
  let r:=ĭ (aI O key) (ĸ f p n q)
  OF key r.1 r.2.1/\Alike key r.1 r.2.1 r.2.2/\n<=r.2.1/\r.2.1<=n+f/\r.1.size=p.size/\r.1.Perm p
 | 0,p,n,q,hz,h1,h,a=>⟨h,a,Ï _,Ï _,rfl,eG _⟩
 | f+1,p,n,q,hz,h1,h,a=>by
  by_cases c:aI O key (p.getD n 0) (p.getD (n - 1) 0)=true
  ·by_cases hq:q > 0
   ·have e:ĭ (aI O key) (ĸ (f+1) p n q)=ĭ (aI O key) (ĸ f (ag p (n - (q+1)) n) (n+1) 0):=by
     show ĭ (aI O key) (if aI O key (p.getD n 0) (p.getD (n - 1) 0)=true then (if q > 0 then ĸ f (ag p (n - (q+1)) n) (n+1) 0 else ĸ f p (n+1) 0) else _)=_
     rw[Ñ c,Ñ hq]
    have ke:∀ k,fQ key (ag p (n - (q+1)) n) k=fQ key p k:=yB (by lia) a
    have sz:(ag p (n - (q+1)) n).size=p.size:=Ca _ _ _ _
    have:=uP f (ag p (n - (q+1)) n) (n+1) 0 (by rw[sz];lia) (by lia) (qX h1 (yt ke h) (by rw[ke,ke];exact dg c)) ⟨by lia,λ i h2 h3=>by
     have e9:i=n:=by lia
     rw[e9];rfl⟩
    rw[e]
    obtain⟨b1,b2,b3,b4,b5,b6⟩:=this
    exact⟨b1,b2,by lia,by lia,by rw[b5,sz],b6.trans (uj _ _ _ _)⟩
   ·have e:ĭ (aI O key) (ĸ (f+1) p n q)=ĭ (aI O key) (ĸ f p (n+1) 0):=by
     show ĭ (aI O key) (if aI O key (p.getD n 0) (p.getD (n - 1) 0)=true then (if q > 0 then ĸ f (ag p (n - (q+1)) n) (n+1) 0 else ĸ f p (n+1) 0) else _)=_
     rw[Ñ c,Ö hq]
    have:=uP f p (n+1) 0 (by lia) (by lia) (qX h1 h (dg c)) ⟨by lia,λ i h2 h3=>by
     have e9:i=n:=by lia
     rw[e9];rfl⟩
    rw[e]
    obtain⟨b1,b2,b3,b4,b5,b6⟩:=this
    exact⟨b1,b2,by lia,by lia,b5,b6⟩
  ·by_cases d:aI O key (p.getD (n - 1) 0) (p.getD n 0)=true
   ·have e:ĭ (aI O key) (ĸ (f+1) p n q)=(p,n,q):=by
     show ĭ (aI O key) (if aI O key (p.getD n 0) (p.getD (n - 1) 0)=true then _ else .ask (p.getD (n - 1) 0) (p.getD n 0) λ d=>if d=true then .ret (p,n,q) else ĸ f p (n+1) (q+1))=_
     rw[Ö c]
     show ĭ (aI O key) (if aI O key (p.getD (n - 1) 0) (p.getD n 0)=true then .ret (p,n,q) else ĸ f p (n+1) (q+1))=_
     rw[Ñ d];rfl
    rw[e]
    exact⟨h,a,Ï _,(by show n<=n+(f+1);lia),rfl,eG _⟩
   ·have e:ĭ (aI O key) (ĸ (f+1) p n q)=ĭ (aI O key) (ĸ f p (n+1) (q+1)):=by
     show ĭ (aI O key) (if aI O key (p.getD n 0) (p.getD (n - 1) 0)=true then _ else .ask (p.getD (n - 1) 0) (p.getD n 0) λ d=>if d=true then .ret (p,n,q) else ĸ f p (n+1) (q+1))=_
     rw[Ö c]
     show ĭ (aI O key) (if aI O key (p.getD (n - 1) 0) (p.getD n 0)=true then .ret (p,n,q) else ĸ f p (n+1) (q+1))=_
     rw[Ö d]
    have eq:fQ key p n=fQ key p (n - 1):=jl (a9 d) (a9 c)
    have:=uP f p (n+1) (q+1) (by lia) (by lia) (qX h1 h (by rw[eq];exact ź _)) ⟨by have:=a.1;lia,λ i h2 h3=>by
     by_cases hi:i=n
     ·subst hi;rfl
     ·show fQ key p i=fQ key p n
      rw[eq];exact a.2 i (by lia) (by lia)⟩
    rw[e]
    obtain⟨b1,b2,b3,b4,b5,b6⟩:=this
    exact⟨b1,b2,by lia,by lia,b5,b6⟩
theorem BS (h1:1<=n)(hn:n<=nrem)(hz:nrem<=p.size)(h:OF key p n) :
  let r:=ĭ (aI O key) (pB n nrem p)
  Aw key r.2 r.1/\1<=r.1/\r.1<=nrem/\r.2.size=p.size/\r.2.Perm p:=by
 have e:ĭ (aI O key) (pB n nrem p)=(ĭ (aI O key) (aA (ag p 0 n) (nrem - n) n),ag p 0 n):=by
  unfold pB
  rw[jg];rfl
 rw[e]
 have s0:Aw key (ag p 0 n) n:=λ i j h2 h3=>by
  rw[nK (by lia),nK (by lia),Ñ (by lia),Ñ (by lia)]
  exact h _ _ (by lia) (by lia)
 obtain⟨a1,a2,a3,_⟩:=Cy (nrem - n) n h1 s0
 exact⟨a1,by lia,by lia,Ca _ _ _ _,uj _ _ _ _⟩
theorem tI (h1:1<=n)(hn:n+1<=nrem)(hz:nrem<=p.size)(h:OF key p n)(hl:O.klt (fQ key p n) (fQ key p (n - 1))) :
  let r:=ĭ (aI O key) (bx n nrem p)
  Aw key r.2 r.1/\1<=r.1/\r.1<=nrem/\r.2.size=p.size/\r.2.Perm p:=by
 have d:=uP (key:=key) (nrem - (n+1)) p (n+1) 0 (by lia) (by lia) (qX h1 h (dg hl)) ⟨by lia,λ i h2 h3=>by
     have e9:i=n:=by lia
     rw[e9];rfl⟩
 have e:ĭ (aI O key) (bx n nrem p)=ĭ (aI O key) (if (ĭ (aI O key) (ĸ (nrem - (n+1)) p (n+1) 0)).2.2 > 0 then pB (ĭ (aI O key) (ĸ (nrem - (n+1)) p (n+1) 0)).2.1 nrem (ag (ĭ (aI O key) (ĸ (nrem - (n+1)) p (n+1) 0)).1 ((ĭ (aI O key) (ĸ (nrem - (n+1)) p (n+1) 0)).2.1 - ((ĭ (aI O key) (ĸ (nrem - (n+1)) p (n+1) 0)).2.2+1)) (ĭ (aI O key) (ĸ (nrem - (n+1)) p (n+1) 0)).2.1) else pB (ĭ (aI O key) (ĸ (nrem - (n+1)) p (n+1) 0)).2.1 nrem (ĭ (aI O key) (ĸ (nrem - (n+1)) p (n+1) 0)).1):=by
  unfold bx
  rw[jg]
 rw[e]
 generalize ĭ (aI O key) (ĸ (nrem - (n+1)) p (n+1) 0)=r at *
 obtain⟨b1,b2,b3,b4,b5,b6⟩:=d
 by_cases hq:r.2.2 > 0
 ·rw[Ñ hq]
  have sz:(ag r.1 (r.2.1 - (r.2.2+1)) r.2.1).size=r.1.size:=Ca _ _ _ _
  obtain⟨c1,c2,c3,c4,c5⟩:=BS (key:=key) (p:=ag r.1 (r.2.1 - (r.2.2+1)) r.2.1) (n:=r.2.1) (nrem:=nrem) (by lia) (by lia) (by rw[sz,b5];exact hz) (yt (yB (by lia) b2) b1)
  exact⟨c1,c2,c3,by rw[c4,sz,b5],c5.trans ((uj _ _ _ _).trans b6)⟩
 ·rw[Ö hq]
  obtain⟨c1,c2,c3,c4,c5⟩:=BS (key:=key) (p:=r.1) (n:=r.2.1) (nrem:=nrem) (by lia) (by lia) (by rw[b5];exact hz) b1
  exact⟨c1,c2,c3,by rw[c4,b5],c5.trans b6⟩
theorem Hy (h1:1<=nrem)(hz:nrem<=p.size) :
  let r:=ĭ (aI O key) (hU nrem p)
  Aw key r.2 r.1/\1<=r.1/\r.1<=nrem/\r.2.size=p.size/\r.2.Perm p:=by
 obtain⟨a1,a2,a3,a4⟩:=Cy (key:=key) (p:=p) (nrem - 1) 1 (Ï _) (Oc p)
 have e:ĭ (aI O key) (hU nrem p)=ĭ (aI O key) (if (ĭ (aI O key) (aA p (nrem - 1) 1) == nrem)=true then .ret (ĭ (aI O key) (aA p (nrem - 1) 1),p) else if ĭ (aI O key) (aA p (nrem - 1) 1) > 1 then .ask (p.getD 0 0) (p.getD (ĭ (aI O key) (aA p (nrem - 1) 1) - 1) 0) λ c=>if c=true then .ret (ĭ (aI O key) (aA p (nrem - 1) 1),p) else bx (ĭ (aI O key) (aA p (nrem - 1) 1)) nrem (ag p 0 (ĭ (aI O key) (aA p (nrem - 1) 1)))
  else bx (ĭ (aI O key) (aA p (nrem - 1) 1)) nrem p):=by
  unfold hU
  rw[jg]
 rw[e]
 generalize ĭ (aI O key) (aA p (nrem - 1) 1)=n at *
 by_cases hn:(n == nrem)=true
 ·rw[Ñ hn]
  have:n=nrem:=by simpa using hn
  exact⟨a1,a2,(by show n<=nrem;lia),rfl,eG _⟩
 ·rw[Ö hn]
  have vL:n≠nrem:=by simpa using hn
  have hl:=a4 (by lia)
  by_cases h2:n > 1
  ·rw[Ñ h2]
   have e2:ĭ (aI O key) (.ask (p.getD 0 0) (p.getD (n - 1) 0) λ c=>if c=true then .ret (n,p) else bx n nrem (ag p 0 n))=ĭ (aI O key) (if aI O key (p.getD 0 0) (p.getD (n - 1) 0)=true then .ret (n,p) else bx n nrem (ag p 0 n)):=rfl
   rw[e2]
   by_cases c:aI O key (p.getD 0 0) (p.getD (n - 1) 0)=true
   ·rw[Ñ c]
    exact⟨a1,a2,(by show n<=nrem;lia),rfl,eG _⟩
   ·rw[Ö c]
    have all:∀ i,i < n->fQ key p i=fQ key p 0:=λ i hi=>by
     have q1:O.kle (fQ key p 0) (fQ key p i):=a1 0 i (ñ _) hi
     have q2:O.kle (fQ key p i) (fQ key p (n - 1)):=a1 i (n - 1) (by lia) (by lia)
     have q3:O.kle (fQ key p (n - 1)) (fQ key p 0):=a9 c
     exact jl (ai q2 q3) q1
    have sz:(ag p 0 n).size=p.size:=Ca _ _ _ _
    have ke:∀ i,i < n->fQ key (ag p 0 n) i=fQ key p 0:=λ i hi=>by
     rw[nK (by lia),Ñ ⟨ñ _,hi⟩];exact all _ (by lia)
    obtain⟨c1,c2,c3,c4,c5⟩:=tI (key:=key) (p:=ag p 0 n) (n:=n) (nrem:=nrem) (by lia) (by lia) (by rw[sz];exact hz)
     (λ i j h3 h4=>by rw[ke i (by lia),ke j h4];exact ź _)
     (by rw[nK (by lia),Ö (by lia),ke (n - 1) (by lia),<-all (n - 1) (by lia)];exact hl)
    exact⟨c1,c2,c3,by rw[c4,sz],c5.trans (uj _ _ _ _)⟩
  ·rw[Ö h2]
   have hn1:n=1:=by lia
   subst hn1
   exact tI (key:=key) (by lia) (by lia) hz (λ i j h3 h4=>by
    have:i=j:=by lia
    subst this;exact ź _) hl
theorem wd (hs:Aw key p k):∀ (f l r:Nat),l<=r->r<=k->r - l<=f->(∀ i,i < l->O.kle (fQ key p i) (fQ key p k))->(∀ i,r<=i->i < k->O.klt (fQ key p k) (fQ key p i))->
  let m:=ĭ (aI O key) (ő p k f l r)
  m<=k/\(∀ i,i < m->O.kle (fQ key p i) (fQ key p k))/\∀ i,m<=i->i < k->O.klt (fQ key p k) (fQ key p i)
 | 0,l,r,h1,h2,h3,h4,h5=>⟨(by show l<=k;lia),h4,λ i h6 h7=>h5 i (by have h6:l<=i:=h6;lia) h7⟩
 | f+1,l,r,h1,h2,h3,h4,h5=>by
  by_cases hl:l ≥ r
  ·have e:ĭ (aI O key) (ő p k (f+1) l r)=l:=by
    show ĭ (aI O key) (if l ≥ r then .ret l else _)=l
    rw[Ñ hl];rfl
   rw[e]
   exact⟨by lia,h4,λ i h6 h7=>h5 i (by lia) h7⟩
  ·by_cases c:aI O key (p.getD k 0) (p.getD ((l+r) / 2) 0)=true
   ·have e:ĭ (aI O key) (ő p k (f+1) l r)=ĭ (aI O key) (ő p k f l ((l+r) / 2)):=by
     show ĭ (aI O key) (if l ≥ r then .ret l else .ask (p.getD k 0) (p.getD ((l+r) / 2) 0) λ c=>if c=true then ő p k f l ((l+r) / 2) else ő p k f ((l+r) / 2+1) r)=_
     rw[Ö hl]
     show ĭ (aI O key) (if aI O key (p.getD k 0) (p.getD ((l+r) / 2) 0)=true then ő p k f l ((l+r) / 2) else ő p k f ((l+r) / 2+1) r)=_
     rw[Ñ c]
    rw[e]
    exact wd hs f l ((l+r) / 2) (by lia) (by lia) (by lia) h4 λ i h6 h7=>Aj (O:=O) c (hs _ i h6 h7)
   ·have e:ĭ (aI O key) (ő p k (f+1) l r)=ĭ (aI O key) (ő p k f ((l+r) / 2+1) r):=by
     show ĭ (aI O key) (if l ≥ r then .ret l else .ask (p.getD k 0) (p.getD ((l+r) / 2) 0) λ c=>if c=true then ő p k f l ((l+r) / 2) else ő p k f ((l+r) / 2+1) r)=_
     rw[Ö hl]
     show ĭ (aI O key) (if aI O key (p.getD k 0) (p.getD ((l+r) / 2) 0)=true then ő p k f l ((l+r) / 2) else ő p k f ((l+r) / 2+1) r)=_
     rw[Ö c]
    rw[e]
    exact wd hs f ((l+r) / 2+1) r (by lia) h2 (by lia) (λ i hi=>ai (hs i ((l+r) / 2) (by lia) (by lia)) (a9 c)) h5
theorem MM {p:Ğ Nat}(hk:k < p.size)(hl:l<=k)(i:Nat):fQ key (AQ p k (k - l)) i=if i=l then fQ key p k else if l < i/\i<=k then fQ key p (i - 1) else fQ key p i:=by
 have h:=getElem?_bubble (xs:=p) hk (k - l) (by lia) i
 rw[show k - (k - l)=l by lia]at h
 by_cases hi:i=l
 ·rw[Ñ hi]at h ⊢;unfold fQ;rw[qJ h]
 ·rw[Ö hi]at h ⊢
  by_cases h2:l < i/\i<=k
  ·rw[Ñ h2]at h ⊢;unfold fQ;rw[qJ h]
  ·rw[Ö h2]at h ⊢;unfold fQ;rw[qJ h]
theorem Hk:∀ (f:Nat)(p:Ğ Nat)(k:Nat),k+f<=p.size->Aw key p k->
  let r:=ĭ (aI O key) (DP f p k)
  Aw key r (k+f)/\r.size=p.size/\r.Perm p
 | 0,p,k,h1,h=>⟨h,rfl,eG _⟩
 | f+1,p,k,h1,h=>by
  obtain⟨b1,b2,b3⟩:=wd (key:=key) h k 0 k (ñ _) (Ï _) (by lia) (λ i hi=>by lia) (λ i h2 h3=>by lia)
  have e:ĭ (aI O key) (DP (f+1) p k)=ĭ (aI O key) (DP f (AQ p k (k - ĭ (aI O key) (ő p k k 0 k))) (k+1)):=by
   show ĭ (aI O key) ((ő p k k 0 k).bind λ l=>DP f (AQ p k (k - l)) (k+1))=_
   rw[jg]
  rw[e]
  generalize ĭ (aI O key) (ő p k k 0 k)=l at *
  have sz:(AQ p k (k - l)).size=p.size:=bubble_size _ _ _
  have kb:∀ i,fQ key (AQ p k (k - l)) i=if i=l then fQ key p k else if l < i/\i<=k then fQ key p (i - 1) else fQ key p i:=MM (by lia) b1
  have s1:Aw key (AQ p k (k - l)) (k+1):=λ i j h2 h3=>by
   rw[kb,kb]
   by_cases hi:i=l
   ·rw[Ñ hi]
    by_cases hj:j=l
    ·rw[Ñ hj];exact ź _
    ·rw[Ö hj,Ñ (by lia)]
     exact dg (b3 (j - 1) (by lia) (by lia))
   ·rw[Ö hi]
    by_cases MC:l < i/\i<=k
    ·rw[Ñ MC,Ö (by lia),Ñ (by lia)]
     exact h _ _ (by lia) (by lia)
    ·rw[Ö MC]
     by_cases hj:j=l
     ·rw[Ñ hj];exact b2 i (by lia)
     ·rw[Ö hj]
      by_cases Zh:l < j/\j<=k
      ·rw[Ñ Zh];exact h _ _ (by lia) (by lia)
      ·rw[Ö Zh];exact h _ _ h2 (by lia)
  obtain⟨c1,c2,c3⟩:=Hk f (AQ p k (k - l)) (k+1) (by rw[sz];lia) s1
  exact⟨by rw[show k+(f+1)=k+1+f by lia];exact c1,by rw[c2,sz],c3.trans (bubble_perm _ _ _)⟩
theorem N9 (h1:1<=n):let r:=ĭ (aI O key) (ui n);Aw key r n/\r.size=n/\r.Perm (ĥ (Ă n)):=by
 have hz:(ĥ (Ă n)).size=n:=by simp
 obtain⟨a1,a2,a3,a4,a5⟩:=Hy (key:=key) (p:=ĥ (Ă n)) h1 (kF hz.symm)
 have e:ĭ (aI O key) (ui n)=ĭ (aI O key) (if (ĭ (aI O key) (hU n (ĥ (Ă n)))).1 < n then DP (n - max (ĭ (aI O key) (hU n (ĥ (Ă n)))).1 1) (ĭ (aI O key) (hU n (ĥ (Ă n)))).2 (max (ĭ (aI O key) (hU n (ĥ (Ă n)))).1 1) else .ret (ĭ (aI O key) (hU n (ĥ (Ă n)))).2):=by
  unfold ui
  rw[jg]
 rw[e]
 generalize ĭ (aI O key) (hU n (ĥ (Ă n)))=r at *
 by_cases h2:r.1 < n
 ·rw[Ñ h2]
  have hm:max r.1 1=r.1:=by lia
  rw[hm]
  obtain⟨c1,c2,c3⟩:=Hk (key:=key) (n - r.1) r.2 r.1 (by rw[a4,hz];lia) a1
  exact⟨by rw[show n=r.1+(n - r.1) by lia];rw[show r.1+(n - r.1) - r.1=n - r.1 by lia];exact c1,by rw[c2,a4,hz],c3.trans a5⟩
 ·rw[Ö h2]
  have:r.1=n:=by lia
  exact⟨(by show Aw key r.2 n;rw[<-this];exact a1),(by show r.2.size=n;rw[a4,hz]),a5⟩
end
def qu {α:Type}(n:Nat)(Po:α->Prop):KasT α->Prop
 | .ret a=>Po a
 | .ask i j k=>i < n/\j < n/\∀ b,qu n Po (k b)
theorem qu.bind {α β:Type}{Po:α->Prop}{Pq:β->Prop}{f:α->KasT β}(hf:∀ a,Po a->qu n Pq (f a)):∀ {t:KasT α},qu n Po t->qu n Pq (t.bind f)
 | .ret a,h=>hf a h
 | .ask i j k,h=>⟨h.1,h.2.1,λ b=>qu.bind hf (h.2.2 b)⟩
def AllLt (n:Nat)(p:Ğ Nat):Prop:=∀ i,p.getD i 0 < n
theorem allLt_of (h1:1<=n)(h:∀ x∈p.toList,x < n):AllLt n p:=λ i=>by
 rw[ĳ]
 cases e:p[i]? with
 | none=>exact h1
 | some x=>exact h x (by rw[pe];exact Array.mem_of_getElem? e)
theorem AllLt.rev (h1:1<=n)(h:AllLt n p)(i j:Nat):AllLt n (ag p i j):=allLt_of h1 λ x hx=>by
 have:x∈p.toList:=by
  have hp:=(uj p i j ((j - i) / 2))
  exact(dS.mp hp).mem_iff.mp hx
 obtain⟨k,hk,e⟩:=ĩ this
 have:=h k
 rw[ĳ]at this
 have e2:p[k]? = À x:=by rw[<-ś,Å hk,e]
 rw[e2]at this
 exact this
theorem AllLt.bub (h1:1<=n)(h:AllLt n p)(i j:Nat):AllLt n (AQ p i j):=allLt_of h1 λ x hx=>by
 have:x∈p.toList:=(dS.mp (bubble_perm p i j)).mem_iff.mp hx
 obtain⟨k,hk,e⟩:=ĩ this
 have:=h k
 rw[ĳ]at this
 have e2:p[k]? = À x:=by rw[<-ś,Å hk,e]
 rw[e2]at this
 exact this
theorem Cw (h:AllLt n p):∀ (f m:Nat),qu n (λ _=>True) (aA p f m)
 | 0,m=>trivial
 | f+1,m=>⟨h _,h _,λ b=>by
  show qu n _ (if b=true then .ret m else aA p f (m+1))
  split
  ·trivial
  ·exact Cw h f (m+1)⟩
theorem uO (h1:1<=n):∀ (f:Nat) {p:Ğ Nat}(m q:Nat),AllLt n p->qu n (λ r=>AllLt n r.1) (ĸ f p m q)
 | 0,p,m,q,h=>h
 | f+1,p,m,q,h=>⟨h _,h _,λ b=>by
  show qu n _ (if b=true then (if q > 0 then ĸ f (ag p (m - (q+1)) m) (m+1) 0 else ĸ f p (m+1) 0) else .ask (p.getD (m - 1) 0) (p.getD m 0) λ d=>if d=true then .ret (p,m,q) else ĸ f p (m+1) (q+1))
  split
  ·split
   ·exact uO h1 f _ _ (h.rev h1 _ _)
   ·exact uO h1 f _ _ h
  ·refine⟨h _,h _,λ d=>?_⟩
   show qu n _ (if d=true then .ret (p,m,q) else ĸ f p (m+1) (q+1))
   split
   ·exact h
   ·exact uO h1 f _ _ h⟩
theorem BR (h1:1<=n){p:Ğ Nat}(h:AllLt n p)(m nrem:Nat):qu n (λ r=>AllLt n r.2) (pB m nrem p):=by
 have a:=Cw (h.rev h1 0 m) (nrem - m) m
 unfold pB
 refine qu.bind (Pq:=λ r:Nat × Ğ Nat=>AllLt n r.2) (λ q _=>?_) a
 exact h.rev h1 0 m
theorem tH (h1:1<=n){p:Ğ Nat}(h:AllLt n p)(m nrem:Nat):qu n (λ r=>AllLt n r.2) (bx m nrem p):=
 qu.bind (λ r hr=>by
  show qu n _ (if r.2.2 > 0 then _ else _)
  split
  ·exact BR h1 (AllLt.rev h1 hr _ _) _ _
  ·exact BR h1 hr _ _) (uO h1 _ _ _ h)
theorem Hx (h1:1<=n){p:Ğ Nat}(h:AllLt n p)(nrem:Nat):qu n (λ r=>AllLt n r.2) (hU nrem p):=
 qu.bind (λ m _=>by
  show qu n _ (if (m == nrem)=true then .ret (m,p) else if m > 1 then .ask (p.getD 0 0) (p.getD (m - 1) 0) λ c=>if c=true then .ret (m,p) else bx m nrem (ag p 0 m) else bx m nrem p)
  split
  ·exact h
  ·split
   ·refine⟨h _,h _,λ c=>?_⟩
    show qu n _ (if c=true then .ret (m,p) else bx m nrem (ag p 0 m))
    split
    ·exact h
    ·exact tH h1 (h.rev h1 _ _) _ _
   ·exact tH h1 h _ _) (Cw h _ _)
theorem wc (h:AllLt n p)(k:Nat):∀ (f l r:Nat),qu n (λ _=>True) (ő p k f l r)
 | 0,l,r=>trivial
 | f+1,l,r=>by
  show qu n _ (if l ≥ r then .ret l else .ask (p.getD k 0) (p.getD ((l+r) / 2) 0) λ c=>if c=true then ő p k f l ((l+r) / 2) else ő p k f ((l+r) / 2+1) r)
  split
  ·trivial
  ·refine⟨h _,h _,λ c=>?_⟩
   show qu n _ (if c=true then ő p k f l ((l+r) / 2) else ő p k f ((l+r) / 2+1) r)
   split
   ·exact wc h k f _ _
   ·exact wc h k f _ _
theorem Hj (h1:1<=n):∀ (f:Nat) {p:Ğ Nat}(k:Nat),AllLt n p->qu n (λ _=>True) (DP f p k)
 | 0,p,k,h=>trivial
 | f+1,p,k,h=>qu.bind (λ l _=>Hj h1 f _ (h.bub h1 _ _)) (wc h k k 0 k)
theorem N8 (h1:1<=n):qu n (λ _=>True) (ui n):=
 qu.bind (λ r hr=>by
  show qu n _ (if r.1 < n then _ else _)
  split
  ·exact Hj h1 _ _ hr
  ·trivial) (Hx h1 (allLt_of h1 λ x hx=>by simpa using hx) n)
theorem Pb (hc:∀ i j C,i < n->j < n->C (lt i j) s->cmp i j C s):∀ {t:KasT α},qu n (λ _=>True) t->Q (ĭ lt t) s->t.kasWp cmp Q s
 | .ret a,_,h=>h
 | .ask i j k,hi,h=>hc i j _ hi.1 hi.2.1 (Pb hc (hi.2.2 _) h)
section
variable {prog:Ą}{w:ğ}{A:į}{E:Value->Ò->Prop}{s:Ò}{a:Addr}{vs:Á Value}
theorem N7 {O:KeyOrd}{key:Nat->O.α}{κ:yS}{P:aa7->Ò->Prop}(ho:s.heap.get? a=À (Ų "list" vs.toArray n)) (h2:2<=vs.length)(El:vs.length < 64)
  (hk:∀ h':Heap,(∀ b o,b≠a->s.heap.get? b=À o->h'.get? b=À o)->∀ Q:yS->Ò->Prop,Q κ { s with heap:=h' }->Ù (Ý prog w) A (keyKind' vs.toArray) Q (λ _ _=>False) { s with heap:=h' })
  (ha:∀ h':Heap,(∀ b o,b≠a->s.heap.get? b=À o->h'.get? b=À o)->∀ i j C,i < vs.length->j < vs.length->C (O.blt (key i) (key j)) { s with heap:=h' }->Ù (Ý prog w) A (keyLt' κ (vs.getD i ë) (vs.getD j ë)) C (λ _ _=>False) { s with heap:=h' })
  (h:∀ p:Ğ Nat,Aw key p vs.length->p.size=vs.length->p.Perm (ĥ (Ă vs.length))->P (.done (.ret .none)) { s with heap:=Tp s.heap a vs (ĥ (p.toList.map λ i=>vs.getD i ë)) }) :
  Ù (Ý prog w) A (fB.«list.sort» ⟨[.ref a],[]⟩) P E s:=by
 have hla:a < s.heap.objs.size:=Ð ho
 obtain⟨e1,Ā⟩:∃ e1,(s.heap.update a (ň λ _=>(#[]:Ğ Value))).get? a=À (Ų "list" #[] e1):=⟨_,abg ho λ _=>#[]⟩
 rw[abh]
 refine Â (listItems_at ho rfl ?_)
 refine Â (wZ ho rfl ?_ (by rw[Ú,ġ];lia) (ñ _))
 refine Â (Cb Ā rfl ?_)
 refine Â (Fx ?_ (by show vs.length<=_;rw[ġ];lia))
 refine Â (kn ?_ (ñ _))
 refine Ŋ ?_
 show Ù (Ý prog w) A _ P E { s with heap:=((s.heap.update a (ň λ _=>(#[]:Ğ Value))).push (Ų "tuple" vs.toArray 0)).push (Ų "list" #[] 0) }
 dsimp only
 have Lu:¬ vs.toArray.size < 2:=by rw[Ú];lia
 rw[Ö Lu,Ö Lu]
 have keep:∀ b o,b≠a->s.heap.get? b=À o->(((s.heap.update a (ň λ _=>(#[]:Ğ Value))).push (Ų "tuple" vs.toArray 0)).push (Ų "list" #[] 0)).get? b=À o:=λ b o hb e=>
  Ã _ (Ã _ ((ý _ _ (Ŝ hb)).trans e))
 refine Â (aW (hk _ keep _ ?_) (λ κ s0 hk=>hk) λ _ _ x=>x.elim)
 have ask:=Pb (cmp:=kas_ask prog w A κ vs) (lt:=aI O key) (s:={ s with heap:=((s.heap.update a (ň λ _=>(#[]:Ğ Value))).push (Ų "tuple" vs.toArray 0)).push (Ų "list" #[] 0) })
  (Q:=λ p Dv=>p=ĭ (aI O key) (ui vs.length)/\Dv={ s with heap:=((s.heap.update a (ň λ _=>(#[]:Ğ Value))).push (Ų "tuple" vs.toArray 0)).push (Ų "list" #[] 0) }) (λ i j C hi hj hC=>ha _ keep i j C hi hj hC) (N8 (by lia)) ⟨rfl,rfl⟩
 refine Â (aW (kat_run (Q:=λ uF s'=>∃ p:Ğ Nat,p.size=vs.length/\arrOf uF=p.map (kas_item (vs.toArray.zip vs.toArray))/\failedOf uF=none/\p=ĭ (aI O key) (ui vs.length)/\s'={ s with heap:=((s.heap.update a (ň λ _=>(#[]:Ğ Value))).push (Ų "tuple" vs.toArray 0)).push (Ų "list" #[] 0) })
  rfl h2 El (λ p' uF s' a1 a2 a3 a4=>⟨p',a1,a2,a3,a4.1,a4.2⟩) ask) ?_ λ _ _ e=>e)
 rintro⟨⟨⟩,uF⟩ s' ⟨p,hp,har,hf,rfl,rfl⟩
 dsimp only
 have Qg:=kat_snds rfl har
 have hsz:(ĥ ((ĭ (aI O key) (ui vs.length)).toList.map λ i=>vs.getD i ë)).size=vs.length:=by rw[Ú,Õ,Ź,hp]
 rw[Qg]
 have na:(((s.heap.update a (ň λ _=>(#[]:Ğ Value))).push (Ų "tuple" vs.toArray 0)).push (Ų "list" #[] 0)).get? a=À (Ų "list" #[] e1):=Ã _ (Ã _ Ā)
 refine Â (Cb na rfl ?_)
 refine Â (wZ na rfl ?_ (ñ _) (ě (kF hsz) (by rw[ġ];lia)))
 rw[hf]
 simp only[Xh,av,gy]
 obtain⟨q1,q2,q3⟩:=N9 (key:=key) (n:=vs.length) (by lia)
 exact Í (h _ q1 q2 q3)
end
end Mm
namespace L2
open PySem PySem.Spec PyProof.Rows
theorem Ũ.kY (x:Ũ P w H h a o):∃ u,h.get? a=À u:=by
 cases o with
 | lst xs=>obtain⟨_,_,_,_,e⟩:=x;exact⟨_,e⟩
 | tup xs=>obtain⟨_,_,_,⟨_,e,_⟩⟩:=x;exact⟨_,e⟩
 | dK kvs=>obtain⟨_,_,_,_,o,_,_,e,_⟩:=x;exact⟨_,e⟩
 | dT kvs=>obtain⟨_,_,_,_,o,_,_,e,_⟩:=x;exact⟨_,e⟩
 | set S n=>obtain⟨o,_,_,_,e,_⟩:=x;exact⟨_,e⟩
 | ins C dx fs=>obtain⟨_,_,_,e,_⟩:=x;exact⟨_,e⟩
 | own y=>obtain⟨_,e⟩:=x;exact⟨_,e⟩
 | xd fs=>obtain⟨_,⟨_,_,_,e,_⟩,_⟩:=x;exact⟨_,e⟩
 | Wy lo hi=>obtain⟨_,_,_,e⟩:=x;exact⟨_,e⟩
 | oZ ob u=>obtain⟨e,_⟩:=x;exact⟨_,e⟩
 | uW ps=>exact⟨_,show h.get? a=À _ from x⟩
 | met f y=>exact⟨_,show h.get? a=À _ from x⟩
 | ext φ=>obtain⟨_,⟨_,e⟩,_⟩:=x;exact⟨_,e⟩
theorem Inv.grown (I:Inv X Ä σ H s)(k:∀ b u,s.heap.get? b=À u->h'.get? b=À u)(e:∀ b u,s.heap.get? b=À u->H' b=H b)
  (new:∀ b o,s.heap.get? b=none->H' b=À o->Ũ X.prog X.w H' h' b o):Inv X Ä σ H' { s with heap:=h',toks:=t' }:=by
 have old:∀ b o,H b=À o->H' b=À o:=λ b o z=>by
  obtain⟨u,hu⟩:=(I.ļ b o z).kY
  rw[e b u hu];exact z
 refine I.un ⟨λ b u q _ _ _=>k b u q,λ b u q _ _ _=>⟨u.slots,k b u q⟩,λ b u q n _=>by rw[e b u q];exact n,λ b u q _=>⟨u,k b u q⟩,λ b xs q=>old b _ q,λ b u xs q=>old b _ q,λ b ps q=>⟨#[],by rw[old b _ q];simp⟩⟩ λ b o z=>?_
 cases hb:s.heap.get? b with
 | some u=>
  rw[e b u hb]at z
  exact(I.ļ b o z).p8 (λ c u _ q=>k c u q) (λ c q=>old c _ q) λ c xs q=>old c _ q
 | none=>exact new b o hb z
def Bv (a b:Str):Bool:=!decide (b.cps.toList < a.cps.toList)
def FU (a:Str):Á Str->Á Str
 | []=>[a]
 | b :: r=>if Bv a b=true then a :: b :: r else b :: FU a r
def ù:Á Str->Á Str
 | []=>[]
 | a :: r=>FU a (ù r)
theorem sE (a:Str):∀ l,(FU a l).Perm (a :: l)
 | []=>.refl _
 | b :: r=>by
  unfold FU
  split
  ·exact .refl _
  ·exact((sE a r).cons b).trans (.swap a b r)
theorem jR:∀ l,(ù l).Perm l
 | []=>.refl _
 | a :: r=>(sE a (ù r)).trans ((jR r).cons a)
abbrev oS:KeyOrd:=strKind.toKeyOrd
abbrev uN (a:Str):oS.α:=a.cps.toList
theorem i9:Bv a b=true ↔ oS.kle (uN a) (uN b):=by
 unfold Bv Xc
 show(!decide (b.cps.toList < a.cps.toList))=true ↔ decide (b.cps.toList < a.cps.toList)=false
 simp
theorem F7 (a b:Str)(h:Bv a b≠true):Bv b a=true:=by
 rw[i9]
 refine a9 λ z=>?_
 exact h (i9.mpr (dg z))
theorem yk (h:Bv a b=true)(k:Bv b c=true):Bv a c=true:=by
 rw[i9]at *
 exact ai h k
theorem vS (h:Bv a b=true)(k:Bv b a=true):a=b:=by
 rw[i9]at *
 have e:a.cps.toList=b.cps.toList:=jl h k
 cases a with|mk x=>cases b with|mk y=>exact ĵ Str.mk (uY.mp e)
theorem tX (a:Str):∀ {l:Á Str},l.Pairwise (λ x y=>Bv x y=true)->(FU a l).Pairwise (λ x y=>Bv x y=true)
 | [],_=>m_ _ _
 | b :: r,h=>by
  unfold FU
  split
  ·rename_i hb
   refine ł.mpr ⟨λ x hx=>?_,h⟩
   rcases Þ.mp hx with rfl|hx
   ·exact hb
   ·exact yk hb ((ł.mp h).1 x hx)
  ·rename_i hb
   refine ł.mpr ⟨λ x hx=>?_,tX a (ł.mp h).2⟩
   rcases Þ.mp ((sE a r).mem_iff.mp hx) with rfl|hx
   ·exact F7 _ _ hb
   ·exact(ł.mp h).1 x hx
theorem rD:∀ l,(ù l).Pairwise (λ x y=>Bv x y=true)
 | []=>oF
 | a :: r=>tX a (rD r)
theorem nZ {α:Type}{le:α->α->Bool}(LX:∀ a b,le a b=true->le b a=true->a=b):∀ {l q:Á α},l.Perm q->l.Pairwise (λ x y=>le x y=true)->q.Pairwise (λ x y=>le x y=true)->l=q
 | [],q,p,_,_=>(List.nil_perm.mp p).symm
 | a :: r,q,p,h,k=>by
  cases q with
  | nil=>exact absurd (p.length_eq) (by simp)
  | cons b t=>
   have Lo:a=b:=by
    rcases Þ.mp (p.mem_iff.mp ģ) with e|ha
    ·exact e
    ·rcases Þ.mp (p.mem_iff.mpr ģ) with e|hb
     ·exact e.symm
     ·exact LX _ _ ((ł.mp h).1 b hb) ((ł.mp k).1 a ha)
   subst Lo
   rw[nZ LX p.cons_inv (ł.mp h).2 (ł.mp k).2]
theorem mH {l q:Á Str}(p:l.Perm q)(h:l.Pairwise (λ x y=>Bv x y=true)):l=ù q:=
 nZ (λ _ _=>vS) (p.trans (jR q).symm) h (rD q)
theorem jc:∀ {l:Á Str},sortedS l=true->l.Pairwise (λ x y=>Bv x y=true)
 | [],_=>.nil
 | [a],_=>m_ _ _
 | a :: b :: r,h=>by
  have h:(!ltCps b.cps.toList a.cps.toList && risingS b r)=true:=h
  rw[Č]at h
  have ih:(b :: r).Pairwise (λ x y=>Bv x y=true):=jc h.2
  have Lo:Bv a b=true:=by
   have:=h.1
   rw[ltCps_eq]at this
   exact this
  refine ł.mpr ⟨λ x hx=>?_,ih⟩
  rcases Þ.mp hx with rfl|hx
  ·exact Lo
  ·exact yk Lo ((ł.mp ih).1 x hx)
theorem wA:∀ {l:Á Value}{ks:Á Str},l.length=ks.length->(∀ j (hj:j < ks.length),∃ t,l[j]? = À (.str ks[j] t))->Xe l ks
 | [],[],_,_=>.nil
 | [],_ :: _,h,_=>by simp at h
 | _ :: _,[],h,_=>by simp at h
 | v :: r,k :: q,h,g=>by
  obtain⟨t,e⟩:=g 0 (by simp)
  simp at e
  subst e
  exact .cons k t (wA (by simpa using h) λ j hj=>by
   obtain⟨t,e⟩:=g (j+1) (by simpa using hj)
   exact⟨t,by simpa using e⟩)
theorem ED {kvs:Á (Key × V)}(rel:KV kvs vs){ks:Á Str}(hk:kvs.map (·.1)=ks.map Ť) (e:vs[j]? = À (k,x)) (hj:j < ks.length):k=Ť ks[j]:=by
 have h1:(vs.map (·.1))=kvs.map (·.1):=by
  clear hk e
  unfold KV at rel
  induction rel with
  | nil=>rfl
  | cons h _ ih=>rw[Ó,Ó,ih,h.1]
 have h2:(vs.map (·.1))[j]? = À k:=by rw[ì,e];rfl
 rw[h1,hk,ì,Å hj]at h2
 exact(è h2).symm
def RV:Á V->Hp->VK->Prop:=λ xs H Q=>∃ (d:Addr)(kvs:Á (Key × V)) (ks:Á Str),xs=[.ref d]/\H d=À (.dK kvs)/\kvs.map (·.1)=ks.map Ť/\ks.length < 64/\∀ l,H l=none->Q (.ref l) (upd H l (.lst ((ù ks).map V.str)))
theorem CB {X:Cx}(hc:X.calm=true):cq X (.builtin "sorted") RV:=by
 rintro Ä s σ H xs us Q I rv ⟨d,kvs,ks,rfl,hH,hk,El,q⟩
 obtain⟨u,rfl,ru⟩:=rv.one
 cases (show u=Î d from ru)
 obtain⟨z,hd,vs,rel,dd⟩:=Ba I.ļ hH
 obtain⟨ep,Y8⟩:=dd.dictAt
 have Et:vs.length=ks.length:=by
  have h1:=ĵ bS hk
  have h2:=rel.length
  rw[Õ,Õ]at h1
  lia
 have hh:=I.ok.hd hc
 refine bE B' yZ yW (yT _) ?_
 unfold fB.«sorted»
 refine Â (m:=Fp "sorted" 1 1 _) (Í ?_)
 refine Â (PySem.W.kdu_collect (A:=X.A.in1) (PySem.W.kdl_dict (knd:=Ţ X.prog X.w) (kvs:=vs) (ep:=ep) hd) hh Y8 (by rw[<-rel.length];exact z) λ h' tk acc OZ UW=>?_)
 have hl:acc.toList.length=ks.length:=by rw[Ź,UW.1,Et]
 have hS:Xe acc.toList ks:=wA hl λ j hj=>by
  have Bm:j < acc.size:=by rw[<-Ź,hl];exact hj
  obtain⟨k,x,e1,e2⟩:=UW.2 j acc[j] (by rw[eJ Bm])
  have ek:k=Ť ks[j]:=ED rel hk e1 hj
  subst ek
  obtain⟨t,et⟩:=qp (show rK ks[j] acc[j]=true from e2)
  exact⟨t,by rw[ś,eJ Bm,et]⟩
 refine Â (kn ?_ (by rw[hl];exact Ė (ş (by lia))))
 have hoL:(h'.push (Ų "list" acc.toList.toArray 0)).get? h'.objs.size=À (Ų "list" acc.toList.toArray 0):=Ø _ rfl
 refine Â (Ŋ (ı Fu ⟨_,hoL,rfl⟩ Co (list_sort_treeK strKind_oneLt hoL hS.keysOf (λ v₁ v₂ rest e=>keyKind_strs (by rw[<-e];exact hS)) (by rw[hl];exact El) λ uF a1 a2=>⟨_,rfl,?_⟩) (Fj _)))
 obtain⟨Lz,h1,h2,h3⟩:=sorted_out_str hS a1 a2
 have e1:Lz=ù ks:=mH h2 (jc h3)
 subst e1
 have hold:∀ b u,s.heap.get? b=À u->b≠h'.objs.size:=λ b u e=>ç (Ð (OZ b u e))
 have hHn:H h'.objs.size=none:=by
  cases q0:H h'.objs.size with
  | none=>rfl
  | some o=>obtain⟨u,hu⟩:=(I.ļ _ o q0).kY;exact absurd rfl (hold _ u hu)
 obtain⟨ec,U5⟩:=G7 hoL (out:=(arrOf uF).map (·.2))
 refine Í ⟨_,rfl,.ref h'.objs.size,upd H h'.objs.size (.lst ((ù ks).map V.str)),?_,rfl,q _ hHn⟩
 refine I.grown (λ b u e=>?_) (λ b u e=>ã (hold b u e)) λ b o e z=>?_
 ·rw[Fv (hold b u e) (by rw[Ģ];exact mL (Ð (OZ b u e)))]
  exact Ã _ (OZ b u e)
 ·by_cases hb:b=h'.objs.size
  ·subst hb
   rw[û]at z
   cases z
   refine⟨by rw[Õ,h2.length_eq];exact Ė (ş (by lia)),_,ec,iM h1,?_⟩
   rw[U5]
  ·rw[ã hb]at z
   obtain⟨u,hu⟩:=(I.ļ b o z).kY
   rw[e]at hu;cases hu
end L2
namespace Mm
open PySem PySem.W PyProof.Rows
section
variable {prog:Ą}{w:ğ}{A:į}{E:Value->Ò->Prop}{s:Ò}{a:Addr}{vs:Á Value}
theorem BM {O:KeyOrd}{key:Nat->O.α}{κ:yS}{P:aa7->Ò->Prop}(ho:s.heap.get? a=À (Ų "list" vs.toArray n)) (El:vs.length < 64)
  (hk:∀ h':Heap,2<=vs.length->(∀ b o,b≠a->s.heap.get? b=À o->h'.get? b=À o)->∀ Q:yS->Ò->Prop,Q κ { s with heap:=h' }->Ù (Ý prog w) A (keyKind' vs.toArray) Q (λ _ _=>False) { s with heap:=h' })
  (ha:∀ h':Heap,(∀ b o,b≠a->s.heap.get? b=À o->h'.get? b=À o)->∀ i j C,i < vs.length->j < vs.length->C (O.blt (key i) (key j)) { s with heap:=h' }->Ù (Ý prog w) A (keyLt' κ (vs.getD i ë) (vs.getD j ë)) C (λ _ _=>False) { s with heap:=h' })
  (h:∀ p:Ğ Nat,Aw key p vs.length->p.size=vs.length->p.Perm (ĥ (Ă vs.length))->P (.done (.ret .none)) { s with heap:=Tp s.heap a vs (ĥ (p.toList.map λ i=>vs.getD i ë)) }) :
  Ù (Ý prog w) A (fB.«list.sort» ⟨[.ref a],[]⟩) P E s:=by
 by_cases h2:2<=vs.length
 ·exact N7 ho h2 El (λ h' k=>hk h' h2 k) ha h
 ·have hla:a < s.heap.objs.size:=Ð ho
  obtain⟨e1,Ā⟩:∃ e1,(s.heap.update a (ň λ _=>(#[]:Ğ Value))).get? a=À (Ų "list" #[] e1):=⟨_,abg ho λ _=>#[]⟩
  rw[abh]
  refine Â (listItems_at ho rfl ?_)
  refine Â (wZ ho rfl ?_ (by rw[Ú,ġ];lia) (ñ _))
  refine Â (Cb Ā rfl ?_)
  refine Â (Fx ?_ (by show vs.length<=_;rw[ġ];lia))
  refine Â (kn ?_ (ñ _))
  refine Ŋ ?_
  show Ù (Ý prog w) A _ P E { s with heap:=((s.heap.update a (ň λ _=>(#[]:Ğ Value))).push (Ų "tuple" vs.toArray 0)).push (Ų "list" #[] 0) }
  dsimp only
  have Lu:vs.toArray.size < 2:=by rw[Ú];lia
  rw[Ñ Lu,Ñ Lu]
  refine Â (Í ?_)
  rw[StateT.run_pure]
  refine Â (Í ?_)
  dsimp only
  have na:(((s.heap.update a (ň λ _=>(#[]:Ğ Value))).push (Ų "tuple" vs.toArray 0)).push (Ų "list" #[] 0)).get? a=À (Ų "list" #[] e1):=Ã _ (Ã _ Ā)
  refine Â (Cb na rfl ?_)
  refine Â (wZ na rfl ?_ (ñ _) (by rw[Array.size_map];show(pairsOf vs).size<=_;rw[pairsOf_size,ġ];lia))
  simp only[Xh,av,gy]
  have q:=h (ĥ (Ă vs.length)) (λ i j h3 h4=>by
   have:i=j:=by lia
   subst this;exact ź _) (by simp) (eG _)
  have e:ĥ ((ĥ (Ă vs.length)).toList.map λ i=>vs.getD i ë)=(vs.toArray.zip vs.toArray).map (·.2):=by
   apply uY.mp
   apply m7
   ·simp
   ·intro i h5 h6
    have hi:i < vs.length:=by simpa using h5
    simp[hi]
  rw[e]at q
  exact Í q
end
end Mm
namespace L2
open PySem PySem.Spec PyProof.Rows
def RT:V->Á V->Hp->VK->Prop:=λ x vs H Q=>∃ d kvs,x=.ref d/\vs=[]/\H d=À (.dK kvs)/\∀ v,H v=none->Q (.ref v) (upd H v (.ext λ h=>h.IsItemsView v d))
theorem Jh:Fy X "dict.items" RT:=by
 rintro Ä s σ H x xs v us Q I rx rv ⟨d,kvs,rfl,rfl,hH,q⟩
 cases rx
 cases rv
 obtain⟨z,hd,vs,rel,dd⟩:=Ba I.ļ hH
 refine qq fz dd.typeIs yO (xJ _) (meets_dict_items (Ţ X.prog X.w) d hd) ⟨⟨vs,dd⟩,?_⟩
 refine⟨.ref s.heap.objs.size,_,I.laid (a:=s.heap.objs.size) (o:=.ext λ h=>h.IsItemsView s.heap.objs.size d) (t':=s.toks) (λ _ _ q=>Ã _ q) (Ï _) ⟨⟨_,Ø _ rfl,rfl,rfl⟩,⟨_,Ø _ rfl⟩,λ h1 h2 ⟨o,e,r⟩ k=>⟨o,k o e,r⟩⟩,rfl,q _ (I.ļ.fresh (Ï _))⟩
def NY:Á V->Hp->VK->Prop:=λ xs H Q=>∃ (v d:Addr)(kvs:Á (Key × V)) (ks:Á Str),xs=[.ref v]/\H v=À (.ext λ h=>h.IsItemsView v d)/\H d=À (.dK kvs)/\kvs.map (·.1)=ks.map Ť/\ks.length < 64/\
 ∀ l H' ws,H l=none->(∀ b o,H b=À o->H' b=À o)->(∀ b,H' b=none->H b=none)->H' l=À (.lst ws)->ws.length=ks.length->
  (∀ (j:Nat) (k:Str),(ù ks)[j]? = À k->∃ a x,ws[j]? = À (.ref a)/\gP kvs (Ť k)=À x/\H a=none/\H' a=À (.tup [.str k,x]))->Q (.ref l) H'
theorem zF {as:Á Addr}(nd:as.Nodup)(hj:j < as.length):as.idxOf as[j]=j:=by
 have h1:=List.idxOf_lt_length_of_mem (m9 hj)
 exact(aY nd).mp (List.getElem_idxOf h1)
theorem Vq {kvs:Á (Key × V)}{vs:Á (Key × Value)}(rel:KV kvs vs){j:Nat}{k:Key}(e:vs[j]? = À (k,x)):∃ y,kvs[j]? = À (k,y)/\RelV y x:=by
 unfold KV at rel
 induction rel generalizing j with
 | nil=>simp at e
 | cons h _ ih=>
  cases j with
  | zero=>
   simp at e
   subst e
   exact⟨_,(by rw[List.getElem?_cons_zero];exact ĵ À (ng h.1 rfl)),h.2⟩
  | succ j=>exact ih (by simpa using e)
theorem Om {kvs:Á (Key × V)}{ks:Á Str}(hk:kvs.map (·.1)=ks.map Ť) (nd:ks.Nodup){j:Nat}{k:Str}(e:kvs[j]? = À (Ť k,y)):gP kvs (Ť k)=À y:=by
 induction kvs generalizing ks j with
 | nil=>simp at e
 | cons p r ih=>
  cases ks with
  | nil=>simp at hk
  | cons q t=>
   rw[Ó,Ó,Ŵ]at hk
   cases j with
   | zero=>
    simp at e
    subst e
    exact lP rfl
   | succ j=>
    have e:r[j]? = À (Ť k,y):=by simpa using e
    rw[lO]
    ·exact ih hk.2 (š.mp nd).2 e
    ·intro z
     have:k∈t:=by
      have h1:(r.map (·.1))[j]? = À (Ť k):=by rw[ì,e];rfl
      rw[hk.2]at h1
      have:=é h1
      obtain⟨k',h2,h3⟩:=Ŕ.mp this
      cases h3;exact h2
     rw[hk.1]at z
     have:q=k:=lb z
     subst this
     exact(š.mp nd).1 (by assumption)
theorem MP {kvs:Á (Key × V)}{vs:Á (Key × Value)}(rel:KV kvs vs):vs.map (·.1)=kvs.map (·.1):=by
 unfold KV at rel
 induction rel with
 | nil=>rfl
 | cons h _ ih=>rw[Ó,Ó,ih,h.1]
theorem ku (h:Q true s):Ù (Ý prog w) A (eqBool v v) Q E s:=by
 unfold eqBool
 refine Ŋ ?_
 rw[Ñ (pq v)]
 exact Â (cJ (Í h))
theorem vQ:∀ {as:Á Addr},(∀ (j:Nat)(a:Addr),as[j]? = À a->∃ (k:Str)(t:SJ)(x:Value),h.get? a=À { cls:=.type "tuple",data:=.seq #[.str k t,x] })->∃ fs,K8 h (as.map Î) fs/\(∀ v∈fs,∃ (x:Str)(t:SJ),v=.str x t)/\fs.length=as.length
 | [],_=>⟨[],wW,(λ v z=>nomatch z),rfl⟩
 | a :: r,g=>by
  obtain⟨k,t,x,e⟩:=g 0 a rfl
  obtain⟨fs,k1,k2,k3⟩:=vQ (as:=r) λ j b hb=>g (j+1) b (by simpa using hb)
  refine⟨.str k t :: fs,u_ e rfl rfl rfl k1,λ v hv=>?_,by simp[k3]⟩
  rcases Þ.mp hv with rfl|hv
  ·exact⟨k,t,rfl⟩
  ·exact k2 v hv
theorem A4 {X:Cx}(hc:X.calm=true):cq X (.builtin "sorted") NY:=by
 rintro Ä s σ H xs us Q I rv ⟨v,d,kvs,ks,rfl,hv,hH,hk,El,q⟩
 obtain⟨u,rfl,ru⟩:=rv.one
 cases (show u=Î v from ru)
 obtain⟨z,hd,vs,rel,dd⟩:=Ba I.ļ hH
 obtain⟨ep,Y8⟩:=dd.dictAt
 have Iu:s.heap.IsItemsView v d:=(I.ļ v _ hv).1
 have Io:kvs.length=ks.length:=by have h1:=ĵ bS hk;simpa using h1
 have Et:vs.length=ks.length:=by have h2:=rel.length;lia
 have nd:ks.Nodup:=by
  obtain⟨_,_,_,_,_,_,_,_,ndk⟩:=dd
  have e:vs.map (·.1)=kvs.map (·.1):=MP rel
  rw[e,hk]at ndk
  exact(Ř.mp ndk).imp λ h z=>h (ĵ Ť z)
 have hh:=I.ok.hd hc
 refine bE B' yZ yW (yT _) ?_
 unfold fB.«sorted»
 refine Â (m:=Fp "sorted" 1 1 _) (Í ?_)
 refine Â (PySem.W.kdx_collect (A:=X.A.in1) (knd:=Ţ X.prog X.w) (kvs:=vs) (ep:=ep) hh Iu Y8 (by rw[<-rel.length];exact z) λ h1 tk as OZ OU hG=>?_)
 have hl:(as.map Î).length=ks.length:=by rw[Õ,OU,Et]
 have ndA:as.Nodup:=hG.rise.imp λ h=>ç h
 have tup:∀ j (hj:j < ks.length),∃ (a:Addr) (t:SJ) (x:Value) (y:V),as[j]? = À a/\kvs[j]? = À (Ť ks[j],y)/\RelV y x/\h1.get? a=À { cls:=.type "tuple",data:=.seq #[.str ks[j] t,x] }:=λ j hj=>by
  have Bm:j < as.length:=by rw[OU,Et];exact hj
  obtain⟨key,k,x,e1,e2,e3⟩:=hG.pairs j as[j] (Å Bm)
  have ek:k=Ť ks[j]:=ED rel hk e1 hj
  subst ek
  obtain⟨t,et⟩:=qp (show rK ks[j] key=true from e2)
  subst et
  obtain⟨y,e4,e5⟩:=Vq rel e1
  exact⟨as[j],t,x,y,Å Bm,e4,e5,e3⟩
 refine Â (kn ?_ (by rw[hl];exact Ė (ş (by lia))))
 have hoL:(h1.push (Ų "list" (as.map Î).toArray 0)).get? h1.objs.size=À (Ų "list" (as.map Î).toArray 0):=Ø _ rfl
 have tupP:∀ h':Heap,(∀ b o,b≠h1.objs.size->(h1.push (Ų "list" (as.map Î).toArray 0)).get? b=À o->h'.get? b=À o)->∀ b o,h1.get? b=À o->h'.get? b=À o:=λ h' kk b o e=>kk b o (ç (Ð e)) (Ã _ e)
 refine Â (Ŋ (ı Fu ⟨_,hoL,rfl⟩ Co (Mm.BM (O:=oS) (key:=λ i=>uN (ks.getD i ⟨#[]⟩)) (κ:=tuples' true) hoL (by rw[hl];exact El) ?_ ?_ λ p p1 p2 p3=>⟨_,rfl,?_⟩) (Fj _)))
 ·intro h' h2 kk Q' hq
  obtain⟨fs,k1,k2,k3⟩:=vQ (h:=h') (as:=as) λ j a ha=>by
   have hj:j < ks.length:=by rw[<-Et,<-OU];exact(Æ.mp ha).1
   obtain⟨b,t,x,y,e1,_,_,e2⟩:=tup j hj
   rw[ha]at e1;cases e1
   exact⟨_,t,x,tupP h' kk _ _ e2⟩
  refine ug (T:=.type "str") k1 (by rw[k3,OU,Et];rw[hl]at h2;lia) (λ v hv=>?_) (by decide) ?_
  ·obtain⟨x,t,rfl⟩:=k2 v hv
   exact wX rfl
  ·have e:(bW "str" != bW "tuple")=true:=by decide
   rw[e];exact hq
 ·intro h' kk i j C hi hj hC
  rw[hl]at hi hj
  obtain⟨a,t,x,y,e1,e2,e3,e4⟩:=tup i hi
  obtain⟨b,t',x',y',f1,f2,f3,f4⟩:=tup j hj
  have g1:(as.map Î).getD i ë=.ref a:=by rw[ô,ì,e1];rfl
  have g2:(as.map Î).getD j ë=.ref b:=by rw[ô,ì,f1];rfl
  rw[g1,g2]
  have c1:uN (ks.getD i ⟨#[]⟩)=uN ks[i]:=by rw[ô,Å hi];rfl
  have c2:uN (ks.getD j ⟨#[]⟩)=uN ks[j]:=by rw[ô,Å hj];rfl
  have hC:C (oS.blt (uN ks[i]) (uN ks[j])) { s with heap:=h',toks:=tk }:=by rw[<-c1,<-c2];exact hC
  refine xf (tupP h' kk _ _ e4) rfl (tupP h' kk _ _ f4) rfl ?_
  refine dU (eqBool_str ?_)
  by_cases om:i=j
  ·subst om
   rw[e1]at f1;cases f1
   rw[e4]at f4
   injection f4 with f4
   injection f4 with _ _ f4 _
   injection f4 with f4 _
   have f4:=ĵ ud f4
   simp at f4
   obtain⟨_,rfl⟩:=f4
   rw[pq]
   refine iY (dU (ku (iY (vc ?_))))
   rw[oS.irrefl]at hC
   exact hC
  ·have vL:(ks[i] == ks[j])=false:=by
    rw[Ş]
    exact λ z=>om ((aY nd).mp z)
   rw[vL]
   exact xg (strKind_oneLt _ _ _ _ _ _ _ _ _ rfl rfl hC)
 ·-- the new heap
  let ts:Á HO:=(Ă ks.length).map λ j=>.tup [.str (ks.getD j ⟨#[]⟩),((kvs[j]?).map (·.2)).getD .Ē]
  let ws:Á V:=p.toList.map λ i=>.ref (as.getD i 0)
  let H':Hp:=λ b=>if b=h1.objs.size then À (.lst ws) else if b∈as then ts[as.idxOf b]? else H b
  have hold:∀ b u,s.heap.get? b=À u->b≠h1.objs.size:=λ b u e=>ç (Ð (OZ b u e))
  have Y7:∀ b∈as,b < h1.objs.size:=λ b hb=>hG.there hb
  have xq:∀ b u,s.heap.get? b=À u->b∉as:=λ b u e hb=>absurd (Ð e) (iX.mpr (Ė (hG.above b hb)))
  have O0:∀ b,(∀ u,s.heap.get? b≠À u)->H b=none:=λ b hb=>by
   cases q0:H b with
   | none=>rfl
   | some o=>obtain⟨u,hu⟩:=(I.ļ _ o q0).kY;exact absurd hu (hb u)
  have e0:H h1.objs.size=none:=O0 _ λ u e=>hold _ u e rfl
  have eas:∀ b∈as,H b=none:=λ b hb=>O0 _ λ u e=>xq _ u e hb
  have eH:∀ b o,H b=À o->H' b=À o:=λ b o e=>by
   obtain⟨u,hu⟩:=(I.ļ _ o e).kY
   show(if b=h1.objs.size then À (.lst ws) else if b∈as then ts[as.idxOf b]? else H b)=_
   rw[Ö (hold b u hu),Ö (xq b u hu)];exact e
  have eat:∀ j (hj:j < ks.length),∃ a y,as[j]? = À a/\kvs[j]? = À (Ť ks[j],y)/\H' a=À (.tup [.str ks[j],y]):=λ j hj=>by
   obtain⟨a,t,x,y,g1,g2,g3,g4⟩:=tup j hj
   obtain⟨Bm,ga⟩:=Æ.mp g1
   refine⟨a,y,g1,g2,?_⟩
   have ma:a∈as:=é g1
   show(if a=h1.objs.size then À (.lst ws) else if a∈as then ts[as.idxOf a]? else H a)=_
   rw[Ö (ç (Y7 a ma)),Ñ ma]
   have:as.idxOf a=j:=by rw[<-ga];exact zF ndA Bm
   rw[this]
   simp[ts,hj,g2]
  have pr:p.toList.Perm (Ă ks.length):=by
   have:=dS.mp p3
   rw[hl]at this
   simpa using this
  have pl:p.toList.length=ks.length:=by rw[pr.length_eq,gR]
  have X6:∀ i∈p.toList,i < ks.length:=λ i hi=>by simpa using pr.mem_iff.mp hi
  have Sb:p.toList.map (λ i=>ks.getD i ⟨#[]⟩)=ù ks:=by
   refine mH ?_ ?_
   ·have h5:=pr.map (λ i=>ks.getD i ⟨#[]⟩)
    have e5:(Ă ks.length).map (λ i=>ks.getD i ⟨#[]⟩)=ks:=by
     apply m7
     ·simp
     ·intro i h6 h7
      simp[h7]
    rw[e5]at h5
    exact h5
   ·rw[Ř,lT]
    intro i j hi hj om
    rw[i9]
    have:=p1 i j (Ė om) (by rw[hl,<-pl];exact hj)
    unfold Mm.fQ at this
    have gi:p.getD i 0=p.toList[i]:=by rw[ĳ,<-ś,Å hi];rfl
    have gj:p.getD j 0=p.toList[j]:=by rw[ĳ,<-ś,Å hj];rfl
    rw[gi,gj]at this
    exact this
  refine Í ⟨_,rfl,.ref h1.objs.size,H',?_,rfl,?_⟩
  ·obtain⟨ec,U5⟩:=G7 hoL (out:=ĥ (p.toList.map λ i=>(as.map Î).getD i ë))
   have keep:∀ b u,h1.get? b=À u->(Tp (h1.push (Ų "list" (as.map Î).toArray 0)) h1.objs.size (as.map Î) (ĥ (p.toList.map λ i=>(as.map Î).getD i ë))).get? b=À u:=λ b u e=>by
    rw[Fv (ç (Ð e)) (by rw[Ģ];exact mL (Ð e))]
    exact Ã _ e
   refine I.grown (λ b u e=>keep b u (OZ b u e)) (λ b u e=>?_) λ b o e z=>?_
   ·show(if b=h1.objs.size then À (.lst ws) else if b∈as then ts[as.idxOf b]? else H b)=_
    rw[Ö (hold b u e),Ö (xq b u e)]
   ·have z:(if b=h1.objs.size then À (.lst ws) else if b∈as then ts[as.idxOf b]? else H b)=À o:=z
    by_cases hb:b=h1.objs.size
    ·rw[Ñ hb]at z
     cases z
     subst hb
     refine⟨by show(p.toList.map λ i=>V.ref (as.getD i 0)).length<=_;rw[Õ,pl];exact Ė (ş (by lia)),p.toList.map λ i=>(as.map Î).getD i ë,ec,?_,?_⟩
     ·have:∀ (l:Á Nat),(∀ i∈l,i < ks.length)->Vals (l.map λ i=>V.ref (as.getD i 0)) (l.map λ i=>(as.map Î).getD i ë):=by
       intro l
       induction l with
       | nil=>intro _;exact .nil
       | cons i r ih=>
        intro hi
        refine .cons ?_ (ih λ x hx=>hi x (õ _ hx))
        have h8:i < as.length:=by rw[OU,Et];exact hi i ģ
        show(as.map Î).getD i ë=Î (as.getD i 0)
        simp[h8]
      exact this _ X6
     ·rw[U5]
    ·rw[Ö hb]at z
     by_cases Y9:b∈as
     ·rw[Ñ Y9]at z
      obtain⟨j,hj,gj⟩:=ĩ Y9
      have Ay:j < ks.length:=by rw[<-Et,<-OU];exact hj
      obtain⟨a,t,x,y,g1,g2,g3,g4⟩:=tup j Ay
      rw[Å hj,gj]at g1
      cases g1
      rw[show as.idxOf b=j by rw[<-gj];exact zF ndA hj]at z
      have:o=.tup [.str ks[j],y]:=by
       have:ts[j]? = À (.tup [.str ks[j],y]):=by simp[ts,Ay,g2]
       rw[this]at z
       exact(è z).symm
      subst this
      exact⟨by show 2<=sizeLine;decide,[.str ks[j] t,x],.cons ⟨t,rfl⟩ (.cons g3 .nil),_,keep _ _ g4,rfl,0,rfl⟩
     ·rw[Ö Y9]at z
      obtain⟨u,hu⟩:=(I.ļ _ o z).kY
      rw[e]at hu;cases hu
  ·refine q h1.objs.size H' ws e0 eH (λ b hb=>?_) (by show(if h1.objs.size=h1.objs.size then À (HO.lst ws) else _)=_;rw[Ñ rfl]) (by show(p.toList.map _).length=_;rw[Õ,pl]) λ j k Ay=>?_
   ·cases q0:H b with
    | none=>rfl
    | some o=>rw[eH b o q0]at hb;cases hb
   ·rw[<-Sb,ì]at Ay
    cases Mf:p.toList[j]? with
    | none=>rw[Mf]at Ay;cases Ay
    | some i=>
     rw[Mf]at Ay
     have hi:i < ks.length:=X6 i (é Mf)
     have U7:ks[i]=k:=by
      have:ks.getD i ⟨#[]⟩=k:=è Ay
      rw[<-this];simp[hi]
     obtain⟨a,y,g1,g2,g3⟩:=eat i hi
     rw[U7]at g2 g3
     refine⟨a,y,?_,Om hk nd g2,eas a (é g1),g3⟩
     show(p.toList.map λ i=>V.ref (as.getD i 0))[j]? = _
     rw[ì,Mf]
     show À (V.ref (as.getD i 0))=_
     rw[ô,g1];rfl
end L2
namespace Mm
open PySem L2
def jd:Á (Key × AV)->Ë (Á Str)
 | []=>À []
 | (.inr x,_) :: r=>(jd r).map (x :: ·)
 | _ :: _=>none
theorem n6:∀ {kvs:Á (Key × AV)}{ks:Á Str},jd kvs=À ks->kvs.map (·.1)=ks.map Ť
 | [],_,h=>by cases h;rfl
 | (.inr x,v) :: r,ks,h=>by
  have h:(jd r).map (x :: ·)=À ks:=h
  cases e:jd r with
  | none=>rw[e]at h;cases h
  | some q=>rw[e]at h;cases h;rw[Ó,n6 e];rfl
 | (.inl x,v) :: r,ks,h=>by cases h
def pJ (m:Ev):fY:=λ env s=>(m env s).bind λ v s1=>match v with
 | .ref i=>need (j8 s1 i) λ kvs=>need (jd kvs) λ ks=>if ks.length < 64 then .ok ((ù ks).map .str) s1 else .bad
 | _=>.bad
def vD (m:Ev):fY:=λ env s=>(m env s).bind λ v s1=>match v with
 | .ref i=>need (j8 s1 i) λ kvs=>need (jd kvs) λ ks=>if ks.length < 64 then .ok ((ù ks).map λ k=>.tup [.str k,(Ů kvs (.inr k)).getD .Ē]) s1 else .bad
 | _=>.bad
section
variable {T:Tx}{XE:j6}{X:Cx}{pos:mT}
theorem IX (hm:X.mg "sorted"=none)(h:PE X e (tE T XE m)) (MB:X.calm=true:=by rfl)(hg:Gl X "sorted":=by rfl)(he:Ì [e] X.env=(false,Ć e X.env) :: Ì [] X.env:=by rfl) (fi:(Ĕ pos (Ì [] X.env)).any (·.1)=false:=by rfl) :
  PE X (.Call (.Name "sorted" p) [e] [] pos) (tL T XE (pJ m)):=
 PE.imp (dn (CB MB) hg hm ŕ (aN h eW he) (by decide) (by decide) he fi) λ σ H Q zz=>ŀ zz λ ρ env s hs he ho=>step hs he ho λ v s1 Ě H1 x _ u1 İ aM Ĝ Ā=>by
  cases v with
  | ref i=>
   obtain⟨kvs,e1,Ā⟩:=Ā.ó
   obtain⟨ks,e2,Ā⟩:=Ā.ó
   obtain⟨hl,Ā⟩:=Ā.ō
   obtain⟨a,qs,rfl,ea,h1,q1,q2⟩:=İ.zm (i6 e1) Ĝ
   exact⟨a,qs,ks,rfl,h1,by rw[<-q1];exact n6 e2,hl,λ l hl=>Ā.lst İ hl (Ħ.map (λ _=>iO) _)⟩
  | _=>exact Ā.elim
theorem IY (hm:X.mg "sorted"=none)(h:PE X e (tE T XE m)) (MB:X.calm=true:=by rfl)(hg:Gl X "sorted":=by rfl)
  (jL:Ŧ e "items" X.env (Ć e X.env)=Ć e X.env:=by rfl) (jM:(ap.endLine == cp.line)=true:=by rfl)
  (he:Ì [.Call (.Attribute e "items" ap) [] [] cp] X.env=(false,Ć (.Call (.Attribute e "items" ap) [] [] cp) X.env) :: Ì [] X.env:=by rfl) (fi:(Ĕ pos (Ì [] X.env)).any (·.1)=false:=by rfl) :
  PE X (.Call (.Name "sorted" p) [.Call (.Attribute e "items" ap) [] [] cp] [] pos) (tL T XE (vD m)):=
 PE.imp (dn (A4 MB) hg hm ŕ (aN (Dj fu fz Aq Jh h jL jM) eW he) (by decide) (by decide) he fi) λ σ H Q zz=>ŀ zz λ ρ env s hs he ho=>
  step hs he ho λ v s1 Ě H1 x _ u1 İ aM Ĝ Ā=>by
   cases v with
   | ref i=>
    obtain⟨kvs,e1,Ā⟩:=Ā.ó
    obtain⟨ks,e2,Ā⟩:=Ā.ó
    obtain⟨hl,Ā⟩:=Ā.ō
    obtain⟨a,qs,rfl,ea,h1,q1,q2⟩:=İ.zm (i6 e1) Ĝ
    refine⟨.inr (.inr (.inl ⟨rfl,.inl ⟨qs,h1⟩⟩)),a,qs,rfl,rfl,h1,λ v hv=>?_⟩
    refine⟨v,a,qs,ks,rfl,û,by rw[ã (Đ h1 hv)];exact h1,by rw[<-q1];exact n6 e2,hl,λ l H' ws Qc k1 k2 k3 k4 k5=>?_⟩
    have old:∀ b o,H1 b=À o->H' b=À o:=λ b o e=>k1 b o (by rw[ã (Đ e hv)];exact e)
    have Cd:H1 l=none:=by
     by_cases Et:l=v
     ·rw[Et];exact hv
     ·rw[ã Et]at Qc;exact Qc
    have up:Up Ě H1 Ě H':=⟨⟨aR,λ b xs e=>old b _ e,λ b o u e=>old b _ e⟩,λ b o e n=>⟨old b o e,n⟩,λ b e=>by
     have:=k2 b e
     by_cases UZ:b=v
     ·rw[UZ];exact hv
     ·rw[ã UZ]at this;exact this⟩
    have fm:SR T Ě s1 H':=İ.up up.toGr λ b hb=>by
     obtain⟨u,hu⟩:=İ.in hb
     rw[hu];exact old b u hu
    refine Ā Ě H' (.ref l) up fm ⟨l,ws,rfl,Cd,İ.out Cd,k3,?_⟩
    have len:(ù ks).length=ws.length:=by rw[(jR ks).length_eq,k4]
    have all:∀ (J_:Á Str) (Ai:Á V),J_.length=Ai.length->(∀ (j:Nat) (k:Str),J_[j]? = À k->∃ a' x,Ai[j]? = À (.ref a')/\gP qs (Ť k)=À x/\H' a'=À (.tup [.str k,x]))->Ħ T Ě H' (J_.map λ k=>AV.tup [.str k,(Ů kvs (.inr k)).getD .Ē]) Ai:=by
     intro J_
     induction J_ with
     | nil=>intro Ai vK _;cases Ai with|nil=>exact .nil|cons _ _=>simp at vK
     | cons k r ih=>
      intro Ai vK g
      cases Ai with
      | nil=>simp at vK
      | cons w Ai=>
       obtain⟨a',x,f1,f2,f3⟩:=g 0 k rfl
       simp at f1
       subst f1
       refine .cons (jT (hZ.of f3) (.cons iO (.one ?_))) (ih Ai (by simpa using vK) λ j k' hj=>g (j+1) k' (by simpa using hj))
       cases ev:Ů kvs (.inr k) with
       | none=>rw[(cV (.inr k) q1 q2).2 ev]at f2;cases f2
       | some v'=>
        obtain⟨x',ex,kx⟩:=(cV (.inr k) q1 q2).1 v' ev
        rw[f2]at ex;cases ex
        exact VR.up up kx
    exact all _ _ len λ j k hj=>by
     obtain⟨a',x,f1,f2,_,f3⟩:=k5 j k hj
     exact⟨a',x,f1,f2,f3⟩
   | _=>exact Ā.elim
end
end Mm
namespace Ro
open PySem L2 Mm
def abj (env:En):Nat:=match (env[(1:Nat)]?:Ë (Ë AV)) with
 | some (À (.int i))=>i.natAbs+1
 | _=>0
def OQ (env:En):Nat:=match (env[(4:Nat)]?:Ë (Ë AV)) with
 | some (À (.int i))=>i.natAbs+1
 | _=>0
def ow:AV:=.tup [.int 0,.int 1]
def md:Ms:=
 (ē (bL 1 (Ĺ (CL rm (Bt (AA (mv 0) oN (oS (mc (.int 63))))))))
 (ē (lW (P2 (cB (Û cM (mv 1) (Ĺ (cf Ü))))) (bL 1 (Ĺ (cf (Ê (mc (.int 7)) Ü)))) ŭ)
 (Ŭ (gp [((mc (.str "cells")),(mv 1)),((mc (.str "turn")),(mc (.int 0)))]))))
def dI:Á AV->S->R AV:=fe 2 md
def nB:Ms:=
 (ē (bL 2 (Û cw (Û Ļ (mv 0) (mc (.str "turn"))) (mc (.int 1))))
 (ē (rq (mv 0) (mc (.str "turn")) (mv 2))
 (ē (bL 3 (Û kC (mv 2) (zM jP (Ê (Û Ļ (mv 0) (mc (.str "cells"))) Ü))))
 (ē (bL 4 (Û Ŀ (Û Ļ (mv 0) (mc (.str "cells"))) (mv 3)))
 (ē (lW (cB (Û Gj (mv 4) (Û EN (mc (.int 10)) (mc (.int 18))))) (ē (Dw (zM nW (Ê (mv 4) (Ê (mv 1) Ü))) (gT 2 (Ĳ (nH (Û Ļ (mv 0) (mc (.str "cells"))) (mv 3)) (Ĳ (gN 6) gm))))
 (Ŭ (mv 6))) ŭ)
 (ē (bL 5 (Û kC (Û nY (Û cw (Û cw (Û kC (mv 4) (mc (.int 2147483629))) (Û nY (Û nY (mv 2) (mv 2)) (mc (.int 7919)))) (mc (.int 11))) (mc (.int 48271))) (mc (.int 2147483647))))
 (ē (bL 5 (Û kC (Û nY (mv 5) (mv 5)) (mc (.int 2147483587))))
 (Ŭ (Û kC (Û sS (Û kC (Û nY (Û cw (mv 5) (Û nY (mv 2) (mc (.int 104729)))) (mc (.int 39373))) (mc (.int 2147483629))) (mc (.int 64))) (mv 1))))))))))
def ė:Á AV->S->R AV:=fe 7 nB
def di (rf:Á AV->S->R AV):Ms:=
 (ē (lW (cB (Û uc (mv 1) (mc .Ē))) (Ŭ (Û uc (mv 0) (mc .Ē))) ŭ)
 (ē (lW (FD (cT (cj (dN "list") (mv 1))) (cT (cj (dN "tuple") (mv 1)))) (ē (lW (cB (Û oV (cj (dN "list") (mv 0)) (cj (dN "list") (mv 1)))) (Ŭ (mc (.bl false))) ŭ)
 (ē (lW (FD (cB (Û oV (cj (dN "tuple") (mv 0)) (cj (dN "tuple") (mv 1)))) (cB (Û oV (zM jP (Ê (mv 0) Ü)) (zM jP (Ê (mv 1) Ü))))) (Ŭ (mc (.bl false))) ŭ)
 (Ŭ (CL J9 (aE [("_law_one",none),("_law_other",none)] (Ki (mv 0) (mv 1)) (gT 2 (Ĳ (gN 0) (Ĳ (gN 1) gm))) j_ (ę 2 rf (Ê (mv 0) (Ê (mv 1) Ü)))))))) ŭ)
 (ē (lW (cT (cj (dN "str") (mv 1))) (Ŭ (Ga (cj (dN "str") (mv 0)) (Û cM (mv 0) (mv 1)))) ŭ)
 (Ŭ (Ga (cj (dN "int") (mv 0)) (Ga (cj Jw (cj (dN "bool") (mv 0))) (Û cM (mv 0) (mv 1))))))))
def Ĉ:Nat->Á AV->S->R AV
 | 0=>λ _ _=>.bad
 | n+1=>fe 2 (di (Ĉ n))
def kK:Ms:=
 (ē (p0 3 4 (Ê (zM yu (Ê (mv 0) Ü)) (Ê (zM yu (Ê (mv 1) Ü)) Ü)))
 (ē (N4 (λ env _=>OQ env) (cB (Û Dc (mv 4) (mc (.int 0)))) (p0 3 4 (Ê (mv 4) (Ê (Û kC (mv 3) (mv 4)) Ü))))
 (ē (bL 2 (VB (cB (Û Jv (mv 1) (mc (.int 0)))) (cj EM (mc (.int 1))) (mc (.int 1))))
 (Ŭ (gL (Ê (Û sS (Û nY (mv 2) (mv 0)) (mv 3)) (Ê (Û sS (Û nY (mv 2) (mv 1)) (mv 3)) Ü)))))))
def bJ:Á AV->S->R AV:=fe 5 kK
def mi:Ms:=
 (ē (bL 2 (Ĺ (Ib "str" rj (mc (.str "b aa zebra c quartzes ab m knows d mm likes z ba abcdefgh y zz e x f g hh jj kk pave")) (Ê (mc (.str " ")) Ü))))
 (Ŭ (Ĺ (aE [("_law_turn",none),("_law_some",À 2),("_law_state",À 0)] (BO (Ê (mv 1) Ü)) (gN 0) j_ (pS "list" yw (mv 1) (Ê (ę 2 ė (Ê (mv 2) (Ê (zM jP (Ê (mv 1) Ü)) Ü))) Ü))))))
def dJ:Á AV->S->R AV:=fe 3 mi
def nA:Ms:=
 (ē (bL 1 (Mu (Û Ŀ (Ĺ (cf (Ê (mc (.int 2)) (Ê (mc (.int 3)) (Ê (mc (.int 4)) (Ê (mc (.int 5)) (Ê (mc (.int 10)) (Ê (Û cw (mc (.int 1)) (ę 2 ė (Ê (mv 0) (Ê (mc (.int 60)) Ü)))) Ü)))))))) (ę 2 ė (Ê (mv 0) (Ê (mc (.int 6)) Ü))))))
 (Ŭ (ę 2 bJ (Ê (Û cw (mc (.int 1)) (ę 2 ė (Ê (mv 0) (Ê (mv 1) Ü)))) (Ê (mv 1) Ü)))))
def fc:Á AV->S->R AV:=fe 2 nA
end Ro
namespace L2
open PySem PySem.Spec PyProof.Rows
def ZM (O P:KeyOrd):KeyOrd where
 α:=O.α × P.α
 blt a b:=O.blt a.1 b.1 || (!O.blt b.1 a.1 && P.blt a.2 b.2)
 irrefl a:=by simp[O.irrefl,P.irrefl]
 trans a b c h k:=by
  simp only[oA,Č,lX]at h k ⊢
  rcases h with h|⟨h,h'⟩<;>rcases k with k|⟨k,k'⟩
  ·exact .inl (O.trans _ _ _ h k)
  ·exact .inl (Aj h k)
  ·exact .inl (KeyOrd.klt_of_kle_of_klt h k)
  ·exact .inr ⟨ai h k,P.trans _ _ _ h' k'⟩
 negTrans a b c h:=by
  simp only[oA,Č,lX]at h ⊢
  rcases h with h|⟨h,h'⟩
  ·exact(O.negTrans _ b.1 _ h).imp .inl .inl
  ·cases e1:O.blt a.1 b.1 with
   | true=>exact .inl (.inl rfl)
   | false=>
    cases e2:O.blt b.1 c.1 with
    | true=>exact .inr (.inl rfl)
    | false=>exact(P.negTrans _ b.2 _ h').imp (λ z=>.inr ⟨ai h e2,z⟩) λ z=>.inr ⟨ai e1 h,z⟩
 total a b h k:=by
  simp only[GR,Fc,Bool.not_eq_false']at h k
  have e:=O.total _ _ h.1 k.1
  refine ng e (P.total _ _ ?_ ?_)
  ·rcases h.2 with z|z
   ·rw[k.1]at z;cases z
   ·exact z
  ·rcases k.2 with z|z
   ·rw[h.1]at z;cases z
   ·exact z
def oI:KeyOrd where
 α:=Int
 blt a b:=decide (a < b)
 irrefl a:=by simp
 trans a b c h k:=by simp at *;lia
 negTrans a b c h:=by simp at *;lia
 total a b h k:=by simp at *;lia
theorem yC {X:Cx}{A:į}{O:KeyOrd}{κ:yS}{key:Nat->O.α}{as:Á Addr}{K:Value->Ò->Prop}{E:Value->Ò->Prop}(I:Inv X Ä σ H s)(El:as.length < 64)
  (hk:∀ (A:į) (h':Heap),2<=as.length->(∀ b o,s.heap.get? b=À o->h'.get? b=À o)->∀ Q:yS->Ò->Prop,Q κ { s with heap:=h' }->Ù (Ý X.prog X.w) A (keyKind' (as.map Î).toArray) Q (λ _ _=>False) { s with heap:=h' })
  (ha:∀ (h':Heap),(∀ b o,s.heap.get? b=À o->h'.get? b=À o)->∀ (i j:Nat) (a b:Addr) C,as[i]? = À a->as[j]? = À b->C (O.blt (key i) (key j)) { s with heap:=h' }->Ù (Ý X.prog X.w) A.in1 (keyLt' κ (.ref a) (.ref b)) C (λ _ _=>False) { s with heap:=h' })
  (q:∀ (p:Á Nat) (l:Addr) (s':Ò),p.Perm (Ă as.length)->p.Pairwise (λ i j=>O.kle (key i) (key j))->H l=none->Inv X Ä σ (upd H l (.lst (p.map λ i=>V.ref (as.getD i 0)))) s'->K (.ref l) s') :
  Ù (Ý X.prog X.w) A (Xi (as.map Î) >>= λ l=>cR [l] (call (.builtin "list.sort") [l]) >>= λ _=>ret l) (λ fin s'=>∃ v,fin=.done (.ret v)/\K v s') E s:=by
 have hl:(as.map Î).length=as.length:=Õ _
 refine Â (kn ?_ (by rw[hl];exact Ė (ş (by lia))))
 have hoL:(s.heap.push (Ų "list" (as.map Î).toArray 0)).get? s.heap.objs.size=À (Ų "list" (as.map Î).toArray 0):=Ø _ rfl
 have up:∀ h':Heap,(∀ b o,b≠s.heap.objs.size->(s.heap.push (Ų "list" (as.map Î).toArray 0)).get? b=À o->h'.get? b=À o)->∀ b o,s.heap.get? b=À o->h'.get? b=À o:=λ h' kk b o e=>kk b o (ç (Ð e)) (Ã _ e)
 refine Â (Ŋ (ı Fu ⟨_,hoL,rfl⟩ Co (Mm.BM (O:=O) (key:=key) (κ:=κ) hoL (by rw[hl];exact El) ?_ ?_ λ p p1 p2 p3=>⟨_,rfl,?_⟩) (Fj _)))
 ·intro h' h2 kk Q' hq
  exact hk _ h' (by rw[hl]at h2;exact h2) (up h' kk) Q' hq
 ·intro h' kk i j C hi hj hC
  rw[hl]at hi hj
  have g:∀ i (h:i < as.length),(as.map Î).getD i ë=.ref as[i]:=λ i h=>by rw[ô,ì,Å h];rfl
  rw[g i hi,g j hj]
  exact ha h' (up h' kk) i j _ _ C (Å hi) (Å hj) hC
 ·have pr:p.toList.Perm (Ă as.length):=by
   have:=dS.mp p3
   rw[hl]at this
   simpa using this
  have pl:p.toList.length=as.length:=by rw[pr.length_eq,gR]
  have X6:∀ i∈p.toList,i < as.length:=λ i hi=>by simpa using pr.mem_iff.mp hi
  refine Í ⟨_,rfl,q p.toList s.heap.objs.size _ pr ?_ (I.ļ.fresh (Ï _)) ?_⟩
  ·rw[lT]
   intro i j hi hj om
   have:=p1 i j (Ė om) (by rw[hl,<-pl];exact hj)
   unfold Mm.fQ at this
   have g:∀ i (h:i < p.toList.length),p.getD i 0=p.toList[i]:=λ i h=>by rw[ĳ,<-ś,Å h];rfl
   rw[g i hi,g j hj]at this
   exact this
  ·obtain⟨ec,U5⟩:=G7 hoL (out:=ĥ (p.toList.map λ i=>(as.map Î).getD i ë))
   refine I.laid (a:=s.heap.objs.size) (t':=s.toks) (λ b u e=>?_) (Ï _) ⟨by rw[Õ,pl];exact Ė (ş (by lia)),p.toList.map λ i=>(as.map Î).getD i ë,ec,?_,U5⟩
   ·rw[Fv (ç (Ð e)) (by rw[Ģ];exact mL (Ð e))]
    exact Ã _ e
   ·have:∀ (l:Á Nat),(∀ i∈l,i < as.length)->Vals (l.map λ i=>V.ref (as.getD i 0)) (l.map λ i=>(as.map Î).getD i ë):=by
     intro l
     induction l with
     | nil=>intro _;exact .nil
     | cons i r ih=>
      intro hi
      refine .cons ?_ (ih λ x hx=>hi x (õ _ hx))
      have h8:i < as.length:=hi i ģ
      show(as.map Î).getD i ë=Î (as.getD i 0)
      simp[h8]
    exact this _ X6
end L2
namespace Dx
open PySem PySem.W PyProof.Rows
section
variable {prog:Ą}{w:ğ}{A:į}{E:Value->Ò->Prop}{s:Ò}
abbrev Ql (own:Value)(f:Bool)(d:Addr)(i n ep:Nat)(x y:Value):Obj:={ cls:=.type "dict_itemiterator",data:=.fields #[own,.bool f,.ref d,.int i 0,.int n 0,.int ep 0,x,y] }
abbrev pr (e:AD):Obj:={ cls:=.type "tuple",data:=.seq #[e.key,e.val] }
def Wk (h:Heap)(it d S:Addr)(i n ep:Nat):Prop:=∃ own f x y,h.get? it=À (Ql own f d i n ep x y)/\(own=.none∨∃ (a:Addr) (oa:Obj),own=ŧ a/\h.get? a=À oa/\a≠it/\a≠S)
theorem O3:Oy ((Manifest.find? "dict_itemiterator").elim "dict_itemiterator" λ x=>x.tpName)=true:=by decide +kernel
theorem vB {hp h1 h6:Heap}(S3:it < hp.objs.size)(s1:eL it hp h1)(s6:eL it (h1.push (pr e)) h6) (k6:h6.get? it=À (Ql (ŧ (a:Addr)) f d i n ep x y)) (ha:h6.get? a=À oa)(S0:a≠it)(haS:a≠S) :
  Wk h6 it d S i n ep/\h6.get? hp.objs.size=À (pr e)/\h6.objs.size=hp.objs.size+1/\∀ b o,b≠it->hp.get? b=À o->h6.get? b=À o:=
 ⟨⟨_,f,x,y,k6,.inr ⟨a,oa,rfl,ha,S0,haS⟩⟩,by rw[s6.2 _ (đ S3),<-s1.1];exact Ø _ rfl,by rw[s6.1,Ģ,s1.1],
  λ b o hb z=>by rw[s6.2 b hb];exact Ã _ ((s1.2 b hb).trans z)⟩
theorem Gh {od:Obj}{Q:Ë Value->Ò->Prop}(hw:Wk s.heap it d S i es.size ep)(hS:S < s.heap.objs.size)(MD:s.heap.get? d=À od)(hd:od.data=.dict es ep)(hi:i < es.size)
   (hQ:∀ h',Wk h' it d S (i+1) es.size ep->h'.get? s.heap.objs.size=À (pr es[i])->h'.objs.size=s.heap.objs.size+1->(∀ b o,b≠it->s.heap.get? b=À o->h'.get? b=À o)->Q (À (.ref s.heap.objs.size)) { s with heap:=h' }):Ù (Ý prog w) A (lA (.ref it)) Q E s:=by
  obtain⟨hp,g,dr,tk,os⟩:=s
  obtain⟨o1,o2,o3,o4⟩:=od
  simp only at hd
  subst hd
  obtain⟨own,f,x,y,hit,ho⟩:=hw
  have hT:Pf ⟨hp,g,dr,tk,os⟩ (.ref it) "dict_itemiterator":=⟨_,hit,rfl⟩
  have S3:it < hp.objs.size:=Ð hit
  have em:(if (i:Int) < 0 then none else es[(i:Int).toNat]?)=À es[i]:=by rw[Ö (by lia),gU,eJ hi]
  unfold lA
  refine Â (km (Œ (name:=å "__next__") hT ř
    (ı ř hT ph ?_ (oX _))))
  unfold fB.«dict_itemiterator.__next__»
  wp_walk
  rw[em]
  have s1:eL it hp (hp.update it (ø λ x=>x.setIfInBounds (2+1) (ŧ ((i:Int)+1)))):=ť ..
  have k1:(hp.update it (ø λ x=>x.setIfInBounds (2+1) (ŧ ((i:Int)+1)))).get? it=À (Ql own f d (i+1) es.size ep x y):=ú _ hit rfl
  rcases ho with rfl|⟨a,oa,rfl,ha,S0,haS⟩
  · wp_walk
    rw[O3,Ñ rfl,Ö (by decide +kernel)]
    generalize hp.update it (ø λ x=>x.setIfInBounds (2+1) (ŧ ((i:Int)+1)))=h1 at *
    have k2:(h1.push (pr es[i])).get? it=_:=Ã _ k1
    have k3:=ú (ø λ x=>x.setIfInBounds 6 es[i].key) k2 rfl
    have k4:=ú (ø λ x=>x.setIfInBounds (6+1) es[i].val) k3 rfl
    have k5:=ú (ø λ x=>x.setIfInBounds 0 (ŧ h1.objs.size)) k4 rfl
    have k6:=ú (ø λ x=>x.setIfInBounds 1 (fD false)) k5 rfl
    have s6:=(((ť (h1.push (pr es[i])) it (ø λ x=>x.setIfInBounds 6 es[i].key)).trans (ť _ it (ø λ x=>x.setIfInBounds (6+1) es[i].val))).trans (ť _ it (ø λ x=>x.setIfInBounds 0 (ŧ h1.objs.size)))).trans (ť _ it (ø λ x=>x.setIfInBounds 1 (fD false)))
    have vL:h1.objs.size≠it:=by rw[s1.1];exact đ S3
    obtain⟨q1,q2,q3,q4⟩:=vB (S:=S) S3 s1 s6 k6 ((s6.2 _ vL).trans (Ø _ rfl)) vL (by rw[s1.1];exact đ hS)
    refine⟨_,rfl,Í ?_⟩
    rw[show h1.objs.size=hp.objs.size from s1.1]
    rw[show h1.objs.size=hp.objs.size from s1.1]at q1 q2 q3 q4
    exact hQ _ q1 q2 q3 q4
  · wp_walk
    rw[O3,Ñ rfl,Ö (by decide +kernel)]
    generalize hp.update it (ø λ x=>x.setIfInBounds (2+1) (ŧ ((i:Int)+1)))=h1 at *
    have k2:(h1.push (pr es[i])).get? it=_:=Ã _ k1
    have Y5:(h1.push (pr es[i])).get? a=À oa:=Ã _ ((s1.2 a S0).trans ha)
    show Ù _ _ (loadIfAlive ((a:Int).toNat)) _ _ _
    rw[gU]
    refine PySem.W.kdx_alive Y5 ?_
    cases f with
    | true=>
      wp_walk
      refine⟨_,rfl,Í ?_⟩
      obtain⟨q1,q2,q3,q4⟩:=vB (S:=S) S3 s1 (aaD _ _) k2 Y5 S0 haS
      rw[show h1.objs.size=hp.objs.size from s1.1]
      exact hQ _ q1 q2 q3 q4
    | false=>
      wp_walk
      have k3:=ú (ø λ x=>x.setIfInBounds 1 (fD true)) k2 rfl
      have s3:=ť (h1.push (pr es[i])) it (ø λ x=>x.setIfInBounds 1 (fD true))
      refine⟨_,rfl,Í ?_⟩
      obtain⟨q1,q2,q3,q4⟩:=vB (S:=S) S3 s1 s3 k3 ((s3.2 a S0).trans Y5) S0 haS
      rw[show h1.objs.size=hp.objs.size from s1.1]
      exact hQ _ q1 q2 q3 q4
theorem Gg {od:Obj}{Q:Ë Value->Ò->Prop}(hh:A.handled=none)(hit:s.heap.get? it=À (Ql own f d es.size es.size ep x y)) (MD:s.heap.get? d=À od)(hd:od.data=.dict es ep)
   (hQ:∀ h',(∀ b o,b≠it->s.heap.get? b=À o->h'.get? b=À o)->Q none { s with heap:=h' }):Ù (Ý prog w) A (lA (.ref it)) Q E s:=by
  obtain⟨hp,g,dr,tk,os⟩:=s
  obtain⟨o1,o2,o3,o4⟩:=od
  simp only at hd
  subst hd
  have hT:Pf ⟨hp,g,dr,tk,os⟩ (.ref it) "dict_itemiterator":=⟨_,hit,rfl⟩
  have em:(if (es.size:Int) < 0 then none else es[(es.size:Int).toNat]?)=none:=by rw[Ö (by lia),gU,Ci (Ï _)]
  unfold lA
  refine Â (km (Œ (name:=å "__next__") hT ř
    (ı ř hT ph ?_ (oX _))))
  unfold fB.«dict_itemiterator.__next__»
  wp_walk
  rw[em]
  wp_walk
  have hA:A.in1.handled=none:=hh
  simp only[raiseNew]
  refine Â (wpAny_handled ?_)
  rw[hA]
  refine Â (Í (wpAny_throw ?_))
  refine Â (YA (T:="StopIteration") (b:=true) ⟨_,Ø _ rfl,rfl⟩ isSubtype_stop (Í (hQ _ λ b o hb e=>?_)))
  exact Ã _ (Ã _ ((ý _ _ (Ŝ hb)).trans e))
theorem CU {od:Obj}{Q:Value->Ò->Prop}(hv:s.heap.IsItemsView v d)(MD:s.heap.get? d=À od)(hd:od.data=.dict es ep)
   (hQ:Q (.ref s.heap.objs.size) { s with heap:=s.heap.push (Ql .none false d 0 es.size ep .none .none) }):Ù (Ý prog w) A (To (.ref v)) Q E s:=by
  obtain⟨hp,g,dr,tk,os⟩:=s
  obtain⟨o1,o2,o3,o4⟩:=od
  simp only at hd
  subst hd
  have hT:=hv.typeIs (s:=⟨hp,g,dr,tk,os⟩)
  obtain⟨⟨v1,v2,v3,v4⟩,Zo,hcv,hdv⟩:=hv
  simp only at hcv hdv
  subst hcv hdv
  refine wpAny_pyIter_slot hT u9 (ı u9 hT PySem.F.entry_dict_items_iter ?_ (PySem.F.args_dict_items_iter_1 _))
  unfold fB.«dict_items.__iter__»
  wp_walk
  exact⟨_,rfl,"dict_itemiterator",_,⟨_,Ø _ rfl,rfl⟩,ř.lookup,hQ⟩
end
structure Got (es:Ğ AD)(bot:Addr)(h:Heap)(as:Á Addr):Prop where
 rise:as.Pairwise (· < ·)
 above:∀ a∈as,bot < a
 pairs:∀ (j:Nat) (a:Addr),as[j]? = À a->∃ e,es[j]? = À e/\h.get? a=À (pr e)
theorem Got.lt (g:Got es bot h as)(ha:a∈as):a < h.objs.size:=by
 obtain⟨j,hj⟩:=List.mem_iff_getElem?.mp ha
 obtain⟨_,_,e⟩:=g.pairs j a hj
 exact Ð e
theorem Got.keep (g:Got es bot h as)(k:∀ b o,bot < b->h.get? b=À o->h'.get? b=À o):Got es bot h' as:=⟨g.rise,g.above,λ j a hj=>by
 obtain⟨e,h1,h2⟩:=g.pairs j a hj
 exact⟨e,h1,k _ _ (g.above a (é hj)) h2⟩⟩
theorem Got.snoc (g:Got es bot h as)(hn:h.objs.size=n)(hl:bot < n)(hj:es[as.length]? = À e)(k:∀ b o,bot < b->h.get? b=À o->h'.get? b=À o)(he:h'.get? n=À (pr e)):Got es bot h' (as++[n]):=by
 subst hn
 have g':=g.keep k
 refine⟨List.pairwise_append.mpr ⟨g.rise,m_ _ _,λ a ha b hb=>by rw[ò.mp hb];exact g.lt ha⟩,λ a ha=>?_,λ j a Bm=>?_⟩
 ·rcases aQ.mp ha with ha|ha
  ·exact g.above a ha
  ·rw[ò.mp ha];exact hl
 ·rw[List.getElem?_append]at Bm
  split at Bm
  ·exact g'.pairs j a Bm
  ·rename_i Zh
   cases hz:j - as.length with
   | zero=>
    rw[hz]at Bm
    cases Bm
    have:j=as.length:=by lia
    subst this
    exact⟨e,hj,he⟩
   | succ m=>rw[hz]at Bm;cases Bm
structure Fl (h0 h:Heap)(S I d:Addr)(od:Obj)(es:Ğ AD)(ep:Nat)(acc:Ğ Value)(c:Nat)(as:Á Addr):Prop where
 wk:Wk h I d S as.length es.size ep
 dd:h.get? d=À od
 ls:h.get? S=À { cls:=.type "list",data:=.seq acc c }
 ac:acc.toList=as.map Î
 got:Got es I h as
 lt:I < h.objs.size
 old:∀ b o,b≠S->b≠I->h0.get? b=À o->h.get? b=À o
section
variable {prog:Ą}{w:ğ}{A:į}{E:Value->Ò->Prop}{s:Ò}{R:Tg->Ò->Prop}
theorem fill {od:Obj}{h0:Heap}(hh:A.handled=none)(P6:S < I)(XN:d≠S)(hId:d≠I)(hd:od.data=.dict es ep)(hz:es.size<=sizeLine)(res:Value)
  (hR:∀ h' tk acc c as,as.length=es.size->acc.toList=as.map Î->h'.get? S=À { cls:=.type "list",data:=.seq acc c }->Got es I h' as->(∀ b o,b≠S->b≠I->h0.get? b=À o->h'.get? b=À o)->R (.ok (.ret res)) { s with heap:=h',toks:=tk }) :
  ∀ (m:Nat) (h:Heap) (tk c:Nat) (acc:Ğ Value) (as:Á Addr),es.size - as.length=m->as.length<=es.size->Fl h0 h S I d od es ep acc c as->
   eM (Ý prog w) A (.builtin "list.extend.loop" ⟨[.ref S,.ref I,res],[]⟩) R { s with heap:=h,toks:=tk }:=by
 intro m
 induction m with
 | zero=>
  intro h tk c acc as hm hi F
  have e:as.length=es.size:=by lia
  obtain⟨own,f,x,y,hit,_⟩:=F.wk
  rw[e]at hit
  refine rM xK ?_
  rw[iP eA _]
  refine Â (m:=lA (.ref I)) (Gg (s:={ s with heap:=h,toks:=tk }) (A:=A.in1) hh hit F.dd hd λ h' k=>?_)
  exact Í (hR h' tk acc c as e F.ac (k _ _ (ç P6) F.ls) (F.got.keep λ b o hb z=>k b o (đ hb) z) λ b o h1 h2 z=>k b o h2 (F.old b o h1 h2 z))
 | succ m ih=>
  intro h tk c acc as hm hi F
  have Bo:as.length < es.size:=by lia
  have hsz:acc.size=as.length:=by rw[<-Ź,F.ac,Õ]
  refine rM xK ?_
  rw[iP eA _]
  refine Â (m:=lA (.ref I)) (Gh (s:={ s with heap:=h,toks:=tk }) F.wk (Ð F.ls) F.dd hd Bo λ h' w1 p1 z1 k=>?_)
  dsimp only at p1 z1 k ⊢
  have ls':=k S _ (ç P6) F.ls
  have up:∀ b o,b≠S->h'.get? b=À o->(h'.update S (ň (·.push (Î h.objs.size)))).get? b=À o:=λ b o hb e=>(ý _ _ (Ŝ hb)).trans e
  have vL:h.objs.size≠S:=đ (Ð F.ls)
  show Ù _ A.in1 (Yx S (·.push (Î h.objs.size)) >>= _) _ _ _
  refine Â (Cp ls' rfl (Í ⟨G5 eA _,ih _ tk _ (acc.push (.ref h.objs.size)) (as++[h.objs.size]) (by rw[þ];simp;lia) (by rw[þ];simp;lia) ⟨?_,up d _ XN (k d _ hId F.dd),ú _ ls' rfl,?_,?_,?_,λ b o h1 h2 e=>up b o h1 (k b o h2 (F.old b o h1 h2 e))⟩⟩) (by rw[hsz];lia) (by show(acc.push _).size<=sizeLine+1;rw[Array.size_push,hsz];lia))
  ·obtain⟨own,f,x,y,hit,ho⟩:=w1
   rw[þ,Ff]
   refine⟨own,f,x,y,up _ _ (đ P6) hit,?_⟩
   rcases ho with ho|⟨a,oa,e,ha,h1,h2⟩
   ·exact .inl ho
   ·exact .inr ⟨a,oa,e,up _ _ h2 ha,h1,h2⟩
  ·rw[Array.toList_push,F.ac,Š];rfl
  ·exact F.got.snoc rfl F.lt (eJ Bo) (λ b o hb e=>up b o (đ (Yi P6 hb)) (k b o (đ hb) e)) (up _ _ vL p1)
  ·rw[Heap.size_update]
   rw[z1];exact mL F.lt
theorem zw {od:Obj}(hh:A.handled=none)(hv:s.heap.IsItemsView r d)(MD:s.heap.get? d=À od)(hd:od.data=.dict es ep)(hz:es.size<=sizeLine)(hSr:S≠r)(XN:d≠S)(hS:s.heap.get? S=À { cls:=.type "list",data:=.seq #[] c })(res:Value)
  (hR:∀ h' tk acc c as,as.length=es.size->acc.toList=as.map Î->h'.get? S=À { cls:=.type "list",data:=.seq acc c }->Got es s.heap.objs.size h' as->(∀ b o,b≠S->s.heap.get? b=À o->h'.get? b=À o)->R (.ok (.ret res)) { s with heap:=h',toks:=tk }) :
  Ù (Ý prog w) A.in1 (rT (.ref S) (.ref r) res)
   (λ fin s'=>match fin with|.done f=>R (.ok f) s'|.again c'=>c'.quiet=true/\eM (Ý prog w) A c' R s') (λ e s'=>R (.error e) s') s:=by
 have P6:S < s.heap.objs.size:=Ð hS
 have hdI:d < s.heap.objs.size:=Ð MD
 have go:∀ (h:Heap) (c tk:Nat),(∀ b o,b≠S->(s.heap.push (Ql .none false d 0 es.size ep .none .none)).get? b=À o->h.get? b=À o)->h.get? S=À { cls:=.type "list",data:=.seq #[] c }->
   eM (Ý prog w) A (.builtin "list.extend.loop" ⟨[.ref S,.ref s.heap.objs.size,res],[]⟩) R { s with heap:=h,toks:=tk }:=λ h c tk k e=>by
  have hI:=k s.heap.objs.size _ (đ P6) (Ø _ rfl)
  refine fill (h0:=s.heap) hh P6 XN (ç hdI) hd hz res (λ h' tk' acc c' as e1 e2 e3 e4 e5=>hR h' tk' acc c' as e1 e2 e3 e4 λ b o hb z=>e5 b o hb (ç (Ð z)) z) es.size h tk c #[] [] rfl (ñ _)
   ⟨⟨_,_,_,_,hI,.inl rfl⟩,k d _ XN (Ã _ MD),e,rfl,⟨.nil,(λ _ z=>nomatch z),λ j a z=>by simp at z⟩,Ð hI,λ b o h1 _ z=>k b o h1 (Ã _ z)⟩
 have hT:=hv.typeIs
 unfold rT
 have h1:uH (.ref S) (.ref r)=false:=by simp[uH,hSr]
 refine Â (za hT ?_)
 rw[h1]
 refine Â (CU hv MD hd ?_)
 refine Â (Ŋ (PySem.W.kdx_hint (let ⟨o,ho,z,_⟩:=hv;⟨o,Ã _ ho,z⟩) ?_))
 have hS1:=Ã (Ql .none false d 0 es.size ep .none .none) hS
 dsimp only
 rw[Ñ (by decide +kernel)]
 refine Â (cJ (Â ?_))
 have k2:=ú (ň (·.push ë)) hS1 rfl
 show Ù _ _ (Yx S (·.push .none) >>= λ _=>Yx S (·.pop)) _ _ _
 refine Â (Cp hS1 rfl (Cp (hz:=by seq_fits) k2 rfl (Í ⟨G5 eA _,go _ _ _ (λ b o hb e=>?_) (ú (ň (·.pop)) k2 rfl)⟩)))
 rw[ý _ _ (Ŝ hb),ý _ _ (Ŝ hb)];exact e
theorem xm {R:Á Value->Ò->Prop}{od:Obj}(hh:A.handled=none)(hv:s.heap.IsItemsView r d)(MD:s.heap.get? d=À od)(hd:od.data=.dict es ep)(hz:es.size<=sizeLine)
  (h:∀ h' tk as,(∀ b o,s.heap.get? b=À o->h'.get? b=À o)->as.length=es.size->Got es s.heap.objs.size h' as->R (as.map Î) { s with heap:=h',toks:=tk }):Ù (Ý prog w) A (collect (.ref r)) R E s:=by
 have S6:=hv
 obtain⟨ov,Zo,Zv⟩:=S6
 have ro:=Ð Zo
 have do_:=Ð MD
 have nw:(s.heap.push { cls:=.type "list",data:=.seq ([]:Á Value).toArray }).get? s.heap.objs.size=À { cls:=.type "list",data:=.seq #[] }:=Ø _ rfl
 unfold collect
 obtain⟨RR,SY⟩:∃ RR:Tg->Ò->Prop,RR=λ q s'=>∃ h' tk acc c as,q=.ok (.ret (.ref s.heap.objs.size))/\s'={ s with heap:=h',toks:=tk }/\as.length=es.size/\acc.toList=as.map Î/\h'.get? s.heap.objs.size=À { cls:=.type "list",data:=.seq acc c }/\Got es s.heap.objs.size h' as/\∀ b o,s.heap.get? b=À o->h'.get? b=À o:=⟨_,rfl⟩
 refine Â (wpAny_runValue (qt (R:=RR) (rM entry_proto_collect' ?_) ?_))
 ·rw[iP PySem.F.plain_proto_collect _]
  refine Â (m:=Xi []) (Ŏ (Í ⟨G5 Ap _,rM entry_list_iadd' ?_⟩))
  rw[iP Ap _]
  refine zw (s:={ s with heap:=s.heap.push { cls:=.type "list",data:=.seq ([]:Á Value).toArray } }) hh ⟨ov,Ã _ Zo,Zv⟩ (Ã _ MD) hd hz (đ ro) (ç do_) nw _ λ h' tk acc c as e1 e2 e3 e4 e5=>?_
  rw[SY]
  exact⟨h',tk,acc,c,as,rfl,rfl,e1,e2,e3,⟨e4.rise,λ a ha=>bw (by show _<=(s.heap.push _).objs.size;rw[Ģ];exact mK _) (e4.above a ha),e4.pairs⟩,λ b o z=>e5 b o (ç (Ð z)) (Ã _ z)⟩
 ·intro q s' z
  rw[SY]at z
  obtain⟨h',tk,acc,c,as,rfl,rfl,e1,e2,e3,e4,e5⟩:=z
  show Ù _ A (load s.heap.objs.size >>= _) _ _ _
  refine Â (wpAny_load e3 (Í ?_))
  show R acc.toList _
  rw[e2];exact h h' tk as e5 e1 e4
end
section
variable {prog:Ą}{w:ğ}{A:į}{E:Value->Ò->Prop}{s:Ò}
theorem IJ {Q:Value->Ò->Prop}(hu:A.units < cLine)(h1:s.heap.get? a=À { cls:=.type "tuple",dict:=dd,data:=.seq #[.str x t,.int i u] n,slots:=sl })(h2:s.heap.get? b=À { cls:=.type "tuple",dict:=SW,data:=.seq #[.str y t',.int j u'] m,slots:=WC })
  (h:Q (.bool (if x == y then decide (i < j) else decide (x.cps.toList < y.cps.toList))) s) (vL:(x == y && i == j)=false):Ù (Ý prog w) A (Į .Lt (.ref a) (.ref b)) Q E s:=by
 have T1:s.TypeIs (.ref a) "tuple":=⟨_,h1,rfl⟩
 have T2:s.TypeIs (.ref b) "tuple":=⟨_,h2,rfl⟩
 show Ù (Ý prog w) A (richCompare .Lt (.ref a) (.ref b)) Q E s
 refine wpAny_richCompare_same_room T1 T2 B5 (ı B5 T1 PySem.F.entry_tuple_lt ?_ (PySem.F.args_tuple_lt_2 _ _)) hu
 obtain⟨hp,g,dr,tk,os⟩:=s
 unfold fB.«tuple.__lt__»
 have e1:∀ {A:į}{E:Value->Ò->Prop}{s:Ò}{Q:Bool->Ò->Prop},Q (x == y) s->Ù (Ý prog w) A (eqBool (.str x t) (.str y t')) Q E s:=λ h=>eqBool_str h
 have e2:∀ {A:į}{E:Value->Ò->Prop}{s:Ò}{Q:Bool->Ò->Prop},Q (decide (i=j)) s->Ù (Ý prog w) A (eqBool (.int i u) (.int j u')) Q E s:=λ h=>(yY prog w).eqBool (a:=i) (b:=j) (by simp[yY,lU]) (by simp[yY,lU]) h
 wp_walk
 refine Pl sub_tuple_self ?_
 generalize eqBool=EB at e1 e2 ⊢
 generalize hRC:richCompare=RC
 wp_walk
 simp only[KZ,List.zip_nil_right,jY,Ak]
 refine e1 ?_
 cases Zy:x == y with
 | false=>
  rw[Zy,Ö æ]at h
  subst hRC
  refine Â (cJ (Â (PySem.P.lt_str ?_)))
  exact Í (Í (Í ⟨_,rfl,by simp,h⟩))
 | true=>
  rw[Zy,Ñ rfl]at h
  rw[Zy,Bool.true_and]at vL
  refine Í ?_
  wp_walk
  refine e2 ?_
  rw[ÿ (by simpa using vL)]
  subst hRC
  refine Â (cJ (Â (PySem.P.lt_int ?_)))
  exact Í (Í (Í ⟨_,rfl,by simp,h⟩))
end
end Dx
namespace L2
open PySem PySem.Spec PyProof.Rows
abbrev oP:KeyOrd:=ZM oS oI
abbrev kP (k:Str × Int):oP.α:=(uN k.1,k.2)
abbrev eI (k:Str × Int):Á Key:=[.inr k.1,.inl k.2]
theorem nM (z:eI a=eI b):a=b:=by
 have:=KW z
 exact ng (lb this.1) (SI (KW this.2).1)
def yh (a b:Str × Int):Bool:=!oP.blt (kP b) (kP a)
def wx (l:Á (Str × Int)):Á (Str × Int):=l.mergeSort yh
theorem mB:yh a b=true ↔ oP.kle (kP a) (kP b):=by unfold yh Xc;simp
theorem IB (h:yh a b=true)(k:yh b a=true):a=b:=by
 have:=jl (mB.mp h) (mB.mp k)
 have e1:uN a.1=uN b.1:=ĵ (λ z:oP.α=>z.1) this
 refine ng (vS (i9.mpr ?_) (i9.mpr ?_)) (show a.2=b.2 from ĵ (λ z:oP.α=>z.2) this)
 ·rw[e1];exact ź _
 ·rw[e1];exact ź _
theorem wy (l:Á (Str × Int)):(wx l).Perm l:=cx l yh
theorem yj (h:yh a b=true)(k:yh b c=true):yh a c=true:=mB.mpr (ai (mB.mp h) (mB.mp k))
theorem yi (a b:Str × Int):(yh a b || yh b a)=true:=by
 cases h:yh a b with
 | true=>rfl
 | false=>rw[B1];exact mB.mpr (dg (by unfold yh at h;simpa[KeyOrd.klt]using h))
theorem Ab (l:Á (Str × Int)):(wx l).Pairwise λ a b=>yh a b=true:=
 f9 (le:=yh) (λ _ _ _=>yj) yi l
theorem wz {l q:Á (Str × Int)}(p:l.Perm q)(h:l.Pairwise λ a b=>yh a b=true):l=wx q:=
 nZ (λ _ _=>IB) (p.trans (wy q).symm) h (Ab q)
theorem Hm (vL:(a.1 == b.1 && a.2 == b.2)=false):oP.blt (kP a) (kP b)=if a.1 == b.1 then decide (a.2 < b.2) else decide (a.1.cps.toList < b.1.cps.toList):=by
 show(oS.blt (uN a.1) (uN b.1) || (!oS.blt (uN b.1) (uN a.1) && decide (a.2 < b.2)))=_
 cases e:a.1 == b.1 with
 | true=>
  have e:=eq_of_beq e
  rw[e,oS.irrefl];rfl
 | false=>
  rw[Ö æ]
  cases h1:oS.blt (uN a.1) (uN b.1) with
  | true=>exact h1.symm
  | false=>
   cases h2:oS.blt (uN b.1) (uN a.1) with
   | true=>exact h1.symm
   | false=>
    have:a.1=b.1:=vS (i9.mpr h2) (i9.mpr h1)
    rw[this,pq]at e;cases e
theorem Paired.at {R:α->β->Prop}{l:Á α}{m:Á β}(h:Paired R l m):∀ {j:Nat}{q:β},m[j]? = À q->∃ p,l[j]? = À p/\R p q:=by
 induction h with
 | nil=>intro j q e;simp at e
 | cons h _ ih=>
  intro j q e
  cases j with
  | zero=>simp at e;subst e;exact⟨_,rfl,h⟩
  | succ j=>exact ih (by simpa using e)
theorem E9 {κ:Type} [n9 κ] {k:κ}:∀ {kvs:Á (κ × V)}{j:Nat},(kvs.map (·.1)).Nodup->kvs[j]? = À (k,y)->gP kvs k=À y
 | [],_,_,e=>by simp at e
 | p :: r,0,_,e=>by simp at e;subst e;exact lP rfl
 | p :: r,j+1,nd,e=>by
  have e:r[j]? = À (k,y):=by simpa using e
  rw[Ó,š]at nd
  rw[lO λ z=>nd.1 (z ▸ Ŕ.mpr ⟨_,é e,rfl⟩)]
  exact E9 nd.2 e
theorem zK {P:Value->Prop}:∀ {as:Á Addr},(∀ (j:Nat) (a:Addr),as[j]? = À a->∃ (f:Value) (o:Obj) (r:Á Value) (n:Nat),h.get? a=À o/\o.cls=.type "tuple"/\o.data=.seq (f :: r).toArray n/\P f)->∃ fs,K8 h (as.map Î) fs/\(∀ v∈fs,P v)/\fs.length=as.length
 | [],_=>⟨[],wW,(λ v z=>nomatch z),rfl⟩
 | a :: r,g=>by
  obtain⟨f,o,x,n,e1,e2,e3,e4⟩:=g 0 a rfl
  obtain⟨fs,k1,k2,k3⟩:=zK (as:=r) λ j b hb=>g (j+1) b (by simpa using hb)
  refine⟨f :: fs,u_ e1 e2 e3 (by simp) k1,λ v hv=>?_,by simp[k3]⟩
  rcases Þ.mp hv with rfl|hv
  ·exact e4
  ·exact k2 v hv
def RY:Á V->Hp->VK->Prop:=λ xs H Q=>∃ (v d:Addr)(kvs:Á (Á Key × V)) (ks:Á (Str × Int)),xs=[.ref v]/\H v=À (.ext λ h=>h.IsItemsView v d)/\H d=À (.dT kvs)/\kvs.map (·.1)=ks.map eI/\ks.length < 64/\
 ∀ l H' ws,H l=none->(∀ b o,H b=À o->H' b=À o)->(∀ b,H' b=none->H b=none)->H' l=À (.lst ws)->ws.length=ks.length->
  (∀ (j:Nat) (k:Str × Int),(wx ks)[j]? = À k->∃ a b x,ws[j]? = À (.ref a)/\gP kvs (eI k)=À x/\H b=À (.tup [.str k.1,.int k.2])/\H' a=À (.tup [.ref b,x]))->Q (.ref l) H'
theorem zV {X:Cx}(I:Inv X Ä σ H s)(e:H b=À (.tup [.str x,.int i])):∃ t u dd n sl,s.heap.get? b=À { cls:=.type "tuple",dict:=dd,data:=.seq #[.str x t,.int i u] n,slots:=sl }:=by
 obtain⟨_,its,r,⟨o1,dd,o3,sl⟩,h1,h2,n,h3⟩:=(show Ũ X.prog X.w H s.heap b (.tup [.str x,.int i]) from I.ļ b _ e)
 cases r with
 | cons r1 r=>
  cases r with
  | cons r2 r=>
   cases r
   obtain⟨t,rfl⟩:=r1
   obtain⟨u,rfl⟩:=r2
   dsimp only at h2 h3
   subst h2 h3
   exact⟨t,u,dd,n,sl,h1⟩
theorem CF {X:Cx}(hc:X.calm=true)(hu:X.A.units+2 < cLine):cq X (.builtin "sorted") RY:=by
 rintro Ä s σ H xs us Q I rv ⟨v,d,kvs,ks,rfl,hv,hH,hk,El,q⟩
 obtain⟨u,rfl,ru⟩:=rv.one
 cases (show u=Î v from ru)
 obtain⟨z,hd,xs,rel,o,es,ep,h1,h2,h3,h4,h5⟩:=(show Ũ X.prog X.w H s.heap d (.dT kvs) from I.ļ d _ hH)
 have Iu:s.heap.IsItemsView v d:=(I.ļ v _ hv).1
 have Io:kvs.length=ks.length:=by have h1:=ĵ bS hk;simpa using h1
 have hxl:kvs.length=xs.length:=rel.length
 have hes:es.size=ks.length:=by rw[<-Ź,h4,Õ,<-hxl,Io]
 have nd:ks.Nodup:=by
  have e:xs.map (·.1)=ks.map eI:=by
   rw[<-hk]
   clear h4 h5 hk Io hxl z hH q
   induction rel with
   | nil=>rfl
   | cons h _ ih=>rw[Ó,Ó,ih,h.1]
  rw[e]at h5
  exact(Ř.mp h5).imp λ h z=>h (ĵ eI z)
 have hh:=I.ok.hd hc
 refine bE B' yZ yW (yT _) ?_
 unfold fB.«sorted»
 refine Â (m:=Fp "sorted" 1 1 _) (Í ?_)
 refine Â (Dx.xm (A:=X.A.in1) hh Iu h1 h3 (by rw[hes];exact Ė (ş (by lia))) λ hp tk as OZ OU hG=>?_)
 have hl:as.length=ks.length:=by rw[OU,hes]
 have ndA:as.Nodup:=hG.rise.imp λ h=>ç h
 have tup:∀ j (a:Addr),as[j]? = À a->∃ (hj:j < ks.length) (b:Addr) (x:Value) (y:V),kvs[j]? = À (eI ks[j],y)/\(xs[j]?).map (·.2.1)=À b/\RelV y x/\H b=À (.tup [.str ks[j].1,.int ks[j].2])/\hp.get? a=À { cls:=.type "tuple",data:=.seq #[.ref b,x] }:=λ j a ha=>by
  have hj:j < ks.length:=by rw[<-hl];exact(Æ.mp ha).1
  obtain⟨e,e1,e2⟩:=hG.pairs j a ha
  rw[<-ś,h4,ì]at e1
  cases e3:xs[j]? with
  | none=>rw[e3]at e1;cases e1
  | some y=>
   rw[e3]at e1
   cases e1
   obtain⟨p,f1,f2,f3,f4⟩:=Paired.at rel e3
   have f5:p.1=eI ks[j]:=by
    have:(kvs.map (·.1))[j]? = À p.1:=by rw[ì,f1];rfl
    rw[hk,ì,Å hj]at this
    exact(è this).symm
   rw[f5]at f3
   exact⟨hj,y.2.1,y.2.2,p.2,by rw[f1,<-f5],rfl,f4,f3,e2⟩
 let H1:Hp:=λ b=>if b∈as then À (.tup [.ref (((xs[as.idxOf b]?).map (·.2.1)).getD 0),((kvs[as.idxOf b]?).map (·.2)).getD .Ē]) else H b
 have xq:∀ b u,s.heap.get? b=À u->b∉as:=λ b u e hb=>absurd (Ð e) (iX.mpr (Ė (hG.above b hb)))
 have eas:∀ b∈as,H b=none:=λ b hb=>by
  cases q0:H b with
  | none=>rfl
  | some o=>obtain⟨u,hu⟩:=(I.ļ _ o q0).kY;exact absurd hb (xq b u hu)
 have at1:∀ j (a:Addr),as[j]? = À a->∃ (hj:j < ks.length) (b:Addr) (y:V),gP kvs (eI ks[j])=À y/\H b=À (.tup [.str ks[j].1,.int ks[j].2])/\H1 a=À (.tup [.ref b,y]):=λ j a ha=>by
  obtain⟨hj,b,x,y,g1,g2,g3,g4,g5⟩:=tup j a ha
  have hi:as.idxOf a=j:=by
   obtain⟨Bm,ga⟩:=Æ.mp ha
   rw[<-ga];exact zF ndA Bm
  refine⟨hj,b,y,?_,g4,?_⟩
  ·exact E9 (by rw[hk];exact Ř.mpr (nd.imp λ h z=>h (nM z))) g1
  ·show(if a∈as then _ else _)=_
   rw[Ñ (é ha),hi,g2,g1];rfl
 have I1:Inv X Ä σ H1 { s with heap:=hp,toks:=tk }:=by
  refine I.grown OZ (λ b u e=>Ö (xq b u e)) λ b o e z=>?_
  have z:(if b∈as then À (HO.tup [.ref (((xs[as.idxOf b]?).map (·.2.1)).getD 0),((kvs[as.idxOf b]?).map (·.2)).getD .Ē]) else H b)=À o:=z
  by_cases hb:b∈as
  ·rw[Ñ hb]at z
   obtain⟨j,hj,gj⟩:=ĩ hb
   obtain⟨_,k,x,y,g1,g2,g3,g4,g5⟩:=tup j b (by rw[Å hj,gj])
   rw[show as.idxOf b=j by rw[<-gj];exact zF ndA hj,g2,g1]at z
   cases z
   exact⟨by show 2<=sizeLine;decide,[.ref k,x],.cons rfl (.cons g3 .nil),_,g5,rfl,0,rfl⟩
  ·rw[Ö hb]at z
   obtain⟨u,hu⟩:=(I.ļ _ o z).kY
   rw[e]at hu;cases hu
 have old:∀ b o,H b=À o->H1 b=À o:=λ b o e=>by
  obtain⟨u,hu⟩:=(I.ļ _ o e).kY
  show(if b∈as then _ else H b)=_
  rw[Ö (xq b u hu)];exact e
 have kD:∀ i (hi:i < ks.length),kP (ks.getD i (⟨#[]⟩,0))=kP ks[i]:=λ i hi=>by rw[ô,Å hi];rfl
 refine yC (A:=X.A.in1) (O:=oP) (κ:=tuples' false) (key:=λ i=>kP (ks.getD i (⟨#[]⟩,0))) I1 (by rw[hl];exact El) ?_ ?_ ?_
 ·intro A h' h2 up Q' hq
  obtain⟨fs,k1,k2,k3⟩:=zK (h:=h') (P:=λ v=>∃ (b:Addr) (o:Obj),v=.ref b/\h'.get? b=À o/\o.cls=.type "tuple") (as:=as) λ j a ha=>by
   obtain⟨_,b,x,y,_,_,_,g4,g5⟩:=tup j a ha
   obtain⟨t,u,dd,n,sl,e⟩:=zV I1 (old _ _ g4)
   exact⟨.ref b,_,[x],0,up _ _ g5,rfl,rfl,b,_,rfl,up _ _ e,rfl⟩
  refine ug (T:=.type "tuple") k1 (by rw[k3];lia) (λ v hv=>?_) (by decide) ?_
  ·obtain⟨b,o,rfl,e1,e2⟩:=k2 v hv
   rw[<-e2]
   exact(Yu e1).andThen .now
  ·have e:(bW "tuple" != bW "tuple")=false:=by decide
   rw[e];exact hq
 ·intro h' up i j a b C ea eb hC
  obtain⟨hi,k,x,y,_,_,_,f4,f5⟩:=tup i a ea
  obtain⟨hj,k',x',y',_,_,_,g4,g5⟩:=tup j b eb
  obtain⟨t,u,dd,n,sl,e1⟩:=zV I1 (old _ _ f4)
  obtain⟨t',u',OM,n',WB,e2⟩:=zV I1 (old _ _ g4)
  rw[kD i hi,kD j hj]at hC
  refine xf (up _ _ f5) rfl (up _ _ g5) rfl (dU ?_)
  by_cases om:i=j
  ·subst om
   rw[ea]at eb;cases eb
   rw[f5]at g5
   injection g5 with g5
   injection g5 with _ _ g5 _
   injection g5 with g5 _
   have g5:=ĵ ud g5
   simp at g5
   obtain⟨rfl,rfl⟩:=g5
   refine ku (iY (dU (ku (iY (vc ?_)))))
   rw[oP.irrefl]at hC
   exact hC
  ·have vL:ks[i]≠ks[j]:=λ z=>om ((aY nd).mp z)
   have key:∀ {x:Str}{i:Int}{b:Addr}{t u:SJ}{dd:Ë Addr}{n:Nat}{sl:Ğ (Ë Value)},h'.get? b=À { cls:=.type "tuple",dict:=dd,data:=.seq #[.str x t,.int i u] n,slots:=sl }->IsTupleKey (Ţ X.prog X.w) h' (eI (x,i)) b:=λ {x i b t u dd n sl} e=>⟨_,_,n,e,rfl,rfl,.cons (ub _ _ x t) (.cons (ua _ _ i u) .nil)⟩
   refine wpAny_eqBool_tuple (x:=eI ks[i]) (y:=eI ks[j]) (by show X.A.units+1+1 < cLine;lia) (key (up _ _ e1)) (key (up _ _ e2)) ?_
   have hb:(ks[i].1 == ks[j].1 && ks[i].2 == ks[j].2)=false:=by
    rw[Fc]
    by_cases h1:ks[i].1=ks[j].1
    ·exact .inr (Ş.mpr λ h2=>vL (ng h1 h2))
    ·exact .inl (Ş.mpr h1)
   rw[show decide (eI ks[i]=eI ks[j])=false from ÿ λ z=>vL (nM z)]
   refine xg (PySem.W.kat_one _ _ (Dx.IJ (by show X.A.units+1+1 < cLine;lia) (up _ _ e1) (up _ _ e2) ?_ hb))
   rw[<-Hm hb];exact hC
 ·intro p l s' pr Sb Cd I2
  have e:p.map (λ i=>ks.getD i (⟨#[]⟩,0))=wx ks:=by
   refine wz ?_ (Ř.mpr (Sb.imp λ h=>mB.mpr h))
   have h5:=pr.map (λ i=>ks.getD i (⟨#[]⟩,0))
   rw[hl]at h5
   have e5:(Ă ks.length).map (λ i=>ks.getD i (⟨#[]⟩,0))=ks:=by
    apply m7
    ·simp
    ·intro i h6 h7
     simp[h7]
   rw[e5]at h5
   exact h5
  have Az:H l=none:=by
   cases q0:H l with
   | none=>rfl
   | some o=>rw[old l o q0]at Cd;cases Cd
  refine⟨.ref l,_,I2,rfl,q l _ (p.map λ i=>V.ref (as.getD i 0)) Az (λ b o h=>by rw[ã (Đ (old b o h) Cd)];exact old b o h) (λ b h=>?_) û (by rw[Õ,pr.length_eq,gR,hl]) λ j k Ay=>?_⟩
  ·cases q0:H b with
   | none=>rfl
   | some o=>rw[ã (Đ (old b o q0) Cd),old b o q0]at h;cases h
  ·rw[<-e,ì]at Ay
   cases Mf:p[j]? with
   | none=>rw[Mf]at Ay;cases Ay
   | some i=>
    rw[Mf]at Ay
    have hi:i < as.length:=by simpa using pr.mem_iff.mp (é Mf)
    obtain⟨Es,b,y,g1,g2,g3⟩:=at1 i as[i] (Å hi)
    have U7:ks[i]=k:=by
     have:ks.getD i (⟨#[]⟩,0)=k:=è Ay
     rw[<-this];simp[Es]
    rw[U7]at g1 g2
    refine⟨as[i],b,y,?_,g1,g2,?_⟩
    ·rw[ì,Mf]
     show À (V.ref (as.getD i 0))=_
     rw[ô,Å hi];rfl
    ·rw[ã (Đ g3 Cd)];exact g3
def RW (K:É):Á V->Hp->VK->Prop:=λ xs H Q=>∃ (l:Addr) (as:Á Addr) (ds:Á Int),xs=[.ref l]/\H l=À (.lst (as.map V.ref))/\ds.length=as.length/\(∀ (j:Nat) (a:Addr) (d:Int),as[j]? = À a->ds[j]? = À d->∃ r,hZ K H a (.int d :: r))/\ds.Nodup/\as.length < 64/\
 ∀ (p:Á Nat) (l':Addr),p.Perm (Ă as.length)->p.Pairwise (λ i j=>ds.getD i 0<=ds.getD j 0)->H l'=none->Q (.ref l') (upd H l' (.lst (p.map λ i=>V.ref (as.getD i 0))))
theorem tZ {prog:Ą}{w:ğ}{A:į}{C:Bool->Ò->Prop}(h:C false s):∀ (l:Á Value) (i:Nat),PySem.W.KatLex prog w A b false C (l.zip l) i s
 | [],_=>vc h
 | _ :: l,i=>dU (ku (iY (tZ h l (i+1))))
theorem yA:∀ {as:Á Addr}{us:Á Value},Vals (as.map V.ref) us->us=as.map Î
 | [],_,h=>by cases h;rfl
 | a :: r,_,h=>by
  cases h with
  | cons h t=>rw[Ó,<-yA t];exact ĵ (· :: _) h
theorem CD {X:Cx}(hc:X.calm=true):cq X (.builtin "sorted") (RW X.K):=by
 rintro Ä s σ H xs us Q I rv ⟨l,as,ds,rfl,hH,hl,ht,nd,El,q⟩
 obtain⟨u,rfl,ru⟩:=rv.one
 cases (show u=Î l from ru)
 obtain⟨_,its,n,rel,hL⟩:=(show Ũ X.prog X.w H s.heap l (.lst (as.map V.ref)) from I.ļ l _ hH)
 have:=yA rel
 subst this
 refine bE B' yZ yW (yT _) ?_
 unfold fB.«sorted»
 refine Â (m:=Fp "sorted" 1 1 _) (Í ?_)
 refine Â (collect_list (A:=X.A.in1) ⟨_,hL,rfl,n,rfl⟩ ?_ (by rw[Õ];exact Ė (ş (by lia))))
 have I1:Inv X Ä σ H { s with heap:=(s.heap.push (Ų "list" #[] 0)).update s.heap.objs.size (ň (·++(as.map Î).toArray)) }:=I.grown (t':=s.toks) (λ b u e=>by
  rw[ý _ _ (đ (Ð e))];exact Ã _ e) (λ _ _ _=>rfl) λ b o e z=>by
   obtain⟨u,hu⟩:=(I.ļ _ o z).kY
   rw[e]at hu;cases hu
 generalize { s with heap:=(s.heap.push (Ų "list" #[] 0)).update s.heap.objs.size (ň (·++(as.map Î).toArray)) }=s1 at I1
 have tup:∀ (j:Nat) (a:Addr),as[j]? = À a->∃ (t:SJ) (r:Á Value) (o:Obj) (n:Nat),s1.heap.get? a=À o/\o.cls=.type "tuple"/\o.data=.seq (.int (ds.getD j 0) t :: r).toArray n:=λ j a ha=>by
  have hj:j < ds.length:=by rw[hl];exact(Æ.mp ha).1
  obtain⟨r,e⟩:=ht j a ds[j] ha (Å hj)
  obtain⟨its,e1,⟨o,e2,e3,n,e4⟩,_⟩:=I1.tuple e
  cases e1 with
  | cons e5 e6=>
   obtain⟨t,rfl⟩:=e5
   exact⟨t,_,o,n,e2,e3,by rw[e4,ô,Å hj];rfl⟩
 refine yC (A:=X.A.in1) (O:=oI) (κ:=tuples' true) (key:=λ i=>ds.getD i 0) I1 El ?_ ?_ ?_
 ·intro A h' h2 up Q' hq
  obtain⟨fs,k1,k2,k3⟩:=zK (h:=h') (P:=λ v=>∃ (i:Int) (t:SJ),v=.int i t) (as:=as) λ j a ha=>by
   obtain⟨t,r,o,n,e1,e2,e3⟩:=tup j a ha
   exact⟨_,o,r,n,up _ _ e1,e2,e3,_,t,rfl⟩
  refine ug (T:=.type "int") k1 (by rw[k3];lia) (λ v hv=>?_) (by decide) ?_
  ·obtain⟨i,t,rfl⟩:=k2 v hv
   exact wX rfl
  ·have e:(bW "int" != bW "tuple")=true:=by decide
   rw[e];exact hq
 ·intro h' up i j a b C ea eb hC
  obtain⟨t,r,o,n,e1,e2,e3⟩:=tup i a ea
  obtain⟨t',r',o',n',f1,f2,f3⟩:=tup j b eb
  have hi:i < ds.length:=by rw[hl];exact(Æ.mp ea).1
  have hj:j < ds.length:=by rw[hl];exact(Æ.mp eb).1
  refine xf (up _ _ e1) e3 (up _ _ f1) f3 ?_
  by_cases om:i=j
  ·subst om
   rw[ea]at eb;cases eb
   rw[e1]at f1;cases f1
   rw[e3]at f3
   injection f3 with f3 _
   rw[<-f3,ÿ (Ņ _)]
   refine tZ ?_ _ _
   rw[show oI.blt (ds.getD i 0) (ds.getD i 0)=false from oI.irrefl _]at hC
   exact hC
  ·have vL:ds.getD i 0≠ds.getD j 0:=by
    rw[ô,ô,Å hi,Å hj]
    exact λ z=>om ((aY nd).mp z)
   refine dU ((yY X.prog X.w).eqBool (a:=ds.getD i 0) (b:=ds.getD j 0) (by simp[yY,lU]) (by simp[yY,lU]) ?_)
   rw[show decide (ds.getD i 0=ds.getD j 0)=false from ÿ vL]
   exact xg (PySem.W.kat_lt_int hC)
 ·intro p l' s' pr Sb Cd I2
  exact⟨.ref l',_,I2,rfl,q p l' pr (Sb.imp λ h=>by have h:decide _=false:=h;simpa using h) Cd⟩
end L2
namespace Mm
open PySem L2
theorem BP (h:n<=1000):n<=sizeLine:=Ė (ş h)
def R.wp {α:Type}:R α->(α->S->Prop)->Prop
 | .ok a s,Q=>Q a s
 | _,_=>False
def RS.wp:RS->(En->S->Prop)->(AV->S->Prop)->Prop
 | .nx e s,N,_=>N e s
 | .rt v s,_,T=>T v s
 | _,_,_=>False
theorem R.wp.mono {m:R α}(h:m.wp Q)(k:∀ a s,Q a s->Q' a s):m.wp Q':=by
 cases m with
 | ok a s=>exact k a s h
 | ex c s=>exact h.elim
 | bad=>exact h.elim
theorem RS.wp.mono {m:RS}(h:m.wp N T)(k:∀ a s,N a s->N' a s)(l:∀ a s,T a s->T' a s):m.wp N' T':=by
 cases m with
 | nx a s=>exact k a s h
 | rt a s=>exact l a s h
 | _=>exact h.elim
theorem R.wp.get {m:R α}(h:m.wp Q):∃ a s,m=.ok a s/\Q a s:=by
 cases m with
 | ok a s=>exact⟨a,s,rfl,h⟩
 | ex c s=>exact h.elim
 | bad=>exact h.elim
theorem R.wp.eq {m:R α}(h:m.wp (λ a s'=>a=v/\s'=s)):m=.ok v s:=by
 obtain⟨a,s',e,rfl,rfl⟩:=h.get;exact e
theorem pd (a:α)(s:S)(Q:α->S->Prop):(R.ok a s).wp Q=Q a s:=rfl
theorem wp_bind (m:R α)(f:α->S->R β)(Q:β->S->Prop):(m.bind f).wp Q=m.wp λ a s=>(f a s).wp Q:=by
 cases m<;>rfl
theorem aV (m:R α)(f:α->S->RS)(N:En->S->Prop)(T:AV->S->Prop):(m.cu f).wp N T=m.wp λ a s=>(f a s).wp N T:=by
 cases m<;>rfl
theorem E_ (m:R α)(Q:α->S->Prop):m.calm.wp Q=m.wp Q:=by
 cases m<;>rfl
theorem mS {α:Type}(c:Prop){_:ŷ c}(m:R α)(Q:α->S->Prop):(if c then m else .bad).wp Q=(c/\m.wp Q):=by
 by_cases h:c
 ·rw[Ñ h];exact fF ⟨λ k=>⟨h,k⟩,λ k=>k.2⟩
 ·rw[Ö h];exact fF ⟨λ k=>k.elim,λ k=>(h k.1).elim⟩
theorem Kz (c:Prop){_:ŷ c}(m:RS)(N:En->S->Prop)(T:AV->S->Prop):(if c then m else .bad).wp N T=(c/\m.wp N T):=by
 by_cases h:c
 ·rw[Ñ h];exact fF ⟨λ k=>⟨h,k⟩,λ k=>k.2⟩
 ·rw[Ö h];exact fF ⟨λ k=>k.elim,λ k=>(h k.1).elim⟩
theorem uX (c:Prop){_:ŷ c}{α:Type}(m n:R α)(Q:α->S->Prop):(if c then m else n).wp Q=if c then m.wp Q else n.wp Q:=by
 by_cases h:c
 ·rw[Ñ h,Ñ h]
 ·rw[Ö h,Ö h]
theorem KA (c:Prop){_:ŷ c}(m n:RS)(N:En->S->Prop)(T:AV->S->Prop):(if c then m else n).wp N T=if c then m.wp N T else n.wp N T:=by
 by_cases h:c
 ·rw[Ñ h,Ñ h]
 ·rw[Ö h,Ö h]
theorem rF (x:γ)(f:γ->R α)(Q:α->S->Prop):(need (À x) f).wp Q=(f x).wp Q:=rfl
theorem â:(([]:Á AV).length<=sizeLine)=True/\(∀ a:AV,([a].length<=sizeLine)=True)/\(∀ a b:AV,([a,b].length<=sizeLine)=True)/\(∀ a b c:AV,([a,b,c].length<=sizeLine)=True)/\
  (∀ a b c d e f:AV,([a,b,c,d,e,f].length<=sizeLine)=True)/\
  (([]:Á AV).length=0)=True/\(∀ a:AV,([a].length=1)=True)/\(∀ a b:AV,([a,b].length=2)=True)/\(∀ a b c:AV,([a,b,c].length=3)=True):=by
 refine⟨?_,?_,?_,?_,?_,?_,?_,?_,?_⟩<;>intros<;>first|exact yX rfl|exact yX (BP (by show(_:Nat)<=1000;simp))
theorem WS :
  (∀ (a b:Ms) (env:En) (s:S) (N:En->S->Prop) (T:AV->S->Prop),(ē a b env s).wp N T=(a env s).wp (λ e s1=>(b e s1).wp N T) T)/\
  (∀ (i:Nat) (m:Ev) (env:En) (s:S) (N:En->S->Prop) (T:AV->S->Prop),(bL i m env s).wp N T=(m env s).wp λ v s1=>N (env.set i (À v)) s1)/\
  (∀ (m:Ev) (env:En) (s:S) (N:En->S->Prop) (T:AV->S->Prop),(Ŭ m env s).wp N T=(m env s).wp T)/\
  (∀ (c:Eb) (a b:Ms) (env:En) (s:S) (N:En->S->Prop) (T:AV->S->Prop),(lW c a b env s).wp N T=(c env s).wp λ k s1=>if k=true then (a env s1).wp N T else (b env s1).wp N T)/\
  (∀ (m:Ev) (env:En) (s:S) (N:En->S->Prop) (T:AV->S->Prop),(au m env s).wp N T=(m env s).wp λ _ s1=>N env s1)/\
  (∀ (m:Ev) (g:Mt) (env:En) (s:S) (N:En->S->Prop) (T:AV->S->Prop),(Dw m g env s).wp N T=(m env s).wp λ v s1=>(g v env s1).wp N T)/\
  (∀ (i j:Nat) (a b:Ev) (env:En) (s:S) (N:En->S->Prop) (T:AV->S->Prop),(p0 i j (Ê a (Ê b Ü)) env s).wp N T=(a env s).wp λ v s1=>(b env s1).wp λ w s2=>N ((env.set i (À v)).set j (À w)) s2)/\
  (∀ (env:En) (s:S) (N:En->S->Prop) (T:AV->S->Prop),(ŭ env s).wp N T=N env s)/\
  (∀ (src:Src) (jj:Mt) (b:Ms) (env:En) (s:S) (N:En->S->Prop) (T:AV->S->Prop),(Dy src jj b env s).wp N T=(src env s).wp λ p s1=>(forL jj b p.2 p.1 env s1).wp N T)/\
  (∀ (d y v:Ev) (env:En) (s:S) (N:En->S->Prop) (T:AV->S->Prop),(rq d y v env s).wp N T=(v env s).wp λ a s1=>(d env s1).wp λ b s2=>(y env s2).wp λ c s3=>(putD a b c env s3).wp N T)/\
  (∀ (i:Nat) (v:AV) (env:En) (s:S) (N:En->S->Prop) (T:AV->S->Prop),(gN i v env s).wp N T=N (env.set i (À v)) s)/\
  (∀ (n:Nat) (r:Lh) (vs:Á AV) (env:En) (s:S) (N:En->S->Prop) (T:AV->S->Prop),(gT n r (.tup vs) env s).wp N T=(vs.length=n/\(r vs env s).wp N T))/\
  (∀ (i:Nat) (r:Lh) (v:AV) (w:Á AV) (env:En) (s:S) (N:En->S->Prop) (T:AV->S->Prop),(Ĳ (gN i) r (v :: w) env s).wp N T=(r w (env.set i (À v)) s).wp N T)/\
  (∀ (env:En) (s:S) (N:En->S->Prop) (T:AV->S->Prop),(gm [] env s).wp N T=N env s)/\
  (∀ (o i:Ev) (r:Lh) (v:AV) (w:Á AV) (env:En) (s:S) (N:En->S->Prop),(Ĳ (nH o i) r (v :: w) env s).wp N (λ _ _=>False)=(nH o i v env s).wp (λ e s1=>(r w e s1).wp N (λ _ _=>False)) (λ _ _=>False))/\
  (∀ (n:Nat) (b:Ms) (v:AV) (s:S) (Q:AV->S->Prop),(fe n b [v] s).wp Q=(b (À v :: à (n - 1) none) s).wp (λ _ s1=>Q .Ē s1) Q)/\
  (∀ (n:Nat) (b:Ms) (v w:AV) (s:S) (Q:AV->S->Prop),(fe n b [v,w] s).wp Q=(b (À v :: À w :: à (n - 2) none) s).wp (λ _ s1=>Q .Ē s1) Q)/\
  (∀ (n:Nat) (b:Ms) (v w x:AV) (s:S) (Q:AV->S->Prop),(fe n b [v,w,x] s).wp Q=(b (À v :: À w :: À x :: à (n - 3) none) s).wp (λ _ s1=>Q .Ē s1) Q):=by
 refine⟨?_,?_,?_,?_,?_,?_,?_,?_,?_,?_,?_,?_,?_,?_,?_,?_,?_,?_⟩<;>intros
 ·rename_i a b env s N T;show(match a env s with|.nx e s1=>b e s1|r=>r).wp N T=_;cases a env s<;>rfl
 ·unfold bL;rw[aV];rfl
 ·unfold Ŭ;rw[aV];rfl
 ·unfold lW;rw[aV];congr 1;funext k s1;exact KA _ _ _ _ _
 ·unfold au;rw[aV];rfl
 ·unfold Dw;rw[aV]
 ·rename_i i j a b env s N T
  unfold p0 Ê Ü
  cases a env s with
  | ok v s1=>
   simp only[ą,pd]
   cases b env s1<;>rfl
  | ex c s1=>rfl
  | bad=>rfl
 ·rfl
 ·unfold Dy;rw[aV]
 ·unfold rq;rw[aV];congr 1;funext k s1;rw[aV];congr 1;funext k s1;rw[aV]
 ·rfl
 ·exact Kz _ _ _ _
 ·rfl
 ·rfl
 ·rename_i o i r v w env s N
  show(match nH o i v env s with|.nx e s1=>r w e s1|q=>q).wp N _=_
  cases nH o i v env s<;>rfl
 ·rename_i n b v s Q
  show(match b (À v :: à (n - 1) none) s with|.rt v s1=>R.ok v s1|.nx _ s1=>.ok .Ē s1|.ex c s1=>.ex c s1|_=>.bad).wp Q=_
  cases b (À v :: à (n - 1) none) s<;>rfl
 ·rename_i n b v w s Q
  show(match b (À v :: À w :: à (n - 2) none) s with|.rt v s1=>R.ok v s1|.nx _ s1=>.ok .Ē s1|.ex c s1=>.ex c s1|_=>.bad).wp Q=_
  cases b (À v :: À w :: à (n - 2) none) s<;>rfl
 ·rename_i n b v w x s Q
  show(match b (À v :: À w :: À x :: à (n - 3) none) s with|.rt v s1=>R.ok v s1|.nx _ s1=>.ok .Ē s1|.ex c s1=>.ex c s1|_=>.bad).wp Q=_
  cases b (À v :: À w :: À x :: à (n - 3) none) s<;>rfl
def Ks (v:AV)(s:S):R (Á AV × Gd):=match v with
 | .tup xs=>.ok (xs,[]) s
 | .sq xs=>.ok (xs,[]) s
 | .ref i=>need (ï s i) λ xs=>.ok (xs,[(i,xs)]) s
 | _=>.bad
theorem WE :
  (∀ (v:AV) (env:En) (s:S) (Q:AV->S->Prop),(mc v env s).wp Q=Q v s)/\
  (∀ (op:AV->AV->S->R AV) (a b:Ev) (env:En) (s:S) (Q:AV->S->Prop),(Û op a b env s).wp Q=(a env s).wp λ v s1=>(b env s1).wp λ w s2=>(op v w s2).wp Q)/\
  (∀ (op:AV->S->R AV) (a:Ev) (env:En) (s:S) (Q:AV->S->Prop),(cj op a env s).wp Q=(a env s).wp λ v s1=>(op v s1).wp Q)/\
  (∀ (r:fY) (env:En) (s:S) (Q:AV->S->Prop),(gL r env s).wp Q=(r env s).wp λ vs s1=>vs.length<=sizeLine/\Q (.tup vs) s1)/\
  (∀ (r:fY) (env:En) (s:S) (Q:Á AV->S->Prop),(cf r env s).wp Q=(r env s).wp λ vs s1=>vs.length<=sizeLine/\Q vs s1)/\
  (∀ (r:fY) (env:En) (s:S) (Q:AV->S->Prop),(Ĺ r env s).wp Q=(r env s).wp λ vs s1=>Q (.ref s1.length) (s1++[.lst vs]))/\
  (∀ (n:Nat) (F:Á AV->S->R AV) (r:fY) (env:En) (s:S) (Q:AV->S->Prop),(ę n F r env s).wp Q=(r env s).wp λ vs s1=>vs.length=n/\(F vs s1).wp Q)/\
  (∀ (a:Ev) (r:fY) (env:En) (s:S) (Q:Á AV->S->Prop),(Ê a r env s).wp Q=(a env s).wp λ v s1=>(r env s1).wp λ vs s2=>Q (v :: vs) s2)/\
  (∀ (env:En) (s:S) (Q:Á AV->S->Prop),(Ü env s).wp Q=Q [] s)/\
  (∀ (m:Ev) (env:En) (s:S) (Q:Bool->S->Prop),(cB m env s).wp Q=(m env s).wp λ v s1=>match v with|.bl b=>Q b s1|_=>False)/\
  (∀ (m:Ev) (env:En) (s:S) (Q:Bool->S->Prop),(cT m env s).wp Q=(m env s).wp λ v s1=>match truth v s1 with|some b=>Q b s1|none=>False)/\
  (∀ (a:Eb) (env:En) (s:S) (Q:Bool->S->Prop),(A3 a env s).wp Q=(a env s).wp λ c s1=>Q (!c) s1)/\
  (∀ (a b:Eb) (env:En) (s:S) (Q:Bool->S->Prop),(FC a b env s).wp Q=(a env s).wp λ c s1=>if c=true then (b env s1).wp Q else Q false s1)/\
  (∀ (a b:Eb) (env:En) (s:S) (Q:Bool->S->Prop),(FD a b env s).wp Q=(a env s).wp λ c s1=>if c=true then Q true s1 else (b env s1).wp Q)/\
  (∀ (env:En) (s:S) (Q:Bool->S->Prop),(j_ env s).wp Q=Q true s)/\
  (∀ (c:Eb) (a b:Ev) (env:En) (s:S) (Q:AV->S->Prop),(VB c a b env s).wp Q=(c env s).wp λ k s1=>if k=true then (a env s1).wp Q else (b env s1).wp Q)/\
  (∀ (op:Á AV->S->R AV) (r:fY) (env:En) (s:S) (Q:AV->S->Prop),(zM op r env s).wp Q=(r env s).wp λ vs s1=>(op vs s1).wp Q)/\
  (∀ {α:Type}(op:Á AV->S->R α) (r:fY) (env:En) (s:S) (Q:α->S->Prop),(CL op r env s).wp Q=(r env s).wp λ vs s1=>(op vs s1).wp Q)/\
  (∀ (m:Ev) (env:En) (s:S) (Q:Á AV->S->Prop),(Bt m env s).wp Q=(m env s).wp λ v s1=>(need (items v s1) λ xs=>.ok xs s1).wp Q)/\
  (∀ (r:fY) (env:En) (s:S) (Q:Á AV × Gd->S->Prop),(BN r env s).wp Q=(r env s).wp λ xs s1=>Q (xs,[]) s1)/\
  (∀ (m:Ev) (env:En) (s:S) (Q:Á AV × Gd->S->Prop),(dO m env s).wp Q=(m env s).wp λ v s1=>(Ks v s1).wp Q)/\
  (∀ (l:Lc) (src:Src) (jj:Mt) (test:Eb) (g0:Ev) (env:En) (s:S) (Q:Á AV->S->Prop),(aE l src jj test g0 env s).wp Q=(src env s).wp λ p s1=>p.1.length<=sizeLine/\(aJ jj test g0 p.2 p.1 (DA l env) s1 []).wp Q)/\
  (∀ (n:String) (op:AV->Á AV->S->R AV) (o:Ev) (r:fY) (env:En) (s:S) (Q:AV->S->Prop),(pS n op o r env s).wp Q=(o env s).wp λ v s1=>(lI n v s1).isSome=true/\(r env s1).wp λ vs s2=>(op v vs s2).wp Q)/\
  (∀ {α:Type}(n:String) (op:AV->Á AV->S->R α) (o:Ev) (r:fY) (env:En) (s:S) (Q:α->S->Prop),(Ib n op o r env s).wp Q=(o env s).wp λ v s1=>(lI n v s1).isSome=true/\(r env s1).wp λ vs s2=>(op v vs s2).wp Q)/\
  (∀ (n:String) (op:AV->Á AV->S->R AV) (o:Ev) (env:En) (s:S) (Q:AV->S->Prop),(yo n op o env s).wp Q=(o env s).wp λ v s1=>(lI n v s1).isSome=true/\(op v [] s1).wp Q)/\
  (∀ (d y z:Ev) (env:En) (s:S) (Q:AV->S->Prop),(vW d y z env s).wp Q=(d env s).wp λ a s1=>(lI "dict" a s1).isSome=true/\(y env s1).wp λ b s2=>(z env s2).wp λ c s3=>(Ju a b c s3).wp Q)/\
  (∀ (env:En) (s:S) (Q:AV->S->Prop),(CW env s).wp Q=Q (.ref s.length) (s++[.dK []]))/\
  (∀ (m:Ev) (lo hi:Eo) (env:En) (s:S) (Q:AV->S->Prop),(AA m lo hi env s).wp Q=(m env s).wp λ v s1=>(lo env s1).wp λ l s2=>(hi env s2).wp λ h s3=>(sT v l h s3).wp Q)/\
  (∀ (env:En) (s:S) (Q:Ë Int->S->Prop),(oN env s).wp Q=Q none s)/\
  (∀ (m:Ev) (env:En) (s:S) (Q:Ë Int->S->Prop),(oS m env s).wp Q=(m env s).wp λ v s1=>match v with|.int i=>Q (À i) s1|_=>False)/\
  (∀ (a b:Ev) (env:En) (s:S) (Q:AV->S->Prop),(Ga a b env s).wp Q=(a env s).wp λ v s1=>match v with|.bl true=>(b env s1).wp Q|.bl false=>Q (.bl false) s1|_=>False)/\
  (∀ (a b:Ev) (env:En) (s:S) (Q:AV->S->Prop),(X3 a b env s).wp Q=(a env s).wp λ v s1=>match v with|.bl true=>Q (.bl true) s1|.bl false=>(b env s1).wp Q|_=>False)/\
  (∀ (m:Ev) (env:En) (s:S) (Q:AV->S->Prop),(Ie m env s).wp Q=(m env s).wp λ v s1=>(s1.take s.length=s/\v.low s.length=true)/\Q v s)/\
  (∀ (m:Eb) (env:En) (s:S) (Q:Bool->S->Prop),(P2 m env s).wp Q=(m env s).wp λ v s1=>(s1.take s.length=s)/\Q v s)/\
  (∀ (m:Ev) (env:En) (s:S) (Q:AV->S->Prop),(Mu m env s).wp Q=(m env s).wp λ v s1=>((s1.take s.length).all (AO.low s.length)=true/\v.low s.length=true)/\Q v (s1.take s.length))/\
  (∀ (m:Ev) (env:En) (s:S) (Q:Á AV->S->Prop),(nN m env s).wp Q=(m env s).wp λ v s1=>match v with|.ref k=>(need (ï s1 k) λ xs=>if s.length<=k/\(s1.take s.length).all (AO.low s.length)=true/\Ĩ s.length xs=true then .ok xs (s1.take s.length) else .bad).wp Q|_=>False):=by
 refine⟨?_,?_,?_,?_,?_,?_,?_,?_,?_,?_,?_,?_,?_,?_,?_,?_,?_,?_,?_,?_,?_,?_,?_,?_,?_,?_,?_,?_,?_,?_,?_,?_,?_,?_,?_,?_⟩<;>intros
 ·rfl
 ·unfold Û;rw[wp_bind];congr 1;funext v s1;rw[wp_bind]
 ·unfold cj;rw[wp_bind]
 ·unfold gL;rw[wp_bind];congr 1;funext v s1;exact mS _ _ _
 ·unfold cf;rw[wp_bind];congr 1;funext v s1;exact mS _ _ _
 ·unfold Ĺ;rw[wp_bind];rfl
 ·unfold ę;rw[wp_bind];congr 1;funext v s1;exact mS _ _ _
 ·unfold Ê;rw[wp_bind];congr 1;funext v s1;rw[wp_bind];rfl
 ·rfl
 ·unfold cB;rw[wp_bind];congr 1;funext v s1;cases v<;>rfl
 ·unfold cT;rw[wp_bind];congr 1;funext v s1;cases truth v s1<;>rfl
 ·unfold A3;rw[wp_bind];rfl
 ·unfold FC;rw[wp_bind];congr 1;funext v s1;exact uX _ _ _ _
 ·unfold FD;rw[wp_bind];congr 1;funext v s1;exact uX _ _ _ _
 ·rfl
 ·unfold VB;rw[wp_bind];congr 1;funext v s1;exact uX _ _ _ _
 ·unfold zM;rw[wp_bind]
 ·unfold CL;rw[wp_bind]
 ·unfold Bt;rw[wp_bind]
 ·unfold BN;rw[wp_bind];rfl
 ·unfold dO;rw[wp_bind];rfl
 ·unfold aE;rw[wp_bind];congr 1;funext v s1;exact mS _ _ _
 ·unfold pS;rw[wp_bind];congr 1;funext v s1
  cases lI _ v s1 with
  | none=>exact fF ⟨λ k=>k.elim,λ k=>nomatch k.1⟩
  | some u=>rw[rF,wp_bind];exact fF ⟨λ k=>⟨rfl,k⟩,λ k=>k.2⟩
 ·unfold Ib;rw[wp_bind];congr 1;funext v s1
  cases lI _ v s1 with
  | none=>exact fF ⟨λ k=>k.elim,λ k=>nomatch k.1⟩
  | some u=>rw[rF,wp_bind];exact fF ⟨λ k=>⟨rfl,k⟩,λ k=>k.2⟩
 ·unfold yo;rw[wp_bind];congr 1;funext v s1
  cases lI _ v s1 with
  | none=>exact fF ⟨λ k=>k.elim,λ k=>nomatch k.1⟩
  | some u=>rw[rF];exact fF ⟨λ k=>⟨rfl,k⟩,λ k=>k.2⟩
 ·unfold vW;rw[wp_bind];congr 1;funext v s1
  cases lI _ v s1 with
  | none=>exact fF ⟨λ k=>k.elim,λ k=>nomatch k.1⟩
  | some u=>
   rw[rF,wp_bind]
   simp only[wp_bind]
   exact fF ⟨λ k=>⟨rfl,k⟩,λ k=>k.2⟩
 ·rfl
 ·unfold AA;rw[wp_bind];congr 1;funext v s1;rw[wp_bind];congr 1;funext v s1;rw[wp_bind]
 ·rfl
 ·unfold oS;rw[wp_bind];congr 1;funext v s1;cases v<;>rfl
 ·unfold Ga;rw[wp_bind];congr 1;funext v s1
  cases v with
  | bl b=>cases b<;>rfl
  | _=>rfl
 ·unfold X3;rw[wp_bind];congr 1;funext v s1
  cases v with
  | bl b=>cases b<;>rfl
  | _=>rfl
 ·unfold Ie;rw[wp_bind];congr 1;funext v s1;exact mS _ _ _
 ·unfold P2;rw[wp_bind];congr 1;funext v s1;exact mS _ _ _
 ·unfold Mu;rw[wp_bind];congr 1;funext v s1;exact mS _ _ _
 ·unfold nN;rw[wp_bind];congr 1;funext v s1;cases v<;>rfl
theorem zA (I:Á AV->En->S->Prop)(hg:∀ l env s,I l env s->x_ gs s)(h0:∀ env s,I [] env s->N env s)
  (h1:∀ v r env s,I (v :: r) env s->(jj v env s).wp (λ e s1=>(b e s1).wp (I r) T) (λ _ _=>False)):∀ l env s,I l env s->(forL jj b gs l env s).wp N T
 | [],env,s,h=>by unfold forL;rw[Ñ (hg _ _ _ h)];exact h0 env s h
 | v :: r,env,s,h=>by
  unfold forL
  rw[Ñ (hg _ _ _ h)]
  have k:=h1 v r env s h
  revert k
  cases jj v env s with
  | nx e1 s1=>
   intro k
   have k:(b e1 s1).wp (I r) T:=k
   dsimp only
   revert k
   cases b e1 s1 with
   | nx e2 s2=>intro k;exact zA I hg h0 h1 r e2 s2 k
   | rt e2 s2=>intro k;exact k
   | _=>intro k;exact k.elim
  | _=>intro k;exact k.elim
theorem og {jj:Mt}{test:Eb}{g0:Ev}{gs:Gd}{Q:Á AV->S->Prop}(I:Á AV->Á AV->En->S->Prop)(hg:∀ l acc env s,I l acc env s->x_ gs s)(h0:∀ acc env s,I [] acc env s->Q acc s)
  (h1:∀ v r acc env s,I (v :: r) acc env s->(jj v env s).wp (λ e s1=>(test e s1).wp λ c s2=>if c=true then (g0 e s2).wp λ x s3=>I r (acc++[x]) e s3 else I r acc e s2) (λ _ _=>False)):∀ l acc env s,I l acc env s->(aJ jj test g0 gs l env s acc).wp Q
 | [],acc,env,s,h=>by unfold aJ;rw[Ñ (hg _ _ _ _ h)];exact h0 acc env s h
 | v :: r,acc,env,s,h=>by
  unfold aJ
  rw[Ñ (hg _ _ _ _ h)]
  have k:=h1 v r acc env s h
  revert k
  cases jj v env s with
  | nx e1 s1=>
   intro k
   dsimp only
   rw[wp_bind,E_]
   refine R.wp.mono k λ c s2 k=>?_
   rw[uX,wp_bind,E_]
   split
   ·rename_i hc;rw[Ñ hc]at k
    exact R.wp.mono k λ x s3 k=>og I hg h0 h1 r (acc++[x]) e1 s3 k
   ·rename_i hc;rw[Ö hc]at k
    exact og I hg h0 h1 r acc e1 s2 k
  | _=>intro k;exact k.elim
theorem ĝ {m:R α}(h:m=.ok v s)(Q:α->S->Prop):m.wp Q=Q v s:=by rw[h];rfl
theorem BY {m:RS}(h:m=.nx e s)(N:En->S->Prop)(T:AV->S->Prop):m.wp N T=N e s:=by rw[h];rfl
theorem Sy (f:En->S->Nat)(c:Eb)(b:Ms)(env:En)(s:S)(N:En->S->Prop)(T:AV->S->Prop):(N4 f c b env s).wp N T=(LB c b (f env s) env s).wp N T:=rfl
theorem WV :
  (∀ (v:AV) (l:En) (s:S) (Q:AV->S->Prop),(mv 0 (À v :: l) s).wp Q=Q v s)/\
  (∀ (n:Nat) (x:Ë AV) (l:En) (s:S) (Q:AV->S->Prop),(mv (n+1) (x :: l) s).wp Q=(mv n l s).wp Q)/\
  (∀ (i j:Int) (s:S) (Q:AV->S->Prop),(cw (.int i) (.int j) s).wp Q=Q (.int (i+j)) s)/\
  (∀ (i j:Int) (s:S) (Q:AV->S->Prop),(V9 (.int i) (.int j) s).wp Q=Q (.int (i - j)) s)/\
  (∀ (i j:Int) (s:S) (Q:AV->S->Prop),(nY (.int i) (.int j) s).wp Q=((Lf i/\Lf j)/\Q (.int (i * j)) s))/\
  (∀ (i j:Int) (s:S) (Q:AV->S->Prop),(sS (.int i) (.int j) s).wp Q=((j≠0/\Pn j)/\Q (.int (i.fdiv j)) s))/\
  (∀ (i j:Int) (s:S) (Q:AV->S->Prop),(kC (.int i) (.int j) s).wp Q=(j≠0/\Q (.int (i.fmod j)) s))/\
  (∀ (i:Int) (s:S) (Q:AV->S->Prop),(EM (.int i) s).wp Q=Q (.int (-i)) s)/\
  (∀ (b:Bool) (s:S) (Q:AV->S->Prop),(Jw (.bl b) s).wp Q=Q (.bl (!b)) s)/\
  (∀ (i j:Int) (s:S) (Q:AV->S->Prop),(Jv (.int i) (.int j) s).wp Q=Q (.bl (decide (i < j))) s)/\
  (∀ (i j:Int) (s:S) (Q:AV->S->Prop),(Z3 (.int i) (.int j) s).wp Q=Q (.bl (decide (i<=j))) s)/\
  (∀ (i j:Int) (s:S) (Q:AV->S->Prop),(Dc (.int i) (.int j) s).wp Q=Q (.bl (decide (j < i))) s)/\
  (∀ (i j:Int) (s:S) (Q:AV->S->Prop),(Gj (.int i) (.int j) s).wp Q=Q (.bl (decide (j<=i))) s)/\
  (∀ (i j:Int) (s:S) (Q:AV->S->Prop),(cM (.int i) (.int j) s).wp Q=Q (.bl (decide (i=j))) s)/\
  (∀ (i j:Int) (s:S) (Q:AV->S->Prop),(oV (.int i) (.int j) s).wp Q=Q (.bl (!decide (i=j))) s)/\
  (∀ (i j:Str) (s:S) (Q:AV->S->Prop),(cM (.str i) (.str j) s).wp Q=Q (.bl (decide (i=j))) s)/\
  (∀ (i j:Str) (s:S) (Q:AV->S->Prop),(oV (.str i) (.str j) s).wp Q=Q (.bl (!decide (i=j))) s)/\
  (∀ (v:AV) (s:S) (Q:AV->S->Prop),(uc v .Ē s).wp Q=Q (.bl (mO v)) s)/\
  (∀ (v:AV) (s:S) (Q:AV->S->Prop),(Nq v .Ē s).wp Q=Q (.bl (!mO v)) s)/\
  (∀ (i:Int) (s:S) (Q:AV->S->Prop),(yu [.int i] s).wp Q=Q (.int (if i < 0 then -i else i)) s)/\
  (∀ (i j:Int) (s:S) (Q:AV->S->Prop),(V7 [.int i,.int j] s).wp Q=Q (.int (if j < i then j else i)) s)/\
  (∀ (i:Int) (s:S) (Q:AV->S->Prop),(O8 [.int i] s).wp Q=Q (.int i) s)/\
  (∀ (i:Bool) (s:S) (Q:AV->S->Prop),(O8 [.bl i] s).wp Q=Q (.int (if i then 1 else 0)) s)/\
  (∀ (xs:Á AV) (i:Int) (s:S) (Q:AV->S->Prop),(Ŀ (.tup xs) (.int i) s).wp Q=(need (l9 xs i) λ v=>.ok v s).wp Q)/\
  (∀ (k:Nat) (i:Int) (s:S) (Q:AV->S->Prop),(Ŀ (.ref k) (.int i) s).wp Q=(need (ï s k) λ xs=>need (l9 xs i) λ v=>.ok v s).wp Q)/\
  (∀ {α:Type}(a:α) (s:S) (Q:α->S->Prop),(R.ok a s).wp Q=Q a s)/\
  (∀ (e:En) (s:S) (N:En->S->Prop) (T:AV->S->Prop),(RS.nx e s).wp N T=N e s)/\
  (∀ {α γ:Type}(x:γ) (f:γ->R α) (Q:α->S->Prop),(need (À x) f).wp Q=(f x).wp Q)/\
  (∀ (xs:Á AV) (s:S) (Q:Á AV × Gd->S->Prop),(Ks (.tup xs) s).wp Q=Q (xs,[]) s)/\
  (∀ (i j:Int) (s:S) (Q:AV->S->Prop),(EN (.int i) (.int j) s).wp Q=(LO i j/\Q (.int (i ^ j.toNat)) s))/\
  (∀ (i j:Int) (s:S) (Q:AV->S->Prop),(nW [.int i,.int j] s).wp Q=((0 < j/\Pn j)/\Q (.tup [.int (i / j),.int (i % j)]) s)):=by
 refine⟨?_,?_,?_,?_,?_,?_,?_,?_,?_,?_,?_,?_,?_,?_,?_,?_,?_,?_,?_,?_,?_,?_,?_,?_,?_,?_,?_,?_,?_,?_,?_⟩<;>intros<;>first|rfl|exact mS _ _ _
theorem Lq :
  (∀ (x y:Ë AV) (l:En),(x :: l).set 0 y=y :: l)/\
  (∀ (x y:Ë AV) (l:En) (n:Nat),(x :: l).set (n+1) y=x :: l.set n y)/\
  (∀ (n:Nat) (x:Ë AV),à (n+1) x=x :: à n x)/\
  (∀ (x:Ë AV),à 0 x=[])/\
  (∀ (a:AV) (l:Á AV),l9 (a :: l) 0=À a)/\(∀ (a b:AV) (l:Á AV),l9 (a :: b :: l) 1=À b)/\(∀ (a b c:AV) (l:Á AV),l9 (a :: b :: c :: l) 2=À c)/\
  (∀ (l:Lc) (env:En),DA l env=l.map λ p=>p.2.bind λ j=>(env[j]?).join)/\
  (∀ (x:Ë AV) (l:En),(x :: l)[0]? = À x)/\
  (∀ (x:Ë AV) (l:En) (n:Nat),(x :: l)[n+1]? = l[n]?)/\
  (∀ {α β:Type}(f:α->β),[].map f=[])/\
  (∀ {α β:Type}(f:α->β) (x:α) (l:Á α),(x :: l).map f=f x :: l.map f)/\
  (∀ {α β:Type}(f:α->Ë β),(none:Ë α).bind f=none)/\
  (∀ {α β:Type}(f:α->Ë β) (x:α),(À x).bind f=f x)/\
  (∀ {α:Type}(x:Ë α),(À x).join=x):=by
 refine⟨?_,?_,?_,?_,?_,?_,?_,?_,?_,?_,?_,?_,?_,?_,?_⟩<;>intros<;>first|rfl|skip
 ·exact l_ (j:=0) rfl
 ·exact l_ (j:=1) rfl
 ·exact l_ (j:=2) rfl
theorem UU:(∀ p:Prop,(True ∧ p)=p) ∧ (∀ p:Prop,(p ∧ True)=p) ∧ (∀ {α:Type}{_:ŷ True}(a b:α),(if True then a else b)=a) ∧ (∀ {α:Type}{_:ŷ False}(a b:α),(if False then a else b)=b) ∧ ((false=true)=False) ∧ (∀ (p:Prop){_:ŷ p},(decide p=true)=p) ∧ (∀ b:Bool,((!b)=true)=(b=false)) ∧ (∀ (p:Prop){_:ŷ p},(decide p=false)=¬p):=by
 refine⟨λ p=>true_and p,λ p=>and_true p,λ a b=>fE a b,λ a b=>gy a b,av,λ p _=>eN,λ b=>lX b,λ p _=>fF decide_eq_false_iff_not⟩

end Mm
local macro_rules | `(tactic| walk_at "w") => `(tactic| simp only [↓Mm.WS, ↓Mm.WE, ↓Mm.WV, Mm.Lq, Mm.â, Mm.UU, Ç, ↓Ô])
namespace Ro
open PySem L2 Mm
structure Df (T:Tx)(mg:Str->Ë Value)(x:Str)(st:Stmt):Prop where
 ex:∃ f fd,Ha T.K x x st f fd/\mg x=À (.ref f)
theorem dj {K:É}{cl:Nat->Addr}{h:Heap}{mg:Str->Ë Value}{x:Str}{st:Stmt}{f:Addr}{oc:Value}{od an:Ë Addr}{xB:Ğ (Ë Value)}{kV doc pm dH ct:Value}(X:K.In h)(G:h.Ns mainGlobals mg)(a:ď K mainGlobals x=À (À (.ref f)))
  (l:K.lookup f=À ⟨oc,od,.func (ľ x x (cA st) (aB st) (Ċ st) .none kV doc pm an dH ct),xB⟩) (c:dB K dH x=true) (k:Ġ K (.ref f)=true):Df ⟨K,cl⟩ mg x st:=
 ⟨⟨f,_,zB l c k,hJ X G a⟩⟩
theorem Qt (X:K.In h)(G:h.Ns mainGlobals mg)(a:ď K mainGlobals x=À (À (.ref f))) (l:K.lookup f=À ⟨.type "tuple",od,.seq it n,sl⟩)(v:Vals vs it.toList)(hs:vs.length<=1000)(hv:∀ ρ H,Ħ ⟨K,cl⟩ ρ H as vs):Lg ⟨K,cl⟩ mg x (.tup as):=
 ⟨.ref f,.ref f,hJ X G a,rfl,λ ρ H=>jT (hZ.const l v hs) (hv ρ H)⟩
theorem MO (X:K.In h)(G:h.Ns mainGlobals mg)(e:ď K mainGlobals x=À (À u)) (r:RelV v u)(hv:∀ ρ H,VR ⟨K,cl⟩ ρ H a v):Lg ⟨K,cl⟩ mg x a:=⟨v,u,hJ X G e,r,hv⟩
section
variable {P:Ą}{w:ğ}{T:Tx}{mg:Str->Ë Value}{base:Heap}
def WA (N P:Á Str)(sc:Scope):Bool:=decide N.Nodup && (P.all (λ x=>decide (sc.names.lookup x=À .local) || decide (sc.names.lookup x=À .cell)) && sc.names.all λ y=>!decide (y.2=.free))
theorem ŗ {N P:Á Str}{sc:Scope}(h1:sc.kind=.function)(h2:sc.isCoroutine=false)(h3:sc.isGenerator=false)(h4:N.take P.length=P)(h:WA N P sc=true):i4 N P sc:=by
 unfold WA at h
 rw[Č,Č,ă,ă]at h
 refine⟨h1,h2,h3,î h.1,h4,λ x hx=>?_,λ y hy=>?_⟩
 ·have:=h.2.1 x hx
  rw[oA]at this
  exact this.imp î î
 ·have:=h.2.2 y hy
  rw[lX]at this
  exact of_decide_eq_false this
theorem len0 {α:Type}{us:Á α}(h:us.length=0):us=[]:=Ck.mp h
theorem Vs {α:Type}{us:Á α}(h:us.length=1):∃ a0,us=[a0]:=by
 cases us with
 | nil=>cases h
 | cons a us=>
  cases len0 (fX h)
  exact⟨a,rfl⟩
theorem Vt {α:Type}{us:Á α}(h:us.length=2):∃ a0 a1,us=[a0,a1]:=by
 cases us with
 | nil=>cases h
 | cons a us=>
  obtain⟨a1,rfl⟩:=Vs (fX h)
  exact⟨a,_,rfl⟩
theorem Vu {α:Type}{us:Á α}(h:us.length=3):∃ a0 a1 a2,us=[a0,a1,a2]:=by
 cases us with
 | nil=>cases h
 | cons a us=>
  obtain⟨a1,a2,rfl⟩:=Vt (fX h)
  exact⟨a,_,_,rfl⟩
theorem Vv {α:Type}{us:Á α}(h:us.length=4):∃ a0 a1 a2 a3,us=[a0,a1,a2,a3]:=by
 cases us with
 | nil=>cases h
 | cons a us=>
  obtain⟨a1,a2,a3,rfl⟩:=Vu (fX h)
  exact⟨a,_,_,_,rfl⟩
theorem Vw {α:Type}{us:Á α}(h:us.length=5):∃ a0 a1 a2 a3 a4,us=[a0,a1,a2,a3,a4]:=by
 cases us with
 | nil=>cases h
 | cons a us=>
  obtain⟨a1,a2,a3,a4,rfl⟩:=Vv (fX h)
  exact⟨a,_,_,_,_,rfl⟩
theorem Vx {α:Type}{us:Á α}(h:us.length=6):∃ a0 a1 a2 a3 a4 a5,us=[a0,a1,a2,a3,a4,a5]:=by
 cases us with
 | nil=>cases h
 | cons a us=>
  obtain⟨a1,a2,a3,a4,a5,rfl⟩:=Vw (fX h)
  exact⟨a,_,_,_,_,_,rfl⟩
theorem Vy {α:Type}{us:Á α}(h:us.length=7):∃ a0 a1 a2 a3 a4 a5 a6,us=[a0,a1,a2,a3,a4,a5,a6]:=by
 cases us with
 | nil=>cases h
 | cons a us=>
  obtain⟨a1,a2,a3,a4,a5,a6,rfl⟩:=Vx (fX h)
  exact⟨a,_,_,_,_,_,_,rfl⟩
end
end Ro
namespace L2
open PySem PySem.Spec PyProof.Rows
theorem Inv.Jt (I:Inv X Ä σ H s):s.heap.NoDigits:=I.ok.mod.Jt.keeps I.bk
theorem Rw (hc:X.calm=true)(h:PE X e te):PE X (.FormattedValue e (-1) none pos) (λ σ H Q=>te σ H λ x H1=>(∃ i,x=.int i/\i.natAbs < 10 ^ 4300/\Q (.str (toString i)) H1)∨∃ t,x=.str t/\t.length<=sizeLine/\Q (.str t) H1):=by
 intro Ä s σ H Q I hq
 refine wpAny_FormattedValue_plain (af (h Ä s σ H _ I hq) λ u s1 zz=>jA zz λ x H1 I1 rx q=>?_)
 rcases q with⟨i,rfl,hz,q⟩|⟨t,rfl,hz,q⟩
 ·obtain⟨t,rfl⟩:=rx
  exact aaL (I1.ok.hd hc) I1.Jt (λ _=>⟨.str _,H1,I1.tok _,⟨_,rfl⟩,q⟩) λ U6=>absurd hz (iX.mpr U6)
 ·obtain⟨t',rfl⟩:=rx
  exact wpAny_formatField_str ⟨.str _,H1,I1,⟨_,rfl⟩,q⟩ ⟨.str _,H1,I1.tok _,⟨_,rfl⟩,q⟩ hz
abbrev TJ:=St->Hp->Str->(Str->Hp->Prop)->Prop
def PJ (X:Cx)(es:Á ń)(t:TJ):Prop:=∀ (Ä:Á (Addr × Obj)) (s:Ò) (σ:St) (H:Hp) (acc:Str) (Q:Str->Hp->Prop),Inv X Ä σ H s->t σ H acc Q->
 Joins (Ý X.prog X.w) X.A X.xe (Fq es X.env) acc (λ out s1=>∃ H1,Inv X Ä σ H1 s1/\Q out H1) s
def WN:TJ:=λ σ H acc Q=>Q acc H
def Sk (te:TE)(r:TJ):TJ:=λ σ H acc Q=>te σ H λ x H1=>∃ y,x=.str y/\(acc++y).length<=sizeLine/\r σ H1 (acc++y) Q
theorem RH:PJ X [] WN:=λ Ä s σ H acc Q I h=>⟨H,I,h⟩
theorem NK (he:PE X e te)(hr:PJ X es r)(hs:Fq (e :: es) X.env=Ć e X.env :: Fq es X.env:=by rfl):PJ X (e :: es) (Sk te r):=by
 intro Ä s σ H acc Q I h
 rw[hs]
 refine af (he Ä s σ H _ I h) λ u s1 zz=>?_
 obtain⟨x,H1,I1,rx,y,ex,hl,q⟩:=zz
 subst ex
 obtain⟨t,rfl⟩:=rx
 exact⟨y,t,rfl,hl,hr Ä s1 σ H1 _ Q I1 q⟩
theorem ye:∀ {ps:Á (Sem Value)}{acc:Str}{Q Q':Str->Ò->Prop}{s:Ò},Joins M A E ps acc Q s->(∀ o s,Q o s->Q' o s)->Joins M A E ps acc Q' s
 | [],_,_,_,_,h,k=>k _ _ h
 | _ :: _,_,_,_,_,h,k=>aW h (λ _ _ zz=>jA zz λ y t e hl r=>⟨y,t,e,hl,ye r k⟩) λ _ _ x=>x
theorem NB (h:PJ X (e1 :: e2 :: es) t):PE X (.JoinedStr (e1 :: e2 :: es) pos) (λ σ H Q=>t σ H gf λ out H1=>out.length<=sizeLine/\Q (.str out) H1):=by
 intro Ä s σ H Q I hq
 exact wpAny_JoinedStr (ye (h Ä s σ H gf _ I hq) λ out s1 ⟨H1,I1,hl,q⟩=>⟨hl,.str out,H1,I1.tok _,⟨_,rfl⟩,q⟩)
end L2
namespace Mm
open PySem L2
section
variable {T:Tx}{XE:j6}{X:Cx}{pos:mT}
structure Dg (i:Int):Prop where
 f:i.natAbs < 10 ^ 4300
instance {i:Int}:ŷ (Dg i):=eX _
def aai (i:Int):Str:=å (toString i)
def nX:AV->S->R AV
 | .int i,s=>if Dg i then .ok (.str (aai i)) s else .bad
 | .str t,s=>if t.length<=sizeLine then .ok (.str t) s else .bad
 | _,_=>.bad
theorem QI (hc:X.calm=true)(h:PE X e (tE T XE m)):PE X (.FormattedValue e (-1) none pos) (tE T XE (cj nX m)):=
 PE.imp (Rw hc h) λ σ H Q zz=>ŀ zz λ ρ env s hs he ho=>step hs he ho λ v s1 Ě H1 x _ u1 İ aM Ĝ Ā=>by
  have Ĝ:VR T Ě H1 v x:=Ĝ
  cases v<;>try exact Ā.elim
  ·obtain⟨hl,Ā⟩:=Ā.ō
   exact .inl ⟨_,Ĝ.int_inv,hl.f,Ā.ķ İ iO⟩
  ·obtain⟨hl,Ā⟩:=Ā.ō
   exact .inr ⟨_,Ĝ.str_inv,hl,Ā.ķ İ iO⟩
abbrev Ej:=Str->En->S->R Str
def xr:Ej:=λ acc _ s=>.ok acc s
def fP (m:Ev)(r:Ej):Ej:=λ acc env s=>(m env s).bind λ v s1=>match v with
 | .str y=>if (acc++y).length<=sizeLine then r (acc++y) env s1 else .bad
 | _=>.bad
def aaf:Rl Str Str:=⟨λ _ _ _ a b=>a=b,λ _ h=>h⟩
def tJ (T:Tx)(XE:j6)(m:Ej):TJ:=λ σ H acc Q=>∃ ρ env s,SR T ρ s H/\ER T ρ H env σ/\Out T XE aaf ρ H (m acc env s) Q
theorem PJ.imp (h:PJ X es t)(k:∀ σ H a Q,t' σ H a Q->t σ H a Q):PJ X es t':=λ Ä s σ H a Q I hq=>h Ä s σ H a Q I (k σ H a Q hq)
theorem QY:PJ X [] (tJ T XE xr):=PJ.imp RH λ σ H a Q ⟨ρ,env,s,hs,he,ho⟩=>ho ρ H a .refl hs rfl
theorem M9 (he:PE X e (tE T XE m)) (hr:PJ X es (tJ T XE r)) (hs:Fq (e :: es) X.env=Ć e X.env :: Fq es X.env:=by rfl):PJ X (e :: es) (tJ T XE (fP m r)):=
 PJ.imp (NK he hr hs) λ σ H a Q ⟨ρ,env,s,hs,he,ho⟩=>step hs he ho λ v s1 Ě H1 x _ u1 İ aM Ĝ Ā=>by
  have Ĝ:VR T Ě H1 v x:=Ĝ
  cases v<;>try exact Ā.elim
  obtain⟨hl,Ā⟩:=Ā.ō
  exact⟨_,Ĝ.str_inv,hl,Ě,env,s1,İ,aM,Ā⟩
def mQ (r:Ej):Ev:=λ env s=>(r gf env s).bind λ t s1=>if t.length<=sizeLine then .ok (.str t) s1 else .bad
theorem M0 (h:PJ X (e1 :: e2 :: es) (tJ T XE r)):PE X (.JoinedStr (e1 :: e2 :: es) pos) (tE T XE (mQ r)):=
 PE.imp (NB h) λ σ H Q zz=>ŀ zz λ ρ env s hs he ho=>by
  refine⟨ρ,env,s,hs,he,?_⟩
  unfold mQ at ho
  cases e:r gf env s with
  | bad=>rw[e]at ho;exact ho
  | ex c s1=>rw[e]at ho;exact ho
  | ok t s1=>
   rw[e]at ho
   obtain⟨hl,ho⟩:=ho.ō
   intro Ě H1 x u sr ex
   cases (show t=x from ex)
   exact⟨hl,(Out.up u ho).ķ sr iO⟩
end
end Mm
namespace L2
open PySem PySem.Spec PySem.W PyProof.Rows
def XT (h:Heap)(e:Addr)(vs:Ğ Value):Prop:=vs[1]? = À .none∨∃ T oT ts,vs[1]? = À (.ref T)/\T≠e/\h.get? T=À oT/\oT.data=.fields ts/\ts[3]? = À .none
structure Way (fs:Á Addr)(e:Addr)(oe:Obj)(h h':Heap):Prop where
 keep:∀ b o,h.get? b=À o->b∉fs->b≠e->h'.get? b=À o
 slot:∀ b o,h.get? b=À o->b∈fs->∃ sl,h'.get? b=À { o with slots:=sl }
 exc:∃ vs,h'.get? e=À { oe with data:=.fields vs }/\1 < vs.size/\XT h' e vs
theorem qW (hd:o.data=.fields ts)(h3:ts[3]? = À .none):ø (·.setIfInBounds 3 .none) o=o:=by
 obtain⟨c,d,dat,sl⟩:=o
 have hd:dat=.fields ts:=hd
 subst hd
 show Obj.mk c d (.fields (ts.setIfInBounds 3 .none)) sl=_
 congr 2
 apply Array.ext_getElem?
 intro i
 rw[Array.getElem?_setIfInBounds]
 split
 ·rename_i hi
  subst hi
  split
  ·exact h3.symm
  ·rename_i hz
   rw[Ci (by lia)]at h3
   cases h3
 ·rfl
theorem C2 (hd:o.data=.fields ts)(f:Ğ Value->Ğ Value):ø f o={ o with data:=.fields (f ts) }:=by
 obtain⟨c,d,dat,sl⟩:=o
 have hd:dat=.fields ts:=hd
 subst hd
 rfl
section
variable {M:Model}{A:į}{E:Value->Ò->Prop}{s:Ò}
theorem Bc 
  (OX:A.frames=À (env :: outer)) (hl:s.heap.FunFrames base (env :: outer)) (hf:env.frame=À L) (he:s.heap.get? e=À oe) (hd:oe.data=.fields vs) (hz:1 < vs.size)
  (hq:∀ h',Way (Ax (env :: outer)) e oe s.heap h'->Q () { s with heap:=h' }) :
  Ù M A (do let a <-frameOf env;let pl <-entryPlaceOf L hn;let b <-AE head a .none (ŧ L) .none pl;setField (.ref e) 1 b) (λ _ s'=>Ù M A (AW (.ref e) none) Q E s') E s:=by
 have ne:e∉Ax (env :: outer):=λ z=>by
  obtain⟨_,o,ho,hnf⟩:=hl.mem z
  rw[he]at ho
  cases ho
  exact hnf vs hd
 refine Â (wpAny_frameOf_fun OX hl hf λ g so=>?_)
 refine Â (wpAny_entryPlaceOf λ pl fi=>?_)
 refine Â ?_
 simp only[AE,newFields]
 refine Ŏ ?_ (fi.sizeOk5 _ _ _ _ _)
 generalize ht:([head,Î L,ë,ŧ L,ë]++(if pl.isEmpty then à 6 ë else pl)).toArray=tv
 have hts:5<=tv.size:=by rw[<-ht];simp
 have ge:g.get? e=À oe:=(so.2.1 e ne).trans he
 have UT:g.objs.size≠e:=đ (Ð ge)
 have ge1:(g.push { cls:=.type "traceback",data:=.fields tv }).get? e=À oe:=Ã _ ge
 refine i3 ge1 hd hz ?_
 have ed:(ø (·.setIfInBounds 1 (Î g.objs.size)) oe)={ oe with data:=.fields (vs.setIfInBounds 1 (.ref g.objs.size)) }:=C2 hd _
 have hd2:(ø (·.setIfInBounds 1 (Î g.objs.size)) oe).data=.fields (vs.setIfInBounds 1 (.ref g.objs.size)):=by rw[ed]
 have ge2:=ú (ø (·.setIfInBounds 1 (Î g.objs.size))) ge1 (dA hd2)
 have gT:=(ý (g.push { cls:=.type "traceback",data:=.fields tv }) (ø (·.setIfInBounds 1 (Î g.objs.size))) (Ŝ UT)).trans (Ø g rfl)
 unfold AW
 refine Â (Ķ ge2 hd2 (x:=.ref g.objs.size) (by rw[dy hz]) ?_)
 rw[Ñ (by simp)]
 refine i3 gT rfl (by lia) (hq _ ?_)
 have oth:∀ b o,g.get? b=À o->b≠e->(((g.push { cls:=.type "traceback",data:=.fields tv }).update e (ø (·.setIfInBounds 1 (Î g.objs.size)))).update g.objs.size (ø (·.setIfInBounds 3 ((none:Ë Addr).elim ë λ f=>ŧ f)))).get? b=À o:=λ b o hb Mz=>by
  rw[ý _ _ (đ (Ð hb)),ý _ _ (Ŝ Mz)]
  exact Ã _ hb
 refine⟨λ b o hb h1 h2=>oth b o ((so.2.1 b h1).trans hb) h2,λ b o hb h1=>?_,?_⟩
 ·obtain⟨sl,hs⟩:=so.2.2 b o hb
  exact⟨sl,oth b _ hs λ z=>ne (z ▸ h1)⟩
 ·refine⟨vs.setIfInBounds 1 (.ref g.objs.size),?_,by simpa using hz,.inr ⟨g.objs.size,_,_,by rw[dy hz],UT,ú _ gT (dA (by rw[C2 (o:={ cls:=.type "traceback",data:=.fields tv }) (ts:=tv) rfl])),by rw[C2 (o:={ cls:=.type "traceback",data:=.fields tv }) (ts:=tv) rfl],?_⟩⟩
  ·rw[ý _ _ UT,ge2,ed]
  ·rw[dy (by lia)];rfl
theorem EE 
  (OX:A.frames=À (env :: outer)) (hl:s.heap.FunFrames base (env :: outer)) (hf:env.frame=À L) (he:s.heap.get? e=À oe) (hd:oe.data=.fields vs) (hx:XT s.heap e vs)
  (hq:∀ h',Way (Ax (env :: outer)) e oe s.heap h'->Q () { s with heap:=h' }):Ù M A (Lb (.ref e) env) (λ _ s'=>Ù M A (AW (.ref e) none) Q E s') E s:=by
 unfold Lb
 simp only[hf]
 rcases hx with h1|⟨T,oT,ts,h1,UT,hT,hdT,h3⟩
 ·refine Â (Ķ he hd h1 ?_)
  rw[Ö (by decide)]
  exact Bc OX hl hf he hd (dR.mp h1).1 hq
 ·refine Â (Ķ he hd h1 ?_)
  rw[Ñ (show(Î T != ë)=true from by simp)]
  refine Â (Ķ hT hdT h3 ?_)
  rw[Ö (show ¬ ((ë == ŧ L)=true) from by simp[ŧ])]
  refine Â (i3 hT hdT (dR.mp h3).1 ?_)
  have same:∀ b o,s.heap.get? b=À o->(s.heap.update T (ø (·.setIfInBounds 3 ë))).get? b=À o:=λ b o hb=>by
   by_cases hbT:b=T
   ·subst hbT
    rw[hT]at hb
    cases hb
    have q:=ú (ø (·.setIfInBounds 3 ë)) hT (by rw[qW hdT h3];exact dA hdT)
    rw[q,qW hdT h3]
   ·rw[ý _ _ (Ŝ hbT)];exact hb
  refine Bc (s:={ s with heap:=s.heap.update T (ø (·.setIfInBounds 3 ë)) }) OX (hl.of_keeps λ b o hb _=>⟨o,same b o hb,rfl⟩) hf (same e oe he) hd (dR.mp h1).1 λ h' W=>hq h' ?_
  exact⟨λ b o hb=>W.keep b o (same b o hb),λ b o hb=>W.slot b o (same b o hb),W.exc⟩
theorem IC 
  (OX:A.frames=À (env :: outer)) (hl:s.heap.FunFrames base (env :: outer)) (hf:env.frame=À L) (he:s.heap.get? e=À oe) (hd:oe.data=.fields vs) (hx:XT s.heap e vs)
  (hq:∀ h',Way (Ax (env :: outer)) e oe s.heap h'->Q () { s with heap:=h' }):Ù M A (leaving env (.ref e)) Q E s:=by
 unfold leaving
 exact Â (EE OX hl hf he hd hx hq)
theorem FL (he:s.heap.get? e=À oe)(hd:oe.data=.fields vs)(hx:XT s.heap e vs)
  (hq:∀ h',(∀ b o,s.heap.get? b=À o->h'.get? b=À o)->Q () { s with heap:=h' }):Ù M A (AW (.ref e) none) Q E s:=by
 unfold AW
 rcases hx with h1|⟨T,oT,ts,h1,UT,hT,hdT,h3⟩
 ·refine Â (Ķ he hd h1 ?_)
  rw[Ö (by decide)]
  exact Í (hq s.heap λ _ _ z=>z)
 ·refine Â (Ķ he hd h1 ?_)
  rw[Ñ (show(Î T != ë)=true from by simp)]
  refine i3 hT hdT (dR.mp h3).1 (hq _ λ b o hb=>?_)
  by_cases hbT:b=T
  ·subst hbT
   rw[hT]at hb
   cases hb
   have q:=ú (ø (·.setIfInBounds 3 ë)) hT (by rw[qW hdT h3];exact dA hdT)
   exact q.trans (by rw[qW hdT h3])
  ·exact(ý _ _ (Ŝ hbT)).trans hb
end
def Ow (C e:Addr)(d:Ë Addr):HO:=.ext λ h=>∃ (ox:Obj) (vs:Ğ Value),h.get? e=À ox/\ox.cls=.ref C/\ox.dict=d/\ox.data=.fields vs
theorem Way.ļ (W:Way fs e oe h h')(hf:∀ b∈fs,H b=none)(he:H e=À (Ow C e d)) (ho:h.get? e=À oe)(hc:oe.cls=.ref C)(hn:oe.dict=d)(x:m3 P w H h):m3 P w H h':=λ b u q=>by
 obtain⟨vs,e1,e2,e3⟩:=W.exc
 by_cases hb:b=e
 ·subst hb
  rw[he]at q
  cases q
  exact⟨⟨_,vs,e1,hc,hn,rfl⟩,⟨_,e1⟩,λ h1 h2 ⟨ox,vs,z,r⟩ k=>⟨ox,vs,k ox z,r⟩⟩
 ·refine(x b u q).p8 (λ c v hc z=>W.keep c v z (λ m=>?_) ?_) (λ c z=>z) λ c xs z=>z
  ·rcases hc with rfl|hc
   ·rw[hf c m]at q;cases q
   ·rw[hf c m]at hc;cases hc
  ·rintro rfl
   rcases hc with rfl|hc
   ·exact hb rfl
   ·rw[he]at hc;cases hc
theorem Way.un (W:Way fs e oe h h')(he:H e=À (Ow C e d)) (hs:∀ b∈fs,b∈XI):Un XI [] H H h h':=by
 have ne:∀ b,H b=none->b≠e:=λ b n z=>by subst z;rw[he]at n;cases n
 have any:∀ b o,h.get? b=À o->b≠e->∃ sl,h'.get? b=À { o with slots:=sl }:=λ b o q z=>by
  by_cases m:b∈fs
  ·exact W.slot b o q m
  ·exact⟨o.slots,W.keep b o q m z⟩
 refine⟨λ b o q n hb _=>W.keep b o q (λ z=>hb (hs b z)) (ne b n),λ b o q n _ _=>any b o q (ne b n),λ _ _ _ n _=>n,λ b o q _=>?_,λ _ _ q=>q,λ _ _ _ q=>q,λ _ ps q=>⟨#[],by rw[q];simp⟩⟩
 by_cases z:b=e
 ·subst z
  obtain⟨vs,e1,_⟩:=W.exc
  exact⟨_,e1⟩
 ·obtain⟨sl,e1⟩:=any b o q z
  exact⟨_,e1⟩
structure Lies (C e:Addr)(d:Ë Addr)(H:Hp)(h:Heap):Prop where
 LA:H e=À (Ow C e d)
 ex:∃ (ox:Obj) (vs:Ğ Value),h.get? e=À ox/\ox.cls=.ref C/\ox.dict=d/\ox.data=.fields vs/\XT h e vs
def sk (P:Ą)(w:ğ):G_:=λ outer H s E ev s'=>∃ e C d H',ev=.ref e/\s'.os=s.os/\n8 s'.gens/\Un (Ax outer) [] H H' s.heap s'.heap/\m3 P w H' s'.heap/\Lies C e d H' s'.heap/\E ev (À C) H'
theorem Un.way (u:Un fs [] H0 H h0 h)(W:Way (L :: fs) e oe h h') (he:H e=À (Ow C e d)) (hL:h0.objs.size<=L):Un fs [] H0 H h0 h':=by
 have ne:∀ b,H b=none->b≠e:=λ b n z=>by subst z;rw[he]at n;cases n
 have nL:∀ b o,h0.get? b=À o->b≠L:=λ b o q z=>by subst z;exact absurd (Ð q) (iX.mpr hL)
 refine⟨λ b o q n hb hx=>W.keep b o (u.keep b o q n hb hx) (λ z=>?_) (ne b (u.free b o q n hx)),λ b o q n hb hx=>?_,u.free,λ b o q hx=>?_,u.mJ,u.kS,u.wD⟩
 ·rcases Þ.mp z with z|z
  ·exact nL b o q z
  ·exact hb z
 ·obtain⟨sl,e1⟩:=u.slot b o q n hb hx
  obtain⟨WB,e2⟩:=W.slot b _ e1 (õ _ hb)
  exact⟨WB,e2⟩
 ·obtain⟨o',e1⟩:=u.there b o q hx
  by_cases z:b=e
  ·subst z
   obtain⟨vs,e2,_⟩:=W.exc
   exact⟨_,e2⟩
  ·by_cases m:b∈L :: fs
   ·obtain⟨sl,e2⟩:=W.slot b _ e1 m
    exact⟨_,e2⟩
   ·exact⟨_,W.keep b _ e1 m z⟩
def Lets (X:Cx)(E:XK):Prop:=∀ Ä σ H s e C d,Inv X Ä σ H s->Lies C e d H s.heap->E (.ref e) (À C) H->X.xe (.ref e) s
theorem Lets.passes (l:Lets X E):Passes (sk X.prog X.w) X E:=by
 rintro Ä σ H s ev s' I ⟨e,C,d,H',rfl,os,bare,un,ļ,x,q⟩
 obtain⟨v,H1,J,r,rfl⟩:=I.after (Q:=λ v H1=>H1=H') (u:=.none) ⟨.Ē,H',os,bare,un,ļ,rfl,rfl⟩
 exact l Ä σ _ s' e C d J x q
theorem MR {K:É}{mg:Str->Ë Value}{N:Á Str}{scope:Scope}{outer:Á AF}{E:XK}:Lets (m5 (sk P w) P w K mg base N qual scope f cd A outer s H E) E:=by
 intro Ä σ H' s' e C d I x q
 obtain⟨ox,vs,e1,e2,e3,e4,e5⟩:=x.ex
 refine IC (base:=base) (outer:=outer) I.ok.frames I.stack rfl e1 e4 e5 λ h' W=>?_
 refine⟨e,C,d,H',rfl,I.os,I.bare,I.base.way W x.LA (Ï _),W.ļ I.uV x.LA e1 e2 e3 I.ļ,⟨x.LA,?_⟩,q⟩
 obtain⟨vs',z1,z2,z3⟩:=W.exc
 exact⟨_,vs',z1,e2,e3,rfl,z3⟩
def R6 (C:Addr)(E:XK)(t:TA):TS:=λ _ σ H=>t σ H λ vs H1=>vs.length<=sizeLine/\∀ e,H1 e=none->E (.ref e) (À C) (upd H1 e (Ow C e none))
theorem JW (x:jm X.K C nm bm none)(hk:Ġ X.K (.ref C)=true) (hg:Gl X xn)(hm:X.mg xn=À (.ref C)) (hc:X.calm=true)(l:Lets X E)(ha:PA X (a :: as) t)
  (mx:(xn == ("__debug__":Str))=false:=by decide) (he:Ì (a :: as) X.env=(false,Ć a X.env) :: Ì as X.env:=by rfl) (fi:(Ĕ aw (Ì as X.env)).any (·.1)=false:=by rfl) :
  PS X (.Raise (À (.Call (.Name xn np) (a :: as) [] aw)) none pos) (R6 C E t):=by
 intro Ä s σ H D I h
 obtain⟨q,N,bs,sn,sub,ab,col,dd,k0,k1,k2,k3,k5,m,lC,n,i⟩:=x.ex
 have hb:bm.contains (.type "BaseException")=true:=(x.tail.Rr I.mz).hasType (X:="BaseException") (b:=true) (by decide +kernel)
 rw[arm_exec_Raise]
 refine Â (eF (wpAny_raiseStmt_made_sub (C:=C) (nm:=nm) (q:=q) (N:=N) (bs:=bs) (bm:=bm) (hdct:=true) (sn:=sn) (sub:=sub) (ab:=ab) (col:=col) (dd:=dd) (k0:=k0) (k1:=k1) (k2:=k2) (k3:=k3) (k5:=k5) (newId:="ValueError.__new__") hb (I.ok.hd hc) (Â (aW (ų (oy I hg hm ?_ mx)) (λ v s₃ h₃=>Â (eF (Í h₃))) λ _ _ x=>x))))
 refine qo (h₀:=X.base) I.ok.mod.Vm hk (af (ha aw Ä s σ H _ I h) λ us s1 ⟨vs,H1,I1,r,hl,q1⟩=>⟨I1.mz,?_⟩) he fi
 obtain⟨hp,g,d,tk,os⟩:=s1
 refine wpAny_call_exc_subU (hrest:=by rw[jZ,<-r.length];exact hl) xb (by decide +kernel) xb (x.tail.Rr I1.mz) (I1.mz _ _ lC) (n.ns I1.mz) i λ h' e hm=>?_
 obtain⟨t,ht,_,_⟩:=hm.there
 have xq:hp.get? e=none:=hm.new
 refine⟨e,t,rfl,hm.keeps _ _ (I1.mz _ _ lC),ht,?_⟩
 refine l Ä σ _ _ e C none (I1.Vr (a:=e) (o:=Ow C e none) (t':=tk) hm.keeps xq ?_) ⟨û ..,_,_,ht,rfl,rfl,rfl,.inl rfl⟩ (q1 e (I1.gone xq))
 exact⟨⟨_,_,ht,rfl,rfl,rfl⟩,⟨_,ht⟩,λ h1 h2 ⟨ox,vs,e1,r⟩ k=>⟨ox,vs,k ox e1,r⟩⟩
section
variable {M:Model}{A:į}{E:Value->Ò->Prop}{K:É}{C D:Addr}{nm nm2:Str}{bm bm2:Á Value}{rS ZE:Ë Value}
theorem IM (X:K.In s.heap)(x:jm K C nm bm rS)(y:jm K D nm2 bm2 ZE)(he:s.heap.get? e=À oe)(hc:oe.cls=.ref C)(hq:Q ((Î C :: bm).contains (.ref D)) s):Ù M A (excMatches (.ref e) (.ref D)) Q E s:=by
 obtain⟨q1,N1,YH,sn1,abu,ab1,abn,dd1,a0,a1,a2,a3,a5,m1,lC,n1,i1⟩:=x.ex
 obtain⟨q2,N2,YI,sn2,abv,ab2,abo,SW,b0,b1,b2,b3,b5,m2,lD,n2,i2⟩:=y.ex
 have hC:=X _ _ lC
 have hD:=X _ _ lD
 have hb:(Î D :: bm2).contains (.type "BaseException")=true:=by rw[Ł,(y.tail.Rr X).hasType (X:="BaseException") (b:=true) (by decide +kernel),eK]
 obtain⟨hp,g,d,t,os⟩:=s
 have f:=PySem.tc_notTuple
 unfold excMatches
 repeat (first|(with_reducible refine Xo he ?_;rw[hc])|with_reducible refine Xo hD ?_|(with_reducible refine SM hD ?_;rw[hb])|with_reducible refine SM hC ?_|wp_step)
 cases hz:(Î C :: bm).contains (.ref D)<;>(rw[hz]at hq;wp_walk;exact hq)
end
section
variable {X:Cx}{Ä:Á (Addr × Obj)}{σ:St}{H:Hp}{s:Ò}
theorem Mx (I:Inv X Ä σ H s)(hN:X.N.Nodup)(hi:X.N[i]? = À n)(hk:X.env.scope.names.lookup n=À .local)
  (h:∀ s',Inv X Ä (σ.set i none) H s'->Q () s'):Ù M A (do gw X.env n .none;Pj X.env n pos) Q E s:=by
 obtain⟨m,hn,hl⟩:=id I.loc
 have P_:(X.env.scope.kind == .class || (X.env.scope.kind == .module && X.env.locals != X.env.globals))=false:=by rw[I.ok.kind];rfl
 have hiσ:i < σ.length:=by rw[I.len];exact(Æ.mp hi).1
 have Hv:=I.Hv
 obtain⟨oL,_,_,hoL,_⟩:=id hn
 refine wpAny_nameGoes_keeps hk hn P_ λ h' v Zm hs=>?_
 have tracked:m3 X.prog X.w H h':=λ b ob e=>by
  refine(I.ļ b ob e).p8 (λ c w' hc q=>(hs.2 c ?_).trans q) (λ _ q=>q) λ _ _ q=>q
  rintro rfl
  rcases hc with rfl|hc
  ·rw[I.free]at e;cases e
  ·rw[I.free]at hc;cases hc
 refine h _ ⟨I.ok,I.os,I.bare,⟨λ b o e n hb hx=>?_,λ b o e n hb hx=>?_,I.base.free,λ b o e hx=>?_,I.base.mJ,I.base.kS,I.base.wD⟩,⟨_,Zm,λ j y v' e1 e2 e3=>?_⟩,λ y c e=>?_,I.free,I.kB,λ p hp=>?_,tracked,by simpa using I.len⟩
 ·exact(hs.2 b (ç (ä (Ð e) I.ok.above))).trans (I.base.keep b o e n hb hx)
 ·obtain⟨sl,e1⟩:=I.base.slot b o e n hb hx
  exact⟨sl,(hs.2 b (ç (ä (Ð e) I.ok.above))).trans e1⟩
 ·obtain⟨o',e1⟩:=I.base.there b o e hx
  exact⟨o',(hs.2 b (ç (ä (Ð e) I.ok.above))).trans e1⟩
 ·by_cases hj:j=i
  ·subst hj
   rw[Ę hiσ]at e2
   cases e2
  ·rw[ð (Ŝ hj)]at e2
   obtain⟨u',r',q⟩:=hl j y v' e1 e2 e3
   refine⟨u',r',?_⟩
   rcases q with⟨k,e⟩|⟨k,c,e,z⟩
   ·refine .inl ⟨k,?_⟩
    have:y≠n:=λ e=>hj (vZ hN e1 (e ▸ hi))
    simp[this,e]
   ·exact .inr ⟨k,c,e,z.sameBut hs (Hv y c e)⟩
 ·obtain⟨w',z⟩:=I.cell y c e
  exact⟨w',z.sameBut hs (Hv y c e)⟩
 ·obtain⟨e,n,ne,nf,d⟩:=I.pin p hp
  exact⟨(hs.2 p.1 ne).trans e,n,ne,nf,d⟩
abbrev Cx.o7 (X:Cx)(xe:Value->Ò->Prop)(pn:Á (Addr × Obj)):Cx:={ X with xe:=xe,pn:=pn }
abbrev Cx.o6 (X:Cx)(e:Addr):Cx:={ X with A:=X.A.mark (À (.ref e)),calm:=false,xe:=λ _ _=>False }
theorem Inv.o7 (I:Inv X Ä σ H s):Inv (X.o7 xe (X.pn++Ä)) [] σ H s:=
 ⟨⟨I.ok.mod,I.ok.kind,I.ok.glob,I.ok.blt,I.ok.above,I.ok.inj,I.ok.has,I.ok.OI,I.ok.hd,I.ok.frames,I.ok.Se,I.ok.UI,I.ok.bs,I.ok.DX,I.ok.BC,I.ok.Bg,I.ok.pI,I.ok.Lm⟩,I.os,I.bare,I.base,I.loc,I.cell,I.free,I.kB,λ p hp=>I.pin p (by simpa using hp),I.ļ,I.len⟩
theorem Inv.BE (I:Inv (X.o7 xe (X.pn++Ä)) JS σ H s):Inv X Ä σ H s:=
 ⟨⟨I.ok.mod,I.ok.kind,I.ok.glob,I.ok.blt,I.ok.above,I.ok.inj,I.ok.has,I.ok.OI,I.ok.hd,I.ok.frames,I.ok.Se,I.ok.UI,I.ok.bs,I.ok.DX,I.ok.BC,I.ok.Bg,I.ok.pI,I.ok.Lm⟩,I.os,I.bare,I.base,I.loc,I.cell,I.free,I.kB,λ p hp=>I.pin p (jf _ hp),I.ļ,I.len⟩
theorem Inv.o6 (I:Inv X Ä σ H s):Inv (X.o6 e) Ä σ H s:=
 ⟨⟨I.ok.mod,I.ok.kind,I.ok.glob,I.ok.blt,I.ok.above,I.ok.inj,I.ok.has,I.ok.OI,(λ z=>nomatch z),I.ok.frames,I.ok.Se,I.ok.UI,I.ok.bs,I.ok.DX,I.ok.BC,I.ok.Bg,I.ok.pI,I.ok.Lm⟩,I.os,I.bare,I.base,I.loc,I.cell,I.free,I.kB,I.pin,I.ļ,I.len⟩
theorem Inv.V5 (hh:X.calm=true->X.A.handled=none)(I:Inv (X.o6 e) Ä σ H s):Inv X Ä σ H s:=
 ⟨⟨I.ok.mod,I.ok.kind,I.ok.glob,I.ok.blt,I.ok.above,I.ok.inj,I.ok.has,I.ok.OI,hh,I.ok.frames,I.ok.Se,I.ok.UI,I.ok.bs,I.ok.DX,I.ok.BC,I.ok.Bg,I.ok.pI,I.ok.Lm⟩,I.os,I.bare,I.base,I.loc,I.cell,I.free,I.kB,I.pin,I.ļ,I.len⟩
end
def W6 (C e:Addr):Ë Addr->HO
 | none=>Ya C e
 | some dx=>xcD C e dx
theorem Inv.Pz (I:Inv X Ä σ H s)(he:H e=À (Ow C e d)):Inv X Ä σ (upd H e (W6 C e d)) s:=by
 obtain⟨⟨ox,vs,e1,e2,e3,e4⟩,_⟩:=I.ļ _ _ he
 have mu:SS (H e):=by rw[he];trivial
 have hn:notCls ox=true:=by unfold notCls;rw[e4]
 refine I.un (h':=s.heap) (t':=s.toks) (Un.write mu (.inl rfl) (λ _ _ _ z=>z) ⟨_,e1⟩) (I.ļ.write mu (.inl rfl) (λ _ _ _ z=>z) ⟨_,e1⟩ ?_)
 cases d with
 | none=>exact⟨⟨ox,e1,e2,hn,e3⟩,⟨_,e1⟩,λ h1 h2 ⟨ox,z,r⟩ k=>⟨ox,k ox z,r⟩⟩
 | some dx=>exact⟨⟨ox,e1,e2,hn,e3⟩,⟨_,e1⟩,λ h1 h2 ⟨ox,z,r⟩ k=>⟨ox,k ox z,r⟩⟩
def OS (i:Nat)(D:Ends):Ends where
 nx:=λ σ H=>D.nx (σ.set i none) H
 rt:=D.rt
 bk:=λ σ H=>D.bk (σ.set i none) H
 ct:=λ σ H=>D.ct (σ.set i none) H
def HM (K:É)(N i:Nat)(CC:Addr)(ts:TS)(D:Ends):XK:=λ ev oc H'=>∃ e C d,ev=.ref e/\oc=À C/\H' e=À (Ow C e d)/\(∃ nm bm rS,jm K C nm bm rS/\(Î C :: bm).contains (.ref CC)=true)/\
 ∀ bh:St,bh.length=N->ts (OS i D) (bh.set i (À (.ref e))) (upd H' e (W6 C e d))
def R7 (K:É)(N i:Nat)(CC:Addr)(tb:XK->TS)(ts:TS):TS:=λ D σ H=>tb (HM K N i CC ts D) D σ H
theorem JX 
  (hN:X.N.Nodup) (xc:jm X.K CC nm bm rS) (hm:X.mg xn=À (.ref CC)) (hg:Gl X xn)
  (hb:∀ xe pn E1,Lets (X.o7 xe pn) E1->nu (X.o7 xe pn) body (tb E1)) (hs:∀ e,nu (X.o6 e) (b₀ :: yE) ts)
  (hi:X.N[i]? = À n:=by rfl) (hx:X.env.scope.names.lookup n=À .local:=by rfl) (CS:X.stack=X.env :: X.outer:=by rfl) (Il:X.env.frame=À X.env.locals:=by rfl) (mx:(xn == ("__debug__":Str))=false:=by decide) :
  PS X (.Try body [.ExceptHandler (À (.Name xn np)) (À n) (b₀ :: yE) Qh] [] [] pos) (R7 X.K X.N.length i CC tb ts):=by
 intro Ä s σ H D I h
 refine wpAny_Try_except ?_
 refine aW (hb (λ ev s'=>∃ e C d bh H',ev=.ref e/\Inv X Ä bh H' s'/\Lies C e d H' s'.heap/\HM X.K X.N.length i CC ts D ev (À C) H') (X.pn++Ä) _ ?_ [] s σ H D I.o7 h) (λ f s1 hf=>?_) ?_
 ·exact λ JS bh H' s' e C d J x q=>⟨e,C,d,bh,H',rfl,J.BE,x,q⟩
 ·cases f with
  | next=>
   obtain⟨bh,H',J,q⟩:=hf
   exact Í ⟨bh,H',J.BE,q⟩
  | brk=>obtain⟨bh,H',J,q⟩:=hf;exact⟨bh,H',J.BE,q⟩
  | cont=>obtain⟨bh,H',J,q⟩:=hf;exact⟨bh,H',J.BE,q⟩
  | ret u=>obtain⟨v,bh,H',J,r,q⟩:=hf;exact⟨v,bh,H',J.BE,r,q⟩
 ·rintro ev s1 ⟨e,C,d,Cg,H1,rfl,J,x,e',C',d',z1,z2,he,⟨nm',bm',ZD,xC,MF⟩,q⟩
  cases z1
  cases z2
  obtain⟨ox,vs,o1,o2,o3,o4,o5⟩:=x.ex
  have OX:X.A.frames=À (X.env :: X.outer):=by rw[<-CS];exact J.ok.frames
  have hl:s1.heap.FunFrames X.base (X.env :: X.outer):=by rw[<-CS];exact J.stack
  refine EE OX hl Il o1 o4 o5 λ h' W=>?_
  have W:Way (Ax X.stack) e ox s1.heap h':=by rw[CS];exact W
  have J1:Inv X Ä Cg H1 { s1 with heap:=h' }:=J.call (ch:=[]) (g':=s1.gens) (d':=s1.drawn) (t':=s1.toks) (W.un x.LA λ _ z=>z) (W.ļ J.uV x.LA o1 o2 o3 J.ļ) J.bare λ _ z=>nomatch z
  obtain⟨vs',p1,p2,p3⟩:=W.exc
  refine wpAny_handleBy_cons (codeAny_handlers_test ?_) (by intro z;cases z)
  refine oy (X:=X.o6 e) J1.o6 hg hm ?_ mx
  refine IM J1.mz xC xc p1 o2 ?_
  rw[MF]
  refine codeAny_handlers_suite_as (FL p1 rfl p3 λ h2 k=>?_)
  have J2:Inv X Ä Cg H1 { s1 with heap:=h2 }:=J1.un (h':=h2) (t':=s1.toks) (Un.kept k) (J1.ļ.kept k)
  refine g_ (J2.Pz he) hN hi (.inl hx) (v:=.ref e) rfl (λ s3 J3=>?_) (.inr hx)
  refine aW (hs e Ä s3 _ _ (OS i D) J3.o6 (q Cg J.len)) (λ f s4 hf=>?_) λ _ _ z=>z.elim
  have Mw:∀ {bh:St}{H':Hp}{Q:Unit->Ò->Prop},Inv (X.o6 e) Ä bh H' s4->(∀ s5,Inv X Ä (bh.set i none) H' s5->Q () s5)->Ù (Ý X.prog X.w) X.A (do gw X.env n .none;Pj X.env n Qh) Q X.xe s4:=λ J4 k=>Mx (J4.V5 J.ok.hd) hN hi hx k
  cases f with
  | next=>obtain⟨bh,H',J4,q4⟩:=hf;exact Mw J4 λ s5 J5=>⟨_,H',J5,q4⟩
  | brk=>obtain⟨bh,H',J4,q4⟩:=hf;exact Mw J4 λ s5 J5=>⟨_,H',J5,q4⟩
  | cont=>obtain⟨bh,H',J4,q4⟩:=hf;exact Mw J4 λ s5 J5=>⟨_,H',J5,q4⟩
  | ret u=>obtain⟨v,bh,H',J4,r,q4⟩:=hf;exact Mw J4 λ s5 J5=>⟨v,_,H',J5,r,q4⟩
end L2
namespace Mm
open PySem L2
def oO (T:Tx)(E:XK):j6:=λ c _ _ H=>∀ e,H e=none->c.fs=[]->E (.ref e) (À (T.cl c.cls)) (upd H e (Ow (T.cl c.cls) e none))
structure Ls (T:Tx)(X:Cx)(XE:j6):Prop where
 ex:∃ E,Lets X E/\∀ c ρ s H,XE c ρ s H->oO T E c ρ s H
section
variable {T:Tx}{XE:j6}{X:Cx}{pos:mT}
theorem S8:Ls T X GY:=⟨⟨E0,λ _ _ _ _ _ _ _ _ _ z=>z.elim,λ _ _ _ _ z=>z.elim⟩⟩
theorem By:Ls T (m5 (sk P w) P w K mg base N qual scope f cd A outer s H E) (oO T E):=⟨⟨E,MR,λ _ _ _ _ z=>z⟩⟩
theorem Jz:AK (Ý P w) (A.deeper (az qual scope s.heap.objs.size f cd)) (az qual scope s.heap.objs.size f cd) (m5 (sk P w) P w K mg base N qual scope f cd A outer s H E).xe:=PassesOwn.leaving
def Cf (T:Tx)(n:Nat)(F:Á AV->S->R AV):Sp:=λ vs H Q E=>vs.length=n/\∃ ρ s args,SR T ρ s H/\Ħ T ρ H args vs/\Out T (oO T E) (rV T) ρ H (F args s) Q
theorem zy (F:Ha T.K x qual st f fd)(S:i4 N ps (Ċ st))
  (hb:∀ (dH:Value) (A:į) (outer:Á AF) (s:Ò) (H:Hp) (E:XK),cN k (A.deeper (az qual (Ċ st) s.heap.objs.size f dH))->nu (m5 (sk P w) P w T.K mg base N qual (Ċ st) f dH A outer s H E) (aB st) (tS T (oO T E) body)) :
  hX P w T.K mg base (sk P w) (k+1) f fd ps (Cf T ps.length (fe N.length body)):=by
 obtain⟨oc,od,kV,doc,pm,an,dH,ct,xB,rfl,lk,Er⟩:=F.ex
 refine OP lk Er S (λ vs H Q E h=>h.1) λ A outer s H vs Q E hr zz=>?_
 obtain⟨hl,ρ,uF,args,sr,va,ho⟩:=zz
 refine⟨_,hb dH A outer s H E hr,ρ,_,uF,sr,Bf N va,?_⟩
 unfold fe at ho
 cases e:body (args.map À++à (N.length - args.length) none) uF with
 | nx e1 s1=>simp only[e]at ho;exact λ bf H2 B0 u sr er=>ho bf H2 .Ē u sr (sZ (T:=T) (ρ:=bf) (H:=H2))
 | rt v s1=>simp only[e]at ho;exact ho
 | ex c s1=>simp only[e]at ho;exact ho
 | bk v s1=>simp only[e]at ho;exact ho.elim
 | ct v s1=>simp only[e]at ho;exact ho.elim
 | bad=>simp only[e]at ho;exact ho.elim
theorem Out.xe (h:Out T XE rl ρ H r Q)(k:∀ c ρ s H,XE c ρ s H->XE' c ρ s H):Out T XE' rl ρ H r Q:=by
 cases r with
 | ok v s=>exact h
 | ex c s=>exact λ Ň H' u sr=>k _ _ _ _ (h Ň H' u sr)
 | bad=>exact h
theorem Hs (k:∀ c ρ s H,XE c ρ s H->oO T E c ρ s H)(h:tE T XE (ę n F r) σ H Q):Km (Cf T n F) [] E (tP T XE r) σ H Q:=by
 obtain⟨ρ,env,s,hs,he,ho⟩:=h
 refine step hs he ho λ vs s1 Ě H1 xs _ u1 İ aM Ĝ Ā=>?_
 obtain⟨hl,Ā⟩:=Ā.ō
 have Ĝ:Ħ T Ě H1 vs xs:=Ĝ
 rw[jX]
 exact⟨by rw[<-Ĝ.length];exact hl,Ě,s1,vs,İ,Ĝ,Ā.xe k⟩
structure gX (P:Ą)(w:ğ)(T:Tx)(mg:Str->Ë Value)(base:Heap)(nm:Str)(n k:Nat)(Fn:Á AV->S->R AV):Prop where
 ex:∃ f fd ps,hX P w T.K mg base (sk P w) k f fd ps (Cf T n Fn)/\Binds T.K fd ps []/\mg nm=À (.ref f)/\Ġ T.K (.ref f)=true
theorem VC (h:gX X.prog X.w T X.mg X.base x n k Fn)(hr:cN k X.A)(ha:PA X (e :: es) (tP T XE r)) (ls:Ls T X XE)(hK:X.K=T.K:=by rfl)(hg:Gl X x:=by rfl)(mx:(x == ("__debug__":Str))=false:=by decide) (he:Ì (e :: es) X.env=(false,Ć e X.env) :: Ì es X.env:=by rfl) (fi:(Ĕ pos (Ì es X.env)).any (·.1)=false:=by rfl) :
  PE X (.Call (.Name x p) (e :: es) [] pos) (tE T XE (ę n Fn r)):=by
 obtain⟨f,fd,ps,G,hb,hm,hk⟩:=h.ex
 obtain⟨E,l,hE⟩:=ls.ex
 exact PE.imp (Nw (E:=E) (by rw[hK];exact G) hr hg hm (by rw[hK];exact hk) (by rw[hK];exact hb) .nil l.passes ha mx he fi) λ _ _ _ h=>Hs hE h
theorem QD (h:gX X.prog X.w T X.mg X.base x 0 k Fn)(hr:cN k X.A)(ls:Ls T X XE)(hK:X.K=T.K:=by rfl)(hg:Gl X x:=by rfl)(mx:(x == ("__debug__":Str))=false:=by decide) :
  PE X (.Call (.Name x p) [] [] pos) (tE T XE (ę 0 Fn Ü)):=by
 obtain⟨f,fd,ps,G,hb,hm,hk⟩:=h.ex
 obtain⟨E,l,hE⟩:=ls.ex
 exact PE.imp (JC (E:=E) (by rw[hK];exact G) hr hg hm (by rw[hK];exact hk) (by rw[hK];exact hb) .nil l.passes mx) λ σ H Q h=>by
  obtain⟨ρ,env,s,hs,he,ho⟩:=h
  exact⟨rfl,ρ,s,[],hs,.nil,Out.xe (show Out T XE (rV T) ρ H (Fn [] s) Q from ho) hE⟩
def GZ (c:Nat)(r:fY):Ms:=λ env s=>(r env s).cu λ vs s1=>if vs.length<=1000 then .ex ⟨c,[]⟩ s1 else .bad
theorem Je (x:jm T.K (T.cl c) nm bm none) (hk:Ġ T.K (.ref (T.cl c))=true) (hm:X.mg xn=À (.ref (T.cl c))) (ls:Ls T X XE)(ha:PA X (a :: as) (tP T XE r)) (hK:X.K=T.K:=by rfl)(hc:X.calm=true:=by rfl)(hg:Gl X xn:=by rfl)
  (mx:(xn == ("__debug__":Str))=false:=by decide) (he:Ì (a :: as) X.env=(false,Ć a X.env) :: Ì as X.env:=by rfl) (fi:(Ĕ aw (Ì as X.env)).any (·.1)=false:=by rfl) :
  PS X (.Raise (À (.Call (.Name xn np) (a :: as) [] aw)) none pos) (tS T XE (GZ c r)):=by
 obtain⟨E,l,hE⟩:=ls.ex
 refine PS.imp (JW (E:=E) (by rw[hK];exact x) (by rw[hK];exact hk) hg hm hc l ha mx he fi) λ D σ H zz=>mR zz λ ρ env s hs he ho=>dP hs he ho λ vs s1 Ě H1 xs _ u1 İ aM Ĝ Ā=>?_
 have Ĝ:Ħ T Ě H1 vs xs:=Ĝ
 by_cases hl:vs.length<=1000
 ·rw[Ñ hl]at Ā
  refine⟨by rw[<-Ĝ.length,ġ];lia,λ e hn=>hE _ _ _ _ (Ā Ě H1 .refl İ) e hn rfl⟩
 ·rw[Ö hl]at Ā
  exact Ā.elim
def OT (i:Nat):RS->RS
 | .nx e s=>.nx (e.set i none) s
 | .bk e s=>.bk (e.set i none) s
 | .ct e s=>.ct (e.set i none) s
 | .rt v s=>.rt v s
 | _=>.bad
def wm (n i:Nat)(sub:Nat->Bool)(b h:Ms):Ms:=λ env s=>match b env s with
 | .ex c s1=>if sub c.cls=true then OT i (h ((à n none).set i (À (.ref s1.length))) (s1++[.exc c.cls])) else .bad
 | r=>r
theorem ER.unset (h:ER T ρ H env σ)(i:Nat):ER T ρ H (env.set i none) (σ.set i none):=by
 refine⟨by simp[h.len],λ j w e=>?_⟩
 by_cases om:i=j
 ·subst om
  rw[List.getElem?_set]at e
  simp at e
 ·rw[ð om]at e ⊢
  exact h.get j w e
theorem E8 (H:Hp)(e:Addr)(a b:HO):upd (upd H e a) e b=upd H e b:=by
 funext c
 by_cases hc:c=e
 ·subst hc;rw[û,û]
 ·rw[ã hc,ã hc,ã hc]
theorem Q6 
  (hN:X.N.Nodup) (xc:jm T.K CC nm bm rS) (hm:X.mg xn=À (.ref CC)) (MF:∀ c,sub c=true->∃ nm bm rS,jm T.K (T.cl c) nm bm rS/\(Î (T.cl c) :: bm).contains (.ref CC)=true)
  (hb:∀ xe pn XE1,Ls T (X.o7 xe pn) XE1->nu (X.o7 xe pn) body (tS T XE1 b)) (hs:∀ e,nu (X.o6 e) (b₀ :: yE) (tS T GY h)) (hK:X.K=T.K:=by rfl) (hg:Gl X xn:=by rfl)
  (hi:X.N[i]? = À n:=by rfl) (hx:X.env.scope.names.lookup n=À .local:=by rfl) (hn:X.N.length=N:=by rfl) (CS:X.stack=X.env :: X.outer:=by rfl) (Il:X.env.frame=À X.env.locals:=by rfl) (mx:(xn == ("__debug__":Str))=false:=by decide) :
  PS X (.Try body [.ExceptHandler (À (.Name xn np)) (À n) (b₀ :: yE) Qh] [] [] pos) (tS T XE (wm N i sub b h)):=by
 refine PS.imp (JX (tb:=λ E1=>tS T (oO T E1) b) hN (by rw[hK];exact xc) hm hg (λ xe pn E1 l=>hb xe pn _ ⟨⟨E1,l,λ _ _ _ _ z=>z⟩⟩) hs hi hx CS Il mx) λ D σ H zz=>?_
 obtain⟨ρ,env,s,sr,er,ho⟩:=zz
 refine⟨ρ,env,s,sr,er,?_⟩
 unfold wm at ho
 cases eb:b env s with
 | nx e s1=>simp only[eb]at ho;exact ho
 | rt v s1=>simp only[eb]at ho;exact ho
 | bk e s1=>simp only[eb]at ho;exact ho
 | ct e s1=>simp only[eb]at ho;exact ho
 | bad=>simp only[eb]at ho;exact ho
 | ex c s1=>
  simp only[eb]at ho
  intro Ň H' u mI e vL hfs
  by_cases hc:sub c.cls=true
  ·rw[Ñ hc]at ho
   refine⟨e,T.cl c.cls,none,rfl,rfl,û ..,by rw[hK];exact MF _ hc,λ bh hl=>?_⟩
   rw[E8]
   have u2:Up ρ H (Ň++[e]) (upd H' e (W6 (T.cl c.cls) e none)):=(u.trans (mI.dQ vL)).add (u.live e vL)
   have fm:SR T (Ň++[e]) (s1++[.exc c.cls]) (upd H' e (W6 (T.cl c.cls) e none)):=(mI.new vL).add (mI.out vL) (û ..)
   have oh:ER T (Ň++[e]) (upd H' e (W6 (T.cl c.cls) e none)) ((à N none).set i (À (.ref s1.length))) (bh.set i (À (.ref e))):=by
    refine ER.set ⟨by rw[Fe,<-hn];exact hl.symm,λ j v ej=>?_⟩ (p_ ?_)
    ·rw[m8]at ej
     split at ej<;>cases ej
    ·rw[ß (by rw[mI.len];lia),mI.len];simp
   refine⟨_,_,_,fm,oh,?_⟩
   have ho:=fG.up u2 ho
   cases eh:h ((à N none).set i (À (.ref s1.length))) (s1++[.exc c.cls]) with
   | nx e1 s2=>rw[eh]at ho;exact λ oz H3 AB u3 qi zv=>ho oz H3 _ u3 qi (zv.unset i)
   | bk e1 s2=>rw[eh]at ho;exact λ oz H3 AB u3 qi zv=>ho oz H3 _ u3 qi (zv.unset i)
   | ct e1 s2=>rw[eh]at ho;exact λ oz H3 AB u3 qi zv=>ho oz H3 _ u3 qi (zv.unset i)
   | rt v s2=>rw[eh]at ho;exact ho
   | ex c2 s2=>rw[eh]at ho;exact ho.elim
   | bad=>rw[eh]at ho;exact ho.elim
  ·rw[Ö hc]at ho
   exact ho.elim
end
end Mm
namespace L2
open PySem PySem.Spec PySem.W PyProof.Rows
def Wv (K:É):Á V->Hp->VK->Prop:=λ xs H Q=>∃ (e C tp:Addr) (cs:Á Addr) (b:Bool),xs=[.ref e,.ref tp]/\Xv H e C/\LQ K C/\H tp=À (.tup (cs.map V.ref))/\kitAny K (.ref C) (cs.map Î)=À b/\Q (.bl b) H
theorem yK:∀ {cs:Á Addr}{us:Á Value},Vals (cs.map V.ref) us->us=cs.map Î
 | [],_,r=>by cases r;rfl
 | c :: cs,_,r=>by
  cases r with
  | cons r1 r2=>
   cases (show _=Î c from r1)
   rw[yK r2];rfl
theorem FF:cq X (.builtin "isinstance") (Wv X.K):=by
 rintro Ä s σ H xs us Q I rv ⟨e,C,tp,cs,b,rfl,hx,g,ht,kb,q⟩
 obtain⟨ox,od,J⟩:=hx.inst I
 obtain⟨u,w',rfl,r1,r2⟩:=vals2 rv
 cases (show _=Î e from r1)
 cases (show _=Î tp from r2)
 obtain⟨z,ws,r3,ot,o1,o2,n,o3⟩:=I.ļ _ _ ht
 obtain⟨oc,odd,oda,xB⟩:=ot
 cases (show oc=_ from o2)
 cases (show oda=_ from o3)
 cases yK r3
 exact PySem.W.kia_tup (Bs g) I.mz ⟨ox,od,J⟩ o1 kb (λ z=>nomatch z) λ tk=>⟨.bl b,H,I.tok _,rfl,q⟩
def tK (vs:Á V):TA:=λ _ H Q=>Q vs H
section
variable {X:Cx}{e:ń}{es:Á ń}{v:V}{vs:Á V}
theorem ES:PA X [] (tK []):=λ pos Ä s σ H Q I h=>eW pos Ä s σ H Q I h
theorem JA (h1:PE X e (tC v)) (h2:PA X es (tK vs)) (hs:Ì (e :: es) X.env=(false,Ć e X.env) :: Ì es X.env:=by rfl):PA X (e :: es) (tK (v :: vs)):=λ pos Ä s σ H Q I h=>aN h1 h2 hs pos Ä s σ H Q I h
end
end L2
namespace Mm
open PySem L2
section
variable {T:Tx}{XE:j6}{X:Cx}{pos:mT}
def YO (v:V)(c:Value):Prop:=match v with|.ty n=>c=bW n|.ref a=>c=Î a|_=>False
def a8 (LW:Nat->Ë Bool)(v:AV)(s:S):R AV:=match v with
 | .ref i=>match s[i]? with
  | some (.exc c)=>need (LW c) λ b=>.ok (.bl b) s
  | _=>.bad
 | _=>.bad
theorem Ey (sr:SR T ρ s H)(va:VR T ρ H v x)(ho:Out T XE (rV T) ρ H (a8 LW v s) Q) :
  ∃ e c b,x=.ref e/\H e=À (Ya (T.cl c) e)/\LW c=À b/\Out T XE (rV T) ρ H (.ok (.bl b) s) Q:=by
 unfold a8 at ho
 split at ho
 ·rename_i i
  obtain⟨a,e1,rfl⟩:=va.fS
  split at ho
  ·rename_i c ec
   obtain⟨b,eb,ho⟩:=ho.ó
   obtain⟨a',e2,h1⟩:=sr.obj _ _ ec
   rw[e1]at e2
   cases e2
   exact⟨a,c,b,rfl,h1,eb,ho⟩
  ·exact ho.elim
 ·exact ho.elim
theorem IQ (hv:PE X cl (tC v)) (hvc:YO v c)(P7:∀ C b,LW C=À b->LQ T.K (T.cl C)/\oJ T.K (.ref (T.cl C)) c=À b) (hm:X.mg "isinstance"=none)(ha:PE X e (tE T XE m)) (hK:X.K=T.K:=by rfl)(hg:Gl X "isinstance":=by rfl)
  (he:Ì [e,cl] X.env=(false,Ć e X.env) :: Ì [cl] X.env:=by rfl) (Ik:Ì [cl] X.env=(false,Ć cl X.env) :: Ì [] X.env:=by rfl) (fi:(Ĕ pos (Ì [cl] X.env)).any (·.1)=false:=by rfl) :
  PE X (.Call (.Name "isinstance" p) [e,cl] [] pos) (tE T XE (cj (a8 LW) m)):=
 PE.imp (dn Hr hg hm Ro.boot_isinstance (aN ha (aN hv eW Ik) he) (by decide) (by decide) he fi) λ σ H Q zz=>ŀ zz λ ρ env s hs he ho=>
  step hs he ho λ w s1 Ě H1 x _ u1 İ aM Ĝ Ā=>by
   obtain⟨a,C,b,rfl,h1,h2,h3⟩:=Ey İ Ĝ Ā
   obtain⟨k1,k2⟩:=P7 C b h2
   exact⟨a,T.cl C,v,c,b,rfl,hvc,.inl h1,by rw[hK];exact k1,by rw[hK];exact k2,h3.ķ İ dt⟩
theorem MZ {cs:Á Addr}(hv:PA X cls (tK (cs.map V.ref))) (hl:cs.length<=1000)(P7:∀ C b,LW C=À b->LQ T.K (T.cl C)/\PySem.W.kitAny T.K (.ref (T.cl C)) (cs.map Î)=À b) (hm:X.mg "isinstance"=none)(ha:PE X e (tE T XE m)) (hK:X.K=T.K:=by rfl)(hg:Gl X "isinstance":=by rfl)
  (he:Ì [e,.Tuple cls x1 p2] X.env=(false,Ć e X.env) :: Ì [.Tuple cls x1 p2] X.env:=by rfl) (Ik:Ì [.Tuple cls x1 p2] X.env=(false,Ć (.Tuple cls x1 p2) X.env) :: Ì [] X.env:=by rfl) (fi:(Ĕ pos (Ì [.Tuple cls x1 p2] X.env)).any (·.1)=false:=by rfl) :
  PE X (.Call (.Name "isinstance" p) [e,.Tuple cls x1 p2] [] pos) (tE T XE (cj (a8 LW) m)):=
 PE.imp (dn FF hg hm Ro.boot_isinstance (aN ha (aN (Dk hv) eW Ik) he) (by decide) (by decide) he fi) λ σ H Q zz=>ŀ zz λ ρ env s hs he ho=>
  step hs he ho λ w s1 Ě H1 x _ u1 İ aM Ĝ Ā=>by
   obtain⟨a,C,b,rfl,h1,h2,h3⟩:=Ey İ Ĝ Ā
   obtain⟨k1,k2⟩:=P7 C b h2
   refine⟨by rw[Õ,ġ];lia,λ tp hn=>⟨a,T.cl C,tp,cs,b,rfl,.inl ?_,by rw[hK];exact k1,û ..,by rw[hK];exact k2,?_⟩⟩
   ·rw[ã (Đ h1 hn)];exact h1
   ·exact(Out.up (İ.dQ hn) h3).ķ (İ.new hn) dt
end
open PySem.W
def aaz:Á Str:=["RoyalError","BadFraction","Taken","NoName","TooMuch","NoRate","NoneLeft","Endless","BadRow"]
def jU (i:Nat):Str:=aaz.getD i ""
def KJ (T:Tx)(i:Nat):Á Value:=if i=0 then uM else .ref (T.cl 0) :: uM
structure Xs (T:Tx)(mg:Str->Ë Value):Prop where
 c:∀ i,i < 9->∃ rS,jm T.K (T.cl i) (jU i) (KJ T i) rS/\(i < 7->rS=none)
 is:∀ i,i < 9->LQ T.K (T.cl i)
 kp:∀ i,i < 9->Ġ T.K (.ref (T.cl i))=true
 gl:∀ i,i < 9->mg (jU i)=À (.ref (T.cl i))
theorem KL:∀ i,i < 9->∀ j,j < 9->jU i=jU j->i=j:=by decide +kernel
theorem LP (x:jm K C n b i)(y:jm K C n' b' i'):n=n':=by
 obtain⟨cd,h1,_,_,h2⟩:=x.cls
 obtain⟨cd',h3,_,_,h4⟩:=y.cls
 rw[h1]at h3
 cases h3
 exact h2.symm.trans h4
section
variable {T:Tx}{XE:j6}{X:Cx}{pos:mT}{mg:Str->Ë Value}
theorem Xs.inj (x:Xs T mg)(hi:i < 9)(hj:j < 9)(e:T.cl i=T.cl j):i=j:=by
 obtain⟨_,a,_⟩:=x.c i hi
 obtain⟨_,b,_⟩:=x.c j hj
 rw[e]at a
 exact KL i hi j hj (LP a b)
def í (i c:Nat):Bool:=c == i || i == 0
theorem Xs.has (x:Xs T mg){c i:Nat}(hc:c < 9)(hi:i < 9):(Î (T.cl c) :: KJ T c).contains (.ref (T.cl i))=í i c:=by
 have nb:uM.contains (.ref (T.cl i))=false:=by simp[Ł]
 have eqv:∀ a b:Addr,(Î a == Î b)=decide (a=b):=λ a b=>by
  by_cases h:a=b
  ·subst h;simp
  ·simp[h]
 unfold í KJ
 rw[Ł,eqv]
 by_cases h:c=i
 ·subst h;simp
 ·have h1:T.cl i≠T.cl c:=λ e=>h (x.inj hc hi e.symm)
  by_cases h0:c=0
  ·subst h0
   have:¬ i=0:=λ e=>h e.symm
   simp[h1,nb,h,this]
  ·rw[Ö h0,Ł,eqv,nb]
   by_cases Zf:i=0
   ·subst Zf;simp
   ·have h2:T.cl i≠T.cl 0:=λ e=>Zf (x.inj hi (by decide) e)
    simp[h1,h2,h,Zf]
theorem Xs.Y6 (x:Xs T mg)(c:Nat):(Î (T.cl c) :: KJ T c).contains (.type "ValueError")=true:=by
 have nb:uM.contains (.type "ValueError")=true:=by decide +kernel
 unfold KJ
 by_cases h0:c=0
 ·rw[Ñ h0,Ł,nb,eK]
 ·rw[Ö h0,Ł,Ł,nb,eK,eK]
theorem Xs.Vn (x:Xs T mg){c i:Nat}(hc:c < 9)(hi:i < 9):LK T.K (.ref (T.cl c)) (.ref (T.cl i))=À (í i c):=by
 obtain⟨_,a,_⟩:=x.c c hc
 obtain⟨_,b,_⟩:=x.c i hi
 rw[a.Vn _ (.inl ⟨_,_,_,_,rfl,b⟩),x.has hc hi]
theorem Xs.ZL (x:Xs T mg){c:Nat}(hc:c < 9):LK T.K (.ref (T.cl c)) (.type "ValueError")=À true:=by
 obtain⟨_,a,_⟩:=x.c c hc
 rw[a.Vn _ (.inr ⟨_,rfl,by decide +kernel⟩),x.Y6]
theorem Xs.Vo (x:Xs T mg){c:Nat}(hc:c < 9):∀ {is:Á Nat},(∀ i∈is,i < 9)->kitAny T.K (.ref (T.cl c)) ((is.map T.cl).map Î)=À (is.any λ i=>í i c)
 | [],_=>rfl
 | i :: is,h=>by
  show(match LK T.K (.ref (T.cl c)) (.ref (T.cl i)) with
   | some true=>À true
   | some false=>kitAny T.K (.ref (T.cl c)) ((is.map T.cl).map Î)
   | none=>none)=_
  rw[x.Vn hc (h i (.head _)),ax]
  cases í i c with
  | true=>rfl
  | false=>rw[B1];exact Xs.Vo x hc λ j hj=>h j (.tail _ hj)
def pD (i c:Nat):Ë Bool:=if c < 9 then À (í i c) else none
def FA (c:Nat):Ë Bool:=if c < 9 then À true else none
def Fz (is:Á Nat)(c:Nat):Ë Bool:=if c < 9 then À (is.any λ i=>í i c) else none
theorem VU (x:Xs T X.mg)(hc:c < 7)(ls:Ls T X XE)(ha:PA X (a :: as) (tP T XE r)) (hK:X.K=T.K:=by rfl)(MB:X.calm=true:=by rfl)(hg:Gl X (jU c):=by rfl)
  (mx:(jU c == ("__debug__":Str))=false:=by decide +kernel) (he:Ì (a :: as) X.env=(false,Ć a X.env) :: Ì as X.env:=by rfl) (fi:(Ĕ aw (Ì as X.env)).any (·.1)=false:=by rfl) :
  PS X (.Raise (À (.Call (.Name (jU c) np) (a :: as) [] aw)) none pos) (tS T XE (GZ c r)):=by
 obtain⟨rS,h1,h2⟩:=x.c c (by lia)
 cases h2 hc
 exact Je h1 (x.kp c (by lia)) (x.gl c (by lia)) ls ha hK MB hg mx he fi
theorem VW {body yE:Á Stmt}{b₀:Stmt}{n:Str}{i ci N:Nat}{b h:Ms}(x:Xs T X.mg)(Y_:ci < 9)(hN:X.N.Nodup)
  (hb:∀ xe pn XE1,Ls T (X.o7 xe pn) XE1->nu (X.o7 xe pn) body (tS T XE1 b)) (hs:∀ e,nu (X.o6 e) (b₀ :: yE) (tS T GY h)) (hK:X.K=T.K:=by rfl) (hg:Gl X (jU ci):=by rfl)
  (hi:X.N[i]? = À n:=by rfl) (hx:X.env.scope.names.lookup n=À .local:=by rfl) (hn:X.N.length=N:=by rfl) (CS:X.stack=X.env :: X.outer:=by rfl) (Il:X.env.frame=À X.env.locals:=by rfl) (mx:(jU ci == ("__debug__":Str))=false:=by decide +kernel) :
  PS X (.Try body [.ExceptHandler (À (.Name (jU ci) np)) (À n) (b₀ :: yE) Qh] [] [] pos) (tS T XE (wm N i (λ c=>decide (c < 9) && í ci c) b h)):=by
 obtain⟨rS,h1,_⟩:=x.c ci Y_
 refine Q6 hN h1 (x.gl ci Y_) (λ c hc=>?_) hb hs hK hg hi hx hn CS Il mx
 rw[Č,decide_eq_true_iff]at hc
 obtain⟨ZD,h2,_⟩:=x.c c hc.1
 exact⟨_,_,_,h2,(x.has hc.1 Y_).trans hc.2⟩
theorem QL {i:Nat}{m:Ev}(x:Xs T X.mg)(hi:i < 9)(hm:X.mg "isinstance"=none)(ha:PE X e (tE T XE m)) (hK:X.K=T.K:=by rfl)(hg:Gl X "isinstance":=by rfl)(Qb:Gl X (jU i):=by rfl) (mx:(jU i == ("__debug__":Str))=false:=by decide +kernel)
  (he:Ì [e,.Name (jU i) p2] X.env=(false,Ć e X.env) :: Ì [.Name (jU i) p2] X.env:=by rfl) (Ik:Ì [.Name (jU i) p2] X.env=(false,Ć (.Name (jU i) p2) X.env) :: Ì [] X.env:=by rfl) (fi:(Ĕ pos (Ì [.Name (jU i) p2] X.env)).any (·.1)=false:=by rfl) :
  PE X (.Call (.Name "isinstance" p) [e,.Name (jU i) p2] [] pos) (tE T XE (cj (a8 (pD i)) m)):=
 IQ (c:=.ref (T.cl i)) (zW (v:=.ref (T.cl i)) Qb (x.gl i hi) rfl mx) rfl (λ C b h=>by
  unfold pD at h
  split at h
  ·rename_i hc
   cases h
   exact⟨x.is C hc,x.Vn hc hi⟩
  ·cases h) hm ha hK hg he Ik fi
theorem uu:Ĭ "ValueError"=À (.type "ValueError"):=by decide +kernel
theorem QM {m:Ev}(x:Xs T X.mg)(hm:X.mg "isinstance"=none)(Zl:X.mg "ValueError"=none)(ha:PE X e (tE T XE m)) (hK:X.K=T.K:=by rfl)(hg:Gl X "isinstance":=by rfl)(Qb:Gl X "ValueError":=by rfl)
  (he:Ì [e,.Name "ValueError" p2] X.env=(false,Ć e X.env) :: Ì [.Name "ValueError" p2] X.env:=by rfl) (Ik:Ì [.Name "ValueError" p2] X.env=(false,Ć (.Name "ValueError" p2) X.env) :: Ì [] X.env:=by rfl) (fi:(Ĕ pos (Ì [.Name "ValueError" p2] X.env)).any (·.1)=false:=by rfl) :
  PE X (.Call (.Name "isinstance" p) [e,.Name "ValueError" p2] [] pos) (tE T XE (cj (a8 FA) m)):=
 IQ (c:=.type "ValueError") (EU (v:=.ty "ValueError") Qb Zl uu rfl) rfl (λ C b h=>by
  unfold FA at h
  split at h
  ·rename_i hc
   cases h
   exact⟨x.is C hc,x.ZL hc⟩
  ·cases h) hm ha hK hg he Ik fi
theorem EO (x:Xs T X.mg)(hi:i < 9)(h:PA X es (tK ((is.map T.cl).map V.ref))) (Qb:Gl X (jU i):=by rfl) (mx:(jU i == ("__debug__":Str))=false:=by decide +kernel) (hs:Ì (.Name (jU i) p :: es) X.env=(false,Ć (.Name (jU i) p) X.env) :: Ì es X.env:=by rfl) :
  PA X (.Name (jU i) p :: es) (tK (((i :: is).map T.cl).map V.ref)):=JA (zW (v:=.ref (T.cl i)) Qb (x.gl i hi) rfl mx) h hs
theorem MY {is:Á Nat}{cls:Á ń}{x1:Nat}{m:Ev}(x:Xs T X.mg)(hi:is.all (· < 9)=true) (hl:is.length<=1000)(hm:X.mg "isinstance"=none)(hv:PA X cls (tK ((is.map T.cl).map V.ref))) (ha:PE X e (tE T XE m)) (hK:X.K=T.K:=by rfl)(hg:Gl X "isinstance":=by rfl)
  (he:Ì [e,.Tuple cls x1 p2] X.env=(false,Ć e X.env) :: Ì [.Tuple cls x1 p2] X.env:=by rfl) (Ik:Ì [.Tuple cls x1 p2] X.env=(false,Ć (.Tuple cls x1 p2) X.env) :: Ì [] X.env:=by rfl) (fi:(Ĕ pos (Ì [.Tuple cls x1 p2] X.env)).any (·.1)=false:=by rfl) :
  PE X (.Call (.Name "isinstance" p) [e,.Tuple cls x1 p2] [] pos) (tE T XE (cj (a8 (Fz is)) m)):=
 MZ hv (by rw[Õ];exact hl) (λ C b h=>by
  unfold Fz at h
  split at h
  ·rename_i hc
   cases h
   exact⟨x.is C hc,x.Vo hc λ i Es=>î (ă.mp hi i Es)⟩
  ·cases h) hm ha hK hg he Ik fi
end
end Mm
namespace Ro
open PySem L2 Mm
section
variable {P:Ą}{w:ğ}{T:Tx}{mg:Str->Ë Value}{base:Heap}
theorem bc (N:Á Str)(D:Df T mg x st)(S:i4 N (N.take n) (Ċ st))
  (hb:∀ (kV doc pm:Value) (an:Ë Addr) (dH ct:Value) (us:Á Value),us.length=(N.take n).length->uh (ľ x x (cA st) (aB st) (Ċ st) .none kV doc pm an dH ct) ⟨us,[]⟩=pure ((N.take n).zip us)) (hn:(N.take n).length=n)
  (h:∀ (f:Addr) (dH:Value) (A:į) (outer:Á AF) (s:Ò) (H:Hp) (E:XK),cN k (A.deeper (az x (Ċ st) s.heap.objs.size f dH))->N.Nodup->Ls T (m5 (sk P w) P w T.K mg base N x (Ċ st) f dH A outer s H E) (oO T E)->nu (m5 (sk P w) P w T.K mg base N x (Ċ st) f dH A outer s H E) (aB st) (tS T (oO T E) body)) :
  gX P w T mg base x n (k+1) (fe N.length body):=by
 obtain⟨f,fd,F,m⟩:=D.ex
 have:=zy F S λ dH A outer s H E hr=>h f dH A outer s H E hr S.nd By
 rw[hn]at this
 exact⟨f,fd,_,this,F.binds hb,m,F.kp⟩
theorem FN (hl:ps.length=n):hX P w T.K mg base (sk P w) k f fd ps (Cf T n λ _ _=>.bad):=
 ⟨λ vs H Q E h=>h.1.trans hl.symm,λ A outer s H args us vs Q E _ _ _ _ h=>by obtain⟨_,ρ,st,a,_,_,z⟩:=h;exact z.elim⟩
theorem Mj (ps:Á Str)(D:Df T mg x st)(hl:ps.length=n)
  (hb:∀ (kV doc pm:Value) (an:Ë Addr) (dH ct:Value) (us:Á Value),us.length=ps.length->uh (ľ x x (cA st) (aB st) (Ċ st) .none kV doc pm an dH ct) ⟨us,[]⟩=pure (ps.zip us)):gX P w T mg base x n k λ _ _=>.bad:=by
 obtain⟨f,fd,F,m⟩:=D.ex
 exact⟨f,fd,ps,FN hl,F.binds hb,m,F.kp⟩
end
end Ro
namespace Mm
open PySem L2
def yy (f:Str)(v:AV):Á (Str × AV)->Á (Str × AV)
 | []=>[(f,v)]
 | (g,x) :: r=>if g=f then (g,v) :: r else (g,x) :: yy f v r
section
variable {T:Tx}{XE:j6}{X:Cx}{pos:mT}
def tw (T:Tx)(ρ:Á Addr)(H:Hp)(fs:Á (Str × AV)) (ks:Á (Str × V)):Prop:=fs.map (·.1)=ks.map (·.1)/\Ħ T ρ H (fs.map (·.2)) (ks.map (·.2))
theorem tw.nil:tw T ρ H [] []:=⟨rfl,.nil⟩
theorem tw.nil_inv (h:tw T ρ H [] ks):ks=[]:=by
 have:=h.1
 cases ks with
 | nil=>rfl
 | cons a r=>simp at this
theorem tw.cons_inv (h:tw T ρ H ((g,v) :: fs) ks):∃ x r,ks=(g,x) :: r/\VR T ρ H v x/\tw T ρ H fs r:=by
 obtain⟨h1,h2⟩:=h
 cases ks with
 | nil=>simp at h1
 | cons a r=>
  obtain⟨g',x⟩:=a
  simp only[Ó,Ŵ]at h1
  obtain⟨y,ys,e,k1,k2⟩:=Ħ.cons_inv (show Ħ T ρ H (v :: fs.map (·.2)) (x :: r.map (·.2)) from h2)
  cases e
  obtain⟨rfl,h1⟩:=h1
  exact⟨x,r,rfl,k1,h1,k2⟩
theorem tw.cons {ρ:Á Addr}{H:Hp}{g:Str}{v:AV}{x:V}{fs:Á (Str × AV)}{ks:Á (Str × V)}(h:VR T ρ H v x)(k:tw T ρ H fs ks):tw T ρ H ((g,v) :: fs) ((g,x) :: ks):=
 ⟨by simp[k.1],.cons h k.2⟩
theorem tw.get:∀ {fs:Á (Str × AV)}{ks:Á (Str × V)},tw T ρ H fs ks->fs.lookup f=À v->∃ x,ks.lookup f=À x/\VR T ρ H v x
 | [],_,_,e=>by cases e
 | (g,w) :: fs,ks,h,e=>by
  obtain⟨x,r,rfl,h1,h2⟩:=h.cons_inv
  rw[ĕ]at e ⊢
  by_cases q:(f == g)=true
  ·rw[q]at e ⊢
   cases e
   exact⟨x,rfl,h1⟩
  ·rw[LD.mpr q]at e ⊢
   exact tw.get h2 e
theorem tw.Ē:∀ {fs:Á (Str × AV)}{ks:Á (Str × V)},tw T ρ H fs ks->fs.lookup f=none->ks.lookup f=none
 | [],_,h,_=>by rw[h.nil_inv];rfl
 | (g,w) :: fs,ks,h,e=>by
  obtain⟨x,r,rfl,h1,h2⟩:=h.cons_inv
  rw[ĕ]at e ⊢
  by_cases q:(f == g)=true
  ·rw[q]at e;cases e
  ·rw[LD.mpr q]at e ⊢
   exact tw.Ē h2 e
theorem tw.put (k:VR T ρ H v x):∀ {fs:Á (Str × AV)}{ks:Á (Str × V)},tw T ρ H fs ks->tw T ρ H (yy f v fs) (mG f x ks)
 | [],_,h=>by rw[h.nil_inv];exact .cons k .nil
 | (g,w) :: fs,ks,h=>by
  obtain⟨y,r,rfl,h1,h2⟩:=h.cons_inv
  unfold yy mG
  by_cases q:g=f
  ·rw[Ñ q,Ñ q];exact .cons k h2
  ·rw[Ö q,Ö q];exact .cons h1 (tw.put k h2)
theorem tw.gr (u:Gr ρ H Ň H')(h:tw T ρ H fs ks):tw T Ň H' fs ks:=⟨h.1,h.2.gr u⟩
theorem tw.length (h:tw T ρ H fs ks):fs.length=ks.length:=by
 have:=ĵ bS h.1
 simpa using this
theorem SR.Iw (sr:SR T ρ s H)(e:s[i]? = À (.ins c fs)) (h:VR T ρ H (.ref i) x):∃ (a dx:Addr) (ks:Á (Str × V)),x=.ref a/\ρ[i]? = À a/\H a=À (.ins (T.cl c) dx ks)/\tw T ρ H fs ks:=by
 obtain⟨a,e1,rfl⟩:=h.fS
 obtain⟨b,e2,dx,ks,h1,h2,h3⟩:=sr.obj i _ e
 rw[e1]at e2
 cases e2
 exact⟨a,dx,ks,rfl,e1,h1,h2,h3⟩
def sD (c:Nat)(v:AV)(s:S):Ë (Nat × Á (Str × AV)):=match v with
 | .ref i=>match s[i]? with
  | some (.ins c' fs)=>if c'=c then À (i,fs) else none
  | _=>none
 | _=>none
theorem vN (h:sD c v s=À (i,fs)):v=.ref i/\s[i]? = À (.ins c fs):=by
 unfold sD at h
 split at h
 ·rename_i j
  split at h
  ·rename_i c' XI e
   split at h
   ·rename_i q
    cases h
    exact⟨rfl,by rw[e,q]⟩
   ·cases h
  ·cases h
 ·cases h
def bC (c:Nat)(f:Str)(v:AV)(s:S):R AV:=need (sD c v s) λ p=>need (p.2.lookup f) λ w=>.ok w s
theorem QH (cl:AY T.K (T.cl c)) (na:kH T.K (T.cl c) f) (he:PE X e (tE T XE m)) (hK:X.K=T.K:=by rfl)(hb:Ŧ e f X.env (Ć e X.env)=Ć e X.env:=by rfl):PE X (.Attribute e f pos) (tE T XE (cj (bC c f) m)):=
 PE.imp (Rv he hb) λ σ H Q zz=>ŀ zz λ ρ env s hs he ho=>step hs he ho λ v s1 Ě H1 x _ u1 İ aM Ĝ Ā=>by
  obtain⟨p,e1,ck⟩:=Ā.ó
  obtain⟨w,e2,lg⟩:=ck.ó
  obtain⟨i,fs⟩:=p
  obtain⟨rfl,e3⟩:=vN e1
  obtain⟨a,dx,ks,rfl,_,h1,h2⟩:=İ.Iw e3 Ĝ
  obtain⟨y,e4,k⟩:=h2.get e2
  exact⟨a,T.cl c,dx,ks,y,rfl,h1,hK ▸ cl,hK ▸ na,e4,lg.ķ İ k⟩
def jQ (c:Nat)(f:Str)(mo mv:Ev):Ms:=λ env s=>(mv env s).cu λ y s1=>(mo env s1).cu λ x s2=>match sD c x s2 with
 | some p=>if p.2.length < 1000 then .nx env (s2.set p.1 (.ins c (yy f y p.2))) else .bad
 | none=>.bad
theorem Q2 {mo mv:Ev}(cl:AY T.K (T.cl c)) (na:kH T.K (T.cl c) f) (ho:PE X o (tE T XE mo)) (hv:PE X value (tE T XE mv)) (hK:X.K=T.K:=by rfl)(hs:eB value (À (.Attribute o f pos')) pos.line X.env=pure false:=by rfl) :
  PS X (.Assign [.Attribute o f pos'] value pos) (tS T XE (jQ c f mo mv)):=
 PS.imp (RJ ho hv hs) λ D σ H ⟨ρ,env,s,sr,er,h⟩=>dP sr er h λ y s1 Ě H1 y' _ u1 İ aM Ĝ h1=>dP İ aM h1 λ x s2 bf H2 x' _ u2 fm oh iN h2=>by
  have Ĝ:VR T bf H2 y y':=VR.up u2 Ĝ
  cases e:sD c x s2 with
  | none=>simp only[e]at h2;exact h2.elim
  | some p=>
   simp only[e]at h2
   obtain⟨i,fs⟩:=p
   obtain⟨rfl,e3⟩:=vN e
   obtain⟨a,dx,ks,rfl,ea,h3,h4⟩:=fm.Iw e3 iN
   by_cases hl:fs.length < 1000
   ·rw[Ñ hl]at h2
    have up:Up bf H2 bf (upd H2 a (.ins (T.cl c) dx (mG f y' ks))):=fm.wH ea h3 (λ _ z=>nomatch z) (λ _ _ z=>nomatch z)
    refine⟨a,T.cl c,dx,ks,rfl,h3,hK ▸ cl,hK ▸ na,by rw[<-h4.length];exact hl,h2 bf _ σ up (fm.set ea up ?_) (oh.up up)⟩
    have k:=(h4.put (f:=f) Ĝ).gr up.toGr
    exact⟨dx,_,û ..,k.1,k.2⟩
   ·rw[Ö hl]at h2
    exact h2.elim
def Ľ (c:Nat)(m:Str)(n:Nat)(F:Á AV->S->R AV)(mo:Ev)(r:fY):Ev:=λ env s=>(mo env s).bind λ x s1=>need (sD c x s1) λ p=>if p.2.lookup m=none then (r env s1).bind λ vs s2=>if vs.length=n then F (x :: vs) s2 else .bad else .bad
structure lB (P:Ą)(w:ğ)(T:Tx)(mg:Str->Ë Value)(base:Heap)(c:Nat)(m:Str)(n k:Nat)(Fn:Á AV->S->R AV):Prop where
 ex:∃ f fd ps,hX P w T.K mg base (sk P w) k f fd ps (Cf T (n+1) Fn)/\Binds T.K fd ps []/\Meth T.K (T.cl c) m f
theorem EJ (k:∀ c ρ s H,XE c ρ s H->oO T E c ρ s H)(h:tE T XE (Ľ c m n F mo r) σ H Q):Ko (T.cl c) m (Cf T (n+1) F) [] E (tE T XE mo) (tP T XE r) σ H Q:=by
 obtain⟨ρ,env,s,hs,he,ho⟩:=h
 refine step hs he ho λ x s1 Ě H1 x' _ u1 İ aM Ĝ Ā=>?_
 obtain⟨p,e1,ck⟩:=Ā.ó
 obtain⟨Cd,lg⟩:=ck.ō
 clear Ā ck
 obtain⟨i,fs⟩:=p
 obtain⟨rfl,e3⟩:=vN e1
 have Ĝ:VR T Ě H1 (.ref i) x':=Ĝ
 obtain⟨a,dx,ks,rfl,ea,h3,h4⟩:=İ.Iw e3 Ĝ
 refine⟨a,dx,ks,rfl,h3,h4.Ē Cd,?_⟩
 refine step İ aM lg λ vs s2 bf H2 xs _ u2 fm oh iN Lv=>?_
 obtain⟨hl,ho5⟩:=Lv.ō
 have iN:Ħ T bf H2 vs xs:=iN
 rw[jX]
 exact⟨by simp[<-iN.length,hl],bf,s2,_,fm,.cons (Ĝ.up u2) iN,ho5.xe k⟩
theorem M3 (cl:AY T.K (T.cl c)) (h:lB X.prog X.w T X.mg X.base c m n k Fn)(hr:cN k X.A)(ho:PE X o (tE T XE mo)) (ha:PA X (e :: es) (tP T XE r)) (ls:Ls T X XE)(hK:X.K=T.K:=by rfl)
  (CS:Ì (e :: es) X.env=(false,Ć e X.env) :: Ì es X.env:=by rfl) (fi:(Ĕ pos (Ì es X.env)).any (·.1)=false:=by rfl)
  (ht:Ć (.Call (.Attribute o m bR) (e :: es) [] pos) X.env=(do
   let ov <-Ć o X.env
   kh bR.atName
   let (f,first) <-cR [ov] (pA ov m pl)
   yV pos f first (Ĕ pos (Ì (e :: es) X.env)) (gu pos (bG [] X.env))):=by rfl) :
  PE X (.Call (.Attribute o m bR) (e :: es) [] pos) (tE T XE (Ľ c m n Fn mo r)):=by
 obtain⟨f,fd,ps,G,hb,hm⟩:=h.ex
 obtain⟨E,l,hE⟩:=ls.ex
 exact PE.imp (NC (E:=E) (pl:=pl) ho (hK ▸ cl) (hK ▸ hm) (by rw[hK];exact G) hr (by rw[hK];exact hb) .nil l.passes ha CS fi ht) λ _ _ _ h=>EJ hE h
theorem IU (cl:AY T.K (T.cl c)) (h:lB X.prog X.w T X.mg X.base c m 0 k Fn)(hr:cN k X.A)(ho:PE X o (tE T XE mo)) (ls:Ls T X XE)(hK:X.K=T.K:=by rfl)
  (ht:Ć (.Call (.Attribute o m bR) [] [] pos) X.env=(do
   let ov <-Ć o X.env
   kh bR.atName
   let (f,first) <-cR [ov] (pA ov m pl)
   yV pos f first (Ĕ pos (Ì [] X.env)) (gu pos (bG [] X.env))):=by rfl) :
  PE X (.Call (.Attribute o m bR) [] [] pos) (tE T XE (Ľ c m 0 Fn mo Ü)):=by
 obtain⟨f,fd,ps,G,hb,hm⟩:=h.ex
 obtain⟨E,l,hE⟩:=ls.ex
 refine PE.imp (JJ (E:=E) (pl:=pl) ho (hK ▸ cl) (hK ▸ hm) (by rw[hK];exact G) hr (by rw[hK];exact hb) .nil l.passes ht) λ σ H Q h=>?_
 obtain⟨ρ,env,s,hs,he,ho⟩:=EJ hE h
 refine⟨ρ,env,s,hs,he,ho.imp λ x H1 ⟨a,dx,fs,e1,e2,e3,Ě,abp,s1,k1,k2,k3⟩=>⟨a,dx,fs,e1,e2,e3,?_⟩⟩
 exact k3 Ě H1 [] .refl k1 (Ħ.nil (T:=T) (ρ:=Ě) (H:=H1))
def pR (c:Nat)(F:Á AV->S->R AV):Ev:=λ _ s=>(F [.ref s.length] (s++[.ins c []])).bind λ v s2=>match v with
 | .Ē=>.ok (.ref s.length) s2
 | _=>.bad
structure Tu (P:Ą)(w:ğ)(T:Tx)(mg:Str->Ë Value)(base:Heap)(c:Nat)(nm:Str)(k:Nat)(Fn:Á AV->S->R AV):Prop where
 ex:∃ f fd ps,hX P w T.K mg base (sk P w) k f fd ps (Cf T 1 Fn)/\Binds T.K fd ps []/\Mk T.K (T.cl c) f/\mg nm=À (.ref (T.cl c))
theorem IS (h:Tu X.prog X.w T X.mg X.base c x k Fn)(hr:cN (k+1) X.A) (ls:Ls T X XE)(hK:X.K=T.K:=by rfl)(hg:Gl X x:=by rfl)(mx:(x == ("__debug__":Str))=false:=by decide):PE X (.Call (.Name x p) [] [] pos) (tE T XE (pR c Fn)):=by
 obtain⟨f,fd,ps,G,hb,M,hm⟩:=h.ex
 obtain⟨E,l,hE⟩:=ls.ex
 refine PE.imp (JI (E:=E) (hK ▸ M) (by rw[hK];exact G) hr hg hm (by rw[hK];exact hb) .nil l.passes mx) λ σ H Q zz=>ŀ zz λ ρ env s hs he ho=>?_
 intro a dx ha hd vL
 have Lr:upd H dx (.own a) a=none:=by rw[ã (Ŝ vL)];exact ha
 have u1:Up ρ H ρ (upd (upd H dx (.own a)) a (.ins (T.cl c) dx [])):=(hs.dQ hd).trans ((hs.new hd).dQ Lr)
 have u2:Up ρ H (ρ++[a]) (upd (upd H dx (.own a)) a (.ins (T.cl c) dx [])):=u1.add ha
 have fm:SR T (ρ++[a]) (s++[.ins c []]) (upd (upd H dx (.own a)) a (.ins (T.cl c) dx [])):=((hs.new hd).new Lr).add ((hs.new hd).out Lr) ⟨dx,[],û ..,rfl,.nil⟩
 have iN:VR T (ρ++[a]) (upd (upd H dx (.own a)) a (.ins (T.cl c) dx [])) (.ref s.length) (.ref a):=p_ (by rw[ß (by rw[hs.len];lia),hs.len];simp)
 refine⟨rfl,ρ++[a],s++[.ins c []],[.ref s.length],fm,.one iN,?_⟩
 have ho:=Out.up u2 ho
 unfold pR at ho
 cases e:Fn [.ref s.length] (s++[.ins c []]) with
 | bad=>rw[e]at ho;exact ho.elim
 | ex c' s3=>rw[e]at ho;exact λ Ň H' u sr=>hE _ _ _ _ (ho Ň H' u sr)
 | ok v s3=>
  rw[e]at ho
  intro Ň H' x' u sr vr
  rw[ą]at ho
  have vr:VR T Ň H' v x':=vr
  cases v with
  | Ē=>exact⟨vr.ja,ho Ň H' (.ref a) u sr (iN.up u)⟩
  | _=>exact ho.elim
end
end Mm
namespace Ro
open PySem L2 Mm
structure gh (T:Tx)(c:Nat)(m qual:Str)(st:Stmt):Prop where
 ex:∃ f fd,Ha T.K m qual st f fd/\Meth T.K (T.cl c) m f
structure Tr (T:Tx)(mg:Str->Ë Value)(c:Nat)(nm qual:Str)(st:Stmt):Prop where
 ex:∃ f fd,Ha T.K "__init__" qual st f fd/\Mk T.K (T.cl c) f/\mg nm=À (.ref (T.cl c))
structure Bk (T:Tx)(c:Nat)(fs:Á Str):Prop where
 cl:AY T.K (T.cl c)
 na:∀ f∈fs,kH T.K (T.cl c) f
section
variable {P:Ą}{w:ğ}{T:Tx}{mg:Str->Ë Value}{base:Heap}
theorem cP (N:Á Str)(D:gh T c m qual st)(S:i4 N (N.take (n+1)) (Ċ st))
  (hb:∀ (kV doc pm:Value) (an:Ë Addr) (dH ct:Value) (us:Á Value),us.length=(N.take (n+1)).length->uh (ľ m qual (cA st) (aB st) (Ċ st) .none kV doc pm an dH ct) ⟨us,[]⟩=pure ((N.take (n+1)).zip us)) (hn:(N.take (n+1)).length=n+1)
  (h:∀ (f:Addr) (dH:Value) (A:į) (outer:Á AF) (s:Ò) (H:Hp) (E:XK),cN k (A.deeper (az qual (Ċ st) s.heap.objs.size f dH))->N.Nodup->Ls T (m5 (sk P w) P w T.K mg base N qual (Ċ st) f dH A outer s H E) (oO T E)->nu (m5 (sk P w) P w T.K mg base N qual (Ċ st) f dH A outer s H E) (aB st) (tS T (oO T E) body)) :
  lB P w T mg base c m n (k+1) (fe N.length body):=by
 obtain⟨f,fd,F,M⟩:=D.ex
 have:=zy F S λ dH A outer s H E hr=>h f dH A outer s H E hr S.nd By
 rw[hn]at this
 exact⟨f,fd,_,this,F.binds hb,M⟩
theorem PX (N:Á Str)(D:Tr T mg c nm qual st)(S:i4 N (N.take 1) (Ċ st))
  (hb:∀ (kV doc pm:Value) (an:Ë Addr) (dH ct:Value) (us:Á Value),us.length=(N.take 1).length->uh (ľ "__init__" qual (cA st) (aB st) (Ċ st) .none kV doc pm an dH ct) ⟨us,[]⟩=pure ((N.take 1).zip us)) (hn:(N.take 1).length=1)
  (h:∀ (f:Addr) (dH:Value) (A:į) (outer:Á AF) (s:Ò) (H:Hp) (E:XK),cN k (A.deeper (az qual (Ċ st) s.heap.objs.size f dH))->N.Nodup->Ls T (m5 (sk P w) P w T.K mg base N qual (Ċ st) f dH A outer s H E) (oO T E)->nu (m5 (sk P w) P w T.K mg base N qual (Ċ st) f dH A outer s H E) (aB st) (tS T (oO T E) body)) :
  Tu P w T mg base c nm (k+1) (fe N.length body):=by
 obtain⟨f,fd,F,M,hm⟩:=D.ex
 have:=zy F S λ dH A outer s H E hr=>h f dH A outer s H E hr S.nd By
 rw[hn]at this
 exact⟨f,fd,_,this,F.binds hb,M,hm⟩
end
end Ro
namespace Mm
open PySem L2
section
variable {T:Tx}{XE:j6}{X:Cx}{pos:mT}
def BW:Á AV->Ë (Á Str)
 | []=>À []
 | .str x :: r=>(BW r).map (x :: ·)
 | _=>none
theorem wG:∀ {l:Á AV}{ss:Á Str},BW l=À ss->l=ss.map AV.str
 | [],_,h=>by cases h;rfl
 | .str x :: r,ss,h=>by
  have h:(BW r).map (x :: ·)=À ss:=h
  cases e:BW r with
  | none=>rw[e]at h;cases h
  | some q=>rw[e]at h;cases h;rw[Ó,<-wG e]
 | .Ē :: _,_,h=>by cases h
 | .bl _ :: _,_,h=>by cases h
 | .int _ :: _,_,h=>by cases h
 | .tup _ :: _,_,h=>by cases h
 | .ref _ :: _,_,h=>by cases h
 | .sq _ :: _,_,h=>by cases h
def pK (m:Ev):fY:=λ env s=>(m env s).bind λ v s1=>match v with
 | .ref i=>need (ï s1 i) λ l=>need (BW l) λ ss=>if ss.length < 64 then .ok ((ù ss).map .str) s1 else .bad
 | _=>.bad
theorem Ja (hm:X.mg "sorted"=none)(h:PE X e (tE T XE m)) (hg:Gl X "sorted":=by rfl)(he:Ì [e] X.env=(false,Ć e X.env) :: Ì [] X.env:=by rfl) (fi:(Ĕ pos (Ì [] X.env)).any (·.1)=false:=by rfl) :
  PE X (.Call (.Name "sorted" p) [e] [] pos) (tL T XE (pK m)):=
 PE.imp (dn vm hg hm ŕ (aN h eW he) (by decide) (by decide) he fi) λ σ H Q zz=>ŀ zz λ ρ env s hs he ho=>step hs he ho λ v s1 Ě H1 x _ u1 İ aM Ĝ Ā=>by
  cases v with
  | ref i=>
   obtain⟨l,e1,ck⟩:=Ā.ó
   obtain⟨ss,e2,lg⟩:=ck.ó
   obtain⟨hl,Lv⟩:=lg.ō
   obtain⟨a,vs,rfl,ea,h1,k⟩:=İ.fj (ć e1) Ĝ
   rw[wG e2]at k
   cases k.wC
   refine⟨a,ss,rfl,h1,hl,λ Lz d hd hp hs=>?_⟩
   rw[mH hp (jc hs)]
   exact Lv.lst İ hd (Ħ.map (λ _=>iO) _)
  | _=>exact Ā.elim
def Rh (a y:AV)(s:S):R AV:=match a with
 | .ref i=>need (j8 s i) λ kvs=>need (fR y) λ k=>.ok ((Ů kvs k).getD .Ē) s
 | _=>.bad
def yn (d y:Ev):Ev:=λ env s=>(d env s).bind λ a s1=>need (lI "dict" a s1) λ _=>(y env s1).bind λ b s2=>Rh a b s2
theorem MV (hu:X.A.units+1 < cLine)(ho:PE X o (tE T XE m)) (he:PE X e (tE T XE n)) (q:M1 X o "get" bR e aw:=by exact⟨rfl,rfl,rfl,rfl⟩):PE X (.Call (.Attribute o "get" bR) [e] [] aw) (tE T XE (yn m n)):=
 PE.imp (JD hu ho he q) λ σ H Q zz=>ŀ zz λ ρ env s hs he ho=>step hs he ho λ d s1 Ě H1 x _ u1 İ aM Ĝ Ā=>by
  obtain⟨_,e0,Ā⟩:=Ā.ó
  obtain⟨a,rfl,hd⟩:=Iy e0 İ Ĝ
  refine⟨a,rfl,hd,step İ aM Ā λ w s2 bf H2 y _ u2 fm oh iN ck=>?_⟩
  have Ĝ:VR T bf H2 d (.ref a):=VR.up u2 Ĝ
  cases d with
  | ref i=>
   obtain⟨kvs,e1,lg⟩:=ck.ó
   obtain⟨k,e2,Lv⟩:=lg.ó
   obtain⟨b,ks,eb,ea,h1,q1,q2⟩:=fm.zm (i6 e1) Ĝ
   cases eb
   refine⟨gP ks k,by rw[g8 e2 iN];exact j9.k h1,?_⟩
   cases ev:Ů kvs k with
   | none=>rw[(cV k q1 q2).2 ev];rw[ev]at Lv;exact Lv.ķ fm sZ
   | some v=>obtain⟨x',ex,kx⟩:=(cV k q1 q2).1 v ev;rw[ex];rw[ev]at Lv;exact Lv.ķ fm kx
  | _=>exact ck.elim
def GG (a:Ev):Src:=λ env s=>(a env s).bind λ v s1=>need (xE false v s1) λ p=>.ok (xW p.1,p.2) s1
theorem M8 (hK:X.K=T.K)(hm:X.mg "enumerate"=none)(h1:PE X e1 (tE T XE a)) (hg:Gl X "enumerate":=by rfl)
  (hs:Ì [e1] X.env=(false,Ć e1 X.env) :: Ì [] X.env:=by rfl) (fi:(Ĕ pos (Ì [] X.env)).any (·.1)=false:=by rfl) :
  PI X (.Tuple es kk DF) (.Call (.Name "enumerate" p) [e1] [] pos) (tW T XE (GG a)):=
 PI.imp (NG hg hm h1 hs fi) λ σ H R zz=>ŀ zz λ ρ env s hs he ho=>step hs he ho λ v s1 Ě H1 x _ u1 İ aM Ĝ Ā=>by
  obtain⟨r,e,ck⟩:=Ā.ó
  obtain⟨xs,g⟩:=r
  obtain⟨a1,rfl,⟨vs0,x1⟩,w1⟩:=wt e İ Ĝ
  have x1:fZ T.K H1 a1 vs0:=x1
  refine⟨a1,rfl,⟨vs0,by rw[hK];exact x1⟩,ck Ě H1 _ .refl İ ⟨λ Ň s' H' u' mI gk=>?_⟩⟩
  obtain⟨vs,k1,k2⟩:=w1 Ň s' H' u' mI gk
  have k1:fZ T.K H' a1 vs:=k1
  rw[hK]
  have Az:=k2.length
  refine⟨λ j z ez=>?_,⟨vs,k1,?_⟩⟩
  ·have hj:j < xs.length:=by
    have:=(Æ.mp ez).1
    simp only[xW,Õ,oG,gR]at this
    lia
   have YW:z=.tup [.int (j:Int),xs[j]]:=by
    have q:(xW xs)[j]? = À (.tup [.int (j:Int),xs[j]]):=by
     simp[xW,AJ,hj]
    rw[q]at ez
    exact(è ez).symm
   subst YW
   obtain⟨x3,e3,v3⟩:=k2.get (Å hj)
   refine⟨⟨vs,x3,k1,e3⟩,λ q H'' ⟨Tt,y1,eq,hT,eH,hy⟩=>?_⟩
   have f1:=hy vs k1
   rw[e3]at f1
   cases f1
   subst eq eH
   exact⟨mI.dQ hT,mI.new hT,jT (hZ.of û) (Ħ.up (mI.dQ hT) (.cons dY (.one v3)))⟩
  ·rw[<-Az]
   simp only[xW,Õ,oG,gR]
   lia
def vG (m:fY):fY:=λ env s=>(m env s).bind λ l s1=>need (BW l) λ ss=>if ss.length < 64 then .ok ((ù ss).map .str) s1 else .bad
theorem I_ (hm:X.mg "sorted"=none)(h:PE X e (tL T XE m)) (hg:Gl X "sorted":=by rfl)(he:Ì [e] X.env=(false,Ć e X.env) :: Ì [] X.env:=by rfl) (fi:(Ĕ pos (Ì [] X.env)).any (·.1)=false:=by rfl) :
  PE X (.Call (.Name "sorted" p) [e] [] pos) (tL T XE (vG m)):=
 PE.imp (dn vm hg hm ŕ (aN h eW he) (by decide) (by decide) he fi) λ σ H Q zz=>ŀ zz λ ρ env s hs he ho=>step hs he ho λ l s1 Ě H1 x _ u1 İ aM Ĝ Ā=>by
  obtain⟨ss,e2,lg⟩:=Ā.ó
  obtain⟨hl,Lv⟩:=lg.ō
  obtain⟨a,vs,rfl,_,_,h1,k⟩:=Ĝ
  rw[wG e2]at k
  cases k.wC
  refine⟨a,ss,rfl,h1,hl,λ Lz d hd hp hs=>?_⟩
  rw[mH hp (jc hs)]
  exact Lv.lst İ hd (Ħ.map (λ _=>iO) _)
end
end Mm
namespace L2
open PySem PySem.Spec PyProof.Rows Mm
theorem DE {pos:mT}{oc:Obj}(h:xN H q ps)(k:∀ b o u,H b=À (.oZ o u)->H' b=À (.oZ o u))
  (hc:H' c=À (.oZ oc u)) (hd:oc.data=.fields vs) (hv:vs[1]? = À (.str q t)):xN H' q (ps++#[ŧ pos.line,ŧ pos.col,.ref c]):=by
 have e:(ps++#[ŧ pos.line,ŧ pos.col,.ref c]).toList=ps.toList++[ŧ pos.line,ŧ pos.col,.ref c]:=by simp
 refine⟨by rw[e];exact TriplesOk_snoc _ _ _ _ h.1,λ p cv z=>?_⟩
 rw[e]at z
 have key:∀ l:Á Value,Yv l->AR p (l++[ŧ pos.line,ŧ pos.col,.ref c])=À cv->AR p l=À cv∨cv=.ref c:=by
  intro l hl
  fun_induction Yv l with
  | case1=>
   intro z
   have z:(if (((pos.line:Int) == p.line) && ((pos.col:Int) == p.col))=true then À (Î c) else none)=À cv:=z
   split at z
   ·cases z;exact .inr rfl
   ·cases z
  | case2 a b c' d e' r ih=>
   intro z
   simp only[iR,AR]at z ⊢
   split at z
   ·rename_i q;rw[Ñ q];exact .inl z
   ·rename_i q;rw[Ö q];exact ih hl z
  | case3=>exact hl.elim
 rcases key _ h.1 z with z|rfl
 ·obtain⟨c1,o1,u1,v1,t1,k1,k2,k3⟩:=h.2 p cv z
  exact⟨c1,o1,u1,v1,t1,k1,k _ _ _ k2,k3⟩
 ·exact⟨c,oc,u,vs,t,rfl,hc,hd,hv⟩
section
variable {X:Cx}{pos:mT}
structure Hb (H H':Hp)(P:Addr)(q:Str):Prop where
 keep:∀ b o,H b=À o->b≠P->H' b=À o
 live:∀ b,H' b=none->H b=none
 tab:∃ ps,H' P=À (.uW ps)/\xN H' q ps
def aap (P:Addr)(q:Str):St->Hp->(Addr->Hp->Prop)->Prop:=λ _ H Q=>(∃ ps,H P=À (.uW ps)/\xN H q ps)/\∀ H' f,Hb H H' P q->H' f=none->Q f H'
theorem Qu 
  (yb:X.env.code=.ref c) (hC:ţ X.K c P=true) (hq:X.env.qual++"<lambda>"=q) (S1:qr scope X.env=pure []) (Ij:Tn params X.env=([],[]))
  (I:Inv X Ä σ H s) (h:aap P q σ H Q) :
  Ù (Ý X.prog X.w) X.A (Ć (.Lambda params body scope lp) X.env) (λ v s'=>∃ f H',v=.ref f/\Inv X Ä σ H' s'/\f+1=s'.heap.objs.size/\(∃ o,s'.heap.get? f=À o)/\X.base.get? f=none/\f≠X.env.locals/\Q f H') X.xe s:=by
 obtain⟨⟨ps,hP,hT⟩,hQ⟩:=h
 have UQ:s.heap.get? P=À (dC ps):=I.ļ P _ hP
 have Ze:s.heap.Ns mainGlobals X.mg:=I.mod.glob.keeps I.bk
 obtain⟨bm,ob,b1,b2,b3,b4,b5,b6⟩:=I.mod.bmain
 have hgP:mainGlobals≠P:=λ z=>by
  obtain⟨o,es,ep,e,hd,_⟩:=Ze
  rw[z,UQ]at e;cases e;cases hd
 have hbP:bm≠P:=λ z=>by
  have e:=I.bk _ _ b3
  rw[z,UQ]at e;cases e;cases b4
 have hbG:bm≠mainGlobals:=λ z=>by
  obtain⟨o,es,ep,e,hd,_⟩:=I.mod.glob
  rw[z,e]at b3;cases b3;rw[hd]at b6;cases b6
 have hB:s.heap.BuiltinsAt X.mg P:=⟨bm,ob,b1,b2,hbG,hbP,I.bk _ _ b3,b4,b5,b6⟩
 have C:PySem.W.CodeHd s.heap c P:=DN I.mz hC
 have hL:=I.lt
 have hbs:X.base.objs.size<=s.heap.objs.size:=ě I.ok.DX I.sz
 refine PySem.W.kla_eval Ij ?_
 cases hf:AR lp ps.toList with
 | some cv=>
  refine PySem.W.kla_makeFunctionHit (mg:=X.mg) S1 I.ok.glob Ze yb C UQ hT.1 hf hB λ YR h' tk hk hsz=>?_
  have U7:∀ b u,s.heap.get? b=À u->(h'.push (K9 "<lambda>" (X.env.qual++"<lambda>") params body scope [] ((X.mg "__name__").getD .none) 0 YR)).get? b=À u:=λ b u e=>Ã _ (hk b u e)
  refine⟨h'.objs.size,H,rfl,I.kept λ b u e=>Ã _ (hk b u e),by simp[Ģ],⟨_,Ø _ rfl⟩,qe (ě hbs hsz),đ (ä hL hsz),hQ H _ ⟨λ _ _ e _=>e,λ _ e=>e,ps,hP,hT⟩ (I.ļ.fresh hsz)⟩
 | none=>
  refine PySem.W.kla_makeFunction (mg:=X.mg) S1 I.ok.glob Ze yb C UQ hT.1 hf hgP hB λ c' YR h' tk hx U6 Bo Zs htb=>?_
  obtain⟨c₂,oc,vs,t,e2,U9,hd,hv⟩:=Zs
  cases e2
  rw[hq]at hv
  have hsz:s.heap.objs.size<=h'.objs.size:=Ė (bw U6 Bo)
  have nc:H c'=none:=I.ļ.fresh U6
  have ncP:c'≠P:=λ z=>by rw[z,hP]at nc;cases nc
  let H2:Hp:=upd (upd H c' (.oZ oc (.own c'))) P (.uW (ps++#[ŧ lp.line,ŧ lp.col,.ref c']))
  have k2:∀ b o,H b=À o->b≠P->H2 b=À o:=λ b o e n=>by
   show upd _ _ _ b=_
   rw[ã n,ã (Đ e nc)];exact e
  have nP:∀ b o,H b=À o->o≠.uW ps->b≠P:=λ b o e n z=>by subst z;rw[hP]at e;exact n (è e).symm
  have keepO:∀ b o,s.heap.get? b=À o->b≠P->∀ u:Obj,(h'.push u).get? b=À o:=λ b o e n u=>Ã _ (hx b o n e)
  have free:∀ b o,s.heap.get? b=À o->H b=none->H2 b=none:=λ b o e n=>by
   show upd _ _ _ b=_
   rw[ã (λ z=>by rw[z,hP]at n;cases n),ã (λ z=>by rw[z]at e;exact absurd (Ð e) (iX.mpr U6))];exact n
  have eP:H2 P=À (.uW (ps++#[ŧ lp.line,ŧ lp.col,.ref c'])):=û ..
  have ec:H2 c'=À (.oZ oc (.own c')):=by show upd _ _ _ c'=_;rw[ã ncP];exact û ..
  have live:∀ b,H2 b=none->H b=none:=λ b e=>by
   by_cases hb:b=P
   ·subst hb;rw[eP]at e;cases e
   ·by_cases hc:b=c'
    ·rw[hc];exact nc
    ·have e':upd (upd H c' (.oZ oc (.own c'))) P (.uW (ps++#[ŧ lp.line,ŧ lp.col,.ref c'])) b=none:=e
     rw[ã hb,ã hc]at e';exact e'
  have ff:∀ b o u,H b=À (.oZ o u)->H2 b=À (.oZ o u):=λ b o u e=>k2 b _ e (nP b _ e (λ z=>nomatch z))
  have tt:∀ b xs,H b=À (.tup xs)->H2 b=À (.tup xs):=λ b xs e=>k2 b _ e (nP b _ e (λ z=>nomatch z))
  have hf2:H2 h'.objs.size=none:=by
   show upd _ _ _ _=_
   rw[ã (λ z=>by have:=Ð UQ;rw[<-z]at this;exact absurd (ä this hsz) (Ņ _)),ã (λ z=>by rw[<-z]at Bo;exact absurd Bo (Ņ _))]
   exact I.ļ.fresh hsz
  let fo:=K9 "<lambda>" (X.env.qual++"<lambda>") params body scope [] ((X.mg "__name__").getD .none) c' YR
  have un:Un X.fs [] H H2 s.heap (h'.push fo):=
   ⟨λ b o e n _ _=>keepO b o e (λ z=>by rw[z,hP]at n;cases n) fo,λ b o e n _ _=>⟨o.slots,keepO b o e (λ z=>by rw[z,hP]at n;cases n) fo⟩,λ b o e n _=>free b o e n,λ b o e _=>by
     by_cases hb:b=P
     ·exact⟨_,by rw[hb];exact Ã _ htb⟩
     ·exact⟨o,keepO b o e hb fo⟩,tt,ff,λ b ps' e=>by
     by_cases hb:b=P
     ·subst hb
      rw[hP]at e;cases e
      exact⟨_,eP⟩
     ·exact⟨#[],by rw[k2 b _ e hb];simp⟩⟩
  have ho:m3 X.prog X.w H2 (h'.push fo):=λ b u e=>by
   by_cases hb:b=P
   ·subst hb
    rw[eP]at e;cases e
    exact Ã _ htb
   ·by_cases hc:b=c'
    ·subst hc
     rw[ec]at e;cases e
     exact⟨Ã _ U9,⟨_,Ã _ U9⟩⟩
    ·have e':upd (upd H c' (.oZ oc (.own c'))) P (.uW (ps++#[ŧ lp.line,ŧ lp.col,.ref c'])) b=À u:=e
     rw[ã hb,ã hc]at e'
     refine(I.ļ b u e').p8 (λ d v hd q=>keepO d v q ?_ fo) (λ d q=>k2 d _ q (nP d _ q (λ z=>nomatch z))) tt
     rcases hd with z|z
     ·rw[z];exact hb
     ·exact nP d _ z (λ z=>nomatch z)
  exact⟨h'.objs.size,H2,rfl,I.un un ho,by simp[Ģ],⟨_,Ø _ rfl⟩,qe (ě hbs hsz),đ (ä hL hsz),hQ H2 _ ⟨k2,live,_,eP,DE hT ff ec hd hv⟩ hf2⟩
def Sl (P:Addr)(q:Str)(t:TE):TE:=λ σ H Q=>t σ H λ x H1=>∃ l,x=.ref l/\H1 l=À (.lst [])/\(∃ ps,H1 P=À (.uW ps)/\xN H1 q ps)/\∀ H2 d,Hb H1 H2 P q->H2 d=none->Q (.ref d) (upd H2 d (.lst []))
theorem JL (he:PE X e t)(hm:X.mg "sorted"=none)
  (yb:X.env.code=.ref c) (hC:ţ X.K c P=true) (hq:X.env.qual++"<lambda>"=q) (S1:qr scope X.env=pure []) (Ij:Tn params X.env=([],[])) (hg:Gl X "sorted":=by rfl)
  (hs:Ì [e] X.env=(false,Ć e X.env) :: Ì [] X.env:=by rfl) (XO:Ĕ pos (Ì [e] X.env)=(false,Ć e X.env) :: Ĕ pos (Ì [] X.env):=by rfl) (fi:(Ĕ pos (Ì [e] X.env)).any (·.1)=false:=by rfl) :
  PE X (.Call (.Name "sorted" p) [e] [⟨À (å "key"),.Lambda params body scope lp,kp⟩] pos) (Sl P q t):=by
 intro Ä s σ H Q I h
 refine ų (pO I hg hm ŕ ?_ (by decide) (by decide))
 refine aaK ?_ XO fi
 rw[XO]
 refine fC (af (he Ä s σ H _ I h) λ u s1 zz=>?_)
 obtain⟨x,H1,I1,r1,l,ex,hl,ht,hQ⟩:=zz
 subst ex
 cases (show u=Î l from r1)
 refine lS ?_
 refine aaQ ?_
 refine af (Qu (q:=q) (P:=P) (Q:=λ f H'=>Hb H1 H' P q) yb hC hq S1 Ij I1 ⟨ht,λ H' f k _=>k⟩) λ v s2 ⟨f,H2,ev,I2,ef,⟨of,eo⟩,fb,fL,k2⟩=>?_
 subst ev
 refine aaR ?_
 have vK:H2 l=À (.lst []):=k2.keep l _ hl λ z=>by
  obtain⟨ps,hp,_⟩:=ht
  rw[z,hp]at hl;cases hl
 obtain⟨m,F⟩:=I2.fr
 obtain⟨_,its,n,rv,el⟩:=I2.ļ l _ vK
 cases rv
 refine aaO (b:=false) (kz:=[]) (vs:=[]) (f:=.ref f) F (Jp (g:=X.base) (h:=s2.heap) (L:=X.env.locals)) ⟨_,el,rfl,n,rfl⟩ rfl (by decide) (aaN _ _) (λ x=>aaM _ _) (λ x=>aaP _ _) (λ i v k hv=>by simp at hv) λ D h' tk out c F' N' lt ko=>?_
 have hD:s2.heap.objs.size<=D:=by
  have:=lt (f,of) (t_ fL fb eo)
  rw[<-ef];exact this
 have nD:=I2.ļ.fresh hD
 have kp:∀ b o,b≠X.env.locals->s2.heap.get? b=À o->h'.get? b=À o:=λ b o n e=>by
  cases z:X.base.get? b with
  | some w=>
   have:=F.keep b w z
   rw[e]at this;cases this
   exact F'.keep b _ z
  | none=>exact(N' (b,o) (.tail _ (t_ n z e))).1
 have Qg:out=#[]:=by
  obtain⟨ps,hp,ho,_⟩:=ko
  have:ps=[]:=by simpa using hp
  rw[this]at ho
  exact uY.mp (ho.trans rfl)
 subst Qg
 have eD:=(N' (D,aaS "list" #[] c) (.head _)).1
 have tn:∀ b u,H2 b=À u->b≠X.env.locals:=λ b u e z=>by rw[z,I2.free]at e;cases e
 refine⟨.ref D,upd H2 D (.lst []),?_,rfl,hQ H2 D k2 nD⟩
 refine I2.step (g':=s2.gens) (d':=s2.drawn) (ch:=[]) (λ _ z=>nomatch z) (λ b o n _ _ e _=>kp b o n e) (λ b o n _ _ e _=>⟨o.slots,kp b o n e⟩) (λ b o _ e z=>?_) (λ b o _ e=>?_) (λ b xs e=>by rw[ã (Đ e nD)];exact e) (λ b o w e=>by rw[ã (Đ e nD)];exact e) (λ b ps e=>⟨#[],by rw[ã (Đ e nD),e];simp⟩) (λ m' hm=>?_) (λ b w e=>?_) I2.bare
 ·rw[ã (λ y=>by rw[y]at e;exact absurd (Ð e) (iX.mpr hD))];exact z
 ·by_cases hb:b=X.env.locals
  ·obtain⟨o2,_,_,e2,_⟩:=F'.ns
   exact⟨o2,by rw[hb];exact e2⟩
  ·exact⟨o,kp b o hb e⟩
 ·have em:m'=m:=by
   funext y
   exact hm.agree F.ns y
  rw[em];exact F'.ns
 ·by_cases hb:b=D
  ·subst hb
   rw[û]at e;cases e
   exact⟨ñ _,[],c,.nil,eD⟩
  ·rw[ã hb]at e
   refine(I2.ļ b w e).p8 (λ d v hd z=>kp d v ?_ z) (λ d z=>by rw[ã (Đ z nD)];exact z) (λ d xs z=>by rw[ã (Đ z nD)];exact z)
   rcases hd with y|y
   ·rw[y];exact tn b w e
   ·exact tn d _ y
end
end L2
namespace L2
open PySem PySem.Spec PyProof.Rows
def DR (ts:Á Addr)(H:Hp):Prop:=(∀ P∈ts,H P=À (.uW #[]))/\∀ b,b∉ts->H b=none∨∃ o xs,H b=À (.oZ o (.lst xs))
theorem F0 {K:É}{s₁:Ò} 
  (KX:K.In s₁.heap) (hT:∀ q∈ts,s₁.heap.get? q=À (dC #[])) (UR:∀ q∈ts,isCodeTable s₁.heap q) (US:∀ q∈ts,K.lookup q=none)
  (XS:s₁.heap.Ns mainGlobals mg) (hb:s₁.heap.Ns mY mb) (hbb:∀ x:Str,x≠"__name__"->mb x=Ĭ x) (Zk:s₁.heap.NoLimit) (hdg:s₁.heap.NoDigits)
  (hbm:∃ bm ob,mg "__builtins__"=À (.ref bm)/\bm≠mY/\s₁.heap.get? bm=À ob/\ob.cls=.type "module"/\ob.dict=À mY/\ob.data=.plain) (hg:s₁.gens=#[])
  (ha:s₁.heap.get? a=À { cls:=.type "list",data:=.seq vs.toArray }) (hi:LG vs ns) (hl:ns.length<=sizeLine) (hr:cN k uK)
  (F:∀ base:Heap,K.In base->base.Ns mainGlobals mg->hX P w K mg base CX k fa fd [x] sp) (UX:∀ (s:Ò) (u:Value),uG s fd ⟨[u],[]⟩ [(x,u)])
  (S5:∀ H:Hp,DR ts H->fZ K H a (ns.map V.int)->sp [.ref a] H (λ v _=>v=.bl true) λ _ _ _=>False)
  (Y3:∀ H e s',CX [] H s₁ (λ _ _ _=>False) e s'->False) :
  eM (Ý P w) uK (.call (.ref fa) ⟨[.ref a],[]⟩) (λ r s'=>r=.ok (.ret (.bool true))/\OldK s₁.heap s'.heap/\s'.os=s₁.os/\n8 s'.gens) s₁:=by
 have rv:=yJ hi
 have lenV:=hi.length
 have nat:a∉ts:=λ z=>by
  have e:=hT a z
  rw[ha]at e;cases e
 have core:∀ H:Hp,DR ts H->fZ K H a (ns.map V.int)->m3 P w H s₁.heap->(∀ b,H b≠none->b=a∨b∈ts)->(H a≠none->K.lookup a=none)->
   eM (Ý P w) uK (.call (.ref fa) ⟨[.ref a],[]⟩) (λ r s'=>r=.ok (.ret (.bool true))/\OldK s₁.heap s'.heap/\s'.os=s₁.os/\n8 s'.gens) s₁:=by
  intro H hO hS ļ hA hK
  have base_of:∀ {b:Addr}{o:Obj},s₁.heap.get? b=À o->H b=none->(zE s₁.heap H).get? b=À o:=λ e n=>Im e n
  have noO:∀ {b:Addr}{o:Obj},s₁.heap.get? b=À o->o≠{ cls:=.type "list",data:=.seq vs.toArray }->o≠dC #[]->H b=none:=λ {b o} e n1 n2=>by
   cases q:H b with
   | none=>rfl
   | some u=>
    rcases hA b (by rw[q];simp) with e'|e'
    ·subst e'
     rw[ha]at e
     exact(n1 (è e).symm).elim
    ·rw[hT b e']at e
     exact(n2 (è e).symm).elim
  have nsK:∀ {b:Addr}{m:Str->Ë Value},s₁.heap.Ns b m->(zE s₁.heap H).Ns b m:=λ {b m} ⟨o,es,ep,e,d,r⟩=>⟨o,es,ep,base_of e (noO e (λ z=>by rw[z]at d;cases d) λ z=>by rw[z]at d;cases d),d,r⟩
  have hKb:K.In (zE s₁.heap H):=λ b o e=>base_of (KX b o e) (by
   cases q:H b with
   | none=>rfl
   | some u=>
    rcases hA b (by rw[q];simp) with e'|e'
    ·subst e'
     rw[hK (by rw[q];simp)]at e;cases e
    ·rw[US b e']at e;cases e)
  have hM:Mod K mg (zE s₁.heap H):=⟨hKb,nsK XS,⟨mb,nsK hb,hbb⟩,let ⟨mc,h1,h2⟩:=Zk;⟨mc,nsK h1,h2⟩,let ⟨mc,h1,h2⟩:=hdg;⟨mc,nsK h1,h2⟩,
   let ⟨bm,ob,b1,b2,b3,b4,b5,b6⟩:=hbm;⟨bm,ob,b1,b2,base_of b3 (noO b3 (λ z=>by rw[z]at b6;cases b6) λ z=>by rw[z]at b6;cases b6),b4,b5,b6⟩⟩
  have e0:Cq P w K mg (zE s₁.heap H) uK [] s₁ H:=⟨rfl,hM,λ b o e=>Nk e,kF (FT _ _),trivial,λ b hb=>absurd (show b∈([]:Á Addr) from hb) (by simp),ļ,.of_eq hg⟩
  refine qt ((F _ hKb (nsK XS)).run uK [] s₁ H ⟨[.ref a],[]⟩ [.ref a] [.ref a] _ _ hr e0 (UX s₁ (.ref a)) (.cons rfl .nil) (S5 H hO hS)) λ r s' h=>?_
  cases r with
  | error e=>exact(Y3 H e s' h).elim
  | ok fl=>
   cases fl with
   | next=>exact ao h
   | brk=>exact ao h
   | cont=>exact ao h
   | ret u=>
    obtain⟨v,H',os,bare,un,U_,r',q⟩:=h
    have q':v=.bl true:=q
    subst q'
    obtain rfl:u=fD true:=r'
    have old:∀ b o,s₁.heap.get? b=À o->s'.heap.get? b=À o∨(b∈ts/\o=dC #[]/\∃ more,s'.heap.get? b=À (dC more)):=λ b o e=>by
     by_cases hb:b∈ts
     ·refine .inr ⟨hb,?_,?_⟩
      ·rw[hT b hb]at e;exact(è e).symm
      ·obtain⟨more,z⟩:=un.wD b _ (hO.1 b hb)
       exact⟨_,U_ b _ z⟩
     ·rcases hO.2 b hb with z|⟨ob,xs,z⟩
      ·exact .inl (un.keep b o e z (by intro z;exact absurd (show b∈([]:Á Addr) from z) (by simp)) (by simp))
      ·have z2:=un.kS b ob _ z
       obtain⟨e1,_⟩:=ļ b _ z
       obtain⟨e2,_⟩:=U_ b _ z2
       rw[e]at e1;cases e1
       exact .inl e2
    refine⟨rfl,⟨λ b o e=>?_,λ b o e=>?_⟩,os,bare⟩
    ·rcases old b o e with z|⟨hb,rfl,more,z⟩
     ·exact .inl z
     ·exact .inr (.inl ⟨UR b hb,rfl,#[],more,rfl,by rw[z];simp⟩)
    ·rcases old b o e with z|⟨_,_,more,z⟩
     ·exact⟨_,z⟩
     ·exact⟨_,z⟩
 have tok:∀ H:Hp,(∀ P∈ts,H P=À (.uW #[]))->∀ b∈ts,∀ u,H b=À u->Ũ P w H s₁.heap b u:=λ H h b hb u e=>by
  rw[h b hb]at e;cases e
  exact hT b hb
 cases hk:K.lookup a with
 | some o=>
  have e:=KX a o hk
  rw[ha]at e
  cases e
  refine core (λ b=>if b∈ts then À (.uW #[]) else none) ⟨λ q hq=>Ñ hq,λ b hb=>.inl (Ö hb)⟩ (.inr ⟨_,vs.toArray,_,hk,rfl,rfl,rfl,by rw[Ú,lenV];exact hl,by simpa using rv⟩) (λ b u z=>?_) (λ b z=>?_) λ z=>absurd (Ö nat) z
  ·by_cases hb:b∈ts
   ·exact tok _ (λ q hq=>Ñ hq) b hb u z
   ·have z':=(Ö hb).symm.trans z
    cases z'
  ·by_cases hb:b∈ts
   ·exact .inr hb
   ·exact absurd (Ö hb) z
 | none=>
  have iA:∀ b,b∉ts->(λ b=>if b∈ts then À (HO.uW #[]) else if b=a then À (HO.oZ { cls:=.type "list",data:=.seq vs.toArray } (.lst (ns.map V.int))) else none) b=if b=a then À (HO.oZ { cls:=.type "list",data:=.seq vs.toArray } (.lst (ns.map V.int))) else none:=λ b hb=>Ö hb
  refine core (λ b=>if b∈ts then À (.uW #[]) else if b=a then À (.oZ { cls:=.type "list",data:=.seq vs.toArray } (.lst (ns.map V.int))) else none) ⟨λ q hq=>Ñ hq,λ b hn=>?_⟩ (.inl (.inr ⟨{ cls:=.type "list",data:=.seq vs.toArray },(iA a nat).trans (Ñ rfl)⟩)) (λ b u z=>?_) (λ b z=>?_) λ _=>hk
  ·by_cases hb:b=a
   ·exact .inr ⟨_,_,(iA b hn).trans (Ñ hb)⟩
   ·exact .inl ((iA b hn).trans (Ö hb))
  ·by_cases hn:b∈ts
   ·exact tok _ (λ q hq=>Ñ hq) b hn u z
   ·by_cases hb:b=a
    ·have z':=((iA b hn).trans (Ñ hb)).symm.trans z
     cases z'
     subst hb
     exact⟨ha,by rw[Õ];exact hl,vs,_,rv,ha⟩
    ·have z':=((iA b hn).trans (Ö hb)).symm.trans z
     cases z'
  ·by_cases hn:b∈ts
   ·exact .inr hn
   ·by_cases hb:b=a
    ·exact .inl hb
    ·exact absurd ((iA b hn).trans (Ö hb)) z
theorem Kt {l:ni}{loose:Á Str}{XP:(Str->Ë Value)->Heap->Prop}{YP:ğ->Heap->Prop}{d:DefRec}{K:Params->É}{CX:ğ->G_}{sp:ğ->Sp}(ts:Á Addr)
  (hn:l.most=À n) (Lu:n<=sizeLine) (U3:d.params.defaults=[]) (hr:cN k uK)
  (hY:∀ (w:ğ) (h:Heap),YP w h->(K w.params).In h) (hT:∀ (w:ğ) (h:Heap),YP w h->∀ q∈ts,h.get? q=À (dC #[]))
  (UR:∀ (w:ğ) (h:Heap),YP w h->∀ q∈ts,isCodeTable h q) (US:∀ (w:ğ) (h:Heap),(K w.params).In h->∀ q∈ts,(K w.params).lookup q=none)
  (F:∀ (w:ğ) (mg:Str->Ë Value) (fa:Addr) (h:Heap),(K w.params).In h->h.Ns mainGlobals mg->mg d.name=À (.ref fa)->
   ∃ fd:cW,(∀ (s:Ò) (u:Value),uG s fd ⟨[u],[]⟩ [(x,u)])/\
    ∀ base:Heap,(K w.params).In base->base.Ns mainGlobals mg->hX l.prog w (K w.params) mg base (CX w) k fa fd [x] (sp w))
  (S5:∀ (w:ğ) (H:Hp) (a:Addr) (ns:Á Int),ns.length<=n->DR ts H->fZ (K w.params) H a (ns.map V.int)->sp w [.ref a] H (λ v _=>v=.bl true) λ _ _ _=>False)
  (Y3:∀ (w:ğ) (H:Hp) (s:Ò) (e:Value) (s':Ò),CX w [] H s (λ _ _ _=>False) e s'->False) :
  OC q loose XP YP l.row.toRowW d [] (λ f vs=>G4 f vs):=by
 refine Att.A0 hn U3 λ w jS s₁ mg mb fa o pm cd doc a vs ns G Y ho hd Er U8 Qd hints hlen hg=>?_
 have KX:=hY w _ Y
 obtain⟨fd,hb,hF⟩:=F w mg fa _ KX G.T.g U8
 exact F0 KX (hT w _ Y) (UR w _ Y) (US w _ KX) G.T.g G.T.b G.T.builtins G.T.nolimit G.T.nodigits G.T.bmain hg Qd hints (ě hlen Lu) hr hF hb (λ H hO hS=>S5 w H a ns hlen hO hS) λ H e s'=>Y3 w H s₁ e s'
end L2
namespace Mm
open PySem L2
def tabAt (i:Nat)(q:Str):AO->Bool
 | .tab j r=>decide (j=i/\r=q)
 | _=>false
theorem GI (h:tabAt i q o=true):o=.tab i q:=by
 cases o with
 | tab j r=>have h:=î h;rw[h.1,h.2]
 | _=>cases h
def vE (i:Nat)(q:Str)(m:Ev):fY:=λ env s=>(m env s).bind λ v s1=>match v with
 | .ref k=>need (ï s1 k) λ l=>if l.isEmpty=true/\s1.any (tabAt i q)=true then .ok [] s1 else .bad
 | _=>.bad
section
variable {T:Tx}{XE:j6}{X:Cx}{pos:mT}
theorem IZ (hm:X.mg "sorted"=none)(yb:X.env.code=.ref c)(hC:ţ T.K c (T.cl i)=true) (h:PE X e (tE T XE m))
  (hK:X.K=T.K:=by rfl) (hq:X.env.qual++"<lambda>"=q:=by rfl) (S1:qr scope X.env=pure []:=by rfl) (Ij:Tn params X.env=([],[]):=by rfl) (hg:Gl X "sorted":=by rfl)
  (hs:Ì [e] X.env=(false,Ć e X.env) :: Ì [] X.env:=by rfl) (XO:Ĕ pos (Ì [e] X.env)=(false,Ć e X.env) :: Ĕ pos (Ì [] X.env):=by rfl) (fi:(Ĕ pos (Ì [e] X.env)).any (·.1)=false:=by rfl) :
  PE X (.Call (.Name "sorted" p) [e] [⟨À (å "key"),.Lambda params body scope lp,kp⟩] pos) (tL T XE (vE i q m)):=
 PE.imp (JL (P:=T.cl i) (q:=q) h hm yb (by rw[hK];exact hC) hq S1 Ij hg hs XO fi) λ σ H Q zz=>ŀ zz λ ρ env s hs he ho=>step hs he ho λ v s1 Ě H1 x _ u1 İ aM Ĝ Ā=>by
  cases v with
  | ref k=>
   obtain⟨l,e1,ck⟩:=Ā.ó
   obtain⟨⟨hl,ht⟩,lg⟩:=ck.ō
   obtain⟨a,vs,rfl,ea,h1,kk⟩:=İ.fj (ć e1) Ĝ
   have hl:l=[]:=by simpa using hl
   subst hl
   cases kk.nil_inv
   obtain⟨o,ho,hot⟩:=iQ.mp ht
   cases GI hot
   obtain⟨j,hj,ej⟩:=ĩ ho
   obtain⟨P,e2,rfl,ps,h2,h3⟩:=İ.obj j _ (by rw[Å hj,ej])
   refine⟨a,rfl,h1,⟨ps,h2,h3⟩,λ H2 d k2 hd=>?_⟩
   have nP:∀ b o,H1 b=À o->o≠.uW ps->b≠T.cl i:=λ b o e n z=>by subst z;rw[h2]at e;exact n (è e).symm
   have mP:T.cl i∈Ě:=é e2
   have up:Up Ě H1 Ě H2:=⟨⟨aR,λ b xs e=>k2.keep b _ e (nP b _ e (λ z=>nomatch z)),λ b o u e=>k2.keep b _ e (nP b _ e (λ z=>nomatch z))⟩,λ b o e n=>⟨k2.keep b o e λ z=>n (z ▸ mP),n⟩,k2.live⟩
   have fm:SR T Ě s1 H2:=⟨İ.nd,İ.len,λ i' o' e'=>by
    obtain⟨b,e3,q3⟩:=İ.obj i' o' e'
    by_cases hb:b=T.cl i
    ·subst hb
     have om:i'=j:=by
      have l1:=(Æ.mp e3).1
      have l2:=(Æ.mp e2).1
      rw[Å l1]at e3
      rw[Å l2]at e2
      have e4:=(è e3).trans (è e2).symm
      have pw:=lT.mp İ.nd
      rcases Nat.lt_trichotomy i' j with z|z|z
      ·exact(pw _ _ l1 l2 z e4).elim
      ·exact z
      ·exact(pw _ _ l2 l1 z e4.symm).elim
     subst om
     rw[Å hj,ej]at e'
     cases e'
     exact⟨_,e3,rfl,k2.tab⟩
    ·obtain⟨u,eu⟩:=q3.ex
     exact⟨b,e3,q3.up up.toGr ((k2.keep b u eu hb).trans eu.symm)⟩⟩
   exact(Out.up up lg).lst fm hd .nil
  | _=>exact Ā.elim
end
end Mm
namespace Ro
open PySem L2 Mm
structure Ts (T:Tx)(mg:Str->Ë Value)(x:Str)(st:Stmt)(i:Nat):Prop where
 ex:∃ f fd c,Ha T.K x x st f fd/\mg x=À (.ref f)/\fd.code=.ref c/\ţ T.K c (T.cl i)=true
section
variable {P:Ą}{w:ğ}{T:Tx}{mg:Str->Ë Value}{base:Heap}
theorem PY (N:Á Str)(D:Ts T mg x st i)(S:i4 N (N.take n) (Ċ st))
  (hb:∀ (kV doc pm:Value) (an:Ë Addr) (dH ct:Value) (us:Á Value),us.length=(N.take n).length->uh (ľ x x (cA st) (aB st) (Ċ st) .none kV doc pm an dH ct) ⟨us,[]⟩=pure ((N.take n).zip us)) (hn:(N.take n).length=n)
  (h:∀ (f:Addr) (c:Addr) (A:į) (outer:Á AF) (s:Ò) (H:Hp) (E:XK),ţ T.K c (T.cl i)=true->cN k (A.deeper (az x (Ċ st) s.heap.objs.size f (.ref c)))->N.Nodup->Ls T (m5 (sk P w) P w T.K mg base N x (Ċ st) f (.ref c) A outer s H E) (oO T E)->nu (m5 (sk P w) P w T.K mg base N x (Ċ st) f (.ref c) A outer s H E) (aB st) (tS T (oO T E) body)) :
  gX P w T mg base x n (k+1) (fe N.length body):=by
 obtain⟨f,fd,c,F,m,ec,hC⟩:=D.ex
 have key:hX P w T.K mg base (sk P w) (k+1) f fd (N.take n) (Cf T (N.take n).length (fe N.length body)):=by
  obtain⟨oc,od,kV,doc,pm,an,dH,ct,xB,rfl,lk,Er⟩:=F.ex
  have ec:dH=.ref c:=ec
  subst ec
  refine OP lk Er S (λ vs H Q E h=>h.1) λ A outer s H vs Q E hr zz=>?_
  obtain⟨hl,ρ,uF,args,sr,va,ho⟩:=zz
  refine⟨_,h f c A outer s H E hC hr S.nd By,ρ,_,uF,sr,Bf N va,?_⟩
  unfold fe at ho
  cases e:body (args.map À++à (N.length - args.length) none) uF with
  | nx e1 s1=>simp only[e]at ho;exact λ bf H2 B0 u sr er=>ho bf H2 .Ē u sr (sZ (T:=T) (ρ:=bf) (H:=H2))
  | rt v s1=>simp only[e]at ho;exact ho
  | ex c s1=>simp only[e]at ho;exact ho
  | bk v s1=>simp only[e]at ho;exact ho.elim
  | ct v s1=>simp only[e]at ho;exact ho.elim
  | bad=>simp only[e]at ho;exact ho.elim
 rw[hn]at key
 exact⟨f,fd,_,key,F.binds hb,m,F.kp⟩
def spT (K:É)(ts:Á Addr)(tq:Á (Nat × Str)) (fl:Á AV->S->R AV):Sp:=λ vs H Q E=>vs.length=1/\∀ cl,(tq.map λ p=>cl p.1)=ts->Cf ⟨K,cl⟩ 1 fl vs H Q E
def tabS (tq:Á (Nat × Str)):S:=tq.map λ p=>.tab p.1 p.2
theorem N_ {ts:Á Addr}{ns:Á Int}(nd:ts.Nodup)(hl:(fl [.sq (ns.map AV.int)] (tabS tq)).wp λ v _=>v=.bl true) (hO:DR ts H)(hS:fZ K H a (ns.map V.int)):spT K ts tq fl [.ref a] H (λ v _=>v=.bl true) E:=by
 have hF:OH K H a (ns.map V.int):=by
  rcases hS with h|h
  ·rcases h with h|h
   ·by_cases ht:a∈ts
    ·rw[hO.1 a ht]at h;cases h
    ·rcases hO.2 a ht with z|⟨o,xs,z⟩
     ·rw[z]at h;cases h
     ·rw[z]at h;cases h
   ·exact .inl h
  ·exact .inr h
 refine⟨rfl,λ cl ec=>⟨rfl,ts,tabS tq,[.sq (ns.map AV.int)],⟨nd,by rw[<-ec];simp[tabS],λ i o e=>?_⟩,?_,?_⟩⟩
 ·unfold tabS at e
  rw[ì]at e
  cases q:tq[i]? with
  | none=>rw[q]at e;cases e
  | some p=>
   rw[q]at e
   cases e
   have e2:ts[i]? = À (cl p.1):=by rw[<-ec,ì,q];rfl
   exact⟨_,e2,rfl,#[],hO.1 _ (é e2),trivial,λ pos cv z=>by cases z⟩
 ·unfold Ħ
  refine⟨_,_,rfl,?_,by unfold Ħ;rfl⟩
  unfold VR
  exact⟨a,_,rfl,hF,Ħ.map (λ i=>dY) ns⟩
 ·obtain⟨v,s',e,rfl⟩:=hl.get
  rw[e]
  intro Ň H' x _ _ hx
  have hx:VR ⟨K,cl⟩ Ň H' (.bl true) x:=hx
  unfold VR at hx
  exact hx
theorem Mh {l:ni}{K:É}{tq:Á (Nat × Str)}(Zc:mg "law"=À (.ref fa)) (ec:(tq.map λ p=>cl p.1)=ts) (D:Df ⟨K,cl⟩ mg "law" st)
  (hb:∀ (s:Ò) (v kV doc pm:Value) (an:Ë Addr) (dH ct:Value),uG s (ľ "law" "law" (cA st) (aB st) (Ċ st) .none kV doc pm an dH ct) ⟨[v],[]⟩ [("_law_script",v)])
  (F:∀ (base:Heap) (f:Addr) (fd:cW),Ha K "law" "law" st f fd->hX l.prog w K mg base (sk l.prog w) k f fd ["_law_script"] (Cf ⟨K,cl⟩ 1 fl)) :
  ∃ fd:cW,(∀ (s:Ò) (v:Value),uG s fd ⟨[v],[]⟩ [("_law_script",v)])/\∀ base:Heap,K.In base->base.Ns mainGlobals mg->hX l.prog w K mg base (sk l.prog w) k fa fd ["_law_script"] (spT K ts tq fl):=by
 obtain⟨f,fd,G,m⟩:=D.ex
 cases m.symm.trans Zc
 refine⟨fd,?_,λ base _ _=>(F base _ _ G).imp λ vs H Q E h=>h.2 cl ec⟩
 obtain⟨oc,od,kV,doc,pm,an,dH,ct,xB,rfl,lk,Er⟩:=G.ex
 exact λ s v=>hb s v kV doc pm an dH ct
end
theorem W5 {l:ni}{loose:Á Str}{XP:(Str->Ë Value)->Heap->Prop}{YP:ğ->Heap->Prop}{d:DefRec}{K:Params->É}(ts:Á Addr)(tq:Á (Nat × Str)) (fl:Á AV->S->R AV)(k:Nat)(nd:ts.Nodup)(hk:cN k uK)(hl:∀ ns:Á Int,(fl [.sq (ns.map AV.int)] (tabS tq)).wp λ v _=>v=.bl true) (hn:l.most=À 63)(U3:d.params.defaults=[])
  (hY:∀ (w:ğ) (h:Heap),YP w h->(K w.params).In h) (hT:∀ (w:ğ) (h:Heap),YP w h->∀ q∈ts,h.get? q=À (dC #[]))
  (UR:∀ (w:ğ) (h:Heap),(K w.params).In h->∀ q∈ts,∃ c,ţ (K w.params) c q=true) (US:∀ (w:ğ) (h:Heap),(K w.params).In h->∀ q∈ts,(K w.params).lookup q=none)
  (F:∀ (w:ğ) (mg:Str->Ë Value) (fa:Addr) (h:Heap),(K w.params).In h->h.Ns mainGlobals mg->mg d.name=À (.ref fa)->
   ∃ fd:cW,(∀ (s:Ò) (u:Value),uG s fd ⟨[u],[]⟩ [("_law_script",u)])/\∀ base:Heap,(K w.params).In base->base.Ns mainGlobals mg->hX l.prog w (K w.params) mg base (sk l.prog w) k fa fd ["_law_script"] (spT (K w.params) ts tq fl)) :
  OC q loose XP YP l.row.toRowW d [] (λ f vs=>G4 f vs):=
 L2.Kt ts (n:=63) (x:="_law_script") (CX:=λ w=>sk l.prog w) (sp:=λ w=>spT (K w.params) ts tq fl) hn (by decide) U3 hk hY hT (λ w h Y q hq=>by
  obtain⟨c,e⟩:=UR w h (hY w h Y) q hq
  exact((DN (hY w h Y) e).tab (hT w h Y q hq)).isCodeTable) US F (λ w H a ns _ hO hS=>N_ nd (hl ns) hO hS) λ _ _ _ _ _ ⟨_,_,_,_,_,_,_,_,_,_,z⟩=>z
end Ro
namespace Mm
open PySem L2
section
variable {T:Tx}{XE:j6}{X:Cx}{pos:mT}
theorem set_dict (hu:X.A.units+1 < cLine):Pr X (λ o i v H Q=>∃ a H',o=.ref a/\xj H a i v H'/\Q H'):=by
 rintro Ä s σ H o i v ov iv u Q I ro ri rv ⟨a,H',rfl,g,q⟩
 obtain rfl:ov=Î a:=ro
 exact xT hu I g ri rv λ s4 I4=>⟨H',I4,q⟩
def vH (o i:Ev):Mt:=λ v env s=>(o env s).cu λ a s1=>(i env s1).cu λ b s2=>putD v a b env s2
theorem M5 (hu:X.A.units+1 < cLine)(ho:PE X o (tE T XE m)) (hi:PE X i (tE T XE n))
  (ha:∀ v,lu (.Subscript o i pos) X.env v=(do
   let ov <-cR [v] (Ć o X.env)
   let iv <-cR [v,ov] (Ć i X.env)
   kh pos
   cR [v,ov,iv] (LL ov iv v)
   release [v,ov,iv] []):=by intro _;rfl):PG X (.Subscript o i pos) (tT T XE (vH m n)):=
 PG.imp (JM ho hi (set_dict hu) ha) λ x σ H Q ⟨ρ,env,s,v,hs,he,vr,ho⟩=>by
  refine dP hs he ho λ a s1 Ě H1 y _ u1 İ aM Ĝ Ā=>dP İ aM Ā λ b s2 bf H2 z _ u2 fm oh iN ck=>?_
  have Ĝ:VR T bf H2 a y:=VR.up u2 Ĝ
  have iN:VR T bf H2 b z:=iN
  have vr:VR T bf H2 v x:=VR.up (u1.trans u2) vr
  unfold putD at ck
  split at ck
  ·split at ck
   ·rename_i i kvs k e1 e2
    obtain⟨hl,lg⟩:=ck.ō
    obtain⟨a,ks,rfl,ea,h1,q1,q2⟩:=fm.zm (i6 e1) Ĝ
    have Io:kvs.length=ks.length:=by have:=ĵ bS q1;simpa using this
    refine⟨a,_,rfl,by rw[g8 e2 iN];exact xj.k h1 (by rw[<-Io];exact hl),?_⟩
    obtain⟨p1,p2⟩:=uT k vr q1 q2
    have up:Up bf H2 bf (upd H2 a (.dK (putK ks k x))):=fm.wH ea h1 (λ _ z=>nomatch z) (λ _ _ z=>nomatch z)
    exact lg bf _ σ up (fm.set ea up ⟨_,û,p1,p2.up up⟩) (oh.up up)
   ·exact ck.elim
  ·exact ck.elim
theorem Nn:nt (vH o i):=λ v env s=>by
 unfold vH
 cases o env s with
 | bad=>exact .inr (.inr rfl)
 | ex c s1=>exact .inr (.inl ⟨_,_,rfl⟩)
 | ok a s1=>
  simp only[fK]
  cases i env s1 with
  | bad=>exact .inr (.inr rfl)
  | ex c s1=>exact .inr (.inl ⟨_,_,rfl⟩)
  | ok b s2=>
   simp only[fK]
   unfold putD
   split
   ·split
    ·split
     ·exact .inl ⟨_,_,rfl⟩
     ·exact .inr (.inr rfl)
    ·exact .inr (.inr rfl)
   ·exact .inr (.inr rfl)
def yv (v w:AV)(s:S):R AV:=match v,w with
 | .tup _,.str _=>.ok (.bl true) s
 | .ref i,.str _=>need (ï s i) λ _=>.ok (.bl true) s
 | v,w=>oV v w s
theorem V3 (hK:X.K=T.K)(hu:X.A.units+30 < cLine):kI X (Į .NotEq) (yz T XE yv):=by
 rintro Ä s σ H x y v u Q I rx ry ⟨ρ,a,b,st,sr,va,vb,ho⟩
 have Lw:X.A.units < cLine:=by lia
 unfold yv at ho
 split at ho
 ·obtain⟨p,vs,rfl,h1,k⟩:=va.bV
  cases vb.str_inv
  obtain⟨t,rfl⟩:=ry
  cases rx
  obtain⟨its,_,p1,_⟩:=I.tuple (hK ▸ h1)
  exact abc _ _ p1 Lw X.prog X.w _ _ ⟨.bl true,H,I,rfl,ho.ķ sr dt⟩
 ·obtain⟨xs,e,ho⟩:=ho.ó
  obtain⟨p,vs,rfl,_,h1,k⟩:=sr.fj (ć e) va
  cases vb.str_inv
  obtain⟨t,rfl⟩:=ry
  cases rx
  obtain⟨its,_,p1,_⟩:=I.list (fZ.of h1)
  exact aa9 _ _ p1.isList Lw X.prog X.w _ _ ⟨.bl true,H,I,rfl,ho.ķ sr dt⟩
 ·exact ZZ (T:=T) (XE:=XE) hK hu Ä s σ H x y v u Q I rx ry ⟨ρ,a,b,st,sr,va,vb,ho⟩
theorem DD:eB (.Dict k v p) (À (.Name x q)) n env=pure false:=rfl
theorem Nf (hN:X.N.Nodup)(he:PE X (.Dict k v p) (tE T XE (gp l))) (hi:X.N[i]? = À x)(hx:Loc X.env.scope x)(hf:X.fn x=true∨X.env.scope.names.lookup x=À .local) :
  PS X (.Assign [.Name x pos'] (.Dict k v p) pos) (tS T XE (bL i (gp l))):=Jf hN he hi hx DD hf
end
end Mm
namespace Ro
open PySem L2 Mm
def aX (l t:Á Addr)(i:Nat):Addr:=if i < 20 then l.getD i 0 else t.getD (i - 20) 0
theorem VS {K:É}{C:Addr}{nm:Str}{bm:Á Value}{rS:Ë Value}(x:jm K C nm bm rS)(ga:ö K (.ref C) "__getattribute__"=À (À (.builtin "BaseException.__getattribute__"))) (gx:ö K (.ref C) "__getattr__"=À none) (ca:ö K (.ref C) "__class__"=À (À (.builtin "object.__class__")))
  (cn:gb K (.builtin "object.__class__") "__get__"=À (À (.builtin "getset_descriptor.__get__"))) (ct:iZ K (.builtin "object.__class__")=À true):LQ K C:=by
 have has:∀ {l:Á Value},qv K l->l.contains (.type "BaseException")=true/\l.contains (.type "object")=true:=by
  intro l t
  induction t with
  | base=>exact⟨by decide +kernel,by decide +kernel⟩
  | own _ _ _ _ ih=>rw[Ł,Ł,ih.1,ih.2];exact⟨eK _,eK _⟩
 refine { ga:=ga,gx:=gx,sb:=?_,ca:=ca,cn:=cn,ct:=ct,cm:=?_,cl:=x.O2 }
 ·rw[x.mro,Ł,(has x.tail).1,eK]
 ·show yP K (.ref C) (.type "object")=À true
  rw[x.mro,Ł,(has x.tail).2,eK]
structure zc (K:É)(mg:Str->Ë Value)(C:Addr)(nm:Str)(bm:Á Value)(rS:Ë Value):Prop where
 tl:qv K bm->jm K C nm bm rS/\(rS=none->qv K (.ref C :: bm))
 is:jm K C nm bm rS->LQ K C
 kp:Ġ K (.ref C)=true
 gl:mg nm=À (.ref C)
theorem rG {K:É}{h:Heap}{mg:Str->Ë Value}{C N:Addr}{nm q:Str}{bm bs sub:Á Value}{sn:Á Str}{ab:Bool}{col:Ë Bool}{dd nd:Ë Addr}{ka kb kc kd ke rS:Ë Value}{nc:Value}{es:Ğ AD}{ep:Nat}{X4:Ğ (Ë Value)}(X:K.In h)(G:h.Ns mainGlobals mg)
  (a:ď K mainGlobals nm=À (À (.ref C))) (l:K.lookup C=À (excClassObj nm q C N bs bm true sn sub ab col dd ka kb kc kd ke "ValueError.__new__")) (n:K.lookup N=À ⟨nc,nd,.dict es ep,X4⟩) (s:Kk es=true) (k:Ġ K (.ref C)=true)
  (ga:ö K (.ref C) "__getattribute__"=À (À (.builtin "BaseException.__getattribute__"))) (gx:ö K (.ref C) "__getattr__"=À none) (ca:ö K (.ref C) "__class__"=À (À (.builtin "object.__class__")))
  (cn:gb K (.builtin "object.__class__") "__get__"=À (À (.builtin "getset_descriptor.__get__"))) (ct:iZ K (.builtin "object.__class__")=À true) (i:nsFind es "__init__"=rS):zc K mg C nm bm rS:=
 ⟨λ t=>⟨⟨⟨_,_,_,_,_,_,_,_,_,_,_,_,_,_,l,⟨_,_,_,_,_,n,s,λ _=>rfl⟩,i⟩,t⟩,λ e=>.own l ⟨_,_,_,_,_,n,s,λ _=>rfl⟩ (i.trans e) t⟩,λ x=>VS x ga gx ca cn ct,k,hJ X G a⟩
theorem W8 {K:É}{mg:Str->Ë Value}{c0 c1 c2 c3 c4 c5 c6 c7 c8:Addr}{r t:Á Addr}{i7 i8:Ë Value}(x0:zc K mg c0 "RoyalError" uM none)(x1:zc K mg c1 "BadFraction" (.ref c0 :: uM) none) (x2:zc K mg c2 "Taken" (.ref c0 :: uM) none) (x3:zc K mg c3 "NoName" (.ref c0 :: uM) none) (x4:zc K mg c4 "TooMuch" (.ref c0 :: uM) none) (x5:zc K mg c5 "NoRate" (.ref c0 :: uM) none) (x6:zc K mg c6 "NoneLeft" (.ref c0 :: uM) none) (x7:zc K mg c7 "Endless" (.ref c0 :: uM) i7) (x8:zc K mg c8 "BadRow" (.ref c0 :: uM) i8) :
  Xs ⟨K,aX (c0 :: c1 :: c2 :: c3 :: c4 :: c5 :: c6 :: c7 :: c8 :: r) t⟩ mg:=by
 obtain⟨y0,t0'⟩:=x0.tl .base
 have t0:=t0' rfl
 have y1:=(x1.tl t0).1
 have y2:=(x2.tl t0).1
 have y3:=(x3.tl t0).1
 have y4:=(x4.tl t0).1
 have y5:=(x5.tl t0).1
 have y6:=(x6.tl t0).1
 have y7:=(x7.tl t0).1
 have y8:=(x8.tl t0).1
 have LV:∀ {p:Nat->Prop},p 0->p 1->p 2->p 3->p 4->p 5->p 6->p 7->p 8->∀ i,i < 9->p i:=λ {p} h0 h1 h2 h3 h4 h5 h6 h7 h8 i hi=>by
  match i,hi with
  | 0,_=>exact h0
  | 1,_=>exact h1
  | 2,_=>exact h2
  | 3,_=>exact h3
  | 4,_=>exact h4
  | 5,_=>exact h5
  | 6,_=>exact h6
  | 7,_=>exact h7
  | 8,_=>exact h8
  | n+9,h=>exact absurd h (by omega)
 refine⟨LV ⟨_,y0,λ _=>rfl⟩ ⟨_,y1,λ _=>rfl⟩ ⟨_,y2,λ _=>rfl⟩ ⟨_,y3,λ _=>rfl⟩ ⟨_,y4,λ _=>rfl⟩ ⟨_,y5,λ _=>rfl⟩ ⟨_,y6,λ _=>rfl⟩ ⟨_,y7,λ h=>absurd h (by omega)⟩ ⟨_,y8,λ h=>absurd h (by omega)⟩,
  LV (x0.is y0) (x1.is y1) (x2.is y2) (x3.is y3) (x4.is y4) (x5.is y5) (x6.is y6) (x7.is y7) (x8.is y8),LV x0.kp x1.kp x2.kp x3.kp x4.kp x5.kp x6.kp x7.kp x8.kp,LV x0.gl x1.gl x2.gl x3.gl x4.gl x5.gl x6.gl x7.gl x8.gl⟩
structure Xr (K:É)(C:Addr)(fs:Á Str):Prop where
 c:AY K C
 na:∀ f∈fs,kH K C f
theorem TL {K:É}{C:Addr}{fs:Á Str}{nm:Str}(a:ď K mainGlobals nm=À (À (.ref C))) (pg:gW K C gf=true)(hd:k_ K C=true)(po:si K C=true)(sa:ö K (.ref C) "__setattr__"=À (À (.builtin "object.__setattr__"))) (na:∀ f∈fs,ö K (.ref C) f=À none):Xr K C fs:=⟨⟨pg,hd,po,sa⟩,na⟩
theorem Xr.bk {T:Tx}{C:Addr}{c:Nat}{fs:Á Str}(h:Xr T.K C fs)(e:T.cl c=C):Bk T c fs:=⟨by rw[e];exact h.c,λ f hf=>by rw[e];exact h.na f hf⟩
theorem cO {K:É}{cl:Nat->Addr}{c:Nat}{C:Addr}{m qual:Str}{st:Stmt}{f:Addr}{oc:Value}{od an:Ë Addr}{xB:Ğ (Ë Value)}{kV doc pm dH ct:Value}(e:cl c=C)(a:ö K (.ref C) m=À (À (.ref f)))
  (l:K.lookup f=À ⟨oc,od,.func (ľ m qual (cA st) (aB st) (Ċ st) .none kV doc pm an dH ct),xB⟩) (cd:dB K dH qual=true) (k:Ġ K (.ref f)=true) (fn:mW K (.ref f)=true):gh ⟨K,cl⟩ c m qual st:=
 ⟨f,_,zB l cd k,by show Meth K (cl c) m f;rw[e];exact⟨a,fn,k⟩⟩
theorem PQ {K:É}{cl:Nat->Addr}{h:Heap}{mg:Str->Ë Value}{c:Nat}{C:Addr}{nm qual:Str}{st:Stmt}{f:Addr}{oc:Value}{od an:Ë Addr}{xB:Ğ (Ë Value)}{kV doc pm dH ct:Value}(X:K.In h)(G:h.Ns mainGlobals mg)(e:cl c=C)(g:ď K mainGlobals nm=À (À (.ref C))) (a:ö K (.ref C) "__init__"=À (À (.ref f)))
  (l:K.lookup f=À ⟨oc,od,.func (ľ "__init__" qual (cA st) (aB st) (Ċ st) .none kV doc pm an dH ct),xB⟩) (cd:dB K dH qual=true) (k:Ġ K (.ref f)=true) (fn:mW K (.ref f)=true) (mk:vd K C=true) (kc:Ġ K (.ref C)=true):Tr ⟨K,cl⟩ mg c nm qual st:=
 ⟨f,_,zB l cd k,by show Mk K (cl c) f;rw[e];exact⟨mk,a,fn,kc⟩,by show mg nm=À (.ref (cl c));rw[e];exact hJ X G g⟩
theorem PR {K:É}{cl:Nat->Addr}{h:Heap}{mg:Str->Ë Value}{x:Str}{st:Stmt}{i:Nat}{f cc P:Addr}{oc:Value}{od an:Ë Addr}{xB:Ğ (Ë Value)}{kV doc pm ct:Value}(X:K.In h)(G:h.Ns mainGlobals mg)(e:cl i=P)(a:ď K mainGlobals x=À (À (.ref f)))
  (l:K.lookup f=À ⟨oc,od,.func (ľ x x (cA st) (aB st) (Ċ st) .none kV doc pm an (.ref cc) ct),xB⟩) (c:dB K (.ref cc) x=true) (k:Ġ K (.ref f)=true) (hc:ţ K cc P=true):Ts ⟨K,cl⟩ mg x st i:=
 ⟨f,_,cc,zB l c k,hJ X G a,rfl,by show ţ K cc (cl i)=true;rw[e];exact hc⟩
theorem W0 {K:É}{x:Str}{st:Stmt}{f cc P:Addr}{oc:Value}{od an:Ë Addr}{xB:Ğ (Ë Value)}{kV doc pm ct:Value}(a:ď K mainGlobals x=À (À (.ref f)))
  (l:K.lookup f=À ⟨oc,od,.func (ľ x x (cA st) (aB st) (Ċ st) .none kV doc pm an (.ref cc) ct),xB⟩) (hc:ţ K cc P=true):∃ c,ţ K c P=true:=⟨cc,hc⟩
theorem Q_ {p:Str->Prop}:∀ f∈([]:Á Str),p f:=λ _ h=>nomatch h
end Ro
namespace Mm
open PySem L2
def rN (T:Tx):Rl (Á AV) V:=⟨λ _ ρ H v x=>∃ p xs,x=.ref p/\H p=À (.tup xs)/\Ħ T ρ H v xs,λ _ h=>h⟩
abbrev tN (T:Tx)(XE:j6)(m:fY):TE:=tG T XE (rN T) m
def vR:Á AV->Ë (Á Key)
 | []=>À []
 | v :: r=>(fR v).bind λ k=>(vR r).map (k :: ·)
def Lk (s:S)(i:Nat):Ë (Á (Á Key × AV)):=match s[i]? with
 | some (.dT xs)=>À xs
 | _=>none
theorem zo {s:S}{i:Nat}{xs:Á (Á Key × AV)}(h:Lk s i=À xs):s[i]? = À (.dT xs):=by
 unfold Lk at h
 split at h
 ·cases h;assumption
 ·cases h
theorem PF {s:S}{i:Nat}{xs:Á (Á Key × AV)}(h:s[i]? = À (.dT xs)):Lk s i=À xs:=by unfold Lk;rw[h]
section
variable {T:Tx}{XE:j6}{X:Cx}{pos:mT}
theorem sF {ρ:Á Addr}{H:Hp}:∀ {vs:Á AV}{ks:Á Key}{xs:Á V},vR vs=À ks->Ħ T ρ H vs xs->xs=ks.map kV
 | [],ks,xs,h,k=>by
  cases h
  unfold Ħ at k
  exact k
 | v :: r,ks,xs,h,k=>by
  obtain⟨x,ys,rfl,k1,k2⟩:=k.cons_inv
  unfold vR at h
  cases e1:fR v with
  | none=>rw[e1]at h;cases h
  | some q=>
   rw[e1]at h
   cases e2:vR r with
   | none=>rw[e2]at h;cases h
   | some t=>
    rw[e2]at h
    cases h
    rw[g8 e1 k1,sF e2 k2];rfl
theorem SR.PD {ρ:Á Addr}{H:Hp}{s:S}(sr:SR T ρ s H){i:Nat}{xs:Á (Á Key × AV)}(e:s[i]? = À (.dT xs)) {x:V}(h:VR T ρ H (.ref i) x):∃ (a:Addr) (vs:Á (Á Key × V)),x=.ref a/\ρ[i]? = À a/\H a=À (.dT vs)/\xs.map (·.1)=vs.map (·.1)/\Ħ T ρ H (xs.map (·.2)) (vs.map (·.2)):=by
 obtain⟨a,e1,vs,h1,h2⟩:=sr.obj i _ e
 obtain⟨b,e2,rfl⟩:=h.fS
 rw[e1]at e2
 cases e2
 exact⟨a,vs,rfl,e1,h1,h2⟩
def Gf (r:fY):fY:=λ env s=>(r env s).bind λ vs s1=>if vs.length<=sizeLine then .ok vs s1 else .bad
theorem Jb {es:Á ń}{k:Nat}{r:fY}(h:PA X es (tP T XE r)):PE X (.Tuple es k pos) (tN T XE (Gf r)):=
 PE.imp (Dk h) λ σ H Q ⟨ρ,env,s,hs,he,ho⟩=>step hs he ho λ v s1 Ě H1 x _ u1 İ aM Ĝ Ā=>by
  obtain⟨hl,Ā⟩:=Ā.ō
  have Ĝ:Ħ T Ě H1 v x:=Ĝ
  exact⟨by rw[<-Ĝ.length];exact hl,λ p hp=>Ā _ _ _ (İ.dQ hp) (İ.new hp) ⟨p,x,rfl,û,Ħ.up (İ.dQ hp) Ĝ⟩⟩
def ym (r:fY)(n:Ev):Ev:=λ env s=>(Gf r env s).bind λ vs s1=>(n env s1).bind λ d s2=>match d with
 | .ref i=>need (Lk s2 i) λ kvs=>need (vR vs) λ k=>.ok (.bl (Ů kvs k).isSome) s2
 | _=>.bad
theorem Ma {r:fY}{n:Ev}{σ:St}{H:Hp}{Q:VK}(h:tE T XE (ym r n) σ H Q) :
  tN T XE (Gf r) σ H λ y H1=>tE T XE n σ H1 λ x H2=>∃ a o,x=.ref a/\j9 H2 a y o/\Q (.bl o.isSome) H2:=by
 obtain⟨ρ,env,s,hs,he,ho⟩:=h
 refine step hs he ho λ vs s1 Ě H1 y _ u1 İ aM Ĝ Ā=>step İ aM Ā λ w s2 bf H2 x _ u2 fm oh iN ck=>?_
 have iN:VR T bf H2 w x:=iN
 obtain⟨p,xs,rfl,hp,vx⟩:=(show ∃ p xs,y=.ref p/\H1 p=À (.tup xs)/\Ħ T Ě H1 vs xs from Ĝ)
 cases w with
 | ref i=>
  obtain⟨kvs,e1,ck⟩:=ck.ó
  obtain⟨k,e2,ck⟩:=ck.ó
  obtain⟨a,ks,rfl,ea,h1,q1,q2⟩:=fm.PD (zo e1) iN
  have hk:H2 p=À (.tup (k.map kV)):=by rw[<-sF e2 vx];exact u2.mJ p xs hp
  refine⟨a,gP ks k,rfl,j9.t h1 hk,?_⟩
  have:(gP ks k).isSome=(Ů kvs k).isSome:=by
   cases ev:Ů kvs k with
   | none=>rw[(cV k q1 q2).2 ev];rfl
   | some z=>obtain⟨x',ex,_⟩:=(cV k q1 q2).1 z ev;rw[ex];rfl
  rw[this]
  exact ck.ķ fm dt
 | _=>exact ck.elim
theorem NT {es:Á ń}{kk:Nat}{tp:mT}{o:ń}{r:fY}{n:Ev}(hu:X.A.units+1 < cLine)(hi:PA X es (tP T XE r)) (ho:PE X o (tE T XE n)) (h1:ae .In o=false:=by rfl):PT X (.Compare (.Tuple es kk tp) [.In] [o] pos) (lj T XE (cB (ym r n))):=
 PT.imp (Dn (Di hu (Jb hi) ho) h1) λ σ H Q h=>Ma (E6 h)
def wj (d:Ev)(r:fY)(v:Ev):Ms:=λ env s=>(v env s).cu λ a s1=>(d env s1).cu λ b s2=>(Gf r env s2).cu λ c s3=>match b with
 | .ref i=>match Lk s3 i,vR c with
  | some kvs,À k=>if kvs.length < sizeLine then .nx env (s3.set i (.dT (mF kvs k a))) else .bad
  | _,_=>.bad
 | _=>.bad
theorem Jd {o value:ń}{es:Á ń}{kk:Nat}{tp pos':mT}{m r:Ev}{n:fY}(hu:X.A.units+1 < cLine)(ho:PE X o (tE T XE m)) (hi:PA X es (tP T XE n)) (hv:PE X value (tE T XE r)) (hs:eB value (À (.Subscript o (.Tuple es kk tp) pos')) pos.line X.env=pure false:=by rfl) :
  PS X (.Assign [.Subscript o (.Tuple es kk tp) pos'] value pos) (tS T XE (wj m n r)):=
 PS.imp (EY hu ho (Jb hi) hv hs) λ D σ H ⟨ρ,env,s,hs,he,ho⟩=>dP hs he ho λ v s1 Ě H1 x _ u1 İ aM Ĝ Ā=>dP İ aM Ā λ d s2 bf H2 y _ u2 fm oh iN ck=>dP fm oh ck λ c s3 oz H3 z _ u3 qi zv W4 lg=>by
  have iN:VR T oz H3 d y:=VR.up u3 iN
  have Ĝ:VR T oz H3 v x:=VR.up (u2.trans u3) Ĝ
  obtain⟨p,xs,rfl,hp,vx⟩:=(show ∃ p xs,z=.ref p/\H3 p=À (.tup xs)/\Ħ T oz H3 c xs from W4)
  split at lg
  ·split at lg
   ·rename_i i _ _ kvs k e1 e2
    obtain⟨hl,lg⟩:=lg.ō
    obtain⟨a,ks,rfl,ea,h1,q1,q2⟩:=qi.PD (zo e1) iN
    have Io:kvs.length=ks.length:=by have:=ĵ bS q1;simpa using this
    have hk:H3 p=À (.tup (k.map kV)):=by rw[<-sF e2 vx];exact hp
    refine⟨a,_,rfl,xj.t h1 hk (by rw[<-Io];exact hl),?_⟩
    obtain⟨p1,p2⟩:=uT k Ĝ q1 q2
    have up:Up oz H3 oz (upd H3 a (.dT (putK ks k x))):=qi.wH ea h1 (λ _ z=>nomatch z) (λ _ _ z=>nomatch z)
    exact lg oz _ σ up (qi.set ea up ⟨_,û,p1,p2.up up⟩) (zv.up up)
   ·exact lg.elim
  ·exact lg.elim
def IK:Ev:=λ _ s=>.ok (.ref s.length) (s++[.dT []])
theorem QF:PE X (.Dict [] [] pos) (tE T XE IK):=
 PE.imp JG λ σ H Q ⟨ρ,env,s,hs,he,ho⟩ p hp=>ho.alloc hs hp ⟨[],û,rfl,.nil⟩
end
end Mm
namespace L2
open PySem PySem.Spec PyProof.Rows
def NX:V->Á V->Hp->VK->Prop:=λ x vs H Q=>∃ d kvs,x=.ref d/\vs=[]/\H d=À (.dT kvs)/\∀ v,H v=none->Q (.ref v) (upd H v (.ext λ h=>h.IsItemsView v d))
theorem Ge:Fy X "dict.items" NX:=by
 rintro Ä s σ H x xs v us Q I rx rv ⟨d,kvs,rfl,rfl,hH,q⟩
 cases rx
 cases rv
 obtain⟨z,hd,xs,rel,o,es,ep,h1,h2,h3,h4,h5⟩:=(show Ũ X.prog X.w H s.heap d (.dT kvs) from I.ļ d _ hH)
 have hT:s.TypeIs (.ref d) "dict":=⟨o,h1,h2.1⟩
 refine ı fz hT yO ?_ (xJ _)
 unfold fB.«dict.items» aaA aaB
 refine Â (Â (wpAny_notOrdered_dict hT (Í ?_)))
 rw[Ö (by rw[hd];exact æ)]
 exact Â (Í (Â (Ŏ (Í ⟨_,rfl,.ref s.heap.objs.size,_,I.laid (a:=s.heap.objs.size) (o:=.ext λ h=>h.IsItemsView s.heap.objs.size d) (t':=s.toks) (λ _ _ q=>Ã _ q) (Ï _) ⟨⟨_,Ø _ rfl,rfl,rfl⟩,⟨_,Ø _ rfl⟩,λ h1 h2 ⟨o,e,r⟩ k=>⟨o,k o e,r⟩⟩,rfl,q _ (I.ļ.fresh (Ï _))⟩))))
end L2
namespace Mm
open PySem L2
def pW:Á (Á Key × AV)->Ë (Á (Str × Int))
 | []=>À []
 | ([.inr x,.inl i],_) :: r=>(pW r).map ((x,i) :: ·)
 | _ :: _=>none
theorem we:∀ {kvs:Á (Á Key × AV)}{ks:Á (Str × Int)},pW kvs=À ks->kvs.map (·.1)=ks.map eI
 | [],_,h=>by cases h;rfl
 | (k,v) :: r,ks,h=>by
  unfold pW at h
  split at h
  ·rename_i e;cases e
  ·rename_i x i _ _ e
   cases e
   cases e:pW r with
   | none=>rw[e]at h;cases h
   | some q=>rw[e]at h;cases h;rw[Ó,we e];rfl
  ·cases h
def oi (m:Ev):fY:=λ env s=>(m env s).bind λ v s1=>match v with
 | .ref i=>need (Lk s1 i) λ kvs=>need (pW kvs) λ ks=>if ks.length < 64 then .ok ((wx ks).map λ k=>.tup [.tup [.str k.1,.int k.2],(Ů kvs (eI k)).getD .Ē]) s1 else .bad
 | _=>.bad
def sx:AV->Int
 | .tup (.int d :: _)=>d
 | _=>0
def Ex:AV->Bool
 | .tup (.int _ :: _)=>true
 | _=>false
def Bu (a b:AV):Bool:=decide (sx a<=sx b)
def vF (m:fY):fY:=λ env s=>(m env s).bind λ l s1=>if l.all Ex=true/\(l.map sx).Nodup/\l.length < 64 then .ok (l.mergeSort Bu) s1 else .bad
section
variable {T:Tx}{XE:j6}{X:Cx}{pos:mT}
theorem Gb (hm:X.mg "sorted"=none)(hu:X.A.units+2 < cLine)(h:PE X e (tE T XE m)) (MB:X.calm=true:=by rfl)(hg:Gl X "sorted":=by rfl)
  (jL:Ŧ e "items" X.env (Ć e X.env)=Ć e X.env:=by rfl) (jM:(ap.endLine == cp.line)=true:=by rfl)
  (he:Ì [.Call (.Attribute e "items" ap) [] [] cp] X.env=(false,Ć (.Call (.Attribute e "items" ap) [] [] cp) X.env) :: Ì [] X.env:=by rfl) (fi:(Ĕ pos (Ì [] X.env)).any (·.1)=false:=by rfl) :
  PE X (.Call (.Name "sorted" p) [.Call (.Attribute e "items" ap) [] [] cp] [] pos) (tL T XE (oi m)):=
 PE.imp (dn (CF MB hu) hg hm ŕ (aN (Dj fu fz Aq Ge h jL jM) eW he) (by decide) (by decide) he fi) λ σ H Q zz=>ŀ zz λ ρ env s hs he ho=>
  step hs he ho λ v s1 Ě H1 x _ u1 İ aM Ĝ Ā=>by
   cases v with
   | ref i=>
    obtain⟨kvs,e1,Ā⟩:=Ā.ó
    obtain⟨ks,e2,Ā⟩:=Ā.ó
    obtain⟨hl,Ā⟩:=Ā.ō
    obtain⟨a,qs,rfl,ea,h1,q1,q2⟩:=İ.PD (zo e1) Ĝ
    refine⟨.inr (.inr (.inl ⟨rfl,.inr ⟨qs,h1⟩⟩)),a,qs,rfl,rfl,h1,λ v hv=>?_⟩
    have Y2:H1 a=À (.dT qs):=h1
    refine⟨v,a,qs,ks,rfl,û,by rw[ã (Đ Y2 hv)];exact h1,by rw[<-q1];exact we e2,hl,λ l H' ws Qc k1 k2 k3 k4 k5=>?_⟩
    have old:∀ b o,H1 b=À o->H' b=À o:=λ b o e=>k1 b o (by rw[ã (Đ e hv)];exact e)
    have Cd:H1 l=none:=by
     by_cases Et:l=v
     ·rw[Et];exact hv
     ·rw[ã Et]at Qc;exact Qc
    have up:Up Ě H1 Ě H':=⟨⟨aR,λ b xs e=>old b _ e,λ b o u e=>old b _ e⟩,λ b o e n=>⟨old b o e,n⟩,λ b e=>by
     have:=k2 b e
     by_cases UZ:b=v
     ·rw[UZ];exact hv
     ·rw[ã UZ]at this;exact this⟩
    have fm:SR T Ě s1 H':=İ.up up.toGr λ b hb=>by
     obtain⟨u,hu⟩:=İ.in hb
     rw[hu];exact old b u hu
    refine Ā Ě H' (.ref l) up fm ⟨l,ws,rfl,Cd,İ.out Cd,k3,?_⟩
    have len:(wx ks).length=ws.length:=by rw[(wy ks).length_eq,k4]
    have all:∀ (J_:Á (Str × Int)) (Ai:Á V),J_.length=Ai.length->(∀ (j:Nat) (k:Str × Int),J_[j]? = À k->∃ a' b x,Ai[j]? = À (.ref a')/\gP qs (eI k)=À x/\H' b=À (.tup [.str k.1,.int k.2])/\H' a'=À (.tup [.ref b,x]))->Ħ T Ě H' (J_.map λ k=>AV.tup [.tup [.str k.1,.int k.2],(Ů kvs (eI k)).getD .Ē]) Ai:=by
     intro J_
     induction J_ with
     | nil=>intro Ai vK _;cases Ai with|nil=>exact .nil|cons _ _=>simp at vK
     | cons k r ih=>
      intro Ai vK g
      cases Ai with
      | nil=>simp at vK
      | cons w Ai=>
       obtain⟨a',b,x,f1,f2,f4,f3⟩:=g 0 k rfl
       simp at f1
       subst f1
       refine .cons (jT (hZ.of f3) (.cons (jT (hZ.of f4) (.cons iO (.one dY))) (.one ?_))) (ih Ai (by simpa using vK) λ j k' hj=>g (j+1) k' (by simpa using hj))
       cases ev:Ů kvs (eI k) with
       | none=>rw[(cV (eI k) q1 q2).2 ev]at f2;cases f2
       | some v'=>
        obtain⟨x',ex,kx⟩:=(cV (eI k) q1 q2).1 v' ev
        rw[f2]at ex;cases ex
        exact VR.up up kx
    exact all _ _ len λ j k hj=>by
     obtain⟨a',b,x,f1,f2,f4,f3⟩:=k5 j k hj
     refine⟨a',b,x,f1,f2,?_,f3⟩
     have:b≠v:=λ z=>by rw[z,û]at f4;cases f4
     rw[ã this]at f4;exact old _ _ f4
   | _=>exact Ā.elim
theorem A7 {ρ:Á Addr}{H:Hp}:∀ {l:Á AV}{vs:Á V},l.all Ex=true->Ħ T ρ H l vs->∃ as:Á Addr,vs=as.map V.ref/\as.length=l.length/\∀ (j:Nat) (a:Addr) (d:Int),as[j]? = À a->(l.map sx)[j]? = À d->∃ r,hZ T.K H a (.int d :: r)
 | [],vs,_,k=>by
  unfold Ħ at k
  subst k
  exact⟨[],rfl,rfl,λ j a d e=>by simp at e⟩
 | v :: l,vs,h,k=>by
  obtain⟨x,ys,rfl,k1,k2⟩:=k.cons_inv
  rw[Ő,Č]at h
  obtain⟨as,rfl,e2,e3⟩:=A7 h.2 k2
  have h1:=h.1
  unfold Ex at h1
  split at h1
  ·obtain⟨a,ws,rfl,f1,f2⟩:=k1.bV
   obtain⟨y,r,rfl,f3,_⟩:=f2.cons_inv
   rw[f3.int_inv]at f1
   refine⟨a :: as,rfl,by simp[e2],λ j b d g1 g2=>?_⟩
   cases j with
   | zero=>simp[sx]at g1 g2;subst g1 g2;exact⟨r,f1⟩
   | succ j=>exact e3 j b d (by simpa using g1) (by simpa using g2)
  ·cases h1
theorem GA {l:Á AV}{p:Á Nat}(nd:(l.map sx).Nodup) (pr:p.Perm (Ă l.length)) (h:p.Pairwise λ i j=>(l.map sx).getD i 0<=(l.map sx).getD j 0):p.map (λ i=>l.getD i .Ē)=l.mergeSort Bu:=by
 have e5:(Ă l.length).map (λ i=>l.getD i .Ē)=l:=by
  apply m7
  ·simp
  ·intro i h6 h7
   simp[h7]
 have p1:(p.map λ i=>l.getD i .Ē).Perm l:=by have:=pr.map λ i=>l.getD i .Ē;rw[e5]at this;exact this
 refine(p1.trans (cx l Bu).symm).eq_of_pairwise (le:=λ a b=>Bu a b=true) (λ a b ha hb h1 h2=>?_) ?_ (f9 (le:=Bu) (λ a b c h k=>by unfold Bu at *;simp at *;lia) (λ a b=>by unfold Bu;simp;lia) l)
 ·have ha:=p1.mem_iff.mp ha
  have hb:=(cx l Bu).mem_iff.mp hb
  obtain⟨i,hi,rfl⟩:=ĩ ha
  obtain⟨j,hj,rfl⟩:=ĩ hb
  have:sx l[i]=sx l[j]:=by unfold Bu at h1 h2;simp at h1 h2;lia
  have:i=j:=(aY (xs:=l.map sx) (h₀:=by simpa using hi) (h₁:=by simpa using hj) nd).mp (by simpa using this)
  subst this;rfl
 ·refine Ř.mpr (h.imp_of_mem λ {i j} hi hj h=>?_)
  have hi:i < l.length:=by simpa using pr.mem_iff.mp hi
  have hj:j < l.length:=by simpa using pr.mem_iff.mp hj
  unfold Bu
  simp[hi,hj]at h ⊢
  exact h
theorem I0 (hK:X.K=T.K)(hm:X.mg "sorted"=none)(h:PE X e (tL T XE m)) (MB:X.calm=true:=by rfl)(hg:Gl X "sorted":=by rfl)(he:Ì [e] X.env=(false,Ć e X.env) :: Ì [] X.env:=by rfl) (fi:(Ĕ pos (Ì [] X.env)).any (·.1)=false:=by rfl) :
  PE X (.Call (.Name "sorted" p) [e] [] pos) (tL T XE (vF m)):=
 PE.imp (dn (CD MB) hg hm ŕ (aN h eW he) (by decide) (by decide) he fi) λ σ H Q zz=>ŀ zz λ ρ env s hs he ho=>step hs he ho λ l s1 Ě H1 x _ u1 İ aM Ĝ Ā=>by
  obtain⟨⟨c1,c2,c3⟩,Ā⟩:=Ā.ō
  obtain⟨a,vs,rfl,_,_,h1,k⟩:=Ĝ
  obtain⟨as,rfl,e2,e3⟩:=A7 c1 k
  refine⟨a,as,l.map sx,rfl,h1,by rw[Õ,e2],by rw[hK];exact e3,c2,by rw[e2];exact c3,λ p l' pr Sb Qc=>?_⟩
  rw[e2]at pr
  rw[<-GA c2 pr Sb]at Ā
  refine Ā.lst İ Qc ?_
  have g:∀ i,i < l.length->VR T Ě H1 (l.getD i .Ē) (.ref (as.getD i 0)):=by
   intro i hi
   obtain⟨x,f1,f2⟩:=Ħ.get k (Å hi)
   rw[ì,Å (by rw[e2];exact hi)]at f1
   cases f1
   rw[ô,ô,Å hi,Å (by rw[e2];exact hi)]
   exact f2
  have:∀ q:Á Nat,(∀ i∈q,i < l.length)->Ħ T Ě H1 (q.map λ i=>l.getD i .Ē) (q.map λ i=>V.ref (as.getD i 0)):=by
   intro q
   induction q with
   | nil=>intro _;exact .nil
   | cons i r ih=>intro hq;exact .cons (g i (hq i (.head _))) (ih λ j hj=>hq j (.tail _ hj))
  exact this p λ i hi=>by simpa using pr.mem_iff.mp hi
end
end Mm
namespace L2
open PySem PySem.Spec PyProof.Rows
section
variable {prog:Ą}{w:ğ}{A:į}{E:Value->Ò->Prop}{s:Ò}
end
end L2
namespace Mm
open PySem L2
section
variable {T:Tx}{XE:j6}{X:Cx}{pos:mT}
def kindOf:AV->Bool
 | .tup _=>true
 | _=>false
end
end Mm
namespace L2
open PySem PySem.Spec PyProof.Rows
end L2
namespace Mm
open PySem L2
section
variable {T:Tx}{XE:j6}{X:Cx}{pos:mT}
end
end Mm
namespace L2
open PySem PySem.Spec PyProof.Rows
def WW (i j k:Nat)(ta:TA):TS:=λ D σ H=>ta σ H λ vs H1=>∃ v w z,vs=[v,w,z]/\D.nx (((σ.set i (À v)).set j (À w)).set k (À z)) H1
theorem NP (hc:X.calm=true)(hN:X.N.Nodup)(hi:X.N[i]? = À x)(hj:X.N[j]? = À y)(hk:X.N[k]? = À z)(om:i≠j)(Zg:i≠k)(Ay:j≠k)
  (hx:X.env.scope.names.lookup x=À .local) (hy:X.env.scope.names.lookup y=À .local) (hz:X.env.scope.names.lookup z=À .local) (ha:PA X [a,b,c] ta)
  (hw:ki [.Tuple [.Name x px,.Name y py,.Name z pz] kt pt] (.Tuple [a,b,c] k2 J0) X.env=pure (À [x,y,z]))
  (hs:kj [.Tuple [.Name x px,.Name y py,.Name z pz] kt pt] (.Tuple [a,b,c] k2 J0) pos.line X.env=pure false) :
  PS X (.Assign [.Tuple [.Name x px,.Name y py,.Name z pz] kt pt] (.Tuple [a,b,c] k2 J0) pos) (WW i j k ta):=by
 intro Ä s σ H D I h
 rw[abf]
 refine Â (eF ?_)
 rw[hs]
 refine Â (Í ?_)
 rw[Ö (by decide)]
 refine Â (Tuple_ (af (ha _ Ä s σ H _ I h) λ us s1 zz=>jA zz λ vs H1 I1 r1 q1=>?_))
 obtain⟨v,w,q,e1,q1⟩:=q1
 subst e1
 obtain⟨u1,u2,u3,rfl,rv,xD,rz⟩:∃ u1 u2 u3,us=[u1,u2,u3]/\RelV v u1/\RelV w u2/\RelV q u3:=by
  cases r1 with
  | cons p q=>
   cases q with
   | cons p' q'=>
    cases q' with
    | cons p'' q''=>
     cases q''
     exact⟨_,_,_,rfl,p,p',p''⟩
 refine Ŏ ?_ (by show 3<=sizeLine;decide)
 have I2:Inv X Ä σ H1 { s1 with heap:=s1.heap.push { cls:=.type "tuple",data:=.seq [u1,u2,u3].toArray } }:=I1.kept (t':=s1.toks) λ b o e=>Ã _ e
 rw[hw]
 refine Â (Í ?_)
 show Ù (Ý X.prog X.w) X.A (do rule "assign.swapped-stores";let items <-unpackItems (.ref s1.heap.objs.size) 3 none;oM [λ v=>gw X.env z v,λ v=>gw X.env y v,λ v=>gw X.env x v] items.reverse;pure Cj) _ _ _
 refine Â (cJ (Â (Xl (items:=#[u1,u2,u3]) (I.ok.hd hc) (u5 s1.heap _) λ h' Iv=>?_)))
 have I3:=I2.kept (h':=h') (t':=s1.toks) λ b o e=>Iv b o (ç (Ð e)) e
 show Ù _ _ (oM [λ v=>gw X.env z v,λ v=>gw X.env y v,λ v=>gw X.env x v] [u3,u2,u1] >>= λ _=>pure Cj) _ _ _
 refine Â (dE (mZ (g_ I3 hN hk (.inl hz) rz (λ s2 I4=>?_) (.inr hz))))
 refine dE (mZ (g_ I4 hN hj (.inl hy) xD (λ s3 I5=>?_) (.inr hy)))
 refine dE (mZ (g_ I5 hN hi (.inl hx) rv (λ s4 I6=>yU (Í ?_)) (.inr hx)))
 rw[r_ _ _ (Ŝ om),r_ _ _ (Ŝ Zg),r_ _ _ (Ŝ Ay)]at I6
 exact⟨_,H1,I6,q1⟩
end L2
namespace Mm
open PySem L2
section
variable {T:Tx}{XE:j6}{X:Cx}{pos:mT}
def BK (i j k:Nat)(r:fY):Ms:=λ env s=>(r env s).cu λ vs s1=>match vs with
 | [v,w,z]=>.nx (((env.set i (À v)).set j (À w)).set k (À z)) s1
 | _=>.bad
theorem Nd (hc:X.calm=true)(hN:X.N.Nodup)(ha:PA X [a,b,c] (tP T XE r)) (hi:X.N[i]? = À x:=by rfl)(hj:X.N[j]? = À y:=by rfl)(hk:X.N[k]? = À z:=by rfl)(om:i≠j:=by decide)(Zg:i≠k:=by decide)(Ay:j≠k:=by decide)
  (hx:X.env.scope.names.lookup x=À .local:=by rfl) (hy:X.env.scope.names.lookup y=À .local:=by rfl) (hz:X.env.scope.names.lookup z=À .local:=by rfl)
  (hw:ki [.Tuple [.Name x px,.Name y py,.Name z pz] kt pt] (.Tuple [a,b,c] k2 J0) X.env=pure (À [x,y,z]):=by rfl)
  (hs:kj [.Tuple [.Name x px,.Name y py,.Name z pz] kt pt] (.Tuple [a,b,c] k2 J0) pos.line X.env=pure false:=by rfl) :
  PS X (.Assign [.Tuple [.Name x px,.Name y py,.Name z pz] kt pt] (.Tuple [a,b,c] k2 J0) pos) (tS T XE (BK i j k r)):=
 PS.imp (NP hc hN hi hj hk om Zg Ay hx hy hz ha hw hs) λ D σ H zz=>mR zz λ ρ env s hs he ho=>dP hs he ho λ v s1 Ě H1 x _ u1 İ aM Ĝ Ā=>by
  have Ĝ:Ħ T Ě H1 v x:=Ĝ
  match v,Ĝ,Ā with
  | [v,w,z],Ĝ,Ā=>
   obtain⟨x1,ys,rfl,k1,k2⟩:=Ĝ.cons_inv
   obtain⟨x2,ys,rfl,k4,k3⟩:=k2.cons_inv
   obtain⟨x3,ys,rfl,k6,k5⟩:=k3.cons_inv
   cases k5.nil_inv
   exact⟨x1,x2,x3,rfl,Ā Ě H1 _ .refl İ (((aM.set k1).set k4).set k6)⟩
  | [],_,Ā=>exact Ā.elim
  | [_],_,Ā=>exact Ā.elim
  | [_,_],_,Ā=>exact Ā.elim
  | _ :: _ :: _ :: _ :: _,_,Ā=>exact Ā.elim
end
end Mm
namespace Ro
open PySem L2 Mm
def bz:AV:=.int 182
def su:Ms:=
 (Ŭ (Ĺ (vE 20 "by_days.<locals>.<lambda>" (mv 0))))
def dM:Á AV->S->R AV:=fe 1 su
def h_:Ms:=
 (ē (jQ 9 "keeps" (mv 0) CW)
 (ē (jQ 9 "rows" (mv 0) CW)
 (ē (jQ 9 "hands" (mv 0) IK)
 (ē (jQ 9 "makers" (mv 0) CW)
 (ē (jQ 9 "rates" (mv 0) CW)
 (ē (jQ 9 "half" (mv 0) (mc bz))
 (ē (jQ 9 "money" (mv 0) (Ĺ (cf Ü)))
    (jQ 9 "debts" (mv 0) (Ĺ (cf Ü))))))))))
def ŵ:Á AV->S->R AV:=fe 1 h_
def cz:Ms:=
 (lW (cB (Û wa (mv 1) (cj (bC 9 "keeps") (mv 0)))) (GZ 3 (Ê (mQ (fP (mc (.str "no person is called ")) (fP (cj nX (mv 1)) xr))) Ü)) ŭ)
def ü:Á AV->S->R AV:=fe 2 cz
def gC:Ms:=
 (lW (cB (Û wa (mv 1) (cj (bC 9 "rows") (mv 0)))) (GZ 3 (Ê (mQ (fP (mc (.str "no work is called ")) (fP (cj nX (mv 1)) xr))) Ü)) ŭ)
def ž:Á AV->S->R AV:=fe 2 gC
def il:Ms:=
 (Ŭ (X3 (Û rg (mv 1) (cj (bC 9 "keeps") (mv 0))) (Û rg (mv 1) (cj (bC 9 "rows") (mv 0)))))
def br:Á AV->S->R AV:=fe 2 il
def gB:Ms:=
 (lW (cT (Ľ 9 "has_name" 1 br (mv 0) (Ê (mv 1) Ü))) (GZ 2 (Ê (mQ (fP (mc (.str "a person or a work is called ")) (fP (cj nX (mv 1)) (fP (mc (.str " already")) xr)))) Ü)) ŭ)
def Ž:Á AV->S->R AV:=fe 2 gB
def fH:Ms:=
 (ē (au (Ľ 9 "need_free" 1 Ž (mv 0) (Ê (mv 1) Ü)))
    (rq (cj (bC 9 "keeps") (mv 0)) (mv 1) (mc ow)))
def ũ:Á AV->S->R AV:=fe 2 fH
def ie:Ms:=
 (ē (au (Ľ 9 "need_free" 1 Ž (mv 0) (Ê (mv 1) Ü)))
    (rq (cj (bC 9 "rows") (mv 0)) (mv 1) (gL Ü)))
def aF:Á AV->S->R AV:=fe 2 ie
def dX:Ms:=
 (Ŭ (Ĺ (pJ (cj (bC 9 "keeps") (mv 0)))))
def ċ:Á AV->S->R AV:=fe 1 dX
def fJ:Ms:=
 (Ŭ (Ĺ (pJ (cj (bC 9 "rows") (mv 0)))))
def aD:Á AV->S->R AV:=fe 1 fJ
def jq:Ms:=
 (ē (au (Ľ 9 "need_work" 1 ž (mv 0) (Ê (mv 1) Ü)))
 (Ŭ (Û Ļ (cj (bC 9 "rows") (mv 0)) (mv 1))))
def bY:Á AV->S->R AV:=fe 2 jq
def jn:Ms:=
 (ē (au (Ľ 9 "need_person" 1 ü (mv 0) (Ê (mv 1) Ü)))
 (ē (au (Ľ 9 "need_person" 1 ü (mv 0) (Ê (mv 3) Ü)))
 (ē (lW (cB (Û cM (mv 1) (mv 3))) (GZ 3 (Ê (mc (.str "nobody hands on to themselves")) Ü)) ŭ)
 (ē (lW (cB (ym (Ê (mv 1) (Ê (mv 2) Ü)) (cj (bC 9 "hands") (mv 0)))) (GZ 2 (Ê (mQ (fP (cj nX (mv 1)) (fP (mc (.str " has a hand of that day already")) xr))) Ü)) ŭ)
    (wj (cj (bC 9 "hands") (mv 0)) (Ê (mv 1) (Ê (mv 2) Ü)) (gL (Ê (mv 3) (Ê (mv 4) Ü))))))))
def aq:Á AV->S->R AV:=fe 5 jn
def ij:Ms:=
 (ē (au (Ľ 9 "need_person" 1 ü (mv 0) (Ê (mv 1) Ü)))
 (Ŭ (Ĺ (aE [("giver",none),("day",none),("name",none),("part",none),("person",À 1)] (BN (oi (cj (bC 9 "hands") (mv 0)))) (gT 2 (Ĳ (gT 2 (Ĳ (gN 0) (Ĳ (gN 1) gm))) (Ĳ (gT 2 (Ĳ (gN 2) (Ĳ (gN 3) gm))) gm))) (cB (Û cM (mv 0) (mv 4))) (gL (Ê (mv 1) (Ê (mv 2) (Ê (mv 3) Ü))))))))
def Ś:Á AV->S->R AV:=fe 2 ij
def iq:Ms:=
 (ē (au (Ľ 9 "need_work" 1 ž (mv 0) (Ê (mv 1) Ü)))
 (Ŭ (yn (cj (bC 9 "makers") (mv 0)) (mv 1))))
def bt:Á AV->S->R AV:=fe 2 iq
def gD:Ms:=
 (Ŭ (Ĺ (aE [("worth",none),("currency",none),("day",none)] (BN (vD (cj (bC 9 "rates") (mv 0)))) (gT 2 (Ĳ (gT 2 (Ĳ (gN 1) (Ĳ (gN 2) gm))) (Ĳ (gN 0) gm))) j_ (gL (Ê (mv 1) (Ê (mv 2) (Ê (mv 0) Ü)))))))
def aU:Á AV->S->R AV:=fe 1 gD
def jo:Ms:=
 (ē (au (Ľ 9 "need_person" 1 ü (mv 0) (Ê (mv 1) Ü)))
 (Ŭ (Û Ļ (cj (bC 9 "keeps") (mv 0)) (mv 1))))
def bX:Á AV->S->R AV:=fe 2 jo
def iu:Ms:=
  (jQ 9 "half" (mv 0) (mv 1))
def aG:Á AV->S->R AV:=fe 2 iu
def gA:Ms:=
 (Ŭ (cj (bC 9 "half") (mv 0)))
def aT:Á AV->S->R AV:=fe 1 gA
def fI:Ms:=
 (Ŭ (Ĺ (nN (ę 1 dM (Ê (cj (bC 9 "money") (mv 0)) Ü)))))
def aC:Á AV->S->R AV:=fe 1 fI
def gz:Ms:=
 (Ŭ (Ĺ (nN (ę 1 dM (Ê (cj (bC 9 "debts") (mv 0)) Ü)))))
def aS:Á AV->S->R AV:=fe 1 gz
def iz:Ms:=
 (Ŭ (Ĺ (aE [("_law_day",none),("_law_k",none),("_law_some",À 0)] (BN (vG (aE [("_law_k",none),("_law_one",none)] (GG (mv 0)) (gT 2 (Ĳ (gN 0) (Ĳ (gN 1) gm))) j_ (gL (Ê (Û Ŀ (mv 1) (mc (.int 1))) (Ê (mv 0) Ü)))))) (gT 2 (Ĳ (gN 0) (Ĳ (gN 1) gm))) j_ (Û Ŀ (mv 2) (mv 1)))))
def aH:Á AV->S->R AV:=fe 1 iz
def iB:Ms:=
 (Ŭ (Û cw (Ĺ (nN (ę 2 dJ (Ê (mv 0) (Ê (mc (.int 7)) Ü))))) (Ĺ (cf (Ê (mc (.str "never")) Ü)))))
def bu:Á AV->S->R AV:=fe 1 iB
def sm:Ms:=
 (Ŭ (Û Ŀ (mv 1) (ę 2 ė (Ê (mv 0) (Ê (zM jP (Ê (mv 1) Ü)) Ü)))))
def gG:Á AV->S->R AV:=fe 2 sm
def js:Ms:=
 (Ŭ (Mu (Û Ŀ (Ĺ (cf (Ê (ę 2 ė (Ê (mv 0) (Ê (mc (.int 4)) Ü))) (Ê (ę 2 ė (Ê (mv 0) (Ê (mc (.int 40)) Ü))) (Ê (ę 2 ė (Ê (mv 0) (Ê (mc (.int 10000)) Ü))) Ü))))) (ę 2 ė (Ê (mv 0) (Ê (mc (.int 3)) Ü))))))
def bZ:Á AV->S->R AV:=fe 1 js
def nz:Ms:=
 (ē (BK 3 4 5 (Ê (ę 2 gG (Ê (mv 0) (Ê (mv 1) Ü))) (Ê (ę 2 gG (Ê (mv 0) (Ê (mv 1) Ü))) (Ê (ę 1 bZ (Ê (mv 0) Ü)) Ü))))
 (ē (lW (cB (Û cM (mv 2) (mc (.str "hand")))) (Ŭ (gL (Ê (mv 2) (Ê (mv 3) (Ê (mv 5) (Ê (mv 4) (Ê (ę 1 fc (Ê (mv 0) Ü)) Ü))))))) ŭ)
 (Ŭ (gL (Ê (mv 2) (Ê (Mu (Û Ŀ (Ĺ (cf (Ê (mc (.int 1)) (Ê (mc (.int 400)) (Ê (mc (.int 182)) (Ê (Û cw (mc (.int 1)) (ę 2 ė (Ê (mv 0) (Ê (mc (.int 400)) Ü)))) Ü)))))) (ę 2 ė (Ê (mv 0) (Ê (mc (.int 4)) Ü))))) Ü))))))
def e_:Á AV->S->R AV:=fe 6 nz
def eZ:Ms:=
 (ē (p0 2 3 (Ê (Û Ŀ (mv 1) (mc (.int 0))) (Ê (AA (mv 1) (oS (mc (.int 1))) oN) Ü)))
 (lW (cB (Û cM (mv 2) (mc (.str "person")))) (au (Ľ 9 "add_person" 1 ũ (mv 0) (Ê (Û Ŀ (mv 3) (mc (.int 0))) Ü))) (lW (cB (Û cM (mv 2) (mc (.str "work")))) (au (Ľ 9 "add_work" 1 aF (mv 0) (Ê (Û Ŀ (mv 3) (mc (.int 0))) Ü))) (lW (cB (Û cM (mv 2) (mc (.str "hand")))) (au (Ľ 9 "hand_on" 4 aq (mv 0) (Ê (Û Ŀ (mv 3) (mc (.int 0))) (Ê (Û Ŀ (mv 3) (mc (.int 1))) (Ê (Û Ŀ (mv 3) (mc (.int 2))) (Ê (Û Ŀ (mv 3) (mc (.int 3))) Ü)))))) (au (Ľ 9 "put_half" 1 aG (mv 0) (Ê (Û Ŀ (mv 3) (mc (.int 0))) Ü)))))))
def ſ:Á AV->S->R AV:=fe 4 eZ
def ju:Ms:=
 (ē (bL 2 (mc .Ē))
 (ē (wm 6 5 (λ c=>decide (c < 9) && í 0 c) (au (ę 2 ſ (Ê (mv 0) (Ê (mv 1) Ü)))) (bL 2 (mv 5)))
 (ē (lW (cB (Û uc (mv 2) (mc .Ē))) (Ŭ (mc (.str ""))) ŭ)
 (ē (bL 3 (Ĺ (cf (Ê (cj (a8 (pD 2)) (mv 2)) (Ê (cj (a8 (pD 3)) (mv 2)) (Ê (cj (a8 (pD 4)) (mv 2)) Ü))))))
 (ē (bL 3 (Û cw (mv 3) (Ĺ (cf (Ê (cj (a8 (pD 5)) (mv 2)) (Ê (cj (a8 (pD 6)) (mv 2)) Ü))))))
 (ē (bL 4 (Ĺ (aE [("_law_k",none),("_law_told",À 3)] (BO (Ê (mc (.int 5)) Ü)) (gN 0) (cT (Û Ŀ (mv 1) (mv 0))) (Ie (Û Ŀ (Ĺ (cf (Ê (mc (.str "taken")) (Ê (mc (.str "name")) (Ê (mc (.str "much")) (Ê (mc (.str "rate")) (Ê (mc (.str "left")) Ü))))))) (mv 0))))))
 (ē (lW (FD (cB (Û oV (zM jP (Ê (mv 4) Ü)) (mc (.int 1)))) (FD (cT (cj (a8 (Fz [1,8,7])) (mv 2))) (A3 (cT (cj (a8 FA) (mv 2)))))) (Ŭ (mc (.str "many"))) ŭ)
 (Ŭ (Û Ŀ (mv 4) (mc (.int 0)))))))))))
def b9:Á AV->S->R AV:=fe 6 ju
def mj:Ms:=
 (ē (bL 0 (gp [((mc (.str "people")),(Ĺ (cf Ü))),((mc (.str "works")),CW),((mc (.str "hands")),(Ĺ (cf Ü))),((mc (.str "known")),CW),((mc (.str "rates")),(Ĺ (cf Ü))),((mc (.str "keeps")),CW),((mc (.str "half")),(mc (.int 182)))]))
 (ē (Dw (gL (Ê (Ĺ (cf Ü)) (Ê (Ĺ (cf Ü)) Ü))) (gT 2 (Ĳ (vH (mv 0) (mc (.str "money"))) (Ĳ (vH (mv 0) (mc (.str "debts"))) gm))))
 (Ŭ (mv 0))))
def cD:Á AV->S->R AV:=fe 1 mj
def dh:Ms:=
 (ē (bL 3 (Û Ļ (mv 0) (mc (.str "people"))))
 (ē (lW (cB (Û cM (mv 1) (mc (.str "hand")))) (ē (lW (FD (cB (Û rh (Û Ŀ (mv 2) (mc (.int 0))) (mv 3))) (FD (cB (Û rh (Û Ŀ (mv 2) (mc (.int 2))) (mv 3))) (cB (Û cM (Û Ŀ (mv 2) (mc (.int 0))) (Û Ŀ (mv 2) (mc (.int 2))))))) (Ŭ (mc (.str "name"))) ŭ)
 (ē (lW (P2 (cB (Û oV (Ĺ (aE [("_law_one",none),("_law_rest",À 2)] (dO (Û Ļ (mv 0) (mc (.str "hands")))) (gN 0) (cB (Û cM (AA (mv 0) oN (oS (mc (.int 2)))) (gL (Ê (Û Ŀ (mv 1) (mc (.int 0))) (Ê (Û Ŀ (mv 1) (mc (.int 1))) Ü))))) (mv 0))) (Ĺ (cf Ü))))) (Ŭ (mc (.str "taken"))) ŭ)
 (au (pS "list" Ż (Û Ļ (mv 0) (mc (.str "hands"))) (Ê (CL sW (Bt (mv 2))) Ü))))) ŭ)
 (Ŭ (mc (.str "")))))
def ŋ:Á AV->S->R AV:=fe 4 dh
def gF:Ms:=
 (ē (p0 2 3 (Ê (Û Ŀ (mv 1) (mc (.int 0))) (Ê (Ĺ (CL rm (Bt (AA (mv 1) (oS (mc (.int 1))) oN)))) Ü)))
 (ē (p0 4 5 (Ê (Û Ļ (mv 0) (mc (.str "people"))) (Ê (Û Ļ (mv 0) (mc (.str "works"))) Ü)))
 (ē (lW (cB (Û cM (mv 2) (mc (.str "half")))) (ē (rq (mv 0) (mc (.str "half")) (Û Ŀ (mv 3) (mc (.int 0))))
 (Ŭ (mc (.str "")))) ŭ)
 (ē (lW (cB (Û Dd (mv 2) (gL (Ê (mc (.str "person")) (Ê (mc (.str "work")) Ü))))) (ē (lW (cB (Û cM (mv 2) (mc (.str "person")))) (au (pS "list" Ż (mv 4) (Ê (Û Ŀ (mv 3) (mc (.int 0))) Ü))) (rq (mv 5) (Û Ŀ (mv 3) (mc (.int 0))) (gL Ü)))
 (Ŭ (mc (.str "")))) ŭ)
 (Ŭ (ę 3 ŋ (Ê (mv 0) (Ê (mv 2) (Ê (mv 3) Ü)))))))))
def Ū:Á AV->S->R AV:=fe 6 gF
def iy:Ms:=
 (ē (p0 2 3 (Ê (Ľ 9 "work_names" 0 aD (mv 0) Ü) (Ê (Ľ 9 "person_names" 0 ċ (mv 0) Ü) Ü)))
 (ē (bL 1 (Ĺ (cf (Ê (mv 3) (Ê (mv 2) (Ê (Ĺ (aE [("_law_work",none),("_law_book",À 0)] (dO (mv 2)) (gN 0) j_ (Ľ 9 "rows_of" 1 bY (mv 1) (Ê (mv 0) Ü)))) (Ê (Ĺ (aE [("_law_person",none),("_law_book",À 0)] (dO (mv 3)) (gN 0) j_ (Ľ 9 "hands_of" 1 Ś (mv 1) (Ê (mv 0) Ü)))) Ü)))))))
 (ē (bL 1 (Û cw (mv 1) (Ĺ (cf (Ê (Ĺ (aE [("_law_work",none),("_law_book",À 0)] (dO (mv 2)) (gN 0) j_ (Ľ 9 "known_of" 1 bt (mv 1) (Ê (mv 0) Ü)))) (Ê (Ĺ (aE [("_law_person",none),("_law_book",À 0)] (dO (mv 3)) (gN 0) j_ (Ľ 9 "keep_of" 1 bX (mv 1) (Ê (mv 0) Ü)))) Ü))))))
 (Ŭ (Û cw (mv 1) (Ĺ (cf (Ê (Ľ 9 "rate_list" 0 aU (mv 0) Ü) (Ê (Ľ 9 "half_days" 0 aT (mv 0) Ü) (Ê (Ľ 9 "money_list" 0 aC (mv 0) Ü) (Ê (Ľ 9 "debt_list" 0 aS (mv 0) Ü) Ü)))))))))))
def Ŷ:Á AV->S->R AV:=fe 4 iy
def jr:Ms:=
 (ē (p0 2 3 (Ê (Ĺ (pJ (Û Ļ (mv 0) (mc (.str "works"))))) (Ê (Ĺ (pK (Û Ļ (mv 0) (mc (.str "people"))))) Ü)))
 (ē (bL 1 (Ĺ (cf (Ê (mv 3) (Ê (mv 2) (Ê (Ĺ (aE [("_law_work",none),("_law_world_here",À 0)] (dO (mv 2)) (gN 0) j_ (Û Ļ (Û Ļ (mv 1) (mc (.str "works"))) (mv 0)))) Ü))))))
 (ē (au (pS "list" Ż (mv 1) (Ê (Ĺ (aE [("_law_person",none),("_law_world_here",À 0)] (dO (mv 3)) (gN 0) j_ (Ĺ (vF (aE [("_law_one",none),("_law_person",À 0)] (dO (Û Ļ (mv 1) (mc (.str "hands")))) (gN 0) (cB (Û cM (Û Ŀ (mv 0) (mc (.int 0))) (mv 1))) (AA (mv 0) (oS (mc (.int 1))) oN)))))) Ü)))
 (ē (au (pS "list" Ż (mv 1) (Ê (Ĺ (aE [("_law_work",none),("_law_world_here",À 0)] (dO (mv 2)) (gN 0) j_ (yn (Û Ļ (mv 1) (mc (.str "known"))) (mv 0)))) Ü)))
 (ē (au (pS "list" Ż (mv 1) (Ê (Ĺ (aE [("_law_person",none),("_law_world_here",À 0)] (dO (mv 3)) (gN 0) j_ (vW (Û Ļ (mv 1) (mc (.str "keeps"))) (mv 0) (gL (Ê (mc (.int 0)) (Ê (mc (.int 1)) Ü)))))) Ü)))
 (ē (bL 1 (Û cw (mv 1) (Ĺ (cf (Ê (Ĺ (pK (Û Ļ (mv 0) (mc (.str "rates"))))) (Ê (Û Ļ (mv 0) (mc (.str "half"))) Ü))))))
 (Ŭ (Û cw (mv 1) (Ĺ (cf (Ê (Ĺ (nN (ę 1 aH (Ê (Û Ļ (mv 0) (mc (.str "money"))) Ü)))) (Ê (Ĺ (nN (ę 1 aH (Ê (Û Ļ (mv 0) (mc (.str "debts"))) Ü)))) Ü))))))))))))
def ar:Á AV->S->R AV:=fe 4 jr
def jt:Ms:=
 (ē (bL 2 (gp [((mc (.str "hand")),(mc (.str "hands"))),((mc (.str "rate")),(mc (.str "rates"))),((mc (.str "debt")),(mc (.str "debts"))),((mc (.str "sold")),(mc (.str "money"))),((mc (.str "back")),(mc (.str "money")))]))
 (ē (bL 3 (gp [((mc (.str "hand")),(mc (.int 30))),((mc (.str "rate")),(mc (.int 20))),((mc (.str "debt")),(mc (.int 20))),((mc (.str "sold")),(mc (.int 40))),((mc (.str "back")),(mc (.int 40)))]))
 (ē (lW (FC (cB (Û rg (mv 1) (mv 2))) (cB (Û Gj (zM jP (Ê (Û Ļ (mv 0) (Û Ļ (mv 2) (mv 1))) Ü)) (Û Ļ (mv 3) (mv 1))))) (Ŭ (mc (.str "half"))) ŭ)
 (Ŭ (mv 1)))))
def b8:Á AV->S->R AV:=fe 4 jt
def kM:Ms:=
 (ē (Dy (BO (Ê (mv 5) Ü)) (gN 6) (ē (bL 7 (ę 3 e_ (Ê (mv 0) (Ê (mv 3) (Ê (ę 2 b8 (Ê (mv 2) (Ê (Û Ŀ (mv 4) (ę 2 ė (Ê (mv 0) (Ê (zM jP (Ê (mv 4) Ü)) Ü)))) Ü))) Ü)))))
 (ē (bL 8 (ę 2 Ū (Ê (mv 2) (Ê (mv 7) Ü))))
 (ē (lW (A3 (cT (ę 2 (Ĉ 9) (Ê (ę 2 b9 (Ê (mv 1) (Ê (mv 7) Ü))) (Ê (mv 8) Ü))))) (Ŭ (mc (.bl false))) ŭ)
 (lW (A3 (cT (Ie (ę 2 (Ĉ 9) (Ê (ę 1 Ŷ (Ê (mv 1) Ü)) (Ê (ę 1 ar (Ê (mv 2) Ü)) Ü)))))) (Ŭ (mc (.bl false))) ŭ)))))
 (Ŭ (mc (.bl true))))
def bK:Á AV->S->R AV:=fe 9 kM
def mf:Ms:=
 (ē (p0 3 4 (Ê (pR 9 ŵ) (Ê (ę 0 cD Ü) Ü)))
 (ē (Dy (dO (AA (mv 1) oN (oS (mc (.int 7))))) (gN 2) (ē (bL 5 (gL (Ê (Mu (Û Ŀ (Ĺ (cf (Ê (mc (.str "person")) (Ê (mc (.str "work")) Ü)))) (ę 2 ė (Ê (mv 0) (Ê (mc (.int 2)) Ü))))) (Ê (mv 2) Ü))))
 (ē (au (ę 2 Ū (Ê (mv 4) (Ê (mv 5) Ü))))
 (au (ę 2 ſ (Ê (mv 3) (Ê (mv 5) Ü)))))))
 (Ŭ (gL (Ê (mv 3) (Ê (mv 4) Ü))))))
def cC:Á AV->S->R AV:=fe 6 mf
def kL:Ms:=
 (Dy (dO (mv 0)) (gN 1) (ē (lW (cT (cj (dN "list") (mv 1))) (ē (au (yo "list" lK (mv 1)))
 (au (pS "list" Ż (mv 1) (Ê (mc (.str "more")) Ü)))) ŭ)
 (lW (FC (cT (cj (dN "list") (mv 1))) (FC (cB (Û yv (Û Ŀ (mv 1) (mc (.int 0))) (mc (.str "more")))) (cT (cj (dN "list") (Û Ŀ (mv 1) (mc (.int 0))))))) (au (pS "list" Ż (Û Ŀ (mv 1) (mc (.int 0))) (Ê (mc (.str "more")) Ü))) ŭ)))
def ah:Á AV->S->R AV:=fe 2 kL
def Hg:Ms:=
 (ē (bL 1 (ę 1 dI (Ê (mv 0) Ü)))
 (ē (bL 2 (Ĺ (nN (ę 1 bu (Ê (mv 1) Ü)))))
 (ē (Dw (ę 2 cC (Ê (mv 1) (Ê (mv 2) Ü))) (gT 2 (Ĳ (gN 3) (Ĳ (gN 4) gm))))
 (ē (lW (A3 (cT (Mu (ę 6 bK (Ê (mv 1) (Ê (mv 3) (Ê (mv 4) (Ê (mv 2) (Ê (Ĺ (cf (Ê (mc (.str "hand")) Ü))) (Ê (Û cw (mc (.int 15)) (ę 2 ė (Ê (mv 1) (Ê (mc (.int 26)) Ü)))) Ü)))))))))) (Ŭ (mc (.bl false))) ŭ)
 (ē (au (Ie (ę 1 ah (Ê (Û cw (Ĺ (aE [("_law_person",none),("_law_book",À 3)] (dO (Ľ 9 "person_names" 0 ċ (mv 3) Ü)) (gN 0) j_ (Ľ 9 "hands_of" 1 Ś (mv 1) (Ê (mv 0) Ü)))) (Ĺ (cf (Ê (Ľ 9 "person_names" 0 ċ (mv 3) Ü) Ü)))) Ü))))
 (Ŭ (Ie (ę 2 (Ĉ 9) (Ê (ę 1 Ŷ (Ê (mv 3) Ü)) (Ê (ę 1 ar (Ê (mv 4) Ü)) Ü))))))))))
def vA:Á AV->S->R AV:=fe 5 Hg
def top (i:Nat):Stmt:=Tf.main.body.getD i (.Pass ⟨0,0,0,0⟩)
set_option hygiene false in
local macro_rules | `(tactic| walk_at "q") => `(tactic| first
 | ((with_reducible show PE _ _ (tE _ _ (mv _)));exact ZP (pv _))
 | ((with_reducible show PA _ (_ :: _) (tK _)); refine EO xs (by decide) ?_ <;> walk_at "q")
 | ((with_reducible show PA _ [] (tK _));exact ES)
 | ((with_reducible show PA _ (_ :: _) _); refine BG ?_ ?_ <;> walk_at "q")
 | ((with_reducible exact ET))
 | ((with_reducible exact QK))
 | ((with_reducible exact QS))
 | ((with_reducible exact QQ))
 | ((with_reducible exact VD))
 | ((with_reducible show(_:Nat)<=_);first|decide|lia)
 | ((with_reducible show PE _ _ (tE _ _ (mc _)));exact QO (by with_reducible assumption:Lg T mg _ _))
 | ((with_reducible show PE _ _ (tE _ _ (Û cw _ _))); refine vX (ZX rfl) ?_ ?_ <;> walk_at "q")
 | ((with_reducible show PE _ _ (tE _ _ (Û nY _ _))); refine vX (ZY) ?_ ?_ <;> walk_at "q")
 | ((with_reducible show PE _ _ (tE _ _ (Û sS _ _))); refine vX (V1) ?_ ?_ <;> walk_at "q")
 | ((with_reducible show PE _ _ (tE _ _ (Û kC _ _))); refine vX (oMod) ?_ ?_ <;> walk_at "q")
 | ((with_reducible show PE _ _ (tE _ _ (Û EN _ _))); refine vX (Z1) ?_ ?_ <;> walk_at "q")
 | ((with_reducible show PE _ _ (tE _ _ (ę _ _ Ü))); refine QD (by with_reducible assumption : gX P w T mg base _ _ _ _) (hr.mono ?_) (by first | with_reducible assumption | exact S8) <;> walk_at "q")
 | ((with_reducible show PE _ _ (tE _ _ (ę _ _ _))); refine VC (by with_reducible assumption : gX P w T mg base _ _ _ _) (hr.mono ?_) ?_ (by first | with_reducible assumption | exact S8) <;> walk_at "q")
 | ((with_reducible show PE _ _ (tE _ _ (cj (a8 FA) _))); refine QM xs (by with_reducible assumption : mg _ = none) (by with_reducible assumption : mg _ = none) ?_ <;> walk_at "q")
 | ((with_reducible show PE _ _ (tE _ _ (cj (a8 (pD _)) _))); refine QL xs (by decide) (by with_reducible assumption : mg _ = none) ?_ <;> walk_at "q")
 | ((with_reducible show PE _ _ (tE _ _ (cj (a8 (Fz _)) _))); refine MY xs (by decide) (by decide) (by with_reducible assumption : mg _ = none) ?_ ?_ <;> walk_at "q")
 | ((with_reducible show PA _ (_ :: _) (tK _)); refine EO xs (by decide) ?_ <;> walk_at "q")
 | ((with_reducible show PA _ [] (tK _));exact ES)
 | ((with_reducible show PE _ _ (tE _ _ (cj (bC _ _) _))); refine QH bk.cl (bk.na _ (by decide +kernel)) ?_ <;> walk_at "q")
 | ((with_reducible show PE _ _ (tE _ _ (Ľ _ _ _ _ _ Ü))); refine IU bk.cl (by with_reducible assumption : lB P w T mg base _ _ _ _ _) (hr.mono ?_) ?_ (by first | with_reducible assumption | exact S8) <;> walk_at "q")
 | ((with_reducible show PE _ _ (tE _ _ (Ľ _ _ _ _ _ _))); refine M3 bk.cl (by with_reducible assumption : lB P w T mg base _ _ _ _ _) (hr.mono ?_) ?_ ?_ (by first | with_reducible assumption | exact S8) <;> walk_at "q")
 | ((with_reducible show PE _ _ (tE _ _ (pR _ _))); refine IS (by with_reducible assumption : Tu P w T mg base _ _ _ _) (hr.mono ?_) (by first | with_reducible assumption | exact S8) <;> walk_at "q")
 | ((with_reducible show PS _ _ (tS _ _ (jQ _ _ _ _))); refine Q2 bk.cl (bk.na _ (by decide +kernel)) ?_ ?_ <;> walk_at "q")
 | ((with_reducible show PE _ _ (tE _ _ (yn _ _))); refine MV Bq ?_ ?_ <;> walk_at "q")
 | ((with_reducible show PE _ _ (tL _ _ (pK _))); refine Ja (by with_reducible assumption : mg _ = none) ?_ <;> walk_at "q")
 | ((with_reducible show PE _ _ (tL _ _ (vG _))); refine I_ (by with_reducible assumption : mg _ = none) ?_ <;> walk_at "q")
 | ((with_reducible show PI _ _ _ (tW _ _ (GG _))); refine M8 rfl (by with_reducible assumption : mg _ = none) ?_ <;> walk_at "q")
 | ((with_reducible show PE _ _ (tL _ _ (oi _))); refine Gb (by with_reducible assumption : mg _ = none) (bw (K0 (by decide : 2 <= 30) _) hu) ?_ <;> walk_at "q")
 | ((with_reducible show PE _ _ (tL _ _ (vF _))); refine I0 rfl (by with_reducible assumption : mg _ = none) ?_ <;> walk_at "q")
 | ((with_reducible show PE _ _ (tL _ _ (vE _ _ _))); refine IZ (by with_reducible assumption : mg _ = none) rfl hC ?_ <;> walk_at "q")
 | ((with_reducible show PE _ _ (tE _ _ (Û yv _ _))); refine mC (V3 rfl hu) ?_ ?_ <;> walk_at "q")
 | ((with_reducible show PT _ _ (lj _ _ (cB (Û yv _ _)))); refine jb (V3 rfl hu) ?_ ?_ <;> walk_at "q")
 | ((with_reducible show PG _ _ (tT _ _ (vH _ _))); refine M5 Bq ?_ ?_ <;> walk_at "q")
 | ((with_reducible exact Nn))
 | ((with_reducible show PS _ _ (tS _ _ (GZ _ _))); refine VU xs (by decide) (by first | with_reducible assumption | exact S8) ?_ <;> walk_at "q")
 | ((with_reducible show PS _ _ (tS _ _ (wm _ _ _ _ _))); refine VW xs (by decide) nd (fun _ _ _ _ => ?_) (fun _ => ?_) <;> walk_at "q")
 | ((with_reducible show PE _ _ (tE _ _ (Û Ŀ _ _))); refine VH (oIx rfl) ?_ ?_ <;> walk_at "q")
 | ((with_reducible show PE _ _ (tE _ _ (Û Ļ _ _))); refine MT Bq ?_ ?_ <;> walk_at "q")
 | ((with_reducible show PE _ _ (tE _ _ (gL _))); refine QT ?_ <;> walk_at "q")
 | ((with_reducible show PE _ _ (tE _ _ (Ĺ _))); refine QP ?_ <;> walk_at "q")
 | ((with_reducible show PE _ _ (tL _ _ (cf _))); refine QZ ?_ <;> walk_at "q")
 | ((with_reducible show PE _ _ (tE _ _ (Û cM _ _))); refine mC (oEq rfl hu) ?_ ?_ <;> walk_at "q")
 | ((with_reducible show PE _ _ (tE _ _ (Û oV _ _))); refine mC (ZZ rfl hu) ?_ ?_ <;> walk_at "q")
 | ((with_reducible show PE _ _ (tE _ _ (Û Jv _ _))); refine mC (oLt) ?_ ?_ <;> walk_at "q")
 | ((with_reducible show PE _ _ (tE _ _ (Û Dc _ _))); refine mC (oGt) ?_ ?_ <;> walk_at "q")
 | ((with_reducible show PE _ _ (tE _ _ (Û Gj _ _))); refine mC (oGe) ?_ ?_ <;> walk_at "q")
 | ((with_reducible show PE _ _ (tE _ _ (Û uc _ _))); refine mC (V2) ?_ ?_ <;> walk_at "q")
 | ((with_reducible show PE _ _ (tE _ _ (Û Dd _ _))); refine mC (oIn rfl) ?_ ?_ <;> walk_at "q")
 | ((with_reducible show PE _ _ (tE _ _ (Û rh _ _))); refine mC (V4 rfl) ?_ ?_ <;> walk_at "q")
 | ((with_reducible show PT _ _ (lj _ _ (cB (Û cM _ _)))); refine jb (oEq rfl hu) ?_ ?_ <;> walk_at "q")
 | ((with_reducible show PT _ _ (lj _ _ (cB (Û oV _ _)))); refine jb (ZZ rfl hu) ?_ ?_ <;> walk_at "q")
 | ((with_reducible show PT _ _ (lj _ _ (cB (Û Jv _ _)))); refine jb (oLt) ?_ ?_ <;> walk_at "q")
 | ((with_reducible show PT _ _ (lj _ _ (cB (Û Dc _ _)))); refine jb (oGt) ?_ ?_ <;> walk_at "q")
 | ((with_reducible show PT _ _ (lj _ _ (cB (Û Gj _ _)))); refine jb (oGe) ?_ ?_ <;> walk_at "q")
 | ((with_reducible show PT _ _ (lj _ _ (cB (Û uc _ _)))); refine jb (V2) ?_ ?_ <;> walk_at "q")
 | ((with_reducible show PT _ _ (lj _ _ (cB (Û Dd _ _)))); refine jb (oIn rfl) ?_ ?_ <;> walk_at "q")
 | ((with_reducible show PT _ _ (lj _ _ (cB (Û rh _ _)))); refine jb (V4 rfl) ?_ ?_ <;> walk_at "q")
 | ((with_reducible show PE _ _ (tE _ _ (Û rg _ _))); refine QG Bq ?_ ?_ <;> walk_at "q")
 | ((with_reducible show PT _ _ (lj _ _ (cB (Û rg _ _)))); refine RO Bq ?_ ?_ <;> walk_at "q")
 | ((with_reducible show PT _ _ (lj _ _ (cB (Û wa _ _)))); refine NU Bq ?_ ?_ <;> walk_at "q")
 | ((with_reducible refine Wq ?_) <;> walk_at "q")
 | ((with_reducible refine NV ?_) <;> walk_at "q")
 | ((with_reducible refine PW.pt (pw_and' ?_ ?_)) <;> walk_at "q")
 | ((with_reducible refine PW.pt (pw_or' ?_ ?_)) <;> walk_at "q")
 | ((with_reducible refine pw_and' ?_ ?_) <;> walk_at "q")
 | ((with_reducible refine pw_or' ?_ ?_) <;> walk_at "q")
 | ((with_reducible refine pw_and1' ?_) <;> walk_at "q")
 | ((with_reducible refine pw_or1' ?_) <;> walk_at "q")
 | ((with_reducible show PT _ _ (lj _ _ (cT _))); refine Z5 rfl ?_ <;> walk_at "q")
 | ((with_reducible refine QR ?_) <;> walk_at "q")
 | ((with_reducible show PE _ _ (tE _ _ (cj EM _))); refine VL Z0 ?_ <;> walk_at "q")
 | ((with_reducible refine QE ?_ ?_) <;> walk_at "q")
 | ((with_reducible refine VI ?_ ?_) <;> walk_at "q")
 | ((with_reducible show PE _ _ (tE _ _ (VB _ _ _))); refine VG ?_ ?_ ?_ <;> walk_at "q")
 | ((with_reducible exact VE))
 | ((with_reducible show PE _ _ (tE _ _ (gp _))); (with_reducible refine MU ?_ ?_ ?_ ?_ ?_); rotate_left; rfl; rfl; exact List.cons_ne_nil _ _; decide; walk_at "q")
 | ((with_reducible refine Jc ?_ ?_ ?_) <;> walk_at "q")
 | ((with_reducible exact Na))
 | ((with_reducible show PE _ _ (tE _ _ (AA _ _ _))); refine VJ rfl ?_ ?_ ?_ <;> walk_at "q")
 | ((with_reducible exact JT))
 | ((with_reducible refine JU ?_) <;> walk_at "q")
 | ((with_reducible refine VF ?_) <;> walk_at "q")
 | ((with_reducible refine QJ ?_) <;> walk_at "q")
 | ((with_reducible refine M' ?_) <;> walk_at "q")
 | ((with_reducible refine Q0 ?_) <;> walk_at "q")
 | ((with_reducible show PE _ _ (tE _ _ (vW _ _ _))); refine MW Bq ?_ ?_ ?_ <;> walk_at "q")
 | ((with_reducible show PE _ _ (tL _ _ (Ib "str" rj _ _))); refine QV rfl PySem.F.plainAttrs_str PySem.F.slot_str_split PySem.F.type_str_split PB ?_ ?_ <;> walk_at "q")
 | ((with_reducible show PE _ _ (tE _ _ (pS "list" Ż _ _))); refine IT rfl fw PySem.F.slot_list_append PySem.F.type_list_append L8 ?_ ?_ <;> walk_at "q")
 | ((with_reducible show PE _ _ (tE _ _ (yo "list" lK _))); refine EI rfl fw PySem.F.slot_list_reverse PySem.F.type_list_reverse HB ?_ <;> walk_at "q")
 | ((with_reducible show PE _ _ (tE _ _ (yo "list" yw _))); refine EI rfl fw B4 B7 UC ?_ <;> walk_at "q")
 | ((with_reducible show PE _ _ (tE _ _ (pS "list" yw _ _))); refine IT rfl fw B4 B7 UC ?_ ?_ <;> walk_at "q")
 | ((with_reducible show PE _ _ (tE _ _ (zM jP _))); refine QC (YM rfl) (by with_reducible assumption : mg _ = none) PySem.boot_len ?_ <;> walk_at "q")
 | ((with_reducible show PE _ _ (tE _ _ (zM yu _))); refine QC (cAbs) (by with_reducible assumption : mg _ = none) Ro.boot_abs ?_ <;> walk_at "q")
 | ((with_reducible show PE _ _ (tE _ _ (zM nW _))); refine QC (L3) (by with_reducible assumption : mg _ = none) Ro.boot_divmod ?_ <;> walk_at "q")
 | ((with_reducible show PE _ _ (tE _ _ (CL J9 _))); refine VO (YL rfl) (by with_reducible assumption : mg _ = none) Ro.boot_all ?_ <;> walk_at "q")
 | ((with_reducible show PE _ _ (tL _ _ (CL rm _))); refine VP (TN rfl) (by with_reducible assumption : mg _ = none) Ro.boot_list ?_ <;> walk_at "q")
 | ((with_reducible show PE _ _ (tE _ _ (CL sW _))); refine VP (Py rfl) (by with_reducible assumption : mg _ = none) Ro.boot_tuple ?_ <;> walk_at "q")
 | ((with_reducible show PE _ _ (tL _ _ (pJ _))); refine IX (by with_reducible assumption : mg _ = none) ?_ <;> walk_at "q")
 | ((with_reducible show PE _ _ (tL _ _ (vD _))); refine IY (by with_reducible assumption : mg _ = none) ?_ <;> walk_at "q")
 | ((with_reducible show PE _ _ (tE _ _ (cj (dN _) _))); refine QN rfl (by decide) (by with_reducible assumption : mg _ = none) (by with_reducible assumption : mg _ = none) (by first | exact Ro.boot_int | exact Ro.boot_bool | exact Ro.boot_list | exact Ro.boot_tuple | exact Ro.boot_str) ?_ <;> walk_at "q")
 | ((with_reducible show PE _ _ (tE _ _ (cj nX _))); refine QI rfl ?_ <;> walk_at "q")
 | ((with_reducible show PE _ _ (tE _ _ (mQ _))); refine M0 ?_ <;> walk_at "q")
 | ((with_reducible show PJ _ (_ :: _) (tJ _ _ (fP _ _))); refine M9 ?_ ?_ <;> walk_at "q")
 | ((with_reducible exact QY))
 | ((with_reducible show PE _ _ (tL _ _ (aE _ _ _ _ _))); refine M_ _ (eY.of rfl (by decide +kernel) (by decide +kernel) (by decide +kernel) (by repeat (first | exact trivial | refine ⟨⟨rfl, rfl, by first | exact .inl rfl | exact .inr rfl⟩, ?_⟩))) rfl ?_ (fun _ _ _ _ _ => ?_) (fun _ _ _ _ _ => ?_) (fun _ _ _ _ _ => ?_) <;> walk_at "q")
 | ((with_reducible exact JQ))
 | ((with_reducible refine JR ?_) <;> walk_at "q")
 | ((with_reducible show PI _ _ _ (tW _ _ (BO (Ê _ Ü)))); refine VQ (by with_reducible assumption : mg _ = none) ?_ <;> walk_at "q")
 | ((with_reducible show PI _ _ _ (tW _ _ (Ki _ _))); refine QX rfl (by with_reducible assumption : mg _ = none) ?_ ?_ <;> walk_at "q")
 | ((with_reducible show PI _ _ _ (tW _ _ (BN _))); refine ZQ rfl ?_ <;> walk_at "q")
 | ((with_reducible show PI _ _ _ (tW _ _ (dO _))); refine ZR rfl ?_ <;> walk_at "q")
 | ((with_reducible show PG _ _ (tT _ _ (gN _)));exact M4 (by first|exact nd|(show List.Nodup (_ :: _);decide +kernel)))
 | ((with_reducible show PG _ _ (tT _ _ (gT _ _))); refine QW rfl rfl ?_ <;> walk_at "q")
 | ((with_reducible show PG _ _ (tT _ _ (nH _ _))); refine M6 ?_ ?_ <;> walk_at "q")
 | ((with_reducible show DS _ (_ :: _) _); refine IV ?_ ?_ <;> walk_at "q")
 | ((with_reducible exact M7))
 | ((with_reducible exact Nm))
 | ((with_reducible exact Rc))
 | ((with_reducible exact Np))
 | ((with_reducible refine Nl ?_ ?_) <;> walk_at "q")
 | ((with_reducible refine Rf ?_) <;> walk_at "q")
 | ((with_reducible show PS _ _ (tS _ _ (bL _ (Ĺ (aE _ _ _ _ _))))); refine C3 _ (eY.of rfl (by decide +kernel) (by decide +kernel) (by decide +kernel) (by repeat (first | exact trivial | refine ⟨⟨rfl, rfl, by first | exact .inl rfl | exact .inr rfl⟩, ?_⟩))) rfl nd ?_ (fun _ _ _ _ _ => ?_) (fun _ _ _ _ _ => ?_) (fun _ _ _ _ _ => ?_) <;> walk_at "q")
 | ((with_reducible show PS _ _ (tS _ _ (bL _ (gp _)))); (with_reducible refine Nf ?_ ?_ ?_ ?_ ?_); exact nd; rotate_left; rfl; exact GW rfl; exact GW rfl; walk_at "q")
 | ((with_reducible show PS _ _ (tS _ _ (bL _ _))); refine Jf nd ?_ <;> walk_at "q")
 | ((with_reducible show PS _ _ (tS _ _ (Ŭ _))); refine Q5 ?_ <;> walk_at "q")
 | ((with_reducible show PS _ _ (tS _ _ (lW _ _ _))); refine VT ?_ ?_ ?_ <;> walk_at "q")
 | ((with_reducible show PS _ _ (tS _ _ (au _))); refine Nc ?_ <;> walk_at "q")
 | ((with_reducible show PS _ _ (tS _ _ (Dy _ _ _))); refine Q3 (by first | exact Jz | exact GX) rfl ?_ ?_ ?_ <;> walk_at "q")
 | ((with_reducible show PS _ _ (tS _ _ (p0 _ _ _))); refine Q4 rfl nd ?_ <;> walk_at "q")
 | ((with_reducible show PS _ _ (tS _ _ (BK _ _ _ _))); refine Nd rfl nd ?_ <;> walk_at "q")
 | ((with_reducible show PS _ _ (tS _ _ (Dw _ _))); refine Q1 ?_ ?_ ?_ <;> walk_at "q")
 | ((with_reducible show PS _ _ (tS _ _ (rq _ _ _))); refine Nb Bq ?_ ?_ ?_ <;> walk_at "q")
 | ((with_reducible show PS _ _ (tS _ _ (wj _ _ _))); refine Jd Bq ?_ ?_ ?_ <;> walk_at "q")
 | ((with_reducible show PE _ _ (tE _ _ (IK))); exact QF <;> walk_at "q")
 | ((with_reducible show PT _ _ (lj _ _ (cB (ym _ _)))); refine NT Bq ?_ ?_ <;> walk_at "q")
 | ((with_reducible show PS _ _ (tS _ _ (N4 _ _ _))); refine Q7 _ (by first | exact Jz | exact GX) ?_ ?_ <;> walk_at "q")
 | ((with_reducible show nu _ _ (tS _ _ (ē _ _))); refine Jg ?_ ?_ <;> walk_at "q")
 | ((with_reducible show nu _ _ (tS _ _ ŭ));exact Ng)
 | (refine Nh ?_ <;> walk_at "q"))
local macro_rules | `(tactic| walk_at "b") => `(tactic| (intro _ _ _ _ _ _ us hl; first | (cases len0 hl; rfl) | (obtain ⟨_, e⟩ := Vs hl; subst e; rfl) | (obtain ⟨_, _, e⟩ := Vt hl; subst e; rfl) | (obtain ⟨_, _, _, e⟩ := Vu hl; subst e; rfl) | (obtain ⟨_, _, _, _, e⟩ := Vv hl; subst e; rfl) | (obtain ⟨_, _, _, _, _, e⟩ := Vw hl; subst e; rfl) | (obtain ⟨_, _, _, _, _, _, e⟩ := Vx hl; subst e; rfl) | (obtain ⟨_, _, _, _, _, _, _, e⟩ := Vy hl; subst e; rfl)))
set_option hygiene false in
local macro_rules | `(tactic| walk_at "g") => `(tactic| (intro hr nd ls; have Bq := O1 hr; have hu := Vb hr; walk_at "q"))
section
variable {P:Ą}{w:ğ}{T:Tx}{mg:Str->Ë Value}{base:Heap}(xs:Xs T mg)(bk:Bk T 9 ["keeps","rows","hands","makers","rates","half","money","debts"])
variable (cF:mg "ValueError"=none)
variable (wL:mg "abs"=none)
variable (wM:mg "all"=none)
variable (qb:mg "bool"=none)
variable (jV:mg "divmod"=none)
variable (du:mg "enumerate"=none)
variable (wN:mg "int"=none)
variable (ů:mg "isinstance"=none)
variable (fU:mg "len"=none)
variable (gQ:mg "list"=none)
variable (fV:mg "range"=none)
variable (Ű:mg "sorted"=none)
variable (wO:mg "str"=none)
variable (je:mg "tuple"=none)
variable (wQ:mg "zip"=none)
variable (ū:Lg T mg "FIRST_HALF_DAYS" bz)
variable (gO:Lg T mg "NOTHING" ow)
variable (lG:gX P w T mg base "by_days" 1 1 dM)
variable (iC:Tu P w T mg base 9 "Book" 1 ŵ)
variable (ŝ:lB P w T mg base 9 "need_person" 1 1 ü)
variable (cb:lB P w T mg base 9 "need_work" 1 1 ž)
variable (iF:lB P w T mg base 9 "has_name" 1 1 br)
variable (b_:lB P w T mg base 9 "need_free" 1 2 Ž)
variable (fM:lB P w T mg base 9 "add_person" 1 3 ũ)
variable (iD:lB P w T mg base 9 "add_work" 1 3 aF)
variable (aK:lB P w T mg base 9 "person_names" 0 1 ċ)
variable (fO:lB P w T mg base 9 "work_names" 0 1 aD)
variable (jF:lB P w T mg base 9 "rows_of" 1 2 bY)
variable (jD:lB P w T mg base 9 "hand_on" 4 2 aq)
variable (cK:lB P w T mg base 9 "hands_of" 1 2 Ś)
variable (iG:lB P w T mg base 9 "known_of" 1 2 bt)
variable (gK:lB P w T mg base 9 "rate_list" 0 1 aU)
variable (jE:lB P w T mg base 9 "keep_of" 1 2 bX)
variable (iH:lB P w T mg base 9 "put_half" 1 1 aG)
variable (gJ:lB P w T mg base 9 "half_days" 0 1 aT)
variable (fN:lB P w T mg base 9 "money_list" 0 2 aC)
variable (gI:lB P w T mg base 9 "debt_list" 0 2 aS)
variable (mn:gX P w T mg base "_law_begin" 1 1 dI)
variable (ĺ:gX P w T mg base "_law_take" 2 1 ė)
variable (g7:gX P w T mg base "_law_same" 2 10 (Ĉ 9))
variable (kU:gX P w T mg base "_law_lowest" 2 1 bJ)
variable (mr:gX P w T mg base "_law_names" 2 2 dJ)
variable (nJ:gX P w T mg base "_law_part" 1 2 fc)
variable (iI:gX P w T mg base "_law_in_order" 1 1 aH)
variable (iJ:gX P w T mg base "_law_names_of" 1 3 bu)
variable (sA:gX P w T mg base "_law_of" 2 2 gG)
variable (jG:gX P w T mg base "_law_any_day" 1 2 bZ)
variable (nI:gX P w T mg base "_law_deed" 3 3 e_)
variable (lF:gX P w T mg base "_law_do" 2 4 ſ)
variable (jK:gX P w T mg base "_law_refusal" 2 5 b9)
variable (mw:gX P w T mg base "_law_world" 0 1 cD)
variable (jI:gX P w T mg base "_law_due_way" 3 1 ŋ)
variable (jH:gX P w T mg base "_law_due" 2 2 Ū)
variable (cL:gX P w T mg base "_law_all_told" 1 3 Ŷ)
variable (dm:gX P w T mg base "_law_all_due" 1 2 ar)
variable (jJ:gX P w T mg base "_law_kind_of" 2 1 b8)
variable (kX:gX P w T mg base "_law_walked" 6 11 bK)
variable (mq:gX P w T mg base "_law_begun" 2 5 cC)
variable (kW:gX P w T mg base "_law_spoilt" 1 1 ah)
include xs bk Ű in
theorem C_ (_:Ts T mg "by_days" (top 14) 20):gX P w T mg base "by_days" 1 1 dM:=by
 unfold dM su
 refine PY (k:=0) ["rows"] (by with_reducible assumption) (ŗ rfl rfl rfl rfl (by decide +kernel)) (by walk_at "b") rfl λ _ _ _ _ _ _ _ hC=>?_
 walk_at "g"
include xs bk ū in
theorem sI (_:Tr T mg 9 "Book" "Book.__init__" (inClass (top 15) 0)):Tu P w T mg base 9 "Book" 1 ŵ:=by
 unfold ŵ h_
 refine PX (k:=0) ["self"] (by with_reducible assumption) (ŗ rfl rfl rfl rfl (by decide +kernel)) (by walk_at "b") rfl λ _ _ _ _ _ _ _=>?_
 walk_at "g"
include xs bk in
theorem oU (_:gh T 9 "need_person" "Book.need_person" (inClass (top 15) 1)):lB P w T mg base 9 "need_person" 1 1 ü:=by
 unfold ü cz
 refine cP (k:=0) ["self","name"] (by with_reducible assumption) (ŗ rfl rfl rfl rfl (by decide +kernel)) (by walk_at "b") rfl λ _ _ _ _ _ _ _=>?_
 walk_at "g"
include xs bk in
theorem ra (_:gh T 9 "need_work" "Book.need_work" (inClass (top 15) 2)):lB P w T mg base 9 "need_work" 1 1 ž:=by
 unfold ž gC
 refine cP (k:=0) ["self","name"] (by with_reducible assumption) (ŗ rfl rfl rfl rfl (by decide +kernel)) (by walk_at "b") rfl λ _ _ _ _ _ _ _=>?_
 walk_at "g"
include xs bk in
theorem sM (_:gh T 9 "has_name" "Book.has_name" (inClass (top 15) 3)):lB P w T mg base 9 "has_name" 1 1 br:=by
 unfold br il
 refine cP (k:=0) ["self","name"] (by with_reducible assumption) (ŗ rfl rfl rfl rfl (by decide +kernel)) (by walk_at "b") rfl λ _ _ _ _ _ _ _=>?_
 walk_at "g"
include xs bk iF in
theorem q_ (_:gh T 9 "need_free" "Book.need_free" (inClass (top 15) 4)):lB P w T mg base 9 "need_free" 1 2 Ž:=by
 unfold Ž gB
 refine cP (k:=1) ["self","name"] (by with_reducible assumption) (ŗ rfl rfl rfl rfl (by decide +kernel)) (by walk_at "b") rfl λ _ _ _ _ _ _ _=>?_
 walk_at "g"
include xs bk gO b_ in
theorem pT (_:gh T 9 "add_person" "Book.add_person" (inClass (top 15) 5)):lB P w T mg base 9 "add_person" 1 3 ũ:=by
 unfold ũ fH
 refine cP (k:=2) ["self","name"] (by with_reducible assumption) (ŗ rfl rfl rfl rfl (by decide +kernel)) (by walk_at "b") rfl λ _ _ _ _ _ _ _=>?_
 walk_at "g"
include xs bk b_ in
theorem sJ (_:gh T 9 "add_work" "Book.add_work" (inClass (top 15) 6)):lB P w T mg base 9 "add_work" 1 3 aF:=by
 unfold aF ie
 refine cP (k:=2) ["self","name"] (by with_reducible assumption) (ŗ rfl rfl rfl rfl (by decide +kernel)) (by walk_at "b") rfl λ _ _ _ _ _ _ _=>?_
 walk_at "g"
include xs bk Ű in
theorem nV (_:gh T 9 "person_names" "Book.person_names" (inClass (top 15) 7)):lB P w T mg base 9 "person_names" 0 1 ċ:=by
 unfold ċ dX
 refine cP (k:=0) ["self"] (by with_reducible assumption) (ŗ rfl rfl rfl rfl (by decide +kernel)) (by walk_at "b") rfl λ _ _ _ _ _ _ _=>?_
 walk_at "g"
include xs bk Ű in
theorem pV (_:gh T 9 "work_names" "Book.work_names" (inClass (top 15) 8)):lB P w T mg base 9 "work_names" 0 1 aD:=by
 unfold aD fJ
 refine cP (k:=0) ["self"] (by with_reducible assumption) (ŗ rfl rfl rfl rfl (by decide +kernel)) (by walk_at "b") rfl λ _ _ _ _ _ _ _=>?_
 walk_at "g"
include xs bk cb in
theorem uz (_:gh T 9 "rows_of" "Book.rows_of" (inClass (top 15) 10)):lB P w T mg base 9 "rows_of" 1 2 bY:=by
 unfold bY jq
 refine cP (k:=1) ["self","work"] (by with_reducible assumption) (ŗ rfl rfl rfl rfl (by decide +kernel)) (by walk_at "b") rfl λ _ _ _ _ _ _ _=>?_
 walk_at "g"
include xs bk ŝ in
theorem ux (_:gh T 9 "hand_on" "Book.hand_on" (inClass (top 15) 11)):lB P w T mg base 9 "hand_on" 4 2 aq:=by
 unfold aq jn
 refine cP (k:=1) ["self","person","day","name","part"] (by with_reducible assumption) (ŗ rfl rfl rfl rfl (by decide +kernel)) (by walk_at "b") rfl λ _ _ _ _ _ _ _=>?_
 walk_at "g"
include xs bk Ű ŝ in
theorem sL (_:gh T 9 "hands_of" "Book.hands_of" (inClass (top 15) 12)):lB P w T mg base 9 "hands_of" 1 2 Ś:=by
 unfold Ś ij
 refine cP (k:=1) ["self","person"] (by with_reducible assumption) (ŗ rfl rfl rfl rfl (by decide +kernel)) (by walk_at "b") rfl λ _ _ _ _ _ _ _=>?_
 walk_at "g"
include xs bk cb in
theorem sN (_:gh T 9 "known_of" "Book.known_of" (inClass (top 15) 14)):lB P w T mg base 9 "known_of" 1 2 bt:=by
 unfold bt iq
 refine cP (k:=1) ["self","work"] (by with_reducible assumption) (ŗ rfl rfl rfl rfl (by decide +kernel)) (by walk_at "b") rfl λ _ _ _ _ _ _ _=>?_
 walk_at "g"
include xs bk Ű in
theorem rb (_:gh T 9 "rate_list" "Book.rate_list" (inClass (top 15) 17)):lB P w T mg base 9 "rate_list" 0 1 aU:=by
 unfold aU gD
 refine cP (k:=0) ["self"] (by with_reducible assumption) (ŗ rfl rfl rfl rfl (by decide +kernel)) (by walk_at "b") rfl λ _ _ _ _ _ _ _=>?_
 walk_at "g"
include xs bk ŝ in
theorem uy (_:gh T 9 "keep_of" "Book.keep_of" (inClass (top 15) 19)):lB P w T mg base 9 "keep_of" 1 2 bX:=by
 unfold bX jo
 refine cP (k:=1) ["self","person"] (by with_reducible assumption) (ŗ rfl rfl rfl rfl (by decide +kernel)) (by walk_at "b") rfl λ _ _ _ _ _ _ _=>?_
 walk_at "g"
include xs bk in
theorem sO (_:gh T 9 "put_half" "Book.put_half" (inClass (top 15) 20)):lB P w T mg base 9 "put_half" 1 1 aG:=by
 unfold aG iu
 refine cP (k:=0) ["self","days"] (by with_reducible assumption) (ŗ rfl rfl rfl rfl (by decide +kernel)) (by walk_at "b") rfl λ _ _ _ _ _ _ _=>?_
 walk_at "g"
include xs bk in
theorem qZ (_:gh T 9 "half_days" "Book.half_days" (inClass (top 15) 21)):lB P w T mg base 9 "half_days" 0 1 aT:=by
 unfold aT gA
 refine cP (k:=0) ["self"] (by with_reducible assumption) (ŗ rfl rfl rfl rfl (by decide +kernel)) (by walk_at "b") rfl λ _ _ _ _ _ _ _=>?_
 walk_at "g"
include xs bk lG in
theorem pU (_:gh T 9 "money_list" "Book.money_list" (inClass (top 15) 24)):lB P w T mg base 9 "money_list" 0 2 aC:=by
 unfold aC fI
 refine cP (k:=1) ["self"] (by with_reducible assumption) (ŗ rfl rfl rfl rfl (by decide +kernel)) (by walk_at "b") rfl λ _ _ _ _ _ _ _=>?_
 walk_at "g"
include xs bk lG in
theorem qY (_:gh T 9 "debt_list" "Book.debt_list" (inClass (top 15) 26)):lB P w T mg base 9 "debt_list" 0 2 aS:=by
 unfold aS gz
 refine cP (k:=1) ["self"] (by with_reducible assumption) (ŗ rfl rfl rfl rfl (by decide +kernel)) (by walk_at "b") rfl λ _ _ _ _ _ _ _=>?_
 walk_at "g"
include xs bk gQ in
theorem xu (_:Df T mg "_law_begin" (top 17)):gX P w T mg base "_law_begin" 1 1 dI:=by
 unfold dI md
 refine bc (k:=0) ["_law_script","_law_cells"] (by with_reducible assumption) (ŗ rfl rfl rfl rfl (by decide +kernel)) (by walk_at "b") rfl λ _ _ _ _ _ _ _=>?_
 walk_at "g"
include xs bk jV fU in
theorem zS (_:Df T mg "_law_take" (top 18)):gX P w T mg base "_law_take" 2 1 ė:=by
 unfold ė nB
 refine bc (k:=0) ["_law_state","_law_many","_law_turn","_law_place","_law_cell","_law_mixed","_law_digit"] (by with_reducible assumption) (ŗ rfl rfl rfl rfl (by decide +kernel)) (by walk_at "b") rfl λ _ _ _ _ _ _ _=>?_
 walk_at "g"
include xs bk wM qb wN ů fU gQ wO je wQ in
theorem zR (_:Df T mg "_law_same" (top 19)):∀ n:Nat,gX P w T mg base "_law_same" 2 (n+1) (Ĉ n):=by
 intro n;induction n with
 | zero=>exact Mj ["_law_found","_law_due_here"] (by with_reducible assumption) rfl (by walk_at "b")
 | succ n ih=>
  unfold Ĉ di
  refine bc (k:=n+1) ["_law_found","_law_due_here"] (by with_reducible assumption) (ŗ rfl rfl rfl rfl (by decide +kernel)) (by walk_at "b") rfl λ _ _ _ _ _ _ _=>?_
  walk_at "g"
include xs bk wL in
theorem v8 (_:Df T mg "_law_lowest" (top 20)):gX P w T mg base "_law_lowest" 2 1 bJ:=by
 unfold bJ kK
 refine bc (k:=0) ["_law_top","_law_below","_law_sign","_law_one","_law_other"] (by with_reducible assumption) (ŗ rfl rfl rfl rfl (by decide +kernel)) (by walk_at "b") rfl λ _ _ _ _ _ _ _=>?_
 walk_at "g"
include xs bk fU fV ĺ in
theorem xy (_:Df T mg "_law_names" (top 21)):gX P w T mg base "_law_names" 2 2 dJ:=by
 unfold dJ mi
 refine bc (k:=1) ["_law_state","_law_many","_law_some"] (by with_reducible assumption) (ŗ rfl rfl rfl rfl (by decide +kernel)) (by walk_at "b") rfl λ _ _ _ _ _ _ _=>?_
 walk_at "g"
include xs bk ĺ kU in
theorem zQ (_:Df T mg "_law_part" (top 22)):gX P w T mg base "_law_part" 1 2 fc:=by
 unfold fc nA
 refine bc (k:=1) ["_law_state","_law_below"] (by with_reducible assumption) (ŗ rfl rfl rfl rfl (by decide +kernel)) (by walk_at "b") rfl λ _ _ _ _ _ _ _=>?_
 walk_at "g"
include xs bk du Ű in
theorem sQ (_:Df T mg "_law_in_order" (top 23)):gX P w T mg base "_law_in_order" 1 1 aH:=by
 unfold aH iz
 refine bc (k:=0) ["_law_some"] (by with_reducible assumption) (ŗ rfl rfl rfl rfl (by decide +kernel)) (by walk_at "b") rfl λ _ _ _ _ _ _ _=>?_
 walk_at "g"
include xs bk mr in
theorem sR (_:Df T mg "_law_names_of" (top 24)):gX P w T mg base "_law_names_of" 1 3 bu:=by
 unfold bu iB
 refine bc (k:=2) ["_law_state"] (by with_reducible assumption) (ŗ rfl rfl rfl rfl (by decide +kernel)) (by walk_at "b") rfl λ _ _ _ _ _ _ _=>?_
 walk_at "g"
include xs bk fU ĺ in
theorem C9 (_:Df T mg "_law_of" (top 25)):gX P w T mg base "_law_of" 2 2 gG:=by
 unfold gG sm
 refine bc (k:=1) ["_law_state","_law_some"] (by with_reducible assumption) (ŗ rfl rfl rfl rfl (by decide +kernel)) (by walk_at "b") rfl λ _ _ _ _ _ _ _=>?_
 walk_at "g"
include xs bk ĺ in
theorem uB (_:Df T mg "_law_any_day" (top 26)):gX P w T mg base "_law_any_day" 1 2 bZ:=by
 unfold bZ js
 refine bc (k:=1) ["_law_state"] (by with_reducible assumption) (ŗ rfl rfl rfl rfl (by decide +kernel)) (by walk_at "b") rfl λ _ _ _ _ _ _ _=>?_
 walk_at "g"
include xs bk ĺ nJ sA jG in
theorem zP (_:Df T mg "_law_deed" (top 27)):gX P w T mg base "_law_deed" 3 3 e_:=by
 unfold e_ nz
 refine bc (k:=2) ["_law_state","_law_names_here","_law_word","_law_one","_law_other","_law_day"] (by with_reducible assumption) (ŗ rfl rfl rfl rfl (by decide +kernel)) (by walk_at "b") rfl λ _ _ _ _ _ _ _=>?_
 walk_at "g"
include xs bk fM iD jD iH in
theorem C8 (_:Df T mg "_law_do" (top 28)):gX P w T mg base "_law_do" 2 4 ſ:=by
 unfold ſ eZ
 refine bc (k:=3) ["_law_book","_law_deed_here","_law_word","_law_rest"] (by with_reducible assumption) (ŗ rfl rfl rfl rfl (by decide +kernel)) (by walk_at "b") rfl λ _ _ _ _ _ _ _=>?_
 walk_at "g"
include xs bk cF ů fU fV lF in
theorem uE (_:Df T mg "_law_refusal" (top 29)):gX P w T mg base "_law_refusal" 2 5 b9:=by
 unfold b9 ju
 refine bc (k:=4) ["_law_book","_law_deed_here","_law_caught","_law_told","_law_words","error"] (by with_reducible assumption) (ŗ rfl rfl rfl rfl (by decide +kernel)) (by walk_at "b") rfl λ _ _ _ _ _ _ _=>?_
 walk_at "g"
include xs bk in
theorem xA (_:Df T mg "_law_world" (top 30)):gX P w T mg base "_law_world" 0 1 cD:=by
 unfold cD mj
 refine bc (k:=0) ["_law_found"] (by with_reducible assumption) (ŗ rfl rfl rfl rfl (by decide +kernel)) (by walk_at "b") rfl λ _ _ _ _ _ _ _=>?_
 walk_at "g"
include xs bk je in
theorem uC (_:Df T mg "_law_due_way" (top 32)):gX P w T mg base "_law_due_way" 3 1 ŋ:=by
 unfold ŋ dh
 refine bc (k:=0) ["_law_world_here","_law_word","_law_rest","_law_people"] (by with_reducible assumption) (ŗ rfl rfl rfl rfl (by decide +kernel)) (by walk_at "b") rfl λ _ _ _ _ _ _ _=>?_
 walk_at "g"
include xs bk gQ jI in
theorem BF (_:Df T mg "_law_due" (top 31)):gX P w T mg base "_law_due" 2 2 Ū:=by
 unfold Ū gF
 refine bc (k:=1) ["_law_world_here","_law_deed_here","_law_word","_law_rest","_law_people","_law_works"] (by with_reducible assumption) (ŗ rfl rfl rfl rfl (by decide +kernel)) (by walk_at "b") rfl λ _ _ _ _ _ _ _=>?_
 walk_at "g"
include xs bk aK fO jF cK iG gK jE gJ fN gI in
theorem sP (_:Df T mg "_law_all_told" (top 33)):gX P w T mg base "_law_all_told" 1 3 Ŷ:=by
 unfold Ŷ iy
 refine bc (k:=2) ["_law_book","_law_found","_law_works","_law_people"] (by with_reducible assumption) (ŗ rfl rfl rfl rfl (by decide +kernel)) (by walk_at "b") rfl λ _ _ _ _ _ _ _=>?_
 walk_at "g"
include xs bk Ű iI in
theorem uA (_:Df T mg "_law_all_due" (top 34)):gX P w T mg base "_law_all_due" 1 2 ar:=by
 unfold ar jr
 refine bc (k:=1) ["_law_world_here","_law_found","_law_works","_law_people"] (by with_reducible assumption) (ŗ rfl rfl rfl rfl (by decide +kernel)) (by walk_at "b") rfl λ _ _ _ _ _ _ _=>?_
 walk_at "g"
include xs bk fU in
theorem uD (_:Df T mg "_law_kind_of" (top 35)):gX P w T mg base "_law_kind_of" 2 1 b8:=by
 unfold b8 jt
 refine bc (k:=0) ["_law_world_here","_law_word","_law_some","_law_most"] (by with_reducible assumption) (ŗ rfl rfl rfl rfl (by decide +kernel)) (by walk_at "b") rfl λ _ _ _ _ _ _ _=>?_
 walk_at "g"
include xs bk fU fV ĺ g7 nI jK jH cL dm jJ in
theorem v_ (_:Df T mg "_law_walked" (top 36)):gX P w T mg base "_law_walked" 6 11 bK:=by
 unfold bK kM
 refine bc (k:=10) ["_law_state","_law_book","_law_world_here","_law_names_here","_law_words","_law_many","_law_turn","_law_deed_here","_law_due_here"] (by with_reducible assumption) (ŗ rfl rfl rfl rfl (by decide +kernel)) (by walk_at "b") rfl λ _ _ _ _ _ _ _=>?_
 walk_at "g"
include xs bk iC ĺ lF mw jH in
theorem xx (_:Df T mg "_law_begun" (top 37)):gX P w T mg base "_law_begun" 2 5 cC:=by
 unfold cC mf
 refine bc (k:=4) ["_law_state","_law_names_here","_law_name","_law_book","_law_world_here","_law_deed_here"] (by with_reducible assumption) (ŗ rfl rfl rfl rfl (by decide +kernel)) (by walk_at "b") rfl λ _ _ _ _ _ _ _=>?_
 walk_at "g"
include xs bk ů gQ in
theorem v9 (_:Df T mg "_law_spoilt" (top 38)):gX P w T mg base "_law_spoilt" 1 1 ah:=by
 unfold ah kL
 refine bc (k:=0) ["_law_found","_law_one"] (by with_reducible assumption) (ŗ rfl rfl rfl rfl (by decide +kernel)) (by walk_at "b") rfl λ _ _ _ _ _ _ _=>?_
 walk_at "g"
include xs bk aK cK mn ĺ g7 iJ cL dm kX mq kW in
theorem Rb {f:Addr}{fd:cW}(F:Ha T.K "law" "law" (top 39) f fd):hX P w T.K mg base (sk P w) 12 f fd ["_law_script"] (Cf T 1 vA):=by
 unfold vA Hg
 have S:i4 ["_law_script","_law_state","_law_names_here","_law_book","_law_world_here"] ["_law_script"] (Ċ (top 39)):=(ŗ rfl rfl rfl rfl (by decide +kernel))
 refine zy (k:=11) F S λ dH A outer s H E hr=>?_
 have nd:=S.nd
 have ls:Ls T (m5 (sk P w) P w T.K mg base ["_law_script","_law_state","_law_names_here","_law_book","_law_world_here"] "law" (Ċ (top 39)) f dH A outer s H E) (oO T E):=By
 have Bq:=O1 hr;have hu:=Vb hr;walk_at "q"
end
theorem Pw {P:Ą}{w:ğ}{T:Tx}{mg:Str->Ë Value}{base:Heap}(xs:Xs T mg)(bk:Bk T 9 ["keeps","rows","hands","makers","rates","half","money","debts"])(cF:mg "ValueError"=none)(wL:mg "abs"=none)(wM:mg "all"=none)(qb:mg "bool"=none)(jV:mg "divmod"=none)(du:mg "enumerate"=none)(wN:mg "int"=none)(ů:mg "isinstance"=none)(fU:mg "len"=none)(gQ:mg "list"=none)(fV:mg "range"=none)(Ű:mg "sorted"=none)(wO:mg "str"=none)(je:mg "tuple"=none)(wQ:mg "zip"=none)(ū:Lg T mg "FIRST_HALF_DAYS" bz)(gO:Lg T mg "NOTHING" ow)(d0:Ts T mg "by_days" (top 14) 20) (d1:Tr T mg 9 "Book" "Book.__init__" (inClass (top 15) 0)) (d2:gh T 9 "need_person" "Book.need_person" (inClass (top 15) 1)) (d3:gh T 9 "need_work" "Book.need_work" (inClass (top 15) 2)) (d4:gh T 9 "has_name" "Book.has_name" (inClass (top 15) 3)) (d5:gh T 9 "need_free" "Book.need_free" (inClass (top 15) 4)) (d6:gh T 9 "add_person" "Book.add_person" (inClass (top 15) 5)) (d7:gh T 9 "add_work" "Book.add_work" (inClass (top 15) 6)) (d8:gh T 9 "person_names" "Book.person_names" (inClass (top 15) 7)) (d9:gh T 9 "work_names" "Book.work_names" (inClass (top 15) 8)) (TY:gh T 9 "rows_of" "Book.rows_of" (inClass (top 15) 10)) (TZ:gh T 9 "hand_on" "Book.hand_on" (inClass (top 15) 11)) (T3:gh T 9 "hands_of" "Book.hands_of" (inClass (top 15) 12)) (T4:gh T 9 "known_of" "Book.known_of" (inClass (top 15) 14)) (T5:gh T 9 "rate_list" "Book.rate_list" (inClass (top 15) 17)) (T6:gh T 9 "keep_of" "Book.keep_of" (inClass (top 15) 19)) (T7:gh T 9 "put_half" "Book.put_half" (inClass (top 15) 20)) (T9:gh T 9 "half_days" "Book.half_days" (inClass (top 15) 21)) (T_:gh T 9 "money_list" "Book.money_list" (inClass (top 15) 24)) (Ua:gh T 9 "debt_list" "Book.debt_list" (inClass (top 15) 26)) (Ub:Df T mg "_law_begin" (top 17)) (Uc:Df T mg "_law_take" (top 18)) (Ud:Df T mg "_law_same" (top 19)) (Ue:Df T mg "_law_lowest" (top 20)) (Ug:Df T mg "_law_names" (top 21)) (Uh:Df T mg "_law_part" (top 22)) (Ui:Df T mg "_law_in_order" (top 23)) (Uj:Df T mg "_law_names_of" (top 24)) (Uk:Df T mg "_law_of" (top 25)) (Ul:Df T mg "_law_any_day" (top 26)) (Um:Df T mg "_law_deed" (top 27)) (Uo:Df T mg "_law_do" (top 28)) (Uq:Df T mg "_law_refusal" (top 29)) (Ur:Df T mg "_law_world" (top 30)) (Us:Df T mg "_law_due_way" (top 32)) (Ut:Df T mg "_law_due" (top 31)) (Uu:Df T mg "_law_all_told" (top 33)) (Uv:Df T mg "_law_all_due" (top 34)) (Uw:Df T mg "_law_kind_of" (top 35)) (Ux:Df T mg "_law_walked" (top 36)) (Uy:Df T mg "_law_begun" (top 37)) (Uz:Df T mg "_law_spoilt" (top 38)) (UA:Df T mg "law" (top 39)) {f:Addr}{fd:cW}(F:Ha T.K "law" "law" (top 39) f fd) :
  hX P w T.K mg base (sk P w) 12 f fd ["_law_script"] (Cf T 1 vA):=by
 have lG:=C_ (P:=P) (w:=w) (base:=base) xs bk Ű d0
 have iC:=sI (P:=P) (w:=w) (base:=base) xs bk ū d1
 have ŝ:=oU (P:=P) (w:=w) (base:=base) xs bk d2
 have cb:=ra (P:=P) (w:=w) (base:=base) xs bk d3
 have iF:=sM (P:=P) (w:=w) (base:=base) xs bk d4
 have b_:=q_ (P:=P) (w:=w) (base:=base) xs bk iF d5
 have fM:=pT (P:=P) (w:=w) (base:=base) xs bk gO b_ d6
 have iD:=sJ (P:=P) (w:=w) (base:=base) xs bk b_ d7
 have aK:=nV (P:=P) (w:=w) (base:=base) xs bk Ű d8
 have fO:=pV (P:=P) (w:=w) (base:=base) xs bk Ű d9
 have jF:=uz (P:=P) (w:=w) (base:=base) xs bk cb TY
 have jD:=ux (P:=P) (w:=w) (base:=base) xs bk ŝ TZ
 have cK:=sL (P:=P) (w:=w) (base:=base) xs bk Ű ŝ T3
 have iG:=sN (P:=P) (w:=w) (base:=base) xs bk cb T4
 have gK:=rb (P:=P) (w:=w) (base:=base) xs bk Ű T5
 have jE:=uy (P:=P) (w:=w) (base:=base) xs bk ŝ T6
 have iH:=sO (P:=P) (w:=w) (base:=base) xs bk T7
 have gJ:=qZ (P:=P) (w:=w) (base:=base) xs bk T9
 have fN:=pU (P:=P) (w:=w) (base:=base) xs bk lG T_
 have gI:=qY (P:=P) (w:=w) (base:=base) xs bk lG Ua
 have mn:=xu (P:=P) (w:=w) (base:=base) xs bk gQ Ub
 have ĺ:=zS (P:=P) (w:=w) (base:=base) xs bk jV fU Uc
 have g7:=zR (P:=P) (w:=w) (base:=base) xs bk wM qb wN ů fU gQ wO je wQ Ud 9
 have kU:=v8 (P:=P) (w:=w) (base:=base) xs bk wL Ue
 have mr:=xy (P:=P) (w:=w) (base:=base) xs bk fU fV ĺ Ug
 have nJ:=zQ (P:=P) (w:=w) (base:=base) xs bk ĺ kU Uh
 have iI:=sQ (P:=P) (w:=w) (base:=base) xs bk du Ű Ui
 have iJ:=sR (P:=P) (w:=w) (base:=base) xs bk mr Uj
 have sA:=C9 (P:=P) (w:=w) (base:=base) xs bk fU ĺ Uk
 have jG:=uB (P:=P) (w:=w) (base:=base) xs bk ĺ Ul
 have nI:=zP (P:=P) (w:=w) (base:=base) xs bk ĺ nJ sA jG Um
 have lF:=C8 (P:=P) (w:=w) (base:=base) xs bk fM iD jD iH Uo
 have jK:=uE (P:=P) (w:=w) (base:=base) xs bk cF ů fU fV lF Uq
 have mw:=xA (P:=P) (w:=w) (base:=base) xs bk Ur
 have jI:=uC (P:=P) (w:=w) (base:=base) xs bk je Us
 have jH:=BF (P:=P) (w:=w) (base:=base) xs bk gQ jI Ut
 have cL:=sP (P:=P) (w:=w) (base:=base) xs bk aK fO jF cK iG gK jE gJ fN gI Uu
 have dm:=uA (P:=P) (w:=w) (base:=base) xs bk Ű iI Uv
 have jJ:=uD (P:=P) (w:=w) (base:=base) xs bk fU Uw
 have kX:=v_ (P:=P) (w:=w) (base:=base) xs bk fU fV ĺ g7 nI jK jH cL dm jJ Ux
 have mq:=xx (P:=P) (w:=w) (base:=base) xs bk iC ĺ lF mw jH Uy
 have kW:=v9 (P:=P) (w:=w) (base:=base) xs bk ů gQ Uz
 exact Rb xs bk aK cK mn ĺ g7 iJ cL dm kX mq kW F
theorem PV {l:ni}{w:ğ}{K:É}{h:Heap}{mg:Str->Ë Value}{fa c0 c1 c2 c3 c4 c5 c6 c7 c8 cB t0:Addr}{i7 i8:Ë Value}(X:K.In h)(G:h.Ns mainGlobals mg)(Zc:mg "law"=À (.ref fa)) (x0:zc K mg c0 "RoyalError" uM none)(x1:zc K mg c1 "BadFraction" (.ref c0 :: uM) none) (x2:zc K mg c2 "Taken" (.ref c0 :: uM) none) (x3:zc K mg c3 "NoName" (.ref c0 :: uM) none) (x4:zc K mg c4 "TooMuch" (.ref c0 :: uM) none) (x5:zc K mg c5 "NoRate" (.ref c0 :: uM) none) (x6:zc K mg c6 "NoneLeft" (.ref c0 :: uM) none) (x7:zc K mg c7 "Endless" (.ref c0 :: uM) i7) (x8:zc K mg c8 "BadRow" (.ref c0 :: uM) i8) (b:Xr K cB ["keeps","rows","hands","makers","rates","half","money","debts"])(cF:ď K mainGlobals "ValueError"=À none)(wL:ď K mainGlobals "abs"=À none)(wM:ď K mainGlobals "all"=À none)(qb:ď K mainGlobals "bool"=À none)(jV:ď K mainGlobals "divmod"=À none)(du:ď K mainGlobals "enumerate"=À none)(wN:ď K mainGlobals "int"=À none)(ů:ď K mainGlobals "isinstance"=À none)(fU:ď K mainGlobals "len"=À none)(gQ:ď K mainGlobals "list"=À none)(fV:ď K mainGlobals "range"=À none)(Ű:ď K mainGlobals "sorted"=À none)(wO:ď K mainGlobals "str"=À none)(je:ď K mainGlobals "tuple"=À none)(wQ:ď K mainGlobals "zip"=À none)(ū:Lg ⟨K,aX [c0,c1,c2,c3,c4,c5,c6,c7,c8,cB] [t0]⟩ mg "FIRST_HALF_DAYS" bz)(gO:Lg ⟨K,aX [c0,c1,c2,c3,c4,c5,c6,c7,c8,cB] [t0]⟩ mg "NOTHING" ow)(d0:Ts ⟨K,aX [c0,c1,c2,c3,c4,c5,c6,c7,c8,cB] [t0]⟩ mg "by_days" (top 14) 20) (d1:Tr ⟨K,aX [c0,c1,c2,c3,c4,c5,c6,c7,c8,cB] [t0]⟩ mg 9 "Book" "Book.__init__" (inClass (top 15) 0)) (d2:gh ⟨K,aX [c0,c1,c2,c3,c4,c5,c6,c7,c8,cB] [t0]⟩ 9 "need_person" "Book.need_person" (inClass (top 15) 1)) (d3:gh ⟨K,aX [c0,c1,c2,c3,c4,c5,c6,c7,c8,cB] [t0]⟩ 9 "need_work" "Book.need_work" (inClass (top 15) 2)) (d4:gh ⟨K,aX [c0,c1,c2,c3,c4,c5,c6,c7,c8,cB] [t0]⟩ 9 "has_name" "Book.has_name" (inClass (top 15) 3)) (d5:gh ⟨K,aX [c0,c1,c2,c3,c4,c5,c6,c7,c8,cB] [t0]⟩ 9 "need_free" "Book.need_free" (inClass (top 15) 4)) (d6:gh ⟨K,aX [c0,c1,c2,c3,c4,c5,c6,c7,c8,cB] [t0]⟩ 9 "add_person" "Book.add_person" (inClass (top 15) 5)) (d7:gh ⟨K,aX [c0,c1,c2,c3,c4,c5,c6,c7,c8,cB] [t0]⟩ 9 "add_work" "Book.add_work" (inClass (top 15) 6)) (d8:gh ⟨K,aX [c0,c1,c2,c3,c4,c5,c6,c7,c8,cB] [t0]⟩ 9 "person_names" "Book.person_names" (inClass (top 15) 7)) (d9:gh ⟨K,aX [c0,c1,c2,c3,c4,c5,c6,c7,c8,cB] [t0]⟩ 9 "work_names" "Book.work_names" (inClass (top 15) 8)) (TY:gh ⟨K,aX [c0,c1,c2,c3,c4,c5,c6,c7,c8,cB] [t0]⟩ 9 "rows_of" "Book.rows_of" (inClass (top 15) 10)) (TZ:gh ⟨K,aX [c0,c1,c2,c3,c4,c5,c6,c7,c8,cB] [t0]⟩ 9 "hand_on" "Book.hand_on" (inClass (top 15) 11)) (T3:gh ⟨K,aX [c0,c1,c2,c3,c4,c5,c6,c7,c8,cB] [t0]⟩ 9 "hands_of" "Book.hands_of" (inClass (top 15) 12)) (T4:gh ⟨K,aX [c0,c1,c2,c3,c4,c5,c6,c7,c8,cB] [t0]⟩ 9 "known_of" "Book.known_of" (inClass (top 15) 14)) (T5:gh ⟨K,aX [c0,c1,c2,c3,c4,c5,c6,c7,c8,cB] [t0]⟩ 9 "rate_list" "Book.rate_list" (inClass (top 15) 17)) (T6:gh ⟨K,aX [c0,c1,c2,c3,c4,c5,c6,c7,c8,cB] [t0]⟩ 9 "keep_of" "Book.keep_of" (inClass (top 15) 19)) (T7:gh ⟨K,aX [c0,c1,c2,c3,c4,c5,c6,c7,c8,cB] [t0]⟩ 9 "put_half" "Book.put_half" (inClass (top 15) 20)) (T9:gh ⟨K,aX [c0,c1,c2,c3,c4,c5,c6,c7,c8,cB] [t0]⟩ 9 "half_days" "Book.half_days" (inClass (top 15) 21)) (T_:gh ⟨K,aX [c0,c1,c2,c3,c4,c5,c6,c7,c8,cB] [t0]⟩ 9 "money_list" "Book.money_list" (inClass (top 15) 24)) (Ua:gh ⟨K,aX [c0,c1,c2,c3,c4,c5,c6,c7,c8,cB] [t0]⟩ 9 "debt_list" "Book.debt_list" (inClass (top 15) 26)) (Ub:Df ⟨K,aX [c0,c1,c2,c3,c4,c5,c6,c7,c8,cB] [t0]⟩ mg "_law_begin" (top 17)) (Uc:Df ⟨K,aX [c0,c1,c2,c3,c4,c5,c6,c7,c8,cB] [t0]⟩ mg "_law_take" (top 18)) (Ud:Df ⟨K,aX [c0,c1,c2,c3,c4,c5,c6,c7,c8,cB] [t0]⟩ mg "_law_same" (top 19)) (Ue:Df ⟨K,aX [c0,c1,c2,c3,c4,c5,c6,c7,c8,cB] [t0]⟩ mg "_law_lowest" (top 20)) (Ug:Df ⟨K,aX [c0,c1,c2,c3,c4,c5,c6,c7,c8,cB] [t0]⟩ mg "_law_names" (top 21)) (Uh:Df ⟨K,aX [c0,c1,c2,c3,c4,c5,c6,c7,c8,cB] [t0]⟩ mg "_law_part" (top 22)) (Ui:Df ⟨K,aX [c0,c1,c2,c3,c4,c5,c6,c7,c8,cB] [t0]⟩ mg "_law_in_order" (top 23)) (Uj:Df ⟨K,aX [c0,c1,c2,c3,c4,c5,c6,c7,c8,cB] [t0]⟩ mg "_law_names_of" (top 24)) (Uk:Df ⟨K,aX [c0,c1,c2,c3,c4,c5,c6,c7,c8,cB] [t0]⟩ mg "_law_of" (top 25)) (Ul:Df ⟨K,aX [c0,c1,c2,c3,c4,c5,c6,c7,c8,cB] [t0]⟩ mg "_law_any_day" (top 26)) (Um:Df ⟨K,aX [c0,c1,c2,c3,c4,c5,c6,c7,c8,cB] [t0]⟩ mg "_law_deed" (top 27)) (Uo:Df ⟨K,aX [c0,c1,c2,c3,c4,c5,c6,c7,c8,cB] [t0]⟩ mg "_law_do" (top 28)) (Uq:Df ⟨K,aX [c0,c1,c2,c3,c4,c5,c6,c7,c8,cB] [t0]⟩ mg "_law_refusal" (top 29)) (Ur:Df ⟨K,aX [c0,c1,c2,c3,c4,c5,c6,c7,c8,cB] [t0]⟩ mg "_law_world" (top 30)) (Us:Df ⟨K,aX [c0,c1,c2,c3,c4,c5,c6,c7,c8,cB] [t0]⟩ mg "_law_due_way" (top 32)) (Ut:Df ⟨K,aX [c0,c1,c2,c3,c4,c5,c6,c7,c8,cB] [t0]⟩ mg "_law_due" (top 31)) (Uu:Df ⟨K,aX [c0,c1,c2,c3,c4,c5,c6,c7,c8,cB] [t0]⟩ mg "_law_all_told" (top 33)) (Uv:Df ⟨K,aX [c0,c1,c2,c3,c4,c5,c6,c7,c8,cB] [t0]⟩ mg "_law_all_due" (top 34)) (Uw:Df ⟨K,aX [c0,c1,c2,c3,c4,c5,c6,c7,c8,cB] [t0]⟩ mg "_law_kind_of" (top 35)) (Ux:Df ⟨K,aX [c0,c1,c2,c3,c4,c5,c6,c7,c8,cB] [t0]⟩ mg "_law_walked" (top 36)) (Uy:Df ⟨K,aX [c0,c1,c2,c3,c4,c5,c6,c7,c8,cB] [t0]⟩ mg "_law_begun" (top 37)) (Uz:Df ⟨K,aX [c0,c1,c2,c3,c4,c5,c6,c7,c8,cB] [t0]⟩ mg "_law_spoilt" (top 38)) (UA:Df ⟨K,aX [c0,c1,c2,c3,c4,c5,c6,c7,c8,cB] [t0]⟩ mg "law" (top 39)):∃ fd:cW,(∀ (s:Ò) (v:Value),uG s fd ⟨[v],[]⟩ [("_law_script",v)])/\∀ base:Heap,K.In base->base.Ns mainGlobals mg->hX l.prog w K mg base (sk l.prog w) 12 fa fd ["_law_script"] (spT K [t0] [(20,"by_days.<locals>.<lambda>")] vA):=
 Mh Zc rfl UA (λ _ _ _ _ _ _ _ _=>.of_eq rfl) λ base f fd F=>Pw (W8 x0 x1 x2 x3 x4 x5 x6 x7 x8) (b.bk rfl) (ĉ X G cF) (ĉ X G wL) (ĉ X G wM) (ĉ X G qb) (ĉ X G jV) (ĉ X G du) (ĉ X G wN) (ĉ X G ů) (ĉ X G fU) (ĉ X G gQ) (ĉ X G fV) (ĉ X G Ű) (ĉ X G wO) (ĉ X G je) (ĉ X G wQ) ū gO d0 d1 d2 d3 d4 d5 d6 d7 d8 d9 TY TZ T3 T4 T5 T6 T7 T9 T_ Ua Ub Uc Ud Ue Ug Uh Ui Uj Uk Ul Um Uo Uq Ur Us Ut Uu Uv Uw Ux Uy Uz UA F
end Ro
namespace Ro
open PySem L2
end Ro
namespace L2
open PySem PySem.Spec PyProof.Rows
end L2
namespace Ro
open PySem L2
abbrev Fs:=Á (Int × Int)
def den:Fs->Int
 | []=>1
 | f :: r=>f.2 * den r
def num:Fs->Int
 | []=>0
 | f :: r=>f.1 * den r+f.2 * num r
def YD (fs:Fs):Prop:=∀ f∈fs,1<=f.2
theorem den_pos:∀ {fs:Fs},YD fs->1<=den fs
 | [],_=>by decide
 | f :: r,h=>by
  have h1:1<=f.2:=h f ģ
  have h2:=den_pos (fs:=r) λ g hg=>h g (õ _ hg)
  show 1<=f.2 * den r
  have:=Int.mul_pos (show 0 < f.2 by lia) (show 0 < den r by lia)
  lia
abbrev ig (a b:Int):Int:=((ŏ a b:Nat):Int)
open Mm
def fq (q:Rat):AV:=.tup [.int q.num,.int q.den]
theorem NZ (q:Rat):ŏ q.num (q.den:Int)=1:=q.reduced
theorem N0 (q:Rat):(1:Int)<=(q.den:Int):=by have:=q.den_pos;lia
theorem H_ (h:b≠0):fr t b=((ŉ t b).num,((ŉ t b).den:Int)):=by
 refine Mp h (N0 _) (NZ _) ?_
 have e:=Rat.num_divInt_den (ŉ t b)
 have:=(Rat.divInt_eq_divInt_iff (by have:=(ŉ t b).den_pos;lia) h).mp e
 exact this
structure Sz (n:Nat)(q:Rat):Prop where
 a:fA n q.num
 b:fA n (q.den:Int)
theorem UL (h:b≠0)(ft:fA n t)(fb:fA n b):Sz n (ŉ t b):=by
 have e:=H_ (t:=t) h
 have e1:(fr t b).1=(ŉ t b).num:=by rw[e]
 have e2:(fr t b).2=((ŉ t b).den:Int):=by rw[e]
 have g:=P4 (t:=t) h
 refine⟨?_,?_⟩
 ·rw[<-e1]
  have h1:=P0 t b
  refine ft.le ?_
  have:t.natAbs=(fr t b).1.natAbs * (vI t b).natAbs:=by rw[<-qj,h1]
  rw[this]
  exact DM _ (by lia)
 ·rw[<-e2]
  have h1:=Mo t b
  refine fb.le ?_
  have:b.natAbs=(fr t b).2.natAbs * (vI t b).natAbs:=by rw[<-qj,h1]
  rw[this]
  exact DM _ (by lia)
theorem Cz (h:fA n i)(k:n<=60000000):Lf i:=⟨h.mono k⟩
theorem IW (h:fA n i)(k:n<=9000):Pn i:=⟨h.mono k⟩
theorem Mn {x y:Int}(hx:0<=x)(hy:0 < y):0<=x.fmod y/\x.fmod y < y:=by
 rw[ll _ (by lia)]
 exact⟨SG _ (by lia),LF _ hy⟩
theorem MH (hy:0 < y):ig y (x.fmod y)=ig x y:=by
 rw[ll _ (by lia)]
 show((ŏ y (x % y):Nat):Int)=((ŏ x y:Nat):Int)
 congr 1
 rw[Int.gcd_comm]
 have h1:=Int.emod_def x y
 rw[h1,Int.gcd_sub_mul_left_left]
theorem Qj (a b:Int):ig (if a < 0 then -a else a) (if b < 0 then -b else b)=ig a b:=by
 show((ŏ _ _:Nat):Int)=((ŏ a b:Nat):Int)
 congr 1
 split<;>split<;>simp[Int.gcd_neg,Int.neg_gcd]
theorem Vh (h:b≠0):ig a b≠0:=by have:=qI (t:=a) h;show((ŏ a b:Nat):Int)≠0;lia
theorem HS (h:b≠0)(f:fA n b):fA n (ig a b):=f.le (by
 show((ŏ a b:Nat):Int).natAbs<=_
 rw[Int.natAbs_natCast]
 exact Nat.le_of_dvd (by lia) (Int.gcd_dvd_natAbs_right a b))
theorem ħ (s:S)(xs:Á AV):ï (s++[.lst xs]) s.length=À xs:=by
 unfold ï;simp
end Ro
namespace Mm
open PySem L2
mutual
theorem AV.low.mono (h:b<=c):∀ {v:AV},v.low b=true->v.low c=true
 | .ref i,k=>by simp only[AV.low,eN]at k ⊢;lia
 | .tup xs,k=>by simp only[AV.low]at k ⊢;exact Ĩ.mono h k
 | .sq xs,k=>by simp only[AV.low]at k ⊢;exact Ĩ.mono h k
 | .Ē,_=>by simp only[AV.low]
 | .bl _,_=>by simp only[AV.low]
 | .int _,_=>by simp only[AV.low]
 | .str _,_=>by simp only[AV.low]
theorem Ĩ.mono (h:b<=c):∀ {l:Á AV},Ĩ b l=true->Ĩ c l=true
 | [],_=>by simp only[Ĩ]
 | v :: r,k=>by
  simp only[Ĩ,Č]at k ⊢
  exact⟨AV.low.mono h k.1,Ĩ.mono h k.2⟩
end
theorem AO.low.mono (h:b<=c){o:AO}(k:o.low b=true):o.low c=true:=by
 cases o<;>first|exact Ĩ.mono h k|rfl
def Cl (s:S):Prop:=s.all (AO.low s.length)=true
theorem Cl.add {s e:S}(h:Cl s)(k:e.all (AO.low (s.length+e.length))=true):Cl (s++e):=by
 unfold Cl at *
 rw[List.all_append,þ,k,dc]
 rw[ă]at h ⊢
 exact λ o ho=>AO.low.mono (by lia) (h o ho)
theorem Cl.set (h:Cl s)(k:o.low s.length=true):Cl (s.set i o):=by
 unfold Cl at *
 rw[aP]
 rw[ă]at h ⊢
 intro x hx
 rcases List.mem_or_eq_of_mem_set hx with hx|rfl
 ·exact h x hx
 ·exact k
theorem ā (h:ï s k=À xs):ï (s++e) k=À xs:=by
 have:=ć h
 refine bB ?_
 have hk:k < s.length:=(Æ.mp this).1
 rw[á hk];exact this
theorem Ht (h1:ï st i=À xs)(h2:ï st j=À ys)(hl:xs.length+ys.length<=sizeLine):cw (.ref i) (.ref j) st=.ok (.ref st.length) (st++[.lst (xs++ys)]):=by
 show(need (ï st i) λ xs=>need (ï st j) λ ys=>if xs.length+ys.length<=sizeLine then R.ok (AV.ref st.length) (st++[.lst (xs++ys)]) else .bad)=_
 rw[h1,ê,h2,ê,Ñ hl]
end Mm
namespace Ro
open PySem L2 Mm
end Ro
namespace Mm
open PySem L2
end Mm
namespace Ro
open PySem L2 Mm
theorem sX (l:Á Str):(ù l).length=l.length:=(jR l).length_eq
theorem Bw (A B C:Ë AV):∀ (n:Nat) (x y:Int) (s:S),0<=x->0<=y->y.natAbs < n->
  LB (cB (Û Dc (mv 4) (mc (.int 0)))) (p0 3 4 (Ê (mv 4) (Ê (Û kC (mv 3) (mv 4)) Ü))) n [A,B,C,À (.int x),À (.int y)] s=.nx [A,B,C,À (.int (ig x y)),À (.int 0)] s
 | 0,_,_,_,_,_,h=>absurd h (SH _)
 | n+1,x,y,s,hx,hy,h=>by
  unfold LB
  have e:cB (Û Dc (mv 4) (mc (.int 0))) [A,B,C,À (.int x),À (.int y)] s=.ok (decide (0 < y)) s:=rfl
  rw[e,fK]
  by_cases h0:y=0
  ·subst h0
   rw[Ö (by simp)]
   rw[show ig x 0=x by show((ŏ x 0:Nat):Int)=x;rw[Int.gcd_zero_right];lia]
  ·have Zz:0 < y:=by lia
   obtain⟨m1,m2⟩:=Mn hx Zz
   rw[Ñ (by simpa using Zz)]
   have e2:p0 3 4 (Ê (mv 4) (Ê (Û kC (mv 3) (mv 4)) Ü)) [A,B,C,À (.int x),À (.int y)] s=.nx [A,B,C,À (.int y),À (.int (x.fmod y))] s:=by
    have e3:kC (.int x) (.int y) s=.ok (.int (x.fmod y)) s:=Ñ h0
    show((kC (.int x) (.int y) s).bind _ |>.bind _).cu _=_
    rw[e3];rfl
   rw[e2]
   show LB _ _ n _ s=_
   rw[Bw A B C n y (x.fmod y) s hy m1 (by lia),MH Zz]
theorem Ia (A B C X:Ë AV)(y:Int):OQ [A,B,C,X,À (.int y)]=y.natAbs+1:=rfl
theorem F9 (s:S)(h:b≠0)(fb:fA 9000 b)(fa:fA 60000000 a):bJ [.int a,.int b] s=.ok (fq (ŉ a b)) s:=by
 have e:=(Qx a b h).trans (H_ (t:=a) h)
 have e1:((if b < 0 then -1 else 1) * a).fdiv (ig a b)=(ŉ a b).num:=ĵ Prod.fst e
 have e2:((if b < 0 then -1 else 1) * b).fdiv (ig a b)=((ŉ a b).den:Int):=ĵ Prod.snd e
 have g:=Vh (a:=a) h
 have fg:Pn (ig a b):=IW (HS h fb) (Ï _)
 have bs:∀ c:Prop,[ŷ c]->Lf (if c then -1 else 1):=λ c _=>by
  split
  ·exact Cz (n:=1) (by show(-1:Int).natAbs < 2 ^ 1;decide) (by decide)
  ·exact Cz (n:=1) (by show(1:Int).natAbs < 2 ^ 1;decide) (by decide)
 have bb:Lf b:=⟨fb.mono (by decide)⟩
 have ba:Lf a:=⟨fa⟩
 apply R.wp.eq
 unfold bJ kK
 simp only[↓WS,↓WE,↓WV,Lq,â,UU,Ç,↓Ô,↓Sy,Ia]
 rw[BY (Bw _ _ _ _ _ _ s (by split<;>lia) (by split<;>lia) (nq _)),Qj]
 walk_at "w"
 by_cases c:b < 0
 ·simp only[c,fE]at e1 e2 ⊢
  have b1:=bs True
  rw[Ñ trivial]at b1
  refine⟨⟨b1,ba⟩,⟨g,fg⟩,⟨b1,bb⟩,⟨g,fg⟩,?_⟩
  rw[e1,e2];rfl
 ·simp only[c,gy]at e1 e2 ⊢
  have b1:=bs False
  rw[Ö (λ z=>z)]at b1
  refine⟨⟨b1,ba⟩,⟨g,fg⟩,⟨b1,bb⟩,⟨g,fg⟩,?_⟩
  rw[e1,e2];rfl
end Ro
namespace Mm
open PySem L2
theorem wJ (a:Mt)(r:Lh)(v:AV)(w:Á AV)(env:En)(s:S)(N:En->S->Prop)(T:AV->S->Prop):(Ĳ a r (v :: w) env s).wp N T=(a v env s).wp (λ e s1=>(r w e s1).wp N T) T:=by
 show(match a v env s with|.nx e s1=>r w e s1|q=>q).wp N _=_
 cases a v env s<;>rfl
theorem Ky (o i:Ev)(v:AV)(env:En)(s:S)(N:En->S->Prop)(T:AV->S->Prop):(nH o i v env s).wp N T=(o env s).wp λ a s1=>(i env s1).wp λ b s2=>(match a,b with
 | .ref k,.int j=>match ï s2 k with
  | some xs=>match Ez xs.length j with
   | some n=>RS.nx env (s2.set k (.lst (xs.set n v)))
   | none=>.bad
  | none=>.bad
 | _,_=>.bad).wp N T:=by
 unfold nH;rw[aV];congr 1;funext a s1;rw[aV]
 try rfl
end Mm
namespace Ro
open PySem L2 Mm
theorem Vp:¬ ((.inr "cells":Key)=.inr "turn"):=λ z=>kne (lb z)
def xV (c:Nat)(t:Int):Á (Key × AV):=[(.inr "cells",.ref c),(.inr "turn",.int t)]
theorem HF (c:Nat)(t:Int):Ů (xV c t) (.inr "cells")=À (.ref c):=Ñ rfl
theorem Mc (c:Nat)(t:Int):Ů (xV c t) (.inr "turn")=À (.int t):=by
 unfold xV Ů
 rw[Ö Vp]
 exact Ñ rfl
theorem PU (c:Nat)(t u:Int):mF (xV c t) (.inr "turn") (.int u)=xV c u:=by
 unfold mF xV
 rw[Ñ (by simp)]
 simp only[Ó,bT,Ö Vp,fE]
structure Dr (c d n:Nat)(s:S):Prop where
 ex:∃ (t:Int) (cells:Á Int),s[d]? = À (.dK (xV c t))/\s[c]? = À (.lst (cells.map AV.int))/\cells≠[]/\0<=t/\t<=n
 cl:Cl s
structure Kp (c d:Nat)(s s':S):Prop where
 len:s'.length=s.length
 get:∀ i,i≠c->i≠d->s'[i]? = s[i]?
theorem Kp.trans (h:Kp c d s s')(k:Kp c d s' Dv):Kp c d s Dv:=⟨k.len.trans h.len,λ i h1 h2=>(k.get i h1 h2).trans (h.get i h1 h2)⟩
theorem Dr.mono (h:Dr c d n s)(k:n<=m):Dr c d m s:=by
 obtain⟨⟨t,cells,h1,h2,h3,h4,h5⟩,cl⟩:=h
 exact⟨⟨t,cells,h1,h2,h3,h4,by lia⟩,cl⟩
theorem Dr.ne (h:Dr c d n s):c≠d:=by
 obtain⟨⟨t,cells,h1,h2,_⟩,_⟩:=h
 rintro rfl
 rw[h1]at h2;cases h2
theorem Dr.Lx (h:Dr c d n s):c < s.length:=by
 obtain⟨⟨t,cells,h1,h2,_⟩,_⟩:=h
 exact(Æ.mp h2).1
theorem Dr.Ly (h:Dr c d n s):d < s.length:=by
 obtain⟨⟨t,cells,h1,h2,_⟩,_⟩:=h
 exact(Æ.mp h1).1
theorem Dr.app (h:Dr c d n s)(k:Cl (s++e)):Dr c d n (s++e):=by
 have l1:=h.Lx
 have l2:=h.Ly
 obtain⟨⟨t,cells,h1,h2,h3⟩,cl⟩:=h
 exact⟨⟨t,cells,by rw[á l2];exact h1,by rw[á l1];exact h2,h3⟩,k⟩
theorem Dr.set (h:Dr c d n s)(h1:i≠c)(h2:i≠d)(k:o.low s.length=true):Dr c d n (s.set i o):=by
 obtain⟨⟨t,cells,k1,k2,k3⟩,cl⟩:=h
 exact⟨⟨t,cells,by rw[ð h2];exact k1,by rw[ð h1];exact k2,k3⟩,cl.set k⟩
theorem low_ints (b:Nat):∀ l:Á Int,Ĩ b (l.map AV.int)=true
 | []=>by simp[Ĩ]
 | i :: r=>by simp only[Ó,Ĩ,low_ints b r];simp[AV.low]
theorem Mi {x m:Int}(h:0 < m)(k:m<=2147483648):fA 31 (x.fmod m):=by
 have h1:=oB x h
 have h2:=ue x h
 exact xX (by lia) (by lia)
theorem uv (h:0<=i)(k:i < 2 ^ n):fA n i:=xX (by lia) k
theorem Ol (D:Dr c d n s)(hn:n<=1000000000)(hk:0 < k)(fk:fA 9000 k) :
  (ė [.ref d,.int k] s).wp λ v s'=>∃ r,v=.int r/\0<=r/\r < k/\Dr c d (n+1) s'/\Kp c d s s':=by
 have lc:=D.Lx
 have ld:=D.Ly
 have ne:=D.ne
 obtain⟨⟨t,cells,h1,h2,h3,h4,h5⟩,cl⟩:=D
 have e0:j8 s d=À (xV c t):=by unfold j8;rw[h1]
 have g1:Ļ (.ref d) (.str "turn") s=.ok (.int t) s:=by
  show(need (j8 s d) λ kvs=>need (fR (.str "turn")) λ k=>need (Ů kvs k) λ v=>R.ok v s)=_
  rw[e0,ê]
  rw[show fR (.str "turn")=À (.inr "turn") from rfl,ê,Mc];rfl
 let s1:=s.set d (.dK (xV c (t+1)))
 have p1:∀ env,putD (.int (t+1)) (.ref d) (.str "turn") env s=.nx env s1:=λ env=>by
  show(match j8 s d,fR (.str "turn") with
   | some kvs,À k=>if kvs.length < sizeLine then RS.nx env (s.set d (.dK (mF kvs k (.int (t+1))))) else .bad
   | _,_=>.bad)=_
  rw[e0]
  show(if (xV c t).length < sizeLine then RS.nx env (s.set d (.dK (mF (xV c t) (.inr "turn") (.int (t+1))))) else .bad)=_
  rw[Ñ (ş (by show(2:Nat)<=1000;lia)),PU]
 have e1:s1[d]? = À (.dK (xV c (t+1))):=Ę ld
 have e2:s1[c]? = À (.lst (cells.map AV.int)):=by show(s.set d _)[c]? = _;rw[ð (Ŝ ne)];exact h2
 have l1:ï s1 c=À (cells.map AV.int):=bB e2
 have TU:Cl s1:=cl.set (by simp[AO.low,xV,Ĩ,AV.low,lc])
 have X2:Kp c d s s1:=⟨aP,λ i _ hi=>ð (Ŝ hi)⟩
 have g2:Ļ (.ref d) (.str "cells") s1=.ok (.ref c) s1:=by
  show(need (j8 s1 d) λ kvs=>need (fR (.str "cells")) λ k=>need (Ů kvs k) λ v=>R.ok v s1)=_
  rw[show j8 s1 d=À (xV c (t+1)) by unfold j8;rw[e1],ê]
  rw[show fR (.str "cells")=À (.inr "cells") from rfl,ê,HF];rfl
 have Cd:0 < cells.length:=List.length_pos_iff.mpr h3
 have lenE:jP [.ref c] s1=.ok (.int cells.length) s1:=by
  show(need (ï s1 c) λ xs=>R.ok (AV.int xs.length) s1)=_
  rw[l1,ê,Õ]
 have Az:(0:Int) < cells.length:=by lia
 have j0:=oB (t+1) Az
 have j1:=ue (t+1) Az
 obtain⟨j,ej⟩:∃ j:Nat,(t+1).fmod cells.length=j:=⟨((t+1).fmod cells.length).toNat,by lia⟩
 have hj:j < cells.length:=by lia
 have ix:l9 (cells.map AV.int) (j:Int)=À (.int cells[j]):=l_ (by rw[ì,Å hj];rfl)
 have ixn:Ez (cells.map AV.int).length (j:Int)=À j:=by
  unfold Ez
  rw[Õ,Ñ (by lia),Ñ (by lia)];rfl
 unfold ė nB
 have gE:Ŀ (.ref c) (.int j) s1=.ok (.int cells[j]) s1:=by
  show(need (ï s1 c) λ xs=>need (l9 xs j) λ v=>R.ok v s1)=_
  rw[l1,ê,ix];rfl
 have Zr:(10:Int) ^ (18:Int).toNat=1000000000000000000:=Z6
 have T1:fA 31 (t+1):=uv (by lia) (by lia)
 simp only[↓WS,↓WE,↓WV,Lq,â,UU,Ç,↓Ô,↓ĝ g1,↓BY (p1 _),↓ĝ g2,↓ĝ lenE,ej,↓ĝ gE,Zr]
 refine⟨by lia,⟨by lia,by lia,by decide⟩,?_⟩
 split
 ·simp only[↓WS,↓WE,↓WV,Lq,â,UU,Ç,↓Ô,↓wJ,↓Ky,↓ĝ g2,l1,ixn]
  refine⟨⟨hk,⟨fk⟩⟩,_,rfl,SG _ (by lia),LF _ hk,⟨⟨t+1,cells.set j (cells[j] / k),?_,?_,?_,by lia,by lia⟩,?_⟩,?_⟩
  ·rw[ð ne];exact e1
  ·rw[Ę (by show c < s1.length;rw[X2.len];exact lc),Xd]
  ·intro z
   have:=ĵ bS z
   rw[aP,aO]at this;lia
  ·refine TU.set ?_
   rw[<-Xd]
   exact low_ints _ _
  ·exact⟨by rw[aP];exact X2.len,λ i q1 q2=>by rw[ð (Ŝ q1)];exact X2.get i q1 q2⟩
 ·have F1:fA 31 (cells[j].fmod 2147483629):=Mi (by lia) (by lia)
  have c79:fA 13 (7919:Int):=uv (by lia) (by lia)
  have c48:fA 16 (48271:Int):=uv (by lia) (by lia)
  have SV:fA 17 (104729:Int):=uv (by lia) (by lia)
  have c39:fA 16 (39373:Int):=uv (by lia) (by lia)
  have F2:=T1.mul T1
  have F3:=F2.mul c79
  have F4:fA 76 (cells[j].fmod 2147483629+(t+1) * (t+1) * 7919):=fA.add (n:=75) (F1.mono (by lia)) (F3.mono (by lia))
  have F5:fA 77 (cells[j].fmod 2147483629+(t+1) * (t+1) * 7919+11):=fA.add F4 (uv (by lia) (by lia))
  have F6:∀ x:Int,fA 49 (x.fmod 2147483587+(t+1) * 104729):=λ x=>fA.add (n:=48) ((Mi (by lia) (by lia)).mono (by lia)) ((T1.mul SV).mono (by lia))
  have bg:∀ {n:Nat}{i:Int},fA n i->n<=100->Lf i:=λ h k=>Cz h (by lia)
  refine⟨by decide,⟨bg T1 (by lia),bg T1 (by lia)⟩,⟨bg F2 (by lia),bg c79 (by lia)⟩,⟨bg F5 (by lia),bg c48 (by lia)⟩,by decide,⟨bg (Mi (by lia) (by lia)) (by lia),bg (Mi (by lia) (by lia)) (by lia)⟩,by decide,⟨bg T1 (by lia),bg SV (by lia)⟩,⟨bg (F6 _) (by lia),bg c39 (by lia)⟩,by decide,⟨by decide,IW (n:=7) (uv (by lia) (by lia)) (by lia)⟩,by lia,_,rfl,oB _ hk,ue _ hk,⟨⟨t+1,cells,e1,e2,h3,by lia,by lia⟩,TU⟩,X2⟩
theorem HY:∀ {v:AV},nG v=true->∃ d,toD n s v=À d/\d.dep=0
 | .Ē,_=>⟨.Ē,by unfold toD;rfl,by simp[Dt.dep]⟩
 | .bl b,_=>⟨.bl b,by unfold toD;rfl,by simp[Dt.dep]⟩
 | .int b,_=>⟨.int b,by unfold toD;rfl,by simp[Dt.dep]⟩
 | .str b,_=>⟨.str b,by unfold toD;rfl,by simp[Dt.dep]⟩
theorem xZ:∀ {l:Á AV},l.all nG=true->∃ ds,l.mapM (toD n s)=À ds/\ds.length=l.length/\a_ ds=0
 | [],_=>⟨[],rfl,rfl,by simp[a_]⟩
 | v :: r,h=>by
  rw[Ő,Č]at h
  obtain⟨d,e1,e2⟩:=HY (s:=s) (n:=n) h.1
  obtain⟨ds,e3,e4,e5⟩:=xZ (s:=s) (n:=n) h.2
  exact⟨d :: ds,by rw[Al,e1,e3];rfl,by simp[e4],by simp[a_,e2,e5]⟩
theorem HN (h1:ï s i=À xs)(h2:ï s j=À [])(hf:xs.all nG=true):CI s (.ref i) (.ref j)=À xs.isEmpty:=by
 obtain⟨ds,e1,e2,e3⟩:=xZ (s:=s) (n:=19) hf
 have t1:toD 20 s (.ref i)=À (.lst ds):=by
  simp only[toD,h1,aj,e1,bH]
 have t2:toD 20 s (.ref j)=À (.lst []):=by
  simp only[toD,h2,aj,rZ];rfl
 unfold CI
 simp only
 rw[t1,t2]
 dsimp only
 rw[Ñ (by lia)]
 congr 1
 cases xs with
 | nil=>cases ds with
  | nil=>simp[eU]
  | cons=>cases e2
 | cons=>cases ds with
  | nil=>cases e2
  | cons=>simp[eU]
theorem xY:∀ l:Á Int,(l.map AV.int).all nG=true
 | []=>rfl
 | i :: r=>by rw[Ó,Ő,xY r];rfl
theorem UJ (h:0 < k)(l:k < 1048576):fA 9000 k:=(uv (n:=20) (by lia) (by lia)).mono (by lia)
theorem W2 {k:Int}(h:0 < k)(l:k < 1048576):(decide (0 < k) && decide (k < 1048576))=true:=by rw[Ī h,Ī l];rfl
theorem take1 {c d n:Nat}{s:S}{k:Int}(D:Dr c d n s)(hn:n<=1000000000:=by lia)(hk:(decide (0 < k) && decide (k < 1048576))=true:=by first|rfl|exact W2 (by lia) (by lia)) :
  (ė [.ref d,.int k] s).wp λ v s'=>∃ r,v=.int r/\0<=r/\r < k/\Dr c d (n+1) s'/\Kp c d s s':=by
 rw[Č]at hk
 exact Ol D hn (î hk.1) (UJ (î hk.1) (î hk.2))
theorem Ah (m:Ev)(env:En)(s:S)(Q:Á AV × Gd->S->Prop):(BO (Ê m Ü) env s).wp Q=(m env s).wp λ v s1=>match v with|.int j=>(-(2 ^ 62)<=j/\j < 2 ^ 62)/\Q (pY 0 j.toNat,[]) s1|_=>False:=by
 unfold BO Ê Ü
 simp only[wp_bind,pd]
 congr 1
 funext v s1
 cases v<;>first|rfl|exact mS _ _ _
structure Gk (c d:Nat)(s s':S):Prop where
 len:s.length<=s'.length
 get:∀ i,i < s.length->i≠c->i≠d->s'[i]? = s[i]?
theorem Kp.gk (h:Kp c d s s'):Gk c d s s':=⟨by rw[h.len];exact Ï _,λ i _ h1 h2=>h.get i h1 h2⟩
theorem Gk.app (c d:Nat)(s e:S):Gk c d s (s++e):=⟨by simp,λ i hi _ _=>á hi⟩
theorem Gk.trans (h:Gk c d s s')(k:Gk c d s' Dv):Gk c d s Dv:=⟨ě h.len k.len,λ i hi h1 h2=>(k.get i (ä hi h.len) h1 h2).trans (h.get i hi h1 h2)⟩
theorem Gk.lst {c d n i:Nat}{s s':S}{xs:Á AV}(h:Gk c d s s')(h1:i≠c)(h2:i≠d)(k:ï s i=À xs):ï s' i=À xs:=by
 have e:=ć k
 exact bB ((h.get i (Æ.mp e).1 h1 h2).trans e)
theorem Gk.set (h:Gk c d s s')(hi:s.length<=i):Gk c d s (s'.set i o):=⟨by rw[aP];exact h.len,λ j hj h1 h2=>by rw[ð (by lia)];exact h.get j hj h1 h2⟩
theorem Gk.cut (h:Gk c d s s')(D:Dr c d n s)(D':Dr c d m s'):Dr c d m (s'.take s.length)/\Kp c d s (s'.take s.length)/\(s'.take s.length).all (AO.low s.length)=true:=by
 have lc:=D.Lx
 have ld:=D.Ly
 have el:(s'.take s.length).length=s.length:=by rw[aZ];have:=h.len;lia
 have eg:∀ i,i < s.length->(s'.take s.length)[i]? = s'[i]?:=λ i hi=>ay hi
 have cl:=D.cl
 obtain⟨⟨t,cells,h1,h2,h3,h4,h5⟩,cl'⟩:=D'
 have all:(s'.take s.length).all (AO.low s.length)=true:=by
  rw[ă]
  intro o ho
  obtain⟨i,hi,e⟩:=GU.mp ho
  rw[el]at hi
  have e':(s'.take s.length)[i]? = À o:=by rw[Å (by rw[el];exact hi)];rw[e]
  rw[eg i hi]at e'
  by_cases c1:i=c
  ·subst c1;rw[h2]at e';cases e';exact low_ints _ _
  by_cases c2:i=d
  ·subst c2;rw[h1]at e';cases e';simp[AO.low,xV,Ĩ,AV.low,lc]
  rw[h.get i hi c1 c2]at e'
  have:=ă.mp (show s.all (AO.low s.length)=true from cl) o (é e')
  exact this
 refine⟨⟨⟨t,cells,by rw[eg d ld];exact h1,by rw[eg c lc];exact h2,h3,h4,h5⟩,?_⟩,⟨el,λ i c1 c2=>?_⟩,all⟩
 ·unfold Cl;rw[el];exact all
 ·by_cases hi:i < s.length
  ·rw[eg i hi];exact h.get i hi c1 c2
  ·rw[Fd (by rw[el];lia),Fd (by lia)]
theorem EA {s:S}{i:Nat}{xs:Á AV}{j:Int}(h:ï s i=À xs)(h0:0<=j)(h1:j < xs.length):∃ v,v∈xs/\Ŀ (.ref i) (.int j) s=.ok v s:=by
 obtain⟨n,rfl⟩:∃ n:Nat,j=n:=⟨j.toNat,by lia⟩
 have hn:n < xs.length:=by lia
 refine⟨xs[n],m9 hn,?_⟩
 show(need (ï s i) λ xs=>need (l9 xs n) λ v=>R.ok v s)=_
 rw[h,ê,l_ (Å hn)];rfl
theorem sz6 (h1:0<=j)(h2:j<=60)(h3:0 < b)(h4:b<=60):Sz 6 (ŉ j b):=UL (by lia) (uv (by lia) (by lia)) (uv (by lia) (by lia))
theorem HD (h1:0<=j)(h3:0 < b):0<=ŉ j b:=(Rat.divInt_nonneg_iff_of_pos_right h3).mpr h1
theorem div_add (h:b≠0):ŉ a b+ŉ c b=ŉ (a+c) b:=by
 rw[Rat.divInt_add_divInt _ _ h h,<-Int.add_mul,Rat.divInt_mul_right h]
theorem Mb (h1:j<=b)(h3:0 < b):ŉ j b<=1:=by
 have:0<=ŉ (b - j) b:=HD (by lia) h3
 have e:ŉ (b - j) b+ŉ j b=1:=by
  rw[div_add (by lia),show b - j+j=b by lia,Rat.divInt_self' (by lia)]
 grind
theorem IF (s:S)(h1:0<=a)(h2:a<=1000)(h3:0 < b)(h4:b<=1000):bJ [.int a,.int b] s=.ok (fq (ŉ a b)) s:=F9 s (by lia) ((uv (n:=20) (by lia) (by lia)).mono (by lia)) ((uv (n:=20) (by lia) (by lia)).mono (by lia))
theorem Nv {c d n:Nat}{s:S}(D:Dr c d n s)(hn:n<=900001000):(fc [.ref d] s).wp λ v s'=>∃ q,v=fq q/\0<=q/\q<=1/\Sz 6 q/\Dr c d (n+3) s'/\Kp c d s s':=by
 unfold fc nA
 walk_at "w"
 refine(take1 D).mono ?_
 rintro _ s1 ⟨r,rfl,h0,h1,D1,K1⟩
 walk_at "w"
 have D1':=D1.app (e:=[.lst [.int 2,.int 3,.int 4,.int 5,.int 10,.int (1+r)]]) (D1.cl.add (by simp[AO.low,Ĩ,AV.low]))
 refine(take1 D1').mono ?_
 rintro _ s2 ⟨j,rfl,j0,j1,D2,K2⟩
 obtain⟨v,hv,ev⟩:=EA (s:=s2) (i:=s1.length) (j:=j) (K2.gk.lst (n:=0) (by have:=D1.Lx;lia) (by have:=D1.Ly;lia) (ħ s1 _)) j0 j1
 obtain⟨b,rfl,b0,b1⟩:∃ b,v=.int b/\1<=b/\b<=60:=by
  simp only[Þ,Ď,bP]at hv
  rcases hv with rfl|rfl|rfl|rfl|rfl|rfl<;>exact⟨_,rfl,by lia,by lia⟩
 have G:=(K1.gk.trans (Gk.app c d s1 _)).trans K2.gk
 obtain⟨D3,K3,al⟩:=G.cut D D2
 simp only[↓WS,↓WE,↓WV,Lq,â,UU,Ç,↓Ô,↓ĝ ev,al,show AV.low s.length (.int b)=true by simp[AV.low]]
 refine(take1 D3).mono ?_
 rintro _ s3 ⟨i,rfl,i0,i1,D4,K4⟩
 simp only[↓WS,↓WE,↓WV,Lq,â,UU,Ç,↓Ô,↓ĝ (IF (a:=1+i) (b:=b) _ (by lia) (by lia) (by lia) (by lia))]
 exact⟨_,rfl,HD (by lia) (by lia),Mb (by lia) (by lia),sz6 (by lia) (by lia) (by lia) (by lia),D4,K3.trans K4⟩
theorem append_at (h:ï s i=À xs)(hl:xs.length < sizeLine):Ż (.ref i) [v] s=.ok .Ē (s.set i (.lst (xs++[v]))):=by
 unfold Ż
 simp only[h,ê,Ñ hl]
theorem my (h:ï s i=À xs):(lI "list" (.ref i) s).isSome=true:=by
 show((ï s i).map λ _=>()).isSome=true
 rw[h];rfl
theorem qU (h:ï s i=À xs):ï (s.set i (.lst ys)) i=À ys:=by
 refine bB (Ę ?_)
 exact(Æ.mp (ć h)).1
def kE:Str:="b aa zebra c quartzes ab m knows d mm likes z ba abcdefgh y zz e x f g hh jj kk pave"
open PySem.Builtin.Str in
def zO:Á Str:=partsBetween kE (occurrences kE " " 0 kE.length (kE.length+1)) (" ":Str).length
theorem Jr:zO.length=24:=by decide +kernel
open PySem.Builtin.Str in
theorem Nj:(decide (kE.length < (" ":Str).length) || decide (qg kE < qg (" ":Str)))=false/\((" ":Str).length == 0)=false/\(occurrences kE " " 0 kE.length (kE.length+1)).isEmpty=false/\kE.length<=1000/\(partsBetween kE (occurrences kE " " 0 kE.length (kE.length+1)) (" ":Str).length).length<=1000:=by decide +kernel
theorem Oa (s:S):rj (.str "b aa zebra c quartzes ab m knows d mm likes z ba abcdefgh y zz e x f g hh jj kk pave") [.str " "] s=.ok (zO.map AV.str) s:=Ñ Nj
theorem cg (b:Nat):∀ l:Á Str,Ĩ b (l.map AV.str)=true
 | []=>by simp[Ĩ]
 | i :: r=>by simp only[Ó,Ĩ,cg b r];simp[AV.low]
theorem pP (h:ï s i=À xs):jP [.ref i] s=.ok (.int xs.length) s:=by
 show(need (ï s i) λ xs=>R.ok (AV.int xs.length) s)=_
 rw[h];rfl
theorem HQ (f:α->β):∀ (l:Á α) (m:Nat),(l.map f).eraseIdx m=(l.eraseIdx m).map f
 | [],_=>rfl
 | a :: r,0=>rfl
 | a :: r,m+1=>by show f a :: (r.map f).eraseIdx m=f a :: (r.eraseIdx m).map f;rw[HQ f r m]
theorem TG:(gn "int" "list"=false)/\(gn "int" "tuple"=false)/\(gn "int" "str"=false)/\(gn "int" "int"=true)/\(gn "int" "bool"=false)/\
  (gn "str" "list"=false)/\(gn "str" "tuple"=false)/\(gn "str" "str"=true)/\
  (gn "tuple" "list"=false)/\(gn "tuple" "tuple"=true)/\(gn "list" "list"=true)/\(gn "list" "tuple"=false):=by
 refine⟨?_,?_,?_,?_,?_,?_,?_,?_,?_,?_,?_,?_⟩<;>decide +kernel
theorem MJ (n:String)(i:Int)(s:S)(Q:AV->S->Prop):(dN n (.int i) s).wp Q=Q (.bl (gn "int" n)) s:=rfl
theorem MK (n:String)(i:Str)(s:S)(Q:AV->S->Prop):(dN n (.str i) s).wp Q=Q (.bl (gn "str" n)) s:=rfl
theorem ML (n:String)(i:Á AV)(s:S)(Q:AV->S->Prop):(dN n (.tup i) s).wp Q=Q (.bl (gn "tuple" n)) s:=rfl
theorem zH (h:ï s i=À xs):dN n (.ref i) s=.ok (.bl (gn "list" n)) s:=by
 have e:=ć h
 unfold dN
 rw[show E7 (.ref i) s=À "list" by simp only[E7,e]];rfl
theorem lN (b:Bool)(s:S):truth (.bl b) s=À b:=rfl
theorem O6 (a b:Bool)(s:S)(Q:AV->S->Prop):(oV (.bl a) (.bl b) s).wp Q=Q (.bl (!decide (a=b))) s:=rfl
theorem Fb (a b:Ev)(env:En)(s:S)(Q:Á AV × Gd->S->Prop):(Ki a b env s).wp Q=(a env s).wp λ v s1=>(b env s1).wp λ w s2=>(need (GP v w s2) λ r=>.ok r s2).wp Q:=by
 unfold Ki;rw[wp_bind];congr 1;funext v s1;rw[wp_bind]
theorem same_int (n:Nat)(i:Int)(s:S):Ĉ (n+1) [.int i,.int i] s=.ok (.bl true) s:=by
 apply R.wp.eq
 unfold Ĉ di
 simp only[↓WS,↓WE,↓WV,Lq,â,UU,Ç,↓Ô,mO,↓MJ,TG,lN,dZ,Ÿ]
theorem same_str (n:Nat)(i:Str)(s:S):Ĉ (n+1) [.str i,.str i] s=.ok (.bl true) s:=by
 apply R.wp.eq
 unfold Ĉ di
 simp only[↓WS,↓WE,↓WV,Lq,â,UU,Ç,↓Ô,mO,↓MK,TG,lN,dZ,Ÿ]
theorem zg:∀ n:Nat,xk (à n (.bl true))=À (à n true)
 | 0=>rfl
 | n+1=>by rw[List.replicate_succ];show(xk (à n (.bl true))).map (true :: ·)=_;rw[zg n];rfl
theorem DV (m:Nat):(à m true).all id=true:=by
 rw[ă];intro b hb;rw[(List.mem_replicate.mp hb).2];rfl
theorem MQ (xs:Á AV)(s:S):jP [.tup xs] s=.ok (.int xs.length) s:=rfl
end Ro
namespace Mm
open PySem L2
theorem X' (c:Nat)(m:Str)(n:Nat)(F:Á AV->S->R AV)(mo:Ev)(r:fY)(env:En)(s:S)(Q:AV->S->Prop):(Ľ c m n F mo r env s).wp Q=(mo env s).wp λ x s1=>match sD c x s1 with
 | some p=>p.2.lookup m=none/\(r env s1).wp λ vs s2=>vs.length=n/\(F (x :: vs) s2).wp Q
 | none=>False:=by
 unfold Ľ
 rw[wp_bind]
 congr 1
 funext x s1
 cases sD c x s1 with
 | none=>rfl
 | some p=>
  rw[rF,mS,wp_bind]
  congr 1
  congr 1
  funext vs s2
  rw[mS]
theorem Oq (c:Nat)(f:Str)(mo mv:Ev)(env:En)(s:S)(N:En->S->Prop)(T:AV->S->Prop):(jQ c f mo mv env s).wp N T=(mv env s).wp λ y s1=>(mo env s1).wp λ x s2=>match sD c x s2 with
 | some p=>p.2.length < 1000/\N env (s2.set p.1 (.ins c (yy f y p.2)))
 | none=>False:=by
 unfold jQ
 rw[aV]
 congr 1
 funext y s1
 rw[aV]
 congr 1
 funext x s2
 cases sD c x s2 with
 | none=>rfl
 | some p=>exact Kz _ _ _ _
theorem GO (hb:b env s=.nx e s1)(N:En->S->Prop)(T:AV->S->Prop):(wm n i sub b h env s).wp N T=N e s1:=by
 unfold wm;rw[hb];rfl
theorem Ot (i:Nat)(r:RS)(N:En->S->Prop)(T:AV->S->Prop):(OT i r).wp N T=r.wp (λ e s=>N (e.set i none) s) T:=by cases r<;>rfl
theorem GN (hb:b env s=.ex c s1)(hs:sub c.cls=true)(N:En->S->Prop)(T:AV->S->Prop):(wm n i sub b h env s).wp N T=(h ((à n none).set i (À (.ref s1.length))) (s1++[.exc c.cls])).wp (λ e s=>N (e.set i none) s) T:=by
 unfold wm;rw[hb];dsimp only;rw[Ñ hs,Ot]
theorem oo (h:s[i]? = À (.ins c fs)):sD c (.ref i) s=À (i,fs):=by
 unfold sD;dsimp only;rw[h];dsimp only;rw[Ñ rfl]
theorem gH (h:s[i]? = À (.ins c fs)) (l:fs.lookup f=À v):bC c f (.ref i) s=.ok v s:=by
 unfold bC;rw[oo h];dsimp only[need];rw[l]
structure At (B:Nat)(m:Á AO)(s:S):Prop where
 get:∀ i,i < m.length->s[B+i]? = m[i]?
theorem At.at (h:At B m s)(e:m[i]? = À o):s[B+i]? = À o:=by
 rw[h.get i (Æ.mp e).1];exact e
theorem At.len (h:At B m s)(k:0 < m.length):B+m.length<=s.length:=by
 have e:=h.get (m.length - 1) (by lia)
 rw[Å (by lia:m.length - 1 < m.length)]at e
 have:=(Æ.mp e).1
 lia
theorem At.app (h:At B m s)(e:S):At B m (s++e):=⟨λ i hi=>by
 have q:=h.get i hi
 rw[Å hi]at q ⊢
 rw[á (Æ.mp q).1];exact q⟩
theorem At.new (s e:S):At s.length e (s++e):=⟨λ i hi=>by rw[ß (by lia)];congr 1;lia⟩
theorem At.set (h:At B m s)(i:Nat)(o:AO):At B (m.set i o) (s.set (B+i) o):=⟨λ j hj=>by
 rw[aP]at hj
 by_cases e:i=j
 ·subst e
  have q:=h.get i hj
  rw[Å hj]at q
  rw[Ę (Æ.mp q).1,Ę hj]
 ·rw[ð (by lia),ð e];exact h.get j hj⟩
theorem At.keep (h:At B m s)(k:∀ i,B<=i->i < B+m.length->s'[i]? = s[i]?):At B m s':=⟨λ i hi=>by rw[k _ (by lia) (by lia)];exact h.get i hi⟩
mutual
def Rp (b:Nat)(s:S):Dt->AV->Prop
 | .Ē,v=>v=.Ē
 | .bl _,_=>False
 | .int i,v=>v=.int i
 | .str x,v=>v=.str x
 | .tup l,v=>∃ xs,v=.tup xs/\l.length<=1000/\bQ b s l xs
 | .lst l,v=>∃ i xs,v=.ref i/\b<=i/\ï s i=À xs/\l.length<=1000/\bQ b s l xs
def bQ (b:Nat)(s:S):Á Dt->Á AV->Prop
 | [],xs=>xs=[]
 | d :: l,xs=>∃ x r,xs=x :: r/\Rp b s d x/\bQ b s l r
end
mutual
theorem Rp.mono (k:∀ i xs,ï s i=À xs->ï s' i=À xs):∀ {d:Dt}{v:AV},Rp b s d v->Rp b s' d v
 | .Ē,_,h=>by unfold Rp at h ⊢;exact h
 | .bl _,_,h=>by unfold Rp at h;exact h.elim
 | .int _,_,h=>by unfold Rp at h ⊢;exact h
 | .str _,_,h=>by unfold Rp at h ⊢;exact h
 | .tup l,_,h=>by
  unfold Rp at h ⊢
  obtain⟨xs,e,hl,h⟩:=h
  exact⟨xs,e,hl,bQ.mono k h⟩
 | .lst l,_,h=>by
  unfold Rp at h ⊢
  obtain⟨i,xs,e,hb,h1,hl,h⟩:=h
  exact⟨i,xs,e,hb,k i xs h1,hl,bQ.mono k h⟩
theorem bQ.mono (k:∀ i xs,ï s i=À xs->ï s' i=À xs):∀ {l:Á Dt}{xs:Á AV},bQ b s l xs->bQ b s' l xs
 | [],_,h=>by unfold bQ at h ⊢;exact h
 | _ :: _,_,h=>by
  unfold bQ at h ⊢
  obtain⟨x,r,e,h1,h2⟩:=h
  exact⟨x,r,e,Rp.mono k h1,bQ.mono k h2⟩
end
theorem Rp.app (h:Rp b s d v)(e:S):Rp b (s++e) d v:=h.mono λ _ _ q=>ā q
theorem bQ.app (h:bQ b s l xs)(e:S):bQ b (s++e) l xs:=h.mono λ _ _ q=>ā q
theorem bQ.nil:bQ b s [] []:=by unfold bQ;rfl
theorem bQ.cons {b:Nat}{s:S}{d:Dt}{v:AV}{l:Á Dt}{xs:Á AV}(h:Rp b s d v)(k:bQ b s l xs):bQ b s (d :: l) (v :: xs):=by unfold bQ;exact⟨v,xs,rfl,h,k⟩
theorem bQ.length:∀ {l:Á Dt}{xs:Á AV},bQ b s l xs->l.length=xs.length
 | [],_,h=>by unfold bQ at h;subst h;rfl
 | _ :: _,_,h=>by
  unfold bQ at h
  obtain⟨x,r,rfl,_,h2⟩:=h
  simp[bQ.length h2]
theorem wg (s:S)(i:Int):Rp b s (.int i) (.int i):=by unfold Rp;rfl
theorem Du (s:S)(i:Str):Rp b s (.str i) (.str i):=by unfold Rp;rfl
theorem Kb (s:S):Rp b s .Ē .Ē:=by unfold Rp;rfl
theorem zY (hl:l.length<=1000)(h:bQ b s l xs):Rp b s (.tup l) (.tup xs):=by unfold Rp;exact⟨xs,rfl,hl,h⟩
theorem pZ (e:ï s i=À xs)(hb:b<=i)(hl:l.length<=1000)(h:bQ b s l xs):Rp b s (.lst l) (.ref i):=by unfold Rp;exact⟨i,xs,rfl,hb,e,hl,h⟩
theorem bQ.map:∀ {l:Á α},(∀ a∈l,Rp b s (f a) (g a))->bQ b s (l.map f) (l.map g)
 | [],_=>.nil
 | a :: l,h=>.cons (h a (.head _)) (bQ.map λ b hb=>h b (.tail _ hb))
end Mm
namespace Ro
open PySem L2 Mm
theorem wo (hg:x_ gs s)(h:∀ p∈xs.zip ys,Ĉ n [p.1,p.2] s=.ok (.bl true) s) (Q:Á AV->S->Prop)(k:∀ m,Q (à m (.bl true)) s) :
  (aJ (gT 2 (Ĳ (gN 0) (Ĳ (gN 1) gm))) j_ (ę 2 (Ĉ n) (Ê (mv 0) (Ê (mv 1) Ü))) gs (wR xs ys) [none,none] s []).wp Q:=by
 unfold wR
 refine og (λ zs acc env st=>st=s/\∃ r x y m,(∀ p∈r,p∈xs.zip ys)/\zs=(r.map λ p=>AV.tup [p.1,p.2])/\env=[x,y]/\acc=à m (.bl true)) ?_ ?_ ?_ _ _ _ _ ⟨rfl,xs.zip ys,none,none,0,λ _ h=>h,rfl,rfl,rfl⟩
 ·rintro _ _ _ st ⟨rfl,_⟩;exact hg
 ·rintro acc env st ⟨rfl,r,x,y,m,_,e,rfl,rfl⟩;exact k m
 ·rintro v r acc env st ⟨rfl,r',x,y,m,hr,e,rfl,rfl⟩
  cases r' with
  | nil=>cases e
  | cons p r'=>
   cases e
   simp only[↓WS,↓WE,↓WV,Lq,â,UU,Ç,↓Ô,↓ĝ (h p (hr p (.head _)))]
   exact⟨r',_,_,m+1,λ x hx=>hr x (.tail _ hx),rfl,rfl,by rw[List.replicate_succ']⟩
theorem BZ (h:xs.length=ys.length):(wR xs ys).length=xs.length:=by unfold wR;simp[h]
theorem Gw (hl:xs.length<=sizeLine)(he:xs.length=ys.length)(h:∀ p∈xs.zip ys,Ĉ n [p.1,p.2] s=.ok (.bl true) s):Ĉ (n+1) [.tup xs,.tup ys] s=.ok (.bl true) s:=by
 apply R.wp.eq
 unfold Ĉ di
 simp only[↓WS,↓WE,↓WV,Lq,â,UU,Ç,↓Ô,mO,↓ML,TG,lN,dZ,Ÿ,↓O6,df,↓ĝ (MQ _ _),↓Fb,GP,xE,he]
 refine⟨?_,?_⟩
 ·rw[BZ he];exact hl
 refine wo (by intro p hp;cases hp) h _ λ m=>?_
 unfold J9
 rw[zg]
 simp only[↓WS,↓WE,↓WV,Lq,â,UU,Ç,↓Ô,DV]
theorem Gv (hl:xs.length<=sizeLine)(he:xs.length=ys.length)(h1:ï s i=À xs)(h2:ï s j=À ys)(h:∀ p∈xs.zip ys,Ĉ n [p.1,p.2] s=.ok (.bl true) s):Ĉ (n+1) [.ref i,.ref j] s=.ok (.bl true) s:=by
 apply R.wp.eq
 unfold Ĉ di
 simp only[↓WS,↓WE,↓WV,Lq,â,UU,Ç,↓Ô,mO,↓ĝ (zH h1),↓ĝ (zH h2),TG,lN,dZ,Ÿ,↓O6,df,↓ĝ (pP h1),↓ĝ (pP h2),↓Fb,GP,xE,h1,h2,bH,he]
 refine⟨?_,?_⟩
 ·rw[BZ he];exact hl
 refine wo ?_ h _ λ m=>?_
 ·intro p hp
  simp only[iR,jZ,Þ,Ď,bP]at hp
  rcases hp with rfl|rfl
  ·exact h1
  ·exact h2
 unfold J9
 rw[zg]
 simp only[↓WS,↓WE,↓WV,Lq,â,UU,Ç,↓Ô,DV]
theorem Kf (n:Nat)(s:S):Ĉ (n+1) [.Ē,.Ē] s=.ok (.bl true) s:=by
 apply R.wp.eq
 unfold Ĉ di
 simp only[↓WS,↓WE,↓WV,Lq,â,UU,Ç,↓Ô,mO]
mutual
theorem E2:∀ {d:Dt}{v w:AV}{n:Nat},Rp b s d v->Rp b s d w->d.dep < n->Ĉ n [v,w] s=.ok (.bl true) s
 | _,_,_,0,_,_,h=>absurd h (SH _)
 | .Ē,_,_,n+1,h,k,_=>by unfold Rp at h k;subst h k;exact Kf n s
 | .bl _,_,_,n+1,h,k,_=>by unfold Rp at h;exact h.elim
 | .int _,_,_,n+1,h,k,_=>by unfold Rp at h k;subst h k;exact same_int n _ s
 | .str _,_,_,n+1,h,k,_=>by unfold Rp at h k;subst h k;exact same_str n _ s
 | .tup l,_,_,n+1,h,k,hd=>by
  unfold Rp at h k
  obtain⟨xs,rfl,hl,h⟩:=h
  obtain⟨ys,rfl,_,k⟩:=k
  have l1:=h.length
  have l2:=k.length
  have hd:a_ l+1 < n+1:=by simpa[Dt.dep]using hd
  exact Gw (BP (by lia)) (by lia) (wq h k (by lia))
 | .lst l,_,_,n+1,h,k,hd=>by
  unfold Rp at h k
  obtain⟨i,xs,rfl,_,h1,hl,h⟩:=h
  obtain⟨j,ys,rfl,_,k1,_,k⟩:=k
  have l1:=h.length
  have l2:=k.length
  have hd:a_ l+1 < n+1:=by simpa[Dt.dep]using hd
  exact Gv (BP (by lia)) (by lia) h1 k1 (wq h k (by lia))
theorem wq:∀ {l:Á Dt}{xs ys:Á AV}{n:Nat},bQ b s l xs->bQ b s l ys->a_ l < n->∀ p∈xs.zip ys,Ĉ n [p.1,p.2] s=.ok (.bl true) s
 | [],_,_,n,h,k,_=>by
  unfold bQ at h
  subst h
  intro p hp;simp at hp
 | d :: l,_,_,n,h,k,hd=>by
  unfold bQ at h k
  obtain⟨x,r,rfl,h1,h2⟩:=h
  obtain⟨y,t,rfl,k1,k2⟩:=k
  have hd:max d.dep (a_ l) < n:=by simpa[a_]using hd
  intro p hp
  rw[KZ]at hp
  rcases Þ.mp hp with rfl|hp
  ·exact E2 h1 k1 (by lia)
  ·exact wq h2 k2 (by lia) p hp
end
def kT {α:Type}(f:α->Str)(g:α->AV)(l:Á α):Á (Key × AV):=l.map λ a=>(.inr (f a),g a)
theorem J7 [n9 κ] (k:κ)(v:AV)(l:Á (κ × AV)):(mF l k v).length<=l.length+1:=by
 unfold mF;split<;>simp
theorem DJ (f:α->Str)(g:α->AV)(x:Str):∀ l:Á α,Ů (kT f g l) (.inr x)=(l.find? λ a=>decide (f a=x)).map g
 | []=>rfl
 | a :: r=>by
  show(if (Ť (f a):Key)=Ť x then À (g a) else Ů (kT f g r) (.inr x))=_
  rw[DJ f g x r,c_]
  by_cases h:f a=x
  ·rw[Ñ (by rw[h]),Ī h];rfl
  ·rw[Ö (λ z=>h (lb z)),ÿ h]
theorem Ag (h:x∈l):Ů (kT id g l) (.inr x)=À (g x):=by
 rw[DJ]
 cases e:l.find? λ a=>decide (id a=x) with
 | none=>
  have:=KY.mp e x h
  simp at this
 | some a=>
  have:=List.find?_some e
  have:a=x:=by simpa using this
  rw[this];rfl
theorem Sw (h:x∉l):Ů (kT id g l) (.inr x)=none:=by
 rw[DJ]
 have:(l.find? λ a=>decide (id a=x))=none:=KY.mpr λ a ha=>by
  simp only[id,eN]
  intro e;exact h (e ▸ ha)
 rw[this];rfl
theorem Af (f:α->Str)(g:α->AV):∀ l:Á α,jd (kT f g l)=À (l.map f)
 | []=>rfl
 | a :: r=>by
  show(jd (kT f g r)).map (f a :: ·)=_
  rw[Af f g r];rfl
theorem sV (h:x∉l)(hv:v=g x):mF (kT id g l) (.inr x) v=kT id g (l++[x]):=by
 unfold mF
 have:((kT id g l).any λ kv=>decide (kv.1=Ť x))=false:=by
  rw[LH]
  intro p hp
  obtain⟨a,ha,rfl⟩:=Ŕ.mp hp
  simp only[id,eN]
  intro z;exact h (lb z ▸ ha)
 rw[this,Ö (by decide)]
 unfold kT
 rw[Š,hv];rfl
def jC (a:Int × Int):AV:=.tup [.int a.1,.int a.2]
abbrev Hn:Type:=Str × Int × Str × (Int × Int)
structure Wl where
 ps:Á Str
 ws:Á Str
 hs:Á Hn
 h:Int
def Wl.kf (_:Wl)(_:Str):Int × Int:=(0,1)
def Wl.kw (_:Wl):Á (Key × AV):=[]
abbrev Ō (x:Hn):Str × Int:=(x.1,x.2.1)
def hV (x:Hn):AV:=.tup [.str x.2.2.1,jC x.2.2.2]
def hK (x:Hn):Á Key × AV:=(eI (Ō x),hV x)
def hE (x:Hn):AV:=.tup [.str x.1,.int x.2.1,.str x.2.2.1,jC x.2.2.2]
def w_ (B:Nat)(h:Int):Á (Str × AV):=[("keeps",.ref (B+1)),("rows",.ref (B+2)),("hands",.ref (B+3)),("makers",.ref (B+4)),("rates",.ref (B+5)),("half",.int h),("money",.ref (B+6)),("debts",.ref (B+7))]
def yL (B:Nat)(h:Int):Á (Key × AV):=[(.inr "people",.ref (B+8)),(.inr "works",.ref (B+9)),(.inr "hands",.ref (B+10)),(.inr "known",.ref (B+11)),(.inr "rates",.ref (B+12)),(.inr "keeps",.ref (B+13)),(.inr "half",.int h),(.inr "money",.ref (B+15)),(.inr "debts",.ref (B+16))]
def mid (B:Nat)(V W:Wl):Á AO:=[.ins 9 (w_ B V.h),.dK (kT id (λ p=>jC (V.kf p)) V.ps),.dK (kT id (λ _=>.tup []) V.ws),.dT (V.hs.map hK),.dK [],.dK [],.lst [],.lst [],
 .lst (W.ps.map .str),.dK (kT id (λ _=>.tup []) W.ws),.lst (W.hs.map hE),.dK [],.lst [],.dK W.kw,.dK (yL B W.h),.lst [],.lst []]
theorem jB (B:Nat)(h:Int):(w_ B h).lookup (å "keeps")=À (AV.ref (B+1)):=by rfl
theorem qF (B:Nat)(h:Int):(w_ B h).lookup (å "rows")=À (AV.ref (B+2)):=by rfl
theorem qE (B:Nat)(h:Int):(w_ B h).lookup (å "hands")=À (AV.ref (B+3)):=by rfl
theorem FK (B:Nat)(h:Int):(w_ B h).lookup (å "makers")=À (AV.ref (B+4)):=by rfl
theorem HX (B:Nat)(h:Int):(w_ B h).lookup (å "rates")=À (AV.ref (B+5)):=by rfl
theorem Ml (B:Nat)(h:Int):(w_ B h).lookup (å "half")=À (AV.int h):=by rfl
theorem HV (B:Nat)(h:Int):(w_ B h).lookup (å "money")=À (AV.ref (B+6)):=by rfl
theorem HU (B:Nat)(h:Int):(w_ B h).lookup (å "debts")=À (AV.ref (B+7)):=by rfl
theorem HW (B:Nat)(h:Int)(k:((["keeps","rows","hands","makers","rates","half","money","debts"]:Á Str).any λ f=>m == f)=false):(w_ B h).lookup m=none:=by
 simp only[ax,List.any_nil,Ta,GR]at k
 obtain⟨k1,k2,k3,k4,k5,k6,k7,k8⟩:=k
 unfold w_
 simp only[ĕ,k1,k2,k3,k4,k5,k6,k7,k8,List.lookup_nil]
section
variable {B:Nat}{V W:Wl}{s:S}
theorem gY (h:At B (mid B V W) s):s[B]? = À (.ins 9 (w_ B V.h)):=h.at (i:=0) rfl
theorem jy (h:At B (mid B V W) s):j8 s (B+1)=À (kT id (λ p=>jC (V.kf p)) V.ps):=jx (h.at (i:=1) rfl)
theorem qA (h:At B (mid B V W) s):j8 s (B+2)=À (kT id (λ _=>.tup []) V.ws):=jx (h.at (i:=2) rfl)
theorem qB (h:At B (mid B V W) s):Lk s (B+3)=À (V.hs.map hK):=PF (h.at (i:=3) rfl)
theorem FH (h:At B (mid B V W) s):j8 s (B+4)=À []:=jx (h.at (i:=4) rfl)
theorem HA (h:At B (mid B V W) s):j8 s (B+5)=À []:=jx (h.at (i:=5) rfl)
theorem IH (h:At B (mid B V W) s):ï s (B+6)=À []:=bB (h.at (i:=6) rfl)
theorem IG (h:At B (mid B V W) s):ï s (B+7)=À []:=bB (h.at (i:=7) rfl)
theorem jh (h:At B (mid B V W) s):ï s (B+8)=À (W.ps.map .str):=bB (h.at (i:=8) rfl)
theorem vv (h:At B (mid B V W) s):j8 s (B+9)=À (kT id (λ _=>.tup []) W.ws):=jx (h.at (i:=9) rfl)
theorem vU (h:At B (mid B V W) s):ï s (B+10)=À (W.hs.map hE):=bB (h.at (i:=10) rfl)
theorem Hz (h:At B (mid B V W) s):j8 s (B+11)=À []:=jx (h.at (i:=11) rfl)
theorem II (h:At B (mid B V W) s):ï s (B+12)=À []:=bB (h.at (i:=12) rfl)
theorem UB (h:At B (mid B V W) s):j8 s (B+13)=À W.kw:=jx (h.at (i:=13) rfl)
theorem OL (h:At B (mid B V W) s):j8 s (B+14)=À (yL B W.h):=jx (h.at (i:=14) rfl)
theorem VA (h:At B (mid B V W) s):ï s (B+15)=À []:=bB (h.at (i:=15) rfl)
theorem Vz (h:At B (mid B V W) s):ï s (B+16)=À []:=bB (h.at (i:=16) rfl)
theorem zr (h:j8 s i=À kvs):rg (.str x) (.ref i) s=.ok (.bl (Ů kvs (.inr x)).isSome) s:=by
 show(need (j8 s i) λ kvs=>need (fR (.str x)) λ k=>R.ok (AV.bl (Ů kvs k).isSome) s)=_
 rw[h];rfl
theorem zt (h:j8 s i=À kvs):wa (.str x) (.ref i) s=.ok (.bl (!(Ů kvs (.inr x)).isSome)) s:=by
 show(need (j8 s i) λ kvs=>need (fR (.str x)) λ k=>R.ok (AV.bl (!(Ů kvs k).isSome)) s)=_
 rw[h];rfl
theorem xU (h:j8 s i=À kvs)(e:Ů kvs (.inr x)=À v):Ļ (.ref i) (.str x) s=.ok v s:=by
 show(need (j8 s i) λ kvs=>need (fR (.str x)) λ k=>need (Ů kvs k) λ v=>R.ok v s)=_
 rw[h,ê,show fR (.str x)=À (.inr x) from rfl,ê,e];rfl
theorem qN:(Ů (kT id g l) (.inr x)).isSome=decide (x∈l):=by
 by_cases h:x∈l
 ·rw[Ag h,Ī h];rfl
 ·rw[Sw h,ÿ h];rfl
end
theorem Eg (h:b env s=.rt v s1)(he:env=as.map À++à (n - as.length) none:=by rfl):fe n b as s=.ok v s1:=by subst he;unfold fe;rw[h]
theorem x9 (h:b env s=.nx e s1)(he:env=as.map À++à (n - as.length) none:=by rfl):fe n b as s=.ok .Ē s1:=by subst he;unfold fe;rw[h]
theorem vC (h:b env s=.ex c s1)(he:env=as.map À++à (n - as.length) none:=by rfl):fe n b as s=.ex c s1:=by subst he;unfold fe;rw[h]
theorem z0 (h:a env s=.ex c s1):ē a b env s=.ex c s1:=by unfold ē;rw[h]
theorem aa (h:a env s=.nx e s1):ē a b env s=b e s1:=by unfold ē;rw[h]
theorem qC (h:m env s=.ex c s1):au m env s=.ex c s1:=by unfold au;rw[h];rfl
theorem qD (h:m env s=.ok v s1):au m env s=.nx env s1:=by unfold au;rw[h];rfl
theorem vM (h:c env s=.ok true s1):lW c a b env s=a env s1:=by unfold lW;rw[h];rfl
theorem sC (h:c env s=.ok false s1):lW c a b env s=b env s1:=by unfold lW;rw[h];rfl
theorem nj:mv 0 (À v :: l) s=.ok v s:=rfl
theorem yr:mv 1 (x :: À v :: l) s=.ok v s:=rfl
theorem VN (h:s[i]? = À (.ins c fs)) (l:fs.lookup m=none)(e1:mo env s=.ok (.ref i) s) (e2:ma env s=.ok v s):Ľ c m 1 F mo (Ê ma Ü) env s=F [.ref i,v] s:=by
 unfold Ľ Ê Ü
 rw[e1,ą,oo h]
 dsimp only[need]
 rw[Ñ l,e2]
 rfl
theorem VM (h:s[i]? = À (.ins c fs)) (l:fs.lookup m=none)(e1:mo env s=.ok (.ref i) s):Ľ c m 0 F mo Ü env s=F [.ref i] s:=by
 unfold Ľ Ü
 rw[e1,ą,oo h]
 dsimp only[need]
 rw[Ñ l]
 rfl
theorem Vk (h:a.length<=1000)(k:x.length<=1000)(e:m env s=.ok (.str x) s) (r:Ej)(Q:AV->S->Prop)(hr:∀ t:Str,t.length<=2000->((r t env s).bind λ t s1=>if t.length<=sizeLine then R.ok (AV.str t) s1 else .bad).wp Q):(mQ (fP (mc (.str a)) (fP (cj nX m) r)) env s).wp Q:=by
 have l0:(gf++a).length=a.length:=by rw[mM];show 0+_=_;lia
 have l1:(gf++a++x).length=a.length+x.length:=by rw[mM,l0]
 unfold mQ fP mc cj
 simp only[ą]
 rw[Ñ (by rw[l0,ġ];lia)]
 have ef:nX (.str x) s=.ok (.str x) s:=Ñ (by rw[ġ];lia)
 simp only[e,ą,ef]
 rw[Ñ (by rw[l1,ġ];lia)]
 exact hr _ (by rw[l1];lia)
theorem join_nil (h:∀ t,Q (.str t) s):∀ t:Str,t.length<=2000->((xr t env s).bind λ t s1=>if t.length<=sizeLine then R.ok (AV.str t) s1 else .bad).wp Q:=λ t ht=>by
 unfold xr
 rw[ą,Ñ (by rw[ġ];lia)]
 exact h t
theorem Kd (h:(m env s).wp λ _ s1=>s1=s):GZ c (Ê m Ü) env s=.ex ⟨c,[]⟩ s:=by
 obtain⟨v,s1,e,rfl⟩:=h.get
 unfold GZ Ê Ü
 rw[e]
 rfl
section
variable {B:Nat}{V W:Wl}{s:S}
theorem eQ (h:At B (mid B V W) s) (hp:x∈V.ps):ü [.ref B,.str x] s=.ok .Ē s:=by
 unfold ü cz
 refine x9 (env:=[À (.ref B),À (.str x)]) (sC (s1:=s) (R.wp.eq ?_))
 simp only[↓WS,↓WE,↓WV,Lq,â,UU,Ç,↓Ô,↓ĝ (gH (gY h) (jB B V.h)),↓ĝ (zt (jy h)),qN,hp,Ÿ,df]
theorem nU (h:At B (mid B V W) s) (hx:x.length<=1000)(hp:x∉V.ps):ü [.ref B,.str x] s=.ex ⟨3,[]⟩ s:=by
 unfold ü cz
 refine vC (env:=[À (.ref B),À (.str x)]) ((vM (s1:=s) (R.wp.eq ?_)).trans (Kd (Vk (by decide) hx rfl _ _ (join_nil λ _=>rfl))))
 simp only[↓WS,↓WE,↓WV,Lq,â,UU,Ç,↓Ô,↓ĝ (gH (gY h) (jB B V.h)),↓ĝ (zt (jy h)),qN,hp,aL,dZ]
theorem o_ (h:At B (mid B V W) s) (hp:x∈V.ws):ž [.ref B,.str x] s=.ok .Ē s:=by
 unfold ž gC
 refine x9 (env:=[À (.ref B),À (.str x)]) (sC (s1:=s) (R.wp.eq ?_))
 simp only[↓WS,↓WE,↓WV,Lq,â,UU,Ç,↓Ô,↓ĝ (gH (gY h) (qF B V.h)),↓ĝ (zt (qA h)),qN,hp,Ÿ,df]
theorem Bl (h:At B (mid B V W) s) (x:Str):br [.ref B,.str x] s=.ok (.bl (decide (x∈V.ps∨x∈V.ws))) s:=by
 apply R.wp.eq
 unfold br il
 by_cases hp:x∈V.ps
 ·simp only[↓WS,↓WE,↓WV,Lq,â,UU,Ç,↓Ô,↓ĝ (gH (gY h) (jB B V.h)),↓ĝ (zr (jy h)),qN,hp,Ÿ,true_or]
 ·simp only[↓WS,↓WE,↓WV,Lq,â,UU,Ç,↓Ô,↓ĝ (gH (gY h) (jB B V.h)),↓ĝ (zr (jy h)),qN,hp,aL,false_or,↓ĝ (gH (gY h) (qF B V.h)),↓ĝ (zr (qA h))]
theorem g9 (h:At B (mid B V W) s) (l:((["keeps","rows","hands","makers","rates","half","money","debts"]:Á Str).any λ f=>m == f)=false) (e1:mo env s=.ok (.ref B) s) (e2:ma env s=.ok x s):Ľ 9 m 1 F mo (Ê ma Ü) env s=F [.ref B,x] s:=VN (gY h) (HW B V.h l) e1 e2
theorem nR (h:At B (mid B V W) s) (l:((["keeps","rows","hands","makers","rates","half","money","debts"]:Á Str).any λ f=>m == f)=false) (e1:mo env s=.ok (.ref B) s):Ľ 9 m 0 F mo Ü env s=F [.ref B] s:=VM (gY h) (HW B V.h l) e1
theorem o9 (h:At B (mid B V W) s) (hp:¬ (x∈V.ps∨x∈V.ws)):Ž [.ref B,.str x] s=.ok .Ē s:=by
 unfold Ž gB
 refine x9 (env:=[À (.ref B),À (.str x)]) (sC (s1:=s) (R.wp.eq ?_))
 simp only[↓WS,↓WE,↓WV,Lq,â,UU,Ç,↓Ô,↓ĝ ((g9 (m:="has_name") h (by decide +kernel) nj yr).trans (Bl h x)),hp,aL,lN]
theorem sU (h:j8 s i=À kvs)(l:kvs.length < 1000):putD v (.ref i) (.str x) env s=.nx env (s.set i (.dK (mF kvs (.inr x) v))):=by
 show(match j8 s i,fR (.str x) with
  | some kvs,À k=>if kvs.length < sizeLine then RS.nx env (s.set i (.dK (mF kvs k v))) else .bad
  | _,_=>.bad)=_
 rw[h]
 show(if kvs.length < sizeLine then _ else _)=_
 rw[Ñ (by rw[ġ];lia)]
theorem CV (f:α->Str)(g:α->AV)(l:Á α):(kT f g l).length=l.length:=by unfold kT;rw[Õ]
theorem vi (h:At B (mid B V W) s) (hp:¬ (x∈V.ps∨x∈V.ws)) (hl:V.ps.length < 1000)(hk:V.kf x=(0,1)):ũ [.ref B,.str x] s=.ok .Ē (s.set (B+1) (.dK (kT id (λ p=>jC (V.kf p)) (V.ps++[x])))):=by
 apply R.wp.eq
 unfold ũ fH
 simp only[↓WS,↓WE,↓WV,Lq,â,UU,Ç,↓Ô,↓ĝ ((g9 (m:="need_free") h (by decide +kernel) nj yr).trans (o9 h hp)),↓ĝ (gH (gY h) (jB B V.h)),↓BY (sU (jy h) (by rw[CV];exact hl))]
 rw[sV (λ z=>hp (.inl z)) (by rw[hk];rfl)]
theorem zd (h:At B (mid B V W) s) (hp:¬ (x∈V.ps∨x∈V.ws)) (hl:V.ws.length < 1000):aF [.ref B,.str x] s=.ok .Ē (s.set (B+2) (.dK (kT id (λ _=>.tup []) (V.ws++[x])))):=by
 apply R.wp.eq
 unfold aF ie
 simp only[↓WS,↓WE,↓WV,Lq,â,UU,Ç,↓Ô,↓ĝ ((g9 (m:="need_free") h (by decide +kernel) nj yr).trans (o9 h hp)),↓ĝ (gH (gY h) (qF B V.h)),↓BY (sU (qA h) (by rw[CV];exact hl))]
 rw[sV (g:=λ _=>.tup []) (λ z=>hp (.inr z)) rfl]
theorem BI (h:At B (mid B V W) s) (d:Int):aG [.ref B,.int d] s=.ok .Ē (s.set B (.ins 9 (w_ B d))):=by
 apply R.wp.eq
 unfold aG iu
 simp only[↓WS,↓WE,↓WV,Lq,â,UU,Ç,↓Ô,↓Oq,oo (gY h)]
 refine⟨by show 8 < 1000;lia,rfl⟩
theorem zC (h:At B (mid B V W) s):aT [.ref B] s=.ok (.int V.h) s:=by
 apply R.wp.eq
 unfold aT gA
 simp only[↓WS,↓WE,↓WV,Lq,â,UU,Ç,↓Ô,↓ĝ (gH (gY h) (Ml B V.h))]
end
end Ro
namespace Mm
open PySem L2
mutual
theorem Rp.low:∀ {d:Dt}{v:AV},Rp b s d v->v.low s.length=true
 | .Ē,_,h=>by unfold Rp at h;subst h;simp only[AV.low]
 | .bl _,_,h=>by unfold Rp at h;exact h.elim
 | .int _,_,h=>by unfold Rp at h;subst h;simp only[AV.low]
 | .str _,_,h=>by unfold Rp at h;subst h;simp only[AV.low]
 | .tup l,_,h=>by
  unfold Rp at h
  obtain⟨xs,rfl,_,h⟩:=h
  simp only[AV.low];exact bQ.low h
 | .lst l,_,h=>by
  unfold Rp at h
  obtain⟨i,xs,rfl,_,h1,_⟩:=h
  simp only[AV.low,eN]
  exact(Æ.mp (ć h1)).1
theorem bQ.low:∀ {l:Á Dt}{xs:Á AV},bQ b s l xs->Ĩ s.length xs=true
 | [],_,h=>by unfold bQ at h;subst h;simp only[Ĩ]
 | _ :: _,_,h=>by
  unfold bQ at h
  obtain⟨x,r,rfl,h1,h2⟩:=h
  simp only[Ĩ,Rp.low h1,bQ.low h2];rfl
end
theorem bQ.append:∀ {l q:Á Dt}{xs ys:Á AV},bQ b s l xs->bQ b s q ys->bQ b s (l++q) (xs++ys)
 | [],_,_,_,h,k=>by unfold bQ at h;subst h;exact k
 | _ :: _,_,_,_,h,k=>by
  unfold bQ at h
  obtain⟨x,r,rfl,h1,h2⟩:=h
  exact .cons h1 (bQ.append h2 k)
theorem bQ.one (h:Rp b s d v):bQ b s [d] [v]:=.cons h .nil
theorem cU (c:Cl s)(h:bQ b s l xs):Cl (s++[.lst xs]):=c.add (by
 have:=h.low
 simp only[Ő,kg,AO.low,dc]
 exact Ĩ.mono (by simp) this)
theorem bD (hb:b<=s.length)(hl:l.length<=1000)(h:bQ b s l xs):Rp b (s++[.lst xs]) (.lst l) (.ref s.length):=pZ (Ro.ħ s xs) hb hl (h.app _)
def nice (b:Nat):AV->Bool
 | .ref i=>decide (b<=i)
 | .sq _=>false
 | _=>true
structure Ct (b:Nat)(s:S):Prop where
 cl:Cl s
 nl:∀ i o,b<=i->s[i]? = À o->∃ xs,o=.lst xs/\xs.length<=1000/\(∀ v∈xs,nice b v=true)/\Ĩ i xs=true
 le:b<=s.length
theorem Rp.nice (h:Rp b s d v):nice b v=true:=by
 cases v with
 | ref i=>
  cases d with
  | lst l=>unfold Rp at h;obtain⟨j,xs,e,hb,_⟩:=h;cases e;exact Ī hb
  | Ē=>unfold Rp at h;cases h
  | bl _=>unfold Rp at h;exact h.elim
  | int _=>unfold Rp at h;cases h
  | str _=>unfold Rp at h;cases h
  | tup _=>unfold Rp at h;obtain⟨_,e,_⟩:=h;cases e
 | sq l=>
  cases d with
  | lst l=>unfold Rp at h;obtain⟨j,xs,e,hb,_⟩:=h;cases e
  | Ē=>unfold Rp at h;cases h
  | bl _=>unfold Rp at h;exact h.elim
  | int _=>unfold Rp at h;cases h
  | str _=>unfold Rp at h;cases h
  | tup _=>unfold Rp at h;obtain⟨_,e,_⟩:=h;cases e
 | _=>rfl
theorem bQ.nice:∀ {l:Á Dt}{xs:Á AV},bQ b s l xs->∀ v∈xs,nice b v=true
 | [],_,h=>by unfold bQ at h;subst h;intro v hv;cases hv
 | _ :: _,_,h=>by
  unfold bQ at h
  obtain⟨x,r,rfl,h1,h2⟩:=h
  intro v hv
  rcases Þ.mp hv with rfl|hv
  ·exact h1.nice
  ·exact bQ.nice h2 v hv
theorem Ct.push (c:Ct b s)(hl:l.length<=1000)(h:bQ b s l xs):Ct b (s++[.lst xs]):=⟨cU c.cl h,λ i o hi e=>by
 by_cases k:i < s.length
 ·rw[á k]at e;exact c.nl i o hi e
 ·rw[ß (by lia)]at e
  have hz:i - s.length=0:=by
   have:=(Æ.mp e).1
   simp at this;lia
  rw[hz]at e
  cases e
  exact⟨xs,rfl,by rw[<-h.length];exact hl,h.nice,by have:=h.low;rwa [show i=s.length by lia]⟩,by have:=c.le;simp;lia⟩
theorem Ct.start (c:Cl s):Ct s.length s:=⟨c,λ i o hi e=>absurd (Æ.mp e).1 (by lia),Ï _⟩
theorem vj (h:Rp b s (.lst l) v) (k:Rp b s (.lst q) w) (hl:l.length+q.length<=1000)(hb:b<=s.length):∃ xs,cw v w s=.ok (.ref s.length) (s++[.lst xs])/\bQ b s (l++q) xs/\Rp b (s++[.lst xs]) (.lst (l++q)) (.ref s.length):=by
 unfold Rp at h k
 obtain⟨i,xs,rfl,_,h1,_,h2⟩:=h
 obtain⟨j,ys,rfl,_,k1,_,k2⟩:=k
 have l1:=h2.length
 have l2:=k2.length
 refine⟨xs++ys,Ht h1 k1 (BP (by lia)),h2.append k2,bD hb (by simp;lia) (h2.append k2)⟩
theorem nC:aJ jj test g0 [] [] env s acc=.ok acc s:=by unfold aJ;exact Ñ (show x_ [] s from λ p hp=>nomatch hp)
theorem lQ (h:ï s i=À xs):Ks (.ref i) s=.ok (xs,[(i,xs)]) s:=by
 show(need (ï s i) λ xs=>R.ok (xs,[(i,xs)]) s)=_
 rw[h];rfl
theorem lE {b:Nat}(C:S->Prop){names:Á Str}{i:Nat}{s:S}{g0:Ev}{x0:Ë AV}{rest:En}(f:Str->Dt)(hg:ï s i=À (names.map AV.str)) (c:C s)
  (h:∀ x∈names,∀ e,C (s++e)->(g0 (À (.str x) :: rest) (s++e)).wp λ v s'=>∃ e',s'=s++e++e'/\C s'/\Rp b s' (f x) v) :
  (aJ (gN 0) j_ g0 [(i,names.map AV.str)] (names.map AV.str) (x0 :: rest) s []).wp λ acc s'=>∃ e,s'=s++e/\C s'/\bQ b s' (names.map f) acc:=by
 refine og (λ xs acc env st=>∃ done r x e,names=done++r/\xs=r.map AV.str/\env=x :: rest/\st=s++e/\C st/\bQ b st (done.map f) acc) ?_ ?_ ?_ _ _ _ _ ⟨[],names,x0,[],rfl,rfl,rfl,by simp,c,.nil⟩
 ·rintro _ _ _ st ⟨_,_,_,e,_,_,_,rfl,_⟩ p hp
  rw[ò.mp hp]
  exact ā hg
 ·rintro acc env st ⟨done,r,x,e,e1,e2,rfl,rfl,c1,h1⟩
  cases r with
  | cons=>cases e2
  | nil=>rw[jX]at e1;subst e1;exact⟨e,rfl,c1,h1⟩
 ·rintro v r acc env st ⟨done,r',x,e,e1,e2,rfl,rfl,c1,h1⟩
  cases r' with
  | nil=>cases e2
  | cons y r'=>
   cases e2
   walk_at "w"
   refine(h y (by rw[e1];simp) e c1).mono ?_
   rintro v s' ⟨e',rfl,c2,h2⟩
   exact⟨done++[y],r',_,e++e',by rw[e1];simp,rfl,rfl,by simp,c2,by rw[Š];exact(h1.app e').append (.one h2)⟩
theorem vq (h1:jj v env s=.nx e1 s)(h2:test e1 s=.ok true s)(h3:g0 e1 s=.ok x s)(hg:x_ gs s:=by exact λ p hp=>nomatch hp):aJ jj test g0 gs (v :: r) env s acc=aJ jj test g0 gs r e1 s (acc++[x]):=by
 rw[aJ,Ñ hg,h1]
 dsimp only
 rw[h2]
 show(if true=true then (g0 e1 s).calm.bind λ x s3=>aJ jj test g0 gs r e1 s3 (acc++[x]) else aJ jj test g0 gs r e1 s acc)=_
 rw[Ñ rfl,h3]
 rfl
theorem jw (h1:jj v env s=.nx e1 s)(h2:test e1 s=.ok false s)(hg:x_ gs s:=by exact λ p hp=>nomatch hp):aJ jj test g0 gs (v :: r) env s acc=aJ jj test g0 gs r e1 s acc:=by
 rw[aJ,Ñ hg,h1]
 dsimp only
 rw[h2]
 show(if false=true then (g0 e1 s).calm.bind λ x s3=>aJ jj test g0 gs r e1 s3 (acc++[x]) else aJ jj test g0 gs r e1 s acc)=_
 rw[Ö (by decide)]
end Mm
namespace Ro
open PySem L2 Mm
abbrev qR:Str:="by_days.<locals>.<lambda>"
structure lV (B:Nat)(V W:Wl)(s:S):Prop where
 at_:At B (mid B V W) s
 cl:Cl s
 tab:s.any (tabAt 20 qR)=true
theorem lV.app {B:Nat}{V W:Wl}{s e:S}(h:lV B V W s)(c:Cl (s++e)):lV B V W (s++e):=⟨h.at_.app e,c,by rw[List.any_append,h.tab];rfl⟩
theorem zx {B:Nat}{V W:Wl}{s:S}(h:At B (mid B V W) s) {f:Str}{v:AV}{l:En}(k:(w_ B V.h).lookup f=À v):cj (bC 9 f) (mv 0) (À (.ref B) :: l) s=.ok v s:=by
 unfold cj
 rw[nj,ą]
 exact gH (gY h) k
theorem Aa (h:j8 s i=À kvs)(t:jd kvs=À ks)(l:ks.length < 64)(e:m env s=.ok (.ref i) s):pJ m env s=.ok ((ù ks).map AV.str) s:=by
 unfold pJ
 rw[e,ą]
 dsimp only
 rw[h,ê,t,ê,Ñ l]
theorem Gy (h:j8 s i=À [])(e:m env s=.ok (.ref i) s):vD m env s=.ok [] s:=by
 unfold vD
 rw[e,ą]
 dsimp only
 rw[h]
 rfl
def Bi (l:Á Hn):Á Hn:=l.mergeSort λ a b=>yh (Ō a) (Ō b)
theorem oj (l:Á Hn):(Bi l).Perm l:=cx ..
theorem Bj (l:Á Hn):(Bi l).length=l.length:=(oj l).length_eq
theorem tV (l:Á Hn):(Bi l).Pairwise λ a b=>yh (Ō a) (Ō b)=true:=
 f9 (le:=λ a b=>yh (Ō a) (Ō b)) (λ a b c h k=>yj h k) (λ a b=>yi _ _) l
def Em (l:Á Hn)(p:Str):Á Hn:=(Bi l).filter λ x=>decide (x.1=p)
def tE (x:Hn):AV:=.tup [.int x.2.1,.str x.2.2.1,jC x.2.2.2]
def iE (x:Hn):AV:=.tup [.tup [.str x.1,.int x.2.1],hV x]
theorem yx:∀ l:Á Hn,pW (l.map hK)=À (l.map Ō)
 | []=>rfl
 | x :: r=>by
  show(pW (r.map hK)).map (Ō x :: ·)=_
  rw[yx r];rfl
theorem yI:∀ {l:Á Hn}{x:Hn},(l.map Ō).Nodup->x∈l->Ů (l.map hK) (eI (Ō x))=À (hV x)
 | y :: r,x,nd,h=>by
  rw[Ó,š]at nd
  show(if eI (Ō y)=eI (Ō x) then À (hV y) else Ů (r.map hK) (eI (Ō x)))=_
  rcases Þ.mp h with rfl|h
  ·rw[Ñ rfl]
  ·rw[Ö λ z=>nd.1 (by rw[nM (a:=Ō y) (b:=Ō x) z];exact Ŕ.mpr ⟨x,h,rfl⟩)]
   exact yI nd.2 h
theorem Kh (h:Lk s i=À (l.map hK)) (nd:(l.map Ō).Nodup) (hl:l.length < 64)(e:m env s=.ok (.ref i) s):oi m env s=.ok ((Bi l).map iE) s:=by
 unfold oi
 rw[e,ą]
 dsimp only
 rw[h,ê,yx,ê,Ñ (by rw[Õ];exact hl)]
 congr 1
 rw[<-wz ((oj l).map Ō) (Ř.mpr (tV l)),DL]
 refine List.map_congr_left λ x hx=>?_
 show AV.tup [.tup [.str x.1,.int x.2.1],(Ů (l.map hK) (eI (Ō x))).getD .Ē]=_
 rw[yI nd ((oj l).mem_iff.mp hx)];rfl
theorem pF (p:Str)(s:S):∀ (l:Á Hn) (a b c d:Ë AV) (acc:Á AV),aJ (gT 2 (Ĳ (gT 2 (Ĳ (gN 0) (Ĳ (gN 1) gm))) (Ĳ (gT 2 (Ĳ (gN 2) (Ĳ (gN 3) gm))) gm))) (cB (Û cM (mv 0) (mv 4))) (gL (Ê (mv 1) (Ê (mv 2) (Ê (mv 3) Ü)))) [] (l.map iE) [a,b,c,d,À (.str p)] s acc=.ok (acc++(l.filter λ x=>decide (x.1=p)).map tE) s
 | [],a,b,c,d,acc=>by rw[bT,nC];simp
 | x :: r,a,b,c,d,acc=>by
  have ht:∀ u v w:Ë AV,cB (Û cM (mv 0) (mv 4)) [À (.str x.1),u,v,w,À (.str p)] s=.ok (decide (x.1=p)) s:=λ u v w=>by
   apply R.wp.eq
   walk_at "w"
  have he:gL (Ê (mv 1) (Ê (mv 2) (Ê (mv 3) Ü))) [À (.str x.1),À (.int x.2.1),À (.str x.2.2.1),À (jC x.2.2.2),À (.str p)] s=.ok (tE x) s:=by
   apply R.wp.eq
   walk_at "w"
   rfl
  by_cases hx:x.1=p
  ·rw[Ó,vq (e1:=[À (.str x.1),À (.int x.2.1),À (.str x.2.2.1),À (jC x.2.2.2),À (.str p)]) rfl (by rw[ht,Ī hx]) he,pF p s r,f7 (by simp[hx])]
   simp
  ·rw[Ó,jw (e1:=[À (.str x.1),À (.int x.2.1),À (.str x.2.2.1),À (jC x.2.2.2),À (.str p)]) rfl (by rw[ht,ÿ hx]),pF p s r,f6 (by simp[hx])]
section
variable {B:Nat}{V W:Wl}{s:S}
theorem iK (h:At B (mid B V W) s) (l:V.ps.length < 64):ċ [.ref B] s=.ok (.ref s.length) (s++[.lst ((ù V.ps).map AV.str)]):=by
 apply R.wp.eq
 unfold ċ dX
 simp only[↓WS,↓WE,↓WV,Lq,â,UU,Ç,↓Ô,↓ĝ (Aa (jy h) (Af _ _ _) (by rw[lY];exact l) (zx h (jB B V.h))),lY]
theorem xG (h:At B (mid B V W) s) (l:V.ws.length < 64):aD [.ref B] s=.ok (.ref s.length) (s++[.lst ((ù V.ws).map AV.str)]):=by
 apply R.wp.eq
 unfold aD fJ
 simp only[↓WS,↓WE,↓WV,Lq,â,UU,Ç,↓Ô,↓ĝ (Aa (qA h) (Af _ _ _) (by rw[lY];exact l) (zx h (qF B V.h))),lY]
theorem BJ (h:At B (mid B V W) s) (hp:x∈V.ws):bY [.ref B,.str x] s=.ok (.tup []) s:=by
 apply R.wp.eq
 unfold bY jq
 simp only[↓WS,↓WE,↓WV,Lq,â,UU,Ç,↓Ô,↓ĝ ((g9 (m:="need_work") h (by decide +kernel) nj yr).trans (o_ h hp)),↓ĝ (gH (gY h) (qF B V.h)),↓ĝ (xU (qA h) (Ag hp))]
theorem Br (h:At B (mid B V W) s) (hp:x∈V.ps):bX [.ref B,.str x] s=.ok (jC (V.kf x)) s:=by
 apply R.wp.eq
 unfold bX jo
 simp only[↓WS,↓WE,↓WV,Lq,â,UU,Ç,↓Ô,↓ĝ ((g9 (m:="need_person") h (by decide +kernel) nj yr).trans (eQ h hp)),↓ĝ (gH (gY h) (jB B V.h)),↓ĝ (xU (jy h) (Ag hp))]
theorem qM (h:At B (mid B V W) s) (nd:(V.hs.map Ō).Nodup) (hl:V.hs.length < 64){x:Str}(hp:x∈V.ps):Ś [.ref B,.str x] s=.ok (.ref s.length) (s++[.lst ((Em V.hs x).map tE)]):=by
 apply R.wp.eq
 unfold Ś ij
 have e1:∀ l,oi (cj (bC 9 "hands") (mv 0)) (À (.ref B) :: l) s=.ok ((Bi V.hs).map iE) s:=λ l=>Kh (qB h) nd hl (zx h (qE B V.h))
 simp only[↓WS,↓WE,↓WV,Lq,â,UU,Ç,↓Ô,↓ĝ ((g9 (m:="need_person") h (by decide +kernel) nj yr).trans (eQ h hp)),↓ĝ (e1 _)]
 refine⟨BP (by rw[Õ,Bj];lia),?_⟩
 rw[ĝ (pF x s (Bi V.hs) _ _ _ _ _)]
 exact⟨rfl,rfl⟩
theorem vO (h:j8 s i=À kvs):(lI "dict" (.ref i) s).isSome=true:=by
 have e:=i6 h
 unfold lI
 simp only[e];rfl
theorem Ek (h:j8 s i=À [])(e1:d env s=.ok (.ref i) s) (e2:y env s=.ok (.str x) s):yn d y env s=.ok .Ē s:=by
 obtain⟨u,eu⟩:=bU.mp (vO h)
 unfold yn
 rw[e1,ą,eu,ê,e2,ą]
 show(need (j8 s i) λ kvs=>need (fR (.str x)) λ k=>R.ok ((Ů kvs k).getD .Ē) s)=_
 rw[h];rfl
theorem zL (h:At B (mid B V W) s) {x:Str}(hp:x∈V.ws):bt [.ref B,.str x] s=.ok .Ē s:=by
 apply R.wp.eq
 unfold bt iq
 simp only[↓WS,↓WE,↓WV,Lq,â,UU,Ç,↓Ô,↓ĝ ((g9 (m:="need_work") h (by decide +kernel) nj yr).trans (o_ h hp)),↓ĝ (Ek (FH h) (zx h (FK B V.h)) yr)]
theorem zX (h:At B (mid B V W) s):aU [.ref B] s=.ok (.ref s.length) (s++[.lst []]):=by
 apply R.wp.eq
 unfold aU gD
 simp only[↓WS,↓WE,↓WV,Lq,â,UU,Ç,↓Ô,↓ĝ (Gy (HA h) (zx h (HX B V.h))),↓ĝ nC,aO,ñ]
theorem tD (h:ï s i=À [])(t:s.any (tabAt 20 qR)=true):dM [.ref i] s=.ok (.ref s.length) (s++[.lst []]):=by
 apply R.wp.eq
 have e:∀ l,vE 20 qR (mv 0) (À (.ref i) :: l) s=.ok [] s:=λ l=>by
  unfold vE
  rw[nj,ą]
  dsimp only
  rw[h,ê,Ñ ⟨rfl,t⟩]
 unfold dM su
 simp only[↓WS,↓WE,↓WV,Lq,â,UU,Ç,↓Ô,↓ĝ (e _)]
theorem take_nil (c:Cl s)(e:m env s=.ok (.ref s.length) (s++[.lst []])):nN m env s=.ok [] s:=by
 apply R.wp.eq
 simp only[↓WS,↓WE,↓WV,Lq,â,UU,Ç,↓Ô,↓ĝ e,ħ,↓mS,cG]
 exact⟨Ï _,c,by simp[Ĩ]⟩
theorem xt (h:lV B V W s):aC [.ref B] s=.ok (.ref s.length) (s++[.lst []]):=by
 apply R.wp.eq
 have e:∀ l,ę 1 dM (Ê (cj (bC 9 "money") (mv 0)) Ü) (À (.ref B) :: l) s=.ok (.ref s.length) (s++[.lst []]):=λ l=>by
  unfold ę Ê Ü
  rw[zx h.at_ (HV B V.h)]
  exact tD (IH h.at_) h.tab
 unfold aC fI
 simp only[↓WS,↓WE,↓WV,Lq,â,UU,Ç,↓Ô,↓ĝ (take_nil h.cl (e _))]
theorem zq (h:lV B V W s):aS [.ref B] s=.ok (.ref s.length) (s++[.lst []]):=by
 apply R.wp.eq
 have e:∀ l,ę 1 dM (Ê (cj (bC 9 "debts") (mv 0)) Ü) (À (.ref B) :: l) s=.ok (.ref s.length) (s++[.lst []]):=λ l=>by
  unfold ę Ê Ü
  rw[zx h.at_ (HU B V.h)]
  exact tD (IG h.at_) h.tab
 unfold aS gz
 simp only[↓WS,↓WE,↓WV,Lq,â,UU,Ç,↓Ô,↓ĝ (take_nil h.cl (e _))]
end
def hD (x:Hn):Dt:=.tup [.int x.2.1,.str x.2.2.1,.tup [.int x.2.2.2.1,.int x.2.2.2.2]]
def wF (V:Wl):Á Dt:=[.lst ((ù V.ps).map .str),.lst ((ù V.ws).map .str),.lst ((ù V.ws).map λ _=>.tup []),.lst ((ù V.ps).map λ p=>.lst ((Em V.hs p).map hD))]
def BU (V:Wl):Á Dt:=[.lst ((ù V.ws).map λ _=>.Ē),.lst ((ù V.ps).map λ p=>.tup [.int (V.kf p).1,.int (V.kf p).2])]
def BV (V:Wl):Á Dt:=[.lst [],.int V.h,.lst [],.lst []]
def told (V:Wl):Dt:=.lst (wF V++BU V++BV V)
theorem dq (s:S)(l:Á Str):bQ b s (l.map Dt.str) (l.map AV.str):=bQ.map λ a _=>Du s a
theorem C5 (c:Cl s):Cl (s++[.lst []]):=cU (b:=0) (l:=[]) c .nil
theorem C6 (c:Ct b s):Ct b (s++[.lst []]):=c.push (l:=[]) (by simp) .nil
theorem sH (hb:b<=s.length):Rp b (s++[.lst []]) (.lst []) (.ref s.length):=bD hb (by simp) .nil
theorem Ds (s:S)(a:Int × Int):Rp b s (.tup [.int a.1,.int a.2]) (jC a):=zY (by simp) (.cons (wg s _) (.one (wg s _)))
theorem ji (s:S)(l:Á Hn):bQ b s (l.map hD) (l.map tE):=bQ.map λ x _=>zY (by simp) (.cons (wg s _) (.cons (Du s _) (.one (Ds s _))))
theorem qL (h:l.length < 64)(p:Str):((Em l p).map hD).length<=1000:=by
 rw[Õ]
 have:=oW (λ x:Hn=>decide (x.1=p)) (Bi l)
 rw[Bj]at this
 unfold Em
 lia
theorem jO:x∈ù l ↔ x∈l:=(jR l).mem_iff
theorem i_ (h:l.length < 64)(f:Str->α):((ù l).map f).length<=1000:=by rw[Õ,sX];lia
theorem Of (h:l.length < 64)(f:Str->α):((ù l).map f).length<=sizeLine:=BP (i_ h f)
theorem WG:([a,b,c,d].length<=sizeLine)=True:=yX (BP (by show 4<=1000;lia))
section
variable {B:Nat}{V W:Wl}{s:S}
theorem AZ (hb:b=s.length)(h:lV B V W s)(lp:V.ps.length < 64)(lw:V.ws.length < 64)(lh:V.hs.length < 64)(nd:(V.hs.map Ō).Nodup):(Ŷ [.ref B] s).wp λ v s'=>∃ e,s'=s++e/\Ct b s'/\Rp b s' (told V) v:=by
 have c0:Ct b s:=by rw[hb];exact Ct.start h.cl
 have c1:Ct b (s++[.lst ((ù V.ws).map AV.str)]):=c0.push (i_ lw Dt.str) (dq _ _)
 have h1:=h.app c1.cl
 have c2:Ct b (s++[.lst ((ù V.ws).map AV.str)]++[.lst ((ù V.ps).map AV.str)]):=c1.push (i_ lp Dt.str) (dq _ _)
 have h2:=h1.app c2.cl
 have bip:b<=(s++[AO.lst ((ù V.ws).map AV.str)]).length:=c1.le
 have biw:b<=s.length:=c0.le
 clear hb c0
 have hw:ï (s++[.lst ((ù V.ws).map AV.str)]++[.lst ((ù V.ps).map AV.str)]) s.length=À ((ù V.ws).map AV.str):=ā (ħ _ _)
 have hp:ï (s++[.lst ((ù V.ws).map AV.str)]++[.lst ((ù V.ps).map AV.str)]) (s++[AO.lst ((ù V.ws).map AV.str)]).length=À ((ù V.ps).map AV.str):=ħ _ _
 unfold Ŷ iy
 simp only[↓WS,↓WE,↓WV,Lq,â,UU,Ç,↓Ô,↓ĝ ((nR (m:="work_names") h.at_ (by decide +kernel) nj).trans (xG h.at_ lw)),↓ĝ ((nR (m:="person_names") h1.at_ (by decide +kernel) nj).trans (iK h1.at_ lp))]
 rw[È]at *
 generalize ([AO.lst ((ù V.ws).map AV.str)]++[AO.lst ((ù V.ps).map AV.str)])=e0 at *
 generalize (s++[AO.lst ((ù V.ws).map AV.str)]).length=ip at *
 generalize s.length=iw at *
 clear h1 c1
 simp only[↓WS,↓WE,↓WV,Lq,â,UU,Ç,↓Ô,↓ĝ (lQ hw),WG]
 refine⟨Of lw _,(lE (b:=b) (Ct b) (λ _=>Dt.tup []) hw c2 ?_).mono ?_⟩
 ·intro x hx e ce
  rw[ĝ ((g9 (m:="rows_of") (h2.app ce.cl).at_ (by decide +kernel) yr nj).trans (BJ (h2.app ce.cl).at_ (jO.mp hx)))]
  exact⟨[],by simp,ce,zY (by simp) .nil⟩
 rintro lL s3 ⟨e1,rfl,c3,r3⟩
 have c4:=c3.push (i_ lw _) r3
 have p4:=bD c3.le (i_ lw _) r3
 have h4:lV B V W (s++e0++e1++[.lst lL]):=by rw[È];exact h2.app (by rw[<-È];exact c4.cl)
 have MG:ï (s++e0++e1++[.lst lL]) iw=À ((ù V.ws).map AV.str):=ā (ā hw)
 have Iq:ï (s++e0++e1++[.lst lL]) ip=À ((ù V.ps).map AV.str):=ā (ā hp)
 rw[È,È]at c4 p4 h4 MG Iq
 (try simp only[È]);(try simp only[È]at c4);(try simp only[È]at p4);(try simp only[È]at h4);(try simp only[È]at MG);(try simp only[È]at Iq)
 generalize e0++(e1++[AO.lst lL])=e2 at *
 generalize (s++(e0++e1)).length=ir at *
 clear r3 c3 h2 c2 hw hp
 simp only[↓WS,↓WE,↓WV,Lq,â,UU,Ç,↓Ô,↓ĝ (lQ Iq),WG]
 refine⟨Of lp _,(lE (b:=b) (Ct b) (λ p=>Dt.lst ((Em V.hs p).map hD)) Iq c4 ?_).mono ?_⟩
 ·intro x hx e ce
  rw[ĝ ((g9 (m:="hands_of") (h4.app ce.cl).at_ (by decide +kernel) yr nj).trans (qM (h4.app ce.cl).at_ nd lh (jO.mp hx)))]
  exact⟨_,rfl,ce.push (qL lh x) (ji _ _),bD ce.le (qL lh x) (ji _ _)⟩
 rintro handsL s5 ⟨e3,rfl,c5,r5⟩
 have c6:=c5.push (i_ lp _) r5
 have p6:=bD c5.le (i_ lp _) r5
 have pr6:Rp b (s++e2++e3++[.lst handsL]) (.lst ((ù V.ws).map λ _=>.tup [])) (.ref ir):=(p4.app e3).app _
 have h6:lV B V W (s++e2++e3++[.lst handsL]):=by rw[È];exact h4.app (by rw[<-È];exact c6.cl)
 have Zx:ï (s++e2++e3++[.lst handsL]) iw=À ((ù V.ws).map AV.str):=ā (ā MG)
 have Zp:ï (s++e2++e3++[.lst handsL]) ip=À ((ù V.ps).map AV.str):=ā (ā Iq)
 have rA:bQ b (s++e2++e3++[.lst handsL]) (wF V) [.ref ip,.ref iw,.ref ir,.ref (s++e2++e3).length]:=.cons (pZ Zp bip (i_ lp _) (dq _ _)) (.cons (pZ Zx biw (i_ lw _) (dq _ _)) (.cons pr6 (.one p6)))
 have c7:=c6.push (show(wF V).length<=1000 by show 4<=1000;lia) rA
 have p7:=bD c6.le (show(wF V).length<=1000 by show 4<=1000;lia) rA
 have h7:=h6.app c7.cl
 have XY:=ā (e:=[.lst [.ref ip,.ref iw,.ref ir,.ref (s++e2++e3).length]]) Zx
 have Zq:=ā (e:=[.lst [.ref ip,.ref iw,.ref ir,.ref (s++e2++e3).length]]) Zp
 clear rA c6 p6 pr6 h6 Zx Zp r5 c5 h4 c4 MG Iq p4
 (try simp only[È]);(try simp only[È]at c7);(try simp only[È]at p7);(try simp only[È]at h7);(try simp only[È]at XY);(try simp only[È]at Zq)
 generalize e2++(e3++([AO.lst handsL]++[AO.lst [.ref ip,.ref iw,.ref ir,.ref (s++(e2++e3)).length]]))=e5 at *
 generalize (s++(e2++(e3++[AO.lst handsL]))).length=ia at *
 simp only[↓WS,↓WE,↓WV,Lq,â,UU,Ç,↓Ô,↓ĝ (lQ XY),WG]
 refine⟨Of lw _,(lE (b:=b) (Ct b) (λ _=>Dt.Ē) XY c7 ?_).mono ?_⟩
 ·intro x hx e ce
  rw[ĝ ((g9 (m:="known_of") (h7.app ce.cl).at_ (by decide +kernel) yr nj).trans (zL (h7.app ce.cl).at_ (jO.mp hx)))]
  exact⟨[],by simp,ce,Kb _⟩
 rintro knL s8 ⟨e6,rfl,c8,r8⟩
 have c9:=c8.push (i_ lw _) r8
 have p9:=bD c8.le (i_ lw _) r8
 have Z4:Rp b (s++e5++e6++[.lst knL]) (.lst (wF V)) (.ref ia):=(p7.app e6).app _
 have h9:lV B V W (s++e5++e6++[.lst knL]):=by rw[È];exact h7.app (by rw[<-È];exact c9.cl)
 have XU:ï (s++e5++e6++[.lst knL]) ip=À ((ù V.ps).map AV.str):=ā (ā Zq)
 (try simp only[È]);(try simp only[È]at c9);(try simp only[È]at p9);(try simp only[È]at Z4);(try simp only[È]at h9);(try simp only[È]at XU)
 generalize e5++(e6++[AO.lst knL])=e7 at *
 generalize (s++(e5++e6)).length=ik at *
 clear r8 c8 h7 c7 XY Zq p7
 simp only[↓WS,↓WE,↓WV,Lq,â,UU,Ç,↓Ô,↓ĝ (lQ XU),WG]
 refine⟨Of lp _,(lE (b:=b) (Ct b) (λ p=>Dt.tup [.int (V.kf p).1,.int (V.kf p).2]) XU c9 ?_).mono ?_⟩
 ·intro x hx e ce
  rw[ĝ ((g9 (m:="keep_of") (h9.app ce.cl).at_ (by decide +kernel) yr nj).trans (Br (h9.app ce.cl).at_ (jO.mp hx)))]
  exact⟨[],by simp,ce,Ds _ _⟩
 rintro kpL s10 ⟨e8,rfl,SV,Wr⟩
 have Xx:=SV.push (i_ lp _) Wr
 have p11:=bD SV.le (i_ lp _) Wr
 have We:Rp b (s++e7++e8++[.lst kpL]) (.lst (wF V)) (.ref ia):=(Z4.app e8).app _
 have Wn:Rp b (s++e7++e8++[.lst kpL]) (.lst ((ù V.ws).map λ _=>.Ē)) (.ref ik):=(p9.app e8).app _
 have XJ:lV B V W (s++e7++e8++[.lst kpL]):=by rw[È];exact h9.app (by rw[<-È];exact Xx.cl)
 have rB:bQ b (s++e7++e8++[.lst kpL]) (BU V) [.ref ik,.ref (s++e7++e8).length]:=.cons Wn (.one p11)
 have Xy:=Xx.push (show(BU V).length<=1000 by show 2<=1000;lia) rB
 have p12:=bD Xx.le (show(BU V).length<=1000 by show 2<=1000;lia) rB
 obtain⟨ys,ey,r13,p13⟩:=vj (We.app [.lst [.ref ik,.ref (s++e7++e8).length]]) p12 (by show 4+2<=1000;lia) Xy.le
 have Xz:=Xy.push (by show 6<=1000;lia) r13
 simp only[<-È]
 rw[ĝ ey]
 have XM:=(XJ.app Xy.cl).app Xz.cl
 clear r13 rB Xy p12 ey We Wn p11 XJ Xx Wr SV h9 c9 XU p9 Z4
 (try simp only[È]);(try simp only[È]at Xz);(try simp only[È]at p13);(try simp only[È]at XM)
 generalize e7++(e8++([AO.lst kpL]++([AO.lst [.ref ik,.ref (s++(e7++e8)).length]]++[AO.lst ys])))=XC at *
 generalize (s++(e7++(e8++([AO.lst kpL]++[AO.lst [.ref ik,.ref (s++(e7++e8)).length]])))).length=ib at *
 have YJ:=C6 Xz
 have UP:=XM.app YJ.cl
 have YK:=C6 YJ
 have SX:=UP.app YK.cl
 have c16:=C6 YK
 simp only[↓WS,↓WE,↓WV,Lq,â,UU,Ç,↓Ô,↓ĝ ((nR (m:="rate_list") XM.at_ (by decide +kernel) nj).trans (zX XM.at_)),↓ĝ ((nR (m:="half_days") UP.at_ (by decide +kernel) nj).trans (zC UP.at_)),↓ĝ ((nR (m:="money_list") UP.at_ (by decide +kernel) nj).trans (xt UP)),↓ĝ ((nR (m:="debt_list") SX.at_ (by decide +kernel) nj).trans (zq SX)),WG]
 have rC:bQ b (s++XC++[.lst []]++[.lst []]++[.lst []]) (BV V) [.ref (s++XC).length,.int V.h,.ref (s++XC++[AO.lst []]).length,.ref (s++XC++[AO.lst []]++[AO.lst []]).length]:=.cons (((sH Xz.le).app _).app _) (.cons (wg _ _) (.cons ((sH YJ.le).app _) (.one (sH YK.le))))
 have c17:=c16.push (show(BV V).length<=1000 by show 4<=1000;lia) rC
 have p17:=bD c16.le (show(BV V).length<=1000 by show 4<=1000;lia) rC
 obtain⟨zs,ez,r18,p18⟩:=vj ((((p13.app _).app _).app _).app _) p17 (by show 6+4<=1000;lia) c17.le
 have c18:=c17.push (by show 10<=1000;lia) r18
 rw[ĝ ez]
 exact⟨_,by simp only[È];rfl,c18,p18⟩
end
end Ro
namespace Mm
open PySem L2
def Lj (f:Nat)(st:S)(d:Dt)(v:AV):Prop:=f < st.length/\∀ o,Rp 0 (st.set f o) d v
def kJ (f:Nat)(st:S)(l:Á Dt)(xs:Á AV):Prop:=f < st.length/\∀ o,bQ 0 (st.set f o) l xs
theorem E3 {f:Nat}{st e:S}(h:f < st.length)(o:AO):(st++e).set f o=st.set f o++e:=List.set_append_left f o h
theorem Lj.app {f:Nat}{st:S}{d:Dt}{v:AV}(h:Lj f st d v)(e:S):Lj f (st++e) d v:=⟨by have:=h.1;simp;lia,λ o=>by rw[E3 h.1];exact(h.2 o).app e⟩
theorem kJ.app {f:Nat}{st:S}{l:Á Dt}{xs:Á AV}(h:kJ f st l xs)(e:S):kJ f (st++e) l xs:=⟨by have:=h.1;simp;lia,λ o=>by rw[E3 h.1];exact(h.2 o).app e⟩
theorem kJ.set (h:kJ f st l xs)(o:AO):kJ f (st.set f o) l xs:=⟨by rw[aP];exact h.1,λ o'=>by rw[List.set_set];exact h.2 o'⟩
theorem kJ.R3 (h:kJ f st l xs):bQ 0 st l xs:=by
 have:=h.2 (st[f]'h.1)
 rwa [List.set_getElem_self]at this
theorem kJ.append (h:kJ f st l xs)(k:kJ f st q ys):kJ f st (l++q) (xs++ys):=⟨h.1,λ o=>(h.2 o).append (k.2 o)⟩
theorem kJ.one (h:Lj f st d v):kJ f st [d] [v]:=⟨h.1,λ o=>.one (h.2 o)⟩
theorem vV (n:i≠f)(h:ï st i=À xs)(o:AO):ï (st.set f o) i=À xs:=bB (by rw[ð (Ŝ n)];exact ć h)
theorem N3 (n:i≠f)(e:ï st i=À xs)(hl:l.length<=1000)(h:kJ f st l xs):Lj f st (.lst l) (.ref i):=⟨h.1,λ o=>pZ (vV n e o) (ñ _) hl (h.2 o)⟩
theorem O9 (hl:l.length<=1000)(h:kJ f st l xs):Lj f (st++[.lst xs]) (.lst l) (.ref st.length):=N3 (đ h.1) (Ro.ħ st xs) hl (h.app _)
def PL (Q:Str->AV->Prop):Á Str->Á AV->Prop
 | [],xs=>xs=[]
 | x :: r,xs=>∃ v t,xs=v :: t/\Q x v/\PL Q r t
theorem PL.mono (k:∀ x v,Q x v->Q' x v):∀ {l:Á Str}{xs:Á AV},PL Q l xs->PL Q' l xs
 | [],_,h=>h
 | _ :: _,_,⟨v,t,e,h1,h2⟩=>⟨v,t,e,k _ _ h1,PL.mono k h2⟩
theorem PL.snoc (hv:Q y v):∀ {l:Á Str}{xs:Á AV},PL Q l xs->PL Q (l++[y]) (xs++[v])
 | [],_,h=>by cases h;exact⟨v,[],rfl,hv,rfl⟩
 | _ :: _,_,⟨w,t,e,h1,h2⟩=>by cases e;exact⟨w,t++[v],rfl,h1,PL.snoc hv h2⟩
theorem PL.R3:∀ {l:Á Str}{xs:Á AV},PL (λ x v=>Rp 0 s (f x) v) l xs->bQ 0 s (l.map f) xs
 | [],_,h=>by cases h;exact .nil
 | _ :: _,_,⟨w,t,e,h1,h2⟩=>by cases e;exact .cons h1 (PL.R3 h2)
theorem FG {names:Á Str}{i:Nat}{s:S}{g0:Ev}{x0:Ë AV}{rest:En}(P:S->Str->AV->Prop)(mono:∀ st e x v,P st x v->P (st++e) x v) (hg:ï s i=À (names.map AV.str)) (c:Cl s)
  (h:∀ x∈names,∀ e,Cl (s++e)->(g0 (À (.str x) :: rest) (s++e)).wp λ v s'=>∃ e',s'=s++e++e'/\Cl s'/\P s' x v) :
  (aJ (gN 0) j_ g0 [(i,names.map AV.str)] (names.map AV.str) (x0 :: rest) s []).wp λ acc s'=>∃ e,s'=s++e/\Cl s'/\PL (P s') names acc:=by
 refine og (λ xs acc env st=>∃ done r x e,names=done++r/\xs=r.map AV.str/\env=x :: rest/\st=s++e/\Cl st/\PL (P st) done acc) ?_ ?_ ?_ _ _ _ _ ⟨[],names,x0,[],rfl,rfl,rfl,by simp,c,rfl⟩
 ·rintro _ _ _ st ⟨_,_,_,e,_,_,_,rfl,_⟩ p hp
  rw[ò.mp hp]
  exact ā hg
 ·rintro acc env st ⟨done,r,x,e,e1,e2,rfl,rfl,c1,h1⟩
  cases r with
  | cons=>cases e2
  | nil=>rw[jX]at e1;subst e1;exact⟨e,rfl,c1,h1⟩
 ·rintro v r acc env st ⟨done,r',x,e,e1,e2,rfl,rfl,c1,h1⟩
  cases r' with
  | nil=>cases e2
  | cons y r'=>
   cases e2
   walk_at "w"
   refine(h y (by rw[e1];simp) e c1).mono ?_
   rintro v s' ⟨e',rfl,c2,h2⟩
   exact⟨done++[y],r',_,e++e',by rw[e1];simp,rfl,rfl,by simp,c2,PL.snoc h2 (h1.mono λ x v q=>mono _ e' x v q)⟩
theorem sv {names:Á Str}{i f:Nat}{s:S}{g0:Ev}{x0:Ë AV}{rest:En}(fd:Str->Dt)(hf:f < s.length)(hg:ï s i=À (names.map AV.str)) (c:Cl s)
  (h:∀ x∈names,∀ e,Cl (s++e)->(g0 (À (.str x) :: rest) (s++e)).wp λ v s'=>∃ e',s'=s++e++e'/\Cl s'/\Lj f s' (fd x) v) :
  (aJ (gN 0) j_ g0 [(i,names.map AV.str)] (names.map AV.str) (x0 :: rest) s []).wp λ acc s'=>∃ e,s'=s++e/\Cl s'/\kJ f s' (names.map fd) acc:=by
 refine(FG (λ st x v=>Lj f st (fd x) v) (λ st e x v q=>q.app e) hg c h).mono ?_
 rintro acc s' ⟨e,rfl,c1,p⟩
 exact⟨e,rfl,c1,by simp;lia,λ o=>PL.R3 (p.mono λ x v q=>q.2 o)⟩
theorem append_at (h:ï s i=À xs)(l:xs.length < 1000):Ż (.ref i) [v] s=.ok .Ē (s.set i (.lst (xs++[v]))):=by
 unfold Ż
 simp only[h,ê]
 rw[Ñ (ş (by lia))]
end Mm
namespace Ro
open PySem L2 Mm
theorem jk (B:Nat)(h:Int):Ů (yL B h) (.inr "people")=À (.ref (B+8)):=by rfl
theorem lR (B:Nat)(h:Int):Ů (yL B h) (.inr "works")=À (.ref (B+9)):=by rfl
theorem wK (B:Nat)(h:Int):Ů (yL B h) (.inr "hands")=À (.ref (B+10)):=by rfl
theorem KG (B:Nat)(h:Int):Ů (yL B h) (.inr "known")=À (.ref (B+11)):=by rfl
theorem KI (B:Nat)(h:Int):Ů (yL B h) (.inr "rates")=À (.ref (B+12)):=by rfl
theorem KD (B:Nat)(h:Int):Ů (yL B h) (.inr "keeps")=À (.ref (B+13)):=by rfl
theorem Ov (B:Nat)(h:Int):Ů (yL B h) (.inr "half")=À (.int h):=by rfl
theorem KH (B:Nat)(h:Int):Ů (yL B h) (.inr "money")=À (.ref (B+15)):=by rfl
theorem KC (B:Nat)(h:Int):Ů (yL B h) (.inr "debts")=À (.ref (B+16)):=by rfl
theorem Jl:∀ {l:Á α}{x y:α},(l.map f).Nodup->x∈l->y∈l->f x=f y->x=y
 | z :: r,x,y,nd,hx,hy,e=>by
  rw[Ó,š]at nd
  rcases Þ.mp hx with h1|h1<;>rcases Þ.mp hy with h2|h2
  ·rw[h1,h2]
  ·subst h1;exact absurd (Ŕ.mpr ⟨y,h2,e.symm⟩) nd.1
  ·subst h2;exact absurd (Ŕ.mpr ⟨x,h1,e⟩) nd.1
  ·exact Jl nd.2 h1 h2 e
abbrev S7 (p:Str)(x:Hn):Bool:=decide (x.1=p)
theorem PN (h:yh (Ō a) (Ō b)=true) (e:a.1=b.1):a.2.1<=b.2.1:=by
 have h:(!(oS.blt (uN b.1) (uN a.1) || (!oS.blt (uN a.1) (uN b.1) && decide (b.2.1 < a.2.1))))=true:=h
 rw[e,oS.irrefl]at h
 simpa using h
theorem CP (nd:(l.map Ō).Nodup) (p:Str):((l.filter (S7 p)).map tE).mergeSort Bu=(Em l p).map tE:=by
 have pm:((Em l p).map tE).Perm ((l.filter (S7 p)).map tE):=((oj l).filter _).map tE
 refine((cx _ Bu).trans pm.symm).eq_of_pairwise (le:=λ a b=>Bu a b=true) (λ a b ha hb h1 h2=>?_) (f9 (le:=Bu) (λ a b c h k=>by unfold Bu at *;simp at *;lia) (λ a b=>by unfold Bu;simp;lia) _) ?_
 ·obtain⟨x,hx,rfl⟩:=Ŕ.mp ((cx _ Bu).mem_iff.mp ha)
  obtain⟨y,hy,rfl⟩:=Ŕ.mp (pm.mem_iff.mp hb)
  rw[da]at hx hy
  have e1:x.1=y.1:=(î hx.2).trans (î hy.2).symm
  have e2:x.2.1=y.2.1:=by
   have h1:x.2.1<=y.2.1:=î h1
   have h2:y.2.1<=x.2.1:=î h2
   lia
  rw[Jl nd hx.1 hy.1 (ng e1 e2)]
 ·refine Ř.mpr (((tV l).filter _).imp_of_mem λ {a b} ha hb h=>Ī (PN h ?_))
  exact(î (da.mp ha).2).trans (î (da.mp hb).2).symm
theorem L_ {l:Á Hn}(nd:(l.map Ō).Nodup) (p:Str):(((l.filter (S7 p)).map tE).map sx).Nodup:=by
 rw[DL]
 refine Ř.mpr ((Ř.mp nd).filter _ |>.imp_of_mem λ {a b} ha hb h e=>h (ng ?_ e))
 exact(î (da.mp ha).2).trans (î (da.mp hb).2).symm
theorem vo {i:Nat}{p:Str}{s:S}{gs:Gd}(hg:x_ gs s):∀ (l:Á Hn) (a:Ë AV) (acc:Á AV),aJ (gN 0) (cB (Û cM (Û Ŀ (mv 0) (mc (.int 0))) (mv 1))) (AA (mv 0) (oS (mc (.int 1))) oN) gs (l.map hE) [a,À (.str p)] s acc=.ok (acc++(l.filter (S7 p)).map tE) s
 | [],a,acc=>by
  rw[bT,aJ,Ñ hg];simp
 | x :: r,a,acc=>by
  have ht:cB (Û cM (Û Ŀ (mv 0) (mc (.int 0))) (mv 1)) [À (hE x),À (.str p)] s=.ok (decide (x.1=p)) s:=by
   apply R.wp.eq
   unfold hE
   walk_at "w"
  have he:AA (mv 0) (oS (mc (.int 1))) oN [À (hE x),À (.str p)] s=.ok (tE x) s:=by
   apply R.wp.eq
   unfold hE
   walk_at "w"
   exact⟨rfl,rfl⟩
  by_cases hx:x.1=p
  ·rw[Ó,vq (e1:=[À (hE x),À (.str p)]) rfl (by rw[ht,Ī hx]) he hg,vo (i:=i) hg r,f7 (by simp[hx])]
   simp
  ·rw[Ó,jw (e1:=[À (hE x),À (.str p)]) rfl (by rw[ht,ÿ hx]) hg,vo (i:=i) hg r,f6 (by simp[hx])]
theorem FW (l:Á Hn):(l.map tE).all Ex=true:=by
 rw[ă]
 intro v hv
 obtain⟨x,_,rfl⟩:=Ŕ.mp hv
 rfl
section
variable {B:Nat}{V W:Wl}{s:S}
theorem qa (h:At B (mid B V W) s) (e:Ů (yL B W.h) (.inr x)=À v):Ļ (.ref (B+14)) (.str x) s=.ok v s:=xU (OL h) e
theorem wI (h:At B (mid B V W) s) (e:Ů (yL B W.h) (.inr x)=À v) (em:m env s=.ok (.ref (B+14)) s):Û Ļ m (mc (.str x)) env s=.ok v s:=by
 unfold Û mc
 rw[em,ą,ą]
 exact qa h e
theorem yH:∀ l:Á Str,BW (l.map AV.str)=À l
 | []=>rfl
 | x :: r=>by show(BW (r.map AV.str)).map (x :: ·)=_;rw[yH r];rfl
theorem E5 (h:ï s i=À (l.map AV.str)) (hl:l.length < 64)(e:m env s=.ok (.ref i) s):pK m env s=.ok ((ù l).map AV.str) s:=by
 unfold pK
 rw[e,ą]
 dsimp only
 rw[h,ê,yH,ê,Ñ hl]
theorem Gz (e:m env s=.ok [] s):vG m env s=.ok [] s:=by
 unfold vG
 rw[e,ą]
 rfl
theorem Mv (h:j8 s i=À kvs)(e1:d env s=.ok (.ref i) s) (e2:y env s=.ok (.str x) s) (e3:w env s=.ok z s):vW d y w env s=.ok ((Ů kvs (.inr x)).getD z) s:=by
 obtain⟨u,eu⟩:=bU.mp (vO h)
 unfold vW
 rw[e1,ą,eu,ê,e2,ą,e3,ą]
 show(need (j8 s i) λ kvs=>need (fR (.str x)) λ k=>R.ok ((Ů kvs k).getD z) s)=_
 rw[h];rfl
theorem qO (h:ï s i=À []):aH [.ref i] s=.ok (.ref s.length) (s++[.lst []]):=by
 apply R.wp.eq
 have e:∀ {lc tg te el l},aE lc (GG (mv 0)) tg te el (À (AV.ref i) :: l) s=.ok [] s:=λ {lc tg te el l}=>by
  have e1:GG (mv 0) (À (AV.ref i) :: l) s=.ok ([],[(i,[])]) s:=by
   unfold GG
   rw[nj,ą]
   show(need ((ï s i).map λ xs=>(xs,[(i,xs)])) λ p=>R.ok (xW p.1,p.2) s)=_
   rw[h];rfl
  unfold aE
  rw[e1,ą]
  dsimp only
  rw[Ñ (show([]:Á AV).length<=sizeLine from ñ _)]
  unfold aJ
  exact Ñ (show x_ [(i,[])] s from λ p hp=>by rw[ò.mp hp];exact h)
 unfold aH iz
 simp only[↓WS,↓WE,↓WV,Lq,â,UU,Ç,↓Ô,↓ĝ (Gz e),↓ĝ nC,aO,ñ]
theorem W3:gL (Ê (mc (.int 0)) (Ê (mc (.int 1)) Ü)) env s=.ok (.tup [.int 0,.int 1]) s:=by
 apply R.wp.eq
 walk_at "w"
structure Bd (s:S)(f ip iw:Nat)(P Q:Á AV)(L:Á Dt)(items:Á AV)(st:S):Prop where
 cl:Cl st
 ex:∃ e,st=s++e
 fl:s.length<=f
 hp:ï st ip=À P
 np:ip≠f
 hw:ï st iw=À Q
 nw:iw≠f
 hf:ï st f=À items
 rp:kJ f st L items
theorem Kc (o:AO)(h:bQ 0 t l xs):kJ t.length (t++[o]) l xs:=⟨by simp,λ o'=>by
 have:(t++[o]).set t.length o'=t++[o']:=by rw[hW _ _ (Ï _)];simp
 rw[this];exact h.app _⟩
theorem Bd.append {f ip iw:Nat}{P Q acc:Á AV}{L D:Á Dt}{items:Á AV}{st e:S}(h:Bd s f ip iw P Q L items st)(c:Cl (st++e)) (r:kJ f (st++e) D acc) (hD:D.length<=1000)(hl:items.length < 900) :
  Ż (AV.ref f) [AV.ref (st++e).length] (st++e++[AO.lst acc])=.ok .Ē ((st++e++[AO.lst acc]).set f (AO.lst (items++[AV.ref (st++e).length])))/\
   Bd s f ip iw P Q (L++[.lst D]) (items++[AV.ref (st++e).length]) ((st++e++[AO.lst acc]).set f (AO.lst (items++[AV.ref (st++e).length]))):=by
 have hf:ï (st++e++[AO.lst acc]) f=À items:=ā (ā h.hf)
 have c1:Cl (st++e++[AO.lst acc]):=cU c r.R3
 have p1:Lj f (st++e++[AO.lst acc]) (.lst D) (.ref (st++e).length):=O9 hD r
 have r1:kJ f (st++e++[AO.lst acc]) (L++[.lst D]) (items++[AV.ref (st++e).length]):=((h.rp.app e).app _).append (.one p1)
 refine⟨Mm.append_at hf (by lia),?_⟩
 obtain⟨e0,rfl⟩:=h.ex
 exact {
  cl:=c1.set (bQ.low r1.R3)
  ex:=⟨(e0++e++[AO.lst acc]).set (f - s.length) (AO.lst (items++[AV.ref (s++e0++e).length])),by rw[È,È,hW _ _ h.fl];simp only[È]⟩
  fl:=h.fl
  hp:=vV h.np (ā (ā h.hp)) _
  np:=h.np
  hw:=vV h.nw (ā (ā h.hw)) _
  nw:=h.nw
  hf:=qU hf
  rp:=r1.set _ }
theorem Cv (h:lV B V W s)(lp:W.ps.length < 64)(lw:W.ws.length < 64)(lh:W.hs.length < 64)(nd:(W.hs.map Ō).Nodup) (hk:∀ p∈W.ps,(Ů W.kw (.inr p)).getD (.tup [.int 0,.int 1])=jC (W.kf p)):(ar [.ref (B+14)] s).wp λ v s'=>∃ e,s'=s++e/\Cl s'/\Rp 0 s' (told W) v:=by
 have c1:Cl (s++[.lst ((ù W.ws).map AV.str)]):=cU (b:=0) h.cl (dq _ _)
 have h1:=h.app c1
 have c2:Cl (s++[.lst ((ù W.ws).map AV.str)]++[.lst ((ù W.ps).map AV.str)]):=cU (b:=0) c1 (dq _ _)
 have h2:=h1.app c2
 have hw:ï (s++[.lst ((ù W.ws).map AV.str)]++[.lst ((ù W.ps).map AV.str)]) s.length=À ((ù W.ws).map AV.str):=ā (ħ _ _)
 have hp:ï (s++[.lst ((ù W.ws).map AV.str)]++[.lst ((ù W.ps).map AV.str)]) (s++[AO.lst ((ù W.ws).map AV.str)]).length=À ((ù W.ps).map AV.str):=ħ _ _
 unfold ar jr
 simp only[↓WS,↓WE,↓WV,Lq,â,UU,Ç,↓Ô,↓ĝ (Aa (vv h.at_) (Af _ _ _) (by rw[lY];exact lw) (wI h.at_ (lR B W.h) nj)),lY,↓ĝ (E5 (jh h1.at_) lp (wI h1.at_ (jk B W.h) nj))]
 rw[È]at *
 generalize ([AO.lst ((ù W.ws).map AV.str)]++[AO.lst ((ù W.ps).map AV.str)])=e0 at *
 generalize (s++[AO.lst ((ù W.ws).map AV.str)]).length=ip at *
 generalize s.length=iw at *
 clear h1 c1
 simp only[↓WS,↓WE,↓WV,Lq,â,UU,Ç,↓Ô,↓ĝ (lQ hw)]
 refine⟨Of lw _,(lE (b:=0) Cl (λ _=>Dt.tup []) hw c2 ?_).mono ?_⟩
 ·intro x hx e ce
  simp only[↓WS,↓WE,↓WV,Lq,â,UU,Ç,↓Ô,↓ĝ (qa (h2.app ce).at_ (lR B W.h)),↓ĝ (xU (vv (h2.app ce).at_) (Ag (jO.mp hx)))]
  exact⟨[],by simp,ce,zY (by simp) .nil⟩
 rintro lL s3 ⟨e1,rfl,c3,r3⟩
 have c4:=cU c3 r3
 have p4:=bD (ñ _) (i_ lw _) r3
 have h4:lV B V W (s++e0++e1++[.lst lL]):=by rw[È];exact h2.app (by rw[<-È];exact c4)
 have MG:ï (s++e0++e1++[.lst lL]) iw=À ((ù W.ws).map AV.str):=ā (ā hw)
 have Iq:ï (s++e0++e1++[.lst lL]) ip=À ((ù W.ps).map AV.str):=ā (ā hp)
 have rA:bQ 0 (s++e0++e1++[.lst lL]) [.lst ((ù W.ps).map .str),.lst ((ù W.ws).map .str),.lst ((ù W.ws).map λ _=>.tup [])] [.ref ip,.ref iw,.ref (s++e0++e1).length]:=.cons (pZ Iq (ñ _) (i_ lp _) (dq _ _)) (.cons (pZ MG (ñ _) (i_ lw _) (dq _ _)) (.one p4))
 have D1:Bd s (s++e0++e1++[AO.lst lL]).length ip iw ((ù W.ps).map AV.str) ((ù W.ws).map AV.str) _ _ (s++e0++e1++[.lst lL]++[.lst [.ref ip,.ref iw,.ref (s++e0++e1).length]]):={
  cl:=cU c4 rA
  ex:=⟨_,by simp only[È];rfl⟩
  fl:=by simp only[þ];lia
  hp:=ā Iq
  np:=ç (Æ.mp (ć Iq)).1
  hw:=ā MG
  nw:=ç (Æ.mp (ć MG)).1
  hf:=ħ _ _
  rp:=Kc _ rA }
 clear rA c4 p4 h4 MG Iq r3 c3 h2 c2 hw hp
 generalize s++e0++e1++[AO.lst lL]++[AO.lst [.ref ip,.ref iw,.ref (s++e0++e1).length]]=Od at *
 generalize (s++e0++e1++[AO.lst lL]).length=f at *
 generalize [AV.ref ip,.ref iw,.ref (s++e0++e1).length]=ZF at *
 have li1:ZF.length=3:=by have:=D1.rp.R3.length;simpa using this.symm
 have YH:lV B V W Od:=by obtain⟨e,rfl⟩:=D1.ex;exact h.app D1.cl
 refine⟨my D1.hf,?_⟩
 simp only[↓WS,↓WE,↓WV,Lq,â,UU,Ç,↓Ô,↓ĝ (lQ D1.hp)]
 refine⟨Of lp _,(sv (f:=f) (λ p=>Dt.lst ((Em W.hs p).map hD)) D1.rp.1 D1.hp D1.cl ?_).mono ?_⟩
 ·intro x hx e ce
  have b:=YH.app ce
  have hz:(W.hs.filter (S7 x)).length<=W.hs.length:=oW ..
  have en:∀ l,vF (aE [("_law_one",none),("_law_person",À 0)] (dO (Û Ļ (mv 1) (mc (.str "hands")))) (gN 0) (cB (Û cM (Û Ŀ (mv 0) (mc (.int 0))) (mv 1))) (AA (mv 0) (oS (mc (.int 1))) oN)) (À (.str x) :: À (.ref (B+14)) :: l) (Od++e)=.ok ((Em W.hs x).map tE) (Od++e):=λ l=>by
   have hl:=vU b.at_
   have e1:aE [("_law_one",none),("_law_person",À 0)] (dO (Û Ļ (mv 1) (mc (.str "hands")))) (gN 0) (cB (Û cM (Û Ŀ (mv 0) (mc (.int 0))) (mv 1))) (AA (mv 0) (oS (mc (.int 1))) oN) (À (.str x) :: À (.ref (B+14)) :: l) (Od++e)=.ok ((W.hs.filter (S7 x)).map tE) (Od++e):=by
    apply R.wp.eq
    simp only[↓WS,↓WE,↓WV,Lq,â,UU,Ç,↓Ô,↓ĝ (wI b.at_ (wK B W.h) yr),↓ĝ (lQ hl)]
    refine⟨BP (by rw[Õ];lia),?_⟩
    rw[ĝ (vo (i:=B+10) (λ p hp=>by rw[ò.mp hp];exact hl) W.hs _ _)]
    exact⟨rfl,rfl⟩
   unfold vF
   rw[e1,ą,Ñ ⟨FW _,L_ nd x,by rw[Õ];lia⟩,CP nd x]
  simp only[↓WS,↓WE,↓WV,Lq,â,UU,Ç,↓Ô,↓ĝ (en _)]
  exact⟨_,rfl,cU (b:=0) ce (ji _ _),(O9 (qL lh x) ⟨(D1.rp.app e).1,λ o=>ji _ _⟩:Lj f (Od++e++[.lst ((Em W.hs x).map tE)]) (.lst ((Em W.hs x).map hD)) _)⟩
 rintro hl s5 ⟨e3,rfl,c5,r5⟩
 obtain⟨ea,D2⟩:=D1.append c5 r5 (i_ lp _) (by lia)
 rw[ĝ ea]
 clear ea r5 c5 YH
 generalize (Od++e3++[AO.lst hl]).set f (.lst (ZF++[.ref (Od++e3).length]))=G0 at *
 generalize MC:ZF++[AV.ref (Od++e3).length]=ZG at *
 have li2:ZG.length=4:=by rw[<-MC];simp[li1]
 clear MC li1 D1
 have YI:lV B V W G0:=by obtain⟨e,rfl⟩:=D2.ex;exact h.app D2.cl
 refine⟨my D2.hf,?_⟩
 simp only[↓WS,↓WE,↓WV,Lq,â,UU,Ç,↓Ô,↓ĝ (lQ D2.hw)]
 refine⟨Of lw _,(sv (f:=f) (λ _=>Dt.Ē) D2.rp.1 D2.hw D2.cl ?_).mono ?_⟩
 ·intro x hx e ce
  have b:=YI.app ce
  rw[ĝ (Ek (x:=x) (Hz b.at_) (wI b.at_ (KG B W.h) yr) nj)]
  exact⟨[],by simp,ce,⟨(D2.rp.app e).1,λ o=>Kb _⟩⟩
 rintro kl s6 ⟨e4,rfl,c6,r6⟩
 obtain⟨ea,D3⟩:=D2.append c6 r6 (i_ lw _) (by lia)
 rw[ĝ ea]
 clear ea r6 c6 YI
 generalize (G0++e4++[AO.lst kl]).set f (.lst (ZG++[.ref (G0++e4).length]))=GH at *
 generalize hi3:ZG++[AV.ref (G0++e4).length]=ZH at *
 have li3:ZH.length=5:=by rw[<-hi3];simp[li2]
 clear hi3 li2 D2
 have bs3:lV B V W GH:=by obtain⟨e,rfl⟩:=D3.ex;exact h.app D3.cl
 refine⟨my D3.hf,?_⟩
 simp only[↓WS,↓WE,↓WV,Lq,â,UU,Ç,↓Ô,↓ĝ (lQ D3.hp)]
 refine⟨Of lp _,(sv (f:=f) (λ p=>Dt.tup [.int (W.kf p).1,.int (W.kf p).2]) D3.rp.1 D3.hp D3.cl ?_).mono ?_⟩
 ·intro x hx e ce
  have b:=bs3.app ce
  rw[ĝ (Mv (x:=x) (UB b.at_) (wI b.at_ (KD B W.h) yr) nj W3),hk x (jO.mp hx)]
  exact⟨[],by simp,ce,⟨(D3.rp.app e).1,λ o=>Ds _ _⟩⟩
 rintro ql s7 ⟨e5,rfl,c7,r7⟩
 obtain⟨ea,D4⟩:=D3.append c7 r7 (i_ lp _) (by lia)
 rw[ĝ ea]
 clear ea r7 c7 bs3
 generalize (GH++e5++[AO.lst ql]).set f (.lst (ZH++[.ref (GH++e5).length]))=st4 at *
 generalize ZH++[AV.ref (GH++e5).length]=it4 at *
 clear li3 D3
 obtain⟨ex,rfl⟩:=D4.ex
 have b4:lV B V W (s++ex):=h.app D4.cl
 have b5:=b4.app (C5 b4.cl)
 have e1:pK (Û Ļ (mv 0) (mc (.str "rates"))) [À (.ref (B+14)),À (.ref f),À (.ref iw),À (.ref ip)] (s++ex)=.ok [] (s++ex):=E5 (l:=[]) (II b4.at_) (by decide) (wI b4.at_ (KI B W.h) nj)
 rw[ĝ e1,ĝ (qa b5.at_ (Ov B W.h))]
 have r5:bQ 0 (s++ex++[.lst []]) [.lst [],.int W.h] [.ref (s++ex).length,.int W.h]:=.cons (sH (ñ _)) (.one (wg _ _))
 have p5:Rp 0 (s++ex++[.lst []]) _ (.ref f):=pZ (ā D4.hf) (ñ _) (by show 6<=1000;lia) (D4.rp.R3.app _)
 obtain⟨ys,ey,r6,p6⟩:=vj (p5.app [.lst [.ref (s++ex).length,.int W.h]]) (bD (ñ _) (by show 2<=1000;lia) r5) (by show 6+2<=1000;lia) (ñ _)
 have c6:=cU (cU b5.cl r5) r6
 rw[ĝ ey]
 have b6:lV B V W (s++ex++[.lst []]++[.lst [.ref (s++ex).length,.int W.h]]++[.lst ys]):=(b5.app (cU b5.cl r5)).app c6
 clear ey D4 p5 r6 r5 e1 b5
 generalize hs6:s++ex++[AO.lst []]++[AO.lst [.ref (s++ex).length,.int W.h]]++[AO.lst ys]=s6 at *
 generalize (s++ex++[AO.lst []]++[AO.lst [.ref (s++ex).length,.int W.h]]).length=k6 at *
 have c7:=C5 c6
 have b7:=b6.app c7
 have c8:=C5 c7
 rw[ĝ (qa b6.at_ (KH B W.h)),ĝ (qO (VA b6.at_))]
 dsimp only
 rw[ħ,ê,cG,Ñ ⟨Ï _,c6,by simp[Ĩ]⟩,pd,ĝ (qa b7.at_ (KC B W.h)),ĝ (qO (Vz b7.at_))]
 dsimp only
 rw[ħ,ê,cG,Ñ ⟨Ï _,c7,by simp[Ĩ]⟩,pd]
 have r8:bQ 0 (s6++[.lst []]++[.lst []]) [.lst [],.lst []] [.ref s6.length,.ref (s6++[AO.lst []]).length]:=.cons ((sH (ñ _)).app _) (.one (sH (ñ _)))
 obtain⟨zs,ez,r9,p9⟩:=vj (((p6.app [.lst []]).app [.lst []]).app [.lst [.ref s6.length,.ref (s6++[AO.lst []]).length]]) (bD (ñ _) (by show 2<=1000;lia) r8) (by show 8+2<=1000;lia) (ñ _)
 have c9:=cU (cU c8 r8) r9
 rw[ĝ ez]
 have hx:∃ e,s6++[.lst []]++[.lst []]++[.lst [.ref s6.length,.ref (s6++[AO.lst []]).length]]++[.lst zs]=s++e:=by
  rw[<-hs6]
  simp only[È]
  exact⟨_,rfl⟩
 obtain⟨e,he⟩:=hx
 exact⟨e,he,c9,p9⟩
end
inductive De where
 | half (d:Int)|hand (x:Hn)|person (x:Str)|work (x:Str)
def dv:De->AV
 | .half d=>.tup [.str "half",.int d]
 | .hand x=>.tup [.str "hand",.str x.1,.int x.2.1,.str x.2.2.1,jC x.2.2.2]
 | .person x=>.tup [.str "person",.str x]
 | .work x=>.tup [.str "work",.str x]
def FQ (W:Wl)(x:Hn):Prop:=x.1∉W.ps∨x.2.2.1∉W.ps∨x.1=x.2.2.1
instance (W:Wl) (x:Hn):ŷ (FQ W x):=inferInstanceAs (ŷ (_∨_∨_))
def nE (W:Wl):De->Str
 | .half _=>""
 | .hand x=>if FQ W x then "name" else if Ō x∈W.hs.map Ō then "taken" else ""
 | .person _=>""
 | .work _=>""
def kQ (W:Wl):De->Wl
 | .half d=>{ W with h:=d }
 | .hand x=>if FQ W x then W else if Ō x∈W.hs.map Ō then W else { W with hs:=W.hs++[x] }
 | .person x=>{ W with ps:=W.ps++[x] }
 | .work x=>{ W with ws:=W.ws++[x] }
def De.ok (W:Wl):De->Prop
 | .person x=>¬ (x∈W.ps∨x∈W.ws)
 | .work x=>¬ (x∈W.ps∨x∈W.ws)
 | _=>True
structure DU (n m:Nat)(W:Wl):Prop where
 lp:W.ps.length<=n
 lw:W.ws.length<=n
 lh:W.hs.length<=m
 nd:(W.hs.map Ō).Nodup
theorem WQ:((å "person"=å "half")=False)/\((å "work"=å "half")=False)/\((å "work"=å "person")=False)/\
  ((å "half"=å "person")=False)/\((å "half"=å "work")=False)/\((å "person"=å "work")=False)/\((å "hand"=å "half")=False)/\((å "hand"=å "person")=False)/\((å "hand"=å "work")=False)/\((å "half"=å "hand")=False):=by
 refine⟨?_,?_,?_,?_,?_,?_,?_,?_,?_,?_⟩<;>exact eq_false (by decide +kernel)
theorem Ew (x:Str):∀ l:Á Str,XZ (.str x) (l.map AV.str)=decide (x∈l)
 | []=>rfl
 | y :: r=>by
  have ih:=Ew x r
  unfold XZ X0 at ih ⊢
  rw[Ó,Ó,ax,ih]
  show(kR (V.str y) (V.str x) || decide (x∈r))=_
  have:kR (V.str y) (V.str x)=decide (x=y):=by
   unfold kR
   by_cases h:x=y
   ·subst h;simp
   ·have:¬ y=x:=λ e=>h e.symm
    simp[h,this]
  rw[this]
  by_cases h:x=y<;>by_cases h2:x∈r<;>simp[h,h2]
theorem ON:∀ l:Á Str,(l.map AV.str).all nG=true
 | []=>rfl
 | i :: r=>by rw[Ó,Ő,ON r];rfl
section
variable {B:Nat}{V W:Wl}{s:S}
theorem C7 {i:Nat}{l:Á Str}{x:Str}(h:ï s i=À (l.map AV.str)):rh (.str x) (.ref i) s=.ok (.bl (!decide (x∈l))) s:=by
 unfold rh
 show need (ï s i) _=_
 rw[h,ê,Ñ ⟨rfl,ON l⟩,Ew]
theorem J8 (B:Nat)(h d:Int):mF (yL B h) (.inr "half") (.int d)=yL B d:=by rfl
theorem ZI:Ŀ (.tup (a :: l)) (.int 0) s=.ok a s:=by
 show(need (l9 (a :: l) 0) λ v=>R.ok v s)=_
 rw[show l9 (a :: l) 0=À a from Lq.2.2.2.2.1 a l];rfl
structure Xt (B:Nat)(s s':S):Prop where
 len:s'.length=s.length
 get:∀ i,i < B∨B+17<=i->s'[i]? = s[i]?
 cl:Cl s'
 tab:s'.any (tabAt 20 qR)=true
theorem LY (h:s.any (tabAt 20 qR)=true) (e:s[i]? = À o)(n:tabAt 20 qR o=false):(s.set i o').any (tabAt 20 qR)=true:=by
 obtain⟨x,hx,ht⟩:=iQ.mp h
 obtain⟨j,hj,ej⟩:=ĩ hx
 have om:i≠j:=by
  rintro rfl
  rw[Å hj,ej]at e
  cases e
  rw[n]at ht;cases ht
 refine iQ.mpr ⟨x,?_,ht⟩
 have:(s.set i o')[j]? = À x:=by rw[ð om,Å hj,ej]
 exact é this
theorem kr (h:lV B V W s)(hi:i < 17)(e:(mid B V W)[i]? = À o) (n:tabAt 20 qR o=false)(l:o'.low s.length=true):Xt B s (s.set (B+i) o'):=
 ⟨aP,λ j hj=>ð (by lia),h.cl.set l,LY h.tab (h.at_.at e) n⟩
theorem pQ (h:∀ x,(g x).low b=true):∀ l:Á Str,Ĩ b ((kT id g l).map (·.2))=true
 | []=>by simp[kT,Ĩ]
 | x :: r=>by
  show Ĩ b (g x :: (kT id g r).map (·.2))=true
  simp only[Ĩ,h x,pQ h r];rfl
theorem EF (b:Nat)(a:Int × Int):(jC a).low b=true:=by simp[jC,AV.low,Ĩ]
theorem jN:∀ {l:Á AV},(∀ v∈l,v.low b=true)->Ĩ b l=true
 | [],_=>by simp[Ĩ]
 | v :: r,h=>by simp only[Ĩ,h v (.head _),jN λ w hw=>h w (.tail _ hw)];rfl
end
structure rR (B:Nat)(s s':S):Prop where
 len:s.length<=s'.length
 get:∀ i,i < s.length->i < B∨B+17<=i->s'[i]? = s[i]?
theorem Xt.a (h:Xt B s s'):rR B s s':=⟨by rw[h.len];exact Ï _,λ i _ k=>h.get i k⟩
theorem rR.app (h:rR B s s')(e:S):rR B s (s'++e):=⟨by have:=h.len;simp;lia,λ i hi k=>by rw[á (by have:=h.len;lia)];exact h.get i hi k⟩
theorem rR.refl (B:Nat)(s:S):rR B s s:=⟨Ï _,λ _ _ _=>rfl⟩
theorem rR.trans (h:rR B s s')(k:rR B s' Dv):rR B s Dv:=⟨ě h.len k.len,λ i hi q=>(k.get i (ä hi h.len) q).trans (h.get i hi q)⟩
section
variable {B:Nat}{V W:Wl}{s:S}
theorem Mg:cM (.tup [.str g,.int d]) (.tup [.str g',.int d']) s=.ok (.bl (decide ((g,d)=(g',d')))) s:=by
 have e:CI s (.tup [.str g,.int d]) (.tup [.str g',.int d'])=À (eU [.str g,.int d] [.str g',.int d']):=by
  show(if a_ [Dt.str g,.int d]<=20 then À (eU [.str g,.int d] [.str g',.int d']) else none)=_
  rw[Ñ (by simp[a_,Dt.dep])]
 unfold cM
 rw[e,ê]
 congr 2
 simp only[eU,cS,dc]
 by_cases h1:g=g'<;>by_cases h2:d=d'<;>simp[h1,h2]
def P5 (x:Hn):Dt:=.tup [.str x.1,.int x.2.1,.str x.2.2.1,.tup [.int x.2.2.2.1,.int x.2.2.2.2]]
theorem toD_hE:∀ l:Á Hn,(l.map hE).mapM (toD 19 s)=À (l.map P5)
 | []=>by rw[bT,rZ];rfl
 | x :: r=>by
  rw[Ó,Al,toD_hE r];rfl
theorem Ed:∀ l:Á Hn,a_ (l.map P5)<=3
 | []=>by simp[a_]
 | x :: r=>by
  have:=Ed r
  rw[Ó]
  simp only[a_,P5,Dt.dep]
  lia
theorem Jm {i j:Nat}{l:Á Hn}(h1:ï s i=À (l.map hE)) (h2:ï s j=À []):oV (.ref i) (.ref j) s=.ok (.bl (!l.isEmpty)) s:=by
 have t1:toD 20 s (.ref i)=À (.lst (l.map P5)):=by simp only[toD,h1,aj,toD_hE,bH]
 have t2:toD 20 s (.ref j)=À (.lst []):=by simp only[toD,h2,aj,rZ];rfl
 have e:CI s (.ref i) (.ref j)=À (eU (l.map P5) []):=by
  show(match toD 20 s (.ref i),toD 20 s (.ref j) with|some (.tup l),À (.tup q)=>if a_ l<=20 then À (eU l q) else none|some (.lst l),À (.lst q)=>if a_ l<=20 then À (eU l q) else none|_,_=>none)=_
  rw[t1,t2]
  show(if a_ (l.map P5)<=20 then À (eU (l.map P5) []) else none)=_
  rw[Ñ (by have:=Ed l;lia)]
 unfold oV
 rw[e,ê]
 cases l<;>simp[eU]
theorem pG (hg:x_ gs s)(hj:ï s j=À [.str y.1,.int y.2.1,.str y.2.2.1,jC y.2.2.2]):∀ (l:Á Hn) (a:Ë AV) (acc:Á AV),aJ (gN 0) (cB (Û cM (AA (mv 0) oN (oS (mc (.int 2)))) (gL (Ê (Û Ŀ (mv 1) (mc (.int 0))) (Ê (Û Ŀ (mv 1) (mc (.int 1))) Ü))))) (mv 0) gs (l.map hE) [a,À (.ref j)] s acc=.ok (acc++(l.filter λ x=>decide (Ō x=Ō y)).map hE) s
 | [],a,acc=>by
  rw[bT,aJ,Ñ hg];simp
 | x :: r,a,acc=>by
  have e0:Ŀ (.ref j) (.int 0) s=.ok (.str y.1) s:=by
   show(need (ï s j) λ xs=>need (l9 xs 0) λ v=>R.ok v s)=_
   rw[hj];rfl
  have e1:Ŀ (.ref j) (.int 1) s=.ok (.int y.2.1) s:=by
   show(need (ï s j) λ xs=>need (l9 xs 1) λ v=>R.ok v s)=_
   rw[hj];rfl
  have es:sT (hE x) none (À 2) s=.ok (.tup [.str x.1,.int x.2.1]) s:=rfl
  have ht:cB (Û cM (AA (mv 0) oN (oS (mc (.int 2)))) (gL (Ê (Û Ŀ (mv 1) (mc (.int 0))) (Ê (Û Ŀ (mv 1) (mc (.int 1))) Ü)))) [À (hE x),À (.ref j)] s=.ok (decide (Ō x=Ō y)) s:=by
   apply R.wp.eq
   simp only[↓WS,↓WE,↓WV,Lq,â,UU,Ç,↓Ô,↓ĝ es,↓ĝ e0,↓ĝ e1,↓ĝ Mg]
  by_cases hx:Ō x=Ō y
  ·rw[Ó,vq (e1:=[À (hE x),À (.ref j)]) rfl (by rw[ht,Ī hx]) rfl hg,pG hg hj r,f7 (by simp[hx])]
   simp
  ·rw[Ó,jw (e1:=[À (hE x),À (.ref j)]) rfl (by rw[ht,ÿ hx]) hg,pG hg hj r,f6 (by simp[hx])]
theorem HH (h:lV B V W s)(d:Int):(Ū [.ref (B+14),dv (.half d)] s).wp λ v s'=>v=.str (nE W (.half d))/\lV B V (kQ W (.half d)) s'/\rR B s s':=by
 have hL:B+17<=s.length:=h.at_.len (by show 0 < 17;lia)
 have es:sT (dv (.half d)) (À 1) none s=.ok (.tup [.int d]) s:=rfl
 have c1:Cl (s++[.lst [.int d]]):=h.cl.add (by simp[AO.low,Ĩ,AV.low])
 have h1:=h.app c1
 have l1:ï (s++[.lst [.int d]]) s.length=À [.int d]:=ħ _ _
 have hL1:B+17<=(s++[AO.lst [.int d]]).length:=by simp;lia
 unfold Ū gF dv at *
 simp only[↓WS,↓WE,↓WV,Lq,â,UU,Ç,↓Ô,↓ĝ es,items,rm,↓ĝ (qa h1.at_ (jk B W.h)),↓ĝ (qa h1.at_ (lR B W.h)),l1,↓BY (sU (OL h1.at_) (by show 9 < 1000;lia)),J8]
 have lo:(AO.dK (yL B d)).low (s++[AO.lst [.int d]]).length=true:=by
  simp[AO.low,yL,Ĩ,AV.low];lia
 have c:=kr h1 (i:=14) (o':=.dK (yL B d)) (by lia) rfl rfl lo
 exact⟨rfl,⟨h1.at_.set 14 _,c.cl,c.tab⟩,((rR.refl B s).app _).trans c.a⟩
theorem CH (h:lV B V W s)(x:Str)(lp:W.ps.length < 900):(Ū [.ref (B+14),dv (.person x)] s).wp λ v s'=>v=.str (nE W (.person x))/\lV B V (kQ W (.person x)) s'/\rR B s s':=by
 have hL:B+17<=s.length:=h.at_.len (by show 0 < 17;lia)
 have es:sT (dv (.person x)) (À 1) none s=.ok (.tup [.str x]) s:=rfl
 have c1:Cl (s++[.lst [.str x]]):=h.cl.add (by simp[AO.low,Ĩ,AV.low])
 have h1:=h.app c1
 have l1:ï (s++[.lst [.str x]]) s.length=À [.str x]:=ħ _ _
 have UE:∀ st:S,Dd (.str "person") (.tup [.str "person",.str "work"]) st=.ok (.bl true) st:=λ st=>rfl
 unfold Ū gF dv at *
 simp only[↓WS,↓WE,↓WV,Lq,â,UU,Ç,↓Ô,↓ĝ es,items,rm,↓ĝ (qa h1.at_ (jk B W.h)),↓ĝ (qa h1.at_ (lR B W.h)),WQ,aL,Ÿ,↓ĝ (UE _),l1,my (jh h1.at_),↓ĝ (Mm.append_at (v:=.str x) (jh h1.at_) (by rw[Õ];lia))]
 have lo:(AO.lst (W.ps.map AV.str++[.str x])).low (s++[AO.lst [.str x]]).length=true:=by
  have:=cg (s++[AO.lst [.str x]]).length (W.ps++[x])
  rw[Š]at this;exact this
 have c:=kr h1 (i:=8) (o':=.lst (W.ps.map AV.str++[.str x])) (by lia) rfl rfl lo
 refine⟨rfl,⟨?_,c.cl,c.tab⟩,((rR.refl B s).app _).trans c.a⟩
 have:=h1.at_.set 8 (.lst (W.ps.map AV.str++[.str x]))
 rw[show(mid B V W).set 8 (.lst (W.ps.map AV.str++[.str x]))=mid B V { W with ps:=W.ps++[x] } by unfold mid;simp;rfl]at this
 exact this
theorem HJ (h:lV B V W s)(x:Str)(lw:W.ws.length < 900)(hw:x∉W.ws):(Ū [.ref (B+14),dv (.work x)] s).wp λ v s'=>v=.str (nE W (.work x))/\lV B V (kQ W (.work x)) s'/\rR B s s':=by
 have hL:B+17<=s.length:=h.at_.len (by show 0 < 17;lia)
 have es:sT (dv (.work x)) (À 1) none s=.ok (.tup [.str x]) s:=rfl
 have c1:Cl (s++[.lst [.str x]]):=h.cl.add (by simp[AO.low,Ĩ,AV.low])
 have h1:=h.app c1
 have l1:ï (s++[.lst [.str x]]) s.length=À [.str x]:=ħ _ _
 have UE:∀ st:S,Dd (.str "work") (.tup [.str "person",.str "work"]) st=.ok (.bl true) st:=λ st=>rfl
 unfold Ū gF dv at *
 simp only[↓WS,↓WE,↓WV,Lq,â,UU,Ç,↓Ô,↓ĝ es,items,rm,↓ĝ (qa h1.at_ (jk B W.h)),↓ĝ (qa h1.at_ (lR B W.h)),WQ,aL,Ÿ,↓ĝ (UE _),l1,↓BY (sU (vv h1.at_) (by rw[CV];lia)),sV (g:=λ _=>AV.tup []) hw rfl]
 have lo:(AO.dK (kT id (λ _=>.tup []) (W.ws++[x]))).low (s++[AO.lst [.str x]]).length=true:=pQ (λ _=>by simp[AV.low,Ĩ]) _
 have c:=kr h1 (i:=9) (o':=.dK (kT id (λ _=>.tup []) (W.ws++[x]))) (by lia) rfl rfl lo
 exact⟨rfl,⟨h1.at_.set 9 _,c.cl,c.tab⟩,((rR.refl B s).app _).trans c.a⟩
theorem Ep (y:Hn):∀ l:Á Hn,(!(l.filter λ x=>decide (Ō x=Ō y)).isEmpty)=decide (Ō y∈l.map Ō)
 | []=>rfl
 | x :: r=>by
  by_cases hx:Ō x=Ō y
  ·rw[f7 (by simp[hx]),Ó,Ī (by rw[hx];exact .head _)];rfl
  ·rw[f6 (by simp[hx]),Ep y r,Ó]
   congr 1
   rw[Þ]
   exact fF ⟨.inr,λ z=>z.resolve_left λ e=>hx e.symm⟩
theorem ID (b:Nat)(l:Á Hn):Ĩ b (l.map hE)=true:=jN λ v hv=>by
 obtain⟨x,_,rfl⟩:=Ŕ.mp hv
 simp[hE,jC,AV.low,Ĩ]
theorem z9 (h:a env s=.rt v s1):ē a b env s=.rt v s1:=by unfold ē;rw[h]
theorem R_ (h:m l s=.ok v s1):bL i m l s=.nx (l.set i (À v)) s1:=by unfold bL;rw[h];rfl
theorem Sx (h:lV B V W s){y:Hn}{j:Nat}(hj:ï s j=À [.str y.1,.int y.2.1,.str y.2.2.1,jC y.2.2.2])(lh:W.hs.length < 64):(ŋ [.ref (B+14),.str "hand",.ref j] s).wp λ v s'=>v=.str (nE W (.hand y))/\lV B V (kQ W (.hand y)) s'/\rR B s s':=by
 have hL:B+17<=s.length:=h.at_.len (by show 0 < 17;lia)
 have e0:Ŀ (.ref j) (.int 0) s=.ok (.str y.1) s:=by
  show(need (ï s j) λ xs=>need (l9 xs 0) λ v=>R.ok v s)=_
  rw[hj];rfl
 have e2:Ŀ (.ref j) (.int 2) s=.ok (.str y.2.2.1) s:=by
  show(need (ï s j) λ xs=>need (l9 xs 2) λ v=>R.ok v s)=_
  rw[hj];rfl
 have hl:=vU h.at_
 have g3:=qa h.at_ (wK B W.h)
 have ec:(FD (cB (Û rh (Û Ŀ (mv 2) (mc (.int 0))) (mv 3))) (FD (cB (Û rh (Û Ŀ (mv 2) (mc (.int 2))) (mv 3))) (cB (Û cM (Û Ŀ (mv 2) (mc (.int 0))) (Û Ŀ (mv 2) (mc (.int 2))))))) [À (.ref (B+14)),À (.str "hand"),À (.ref j),À (.ref (B+8))] s=.ok (decide (FQ W y)) s:=by
  apply R.wp.eq
  by_cases a1:y.1∈W.ps
  ·by_cases a2:y.2.2.1∈W.ps
   ·simp only[↓WS,↓WE,↓WV,Lq,â,UU,Ç,↓Ô,↓ĝ e0,↓ĝ e2,↓ĝ (C7 (jh h.at_)),yX a1,yX a2,Ÿ,df]
    simp[FQ,a1,a2]
   ·simp only[↓WS,↓WE,↓WV,Lq,â,UU,Ç,↓Ô,↓ĝ e0,↓ĝ e2,↓ĝ (C7 (jh h.at_)),yX a1,eq_false a2,Ÿ,aL,df,dZ]
    simp[FQ,a1,a2]
  ·simp only[↓WS,↓WE,↓WV,Lq,â,UU,Ç,↓Ô,↓ĝ e0,↓ĝ e2,↓ĝ (C7 (jh h.at_)),eq_false a1,aL,dZ]
   simp[FQ,a1]
 have et:∀ v3:Ë AV,(P2 (cB (Û oV (Ĺ (aE [("_law_one",none),("_law_rest",À 2)] (dO (Û Ļ (mv 0) (mc (.str "hands")))) (gN 0) (cB (Û cM (AA (mv 0) oN (oS (mc (.int 2)))) (gL (Ê (Û Ŀ (mv 1) (mc (.int 0))) (Ê (Û Ŀ (mv 1) (mc (.int 1))) Ü))))) (mv 0))) (Ĺ (cf Ü))))) [À (.ref (B+14)),À (.str "hand"),À (.ref j),v3] s=.ok (decide (Ō y∈W.hs.map Ō)) s:=λ v3=>by
  apply R.wp.eq
  have lf:(W.hs.filter λ x=>decide (Ō x=Ō y)).length<=W.hs.length:=oW ..
  simp only[↓WS,↓WE,↓WV,Lq,â,UU,Ç,↓Ô,↓ĝ g3,↓ĝ (lQ hl)]
  refine⟨BP (by rw[Õ];lia),?_⟩
  rw[ĝ (pG (λ p hp=>by rw[ò.mp hp];exact hl) hj W.hs _ _)]
  simp only[jZ]
  simp only[↓WS,↓WE,↓WV,Lq,â,UU,Ç,↓Ô,↓ĝ (Jm (l:=W.hs.filter λ x=>decide (Ō x=Ō y)) (ā (ħ _ _)) (ħ _ _))]
  exact⟨by rw[È];exact cG,Ep y W.hs⟩
 have e4:∀ v3:Ë AV,(CL sW (Bt (mv 2))) [À (.ref (B+14)),À (.str "hand"),À (.ref j),v3] s=.ok (hE y) s:=λ v3=>by
  apply R.wp.eq
  simp only[↓WS,↓WE,↓WV,Lq,â,UU,Ç,↓Ô,items,hj,sW]
  rfl
 have eh:cB (Û cM (mv 1) (mc (.str "hand"))) [À (.ref (B+14)),À (.str "hand"),À (.ref j),À (.ref (B+8))] s=.ok true s:=R.wp.eq (by simp only[↓WS,↓WE,↓WV,Lq,â,UU,Ç,↓Ô,Ÿ])
 have es:=R_ (i:=3) (l:=[À (.ref (B+14)),À (.str "hand"),À (.ref j),none]) (wI h.at_ (jk B W.h) nj)
 by_cases hn:FQ W y
 ·have e:ŋ [.ref (B+14),.str "hand",.ref j] s=.ok (.str "name") s:=by
   unfold ŋ dh
   exact Eg (env:=[À (.ref (B+14)),À (.str "hand"),À (.ref j),none]) ((aa es).trans (z9 ((vM eh).trans (z9 ((vM (ec.trans (by rw[Ī hn]))).trans rfl)))))
  rw[e]
  have e1:kQ W (.hand y)=W:=Ñ hn
  rw[e1]
  exact⟨by simp[nE,hn],h,rR.refl B s⟩
 have n1:=(sC (a:=Ŭ (mc (.str "name"))) (b:=ŭ) (ec.trans (by rw[ÿ hn]))).trans (show ŭ _ s=.nx _ s from rfl)
 by_cases hk:Ō y∈W.hs.map Ō
 ·have e:ŋ [.ref (B+14),.str "hand",.ref j] s=.ok (.str "taken") s:=by
   unfold ŋ dh
   exact Eg (env:=[À (.ref (B+14)),À (.str "hand"),À (.ref j),none]) ((aa es).trans (z9 ((vM eh).trans ((aa n1).trans (z9 ((vM ((et _).trans (by rw[Ī hk]))).trans rfl))))))
  rw[e]
  have e1:kQ W (.hand y)=W:=(Ö hn).trans (Ñ hk)
  rw[e1]
  exact⟨by simp[nE,hn,hk],h,rR.refl B s⟩
 ·have n2:=(sC (a:=Ŭ (mc (.str "taken"))) (b:=ŭ) ((et (À (.ref (B+8)))).trans (by rw[ÿ hk]))).trans (show ŭ _ s=.nx _ s from rfl)
  have e5:au (pS "list" Ż (Û Ļ (mv 0) (mc (.str "hands"))) (Ê (CL sW (Bt (mv 2))) Ü)) [À (.ref (B+14)),À (.str "hand"),À (.ref j),À (.ref (B+8))] s=.nx [À (.ref (B+14)),À (.str "hand"),À (.ref j),À (.ref (B+8))] (s.set (B+10) (.lst (W.hs.map hE++[hE y]))):=by
   refine qD (v:=.Ē) (R.wp.eq ?_)
   simp only[↓WS,↓WE,↓WV,Lq,â,UU,Ç,↓Ô,↓ĝ g3,my hl,↓ĝ (e4 _),↓ĝ (Mm.append_at (v:=hE y) hl (by rw[Õ];lia))]
  have e:ŋ [.ref (B+14),.str "hand",.ref j] s=.ok (.str "") (s.set (B+10) (.lst (W.hs.map hE++[hE y]))):=by
   unfold ŋ dh
   exact Eg (env:=[À (.ref (B+14)),À (.str "hand"),À (.ref j),none]) ((aa es).trans ((aa ((vM eh).trans ((aa n1).trans ((aa n2).trans e5)))).trans rfl))
  rw[e]
  have e1:kQ W (.hand y)={ W with hs:=W.hs++[y] }:=(Ö hn).trans (Ö hk)
  have lo:(AO.lst (W.hs.map hE++[hE y])).low s.length=true:=by
   have:=ID s.length (W.hs++[y])
   rw[Š]at this;exact this
  have c:=kr h (i:=10) (o':=.lst (W.hs.map hE++[hE y])) (by lia) rfl rfl lo
  rw[e1]
  refine⟨by simp[nE,hn,hk],⟨?_,c.cl,c.tab⟩,c.a⟩
  have:=h.at_.set 10 (.lst (W.hs.map hE++[hE y]))
  rw[show(mid B V W).set 10 (.lst (W.hs.map hE++[hE y]))=mid B V { W with hs:=W.hs++[y] } by unfold mid;simp;rfl]at this
  exact this
theorem HI (h:lV B V W s)(y:Hn)(lh:W.hs.length < 64):(Ū [.ref (B+14),dv (.hand y)] s).wp λ v s'=>v=.str (nE W (.hand y))/\lV B V (kQ W (.hand y)) s'/\rR B s s':=by
 have es:sT (dv (.hand y)) (À 1) none s=.ok (.tup [.str y.1,.int y.2.1,.str y.2.2.1,jC y.2.2.2]) s:=rfl
 have c1:Cl (s++[.lst [.str y.1,.int y.2.1,.str y.2.2.1,jC y.2.2.2]]):=h.cl.add (by simp[AO.low,Ĩ,AV.low,jC])
 have h1:=h.app c1
 have UE:∀ st:S,Dd (.str "hand") (.tup [.str "person",.str "work"]) st=.ok (.bl false) st:=λ st=>rfl
 have hw:=Sx (y:=y) h1 (ħ _ _) lh
 unfold Ū gF dv at *
 simp only[↓WS,↓WE,↓WV,Lq,â,UU,Ç,↓Ô,↓ĝ es,items,rm,↓ĝ (qa h1.at_ (jk B W.h)),↓ĝ (qa h1.at_ (lR B W.h)),WQ,aL,↓ĝ (UE _)]
 refine hw.mono ?_
 rintro v s' ⟨e,b,c⟩
 exact⟨e,b,((rR.refl B s).app _).trans c⟩
theorem HK (h:lV B V W s)(ok:DU n m W)(hn:n < 60)(hm:m < 60)(d:De)(hd:d.ok W):(Ū [.ref (B+14),dv d] s).wp λ v s'=>v=.str (nE W d)/\lV B V (kQ W d) s'/\rR B s s':=by
 have lp:=ok.lp
 have lw:=ok.lw
 have lh:=ok.lh
 cases d with
 | half d=>exact HH h d
 | hand y=>exact HI h y (by lia)
 | person x=>exact CH h x (by lia)
 | work x=>exact HJ h x (by lia) λ z=>hd (.inr z)
theorem Ee (ok:DU n m W)(d:De):DU (n+1) (m+1) (kQ W d):=by
 have lp:=ok.lp
 have lw:=ok.lw
 have lh:=ok.lh
 have up:DU (n+1) (m+1) W:=⟨by lia,by lia,by lia,ok.nd⟩
 cases d with
 | half d=>exact⟨up.lp,up.lw,up.lh,up.nd⟩
 | person x=>exact⟨by show(W.ps++[x]).length<=_;simp;lia,up.lw,up.lh,up.nd⟩
 | work x=>exact⟨up.lp,by show(W.ws++[x]).length<=_;simp;lia,up.lh,up.nd⟩
 | hand y=>
  by_cases h1:FQ W y
  ·rw[show kQ W (.hand y)=W from Ñ h1];exact up
  ·by_cases h2:Ō y∈W.hs.map Ō
   ·rw[show kQ W (.hand y)=W from(Ö h1).trans (Ñ h2)];exact up
   ·rw[show kQ W (.hand y)={ W with hs:=W.hs++[y] } from(Ö h1).trans (Ö h2)]
    refine⟨up.lp,up.lw,by show(W.hs++[y]).length<=_;simp;lia,?_⟩
    show((W.hs++[y]).map Ō).Nodup
    rw[Š]
    exact lZ.mpr ⟨ok.nd,by simp,λ a ha b hb e=>h2 (by rw[ò.mp hb]at e;rw[<-e];exact ha)⟩
end
end Ro
namespace Mm
open PySem L2
theorem zG (h:s[i]? = À (.exc c)) (e:LW c=À b):a8 LW (.ref i) s=.ok (.bl b) s:=by
 unfold a8
 simp only[h,e,ê]
theorem IP (h1:a env s=.ok v s)(h2:b env s=.ok w s):ę 2 F (Ê a (Ê b Ü)) env s=F [v,w] s:=by
 unfold ę Ê Ü
 rw[h1,ą,h2,ą]
 rfl
end Mm
namespace Ro
open PySem L2 Mm
def De.nm:De->Prop
 | .half _=>True
 | .hand x=>x.1.length<=1000/\x.2.2.1.length<=1000
 | .person x=>x.length<=1000
 | .work x=>x.length<=1000
section
variable {B:Nat}{V W:Wl}{s:S}
theorem IE (b:Nat)(l:Á Hn):Ĩ b ((l.map hK).map (·.2))=true:=jN λ v hv=>by
 rw[DL]at hv
 obtain⟨x,_,rfl⟩:=Ŕ.mp hv
 simp[hK,hV,jC,AV.low,Ĩ]
theorem So {i:Nat}{l:Á Hn}{k:Str × Int}(h:Lk s i=À (l.map hK)):(Ů (l.map hK) (eI k)).isSome=decide (k∈l.map Ō):=by
 clear h
 induction l with
 | nil=>rfl
 | cons x r ih=>
  show(if eI (Ō x)=eI k then À (hV x) else Ů (r.map hK) (eI k)).isSome=_
  by_cases hx:Ō x=k
  ·rw[Ñ (by rw[hx]),Ī (by rw[Ó,hx];exact .head _)];rfl
  ·rw[Ö λ z=>hx (nM z),ih,Ó]
   congr 1
   rw[Þ]
   exact fF ⟨.inr,λ z=>z.resolve_left λ e=>hx e.symm⟩
theorem Vl (k:x.length<=1000)(ha:a.length<=1000)(e:m env s=.ok (.str x) s) (hq:∀ t,Q (.str t) s):(mQ (fP (cj nX m) (fP (mc (.str a)) xr)) env s).wp Q:=by
 have l0:(gf++x).length=x.length:=by rw[mM];show 0+_=_;lia
 have l1:(gf++x++a).length=x.length+a.length:=by rw[mM,l0]
 have ef:nX (.str x) s=.ok (.str x) s:=Ñ (by rw[ġ];lia)
 unfold mQ fP mc cj xr
 simp only[e,ą,ef]
 rw[Ñ (by rw[l0,ġ];lia)]
 (try simp only[ą])
 rw[Ñ (by rw[l1,ġ];lia),ą,Ñ (by rw[l1,ġ];lia)]
 exact hq _
theorem CO (h:At B (mid B V W) s) (y:Hn)(hn:y.1.length<=1000/\y.2.2.1.length<=1000)(lh:V.hs.length < 64) :
  aq [.ref B,.str y.1,.int y.2.1,.str y.2.2.1,jC y.2.2.2] s=if FQ V y then .ex ⟨3,[]⟩ s else if Ō y∈V.hs.map Ō then .ex ⟨2,[]⟩ s else .ok .Ē (s.set (B+3) (.dT ((V.hs++[y]).map hK))):=by
 unfold aq jn
 have m1:Ľ 9 "need_person" 1 ü (mv 0) (Ê (mv 1) Ü) [À (.ref B),À (.str y.1),À (.int y.2.1),À (.str y.2.2.1),À (jC y.2.2.2)] s=ü [.ref B,.str y.1] s:=g9 h (by decide +kernel) nj yr
 have m2:Ľ 9 "need_person" 1 ü (mv 0) (Ê (mv 3) Ü) [À (.ref B),À (.str y.1),À (.int y.2.1),À (.str y.2.2.1),À (jC y.2.2.2)] s=ü [.ref B,.str y.2.2.1] s:=g9 h (by decide +kernel) nj rfl
 by_cases a1:y.1∈V.ps
 ·have n1:=qD (m1.trans (eQ h a1))
  by_cases a2:y.2.2.1∈V.ps
  ·have n2:=qD (m2.trans (eQ h a2))
   by_cases a3:y.1=y.2.2.1
   ·rw[Ñ (.inr (.inr a3))]
    have e3:cB (Û cM (mv 1) (mv 3)) [À (.ref B),À (.str y.1),À (.int y.2.1),À (.str y.2.2.1),À (jC y.2.2.2)] s=.ok true s:=R.wp.eq (by walk_at "w";simp[a3])
    exact vC (env:=[À (.ref B),À (.str y.1),À (.int y.2.1),À (.str y.2.2.1),À (jC y.2.2.2)]) ((aa n1).trans ((aa n2).trans (z0 ((vM e3).trans (Kd (by walk_at "w"))))))
   ·rw[Ö (by unfold FQ;simp[a1,a2,a3])]
    have e3:cB (Û cM (mv 1) (mv 3)) [À (.ref B),À (.str y.1),À (.int y.2.1),À (.str y.2.2.1),À (jC y.2.2.2)] s=.ok false s:=R.wp.eq (by walk_at "w";simp[a3])
    have n3:=(sC (a:=GZ 3 (Ê (mc (.str "nobody hands on to themselves")) Ü)) (b:=ŭ) e3).trans (show ŭ _ s=.nx _ s from rfl)
    have fh:bC 9 "hands" (.ref B) s=.ok (.ref (B+3)) s:=gH (gY h) (qE B V.h)
    have en:Gf (Ê (mv 1) (Ê (mv 2) Ü)) [À (.ref B),À (.str y.1),À (.int y.2.1),À (.str y.2.2.1),À (jC y.2.2.2)] s=.ok [.str y.1,.int y.2.1] s:=by
     unfold Gf
     rw[show Ê (mv 1) (Ê (mv 2) Ü) [À (.ref B),À (.str y.1),À (.int y.2.1),À (.str y.2.2.1),À (jC y.2.2.2)] s=.ok [.str y.1,.int y.2.1] s from rfl,ą,Ñ (BP (by simp))]
    have ek:vR [.str y.1,.int y.2.1]=À (eI (Ō y)):=rfl
    have e4:cB (ym (Ê (mv 1) (Ê (mv 2) Ü)) (cj (bC 9 "hands") (mv 0))) [À (.ref B),À (.str y.1),À (.int y.2.1),À (.str y.2.2.1),À (jC y.2.2.2)] s=.ok (decide (Ō y∈V.hs.map Ō)) s:=by
     unfold cB ym
     rw[en,ą,zx h (qE B V.h),ą]
     dsimp only
     rw[qB h,ê,ek,ê,So (k:=Ō y) (qB h)]
     rfl
    by_cases a4:Ō y∈V.hs.map Ō
    ·rw[Ñ a4]
     rw[Ī a4]at e4
     exact vC (env:=[À (.ref B),À (.str y.1),À (.int y.2.1),À (.str y.2.2.1),À (jC y.2.2.2)]) ((aa n1).trans ((aa n2).trans ((aa n3).trans (z0 ((vM e4).trans (Kd (Vl hn.1 (by decide) yr λ _=>rfl)))))))
    ·rw[Ö a4]
     rw[ÿ a4]at e4
     have n4:=(sC (a:=GZ 2 (Ê (mQ (fP (cj nX (mv 1)) (fP (mc (.str " has a hand of that day already")) xr))) Ü)) (b:=ŭ) e4).trans (show ŭ _ s=.nx _ s from rfl)
     have e5:wj (cj (bC 9 "hands") (mv 0)) (Ê (mv 1) (Ê (mv 2) Ü)) (gL (Ê (mv 3) (Ê (mv 4) Ü))) [À (.ref B),À (.str y.1),À (.int y.2.1),À (.str y.2.2.1),À (jC y.2.2.2)] s=.nx [À (.ref B),À (.str y.1),À (.int y.2.1),À (.str y.2.2.1),À (jC y.2.2.2)] (s.set (B+3) (.dT ((V.hs++[y]).map hK))):=by
      have ev:gL (Ê (mv 3) (Ê (mv 4) Ü)) [À (.ref B),À (.str y.1),À (.int y.2.1),À (.str y.2.2.1),À (jC y.2.2.2)] s=.ok (hV y) s:=R.wp.eq (by walk_at "w";rfl)
      unfold wj
      rw[ev,fK,zx h (qE B V.h),fK,en,fK]
      dsimp only
      rw[qB h,ek]
      dsimp only
      rw[Ñ (by rw[Õ];exact ş (by lia))]
      congr 3
      unfold mF
      rw[Ö ?_,Š]
      ·rfl
      ·rw[iQ]
       rintro⟨p,hp,e⟩
       obtain⟨x,hx,rfl⟩:=Ŕ.mp hp
       exact a4 (by rw[<-nM (a:=Ō x) (b:=Ō y) (î e)];exact Ŕ.mpr ⟨x,hx,rfl⟩)
     exact x9 (env:=[À (.ref B),À (.str y.1),À (.int y.2.1),À (.str y.2.2.1),À (jC y.2.2.2)]) ((aa n1).trans ((aa n2).trans ((aa n3).trans ((aa n4).trans e5))))
  ·rw[Ñ (.inr (.inl a2))]
   exact vC (env:=[À (.ref B),À (.str y.1),À (.int y.2.1),À (.str y.2.2.1),À (jC y.2.2.2)]) ((aa n1).trans (z0 (qC (m2.trans (nU h hn.2 a2)))))
 ·rw[Ñ (.inl a1)]
  exact vC (env:=[À (.ref B),À (.str y.1),À (.int y.2.1),À (.str y.2.2.1),À (jC y.2.2.2)]) (z0 (qC (m1.trans (nU h hn.1 a1))))
theorem Bb (h:lV B V W s)(ok:DU n m V)(hn:n < 60)(hm:m < 60)(d:De)(hd:d.nm)(hk:d.ok V):(nE V d=""/\∃ s',ſ [.ref B,dv d] s=.ok .Ē s'/\lV B (kQ V d) W s'/\Xt B s s')∨(∃ c,(c=2/\nE V d="taken"∨c=3/\nE V d="name")/\kQ V d=V/\ſ [.ref B,dv d] s=.ex ⟨c,[]⟩ s):=by
 have hL:B+17<=s.length:=h.at_.len (by show 0 < 17;lia)
 have lp:=ok.lp
 have lw:=ok.lw
 have lh:=ok.lh
 cases d with
 | half d=>
  left
  refine⟨rfl,s.set B (.ins 9 (w_ B d)),?_,?_⟩
  ·have es:sT (dv (.half d)) (À 1) none s=.ok (.tup [.int d]) s:=rfl
   have em:Ľ 9 "put_half" 1 aG (mv 0) (Ê (Û Ŀ (mv 3) (mc (.int 0))) Ü) [À (.ref B),À (dv (.half d)),À (.str "half"),À (.tup [.int d])] s=_:=(g9 h.at_ (by decide +kernel) nj rfl).trans (BI h.at_ d)
   apply R.wp.eq
   unfold ſ eZ dv at *
   simp only[↓WS,↓WE,↓WV,Lq,â,UU,Ç,↓Ô,↓ĝ es,↓ĝ ZI,WQ,aL,↓ĝ em]
  ·have lo:(AO.ins 9 (w_ B d)).low s.length=true:=by
    simp[AO.low,w_,Ĩ,AV.low];lia
   have c:=kr h (i:=0) (o':=.ins 9 (w_ B d)) (by lia) rfl rfl lo
   exact⟨⟨h.at_.set 0 _,c.cl,c.tab⟩,c⟩
 | person x=>
  left
  refine⟨rfl,s.set (B+1) (.dK (kT id (λ p=>jC (V.kf p)) (V.ps++[x]))),?_,?_⟩
  ·have es:sT (dv (.person x)) (À 1) none s=.ok (.tup [.str x]) s:=rfl
   have em:Ľ 9 "add_person" 1 ũ (mv 0) (Ê (Û Ŀ (mv 3) (mc (.int 0))) Ü) [À (.ref B),À (dv (.person x)),À (.str "person"),À (.tup [.str x])] s=_:=(g9 h.at_ (by decide +kernel) nj rfl).trans (vi h.at_ hk (by lia) rfl)
   apply R.wp.eq
   unfold ſ eZ dv at *
   simp only[↓WS,↓WE,↓WV,Lq,â,UU,Ç,↓Ô,↓ĝ es,↓ĝ ZI,WQ,aL,Ÿ,↓ĝ em]
  ·have lo:(AO.dK (kT id (λ p=>jC (V.kf p)) (V.ps++[x]))).low s.length=true:=pQ (λ _=>EF _ _) _
   have c:=kr h (i:=1) (o':=.dK (kT id (λ p=>jC (V.kf p)) (V.ps++[x]))) (by lia) rfl rfl lo
   exact⟨⟨h.at_.set 1 _,c.cl,c.tab⟩,c⟩
 | work x=>
  left
  refine⟨rfl,s.set (B+2) (.dK (kT id (λ _=>.tup []) (V.ws++[x]))),?_,?_⟩
  ·have es:sT (dv (.work x)) (À 1) none s=.ok (.tup [.str x]) s:=rfl
   have em:Ľ 9 "add_work" 1 aF (mv 0) (Ê (Û Ŀ (mv 3) (mc (.int 0))) Ü) [À (.ref B),À (dv (.work x)),À (.str "work"),À (.tup [.str x])] s=_:=(g9 h.at_ (by decide +kernel) nj rfl).trans (zd h.at_ hk (by lia))
   apply R.wp.eq
   unfold ſ eZ dv at *
   simp only[↓WS,↓WE,↓WV,Lq,â,UU,Ç,↓Ô,↓ĝ es,↓ĝ ZI,WQ,aL,Ÿ,↓ĝ em]
  ·have lo:(AO.dK (kT id (λ _=>.tup []) (V.ws++[x]))).low s.length=true:=pQ (λ _=>by simp[AV.low,Ĩ]) _
   have c:=kr h (i:=2) (o':=.dK (kT id (λ _=>.tup []) (V.ws++[x]))) (by lia) rfl rfl lo
   exact⟨⟨h.at_.set 2 _,c.cl,c.tab⟩,c⟩
 | hand y=>
  have hc:=CO h.at_ y hd (by lia)
  have e0:p0 2 3 (Ê (Û Ŀ (mv 1) (mc (.int 0))) (Ê (AA (mv 1) (oS (mc (.int 1))) oN) Ü)) [À (.ref B),À (dv (.hand y)),none,none] s=.nx [À (.ref B),À (dv (.hand y)),À (.str "hand"),À (.tup [.str y.1,.int y.2.1,.str y.2.2.1,jC y.2.2.2])] s:=rfl
  have em:Ľ 9 "hand_on" 4 aq (mv 0) (Ê (Û Ŀ (mv 3) (mc (.int 0))) (Ê (Û Ŀ (mv 3) (mc (.int 1))) (Ê (Û Ŀ (mv 3) (mc (.int 2))) (Ê (Û Ŀ (mv 3) (mc (.int 3))) Ü)))) [À (.ref B),À (dv (.hand y)),À (.str "hand"),À (.tup [.str y.1,.int y.2.1,.str y.2.2.1,jC y.2.2.2])] s=aq [.ref B,.str y.1,.int y.2.1,.str y.2.2.1,jC y.2.2.2] s:=by
   unfold Ľ
   rw[nj,ą,oo (gY h.at_)]
   dsimp only[need]
   rw[Ñ (HW B V.h (by decide +kernel)),show Ê (Û Ŀ (mv 3) (mc (.int 0))) (Ê (Û Ŀ (mv 3) (mc (.int 1))) (Ê (Û Ŀ (mv 3) (mc (.int 2))) (Ê (Û Ŀ (mv 3) (mc (.int 3))) Ü))) [À (.ref B),À (dv (.hand y)),À (.str "hand"),À (.tup [.str y.1,.int y.2.1,.str y.2.2.1,jC y.2.2.2])] s=.ok [.str y.1,.int y.2.1,.str y.2.2.1,jC y.2.2.2] s from rfl]
   rfl
  have eq:∀ (w:Str) (b:Bool),decide (å "hand"=w)=b->cB (Û cM (mv 2) (mc (.str w))) [À (.ref B),À (dv (.hand y)),À (.str "hand"),À (.tup [.str y.1,.int y.2.1,.str y.2.2.1,jC y.2.2.2])] s=.ok b s:=λ w b e=>by subst e;rfl
  have Lr:(nE V (.hand y)=if FQ V y then ("name":Str) else if Ō y∈V.hs.map Ō then ("taken":Str) else ("":Str)):=rfl
  by_cases h1:FQ V y
  ·right
   rw[Ñ h1]at hc
   refine⟨3,.inr ⟨rfl,by rw[Lr,Ñ h1]⟩,Ñ h1,?_⟩
   unfold ſ eZ
   exact vC (env:=[À (.ref B),À (dv (.hand y)),none,none]) ((aa e0).trans ((sC (eq "person" false (by decide +kernel))).trans ((sC (eq "work" false (by decide +kernel))).trans ((vM (eq "hand" true (by decide +kernel))).trans (qC (em.trans hc))))))
  rw[Ö h1]at hc
  by_cases h2:Ō y∈V.hs.map Ō
  ·right
   rw[Ñ h2]at hc
   refine⟨2,.inl ⟨rfl,by rw[Lr,Ö h1,Ñ h2]⟩,(Ö h1).trans (Ñ h2),?_⟩
   unfold ſ eZ
   exact vC (env:=[À (.ref B),À (dv (.hand y)),none,none]) ((aa e0).trans ((sC (eq "person" false (by decide +kernel))).trans ((sC (eq "work" false (by decide +kernel))).trans ((vM (eq "hand" true (by decide +kernel))).trans (qC (em.trans hc))))))
  ·left
   rw[Ö h2]at hc
   refine⟨by rw[Lr,Ö h1,Ö h2],s.set (B+3) (.dT ((V.hs++[y]).map hK)),?_,?_⟩
   ·unfold ſ eZ
    exact x9 (env:=[À (.ref B),À (dv (.hand y)),none,none]) ((aa e0).trans ((sC (eq "person" false (by decide +kernel))).trans ((sC (eq "work" false (by decide +kernel))).trans ((vM (eq "hand" true (by decide +kernel))).trans (qD (em.trans hc))))))
   ·have c:=kr h (i:=3) (o':=.dT ((V.hs++[y]).map hK)) (by lia) rfl rfl (IE _ _)
    rw[show kQ V (.hand y)={ V with hs:=V.hs++[y] } from(Ö h1).trans (Ö h2)]
    exact⟨⟨h.at_.set 3 _,c.cl,c.tab⟩,c⟩
end
def X_:Á AV:=[.str "taken",.str "name",.str "much",.str "rate",.str "left"]
abbrev wdE:Ev:=Ie (Û Ŀ (Ĺ (cf (Ê (mc (.str "taken")) (Ê (mc (.str "name")) (Ê (mc (.str "much")) (Ê (mc (.str "rate")) (Ê (mc (.str "left")) Ü))))))) (mv 0))
theorem sz5:([a,b,c,d,e].length<=sizeLine)=True:=yX (BP (by show 5<=1000;lia))
section
variable {B:Nat}{V W:Wl}{s:S}
theorem Pa {k:Nat}{x:Str}{env:En}(e:X_[k]? = À (.str x)):wdE (À (.int k) :: env) s=.ok (.str x) s:=by
 apply R.wp.eq
 have hk:k < 5:=(Æ.mp e).1
 have ea:l9 X_ (k:Int)=À (.str x):=l_ e
 simp only[↓WS,↓WE,↓WV,Lq,â,UU,Ç,↓Ô,sz5]
 show(need (ï (s++[.lst X_]) s.length) λ xs=>need (l9 xs k) λ v=>R.ok v (s++[.lst X_])).wp _
 rw[ħ,ê,ea,ê,pd]
 exact⟨⟨cG,by simp[AV.low]⟩,rfl⟩
theorem gS {j k:Nat}{b:Bool}{xs:Á AV}{env:En}(h:ï s j=À xs)(e:xs[k]? = À (.bl b)):cT (Û Ŀ (mv 1) (mv 0)) (À (.int k) :: À (.ref j) :: env) s=.ok b s:=by
 apply R.wp.eq
 have ea:l9 xs (k:Int)=À (.bl b):=l_ e
 walk_at "w"
 rw[h,ê,ea,ê,pd]
 exact⟨rfl,rfl⟩
theorem Kw {j:Nat}{c:Nat}{x:Str}(hc:c=2/\x="taken"∨c=3/\x="name")(h:ï s j=À [.bl (í 2 c),.bl (í 3 c),.bl (í 4 c),.bl (í 5 c),.bl (í 6 c)]) :
  aJ (gN 0) (cT (Û Ŀ (mv 1) (mv 0))) wdE [] (pY 0 5) [none,À (.ref j)] s []=.ok [.str x] s:=by
 have r5:pY 0 5=[.int (0:Nat),.int (1:Nat),.int (2:Nat),.int (3:Nat),.int (4:Nat)]:=rfl
 rw[r5]
 rcases hc with⟨rfl,rfl⟩|⟨rfl,rfl⟩
 ·rw[vq rfl (gS (k:=0) h rfl) (Pa (k:=0) rfl),jw rfl (gS (k:=1) h rfl),jw rfl (gS (k:=2) h rfl),jw rfl (gS (k:=3) h rfl),jw rfl (gS (k:=4) h rfl),nC]
  rfl
 ·rw[jw rfl (gS (k:=0) h rfl),vq rfl (gS (k:=1) h rfl) (Pa (k:=1) rfl),jw rfl (gS (k:=2) h rfl),jw rfl (gS (k:=3) h rfl),jw rfl (gS (k:=4) h rfl),nC]
  rfl
theorem Hl (c:Cl s){bs:Á Bool}:Cl (s++[.lst (bs.map AV.bl)]):=c.add (by
 simp only[Ő,kg,AO.low,dc]
 exact jN λ v hv=>by obtain⟨b,_,rfl⟩:=Ŕ.mp hv;simp[AV.low])
theorem Oo {c:Nat}{x:Str}(hc:c=2/\x="taken"∨c=3/\x="name"){i:Nat}(h:s[i]? = À (.exc c)) (cl:Cl s) :
    ((ē (lW (cB (Û uc (mv 2) (mc .Ē))) (Ŭ (mc (.str ""))) ŭ)
 (ē (bL 3 (Ĺ (cf (Ê (cj (a8 (pD 2)) (mv 2)) (Ê (cj (a8 (pD 3)) (mv 2)) (Ê (cj (a8 (pD 4)) (mv 2)) Ü))))))
 (ē (bL 3 (Û cw (mv 3) (Ĺ (cf (Ê (cj (a8 (pD 5)) (mv 2)) (Ê (cj (a8 (pD 6)) (mv 2)) Ü))))))
 (ē (bL 4 (Ĺ (aE [("_law_k",none),("_law_told",À 3)] (BO (Ê (mc (.int 5)) Ü)) (gN 0) (cT (Û Ŀ (mv 1) (mv 0))) wdE)))
 (ē (lW (FD (cB (Û oV (zM jP (Ê (mv 4) Ü)) (mc (.int 1)))) (FD (cT (cj (a8 (Fz [1,8,7])) (mv 2))) (A3 (cT (cj (a8 FA) (mv 2)))))) (Ŭ (mc (.str "many"))) ŭ)
 (Ŭ (Û Ŀ (mv 4) (mc (.int 0))))))))) [none,none,À (.ref i),none,none,none] s).wp (λ _ _=>False) λ v s'=>v=.str x/\∃ e,s'=s++e/\Cl s':=by
  have hi:i < s.length:=(Æ.mp h).1
  have c9:c < 9:=by rcases hc with⟨rfl,_⟩|⟨rfl,_⟩<;>lia
  have q:∀ (j:Nat) (e:S),a8 (pD j) (.ref i) (s++e)=.ok (.bl (í j c)) (s++e):=λ j e=>zG (by rw[á hi];exact h) (Ñ c9)
  have q0:∀ (j:Nat),a8 (pD j) (.ref i) s=.ok (.bl (í j c)) s:=λ j=>zG h (Ñ c9)
  have qT:∀ (e:S),a8 (Fz [1,8,7]) (.ref i) (s++e)=.ok (.bl false) (s++e):=λ e=>zG (by rw[á hi];exact h) (by rcases hc with⟨rfl,_⟩|⟨rfl,_⟩<;>rfl)
  have qV:∀ (e:S),a8 FA (.ref i) (s++e)=.ok (.bl true) (s++e):=λ e=>zG (by rw[á hi];exact h) (Ñ c9)
  simp only[↓WS,↓WE,↓WV,Lq,â,UU,Ç,↓Ô,mO,↓ĝ (q0 _),↓ĝ (q _ _),↓Ah]
  have c1:Cl (s++[.lst [.bl (í 2 c),.bl (í 3 c),.bl (í 4 c)]]):=Hl (bs:=[í 2 c,í 3 c,í 4 c]) cl
  have c2:Cl (s++[.lst [.bl (í 2 c),.bl (í 3 c),.bl (í 4 c)]]++[.lst [.bl (í 5 c),.bl (í 6 c)]]):=Hl (bs:=[í 5 c,í 6 c]) c1
  have ea:=Ht (st:=s++[.lst [.bl (í 2 c),.bl (í 3 c),.bl (í 4 c)]]++[.lst [.bl (í 5 c),.bl (í 6 c)]]) (ā (ħ s [.bl (í 2 c),.bl (í 3 c),.bl (í 4 c)])) (ħ _ [.bl (í 5 c),.bl (í 6 c)]) (BP (by show 3+2<=1000;lia))
  rw[ĝ ea]
  have c3:Cl (s++[.lst [.bl (í 2 c),.bl (í 3 c),.bl (í 4 c)]]++[.lst [.bl (í 5 c),.bl (í 6 c)]]++[.lst ([.bl (í 2 c),.bl (í 3 c),.bl (í 4 c)]++[.bl (í 5 c),.bl (í 6 c)])]):=Hl (bs:=[í 2 c,í 3 c,í 4 c,í 5 c,í 6 c]) c2
  have hl:=ħ (s++[.lst [.bl (í 2 c),.bl (í 3 c),.bl (í 4 c)]]++[.lst [.bl (í 5 c),.bl (í 6 c)]]) ([.bl (í 2 c),.bl (í 3 c),.bl (í 4 c)]++[.bl (í 5 c),.bl (í 6 c)])
  simp only[È]at c3 hl ⊢
  generalize ([AO.lst [.bl (í 2 c),.bl (í 3 c),.bl (í 4 c)]]++([AO.lst [.bl (í 5 c),.bl (í 6 c)]]++[AO.lst ([.bl (í 2 c),.bl (í 3 c),.bl (í 4 c)]++[.bl (í 5 c),.bl (í 6 c)])]))=e3 at *
  generalize (s++([AO.lst [.bl (í 2 c),.bl (í 3 c),.bl (í 4 c)]]++[AO.lst [.bl (í 5 c),.bl (í 6 c)]])).length=j3 at *
  refine⟨⟨by decide,by decide⟩,BP (by simp[pY]),?_⟩
  rw[show(5:Int).toNat=5 from rfl,ĝ (Kw hc hl)]
  have l4:=ħ (s++e3) [.str x]
  simp only[↓WS,↓WE,↓WV,Lq,â,UU,Ç,↓Ô,↓ĝ (pP l4),È,↓ĝ (qT _),↓ĝ (qV _),lN,df]
  have l5:ï (s++(e3++[.lst [.str x]])) (s++e3).length=À [.str x]:=by rw[<-È];exact l4
  simp only[č,aO,Yj,Int.natCast_one]
  rw[Ö (by simp),Ö (by decide),l5,ê,show l9 [AV.str x] 0=À (.str x) from Lq.2.2.2.2.1 _ _,ê,pd]
  refine⟨rfl,_,rfl,?_⟩
  rw[<-È]
  exact cU (b:=0) c3 (.one (Du _ _))
theorem UK (h:(b (À v :: À w :: à (n - 2) none) s).wp (λ _ s1=>Q .Ē s1) Q):(fe n b [v,w] s).wp Q:=by rw[WS.2.2.2.2.2.2.2.2.2.2.2.2.2.2.2.2.1];exact h
theorem BL (e:m env s=.ok v s)(h:(b (env.set i (À v)) s).wp N T):(ē (bL i m) b env s).wp N T:=by
 rw[WS.1,WS.2.1,ĝ e];exact h
theorem Ss (hb:b env s=.ex c s1)(hs:sub c.cls=true)(eh:h ((à n none).set i (À (.ref s1.length))) (s1++[.exc c.cls])=.nx e2 s2) (hr:(r (e2.set i none) s2).wp N T):(ē (wm n i sub b h) r env s).wp N T:=by
 rw[WS.1,GN hb hs,eh];exact hr
theorem Su (hb:b env s=.nx e2 s1)(hr:(r e2 s1).wp N T):(ē (wm n i sub b h) r env s).wp N T:=by
 rw[WS.1,GO hb];exact hr
theorem Dq (h:lV B V W s){n m:Nat}(ok:DU n m V)(hn:n < 60)(hm:m < 60)(d:De)(hd:d.nm)(hk:d.ok V):(b9 [.ref B,dv d] s).wp λ v s'=>v=.str (nE V d)/\lV B (kQ V d) W s'/\rR B s s':=by
 unfold b9 ju
 rcases Bb h ok hn hm d hd hk with⟨er,s',e1,b1,k1⟩|⟨c,hc,hw,e1⟩
 ·have et:au (ę 2 ſ (Ê (mv 0) (Ê (mv 1) Ü))) [À (.ref B),À (dv d),À .Ē,none,none,none] s=.nx [À (.ref B),À (dv d),À .Ē,none,none,none] s':=qD ((IP nj yr).trans e1)
  refine UK (BL rfl (Su et ?_))
  simp only[↓WS,↓WE,↓WV,Lq,â,UU,Ç,↓Ô,mO]
  exact⟨by rw[er],b1,k1.a⟩
 ·have et:au (ę 2 ſ (Ê (mv 0) (Ê (mv 1) Ü))) [À (.ref B),À (dv d),À .Ē,none,none,none] s=.ex ⟨c,[]⟩ s:=qC ((IP nj yr).trans e1)
  have c9:(λ c=>decide (c < 9) && í 0 c) (⟨c,[]⟩:AX).cls=true:=by rcases hc with⟨rfl,_⟩|⟨rfl,_⟩<;>rfl
  obtain⟨x,hx⟩:∃ x,x=nE V d:=⟨_,rfl⟩
  rw[<-hx]at hc
  rw[<-hx,hw]
  have c1:Cl (s++[.exc c]):=h.cl.add (by simp[AO.low])
  have hw:=Oo (x:=x) hc (s:=s++[.exc c]) (i:=s.length) (by rw[ß (Ï _)];simp) c1
  refine UK (BL rfl (Ss et c9 rfl ?_))
  refine RS.wp.mono hw (λ _ _ f=>f.elim) ?_
  rintro v s' ⟨rfl,e,rfl,c2⟩
  refine⟨rfl,?_,?_⟩
  ·rw[È]at c2 ⊢;exact h.app c2
  ·exact((rR.refl B s).app _).app _
end
end Ro
namespace Mm
open PySem L2
mutual
theorem Rp.zero:∀ {d:Dt}{v:AV},Rp b s d v->Rp 0 s d v
 | .Ē,_,h=>by unfold Rp at h ⊢;exact h
 | .bl _,_,h=>by unfold Rp at h;exact h.elim
 | .int _,_,h=>by unfold Rp at h ⊢;exact h
 | .str _,_,h=>by unfold Rp at h ⊢;exact h
 | .tup l,_,h=>by
  unfold Rp at h ⊢
  obtain⟨xs,e,hl,h⟩:=h
  exact⟨xs,e,hl,bQ.zero h⟩
 | .lst l,_,h=>by
  unfold Rp at h ⊢
  obtain⟨i,xs,e,_,h1,hl,h⟩:=h
  exact⟨i,xs,e,ñ _,h1,hl,bQ.zero h⟩
theorem bQ.zero:∀ {l:Á Dt}{xs:Á AV},bQ b s l xs->bQ 0 s l xs
 | [],_,h=>by unfold bQ at h ⊢;exact h
 | _ :: _,_,h=>by
  unfold bQ at h ⊢
  obtain⟨x,r,e,h1,h2⟩:=h
  exact⟨x,r,e,Rp.zero h1,bQ.zero h2⟩
end
theorem qS:∀ {l:Á AV}{v:AV},Ĩ b l=true->v∈l->v.low b=true
 | [],_,_,h=>nomatch h
 | x :: r,v,h,hv=>by
  simp only[Ĩ,Č]at h
  rcases Þ.mp hv with rfl|hv
  ·exact h.1
  ·exact qS h.2 hv
end Mm
namespace Ro
open PySem L2 Mm
section
variable {B:Nat}{V W:Wl}{s:S}
structure Sp (b f:Nat)(s:S)(items:Á AV)(k:Nat)(st:S):Prop where
 pre:st.take b=s
 hf:ï st f=À items
 nl:∀ i,b<=i->i < f->∃ xs,ï st i=À xs/\xs.length<=1000+k/\(∀ v∈xs,nice b v=true)/\Ĩ i xs=true
theorem Sp.set {b f i k:Nat}{s st:S}{items xs:Á AV}(h:Sp b f s items k st)(hi:b<=i)(hf:i < f)(l:xs.length<=1000+(k+1)) (hn:∀ v∈xs,nice b v=true)(hl:Ĩ i xs=true):Sp b f s items (k+1) (st.set i (.lst xs)):=by
 obtain⟨ys,e0,_⟩:=h.nl i hi hf
 refine⟨by rw[List.take_set_of_le hi];exact h.pre,vV (by lia) h.hf _,λ j hj hjf=>?_⟩
 by_cases e:j=i
 ·subst e;exact⟨xs,qU e0,l,hn,hl⟩
 ·obtain⟨zs,e1,l1,n1,q1⟩:=h.nl j hj hjf
  exact⟨zs,vV e e1 _,by lia,n1,q1⟩
theorem zI (h:ï st i=À xs):dN "list" (.ref i) st=.ok (.bl true) st:=by rw[zH h];rfl
theorem EH:∀ {l:Á AV},Ĩ b l=true->Ĩ b l.reverse=true:=λ {l} h=>jN λ v hv=>qS h (wV.mp hv)
theorem Bx (h:Ĩ b l=true)(k:v.low b=true):Ĩ b (l++[v])=true:=jN λ w hw=>by
 rcases aQ.mp hw with hw|hw
 ·exact qS h hw
 ·rw[ò.mp hw];exact k
theorem R1 (h:ï st i=À xs):lK (.ref i) [] st=.ok .Ē (st.set i (.lst xs.reverse)):=by
 show(need (ï st i) λ xs=>R.ok AV.Ē (st.set i (.lst xs.reverse)))=_
 rw[h];rfl
theorem He (h:ï st i=À xs)(l:xs.length<=9000):Ż (.ref i) [v] st=.ok .Ē (st.set i (.lst (xs++[v]))):=by
 unfold Ż
 simp only[h,ê]
 rw[Ñ (by rw[ġ];lia)]
def isRef:AV->Bool
 | .ref _=>true
 | _=>false
theorem IA (n:nice b v=true)(h:isRef v=false):dN "list" v st=.ok (.bl false) st:=by
 cases v<;>first|rfl|(cases h;done)|(cases n;done)
theorem Q8 {v:AV}{b f k:Nat}{s st:S}{items:Á AV}(h:Sp b f s items k st)(n:nice b v=true)(l:v.low f=true):∃ t,yv v (.str "more") st=.ok (.bl t) st:=by
 cases v with
 | ref i=>
  have hi:b<=i:=î n
  have hf:i < f:=by simpa[AV.low]using l
  obtain⟨xs,e,_⟩:=h.nl i hi hf
  refine⟨true,?_⟩
  show(need (ï st i) λ _=>R.ok (AV.bl true) st)=_
  rw[e];rfl
 | sq xs=>cases n
 | tup xs=>exact⟨true,rfl⟩
 | Ē=>exact⟨true,rfl⟩
 | bl x=>exact⟨true,rfl⟩
 | int x=>exact⟨true,rfl⟩
 | str x=>exact⟨!decide (x="more"),rfl⟩
theorem GD {b f:Nat}{st:S}{items:Á AV}(h:Sp b f s items 0 st)(hn:∀ v∈items,nice b v=true)(hl:Ĩ f items=true)(hz:items.length<=1000):(ah [.ref f] st).wp λ v s'=>v=.Ē/\s'.take b=s:=by
 unfold ah kL
 simp only[↓WS,↓WE,↓WV,Lq,â,UU,Ç,↓Ô,↓ĝ (lQ h.hf)]
 refine zA (λ xs env st=>∃ (x1:Ë AV) (k:Nat),env=[À (.ref f),x1]/\(∀ v∈xs,v∈items)/\k+3 * xs.length<=3000/\Sp b f s items k st) ?_ ?_ ?_ _ _ _ ⟨none,0,rfl,λ _ h=>h,by lia,h⟩
 ·rintro _ _ st ⟨_,_,_,_,_,h⟩ p hp
  rw[ò.mp hp]
  exact h.hf
 ·rintro env st ⟨_,_,_,_,_,h⟩
  exact h.pre
 ·rintro v r env st ⟨x1,k,rfl,hr,hk,h⟩
  have hv:=hr v (.head _)
  have nv:=hn v hv
  have lv:=qS hl hv
  have hk':k+3 * (r.length+1)<=3000:=hk
  have fin:∀ {k':Nat}{uF:S},k'<=k+3->Sp b f s items k' uF->∃ (x1:Ë AV) (k:Nat),[À (AV.ref f),À v]=[À (.ref f),x1]/\(∀ v∈r,v∈items)/\k+3 * r.length<=3000/\Sp b f s items k uF:=λ {k' uF} U7 h'=>⟨À v,k',rfl,λ w hw=>hr w (.tail _ hw),by lia,h'⟩
  cases S6:isRef v with
  | false=>
   simp only[↓WS,↓WE,↓WV,Lq,â,UU,Ç,↓Ô,↓ĝ (IA nv S6),lN]
   exact fin (by lia) h
  | true=>
   cases v with
   | ref i=>
    have hi:b<=i:=î nv
    have hf:i < f:=by simpa[AV.low]using lv
    obtain⟨xs,e,lx,nx,qx⟩:=h.nl i hi hf
    have h1:Sp b f s items (k+1) (st.set i (.lst xs.reverse)):=h.set hi hf (by rw[rJ];lia) (λ w hw=>nx w (wV.mp hw)) (EH qx)
    have e1:ï (st.set i (.lst xs.reverse)) i=À xs.reverse:=qU e
    have n2:∀ w∈xs.reverse++[AV.str "more"],nice b w=true:=λ w hw=>by
     rcases aQ.mp hw with hw|hw
     ·exact nx w (wV.mp hw)
     ·rw[ò.mp hw];rfl
    have q2:Ĩ i (xs.reverse++[AV.str "more"])=true:=Bx (EH qx) (by simp[AV.low])
    have h2:Sp b f s items (k+2) ((st.set i (.lst xs.reverse)).set i (.lst (xs.reverse++[.str "more"]))):=h1.set hi hf (by simp;lia) n2 q2
    have e2:ï ((st.set i (.lst xs.reverse)).set i (.lst (xs.reverse++[.str "more"]))) i=À (xs.reverse++[.str "more"]):=qU e1
    have ea:=He (v:=.str "more") e1 (by rw[rJ];lia)
    simp only[↓WS,↓WE,↓WV,Lq,â,UU,Ç,↓Ô,↓ĝ (zI e),lN,my e,↓ĝ (R1 e),my e1,↓ĝ ea,↓ĝ (zI e2)]
    generalize (st.set i (.lst xs.reverse)).set i (.lst (xs.reverse++[AV.str "more"]))=G0 at *
    obtain⟨a,l,ea⟩:∃ a l,xs.reverse++[AV.str "more"]=a :: l:=by
     cases e:xs.reverse++[AV.str "more"]with
     | nil=>simp at e
     | cons a l=>exact⟨a,l,rfl⟩
    rw[ea]at e2 n2 q2
    have na:=n2 a (.head _)
    have la:a.low i=true:=qS q2 (.head _)
    obtain⟨t,et⟩:=Q8 h2 na (AV.low.mono (by lia) la)
    have ei:l9 (a :: l) 0=À a:=Lq.2.2.2.2.1 a l
    rw[e2,ê,ei,ê,pd,ĝ et]
    cases t with
    | false=>walk_at "w";exact fin (by lia) h2
    | true=>
     simp only[↓WS,↓WE,↓WV,Lq,â,UU,Ç,↓Ô,e2,ei]
     cases ha:isRef a with
     | false=>
      simp only[↓WS,↓WE,↓WV,Lq,â,UU,Ç,↓Ô,↓ĝ (IA na ha),lN]
      exact fin (by lia) h2
     | true=>
      cases a with
      | ref j=>
       have hj:b<=j:=î na
       have hji:j < i:=by simpa[AV.low]using la
       obtain⟨ys,ey,ly,ny,qy⟩:=h2.nl j hj (by lia)
       have h3:Sp b f s items (k+3) (G0.set j (.lst (ys++[.str "more"]))):=h2.set hj (by lia) (by simp;lia) (λ w hw=>by
        rcases aQ.mp hw with hw|hw
        ·exact ny w hw
        ·rw[ò.mp hw];rfl) (Bx qy (by simp[AV.low]))
       have eb:=He (v:=.str "more") ey (by lia)
       simp only[↓WS,↓WE,↓WV,Lq,â,UU,Ç,↓Ô,↓ĝ (zI ey),lN,e2,ei,my ey,↓ĝ eb]
       exact fin (by lia) h3
      | _=>cases ha
   | _=>cases S6
end
theorem Hh (ns:Á Int)(c0:Cl s0):(dI [.sq (ns.map AV.int)] s0).wp λ v s'=>∃ c d e,v=.ref d/\s'=s0++e/\Dr c d 0 s'/\s0.length<=c/\s0.length<=d:=by
 obtain⟨ms,em⟩:∃ ms:Á Int,j' (ns.map AV.int) none (À 63)=ms.map AV.int:=by
  refine⟨j' ns none (À 63),?_⟩
  unfold j';rw[Õ,<-Tc,<-Td]
 have e1:sT (.sq (ns.map AV.int)) none (À 63) s0=.ok (.ref s0.length) (s0++[.lst (ms.map AV.int)]):=by
  show R.ok _ (s0++[AO.lst (j' (ns.map AV.int) none (À 63))])=_
  rw[em]
 have e2:items (.ref s0.length) (s0++[.lst (ms.map AV.int)])=À (ms.map AV.int):=ħ _ _
 have c1:Cl (s0++[.lst (ms.map AV.int)]):=c0.add (by simp[AO.low,low_ints])
 have c2:Cl (s0++[.lst (ms.map AV.int)]++[.lst (ms.map AV.int)]):=c1.add (by simp[AO.low,low_ints])
 have l2:ï (s0++[.lst (ms.map AV.int)]++[.lst (ms.map AV.int)]) (s0++[AO.lst (ms.map AV.int)]).length=À (ms.map AV.int):=ħ _ _
 have b2:s0.length<=(s0++[AO.lst (ms.map AV.int)]).length:=by simp
 unfold dI md
 simp only[↓WS,↓WE,↓WV,Lq,â,UU,Ç,↓Ô,↓ĝ e1,e2,rm]
 rw[È]at *
 have g2:s0.length<=(s0++([AO.lst (ms.map AV.int)]++[AO.lst (ms.map AV.int)])).length:=by simp
 generalize ([AO.lst (ms.map AV.int)]++[AO.lst (ms.map AV.int)])=ee at *
 generalize (s0++[AO.lst (ms.map AV.int)]).length=k1 at *
 have e3:cM (.ref k1) (.ref (s0++ee).length) (s0++ee++[.lst []])=.ok (.bl (ms.map AV.int).isEmpty) (s0++ee++[.lst []]):=by
  unfold cM;rw[HN (xs:=ms.map AV.int) (ā l2) (ħ _ _) (xY ms)];rfl
 have ed:∀ (s:S) (k:Nat) (x:Ë AV),gp [((mc (.str "cells")),(mv 1)),((mc (.str "turn")),(mc (.int 0)))] [x,À (.ref k)] s=.ok (.ref s.length) (s++[.dK (xV k 0)]):=by
  intro s k x
  unfold gp EX EX EX
  simp only[mc,mv,ą,Lq,qQ,fR,aj,bH,ê]
  rw[Ñ (by show(2:Nat)<=15;lia)]
  congr 1
 simp only[↓WS,↓WE,↓WV,Lq,â,UU,Ç,↓Ô,↓ĝ e3,cG]
 have fin:∀ (k:Nat) (e:S) (cells:Á Int),ï (s0++e) k=À (cells.map AV.int)->cells≠[]->Cl (s0++e)->s0.length<=k->∃ c d e',AV.ref (s0++e).length=.ref d/\s0++e++[.dK (xV k 0)]=s0++e'/\Dr c d 0 (s0++e++[.dK (xV k 0)])/\s0.length<=c/\s0.length<=d:=λ k e cells hl hc cl hk=>by
  have lk:=(Æ.mp (ć hl)).1
  refine⟨k,_,_,rfl,by rw[È],⟨⟨0,cells,by rw[ß (Ï _)];simp,ć (ā hl),hc,by lia,by lia⟩,cl.add ?_⟩,hk,by simp⟩
  simp only[Ő,kg,AO.low,xV,Ó,bT,Ĩ,AV.low,dc,eN]
  simp;simp at lk;lia
 cases ms with
 | nil=>
  simp only[bT,List.isEmpty_nil,fE,↓ĝ (ed _ _ _)]
  have l3:=ħ (s0++ee) [.int 7]
  have c3:Cl (s0++ee++[.lst [.int 7]]):=c2.add (by simp[AO.low,Ĩ,AV.low])
  rw[È]at l3 c3 ⊢
  exact fin _ _ [7] l3 (by simp) c3 g2
 | cons m r=>
  simp only[Ó,List.isEmpty_cons,av,gy,↓ĝ (ed _ _ _)]
  exact fin _ _ (m :: r) l2 (by simp) c2 b2
theorem Ef:∀ (l:Á α)(m:Nat)(h:m < l.length),(l[m] :: l.eraseIdx m).Perm l
 | [],_,h=>absurd h (by simp)
 | _ :: _,0,_=>List.Perm.refl _
 | a :: r,m+1,h=>((List.Perm.swap ..).trans (List.Perm.cons a (Ef r m (by simpa using h))):(r[m]'(by simpa using h) :: a :: r.eraseIdx m).Perm (a :: r))
theorem Ni:([]++zO).Nodup:=by decide +kernel
theorem Jk (D:Dr c d n s)(hn:n<=900000000)(k0:0<=k)(k1:k<=20):(dJ [.ref d,.int k] s).wp λ v s'=>∃ (j:Nat) (zs:Á Str),v=.ref j/\s.length<=j/\ï s' j=À (zs.map AV.str)/\(zs.length:Int)=k/\(∀ z∈zs,z∈zO)/\zs.Nodup/\Dr c d (n+20) s'/\Gk c d s s':=by
 have lc:=D.Lx
 have ld:=D.Ly
 unfold dJ mi
 simp only[↓WS,↓WE,↓WV,Lq,â,UU,Ç,↓Ô,↓Ah,↓ĝ (Oa _),show ∀ s:S,(lI "str" (.str "b aa zebra c quartzes ab m knows d mm likes z ba abcdefgh y zz e x f g hh jj kk pave") s).isSome=true from λ _=>rfl]
 refine⟨⟨by lia,by lia⟩,BP (by simp[pY];lia),?_⟩
 refine og (λ xs acc env st=>∃ (ys zs:Á Str) (x:Ë AV),acc=zs.map AV.str/\ï st s.length=À (ys.map AV.str)/\(xs.length:Int)+zs.length=k/\ys.length+zs.length=24/\(∀ z∈ys,z∈zO)/\(∀ z∈zs,z∈zO)/\(zs++ys).Nodup/\env=[x,À (.ref s.length),À (.ref d)]/\Dr c d (n+zs.length) st/\Gk c d s st) ?_ ?_ ?_ _ _ _ _ ⟨zO,[],none,rfl,ħ _ _,by simp[pY];lia,by rw[Jr];rfl,λ _ h=>h,(λ _ h=>nomatch h),Ni,rfl,D.app (D.cl.add (by simp[AO.low,cg])),Gk.app c d s _⟩
 ·rintro _ _ _ st _ p hp;cases hp
 ·rintro acc env st ⟨ys,zs,x,rfl,l1,l2,l3,m1,m2,nd,rfl,D1,G1⟩
  refine⟨st.length,zs,rfl,G1.len,ħ _ _,by simpa using l2,m2,(lZ.mp nd).1,?_,G1.trans (Gk.app c d st _)⟩
  have l2:((0:Nat):Int)+zs.length=k:=l2
  exact(D1.app (D1.cl.add (by simp[AO.low,cg]))).mono (by lia)
 ·rintro v r acc env st ⟨ys,zs,x,rfl,l1,l2,l3,m1,m2,nd,rfl,D1,G1⟩
  have l2:((r.length+1:Nat):Int)+zs.length=k:=l2
  simp only[↓WS,↓WE,↓WV,Lq,â,UU,Ç,↓Ô,my l1,↓ĝ (pP l1),Õ]
  refine(take1 D1).mono ?_
  rintro _ s1 ⟨j,rfl,j0,j1,D2,K2⟩
  have l4:=K2.gk.lst (n:=0) (by lia) (by lia) l1
  obtain⟨m,rfl⟩:∃ m:Nat,j=m:=⟨j.toNat,by lia⟩
  have hm:m < ys.length:=by lia
  have ep:yw (.ref s.length) [.int m] s1=.ok (.str ys[m]) (s1.set s.length (.lst ((ys.eraseIdx m).map AV.str))):=by
   show(need (ï s1 s.length) λ xs=>if 0<=(m:Int)/\(m:Int) < xs.length then need xs[(m:Int).toNat]? λ y=>R.ok y (s1.set s.length (.lst (xs.eraseIdx (m:Int).toNat))) else .bad)=_
   rw[l4,ê,Ñ ⟨by lia,by rw[Õ];lia⟩]
   show(need (ys.map AV.str)[m]? λ y=>R.ok y (s1.set s.length (.lst ((ys.map AV.str).eraseIdx m))))=_
   rw[ì,Å hm]
   show R.ok (AV.str ys[m]) _=_
   rw[HQ]
  rw[ĝ ep]
  refine⟨ys.eraseIdx m,zs++[ys[m]],_,by simp,qU l4,by simp;lia,?_,λ z hz=>m1 z (List.mem_of_mem_eraseIdx hz),λ z hz=>?_,?_,rfl,?_,(G1.trans K2.gk).set (Ï _)⟩
  ·rw[List.length_eraseIdx_of_lt hm];simp;lia
  ·rcases aQ.mp hz with hz|hz
   ·exact m2 z hz
   ·rw[ò.mp hz];exact m1 _ (m9 hm)
  ·rw[È]
   refine(List.Perm.append_left zs ?_).nodup nd
   exact(Ef ys m hm).symm
  ·exact(D2.mono (by simp;lia)).set (by lia) (by lia) (cg _ _)
theorem Js:∀ z∈zO,z.length<=1000:=by
 have:(zO.all λ z=>decide (z.length<=1000))=true:=by decide +kernel
 exact λ z hz=>î (ă.mp this z hz)
theorem JO {c d n:Nat}{s:S}(D:Dr c d n s)(hn:n<=900001000){xs:Á AV}{m:Int}(hm:m=xs.length)(hm0:0 < m)(hm1:m<=10){P:AV->Prop}(hx:∀ v∈xs,P v/\∀ b,v.low b=true) :
  (ė [.ref d,.int m] (s++[.lst xs])).wp λ v s2=>∃ b,Ŀ (.ref s.length) v s2=.ok b s2/\P b/\b.low s.length=true/\(s2.take s.length).all (AO.low s.length)=true/\Dr c d (n+1) (s2.take s.length)/\Kp c d s (s2.take s.length):=by
 have lx:∀ b,Ĩ b xs=true:=λ b=>jN λ v hv=>(hx v hv).2 b
 have D1':=D.app (e:=[.lst xs]) (D.cl.add (by simp[AO.low,lx]))
 refine(take1 D1').mono ?_
 rintro _ s2 ⟨j,rfl,j0,j1,D2,K2⟩
 obtain⟨v,hv,ev⟩:=EA (s:=s2) (i:=s.length) (j:=j) (K2.gk.lst (n:=0) (by have:=D.Lx;lia) (by have:=D.Ly;lia) (ħ s _)) j0 (by lia)
 obtain⟨D3,K3,al⟩:=((Gk.app c d s _).trans K2.gk).cut D D2
 exact⟨v,ev,(hx v hv).1,(hx v hv).2 _,al,D3,K3⟩
theorem O7 {c d n i:Nat}{s:S}(D:Dr c d n s)(hn:n<=900000000){l:Á Str}(hl:ï s i=À (l.map AV.str)) (h0:0 < l.length)(h1:l.length<=1000)(ic:i≠c)(Vg:i≠d):(gG [.ref d,.ref i] s).wp λ v s'=>∃ x,v=.str x/\x∈l/\Dr c d (n+1) s'/\Kp c d s s':=by
 unfold gG sm
 simp only[↓WS,↓WE,↓WV,Lq,â,UU,Ç,↓Ô,↓ĝ (pP hl),Õ]
 refine(take1 D).mono ?_
 rintro _ s1 ⟨j,rfl,j0,j1,D1,K1⟩
 obtain⟨v,hv,ev⟩:=EA (s:=s1) (i:=i) (j:=j) (K1.gk.lst (n:=0) ic Vg hl) j0 (by rw[Õ];exact j1)
 obtain⟨x,hx,rfl⟩:=Ŕ.mp hv
 have ev':(need (ï s1 i) λ xs=>need (l9 xs j) λ v=>R.ok v s1)=.ok (.str x) s1:=ev
 simp only[↓WS,↓WE,↓WV,Lq,â,UU,Ç,↓Ô,↓ĝ ev']
 exact⟨x,rfl,hx,D1,K1⟩
theorem Ou (i j k:Nat)(a b c:Ev)(env:En)(s:S)(N:En->S->Prop)(T:AV->S->Prop):(BK i j k (Ê a (Ê b (Ê c Ü))) env s).wp N T=(a env s).wp λ v s1=>(b env s1).wp λ w s2=>(c env s2).wp λ z s3=>N (((env.set i (À v)).set j (À w)).set k (À z)) s3:=by
 unfold BK Ê Ü
 cases a env s with
 | ok v s1=>
  simp only[ą,pd]
  cases b env s1 with
  | ok w s2=>
   simp only[ą,pd]
   cases c env s2<;>rfl
  | ex c s1=>rfl
  | bad=>rfl
 | ex c s1=>rfl
 | bad=>rfl
theorem PM {c d n:Nat}{s:S}(D:Dr c d n s)(hn:n<=800000000):(bZ [.ref d] s).wp λ v s'=>∃ k:Int,v=.int k/\Dr c d (n+4) s'/\Kp c d s s':=by
 unfold bZ js
 walk_at "w"
 refine(take1 D).mono ?_
 rintro _ s1 ⟨a,rfl,_,_,D1,K1⟩
 refine(take1 D1).mono ?_
 rintro _ s2 ⟨b,rfl,_,_,D2,K2⟩
 refine(take1 D2).mono ?_
 rintro _ s3 ⟨e,rfl,_,_,D3,K3⟩
 rw[<-K1.len,<-K2.len,<-K3.len]
 refine(JO D3 (by lia) (P:=λ v=>∃ b,v=.int b) rfl (by simp) (by simp) ?_).mono ?_
 ·intro v hv
  simp only[Þ,Ď,bP]at hv
  rcases hv with rfl|rfl|rfl<;>exact⟨⟨_,rfl⟩,λ b=>by simp[AV.low]⟩
 rintro _ s4 ⟨v,ev,⟨k,rfl⟩,lo,al,D4,K4⟩
 simp only[↓WS,↓WE,↓WV,Lq,â,UU,Ç,↓Ô,↓ĝ ev,al,lo]
 exact⟨k,rfl,D4.mono (by lia),((K1.trans K2).trans K3).trans K4⟩
theorem L' {c d n i:Nat}{s:S}(D:Dr c d n s)(hn:n<=700000000){l:Á Str}(hl:ï s i=À (l.map AV.str)) (h0:0 < l.length)(h1:l.length<=1000)(hs:∀ x∈l,x.length<=1000)(ic:i≠c)(Vg:i≠d){w:Str}(hw:w="hand"∨w="half"):(e_ [.ref d,.ref i,.str w] s).wp λ v s'=>∃ de,v=dv de/\de.nm/\((∃ y,de=.hand y/\w="hand")∨∃ q,de=.half q)/\Dr c d (n+15) s'/\Kp c d s s':=by
 unfold e_ nz
 simp only[↓WS,↓WE,↓WV,Lq,â,UU,Ç,↓Ô,↓Ou]
 refine(O7 D (by lia) hl h0 h1 ic Vg).mono ?_
 rintro _ s1 ⟨x,rfl,hx,D1,K1⟩
 refine(O7 D1 (by lia) (K1.gk.lst (n:=0) ic Vg hl) h0 h1 ic Vg).mono ?_
 rintro _ s2 ⟨y,rfl,hy,D2,K2⟩
 refine(PM D2 (by lia)).mono ?_
 rintro _ s3 ⟨k,rfl,D3,K3⟩
 rcases hw with rfl|rfl
 ·simp only[↓WS,↓WE,↓WV,Lq,â,UU,Ç,↓Ô,Ÿ]
  refine(Nv D3 (by lia)).mono ?_
  rintro _ s4 ⟨q1,rfl,_,_,_,D4,K4⟩
  exact⟨BP (by simp),.hand (x,k,y,(q1.num,q1.den)),rfl,⟨hs x hx,hs y hy⟩,.inl ⟨_,rfl⟩,D4.mono (by lia),((K1.trans K2).trans K3).trans K4⟩
 ·simp only[↓WS,↓WE,↓WV,Lq,â,UU,Ç,↓Ô,WQ,aL]
  refine(take1 D3).mono ?_
  rintro _ s4 ⟨r,rfl,r0,r1,D4,K4⟩
  walk_at "w"
  refine⟨BP (by simp),?_⟩
  rw[<-K4.len]
  refine(JO D4 (by lia) (P:=λ v=>∃ b,v=.int b) rfl (by simp) (by simp) ?_).mono ?_
  ·intro v hv
   simp only[Þ,Ď,bP]at hv
   rcases hv with rfl|rfl|rfl|rfl<;>exact⟨⟨_,rfl⟩,λ b=>by simp[AV.low]⟩
  rintro _ s5 ⟨v,ev,⟨b,rfl⟩,lo,al,D5,K5⟩
  simp only[↓WS,↓WE,↓WV,Lq,â,UU,Ç,↓Ô,↓ĝ ev,al,lo]
  exact⟨.half b,rfl,trivial,.inr ⟨_,rfl⟩,D5.mono (by lia),(((K1.trans K2).trans K3).trans K4).trans K5⟩
theorem Qk:sD c (.ref s.length) (s++AO.ins c fs :: t)=À (s.length,fs):=oo (by rw[ß (Ï _)];simp)
theorem R9:(s++a :: t).set s.length o=s++o :: t:=by rw[hW _ _ (Ï _)];simp
theorem kA (hl:fs.length < 1000)(e:m (À (.ref s.length) :: env) (s++.ins c fs :: t)=.ok v (s++.ins c fs :: t')):jQ c f (mv 0) m (À (.ref s.length) :: env) (s++.ins c fs :: t)=.nx (À (.ref s.length) :: env) (s++.ins c (yy f v fs) :: t'):=by
 unfold jQ
 simp only[e,fK,nj,Qk]
 rw[Ñ hl,R9]
theorem D9:CW env (s++a :: t)=.ok (.ref (s.length+(t.length+1))) (s++a :: (t++[.dK []])):=by
 unfold CW
 rw[þ,č,È];rfl
theorem WH:IK env (s++a :: t)=.ok (.ref (s.length+(t.length+1))) (s++a :: (t++[.dT []])):=by
 unfold IK
 rw[þ,č,È];rfl
theorem O4:Ĺ (cf Ü) env (s++a :: t)=.ok (.ref (s.length+(t.length+1))) (s++a :: (t++[.lst []])):=by
 apply R.wp.eq
 simp only[↓WS,↓WE,↓WV,Lq,â,UU,Ç,↓Ô,þ,č,È,iR]
theorem MI (s:S):ŵ [.ref s.length] (s++[.ins 9 []])=.ok .Ē (s++[.ins 9 (w_ s.length 182),.dK [],.dK [],.dT [],.dK [],.dK [],.lst [],.lst []]):=by
 unfold ŵ h_
 refine x9 (env:=[À (.ref s.length)]) (e:=[À (.ref s.length)]) ?_
 rw[aa (kA (by show 0 < 1000;lia) D9),aa (kA (by show 1 < 1000;lia) D9),aa (kA (by show 2 < 1000;lia) WH),aa (kA (by show 3 < 1000;lia) D9),aa (kA (by show 4 < 1000;lia) D9),
  aa (kA (m:=mc bz) (v:=.int 182) (by show 5 < 1000;lia) rfl),aa (kA (by show 6 < 1000;lia) O4),kA (by show 7 < 1000;lia) O4]
 rfl
theorem MS (s:S)(env:En):pR 9 ŵ env s=.ok (.ref s.length) (s++[.ins 9 (w_ s.length 182),.dK [],.dK [],.dT [],.dK [],.dK [],.lst [],.lst []]):=by
 unfold pR
 rw[MI];rfl
theorem Kx (s:S)(hB:s.length=B+8):cD [] s=.ok (.ref (B+14)) (s++[.lst [],.dK [],.lst [],.dK [],.lst [],.dK [],.dK (yL B 182),.lst [],.lst []]):=by
 have e1:gp [((mc (.str "people")),(Ĺ (cf Ü))),((mc (.str "works")),CW),((mc (.str "hands")),(Ĺ (cf Ü))),((mc (.str "known")),CW),((mc (.str "rates")),(Ĺ (cf Ü))),((mc (.str "keeps")),CW),((mc (.str "half")),(mc (.int 182)))] [none] s=.ok (.ref (B+14)) (s++[.lst [],.dK [],.lst [],.dK [],.lst [],.dK [],.dK [(.inr "people",.ref (B+8)),(.inr "works",.ref (B+9)),(.inr "hands",.ref (B+10)),(.inr "known",.ref (B+11)),(.inr "rates",.ref (B+12)),(.inr "keeps",.ref (B+13)),(.inr "half",.int 182)]]):=by
  have ln:∀ (t:S) (env:En),Ĺ (cf Ü) env t=.ok (.ref t.length) (t++[.lst []]):=λ t env=>by
   apply R.wp.eq
   walk_at "w"
  have ld:∀ (t:S) (env:En),CW env t=.ok (.ref t.length) (t++[.dK []]):=λ t env=>rfl
  unfold gp
  simp only[EX,mc,ą,ln,ld,qQ,fR,aj,bH,ê,È,iR,jZ,þ,č,aO,hB]
  rw[Ñ (by show(7:Nat)<=15;lia)]
  rfl
 have g:∀ (t:S) (o:AO),(s++(t++[o]))[s.length+t.length]? = À o:=λ t o=>by
  rw[ß (by lia),ß (by lia)]
  rw[show s.length+t.length - s.length - t.length=0 by lia];rfl
 have rs_eq:∀ {r:RS}{a:AV}{t:S},r.wp (λ _ _=>False) (λ v s'=>v=a/\s'=t)->r=.rt a t:=λ {r a t} h=>by
  cases r with
  | rt v s'=>obtain⟨rfl,rfl⟩:=h;rfl
  | _=>exact h.elim
 unfold cD mj
 refine Eg (env:=[none]) (rs_eq ?_)
 simp only[↓WS,↓WE,↓WV,Lq,â,UU,Ç,↓Ô,↓ĝ e1]
 have L7:∀ (t:S),(s++t).length=s.length+t.length:=λ t=>þ
 have dk:∀ (t:S) (kvs:Á (Key × AV)),j8 (s++[.lst [],.dK [],.lst [],.dK [],.lst [],.dK [],.dK kvs]++t) (B+14)=À kvs:=λ t kvs=>jx (by
  rw[È,ß (by lia),show B+14 - s.length=6 by lia];rfl)
 have st:∀ (t:S) (a b:AO),(s++[.lst [],.dK [],.lst [],.dK [],.lst [],.dK [],a]++t).set (B+14) b=s++[.lst [],.dK [],.lst [],.dK [],.lst [],.dK [],b]++t:=λ t a b=>by
  rw[È,È,hW _ _ (by lia),show B+14 - s.length=6 by lia];rfl
 rw[wJ]
 unfold vH
 simp only[↓WS,↓WE,↓WV,Lq,â,UU,Ç,↓Ô,aV]
 rw[È,BY (sU (dk _ _) (by show 7 < 1000;lia)),st]
 simp only[↓WS,↓WE,↓WV,Lq,â,UU,Ç,↓Ô,↓wJ,aV]
 rw[BY (sU (dk _ _) (by
  refine bw (J7 _ _ _) (by show 7+1 < 1000;lia))),st]
 walk_at "w"
 simp only[þ,č,aO,hB]
 rw[È]
 rfl
structure LS (c d n B nl:Nat)(names:Á Str)(V W:Wl)(s:S):Prop where
 dr:Dr c d n s
 at_:At B (mid B V W) s
 t0:s[0]? = À (.tab 20 qR)
 c0:0 < c/\c < B
 d0:0 < d/\d < B
 nm:ï s nl=À (names.map AV.str)
 n0:0 < nl/\nl < B/\nl≠c/\nl≠d
structure Wk (c d B:Nat)(s s':S):Prop where
 len:s.length<=s'.length
 get:∀ i,i < s.length->i≠c->i≠d->i < B∨B+17<=i->s'[i]? = s[i]?
theorem Wk.refl (c d B:Nat)(s:S):Wk c d B s s:=⟨Ï _,λ _ _ _ _ _=>rfl⟩
theorem Wk.trans (h:Wk c d B s s')(k:Wk c d B s' Dv):Wk c d B s Dv:=⟨ě h.len k.len,λ i hi h1 h2 h3=>(k.get i (ä hi h.len) h1 h2 h3).trans (h.get i hi h1 h2 h3)⟩
theorem Kp.wk (h:Kp c d s s')(B:Nat):Wk c d B s s':=⟨by rw[h.len];exact Ï _,λ i _ h1 h2 _=>h.get i h1 h2⟩
theorem rR.wk (h:rR B s s')(c d:Nat):Wk c d B s s':=⟨h.len,λ i hi _ _ k=>h.get i hi k⟩
section
variable {c d n B nl:Nat}{names:Á Str}{V W:Wl}{s s':S}
theorem LS.TM (h:LS c d n B nl names V W s):lV B V W s:=⟨h.at_,h.dr.cl,iQ.mpr ⟨_,é h.t0,by simp[tabAt]⟩⟩
theorem LS.len (h:LS c d n B nl names V W s):B+17<=s.length:=h.at_.len (by show 0 < 17;lia)
theorem LS.kp (h:LS c d n B nl names V W s)(k:Kp c d s s')(D:Dr c d m s'):LS c d m B nl names V W s':=by
 have c0:=h.c0
 have d0:=h.d0
 have n0:=h.n0
 exact⟨D,h.at_.keep λ i hi _=>k.get i (by lia) (by lia),(k.get 0 (by lia) (by lia)).trans h.t0,c0,d0,k.gk.lst (n:=0) n0.2.2.1 n0.2.2.2 h.nm,n0⟩
theorem LS.app (h:LS c d n B nl names V W s)(k:Cl (s++e)):LS c d n B nl names V W (s++e):=by
 have:=h.len
 exact⟨h.dr.app k,h.at_.app e,by rw[á (by lia)];exact h.t0,h.c0,h.d0,ā h.nm,h.n0⟩
theorem LS.XA (h:LS c d n B nl names V W s)(k:rR B s s')(b:lV B V' W' s'):LS c d n B nl names V' W' s':=by
 have c0:=h.c0
 have d0:=h.d0
 have n0:=h.n0
 have hl:=h.len
 have g:∀ i,i < B->s'[i]? = s[i]?:=λ i hi=>k.get i (by lia) (.inl hi)
 obtain⟨⟨t,cells,h1,h2,h3⟩,_⟩:=h.dr
 exact⟨⟨⟨t,cells,by rw[g d d0.2];exact h1,by rw[g c c0.2];exact h2,h3⟩,b.cl⟩,b.at_,by rw[g 0 (by lia)];exact h.t0,c0,d0,bB (by rw[g nl n0.2.1];exact ć h.nm),n0⟩
theorem EG (hb:B+17<=b):∀ o∈mid B V W,o.low b=true:=by
 intro o ho
 unfold mid at ho
 simp only[Þ,Ď,bP]at ho
 rcases ho with rfl|rfl|rfl|rfl|rfl|rfl|rfl|rfl|rfl|rfl|rfl|rfl|rfl|rfl|rfl|rfl|rfl
 ·simp[AO.low,w_,Ĩ,AV.low];lia
 ·exact pQ (λ _=>EF _ _) _
 ·exact pQ (λ _=>by simp[AV.low,Ĩ]) _
 ·exact IE _ _
 ·simp[AO.low,Ĩ]
 ·simp[AO.low,Ĩ]
 ·simp[AO.low,Ĩ]
 ·simp[AO.low,Ĩ]
 ·exact cg _ _
 ·exact pQ (λ _=>by simp[AV.low,Ĩ]) _
 ·exact ID _ _
 ·simp[AO.low,Ĩ]
 ·simp[AO.low,Ĩ]
 ·simp[AO.low,Ĩ,Wl.kw]
 ·simp[AO.low,yL,Ĩ,AV.low];lia
 ·simp[AO.low,Ĩ]
 ·simp[AO.low,Ĩ]
theorem LS.cut (h:LS c d n B nl names V W s)(w:Wk c d B s s')(h':LS c d m B nl names V' W' s'):LS c d m B nl names V' W' (s'.take s.length)/\(s'.take s.length).all (AO.low s.length)=true:=by
 have c0:=h.c0
 have d0:=h.d0
 have n0:=h.n0
 have hl:=h.len
 have lc:=h.dr.Lx
 have ld:=h.dr.Ly
 have el:(s'.take s.length).length=s.length:=by rw[aZ];have:=w.len;lia
 have eg:∀ i,i < s.length->(s'.take s.length)[i]? = s'[i]?:=λ i hi=>ay hi
 obtain⟨⟨t,cells,h1,h2,h3⟩,cl'⟩:=h'.dr
 have all:(s'.take s.length).all (AO.low s.length)=true:=by
  rw[ă]
  intro o ho
  obtain⟨i,hi,e⟩:=GU.mp ho
  rw[el]at hi
  have e':(s'.take s.length)[i]? = À o:=by rw[Å (by rw[el];exact hi)];rw[e]
  rw[eg i hi]at e'
  by_cases c1:i=c
  ·subst c1;rw[h2]at e';cases e';exact low_ints _ _
  by_cases c2:i=d
  ·subst c2;rw[h1]at e';cases e';simp[AO.low,xV,Ĩ,AV.low,lc]
  by_cases c3:i < B∨B+17<=i
  ·rw[w.get i hi c1 c2 c3]at e'
   exact ă.mp (show s.all (AO.low s.length)=true from h.dr.cl) o (é e')
  ·have q:=h'.at_.get (i - B) (by show i - B < 17;lia)
   rw[show B+(i - B)=i by lia,e']at q
   exact EG hl o (é q.symm)
 refine⟨⟨⟨⟨t,cells,by rw[eg d ld];exact h1,by rw[eg c lc];exact h2,h3⟩,by unfold Cl;rw[el];exact all⟩,h'.at_.keep λ i _ hi=>eg i (by have:(mid B V' W').length=17:=rfl;lia),by rw[eg 0 (by lia)];exact h'.t0,c0,d0,bB (by rw[eg nl (by lia)];exact ć h'.nm),n0⟩,all⟩
end
structure Hd (r:R AV)(Q:AV->S->Prop):Prop where
 run:r.wp Q
theorem Hd.to (h:Hd r P)(k:∀ v s,P v s->Q v s):r.wp Q:=h.run.mono k
theorem gZ:∀ {l:Á α},(∀ a∈l,(f a).dep<=k)->a_ (l.map f)<=k
 | [],_=>by simp[a_]
 | a :: r,h=>by
  rw[Ó]
  have h1:=h a (.head _)
  have h2:=gZ (l:=r) λ b hb=>h b (.tail _ hb)
  simp only[a_];lia
theorem Kq (V:Wl):(told V).dep < 9:=by
 have a1:a_ ((ù V.ps).map Dt.str)<=2:=gZ λ _ _=>by simp[Dt.dep]
 have a2:a_ ((ù V.ws).map Dt.str)<=2:=gZ λ _ _=>by simp[Dt.dep]
 have a3:a_ ((ù V.ws).map λ _=>Dt.tup [])<=2:=gZ λ _ _=>by simp[Dt.dep,a_]
 have a4:a_ ((ù V.ps).map λ p=>Dt.lst ((Em V.hs p).map hD))<=4:=gZ λ p _=>by
  have:a_ ((Em V.hs p).map hD)<=2:=gZ λ _ _=>by simp[hD,Dt.dep,a_]
  simp only[Dt.dep];lia
 have a5:a_ ((ù V.ws).map λ _=>Dt.Ē)<=2:=gZ λ _ _=>by simp[Dt.dep]
 have a6:a_ ((ù V.ps).map λ p=>Dt.tup [.int (V.kf p).1,.int (V.kf p).2])<=2:=gZ λ _ _=>by simp[Dt.dep,a_]
 unfold told wF BU BV
 simp only[Dt.dep,iR,jZ,a_]
 lia
section
variable {c d n B nl:Nat}{names:Á Str}{V:Wl}{s:S}
theorem EZ (h:lV B V V s){m k:Nat}(ok:DU m k V)(hm:m < 64)(hk:k < 64){K:AV->Prop}(kk:K (.bl true)) :
  (Ŷ [.ref B] s).wp λ v s1=>(ar [.ref (B+14)] s1).wp λ w s2=>(Ĉ 9 [v,w] s2).wp λ x s3=>(s3.take s.length=s/\x.low s.length=true)/\K x:=by
 have lp:=ok.lp
 have lw:=ok.lw
 have lh:=ok.lh
 refine(AZ rfl h (by lia) (by lia) (by lia) ok.nd).mono ?_
 rintro v s1 ⟨e,rfl,c1,r1⟩
 refine(Cv (h.app c1.cl) (by lia) (by lia) (by lia) ok.nd λ p _=>rfl).mono ?_
 rintro w s2 ⟨e2,rfl,c2,r2⟩
 rw[ĝ (E2 (n:=9) (r1.zero.app e2) r2 (Kq V))]
 refine⟨⟨?_,by simp[AV.low]⟩,kk⟩
 rw[È];exact cG
def Ce:Á (Key × AV):=[(.inr "hand",.str "hands"),(.inr "rate",.str "rates"),(.inr "debt",.str "debts"),(.inr "sold",.str "money"),(.inr "back",.str "money")]
def FX:Á (Key × AV):=[(.inr "hand",.int 30),(.inr "rate",.int 20),(.inr "debt",.int 20),(.inr "sold",.int 40),(.inr "back",.int 40)]
theorem MN (h:lV B V W s):(b8 [.ref (B+14),.str "hand"] s).wp λ v s'=>v=.str (if (30:Int)<=W.hs.length then "half" else "hand")/\s'=s++[.dK Ce]++[.dK FX]/\Cl s':=by
 have e1:∀ (st:S) (env:En),gp [((mc (.str "hand")),(mc (.str "hands"))),((mc (.str "rate")),(mc (.str "rates"))),((mc (.str "debt")),(mc (.str "debts"))),((mc (.str "sold")),(mc (.str "money"))),((mc (.str "back")),(mc (.str "money")))] env st=.ok (.ref st.length) (st++[.dK Ce]):=λ st env=>by
  unfold gp
  simp only[EX,mc,ą,qQ,fR,aj,bH,ê]
  rw[Ñ (by show(5:Nat)<=15;lia)]
  rfl
 have e2:∀ (st:S) (env:En),gp [((mc (.str "hand")),(mc (.int 30))),((mc (.str "rate")),(mc (.int 20))),((mc (.str "debt")),(mc (.int 20))),((mc (.str "sold")),(mc (.int 40))),((mc (.str "back")),(mc (.int 40)))] env st=.ok (.ref st.length) (st++[.dK FX]):=λ st env=>by
  unfold gp
  simp only[EX,mc,ą,qQ,fR,aj,bH,ê]
  rw[Ñ (by show(5:Nat)<=15;lia)]
  rfl
 have c1:Cl (s++[.dK Ce]):=h.cl.add (by simp[AO.low,Ce,Ĩ,AV.low])
 have c2:Cl (s++[.dK Ce]++[.dK FX]):=c1.add (by simp[AO.low,FX,Ĩ,AV.low])
 have h2:=(h.app c1).app c2
 have k1:j8 (s++[.dK Ce]++[.dK FX]) s.length=À Ce:=jx (by rw[È,ß (Ï _)];simp)
 have k2:j8 (s++[.dK Ce]++[.dK FX]) (s++[AO.dK Ce]).length=À FX:=jx (by rw[ß (Ï _)];simp)
 have q1:rg (.str "hand") (.ref s.length) (s++[.dK Ce]++[.dK FX])=.ok (.bl true) _:=(zr k1).trans rfl
 have q2:Ļ (.ref s.length) (.str "hand") (s++[.dK Ce]++[.dK FX])=.ok (.str "hands") _:=xU k1 rfl
 have q3:Ļ (.ref (s++[AO.dK Ce]).length) (.str "hand") (s++[.dK Ce]++[.dK FX])=.ok (.int 30) _:=xU k2 rfl
 unfold b8 jt
 simp only[↓WS,↓WE,↓WV,Lq,â,UU,Ç,↓Ô,↓ĝ (e1 _ _),↓ĝ (e2 _ _),↓ĝ q1,↓ĝ q2,↓ĝ q3,↓ĝ (qa h2.at_ (wK B W.h)),↓ĝ (pP (vU h2.at_)),Õ]
 split
 ·exact⟨rfl,c2⟩
 ·exact⟨rfl,c2⟩
theorem GL (h:LS c d n B nl names V V s)(ok:DU m k V)(hm:m+many < 60)(hk:k+many < 60)(hn:n<=600000000)(hN:0 < names.length)(hN2:names.length<=1000)(hs:∀ x∈names,x.length<=1000)
  (hw:ï s wl=À [AV.str "hand"]) (Vc:B+17<=wl) :
  Hd (bK [.ref d,.ref B,.ref (B+14),.ref nl,.ref wl,.int many] s) λ v s'=>v=.bl true/\∃ V',DU (m+many) (k+many) V'/\LS c d (n+20 * many) B nl names V' V' s'/\Wk c d B s s':=by
 have c0:=h.c0
 have d0:=h.d0
 have n0:=h.n0
 constructor
 unfold bK kM
 have fn6:∀ {n:Nat}{b:Ms}{a1 a2 a3 a4 a5 a6:AV}{s:S}{Q:AV->S->Prop},(b (À a1 :: À a2 :: À a3 :: À a4 :: À a5 :: À a6 :: à (n - 6) none) s).wp (λ _ s1=>Q .Ē s1) Q->(fe n b [a1,a2,a3,a4,a5,a6] s).wp Q:=by
  intro n b a1 a2 a3 a4 a5 a6 s Q hh
  show(match b (À a1 :: À a2 :: À a3 :: À a4 :: À a5 :: À a6 :: à (n - 6) none) s with|.rt v s1=>R.ok v s1|.nx _ s1=>.ok .Ē s1|.ex c s1=>.ex c s1|_=>.bad).wp Q
  revert hh
  cases b (À a1 :: À a2 :: À a3 :: À a4 :: À a5 :: À a6 :: à (n - 6) none) s<;>exact λ z=>z
 refine fn6 ?_
 simp only[↓WS,↓WE,↓WV,Lq,â,UU,Ç,↓Ô,↓Ah]
 refine⟨⟨by lia,by lia⟩,?_⟩
 refine zA (λ xs env st=>∃ (x6 x7 x8:Ë AV) (z:Nat) (V':Wl),xs.length+z=many/\env=[À (.ref d),À (.ref B),À (.ref (B+14)),À (.ref nl),À (.ref wl),À (.int many),x6,x7,x8]/\DU (m+z) (k+z) V'/\LS c d (n+20 * z) B nl names V' V' st/\Wk c d B s st) ?_ ?_ ?_ _ _ _ ⟨none,none,none,0,V,by simp[pY],rfl,ok,h,Wk.refl c d B s⟩
 ·rintro _ _ st _ p hp;cases hp
 ·rintro env st ⟨x6,x7,x8,z,V',hz,rfl,V6,h',w'⟩
  have hz:0+z=many:=hz
  rw[Yj]at hz
  subst hz
  exact⟨V',V6,h',w'⟩
 ·rintro v r env st ⟨x6,x7,x8,z,V',hz,rfl,V6,h',w'⟩
  have hz:r.length+1+z=many:=hz
  have ltw:wl < s.length:=(Æ.mp (ć hw)).1
  have hw':ï st wl=À [AV.str "hand"]:=bB (by rw[w'.get wl ltw (by lia) (by lia) (.inr Vc)];exact ć hw)
  simp only[↓WS,↓WE,↓WV,Lq,â,UU,Ç,↓Ô,↓ĝ (pP hw')]
  refine(take1 h'.dr).mono ?_
  rintro _ s1 ⟨j,rfl,j0,j1,D1,K1⟩
  have h1:=h'.kp K1 D1
  have Zw:ï s1 wl=À [AV.str "hand"]:=K1.gk.lst (n:=0) (by lia) (by lia) hw'
  obtain⟨wv,hwv,ew⟩:=EA (s:=s1) (i:=wl) (j:=j) Zw j0 j1
  cases ò.mp hwv
  have ew':(need (ï s1 wl) λ xs=>need (l9 xs j) λ v=>R.ok v s1)=.ok (.str "hand") s1:=ew
  simp only[↓WS,↓WE,↓WV,Lq,â,UU,Ç,↓Ô,↓ĝ ew']
  refine(MN h1.TM).mono ?_
  rintro _ s2 ⟨rfl,rfl,c2⟩
  have h2:LS c d (n+20 * z+1) B nl names V' V' (s1++[.dK Ce]++[.dK FX]):=by rw[È]at c2 ⊢;exact h1.app c2
  have g2:Wk c d B s1 (s1++[.dK Ce]++[.dK FX]):=((rR.refl B s1).app _).app _ |>.wk c d
  generalize s1++[AO.dK Ce]++[AO.dK FX]=s2 at h2 g2 ⊢
  refine(L' h2.dr (by lia) h2.nm hN hN2 hs n0.2.2.1 n0.2.2.2 (by split;exact .inr rfl;exact .inl rfl)).mono ?_
  rintro _ s3 ⟨de,rfl,hde,hk',D3,K3⟩
  have ļ:de.ok V':=by
   rcases hk' with⟨_,rfl,_⟩|⟨_,rfl⟩<;>trivial
  have h3:=h2.kp K3 D3
  refine(HK h3.TM V6 (by lia) (by lia) de ļ).mono ?_
  rintro _ s4 ⟨rfl,b4,g4⟩
  have h4:=h3.XA g4 b4
  refine(Dq b4 V6 (by lia) (by lia) de hde ļ).mono ?_
  rintro _ s5 ⟨rfl,b5,g5⟩
  have h5:=h4.XA g5 b5
  have ok5:=Ee V6 de
  rw[ĝ (same_str 8 (nE V' de) s5)]
  simp only[lN,df,av,gy]
  rw[Ö (by decide)]
  refine EZ b5 ok5 (by lia) (by lia) ?_
  rw[lN]
  dsimp only
  rw[Ö (by decide)]
  exact⟨_,_,_,z+1,kQ V' de,by lia,rfl,ok5,⟨h5.dr.mono (by lia),h5.at_,h5.t0,h5.c0,h5.d0,h5.nm,h5.n0⟩,((((w'.trans (K1.wk B)).trans g2).trans (K3.wk B)).trans (g4.wk c d)).trans (g5.wk c d)⟩
end
theorem LU (h1:ï s i=À xs)(h2:ï s j=À ys)(k:xs.length+ys.length<=1000):cw (.ref i) (.ref j) s=.ok (.ref s.length) (s++[AO.lst (xs++ys)]):=by
 show(need (ï s i) λ xs=>need (ï s j) λ ys=>if xs.length+ys.length<=sizeLine then R.ok (AV.ref s.length) (s++[AO.lst (xs++ys)]) else .bad)=_
 rw[h1,h2,ê,ê,Ñ (BP k)]
theorem BA (D:Dr c d n s)(hn:n<=900000000):(bu [.ref d] s).wp λ v s'=>∃ (j:Nat) (zs:Á Str),v=.ref j/\s.length<=j/\ï s' j=À (zs.map AV.str)/\zs.length=8/\(∀ z∈zs,z.length<=1000)/\zs.Nodup/\Dr c d (n+20) s'/\Gk c d s s':=by
 have lc:=D.Lx
 have ld:=D.Ly
 unfold bu iB
 walk_at "w"
 refine(Jk D hn (by lia) (by lia)).mono ?_
 rintro _ s1 ⟨j,zs,rfl,hj,l1,l2,m1,nd,D1,G1⟩
 obtain⟨D2,K2,al⟩:=G1.cut D D1
 have TU:Cl (s1.take s.length++[AO.lst (zs.map AV.str)]):=D2.cl.add (by simp[AO.low,cg])
 have XB:Cl (s1.take s.length++[AO.lst (zs.map AV.str)]++[AO.lst [.str "never"]]):=TU.add (by simp[AO.low,Ĩ,AV.low])
 have e1:(zs++[("never":Str)]).map AV.str=zs.map AV.str++[.str "never"]:=by simp
 have cl3:Cl (s1.take s.length++[AO.lst (zs.map AV.str)]++[AO.lst [.str "never"]]++[AO.lst ((zs++[("never":Str)]).map AV.str)]):=XB.add (by
  have:=cg
  simp only[Ő,kg,AO.low,dc];exact cg _ _)
 have e2:cw (.ref (s1.take s.length).length) (.ref (s1.take s.length++[AO.lst (zs.map AV.str)]).length) (s1.take s.length++[AO.lst (zs.map AV.str)]++[AO.lst [.str "never"]])=.ok (.ref (s1.take s.length++[AO.lst (zs.map AV.str)]++[AO.lst [.str "never"]]).length) (s1.take s.length++[AO.lst (zs.map AV.str)]++[AO.lst [.str "never"]]++[AO.lst ((zs++[("never":Str)]).map AV.str)]):=by
  rw[LU (ā (ħ _ _)) (ħ _ _) (by simp;lia),e1]
 simp only[↓WS,↓WE,↓WV,Lq,â,UU,Ç,↓Ô,l1,hj,al,cg,↓ĝ e2]
 refine⟨_,zs++[("never":Str)],rfl,?_,ħ _ _,?_,?_,?_,(((D2.app TU).app XB).app cl3),((K2.gk.trans (Gk.app ..)).trans (Gk.app ..)).trans (Gk.app ..)⟩
 ·simp[K2.len]
 ·simp;lia
 ·intro z hz
  rcases aQ.mp hz with hz|hz
  ·exact Js z (m1 z hz)
  ·rw[ò.mp hz];decide
 ·refine lZ.mpr ⟨nd,by simp,λ x hx y hy e=>?_⟩
  rw[ò.mp hy]at e
  subst e
  exact absurd (m1 _ hx) (by decide +kernel)
theorem Gk.wk (h:Gk c d s s')(B:Nat):Wk c d B s s':=⟨h.len,λ i hi h1 h2 _=>h.get i hi h1 h2⟩
def V0:Wl:=⟨[],[],[],182⟩
theorem TH:DU 0 0 V0:=⟨Ï _,Ï _,Ï _,.nil⟩
theorem Jn (s:S)(env:En){Q:AV->AV->S->Prop}(k:Q (.ref s.length) (.ref (s.length+14)) (s++mid s.length V0 V0)):(pR 9 ŵ env s).wp λ v s1=>(cD [] s1).wp λ w s2=>Q v w s2:=by
 have e:=Kx (s++[.ins 9 (w_ s.length 182),.dK [],.dK [],.dT [],.dK [],.dK [],.lst [],.lst []]) (B:=s.length) (by simp)
 rw[È]at e
 rw[ĝ (MS s env),ĝ e]
 exact k
theorem YS (l:Á Str)(lo hi:Ë Int):∃ l':Á Str,j' (l.map AV.str) lo hi=l'.map AV.str/\l'=j' l lo hi:=by
 refine⟨_,?_,rfl⟩
 unfold j';rw[Õ,<-Tc,<-Td]
theorem L6 (h:x∈j' l lo hi):x∈l:=by
 unfold j' at h
 exact List.mem_of_mem_drop (List.mem_of_mem_take h)
theorem LS.start (D:Dr c d n s)(t0:s[0]? = À (.tab 20 qR)) (c0:0 < c)(d0:0 < d)(nm:ï s nl=À (names.map AV.str)) (n0:0 < nl)(nc:nl≠c)(nd:nl≠d):LS c d n s.length nl names V0 V0 (s++mid s.length V0 V0):=by
 have lc:=D.Lx
 have ld:=D.Ly
 have ln:=(Æ.mp (ć nm)).1
 have XB:Cl (s++mid s.length V0 V0):=D.cl.add (by
  rw[ă]
  exact EG (Ï _))
 exact⟨D.app XB,At.new _ _,by rw[á (by lia)];exact t0,⟨c0,by lia⟩,⟨d0,by lia⟩,ā nm,⟨n0,by lia,nc,nd⟩⟩
theorem Hi {c d n nl j:Nat}{names n5:Á Str}{s:S}(D:Dr c d n s)(hn:n<=800000000)(t0:s[0]? = À (.tab 20 qR)) (c0:0 < c)(d0:0 < d)(nm:ï s nl=À (names.map AV.str)) (n0:0 < nl)(nc:nl≠c)(nd:nl≠d)
  (hj:ï s j=À (n5.map AV.str)) (h5:n5.length<=8) (hs:∀ x∈n5,x.length<=1000) (ZS:n5.Nodup) :
  Hd (cC [.ref d,.ref j] s) λ v s'=>v=.tup [.ref s.length,.ref (s.length+14)]/\∃ V,DU 8 8 V/\LS c d (n+20) s.length nl names V V s':=by
 have H:=LS.start D t0 c0 d0 nm n0 nc nd
 constructor
 unfold cC mf
 walk_at "w"
 refine Jn _ _ ?_
 generalize hB:s.length=B at H ⊢
 obtain⟨n7,en7,ee⟩:=YS n5 none (À 7)
 have hj':=ā (e:=mid B V0 V0) hj
 generalize s++mid B V0 V0=s1 at H hj' ⊢
 have e2:sT (.ref j) none (À 7) s1=.ok (.ref s1.length) (s1++[AO.lst (n7.map AV.str)]):=by
  show(need (ï s1 j) λ xs=>R.ok (AV.ref s1.length) (s1++[AO.lst (j' xs none (À 7))]))=_
  rw[hj',ê,en7]
 have hl:=H.len
 have H1:=H.app (e:=[AO.lst (n7.map AV.str)]) (H.dr.cl.add (by simp only[Ő,kg,AO.low,dc];exact cg _ _))
 have l7:=ħ s1 (n7.map AV.str)
 have ZT:n7.Nodup:=by
  rw[ee];unfold j'
  exact(uI ..).nodup ((List.drop_sublist ..).nodup ZS)
 have Vy:n7.length<=8:=by
  rw[ee];unfold j'
  rw[aZ,wU];lia
 have ZN:s1.length < (s1++[AO.lst (n7.map AV.str)]).length:=by simp
 simp only[↓WS,↓WE,↓WV,Lq,â,UU,Ç,↓Ô,↓ĝ e2,↓ĝ (lQ l7)]
 generalize s1.length=j7 at l7 hl ZN ⊢
 generalize s1++[AO.lst (n7.map AV.str)]=s2 at H1 l7 ZN ⊢
 refine zA (λ xs env st=>∃ (r:Á Str) (x2 x5:Ë AV) (z:Nat) (V:Wl),xs=r.map AV.str/\r.length+z=n7.length/\r.Nodup/\(∀ x∈r,x.length<=1000/\x∉V.ps/\x∉V.ws)/\env=[À (.ref d),À (.ref j),x2,À (.ref B),À (.ref (B+14)),x5]/\DU z z V/\LS c d (n+2 * z) B nl names V V st/\Wk c d B s2 st) ?_ ?_ ?_ _ _ _ ⟨n7,none,none,0,V0,rfl,rfl,ZT,λ x hx=>⟨hs x (L6 (ee ▸ hx)),(nomatch ·),(nomatch ·)⟩,rfl,TH,H1,Wk.refl ..⟩
 ·rintro _ _ st ⟨_,_,_,_,_,_,_,_,_,_,_,_,w⟩ p hp
  rw[ò.mp hp]
  have c0:=H1.c0
  have d0:=H1.d0
  exact bB (by rw[w.get j7 ZN (by lia) (by lia) (.inr hl)];exact ć l7)
 ·rintro env st ⟨r,x2,x5,z,V,hr,hz,_,_,rfl,ok,h,_⟩
  cases r with
  | cons _ _=>cases hr
  | nil=>
   have hz:0+z=n7.length:=hz
   walk_at "w"
   exact⟨V,⟨by have:=ok.lp;lia,by have:=ok.lw;lia,by have:=ok.lh;lia,ok.nd⟩,⟨h.dr.mono (by lia),h.at_,h.t0,h.c0,h.d0,h.nm,h.n0⟩⟩
 ·rintro v r env st ⟨r',x2,x5,z,V,hr,hz,ndr,hx,rfl,ok,h,w⟩
  cases r' with
  | nil=>cases hr
  | cons x r'=>
   cases hr
   have hz:r'.length+1+z=n7.length:=hz
   obtain⟨x1,xp,xw⟩:=hx x (.head _)
   walk_at "w"
   refine(JO h.dr (by lia) (P:=λ v=>v=.str "person"∨v=.str "work") rfl (by simp) (by simp) ?_).mono ?_
   ·intro v hv
    simp only[Þ,Ď,bP]at hv
    rcases hv with rfl|rfl
    ·exact⟨.inl rfl,λ b=>by simp[AV.low]⟩
    ·exact⟨.inr rfl,λ b=>by simp[AV.low]⟩
   rintro _ s3 ⟨wv,ev,hw,lo,al,D3,K3⟩
   rw[ĝ ev]
   refine⟨⟨al,lo⟩,?_⟩
   have h3:=h.kp K3 D3
   generalize s3.take st.length=s4 at D3 K3 h3 ⊢
   obtain⟨de,ed,nmd,okd,edr,edw⟩:∃ de:De,AV.tup [wv,.str x]=dv de/\de.nm/\de.ok V/\nE V de=""/\(kQ V de={ V with ps:=V.ps++[x] }∨kQ V de={ V with ws:=V.ws++[x] }):=by
    rcases hw with rfl|rfl
    ·exact⟨.person x,rfl,x1,λ z=>z.elim xp xw,rfl,.inl rfl⟩
    ·exact⟨.work x,rfl,x1,λ z=>z.elim xp xw,rfl,.inr rfl⟩
   rw[ed]
   refine(HK h3.TM ok (by lia) (by lia) de okd).mono ?_
   rintro _ s5 ⟨_,b5,g5⟩
   have h5':=h3.XA g5 b5
   rcases Bb b5 ok (by lia) (by lia) de nmd okd with⟨_,s6,e6,b6,g6⟩|⟨cc,k,_⟩
   ·rw[ĝ e6]
    have h6:=h5'.XA g6.a b6
    have ok6:=Ee ok de
    refine⟨r',_,_,z+1,kQ V de,rfl,by lia,(š.mp ndr).2,λ y hy=>?_,rfl,ok6,⟨h6.dr.mono (by lia),h6.at_,h6.t0,h6.c0,h6.d0,h6.nm,h6.n0⟩,((w.trans (K3.wk B)).trans (g5.wk c d)).trans (g6.a.wk c d)⟩
    obtain⟨y1,y2,y3⟩:=hx y (.tail _ hy)
    have ne:y≠x:=λ e=>(š.mp ndr).1 (e ▸ hy)
    rcases edw with e|e
    ·rw[e];exact⟨y1,by simp[y2,ne],y3⟩
    ·rw[e];exact⟨y1,y2,by simp[y3,ne]⟩
   ·rw[edr]at k
    rcases k with⟨_,k⟩|⟨_,k⟩
    ·exact absurd k (by decide)
    ·exact absurd k (by decide)
theorem GB (c1:Ct s.length (s++e)) (r1:Rp s.length (s++e) (.lst L) v):(ah [v] (s++e)).wp λ x s3=>s3.take s.length=s/\x.low s.length=true:=by
 unfold Rp at r1
 obtain⟨f,items,rfl,hb,hf,hl,r⟩:=r1
 obtain⟨xs,ex,lx,nx,qx⟩:=c1.nl f _ hb (ć hf)
 cases ex
 have sp:Sp s.length f s items 0 (s++e):=⟨cG,hf,λ i hi _=>by
  have lt:i < (s++e).length:=by have:=(Æ.mp (ć hf)).1;lia
  obtain⟨ys,ey,ly,ny,qy⟩:=c1.nl i _ hi (Å lt)
  exact⟨ys,bB (by rw[Å lt,ey]),by lia,ny,qy⟩⟩
 refine(GD sp nx qx lx).mono ?_
 rintro _ s' ⟨rfl,e⟩
 exact⟨e,by simp[AV.low]⟩
def Cf:Ev:=Ie (ę 1 ah (Ê (Û cw (Ĺ (aE [("_law_person",none),("_law_book",À 3)] (dO (Ľ 9 "person_names" 0 ċ (mv 3) Ü)) (gN 0) j_ (Ľ 9 "hands_of" 1 Ś (mv 1) (Ê (mv 0) Ü)))) (Ĺ (cf (Ê (Ľ 9 "person_names" 0 ċ (mv 3) Ü) Ü)))) Ü))
theorem GC {B m k:Nat}{V:Wl}{s:S}(h:lV B V V s)(ok:DU m k V)(hm:m < 64)(hk:k < 64)(x0 x1 x2 x4:Ë AV){K:Prop}(kk:K):(Cf [x0,x1,x2,À (.ref B),x4] s).wp λ _ s3=>s3=s/\K:=by
 have lp:=ok.lp
 have lh:=ok.lh
 have lp:V.ps.length < 64:=by lia
 have lh:V.hs.length < 64:=by lia
 have c0:Ct s.length s:=Ct.start h.cl
 have c1:Ct s.length (s++[.lst ((ù V.ps).map AV.str)]):=c0.push (i_ lp Dt.str) (dq _ _)
 have h1:=h.app c1.cl
 have hp:ï (s++[.lst ((ù V.ps).map AV.str)]) s.length=À ((ù V.ps).map AV.str):=ħ _ _
 unfold Cf
 simp only[↓WS,↓WE,↓WV,Lq,â,UU,Ç,↓Ô,↓ĝ ((nR (m:="person_names") h.at_ (by decide +kernel) (show mv 3 [x0,x1,x2,À (.ref B),x4] s=.ok (.ref B) s from rfl)).trans (iK h.at_ lp)),↓ĝ (lQ hp)]
 refine⟨Of lp _,(lE (b:=s.length) (Ct s.length) (λ p=>Dt.lst ((Em V.hs p).map hD)) hp c1 ?_).mono ?_⟩
 ·intro x hx e ce
  rw[ĝ ((g9 (m:="hands_of") (h1.app ce.cl).at_ (by decide +kernel) yr nj).trans (qM (h1.app ce.cl).at_ ok.nd lh (jO.mp hx)))]
  exact⟨_,rfl,ce.push (qL lh x) (ji _ _),bD ce.le (qL lh x) (ji _ _)⟩
 rintro hl s3 ⟨e1,rfl,c3,r3⟩
 have c4:=c3.push (i_ lp _) r3
 have p4:=bD c3.le (i_ lp _) r3
 have h4:lV B V V (s++[.lst ((ù V.ps).map AV.str)]++e1++[.lst hl]):=by rw[È];exact h1.app (by rw[<-È];exact c4.cl)
 generalize (s++[AO.lst ((ù V.ps).map AV.str)]++e1).length=k1 at *
 obtain⟨e4,he4⟩:∃ e4,s++[AO.lst ((ù V.ps).map AV.str)]++e1++[AO.lst hl]=s++e4:=⟨[AO.lst ((ù V.ps).map AV.str)]++e1++[AO.lst hl],by simp⟩
 rw[he4]at c4 p4 h4 ⊢
 clear he4 c3 r3 hp h1 c1
 have c5:=c4.push (i_ lp Dt.str) (dq (b:=s.length) (s++e4) (ù V.ps))
 have p5:=bD c4.le (i_ lp Dt.str) (dq (b:=s.length) (s++e4) (ù V.ps))
 simp only[↓WS,↓WE,↓WV,Lq,â,UU,Ç,↓Ô,↓ĝ ((nR (m:="person_names") h4.at_ (by decide +kernel) (show mv 3 [x0,x1,x2,À (.ref B),x4] (s++e4)=.ok (.ref B) (s++e4) from rfl)).trans (iK h4.at_ lp))]
 have r6:bQ s.length (s++e4++[.lst ((ù V.ps).map AV.str)]) [.lst ((ù V.ps).map .str)] [.ref (s++e4).length]:=.one p5
 have c6:=c5.push (by simp) r6
 have p6:=bD c5.le (by simp) r6
 obtain⟨ys,ey,r7,p7⟩:=vj ((p4.app _).app _) p6 (by simp[sX];lia) c6.le
 have c7:=c6.push (by simp[sX];lia) r7
 rw[ĝ ey]
 have he:∃ e,s++e4++[AO.lst ((ù V.ps).map AV.str)]++[AO.lst [.ref (s++e4).length]]++[AO.lst ys]=s++e:=⟨_,by simp only[È];rfl⟩
 obtain⟨e,he⟩:=he
 rw[he]at c7 p7 ⊢
 refine(GB c7 p7).mono ?_
 rintro v s' ⟨q1,q2⟩
 exact⟨⟨q1,q2⟩,kk⟩
theorem Qv (ns:Á Int):(vA [.sq (ns.map AV.int)] (tabS [(20,"by_days.<locals>.<lambda>")])).wp λ v _=>v=.bl true:=by
 have cl0:Cl (tabS [(20,"by_days.<locals>.<lambda>")]):=rfl
 unfold vA Hg
 rw[show Ie (ę 1 ah (Ê (Û cw (Ĺ (aE [("_law_person",none),("_law_book",À 3)] (dO (Ľ 9 "person_names" 0 ċ (mv 3) Ü)) (gN 0) j_ (Ľ 9 "hands_of" 1 Ś (mv 1) (Ê (mv 0) Ü)))) (Ĺ (cf (Ê (Ľ 9 "person_names" 0 ċ (mv 3) Ü) Ü)))) Ü))=Cf from rfl]
 walk_at "w"
 refine(Hh ns cl0).mono ?_
 rintro _ s0 ⟨c,d,e0,rfl,es,D0,c0,d0⟩
 have t0:s0[0]? = À (.tab 20 qR):=by rw[es];rfl
 have c0:0 < c:=c0
 have d0:0 < d:=d0
 clear es
 refine(BA D0 (by lia)).mono ?_
 rintro _ s1 ⟨j,names,rfl,hj,l1,ln,nm,ZS,D1,G1⟩
 obtain⟨D2,K2,al⟩:=G1.cut D0 D1
 have t2:(s1.take s0.length)[0]? = À (.tab 20 qR):=by rw[K2.get 0 (by lia) (by lia)];exact t0
 simp only[↓WS,↓WE,↓WV,Lq,â,UU,Ç,↓Ô,l1,hj,al,cg]
 generalize s1.take s0.length=s2 at D2 K2 t2 ⊢
 have lc:=D2.Lx
 have ld:=D2.Ly
 have D3:=D2.app (e:=[AO.lst (names.map AV.str)]) (D2.cl.add (by simp only[Ő,kg,AO.low,dc];exact cg _ _))
 have t3:(s2++[AO.lst (names.map AV.str)])[0]? = À (.tab 20 qR):=by rw[á (by lia)];exact t2
 have l3:=ħ s2 (names.map AV.str)
 generalize hnl:s2.length=nl at l3 ⊢
 rw[hnl]at lc ld
 generalize s2++[AO.lst (names.map AV.str)]=s4 at D3 t3 l3 ⊢
 have b4:=Hi D3 (by lia) t3 c0 d0 l3 (by lia) (by lia) (by lia) l3 (by lia) nm ZS
 generalize cC [.ref d,.ref nl] s4=rr at b4 ⊢
 refine b4.to ?_
 rintro _ s5 ⟨rfl,V,ok,h⟩
 generalize s4.length=B at h ⊢
 walk_at "w"
 have hl:=h.len
 have h6:=h.app (e:=[AO.lst [AV.str "hand"]]) (h.dr.cl.add (by simp[AO.low,Ĩ,AV.low]))
 have w6:Wk c d B s5 (s5++[AO.lst [AV.str "hand"]]):=(Gk.app c d s5 _).wk B
 have lw:=ħ s5 [AV.str "hand"]
 generalize s5++[AO.lst [AV.str "hand"]]=s6 at h6 w6 lw ⊢
 refine(take1 h6.dr).mono ?_
 rintro _ s7 ⟨q,rfl,q0,q1,D7,K7⟩
 have h7:=h6.kp K7 D7
 have lw7:ï s7 s5.length=À [AV.str "hand"]:=K7.gk.lst (n:=0) (by have:=h.c0;lia) (by have:=h.d0;lia) lw
 obtain⟨many,em⟩:∃ many:Nat,(15+q:Int)=many:=⟨(15+q).toNat,by lia⟩
 have e7:cw (.int 15) (.int q) s7=.ok (.int many) s7:=by rw[<-em];rfl
 rw[ĝ e7]
 have w7:=GL (many:=many) h7 ok (by lia) (by lia) (by lia) (by lia) (by lia) nm lw7 hl
 refine⟨rfl,?_⟩
 generalize bK [.ref d,.ref B,.ref (B+14),.ref nl,.ref s5.length,.int many] s7=rr at w7 ⊢
 refine w7.to ?_
 rintro _ s8 ⟨rfl,V8,ok8,h8,w8⟩
 obtain⟨h9,al9⟩:=h.cut ((w6.trans (K7.wk B)).trans w8) h8
 refine⟨⟨al9,rfl⟩,?_⟩
 generalize s8.take s5.length=s9 at h9 ⊢
 rw[lN]
 dsimp only
 rw[Ö (by decide)]
 refine(GC h9.TM ok8 (by lia) (by lia) _ _ _ _ trivial).mono ?_
 rintro _ _ ⟨rfl,_⟩
 exact EZ h9.TM ok8 (by lia) (by lia) rfl
end Ro
namespace PySem.W.Fast
theorem tw11623326216408899471:True:=⟨⟩
theorem tw8277443583291435165:True:=⟨⟩
theorem tw4099379239825453946:True:=⟨⟩
theorem tw10483974771247584787:True:=⟨⟩
theorem tw10989216354896244065:True:=⟨⟩
theorem tw16116459107389659320:True:=⟨⟩
theorem tw13318525204934199099:True:=⟨⟩
theorem tw8431296003419417898:True:=⟨⟩
theorem tw7339924745561848245:True:=⟨⟩
theorem tw467796454280997745:True:=⟨⟩
theorem tw6282983653951678275:True:=⟨⟩
theorem tw15098596504836986344:True:=⟨⟩
theorem tw10295428301212811835:True:=⟨⟩
theorem tw2409510630147827976:True:=⟨⟩
theorem tw8058755445530379948:True:=⟨⟩
theorem tw3603927710729714632:True:=⟨⟩
theorem tw8652641944826241134:True:=⟨⟩
theorem tw11328219545213209325:True:=⟨⟩
theorem tw658488021950151597:True:=⟨⟩
theorem tw14382835766576263620:True:=⟨⟩
theorem tw9911343633294383152:True:=⟨⟩
theorem tw4266429749170796480:True:=⟨⟩
theorem tw5149065948695927377:True:=⟨⟩
theorem tw6545490378717806000:True:=⟨⟩
theorem tw12562733532165315652:True:=⟨⟩
theorem tw11672303916772429278:True:=⟨⟩
theorem tw5627204538854161543:True:=⟨⟩
theorem tw5389733473444863487:True:=⟨⟩
theorem tw4282909554687708300:True:=⟨⟩
theorem tw9553178815202903821:True:=⟨⟩
theorem tw197160110956554519:True:=⟨⟩
theorem tw2145828934752291384:True:=⟨⟩
theorem tw8175195468641655683:True:=⟨⟩
theorem tw5927243124927783725:True:=⟨⟩
theorem tw3797250041516625367:True:=⟨⟩
theorem tw750137641807722013:True:=⟨⟩
theorem tw11446430948082291979:True:=⟨⟩
theorem tw16309116835299351429:True:=⟨⟩
theorem tw7112585040501926755:True:=⟨⟩
theorem tw11009126309541903850:True:=⟨⟩
theorem tw10447309537403497417:True:=⟨⟩
theorem tw11368967877419404365:True:=⟨⟩
theorem tw15314220936535265804:True:=⟨⟩
theorem tw9498831170885648343:True:=⟨⟩
theorem tw3140597269534942267:True:=⟨⟩
theorem tw3337582333623065:True:=⟨⟩
theorem tw11707175524045972699:True:=⟨⟩
theorem tw2929580170115030314:True:=⟨⟩
theorem tw10421395852041291947:True:=⟨⟩
theorem tw1030772015342628139:True:=⟨⟩
theorem tw9880210278346629591:True:=⟨⟩
theorem tw10808289465597822216:True:=⟨⟩
theorem tw1232665347209230141:True:=⟨⟩
theorem tw4894856562774181116:True:=⟨⟩
theorem tw13995743205432542818:True:=⟨⟩
theorem tw11845776406943957200:True:=⟨⟩
theorem tw629167015652368412:True:=⟨⟩
theorem tw16814561009415974229:True:=⟨⟩
theorem tw1254774297646203936:True:=⟨⟩
theorem tw10440413473034488014:True:=⟨⟩
theorem tw4454317994147322815:True:=⟨⟩
theorem tw10460745632046334859:True:=⟨⟩
theorem tw12922445900581225353:True:=⟨⟩
theorem tw14546409367761693468:True:=⟨⟩
theorem tw11021115394947892565:True:=⟨⟩
theorem tw4291334167646233770:True:=⟨⟩
theorem tw6265304979218283517:True:=⟨⟩
theorem tw6078413133060535405:True:=⟨⟩
theorem tw3679525205638807898:True:=⟨⟩
theorem tw6759254853013354220:True:=⟨⟩
theorem tw11133777935233695019:True:=⟨⟩
theorem tw3316300092823689082:True:=⟨⟩
theorem tw9882859800430850714:True:=⟨⟩
theorem tw9245070204790454589:True:=⟨⟩
theorem tw10465860183294314531:True:=⟨⟩
theorem tw14567301556506175290:True:=⟨⟩
theorem tw2276857472128533670:True:=⟨⟩
theorem tw5969372842983098931:True:=⟨⟩
theorem tw14754180865768993488:True:=⟨⟩
theorem tw1143757568811908089:True:=⟨⟩
theorem tw2470876648475220357:True:=⟨⟩
theorem tw2374161005267411924:True:=⟨⟩
theorem tw12427516180696980252:True:=⟨⟩
theorem tw1843031343808209808:True:=⟨⟩
theorem tw8759906607234650957:True:=⟨⟩
theorem tw15565294835612517681:True:=⟨⟩
theorem tw13400369166948490734:True:=⟨⟩
theorem tw15010189592451606536:True:=⟨⟩
theorem tw3126301025266832758:True:=⟨⟩
theorem tw12781255007095588845:True:=⟨⟩
theorem tw2620983923623556801:True:=⟨⟩
theorem tw5037133494448501014:True:=⟨⟩
theorem tw17654144181347760887:True:=⟨⟩
theorem tw17540230762309435167:True:=⟨⟩
theorem tw927153942600129464:True:=⟨⟩
theorem tw11713895748393786705:True:=⟨⟩
theorem tw17000906043593353250:True:=⟨⟩
theorem tw1188005539317759686:True:=⟨⟩
theorem tw9041907550638288689:True:=⟨⟩
theorem tw1465907240174118909:True:=⟨⟩
theorem tw13937049423008936730:True:=⟨⟩
theorem tw5066275286655916001:True:=⟨⟩
theorem tw18341853859136201557:True:=⟨⟩
theorem tw10563202281780888690:True:=⟨⟩
theorem tw7555657381273859381:True:=⟨⟩
theorem tw16624341101209475406:True:=⟨⟩
theorem tw8048969756819660220:True:=⟨⟩
theorem tw14959318756521171121:True:=⟨⟩
theorem tw7760261721685892053:True:=⟨⟩
theorem tw9810367861973400487:True:=⟨⟩
theorem tw17378282297825786760:True:=⟨⟩
theorem tw2237358657431015766:True:=⟨⟩
theorem tw16266625098480233343:True:=⟨⟩
theorem tw18041191380917648044:True:=⟨⟩
theorem tw10755246030671168284:True:=⟨⟩
theorem tw8724563330779019485:True:=⟨⟩
theorem tw15712399810747940736:True:=⟨⟩
theorem tw4157186533702515265:True:=⟨⟩
theorem tw11407807658935581890:True:=⟨⟩
theorem tw1857128357118673615:True:=⟨⟩
theorem tw10104191379217109947:True:=⟨⟩
theorem tw5656162997281656034:True:=⟨⟩
theorem tw7495581387876664022:True:=⟨⟩
theorem tw14201523392753420511:True:=⟨⟩
theorem tw3580784277830417560:True:=⟨⟩
theorem tw12461985080196702903:True:=⟨⟩
theorem tw16135381265940235217:True:=⟨⟩
theorem tw13051119826990437431:True:=⟨⟩
theorem tw651191044219620487:True:=⟨⟩
theorem tw18394566348234851204:True:=⟨⟩
theorem tw17653167464890250335:True:=⟨⟩
theorem tw1469005741211876873:True:=⟨⟩
theorem tw16322386938977734897:True:=⟨⟩
theorem tw13470116841361490937:True:=⟨⟩
theorem tw11620730077283928552:True:=⟨⟩
theorem tw16193075612804803953:True:=⟨⟩
theorem tw14523015190278082198:True:=⟨⟩
theorem tw12922001198034798749:True:=⟨⟩
theorem tw10382419236429228637:True:=⟨⟩
theorem tw8993576909971858836:True:=⟨⟩
theorem tw12636116025896889281:True:=⟨⟩
theorem tw10671257255154738052:True:=⟨⟩
theorem tw859926791993689668:True:=⟨⟩
theorem tw17824604866903913656:True:=⟨⟩
theorem tw6169636195021743831:True:=⟨⟩
theorem tw2013085015730028867:True:=⟨⟩
theorem tw6179324995779426996:True:=⟨⟩
theorem tw2548927756648451588:True:=⟨⟩
theorem tw3999002718941334989:True:=⟨⟩
theorem tw234139479180209262:True:=⟨⟩
theorem tw1923657132858097167:True:=⟨⟩
theorem tw2607230873246822167:True:=⟨⟩
theorem tw2000115886363571351:True:=⟨⟩
theorem tw7803265022461972320:True:=⟨⟩
theorem tw5390051900280680405:True:=⟨⟩
theorem tw4119328861864279310:True:=⟨⟩
theorem tw15458586332407290499:True:=⟨⟩
theorem tw9475340238072116072:True:=⟨⟩
theorem tw6853674865729113917:True:=⟨⟩
theorem tw3976032300801450388:True:=⟨⟩
theorem tw6235411802035061761:True:=⟨⟩
theorem tw3867154335438777295:True:=⟨⟩
theorem tw9493119989375245387:True:=⟨⟩
theorem tw14773828938235801980:True:=⟨⟩
theorem tw4220117435914888511:True:=⟨⟩
theorem tw16062849090374200343:True:=⟨⟩
theorem tw16081176695053743765:True:=⟨⟩
theorem tw11903147397300912838:True:=⟨⟩
theorem tw17156829873370230037:True:=⟨⟩
theorem tw10250139073807648042:True:=⟨⟩
theorem tw5126665805624847258:True:=⟨⟩
theorem tw16478613734523618027:True:=⟨⟩
theorem tw4114777442109655634:True:=⟨⟩
theorem tw13237452784582783549:True:=⟨⟩
theorem tw6781910613673959189:True:=⟨⟩
theorem tw80393970930898345:True:=⟨⟩
theorem tw6693735949850318541:True:=⟨⟩
theorem tw4979812266733778560:True:=⟨⟩
theorem tw2531004458526012355:True:=⟨⟩
theorem tw11007512053280304632:True:=⟨⟩
theorem tw3236027650991863349:True:=⟨⟩
theorem tw8228916439094081116:True:=⟨⟩
theorem tw17495108404752315849:True:=⟨⟩
theorem tw640267193881973416:True:=⟨⟩
theorem tw16803922472036029974:True:=⟨⟩
theorem tw16485310185351612504:True:=⟨⟩
theorem tw7927389371609964512:True:=⟨⟩
theorem tw17191714285959859753:True:=⟨⟩
theorem tw18400802437518045340:True:=⟨⟩
theorem tw13473282557532284451:True:=⟨⟩
theorem tw8958889442480513452:True:=⟨⟩
theorem tw5324701056223555641:True:=⟨⟩
theorem tw12823849125718380632:True:=⟨⟩
theorem tw585638996506175046:True:=⟨⟩
theorem tw15669683827881768552:True:=⟨⟩
theorem tw8781279209040318768:True:=⟨⟩
theorem tw7421204987987506360:True:=⟨⟩
theorem tw8576788803199678384:True:=⟨⟩
theorem tw15236355748574417852:True:=⟨⟩
theorem tw15295794076786736680:True:=⟨⟩
theorem tw9748900275414562440:True:=⟨⟩
theorem tw10729745540737442953:True:=⟨⟩
theorem tw1170484042107060333:True:=⟨⟩
theorem tw5005422121459210222:True:=⟨⟩
theorem tw15709815078062554514:True:=⟨⟩
theorem tw14986316348569797005:True:=⟨⟩
theorem tw4712252802610688923:True:=⟨⟩
theorem tw6842711337812815392:True:=⟨⟩
theorem tw5902211587326788382:True:=⟨⟩
theorem tw3619954730692075632:True:=⟨⟩
theorem tw1336294234466654965:True:=⟨⟩
theorem tw10389399113451666662:True:=⟨⟩
theorem tw7387870891704829364:True:=⟨⟩
theorem tw2530618671869434617:True:=⟨⟩
theorem tw3531275365610418859:True:=⟨⟩
theorem tw6962763437707386241:True:=⟨⟩
theorem tw2457896707769181593:True:=⟨⟩
theorem tw3257962342270793304:True:=⟨⟩
theorem tw9216475677194203691:True:=⟨⟩
theorem tw17418726231557963891:True:=⟨⟩
theorem tw2016602193168666565:True:=⟨⟩
theorem tw5045761481232909749:True:=⟨⟩
theorem tw10784941740961204235:True:=⟨⟩
theorem tw1365086557057365622:True:=⟨⟩
theorem tw18235888589424992046:True:=⟨⟩
theorem tw16863435709884729544:True:=⟨⟩
theorem tw35136344849969131:True:=⟨⟩
theorem tw11610209927488399071:True:=⟨⟩
theorem tw4166682491506964669:True:=⟨⟩
theorem tw9129765412645075983:True:=⟨⟩
theorem tw7872120571450351679:True:=⟨⟩
theorem tw6002684479340220817:True:=⟨⟩
theorem tw7635592504919789858:True:=⟨⟩
theorem tw17018986766931218684:True:=⟨⟩
theorem tw11699497248277460209:True:=⟨⟩
theorem tw4778019297187215889:True:=⟨⟩
theorem tw3913684943531045908:True:=⟨⟩
theorem tw11143607676429964368:True:=⟨⟩
theorem tw3828778221310589653:True:=⟨⟩
theorem tw3669530188502234514:True:=⟨⟩
theorem tw12081174781616810226:True:=⟨⟩
theorem tw10845545662131169393:True:=⟨⟩
theorem tw1870591541647659901:True:=⟨⟩
theorem tw7008259416915375088:True:=⟨⟩
theorem tw7741355853361593407:True:=⟨⟩
theorem tw1672207544773144723:True:=⟨⟩
theorem tw7799371310465688370:True:=⟨⟩
theorem tw2729706072696182025:True:=⟨⟩
theorem tw1748197178409320931:True:=⟨⟩
theorem tw15822715465645938346:True:=⟨⟩
theorem tw13963072406481510614:True:=⟨⟩
theorem tw1359625564681364234:True:=⟨⟩
theorem tw8082623540242431085:True:=⟨⟩
theorem tw2568628185127183993:True:=⟨⟩
theorem tw16536992174890091804:True:=⟨⟩
theorem tw15266252269389076072:True:=⟨⟩
theorem tw6114624017763591210:True:=⟨⟩
theorem tw5960361445240527886:True:=⟨⟩
theorem tw16467616992310785094:True:=⟨⟩
theorem tw4578422795159329142:True:=⟨⟩
theorem tw12233980977740763438:True:=⟨⟩
theorem tw11504185865666745637:True:=⟨⟩
theorem tw11354661984833438974:True:=⟨⟩
theorem tw6719120613972385800:True:=⟨⟩
theorem tw5265935257083050181:True:=⟨⟩
theorem tw9966126884898479145:True:=⟨⟩
theorem tw8955653359750126306:True:=⟨⟩
theorem tw17330019711196731407:True:=⟨⟩
theorem tw15179266256886305579:True:=⟨⟩
theorem tw8144709615140851636:True:=⟨⟩
theorem tw17195157085147562201:True:=⟨⟩
theorem tw16449807867161547085:True:=⟨⟩
theorem tw13371644620108480550:True:=⟨⟩
theorem tw12725559261419502369:True:=⟨⟩
theorem tw2758897895489156252:True:=⟨⟩
theorem tw11316099892753817708:True:=⟨⟩
theorem tw2909780807857775520:True:=⟨⟩
theorem tw10067347609631634515:True:=⟨⟩
theorem tw9754549174987310180:True:=⟨⟩
theorem tw289403143418561219:True:=⟨⟩
theorem tw9303077457470288058:True:=⟨⟩
theorem tw4650424648237093384:True:=⟨⟩
theorem tw4046827515909073274:True:=⟨⟩
theorem tw3597159051264434775:True:=⟨⟩
theorem tw17444976444012941741:True:=⟨⟩
theorem tw14237440790921287809:True:=⟨⟩
theorem tw7010574852031673850:True:=⟨⟩
theorem tw11513977048871666065:True:=⟨⟩
theorem tw16583673700895349067:True:=⟨⟩
theorem tw15052316465853389131:True:=⟨⟩
theorem tw14764605558600920994:True:=⟨⟩
theorem tw13171597852962105016:True:=⟨⟩
theorem tw10986080414198754172:True:=⟨⟩
theorem tw10939948667126540195:True:=⟨⟩
theorem tw873455325478168933:True:=⟨⟩
theorem tw607697525562082248:True:=⟨⟩
theorem tw15585320973836394298:True:=⟨⟩
theorem tw12404437360993858242:True:=⟨⟩
theorem tw7918973104785007994:True:=⟨⟩
theorem tw6366014190226314777:True:=⟨⟩
theorem tw5475183444965601409:True:=⟨⟩
theorem tw10068373122854178425:True:=⟨⟩
theorem tw8364436604558618788:True:=⟨⟩
theorem tw12813712045381803449:True:=⟨⟩
theorem tw17293635685582081064:True:=⟨⟩
theorem tw13702470233381282770:True:=⟨⟩
theorem tw13728770189275471607:True:=⟨⟩
theorem tw10902717702016618802:True:=⟨⟩
theorem tw9873023800237538596:True:=⟨⟩
theorem tw13206137485319044965:True:=⟨⟩
theorem tw10862343166006111624:True:=⟨⟩
theorem tw4414716469607587783:True:=⟨⟩
theorem tw10698242574889022472:True:=⟨⟩
theorem tw6220927262122416024:True:=⟨⟩
theorem tw3803109036878768575:True:=⟨⟩
theorem tw17865260272286837892:True:=⟨⟩
theorem tw2611882583908870689:True:=⟨⟩
theorem tw5018356231517693493:True:=⟨⟩
theorem tw2882467440024667935:True:=⟨⟩
theorem tw16684616392566009818:True:=⟨⟩
theorem tw147642820327750141:True:=⟨⟩
theorem tw12361745692200781171:True:=⟨⟩
theorem tw8930721931260734609:True:=⟨⟩
theorem tw8160016115456677744:True:=⟨⟩
theorem tw15395095372629601116:True:=⟨⟩
theorem tw10527383966915292367:True:=⟨⟩
theorem tw3384599964022977956:True:=⟨⟩
theorem tw12662917018422480128:True:=⟨⟩
theorem tw10928575770820010898:True:=⟨⟩
theorem tw6416471947214253230:True:=⟨⟩
end PySem.W.Fast
end
open PySem PySem.W PyProof.Rows
set_option maxRecDepth 100000 in
set_option maxHeartbeats 0 in
theorem PySem.Challenge.cw_royaltree_k14_hands_holds : PySem.Challenge.rw_royaltree_k14_hands.Holds := by
 w_on;o_law;k_head;(case hw=>w_witness2)
 k_fill
 refine Ro.W5 (l:=PySem.Challenge.rw_royaltree_k14_hands) _ [(20,"by_days.<locals>.<lambda>")] Ro.vA 12 (by decide) ⟨rfl,rfl,by decide,by decide⟩ Ro.Qv rfl rfl (λ w h Y=>PySem.W.km_in_of Y) (λ w h Y=>PySem.W.km_tabs_of Y) ?TC ?TK ?F
 case TC=>
  intro w h KX
  refine List.forall_mem_cons.mpr ⟨?_,λ _ z=>nomatch z⟩
  refine' Ro.W0 (x:="by_days") (st:=Ro.top 14) ?a ?l ?c;(case a=>k_is);(case l=>k_is);(case c=>first|k_is|kernel_rfl|rfl)
 case TK=>
  intro w h KX
  refine List.forall_mem_cons.mpr ⟨?_,λ _ z=>nomatch z⟩
  first|k_is|kernel_rfl|rfl
 case F=>
  intro w mg fa h KX G U8
  refine' Ro.PV KX G U8 ?x0 ?x1 ?x2 ?x3 ?x4 ?x5 ?x6 ?x7 ?x8 ?b ?cF ?wL ?wM ?qb ?jV ?du ?wN ?ů ?fU ?gQ ?fV ?Ű ?wO ?je ?wQ ?ū ?gO ?d0 ?d1 ?d2 ?d3 ?d4 ?d5 ?d6 ?d7 ?d8 ?d9 ?TY ?TZ ?T3 ?T4 ?T5 ?T6 ?T7 ?T9 ?T_ ?Ua ?Ub ?Uc ?Ud ?Ue ?Ug ?Uh ?Ui ?Uj ?Uk ?Ul ?Um ?Uo ?Uq ?Ur ?Us ?Ut ?Uu ?Uv ?Uw ?Ux ?Uy ?Uz ?UA
  (case x0=>(refine' Ro.rG KX G ?a ?l ?n ?s ?k ?g ?h ?j ?cn ?ct ?i;(case a=>k_is);(case l=>k_is);(case n=>k_is);(case s=>first|rfl|decide +kernel);(case k=>k_is);(case g=>k_is);(case h=>k_is);(case j=>k_is);(case cn=>k_is);(case ct=>k_is);(case i=>first|rfl|decide +kernel)))
  (case x1=>(refine' Ro.rG KX G ?a ?l ?n ?s ?k ?g ?h ?j ?cn ?ct ?i;(case a=>k_is);(case l=>k_is);(case n=>k_is);(case s=>first|rfl|decide +kernel);(case k=>k_is);(case g=>k_is);(case h=>k_is);(case j=>k_is);(case cn=>k_is);(case ct=>k_is);(case i=>first|rfl|decide +kernel)))
  (case x2=>(refine' Ro.rG KX G ?a ?l ?n ?s ?k ?g ?h ?j ?cn ?ct ?i;(case a=>k_is);(case l=>k_is);(case n=>k_is);(case s=>first|rfl|decide +kernel);(case k=>k_is);(case g=>k_is);(case h=>k_is);(case j=>k_is);(case cn=>k_is);(case ct=>k_is);(case i=>first|rfl|decide +kernel)))
  (case x3=>(refine' Ro.rG KX G ?a ?l ?n ?s ?k ?g ?h ?j ?cn ?ct ?i;(case a=>k_is);(case l=>k_is);(case n=>k_is);(case s=>first|rfl|decide +kernel);(case k=>k_is);(case g=>k_is);(case h=>k_is);(case j=>k_is);(case cn=>k_is);(case ct=>k_is);(case i=>first|rfl|decide +kernel)))
  (case x4=>(refine' Ro.rG KX G ?a ?l ?n ?s ?k ?g ?h ?j ?cn ?ct ?i;(case a=>k_is);(case l=>k_is);(case n=>k_is);(case s=>first|rfl|decide +kernel);(case k=>k_is);(case g=>k_is);(case h=>k_is);(case j=>k_is);(case cn=>k_is);(case ct=>k_is);(case i=>first|rfl|decide +kernel)))
  (case x5=>(refine' Ro.rG KX G ?a ?l ?n ?s ?k ?g ?h ?j ?cn ?ct ?i;(case a=>k_is);(case l=>k_is);(case n=>k_is);(case s=>first|rfl|decide +kernel);(case k=>k_is);(case g=>k_is);(case h=>k_is);(case j=>k_is);(case cn=>k_is);(case ct=>k_is);(case i=>first|rfl|decide +kernel)))
  (case x6=>(refine' Ro.rG KX G ?a ?l ?n ?s ?k ?g ?h ?j ?cn ?ct ?i;(case a=>k_is);(case l=>k_is);(case n=>k_is);(case s=>first|rfl|decide +kernel);(case k=>k_is);(case g=>k_is);(case h=>k_is);(case j=>k_is);(case cn=>k_is);(case ct=>k_is);(case i=>first|rfl|decide +kernel)))
  (case x7=>(refine' Ro.rG KX G ?a ?l ?n ?s ?k ?g ?h ?j ?cn ?ct ?i;(case a=>k_is);(case l=>k_is);(case n=>k_is);(case s=>first|rfl|decide +kernel);(case k=>k_is);(case g=>k_is);(case h=>k_is);(case j=>k_is);(case cn=>k_is);(case ct=>k_is);(case i=>first|rfl|decide +kernel)))
  (case x8=>(refine' Ro.rG KX G ?a ?l ?n ?s ?k ?g ?h ?j ?cn ?ct ?i;(case a=>k_is);(case l=>k_is);(case n=>k_is);(case s=>first|rfl|decide +kernel);(case k=>k_is);(case g=>k_is);(case h=>k_is);(case j=>k_is);(case cn=>k_is);(case ct=>k_is);(case i=>first|rfl|decide +kernel)))
  (case b=>(refine' Ro.TL (nm:="Book") ?ba ?bp ?bd ?bo ?bs ?bn;(case ba=>k_is);(case bp=>k_is);(case bd=>k_is);(case bo=>k_is);(case bs=>k_is);(case bn=>exact List.forall_mem_cons.mpr ⟨by k_is,List.forall_mem_cons.mpr ⟨by k_is,List.forall_mem_cons.mpr ⟨by k_is,List.forall_mem_cons.mpr ⟨by k_is,List.forall_mem_cons.mpr ⟨by k_is,List.forall_mem_cons.mpr ⟨by k_is,List.forall_mem_cons.mpr ⟨by k_is,List.forall_mem_cons.mpr ⟨by k_is,Ro.Q_⟩⟩⟩⟩⟩⟩⟩⟩)))
  (case cF=>k_is)
  (case wL=>k_is)
  (case wM=>k_is)
  (case qb=>k_is)
  (case jV=>k_is)
  (case du=>k_is)
  (case wN=>k_is)
  (case ů=>k_is)
  (case fU=>k_is)
  (case gQ=>k_is)
  (case fV=>k_is)
  (case Ű=>k_is)
  (case wO=>k_is)
  (case je=>k_is)
  (case wQ=>k_is)
  (case ū=>(refine' Ro.MO (x:="FIRST_HALF_DAYS") (v:=.int 182) KX G ?a ?r ?w;(case a=>k_is);(case r=>exact⟨_,rfl⟩);(case w=>exact λ ρ H=>by unfold Mm.VR;rfl)))
  (case gO=>(refine' Ro.Qt (x:="NOTHING") (vs:=[.int 0,.int 1]) KX G ?a ?l ?v ?s ?w;(case a=>k_is);(case l=>k_is);(case v=>exact .cons ⟨_,rfl⟩ (.cons ⟨_,rfl⟩ (.nil)));(case s=>decide);(case w=>exact λ ρ H=>.cons (by unfold Mm.VR;rfl) (.cons (by unfold Mm.VR;rfl) (.nil)))))
  (case d0=>(refine' Ro.PR KX G rfl ?a ?l ?c ?k ?h;(case a=>k_is);(case l=>k_is);(case c=>k_is);(case k=>k_is);(case h=>first|k_is|kernel_rfl|rfl)))
  (case d1=>(refine' Ro.PQ KX G rfl ?g ?a ?l ?c ?k ?f ?m ?kc;(case g=>k_is);(case a=>k_is);(case l=>k_is);(case c=>k_is);(case k=>k_is);(case f=>k_is);(case m=>k_is);(case kc=>k_is)))
  (case d2=>(refine' Ro.cO rfl ?a ?l ?c ?k ?f;(case a=>k_is);(case l=>k_is);(case c=>k_is);(case k=>k_is);(case f=>k_is)))
  (case d3=>(refine' Ro.cO rfl ?a ?l ?c ?k ?f;(case a=>k_is);(case l=>k_is);(case c=>k_is);(case k=>k_is);(case f=>k_is)))
  (case d4=>(refine' Ro.cO rfl ?a ?l ?c ?k ?f;(case a=>k_is);(case l=>k_is);(case c=>k_is);(case k=>k_is);(case f=>k_is)))
  (case d5=>(refine' Ro.cO rfl ?a ?l ?c ?k ?f;(case a=>k_is);(case l=>k_is);(case c=>k_is);(case k=>k_is);(case f=>k_is)))
  (case d6=>(refine' Ro.cO rfl ?a ?l ?c ?k ?f;(case a=>k_is);(case l=>k_is);(case c=>k_is);(case k=>k_is);(case f=>k_is)))
  (case d7=>(refine' Ro.cO rfl ?a ?l ?c ?k ?f;(case a=>k_is);(case l=>k_is);(case c=>k_is);(case k=>k_is);(case f=>k_is)))
  (case d8=>(refine' Ro.cO rfl ?a ?l ?c ?k ?f;(case a=>k_is);(case l=>k_is);(case c=>k_is);(case k=>k_is);(case f=>k_is)))
  (case d9=>(refine' Ro.cO rfl ?a ?l ?c ?k ?f;(case a=>k_is);(case l=>k_is);(case c=>k_is);(case k=>k_is);(case f=>k_is)))
  (case TY=>(refine' Ro.cO rfl ?a ?l ?c ?k ?f;(case a=>k_is);(case l=>k_is);(case c=>k_is);(case k=>k_is);(case f=>k_is)))
  (case TZ=>(refine' Ro.cO rfl ?a ?l ?c ?k ?f;(case a=>k_is);(case l=>k_is);(case c=>k_is);(case k=>k_is);(case f=>k_is)))
  (case T3=>(refine' Ro.cO rfl ?a ?l ?c ?k ?f;(case a=>k_is);(case l=>k_is);(case c=>k_is);(case k=>k_is);(case f=>k_is)))
  (case T4=>(refine' Ro.cO rfl ?a ?l ?c ?k ?f;(case a=>k_is);(case l=>k_is);(case c=>k_is);(case k=>k_is);(case f=>k_is)))
  (case T5=>(refine' Ro.cO rfl ?a ?l ?c ?k ?f;(case a=>k_is);(case l=>k_is);(case c=>k_is);(case k=>k_is);(case f=>k_is)))
  (case T6=>(refine' Ro.cO rfl ?a ?l ?c ?k ?f;(case a=>k_is);(case l=>k_is);(case c=>k_is);(case k=>k_is);(case f=>k_is)))
  (case T7=>(refine' Ro.cO rfl ?a ?l ?c ?k ?f;(case a=>k_is);(case l=>k_is);(case c=>k_is);(case k=>k_is);(case f=>k_is)))
  (case T9=>(refine' Ro.cO rfl ?a ?l ?c ?k ?f;(case a=>k_is);(case l=>k_is);(case c=>k_is);(case k=>k_is);(case f=>k_is)))
  (case T_=>(refine' Ro.cO rfl ?a ?l ?c ?k ?f;(case a=>k_is);(case l=>k_is);(case c=>k_is);(case k=>k_is);(case f=>k_is)))
  (case Ua=>(refine' Ro.cO rfl ?a ?l ?c ?k ?f;(case a=>k_is);(case l=>k_is);(case c=>k_is);(case k=>k_is);(case f=>k_is)))
  (case Ub=>(refine' Ro.dj KX G ?a ?l ?c ?k;(case a=>k_is);(case l=>k_is);(case c=>k_is);(case k=>k_is)))
  (case Uc=>(refine' Ro.dj KX G ?a ?l ?c ?k;(case a=>k_is);(case l=>k_is);(case c=>k_is);(case k=>k_is)))
  (case Ud=>(refine' Ro.dj KX G ?a ?l ?c ?k;(case a=>k_is);(case l=>k_is);(case c=>k_is);(case k=>k_is)))
  (case Ue=>(refine' Ro.dj KX G ?a ?l ?c ?k;(case a=>k_is);(case l=>k_is);(case c=>k_is);(case k=>k_is)))
  (case Ug=>(refine' Ro.dj KX G ?a ?l ?c ?k;(case a=>k_is);(case l=>k_is);(case c=>k_is);(case k=>k_is)))
  (case Uh=>(refine' Ro.dj KX G ?a ?l ?c ?k;(case a=>k_is);(case l=>k_is);(case c=>k_is);(case k=>k_is)))
  (case Ui=>(refine' Ro.dj KX G ?a ?l ?c ?k;(case a=>k_is);(case l=>k_is);(case c=>k_is);(case k=>k_is)))
  (case Uj=>(refine' Ro.dj KX G ?a ?l ?c ?k;(case a=>k_is);(case l=>k_is);(case c=>k_is);(case k=>k_is)))
  (case Uk=>(refine' Ro.dj KX G ?a ?l ?c ?k;(case a=>k_is);(case l=>k_is);(case c=>k_is);(case k=>k_is)))
  (case Ul=>(refine' Ro.dj KX G ?a ?l ?c ?k;(case a=>k_is);(case l=>k_is);(case c=>k_is);(case k=>k_is)))
  (case Um=>(refine' Ro.dj KX G ?a ?l ?c ?k;(case a=>k_is);(case l=>k_is);(case c=>k_is);(case k=>k_is)))
  (case Uo=>(refine' Ro.dj KX G ?a ?l ?c ?k;(case a=>k_is);(case l=>k_is);(case c=>k_is);(case k=>k_is)))
  (case Uq=>(refine' Ro.dj KX G ?a ?l ?c ?k;(case a=>k_is);(case l=>k_is);(case c=>k_is);(case k=>k_is)))
  (case Ur=>(refine' Ro.dj KX G ?a ?l ?c ?k;(case a=>k_is);(case l=>k_is);(case c=>k_is);(case k=>k_is)))
  (case Us=>(refine' Ro.dj KX G ?a ?l ?c ?k;(case a=>k_is);(case l=>k_is);(case c=>k_is);(case k=>k_is)))
  (case Ut=>(refine' Ro.dj KX G ?a ?l ?c ?k;(case a=>k_is);(case l=>k_is);(case c=>k_is);(case k=>k_is)))
  (case Uu=>(refine' Ro.dj KX G ?a ?l ?c ?k;(case a=>k_is);(case l=>k_is);(case c=>k_is);(case k=>k_is)))
  (case Uv=>(refine' Ro.dj KX G ?a ?l ?c ?k;(case a=>k_is);(case l=>k_is);(case c=>k_is);(case k=>k_is)))
  (case Uw=>(refine' Ro.dj KX G ?a ?l ?c ?k;(case a=>k_is);(case l=>k_is);(case c=>k_is);(case k=>k_is)))
  (case Ux=>(refine' Ro.dj KX G ?a ?l ?c ?k;(case a=>k_is);(case l=>k_is);(case c=>k_is);(case k=>k_is)))
  (case Uy=>(refine' Ro.dj KX G ?a ?l ?c ?k;(case a=>k_is);(case l=>k_is);(case c=>k_is);(case k=>k_is)))
  (case Uz=>(refine' Ro.dj KX G ?a ?l ?c ?k;(case a=>k_is);(case l=>k_is);(case c=>k_is);(case k=>k_is)))
  (case UA=>(refine' Ro.dj KX G ?a ?l ?c ?k;(case a=>k_is);(case l=>k_is);(case c=>k_is);(case k=>k_is)))
