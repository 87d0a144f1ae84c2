import PyProof.Rows.All
import Wide.All
import OpenK.AllK
import Wide.FinOn
import Lean
import PyProof.EqAt
import PyProof.EqKinds
import PyProof.TupleCall
import PySem.Challenge.RW_royaltree_k13_rows_put
set_option bootstrap.genMatcherCode false
set_option genSizeOf false
set_option compiler.extract_closed false
set_option Elab.async false
set_option hygiene false in
local macro_rules|`(s!$x)=>(match x.raw[0].isInterpolatedStrLit? with
 |some "a"=>`(((s.heap.update a (ú λ_=>(#[]:Ē Value))).push (đ "tuple" vs.toArray 0)))
 |some "b"=>`((Ý X.prog X.w))
 |some "c"=>`((mc (.int 0)))
 |some "d"=>`((mc (.int 1)))
 |some "e"=>`((mc (.int 2)))
 |some "f"=>`((rs.map rv))
 |some "g"=>`((by decide+kernel))
 |some "h"=>`((.ref s.length))
 |some "i"=>`((by decide))
 |some "j"=>`((Ý prog w))
 |some "k"=>`((false,Ė e X.env))
 |some "l"=>`(["keeps","rows","hands","makers","rates","half","money","debts"])
 |some "m"=>`((mc (.str "works")))
 |some "n"=>`((s.heap.objs.size+1))
 |some "o"=>`((ŭ I q (by simp)))
 |some "p"=>`((λ_ z=>nomatch z))
 |some "q"=>`((λz=>nomatch z))
 |some "r"=>`((đ "list" #[] 0))
 |some "s"=>`((.builtin "object.__class__"))
 |some "t"=>`((Â (mv 1) Ï))
 |some "u"=>`((Â (mv 0) Ï))
 |some "v"=>`((gT 2 (ß (gN 0) (ß (gN 1) ś))))
 |some "w"=>`((ig (p.den:Int) (q.den:Int)))
 |some "x"=>`((tE T XE m))
 |_=>Lean.Macro.throwUnsupported)
set_option linter.all false
set_option maxRecDepth 100000
noncomputable section
open And renaming intro->PZ
open Array renaming length_toList->Ļ,getD_eq_getD_getElem?->Ż,getElem?_eq_getElem->ax,getElem?_toList->aA,getElem?_setIfInBounds_self_of_lt->dw,getElem?_eq_some_iff->eh,perm_iff_toList_perm->en,getElem?_eq_none->gG,mem_toList_iff->ph,toList_inj->vc,toList->Cu,size_push->OP
open Array.Perm renaming refl->bB
open Bool renaming false_ne_true->à,and_eq_true->ē,false_eq_true->ŷ,and_true->br,or_true->e6,or_eq_true->fK,not_eq_true'->g0,not_false->g6,not_true->i4,eq_iff_iff->jR,and_eq_false_iff->oZ,and_false->qg,false_or->rn,eq_false_iff->uI,true_and->Cc,and_eq_true_iff->Hj,or_eq_false_iff->Hk,or_false->TX,true_or->Ww
open Classical renaming propDecidable->kX
open False renaming elim->aF
open ForInStep renaming yield->bC
open Int renaming gcd->č,toNat_natCast->a',natAbs_mul->eX,mul_comm->hI,natAbs_dvd_natAbs->iV,eq_of_mul_eq_mul_right->kY,fmod_eq_emod_of_nonneg->kZ,mul_right_comm->k7,gcd_dvd_right->mB,mul_assoc->mS,gcd_dvd_left->nt,fmod_nonneg_of_pos->oz,mul_ne_zero->o6,fmod_lt_of_pos->ua,mul_nonpos_of_nonpos_of_nonneg->ub,dvd_refl->vd,one_mul->xP,fdiv_eq_ediv_of_nonneg->Ay,gcd_add_mul_right_left->Az,mul_one->Hy,mul_pos->Hz,mul_fdiv_cancel->Lp,emod_lt_of_pos->LO,gcd_zero_right->LP,natAbs_natCast->LQ,not_lt->LR,gcd_mul_right->OS,emod_nonneg->Tr,gcd_comm->Xy,add_mul->Zv,neg_dvd->Zw,neg_mul->Zx
open List renaming getElem?_eq_getElem->Å,getElem?_eq_some_iff->Æ,length_map->É,map_cons->Î,append_assoc->Õ,size_toArray->Ú,getElem?_set_ne->Û,mem_cons->Þ,replicate->â,getElem?_append_right->ç,length_append->è,getElem?_append_left->é,getElem?_map->î,mem_singleton->ò,not_mem_nil->ü,mem_of_getElem?->ý,all_eq_true->Ā,mem_cons_of_mem->Ć,length_cons->ć,range->Ĉ,append_nil->Ġ,getElem?_set_self->Ģ,getD_eq_getElem?_getD->Ĥ,lookup_cons->Ħ,toArray->ħ,mem_append_right->Ĩ,all_cons->Ķ,mem_append->ķ,getElem_of_mem->ļ,mem_cons_self->Ń,mem_map->ň,map_append->ŉ,contains_cons->ő,pairwise_cons->Œ,length_take->Ũ,any_cons->Ų,length_set->ŵ,map_nil->aj,getElem?_take_of_lt->aO,nil_append->bb,prefix_rfl->bc,cons_append->bw,getElem_inj->bx,find?_cons->bZ,nodup_cons->b7,length->cb,take_left->cL,all_nil->c6,length_nil->df,set_append_right->dv,length_range->dz,lookup->eL,mapM_cons->eM,mem_append_left->eO,getElem_mem->e9,prefix_append->gp,forIn_cons->jS,mergeSort_perm->jT,mem_filterMap->kQ,pairwise_map->lN,ext_getElem->ng,filter_cons->nh,getElem?_replicate->ni,pairwise_mergeSort->nj,pairwise_singleton->nq,length_zip->oC,take_left'->oD,mem_range->qi,filterMap_cons->rg,mapM_nil->rx,map_take->ry,set_comm->rC,lookup_append->sZ,map_map->uL,nodup_append->uM,take_sublist->uN,any_eq_true->w8,countP_cons->w_,length_drop->xa,of_mem_zip->xQ,forIn_nil->Ae,drop_eq_getElem_cons->AA,getElem?_zip_eq_some->AB,pairwise_iff_getElem->AD,length_eq_zero_iff->Cy,getElem?_eq_none->FH,length_replicate->FI,length_singleton->FJ,mem_iff_getElem->Hm,mem_of_mem_take->Hn,set_append_left->Ho,length_pos_iff->HA,map_congr_left->HB,find?_eq_none->Lv,zip_cons_cons->Lw,any_eq_false->LU,drop_length->OT,zipIdx_cons->OU,mem_filter->P0,zipIdx_nil->P1,drop_zero->Ts,map_drop->TZ,map_set->WB
open List.Pairwise renaming nil->oB
open List.cons renaming injEq->aU,inj->Lu
open Nat renaming le_refl->Í,reduceSub->Ð,zero_le->ê,lt_of_lt_of_le->ð,ne_of_lt->ñ,le_of_lt->ę,ne_of_gt->Ĵ,le_trans->ĺ,lt_irrefl->ŋ,lt_of_le_of_lt->bI,lt_succ_self->cM,le_of_ble_eq_true->dA,lt_succ_of_lt->d_,le_of_eq->kn,le_succ->mC,le_add_right->nu,le_mul_of_pos_right->nv,succ_le_succ->ny,lt_trans->oE,not_lt->oF,sub_self->oG,le_of_succ_le->vf,not_lt_zero->yK,eq_of_mul_eq_mul_right->AE,zero_add->FK,add_le_add_left->Lx,max_le->LV,gcd->OV,le_succ_of_le->OW,dvd_trans->WC,sub_zero->XA,Coprime->Zy,log2_lt->Zz,mul_add->ZA,mul_one->ZC,one_mul->ZD
open Nat.Coprime renaming mul_left->aae,mul_right->aaf
open Nat.succ renaming inj->gq
open Ne renaming symm->ō
open Option renaming some->À,bind_some->aD,isSome_iff_exists->aN,map_some->bQ,isSome_map->s_,getD_some->uO,isSome_some->Hq,getD_none->Ly
open Option.some renaming inj->æ,injEq->aag
open Or renaming inl->Cf,inr->Hr
open PUnit renaming unit->XB
open Prod renaming ext->uP,fst->uQ
open PyProof renaming noPylong_of_log2->yL
open PyProof.Rows renaming seqObj->đ,slot_tuple_getitem->ř,boot_sorted->ũ,envOfC->aP,callWith_type1->cN,assignInOrder_cons->dH,listUpdate_at->eR,get?_update_seq->k_,AllBare->og,seqEpoch_at->oj,SortKind->pA,subscriptTail_builtinR->qr,mirror_perm->uf,IntsAre->uK,assignInOrder_nil->yP,entry_sorted->yT,listItems_at->yU,plain_sorted->yV,envOfC->AQ,kind_sorted->Co,entry_list_sort->CD,Subscript_->FP,bubble->FT,slot_list_sort->FZ,subscriptTail->HG,IsTup->Lr,args_sorted1->L0,keyKind'->P4,entry_tuple_getitem->Tv,args_tuple_getitem->T9,slot_tuple_getitem->T',StrsAre->WD,unpackItems_tuple->WL,boot_enumerate->ZE,boot_zip->ZF,callWith_builtin1->ZG,callWith_kw->ZH,call_function_entry_kw->ZI,formatField_int->ZJ,ksk_l1->ZL,ksk_s1->ZM,ksk_t1->ZN,kws_cons->ZO,kws_nil->ZP,list_sort_plain->Z'
open PyProof.Rows.IsTup renaming new->ve
open PyProof.Rows.KeyOrd renaming klt_of_klt_of_kle->fD,kle_trans->h_,kle_of_klt->sY,kle_refl->w6,kle_of_not_klt->Cw,kle_antisymm->FG,kle->WA
open PySem renaming wpAny_bind->Ã,wpAny_pure->Ê,starEach->Ì,Shared->Ó,wpAny->Ù,model->Ý,Program->ď,eval->Ė,backTo->ģ,bootBuiltins->ĥ,World->ī,compareOp->Ĭ,wpAny_call_entry->ĭ,sizeLine_eq->İ,wpAny_callSpecial?_slot->ŀ,wpAny_field->Ņ,Around->Ň,wpAny_holding->œ,wpAny_newObj_type->Ţ,rawInt->ź,wpAny_Call_Name_kw->ah,behindInMarks->ay,wpAny_mono->aB,attributeBase->a8,binaryOp->bf,keywordEach->bP,cellsFrom->bR,sysModules->b8,wpAny_rule->b9,Builtin->cC,wpAny_truthy_bool->cD,wpAny_attempt->cO,holding->c8,wpAny_seqItems->dc,assignEach->dG,tupleKind_room_in1->dI,wpAny_setField_rec->dJ,FuncData->eo,wpAny_passesOwn->ey,swapsWith->eS,wpAny_standAt->eU,codeAny->e_,foldedSetIterable->fb,mem_of_lookup->fv,pyNext->gw,backToKw->gI,bindName->gJ,wpAny_newList->gK,Keyword->i7,intKind->i_,wpAny_setField->jb,standAt->jX,swappedStores->jY,swapsWithSole->jZ,bindArgs->ko,sliceBounds->kr,Pos->kR,assign->k9,letOwnedTupleGo->la,tupleKind->mF,NameKind->mT,builtinsNs->m3,wpAny_bindName->m4,getItem->oi,IsPair->oA,assignInOrder->oO,getMethod->pB,closureFor->qp,codeAny_mono->qq,codeAny_builtin->rh,wpAny_execs_nil->ri,IsPart->uc,newFunctionEnv->ug,wpAny_loadName_local->uh,wpAny_newTuple->ui,wpAny_updateSeq_pair->uj,BindsTo->uH,callerA->uR,wpAny_onRaise->xg,PlainAttrs->xi,wpAny_call->xo,wpAny_pyIter_tuple->xp,callWith->yR,call_meetsIn->yS,valueAt->yW,wpAny_pyIter_list->yX,wpAny_typeOf->yY,DictEntry->Av,PassesOwn->AF,codeAmong->AM,noFill_tuple_add->AR,seqIndex?->AS,setFlight->AU,wpAny_isInstance->AW,IsZip->Ce,subscripted->Cp,wpAny_letGo->Cq,Within->Cz,wpAny_updateSeq->CF,atKey->FR,call_meets->FU,checkCount->FV,evalEach->FW,isSubtype_stop->FX,isTrue->FY,wpAny_Name->F0,Env->Hl,call->HD,plainId_quiet->HE,seq_tuple_add->HF,wpAny_comprehension_free->HH,wpAny_handled->HI,bindC->LA,bindL->LB,field->LD,noteFrame->LH,pushCells->LI,Fin->LX,concat_meets->L1,pyIter->L7,setItem->L8,wpAny_isTrue_Compare1->O0,compEnvC->P2,seqIndex_of->P5,unbindBehindTheSuite->P6,wpAny_of_eq->P7,wpAny_throw->P8,wpAny_isSubtype_exc->Tw,wpAny_loadName_cell->Tz,Result->T7,defaultsOf->T_,typeOf->Ua,wpAny_Constant_int->Ub,newList->WI,slot_list_getitem->WJ,unaryOp->WK,wpAny_Call_method->WM,wpAny_assign_Name->WN,wpAny_loadPart_at->WO,wpAny_pyIter_enum->WQ,wpAny_pyIter_slot->WR,wpAny_sequenceKey->WT,Tok->XP,TriplesOk->XQ,checkBuiltinCall->XR,storeName->XS,updateSeq->XU,wpAny_Dict_empty->XW,wpAny_execs_cons->XX,wpAny_pyIter_zip->XY,Sem->Z5,exec_Assign_arm->Z_,pushCells_keeps->aaa
open PySem.Around renaming under_plainId->iU,under->sX
open PySem.Builtin.Dict renaming noArgs->Zr,showsAll->Zs
open PySem.Builtin.Dict_items renaming ownsTuple->OQ
open PySem.Builtin.Int renaming intBits->bV,intTooBig->xO
open PySem.Builtin.List renaming listExtendWith->ro,listSameRef->uJ
open PySem.Builtin.Range renaming rangeSize->Xt
open PySem.Builtin.Slice renaming slicePlaces->de,sliceAdjust->i6,sliceApplied->rq,sliceFields->Xu,slicePartIndex->Xv
open PySem.Builtin.SmallTypes renaming nextOf->ń,ownedTupleIsFree->aE,ownedTupleHandOut->kO
open PySem.Builtin.Str renaming strKind->qj
open PySem.Builtin.Tuple renaming tupleExact->dy,tupleItemsOf->rr,tupleIsExact->Xw
open PySem.Calls renaming spliced_cons->fL,call_function_entry->fM,callWith_builtin->gH,spliced_nil->lK,evalArgs_plain->pj,Name_function_global->yJ
open PySem.Challenge renaming pw_royaltree_k13_rows_put->T4
open PySem.Code renaming isFrame->Ef,isGuard->Wx,frames->Xx
open PySem.EntryCells renaming newEntry->Aw
open PySem.EqMixed renaming eq_bool_str->XC,eq_int_str->XD,eq_str_bool->XF,eq_str_int->XG,ne_bool_str->XH,ne_int_str->XI,ne_str_bool->XJ,ne_str_int->XM
open PySem.EqNone renaming eq_bool_none->ZQ,eq_int_none->ZR,eq_none_bool->ZS,eq_none_int->ZT,eq_none_none->ZU,eq_none_str->ZV,eq_str_none->ZW,ne_bool_none->ZX,ne_int_none->ZY,ne_none_bool->ZZ,ne_none_int->Z0,ne_none_none->Z1,ne_none_str->Z2,ne_str_none->Z3
open PySem.F renaming slot_dict_itemiterator_next->ů,slot_dict_keyiterator_next->ų,slot_dict_get->bz,plain_extend_loop->eQ,slot_tuple_iterator_next->fu,entry_dict_get->gu,args_tuple_add_2->k8,entry_tuple_add->lO,plainAttrs_dict->lP,plainAttrs_list->lQ,slot_tuple_add->mU,args_dict_itemiterator_next_1->o7,args_dict_keyiterator_next_1->pk,entry_dict_itemiterator_next->pq,slot_zip_next->qh,entry_dict_keyiterator_next->qk,slot_dict_items_iter->vg,excBase_ValueError->xj,entry_extend_loop->xR,args_dict_get_2->Af,args_dict_get_3->Ag,attr_ValueError->Ai,plain_list_iadd->Aj,slot_dict_items->Ak,args_tuple_iterator_next_1->Ax,slot_dict_iter->AG,entry_tuple_iterator_next->Cd,slot_tuple_lt->Cg,type_dict_get->Ci,args_zip_next_1->Tq,entry_zip_next->TY
open PySem.Flow renaming next->Cv
open PySem.Heap renaming get?_push_of_some->Ä,lt_size->Ô,get?_push_size->Ö,get?_update_other->í,get?_update_self->ā,size_push->Ł,SameBut->e8,size_update->w4,IsTuple->Wz
open PySem.Heap.DictOf renaming new->aad
open PySem.Heap.IsSliceOf renaming new->Wy
open PySem.Heap.IsTuple renaming push->Zt
open PySem.Heap.SameBut renaming update->Ÿ,refl->Zu
open PySem.NameKind renaming free->ŕ,cell->bW
open PySem.Obj renaming mapSeq->ú,mapFields->ą,isFreed_of_fields->dB,data_mapFields->LW
open PySem.P renaming lt_int->xk
open PySem.Paired renaming length->qm,snoc->T3
open PySem.PassesOwn renaming never->Hs
open PySem.SeqAt renaming EqAt->rJ,in_listAt->OY
open PySem.SeqAt.EqAt renaming same->tf,bool_tuple->yN,none_tuple->yO,bool_list->Al,int_tuple->Am,none_list->An,str_tuple->Ao,int_list->AH,str_list->AI,int_str->Cj,of_refs->Ck,str_int->Cm
open PySem.SeqAt.RcAt renaming lists_lengths->xf,tuples->CB,lists->Eh
open PySem.SeqAt.RcNeAt renaming lists->Z6,lists_lengths->Z7,tuples->Z8
open PySem.Shared renaming TypeIs->lL,heap->T8
open PySem.Str renaming ofString->ĩ,empty->kU,length_append->OZ
open PySem.Value renaming ref->Ñ,none->ó,type->cg,isInt->cX,bool->fN,int->mY,str->vl,builtin->AJ,isStrOf->AK,float->FQ,isStrOf_shape->Hu,bytes->WG
open PySem.W renaming Frag->È,findIn->Ą,mg_none_of->Ċ,nsIn->Đ,keepIn->ĸ,kia_one->ľ,fnOf->Ŏ,codeHdIn->Ŷ,emptyDict->ag,instObj->bO,kat_cons->cz,clsIn->c7,codeIn->dC,tabObj->dF,kas_desc->fH,specialIn->gv,plainGet->hJ,mg_of->ia,kas_place->ib,kat_yes->i8,takesIn->i9,kas_descPart->ja,kat_no->jU,hasDictIn->kS,kas_rev->lR,cellsFrom_some->mV,isFn->mX,OpenLaw->nr,methodCall_KW->nz,kitOne->oH,kla_fn->oK,lookIn->oM,callWith_K0->px,plainGet_of->pz,kas_sort->pC,mroIn->ql,callWith_K->qo,kitx_dict->rE,kitx_list->rF,methodObj->rG,plainOver->rH,kat_kind->ud,kat_one->vh,makesIn->vi,takerIn->vj,kat_lt->xl,typeIn->xm,subIn->yM,codeHd_of_K->Eg,kitx_tuple->FL,handedIn->HC,kat_nil->Lz,kas_count->LF,kas_tail3->LG,kas_bin->L4,kitOne->L5,WalkO->OX,KasT->Xz
open PySem.W.KatTups renaming cons->T5,nil->T6
open PySem.W.Looks renaming of_pure->xb,here->XN,ld->XO
open PySem.W.WData renaming int->Z9
open PySem.W.WShape renaming has->WH
open PySem.Within renaming cons->Z4
open Rat renaming divInt->ĵ,num_divInt_den->ue,divInt_eq_divInt_iff->CA,add_zero->FN,zero_add->FO,divInt_add_divInt->Ht,lt_iff->LY
open StateT renaming run_pure->LZ
open Sum renaming inr->bt,inl->vk
open Sum.inl renaming inj->Tu
open Sum.inr renaming inj->kW
open True renaming intro->bD
open _root_ renaming List->Á,Option->Ë,if_pos->Ò,if_neg->Ø,reduceIte->Ü,decide_eq_false->ë,decide_eq_true->Ă,Array->Ē,congrArg->ğ,beq_eq_false_iff_ne->Ŝ,decide_eq_true_eq->Š,of_decide_eq_true->š,or_false->Ź,Decidable->aZ,if_false->fG,if_true->fO,propext->g7,decide_true->kq,beq_iff_eq->mZ,DecidableEq->oh,bne_self_eq_false->yQ,beq_self_eq_true->AL,decide_eq_decide->AN,decide_eq_false_iff_not->LC,decide_false->L3
namespace L2
open PySem PySem.Spec PyProof.Rows
abbrev Key:=Sum Int Str
def yp:Key->Value->Bool
 |.inl k,v=>cX k v
 |.inr x,v=>AK x v
noncomputable def Yx (w:ī):Key->Int
 |.inl k=>hashInt k
 |.inr x=>hashStr w x
def bL:∀{k:Key}{v:Value},yp k v=true->(∃i t,k=vk i/\v=mY i t)∨(∃x t,k=bt x/\v=vl x t)
 |.inl i,v,h=>by
  obtain⟨t,e⟩:=Value.isInt_shape (k:=i) (v:=v) h;exact .inl ⟨i,t,rfl,e⟩
 |.inr x,v,h=>by
  obtain⟨t,e⟩:=Hu (x:=x) (v:=v) h;exact .inr ⟨x,t,rfl,e⟩
def Gz (i:Int)(t:XP):yp (.inl i) (.int i t)=true:=by simp[yp,cX]
def GA (x:Str)(t:XP):yp (.inr x) (.str x t)=true:=by simp[yp,AK]
def QU (a b:Int):decide ((vk a:Key)=vk b)=(a == b):=by
 by_cases e:a=b
 ·subst e;simp
 ·have h:¬(vk a:Key)=vk b:=λq=>e (Tu q);rw[ë h];exact(Ŝ.mpr e).symm
def QX (a b:Str):decide ((bt a:Key)=bt b)=decide (a=b):=by
 by_cases e:a=b
 ·subst e;simp
 ·have h:¬(bt a:Key)=bt b:=λq=>e (kW q);rw[ë h,ë e]
def QV (a:Int)(b:Str):decide ((vk a:Key)=bt b)=false:=ë (λq=>nomatch q)
def QW (a:Str)(b:Int):decide ((bt a:Key)=vk b)=false:=ë (λq=>nomatch q)
def ſ (prog:ď)(w:ī):PySem.KeyKind prog w Key where
 is:=yp
 hash:=Yx w
 inj:=λv a b ha hb=>by
  rcases bL ha with⟨i,t,rfl,rfl⟩|⟨x,t,rfl,rfl⟩
  ·rcases bL hb with⟨j,u,rfl,e⟩|⟨y,u,rfl,e⟩
   ·injection e with e1 _;rw[e1]
   ·exact nomatch e
  ·rcases bL hb with⟨j,u,rfl,e⟩|⟨y,u,rfl,e⟩
   ·exact nomatch e
   ·injection e with e1 _;rw[e1]
 byValue:=λk v h=>by
  rcases bL h with⟨i,t,rfl,rfl⟩|⟨x,t,rfl,rfl⟩<;>rfl
 pyHash:=λhv h=>by
  rcases bL hv with⟨i,t,rfl,rfl⟩|⟨x,t,rfl,rfl⟩
  ·exact wpAny_pyHash_int h
  ·exact wpAny_pyHash_str h
 eqBool:=λhu hv h=>by
  rcases bL hu with⟨i,t,rfl,rfl⟩|⟨x,t,rfl,rfl⟩
  ·rcases bL hv with⟨j,u,rfl,rfl⟩|⟨y,u,rfl,rfl⟩
   ·rw[QU]at h;exact wpAny_eqBool_int h
   ·rw[QV]at h;exact Cj i t y u _ _ _ _ h
  ·rcases bL hv with⟨j,u,rfl,rfl⟩|⟨y,u,rfl,rfl⟩
   ·rw[QW]at h;exact Cm x t j u _ _ _ _ h
   ·rw[QX]at h;exact wpAny_eqBool_str h
 «strs»:=λk x t v h=>by
  rcases bL h with⟨i,u,rfl,e⟩|⟨y,u,rfl,e⟩
  ·exact nomatch e
  ·injection e with e1 _
   subst e1;cases v<;>rfl
def tZ (prog:ď)(w:ī)(i:Int)(t:XP):(ſ prog w).is (.inl i) (.int i t)=true:=Gz i t
def t4 (prog:ď)(w:ī)(x:Str)(t:XP):(ſ prog w).is (.inr x) (.str x t)=true:=GA x t
inductive V where
 |Ĕ|bl (b:Bool)|int (i:Int)|str (x:Str)|CN (b:Ē UInt8)|O8 (b:UInt64)|ref (a:Addr)|ty (n:String)
 deriving oh
def RelV:V->Value->Prop
 |.Ĕ,u=>u=ó
 |.bl b,u=>u=fN b
 |.int i,u=>∃t,u=mY i t
 |.str x,u=>∃t,u=vl x t
 |.CN b,u=>∃t,u=WG b t
 |.O8 b,u=>∃t,u=FQ b t
 |.ref a,u=>u=Ñ a
 |.ty n,u=>u=cg n
abbrev Vals:Á V->Á Value->Prop:=Paired RelV
theorem Vals.length (r:Vals xs us):xs.length=us.length:=qm r
theorem Vals.get:∀{xs:Á V}{us:Á Value}{i:Nat}{x:V},Vals xs us->xs[i]?=À x->∃u,us[i]?=À u/\RelV x u
 |_,_,_,_,.nil,e=>by simp at e
 |_,_,0,_,.cons r _,e=>by simp at e;subst e;exact⟨_,rfl,r⟩
 |_,_,i+1,x,.cons _ t,e=>by
  obtain⟨u,a,b⟩:=Vals.get (i:=i) (x:=x) t (by simpa using e);exact⟨u,by simpa using a,b⟩
theorem Vals.set (r:RelV x u):∀{xs:Á V}{us:Á Value}(i:Nat),Vals xs us->Vals (xs.set i x) (us.set i u)
 |_,_,_,.nil=>.nil
 |_,_,0,.cons _ t=>.cons r t
 |_,_,i+1,.cons q t=>.cons q (Vals.set r i t)
theorem Vals.append:∀{xs ys:Á V}{us ws:Á Value},Vals xs us->Vals ys ws->Vals (xs++ys) (us++ws)
 |_,_,_,_,.nil,s=>s
 |_,_,_,_,.cons r t,s=>.cons r (Vals.append t s)
theorem Vals.take:∀{xs:Á V}{us:Á Value}(n:Nat),Vals xs us->Vals (xs.take n) (us.take n)
 |_,_,0,_=>.nil
 |_,_,_+1,.nil=>.nil
 |_,_,n+1,.cons r t=>.cons r (Vals.take n t)
theorem Vals.drop:∀{xs:Á V}{us:Á Value}(n:Nat),Vals xs us->Vals (xs.drop n) (us.drop n)
 |_,_,0,r=>r
 |_,_,_+1,.nil=>.nil
 |_,_,n+1,.cons _ t=>Vals.drop n t
def m7:Ë V->Ë Value->Prop
 |some v,À u=>RelV v u
 |none,none=>True
 |_,_=>False
def KV {κ:Type}:Á (κ×V)->Á (κ×Value)->Prop:=Paired λ(p:κ×V) (q:κ×Value)=>p.1=q.1/\RelV p.2 q.2
def kV:Key->V
 |.inl i=>.int i
 |.inr x=>.str x
inductive HO where
 |lst (xs:Á V)
 |tup (xs:Á V)
 |dK (kvs:Á (Key×V))|dT (kvs:Á (Á Key×V))
 |set (S:Int->Bool) (n:Nat)
 |ins (C dx:Addr) (fs:Á (Str×V))
 |own (x:Addr)
 |xd (fs:Á (Str×V))
 |met (f x:Addr)
 |VY (lo hi:Int)
 |iY (o:Obj) (u:HO)
 |rm (ps:Ē Value)
 |ext (φ:Heap->Prop)
abbrev Hp:=Addr->Ë HO
def upd (H:Hp)(a:Addr)(o:HO):Hp:=λb=>if b=a then À o else H b
def ă:upd H a o a=À o:=by unfold upd;rw[Ò rfl]
def ä (h:b≠a):upd H a o b=H b:=by unfold upd;rw[Ø h]
def FA:upd (upd H a o) a u=upd H a u:=by
 funext b;unfold upd;split<;>rfl
def vX {H:Hp}{a b:Addr}{o u:HO}(h:H a=À o)(h':H b=À u)(d:o≠u):a≠b:=by
 intro e;subst e;rw[h]at h';exact d (æ h')
def Ŋ {H:Hp}{a b:Addr}{o:HO}(h:H a=À o)(h':H b=none):a≠b:=by
 intro e;subst e;rw[h]at h';cases h'
section
variable (P:ď)(w:ī)
def ş (H:Hp)(h:Heap)(a:Addr):HO->Prop
 |.lst xs=>xs.length<=sizeLine/\∃(b:Á Value) (n:Nat),Vals xs b/\h.get? a=À {cls:=.type "list",data:=.seq b.toArray n}
 |.tup xs=>xs.length<=sizeLine/\∃b:Á Value,Vals xs b/\Lr h a b.toArray
 |.dK c=>c.length<=sizeLine/\(a == b8)=false/\∃m,KV c m/\h.DictOf (ſ P w) a m
 |.dT c=>c.length<=sizeLine/\(a == b8)=false/\∃xs:Á (Á Key×Addr×Value),
   Paired (λ(p:Á Key×V) (q:Á Key×Addr×Value)=>p.1=q.1/\H q.2.1=À (.tup (p.1.map kV))/\RelV p.2 q.2.2) c xs/\
   ∃o j r,h.get? a=À o/\o.ExactDict/\o.data=.dict j r/\j.toList=xs.map (entryOfKey (mF (ſ P w)))/\(xs.map (·.1)).Nodup
 |.set S n=>h.SetOf (i_ P w) a S n
 |.ins C g e=>H g=À (.own a)/\e.length<=1000/\g≠a/\h.get? a=À (bO C g)/\
   ∃d,h.Ns1 g d/\(∀f,m7 (e.lookup f) (d f))/\Cz d (e.map (·.1))
 |.own _=>∃o,h.get? a=À o
 |.xd e=>∃d,h.Ns1 a d/\∀f,m7 (e.lookup f) (d f)
 |.VY lo s=>∃t u v,h.get? a=À {cls:=.type "range",data:=.fields #[.int lo t,.int s u,.int 1 v]}
 |.iY o u=>h.get? a=À o/\ş H h a u
 |.rm y=>h.get? a=À {cls:=.none,data:=.fields y}
 |.met f x=>h.get? a=À (rG (.ref f) (.ref x))
 |.ext i=>i h/\(∃o,h.get? a=À o)/\∀k l:Heap,i k->(∀o,k.get? a=À o->l.get? a=À o)->i l
def m5 (H:Hp)(h:Heap):Prop:=∀a o,H a=À o->ş P w H h a o
end
section
variable {P:ď}{w:ī}{H H':Hp}{h h':Heap}{a:Addr}{o:HO}
theorem ş.lt (x:ş P w H h a o):a<h.objs.size:=by
 cases o with
 |lst xs=>obtain⟨_,_,_,_,e⟩:=x;exact Ô e
 |tup xs=>obtain⟨_,_,_,p⟩:=x;exact p.lt
 |dK b=>obtain⟨_,_,_,_,o,_,_,e,_⟩:=x;exact Ô e
 |dT b=>obtain⟨_,_,_,_,o,_,_,e,_⟩:=x;exact Ô e
 |set S n=>obtain⟨o,_,_,_,e,_⟩:=x;exact Ô e
 |ins C d c=>obtain⟨_,_,_,e,_⟩:=x;exact Ô e
 |own y=>obtain⟨_,e⟩:=x;exact Ô e
 |xd c=>obtain⟨_,⟨_,_,_,e,_⟩,_⟩:=x;exact Ô e
 |VY lo g=>obtain⟨_,_,_,e⟩:=x;exact Ô e
 |iY i u=>obtain⟨e,_⟩:=x;exact Ô e
 |rm j=>exact Ô (show h.get? a=À _ from x)
 |met f y=>exact Ô (show h.get? a=À _ from x)
 |ext k=>obtain⟨_,⟨_,e⟩,_⟩:=x;exact Ô e
theorem Paired.Q7:∀{c:Á α}{d:Á e},Paired F c d->(∀a b,F a b->G a b)->Paired G c d
 |_,_,.nil,_=>.nil
 |_,_,.cons r t,f=>.cons (f _ _ r) (Paired.Q7 t f)
def ş.oY (x:ş P w H h a o)(k:∀b u,(b=a∨H b=À (.own a))->h.get? b=À u->h'.get? b=À u)
  (F:∀b,H b=À (.own a)->H' b=À (.own a)) (G:∀b xs,H b=À (.tup xs)->H' b=À (.tup xs)):ş P w H' h' a o:=by
 induction o with
 |lst xs=>obtain⟨z,l,n,r,e⟩:=x;exact⟨z,l,n,r,k _ _ (.inl rfl) e⟩
 |tup xs=>obtain⟨z,l,r,g,e,c⟩:=x;exact⟨z,l,r,g,k _ _ (.inl rfl) e,c⟩
 |dK m=>obtain⟨z,y,L,r,g,j,i,e,c⟩:=x;exact⟨z,y,L,r,g,j,i,k _ _ (.inl rfl) e,c⟩
 |dT m=>
  obtain⟨z,y,xs,r,g,j,i,e,c⟩:=x;exact⟨z,y,xs,Paired.Q7 r λp q z=>⟨z.1,G _ _ z.2.1,z.2.2⟩,g,j,i,k _ _ (.inl rfl) e,c⟩
 |set S n=>obtain⟨g,j,i,t,e,c⟩:=x;exact⟨g,j,i,t,k _ _ (.inl rfl) e,c⟩
 |ins C M E=>
  obtain⟨d,z,J,e,s,⟨A,j,i,D,c⟩,r⟩:=x;exact⟨F _ d,z,J,k _ _ (.inl rfl) e,s,⟨A,j,i,k _ _ (.inr d) D,c⟩,r⟩
 |own y=>obtain⟨g,e⟩:=x;exact⟨g,k _ _ (.inl rfl) e⟩
 |xd E=>obtain⟨s,⟨A,j,i,e,c⟩,r⟩:=x;exact⟨s,⟨A,j,i,k _ _ (.inl rfl) e,c⟩,r⟩
 |VY lo N=>obtain⟨t,u,v,e⟩:=x;exact⟨t,u,v,k _ _ (.inl rfl) e⟩
 |iY g u I=>obtain⟨e,q⟩:=x;exact⟨k _ _ (.inl rfl) e,I q⟩
 |rm B=>
  have e:h.get? a=À {cls:=.none,data:=.fields B}:=x;show h'.get? a=À {cls:=.none,data:=.fields B};exact k a _ (.inl rfl) e
 |met f y=>
  have e:h.get? a=À (rG (.ref f) (.ref y)):=x;show h'.get? a=À (rG (.ref f) (.ref y));exact k a _ (.inl rfl) e
 |ext O=>obtain⟨p,⟨o,e⟩,st⟩:=x;exact⟨st _ _ p λo q=>k _ _ (.inl rfl) q,⟨o,k _ _ (.inl rfl) e⟩,st⟩
theorem m5.lt (x:m5 P w H h)(e:H a=À o):a<h.objs.size:=(x a o e).lt
def m5.fresh (x:m5 P w H h)(e:h.objs.size<=a):H a=none:=by
 cases q:H a with
 |none=>rfl
 |some u=>exact absurd (ð (x.lt q) e) (ŋ _)
def m5.kept (x:m5 P w H h)(k:∀b u,h.get? b=À u->h'.get? b=À u):m5 P w H h':=λa o e=>
 (x a o e).oY (λb u _ q=>k b u q) (λ_ q=>q) λ_ _ q=>q
def m5.laid (x:m5 P w H h)(k:∀b u,h.get? b=À u->h'.get? b=À u)(i:h.objs.size<=a)(d:ş P w (upd H a o) h' a o):m5 P w (upd H a o) h':=λb u e=>by
 have g:=x.fresh i;by_cases f:b=a
 ·subst f;rw[ă]at e;cases e;exact d
 ·rw[ä f]at e;exact(x b u e).oY (λc v _ q=>k c v q) (λc q=>by rw[ä (Ŋ q g)];exact q) λc xs q=>by rw[ä (Ŋ q g)];exact q
end
def Rd (H:Hp)(a:Addr)(u:HO):Prop:=H a=À u∨∃o,H a=À (.iY o u)
def Rd.ok (r:Rd H a u)(x:m5 P w H h):ş P w H h a u:=by
 rcases r with r|⟨o,r⟩
 ·exact x a u r
 ·obtain⟨_,q⟩:=x a _ r;exact q
def TM:Ë HO->Prop
 |some (.lst _)=>True
 |some (.dK _)=>True
 |some (.dT _)=>True
 |some (.set _ _)=>True
 |some (.ins _ _ _)=>True
 |some (.ext _)=>True
 |_=>False
section
variable {P:ď}{w:ī}{H:Hp}{h h':Heap}{x e:Addr}{o':HO}
def m5.write (p:m5 P w H h)(i:TM (H x)) (m:e=x∨H e=À (.own x)) (k:∀b u,b≠e->h.get? b=À u->h'.get? b=À u)(j:∃u,h'.get? e=À u)
  (l:ş P w (upd H x o') h' x o'):m5 P w (upd H x o') h':=λb u q=>by
 have d:∀c y,H c=À (.own y)->c≠x:=λc y r z=>by subst z;rw[r]at i;exact i
 have f:∀c xs,H c=À (.tup xs)->c≠x:=λc xs r z=>by subst z;rw[r]at i;exact i
 by_cases g:b=x
 ·subst g;rw[ă]at q;cases q;exact l
 ·rw[ä g]at q;by_cases a:b=e
  ·have n:H b=À (.own x):=by
    rcases m with z|z
    ·exact absurd (a.trans z) g
    ·rw[a];exact z
   rw[q]at n;cases n;obtain⟨v,o⟩:=j;exact⟨v,by rw[a];exact o⟩
  ·refine(p b u q).oY (λc v hc r=>k c v ?_ r) (λc r=>by rw[ä (d c b r)];exact r) λc xs r=>by rw[ä (f c xs r)];exact r
   rcases hc with rfl|hc
   ·exact a
   ·rintro rfl;rcases m with z|z
    ·exact d c b hc z
    ·rw[hc]at z;cases z;exact g rfl
end
structure Un (fs ex:Á Addr)(H H':Hp)(h h':Heap):Prop where
 keep:∀b o,h.get? b=À o->H b=none->b∉fs->b∉ex->h'.get? b=À o
 slot:∀b o,h.get? b=À o->H b=none->b∈fs->b∉ex->∃sl,h'.get? b=À {o with slots:=sl}
 free:∀b o,h.get? b=À o->H b=none->b∉ex->H' b=none
 there:∀b o,h.get? b=À o->b∉ex->∃o',h'.get? b=À o'
 lJ:∀b xs,H b=À (.tup xs)->H' b=À (.tup xs)
 jB:∀b o u,H b=À (.iY o u)->H' b=À (.iY o u)
 wK:∀b ps,H b=À (.rm ps)->∃more,H' b=À (.rm (ps++more))
section
variable {fs fs' ex ex':Á Addr}{H H1 H2:Hp}{h h1 h2 h':Heap}{a x e:Addr}{o:HO}
def Un.any (u:Un fs ex H H1 h h1)(q:h.get? b=À c)(n:H b=none)(f:b∉ex):∃g,h1.get? b=À {c with slots:=g}:=by
 by_cases d:b∈fs
 ·exact u.slot b c q n d f
 ·exact⟨c.slots,u.keep b c q n d f⟩
def Un.kept (k:∀b u,h.get? b=À u->h'.get? b=À u):Un fs ex H H h h':=
 ⟨λb c q _ _ _=>k b c q,λb c q _ _ _=>⟨c.slots,k b c q⟩,λ_ _ _ n _=>n,λb c q _=>⟨c,k b c q⟩,λ_ _ q=>q,λ_ _ _ q=>q,λ_ d q=>⟨#[],by rw[q];simp⟩⟩
def Un.refl:Un fs ex H H h h:=Un.kept λ_ _ q=>q
def Un.laid (k:∀b u,h.get? b=À u->h'.get? b=À u)(hp:h.objs.size<=a)(hn:H a=none):Un fs ex H (upd H a o) h h' where
 keep:=λb u q _ _ _=>k b u q
 slot:=λb u q _ _ _=>⟨u.slots,k b u q⟩
 free:=λb u q n _=>by rw[ä (ñ (ð (Ô q) hp))];exact n
 there:=λb u q _=>⟨u,k b u q⟩
 lJ:=λb xs q=>by rw[ä (Ŋ q hn)];exact q
 jB:=λb u xs q=>by rw[ä (Ŋ q hn)];exact q
 wK:=λb ps q=>⟨#[],by rw[ä (Ŋ q hn),q];simp⟩
def Un.write (d:TM (H x)) (l:e=x∨H e=À (.own x)) (k:∀b u,b≠e->h.get? b=À u->h'.get? b=À u)(f:∃u,h'.get? e=À u):Un fs ex H (upd H x o) h h':=by
 have j:∀b,H b=none->b≠x:=λb n z=>by subst z;rw[n]at d;exact d
 have i:∀b,H b=none->b≠e:=λb n z=>by
  subst z;rcases l with r|r
  ·exact j b n r
  ·rw[n]at r;cases r
 have g:∀b u,H b=À u->¬TM (À u)->b≠x:=λb u q m z=>by subst z;rw[q]at d;exact m d
 refine⟨λb u q n _ _=>k b u (i b n) q,λb u q n _ _=>⟨u.slots,k b u (i b n) q⟩,λb u q n _=>by rw[ä (j b n)];exact n,λb u q _=>?_,
  λb xs q=>by rw[ä (g b _ q λz=>z)];exact q,λb u xs q=>by rw[ä (g b _ q λz=>z)];exact q,λb p q=>⟨#[],by rw[ä (g b _ q λz=>z),q];simp⟩⟩
 by_cases c:b=e
 ·subst c;exact f
 ·exact⟨u,k b u c q⟩
end
def LN (h:Heap)(H:Hp):Á Addr:=(Ĉ h.objs.size).filter λa=>(H a).isSome
def zp (h:Heap)(H:Hp):Heap:=PySem.W.hideAll h (LN h H)
def Gq (h:Heap)(H:Hp):(zp h H).objs.size=h.objs.size:=PySem.W.hideAll_size _ _
def IY (e:h.get? b=À o)(n:H b=none):(zp h H).get? b=À o:=
 PySem.W.hideAll_get _ e λa=>by
  have q:(H b).isSome=true:=(P0.mp a).2;rw[n]at q;simp at q
def NA (e:(zp h H).get? b=À o):h.get? b=À o/\H b=none:=by
 have a:h.get? b=À o:=PySem.W.of_hideAll (LN h H) e;refine⟨a,?_⟩;cases q:H b with
 |none=>rfl
 |some x=>
  have c:b∈LN h H:=P0.mpr ⟨qi.mpr (Ô a),by simp[q]⟩;have z:(zp h H).get? b=none:=PySem.W.hideAll_none (LN h H) c;rw[z]at e;cases e
noncomputable def uT (g h:Heap)(L:Addr):Á (Addr×Obj):=(Ĉ h.objs.size).filterMap λa=>if a=L∨(g.get? a).isSome=true then none else (h.get? a).map λo=>(a,o)
def BH (c:a≠L)(d:g.get? a=none)(b:h.get? a=À o):(a,o)∈uT g h L:=
 kQ.mpr ⟨a,qi.mpr (Ô b),by simp[c,d,b]⟩
def v5 (c:p∈uT g h L):p.1≠L/\g.get? p.1=none/\h.get? p.1=À p.2:=by
 obtain⟨b,_,e⟩:=kQ.mp c;split at e
 ·cases e
 ·rename_i a;cases q:h.get? b with
  |none=>rw[q]at e;simp at e
  |some u=>
   rw[q]at e;simp only[bQ,aag]at e;subst e;refine⟨λz=>a (.inl z),?_,q⟩;show g.get? b=none;cases r:g.get? b with
   |none=>rfl
   |some v=>exact(a (.inr (by simp[r]))).elim
def JS:News g L h (uT g h L):=λp d=>let ⟨a,b,c⟩:=v5 d;⟨c,a,b⟩
structure Mod (K:È)(mg:Str->Ë Value)(base:Heap):Prop where
 U2:K.In base
 glob:base.Ns mainGlobals mg
 blt:∃mb,base.Ns m3 mb/\∀x:Str,x≠"__name__"->mb x=ĥ x
 nolimit:base.NoLimit
 JX:base.NoDigits
 bmain:∃bm ob,mg "__builtins__"=À (.ref bm)/\bm≠m3/\base.get? bm=À ob/\ob.cls=.type "module"/\ob.dict=À m3/\ob.data=.plain
structure Cx where
 prog:ď
 w:ī
 K:È
 mg:Str->Ë Value
 base:Heap
 A:Ň
 N:Á Str
 jW:Ó
 xr:Hp
 env:Hl
 outer:Á Hl
 stack:Á Hl
 ex:Á Addr
 fn:Str->Bool
 calm:Bool
 pn:Á (Addr×Obj)
 xe:Value->Ó->Prop
def Ar (l:Á Hl):Á Addr:=l.filterMap (·.frame)
abbrev Cx.fs (X:Cx):Á Addr:=Ar X.outer
def W2 (a:Scope)(x:Str):Prop:=a.names.lookup x=À .local∨a.names.lookup x=À .cell∨a.names.lookup x=À .free
def Loc (a:Scope)(x:Str):Prop:=a.names.lookup x=À .local∨a.names.lookup x=À .cell
def Look (env:Hl)(h:Heap)(m:Str->Ë Value)(x:Str)(u:Value):Prop:=
 (env.kindOf x=À .local/\m x=À u)∨((env.kindOf x=À .cell∨env.kindOf x=À .free)/\∃c,env.cells.lookup x=À c/\h.IsCell c (À u))
structure Cx.Ok (X:Cx):Prop where
 mod:Mod X.K X.mg X.base
 kind:X.env.scope.kind=.function
 glob:X.env.globals=mainGlobals
 blt:X.env.builtins=m3
 above:X.jW.heap.objs.size<=X.env.locals
 inj:∀x y c,X.env.cells.lookup x=À c->X.env.cells.lookup y=À c->x=y
 has:∀x,(X.env.kindOf x=À .cell∨X.env.kindOf x=À .free)->∃c,X.env.cells.lookup x=À c
 O6:∀x c,X.fn x=true->X.env.cells.lookup x=À c->X.jW.heap.objs.size<=c
 hd:X.calm=true->X.A.handled=none
 frames:X.A.frames=À X.stack
 S4:X.stack=X.outer∨(X.stack=X.env::X.outer/\X.env.frame=À X.env.locals)
 UB:∀b∈X.ex,b≠X.env.locals/\∀x c,X.env.cells.lookup x=À c->c≠b
 bs:∀b o,X.base.get? b=À o->X.jW.heap.get? b=À o/\X.xr b=none
 F4:X.base.objs.size<=X.jW.heap.objs.size
 BL:∀b o,X.base.get? b=À o->b∉X.ex
 Bl:∀b∈X.ex,b∉X.fs
 pM:X.jW.heap.FunFrames X.base X.outer
 LL:∀b∈X.fs,X.xr b=none
structure Inv (X:Cx)(ÿ:Á (Addr×Obj)) (σ:Á (Ë V)) (H:Hp)(s:Ó):Prop where
 ok:X.Ok
 os:s.os=X.jW.os
 bare:og s.gens
 base:Un X.fs X.ex X.xr H X.jW.heap s.heap
 loc:∃m,s.heap.Ns X.env.locals m/\∀(i:Nat) (x:Str) (v:V),X.N[i]?=À x->σ[i]?=À (À v)->W2 X.env.scope x->∃u,RelV v u/\Look X.env s.heap m x u
 cell:∀x c,X.env.cells.lookup x=À c->∃v,s.heap.IsCell c v
 free:H X.env.locals=none
 jA:∀x c,X.env.cells.lookup x=À c->H c=none
 pin:∀p∈X.pn++ÿ,s.heap.get? p.1=À p.2/\H p.1=none/\p.1≠X.env.locals/\p.1∉X.fs/\∀v,p.2.data≠.cell v
 ţ:m5 X.prog X.w H s.heap
 len:σ.length=X.N.length
section
variable {X:Cx}{ÿ:Á (Addr×Obj)}{σ:Á (Ë V)}{H H':Hp}{s:Ó}{h':Heap}
def Cx.Ok.YF (c:X.Ok)(e:X.base.get? b=À o):b∉X.fs:=λa=>by
 have:=(c.pM.mem a).1;rw[e]at this;cases this
theorem Inv.bs (I:Inv X ÿ σ H s):∀b o,X.base.get? b=À o->s.heap.get? b=À o/\H b=none:=λb o e=>
 ⟨I.base.keep b o (I.ok.bs b o e).1 (I.ok.bs b o e).2 (I.ok.YF e) (I.ok.BL b o e),I.base.free b o (I.ok.bs b o e).1 (I.ok.bs b o e).2 (I.ok.BL b o e)⟩
def Inv.bk (I:Inv X ÿ σ H s):∀b o,X.base.get? b=À o->s.heap.get? b=À o:=λb o e=>(I.bs b o e).1
theorem Inv.mod (I:Inv X ÿ σ H s):Mod X.K X.mg X.base:=I.ok.mod
def Inv.mi (I:Inv X ÿ σ H s):X.K.In s.heap:=I.ok.mod.U2.keeps I.bk
theorem Inv.nolimit (I:Inv X ÿ σ H s):s.heap.NoLimit:=I.ok.mod.nolimit.keeps I.bk
def Inv.fr (I:Inv X ÿ σ H s):∃m,Fr X.base X.env.locals s.heap m:=
 let ⟨m,a,_⟩:=I.loc
 ⟨m,a,I.bk,ĺ I.ok.F4 I.ok.above⟩
theorem Inv.lt (I:Inv X ÿ σ H s):X.env.locals<s.heap.objs.size:=let ⟨_,a,_⟩:=I.loc;a.lt
def Inv.sz (I:Inv X ÿ σ H s):X.jW.heap.objs.size<=s.heap.objs.size:=ĺ I.ok.above (ę I.lt)
def Inv.YG (I:Inv X ÿ σ H s)(h:s.heap.objs.size<=a):a∉X.fs:=λb=>by
 obtain⟨_,o,c,_⟩:=I.ok.pM.mem b;exact absurd (ð (Ô c) (ĺ I.sz h)) (ŋ _)
def Inv.W4 (I:Inv X ÿ σ H s):∀x c,X.env.cells.lookup x=À c->c≠X.env.locals:=λx c e z=>by
 obtain⟨v,o,d,hd⟩:=I.cell x c e;obtain⟨m,⟨h,g,f,b,a,_⟩,_⟩:=I.loc;rw[z,b]at d;cases d;rw[a]at hd;cases hd
theorem Inv.pM (I:Inv X ÿ σ H s):s.heap.FunFrames X.base X.outer:=by
 have all:∀(l:Á Hl),(∀b∈Ar l,b∈X.fs)->X.jW.heap.FunFrames X.base l->s.heap.FunFrames X.base l:=by
  intro l;induction l with
  |nil=>intro _ _;trivial
  |cons g r k=>
   intro f hl;obtain⟨h,⟨L,o,d,i,j,hd⟩,hr⟩:=hl;have a:L∈X.fs:=f L (by unfold Ar;rw[rg,d];exact Ń);obtain⟨m,e⟩:=I.base.slot L o j (I.ok.LL L a) a λz=>I.ok.Bl L z a;exact⟨h,⟨L,_,d,i,e,hd⟩,k (λb c=>f b (by unfold Ar;rw[rg,d];exact Ć _ c)) hr⟩
 exact all X.outer (λ_ c=>c) I.ok.pM
theorem Inv.stack (I:Inv X ÿ σ H s):s.heap.FunFrames X.base X.stack:=by
 rcases I.ok.S4 with e|⟨e,a⟩
 ·rw[e];exact I.pM
 ·rw[e];obtain⟨m,b,_⟩:=I.loc;refine .cons (by rw[I.ok.kind];decide) a b ?_ I.pM;exact Heap.get?_none_of_le (ĺ I.ok.F4 I.ok.above)
def Inv.D4 (I:Inv X ÿ σ H s):∀b∈Ar X.stack,b∈X.env.locals::X.fs:=λb a=>by
 rcases I.ok.S4 with e|⟨e,c⟩
 ·rw[e]at a;exact Ć _ a
 ·rw[e]at a;unfold Ar at a;rw[rg,c]at a;exact a
def Inv.u9 (I:Inv X ÿ σ H s):∀b∈Ar X.stack,H b=none:=λb hb=>by
 rcases Þ.mp (I.D4 b hb)with e|hb
 ·rw[e];exact I.free
 ·obtain⟨_,o,a,_⟩:=I.ok.pM.mem hb;exact I.base.free b o a (I.ok.LL b hb) λz=>I.ok.Bl b z hb
def Inv.step {g':Ē GenState}{t':Nat}{d':Drawn}{ch:Á Addr}(I:Inv X ÿ σ H s)
  (h:∀b∈ch,(b∈X.ex∨X.jW.heap.objs.size<=b)/\b≠X.env.locals/\(∀x c,X.env.cells.lookup x=À c->c≠b)/\∀p∈X.pn++ÿ,p.1≠b)
  (j:∀b o,b≠X.env.locals->b∉X.fs->b∉ch->s.heap.get? b=À o->H b=none->h'.get? b=À o)
  (B:∀b o,b≠X.env.locals->b∈X.fs->b∉ch->s.heap.get? b=À o->H b=none->∃P,h'.get? b=À {o with slots:=P}) (f:∀b o,b∉ch->s.heap.get? b=À o->H b=none->H' b=none)
  (D:∀b o,b∉ch->s.heap.get? b=À o->∃L,h'.get? b=À L)
  (N:∀b xs,H b=À (.tup xs)->H' b=À (.tup xs)) (G:∀b o u,H b=À (.iY o u)->H' b=À (.iY o u)) (M:∀b ps,H b=À (.rm ps)->∃more,H' b=À (.rm (ps++more)))
  (ns:∀m,s.heap.Ns X.env.locals m->h'.Ns X.env.locals m) (O:m5 X.prog X.w H' h') (hg:og g') :
  Inv X ÿ σ H' {s with heap:=h',gens:=g',drawn:=d',toks:=t'}:=by
 have J:∀b o,X.jW.heap.get? b=À o->b≠X.env.locals:=λb o e=>ñ (ð (Ô e) I.ok.above);have A:∀b o,X.jW.heap.get? b=À o->b∉X.ex->b∉ch:=λb o e a C=>by
  rcases(h b C).1 with z|z
  ·exact a z
  ·exact absurd (ð (Ô e) z) (ŋ _)
 have g:∀x c,X.env.cells.lookup x=À c->∀v,s.heap.IsCell c v->h'.IsCell c v:=λx c e v ⟨o,E,hd⟩=>by
  have t:c∉ch:=λz=>(h c z).2.2.1 x c e rfl;by_cases T:c∈X.fs
  ·obtain⟨P,q⟩:=B c o (I.W4 x c e) T t E (I.jA x c e);exact⟨_,q,hd⟩
  ·exact⟨o,j c o (I.W4 x c e) T t E (I.jA x c e),hd⟩
 refine⟨I.ok,I.os,hg,⟨λb o e n C a=>?_,λb o e n C a=>?_,λb o e n a=>?_,λb o e a=>?_,λb xs e=>N b xs (I.base.lJ b xs e),λb o xs e=>G b o xs (I.base.jB b o xs e),λb ps e=>?_⟩,?_,λx c e=>?_,?_,λx c e=>?_,λp U=>?_,O,I.len⟩
 ·exact j b o (J b o e) C (A b o e a) (I.base.keep b o e n C a) (I.base.free b o e n a)
 ·obtain⟨P,y⟩:=I.base.slot b o e n C a;obtain⟨Q,F⟩:=B b _ (J b o e) C (A b o e a) y (I.base.free b o e n a);exact⟨Q,F⟩
 ·obtain⟨L,y⟩:=I.base.there b o e a;exact f b L (A b o e a) y (I.base.free b o e n a)
 ·obtain⟨L,y⟩:=I.base.there b o e a;exact D b L (A b o e a) y
 ·obtain⟨m1,y⟩:=I.base.wK b ps e;obtain⟨m2,F⟩:=M b _ y;exact⟨m1++m2,by rw[F,Array.append_assoc]⟩
 ·obtain⟨m,hn,hl⟩:=I.loc;refine⟨m,ns m hn,λi x v y F e3=>?_⟩;obtain⟨u,r,l⟩:=hl i x v y F e3;refine⟨u,r,?_⟩;rcases l with l|⟨k,c,e,z⟩
  ·exact .inl l
  ·exact .inr ⟨k,c,e,g x c e _ z⟩
 ·obtain⟨v,z⟩:=I.cell x c e;exact⟨v,g x c e v z⟩
 ·obtain⟨m,⟨o,_,_,E,_⟩,_⟩:=I.loc;exact f _ o (λz=>(h _ z).2.1 rfl) E I.free
 ·obtain⟨v,o,E,hd⟩:=I.cell x c e;exact f c o (λz=>(h c z).2.2.1 x c e rfl) E (I.jA x c e)
 ·obtain⟨e,n,Y,Z,d⟩:=I.pin p U;have t:p.1∉ch:=λz=>(h p.1 z).2.2.2 p U rfl;exact⟨j p.1 p.2 Y Z t e n,f p.1 p.2 t e n,Y,Z,d⟩
def Inv.un {t':Nat}(I:Inv X ÿ σ H s)(u:Un X.fs [] H H' s.heap h')(g:m5 X.prog X.w H' h'):Inv X ÿ σ H' {s with heap:=h',toks:=t'}:=by
 obtain⟨m,⟨o,p,l,h,r⟩,_⟩:=id I.loc;obtain⟨v,i⟩:=u.any h I.free (by simp);exact I.step (g':=s.gens) (d':=s.drawn) (ch:=[]) s!"p" (λb o _ f _ e n=>u.keep b o e n f (by simp)) (λb o _ f _ e n=>u.slot b o e n f (by simp)) (λb o _ e n=>u.free b o e n (by simp)) (λb o _ e=>u.there b o e (by simp)) u.lJ u.jB u.wK (λq j=>by
  obtain⟨t,d,c,a,k⟩:=j;rw[h]at a;cases a;exact⟨_,d,c,i,k⟩) g I.bare
def Inv.call {g':Ē GenState}{t':Nat}{d':Drawn}{ch:Á Addr}(I:Inv X ÿ σ H s)(u:Un (Ar X.stack) ch H H' s.heap h') (j:m5 X.prog X.w H' h')(q:og g')
  (d:∀b∈ch,(b∈X.ex∨X.jW.heap.objs.size<=b)/\b≠X.env.locals/\(∀x c,X.env.cells.lookup x=À c->c≠b)/\∀p∈X.pn++ÿ,p.1≠b) :
  Inv X ÿ σ H' {s with heap:=h',gens:=g',drawn:=d',toks:=t'}:=by
 obtain⟨m,⟨o,A,y,k,r⟩,_⟩:=id I.loc;obtain⟨D,i⟩:=u.any k I.free λz=>(d _ z).2.1 rfl;exact I.step (ch:=ch) d (λb o i l a e n=>u.keep b o e n (λz=>(Þ.mp (I.D4 b z)).elim i l) a) (λb o _ _ a e n=>u.any e n a) (λb o a e n=>u.free b o e n a) (λb o a e=>u.there b o e a) u.lJ u.jB u.wK (λB t=>by
  obtain⟨C,h,g,f,v⟩:=t;rw[k]at f;cases f;exact⟨_,h,g,i,v⟩) j q
def Inv.turned {t':Nat}{a:Addr}(I:Inv X ÿ σ H s)(k:∀b o,b≠a->s.heap.get? b=À o->h'.get? b=À o)(A:H a=none)(g:a≠X.env.locals)
  (j:a∈X.ex∨X.jW.heap.objs.size<=a) (l:∀x c,X.env.cells.lookup x=À c->c≠a) (t:∀p∈X.pn++ÿ,p.1≠a):Inv X ÿ σ H {s with heap:=h',toks:=t'}:=by
 have f:∀b u,H b=À u->b≠a:=λb u e z=>by rw[z,A]at e;cases e
 refine I.step (g':=s.gens) (d':=s.drawn) (ch:=[a]) (λb w=>?_) (λb o _ _ d e _=>k b o (λz=>d (by simp[z])) e) (λb o _ _ d e _=>⟨o.slots,k b o (λz=>d (by simp[z])) e⟩) (λ_ _ _ _ n=>n)
  (λb o d e=>⟨o,k b o (λz=>d (by simp[z])) e⟩) (λ_ _ e=>e) (λ_ _ _ e=>e) (λb C e=>⟨#[],by rw[e];simp⟩) (λm y=>?_) (λb u e=>?_) I.bare
 ·have e:b=a:=by simpa using w
  subst e;exact⟨j,g,l,t⟩
 ·obtain⟨o,i,h,B,r⟩:=y;exact⟨o,i,h,k _ o (ō g) B,r⟩
 ·refine(I.ţ b u e).oY (λc v d q=>k c v ?_ q) (λ_ q=>q) λ_ _ q=>q;rcases d with z|z
  ·rw[z];exact f b u e
  ·exact f c _ z
def Inv.tok (I:Inv X ÿ σ H s)(t:Nat):Inv X ÿ σ H {s with toks:=t}:=I.un (h':=s.heap) (t':=t) Un.refl I.ţ
theorem Inv.kept (I:Inv X ÿ σ H s)(k:∀b u,s.heap.get? b=À u->h'.get? b=À u):Inv X ÿ σ H {s with heap:=h',toks:=t'}:=I.un (Un.kept k) (I.ţ.kept k)
theorem Inv.laid (I:Inv X ÿ σ H s)(k:∀b u,s.heap.get? b=À u->h'.get? b=À u)(c:s.heap.objs.size<=a)(d:ş X.prog X.w (upd H a o) h' a o) :
  Inv X ÿ σ (upd H a o) {s with heap:=h',toks:=t'}:=I.un (Un.laid k c (I.ţ.fresh c)) (I.ţ.laid k c d)
theorem Inv.write (I:Inv X ÿ σ H s)(f:TM (H x)) (d:e=x∨H e=À (.own x)) (k:∀b u,b≠e->s.heap.get? b=À u->h'.get? b=À u)(a:∃u,h'.get? e=À u)
  (c:ş X.prog X.w (upd H x o) h' x o):Inv X ÿ σ (upd H x o) {s with heap:=h',toks:=t'}:=I.un (Un.write f d k a) (I.ţ.write f d k a c)
def Inv.Fj (I:Inv X ÿ σ H s)(h:∀p∈a,s.heap.get? p.1=À p.2/\H p.1=none/\p.1≠X.env.locals/\p.1∉X.fs/\∀v,p.2.data≠.cell v):Inv X a σ H s:=
 ⟨I.ok,I.os,I.bare,I.base,I.loc,I.cell,I.free,I.jA,λp b=>(ķ.mp b).elim (λz=>I.pin p (eO _ z)) (h p),I.ţ,I.len⟩
def vY {N:Á Str}(e:N.Nodup){i j:Nat}{x:Str}(a:N[i]?=À x)(b:N[j]?=À x):i=j:=by
 obtain⟨f,c⟩:=Æ.mp a;obtain⟨g,d⟩:=Æ.mp b;exact(bx e).mp (c.trans d.symm)
def yE {M:Model}{A:Ň}{E:Value->Ó->Prop}{i:Nat}{x:Str}{v:V}{u:Value}{Q:Unit->Ó->Prop}(I:Inv X ÿ σ H s)(hN:X.N.Nodup)(U:X.N[i]?=À x)(t:Loc X.env.scope x)(r:RelV v u)
  (h:∀s',Inv X ÿ (σ.set i (À v)) H s'->(∃a,e8 a s.heap s'.heap/\(a=X.env.locals∨X.env.cells.lookup x=À a))->Q () s') (hf:X.fn x=true∨X.env.scope.names.lookup x=À .local:=by first|exact .inl rfl|exact .inr rfl|assumption):Ù M A (XS X.env x u) Q E s:=by
 obtain⟨m,hn,hl⟩:=id I.loc;have T:(X.env.scope.kind == .class||(X.env.scope.kind == .module&&X.env.locals != X.env.globals))=false:=by rw[I.ok.kind];rfl
 have D:i<σ.length:=by rw[I.len];exact(Æ.mp U).1
 have F:=I.W4;have l:∀{a:Addr}{h':Heap},(∃o,s.heap.get? a=À o/\H a=none)->e8 a s.heap h'->m5 X.prog X.w H h':=λ{a h'} ha f b ob e=>by
  obtain⟨_,_,B⟩:=ha;refine(I.ţ b ob e).oY (λc w' hc q=>(f.2 c ?_).trans q) (λ_ q=>q) λ_ _ q=>q;rintro rfl;rcases hc with rfl|hc
  ·rw[B]at e;cases e
  ·rw[B]at hc;cases hc
 rcases t with hk|hk
 ·refine wpAny_storeName_local hk hn (λh' hn' f=>?_) T;obtain⟨oL,_,_,hoL,_⟩:=id hn;refine h _ ⟨I.ok,I.os,I.bare,⟨λb o e n G t=>?_,λb o e n G t=>?_,I.base.free,λb o e t=>?_,I.base.lJ,I.base.jB,I.base.wK⟩,⟨_,hn',λj y v' g C e3=>?_⟩,λy c e=>?_,I.free,I.jA,λp hp=>?_,l ⟨oL,hoL,I.free⟩ f,by simpa using I.len⟩ ⟨_,f,.inl rfl⟩
  ·exact(f.2 b (ñ (ð (Ô e) I.ok.above))).trans (I.base.keep b o e n G t)
  ·obtain⟨sl,g⟩:=I.base.slot b o e n G t;exact⟨sl,(f.2 b (ñ (ð (Ô e) I.ok.above))).trans g⟩
  ·obtain⟨o',g⟩:=I.base.there b o e t;exact⟨o',(f.2 b (ñ (ð (Ô e) I.ok.above))).trans g⟩
  ·by_cases L:j=i
   ·subst L;rw[U]at g;cases g;rw[Ģ D]at C;cases C;exact⟨u,r,.inl ⟨hk,by simp⟩⟩
   ·rw[Û (ō L)]at C;obtain⟨u',r',q⟩:=hl j y v' g C e3;refine⟨u',r',?_⟩;rcases q with⟨k,e⟩|⟨k,c,e,z⟩
    ·refine .inl ⟨k,?_⟩;have:y≠x:=λe=>L (vY hN g (e▸U));simp[this,e]
    ·exact .inr ⟨k,c,e,z.sameBut f (F y c e)⟩
  ·obtain⟨w',z⟩:=I.cell y c e;exact⟨w',z.sameBut f (F y c e)⟩
  ·obtain⟨e,n,ne,nf,d⟩:=I.pin p hp;exact⟨(f.2 p.1 ne).trans e,n,ne,nf,d⟩
 ·have J:X.fn x=true:=by
   rcases hf with z|z
   ·exact z
   ·rw[z]at hk;cases hk
  obtain⟨c,hc⟩:=I.ok.has x (.inl hk);obtain⟨w',z⟩:=I.cell x c hc;refine wpAny_storeName_cell I.ok.kind hk hc z (λh' O f=>?_);obtain⟨oc,Y,Z⟩:=id z;refine h {s with heap:=h'} ⟨I.ok,I.os,I.bare,⟨λb o e n G t=>?_,λb o e n G t=>?_,I.base.free,λb o e t=>?_,I.base.lJ,I.base.jB,I.base.wK⟩,⟨m,hn.sameBut f (ō (F x c hc)),λj y v' g C e3=>?_⟩,λy c' e=>?_,I.free,I.jA,λp hp=>?_,l ⟨oc,Y,I.jA x c hc⟩ f,by simpa using I.len⟩ ⟨c,f,.inr hc⟩
  ·exact(f.2 b (ñ (ð (Ô e) (I.ok.O6 x c J hc)))).trans (I.base.keep b o e n G t)
  ·obtain⟨sl,g⟩:=I.base.slot b o e n G t;exact⟨sl,(f.2 b (ñ (ð (Ô e) (I.ok.O6 x c J hc)))).trans g⟩
  ·obtain⟨o',g⟩:=I.base.there b o e t;exact⟨o',(f.2 b (ñ (ð (Ô e) (I.ok.O6 x c J hc)))).trans g⟩
  ·by_cases L:j=i
   ·subst L;rw[U]at g;cases g;rw[Ģ D]at C;cases C;exact⟨u,r,.inr ⟨.inl hk,c,hc,O⟩⟩
   ·rw[Û (ō L)]at C;obtain⟨u',r',q⟩:=hl j y v' g C e3;refine⟨u',r',?_⟩;rcases q with q|⟨k,c',e,z'⟩
    ·exact .inl q
    ·refine .inr ⟨k,c',e,z'.sameBut f ?_⟩;rintro rfl;exact L (vY hN g (I.ok.inj _ _ _ e hc▸U))
  ·by_cases P:c'=c
   ·subst P;exact⟨_,O⟩
   ·obtain⟨w2,z2⟩:=I.cell y c' e;exact⟨w2,z2.sameBut f P⟩
  ·obtain⟨e,n,ne,nf,d⟩:=I.pin p hp;refine⟨(f.2 p.1 ?_).trans e,n,ne,nf,d⟩;intro q;rw[q,Y]at e;have q':oc=p.2:=æ e;exact d w' (by rw[<-q'];exact Z)
def gm (I:Inv X ÿ σ H s)(a:X.N.Nodup)(c:X.N[i]?=À x)(d:Loc X.env.scope x)(r:RelV v u)
  (h:∀s',Inv X ÿ (σ.set i (À v)) H s'->Q () s') (b:X.fn x=true∨X.env.scope.names.lookup x=À .local:=by first|exact .inl rfl|exact .inr rfl|assumption):Ù M A (XS X.env x u) Q E s:=
 yE I a c d r (λs' B _=>h s' B) b
def Inv.Uo (I:Inv X ÿ σ H s)(g:s'.os=s.os)(u:Un (Ar X.stack) ch H H' s.heap s'.heap) (d:m5 X.prog X.w H' s'.heap)(f:og s'.gens)
  (a:∀b∈ch,(b∈X.ex∨X.jW.heap.objs.size<=b)/\b≠X.env.locals/\(∀x c,X.env.cells.lookup x=À c->c≠b)/\∀p∈X.pn++ÿ,p.1≠b):Inv X ÿ σ H' s':=by
 obtain⟨h',g',d',t',h⟩:=s';have e:h=s.os:=g;subst e;exact I.call (g':=g') (t':=t') (d':=d') u d f a
end
abbrev XK:=Value->Ë Addr->Hp->Prop
abbrev St:=Á (Ë V)
abbrev VK:=V->Hp->Prop
abbrev TE:=St->Hp->VK->Prop
abbrev TT:=St->Hp->(Bool->Hp->Prop)->Prop
abbrev TA:=St->Hp->(Á V->Hp->Prop)->Prop
structure Ends where
 nx:St->Hp->Prop
 rt:VK
 bk:St->Hp->Prop:=λ_ _=>False
 ct:St->Hp->Prop:=λ_ _=>False
abbrev TS:=Ends->St->Hp->Prop
def EP (X:Cx)(a:Á (Addr×Obj)) (b:St)(Q:VK)(u:Value)(s':Ó):Prop:=∃v A,Inv X a b A s'/\RelV v u/\Q v A
def TP (X:Cx)(a:Á (Addr×Obj)) (c:St)(Q:Bool->Hp->Prop)(b:Bool)(s':Ó):Prop:=∃A,Inv X a c A s'/\Q b A
def AP (X:Cx)(a:Á (Addr×Obj)) (c:St)(Q:Á V->Hp->Prop)(us:Á Value)(s':Ó):Prop:=∃b A,Inv X a c A s'/\Vals b us/\Q b A
def SP (X:Cx)(b:Á (Addr×Obj)) (D:Ends)(f:Flow)(s':Ó):Prop:=
 match f with
 |.next=>∃a A,Inv X b a A s'/\D.nx a A
 |.brk=>∃a A,Inv X b a A s'/\D.bk a A
 |.cont=>∃a A,Inv X b a A s'/\D.ct a A
 |.ret u=>∃v a A,Inv X b a A s'/\RelV v u/\D.rt v A
def PE (X:Cx)(e:Expr)(t:TE):Prop:=
 ∀(a:Á (Addr×Obj)) (s:Ó) (b:St) (H:Hp) (Q:VK),Inv X a b H s->t b H Q->Ù s!"b" X.A (Ė e X.env) (EP X a b Q) X.xe s
def PT (X:Cx)(e:Expr)(t:TT):Prop:=
 ∀(a:Á (Addr×Obj)) (s:Ó) (b:St) (H:Hp) (Q:Bool->Hp->Prop),Inv X a b H s->t b H Q->Ù s!"b" X.A (FY e X.env (Ė e X.env)) (TP X a b Q) X.xe s
def PW (X:Cx)(e:Expr)(t:TT):Prop:=
 ∀(b:Z5 Value) (a:Á (Addr×Obj)) (s:Ó) (c:St) (H:Hp) (Q:Bool->Hp->Prop),Inv X a c H s->t c H Q->Ù s!"b" X.A (FY e X.env b) (TP X a c Q) X.xe s
def PW.pt (h:PW X e t):PT X e t:=h _
def PA (X:Cx)(c:Á Expr)(t:TA):Prop:=
 ∀(pos:kR) (a:Á (Addr×Obj)) (s:Ó) (b:St) (H:Hp) (Q:Á V->Hp->Prop),Inv X a b H s->t b H Q->Ù s!"b" X.A (spliced (ģ pos (Ì c X.env))) (AP X a b Q) X.xe s
def PS (X:Cx)(st:Stmt)(t:TS):Prop:=
 ∀(a:Á (Addr×Obj)) (s:Ó) (b:St) (H:Hp) (D:Ends),Inv X a b H s->t D b H->Ù s!"b" X.A (exec st X.env) (SP X a D) X.xe s
def nB (X:Cx)(st:Á Stmt)(t:TS):Prop:=
 ∀(a:Á (Addr×Obj)) (s:Ó) (b:St) (H:Hp) (D:Ends),Inv X a b H s->t D b H->Ù s!"b" X.A (execs st X.env) (SP X a D) X.xe s
def iX {α g:Type}{a b c:α->g->Prop}{P:Prop}(h:∃x y,a x y/\b x y/\c x y)(k:∀x y,a x y->b x y->c x y->P):P:=by
 obtain⟨x,y,d,e,f⟩:=h;exact k x y d e f
def ak (h:Ù M A t Q E s)(b:∀a s,Q a s->B a s):Ù M A t B E s:=aB h b λ_ _ x=>x
section
variable {X:Cx}
def Tb (i:Nat):TE:=λa H Q=>∃v,a[i]?=À (À v)/\Q v H
def tC (v:V):TE:=λ_ H Q=>Q v H
def Sg (j:X.N[i]?=À x)(o:W2 X.env.scope x)(hd:(x == ("__debug__":Str))=false:=by decide) (f:(x == ("__classdict__":Str))=false:=by decide):PE X (.Name x pos) (Tb i):=by
 intro d s p H Q I h;obtain⟨v,e,h⟩:=h;obtain⟨m,n,hl⟩:=I.loc;obtain⟨u,r,l⟩:=hl i x v j e o;have b:EP X d p Q u s:=⟨v,H,I,r,h⟩
 rcases l with⟨hk,k⟩|⟨hk,c,g,a⟩
 ·exact F0 (uh I.ok.kind hk n k b) hd
 ·rcases hk with hk|hk
  ·exact F0 (Tz I.ok.kind hk g a b) hd
  ·exact F0 (wpAny_loadName_free I.ok.kind hk g a b f) hd
def Sa:PE X (.Constant (.int i) j pos) (tC (.int i)):=λ_ _ _ H _ I h=>Ub ⟨.int i,H,I.tok _,⟨_,rfl⟩,h⟩
def VF:PE X (.Constant (.bool b) j pos) (tC (.bl b)):=λ_ _ _ H _ I h=>Constant_bool ⟨.bl b,H,I,rfl,h⟩
def Sd:PE X (.Constant .none j pos) (tC .Ĕ):=λ_ _ _ H _ I h=>Constant_none ⟨.Ĕ,H,I,rfl,h⟩
def Sf:PE X (.Constant (.str x) j pos) (tC (.str x)):=λ_ _ _ H _ I h=>Calls.Constant_str ⟨.str x,H,I.tok _,⟨_,rfl⟩,h⟩
def Gl (X:Cx)(x:Str):Prop:=X.env.kindOf x=À .globalImplicit
def ov (I:Inv X a d H s)(b:Gl X x)(c:X.mg x=À u)(h:Q u s)
  (hd:(x == ("__debug__":Str))=false:=by decide):Ù s!"b" X.A (Ė (.Name x pos) X.env) Q E s:=
 yJ I.ok.kind b (Calls.loadGlobal_global (by rw[I.ok.glob];exact I.mod.glob.keeps I.bk) c h) hd
def pU (I:Inv X a j H s)(d:Gl X x)(e:X.mg x=none)(g:ĥ x=À u)(h:Q u s)
  (f:x≠"__name__":=by decide) (hd:(x == ("__debug__":Str))=false:=by decide):Ù s!"b" X.A (Ė (.Name x pos) X.env) Q E s:=by
 obtain⟨i,b,c⟩:=I.mod.blt;exact yJ I.ok.kind d (Calls.loadGlobal_builtin (by rw[I.ok.glob];exact I.mod.glob.keeps I.bk) e (by rw[I.ok.blt];exact b.keeps I.bk) ((c x f).trans g) h) hd
def zQ (a:Gl X x)(b:X.mg x=À u)(r:RelV v u)(hd:(x == ("__debug__":Str))=false:=by decide):PE X (.Name x pos) (tC v):=
 λ_ _ _ H _ I h=>ov I a b ⟨v,H,I,r,h⟩ hd
def Fg (a:Gl X x)(b:X.mg x=none)(d:ĥ x=À u)(r:RelV v u)(c:x≠"__name__":=by decide)(hd:(x == ("__debug__":Str))=false:=by decide):PE X (.Name x pos) (tC v):=
 λ_ _ _ H _ I h=>pU I a b d ⟨v,H,I,r,h⟩ c hd
variable {a b:Expr}{ta tb:TE}{pos:kR}
def PC (X:Cx)(op:CmpOp)(a b:Expr)(t:TE):Prop:=
 ∀(c:Á (Addr×Obj)) (s:Ó) (f:St) (H:Hp) (Q:VK),Inv X c f H s->t f H Q->
  Ù s!"b" X.A (Ė a X.env) (λv d=>Ù s!"b" X.A (Ė b X.env) (λu e=>Ù s!"b" X.A (Ĭ op v u) (EP X c f Q) X.xe e) X.xe d) X.xe s
def BK (b:Expr)(h:op≠.In)(e:op≠.NotIn):ay op b=false:=by
 have c:(op == CmpOp.In)=false:=by cases op<;>first|rfl|exact absurd rfl h
 have d:(op == CmpOp.NotIn)=false:=by cases op<;>first|rfl|exact absurd rfl e
 cases b<;>simp[ay,c,d]
def tB (t:TE):TT:=λd H Q=>t d H λx A=>∃c,x=.bl c/\Q c A
def R9 (h:PC X op a b t)(d:ay op b=false:=by first|exact BK _ s!"i" s!"i"|rfl):PE X (.Compare a [op] [b] pos) t:=λc s e H Q I hw=>wpAny_Compare1 (h c s e H Q I hw) d
def DO (h:PC X op a b t)(f:ay op b=false:=by first|exact BK _ s!"i" s!"i"|rfl):PT X (.Compare a [op] [b] pos) (tB t):=by
 intro e s l H Q I hw;refine O0 (ak (h e s l H _ I hw) λv m f=>ak f λu n g=>ak g λc o k=>iX k λx A B j i=>?_) f;obtain⟨d,rfl,q⟩:=i;cases j;exact cD ⟨A,B,q⟩
variable {tA tB':TT}{rest:Á Expr}
def Y7 (t u:TT):TT:=λd H Q=>t d H λc A=>if c=true then u d A Q else Q false A
def tOr (t u:TT):TT:=λd H Q=>t d H λc A=>if c=true then Q true A else u d A Q
def Zf (t:TT):TT:=λd H Q=>t d H λc A=>Q (!c) A
def pw_and1 (f:PT X a tA):PW X (.BoolOp .And [a] pos) tA:=by
 intro j d s g H Q I h;refine isTrue_and (ak (f d s g H Q I h) λc i e=>?_);cases c with
 |true=>exact isTrue_and_nil e
 |false=>exact e
def pw_or1 (f:PT X a tA):PW X (.BoolOp .Or [a] pos) tA:=by
 intro j d s g H Q I h;refine isTrue_or (ak (f d s g H Q I h) λc i e=>?_);cases c with
 |false=>exact isTrue_or_nil e
 |true=>exact e
def pw_and (g:PT X a tA)(i:PW X (.BoolOp .And (b::rest) pos) tB'):PW X (.BoolOp .And (a::b::rest) pos) (Y7 tA tB'):=by
 intro k d s f H Q I h;refine isTrue_and (ak (g d s f H _ I h) λc j l=>?_);obtain⟨A,B,e⟩:=l;cases c with
 |true=>exact i k d j f A Q B e
 |false=>exact⟨A,B,e⟩
def pw_or (g:PT X a tA)(i:PW X (.BoolOp .Or (b::rest) pos) tB'):PW X (.BoolOp .Or (a::b::rest) pos) (tOr tA tB'):=by
 intro k d s f H Q I h;refine isTrue_or (ak (g d s f H _ I h) λc j l=>?_);obtain⟨A,B,e⟩:=l;cases c with
 |true=>exact⟨A,B,e⟩
 |false=>exact i k d j f A Q B e
def Sv (e:PT X a tA):PT X (.UnaryOp .Not a pos) (Zf tA):=by
 intro d s f H Q I h;exact isTrue_not (e d s f H (λc A=>Q (!c) A) I h)
def V_ (ta tb:TE):TE:=λd H Q=>ta d H λx A=>∃c,x=.bl c/\if c=true then tb d A Q else Q (.bl false) A
def Zg (ta tb:TE):TE:=λd H Q=>ta d H λx A=>∃c,x=.bl c/\if c=true then Q (.bl true) A else tb d A Q
def Wg (ta:TE):TE:=λd H Q=>ta d H λx A=>∃c,x=.bl c/\Q (.bl (!c)) A
def R7 (g:PE X a ta)(i:PE X (.BoolOp .And (b::rest) pos) tb):PE X (.BoolOp .And (a::b::rest) pos) (V_ ta tb):=by
 intro d s f H Q I h;refine BoolOp_and (ak (g d s f H _ I h) λv k l=>iX l λx A B j e=>?_);obtain⟨c,rfl,e⟩:=e;cases j;refine cD ?_;cases c with
 |true=>exact i d k f A Q B e
 |false=>exact⟨.bl false,A,B,rfl,e⟩
def VJ (g:PE X a ta)(i:PE X (.BoolOp .Or (b::rest) pos) tb):PE X (.BoolOp .Or (a::b::rest) pos) (Zg ta tb):=by
 intro d s f H Q I h;refine BoolOp_or (ak (g d s f H _ I h) λv k l=>iX l λx A B j e=>?_);obtain⟨c,rfl,e⟩:=e;cases j;refine cD ?_;cases c with
 |false=>exact i d k f A Q B e
 |true=>exact⟨.bl true,A,B,rfl,e⟩
def Se (f:PE X a ta):PE X (.UnaryOp .Not a pos) (Wg ta):=by
 intro d s j H Q I h;refine UnaryOp_ (ak (f d s j H _ I h) λv k i=>iX i λx A B g e=>?_);obtain⟨c,rfl,e⟩:=e;cases g;exact not_of (cD ⟨.bl (!c),A,B,rfl,e⟩)
def tIf (t:TT)(ta tb:TE):TE:=λd H Q=>t d H λc A=>if c=true then ta d A Q else tb d A Q
def Kb (l:PT X c tA)(j:PE X a ta)(k:PE X b tb):PE X (.IfExp c a b pos) (tIf tA ta tb):=by
 intro e s f H Q I h;refine wpAny_IfExp (ak (l e s f H _ I h) λd i m=>?_);obtain⟨A,B,g⟩:=m;cases d with
 |true=>exact j e i f A Q B g
 |false=>exact k e i f A Q B g
end
def fQ (K:È)(H:Hp)(a:Addr)(xs:Á V):Prop:=
 Rd H a (.lst xs)∨
  ∃(o:Obj) (b:Ē Value) (n:Nat),K.lookup a=À o/\o.cls=.type "list"/\o.dict=none/\o.data=.seq b n/\b.size<=sizeLine/\Vals xs b.toList
def gz (K:È)(H:Hp)(a:Addr)(xs:Á V):Prop:=
 Rd H a (.tup xs)∨
  ∃(o:Obj) (b:Ē Value) (n:Nat),K.lookup a=À o/\o.cls=.type "tuple"/\o.data=.seq b n/\b.size<=sizeLine/\Vals xs b.toList
noncomputable def X1:Value->Ë V
 |.none=>À .Ĕ
 |.bool b=>À (.bl b)
 |.int i _=>À (.int i)
 |.str x _=>À (.str x)
 |.bytes b _=>À (.CN b)
 |.float b _=>À (.O8 b)
 |.ref a=>À (.ref a)
 |.type n=>À (.ty n)
 |_=>none
def RelV.abs (r:RelV x u):X1 u=À x:=by
 cases x with
 |Ĕ=>cases r;rfl
 |bl _=>cases r;rfl
 |int _=>obtain⟨t,rfl⟩:=r;rfl
 |str _=>obtain⟨t,rfl⟩:=r;rfl
 |CN _=>obtain⟨t,rfl⟩:=r;rfl
 |O8 _=>obtain⟨t,rfl⟩:=r;rfl
 |ref _=>cases r;rfl
 |ty _=>cases r;rfl
theorem RelV.inj (r:RelV x u)(q:RelV y u):x=y:=æ (r.abs.symm.trans q.abs)
theorem Vals.inj:∀{xs ys:Á V}{us:Á Value},Vals xs us->Vals ys us->xs=ys
 |_,_,_,.nil,.nil=>rfl
 |_,_,_,.cons r t,.cons a b=>by rw[r.inj a,Vals.inj t b]
section
variable {X:Cx}{ÿ:Á (Addr×Obj)}{σ:St}{H:Hp}{s:Ó}{a:Addr}{xs ys:Á V}
def fQ.of {K:È}(h:H a=À (.lst xs)):fQ K H a xs:=.inl (.inl h)
def gz.of {K:È}(h:H a=À (.tup xs)):gz K H a xs:=.inl (.inl h)
def Inv.list (I:Inv X ÿ σ H s)(h:fQ X.K H a xs):∃its:Á Value,Vals xs its/\PlainL s.heap a its.toArray/\xs.length<=sizeLine:=by
 rcases h with h|⟨o,its,n,c,b,hd,d,f,r⟩
 ·obtain⟨z,its,n,r,e⟩:=h.ok I.ţ;exact⟨its,r,⟨_,n,e,rfl,rfl,rfl⟩,z⟩
 ·refine⟨its.toList,r,⟨o,n,I.mi a o c,b,hd,by simpa using d⟩,?_⟩;have e:=r.length;simp only[Ļ]at e;lia
def Inv.tuple (I:Inv X ÿ σ H s)(h:gz X.K H a xs):∃its:Á Value,Vals xs its/\Lr s.heap a its.toArray/\xs.length<=sizeLine:=by
 rcases h with h|⟨o,its,n,c,b,d,f,r⟩
 ·obtain⟨z,its,r,p⟩:=h.ok I.ţ;exact⟨its,r,p,z⟩
 ·refine⟨its.toList,r,⟨o,I.mi a o c,b,n,by simpa using d⟩,?_⟩;have e:=r.length;simp only[Ļ]at e;lia
def Inv.vT (I:Inv X ÿ σ H s)(h:fQ X.K H a xs)(h':fQ X.K H a ys):xs=ys:=by
 obtain⟨c,r,⟨o,n,e,_,_,d⟩,_⟩:=I.list h;obtain⟨b,i,⟨k,j,g,_,_,f⟩,_⟩:=I.list h';rw[e]at g;cases g;rw[d]at f;injection f with d1 _
 have:c=b:=by simpa using ğ Cu d1
 subst this;exact r.inj i
def Inv.sT (I:Inv X ÿ σ H s)(h:gz X.K H a xs)(h':gz X.K H a ys):xs=ys:=by
 obtain⟨c,r,⟨o,e,_,n,d⟩,_⟩:=I.tuple h;obtain⟨b,i,⟨k,g,_,j,f⟩,_⟩:=I.tuple h';rw[e]at g;cases g;rw[d]at f;injection f with d1 _
 have:c=b:=by simpa using ğ Cu d1
 subst this;exact r.inj i
end
section
variable {X:Cx}{ÿ:Á (Addr×Obj)}{σ:St}{H:Hp}{s:Ó}{E:Value->Ó->Prop}
end
section
variable {X:Cx}{st:Stmt}{rest:Á Stmt}{t u:TS}{e:Expr}{te:TE}{pos:kR}
def Wf:TS:=λD a H=>D.nx a H
def Zj (t u:TS):TS:=λD a H=>t {D with nx:=u D} a H
def N_:nB X [] Wf:=λ_ _ a H _ I h=>ri ⟨a,H,I,h⟩
def Kt (c:PS X st t)(d:nB X rest u):nB X (st::rest) (Zj t u):=by
 intro a s i H D I h;refine XX (ak (c a s i H {D with nx:=u D} I h) λf g q=>?_);cases f with
 |next=>
  obtain⟨b,A,B,q⟩:=q;exact d a g b A D B q
 |ret v=>exact q
 |brk=>exact q
 |cont=>exact q
def Oa (b:PS X st t):nB X [st] t:=by
 intro a s c H D I h;refine XX (ak (b a s c H D I h) λf d q=>?_);cases f with
 |next=>exact ri q
 |ret v=>exact q
 |brk=>exact q
 |cont=>exact q
def Inv.quiet (I:Inv X a b H s):interactive X.env=false:=by simp[interactive,I.ok.kind]
def Wc (te:TE):TS:=λD a H=>te a H λ_ A=>D.nx a A
def N8 (c:PE X e te)(d:eS e none pos.line X.env=pure false:=by rfl):PS X (.Expr e pos) (Wc te):=by
 intro a s b H D I h;exact wpAny_Expr_any (ak (c a s b H _ I h) λv j g=>iX g λx A B i f=>⟨b,A,B,f⟩) I.quiet d
def Zi (te:TE):TS:=λD a H=>te a H D.rt
def Sr (c:PE X e te):PS X (.Return (À e) pos) (Zi te):=by
 intro a s b H D I h;exact wpAny_Return_some (ak (c a s b H _ I h) λv i g=>iX g λx A B f d=>⟨x,b,A,B,f,d⟩)
def Zc (c:TT)(t u:TS):TS:=λD a H=>c a H λb A=>if b=true then t D a A else u D a A
def VN (m:PT X c n)(k:nB X a t)(l:nB X b u):PS X (.If c a b pos) (Zc n t u):=by
 intro f s g H D I h;refine wpAny_If (ak (m f s g H _ I h) λd j o=>?_);obtain⟨A,B,i⟩:=o;cases d with
 |true=>exact k f j g A D B i
 |false=>exact l f j g A D B i
end
abbrev TG:=V->St->Hp->(St->Hp->Prop)->Prop
abbrev TN:=Á V->St->Hp->(St->Hp->Prop)->Prop
def PG (X:Cx)(a:Expr)(t:TG):Prop:=
 ∀(b:Á (Addr×Obj)) (s:Ó) (d:St) (H:Hp) (v:V) (u:Value) (Q:St->Hp->Prop),Inv X b d H s->RelV v u->t v d H Q->
  Ù s!"b" X.A (k9 a X.env u) (λ_ s'=>∃c B,Inv X b c B s'/\Q c B) X.xe s
def Em (X:Cx)(ts:Á Expr)(t:TN):Prop:=
 ∀(a:Á (Addr×Obj)) (s:Ó) (d:St) (H:Hp) (c:Á V) (us:Á Value) (Q:St->Hp->Prop),Inv X a d H s->Vals c us->t c d H Q->
  Ù s!"b" X.A (oO ((dG ts X.env).map (·.2)) us) (λ_ s'=>∃b B,Inv X a b B s'/\Q b B) X.xe s
abbrev Ug:=V->V->V->Hp->(Hp->Prop)->Prop
def Qc (X:Cx)(t:Ug):Prop:=
 ∀(a:Á (Addr×Obj)) (s:Ó) (d:St) (H:Hp) (o i v:V) (c b u:Value) (Q:Hp->Prop),Inv X a d H s->RelV o c->RelV i b->RelV v u->t o i v H Q->
  Ù s!"b" X.A (L8 c b u) (λ_ s'=>∃B,Inv X a d B s'/\Q B) X.xe s
abbrev W0:=V->V->Hp->VK->Prop
def WZ (X:Cx)(op:Operator)(t:W0):Prop:=
 ∀(a:Á (Addr×Obj)) (s:Ó) (b:St) (H:Hp) (x y:V) (v u:Value) (Q:VK),Inv X a b H s->RelV x v->RelV y u->t x y H Q->
  Ù s!"b" X.A (inplaceOp op v u) (EP X a b Q) X.xe s
section
variable {X:Cx}{pos:kR}
def EM (i:Nat):TG:=λv a H Q=>Q (a.set i (À v)) H
def NU (b:X.N.Nodup)(d:X.N[i]?=À x)(e:Loc X.env.scope x)(c:X.fn x=true∨X.env.scope.names.lookup x=À .local:=by first|exact .inl rfl|exact .inr rfl|assumption):PG X (.Name x pos) (EM i):=by
 intro a s f H v u Q I r h;exact WN (gm I b d e r (λs' A=>⟨_,H,A,h⟩) c)
def Yb:TN:=λa b H Q=>a=[]/\Q b H
def UE (t:TG)(u:TN):TN:=λb c H Q=>∃v r,b=v::r/\t v c H λa A=>u r a A Q
def NV:Em X [] Yb:=by
 intro a s b H c us Q I r h;obtain⟨e,h⟩:=h;subst e;cases r;exact yP ⟨b,H,I,h⟩
def Kh (f:PG X e t)(g:Em X b u)
  (i:(dG (e::b) X.env).map (·.2)=k9 e X.env::(dG b X.env).map (·.2):=by rfl):Em X (e::b) (UE t u):=by
 intro a s n H p us Q I r h;obtain⟨v,o,d,h⟩:=h;subst d;cases r with
 |cons r k=>
  rw[i];refine dH (ak (f a s n H _ _ _ I r h) λ_ l m=>?_);obtain⟨c,A,B,j⟩:=m;exact g a l c A _ _ Q B k j
def Yd (K:È)(n:Nat)(t:TN):TG:=λv b H Q=>∃a xs,v=.ref a/\gz K H a xs/\xs.length=n/\t xs b H Q
def Sh (l:X.calm=true)(h:Em X d t)
  (m:(dG d X.env).length=n:=by rfl) (f:(dG d X.env).findIdx? (·.1)=none:=by rfl):PG X (.Tuple d k pos) (Yd X.K n t):=by
 intro c s g H v u Q I r hw;obtain⟨a,xs,i,p,hl,hw⟩:=hw;subst i;cases r;obtain⟨x,rv,q,y⟩:=I.tuple p;refine assign_Tuple_tuple (I.ok.hd l) q (by simp[m,<-hl,rv.length]) f λj w=>?_;have A:Inv X c g H {s with heap:=j}:=I.kept (t':=s.toks) λb o e=>w b o (ñ (Ô e)) e;exact h c _ g H xs _ Q A (by simpa using rv) hw
def Yc (c b:TE)(t:Ug):TG:=λv a H Q=>c a H λo A=>b a A λi B=>t o i v B λC=>Q a C
def Kg (j:PE X o J)(g:PE X i G)(k:Qc X t)
  (f:∀v,k9 (.Subscript o i pos) X.env v=(do
   let b <-c8 [v] (Ė o X.env);let c <-c8 [v,b] (Ė i X.env)
   jX pos
   c8 [v,b,c] (L8 b c v)
   release [v,b,c] []):=by intro _;rfl):PG X (.Subscript o i pos) (Yc J G t):=by
 intro a s e H v u Q I r h;rw[f];refine Ã (œ (ak (j a s e H _ I h) λb w d=>iX d λx A D p l=>?_));refine Ã (œ (ak (g a w e A _ D l) λc z d=>iX d λy B E q m=>?_));refine Ã (eU (Ã (œ (ak (k a z e B x y v b c u _ E p q r m) λ_ L d=>?_))));obtain⟨C,F,n⟩:=d;exact wpAny_release ⟨e,C,F,n⟩
def Oz (b:TE)(g:TG):TS:=λD a H=>b a H λx A=>g x a A D.nx
def Sl (f:PE X e n)(i:PG X b g)(j:jZ [b] e pos.line X.env=pure false:=by rfl)(hw:jY [b] e X.env=pure none:=by rfl)
  (d:(dG [b] X.env).map (·.2)=[k9 b X.env]:=by rfl):PS X (.Assign [b] e pos) (Oz n g):=by
 intro a s c H D I h;refine wpAny_Assign_stores (ak (f a s c H _ I h) λv m o=>iX o λx A B l k=>?_) j hw;rw[d];exact ak (i a m c A x v _ B l k) λ_ p q=>q
def Ss (c:X.N.Nodup)(g:X.N[i]?=À x)(k:Loc X.env.scope x)(d:PE X e n)(j:eS e (À (.Name x b)) pos.line X.env=pure false:=by rfl) (f:X.fn x=true∨X.env.scope.names.lookup x=À .local:=by first|exact .inl rfl|exact .inr rfl|assumption) :
  PS X (.Assign [.Name x b] e pos) (Oz n (EM i)):=by
 intro a s p H D I h;refine wpAny_Assign_Name (ak (d a s p H _ I h) λv q o=>iX o λy A B m l=>?_) j;exact gm B c g k m (λr C=>⟨_,A,C,l⟩) f
def Zh (i j:Nat)(b:TA):TS:=λD a H=>b a H λc A=>∃v w,c=[v,w]/\D.nx ((a.set i (À v)).set j (À w)) A
def Sq (U:X.calm=true)(t:X.N.Nodup)(Y:X.N[i]?=À x)(Z:X.N[j]?=À y)(l:i≠j)
  (u:X.env.scope.names.lookup x=À .local) (z:X.env.scope.names.lookup y=À .local) (T:PA X [a,b] ta)
  (hw:jY [.Tuple [.Name x F,.Name y G] E pt] (.Tuple [a,b] k2 k) X.env=pure (À [x,y]))
  (hs:jZ [.Tuple [.Name x F,.Name y G] E pt] (.Tuple [a,b] k2 k) pos.line X.env=pure false:=by rfl) :
  PS X (.Assign [.Tuple [.Name x F,.Name y G] E pt] (.Tuple [a,b] k2 k) pos) (Zh i j ta):=by
 intro c s J H D I h;rw[Z_];refine Ã (eU ?_);rw[hs];refine Ã (Ê ?_);rw[Ø s!"i"];refine Ã (Tuple_ (ak (T _ c s J H _ I h) λus d zz=>iX zz λvs B L r1 n=>?_));obtain⟨v,w,Q,n⟩:=n;subst Q;obtain⟨f,g,rfl,rv,r⟩:∃f g,us=[f,g]/\RelV v f/\RelV w g:=by
  cases r1 with
  |cons p q=>
   cases q with
   |cons p' q'=>
    cases q';exact⟨_,_,rfl,p,p'⟩
 refine Ţ ?_ (by show 2<=sizeLine;decide);have M:Inv X c J B {d with heap:=d.heap.push {cls:=.type "tuple",data:=.seq [f,g].toArray}}:=L.kept (t':=d.toks) λb o e=>Ä _ e;rw[hw];refine Ã (Ê ?_);show Ù s!"b" X.A (do rule "assign.swapped-stores";let items <-unpackItems (.ref d.heap.objs.size) 2 none;oO [λv=>gJ X.env y v,λv=>gJ X.env x v] items.reverse;pure Cv) _ _ _;refine Ã (b9 (Ã (WL (items:=#[f,g]) (I.ok.hd U) (ve d.heap _) λh' m=>?_)));have O:=M.kept (h':=h') (t':=d.toks) λb o e=>m b o (ñ (Ô e)) e;show Ù _ _ (oO [λv=>gJ X.env y v,λv=>gJ X.env x v] [g,f] >>= λ_=>pure Cv) _ _ _;refine Ã (dH (m4 (gm O t Z (.inl z) r (λs2 P=>?_) (.inr z))));refine dH (m4 (gm P t Y (.inl u) rv (λs3 C=>yP (Ê ?_)) (.inr u)));rw[rC _ _ (ō l)]at C;exact⟨_,B,C,n⟩
def Y8 (i:Nat)(b:TE)(c:W0):TS:=λD a H=>∃x,a[i]?=À (À x)/\b a H λy A=>c x y A λz B=>D.nx (a.set i (À z)) B
def Sm (L:X.N.Nodup)(p:X.N[i]?=À x)(g:Loc X.env.scope x)(O:PE X e te)(U:WZ X op ti)(P:X.fn x=true∨X.env.scope.names.lookup x=À .local:=by first|exact .inl rfl|exact .inr rfl|assumption) :
  PS X (.AugAssign (.Name x q) op e pos) (Y8 i te ti):=by
 intro a s t H D I h;obtain⟨v,J,h⟩:=h;obtain⟨m,T,hl⟩:=I.loc;have j:W2 X.env.scope x:=by rcases g with k|k;exact .inl k;exact .inr (.inl k)
 obtain⟨u,r,l⟩:=hl i x v p J j;refine wpAny_AugAssign_Name ?_;have o:Ù s!"b" X.A (Ė e X.env) (λw d=>Ù s!"b" X.A (inplaceOp op u w) (λr f=>Ù s!"b" X.A (XS X.env x r) (λ_=>SP X a D .next) X.xe f) X.xe d) X.xe s:=by
  refine ak (O a s t H _ I h) λw s1 n=>iX n λy B E r1 Y=>?_;refine ak (U a s1 t B v y u w _ E r r1 Y) λz s2 n=>iX n λzv C F r2 Z=>?_;exact gm F L p g r2 (λs3 G=>⟨_,C,G,Z⟩) P
 rcases l with⟨hk,Q⟩|⟨hk,c,M,b⟩
 ·exact uh I.ok.kind hk T Q o
 ·rcases hk with hk|hk
  ·exact Tz I.ok.kind hk M b o
  ·rcases g with k|k
   ·have:X.env.scope.names.lookup x=À .free:=hk;rw[k]at this;cases this
   ·have:X.env.scope.names.lookup x=À .free:=hk;rw[k]at this;cases this
def ipI (f:Int->Int->Int):W0:=λx y H Q=>∃i j,x=.int i/\y=.int j/\Q (.int (f i j)) H
def QP:WZ X .Add (ipI λi j=>i+j):=by
 intro a s g H x y v u Q I d e h;obtain⟨i,j,b,c,q⟩:=h;subst b;subst c;obtain⟨t,rfl⟩:=d;obtain⟨f,rfl⟩:=e;exact iadd_int ⟨.int _,H,I.tok _,⟨_,rfl⟩,q⟩
def Tc (c:TT)(tb:TS):TS:=λD a H=>∃W:Nat->St->Hp->Prop,(∃m,W m a H)/\∀m a H,W m a H->
 c a H λb B=>if b=true then ∃N:St->Hp->Prop,(∀d A,N d A->∃e,e<m/\W e d A)/\tb {D with nx:=N,ct:=N,bk:=D.nx} a B else D.nx a B
def Ks (r:AF s!"b" X.A X.env X.xe) (u:PT X c M)(t:nB X body tb):PS X (.While c body [] pos) (Tc M tb):=by
 intro a s T H D I h;obtain⟨W,⟨x,O⟩,g⟩:=h;refine wpAny_While (codeAny_whileLoop (λn s'=>∃i E,Inv X a i E s'/\W n i E) ?_ x ⟨T,H,I,O⟩);rintro n y ⟨e,F,L,P⟩;refine ey r (ak (u a y e F _ L (g n e F P)) λb z Q=>?_);obtain⟨G,J,j⟩:=Q;cases b with
 |true=>
  obtain⟨N,q,j⟩:=j;rw[Ò rfl];refine ey r (ak (t a z e G _ J j) λf U k=>?_);cases f with
  |next=>
   obtain⟨d,B,C,o⟩:=k;obtain⟨m,l,p⟩:=q d B o;exact⟨m,l,d,B,C,p⟩
  |cont=>
   obtain⟨d,B,C,o⟩:=k;obtain⟨m,l,p⟩:=q d B o;exact⟨m,l,d,B,C,p⟩
  |brk=>exact k
  |ret v=>exact k
 |false=>
  rw[Ø à];exact ri ⟨e,G,J,j⟩
end
structure It where
 go:Nat->Hp->Prop
 Lm:Nat->Hp->V->Hp->Prop
 stop:Nat->Hp->Prop
def uk (X:Cx)(a:Á (Addr×Obj)) (H:Hp)(b:Addr):Prop:=
 H b=none/\b≠X.env.locals/\b∉X.fs/\(b∈X.ex∨X.jW.heap.objs.size<=b)/\(∀x c,X.env.cells.lookup x=À c->c≠b)/\∀p∈X.pn++a,p.1≠b
def Inv.Bp (I:Inv X d h H s)(a:s.heap.objs.size<=b)(f:H' b=none):uk X d H' b:=by
 refine⟨f,Ĵ (ð I.lt a),I.YG a,.inr (ĺ I.sz a),λx c e z=>?_,λp g z=>?_⟩
 ·obtain⟨v,q⟩:=I.cell x c e;exact absurd (ð q.lt (by rw[z];exact a)) (ŋ _)
 ·exact absurd (ð (Ô (I.pin p g).1) (by rw[z];exact a)) (ŋ _)
structure Turn (P:ď)(w:ī)(K:È)(tg:Expr)(J:It)(fp:Á Addr)(it:Addr)(tn:Nat->Heap->Prop):Prop where
 mem:it∈fp
 obj:∀i h,tn i h->∀b∈fp,∃o,h.get? b=À o/\∀v,o.data≠.cell v
 keep:∀i h h',tn i h->(∀b∈fp,∀o,h.get? b=À o->h'.get? b=À o)->tn i h'
 item:∀(X:Cx),X.prog=P->X.w=w->X.K=K->X.calm=true->∀(i:Nat) (ÿ:Á (Addr×Obj)) (s:Ó) (σ:St) (H:Hp) (E:Value->Ó->Prop),Inv X ÿ σ H s->(∀b∈fp,uk X ÿ H b)->tn i s.heap->J.go i H->
  Ù (Ý P w) X.A (gw (.ref it)) (λr s1=>∃u,r=À u/\
   Ù (Ý P w) X.A (la tg (.ref it) u) (λ_ s2=>∃x H',Inv X ÿ σ H' s2/\RelV x u/\J.Lm i H x H'/\tn (i+1) s2.heap/\∀b∈fp,H' b=none) E s1) E s
 done:∀(X:Cx),X.prog=P->X.w=w->X.K=K->X.calm=true->∀(i:Nat) (ÿ:Á (Addr×Obj)) (s:Ó) (σ:St) (H:Hp) (E:Value->Ó->Prop),Inv X ÿ σ H s->(∀b∈fp,uk X ÿ H b)->tn i s.heap->J.stop i H->
  Ù (Ý P w) X.A (gw (.ref it)) (λr s1=>r=none/\Inv X ÿ σ H s1) E s
 self:∀(A:Ň) (i:Nat) (s:Ó) (Q:Value->Ó->Prop) (E:Value->Ó->Prop),tn i s.heap->Q (.ref it) s->Ù (Ý P w) A (L7 (.ref it)) Q E s
abbrev TI:=St->Hp->(It->Hp->Prop)->Prop
def PIE (X:Cx)(a:Á (Addr×Obj)) (i:St)(h:Expr)(R:It->Hp->Prop)(c:Value)(f:Ó):Prop:=
 ∃(e:Addr) (d:Á Addr) (g:Nat->Heap->Prop) (J:It) (A:Hp),c=.ref e/\Inv X a i A f/\Turn X.prog X.w X.K h J d e g/\g 0 f.heap/\(∀b∈d,uk X a A b)/\R J A
def PI (X:Cx)(e b:Expr)(f:TI):Prop:=
 ∀(a:Á (Addr×Obj)) (s:Ó) (c:St) (H:Hp) (R:It->Hp->Prop),Inv X a c H s->f c H R->
  Ù s!"b" X.A (Ė b X.env) (λv d=>Ù s!"b" X.A (L7 v) (PIE X a c e R) X.xe d) X.xe s
def ES (d:s.heap.get? e=À o)(b:o.cls=.type n)(hd:o.data=.fields vs)
    (c:["enumerate","zip","dict_itemiterator","dict_reverseitemiterator","odict_iterator","itertools.zip_longest","itertools.pairwise"].contains n=false) (a:Q () s):Ù M A (la f (.ref e) u) Q E s:=by
  unfold la;cases f<;>first
    |exact Ê a
    | (cases u<;>first
        |exact Ê a
        | (refine Ã (wpAny_load d ?_)
           rw[b,hd];show Ù M A (if (["enumerate","zip","dict_itemiterator","dict_reverseitemiterator","odict_iterator","itertools.zip_longest","itertools.pairwise"].contains n&&vs[0]? == À (ź _))=true then _ else _) Q E s;rw[Ø (by intro h;rw[c,Bool.false_and]at h;cases h)];exact Ê a))
def TF (K:È)(a:Addr):It:=
 ⟨λi H=>∃xs x,fQ K H a xs/\xs[i]?=À x,λi H x A=>A=H/\∀xs,fQ K H a xs->xs[i]?=À x,λi H=>∃xs,fQ K H a xs/\xs.length<=i⟩
def O2 (K:È)(a:Addr):It:=
 ⟨λi H=>∃xs x,gz K H a xs/\xs[i]?=À x,λi H x A=>A=H/\∀xs,gz K H a xs->xs[i]?=À x,λi H=>∃xs,gz K H a xs/\xs.length<=i⟩
def TH (lo:Int)(n:Nat):It:=⟨λi _=>i<n,λi H x A=>A=H/\x=.int (lo+i),λi _=>n<=i⟩
def yF {P:ď}{w:ī}{K:È}{tg:Expr}(a it:Addr):Turn P w K tg (TF K a) [it] it (λi h=>h.IsListIter it a i) where
 mem:=by simp
 obj:=λi h st b hb=>by
  have e:b=it:=by simpa using hb
  subst e;obtain⟨o,e,c,d⟩:=st;exact⟨o,e,λv z=>by rw[d]at z;cases z⟩
 keep:=λi h h' st k=>st.at λo e=>k it (by simp) o e
 item:=by
  intro X hP hw hK hc i ÿ s σ H E I hf st hg;subst hP hw hK;obtain⟨xs,x,hq,hx⟩:=hg;obtain⟨its,rv,p,hz⟩:=I.list hq;obtain⟨u,hu,ru⟩:=rv.get hx;obtain⟨f0,f1,f2,f3,f4,f5⟩:=hf it (by simp);refine wpAny_pyNext_list_item st p.isList (x:=u) (by simpa using hu) λh' KN sb=>?_;have I1:Inv X ÿ σ H {s with heap:=h'}:=I.turned (t':=s.toks) (λb o hb e=>(sb.2 b hb).trans e) f0 f1 f3 f4 f5;obtain⟨o,e,c,d⟩:=id KN;exact⟨u,rfl,ES (s:={s with heap:=h'}) e c d s!"i" ⟨x,H,I1,ru,⟨rfl,λys hy=>by rw[I.vT hy hq];exact hx⟩,KN,λb hb=>(hf b hb).1⟩⟩
 done:=by
  intro X hP hw hK hc i ÿ s σ H E I hf st hg;subst hP hw hK;obtain⟨xs,hq,hx⟩:=hg;obtain⟨its,rv,p,hz⟩:=I.list hq;obtain⟨f0,f1,f2,f3,f4,f5⟩:=hf it (by simp);have hl:=rv.length;exact wpAny_pyNext_list_end (I.ok.hd hc) st p.isList (by simp;lia) λh' eb=>⟨rfl,I.turned (t':=s.toks) (λb o hb e=>eb b o hb e) f0 f1 f3 f4 f5⟩
 self:=λ_ _ _ _ _ st h=>wpAny_pyIter_listiter st h
def Ea {P:ď}{w:ī}{K:È}{tg:Expr}(a it:Addr):Turn P w K tg (O2 K a) [it] it (λi h=>h.IsTupleIter it a i) where
 mem:=by simp
 obj:=λi h st b hb=>by
  have e:b=it:=by simpa using hb
  subst e;obtain⟨o,e,c,d⟩:=st;exact⟨o,e,λv z=>by rw[d]at z;cases z⟩
 keep:=λi h h' st k=>st.at λo e=>k it (by simp) o e
 item:=by
  intro X hP hw hK hc i ÿ s σ H E I hf st hg;subst hP hw hK;obtain⟨xs,x,hq,hx⟩:=hg;obtain⟨its,rv,p,hz⟩:=I.tuple hq;obtain⟨u,hu,ru⟩:=rv.get hx;obtain⟨f0,f1,f2,f3,f4,f5⟩:=hf it (by simp);refine wpAny_pyNext_tuple_item st (show s.heap.IsTuple a its.toArray from p) (x:=u) (by simpa using hu) λh' KN sb=>?_;have I1:Inv X ÿ σ H {s with heap:=h'}:=I.turned (t':=s.toks) (λb o hb e=>(sb.2 b hb).trans e) f0 f1 f3 f4 f5;obtain⟨o,e,c,d⟩:=id KN;exact⟨u,rfl,ES (s:={s with heap:=h'}) e c d s!"i" ⟨x,H,I1,ru,⟨rfl,λys hy=>by rw[I.sT hy hq];exact hx⟩,KN,λb hb=>(hf b hb).1⟩⟩
 done:=by
  intro X hP hw hK hc i ÿ s σ H E I hf st hg;subst hP hw hK;obtain⟨xs,hq,hx⟩:=hg;obtain⟨its,rv,p,hz⟩:=I.tuple hq;obtain⟨f0,f1,f2,f3,f4,f5⟩:=hf it (by simp);have hl:=rv.length;exact wpAny_pyNext_tuple_end (I.ok.hd hc) st (show s.heap.IsTuple a its.toArray from p) (by simp;lia) λh' eb=>⟨rfl,I.turned (t':=s.toks) (λb o hb e=>eb b o hb e) f0 f1 f3 f4 f5⟩
 self:=λ_ _ _ _ _ st h=>wpAny_pyIter_tupleiter st h
def D' {P:ď}{w:ī}{K:È}{tg:Expr}(it:Addr)(lo:Int)(n:Nat):Turn P w K tg (TH lo n) [it] it (λi h=>IsRangeIter h it (lo+(i:Nat)*1) ((n:Int)-(i:Nat)) 1) where
 mem:=by simp
 obj:=λi h st b hb=>by
  have e:b=it:=by simpa using hb
  subst e;exact⟨_,st,λv z=>by
   have z':Data.fields _=Data.cell v:=z;cases z'⟩
 keep:=λi h h' st k=>k it (by simp) _ st
 item:=by
  intro X hP hw hK hc i ÿ s σ H E I hf st hg;subst hP hw hK;obtain⟨f0,f1,f2,f3,f4,f5⟩:=hf it (by simp);have W:=Walks.range (prog:=X.prog) (w:=X.w) (I.ok.hd hc) it lo 1 n;refine W.item i s _ _ hg st λv h' tk hv KN kk=>?_;obtain⟨t,rfl⟩:=hv;have I1:Inv X ÿ σ H {s with heap:=h',toks:=tk}:=I.turned (λb o hb e=>kk b o (by simpa using hb) e) f0 f1 f3 f4 f5;refine⟨_,rfl,ES (s:={s with heap:=h',toks:=tk}) (n:="range_iterator") KN rfl rfl s!"i" ⟨.int (lo+i),H,I1,⟨t,?_⟩,⟨rfl,rfl⟩,KN,λb hb=>(hf b hb).1⟩⟩;rw[Hy]
 done:=by
  intro X hP hw hK hc i ÿ s σ H E I hf st hg;subst hP hw hK;obtain⟨f0,f1,f2,f3,f4,f5⟩:=hf it (by simp);exact wpAny_pyNext_range_end (I.ok.hd hc) st (by have:n<=i:=hg;lia) λh' eb=>⟨rfl,I.turned (t':=s.toks) (λb o hb e=>eb b o hb e) f0 f1 f3 f4 f5⟩
 self:=λ_ _ _ _ _ st h=>wpAny_pyIter_rangeiter st h
section
variable {X:Cx}{tg:Expr}
def US (K:È)(tl:TE):TI:=λb H R=>tl b H λx A=>∃a,x=.ref a/\(∃xs,fQ K A a xs)/\R (TF K a) A
def NY {l:Expr}{tl:TE}(hl:PE X l tl):PI X tg l (US X.K tl):=by
 intro c s n H R I h;refine ak (hl c s n H _ I h) λv d m=>iX m λx B A k j=>?_;obtain⟨a,e,⟨xs,g⟩,q⟩:=j;subst e;cases k;obtain⟨i,rv,p,r⟩:=A.list g;refine yX p.isList ?_;refine⟨d.heap.objs.size,[d.heap.objs.size],_,_,B,rfl,A.kept (t':=d.toks) λb o e=>Ä _ e,yF a _,⟨_,Ö _ rfl,rfl,rfl⟩,λb f=>?_,q⟩;have e:b=d.heap.objs.size:=by simpa using f
 subst e;exact A.Bp (Í _) (A.ţ.fresh (Í _))
def Kx {c:Á (Addr×Obj)}{f:St}{H:Hp}{s:Ó}{R:It->Hp->Prop}{E:Value->Ó->Prop}{lo a:Int}{t u v:XP}{d:Nat}(I:Inv X c f H s)(i:-(2^62)<=lo) (j:lo<2^62)(k:-(2^62)<=a) (l:a<2^62)
  (q:R (TH lo (a-lo).toNat) H):Ù s!"b" X.A (L7 (.ref s.heap.objs.size)) (PIE X c f tg R) E {s with heap:=s.heap.push {cls:=.type "range",data:=.fields #[.int lo t,.int a u,.int 1 v]},toks:=d}:=by
 refine wpAny_pyIter_range (IsRange.new ..) (small_one i j k l) ?_;have B:Inv X c f H {s with heap:=s.heap.push {cls:=.type "range",data:=.fields #[.int lo t,.int a u,.int 1 v]},toks:=d}:=I.kept λb o e=>Ä _ e;refine⟨(s.heap.push {cls:=.type "range",data:=.fields #[.int lo t,.int a u,.int 1 v]}).objs.size,[(s.heap.push {cls:=.type "range",data:=.fields #[.int lo t,.int a u,.int 1 v]}).objs.size],_,_,H,rfl,
  B.kept (t':=d) λb o e=>Ä _ e,D' _ lo (a-lo).toNat,?_,λb m=>?_,q⟩
 ·have g:lo+((0:Nat):Int)*1=lo:=by simp
  have h:(((a-lo).toNat:Nat):Int)-((0:Nat):Int)=Xt lo a 1:=by rw[rangeSize_one];split<;>lia
  show IsRangeIter _ _ (lo+((0:Nat):Int)*1) ((((a-lo).toNat:Nat):Int)-((0:Nat):Int)) 1;rw[g,h];exact Ö _ rfl
 ·have e:b=(s.heap.push {cls:=.type "range",data:=.fields #[.int lo t,.int a u,.int 1 v]}).objs.size:=by simpa using m
  subst e;exact B.Bp (Í _) (B.ţ.fresh (Í _))
def UT (a:TA):TI:=λc H R=>a c H λb A=>∃j:Int,b=[.int j]/\-(2^62)<=j/\j<2^62/\R (TH 0 j.toNat) A
def GX {a:Expr}{d:TA}{p pos:kR}(g:Gl X "range")(i:X.mg "range"=none)(f:PA X [a] d)(k:Ì [a] X.env=[(false,Ė a X.env)]:=by rfl):PI X tg (.Call (.Name "range" p) [a] [] pos) (UT d):=by
 intro b s u H R I h;refine Call_ (pU I g i boot_range (cN (ak (f pos b s u H _ I h) λus v o=>iX o λw B A m c=>?_) k rfl));obtain⟨j,e,c,l,q⟩:=c;subst e;cases m with
 |cons r n=>
  cases n;obtain⟨t,rfl⟩:=r;exact call_range_1 (Kx A (by lia) (by lia) c l (by simpa using q))
def Zb (e:TI)(g:TG)(tb:TS):TS:=λD a H=>e a H λJ B=>∃W:Nat->Nat->St->Hp->Prop,(∃m,W 0 m a B)/\∀i m a H,W i m a H->
 (J.stop i H/\D.nx a H)∨(J.go i H/\∃N:St->Hp->Prop,(∀b A,N b A->∃d,d<m/\W (i+1) d b A)/\∀x A,J.Lm i H x A->g x a A λc C=>tb {D with nx:=N,ct:=N,bk:=D.nx} c C)
def wc (a:Á Addr)(h:Heap):Á (Addr×Obj):=a.filterMap λb=>(h.get? b).map λo=>(b,o)
def ml (c:b∈a)(e:h.get? b=À o):(b,o)∈wc a h:=kQ.mpr ⟨b,c,by rw[e];rfl⟩
def GP (f:p∈wc c h):p.1∈c/\h.get? p.1=À p.2:=by
 obtain⟨b,d,e⟩:=kQ.mp f;cases q:h.get? b with
 |none=>rw[q]at e;cases e
 |some o=>
  rw[q]at e;have a:(b,o)=p:=æ e;subst a;exact⟨d,q⟩
def Inv.pinned (I:Inv X a n H s)(k:∀b∈f,uk X a H b)(l:∀b∈f,∃o,s.heap.get? b=À o/\∀v,o.data≠.cell v):Inv X (a++wc f s.heap) n H s:=
 I.Fj λp m=>(ķ.mp m).elim (λz=>I.pin p (Ĩ _ z)) λz=>by
  obtain⟨g,e⟩:=GP z;obtain⟨h,i,j,_⟩:=k p.1 g;obtain⟨o,c,d⟩:=l p.1 g;rw[e]at c;cases c;exact⟨e,h,i,j,d⟩
def Inv.q_ (I:Inv X (a++pl) c H s):Inv X a c H s:=I.Fj λp b=>I.pin p (Ĩ _ (eO _ b))
def So (L:AF s!"b" X.A X.env X.xe) (hc:X.calm=true)(hi:PI X tg q wi)(hg:PG X tg g)(j:nB X body tb)
  (hs:∀x,fb q X.env x=pure x:=by intro _;rfl):PS X (.For tg q body [] pos) (Zb wi g tb):=by
 intro a s σ H D I h;refine wpAny_For (ak (hi a s σ H _ I h) λv s1 h1=>ak h1 λitv s2 h2=>?_) hs;obtain⟨it,F,tn,J,H2,e,I2,T,st2,f2,W,⟨m0,w0⟩,Q⟩:=h2;subst e;have k:∀{E:Hp},(∀b∈F,E b=none)->∀b∈F,uk X a E b:=λhn b j=>⟨hn b j,(f2 b j).2⟩
 refine codeAny_forLoop_any (λn s'=>∃i l E,Inv X a l E s'/\tn i s'.heap/\(∀b∈F,E b=none)/\W i n l E) ?_ m0 ⟨0,σ,H2,I2,st2,λb j=>(f2 b j).1,w0⟩;rintro n s3 ⟨i,p,U,I3,O,G,w3⟩;rcases Q i n p U w3 with⟨P,qn⟩|⟨go,N,hN,step⟩
 ·refine ey L (ak (T.done X rfl rfl rfl hc i a s3 p U X.xe I3 (k G) O P) λr s4 z=>?_);obtain⟨hr,I4⟩:=z;subst hr;exact ri ⟨p,U,I4,qn⟩
 ·refine ey L (ak (T.item X rfl rfl rfl hc i a s3 p U X.xe I3 (k G) O go) λr s4 z=>?_);obtain⟨u,hr,h4⟩:=z;subst hr;refine ey L (ak h4 λ_ s5 z=>?_);obtain⟨x,H5,I5,r5,y5,y,Z⟩:=z;have Y:=I5.pinned (k Z) (T.obj _ _ y);refine ey L (ak (hg _ s5 p H5 x u _ Y r5 (step x H5 y5)) λ_ s6 z=>?_);obtain⟨σ6,H6,I6,q6⟩:=z;refine ey L (ak (j _ s6 σ6 H6 _ I6 q6) λf s7 t=>?_);have again:∀{c:St}{B:Hp},Inv X (a++wc F s5.heap) c B s7->N c B->∃m,m<n/\∃i l E,Inv X a l E s7/\tn i s7.heap/\(∀b∈F,E b=none)/\W i m l E:=λ{c B} C M=>by
   obtain⟨m',hm,w7⟩:=hN c B M;refine⟨m',hm,i+1,c,B,C.q_,T.keep _ _ _ y λb j o e=>(C.pin (b,o) (Ĩ _ (Ĩ _ (ml j e)))).1,λb j=>?_,w7⟩;obtain⟨o,e,d⟩:=T.obj _ _ y b j;exact(C.pin (b,o) (Ĩ _ (Ĩ _ (ml j e)))).2.1
  cases f with
  |next=>obtain⟨c,B,C,M⟩:=t;exact again C M
  |cont=>obtain⟨c,B,C,M⟩:=t;exact again C M
  |brk=>obtain⟨c,B,C,t⟩:=t;exact⟨c,B,C.q_,t⟩
  |ret v=>obtain⟨x7,c,B,C,r7,t⟩:=t;exact⟨x7,c,B,C.q_,r7,t⟩
end
def l0 {K:È}{a:Addr}{xs:Á V}{g:TG}{tb:TS}{D:Ends}{b:St}{H:Hp}(Pv:Nat->St->Hp->Prop)(h0:Pv 0 b H)(hl:∀i b H,i<=xs.length->Pv i b H->gz K H a xs)
  (k:∀i x b H,xs[i]?=À x->Pv i b H->g x b H λd A=>tb {D with nx:=Pv (i+1),ct:=Pv (i+1),bk:=D.nx} d A) (hd:∀b H,Pv xs.length b H->D.nx b H) :
  ∃W:Nat->Nat->St->Hp->Prop,(∃m,W 0 m b H)/\∀i m b H,W i m b H->
   ((O2 K a).stop i H/\D.nx b H)∨((O2 K a).go i H/\∃N:St->Hp->Prop,(∀c H',N c H'->∃h,h<m/\W (i+1) h c H')/\∀x H',(O2 K a).Lm i H x H'->g x b H' λd A=>tb {D with nx:=N,ct:=N,bk:=D.nx} d A):=by
 refine⟨λi m b H=>m=xs.length-i/\i<=xs.length/\Pv i b H,⟨xs.length,by simp,ê _,h0⟩,?_⟩;rintro i m b H ⟨rfl,j,p⟩;have q:=hl i b H j p;by_cases f:i<xs.length
 ·refine .inr ⟨⟨xs,xs[i],q,by simp[f]⟩,Pv (i+1),λc H' l=>⟨xs.length-(i+1),by lia,rfl,f,l⟩,λx H' y=>?_⟩;obtain⟨e,y⟩:=y;subst e;exact k i x b _ (y xs q) p
 ·have e:i=xs.length:=by lia
  subst e;exact .inl ⟨⟨xs,q,Í _⟩,hd b H p⟩
abbrev R2:=V->V->Hp->VK->Prop
def jm (X:Cx)(f:Value->Value->Z5 Value)(r:R2):Prop:=
 ∀(a:Á (Addr×Obj)) (s:Ó) (b:St) (H:Hp) (x y:V) (v u:Value) (Q:VK),Inv X a b H s->RelV x v->RelV y u->r x y H Q->
  Ù s!"b" X.A (f v u) (EP X a b Q) X.xe s
def Ui (X:Cx)(f:Value->Z5 Value)(r:V->Hp->VK->Prop):Prop:=
 ∀(a:Á (Addr×Obj)) (s:Ó) (b:St) (H:Hp) (x:V) (v:Value) (Q:VK),Inv X a b H s->RelV x v->r x H Q->
  Ù s!"b" X.A (f v) (EP X a b Q) X.xe s
def aG (X:Cx)(f:Value)(r:Á V->Hp->VK->Prop):Prop:=
 ∀(a:Á (Addr×Obj)) (s:Ó) (b:St) (H:Hp) (xs:Á V) (us:Á Value) (Q:VK),Inv X a b H s->Vals xs us->r xs H Q->
  Ù s!"b" X.A (call f us) (EP X a b Q) X.xe s
def X0 (X:Cx)(r:V->Hp->(Bool->Hp->Prop)->Prop):Prop:=
 ∀(a:Á (Addr×Obj)) (s:Ó) (b:St) (H:Hp) (x:V) (v:Value) (Q:Bool->Hp->Prop),Inv X a b H s->RelV x v->r x H Q->
  Ù s!"b" X.A (truthy v) (TP X a b Q) X.xe s
def Wh (r:R2)(b tb:TE):TE:=λa H Q=>b a H λx A=>tb a A λy B=>r x y B Q
def tUn (r:V->Hp->VK->Prop)(a:TE):TE:=λb H Q=>a b H λx A=>r x A Q
def rI (C:Int->Int->Prop)(g:Int->Int->V):R2:=λx y H Q=>∃i j,x=.int i/\y=.int j/\C i j/\Q (g i j) H
def PH (g:Int->Int->V):R2:=λx y H Q=>∃i j,x=.int i/\y=.int j/\Q (g i j) H
def rU (g:Int->V):V->Hp->VK->Prop:=λx H Q=>∃i,x=.int i/\Q (g i) H
section
variable {X:Cx}{a b c:Expr}{ta tb tc:TE}{pos:kR}
def Qj (l:PE X a ta)(m:PE X b tb){d:Á (Addr×Obj)}{s:Ó}{e:St}{H:Hp}{R:V->V->Hp->Prop}(I:Inv X d e H s)
  (h:ta e H λx C=>tb e C λy B=>R x y B) {Q:Value->Ó->Prop}{f:Value->Value->Z5 Value}
  (n:∀v u j x y B,Inv X d e B j->RelV x v->RelV y u->R x y B->Ù s!"b" X.A (f v u) Q X.xe j) :
  Ù s!"b" X.A (Ė a X.env) (λv g=>Ù s!"b" X.A (Ė b X.env) (λu i=>Ù s!"b" X.A (f v u) Q X.xe i) X.xe g) X.xe s:=by
 refine ak (l d s e H _ I h) λv t k=>iX k λx C D q o=>?_;refine ak (m d t e C _ D o) λu j k=>iX k λy B E r p=>?_;exact n v u j x y B E q r p
def VI {op:Operator}{r:R2}(g:jm X (bf op) r) (e:PE X a ta)(f:PE X b tb):PE X (.BinOp a op b pos) (Wh r ta tb):=by
 intro d s l H Q I h;exact wpAny_BinOp (Qj e f I h λv u k x y A B i j q=>g d k l A x y v u Q B i j q)
def VL (g:Ui X (WK op) r) (f:PE X a ta):PE X (.UnaryOp op a pos) (tUn r ta):=by
 intro d s e H Q I h;exact UnaryOp_ (ak (f d s e H _ I h) λv k l=>iX l λx A B j i=>g d k e A x v Q B j i)
def Xc {f:Value->Value->Z5 Value}{C:Int->Int->Prop}{g:Int->Int->Int}
  (rule:∀(i j:Int) (t u:XP) (s:Ó) (Q:Value->Ó->Prop) (E:Value->Ó->Prop),C i j->Q (.int (g i j) s.toks) {s with toks:=s.toks+1}->Ù s!"b" X.A (f (.int i t) (.int j u)) Q E s) :
  jm X f (rI C λi j=>.int (g i j)):=by
 intro d s n H x y v u Q I k l h;obtain⟨i,j,rfl,rfl,e,q⟩:=h;obtain⟨t,rfl⟩:=k;obtain⟨m,rfl⟩:=l;exact rule i j t m s _ _ e ⟨.int (g i j),H,I.tok _,⟨_,rfl⟩,q⟩
def Vy {f:Value->Value->Z5 Value}{g:Int->Int->Int}
  (rule:∀(i j:Int) (t u:XP) (s:Ó) (Q:Value->Ó->Prop) (E:Value->Ó->Prop),Q (.int (g i j) s.toks) {s with toks:=s.toks+1}->Ù s!"b" X.A (f (.int i t) (.int j u)) Q E s) :
  jm X f (PH λi j=>.int (g i j)):=by
 intro d s m H x y v u Q I e k h;obtain⟨i,j,rfl,rfl,q⟩:=h;obtain⟨t,rfl⟩:=e;obtain⟨l,rfl⟩:=k;exact rule i j t l s _ _ ⟨.int (g i j),H,I.tok _,⟨_,rfl⟩,q⟩
def NJ {f:Value->Value->Z5 Value}{g:Int->Int->Bool}
  (rule:∀(i j:Int) (t u:XP) (s:Ó) (Q:Value->Ó->Prop) (E:Value->Ó->Prop),Q (.bool (g i j)) s->Ù s!"b" X.A (f (.int i t) (.int j u)) Q E s) :
  jm X f (PH λi j=>.bl (g i j)):=by
 intro d s m H x y v u Q I e k h;obtain⟨i,j,rfl,rfl,q⟩:=h;obtain⟨t,rfl⟩:=e;obtain⟨l,rfl⟩:=k;exact rule i j t l s _ _ ⟨.bl (g i j),H,I,rfl,q⟩
def L9 (i j:Int):Prop:=0<=j/\j<=1000000/\i.natAbs<2^64
def RX:jm X (bf .Add) (PH λi j=>.int (i+j)):=Vy λ_ _ _ _ _ _ _ q=>add_int q
def R5:jm X (bf .Sub) (PH λi j=>.int (i-j)):=Vy λ_ _ _ _ _ _ _ q=>sub_int q
def NM:jm X (bf .Mod) (rI (λ_ j=>j≠0) λi j=>.int (i.fmod j)):=Xc λ_ _ _ _ _ _ _ d q=>mod_int' d q
def R4:jm X (bf .Pow) (rI L9 λi j=>.int (i^j.toNat)):=Xc λ_ _ _ _ _ _ _ d q=>pow_int_small d.1 d.2.1 d.2.2 q
def unI {f:Value->Z5 Value}{g:Int->Int}
  (rule:∀(i:Int) (t:XP) (s:Ó) (Q:Value->Ó->Prop) (E:Value->Ó->Prop),Q (.int (g i) s.toks) {s with toks:=s.toks+1}->Ù s!"b" X.A (f (.int i t)) Q E s) :
  Ui X f (rU λi=>.int (g i)):=by
 intro d s j H x v Q I e h;obtain⟨i,rfl,q⟩:=h;obtain⟨t,rfl⟩:=e;exact rule i t s _ _ ⟨.int (g i),H,I.tok _,⟨_,rfl⟩,q⟩
def Tj:Ui X (WK .USub) (rU λi=>.int (-i)):=unI λ_ _ _ _ _ q=>neg_int q
end
noncomputable def SW:V->V->Bool
 |.Ĕ,.Ĕ=>true|.Ĕ,.int _=>true|.int _,.Ĕ=>true|.Ĕ,.bl _=>true|.bl _,.Ĕ=>true|.Ĕ,.str _=>true|.str _,.Ĕ=>true
 |.int _,.int _=>true|.bl _,.bl _=>true|.str _,.str _=>true|.CN _,.CN _=>true
 |.int _,.str _=>true|.str _,.int _=>true|.bl _,.str _=>true|.str _,.bl _=>true
 |_,_=>false
def rEq:R2:=λx y H Q=>SW x y=true/\Q (.bl (decide (x=y))) H
def rNe:R2:=λx y H Q=>SW x y=true/\Q (.bl (!decide (x=y))) H
def EA:decide (V.int i=V.int j)=(i == j):=by
 rw[jR];simp
def Ir:decide (V.bl i=V.bl j)=(i == j):=by
 rw[jR];simp
def EB:decide (V.str i=V.str j)=(i == j):=by
 rw[jR];simp
def Ez:decide (V.CN i=V.CN j)=(i.toList == j.toList):=by
 rw[jR];cases i;cases j;simp
section
variable {X:Cx}{a b c:Expr}{ta tb tc:TE}{pos:kR}
def ŭ (I:Inv X d g H s)(q:Q (.bl k) H) (e:k=f):EP X d g Q (.bool f) s:=by
 subst e;exact⟨.bl k,H,I,rfl,q⟩
def Vz:jm X (Ĭ .Eq) rEq:=by
 intro k s l H x y v u Q I g d h;obtain⟨f,q⟩:=h;cases x with
 |Ĕ=>
  cases g;cases y with
  |Ĕ=>cases d;exact ZU s!"o"
  |bl j=>cases d;exact ZS s!"o"
  |int j=>obtain⟨e,rfl⟩:=d;exact ZT s!"o"
  |str j=>obtain⟨e,rfl⟩:=d;exact ZV s!"o"
  |_=>exact absurd (show false=true from f) à
 |bl i=>
  cases g;cases y with
  |Ĕ=>cases d;exact ZQ s!"o"
  |bl j=>cases d;exact eq_bool (ŭ I q Ir)
  |str j=>obtain⟨e,rfl⟩:=d;exact XC s!"o"
  |_=>exact absurd (show false=true from f) à
 |int i=>
  obtain⟨t,rfl⟩:=g;cases y with
  |Ĕ=>cases d;exact ZR s!"o"
  |int j=>obtain⟨e,rfl⟩:=d;exact eq_int (ŭ I q EA)
  |str j=>obtain⟨e,rfl⟩:=d;exact XD s!"o"
  |_=>exact absurd (show false=true from f) à
 |str i=>
  obtain⟨t,rfl⟩:=g;cases y with
  |Ĕ=>cases d;exact ZW s!"o"
  |bl j=>cases d;exact XF s!"o"
  |int j=>obtain⟨e,rfl⟩:=d;exact XG s!"o"
  |str j=>obtain⟨e,rfl⟩:=d;exact eq_str (ŭ I q EB)
  |_=>exact absurd (show false=true from f) à
 |CN i=>
  obtain⟨t,rfl⟩:=g;cases y with
  |CN j=>obtain⟨e,rfl⟩:=d;exact PySem.W.eq_bytes (ŭ I q Ez)
  |_=>exact absurd (show false=true from f) à
 |_=>cases y<;>exact absurd (show false=true from f) à
def VE:jm X (Ĭ .NotEq) rNe:=by
 intro k s l H x y v u Q I g d h;obtain⟨f,q⟩:=h;cases x with
 |Ĕ=>
  cases g;cases y with
  |Ĕ=>cases d;exact Z1 s!"o"
  |bl j=>cases d;exact ZZ s!"o"
  |int j=>obtain⟨e,rfl⟩:=d;exact Z0 s!"o"
  |str j=>obtain⟨e,rfl⟩:=d;exact Z2 s!"o"
  |_=>exact absurd (show false=true from f) à
 |bl i=>
  cases g;cases y with
  |Ĕ=>cases d;exact ZX s!"o"
  |bl j=>cases d;exact ne_bool (ŭ I q (ğ not Ir))
  |str j=>obtain⟨e,rfl⟩:=d;exact XH s!"o"
  |_=>exact absurd (show false=true from f) à
 |int i=>
  obtain⟨t,rfl⟩:=g;cases y with
  |Ĕ=>cases d;exact ZY s!"o"
  |int j=>obtain⟨e,rfl⟩:=d;exact ne_int (ŭ I q (ğ not EA))
  |str j=>obtain⟨e,rfl⟩:=d;exact XI s!"o"
  |_=>exact absurd (show false=true from f) à
 |str i=>
  obtain⟨t,rfl⟩:=g;cases y with
  |Ĕ=>cases d;exact Z3 s!"o"
  |bl j=>cases d;exact XJ s!"o"
  |int j=>obtain⟨e,rfl⟩:=d;exact XM s!"o"
  |str j=>obtain⟨e,rfl⟩:=d;exact ne_str (ŭ I q (ğ not EB))
  |_=>exact absurd (show false=true from f) à
 |CN i=>
  obtain⟨t,rfl⟩:=g;cases y with
  |CN j=>obtain⟨e,rfl⟩:=d;exact PySem.W.ne_bytes (ŭ I q (ğ not Ez))
  |_=>exact absurd (show false=true from f) à
 |_=>cases y<;>exact absurd (show false=true from f) à
def VD:jm X (Ĭ .Lt) (PH λi j=>.bl (decide (i<j))):=NJ λ_ _ _ _ _ _ _ q=>lt_int q
def VC:jm X (Ĭ .LtE) (PH λi j=>.bl (decide (i<=j))):=NJ λ_ _ _ _ _ _ _ q=>le_int q
def VB:jm X (Ĭ .Gt) (PH λi j=>.bl (decide (j<i))):=NJ λ_ _ _ _ _ _ _ q=>gt_int q
def VA:jm X (Ĭ .GtE) (PH λi j=>.bl (decide (j<=i))):=NJ λ_ _ _ _ _ _ _ q=>ge_int q
def GV:jm X (Ĭ .Lt) (λx y H Q=>∃i j,x=.str i/\y=.str j/\Q (.bl (decide (i.cps.toList<j.cps.toList))) H):=by
 intro d s k H x y v u Q I e f h;obtain⟨i,j,rfl,rfl,q⟩:=h;obtain⟨t,rfl⟩:=e;obtain⟨g,rfl⟩:=f;exact lt_str (ŭ I q rfl)
def R1:jm X (Ĭ .Is) (λx y H Q=>y=.Ĕ/\Q (.bl (decide (x=.Ĕ))) H):=by
 intro d s g H x y v u Q I e f h;obtain⟨rfl,q⟩:=h;cases f;refine is_none_gen (ŭ I q ?_);cases x<;>first
  |(cases e;rfl)
  |(obtain⟨t,rfl⟩:=e;rfl)
def NP {op:CmpOp}{r:R2}(i:jm X (Ĭ op) r) (e:PE X a ta)(f:PE X b tb)(g:ay op b=false):PE X (.Compare a [op] [b] pos) (Wh r ta tb):=by
 intro d s m H Q I h;exact wpAny_Compare1 (Qj e f I h λv u l x y A B j k q=>i d l m A x y v u Q B j k q) g
def Wm (t:TE):TT:=λd H Q=>t d H λx A=>∃k,x=.bl k/\Q k A
def Ob (m:jm X (Ĭ op) r) (i:PE X a ta)(j:PE X b tb)(l:ay op b=false):PT X (.Compare a [op] [b] pos) (Wm (Wh r ta tb)):=by
 intro d s g H Q I h;refine O0 (ak (i d s g H _ I h) λv G f=>iX f λx A D q n=>ak (j d G g A _ D n) λu J f=>iX f λy B E t o=>
  ak (m d J g B x y v u _ E q t o) λc L ⟨z,C,F,w,k,e,p⟩=>?_) l
 subst e;cases w;exact cD ⟨C,F,p⟩
def Qe (K:È)(x:V)(H:Hp)(k:Bool):Prop:=
 match x with
 |.Ĕ=>k=false
 |.bl b=>k=b
 |.int i=>k=(i != 0)
 |.str y=>y.length<=sizeLine/\k=((y.length:Int) != 0)
 |.CN y=>y.size<=sizeLine/\k=((y.size:Int) != 0)
 |.ref p=>(∃xs,fQ K H p xs/\k=!xs.isEmpty)∨(∃xs,gz K H p xs/\k=!xs.isEmpty)∨∃d,H p=À (.dK d)/\k=!d.isEmpty
 |_=>False
def C_ (r:KV kvs vs):(!vs.isEmpty)=!kvs.isEmpty:=by
 cases r<;>rfl
def vM (r:Vals xs its):(!its.toArray.isEmpty)=!xs.isEmpty:=by
 cases r<;>simp
def nS:(sizeLine:Nat)<2^63:=by rw[İ];decide
def Tg:X0 X (λx H Q=>∃k,Qe X.K x H k/\Q k H):=by
 intro A s E H x v Q I j h;obtain⟨k,e,q⟩:=h;have hl:=nS;have D:sizeLine=16777216:=İ;cases x with
 |Ĕ=>
  cases j;have d:k=false:=e;subst d;exact truthy_none ⟨H,I,q⟩
 |bl b=>
  cases j;have d:k=b:=e;subst d;exact cD ⟨H,I,q⟩
 |int i=>
  obtain⟨t,rfl⟩:=j;have d:k=(i != 0):=e;subst d;exact PySem.P.truthy_int ⟨H,I,q⟩
 |str y=>
  obtain⟨t,rfl⟩:=j;obtain⟨C,d⟩:y.length<=sizeLine/\k=((y.length:Int) != 0):=e;subst d;exact PySem.P.truthy_str (by lia) ⟨H,I.tok _,q⟩
 |CN y=>
  obtain⟨t,rfl⟩:=j;obtain⟨C,d⟩:y.size<=sizeLine/\k=((y.size:Int) != 0):=e;subst d;exact PySem.W.truthy_bytes (by lia) ⟨H,I.tok _,q⟩
 |ref p=>
  cases j;have d:(∃xs,fQ X.K H p xs/\k=!xs.isEmpty)∨(∃xs,gz X.K H p xs/\k=!xs.isEmpty)∨∃f,H p=À (.dK f)/\k=!f.isEmpty:=e;rcases d with⟨xs,l,d⟩|⟨xs,l,d⟩|⟨f,l,d⟩
  ·subst d;obtain⟨o,r,u,z⟩:=I.list l;have g:=r.length;exact wpAny_truthy_list u.isList (by simp only[Ú];lia) ⟨H,I.tok _,by rw[vM r];exact q⟩
  ·subst d;obtain⟨o,r,u,z⟩:=I.tuple l;have g:=r.length;exact truthy_tuple u (by simp only[Ú];lia) ⟨H,I.tok _,by rw[vM r];exact q⟩
  ·subst d;obtain⟨z,B,n,r,m⟩:f.length<=sizeLine/\(p == b8)=false/\∃n,KV f n/\s.heap.DictOf (ſ X.prog X.w) p n:=I.ţ p _ l;have g:f.length=n.length:=qm r;exact wpAny_truthy_dict B m (by lia) ⟨H,I.tok _,by rw[C_ r];exact q⟩
 |_=>exact(show False from e).elim
def Ku (g:PE X a ta)(i:∀d,FY a X.env d=(do let v <-d;jX a.pos;c8 [v] (truthy v))) :
  PT X a (λf H Q=>ta f H λx H'=>∃k,Qe X.K x H' k/\Q k H'):=by
 intro e s f H Q I h;exact isTrue_plain (ak (g e s f H _ I h) λv m n=>iX n λx A B l j=>Tg e m f A x v Q B l j) (i _)
def DI:jm X (bf .Add) (λx y H Q=>∃i j,x=.str i/\y=.str j/\i.length+j.length<=sizeLine/\Q (.str (i++j)) H):=by
 intro d s m H x y v u Q I f g h;obtain⟨i,j,rfl,rfl,e,q⟩:=h;obtain⟨t,rfl⟩:=f;obtain⟨k,rfl⟩:=g;exact add_str (λk l=>⟨.str (i++j),H,I.tok _,⟨_,rfl⟩,q⟩) e
def vals1 (r:Vals [x] us):∃u,us=[u]/\RelV x u:=by
 cases r with
 |cons d e=>cases e;exact⟨_,rfl,d⟩
def vals2 (r:Vals [x,y] us):∃u d,us=[u,d]/\RelV x u/\RelV y d:=by
 cases r with
 |cons e f=>
  cases f with
  |cons g h=>cases h;exact⟨_,_,rfl,e,g⟩
def H_:aG X (.builtin "abs") (λxs H Q=>∃i,xs=[.int i]/\Q (.int (if i<0 then -i else i)) H):=by
 intro d s f H xs us Q I r h;obtain⟨i,rfl,q⟩:=h;obtain⟨u,rfl,t,rfl⟩:=vals1 r;exact call_abs_int λu e=>⟨.int (if i<0 then -i else i),H,I.tok _,⟨_,rfl⟩,q⟩
def F8 (f:X.calm=true):aG X (.builtin "min") (λxs H Q=>∃i j,xs=[.int i,.int j]/\Q (.int (if j<i then j else i)) H):=by
 intro e s o H xs us Q I r h;obtain⟨i,j,rfl,q⟩:=h;obtain⟨u,n,rfl,⟨t,rfl⟩,⟨l,rfl⟩⟩:=vals2 r;refine min_two_ints (I.ok.hd f) λg m k=>⟨_,H,I.kept k,?_,q⟩
 by_cases d:j<i
 ·rw[Ò d,Ò d];exact⟨_,rfl⟩
 ·rw[Ø d,Ø d];exact⟨_,rfl⟩
def xZ:aG X (.type "int") (λxs H Q=>(∃i,xs=[.int i]/\Q (.int i) H)∨∃k,xs=[.bl k]/\Q (.int (if k then 1 else 0)) H):=by
 intro d s f H xs us Q I r h;rcases h with⟨i,rfl,q⟩|⟨k,rfl,q⟩
 ·obtain⟨u,rfl,t,rfl⟩:=vals1 r;exact call_int_int ⟨.int i,H,I,⟨_,rfl⟩,q⟩
 ·obtain⟨u,rfl,e⟩:=vals1 r;cases e;exact call_int_bool ⟨.int (if k then 1 else 0),H,I.tok _,⟨_,rfl⟩,q⟩
end
structure CH (h:Heap)(x dx C:Addr)(mA:Str->Ë Value):Prop where
 obj:h.get? x=À (bO C dx)
 ns:h.Ns1 dx mA
 ne:dx≠x
def GF {h:Heap}{c:Addr}{f:Str->Ë Value}(n:h.Ns1 c f):∃od,h.get? c=À od/\∀name,oM name od=À (f name):=by
 obtain⟨o,d,m,k,hd,i,_,j⟩:=n;refine⟨o,k,λname=>?_⟩;have e:=j name;unfold nsFind findBy at e;rw[<-Array.find?_toList]at e;unfold oM;rw[hd];dsimp only;split
 ·rename_i y q;rw[q]at e;exact ğ À e
 ·rename_i q;rw[q]at e;have a:d.toList.any (·.refKey)=false:=by
   rw[LU];intro y l;obtain⟨z,t,b⟩:=i y (ph.mp l);simp[DictEntry.refKey,b]
  have g:¬d.toList.any (·.refKey)=true:=by rw[a];exact à
  rw[Ø g];exact ğ À e
def CH.look (I:CH h x a C c):∃od,PySem.W.InstAt h x (bO C a) C (À od)/\∀name,oM name od=À (c name):=
 let ⟨od,b,hl⟩:=GF I.ns
 ⟨od,⟨I.obj,rfl,rfl,b⟩,hl⟩
section
variable {prog:ď}{w:ī}{A:Ň}{E:Value->Ó->Prop}{s:Ó}{K:È}{x dx C f:Addr}{mA:Str->Ë Value}{name:Str}{v:Value}
def get_map (X:K.In s.heap)(I:CH s.heap x dx C mA)(d:hJ K C name=true)(e:kS K C=true)
  (c:Ą K (.ref C) name=À none) (g:mA name=À v) (a:HC v=true) (h:Q v {s with toks:=s.toks+1}) :
  Ù s!"j" A (getAttr (.ref x) name b) Q E s:=by
 obtain⟨i,J,hl⟩:=I.look;exact PySem.W.get_value X J (pz d).1 (PySem.W.findObj_own e c rfl (by rw[hl,g])) a h
def IW (X:K.In s.heap)(I:CH s.heap x dx C mA)(a:hJ K C name=true)
  (b:Ą K (.ref C) name=À (À (.ref f))) (c:mX K (.ref f)=true) (d:mA name=none) (h:Q (.ref f,[.ref x]) s) :
  Ù s!"j" A (pB (.ref x) name pl) Q E s:=by
 obtain⟨e,J,hl⟩:=I.look;exact PySem.W.method_fn X J (pz a).1 (pz a).2 b (mZ.mp c) (by show(oM name e).map (·.isSome)=À false;rw[hl,d];rfl) h
def Oo (X:K.In s.heap)(I:CH s.heap x dx C mA)
  (p:Ą K (.ref C) "__setattr__"=À (À (.builtin "object.__setattr__"))) (o:rH K C=true) (q:vj K C name=À none) (n:kS K C=true)
  (hw:Cz mA ns) (hsz:ns.length<=sizeLine)
  (h:∀h',CH h' x dx C (λy=>if y=name then À v else mA y)->e8 dx s.heap h'->Q () {s with heap:=h',toks:=s.toks+2}) :
  Ù s!"j" A (setAttr (.ref x) name v) Q E s:=by
 obtain⟨B,J,hl⟩:=I.look;refine PySem.W.set_plain X J p (PySem.W.osa_open (s:={s with toks:=s.toks+1}) (r:=none) X J o q λb=>?_);obtain⟨u,m,g⟩:=PySem.W.any_some n;have t:s.heap.get? x=À ⟨.ref C,À dx,.plain,#[]⟩:=I.obj;refine Ã (Ê (Ã (Ã (wpAny_loadPart t (Ã (XN (s:={s with toks:=s.toks+1}) (PySem.W.looks_clsIn X m) ?_))))));rw[g];refine Ê (a:=À dx) (Ã (Ê (Ã ?_)));refine wpAny_nsSet1 (s:={s with toks:=s.toks+1}) I.ns λh' c d=>?_;obtain⟨z,l,k,j,i,e⟩:=c.count (Z4 name v hw);refine Ã (wpAny_lookBehind j (by rw[i];exact pastItsLine_dict (ĺ e (by rw[ć];lia))) ?_);exact Ê (h _ ⟨(d.2 _ (ō I.ne)).trans I.obj,c,I.ne⟩ d)
def Jq (X:K.In s.heap)(i:vi K C=true)
  (e:Ą K (.ref C) "__init__"=À (À (.ref f))) (c:xm K (.ref f)=À (.type "function"))
  (h:e_ s!"j" (A.under (.builtin "type.__call__" ⟨.ref C::vs,b⟩)) (.call (.ref f) ⟨.ref s!"n"::vs,b⟩) (PySem.W.InitBack s!"n" R)
   {s with heap:=(s.heap.push ag).push (bO C s.heap.objs.size)}) :
  e_ s!"j" A (.call (.ref C) ⟨vs,b⟩) R s:=by
 obtain⟨j,g,d,t,os⟩:=s;exact PySem.W.make_core (PySem.W.makes_of X i) (PySem.W.looks_findIn X e) (λa=>PySem.W.bind_fn X a c) (.inl rfl) h
end
noncomputable def mr (f:Str)(v:V):Á (Str×V)->Á (Str×V)
 |[]=>[(f,v)]
 |(g,x)::r=>if g=f then (g,v)::r else (g,x)::mr f v r
theorem tX (f g:Str)(v:V):∀fs:Á (Str×V),(mr f v fs).lookup g=if g=f then À v else fs.lookup g
 |[]=>by
  show eL g [(f,v)]=_;by_cases h:g=f
  ·have a:(g == f)=true:=mZ.mpr h;simp only[eL,a,Ò h]
  ·have a:(g == f)=false:=Ŝ.mpr h;simp only[eL,a,Ø h]
 |(k,x)::r=>by
  have c:=tX f g v r;rw[show mr f v ((k,x)::r)=(if k=f then (k,v)::r else (k,x)::mr f v r)from rfl];by_cases b:k=f
  ·rw[Ò b];by_cases h:g=k
   ·have a:(g == k)=true:=mZ.mpr h;simp only[eL,a,Ò (h.trans b)]
   ·have a:(g == k)=false:=Ŝ.mpr h;simp only[eL,a,Ø (λe:g=f=>h (e.trans b.symm))]
  ·rw[Ø b];by_cases h:g=k
   ·have a:(g == k)=true:=mZ.mpr h;simp only[eL,a,Ø (λe:g=f=>b (h.symm.trans e))]
   ·have a:(g == k)=false:=Ŝ.mpr h;simp only[eL,a];exact c
theorem sg (f:Str)(v:V):∀fs:Á (Str×V),f∈(mr f v fs).map (·.1)/\∀g,g∈fs.map (·.1)->g∈(mr f v fs).map (·.1)
 |[]=>⟨by simp[mr],λg h=>by simp at h⟩
 |(k,x)::r=>by
  obtain⟨b,c⟩:=sg f v r;rw[show mr f v ((k,x)::r)=(if k=f then (k,v)::r else (k,x)::mr f v r)from rfl];by_cases a:k=f
  ·rw[Ò a];subst a;exact⟨by simp,λg h=>by simpa using h⟩
  ·rw[Ø a];refine⟨?_,λg h=>?_⟩
   ·rw[Î];exact Ć _ b
   ·rw[Î]at h⊢;rcases Þ.mp h with e|e
    ·exact Þ.mpr (.inl e)
    ·exact Ć _ (c g e)
theorem tV (f:Str)(v:V):∀fs:Á (Str×V),(mr f v fs).length<=fs.length+1
 |[]=>by simp[mr]
 |(k,x)::r=>by
  have b:=tV f v r;rw[show mr f v ((k,x)::r)=(if k=f then (k,v)::r else (k,x)::mr f v r)from rfl];by_cases a:k=f
  ·rw[Ò a,ć,ć];lia
  ·rw[Ø a,ć,ć];lia
def m7.some_of (r:m7 (À v) o):∃u,o=À u/\RelV v u:=by
 cases o with
 |none=>exact(show False from r).elim
 |some u=>exact⟨u,rfl,r⟩
def m7.none_of (r:m7 none o):o=none:=by
 cases o with
 |none=>rfl
 |some u=>exact(show False from r).elim
def Gp (r:RelV v u):HC u=true:=by
 cases v with
 |Ĕ=>cases (show u=ó from r);rfl
 |bl b=>cases (show u=fN b from r);rfl
 |int i=>obtain⟨t,e⟩:=(show ∃t,u=mY i t from r);cases e;rfl
 |str x=>obtain⟨t,e⟩:=(show ∃t,u=vl x t from r);cases e;rfl
 |CN b=>obtain⟨t,e⟩:=(show ∃t,u=WG b t from r);cases e;rfl
 |O8 b=>obtain⟨t,e⟩:=(show ∃t,u=FQ b t from r);cases e;rfl
 |ref a=>cases (show u=Ñ a from r);rfl
 |ty n=>cases (show u=cg n from r);rfl
section
variable {P:ď}{w:ī}{H H':Hp}{h h':Heap}{a C dx:Addr}{fs fs':Á (Str×V)}
def uX (c:m5 P w H h)(e:H a=À (.ins C dx fs)):∃b,CH h a dx C b/\(∀f,m7 (fs.lookup f) (b f))/\Cz b (fs.map (·.1))/\fs.length<=1000/\H dx=À (.own a):=by
 obtain⟨d,z,g,i,b,n,r,q⟩:=(show ş P w H h a (.ins C dx fs)from c a _ e)
 exact⟨b,⟨i,n,g⟩,r,q,z,d⟩
end
structure AY (K:È)(C:Addr):Prop where
 pg:hJ K C kU=true
 hd:kS K C=true
 po:rH K C=true
 sa:Ą K (.ref C) "__setattr__"=À (À (.builtin "object.__setattr__"))
def AY.get {K:È}{C:Addr}(c:AY K C)(f:Str):hJ K C f=true:=c.pg
def ku (K:È)(C:Addr)(f:Str):Prop:=Ą K (.ref C) f=À none
def ku.Wn {K:È}{C:Addr}{f:Str}(n:ku K C f):vj K C f=À none:=by
 unfold vj;rw[show Ą K (.ref C) f=À none from n];rfl
structure Meth (K:È)(C:Addr)(m:Str)(f:Addr):Prop where
 at_:Ą K (.ref C) m=À (À (.ref f))
 fn:mX K (.ref f)=true
 kp:ĸ K (.ref f)=true
section
variable {X:Cx}{ÿ:Á (Addr×Obj)}{σ:St}{H:Hp}{s:Ó}{a C dx:Addr}{fs:Á (Str×V)}{f:Str}{v:V}{A:Ň}{E:Value->Ó->Prop}
def C5 (I:Inv X ÿ σ H s)(e:H a=À (.ins C dx fs)) (c:AY X.K C)(n:ku X.K C f)(l:fs.lookup f=À v)
  (h:∀u s',Inv X ÿ σ H s'->RelV v u->Q u s'):Ù s!"b" A (getAttr (.ref a) f b) Q E s:=by
 obtain⟨g,O,r,_,_,_⟩:=uX I.ţ e;obtain⟨u,hu,d⟩:=m7.some_of (v:=v) (o:=g f) (by rw[<-l];exact r f);exact get_map I.mi O (c.get f) c.hd n hu (Gp d) (h u _ (I.tok _) d)
def pP (I:Inv X ÿ σ H s)(e:H a=À (.ins C dx fs)) (c:AY X.K C)(k:Meth X.K C m g)(l:fs.lookup m=none)
  (h:Q (.ref g,[.ref a]) s):Ù s!"b" A (pB (.ref a) m pl) Q E s:=by
 obtain⟨d,O,r,_,_,_⟩:=uX I.ţ e;have b:d m=none:=m7.none_of (by rw[<-l];exact r m);exact IW I.mi O (c.get m) k.at_ k.fn b h
def DT (I:Inv X ÿ σ H s)(e:H a=À (.ins C dx fs)) (c:AY X.K C)(n:ku X.K C f)(hl:fs.length<1000)(D:RelV y u)
  (h:∀s',Inv X ÿ σ (upd H a (.ins C dx (mr f y fs))) s'->Q () s'):Ù s!"b" A (setAttr (.ref a) f u) Q E s:=by
 obtain⟨i,O,r,j,_,d⟩:=uX I.ţ e;have t:(fs.map (·.1)).length<=sizeLine:=by rw[É,İ];lia
 refine Oo I.mi O c.sa c.po n.Wn c.hd j t λl B F=>h _ ?_;have hd:∃o,l.get? dx=À o:=let ⟨o,_,_,k,_⟩:=B.ns;⟨o,k⟩;refine I.write (x:=a) (e:=dx) (by rw[e];exact bD) (.inr d) (λb q m z=>(F.2 b m).trans z) hd ?_;refine⟨by rw[ä O.ne];exact d,?_,O.ne,B.obj,_,B.ns,λg=>?_,λg p=>?_⟩
 ·have:=tV f y fs;lia
 ·show m7 ((mr f y fs).lookup g) (if g=f then À u else i g);rw[tX];by_cases q:g=f
  ·rw[Ò q,Ò q];exact D
  ·rw[Ø q,Ø q];exact r g
 ·by_cases q:g=f
  ·rw[q];exact(sg f y fs).1
  ·refine(sg f y fs).2 g (j g λz=>p ?_);show(if g=f then À u else i g)=none;rw[Ø q];exact z
def Inv.made (I:Inv X ÿ σ H s):Inv X ÿ σ (upd (upd H s.heap.objs.size (.own s!"n")) s!"n" (.ins C s.heap.objs.size []))
  {s with heap:=(s.heap.push ag).push (bO C s.heap.objs.size)}:=by
 have c:(s.heap.push ag).get? s.heap.objs.size=À ag:=Ö s.heap rfl;have g:((s.heap.push ag).push (bO C s.heap.objs.size)).get? s!"n"=À (bO C s.heap.objs.size):=by
  have:=Ö (s.heap.push ag) (o:=bO C s.heap.objs.size) rfl;rwa [Ł]at this
 have h:(s.heap.push ag).Ns s.heap.objs.size (λ_=>none):=⟨ag,#[],_,c,rfl,(λe i=>absurd i (by simp)),λ_=>rfl⟩
 have B:=I.laid (a:=s.heap.objs.size) (o:=.own s!"n") (h':=s.heap.push ag) (t':=s.toks) (λb u q=>Ä _ q) (Í _) ⟨_,c⟩;refine B.laid (a:=s.heap.objs.size+1) (o:=.ins C s.heap.objs.size []) (t':=s.toks) (λb u q=>Ä _ q) (kn (Ł _ _)) ?_;have d:s.heap.objs.size≠s.heap.objs.size+1:=ñ (cM _);refine⟨by rw[ä d,ă],ê _,d,g,λ_=>none,(Heap.Ns1.of_empty h).at λo q=>Ä _ q,λ_=>bD,λy j=>absurd rfl j⟩
def Me (c:a8 e f env (Ė e env)=Ė e env)
  (h:Ù s!"j" A (Ė e env) (λo b=>Ù s!"j" A (getAttr o f true) Q E b) E s):Ù s!"j" A (Ė (.Attribute e f pos) env) Q E s:=
 Attribute_any_ h (by rw[arm_eval_Attribute,c])
end
def Za (K:È)(d:TE)(f:Str):TE:=λe H Q=>d e H λx A=>∃a C c b v,x=.ref a/\A a=À (.ins C c b)/\AY K C/\ku K C f/\b.lookup f=À v/\Q v A
def Y2 (K:È)(e g:TE)(f:Str):TS:=λD c H=>g c H λy B=>e c B λx A=>∃a C d b,x=.ref a/\A a=À (.ins C d b)/\AY K C/\ku K C f/\b.length<1000/\
 D.nx c (upd A a (.ins C d (mr f y b)))
section
variable {X:Cx}{o e value:Expr}{f:Str}{pos pos' OG:kR}{ta tv:TE}
def R_ (j:PE X e ta)(i:a8 e f X.env (Ė e X.env)=Ė e X.env):PE X (.Attribute e f pos) (Za X.K ta f):=by
 intro b s r H Q I h;refine Me i (ak (j b s r H _ I h) λu y p=>?_);obtain⟨x,A,B,m,a,C,t,w,v,g,d,c,n,l,q⟩:=p;subst g;obtain rfl:u=Ñ a:=m;exact C5 B d c n l λE z D k=>⟨v,A,D,k,q⟩
def Sn (j:PE X o ta)(m:PE X value tv)(k:eS value (À (.Attribute o f pos')) pos.line X.env=pure false):PS X (.Assign [.Attribute o f pos'] value pos) (Y2 X.K ta tv f):=by
 intro b s d H D I h;refine plainObj_wpAny_Assign_Attribute (ak (m b s d H _ I h) λu w z=>iX z λy A B v q=>ak (j b w d A _ B q) λp M ⟨x,G,E,t,a,C,J,L,i,g,c,n,l,r⟩=>?_) k;subst i;obtain rfl:p=Ñ a:=t;exact DT E g c n l v λN F=>⟨d,_,F,r⟩
def Pu (t:PE X e z)(I:Inv X d i H s)
  (h:z i H λx B=>∃a C j fs g,x=.ref a/\B a=À (.ins C j fs)/\AY X.K C/\Meth X.K C m g/\fs.lookup m=none/\
   ∀s1,Inv X d i B s1->Ù s!"b" X.A (yR pos (.ref g) [.ref a] (ģ pos (Ì args X.env)) (gI pos (bP [] X.env))) Q X.xe s1)
  (v:Ė (.Call (.Attribute e m b) args [] pos) X.env=(do
   let n <-Ė e X.env
   jX b.atName
   let (f,first) <-c8 [n] (pB n m pl)
   yR pos f first (ģ pos (Ì args X.env)) (gI pos (bP [] X.env)))) :
  Ù s!"b" X.A (Ė (.Call (.Attribute e m b) args [] pos) X.env) Q X.xe s:=by
 refine nz (pl:=pl) (ak (t d s i H _ I h) λu s1 ⟨x,B,D,y,a,C,j,fs,g,r,p,c,k,l,q⟩=>?_) v;subst r;obtain rfl:u=Ñ a:=y;exact pP D p c k l (q s1 D)
end
section
variable {X:Cx}{ÿ:Á (Addr×Obj)}{σ:St}{H:Hp}{s:Ó}{A:Ň}{E:Value->Ó->Prop}{Q:Value->Ó->Prop}{c:Value}{b:Bool}
inductive uo (K:È) (H:Hp):V->Value->Prop where
 |Ĕ:uo K H .Ĕ (.type "NoneType")
 |bl (x:Bool):uo K H (.bl x) (.type "bool")
 |int (i:Int):uo K H (.int i) (.type "int")
 |str (x:Str):uo K H (.str x) (.type "str")
 |O8 (x:UInt64):uo K H (.O8 x) (.type "float")
 |lst {a:Addr}{xs:Á V}(e:H a=À (.lst xs)):uo K H (.ref a) (.type "list")
 |iY {a:Addr}{o:Obj}{xs:Á V}(e:H a=À (.iY o (.lst xs))):uo K H (.ref a) (.type "list")
 |tup {a:Addr}{xs:Á V}(e:H a=À (.tup xs)):uo K H (.ref a) (.type "tuple")
 |dK {a:Addr}{kvs:Á (Key×V)}(e:H a=À (.dK kvs)):uo K H (.ref a) (.type "dict")
 |dT {a:Addr}{kvs:Á (Á Key×V)}(e:H a=À (.dT kvs)):uo K H (.ref a) (.type "dict")
 |ins {a C dx:Addr}{fs:Á (Str×V)}(e:H a=À (.ins C dx fs)) (cl:AY K C) (ha:Ą K (.ref C) "__class__"=À (À s!"s"))
   (hn:gv K s!"s" "__get__"=À (À (.builtin "getset_descriptor.__get__"))) (htk:i9 K s!"s"=À true)
   (hm:ql K C (.type "object")=À true):uo K H (.ref a) (.ref C)
def oq (I:Inv X ÿ σ H s)(f:RelV x u)(L:uo X.K H x t)(e:oH X.K t c=À b)(h:∀G,Q (.bool b) {s with toks:=G}) :
  Ù s!"b" A (call (.builtin "isinstance") [u,c]) Q E s:=by
 cases L with
 |Ĕ=>cases (show u=ó from f);exact ľ PySem.W.kitx_none I.mi bD e s!"q" h
 |bl y=>cases (show u=fN y from f);exact ľ PySem.W.kitx_bool I.mi bD e s!"q" h
 |int i=>obtain⟨t,q⟩:=(show ∃t,u=mY i t from f);cases q;exact ľ PySem.W.kitx_int I.mi bD e s!"q" h
 |str y=>obtain⟨t,q⟩:=(show ∃t,u=vl y t from f);cases q;exact ľ PySem.W.kitx_str I.mi bD e s!"q" h
 |O8 y=>obtain⟨t,q⟩:=(show ∃t,u=FQ y t from f);cases q;exact ľ PySem.W.kitx_float I.mi bD e s!"q" h
 |@lst a xs d=>
  cases (show u=Ñ a from f);obtain⟨_,_,n,_,g⟩:=(show ş X.prog X.w H s.heap a (.lst xs)from I.ţ a _ d)
  exact ľ rF I.mi ⟨_,g,rfl⟩ e s!"q" h
 |@iY a F xs d=>
  cases (show u=Ñ a from f);obtain⟨_,_,_,n,_,g⟩:=(show ş X.prog X.w H s.heap a (.iY F (.lst xs))from I.ţ a _ d)
  exact ľ rF I.mi ⟨_,g,rfl⟩ e s!"q" h
 |@tup a xs d=>
  cases (show u=Ñ a from f);obtain⟨_,_,_,p⟩:=(show ş X.prog X.w H s.heap a (.tup xs)from I.ţ a _ d)
  obtain⟨o,g,k,_⟩:=p;exact ľ FL I.mi ⟨o,g,k⟩ e s!"q" h
 |@dK a j d=>
  cases (show u=Ñ a from f);obtain⟨_,_,U,_,p⟩:=(show ş X.prog X.w H s.heap a (.dK j)from I.ţ a _ d)
  obtain⟨o,r,m,g,k,_⟩:=p;exact ľ rE I.mi ⟨o,g,k.1⟩ e s!"q" h
 |@dT a j d=>
  cases (show u=Ñ a from f);obtain⟨_,_,xs,_,o,r,m,g,k,_⟩:=(show ş X.prog X.w H s.heap a (.dT j)from I.ţ a _ d)
  exact ľ rE I.mi ⟨o,g,k.1⟩ e s!"q" h
 |@ins a C M N d cl v D l B=>
  cases (show u=Ñ a from f);obtain⟨P,O,_⟩:=uX I.ţ d;obtain⟨T,J,_⟩:=O.look;exact ľ (PySem.W.kitx_own (cl.get _) cl.hd v D l B) I.mi J e s!"q" h
end
structure cP (k:Nat)(A:Ň):Prop where
 hd:A.handled=none
 gd:A.guards=À []
 dp:A.depth+3*k+5<recursionLimit
 un:A.units+16*k+200<cLine
def cP.mono (r:cP k A)(h:j<=k):cP j A:=⟨r.hd,r.gd,by have:=r.dp;lia,by have:=r.un;lia⟩
theorem cP.deeper (r:cP (k+1) A) (env:Hl):cP k (A.deeper env):=
 ⟨r.hd,r.gd,by have:=r.dp;show A.depth+1+3*k+5<_;lia,by have:=r.un;show A.units+3+16*k+200<_;lia⟩
def Dq {A:Ň}{C:Addr}{us:Á Value}{a:Á (Str×Value)}:(A.under (.builtin "type.__call__" ⟨.ref C::us,a⟩)).depth=A.depth+1:=by
 first|rfl|simp[sX,Code.weight,Code.isCreation,Wx,Code.isCaller,Xx,Ef,guardIds]
def Du {A:Ň}{C:Addr}{us:Á Value}{a:Á (Str×Value)}:(A.under (.builtin "type.__call__" ⟨.ref C::us,a⟩)).units=A.units+1:=by
 first|rfl|simp[sX,Code.cUnits,Xx,Ef]
def BG {A:Ň}{C:Addr}{us:Á Value}{a:Á (Str×Value)}:(A.under (.builtin "type.__call__" ⟨.ref C::us,a⟩)).guards=A.guards:=by
 first|rfl|simp[sX,Code.guards,pushGuards,Wx,guardIds]
def cP.make {k:Nat}{A:Ň}(r:cP (k+1) A) (C:Addr)(us:Á Value)(a:Á (Str×Value)):cP k (A.under (.builtin "type.__call__" ⟨.ref C::us,a⟩)):=
 ⟨r.hd,by rw[BG];exact r.gd,by have:=r.dp;rw[Dq];lia,by have:=r.un;rw[Du];lia⟩
theorem cP.depth (r:cP k A):A.depth<recursionLimit:=by have:=r.dp;lia
theorem cP.units (r:cP k A):A.units+64<cLine:=by have:=r.un;lia
def z_:TA:=λ_ H Q=>Q [] H
def wJ (b:TE)(c:TA):TA:=λa H Q=>b a H λx A=>c a A λxs B=>Q (x::xs) B
section
variable {X:Cx}{e:Expr}{es:Á Expr}{te:TE}{t:TA}{pos:kR}
def eI:PA X [] z_:=λ_ _ _ _ H Q I h=>lK ⟨[],H,I,.nil,h⟩
def aS (d:PE X e te)(hr:PA X es t)(f:Ì (e::es) X.env=s!"k"::Ì es X.env:=by rfl):PA X (e::es) (wJ te t):=by
 intro pos a s c H Q I h;rw[f];show Ù _ _ (spliced (s!"k"::ģ pos (Ì es X.env))) _ _ s;refine fL (ak (d a s c H _ I h) λu l b=>iX b λx A C j g=>?_);exact ak (hr pos a l c A _ C g) λus m b=>iX b λxs B D k i=>⟨x::xs,B,D,.cons j k,i⟩
def Zk (t:TA):TE:=λa H Q=>t a H λxs A=>xs.length<=sizeLine/\∀p,A p=none->Q (.ref p) (upd A p (.tup xs))
def Ze (t:TA):TE:=λa H Q=>t a H λxs A=>xs.length<=sizeLine/\∀p,A p=none->Q (.ref p) (upd A p (.lst xs))
def DL (h:PA X es t):PE X (.Tuple es x1 pos) (Zk t):=by
 intro a s g H Q I f;refine wpAny_Tuple_spliced (ak (h pos a s g H _ I f) λus c ⟨xs,A,B,r,z,q⟩=>⟨by rw[<-r.length];exact z,?_⟩);have d:A c.heap.objs.size=none:=B.ţ.fresh (Í _);refine⟨.ref c.heap.objs.size,upd A c.heap.objs.size (.tup xs),B.laid (t':=c.toks) (λb u e=>Ä _ e) (Í _) ?_,rfl,q _ d⟩;exact⟨z,us,r,⟨_,Ö _ rfl,rfl,_,rfl⟩⟩
def Sb (h:PA X es t):PE X (.List es pos) (Ze t):=by
 intro a s g H Q I f;refine wpAny_List_spliced (ak (h pos a s g H _ I f) λus c ⟨xs,A,B,r,z,q⟩=>⟨by rw[<-r.length];exact z,?_⟩);have d:A c.heap.objs.size=none:=B.ţ.fresh (Í _);refine⟨.ref c.heap.objs.size,upd A c.heap.objs.size (.lst xs),B.laid (t':=c.toks) (λb u e=>Ä _ e) (Í _) ?_,rfl,q _ d⟩;exact⟨z,us,0,r,Ö _ rfl⟩
end
abbrev Sp:=Á V->Hp->VK->XK->Prop
abbrev HJ:=Á Hl->Hp->Ó->XK->Value->Ó->Prop
structure CG (P:ď)(w:ī)(K:È)(mg:Str->Ë Value)(base:Heap)(A:Ň)(outer:Á Hl)(s:Ó)(H:Hp):Prop where
 frames:A.frames=À outer
 mod:Mod K mg base
 bs:∀b o,base.get? b=À o->s.heap.get? b=À o/\H b=none
 F4:base.objs.size<=s.heap.objs.size
 pM:s.heap.FunFrames base outer
 LL:∀b∈Ar outer,H b=none
 ţ:m5 P w H s.heap
 bare:og s.gens
def CE (outer:Á Hl)(P:ď)(w:ī)(H:Hp)(s:Ó)(Q:VK)(u:Value)(s':Ó):Prop:=
 ∃v A,s'.os=s.os/\og s'.gens/\Un (Ar outer) [] H A s.heap s'.heap/\m5 P w A s'.heap/\RelV v u/\Q v A
def CR (CX:HJ)(outer:Á Hl)(P:ď)(w:ī)(H:Hp)(s:Ó)(Q:VK)(E:XK)(r:T7)(s':Ó):Prop:=
 match r with
 |.ok (.ret u)=>CE outer P w H s Q u s'
 |.ok _=>False
 |.error e=>CX outer H s E e s'
structure ic (P:ď)(w:ī)(K:È)(mg:Str->Ë Value)(base:Heap)(CX:HJ)(k:Nat)(f:Addr)(fd:eo)(ps:Á Str)(sp:Sp):Prop where
 len:∀vs H Q E,sp vs H Q E->vs.length=ps.length
 run:∀(A:Ň) (outer:Á Hl) (s:Ó) (H:Hp) (args:Args) (us:Á Value) (vs:Á V) (Q:VK) (E:XK),cP k A->CG P w K mg base A outer s H->uH s fd args (ps.zip us)->Vals vs us->sp vs H Q E->
  e_ (Ý P w) A (.call (.ref f) args) (CR CX outer P w H s Q E) s
def ic.imp {P:ď}{w:ī}{K:È}{mg:Str->Ë Value}{base:Heap}{CX:HJ}{k:Nat}{f:Addr}{d:eo}{ps:Á Str}{sp c:Sp}(F:ic P w K mg base CX k f d ps sp)
  (h:∀vs H Q E,c vs H Q E->sp vs H Q E):ic P w K mg base CX k f d ps c:=
 ⟨λvs H Q E q=>F.len vs H Q E (h _ _ _ _ q),λA a s H b us vs Q E hr g e j i=>F.run A a s H b us vs Q E hr g e j (h _ _ _ _ i)⟩
def CG.make {P:ď}{w:ī}{K:È}{mg:Str->Ë Value}{base:Heap}{A:Ň}{outer:Á Hl}{s:Ó}{H:Hp}(e:CG P w K mg base A outer s H)(C:Addr)(us:Á Value)(a:Á (Str×Value)) :
  CG P w K mg base (A.under (.builtin "type.__call__" ⟨.ref C::us,a⟩)) outer s H:=⟨by first|exact e.frames|(simpa[sX,Code.envs,Ef,pushEnvs]using e.frames),e.mod,e.bs,e.F4,e.pM,e.LL,e.ţ,e.bare⟩
section
variable {X:Cx}{ÿ:Á (Addr×Obj)}{σ:St}{H:Hp}{s s':Ó}
def Inv.UA (I:Inv X ÿ σ H s):CG X.prog X.w X.K X.mg X.base X.A X.stack s H:=
 ⟨I.ok.frames,I.ok.mod,I.bs,ĺ I.ok.F4 I.sz,I.stack,I.u9,I.ţ,I.bare⟩
def Inv.after (I:Inv X ÿ σ H s)(h:CE X.stack X.prog X.w H s Q u s'):EP X ÿ σ Q u s':=by
 obtain⟨v,A,os,a,i,c,r,q⟩:=h;obtain⟨f,g,d,t,e⟩:=s';obtain rfl:e=s.os:=os;exact⟨v,A,I.call (h':=f) (g':=g) (d':=d) (t':=t) (ch:=[]) i c a (λb z=>absurd z (by simp)),r,q⟩
end
def KR (sp:Sp)(a:Á V)(E:XK)(t:TA):TE:=λc H Q=>t c H λb A=>sp (b++a) A Q E
def KU (C:Addr)(m:Str)(sp:Sp)(b:Á V)(E:XK)(f:TE)(t:TA):TE:=λd H Q=>f d H λx A=>∃a e c,x=.ref a/\A a=À (.ins C e c)/\c.lookup m=none/\
 t d A λg B=>sp (x::(g++b)) B Q E
def We (C:Addr)(sp:Sp)(b:Á V)(E:XK)(t:TA):TE:=λd H Q=>t d H λc A=>∀x a,A x=none->A a=none->a≠x->
 sp (.ref x::(c++b)) (upd (upd A a (.own x)) x (.ins C a [])) (λv B=>v=.Ĕ/\Q (.ref x) B) E
def Binds (K:È)(a:eo)(ps:Á Str)(ds:Á Value):Prop:=
 ∀(s:Ó) (us:Á Value),K.In s.heap->(us++ds).length=ps.length->uH s a ⟨us,[]⟩ (ps.zip (us++ds))
def Binds.all {K:È}{a:eo}{ps:Á Str}(h:∀us:Á Value,us.length=ps.length->ko a ⟨us,[]⟩=pure (ps.zip us)):Binds K a ps []:=λs us _ hl=>by
 rw[Ġ]at hl⊢;exact .of_eq (h us hl)
def Passes (CX:HJ)(X:Cx)(E:XK):Prop:=∀(a:Á (Addr×Obj)) (b:St) (H:Hp) (s:Ó) (e:Value) (s':Ó),Inv X a b H s->CX X.stack H s E e s'->X.xe e s'
section
variable {X:Cx}{CX:HJ}{k:Nat}{f C:Addr}{fd:eo}{ps:Á Str}{sp:Sp}{Be:Á V}{ds:Á Value}{E:XK}{x m:Str}{p pos ky:kR}{e o:Expr}{es:Á Expr}{ta:TE}{t:TA}
def zX (F:ic X.prog X.w X.K X.mg X.base CX k f fd ps sp)(hr:cP k X.A)(i:Binds X.K fd ps ds)(hd:Vals Be ds)(j:Passes CX X E)
  (I:Inv X a d H s) (r:Vals vs us) (h:sp (vs++Be) H Q E):Ù s!"b" X.A (call (.ref f) us) (EP X a d Q) X.xe s:=by
 have c:Vals (vs++Be) (us++ds):=r.append hd;have hl:(us++ds).length=ps.length:=by rw[<-c.length];exact F.len _ _ _ _ h
 refine xo (qq (F.run X.A X.stack s H ⟨us,[]⟩ (us++ds) (vs++Be) Q E hr I.UA (i s us I.mi hl) c h) λr s' b=>?_);cases r with
 |error e=>exact j a d H s e s' I b
 |ok g=>
  cases g with
  |ret u=>exact I.after b
  |next=>exact aF b
  |brk=>exact aF b
  |cont=>exact aF b
def NO (F:ic X.prog X.w X.K X.mg X.base CX k f fd ps sp)(hr:cP k X.A)(j:Gl X x)(n:X.mg x=À (.ref f)) (l:ĸ X.K (.ref f)=true) (g:Binds X.K fd ps ds)(hd:Vals Be ds)(u:Passes CX X E)
  (d:PA X (e::es) t) (b:(x == ("__debug__":Str))=false:=by decide) (i:Ì (e::es) X.env=s!"k"::Ì es X.env:=by rfl) (c:(ģ pos (Ì es X.env)).any (·.1)=false:=by rfl) :
  PE X (.Call (.Name x p) (e::es) [] pos) (KR sp Be E t):=by
 intro a s y H Q I h;refine ah (ov I j n ?_ b);refine qo (h₀:=X.base) I.ok.mod.U2 l (ak (d pos a s y H _ I h) λus z v=>iX v λG D B r q=>⟨B.mi,?_⟩) i c;exact zX F hr g hd u B r q
def J8 (F:ic X.prog X.w X.K X.mg X.base CX k f fd ps sp)(hr:cP k X.A)(d:Gl X x)(i:X.mg x=À (.ref f)) (g:ĸ X.K (.ref f)=true) (c:Binds X.K fd ps ds)(hd:Vals Be ds)(j:Passes CX X E)
  (a:(x == ("__debug__":Str))=false:=by decide):PE X (.Call (.Name x p) [] [] pos) (KR sp Be E z_):=by
 intro b s l H Q I h;refine ah (ov I d i ?_ a);exact px I.mi g (zX (us:=[]) F hr c hd j I .nil h)
def NT (L:PE X o ta)(c:AY X.K C)(i:Meth X.K C m f)(F:ic X.prog X.w X.K X.mg X.base CX k f fd ps sp)(hr:cP k X.A)(J:Binds X.K fd ps ds)(hd:Vals Be ds)(N:Passes CX X E)(z:PA X (e::es) t)
  (g:Ì (e::es) X.env=s!"k"::Ì es X.env:=by rfl) (d:(ģ pos (Ì es X.env)).any (·.1)=false:=by rfl)
  (M:Ė (.Call (.Attribute o m ky) (e::es) [] pos) X.env=(do
   let j <-Ė o X.env
   jX ky.atName
   let (f,first) <-c8 [j] (pB j m pl)
   yR pos f first (ģ pos (Ì (e::es) X.env)) (gI pos (bP [] X.env))):=by rfl) :
  PE X (.Call (.Attribute o m ky) (e::es) [] pos) (KU C m sp Be E ta t):=by
 intro b s n H Q I h;refine nz (pl:=pl) (ak (L b s n H _ I h) λu T ⟨x,G,B,P,a,Z,fs,y,v,l,q⟩=>?_) M;subst y;obtain rfl:u=Ñ a:=P;refine pP B v c i l ?_;refine qo (first:=[.ref a]) (h₀:=X.base) I.ok.mod.U2 i.kp (ak (z pos b T n G _ B q) λus s2 U=>iX U λvs Y D r O=>⟨D.mi,?_⟩) g d;exact zX (us:=.ref a::us) (vs:=.ref a::vs) F hr J hd N D (.cons rfl r) O
def Kd (r:PE X o ta)(c:AY X.K C)(d:Meth X.K C m f)(F:ic X.prog X.w X.K X.mg X.base CX k f fd ps sp)(hr:cP k X.A)(n:Binds X.K fd ps ds)(hd:Vals Be ds)(y:Passes CX X E)
  (v:Ė (.Call (.Attribute o m ky) [] [] pos) X.env=(do
   let g <-Ė o X.env
   jX ky.atName
   let (f,first) <-c8 [g] (pB g m pl)
   yR pos f first (ģ pos (Ì [] X.env)) (gI pos (bP [] X.env))):=by rfl) :
  PE X (.Call (.Attribute o m ky) [] [] pos) (KU C m sp Be E ta z_):=by
 intro b s D H Q I h;refine nz (pl:=pl) (ak (r b s D H _ I h) λu M ⟨x,G,B,z,a,J,L,j,i,l,q⟩=>?_) v;subst j;obtain rfl:u=Ñ a:=z;refine pP B i c d l ?_;exact px (first:=[.ref a]) B.mi d.kp (zX (us:=[.ref a]) (vs:=[.ref a]) F hr n hd y B (.cons rfl .nil) q)
structure Mk (K:È)(C f:Addr):Prop where
 makes:vi K C=true
 init:Ą K (.ref C) "__init__"=À (À (.ref f))
 fn:mX K (.ref f)=true
 kp:ĸ K (.ref C)=true
def KA (M:Mk X.K C f)(F:ic X.prog X.w X.K X.mg X.base CX k f fd ps sp)(hr:cP (k+1) X.A) (n:Binds X.K fd ps ds)(hd:Vals Be ds)
  (q:Passes CX X E) (I:Inv X b i H s) (r:Vals vs us)
  (h:∀x c,H x=none->H c=none->c≠x->sp (.ref x::(vs++Be)) (upd (upd H c (.own x)) x (.ins C c [])) (λv G=>v=.Ĕ/\Q (.ref x) G) E) :
  Ù s!"b" X.A (call (.ref C) us) (EP X b i Q) X.xe s:=by
 have d:=h s!"n" s.heap.objs.size (I.ţ.fresh (mC _)) (I.ţ.fresh (Í _)) (ñ (cM _));have B:=Inv.made (C:=C) I;have g:Vals (V.ref s!"n"::(vs++Be)) (Ñ s!"n"::(us++ds)):=.cons rfl (r.append hd);have hl:(Ñ s!"n"::us++ds).length=ps.length:=by
  have e:=g.length;rw[F.len _ _ _ _ d]at e;exact e.symm
 refine xo (Jq (f:=f) I.mi M.makes M.init (mZ.mp M.fn) (qq (F.run _ X.stack _ _ ⟨Ñ s!"n"::us,[]⟩ (Ñ s!"n"::(us++ds)) _ _ E (hr.make C us [])
  (B.UA.make C us []) (n _ (Ñ s!"n"::us) B.mi hl) g d) λr s' a=>?_))
 cases r with
 |error e=>exact q b i _ _ e s' B a
 |ok l=>
  cases l with
  |ret u=>
   obtain⟨v,D,J,rv,j,y⟩:=B.after a;subst j;exact⟨rv,⟨V.ref s!"n",D,J,rfl,y⟩⟩
  |next=>exact aF a
  |brk=>exact aF a
  |cont=>exact aF a
def Kc (M:Mk X.K C f)(F:ic X.prog X.w X.K X.mg X.base CX k f fd ps sp)(hr:cP (k+1) X.A) (d:Gl X x)(g:X.mg x=À (.ref C)) (c:Binds X.K fd ps ds)(hd:Vals Be ds)(i:Passes CX X E)
  (a:(x == ("__debug__":Str))=false:=by decide):PE X (.Call (.Name x p) [] [] pos) (We C sp Be E z_):=by
 intro b s j H Q I h;refine ah (ov I d g ?_ a);exact px I.mi M.kp (KA (us:=[]) M F hr c hd i I .nil h)
end
section
variable {X:Cx}{CX:HJ}{k:Nat}{f C:Addr}{fd:eo}{ps ks:Á Str}{sp:Sp}{E:XK}{x m:Str}{p pos ky aak:kR}{e o:Expr}{es:Á Expr}{kws:Á i7}{te ta:TE}{t tk:TA}{nm:Ë Str}
variable {g:Á Value->Á Value->Á Value}{gV:Á V->Á V->Á V}
end
structure jc (N P:Á Str)(sc:Scope):Prop where
 kind:sc.kind=.function
 co:sc.isCoroutine=false
 gen:sc.isGenerator=false
 nd:N.Nodup
 pre:N.take P.length=P
 par:∀x∈P,sc.names.lookup x=À .local∨sc.names.lookup x=À .cell
 RQ:∀y∈sc.names,y.2≠.free
theorem xY {kindOf:Str->Ë mT}{x:Str}:∀{a:Á (Str×Value)}{m:Str->Ë Value},(∀v,(x,v)∉a)->LB kindOf a m x=m x
 |[],_,_=>rfl
 |(n,v)::r,m,h=>by
  unfold LB;rw[xY λw hw=>h w (Ć _ hw)];split
  ·have:x≠n:=by rintro rfl;exact h v Ń
   simp[this]
  ·rfl
theorem xW {kindOf:Str->Ë mT}{x:Str}:∀{a:Á (Str×Value)}{m:Str->Ë Value},(∀v,(x,v)∉a)->LA kindOf a m x=m x
 |[],_,_=>rfl
 |(n,v)::r,m,h=>by
  unfold LA;rw[xW λw hw=>h w (Ć _ hw)];split
  ·rfl
  ·have:x≠n:=by rintro rfl;exact h v Ń
   simp[this]
theorem xX {kindOf:Str->Ë mT}{x:Str}{v:Value}:∀{P:Á Str}{vs:Á Value}{i:Nat}{m:Str->Ë Value},P.Nodup->P[i]?=À x->vs[i]?=À v->kindOf x=À .local->
  LB kindOf (P.zip vs) m x=À v
 |[],_,_,_,_,h,_,_=>by simp at h
 |_::_,[],_,_,_,_,h,_=>by simp at h
 |p::P,w::vs,0,m,nd,a,b,c=>by
  simp at a b;subst a;subst b;show LB kindOf ((p,w)::P.zip vs) m p=_;unfold LB;rw[xY λv d=>(b7.mp nd).1 (xQ d).1,Ò c];simp
 |p::P,w::vs,i+1,m,nd,a,b,c=>by
  show LB kindOf ((p,w)::P.zip vs) m x=_;unfold LB;exact xX (i:=i) (b7.mp nd).2 (by simpa using a) (by simpa using b) c
theorem xV {kindOf:Str->Ë mT}{x:Str}{v:Value}:∀{P:Á Str}{vs:Á Value}{i:Nat}{m:Str->Ë Value},P.Nodup->P[i]?=À x->vs[i]?=À v->kindOf x≠À .local->
  LA kindOf (P.zip vs) m x=À v
 |[],_,_,_,_,h,_,_=>by simp at h
 |_::_,[],_,_,_,_,h,_=>by simp at h
 |p::P,w::vs,0,m,nd,a,b,c=>by
  simp at a b;subst a;subst b;show LA kindOf ((p,w)::P.zip vs) m p=_;unfold LA;rw[xW λv d=>(b7.mp nd).1 (xQ d).1,Ø c];simp
 |p::P,w::vs,i+1,m,nd,a,b,c=>by
  show LA kindOf ((p,w)::P.zip vs) m x=_;unfold LA;exact xV (i:=i) (b7.mp nd).2 (by simpa using a) (by simpa using b) c
def start (N:Á Str)(vs:Á V):St:=vs.map À++â (N.length-vs.length) none
noncomputable def m8 (CX:HJ)(P:ď)(w:ī)(K:È)(mg:Str->Ë Value)(base:Heap)(N:Á Str)(qual:Str)(scope:Scope)(f:Addr)(cd:Value)(A:Ň)(outer:Á Hl)(s:Ó)(H:Hp)(E:XK):Cx where
 prog:=P
 w:=w
 K:=K
 mg:=mg
 base:=base
 A:=A.deeper (AQ qual scope s.heap.objs.size f cd)
 N:=N
 jW:=s
 xr:=H
 env:=AQ qual scope s.heap.objs.size f cd
 outer:=outer
 stack:=AQ qual scope s.heap.objs.size f cd::outer
 ex:=[]
 calm:=true
 fn:=λ_=>true
 pn:=[]
 xe:=λe s'=>Ù (Ý P w) (A.deeper (AQ qual scope s.heap.objs.size f cd)) (leaving (AQ qual scope s.heap.objs.size f cd) e) (λ_ Y1=>CX outer H s E e Y1) (λe' Y1=>CX outer H s E e' Y1) s'
def A5 {a:Scope}{n:Nat}{x:Str}(h:a.names.lookup x=À .cell):∃c,(bR n a.names []).lookup x=À c:=by
 have q:=mV a.names n [] (.inl h);exact aN.mp q
def Gv {CX:HJ}{P:ď}{w:ī}{K:È}{mg:Str->Ë Value}{base:Heap}{N ps:Á Str}{d:Str}{scope:Scope}{f:Addr}{t:Value}{A:Ň}{outer:Á Hl}{s s1:Ó}{H:Hp}{E:XK}{us:Á Value}{vs:Á V}
  (S:jc N ps scope) (hd:A.handled=none) (j:CG P w K mg base A outer s H) (hl:vs.length=ps.length) (r:Vals vs us)
  (x:InCallC s s.heap.objs.size (LB (AQ d scope s.heap.objs.size f t).kindOf (ps.zip us) λ_=>none) (bR s!"n" scope.names []) (LA (AQ d scope s.heap.objs.size f t).kindOf (ps.zip us) λ_=>none) s1) :
  Inv (m8 CX P w K mg base N d scope f t A outer s H E) [] (start N vs) H s1:=by
 have G:ps.length<=N.length:=by have:=ğ cb S.pre;rw[Ũ]at this;lia
 obtain⟨B,J,rfl,D⟩:=x.done;have l:∀b:Addr,b∉(m8 CX P w K mg base N d scope f t A outer s H E).ex:=λb z=>absurd (show b∈([]:Á Addr)from z) (by simp);refine⟨⟨j.mod,S.kind,rfl,rfl,Í _,λy z c B g=>?_,λy hy=>?_,λy c _ h=>?_,λ_=>hd,Around.frames_deeper j.frames,.inr ⟨rfl,rfl⟩,λb z=>absurd z (l b),j.bs,j.F4,λb _ _=>l b,λb z=>absurd z (l b),j.pM,j.LL⟩,
  rfl,j.bare,Un.kept D,⟨_,x.toInCall.ns,λi y v B g I=>?_⟩,λy c h=>⟨_,x.cell y c h⟩,j.ţ.fresh (Í _),λy c h=>?_,λp m=>absurd (show p∈([]:Á (Addr×Obj))from m) (by simp),j.ţ.kept D,?_⟩
 ·exact name_of_addr x.apart (fv B) (fv g)
 ·have hy:scope.names.lookup y=À .cell∨scope.names.lookup y=À .free:=hy;rcases hy with hy|hy
  ·exact A5 hy
  ·exact absurd rfl (S.RQ _ (fv hy))
 ·exact ę (x.above y c (fv h))
 ·have C:i<vs.length:=by
   unfold start at g;by_cases C:i<vs.length
   ·exact C
   ·rw[ç (by simpa using C)]at g;rw[ni]at g;split at g<;>cases g
  have F:vs[i]?=À v:=by
   unfold start at g;rw[é (by simpa using C),î]at g;cases e:vs[i]? with
   |none=>rw[e]at g;cases g
   |some a=>rw[e]at g;cases g;rfl
  obtain⟨u,hu,rv⟩:=r.get F;have m:ps[i]?=À y:=by
   rw[<-S.pre,aO (by lia)];exact B
  have o:ps.Nodup:=by rw[<-S.pre];exact S.nd.sublist (uN _ _)
  refine⟨u,rv,?_⟩;rcases S.par y (ý m)with k|k
  ·exact .inl ⟨k,xX o m hu k⟩
  ·obtain⟨c,e⟩:=A5 (n:=s.heap.objs.size+1) k;refine .inr ⟨.inl k,c,e,?_⟩;have q:=x.cell y c e;rw[xV o m hu (by show scope.names.lookup y≠_;rw[k];decide)]at q;exact q
 ·exact j.ţ.fresh (ę (x.above y c (fv h)))
 ·unfold start;show _=N.length;rw[è,É,FI];lia
def O9 {CX:HJ}{P:ď}{w:ī}{K:È}{mg:Str->Ë Value}{base:Heap}{k:Nat}{f:Addr}{name a:Str}{d:Arguments}{body:Á Stmt}{scope:Scope}{O kV l T c ct oc:Value}{L od:Ë Addr}
  {F:Ē (Ë Value)}{N ps:Á Str}{sp:Sp}(lk:K.lookup f=À ⟨oc,od,.func (Ŏ name a d body scope O kV l T L c ct),F⟩) (C:dC K c a=true) (S:jc N ps scope)
  (B:∀vs H Q E,sp vs H Q E->vs.length=ps.length)
  (h:∀(A:Ň) (outer:Á Hl) (s:Ó) (H:Hp) (vs:Á V) (Q:VK) (E:XK),cP k (A.deeper (AQ a scope s.heap.objs.size f c))->sp vs H Q E->
   ∃t,nB (m8 CX P w K mg base N a scope f c A outer s H E) body t/\t {nx:=λ_ H'=>Q .Ĕ H',rt:=Q} (start N vs) H) :
  ic P w K mg base CX (k+1) f (Ŏ name a d body scope O kV l T L c ct) ps sp:=by
 refine⟨B,λA outer s H M us vs Q E hr m Z r z=>?_⟩;have hl:=B _ _ _ _ z;have G:K.In s.heap:=m.mod.U2.keeps λb o e=>(m.bs b o e).1;have D:s.heap.NoLimit:=m.mod.nolimit.keeps λb o e=>(m.bs b o e).1;have i:∀y∈ps.zip us,scope.names.lookup y.1=À .local∨(scope.names.lookup y.1=À .cell/\((bR s!"n" scope.names []).lookup y.1).isSome=true):=λ⟨n,v⟩ hy=>by
  rcases S.par n (xQ hy).1 with q|q
  ·exact .inl q
  ·exact .inr ⟨q,mV _ _ _ (.inl q)⟩
 refine codeAny_call_function hr.depth (G _ _ lk) rfl S.co S.gen rfl (PySem.W.codeRec_of G C) (Z _ _ _ _ ?_);refine wpAny_newFunctionEnv_cells S.kind i λX he U x=>?_;subst he;refine⟨D.keeps x.toInCall.keep,codeAny_func ?_⟩;obtain⟨t,ht,hq⟩:=h A outer s H vs Q E (hr.deeper _) z;have I:Inv (m8 CX P w K mg base N a scope f c A outer s H E) [] (start N vs) H U:=Gv S hr.hd m hl r x;refine aB (ht [] U (start N vs) H _ I hq) (λY s' j=>?_) λe s' j=>j;have p:∀{g:St}{H':Hp}{v:V}{u:Value},Inv (m8 CX P w K mg base N a scope f c A outer s H E) [] g H' s'->RelV v u->Q v H'->CE outer P w H s Q u s':=
  λ{g H' v u} J rv q=>⟨v,H',J.os,J.bare,J.base,J.ţ,rv,q⟩
 cases Y with
 |ret u=>
  obtain⟨v,g,H',J,rv,q⟩:=j;exact p J rv q
 |next=>
  obtain⟨g,H',J,q⟩:=j;exact p (v:=V.Ĕ) (u:=ó) J rfl q
 |brk=>
  obtain⟨_,_,_,q⟩:=j;exact aF q
 |cont=>
  obtain⟨_,_,_,q⟩:=j;exact aF q
section
variable {X:Cx}{x:Str}{p pos:kR}{e:Expr}{es:Á Expr}{t:TA}{id T:String}{r:Á V->Hp->VK->Prop}
def TV (r:Á V->Hp->VK->Prop)(t:TA):TE:=λb H Q=>t b H λa A=>r a A Q
def cW (g:aG X (.builtin id) r) (j:Gl X x)(k:X.mg x=none)(m:ĥ x=À (.builtin id)) (f:PA X (e::es) t) (l:x≠"__name__":=by decide)(b:(x == ("__debug__":Str))=false:=by decide)
  (i:Ì (e::es) X.env=s!"k"::Ì es X.env:=by rfl) (c:(ģ pos (Ì es X.env)).any (·.1)=false:=by rfl):PE X (.Call (.Name x p) (e::es) [] pos) (TV r t):=by
 intro a s d H Q I h;refine ah (pU I j k m ?_ l b);exact ZG (ak (f pos a s d H _ I h) λus q v=>iX v λu A B o n=>g a q d A u us Q B o n) i c
def yB (g:aG X (.type T) r) (j:Gl X x)(k:X.mg x=none)(m:ĥ x=À (.type T)) (f:PA X (e::es) t) (l:x≠"__name__":=by decide)(b:(x == ("__debug__":Str))=false:=by decide)
  (i:Ì (e::es) X.env=s!"k"::Ì es X.env:=by rfl) (c:(ģ pos (Ì es X.env)).any (·.1)=false:=by rfl):PE X (.Call (.Name x p) (e::es) [] pos) (TV r t):=by
 intro a s d H Q I h;refine ah (pU I j k m ?_ l b);exact cN (ak (f pos a s d H _ I h) λus q v=>iX v λu A B o n=>g a q d A u us Q B o n) i c
end
end L2
namespace HT
open PySem PyProof.Rows
section
open PySem.SeqAt
open PySem.AutoSeq1 (wpAny_loadPart')
open PySem.MeetsSeq PySem.MeetsSeq2 PySem.MeetsSeq3
end
section
variable {prog:ď}{w:ī}{A:Ň}{E:Value->Ó->Prop}{s:Ó}
def Mg (u:Lr s.heap t vs.toArray)(r:Lr s.heap b ws.toArray)(l:vs≠[])
  (p:ws=[]->Q (.ref t) s) (q:ws≠[]->Q (.ref s.heap.objs.size) {s with heap:=s.heap.push {cls:=.type "tuple",data:=.seq (vs++ws).toArray}})
  (hsz:vs.length+ws.length<=sizeLine):Ù s!"j" A (bf .Add (.ref t) (.ref b)) Q E s:=by
 obtain⟨⟨cls,j,data,o⟩,h,k,n,hd⟩:=id u;obtain⟨⟨i,c,data2,g⟩,a,d,m,f⟩:=id r;simp only at k hd d f;subst k hd d f;have e:vs.toArray++ws.toArray=(vs++ws).toArray:=by simp
 by_cases hw:ws=[]
 ·exact L1 ⟨_,h,rfl⟩ ⟨_,a,rfl⟩ AR HF mU lO (k8 _ _)
   (tuple_addW1 t b vs.toArray ws.toArray n m j c o g (by simpa using l) (by simp[hw])) ⟨h,a,p hw⟩
 ·refine L1 ⟨_,h,rfl⟩ ⟨_,a,rfl⟩ AR HF mU lO (k8 _ _)
   (tuple_addW2 t b vs.toArray ws.toArray n m j c o g (by simpa using l) (by simpa using hw) (by rw[Ú,Ú];exact hsz)) ⟨h,a,?_⟩
  rw[e];exact q hw
def dg (n d:Nat):Ë Int->Nat
 |none=>d
 |some v=>if v<0 then (v+(n:Int)).toNat else min v.toNat n
def KC (n d:Nat):dg n d none=d:=rfl
def Ol (n d k:Nat):dg n d (À (k:Int))=min k n:=by
 show(if (k:Int)<0 then ((k:Int)+(n:Int)).toNat else min (k:Int).toNat n)=min k n;rw[Ø (by lia),a']
def SS (n d:Nat)(hd:d<=n)(o:Ë Int):dg n d o<=n:=by
 cases o with
 |none=>exact hd
 |some v=>
  show(if v<0 then (v+(n:Int)).toNat else min v.toNat n)<=n;by_cases a:v<0
  ·rw[Ò a];lia
  ·rw[Ø a];exact Nat.min_le_right _ _
def Eu (v:Int)(n d:Nat):(if v<0 then max (v+(n:Int)) 0 else min v (n:Int))=((dg n d (À v):Nat):Int):=by
 show(if v<0 then max (v+(n:Int)) 0 else min v (n:Int))=(((if v<0 then (v+(n:Int)).toNat else min v.toNat n):Nat):Int)
 by_cases a:v<0
 ·simp only[Ò a];lia
 ·simp only[Ø a];lia
def CI (lo a:Ë Int)(n:Nat):i6 lo a 1 (n:Int)=(((dg n 0 lo:Nat):Int),((dg n n a:Nat):Int)):=by
 have b:¬((1:Int)<0):=by lia
 unfold i6;simp only[b,fG];refine uP ?_ ?_
 ·cases lo with
  |none=>rfl
  |some v=>exact Eu v n 0
 ·cases a with
  |none=>rfl
  |some v=>exact Eu v n n
def DM (i j:Nat):de (i:Int) (j:Int) 1=j-i:=by
 unfold de;have a:(1:Int) > 0:=by lia
 simp only[a,fO,Int.ediv_one];split<;>lia
def wB (p:uc v o)(h:Q o s):Ù s!"j" A (Xv v) Q E s:=by
 cases p with
 |none=>exact slicePart_none h
 |int i t=>exact slicePart_int h
def lH {f:Addr}{d e:Value}{lo b:Ë Int}{n:Nat}{Q:Int×Int×Nat->Ó->Prop}(i:s.heap.IsSliceOf f d e .none)(pl:uc d lo)(j:uc e b)
  (h:Q (((dg n 0 lo:Nat):Int),1,dg n n b-dg n 0 lo) s):Ù s!"j" A (rq (.ref f) (pure (n:Int))) Q E s:=by
 obtain⟨os,c,g,a⟩:=id i;unfold rq Xu;refine Ã (Ã (Ņ c a (x:=d) rfl (Ã (Ņ c a (x:=e) rfl (Ã (Ņ c a (x:=.none) rfl (Ê ?_)))))));refine Ã (slicePart_none ?_);show Ù _ _ (if ((1:Int) == 0)=true then _ else _) _ _ s;rw[Ø s!"i"];refine Ã (wB pl (Ã (wB j (Ã (Ê ?_)))));show Ù _ _ (match i6 lo b 1 (n:Int)with|(lo,b)=>pure (lo,(1:Int),de lo b 1)) _ _ s;rw[CI lo b n];show Ù _ _ (pure (((dg n 0 lo:Nat):Int),(1:Int),de ((dg n 0 lo:Nat):Int) ((dg n n b:Nat):Int) 1)) _ _ s;rw[DM];exact Ê h
def Ki (xs:Ē Value)(i k:Nat):((Ĉ k).filterMap λ(m:Nat)=>xs[((i:Int)+(m:Int)*1).toNat]?).toArray=((xs.toList.drop i).take k).toArray:=by
 have e:(λ(m:Nat)=>xs[((i:Int)+(m:Int)*1).toNat]?)=λm=>xs[i+m]?:=by
  funext m;have:((i:Int)+(m:Int)*1).toNat=i+m:=by lia
  rw[this]
 rw[e];have:=pick_run xs i k;rw[List.filterMap_map]at this;have a:((λx=>xs[x]?) ∘ λx=>i+x)=λm=>xs[i+m]?:=rfl;rw[a]at this;rw[this]
def qD {t i:Addr}{items:Ē Value}{k l:Value}{lo b:Ë Int}{Q:Value->Ó->Prop}(c:Lr s.heap t items)(j:s.heap.IsSliceOf i k l .none)(pl:uc k lo)(o:uc l b)
  (hw:¬(dg items.size 0 lo=0/\dg items.size items.size b=items.size))
  (h:Q (.ref s.heap.objs.size) {s with heap:=s.heap.push {cls:=.type "tuple",data:=.seq ((items.toList.drop (dg items.size 0 lo)).take (dg items.size items.size b-dg items.size 0 lo)).toArray}})
  (hsz:items.size<=sizeLine):Ù s!"j" A (oi (.ref t) (.ref i)) Q E s:=by
 have a:sizeOk (.seq ((items.toList.drop (dg items.size 0 lo)).take (dg items.size items.size b-dg items.size 0 lo)).toArray):=by
  show((items.toList.drop (dg items.size 0 lo)).take (dg items.size items.size b-dg items.size 0 lo)).toArray.size<=sizeLine;rw[Ú,Ũ,xa,Ļ];lia
 have p:dg items.size items.size b<=items.size:=SS _ _ (Í _) b;obtain⟨os,g,e,n⟩:=id j;have d:s.TypeIs (.ref i) "slice":=⟨os,g,e⟩
 unfold oi;try with_reducible refine œ ?_
 first|refine Ã (Ê ?_)|skip
 refine Ã (WT c.typeIs s!"i" ?_);refine Ã (ŀ (name:=ĩ "__getitem__") c.typeIs ř
  (ĭ ř c.typeIs Tv ?_ (T9 _ _)))
 show Ù _ _ (rr (.ref t) >>= _) _ _ s;refine Ã (tupleItemsOf_ c ?_);refine Ã (yY d ?_);rw[Ò s!"i"];refine Ã (lH j pl o ?_);have f:¬((((dg items.size 0 lo:Nat):Int) == 0&&(1:Int) == 1&&(dg items.size items.size b-dg items.size 0 lo) == items.size)=true):=by
  intro q;rw[ē,ē]at q;have r:((dg items.size 0 lo:Nat):Int)=0:=eq_of_beq q.1.1;have u:dg items.size items.size b-dg items.size 0 lo=items.size:=eq_of_beq q.2;exact hw ⟨by lia,by lia⟩
 show Ù _ _ (if (((dg items.size 0 lo:Nat):Int) == 0&&(1:Int) == 1&&(dg items.size items.size b-dg items.size 0 lo) == items.size)=true then _ else _) _ _ s;rw[Ø f,Ki];first
  |exact Ã (m:=dy _) (Ţ (Ê ⟨_,rfl,Ê h⟩) a)
  |exact Ã (m:=dy _) (Ţ (Ã (Ê (Ê ⟨_,rfl,Ê h⟩))) a)
  |exact Ã (Ã (m:=dy _) (Ţ (Ê (Ê ⟨_,rfl,Ê h⟩)) a))
  |exact Ã (Ã (m:=dy _) (Ţ (Ê ⟨_,rfl,Ê h⟩) a))
end
end HT
namespace L2
open PySem PySem.Spec PyProof.Rows
abbrev TO:=St->Hp->(Ë Int->Hp->Prop)->Prop
def PO (X:Cx)(e:Ë Expr)(t:TO):Prop:=
 ∀(a:Á (Addr×Obj)) (s:Ó) (b:St) (H:Hp) (Q:Ë Int->Hp->Prop),Inv X a b H s->t b H Q->
  Ù s!"b" X.A (evalPart e X.env) (λu s'=>∃o B,Inv X a b B s'/\uc u o/\Q o B) X.xe s
def OB:TO:=λ_ H Q=>Q none H
def Wj (t:TE):TO:=λa H Q=>t a H λx A=>∃i,x=.int i/\Q (À i) A
def intsAre_of:∀{us:Á Value},Vals (ns.map V.int) us->uK us ns:=by
 induction ns with
 |nil=>intro us r;rw[aj]at r;cases r;exact .nil
 |cons n ns a=>
  intro us r;rw[Î]at r;cases r with
  |cons b c=>
   obtain⟨t,e⟩:=b;subst e;exact .cons n t (a c)
section
variable {X:Cx}{e:Expr}{te:TE}{lo hi:Ë Expr}{tl th:TO}{pos p2:kR}
def N5:PO X none OB:=by
 intro a s b H Q I h;rw[evalPart_none];exact Ê ⟨none,H,I,.none,h⟩
def N6 (h:PE X e te):PO X (À e) (Wj te):=by
 intro a s f H Q I hw;rw[evalPart_some];refine ak (h a s f H _ I hw) λu g d=>iX d λx A B c b=>?_;obtain⟨i,rfl,q⟩:=b;obtain⟨t,rfl⟩:=c;exact⟨À i,A,B,.int i t,q⟩
def Ue (X:Cx)(r:V->Ë Int->Ë Int->Hp->VK->Prop):Prop:=
 ∀(a:Á (Addr×Obj)) (s:Ó) (f:St) (H:Hp) (x:V) (v c d:Value) (lo hi:Ë Int) (b:Addr) (Q:VK),Inv X a f H s->RelV x v->s.heap.IsSliceOf b c d .none->uc c lo->uc d hi->r x lo hi H Q->
  ∃T id,typeLookup (.type T) "__getitem__"=pure (À (.builtin id))/\s.TypeIs v T/\Ù s!"b" X.A (oi v (.ref b)) (EP X a f Q) X.xe s
def tSl (r:V->Ë Int->Ë Int->Hp->VK->Prop)(te:TE)(tl th:TO):TE:=λa H Q=>te a H λx A=>tl a A λl B=>th a B λu C=>r x l u C Q
def Ke (hr:Ue X r)(k:PE X e te)(hl:PO X lo tl)(hu:PO X hi th):PE X (.Subscript e (.Slice lo hi none p2) pos) (tSl r te tl th):=by
 intro a s d H Q I h;refine FP (ak (k a s d H _ I h) λv M f=>iX f λx C E L t=>?_);refine wpAny_Slice (ak (hl a M d C _ E t) λg N f=>iX f λl D F o y=>ak (hu a N d D _ F y) λi c f=>iX f λu B G p z=>?_);rw[evalPart_none];refine Ê ?_;have J:Inv X a d B {c with heap:=c.heap.push {cls:=.type "slice",data:=.fields #[g,i,.none]}}:=G.kept (t':=c.toks) λb O q=>Ä _ q;obtain⟨T,id,j,n,m⟩:=hr a {c with heap:=c.heap.push {cls:=.type "slice",data:=.fields #[g,i,.none]}} d B x v g i l u c.heap.objs.size Q J L (Wy ..) o p z;show Ù s!"b" X.A (HG e (.Slice lo hi none p2) v (.ref c.heap.objs.size)) (EP X a d Q) X.xe {c with heap:=c.heap.push {cls:=.type "slice",data:=.fields #[g,i,.none]}};exact tail_any (ops:=[.ref c.heap.objs.size,v]) n j m (by with_unfolding_all rfl)
noncomputable def vt (xs:Á V)(lo hi:Ë Int):Á V:=(xs.drop (HT.dg xs.length 0 lo)).take (HT.dg xs.length xs.length hi-HT.dg xs.length 0 lo)
def tq (xs:Á V)(lo hi:Ë Int):(vt xs lo hi).length<=xs.length:=by
 unfold vt;rw[Ũ,xa];lia
def YX (K:È):V->Ë Int->Ë Int->Hp->VK->Prop:=λx lo hi H Q=>∃a xs,x=.ref a/\gz K H a xs/\
 ¬(HT.dg xs.length 0 lo=0/\HT.dg xs.length xs.length hi=xs.length)/\∀p,H p=none->Q (.ref p) (upd H p (.tup (vt xs lo hi)))
def SY:Ue X (YX X.K):=by
 intro i s y H x v u w lo hi t Q I n j l m h;obtain⟨a,xs,rfl,k,hw,q⟩:=h;cases n;obtain⟨d,r,f,g⟩:=I.tuple k;have c:d.toArray.size=xs.length:=by rw[Ú];exact r.length.symm
 refine⟨"tuple",_,ř.lookup,f.typeIs,?_⟩;refine HT.qD f j l m (by rw[c];exact hw) ?_ (by rw[c];exact g);rw[c];refine⟨.ref s.heap.objs.size,_,I.laid (t':=s.toks) (o:=.tup (vt xs lo hi)) (λb p q=>Ä _ q) (Í _) ?_,rfl,q _ (I.ţ.fresh (Í _))⟩;exact⟨ĺ (tq xs lo hi) g,_,(r.drop (HT.dg xs.length 0 lo)).take (HT.dg xs.length xs.length hi-HT.dg xs.length 0 lo),ve _ _⟩
def VP (K:È):R2:=λx y H Q=>∃a b xs c,x=.ref a/\y=.ref b/\gz K H a xs/\gz K H b c/\xs≠[]/\xs.length+c.length<=sizeLine/\
 (c=[]->Q (.ref a) H)/\(c≠[]->∀p,H p=none->Q (.ref p) (upd H p (.tup (xs++c))))
def Vals.u5 (r:Vals xs us):us=[] ↔ xs=[]:=by
 cases r with
 |nil=>simp
 |cons _ _=>simp
def NL:jm X (bf .Add) (VP X.K):=by
 intro i s C H x y v u Q I r t h;obtain⟨a,b,xs,A,rfl,rfl,j,k,l,f,n,p⟩:=h;cases r;cases t;obtain⟨m,d,p1,_⟩:=I.tuple j;obtain⟨g,c,p2,_⟩:=I.tuple k;refine HT.Mg p1 p2 (λz=>l (d.u5.mp z)) (λz=>⟨.ref a,H,I,rfl,n (c.u5.mp z)⟩) (λz=>?_) (by rw[<-d.length,<-c.length];exact f);refine⟨.ref s.heap.objs.size,_,I.laid (t':=s.toks) (o:=.tup (xs++A)) (λb B q=>Ä _ q) (Í _) ?_,rfl,p (λw=>z (c.u5.mpr w)) _ (I.ţ.fresh (Í _))⟩;exact⟨by rw[è];exact f,_,d.append c,ve _ _⟩
end
def EX (n:Nat)(i:Int):Ë Nat:=if 0<=i then (if i<n then À i.toNat else none)else if -(n:Int)<=i then À (i+n).toNat else none
def mG {α:Type}(xs:Á α)(i:Int):Ë α:=(EX xs.length i).bind λj=>xs[j]?
def zy (h:EX n i=À j):AS i n=À j/\j<n/\-(n:Int)<=i/\i<n:=by
 unfold EX at h;by_cases b:0<=i
 ·rw[Ò b]at h;by_cases a:i<n
  ·rw[Ò a]at h;have e:i.toNat=j:=æ h;exact⟨by rw[P5 b a,e],by lia,by lia,a⟩
  ·rw[Ø a]at h;cases h
 ·rw[Ø b]at h;by_cases a:-(n:Int)<=i
  ·rw[Ò a]at h;have e:(i+n).toNat=j:=æ h;exact⟨by rw[seqIndex_neg (by lia) a,e],by lia,a,by lia⟩
  ·rw[Ø a]at h;cases h
def y_ (h:mG xs i=À v):∃j,AS i xs.length=À j/\xs[j]?=À v/\j<xs.length/\-(xs.length:Int)<=i/\i<xs.length:=by
 unfold mG at h;cases e:EX xs.length i with
 |none=>rw[e]at h;cases h
 |some j=>
  rw[e]at h;obtain⟨a,b,c,d⟩:=zy e;exact⟨j,a,h,b,c,d⟩
def jd {α:Type}{xs:Á α}{j:Nat}{v:α}(h:xs[j]?=À v):mG xs (j:Int)=À v:=by
 have a:j<xs.length:=(Æ.mp h).1;have e:EX xs.length (j:Int)=À j:=by
  unfold EX;rw[Ò (by lia),Ò (by lia)];simp
 unfold mG;rw[e];exact h
def Ep (b:Expr):Prop:=∀o i,Cp b false o i=operate [o,i] (oi o i)
def TL (X:Cx)(r:R2):Prop:=
 ∀(c a:Expr) (b:Á (Addr×Obj)) (s:Ó) (d:St) (H:Hp) (x y:V) (v u:Value) (Q:VK),Inv X b d H s->RelV x v->RelV y u->r x y H Q->
  Cp a false v u=operate [v,u] (oi v u)->Ù s!"b" X.A (HG c a v u) (EP X b d Q) X.xe s
def Hv (X:Cx)(id:String)(r:V->Á V->Hp->VK->Prop):Prop:=
 ∀(a:Á (Addr×Obj)) (s:Ó) (b:St) (H:Hp) (x:V) (xs:Á V) (v:Value) (us:Á Value) (Q:VK),Inv X a b H s->RelV x v->Vals xs us->r x xs H Q->
  Ù s!"b" X.A (call (.builtin id) (v::us)) (EP X a b Q) X.xe s
section
variable {X:Cx}{a b:Expr}{ta tb:TE}{pos:kR}
def VH (hr:TL X r)(d:PE X a ta)(e:PE X b tb)(f:Ep b):PE X (.Subscript a b pos) (Wh r ta tb):=by
 intro c s k H Q I h;exact FP (Qj d e I h λv u j x y A B g i q=>hr a b c j k A x y v u Q B g i q (f _ _))
def YT (K:È):R2:=λx y H Q=>∃p xs i v,x=.ref p/\y=.int i/\fQ K H p xs/\mG xs i=À v/\Q v H
def YV (K:È):R2:=λx y H Q=>∃p xs i v,x=.ref p/\y=.int i/\gz K H p xs/\mG xs i=À v/\Q v H
def YU:R2:=λx y H Q=>∃z i c,x=.str z/\y=.int i/\z.length<=sizeLine/\mG z.cps.toList i=À c/\Q (.str ⟨#[c]⟩) H
def EZ:TL X (YT X.K):=by
 intro n m c s C H x y v u Q I L M h B;obtain⟨p,xs,i,z,rfl,rfl,J,G,q⟩:=h;cases L;obtain⟨t,rfl⟩:=M;obtain⟨g,r,k,P⟩:=I.list J;obtain⟨j,e,D,N,E,F⟩:=y_ G;obtain⟨w,o,l⟩:=r.get D;have hl:=r.length;have O:=nS;have d:EP X c C Q w s:=⟨z,H,I,l,q⟩
 by_cases A:0<=i
 ·have f:i.toNat=j:=by
   rw[P5 A F]at e;exact æ e
  exact item_listR k.isList A (by lia) (by rw[f];simpa using o) d B
 ·have f:(i+(g.toArray.size:Int)).toNat=j:=by
   rw[seqIndex_neg (by lia) E]at e;rw[Ú,<-hl];exact æ e
  exact qr (x:=w) k.isList.typeIs WJ.lookup
   (wpAny_getItem_list_neg (Q:=λr s'=>r=w/\EP X c C Q r s') k.isList (by lia) (by rw[Ú]<;>lia) (by lia) (by rw[f];simpa using o) ⟨rfl,d⟩) B
def QT:TL X (YV X.K):=by
 intro g f c s l H x y v u Q I E F h C;obtain⟨p,xs,i,z,rfl,rfl,B,A,q⟩:=h;cases E;obtain⟨t,rfl⟩:=F;obtain⟨D,r,k,N⟩:=I.tuple B;obtain⟨j,n,o,G,J,L⟩:=y_ A;obtain⟨w,m,e⟩:=r.get o;have hl:=r.length;have M:=nS;have d:EP X c l Q w s:=⟨z,H,I,e,q⟩
 exact qr (x:=w) k.typeIs T'.lookup
  (getItem_tuple (j:=j) (Q:=λr s'=>r=w/\EP X c l Q r s') k (by lia) (by lia) (by rw[Ú,<-hl];exact n) (by simpa using m) ⟨rfl,d⟩) C
def QS:TL X YU:=by
 intro e d g s F H x y v u Q I w A h r;obtain⟨z,i,c,rfl,rfl,D,p,q⟩:=h;obtain⟨t,rfl⟩:=w;obtain⟨E,rfl⟩:=A;obtain⟨j,f,m,B,n,o⟩:=y_ p;have hl:z.cps.toList.length=z.length:=by simp[Str.length]
 rw[hl]at f n o;have C:=nS;exact tail_any (typeIs_str s z t) slot_str_getitem.lookup (getItem_str (c:=c) (by
  have k:decide (i < -(2^63:Int))=false:=ë (by lia);have l:decide (i≥2^63)=false:=ë (by lia);rw[k,l,TX]) (by rw[f];simpa using m) ⟨.str ⟨#[c]⟩,H,I.tok _,⟨_,rfl⟩,q⟩) r
def Dw (its:Á Value)(n j:Nat)(u:Value):ú (·.setIfInBounds j u) {cls:=.type "list",data:=.seq its.toArray n}={cls:=.type "list",data:=.seq (its.set j u).toArray n}:=by
 simp[ú]
theorem Inv.lst {c:Á (Addr×Obj)}{d:St}{H:Hp}{s:Ó}{p:Addr}{xs:Á V}(I:Inv X c d H s)(h:H p=À (.lst xs)) :
  ∃(its:Á Value) (n:Nat),Vals xs its/\s.heap.get? p=À {cls:=.type "list",data:=.seq its.toArray n}/\xs.length<=sizeLine:=by
 obtain⟨z,its,n,r,e⟩:=I.ţ p _ h;exact⟨its,n,r,e,z⟩
def Inv.Q5 {c:Á (Addr×Obj)}{i:St}{H:Hp}{s:Ó}{p:Addr}{xs ys:Á V}{its its':Á Value}{n d:Nat}{f:Obj->Obj}(I:Inv X c i H s)(h:H p=À (.lst xs))
  (k:s.heap.get? p=À {cls:=.type "list",data:=.seq its.toArray n}) (g:f {cls:=.type "list",data:=.seq its.toArray n}={cls:=.type "list",data:=.seq its'.toArray d}) (r:Vals ys its') (hz:ys.length<=sizeLine) (t:Nat) :
  Inv X c i (upd H p (.lst ys)) {s with heap:=s.heap.update p f,toks:=t}:=by
 have e:(s.heap.update p f).get? p=À {cls:=.type "list",data:=.seq its'.toArray d}:=by
  rw[ā f k (by rw[g]<;>rfl),g]
 refine I.write (x:=p) (e:=p) (by rw[h];trivial) (.inl rfl) (λb u j q=>(í _ _ (ō j)).trans q) ⟨_,e⟩ ?_;exact⟨hz,its',d,r,e⟩
def VW:V->V->V->Hp->(Hp->Prop)->Prop:=λo i v H Q=>∃p xs k j,o=.ref p/\i=.int k/\H p=À (.lst xs)/\EX xs.length k=À j/\Q (upd H p (.lst (xs.set j v)))
def set_list:Qc X VW:=by
 intro d s D H o i v J G u Q I C B rv h;obtain⟨p,xs,k,j,rfl,rfl,x,y,q⟩:=h;cases C;obtain⟨t,rfl⟩:=B;obtain⟨c,n,r,g,z⟩:=I.lst x;obtain⟨e,E,m,w⟩:=zy y;have hl:=r.length;have F:=nS;have A:Inv X d D (upd H p (.lst (xs.set j v))) {s with heap:=s.heap.update p (ú (·.setIfInBounds j u))}:=
  I.Q5 x g (Dw c n j u) (r.set rv j) (by rw[ŵ];exact z) s.toks
 by_cases l:0<=k
 ·have f:k.toNat=j:=by
   rw[P5 l w]at e;exact æ e
  exact PySem.W.ki_setAt g l (by lia) (by rw[Ú,<-hl];exact w) (by rw[f];exact⟨_,A,q⟩)
 ·have f:(k+(c.toArray.size:Int)).toNat=j:=by
   rw[seqIndex_neg (by lia) m]at e;rw[Ú,<-hl];exact æ e
  exact PySem.W.ki_setBack g (by lia) (by rw[Ú,<-hl];exact m) (by lia) (by rw[f];exact⟨_,A,q⟩)
def z0 (lo c:Ë Int)(n:Nat):(kr lo c none n).1=((HT.dg n 0 lo:Nat):Int)/\(kr lo c none n).2.1=((HT.dg n n c:Nat):Int)/\(kr lo c none n).2.2=1:=by
 refine⟨?_,?_,rfl⟩
 ·cases lo with
  |none=>simp[kr,HT.dg]
  |some i=>
   simp only[kr,HT.dg,Ly,show(1:Int) > 0 by decide,fO];by_cases h:i<0
   ·simp only[h,fO]<;>lia
   ·simp only[h,fG]<;>lia
 ·cases c with
  |none=>simp[kr,HT.dg]
  |some i=>
   simp only[kr,HT.dg,Ly,show(1:Int) > 0 by decide,fO];by_cases h:i<0
   ·simp only[h,fO]<;>lia
   ·simp only[h,fG]<;>lia
def xJ (its:Á Value)(lo c:Ë Int):slicePick its.toArray lo c none=((its.drop (HT.dg its.length 0 lo)).take (HT.dg its.length its.length c-HT.dg its.length 0 lo)).toArray:=by
 obtain⟨d,e,f⟩:=z0 lo c its.toArray.size;unfold slicePick;rw[d,e,f];simp only[sliceRange_one,pick_run,Ú]<;>rfl
def YW (K:È):V->Ë Int->Ë Int->Hp->VK->Prop:=λx lo c H Q=>∃a xs,x=.ref a/\fQ K H a xs/\∀p,H p=none->Q (.ref p) (upd H p (.lst (vt xs lo c)))
def Fv:Ue X (YW X.K):=by
 intro f s y H x v u w lo d t Q I n g l m h;obtain⟨a,xs,rfl,i,q⟩:=h;cases n;obtain⟨k,r,e,j⟩:=I.list i;have c:=r.length;refine⟨"list",_,WJ.lookup,e.isList.typeIs,?_⟩;refine wpAny_getItem_list_slice e.isList g l m .none (by simp) ?_ (by rw[Ú]<;>lia);rw[xJ,<-c];refine⟨.ref s.heap.objs.size,_,I.laid (t':=s.toks) (o:=.lst (vt xs lo d)) (λb p q=>Ä _ q) (Í _) ?_,rfl,q _ (I.ţ.fresh (Í _))⟩;exact⟨ĺ (tq xs lo d) j,_,0,(r.drop (HT.dg xs.length 0 lo)).take (HT.dg xs.length xs.length d-HT.dg xs.length 0 lo),Ö _ rfl⟩
def mO:V->Bool
 |.Ĕ=>true
 |.bl _=>true
 |.int _=>true
 |.str _=>true
 |_=>false
def gA:V->V->Bool
 |.Ĕ,.Ĕ=>true
 |.bl a,.bl b=>a == b
 |.bl a,.int b=>(if a then 1 else 0) == b
 |.int a,.bl b=>a == (if b then 1 else 0)
 |.int a,.int b=>a == b
 |.str a,.str b=>a == b
 |_,_=>false
def ŧ (f:RelV y u)(c:RelV x v)(g:mO y=true)(e:mO x=true):rJ A s u v (gA y x):=by
 cases y with
 |Ĕ=>
  cases f;cases x with
  |Ĕ=>cases c;exact tf _
  |bl b=>cases c;exact SeqAt.EqAt.none_bool b
  |int b=>obtain⟨t,rfl⟩:=c;exact SeqAt.EqAt.none_int b t
  |str b=>obtain⟨t,rfl⟩:=c;exact SeqAt.EqAt.none_str b t
  |_=>exact absurd (show false=true from e) à
 |bl a=>
  cases f;cases x with
  |Ĕ=>cases c;exact SeqAt.EqAt.bool_none a
  |bl b=>cases c;exact SeqAt.EqAt.bool_bool a b
  |int b=>obtain⟨t,rfl⟩:=c;exact SeqAt.EqAt.bool_int a b t
  |str b=>obtain⟨t,rfl⟩:=c;exact SeqAt.EqAt.bool_str a b t
  |_=>exact absurd (show false=true from e) à
 |int a=>
  obtain⟨d,rfl⟩:=f;cases x with
  |Ĕ=>cases c;exact SeqAt.EqAt.int_none a d
  |bl b=>cases c;exact SeqAt.EqAt.int_bool a d b
  |int b=>obtain⟨t,rfl⟩:=c;exact SeqAt.EqAt.int_int a d b t
  |str b=>obtain⟨t,rfl⟩:=c;exact Cj a d b t
  |_=>exact absurd (show false=true from e) à
 |str a=>
  obtain⟨d,rfl⟩:=f;cases x with
  |Ĕ=>cases c;exact SeqAt.EqAt.str_none a d
  |bl b=>cases c;exact SeqAt.EqAt.str_bool a d b
  |int b=>obtain⟨t,rfl⟩:=c;exact Cm a d b t
  |str b=>obtain⟨t,rfl⟩:=c;exact SeqAt.EqAt.str_str a d b t
  |_=>exact absurd (show false=true from e) à
 |_=>exact absurd (show false=true from g) à
noncomputable def Bi (x:V)(u:Value):Bool:=match u with
 |.none=>gA .Ĕ x
 |.bool b=>gA (.bl b) x
 |.int i _=>gA (.int i) x
 |.str z _=>gA (.str z) x
 |_=>false
def C2 (r:RelV y u)(f:mO y=true):Bi x u=gA y x:=by
 cases y with
 |Ĕ=>cases r;rfl
 |bl b=>cases r;rfl
 |int i=>obtain⟨t,rfl⟩:=r;rfl
 |str z=>obtain⟨t,rfl⟩:=r;rfl
 |_=>exact absurd (show false=true from f) à
theorem qu:∀{xs:Á V}{us:Á Value},Vals xs us->xs.all mO=true->us.any (Bi x)=xs.any λy=>gA y x
 |_,_,.nil,_=>rfl
 |y::xs,u::us,.cons r t,f=>by
  rw[Ķ,ē]at f;rw[Ų,Ų,C2 r f.1,qu t f.2]
theorem lC (d:RelV x v)(c:mO x=true):∀{xs:Á V}{us:Á Value},Vals xs us->xs.all mO=true->∀u∈us,rJ A s u v (Bi x u)
 |_,_,.nil,_=>λu hu=>by cases hu
 |y::xs,u::us,.cons r t,f=>λe hu=>by
  rw[Ķ,ē]at f;rcases Þ.mp hu with rfl|hu
  ·rw[C2 r f.1];exact ŧ r d f.1 c
  ·exact lC d c t f.2 e hu
def Xa (x:V)(xs:Á V):Bool:=xs.any λy=>gA y x
def rIn (K:È)(c:Bool):R2:=λx y H Q=>∃p xs,y=.ref p/\(fQ K H p xs∨gz K H p xs)/\mO x=true/\xs.all mO=true/\Q (.bl (if c then !Xa x xs else Xa x xs)) H
def GU:jm X (Ĭ .In) (rIn X.K false):=by
 intro g s l H x y v u Q I i k h;obtain⟨p,xs,rfl,hq,f,d,q⟩:=h;cases k;rcases hq with hq|hq
 ·obtain⟨c,r,e,j⟩:=I.list hq;refine OY (Bi x) e.isList (λw hw=>lC i f r d w (by simpa using hw)) ⟨.bl _,H,I,rfl,?_⟩;rw[show c.toArray.any (Bi x)=c.any (Bi x) by simp,qu r d];exact q
 ·obtain⟨c,r,e,j⟩:=I.tuple hq;refine SeqAt.in_tupleAt (Bi x) e (λw hw=>lC i f r d w (by simpa using hw)) ⟨.bl _,H,I,rfl,?_⟩;rw[show c.toArray.any (Bi x)=c.any (Bi x) by simp,qu r d];exact q
def zO:jm X (Ĭ .NotIn) (rIn X.K true):=by
 intro g s l H x y v u Q I i k h;obtain⟨p,xs,rfl,hq,f,d,q⟩:=h;cases k;rcases hq with hq|hq
 ·obtain⟨c,r,e,j⟩:=I.list hq;refine SeqAt.notIn_listAt (Bi x) e.isList (λw hw=>lC i f r d w (by simpa using hw)) ⟨.bl _,H,I,rfl,?_⟩;rw[show c.toArray.any (Bi x)=c.any (Bi x) by simp,qu r d];exact q
 ·obtain⟨c,r,e,j⟩:=I.tuple hq;refine SeqAt.notIn_tupleAt (Bi x) e (λw hw=>lC i f r d w (by simpa using hw)) ⟨.bl _,H,I,rfl,?_⟩;rw[show c.toArray.any (Bi x)=c.any (Bi x) by simp,qu r d];exact q
def zc:aG X (.builtin "len") (λxs H Q=>∃p ys,xs=[.ref p]/\(fQ X.K H p ys∨gz X.K H p ys)/\Q (.int ys.length) H):=by
 intro g s l H xs us Q I r h;obtain⟨p,ys,rfl,hq,q⟩:=h;obtain⟨u,rfl,j⟩:=vals1 r;cases j;have k:=nS;rcases hq with hq|hq
 ·obtain⟨d,f,e,i⟩:=I.list hq;have c:=f.length;exact Calls.call_len_list e.isList (by simp only[Ú]<;>lia) ⟨.int ys.length,H,I.tok _,⟨s.toks+1,by rw[Ú,c]⟩,q⟩
 ·obtain⟨d,f,e,i⟩:=I.tuple hq;have c:=f.length;exact len_tuple e (by simp only[Ú]<;>lia) ⟨.int ys.length,H,I.tok _,⟨s.toks+1,by rw[Ú,c]⟩,q⟩
def zd:aG X (.builtin "len") (λxs H Q=>∃z,xs=[.str z]/\z.length<=sizeLine/\Q (.int z.length) H):=by
 intro c s f H xs us Q I r h;obtain⟨z,rfl,e,q⟩:=h;obtain⟨u,rfl,t,rfl⟩:=vals1 r;have d:=nS;exact len_str (by lia) ⟨.int z.length,H,I.tok _,⟨_,rfl⟩,q⟩
def ze:aG X (.type "list") (λxs H Q=>∃p ys,xs=[.ref p]/\(fQ X.K H p ys∨gz X.K H p ys)/\∀l,H l=none->Q (.ref l) (upd H l (.lst ys))):=by
 intro t s B H xs us Q I r h;obtain⟨p,ys,rfl,hq,q⟩:=h;obtain⟨u,rfl,A⟩:=vals1 r;cases A;have i:∀(c:Á Value),Vals ys c->ys.length<=sizeLine->∀(d:Heap) (f:Nat),(∀b z,s.heap.get? b=À z->d.get? b=À z)->
   d.get? s.heap.objs.size=À {cls:=.type "list",dict:=none,data:=.seq c.toArray f,slots:=#[]}->EP X t B Q (.ref s.heap.objs.size) {s with heap:=d}:=λc g k d f m e=>
  ⟨.ref s.heap.objs.size,_,I.laid (t':=s.toks) m (Í _) (show ş X.prog X.w _ d _ (.lst ys)from⟨k,c,f,g,e⟩),rfl,q _ (I.ţ.fresh (Í _))⟩
 rcases hq with hq|hq
 ·obtain⟨c,g,y,k⟩:=I.list hq;have j:=g.length;obtain⟨o,x,v,n,hd⟩:=y.isList;exact call_list_seq p (.inl rfl) x v hd (λd f m e=>i c g k d f m e) (by simp only[Ú]<;>lia)
 ·obtain⟨c,g,y,k⟩:=I.tuple hq;have j:=g.length;obtain⟨o,x,v,n,hd⟩:=y;exact call_list_seq p (.inr rfl) x v hd (λd f m e=>i c g k d f m e) (by simp only[Ú]<;>lia)
def xu:aG X (.type "tuple") (λxs H Q=>∃p ys,xs=[.ref p]/\((fQ X.K H p ys/\∀l,H l=none->Q (.ref l) (upd H l (.tup ys)))∨(gz X.K H p ys/\Q (.ref p) H))):=by
 intro c s n H xs us Q I r h;obtain⟨p,ys,rfl,h⟩:=h;obtain⟨u,rfl,v⟩:=vals1 r;cases v;rcases h with⟨g,q⟩|⟨g,q⟩
 ·obtain⟨d,j,i,m⟩:=I.list g;have k:=j.length;refine call_tuple_list i.isList (λf t=>?_) (by simp only[Ú]<;>lia);have A:Inv X c n H {s with heap:=f}:=I.kept (t':=s.toks) t;have B:Inv X c n (upd H f.objs.size (.tup ys)) {s with heap:=f.push {cls:=.type "tuple",data:=.seq d.toArray}}:=
   A.laid (t':=s.toks) (λb o e=>Ä _ e) (Í _) (show ş X.prog X.w _ _ _ (.tup ys)from⟨m,d,j,ve _ _⟩)
  exact⟨.ref f.objs.size,_,B,rfl,q _ (A.ţ.fresh (Í _))⟩
 ·obtain⟨d,j,i,m⟩:=I.tuple g;exact call_tuple_same i ⟨.ref p,H,I,rfl,q⟩
def Xj (K:È)(T:String)(x:V)(H:Hp):Prop:=match x with
 |.str _=>T="str"
 |.int _=>T="int"
 |.ref p=>(T="list"/\∃xs,fQ K H p xs)∨(T="tuple"/\∃o,K.lookup p=À o/\o.cls=.type "tuple"/\o.dict=none)∨
   (T="dict"/\((∃c,H p=À (.dK c))∨∃c,H p=À (.dT c)))∨(T="set"/\∃S n,H p=À (.set S n))
 |_=>False
def Ec (I:Inv X l y H s)(r:RelV x v)(g:Xj X.K T x H) :
  s.TypeIs v T/\∀a,v=.ref a->∃k,s.heap.get? a=À k/\k.dict=none:=by
 cases x with
 |str z=>
  obtain⟨t,rfl⟩:=r;cases (show T="str" from g);exact⟨typeIs_str s z t,λ_ e=>nomatch e⟩
 |int i=>
  obtain⟨t,rfl⟩:=r;cases (show T="int" from g);exact⟨typeIs_int s i t,λ_ e=>nomatch e⟩
 |ref p=>
  cases r;rcases g with⟨rfl,xs,u⟩|⟨rfl,o,d,q,hd⟩|⟨rfl,d⟩|⟨rfl,S,n,d⟩
  ·obtain⟨w,_,m,_⟩:=I.list u;refine⟨m.isList.typeIs,λa e=>?_⟩;cases e;obtain⟨o,n,e,c,hd,_⟩:=m;exact⟨o,e,hd⟩
  ·refine⟨⟨o,I.mi p o d,q⟩,λa e=>?_⟩;cases e;exact⟨o,I.mi _ o d,hd⟩
  ·have z:∃o,s.heap.get? p=À o/\o.ExactDict:=by
    rcases d with⟨j,d⟩|⟨j,d⟩
    ·obtain⟨_,_,_,_,o,_,_,e,f,_⟩:=I.ţ p _ d;exact⟨o,e,f⟩
    ·obtain⟨_,_,_,_,o,_,_,e,f,_⟩:=I.ţ p _ d;exact⟨o,e,f⟩
   obtain⟨o,e,f⟩:=z;refine⟨⟨o,e,f.1⟩,λa h=>?_⟩;cases h;exact⟨o,e,f.2.1⟩
  ·obtain⟨o,_,_,_,e,f,_⟩:=I.ţ p _ d;refine⟨⟨o,e,f.1⟩,λa h=>?_⟩;cases h;exact⟨o,e,f.2.1⟩
 |_=>exact aF g
def Y_ (K:È)(T:String)(r:V->Á V->Hp->VK->Prop)(c:TE):TE:=λd H Q=>c d H λx A=>Xj K T x A/\r x [] A Q
def Y9 (K:È)(T:String)(r:V->Á V->Hp->VK->Prop)(d:TE)(t:TA):TE:=λc H Q=>d c H λx A=>Xj K T x A/\t c A λxs B=>r x xs B Q
variable {o e:Expr}{es:Á Expr}{to:TE}{t:TA}{name:Str}{ky je:kR}{T id:String}{r:V->Á V->Hp->VK->Prop}
def R8 (q:xi T)(g:Slot T name id)(i:Ua (.builtin id)=pure (.type "method_descriptor")) (n:Hv X id r)(p:PE X o to)
  (d:a8 o name X.env (Ė o X.env)=Ė o X.env:=by rfl) (f:(ky.endLine == je.line)=true:=by rfl):PE X (.Call (.Attribute o name ky) [] [] je) (Y_ X.K T r to):=by
 intro c s k H Q I h;refine wpAny_Call_method0_late d f (ak (p c s k H _ I h) λv w z=>?_);obtain⟨x,B,A,j,y,u⟩:=z;obtain⟨l,m⟩:=Ec A j y;exact⟨T,id,q,g,i,l,m,gH rfl (PySem.evalArgs_none (n c w k B x [] v [] Q A j .nil u))⟩
def VG (E:xi T)(j:Slot T name id)(k:Ua (.builtin id)=pure (.type "method_descriptor")) (w:Hv X id r)(y:PE X o to)(u:PA X (e::es) t)
  (f:a8 o name X.env (Ė o X.env)=Ė o X.env:=by rfl)
  (i:((ģ je (Ì (e::es) X.env)).all (λx=>!x.1)&&(gI je (bP [] X.env)).all (λx=>x.1.isSome)
   && decide ((e::es).length+([]:Á i7).length+(if ([]:Á i7).isEmpty then 0 else 1)<30))=true:=by rfl)
  (g:(ky.endLine == je.line)=true:=by rfl) (z:Ì (e::es) X.env=s!"k"::Ì es X.env:=by rfl) (d:(ģ je (Ì es X.env)).any (·.1)=false:=by rfl) :
  PE X (.Call (.Attribute o name ky) (e::es) [] je) (Y9 X.K T r to t):=by
 intro c s m H Q I h;refine wpAny_Call_method_late f i g rfl (ak (y c s m H _ I h) λv L l=>?_);obtain⟨x,B,A,n,N,F⟩:=l;obtain⟨p,q⟩:=Ec A n N;refine⟨T,id,E,j,k,p,q,?_⟩;have hA:=u je c L m B _ A F;rw[z]at hA⊢;refine gH (by show(false||(ģ je (Ì es X.env)).any (·.1))=false;rw[d]<;>rfl) (pj ?_);exact ak hA λus M l=>iX l λO C D J G=>w c M m C x O v us Q D n J G
end
def MtM (X:Cx)(id:String)(r:V->Á V->Hp->VK->Prop):Prop:=
 ∀(a:Á (Addr×Obj)) (s:Ó) (b:St) (H:Hp) (x:V) (xs:Á V) (v:Value) (us:Á Value) (Q:VK),Inv X a b H s->RelV x v->Vals xs us->r x xs H Q->
  Ù s!"b" X.A (call (.builtin id) (v::us)) (EP X a b Q) X.xe s
def Vals.one:∀{x:V}{us:Á Value},Vals [x] us->∃u,us=[u]/\RelV x u
 |_,_,.cons r .nil=>⟨_,rfl,r⟩
theorem Vals.eraseIdx:∀{xs:Á V}{us:Á Value}(i:Nat),Vals xs us->Vals (xs.eraseIdx i) (us.eraseIdx i)
 |_,_,_,.nil=>.nil
 |_,_,0,.cons _ t=>t
 |_,_,i+1,.cons r t=>.cons r (Vals.eraseIdx i t)
theorem yv:∀(l:Á α)(i:Nat),(l.eraseIdx i).length<=l.length
 |[],_=>Í _
 |_::_,0=>mC _
 |_::r,i+1=>ny (yv r i)
section
variable {X:Cx}{ÿ:Á (Addr×Obj)}{σ:St}{H:Hp}{s:Ó}{l b:Addr}{xs ys zs:Á V}
def Inv.Vb {its its':Á Value}{n:Nat}{f:Ē Value->Ē Value}{t':Nat}(I:Inv X ÿ σ H s)(a:H l=À (.lst xs))
  (e:s.heap.get? l=À {cls:=.type "list",data:=.seq its.toArray n}) (d:f its.toArray=its'.toArray) (g:Vals ys its') (hz:ys.length<=sizeLine) :
  Inv X ÿ σ (upd H l (.lst ys)) {s with heap:=s.heap.update l (ú f),toks:=t'}:=by
 have q:=PySem.IsL.update e f;rw[d]at q;refine I.write (x:=l) (e:=l) (by rw[a];exact trivial) (.inl rfl) (λh u c hu=>(í s.heap (ú f) (ō c)).trans hu) ⟨_,q⟩ ?_;exact⟨hz,its',_,g,q⟩
def Inv.Q3 (I:Inv X ÿ σ H s)(a:Vals ys its)(hz:ys.length<=sizeLine) :
  Inv X ÿ σ (upd H s.heap.objs.size (.lst ys)) {s with heap:=s.heap.push {cls:=.type "list",data:=.seq its.toArray},toks:=t'}:=
 I.laid (λ_ _ q=>Ä _ q) (Í _) ⟨hz,its,0,a,Ö _ rfl⟩
theorem Inv.fresh (I:Inv X ÿ σ H s):H s.heap.objs.size=none:=I.ţ.fresh (Í _)
def Inv.GG (I:Inv X ÿ σ H s)(a:H l=À (.lst xs)):xs.length<=sizeLine/\∃(its:Á Value) (n:Nat),Vals xs its/\xs.length=its.length/\s.heap.get? l=À {cls:=.type "list",data:=.seq its.toArray n}:=by
 obtain⟨z,its,n,r,e⟩:=I.ţ l _ a;exact⟨z,its,n,r,r.length,e⟩
end
section
variable {X:Cx}
def Of:V->Á V->Hp->VK->Prop:=λx a H Q=>∃l xs y,x=.ref l/\a=[y]/\H l=À (.lst xs)/\xs.length<sizeLine/\Q .Ĕ (upd H l (.lst (xs++[y])))
def yz:MtM X "list.append" Of:=by
 intro c s j H x i v us Q I f rv h;obtain⟨l,xs,y,rfl,rfl,b,g,q⟩:=h;cases f;obtain⟨u,rfl,d⟩:=rv.one;obtain⟨z,a,n,r,hl,e⟩:=I.GG b;refine FU F.slot_list_append ⟨_,e,rfl⟩ F.entry_list_append (F.args_list_append_2 _ _) (PySem.list_append l a.toArray n u (by rw[Ú];lia)) ⟨e,?_⟩;refine⟨.Ĕ,_,I.Vb (its':=a++[u]) b e (by simp) (r.append (.cons d .nil)) ?_,rfl,q⟩;rw[è,FJ];lia
def SG:V->Á V->Hp->VK->Prop:=λx a H Q=>∃l xs i k y,x=.ref l/\a=[.int i]/\H l=À (.lst xs)/\-(2^63)<=i/\i<2^63/\AS i xs.length=À k/\xs[k]?=À y/\Q y (upd H l (.lst (xs.eraseIdx k)))
def JK:MtM X "list.pop" SG:=by
 intro d s B H x A v us Q I p rv h;obtain⟨l,xs,i,k,y,rfl,rfl,c,f,g,j,m,q⟩:=h;cases p;obtain⟨u,rfl,o⟩:=rv.one;obtain⟨t,rfl⟩:=o;obtain⟨z,a,n,r,hl,e⟩:=I.GG c;obtain⟨w,hw,b⟩:=r.get m;refine FU F.slot_list_pop ⟨_,e,rfl⟩ F.entry_list_pop (F.args_list_pop_2 _ _)
  (MeetsSeq.list_pop_at l a.toArray n i t k w (fitsIndex_both f g) (by rw[Ú,<-hl];exact j) (by rw[<-aA];exact hw) (by rw[Ú];lia)) ⟨e,?_⟩
 refine⟨y,_,I.Vb (its':=a.eraseIdx k) c e ?_ (r.eraseIdx k) ?_,b,q⟩
 ·show a.toArray.eraseIdxIfInBounds k=(a.eraseIdx k).toArray;rw[List.eraseIdxIfInBounds_toArray]
 ·have:=yv xs k;lia
def YQ:R2:=λx y H Q=>∃l b xs a,x=.ref l/\y=.ref b/\H l=À (.lst xs)/\H b=À (.lst a)/\xs.length+a.length<=sizeLine/\∀p,H p=none->Q (.ref p) (upd H p (.lst (xs++a)))
def RY:jm X (bf .Add) YQ:=by
 intro d s C H x y v u Q I o p h;obtain⟨l,b,xs,B,rfl,rfl,j,i,t,q⟩:=h;cases o;cases p;obtain⟨z,c,n,r,hl,e⟩:=I.GG j;obtain⟨A,a,w,m,k,f⟩:=I.GG i;refine PySem.P.add_list e f ?_ (by rw[Ú,Ú];lia);have g:c.toArray++a.toArray=(c++a).toArray:=by simp
 rw[g];exact⟨.ref _,_,I.Q3 (t':=s.toks) (r.append m) (by rw[è];lia),rfl,q _ I.fresh⟩
end
section
variable {prog:ď}{w:ī}{A:Ň}{E:Value->Ó->Prop}{s:Ó}
end
section
variable {X:Cx}
end
section
variable {κ:Type} [oh κ]
def jl (kvs:Á (κ×V)) (k:κ):Ë V:=(kvs.find? λa=>decide (a.1=k)).map (·.2)
def putK (kvs:Á (κ×V)) (k:κ)(v:V):Á (κ×V):=
 if (kvs.any λa=>decide (a.1=k))=true then kvs.map (λa=>if a.1=k then (a.1,v)else a)else kvs++[(k,v)]
def n_ {p:κ×V}{r:Á (κ×V)}{k:κ}(e:p.1=k):jl (p::r) k=À p.2:=by simp[jl,bZ,e]
def n9 {p:κ×V}{r:Á (κ×V)}{k:κ}(e:¬p.1=k):jl (p::r) k=jl r k:=by simp[jl,bZ,e]
theorem B' (k:κ):∀kvs:Á (κ×V),(kvs.any λa=>decide (a.1=k))=(jl kvs k).isSome
 |[]=>rfl
 |p::r=>by
  rw[Ų];by_cases e:p.1=k
  ·simp only[n_ e,Ă e,Ww,Hq]
  ·rw[n9 e,ë e,rn];exact B' k r
def nR (kvs:Á (κ×V)) (k:κ)(v:V):(putK kvs k v).length<=kvs.length+1:=by
 unfold putK;split
 ·rw[É];lia
 ·rw[è,ć,df];lia
def m7.lz (r:m7 o u):o.isSome=u.isSome:=by
 cases o with
 |none=>cases u with
  |none=>rfl
  |some _=>exact(show False from r).elim
 |some _=>cases u with
  |none=>exact(show False from r).elim
  |some _=>rfl
theorem m7.getD (r:m7 o u)(a:RelV d d'):RelV (o.getD d) (u.getD d'):=by
 cases o with
 |none=>cases u with
  |none=>exact a
  |some _=>exact(show False from r).elim
 |some _=>cases u with
  |none=>exact(show False from r).elim
  |some _=>exact r
def KV.val {kvs:Á (κ×V)}{vs:Á (κ×Value)}(r:KV kvs vs)(k:κ):m7 (jl kvs k) (yW vs k):=by
 unfold KV at r;induction r with
 |nil=>exact bD
 |@cons p q i c h t g=>
  obtain⟨d,f⟩:=h;by_cases e:p.1=k
  ·have a:q.1=k:=d.symm.trans e;have b:yW (q::c) k=À q.2:=by simp[yW,bZ,a]
   rw[n_ e,b];exact f
  ·have a:¬q.1=k:=λz=>e (d.trans z);have b:yW (q::c) k=yW c k:=by simp[yW,bZ,a]
   rw[n9 e,b];exact g
theorem KV.any (r:KV kvs vs)(k:κ):(kvs.any λa=>decide (a.1=k))=vs.any λa=>decide (a.1=k):=by
 unfold KV at r;induction r with
 |nil=>rfl
 |cons h t b=>rw[Ų,Ų,b,h.1]
def KV.SO (r:KV kvs vs)(k:κ)(f:RelV y u) :
  KV (kvs.map λa=>if a.1=k then (a.1,y)else a) (vs.map λa=>if a.1=k then (a.1,u)else a):=by
 unfold KV at r⊢;induction r with
 |nil=>exact .nil
 |@cons p q g i h t d=>
  rw[Î,Î];refine .cons ?_ d;obtain⟨b,c⟩:=h;by_cases e:p.1=k
  ·rw[Ò e,Ò (b.symm.trans e)];exact⟨b,f⟩
  ·rw[Ø e,Ø (λz=>e (b.trans z))];exact⟨b,c⟩
def KV.put (r:KV kvs vs)(k:κ)(a:RelV y u):KV (putK kvs k y) (stored vs k u):=by
 unfold putK stored;rw[r.any k];by_cases e:(vs.any λb=>decide (b.1=k))=true
 ·rw[Ò e,Ò e];exact r.SO k a
 ·rw[Ø e,Ø e];exact T3 r ⟨rfl,a⟩
theorem KV.length (r:KV kvs vs):kvs.length=vs.length:=qm r
end
def tU (r:RelV (kV k) u):(ſ P w).is k u=true:=by
 cases k with
 |inl i=>obtain⟨t,e⟩:=(show ∃t,u=mY i t from r);subst e;exact tZ P w i t
 |inr x=>obtain⟨t,e⟩:=(show ∃t,u=vl x t from r);subst e;exact t4 P w x t
theorem ym:∀{ks:Á Key}{us:Á Value},Vals (ks.map kV) us->ItemsAre (ſ P w) ks us
 |[],_,r=>by rw[aj]at r;cases r;exact .nil
 |k::ks,_,r=>by
  rw[Î]at r;cases r with
  |cons h t=>exact .cons (tU h) (ym t)
abbrev KT (H:Hp):Á (Á Key×V)->Á (Á Key×Addr×Value)->Prop:=Paired λp q=>p.1=q.1/\H q.2.1=À (.tup (p.1.map kV))/\RelV p.2 q.2.2
def KT.val {H:Hp}{kvs:Á (Á Key×V)}{xs:Á (Á Key×Addr×Value)}(r:KT H kvs xs)(k:Á Key):m7 (jl kvs k) ((FR xs k).map (·.2)):=by
 induction r with
 |nil=>exact bD
 |@cons p q i c h t g=>
  obtain⟨d,_,f⟩:=h;by_cases e:p.1=k
  ·have a:q.1=k:=d.symm.trans e;have b:FR (q::c) k=À q.2:=by simp[FR,bZ,a]
   rw[n_ e,b];exact f
  ·have a:¬q.1=k:=λz=>e (d.trans z);have b:FR (q::c) k=FR c k:=by simp[FR,bZ,a]
   rw[n9 e,b];exact g
def KT.SO (r:KT H kvs xs)(k:Á Key)(g:RelV y u) :
  KT H (kvs.map λb=>if b.1=k then (b.1,y)else b) (xs.map (putAt k u)):=by
 induction r with
 |nil=>exact .nil
 |@cons p q i j h t f=>
  rw[Î,Î];refine .cons ?_ f;obtain⟨a,c,d⟩:=h;unfold putAt;by_cases e:p.1=k
  ·rw[Ò e,Ò (a.symm.trans e)];exact⟨a,c,g⟩
  ·rw[Ø e,Ø (λz=>e (a.trans z))];exact⟨a,c,d⟩
def KT.put (r:KT H kvs xs)(k:Á Key)(c:H b=À (.tup (k.map kV))) (a:RelV y u) :
  KT H (putK kvs k y) (storedH xs k b u):=by
 have e:(kvs.any λd=>decide (d.1=k))=(FR xs k).isSome:=by
  rw[B',(r.val k).lz,s_]
 unfold putK storedH;rw[e];by_cases q:(FR xs k).isSome=true
 ·rw[Ò q,Ò q];exact r.SO k a
 ·rw[Ø q,Ø q];exact T3 r ⟨rfl,c,a⟩
def KT.keeps (r:KT H kvs xs)(a:∀b ys,H b=À (.tup ys)->H' b=À (.tup ys)):KT H' kvs xs:=
 Paired.Q7 r λ_ _ z=>⟨z.1,a _ _ z.2.1,z.2.2⟩
section
variable {P:ď}{w:ī}{H:Hp}{h:Heap}{a:Addr}
def PK (b:m5 P w H h)(e:Rd H a u):ş P w H h a u:=e.ok b
def tw (b:m5 P w H h)(e:Rd H a (.dK kvs)):kvs.length<=sizeLine/\(a == b8)=false/\∃vs,KV kvs vs/\h.DictOf (ſ P w) a vs:=
 show ş P w H h a (.dK kvs)from PK b e
def Iw (b:m5 P w H h)(e:H a=À (.dK kvs)):kvs.length<=sizeLine/\(a == b8)=false/\∃vs,KV kvs vs/\h.DictOf (ſ P w) a vs:=tw b (.inl e)
def pS (g:m5 P w H h)(e:H a=À (.tup (ks.map kV))):(mF (ſ P w)).is h ks a:=by
 obtain⟨_,b,r,o,c,d,n,f⟩:=(show ş P w H h a (.tup (ks.map kV))from g a _ e)
 exact⟨o,b.toArray,n,c,d,f,by simpa using ym r⟩
def tD (c:m5 P w H h)(e:Rd H a (.dT kvs)):kvs.length<=sizeLine/\(a == b8)=false/\
  ∃xs,KT H kvs xs/\h.DictOfH (mF (ſ P w)) a xs:=by
 obtain⟨z,y,xs,r,o,f,d,g,i,j,k,n⟩:=(show ş P w H h a (.dT kvs)from PK c e)
 refine⟨z,y,xs,r,o,f,d,g,i,j,k,λx hx=>?_,n⟩;have all:∀{l:Á (Á Key×V)}{m:Á (Á Key×Addr×Value)},KT H l m->∀x∈m,(mF (ſ P w)).is h x.1 x.2.1:=by
  intro l m q;induction q with
  |nil=>intro x hx;exact nomatch hx
  |@cons p q u v b t s=>
   intro x hx;rcases Þ.mp hx with e|hx
   ·subst e;exact pS c (by rw[<-b.1];exact b.2.1)
   ·exact s x hx
 exact all r x hx
def Ux (b:m5 P w H h)(e:H a=À (.dT kvs)):kvs.length<=sizeLine/\(a == b8)=false/\
  ∃xs,KT H kvs xs/\h.DictOfH (mF (ſ P w)) a xs:=tD b (.inl e)
end
def jo (H:Hp)(a:Addr)(y:V)(r:Ë V):Prop:=
 (∃c k,Rd H a (.dK c)/\y=kV k/\r=jl c k)∨∃c k b,Rd H a (.dT c)/\y=.ref b/\H b=À (.tup (k.map kV))/\r=jl c k
def xq (H:Hp)(a:Addr)(y v:V)(H':Hp):Prop:=
 (∃c k,H a=À (.dK c)/\y=kV k/\c.length<sizeLine/\H'=upd H a (.dK (putK c k v)))∨
 ∃c k b,H a=À (.dT c)/\y=.ref b/\H b=À (.tup (k.map kV))/\c.length<sizeLine/\H'=upd H a (.dT (putK c k v))
theorem jo.k {H:Hp}{a:Addr}{kvs:Á (Key×V)}{k:Key}(e:H a=À (.dK kvs)):jo H a (kV k) (jl kvs k):=.inl ⟨kvs,k,.inl e,rfl,rfl⟩
def jo.t {H:Hp}{a b:Addr}{kvs:Á (Á Key×V)}{k:Á Key}(e:H a=À (.dT kvs)) (c:H b=À (.tup (k.map kV))):jo H a (.ref b) (jl kvs k):=.inr ⟨kvs,k,b,.inl e,rfl,c,rfl⟩
theorem xq.k {H:Hp}{a:Addr}{kvs:Á (Key×V)}{k:Key}{v:V}(e:H a=À (.dK kvs)) (hl:kvs.length<sizeLine):xq H a (kV k) v (upd H a (.dK (putK kvs k v))):=.inl ⟨kvs,k,e,rfl,hl,rfl⟩
def xq.t {H:Hp}{a b:Addr}{kvs:Á (Á Key×V)}{k:Á Key}{v:V}(e:H a=À (.dT kvs)) (c:H b=À (.tup (k.map kV))) (hl:kvs.length<sizeLine) :
  xq H a (.ref b) v (upd H a (.dT (putK kvs k v))):=.inr ⟨kvs,k,b,e,rfl,c,hl,rfl⟩
section
variable {X:Cx}{ÿ:Á (Addr×Obj)}{σ:St}{H:Hp}{s:Ó}{a:Addr}{y v:V}{u r:Value}{o:Ë V}{A:Ň}{E:Value->Ó->Prop}
def Inv.big (I:Inv X ÿ σ H s):b8<s.heap.objs.size:=by
 have h:mainGlobals<s.heap.objs.size:=(I.mod.glob.keeps I.bk).lt;exact oE s!"i" h
def Ge (hu:A.units+1<cLine)(I:Inv X ÿ σ H s)(g:jo H a y (À v)) (q:RelV y u)(h:∀f s',Inv X ÿ σ H s'->RelV v f->Q f s') :
  Ù s!"b" A (oi (.ref a) u) Q E s:=by
 rcases g with⟨n,k,e,j,l⟩|⟨n,k,b,e,j,t,l⟩
 ·subst j;obtain⟨z,hd,B,c,i⟩:=tw I.ţ e;obtain⟨f,hw,d⟩:=m7.some_of (v:=v) (o:=yW B k) (by rw[l];exact c.val k);exact wpAny_getItem_of (tU q) i.mapOf hw (h f _ (I.tok _) d)
 ·subst j;cases (show u=Ñ b from q);obtain⟨z,hd,xs,c,i⟩:=tD I.ţ e;obtain⟨f,hw,d⟩:=m7.some_of (v:=v) (o:=(FR xs k).map (·.2)) (by rw[l];exact c.val k);obtain⟨p,x,m⟩:=Option.map_eq_some_iff.mp hw;refine wpAny_getItem_heap (dI hu) (pS I.ţ t) i x ?_;rw[m];exact h f _ (I.tok _) d
def X8 (hu:A.units+1<cLine)(I:Inv X ÿ σ H s)(g:jo H a y o)(j:RelV y u)(h:∀s',Inv X ÿ σ H s'->Q (.bool o.isSome) s') :
  Ù s!"b" A (Ĭ .In u (.ref a)) Q E s:=by
 rcases g with⟨i,k,e,f,l⟩|⟨i,k,b,e,f,m,l⟩
 ·subst f;obtain⟨z,hd,n,c,d⟩:=tw I.ţ e;refine wpAny_in_of (tU j) hd d.mapOf ?_;rw[<-(c.val k).lz,<-l];exact h _ (I.tok _)
 ·subst f;cases (show u=Ñ b from j);obtain⟨z,hd,xs,c,d⟩:=tD I.ţ e;refine wpAny_in_heap (dI hu) (pS I.ţ m) hd d ?_;have q:=(c.val k).lz;rw[s_]at q;rw[<-q,<-l];exact h _ (I.tok _)
def Mp (hu:A.units+1<cLine)(I:Inv X ÿ σ H s)(g:jo H a y o)(j:RelV y u)(h:∀s',Inv X ÿ σ H s'->Q (.bool (!o.isSome)) s') :
  Ù s!"b" A (Ĭ .NotIn u (.ref a)) Q E s:=by
 rcases g with⟨i,k,e,f,l⟩|⟨i,k,b,e,f,m,l⟩
 ·subst f;obtain⟨z,hd,n,c,d⟩:=tw I.ţ e;refine wpAny_notIn_of (tU j) hd d.mapOf ?_;rw[<-(c.val k).lz,<-l];exact h _ (I.tok _)
 ·subst f;cases (show u=Ñ b from j);obtain⟨z,hd,xs,c,d⟩:=tD I.ţ e;refine wpAny_notIn_heap (dI hu) (pS I.ţ m) hd d ?_;have q:=(c.val k).lz;rw[s_]at q;rw[<-q,<-l];exact h _ (I.tok _)
def zh (I:Inv X ÿ σ H s)(i:TM (H a)) (h:e8 a s.heap h')(g:∃q,h'.get? a=À q)(c:ş X.prog X.w (upd H a d) h' a d) :
  Inv X ÿ σ (upd H a d) {s with heap:=h',toks:=t'}:=
 I.write (x:=a) (e:=a) i (.inl rfl) (λb q f z=>(h.2 b f).trans z) g c
def Iv (z:kvs.length<=sizeLine)(hd:(a == b8)=false) (b:KV kvs vs)(dd:h'.DictOf (ſ P w) a vs) :
  ş P w H' h' a (.dK kvs):=⟨z,hd,vs,b,dd⟩
def yb (hu:A.units+1<cLine)(I:Inv X ÿ σ H s)(g:xq H a y v H')(F:RelV y u)(rv:RelV v r)(h:∀s',Inv X ÿ σ H' s'->Q () s') :
  Ù s!"b" A (L8 (.ref a) u r) Q E s:=by
 rcases g with⟨d,k,e,p,l,n⟩|⟨d,k,b,e,p,B,l,n⟩
 ·subst p n;obtain⟨z,hd,T,f,m⟩:=Iw I.ţ e;have x:T.length<=sizeLine:=by rw[<-f.length];exact z
  have hl:(putK d k v).length<=sizeLine:=by have:=nR d k v;lia
  refine wpAny_setItem_pairs (hsz:=x) (tU F) m λD i t=>h _ ?_;have P:∃q,D.get? a=À q:=let ⟨q,_,_,j,_⟩:=i;⟨q,j⟩;exact zh I (by rw[e];exact bD) t P (Iv hl hd (f.put k rv) i)
 ·subst p n;cases (show u=Ñ b from F);obtain⟨z,hd,xs,f,m⟩:=Ux I.ţ e;have x:xs.length<=sizeLine:=by rw[<-qm f];exact z
  have hl:(putK d k v).length<=sizeLine:=by have:=nR d k v;lia
  refine wpAny_setItem_heap (hsz:=x) (dI hu) (pS I.ţ B) m λD i t=>h _ ?_;obtain⟨q,J,G,j,L,M,N,_,O⟩:=i;refine zh I (by rw[e];exact bD) t ⟨q,j⟩ ⟨hl,hd,_,(f.put k B rv).keeps λc U C=>?_,q,J,G,j,L,M,N,O⟩;rw[ä (vX C e s!"q")];exact C
end
section
variable {X:Cx}{ÿ:Á (Addr×Obj)}{σ:St}{H:Hp}{s:Ó}{a:Addr}{kvs:Á (Key×V)}{k:Key}{u:Value}{A:Ň}{E:Value->Ó->Prop}
end
def Qa (i:Expr):Prop:=∀b a,Cp i false b a=operate [b,a] (oi b a)
def Oy {prog:ď}{w:ī}{A:Ň}{E:Value->Ó->Prop}{s:Ó}{env:Hl}{b a:Expr}{pos:kR}{T id:String}{Q:Value->Ó->Prop}
  (hl:typeLookup (.type T) "__getitem__"=pure (À (.builtin id))) (m:Qa a)
  (h:Ù s!"j" A (Ė b env) (λo e=>Ù s!"j" A (Ė a env) (λi c=>c.TypeIs o T/\Ù s!"j" A (oi o i) Q E c) E e) E s) :
  Ù s!"j" A (Ė (.Subscript b a pos) env) Q E s:=by
 refine FP (aB h (λo e j=>aB j (λi c d=>?_) λ_ _ x=>x) λ_ _ x=>x);obtain⟨l,d⟩:=d;unfold HG;refine Ã ?_;rw[getitemInPython_of_ne l.not_modules];refine Ã (wpAny_specialOf l hl ?_);have g:Ù s!"j" A (Cp a false o i) (λr f=>Ù s!"j" A (letTemporaryGo b o r >>= λ_=>pure r) Q E f) E c:=by
  rw[m o i];exact wpAny_operating (aB d (λr f k=>Ã (wpAny_letTemporaryGo (Ê k))) λ_ _ x=>x)
 first
  |exact Ê (Ã g)
  |exact Ã (Ê (Ã g))
  |exact Ã g
def Bc (I:Inv X f i H s)(g:jo H a y o):s.TypeIs (.ref a) "dict":=by
 rcases g with⟨d,k,e,_,_⟩|⟨d,k,b,e,_,_,_⟩
 ·obtain⟨_,_,h,_,c⟩:=tw I.ţ e;exact c.typeIs
 ·obtain⟨_,_,xs,_,c⟩:=tD I.ţ e;exact c.typeIs
def Wa (c d:TE):TE:=λb H Q=>c b H λx B=>d b B λy A=>∃a v,x=.ref a/\jo A a y (À v)/\Q v A
def Y' (d c:TE):TE:=λb H Q=>d b H λy B=>c b B λx A=>∃a o,x=.ref a/\jo A a y o/\Q (.bl o.isSome) A
def OA (d c:TE):TE:=λb H Q=>d b H λy B=>c b B λx A=>∃a o,x=.ref a/\jo A a y o/\Q (.bl (!o.isSome)) A
def V4 (c e d:TE):TS:=λD b H=>d b H λv B=>c b B λx C=>e b C λy E=>∃a A,x=.ref a/\xq E a y v A/\D.nx b A
section
variable {X:Cx}{o i e value:Expr}{pos pos' OG:kR}{td ty tv:TE}
def Fh (hu:X.A.units+1<cLine)(k:PE X o td)(j:PE X i ty)(l:Qa i):PE X (.Subscript o i pos) (Wa td ty):=by
 intro b s d H Q I h;refine Oy PySem.F.slot_dict_getitem.lookup l (ak (k b s d H _ I h) λu r t=>iX t λx C E p m=>ak (j b r d C _ E m) λw z ⟨y,D,B,q,a,v,f,g,n⟩=>?_);subst f;obtain rfl:u=Ñ a:=p;exact⟨Bc B g,Ge hu B g q λL J G c=>⟨v,D,G,c,n⟩⟩
def DK (hu:X.A.units+1<cLine)(f:PE X i ty)(j:PE X o td):PC X .In i o (Y' ty td):=by
 intro b s c H Q I h;refine ak (f b s c H _ I h) λt q r=>iX r λy B D p l=>ak (j b q c B _ D l) λu v ⟨x,C,E,n,a,k,d,g,m⟩=>?_;subst d;obtain rfl:u=Ñ a:=n;exact X8 hu E g p λw F=>⟨.bl k.isSome,C,F,rfl,m⟩
def GW (hu:X.A.units+1<cLine)(f:PE X i ty)(j:PE X o td):PC X .NotIn i o (OA ty td):=by
 intro b s c H Q I h;refine ak (f b s c H _ I h) λt q r=>iX r λy B D p l=>ak (j b q c B _ D l) λu v ⟨x,C,E,n,a,k,d,g,m⟩=>?_;subst d;obtain rfl:u=Ñ a:=n;exact Mp hu E g p λw F=>⟨.bl (!k.isSome),C,F,rfl,m⟩
def Fp (hu:X.A.units+1<cLine)(k:PE X o td)(j:PE X i ty)(m:PE X value tv)(l:eS value (À (.Subscript o i pos')) pos.line X.env=pure false) :
  PS X (.Assign [.Subscript o i pos'] value pos) (V4 td ty tv):=by
 intro b s c H D I h;refine wpAny_Assign_Subscript (ak (m b s c H _ I h) λr z d=>iX d λv B F rv n=>ak (k b z c B _ F n) λu M d=>iX d λx C G t p=>ak (j b M c C _ G p) λO P ⟨y,N,J,w,a,E,f,g,q⟩=>?_) l;subst f;obtain rfl:u=Ñ a:=t;exact yb hu J g w rv λQ L=>⟨c,E,L,q⟩
end
def Bd (h:Heap)(a:b8<h.objs.size):ş P w H (h.push {cls:=.type "dict",data:=.dict #[]}) h.objs.size (.dK []):=
 ⟨ê _,Ŝ.mpr (ō (ñ a)),[],.nil,aad h⟩
def Iz (h:Heap)(a:b8<h.objs.size):ş P w H (h.push {cls:=.type "dict",data:=.dict #[]}) h.objs.size (.dT []):=
 ⟨ê _,Ŝ.mpr (ō (ñ a)),[],.nil,_,#[],0,Ö _ rfl,⟨rfl,rfl,rfl⟩,rfl,rfl,List.nodup_nil⟩
def S9:TE:=λ_ H Q=>∀p,H p=none->Q (.ref p) (upd H p (.dK []))
def S_:TE:=λ_ H Q=>∀p,H p=none->Q (.ref p) (upd H p (.dT []))
section
variable {X:Cx}{pos:kR}
def J':PE X (.Dict [] [] pos) S9:=λb s c H Q I h=>
 XW ⟨.ref s.heap.objs.size,_,I.laid (a:=s.heap.objs.size) (o:=.dK []) (t':=s.toks) (λ_ _ q=>Ä _ q) (Í _) (Bd s.heap I.big),rfl,h _ (I.ţ.fresh (Í _))⟩
def Ka:PE X (.Dict [] [] pos) S_:=λb s c H Q I h=>
 XW ⟨.ref s.heap.objs.size,_,I.laid (a:=s.heap.objs.size) (o:=.dT []) (t':=s.toks) (λ_ _ q=>Ä _ q) (Í _) (Iz s.heap I.big),rfl,h _ (I.ţ.fresh (Í _))⟩
end
def Aa:Á (TE×TE)->St->Hp->(Á (V×V)->Hp->Prop)->Prop
 |[],_,H,Q=>Q [] H
 |(c,d)::r,a,H,Q=>c a H λx A=>d a A λy B=>Aa r a B λb C=>Q ((x,y)::b) C
abbrev VV:Á (V×V)->Á (Value×Value)->Prop:=Paired λp q=>RelV p.1 q.1/\RelV p.2 q.2
def O3 (X:Cx)(pos:kR)(c:Á (Ë Expr)) (a:Á Expr)(d:Á (TE×TE)):Prop:=
 ∀(b:Á (Addr×Obj)) (s:Ó) (e:St) (H:Hp) (Q:Á (V×V)->Hp->Prop),Inv X b e H s->Aa d e H Q->
  Ù s!"b" X.A (evalPairs (pairTrees c a X.env pos)) (λg s'=>∃f B,Inv X b e B s'/\VV f g/\Q f B) X.xe s
def N7:O3 X pos [] [] []:=λa s b H Q I h=>pairTrees_nil_walk ⟨[],H,I,.nil,h⟩
def Kn (f:PE X k r)(g:PE X v t)(hr:O3 X pos ks vs d) :
  O3 X pos (À k::ks) (v::vs) ((r,t)::d):=λa s e H Q I h=>
 pairTrees_cons_walk (ak (f a s e H _ I h) λu p b=>iX b λx A D n j=>ak (g a p e A _ D j) λz q b=>iX b λy B E o l=>
  ak (hr a q e B _ E l) λG w b=>iX b λi C F c m=>⟨(x,y)::i,C,F,.cons ⟨n,o⟩ c,m⟩)
def gZ (kvs more:Á (Key×V)):Á (Key×V):=more.foldl (λa b=>putK a b.1 b.2) kvs
def KV.merge:∀{more:Á (Key×V)}{rs:Á (Key×Value)}{kvs:Á (Key×V)}{vs:Á (Key×Value)},KV more rs->KV kvs vs->KV (gZ kvs more) (merged vs rs):=by
 intro more rs kvs vs r;unfold KV at r;induction r generalizing kvs vs with
 |nil=>intro q;exact q
 |@cons p q c d h t a=>
  intro b;have e:KV (putK kvs p.1 p.2) (stored vs q.1 q.2):=by
   have:=b.put p.1 h.2;rw[<-h.1];exact this
  exact a e
theorem pb:∀(more kvs:Á (Key×V)),(gZ kvs more).length<=kvs.length+more.length
 |[],kvs=>by show kvs.length<=kvs.length+0;lia
 |p::r,kvs=>by
  have a:=pb r (putK kvs p.1 p.2);have b:=nR kvs p.1 p.2;show(gZ (putK kvs p.1 p.2) r).length<=_;rw[ć];lia
theorem vq:∀{kvs:Á (Key×V)}{ws:Á (Value×Value)},VV (kvs.map λd=>(kV d.1,d.2)) ws->∃rs,Carries (ſ P w) ws rs/\KV kvs rs
 |[],_,r=>by rw[aj]at r;cases r;exact⟨[],bD,.nil⟩
 |p::kvs,_,r=>by
  rw[Î]at r;cases r with
  |@cons a b f bs h t=>
   obtain⟨rs,c,q⟩:=vq (P:=P) (w:=w) t;obtain⟨g,e⟩:=b;exact⟨(p.1,e)::rs,⟨tU h.1,rfl,c⟩,.cons ⟨rfl,h.2⟩ q⟩
def Wb (b:Á (TE×TE)):TE:=λe H Q=>∀p,H p=none->Aa b e (upd H p (.dK [])) λd A=>A p=À (.dK [])/\∃a:Á (Key×V),d=a.map (λc=>(kV c.1,c.2))/\a.length<=15/\Q (.ref p) (upd A p (.dK (gZ [] a)))
def NR (h:O3 X pos b d m)(g:b.all (·.isSome)=true) (hl:b.length=d.length)(h0:b≠[])
  (k:b.length<=15):PE X (.Dict b d pos) (Wb m):=by
 intro j s L H Q I q;have u:=I.ţ.fresh (Í s.heap.objs.size);have B:=I.laid (a:=s.heap.objs.size) (o:=.dK []) (h':=s.heap.push {cls:=.type "dict",data:=.dict #[]}) (t':=s.toks) (λ_ _ q=>Ä _ q) (Í _) (Bd s.heap I.big);refine wpAny_Dict_walk (knd:=ſ X.prog X.w) g hl h0 k (ak (h j _ L _ _ B (q _ u)) λU T J=>?_);obtain⟨O,M,A,l,e,i,p,N,C⟩:=J;subst p;obtain⟨F,c,E⟩:=vq (P:=X.prog) (w:=X.w) l;obtain⟨z,hd,G,D,n⟩:=Iw A.ţ e;cases D;refine⟨F,c,n,λh' f x=>⟨.ref s.heap.objs.size,_,?_,rfl,C⟩⟩;have y:(gZ [] i).length<=sizeLine:=by
  have r:=pb i [];rw[df]at r;rw[İ];lia
 have t:∃q,h'.get? s.heap.objs.size=À q:=let ⟨q,_,_,v,_⟩:=f;⟨q,v⟩;exact zh A (by rw[e];exact bD) x t (Iv y hd (E.merge .nil) f)
structure M1 (X:Cx)(o:Expr)(m:Str)(ky:kR)(e:Expr)(je:kR):Prop where
 base:a8 o m X.env (Ė o X.env)=Ė o X.env
 X':((ģ je (Ì [e] X.env)).all (λx=>!x.1)&&(gI je (bP [] X.env)).all (λx=>x.1.isSome)
  && decide (([e]:Á Expr).length+([]:Á i7).length+(if ([]:Á i7).isEmpty then 0 else 1)<30))=true
 line:(ky.endLine == je.line)=true
 trees:ģ je (Ì [e] X.env)=[s!"k"]
structure M2 (X:Cx)(o:Expr)(m:Str)(ky:kR)(e f:Expr)(je:kR):Prop where
 base:a8 o m X.env (Ė o X.env)=Ė o X.env
 X':((ģ je (Ì [e,f] X.env)).all (λx=>!x.1)&&(gI je (bP [] X.env)).all (λx=>x.1.isSome)
  && decide (([e,f]:Á Expr).length+([]:Á i7).length+(if ([]:Á i7).isEmpty then 0 else 1)<30))=true
 line:(ky.endLine == je.line)=true
 trees:ģ je (Ì [e,f] X.env)=[s!"k",(false,Ė f X.env)]
def WX (H:Hp)(a:Addr):Prop:=(∃b,Rd H a (.dK b))∨∃b,Rd H a (.dT b)
def vL (I:Inv X j l H s)(d:WX H a) :
  s.TypeIs (.ref a) "dict"/\(∀b,Ñ a=.ref b->∃c,s.heap.get? b=À c/\c.dict=none)/\(a == b8)=false:=by
 rcases d with⟨i,e⟩|⟨i,e⟩
 ·obtain⟨_,hd,k,_,f⟩:=tw I.ţ e;refine⟨f.typeIs,λb q=>?_,hd⟩;cases q;obtain⟨c,_,_,g,h,_⟩:=f;exact⟨c,g,h.2.1⟩
 ·obtain⟨_,hd,xs,_,f⟩:=tD I.ţ e;refine⟨f.typeIs,λb q=>?_,hd⟩;cases q;obtain⟨c,_,_,g,h,_⟩:=f;exact⟨c,g,h.2.1⟩
section
variable {X:Cx}{ÿ:Á (Addr×Obj)}{σ:St}{H:Hp}{s:Ó}{a:Addr}{y d:V}{u r:Value}{o:Ë V}{A:Ň}{E:Value->Ó->Prop}
def Qp (hu:A.units+1<cLine)(I:Inv X ÿ σ H s)(g:jo H a y o)(m:RelV y u)(h:∀n s',Inv X ÿ σ H s'->RelV (o.getD .Ĕ) n->Q n s') :
  Ù s!"b" A (call (.builtin "dict.get") [.ref a,u]) Q E s:=by
 rcases g with⟨j,k,e,i,l⟩|⟨j,k,b,e,i,p,l⟩
 ·subst i;obtain⟨z,hd,q,c,f⟩:=tw I.ţ e;refine yS bz f.typeIs gu (Af _ _) (meets_dict_get (ſ X.prog X.w) a (tU m) hd) ⟨_,f.mapOf,h _ _ (I.tok _) ?_⟩;rw[l];exact(c.val k).getD rfl
 ·subst i;cases (show u=Ñ b from m);obtain⟨z,hd,xs,c,f⟩:=tD I.ţ e;refine yS bz f.typeIs gu (Af _ _) (meetsH_dict_get (mF (ſ X.prog X.w)) a b hd) ⟨dI hu,k,xs,pS I.ţ p,f,h _ _ (I.tok _) ?_⟩;rw[l];exact(c.val k).getD rfl
def Qq (hu:A.units+1<cLine)(I:Inv X ÿ σ H s)(g:jo H a y o)(n:RelV y u)(m:RelV d r)(h:∀p s',Inv X ÿ σ H s'->RelV (o.getD d) p->Q p s') :
  Ù s!"b" A (call (.builtin "dict.get") [.ref a,u,r]) Q E s:=by
 rcases g with⟨j,k,e,i,l⟩|⟨j,k,b,e,i,q,l⟩
 ·subst i;obtain⟨z,hd,t,c,f⟩:=tw I.ţ e;refine yS bz f.typeIs gu (Ag _ _ _) (meets_dict_get_default (ſ X.prog X.w) a (tU n) hd r) ⟨_,f.mapOf,h _ _ (I.tok _) ?_⟩;rw[l];exact(c.val k).getD m
 ·subst i;cases (show u=Ñ b from n);obtain⟨z,hd,xs,c,f⟩:=tD I.ţ e;refine yS bz f.typeIs gu (Ag _ _ _) (meetsH_dict_get_default (mF (ſ X.prog X.w)) a b hd r) ⟨dI hu,k,xs,pS I.ţ q,f,h _ _ (I.tok _) ?_⟩;rw[l];exact(c.val k).getD m
end
def S7 (c d:TE):TE:=λb H Q=>c b H λx A=>∃a,x=.ref a/\WX A a/\d b A λy B=>∃o,jo B a y o/\Q (o.getD .Ĕ) B
def S8 (c e d:TE):TE:=λb H Q=>c b H λx A=>∃a,x=.ref a/\WX A a/\e b A λy C=>d b C λz B=>∃o,jo B a y o/\Q (o.getD z) B
section
variable {X:Cx}{o e f:Expr}{ky je:kR}{td ty tx:TE}
def J9 (hu:X.A.units+1<cLine)(l:PE X o td)(k:PE X e ty)(m:M1 X o "get" ky e je):PE X (.Call (.Attribute o "get" ky) [e] [] je) (S7 td ty):=by
 intro b s i H Q I h;refine WM m.base m.X' m.line lP bz Ci (ak (l b s i H _ I h) λu t v=>?_);obtain⟨x,C,B,q,a,j,d,n⟩:=v;subst j;obtain rfl:u=Ñ a:=q;obtain⟨t1,t2,_⟩:=vL B d;refine⟨t1,t2,?_⟩;rw[m.trees];refine gH rfl (pj (fL (ak (k b t i C _ B n) λw J ⟨y,D,E,r,z,g,p⟩=>lK ?_)));exact Qp hu E g r λM L G c=>⟨_,D,G,c,p⟩
def J_ (hu:X.A.units+1<cLine)(p:PE X o td)(l:PE X e ty)(n:PE X f tx)(m:M2 X o "get" ky e f je):PE X (.Call (.Attribute o "get" ky) [e,f] [] je) (S8 td ty tx):=by
 intro b s j H Q I h;refine WM m.base m.X' m.line lP bz Ci (ak (p b s j H _ I h) λu N i=>?_);obtain⟨x,C,B,v,a,k,d,q⟩:=i;subst k;obtain rfl:u=Ñ a:=v;obtain⟨t1,t2,_⟩:=vL B d;refine⟨t1,t2,?_⟩;rw[m.trees];refine gH rfl (pj (fL (ak (l b N j C _ B q) λT O i=>iX i λy D G w r=>
  fL (ak (n b O j D _ G r) λP Y ⟨z,E,J,M,U,g,t⟩=>lK ?_))))
 exact Qq hu J g w M λw' Z L c=>⟨_,E,L,c,t⟩
end
section
variable {X:Cx}{ÿ:Á (Addr×Obj)}{σ:St}{H:Hp}{s:Ó}{a:Addr}{kvs:Á (Key×V)}{A:Ň}{E:Value->Ó->Prop}
end
section
variable {X:Cx}{ÿ:Á (Addr×Obj)}{σ:St}{H:Hp}{s:Ó}{a:Addr}{y:V}{u:Value}{A:Ň}{E:Value->Ó->Prop}
end
end L2
namespace Att
open PySem PySem.W PySem.Calls PyProof.Rows
def uu:∀(ns:Á Int)(vs:Á Value),WellAll P h vs (ns.map Z9)->uK vs ns:=by
 intro ns;induction ns with
 |nil=>
  intro vs w;rw[aj]at w;cases w;exact .nil
 |cons n ns c=>
  intro vs w;rw[Î]at w;cases w with
  |cons a b=>
   cases a;exact .cons _ _ (c _ b)
def G6 {l:OpenLaw}{n:Nat}(t:l.most=À n){P:Params}{h:Heap}{args:Á WData}{c:Á Value}
  (b:l.row.toRowW.claim.pre args=true) (k:WellAll P h c args) :
  ∃a vs ns,c=[Ñ a]/\args=[WData.list (ns.map Z9)]/\h.get? a=À {cls:=.type "list",data:=.seq vs.toArray}/\uK vs ns/\ns.length<=n:=by
 have j:WShape.hasAll [] args [.list .int]=true:=(pre_splitW b).1;have m:l.pre.holds [] {args:=args}=true:=(pre_splitW b).2;obtain⟨d,r,rfl,o,p⟩:=hasAllW_cons j;obtain rfl:=hasAllW_nil p;obtain⟨xs,rfl,s⟩:=hasW_list o;obtain⟨ns,rfl⟩:=items_int s;have f:ns.length<=n:=by
  unfold OpenLaw.pre at m;have g:(WTm.not (.lt (.lit (.int (n:Int))) (.len (.arg 0)))).holds [] {args:=[.list (ns.map .int)]}=true:=by
   have g:=(holds_andW m).1;rw[t]at g;exact g
  have i:=condW_of g (w_not (w_lt w_lit (w_len_list (w_arg rfl))));rw[É]at i;refine Nat.le_of_not_lt λq=>?_;have v:(n:Int)<((ns.length:Nat):Int):=by lia
  first
   |(rw[Ă v]at i;exact absurd i s!"i")
   |(simp at i;lia)
 cases k with
 |cons w x=>
  cases x;cases w with
  |list u e=>exact⟨_,_,ns,rfl,rfl,u,uu ns _ e,f⟩
def GZ (l:OpenLaw)(args:Á WData):l.row.toRowW.claim.post args (.bool true) args=true:=
 postW_of (r:=l.row.toRowW) (X:=(true == true))
  (show WH [] (.bool true) .bool=true by first|rfl|decide|simp[WH,WShape.arms,WShape.armsAll])
  (show(WTm.eq .res (.lit (.bool true))).value [] {args:=args,res:=À (.bool true),after:=args}=À (.bool (true == true))from w_eq_bool (w_res rfl) w_lit) rfl
def A0 {l:OpenLaw}{n:Nat}{q:ď}{c:Á Str}{A:(Str->Ë Value)->Heap->Prop}{B:ī->Heap->Prop}{d:DefRec}
  (M:l.most=À n) (s:d.params.defaults=[])
  (call:∀(w:ī) (jW b:Ó) (mg v:Str->Ë Value) (h:Addr) (o:Obj) (x m e:Value) (a:Addr) (vs:Á Value) (ns:Á Int),
   Ground q c [] A w jW mg v b.heap->B w b.heap->
   b.heap.get? h=À o->o.data=.func (docDef d.name d.params d.body d.scope x m e)->b.heap.CodeRec m d.name->mg d.name=À (.ref h)->
   b.heap.get? a=À {cls:=.type "list",data:=.seq vs.toArray}->uK vs ns->ns.length<=n->b.gens=#[]->
   e_ (Ý l.prog w) uR (.call (.ref h) ⟨[.ref a],[]⟩) (λr s'=>r=.ok (.ret (.bool true))/\OldK b.heap s'.heap/\s'.os=b.os/\og s'.gens) b) :
  WalkO q c A B l.row.toRowW d [] (λf vs=>HD f vs):=by
 intro w jW b mg v G Y h o x m e D kV N hd p hD t I y C Q k z P u J;obtain rfl:D=.none:=Dflts.none hD s;obtain rfl:kV=.none:=Dflts.noKw hD;obtain⟨a,vs,ns,rfl,rfl,j,g,i⟩:=G6 M k u;refine enter_call (qq (call w jW b mg v h o x m e a vs ns G Y N (fd_plain hd) p t j g i I) λr s' O=>?_);obtain⟨rfl,E,F,H⟩:=O;exact⟨.inl ⟨.bool true,.bool true,[],rfl,λ_=>rfl,.bool true,GZ l _,λ_=>⟨oB,λ_ L=>(nomatch L)⟩⟩,E,F,H⟩
section
variable {prog:ď}{w:ī}{A:Ň}{E:Value->Ó->Prop}{s:Ó}{K:Frag}
end
end Att
namespace L2
open PySem PySem.Spec PyProof.Rows
theorem yH:∀{vs:Á Value}{ns:Á Int},uK vs ns->Vals (ns.map V.int) vs
 |_,_,.nil=>.nil
 |_,_,.cons n t h=>.cons ⟨t,rfl⟩ (yH h)
noncomputable def inClass (s:Stmt)(j:Nat):Stmt:=match s with
 |.ClassDef _ _ _ a _ _ _ _ _ _ _=>a.getD j (.Pass ⟨0,0,0,0⟩)
 |_=>.Pass ⟨0,0,0,0⟩
def cE (s:Stmt):Arguments:=match s with
 |.FunctionDef _ a _ _ _ _ _ _ _ _=>a
 |_=>{posonlyargs:=[],args:=[],vararg:=none,kwonlyargs:=[],kw_defaults:=[],kwarg:=none,defaults:=[]}
def aR (s:Stmt):Á Stmt:=match s with
 |.FunctionDef _ _ b _ _ _ _ _ _ _=>b
 |_=>[]
noncomputable def ĝ (s:Stmt):Scope:=match s with
 |.FunctionDef _ _ _ _ _ _ a _ _ _=>a
 |_=>{kind:=.function,names:=[],isGenerator:=false,isCoroutine:=false}
abbrev E0:XK:=λ_ _ _=>False
structure HL (K:È)(x qual:Str)(st:Stmt)(f:Addr)(fd:eo):Prop where
 ex:∃(oc:Value) (od:Ë Addr) (kV doc pm:Value) (an:Ë Addr) (cdv ct:Value) (osl:Ē (Ë Value)),
  fd=Ŏ x qual (cE st) (aR st) (ĝ st) .none kV doc pm an cdv ct/\K.lookup f=À ⟨oc,od,.func fd,osl⟩/\dC K cdv qual=true
 kp:ĸ K (.ref f)=true
section
variable {P:ď}{w:ī}{K:È}{mg:Str->Ë Value}{base:Heap}
def HL.binds {x a:Str}{st:Stmt}{f:Addr}{g:eo}{ps:Á Str}(F:HL K x a st f g)
  (h:∀(kV c e:Value) (d:Ë Addr) (b ct:Value) (us:Á Value),us.length=ps.length->ko (Ŏ x a (cE st) (aR st) (ĝ st) .none kV c e d b ct) ⟨us,[]⟩=pure (ps.zip us)):Binds K g ps []:=by
 obtain⟨l,m,kV,c,e,d,b,ct,j,rfl,k,i⟩:=F.ex;exact .all (h kV c e d b ct)
def zo {x a:Str}{st:Stmt}{f:Addr}{i:Value}{od g:Ë Addr}{e:Ē (Ë Value)}{kV d h b ct:Value}(l:K.lookup f=À ⟨i,od,.func (Ŏ x a (cE st) (aR st) (ĝ st) .none kV d h g b ct),e⟩)
  (c:dC K b a=true) (k:ĸ K (.ref f)=true):HL K x a st f (Ŏ x a (cE st) (aR st) (ĝ st) .none kV d h g b ct):=⟨⟨i,od,kV,d,h,g,b,ct,e,rfl,l,c⟩,k⟩
end
def Pf (hr:cP k A):A.units+1<cLine:=bI (Lx (by decide:1<=64) _) hr.units
def Ŕ (h:n<=1000):n<sizeLine:=bI h s!"i"
section
variable {X:Cx}
def pv (i:Nat)(b:X.N[i]?=À x:=by rfl)(c:W2 X.env.scope x:=by first|exact Cf rfl|exact Hr (Cf rfl)|exact Hr (Hr rfl)) (hd:(x == ("__debug__":Str))=false:=by decide)
  (a:(x == ("__classdict__":Str))=false:=by decide):PE X (.Name x pos) (Tb i):=Sg b c hd a
end
section
variable {κ:Type} [oh κ]
end
end L2
set_option maxHeartbeats 4000000
namespace L2
open PySem PySem.Spec PyProof.Rows
def j3 (X:Cx)(scope:Scope):Á (Str×Ë Nat)->Prop
 |[]=>True
 |(_,none)::r=>j3 X scope r
 |(x,À j)::r=>(X.N[j]?=À x/\scope.names.lookup x=À .free/\(X.env.kindOf x=À .cell∨X.env.kindOf x=À .free))/\j3 X scope r
def DY (l:Á (Str×Ë Nat)) (a:St):St:=l.map λp=>p.2.bind λj=>(a[j]?).join
theorem j3.get:∀{l:Á (Str×Ë Nat)},j3 X scope l->∀{i:Nat}{x:Str}{j:Nat},l[i]?=À (x,À j)->
  X.N[j]?=À x/\scope.names.lookup x=À .free/\(X.env.kindOf x=À .cell∨X.env.kindOf x=À .free)
 |[],_,i,x,j,e=>by simp at e
 |(y,none)::r,h,0,x,j,e=>by simp at e
 |(y,none)::r,h,i+1,x,j,e=>j3.get (l:=r) h (i:=i) (by simpa using e)
 |(y,À k)::r,h,0,x,j,e=>by
  simp at e;obtain⟨rfl,rfl⟩:=e;exact h.1
 |(y,À k)::r,h,i+1,x,j,e=>j3.get (l:=r) h.2 (i:=i) (by simpa using e)
theorem pH (env:Hl):∀(names:Á (Str×mT)) (b:Á (Str×Addr)),(∀x∈names,x.2=.free->∃c,env.cells.lookup x.1=À c)->
  ∃cl,(forIn names b (λ(x:Str×mT) (q:Á (Str×Addr))=>(if x.2 == .free then do let a <-cellOf env x.1;pure (bC ((x.1,a)::q))else pure (bC q):Z5 (ForInStep (Á (Str×Addr))))))=pure cl/\
   (∀y c,cl.lookup y=À c->env.cells.lookup y=À c∨b.lookup y=À c)/\(∀x∈names,x.2=.free->∃c,cl.lookup x.1=À c )/\(∀y,(∃c,b.lookup y=À c)->∃c,cl.lookup y=À c)
 |[],b,h=>⟨b,rfl,λ_ _ e=>.inr e,λ_ hx=>(nomatch hx),λ_ e=>e⟩
 |(n,k)::r,b,h=>by
  by_cases o:k=.free
  ·subst o;obtain⟨c,s⟩:=h (n,.free) Ń rfl;obtain⟨cl,i,j,l,f⟩:=pH env r ((n,c)::b) λx hx=>h x (Ć _ hx);have v:cellOf env n=pure c:=by
    unfold cellOf;have m:env.cells.lookup n=À c:=s;rw[m]
   have p:∃t,cl.lookup n=À t:=f n ⟨c,by simp[Ħ]⟩;refine⟨cl,?_,λy d e=>?_,λx hx g=>?_,λy ⟨d,e⟩=>?_⟩
   ·rw[jS];simp only[AL,fO,v,pure_bind];exact i
   ·rcases j y d e with z|z
    ·exact .inl z
    ·rw[Ħ]at z;split at z
     ·rename_i w;have:y=n:=by simpa using w
      subst this;cases z;exact .inl s
     ·exact .inr z
   ·rcases Þ.mp hx with rfl|hx
    ·exact p
    ·exact l x hx g
   ·refine f y ?_;rw[Ħ];split
    ·exact⟨_,rfl⟩
    ·exact⟨d,e⟩
  ·obtain⟨cl,i,j,l,f⟩:=pH env r b λx hx=>h x (Ć _ hx);have u:(k == ŕ)=false:=by simpa using o
   refine⟨cl,?_,j,λx hx g=>?_,f⟩
   ·rw[jS];simp only[u,ŷ,fG,pure_bind];exact i
   ·rcases Þ.mp hx with rfl|hx
    ·exact absurd g o
    ·exact l x hx g
def o9 (h:∀x∈scope.names,x.2=.free->∃c,env.cells.lookup x.1=À c) :
  ∃cl,qp scope env=pure cl/\(∀y c,cl.lookup y=À c->env.cells.lookup y=À c)/\∀x∈scope.names,x.2=.free->∃c,cl.lookup x.1=À c:=by
 obtain⟨cl,b,d,f,_⟩:=pH env scope.names [] h;refine⟨cl,?_,λy c e=>(d y c e).elim id λz=>by simp at z,f⟩;unfold qp;have a:=b;simp only[bind_pure_comp]at a⊢;first
  |(rw[a];rfl)
  |(simp only[a];rfl)
  |(simpa using a)
theorem iZ {env:Hl}:∀{names:Á (Str×mT)}{x:Str},names.lookup x=À .free->
    ((names.map λ(n,k)=>if (k == ŕ&&env.scope.kind == .function&&env.kindOf n == À .cell)then (n,bW)else (n,k)).lookup x=À .cell∨
     (names.map λ(n,k)=>if (k == ŕ&&env.scope.kind == .function&&env.kindOf n == À .cell)then (n,bW)else (n,k)).lookup x=À .free)
  |[],_,h=>by simp at h
  |(n,k)::r,x,h=>by
    have c:=@iZ env r x;show eL x ((if (k == ŕ&&env.scope.kind == .function&&env.kindOf n == À .cell)=true then (n,bW)else (n,k))::_)=_∨eL x ((if (k == ŕ&&env.scope.kind == .function&&env.kindOf n == À .cell)=true then (n,bW)else (n,k))::_)=_;cases a:x == n with
    |true=>
      simp only[Ħ,a]at h;cases h;by_cases b:(ŕ == ŕ&&env.scope.kind == .function&&env.kindOf n == À .cell)=true
      · rw[Ò b];left;simp[Ħ,a]
      · rw[Ø b];right;simp[Ħ,a]
    |false=>
      simp only[Ħ,a]at h;by_cases b:(k == ŕ&&env.scope.kind == .function&&env.kindOf n == À .cell)=true
      · rw[Ò b];simp only[Ħ,a];exact c h
      · rw[Ø b];simp only[Ħ,a];exact c h
theorem qU {env:Hl}{x:Str}:∀{names:Á (Str×mT)},
    ((names.map λ(n,k)=>if (k == ŕ&&env.scope.kind == .function&&env.kindOf n == À .cell)then (n,bW)else (n,k)).lookup x=À .cell∨
     (names.map λ(n,k)=>if (k == ŕ&&env.scope.kind == .function&&env.kindOf n == À .cell)then (n,bW)else (n,k)).lookup x=À .free)->(x,ŕ)∈names∨names.lookup x=À .cell
  |[],h=>by simp at h
  |(n,k)::r,h=>by
    have e:=@qU env x r;simp only[Î]at h;by_cases c:(k == ŕ&&env.scope.kind == .function&&env.kindOf n == À .cell)=true
    · rw[Ò c]at h
      have d:k=.free:=by
        have:=(Hj.mp (Hj.mp c).1).1;simpa using this
      by_cases b:x=n
      · rw[b,d];exact .inl Ń
      · have a:(x == n)=false:=by simpa using b
        simp only[Ħ,a]at h⊢;exact(e h).imp (Ć _) id
    · rw[Ø c]at h
      by_cases b:x=n
      · have a:(x == n)=true:=by simpa using b
        simp only[Ħ,a]at h⊢;rcases h with h|h
        · exact .inr h
        · rw[b,æ h];exact .inl Ń
      · have a:(x == n)=false:=by simpa using b
        simp only[Ħ,a]at h⊢;exact(e h).imp (Ć _) id
theorem kE:∀names n a more,bR n names (a++more)=bR n names a++more
 |[],_,_,_=>rfl
 |(x,k)::r,n,a,more=>by
  unfold bR;split
  ·exact kE r (n+1) ((x,n)::a) more
  ·exact kE r n a more
theorem kF:∀names n a x c,(x,c)∈bR n names a->(x,bW)∈names∨(x,c)∈a
 |[],_,_,_,_,h=>.inr h
 |(y,k)::r,n,a,x,c,h=>by
  unfold bR at h;split at h
  ·rename_i b;have b:k=.cell:=by simpa using b
   rcases kF r _ _ x c h with z|z
   ·exact .inl (Ć _ z)
   ·rcases Þ.mp z with z|z
    ·cases z;rw[b];exact .inl Ń
    ·exact .inr z
  ·exact(kF r _ _ x c h).imp (Ć _) id
def oT 
  (h:Q (newEnv scope s.heap.objs.size b (bR s!"n" scope.names a) d none .none (À outer) 0) {s with heap:=LI (s.heap.push {cls:=.type "dict",data:=.dict #[]}) scope.names}) :
  Ù M A (ug scope b a [] d none .none (À outer)) Q E s:=by
 simp only[ug,Hq,fO];refine Ã (wpAny_alloc ?_);refine Ã (wpAny_layCells _ (λg c e=>by cases f:c == bW<;>simp[f]) _ _ _ _ ?_);rw[show({s with heap:=s.heap.push {cls:=.type "dict",data:=.dict #[]}}:Ó).heap.objs.size=s.heap.objs.size+1 from Ł ..];exact Ã (Ê (Ê h))
def aq (X:Cx)(l:Á (Str×Ë Nat)) (scope:Scope)(cl:Á (Str×Addr)) (C:Addr)(a:Á Addr)(b:Ó)(A:Hp):Cx:=
 {X with N:=l.map (·.1),jW:=b,xr:=A,env:=P2 scope cl C X.env,outer:=X.stack,ex:=a,fn:=λx=>scope.names.lookup x == À .cell,pn:=[],xe:=λ_ _=>False}
def LJ (X:Cx)(b:Á Expr)(t:TT):Prop:=
 ∀a s d H Q,Inv X a d H s->t d H Q->
  Ù s!"b" X.A (forIn b true λc r=>if r=true then do let e <-FY c X.env (Ė c X.env);pure (bC e)else pure (bC r)) (TP X a d Q) X.xe s
def Zl:TT:=λ_ H Q=>Q true H
def N0:LJ X [] Zl:=λ_ _ _ H _ I h=>wpAny_tests_nil ⟨H,I,h⟩
def N1 (h:PT X c t):LJ X [c] t:=λa s b H Q I hw=>wpAny_tests_one (h a s b H Q I hw)
def HP (e i:Expr)(g:Á Expr)(p:kR)(d:Nat)(body:Value->Hl->Z5 Unit):Prop:=
 ∀f b a,compTurn e d f b a=(jX p >>= λ_=>gw f >>= λr=>match r with
  |none=>pure (.done .next)
  |some v=>la i f v >>= λ_=>k9 i a v >>= λ_=>(forIn g true λc r=>if r=true then do let h <-FY c a (Ė c a);pure (bC h)else pure (bC r)) >>= λh=>
   if h=true then body b a >>= λ_=>again (.compLoop e d f b a)else again (.compLoop e d f b a))
def P9 (e:Expr):Prop:=(∃a b c d,e=.ListComp a b c d)∨∃a b c d,e=.SetComp a b c d
def zg (H:P9 e)(N:HP e J G p d body)(I:Nat->Ó->Prop)
  (D:∀n s,I n s->Ù s!"j" A (gw z) (λr a=>match r with
   |none=>R (.ok .next) a
   |some v=>Ù s!"j" A (la J z v) (λ_ o=>Ù s!"j" A (k9 J env v) (λ_ k=>
     Ù s!"j" A (forIn G true λc r=>if r=true then do let C <-FY c env (Ė c env);pure (bC C)else pure (bC r)) (λC b=>
      if C=true then Ù s!"j" A (body g env) (λ_ l=>∃m,m<n/\I m l) (λ_ _=>False) b
      else ∃m,m<n/\I m b) (λ_ _=>False) k) (λ_ _=>False) o) (λ_ _=>False) a) (λ_ _=>False) s)
  (n:Nat) (h:I n s) :
  e_ s!"j" A (.compLoop e d z g env) R s:=by
 have B:∀{L:Type}{t:Z5 L}{Q:L->Ó->Prop}{E:Value->Ó->Prop}{s:Ó},Ù s!"j" A t Q (λ_ _=>False) s->Ù s!"j" A t Q E s:=λh=>aB h (λ_ _ q=>q) λ_ _ f=>f.elim;refine codeAny_loop rfl I (λn s M=>?_) n h;have hd:s!"j".den (.compLoop e d z g env)=(compTurn e d z g env).onRaise (λx=>do LH x env;theTreesLotGoes x):=by rcases H with⟨_,_,_,_,rfl⟩|⟨_,_,_,_,rfl⟩<;>rfl
 have hu:A.under (.compLoop e d z g env)=A:=by rcases H with⟨_,_,_,_,rfl⟩|⟨_,_,_,_,rfl⟩<;>rfl
 rw[hd,hu];refine wpAny_noted ?_;rw[N];refine Ã (eU (Ã (ak (B (D n s M)) (λr a i=>?_))));cases r with
 |none=>exact Ê i
 |some v=>
  refine Ã (ak (B i) λ_ O F=>?_);refine Ã (ak (B F) (λ_ k u=>Ã (ak (B u) (λC b j=>?_))));cases C with
  |false=>exact Ê ⟨rfl,j⟩
  |true=>exact Ã (ak (B j) (λ_ l y=>Ê ⟨rfl,y⟩))
def xw (g:P9 e)(l:(clausesOf e)[d]?=À f) (k:f.is_async=0)
  (h0:e_ s!"j" A (.compLoop e d b a env) R s)
  (h:Ù s!"j" A (L7 b) (λc s'=>e_ s!"j" A (.compLoop e d c a env) R s') (λ_ _=>False) s) :
  e_ s!"j" A (.compStart e d b a env) R s:=by
 refine codeAny_of_tree ?_;have hd:s!"j".den (.compStart e d b a env)=(compStart e d b a env).onRaise (λx=>do LH x env;jX theWindowsPlace):=by rcases g with⟨_,_,_,_,rfl⟩|⟨_,_,_,_,rfl⟩<;>rfl
 have hu:A.under (.compStart e d b a env)=A:=by rcases g with⟨_,_,_,_,rfl⟩|⟨_,_,_,_,rfl⟩<;>rfl
 rw[hd,hu];refine wpAny_notedAt ?_;unfold compStart;rw[l];have i:(À f).elim false (λx=>x.is_async != 0)=false:=by show(f.is_async != 0)=false;rw[k];rfl
 rw[i];show Ù _ _ (ask >>= _) _ _ s;refine Ã (wpAny_askSetting (wpAny_ite ?_));split
 ·first
   |exact Ã (Ê (Ê (PZ rfl h0)))
   |exact Ê (PZ rfl h0)
 ·exact Ã (b9 (Ã (eU (Ã (aB h (λc s' j=>Ê (PZ rfl j)) λ_ _ x=>x.elim)))))
def O1 (l:Á (Str×Ë Nat)) (g:TG)(h:TT)(f:TE)(J:It)(j:St)(B:Hp)(Q:Addr->Hp->Prop):Prop:=
 ∀D,B D=none->∃W:Nat->Nat->Á V->St->Hp->Prop,(∃m,W 0 m [] (DY l j) (upd B D (.lst [])))/\∀i m c e A,W i m c e A->
  (J.stop i A/\Q D A)∨(J.go i A/\∀x C,J.Lm i A x C->g x e C λa G=>h a G λb E=>
   if b=true then f a E λv F=>F D=À (.lst c)/\c.length<sizeLine/\∃d,d<m/\W (i+1) d (c++[v]) a (upd F D (.lst (c++[v])))else ∃d,d<m/\W (i+1) d c a E)
def S6 (l:Á (Str×Ë Nat)) (d:TI)(g:TG)(c:TT)(b:TE)(a:St)(H:Hp)(Q:Addr->Hp->Prop):Prop:=
 d a H λJ A=>O1 l g c b J a A Q
def Ih {α:Type}{X:Cx}{ifs:Á Expr}{scope:Scope}{cl:Á (Str×Addr)}{l:Á (Str×Ë Nat)}{g:TG}{tt:TT}{body:Value->Hl->Z5 Unit}{gc:Comprehension} 
  (hn:P9 e) (UO:HP e tg ifs p 0 body) (hgc:(clausesOf e)[0]?=À gc) (has:gc.is_async=0)
  (M:∀y c,cl.lookup y=À c->X.env.cells.lookup y=À c) (UL:∀x∈scope.names,x.2=.free->∃c,cl.lookup x.1=À c)
  (UM:scope.kind=.function) (UK:∀y∈scope.names,y.2=.cell->scope.names.lookup y.1=À .cell) (Pd:X.calm=true) (Yn:j3 X scope l)
  (hg:∀cl C F f I,PG (aq X l scope cl C F f I) tg g) (ht:∀cl C F f I,LJ (aq X l scope cl C F f I) ifs tt)
  {N:Á (Addr×Obj)}{Z:St}{f:Ó}{F:Á Addr}{tn:Nat->Heap->Prop}{J:It}{Q:Hp->Prop}{RR:Addr->T7->Ó->Prop}{E:Value->Ó->Prop}
  {W:Nat->Nat->α->St->Hp->Prop}{B:Nat->Nat->α->St->Hp->Prop}{y0:α}
  (t:∀cl C F f I N s i m ys Z H,Inv (aq X l scope cl C F f I) N Z H s->B i m ys Z H->
   Ù s!"b" X.A (body (.ref D) (P2 scope cl C X.env)) (λ_ s'=>∃m' Xm P H',m'<m/\Inv (aq X l scope cl C F f I) N P H' s'/\W (i+1) m' Xm P H') (λ_ _=>False) s)
  (L:Inv X N Z I f) (T:Turn X.prog X.w X.K tg J F it tn) (V8:tn 0 f.heap) (G:∀b∈F,uk X N I b)
  (w0:W 0 m0 y0 (DY l Z) I)
  (turn:∀i m ys Xp H2,W i m ys Xp H2->(J.stop i H2/\Q H2)∨(J.go i H2/\∀x I,J.Lm i H2 x I->g x Xp I λXq H4=>tt Xq H4 λb H5=>if b=true then B i m ys Xq H5 else ∃m',m'<m/\W (i+1) m' ys Xq H5))
  (Yg:∀C (s':Ó) (H':Hp),Q H'->(∃m,s'.heap.Ns C m)->Inv X N Z H' s'->uk X N H' C->RR C (.ok .next) s') :
  Ù s!"b" X.A (ug scope X.env.globals cl [] X.env.qual none .none (À X.env)) (λUq s₄=>
   e_ s!"b" X.A (.compStart e 0 (.ref it) (.ref D) {Uq with scope:=relabel scope X.env}) (RR Uq.locals) s₄) E f:=by
 refine oT ?_;have eC:(newEnv scope f.heap.objs.size X.env.globals (bR (f.heap.objs.size+1) scope.names cl) X.env.qual none ó (À X.env) 0).locals=f.heap.objs.size:=rfl;have X6:=cellsFrom_ok scope.names (f.heap.push {cls:=.type "dict",data:=.dict #[]}) (f.heap.objs.size+1) [] ⟨λ_ _ hm=>(nomatch hm),oB⟩ (by rw[Ł];exact Í _);rw[Ł]at X6;have ecs:bR (f.heap.objs.size+1) scope.names cl=bR (f.heap.objs.size+1) scope.names []++cl:=kE scope.names _ [] cl;have hns:(LI (f.heap.push {cls:=.type "dict",data:=.dict #[]}) scope.names).Ns f.heap.objs.size (λ_=>none):=(Heap.Ns.new f.heap (.type "dict")).keeps (aaa _ _);have old:∀b o,f.heap.get? b=À o->(LI (f.heap.push {cls:=.type "dict",data:=.dict #[]}) scope.names).get? b=À o:=λb o e=>aaa _ _ b o (Ä _ e);rw[ecs]at *
 have ownN:∀x c,(bR (f.heap.objs.size+1) scope.names []).lookup x=À c->scope.names.lookup x=À .cell:=λx c e=>by
  rcases kF _ _ _ _ _ (mem_of_lookup e)with z|z
  ·exact UK _ z rfl
  ·exact nomatch z
 have ownS:∀x,scope.names.lookup x=À .cell->∃c,(bR (f.heap.objs.size+1) scope.names []).lookup x=À c:=λx e=>aN.mp (mV scope.names _ [] (.inl e));generalize aah:bR (f.heap.objs.size+1) scope.names []=a at *
 generalize hh4:LI (f.heap.push {cls:=.type "dict",data:=.dict #[]}) scope.names=h4 at *
 generalize hC:f.heap.objs.size=C at *
 have eE:({newEnv scope C X.env.globals (a++cl) X.env.qual none ó (À X.env) 0 with scope:=relabel scope X.env}:Hl)=P2 scope (a++cl) C X.env:=rfl;have cs_of:∀x c,(a++cl).lookup x=À c->(a.lookup x=À c/\h4.IsCell c none/\C+1<=c)∨(a.lookup x=none/\cl.lookup x=À c):=λx c e=>by
  rw[sZ]at e;cases q:a.lookup x with
  |none=>rw[q]at e;exact .inr ⟨rfl,e⟩
  |some d=>rw[q]at e;cases e;exact .inl ⟨rfl,X6.empty x c (mem_of_lookup q)⟩
 have of_cl:∀x c,scope.names.lookup x≠À .cell->cl.lookup x=À c->(a++cl).lookup x=À c:=λx c n e=>by
  rw[sZ];cases q:a.lookup x with
  |none=>exact e
  |some d=>exact(n (ownN x d q)).elim
 have cltC:∀y c,cl.lookup y=À c->c<C:=λy c e=>by
  obtain⟨v,q⟩:=L.cell y c (M y c e);have:=q.lt;rw[hC]at this;exact this
 have fpC:∀b∈F,b≠C:=λb t z=>by
  obtain⟨o,ho,_⟩:=T.obj _ _ V8 b t;exact absurd (Ô ho) (by rw[z,hC];exact ŋ _)
 have cellC:∀y c,(a++cl).lookup y=À c->c≠C:=λy c e z=>by
  rcases cs_of y c e with⟨_,_,q⟩|⟨_,q⟩
  ·rw[z]at q;exact absurd q (Nat.not_succ_le_self _)
  ·exact absurd (cltC y c q) (by rw[z];exact ŋ _)
 have fpB:∀b∈F,b<C:=λb t=>by
  obtain⟨o,ho,_⟩:=T.obj _ _ V8 b t;rw[<-hC];exact Ô ho
 have fpCs:∀b∈F,∀x c,(a++cl).lookup x=À c->c≠b:=λb t x c e z=>by
  rcases cs_of x c e with⟨_,_,q⟩|⟨_,q⟩
  ·rw[z]at q;exact absurd (ð (fpB b t) (vf q)) (ŋ _)
  ·exact(G b t).2.2.2.2.1 x c (M x c q) z
 have H3C:I C=none:=by
  have:=L.fresh;rw[hC]at this;exact this
 have OK:(aq X l scope (a++cl) C F f I).Ok:={
  mod:=L.ok.mod
  kind:=UM
  glob:=L.ok.glob
  blt:=L.ok.blt
  above:=kn hC
  inj:=λx y c e1 e2=>by
   rcases cs_of x c e1 with⟨p1,_,p3⟩|⟨_,p1⟩<;>rcases cs_of y c e2 with⟨q1,_,q3⟩|⟨_,q1⟩
   ·exact name_of_addr X6.apart (mem_of_lookup p1) (mem_of_lookup q1)
   ·exact absurd (cltC y c q1) (oF.mpr (vf p3))
   ·exact absurd (cltC x c p1) (oF.mpr (vf q3))
   ·exact L.ok.inj x y c (M x c p1) (M y c q1)
  has:=λx hx=>by
   show ∃c,(a++cl).lookup x=À c
   rw[sZ]
   cases q:a.lookup x with
   |some d=>exact⟨d,rfl⟩
   |none=>
    rcases qU hx with z|z
    ·obtain⟨c,e⟩:=UL (x,.free) z rfl
     exact⟨c,e⟩
    ·obtain⟨c,e⟩:=ownS x z
     rw[q]at e;cases e
  O6:=λx c hf e=>by
   have hf:(scope.names.lookup x == À bW)=true:=hf
   have hf:scope.names.lookup x=À .cell:=by simpa using hf
   obtain⟨d,ed⟩:=ownS x hf
   rcases cs_of x c e with⟨_,_,q⟩|⟨q,_⟩
   ·show f.heap.objs.size<=c
    rw[hC];lia
   ·rw[q]at ed;cases ed
  hd:=L.ok.hd
  frames:=L.ok.frames
  S4:=.inl rfl
  UB:=λb t=>⟨fpC b t,fpCs b t⟩
  bs:=λb o e=>L.bs b o e
  F4:=ĺ L.ok.F4 L.sz
  BL:=λb o e t=>by
   rcases(G b t).2.2.2.1 with z|z
   ·exact L.ok.BL b o e z
   ·exact absurd (ð (Ô e) (ĺ L.ok.F4 z)) (ŋ _)
  Bl:=λb t hz=>by
   rcases Þ.mp (L.D4 b hz)with z|z
   ·exact(G b t).2.1 z
   ·exact(G b t).2.2.1 z
  pM:=L.stack
  LL:=L.u9}
 have fpX:∀{H':Hp},(∀b∈F,H' b=none)->∀b∈F,uk (aq X l scope (a++cl) C F f I) [] H' b:=λhn b t=>
  ⟨hn b t,fpC b t,OK.Bl b t,.inl t,fpCs b t,λp hp=>nomatch hp⟩
 have I4:Inv (aq X l scope (a++cl) C F f I) [] (DY l Z) I {f with heap:=h4}:={
  ok:=OK
  os:=rfl
  bare:=L.bare
  base:=Un.kept old
  loc:=by
   refine⟨_,hns,λi x v e1 e2 e3=>?_⟩
   have Uz:(l.map (·.1))[i]?=À x:=e1
   have W6:(l.map λp=>p.2.bind λj=>(Z[j]?).join)[i]?=À (À v):=e2
   rw[î]at Uz W6
   cases el:l[i]? with
   |none=>rw[el]at Uz;cases Uz
   |some p=>
    rw[el]at Uz W6
    obtain⟨y,o⟩:=p
    have X9:y=x:=æ Uz
    subst X9
    cases o with
    |none=>cases W6
    |some j=>
     have Y:(Z[j]?).join=À v:=æ W6
     have ej:Z[j]?=À (À v):=by
      cases q:Z[j]? with
      |none=>rw[q]at Y;cases Y
      |some z=>rw[q]at Y;exact ğ À Y
     obtain⟨k1,k2,k3⟩:=Yn.get el
     obtain⟨m,hn,hl⟩:=L.loc
     obtain⟨u,r,lk⟩:=hl j y v k1 ej (k3.elim (λz=>.inr (.inl z)) λz=>.inr (.inr z))
     refine⟨u,r,.inr ⟨iZ k2,?_⟩⟩
     rcases lk with⟨z,_⟩|⟨_,c,ec,QM⟩
     ·rcases k3 with k3|k3<;>(rw[z]at k3;cases k3)
     ·have hm:(y,ŕ)∈scope.names:=by
       have:∀{O:Á (Str×mT)},O.lookup y=À ŕ->(y,ŕ)∈O:=by
        intro O
        induction O with
        |nil=>intro h;simp at h
        |cons q r ih=>
         intro h
         obtain⟨n,k⟩:=q
         rw[Ħ]at h
         split at h
         ·rename_i hy
          have:y=n:=by simpa using hy
          subst this
          cases h
          exact Ń
         ·exact Ć _ (ih h)
       exact this k2
      obtain⟨c',ec'⟩:=UL _ hm rfl
      have:c'=c:=by
       have:=M _ _ ec'
       rw[ec]at this
       exact(æ this).symm
      subst this
      obtain⟨o,ho,hd⟩:=QM
      exact⟨c',of_cl _ _ (by rw[k2];intro z;cases z) ec',o,old _ _ ho,hd⟩
  cell:=λx c e=>by
   rcases cs_of x c e with⟨_,q,_⟩|⟨_,q⟩
   ·exact⟨none,q⟩
   ·obtain⟨v,o,ho,hd⟩:=L.cell x c (M x c q)
    exact⟨v,o,old _ _ ho,hd⟩
  free:=H3C
  jA:=λx c e=>by
   rcases cs_of x c e with⟨_,_,q⟩|⟨_,q⟩
   ·exact L.ţ.fresh (by rw[hC];lia)
   ·exact L.jA x c (M x c q)
  pin:=λp hp=>nomatch hp
  ţ:=L.ţ.kept old
  len:=by show(List.map _ l).length=(List.map _ l).length;rw[É,É]}
 have st4:tn 0 h4:=T.keep _ _ _ V8 λb _ o e=>old b o e;have loop:∀s4:Ó,s4={f with heap:=h4}->
   e_ s!"b" X.A (.compLoop e 0 (.ref it) (.ref D) (P2 scope (a++cl) C X.env)) (RR C) s4:=by
  rintro s4 rfl;refine zg hn UO (λn s'=>∃i ys P H',Inv (aq X l scope (a++cl) C F f I) [] P H' s'/\tn i s'.heap/\(∀b∈F,H' b=none)/\W i n ys P H') ?_ m0
   ⟨0,y0,DY l Z,I,I4,st4,λb t=>(G b t).1,w0⟩
  rintro n s5 ⟨i,ys,Xr,H5,I5,st5,fr5,w5⟩;rcases turn i n ys Xr H5 w5 with⟨stop,q⟩|⟨go,step⟩
  ·refine ak (T.done (aq X l scope (a++cl) C F f I) rfl rfl rfl Pd i [] s5 Xr H5 _ I5 (fpX fr5) st5 stop) λr s6 zz=>?_;obtain⟨hr,I6⟩:=zz;subst hr;obtain⟨m6,hn6,_⟩:=I6.loc;have u:Un (Ar X.stack) F I H5 f.heap s6.heap:=I6.base;refine Yg C s6 H5 q ⟨m6,hn6⟩ (L.Uo (s':=s6) (ch:=F) I6.os u I6.ţ I6.bare λb t=>⟨(G b t).2.2.2.1,(G b t).2.1,(G b t).2.2.2.2.1,(G b t).2.2.2.2.2⟩) ?_;have hle:f.heap.objs.size<=C:=kn hC;have f0:=L.Bp (H':=H5) hle I6.free;exact f0
  ·refine ak (T.item (aq X l scope (a++cl) C F f I) rfl rfl rfl Pd i [] s5 Xr H5 _ I5 (fpX fr5) st5 go) λr s6 zz=>?_;obtain⟨u,hr,h6⟩:=zz;subst hr;refine ak h6 λ_ s7 zz=>?_;obtain⟨x,H7,I7,r7,y7,Y5,fr7⟩:=zz;have I7':=I7.pinned (fpX fr7) (T.obj _ _ Y5);have back:∀{U:St}{H8:Hp}{s8:Ó},Inv (aq X l scope (a++cl) C F f I) ([]++wc F s7.heap) U H8 s8->Inv (aq X l scope (a++cl) C F f I) [] U H8 s8/\tn (i+1) s8.heap/\∀b∈F,H8 b=none:=λ{U H8 s8} I8=>by
    refine⟨I8.q_,T.keep _ _ _ Y5 λb t o e=>(I8.pin (b,o) (Ĩ _ (Ĩ _ (ml t e)))).1,λb t=>?_⟩;obtain⟨o,e,d⟩:=T.obj _ _ Y5 b t;exact(I8.pin (b,o) (Ĩ _ (Ĩ _ (ml t e)))).2.1
   refine ak (hg (a++cl) C F f I _ s7 Xr H7 x u _ I7' r7 (step x H7 y7)) λ_ s8 zz=>?_;obtain⟨U,H8,I8,q8⟩:=zz;refine ak (ht (a++cl) C F f I _ s8 U H8 _ I8 q8) λok s9 zz=>?_;obtain⟨H9,I9,q9⟩:=zz;cases ok with
   |false=>
    rw[Ø s!"i"]at q9⊢;obtain⟨m',hm,w9⟩:=q9;obtain⟨z1,z2,z3⟩:=back I9;exact⟨m',hm,i+1,ys,U,H9,z1,z2,z3,w9⟩
   |true=>
    rw[Ò rfl]at q9⊢;refine ak (t (a++cl) C F f I _ s9 i n ys U H9 I9 q9) λ_ s11 zz=>?_;obtain⟨m',Xm,P,H',hm,I11,w10⟩:=zz;obtain⟨z1,z2,z3⟩:=back I11;exact⟨m',hm,i+1,Xm,P,_,z1,z2,z3,w10⟩
 exact xw hn hgc has (loop _ rfl) (T.self _ 0 _ _ _ st4 (loop _ rfl))
def Mc {Y:Cx}{n:TE}(o:PE Y elt n)(c:Y.xe=λ_ _=>False){ys:Á V}{a:Á (Addr×Obj)}{d:St}{N:V->Hp->Prop}(I:Inv Y a d H s)
  (h:n d H λv F=>F D=À (.lst ys)/\ys.length<sizeLine/\N v (upd F D (.lst (ys++[v])))) :
  Ù (Ý Y.prog Y.w) Y.A (Ė elt Y.env >>= λx=>call (.builtin "list.append") [.ref D,x] >>= λ_=>pure XB) (λ_ s'=>∃v H',Inv Y a d H' s'/\N v H') (λ_ _=>False) s:=by
 have l:=o a s d H _ I h;rw[c]at l;refine Ã (ak l λr j t=>iX t λv B C i g=>?_);obtain⟨b,p,k⟩:=g;have m:=yz _ j d B (.ref D) [v] (.ref D) [r] (λz H'=>z=.Ĕ/\H'=upd B D (.lst (ys++[v]))) C rfl (.cons i .nil) ⟨D,ys,v,rfl,rfl,b,p,rfl,rfl⟩;rw[c]at m;refine Ã (ak m λ_ q f=>?_);obtain⟨_,G,E,_,_,e⟩:=f;subst e;exact Ê ⟨v,_,E,k⟩
def x_ {X:Cx}{Z:Á Expr}{scope:Scope}{cl:Á (Str×Addr)}{l:Á (Str×Ë Nat)}{g:TG}{tt:TT}{te:TE}
  (aab:qp scope X.env=pure cl) (M:∀y c,cl.lookup y=À c->X.env.cells.lookup y=À c) (O:∀x∈scope.names,x.2=.free->∃c,cl.lookup x.1=À c)
  (t:scope.kind=.function) (r:∀y∈scope.names,y.2=.cell->scope.names.lookup y.1=À .cell) (n:X.calm=true) (Y:j3 X scope l)
  (hg:∀cl C d G F,PG (aq X l scope cl C d G F) tg g) (ht:∀cl C d G F,LJ (aq X l scope cl C d G F) Z tt) (he:∀cl C d G F,PE (aq X l scope cl C d G F) elt te)
  {a:Á (Addr×Obj)}{j:St}{s:Ó}{d:Á Addr}{tn:Nat->Heap->Prop}{J:It}{Q:Addr->Hp->Prop}{RR:Value->Addr->T7->Ó->Prop}{E:Value->Ó->Prop}
  (I:Inv X a j H s) (T:Turn X.prog X.w X.K tg J d it tn) (st:tn 0 s.heap) (P:∀b∈d,uk X a H b)
  (hw:O1 l g tt te J j H Q)
  (Yg:∀D C (s':Ó) (H':Hp),Q D H'->(∃m,s'.heap.Ns C m)->Inv X a j H' s'->uk X a H' C->RR (.ref D) C (.ok .next) s') :
  Ù s!"b" X.A (WI []) (λf s₃=>Ù s!"b" X.A (ug scope X.env.globals cl [] X.env.qual none .none (À X.env)) (λk s₄=>
   e_ s!"b" X.A (.compStart (.ListComp elt [⟨tg,iter,Z,0⟩] scope pos) 0 (.ref it) f {k with scope:=relabel scope X.env}) (RR f k.locals) s₄) E s₃) E s:=by
 refine gK ?_ (by show 0<=sizeLine;exact ê _);have I3:Inv X a j (upd H s.heap.objs.size (.lst [])) {s with heap:=s.heap.push {cls:=.type "list",data:=.seq ([]:Á Value).toArray}}:=
  I.Q3 (its:=[]) (ys:=[]) (t':=s.toks) .nil (ê _)
 have hD:H s.heap.objs.size=none:=I.fresh;obtain⟨W,⟨m0,w0⟩,turn⟩:=hw _ hD;have fpD:∀b∈d,b≠s.heap.objs.size:=λb L z=>by
  obtain⟨o,ho,_⟩:=T.obj _ _ st b L;exact absurd (Ô ho) (by rw[z];exact ŋ _)
 have U:∀b∈d,uk X a (upd H s.heap.objs.size (.lst [])) b:=λb L=>⟨by rw[ä (fpD b L)];exact(P b L).1,(P b L).2⟩
 have V8:tn 0 (s.heap.push {cls:=.type "list",data:=.seq ([]:Á Value).toArray}):=T.keep _ _ _ st λb _ o e=>Ä _ e;refine Ih (α:=Á V) (B:=λi m ys j H5=>te j H5 λv H6=>H6 s.heap.objs.size=À (.lst ys)/\ys.length<sizeLine/\∃u,u<m/\W (i+1) u (ys++[v]) j (upd H6 s.heap.objs.size (.lst (ys++[v])))) (Q:=Q s.heap.objs.size) (p:=iter.pos) (body:=λf env=>Ė elt env >>= λx=>call (.builtin "list.append") [f,x] >>= λ_=>pure XB)
  (.inl ⟨_,_,_,_,rfl⟩) (λ_ _ _=>rfl) rfl rfl M O t r n Y hg ht (λcl C d G F a s' i m ys j H I h=>?_) I3 T V8 U w0 turn λC s' H' q=>Yg _ C s' H' q
 refine ak (Mc (N:=λv H'=>∃u,u<m/\W (i+1) u (ys++[v]) j H') (he cl C d G F) rfl I h) λ_ s11 ⟨v,H',I',u,hm,w'⟩=>⟨u,_,_,H',hm,I',w'⟩
def KS (l:Á (Str×Ë Nat)) (c:TI)(g:TG)(b:TT)(a:TE):TE:=λd H Q=>S6 l c g b a d H λD A=>Q (.ref D) A
section
variable {X:Cx}{elt tg iter:Expr}{ifs:Á Expr}{scope:Scope}{pos:kR}{wi:TI}{g:TG}{tt:TT}{te:TE}
structure fE (X:Cx)(scope:Scope)(l:Á (Str×Ë Nat)):Prop where
 kind:scope.kind=.function
 cell:∀y∈scope.names,y.2=.cell->scope.names.lookup y.1=À .cell
 names:∀y∈scope.names,y.2=.local->scope.names.lookup y.1=À .local
 free:∀y∈scope.names,y.2=.free->X.env.kindOf y.1=À .cell∨X.env.kindOf y.1=À .free
 src:j3 X scope l
def NQ (l:Á (Str×Ë Nat)) (a:fE X scope l)(d:X.calm=true)(Y:PI X tg iter wi)
  (U:∀cl C f j B,PG (aq X l scope cl C f j B) tg g) (ht:∀cl C f j B,LJ (aq X l scope cl C f j B) ifs tt) (O:∀cl C f j B,PE (aq X l scope cl C f j B) elt te)
  (hs:∀x,fb iter X.env x=pure x:=by intro _;rfl) :
  PE X (.ListComp elt [⟨tg,iter,ifs,0⟩] scope pos) (KS l wi g tt te):=by
 intro c s t H Q I h;obtain⟨cl,r,u,y⟩:=o9 (scope:=scope) (env:=X.env) λx hx P=>I.ok.has x.1 (a.free x hx P);rw[eval_ListComp];refine HH (use:=none) rfl hs r a.kind a.names (ak (Y c s t H _ I h) λv s1 L=>ak L λitv s2 M=>?_);obtain⟨it,f,tn,J,H2,e,G,T,p,z,hw⟩:=M;subst e;refine x_ (RR:=λk C=>compPost s!"b" X.A X.xe none (EP X c t Q) k C) r u y a.kind a.cell d a.src U ht O G T p z hw ?_;intro D C s' E q ⟨m,Z⟩ F i;refine⟨m,Z,λh' n=>?_⟩;exact⟨.ref D,E,F.turned (t':=s'.toks) (λb o N e=>(n.2 b N).trans e) i.1 i.2.1 i.2.2.2.1 i.2.2.2.2.1 i.2.2.2.2.2,rfl,q⟩
def DN (l:Á (Str×Ë Nat)) (c:fE X scope l)(j:X.calm=true)(hN:X.N.Nodup)(hy:X.N[i]?=À y)(t:X.env.scope.names.lookup y=À .local)(hi:PI X tg iter wi)
  (hg:∀cl C k p B,PG (aq X l scope cl C k p B) tg g) (ht:∀cl C k p B,LJ (aq X l scope cl C k p B) ifs tt) (he:∀cl C k p B,PE (aq X l scope cl C k p B) elt te)
  (M:eS (.ListComp elt [⟨tg,iter,ifs,0⟩] scope pos) (À (.Name y n)) r.line X.env=pure true)
  (hs:∀x,fb iter X.env x=pure x:=by intro _;rfl) :
  PS X (.Assign [.Name y n] (.ListComp elt [⟨tg,iter,ifs,0⟩] scope pos) r) (Oz (KS l wi g tt te) (EM i)):=by
 intro d s σ H U I h;obtain⟨cl,Y,e2,e3⟩:=o9 (scope:=scope) (env:=X.env) λx t hf=>I.ok.has x.1 (c.free x t hf);rw[exec_Assign_Name_used _ _ _ _ M];refine Ã (eU (Ã ?_));show Ù _ X.A (do let _ <-comprehension (.ListComp elt [⟨tg,iter,ifs,0⟩] scope pos) scope X.env _ (WI []) false (Ė iter X.env) (À (k9 (.Name y n) X.env))) _ _ s;refine Ã (ak (HH (use:=À (k9 (.Name y n) X.env)) (Q:=λ_ s'=>SP X d U .next s') rfl hs Y c.kind c.names
  (ak (hi d s σ H _ I h) λv s1 h1=>ak h1 λitv s2 h2=>?_)) λ_ s' hq=>Ê (Ê hq))
 obtain⟨it,k,tn,J,H2,e,I2,T,P,f2,hw⟩:=h2;subst e;refine x_ (RR:=λu C=>compPost s!"b" X.A X.xe (À (k9 (.Name y n) X.env)) (λ_ s'=>SP X d U .next s') u C) Y e2 e3 c.kind c.cell j c.src hg ht he I2 T P f2 hw ?_;intro D C s' Z q ⟨m,hn⟩ I' f;show Ù _ X.A (k9 (.Name y n) X.env (.ref D)) _ _ _;refine WN (yE (v:=.ref D) I' hN hy (.inl t) rfl (λO E hk=>?_) (.inr t));obtain⟨a,L,ha⟩:=hk;have F:C≠a:=by
  rintro rfl;rcases ha with z|z
  ·exact f.2.1 z
  ·exact f.2.2.2.2.1 y _ z rfl
 refine⟨m,hn.sameBut L F,λh' G=>?_⟩;exact⟨_,Z,E.turned (t':=O.toks) (λb o hb e=>(G.2 b hb).trans e) f.1 f.2.1 f.2.2.2.1 f.2.2.2.2.1 f.2.2.2.2.2,q⟩
end
def eV (n:Nat)(i:Int):Prop:=i.natAbs<2^n
def eV.mono (h:eV n i)(k:n<=m):eV m i:=ð h (Nat.pow_le_pow_right s!"i" k)
def eV.mul (h:eV n i)(k:eV m j):eV (n+m) (i*j):=by
 unfold eV at *
 rw[eX,Nat.pow_add];exact Nat.mul_lt_mul'' h k
def eV.add (h:eV n i)(k:eV n j):eV (n+1) (i+j):=by
 unfold eV at *
 have:=Int.natAbs_add_le i j;rw[Nat.pow_succ];lia
def eV.le (h:eV n i)(k:j.natAbs<=i.natAbs):eV n j:=bI k h
def eV.bits (h:eV n i):bV i<=n:=by
 unfold bV;split
 ·exact ê _
 ·rename_i b;have a:i.natAbs≠0:=by
   intro z;apply b;have:i=0:=by lia
   simp[this]
  have:=(Zz a).mpr h;lia
def eV.log (h:eV n i)(b:0<n):i.natAbs.log2<n:=by
 by_cases a:i.natAbs=0
 ·rw[a];show Nat.log2 0<n;have:Nat.log2 0=0:=by decide
  rw[this];exact b
 ·exact(Zz a).mpr h
def eV.Vs (h:eV 60000000 i)(k:eV 60000000 j):IntMulOk i j:=by
 have a:=h.bits;have b:=k.bits;unfold IntMulOk;have e:xO (((bV i+bV j:Nat)):Int)=false:=by
  unfold xO;refine ë ?_;show ¬((((bV i+bV j:Nat)):Int) > (((2^27:Nat)):Int));have:(2^27:Nat)=134217728:=by decide
  lia
 simp[e];try (intro _ _;exact_mod_cast e)
def ye (a:-(2^n)<i) (b:i<2^n):eV n i:=by
 unfold eV;have e:((2^n:Nat):Int)=(2:Int)^n:=by
  rw[Int.natCast_pow];rfl
 have:(i.natAbs:Int)<((2^n:Nat):Int):=by rw[e];lia
 exact_mod_cast this
section
variable {X:Cx}
def NN:jm X (bf .Mult) (rI (λi j=>eV 60000000 i/\eV 60000000 j) λi j=>.int (i*j)):=Xc λ_ _ _ _ _ _ _ a q=>mul_int q (a.1.Vs a.2)
def J4:jm X (bf .FloorDiv) (rI (λ_ j=>j≠0/\eV 9000 j) λi j=>.int (i.fdiv j)):=Xc λ_ _ _ _ _ _ _ a q=>floordiv_int a.1 q (.inl (yL (a.2.log s!"i")))
def zb:aG X (.builtin "divmod") (λxs H Q=>∃i j,xs=[.int i,.int j]/\(0<j/\eV 9000 j)/\∀p,H p=none->Q (.ref p) (upd H p (.tup [.int (i / j),.int (i % j)]))):=by
 intro a s l H xs us Q I r h;obtain⟨i,j,rfl,⟨f,c⟩,q⟩:=h;obtain⟨u,k,rfl,⟨t,rfl⟩,⟨g,rfl⟩⟩:=vals2 r;refine divmod_int (by lia) ?_ (.inl (yL (c.log s!"i")));rw[Ay i (by lia),kZ i (by lia)];have d:H s.heap.objs.size=none:=I.ţ.fresh (Í _);refine⟨.ref s.heap.objs.size,_,?_,rfl,q _ d⟩;refine I.laid (λb o e=>Ä _ e) (Í _) ⟨by simp only[ć,df];rw[İ];decide,[.int (i / j) s.toks,.int (i % j) (s.toks+1)],.cons ⟨_,rfl⟩ (.cons ⟨_,rfl⟩ .nil),?_⟩;exact⟨_,Ö s.heap rfl,rfl,0,rfl⟩
theorem A3:∀{bs:Á Bool}{us:Á Value},Vals (bs.map V.bl) us->∀(i:Nat)(v:Value),us[i]?=À v->∃b:Bool,bs[i]?=À b/\v=fN b
 |[],us,r,i,v,e=>by
  cases r;simp at e
 |b::bs,us,r,i,v,e=>by
  cases r with
  |cons f g=>
   cases i with
   |zero=>
    simp at e;subst e;exact⟨b,rfl,f⟩
   |succ i=>
    obtain⟨a,c,d⟩:=A3 g i v (by simpa using e);exact⟨a,by simpa using c,d⟩
def DR (bs:Á Bool):((Ĉ bs.length).all λi=>(bs[i]?).getD true)=bs.all id:=by
 rw[jR,Ā,Ā];constructor
 ·intro h b d;obtain⟨i,c,e⟩:=ļ d;have:=h i (qi.mpr c);simp only[Å c,uO,e]at this;exact this
 ·intro h i c;have a:=qi.mp c;simp only[Å a,uO];exact h _ (e9 a)
def F5 (l:X.calm=true):aG X (.builtin "all") (λxs H Q=>∃(a:Addr) (bs:Á Bool),xs=[.ref a]/\fQ X.K H a (bs.map V.bl)/\Q (.bl (bs.all id)) H):=by
 intro g s z H xs us Q I r h;obtain⟨a,bs,rfl,k,q⟩:=h;obtain⟨u,rfl,o⟩:=vals1 r;cases o;obtain⟨c,rv,p,y⟩:=I.list k;have hl:=p.isList;have d:a<s.heap.objs.size:=by obtain⟨_,e,_⟩:=hl;exact Ô e
 refine call_all_walk (yX hl ?_);refine⟨s.heap.objs.size,[s.heap.objs.size,a],[s.heap.objs.size],c.toArray.size,_,_,λi=>(bs[i]?).getD true,rfl,Walks.list (A:=X.A.in1) (I.ok.hd l) _ a (ñ d) c.toArray,
  ⟨⟨_,Ö _ rfl,rfl,rfl⟩,hl.push _⟩,λi v s' C B j f=>?_,λw t m=>?_⟩
 ·obtain⟨b,e,rfl⟩:=A3 rv i v (by simpa using j);simp only[e,uO]at f;exact cD f
 ·have e:((Ĉ c.toArray.size).all λi=>(bs[i]?).getD true)=bs.all id:=by
   rw[Ú,<-rv.length,É];exact DR bs
  rw[e];refine⟨.bl _,H,I.kept (t':=t) λb x e=>m b x (λn=>?_) (Ä _ e),rfl,q⟩;rw[ò.mp n]at e;exact ŋ _ (Ô e)
end
inductive Dt where
 |Ĕ|bl (b:Bool)|int (i:Int)|str (x:Str)|tup (l:Á Dt)|lst (l:Á Dt)
mutual
def Dt.dep:Dt->Nat
 |.tup l=>aH l+1
 |.lst l=>aH l+1
 |_=>0
def aH:Á Dt->Nat
 |[]=>0
 |d::r=>max d.dep (aH r)
end
mutual
def cA:Dt->Dt->Bool
 |.Ĕ,.Ĕ=>true
 |.bl a,.bl b=>a == b
 |.bl a,.int b=>(if a then 1 else 0) == b
 |.int a,.bl b=>a == (if b then 1 else 0)
 |.int a,.int b=>a == b
 |.str a,.str b=>a == b
 |.tup a,.tup b=>iA a b
 |.lst a,.lst b=>iA a b
 |_,_=>false
def iA:Á Dt->Á Dt->Bool
 |[],[]=>true
 |a::r,b::q=>cA a b&&iA r q
 |_,_=>false
end
mutual
def Rep (K:È)(N:Addr->Prop)(H:Hp):Dt->V->Prop
 |.Ĕ,v=>v=.Ĕ
 |.bl b,v=>v=.bl b
 |.int i,v=>v=.int i
 |.str x,v=>v=.str x
 |.tup l,v=>∃a xs,v=.ref a/\¬N a/\gz K H a xs/\bJ K N H l xs
 |.lst l,v=>∃a xs,v=.ref a/\¬N a/\fQ K H a xs/\bJ K N H l xs
def bJ (K:È)(N:Addr->Prop)(H:Hp):Á Dt->Á V->Prop
 |[],xs=>xs=[]
 |d::r,xs=>∃x a,xs=x::a/\Rep K N H d x/\bJ K N H r a
end
def xS (N:Addr->Prop)(H H':Hp):Prop:=∀b o,H b=À o->¬N b->H' b=À o
def xS.S1 {K:È}{N:Addr->Prop}(s:xS N H H')(n:¬N a)(h:gz K H a xs):gz K H' a xs:=by
 rcases h with(h|⟨o,h⟩)|h
 ·exact .inl (.inl (s _ _ h n))
 ·exact .inl (.inr ⟨o,s _ _ h n⟩)
 ·exact .inr h
def xS.G_ {K:È}{N:Addr->Prop}(s:xS N H H')(n:¬N a)(h:fQ K H a xs):fQ K H' a xs:=by
 rcases h with(h|⟨o,h⟩)|h
 ·exact .inl (.inl (s _ _ h n))
 ·exact .inl (.inr ⟨o,s _ _ h n⟩)
 ·exact .inr h
mutual
theorem Rep.same {K:È}{N:Addr->Prop}(s:xS N H H'):∀{d:Dt}{v:V},Rep K N H d v->Rep K N H' d v
 |.Ĕ,_,h=>h
 |.bl _,_,h=>h
 |.int _,_,h=>h
 |.str _,_,h=>h
 |.tup l,v,h=>by
  unfold Rep at h⊢;obtain⟨a,xs,e,n,q,r⟩:=h;exact⟨a,xs,e,n,s.S1 n q,bJ.same s r⟩
 |.lst l,v,h=>by
  unfold Rep at h⊢;obtain⟨a,xs,e,n,q,r⟩:=h;exact⟨a,xs,e,n,s.G_ n q,bJ.same s r⟩
theorem bJ.same {K:È}{N:Addr->Prop}(s:xS N H H'):∀{l:Á Dt}{xs:Á V},bJ K N H l xs->bJ K N H' l xs
 |[],_,h=>h
 |d::r,xs,h=>by
  unfold bJ at h⊢;obtain⟨x,c,e,a,b⟩:=h;exact⟨x,c,e,Rep.same s a,bJ.same s b⟩
end
theorem bJ.length {K:È}{N:Addr->Prop}:∀{l:Á Dt}{xs:Á V},bJ K N H l xs->l.length=xs.length
 |[],xs,h=>by unfold bJ at h;rw[h];rfl
 |d::r,xs,h=>by
  unfold bJ at h;obtain⟨x,b,rfl,_,a⟩:=h;rw[ć,ć,bJ.length a]
theorem bJ.get {K:È}{N:Addr->Prop}:∀{l:Á Dt}{xs:Á V}{i:Nat}{d:Dt},bJ K N H l xs->l[i]?=À d->∃x,xs[i]?=À x/\Rep K N H d x
 |[],xs,i,d,h,e=>by simp at e
 |d0::r,xs,0,d,h,e=>by
  unfold bJ at h;obtain⟨x,g,rfl,c,_⟩:=h;simp at e;subst e;exact⟨x,rfl,c⟩
 |d0::r,xs,i+1,d,h,e=>by
  unfold bJ at h;obtain⟨x,g,rfl,_,f⟩:=h;obtain⟨y,a,b⟩:=bJ.get (i:=i) f (by simpa using e);exact⟨y,by simpa using a,b⟩
theorem nK:∀{l q:Á Dt},l.length≠q.length->iA l q=false
 |[],[],h=>absurd rfl h
 |[],_::_,_=>by simp[iA]
 |_::_,[],_=>by simp[iA]
 |a::r,b::q,h=>by
  simp only[iA];rw[nK (l:=r) (q:=q) (by simpa using h),qg]
theorem jy:∀{l q:Á Dt},l.length=q.length->iA l q=(Ĉ l.length).all λi=>match l[i]?,q[i]? with|some a,À b=>cA a b|_,_=>true
 |[],[],_=>by simp[iA]
 |a::r,b::q,h=>by
  simp only[iA];rw[jy (l:=r) (q:=q) (by simpa using h),ć,List.range_succ_eq_map,Ķ,List.all_map];simp[Function.comp_def]
theorem Ba:∀{l:Á Dt}{i:Nat}{d:Dt},l[i]?=À d->d.dep<=aH l
 |[],i,d,e=>by simp at e
 |a::r,0,d,e=>by simp at e;subst e;simp only[aH];exact Nat.le_max_left _ _
 |a::r,i+1,d,e=>by
  have:=Ba (l:=r) (i:=i) (d:=d) (by simpa using e);simp only[aH];exact ĺ this (Nat.le_max_right _ _)
section
variable {X:Cx}{ÿ:Á (Addr×Obj)}{σ:St}{H:Hp}{s:Ó}{N N':Addr->Prop}
def BM (I:Inv X ÿ σ H s)(h:fQ X.K H a xs)(k:gz X.K H a ys):False:=by
 obtain⟨g,_,p,_⟩:=I.list h;obtain⟨f,_,q,_⟩:=I.tuple k;obtain⟨o,e,c,_⟩:=p.isList;obtain⟨i,d,b,_⟩:=q;rw[e]at d;cases d;rw[c]at b;injection b with z
 exact absurd z s!"i"
mutual
theorem Rep.inj (I:Inv X ÿ σ H s):∀{d e:Dt}{v:V},Rep X.K N H d v->Rep X.K N' H e v->d=e
 |.Ĕ,.Ĕ,_,_,_=>rfl
 |.Ĕ,.bl _,_,h,k=>by unfold Rep at h k;rw[h]at k;cases k
 |.Ĕ,.int _,_,h,k=>by unfold Rep at h k;rw[h]at k;cases k
 |.Ĕ,.str _,_,h,k=>by unfold Rep at h k;rw[h]at k;cases k
 |.Ĕ,.tup _,_,h,k=>by unfold Rep at h k;obtain⟨_,_,e,_⟩:=k;rw[h]at e;cases e
 |.Ĕ,.lst _,_,h,k=>by unfold Rep at h k;obtain⟨_,_,e,_⟩:=k;rw[h]at e;cases e
 |.bl _,.Ĕ,_,h,k=>by unfold Rep at h k;rw[h]at k;cases k
 |.bl x,.bl y,_,h,k=>by unfold Rep at h k;rw[h]at k;cases k;rfl
 |.bl _,.int _,_,h,k=>by unfold Rep at h k;rw[h]at k;cases k
 |.bl _,.str _,_,h,k=>by unfold Rep at h k;rw[h]at k;cases k
 |.bl _,.tup _,_,h,k=>by unfold Rep at h k;obtain⟨_,_,e,_⟩:=k;rw[h]at e;cases e
 |.bl _,.lst _,_,h,k=>by unfold Rep at h k;obtain⟨_,_,e,_⟩:=k;rw[h]at e;cases e
 |.int _,.Ĕ,_,h,k=>by unfold Rep at h k;rw[h]at k;cases k
 |.int _,.bl _,_,h,k=>by unfold Rep at h k;rw[h]at k;cases k
 |.int x,.int y,_,h,k=>by unfold Rep at h k;rw[h]at k;cases k;rfl
 |.int _,.str _,_,h,k=>by unfold Rep at h k;rw[h]at k;cases k
 |.int _,.tup _,_,h,k=>by unfold Rep at h k;obtain⟨_,_,e,_⟩:=k;rw[h]at e;cases e
 |.int _,.lst _,_,h,k=>by unfold Rep at h k;obtain⟨_,_,e,_⟩:=k;rw[h]at e;cases e
 |.str _,.Ĕ,_,h,k=>by unfold Rep at h k;rw[h]at k;cases k
 |.str _,.bl _,_,h,k=>by unfold Rep at h k;rw[h]at k;cases k
 |.str _,.int _,_,h,k=>by unfold Rep at h k;rw[h]at k;cases k
 |.str x,.str y,_,h,k=>by unfold Rep at h k;rw[h]at k;cases k;rfl
 |.str _,.tup _,_,h,k=>by unfold Rep at h k;obtain⟨_,_,e,_⟩:=k;rw[h]at e;cases e
 |.str _,.lst _,_,h,k=>by unfold Rep at h k;obtain⟨_,_,e,_⟩:=k;rw[h]at e;cases e
 |.tup _,.Ĕ,_,h,k=>by unfold Rep at h k;obtain⟨_,_,e,_⟩:=h;rw[k]at e;cases e
 |.tup _,.bl _,_,h,k=>by unfold Rep at h k;obtain⟨_,_,e,_⟩:=h;rw[k]at e;cases e
 |.tup _,.int _,_,h,k=>by unfold Rep at h k;obtain⟨_,_,e,_⟩:=h;rw[k]at e;cases e
 |.tup _,.str _,_,h,k=>by unfold Rep at h k;obtain⟨_,_,e,_⟩:=h;rw[k]at e;cases e
 |.tup l,.tup q,_,h,k=>by
  unfold Rep at h k;obtain⟨a,xs,rfl,_,c,g⟩:=h;obtain⟨b,j,e,_,f,i⟩:=k;cases e;have:=I.sT c f;subst this;rw[bJ.inj I g i]
 |.tup _,.lst _,_,h,k=>by unfold Rep at h k;obtain⟨_,_,rfl,_,c,_⟩:=h;obtain⟨_,_,e,_,f,_⟩:=k;cases e;exact(BM I f c).elim
 |.lst _,.Ĕ,_,h,k=>by unfold Rep at h k;obtain⟨_,_,e,_⟩:=h;rw[k]at e;cases e
 |.lst _,.bl _,_,h,k=>by unfold Rep at h k;obtain⟨_,_,e,_⟩:=h;rw[k]at e;cases e
 |.lst _,.int _,_,h,k=>by unfold Rep at h k;obtain⟨_,_,e,_⟩:=h;rw[k]at e;cases e
 |.lst _,.str _,_,h,k=>by unfold Rep at h k;obtain⟨_,_,e,_⟩:=h;rw[k]at e;cases e
 |.lst _,.tup _,_,h,k=>by unfold Rep at h k;obtain⟨_,_,rfl,_,c,_⟩:=h;obtain⟨_,_,e,_,f,_⟩:=k;cases e;exact(BM I c f).elim
 |.lst l,.lst q,_,h,k=>by
  unfold Rep at h k;obtain⟨a,xs,rfl,_,c,g⟩:=h;obtain⟨b,j,e,_,f,i⟩:=k;cases e;have:=I.vT c f;subst this;rw[bJ.inj I g i]
theorem bJ.inj (I:Inv X ÿ σ H s):∀{l q:Á Dt}{xs:Á V},bJ X.K N H l xs->bJ X.K N' H q xs->l=q
 |[],[],_,_,_=>rfl
 |[],_::_,_,h,k=>by unfold bJ at h k;obtain⟨_,_,e,_⟩:=k;rw[h]at e;cases e
 |_::_,[],_,h,k=>by unfold bJ at h k;obtain⟨_,_,e,_⟩:=h;rw[k]at e;cases e
 |a::r,b::q,xs,h,k=>by
  unfold bJ at h k;obtain⟨x,i,rfl,c,d⟩:=h;obtain⟨y,j,e,f,g⟩:=k;cases e;rw[Rep.inj I c f,bJ.inj I d g]
end
mutual
theorem vy:∀d:Dt,cA d d=true
 |.Ĕ=>by simp[cA]
 |.bl _=>by simp[cA]
 |.int _=>by simp[cA]
 |.str _=>by simp[cA]
 |.tup l=>by simp only[cA];exact rY l
 |.lst l=>by simp only[cA];exact rY l
theorem rY:∀l:Á Dt,iA l l=true
 |[]=>by simp[iA]
 |d::r=>by simp only[iA,vy d,rY r,Bool.and_self]
end
def lA (E:∀(d e:Dt){v w:V}{u z:Value},d.dep<=k->Rep X.K N H d v->Rep X.K N' H e w->RelV v u->RelV w z->rJ A s u z (cA d e))
  {l q:Á Dt}{its c:Á Value}(hd:aH l<=k) (h:bJ X.K N H l xs) (h':bJ X.K N' H q ys) (r:Vals xs its) (n:Vals ys c) :
  ∀j (g:j<its.toArray.size) (i:j<c.toArray.size),rJ A s its.toArray[j] c.toArray[j] (match l[j]?,q[j]? with|some a,À b=>cA a b|_,_=>true):=by
 intro j g i;have F:l.length=its.length:=h.length.trans r.length;have G:q.length=c.length:=h'.length.trans n.length;have f:j<l.length:=by rw[F];simpa using g
 have m:j<q.length:=by rw[G];simpa using i
 obtain⟨x,B,J⟩:=h.get (Å f);obtain⟨y,C,L⟩:=h'.get (Å m);obtain⟨u,t,I⟩:=r.get B;obtain⟨z,D,M⟩:=n.get C;rw[Å f,Å m];have o:its.toArray[j]=u:=by
  have:=Æ.mp t;obtain⟨_,e⟩:=this;simpa using e
 have p:c.toArray[j]=z:=by
  have:=Æ.mp D;obtain⟨_,e⟩:=this;simpa using e
 rw[o,p];exact E _ _ (ĺ (Ba (Å f)) hd) J L I M
def pK {l q:Á Dt}{its c:Á Value}(h:bJ X.K N H l xs)(h':bJ X.K N' H q ys)(r:Vals xs its)(g:Vals ys c) :
  ((Ĉ (min its.toArray.size c.toArray.size)).all (λj=>match l[j]?,q[j]? with|some a,À b=>cA a b|_,_=>true)&&its.toArray.size == c.toArray.size)=iA l q:=by
 have e:l.length=its.toArray.size:=by simpa using h.length.trans r.length
 have f:q.length=c.toArray.size:=by simpa using h'.length.trans g.length
 rw[<-e,<-f];by_cases d:l.length=q.length
 ·rw[jy d,d,Nat.min_self];simp
 ·rw[nK d];have:(l.length == q.length)=false:=by simpa using d
  rw[this,qg]
set_option hygiene false in
local macro_rules|`(tactic|walk_at"p")=>`(tactic|(unfold Rep at c;subst c;have:=ŧ (A:=A) (s:=s) r f rfl rfl;simpa[cA,gA]using this))
set_option hygiene false in
local macro_rules|`(tactic|walk_at"r")=>`(tactic|(unfold Rep at c;obtain⟨a,xs,rfl,_,i,_⟩:=c;cases f))
def vw (I:Inv X ÿ σ H s):∀k A,A.units+k<cLine->∀(d e:Dt) {v w:V}{u z:Value},d.dep<=k->Rep X.K N H d v->Rep X.K N' H e w->RelV v u->RelV w z->rJ A s u z (cA d e):=by
 intro k;induction k with
 |zero=>
  intro A hA d e v w u z hd h c r f;have hu:A.units<cLine:=by lia
  cases d with
  |tup l=>exact absurd hd (by simp[Dt.dep])
  |lst l=>exact absurd hd (by simp[Dt.dep])
  |Ĕ=>
   unfold Rep at h;subst h;cases e with
   |Ĕ=>
    walk_at"p"
   |bl y=>
    walk_at"p"
   |int y=>
    walk_at"p"
   |str y=>
    walk_at"p"
   |tup y=>
    walk_at"r";obtain⟨g,_,p,_⟩:=I.tuple i;cases r;simp only[cA];exact yO p hu
   |lst y=>
    walk_at"r";obtain⟨g,_,p,_⟩:=I.list i;cases r;simp only[cA];exact An p.isList hu
  |bl x=>
   unfold Rep at h;subst h;cases e with
   |Ĕ=>
    walk_at"p"
   |bl y=>
    walk_at"p"
   |int y=>
    walk_at"p"
   |str y=>
    walk_at"p"
   |tup y=>
    walk_at"r";obtain⟨g,_,p,_⟩:=I.tuple i;cases r;simp only[cA];exact yN x p hu
   |lst y=>
    walk_at"r";obtain⟨g,_,p,_⟩:=I.list i;cases r;simp only[cA];exact Al x p.isList hu
  |int x=>
   unfold Rep at h;subst h;cases e with
   |Ĕ=>
    walk_at"p"
   |bl y=>
    walk_at"p"
   |int y=>
    walk_at"p"
   |str y=>
    walk_at"p"
   |tup y=>
    walk_at"r";obtain⟨g,_,p,_⟩:=I.tuple i;obtain⟨t,rfl⟩:=r;simp only[cA];exact Am x t p hu
   |lst y=>
    walk_at"r";obtain⟨g,_,p,_⟩:=I.list i;obtain⟨t,rfl⟩:=r;simp only[cA];exact AH x t p.isList hu
  |str x=>
   unfold Rep at h;subst h;cases e with
   |Ĕ=>
    walk_at"p"
   |bl y=>
    walk_at"p"
   |int y=>
    walk_at"p"
   |str y=>
    walk_at"p"
   |tup y=>
    walk_at"r";obtain⟨g,_,p,_⟩:=I.tuple i;obtain⟨t,rfl⟩:=r;simp only[cA];exact Ao x t p hu
   |lst y=>
    walk_at"r";obtain⟨g,_,p,_⟩:=I.list i;obtain⟨t,rfl⟩:=r;simp only[cA];exact AI x t p.isList hu
 |succ k T=>
  intro A hA d e v w u z hd h c r f;have hu:A.units<cLine:=by lia
  have F:A.in1.units+k<cLine:=by have:A.in1.units=A.units+1:=rfl;lia
  cases d with
  |Ĕ=>
   unfold Rep at h;subst h;cases e with
   |Ĕ=>
    walk_at"p"
   |bl y=>
    walk_at"p"
   |int y=>
    walk_at"p"
   |str y=>
    walk_at"p"
   |tup y=>
    walk_at"r";obtain⟨g,_,p,_⟩:=I.tuple i;cases r;simp only[cA];exact yO p hu
   |lst y=>
    walk_at"r";obtain⟨g,_,p,_⟩:=I.list i;cases r;simp only[cA];exact An p.isList hu
  |bl x=>
   unfold Rep at h;subst h;cases e with
   |Ĕ=>
    walk_at"p"
   |bl y=>
    walk_at"p"
   |int y=>
    walk_at"p"
   |str y=>
    walk_at"p"
   |tup y=>
    walk_at"r";obtain⟨g,_,p,_⟩:=I.tuple i;cases r;simp only[cA];exact yN x p hu
   |lst y=>
    walk_at"r";obtain⟨g,_,p,_⟩:=I.list i;cases r;simp only[cA];exact Al x p.isList hu
  |int x=>
   unfold Rep at h;subst h;cases e with
   |Ĕ=>
    walk_at"p"
   |bl y=>
    walk_at"p"
   |int y=>
    walk_at"p"
   |str y=>
    walk_at"p"
   |tup y=>
    walk_at"r";obtain⟨g,_,p,_⟩:=I.tuple i;obtain⟨t,rfl⟩:=r;simp only[cA];exact Am x t p hu
   |lst y=>
    walk_at"r";obtain⟨g,_,p,_⟩:=I.list i;obtain⟨t,rfl⟩:=r;simp only[cA];exact AH x t p.isList hu
  |str x=>
   unfold Rep at h;subst h;cases e with
   |Ĕ=>
    walk_at"p"
   |bl y=>
    walk_at"p"
   |int y=>
    walk_at"p"
   |str y=>
    walk_at"p"
   |tup y=>
    walk_at"r";obtain⟨g,_,p,_⟩:=I.tuple i;obtain⟨t,rfl⟩:=r;simp only[cA];exact Ao x t p hu
   |lst y=>
    walk_at"r";obtain⟨g,_,p,_⟩:=I.list i;obtain⟨t,rfl⟩:=r;simp only[cA];exact AI x t p.isList hu
  |tup l=>
   have M:=h;unfold Rep at h;obtain⟨a,xs,rfl,na,i,G⟩:=h;cases r;obtain⟨g,J,p1,_⟩:=I.tuple i;have B:aH l<=k:=by simp only[Dt.dep]at hd;lia
   cases e with
   |Ĕ=>
    unfold Rep at c;subst c;cases f;simp only[cA];exact SeqAt.EqAt.tuple_none p1 hu
   |bl y=>
    unfold Rep at c;subst c;cases f;simp only[cA];exact SeqAt.EqAt.tuple_bool y p1 hu
   |int y=>
    unfold Rep at c;subst c;obtain⟨t,rfl⟩:=f;simp only[cA];exact SeqAt.EqAt.tuple_int y t p1 hu
   |str y=>
    unfold Rep at c;subst c;obtain⟨t,rfl⟩:=f;simp only[cA];exact SeqAt.EqAt.tuple_str y t p1 hu
   |tup q=>
    have m:=c;unfold Rep at c;obtain⟨b,Q,rfl,P,C,D⟩:=c;cases f;obtain⟨j,E,o,_⟩:=I.tuple C;by_cases n:a=b
    ·subst n;have:=Rep.inj I M m;rw[<-this,vy];exact tf _
    ·refine Ck n ?_;simp only[cA];have:=CB (A:=A) (s:=s) p1 o hu (lA (A:=A.in1) (λd e=>T A.in1 F d e) B G D J E);rw[pK G D J E]at this;exact this
   |lst q=>
    have m:=c;unfold Rep at c;obtain⟨b,Q,rfl,P,C,D⟩:=c;cases f;obtain⟨j,E,o,_⟩:=I.list C;simp only[cA];exact SeqAt.EqAt.tuple_list p1 o.isList hu
  |lst l=>
   have M:=h;unfold Rep at h;obtain⟨a,xs,rfl,na,i,G⟩:=h;cases r;obtain⟨g,J,p1,_⟩:=I.list i;have B:aH l<=k:=by simp only[Dt.dep]at hd;lia
   cases e with
   |Ĕ=>
    unfold Rep at c;subst c;cases f;simp only[cA];exact SeqAt.EqAt.list_none p1.isList hu
   |bl y=>
    unfold Rep at c;subst c;cases f;simp only[cA];exact SeqAt.EqAt.list_bool y p1.isList hu
   |int y=>
    unfold Rep at c;subst c;obtain⟨t,rfl⟩:=f;simp only[cA];exact SeqAt.EqAt.list_int y t p1.isList hu
   |str y=>
    unfold Rep at c;subst c;obtain⟨t,rfl⟩:=f;simp only[cA];exact SeqAt.EqAt.list_str y t p1.isList hu
   |tup q=>
    have m:=c;unfold Rep at c;obtain⟨b,Q,rfl,P,C,D⟩:=c;cases f;obtain⟨j,E,o,_⟩:=I.tuple C;simp only[cA];exact SeqAt.EqAt.list_tuple p1.isList o hu
   |lst q=>
    have m:=c;unfold Rep at c;obtain⟨b,Q,rfl,P,C,D⟩:=c;cases f;obtain⟨j,E,o,_⟩:=I.list C;by_cases n:a=b
    ·subst n;have:=Rep.inj I M m;rw[<-this,vy];exact tf _
    ·refine Ck n ?_;simp only[cA];have O:l.length=g.toArray.size:=by simpa using G.length.trans J.length
     have U:q.length=j.toArray.size:=by simpa using D.length.trans E.length
     by_cases L:l.length=q.length
     ·have:=Eh (A:=A) (s:=s) p1.isList o.isList (by rw[<-O,<-U];exact L) hu (lA (A:=A.in1) (λd e=>T A.in1 F d e) B G D J E);rw[<-O,<-jy L]at this;exact this
     ·rw[nK L];refine xf p1.isList o.isList ?_ hu;rw[<-O,<-U];simpa using L
def VQ (K:È)(a:Bool):R2:=λx y H Q=>∃(N N':Addr->Prop) (l q:Á Dt) (c:Bool),(Rep K N H (if c then .tup l else .lst l) x/\Rep K N' H (if c then .tup q else .lst q) y)/\aH l<=20/\Q (.bl (if a then !iA l q else iA l q)) H
def RZ (hu:X.A.units+30<cLine):jm X (Ĭ .Eq) (VQ X.K false):=by
 intro ÿ s σ H x y v u Q I F G h;obtain⟨N,N',l,q,c,⟨i,j⟩,hd,t⟩:=h;have g:X.A.units<cLine:=by lia
 have As:X.A.in1.units+20<cLine:=by have:X.A.in1.units=X.A.units+1:=rfl;lia
 cases c with
 |true=>
  simp only[fO]at i j;unfold Rep at i j;obtain⟨a,xs,rfl,_,D,n⟩:=i;obtain⟨b,J,rfl,_,B,m⟩:=j;cases F;cases G;obtain⟨k,o,p1,_⟩:=I.tuple D;obtain⟨f,p,z,_⟩:=I.tuple B;have:=CB (A:=X.A) (s:=s) p1 z g (lA (A:=X.A.in1) (λd e=>vw I 20 X.A.in1 As d e) hd n m o p);rw[pK n m o p]at this;exact this X.prog X.w _ _ ⟨.bl _,H,I,rfl,t⟩
 |false=>
  simp only[ŷ,fG]at i j;unfold Rep at i j;obtain⟨a,xs,rfl,_,D,n⟩:=i;obtain⟨b,J,rfl,_,B,m⟩:=j;cases F;cases G;obtain⟨k,o,p1,_⟩:=I.list D;obtain⟨f,p,z,_⟩:=I.list B;have C:l.length=k.toArray.size:=by simpa using n.length.trans o.length
  have E:q.length=f.toArray.size:=by simpa using m.length.trans p.length
  by_cases r:l.length=q.length
  ·have:=Eh (A:=X.A) (s:=s) p1.isList z.isList (by rw[<-C,<-E];exact r) g (lA (A:=X.A.in1) (λd e=>vw I 20 X.A.in1 As d e) hd n m o p);rw[<-C,<-jy r]at this;exact this X.prog X.w _ _ ⟨.bl _,H,I,rfl,t⟩
  ·simp only[nK r]at t;exact xf p1.isList z.isList (by rw[<-C,<-E];simpa using r) g X.prog X.w _ _ ⟨.bl _,H,I,rfl,t⟩
def R3 (hu:X.A.units+30<cLine):jm X (Ĭ .NotEq) (VQ X.K true):=by
 intro ÿ s σ H x y v u Q I F G h;obtain⟨N,N',l,q,c,⟨i,j⟩,hd,t⟩:=h;have g:X.A.units<cLine:=by lia
 have As:X.A.in1.units+20<cLine:=by have:X.A.in1.units=X.A.units+1:=rfl;lia
 cases c with
 |true=>
  simp only[fO]at i j;unfold Rep at i j;obtain⟨a,xs,rfl,_,D,n⟩:=i;obtain⟨b,J,rfl,_,B,m⟩:=j;cases F;cases G;obtain⟨k,o,p1,_⟩:=I.tuple D;obtain⟨f,p,z,_⟩:=I.tuple B;have:=Z8 (A:=X.A) (s:=s) p1 z g (lA (A:=X.A.in1) (λd e=>vw I 20 X.A.in1 As d e) hd n m o p);rw[pK n m o p]at this;exact this X.prog X.w _ _ ⟨.bl _,H,I,rfl,t⟩
 |false=>
  simp only[ŷ,fG]at i j;unfold Rep at i j;obtain⟨a,xs,rfl,_,D,n⟩:=i;obtain⟨b,J,rfl,_,B,m⟩:=j;cases F;cases G;obtain⟨k,o,p1,_⟩:=I.list D;obtain⟨f,p,z,_⟩:=I.list B;have C:l.length=k.toArray.size:=by simpa using n.length.trans o.length
  have E:q.length=f.toArray.size:=by simpa using m.length.trans p.length
  by_cases r:l.length=q.length
  ·have:=Z6 (A:=X.A) (s:=s) p1.isList z.isList (by rw[<-C,<-E];exact r) g (lA (A:=X.A.in1) (λd e=>vw I 20 X.A.in1 As d e) hd n m o p);rw[<-C,<-jy r]at this;exact this X.prog X.w _ _ ⟨.bl _,H,I,rfl,t⟩
  ·simp only[nK r]at t;exact Z7 p1.isList z.isList (by rw[<-C,<-E];simpa using r) g X.prog X.w _ _ ⟨.bl _,H,I,rfl,t⟩
end
structure Wk (J:It)(xs:Á V)(ok:Hp->Prop):Prop where
 go:∀i H,ok H->i<xs.length->J.go i H
 stop:∀i H,ok H->i=xs.length->J.stop i H
 Lm:∀i H x H',ok H->J.Lm i H x H'->H'=H/\xs[i]?=À x
theorem j3.any:∀{l:Á (Str×Ë Nat)},j3 X scope l->∀{x:Str},(l.any λp=>p.1 == x&&p.2.isSome)=true->X.env.kindOf x=À .cell∨X.env.kindOf x=À .free
 |[],_,x,e=>by simp at e
 |(y,none)::r,h,x,e=>j3.any (l:=r) h (by simpa using e)
 |(y,À k)::r,h,x,e=>by
  rw[Ų,fK]at e;rcases e with e|e
  ·have:y=x:=by simpa using e
   subst this;exact h.1.2.2
  ·exact j3.any (l:=r) h.2 e
def fE.of (e:scope.kind=.function)(c:∀y∈scope.names,y.2=.cell->scope.names.lookup y.1=À .cell)(f:∀y∈scope.names,y.2=.local->scope.names.lookup y.1=À .local)
  (d:∀y∈scope.names,y.2=.free->(l.any λp=>p.1 == y.1&&p.2.isSome)=true) (b:j3 X scope l):fE X scope l:=⟨e,c,f,λy g a=>b.any (d y g a),b⟩
def UC (h:eV 64 i):eV 9000 i:=h.mono s!"i"
def Ek (c:Bool)(h:Heap)(i l:Addr)(k:Nat):Prop:=if c=true then h.IsTupleIter i l k else h.IsListIter i l k
def um (c:Bool)(h:Heap)(l:Addr)(xs:Ē Value):Prop:=if c=true then h.IsTuple l xs else h.IsList l xs
def Ek.at (x:Ek c h i l k)(e:∀o,h.get? i=À o->h'.get? i=À o):Ek c h' i l k:=by
 cases c with
 |true=>obtain⟨o,a,r⟩:=(show h.IsTupleIter i l k from x);exact(show h'.IsTupleIter i l k from⟨o,e o a,r⟩)
 |false=>obtain⟨o,a,r⟩:=(show h.IsListIter i l k from x);exact(show h'.IsListIter i l k from⟨o,e o a,r⟩)
def um.at (x:um c h l xs)(e:∀o,h.get? l=À o->h'.get? l=À o):um c h' l xs:=by
 cases c with
 |true=>obtain⟨o,a,r⟩:=(show h.IsTuple l xs from x);exact(show h'.IsTuple l xs from⟨o,e o a,r⟩)
 |false=>obtain⟨o,a,r⟩:=(show h.IsList l xs from x);exact(show h'.IsList l xs from⟨o,e o a,r⟩)
def Ek.obj (x:Ek c h i l k):∃o,h.get? i=À o/\∀v,o.data≠.cell v:=by
 cases c with
 |true=>obtain⟨o,a,_,d⟩:=(show h.IsTupleIter i l k from x);exact⟨o,a,λv z=>by rw[d]at z;cases z⟩
 |false=>obtain⟨o,a,_,d⟩:=(show h.IsListIter i l k from x);exact⟨o,a,λv z=>by rw[d]at z;cases z⟩
section
variable {prog:ď}{w:ī}{A:Ň}{E:Value->Ó->Prop}{s:Ó}
def vZ (f:Ek c s.heap i l k)(hl:um c s.heap l xs)(g:xs[k]?=À v)
  (e:∀h',Ek c h' i l (k+1)->e8 i s.heap h'->Q v {s with heap:=h'}):Ù s!"j" A (ń (.ref i)) Q E s:=by
 cases c with
 |false=>exact wpAny_nextOf_list_item f hl g e
 |true=>
  have a:s.heap.IsTupleIter i l k:=f;obtain⟨o,d,m,b⟩:=id a;obtain⟨p,h,_,n,j⟩:=(show s.heap.IsTuple l xs from hl)
  unfold ń;refine Ã (ŀ (name:=ĩ "__next__") a.typeIs fu (ĭ fu a.typeIs Cd ?_ (Ax _)));show Ù _ _ (LD (.ref i) 0 >>= _) _ _ s;refine Ã (Ņ d b (x:=.ref l) rfl ?_);show Ù _ _ (if (Ñ l == ó)=true then _ else _) _ _ s;rw[Ø (show ¬((Ñ l == ó)=true)from à)];show Ù _ _ (LD (.ref i) 1 >>= _) _ _ s;refine Ã (Ņ d b (x:=.int k 0) rfl ?_);show Ù _ _ (seqItems? (.ref l) >>= _) _ _ s;refine Ã (dc h j ?_);simp only[a',g];refine Ã (jb d b (by simp) (Ê ⟨v,rfl,Ê (e _ (show Heap.IsTupleIter _ i l (k+1)from ?_) (Ÿ ..))⟩));refine⟨_,ā _ d (dB (LW b _)),(Obj.cls_mapFields ..).trans m,?_⟩;rw[LW b];simp[ź]
def Fb (g:A.handled=none)(j:Ek c s.heap i l k)(hl:um c s.heap l xs)(n:xs[k]?=none)
  (h:∀h' e,Heap.ExtBut i s.heap h'->(∃o,h'.get? e=À o/\o.cls=.type "StopIteration")->E (.ref e) {s with heap:=h'}):Ù s!"j" A (ń (.ref i)) Q E s:=by
 cases c with
 |false=>exact wpAny_nextOf_list_end g j hl n h
 |true=>
  have b:s.heap.IsTupleIter i l k:=j;obtain⟨u,d,r,f⟩:=id b;obtain⟨v,p,_,t,q⟩:=(show s.heap.IsTuple l xs from hl)
  unfold ń;refine Ã (ŀ (name:=ĩ "__next__") b.typeIs fu (ĭ fu b.typeIs Cd ?_ (Ax _)));show Ù _ _ (LD (.ref i) 0 >>= _) _ _ s;refine Ã (Ņ d f (x:=.ref l) rfl ?_);show Ù _ _ (if (Ñ l == ó)=true then _ else _) _ _ s;rw[Ø (show ¬((Ñ l == ó)=true)from à)];show Ù _ _ (LD (.ref i) 1 >>= _) _ _ s;refine Ã (Ņ d f (x:=.int k 0) rfl ?_);show Ù _ _ (seqItems? (.ref l) >>= _) _ _ s;refine Ã (dc p q ?_);simp only[a',n];refine Ã (b9 (Ã (jb d f (by simp) ?_)));show Ù _ _ (newExc (.type "StopIteration") [] >>= _) _ _ _;refine Ã ?_;simp only[newExc,newTuple];refine Ã (Ţ ?_ (by size_fits));refine Ã (m:=firstArgMember _ _) (P7 (a:=ó) (by first|rfl|(simp only[firstArgMember];rfl)) ?_);refine Ţ ?_ (by size_fits);simp only[raiseNew];refine Ã (HI ?_);first|rw[show A.in1.handled=none from g]|rw[g]
  refine Ã (Ê (P8 ?_));exact h _ _ (((Ÿ ..).extBut.push _).push _) ⟨_,Ö _ rfl,rfl⟩
structure ZK (c1 c2:Bool)(h:Heap)(z a b i j l m:Addr)(k:Nat):Prop where
 zz:Ce h z a b .none
 ins:oA h a (.ref i) (.ref j)
 out:∃x y,oA h b x y
 i1:Ek c1 h i l k
 i2:Ek c2 h j m k
def ON (D:ZipApart z a b i j l m)(Z:ZK H I s.heap z a b i j l m k)
  (N:um H s.heap l xs) (O:um I s.heap m ys) (hx:xs[k]?=À x) (hy:ys[k]?=À y)
  (hQ:∀h',Ce h' z a b (ź s.heap.objs.size)->oA h' a (.ref i) (.ref j)->oA h' b x y->Ek H h' i l (k+1)->Ek I h' j m (k+1)->oA h' s.heap.objs.size x y->
   (∀d o,d≠z->d≠b->d≠i->d≠j->s.heap.get? d=À o->h'.get? d=À o)->Q (À (.ref s.heap.objs.size)) {s with heap:=h'}) :
  Ù s!"j" A (gw (.ref z)) Q E s:=by
 obtain⟨g,h,⟨p1,P,M⟩,h1,h2⟩:=Z;have hT:s.TypeIs (.ref z) "zip":=⟨_,g,rfl⟩
 unfold gw;refine Ã (cO (ŀ (name:=ĩ "__next__") hT qh (ĭ qh hT TY ?_ (Tq _))));show Ù _ _ (LD (.ref z) 2 >>= _) _ _ _;refine Ã (Ņ g rfl (x:=.bool false) rfl ?_);show Ù _ _ (LD (.ref z) 3 >>= _) _ _ _;refine Ã (Ņ g rfl (x:=.ref a) rfl ?_);refine Ã (dc h rfl ?_);show Ù _ _ (aE (.ref z) >>= _) _ _ _;refine Ã ?_;unfold aE;refine Ã (Ņ g rfl (x:=.none) rfl (Ê ?_));simp only[fO];refine Ã (b9 ?_);refine Ã (Ņ g rfl (x:=.ref b) rfl ?_);refine Ã (dJ g (by simp) λq1 T t1=>?_);replace T:Ce q1 z a b .ellipsis:=T;refine Ã ?_;simp only[OU,P1,jS,Ae];refine Ã (Ã (xg ?_));show Ù _ _ (ń (.ref i) >>= _) _ _ _;refine Ã (vZ (s:={s with heap:=q1}) (h1.at λo e=>t1.extBut _ _ D.i1z e) (N.at λo e=>t1.extBut _ _ D.l1z e) hx λq2 i2 t2=>Ê ?_);have Y:oA q2 b p1 P:=t2.extBut _ _ D.TOi1 (t1.extBut _ _ D.TOz M);refine Ã (dc Y rfl ?_);refine Ã (uj Y λq3 G t3=>?_);replace G:oA q3 b x P:=G;refine Ã (Cq (Ê ?_));refine Ã (Ã (xg ?_));show Ù _ _ (ń (.ref j) >>= _) _ _ _;refine Ã (vZ (s:={s with heap:=q3}) (h2.at λo e=>t3.extBut _ _ D.TOi2.symm (t2.extBut _ _ D.i12.symm (t1.extBut _ _ D.i2z e)))
  (O.at λo e=>t3.extBut _ _ D.l2TO (t2.extBut _ _ D.l2i1 (t1.extBut _ _ D.l2z e))) hy λq4 j4 p=>Ê ?_)
 have b4:oA q4 b x P:=p.extBut _ _ D.TOi2 G;refine Ã (dc b4 rfl ?_);refine Ã (uj b4 λc u q=>?_);replace u:oA c b x y:=u;refine Ã (Cq (Ê (Ê ?_)));refine Ã (dc u rfl ?_);refine Ã (ui ?_);have n:c.objs.size=s.heap.objs.size:=by rw[q.1,p.1,t3.1,t2.1,t1.1]
 have z5:Ce c z a b .ellipsis:=q.extBut _ _ D.TOz.symm (p.extBut _ _ D.i2z.symm (t3.extBut _ _ D.TOz.symm (t2.extBut _ _ D.i1z.symm T)));have k5:∀d o,d≠z->d≠b->d≠i->d≠j->s.heap.get? d=À o->c.get? d=À o:=λd o f v J L e=>
  q.extBut _ _ v (p.extBut _ _ L (t3.extBut _ _ v (t2.extBut _ _ J (t1.extBut _ _ f e))))
 have i5:Ek H c i l (k+1):=i2.at λo e=>q.extBut _ _ D.TOi1.symm (p.extBut _ _ D.i12 (t3.extBut _ _ D.TOi1.symm e));have j5:Ek I c j m (k+1):=j4.at λo e=>q.extBut _ _ D.TOi2.symm e;have t:z<c.objs.size:=Ô z5;show Ù _ _ (kO (.ref z) (.ref c.objs.size) >>= _) _ _ _;refine Ã ?_;unfold kO;have z6:Ce (c.push {cls:=.type "tuple",data:=.seq #[x,y]}) z a b .ellipsis:=Ä _ z5;refine Ã (dJ z6 (by simp) λq7 U t7=>?_);replace U:Ce q7 z a b (ź c.objs.size):=U;refine dJ U (by simp) λB C t8=>?_;replace C:Ce B z a b (ź c.objs.size):=C;have r:∀d o,d≠z->c.get? d=À o->B.get? d=À o:=λd o f e=>t8.extBut _ _ f (t7.extBut _ _ f (Ä _ e));have X:oA B c.objs.size x y:=t8.extBut _ _ (Ĵ t) (t7.extBut _ _ (Ĵ t) (Ö _ rfl));rw[n]at C X;refine Ê ⟨_,rfl,Ê ?_⟩;show Q (À (.ref c.objs.size)) _;rw[n];exact hQ B C (r _ _ D.TIz (k5 _ _ D.TIz D.TITO D.TIi1 D.TIi2 h)) (r _ _ D.TOz u) (i5.at λo e=>r _ o D.i1z e) (j5.at λo e=>r _ o D.i2z e) X λd o f v J L e=>r d o f (k5 d o f v J L e)
def Tp (U:A.handled=none)(D:ZipApart z a b i j l m)(Z:ZK c1 c2 s.heap z a b i j l m k)
  (t:um c1 s.heap l xs) (G:um c2 s.heap m ys) (r:xs[k]?=none∨ys[k]?=none)
  (hQ:∀h',(∀d o,d≠z->d≠b->d≠i->d≠j->s.heap.get? d=À o->h'.get? d=À o)->Q none {s with heap:=h'}):Ù s!"j" A (gw (.ref z)) Q E s:=by
 obtain⟨p,y,⟨p1,p2,B⟩,O,h2⟩:=Z;have P:s.TypeIs (.ref z) "zip":=⟨_,p,rfl⟩
 unfold gw;have g:∀h' e,(∀d o,d≠z->d≠b->d≠i->d≠j->s.heap.get? d=À o->h'.get? d=À o)->(∃o,h'.get? e=À o/\o.cls=.type "StopIteration")->
   Ù s!"j" A (do if <-isInstance (.ref e) (.type "StopIteration")then pure none else throw (.ref e):Z5 (Ë Value)) Q E {s with heap:=h'}:=λh' e hk ⟨o,ho,hc⟩=>
  Ã (AW (T:="StopIteration") (b:=true) ⟨o,ho,hc⟩ FX (Ê (hQ h' hk)))
 refine Ã (cO (ŀ (name:=ĩ "__next__") P qh (ĭ qh P TY ?_ (Tq _))));show Ù _ _ (LD (.ref z) 2 >>= _) _ _ _;refine Ã (Ņ p rfl (x:=.bool false) rfl ?_);show Ù _ _ (LD (.ref z) 3 >>= _) _ _ _;refine Ã (Ņ p rfl (x:=.ref a) rfl ?_);refine Ã (dc y rfl ?_);show Ù _ _ (aE (.ref z) >>= _) _ _ _;refine Ã ?_;unfold aE;refine Ã (Ņ p rfl (x:=.none) rfl (Ê ?_));simp only[fO];refine Ã (b9 ?_);refine Ã (Ņ p rfl (x:=.ref b) rfl ?_);refine Ã (dJ p (by simp) λJ u t1=>?_);replace u:Ce J z a b .ellipsis:=u;refine Ã ?_;simp only[OU,P1,jS,Ae];refine Ã (Ã (xg ?_));show Ù _ _ (ń (.ref i) >>= _) _ _ _;cases H:xs[k]? with
 |none=>
  refine Ã (Fb (s:={s with heap:=J}) U (O.at λo e=>t1.extBut _ _ D.i1z e) (t.at λo e=>t1.extBut _ _ D.l1z e) H λL e t2 C=>?_);obtain⟨I,c,f⟩:=C;have z2:Ce L z a b .ellipsis:=t2 _ _ D.i1z.symm u;have n:e≠z:=λx=>by subst x;rw[z2]at c;cases c;simp at f
  refine dJ z2 (by simp) λM _ t3=>?_;exact g M e (λd o q _ v _ x=>t3.extBut _ _ q (t2 _ _ v (t1.extBut _ _ q x))) ⟨I,t3.extBut _ _ n c,f⟩
 |some x=>
  have hy:ys[k]?=none:=by
   rcases r with h|h
   ·rw[H]at h;cases h
   ·exact h
  refine Ã (vZ (s:={s with heap:=J}) (O.at λo e=>t1.extBut _ _ D.i1z e) (t.at λo e=>t1.extBut _ _ D.l1z e) H λL i2 t2=>Ê ?_);have N:oA L b p1 p2:=t2.extBut _ _ D.TOi1 (t1.extBut _ _ D.TOz B);refine Ã (dc N rfl ?_);refine Ã (uj N λM b3 t3=>?_);refine Ã (Cq (Ê ?_));refine Ã (Ã (xg ?_));show Ù _ _ (ń (.ref j) >>= _) _ _ _;refine Ã (Fb (s:={s with heap:=M}) U (h2.at λo e=>t3.extBut _ _ D.TOi2.symm (t2.extBut _ _ D.i12.symm (t1.extBut _ _ D.i2z e)))
   (G.at λo e=>t3.extBut _ _ D.l2TO (t2.extBut _ _ D.l2i1 (t1.extBut _ _ D.l2z e))) hy λq4 e X C=>?_)
  obtain⟨I,c,f⟩:=C;have z4:Ce q4 z a b .ellipsis:=X _ _ D.i2z.symm (t3.extBut _ _ D.TOz.symm (t2.extBut _ _ D.i1z.symm u));have n:e≠z:=λx=>by subst x;rw[z4]at c;cases c;simp at f
  refine dJ z4 (by simp) λq5 _ Y=>?_;exact g q5 e (λd o q e2 v e4 x=>Y.extBut _ _ q (X _ _ e4 (t3.extBut _ _ e2 (t2.extBut _ _ v (t1.extBut _ _ q x))))) ⟨I,Y.extBut _ _ n c,f⟩
def JR (l m:Addr)(xs ys:Ē Value) :
  Meets (cC.«zip.__new__» ⟨[.type "zip",.ref l,.ref m],[]⟩) (λ_ R s=>s.heap.IsTuple l xs/\s.heap.IsTuple m ys/\
   R (.ok (.ret (.ref (s.heap.objs.size+4)))) {s with heap:=((((s.heap.push {cls:=.type "tuple_iterator",data:=.fields #[.ref l,.int 0 0]}).push {cls:=.type "tuple_iterator",data:=.fields #[.ref m,.int 0 0]}).push
    {cls:=.type "tuple",data:=.seq #[.ref s.heap.objs.size,.ref s!"n"]}).push {cls:=.type "tuple",data:=.seq #[.none,.none]}).push {cls:=.type "zip",data:=.fields #[.none,.bool false,.bool false,.ref (s.heap.objs.size+2),.ref (s.heap.objs.size+3)]}}):=
 .of_wp λprog w A R s h=>by
  obtain⟨f,g,d,j,os⟩:=s;obtain⟨c,e,h⟩:=h;have i:=sub_zip;have a:Wz (T8 ⟨f,g,d,j,os⟩) l xs:=c;have b:Wz (T8 ⟨f.push {cls:=.type "tuple_iterator",data:=.fields #[.ref l,.int 0 0]},g,d,j,os⟩) m ys:=Zt e _;wp_walk using xp a,xp b
  simp only[Ł]at h⊢;exact⟨_,rfl,h⟩
def Lo (n:um c s.heap l xs)(q:um c s.heap m ys)
  (k:∀h',ZK c c h' (s.heap.objs.size+4) (s.heap.objs.size+2) (s.heap.objs.size+3) s.heap.objs.size s!"n" l m 0->(∀d o,s.heap.get? d=À o->h'.get? d=À o)->Q (.ref (s.heap.objs.size+4)) {s with heap:=h'}) :
  Ù s!"j" A (call (.type "zip") [.ref l,.ref m]) Q E s:=by
 cases c with
 |false=>exact call_zip_2 n q λh' B r t u v _ z=>k h' ⟨B,r,⟨_,_,t⟩,u,v⟩ z
 |true=>
  refine callType_new F.called_zip s!"i" (F.typeCall_zip_2 _ _) (F.newCall_zip_2 _ _) (λx=>F.args_object_init_3 x _ _) F.entry_zip_new (JR l m xs ys) ⟨n,q,?_⟩;have p:∀(h:Heap) (a b g i j:Obj) (d:Addr) (o:Obj),h.get? d=À o->(((((h.push a).push b).push g).push i).push j).get? d=À o:=λh a b g i j d o e=>
   Ä _ (Ä _ (Ä _ (Ä _ (Ä _ e))))
  have y:∀(h:Heap) (a b g i j:Obj),j.isFreed=false->(((((h.push a).push b).push g).push i).push j).get? (h.objs.size+4)=À j:=λh a b g i j f=>by
   have e:h.objs.size+4=((((h.push a).push b).push g).push i).objs.size:=by simp only[Ł]
   rw[e];exact Ö _ f
  have H:∀(h:Heap) (a b g i j:Obj),i.isFreed=false->(((((h.push a).push b).push g).push i).push j).get? (h.objs.size+3)=À i:=λh a b g i j f=>by
   have e:h.objs.size+3=(((h.push a).push b).push g).objs.size:=by simp only[Ł]
   rw[e];exact Ä _ (Ö _ f)
  have G:∀(h:Heap) (a b g i j:Obj),g.isFreed=false->(((((h.push a).push b).push g).push i).push j).get? (h.objs.size+2)=À g:=λh a b g i j f=>by
   have e:h.objs.size+2=((h.push a).push b).objs.size:=by simp only[Ł]
   rw[e];exact Ä _ (Ä _ (Ö _ f))
  have D:∀(h:Heap) (a b g i j:Obj),b.isFreed=false->(((((h.push a).push b).push g).push i).push j).get? (h.objs.size+1)=À b:=λh a b g i j f=>by
   have e:h.objs.size+1=(h.push a).objs.size:=by simp only[Ł]
   rw[e];exact Ä _ (Ä _ (Ä _ (Ö _ f)))
  have C:∀(h:Heap) (a b g i j:Obj),a.isFreed=false->(((((h.push a).push b).push g).push i).push j).get? h.objs.size=À a:=λh a b g i j f=>
   Ä _ (Ä _ (Ä _ (Ä _ (Ö _ f))))
  exact⟨⟨_,y _ _ _ _ _ _ rfl,rfl⟩,k _ ⟨y _ _ _ _ _ _ rfl,G _ _ _ _ _ _ rfl,⟨_,_,H _ _ _ _ _ _ rfl⟩,⟨_,C _ _ _ _ _ _ rfl,rfl,rfl⟩,⟨_,D _ _ _ _ _ _ rfl,rfl,rfl⟩⟩ λd o e=>p _ _ _ _ _ _ d o e⟩
end
def y4 (c:Bool)(K:È)(H:Hp)(a:Addr)(xs:Á V):Prop:=if c=true then gz K H a xs else fQ K H a xs
def Inv.Ox (I:Inv X b d H s)(h:y4 c X.K H a xs):∃its:Á Value,Vals xs its/\um c s.heap a its.toArray:=by
 cases c with
 |true=>obtain⟨its,r,p,_⟩:=I.tuple (show gz X.K H a xs from h);exact⟨its,r,p⟩
 |false=>obtain⟨its,r,p,_⟩:=I.list (show fQ X.K H a xs from h);exact⟨its,r,p.isList⟩
def Inv.z8 (I:Inv X b d H s)(h:y4 c X.K H a xs)(k:y4 c X.K H a ys):xs=ys:=by
 cases c with
 |true=>exact I.sT (show gz X.K H a xs from h) k
 |false=>exact I.vT (show fQ X.K H a xs from h) k
def Itz (c:Bool)(K:È)(a b:Addr):It:=
  ⟨λi H=>∃xs d x y,y4 c K H a xs/\y4 c K H b d/\xs[i]?=À x/\d[i]?=À y,
   λi H v A=>∃T x y,v=.ref T/\H T=none/\A=upd H T (.tup [x,y])/\∀xs d,y4 c K H a xs->y4 c K H b d->xs[i]?=À x/\d[i]?=À y,
   λi H=>∃xs d,y4 c K H a xs/\y4 c K H b d/\(xs.length<=i∨d.length<=i)⟩
def K1 {K:È}{es:Á Expr}(c:Bool)(l m z a b i j:Addr)(D:ZipApart z a b i j l m) :
  Turn P w K (.Tuple es kk OG) (Itz c K l m) [z,a,b,i,j] z (λn h=>ZK c c h z a b i j l m n) where
 mem:=by simp
 obj:=λn h st d hd=>by
  obtain⟨hz,Yh,⟨p1,p2,Yi⟩,h1,h2⟩:=st;simp only[Þ,ü,Ź]at hd;rcases hd with rfl|rfl|rfl|rfl|rfl
  ·exact⟨_,hz,λv e=>nomatch e⟩
  ·exact⟨_,Yh,λv e=>nomatch e⟩
  ·exact⟨_,Yi,λv e=>nomatch e⟩
  ·exact h1.obj
  ·exact h2.obj
 keep:=λn h h' st k=>by
  obtain⟨hz,Yh,⟨p1,p2,Yi⟩,h1,h2⟩:=st;exact⟨k z (by simp) _ hz,k a (by simp) _ Yh,⟨p1,p2,k b (by simp) _ Yi⟩,h1.at λo e=>k i (by simp) o e,h2.at λo e=>k j (by simp) o e⟩
 item:=by
  intro X hP hw hK hc n ÿ s σ H E I hf st hg;subst hP hw hK;obtain⟨xs,ys,x,y,W8,W9,hx,hy⟩:=hg;obtain⟨Yv,r1,p1⟩:=I.Ox W8;obtain⟨Yw,r2,p2⟩:=I.Ox W9;obtain⟨u1,e1,Y0⟩:=r1.get hx;obtain⟨u2,e2,ru2⟩:=r2.get hy;refine ON D st p1 p2 (by simpa using e1) (by simpa using e2) λh' z1 a1 b1 i1 j1 T1 kp=>?_;refine⟨_,rfl,wpAny_letOwnedTupleGo_zip (s:={s with heap:=h'}) z1 λh2 z2 t2=>?_⟩;have hTn:H s.heap.objs.size=none:=I.ţ.fresh (Í _);have zT:s.heap.objs.size≠z:=Ĵ (Ô (show s.heap.get? z=À _ from st.zz));have uZ:∀d o,d∉[z,a,b,i,j]->s.heap.get? d=À o->h2.get? d=À o:=λd o hd e=>by
   simp only[Þ,ü,Ź,not_or]at hd;exact t2.extBut _ _ hd.1 (kp d o hd.1 hd.2.2.1 hd.2.2.2.1 hd.2.2.2.2 e)
  have T2:oA h2 s.heap.objs.size u1 u2:=t2.extBut _ _ zT T1;have JU:∀d o,H d=À o->d∉[z,a,b,i,j]:=λd o e hd=>by rw[(hf d hd).1]at e;cases e
  have nT:∀d o,H d=À o->d≠s.heap.objs.size:=λd o e q=>by rw[q,hTn]at e;cases e
  have newOk:m5 X.prog X.w (upd H s.heap.objs.size (.tup [x,y])) h2:=by
   intro d o e;by_cases hd:d=s.heap.objs.size
   ·subst hd;rw[ă]at e;cases e;exact⟨by show 2<=sizeLine;decide,[u1,u2],.cons Y0 (.cons ru2 .nil),_,T2,rfl,0,rfl⟩
   ·rw[ä hd]at e;refine(I.ţ d o e).oY (λq v hq r=>uZ q v ?_ r) (λq r=>by rw[ä (nT q _ r)];exact r) (λq To r=>by rw[ä (nT q _ r)];exact r);rcases hq with rfl|hq
    ·exact JU _ _ e
    ·exact JU _ _ hq
  have I2:Inv X ÿ σ (upd H s.heap.objs.size (.tup [x,y])) {s with heap:=h2}:=by
   refine I.step (g':=s.gens) (d':=s.drawn) (t':=s.toks) (ch:=[z,a,b,i,j]) (λd hd=>⟨(hf d hd).2.2.2.1,(hf d hd).2.1,(hf d hd).2.2.2.2.1,(hf d hd).2.2.2.2.2⟩) (λd o _ _ hd e _=>uZ d o hd e) (λd o _ _ hd e _=>⟨o.slots,uZ d o hd e⟩)
    (λd o hd e nn=>by rw[ä (ñ (Ô e))];exact nn) (λd o hd e=>⟨o,uZ d o hd e⟩) (λd To e=>by rw[ä (nT d _ e)];exact e) (λd o u e=>by rw[ä (nT d _ e)];exact e)
    (λd ps e=>⟨#[],by rw[ä (nT d _ e),e];simp⟩) (λmm hm=>?_) newOk I.bare
   obtain⟨o,Qx,ep,ho,r⟩:=hm;exact⟨o,Qx,ep,uZ _ o (λhd=>(hf _ hd).2.1 rfl) ho,r⟩
  refine⟨.ref s.heap.objs.size,_,I2,rfl,⟨_,x,y,rfl,hTn,rfl,λTo Xm k1 k2=>?_⟩,?_,λd hd=>?_⟩
  ·rw[I.z8 k1 W8,I.z8 k2 W9];exact⟨hx,hy⟩
  ·exact⟨z2,t2.extBut _ _ D.TIz a1,⟨_,_,t2.extBut _ _ D.TOz b1⟩,i1.at λo e=>t2.extBut _ _ D.i1z e,j1.at λo e=>t2.extBut _ _ D.i2z e⟩
  ·have Yl:d≠s.heap.objs.size:=by
    rintro rfl;have lt:∀{q:Addr}{o:Obj},s.heap.get? q=À o->s.heap.objs.size≠q:=λe=>Ĵ (Ô e);simp only[Þ,ü,Ź]at hd;obtain⟨o1,g1,_⟩:=st.i1.obj;obtain⟨o2,g2,_⟩:=st.i2.obj;obtain⟨y1,y2,g3⟩:=st.out;rcases hd with q|q|q|q|q
    ·exact lt st.zz q
    ·exact lt st.ins q
    ·exact lt g3 q
    ·exact lt g1 q
    ·exact lt g2 q
   rw[ä Yl];exact(hf d hd).1
 done:=by
  intro X hP hw hK hc n ÿ s σ H E I hf st hg;subst hP hw hK;obtain⟨xs,ys,W8,W9,hx⟩:=hg;obtain⟨Yv,r1,p1⟩:=I.Ox W8;obtain⟨Yw,r2,p2⟩:=I.Ox W9;have n1:=r1.length;have n2:=r2.length;refine Tp (I.ok.hd hc) D st p1 p2 (hx.elim (λq=>.inl (by simp;lia)) λq=>.inr (by simp;lia)) λh' kp=>⟨rfl,?_⟩
  have uZ:∀d o,d∉[z,a,b,i,j]->s.heap.get? d=À o->h'.get? d=À o:=λd o hd e=>by
   simp only[Þ,ü,Ź,not_or]at hd;exact kp d o hd.1 hd.2.2.1 hd.2.2.2.1 hd.2.2.2.2 e
  have JU:∀d o,H d=À o->d∉[z,a,b,i,j]:=λd o e hd=>by rw[(hf d hd).1]at e;cases e
  have there:∀d o,s.heap.get? d=À o->d∉[z,a,b,i,j]->∃o',h'.get? d=À o':=λd o e hd=>⟨o,uZ d o hd e⟩
  refine I.step (g':=s.gens) (d':=s.drawn) (t':=s.toks) (ch:=[z,a,b,i,j]) (λd hd=>⟨(hf d hd).2.2.2.1,(hf d hd).2.1,(hf d hd).2.2.2.2.1,(hf d hd).2.2.2.2.2⟩) (λd o _ _ hd e _=>uZ d o hd e) (λd o _ _ hd e _=>⟨o.slots,uZ d o hd e⟩)
   (λd o hd e nn=>nn) (λd o hd e=>⟨o,uZ d o hd e⟩) (λd To e=>e) (λd o u e=>e) (λd ps e=>⟨#[],by rw[e];simp⟩) (λmm hm=>?_) (λd o e=>?_) I.bare
  ·obtain⟨o,Qx,ep,ho,r⟩:=hm;exact⟨o,Qx,ep,uZ _ o (λhd=>(hf _ hd).2.1 rfl) ho,r⟩
  ·refine(I.ţ d o e).oY (λq v hq r=>uZ q v ?_ r) (λ_ r=>r) (λ_ _ r=>r);rcases hq with rfl|hq
   ·exact JU _ _ e
   ·exact JU _ _ hq
 self:=λ_ _ _ _ _ st h=>XY st.zz h
def Yr (K:È)(t:TA):TI:=λf H R=>t f H λd A=>∃c a b,d=[.ref a,.ref b]/\(∃xs,y4 c K A a xs)/\(∃e,y4 c K A b e)/\R (Itz c K a b) A
def Sj {X:Cx}{z:Á Expr}{v tb:TE}(F:Gl X "zip")(G:X.mg "zip"=none)(D:PE X e1 v)(E:PE X g tb)
  (r:Ì [e1,g] X.env=(false,Ė e1 X.env)::Ì [g] X.env:=by rfl) (l:Ì [g] X.env=[(false,Ė g X.env)]:=by rfl) (k:(ģ pos (Ì [g] X.env)).any (·.1)=false:=by rfl) :
  PI X (.Tuple z T w) (.Call (.Name "zip" p) [e1,g] [] pos) (Yr X.K (wJ v (wJ tb z_))):=by
 intro j s Q H R I h;refine ah (pU I F G ZF ?_);refine cN (ak ((aS D (aS E eI l) r) pos j s Q H _ I h) λus f P=>iX P λvs B A O N=>?_) r k;obtain⟨c,a,b,rfl,⟨xs,J⟩,⟨ys,L⟩,q⟩:=N;obtain⟨U,Y,rfl,n,o⟩:=vals2 O;cases n;cases o;obtain⟨t,_,p1⟩:=A.Ox J;obtain⟨u,_,m⟩:=A.Ox L;have x:a<f.heap.objs.size:=by
  cases c with
  |true=>obtain⟨_,e,_⟩:=(show f.heap.IsTuple a _ from p1);exact Ô e
  |false=>obtain⟨_,e,_⟩:=(show f.heap.IsList a _ from p1);exact Ô e
 have y:b<f.heap.objs.size:=by
  cases c with
  |true=>obtain⟨_,e,_⟩:=(show f.heap.IsTuple b _ from m);exact Ô e
  |false=>obtain⟨_,e,_⟩:=(show f.heap.IsList b _ from m);exact Ô e
 refine Lo p1 m λC Z M=>?_;refine XY (s:={f with heap:=C}) Z.zz ?_;refine⟨_,_,_,_,B,rfl,A.kept (t':=f.toks) M,K1 c a b _ _ _ _ _ (zipApart_new x y),Z,λd hd=>?_,q⟩;have i:f.heap.objs.size<=d:=by
  simp only[Þ,ü,Ź]at hd;rcases hd with rfl|rfl|rfl|rfl|rfl
  ·exact nu _ _
  ·exact nu _ _
  ·exact nu _ _
  ·exact Í _
  ·exact nu _ _
 exact A.Bp i (A.ţ.fresh i)
def Ite (K:È)(a:Addr):It:=
  ⟨λi H=>∃xs x,fQ K H a xs/\xs[i]?=À x,
   λi H v A=>∃T x,v=.ref T/\H T=none/\A=upd H T (.tup [.int (i:Int),x])/\∀xs,fQ K H a xs->xs[i]?=À x,
   λi H=>∃xs,fQ K H a xs/\xs.length<=i⟩
structure EK (h:Heap)(e it l:Addr)(k:Nat):Prop where
 ee:∃old,IsEnum h e it k old
 ii:h.IsListIter it l k
def Hc {K:È}{es:Á Expr}(l e it:Addr)(hei:e≠it) :
  Turn P w K (.Tuple es kk OG) (Ite K l) [e,it] e (λn h=>EK h e it l n) where
 mem:=by simp
 obj:=λn h st d hd=>by
  obtain⟨⟨old,he⟩,o,ho,_,dd⟩:=st;simp only[Þ,ü,Ź]at hd;rcases hd with rfl|rfl
  ·exact⟨_,he,λv z=>nomatch z⟩
  ·exact⟨o,ho,λv z=>by rw[dd]at z;cases z⟩
 keep:=λn h h' st k=>by
  obtain⟨⟨old,he⟩,o,ho,r⟩:=st;exact⟨⟨old,k e (by simp) _ he⟩,o,k it (by simp) o ho,r⟩
 item:=by
  intro X hP hw hK hc n ÿ s σ H E I hf st hg;subst hP hw hK;obtain⟨xs,x,hq,hx⟩:=hg;obtain⟨its,r1,p1⟩:=I.Ox (c:=false) hq;obtain⟨u1,e1,Y0⟩:=r1.get hx;obtain⟨⟨old,he⟩,hit⟩:=st;have hT:H s.heap.objs.size=none:=I.ţ.fresh (Í _);have eT:s.heap.objs.size≠e:=Ĵ (Ô (show s.heap.get? e=À _ from he));have iT:s.heap.objs.size≠it:=by obtain⟨o,ho,_⟩:=hit;exact Ĵ (Ô ho)
  refine wpAny_pyNext_enum_item he hit p1 (by simpa using e1) hei λh' z1 i1 T1 _ kp=>?_;refine⟨_,rfl,wpAny_letOwnedTupleGo_enum (s:={s with heap:=h',toks:=s.toks+1}) z1 λh2 z2 t2=>?_⟩;have uZ:∀d o,d∉[e,it]->s.heap.get? d=À o->h2.get? d=À o:=λd o hd q=>by
   simp only[Þ,ü,Ź,not_or]at hd;exact(t2.2 d hd.1).trans (kp d o hd.1 hd.2 q)
  have T2:h2.get? s.heap.objs.size=À {cls:=.type "tuple",data:=.seq #[.int (n:Int) s.toks,u1]}:=(t2.2 _ eT).trans T1;have JU:∀d o,H d=À o->d∉[e,it]:=λd o q hd=>by rw[(hf d hd).1]at q;cases q
  have nT:∀d o,H d=À o->d≠s.heap.objs.size:=λd o q z=>by rw[z,hT]at q;cases q
  have newOk:m5 X.prog X.w (upd H s.heap.objs.size (.tup [.int (n:Int),x])) h2:=by
   intro d o q;by_cases hd:d=s.heap.objs.size
   ·subst hd;rw[ă]at q;cases q;exact⟨by show 2<=sizeLine;decide,[.int (n:Int) s.toks,u1],.cons ⟨_,rfl⟩ (.cons Y0 .nil),_,T2,rfl,0,rfl⟩
   ·rw[ä hd]at q;refine(I.ţ d o q).oY (λa v ha r=>uZ a v ?_ r) (λa r=>by rw[ä (nT a _ r)];exact r) (λa To r=>by rw[ä (nT a _ r)];exact r);rcases ha with rfl|ha
    ·exact JU _ _ q
    ·exact JU _ _ ha
  have I2:Inv X ÿ σ (upd H s.heap.objs.size (.tup [.int (n:Int),x])) {s with heap:=h2,toks:=s.toks+1}:=by
   refine I.step (g':=s.gens) (d':=s.drawn) (t':=s.toks+1) (ch:=[e,it]) (λd hd=>⟨(hf d hd).2.2.2.1,(hf d hd).2.1,(hf d hd).2.2.2.2.1,(hf d hd).2.2.2.2.2⟩) (λd o _ _ hd q _=>uZ d o hd q) (λd o _ _ hd q _=>⟨o.slots,uZ d o hd q⟩)
    (λd o hd q nn=>by rw[ä (ñ (Ô q))];exact nn) (λd o hd q=>⟨o,uZ d o hd q⟩) (λd To q=>by rw[ä (nT d _ q)];exact q) (λd o u q=>by rw[ä (nT d _ q)];exact q)
    (λd ps q=>⟨#[],by rw[ä (nT d _ q),q];simp⟩) (λmm hm=>?_) newOk I.bare
   obtain⟨o,Qx,ep,ho,r⟩:=hm;exact⟨o,Qx,ep,uZ _ o (λhd=>(hf _ hd).2.1 rfl) ho,r⟩
  refine⟨.ref s.heap.objs.size,_,I2,rfl,⟨_,x,rfl,hT,rfl,λTo k1=>?_⟩,?_,λd hd=>?_⟩
  ·rw[I.z8 (c:=false) k1 hq];exact hx
  ·refine⟨⟨_,by simpa using z2⟩,?_⟩;obtain⟨o,ho,r⟩:=i1;exact⟨o,(t2.2 it hei.symm).trans ho,r⟩
  ·have Yl:d≠s.heap.objs.size:=by
    rintro rfl;simp only[Þ,ü,Ź]at hd;rcases hd with q|q
    ·exact eT q
    ·exact iT q
   rw[ä Yl];exact(hf d hd).1
 done:=by
  intro X hP hw hK hc n ÿ s σ H E I hf st hg;subst hP hw hK;obtain⟨xs,hq,hx⟩:=hg;obtain⟨its,r1,p1⟩:=I.Ox (c:=false) hq;have n1:=r1.length;obtain⟨⟨old,he⟩,hit⟩:=st;refine wpAny_pyNext_enum_end (I.ok.hd hc) he hit p1 (by simp;lia) λh' kp=>⟨rfl,?_⟩
  have uZ:∀d o,d∉[e,it]->s.heap.get? d=À o->h'.get? d=À o:=λd o hd q=>by
   simp only[Þ,ü,Ź,not_or]at hd;exact kp d o hd.2 q
  have JU:∀d o,H d=À o->d∉[e,it]:=λd o q hd=>by rw[(hf d hd).1]at q;cases q
  refine I.step (g':=s.gens) (d':=s.drawn) (t':=s.toks) (ch:=[e,it]) (λd hd=>⟨(hf d hd).2.2.2.1,(hf d hd).2.1,(hf d hd).2.2.2.2.1,(hf d hd).2.2.2.2.2⟩) (λd o _ _ hd q _=>uZ d o hd q) (λd o _ _ hd q _=>⟨o.slots,uZ d o hd q⟩)
   (λd o hd q nn=>nn) (λd o hd q=>⟨o,uZ d o hd q⟩) (λd To q=>q) (λd o u q=>q) (λd ps q=>⟨#[],by rw[q];simp⟩) (λmm hm=>?_) (λd o q=>?_) I.bare
  ·obtain⟨o,Qx,ep,ho,r⟩:=hm;exact⟨o,Qx,ep,uZ _ o (λhd=>(hf _ hd).2.1 rfl) ho,r⟩
  ·refine(I.ţ d o q).oY (λa v ha r=>uZ a v ?_ r) (λ_ r=>r) (λ_ _ r=>r);rcases ha with rfl|ha
   ·exact JU _ _ q
   ·exact JU _ _ ha
 self:=λ_ _ _ _ _ st h=>by
  obtain⟨⟨old,he⟩,_⟩:=st;exact WQ he h
def UR (K:È)(t:TA):TI:=λc H R=>t c H λb A=>∃a,b=[.ref a]/\(∃xs,fQ K A a xs)/\R (Ite K a) A
def NX {X:Cx}{n:Á Expr}{l:TE}(t:Gl X "enumerate")(u:X.mg "enumerate"=none)(r:PE X e1 l)
  (k:Ì [e1] X.env=(false,Ė e1 X.env)::Ì [] X.env:=by rfl) (g:(ģ pos (Ì [] X.env)).any (·.1)=false:=by rfl) :
  PI X (.Tuple n G m) (.Call (.Name "enumerate" p) [e1] [] pos) (UR X.K (wJ l z_)):=by
 intro e s F H R I h;refine ah (pU I t u ZE ?_);refine cN (ak ((aS r eI k) pos e s F H _ I h) λus f E=>iX E λJ B A C y=>?_) k g;obtain⟨a,rfl,⟨xs,v⟩,q⟩:=y;obtain⟨D,rfl,j⟩:=C.one;cases (show D=Ñ a from j);obtain⟨w,_,p1⟩:=A.Ox (c:=false) v;refine call_enumerate_list p1 λo z i _ x=>?_;refine WQ (s:={f with heap:=o}) z ?_;refine⟨_,_,_,_,B,rfl,A.kept (t':=f.toks) x,Hc a (f.heap.objs.size+1) f.heap.objs.size (Nat.succ_ne_self _),⟨⟨_,z⟩,i⟩,λd hd=>?_,q⟩;have b:f.heap.objs.size<=d:=by
  simp only[Þ,ü,Ź]at hd;rcases hd with rfl|rfl
  ·exact mC _
  ·exact Í _
 exact A.Bp b (A.ţ.fresh b)
def gz.const {K:È}{its:Ē Value}{xs:Á V}(h:K.lookup a=À ⟨.type "tuple",od,.seq its n,c⟩)(v:Vals xs its.toList)(hz:xs.length<=1000):gz K H a xs:=
 .inr ⟨_,its,n,h,rfl,rfl,by
  have b:xs.length=its.size:=v.length;rw[<-b];exact ę (Ŕ hz),v⟩
open PySem.Builtin.Str in
def SN:V->Á V->Hp->VK->Prop:=λx b H Q=>∃t a,x=.str t/\b=[.str a]/\(decide (t.length<a.length)||decide (strKind t<strKind a))=false/\(a.length == 0)=false/\(occurrences t a 0 t.length (t.length+1)).isEmpty=false/\t.length<=1000/\
 (partsBetween t (occurrences t a 0 t.length (t.length+1)) a.length).length<=1000/\∀l,H l=none->Q (.ref l) (upd H l (.lst ((partsBetween t (occurrences t a 0 t.length (t.length+1)) a.length).map V.str)))
theorem pe:∀n l,Vals (l.map V.str) (strsFrom n l)
 |_,[]=>.nil
 |n,x::r=>.cons ⟨n,rfl⟩ (pe (n+1) r)
def JL:Hv X "str.split" SN:=by
 intro d s n H x m v us Q I l rv h;obtain⟨t,a,rfl,rfl,f,i,g,j,c,q⟩:=h;obtain⟨e,rfl⟩:=l;obtain⟨u,rfl,k⟩:=rv.one;obtain⟨b,rfl⟩:=k;refine FU F.slot_str_split ((Ec (T:="str") (x:=.str t) I ⟨e,rfl⟩ rfl).1) F.entry_str_split (F.args_str_split_2 _ _) (meets_str_split_sep t a e b f i g (ę (Ŕ j)) (ę (Ŕ c))) ?_;refine⟨.ref s.heap.objs.size,_,I.Q3 (t':=_) (pe s.toks _) ?_,rfl,q _ I.fresh⟩;rw[É];exact ę (Ŕ c)
def SE:V->Á V->Hp->VK->Prop:=λx a H Q=>∃l xs y,x=.ref l/\a=[y]/\H l=À (.lst xs)/\mO y=true/\xs.all mO=true/\Q (.int ((xs.countP λz=>gA z y:Nat):Int)) H
theorem ya:∀{xs:Á V}{us:Á Value},Vals xs us->xs.all mO=true->us.countP (Bi x)=xs.countP λz=>gA z x
 |_,_,.nil,_=>rfl
 |y::xs,u::us,.cons r t,f=>by
  rw[Ķ,ē]at f;rw[w_,w_,ya t f.2,C2 r f.1]
def JJ:Hv X "list.count" SE:=by
 intro c s k H x j v us Q I i rv h;obtain⟨l,xs,y,rfl,rfl,f,d,b,q⟩:=h;cases i;obtain⟨u,rfl,g⟩:=rv.one;obtain⟨z,a,n,r,hl,e⟩:=I.GG f;refine FU F.slot_list_count ⟨_,e,rfl⟩ F.entry_list_count (F.args_list_count_2 _ _) (SeqAt.list_countAt l a.toArray n none #[] u (Bi y)) ⟨e,λw hw=>lC g d r b w (by simpa using hw),?_⟩;refine⟨.int _,H,I.tok _,⟨_,rfl⟩,?_⟩;rw[show a.toArray.toList=a from rfl,ya r b];exact q
def J7 {X:Cx}{K:È}{c:Á Expr}{k:TE}{t:TA}{T id:String}{r:V->Á V->Hp->VK->Prop}(l:X.K=K)(s:xi T)(i:Slot T name id)(j:Ua (.builtin id)=pure (.type "method_descriptor")) (n:Hv X id r)(p:PE X o k)(m:PA X (e::c) t)
  (d:a8 o name X.env (Ė o X.env)=Ė o X.env:=by rfl)
  (h:((ģ a (Ì (e::c) X.env)).all (λx=>!x.1)&&(gI a (bP [] X.env)).all (λx=>x.1.isSome)
   && decide ((e::c).length+([]:Á i7).length+(if ([]:Á i7).isEmpty then 0 else 1)<30))=true:=by rfl)
  (f:(g.endLine == a.line)=true:=by rfl) (q:Ì (e::c) X.env=s!"k"::Ì c X.env:=by rfl) (b:(ģ a (Ì c X.env)).any (·.1)=false:=by rfl) :
  PE X (.Call (.Attribute o name g) (e::c) [] a) (Y9 K T r k t):=by subst l;exact VG s i j n p m d h f q b
def UZ {n:Nat}{i:Int}(h0:0<=i)(a:i<n):AS i n=À i.toNat:=by
 have:EX n i=À i.toNat:=by
  unfold EX;rw[Ò h0,Ò a]
 exact(zy this).1
end L2
namespace HT
open PySem PyProof.Rows
section
variable {prog:ď}{w:ī}{A:Ň}{E:Value->Ó->Prop}{s:Ó}
def oR {items:Ē Value}{lo c:Ë Int}{Q:Value->Ó->Prop}(a:Lr s.heap t items)(g:s.heap.IsSliceOf i n o .none)(pl:uc n lo)(m:uc o c)
  (j:dg items.size 0 lo=0) (k:dg items.size items.size c=items.size) (h:Q (.ref t) s):Ù s!"j" A (oi (.ref t) (.ref i)) Q E s:=by
 obtain⟨os,f,e,l⟩:=id g;have d:s.TypeIs (.ref i) "slice":=⟨os,f,e⟩
 unfold oi;try with_reducible refine œ ?_
 first|refine Ã (Ê ?_)|skip
 refine Ã (WT a.typeIs s!"i" ?_);refine Ã (ŀ (name:=ĩ "__getitem__") a.typeIs ř
  (ĭ ř a.typeIs Tv ?_ (T9 _ _)))
 show Ù _ _ (rr (.ref t) >>= _) _ _ s;refine Ã (tupleItemsOf_ a ?_);refine Ã (yY d ?_);rw[Ò s!"i"];refine Ã (lH g pl m ?_);have b:((((dg items.size 0 lo:Nat):Int) == 0&&(1:Int) == 1&&(dg items.size items.size c-dg items.size 0 lo) == items.size)=true):=by
  rw[j,k];simp
 show Ù _ _ (if (((dg items.size 0 lo:Nat):Int) == 0&&(1:Int) == 1&&(dg items.size items.size c-dg items.size 0 lo) == items.size)=true then _ else _) _ _ s;rw[Ò b];unfold Xw;refine Ã (Ã (yY a.typeIs (Ê ?_)));rw[Ò s!"i"];first
  |exact Ã (b9 (Ê ⟨_,rfl,Ê h⟩))
  |exact Ã (b9 (Ã (Ê (Ê ⟨_,rfl,Ê h⟩))))
end
end HT
namespace L2
open PySem PySem.Spec PyProof.Rows
def SA (K:È):R2:=λx y H Q=>∃a b xs c,x=.ref a/\y=.ref b/\gz K H a xs/\gz K H b c/\c≠[]/\xs.length+c.length<=sizeLine/\
 (xs=[]->Q (.ref b) H)/\(xs≠[]->∀p,H p=none->Q (.ref p) (upd H p (.tup (xs++c))))
def J1:jm X (bf .Add) (SA X.K):=by
 intro i s U H x y v u Q I w A h;obtain⟨a,b,xs,T,rfl,rfl,p,q,E,G,M,N⟩:=h;by_cases j:xs=[]
 ·cases w;cases A;obtain⟨f,O,p1,_⟩:=I.tuple p;obtain⟨g,Y,L,_⟩:=I.tuple q;obtain⟨⟨B,C,o,P⟩,t,r,n,hd⟩:=id p1;obtain⟨⟨m,k,data2,l⟩,e,c,J,d⟩:=id L;simp only at r hd c d;subst r hd c d;have D:f=[]:=O.u5.mpr j;exact L1 ⟨_,t,rfl⟩ ⟨_,e,rfl⟩ AR HF mU lO (k8 _ _)
   (tuple_addW0 a b f.toArray g.toArray n J C k P l (by simp[D])) ⟨t,e,⟨.ref b,H,I,rfl,M j⟩⟩
 ·exact NL i s U H (.ref a) (.ref b) v u Q I w A ⟨a,b,xs,T,rfl,rfl,p,q,j,G,λz=>absurd z E,λ_=>N j⟩
def VX (K:È):V->Ë Int->Ë Int->Hp->VK->Prop:=λx lo b H Q=>∃a xs,x=.ref a/\gz K H a xs/\
 ((HT.dg xs.length 0 lo=0/\HT.dg xs.length xs.length b=xs.length)->Q (.ref a) H)/\(¬(HT.dg xs.length 0 lo=0/\HT.dg xs.length xs.length b=xs.length)->∀p,H p=none->Q (.ref p) (upd H p (.tup (vt xs lo b))))
def Oq:Ue X (VX X.K):=by
 intro c s t H x v p q lo e o Q I l f j k h;obtain⟨a,xs,rfl,i,m,n⟩:=h;by_cases hw:HT.dg xs.length 0 lo=0/\HT.dg xs.length xs.length e=xs.length
 ·cases l;obtain⟨d,r,g,u⟩:=I.tuple i;have b:d.toArray.size=xs.length:=by rw[Ú];exact r.length.symm
  refine⟨"tuple",_,ř.lookup,g.typeIs,?_⟩;exact HT.oR g f j k (by rw[b];exact hw.1) (by rw[b];exact hw.2) ⟨.ref a,H,I,rfl,m hw⟩
 ·exact SY c s t H (.ref a) v p q lo e o Q I l f j k ⟨a,xs,rfl,i,hw,n hw⟩
open PySem.W
section
variable {prog:ď}{w:ī}{A:Ň}{E:Value->Ó->Prop}{s:Ó}{K:È}{x C:Addr}{ox:Obj}{od:Ë Obj}{name:Str}
structure Qg (K:È)(C:Addr):Prop where
 ga:Ą K (.ref C) "__getattribute__"=À (À (.builtin "BaseException.__getattribute__"))
 gx:Ą K (.ref C) "__getattr__"=À none
 sb:yM K (.ref C) (.type "BaseException")=À true
def MI:builtinKind "BaseException.__getattribute__"=À .slot:=by decide+kernel
def IV:splitId "BaseException.__getattribute__"=À ("BaseException","__getattribute__"):=by decide+kernel
def UG:(AJ "BaseException.__getattribute__" == AJ "object.__getattribute__")=false:=by decide+kernel
def Lk {a:Value}{Q:Unit->Ó->Prop}(X:K.In s.heap)(I:InstAt s.heap x ox C od)(g:Qg K C)(c:Q () s) :
  Ù s!"j" A (XR "BaseException.__getattribute__" ⟨[.ref x,a],[]⟩) Q E s:=by
 have B:=I.type (M:=Ý prog w);have D:=looks_subIn (M:=Ý prog w) X g.sb;have b:=PySem.F.args_bexc_ga (.ref x) a;simp only[XR,MI,IV];refine Ã ?_;unfold isInstance;refine Ã (B.here (D.here ?_));rw[Ø s!"i"];unfold argsOk at b;split at b
 ·rename_i d e;rw[e];dsimp only;rw[b];exact Ê c
 ·rename_i e;rw[e];exact Ê c
def Lj {f:XP}{b a:Value}{Q:Fin->Ó->Prop}(X:K.In s.heap)(I:InstAt s.heap x ox C od)(c:findObj K C od name=À (.bind b a))
  (e:Ù s!"j" A (call b [a,.ref x,.ref C]) (λv s'=>Q (.done (.ret v)) s') E s) :
  Ù s!"j" A (cC.«object.__getattribute__» ⟨[.ref x,.str name f],[]⟩) Q E s:=by
 obtain⟨h,g,d,t,os⟩:=s;have B:=I.type (M:=Ý prog w);have D:=looks_find (M:=Ý prog w) X I c;unfold cC.«object.__getattribute__»;refine Ã (Ê ?_);refine Ã (Ê (Ã (B.at (Ã (D.at ?_)))));show Ù _ _ (c8 [a] (call b [a,.ref x,.ref C]) >>= ret) _ _ _;exact Ã (œ (ak e λv s' z=>Ê z))
def Wt {b:XP}{fill a:Bool}{Q:Value->Ó->Prop}(X:K.In s.heap)(I:InstAt s.heap x ox C od)(g:Qg K C)
  (e:Ù s!"j" A.in1 (cC.«object.__getattribute__» ⟨[.ref x,.str name b],[]⟩) (λf s'=>∃v,f=.done (.ret v)/\handedIn v=true/\Q v s') (λ_ _=>False) s) :
  Ù s!"j" A (getAttrBy (.ref x) (.str name b) fill a) Q E s:=by
 have B:=I.type (M:=Ý prog w);have D:=looks_findIn (M:=Ý prog w) X g.ga;have L2:=looks_findIn (M:=Ý prog w) X g.gx;have d:onTheHeap (Ñ C)=true:=rfl;unfold getAttrBy;refine œ (Ã (B.here (Ã (D.here ?_))));dsimp only;rw[Ø (by rw[UG,qg];decide)];unfold getAttrByItsOwn hookBefore;rw[Ò d];refine Ã (L2.here (Ã (cO (œ ?_))));unfold callGetattribute;rw[Ø (by rw[show onTheHeap (AJ "BaseException.__getattribute__")=false from rfl,qg];decide)];unfold boundAndCalled;refine Ã (P7 (Ai.ga.bind (.ref x)) ?_);refine xo (codeAny_call_builtin Ai.ga.plain PySem.F.entry_bexc_ga (Lk X I g ?_));refine aB e (λf s' z=>?_) (λ_ _ z=>z.elim);obtain⟨v,rfl,c,q⟩:=z;exact handed_on c q
structure Mb (K:È)(C:Addr):Prop extends Qg K C where
 ca:Ą K (.ref C) "__class__"=À (À s!"s")
 cn:gv K s!"s" "__get__"=À (À (.builtin "getset_descriptor.__get__"))
 ct:i9 K s!"s"=À true
 cm:ql K C (.type "object")=À true
 cl:(c7 K C).isSome=true
def Bn {a c:Value}(b:(c7 K C).isSome=true) (d:Ą K (.ref C) name=À (À a)) (e:gv K a "__get__"=À (À c)) (f:i9 K a=À true):findObj K C od name=À (.bind c a):=by
 obtain⟨g,b⟩:=aN.mp b;simp[findObj,b,d,e,f]
def Ll {Q:Ë Value->Ó->Prop}(X:K.In s.heap)(I:InstAt s.heap x ox C od)(g:Mb K C)(a:Q (À (.ref C)) {s with toks:=s.toks+1}) :
  Ù s!"j" A (getAttr? (.ref x) "__class__") Q E s:=by
 unfold getAttr? getAttrBy?;refine Ã (wpAny_mkText (Ã (cO ?_)));refine Wt (s:={s with toks:=s.toks+1}) X I g.toQg (Lj (s:={s with toks:=s.toks+1}) X I (Bn g.cl g.ca g.cn g.ct) (xo (class_get (s:={s with toks:=s.toks+1}) (ox:=ox) (od:=od) X I g.cm ⟨_,rfl,rfl,?_⟩)));exact Ê a
def Ew (a:(c7 K C).isSome=true):∃b d1 c d,K.lookup C=À ⟨b,d1,.cls c,d⟩:=by
 unfold c7 at a;split at a
 ·exact⟨_,_,_,_,by assumption⟩
 ·cases a
def By (g:Mb K C):KitX K (.ref x) (.ref C) (λh=>∃ox od,InstAt h x ox C od) where
 ty:=λ_ _ _ ⟨_,_,I⟩=>I.type
 it:=λ_ _ X _ A' Q' E' s' k' q'=>by
  obtain⟨c1,d1,cd,sl,hl⟩:=Ew g.cl;show Ù _ A' (isType (.ref C)) Q' E' s';unfold isType loadHead;exact Ã (wpAny_loadPart (k' C _ (X C _ hl)) (Ê q'))
 ne:=λh tp dd its n sl X htp=>by
  obtain⟨c1,d1,cd,sl',hl⟩:=Ew g.cl;cases e:(Ñ C == Ñ tp)with
  |false=>rfl
  |true=>
   have e2:C=tp:=Value.ref.inj (mZ.mp e);rw[<-e2,X C _ hl]at htp;cases htp
 ca:=λX ⟨_,_,I⟩ k=>Ll X I g k
end
noncomputable abbrev uU:Á Value:=[.type "ValueError",.type "Exception",.type "BaseException",.type "object"]
def KP (b:Ē Av):Bool:=b.toList.all λa=>match a.key with|.str _ _=>true|_=>false
def KQ (h:KP b=true):StrKeys b:=by
 intro a c;have q:=Ā.mp h a (ph.mpr c);cases k:a.key with
 |str n t=>exact⟨n,t,rfl⟩
 |_=>rw[k]at q;cases q
structure W3 (K:È)(N:Addr)(m:Str->Ë Value):Prop where
 ex:∃nc nd es ep nsl,K.lookup N=À ⟨nc,nd,.dict es ep,nsl⟩/\KP es=true/\∀x,nsFind es x=m x
def W3.ns {K:È}{h:Heap}(x:W3 K N m)(X:K.In h):h.Ns N m:=by
 obtain⟨d,nd,b,a,c,l,q,e⟩:=x.ex;exact⟨_,b,a,X _ _ l,rfl,KQ q,e⟩
inductive qt (K:È):Á Value->Prop
 |base:qt K uU
 |own {B:Addr}{c0:Value}{dd:Ë Addr}{cd:ClassData}{sl:Ē (Ë Value)}{m:Str->Ë Value}{tl:Á Value}(l:K.lookup B=À ⟨c0,dd,.cls cd,sl⟩) (n:W3 K cd.ns m) (i:m "__init__"=none) (t:qt K tl):qt K (.ref B::tl)
def qt.R6 {K:È}(t:qt K l)(X:K.In h):OwnTail h uU l:=by
 induction t with
 |base=>exact .base
 |own l n i _ a=>exact .own (X _ _ l) (n.ns X) i a
structure jq (K:È)(C:Addr)(nm:Str)(bm:Á Value)(Cr:Ë Value):Prop where
 ex:∃q N bs sn sub ab col dd k0 k1 k2 k3 k5 m,K.lookup C=À (excClassObj nm q C N bs bm true sn sub ab col dd k0 k1 k2 k3 k5 "ValueError.__new__")/\W3 K N m/\m "__init__"=Cr
 tail:qt K bm
section
variable {K:È}{C:Addr}{nm:Str}{bm:Á Value}{Cr:Ë Value}
def jq.cls (x:jq K C nm bm Cr):∃a,c7 K C=À a/\a.mro=.ref C::bm/\a.hasDict=true/\a.name=nm:=by
 obtain⟨q,N,bs,j,sub,c,b,d,e,f,g,h,i,m,l,_⟩:=x.ex;exact⟨_,by unfold c7;rw[l],rfl,rfl,rfl⟩
def jq.Pg (x:jq K C nm bm Cr):(c7 K C).isSome=true:=by
 obtain⟨a,e,_⟩:=x.cls;rw[e];rfl
def jq.mro (x:jq K C nm bm Cr)(T:Value):yM K (.ref C) T=À ((Ñ C::bm).contains T):=by
 obtain⟨a,e,em,_⟩:=x.cls;show ql K C T=_;unfold ql;rw[e,aD,em,Ø (by simp)]
def jq.Jh (x:jq K C nm bm Cr)(T:Value)(a:(∃n b i,∃D,T=.ref D/\jq K D n b i)∨∃t,T=.type t/\kitMeta t=true):L5 K (.ref C) T=À ((Ñ C::bm).contains T):=by
 unfold L5;by_cases q:(Ñ C == T)=true
 ·rw[Ò q,mZ.mp q];simp
 ·rw[Ø q];rcases a with⟨n,b,i,D,rfl,y⟩|⟨t,rfl,y⟩
  ·have z:((c7 K D).isSome&&xm K (.ref D) == À (.type "type"))=true:=by
    rw[y.Pg];obtain⟨_,_,_,_,_,_,_,_,_,_,_,_,_,_,l,_⟩:=y.ex;have e:xm K (.ref D)=À (.type "type"):=by
     show Option.map (λo=>o.cls) (K.lookup D)=_;rw[l];rfl
    rw[e];rfl
   unfold kitCls;dsimp only;rw[Ò z];exact x.mro _
  ·unfold kitCls;dsimp only;rw[Ò y];exact x.mro _
end
def Xl (C e:Addr):HO:=.ext λh=>∃a:Obj,h.get? e=À a/\a.cls=.ref C/\notCls a=true/\a.dict=none
def xcD (C e b:Addr):HO:=.ext λh=>∃a:Obj,h.get? e=À a/\a.cls=.ref C/\notCls a=true/\a.dict=À b
def ş.there (x:ş P w H h a o):∃c,h.get? a=À c:=by
 cases o with
 |lst xs=>obtain⟨_,_,_,_,e⟩:=x;exact⟨_,e⟩
 |tup xs=>obtain⟨_,_,_,c,e,_⟩:=x;exact⟨_,e⟩
 |dK b=>obtain⟨_,_,_,_,o,_,_,e,_⟩:=x;exact⟨_,e⟩
 |dT b=>obtain⟨_,_,_,_,o,_,_,e,_⟩:=x;exact⟨_,e⟩
 |set S n=>obtain⟨o,_,_,_,e,_⟩:=x;exact⟨_,e⟩
 |ins C g d=>obtain⟨_,_,_,e,_⟩:=x;exact⟨_,e⟩
 |own y=>obtain⟨_,e⟩:=x;exact⟨_,e⟩
 |xd d=>obtain⟨_,⟨_,_,_,e,_⟩,_⟩:=x;exact⟨_,e⟩
 |VY lo i=>obtain⟨_,_,_,e⟩:=x;exact⟨_,e⟩
 |iY c u=>obtain⟨e,_⟩:=x;exact⟨_,e⟩
 |rm j=>exact⟨_,(show h.get? a=À _ from x)⟩
 |met f y=>exact⟨_,(show h.get? a=À _ from x)⟩
 |ext k=>obtain⟨_,⟨_,e⟩,_⟩:=x;exact⟨_,e⟩
section
variable {X:Cx}{ÿ:Á (Addr×Obj)}{σ:St}{H:Hp}{s:Ó}{h':Heap}{a:Addr}{o:HO}
def Inv.gone (I:Inv X ÿ σ H s)(b:s.heap.get? a=none):H a=none:=by
 cases q:H a with
 |none=>rfl
 |some u=>
  obtain⟨c,e⟩:=(I.ţ a u q).there;rw[b]at e;cases e
def Inv.U5 (I:Inv X ÿ σ H s)(k:∀b u,s.heap.get? b=À u->h'.get? b=À u)(g:s.heap.get? a=none)(e:ş X.prog X.w (upd H a o) h' a o):Inv X ÿ σ (upd H a o) {s with heap:=h',toks:=t'}:=by
 have h:=I.gone g;have i:∀b u,s.heap.get? b=À u->b≠a:=λb u q z=>by subst z;rw[g]at q;cases q
 have d:∀b u,H b=À u->b≠a:=λb u q=>Ŋ q h;refine I.un ⟨λb u q _ _ _=>k b u q,λb u q _ _ _=>⟨u.slots,k b u q⟩,λb u q n _=>by rw[ä (i b u q)];exact n,λb u q _=>⟨u,k b u q⟩,
  λb xs q=>by rw[ä (d b _ q)];exact q,λb u xs q=>by rw[ä (d b _ q)];exact q,λb j q=>⟨#[],by rw[ä (d b _ q),q];simp⟩⟩ λb u q=>?_
 by_cases f:b=a
 ·subst f;rw[ă]at q;cases q;exact e
 ·rw[ä f]at q;exact(I.ţ b u q).oY (λc v _ z=>k c v z) (λc z=>by rw[ä (d c _ z)];exact z) λc xs z=>by rw[ä (d c _ z)];exact z
end
def WY (H:Hp)(e C:Addr):Prop:=H e=À (Xl C e)∨∃a b,H e=À (xcD C e a)/\H a=À (.xd b)
def WY.inst (x:WY H e C)(I:Inv X f k H s):∃ox od,InstAt s.heap e ox C od:=by
 rcases x with x|⟨h,i,x,g⟩
 ·obtain⟨⟨ox,a,b,c,d⟩,_⟩:=I.ţ _ _ x;exact⟨ox,none,a,b,c,by rw[d];trivial⟩
 ·obtain⟨⟨ox,a,b,c,d⟩,_⟩:=I.ţ _ _ x;obtain⟨j,⟨od,_,_,q,_⟩,_⟩:=I.ţ _ _ g;exact⟨ox,À od,a,b,c,by rw[d];exact q⟩
def YS (K:È):Á V->Hp->VK->Prop:=λxs H Q=>∃e C v c b,xs=[.ref e,v]/\(match v with|.ty n=>c=cg n|.ref a=>c=Ñ a|_=>False)/\WY H e C/\Mb K C/\L5 K (.ref C) c=À b/\Q (.bl b) H
def Ib:aG X (.builtin "isinstance") (YS X.K):=by
 rintro h s t H xs us Q I rv ⟨e,C,v,c,b,rfl,d,k,g,l,q⟩;obtain⟨o,m,J⟩:=k.inst I;cases rv with
 |cons p rv=>
  cases rv with
  |cons i rv=>
   cases rv;cases (show _=Ñ e from p);rename_i f;have j:f=c:=by
    cases v with
    |ty n=>exact(show f=cg n from i).trans d.symm
    |ref a=>exact(show f=Ñ a from i).trans d.symm
    |_=>exact d.elim
   subst j;exact ľ (By g) I.mi ⟨o,m,J⟩ l s!"q" λr=>⟨.bl b,H,I.tok _,rfl,q⟩
end L2
namespace L2
open PySem PySem.Spec PyProof.Rows
theorem z9:∀{a:Á Str}{us:Á Value},Vals (a.map V.str) us->∃l:Á (Str×XP),strValues l=us/\l.map (·.1)=a
 |[],_,.nil=>⟨[],rfl,rfl⟩
 |x::r,_,.cons ⟨t,e⟩ h=>by
  obtain⟨l,b,c⟩:=z9 h;subst e;exact⟨(x,t)::l,by rw[<-b];rfl,by rw[Î,c]⟩
def SK:Á V->Hp->VK->Prop:=λxs H Q=>∃l b,xs=[.ref l]/\H l=À (.lst (b.map V.str))/\b.length<64/\∀(a:Á Str) d,H d=none->a.Perm b->sortedS a=true->Q (.ref d) (upd H d (.lst (a.map V.str)))
theorem wD:∀{a:Á Str}{us:Á Value},Vals (a.map V.str) us->WD us a
 |[],_,.nil=>.nil
 |x::r,_,.cons ⟨t,e⟩ h=>by subst e;exact .cons x t (wD h)
theorem iR:∀{a:Á Str}{us:Á Value},WD us a->Vals (a.map V.str) us
 |_,_,.nil=>.nil
 |_,_,.cons x t h=>.cons ⟨t,rfl⟩ (iR h)
def vp:aG X (.builtin "sorted") SK:=by
 rintro h s x H xs us Q I rv ⟨l,w,rfl,p,m,q⟩;obtain⟨u,rfl,v⟩:=rv.one;cases (show u=Ñ l from v);obtain⟨z,d,n,r,hl,e⟩:=I.GG p;rw[É]at hl;refine sorted_strs ⟨_,e,rfl,n,rfl⟩ (wD r) (by lia) λf c i g j=>?_;obtain⟨k,t⟩:=sortedAll_at s.heap d f;have hd:H s!"n"=none:=I.ţ.fresh (mC _);refine⟨.ref s!"n",_,I.laid (a:=s.heap.objs.size+1) (o:=.lst (c.map V.str)) (t':=s.toks) (λb o z=>sortedAll_old z) (mC _) ⟨?_,_,k,iR i,?_⟩,rfl,q c _ hd g j⟩
 ·rw[É,g.length_eq];exact ę (Ŕ (by lia))
 ·rw[t]
end L2
namespace Mm
open PySem L2
inductive AV where
 |Ĕ|bl (b:Bool)|int (i:Int)|str (x:Str)|tup (xs:Á AV)|ref (i:Nat)|sq (xs:Á AV)
inductive AO where
 |lst (xs:Á AV)|dK (kvs:Á (Key×AV))|dT (kvs:Á (Á Key×AV))|ins (C:Nat) (fs:Á (Str×AV))|exc (C:Nat)|tab (i:Nat) (q:Str)|Pe (kvs:Á (Á Key×AV))
abbrev S:=Á AO
abbrev En:=Á (Ë AV)
structure AX where
 cls:Nat
 fs:Á (Str×AV)
inductive R (α:Type) where
 |ok (a:α) (s:S)|ex (c:AX) (s:S)|bad
def R.bind {α b:Type}:R α->(α->S->R b)->R b
 |.ok a s,f=>f a s
 |.ex c s,_=>.ex c s
 |.bad,_=>.bad
inductive RS where
 |nx (e:En) (s:S)|rt (v:AV) (s:S)|bk (e:En) (s:S)|ct (e:En) (s:S)|ex (c:AX) (s:S)|bad
@[simp] theorem ï (a:α) (s:S) (f:α->S->R b):(R.ok a s).bind f=f a s:=rfl
@[simp] theorem qx (f:α->S->R a):(R.bad:R α).bind f=.bad:=rfl
structure Tx where
 K:È
 cl:Nat->Addr
def LK (K:È)(H:Hp)(a:Addr)(xs:Á V):Prop:=
 (∃o,H a=À (.iY o (.lst xs)))∨∃o b n,K.lookup a=À o/\o.cls=.type "list"/\o.dict=none/\o.data=.seq b n/\b.size<=sizeLine/\Vals xs b.toList
def LK.G_ (h:LK K H a xs):fQ K H a xs:=by
 rcases h with h|h
 ·exact .inl (.inr h)
 ·exact .inr h
mutual
def VR (T:Tx)(ρ:Á Addr)(H:Hp):AV->V->Prop
 |.Ĕ,x=>x=.Ĕ
 |.bl b,x=>x=.bl b
 |.int i,x=>x=.int i
 |.str z,x=>x=.str z
 |.tup xs,x=>∃a c,x=.ref a/\gz T.K H a c/\ı T ρ H xs c
 |.ref i,x=>∃a,ρ[i]?=À a/\x=.ref a
 |.sq xs,x=>∃a c,x=.ref a/\LK T.K H a c/\ı T ρ H xs c
def ı (T:Tx)(ρ:Á Addr)(H:Hp):Á AV->Á V->Prop
 |[],a=>a=[]
 |v::r,a=>∃x b,a=x::b/\VR T ρ H v x/\ı T ρ H r b
end
structure Gr (ρ:Á Addr)(H:Hp)(qf:Á Addr)(H':Hp):Prop where
 pre:ρ <+:qf
 lJ:∀b xs,H b=À (.tup xs)->H' b=À (.tup xs)
 jB:∀b o u,H b=À (.iY o u)->H' b=À (.iY o u)
structure Up (ρ:Á Addr)(H:Hp)(qf:Á Addr)(H':Hp):Prop extends Gr ρ H qf H' where
 fr:∀b o,H b=À o->b∉ρ->H' b=À o/\b∉qf
 live:∀b,H' b=none->H b=none
def Up.refl:Up ρ H ρ H:=⟨⟨bc,λ_ _ h=>h,λ_ _ _ h=>h⟩,λ_ _ h n=>⟨h,n⟩,λ_ h=>h⟩
theorem Up.trans (a:Up ρ H d A)(b:Up d A e B):Up ρ H e B:=
 ⟨⟨a.pre.trans b.pre,λc xs h=>b.lJ c xs (a.lJ c xs h),λc o u h=>b.jB c o u (a.jB c o u h)⟩,λc o h n=>let ⟨f,g⟩:=a.fr c o h n;b.fr c o f g,λc h=>a.live c (b.live c h)⟩
def Up.add (a:Up ρ H c A)(h:H p=none):Up ρ H (c++[p]) A:=
 ⟨⟨a.pre.trans (gp _ _),a.lJ,a.jB⟩,λb o e n=>⟨(a.fr b o e n).1,λz=>by
  rcases ķ.mp z with z|z
  ·exact(a.fr b o e n).2 z
  ·rw[ò.mp z,h]at e;cases e⟩,a.live⟩
def zR {α:Type}{ρ b:Á α}(h:ρ <+:b){i:Nat}{a:α}(e:ρ[i]?=À a):b[i]?=À a:=by
 obtain⟨t,rfl⟩:=h;rw[é]
 ·exact e
 ·exact(Æ.mp e).1
def Gr.S1 (u:Gr ρ H b H')(h:gz K H a vs):gz K H' a vs:=by
 rcases h with(h|⟨o,h⟩)|h
 ·exact .inl (.inl (u.lJ _ _ h))
 ·exact .inl (.inr ⟨o,u.jB _ _ _ h⟩)
 ·exact .inr h
def Gr.V7 (u:Gr ρ H b H')(h:LK K H a vs):LK K H' a vs:=by
 rcases h with⟨o,h⟩|h
 ·exact .inl ⟨o,u.jB _ _ _ h⟩
 ·exact .inr h
structure Gs (ρ:Á Addr)(H:Hp)(qf:Á Addr)(H':Hp):Prop where
 pre:ρ <+:qf
 S1:∀{K a vs},gz K H a vs->gz K H' a vs
 V7:∀{K a vs},LK K H a vs->LK K H' a vs
def Gr.gs (u:Gr ρ H a H'):Gs ρ H a H':=⟨u.pre,u.S1,u.V7⟩
section
variable {T:Tx}{ρ qf:Á Addr}{H H':Hp}
mutual
theorem VR.gs (u:Gs ρ H qf H'):∀{v:AV}{x:V},VR T ρ H v x->VR T qf H' v x
 |.Ĕ,_,h=>h
 |.bl _,_,h=>h
 |.int _,_,h=>h
 |.str _,_,h=>h
 |.ref _,_,h=>by
  unfold VR at *
  obtain⟨a,h,e⟩:=h;exact⟨a,zR u.pre h,e⟩
 |.tup _,_,h=>by
  unfold VR at *
  obtain⟨a,d,e,b,c⟩:=h;exact⟨a,d,e,u.S1 b,ı.gs u c⟩
 |.sq _,_,h=>by
  unfold VR at *
  obtain⟨a,d,e,b,c⟩:=h;exact⟨a,d,e,u.V7 b,ı.gs u c⟩
theorem ı.gs (u:Gs ρ H qf H'):∀{l:Á AV}{xs:Á V},ı T ρ H l xs->ı T qf H' l xs
 |[],_,h=>h
 |_::_,_,h=>by
  unfold ı at *
  obtain⟨x,c,e,a,b⟩:=h;exact⟨x,c,e,VR.gs u a,ı.gs u b⟩
end
def VR.gr (u:Gr ρ H qf H')(h:VR T ρ H v x):VR T qf H' v x:=h.gs u.gs
def ı.gr (u:Gr ρ H qf H')(h:ı T ρ H v x):ı T qf H' v x:=h.gs u.gs
def VR.up (u:Up ρ H qf H')(h:VR T ρ H v x):VR T qf H' v x:=h.gr u.toGr
def ı.up (u:Up ρ H qf H')(h:ı T ρ H v x):ı T qf H' v x:=h.gr u.toGr
theorem ı.length:∀{l:Á AV}{xs:Á V},ı T ρ H l xs->l.length=xs.length
 |[],_,h=>by unfold ı at h;subst h;rfl
 |_::_,_,h=>by
  unfold ı at h;obtain⟨x,b,rfl,_,a⟩:=h;simp[ı.length a]
def ı.nil:ı T ρ H [] []:=by unfold ı;rfl
def ı.cons {v:AV}{x:V}{l:Á AV}{xs:Á V}(h:VR T ρ H v x)(k:ı T ρ H l xs):ı T ρ H (v::l) (x::xs):=by
 unfold ı;exact⟨x,xs,rfl,h,k⟩
def ı.nil_inv (h:ı T ρ H [] xs):xs=[]:=by unfold ı at h;exact h
def ı.cons_inv (h:ı T ρ H (v::l) xs):∃x ys,xs=x::ys/\VR T ρ H v x/\ı T ρ H l ys:=by unfold ı at h;exact h
theorem ı.get:∀{l:Á AV}{xs:Á V}{i:Nat}{v:AV},ı T ρ H l xs->l[i]?=À v->∃x,xs[i]?=À x/\VR T ρ H v x
 |[],_,_,_,_,e=>by simp at e
 |_::_,_,0,_,h,e=>by
  obtain⟨x,c,rfl,a,_⟩:=h.cons_inv;simp at e;subst e;exact⟨x,rfl,a⟩
 |_::_,_,i+1,_,h,e=>by
  obtain⟨x,c,rfl,_,b⟩:=h.cons_inv;exact ı.get (i:=i) b (by simpa using e)
theorem ı.append:∀{l q:Á AV}{xs ys:Á V},ı T ρ H l xs->ı T ρ H q ys->ı T ρ H (l++q) (xs++ys)
 |[],_,_,_,h,k=>by cases h.nil_inv;exact k
 |_::_,_,_,_,h,k=>by
  obtain⟨x,c,rfl,a,b⟩:=h.cons_inv;exact .cons a (ı.append b k)
def ı.one (h:VR T ρ H v x):ı T ρ H [v] [x]:=.cons h .nil
theorem ı.set:∀{l:Á AV}{xs:Á V}{v:AV}{x:V}(i:Nat),ı T ρ H l xs->VR T ρ H v x->ı T ρ H (l.set i v) (xs.set i x)
 |[],_,_,_,_,h,_=>by cases h.nil_inv;exact .nil
 |_::_,_,_,_,0,h,k=>by
  obtain⟨x,c,rfl,b,a⟩:=h.cons_inv;exact .cons k a
 |_::_,_,_,_,i+1,h,k=>by
  obtain⟨x,c,rfl,b,a⟩:=h.cons_inv;exact .cons b (ı.set i a k)
theorem ı.drop:∀{l:Á AV}{xs:Á V}(n:Nat),ı T ρ H l xs->ı T ρ H (l.drop n) (xs.drop n)
 |_,_,0,h=>h
 |[],_,_+1,h=>by cases h.nil_inv;exact .nil
 |_::_,_,n+1,h=>by
  obtain⟨x,c,rfl,b,a⟩:=h.cons_inv;exact ı.drop n a
theorem ı.take:∀{l:Á AV}{xs:Á V}(n:Nat),ı T ρ H l xs->ı T ρ H (l.take n) (xs.take n)
 |_,_,0,h=>.nil
 |[],_,_+1,h=>by cases h.nil_inv;exact .nil
 |_::_,_,n+1,h=>by
  obtain⟨x,c,rfl,a,b⟩:=h.cons_inv;exact .cons a (ı.take n b)
theorem ı.map {α:Type}{f:α->AV}{g:α->V}(h:∀a,VR T ρ H (f a) (g a)):∀(l:Á α),ı T ρ H (l.map f) (l.map g)
 |[]=>.nil
 |a::r=>.cons (h a) (ı.map h r)
theorem ı.Bv:∀{ns:Á Int}{xs:Á V},ı T ρ H (ns.map AV.int) xs->xs=ns.map V.int
 |[],_,h=>h.nil_inv
 |_::_,_,h=>by
  obtain⟨x,c,rfl,a,b⟩:=h.cons_inv;unfold VR at a;rw[a,ı.Bv b];rfl
theorem ı.Es:∀{ns:Á Bool}{xs:Á V},ı T ρ H (ns.map AV.bl) xs->xs=ns.map V.bl
 |[],_,h=>h.nil_inv
 |_::_,_,h=>by
  obtain⟨x,c,rfl,a,b⟩:=h.cons_inv;unfold VR at a;rw[a,ı.Es b];rfl
theorem ı.wF:∀{ns:Á Str}{xs:Á V},ı T ρ H (ns.map AV.str) xs->xs=ns.map V.str
 |[],_,h=>h.nil_inv
 |_::_,_,h=>by
  obtain⟨x,c,rfl,a,b⟩:=h.cons_inv;unfold VR at a;rw[a,ı.wF b];rfl
def a9:VR T ρ H (.int i) (.int i):=by unfold VR;rfl
def dt:VR T ρ H (.bl i) (.bl i):=by unfold VR;rfl
def iS:VR T ρ H (.str i) (.str i):=by unfold VR;rfl
def wN:VR T ρ H .Ĕ .Ĕ:=by unfold VR;rfl
def qc (h:ρ[i]?=À a):VR T ρ H (.ref i) (.ref a):=by unfold VR;exact⟨a,h,rfl⟩
def jM (h:gz T.K H a vs)(k:ı T ρ H xs vs):VR T ρ H (.tup xs) (.ref a):=by unfold VR;exact⟨a,vs,rfl,h,k⟩
def VR.cH (h:VR T ρ H (.tup xs) x):∃a vs,x=.ref a/\gz T.K H a vs/\ı T ρ H xs vs:=by unfold VR at h;exact h
def VR.gi (h:VR T ρ H (.ref i) x):∃a,ρ[i]?=À a/\x=.ref a:=by unfold VR at h;exact h
def VR.iQ (h:VR T ρ H (.sq xs) x):∃a vs,x=.ref a/\LK T.K H a vs/\ı T ρ H xs vs:=by unfold VR at h;exact h
def VR.int_inv (h:VR T ρ H (.int i) x):x=.int i:=by unfold VR at h;exact h
def VR.iz (h:VR T ρ H (.bl i) x):x=.bl i:=by unfold VR at h;exact h
def VR.str_inv (h:VR T ρ H (.str i) x):x=.str i:=by unfold VR at h;exact h
def VR.jh (h:VR T ρ H .Ĕ x):x=.Ĕ:=by unfold VR at h;exact h
def xU (H:Hp)(q:Str)(ps:Ē Value):Prop:=XQ ps.toList/\∀pos a,AM pos ps.toList=À a->∃c b u d t,a=.ref c/\H c=À (.iY b u)/\b.data=.fields d/\d[1]?=À (.str q t)
def OR (T:Tx)(ρ:Á Addr)(H:Hp):AO->Addr->Prop
 |.lst xs,a=>∃f,H a=À (.lst f)/\ı T ρ H xs f
 |.dK b,a=>∃c:Á (Key×V),H a=À (.dK c)/\b.map (·.1)=c.map (·.1)/\ı T ρ H (b.map (·.2)) (c.map (·.2))
 |.dT b,a=>∃c:Á (Á Key×V),H a=À (.dT c)/\b.map (·.1)=c.map (·.1)/\ı T ρ H (b.map (·.2)) (c.map (·.2))
 |.ins C d,a=>∃g c,H a=À (.ins (T.cl C) g c)/\d.map (·.1)=c.map (·.1)/\ı T ρ H (d.map (·.2)) (c.map (·.2))
 |.exc C,a=>H a=À (Xl (T.cl C) a)
 |.tab i q,a=>a=T.cl i/\∃e,H a=À (.rm e)/\xU H q e
 |.Pe b,a=>∃o j h c,H a=À (.iY o (.dT c))/\o.data=.dict j h/\b.map (·.1)=c.map (·.1)/\ı T ρ H (b.map (·.2)) (c.map (·.2))
def OR.ex (h:OR T ρ H o a):∃u,H a=À u:=by
 cases o with
 |lst xs=>obtain⟨_,h,_⟩:=h;exact⟨_,h⟩
 |dK xs=>obtain⟨_,h,_⟩:=h;exact⟨_,h⟩
 |dT xs=>obtain⟨_,h,_⟩:=h;exact⟨_,h⟩
 |ins C xs=>obtain⟨_,_,h,_⟩:=h;exact⟨_,h⟩
 |exc C=>exact⟨_,h⟩
 |tab i q=>obtain⟨_,_,h,_⟩:=h;exact⟨_,h⟩
 |Pe xs=>obtain⟨_,_,_,_,h,_⟩:=h;exact⟨_,h⟩
theorem OR.gs (u:Gs ρ H qf H')(tb:∀c b w vs,H c=À (.iY b w)->b.data=.fields vs->H' c=À (.iY b w)) (e:H' a=H a)(h:OR T ρ H o a):OR T qf H' o a:=by
 cases o with
 |lst xs=>obtain⟨vs,h,k⟩:=h;exact⟨vs,e.trans h,k.gs u⟩
 |dK xs=>obtain⟨vs,h,q,k⟩:=h;exact⟨vs,e.trans h,q,k.gs u⟩
 |dT xs=>obtain⟨vs,h,q,k⟩:=h;exact⟨vs,e.trans h,q,k.gs u⟩
 |ins C xs=>obtain⟨j,vs,h,q,k⟩:=h;exact⟨j,vs,e.trans h,q,k.gs u⟩
 |exc C=>exact e.trans h
 |tab i q=>
  obtain⟨n,A,p,r,s⟩:=h;exact⟨n,A,e.trans p,r,λpos g z=>let ⟨c,b,w,vs,t,v,x,f,y⟩:=s pos g z;⟨c,b,w,vs,t,v,tb _ _ _ _ x f,f,y⟩⟩
 |Pe xs=>obtain⟨o,m,l,vs,h,d,q,k⟩:=h;exact⟨o,m,l,vs,e.trans h,d,q,k.gs u⟩
def OR.up (u:Gr ρ H qf H')(e:H' a=H a)(h:OR T ρ H o a):OR T qf H' o a:=h.gs u.gs (λ_ _ _ _ k _=>u.jB _ _ _ k) e
end
structure SR (T:Tx)(ρ:Á Addr)(s:S)(H:Hp):Prop where
 nd:ρ.Nodup
 len:ρ.length=s.length
 obj:∀(i:Nat) (o:AO),s[i]?=À o->∃a,ρ[i]?=À a/\OR T ρ H o a
section
variable {T:Tx}{ρ qf:Á Addr}{s:S}{H H':Hp}
def SR.in (h:SR T ρ s H)(g:a∈ρ):∃u,H a=À u:=by
 obtain⟨i,f,e⟩:=ļ g;have c:i<s.length:=by rw[<-h.len];exact f
 obtain⟨b,d,q⟩:=h.obj i s[i] (Å c);rw[Å f]at d;cases d;rw[e]at q;exact q.ex
def SR.out (h:SR T ρ s H)(b:H a=none):a∉ρ:=λz=>by
 obtain⟨u,e⟩:=h.in z;rw[b]at e;cases e
def SR.eg (h:SR T ρ s H)(a:H p=none):Up ρ H ρ (upd H p o):=
 ⟨⟨bc,λb xs e=>by rw[ä (Ŋ e a)];exact e,λb o u e=>by rw[ä (Ŋ e a)];exact e⟩,λb u e n=>⟨by rw[ä (Ŋ e a)];exact e,n⟩,λb e=>by
  by_cases c:b=p
  ·rw[c];exact a
  ·rw[ä c]at e;exact e⟩
theorem SR.up (h:SR T ρ s H)(u:Gr ρ H ρ H')(k:∀a∈ρ,H' a=H a):SR T ρ s H':=
 ⟨h.nd,h.len,λi o e=>by
  obtain⟨a,b,q⟩:=h.obj i o e;exact⟨a,b,q.up u (k a (ý b))⟩⟩
def SR.new (h:SR T ρ s H)(b:H p=none):SR T ρ s (upd H p o):=
 h.up (h.eg b).toGr λa c=>ä λe=>h.out b (e▸c)
def SR.add (h:SR T ρ s H)(l:p∉ρ)(k:OR T (ρ++[p]) H o p):SR T (ρ++[p]) (s++[o]) H:=by
 refine⟨uM.mpr ⟨h.nd,by simp,λa g b j e=>l (by rw[ò.mp j]at e;exact e▸g)⟩,by simp[h.len],λi q e=>?_⟩;by_cases c:i<s.length
 ·rw[é c]at e;obtain⟨a,f,m⟩:=h.obj i q e;refine⟨a,by rw[é (by rw[h.len];exact c)];exact f,?_⟩;exact m.up ⟨gp _ _,λ_ _ e=>e,λ_ _ _ e=>e⟩ rfl
 ·rw[ç (by lia)]at e;have d:i-s.length=0:=by
   have:=(Æ.mp e).1;simp at this;lia
  rw[d]at e;cases e;exact⟨p,by rw[ç (by rw[h.len];lia),h.len,d];rfl,k⟩
end
structure Rl (α β:Type) where
 r:Hp->Á Addr->Hp->α->β->Prop
 X2:∀{H H1:Hp}{ρ:Á Addr}{H':Hp}{v:α}{x:β},(∀b,H1 b=none->H b=none)->r H1 ρ H' v x->r H ρ H' v x
abbrev iW:=AX->Á Addr->S->Hp->Prop
def Out {α b:Type}(T:Tx)(XE:iW)(d:Rl α b)(ρ:Á Addr)(H:Hp):R α->(b->Hp->Prop)->Prop
 |.ok v s,Q=>∀a A x,Up ρ H a A->SR T a s A->d.r H a A v x->Q x A
 |.ex c s,_=>∀a A,Up ρ H a A->SR T a s A->XE c a s A
 |.bad,_=>False
def Out.up (u:Up ρ H e H')(h:Out T XE f ρ H r Q):Out T XE f e H' r Q:=by
 cases r with
 |ok v s=>exact λa A x d b g=>h a A x (u.trans d) b (f.X2 u.live g)
 |ex c s=>exact λa A d b=>h a A (u.trans d) b
 |bad=>exact h
def Out.imp (h:Out T XE b ρ H r Q)(k:∀x H',Q x H'->B x H'):Out T XE b ρ H r B:=by
 cases r with
 |ok v s=>exact λa A x e d f=>k _ _ (h a A x e d f)
 |ex c s=>exact h
 |bad=>exact h
structure ER (T:Tx)(ρ:Á Addr)(H:Hp)(env:En)(σ:St):Prop where
 len:env.length=σ.length
 get:∀(i:Nat) (v:AV),env[i]?=À (À v)->∃x,σ[i]?=À (À x)/\VR T ρ H v x
theorem ER.up (u:Up ρ H a H')(h:ER T ρ H env c):ER T a H' env c:=
 ⟨h.len,λi v e=>let ⟨x,b,q⟩:=h.get i v e;⟨x,b,q.up u⟩⟩
theorem ER.set (h:ER T ρ H env b)(k:VR T ρ H v x):ER T ρ H (env.set i (À v)) (b.set i (À x)):=by
 refine⟨by simp[h.len],λj w e=>?_⟩;by_cases a:i=j
 ·subst a;have hl:i<env.length:=by
   have:=(Æ.mp e).1;simpa using this
  rw[Ģ hl]at e;cases e;exact⟨x,by rw[Ģ (by rw[<-h.len];exact hl)],k⟩
 ·rw[Û a]at e⊢;exact h.get j w e
def tG {α c:Type}(T:Tx)(XE:iW)(d:Rl α c)(m:En->S->R α):St->Hp->(c->Hp->Prop)->Prop:=λe H Q=>
 ∃b a s,SR T b s H/\ER T b H a e/\Out T XE d b H (m a s) Q
def step {g:Rl α o} 
  (j:SR T ρ s H) (f:ER T ρ H env h) (b:Out T XE d ρ H ((m env s).bind k) Q)
  (i:∀v s1 a A x,m env s=.ok v s1->Up ρ H a A->SR T a s1 A->ER T a A env h->g.r H a A v x->Out T XE d a A (k v s1) Q->F x A):tG T XE g m h H F:=by
 refine⟨ρ,env,s,j,f,?_⟩;cases e:m env s with
 |ok v s1=>
  rw[e]at b;exact λa A x u l n=>i v s1 a A x e u l (f.up u) n (Out.up u b)
 |ex c s1=>rw[e]at b;exact b
 |bad=>rw[e]at b;exact b
def Out.here (h:Out T XE a ρ H (.ok v s) Q) (b:SR T ρ s H)(r:a.r H ρ H v x):Q x H:=h ρ H x .refl b r
def Ō {α b:Type}{T:Tx}{XE:iW}{a:Rl α b}{m:En->S->R α}{c:St}{H:Hp}{Q:b->Hp->Prop}{P:Prop}(h:tG T XE a m c H Q)(k:∀ρ env s,SR T ρ s H->ER T ρ H env c->Out T XE a ρ H (m env s) Q->P):P:=by
 obtain⟨ρ,env,s,f,d,e⟩:=h;exact k ρ env s f d e
def PE.imp (h:PE X e t)(k:∀b H Q,t' b H Q->t b H Q):PE X e t':=λa s b H Q I c=>h a s b H Q I (k b H Q c)
def PT.imp (h:PT X e t)(k:∀b H Q,t' b H Q->t b H Q):PT X e t':=λa s b H Q I c=>h a s b H Q I (k b H Q c)
def PW.imp (h:PW X e t)(k:∀b H Q,t' b H Q->t b H Q):PW X e t':=λd a s b H Q I c=>h d a s b H Q I (k b H Q c)
def PA.imp (h:PA X e t)(k:∀b H Q,t' b H Q->t b H Q):PA X e t':=λpos a s b H Q I c=>h pos a s b H Q I (k b H Q c)
def PS.imp (h:PS X e t)(k:∀D b H,t' D b H->t D b H):PS X e t':=λa s b H Q I c=>h a s b H Q I (k Q b H c)
def nB.imp (h:nB X e t)(k:∀D b H,t' D b H->t D b H):nB X e t':=λa s b H Q I c=>h a s b H Q I (k Q b H c)
def PI.imp (h:PI X d e t)(k:∀b H R,t' b H R->t b H R):PI X d e t':=λa s b H Q I c=>h a s b H Q I (k b H Q c)
def PG.imp (h:PG X e t)(k:∀v b H Q,t' v b H Q->t v b H Q):PG X e t':=λa s b H v u Q I r c=>h a s b H v u Q I r (k v b H Q c)
def Em.imp (h:Em X e t)(k:∀v b H Q,t' v b H Q->t v b H Q):Em X e t':=λa s b H v u Q I r c=>h a s b H v u Q I r (k v b H Q c)
abbrev Ev:=En->S->R AV
abbrev hR:=En->S->R (Á AV)
abbrev Eb:=En->S->R Bool
structure Ei (i:Int):Prop where
 f:eV 60000000 i
structure P_ (i:Int):Prop where
 f:eV 9000 i
instance {i:Int}:aZ (Ei i):=kX _
instance {i:Int}:aZ (P_ i):=kX _
def rV (T:Tx):Rl AV V:=⟨λ_ a H v x=>VR T a H v x,λ_ h=>h⟩
def rA (T:Tx):Rl (Á AV) (Á V):=⟨λ_ a H v x=>ı T a H v x,λ_ h=>h⟩
def rB:Rl Bool Bool:=⟨λ_ _ _ b c=>b=c,λ_ h=>h⟩
def rL (T:Tx):Rl (Á AV) V:=⟨λxr c H xs x=>∃a b,x=.ref a/\xr a=none/\a∉c/\H a=À (.lst b)/\ı T c H xs b,λk ⟨a,b,e,h,r⟩=>⟨a,b,e,k a h,r⟩⟩
def rQ (T:Tx):Rl (Á AV) V:=⟨λ_ c H xs x=>∃a b,x=.ref a/\(fQ T.K H a b∨gz T.K H a b)/\ı T c H xs b,λ_ h=>h⟩
def Out.Ĺ (h:Out T XE (rV T) ρ H (.ok v s) Q) (a:SR T ρ s H)(r:VR T ρ H v x):Q x H:=h ρ H x .refl a r
abbrev tE (T:Tx)(XE:iW)(m:Ev):TE:=tG T XE (rV T) m
abbrev tL (T:Tx)(XE:iW)(m:hR):TE:=tG T XE (rL T) m
abbrev tQ (T:Tx)(XE:iW)(m:hR):TE:=tG T XE (rQ T) m
abbrev tP (T:Tx)(XE:iW)(m:hR):TA:=tG T XE (rA T) m
abbrev kN (T:Tx)(XE:iW)(m:Eb):TT:=tG T XE rB m
section
variable {T:Tx}{XE:iW}{X:Cx}{pos:kR}
def mv (i:Nat):Ev:=λa s=>match a[i]? with
 |some (À v)=>.ok v s
 |_=>.bad
def YB (h:PE X e (Tb i)):PE X e (tE T XE (mv i)):=PE.imp h λl H Q j=>Ō j λk c s g f a=>by
 unfold mv at a;split at a
 ·rename_i v d;obtain⟨x,b,q⟩:=f.get i v d;exact⟨x,b,a.Ĺ g q⟩
 ·exact a.elim
def mc (v:AV):Ev:=λ_ s=>.ok v s
def Rh:PE X (.Constant (.int i) j pos) (tE T XE (mc (.int i))):=PE.imp Sa λg H Q d=>Ō d λf a s c e b=>b.Ĺ c a9
def Vd:PE X (.Constant (.bool i) j pos) (tE T XE (mc (.bl i))):=PE.imp VF λg H Q d=>Ō d λf a s c e b=>b.Ĺ c dt
def Rq:PE X (.Constant .none j pos) (tE T XE (mc .Ĕ)):=PE.imp Sd λg H Q d=>Ō d λf a s c e b=>b.Ĺ c wN
def Rt:PE X (.Constant (.str i) j pos) (tE T XE (mc (.str i))):=PE.imp Sf λg H Q d=>Ō d λf a s c e b=>b.Ĺ c iS
def Na (c:Gl X x)(d:X.mg x=À u)(r:RelV v u)(g:∀ρ H,VR T ρ H a v)(hd:(x == ("__debug__":Str))=false:=by decide):PE X (.Name x pos) (tE T XE (mc a)):=
 PE.imp (zQ c d r hd) λj H Q h=>Ō h λρ b s f i e=>e.Ĺ f (g ρ H)
def xh (T:Tx)(XE:iW)(op:AV->AV->S->R AV):R2:=λx y H Q=>∃a v w s,SR T a s H/\VR T a H v x/\VR T a H w y/\Out T XE (rV T) a H (op v w s) Q
def YP (T:Tx)(XE:iW)(op:AV->S->R AV):V->Hp->VK->Prop:=λx H Q=>∃a v s,SR T a s H/\VR T a H v x/\Out T XE (rV T) a H (op v s) Q
def Ç (op:AV->AV->S->R AV)(a b:Ev):Ev:=λc s=>(a c s).bind λv d=>(b c d).bind λw e=>op v w e
def bg (op:AV->S->R AV)(a:Ev):Ev:=λb s=>(a b s).bind λv c=>op v c
def t2 (h:tE T XE (Ç op a b) u H Q):Wh (xh T XE op) (tE T XE a) (tE T XE b) u H Q:=by
 obtain⟨D,l,s,p,n,o⟩:=h;exact step p n o λv z t A x _ C f c i d=>step f c d λw q k B y _ r g m j e=>⟨k,v,w,q,g,VR.up r i,j,e⟩
def t1 (h:tE T XE (bg op a) m H Q):tUn (YP T XE op) (tE T XE a) m H Q:=by
 obtain⟨o,f,s,k,i,j⟩:=h;exact step k i j λv l e A x _ n c g d b=>⟨e,v,l,c,d,b⟩
def si (c:jm X (bf o) (xh T XE op)) (d:PE X a (tE T XE f)) (e:PE X b (tE T XE g)):PE X (.BinOp a o b pos) (tE T XE (Ç op f g)):=
 PE.imp (VI c d e) λ_ _ _ h=>t2 h
def Vk (b:Ui X (WK o) (YP T XE op)) (c:PE X a (tE T XE d)):PE X (.UnaryOp o a pos) (tE T XE (bg op d)):=
 PE.imp (VL b c) λ_ _ _ h=>t1 h
def mj (c:jm X (Ĭ o) (xh T XE op)) (d:PE X a (tE T XE g)) (e:PE X b (tE T XE i)) (f:ay o b=false:=by rfl):PE X (.Compare a [o] [b] pos) (tE T XE (Ç op g i)):=
 PE.imp (NP c d e f) λ_ _ _ h=>t2 h
def Vh (c:TL X (xh T XE op)) (d:PE X a (tE T XE g)) (e:PE X b (tE T XE i)) (f:Ep b:=by exact λ_ _=>rfl):PE X (.Subscript a b pos) (tE T XE (Ç op g i)):=
 PE.imp (VH c d e f) λ_ _ _ h=>t2 h
def Out.alloc (h:Out T XE (rV T) ρ H (.ok s!"h" (s++[o])) Q) (a:SR T ρ s H)(b:H p=none)(k:OR T (ρ++[p]) (upd H p u) o p):Q (.ref p) (upd H p u):=by
 have c:SR T (ρ++[p]) (s++[o]) (upd H p u):=(a.new b).add (a.out b) k;exact h _ _ _ ((a.eg b).add b) c (qc (T:=T) (H:=upd H p u) (by rw[ç (by rw[a.len];exact Í _),a.len,oG];rfl))
theorem Out.tup {ρ:Á Addr}{H:Hp}{s:S}{xs:Á AV}{vs:Á V}{p:Addr}{Q:VK}(h:Out T XE (rV T) ρ H (.ok (.tup xs) s) Q) (b:SR T ρ s H)(a:H p=none)(k:ı T ρ H xs vs):Q (.ref p) (upd H p (.tup vs)):=
 h _ _ _ (b.eg a) (b.new a) (jM (gz.of ă) (ı.up (b.eg a) k))
theorem Out.lst {ρ:Á Addr}{H:Hp}{s:S}{xs:Á AV}{vs:Á V}{p:Addr}{Q:VK}(h:Out T XE (rL T) ρ H (.ok xs s) Q) (b:SR T ρ s H)(a:H p=none)(k:ı T ρ H xs vs):Q (.ref p) (upd H p (.lst vs)):=
 h _ _ _ (b.eg a) (b.new a) ⟨p,vs,rfl,a,b.out a,ă,ı.up (b.eg a) k⟩
def SR.ef (j:SR T ρ s H)(e:s[i]?=À (.lst xs)) (h:VR T ρ H (.ref i) x):∃a vs,x=.ref a/\ρ[i]?=À a/\H a=À (.lst vs)/\ı T ρ H xs vs:=by
 obtain⟨a,c,vs,f,g⟩:=j.obj i _ e;obtain⟨b,d,rfl⟩:=h.gi;rw[c]at d;cases d;exact⟨a,vs,rfl,c,f,g⟩
def SR.A9 (j:SR T ρ s H)(e:s[i]?=À (.dK xs)) (h:VR T ρ H (.ref i) x):∃a vs,x=.ref a/\ρ[i]?=À a/\H a=À (.dK vs)/\xs.map (·.1)=vs.map (·.1)/\ı T ρ H (xs.map (·.2)) (vs.map (·.2)):=by
 obtain⟨a,c,vs,f,g⟩:=j.obj i _ e;obtain⟨b,d,rfl⟩:=h.gi;rw[c]at d;cases d;exact⟨a,vs,rfl,c,f,g⟩
def SR.t_ {ρ:Á Addr}{s:S}(j:SR T ρ s H){i:Nat}(e:ρ[i]?=À a){u c:HO}(h0:H a=À c)(f:∀xs,c≠.tup xs)(g:∀o v,c≠.iY o v):Up ρ H ρ (upd H a u):=by
 refine⟨⟨bc,λb xs h=>?_,λb o v h=>?_⟩,λb o h n=>⟨?_,n⟩,λb h=>?_⟩
 ·rw[ä (vX h h0 λz=>f xs z.symm)];exact h
 ·rw[ä (vX h h0 λz=>g o v z.symm)];exact h
 ·rw[ä λz=>n (by rw[z];exact ý e)];exact h
 ·by_cases d:b=a
  ·subst d;rw[ă]at h;cases h
  ·rw[ä d]at h;exact h
theorem SR.set (f:SR T ρ s H)(e:ρ[i]?=À a)(n:Up ρ H ρ (upd H a u)) (k:OR T ρ (upd H a u) o a):SR T ρ (s.set i o) (upd H a u):=by
 refine⟨f.nd,by simp[f.len],λj q d=>?_⟩;by_cases c:i=j
 ·subst c;have hl:i<s.length:=by have:=(Æ.mp d).1;simpa using this
  rw[Ģ hl]at d;cases d;exact⟨a,e,k⟩
 ·rw[Û c]at d;obtain⟨b,g,m⟩:=f.obj j q d;refine⟨b,g,m.up n.toGr (ä λz=>c ?_)⟩;subst z;have h:=(Æ.mp e)
  have l:=(Æ.mp g)
  exact(bx f.nd).mp (h.2.trans l.2.symm)
def Out.Ř {α d:Type}{b:Rl α d}{ρ:Á Addr}{c:Prop}{_:aZ c}{r:R α}{Q:d->Hp->Prop}(h:Out T XE b ρ H (if c then r else .bad) Q):c/\Out T XE b ρ H r Q:=by
 by_cases a:c
 ·rw[Ò a]at h;exact⟨a,h⟩
 ·rw[Ø a]at h;exact h.elim
def need {α a:Type}(o:Ë a)(f:a->R α):R α:=match o with
 |some x=>f x
 |none=>.bad
@[simp] theorem ø (x:a) (f:a->R α):need (À x) f=f x:=rfl
def Out.ö (h:Out T XE a ρ H (need o f) Q):∃x,o=À x/\Out T XE a ρ H (f x) Q:=by
 cases o with
 |none=>exact h.elim
 |some x=>exact⟨x,rfl,h⟩
def ù (s:S)(i:Nat):Ë (Á AV):=match s[i]? with
 |some (.lst xs)=>À xs
 |_=>none
def ċ (h:ù s i=À xs):s[i]?=À (.lst xs):=by
 unfold ù at h;split at h
 ·cases h;assumption
 ·cases h
def dY (h:s[i]?=À (.lst xs)):ù s i=À xs:=by
 unfold ù;rw[h]
noncomputable def ť:AV->AV->S->R AV
 |.int i,.int j,s=>.ok (.int (i+j)) s
 |.str x,.str y,s=>if x.length+y.length<=sizeLine then .ok (.str (x++y)) s else .bad
 |.tup xs,.tup a,s=>if a≠[]/\xs.length+a.length<=sizeLine then .ok (.tup (xs++a)) s else .bad
 |.ref i,.ref j,s=>need (ù s i) λxs=>need (ù s j) λa=>if xs.length+a.length<=sizeLine then .ok s!"h" (s++[.lst (xs++a)])else .bad
 |_,_,_=>.bad
def ı.ne (h:ı T ρ H l xs)(k:l≠[]):xs≠[]:=by
 intro z;have:=h.length;rw[z]at this;exact k (Cy.mp this)
theorem OR.lst {ρ:Á Addr}{H:Hp}{a:Addr}{xs:Á AV}{vs:Á V}(h:H a=À (.lst vs)) (k:ı T ρ H xs vs):OR T ρ H (.lst xs) a:=⟨vs,h,k⟩
def YH (z:X.K=T.K):jm X (bf .Add) (xh T XE ť):=by
 rintro d s n H x y v u Q I i j ⟨E,a,b,st,e,k,l,c⟩;cases a<;>cases b<;>try exact c.elim
 ·exact RX d s n H x y v u Q I i j ⟨_,_,k.int_inv,l.int_inv,c.Ĺ e a9⟩
 ·obtain⟨hl,c⟩:=c.Ř;exact DI d s n H x y v u Q I i j ⟨_,_,k.str_inv,l.str_inv,hl,c.Ĺ e iS⟩
 ·obtain⟨hl,c⟩:=c.Ř;obtain⟨p,m,rfl,o,g⟩:=k.cH;obtain⟨q,w,rfl,h,f⟩:=l.cH;refine J1 d s n H (.ref p) (.ref q) v u Q I i j ⟨p,q,m,w,rfl,rfl,z▸o,z▸h,f.ne hl.1,by rw[<-g.length,<-f.length];exact hl.2,λC=>?_,λ_ r hr=>c.tup e hr (g.append f)⟩;have t:m=[]:=C;subst t;exact c.Ĺ e (jM h (g.append f))
 ·obtain⟨xs,A,c⟩:=c.ö;obtain⟨D,B,c⟩:=c.ö;obtain⟨hl,c⟩:=c.Ř;obtain⟨p,m,rfl,_,o,g⟩:=e.ef (ċ A) k;obtain⟨q,w,rfl,_,h,f⟩:=e.ef (ċ B) l;refine RY d s n H (.ref p) (.ref q) v u Q I i j ⟨p,q,m,w,rfl,rfl,o,h,by rw[<-g.length,<-f.length];exact hl,λr hr=>c.alloc e hr ?_⟩;exact OR.lst ă (ı.gr ((e.eg hr).add hr).toGr (g.append f))
def Fc:AV->AV->S->R AV
 |.int i,.int j,s=>.ok (.int (i-j)) s
 |_,_,_=>.bad
def YM:jm X (bf .Sub) (xh T XE Fc):=by
 rintro c s j H x y v u Q I e f ⟨k,a,b,st,g,h,i,d⟩;cases a<;>cases b<;>try exact d.elim
 exact R5 c s j H x y v u Q I e f ⟨_,_,h.int_inv,i.int_inv,d.Ĺ g a9⟩
def bY:AV->AV->S->R AV
 |.int i,.int j,s=>if Ei i/\Ei j then .ok (.int (i*j)) s else .bad
 |_,_,_=>.bad
def YJ:jm X (bf .Mult) (xh T XE bY):=by
 rintro c s k H x y v u Q I e g ⟨l,a,b,st,h,i,j,d⟩;cases a<;>cases b<;>try exact d.elim
 obtain⟨hl,d⟩:=d.Ř;exact NN c s k H x y v u Q I e g ⟨_,_,i.int_inv,j.int_inv,⟨hl.1.f,hl.2.f⟩,d.Ĺ h a9⟩
def iP:AV->AV->S->R AV
 |.int i,.int j,s=>if j≠0/\P_ j then .ok (.int (i.fdiv j)) s else .bad
 |_,_,_=>.bad
def Vu:jm X (bf .FloorDiv) (xh T XE iP):=by
 rintro c s k H x y v u Q I e g ⟨l,a,b,st,h,i,j,d⟩;cases a<;>cases b<;>try exact d.elim
 obtain⟨hl,d⟩:=d.Ř;exact J4 c s k H x y v u Q I e g ⟨_,_,i.int_inv,j.int_inv,⟨hl.1,hl.2.f⟩,d.Ĺ h a9⟩
def gh:AV->AV->S->R AV
 |.int i,.int j,s=>if j≠0 then .ok (.int (i.fmod j)) s else .bad
 |_,_,_=>.bad
def oMod:jm X (bf .Mod) (xh T XE gh):=by
 rintro c s j H x y v u Q I e f ⟨k,a,b,st,g,h,i,d⟩;cases a<;>cases b<;>try exact d.elim
 obtain⟨hl,d⟩:=d.Ř;exact NM c s j H x y v u Q I e f ⟨_,_,h.int_inv,i.int_inv,hl,d.Ĺ g a9⟩
instance {i j:Int}:aZ (L9 i j):=inferInstanceAs (aZ (0<=j/\j<=1000000/\i.natAbs<2^64))
noncomputable def t6:AV->AV->S->R AV
 |.int i,.int j,s=>if L9 i j then .ok (.int (i^j.toNat)) s else .bad
 |_,_,_=>.bad
def YL:jm X (bf .Pow) (xh T XE t6):=by
 rintro c s j H x y v u Q I e f ⟨k,a,b,st,g,h,i,d⟩;cases a<;>cases b<;>try exact d.elim
 obtain⟨hl,d⟩:=d.Ř;exact R4 c s j H x y v u Q I e f ⟨_,_,h.int_inv,i.int_inv,hl,d.Ĺ g a9⟩
def wb:AV->S->R AV
 |.int i,s=>.ok (.int (-i)) s
 |_,_=>.bad
def YK:Ui X (WK .USub) (YP T XE wb):=by
 rintro b s g H x v Q I d ⟨h,a,st,e,f,c⟩;cases a<;>try exact c.elim
 exact Tj b s g H x v Q I d ⟨_,f.int_inv,c.Ĺ e a9⟩
noncomputable def zM:AV->AV->S->R AV
 |.int i,.int j,s=>.ok (.bl (decide (i<j))) s
 |.str i,.str j,s=>.ok (.bl (decide (i.cps.toList<j.cps.toList))) s
 |_,_,_=>.bad
def oLt:jm X (Ĭ .Lt) (xh T XE zM):=by
 rintro c s j H x y v u Q I e f ⟨k,a,b,st,g,h,i,d⟩;cases a<;>cases b<;>try exact d.elim
 ·exact VD c s j H x y v u Q I e f ⟨_,_,h.int_inv,i.int_inv,d.Ĺ g dt⟩
 ·exact GV c s j H x y v u Q I e f ⟨_,_,h.str_inv,i.str_inv,d.Ĺ g dt⟩
def GS:AV->AV->S->R AV
 |.int i,.int j,s=>.ok (.bl (decide (i<=j))) s
 |_,_,_=>.bad
def oLe:jm X (Ĭ .LtE) (xh T XE GS):=by
 rintro c s j H x y v u Q I e f ⟨k,a,b,st,g,h,i,d⟩;cases a<;>cases b<;>try exact d.elim
 exact VC c s j H x y v u Q I e f ⟨_,_,h.int_inv,i.int_inv,d.Ĺ g dt⟩
def p7:AV->AV->S->R AV
 |.int i,.int j,s=>.ok (.bl (decide (j<i))) s
 |_,_,_=>.bad
def oGt:jm X (Ĭ .Gt) (xh T XE p7):=by
 rintro c s j H x y v u Q I e f ⟨k,a,b,st,g,h,i,d⟩;cases a<;>cases b<;>try exact d.elim
 exact VB c s j H x y v u Q I e f ⟨_,_,h.int_inv,i.int_inv,d.Ĺ g dt⟩
def GR:AV->AV->S->R AV
 |.int i,.int j,s=>.ok (.bl (decide (j<=i))) s
 |_,_,_=>.bad
def oGe:jm X (Ĭ .GtE) (xh T XE GR):=by
 rintro c s j H x y v u Q I e f ⟨k,a,b,st,g,h,i,d⟩;cases a<;>cases b<;>try exact d.elim
 exact VA c s j H x y v u Q I e f ⟨_,_,h.int_inv,i.int_inv,d.Ĺ g dt⟩
def toD:Nat->S->AV->Ë Dt
 |_,_,.Ĕ=>À .Ĕ
 |_,_,.bl b=>À (.bl b)
 |_,_,.int b=>À (.int b)
 |_,_,.str b=>À (.str b)
 |n+1,s,.tup xs=>(xs.mapM (toD n s)).map .tup
 |n+1,s,.sq xs=>(xs.mapM (toD n s)).map .lst
 |n+1,s,.ref i=>(ù s i).bind λxs=>(xs.mapM (toD n s)).map .lst
 |_,_,_=>none
def Dv (h:(a::l).mapM f=À r):∃b q,f a=À b/\l.mapM f=À q/\r=b::q:=by
 rw[eM]at h;cases c:f a with
 |none=>rw[c]at h;cases h
 |some b=>
  cases d:l.mapM f with
  |none=>rw[c,d]at h;cases h
  |some q=>rw[c,d]at h;cases h;exact⟨b,q,rfl,rfl,rfl⟩
theorem qV (c:∀v d x,f v=À d->VR T ρ H v x->Rep T.K (λ_=>False) H d x):∀{xs:Á AV}{l:Á Dt}{vs:Á V},xs.mapM f=À l->ı T ρ H xs vs->bJ T.K (λ_=>False) H l vs
 |[],l,vs,h,k=>by
  rw[rx]at h;cases h;unfold bJ;exact k.nil_inv
 |a::r,l,vs,h,k=>by
  obtain⟨b,q,e,g,rfl⟩:=Dv h;obtain⟨x,m,rfl,i,j⟩:=k.cons_inv;unfold bJ;exact⟨x,m,rfl,c a b x e i,qV c g j⟩
theorem mw (j:SR T ρ s H):∀n v d x,toD n s v=À d->VR T ρ H v x->Rep T.K (λ_=>False) H d x
 |n,.Ĕ,d,x,h,k=>by
  have h:À Dt.Ĕ=À d:=by cases n<;>exact h
  cases h;unfold Rep;exact k.jh
 |n,.bl b,d,x,h,k=>by
  have h:À (Dt.bl b)=À d:=by cases n<;>exact h
  cases h;unfold Rep;exact k.iz
 |n,.int b,d,x,h,k=>by
  have h:À (Dt.int b)=À d:=by cases n<;>exact h
  cases h;unfold Rep;exact k.int_inv
 |n,.str b,d,x,h,k=>by
  have h:À (Dt.str b)=À d:=by cases n<;>exact h
  cases h;unfold Rep;exact k.str_inv
 |0,.tup xs,d,x,h,k=>by cases h
 |0,.sq xs,d,x,h,k=>by cases h
 |0,.ref xs,d,x,h,k=>by cases h
 |n+1,.tup xs,d,x,h,k=>by
  have h:(xs.mapM (toD n s)).map Dt.tup=À d:=h;obtain⟨a,g,rfl,c,f⟩:=k.cH;cases e:xs.mapM (toD n s)with
  |none=>rw[e]at h;cases h
  |some l=>
   rw[e]at h;cases h;unfold Rep;exact⟨a,g,rfl,λz=>z,c,qV (λv d x=>mw j n v d x) e f⟩
 |n+1,.sq xs,d,x,h,k=>by
  have h:(xs.mapM (toD n s)).map Dt.lst=À d:=h;obtain⟨a,g,rfl,c,f⟩:=k.iQ;cases e:xs.mapM (toD n s)with
  |none=>rw[e]at h;cases h
  |some l=>
   rw[e]at h;cases h;unfold Rep;exact⟨a,g,rfl,λz=>z,c.G_,qV (λv d x=>mw j n v d x) e f⟩
 |n+1,.ref i,d,x,h,k=>by
  have h:(ù s i).bind (λxs=>(xs.mapM (toD n s)).map Dt.lst)=À d:=h;cases m:ù s i with
  |none=>rw[m]at h;cases h
  |some xs=>
   rw[m]at h;have h:(xs.mapM (toD n s)).map Dt.lst=À d:=h;obtain⟨a,g,rfl,_,c,f⟩:=j.ef (ċ m) k;cases e:xs.mapM (toD n s)with
   |none=>rw[e]at h;cases h
   |some l=>
    rw[e]at h;cases h;unfold Rep;exact⟨a,g,rfl,λz=>z,fQ.of c,qV (λv d x=>mw j n v d x) e f⟩
def C1 (s:S):AV->AV->Ë Bool
 |.Ĕ,.Ĕ=>À true
 |.Ĕ,.int _=>À false|.int _,.Ĕ=>À false|.Ĕ,.bl _=>À false|.bl _,.Ĕ=>À false|.Ĕ,.str _=>À false|.str _,.Ĕ=>À false
 |.int i,.int j=>À (decide (i=j))
 |.bl i,.bl j=>À (decide (i=j))
 |.str i,.str j=>À (decide (i=j))
 |.int _,.str _=>À false|.str _,.int _=>À false|.bl _,.str _=>À false|.str _,.bl _=>À false
 |v,w=>match toD 20 s v,toD 20 s w with
  |some (.tup l),À (.tup q)=>if aH l<=20 then À (iA l q)else none
  |some (.lst l),À (.lst q)=>if aH l<=20 then À (iA l q)else none
  |_,_=>none
def Ş (v w:AV)(s:S):R AV:=need (C1 s v w) λb=>.ok (.bl b) s
def ji (v w:AV)(s:S):R AV:=need (C1 s v w) λb=>.ok (.bl (!b)) s
def HK (s:S)(v w:AV)(b:Bool):Prop:=∃(c:Bool) (l q:Á Dt),toD 20 s v=À (if c then .tup l else .lst l)/\toD 20 s w=À (if c then .tup q else .lst q)/\aH l<=20/\b=iA l q
def Gg (h:(match toD 20 s v,toD 20 s w with
  |some (.tup l),À (.tup q)=>if aH l<=20 then À (iA l q)else none
  |some (.lst l),À (.lst q)=>if aH l<=20 then À (iA l q)else none
  |_,_=>none)=À b):HK s v w b:=by
 split at h
 ·rename_i l q a c;split at h
  ·rename_i hd;cases h;exact⟨true,l,q,a,c,hd,rfl⟩
  ·cases h
 ·rename_i l q a c;split at h
  ·rename_i hd;cases h;exact⟨false,l,q,a,c,hd,rfl⟩
  ·cases h
 ·cases h
def Bg (h:C1 s v w=À b)(a:VR T ρ H v x)(c:VR T ρ H w y):(SW x y=true/\decide (x=y)=b)∨HK s v w b:=by
  cases v<;>cases w<;>first
    |exact .inr (Gg h)
    | (refine .inl ?_
       have h:À _=À b:=h;cases h;first
         |cases a.jh|cases a.int_inv|cases a.iz|cases a.str_inv
       first
         |cases c.jh|cases c.int_inv|cases c.iz|cases c.str_inv
       refine⟨rfl,?_⟩;first
         |rfl
         |simp)
def oEq (h:X.K=T.K)(hu:X.A.units+30<cLine):jm X (Ĭ .Eq) (xh T XE Ş):=by
 rintro d s n H x y v u Q I i j ⟨z,a,b,st,g,k,m,f⟩;obtain⟨c,e,f⟩:=f.ö;rcases Bg e k m with⟨r,w⟩|⟨t,l,q,o,p,hd,rfl⟩
 ·exact Vz d s n H x y v u Q I i j ⟨r,by rw[w];exact f.Ĺ g dt⟩
 ·refine RZ hu d s n H x y v u Q I i j ⟨λ_=>False,λ_=>False,l,q,t,⟨?_,?_⟩,hd,f.Ĺ g dt⟩
  ·exact h▸mw g 20 _ _ _ o k
  ·exact h▸mw g 20 _ _ _ p m
def oNe (h:X.K=T.K)(hu:X.A.units+30<cLine):jm X (Ĭ .NotEq) (xh T XE ji):=by
 rintro d s n H x y v u Q I i j ⟨z,a,b,st,g,k,m,f⟩;obtain⟨c,e,f⟩:=f.ö;rcases Bg e k m with⟨r,w⟩|⟨t,l,q,o,p,hd,rfl⟩
 ·exact VE d s n H x y v u Q I i j ⟨r,by rw[w];exact f.Ĺ g dt⟩
 ·refine R3 hu d s n H x y v u Q I i j ⟨λ_=>False,λ_=>False,l,q,t,⟨?_,?_⟩,hd,f.Ĺ g dt⟩
  ·exact h▸mw g 20 _ _ _ o k
  ·exact h▸mw g 20 _ _ _ p m
noncomputable def mQ:AV->Bool
 |.Ĕ=>true
 |_=>false
def qR:AV->AV->S->R AV
 |v,.Ĕ,s=>.ok (.bl (mQ v)) s
 |_,_,_=>.bad
def NK:AV->AV->S->R AV
 |v,.Ĕ,s=>.ok (.bl (!mQ v)) s
 |.bl a,.bl b,s=>.ok (.bl (a != b)) s
 |_,_,_=>.bad
def Jd (h:VR T ρ H v x):decide (x=.Ĕ)=mQ v:=by
 cases v
 ·cases h.jh;rfl
 ·cases h.iz;rfl
 ·cases h.int_inv;rfl
 ·cases h.str_inv;rfl
 ·obtain⟨_,_,rfl,_⟩:=h.cH;rfl
 ·obtain⟨_,_,rfl⟩:=h.gi;rfl
 ·obtain⟨_,_,rfl,_⟩:=h.iQ;rfl
def Vv:jm X (Ĭ .Is) (xh T XE qR):=by
 rintro c s j H x y v u Q I e f ⟨k,a,b,st,g,h,i,d⟩;cases b<;>try (cases a<;>exact d.elim)
 exact R1 c s j H x y v u Q I e f ⟨i.jh,by rw[Jd h];cases a<;>exact d.Ĺ g dt⟩
def Ï:hR:=λ_ s=>.ok [] s
def Â (a:Ev)(r:hR):hR:=λb s=>(a b s).bind λv c=>(r b c).bind λe d=>.ok (v::e) d
def Ff:PA X [] (tP T XE Ï):=PA.imp eI λf H Q d=>Ō d λρ a s c e b=>b.here (x:=[]) c (ı.nil (T:=T) (ρ:=ρ) (H:=H))
def BU (n:PE X e s!"x") (hr:PA X b (tP T XE r)) (f:Ì (e::b) X.env=s!"k"::Ì b X.env:=by rfl):PA X (e::b) (tP T XE (Â m r)):=
 PA.imp (aS n hr f) λG H Q t=>Ō t λF k s f o p=>
  step f o p λv C u A x _ E g a i c=>step g a c λw D z B y _ q h l j d=>d.here h (ı.cons (VR.up q i) j)
def Ť (r:hR):Ev:=λa s=>(r a s).bind λb c=>if b.length<=sizeLine then .ok (.tup b) c else .bad
def Ru (h:PA X g (tP T XE r)):PE X (.Tuple g k pos) (tE T XE (Ť r)):=
 PE.imp (DL h) λu H Q n=>Ō n λt e s m i j=>step m i j λv o d A x _ q c f a b=>by
  obtain⟨hl,b⟩:=b.Ř;have a:ı T d A v x:=a;exact⟨by rw[<-a.length];exact hl,λp l=>b.tup c l a⟩
def Ŭ (r:hR):hR:=λa s=>(r a s).bind λb c=>if b.length<=sizeLine then .ok b c else .bad
def RB (h:PA X g (tP T XE r)):PE X (.List g pos) (tL T XE (Ŭ r)):=
 PE.imp (Sb h) λt H Q m=>Ō m λq e s l i j=>step l i j λv n d A x _ o c f a b=>by
  obtain⟨hl,b⟩:=b.Ř;have a:ı T d A v x:=a;exact⟨by rw[<-a.length];exact hl,λp k=>b.lst c k a⟩
def Ď (r:hR):Ev:=λa s=>(r a s).bind λc b=>.ok (.ref b.length) (b++[.lst c])
def Rn (h:PE X e (tL T XE r)):PE X e (tE T XE (Ď r)):=
 PE.imp h λB H Q t=>Ō t λv f s p o b=>by
  refine⟨v,f,s,p,o,?_⟩;unfold Ď at b;cases e:r f s with
  |bad=>rw[e]at b;exact b
  |ex c q=>rw[e]at b;exact b
  |ok w q=>
   rw[e]at b;rintro d A x u i ⟨a,y,j,l,m,n,k⟩;subst j;have g:Gr d A (d++[a]) A:=⟨gp _ _,λ_ _ z=>z,λ_ _ _ z=>z⟩
   refine b (d++[a]) A (.ref a) (u.add l) (i.add m (OR.lst n (k.gr g))) (qc (T:=T) (H:=A) ?_);rw[ç (by rw[i.len];exact Í _),i.len,oG];rfl
def items (v:AV)(s:S):Ë (Á AV):=match v with
 |.tup xs=>À xs
 |.sq xs=>À xs
 |.ref i=>ù s i
 |_=>none
def ot (h:items v s=À xs)(d:SR T ρ s H)(c:VR T ρ H v x):∃a vs,x=.ref a/\(fQ T.K H a vs∨gz T.K H a vs)/\ı T ρ H xs vs:=by
 cases v<;>try cases h
 ·obtain⟨a,vs,rfl,b,k⟩:=c.cH;exact⟨a,vs,rfl,.inr b,k⟩
 ·obtain⟨a,vs,rfl,_,b,k⟩:=d.ef (ċ h) c;exact⟨a,vs,rfl,.inl (fQ.of b),k⟩
 ·obtain⟨a,vs,rfl,b,k⟩:=c.iQ;exact⟨a,vs,rfl,.inl b.G_,k⟩
noncomputable def uv (m:Ev):hR:=λa s=>(m a s).bind λv b=>need (items v b) λxs=>.ok xs b
def RC (h:PE X e s!"x"):PE X e (tQ T XE (uv m)):=
 PE.imp h λq H Q l=>Ō l λp f s k i j=>step k i j λv n d A x _ o b g c a=>by
  obtain⟨xs,e,a⟩:=a.ö;exact a d A x .refl b (ot e b c)
mutual
def AV.low (b:Nat):AV->Bool
 |.ref i=>decide (i<b)
 |.tup xs=>Ŀ b xs
 |.sq xs=>Ŀ b xs
 |_=>true
def Ŀ (b:Nat):Á AV->Bool
 |[]=>true
 |v::r=>v.low b&&Ŀ b r
end
mutual
theorem VR.cut (e:f.take b=ρ):∀{v:AV}{x:V},v.low b=true->VR T f H v x->VR T ρ H v x
 |.Ĕ,_,_,h=>by unfold VR at *;exact h
 |.bl _,_,_,h=>by unfold VR at *;exact h
 |.int _,_,_,h=>by unfold VR at *;exact h
 |.str _,_,_,h=>by unfold VR at *;exact h
 |.ref i,_,k,h=>by
  obtain⟨a,j,rfl⟩:=h.gi;unfold AV.low at k;exact qc (by rw[<-e,aO (š k)];exact j)
 |.tup xs,_,k,h=>by
  obtain⟨a,g,rfl,c,d⟩:=h.cH;unfold AV.low at k;exact jM c (ı.cut e k d)
 |.sq xs,_,k,h=>by
  obtain⟨a,g,rfl,c,d⟩:=h.iQ;unfold AV.low at k;unfold VR;exact⟨a,g,rfl,c,ı.cut e k d⟩
theorem ı.cut (e:a.take b=ρ):∀{v:Á AV}{x:Á V},Ŀ b v=true->ı T a H v x->ı T ρ H v x
 |[],_,_,h=>by cases h.nil_inv;exact .nil
 |_::_,_,k,h=>by
  obtain⟨x,f,rfl,c,d⟩:=h.cons_inv;unfold Ŀ at k;rw[ē]at k;exact .cons (VR.cut e k.1 c) (ı.cut e k.2 d)
end
mutual
theorem VR.low:∀{v:AV}{x:V},VR T ρ H v x->v.low ρ.length=true
 |.Ĕ,_,_=>by unfold AV.low;rfl
 |.bl _,_,_=>by unfold AV.low;rfl
 |.int _,_,_=>by unfold AV.low;rfl
 |.str _,_,_=>by unfold AV.low;rfl
 |.ref i,_,h=>by
  obtain⟨a,c,rfl⟩:=h.gi;unfold AV.low;exact Ă (Æ.mp c).1
 |.tup xs,_,h=>by
  obtain⟨a,e,rfl,d,b⟩:=h.cH;unfold AV.low;exact ı.low b
 |.sq xs,_,h=>by
  obtain⟨a,e,rfl,d,b⟩:=h.iQ;unfold AV.low;exact ı.low b
theorem ı.low:∀{v:Á AV}{x:Á V},ı T ρ H v x->Ŀ ρ.length v=true
 |[],_,_=>by unfold Ŀ;rfl
 |_::_,_,h=>by
  obtain⟨x,c,rfl,a,b⟩:=h.cons_inv;unfold Ŀ;rw[VR.low a,ı.low b];rfl
end
def AO.low (b:Nat):AO->Bool
 |.lst xs=>Ŀ b xs
 |.dK a=>Ŀ b (a.map (·.2))
 |.dT a=>Ŀ b (a.map (·.2))
 |.ins _ c=>Ŀ b (c.map (·.2))
 |.exc _=>true
 |.tab _ _=>true
 |.Pe a=>Ŀ b (a.map (·.2))
theorem OR.low (h:OR T ρ H o a):o.low ρ.length=true:=by
 cases o with
 |lst xs=>obtain⟨_,_,k⟩:=h;exact k.low
 |dK xs=>obtain⟨_,_,_,k⟩:=h;exact k.low
 |dT xs=>obtain⟨_,_,_,k⟩:=h;exact k.low
 |ins C xs=>obtain⟨_,_,_,_,k⟩:=h;exact k.low
 |exc C=>rfl
 |tab i q=>rfl
 |Pe xs=>obtain⟨_,_,_,_,_,_,_,k⟩:=h;exact k.low
theorem OR.cut (e:j.take b=ρ)(k:o.low b=true)(h:OR T j H o a):OR T ρ H o a:=by
 cases o with
 |lst xs=>obtain⟨g,c,f⟩:=h;exact⟨g,c,ı.cut e k f⟩
 |dK xs=>obtain⟨g,c,q,f⟩:=h;exact⟨g,c,q,ı.cut e k f⟩
 |dT xs=>obtain⟨g,c,q,f⟩:=h;exact⟨g,c,q,ı.cut e k f⟩
 |ins C xs=>obtain⟨l,g,c,q,f⟩:=h;exact⟨l,g,c,q,ı.cut e k f⟩
 |exc C=>exact h
 |tab i q=>exact h
 |Pe xs=>obtain⟨o,n,m,g,c,d,q,f⟩:=h;exact⟨o,n,m,g,c,d,q,ı.cut e k f⟩
def SR.closed (b:SR T ρ s H):s.all (AO.low s.length)=true:=by
 rw[Ā];intro o d;obtain⟨i,c,e⟩:=ļ d;obtain⟨a,_,q⟩:=b.obj i o (by rw[Å c,e]);rw[<-b.len];exact q.low
theorem SR.cut (j:SR T c s' H)(hl:ρ <+:c)(g:ρ.length=b)(k:(s'.take b).all (AO.low b)=true):SR T ρ (s'.take b) H:=by
 have e:c.take b=ρ:=by obtain⟨t,rfl⟩:=hl;rw[<-g,oD];rfl
 have h:b<=s'.length:=by rw[<-g,<-j.len];exact hl.length_le
 refine⟨?_,by rw[Ũ,Nat.min_eq_left h];exact g,λi o d=>?_⟩
 ·rw[<-e];exact j.nd.sublist (uN _ _)
 ·have l:i<b:=by have:=(Æ.mp d).1;rw[Ũ]at this;lia
  have f:=d;rw[aO l]at d;obtain⟨a,m,q⟩:=j.obj i o d;refine⟨a,by rw[<-e,aO l];exact m,q.cut e ?_⟩;exact Ā.mp k o (ý f)
def Up.cut (u:Up ρ H a H'):Up ρ H ρ H':=⟨⟨bc,u.lJ,u.jB⟩,λb o e n=>⟨(u.fr b o e n).1,n⟩,u.live⟩
def C4 (m:Ev):Ev:=λa s=>(m a s).bind λv b=>open Classical in if b.take s.length=s/\v.low s.length=true then .ok v s else .bad
def Vf (h:PE X e s!"x"):PE X e (tE T XE (C4 m)):=
 PE.imp h λw H Q r=>Ō r λf b s d n a=>by
  refine⟨f,b,s,d,n,?_⟩;unfold C4 at a;cases e:m b s with
  |bad=>rw[e]at a;exact a
  |ex c o=>rw[e]at a;exact a
  |ok v o=>
   rw[e]at a;obtain⟨⟨i,j⟩,a⟩:=a.Ř;intro g A x u p q;have l:=d.closed;have k:g.take s.length=f:=by obtain⟨t,rfl⟩:=u.pre;rw[<-d.len,oD];rfl
   refine a f A x u.cut ?_ (VR.cut k j q);have:=p.cut u.pre d.len (by rw[i];exact l);rw[i]at this;exact this
def yi (m:Ev):Ev:=λa s=>(m a s).bind λv b=>if (b.take s.length).all (AO.low s.length)=true/\v.low s.length=true then .ok v (b.take s.length)else .bad
def Rg (h:PE X e s!"x"):PE X e (tE T XE (yi m)):=
 PE.imp h λr H Q q=>Ō q λf b s d l a=>by
  refine⟨f,b,s,d,l,?_⟩;unfold yi at a;cases e:m b s with
  |bad=>rw[e]at a;exact a
  |ex c n=>rw[e]at a;exact a
  |ok v n=>
   rw[e]at a;obtain⟨⟨i,j⟩,a⟩:=a.Ř;intro g A x u o p;have k:g.take s.length=f:=by obtain⟨t,rfl⟩:=u.pre;rw[<-d.len,oD];rfl
   exact a f A x u.cut (o.cut u.pre d.len i) (VR.cut k j p)
noncomputable def gf (m:Ev):hR:=λa s=>(m a s).bind λv b=>match v with
 |.ref k=>need (ù b k) λxs=>if s.length<=k/\(b.take s.length).all (AO.low s.length)=true/\Ŀ s.length xs=true then .ok xs (b.take s.length)else .bad
 |_=>.bad
def Nn (h:PE X e s!"x"):PE X e (tL T XE (gf m)):=
 PE.imp h λY H Q P=>Ō P λl f s i J d=>by
  refine⟨l,f,s,i,J,?_⟩;unfold gf at d;cases e:m f s with
  |bad=>rw[e]at d;exact d
  |ex c M=>rw[e]at d;exact d
  |ok v M=>
   rw[e]at d;cases v with
   |ref k=>
    obtain⟨xs,r,d⟩:=d.ö;obtain⟨⟨U,w,y⟩,d⟩:=d.Ř;intro g A x u n N;obtain⟨a,O,rfl,p,F,L⟩:=n.ef (ċ r) N;have E:g.take s.length=l:=by obtain⟨t,rfl⟩:=u.pre;rw[<-i.len,oD];rfl
    have na:a∉l:=λz=>by
     obtain⟨j,q,D⟩:=ļ z;have B:g[j]?=À a:=zR u.pre (by rw[Å q,D]);have G:=Æ.mp p;have I:=Æ.mp B;have:k=j:=(bx n.nd).mp (G.2.trans I.2.symm);rw[i.len]at q;lia
    refine d l A (.ref a) u.cut (n.cut u.pre i.len w) ⟨a,O,rfl,?_,na,F,ı.cut E y L⟩;cases C:H a with
    |none=>rfl
    |some o=>exact absurd (ý p) (u.fr a o C na).2
   |Ĕ=>exact d.elim
   |bl b=>exact d.elim
   |int b=>exact d.elim
   |str b=>exact d.elim
   |tup b=>exact d.elim
   |sq b=>exact d.elim
def yk (h:Out T XE rB ρ H (.ok b s) Q) (a:SR T ρ s H):Q b H:=h ρ H b .refl a rfl
noncomputable def truth (v:AV)(s:S):Ë Bool:=match v with
 |.Ĕ=>À false
 |.bl b=>À b
 |.int i=>À (i != 0)
 |.str x=>if x.length<=sizeLine then À ((x.length:Int) != 0)else none
 |.tup xs=>À (!xs.isEmpty)
 |.sq xs=>À (!xs.isEmpty)
 |.ref i=>match s[i]? with
  |some (.lst xs)=>À (!xs.isEmpty)
  |some (.dK xs)=>À (!xs.isEmpty)
  |_=>none
def ı.emp (h:ı T ρ H l xs):l.isEmpty=xs.isEmpty:=by
 cases l with
 |nil=>cases h.nil_inv;rfl
 |cons a r=>obtain⟨x,b,rfl,_⟩:=h.cons_inv;rfl
def Hb (h:truth v s=À b)(j:SR T ρ s H)(d:VR T ρ H v x):Qe T.K x H b:=by
 cases v with
 |Ĕ=>cases d.jh;cases h;rfl
 |bl c=>cases d.iz;cases h;rfl
 |int c=>cases d.int_inv;cases h;rfl
 |str c=>
  cases d.str_inv;have h:(if c.length<=sizeLine then À ((c.length:Int) != 0)else none)=À b:=h;split at h
  ·cases h;exact⟨by assumption,rfl⟩
  ·cases h
 |tup c=>
  obtain⟨a,f,rfl,g,k⟩:=d.cH;cases h;exact .inr (.inl ⟨f,g,by rw[k.emp]⟩)
 |sq c=>
  obtain⟨a,f,rfl,g,k⟩:=d.iQ;cases h;exact .inl ⟨f,g.G_,by rw[k.emp]⟩
 |ref i=>
  have h:(match s[i]? with
   |some (.lst xs)=>À (!xs.isEmpty)
   |some (.dK xs)=>À (!xs.isEmpty)
   |_=>none)=À b:=h
  split at h
  ·rename_i xs e;cases h;obtain⟨a,f,rfl,_,g,k⟩:=j.ef e d;exact .inl ⟨f,fQ.of g,by rw[k.emp]⟩
  ·rename_i xs e;cases h;obtain⟨a,f,rfl,_,g,l,k⟩:=j.A9 e d;refine .inr (.inr ⟨f,g,?_⟩);have:=ğ cb l;rw[É,É]at this;cases xs<;>cases f<;>first|rfl|(simp at this)
  ·cases h
def cT (m:Ev):Eb:=λa s=>(m a s).bind λv c=>need (truth v c) λb=>.ok b c
def cB (m:Ev):Eb:=λa s=>(m a s).bind λv c=>match v with
 |.bl b=>.ok b c
 |_=>.bad
def YN (k:X.K=T.K)(h:PE X e s!"x") (f:∀a,FY e X.env a=(do let v <-a;jX e.pos;c8 [v] (truthy v)):=by intro _;rfl):PT X e (kN T XE (cT m)):=
 PT.imp (Ku h f) λu H Q o=>Ō o λt i s n f l=>step n f l λv q p A x _ r d j g c=>by
  obtain⟨b,e,c⟩:=c.ö;exact⟨b,by rw[k];exact Hb e d g,yk c d⟩
def Fy (h:kN T XE (cB m) l H Q):tE T XE m l H λx H'=>∃k,x=.bl k/\Q k H':=by
 obtain⟨p,e,s,j,g,i⟩:=h;refine step j g i λv n d A x _ o c f a b=>?_;have a:VR T d A v x:=a;cases v<;>try exact b.elim
 exact⟨_,a.iz,yk b c⟩
def hE (c:jm X (Ĭ o) (xh T XE op)) (d:PE X a (tE T XE g)) (e:PE X b (tE T XE i)) (f:ay o b=false:=by rfl):PT X (.Compare a [o] [b] pos) (kN T XE (cB (Ç op g i))):=
 PT.imp (Ob c d e f) λj H Q h=>t2 (Fy h)
noncomputable def Yz (op e:AV->AV->S->R AV)(a b c:Ev):Ev:=λd s=>(a d s).bind λv g=>(b d g).bind λw h=>(op v w h).bind λr f=>match r with
 |.bl true=>(c d f).bind λz i=>e w z i
 |.bl false=>.ok (.bl false) f
 |_=>.bad
def qy (a b:Eb):Eb:=λd s=>(a d s).bind λc e=>if c=true then b d e else .ok false e
def Aq (a b:Eb):Eb:=λd s=>(a d s).bind λc e=>if c=true then .ok true e else b d e
def qz (a:Eb):Eb:=λb s=>(a b s).bind λc d=>.ok (!c) d
def Pr (c:Eb)(a b:Ev):Ev:=λd s=>(c d s).bind λk e=>if k=true then a d e else b d e
def pw_and1' (h:PT X a (kN T XE m)):PW X (.BoolOp .And [a] pos) (kN T XE m):=pw_and1 h
def pw_or1' (h:PT X a (kN T XE m)):PW X (.BoolOp .Or [a] pos) (kN T XE m):=pw_or1 h
def pw_and' {rest:Á Expr}{m r:Eb}(h:PT X a (kN T XE m)) (k:PW X (.BoolOp .And (b::rest) pos) (kN T XE r)):PW X (.BoolOp .And (a::b::rest) pos) (kN T XE (qy m r)):=
 PW.imp (pw_and h k) λu H Q p=>Ō p λt e s n j l=>step n j l λv o i A x _ q d f g c=>by
  cases (show v=x from g);cases v with
  |true=>exact⟨i,e,o,d,f,c⟩
  |false=>exact yk c d
def pw_or' {rest:Á Expr}{m r:Eb}(h:PT X a (kN T XE m)) (k:PW X (.BoolOp .Or (b::rest) pos) (kN T XE r)):PW X (.BoolOp .Or (a::b::rest) pos) (kN T XE (Aq m r)):=
 PW.imp (pw_or h k) λu H Q p=>Ō p λt e s n j l=>step n j l λv o i A x _ q d f g c=>by
  cases (show v=x from g);cases v with
  |true=>exact yk c d
  |false=>exact⟨i,e,o,d,f,c⟩
def Oe (h:PT X a (kN T XE m)):PT X (.UnaryOp .Not a pos) (kN T XE (qz m)):=
 PT.imp (Sv h) λq H Q k=>Ō k λp e s j g i=>step j g i λv n l A x _ o c f d b=>by
  cases (show v=x from d);exact yk b c
def Vg (n:PT X c (kN T XE i)) (l:PE X a (tE T XE r)) (m:PE X b (tE T XE t)):PE X (.IfExp c a b pos) (tE T XE (Pr i r t)):=
 PE.imp (Kb n l m) λz H Q u=>Ō u λy d s q o p=>step q o p λv k h A x _ w g e j f=>by
  cases (show v=x from j);cases v with
  |true=>exact⟨h,d,k,g,e,f⟩
  |false=>exact⟨h,d,k,g,e,f⟩
def GH (a b:Ev):Ev:=λc s=>(a c s).bind λv d=>match v with
 |.bl true=>b c d
 |.bl false=>.ok (.bl false) d
 |_=>.bad
def Xb (a b:Ev):Ev:=λc s=>(a c s).bind λv d=>match v with
 |.bl true=>.ok (.bl true) d
 |.bl false=>b c d
 |_=>.bad
def J0:AV->S->R AV
 |.bl b,s=>.ok (.bl (!b)) s
 |_,_=>.bad
def Q9 {rest:Á Expr}{m r:Ev}(h:PE X a s!"x") (k:PE X (.BoolOp .And (b::rest) pos) (tE T XE r)):PE X (.BoolOp .And (a::b::rest) pos) (tE T XE (GH m r)):=
 PE.imp (R7 h k) λu H Q p=>Ō p λt g s n j l=>step n j l λv o f A x _ q e i d c=>by
  have d:VR T f A v x:=d;cases v<;>try exact c.elim
  rename_i b _ _;refine⟨b,d.iz,?_⟩;cases b with
  |true=>exact⟨f,g,o,e,i,c⟩
  |false=>exact c.Ĺ e dt
def Vi {rest:Á Expr}{m r:Ev}(h:PE X a s!"x") (k:PE X (.BoolOp .Or (b::rest) pos) (tE T XE r)):PE X (.BoolOp .Or (a::b::rest) pos) (tE T XE (Xb m r)):=
 PE.imp (VJ h k) λu H Q p=>Ō p λt g s n j l=>step n j l λv o f A x _ q e i d c=>by
  have d:VR T f A v x:=d;cases v<;>try exact c.elim
  rename_i b _ _;refine⟨b,d.iz,?_⟩;cases b with
  |true=>exact c.Ĺ e dt
  |false=>exact⟨f,g,o,e,i,c⟩
def Rr (h:PE X a s!"x"):PE X (.UnaryOp .Not a pos) (tE T XE (bg J0 m)):=
 PE.imp (Se h) λq H Q l=>Ō l λp f s k i j=>step k i j λv n e A x _ o d g b c=>by
  have b:VR T e A v x:=b;cases v<;>try exact c.elim
  exact⟨_,b.iz,c.Ĺ d dt⟩
theorem ı.mG (h:ı T ρ H l xs)(e:mG l i=À v):∃x,L2.mG xs i=À x/\VR T ρ H v x:=by
 unfold L2.mG at *
 rw[<-h.length];cases a:EX l.length i with
 |none=>rw[a]at e;cases e
 |some j=>rw[a]at e;exact h.get e
def ì:AV->AV->S->R AV
 |.tup xs,.int i,s=>need (mG xs i) λv=>.ok v s
 |.sq xs,.int i,s=>need (mG xs i) λv=>.ok v s
 |.ref k,.int i,s=>need (ù s k) λxs=>need (mG xs i) λv=>.ok v s
 |.str z,.int i,s=>if z.length<=sizeLine then need (mG z.cps.toList i) λc=>.ok (.str ⟨#[c]⟩) s else .bad
 |_,_,_=>.bad
def oIx (B:X.K=T.K):TL X (xh T XE ì):=by
 rintro f d h s A H x y v u Q I q r ⟨D,a,b,st,m,t,w,g⟩ o;cases a<;>cases b<;>try exact g.elim
 ·obtain⟨hl,g⟩:=g.Ř;obtain⟨c,e,g⟩:=g.ö;exact QS f d h s A H x y v u Q I q r ⟨_,_,c,t.str_inv,w.int_inv,hl,e,g.Ĺ m iS⟩ o
 ·obtain⟨c,e,g⟩:=g.ö;obtain⟨p,n,rfl,j,k⟩:=t.cH;obtain⟨z,i,l⟩:=k.mG e;exact QT f d h s A H _ y v u Q I q r ⟨p,n,_,z,rfl,w.int_inv,B▸j,i,g.Ĺ m l⟩ o
 ·obtain⟨xs,C,g⟩:=g.ö;obtain⟨c,e,g⟩:=g.ö;obtain⟨p,n,rfl,_,j,k⟩:=m.ef (ċ C) t;obtain⟨z,i,l⟩:=k.mG e;exact EZ f d h s A H _ y v u Q I q r ⟨p,n,_,z,rfl,w.int_inv,fQ.of j,i,g.Ĺ m l⟩ o
 ·obtain⟨c,e,g⟩:=g.ö;obtain⟨p,n,rfl,j,k⟩:=t.iQ;obtain⟨z,i,l⟩:=k.mG e;exact EZ f d h s A H _ y v u Q I q r ⟨p,n,_,z,rfl,w.int_inv,B▸j.G_,i,g.Ĺ m l⟩ o
abbrev Eo:=En->S->R (Ë Int)
def rO:Rl (Ë Int) (Ë Int):=⟨λ_ _ _ a b=>a=b,λ_ h=>h⟩
abbrev tO (T:Tx)(XE:iW)(m:Eo):TO:=tG T XE rO m
def oN:Eo:=λ_ s=>.ok none s
def oS (m:Ev):Eo:=λa s=>(m a s).bind λv b=>match v with
 |.int i=>.ok (À i) b
 |_=>.bad
def PO.imp (h:PO X e t)(k:∀b H Q,t' b H Q->t b H Q):PO X e t':=λa s b H Q I c=>h a s b H Q I (k b H Q c)
def Kl:PO X none (tO T XE oN):=PO.imp N5 λg H Q d=>Ō d λe a s c f b=>b e H none .refl c rfl
def Km (h:PE X e s!"x"):PO X (À e) (tO T XE (oS m)):=
 PO.imp (N6 h) λq H Q l=>Ō l λp f s k i j=>step k i j λv n c A x _ o d g a b=>by
  have a:VR T c A v x:=a;cases v<;>try exact b.elim
  exact⟨_,a.int_inv,b c A (À _) .refl d rfl⟩
noncomputable def fI {α:Type}(xs:Á α)(lo a:Ë Int):Á α:=(xs.drop (HT.dg xs.length 0 lo)).take (HT.dg xs.length xs.length a-HT.dg xs.length 0 lo)
theorem ı.fI (h:ı T ρ H l xs)(lo a:Ë Int):ı T ρ H (fI l lo a) (vt xs lo a):=by
 unfold Mm.fI vt;rw[h.length];exact(h.drop _).take _
def zN (v:AV)(lo a:Ë Int)(s:S):R AV:=match v with
 |.tup xs=>.ok (.tup (fI xs lo a)) s
 |.ref i=>need (ù s i) λxs=>.ok s!"h" (s++[.lst (fI xs lo a)])
 |.sq xs=>.ok s!"h" (s++[.lst (fI xs lo a)])
 |_=>.bad
def rSM (T:Tx)(XE:iW):V->Ë Int->Ë Int->Hp->VK->Prop:=λx lo b H Q=>∃a v s,SR T a s H/\VR T a H v x/\Out T XE (rV T) a H (zN v lo b s) Q
def Mh (h:HT.dg xs.length 0 lo=0/\HT.dg xs.length xs.length a=xs.length):vt xs lo a=xs:=by
 unfold vt;rw[h.1,h.2,XA,Ts,List.take_length]
def oSl (w:X.K=T.K):Ue X (rSM T XE):=by
 rintro b s u H x v r t lo d n Q I m i j l ⟨z,a,st,f,o,e⟩;cases a<;>try exact e.elim
 ·obtain⟨p,h,rfl,g,k⟩:=o.cH;refine Oq b s u H _ v r t lo d n Q I m i j l ⟨p,h,rfl,w▸g,λhw=>?_,λ_ q c=>e.tup f c (k.fI lo d)⟩;have:=k.fI lo d;rw[Mh hw]at this;exact e.Ĺ f (jM g this)
 ·obtain⟨xs,y,e⟩:=e.ö;obtain⟨p,h,rfl,_,g,k⟩:=f.ef (ċ y) o;exact Fv b s u H _ v r t lo d n Q I m i j l ⟨p,h,rfl,fQ.of g,λq c=>e.alloc f c (OR.lst ă (ı.gr ((f.eg c).add c).toGr (k.fI lo d)))⟩
 ·obtain⟨p,h,rfl,g,k⟩:=o.iQ;exact Fv b s u H _ v r t lo d n Q I m i j l ⟨p,h,rfl,w▸g.G_,λq c=>e.alloc f c (OR.lst ă (ı.gr ((f.eg c).add c).toGr (k.fI lo d)))⟩
def E7 (m:Ev)(lo b:Eo):Ev:=λa s=>(m a s).bind λv c=>(lo a c).bind λl d=>(b a d).bind λh e=>zN v l h e
def Vj (w:X.K=T.K)(c:PE X e s!"x") (hl:PO X lo (tO T XE E)) (y:PO X z (tO T XE D)):PE X (.Subscript e (.Slice lo z none U) pos) (tE T XE (E7 m E D)):=
 PE.imp (Ke (oSl (XE:=XE) w) c hl y) λσ H Q J=>Ō J λρ r s B c A=>
  step B c A λv Y L N x _ u1 i a n d=>step i a d λl Z M O C _ G j b p f=>step j b f λh F o P u _ I k t q g=>by
   cases (show l=C from p);cases (show h=u from q);exact⟨o,v,F,k,VR.up (G.trans I) n,g⟩
end
abbrev Ms:=En->S->RS
def R.aQ {α:Type}:R α->(α->S->RS)->RS
 |.ok a s,f=>f a s
 |.ex c s,_=>.ex c s
 |.bad,_=>.bad
@[simp] theorem eY (a:α) (s:S) (f:α->S->RS):(R.ok a s).aQ f=f a s:=rfl
def fP (T:Tx)(XE:iW)(ρ:Á Addr)(H:Hp):RS->Ends->Prop
 |.nx e s,D=>∀a A b,Up ρ H a A->SR T a s A->ER T a A e b->D.nx b A
 |.rt v s,D=>∀a A x,Up ρ H a A->SR T a s A->VR T a A v x->D.rt x A
 |.bk e s,D=>∀a A b,Up ρ H a A->SR T a s A->ER T a A e b->D.bk b A
 |.ct e s,D=>∀a A b,Up ρ H a A->SR T a s A->ER T a A e b->D.ct b A
 |.ex c s,_=>∀a A,Up ρ H a A->SR T a s A->XE c a s A
 |.bad,_=>False
def fP.up (u:Up ρ H g H')(h:fP T XE ρ H r D):fP T XE g H' r D:=by
 cases r with
 |nx e s=>exact λa A x d b f=>h a A x (u.trans d) b f
 |rt e s=>exact λa A x d b f=>h a A x (u.trans d) b f
 |bk e s=>exact λa A x d b f=>h a A x (u.trans d) b f
 |ct e s=>exact λa A x d b f=>h a A x (u.trans d) b f
 |ex c s=>exact λa A d b=>h a A (u.trans d) b
 |bad=>exact h
def tS (T:Tx)(XE:iW)(m:Ms):TS:=λD c H=>∃b a s,SR T b s H/\ER T b H a c/\fP T XE b H (m a s) D
section
variable {T:Tx}{XE:iW}{X:Cx}{pos:kR}
def dm {f:Rl α n} 
  (i:SR T ρ s H) (d:ER T ρ H env g) (b:fP T XE ρ H ((m env s).aQ k) D)
  (h:∀v s1 a A x,m env s=.ok v s1->Up ρ H a A->SR T a s1 A->ER T a A env g->f.r H a A v x->fP T XE a A (k v s1) D->F x A):tG T XE f m g H F:=by
 refine⟨ρ,env,s,i,d,?_⟩;cases e:m env s with
 |ok v s1=>
  rw[e]at b;exact λa A x u j l=>h v s1 a A x e u j (d.up u) l (fP.up u b)
 |ex c s1=>rw[e]at b;exact b
 |bad=>rw[e]at b;exact b
def ĉ:Ms:=λa s=>.nx a s
def lI {m:Ms}{a:St}{H:Hp}{D:Ends}{P:Prop}(h:tS T XE m D a H)(k:∀ρ env s,SR T ρ s H->ER T ρ H env a->fP T XE ρ H (m env s) D->P):P:=by
 obtain⟨ρ,env,s,d,b,c⟩:=h;exact k ρ env s d b c
def ã (a b:Ms):Ms:=λc s=>match a c s with
 |.nx e d=>b e d
 |r=>r
def Nv:nB X [] (tS T XE ĉ):=nB.imp N_ λD g H e=>lI e λf a s d b c=>c f H g .refl d b
def JI {st:Stmt}{rest:Á Stmt}{a b:Ms}(j:PS X st (tS T XE a)) (k:nB X rest (tS T XE b)):nB X (st::rest) (tS T XE (ã a b)):=
 nB.imp (Kt j k) λD q H o=>lI o λp d s m l c=>by
  refine⟨p,d,s,m,l,?_⟩;unfold ã at c;cases e:a d s with
  |nx h f=>rw[e]at c;exact λg A x u n i=>⟨g,h,f,n,i,fP.up u c⟩
  |rt v f=>rw[e]at c;exact c
  |bk v f=>rw[e]at c;exact c
  |ct v f=>rw[e]at c;exact c
  |ex v f=>rw[e]at c;exact c
  |bad=>rw[e]at c;exact c
def Nw (b:PS X st (tS T XE a)):nB X [st] (tS T XE a):=Oa b
def į (m:Ev):Ms:=λa s=>(m a s).aQ λ_ b=>.nx a b
def Nr (h:PE X e s!"x") (c:eS e none pos.line X.env=pure false:=by rfl):PS X (.Expr e pos) (tS T XE (į m)):=
 PS.imp (N8 h c) λD n H l=>lI l λq g s c i j=>dm c i j λv o f A x _ p d a k b=>b f A n .refl d a
def Č (m:Ev):Ms:=λa s=>(m a s).aQ λv b=>.rt v b
def RI (h:PE X e s!"x"):PS X (.Return (À e) pos) (tS T XE (Č m)):=
 PS.imp (Sr h) λD q H l=>lI l λp f s k i j=>dm k i j λv n d A x _ o b g c a=>a d A x .refl b c
def a5 (c:Eb)(a b:Ms):Ms:=λd s=>(c d s).aQ λk e=>if k=true then a d e else b d e
def Vp (n:PT X c (kN T XE i)) (l:nB X a (tS T XE r)) (m:nB X b (tS T XE t)):PS X (.If c a b pos) (tS T XE (a5 i r t)):=
 PS.imp (VN n l m) λD z H u=>lI u λy d s q o p=>dm q o p λv k h A x _ w g e j f=>by
  cases (show v=x from j);cases v with
  |true=>exact⟨h,d,k,g,e,f⟩
  |false=>exact⟨h,d,k,g,e,f⟩
def ņ (i:Nat)(m:Ev):Ms:=λa s=>(m a s).aQ λv b=>.nx (a.set i (À v)) b
def HS (h:tS T XE (ņ i m) D l H):Oz s!"x" (EM i) D l H:=by
 obtain⟨p,f,s,k,g,j⟩:=h;exact dm k g j λv n e A x _ o c a d b=>b e A _ .refl c (a.set d)
def JH (b:X.N.Nodup)(c:PE X e s!"x") (f:X.N[i]?=À x:=by rfl)(j:Loc X.env.scope x:=by first|exact Cf rfl|exact Hr rfl)(g:eS e (À (.Name x a)) pos.line X.env=pure false:=by rfl) (d:X.fn x=true∨X.env.scope.names.lookup x=À .local:=by first|exact .inl rfl|exact .inr rfl|assumption) :
  PS X (.Assign [.Name x a] e pos) (tS T XE (ņ i m)):=PS.imp (Ss b f j c g d) λD k H h=>HS h
abbrev Mt:=AV->En->S->RS
abbrev P':=Á AV->En->S->RS
def MA (Q:St->Hp->Prop):Ends:={nx:=Q,rt:=λ_ _=>False}
def tT (T:Tx)(XE:iW)(m:Mt):TG:=λx c H Q=>∃b a s v,SR T b s H/\ER T b H a c/\VR T b H v x/\fP T XE b H (m v a s) (MA Q)
def Xi (T:Tx)(XE:iW)(m:P'):TN:=λxs d H Q=>∃b a s c,SR T b s H/\ER T b H a d/\ı T b H c xs/\fP T XE b H (m c a s) (MA Q)
def gN (i:Nat):Mt:=λv a s=>.nx (a.set i (À v)) s
def ś:P':=λb a s=>match b with
 |[]=>.nx a s
 |_=>.bad
def ß (a:Mt)(r:P'):P':=λd b s=>match d with
 |v::w=>match a v b s with
  |.nx e c=>r w e c
  |q=>q
 |_=>.bad
def gT (n:Nat)(r:P'):Mt:=λv a s=>match v with
 |.tup b=>if b.length=n then r b a s else .bad
 |_=>.bad
def Ng (b:X.N.Nodup)(e:X.N[i]?=À x:=by rfl)(h:Loc X.env.scope x:=by first|exact Cf rfl|exact Hr rfl)(d:X.fn x=true∨X.env.scope.names.lookup x=À .local:=by first|exact .inl rfl|exact .inr rfl|assumption):PG X (.Name x pos) (tT T XE (gN i)):=
 PG.imp (NU b e h d) λx l H Q ⟨k,a,s,v,g,c,j,f⟩=>f k H _ .refl g (c.set j)
def Nj:Em X [] (Xi T XE ś):=Em.imp NV λxs i H Q ⟨h,c,s,g,e,d,f,b⟩=>by
 cases g with
 |nil=>exact⟨f.nil_inv,b h H _ .refl e d⟩
 |cons a r=>exact b.elim
def Jx (l:PG X e (tT T XE a)) (m:Em X i (Xi T XE r)) (j:(dG (e::i) X.env).map (·.2)=k9 e X.env::(dG i X.env).map (·.2):=by rfl):Em X (e::i) (Xi T XE (ß a r)):=
 Em.imp (Kh l m j) λxs B H Q ⟨z,d,s,t,j,n,q,b⟩=>by
  cases t with
  |nil=>exact b.elim
  |cons v w=>
   obtain⟨x,y,rfl,o,p⟩:=q.cons_inv;refine⟨x,y,rfl,z,d,s,v,j,n,o,?_⟩;unfold ß at b;cases e:a v d s with
   |nx k g=>simp only[e]at b;exact λc A x u h f=>⟨c,k,g,w,h,f,p.up u,fP.up u b⟩
   |rt v g=>simp only[e]at b;exact b
   |bk v g=>simp only[e]at b;exact λc A x u h f=>b c A x u h f
   |ct v g=>simp only[e]at b;exact λc A x u h f=>b c A x u h f
   |ex v g=>simp only[e]at b;exact b
   |bad=>simp only[e]at b;exact b
def Ry (l:X.K=T.K)(m:X.calm=true)(h:Em X e (Xi T XE r)) (p:(dG e X.env).length=n:=by rfl) (f:(dG e X.env).findIdx? (·.1)=none:=by rfl):PG X (.Tuple e k pos) (tT T XE (gT n r)):=
 PG.imp (Sh m h p f) λx w H Q ⟨i,d,s,v,q,o,t,c⟩=>by
  obtain⟨b,rfl⟩:∃b,v=.tup b:=by
   cases v with
   |tup b=>exact⟨b,rfl⟩
   |_=>exact c.elim
  obtain⟨a,u,rfl,j,g⟩:=t.cH;have c:fP T XE i H (if b.length=n then r b d s else .bad) (MA Q):=c;by_cases hl:b.length=n
  ·rw[Ò hl]at c;exact⟨a,u,rfl,l▸j,by rw[<-g.length];exact hl,i,d,s,b,q,o,g,c⟩
  ·rw[Ø hl]at c;exact c.elim
def oX (m:Ev)(g:Mt):Ms:=λa s=>(m a s).aQ λv b=>g v a b
def nA (g:Mt):Prop:=∀v a s,(∃e b,g v a s=.nx e b)∨(∃c b,g v a s=.ex c b)∨g v a s=.bad
def uS (g:P'):Prop:=∀v a s,(∃e b,g v a s=.nx e b)∨(∃c b,g v a s=.ex c b)∨g v a s=.bad
def NG:nA (gN i):=λv a s=>.inl ⟨_,_,rfl⟩
def RU:uS ś:=λv b s=>by
 cases v with
 |nil=>exact .inl ⟨_,_,rfl⟩
 |cons a r=>exact .inr (.inr rfl)
def NF (h:nA a)(k:uS r):uS (ß a r):=λv b s=>by
 cases v with
 |nil=>exact .inr (.inr rfl)
 |cons x w=>
  rcases h x b s with⟨e,c,q⟩|⟨e,c,q⟩|q
  ·have:ß a r (x::w) b s=r w e c:=by unfold ß;simp only[q]
   rw[this];exact k w e c
  ·have:ß a r (x::w) b s=.ex e c:=by unfold ß;simp only[q]
   exact .inr (.inl ⟨_,_,this⟩)
  ·have:ß a r (x::w) b s=.bad:=by unfold ß;simp only[q]
   exact .inr (.inr this)
def RV (k:uS r):nA (gT n r):=λv a s=>by
 cases v<;>try exact .inr (.inr rfl)
 rename_i b;by_cases hl:b.length=n
 ·have:gT n r (.tup b) a s=r b a s:=Ò hl;rw[this];exact k b a s
 ·have:gT n r (.tup b) a s=.bad:=Ø hl;exact .inr (.inr this)
def nA.out (k:nA g)(h:fP T XE ρ H (g v env s) D):fP T XE ρ H (g v env s) (MA D.nx):=by
 rcases k v env s with⟨e,a,q⟩|⟨e,a,q⟩|q<;>rw[q]at h⊢<;>exact h
def RD (d:PE X e s!"x") (o:PG X a (tT T XE g)) (h:nA g)(i:jZ [a] e pos.line X.env=pure false:=by rfl)(hw:jY [a] e X.env=pure none:=by rfl)
  (n:(dG [a] X.env).map (·.2)=[k9 a X.env]:=by rfl):PS X (.Assign [a] e pos) (tS T XE (oX m g)):=
 PS.imp (Sl d o i hw n) λD w H r=>lI r λu b s i d p=>dm i d p λv q l A x _ t j c k f=>⟨l,b,q,v,j,c,k,h.out f⟩
def jV (i j:Nat)(r:hR):Ms:=λa s=>(r a s).aQ λc b=>match c with
 |[v,w]=>.nx ((a.set i (À v)).set j (À w)) b
 |_=>.bad
def RH (u:X.calm=true)(q:X.N.Nodup)(t:PA X [a,b] (tP T XE r)) (B:X.N[i]?=À x:=by rfl)(C:X.N[j]?=À y:=by rfl)(h:i≠j:=by decide)
  (F:X.env.scope.names.lookup x=À .local:=by rfl) (G:X.env.scope.names.lookup y=À .local:=by rfl)
  (hw:jY [.Tuple [.Name x n,.Name y o] m pt] (.Tuple [a,b] k2 e) X.env=pure (À [x,y]):=by rfl)
  (k:jZ [.Tuple [.Name x n,.Name y o] m pt] (.Tuple [a,b] k2 e) pos.line X.env=pure false:=by rfl) :
  PS X (.Assign [.Tuple [.Name x n,.Name y o] m pt] (.Tuple [a,b] k2 e) pos) (tS T XE (jV i j r)):=
 PS.imp (Sq u q B C h F G t hw k) λD Y H O=>lI O λU p s k z E=>dm k z E λv P f A x _ Q l g d c=>by
  have d:ı T f A v x:=d
  match v,d,c with
  |[v,w],d,c=>
   obtain⟨x1,M,rfl,I,k2⟩:=d.cons_inv;obtain⟨x2,M,rfl,L,J⟩:=k2.cons_inv;cases J.nil_inv;exact⟨x1,x2,rfl,c f A _ .refl l ((g.set I).set L)⟩
  |[],_,c=>exact c.elim
  |[_],_,c=>exact c.elim
  |_::_::_::_,_,c=>exact c.elim
def rIp (T:Tx)(XE:iW)(op:AV->AV->S->R AV):W0:=λx y H Q=>∃a v w s,SR T a s H/\VR T a H v x/\VR T a H w y/\Out T XE (rV T) a H (op v w s) Q
noncomputable def Oj (i:Nat)(op:AV->AV->S->R AV)(m:Ev):Ms:=λa s=>match a[i]? with
 |some (À v)=>(m a s).aQ λw b=>(op v w b).aQ λz c=>.nx (a.set i (À z)) c
 |_=>.bad
def RE (E:X.N.Nodup)(b:WZ X o (rIp T XE op)) (d:PE X e s!"x") (G:X.N[i]?=À x:=by rfl)(J:Loc X.env.scope x:=by first|exact Cf rfl|exact Hr rfl)(F:X.fn x=true∨X.env.scope.names.lookup x=À .local:=by first|exact .inl rfl|exact .inr rfl|assumption) :
  PS X (.AugAssign (.Name x q) o e pos) (tS T XE (Oj i op m)):=
 PS.imp (Sm E G J d b F) λD U H O=>lI O λQ B s I d b=>by
  unfold Oj at b;split at b
  ·rename_i v C;obtain⟨x,u,k⟩:=d.get i v C;refine⟨x,u,dm I d b λw r n P y _ M g f j a=>⟨n,v,w,r,g,k.up M,j,?_⟩⟩;cases e:op v w r with
   |bad=>rw[e]at a;exact a
   |ex c L=>rw[e]at a;exact a
   |ok z L=>
    rw[e]at a;exact λp A x2 t h l=>a p A _ t h ((f.up t).set l)
  ·exact b.elim
def DH:AV->AV->S->R AV
 |.int i,.int j,s=>.ok (.int (i+j)) s
 |_,_,_=>.bad
def Yp:WZ X .Add (rIp T XE DH):=by
 rintro c s j H x y v u Q I e f ⟨k,a,b,st,g,h,i,d⟩;cases a<;>cases b<;>try exact d.elim
 exact QP c s j H x y v u Q I e f ⟨_,_,h.int_inv,i.int_inv,d.Ĺ g a9⟩
def Hf (c:Eb)(b:Ms):Nat->En->S->RS
 |0,_,_=>.bad
 |n+1,a,s=>(c a s).aQ λk f=>if k=true then (match b a f with
   |.nx e d=>Hf c b n e d
   |.ct e d=>Hf c b n e d
   |.bk e d=>.nx e d
   |r=>r)else .nx a f
def KD (f:En->S->Nat)(c:Eb)(b:Ms):Ms:=λa s=>Hf c b (f a s) a s
def RL (f:En->S->Nat)(N:AF s!"b" X.A X.env X.xe) (M:PT X c (kN T XE i)) (L:nB X body (tS T XE y)):PS X (.While c body [] pos) (tS T XE (KD f i y)):=
 PS.imp (Ks N M L) λD z H O=>lI O λg b s F E m=>by
  refine⟨λn z H=>∃g b s,SR T g s H/\ER T g H b z/\fP T XE g H (Hf i y n b s) D,⟨f b s,g,b,s,F,E,m⟩,?_⟩;rintro n z H ⟨g,b,s,F,E,m⟩;cases n with
  |zero=>exact m.elim
  |succ n=>
   unfold Hf at m;refine dm F E m λv I q J x _ P p l G a=>?_;cases (show v=x from G);cases v with
   |false=>exact a q J z .refl p l
   |true=>
    refine⟨λr B=>∃g b s,SR T g s B/\ER T g B b r/\fP T XE g B (Hf i y n b s) D,λr B h=>⟨n,cM n,h⟩,q,b,I,p,l,?_⟩;simp only[Ò]at a;cases e:y b I with
    |nx t j=>simp only[e]at a;exact λd C x u o k=>⟨d,t,j,o,k,fP.up u a⟩
    |ct t j=>simp only[e]at a;exact λd C x u o k=>⟨d,t,j,o,k,fP.up u a⟩
    |bk t j=>simp only[e]at a;exact λd C x u o k=>a d C x u o k
    |rt v j=>simp only[e]at a;exact a
    |ex v j=>simp only[e]at a;exact a
    |bad=>simp only[e]at a;exact a
end
end Mm
namespace L2
open PySem PySem.Spec PyProof.Rows
def Si (hl:PE X l tl):PI X t l (λj H R=>tl j H λx B=>∃a,x=.ref a/\(((∃xs,fQ X.K B a xs)/\R (TF X.K a) B)∨((∃xs,gz X.K B a xs)/\R (O2 X.K a) B))):=by
 intro f s j H R I h;refine ak (hl f s j H _ I h) λv c r=>iX r λx B A n m=>?_;obtain⟨a,e,q⟩:=m;subst e;cases n;rcases q with⟨⟨xs,i⟩,q⟩|⟨⟨xs,i⟩,q⟩
 ·obtain⟨d,rv,p,k⟩:=A.list i;refine yX p.isList ?_;refine⟨c.heap.objs.size,[c.heap.objs.size],_,_,B,rfl,A.kept (t':=c.toks) λb o e=>Ä _ e,yF a _,⟨_,Ö _ rfl,rfl,rfl⟩,λb g=>?_,q⟩;have e:b=c.heap.objs.size:=by simpa using g
  subst e;exact A.Bp (Í _) (A.ţ.fresh (Í _))
 ·obtain⟨d,rv,p,k⟩:=A.tuple i;refine xp (show c.heap.IsTuple a d.toArray from p) ?_;refine⟨c.heap.objs.size,[c.heap.objs.size],_,_,B,rfl,A.kept (t':=c.toks) λb o e=>Ä _ e,Ea a _,⟨_,Ö _ rfl,rfl,rfl⟩,λb g=>?_,q⟩;have e:b=c.heap.objs.size:=by simpa using g
  subst e;exact A.Bp (Í _) (A.ţ.fresh (Í _))
end L2
namespace Mm
open PySem L2
def Up.mod (u:Up ρ H a H')(h:H D=none)(n:D∉a):Up ρ H a (upd H' D o):=
 ⟨⟨u.pre,λb xs e=>by rw[ä (Ŋ e h)];exact u.lJ b xs e,λb p v e=>by rw[ä (Ŋ e h)];exact u.jB b p v e⟩,λb p e k=>⟨by rw[ä (Ŋ e h)];exact(u.fr b p e k).1,(u.fr b p e k).2⟩,λb e=>by
  by_cases c:b=D
  ·rw[c];exact h
  ·rw[ä c]at e;exact u.live b e⟩
def Yf (h:H D=À (.lst xs)):Gr ρ H ρ (upd H D o):=
 ⟨bc,λb a e=>by rw[ä (vX e h (by intro z;cases z))];exact e,λb p v e=>by rw[ä (vX e h (by intro z;cases z))];exact e⟩
theorem ER.gr (h:ER T ρ H env c)(u:Gr ρ H a H'):ER T a H' env c:=
 ⟨h.len,λi v e=>let ⟨x,b,q⟩:=h.get i v e;⟨x,b,q.gr u⟩⟩
abbrev Gd:=Á (Nat×Á AV)
def r3 (a:Gd)(s:S):Prop:=∀p∈a,ù s p.1=À p.2
def EN (i:Nat)(xs:Á AV)(s:S):r3 [(i,xs)] s ↔ ù s i=À xs:=by simp[r3]
structure Walks (T:Tx)(ρ:Á Addr)(H:Hp)(xs:Á AV)(gs:Gd)(J:It):Prop where
 turn:∀qf s' H',Up ρ H qf H'->SR T qf s' H'->r3 gs s'->(∀j v,xs[j]?=À v->J.go j H'/\∀x H'',J.Lm j H' x H''->Up qf H' qf H''/\SR T qf s' H''/\VR T qf H'' v x)/\J.stop xs.length H'
abbrev Src:=En->S->R (Á AV×Gd)
def rW (T:Tx):Rl (Á AV×Gd) It:=⟨λ_ a H p J=>Walks T a H p.1 p.2 J,λ_ h=>h⟩
abbrev tW (T:Tx)(XE:iW)(m:Src):TI:=tG T XE (rW T) m
section
variable {T:Tx}{XE:iW}{X:Cx}{pos:kR}
def sV (h:H' a=À (.lst vs)∨LK K H' a vs) (l:SR T b s' H')(k:ı T b H' xs vs) :
  (∀j v,xs[j]?=À v->(TF K a).go j H'/\∀x A,(TF K a).Lm j H' x A->Up b H' b A/\SR T b s' A/\VR T b A v x)/\(TF K a).stop xs.length H':=by
 have c:fQ K H' a vs:=by rcases h with h|h;exact fQ.of h;exact h.G_
 refine⟨λj v e=>?_,⟨vs,c,by rw[k.length];exact Í _⟩⟩;obtain⟨x,d,i⟩:=k.get e;refine⟨⟨vs,x,c,d⟩,λy A ⟨f,g⟩=>?_⟩;subst f;have:=g vs c;rw[d]at this;cases this;exact⟨.refl,l,i⟩
def K_ (c:gz K H' a vs)(i:SR T b s' H')(k:ı T b H' xs vs) :
  (∀j v,xs[j]?=À v->(O2 K a).go j H'/\∀x A,(O2 K a).Lm j H' x A->Up b H' b A/\SR T b s' A/\VR T b A v x)/\(O2 K a).stop xs.length H':=by
 refine⟨λj v e=>?_,⟨vs,c,by rw[k.length];exact Í _⟩⟩;obtain⟨x,d,h⟩:=k.get e;refine⟨⟨vs,x,c,d⟩,λy A ⟨f,g⟩=>?_⟩;subst f;have:=g vs c;rw[d]at this;cases this;exact⟨.refl,i,h⟩
def n8 (r:hR):Src:=λa s=>(r a s).bind λxs b=>.ok (xs,[]) b
def YD (n:X.K=T.K)(h:PE X e (tL T XE r)):PI X D e (tW T XE (n8 r)):=
 PI.imp (NY h) λE H R w=>Ō w λy d s p o b=>by
  refine⟨y,d,s,p,o,?_⟩;unfold n8 at b;cases e:r d s with
  |bad=>rw[e]at b;exact b
  |ex c q=>rw[e]at b;exact b
  |ok xs q=>
   rw[e]at b;rintro g A x u t ⟨a,v,l,C,m,i,k⟩;subst l;refine⟨a,rfl,⟨v,fQ.of i⟩,b g A _ u t ⟨λz s' B j f _=>?_⟩⟩;rw[n];exact sV (.inl (j.fr a _ i m).1) f (k.up j)
noncomputable def Ŧ (m:Ev):Src:=λb s=>(m b s).bind λv a=>match v with
 |.tup xs=>.ok (xs,[]) a
 |.sq xs=>.ok (xs,[]) a
 |.ref i=>need (ù a i) λxs=>.ok (xs,[(i,xs)]) a
 |_=>.bad
def YE (r:X.K=T.K)(h:PE X e s!"x"):PI X M e (tW T XE (Ŧ m)):=
 PI.imp (Si h) λQ H R I=>Ō I λP y s F D E=>step F D E λv L l A x _ N j z f c=>by
  have f:VR T l A v x:=f;cases v with
  |tup xs=>
   obtain⟨a,p,rfl,n,k⟩:=f.cH;refine⟨a,rfl,.inr ⟨⟨p,r▸n⟩,c l A _ .refl j ⟨λq s' B o d _=>?_⟩⟩⟩;rw[r];exact K_ (o.S1 n) d (k.up o)
  |sq xs=>
   obtain⟨a,p,rfl,n,k⟩:=f.iQ;refine⟨a,rfl,.inl ⟨⟨p,r▸n.G_⟩,c l A _ .refl j ⟨λq s' B o d _=>?_⟩⟩⟩;rw[r];exact sV (.inr (o.V7 n)) d (k.up o)
  |ref i=>
   obtain⟨xs,t,c⟩:=c.ö;obtain⟨a,p,rfl,J,n,k⟩:=j.ef (ċ t) f;refine⟨a,rfl,.inl ⟨⟨p,fQ.of n⟩,c l A _ .refl j ⟨λq s' B o d g=>?_⟩⟩⟩;have u:=(EN i xs s').mp g;obtain⟨b,O,w,_,C,G⟩:=d.ef (ċ u) (VR.up o f);cases w;exact sV (.inl C) d G
  |Ĕ=>exact c.elim
  |bl b=>exact c.elim
  |int b=>exact c.elim
  |str b=>exact c.elim
noncomputable def n7 (lo:Int)(n:Nat):Á AV:=(Ĉ n).map λ(i:Nat)=>AV.int (lo+i)
def K8 (f:SR T a s' H') :
  (∀j v,(n7 lo n)[j]?=À v->(TH lo n).go j H'/\∀x A,(TH lo n).Lm j H' x A->Up a H' a A/\SR T a s' A/\VR T a A v x)/\(TH lo n).stop (n7 lo n).length H':=by
 have hl:(n7 lo n).length=n:=by simp[n7]
 refine⟨λj v e=>?_,by rw[hl];exact Í _⟩;have b:j<n:=by have:=(Æ.mp e).1;rw[hl]at this;exact this
 refine⟨b,λy A ⟨c,d⟩=>?_⟩;subst c d;have:(n7 lo n)[j]?=À (.int (lo+j)):=by simp[n7,b]
 rw[this]at e;cases e;exact⟨.refl,f,a9⟩
def xK (r:hR):Src:=λa s=>(r a s).bind λc b=>match c with
 |[.int j]=>if -(2^62)<=j/\j<2^62 then .ok (n7 0 j.toNat,[]) b else .bad
 |[.int i,.int j]=>if -(2^62)<=i/\i<2^62/\-(2^62)<=j/\j<2^62 then .ok (n7 i (j-i).toNat,[]) b else .bad
 |_=>.bad
def Vn (z:X.mg "range"=none)(r:PE X a s!"x") (u:Gl X "range":=by rfl)(g:Ì [a] X.env=[(false,Ė a X.env)]:=by rfl):PI X L (.Call (.Name "range" p) [a] [] pos) (tW T XE (xK (Â m Ï))):=
 PI.imp (GX u z (BU r Ff g) g) λQ H R F=>Ō F λP i s g t B=>step g t B λv J f A x e N l n d b=>by
  have d:ı T f A v x:=d;obtain⟨w,rfl⟩:∃w,v=[w]:=by
   unfold Â Ï at e;cases h:m i s with
   |ok w E=>rw[h]at e;cases e;exact⟨w,rfl⟩
   |ex c E=>rw[h]at e;cases e
   |bad=>rw[h]at e;cases e
  obtain⟨y,O,rfl,C,D⟩:=d.cons_inv;cases D.nil_inv;cases w with
  |int j=>
   obtain⟨⟨o,q⟩,b⟩:=b.Ř;cases C.int_inv;exact⟨j,rfl,o,q,b f A _ .refl l ⟨λG s' I M k _=>K8 k⟩⟩
  |_=>exact b.elim
def forL (b:Mt)(body:Ms)(f:Gd):Á AV->En->S->RS
 |[],a,s=>open Classical in if r3 f s then .nx a s else .bad
 |v::r,a,s=>open Classical in if r3 f s then (match b v a s with
   |.nx h g=>(match body h g with
    |.nx d e=>forL b body f r d e
    |.ct d e=>forL b body f r d e
    |.bk d e=>.nx d e
    |q=>q)
   |.ex c g=>.ex c g
   |_=>.bad)else .bad
def lG (b:Src)(c:Mt)(body:Ms):Ms:=λa s=>(b a s).aQ λp d=>forL c body p.2 p.1 a d
def fP.Ř {ρ:Á Addr}{c:Prop}{_:aZ c}{r:RS}{D:Ends}(h:fP T XE ρ H (if c then r else .bad) D):c/\fP T XE ρ H r D:=by
 by_cases a:c
 ·rw[Ò a]at h;exact⟨a,h⟩
 ·rw[Ø a]at h;exact h.elim
def RG (hp:AF s!"b" X.A X.env X.xe) (hc:X.calm=true)(hi:PI X tg q (tW T XE src)) (hg:PG X tg (tT T XE n)) (hb:nB X body (tS T XE Q))
  (hs:∀x,fb q X.env x=pure x:=by intro _;rfl):PS X (.For tg q body [] pos) (tS T XE (lG src n Q)):=
 PS.imp (So hp hc hi hg hb hs) λD σ H zz=>lI zz λρ env s hs he ho=>dm hs he ho λp M k O J _ u1 sr1 X_ U ho1=>by
  obtain⟨xs,gs⟩:=p;have U:Walks T k O xs gs J:=U;refine⟨λi m z B=>m=xs.length-i/\i<=xs.length/\∃b d s',Up k O b B/\SR T b s' B/\ER T b B d z/\fP T XE b B (forL n Q gs (xs.drop i) d s') D,⟨_,rfl,ê _,k,env,M,.refl,sr1,X_,ho1⟩,?_⟩;rintro i m z B ⟨rfl,hi,b,d,s',u',u,L,a⟩;by_cases t:i<xs.length
  ·rw[AA t]at a;unfold forL at a;obtain⟨r,a⟩:=a.Ř;obtain⟨w1,w2⟩:=(U.turn b s' B u' u r).1 i xs[i] (Å t);refine .inr ⟨w1,λE C=>∃f o g,Up k O f C/\SR T f g C/\ER T f C o E/\fP T XE f C (forL n Q gs (xs.drop (i+1)) o g) D,λE C h2=>⟨xs.length-(i+1),by lia,rfl,t,h2⟩,λx Y hy=>?_⟩;obtain⟨y1,y2,y3⟩:=w2 x Y hy;refine⟨b,d,s',xs[i],y2,L.up y1,y3,?_⟩;have a:=fP.up y1 a;cases I:n xs[i] d s' with
   |nx e1 M=>
    simp only[I]at a;refine λf C E u2 S2 er2=>⟨f,e1,M,S2,er2,?_⟩
    have a:=fP.up u2 a;have N:Up k O f C:=(u'.trans y1).trans u2;cases G:Q e1 M with
    |nx P g=>simp only[G]at a;exact λl Z F y j h=>⟨l,P,g,N.trans y,j,h,fP.up y a⟩
    |ct P g=>simp only[G]at a;exact λl Z F y j h=>⟨l,P,g,N.trans y,j,h,fP.up y a⟩
    |bk P g=>simp only[G]at a;exact λl Z F y j h=>a l Z F y j h
    |rt v g=>simp only[G]at a;exact a
    |ex v g=>simp only[G]at a;exact a
    |bad=>simp only[G]at a;exact a
   |ex c M=>simp only[I]at a;exact a
   |rt v g=>simp only[I]at a;exact a.elim
   |bk v g=>simp only[I]at a;exact a.elim
   |ct v g=>simp only[I]at a;exact a.elim
   |bad=>simp only[I]at a;exact a.elim
  ·have e:i=xs.length:=by lia
   subst e;rw[OT]at a;unfold forL at a;obtain⟨r,a⟩:=a.Ř;exact .inl ⟨(U.turn b s' B u' u r).2,a b B z .refl u L⟩
abbrev Lc:=Á (Str×Ë Nat)
def DW (l:Lc)(env:En):En:=l.map λp=>p.2.bind λj=>(env[j]?).join
def ER.src (h:ER T ρ H env c)(l:Lc):ER T ρ H (DW l env) (DY l c):=by
 refine⟨by simp[DW,DY],λi v e=>?_⟩;unfold DW at e;unfold DY;rw[î]at e⊢;cases b:l[i]? with
 |none=>rw[b]at e;cases e
 |some p=>
  rw[b]at e;obtain⟨n,o⟩:=p;cases o with
  |none=>cases e
  |some j=>
   have e:À ((env[j]?).join)=À (À v):=e;have d:env[j]?=À (À v):=by
    cases a:env[j]? with
    |none=>rw[a]at e;cases e
    |some q=>rw[a]at e;cases e;rfl
   obtain⟨x,f,k⟩:=h.get j v d;exact⟨x,by show À ((c[j]?).join)=_;rw[f];rfl,k⟩
def Hw:iW:=λ_ _ _ _=>False
def R.calm {α:Type}:R α->R α
 |.ex _ _=>.bad
 |r=>r
@[simp] theorem Et (a:α) (s:S):(R.ok a s).calm=.ok a s:=rfl
@[simp] theorem A4:(R.bad:R α).calm=.bad:=rfl
def fV:Eb:=λ_ s=>.ok true s
def az (d:Mt)(a:Eb)(elt:Ev)(g:Gd):Á AV->En->S->Á AV->R (Á AV)
 |[],e,s,c=>open Classical in if r3 g s then .ok c s else .bad
 |v::r,e,s,c=>open Classical in if r3 g s then (match d v e s with
   |.nx f i=>(a f i).calm.bind λb h=>if b=true then (elt f h).calm.bind λx j=>az d a elt g r f j (c++[x])else az d a elt g r f h c
   |_=>.bad)else .bad
def ł (l:Lc)(c:Src)(d:Mt)(b:Eb)(elt:Ev):hR:=λa s=>(c a s).bind λp e=>if p.1.length<=sizeLine then az d b elt p.2 p.1 (DW l a) e []else .bad
def Kj:LJ X [] (kN T XE fV):=λa s e H Q I ⟨g,b,st,d,f,c⟩=>N0 a s e H Q I (yk c d)
def Kk (h:PT X c (kN T XE m)):LJ X [c] (kN T XE m):=N1 h
def Ex (h:tL T XE (ł l src F n elt) σ H Q):KS l (tW T XE src) (tT T Hw F) (kN T Hw n) (tE T Hw elt) σ H Q:=by
 obtain⟨ρ,B,s,hs,he,u⟩:=h;refine⟨ρ,B,s,hs,he,?_⟩;unfold ł at u;cases e:src B s with
 |bad=>rw[e]at u;exact u
 |ex c s1=>rw[e]at u;exact u
 |ok p s1=>
  rw[e]at u;obtain⟨xs,gs⟩:=p;obtain⟨y,u⟩:=u.Ř;have y:xs.length<=sizeLine:=y;intro o H1 J u1 w wk D hD;have wk:Walks T o H1 xs gs J:=wk;have nD:D∉o:=w.out hD;refine⟨λi m O Xo A=>m=xs.length-i/\i<=xs.length/\O.length<=i/\∃f g s' j,Up o H1 f A/\SR T f s' A/\ER T f A g Xo/\A D=À (.lst O)/\D∉f/\ı T f A j O/\Out T XE (rL T) ρ H (az F n elt gs (xs.drop i) g s' j) Q,
   ⟨_,rfl,ê _,Í _,o,DW l B,s1,[],w.eg hD,w.new hD,((he.up u1).up (w.eg hD)).src l,ă,nD,.nil,u⟩,?_⟩
  rintro i m O Xo A ⟨rfl,hi,hy,f,g,s',j,u',E,er',hd,Z,ka,d⟩;by_cases t:i<xs.length
  ·rw[AA t]at d;unfold az at d;obtain⟨C,d⟩:=d.Ř;obtain⟨w1,w2⟩:=(wk.turn f s' A u' E C).1 i xs[i] (Å t);refine .inr ⟨w1,λx H'' hy'=>?_⟩;obtain⟨y1,y2,y3⟩:=w2 x H'' hy';refine⟨f,g,s',xs[i],y2,er'.up y1,y3,?_⟩;have P:=y1.fr D _ hd Z;have ka1:=ka.up y1;cases M:F xs[i] g s' with
   |nx L s2=>
    simp only[M]at d;refine λXn H2 Xq u2 S2 q=>⟨Xn,L,s2,S2,q,?_⟩
    have U:=u2.fr D _ P.1 P.2;have ka2:=ka1.up u2;cases eb:n L s2 with
    |bad=>simp only[eb,A4,qx]at d;exact d.elim
    |ex c s3=>simp only[eb,R.calm,qx]at d;exact d.elim
    |ok b s3=>
     simp only[eb,Et,ï]at d;intro G H3 b' N sr3 eb';cases (show b=b' from eb');have r:=N.fr D _ U.1 U.2;have Y:=ka2.up N;have up3:Up o H1 G H3:=((u'.trans y1).trans u2).trans N;cases b with
     |false=>
      rw[Ø s!"i"]at d⊢;exact⟨xs.length-(i+1),by lia,rfl,t,by lia,G,L,s3,j,up3,sr3,q.up N,r.1,r.2,Y,d⟩
     |true=>
      rw[Ò rfl]at d⊢;refine⟨G,L,s3,sr3,q.up N,?_⟩;cases ev:elt L s3 with
      |bad=>simp only[ev,A4,qx]at d;exact d.elim
      |ex c s4=>simp only[ev,R.calm,qx]at d;exact d.elim
      |ok v s4=>
       simp only[ev,Et,ï]at d;intro I H4 x4 u4 sr4 vr4;have k:=u4.fr D _ r.1 r.2;have ka4:=Y.up u4;have g5:Gr I H4 I (upd H4 D (.lst (O++[x4]))):=Yf k.1;refine⟨k.1,by lia,xs.length-(i+1),by lia,rfl,t,by rw[è];exact ny hy,I,L,s4,j++[v],(up3.trans u4).mod hD k.2,sr4.up g5 λa ha=>ä λz=>k.2 (z▸ha),((q.up N).up u4).gr g5,ă,k.2,(ka4.append (.one vr4)).gr g5,d⟩
   |ex c s1=>simp only[M]at d;exact d.elim
   |rt v s2=>simp only[M]at d;exact d.elim
   |bk v s2=>simp only[M]at d;exact d.elim
   |ct v s2=>simp only[M]at d;exact d.elim
   |bad=>simp only[M]at d;exact d.elim
  ·have e:i=xs.length:=by lia
   subst e;rw[OT]at d;unfold az at d;obtain⟨C,d⟩:=d.Ř;exact .inl ⟨(wk.turn f s' A u' E C).2,d f A (.ref D) (u1.trans u') E ⟨D,O,rfl,u1.live D hD,Z,hd,ka⟩⟩
def Nm (l:Lc)(f:fE X scope l)(b:X.calm=true)(o:PI X k a (tW T XE i))
  (n:∀cl C c d A,PG (aq X l scope cl C c d A) k (tT T Hw j)) (q:∀cl C c d A,LJ (aq X l scope cl C c d A) g (kN T Hw e)) (m:∀cl C c d A,PE (aq X l scope cl C c d A) elt (tE T Hw r))
  (p:∀x,fb a X.env x=pure x:=by intro _;rfl):PE X (.ListComp elt [⟨k,a,g,0⟩] scope pos) (tL T XE (ł l i j e r)):=
 PE.imp (NQ l f b o n q m p) λ_ _ _ h=>Ex h
def RN (h:tE T XE (Ď r) v H Q):tL T XE r v H Q:=by
 obtain⟨t,f,s,p,o,b⟩:=h;refine⟨t,f,s,p,o,?_⟩;unfold Ď at b;cases e:r f s with
 |bad=>rw[e]at b;exact b
 |ex c q=>rw[e]at b;exact b
 |ok w q=>
  rw[e]at b;rintro d A x u i ⟨a,y,j,l,m,n,k⟩;subst j;have g:Gr d A (d++[a]) A:=⟨gp _ _,λ_ _ z=>z,λ_ _ _ z=>z⟩
  refine b (d++[a]) A (.ref a) (u.add l) (i.add m (OR.lst n (k.gr g))) (qc (T:=T) (H:=A) ?_);rw[ç (by rw[i.len];exact Í _),i.len,oG];rfl
def DB (l:Lc)(j:fE X scope l)(b:X.calm=true)(p:X.N.Nodup)(s:PI X n a (tW T XE m))
  (r:∀cl C c e A,PG (aq X l scope cl C c e A) n (tT T Hw o)) (u:∀cl C c e A,LJ (aq X l scope cl C c e A) d (kN T Hw g)) (q:∀cl C c e A,PE (aq X l scope cl C c e A) elt (tE T Hw z))
  (w:X.N[i]?=À y:=by rfl) (v:X.env.scope.names.lookup y=À .local:=by rfl)
  (k:eS (.ListComp elt [⟨n,a,d,0⟩] scope pos) (À (.Name y B)) f.line X.env=pure true:=by rfl)
  (t:∀x,fb a X.env x=pure x:=by intro _;rfl) :
  PS X (.Assign [.Name y B] (.ListComp elt [⟨n,a,d,0⟩] scope pos) f) (tS T XE (ņ i (Ď (ł l m o g z)))):=
 PS.imp (DN l j b p w v s r u q k t) λD E H h=>Ex (RN (HS h))
noncomputable def bH (n:Nat)(body:Ms):Á AV->S->R AV:=λa s=>match body (a.map À++â (n-a.length) none) s with
 |.rt v b=>.ok v b
 |.nx _ b=>.ok .Ĕ b
 |.ex c b=>.ex c b
 |_=>.bad
def Bj (N:Á Str)(k:ı T ρ H args vs):ER T ρ H (args.map À++â (N.length-args.length) none) (L2.start N vs):=by
 refine⟨by simp[L2.start,k.length],λi v e=>?_⟩;unfold L2.start;have a:i<args.length:=by
  by_cases a:i<args.length
  ·exact a
  ·rw[ç (by simpa using a),ni]at e;split at e<;>cases e
 rw[é (by simpa using a),î]at e;cases b:args[i]? with
 |none=>rw[b]at e;cases e
 |some w=>
  rw[b]at e;cases e;obtain⟨x,c,q⟩:=k.get b;exact⟨x,by rw[é (by simpa[<-k.length]using a),î,c];rfl,q⟩
def å (n:Nat)(F:Á AV->S->R AV)(r:hR):Ev:=λa s=>(r a s).bind λb c=>if b.length=n then F b c else .bad
end
end Mm
namespace Ro
open PySem L2
def vI (top a:Int):Int:=if a<0 then -((č top a:Nat):Int)else ((č top a:Nat):Int)
def fr (top a:Int):Int×Int:=(top.fdiv (vI top a),a.fdiv (vI top a))
def kb (h:b≠0):0<č t b:=Int.gcd_pos_of_ne_zero_right t h
def QJ (h:b≠0):vI t b≠0:=by
 have:=kb (t:=t) h;unfold vI;split<;>lia
def C6 (t b:Int):(vI t b).natAbs=č t b:=by
 unfold vI;split<;>lia
def Gm (t b:Int):vI t b ∣ t:=by
 unfold vI;split
 ·exact(Zw).mpr (nt ..)
 ·exact nt ..
def Gn (t b:Int):vI t b ∣ b:=by
 unfold vI;split
 ·exact(Zw).mpr (mB ..)
 ·exact mB ..
def aL {a g:Int}(h:g ∣ a):a.fdiv g*g=a:=Int.fdiv_mul_cancel h
def ID (h:y ∣ x*v)(b:č x y=1):y ∣ v:=by
 have a:y.natAbs ∣ x.natAbs*v.natAbs:=by rw[<-eX];exact iV.mpr h
 have c:Zy y.natAbs x.natAbs:=by
  show OV y.natAbs x.natAbs=1;rw[Nat.gcd_comm];exact b
 exact iV.mp (c.dvd_of_dvd_mul_left a)
def QF (t b:Int):(fr t b).1*vI t b=t:=aL (Gm t b)
def MG (t b:Int):(fr t b).2*vI t b=b:=aL (Gn t b)
def IS (t b:Int)(h:b≠0):(fr t b).1*b=t*(fr t b).2:=by
 have a:=QF t b;have c:=MG t b;generalize (fr t b).1=x at *
 generalize (fr t b).2=y at *
 generalize vI t b=g at *
 subst a;rw[<-c];rw[hI y g,<-mS,k7]
def QG (t b:Int)(h:b≠0):1<=(fr t b).2:=by
 have f:=MG t b;have i:=kb (t:=t) h;have d:(vI t b<0/\b<0)∨(0<vI t b/\0<b):=by
  unfold vI;split
  ·left;lia
  ·right;lia
 generalize (fr t b).2=y at *
 generalize vI t b=g at *
 rcases d with⟨a,c⟩|⟨a,c⟩
 ·refine LR.mp λe=>?_;have:0<=y*g:=Int.mul_nonneg_of_nonpos_of_nonpos (by lia) (by lia);lia
 ·refine LR.mp λe=>?_;have:y*g<=0:=ub (by lia) (by lia);lia
def QE (t b:Int)(h:b≠0):č (fr t b).1 (fr t b).2=1:=by
 have a:=QF t b;have c:=MG t b;have d:=kb (t:=t) h;have f:=C6 t b;have e:č ((fr t b).1*vI t b) ((fr t b).2*vI t b)=č (fr t b).1 (fr t b).2*(vI t b).natAbs:=OS ..;rw[a,c,f]at e;have:1*č t b=č (fr t b).1 (fr t b).2*č t b:=by rw[ZD];exact e
 exact(AE d this).symm
def EJ (a:b≠0)(n:1<=y)(h:č x y=1)(i:x*b=t*y):fr t b=(x,y):=by
 have o:=QG t b a;have l:=QE t b a;have m:=IS t b a;have e:x*(fr t b).2=(fr t b).1*y:=by
  refine kY a ?_;have d:x*(fr t b).2*b=x*b*(fr t b).2:=k7 ..;have f:(fr t b).1*y*b=(fr t b).1*b*y:=k7 ..;rw[d,f,i,m,k7]
 generalize j:(fr t b).1=u at *
 generalize k:(fr t b).2=v at *
 have d1:y ∣ v:=by
  have:y ∣ x*v:=⟨u,by rw[e,hI]⟩
  exact ID this h
 have d2:v ∣ y:=by
  have:v ∣ u*y:=⟨x,by rw[<-e,hI]⟩
  exact ID this l
 have c:v=y:=Int.dvd_antisymm (by lia) (by lia) d2 d1;have g:u=x:=by
  rw[c]at e;exact(kY (by lia) e).symm
 rw[show fr t b=(u,v)from by rw[<-j,<-k],g,c]
noncomputable def low (top a:Int):Int×Int:=
 (((if a<0 then -1 else 1)*top).fdiv ((č top a:Nat):Int),((if a<0 then -1 else 1)*a).fdiv ((č top a:Nat):Int))
def Q4 (t b:Int)(g:b≠0):low t b=fr t b:=by
 unfold low fr vI;by_cases h:b<0
 ·rw[Ò h,Ò h];have j:=kb (t:=t) g;have d:∀a:Int,((č t b:Nat):Int) ∣ a->(-1*a).fdiv ((č t b:Nat):Int)=a.fdiv (-((č t b:Nat):Int)):=by
   rintro a ⟨c,i⟩;rw[i];have e:(-1*(((č t b:Nat):Int)*c))=(-c)*((č t b:Nat):Int):=by
    rw[Zx,xP,hI,Zx]
   have f:(((č t b:Nat):Int)*c)=(-c)*(-((č t b:Nat):Int)):=by
    rw[Int.neg_mul_neg,hI]
   rw[e,Lp _ (by lia),f,Lp _ (by lia)]
  rw[d t (nt ..),d b (mB ..)]
 ·rw[Ø h,Ø h,xP,xP]
def boot_abs:ĥ "abs"=À (.builtin "abs"):=by decide+kernel
def boot_divmod:ĥ "divmod"=À (.builtin "divmod"):=by decide+kernel
def boot_list:ĥ "list"=À (.type "list"):=by decide+kernel
def boot_tuple:ĥ "tuple"=À (.type "tuple"):=by decide+kernel
def boot_int:ĥ "int"=À (.type "int"):=by decide+kernel
def boot_bool:ĥ "bool"=À (.type "bool"):=by decide+kernel
def boot_str:ĥ "str"=À (.type "str"):=by decide+kernel
def boot_isinstance:ĥ "isinstance"=À (.builtin "isinstance"):=by decide+kernel
def boot_all:ĥ "all"=À (.builtin "all"):=by decide+kernel
def kne:¬(("cells":Str)="turn"):=by decide+kernel
def YO:(10:Int)^(18:Int).toNat=1000000000000000000:=by decide+kernel
end Ro
namespace L2
open PySem PySem.Spec PyProof.Rows
def Uh (K:È)(H:Hp)(x:V)(t:String):Prop:=match x with
 |.Ĕ=>t="NoneType"
 |.bl _=>t="bool"
 |.int _=>t="int"
 |.str _=>t="str"
 |.ref a=>(t="tuple"/\∃xs,gz K H a xs)∨(t="list"/\∃xs,fQ K H a xs)∨(t="dict"/\((∃b,H a=À (.dK b))∨∃b,H a=À (.dT b)))
 |_=>False
def YR (K:È):Á V->Hp->VK->Prop:=λxs H Q=>∃t x n b,xs=[x,.ty n]/\Uh K H x t/\oH K (.type t) (.type n)=À b/\Q (.bl b) H
def Ia:aG X (.builtin "isinstance") (YR X.K):=by
 intro i s D H xs us Q I r h;obtain⟨t,x,n,b,rfl,hd,e,q⟩:=h;obtain⟨u,B,rfl,j,w⟩:=vals2 r;obtain rfl:B=cg n:=w;have c:∀A,EP X i D Q (.bool b) {s with toks:=A}:=λA=>⟨.bl b,H,I.tok A,rfl,q⟩
 cases x with
 |Ĕ=>cases (show t=_ from hd);exact oq I j .Ĕ e c
 |bl y=>cases (show t=_ from hd);exact oq I j (.bl y) e c
 |int y=>cases (show t=_ from hd);exact oq I j (.int y) e c
 |str y=>cases (show t=_ from hd);exact oq I j (.str y) e c
 |ref a=>
  cases j;rcases hd with⟨rfl,C,v⟩|⟨rfl,C,v⟩|⟨rfl,g⟩
  ·obtain⟨l,_,p,_⟩:=I.tuple v;obtain⟨o,d,f,_⟩:=p;exact ľ FL I.mi ⟨o,d,f⟩ e s!"q" c
  ·obtain⟨l,_,p,_⟩:=I.list v;obtain⟨o,d,f,_⟩:=p.isList;exact ľ rF I.mi ⟨o,d,f⟩ e s!"q" c
  ·have z:∃o,s.heap.get? a=À o/\o.ExactDict:=by
    rcases g with⟨m,g⟩|⟨m,g⟩
    ·obtain⟨_,_,_,_,o,_,_,e,k,_⟩:=I.ţ a _ g;exact⟨o,e,k⟩
    ·obtain⟨_,_,_,_,o,_,_,e,k,_⟩:=I.ţ a _ g;exact⟨o,e,k⟩
   obtain⟨o,d,f⟩:=z;exact ľ rE I.mi ⟨o,d,f.1⟩ e s!"q" c
 |CN y=>exact aF hd
 |O8 y=>exact aF hd
 |ty y=>exact aF hd
end L2
namespace Mm
open PySem L2
section
variable {T:Tx}{XE:iW}{X:Cx}{pos:kR}
def PF (T:Tx)(XE:iW)(op:Á AV->S->R AV):Á V->Hp->VK->Prop:=λc H Q=>∃b a s,SR T b s H/\ı T b H a c/\Out T XE (rV T) b H (op a s) Q
def Xd {α:Type}(T:Tx)(XE:iW)(d:Rl α V)(op:Á AV->S->R α):Á V->Hp->VK->Prop:=λe H Q=>∃a b c xs s,e=[.ref a]/\SR T c s H/\(fQ T.K H a b∨gz T.K H a b)/\ı T c H xs b/\Out T XE d c H (op xs s) Q
def sh (op:Á AV->S->R AV)(r:hR):Ev:=λa s=>(r a s).bind op
def tF {α:Type}(op:Á AV->S->R α)(r:hR):En->S->R α:=λa s=>(r a s).bind op
def O7 (h:tE T XE (sh op r) l H Q):TV (PF T XE op) (tP T XE r) l H Q:=by
 obtain⟨n,e,s,j,g,i⟩:=h;exact step j g i λv k d A x _ m b f c a=>⟨d,v,k,b,c,a⟩
def Us (h:tG T XE m (tF op r) p H Q):TV (Xd T XE m op) (wJ (tQ T XE r) z_) p H Q:=by
 obtain⟨u,f,s,l,i,j⟩:=h;refine step l i j λv n e A x _ t c g d b=>?_;obtain⟨a,o,rfl,q,k⟩:=d;exact⟨a,o,e,v,n,rfl,c,q,k,b⟩
def M7 {id:String}{op:Á AV->S->R AV}{a:Á Expr}{r:hR}(f:aG X (.builtin id) (PF T XE op)) (j:X.mg x=none)(l:ĥ x=À (.builtin id)) (d:PA X (e::a) (tP T XE r)) (i:Gl X x:=by rfl)(k:x≠"__name__":=by decide)(b:(x == ("__debug__":Str))=false:=by decide)
  (g:Ì (e::a) X.env=s!"k"::Ì a X.env:=by rfl) (c:(ģ pos (Ì a X.env)).any (·.1)=false:=by rfl):PE X (.Call (.Name x p) (e::a) [] pos) (tE T XE (sh op r)):=
 PE.imp (cW f i j l d k b g c) λ_ _ _ h=>O7 h
def YA {id:String}{op:Á AV->S->R AV}{a:Á Expr}{r:hR}(f:aG X (.type id) (PF T XE op)) (j:X.mg x=none)(l:ĥ x=À (.type id)) (d:PA X (e::a) (tP T XE r)) (i:Gl X x:=by rfl)(k:x≠"__name__":=by decide)(b:(x == ("__debug__":Str))=false:=by decide)
  (g:Ì (e::a) X.env=s!"k"::Ì a X.env:=by rfl) (c:(ģ pos (Ì a X.env)).any (·.1)=false:=by rfl):PE X (.Call (.Name x p) (e::a) [] pos) (tE T XE (sh op r)):=
 PE.imp (yB f i j l d k b g c) λ_ _ _ h=>O7 h
def Vm {α:Type}{d:Rl α V}{id:String}{op:Á AV->S->R α}{r:hR}(g:aG X (.type id) (Xd T XE d op)) (j:X.mg x=none)(l:ĥ x=À (.type id)) (f:PE X e (tQ T XE r)) (i:Gl X x:=by rfl)(k:x≠"__name__":=by decide)(a:(x == ("__debug__":Str))=false:=by decide)
  (c:Ì [e] X.env=s!"k"::Ì [] X.env:=by rfl) (b:(ģ pos (Ì [] X.env)).any (·.1)=false:=by rfl):PE X (.Call (.Name x p) [e] [] pos) (tG T XE d (tF op r)):=
 PE.imp (yB g i j l (aS f eI c) k a c b) λ_ _ _ h=>Us h
def t5:Á AV->S->R AV
 |[.int i],s=>.ok (.int (if i<0 then -i else i)) s
 |_,_=>.bad
def ı.g_ (h:ı T ρ H [v] xs):∃x,xs=[x]/\VR T ρ H v x:=by
 obtain⟨x,c,rfl,a,b⟩:=h.cons_inv;cases b.nil_inv;exact⟨x,rfl,a⟩
def ı.two_inv (h:ı T ρ H [v,w] xs):∃x y,xs=[x,y]/\VR T ρ H v x/\VR T ρ H w y:=by
 obtain⟨x,d,rfl,a,b⟩:=h.cons_inv;obtain⟨y,rfl,c⟩:=b.g_;exact⟨x,y,rfl,a,c⟩
def cAbs:aG X (.builtin "abs") (PF T XE t5):=by
 rintro a s f H xs us Q I r ⟨g,c,st,d,e,b⟩;unfold t5 at b;split at b
 ·obtain⟨x,rfl,k⟩:=e.g_;cases k.int_inv;exact H_ a s f H _ us Q I r ⟨_,rfl,b.Ĺ d a9⟩
 ·exact b.elim
noncomputable def BR:Á AV->S->R AV
 |[.int i,.int j],s=>.ok (.int (if j<i then j else i)) s
 |_,_=>.bad
def X4 (d:X.calm=true):aG X (.builtin "min") (PF T XE BR):=by
 rintro a s h H xs us Q I r ⟨i,c,st,f,g,b⟩;unfold BR at b;split at b
 ·obtain⟨x,y,rfl,k,e⟩:=g.two_inv;cases k.int_inv;cases e.int_inv;exact F8 d a s h H _ us Q I r ⟨_,_,rfl,b.Ĺ f a9⟩
 ·exact b.elim
def n4:Á AV->S->R AV
 |[.int i,.int j],s=>if 0<j/\P_ j then .ok (.tup [.int (i / j),.int (i % j)]) s else .bad
 |_,_=>.bad
def Mf:aG X (.builtin "divmod") (PF T XE n4):=by
 rintro b s i H xs us Q I r ⟨j,c,st,g,h,a⟩;unfold n4 at a;split at a
 ·obtain⟨x,y,rfl,k,e⟩:=h.two_inv;cases k.int_inv;cases e.int_inv;obtain⟨hl,a⟩:=a.Ř;exact zb b s i H _ us Q I r ⟨_,_,rfl,⟨hl.1,hl.2.f⟩,λp d=>a.tup g d (.cons a9 (.one a9))⟩
 ·exact a.elim
noncomputable def yA:Á AV->S->R AV
 |[.int i],s=>.ok (.int i) s
 |[.bl b],s=>.ok (.int (if b then 1 else 0)) s
 |_,_=>.bad
def cInt:aG X (.type "int") (PF T XE yA):=by
 rintro a s f H xs us Q I r ⟨g,c,st,d,e,b⟩;unfold yA at b;split at b
 ·obtain⟨x,rfl,k⟩:=e.g_;cases k.int_inv;exact xZ a s f H _ us Q I r (.inl ⟨_,rfl,b.Ĺ d a9⟩)
 ·obtain⟨x,rfl,k⟩:=e.g_;cases k.iz;exact xZ a s f H _ us Q I r (.inr ⟨_,rfl,b.Ĺ d a9⟩)
 ·exact b.elim
def i3:Á AV->S->R AV
 |[.str z],s=>if z.length<=sizeLine then .ok (.int z.length) s else .bad
 |[v],s=>need (items v s) λxs=>.ok (.int xs.length) s
 |_,_=>.bad
def X3 (j:X.K=T.K):aG X (.builtin "len") (PF T XE i3):=by
 rintro c s g H xs us Q I r ⟨n,d,st,f,h,b⟩;have rest:∀v,d=[v]->Out T XE (rV T) n H (need (items v st) λxs=>.ok (.int xs.length) st) Q->Ù s!"b" X.A (call (.builtin "len") us) (EP X c g Q) X.xe s:=by
  rintro v rfl b;obtain⟨o,e,b⟩:=b.ö;obtain⟨x,rfl,k⟩:=h.g_;obtain⟨a,m,rfl,i,l⟩:=ot e f k;exact zc c s g H _ us Q I r ⟨a,m,rfl,by rw[j];exact i,by rw[<-l.length];exact b.Ĺ f a9⟩
 unfold i3 at b;split at b
 ·obtain⟨x,rfl,k⟩:=h.g_;cases k.str_inv;obtain⟨hl,b⟩:=b.Ř;exact zd c s g H _ us Q I r ⟨_,rfl,hl,b.Ĺ f a9⟩
 ·exact rest _ rfl b
 ·exact b.elim
noncomputable def tM:Á AV->Ë (Á Int)
 |[]=>À []
 |.int i::r=>(tM r).map (i::·)
 |_::_=>none
noncomputable def xt:Á AV->Ë (Á Bool)
 |[]=>À []
 |.bl i::r=>(xt r).map (i::·)
 |_::_=>none
theorem yl:∀{l:Á AV}{ns:Á Int},tM l=À ns->l=ns.map .int
 |[],_,h=>by cases h;rfl
 |v::r,ns,h=>by
  cases v<;>try cases h
  rename_i i;cases e:tM r with
  |none=>rw[show tM (.int i::r)=(tM r).map (i::·)from rfl,e]at h;cases h
  |some q=>
   rw[show tM (.int i::r)=(tM r).map (i::·)from rfl,e]at h;cases h;rw[yl e];rfl
theorem A1:∀{l:Á AV}{ns:Á Bool},xt l=À ns->l=ns.map .bl
 |[],_,h=>by cases h;rfl
 |v::r,ns,h=>by
  cases v<;>try cases h
  rename_i i;cases e:xt r with
  |none=>rw[show xt (.bl i::r)=(xt r).map (i::·)from rfl,e]at h;cases h
  |some q=>
   rw[show xt (.bl i::r)=(xt r).map (i::·)from rfl,e]at h;cases h;rw[A1 e];rfl
def G0 (xs:Á AV)(s:S):R AV:=need (xt xs) λa=>.ok (.bl (a.all id)) s
def TU {α:Type}(T:Tx)(XE:iW)(d:Rl α V)(op:Á AV->S->R α):Á V->Hp->VK->Prop:=λe H Q=>∃a c b xs s,e=[.ref a]/\SR T b s H/\H a=À (.lst c)/\ı T b H xs c/\Out T XE d b H (op xs s) Q
def Ur (h:tG T XE m (tF op r) p H Q):TV (TU T XE m op) (wJ (tL T XE r) z_) p H Q:=by
 obtain⟨u,f,s,l,i,j⟩:=h;refine step l i j λv n e A x _ t c g d b=>?_;obtain⟨a,o,rfl,_,_,q,k⟩:=d;exact⟨a,o,e,v,n,rfl,c,q,k,b⟩
def Di (m:Ev):hR:=λa s=>(m a s).bind λv b=>match v with
 |.ref i=>need (ù b i) λxs=>.ok xs b
 |_=>.bad
def Qm (h:tG T XE t (tF op (Di m)) w H Q):TV (TU T XE t op) (wJ s!"x" z_) w H Q:=by
 obtain⟨z,c,s,r,p,n⟩:=h;have e:tF op (Di m) c s=(m c s).bind λv f=>(match v with
   |.ref i=>need (ù f i) λxs=>(.ok xs f:R (Á AV))
   |_=>.bad).bind op:=by
  unfold tF Di;cases m c s<;>rfl
 rw[e]at n;refine step r p n λv f j A x _ y g o d b=>?_;have d:VR T j A v x:=d;cases v with
 |ref i=>
  cases l:ù f i with
  |none=>simp only[l]at b;exact b.elim
  |some xs=>
   simp only[l,ø,ï]at b;obtain⟨a,u,rfl,_,q,k⟩:=g.ef (ċ l) d;exact⟨a,u,j,xs,f,rfl,g,q,k,b⟩
 |_=>exact b.elim
def Vl {α:Type}{d:Rl α V}{id:String}{op:Á AV->S->R α}{r:hR}(g:aG X (.builtin id) (TU T XE d op)) (j:X.mg x=none)(l:ĥ x=À (.builtin id)) (f:PE X e (tL T XE r)) (i:Gl X x:=by rfl)(k:x≠"__name__":=by decide)(a:(x == ("__debug__":Str))=false:=by decide)
  (c:Ì [e] X.env=s!"k"::Ì [] X.env:=by rfl) (b:(ģ pos (Ì [] X.env)).any (·.1)=false:=by rfl):PE X (.Call (.Name x p) [e] [] pos) (tG T XE d (tF op r)):=
 PE.imp (cW g i j l (aS f eI c) k a c b) λ_ _ _ h=>Ur h
def Pw {α:Type}{d:Rl α V}{id:String}{op:Á AV->S->R α}{r:Ev}(g:aG X (.builtin id) (TU T XE d op)) (j:X.mg x=none)(l:ĥ x=À (.builtin id)) (f:PE X e (tE T XE r)) (i:Gl X x:=by rfl)(k:x≠"__name__":=by decide)(a:(x == ("__debug__":Str))=false:=by decide)
  (c:Ì [e] X.env=s!"k"::Ì [] X.env:=by rfl) (b:(ģ pos (Ì [] X.env)).any (·.1)=false:=by rfl):PE X (.Call (.Name x p) [e] [] pos) (tG T XE d (tF op (Di r))):=
 PE.imp (cW g i j l (aS f eI c) k a c b) λ_ _ _ h=>Qm h
def Uk (f:X.calm=true):aG X (.builtin "all") (TU T XE (rV T) G0):=by
 rintro b s i H xs us Q I r ⟨a,j,m,l,st,e,h,d,k,c⟩;subst e;obtain⟨g,e,c⟩:=c.ö;rw[A1 e]at k;rw[k.Es]at d;exact F5 f b s i H _ us Q I r ⟨a,g,rfl,fQ.of d,c.Ĺ h dt⟩
def wo (xs:Á AV)(s:S):R (Á AV):=.ok xs s
def Ul (d:X.K=T.K):aG X (.type "list") (Xd T XE (rL T) wo):=by
 rintro b s i H xs us Q I r ⟨a,h,m,j,st,e,g,c,k,f⟩;subst e;exact ze b s i H _ us Q I r ⟨a,h,rfl,by rw[d];exact c,λl hl=>f.lst g hl k⟩
def kM (xs:Á AV)(s:S):R AV:=.ok (.tup xs) s
def Qk (c:X.K=T.K):aG X (.type "tuple") (Xd T XE (rV T) kM):=by
 rintro b s h H xs us Q I r ⟨a,g,j,i,st,e,f,h1,k,d⟩;subst e;refine xu b s h H _ us Q I r ⟨a,g,rfl,?_⟩;rcases h1 with h1|h1
 ·exact .inl ⟨by rw[c];exact h1,λl hl=>d.tup f hl k⟩
 ·exact .inr ⟨by rw[c];exact h1,d.Ĺ f (jM h1 k)⟩
noncomputable def Fz (v:AV)(s:S):Ë String:=match v with
 |.Ĕ=>À "NoneType"
 |.bl _=>À "bool"
 |.int _=>À "int"
 |.str _=>À "str"
 |.tup _=>À "tuple"
 |.sq _=>À "list"
 |.ref i=>match s[i]? with
  |some (.lst _)=>À "list"
  |some (.dK _)=>À "dict"
  |some (.dT _)=>À "dict"
  |_=>none
def gn:Á String:=["NoneType","bool","int","str","tuple","list","dict"]
def gC (t n:String):Bool:=t == n||(t == "bool" && n == "int")
def QY (b:t∈gn)(a:n∈gn):oH K (.type t) (.type n)=À (gC t n):=by
 simp only[gn,Þ,ü,Ź]at b a;rcases b with rfl|rfl|rfl|rfl|rfl|rfl|rfl<;>rcases a with rfl|rfl|rfl|rfl|rfl|rfl|rfl<;>rfl
def OC (h:Fz v s=À t)(m:SR T ρ s H)(j:VR T ρ H v x):Uh T.K H x t/\t∈gn:=by
 cases v with
 |Ĕ=>cases j.jh;cases h;exact⟨rfl,by simp[gn]⟩
 |bl c=>cases j.iz;cases h;exact⟨rfl,by simp[gn]⟩
 |int c=>cases j.int_inv;cases h;exact⟨rfl,by simp[gn]⟩
 |str c=>cases j.str_inv;cases h;exact⟨rfl,by simp[gn]⟩
 |tup c=>obtain⟨a,f,rfl,d,k⟩:=j.cH;cases h;exact⟨.inl ⟨rfl,f,d⟩,by simp[gn]⟩
 |sq c=>obtain⟨a,f,rfl,d,k⟩:=j.iQ;cases h;exact⟨.inr (.inl ⟨rfl,f,d.G_⟩),by simp[gn]⟩
 |ref i=>
  have h:(match s[i]? with
  |some (.lst _)=>À "list"
  |some (.dK _)=>À "dict"
  |some (.dT _)=>À "dict"
  |_=>none)=À t:=h
  obtain⟨a,l,rfl⟩:=j.gi;split at h
  ·rename_i xs e;cases h;obtain⟨b,g,f,d,_⟩:=m.obj i _ e;rw[l]at g;cases g;exact⟨.inr (.inl ⟨rfl,f,fQ.of d⟩),by simp[gn]⟩
  ·rename_i xs e;cases h;obtain⟨b,g,f,d,_⟩:=m.obj i _ e;rw[l]at g;cases g;exact⟨.inr (.inr ⟨rfl,.inl ⟨f,d⟩⟩),by simp[gn]⟩
  ·rename_i xs e;cases h;obtain⟨b,g,f,d,_⟩:=m.obj i _ e;rw[l]at g;cases g;exact⟨.inr (.inr ⟨rfl,.inr ⟨f,d⟩⟩),by simp[gn]⟩
  ·cases h
def hZ (n:String)(v:AV)(s:S):R AV:=need (Fz v s) λt=>.ok (.bl (gC t n)) s
def Rk (y:X.K=T.K)(C:n∈gn)(B:X.mg "isinstance"=none)(i:X.mg nm=none)(l:ĥ nm=À (.type n)) (z:PE X e s!"x") (A:Gl X "isinstance":=by rfl)(h:Gl X nm:=by rfl)(j:nm≠"__name__":=by decide)(f:(nm == ("__debug__":Str))=false:=by decide)
  (d:Ì [e,.Name nm b] X.env=s!"k"::Ì [.Name nm b] X.env:=by rfl) (g:Ì [.Name nm b] X.env=(false,Ė (.Name nm b) X.env)::Ì [] X.env:=by rfl) (k:(ģ pos (Ì [.Name nm b] X.env)).any (·.1)=false:=by rfl) :
  PE X (.Call (.Name "isinstance" p) [e,.Name nm b] [] pos) (tE T XE (bg (hZ n) m)):=
 PE.imp (cW Ia A B Ro.boot_isinstance (aS z (aS (Fg (v:=.ty n) h i l rfl j f) eI g) d) s!"i" s!"i" d k) λN H Q F=>Ō F λM q s E d D=>
  step E d D λv J G I x _ L c r o a=>by
   obtain⟨t,e,a⟩:=a.ö;obtain⟨u,w⟩:=OC e c o;exact⟨t,x,n,_,rfl,by rw[y];exact u,QY w C,a.Ĺ c dt⟩
def VT (T:Tx)(XE:iW)(op:AV->Á AV->S->R AV):V->Á V->Hp->VK->Prop:=λx xs H Q=>∃a v b s,SR T a s H/\VR T a H v x/\ı T a H b xs/\Out T XE (rV T) a H (op v b s) Q
def kL (n:String)(v:AV)(s:S):Ë Unit:=match v,n with
 |.str _,"str"=>À ()
 |.sq _,"list"=>À ()
 |.ref i,"list"=>(ù s i).map λ_=>()
 |.ref i,"dict"=>match s[i]? with
  |some (.dK _)=>À ()
  |some (.dT _)=>À ()
  |_=>none
 |_,_=>none
def vN (h:kL n v s=À ()) (j:SR T ρ s H)(g:VR T ρ H v x):Xj T.K n x H:=by
 unfold kL at h;split at h
 ·cases g.str_inv;rfl
 ·obtain⟨a,d,rfl,c,k⟩:=g.iQ;exact .inl ⟨rfl,d,c.G_⟩
 ·rename_i i;cases e:ù s i with
  |none=>rw[e]at h;cases h
  |some xs=>
   obtain⟨a,d,rfl,_,c,k⟩:=j.ef (ċ e) g;exact .inl ⟨rfl,d,fQ.of c⟩
 ·rename_i i;obtain⟨a,l,rfl⟩:=g.gi;split at h
  ·rename_i xs e;obtain⟨b,f,d,c,_⟩:=j.obj i _ e;rw[l]at f;cases f;exact .inr (.inr (.inl ⟨rfl,.inl ⟨d,c⟩⟩))
  ·rename_i xs e;obtain⟨b,f,d,c,_⟩:=j.obj i _ e;rw[l]at f;cases f;exact .inr (.inr (.inl ⟨rfl,.inr ⟨d,c⟩⟩))
  ·cases h
 ·cases h
def gg (n:String)(op:AV->Á AV->S->R AV)(o:Ev)(r:hR):Ev:=λa s=>(o a s).bind λv b=>need (kL n v b) λ_=>(r a b).bind λd c=>op v d c
def Rv (h:tE T XE (gg n op o r) z H Q):Y9 T.K n (VT T XE op) (tE T XE o) (tP T XE r) z H Q:=by
 obtain⟨E,k,s,q,m,p⟩:=h;refine step q m p λv C y A x _ D b d c a=>?_;obtain⟨_,e,a⟩:=a.ö;exact⟨vN e b c,step b d a λw t j B xs _ u g l i f=>⟨j,v,w,t,g,VR.up u c,i,f⟩⟩
def Dz {n id:String}{c:Á Expr}{op:AV->Á AV->S->R AV}{m:Ev}{r:hR}(l:X.K=T.K)(u:xi n)(j:Slot n name id)(k:Ua (.builtin id)=pure (.type "method_descriptor")) (q:Hv X id (VT T XE op)) (s:PE X o s!"x") (p:PA X (e::c) (tP T XE r))
  (d:a8 o name X.env (Ė o X.env)=Ė o X.env:=by rfl)
  (i:((ģ a (Ì (e::c) X.env)).all (λx=>!x.1)&&(gI a (bP [] X.env)).all (λx=>x.1.isSome)
   && decide ((e::c).length+([]:Á i7).length+(if ([]:Á i7).isEmpty then 0 else 1)<30))=true:=by rfl)
  (f:(g.endLine == a.line)=true:=by rfl) (t:Ì (e::c) X.env=s!"k"::Ì c X.env:=by rfl) (b:(ģ a (Ì c X.env)).any (·.1)=false:=by rfl) :
  PE X (.Call (.Attribute o name g) (e::c) [] a) (tE T XE (gg n op m r)):=
 PE.imp (J7 l u j k q s p d i f t b) λ_ _ _ h=>Rv h
def Pt (n:String)(op:AV->Á AV->S->R AV)(o:Ev):Ev:=λa s=>(o a s).bind λv b=>need (kL n v b) λ_=>op v [] b
def Out.Y3 (f:Out T XE h ρ H (.ok v (s.set i (.lst ys))) Q) (d:SR T ρ s H)(c:ρ[i]?=À a)(e:H a=À (.lst vs)) (k:ı T ρ H ys ws)(g:h.r H ρ (upd H a (.lst ws)) v x):Q x (upd H a (.lst ws)):=by
 have b:Up ρ H ρ (upd H a (.lst ws)):=d.t_ c e s!"p" (λ_ _ z=>nomatch z);exact f ρ _ x b (d.set c b (OR.lst ă (k.up b))) g
def Out.PN (d:Out T XE (rV T) ρ H (.ok v (s.set i (.lst ys))) Q) (f:SR T ρ s H)(b:ρ[i]?=À a)(c:H a=À (.lst vs)) (k:ı T ρ H ys ws)(e:VR T ρ (upd H a (.lst ws)) v x):Q x (upd H a (.lst ws)):=d.Y3 f b c k e
noncomputable def Ő:AV->Á AV->S->R AV
 |.ref i,[w],s=>need (ù s i) λxs=>if xs.length<sizeLine then .ok .Ĕ (s.set i (.lst (xs++[w])))else .bad
 |_,_,_=>.bad
def Mn:Hv X "list.append" (VT T XE Ő):=by
 rintro c s n H x xs v us Q I i rv ⟨r,a,o,st,f,j,l,b⟩;unfold Ő at b;split at b
 ·obtain⟨q,e,b⟩:=b.ö;obtain⟨hl,b⟩:=b.Ř;obtain⟨p,m,rfl,g,d,k⟩:=f.ef (ċ e) j;obtain⟨y,rfl,h⟩:=l.g_;exact yz c s n H _ _ v us Q I i rv ⟨p,m,y,rfl,rfl,d,by rw[<-k.length];exact hl,b.PN f g d (k.append (.one h)) wN⟩
 ·exact b.elim
noncomputable def BS:AV->Á AV->S->R AV
 |.ref i,[.int j],s=>need (ù s i) λxs=>if 0<=j/\j<xs.length then need xs[j.toNat]? λy=>.ok y (s.set i (.lst (xs.eraseIdx j.toNat)))else .bad
 |_,_,_=>.bad
theorem ı.erase:∀{l:Á AV}{xs:Á V}(i:Nat),ı T ρ H l xs->ı T ρ H (l.eraseIdx i) (xs.eraseIdx i)
 |[],_,_,h=>by cases h.nil_inv;exact .nil
 |_::_,_,0,h=>by obtain⟨x,b,rfl,_,k⟩:=h.cons_inv;exact k
 |_::_,_,i+1,h=>by obtain⟨x,b,rfl,a,k⟩:=h.cons_inv;exact .cons a (ı.erase i k)
def X7:Hv X "list.pop" (VT T XE BS):=by
 rintro c s D H x xs v us Q I u rv ⟨m,a,G,st,g,A,B,b⟩;unfold BS at b;split at b
 ·rename_i F j;obtain⟨J,e,b⟩:=b.ö;obtain⟨i,b⟩:=b.Ř;obtain⟨y,n,b⟩:=b.ö;obtain⟨p,l,rfl,h,d,k⟩:=g.ef (ċ e) A;obtain⟨z,rfl,r⟩:=B.g_;cases r.int_inv;obtain⟨C,f,t⟩:=k.get n;have hl:=k.length;obtain⟨q,_,_,E⟩:=I.list (fQ.of d);have o:=nS;have w:Up m H m (upd H p (.lst (l.eraseIdx j.toNat))):=g.t_ h d s!"p" (λ_ _ z=>nomatch z);refine JK c s D H _ _ v us Q I u rv ⟨p,l,j,j.toNat,C,rfl,rfl,d,by lia,by lia,UZ i.1 (by rw[<-hl];exact i.2),f,b.PN g h d (k.erase _) (VR.up w t)⟩
 ·exact b.elim
section
variable {κ:Type} [oh κ]
def a6:Á (κ×AV)->κ->Ë AV
 |[],_=>none
 |p::r,k=>if p.1=k then À p.2 else a6 r k
def lE (kvs:Á (κ×AV)) (k:κ)(v:AV):Á (κ×AV):=
 if (kvs.any λa=>decide (a.1=k))=true then kvs.map (λa=>if a.1=k then (a.1,v)else a)else kvs++[(k,v)]
theorem dZ (k:κ):∀{kvs:Á (κ×AV)}{ks:Á (κ×V)},kvs.map (·.1)=ks.map (·.1)->ı T ρ H (kvs.map (·.2)) (ks.map (·.2))->(∀v,a6 kvs k=À v->∃x,jl ks k=À x/\VR T ρ H v x)/\(a6 kvs k=none->jl ks k=none)
 |[],ks,e,h=>by
  cases ks with
  |nil=>exact⟨(λv z=>nomatch z),λ_=>rfl⟩
  |cons a r=>cases e
 |p::r,ks,e,h=>by
  cases ks with
  |nil=>cases e
  |cons q t=>
   rw[Î,Î,aU]at e;rw[Î,Î]at h;obtain⟨x,j,c,g,i⟩:=h.cons_inv;rw[aU]at c;obtain⟨d,f⟩:=dZ k e.2 (c.2▸i);unfold a6;by_cases b:p.1=k
   ·rw[Ò b,n_ (e.1▸b)];refine⟨λv z=>?_,λz=>nomatch z⟩;cases z;exact⟨q.2,rfl,c.1▸g⟩
   ·rw[Ø b,n9 (λz=>b (e.1.trans z))];exact⟨d,f⟩
def u7 (k:κ)(b:VR T ρ H v x)(e:kvs.map (·.1)=ks.map (·.1)) (h:ı T ρ H (kvs.map (·.2)) (ks.map (·.2))) :
  (lE kvs k v).map (·.1)=(putK ks k x).map (·.1)/\ı T ρ H ((lE kvs k v).map (·.2)) ((putK ks k x).map (·.2)):=by
 have i:∀{kvs:Á (κ×AV)}{ks:Á (κ×V)},kvs.map (·.1)=ks.map (·.1)->(kvs.any λb=>decide (b.1=k))=(ks.any λb=>decide (b.1=k)):=by
  intro kvs;induction kvs with
  |nil=>intro ks e;cases ks with|nil=>rfl|cons a r=>cases e
  |cons p r g=>
   intro ks e;cases ks with
   |nil=>cases e
   |cons q t=>
    rw[Î,Î,aU]at e;rw[Ų,Ų,g e.2,e.1]
 unfold lE putK;rw[i e];by_cases c:(ks.any λb=>decide (b.1=k))=true
 ·rw[Ò c,Ò c];clear c i;induction kvs generalizing ks with
  |nil=>cases ks with|nil=>exact⟨rfl,.nil⟩|cons a r=>cases e
  |cons p r g=>
   cases ks with
   |nil=>cases e
   |cons q t=>
    rw[Î,Î,aU]at e;rw[Î,Î]at h;obtain⟨y,o,f,m,n⟩:=h.cons_inv;rw[aU]at f;obtain⟨j,l⟩:=g e.2 (f.2▸n);simp only[Î,e.1];by_cases d:q.1=k
    ·rw[Ò d,Ò d,j];exact⟨rfl,.cons b l⟩
    ·rw[Ø d,Ø d,j,e.1];exact⟨rfl,.cons (f.1▸m) l⟩
 ·rw[Ø c,Ø c,ŉ,ŉ,ŉ,ŉ,e];exact⟨rfl,h.append (.one b)⟩
end
def gb:AV->Ë Key
 |.int i=>À (.inl i)
 |.str x=>À (.inr x)
 |_=>none
def hY (h:gb v=À k)(a:VR T ρ H v x):x=kV k:=by
 cases v<;>try cases h
 ·cases a.int_inv;rfl
 ·cases a.str_inv;rfl
def kH (s:S)(i:Nat):Ë (Á (Key×AV)):=match s[i]? with
 |some (.dK xs)=>À xs
 |_=>none
def j9 (h:kH s i=À xs):s[i]?=À (.dK xs):=by
 unfold kH at h;split at h
 ·cases h;assumption
 ·cases h
def kI (h:s[i]?=À (.dK xs)):kH s i=À xs:=by unfold kH;rw[h]
def ô:AV->AV->S->R AV
 |.ref i,y,s=>need (kH s i) λa=>need (gb y) λk=>need (a6 a k) λv=>.ok v s
 |_,_,_=>.bad
def M8 (hu:X.A.units+1<cLine)(f:PE X o s!"x") (G:PE X i (tE T XE n)) (h:Qa i:=by exact λ_ _=>rfl):PE X (.Subscript o i pos) (tE T XE (Ç ô m n)):=
 PE.imp (Fh hu f G h) λσ H Q P=>Ō P λρ u s h F f=>step h F f λv s1 U Y x _ u1 j e c g=>step j e g λw s2 p B y _ N d C l b=>by
  have c:VR T p B v x:=VR.up N c;cases v with
  |ref i=>
   obtain⟨I,q,b⟩:=b.ö;obtain⟨k,r,b⟩:=b.ö;obtain⟨z,t,b⟩:=b.ö;obtain⟨a,ks,rfl,Z,E,L,M⟩:=d.A9 (j9 q) c;obtain⟨O,D,J⟩:=(dZ k L M).1 z t;exact⟨a,O,rfl,by rw[hY r l,<-D];exact jo.k E,b.Ĺ d J⟩
  |_=>exact b.elim
def lD:AV->AV->S->R AV
 |y,.ref i,s=>need (kH s i) λa=>need (gb y) λk=>.ok (.bl (a6 a k).isSome) s
 |_,_,_=>.bad
def eG:AV->AV->S->R AV
 |y,.ref i,s=>need (kH s i) λa=>need (gb y) λk=>.ok (.bl (!(a6 a k).isSome)) s
 |_,_,_=>.bad
def CW {op:AV->AV->S->R AV}{b:Bool->Bool}(j:∀y w s,op y w s=(match w with|.ref i=>need (kH s i) λkvs=>need (gb y) λk=>.ok (.bl (b (a6 kvs k).isSome)) s|_=>.bad)) {m n:Ev}{r:St}{Q:VK}(h:tE T XE (Ç op m n) r H Q) :
  tE T XE m r H λy B=>tE T XE n r B λx A=>∃a o,x=.ref a/\jo A a y o/\Q (.bl (b o.isSome)) A:=by
 obtain⟨ρ,G,s,O,M,N⟩:=h;refine step O M N λv s1 Y B x _ u1 l f p g=>step l f g λw s2 q A y _ P e I d c=>?_;rw[j]at c;have d:VR T q A w y:=d;cases w with
 |ref i=>
  obtain⟨kvs,E,c⟩:=c.ö;obtain⟨k,F,c⟩:=c.ö;obtain⟨a,u,rfl,Z,L,C,D⟩:=e.A9 (j9 E) d;have U:=hY F (VR.up P p);refine⟨a,jl u k,rfl,by rw[U];exact jo.k L,?_⟩;have:(jl u k).isSome=(a6 kvs k).isSome:=by
   cases t:a6 kvs k with
   |none=>rw[(dZ k C D).2 t];rfl
   |some z=>obtain⟨x',J,_⟩:=(dZ k C D).1 z t;rw[J];rfl
  rw[this];exact c.Ĺ e dt
 |_=>exact c.elim
def Ra (hu:X.A.units+1<cLine)(c:PE X i s!"x") (d:PE X o (tE T XE n)) (a:ay .In o=false:=by rfl):PE X (.Compare i [.In] [o] pos) (tE T XE (Ç lD m n)):=
 PE.imp (R9 (DK hu c d) a) λe H Q h=>CW (b:=id) (λy w s=>by cases w<;>rfl) h
def Su (hu:X.A.units+1<cLine)(c:PE X i s!"x") (d:PE X o (tE T XE n)) (a:ay .In o=false:=by rfl):PT X (.Compare i [.In] [o] pos) (kN T XE (cB (Ç lD m n))):=
 PT.imp (DO (DK hu c d) a) λe H Q h=>CW (b:=id) (λy w s=>by cases w<;>rfl) (Fy h)
def Od (hu:X.A.units+1<cLine)(c:PE X i s!"x") (d:PE X o (tE T XE n)) (a:ay .NotIn o=false:=by rfl):PT X (.Compare i [.NotIn] [o] pos) (kN T XE (cB (Ç eG m n))):=
 PT.imp (DO (GW hu c d) a) λe H Q h=>CW (b:=not) (λy w s=>by cases w<;>rfl) (Fy h)
def putD (v d y:AV)(env:En)(s:S):RS:=match d with
 |.ref i=>match kH s i,gb y with
  |some a,À k=>if a.length<sizeLine then .nx env (s.set i (.dK (lE a k v)))else .bad
  |_,_=>.bad
 |_=>.bad
noncomputable def gF (d y v:Ev):Ms:=λe s=>(v e s).aQ λa f=>(d e f).aQ λb g=>(y e g).aQ λc h=>putD a b c e h
def Nq (hu:X.A.units+1<cLine)(C:PE X o s!"x") (hi:PE X i (tE T XE n)) (hv:PE X e (tE T XE r)) (G:eS e (À (.Subscript o i l)) pos.line X.env=pure false:=by rfl):PS X (.Assign [.Subscript o i l] e pos) (tS T XE (gF m n r)):=
 PS.imp (Fp hu C hi hv G) λD σ H zz=>lI zz λρ env s G he C=>dm G he C λv s1 OO H1 x _ u1 J q h E=>dm J q E λd s2 Xn H2 y _ u2 L t j F=>dm L t F λc s3 f B z _ U g u M b=>by
  have j:VR T f B d y:=VR.up U j;have h:VR T f B v x:=VR.up (u2.trans U) h;unfold putD at b;split at b
  ·split at b
   ·rename_i i I k Y Z;obtain⟨hl,b⟩:=b.Ř;obtain⟨a,P,rfl,N,O,Q,q2⟩:=g.A9 (j9 Y) j;have w:I.length=P.length:=by have:=ğ cb Q;simpa using this
    refine⟨a,_,rfl,by rw[hY Z M];exact xq.k O (by rw[<-w];exact hl),?_⟩;obtain⟨p1,p2⟩:=u7 k h Q q2;have p:Up f B f (upd B a (.dK (putK P k x))):=g.t_ N O s!"p" (λ_ _ z=>nomatch z);exact b f _ σ p (g.set N p ⟨_,ă,p1,p2.up p⟩) (u.up p)
   ·exact b.elim
  ·exact b.elim
noncomputable def JY (d y z:AV)(s:S):R AV:=match d with
 |.ref i=>need (kH s i) λa=>need (gb y) λk=>.ok ((a6 a k).getD z) s
 |_=>.bad
def tY (d y z:Ev):Ev:=λe s=>(d e s).bind λa f=>need (kL "dict" a f) λ_=>(y e f).bind λb g=>(z e g).bind λc h=>JY a b c h
def Jc (h:kL "dict" v s=À ()) (d:SR T ρ s H)(c:VR T ρ H v x):∃a,x=.ref a/\WX H a:=by
 have:=vN h d c;cases v with
 |ref i=>
  obtain⟨a,e,rfl⟩:=c.gi;refine⟨a,rfl,?_⟩;rcases this with⟨z,_⟩|⟨z,_⟩|⟨_,⟨b,z⟩|⟨b,z⟩⟩|⟨z,_⟩
  ·exact absurd z s!"i"
  ·exact absurd z s!"i"
  ·exact .inl ⟨b,.inl z⟩
  ·exact .inr ⟨b,.inl z⟩
  ·exact absurd z s!"i"
 |_=>cases h
def M' (hu:X.A.units+1<cLine)(E:PE X o s!"x") (D:PE X e (tE T XE n)) (hf:PE X f (tE T XE r)) (q:M2 X o "get" l e f p:=by exact⟨rfl,rfl,rfl,rfl⟩):PE X (.Call (.Attribute o "get" l) [e,f] [] p) (tE T XE (tY m n r)):=
 PE.imp (J_ hu E D hf q) λσ H Q zz=>Ō zz λρ env s hs D E=>step hs D E λd s1 OO H1 x _ u1 t B g h=>by
  obtain⟨_,Y,h⟩:=h.ö;obtain⟨a,rfl,hd⟩:=Jc Y t g;refine⟨a,rfl,hd,step t B h λw s2 Xn H2 y _ u2 I C J F=>step I C F λz s3 M U z' _ P j er3 L c=>?_⟩;have g:VR T M U d (.ref a):=VR.up (u2.trans P) g;cases d with
  |ref i=>
   obtain⟨G,Z,c⟩:=c.ö;obtain⟨k,e2,c⟩:=c.ö;obtain⟨b,ks,eb,ea,h1,N,O⟩:=j.A9 (j9 Z) g;cases eb;refine⟨jl ks k,by rw[hY e2 (VR.up P J)];exact jo.k h1,?_⟩;cases u:a6 G k with
   |none=>rw[(dZ k N O).2 u];rw[u]at c;exact c.Ĺ j L
   |some v=>obtain⟨x',ex,kx⟩:=(dZ k N O).1 v u;rw[ex];rw[u]at c;exact c.Ĺ j kx
  |_=>exact c.elim
def Dm:Ev:=λ_ s=>.ok s!"h" (s++[.dK []])
def Ve:PE X (.Dict [] [] pos) (tE T XE Dm):=
 PE.imp J' λg H Q ⟨f,a,s,d,e,b⟩ p c=>b.alloc d c ⟨[],ă,rfl,.nil⟩
def Fo:Á (Ev×Ev)->En->S->R (Á (AV×AV))
 |[],_,s=>.ok [] s
 |(a,b)::r,c,s=>(a c s).bind λv d=>(b c d).bind λw e=>(Fo r c e).bind λl f=>.ok ((v,w)::l) f
def qF:Á (AV×AV)->Ë (Á (Key×AV))
 |[]=>À []
 |(a,b)::r=>(gb a).bind λk=>(qF r).map ((k,b)::·)
def zC (kvs more:Á (Key×AV)):Á (Key×AV):=more.foldl (λa b=>lE a b.1 b.2) kvs
def gD (l:Á (Ev×Ev)):Ev:=λb s=>(Fo l b s).bind λd c=>need (qF d) λa=>if a.length<=15 then .ok (.ref c.length) (c++[.dK (zC [] a)])else .bad
def VRp (T:Tx)(ρ:Á Addr)(H:Hp)(ps:Á (AV×AV)) (xs:Á (V×V)):Prop:=ı T ρ H (ps.map (·.1)) (xs.map (·.1))/\ı T ρ H (ps.map (·.2)) (xs.map (·.2))
def bind_assoc (r:R α)(f:α->S->R b)(g:b->S->R c):(r.bind f).bind g=r.bind λa s=>(f a s).bind g:=by cases r<;>rfl
theorem BV:∀(l:Á (Ev×Ev)) {ρ:Á Addr}{s:S}{H:Hp}{k:Á (AV×AV)->S->R α}{F:Á (V×V)->Hp->Prop},SR T ρ s H->ER T ρ H env N->Out T XE rl ρ H ((Fo l env s).bind k) Q->
  (∀ps s1 c A xs,Fo l env s=.ok ps s1->Up ρ H c A->SR T c s1 A->ER T c A env N->VRp T c A ps xs->F xs A)->Aa (l.map λp=>(tE T XE p.1,tE T XE p.2)) N H F
 |[],ρ,s,H,k,F,t,j,n,m=>m [] s ρ H [] rfl .refl t j ⟨.nil,.nil⟩
 |(a,b)::r,ρ,s,H,k,F,t,j,n,m=>by
  have e:(Fo ((a,b)::r) env s).bind k=(a env s).bind λv s1=>(b env s1).bind λw d=>(Fo r env d).bind λl f=>k ((v,w)::l) f:=by
   show((a env s).bind λv s1=>(b env s1).bind λw d=>(Fo r env d).bind λl f=>.ok ((v,w)::l) f).bind k=_;rw[bind_assoc];congr 1;funext v s1;rw[bind_assoc];congr 1;funext w d;rw[bind_assoc];rfl
  rw[e]at n;refine step t j n λv s1 c A x u U B g G o=>step B g o λw d Y Z y z L C h I q=>?_;refine BV r C h q λps f J O xs P E D i M=>m ((v,w)::ps) f J O _ (by have u:a env s=.ok v s1:=u;have z:b env s1=.ok w d:=z;show((a env s).bind λv s1=>(b env s1).bind λw d=>(Fo r env d).bind λl f=>.ok ((v,w)::l) f)=_;rw[u,ï,z,ï,P,ï]) ((U.trans L).trans E) D i ⟨?_,?_⟩
  ·exact .cons (VR.up (L.trans E) G) M.1
  ·exact .cons (VR.up E I) M.2
theorem yq:∀{ps:Á (AV×AV)}{kvs:Á (Key×AV)}{xs:Á (V×V)},qF ps=À kvs->VRp T ρ H ps xs->∃ks:Á (Key×V),xs=ks.map (λi=>(kV i.1,i.2))/\kvs.map (·.1)=ks.map (·.1)/\ı T ρ H (kvs.map (·.2)) (ks.map (·.2))
 |[],kvs,xs,h,c=>by
  cases h;have:=c.1.nil_inv;cases xs with
  |nil=>exact⟨[],rfl,rfl,.nil⟩
  |cons a r=>cases this
 |(a,b)::r,kvs,xs,h,c=>by
  have h:(gb a).bind (λk=>(qF r).map ((k,b)::·))=À kvs:=h;cases d:gb a with
  |none=>rw[d]at h;cases h
  |some k=>
   cases e:qF r with
   |none=>rw[d,e]at h;cases h
   |some q=>
    rw[d,e]at h;cases h;cases xs with
    |nil=>obtain⟨_,_,z,_⟩:=c.1.cons_inv;cases z
    |cons p xs=>
     obtain⟨x1,t,f,j,l⟩:=c.1.cons_inv;obtain⟨x2,u,g,m,n⟩:=c.2.cons_inv;rw[Î,aU]at f g;obtain⟨ks,rfl,o,s⟩:=yq e ⟨f.2▸l,g.2▸n⟩;refine⟨(k,p.2)::ks,?_,by rw[Î,Î,o],.cons (g.1▸m) s⟩;rw[Î,<-hY d (f.1▸j)]
theorem yy:∀{more:Á (Key×AV)}{b:Á (Key×V)}{kvs:Á (Key×AV)}{ks:Á (Key×V)},more.map (·.1)=b.map (·.1)->ı T ρ H (more.map (·.2)) (b.map (·.2))->kvs.map (·.1)=ks.map (·.1)->ı T ρ H (kvs.map (·.2)) (ks.map (·.2))->
  (zC kvs more).map (·.1)=(gZ ks b).map (·.1)/\ı T ρ H ((zC kvs more).map (·.2)) ((gZ ks b).map (·.2))
 |[],b,kvs,ks,e,h,c,d=>by
  cases b with
  |nil=>exact⟨c,d⟩
  |cons a r=>cases e
 |p::r,b,kvs,ks,e,h,c,d=>by
  cases b with
  |nil=>cases e
  |cons q t=>
   rw[Î,Î,aU]at e;rw[Î,Î]at h;obtain⟨y,j,z,f,g⟩:=h.cons_inv;rw[aU]at z;obtain⟨p1,i⟩:=u7 p.1 (z.1▸f) c d;have:=yy (kvs:=lE kvs p.1 p.2) (ks:=putK ks q.1 q.2) e.2 (z.2▸g) (by rw[<-e.1];exact p1) (by rw[<-e.1];exact i);exact this
def M9 (h:O3 X pos c f (l.map λp=>(tE T XE p.1,tE T XE p.2))) (k:c.all (·.isSome)=true:=by rfl) (hl:c.length=f.length:=by rfl)(h0:c≠[]:=by decide)(n:c.length<=15:=by decide):PE X (.Dict c f pos) (tE T XE (gD l)):=
 PE.imp (NR h k hl h0 n) λσ H Q ⟨Y,B,s,r,F,i⟩ p m=>by
  have t:=r.eg (o:=.dK []) m;have J:=r.out m;refine BV l (r.new m) (F.up t) (Out.up t i) λZ w d A xs L x j C U=>?_;unfold gD at i;rw[L,ï]at i;obtain⟨kvs,y,i⟩:=i.ö;obtain⟨hl,i⟩:=i.Ř;obtain⟨ks,rfl,u,M⟩:=yq y U;have hd:=x.fr p _ ă J;have q:kvs.length=ks.length:=by have:=ğ cb u;simpa using this
  refine⟨hd.1,ks,rfl,by rw[<-q];exact hl,?_⟩;obtain⟨G,I⟩:=yy u M (kvs:=[]) (ks:=[]) rfl .nil;have g:Gr d A (d++[p]) (upd A p (.dK (gZ [] ks))):=⟨gp _ _,λb ys e=>by rw[ä (vX e hd.1 (by intro z;cases z))];exact e,λb o v e=>by rw[ä (vX e hd.1 (by intro z;cases z))];exact e⟩
  have D:Gr d A d (upd A p (.dK (gZ [] ks))):=⟨bc,g.lJ,g.jB⟩
  have N:SR T d w (upd A p (.dK (gZ [] ks))):=j.up D λa E=>ä λz=>hd.2 (z▸E);have O:SR T (d++[p]) (w++[.dK (zC [] kvs)]) (upd A p (.dK (gZ [] ks))):=N.add hd.2 ⟨_,ă,G,I.gr g⟩;have P:Up Y H (d++[p]) (upd A p (.dK (gZ [] ks))):=((t.trans x).mod m hd.2).add m;exact i _ _ _ P O (qc (T:=T) (H:=upd A p (.dK (gZ [] ks))) (by rw[ç (by rw[j.len];exact Í _),j.len,oG];rfl))
def Np:O3 X pos [] [] (([]:Á (Ev×Ev)).map λp=>(tE T XE p.1,tE T XE p.2)):=N7
def JE (c:PE X k (tE T XE a)) (d:PE X v (tE T XE b)) (hr:O3 X pos ks vs (l.map λp=>(tE T XE p.1,tE T XE p.2))):O3 X pos (À k::ks) (v::vs) (((a,b)::l).map λp=>(tE T XE p.1,tE T XE p.2)):=Kn c d hr
noncomputable def nN (o i:Ev):Mt:=λv c s=>(o c s).aQ λa e=>(i c e).aQ λb d=>match a,b with
 |.ref k,.int j=>match ù d k with
  |some xs=>match EX xs.length j with
   |some n=>.nx c (d.set k (.lst (xs.set n v)))
   |none=>.bad
  |none=>.bad
 |_,_=>.bad
def Ni (t:PE X o s!"x") (P:PE X i (tE T XE n))
  (N:∀v,k9 (.Subscript o i pos) X.env v=(do
   let h <-c8 [v] (Ė o X.env);let w <-c8 [v,h] (Ė i X.env)
   jX pos
   c8 [v,h,w] (L8 h w v)
   release [v,h,w] []):=by intro _;rfl):PG X (.Subscript o i pos) (tT T XE (nN m n)):=
 PG.imp (Kg t P set_list N) λx σ H Q ⟨ρ,M,s,v,U,O,C,t⟩=>by
  refine dm U O t λa s1 Z H1 y _ Y B q f u=>dm B q u λb s2 d A z _ G e r g c=>?_;have f:VR T d A a y:=VR.up G f;have g:VR T d A b z:=g;have C:VR T d A v x:=VR.up (Y.trans G) C;split at c
  ·rename_i k j;split at c
   ·rename_i xs J;split at c
    ·rename_i n L;obtain⟨p,I,rfl,D,E,F⟩:=e.ef (ċ J) f;cases g.int_inv;have l:Up d A d (upd A p (.lst (I.set n x))):=e.t_ D E s!"p" (λ_ _ z=>nomatch z);exact⟨p,I,_,n,rfl,rfl,E,by rw[<-F.length];exact L,c d _ σ l (e.set D l (OR.lst ă ((F.set n C).up l))) (r.up l)⟩
    ·exact c.elim
   ·exact c.elim
  ·exact c.elim
def NI:nA (nN o i):=λv d s=>by
 unfold nN;cases o d s with
 |bad=>exact .inr (.inr rfl)
 |ex c e=>exact .inr (.inl ⟨_,_,rfl⟩)
 |ok a e=>
  simp only[eY];cases i d e with
  |bad=>exact .inr (.inr rfl)
  |ex c e=>exact .inr (.inl ⟨_,_,rfl⟩)
  |ok b f=>
   simp only[eY];split
   ·split
    ·split
     ·exact .inl ⟨_,_,rfl⟩
     ·exact .inr (.inr rfl)
    ·exact .inr (.inr rfl)
   ·exact .inr (.inr rfl)
def gB:AV->Bool
 |.Ĕ=>true
 |.bl _=>true
 |.int _=>true
 |.str _=>true
 |_=>false
def toV:AV->V
 |.bl b=>.bl b
 |.int b=>.int b
 |.str b=>.str b
 |_=>.Ĕ
def toV_eq (h:gB v=true)(k:VR T ρ H v x):x=toV v:=by
 cases v with
 |Ĕ=>exact k.jh
 |bl b=>exact k.iz
 |int b=>exact k.int_inv
 |str b=>exact k.str_inv
 |_=>cases h
theorem toVs_eq:∀{l:Á AV}{xs:Á V},l.all gB=true->ı T ρ H l xs->xs=l.map toV
 |[],_,_,k=>k.nil_inv
 |v::r,_,h,k=>by
  obtain⟨x,c,rfl,a,b⟩:=k.cons_inv;rw[Ķ,ē]at h;rw[toV_eq h.1 a,toVs_eq h.2 b];rfl
def lu:∀v:AV,mO (toV v)=true:=λv=>by cases v<;>rfl
noncomputable def W_ (v:AV)(xs:Á AV):Bool:=Xa (toV v) (xs.map toV)
def mq (v w:AV)(s:S):R AV:=need (items w s) λxs=>if gB v=true/\xs.all gB=true then .ok (.bl (W_ v xs)) s else .bad
def h8 (v w:AV)(s:S):R AV:=need (items w s) λxs=>if gB v=true/\xs.all gB=true then .ok (.bl (!W_ v xs)) s else .bad
def oIn (m:X.K=T.K):jm X (Ĭ .In) (xh T XE mq):=by
 rintro d s t H x y v u Q I n o ⟨z,a,b,st,f,q,r,c⟩;obtain⟨xs,e,c⟩:=c.ö;obtain⟨⟨i,j⟩,c⟩:=c.Ř;obtain⟨p,w,rfl,l,k⟩:=ot e f r;have g:=toV_eq i q;have h:=toVs_eq j k;subst g h;exact GU d s t H _ _ v u Q I n o ⟨p,_,rfl,by rw[m];exact l,lu a,by simp[lu],c.Ĺ f dt⟩
def Vw (m:X.K=T.K):jm X (Ĭ .NotIn) (xh T XE h8):=by
 rintro d s t H x y v u Q I n o ⟨z,a,b,st,f,q,r,c⟩;obtain⟨xs,e,c⟩:=c.ö;obtain⟨⟨i,j⟩,c⟩:=c.Ř;obtain⟨p,w,rfl,l,k⟩:=ot e f r;have g:=toV_eq i q;have h:=toVs_eq j k;subst g h;exact zO d s t H _ _ v u Q I n o ⟨p,_,rfl,by rw[m];exact l,lu a,by simp[lu],c.Ĺ f dt⟩
noncomputable def qQ:AV->Á AV->S->R AV
 |.ref i,[w],s=>need (ù s i) λxs=>if gB w=true/\xs.all gB=true then .ok (.int ((xs.countP λz=>gA (toV z) (toV w):Nat):Int)) s else .bad
 |_,_,_=>.bad
def Qn:Hv X "list.count" (VT T XE qQ):=by
 rintro c s q H x xs v us Q I m rv ⟨z,a,t,st,d,n,o,b⟩;unfold qQ at b;split at b
 ·obtain⟨w,e,b⟩:=b.ö;obtain⟨⟨h,i⟩,b⟩:=b.Ř;obtain⟨p,u,rfl,r,j,k⟩:=d.ef (ċ e) n;obtain⟨y,rfl,l⟩:=o.g_;have f:=toV_eq h l;have g:=toVs_eq i k;subst f g;refine JJ c s q H _ _ v us Q I m rv ⟨p,_,_,rfl,rfl,j,lu _,by simp[lu],?_⟩;rw[List.countP_map];exact b.Ĺ d a9
 ·exact b.elim
end
section
variable {T:Tx}{XE:iW}{X:Cx}{pos:kR}
structure yZ (T:Tx)(mg:Str->Ë Value)(x:Str)(a:AV):Prop where
 ex:∃v u,mg x=À u/\RelV v u/\∀ρ H,VR T ρ H a v
def Rm (h:yZ T X.mg x a)(e:Gl X x:=by rfl)(hd:(x == ("__debug__":Str))=false:=by decide):PE X (.Name x pos) (tE T XE (mc a)):=by
 obtain⟨v,u,b,c,d⟩:=h.ex;exact Na e b c d hd
def UP (r:cP k A):A.units+30<cLine:=by have:=r.un;lia
def MJ (m:Eb):Eb:=λa s=>(m a s).bind λv b=>open Classical in if b.take s.length=s then .ok v s else .bad
def VO (h:PT X e (kN T XE m)):PT X e (kN T XE (MJ m)):=
 PT.imp h λp H Q n=>Ō n λg b s d i a=>by
  refine⟨g,b,s,d,i,?_⟩;unfold MJ at a;cases e:m b s with
  |bad=>rw[e]at a;exact a
  |ex c j=>rw[e]at a;exact a
  |ok v j=>
   rw[e]at a;obtain⟨f,a⟩:=a.Ř;intro o A x u k l;have:=k.cut u.pre d.len (by rw[f];exact d.closed);rw[f]at this;exact a g A x u.cut this l
def rMG {α:Type}(T:Tx)(XE:iW)(c:Rl α V)(op:AV->Á AV->S->R α):V->Á V->Hp->VK->Prop:=λx xs H Q=>∃a v b s,SR T a s H/\VR T a H v x/\ı T a H b xs/\Out T XE c a H (op v b s) Q
def IU {α:Type}(n:String)(op:AV->Á AV->S->R α)(o:Ev)(r:hR):En->S->R α:=λa s=>(o a s).bind λv b=>need (kL n v b) λ_=>(r a b).bind λd c=>op v d c
def Rx {α:Type}{B:Rl α V}{n id:String}{c:Á Expr}{op:AV->Á AV->S->R α}{m:Ev}{r:hR}(E:X.K=T.K)(J:xi n)(j:Slot n name id)(w:Ua (.builtin id)=pure (.type "method_descriptor")) (I:Hv X id (rMG T XE B op)) (q:PE X o s!"x") (F:PA X (e::c) (tP T XE r))
  (d:a8 o name X.env (Ė o X.env)=Ė o X.env:=by rfl)
  (i:((ģ a (Ì (e::c) X.env)).all (λx=>!x.1)&&(gI a (bP [] X.env)).all (λx=>x.1.isSome)
   && decide ((e::c).length+([]:Á i7).length+(if ([]:Á i7).isEmpty then 0 else 1)<30))=true:=by rfl)
  (f:(h.endLine == a.line)=true:=by rfl) (u:Ì (e::c) X.env=s!"k"::Ì c X.env:=by rfl) (b:(ģ a (Ì c X.env)).any (·.1)=false:=by rfl) :
  PE X (.Call (.Attribute o name h) (e::c) [] a) (tG T XE B (IU n op m r)):=
 PE.imp (J7 E J j w I q F d i f u b) λσ H Q O=>Ō O λρ C s u G q=>by
  refine step u G q λv Z P U x _ u1 k p l g=>?_;obtain⟨_,e,g⟩:=g.ö;exact⟨vN e k l,step k p g λN L A Y xs _ M y D z t=>⟨A,v,N,L,y,VR.up M l,z,t⟩⟩
open PySem.Builtin.Str in
noncomputable def qS:AV->Á AV->S->R (Á AV)
 |.str t,[.str a],s=>if (decide (t.length<a.length)||decide (strKind t<strKind a))=false/\(a.length == 0)=false/\(occurrences t a 0 t.length (t.length+1)).isEmpty=false/\t.length<=1000/\(partsBetween t (occurrences t a 0 t.length (t.length+1)) a.length).length<=1000
   then .ok ((partsBetween t (occurrences t a 0 t.length (t.length+1)) a.length).map AV.str) s else .bad
 |_,_,_=>.bad
def Qo:Hv X "str.split" (rMG T XE (rL T) qS):=by
 rintro c s o H x xs v us Q I j rv ⟨q,a,p,st,k,m,n,b⟩;unfold qS at b;split at b
 ·obtain⟨⟨d,e,f,g,h⟩,b⟩:=b.Ř;cases m.str_inv;obtain⟨y,rfl,i⟩:=n.g_;cases i.str_inv;exact JL c s o H _ _ v us Q I j rv ⟨_,_,rfl,rfl,d,e,f,g,h,λl hl=>b.lst k hl (ı.map (λa=>iS) _)⟩
 ·exact b.elim
def wZ (xs ys:Á AV):Á AV:=(xs.zip ys).map λp=>AV.tup [p.1,p.2]
def yd (xs:Á AV):Á AV:=(Ĉ xs.length).zip xs |>.map λp=>AV.tup [.int (p.1:Int),p.2]
noncomputable def xI (c:Bool)(v:AV)(s:S):Ë (Á AV×Gd):=match v with
 |.tup xs=>if c=true then À (xs,[])else none
 |.sq xs=>if c=true then none else À (xs,[])
 |.ref i=>if c=true then none else (ù s i).map λxs=>(xs,[(i,xs)])
 |_=>none
def wz (h:xI c v s=À (xs,m)) (t:SR T ρ s H)(n:VR T ρ H v x):∃a,x=.ref a/\(∃vs,y4 c T.K H a vs)/\∀d s' H',Up ρ H d H'->SR T d s' H'->r3 m s'->∃vs,y4 c T.K H' a vs/\ı T d H' xs vs:=by
 cases v with
 |tup o=>
  have h:(if c=true then À (o,[])else none)=À (xs,m):=h;split at h
  ·rename_i f;cases h;obtain⟨a,vs,rfl,j,k⟩:=n.cH;refine⟨a,rfl,⟨vs,by unfold y4;rw[Ò f];exact j⟩,λd s' H' u l _=>⟨vs,by unfold y4;rw[Ò f];exact u.S1 j,k.up u⟩⟩
  ·cases h
 |sq o=>
  have h:(if c=true then none else À (o,[]))=À (xs,m):=h;split at h
  ·cases h
  ·rename_i f;cases h;obtain⟨a,vs,rfl,j,k⟩:=n.iQ;refine⟨a,rfl,⟨vs,by unfold y4;rw[Ø f];exact j.G_⟩,λd s' H' u l _=>⟨vs,by unfold y4;rw[Ø f];exact(u.V7 j).G_,k.up u⟩⟩
 |ref i=>
  have h:(if c=true then none else (ù s i).map λxs=>(xs,[(i,xs)]))=À (xs,m):=h;split at h
  ·cases h
  ·rename_i f;cases e:ù s i with
   |none=>rw[e]at h;cases h
   |some o=>
    rw[e]at h;cases h;obtain⟨a,vs,rfl,y,j,k⟩:=t.ef (ċ e) n;refine⟨a,rfl,⟨vs,by unfold y4;rw[Ø f];exact fQ.of j⟩,λd s' H' u l g=>?_⟩;obtain⟨b,w,p,_,q,r⟩:=l.ef (ċ ((EN i _ s').mp g)) (VR.up u n);cases p;exact⟨w,by unfold y4;rw[Ø f];exact fQ.of q,r⟩
 |_=>cases h
def Hi (v w:AV)(s:S):Ë (Á AV×Gd):=
 match xI true v s,xI true w s with
 |some (xs,g),À (a,h)=>À (wZ xs a,g++h)
 |_,_=>match xI false v s,xI false w s with
  |some (xs,g),À (a,h)=>À (wZ xs a,g++h)
  |_,_=>none
def Ln (h:Hi v w s=À r):∃c xs g ys h,xI c v s=À (xs,g)/\xI c w s=À (ys,h)/\r=(wZ xs ys,g++h):=by
 unfold Hi at h;split at h
 ·rename_i xs g ys d a b;cases h;exact⟨true,xs,g,ys,d,a,b,rfl⟩
 ·split at h
  ·rename_i xs g ys d a b;cases h;exact⟨false,xs,g,ys,d,a,b,rfl⟩
  ·cases h
def KI (a b:Ev):Src:=λc s=>(a c s).bind λv e=>(b c e).bind λw d=>need (Hi v w d) λr=>.ok r d
def MH (k:r3 (g++h) s):r3 g s/\r3 h s:=⟨λp a=>k p (eO _ a),λp a=>k p (Ĩ _ a)⟩
def Rz (A:X.K=T.K)(hm:X.mg "zip"=none)(h1:PE X e1 (tE T XE a)) (h2:PE X k (tE T XE b)) (hg:Gl X "zip":=by rfl)
  (G:Ì [e1,k] X.env=(false,Ė e1 X.env)::Ì [k] X.env:=by rfl) (I:Ì [k] X.env=[(false,Ė k X.env)]:=by rfl) (F:(ģ pos (Ì [k] X.env)).any (·.1)=false:=by rfl) :
  PI X (.Tuple es kk OG) (.Call (.Name "zip" p) [e1,k] [] pos) (tW T XE (KI a b)):=
 PI.imp (Sj hg hm h1 h2 G I F) λσ H R zz=>Ō zz λρ env s G he ho=>step G he ho λv s1 OO H1 x _ u1 M o N E=>step M o E λw s2 U H2 y _ u2 i er2 O f=>by
  obtain⟨r,e,f⟩:=f.ö;obtain⟨c,xs,g,n,h,q1,q2,rfl⟩:=Ln e;obtain⟨a1,rfl,x1,w1⟩:=wz q1 i (VR.up u2 N);obtain⟨a2,rfl,x2,w2⟩:=wz q2 i O;refine⟨c,a1,a2,rfl,by rw[A];exact x1,by rw[A];exact x2,f U H2 _ .refl i ⟨λl s' Y u' d gk=>?_⟩⟩;obtain⟨g1,g2⟩:=MH gk;obtain⟨P,J,k2⟩:=w1 l s' Y u' d g1;obtain⟨Q,L,k4⟩:=w2 l s' Y u' d g2;rw[A];have C:=k2.length;have D:=k4.length;refine⟨λj z t=>?_,⟨P,Q,J,L,?_⟩⟩
  ·have m:j<xs.length/\j<n.length:=by
    have:=(Æ.mp t).1;simp only[wZ,É,oC]at this;lia
   have u:z=.tup [xs[j],n[j]]:=by
    have q:(wZ xs n)[j]?=À (.tup [xs[j],n[j]]):=by
     simp[wZ,AB,m.1,m.2]
    rw[q]at t;exact(æ t).symm
   subst u;obtain⟨x3,Z,v3⟩:=k2.get (Å m.1);obtain⟨x4,e4,v4⟩:=k4.get (Å m.2);refine⟨⟨P,Q,x3,x4,J,L,Z,e4⟩,λq H'' ⟨Tt,y1,y2,eq,B,eH,hy⟩=>?_⟩;obtain⟨f1,f2⟩:=hy P Q J L;rw[Z]at f1;rw[e4]at f2;cases f1;cases f2;subst eq eH;exact⟨d.eg B,d.new B,jM (gz.of ă) (ı.up (d.eg B) (.cons v3 (.one v4)))⟩
  ·rw[<-C,<-D];simp only[wZ,É,oC];lia
end
end Mm
namespace Mm
open PySem PySem.W PyProof.Rows
def dk {α:Type}(lt:Nat->Nat->Bool):Xz α->α
 |.ret a=>a
 |.ask i j k=>dk lt (k (lt i j))
theorem jn (lt:Nat->Nat->Bool)(f:α->Xz b):∀t:Xz α,dk lt (t.bind f)=dk lt (f (dk lt t))
 |.ret a=>rfl
 |.ask i j k=>jn lt f (k (lt i j))
def dX (lt:Nat->Nat->Bool){c:Prop}{_:aZ c}(a b:Xz α):dk lt (if c then a else b)=if c then dk lt a else dk lt b:=by split<;>rfl
section
variable {O:KeyOrd}{key:Nat->O.α}
abbrev lM (O:KeyOrd)(key:Nat->O.α):Nat->Nat->Bool:=λi j=>O.blt (key i) (key j)
def Ah (key:Nat->O.α)(x y:Nat):Prop:=O.klt (key x) (key y)∨key x=key y/\x<y
theorem Ah.kle (h:Ah key x y):O.kle (key x) (key y):=by
 rcases h with h|⟨h,_⟩
 ·exact sY h
 ·rw[h];exact w6 _
def Ah.PB (h:¬lM O key x y=true)(k:y<x):Ah key y x:=by
 cases e:O.blt (key y) (key x)with
 |true=>exact .inl e
 |false=>exact .inr ⟨O.total _ _ e (by simpa using h),k⟩
theorem Ah.trans (h:Ah key x y)(k:Ah key y z):Ah key x z:=by
 rcases h with h|⟨h,a⟩
 ·exact .inl (fD h k.kle)
 ·rcases k with k|⟨k,b⟩
  ·exact .inl (by rw[h];exact k)
  ·exact .inr ⟨h.trans k,oE a b⟩
abbrev dM (p:Ē Nat)(i:Nat):Nat:=p.getD i 0
def AZ (key:Nat->O.α)(p:Ē Nat)(k:Nat):Prop:=∀i j,i<j->j<k->Ah key (dM p i) (dM p j)
def Qb (key:Nat->O.α)(p:Ē Nat)(k:Nat):Prop:=∀i j,i<j->j<k->Ah key (dM p j) (dM p i)
structure Pm (p:Ē Nat)(n N:Nat):Prop where
 sz:p.size=N
 le:n<=N
 lo:∀i,i<n->dM p i<n
 hi:∀i,n<=i->i<N->dM p i=i
def qC {p q:Ē Nat}(h:p[i]?=q[j]?):p.getD i 0=q.getD j 0:=by
 rw[Ż,Ż,h]
def ie {p:Ē Nat}(b:j<=p.size)(k:Nat):dM (lR p i j) k=if i<=k/\k<j then dM p (i+j-1-k)else dM p k:=by
 have h:=getElem?_mirror_all (xs:=p) (i:=i) (j:=j) b k;split
 ·rename_i a;rw[Ò a]at h;exact qC h
 ·rename_i a;rw[Ø a]at h;exact qC h
def Pm.rev (h:Pm p n N)(d:j<=n):Pm (lR p i j) n N:=by
 have:=h.sz;have:=h.le;refine⟨(mirror_size _ _ _ _).trans h.sz,h.le,λk c=>?_,λk a b=>?_⟩
 ·rw[ie (by lia)];split
  ·exact h.lo _ (by lia)
  ·exact h.lo _ c
 ·rw[ie (by lia),Ø (by lia)];exact h.hi k a b
def Pm.succ (h:Pm p n N)(c:n<N):Pm p (n+1) N:=⟨h.sz,c,λi b=>by
 by_cases e:i<n
 ·exact d_ (h.lo i e)
 ·rw[h.hi i (by lia) (by lia)];exact b,λi d a=>h.hi i (by lia) a⟩
def KL (d:1<=n)(h:AZ key p n)(k:Ah key (dM p (n-1)) (dM p n)):AZ key p (n+1):=λi j a f=>by
 by_cases c:j<n
 ·exact h i j a c
 ·have e:j=n:=by lia
  subst e;by_cases b:i=j-1
  ·rw[b];exact k
  ·exact(h i (j-1) (by lia) (by lia)).trans k
theorem CK:∀f n,1<=n->n+f<=N->Pm p n N->AZ key p n->∃r,dk (lM O key) (kas_asc p f n)=r/\AZ key p r/\Pm p r N/\n<=r/\r<=n+f/\(r<n+f->lM O key (dM p r) (dM p (r-1))=true)
 |0,n,b,j,a,h=>⟨n,rfl,h,a,Í _,Í _,λz=>absurd z (ŋ _)⟩
 |f+1,n,b,j,a,h=>by
  by_cases c:lM O key (dM p n) (dM p (n-1))=true
  ·refine⟨n,?_,h,a,Í _,by lia,λ_=>c⟩;exact(dX ..).trans (Ò c)
  ·obtain⟨r,e,d,g,k,l,i⟩:=CK f (n+1) (by lia) (by lia) (a.succ (by lia)) (KL b h (.PB c (by rw[a.hi n (Í _) (by lia)];exact a.lo _ (by lia))));refine⟨r,?_,d,g,by lia,by lia,λz=>i (by lia)⟩;exact(dX ..).trans ((Ø c).trans e)
structure Dn (key:Nat->O.α)(p:Ē Nat)(n q N:Nat):Prop where
 pm:Pm p n N
 lq:q+1<=n
 a:Qb key p (n-(q+1))
 b:∀i,i<n-(q+1)->O.klt (key (dM p (n-1))) (key (dM p i))
 c:∀i,n-(q+1)<=i->i<n->key (dM p i)=key (dM p (n-1))
 d:∀i j,n-(q+1)<=i->i<j->j<n->dM p i<dM p j
def Dn.rev (h:Dn key p n q N):Qb key (lR p (n-(q+1)) n) n:=λi j e f=>by
 have:=h.pm.sz;have:=h.pm.le;have:=h.lq;rw[ie (by lia),ie (by lia)];by_cases k:n-(q+1)<=j
 ·rw[Ò ⟨k,f⟩];by_cases g:n-(q+1)<=i
  ·rw[Ò ⟨g,by lia⟩];exact .inr ⟨(h.c _ (by lia) (by lia)).trans (h.c _ (by lia) (by lia)).symm,h.d _ _ (by lia) (by lia) (by lia)⟩
  ·rw[Ø (by lia)];exact .inl (by rw[h.c _ (by lia) (by lia)];exact h.b i (by lia))
 ·rw[Ø (by lia),Ø (by lia)];exact h.a i j e (by lia)
def Dn.one (h:Dn key p n 0 N):Qb key p n:=λi j c d=>by
 by_cases f:j<n-1
 ·exact h.a i j c (by lia)
 ·have e:j=n-1:=by lia
  rw[e];exact .inl (h.b i (by lia))
def Dn.start (d:Pm p n N)(f:1<=n)(c:n<N)(h:Qb key p n)(k:O.klt (key (dM p n)) (key (dM p (n-1)))):Dn key p (n+1) 0 N:=by
 refine⟨d.succ c,by lia,h,λi l=>?_,λi a b=>?_,λi j a b g=>by lia⟩
 ·show O.klt (key (dM p n)) _;by_cases e:i=n-1
  ·rw[e];exact k
  ·exact fD k (h i (n-1) (by lia) (by lia)).kle
 ·rw[show i=n+1-1 by lia]
theorem zj:∀f p n q,n+f<=N->Dn key p n q N->∃r,dk (lM O key) (fH f p n q)=r/\Dn key r.1 r.2.1 r.2.2 N/\n<=r.2.1/\r.2.1<=n+f/\r.1.Perm p
 |0,p,n,q,B,h=>⟨_,rfl,h,Í _,Í _,bB _⟩
 |f+1,p,n,q,B,h=>by
  have I:=h.lq;have J:=h.pm.sz;by_cases c:lM O key (dM p n) (dM p (n-1))=true
  ·have o:∀g:Ē Nat,Pm g n N->Qb key g n->g.Perm p->dM g n=dM p n->key (dM g (n-1))=key (dM p (n-1))->∃r,dk (lM O key) (fH f g (n+1) 0)=r/\Dn key r.1 r.2.1 r.2.2 N/\n<=r.2.1/\r.2.1<=n+(f+1)/\r.1.Perm p:=λg C D E F G=>by
    obtain⟨r,e,k,v,w,l⟩:=zj f g (n+1) 0 (by lia) (.start C (by lia) (by lia) D (by rw[F,G];exact c));exact⟨r,e,k,by lia,by lia,l.trans E⟩
   have e:dk (lM O key) (fH (f+1) p n q)=if q > 0 then dk (lM O key) (fH f (lR p (n-(q+1)) n) (n+1) 0)else dk (lM O key) (fH f p (n+1) 0):=(dX ..).trans ((Ò c).trans (dX ..))
   rw[e];by_cases s:q > 0
   ·rw[Ò s];exact o _ (h.pm.rev (Í _)) h.rev (uf _ _ _ _) (by rw[ie (by lia),Ø (by lia)]) (by rw[ie (by lia),Ò (by lia)];exact h.c _ (by lia) (by lia))
   ·rw[Ø s];have:q=0:=by lia
    subst this;exact o p h.pm h.one (bB _) rfl rfl
  ·have e:dk (lM O key) (fH (f+1) p n q)=if lM O key (dM p (n-1)) (dM p n)=true then (p,n,q)else dk (lM O key) (fH f p (n+1) (q+1)):=(dX ..).trans ((Ø c).trans (dX (lM O key) (c:=lM O key (dM p (n-1)) (dM p n)=true) (.ret (p,n,q)) (fH f p (n+1) (q+1))))
   rw[e];by_cases d:lM O key (dM p (n-1)) (dM p n)=true
   ·rw[Ò d];exact⟨_,rfl,h,Í _,(by show n<=n+(f+1);lia),bB _⟩
   ·rw[Ø d];have m:key (dM p n)=key (dM p (n-1)):=O.total _ _ (by simpa using c) (by simpa using d);have x:n+1-(q+1+1)=n-(q+1):=by lia
    have A:dM p n=n:=h.pm.hi n (Í _) (by lia);obtain⟨r,e,k,v,w,l⟩:=zj f p (n+1) (q+1) (by lia) ⟨h.pm.succ (by lia),by lia,by rw[x];exact h.a,λi u=>by
      show O.klt (key (dM p n)) _;rw[m];exact h.b i (by lia),λi y t=>by
      show _=key (dM p n);by_cases u:i=n
      ·rw[u]
      ·rw[m];exact h.c i (by lia) (by lia),λi j y t H=>by
      by_cases z:j=n
      ·rw[z,A];exact h.pm.lo i (by lia)
      ·exact h.d i j (by lia) t (by lia)⟩
    exact⟨r,e,k,by lia,by lia,l⟩
def Cn (key:Nat->O.α)(N:Nat)(p:Ē Nat)(r:Nat×Ē Nat):Prop:=AZ key r.2 r.1/\1<=r.1/\Pm r.2 r.1 N/\r.2.Perm p
def B8 (d:1<=n)(a:Pm p n N)(h:Qb key p n):Cn key N p (dk (lM O key) (LG n N p)):=by
 have m:=a.sz;have hl:=a.le;have f:AZ key (lR p 0 n) n:=λi j k l=>by
  rw[ie (by lia),ie (by lia),Ò (by lia),Ò (by lia)];exact h _ _ (by lia) (by lia)
 obtain⟨r,e,b,c,g,_⟩:=CK (N-n) n d (by lia) (a.rev (Í _)) f;unfold LG;rw[jn,e];exact⟨b,(by show 1<=r;lia),c,uf _ _ _ _⟩
def tu (j:1<=n)(k:n<N)(l:Pm p n N)(h:Qb key p n)(hl:O.klt (key (dM p n)) (key (dM p (n-1)))):Cn key N p (dk (lM O key) (ja n N p)):=by
 obtain⟨r,e,a,m,o,g⟩:=zj (key:=key) (N-(n+1)) p (n+1) 0 (by lia) (.start l j k h hl);unfold ja;rw[jn,e,dX];split
 ·obtain⟨b,c,d,f⟩:=B8 (by lia) (a.pm.rev (Í _)) a.rev;exact⟨b,c,d,f.trans ((uf _ _ _ _).trans g)⟩
 ·rename_i i;have i:r.2.2=0:=by lia
  rw[i]at a;obtain⟨b,c,d,f⟩:=B8 (by lia) a.pm a.one;exact⟨b,c,d,f.trans g⟩
def Ik (w:1<=N)(h:Pm p 1 N):Cn key N p (dk (lM O key) (LF N p)):=by
 obtain⟨n,e,b,a,d,v,k⟩:=CK (key:=key) (p:=p) (N-1) 1 (Í _) (by lia) h (λi j r g=>by lia);have x:=h.sz;unfold LF;rw[jn,e,dX];split
 ·exact⟨b,d,a,bB _⟩
 ·rename_i t;have u:n≠N:=by simpa using t
  have hl:=k (by lia);rw[dX];split
  ·rename_i r;show Cn key N p (dk (lM O key) (if lM O key (dM p 0) (dM p (n-1))=true then .ret (n,p)else ja n N (lR p 0 n)));rw[dX];split
   ·exact⟨b,d,a,bB _⟩
   ·rename_i c;obtain⟨l,m,o,q⟩:=tu (key:=key) (p:=lR p 0 n) d (by lia) (a.rev (Í _)) (λi j g s=>by
      rw[ie (by lia),ie (by lia),Ò (by lia),Ò (by lia)];exact b _ _ (by lia) (by lia))
     (by
      rw[ie (by lia),ie (by lia),Ø (by lia),Ò (by lia),show 0+n-1-(n-1)=0 by lia];exact fD hl (Cw c))
    exact⟨l,m,o,q.trans (uf _ _ _ _)⟩
  ·have f:n=1:=by lia
   subst f;exact tu (by lia) (by lia) a (λi j g s=>by lia) hl
theorem we (h:AZ key p k)(j:∀i,i<k->dM p i<dM p k):∀f l r,l<=r->r<=k->r-l<=f->(∀i,i<l->Ah key (dM p i) (dM p k))->(∀i,r<=i->i<k->Ah key (dM p k) (dM p i))->
  ∃m,dk (lM O key) (ib p k f l r)=m/\m<=k/\(∀i,i<m->Ah key (dM p i) (dM p k))/\∀i,m<=i->i<k->Ah key (dM p k) (dM p i)
 |0,l,r,s,n,t,b,d=>⟨l,rfl,by lia,b,λi o a=>d i (by lia) a⟩
 |f+1,l,r,s,n,t,b,d=>by
  have e:dk (lM O key) (ib p k (f+1) l r)=if l≥r then l else if lM O key (dM p k) (dM p ((l+r) / 2))=true then dk (lM O key) (ib p k f l ((l+r) / 2))else dk (lM O key) (ib p k f ((l+r) / 2+1) r):=by
   refine(dX ..).trans ?_;congr 1;exact dX ..
  rw[e];by_cases hl:l≥r
  ·rw[Ò hl];exact⟨l,rfl,by lia,b,λi o a=>d i (by lia) a⟩
  ·rw[Ø hl];by_cases c:lM O key (dM p k) (dM p ((l+r) / 2))=true
   ·rw[Ò c];refine we h j f l ((l+r) / 2) (by lia) (by lia) (by lia) b λi o a=>?_;by_cases q:i=(l+r) / 2
    ·rw[q];exact .inl c
    ·exact Ah.trans (.inl c) (h _ i (by lia) a)
   ·rw[Ø c];have g:Ah key (dM p ((l+r) / 2)) (dM p k):=.PB c (j _ (by lia));refine we h j f ((l+r) / 2+1) r (by lia) n (by lia) (λi q=>?_) d;by_cases e:i=(l+r) / 2
    ·rw[e];exact g
    ·exact(h i ((l+r) / 2) (by lia) (by lia)).trans g
def Qi {p:Ē Nat}(c:k<p.size)(hl:l<=k)(i:Nat):dM (FT p k (k-l)) i=if i=l then dM p k else if l<i/\i<=k then dM p (i-1)else dM p i:=by
 have h:=getElem?_bubble (xs:=p) c (k-l) (by lia) i;rw[show k-(k-l)=l by lia]at h;by_cases b:i=l
 ·rw[Ò b]at h⊢;exact qC h
 ·rw[Ø b]at h⊢;by_cases a:l<i/\i<=k
  ·rw[Ò a]at h⊢;exact qC h
  ·rw[Ø a]at h⊢;exact qC h
theorem HY:∀f p k,k+f=N->Pm p k N->AZ key p k->∃r,dk (lM O key) (L4 f p k)=r/\AZ key r N/\r.size=N/\r.Perm p
 |0,p,k,o,a,h=>⟨p,rfl,(by rw[<-o];exact h),a.sz,bB _⟩
 |f+1,p,k,o,a,h=>by
  have B:=a.sz;have s:dM p k=k:=a.hi k (Í _) (by lia);obtain⟨l,e,t,u,v⟩:=we (key:=key) h (λi b=>by rw[s];exact a.lo i b) k 0 k (ê _) (Í _) (by lia) (λi b=>by lia) (λi m n=>by lia);have z:dk (lM O key) (L4 (f+1) p k)=dk (lM O key) (L4 f (FT p k (k-l)) (k+1)):=by
   show dk (lM O key) ((ib p k k 0 k).bind λl=>L4 f (FT p k (k-l)) (k+1))=_;rw[jn,e]
  have g:=Qi (p:=p) (k:=k) (by lia) t;have C:AZ key (FT p k (k-l)) (k+1):=λi j m n=>by
   rw[g,g];by_cases b:i=l
   ·rw[Ò b,Ø (by lia),Ò (by lia)];exact v (j-1) (by lia) (by lia)
   ·rw[Ø b];by_cases c:l<i/\i<=k
    ·rw[Ò c,Ø (by lia),Ò (by lia)];exact h _ _ (by lia) (by lia)
    ·rw[Ø c];by_cases q:j=l
     ·rw[Ò q];exact u i (by lia)
     ·rw[Ø q];by_cases d:l<j/\j<=k
      ·rw[Ò d];exact h _ _ (by lia) (by lia)
      ·rw[Ø d];exact h _ _ m (by lia)
  have p1:Pm (FT p k (k-l)) (k+1) N:=by
   refine⟨(bubble_size _ _ _).trans B,by lia,λi b=>?_,λi m n=>?_⟩
   ·rw[g];split
    ·rw[s];lia
    ·split
     ·exact d_ (a.lo _ (by lia))
     ·exact d_ (a.lo _ (by lia))
   ·rw[g,Ø (by lia),Ø (by lia)];exact a.hi i (by lia) n
  obtain⟨r,A,w,x,y⟩:=HY f (FT p k (k-l)) (k+1) (by lia) p1 C;exact⟨r,z.trans A,w,x,y.trans (bubble_perm _ _ _)⟩
def Fx (f:1<=n):let r:=dk (lM O key) (pC n);AZ key r n/\r.size=n/\r.Perm (ħ (Ĉ n)):=by
 have m:(ħ (Ĉ n)).size=n:=by simp
 have g:∀i,i<n->dM (ħ (Ĉ n)) i=i:=λi a=>by simp[dM,Array.getD,a]
 obtain⟨c,o,b,d⟩:=Ik (key:=key) (p:=ħ (Ĉ n)) f ⟨m,f,λi a=>by rw[g i (by lia)];exact a,λi _ a=>g i a⟩;unfold pC;rw[jn];generalize dk (lM O key) (LF n (ħ (Ĉ n)))=r at *
 have hl:=b.le;rw[dX];split
 ·have l:max r.1 1=r.1:=by lia
  rw[l];obtain⟨q,e,h,j,k⟩:=HY (key:=key) (n-r.1) r.2 r.1 (by lia) b c;rw[e];exact⟨h,j,k.trans d⟩
 ·have:r.1=n:=by lia
  exact⟨(by show AZ key r.2 n;rw[<-this];exact c),b.sz,d⟩
end
def qs {α:Type}(n:Nat)(A:α->Prop):Xz α->Prop
 |.ret a=>A a
 |.ask i j k=>i<n/\j<n/\∀b,qs n A (k b)
theorem qs.bind {α d:Type}{A:α->Prop}{Pq:d->Prop}{f:α->Xz d}(c:∀a,A a->qs n Pq (f a)):∀{t:Xz α},qs n A t->qs n Pq (t.bind f)
 |.ret a,h=>c a h
 |.ask i j k,h=>⟨h.1,h.2.1,λb=>qs.bind c (h.2.2 b)⟩
def AllLt (n:Nat)(p:Ē Nat):Prop:=∀i,p.getD i 0<n
def allLt_of (a:1<=n)(h:∀x∈p.toList,x<n):AllLt n p:=λi=>by
 rw[Ż];cases e:p[i]? with
 |none=>exact a
 |some x=>exact h x (by rw[ph];exact Array.mem_of_getElem? e)
def AllLt.rev (b:1<=n)(h:AllLt n p)(i j:Nat):AllLt n (lR p i j):=allLt_of b λx f=>by
 have:x∈p.toList:=by
  have d:=(uf p i j ((j-i) / 2))
  exact(en.mp d).mem_iff.mp f
 obtain⟨k,c,e⟩:=ļ this;have:=h k;rw[Ż]at this;have a:p[k]?=À x:=by rw[<-aA,Å c,e]
 rw[a]at this;exact this
def AllLt.bub (b:1<=n)(h:AllLt n p)(i j:Nat):AllLt n (FT p i j):=allLt_of b λx d=>by
 have:x∈p.toList:=(en.mp (bubble_perm p i j)).mem_iff.mp d;obtain⟨k,c,e⟩:=ļ this;have:=h k;rw[Ż]at this;have a:p[k]?=À x:=by rw[<-aA,Å c,e]
 rw[a]at this;exact this
theorem CJ (h:AllLt n p):∀f m,qs n (λ_=>True) (kas_asc p f m)
 |0,m=>trivial
 |f+1,m=>⟨h _,h _,λb=>by
  show qs n _ (if b=true then .ret m else kas_asc p f (m+1));split
  ·trivial
  ·exact CJ h f (m+1)⟩
theorem uV (a:1<=n):∀(f:Nat) {p:Ē Nat}(m q:Nat),AllLt n p->qs n (λr=>AllLt n r.1) (fH f p m q)
 |0,p,m,q,h=>h
 |f+1,p,m,q,h=>⟨h _,h _,λb=>by
  show qs n _ (if b=true then (if q > 0 then fH f (lR p (m-(q+1)) m) (m+1) 0 else fH f p (m+1) 0)else .ask (p.getD (m-1) 0) (p.getD m 0) λd=>if d=true then .ret (p,m,q)else fH f p (m+1) (q+1));split
  ·split
   ·exact uV a f _ _ (h.rev a _ _)
   ·exact uV a f _ _ h
  ·refine⟨h _,h _,λd=>?_⟩;show qs n _ (if d=true then .ret (p,m,q)else fH f p (m+1) (q+1));split
   ·exact h
   ·exact uV a f _ _ h⟩
def B7 (c:1<=n){p:Ē Nat}(h:AllLt n p)(m b:Nat):qs n (λr=>AllLt n r.2) (LG m b p):=by
 have a:=CJ (h.rev c 0 m) (b-m) m;unfold LG;refine qs.bind (Pq:=λr:Nat×Ē Nat=>AllLt n r.2) (λq _=>?_) a;exact h.rev c 0 m
def tr (b:1<=n){p:Ē Nat}(h:AllLt n p)(m a:Nat):qs n (λr=>AllLt n r.2) (ja m a p):=
 qs.bind (λr hr=>by
  show qs n _ (if r.2.2 > 0 then _ else _);split
  ·exact B7 b (AllLt.rev b hr _ _) _ _
  ·exact B7 b hr _ _) (uV b _ _ _ h)
def Ij (b:1<=n){p:Ē Nat}(h:AllLt n p)(a:Nat):qs n (λr=>AllLt n r.2) (LF a p):=
 qs.bind (λm _=>by
  show qs n _ (if (m == a)=true then .ret (m,p)else if m > 1 then .ask (p.getD 0 0) (p.getD (m-1) 0) λc=>if c=true then .ret (m,p)else ja m a (lR p 0 m)else ja m a p);split
  ·exact h
  ·split
   ·refine⟨h _,h _,λc=>?_⟩;show qs n _ (if c=true then .ret (m,p)else ja m a (lR p 0 m));split
    ·exact h
    ·exact tr b (h.rev b _ _) _ _
   ·exact tr b h _ _) (CJ h _ _)
theorem wd (h:AllLt n p)(k:Nat):∀f l r,qs n (λ_=>True) (ib p k f l r)
 |0,l,r=>trivial
 |f+1,l,r=>by
  show qs n _ (if l≥r then .ret l else .ask (p.getD k 0) (p.getD ((l+r) / 2) 0) λc=>if c=true then ib p k f l ((l+r) / 2)else ib p k f ((l+r) / 2+1) r);split
  ·trivial
  ·refine⟨h _,h _,λc=>?_⟩;show qs n _ (if c=true then ib p k f l ((l+r) / 2)else ib p k f ((l+r) / 2+1) r);split
   ·exact wd h k f _ _
   ·exact wd h k f _ _
theorem HX (a:1<=n):∀(f:Nat) {p:Ē Nat}(k:Nat),AllLt n p->qs n (λ_=>True) (L4 f p k)
 |0,p,k,h=>trivial
 |f+1,p,k,h=>qs.bind (λl _=>HX a f _ (h.bub a _ _)) (wd h k k 0 k)
def Fw (a:1<=n):qs n (λ_=>True) (pC n):=
 qs.bind (λr hr=>by
  show qs n _ (if r.1<n then _ else _);split
  ·exact HX a _ _ hr
  ·trivial) (Ij a (allLt_of a λx b=>by simpa using b) n)
theorem Le (c:∀i j C,i<n->j<n->C (lt i j) s->cmp i j C s):∀{t:Xz α},qs n (λ_=>True) t->Q (dk lt t) s->t.kasWp cmp Q s
 |.ret a,_,h=>h
 |.ask i j k,b,h=>c i j _ b.1 b.2.1 (Le c (b.2.2 _) h)
section
variable {prog:ď}{w:ī}{A:Ň}{E:Value->Ó->Prop}{s:Ó}{a:Addr}{vs:Á Value}
def Ou {O:KeyOrd}{key:Nat->O.α}{κ:pA}{P:LX->Ó->Prop}(l:s.heap.get? a=À (đ "list" vs.toArray n)) (F:2<=vs.length)(q:vs.length<64)
  (t:∀h':Heap,(∀b o,b≠a->s.heap.get? b=À o->h'.get? b=À o)->∀Q:pA->Ó->Prop,Q κ {s with heap:=h'}->Ù s!"j" A (P4 vs.toArray) Q (λ_ _=>False) {s with heap:=h'})
  (G:∀h':Heap,(∀b o,b≠a->s.heap.get? b=À o->h'.get? b=À o)->∀i j C,i<vs.length->j<vs.length->C (O.blt (key i) (key j)) {s with heap:=h'}->Ù s!"j" A (keyLt' κ (vs.getD i ó) (vs.getD j ó)) C (λ_ _=>False) {s with heap:=h'})
  (h:∀p:Ē Nat,AZ key p vs.length->p.size=vs.length->p.Perm (ħ (Ĉ vs.length))->P (.done (.ret .none)) {s with heap:=sortedHeap s.heap a vs (ħ (p.toList.map λi=>vs.getD i ó))}) :
  Ù s!"j" A (cC.«list.sort» ⟨[.ref a],[]⟩) P E s:=by
 have M:a<s.heap.objs.size:=Ô l;obtain⟨m,g⟩:∃m,(s.heap.update a (ú λ_=>(#[]:Ē Value))).get? a=À (đ "list" #[] m):=⟨_,k_ l λ_=>#[]⟩
 rw[Z'];refine Ã (yU l rfl ?_);refine Ã (eR l rfl ?_ (by rw[Ú,İ];lia) (ê _));refine Ã (oj g rfl ?_);refine Ã (ui ?_ (by show vs.length<=_;rw[İ];lia));refine Ã (gK ?_ (ê _));refine œ ?_;show Ù s!"j" A _ P E {s with heap:=s!"a".push s!"r"};dsimp only;have f:¬vs.toArray.size<2:=by rw[Ú];lia
 rw[Ø f,Ø f];have d:∀b o,b≠a->s.heap.get? b=À o->(s!"a".push s!"r").get? b=À o:=λb o H e=>
  Ä _ (Ä _ ((í _ _ (ō H)).trans e))
 refine Ã (aB (t _ d _ ?_) (λκ Z t=>t) λ_ _ x=>x.elim);have ask:=Le (cmp:=kas_ask prog w A κ vs) (lt:=lM O key) (s:={s with heap:=s!"a".push s!"r"})
  (Q:=λp v=>p=dk (lM O key) (pC vs.length)/\v={s with heap:=s!"a".push s!"r"}) (λi j C J L hC=>G _ d i j C J L hC) (Fw (by lia)) ⟨rfl,rfl⟩
 refine Ã (aB (kat_run (Q:=λc s'=>∃p:Ē Nat,p.size=vs.length/\arrOf c=p.map (kas_item (vs.toArray.zip vs.toArray))/\failedOf c=none/\p=dk (lM O key) (pC vs.length)/\s'={s with heap:=s!"a".push s!"r"})
  rfl F q (λT c s' z B D y=>⟨T,z,B,D,y.1,y.2⟩) ask) ?_ λ_ _ e=>e)
 rintro⟨⟨⟩,c⟩ s' ⟨p,N,r,I,rfl,rfl⟩;dsimp only;have k:=kat_snds rfl r;have u:(ħ ((dk (lM O key) (pC vs.length)).toList.map λi=>vs.getD i ó)).size=vs.length:=by rw[Ú,É,Ļ,N]
 rw[k];have na:(s!"a".push s!"r").get? a=À (đ "list" #[] m):=Ä _ (Ä _ g);refine Ã (oj na rfl ?_);refine Ã (eR na rfl ?_ (ê _) (ĺ (kn u) (by rw[İ];lia)));rw[I];simp only[yQ,ŷ,fG];obtain⟨U,X,Y⟩:=Fx (key:=key) (n:=vs.length) (by lia);exact Ê (h _ U X Y)
end
end Mm
namespace L2
open PySem PySem.Spec PyProof.Rows
def ş.qa (x:ş P w H h a o):∃u,h.get? a=À u:=by
 cases o with
 |lst xs=>obtain⟨_,_,_,_,e⟩:=x;exact⟨_,e⟩
 |tup xs=>obtain⟨_,_,_,⟨_,e,_⟩⟩:=x;exact⟨_,e⟩
 |dK b=>obtain⟨_,_,_,_,o,_,_,e,_⟩:=x;exact⟨_,e⟩
 |dT b=>obtain⟨_,_,_,_,o,_,_,e,_⟩:=x;exact⟨_,e⟩
 |set S n=>obtain⟨o,_,_,_,e,_⟩:=x;exact⟨_,e⟩
 |ins C d c=>obtain⟨_,_,_,e,_⟩:=x;exact⟨_,e⟩
 |own y=>obtain⟨_,e⟩:=x;exact⟨_,e⟩
 |xd c=>obtain⟨_,⟨_,_,_,e,_⟩,_⟩:=x;exact⟨_,e⟩
 |VY lo g=>obtain⟨_,_,_,e⟩:=x;exact⟨_,e⟩
 |iY i u=>obtain⟨e,_⟩:=x;exact⟨_,e⟩
 |rm j=>exact⟨_,show h.get? a=À _ from x⟩
 |met f y=>exact⟨_,show h.get? a=À _ from x⟩
 |ext k=>obtain⟨_,⟨_,e⟩,_⟩:=x;exact⟨_,e⟩
def Inv.grown (I:Inv X d h H s)(k:∀b u,s.heap.get? b=À u->h'.get? b=À u)(e:∀b u,s.heap.get? b=À u->H' b=H b)
  (f:∀b o,s.heap.get? b=none->H' b=À o->ş X.prog X.w H' h' b o):Inv X d h H' {s with heap:=h',toks:=t'}:=by
 have a:∀b o,H b=À o->H' b=À o:=λb o z=>by
  obtain⟨u,hu⟩:=(I.ţ b o z).qa;rw[e b u hu];exact z
 refine I.un ⟨λb u q _ _ _=>k b u q,λb u q _ _ _=>⟨u.slots,k b u q⟩,λb u q n _=>by rw[e b u q];exact n,λb u q _=>⟨u,k b u q⟩,λb xs q=>a b _ q,λb u xs q=>a b _ q,λb i q=>⟨#[],by rw[a b _ q];simp⟩⟩ λb o z=>?_;cases g:s.heap.get? b with
 |some u=>
  rw[e b u g]at z;exact(I.ţ b o z).oY (λc u _ q=>k c u q) (λc q=>a c _ q) λc xs q=>a c _ q
 |none=>exact f b o g z
def BC (a b:Str):Bool:=!decide (b.cps.toList<a.cps.toList)
def Gu (a:Str):Á Str->Á Str
 |[]=>[a]
 |b::r=>if BC a b=true then a::b::r else b::Gu a r
def þ:Á Str->Á Str
 |[]=>[]
 |a::r=>Gu a (þ r)
theorem sd (a:Str):∀l,(Gu a l).Perm (a::l)
 |[]=>.refl _
 |b::r=>by
  unfold Gu;split
  ·exact .refl _
  ·exact((sd a r).cons b).trans (.swap a b r)
theorem my:∀l,(þ l).Perm l
 |[]=>.refl _
 |a::r=>(sd a (þ r)).trans ((my r).cons a)
abbrev oS:KeyOrd:=strKind.toKeyOrd
abbrev F' (a:Str):oS.α:=a.cps.toList
def kg:BC a b=true ↔ oS.kle (F' a) (F' b):=by
 unfold BC WA;show(!decide (b.cps.toList<a.cps.toList))=true ↔ decide (b.cps.toList<a.cps.toList)=false;simp
def GD (a b:Str)(h:BC a b≠true):BC b a=true:=by
 rw[kg];refine Cw λz=>?_;exact h (kg.mpr (sY z))
def yu (h:BC a b=true)(k:BC b c=true):BC a c=true:=by
 rw[kg]at *
 exact h_ h k
def vS (h:BC a b=true)(k:BC b a=true):a=b:=by
 rw[kg]at *
 have e:a.cps.toList=b.cps.toList:=FG h k;cases a with|mk x=>cases b with|mk y=>exact ğ Str.mk (vc.mp e)
theorem tI (a:Str):∀{l:Á Str},l.Pairwise (λx y=>BC x y=true)->(Gu a l).Pairwise (λx y=>BC x y=true)
 |[],_=>nq _ _
 |b::r,h=>by
  unfold Gu;split
  ·rename_i c;refine Œ.mpr ⟨λx hx=>?_,h⟩;rcases Þ.mp hx with rfl|hx
   ·exact c
   ·exact yu c ((Œ.mp h).1 x hx)
  ·rename_i c;refine Œ.mpr ⟨λx hx=>?_,tI a (Œ.mp h).2⟩;rcases Þ.mp ((sd a r).mem_iff.mp hx)with rfl|hx
   ·exact GD _ _ c
   ·exact(Œ.mp h).1 x hx
theorem qW:∀l,(þ l).Pairwise (λx y=>BC x y=true)
 |[]=>oB
 |a::r=>tI a (qW r)
theorem kj {α:Type}{le:α->α->Bool}(c:∀a b,le a b=true->le b a=true->a=b):∀{l q:Á α},l.Perm q->l.Pairwise (λx y=>le x y=true)->q.Pairwise (λx y=>le x y=true)->l=q
 |[],q,p,_,_=>(List.nil_perm.mp p).symm
 |a::r,q,p,h,k=>by
  cases q with
  |nil=>exact absurd (p.length_eq) (by simp)
  |cons b t=>
   have d:a=b:=by
    rcases Þ.mp (p.mem_iff.mp Ń)with e|ha
    ·exact e
    ·rcases Þ.mp (p.mem_iff.mpr Ń)with e|hb
     ·exact e.symm
     ·exact c _ _ ((Œ.mp h).1 b hb) ((Œ.mp k).1 a ha)
   subst d;rw[kj c p.cons_inv (Œ.mp h).2 (Œ.mp k).2]
def p_ {l q:Á Str}(p:l.Perm q)(h:l.Pairwise (λx y=>BC x y=true)):l=þ q:=
 kj (λ_ _=>vS) (p.trans (my q).symm) h (qW q)
theorem jk:∀{l:Á Str},sortedS l=true->l.Pairwise (λx y=>BC x y=true)
 |[],_=>.nil
 |[a],_=>nq _ _
 |a::b::r,h=>by
  have h:(!ltCps b.cps.toList a.cps.toList&&risingS b r)=true:=h;rw[ē]at h;have d:(b::r).Pairwise (λx y=>BC x y=true):=jk h.2;have c:BC a b=true:=by
   have:=h.1;rw[ltCps_eq]at this;exact this
  refine Œ.mpr ⟨λx hx=>?_,d⟩;rcases Þ.mp hx with rfl|hx
  ·exact c
  ·exact yu c ((Œ.mp d).1 x hx)
theorem wC:∀{l:Á Value}{ks:Á Str},l.length=ks.length->(∀j (a:j<ks.length),∃t,l[j]?=À (.str ks[j] t))->WD l ks
 |[],[],_,_=>.nil
 |[],_::_,h,_=>by simp at h
 |_::_,[],h,_=>by simp at h
 |v::r,k::q,h,g=>by
  obtain⟨t,e⟩:=g 0 (by simp);simp at e;subst e;exact .cons k t (wC (by simpa using h) λj a=>by
   obtain⟨t,e⟩:=g (j+1) (by simpa using a);exact⟨t,by simpa using e⟩)
def MY {kvs:Á (Key×V)}(a:KV kvs vs){ks:Á Str}(c:kvs.map (·.1)=ks.map bt) (e:vs[j]?=À (k,x)) (f:j<ks.length):k=bt ks[j]:=by
 have d:(vs.map (·.1))=kvs.map (·.1):=by
  clear c e;unfold KV at a;induction a with
  |nil=>rfl
  |cons h _ g=>rw[Î,Î,g,h.1]
 have b:(vs.map (·.1))[j]?=À k:=by rw[î,e];rfl
 rw[d,c,î,Å f]at b;exact(æ b).symm
def SH:Á V->Hp->VK->Prop:=λxs H Q=>∃d a b,xs=[.ref d]/\H d=À (.dK a)/\a.map (·.1)=b.map bt/\b.length<64/\∀l,H l=none->Q (.ref l) (upd H l (.lst ((þ b).map V.str)))
def CP {X:Cx}(hc:X.calm=true):aG X (.builtin "sorted") SH:=by
 rintro P s σ H xs us Q I rv ⟨d,kvs,l,rfl,hH,O,B,q⟩;obtain⟨u,rfl,ru⟩:=rv.one;cases (show u=Ñ d from ru);obtain⟨z,hd,T,n,dd⟩:=Iw I.ţ hH;obtain⟨ep,E⟩:=dd.dictAt;have G:T.length=l.length:=by
  have v:=ğ cb O;have y:=n.length;rw[É,É]at v;lia
 have hh:=I.ok.hd hc;refine fM Co yV yT (L0 _) ?_;unfold cC.«sorted»;refine Ã (m:=FV "sorted" 1 1 _) (Ê ?_);refine Ã (PySem.W.kdu_collect (A:=X.A.in1) (PySem.W.kdl_dict (knd:=ſ X.prog X.w) (kvs:=T) (ep:=ep) hd) hh E (by rw[<-n.length];exact z) λf tk a h g=>?_);have hl:a.toList.length=l.length:=by rw[Ļ,g.1,G]
 have D:WD a.toList l:=wC hl λj N=>by
  have p:j<a.size:=by rw[<-Ļ,hl];exact N
  obtain⟨k,x,r,e2⟩:=g.2 j a[j] (by rw[ax p]);have ek:k=bt l[j]:=MY n O r N;subst ek;obtain⟨t,et⟩:=Hu (show AK l[j] a[j]=true from e2);exact⟨t,by rw[aA,ax p,et]⟩
 refine Ã (gK ?_ (by rw[hl];exact ę (Ŕ (by lia))));have i:(f.push (đ "list" a.toList.toArray 0)).get? f.objs.size=À (đ "list" a.toList.toArray 0):=Ö _ rfl;refine Ã (œ (ĭ FZ ⟨_,i,rfl⟩ CD (list_sort_treeK strKind_oneLt i D.keysOf (λU Y rest e=>keyKind_strs (by rw[<-e];exact D)) (by rw[hl];exact B) λL Z a2=>⟨_,rfl,?_⟩) (args_list_sort _)));obtain⟨J,v,y,h3⟩:=sorted_out_str D Z a2;have r:J=þ l:=p_ y (jk h3);subst r;have c:∀b u,s.heap.get? b=À u->b≠f.objs.size:=λb u e=>ñ (Ô (h b u e));have C:H f.objs.size=none:=by
  cases q0:H f.objs.size with
  |none=>rfl
  |some o=>obtain⟨u,hu⟩:=(I.ţ _ o q0).qa;exact absurd rfl (c _ u hu)
 obtain⟨ec,F⟩:=sortedHeap_at i (out:=(arrOf L).map (·.2));refine Ê ⟨_,rfl,.ref f.objs.size,upd H f.objs.size (.lst ((þ l).map V.str)),?_,rfl,q _ C⟩;refine I.grown (λb u e=>?_) (λb u e=>ä (c b u e)) λb o e z=>?_
 ·rw[sortedHeap_old (c b u e) (by rw[Ł];exact d_ (Ô (h b u e)))];exact Ä _ (h b u e)
 ·by_cases M:b=f.objs.size
  ·subst M;rw[ă]at z;cases z;refine⟨by rw[É,y.length_eq];exact ę (Ŕ (by lia)),_,ec,iR v,?_⟩;rw[F]
  ·rw[ä M]at z;obtain⟨u,hu⟩:=(I.ţ b o z).qa;rw[e]at hu;cases hu
end L2
namespace Mm
open PySem PySem.W PyProof.Rows
section
variable {prog:ď}{w:ī}{A:Ň}{E:Value->Ó->Prop}{s:Ó}{a:Addr}{vs:Á Value}
def KH {O:KeyOrd}{key:Nat->O.α}{κ:pA}{P:LX->Ó->Prop}(d:s.heap.get? a=À (đ "list" vs.toArray n)) (l:vs.length<64)
  (v:∀h':Heap,2<=vs.length->(∀b o,b≠a->s.heap.get? b=À o->h'.get? b=À o)->∀Q:pA->Ó->Prop,Q κ {s with heap:=h'}->Ù s!"j" A (P4 vs.toArray) Q (λ_ _=>False) {s with heap:=h'})
  (t:∀h':Heap,(∀b o,b≠a->s.heap.get? b=À o->h'.get? b=À o)->∀i j C,i<vs.length->j<vs.length->C (O.blt (key i) (key j)) {s with heap:=h'}->Ù s!"j" A (keyLt' κ (vs.getD i ó) (vs.getD j ó)) C (λ_ _=>False) {s with heap:=h'})
  (h:∀p:Ē Nat,AZ key p vs.length->p.size=vs.length->p.Perm (ħ (Ĉ vs.length))->P (.done (.ret .none)) {s with heap:=sortedHeap s.heap a vs (ħ (p.toList.map λi=>vs.getD i ó))}) :
  Ù s!"j" A (cC.«list.sort» ⟨[.ref a],[]⟩) P E s:=by
 by_cases m:2<=vs.length
 ·exact Ou d m l (λh' k=>v h' m k) t h
 ·have x:a<s.heap.objs.size:=Ô d;obtain⟨g,f⟩:∃g,(s.heap.update a (ú λ_=>(#[]:Ē Value))).get? a=À (đ "list" #[] g):=⟨_,k_ d λ_=>#[]⟩
  rw[Z'];refine Ã (yU d rfl ?_);refine Ã (eR d rfl ?_ (by rw[Ú,İ];lia) (ê _));refine Ã (oj f rfl ?_);refine Ã (ui ?_ (by show vs.length<=_;rw[İ];lia));refine Ã (gK ?_ (ê _));refine œ ?_;show Ù s!"j" A _ P E {s with heap:=s!"a".push s!"r"};dsimp only;have c:vs.toArray.size<2:=by rw[Ú];lia
  rw[Ò c,Ò c];refine Ã (Ê ?_);rw[LZ];refine Ã (Ê ?_);dsimp only;have na:(s!"a".push s!"r").get? a=À (đ "list" #[] g):=Ä _ (Ä _ f);refine Ã (oj na rfl ?_);refine Ã (eR na rfl ?_ (ê _) (by rw[Array.size_map];show(pairsOf vs).size<=_;rw[pairsOf_size,İ];lia));simp only[yQ,ŷ,fG];have q:=h (ħ (Ĉ vs.length)) (λi j y z=>by lia) (by simp) (bB _);have e:ħ ((ħ (Ĉ vs.length)).toList.map λi=>vs.getD i ó)=(vs.toArray.zip vs.toArray).map (·.2):=by
   apply vc.mp;apply ng
   ·simp
   ·intro i r B;have u:i<vs.length:=by simpa using r
    simp[u]
  rw[e]at q;exact Ê q
end
end Mm
namespace L2
open PySem PySem.Spec PyProof.Rows
def IZ {as:Á Addr}(nd:as.Nodup)(b:j<as.length):as.idxOf as[j]=j:=by
 have a:=List.idxOf_lt_length_of_mem (e9 b);exact(bx nd).mp (List.getElem_idxOf a)
def nJ (h:Q true s):Ù s!"j" A (eqBool v v) Q E s:=by
 unfold eqBool;refine œ ?_;rw[Ò (AL v)];exact Ã (b9 (Ê h))
end L2
namespace Mm
open PySem L2
noncomputable def mz:Á (Key×AV)->Ë (Á Str)
 |[]=>À []
 |(.inr x,_)::r=>(mz r).map (x::·)
 |_::_=>none
theorem t9:∀{kvs:Á (Key×AV)}{ks:Á Str},mz kvs=À ks->kvs.map (·.1)=ks.map bt
 |[],_,h=>by cases h;rfl
 |(.inr x,v)::r,ks,h=>by
  have h:(mz r).map (x::·)=À ks:=h;cases e:mz r with
  |none=>rw[e]at h;cases h
  |some q=>rw[e]at h;cases h;rw[Î,t9 e];rfl
 |(.inl x,v)::r,ks,h=>by cases h
def l6 (m:Ev):hR:=λa s=>(m a s).bind λv d=>match v with
 |.ref i=>need (kH d i) λb=>need (mz b) λc=>if c.length<64 then .ok ((þ c).map .str) d else .bad
 |_=>.bad
section
variable {T:Tx}{XE:iW}{X:Cx}{pos:kR}
def Jy (u:X.mg "sorted"=none)(h:PE X e s!"x") (f:X.calm=true:=by rfl)(t:Gl X "sorted":=by rfl)(d:Ì [e] X.env=s!"k"::Ì [] X.env:=by rfl) (g:(ģ pos (Ì [] X.env)).any (·.1)=false:=by rfl) :
  PE X (.Call (.Name "sorted" p) [e] [] pos) (tL T XE (l6 m)):=
 PE.imp (cW (CP f) t u ũ (aS h eI d) s!"i" s!"i" d g) λN H Q D=>Ō D λM o s y d w=>step y d w λv J E F x _ L c q j b=>by
  cases v with
  |ref i=>
   obtain⟨A,k,b⟩:=b.ö;obtain⟨z,n,b⟩:=b.ö;obtain⟨hl,b⟩:=b.Ř;obtain⟨a,C,rfl,G,r,B,I⟩:=c.A9 (j9 k) j;exact⟨a,C,z,rfl,r,by rw[<-B];exact t9 n,hl,λl hl=>b.lst c hl (ı.map (λ_=>iS) _)⟩
  |_=>exact b.elim
end
end Mm
namespace Ro
open PySem L2 Mm
def boot_min:ĥ "min"=À (.builtin "min"):=by decide+kernel
def O' (env:En):Nat:=match (env[(1:Nat)]?:Ë (Ë AV))with
 |some (À (.int i))=>i.natAbs+1
 |_=>0
def Pa (env:En):Nat:=match (env[(4:Nat)]?:Ë (Ë AV))with
 |some (À (.int i))=>i.natAbs+1
 |_=>0
def cw:AV:=.tup [.int 0,.int 1]
def yo:AV:=.tup [.int 1,.int 1]
def ū:AV:=.tup [.str "of",.str "steps"]
def fy:Ms:=
 (ã (jV 0 1 (Â (sh t5 s!"u") (Â (sh t5 s!"t") Ï)))
 (ã (KD (λa _=>O' a) (cB (Ç ji (mv 1) s!"c")) (jV 0 1 (Â (mv 1) (Â (Ç gh (mv 0) (mv 1)) Ï))))
 (Č (mv 0))))
def ű:Á AV->S->R AV:=bH 2 fy
def CL:Ms:=
 (ã (oX (mv 0) (gT 2 (ß (gN 5) (ß (gN 6) ś))))
 (ã (oX (mv 1) (gT 2 (ß (gN 7) (ß (gN 8) ś))))
 (ã (ņ 2 (å 2 ű (Â (mv 6) (Â (mv 8) Ï))))
 (ã (ņ 3 (Ç ť (Ç bY (mv 5) (Ç iP (mv 8) (mv 2))) (Ç bY (mv 7) (Ç iP (mv 6) (mv 2)))))
 (ã (ņ 4 (å 2 ű (Â (mv 3) (Â (mv 2) Ï))))
 (Č (Ť (Â (Ç iP (mv 3) (mv 4)) (Â (Ç bY (Ç iP (mv 6) (mv 2)) (Ç iP (mv 8) (mv 4))) Ï)))))))))
def rZ:Á AV->S->R AV:=bH 9 CL
def vo:Ms:=
 (ã (ņ 1 (mc cw))
 (ã (lG (Ŧ (mv 0)) (gN 2) (ņ 1 (å 2 rZ (Â (mv 1) (Â (mv 2) Ï)))))
 (Č (mv 1))))
def hU:Á AV->S->R AV:=bH 3 vo
def lS:Ms:=
 (ã (ņ 1 (Ď (tF wo (uv (E7 (mv 0) oN (oS (mc (.int 63))))))))
 (ã (a5 (MJ (cB (Ç Ş (mv 1) (Ď (Ŭ Ï))))) (ņ 1 (Ď (Ŭ (Â (mc (.int 7)) Ï)))) ĉ)
 (Č (gD [((mc (.str "cells")),(mv 1)),((mc (.str "turn")),s!"c")]))))
def dP:Á AV->S->R AV:=bH 2 lS
def nH:Ms:=
 (ã (ņ 2 (Ç ť (Ç ô (mv 0) (mc (.str "turn"))) s!"d"))
 (ã (gF (mv 0) (mc (.str "turn")) (mv 2))
 (ã (ņ 3 (Ç gh (mv 2) (sh i3 (Â (Ç ô (mv 0) (mc (.str "cells"))) Ï))))
 (ã (ņ 4 (Ç ì (Ç ô (mv 0) (mc (.str "cells"))) (mv 3)))
 (ã (a5 (cB (Ç GR (mv 4) (Ç t6 (mc (.int 10)) (mc (.int 18))))) (ã (oX (sh n4 (Â (mv 4) s!"t")) (gT 2 (ß (nN (Ç ô (mv 0) (mc (.str "cells"))) (mv 3)) (ß (gN 6) ś))))
 (Č (mv 6))) ĉ)
 (ã (ņ 5 (Ç gh (Ç bY (Ç ť (Ç ť (Ç gh (mv 4) (mc (.int 2147483629))) (Ç bY (Ç bY (mv 2) (mv 2)) (mc (.int 7919)))) (mc (.int 11))) (mc (.int 48271))) (mc (.int 2147483647))))
 (ã (ņ 5 (Ç gh (Ç bY (mv 5) (mv 5)) (mc (.int 2147483587))))
 (Č (Ç gh (Ç iP (Ç gh (Ç bY (Ç ť (mv 5) (Ç bY (mv 2) (mc (.int 104729)))) (mc (.int 39373))) (mc (.int 2147483629))) (mc (.int 64))) (mv 1))))))))))
def á:Á AV->S->R AV:=bH 7 nH
def dh (rf:Á AV->S->R AV):Ms:=
 (ã (a5 (cB (Ç qR (mv 1) (mc .Ĕ))) (Č (Ç qR (mv 0) (mc .Ĕ))) ĉ)
 (ã (a5 (Aq (cT (bg (hZ "list") (mv 1))) (cT (bg (hZ "tuple") (mv 1)))) (ã (a5 (cB (Ç ji (bg (hZ "list") (mv 0)) (bg (hZ "list") (mv 1)))) (Č (mc (.bl false))) ĉ)
 (ã (a5 (Aq (cB (Ç ji (bg (hZ "tuple") (mv 0)) (bg (hZ "tuple") (mv 1)))) (cB (Ç ji (sh i3 s!"u") (sh i3 s!"t")))) (Č (mc (.bl false))) ĉ)
 (Č (tF G0 (ł [("_law_one",none),("_law_other",none)] (KI (mv 0) (mv 1)) s!"v" fV (å 2 rf (Â (mv 0) s!"t"))))))) ĉ)
 (ã (a5 (cT (bg (hZ "str") (mv 1))) (Č (GH (bg (hZ "str") (mv 0)) (Ç Ş (mv 0) (mv 1)))) ĉ)
 (Č (GH (bg (hZ "int") (mv 0)) (GH (bg J0 (bg (hZ "bool") (mv 0))) (Ç Ş (mv 0) (mv 1))))))))
def ė:Nat->Á AV->S->R AV
 |0=>λ_ _=>.bad
 |n+1=>bH 2 (dh (ė n))
def kz:Ms:=
 (ã (jV 3 4 (Â (sh t5 s!"u") (Â (sh t5 s!"t") Ï)))
 (ã (KD (λa _=>Pa a) (cB (Ç p7 (mv 4) s!"c")) (jV 3 4 (Â (mv 4) (Â (Ç gh (mv 3) (mv 4)) Ï))))
 (ã (ņ 2 (Pr (cB (Ç zM (mv 1) s!"c")) (bg wb s!"d") s!"d"))
 (Č (Ť (Â (Ç iP (Ç bY (mv 2) (mv 0)) (mv 3)) (Â (Ç iP (Ç bY (mv 2) (mv 1)) (mv 3)) Ï)))))))
def ŝ:Á AV->S->R AV:=bH 5 kz
def pE:Ms:=
 (ã (oX (Ť (Â s!"c" (Â s!"d" Ï))) (gT 2 (ß (gN 1) (ß (gN 2) ś))))
 (ã (lG (Ŧ (mv 0)) (gT 2 (ß (gN 3) (ß (gN 4) ś))) (oX (å 2 ŝ (Â (Ç ť (Ç bY (mv 1) (mv 4)) (Ç bY (mv 3) (mv 2))) (Â (Ç bY (mv 2) (mv 4)) Ï))) (gT 2 (ß (gN 1) (ß (gN 2) ś)))))
 (Č (Ť (Â (mv 1) (Â (mv 2) Ï))))))
def fz:Á AV->S->R AV:=bH 5 pE
def lU:Ms:=
 (ã (ņ 2 (Ď (IU "str" qS (mc (.str "b aa zebra c quartzes ab m knows d mm likes z ba abcdefgh y zz e x f g hh jj kk pave")) (Â (mc (.str " ")) Ï))))
 (Č (Ď (ł [("_law_turn",none),("_law_some",À 2),("_law_state",À 0)] (xK s!"t") (gN 0) fV (gg "list" BS (mv 1) (Â (å 2 á (Â (mv 2) (Â (sh i3 s!"t") Ï))) Ï))))))
def dS:Á AV->S->R AV:=bH 3 lU
def nG:Ms:=
 (ã (ņ 1 (yi (Ç ì (Ď (Ŭ (Â s!"e" (Â (mc (.int 3)) (Â (mc (.int 4)) (Â (mc (.int 5)) (Â (mc (.int 10)) (Â (Ç ť s!"d" (å 2 á (Â (mv 0) (Â (mc (.int 60)) Ï)))) Ï)))))))) (å 2 á (Â (mv 0) (Â (mc (.int 6)) Ï))))))
 (Č (å 2 ŝ (Â (Ç ť s!"d" (å 2 á (Â (mv 0) s!"t"))) s!"t"))))
def aK:Á AV->S->R AV:=bH 2 nG
end Ro
namespace Dx
open PySem PySem.W PyProof.Rows
section
variable {prog:ď}{w:ī}{A:Ň}{E:Value->Ó->Prop}{s:Ó}
noncomputable abbrev QR (own:Value)(f:Bool)(d:Addr)(i n ep:Nat)(x y:Value):Obj:={cls:=.type "dict_itemiterator",data:=.fields #[own,.bool f,.ref d,.int i 0,.int n 0,.int ep 0,x,y]}
abbrev pr (e:Av):Obj:={cls:=.type "tuple",data:=.seq #[e.key,e.val]}
def Wk (h:Heap)(c d S:Addr)(i n ep:Nat):Prop:=∃b f x y,h.get? c=À (QR b f d i n ep x y)/\(b=.none∨∃(a:Addr) (e:Obj),b=ź a/\h.get? a=À e/\a≠c/\a≠S)
def Ph:OQ ((Manifest.find? "dict_itemiterator").elim "dict_itemiterator" λx=>x.tpName)=true:=by decide+kernel
def vB {h p c:Heap}(l:g<h.objs.size)(s1:e8 g h p)(m:e8 g (p.push (pr e)) c) (t:c.get? g=À (QR (ź (a:Addr)) f d i n ep x y)) (r:c.get? a=À u)(k:a≠g)(j:a≠S) :
  Wk c g d S i n ep/\c.get? h.objs.size=À (pr e)/\c.objs.size=h.objs.size+1/\∀b o,b≠g->h.get? b=À o->c.get? b=À o:=
 ⟨⟨_,f,x,y,t,.inr ⟨a,u,rfl,r,k,j⟩⟩,by rw[m.2 _ (Ĵ l),<-s1.1];exact Ö _ rfl,by rw[m.1,Ł,s1.1],
  λb o q z=>by rw[m.2 b q];exact Ä _ ((s1.2 b q).trans z)⟩
def GO {od:Obj}{Q:Ë Value->Ó->Prop}(hw:Wk s.heap c d S i e.size ep)(N:S<s.heap.objs.size)(U:s.heap.get? d=À od)(hd:od.data=.dict e ep)(P:i<e.size)
   (C:∀h',Wk h' c d S (i+1) e.size ep->h'.get? s.heap.objs.size=À (pr e[i])->h'.objs.size=s.heap.objs.size+1->(∀b o,b≠c->s.heap.get? b=À o->h'.get? b=À o)->Q (À (.ref s.heap.objs.size)) {s with heap:=h'}):Ù s!"j" A (gw (.ref c)) Q E s:=by
  obtain⟨j,g,M,tk,os⟩:=s;obtain⟨o1,o2,o3,o4⟩:=od;simp only at hd;subst hd;obtain⟨G,f,x,y,p,T⟩:=hw;have H:lL ⟨j,g,M,tk,os⟩ (.ref c) "dict_itemiterator":=⟨_,p,rfl⟩
  have m:c<j.objs.size:=Ô p;have em:(if (i:Int)<0 then none else e[(i:Int).toNat]?)=À e[i]:=by rw[Ø (by lia),a',ax P]
  unfold gw;refine Ã (cO (ŀ (name:=ĩ "__next__") H ů
    (ĭ ů H pq ?_ (o7 _))))
  unfold cC.«dict_itemiterator.__next__»;wp_walk
  rw[em];have k:e8 c j (j.update c (ą λx=>x.setIfInBounds (2+1) (ź ((i:Int)+1)))):=Ÿ ..;have I:(j.update c (ą λx=>x.setIfInBounds (2+1) (ź ((i:Int)+1)))).get? c=À (QR G f d (i+1) e.size ep x y):=ā _ p rfl;rcases T with rfl|⟨a,oa,rfl,O,l,v⟩
  · wp_walk
    rw[Ph,Ò rfl,Ø s!"g"];generalize j.update c (ą λx=>x.setIfInBounds (2+1) (ź ((i:Int)+1)))=h at *
    have B:(h.push (pr e[i])).get? c=_:=Ä _ I;have D:=ā (ą λx=>x.setIfInBounds 6 e[i].key) B rfl;have X:=ā (ą λx=>x.setIfInBounds (6+1) e[i].val) D rfl;have Y:=ā (ą λx=>x.setIfInBounds 0 (ź h.objs.size)) X rfl;have Z:=ā (ą λx=>x.setIfInBounds 1 (fN false)) Y rfl;have L:=(((Ÿ (h.push (pr e[i])) c (ą λx=>x.setIfInBounds 6 e[i].key)).trans (Ÿ _ c (ą λx=>x.setIfInBounds (6+1) e[i].val))).trans (Ÿ _ c (ą λx=>x.setIfInBounds 0 (ź h.objs.size)))).trans (Ÿ _ c (ą λx=>x.setIfInBounds 1 (fN false)));have z:h.objs.size≠c:=by rw[k.1];exact Ĵ m
    obtain⟨q,r,t,u⟩:=vB (S:=S) m k L Z ((L.2 _ z).trans (Ö _ rfl)) z (by rw[k.1];exact Ĵ N);refine⟨_,rfl,Ê ?_⟩;rw[show h.objs.size=j.objs.size from k.1];rw[show h.objs.size=j.objs.size from k.1]at q r t u;exact C _ q r t u
  · wp_walk
    rw[Ph,Ò rfl,Ø s!"g"];generalize j.update c (ą λx=>x.setIfInBounds (2+1) (ź ((i:Int)+1)))=h at *
    have B:(h.push (pr e[i])).get? c=_:=Ä _ I;have n:(h.push (pr e[i])).get? a=À oa:=Ä _ ((k.2 a l).trans O);show Ù _ _ (loadIfAlive ((a:Int).toNat)) _ _ _;rw[a'];refine PySem.W.kdx_alive n ?_;cases f with
    |true=>
      wp_walk
      refine⟨_,rfl,Ê ?_⟩;obtain⟨q,r,t,u⟩:=vB (S:=S) m k (Zu _ _) B n l v;rw[show h.objs.size=j.objs.size from k.1];exact C _ q r t u
    |false=>
      wp_walk
      have D:=ā (ą λx=>x.setIfInBounds 1 (fN true)) B rfl;have J:=Ÿ (h.push (pr e[i])) c (ą λx=>x.setIfInBounds 1 (fN true));refine⟨_,rfl,Ê ?_⟩;obtain⟨q,r,t,u⟩:=vB (S:=S) m k J D ((J.2 a l).trans n) l v;rw[show h.objs.size=j.objs.size from k.1];exact C _ q r t u
def GN {od:Obj}{Q:Ë Value->Ó->Prop}(m:A.handled=none)(c:s.heap.get? h=À (QR q f d a.size a.size ep x y)) (n:s.heap.get? d=À od)(hd:od.data=.dict a ep)
   (k:∀h',(∀b o,b≠h->s.heap.get? b=À o->h'.get? b=À o)->Q none {s with heap:=h'}):Ù s!"j" A (gw (.ref h)) Q E s:=by
  obtain⟨p,g,j,r,os⟩:=s;obtain⟨t,u,v,z⟩:=od;simp only at hd;subst hd;have i:lL ⟨p,g,j,r,os⟩ (.ref h) "dict_itemiterator":=⟨_,c,rfl⟩
  have em:(if (a.size:Int)<0 then none else a[(a.size:Int).toNat]?)=none:=by rw[Ø (by lia),a',gG (Í _)]
  unfold gw;refine Ã (cO (ŀ (name:=ĩ "__next__") i ů
    (ĭ ů i pq ?_ (o7 _))))
  unfold cC.«dict_itemiterator.__next__»;wp_walk
  rw[em];wp_walk
  have hA:A.in1.handled=none:=m;simp only[raiseNew];refine Ã (HI ?_);rw[hA];refine Ã (Ê (P8 ?_));refine Ã (AW (T:="StopIteration") (b:=true) ⟨_,Ö _ rfl,rfl⟩ FX (Ê (k _ λb o l e=>?_)));exact Ä _ (Ä _ ((í _ _ (ō l)).trans e))
def Dc {od:Obj}{Q:Value->Ó->Prop}(e:s.heap.IsItemsView v d)(j:s.heap.get? d=À od)(hd:od.data=.dict h ep)
   (i:Q (.ref s.heap.objs.size) {s with heap:=s.heap.push (QR .none false d 0 h.size ep .none .none)}):Ù s!"j" A (L7 (.ref v)) Q E s:=by
  obtain⟨l,g,f,m,os⟩:=s;obtain⟨n,o,p,q⟩:=od;simp only at hd;subst hd;have c:=e.typeIs (s:=⟨l,g,f,m,os⟩);obtain⟨⟨r,t,u,x⟩,k,a,b⟩:=e;simp only at a b;subst a b;refine WR c vg (ĭ vg c PySem.F.entry_dict_items_iter ?_ (PySem.F.args_dict_items_iter_1 _));unfold cC.«dict_items.__iter__»;wp_walk
  exact⟨_,rfl,"dict_itemiterator",_,⟨_,Ö _ rfl,rfl⟩,ů.lookup,i⟩
abbrev Jh (d:Addr)(i n ep:Nat):Obj:={cls:=.type "dict_keyiterator",data:=.fields #[.ref d,.int i 0,.int n 0,.int ep 0]}
def JT {od:Obj}{Q:Ë Value->Ó->Prop}(c:s.heap.get? f=À (Jh d i a.size ep)) (n:s.heap.get? d=À od)(hd:od.data=.dict a ep)(m:i<a.size)
   (k:∀h',h'.get? f=À (Jh d (i+1) a.size ep)->(∀b o,b≠f->s.heap.get? b=À o->h'.get? b=À o)->Q (À a[i].key) {s with heap:=h'}):Ù s!"j" A (gw (.ref f)) Q E s:=by
  obtain⟨p,g,j,q,os⟩:=s;obtain⟨r,t,u,v⟩:=od;simp only at hd;subst hd;have h:lL ⟨p,g,j,q,os⟩ (.ref f) "dict_keyiterator":=⟨_,c,rfl⟩
  have em:(if (i:Int)<0 then none else a[(i:Int).toNat]?)=À a[i]:=by rw[Ø (by lia),a',ax m]
  unfold gw;refine Ã (cO (ŀ (name:=ĩ "__next__") h ų
    (ĭ ų h qk ?_ (pk _))))
  unfold cC.«dict_keyiterator.__next__»;wp_walk
  rw[em];wp_walk
  refine⟨_,rfl,Ê (k _ (ā _ c rfl) λb o l e=>(í _ _ (ō l)).trans e)⟩
def GL {od:Obj}{Q:Ë Value->Ó->Prop}(m:A.handled=none)(c:s.heap.get? f=À (Jh d i a.size ep)) (n:a.size<=i)(p:s.heap.get? d=À od)(hd:od.data=.dict a ep)
   (k:∀h',(∀b o,b≠f->s.heap.get? b=À o->h'.get? b=À o)->Q none {s with heap:=h'}):Ù s!"j" A (gw (.ref f)) Q E s:=by
  obtain⟨q,g,j,r,os⟩:=s;obtain⟨t,u,v,x⟩:=od;simp only at hd;subst hd;have h:lL ⟨q,g,j,r,os⟩ (.ref f) "dict_keyiterator":=⟨_,c,rfl⟩
  have em:(if (i:Int)<0 then none else a[(i:Int).toNat]?)=none:=by rw[Ø (by lia),a',gG n]
  unfold gw;refine Ã (cO (ŀ (name:=ĩ "__next__") h ų
    (ĭ ų h qk ?_ (pk _))))
  unfold cC.«dict_keyiterator.__next__»;wp_walk
  rw[em];wp_walk
  have hA:A.in1.handled=none:=m;simp only[raiseNew];refine Ã (HI ?_);rw[hA];refine Ã (Ê (P8 ?_));refine Ã (AW (T:="StopIteration") (b:=true) ⟨_,Ö _ rfl,rfl⟩ FX (Ê (k _ λb o l e=>?_)));exact Ä _ (Ä _ ((í _ _ (ō l)).trans e))
def Gw {od:Obj}{Q:Value->Ó->Prop}(lo:(d == b8)=false) (b:s.heap.get? d=À od)(j:od.ExactDict)(hd:od.data=.dict f ep)
   (h:Q (.ref s.heap.objs.size) {s with heap:=s.heap.push (Jh d 0 f.size ep)}):Ù s!"j" A (L7 (.ref d)) Q E s:=by
  obtain⟨i,g,e,k,os⟩:=s;have a:od.cls=.type "dict":=j.1;have c:lL ⟨i,g,e,k,os⟩ (.ref d) "dict":=⟨_,b,a⟩
  obtain⟨l,m,n,o⟩:=od;simp only at hd a;subst hd a;refine WR c AG (ĭ AG c PySem.F.entry_dict_iter ?_ (PySem.F.args_dict_iter_1 _));unfold cC.«dict.__iter__»;wp_walk
  exact⟨_,rfl,"dict_keyiterator",_,⟨_,Ö _ rfl,rfl⟩,ų.lookup,h⟩
end
end Dx
namespace L2
open PySem PySem.Spec PyProof.Rows
def oI:KeyOrd where
 α:=Int
 blt a b:=decide (a<b)
 irrefl a:=by simp
 trans a b c h k:=by simp at *;lia
 negTrans a b c h:=by simp at *;lia
 total a b h k:=by simp at *;lia
theorem oy:∀{as:Á Addr}{us:Á Value},Vals (as.map V.ref) us->us=as.map Ñ
 |[],_,h=>by cases h;rfl
 |a::r,_,h=>by
  cases h with
  |cons h t=>rw[Î,<-oy t];exact ğ (·::_) h
end L2
namespace Mm
open PySem PySem.W PyProof.Rows
def KJ {O:KeyOrd}{key:Nat->O.α}(h:AZ key p p.toList.length):p.toList.Pairwise (Ah key):=by
 rw[AD];intro i j c b a;have:=h i j a b;unfold dM at this;have g:∀i (h:i<p.toList.length),p.getD i 0=p.toList[i]:=λi h=>by rw[Ż,<-aA,Å h];rfl
 rw[g i c,g j b]at this;exact this
theorem sU {as:Á Addr}:∀{l:Á Nat},(∀i∈l,i<as.length)->L2.Vals (l.map λi=>L2.V.ref (as.getD i 0)) (l.map λi=>(as.map Ñ).getD i ó)
 |[],_=>.nil
 |i::r,a=>.cons (by
   have b:i<as.length:=a i Ń;show(as.map Ñ).getD i ó=Ñ (as.getD i 0);simp[b]) (sU λx c=>a x (Ć _ c))
section
variable {prog:ď}{w:ī}{A:Ň}{E:Value->Ó->Prop}{s:Ó}{a:Addr}{vs:Á Value}
def DV {ns:Á Int}{f:Value}{P:LX->Ó->Prop}(M:s.heap.get? a=À (đ "list" vs.toArray n)) (hl:ns.length=vs.length)(UJ:vs.length<64)
  (U:∀(i:Nat) (v:Value) (k:Int),vs[i]?=À v->ns[i]?=À k->∀(h:Heap) (l:Nat),(∀b o,b≠a->s.heap.get? b=À o->h.get? b=À o)->
   Ù s!"j" A (call f [v]) (λu s'=>∃h' Zm t,s'={s with heap:=h',toks:=Zm}/\u=.int k t/\∀b o,h.get? b=À o->h'.get? b=À o) (λ_ _=>False) {s with heap:=h,toks:=l})
  (h:∀(p:Ē Nat) (h':Heap) (l c:Nat),AZ (O:=L2.oI) (λi=>ns.getD i 0) p vs.length->p.size=vs.length->p.Perm (ħ (Ĉ vs.length))->(∀b o,b≠a->s.heap.get? b=À o->h'.get? b=À o)->
   h'.get? a=À (đ "list" (ħ (p.toList.map λi=>vs.getD i ó)) c)->P (.done (.ret .none)) {s with heap:=h',toks:=l}) :
  Ù s!"j" A (ksk_tree a f false) P E s:=by
 have hla:a<s.heap.objs.size:=Ô M;obtain⟨r,N⟩:∃r,(s.heap.update a (ú λ_=>(#[]:Ē Value))).get? a=À (đ "list" #[] r):=⟨_,k_ M λ_=>#[]⟩
 unfold ksk_tree;refine Ã (yU M rfl ?_);refine Ã (eR M rfl ?_ (by rw[Ú,İ];lia) (ê _));refine Ã (oj N rfl ?_);refine Ã (ui ?_ (by show vs.length<=_;rw[İ];lia));refine Ã (gK ?_ (ê _));refine œ ?_;have k0:∀b o,b≠a->s.heap.get? b=À o->(s!"a".push s!"r").get? b=À o:=λb o q e=>
  Ä _ (Ä _ ((í _ _ (ō q)).trans e))
 have a0:(s!"a".push s!"r").get? a=À (đ "list" #[] r):=Ä _ (Ä _ N);have s0:(s!"a".push s!"r").get? s!"a".objs.size=À s!"r":=Ö _ rfl;have hS:s.heap.objs.size<s!"a".objs.size:=by rw[Ł,w4];exact cM _
 generalize s!"a".objs.size=S at *
 show Ù s!"j" A (ksk_rest a f false vs.toArray r (.ref S)) P E {s with heap:=s!"a".push s!"r",toks:=s.toks};generalize s!"a".push s!"r"=h0 at *
 have B:∀b o,s.heap.get? b=À o->b≠S:=λb o e=>ñ (oE (Ô e) hS);have H:S≠a:=(B a _ M).symm;have up:∀(g:Heap) (F:Ē Value->Ē Value) b o,b≠S->g.get? b=À o->(g.update S (ú F)).get? b=À o:=λg F b o q e=>(í _ _ (ō q)).trans e;unfold ksk_rest;refine Ã (b9 ?_);rw[List.forIn_toArray];refine Ã (ksk_fold (λi s'=>∃h' l kA e,s'={s with heap:=h',toks:=l}/\(∀b o,b≠a->s.heap.get? b=À o->h'.get? b=À o)/\h'.get? S=À (đ "list" kA e)/\h'.get? a=À (đ "list" #[] r)/\uK kA.toList (ns.take i)) vs 0 _
  ⟨h0,s.toks,#[],0,rfl,k0,s0,a0,by simpa using IntsAre.nil⟩ ?step ?done)
 case step=>
  rintro j x s' hx ⟨h',l,kA,e,rfl,Y,X,ha,d⟩;simp only[FK]at d⊢;have hj:j<vs.length:=(Æ.mp hx).1;have J:ns[j]?=À ns[j]:=Å (by lia);have hz:kA.size<=vs.length:=by
   have h1:=d.length;rw[Ļ,Ũ]at h1;lia
  refine Ã (cO (aB (U j x ns[j] hx J h' l Y) (λv T he=>?_) λ_ _ hF=>hF.elim));obtain⟨g,tk2,t2,rfl,rfl,k2⟩:=he;try dsimp only
  have nk:=k2 _ _ X;obtain⟨c2,hc2⟩:∃c2,(g.update S (ú (·.push (.int ns[j] t2)))).get? S=À (đ "list" (kA.push (.int ns[j] t2)) c2):=⟨_,k_ nk (·.push (.int ns[j] t2))⟩
  have ek:ns.take (j+1)=ns.take j++[ns[j]]:=by rw[List.take_add_one,J];simp
  have ea:(kA.push (mY ns[j] t2)).toList=kA.toList++[mY ns[j] t2]:=by simp
  refine Ã (eR nk rfl ?_ (by rw[İ];lia) (ĺ (kn (OP ..)) (by rw[İ];lia)));exact Ê ⟨rfl,_,_,kA.push (.int ns[j] t2),c2,rfl,λb o q z=>up _ _ b o (B b o z) (k2 b o (Y b o q z)),hc2,up _ _ _ _ H.symm (k2 _ _ ha),by rw[ea,ek];exact ksk_snoc d⟩
 case done=>
  rintro s' ⟨h',l,kA,e,rfl,Y,X,ha,d⟩;have d:uK kA.toList ns:=by rw[List.take_of_length_le (by lia)]at d;exact d
  have y:kA.toList.length=vs.length:=by rw[d.length,hl]
  have L:kA.size=vs.length:=by rw[<-Ļ,y]
  try dsimp only
  refine Ã (yU X rfl ?_);have G:∀(p:Ē Nat) (st:SortSt),AZ (O:=L2.oI) (λi=>ns.getD i 0) p vs.length->p.size=vs.length->p.Perm (ħ (Ĉ vs.length))->(arrOf st).map (·.2)=ħ (p.toList.map λi=>vs.getD i ó)->failedOf st=none->
    Ù s!"j" A (ksk_tail a false r (.ref S) st) P E {s with heap:=h',toks:=l}:=λp st q1 Z q3 q4 q5=>by
   have na:(h'.update S (ú λ_=>(#[]:Ē Value))).get? a=À (đ "list" #[] r):=up _ _ _ _ H.symm ha;unfold ksk_tail;try dsimp only
   refine Ã (eR X rfl ?_ (by rw[L,İ];lia) (ê _));refine Ã (Cq ?_);refine Ã (oj na rfl ?_);rw[q4,q5];refine Ã (eR na rfl ?_ (ê _) (by show(ħ (p.toList.map _)).size<=_;rw[Ú,É,Ļ,Z,İ];lia));simp only[yQ,ŷ,fG];obtain⟨c3,hc3⟩:∃c3,((h'.update S (ú λ_=>(#[]:Ē Value))).update a (ú λ_=>ħ (p.toList.map λi=>vs.getD i ó))).get? a=À (đ "list" (ħ (p.toList.map λi=>vs.getD i ó)) c3):=⟨_,k_ na _⟩
   exact Ê (h p _ _ c3 q1 Z q3 (λb o q z=>(í _ _ (ō q)).trans (up _ _ b o (B b o z) (Y b o q z))) hc3)
  unfold ksk_end;try dsimp only
  rw[Ø à];by_cases D:vs.toArray.size<2
  ·rw[Ò D,Ò D];refine Ã (Ê ?_);rw[LZ];refine Ã (Ê ?_);rw[Ú]at D;refine G (ħ (Ĉ vs.length)) _ (λi j h3 h4=>by lia) (by simp) (bB _) ?_ rfl;show((if false=true then (kA.zip vs.toArray).reverse else kA.zip vs.toArray).map (·.2))=_;rw[Ø à];apply vc.mp;apply ng
   ·simp[L]
   ·intro i h5 h6;have d:i<vs.length:=by simpa using h6
    simp[d]
  ·rw[Ø D,Ø D];rw[Ú]at D;rw[ksk_kind d (by lia)];refine Ã (Ê ?_);have g:∀i,i<vs.length->∃t,kA.toList.getD i ó=.int (ns.getD i 0) t:=λi I=>by
    obtain⟨t,e⟩:=d.get i ns[i] (Å (by lia));exact⟨t,by rw[Ĥ,e,Ĥ,Å (by lia)];rfl⟩
   have ask:=Le (cmp:=kas_ask prog w A oneType' kA.toList) (lt:=lM L2.oI λi=>ns.getD i 0) (s:={s with heap:=h',toks:=l})
    (Q:=λp T=>p=dk (lM L2.oI λi=>ns.getD i 0) (pC vs.length)/\T={s with heap:=h',toks:=l}) (λi j C I hj' hC=>by
     obtain⟨t,ei⟩:=g i I;obtain⟨u,ej⟩:=g j hj';unfold kas_ask;rw[ei,ej];exact kat_lt_int hC) (Fw (by lia)) ⟨rfl,rfl⟩
   have ez:kA.zip vs.toArray=kA.toList.toArray.zip vs.toArray:=by simp
   rw[Ø à,ez];refine Ã (aB (kat_run (Q:=λm s'=>∃p:Ē Nat,p.size=vs.length/\arrOf m=p.map (kas_item (kA.toList.toArray.zip vs.toArray))/\failedOf m=none/\p=dk (lM L2.oI λi=>ns.getD i 0) (pC vs.length)/\s'={s with heap:=h',toks:=l})
    y (by lia) UJ (λp' m s' a1 a2 a3 a4=>⟨p',a1,a2,a3,a4.1,a4.2⟩) ask) ?_ λ_ _ e=>e)
   rintro⟨⟨⟩,m⟩ s' ⟨p,hp,har,hf,rfl,rfl⟩;obtain⟨q1,Z,q3⟩:=Fx (O:=L2.oI) (key:=λi=>ns.getD i 0) (n:=vs.length) (by lia);exact G _ m q1 Z q3 (kat_snds y har) hf
end
end Mm
namespace L2
open PySem PySem.Spec PyProof.Rows
noncomputable def Va (O P:KeyOrd):KeyOrd where
 α:=O.α×P.α
 blt a b:=O.blt a.1 b.1||(!O.blt b.1 a.1&&P.blt a.2 b.2)
 irrefl a:=by simp[O.irrefl,P.irrefl]
 trans a b c h k:=by
  simp only[fK,ē,g0]at h k⊢;rcases h with h|⟨h,h'⟩<;>rcases k with k|⟨k,k'⟩
  ·exact .inl (O.trans _ _ _ h k)
  ·exact .inl (fD h k)
  ·exact .inl (KeyOrd.klt_of_kle_of_klt h k)
  ·exact .inr ⟨h_ h k,P.trans _ _ _ h' k'⟩
 negTrans a b c h:=by
  simp only[fK,ē,g0]at h⊢;rcases h with h|⟨h,h'⟩
  ·exact(O.negTrans _ b.1 _ h).imp .inl .inl
  ·cases e1:O.blt a.1 b.1 with
   |true=>exact .inl (.inl rfl)
   |false=>
    cases e2:O.blt b.1 c.1 with
    |true=>exact .inr (.inl rfl)
    |false=>exact(P.negTrans _ b.2 _ h').imp (λz=>.inr ⟨h_ h e2,z⟩) λz=>.inr ⟨h_ e1 h,z⟩
 total a b h k:=by
  simp only[Hk,oZ,Bool.not_eq_false']at h k;have e:=O.total _ _ h.1 k.1;refine uP e (P.total _ _ ?_ ?_)
  ·rcases h.2 with z|z
   ·rw[k.1]at z;cases z
   ·exact z
  ·rcases k.2 with z|z
   ·rw[h.1]at z;cases z
   ·exact z
def yD {X:Cx}{A:Ň}{O:KeyOrd}{κ:pA}{key:Nat->O.α}{as:Á Addr}{K:Value->Ó->Prop}{E:Value->Ó->Prop}(I:Inv X k N H s)(n:as.length<64)
  (J:∀(A:Ň) (h':Heap),2<=as.length->(∀b o,s.heap.get? b=À o->h'.get? b=À o)->∀Q:pA->Ó->Prop,Q κ {s with heap:=h'}->Ù s!"b" A (P4 (as.map Ñ).toArray) Q (λ_ _=>False) {s with heap:=h'})
  (G:∀(h':Heap),(∀b o,s.heap.get? b=À o->h'.get? b=À o)->∀(i j:Nat) (a b:Addr) C,as[i]?=À a->as[j]?=À b->C (O.blt (key i) (key j)) {s with heap:=h'}->Ù s!"b" A.in1 (keyLt' κ (.ref a) (.ref b)) C (λ_ _=>False) {s with heap:=h'})
  (q:∀(p:Á Nat) (l:Addr) (s':Ó),p.Perm (Ĉ as.length)->p.Pairwise (Mm.Ah key)->H l=none->Inv X k N (upd H l (.lst (p.map λi=>V.ref (as.getD i 0)))) s'->K (.ref l) s') :
  Ù s!"b" A (WI (as.map Ñ) >>= λl=>c8 [l] (call (.builtin "list.sort") [l]) >>= λ_=>ret l) (λm s'=>∃v,m=.done (.ret v)/\K v s') E s:=by
 have hl:(as.map Ñ).length=as.length:=É _;refine Ã (gK ?_ (by rw[hl];exact ę (Ŕ (by lia))));have c:(s.heap.push (đ "list" (as.map Ñ).toArray 0)).get? s.heap.objs.size=À (đ "list" (as.map Ñ).toArray 0):=Ö _ rfl;have B:∀h':Heap,(∀b o,b≠s.heap.objs.size->(s.heap.push (đ "list" (as.map Ñ).toArray 0)).get? b=À o->h'.get? b=À o)->∀b o,s.heap.get? b=À o->h'.get? b=À o:=λh' f b o e=>f b o (ñ (Ô e)) (Ä _ e);refine Ã (œ (ĭ FZ ⟨_,c,rfl⟩ CD (Mm.KH (O:=O) (key:=key) (κ:=κ) c (by rw[hl];exact n) ?_ ?_ λp p1 P M=>⟨_,rfl,?_⟩) (args_list_sort _)))
 ·intro h' y f D L;exact J _ h' (by rw[hl]at y;exact y) (B h' f) D L
 ·intro h' f i j C d t hC;rw[hl]at d t;have g:∀i (h:i<as.length),(as.map Ñ).getD i ó=.ref as[i]:=λi h=>by rw[Ĥ,î,Å h];rfl
  rw[g i d,g j t];exact G h' (B h' f) i j _ _ C (Å d) (Å t) hC
 ·have pr:p.toList.Perm (Ĉ as.length):=by
   have:=en.mp M;rw[hl]at this;simpa using this
  have z:p.toList.length=as.length:=by rw[pr.length_eq,dz]
  have x:∀i∈p.toList,i<as.length:=λi d=>by simpa using pr.mem_iff.mp d
  refine Ê ⟨_,rfl,q p.toList s.heap.objs.size _ pr ?_ (I.ţ.fresh (Í _)) ?_⟩
  ·exact Mm.KJ (by rw[z,<-hl];exact p1)
  ·obtain⟨F,r⟩:=sortedHeap_at c (out:=ħ (p.toList.map λi=>(as.map Ñ).getD i ó));refine I.laid (a:=s.heap.objs.size) (t':=s.toks) (λb u e=>?_) (Í _) ⟨by rw[É,z];exact ę (Ŕ (by lia)),p.toList.map λi=>(as.map Ñ).getD i ó,F,?_,r⟩
   ·rw[sortedHeap_old (ñ (Ô e)) (by rw[Ł];exact d_ (Ô e))];exact Ä _ e
   ·exact Mm.sU x
end L2
namespace Dx
open PySem PySem.W PyProof.Rows
structure Got (es:Ē Av)(bot:Addr)(h:Heap)(as:Á Addr):Prop where
 rise:as.Pairwise (· < ·)
 above:∀a∈as,bot<a
 pairs:∀(j:Nat) (a:Addr),as[j]?=À a->∃e,es[j]?=À e/\h.get? a=À (pr e)
def Got.lt (g:Got f b h as)(c:a∈as):a<h.objs.size:=by
 obtain⟨j,d⟩:=List.mem_iff_getElem?.mp c;obtain⟨_,_,e⟩:=g.pairs j a d;exact Ô e
def Got.keep (g:Got f c h as)(k:∀b o,c<b->h.get? b=À o->h'.get? b=À o):Got f c h' as:=⟨g.rise,g.above,λj a d=>by
 obtain⟨e,i,l⟩:=g.pairs j a d;exact⟨e,i,k _ _ (g.above a (ý d)) l⟩⟩
def Got.snoc (g:Got f d h as)(t:h.objs.size=n)(hl:d<n)(r:f[as.length]?=À e)(k:∀b o,d<b->h.get? b=À o->h'.get? b=À o)(q:h'.get? n=À (pr e)):Got f d h' (as++[n]):=by
 subst t;have l:=g.keep k;refine⟨List.pairwise_append.mpr ⟨g.rise,nq _ _,λa ha b p=>by rw[ò.mp p];exact g.lt ha⟩,λa ha=>?_,λj a c=>?_⟩
 ·rcases ķ.mp ha with ha|ha
  ·exact g.above a ha
  ·rw[ò.mp ha];exact hl
 ·rw[List.getElem?_append]at c;split at c
  ·exact l.pairs j a c
  ·rename_i s;cases i:j-as.length with
   |zero=>
    rw[i]at c;cases c;have:j=as.length:=by lia
    subst this;exact⟨e,r,q⟩
   |succ m=>rw[i]at c;cases c
structure Fl (h0 h:Heap)(S I d:Addr)(od:Obj)(es:Ē Av)(ep:Nat)(acc:Ē Value)(c:Nat)(as:Á Addr):Prop where
 wk:Wk h I d S as.length es.size ep
 dd:h.get? d=À od
 ls:h.get? S=À {cls:=.type "list",data:=.seq acc c}
 ac:acc.toList=as.map Ñ
 got:Got es I h as
 lt:I<h.objs.size
 old:∀b o,b≠S->b≠I->h0.get? b=À o->h.get? b=À o
section
variable {prog:ď}{w:ī}{A:Ň}{E:Value->Ó->Prop}{s:Ó}{R:T7->Ó->Prop}
def fill {od:Obj}{h0:Heap}(O:A.handled=none)(i:S<I)(G:d≠S)(D:d≠I)(hd:od.data=.dict n ep)(hz:n.size<=sizeLine)(res:Value)
  (M:∀h' l g c as,as.length=n.size->g.toList=as.map Ñ->h'.get? S=À {cls:=.type "list",data:=.seq g c}->Got n I h' as->(∀b o,b≠S->b≠I->h0.get? b=À o->h'.get? b=À o)->R (.ok (.ret res)) {s with heap:=h',toks:=l}) :
  ∀(m:Nat) (h:Heap) (l c:Nat) (g:Ē Value) (as:Á Addr),n.size-as.length=m->as.length<=n.size->Fl h0 h S I d od n ep g c as->
   e_ s!"j" A (.builtin "list.extend.loop" ⟨[.ref S,.ref I,res],[]⟩) R {s with heap:=h,toks:=l}:=by
 intro m;induction m with
 |zero=>
  intro h l c g as Q P F;have e:as.length=n.size:=by lia
  obtain⟨C,f,x,y,j,_⟩:=F.wk;rw[e]at j;refine rh xR ?_;rw[iU eQ _];refine Ã (m:=gw (.ref I)) (GN (s:={s with heap:=h,toks:=l}) (A:=A.in1) O j F.dd hd λh' k=>?_);exact Ê (M h' l g c as e F.ac (k _ _ (ñ i) F.ls) (F.got.keep λb o r z=>k b o (Ĵ r) z) λb o q p z=>k b o p (F.old b o q p z))
 |succ m T=>
  intro h l c g as Q P F;have u:as.length<n.size:=by lia
  have v:g.size=as.length:=by rw[<-Ļ,F.ac,É]
  refine rh xR ?_;rw[iU eQ _];refine Ã (m:=gw (.ref I)) (GO (s:={s with heap:=h,toks:=l}) F.wk (Ô F.ls) F.dd hd u λh' X p1 L k=>?_);dsimp only at p1 L k⊢;have B:=k S _ (ñ i) F.ls;have t:∀b o,b≠S->h'.get? b=À o->(h'.update S (ú (·.push (Ñ h.objs.size)))).get? b=À o:=λb o r e=>(í _ _ (ō r)).trans e;have H:h.objs.size≠S:=Ĵ (Ô F.ls);show Ù _ A.in1 (XU S (·.push (Ñ h.objs.size)) >>= _) _ _ _;refine Ã (CF B rfl (Ê ⟨HE eQ _,T _ l _ (g.push (.ref h.objs.size)) (as++[h.objs.size]) (by rw[è];simp;lia) (by rw[è];simp;lia) ⟨?_,t d _ G (k d _ D F.dd),ā _ B rfl,?_,?_,?_,λb o q p e=>t b o q (k b o p (F.old b o q p e))⟩⟩) (by rw[v];lia) (by show(g.push _).size<=sizeLine+1;rw[OP,v];lia))
  ·obtain⟨C,f,x,y,j,J⟩:=X;rw[è,FJ];refine⟨C,f,x,y,t _ _ (Ĵ i) j,?_⟩;rcases J with J|⟨a,U,e,N,q,p⟩
   ·exact .inl J
   ·exact .inr ⟨a,U,e,t _ _ p N,q,p⟩
  ·rw[Array.toList_push,F.ac,ŉ];rfl
  ·exact F.got.snoc rfl F.lt (ax u) (λb o r e=>t b o (Ĵ (oE i r)) (k b o (Ĵ r) e)) (t _ _ H p1)
  ·rw[w4];rw[L];exact d_ F.lt
def zl {od:Obj}(U:A.handled=none)(C:s.heap.IsItemsView r d)(i:s.heap.get? d=À od)(hd:od.data=.dict l ep)(hz:l.size<=sizeLine)(y:S≠r)(p:d≠S)(H:s.heap.get? S=À {cls:=.type "list",data:=.seq #[] c})(res:Value)
  (Q:∀h' q g c as,as.length=l.size->g.toList=as.map Ñ->h'.get? S=À {cls:=.type "list",data:=.seq g c}->Got l s.heap.objs.size h' as->(∀b o,b≠S->s.heap.get? b=À o->h'.get? b=À o)->R (.ok (.ret res)) {s with heap:=h',toks:=q}) :
  Ù s!"j" A.in1 (ro (.ref S) (.ref r) res)
   (λv s'=>match v with|.done f=>R (.ok f) s'|.again t=>t.quiet=true/\e_ s!"j" A t R s') (λe s'=>R (.error e) s') s:=by
 have n:S<s.heap.objs.size:=Ô H;have B:d<s.heap.objs.size:=Ô i;have P:∀(h:Heap) (c q:Nat),(∀b o,b≠S->(s.heap.push (QR .none false d 0 l.size ep .none .none)).get? b=À o->h.get? b=À o)->h.get? S=À {cls:=.type "list",data:=.seq #[] c}->
   e_ s!"j" A (.builtin "list.extend.loop" ⟨[.ref S,.ref s.heap.objs.size,res],[]⟩) R {s with heap:=h,toks:=q}:=λh c q k e=>by
  have G:=k s.heap.objs.size _ (Ĵ n) (Ö _ rfl);refine fill (h0:=s.heap) U n p (ñ B) hd hz res (λh' D g t as J L M N O=>Q h' D g t as J L M N λb o u z=>O b o u (ñ (Ô z)) z) l.size h q c #[] [] rfl (ê _)
   ⟨⟨_,_,_,_,G,.inl rfl⟩,k d _ p (Ä _ i),e,rfl,⟨.nil,s!"p",λj a z=>by simp at z⟩,Ô G,λb o x _ z=>k b o x (Ä _ z)⟩
 have T:=C.typeIs;unfold ro;have x:uJ (.ref S) (.ref r)=false:=by simp[uJ,y]
 refine Ã (yY T ?_);rw[x];refine Ã (Dc C i hd ?_);refine Ã (œ (PySem.W.kdx_hint (let ⟨o,X,z,_⟩:=C;⟨o,Ä _ X,z⟩) ?_));have m:=Ä (QR .none false d 0 l.size ep .none .none) H;dsimp only;rw[Ò s!"g"];refine Ã (b9 (Ã ?_));have I:=ā (ú (·.push ó)) m rfl;show Ù _ _ (XU S (·.push .none) >>= λ_=>XU S (·.pop)) _ _ _;refine Ã (CF m rfl (CF (hz:=by seq_fits) I rfl (Ê ⟨HE eQ _,P _ _ _ (λb o u e=>?_) (ā (ú (·.pop)) I rfl)⟩)));rw[í _ _ (ō u),í _ _ (ō u)];exact e
def xv {R:Á Value->Ó->Prop}{od:Obj}(C:A.handled=none)(D:s.heap.IsItemsView r d)(k:s.heap.get? d=À od)(hd:od.data=.dict i ep)(hz:i.size<=sizeLine)
  (h:∀h' f as,(∀b o,s.heap.get? b=À o->h'.get? b=À o)->as.length=i.size->Got i s.heap.objs.size h' as->R (as.map Ñ) {s with heap:=h',toks:=f}):Ù s!"j" A (collect (.ref r)) R E s:=by
 have v:=D;obtain⟨H,l,x⟩:=v;have I:=Ô l;have do_:=Ô k;have G:(s.heap.push {cls:=.type "list",data:=.seq ([]:Á Value).toArray}).get? s.heap.objs.size=À {cls:=.type "list",data:=.seq #[]}:=Ö _ rfl;unfold collect;obtain⟨B,j⟩:∃B:T7->Ó->Prop,B=λq s'=>∃h' f e c as,q=.ok (.ret (.ref s.heap.objs.size))/\s'={s with heap:=h',toks:=f}/\as.length=i.size/\e.toList=as.map Ñ/\h'.get? s.heap.objs.size=À {cls:=.type "list",data:=.seq e c}/\Got i s.heap.objs.size h' as/\∀b o,s.heap.get? b=À o->h'.get? b=À o:=⟨_,rfl⟩
 refine Ã (wpAny_runValue (qq (R:=B) (rh entry_proto_collect' ?_) ?_))
 ·rw[iU PySem.F.plain_proto_collect _];refine Ã (m:=WI []) (Ţ (Ê ⟨HE Aj _,rh entry_list_iadd' ?_⟩));rw[iU Aj _];refine zl (s:={s with heap:=s.heap.push {cls:=.type "list",data:=.seq ([]:Á Value).toArray}}) C ⟨H,Ä _ l,x⟩ (Ä _ k) hd hz (Ĵ I) (ñ do_) G _ λh' f e c as n p t g u=>?_;rw[j];exact⟨h',f,e,c,as,rfl,rfl,n,p,t,⟨g.rise,λa y=>bI (by show _<=(s.heap.push _).objs.size;rw[Ł];exact mC _) (g.above a y),g.pairs⟩,λb o z=>u b o (ñ (Ô z)) (Ä _ z)⟩
 ·intro q s' z;rw[j]at z;obtain⟨h',f,e,c,as,rfl,rfl,n,p,t,g,u⟩:=z;show Ù _ A (load s.heap.objs.size >>= _) _ _ _;refine Ã (wpAny_load t (Ê ?_));show R e.toList _;rw[p];exact h h' f as u n g
end
section
variable {prog:ď}{w:ī}{A:Ň}{E:Value->Ó->Prop}{s:Ó}
def Jp {Q:Value->Ó->Prop}(hu:A.units<cLine)(o:s.heap.get? a=À {cls:=.type "tuple",dict:=dd,data:=.seq #[.str x t,.int i u] n,slots:=H})(p:s.heap.get? b=À {cls:=.type "tuple",dict:=l,data:=.seq #[.str y t',.int j r] m,slots:=q})
  (h:Q (.bool (if x == y then decide (i<j)else decide (x.cps.toList<y.cps.toList))) s) (e:(x == y&&i == j)=false):Ù s!"j" A (Ĭ .Lt (.ref a) (.ref b)) Q E s:=by
 have B:s.TypeIs (.ref a) "tuple":=⟨_,o,rfl⟩
 have C:s.TypeIs (.ref b) "tuple":=⟨_,p,rfl⟩
 show Ù s!"j" A (richCompare .Lt (.ref a) (.ref b)) Q E s;refine wpAny_richCompare_same_room B C Cg (ĭ Cg B PySem.F.entry_tuple_lt ?_ (PySem.F.args_tuple_lt_2 _ _)) hu;obtain⟨z,g,v,I,os⟩:=s;unfold cC.«tuple.__lt__»;have f:∀{A:Ň}{E:Value->Ó->Prop}{s:Ó}{Q:Bool->Ó->Prop},Q (x == y) s->Ù s!"j" A (eqBool (.str x t) (.str y t')) Q E s:=λh=>eqBool_str h;have k:∀{A:Ň}{E:Value->Ó->Prop}{s:Ó}{Q:Bool->Ó->Prop},Q (decide (i=j)) s->Ù s!"j" A (eqBool (.int i u) (.int j r)) Q E s:=λh=>(i_ prog w).eqBool (a:=i) (b:=j) (by simp[i_,cX]) (by simp[i_,cX]) h;wp_walk
 refine P7 sub_tuple_self ?_;generalize eqBool=D at f k⊢;generalize d:richCompare=G;wp_walk
 simp only[Lw,List.zip_nil_right,jS,Ae];refine f ?_;cases c:x == y with
 |false=>
  rw[c,Ø à]at h;subst d;refine Ã (b9 (Ã (PySem.P.lt_str ?_)));exact Ê (Ê (Ê ⟨_,rfl,by simp,h⟩))
 |true=>
  rw[c,Ò rfl]at h;rw[c,Cc]at e;refine Ê ?_;wp_walk
  refine k ?_;rw[ë (by simpa using e)];subst d;refine Ã (b9 (Ã (xk ?_)));exact Ê (Ê (Ê ⟨_,rfl,by simp,h⟩))
end
end Dx
namespace L2
open PySem PySem.Spec PyProof.Rows
abbrev oP:KeyOrd:=Va oS oI
abbrev kP (k:Str×Int):oP.α:=(F' k.1,k.2)
abbrev fJ (k:Str×Int):Á Key:=[.inr k.1,.inl k.2]
def qE (z:fJ a=fJ b):a=b:=by
 have:=Lu z;exact uP (kW this.1) (Tu (Lu this.2).1)
def zA (a b:Str×Int):Bool:=!oP.blt (kP b) (kP a)
def ki (l:Á (Str×Int)):Á (Str×Int):=l.mergeSort zA
def ke:zA a b=true ↔ oP.kle (kP a) (kP b):=by unfold zA WA;simp
def BB (h:zA a b=true)(k:zA b a=true):a=b:=by
 have:=FG (ke.mp h) (ke.mp k);have c:F' a.1=F' b.1:=ğ (λz:oP.α=>z.1) this;refine uP (vS (kg.mpr ?_) (kg.mpr ?_)) (show a.2=b.2 from ğ (λz:oP.α=>z.2) this)
 ·rw[c];exact w6 _
 ·rw[c];exact w6 _
def mx (l:Á (Str×Int)):(ki l).Perm l:=jT l zA
def yt (h:zA a b=true)(k:zA b c=true):zA a c=true:=ke.mpr (h_ (ke.mp h) (ke.mp k))
def yr (a b:Str×Int):(zA a b||zA b a)=true:=by
 cases h:zA a b with
 |true=>rfl
 |false=>rw[rn];exact ke.mpr (sY (by unfold zA at h;simpa[KeyOrd.klt]using h))
def z7 (l:Á (Str×Int)):(ki l).Pairwise λa b=>zA a b=true:=
 nj (le:=zA) (λ_ _ _=>yt) yr l
def DU {l q:Á (Str×Int)}(p:l.Perm q)(h:l.Pairwise λa b=>zA a b=true):l=ki q:=
 kj (λ_ _=>BB) (p.trans (mx q).symm) h (z7 q)
def A2 (f:(a.1 == b.1&&a.2 == b.2)=false):oP.blt (kP a) (kP b)=if a.1 == b.1 then decide (a.2<b.2)else decide (a.1.cps.toList<b.1.cps.toList):=by
 show(oS.blt (F' a.1) (F' b.1)||(!oS.blt (F' b.1) (F' a.1)&&decide (a.2<b.2)))=_;cases e:a.1 == b.1 with
 |true=>
  have e:=eq_of_beq e;rw[e,oS.irrefl];rfl
 |false=>
  rw[Ø à];cases c:oS.blt (F' a.1) (F' b.1)with
  |true=>exact c.symm
  |false=>
   cases d:oS.blt (F' b.1) (F' a.1)with
   |true=>exact c.symm
   |false=>
    have:a.1=b.1:=vS (kg.mpr d) (kg.mpr c);rw[this,AL]at e;cases e
theorem Paired.at {R:α->a->Prop}{l:Á α}{m:Á a}(h:Paired R l m):∀{j:Nat}{q:a},m[j]?=À q->∃p,l[j]?=À p/\R p q:=by
 induction h with
 |nil=>intro j q e;simp at e
 |cons h _ b=>
  intro j q e;cases j with
  |zero=>simp at e;subst e;exact⟨_,rfl,h⟩
  |succ j=>exact b (by simpa using e)
theorem FC {κ:Type} [oh κ] {k:κ}:∀{kvs:Á (κ×V)}{j:Nat},(kvs.map (·.1)).Nodup->kvs[j]?=À (k,y)->jl kvs k=À y
 |[],_,_,e=>by simp at e
 |p::r,0,_,e=>by simp at e;subst e;exact n_ rfl
 |p::r,j+1,nd,e=>by
  have e:r[j]?=À (k,y):=by simpa using e
  rw[Î,b7]at nd;rw[n9 λz=>nd.1 (z▸ň.mpr ⟨_,ý e,rfl⟩)];exact FC nd.2 e
theorem uY {P:Value->Prop}:∀{as:Á Addr},(∀(j:Nat) (a:Addr),as[j]?=À a->∃(f:Value) (o:Obj) (r:Á Value) (n:Nat),h.get? a=À o/\o.cls=.type "tuple"/\o.data=.seq (f::r).toArray n/\P f)->∃fs,PySem.W.KatTups h (as.map Ñ) fs/\(∀v∈fs,P v)/\fs.length=as.length
 |[],_=>⟨[],T6,(λv z=>nomatch z),rfl⟩
 |a::r,g=>by
  obtain⟨f,o,x,n,c,d,e,i⟩:=g 0 a rfl;obtain⟨fs,l,m,p⟩:=uY (as:=r) λj b k=>g (j+1) b (by simpa using k);refine⟨f::fs,T5 c d e (by simp) l,λv hv=>?_,by simp[p]⟩;rcases Þ.mp hv with rfl|hv
  ·exact i
  ·exact m v hv
def SM:Á V->Hp->VK->Prop:=λxs H Q=>∃(v d:Addr)(c:Á (Á Key×V)) (e:Á (Str×Int)),xs=[.ref v]/\H v=À (.ext λh=>h.IsItemsView v d)/\H d=À (.dT c)/\c.map (·.1)=e.map fJ/\e.length<64/\
 ∀l A f,H l=none->(∀b o,H b=À o->A b=À o)->(∀b,A b=none->H b=none)->A l=À (.lst f)->f.length=e.length->
  (∀(j:Nat) (k:Str×Int),(ki e)[j]?=À k->∃a b x,f[j]?=À (.ref a)/\jl c (fJ k)=À x/\H b=À (.tup [.str k.1,.int k.2])/\A a=À (.tup [.ref b,x]))->Q (.ref l) A
def zP {X:Cx}(I:Inv X f o H s)(e:H b=À (.tup [.str x,.int i])):∃t u dd n a,s.heap.get? b=À {cls:=.type "tuple",dict:=dd,data:=.seq #[.str x t,.int i u] n,slots:=a}:=by
 obtain⟨_,h,r,⟨l,dd,m,a⟩,g,c,n,d⟩:=(show ş X.prog X.w H s.heap b (.tup [.str x,.int i])from I.ţ b _ e)
 cases r with
 |cons j r=>
  cases r with
  |cons k r=>
   cases r;obtain⟨t,rfl⟩:=j;obtain⟨u,rfl⟩:=k;dsimp only at c d;subst c d;exact⟨t,u,dd,n,a,g⟩
def CT {X:Cx}(hc:X.calm=true)(hu:X.A.units+2<cLine):aG X (.builtin "sorted") SM:=by
 rintro ÿ s σ H xs us Q I rv ⟨v,d,g,c,rfl,hv,hH,hk,UJ,q⟩;obtain⟨u,rfl,ru⟩:=rv.one;cases (show u=Ñ v from ru);obtain⟨z,hd,xs,rel,o,es,ep,h1,h2,h3,h4,h5⟩:=(show ş X.prog X.w H s.heap d (.dT g)from I.ţ d _ hH)
 have UQ:s.heap.IsItemsView v d:=(I.ţ v _ hv).1;have hkl:g.length=c.length:=by have h1:=ğ cb hk;simpa using h1
 have hxl:g.length=xs.length:=rel.length;have hes:es.size=c.length:=by rw[<-Ļ,h4,É,<-hxl,hkl]
 have nd:c.Nodup:=by
  have e:xs.map (·.1)=c.map fJ:=by
   rw[<-hk];clear h4 h5 hk hkl hxl z hH q;induction rel with
   |nil=>rfl
   |cons h _ ih=>rw[Î,Î,ih,h.1]
  rw[e]at h5;exact(lN.mp h5).imp λh z=>h (ğ fJ z)
 have hh:=I.ok.hd hc;refine fM Co yV yT (L0 _) ?_;unfold cC.«sorted»;refine Ã (m:=FV "sorted" 1 1 _) (Ê ?_);refine Ã (Dx.xv (A:=X.A.in1) hh UQ h1 h3 (by rw[hes];exact ę (Ŕ (by lia))) λhp tk as hkp hal hG=>?_);have hl:as.length=c.length:=by rw[hal,hes]
 have ndA:as.Nodup:=hG.rise.imp λh=>ñ h;have G:∀j (a:Addr),as[j]?=À a->∃(B:j<c.length) (b:Addr) (x:Value) (y:V),g[j]?=À (fJ c[j],y)/\(xs[j]?).map (·.2.1)=À b/\RelV y x/\H b=À (.tup [.str c[j].1,.int c[j].2])/\hp.get? a=À {cls:=.type "tuple",data:=.seq #[.ref b,x]}:=λj a Y=>by
  have B:j<c.length:=by rw[<-hl];exact(Æ.mp Y).1
  obtain⟨e,J,e2⟩:=hG.pairs j a Y;rw[<-aA,h4,î]at J;cases e3:xs[j]? with
  |none=>rw[e3]at J;cases J
  |some y=>
   rw[e3]at J;cases J;obtain⟨p,f1,f2,f3,f4⟩:=Paired.at rel e3;have f5:p.1=fJ c[j]:=by
    have:(g.map (·.1))[j]?=À p.1:=by rw[î,f1];rfl
    rw[hk,î,Å B]at this;exact(æ this).symm
   rw[f5]at f3;exact⟨B,y.2.1,y.2.2,p.2,by rw[f1,<-f5],rfl,f4,f3,e2⟩
 let H1:Hp:=λb=>if b∈as then À (.tup [.ref (((xs[as.idxOf b]?).map (·.2.1)).getD 0),((g[as.idxOf b]?).map (·.2)).getD .Ĕ])else H b
 have F:∀b u,s.heap.get? b=À u->b∉as:=λb u e L=>absurd (Ô e) (oF.mpr (ę (hG.above b L)));have eas:∀b∈as,H b=none:=λb L=>by
  cases q0:H b with
  |none=>rfl
  |some o=>obtain⟨u,hu⟩:=(I.ţ _ o q0).qa;exact absurd L (F b u hu)
 have at1:∀j (a:Addr),as[j]?=À a->∃(B:j<c.length) (b:Addr) (y:V),jl g (fJ c[j])=À y/\H b=À (.tup [.str c[j].1,.int c[j].2])/\H1 a=À (.tup [.ref b,y]):=λj a Y=>by
  obtain⟨B,b,x,y,Z,g2,g3,g4,f⟩:=G j a Y;have N:as.idxOf a=j:=by
   obtain⟨hja,ga⟩:=Æ.mp Y;rw[<-ga];exact IZ ndA hja
  refine⟨B,b,y,?_,g4,?_⟩
  ·exact FC (by rw[hk];exact lN.mpr (nd.imp λh z=>h (qE z))) Z
  ·show(if a∈as then _ else _)=_;rw[Ò (ý Y),N,g2,Z];rfl
 have I1:Inv X ÿ σ H1 {s with heap:=hp,toks:=tk}:=by
  refine I.grown hkp (λb u e=>Ø (F b u e)) λb o e z=>?_;have z:(if b∈as then À (HO.tup [.ref (((xs[as.idxOf b]?).map (·.2.1)).getD 0),((g[as.idxOf b]?).map (·.2)).getD .Ĕ])else H b)=À o:=z;by_cases L:b∈as
  ·rw[Ò L]at z;obtain⟨j,B,gj⟩:=ļ L;obtain⟨_,k,x,y,Z,g2,g3,g4,f⟩:=G j b (by rw[Å B,gj]);rw[show as.idxOf b=j by rw[<-gj];exact IZ ndA B,g2,Z]at z;cases z;exact⟨by show 2<=sizeLine;decide,[.ref k,x],.cons rfl (.cons g3 .nil),_,f,rfl,0,rfl⟩
  ·rw[Ø L]at z;obtain⟨u,hu⟩:=(I.ţ _ o z).qa;rw[e]at hu;cases hu
 have r:∀b o,H b=À o->H1 b=À o:=λb o e=>by
  obtain⟨u,hu⟩:=(I.ţ _ o e).qa;show(if b∈as then _ else H b)=_;rw[Ø (F b u hu)];exact e
 have kD:∀i (N:i<c.length),kP (c.getD i (⟨#[]⟩,0))=kP c[i]:=λi N=>by rw[Ĥ,Å N];rfl
 refine yD (A:=X.A.in1) (O:=oP) (κ:=tuples' false) (key:=λi=>kP (c.getD i (⟨#[]⟩,0))) I1 (by rw[hl];exact UJ) ?_ ?_ ?_
 ·intro A h' h2 U Q' hq;obtain⟨fs,k1,k2,k3⟩:=uY (h:=h') (P:=λv=>∃(b:Addr) (o:Obj),v=.ref b/\h'.get? b=À o/\o.cls=.type "tuple") (as:=as) λj a Y=>by
   obtain⟨_,b,x,y,_,_,_,g4,f⟩:=G j a Y;obtain⟨t,u,dd,n,sl,e⟩:=zP I1 (r _ _ g4);exact⟨.ref b,_,[x],0,U _ _ f,rfl,rfl,b,_,rfl,U _ _ e,rfl⟩
  refine ud (T:=.type "tuple") k1 (by rw[k3];lia) (λv hv=>?_) s!"i" ?_
  ·obtain⟨b,o,rfl,J,e2⟩:=k2 v hv;rw[<-e2];exact(XO J).andThen .now
  ·have e:(cg "tuple" != cg "tuple")=false:=by decide
   rw[e];exact hq
 ·intro h' U i j a b C ea eb hC;obtain⟨N,k,x,y,_,_,_,f4,f5⟩:=G i a ea;obtain⟨B,k',x',y',_,_,_,g4,f⟩:=G j b eb;obtain⟨t,u,dd,n,sl,J⟩:=zP I1 (r _ _ f4);obtain⟨t',u',dd',n',sl',e2⟩:=zP I1 (r _ _ g4);rw[kD i N,kD j B]at hC;refine xl (U _ _ f5) rfl (U _ _ f) rfl (cz ?_);by_cases hij:i=j
  ·subst hij;rw[ea]at eb;cases eb;rw[f5]at f;injection f with f
   injection f with _ _ f _
   injection f with f _
   have f:=ğ Cu f;simp at f;obtain⟨rfl,rfl⟩:=f;refine nJ (i8 (cz (nJ (i8 (Lz ?_)))));rw[oP.irrefl]at hC;exact hC
  ·have hne:c[i]≠c[j]:=λz=>hij ((bx nd).mp z);have key:∀{x:Str}{i:Int}{b:Addr}{t u:XP}{dd:Ë Addr}{n:Nat}{sl:Ē (Ë Value)},h'.get? b=À {cls:=.type "tuple",dict:=dd,data:=.seq #[.str x t,.int i u] n,slots:=sl}->IsTupleKey (ſ X.prog X.w) h' (fJ (x,i)) b:=λ{x i b t u dd n sl} e=>⟨_,_,n,e,rfl,rfl,.cons (t4 _ _ x t) (.cons (tZ _ _ i u) .nil)⟩
   refine wpAny_eqBool_tuple (x:=fJ c[i]) (y:=fJ c[j]) (by show X.A.units+1+1<cLine;lia) (key (U _ _ J)) (key (U _ _ e2)) ?_;have L:(c[i].1 == c[j].1&&c[i].2 == c[j].2)=false:=by
    rw[oZ];by_cases h1:c[i].1=c[j].1
    ·exact .inr (Ŝ.mpr λh2=>hne (uP h1 h2))
    ·exact .inl (Ŝ.mpr h1)
   rw[show decide (fJ c[i]=fJ c[j])=false from ë λz=>hne (qE z)];refine jU (vh _ _ (Dx.Jp (by show X.A.units+1+1<cLine;lia) (U _ _ J) (U _ _ e2) ?_ L));rw[<-A2 L];exact hC
 ·intro p l s' pr Y4 E I2;have e:p.map (λi=>c.getD i (⟨#[]⟩,0))=ki c:=by
   refine DU ?_ (lN.mpr (Y4.imp λh=>ke.mpr h.kle));have h5:=pr.map (λi=>c.getD i (⟨#[]⟩,0));rw[hl]at h5;have e5:(Ĉ c.length).map (λi=>c.getD i (⟨#[]⟩,0))=c:=by
    apply ng
    ·simp
    ·intro i h6 h7;simp[h7]
   rw[e5]at h5;exact h5
  have hl1:H l=none:=by
   cases q0:H l with
   |none=>rfl
   |some o=>rw[r l o q0]at E;cases E
  refine⟨.ref l,_,I2,rfl,q l _ (p.map λi=>V.ref (as.getD i 0)) hl1 (λb o h=>by rw[ä (Ŋ (r b o h) E)];exact r b o h) (λb h=>?_) ă (by rw[É,pr.length_eq,dz,hl]) λj k D=>?_⟩
  ·cases q0:H b with
   |none=>rfl
   |some o=>rw[ä (Ŋ (r b o q0) E),r b o q0]at h;cases h
  ·rw[<-e,î]at D;cases M:p[j]? with
   |none=>rw[M]at D;cases D
   |some i=>
    rw[M]at D;have N:i<as.length:=by simpa using pr.mem_iff.mp (ý M)
    obtain⟨hi',b,y,Z,g2,g3⟩:=at1 i as[i] (Å N);have W7:c[i]=k:=by
     have:c.getD i (⟨#[]⟩,0)=k:=æ D;rw[<-this];simp[hi']
    rw[W7]at Z g2;refine⟨as[i],b,y,?_,Z,g2,?_⟩
    ·rw[î,M];show À (V.ref (as.getD i 0))=_;rw[Ĥ,Å N];rfl
    ·rw[ä (Ŋ g3 E)];exact g3
end L2
namespace Mm
open PySem L2
def xM (h:n<=1000):n<=sizeLine:=ę (Ŕ h)
def R.wp {α:Type}:R α->(α->S->Prop)->Prop
 |.ok a s,Q=>Q a s
 |_,_=>False
def RS.wp:RS->(En->S->Prop)->(AV->S->Prop)->Prop
 |.nx e s,N,_=>N e s
 |.rt v s,_,T=>T v s
 |_,_,_=>False
def R.wp.mono {m:R α}(h:m.wp Q)(k:∀a s,Q a s->A a s):m.wp A:=by
 cases m with
 |ok a s=>exact k a s h
 |ex c s=>exact h.elim
 |bad=>exact h.elim
def RS.wp.mono {m:RS}(h:m.wp N T)(k:∀a s,N a s->A a s)(l:∀a s,T a s->B a s):m.wp A B:=by
 cases m with
 |nx a s=>exact k a s h
 |rt a s=>exact l a s h
 |_=>exact h.elim
def R.wp.get {m:R α}(h:m.wp Q):∃a s,m=.ok a s/\Q a s:=by
 cases m with
 |ok a s=>exact⟨a,s,rfl,h⟩
 |ex c s=>exact h.elim
 |bad=>exact h.elim
def R.wp.eq {m:R α}(h:m.wp (λa s'=>a=v/\s'=s)):m=.ok v s:=by
 obtain⟨a,s',e,rfl,rfl⟩:=h.get;exact e
def wR (a:α)(s:S)(Q:α->S->Prop):(R.ok a s).wp Q=Q a s:=rfl
def wp_bind (m:R α)(f:α->S->R b)(Q:b->S->Prop):(m.bind f).wp Q=m.wp λa s=>(f a s).wp Q:=by
 cases m<;>rfl
def cy (m:R α)(f:α->S->RS)(N:En->S->Prop)(T:AV->S->Prop):(m.aQ f).wp N T=m.wp λa s=>(f a s).wp N T:=by
 cases m<;>rfl
def FE (m:R α)(Q:α->S->Prop):m.calm.wp Q=m.wp Q:=by
 cases m<;>rfl
def pf {α:Type}(c:Prop){_:aZ c}(m:R α)(Q:α->S->Prop):(if c then m else .bad).wp Q=(c/\m.wp Q):=by
 by_cases h:c
 ·rw[Ò h];exact g7 ⟨λk=>⟨h,k⟩,λk=>k.2⟩
 ·rw[Ø h];exact g7 ⟨λk=>k.elim,λk=>(h k.1).elim⟩
def Tn (c:Prop){_:aZ c}(m:RS)(N:En->S->Prop)(T:AV->S->Prop):(if c then m else .bad).wp N T=(c/\m.wp N T):=by
 by_cases h:c
 ·rw[Ò h];exact g7 ⟨λk=>⟨h,k⟩,λk=>k.2⟩
 ·rw[Ø h];exact g7 ⟨λk=>k.elim,λk=>(h k.1).elim⟩
def va (c:Prop){_:aZ c}{α:Type}(m n:R α)(Q:α->S->Prop):(if c then m else n).wp Q=if c then m.wp Q else n.wp Q:=by
 by_cases h:c
 ·rw[Ò h,Ò h]
 ·rw[Ø h,Ø h]
def Ld (c:Prop){_:aZ c}(m n:RS)(N:En->S->Prop)(T:AV->S->Prop):(if c then m else n).wp N T=if c then m.wp N T else n.wp N T:=by
 by_cases h:c
 ·rw[Ò h,Ò h]
 ·rw[Ø h,Ø h]
def vb (x:a)(f:a->R α)(Q:α->S->Prop):(need (À x) f).wp Q=(f x).wp Q:=rfl
def û:(([]:Á AV).length<=sizeLine)=True/\(∀a:AV,([a].length<=sizeLine)=True)/\(∀a b:AV,([a,b].length<=sizeLine)=True)/\(∀a b c:AV,([a,b,c].length<=sizeLine)=True)/\
  (∀a b c d e f:AV,([a,b,c,d,e,f].length<=sizeLine)=True)/\
  (([]:Á AV).length=0)=True/\(∀a:AV,([a].length=1)=True)/\(∀a b:AV,([a,b].length=2)=True)/\(∀a b c:AV,([a,b,c].length=3)=True):=by
 refine⟨?_,?_,?_,?_,?_,?_,?_,?_,?_⟩<;>intros<;>first|exact eq_true rfl|exact eq_true (xM (by show(_:Nat)<=1000;simp))
def WS :
  (∀a b env s N T,(ã a b env s).wp N T=(a env s).wp (λe s1=>(b e s1).wp N T) T)/\
  (∀i m env s N T,(ņ i m env s).wp N T=(m env s).wp λv s1=>N (env.set i (À v)) s1)/\
  (∀m env s N T,(Č m env s).wp N T=(m env s).wp T)/\
  (∀c a b env s N T,(a5 c a b env s).wp N T=(c env s).wp λk s1=>if k=true then (a env s1).wp N T else (b env s1).wp N T)/\
  (∀m env s N T,(į m env s).wp N T=(m env s).wp λ_ s1=>N env s1)/\
  (∀m g env s N T,(oX m g env s).wp N T=(m env s).wp λv s1=>(g v env s1).wp N T)/\
  (∀i j a b env s N T,(jV i j (Â a (Â b Ï)) env s).wp N T=(a env s).wp λv s1=>(b env s1).wp λw l=>N ((env.set i (À v)).set j (À w)) l)/\
  (∀env s N T,(ĉ env s).wp N T=N env s)/\
  (∀f h b env s N T,(lG f h b env s).wp N T=(f env s).wp λp s1=>(forL h b p.2 p.1 env s1).wp N T)/\
  (∀d y v env s N T,(gF d y v env s).wp N T=(v env s).wp λa s1=>(d env s1).wp λb l=>(y env l).wp λc t=>(putD a b c env t).wp N T)/\
  (∀i v env s N T,(gN i v env s).wp N T=N (env.set i (À v)) s)/\
  (∀n r vs env s N T,(gT n r (.tup vs) env s).wp N T=(vs.length=n/\(r vs env s).wp N T))/\
  (∀i r v w env s N T,(ß (gN i) r (v::w) env s).wp N T=(r w (env.set i (À v)) s).wp N T)/\
  (∀env s N T,(ś [] env s).wp N T=N env s)/\
  (∀o i r v w env s N,(ß (nN o i) r (v::w) env s).wp N (λ_ _=>False)=(nN o i v env s).wp (λe s1=>(r w e s1).wp N (λ_ _=>False)) (λ_ _=>False))/\
  (∀n b v s Q,(bH n b [v] s).wp Q=(b (À v::â (n-1) none) s).wp (λ_ s1=>Q .Ĕ s1) Q)/\
  (∀n b v w s Q,(bH n b [v,w] s).wp Q=(b (À v::À w::â (n-2) none) s).wp (λ_ s1=>Q .Ĕ s1) Q)/\
  (∀n b v w x s Q,(bH n b [v,w,x] s).wp Q=(b (À v::À w::À x::â (n-3) none) s).wp (λ_ s1=>Q .Ĕ s1) Q):=by
 refine⟨?_,?_,?_,?_,?_,?_,?_,?_,?_,?_,?_,?_,?_,?_,?_,?_,?_,?_⟩<;>intros
 ·rename_i a b env s N T;show(match a env s with|.nx e s1=>b e s1|r=>r).wp N T=_;cases a env s<;>rfl
 ·unfold ņ;rw[cy];rfl
 ·unfold Č;rw[cy];rfl
 ·unfold a5;rw[cy];congr 1;funext k s1;exact Ld _ _ _ _ _
 ·unfold į;rw[cy];rfl
 ·unfold oX;rw[cy]
 ·rename_i i j a b env s N T;unfold jV Â Ï;cases a env s with
  |ok v s1=>
   simp only[ï,wR];cases b env s1<;>rfl
  |ex c s1=>rfl
  |bad=>rfl
 ·rfl
 ·unfold lG;rw[cy]
 ·unfold gF;rw[cy];congr 1;funext k s1;rw[cy];congr 1;funext k s1;rw[cy]
 ·rfl
 ·exact Tn _ _ _ _
 ·rfl
 ·rfl
 ·rename_i o i r v w env s N;show(match nN o i v env s with|.nx e s1=>r w e s1|q=>q).wp N _=_;cases nN o i v env s<;>rfl
 ·rename_i n b v s Q;show(match b (À v::â (n-1) none) s with|.rt v s1=>R.ok v s1|.nx _ s1=>.ok .Ĕ s1|.ex c s1=>.ex c s1|_=>.bad).wp Q=_;cases b (À v::â (n-1) none) s<;>rfl
 ·rename_i n b v w s Q;show(match b (À v::À w::â (n-2) none) s with|.rt v s1=>R.ok v s1|.nx _ s1=>.ok .Ĕ s1|.ex c s1=>.ex c s1|_=>.bad).wp Q=_;cases b (À v::À w::â (n-2) none) s<;>rfl
 ·rename_i n b v w x s Q;show(match b (À v::À w::À x::â (n-3) none) s with|.rt v s1=>R.ok v s1|.nx _ s1=>.ok .Ĕ s1|.ex c s1=>.ex c s1|_=>.bad).wp Q=_;cases b (À v::À w::À x::â (n-3) none) s<;>rfl
noncomputable def Ca (v:AV)(s:S):R (Á AV×Gd):=match v with
 |.tup xs=>.ok (xs,[]) s
 |.sq xs=>.ok (xs,[]) s
 |.ref i=>need (ù s i) λxs=>.ok (xs,[(i,xs)]) s
 |_=>.bad
def WE :
  (∀v env s Q,(mc v env s).wp Q=Q v s)/\
  (∀op a b env s Q,(Ç op a b env s).wp Q=(a env s).wp λv s1=>(b env s1).wp λw e=>(op v w e).wp Q)/\
  (∀op a env s Q,(bg op a env s).wp Q=(a env s).wp λv s1=>(op v s1).wp Q)/\
  (∀r env s Q,(Ť r env s).wp Q=(r env s).wp λvs s1=>vs.length<=sizeLine/\Q (.tup vs) s1)/\
  (∀r env s Q,(Ŭ r env s).wp Q=(r env s).wp λvs s1=>vs.length<=sizeLine/\Q vs s1)/\
  (∀r env s Q,(Ď r env s).wp Q=(r env s).wp λvs s1=>Q (.ref s1.length) (s1++[.lst vs]))/\
  (∀n F r env s Q,(å n F r env s).wp Q=(r env s).wp λvs s1=>vs.length=n/\(F vs s1).wp Q)/\
  (∀a r env s Q,(Â a r env s).wp Q=(a env s).wp λv s1=>(r env s1).wp λvs e=>Q (v::vs) e)/\
  (∀env s Q,(Ï env s).wp Q=Q [] s)/\
  (∀m env s Q,(cB m env s).wp Q=(m env s).wp λv s1=>match v with|.bl b=>Q b s1|_=>False)/\
  (∀m env s Q,(cT m env s).wp Q=(m env s).wp λv s1=>match truth v s1 with|some b=>Q b s1|none=>False)/\
  (∀a env s Q,(qz a env s).wp Q=(a env s).wp λc s1=>Q (!c) s1)/\
  (∀a b env s Q,(qy a b env s).wp Q=(a env s).wp λc s1=>if c=true then (b env s1).wp Q else Q false s1)/\
  (∀a b env s Q,(Aq a b env s).wp Q=(a env s).wp λc s1=>if c=true then Q true s1 else (b env s1).wp Q)/\
  (∀env s Q,(fV env s).wp Q=Q true s)/\
  (∀c a b env s Q,(Pr c a b env s).wp Q=(c env s).wp λk s1=>if k=true then (a env s1).wp Q else (b env s1).wp Q)/\
  (∀op r env s Q,(sh op r env s).wp Q=(r env s).wp λvs s1=>(op vs s1).wp Q)/\
  (∀{α:Type}(op:Á AV->S->R α) (r:hR) (env:En) (s:S) (Q:α->S->Prop),(tF op r env s).wp Q=(r env s).wp λvs s1=>(op vs s1).wp Q)/\
  (∀m env s Q,(uv m env s).wp Q=(m env s).wp λv s1=>(need (items v s1) λxs=>.ok xs s1).wp Q)/\
  (∀r env s Q,(n8 r env s).wp Q=(r env s).wp λxs s1=>Q (xs,[]) s1)/\
  (∀m env s Q,(Ŧ m env s).wp Q=(m env s).wp λv s1=>(Ca v s1).wp Q)/\
  (∀l g j f elt env s Q,(ł l g j f elt env s).wp Q=(g env s).wp λp s1=>p.1.length<=sizeLine/\(az j f elt p.2 p.1 (DW l env) s1 []).wp Q)/\
  (∀n op o r env s Q,(gg n op o r env s).wp Q=(o env s).wp λv s1=>(kL n v s1).isSome=true/\(r env s1).wp λvs e=>(op v vs e).wp Q)/\
  (∀{α:Type}(n:String) (op:AV->Á AV->S->R α) (o:Ev) (r:hR) (env:En) (s:S) (Q:α->S->Prop),(IU n op o r env s).wp Q=(o env s).wp λv s1=>(kL n v s1).isSome=true/\(r env s1).wp λvs e=>(op v vs e).wp Q)/\
  (∀n op o env s Q,(Pt n op o env s).wp Q=(o env s).wp λv s1=>(kL n v s1).isSome=true/\(op v [] s1).wp Q)/\
  (∀d y z env s Q,(tY d y z env s).wp Q=(d env s).wp λa s1=>(kL "dict" a s1).isSome=true/\(y env s1).wp λb e=>(z env e).wp λc q=>(JY a b c q).wp Q)/\
  (∀env s Q,(Dm env s).wp Q=Q s!"h" (s++[.dK []]))/\
  (∀m lo t env s Q,(E7 m lo t env s).wp Q=(m env s).wp λv s1=>(lo env s1).wp λl e=>(t env e).wp λh q=>(zN v l h q).wp Q)/\
  (∀env s Q,(oN env s).wp Q=Q none s)/\
  (∀m env s Q,(oS m env s).wp Q=(m env s).wp λv s1=>match v with|.int i=>Q (À i) s1|_=>False)/\
  (∀a b env s Q,(GH a b env s).wp Q=(a env s).wp λv s1=>match v with|.bl true=>(b env s1).wp Q|.bl false=>Q (.bl false) s1|_=>False)/\
  (∀a b env s Q,(Xb a b env s).wp Q=(a env s).wp λv s1=>match v with|.bl true=>Q (.bl true) s1|.bl false=>(b env s1).wp Q|_=>False)/\
  (∀m env s Q,(C4 m env s).wp Q=(m env s).wp λv s1=>(s1.take s.length=s/\v.low s.length=true)/\Q v s)/\
  (∀m env s Q,(MJ m env s).wp Q=(m env s).wp λv s1=>(s1.take s.length=s)/\Q v s)/\
  (∀m env s Q,(yi m env s).wp Q=(m env s).wp λv s1=>((s1.take s.length).all (AO.low s.length)=true/\v.low s.length=true)/\Q v (s1.take s.length))/\
  (∀m env s Q,(gf m env s).wp Q=(m env s).wp λv s1=>match v with|.ref k=>(need (ù s1 k) λxs=>if s.length<=k/\(s1.take s.length).all (AO.low s.length)=true/\Ŀ s.length xs=true then .ok xs (s1.take s.length)else .bad).wp Q|_=>False):=by
 refine⟨?_,?_,?_,?_,?_,?_,?_,?_,?_,?_,?_,?_,?_,?_,?_,?_,?_,?_,?_,?_,?_,?_,?_,?_,?_,?_,?_,?_,?_,?_,?_,?_,?_,?_,?_,?_⟩<;>intros
 ·rfl
 ·unfold Ç;rw[wp_bind];congr 1;funext v s1;rw[wp_bind]
 ·unfold bg;rw[wp_bind]
 ·unfold Ť;rw[wp_bind];congr 1;funext v s1;exact pf _ _ _
 ·unfold Ŭ;rw[wp_bind];congr 1;funext v s1;exact pf _ _ _
 ·unfold Ď;rw[wp_bind];rfl
 ·unfold å;rw[wp_bind];congr 1;funext v s1;exact pf _ _ _
 ·unfold Â;rw[wp_bind];congr 1;funext v s1;rw[wp_bind];rfl
 ·rfl
 ·unfold cB;rw[wp_bind];congr 1;funext v s1;cases v<;>rfl
 ·unfold cT;rw[wp_bind];congr 1;funext v s1;cases truth v s1<;>rfl
 ·unfold qz;rw[wp_bind];rfl
 ·unfold qy;rw[wp_bind];congr 1;funext v s1;exact va _ _ _ _
 ·unfold Aq;rw[wp_bind];congr 1;funext v s1;exact va _ _ _ _
 ·rfl
 ·unfold Pr;rw[wp_bind];congr 1;funext v s1;exact va _ _ _ _
 ·unfold sh;rw[wp_bind]
 ·unfold tF;rw[wp_bind]
 ·unfold uv;rw[wp_bind]
 ·unfold n8;rw[wp_bind];rfl
 ·unfold Ŧ;rw[wp_bind];rfl
 ·unfold ł;rw[wp_bind];congr 1;funext v s1;exact pf _ _ _
 ·unfold gg;rw[wp_bind];congr 1;funext v s1;cases kL _ v s1 with
  |none=>exact g7 ⟨λk=>k.elim,λk=>nomatch k.1⟩
  |some u=>rw[vb,wp_bind];exact g7 ⟨λk=>⟨rfl,k⟩,λk=>k.2⟩
 ·unfold IU;rw[wp_bind];congr 1;funext v s1;cases kL _ v s1 with
  |none=>exact g7 ⟨λk=>k.elim,λk=>nomatch k.1⟩
  |some u=>rw[vb,wp_bind];exact g7 ⟨λk=>⟨rfl,k⟩,λk=>k.2⟩
 ·unfold Pt;rw[wp_bind];congr 1;funext v s1;cases kL _ v s1 with
  |none=>exact g7 ⟨λk=>k.elim,λk=>nomatch k.1⟩
  |some u=>rw[vb];exact g7 ⟨λk=>⟨rfl,k⟩,λk=>k.2⟩
 ·unfold tY;rw[wp_bind];congr 1;funext v s1;cases kL _ v s1 with
  |none=>exact g7 ⟨λk=>k.elim,λk=>nomatch k.1⟩
  |some u=>
   rw[vb,wp_bind];simp only[wp_bind];exact g7 ⟨λk=>⟨rfl,k⟩,λk=>k.2⟩
 ·rfl
 ·unfold E7;rw[wp_bind];congr 1;funext v s1;rw[wp_bind];congr 1;funext v s1;rw[wp_bind]
 ·rfl
 ·unfold oS;rw[wp_bind];congr 1;funext v s1;cases v<;>rfl
 ·unfold GH;rw[wp_bind];congr 1;funext v s1;cases v with
  |bl b=>cases b<;>rfl
  |_=>rfl
 ·unfold Xb;rw[wp_bind];congr 1;funext v s1;cases v with
  |bl b=>cases b<;>rfl
  |_=>rfl
 ·unfold C4;rw[wp_bind];congr 1;funext v s1;exact pf _ _ _
 ·unfold MJ;rw[wp_bind];congr 1;funext v s1;exact pf _ _ _
 ·unfold yi;rw[wp_bind];congr 1;funext v s1;exact pf _ _ _
 ·unfold gf;rw[wp_bind];congr 1;funext v s1;cases v<;>rfl
theorem pL (I:Á AV->En->S->Prop)(c:∀l env s,I l env s->r3 j s)(h0:∀env s,I [] env s->N env s)
  (g:∀v r env s,I (v::r) env s->(a v env s).wp (λe s1=>(b e s1).wp (I r) T) (λ_ _=>False)):∀l env s,I l env s->(forL a b j l env s).wp N T
 |[],env,s,h=>by unfold forL;rw[Ò (c _ _ _ h)];exact h0 env s h
 |v::r,env,s,h=>by
  unfold forL;rw[Ò (c _ _ _ h)];have k:=g v r env s h;revert k;cases a v env s with
  |nx d s1=>
   intro k;have k:(b d s1).wp (I r) T:=k;dsimp only;revert k;cases b d s1 with
   |nx f i=>intro k;exact pL I c h0 g r f i k
   |rt f i=>intro k;exact k
   |_=>intro k;exact k.elim
  |_=>intro k;exact k.elim
theorem om {d:Mt}{b:Eb}{elt:Ev}{o:Gd}{Q:Á AV->S->Prop}(I:Á AV->Á AV->En->S->Prop)(f:∀l a env s,I l a env s->r3 o s)(h0:∀a env s,I [] a env s->Q a s)
  (i:∀v r a env s,I (v::r) a env s->(d v env s).wp (λe s1=>(b e s1).wp λc g=>if c=true then (elt e g).wp λx m=>I r (a++[x]) e m else I r a e g) (λ_ _=>False)):∀l a env s,I l a env s->(az d b elt o l env s a).wp Q
 |[],a,env,s,h=>by unfold az;rw[Ò (f _ _ _ _ h)];exact h0 a env s h
 |v::r,a,env,s,h=>by
  unfold az;rw[Ò (f _ _ _ _ h)];have k:=i v r a env s h;revert k;cases d v env s with
  |nx n s1=>
   intro k;dsimp only;rw[wp_bind,FE];refine R.wp.mono k λc g k=>?_;rw[va,wp_bind,FE];split
   ·rename_i j;rw[Ò j]at k;exact R.wp.mono k λx m k=>om I f h0 i r (a++[x]) n m k
   ·rename_i j;rw[Ø j]at k;exact om I f h0 i r a n g k
  |_=>intro k;exact k.elim
def a7 {m:R α}(h:m=.ok v s)(Q:α->S->Prop):m.wp Q=Q v s:=by rw[h];rfl
def Lg {m:RS}(h:m=.nx e s)(N:En->S->Prop)(T:AV->S->Prop):m.wp N T=N e s:=by rw[h];rfl
def Lf (f:En->S->Nat)(c:Eb)(b:Ms)(env:En)(s:S)(N:En->S->Prop)(T:AV->S->Prop):(KD f c b env s).wp N T=(Hf c b (f env s) env s).wp N T:=rfl
def bq (h:∀K:En->S->Prop,(∀e s,K e s=(b e s).wp N T)->(a env s).wp K T):(ã a b env s).wp N T:=by
 rw[WS.1];exact h _ λ_ _=>rfl
def WV :
  (∀v l s Q,(mv 0 (À v::l) s).wp Q=Q v s)/\
  (∀n x l s Q,(mv (n+1) (x::l) s).wp Q=(mv n l s).wp Q)/\
  (∀i j s Q,(ť (.int i) (.int j) s).wp Q=Q (.int (i+j)) s)/\
  (∀i j s Q,(Fc (.int i) (.int j) s).wp Q=Q (.int (i-j)) s)/\
  (∀i j s Q,(bY (.int i) (.int j) s).wp Q=((Ei i/\Ei j)/\Q (.int (i*j)) s))/\
  (∀i j s Q,(iP (.int i) (.int j) s).wp Q=((j≠0/\P_ j)/\Q (.int (i.fdiv j)) s))/\
  (∀i j s Q,(gh (.int i) (.int j) s).wp Q=(j≠0/\Q (.int (i.fmod j)) s))/\
  (∀i s Q,(wb (.int i) s).wp Q=Q (.int (-i)) s)/\
  (∀b s Q,(J0 (.bl b) s).wp Q=Q (.bl (!b)) s)/\
  (∀i j s Q,(zM (.int i) (.int j) s).wp Q=Q (.bl (decide (i<j))) s)/\
  (∀i j s Q,(GS (.int i) (.int j) s).wp Q=Q (.bl (decide (i<=j))) s)/\
  (∀i j s Q,(p7 (.int i) (.int j) s).wp Q=Q (.bl (decide (j<i))) s)/\
  (∀i j s Q,(GR (.int i) (.int j) s).wp Q=Q (.bl (decide (j<=i))) s)/\
  (∀i j s Q,(Ş (.int i) (.int j) s).wp Q=Q (.bl (decide (i=j))) s)/\
  (∀i j s Q,(ji (.int i) (.int j) s).wp Q=Q (.bl (!decide (i=j))) s)/\
  (∀i j s Q,(Ş (.str i) (.str j) s).wp Q=Q (.bl (decide (i=j))) s)/\
  (∀i j s Q,(ji (.str i) (.str j) s).wp Q=Q (.bl (!decide (i=j))) s)/\
  (∀v s Q,(qR v .Ĕ s).wp Q=Q (.bl (mQ v)) s)/\
  (∀v s Q,(NK v .Ĕ s).wp Q=Q (.bl (!mQ v)) s)/\
  (∀i s Q,(t5 [.int i] s).wp Q=Q (.int (if i<0 then -i else i)) s)/\
  (∀i j s Q,(BR [.int i,.int j] s).wp Q=Q (.int (if j<i then j else i)) s)/\
  (∀i s Q,(yA [.int i] s).wp Q=Q (.int i) s)/\
  (∀i s Q,(yA [.bl i] s).wp Q=Q (.int (if i then 1 else 0)) s)/\
  (∀xs i s Q,(ì (.tup xs) (.int i) s).wp Q=(need (mG xs i) λv=>.ok v s).wp Q)/\
  (∀k i s Q,(ì (.ref k) (.int i) s).wp Q=(need (ù s k) λxs=>need (mG xs i) λv=>.ok v s).wp Q)/\
  (∀{α:Type}(a:α) (s:S) (Q:α->S->Prop),(R.ok a s).wp Q=Q a s)/\
  (∀e s N T,(RS.nx e s).wp N T=N e s)/\
  (∀{α c:Type}(x:c) (f:c->R α) (Q:α->S->Prop),(need (À x) f).wp Q=(f x).wp Q)/\
  (∀xs s Q,(Ca (.tup xs) s).wp Q=Q (xs,[]) s)/\
  (∀i j s Q,(t6 (.int i) (.int j) s).wp Q=(L9 i j/\Q (.int (i^j.toNat)) s))/\
  (∀i j s Q,(n4 [.int i,.int j] s).wp Q=((0<j/\P_ j)/\Q (.tup [.int (i / j),.int (i % j)]) s)):=by
 refine⟨?_,?_,?_,?_,?_,?_,?_,?_,?_,?_,?_,?_,?_,?_,?_,?_,?_,?_,?_,?_,?_,?_,?_,?_,?_,?_,?_,?_,?_,?_,?_⟩<;>intros<;>first|rfl|exact pf _ _ _
def Lq :
  (∀(x y:Ë AV) (l:En),(x::l).set 0 y=y::l)/\
  (∀(x y:Ë AV) (l:En) (n:Nat),(x::l).set (n+1) y=x::l.set n y)/\
  (∀(n:Nat) (x:Ë AV),â (n+1) x=x::â n x)/\
  (∀(x:Ë AV),â 0 x=[])/\
  (∀(a:AV) (l:Á AV),mG (a::l) 0=À a)/\(∀(a b:AV) (l:Á AV),mG (a::b::l) 1=À b)/\(∀(a b c:AV) (l:Á AV),mG (a::b::c::l) 2=À c)/\
  (∀(l:Lc) (env:En),DW l env=l.map λp=>p.2.bind λj=>(env[j]?).join)/\
  (∀(x:Ë AV) (l:En),(x::l)[0]?=À x)/\
  (∀(x:Ë AV) (l:En) (n:Nat),(x::l)[n+1]?=l[n]?)/\
  (∀{α d:Type}(f:α->d),[].map f=[])/\
  (∀{α d:Type}(f:α->d) (x:α) (l:Á α),(x::l).map f=f x::l.map f)/\
  (∀{α d:Type}(f:α->Ë d),(none:Ë α).bind f=none)/\
  (∀{α d:Type}(f:α->Ë d) (x:α),(À x).bind f=f x)/\
  (∀{α:Type}(x:Ë α),(À x).join=x):=by
 refine⟨?_,?_,?_,?_,?_,?_,?_,?_,?_,?_,?_,?_,?_,?_,?_⟩<;>intros<;>first|rfl|skip
 ·exact jd (j:=0) rfl
 ·exact jd (j:=1) rfl
 ·exact jd (j:=2) rfl
def UU:(∀p:Prop,(True ∧ p)=p) ∧ (∀p:Prop,(p ∧ True)=p) ∧ (∀{α:Type}{_:aZ True}(a b:α),(if True then a else b)=a) ∧ (∀{α:Type}{_:aZ False}(a b:α),(if False then a else b)=b) ∧ ((false=true)=False) ∧ (∀(p:Prop){_:aZ p},(decide p=true)=p) ∧ (∀b:Bool,((!b)=true)=(b=false)) ∧ (∀(p:Prop){_:aZ p},(decide p=false)=¬p):=by
 refine⟨λp=>true_and p,λp=>and_true p,λa b=>fO a b,λa b=>fG a b,ŷ,λp _=>Š,λb=>g0 b,λp _=>g7 LC⟩

end Mm
local macro_rules |`(tactic|walk_at"w") => `(tactic|simp only [↓Mm.WS, ↓Mm.WE, ↓Mm.WV, Mm.Lq, Mm.û, Mm.UU, Ð, ↓Ü])
local macro_rules|`(tactic|simp?[$a:simpLemma,*])=>`(tactic|simp only[↓Mm.WS,↓Mm.WE,↓Mm.WV,Mm.Lq,Mm.û,Mm.UU,Ð,↓Ü,$a:simpLemma,*])
namespace Ro
open PySem L2 Mm
structure Df (T:Tx)(mg:Str->Ë Value)(x:Str)(st:Stmt):Prop where
 ex:∃f fd,HL T.K x x st f fd/\mg x=À (.ref f)
def Uv {K:È}{cl:Nat->Addr}{h:Heap}{mg:Str->Ë Value}{x:Str}{st:Stmt}{f:Addr}{i:Value}{od g:Ë Addr}{e:Ē (Ë Value)}{kV d j b ct:Value}(X:K.In h)(G:h.Ns mainGlobals mg)(a:Đ K mainGlobals x=À (À (.ref f)))
  (l:K.lookup f=À ⟨i,od,.func (Ŏ x x (cE st) (aR st) (ĝ st) .none kV d j g b ct),e⟩) (c:dC K b x=true) (k:ĸ K (.ref f)=true):Df ⟨K,cl⟩ mg x st:=
 ⟨⟨f,_,zo l c k,ia X G a⟩⟩
def Dh (X:K.In h)(G:h.Ns mainGlobals mg)(a:Đ K mainGlobals x=À (À (.ref f))) (l:K.lookup f=À ⟨.type "tuple",od,.seq d n,e⟩)(v:Vals vs d.toList)(b:vs.length<=1000)(c:∀ρ H,ı ⟨K,cl⟩ ρ H as vs):yZ ⟨K,cl⟩ mg x (.tup as):=
 ⟨.ref f,.ref f,ia X G a,rfl,λρ H=>jM (gz.const l v b) (c ρ H)⟩
def E3 (X:K.In h)(G:h.Ns mainGlobals mg)(e:Đ K mainGlobals x=À (À u)) (r:RelV v u)(b:∀ρ H,VR ⟨K,cl⟩ ρ H a v):yZ ⟨K,cl⟩ mg x a:=⟨v,u,ia X G e,r,b⟩
section
variable {P:ď}{w:ī}{T:Tx}{mg:Str->Ë Value}{base:Heap}
def V5 (N P:Á Str)(a:Scope):Bool:=decide N.Nodup&&(P.all (λx=>decide (a.names.lookup x=À .local)||decide (a.names.lookup x=À .cell))&&a.names.all λy=>!decide (y.2=.free))
def Ī {N P:Á Str}{a:Scope}(b:a.kind=.function)(c:a.isCoroutine=false)(d:a.isGenerator=false)(e:N.take P.length=P)(h:V5 N P a=true):jc N P a:=by
 unfold V5 at h;rw[ē,ē,Ā,Ā]at h;refine⟨b,c,d,š h.1,e,λx f=>?_,λy g=>?_⟩
 ·have:=h.2.1 x f;rw[fK]at this;exact this.imp š š
 ·have:=h.2.2 y g;rw[g0]at this;exact of_decide_eq_false this
def len0 {α:Type}{us:Á α}(h:us.length=0):us=[]:=Cy.mp h
def U6 {α:Type}{us:Á α}(h:us.length=1):∃b,us=[b]:=by
 cases us with
 |nil=>cases h
 |cons a us=>
  cases len0 (gq h);exact⟨a,rfl⟩
def U7 {α:Type}{us:Á α}(h:us.length=2):∃c b,us=[c,b]:=by
 cases us with
 |nil=>cases h
 |cons a us=>
  obtain⟨b,rfl⟩:=U6 (gq h);exact⟨a,_,rfl⟩
def U8 {α:Type}{us:Á α}(h:us.length=3):∃d b c,us=[d,b,c]:=by
 cases us with
 |nil=>cases h
 |cons a us=>
  obtain⟨b,c,rfl⟩:=U7 (gq h);exact⟨a,_,_,rfl⟩
def U9 {α:Type}{us:Á α}(h:us.length=4):∃e b c d,us=[e,b,c,d]:=by
 cases us with
 |nil=>cases h
 |cons a us=>
  obtain⟨b,c,d,rfl⟩:=U8 (gq h);exact⟨a,_,_,_,rfl⟩
def U_ {α:Type}{us:Á α}(h:us.length=5):∃f b c d e,us=[f,b,c,d,e]:=by
 cases us with
 |nil=>cases h
 |cons a us=>
  obtain⟨b,c,d,e,rfl⟩:=U9 (gq h);exact⟨a,_,_,_,_,rfl⟩
def U' {α:Type}{us:Á α}(h:us.length=6):∃g b c d e f,us=[g,b,c,d,e,f]:=by
 cases us with
 |nil=>cases h
 |cons a us=>
  obtain⟨b,c,d,e,f,rfl⟩:=U_ (gq h);exact⟨a,_,_,_,_,_,rfl⟩
def Q2 {α:Type}{us:Á α}(h:us.length=7):∃i b c d e f g,us=[i,b,c,d,e,f,g]:=by
 cases us with
 |nil=>cases h
 |cons a us=>
  obtain⟨b,c,d,e,f,g,rfl⟩:=U' (gq h);exact⟨a,_,_,_,_,_,_,rfl⟩
end
end Ro
namespace L2
open PySem PySem.Spec PyProof.Rows
theorem Inv.JX (I:Inv X a b H s):s.heap.NoDigits:=I.ok.mod.JX.keeps I.bk
def R' (g:X.calm=true)(h:PE X e k):PE X (.FormattedValue e (-1) none pos) (λd H Q=>k d H λx A=>(∃i,x=.int i/\i.natAbs<10^4300/\Q (.str (toString i)) A)∨∃t,x=.str t/\t.length<=sizeLine/\Q (.str t) A):=by
 intro a s d H Q I j;refine wpAny_FormattedValue_plain (ak (h a s d H _ I j) λu m l=>iX l λx A B f q=>?_);rcases q with⟨i,rfl,c,q⟩|⟨t,rfl,c,q⟩
 ·obtain⟨t,rfl⟩:=f;exact ZJ (B.ok.hd g) B.JX (λ_=>⟨.str _,A,B.tok _,⟨_,rfl⟩,q⟩) λb=>absurd c (oF.mpr b)
 ·obtain⟨n,rfl⟩:=f;exact wpAny_formatField_str ⟨.str _,A,B,⟨_,rfl⟩,q⟩ ⟨.str _,A,B.tok _,⟨_,rfl⟩,q⟩ c
abbrev TJ:=St->Hp->Str->(Str->Hp->Prop)->Prop
def PJ (X:Cx)(e:Á Expr)(t:TJ):Prop:=∀a s d H b Q,Inv X a d H s->t d H b Q->
 Joins s!"b" X.A X.xe (FW e X.env) b (λc f=>∃B,Inv X a d B f/\Q c B) s
def Wd:TJ:=λb H a Q=>Q a H
def S' (c:TE)(r:TJ):TJ:=λb H a Q=>c b H λx A=>∃y,x=.str y/\(a++y).length<=sizeLine/\r b A (a++y) Q
def Sk:PJ X [] Wd:=λa s c H b Q I h=>⟨H,I,h⟩
def N2 (g:PE X e l)(hr:PJ X b r)(i:FW (e::b) X.env=Ė e X.env::FW b X.env:=by rfl):PJ X (e::b) (S' l r):=by
 intro a s c H d Q I h;rw[i];refine ak (g a s c H _ I h) λu k m=>?_;obtain⟨x,A,B,j,y,f,hl,q⟩:=m;subst f;obtain⟨t,rfl⟩:=j;exact⟨y,t,rfl,hl,hr a k c A _ Q B q⟩
theorem yn:∀{ps:Á (Z5 Value)}{a:Str}{Q B:Str->Ó->Prop}{s:Ó},Joins M A E ps a Q s->(∀o s,Q o s->B o s)->Joins M A E ps a B s
 |[],_,_,_,_,h,k=>k _ _ h
 |_::_,_,_,_,_,h,k=>aB h (λ_ _ b=>iX b λy t e hl r=>⟨y,t,e,hl,yn r k⟩) λ_ _ x=>x
def NS (h:PJ X (e1::c::d) t):PE X (.JoinedStr (e1::c::d) pos) (λb H Q=>t b H kU λout A=>out.length<=sizeLine/\Q (.str out) A):=by
 intro a s b H Q I e;exact wpAny_JoinedStr (yn (h a s b H kU _ I e) λout f ⟨A,B,hl,q⟩=>⟨hl,.str out,A,B.tok _,⟨_,rfl⟩,q⟩)
end L2
namespace Mm
open PySem L2
section
variable {T:Tx}{XE:iW}{X:Cx}{pos:kR}
structure Dg (i:Int):Prop where
 f:i.natAbs<10^4300
instance {i:Int}:aZ (Dg i):=kX _
def Y6 (i:Int):Str:=ĩ (toString i)
def kh:AV->S->R AV
 |.int i,s=>if Dg i then .ok (.str (Y6 i)) s else .bad
 |.str t,s=>if t.length<=sizeLine then .ok (.str t) s else .bad
 |_,_=>.bad
def Rf (j:X.calm=true)(h:PE X e s!"x"):PE X (.FormattedValue e (-1) none pos) (tE T XE (bg kh m)):=
 PE.imp (R' j h) λt H Q o=>Ō o λr g s n k l=>step n k l λv p d A x _ q c i b a=>by
  have b:VR T d A v x:=b;cases v<;>try exact a.elim
  ·obtain⟨hl,a⟩:=a.Ř;exact .inl ⟨_,b.int_inv,hl.f,a.Ĺ c iS⟩
  ·obtain⟨hl,a⟩:=a.Ř;exact .inr ⟨_,b.str_inv,hl,a.Ĺ c iS⟩
abbrev Ej:=Str->En->S->R Str
def sf:Ej:=λa _ s=>.ok a s
noncomputable def bX (m:Ev)(r:Ej):Ej:=λa b s=>(m b s).bind λv c=>match v with
 |.str y=>if (a++y).length<=sizeLine then r (a++y) b c else .bad
 |_=>.bad
def YY:Rl Str Str:=⟨λ_ _ _ a b=>a=b,λ_ h=>h⟩
def tJ (T:Tx)(XE:iW)(m:Ej):TJ:=λd H b Q=>∃c a s,SR T c s H/\ER T c H a d/\Out T XE YY c H (m b a s) Q
def PJ.imp (h:PJ X d t)(k:∀c H a Q,t' c H a Q->t c H a Q):PJ X d t':=λb s c H a Q I e=>h b s c H a Q I (k c H a Q e)
def RA:PJ X [] (tJ T XE sf):=PJ.imp Sk λg H a Q ⟨e,b,s,d,f,c⟩=>c e H a .refl d rfl
def Nl (i:PE X e s!"x") (hr:PJ X h (tJ T XE r)) (j:FW (e::h) X.env=Ė e X.env::FW h X.env:=by rfl):PJ X (e::h) (tJ T XE (bX m r)):=
 PJ.imp (N2 i hr j) λq H a Q ⟨p,f,s,j,i,l⟩=>step j i l λv n d A x _ o k g c b=>by
  have c:VR T d A v x:=c;cases v<;>try exact b.elim
  obtain⟨hl,b⟩:=b.Ř;exact⟨_,c.str_inv,hl,d,f,n,k,g,b⟩
noncomputable def jL (r:Ej):Ev:=λa s=>(r kU a s).bind λt b=>if t.length<=sizeLine then .ok (.str t) b else .bad
def Nd (h:PJ X (e1::d::f) (tJ T XE r)):PE X (.JoinedStr (e1::d::f) pos) (tE T XE (jL r)):=
 PE.imp (NS h) λo H Q l=>Ō l λm b s i g a=>by
  refine⟨m,b,s,i,g,?_⟩;unfold jL at a;cases e:r kU b s with
  |bad=>rw[e]at a;exact a
  |ex c j=>rw[e]at a;exact a
  |ok t j=>
   rw[e]at a;obtain⟨hl,a⟩:=a.Ř;intro n A x u k ex;cases (show t=x from ex);exact⟨hl,(Out.up u a).Ĺ k iS⟩
end
end Mm
namespace L2
open PySem PySem.Spec PySem.W PyProof.Rows
def XT (h:Heap)(e:Addr)(vs:Ē Value):Prop:=vs[1]?=À .none∨∃T a b,vs[1]?=À (.ref T)/\T≠e/\h.get? T=À a/\a.data=.fields b/\b[3]?=À .none
structure Way (fs:Á Addr)(e:Addr)(oe:Obj)(h h':Heap):Prop where
 keep:∀b o,h.get? b=À o->b∉fs->b≠e->h'.get? b=À o
 slot:∀b o,h.get? b=À o->b∈fs->∃sl,h'.get? b=À {o with slots:=sl}
 exc:∃vs,h'.get? e=À {oe with data:=.fields vs}/\1<vs.size/\XT h' e vs
def qI (hd:o.data=.fields ts)(b:ts[3]?=À .none):ą (·.setIfInBounds 3 .none) o=o:=by
 obtain⟨c,d,a,f⟩:=o;have hd:a=.fields ts:=hd;subst hd;show Obj.mk c d (.fields (ts.setIfInBounds 3 .none)) f=_;congr 2;apply Array.ext_getElem?;intro i;rw[Array.getElem?_setIfInBounds];split
 ·rename_i e;subst e;split
  ·exact b.symm
  ·rename_i g;rw[gG (by lia)]at b;cases b
 ·rfl
def Dy (hd:o.data=.fields ts)(f:Ē Value->Ē Value):ą f o={o with data:=.fields (f ts)}:=by
 obtain⟨c,d,a,b⟩:=o;have hd:a=.fields ts:=hd;subst hd;rfl
section
variable {M:Model}{A:Ň}{E:Value->Ó->Prop}{s:Ó}
def Bf 
  (q:A.frames=À (env::outer)) (hl:s.heap.FunFrames base (env::outer)) (F:env.frame=À L) (y:s.heap.get? e=À h) (hd:h.data=.fields vs) (hz:1<vs.size)
  (G:∀h',Way (Ar (env::outer)) e h s.heap h'->Q () {s with heap:=h'}) :
  Ù M A (do let a <-frameOf env;let pl <-entryPlaceOf L O;let b <-Aw head a .none (ź L) .none pl;setField (.ref e) 1 b) (λ_ s'=>Ù M A (AU (.ref e) none) Q E s') E s:=by
 have C:e∉Ar (env::outer):=λz=>by
  obtain⟨_,o,B,r⟩:=hl.mem z;rw[y]at B;cases B;exact r vs hd
 refine Ã (wpAny_frameOf_fun q hl F λg u=>?_);refine Ã (wpAny_entryPlaceOf λpl t=>?_);refine Ã ?_;simp only[Aw,newFields];refine Ţ ?_ (t.sizeOk5 _ _ _ _ _);generalize I:([head,Ñ L,ó,ź L,ó]++(if pl.isEmpty then â 6 ó else pl)).toArray=c;have J:5<=c.size:=by rw[<-I];simp
 have w:g.get? e=À h:=(u.2.1 e C).trans y;have d:g.objs.size≠e:=Ĵ (Ô w);have j:(g.push {cls:=.type "traceback",data:=.fields c}).get? e=À h:=Ä _ w;refine jb j hd hz ?_;have v:(ą (·.setIfInBounds 1 (Ñ g.objs.size)) h)={h with data:=.fields (vs.setIfInBounds 1 (.ref g.objs.size))}:=Dy hd _;have l:(ą (·.setIfInBounds 1 (Ñ g.objs.size)) h).data=.fields (vs.setIfInBounds 1 (.ref g.objs.size)):=by rw[v]
 have k:=ā (ą (·.setIfInBounds 1 (Ñ g.objs.size))) j (dB l);have gT:=(í (g.push {cls:=.type "traceback",data:=.fields c}) (ą (·.setIfInBounds 1 (Ñ g.objs.size))) (ō d)).trans (Ö g rfl);unfold AU;refine Ã (Ņ k l (x:=.ref g.objs.size) (by rw[dw hz]) ?_);rw[Ò (by simp)];refine jb gT rfl (by lia) (G _ ?_);have m:∀b o,g.get? b=À o->b≠e->(((g.push {cls:=.type "traceback",data:=.fields c}).update e (ą (·.setIfInBounds 1 (Ñ g.objs.size)))).update g.objs.size (ą (·.setIfInBounds 3 ((none:Ë Addr).elim ó λf=>ź f)))).get? b=À o:=λb o i p=>by
  rw[í _ _ (Ĵ (Ô i)),í _ _ (ō p)];exact Ä _ i
 refine⟨λb o i n D=>m b o ((u.2.1 b n).trans i) D,λb o i n=>?_,?_⟩
 ·obtain⟨N,H⟩:=u.2.2 b o i;exact⟨N,m b _ H λz=>C (z▸n)⟩
 ·refine⟨vs.setIfInBounds 1 (.ref g.objs.size),?_,by simpa using hz,.inr ⟨g.objs.size,_,_,by rw[dw hz],d,ā _ gT (dB (by rw[Dy (o:={cls:=.type "traceback",data:=.fields c}) (ts:=c) rfl])),by rw[Dy (o:={cls:=.type "traceback",data:=.fields c}) (ts:=c) rfl],?_⟩⟩
  ·rw[í _ _ d,k,v]
  ·rw[dw (by lia)];rfl
def E4 
  (g:A.frames=À (env::outer)) (hl:s.heap.FunFrames base (env::outer)) (k:env.frame=À L) (j:s.heap.get? e=À l) (hd:l.data=.fields vs) (p:XT s.heap e vs)
  (m:∀h',Way (Ar (env::outer)) e l s.heap h'->Q () {s with heap:=h'}):Ù M A (LH (.ref e) env) (λ_ s'=>Ù M A (AU (.ref e) none) Q E s') E s:=by
 unfold LH;simp only[k];rcases p with d|⟨T,r,t,d,n,i,a,h⟩
 ·refine Ã (Ņ j hd d ?_);rw[Ø s!"i"];exact Bf g hl k j hd (eh.mp d).1 m
 ·refine Ã (Ņ j hd d ?_);rw[Ò (show(Ñ T != ó)=true from by simp)];refine Ã (Ņ i a h ?_);rw[Ø (show ¬((ó == ź L)=true)from by simp[ź])];refine Ã (jb i a (eh.mp h).1 ?_);have same:∀b o,s.heap.get? b=À o->(s.heap.update T (ą (·.setIfInBounds 3 ó))).get? b=À o:=λb o c=>by
   by_cases f:b=T
   ·subst f;rw[i]at c;cases c;have q:=ā (ą (·.setIfInBounds 3 ó)) i (by rw[qI a h];exact dB a);rw[q,qI a h]
   ·rw[í _ _ (ō f)];exact c
  refine Bf (s:={s with heap:=s.heap.update T (ą (·.setIfInBounds 3 ó))}) g (hl.of_keeps λb o c _=>⟨o,same b o c,rfl⟩) k (same e l j) hd (eh.mp d).1 λh' W=>m h' ?_;exact⟨λb o c=>W.keep b o (same b o c),λb o c=>W.slot b o (same b o c),W.exc⟩
def Jj 
  (a:A.frames=À (env::outer)) (hl:s.heap.FunFrames base (env::outer)) (d:env.frame=À L) (c:s.heap.get? e=À b) (hd:b.data=.fields vs) (g:XT s.heap e vs)
  (f:∀h',Way (Ar (env::outer)) e b s.heap h'->Q () {s with heap:=h'}):Ù M A (leaving env (.ref e)) Q E s:=by
 unfold leaving;exact Ã (E4 a hl d c hd g f)
def Gi (i:s.heap.get? e=À m)(hd:m.data=.fields vs)(l:XT s.heap e vs)
  (j:∀h',(∀b o,s.heap.get? b=À o->h'.get? b=À o)->Q () {s with heap:=h'}):Ù M A (AU (.ref e) none) Q E s:=by
 unfold AU;rcases l with d|⟨T,n,p,d,k,g,a,f⟩
 ·refine Ã (Ņ i hd d ?_);rw[Ø s!"i"];exact Ê (j s.heap λ_ _ z=>z)
 ·refine Ã (Ņ i hd d ?_);rw[Ò (show(Ñ T != ó)=true from by simp)];refine jb g a (eh.mp f).1 (j _ λb o h=>?_);by_cases c:b=T
  ·subst c;rw[g]at h;cases h;have q:=ā (ą (·.setIfInBounds 3 ó)) g (by rw[qI a f];exact dB a);exact q.trans (by rw[qI a f])
  ·exact(í _ _ (ō c)).trans h
end
def OM (C e:Addr)(d:Ë Addr):HO:=.ext λh=>∃a b,h.get? e=À a/\a.cls=.ref C/\a.dict=d/\a.data=.fields b
def Way.ţ (W:Way fs e a h h')(l:∀b∈fs,H b=none)(j:H e=À (OM C e d)) (A:h.get? e=À a)(hc:a.cls=.ref C)(o:a.dict=d)(x:m5 P w H h):m5 P w H h':=λb u q=>by
 obtain⟨f,g,p,s⟩:=W.exc;by_cases i:b=e
 ·subst i;rw[j]at q;cases q;exact⟨⟨_,f,g,hc,o,rfl⟩,⟨_,g⟩,λt y ⟨n,f,z,r⟩ k=>⟨n,f,k n z,r⟩⟩
 ·refine(x b u q).oY (λc v hc z=>W.keep c v z (λm=>?_) ?_) (λc z=>z) λc xs z=>z
  ·rcases hc with rfl|hc
   ·rw[l c m]at q;cases q
   ·rw[l c m]at hc;cases hc
  ·rintro rfl;rcases hc with rfl|hc
   ·exact i rfl
   ·rw[j]at hc;cases hc
def Way.un (W:Way fs e p h h')(k:H e=À (OM C e d)) (l:∀b∈fs,b∈f):Un f [] H H h h':=by
 have g:∀b,H b=none->b≠e:=λb n z=>by subst z;rw[k]at n;cases n
 have a:∀b o,h.get? b=À o->b≠e->∃i,h'.get? b=À {o with slots:=i}:=λb o q z=>by
  by_cases m:b∈fs
  ·exact W.slot b o q m
  ·exact⟨o.slots,W.keep b o q m z⟩
 refine⟨λb o q n j _=>W.keep b o q (λz=>j (l b z)) (g b n),λb o q n _ _=>a b o q (g b n),λ_ _ _ n _=>n,λb o q _=>?_,λ_ _ q=>q,λ_ _ _ q=>q,λ_ r q=>⟨#[],by rw[q];simp⟩⟩;by_cases z:b=e
 ·subst z;obtain⟨s,c,_⟩:=W.exc;exact⟨_,c⟩
 ·obtain⟨i,c⟩:=a b o q z;exact⟨_,c⟩
structure Lies (C e:Addr)(d:Ë Addr)(H:Hp)(h:Heap):Prop where
 LN:H e=À (OM C e d)
 ex:∃ox vs,h.get? e=À ox/\ox.cls=.ref C/\ox.dict=d/\ox.data=.fields vs/\XT h e vs
def rK (P:ď)(w:ī):HJ:=λa H s E b s'=>∃e C d A,b=.ref e/\s'.os=s.os/\og s'.gens/\Un (Ar a) [] H A s.heap s'.heap/\m5 P w A s'.heap/\Lies C e d A s'.heap/\E b (À C) A
def Un.way (u:Un fs [] A H h0 h)(W:Way (L::fs) e s h h') (k:H e=À (OM C e d)) (j:h0.objs.size<=L):Un fs [] A H h0 h':=by
 have l:∀b,H b=none->b≠e:=λb n z=>by subst z;rw[k]at n;cases n
 have nL:∀b o,h0.get? b=À o->b≠L:=λb o q z=>by subst z;exact absurd (Ô q) (oF.mpr j)
 refine⟨λb o q n f a=>W.keep b o (u.keep b o q n f a) (λz=>?_) (l b (u.free b o q n a)),λb o q n f a=>?_,u.free,λb o q a=>?_,u.lJ,u.jB,u.wK⟩
 ·rcases Þ.mp z with z|z
  ·exact nL b o q z
  ·exact f z
 ·obtain⟨p,g⟩:=u.slot b o q n f a;obtain⟨i,c⟩:=W.slot b _ g (Ć _ f);exact⟨i,c⟩
 ·obtain⟨r,g⟩:=u.there b o q a;by_cases z:b=e
  ·subst z;obtain⟨t,c,_⟩:=W.exc;exact⟨_,c⟩
  ·by_cases m:b∈L::fs
   ·obtain⟨p,c⟩:=W.slot b _ g m;exact⟨_,c⟩
   ·exact⟨_,W.keep b _ g m z⟩
def Lets (X:Cx)(E:XK):Prop:=∀a b H s e C d,Inv X a b H s->Lies C e d H s.heap->E (.ref e) (À C) H->X.xe (.ref e) s
def Lets.passes (l:Lets X E):Passes (rK X.prog X.w) X E:=by
 rintro b g H s h s' I ⟨e,C,d,A,rfl,os,a,f,c,x,q⟩;obtain⟨v,B,J,r,rfl⟩:=I.after (Q:=λv B=>B=A) (u:=.none) ⟨.Ĕ,A,os,a,f,c,rfl,rfl⟩;exact l b g _ s' e C d J x q
def M3 {K:È}{mg:Str->Ë Value}{N:Á Str}{scope:Scope}{outer:Á Hl}{E:XK}:Lets (m8 (rK P w) P w K mg base N i scope f n A outer s H E) E:=by
 intro h u B s' e C d I x q;obtain⟨p,r,b,c,g,j,k⟩:=x.ex;refine Jj (base:=base) (outer:=outer) I.ok.frames I.stack rfl b j k λo W=>?_;refine⟨e,C,d,B,rfl,I.os,I.bare,I.base.way W x.LN (Í _),W.ţ I.u9 x.LN b c g I.ţ,⟨x.LN,?_⟩,q⟩;obtain⟨a,l,t,m⟩:=W.exc;exact⟨_,a,l,c,g,rfl,m⟩
def SU (C:Addr)(E:XK)(t:TA):TS:=λ_ b H=>t b H λa A=>a.length<=sizeLine/\∀e,A e=none->E (.ref e) (À C) (upd A e (OM C e none))
def Kq (x:jq X.K C nm bm none)(hk:ĸ X.K (.ref C)=true) (Z:Gl X B)(p:X.mg B=À (.ref C)) (U:X.calm=true)(l:Lets X E)(Q:PA X (a::as) t)
  (y:(B == ("__debug__":Str))=false:=by decide) (Y:Ì (a::as) X.env=(false,Ė a X.env)::Ì as X.env:=by rfl) (z:(ģ c (Ì as X.env)).any (·.1)=false:=by rfl) :
  PS X (.Raise (À (.Call (.Name B np) (a::as) [] c)) none pos) (SU C E t):=by
 intro j s O H D I h;obtain⟨q,N,bs,sn,sub,ab,col,dd,k0,k1,k2,k3,k5,m,G,n,i⟩:=x.ex;have T:bm.contains (.type "BaseException")=true:=(x.tail.R6 I.mi).hasType (X:="BaseException") (b:=true) s!"g";rw[arm_exec_Raise];refine Ã (eU (wpAny_raiseStmt_made_sub (C:=C) (nm:=nm) (q:=q) (N:=N) (bs:=bs) (bm:=bm) (hdct:=true) (sn:=sn) (sub:=sub) (ab:=ab) (col:=col) (dd:=dd) (k0:=k0) (k1:=k1) (k2:=k2) (k3:=k3) (k5:=k5) (newId:="ValueError.__new__") T (I.ok.hd U) (Ã (aB (ah (ov I Z p ?_ y)) (λv L u=>Ã (eU (Ê u))) λ_ _ x=>x))));refine qo (h₀:=X.base) I.ok.mod.U2 hk (ak (Q c j s O H _ I h) λus s1 ⟨M,H1,A,r,hl,q1⟩=>⟨A.mi,?_⟩) Y z;obtain⟨hp,g,d,tk,os⟩:=s1;refine wpAny_call_exc_subU (hrest:=by rw[bb,<-r.length];exact hl) xj s!"g" xj (x.tail.R6 A.mi) (A.mi _ _ G) (n.ns A.mi) i λh' e p=>?_;obtain⟨t,w,_,_⟩:=p.there;have f:hp.get? e=none:=p.new;refine⟨e,t,rfl,p.keeps _ _ (A.mi _ _ G),w,?_⟩;refine l j O _ _ e C none (A.U5 (a:=e) (o:=OM C e none) (t':=tk) p.keeps f ?_) ⟨ă ..,_,_,w,rfl,rfl,rfl,.inl rfl⟩ (q1 e (A.gone f));exact⟨⟨_,_,w,rfl,rfl,rfl⟩,⟨_,w⟩,λh1 h2 ⟨J,M,P,r⟩ k=>⟨J,M,k J P,r⟩⟩
section
variable {M:Model}{A:Ň}{E:Value->Ó->Prop}{K:È}{C D:Addr}{nm nm2:Str}{bm bm2:Á Value}{Cr Ys:Ë Value}
def Jr (X:K.In s.heap)(x:jq K C nm bm Cr)(y:jq K D nm2 bm2 Ys)(u:s.heap.get? e=À B)(r:B.cls=.ref C)(h:Q ((Ñ C::bm).contains (.ref D)) s):Ù M A (excMatches (.ref e) (.ref D)) Q E s:=by
 obtain⟨q1,H,m,F,i,k,a,o,J,L,N,O,P,m1,w,n1,i1⟩:=x.ex;obtain⟨q2,I,n,G,j,l,c,p,T,U,Y,Z,b5,m2,z,n2,i2⟩:=y.ex;have hC:=X _ _ w;have hD:=X _ _ z;have q:(Ñ D::bm2).contains (.type "BaseException")=true:=by rw[ő,(y.tail.R6 X).hasType (X:="BaseException") (b:=true) s!"g",e6]
 obtain⟨hp,g,d,t,os⟩:=s;have f:=PySem.tc_notTuple;unfold excMatches
 repeat (first|(with_reducible refine WO u ?_;rw[r])|with_reducible refine WO hD ?_|(with_reducible refine Tw hD ?_;rw[q])|with_reducible refine Tw hC ?_|wp_step)
 cases v:(Ñ C::bm).contains (.ref D)<;>(rw[v]at h;wp_walk;exact h)
end
section
variable {X:Cx}{ÿ:Á (Addr×Obj)}{σ:St}{H:Hp}{s:Ó}
def ML (I:Inv X ÿ σ H s)(T:X.N.Nodup)(F:X.N[i]?=À n)(U:X.env.scope.names.lookup n=À .local)
  (h:∀s',Inv X ÿ (σ.set i none) H s'->Q () s'):Ù M A (do gJ X.env n .none;P6 X.env n pos) Q E s:=by
 obtain⟨m,G,hl⟩:=id I.loc;have r:(X.env.scope.kind == .class||(X.env.scope.kind == .module&&X.env.locals != X.env.globals))=false:=by rw[I.ok.kind];rfl
 have t:i<σ.length:=by rw[I.len];exact(Æ.mp F).1
 have l:=I.W4;obtain⟨oL,_,_,Y,_⟩:=id G;refine wpAny_nameGoes_keeps U G r λP v D f=>?_;have a:m5 X.prog X.w H P:=λb ob e=>by
  refine(I.ţ b ob e).oY (λc L hc q=>(f.2 c ?_).trans q) (λ_ q=>q) λ_ _ q=>q;rintro rfl;rcases hc with rfl|hc
  ·rw[I.free]at e;cases e
  ·rw[I.free]at hc;cases hc
 refine h _ ⟨I.ok,I.os,I.bare,⟨λb o e n B u=>?_,λb o e n B u=>?_,I.base.free,λb o e u=>?_,I.base.lJ,I.base.jB,I.base.wK⟩,⟨_,D,λj y v' g x O=>?_⟩,λy c e=>?_,I.free,I.jA,λp Z=>?_,a,by simpa using I.len⟩
 ·exact(f.2 b (ñ (ð (Ô e) I.ok.above))).trans (I.base.keep b o e n B u)
 ·obtain⟨sl,g⟩:=I.base.slot b o e n B u;exact⟨sl,(f.2 b (ñ (ð (Ô e) I.ok.above))).trans g⟩
 ·obtain⟨o',g⟩:=I.base.there b o e u;exact⟨o',(f.2 b (ñ (ð (Ô e) I.ok.above))).trans g⟩
 ·by_cases C:j=i
  ·subst C;rw[Ģ t]at x;cases x
  ·rw[Û (ō C)]at x;obtain⟨u',r',q⟩:=hl j y v' g x O;refine⟨u',r',?_⟩;rcases q with⟨k,e⟩|⟨k,c,e,z⟩
   ·refine .inl ⟨k,?_⟩;have:y≠n:=λe=>C (vY T g (e▸F));simp[this,e]
   ·exact .inr ⟨k,c,e,z.sameBut f (l y c e)⟩
 ·obtain⟨L,z⟩:=I.cell y c e;exact⟨L,z.sameBut f (l y c e)⟩
 ·obtain⟨e,n,J,nf,d⟩:=I.pin p Z;exact⟨(f.2 p.1 J).trans e,n,J,nf,d⟩
noncomputable abbrev Cx.pa (X:Cx)(xe:Value->Ó->Prop)(pn:Á (Addr×Obj)):Cx:={X with xe:=xe,pn:=pn}
noncomputable abbrev Cx.o_ (X:Cx)(e:Addr):Cx:={X with A:=X.A.mark (À (.ref e)),calm:=false,xe:=λ_ _=>False}
theorem Inv.pa (I:Inv X ÿ σ H s):Inv (X.pa xe (X.pn++ÿ)) [] σ H s:=
 ⟨⟨I.ok.mod,I.ok.kind,I.ok.glob,I.ok.blt,I.ok.above,I.ok.inj,I.ok.has,I.ok.O6,I.ok.hd,I.ok.frames,I.ok.S4,I.ok.UB,I.ok.bs,I.ok.F4,I.ok.BL,I.ok.Bl,I.ok.pM,I.ok.LL⟩,I.os,I.bare,I.base,I.loc,I.cell,I.free,I.jA,λp a=>I.pin p (by simpa using a),I.ţ,I.len⟩
def Inv.BN (I:Inv (X.pa xe (X.pn++ÿ)) a σ H s):Inv X ÿ σ H s:=
 ⟨⟨I.ok.mod,I.ok.kind,I.ok.glob,I.ok.blt,I.ok.above,I.ok.inj,I.ok.has,I.ok.O6,I.ok.hd,I.ok.frames,I.ok.S4,I.ok.UB,I.ok.bs,I.ok.F4,I.ok.BL,I.ok.Bl,I.ok.pM,I.ok.LL⟩,I.os,I.bare,I.base,I.loc,I.cell,I.free,I.jA,λp b=>I.pin p (eO _ b),I.ţ,I.len⟩
theorem Inv.o_ (I:Inv X ÿ σ H s):Inv (X.o_ e) ÿ σ H s:=
 ⟨⟨I.ok.mod,I.ok.kind,I.ok.glob,I.ok.blt,I.ok.above,I.ok.inj,I.ok.has,I.ok.O6,s!"q",I.ok.frames,I.ok.S4,I.ok.UB,I.ok.bs,I.ok.F4,I.ok.BL,I.ok.Bl,I.ok.pM,I.ok.LL⟩,I.os,I.bare,I.base,I.loc,I.cell,I.free,I.jA,I.pin,I.ţ,I.len⟩
def Inv.Vx (a:X.calm=true->X.A.handled=none)(I:Inv (X.o_ e) ÿ σ H s):Inv X ÿ σ H s:=
 ⟨⟨I.ok.mod,I.ok.kind,I.ok.glob,I.ok.blt,I.ok.above,I.ok.inj,I.ok.has,I.ok.O6,a,I.ok.frames,I.ok.S4,I.ok.UB,I.ok.bs,I.ok.F4,I.ok.BL,I.ok.Bl,I.ok.pM,I.ok.LL⟩,I.os,I.bare,I.base,I.loc,I.cell,I.free,I.jA,I.pin,I.ţ,I.len⟩
end
def Wr (C e:Addr):Ë Addr->HO
 |none=>Xl C e
 |some a=>xcD C e a
def Inv.Ql (I:Inv X c o H s)(h:H e=À (OM C e d)):Inv X c o (upd H e (Wr C e d)) s:=by
 obtain⟨⟨a,q,b,f,g,l⟩,_⟩:=I.ţ _ _ h;have j:TM (H e):=by rw[h];trivial
 have i:notCls a=true:=by unfold notCls;rw[l]
 refine I.un (h':=s.heap) (t':=s.toks) (Un.write j (.inl rfl) (λ_ _ _ z=>z) ⟨_,b⟩) (I.ţ.write j (.inl rfl) (λ_ _ _ z=>z) ⟨_,b⟩ ?_);cases d with
 |none=>exact⟨⟨a,b,f,i,g⟩,⟨_,b⟩,λm n ⟨a,z,r⟩ k=>⟨a,k a z,r⟩⟩
 |some p=>exact⟨⟨a,b,f,i,g⟩,⟨_,b⟩,λm n ⟨a,z,r⟩ k=>⟨a,k a z,r⟩⟩
def Pb (i:Nat)(D:Ends):Ends where
 nx:=λσ H=>D.nx (σ.set i none) H
 rt:=D.rt
 bk:=λσ H=>D.bk (σ.set i none) H
 ct:=λσ H=>D.ct (σ.set i none) H
def IF (K:È)(N i:Nat)(B:Addr)(ts:TS)(D:Ends):XK:=λf h A=>∃e C d,f=.ref e/\h=À C/\A e=À (OM C e d)/\(∃g c b,jq K C g c b/\(Ñ C::c).contains (.ref B)=true)/\
 ∀a:St,a.length=N->ts (Pb i D) (a.set i (À (.ref e))) (upd A e (Wr C e d))
def SV (K:È)(N i:Nat)(A:Addr)(tb:XK->TS)(ts:TS):TS:=λD a H=>tb (IF K N i A ts D) D a H
def Kr 
  (hN:X.N.Nodup) (xc:jq X.K P nm bm Cr) (hm:X.mg xn=À (.ref P)) (hg:Gl X xn)
  (hb:∀xe pn E1,Lets (X.pa xe pn) E1->nB (X.pa xe pn) body (tb E1)) (hs:∀e,nB (X.o_ e) (y::o) ts)
  (hi:X.N[i]?=À n:=by rfl) (Z:X.env.scope.names.lookup n=À .local:=by rfl) (l:X.stack=X.env::X.outer:=by rfl) (G:X.env.frame=À X.env.locals:=by rfl) (U:(xn == ("__debug__":Str))=false:=by decide) :
  PS X (.Try body [.ExceptHandler (À (.Name xn np)) (À n) (y::o) L] [] [] pos) (SV X.K X.N.length i P tb ts):=by
 intro b s σ H D I h;refine wpAny_Try_except ?_;refine aB (hb (λT s'=>∃e C d a B,T=.ref e/\Inv X b a B s'/\Lies C e d B s'.heap/\IF X.K X.N.length i P ts D T (À C) B) (X.pn++b) _ ?_ [] s σ H D I.pa h) (λf j g=>?_) ?_
 ·exact λaac a B s' e C d J x q=>⟨e,C,d,a,B,rfl,J.BN,x,q⟩
 ·cases f with
  |next=>
   obtain⟨a,B,J,q⟩:=g;exact Ê ⟨a,B,J.BN,q⟩
  |brk=>obtain⟨a,B,J,q⟩:=g;exact⟨a,B,J.BN,q⟩
  |cont=>obtain⟨a,B,J,q⟩:=g;exact⟨a,B,J.BN,q⟩
  |ret u=>obtain⟨v,a,B,J,r,q⟩:=g;exact⟨v,a,B,J.BN,r,q⟩
 ·rintro T j ⟨e,C,d,p,H1,rfl,J,x,e',C',d',z1,z2,he,⟨nm',bm',aaj,xC,M⟩,q⟩;cases z1;cases z2;obtain⟨ox,vs,o1,o2,o3,o4,o5⟩:=x.ex;have Y:X.A.frames=À (X.env::X.outer):=by rw[<-l];exact J.ok.frames
  have hl:j.heap.FunFrames X.base (X.env::X.outer):=by rw[<-l];exact J.stack
  refine E4 Y hl G o1 o4 o5 λh' W=>?_;have W:Way (Ar X.stack) e ox j.heap h':=by rw[l];exact W
  have O:Inv X b p H1 {j with heap:=h'}:=J.call (ch:=[]) (g':=j.gens) (d':=j.drawn) (t':=j.toks) (W.un x.LN λ_ z=>z) (W.ţ J.u9 x.LN o1 o2 o3 J.ţ) J.bare λ_ z=>nomatch z
  obtain⟨vs',p1,p2,p3⟩:=W.exc;refine wpAny_handleBy_cons (codeAny_handlers_test ?_) (by intro z;cases z);refine ov (X:=X.o_ e) O.o_ hg hm ?_ U;refine Jr O.mi xC xc p1 o2 ?_;rw[M];refine codeAny_handlers_suite_as (Gi p1 rfl p3 λh2 k=>?_);have J2:Inv X b p H1 {j with heap:=h2}:=O.un (h':=h2) (t':=j.toks) (Un.kept k) (O.ţ.kept k);refine gm (J2.Ql he) hN hi (.inl Z) (v:=.ref e) rfl (λs3 J3=>?_) (.inr Z);refine aB (hs e b s3 _ _ (Pb i D) J3.o_ (q p J.len)) (λf s4 g=>?_) λ_ _ z=>z.elim;have c:∀{a:St}{B:Hp}{Q:Unit->Ó->Prop},Inv (X.o_ e) b a B s4->(∀t,Inv X b (a.set i none) B t->Q () t)->Ù s!"b" X.A (do gJ X.env n .none;P6 X.env n L) Q X.xe s4:=λE k=>ML (E.Vx J.ok.hd) hN hi Z k;cases f with
  |next=>obtain⟨a,B,E,m⟩:=g;exact c E λt F=>⟨_,B,F,m⟩
  |brk=>obtain⟨a,B,E,m⟩:=g;exact c E λt F=>⟨_,B,F,m⟩
  |cont=>obtain⟨a,B,E,m⟩:=g;exact c E λt F=>⟨_,B,F,m⟩
  |ret u=>obtain⟨v,a,B,E,r,m⟩:=g;exact c E λt F=>⟨v,_,B,F,r,m⟩
end L2
namespace Mm
open PySem L2
def oQ (T:Tx)(E:XK):iW:=λc _ _ H=>∀e,H e=none->c.fs=[]->E (.ref e) (À (T.cl c.cls)) (upd H e (OM (T.cl c.cls) e none))
structure Ls (T:Tx)(X:Cx)(XE:iW):Prop where
 ex:∃E,Lets X E/\∀c ρ s H,XE c ρ s H->oQ T E c ρ s H
section
variable {T:Tx}{XE:iW}{X:Cx}{pos:kR}
def TR:Ls T X Hw:=⟨⟨E0,λ_ _ _ _ _ _ _ _ _ z=>z.elim,λ_ _ _ _ z=>z.elim⟩⟩
def BE:Ls T (m8 (rK P w) P w K mg base N a scope f b A outer s H E) (oQ T E):=⟨⟨E,M3,λ_ _ _ _ z=>z⟩⟩
def J5:AF (Ý P w) (A.deeper (aP a scope s.heap.objs.size f b)) (aP a scope s.heap.objs.size f b) (m8 (rK P w) P w K mg base N a scope f b A outer s H E).xe:=PassesOwn.leaving
def Hx (T:Tx)(n:Nat)(F:Á AV->S->R AV):Sp:=λc H Q E=>c.length=n/\∃b s a,SR T b s H/\ı T b H a c/\Out T (oQ T E) (rV T) b H (F a s) Q
def zm (F:HL T.K x g st f p)(S:jc N ps (ĝ st))
  (q:∀b A outer s H E,cP k (A.deeper (aP g (ĝ st) s.heap.objs.size f b))->nB (m8 (rK P w) P w T.K mg base N g (ĝ st) f b A outer s H E) (aR st) (tS T (oQ T E) body)) :
  ic P w T.K mg base (rK P w) (k+1) f p ps (Hx T ps.length (bH N.length body)):=by
 obtain⟨L,M,kV,o,O,G,b,ct,t,rfl,r,m⟩:=F.ex;refine O9 r m S (λz H Q E h=>h.1) λA outer s H z Q E hr C=>?_;obtain⟨hl,ρ,i,d,n,y,a⟩:=C;refine⟨_,q b A outer s H E hr,ρ,_,i,n,Bj N y,?_⟩;unfold bH at a;cases e:body (d.map À++â (N.length-d.length) none) i with
 |nx I l=>simp only[e]at a;exact λj B D u n J=>a j B .Ĕ u n (wN (T:=T) (ρ:=j) (H:=B))
 |rt v l=>simp only[e]at a;exact a
 |ex c l=>simp only[e]at a;exact a
 |bk v l=>simp only[e]at a;exact a.elim
 |ct v l=>simp only[e]at a;exact a.elim
 |bad=>simp only[e]at a;exact a.elim
def Out.xe (h:Out T XE b ρ H r Q)(k:∀c ρ s H,XE c ρ s H->A c ρ s H):Out T A b ρ H r Q:=by
 cases r with
 |ok v s=>exact h
 |ex c s=>exact λa B u d=>k _ _ _ _ (h a B u d)
 |bad=>exact h
def Ic (k:∀c ρ s H,XE c ρ s H->oQ T E c ρ s H)(h:tE T XE (å n F r) p H Q):KR (Hx T n F) [] E (tP T XE r) p H Q:=by
 obtain⟨ρ,g,s,m,j,l⟩:=h;refine step m j l λf o d A xs _ q e i a b=>?_;obtain⟨hl,b⟩:=b.Ř;have a:ı T d A f xs:=a;rw[Ġ];exact⟨by rw[<-a.length];exact hl,d,o,f,e,a,b.xe k⟩
structure b_ (P:ď)(w:ī)(T:Tx)(mg:Str->Ë Value)(base:Heap)(nm:Str)(n k:Nat)(Fn:Á AV->S->R AV):Prop where
 ex:∃f fd ps,ic P w T.K mg base (rK P w) k f fd ps (Hx T n Fn)/\Binds T.K fd ps []/\mg nm=À (.ref f)/\ĸ T.K (.ref f)=true
def Vc (h:b_ X.prog X.w T X.mg X.base x n k B)(hr:cP k X.A)(i:PA X (e::a) (tP T XE r)) (ls:Ls T X XE)(b:X.K=T.K:=by rfl)(o:Gl X x:=by rfl)(c:(x == ("__debug__":Str))=false:=by decide) (m:Ì (e::a) X.env=s!"k"::Ì a X.env:=by rfl) (d:(ģ pos (Ì a X.env)).any (·.1)=false:=by rfl) :
  PE X (.Call (.Name x p) (e::a) [] pos) (tE T XE (å n B r)):=by
 obtain⟨f,t,u,G,j,s,q⟩:=h.ex;obtain⟨E,l,g⟩:=ls.ex;exact PE.imp (NO (E:=E) (by rw[b];exact G) hr o s (by rw[b];exact q) (by rw[b];exact j) .nil l.passes i c m d) λ_ _ _ h=>Ic g h
def Q8 (h:b_ X.prog X.w T X.mg X.base x 0 k B)(hr:cP k X.A)(ls:Ls T X XE)(a:X.K=T.K:=by rfl)(i:Gl X x:=by rfl)(b:(x == ("__debug__":Str))=false:=by decide) :
  PE X (.Call (.Name x p) [] [] pos) (tE T XE (å 0 B Ï)):=by
 obtain⟨f,q,t,G,g,m,j⟩:=h.ex;obtain⟨E,l,e⟩:=ls.ex;exact PE.imp (J8 (E:=E) (by rw[a];exact G) hr i m (by rw[a];exact j) (by rw[a];exact g) .nil l.passes b) λu H Q h=>by
  obtain⟨c,d,s,o,r,n⟩:=h;exact⟨rfl,c,s,[],o,.nil,Out.xe (show Out T XE (rV T) c H (B [] s) Q from n) e⟩
noncomputable def Au (c:Nat)(r:hR):Ms:=λa s=>(r a s).aQ λd b=>if d.length<=1000 then .ex ⟨c,[]⟩ b else .bad
def JG (x:jq T.K (T.cl c) nm bm none) (y:ĸ T.K (.ref (T.cl c))=true) (z:X.mg m=À (.ref (T.cl c))) (ls:Ls T X XE)(u:PA X (a::as) (tP T XE r)) (n:X.K=T.K:=by rfl)(v:X.calm=true:=by rfl)(w:Gl X m:=by rfl)
  (h:(m == ("__debug__":Str))=false:=by decide) (i:Ì (a::as) X.env=(false,Ė a X.env)::Ì as X.env:=by rfl) (j:(ģ f (Ì as X.env)).any (·.1)=false:=by rfl) :
  PS X (.Raise (À (.Call (.Name m I) (a::as) [] f)) none pos) (tS T XE (Au c r)):=by
 obtain⟨E,l,t⟩:=ls.ex;refine PS.imp (Kq (E:=E) (by rw[n];exact x) (by rw[n];exact y) w z v l u h i j) λD N H G=>lI G λM p s F i C=>dm F i C λo J g A xs _ L k q d b=>?_;have d:ı T g A o xs:=d;by_cases hl:o.length<=1000
 ·rw[Ò hl]at b;refine⟨by rw[<-d.length,İ];lia,λe B=>t _ _ _ _ (b g A .refl k) e B rfl⟩
 ·rw[Ø hl]at b;exact b.elim
noncomputable def Pc (i:Nat):RS->RS
 |.nx e s=>.nx (e.set i none) s
 |.bk e s=>.bk (e.set i none) s
 |.ct e s=>.ct (e.set i none) s
 |.rt v s=>.rt v s
 |_=>.bad
def wu (n i:Nat)(sub:Nat->Bool)(b h:Ms):Ms:=λa s=>match b a s with
 |.ex c d=>if sub c.cls=true then Pc i (h ((â n none).set i (À (.ref d.length))) (d++[.exc c.cls]))else .bad
 |r=>r
def ER.unset (h:ER T ρ H env b)(i:Nat):ER T ρ H (env.set i none) (b.set i none):=by
 refine⟨by simp[h.len],λj w e=>?_⟩;by_cases a:i=j
 ·subst a;rw[List.getElem?_set]at e;simp at e
 ·rw[Û a]at e⊢;exact h.get j w e
def FA (H:Hp)(e:Addr)(a b:HO):upd (upd H e a) e b=upd H e b:=by
 funext c;by_cases d:c=e
 ·subst d;rw[ă,ă]
 ·rw[ä d,ä d,ä d]
def RJ 
  (hN:X.N.Nodup) (xc:jq T.K CC nm bm E) (hm:X.mg Z=À (.ref CC)) (C:∀c,sub c=true->∃nm bm E,jq T.K (T.cl c) nm bm E/\(Ñ (T.cl c)::bm).contains (.ref CC)=true)
  (hb:∀xe pn B,Ls T (X.pa xe pn) B->nB (X.pa xe pn) body (tS T B b)) (hs:∀e,nB (X.o_ e) (w::p) (tS T Hw h)) (hK:X.K=T.K:=by rfl) (hg:Gl X Z:=by rfl)
  (hi:X.N[i]?=À n:=by rfl) (hx:X.env.scope.names.lookup n=À .local:=by rfl) (hn:X.N.length=N:=by rfl) (U:X.stack=X.env::X.outer:=by rfl) (y:X.env.frame=À X.env.locals:=by rfl) (Q:(Z == ("__debug__":Str))=false:=by decide) :
  PS X (.Try body [.ExceptHandler (À (.Name Z np)) (À n) (w::p) aai] [] [] pos) (tS T XE (wu N i sub b h)):=by
 refine PS.imp (Kr (tb:=λJ=>tS T (oQ T J) b) hN (by rw[hK];exact xc) hm hg (λxe pn J l=>hb xe pn _ ⟨⟨J,l,λ_ _ _ _ z=>z⟩⟩) hs hi hx U y Q) λD σ H zz=>?_;obtain⟨ρ,x,s,sr,er,a⟩:=zz;refine⟨ρ,x,s,sr,er,?_⟩;unfold wu at a;cases r:b x s with
 |nx e o=>simp only[r]at a;exact a
 |rt v o=>simp only[r]at a;exact a
 |bk e o=>simp only[r]at a;exact a
 |ct e o=>simp only[r]at a;exact a
 |bad=>simp only[r]at a;exact a
 |ex c o=>
  simp only[r]at a;intro q L u f e m hfs;by_cases P:sub c.cls=true
  ·rw[Ò P]at a;refine⟨e,T.cl c.cls,none,rfl,rfl,ă ..,by rw[hK];exact C _ P,λXo hl=>?_⟩;rw[FA];have u2:Up ρ H (q++[e]) (upd L e (Wr (T.cl c.cls) e none)):=(u.trans (f.eg m)).add (u.live e m);have Y:SR T (q++[e]) (o++[.exc c.cls]) (upd L e (Wr (T.cl c.cls) e none)):=(f.new m).add (f.out m) (ă ..);have O:ER T (q++[e]) (upd L e (Wr (T.cl c.cls) e none)) ((â N none).set i (À (.ref o.length))) (Xo.set i (À (.ref e))):=by
    refine ER.set ⟨by rw[FI,<-hn];exact hl.symm,λj v M=>?_⟩ (qc ?_)
    ·rw[ni]at M;split at M<;>cases M
    ·rw[ç (by rw[f.len];lia),f.len];simp
   refine⟨_,_,_,Y,O,?_⟩;have a:=fP.up u2 a;cases t:h ((â N none).set i (À (.ref o.length))) (o++[.exc c.cls])with
   |nx e1 I=>rw[t]at a;exact λk A G F g d=>a k A _ F g (d.unset i)
   |bk e1 I=>rw[t]at a;exact λk A G F g d=>a k A _ F g (d.unset i)
   |ct e1 I=>rw[t]at a;exact λk A G F g d=>a k A _ F g (d.unset i)
   |rt v I=>rw[t]at a;exact a
   |ex c2 I=>rw[t]at a;exact a.elim
   |bad=>rw[t]at a;exact a.elim
  ·rw[Ø P]at a;exact a.elim
end
end Mm
namespace L2
open PySem PySem.Spec PySem.W PyProof.Rows
def VS (K:È):Á V->Hp->VK->Prop:=λxs H Q=>∃(e C c:Addr) (a:Á Addr) (b:Bool),xs=[.ref e,.ref c]/\WY H e C/\Mb K C/\H c=À (.tup (a.map V.ref))/\kitAny K (.ref C) (a.map Ñ)=À b/\Q (.bl b) H
theorem yI:∀{a:Á Addr}{us:Á Value},Vals (a.map V.ref) us->us=a.map Ñ
 |[],_,r=>by cases r;rfl
 |c::a,_,r=>by
  cases r with
  |cons b d=>
   cases (show _=Ñ c from b);rw[yI d];rfl
def F6:aG X (.builtin "isinstance") (VS X.K):=by
 rintro c s F H xs us Q I rv ⟨e,C,y,A,b,rfl,f,g,d,h,q⟩;obtain⟨t,m,J⟩:=f.inst I;obtain⟨u,D,rfl,v,w⟩:=vals2 rv;cases (show _=Ñ e from v);cases (show _=Ñ y from w);obtain⟨z,E,x,r,i,j,n,k⟩:=I.ţ _ _ d;obtain⟨l,o,a,p⟩:=r;cases (show l=_ from j);cases (show a=_ from k);cases yI x;exact PySem.W.kia_tup (By g) I.mi ⟨t,m,J⟩ i h s!"q" λB=>⟨.bl b,H,I.tok _,rfl,q⟩
def tK (vs:Á V):TA:=λ_ H Q=>Q vs H
section
variable {X:Cx}{e:Expr}{es:Á Expr}{v:V}{vs:Á V}
def Fe:PA X [] (tK []):=λpos a s b H Q I h=>eI pos a s b H Q I h
def J6 (b:PE X e (tC v)) (c:PA X es (tK vs)) (d:Ì (e::es) X.env=s!"k"::Ì es X.env:=by rfl):PA X (e::es) (tK (v::vs)):=λpos a s f H Q I h=>aS b c d pos a s f H Q I h
end
end L2
namespace Mm
open PySem L2
section
variable {T:Tx}{XE:iW}{X:Cx}{pos:kR}
def X5 (v:V)(c:Value):Prop:=match v with|.ty n=>c=cg n|.ref a=>c=Ñ a|_=>False
def bA (a:Nat->Ë Bool)(v:AV)(s:S):R AV:=match v with
 |.ref i=>match s[i]? with
  |some (.exc c)=>need (a c) λb=>.ok (.bl b) s
  |_=>.bad
 |_=>.bad
def EV (m:SR T ρ s H)(n:VR T ρ H v x)(d:Out T XE (rV T) ρ H (bA f v s) Q) :
  ∃e c b,x=.ref e/\H e=À (Xl (T.cl c) e)/\f c=À b/\Out T XE (rV T) ρ H (.ok (.bl b) s) Q:=by
 unfold bA at d;split at d
 ·rename_i i;obtain⟨a,h,rfl⟩:=n.gi;split at d
  ·rename_i c k;obtain⟨b,j,d⟩:=d.ö;obtain⟨o,g,l⟩:=m.obj _ _ k;rw[h]at g;cases g;exact⟨a,c,b,rfl,l,j,d⟩
  ·exact d.elim
 ·exact d.elim
def Ju (F:PE X cl (tC v)) (l:X5 v c)(d:∀C b,h C=À b->Mb T.K (T.cl C)/\oH T.K (.ref (T.cl C)) c=À b) (B:X.mg "isinstance"=none)(z:PE X e s!"x") (o:X.K=T.K:=by rfl)(A:Gl X "isinstance":=by rfl)
  (g:Ì [e,cl] X.env=s!"k"::Ì [cl] X.env:=by rfl) (i:Ì [cl] X.env=(false,Ė cl X.env)::Ì [] X.env:=by rfl) (k:(ģ pos (Ì [cl] X.env)).any (·.1)=false:=by rfl) :
  PE X (.Call (.Name "isinstance" p) [e,cl] [] pos) (tE T XE (bg (bA h) m)):=
 PE.imp (cW Ib A B Ro.boot_isinstance (aS z (aS F eI i) g) s!"i" s!"i" g k) λU H Q J=>Ō J λP q s E g D=>
  step E g D λw N L M x _ O f r n j=>by
   obtain⟨a,C,b,rfl,t,u,y⟩:=EV f n j;obtain⟨G,I⟩:=d C b u;exact⟨a,T.cl C,v,c,b,rfl,l,.inl t,by rw[o];exact G,by rw[o];exact I,y.Ĺ f dt⟩
def Nc {g:Á Addr}(F:PA X cls (tK (g.map V.ref))) (hl:g.length<=1000)(d:∀C b,i C=À b->Mb T.K (T.cl C)/\PySem.W.kitAny T.K (.ref (T.cl C)) (g.map Ñ)=À b) (B:X.mg "isinstance"=none)(z:PE X e s!"x") (r:X.K=T.K:=by rfl)(A:Gl X "isinstance":=by rfl)
  (h:Ì [e,.Tuple cls x1 f] X.env=s!"k"::Ì [.Tuple cls x1 f] X.env:=by rfl) (j:Ì [.Tuple cls x1 f] X.env=(false,Ė (.Tuple cls x1 f) X.env)::Ì [] X.env:=by rfl) (n:(ģ pos (Ì [.Tuple cls x1 f] X.env)).any (·.1)=false:=by rfl) :
  PE X (.Call (.Name "isinstance" p) [e,.Tuple cls x1 f] [] pos) (tE T XE (bg (bA i) m)):=
 PE.imp (cW F6 A B Ro.boot_isinstance (aS z (aS (DL F) eI j) h) s!"i" s!"i" h n) λY H Q L=>Ō L λU t s E h D=>
  step E h D λw O M N x _ P c u o l=>by
   obtain⟨a,C,b,rfl,q,v,y⟩:=EV c o l;obtain⟨G,I⟩:=d C b v;refine⟨by rw[É,İ];lia,λJ k=>⟨a,T.cl C,J,g,b,rfl,.inl ?_,by rw[r];exact G,ă ..,by rw[r];exact I,?_⟩⟩
   ·rw[ä (Ŋ q k)];exact q
   ·exact(Out.up (c.eg k) y).Ĺ (c.new k) dt
end
open PySem.W
noncomputable def Zq:Á Str:=["RoyalError","BadFraction","Taken","NoName","TooMuch","NoRate","NoneLeft","Endless","BadRow"]
def jO (i:Nat):Str:=Zq.getD i ""
def Lh (T:Tx)(i:Nat):Á Value:=if i=0 then uU else .ref (T.cl 0)::uU
structure Xs (T:Tx)(mg:Str->Ë Value):Prop where
 c:∀i,i<9->∃Cr,jq T.K (T.cl i) (jO i) (Lh T i) Cr/\(i<7->Cr=none)
 is:∀i,i<9->Mb T.K (T.cl i)
 kp:∀i,i<9->ĸ T.K (.ref (T.cl i))=true
 gl:∀i,i<9->mg (jO i)=À (.ref (T.cl i))
def Li:∀i,i<9->∀j,j<9->jO i=jO j->i=j:=by decide+kernel
def Ma (x:jq K C n b i)(y:jq K C g h k):n=g:=by
 obtain⟨j,d,_,_,e⟩:=x.cls;obtain⟨c,a,_,_,f⟩:=y.cls;rw[d]at a;cases a;exact e.symm.trans f
section
variable {T:Tx}{XE:iW}{X:Cx}{pos:kR}{mg:Str->Ë Value}
def Xs.inj (x:Xs T mg)(d:i<9)(f:j<9)(e:T.cl i=T.cl j):i=j:=by
 obtain⟨_,a,_⟩:=x.c i d;obtain⟨_,b,_⟩:=x.c j f;rw[e]at a;exact Li i d j f (Ma a b)
def õ (i c:Nat):Bool:=c == i||i == 0
def Xs.has (x:Xs T mg){c i:Nat}(n:c<9)(k:i<9):(Ñ (T.cl c)::Lh T c).contains (.ref (T.cl i))=õ i c:=by
 have l:uU.contains (.ref (T.cl i))=false:=by simp[ő]
 have f:∀a b:Addr,(Ñ a == Ñ b)=decide (a=b):=λa b=>by
  by_cases h:a=b
  ·subst h;simp
  ·simp[h]
 unfold õ Lh;rw[ő,f];by_cases h:c=i
 ·subst h;simp
 ·have j:T.cl i≠T.cl c:=λe=>h (x.inj n k e.symm);by_cases g:c=0
  ·subst g;have:¬i=0:=λe=>h e.symm;simp[j,l,h,this]
  ·rw[Ø g,ő,f,l];by_cases d:i=0
   ·subst d;simp
   ·have m:T.cl i≠T.cl 0:=λe=>d (x.inj k s!"i" e);simp[j,m,h,d]
def Xs.Yj (x:Xs T mg)(c:Nat):(Ñ (T.cl c)::Lh T c).contains (.type "ValueError")=true:=by
 have b:uU.contains (.type "ValueError")=true:=by decide+kernel
 unfold Lh;by_cases a:c=0
 ·rw[Ò a,ő,b,e6]
 ·rw[Ø a,ő,ő,b,e6,e6]
theorem Xs.Jh (x:Xs T mg){c i:Nat}(d:c<9)(e:i<9):L5 T.K (.ref (T.cl c)) (.ref (T.cl i))=À (õ i c):=by
 obtain⟨_,a,_⟩:=x.c c d;obtain⟨_,b,_⟩:=x.c i e;rw[a.Jh _ (.inl ⟨_,_,_,_,rfl,b⟩),x.has d e]
def Xs.Yy (x:Xs T mg){c:Nat}(b:c<9):L5 T.K (.ref (T.cl c)) (.type "ValueError")=À true:=by
 obtain⟨_,a,_⟩:=x.c c b;rw[a.Jh _ (.inr ⟨_,rfl,by decide+kernel⟩),x.Yj]
theorem Xs.U3 (x:Xs T mg){c:Nat}(b:c<9):∀{a:Á Nat},(∀i∈a,i<9)->kitAny T.K (.ref (T.cl c)) ((a.map T.cl).map Ñ)=À (a.any λi=>õ i c)
 |[],_=>rfl
 |i::a,h=>by
  show(match L5 T.K (.ref (T.cl c)) (.ref (T.cl i))with
   |some true=>À true
   |some false=>kitAny T.K (.ref (T.cl c)) ((a.map T.cl).map Ñ)
   |none=>none)=_
  rw[x.Jh b (h i (.head _)),Ų];cases õ i c with
  |true=>rfl
  |false=>rw[rn];exact Xs.U3 x b λj d=>h j (.tail _ d)
def pD (i c:Nat):Ë Bool:=if c<9 then À (õ i c)else none
def F2 (c:Nat):Ë Bool:=if c<9 then À true else none
def F1 (a:Á Nat)(c:Nat):Ë Bool:=if c<9 then À (a.any λi=>õ i c)else none
def Vq (x:Xs T X.mg)(k:c<7)(ls:Ls T X XE)(j:PA X (a::as) (tP T XE r)) (i:X.K=T.K:=by rfl)(d:X.calm=true:=by rfl)(m:Gl X (jO c):=by rfl)
  (e:(jO c == ("__debug__":Str))=false:=by decide+kernel) (l:Ì (a::as) X.env=(false,Ė a X.env)::Ì as X.env:=by rfl) (f:(ģ b (Ì as X.env)).any (·.1)=false:=by rfl) :
  PS X (.Raise (À (.Call (.Name (jO c) o) (a::as) [] b)) none pos) (tS T XE (Au c r)):=by
 obtain⟨n,g,h⟩:=x.c c (by lia);cases h k;exact JG g (x.kp c (by lia)) (x.gl c (by lia)) ls j i d m e l f
def Vr {body a:Á Stmt}{d:Stmt}{n:Str}{i f N:Nat}{b h:Ms}(x:Xs T X.mg)(g:f<9)(t:X.N.Nodup)
  (u:∀xe pn A,Ls T (X.pa xe pn) A->nB (X.pa xe pn) body (tS T A b)) (z:∀e,nB (X.o_ e) (d::a) (tS T Hw h)) (s:X.K=T.K:=by rfl) (v:Gl X (jO f):=by rfl)
  (w:X.N[i]?=À n:=by rfl) (B:X.env.scope.names.lookup n=À .local:=by rfl) (y:X.N.length=N:=by rfl) (m:X.stack=X.env::X.outer:=by rfl) (j:X.env.frame=À X.env.locals:=by rfl) (l:(jO f == ("__debug__":Str))=false:=by decide+kernel) :
  PS X (.Try body [.ExceptHandler (À (.Name (jO f) D)) (À n) (d::a) o] [] [] pos) (tS T XE (wu N i (λc=>decide (c<9)&&õ f c) b h)):=by
 obtain⟨C,q,_⟩:=x.c f g;refine RJ t q (x.gl f g) (λc k=>?_) u z s v w B y m j l;rw[ē,decide_eq_true_iff]at k;obtain⟨p,r,_⟩:=x.c c k.1;exact⟨_,_,_,r,(x.has k.1 g).trans k.2⟩
def Ri {i:Nat}{m:Ev}(x:Xs T X.mg)(l:i<9)(s:X.mg "isinstance"=none)(o:PE X e s!"x") (n:X.K=T.K:=by rfl)(r:Gl X "isinstance":=by rfl)(g:Gl X (jO i):=by rfl) (d:(jO i == ("__debug__":Str))=false:=by decide+kernel)
  (q:Ì [e,.Name (jO i) a] X.env=s!"k"::Ì [.Name (jO i) a] X.env:=by rfl) (f:Ì [.Name (jO i) a] X.env=(false,Ė (.Name (jO i) a) X.env)::Ì [] X.env:=by rfl) (j:(ģ pos (Ì [.Name (jO i) a] X.env)).any (·.1)=false:=by rfl) :
  PE X (.Call (.Name "isinstance" p) [e,.Name (jO i) a] [] pos) (tE T XE (bg (bA (pD i)) m)):=
 Ju (c:=.ref (T.cl i)) (zQ (v:=.ref (T.cl i)) g (x.gl i l) rfl d) rfl (λC b h=>by
  unfold pD at h;split at h
  ·rename_i k;cases h;exact⟨x.is C k,x.Jh k l⟩
  ·cases h) s o n r q f j
def uq:ĥ "ValueError"=À (.type "ValueError"):=by decide+kernel
def Rj {m:Ev}(x:Xs T X.mg)(q:X.mg "isinstance"=none)(g:X.mg "ValueError"=none)(l:PE X e s!"x") (k:X.K=T.K:=by rfl)(o:Gl X "isinstance":=by rfl)(f:Gl X "ValueError":=by rfl)
  (n:Ì [e,.Name "ValueError" a] X.env=s!"k"::Ì [.Name "ValueError" a] X.env:=by rfl) (d:Ì [.Name "ValueError" a] X.env=(false,Ė (.Name "ValueError" a) X.env)::Ì [] X.env:=by rfl) (i:(ģ pos (Ì [.Name "ValueError" a] X.env)).any (·.1)=false:=by rfl) :
  PE X (.Call (.Name "isinstance" p) [e,.Name "ValueError" a] [] pos) (tE T XE (bg (bA F2) m)):=
 Ju (c:=.type "ValueError") (Fg (v:=.ty "ValueError") f g uq rfl) rfl (λC b h=>by
  unfold F2 at h;split at h
  ·rename_i j;cases h;exact⟨x.is C j,x.Yy j⟩
  ·cases h) q l k o n d i
def Fd (x:Xs T X.mg)(d:i<9)(h:PA X a (tK ((f.map T.cl).map V.ref))) (c:Gl X (jO i):=by rfl) (b:(jO i == ("__debug__":Str))=false:=by decide+kernel) (e:Ì (.Name (jO i) p::a) X.env=(false,Ė (.Name (jO i) p) X.env)::Ì a X.env:=by rfl) :
  PA X (.Name (jO i) p::a) (tK (((i::f).map T.cl).map V.ref)):=J6 (zQ (v:=.ref (T.cl i)) c (x.gl i d) rfl b) h e
def Nb {c:Á Nat}{cls:Á Expr}{x1:Nat}{m:Ev}(x:Xs T X.mg)(q:c.all (· < 9)=true) (hl:c.length<=1000)(r:X.mg "isinstance"=none)(s:PA X cls (tK ((c.map T.cl).map V.ref))) (l:PE X e s!"x") (k:X.K=T.K:=by rfl)(o:Gl X "isinstance":=by rfl)
  (n:Ì [e,.Tuple cls x1 a] X.env=s!"k"::Ì [.Tuple cls x1 a] X.env:=by rfl) (d:Ì [.Tuple cls x1 a] X.env=(false,Ė (.Tuple cls x1 a) X.env)::Ì [] X.env:=by rfl) (g:(ģ pos (Ì [.Tuple cls x1 a] X.env)).any (·.1)=false:=by rfl) :
  PE X (.Call (.Name "isinstance" p) [e,.Tuple cls x1 a] [] pos) (tE T XE (bg (bA (F1 c)) m)):=
 Nc s (by rw[É];exact hl) (λC b h=>by
  unfold F1 at h;split at h
  ·rename_i j;cases h;exact⟨x.is C j,x.U3 j λi f=>š (Ā.mp q i f)⟩
  ·cases h) r l k o n d g
end
end Mm
namespace Ro
open PySem L2 Mm
section
variable {P:ď}{w:ī}{T:Tx}{mg:Str->Ë Value}{base:Heap}
def ŗ (N:Á Str)(D:Df T mg x st)(S:jc N (N.take n) (ĝ st))
  (e:∀kV b i c a ct us,us.length=(N.take n).length->ko (Ŏ x x (cE st) (aR st) (ĝ st) .none kV b i c a ct) ⟨us,[]⟩=pure ((N.take n).zip us)) (g:(N.take n).length=n)
  (h:∀f a A outer s H E,cP k (A.deeper (aP x (ĝ st) s.heap.objs.size f a))->N.Nodup->Ls T (m8 (rK P w) P w T.K mg base N x (ĝ st) f a A outer s H E) (oQ T E)->nB (m8 (rK P w) P w T.K mg base N x (ĝ st) f a A outer s H E) (aR st) (tS T (oQ T E) body)) :
  b_ P w T mg base x n (k+1) (bH N.length body):=by
 obtain⟨f,d,F,m⟩:=D.ex;have:=zm F S λa A outer s H E hr=>h f a A outer s H E hr S.nd BE;rw[g]at this;exact⟨f,d,_,this,F.binds e,m,F.kp⟩
def Gj (hl:ps.length=n):ic P w T.K mg base (rK P w) k f e ps (Hx T n λ_ _=>.bad):=
 ⟨λd H Q E h=>h.1.trans hl.symm,λA b s H c us d Q E _ _ _ _ h=>by obtain⟨_,g,st,a,_,_,z⟩:=h;exact z.elim⟩
def ME (ps:Á Str)(D:Df T mg x st)(hl:ps.length=n)
  (e:∀kV b g c a ct us,us.length=ps.length->ko (Ŏ x x (cE st) (aR st) (ĝ st) .none kV b g c a ct) ⟨us,[]⟩=pure (ps.zip us)):b_ P w T mg base x n k λ_ _=>.bad:=by
 obtain⟨f,d,F,m⟩:=D.ex;exact⟨f,d,ps,Gj hl,F.binds e,m,F.kp⟩
end
end Ro
namespace Mm
open PySem L2
def BX (f:Str)(v:AV):Á (Str×AV)->Á (Str×AV)
 |[]=>[(f,v)]
 |(g,x)::r=>if g=f then (g,v)::r else (g,x)::BX f v r
section
variable {T:Tx}{XE:iW}{X:Cx}{pos:kR}
def tm (T:Tx)(ρ:Á Addr)(H:Hp)(fs:Á (Str×AV)) (ks:Á (Str×V)):Prop:=fs.map (·.1)=ks.map (·.1)/\ı T ρ H (fs.map (·.2)) (ks.map (·.2))
theorem tm.nil:tm T ρ H [] []:=⟨rfl,.nil⟩
def tm.nil_inv (h:tm T ρ H [] ks):ks=[]:=by
 have:=h.1;cases ks with
 |nil=>rfl
 |cons a r=>simp at this
theorem tm.cons_inv (h:tm T ρ H ((g,v)::fs) ks):∃x r,ks=(g,x)::r/\VR T ρ H v x/\tm T ρ H fs r:=by
 obtain⟨b,c⟩:=h;cases ks with
 |nil=>simp at b
 |cons a r=>
  obtain⟨i,x⟩:=a;simp only[Î,aU]at b;obtain⟨y,j,e,d,f⟩:=ı.cons_inv (show ı T ρ H (v::fs.map (·.2)) (x::r.map (·.2))from c);cases e;obtain⟨rfl,b⟩:=b;exact⟨x,r,rfl,d,b,f⟩
theorem tm.cons {ρ:Á Addr}{H:Hp}{g:Str}{v:AV}{x:V}{fs:Á (Str×AV)}{ks:Á (Str×V)}(h:VR T ρ H v x)(k:tm T ρ H fs ks):tm T ρ H ((g,v)::fs) ((g,x)::ks):=
 ⟨by simp[k.1],.cons h k.2⟩
theorem tm.get:∀{fs:Á (Str×AV)}{ks:Á (Str×V)},tm T ρ H fs ks->fs.lookup f=À v->∃x,ks.lookup f=À x/\VR T ρ H v x
 |[],_,_,e=>by cases e
 |(g,w)::fs,ks,h,e=>by
  obtain⟨x,r,rfl,a,b⟩:=h.cons_inv;rw[Ħ]at e⊢;by_cases q:(f == g)=true
  ·rw[q]at e⊢;cases e;exact⟨x,rfl,a⟩
  ·rw[uI.mpr q]at e⊢;exact tm.get b e
theorem tm.Ĕ:∀{fs:Á (Str×AV)}{ks:Á (Str×V)},tm T ρ H fs ks->fs.lookup f=none->ks.lookup f=none
 |[],_,h,_=>by rw[h.nil_inv];rfl
 |(g,w)::fs,ks,h,e=>by
  obtain⟨x,r,rfl,b,a⟩:=h.cons_inv;rw[Ħ]at e⊢;by_cases q:(f == g)=true
  ·rw[q]at e;cases e
  ·rw[uI.mpr q]at e⊢;exact tm.Ĕ a e
theorem tm.put (k:VR T ρ H v x):∀{fs:Á (Str×AV)}{ks:Á (Str×V)},tm T ρ H fs ks->tm T ρ H (BX f v fs) (mr f x ks)
 |[],_,h=>by rw[h.nil_inv];exact .cons k .nil
 |(g,w)::fs,ks,h=>by
  obtain⟨y,r,rfl,b,a⟩:=h.cons_inv;unfold BX mr;by_cases q:g=f
  ·rw[Ò q,Ò q];exact .cons k a
  ·rw[Ø q,Ø q];exact .cons b (tm.put k a)
theorem tm.gr (u:Gr ρ H a H')(h:tm T ρ H fs ks):tm T a H' fs ks:=⟨h.1,h.2.gr u⟩
theorem tm.length (h:tm T ρ H fs ks):fs.length=ks.length:=by
 have:=ğ cb h.1;simpa using this
def SR.Jb (m:SR T ρ s H)(e:s[i]?=À (.ins c fs)) (h:VR T ρ H (.ref i) x):∃a d ks,x=.ref a/\ρ[i]?=À a/\H a=À (.ins (T.cl c) d ks)/\tm T ρ H fs ks:=by
 obtain⟨a,f,rfl⟩:=h.gi;obtain⟨b,g,d,ks,j,k,l⟩:=m.obj i _ e;rw[f]at g;cases g;exact⟨a,d,ks,rfl,f,j,k,l⟩
def zu (c:Nat)(v:AV)(s:S):Ë (Nat×Á (Str×AV)):=match v with
 |.ref i=>match s[i]? with
  |some (.ins a b)=>if a=c then À (i,b)else none
  |_=>none
 |_=>none
def vK (h:zu c v s=À (i,fs)):v=.ref i/\s[i]?=À (.ins c fs):=by
 unfold zu at h;split at h
 ·rename_i j;split at h
  ·rename_i b a e;split at h
   ·rename_i q;cases h;exact⟨rfl,by rw[e,q]⟩
   ·cases h
  ·cases h
 ·cases h
def aa (c:Nat)(f:Str)(v:AV)(s:S):R AV:=need (zu c v s) λp=>need (p.2.lookup f) λw=>.ok w s
def Rb (cl:AY T.K (T.cl c)) (na:ku T.K (T.cl c) f) (d:PE X e s!"x") (n:X.K=T.K:=by rfl)(D:a8 e f X.env (Ė e X.env)=Ė e X.env:=by rfl):PE X (.Attribute e f pos) (tE T XE (bg (aa c f) m)):=
 PE.imp (R_ d D) λU H Q I=>Ō I λP z s F d E=>step F d E λv N J L x _ O b A l g=>by
  obtain⟨p,q,h⟩:=g.ö;obtain⟨w,r,j⟩:=h.ö;obtain⟨i,M⟩:=p;obtain⟨rfl,t⟩:=vK q;obtain⟨a,o,G,rfl,_,B,C⟩:=b.Jb t l;obtain⟨y,u,k⟩:=C.get r;exact⟨a,T.cl c,o,G,y,rfl,B,n▸cl,n▸na,u,j.Ĺ b k⟩
def lF (c:Nat)(f:Str)(d mv:Ev):Ms:=λa s=>(mv a s).aQ λy e=>(d a e).aQ λx b=>match zu c x b with
 |some p=>if p.2.length<1000 then .nx a (b.set p.1 (.ins c (BX f y p.2)))else .bad
 |none=>.bad
def RF {G mv:Ev}(cl:AY T.K (T.cl c)) (na:ku T.K (T.cl c) f) (P:PE X o (tE T XE G)) (U:PE X b (tE T XE mv)) (E:X.K=T.K:=by rfl)(Q:eS b (À (.Attribute o f m)) pos.line X.env=pure false:=by rfl) :
  PS X (.Assign [.Attribute o f m] b pos) (tS T XE (lF c f G mv)):=
 PS.imp (Sn P U Q) λD σ H ⟨ρ,L,s,Z,M,h⟩=>dm Z M h λy s1 OO H1 I _ u1 u r l O=>dm u r O λx Y d A x' _ u2 j t v g=>by
  have l:VR T d A y I:=VR.up u2 l;cases e:zu c x Y with
  |none=>simp only[e]at g;exact g.elim
  |some p=>
   simp only[e]at g;obtain⟨i,N⟩:=p;obtain⟨rfl,J⟩:=vK e;obtain⟨a,q,F,rfl,w,B,C⟩:=j.Jb J v;by_cases hl:N.length<1000
   ·rw[Ò hl]at g;have n:Up d A d (upd A a (.ins (T.cl c) q (mr f I F))):=j.t_ w B s!"p" (λ_ _ z=>nomatch z);refine⟨a,T.cl c,q,F,rfl,B,E▸cl,E▸na,by rw[<-C.length];exact hl,g d _ σ n (j.set w n ?_) (t.up n)⟩;have k:=(C.put (f:=f) l).gr n.toGr;exact⟨q,_,ă ..,k.1,k.2⟩
   ·rw[Ø hl]at g;exact g.elim
noncomputable def Į (c:Nat)(m:Str)(n:Nat)(F:Á AV->S->R AV)(e:Ev)(r:hR):Ev:=λa s=>(e a s).bind λx b=>need (zu c x b) λp=>if p.2.lookup m=none then (r a b).bind λd f=>if d.length=n then F (x::d) f else .bad else .bad
structure gy (P:ď)(w:ī)(T:Tx)(mg:Str->Ë Value)(base:Heap)(c:Nat)(m:Str)(n k:Nat)(Fn:Á AV->S->R AV):Prop where
 ex:∃f fd ps,ic P w T.K mg base (rK P w) k f fd ps (Hx T (n+1) Fn)/\Binds T.K fd ps []/\Meth T.K (T.cl c) m f
def E8 (k:∀c ρ s H,XE c ρ s H->oQ T E c ρ s H)(h:tE T XE (Į c m n F P r) σ H Q):KU (T.cl c) m (Hx T (n+1) F) [] E (tE T XE P) (tP T XE r) σ H Q:=by
 obtain⟨ρ,D,s,N,L,M⟩:=h;refine step N L M λx s1 w A x' _ u1 g l b e=>?_;obtain⟨p,z,f⟩:=e.ö;obtain⟨o,q⟩:=f.Ř;clear e f;obtain⟨i,fs⟩:=p;obtain⟨rfl,C⟩:=vK z;have b:VR T w A (.ref i) x':=b;obtain⟨a,y,O,rfl,ea,I,J⟩:=g.Jb C b;refine⟨a,y,O,rfl,I,J.Ĕ o,?_⟩;refine step g l q λZ U j B xs _ Y v G d t=>?_;obtain⟨hl,u⟩:=t.Ř;have d:ı T j B Z xs:=d;rw[Ġ];exact⟨by simp[<-d.length,hl],j,U,_,v,.cons (b.up Y) d,u.xe k⟩
def Nf (cl:AY T.K (T.cl c)) (h:gy X.prog X.w T X.mg X.base c m n k B)(hr:cP k X.A)(u:PE X o (tE T XE x)) (q:PA X (e::b) (tP T XE r)) (ls:Ls T X XE)(d:X.K=T.K:=by rfl)
  (i:Ì (e::b) X.env=s!"k"::Ì b X.env:=by rfl) (g:(ģ pos (Ì b X.env)).any (·.1)=false:=by rfl)
  (v:Ė (.Call (.Attribute o m a) (e::b) [] pos) X.env=(do
   let j <-Ė o X.env
   jX a.atName
   let (f,first) <-c8 [j] (pB j m pl)
   yR pos f first (ģ pos (Ì (e::b) X.env)) (gI pos (bP [] X.env))):=by rfl) :
  PE X (.Call (.Attribute o m a) (e::b) [] pos) (tE T XE (Į c m n B x r)):=by
 obtain⟨f,y,z,G,s,t⟩:=h.ex;obtain⟨E,l,p⟩:=ls.ex;exact PE.imp (NT (E:=E) (pl:=pl) u (d▸cl) (d▸t) (by rw[d];exact G) hr (by rw[d];exact s) .nil l.passes q i g v) λ_ _ _ h=>E8 p h
def Jw (cl:AY T.K (T.cl c)) (h:gy X.prog X.w T X.mg X.base c m 0 k C)(hr:cP k X.A)(i:PE X o (tE T XE M)) (ls:Ls T X XE)(e:X.K=T.K:=by rfl)
  (I:Ė (.Call (.Attribute o m b) [] [] pos) X.env=(do
   let n <-Ė o X.env
   jX b.atName
   let (f,first) <-c8 [n] (pB n m pl)
   yR pos f first (ģ pos (Ì [] X.env)) (gI pos (bP [] X.env))):=by rfl) :
  PE X (.Call (.Attribute o m b) [] [] pos) (tE T XE (Į c m 0 C M Ï)):=by
 obtain⟨f,N,P,G,y,D⟩:=h.ex;obtain⟨E,l,v⟩:=ls.ex;refine PE.imp (Kd (E:=E) (pl:=pl) i (e▸cl) (e▸D) (by rw[e];exact G) hr (by rw[e];exact y) .nil l.passes I) λY H Q h=>?_;obtain⟨ρ,g,s,F,z,i⟩:=E8 v h;refine⟨ρ,g,s,F,z,i.imp λx B ⟨a,p,u,q,r,t,d,j,U,J,O,L⟩=>⟨a,p,u,q,r,t,?_⟩⟩;exact L d B [] .refl J (ı.nil (T:=T) (ρ:=d) (H:=B))
noncomputable def pW (c:Nat)(F:Á AV->S->R AV):Ev:=λ_ s=>(F [.ref s.length] (s++[.ins c []])).bind λv a=>match v with
 |.Ĕ=>.ok s!"h" a
 |_=>.bad
structure Uc (P:ď)(w:ī)(T:Tx)(mg:Str->Ë Value)(base:Heap)(c:Nat)(nm:Str)(k:Nat)(Fn:Á AV->S->R AV):Prop where
 ex:∃f fd ps,ic P w T.K mg base (rK P w) k f fd ps (Hx T 1 Fn)/\Binds T.K fd ps []/\Mk T.K (T.cl c) f/\mg nm=À (.ref (T.cl c))
def Jv (h:Uc X.prog X.w T X.mg X.base c x k C)(hr:cP (k+1) X.A) (ls:Ls T X XE)(o:X.K=T.K:=by rfl)(L:Gl X x:=by rfl)(q:(x == ("__debug__":Str))=false:=by decide):PE X (.Call (.Name x p) [] [] pos) (tE T XE (pW c C)):=by
 obtain⟨f,fd,ps,G,J,M,N⟩:=h.ex;obtain⟨E,l,I⟩:=ls.ex;refine PE.imp (Kc (E:=E) (o▸M) (by rw[o];exact G) hr L N (by rw[o];exact J) .nil l.passes q) λσ H Q Z=>Ō Z λj F s m he b=>?_;intro a d D hd r;have i:upd H d (.own a) a=none:=by rw[ä (ō r)];exact D
 have P:Up j H j (upd (upd H d (.own a)) a (.ins (T.cl c) d [])):=(m.eg hd).trans ((m.new hd).eg i);have U:Up j H (j++[a]) (upd (upd H d (.own a)) a (.ins (T.cl c) d [])):=P.add D;have y:SR T (j++[a]) (s++[.ins c []]) (upd (upd H d (.own a)) a (.ins (T.cl c) d [])):=((m.new hd).new i).add ((m.new hd).out i) ⟨d,[],ă ..,rfl,.nil⟩;have n:VR T (j++[a]) (upd (upd H d (.own a)) a (.ins (T.cl c) d [])) s!"h" (.ref a):=qc (by rw[ç (by rw[m.len];lia),m.len];simp);refine⟨rfl,j++[a],s++[.ins c []],[.ref s.length],y,.one n,?_⟩;have b:=Out.up U b;unfold pW at b;cases e:C [.ref s.length] (s++[.ins c []])with
 |bad=>rw[e]at b;exact b.elim
 |ex c' O=>rw[e]at b;exact λg B u t=>I _ _ _ _ (b g B u t)
 |ok v O=>
  rw[e]at b;intro g B Y u t z;rw[ï]at b;have z:VR T g B v Y:=z;cases v with
  |Ĕ=>exact⟨z.jh,b g B (.ref a) u t (n.up u)⟩
  |_=>exact b.elim
end
end Mm
namespace Ro
open PySem L2 Mm
structure g8 (T:Tx)(c:Nat)(m qual:Str)(st:Stmt):Prop where
 ex:∃f fd,HL T.K m qual st f fd/\Meth T.K (T.cl c) m f
structure WW (T:Tx)(mg:Str->Ë Value)(c:Nat)(nm qual:Str)(st:Stmt):Prop where
 ex:∃f fd,HL T.K "__init__" qual st f fd/\Mk T.K (T.cl c) f/\mg nm=À (.ref (T.cl c))
structure Bk (T:Tx)(c:Nat)(fs:Á Str):Prop where
 cl:AY T.K (T.cl c)
 na:∀f∈fs,ku T.K (T.cl c) f
section
variable {P:ď}{w:ī}{T:Tx}{mg:Str->Ë Value}{base:Heap}
def aM (N:Á Str)(D:g8 T c m b st)(S:jc N (N.take (n+1)) (ĝ st))
  (i:∀kV d l e a ct us,us.length=(N.take (n+1)).length->ko (Ŏ m b (cE st) (aR st) (ĝ st) .none kV d l e a ct) ⟨us,[]⟩=pure ((N.take (n+1)).zip us)) (j:(N.take (n+1)).length=n+1)
  (h:∀f a A outer s H E,cP k (A.deeper (aP b (ĝ st) s.heap.objs.size f a))->N.Nodup->Ls T (m8 (rK P w) P w T.K mg base N b (ĝ st) f a A outer s H E) (oQ T E)->nB (m8 (rK P w) P w T.K mg base N b (ĝ st) f a A outer s H E) (aR st) (tS T (oQ T E) body)) :
  gy P w T mg base c m n (k+1) (bH N.length body):=by
 obtain⟨f,g,F,M⟩:=D.ex;have:=zm F S λa A outer s H E hr=>h f a A outer s H E hr S.nd BE;rw[j]at this;exact⟨f,g,_,this,F.binds i,M⟩
def Qz (N:Á Str)(D:WW T mg c nm b st)(S:jc N (N.take 1) (ĝ st))
  (i:∀kV d m e a ct us,us.length=(N.take 1).length->ko (Ŏ "__init__" b (cE st) (aR st) (ĝ st) .none kV d m e a ct) ⟨us,[]⟩=pure ((N.take 1).zip us)) (l:(N.take 1).length=1)
  (h:∀f a A outer s H E,cP k (A.deeper (aP b (ĝ st) s.heap.objs.size f a))->N.Nodup->Ls T (m8 (rK P w) P w T.K mg base N b (ĝ st) f a A outer s H E) (oQ T E)->nB (m8 (rK P w) P w T.K mg base N b (ĝ st) f a A outer s H E) (aR st) (tS T (oQ T E) body)) :
  Uc P w T mg base c nm (k+1) (bH N.length body):=by
 obtain⟨f,g,F,M,j⟩:=D.ex;have:=zm F S λa A outer s H E hr=>h f a A outer s H E hr S.nd BE;rw[l]at this;exact⟨f,g,_,this,F.binds i,M,j⟩
end
end Ro
namespace Mm
open PySem L2
section
variable {T:Tx}{XE:iW}{X:Cx}{pos:kR}
def B_:Á AV->Ë (Á Str)
 |[]=>À []
 |.str x::r=>(B_ r).map (x::·)
 |_=>none
theorem wL:∀{l:Á AV}{a:Á Str},B_ l=À a->l=a.map AV.str
 |[],_,h=>by cases h;rfl
 |.str x::r,a,h=>by
  have h:(B_ r).map (x::·)=À a:=h;cases e:B_ r with
  |none=>rw[e]at h;cases h
  |some q=>rw[e]at h;cases h;rw[Î,<-wL e]
 |.Ĕ::_,_,h=>by cases h
 |.bl _::_,_,h=>by cases h
 |.int _::_,_,h=>by cases h
 |.tup _::_,_,h=>by cases h
 |.ref _::_,_,h=>by cases h
 |.sq _::_,_,h=>by cases h
def pO (m:Ev):hR:=λa s=>(m a s).bind λv b=>match v with
 |.ref i=>need (ù b i) λl=>need (B_ l) λc=>if c.length<64 then .ok ((þ c).map .str) b else .bad
 |_=>.bad
def JD (B:X.mg "sorted"=none)(h:PE X e s!"x") (A:Gl X "sorted":=by rfl)(f:Ì [e] X.env=s!"k"::Ì [] X.env:=by rfl) (o:(ģ pos (Ì [] X.env)).any (·.1)=false:=by rfl) :
  PE X (.Call (.Name "sorted" p) [e] [] pos) (tL T XE (pO m)):=
 PE.imp (cW vp A B ũ (aS h eI f) s!"i" s!"i" f o) λU H Q G=>Ō G λP w s q f C=>step q f C λv M I J x _ N c y r b=>by
  cases v with
  |ref i=>
   obtain⟨l,t,g⟩:=b.ö;obtain⟨E,u,j⟩:=g.ö;obtain⟨hl,n⟩:=j.Ř;obtain⟨a,O,rfl,L,z,k⟩:=c.ef (ċ t) r;rw[wL u]at k;cases k.wF;refine⟨a,E,rfl,z,hl,λF d hd D q=>?_⟩;rw[p_ D (jk q)];exact n.lst c hd (ı.map (λ_=>iS) _)
  |_=>exact b.elim
noncomputable def RW (a y:AV)(s:S):R AV:=match a with
 |.ref i=>need (kH s i) λb=>need (gb y) λk=>.ok ((a6 b k).getD .Ĕ) s
 |_=>.bad
def yx (d y:Ev):Ev:=λc s=>(d c s).bind λa e=>need (kL "dict" a e) λ_=>(y c e).bind λb f=>RW a b f
def M_ (hu:X.A.units+1<cLine)(B:PE X o s!"x") (z:PE X e (tE T XE n)) (q:M1 X o "get" j e l:=by exact⟨rfl,rfl,rfl,rfl⟩):PE X (.Call (.Attribute o "get" j) [e] [] l) (tE T XE (yx m n)):=
 PE.imp (J9 hu B z q) λσ H Q zz=>Ō zz λρ P s hs z B=>step hs z B λd s1 OO H1 x _ u1 r u f g=>by
  obtain⟨_,L,g⟩:=g.ö;obtain⟨a,rfl,hd⟩:=Jc L r f;refine⟨a,rfl,hd,step r u g λw s2 F J y _ u2 h U E p=>?_⟩;have f:VR T F J d (.ref a):=VR.up u2 f;cases d with
  |ref i=>
   obtain⟨D,M,C⟩:=p.ö;obtain⟨k,N,c⟩:=C.ö;obtain⟨b,ks,O,ea,Z,G,I⟩:=h.A9 (j9 M) f;cases O;refine⟨jl ks k,by rw[hY N E];exact jo.k Z,?_⟩;cases t:a6 D k with
   |none=>rw[(dZ k G I).2 t];rw[t]at c;exact c.Ĺ h wN
   |some v=>obtain⟨x',Y,kx⟩:=(dZ k G I).1 v t;rw[Y];rw[t]at c;exact c.Ĺ h kx
  |_=>exact p.elim
def DX (a:Ev):Src:=λb s=>(a b s).bind λv c=>need (xI false v c) λp=>.ok (yd p.1,p.2) c
def Nk (G:X.K=T.K)(hm:X.mg "enumerate"=none)(Y:PE X e1 (tE T XE a)) (hg:Gl X "enumerate":=by rfl)
  (w:Ì [e1] X.env=(false,Ė e1 X.env)::Ì [] X.env:=by rfl) (u:(ģ pos (Ì [] X.env)).any (·.1)=false:=by rfl) :
  PI X (.Tuple es kk L) (.Call (.Name "enumerate" p) [e1] [] pos) (tW T XE (DX a)):=
 PI.imp (NX hg hm Y w u) λσ H R zz=>Ō zz λρ O s w Z ho=>step w Z ho λv s1 B D x _ u1 d Q y o=>by
  obtain⟨r,e,t⟩:=o.ö;obtain⟨xs,g⟩:=r;obtain⟨i,rfl,⟨f,x1⟩,w1⟩:=wz e d y;have x1:fQ T.K D i f:=x1;refine⟨i,rfl,⟨f,by rw[G];exact x1⟩,t B D _ .refl d ⟨λA s' C u' b U=>?_⟩⟩;obtain⟨h,c,J⟩:=w1 A s' C u' b U;have c:fQ T.K C i h:=c;rw[G];have n:=J.length;refine⟨λj z k=>?_,⟨h,c,?_⟩⟩
  ·have I:j<xs.length:=by
    have:=(Æ.mp k).1;simp only[yd,É,oC,dz]at this;lia
   have l:z=.tup [.int (j:Int),xs[j]]:=by
    have q:(yd xs)[j]?=À (.tup [.int (j:Int),xs[j]]):=by
     simp[yd,AB,I]
    rw[q]at k;exact(æ k).symm
   subst l;obtain⟨x3,E,v3⟩:=J.get (Å I);refine⟨⟨h,x3,c,E⟩,λq M ⟨Tt,y1,P,m,N,hy⟩=>?_⟩;have F:=hy h c;rw[E]at F;cases F;subst P N;exact⟨b.eg m,b.new m,jM (gz.of ă) (ı.up (b.eg m) (.cons a9 (.one v3)))⟩
  ·rw[<-n];simp only[yd,É,oC,dz];lia
def vF (m:hR):hR:=λa s=>(m a s).bind λl c=>need (B_ l) λb=>if b.length<64 then .ok ((þ b).map .str) c else .bad
def JC (w:X.mg "sorted"=none)(h:PE X e (tL T XE m)) (v:Gl X "sorted":=by rfl)(b:Ì [e] X.env=s!"k"::Ì [] X.env:=by rfl) (i:(ģ pos (Ì [] X.env)).any (·.1)=false:=by rfl) :
  PE X (.Call (.Name "sorted" p) [e] [] pos) (tL T XE (vF m)):=
 PE.imp (cW vp v w ũ (aS h eI b) s!"i" s!"i" b i) λL H Q C=>Ō C λJ r s j b y=>step j b y λl F D E x _ G n t o c=>by
  obtain⟨A,q,f⟩:=c.ö;obtain⟨hl,g⟩:=f.Ř;obtain⟨a,I,rfl,_,_,u,k⟩:=o;rw[wL q]at k;cases k.wF;refine⟨a,A,rfl,u,hl,λB d hd z j=>?_⟩;rw[p_ z (jk j)];exact g.lst n hd (ı.map (λ_=>iS) _)
end
end Mm
namespace L2
open PySem PySem.Spec PyProof.Rows
abbrev BW (x:Str)(p:kR):Arguments:={posonlyargs:=[],args:=[{arg:=x,annotation:=none,pos:=p}],vararg:=none,kwonlyargs:=[],kw_defaults:=[],kwarg:=none,defaults:=[]}
abbrev F3 (x:Str)(p1 p2 p3:kR):Expr:=.Subscript (.Name x p1) (.Constant (.int 1) 0 p2) p3
abbrev B4 (x:Str):Scope:={kind:=.function,names:=[(x,.local)],isGenerator:=false,isCoroutine:=false,more:=[]}
def Ud (h:Heap)(f:Addr)(q:Str)(a:Arguments)(body:Expr)(scope:Scope):Prop:=∃d c b,h.get? f=À {cls:=.type "function",data:=.func (oK "<lambda>" q a body scope [] d c b)}/\h.CodeRec c q
section
variable {prog:ď}{w:ī}{A:Ň}{E:Value->Ó->Prop}{s:Ó}
def Ji {Q:Value->Ó->Prop}(C:Ud s.heap f q (BW x p0) (F3 x p1 I J) (B4 x)) (m:s.heap.NoLimit)(d:A.depth<recursionLimit)(F:(x == ("__debug__":Str))=false) (D:Lr s.heap t its)(k:its[1]?=À v)
  (B:∀u p g,ko (oK "<lambda>" q (BW x p0) (F3 x p1 I J) (B4 x) [] u p g) ⟨[.ref t],[]⟩=pure [(x,.ref t)])
  (y:∀h' L,(∀b o,s.heap.get? b=À o->h'.get? b=À o)->Q v {s with heap:=h',toks:=L}):Ù s!"j" A (call (.ref f) [.ref t]) Q E s:=by
 obtain⟨u,p,g,e,l⟩:=C;refine xo (PySem.W.kla_callFunE d e rfl rfl rfl rfl l ?_);rw[B];refine Ê (wpAny_newFunctionEnv (by simp) (by simp) (λc n h=>⟨m.fresh _ h,?_⟩) rfl);have a:∀b o,s.heap.get? b=À o->c.get? b=À o:=λb o e=>h.extBut b o (ñ (Ô e)) (Ä _ e);obtain⟨o,G,H⟩:=D;have i:Lr c t its:=⟨o,a _ _ G,H⟩
 have M:1<its.size:=by
  rcases Nat.lt_or_ge 1 its.size with z|z
  ·exact z
  ·rw[gG z]at k;cases k
 refine PySem.W.kla_codeExpr (FP (F0 (uh rfl ?_ n (v:=.ref t) ?_ ?_) F))
 ·simp[Env.kindOf,newEnv]
 ·simp
 ·refine Ub ?_;exact qr (x:=v) i.typeIs T'.lookup
   (getItem_tuple (j:=1) (Q:=λr s'=>r=v/\Q r s') i s!"i" s!"i" (by simp[AS];lia) k ⟨rfl,y _ _ a⟩) rfl
end
open Mm
def D8 {pos:kR}{i:Obj}(h:xU H q ps)(k:∀b o u,H b=À (.iY o u)->H' b=À (.iY o u))
  (m:H' c=À (.iY i u)) (hd:i.data=.fields vs) (n:vs[1]?=À (.str q t)):xU H' q (ps++#[ź pos.line,ź pos.col,.ref c]):=by
 have e:(ps++#[ź pos.line,ź pos.col,.ref c]).toList=ps.toList++[ź pos.line,ź pos.col,.ref c]:=by simp
 refine⟨by rw[e];exact TriplesOk_snoc _ _ _ _ h.1,λp f z=>?_⟩;rw[e]at z;have g:∀l:Á Value,XQ l->AM p (l++[ź pos.line,ź pos.col,.ref c])=À f->AM p l=À f∨f=.ref c:=by
  intro l hl
  fun_induction XQ l with
  |case1=>
   intro z;have z:(if (((pos.line:Int) == p.line)&&((pos.col:Int) == p.col))=true then À (Ñ c)else none)=À f:=z;split at z
   ·cases z;exact .inr rfl
   ·cases z
  |case2 a b C d D r s=>
   intro z;simp only[bw,AM]at z⊢;split at z
   ·rename_i q;rw[Ò q];exact .inl z
   ·rename_i q;rw[Ø q];exact s hl z
  |case3=>exact hl.elim
 rcases g _ h.1 z with z|rfl
 ·obtain⟨j,y,A,B,t1,v,w,x⟩:=h.2 p f z;exact⟨j,y,A,B,t1,v,k _ _ _ w,x⟩
 ·exact⟨c,i,u,vs,t,rfl,m,hd,n⟩
section
variable {X:Cx}{pos:kR}
structure HN (H H':Hp)(P:Addr)(q:Str):Prop where
 keep:∀b o,H b=À o->b≠P->H' b=À o
 live:∀b,H' b=none->H b=none
 tab:∃ps,H' P=À (.rm ps)/\xU H' q ps
def Zd (P:Addr)(q:Str):St->Hp->(Addr->Hp->Prop)->Prop:=λ_ H Q=>(∃a,H P=À (.rm a)/\xU H q a)/\∀A f,HN H A P q->A f=none->Q f A
def QZ 
  (l:X.env.code=.ref c) (hC:Ŷ X.K c P=true) (hq:X.env.qual++"<lambda>"=q) (Z:qp scope X.env=pure []) (Yk:T_ i X.env=([],[]))
  (I:Inv X ÿ σ H s) (h:Zd P q σ H Q) :
  Ù s!"b" X.A (Ė (.Lambda i body scope m) X.env) (λv s'=>∃f H',v=.ref f/\Inv X ÿ σ H' s'/\Ud s'.heap f q i body scope/\Q f H') X.xe s:=by
 obtain⟨⟨y,x,U⟩,hQ⟩:=h;have k:s.heap.get? P=À (dF y):=I.ţ P _ x;have E:s.heap.Ns mainGlobals X.mg:=I.mod.glob.keeps I.bk;obtain⟨bm,ob,b1,b2,b3,b4,b5,b6⟩:=I.mod.bmain;have hgP:mainGlobals≠P:=λz=>by
  obtain⟨o,es,ep,e,hd,_⟩:=E;rw[z,k]at e;cases e;cases hd
 have hbP:bm≠P:=λz=>by
  have e:=I.bk _ _ b3;rw[z,k]at e;cases e;cases b4
 have hbG:bm≠mainGlobals:=λz=>by
  obtain⟨o,es,ep,e,hd,_⟩:=I.mod.glob;rw[z,e]at b3;cases b3;rw[hd]at b6;cases b6
 have hB:s.heap.BuiltinsAt X.mg P:=⟨bm,ob,b1,b2,hbG,hbP,I.bk _ _ b3,b4,b5,b6⟩
 have C:PySem.W.CodeHd s.heap c P:=Eg I.mi hC;refine PySem.W.kla_eval Yk ?_;cases hf:AM m y.toList with
 |some cv=>
  refine PySem.W.kla_makeFunctionHit (mg:=X.mg) Z I.ok.glob E l C k U.1 hf hB λN p tk hk r=>?_;obtain⟨c1,L,u,vs,t,rfl,J,k3,k4⟩:=U.2 m cv hf;have hcr:s.heap.CodeRec (.ref c1) q:=⟨c1,L,vs,t,rfl,(I.ţ c1 _ J).1,k3,k4⟩
  have W7:∀(o:Obj) b u,s.heap.get? b=À u->(p.push o).get? b=À u:=λo b u e=>Ä _ (hk b u e);exact⟨p.objs.size,H,rfl,I.kept (W7 _),⟨_,_,_,by rw[<-hq];exact Ö _ rfl,hcr.keeps (W7 _)⟩,hQ H _ ⟨λ_ _ e _=>e,λ_ e=>e,y,x,U⟩ (I.ţ.fresh r)⟩
 |none=>
  refine PySem.W.kla_makeFunction (mg:=X.mg) Z I.ok.glob E l C k U.1 hf hgP hB λa N p tk hx D F Ym htb=>?_;obtain⟨c₂,L,vs,t,e2,G,hd,hv⟩:=Ym;cases e2;rw[hq]at hv;have r:s.heap.objs.size<=p.objs.size:=ę (bI D F);have nc:H a=none:=I.ţ.fresh D;have ncP:a≠P:=λz=>by rw[z,x]at nc;cases nc
  let B:Hp:=upd (upd H a (.iY L (.own a))) P (.rm (y++#[ź m.line,ź m.col,.ref a]));have J:∀b o,H b=À o->b≠P->B b=À o:=λb o e n=>by
   show upd _ _ _ b=_;rw[ä n,ä (Ŋ e nc)];exact e
  have nP:∀b o,H b=À o->o≠.rm y->b≠P:=λb o e n z=>by subst z;rw[x]at e;exact n (æ e).symm
  have g:∀b o,s.heap.get? b=À o->b≠P->∀u:Obj,(p.push u).get? b=À o:=λb o e n u=>Ä _ (hx b o n e);have T:∀b o,s.heap.get? b=À o->H b=none->B b=none:=λb o e n=>by
   show upd _ _ _ b=_;rw[ä (λz=>by rw[z,x]at n;cases n),ä (λz=>by rw[z]at e;exact absurd (Ô e) (oF.mpr D))];exact n
  have eP:B P=À (.rm (y++#[ź m.line,ź m.col,.ref a])):=ă ..;have ec:B a=À (.iY L (.own a)):=by show upd _ _ _ a=_;rw[ä ncP];exact ă ..
  have live:∀b,B b=none->H b=none:=λb e=>by
   by_cases j:b=P
   ·subst j;rw[eP]at e;cases e
   ·by_cases Y:b=a
    ·rw[Y];exact nc
    ·have O:upd (upd H a (.iY L (.own a))) P (.rm (y++#[ź m.line,ź m.col,.ref a])) b=none:=e;rw[ä j,ä Y]at O;exact O
  have ff:∀b o u,H b=À (.iY o u)->B b=À (.iY o u):=λb o u e=>J b _ e (nP b _ e s!"q");have tt:∀b xs,H b=À (.tup xs)->B b=À (.tup xs):=λb xs e=>J b _ e (nP b _ e s!"q");have hf2:B p.objs.size=none:=by
   show upd _ _ _ _=_;rw[ä (λz=>by have:=Ô k;rw[<-z]at this;exact absurd (ð this r) (ŋ _)),ä (λz=>by rw[<-z]at F;exact absurd F (ŋ _))];exact I.ţ.fresh r
  let M:=PySem.W.kla_obj "<lambda>" (X.env.qual++"<lambda>") i body scope [] ((X.mg "__name__").getD .none) a N;have un:Un X.fs [] H B s.heap (p.push M):=
   ⟨λb o e n _ _=>g b o e (λz=>by rw[z,x]at n;cases n) M,λb o e n _ _=>⟨o.slots,g b o e (λz=>by rw[z,x]at n;cases n) M⟩,λb o e n _=>T b o e n,λb o e _=>by
     by_cases j:b=P
     ·exact⟨_,by rw[j];exact Ä _ htb⟩
     ·exact⟨o,g b o e j M⟩,tt,ff,λb ps' e=>by
     by_cases j:b=P
     ·subst j;rw[x]at e;cases e;exact⟨_,eP⟩
     ·exact⟨#[],by rw[J b _ e j];simp⟩⟩
  have ho:m5 X.prog X.w B (p.push M):=λb u e=>by
   by_cases j:b=P
   ·subst j;rw[eP]at e;cases e;exact Ä _ htb
   ·by_cases Y:b=a
    ·subst Y;rw[ec]at e;cases e;exact⟨Ä _ G,⟨_,Ä _ G⟩⟩
    ·have O:upd (upd H a (.iY L (.own a))) P (.rm (y++#[ź m.line,ź m.col,.ref a])) b=À u:=e;rw[ä j,ä Y]at O;refine(I.ţ b u O).oY (λd v hd q=>g d v q ?_ M) (λd q=>J d _ q (nP d _ q s!"q")) tt;rcases hd with z|z
     ·rw[z];exact j
     ·exact nP d _ z s!"q"
  exact⟨p.objs.size,B,rfl,I.un un ho,⟨_,_,_,by rw[<-hq];exact Ö _ rfl,a,L,vs,t,rfl,Ä _ G,hd,hv⟩,hQ B _ ⟨J,live,_,eP,D8 U ff ec hd hv⟩ hf2⟩
def Ta (K:È)(P:Addr)(q:Str)(t:TE):TE:=λf H Q=>t f H λx A=>∃(l:Addr) (b:Á Addr) (c:Á Int),x=.ref l/\A l=À (.lst (b.map V.ref))/\c.length=b.length/\(∀(j:Nat) (a:Addr) (d:Int),b[j]?=À a->c[j]?=À d->∃y r,gz K A a (y::.int d::r))/\b.length<64/\
 (∃e,A P=À (.rm e)/\xU A q e)/\∀B d (p:Á Nat),HN A B P q->B d=none->p.Perm (Ĉ b.length)->p.Pairwise (Ah (O:=oI) λi=>c.getD i 0)->Q (.ref d) (upd B d (.lst (p.map λi=>V.ref (b.getD i 0))))
def Kf (he:PE X e t)(hm:X.mg "sorted"=none)(hdp:X.A.depth<recursionLimit)
  (C:X.env.code=.ref c) (hC:Ŷ X.K c P=true) (hq:X.env.qual++"<lambda>"=q) (hcl:qp (B4 y) X.env=pure []) (J:T_ (BW y p0) X.env=([],[])) (hy:(y == ("__debug__":Str))=false)
  (hb:∀t pm U B,ko (oK "<lambda>" q (BW y p0) (F3 y p1 p2 p3) (B4 y) [] pm U B) ⟨[.ref t],[]⟩=pure [(y,.ref t)]) (hg:Gl X "sorted":=by rfl)
  (hs:Ì [e] X.env=s!"k"::Ì [] X.env:=by rfl) (G:ģ pos (Ì [e] X.env)=s!"k"::ģ pos (Ì [] X.env):=by rfl) (UN:(ģ pos (Ì [e] X.env)).any (·.1)=false:=by rfl) :
  PE X (.Call (.Name "sorted" p) [e] [⟨À (ĩ "key"),.Lambda (BW y p0) (F3 y p1 p2 p3) (B4 y) lp,j⟩] pos) (Ta X.K P q t):=by
 intro N s σ H Q I h;refine ah (pU I hg hm ũ ?_ s!"i" s!"i");refine ZH ?_ G UN;rw[G];refine fL (ak (he N s σ H _ I h) λu s1 zz=>?_);obtain⟨x,H1,I1,r1,l,g,ds,ex,hl,hdl,Yo,UJ,ht,hQ⟩:=zz;subst ex;cases (show u=Ñ l from r1);refine lK ?_;refine ZO ?_;refine ak (QZ (q:=q) (P:=P) (Q:=λf H'=>HN H1 H' P q) C hC hq hcl J I1 ⟨ht,λH' f k _=>k⟩) λv d ⟨f,E,ev,F,lf,O⟩=>?_;subst ev;refine ZP ?_;have nP:∀b o,H1 b=À o->(∀ps,o≠.rm ps)->b≠P:=λb o e n z=>by
  obtain⟨ps,hp,_⟩:=ht;rw[z,hp]at e;exact n ps (æ e).symm
 have hl2:E l=À (.lst (g.map V.ref)):=O.keep l _ hl (nP l _ hl s!"p");obtain⟨_,its,n,rel,hL⟩:=(show ş X.prog X.w E d.heap l (.lst (g.map V.ref))from F.ţ l _ hl2)
 have:=oy rel;subst this;refine ZI Co yV yT (ZM _ _) ?_;unfold cC.«sorted»;refine Ã (m:=FV "sorted" 1 1 _) (Ê ?_);refine Ã (collect_list (A:=X.A.in1) ⟨_,hL,rfl,n,rfl⟩ ?_ (by rw[É];exact ę (Ŕ (by lia))));refine Ã (gK ?_ (by rw[É];exact ę (Ŕ (by lia))));have up:∀b o,d.heap.get? b=À o->(((d.heap.push s!"r").update d.heap.objs.size (ú (·++(g.map Ñ).toArray))).push (đ "list" (g.map Ñ).toArray 0)).get? b=À o:=λb o e=>by
  refine Ä _ ?_;rw[í _ _ (Ĵ (Ô e))];exact Ä _ e
 have hD:d.heap.objs.size<((d.heap.push s!"r").update d.heap.objs.size (ú (·++(g.map Ñ).toArray))).objs.size:=by rw[w4,Ł];exact cM _
 have L:(((d.heap.push s!"r").update d.heap.objs.size (ú (·++(g.map Ñ).toArray))).push (đ "list" (g.map Ñ).toArray 0)).get? ((d.heap.push s!"r").update d.heap.objs.size (ú (·++(g.map Ñ).toArray))).objs.size=À (đ "list" (g.map Ñ).toArray 0):=Ö _ rfl;generalize ((d.heap.push s!"r").update d.heap.objs.size (ú (·++(g.map Ñ).toArray))).objs.size=D at *
 generalize ((d.heap.push s!"r").update d.heap.objs.size (ú (·++(g.map Ñ).toArray))).push (đ "list" (g.map Ñ).toArray 0)=h0 at *
 have nD:∀b o,d.heap.get? b=À o->b≠D:=λb o e=>ñ (oE (Ô e) hD);have T:(g.map Ñ).length=g.length:=É _;refine Ã (œ (wpAny_call_entry_kw FZ ⟨_,L,rfl⟩ CD ?_ (ZL _ _)));show Ù s!"b" X.A.in1.in1 (cC.«list.sort» ⟨[.ref D],[(ĩ "key",.ref f)]⟩) _ _ {d with heap:=h0};rw[ZN];refine Mm.DV (s:={d with heap:=h0}) (ns:=ds) L (by rw[hdl,T]) (by rw[T];exact UJ) (λi v k M hk h tk j=>?_) λp h' tk c q1 q2 q3 j ha=>⟨_,rfl,?_⟩
 ·have j:∀b o,d.heap.get? b=À o->h.get? b=À o:=λb o e=>j b o (nD b o e) (up b o e);rw[î]at M;cases ea:g[i]? with
  |none=>rw[ea]at M;cases M
  |some a=>
   rw[ea]at M;cases M;obtain⟨y',r,e⟩:=Yo i a k ea hk;have Y:gz X.K E a (y'::.int k::r):=by
    rcases e with(e|⟨o,e⟩)|e
    ·exact .inl (.inl (O.keep a _ e (nP a _ e s!"p")))
    ·exact .inl (.inr ⟨o,O.keep a _ e (nP a _ e s!"p")⟩)
    ·exact .inr e
   obtain⟨its,e1,⟨o,Y,e3,n,e4⟩,_⟩:=F.tuple Y;cases e1 with
   |cons e5 Z=>
    cases Z with
    |cons Z e7=>
     obtain⟨t',rfl⟩:=Z;obtain⟨pm,U,B,f1,f2⟩:=lf;exact Ji (s:={d with heap:=h,toks:=tk}) ⟨pm,U,B,j _ _ f1,f2.keeps j⟩ (F.nolimit.keeps j) hdp hy ⟨o,j _ _ Y,e3,n,e4⟩ rfl (hb a) λh' Zm k'=>⟨h',Zm,t',rfl,rfl,k'⟩
 ·have j:∀b o,d.heap.get? b=À o->h'.get? b=À o:=λb o e=>j b o (nD b o e) (up b o e);rw[T]at q1 q2 q3;have pr:p.toList.Perm (Ĉ g.length):=by simpa using en.mp q3
  have pl:p.toList.length=g.length:=by rw[pr.length_eq,dz]
  have plt:∀i∈p.toList,i<g.length:=λi hi=>by simpa using pr.mem_iff.mp hi
  have hn:E D=none:=F.ţ.fresh (ę hD);refine Ê ⟨_,rfl,.ref D,_,F.laid (a:=D) (o:=.lst (p.toList.map λi=>V.ref (g.getD i 0))) (t':=tk) j (ę hD) ⟨by rw[É,pl];exact ę (Ŕ (by lia)),p.toList.map λi=>(g.map Ñ).getD i ó,c,?_,ha⟩,rfl,hQ E D p.toList O hn pr ?_⟩
  ·exact Mm.sU plt
  ·exact Mm.KJ (by rw[pl];exact q1)
end
end L2
namespace L2
open PySem PySem.Spec PyProof.Rows
def El (ts:Á Addr)(H:Hp):Prop:=(∀P∈ts,H P=À (.rm #[]))/\∀b,b∉ts->H b=none∨∃o xs,H b=À (.iY o (.lst xs))
def GB {K:È}{c:Ó} 
  (KX:K.In c.heap) (X:∀q∈ts,c.heap.get? q=À (dF #[])) (hTC:∀q∈ts,isCodeTable c.heap q) (hTK:∀q∈ts,K.lookup q=none)
  (J:c.heap.Ns mainGlobals mg) (f:c.heap.Ns m3 mb) (hbb:∀x:Str,x≠"__name__"->mb x=ĥ x) (I:c.heap.NoLimit) (hdg:c.heap.NoDigits)
  (hbm:∃bm t,mg "__builtins__"=À (.ref bm)/\bm≠m3/\c.heap.get? bm=À t/\t.cls=.type "module"/\t.dict=À m3/\t.data=.plain) (hg:c.gens=#[])
  (G:c.heap.get? a=À {cls:=.type "list",data:=.seq vs.toArray}) (hi:uK vs ns) (hl:ns.length<=sizeLine) (hr:cP k uR)
  (F:∀base:Heap,K.In base->base.Ns mainGlobals mg->ic P w K mg base CX k fa fd [x] sp) (y:∀s u,uH s fd ⟨[u],[]⟩ [(x,u)])
  (hsp:∀H:Hp,El ts H->fQ K H a (ns.map V.int)->sp [.ref a] H (λv _=>v=.bl true) λ_ _ _=>False)
  (hCX:∀H e s',CX [] H c (λ_ _ _=>False) e s'->False) :
  e_ (Ý P w) uR (.call (.ref fa) ⟨[.ref a],[]⟩) (λr s'=>r=.ok (.ret (.bool true))/\OldK c.heap s'.heap/\s'.os=c.os/\og s'.gens) c:=by
 have rv:=yH hi;have M:=hi.length;have N:a∉ts:=λz=>by
  have e:=X a z;rw[G]at e;cases e
 have l:∀H:Hp,El ts H->fQ K H a (ns.map V.int)->m5 P w H c.heap->(∀b,H b≠none->b=a∨b∈ts)->(H a≠none->K.lookup a=none)->
   e_ (Ý P w) uR (.call (.ref fa) ⟨[.ref a],[]⟩) (λr s'=>r=.ok (.ret (.bool true))/\OldK c.heap s'.heap/\s'.os=c.os/\og s'.gens) c:=by
  intro H hO hS L hA hK;have base_of:∀{b:Addr}{o:Obj},c.heap.get? b=À o->H b=none->(zp c.heap H).get? b=À o:=λe n=>IY e n;have O:∀{b:Addr}{o:Obj},c.heap.get? b=À o->o≠{cls:=.type "list",data:=.seq vs.toArray}->o≠dF #[]->H b=none:=λ{b o} e n1 n2=>by
   cases q:H b with
   |none=>rfl
   |some u=>
    rcases hA b (by rw[q];simp)with e'|e'
    ·subst e';rw[G]at e;exact(n1 (æ e).symm).elim
    ·rw[X b e']at e;exact(n2 (æ e).symm).elim
  have i:∀{b:Addr}{m:Str->Ë Value},c.heap.Ns b m->(zp c.heap H).Ns b m:=λ{b m} ⟨o,es,ep,e,d,r⟩=>⟨o,es,ep,base_of e (O e (λz=>by rw[z]at d;cases d) λz=>by rw[z]at d;cases d),d,r⟩
  have E:K.In (zp c.heap H):=λb o e=>base_of (KX b o e) (by
   cases q:H b with
   |none=>rfl
   |some u=>
    rcases hA b (by rw[q];simp)with e'|e'
    ·subst e';rw[hK (by rw[q];simp)]at e;cases e
    ·rw[hTK b e']at e;cases e)
  have hM:Mod K mg (zp c.heap H):=⟨E,i J,⟨mb,i f,hbb⟩,let ⟨mc,Y,Z⟩:=I;⟨mc,i Y,Z⟩,let ⟨mc,Y,Z⟩:=hdg;⟨mc,i Y,Z⟩,
   let ⟨bm,t,b1,b2,b3,b4,b5,C⟩:=hbm;⟨bm,t,b1,b2,base_of b3 (O b3 (λz=>by rw[z]at C;cases C) λz=>by rw[z]at C;cases C),b4,b5,C⟩⟩
  have e0:CG P w K mg (zp c.heap H) uR [] c H:=⟨rfl,hM,λb o e=>NA e,kn (Gq _ _),trivial,λb f=>absurd (show b∈([]:Á Addr)from f) (by simp),L,.of_eq hg⟩
  refine qq ((F _ E (i J)).run uR [] c H ⟨[.ref a],[]⟩ [.ref a] [.ref a] _ _ hr e0 (y c (.ref a)) (.cons rfl .nil) (hsp H hO hS)) λr s' h=>?_;cases r with
  |error e=>exact(hCX H e s' h).elim
  |ok fl=>
   cases fl with
   |next=>exact aF h
   |brk=>exact aF h
   |cont=>exact aF h
   |ret u=>
    obtain⟨v,H',os,D,un,p,r',q⟩:=h;have q':v=.bl true:=q;subst q';obtain rfl:u=fN true:=r';have Q:∀b o,c.heap.get? b=À o->s'.heap.get? b=À o∨(b∈ts/\o=dF #[]/\∃g,s'.heap.get? b=À (dF g)):=λb o e=>by
     by_cases f:b∈ts
     ·refine .inr ⟨f,?_,?_⟩
      ·rw[X b f]at e;exact(æ e).symm
      ·obtain⟨g,z⟩:=un.wK b _ (hO.1 b f);exact⟨_,p b _ z⟩
     ·rcases hO.2 b f with z|⟨t,xs,z⟩
      ·exact .inl (un.keep b o e z (by intro z;exact absurd (show b∈([]:Á Addr)from z) (by simp)) (by simp))
      ·have z2:=un.jB b t _ z;obtain⟨e1,_⟩:=L b _ z;obtain⟨e2,_⟩:=p b _ z2;rw[e]at e1;cases e1;exact .inl e2
    refine⟨rfl,⟨λb o e=>?_,λb o e=>?_⟩,os,D⟩
    ·rcases Q b o e with z|⟨f,rfl,g,z⟩
     ·exact .inl z
     ·exact .inr (.inl ⟨hTC b f,rfl,#[],g,rfl,by rw[z];simp⟩)
    ·rcases Q b o e with z|⟨_,_,g,z⟩
     ·exact⟨_,z⟩
     ·exact⟨_,z⟩
 have T:∀H:Hp,(∀P∈ts,H P=À (.rm #[]))->∀b∈ts,∀u,H b=À u->ş P w H c.heap b u:=λH h b f u e=>by
  rw[h b f]at e;cases e;exact X b f
 cases hk:K.lookup a with
 |some o=>
  have e:=KX a o hk;rw[G]at e;cases e;refine l (λb=>if b∈ts then À (.rm #[])else none) ⟨λq A=>Ò A,λb f=>.inl (Ø f)⟩ (.inr ⟨_,vs.toArray,_,hk,rfl,rfl,rfl,by rw[Ú,M];exact hl,by simpa using rv⟩) (λb u z=>?_) (λb z=>?_) λz=>absurd (Ø N) z
  ·by_cases f:b∈ts
   ·exact T _ (λq A=>Ò A) b f u z
   ·have U:=(Ø f).symm.trans z;cases U
  ·by_cases f:b∈ts
   ·exact .inr f
   ·exact absurd (Ø f) z
 |none=>
  have B:∀b,b∉ts->(λb=>if b∈ts then À (HO.rm #[])else if b=a then À (HO.iY {cls:=.type "list",data:=.seq vs.toArray} (.lst (ns.map V.int)))else none) b=if b=a then À (HO.iY {cls:=.type "list",data:=.seq vs.toArray} (.lst (ns.map V.int)))else none:=λb f=>Ø f
  refine l (λb=>if b∈ts then À (.rm #[])else if b=a then À (.iY {cls:=.type "list",data:=.seq vs.toArray} (.lst (ns.map V.int)))else none) ⟨λq A=>Ò A,λb j=>?_⟩ (.inl (.inr ⟨{cls:=.type "list",data:=.seq vs.toArray},(B a N).trans (Ò rfl)⟩)) (λb u z=>?_) (λb z=>?_) λ_=>hk
  ·by_cases f:b=a
   ·exact .inr ⟨_,_,(B b j).trans (Ò f)⟩
   ·exact .inl ((B b j).trans (Ø f))
  ·by_cases j:b∈ts
   ·exact T _ (λq A=>Ò A) b j u z
   ·by_cases f:b=a
    ·have U:=((B b j).trans (Ò f)).symm.trans z;cases U;subst f;exact⟨G,by rw[É];exact hl,vs,_,rv,G⟩
    ·have U:=((B b j).trans (Ø f)).symm.trans z;cases U
  ·by_cases j:b∈ts
   ·exact .inr j
   ·by_cases f:b=a
    ·exact .inl f
    ·exact absurd ((B b j).trans (Ø f)) z
def K7 {l:nr}{j:Á Str}{M:(Str->Ë Value)->Heap->Prop}{A:ī->Heap->Prop}{d:DefRec}{K:Params->È}{CX:ī->HJ}{sp:ī->Sp}(ts:Á Addr)
  (hn:l.most=À n) (I:n<=sizeLine) (D:d.params.defaults=[]) (hr:cP k uR)
  (X:∀(w:ī) (h:Heap),A w h->(K w.params).In h) (U:∀(w:ī) (h:Heap),A w h->∀q∈ts,h.get? q=À (dF #[]))
  (z:∀(w:ī) (h:Heap),A w h->∀q∈ts,isCodeTable h q) (C:∀(w:ī) (h:Heap),(K w.params).In h->∀q∈ts,(K w.params).lookup q=none)
  (F:∀(w:ī) (mg:Str->Ë Value) (r:Addr) (h:Heap),(K w.params).In h->h.Ns mainGlobals mg->mg d.name=À (.ref r)->
   ∃t:eo,(∀(s:Ó) (u:Value),uH s t ⟨[u],[]⟩ [(x,u)])/\
    ∀base:Heap,(K w.params).In base->base.Ns mainGlobals mg->ic l.prog w (K w.params) mg base (CX w) k r t [x] (sp w))
  (J:∀(w:ī) (H:Hp) (a:Addr) (ns:Á Int),ns.length<=n->El ts H->fQ (K w.params) H a (ns.map V.int)->sp w [.ref a] H (λv _=>v=.bl true) λ_ _ _=>False)
  (y:∀(w:ī) (H:Hp) (s:Ó) (e:Value) (s':Ó),CX w [] H s (λ_ _ _=>False) e s'->False) :
  OX q j M A l.row.toRowW d [] (λf vs=>HD f vs):=by
 refine Att.A0 hn D λw L p mg mb r o pm cd N a vs ns G Y ho hd hcd E m i c hg=>?_;have B:=X w _ Y;obtain⟨t,Z,O⟩:=F w mg r _ B G.T.g E;exact GB B (U w _ Y) (z w _ Y) (C w _ B) G.T.g G.T.b G.T.builtins G.T.nolimit G.T.nodigits G.T.bmain hg m i (ĺ c I) hr O Z (λH P Q=>J w H a ns c P Q) λH e s'=>y w H p e s'
end L2
namespace Mm
open PySem L2
def tabAt (i:Nat)(q:Str):AO->Bool
 |.tab j r=>decide (j=i/\r=q)
 |_=>false
def Ha (h:tabAt i q o=true):o=.tab i q:=by
 cases o with
 |tab j r=>have h:=š h;rw[h.1,h.2]
 |_=>cases h
def ur:AV->Int
 |.tup (_::.int d::_)=>d
 |_=>0
def se:AV->Bool
 |.tup (_::.int _::_)=>true
 |_=>false
noncomputable def Po (ds:Á Int)(i j:Nat):Bool:=decide (ds.getD i 0<ds.getD j 0∨ds.getD i 0=ds.getD j 0/\i<=j)
def Bw (ds:Á Int):Á Nat:=(Ĉ ds.length).mergeSort (Po ds)
def vO (ds:Á Int):(Bw ds).Perm (Ĉ ds.length):=jT ..
def Dd (ds:Á Int):(Bw ds).Pairwise λi j=>Po ds i j=true:=
 nj (le:=Po ds) (λa b c h k=>by unfold Po at *;simp only[Š]at *;lia) (λa b=>by unfold Po;simp only[fK,Š];lia) _
def Bx {p:Á Nat}(pr:p.Perm (Ĉ ds.length)) (h:p.Pairwise (Ah (O:=oI) λi=>ds.getD i 0)):p=Bw ds:=
 kj (le:=Po ds) (λa b h k=>by unfold Po at *;simp only[Š]at *;lia) (pr.trans (vO ds).symm) (h.imp λ{i j} h=>by
  unfold Po;rcases h with h|⟨h,k⟩
  ·exact Ă (.inl (š (show decide (ds.getD i 0<ds.getD j 0)=true from h)))
  ·exact Ă (.inr ⟨h,ę k⟩)) (Dd ds)
def pick (l:Á AV)(p:Á Nat):Á AV:=p.map λi=>l.getD i .Ĕ
def r8 (i:Nat)(q:Str)(m:Ev):hR:=λa s=>(m a s).bind λv b=>match v with
 |.ref k=>need (ù b k) λl=>if l.all se=true/\l.length<64/\b.any (tabAt i q)=true then .ok (pick l (Bw (l.map ur))) b else .bad
 |_=>.bad
section
variable {T:Tx}{XE:iW}{X:Cx}{pos:kR}
theorem n6 {ρ:Á Addr}{H:Hp}:∀{l:Á AV}{vs:Á V},(∀v∈l,∃xs,v=.tup xs)->ı T ρ H l vs->∃as:Á Addr,vs=as.map V.ref/\as.length=l.length/\∀(j:Nat) (a:Addr) (xs:Á AV),as[j]?=À a->l[j]?=À (.tup xs)->∃ws,gz T.K H a ws/\ı T ρ H xs ws
 |[],vs,_,k=>by
  cases k.nil_inv;exact⟨[],rfl,rfl,λj a d e=>by simp at e⟩
 |v::l,vs,h,k=>by
  obtain⟨x,q,rfl,o,p⟩:=k.cons_inv;obtain⟨as,rfl,g,i⟩:=n6 (λw hw=>h w (.tail _ hw)) p;obtain⟨xs,rfl⟩:=h v (.head _);obtain⟨a,ws,rfl,m,n⟩:=o.cH;refine⟨a::as,rfl,by simp[g],λj b d c f=>?_⟩;cases j with
  |zero=>simp at c f;subst c f;exact⟨ws,m,n⟩
  |succ j=>exact i j b d (by simpa using c) (by simpa using f)
theorem ı.pick {as:Á Addr}(k:ı T ρ H l (as.map V.ref)):∀{p:Á Nat},(∀i∈p,i<as.length)->ı T ρ H (pick l p) (p.map λi=>V.ref (as.getD i 0))
 |[],_=>.nil
 |i::r,c=>by
  have a:=c i (.head _);have hl:i<l.length:=by rw[k.length,É];exact a
  refine .cons ?_ (ı.pick k λj e=>c j (.tail _ e));obtain⟨x,b,d⟩:=ı.get k (Å hl);rw[î,Å a]at b;cases b;show VR T ρ H (l.getD i .Ĕ) (.ref (as.getD i 0));rw[Ĥ,Ĥ,Å hl,Å a];exact d
def C9 (h:se v=true):∃y d r,v=.tup (y::.int d::r):=by
 unfold se at h;split at h
 ·exact⟨_,_,_,rfl⟩
 ·cases h
def JA (hm:X.mg "sorted"=none)(Y:X.A.depth<recursionLimit)(w:X.env.code=.ref c)(hC:Ŷ T.K c (T.cl i)=true) (h:PE X e s!"x")
  (hK:X.K=T.K:=by rfl) (hq:X.env.qual++"<lambda>"=q:=by rfl) (U:qp (B4 y) X.env=pure []:=by rfl) (E:T_ (BW y p0) X.env=([],[]):=by rfl) (hy:(y == ("__debug__":Str))=false:=by decide)
  (L:∀t pm cv M,ko (oK "<lambda>" q (BW y p0) (F3 y p1 p2 p3) (B4 y) [] pm cv M) ⟨[.ref t],[]⟩=pure [(y,.ref t)]:=by intros;rfl) (hg:Gl X "sorted":=by rfl)
  (hs:Ì [e] X.env=s!"k"::Ì [] X.env:=by rfl) (O:ģ pos (Ì [e] X.env)=s!"k"::ģ pos (Ì [] X.env):=by rfl) (UN:(ģ pos (Ì [e] X.env)).any (·.1)=false:=by rfl) :
  PE X (.Call (.Name "sorted" p) [e] [⟨À (ĩ "key"),.Lambda (BW y p0) (F3 y p1 p2 p3) (B4 y) lp,kp⟩] pos) (tL T XE (r8 i q m)):=
 PE.imp (Kf (P:=T.cl i) (q:=q) h hm Y w (by rw[hK];exact hC) hq U E hy L hg hs O UN) λσ H Q zz=>Ō zz λρ env s hs he ho=>step hs he ho λv s1 g H1 x _ u1 f X_ Zo F=>by
  cases v with
  |ref k=>
   obtain⟨l,e1,ho2⟩:=F.ö;obtain⟨⟨hd,hl,ht⟩,G⟩:=ho2.Ř;obtain⟨a,vs,rfl,ea,h1,kk⟩:=f.ef (ċ e1) Zo;have hd:∀v∈l,∃y d r,v=.tup (y::.int d::r):=λv hv=>C9 (Ā.mp hd v hv);obtain⟨as,rfl,I,Yo⟩:=n6 (λv hv=>let ⟨y,d,r,z⟩:=hd v hv;⟨_,z⟩) kk;obtain⟨o,ho,hot⟩:=w8.mp ht;cases Ha hot;obtain⟨j,B,ej⟩:=ļ ho;obtain⟨P,J,rfl,ps,h2,h3⟩:=f.obj j _ (by rw[Å B,ej]);refine⟨a,as,l.map ur,rfl,h1,by rw[É,I],λj b d g1 g2=>?_,by rw[I];exact hl,⟨ps,h2,h3⟩,λH2 d p C hd pr Y4=>?_⟩
   ·have B:j<l.length:=by rw[<-I];exact(Æ.mp g1).1
    obtain⟨y,d',r,z⟩:=hd l[j] (e9 B);obtain⟨ws,f1,f2⟩:=Yo j b _ g1 (by rw[Å B,z]);obtain⟨y',ys,rfl,_,f3⟩:=f2.cons_inv;obtain⟨z',zs,rfl,f4,_⟩:=f3.cons_inv;rw[f4.int_inv]at f1;rw[î,Å B,z]at g2;cases g2;exact⟨y',zs,by rw[hK];exact f1⟩
   have nP:∀b o,H1 b=À o->o≠.rm ps->b≠T.cl i:=λb o e n z=>by subst z;rw[h2]at e;exact n (æ e).symm
   have mP:T.cl i∈g:=ý J;have up:Up g H1 g H2:=⟨⟨bc,λb xs e=>C.keep b _ e (nP b _ e s!"q"),λb o u e=>C.keep b _ e (nP b _ e s!"q")⟩,λb o e n=>⟨C.keep b o e λz=>n (z▸mP),n⟩,C.live⟩
   have S2:SR T g s1 H2:=⟨f.nd,f.len,λi' o' N=>by
    obtain⟨b,D,q3⟩:=f.obj i' o' N;by_cases L:b=T.cl i
    ·subst L;have Z:i'=j:=by
      have l1:=(Æ.mp D).1;have l2:=(Æ.mp J).1;rw[Å l1]at D;rw[Å l2]at J;have e4:=(æ D).trans (æ J).symm;have pw:=AD.mp f.nd;rcases Nat.lt_trichotomy i' j with z|z|z
      ·exact(pw _ _ l1 l2 z e4).elim
      ·exact z
      ·exact(pw _ _ l2 l1 z e4.symm).elim
     subst Z;rw[Å B,ej]at N;cases N;exact⟨_,D,rfl,C.tab⟩
    ·obtain⟨u,eu⟩:=q3.ex;exact⟨b,D,q3.up up.toGr ((C.keep b u eu L).trans eu.symm)⟩⟩
   rw[<-Bx (ds:=l.map ur) (by rw[É,<-I];exact pr) Y4]at G;exact(Out.up up G).lst S2 hd (ı.up up (ı.pick kk λi hi=>by simpa using pr.mem_iff.mp hi))
  |_=>exact F.elim
end
end Mm
namespace Ro
open PySem L2 Mm
def dlt (r:cP k A):A.depth<recursionLimit:=by have:=r.dp;lia
structure TB (T:Tx)(mg:Str->Ë Value)(x:Str)(st:Stmt)(i:Nat):Prop where
 ex:∃f fd c,HL T.K x x st f fd/\mg x=À (.ref f)/\fd.code=.ref c/\Ŷ T.K c (T.cl i)=true
section
variable {P:ď}{w:ī}{T:Tx}{mg:Str->Ë Value}{base:Heap}
def IH (N:Á Str)(D:TB T mg x st i)(S:jc N (N.take n) (ĝ st))
  (G:∀kV g C y d ct us,us.length=(N.take n).length->ko (Ŏ x x (cE st) (aR st) (ĝ st) .none kV g C y d ct) ⟨us,[]⟩=pure ((N.take n).zip us)) (I:(N.take n).length=n)
  (h:∀f c A outer s H E,Ŷ T.K c (T.cl i)=true->cP k (A.deeper (aP x (ĝ st) s.heap.objs.size f (.ref c)))->N.Nodup->Ls T (m8 (rK P w) P w T.K mg base N x (ĝ st) f (.ref c) A outer s H E) (oQ T E)->nB (m8 (rK P w) P w T.K mg base N x (ĝ st) f (.ref c) A outer s H E) (aR st) (tS T (oQ T E) body)) :
  b_ P w T mg base x n (k+1) (bH N.length body):=by
 obtain⟨f,z,c,F,m,q,hC⟩:=D.ex;have j:ic P w T.K mg base (rK P w) (k+1) f z (N.take n) (Hx T (N.take n).length (bH N.length body)):=by
  obtain⟨oc,od,kV,g,C,y,d,ct,L,rfl,J,r⟩:=F.ex;have q:d=.ref c:=q;subst q;refine O9 J r S (λO H Q E h=>h.1) λA outer s H O Q E hr U=>?_;obtain⟨hl,ρ,l,b,t,M,a⟩:=U;refine⟨_,h f c A outer s H E hC hr S.nd BE,ρ,_,l,t,Bj N M,?_⟩;unfold bH at a;cases e:body (b.map À++â (N.length-b.length) none) l with
  |nx Y p=>simp only[e]at a;exact λo B X u t Z=>a o B .Ĕ u t (wN (T:=T) (ρ:=o) (H:=B))
  |rt v p=>simp only[e]at a;exact a
  |ex c p=>simp only[e]at a;exact a
  |bk v p=>simp only[e]at a;exact a.elim
  |ct v p=>simp only[e]at a;exact a.elim
  |bad=>simp only[e]at a;exact a.elim
 rw[I]at j;exact⟨f,z,_,j,F.binds G,m,F.kp⟩
def spT (K:È)(ts:Á Addr)(c:Á (Nat×Str)) (b:Á AV->S->R AV):Sp:=λa H Q E=>a.length=1/\∀cl,(c.map λp=>cl p.1)=ts->Hx ⟨K,cl⟩ 1 b a H Q E
def tabS (a:Á (Nat×Str)):S:=a.map λp=>.tab p.1 p.2
def Ov {ts:Á Addr}{ns:Á Int}(nd:ts.Nodup)(hl:(l [.sq (ns.map AV.int)] (tabS d)).wp λv _=>v=.bl true) (c:El ts H)(n:fQ K H a (ns.map V.int)):spT K ts d l [.ref a] H (λv _=>v=.bl true) E:=by
 have m:LK K H a (ns.map V.int):=by
  rcases n with h|h
  ·rcases h with h|h
   ·by_cases k:a∈ts
    ·rw[c.1 a k]at h;cases h
    ·rcases c.2 a k with z|⟨o,xs,z⟩
     ·rw[z]at h;cases h
     ·rw[z]at h;cases h
   ·exact .inl h
  ·exact .inr h
 refine⟨rfl,λcl j=>⟨rfl,ts,tabS d,[.sq (ns.map AV.int)],⟨nd,by rw[<-j];simp[tabS],λi o e=>?_⟩,?_,?_⟩⟩
 ·unfold tabS at e;rw[î]at e;cases q:d[i]? with
  |none=>rw[q]at e;cases e
  |some p=>
   rw[q]at e;cases e;have g:ts[i]?=À (cl p.1):=by rw[<-j,î,q];rfl
   exact⟨_,g,rfl,#[],c.1 _ (ý g),trivial,λpos r z=>by cases z⟩
 ·unfold ı;refine⟨_,_,rfl,?_,by unfold ı;rfl⟩;unfold VR;exact⟨a,_,rfl,m,ı.map (λi=>a9) ns⟩
 ·obtain⟨v,s',e,rfl⟩:=hl.get;rw[e];intro f A x _ _ b;have b:VR ⟨K,cl⟩ f A (.bl true) x:=b;unfold VR at b;exact b
def MC {l:nr}{K:È}{i:Á (Nat×Str)}(e:mg "law"=À (.ref n)) (j:(i.map λp=>cl p.1)=ts) (D:Df ⟨K,cl⟩ mg "law" st)
  (q:∀s v kV b g d a ct,uH s (Ŏ "law" "law" (cE st) (aR st) (ĝ st) .none kV b g d a ct) ⟨[v],[]⟩ [("_law_script",v)])
  (F:∀base f c,HL K "law" "law" st f c->ic l.prog w K mg base (rK l.prog w) k f c ["_law_script"] (Hx ⟨K,cl⟩ 1 o)) :
  ∃c:eo,(∀s v,uH s c ⟨[v],[]⟩ [("_law_script",v)])/\∀base:Heap,K.In base->base.Ns mainGlobals mg->ic l.prog w K mg base (rK l.prog w) k n c ["_law_script"] (spT K ts i o):=by
 obtain⟨f,c,G,m⟩:=D.ex;cases m.symm.trans e;refine⟨c,?_,λbase _ _=>(F base _ _ G).imp λz H Q E h=>h.2 cl j⟩;obtain⟨x,y,kV,b,g,d,a,ct,t,rfl,u,r⟩:=G.ex;exact λs v=>q s v kV b g d a ct
end
def Wq {l:nr}{b:Á Str}{C:(Str->Ë Value)->Heap->Prop}{A:ī->Heap->Prop}{d:DefRec}{K:Params->È}(ts:Á Addr)(p:Á (Nat×Str)) (g:Á AV->S->R AV)(k:Nat)(nd:ts.Nodup)(G:cP k uR)(hl:∀ns:Á Int,(g [.sq (ns.map AV.int)] (tabS p)).wp λv _=>v=.bl true) (I:l.most=À 63)(o:d.params.defaults=[])
  (m:∀(w:ī) (h:Heap),A w h->(K w.params).In h) (y:∀(w:ī) (h:Heap),A w h->∀q∈ts,h.get? q=À (dF #[]))
  (i:∀(w:ī) (h:Heap),(K w.params).In h->∀q∈ts,∃c,Ŷ (K w.params) c q=true) (j:∀(w:ī) (h:Heap),(K w.params).In h->∀q∈ts,(K w.params).lookup q=none)
  (F:∀(w:ī) (mg:Str->Ë Value) (r:Addr) (h:Heap),(K w.params).In h->h.Ns mainGlobals mg->mg d.name=À (.ref r)->
   ∃t:eo,(∀(s:Ó) (u:Value),uH s t ⟨[u],[]⟩ [("_law_script",u)])/\∀base:Heap,(K w.params).In base->base.Ns mainGlobals mg->ic l.prog w (K w.params) mg base (rK l.prog w) k r t ["_law_script"] (spT (K w.params) ts p g)) :
  OX q b C A l.row.toRowW d [] (λf vs=>HD f vs):=
 L2.K7 ts (n:=63) (x:="_law_script") (CX:=λw=>rK l.prog w) (sp:=λw=>spT (K w.params) ts p g) I s!"i" o G m y (λw h Y q B=>by
  obtain⟨c,e⟩:=i w h (m w h Y) q B;exact((Eg (m w h Y) e).tab (y w h Y q B)).isCodeTable) j F (λw H a ns _ D E=>Ov nd (hl ns) D E) λ_ _ _ _ _ ⟨_,_,_,_,_,_,_,_,_,_,z⟩=>z
end Ro
namespace Mm
open PySem L2
section
variable {T:Tx}{XE:iW}{X:Cx}{pos:kR}
def set_dict (hu:X.A.units+1<cLine):Qc X (λo i v H Q=>∃a H',o=.ref a/\xq H a i v H'/\Q H'):=by
 rintro b s j H o i v c f u Q I e d rv ⟨a,H',rfl,g,q⟩;obtain rfl:c=Ñ a:=e;exact yb hu I g d rv λh B=>⟨H',B,q⟩
def vG (o i:Ev):Mt:=λv c s=>(o c s).aQ λa d=>(i c d).aQ λb e=>putD v a b c e
def Nh (hu:X.A.units+1<cLine)(r:PE X o s!"x") (Y:PE X i (tE T XE n))
  (P:∀v,k9 (.Subscript o i pos) X.env v=(do
   let h <-c8 [v] (Ė o X.env);let w <-c8 [v,h] (Ė i X.env)
   jX pos
   c8 [v,h,w] (L8 h w v)
   release [v,h,w] []):=by intro _;rfl):PG X (.Subscript o i pos) (tT T XE (vG m n)):=
 PG.imp (Kg r Y (set_dict hu) P) λx σ H Q ⟨ρ,O,s,v,Z,U,E,r⟩=>by
  refine dm Z U r λa s1 OO H1 y _ u1 D l f t=>dm D l t λb s2 d B z _ L e p g c=>?_;have f:VR T d B a y:=VR.up L f;have g:VR T d B b z:=g;have E:VR T d B v x:=VR.up (u1.trans L) E;unfold putD at c;split at c
  ·split at c
   ·rename_i i C k M N;obtain⟨hl,u⟩:=c.Ř;obtain⟨a,I,rfl,F,G,J,q2⟩:=e.A9 (j9 M) f;have q:C.length=I.length:=by have:=ğ cb J;simpa using this
    refine⟨a,_,rfl,by rw[hY N g];exact xq.k G (by rw[<-q];exact hl),?_⟩;obtain⟨p1,p2⟩:=u7 k E J q2;have j:Up d B d (upd B a (.dK (putK I k x))):=e.t_ F G s!"p" (λ_ _ z=>nomatch z);exact u d _ σ j (e.set F j ⟨_,ă,p1,p2.up j⟩) (p.up j)
   ·exact c.elim
  ·exact c.elim
def NH:nA (vG o i):=λv d s=>by
 unfold vG;cases o d s with
 |bad=>exact .inr (.inr rfl)
 |ex c e=>exact .inr (.inl ⟨_,_,rfl⟩)
 |ok a e=>
  simp only[eY];cases i d e with
  |bad=>exact .inr (.inr rfl)
  |ex c e=>exact .inr (.inl ⟨_,_,rfl⟩)
  |ok b f=>
   simp only[eY];unfold putD;split
   ·split
    ·split
     ·exact .inl ⟨_,_,rfl⟩
     ·exact .inr (.inr rfl)
    ·exact .inr (.inr rfl)
   ·exact .inr (.inr rfl)
def D7:eS (.Dict k v p) (À (.Name x q)) n env=pure false:=rfl
def Nu (b:X.N.Nodup)(c:PE X (.Dict k v p) (tE T XE (gD l))) (e:X.N[i]?=À x)(f:Loc X.env.scope x)(d:X.fn x=true∨X.env.scope.names.lookup x=À .local) :
  PS X (.Assign [.Name x a] (.Dict k v p) pos) (tS T XE (ņ i (gD l))):=JH b c e f D7 d
end
end Mm
namespace Ro
open PySem L2 Mm
def CU (l t:Á Addr)(i:Nat):Addr:=if i<20 then l.getD i 0 else t.getD (i-20) 0
def Vo {K:È}{C:Addr}{nm:Str}{bm:Á Value}{b:Ë Value}(x:jq K C nm bm b)(ga:Ą K (.ref C) "__getattribute__"=À (À (.builtin "BaseException.__getattribute__"))) (gx:Ą K (.ref C) "__getattr__"=À none) (ca:Ą K (.ref C) "__class__"=À (À s!"s"))
  (cn:gv K s!"s" "__get__"=À (À (.builtin "getset_descriptor.__get__"))) (ct:i9 K s!"s"=À true):Mb K C:=by
 have a:∀{l:Á Value},qt K l->l.contains (.type "BaseException")=true/\l.contains (.type "object")=true:=by
  intro l t;induction t with
  |base=>exact⟨by decide+kernel,by decide+kernel⟩
  |own _ _ _ _ c=>rw[ő,ő,c.1,c.2];exact⟨e6 _,e6 _⟩
 refine {ga:=ga,gx:=gx,sb:=?_,ca:=ca,cn:=cn,ct:=ct,cm:=?_,cl:=x.Pg}
 ·rw[x.mro,ő,(a x.tail).1,e6]
 ·show yM K (.ref C) (.type "object")=À true;rw[x.mro,ő,(a x.tail).2,e6]
structure y6 (K:È)(mg:Str->Ë Value)(C:Addr)(nm:Str)(bm:Á Value)(Cr:Ë Value):Prop where
 tl:qt K bm->jq K C nm bm Cr/\(Cr=none->qt K (.ref C::bm))
 is:jq K C nm bm Cr->Mb K C
 kp:ĸ K (.ref C)=true
 gl:mg nm=À (.ref C)
def Wu {K:È}{h:Heap}{mg:Str->Ë Value}{C N:Addr}{nm q:Str}{bm bs sub:Á Value}{sn:Á Str}{ab:Bool}{col:Ë Bool}{dd nd:Ë Addr}{f g kc j m b:Ë Value}{o:Value}{c:Ē Av}{ep:Nat}{d:Ē (Ë Value)}(X:K.In h)(G:h.Ns mainGlobals mg)
  (a:Đ K mainGlobals nm=À (À (.ref C))) (l:K.lookup C=À (excClassObj nm q C N bs bm true sn sub ab col dd f g kc j m "ValueError.__new__")) (n:K.lookup N=À ⟨o,nd,.dict c ep,d⟩) (s:KP c=true) (k:ĸ K (.ref C)=true)
  (ga:Ą K (.ref C) "__getattribute__"=À (À (.builtin "BaseException.__getattribute__"))) (gx:Ą K (.ref C) "__getattr__"=À none) (ca:Ą K (.ref C) "__class__"=À (À s!"s"))
  (cn:gv K s!"s" "__get__"=À (À (.builtin "getset_descriptor.__get__"))) (ct:i9 K s!"s"=À true) (i:nsFind c "__init__"=b):y6 K mg C nm bm b:=
 ⟨λt=>⟨⟨⟨_,_,_,_,_,_,_,_,_,_,_,_,_,_,l,⟨_,_,_,_,_,n,s,λ_=>rfl⟩,i⟩,t⟩,λe=>.own l ⟨_,_,_,_,_,n,s,λ_=>rfl⟩ (i.trans e) t⟩,λx=>Vo x ga gx ca cn ct,k,ia X G a⟩
def Wv {K:È}{mg:Str->Ë Value}{b e f g j k l m o:Addr}{r t:Á Addr}{M N:Ë Value}(x0:y6 K mg b "RoyalError" uU none)(x1:y6 K mg e "BadFraction" (.ref b::uU) none) (x2:y6 K mg f "Taken" (.ref b::uU) none) (x3:y6 K mg g "NoName" (.ref b::uU) none) (x4:y6 K mg j "TooMuch" (.ref b::uU) none) (x5:y6 K mg k "NoRate" (.ref b::uU) none) (x6:y6 K mg l "NoneLeft" (.ref b::uU) none) (x7:y6 K mg m "Endless" (.ref b::uU) M) (x8:y6 K mg o "BadRow" (.ref b::uU) N) :
  Xs ⟨K,CU (b::e::f::g::j::k::l::m::o::r) t⟩ mg:=by
 obtain⟨q,d⟩:=x0.tl .base;have c:=d rfl;have s:=(x1.tl c).1;have u:=(x2.tl c).1;have v:=(x3.tl c).1;have w:=(x4.tl c).1;have x:=(x5.tl c).1;have y:=(x6.tl c).1;have z:=(x7.tl c).1;have A:=(x8.tl c).1;have a:∀{p:Nat->Prop},p 0->p 1->p 2->p 3->p 4->p 5->p 6->p 7->p 8->∀i,i<9->p i:=λ{p} B C D E F G H I J i L=>by
  match i,L with
  |0,_=>exact B
  |1,_=>exact C
  |2,_=>exact D
  |3,_=>exact E
  |4,_=>exact F
  |5,_=>exact G
  |6,_=>exact H
  |7,_=>exact I
  |8,_=>exact J
  |n+9,h=>exact absurd h (by omega)
 refine⟨a ⟨_,q,λ_=>rfl⟩ ⟨_,s,λ_=>rfl⟩ ⟨_,u,λ_=>rfl⟩ ⟨_,v,λ_=>rfl⟩ ⟨_,w,λ_=>rfl⟩ ⟨_,x,λ_=>rfl⟩ ⟨_,y,λ_=>rfl⟩ ⟨_,z,λh=>absurd h (by omega)⟩ ⟨_,A,λh=>absurd h (by omega)⟩,
  a (x0.is q) (x1.is s) (x2.is u) (x3.is v) (x4.is w) (x5.is x) (x6.is y) (x7.is z) (x8.is A),a x0.kp x1.kp x2.kp x3.kp x4.kp x5.kp x6.kp x7.kp x8.kp,a x0.gl x1.gl x2.gl x3.gl x4.gl x5.gl x6.gl x7.gl x8.gl⟩
structure WU (K:È)(C:Addr)(fs:Á Str):Prop where
 c:AY K C
 na:∀f∈fs,ku K C f
def Uj {K:È}{C:Addr}{fs:Á Str}{nm:Str}(a:Đ K mainGlobals nm=À (À (.ref C))) (b:hJ K C kU=true)(hd:kS K C=true)(c:rH K C=true)(d:Ą K (.ref C) "__setattr__"=À (À (.builtin "object.__setattr__"))) (na:∀f∈fs,Ą K (.ref C) f=À none):WU K C fs:=⟨⟨b,hd,c,d⟩,na⟩
def WU.bk {T:Tx}{C:Addr}{c:Nat}{fs:Á Str}(h:WU T.K C fs)(e:T.cl c=C):Bk T c fs:=⟨by rw[e];exact h.c,λf a=>by rw[e];exact h.na f a⟩
def Qt {K:È}{cl:Nat->Addr}{c:Nat}{C:Addr}{m b:Str}{st:Stmt}{f:Addr}{n:Value}{od i:Ë Addr}{h:Ē (Ë Value)}{kV g o d ct:Value}(e:cl c=C)(a:Ą K (.ref C) m=À (À (.ref f)))
  (l:K.lookup f=À ⟨n,od,.func (Ŏ m b (cE st) (aR st) (ĝ st) .none kV g o i d ct),h⟩) (j:dC K d b=true) (k:ĸ K (.ref f)=true) (fn:mX K (.ref f)=true):g8 ⟨K,cl⟩ c m b st:=
 ⟨f,_,zo l j k,by show Meth K (cl c) m f;rw[e];exact⟨a,fn,k⟩⟩
def Qs {K:È}{cl:Nat->Addr}{h:Heap}{mg:Str->Ë Value}{c:Nat}{C:Addr}{nm b:Str}{st:Stmt}{f:Addr}{p:Value}{od m:Ë Addr}{j:Ē (Ë Value)}{kV i q d ct:Value}(X:K.In h)(G:h.Ns mainGlobals mg)(e:cl c=C)(g:Đ K mainGlobals nm=À (À (.ref C))) (a:Ą K (.ref C) "__init__"=À (À (.ref f)))
  (l:K.lookup f=À ⟨p,od,.func (Ŏ "__init__" b (cE st) (aR st) (ĝ st) .none kV i q m d ct),j⟩) (n:dC K d b=true) (k:ĸ K (.ref f)=true) (fn:mX K (.ref f)=true) (o:vi K C=true) (kc:ĸ K (.ref C)=true):WW ⟨K,cl⟩ mg c nm b st:=
 ⟨f,_,zo l n k,by show Mk K (cl c) f;rw[e];exact⟨o,a,fn,kc⟩,by show mg nm=À (.ref (cl c));rw[e];exact ia X G g⟩
def Qu {K:È}{cl:Nat->Addr}{h:Heap}{mg:Str->Ë Value}{x:Str}{st:Stmt}{i:Nat}{f b P:Addr}{n:Value}{od j:Ë Addr}{g:Ē (Ë Value)}{kV d o ct:Value}(X:K.In h)(G:h.Ns mainGlobals mg)(e:cl i=P)(a:Đ K mainGlobals x=À (À (.ref f)))
  (l:K.lookup f=À ⟨n,od,.func (Ŏ x x (cE st) (aR st) (ĝ st) .none kV d o j (.ref b) ct),g⟩) (c:dC K (.ref b) x=true) (k:ĸ K (.ref f)=true) (m:Ŷ K b P=true):TB ⟨K,cl⟩ mg x st i:=
 ⟨f,_,b,zo l c k,ia X G a,rfl,by show Ŷ K b (cl i)=true;rw[e];exact m⟩
def PV {K:È}{x:Str}{st:Stmt}{f b P:Addr}{i:Value}{od g:Ë Addr}{e:Ē (Ë Value)}{kV d j ct:Value}(a:Đ K mainGlobals x=À (À (.ref f)))
  (l:K.lookup f=À ⟨i,od,.func (Ŏ x x (cE st) (aR st) (ĝ st) .none kV d j g (.ref b) ct),e⟩) (h:Ŷ K b P=true):∃c,Ŷ K c P=true:=⟨b,h⟩
def RO {p:Str->Prop}:∀f∈([]:Á Str),p f:=λ_ h=>nomatch h
end Ro
namespace L2
open PySem PySem.Spec PyProof.Rows
section
variable {X:Cx}{ÿ:Á (Addr×Obj)}{σ:St}{H:Hp}{s:Ó}
def Inv.PL (I:Inv X ÿ σ H s)(e:H a=À u)(n:∀v,X.xr a=À v->(∀xs,v≠.tup xs)/\(∀o w,v≠.iY o w)/\∀ps,v≠.rm ps) (r:∀xs,u≠.tup xs)(t:∀x,u≠.own x)(k:ş X.prog X.w H s.heap a f):Inv X ÿ σ (upd H a f) s:=by
 have d:∀b,H b=none->upd H a f b=none:=λb z=>by rw[ä λy=>by rw[y,e]at z;cases z];exact z
 have t1:∀b xs,H b=À (.tup xs)->upd H a f b=À (.tup xs):=λb xs z=>by
  rw[ä λy=>by rw[y,e]at z;exact r _ (æ z)];exact z
 have st:∀b o,ş X.prog X.w H s.heap b o->ş X.prog X.w (upd H a f) s.heap b o:=λb o z=>z.oY (λ_ _ _ q=>q) (λc q=>by
  rw[ä λy=>by rw[y,e]at q;exact t _ (æ q)];exact q) t1
 have g:∀b v,X.xr b=À v->((∃xs,v=.tup xs)∨(∃o w,v=.iY o w)∨∃ps,v=.rm ps)->b≠a:=λb v z q y=>by
  subst y;obtain⟨j,l,m⟩:=n v z;rcases q with⟨_,q⟩|⟨_,_,q⟩|⟨_,q⟩
  ·exact j _ q
  ·exact l _ _ q
  ·exact m _ q
 refine⟨I.ok,I.os,I.bare,⟨I.base.keep,I.base.slot,λb o q n x=>d _ (I.base.free b o q n x),I.base.there,λb xs z=>?_,λb o w z=>?_,λb ps z=>?_⟩,I.loc,I.cell,d _ I.free,λx c z=>d _ (I.jA x c z),λp i=>let ⟨A,B,C⟩:=I.pin p i;⟨A,d _ B,C⟩,λb o z=>?_,I.len⟩
 ·rw[ä (g b _ z (.inl ⟨_,rfl⟩))];exact I.base.lJ b xs z
 ·rw[ä (g b _ z (.inr (.inl ⟨_,_,rfl⟩)))];exact I.base.jB b o w z
 ·rw[ä (g b _ z (.inr (.inr ⟨_,rfl⟩)))];exact I.base.wK b ps z
 ·by_cases h:b=a
  ·subst h;rw[ă]at z;cases z;exact st _ _ k
  ·rw[ä h]at z;exact st _ _ (I.ţ b o z)
def Inv.was (I:Inv X ÿ σ H s)(e:H a=À (.dT ks)):∀v,X.xr a=À v->(∀xs,v≠.tup xs)/\(∀o w,v≠.iY o w)/\∀ps,v≠.rm ps:=λv z=>
 ⟨(λxs q=>by subst q;have:=I.base.lJ a _ z;rw[e]at this;cases this),(λo w q=>by subst q;have:=I.base.jB a _ _ z;rw[e]at this;cases this),λps q=>by subst q;obtain⟨_,this⟩:=I.base.wK a _ z;rw[e]at this;cases this⟩
end
def Itk (a:Addr)(o:Obj):It:=
 ⟨λi H=>∃b,H a=À (.iY o (.dT b))/\i<b.length,λi H x A=>A=H/\∀b,H a=À (.iY o (.dT b))->∃c p,b[i]?=À c/\x=.ref p/\H p=À (.tup (c.1.map kV)),λi H=>∃b,H a=À (.iY o (.dT b))/\b.length<=i⟩
def Bq {X:Cx}(I:Inv X q z H s)(e:H a=À (.iY o (.dT ks))) (hd:o.data=.dict c ep):s.heap.get? a=À o/\c.size=ks.length/\∀(i:Nat) (h:i<c.size),∃n p,ks[i]?=À n/\c[i].key=.ref p/\H p=À (.tup (n.1.map kV)):=by
 obtain⟨f,_,_,xs,b,y,t,r,g,_,j,k,_⟩:=(show ş X.prog X.w H s.heap a (.iY o (.dT ks))from I.ţ a _ e)
 rw[f]at g;cases g;rw[hd]at j;cases j;have hl:c.size=ks.length:=by rw[<-Ļ,k,É,<-b.length]
 refine⟨f,hl,λi l=>?_⟩;have m:i<xs.length:=by rw[<-b.length,<-hl];exact l
 obtain⟨p,u,x,v,_⟩:=Paired.at b (Å m);refine⟨p,xs[i].2.1,u,?_,v⟩;have d:c.toList[i]?=À (entryOfKey (mF (ſ X.prog X.w)) xs[i]):=by rw[k,î,Å m];rfl
 rw[aA,ax l]at d;rw[æ d];rfl
def K0 {P:ď}{w:ī}{K:È}{tg:Expr}{o:Obj}(a it:Addr)(hd:o.data=.dict es ep):Turn P w K tg (Itk a o) [it] it (λi h=>h.get? it=À (Dx.Jh a i es.size ep)) where
 mem:=by simp
 obj:=λi h st b hb=>by
  have e:b=it:=by simpa using hb
  subst e;exact⟨_,st,(λv z=>nomatch z)⟩
 keep:=λi h h' st k=>k it (by simp) _ st
 item:=by
  intro X hP hw hK hc i ÿ s σ H E I hf st hg;subst hP hw hK;obtain⟨ks,hq,hx⟩:=hg;obtain⟨h0,hl,hk⟩:=Bq I hq hd;obtain⟨f0,f1,f2,f3,f4,f5⟩:=hf it (by simp);have hi:i<es.size:=by rw[hl];exact hx
  obtain⟨kv,p,k1,k2,k3⟩:=hk i hi;refine Dx.JT st h0 hd hi λh' KN sb=>?_;have I1:Inv X ÿ σ H {s with heap:=h'}:=I.turned (t':=s.toks) sb f0 f1 f3 f4 f5;exact⟨_,rfl,ES (s:={s with heap:=h'}) KN rfl rfl s!"i" ⟨.ref p,H,I1,k2,⟨rfl,λys hy=>by rw[hq]at hy;cases hy;exact⟨kv,p,k1,rfl,k3⟩⟩,KN,λb hb=>(hf b hb).1⟩⟩
 done:=by
  intro X hP hw hK hc i ÿ s σ H E I hf st hg;subst hP hw hK;obtain⟨ks,hq,hx⟩:=hg;obtain⟨h0,hl,_⟩:=Bq I hq hd;obtain⟨f0,f1,f2,f3,f4,f5⟩:=hf it (by simp);exact Dx.GL (I.ok.hd hc) st (by rw[hl];exact hx) h0 hd λh' eb=>⟨rfl,I.turned (t':=s.toks) eb f0 f1 f3 f4 f5⟩
 self:=λ_ _ _ _ _ st h=>wpAny_pyIter_keyiter ⟨_,st,rfl,rfl⟩ h
def Yq (tl:TE):TI:=λe H R=>tl e H λx A=>∃a b,x=.ref a/\A a=À (.dT b)/\∀o d c,o.data=.dict d c->R (Itk a o) (upd A a (.iY o (.dT b)))
def NW {X:Cx}(hl:PE X l tl):PI X G l (Yq tl):=by
 intro c s m H R I h;refine ak (hl c s m H _ I h) λv d E=>iX E λx C A y u=>?_;obtain⟨a,k,e,g,q⟩:=u;subst e;cases y;have j:=(show ş X.prog X.w C d.heap a (.dT k)from A.ţ a _ g)
 obtain⟨_,lo,xs,D,o,p,n,i,r,f,F,_⟩:=id j;refine Dx.Gw lo i r f ?_;have B:Inv X c m (upd C a (.iY o (.dT k))) d:=A.PL g (A.was g) s!"p" s!"p" ⟨i,j⟩;refine⟨d.heap.objs.size,[d.heap.objs.size],_,_,_,rfl,B.kept (t':=d.toks) λb o e=>Ä _ e,K0 a _ f,Ö _ rfl,λb t=>?_,q o p n f⟩;have e:b=d.heap.objs.size:=by simpa using t
 subst e;exact B.Bp (Í _) (B.ţ.fresh (Í _))
theorem nQ {prog:ď}{w:ī}{A:Ň}{C:Bool->Ó->Prop}(h:C false s):∀(l:Á Value) (i:Nat),PySem.W.KatLex prog w A b false C (l.zip l) i s
 |[],_=>Lz h
 |_::l,i=>cz (nJ (i8 (nQ h l (i+1))))
end L2
namespace Mm
open PySem L2
def rN (T:Tx):Rl (Á AV) V:=⟨λ_ a H v x=>∃p xs,x=.ref p/\H p=À (.tup xs)/\ı T a H v xs,λ_ h=>h⟩
abbrev tN (T:Tx)(XE:iW)(m:hR):TE:=tG T XE (rN T) m
noncomputable def vR:Á AV->Ë (Á Key)
 |[]=>À []
 |v::r=>(gb v).bind λk=>(vR r).map (k::·)
noncomputable def Gb (s:S)(i:Nat):Ë (Á (Á Key×AV)):=match s[i]? with
 |some (.dT xs)=>À xs
 |_=>none
def oo {s:S}{i:Nat}{xs:Á (Á Key×AV)}(h:Gb s i=À xs):s[i]?=À (.dT xs):=by
 unfold Gb at h;split at h
 ·cases h;assumption
 ·cases h
def Io {s:S}{i:Nat}{xs:Á (Á Key×AV)}(h:s[i]?=À (.dT xs)):Gb s i=À xs:=by unfold Gb;rw[h]
section
variable {T:Tx}{XE:iW}{X:Cx}{pos:kR}
theorem ou {ρ:Á Addr}{H:Hp}:∀{vs:Á AV}{ks:Á Key}{xs:Á V},vR vs=À ks->ı T ρ H vs xs->xs=ks.map kV
 |[],ks,xs,h,k=>by
  cases h;unfold ı at k;exact k
 |v::r,ks,xs,h,k=>by
  obtain⟨x,e,rfl,c,d⟩:=k.cons_inv;unfold vR at h;cases a:gb v with
  |none=>rw[a]at h;cases h
  |some q=>
   rw[a]at h;cases b:vR r with
   |none=>rw[b]at h;cases h
   |some t=>
    rw[b]at h;cases h;rw[hY a c,ou b d];rfl
def SR.Im {ρ:Á Addr}{H:Hp}{s:S}(j:SR T ρ s H){i:Nat}{xs:Á (Á Key×AV)}(e:s[i]?=À (.dT xs)) {x:V}(h:VR T ρ H (.ref i) x):∃a vs,x=.ref a/\ρ[i]?=À a/\H a=À (.dT vs)/\xs.map (·.1)=vs.map (·.1)/\ı T ρ H (xs.map (·.2)) (vs.map (·.2)):=by
 obtain⟨a,c,vs,f,g⟩:=j.obj i _ e;obtain⟨b,d,rfl⟩:=h.gi;rw[c]at d;cases d;exact⟨a,vs,rfl,c,f,g⟩
def JO (r:hR):hR:=λa s=>(r a s).bind λb c=>if b.length<=sizeLine then .ok b c else .bad
def DA {f:Á Expr}{k:Nat}{r:hR}(h:PA X f (tP T XE r)):PE X (.Tuple f k pos) (tN T XE (JO r)):=
 PE.imp (DL h) λt H Q ⟨q,g,s,m,j,l⟩=>step m j l λv n e A x _ o c i a b=>by
  obtain⟨hl,b⟩:=b.Ř;have a:ı T e A v x:=a;exact⟨by rw[<-a.length];exact hl,λp d=>b _ _ _ (c.eg d) (c.new d) ⟨p,x,rfl,ă,ı.up (c.eg d) a⟩⟩
def BF (r:hR)(n:Ev):Ev:=λa s=>(JO r a s).bind λf e=>(n a e).bind λd c=>match d with
 |.ref i=>need (Gb c i) λb=>need (vR f) λk=>.ok (.bl (a6 b k).isSome) c
 |_=>.bad
def Mu {r:hR}{n:Ev}{u:St}{H:Hp}{Q:VK}(h:tE T XE (BF r n) u H Q) :
  tN T XE (JO r) u H λy B=>tE T XE n u B λx A=>∃a o,x=.ref a/\jo A a y o/\Q (.bl o.isSome) A:=by
 obtain⟨ρ,I,s,Y,N,P⟩:=h;refine step Y N P λvs s1 m B y _ u1 j f l g=>step j f g λw s2 q A x _ Z e J c b=>?_;have c:VR T q A w x:=c;obtain⟨p,xs,rfl,U,vx⟩:=(show ∃p xs,y=.ref p/\B p=À (.tup xs)/\ı T m B vs xs from l)
 cases w with
 |ref i=>
  obtain⟨d,F,b⟩:=b.ö;obtain⟨k,G,b⟩:=b.ö;obtain⟨a,C,rfl,ea,M,D,E⟩:=e.Im (oo F) c;have O:A p=À (.tup (k.map kV)):=by rw[<-ou G vx];exact Z.lJ p xs U
  refine⟨a,jl C k,rfl,jo.t M O,?_⟩;have:(jl C k).isSome=(a6 d k).isSome:=by
   cases v:a6 d k with
   |none=>rw[(dZ k D E).2 v];rfl
   |some z=>obtain⟨x',L,_⟩:=(dZ k D E).1 z v;rw[L];rfl
  rw[this];exact b.Ĺ e dt
 |_=>exact b.elim
def Oc {a:Á Expr}{e:Nat}{f:kR}{o:Expr}{r:hR}{n:Ev}(hu:X.A.units+1<cLine)(c:PA X a (tP T XE r)) (d:PE X o (tE T XE n)) (b:ay .In o=false:=by rfl):PT X (.Compare (.Tuple a e f) [.In] [o] pos) (kN T XE (cB (BF r n))):=
 PT.imp (DO (DK hu (DA c) d) b) λg H Q h=>Mu (Fy h)
def zY (d:Ev)(r:hR)(v:Ev):Ms:=λe s=>(v e s).aQ λa h=>(d e h).aQ λb j=>(JO r e j).aQ λc g=>match b with
 |.ref i=>match Gb g i,vR c with
  |some f,À k=>if f.length<sizeLine then .nx e (g.set i (.dT (lE f k a)))else .bad
  |_,_=>.bad
 |_=>.bad
def JF {o e:Expr}{E:Á Expr}{Y:Nat}{tp g:kR}{m r:Ev}{n:hR}(hu:X.A.units+1<cLine)(G:PE X o s!"x") (hi:PA X E (tP T XE n)) (hv:PE X e (tE T XE r)) (L:eS e (À (.Subscript o (.Tuple E Y tp) g)) pos.line X.env=pure false:=by rfl) :
  PS X (.Assign [.Subscript o (.Tuple E Y tp) g] e pos) (tS T XE (zY m n r)):=
 PS.imp (Fp hu G (DA hi) hv L) λD σ H ⟨ρ,env,s,L,he,G⟩=>dm L he G λv s1 OO H1 x _ u1 N u j I=>dm N u I λd s2 Xn H2 y _ u2 O w l J=>dm O w J λc s3 f B z _ u3 h C P b=>by
  have l:VR T f B d y:=VR.up u3 l;have j:VR T f B v x:=VR.up (u2.trans u3) j;obtain⟨p,xs,rfl,hp,vx⟩:=(show ∃p xs,z=.ref p/\B p=À (.tup xs)/\ı T f B c xs from P)
  split at b
  ·split at b
   ·rename_i i _ _ M k e1 e2;obtain⟨hl,b⟩:=b.Ř;obtain⟨a,Z,rfl,Q,U,q1,q2⟩:=h.Im (oo e1) l;have F:M.length=Z.length:=by have:=ğ cb q1;simpa using this
    have hk:B p=À (.tup (k.map kV)):=by rw[<-ou e2 vx];exact hp
    refine⟨a,_,rfl,xq.t U hk (by rw[<-F];exact hl),?_⟩;obtain⟨p1,p2⟩:=u7 k j q1 q2;have q:Up f B f (upd B a (.dT (putK Z k x))):=h.t_ Q U s!"p" (λ_ _ z=>nomatch z);exact b f _ σ q (h.set Q q ⟨_,ă,p1,p2.up q⟩) (C.up q)
   ·exact b.elim
  ·exact b.elim
def GI:Ev:=λ_ s=>.ok s!"h" (s++[.dT []])
def Q_:PE X (.Dict [] [] pos) (tE T XE GI):=
 PE.imp Ka λg H Q ⟨f,a,s,d,e,b⟩ p c=>b.alloc d c ⟨[],ă,rfl,.nil⟩
end
end Mm
namespace L2
open PySem PySem.Spec PyProof.Rows
def Og:V->Á V->Hp->VK->Prop:=λx b H Q=>∃d a,x=.ref d/\b=[]/\H d=À (.dT a)/\∀v,H v=none->Q (.ref v) (upd H v (.ext λh=>h.IsItemsView v d))
def GK:Hv X "dict.items" Og:=by
 rintro i s A H x xs v us Q I m rv ⟨d,b,rfl,rfl,j,q⟩;cases m;cases rv;obtain⟨z,hd,xs,l,o,p,n,c,f,t,u,y⟩:=(show ş X.prog X.w H s.heap d (.dT b)from I.ţ d _ j)
 have g:s.TypeIs (.ref d) "dict":=⟨o,c,f.1⟩
 refine ĭ Ak g PySem.F.entry_dict_items ?_ (PySem.F.args_dict_items_1 _);unfold cC.«dict.items» Zr Zs;refine Ã (Ã (wpAny_notOrdered_dict g (Ê ?_)));rw[Ø (by rw[hd];exact à)];exact Ã (Ê (Ã (Ţ (Ê ⟨_,rfl,.ref s.heap.objs.size,_,I.laid (a:=s.heap.objs.size) (o:=.ext λh=>h.IsItemsView s.heap.objs.size d) (t':=s.toks) (λ_ _ q=>Ä _ q) (Í _) ⟨⟨_,Ö _ rfl,rfl,rfl⟩,⟨_,Ö _ rfl⟩,λc f ⟨o,e,r⟩ k=>⟨o,k o e,r⟩⟩,rfl,q _ (I.ţ.fresh (Í _))⟩))))
end L2
namespace Mm
open PySem L2
noncomputable def p8:Á (Á Key×AV)->Ë (Á (Str×Int))
 |[]=>À []
 |([.inr x,.inl i],_)::r=>(p8 r).map ((x,i)::·)
 |_::_=>none
theorem wg:∀{kvs:Á (Á Key×AV)}{ks:Á (Str×Int)},p8 kvs=À ks->kvs.map (·.1)=ks.map fJ
 |[],_,h=>by cases h;rfl
 |(k,v)::r,ks,h=>by
  unfold p8 at h;split at h
  ·rename_i e;cases e
  ·rename_i x i _ _ e;cases e;cases e:p8 r with
   |none=>rw[e]at h;cases h
   |some q=>rw[e]at h;cases h;rw[Î,wg e];rfl
  ·cases h
def j' (m:Ev):hR:=λb s=>(m b s).bind λv d=>match v with
 |.ref i=>need (Gb d i) λa=>need (p8 a) λc=>if c.length<64 then .ok ((ki c).map λk=>.tup [.tup [.str k.1,.int k.2],(a6 a (fJ k)).getD .Ĕ]) d else .bad
 |_=>.bad
def Mq:AV->Int
 |.tup (.int d::_)=>d
 |_=>0
section
variable {T:Tx}{XE:iW}{X:Cx}{pos:kR}
def GJ (hm:X.mg "sorted"=none)(hu:X.A.units+2<cLine)(h:PE X e s!"x") (hcm:X.calm=true:=by rfl)(hg:Gl X "sorted":=by rfl)
  (D:a8 e "items" X.env (Ė e X.env)=Ė e X.env:=by rfl) (E:(ap.endLine == cp.line)=true:=by rfl)
  (he:Ì [.Call (.Attribute e "items" ap) [] [] cp] X.env=(false,Ė (.Call (.Attribute e "items" ap) [] [] cp) X.env)::Ì [] X.env:=by rfl) (UN:(ģ pos (Ì [] X.env)).any (·.1)=false:=by rfl) :
  PE X (.Call (.Name "sorted" p) [.Call (.Attribute e "items" ap) [] [] cp] [] pos) (tL T XE (j' m)):=
 PE.imp (cW (CT hcm hu) hg hm ũ (aS (R8 lP Ak PySem.F.type_dict_items GK h D E) eI he) s!"i" s!"i" he UN) λσ H Q zz=>Ō zz λρ env s hs he ho=>
  step hs he ho λv s1 t Y x _ u1 B X_ Zo d=>by
   cases v with
   |ref i=>
    obtain⟨P,e1,d⟩:=d.ö;obtain⟨ks,e2,d⟩:=d.ö;obtain⟨hl,d⟩:=d.Ř;obtain⟨a,U,rfl,ea,h1,q1,q2⟩:=B.Im (oo e1) Zo;refine⟨.inr (.inr (.inl ⟨rfl,.inr ⟨U,h1⟩⟩)),a,U,rfl,rfl,h1,λv hv=>?_⟩;have h1':Y a=À (.dT U):=h1;refine⟨v,a,U,ks,rfl,ă,by rw[ä (Ŋ h1' hv)];exact h1,by rw[<-q1];exact wg e2,hl,λl C ws M k1 k2 k3 k4 k5=>?_⟩;have f:∀b o,Y b=À o->C b=À o:=λb o e=>k1 b o (by rw[ä (Ŋ e hv)];exact e);have N:Y l=none:=by
     by_cases O:l=v
     ·rw[O];exact hv
     ·rw[ä O]at M;exact M
    have up:Up t Y t C:=⟨⟨bc,λb xs e=>f b _ e,λb o u e=>f b _ e⟩,λb o e n=>⟨f b o e,n⟩,λb e=>by
     have:=k2 b e;by_cases L:b=v
     ·rw[L];exact hv
     ·rw[ä L]at this;exact this⟩
    have S2:SR T t s1 C:=B.up up.toGr λb hb=>by
     obtain⟨u,hu⟩:=B.in hb;rw[hu];exact f b u hu
    refine d t C (.ref l) up S2 ⟨l,ws,rfl,N,B.out N,k3,?_⟩;have len:(ki ks).length=ws.length:=by rw[(mx ks).length_eq,k4]
    have all:∀(q:Á (Str×Int)) (c:Á V),q.length=c.length->(∀(j:Nat) (k:Str×Int),q[j]?=À k->∃I b x,c[j]?=À (.ref I)/\jl U (fJ k)=À x/\C b=À (.tup [.str k.1,.int k.2])/\C I=À (.tup [.ref b,x]))->ı T t C (q.map λk=>AV.tup [.tup [.str k.1,.int k.2],(a6 P (fJ k)).getD .Ĕ]) c:=by
     intro q;induction q with
     |nil=>intro c y _;cases c with|nil=>exact .nil|cons _ _=>simp at y
     |cons k r ih=>
      intro c y g;cases c with
      |nil=>simp at y
      |cons w c=>
       obtain⟨I,b,x,Z,J,G,f3⟩:=g 0 k rfl;simp at Z;subst Z;refine .cons (jM (gz.of f3) (.cons (jM (gz.of G) (.cons iS (.one a9))) (.one ?_))) (ih c (by simpa using y) λj k' hj=>g (j+1) k' (by simpa using hj));cases ev:a6 P (fJ k)with
       |none=>rw[(dZ (fJ k) q1 q2).2 ev]at J;cases J
       |some v'=>
        obtain⟨x',ex,kx⟩:=(dZ (fJ k) q1 q2).1 v' ev;rw[J]at ex;cases ex;exact VR.up up kx
    exact all _ _ len λj k hj=>by
     obtain⟨I,b,x,Z,J,G,f3⟩:=k5 j k hj;refine⟨I,b,x,Z,J,?_,f3⟩;have:b≠v:=λz=>by rw[z,ă]at G;cases G
     rw[ä this]at G;exact f _ _ G
   |_=>exact d.elim
end
def U1:Key->AV
 |.inl i=>.int i
 |.inr x=>.str x
def tupK (k:Á Key):AV:=.tup (k.map U1)
def S3 (m:Ev):Src:=λb s=>(m b s).bind λv c=>match v with
 |.ref i=>need (Gb c i) λa=>.ok (a.map λp=>tupK p.1,[]) (c.set i (.Pe a))
 |_=>.bad
section
variable {T:Tx}{XE:iW}{X:Cx}{pos:kR}
theorem wO:∀k:Á Key,ı T ρ H (k.map U1) (k.map kV)
 |[]=>.nil
 |.inl i::r=>.cons a9 (wO r)
 |.inr x::r=>.cons iS (wO r)
def YC (h:PE X e s!"x"):PI X tg e (tW T XE (S3 m)):=
 PI.imp (NW h) λσ H R zz=>Ō zz λρ M s hs Y Z=>step hs Y Z λv s1 d B x _ u1 g O k c=>by
  have k:VR T d B v x:=k;cases v with
  |ref i=>
   obtain⟨b,I,c⟩:=c.ö;obtain⟨a,f,rfl,C,D,t,q2⟩:=g.Im (oo I) k;refine⟨a,f,rfl,D,λo P N hd=>?_⟩;have w:Up d B d (upd B a (.iY o (.dT f))):=g.t_ C D s!"p" (λ_ _ z=>nomatch z);refine c d _ _ w (g.set C w ⟨o,P,N,f,ă,hd,t,q2.up w⟩) ⟨λy s' G u' u _=>?_⟩;have r:G a=À (.iY o (.dT f)):=u'.jB a _ _ ă;have hl:b.length=f.length:=by have:=ğ cb t;simpa using this
   refine⟨λj v l=>?_,⟨f,r,by rw[É,hl];exact Í _⟩⟩;rw[î]at l;have E:j<b.length:=by
    cases z:b[j]? with
    |none=>rw[z]at l;cases l
    |some q=>exact(Æ.mp z).1
   refine⟨⟨f,r,by rw[<-hl];exact E⟩,λx A ⟨J,L⟩=>?_⟩;subst J;obtain⟨F,p,Q,rfl,U⟩:=L f r;refine⟨.refl,u,?_⟩;have n:(b[j]?).map (·.1)=À F.1:=by rw[<-î,t,î,Q];rfl
   rw[Å E]at l n;cases l;have n:b[j].1=F.1:=æ n;show VR T y A (tupK b[j].1) _;rw[n];exact jM (gz.of U) (wO _)
  |_=>exact c.elim
def Om (m:Ev)(b:Ms):Ms:=λa s=>match m a s with
 |.ok (.ref i) _=>match b a s with
  |.nx e d=>match d[i]?,Gb s i with
   |some (.Pe f),À _=>.nx e (d.set i (.dT f))
   |_,_=>.bad
  |.ex c d=>.ex c d
  |_=>.bad
 |_=>.bad
def QI {H:Hp}{o:Obj}(e:H a=À (.iY o (.dT ks))):Gs ρ H ρ (upd H a (.dT ks)):=
 ⟨bc,λ{K b c} h=>by
  rcases h with(h|⟨o,h⟩)|h
  ·exact .inl (.inl (by rw[ä λz=>by rw[z,e]at h;cases h];exact h))
  ·exact .inl (.inr ⟨o,by rw[ä λz=>by rw[z,e]at h;cases h];exact h⟩)
  ·exact .inr h,λ{K b c} h=>by
  rcases h with⟨o,h⟩|h
  ·exact .inl ⟨o,by rw[ä λz=>by rw[z,e]at h;cases h];exact h⟩
  ·exact .inr h⟩
def RK (h:PS X st (tS T XE b)):PS X st (tS T XE (Om m b)):=by
 intro A s σ H D I ⟨ρ,B,t,hs,he,d⟩;unfold Om at d;split at d
 ·rename_i i _ _;cases r:b B t with
  |nx e1 N=>
   rw[r]at d;dsimp only at d;split at d
   ·rename_i kvs kv0 e2 e0;obtain⟨a,ea,ks0,Z,_⟩:=hs.obj i _ (oo e0);refine ak (h A s σ H {nx:=λF P=>∃o U Q E,P a=À (.iY o (.dT E))/\o.data=.dict U Q/\D.nx F (upd P a (.dT E)),rt:=λ_ _=>False} I ⟨ρ,B,t,hs,he,?_⟩) λf s' z=>?_
    ·rw[r];intro O H1 Xp J l M;obtain⟨Y,p,o,U,Q,E,h1,hd,q1,q2⟩:=l.obj i _ e2;have:Y=a:=by rw[zR J.pre ea]at p;exact(æ p).symm
     subst this;have g:=QI (ρ:=O) h1;refine⟨o,U,Q,E,h1,hd,d O _ Xp ⟨⟨J.pre,λb xs z=>?_,λb o w z=>?_⟩,λb o z n=>?_,λb z=>?_⟩ ⟨l.nd,by simp[l.len],λj o' G=>?_⟩ ⟨M.len,λj v G=>?_⟩⟩
     ·rw[ä λy=>by rw[y,Z]at z;cases z];exact J.lJ b xs z
     ·rw[ä λy=>by rw[y,Z]at z;cases z];exact J.jB b o w z
     ·rw[ä λy=>n (by rw[y];exact ý ea)];exact J.fr b o z n
     ·by_cases hb:b=Y
      ·rw[hb,ă]at z;cases z
      ·rw[ä hb]at z;exact J.live b z
     ·by_cases C:i=j
      ·subst C;have hl:i<N.length:=(Æ.mp e2).1;rw[Ģ hl]at G;cases G;exact⟨Y,p,E,ă,q1,q2.gs g⟩
      ·rw[Û C]at G;obtain⟨c,L,q3⟩:=l.obj j o' G;refine⟨c,L,q3.gs g (λc oc w vs z k=>?_) (ä λy=>C ?_)⟩
       ·rw[ä λy=>by rw[y,h1]at z;cases z;rw[hd]at k;cases k];exact z
       ·subst y;exact(bx l.nd).mp ((Æ.mp p).2.trans (Æ.mp L).2.symm)
     ·obtain⟨x,ex,k⟩:=M.get j v G;exact⟨x,ex,k.gs g⟩
    ·cases f with
     |next=>
      obtain⟨F,P,I',o,U,Q,E,L,hd,q⟩:=z;have hk:=(show ş X.prog X.w P s'.heap a (.iY o (.dT E))from I'.ţ a _ L)
      exact⟨F,_,I'.PL L (I.was Z) s!"p" s!"p" hk.2,q⟩
     |brk=>obtain⟨_,_,_,z⟩:=z;exact z.elim
     |cont=>obtain⟨_,_,_,z⟩:=z;exact z.elim
     |ret u=>obtain⟨_,_,_,_,_,z⟩:=z;exact z.elim
   ·exact d.elim
  |ex c N=>
   rw[r]at d;exact h A s σ H D I ⟨ρ,B,t,hs,he,by rw[r];exact d⟩
  |bk e N=>rw[r]at d;exact d.elim
  |ct e N=>rw[r]at d;exact d.elim
  |rt v N=>rw[r]at d;exact d.elim
  |bad=>rw[r]at d;exact d.elim
 ·exact d.elim
end
end Mm
namespace L2
open PySem PySem.Spec PyProof.Rows
def SJ (K:È):Á V->Hp->VK->Prop:=λxs H Q=>∃(l:Addr) (b:Á Addr) (c:Á (Str×Int)),xs=[.ref l]/\H l=À (.lst (b.map V.ref))/\c.length=b.length/\(∀(j:Nat) (a:Addr) (k:Str×Int),b[j]?=À a->c[j]?=À k->∃r,gz K H a (.str k.1::.int k.2::r))/\c.Nodup/\b.length<64/\
 ∀(p:Á Nat) (d:Addr),p.Perm (Ĉ b.length)->p.Pairwise (λi j=>zA (c.getD i (⟨#[]⟩,0)) (c.getD j (⟨#[]⟩,0))=true)->H d=none->Q (.ref d) (upd H d (.lst (p.map λi=>V.ref (b.getD i 0))))
def VU (X:Cx):Á V->Hp->VK->Prop:=λxs H Q=>∃(l:Addr) (c:Á Addr) (O:KeyOrd) (h:pA) (e:Nat->O.α),xs=[.ref l]/\H l=À (.lst (c.map V.ref))/\c.length<64/\
 (∀f k s,Inv X f k H s->(∀(A:Ň) (d:Heap),2<=c.length->(∀b o,s.heap.get? b=À o->d.get? b=À o)->∀Q:pA->Ó->Prop,Q h {s with heap:=d}->Ù s!"b" A (P4 (c.map Ñ).toArray) Q (λ_ _=>False) {s with heap:=d})/\
  ∀(d:Heap),(∀b o,s.heap.get? b=À o->d.get? b=À o)->∀(i j:Nat) (a b:Addr) C,c[i]?=À a->c[j]?=À b->C (O.blt (e i) (e j)) {s with heap:=d}->Ù s!"b" X.A.in1.in1 (keyLt' h (.ref a) (.ref b)) C (λ_ _=>False) {s with heap:=d})/\
 ∀(p:Á Nat) (g:Addr),p.Perm (Ĉ c.length)->p.Pairwise (Mm.Ah e)->H g=none->Q (.ref g) (upd H g (.lst (p.map λi=>V.ref (c.getD i 0))))
def x9 {X:Cx}:aG X (.builtin "sorted") (VU X):=by
 rintro a s j H xs us Q I rv ⟨l,c,O,κ,key,rfl,t,d,x,q⟩;obtain⟨u,rfl,D⟩:=rv.one;cases (show u=Ñ l from D);obtain⟨_,y,n,g,v⟩:=(show ş X.prog X.w H s.heap l (.lst (c.map V.ref))from I.ţ l _ t)
 have:=oy g;subst this;refine fM Co yV yT (L0 _) ?_;unfold cC.«sorted»;refine Ã (m:=FV "sorted" 1 1 _) (Ê ?_);refine Ã (collect_list (A:=X.A.in1) ⟨_,v,rfl,n,rfl⟩ ?_ (by rw[É];exact ę (Ŕ (by lia))));have B:Inv X a j H {s with heap:=(s.heap.push s!"r").update s.heap.objs.size (ú (·++(c.map Ñ).toArray))}:=I.grown (t':=s.toks) (λb u e=>by
  rw[í _ _ (Ĵ (Ô e))];exact Ä _ e) (λ_ _ _=>rfl) λb o e z=>by
   obtain⟨u,hu⟩:=(I.ţ _ o z).qa;rw[e]at hu;cases hu
 generalize {s with heap:=(s.heap.push s!"r").update s.heap.objs.size (ú (·++(c.map Ñ).toArray))}=E at B;obtain⟨k,r⟩:=x a j E B;refine yD (A:=X.A.in1) (O:=O) (κ:=κ) (key:=key) B d k r ?_;intro p i s' pr h f C;exact⟨.ref i,_,C,rfl,q p i pr h f⟩
def CS {X:Cx}(hc:X.calm=true):aG X (.builtin "sorted") (SJ X.K):=by
 rintro d s σ H xs us Q I rv ⟨l,as,c,rfl,hH,hl,ht,nd,M,q⟩;refine x9 d s σ H _ us Q I rv ⟨l,as,oP,tuples' true,λi=>kP (c.getD i (⟨#[]⟩,0)),rfl,hH,M,λd σ s1 I1=>?_,?_⟩
 ·have f:∀(j:Nat) (a:Addr),as[j]?=À a->∃(y:j<c.length) (t u:XP) (r:Á Value) (o:Obj) (n:Nat),s1.heap.get? a=À o/\o.cls=.type "tuple"/\o.data=.seq (.str c[j].1 t::.int c[j].2 u::r).toArray n:=λj a D=>by
   have y:j<c.length:=by rw[hl];exact(Æ.mp D).1
   obtain⟨r,e⟩:=ht j a c[j] D (Å y);obtain⟨its,g,⟨o,B,k,n,e4⟩,_⟩:=I1.tuple e;cases g with
   |cons e5 G=>
    cases G with
    |cons G e7=>
     obtain⟨t,rfl⟩:=e5;obtain⟨u,rfl⟩:=G;exact⟨y,t,u,_,o,n,B,k,e4⟩
  have kD:∀i (E:i<c.length),kP (c.getD i (⟨#[]⟩,0))=kP c[i]:=λi E=>by rw[Ĥ,Å E];rfl
  refine⟨?_,?_⟩
  ·intro A h' h2 F Q' hq;obtain⟨fs,k1,k2,k3⟩:=uY (h:=h') (P:=λv=>∃(i:Str) (t:XP),v=.str i t) (as:=as) λj a D=>by
    obtain⟨_,t,u,r,o,n,g,B,k⟩:=f j a D;exact⟨_,o,_,n,F _ _ g,B,k,_,t,rfl⟩
   refine ud (T:=.type "str") k1 (by rw[k3];lia) (λv hv=>?_) s!"i" ?_
   ·obtain⟨i,t,rfl⟩:=k2 v hv;exact xb rfl
   ·have e:(cg "str" != cg "tuple")=true:=by decide
    rw[e];exact hq
  ·intro h' F i j a b C ea J hC;obtain⟨E,t,u,r,o,n,g,B,k⟩:=f i a ea;obtain⟨y,t',u',r',o',n',L,f2,m⟩:=f j b J;refine xl (F _ _ g) k (F _ _ L) m ?_;dsimp only at hC;rw[kD i E,kD j y]at hC;by_cases x:i=j
   ·subst x;rw[ea]at J;cases J;rw[g]at L;cases L;rw[k]at m;injection m with m _
    rw[<-m,ë (ŋ _)];refine nQ ?_ _ _;rw[oP.irrefl]at hC;exact hC
   ·have U:c[i]≠c[j]:=λz=>x ((bx nd).mp z);have N:(c[i].1 == c[j].1&&c[i].2 == c[j].2)=false:=by
     rw[oZ];by_cases h1:c[i].1=c[j].1
     ·exact .inr (Ŝ.mpr λh2=>U (uP h1 h2))
     ·exact .inl (Ŝ.mpr h1)
    rw[A2 N]at hC;refine cz (eqBool_str ?_);cases Y:c[i].1 == c[j].1 with
    |false=>
     rw[Y,Ø à]at hC;exact jU (strKind_oneLt _ _ _ _ _ _ _ _ _ rfl rfl hC)
    |true=>
     rw[Y,Ò rfl]at hC;rw[Y,Cc]at N;refine i8 (cz ((i_ X.prog X.w).eqBool (a:=c[i].2) (b:=c[j].2) (by simp[i_,cX]) (by simp[i_,cX]) ?_));rw[show decide (c[i].2=c[j].2)=false from ë (by simpa using N)];exact jU (vh _ _ (xk hC))
 ·intro p l' pr Z O;exact q p l' pr (Z.imp λh=>ke.mpr h.kle) O
def Inv.news {X:Cx}{t':Nat}(I:Inv X a l H s)(F:Fr X.base X.env.locals s.heap m)(A:Fr X.base X.env.locals h' m)(B:News X.base X.env.locals h' (uT X.base s.heap X.env.locals)):Inv X a l H {s with heap:=h',toks:=t'}:=by
 have c:∀b o,b≠X.env.locals->s.heap.get? b=À o->h'.get? b=À o:=λb o n e=>by
  cases z:X.base.get? b with
  |some w=>
   have:=F.keep b w z;rw[e]at this;cases this;exact A.keep b _ z
  |none=>exact(B (b,o) (BH n z e)).1
 have g:∀b u,H b=À u->b≠X.env.locals:=λb u e z=>by rw[z,I.free]at e;cases e
 refine I.step (g':=s.gens) (d':=s.drawn) (ch:=[]) s!"p" (λb o n _ _ e _=>c b o n e) (λb o n _ _ e _=>⟨o.slots,c b o n e⟩) (λb o _ e z=>z) (λb o _ e=>?_) (λb xs e=>e) (λb o w e=>e) (λb p e=>⟨#[],by rw[e];simp⟩) (λj i=>?_) (λb w e=>?_) I.bare
 ·by_cases f:b=X.env.locals
  ·obtain⟨k,_,_,h,_⟩:=A.ns;exact⟨k,by rw[f];exact h⟩
  ·exact⟨o,c b o f e⟩
 ·have em:j=m:=by
   funext y;exact i.agree F.ns y
  rw[em];exact A.ns
 ·refine(I.ţ b w e).oY (λd v hd z=>c d v ?_ z) (λd z=>z) (λd xs z=>z);rcases hd with y|y
  ·rw[y];exact g b w e
  ·exact g d _ y
def F7 {X:Cx}(i:X.calm=true):aG X (.builtin "max") (λxs H Q=>∃(a:Addr) (ns:Á Int),xs=[.ref a]/\H a=À (.lst (ns.map V.int))/\0<ns.length/\∀M,M∈ns->(∀a,a∈ns->a<=M)->Q (.int M) H):=by
 rintro b s v H xs us Q I r ⟨a,ns,rfl,f,c,q⟩;obtain⟨u,rfl,k⟩:=vals1 r;cases k;obtain⟨j,rv,p,n⟩:=I.list (fQ.of f);obtain⟨m,F⟩:=I.fr;exact max_list_N (I.ok.hd i) F (JS (g:=X.base) (h:=s.heap) (L:=X.env.locals)) p.isList (intsAre_of rv) c λl M t o A B d e=>⟨.int M,H,I.news F A B,⟨t,rfl⟩,q M d e⟩
theorem bJ.at {K:È}:∀{ds:Á Dt}{as:Á Addr},bJ K N H ds (as.map V.ref)->ds.length=as.length/\∀(j:Nat) (d:Dt) (a:Addr),ds[j]?=À d->as[j]?=À a->Rep K N H d (.ref a)
 |[],[],_=>⟨rfl,λj d a e=>by simp at e⟩
 |[],_::_,h=>by unfold bJ at h;cases h
 |d::ds,[],h=>by unfold bJ at h;obtain⟨_,_,z,_⟩:=h;cases z
 |d::ds,a::as,h=>by
  unfold bJ at h;obtain⟨x,n,z,k,m⟩:=h;cases z;obtain⟨l,g⟩:=bJ.at m;refine⟨by simp[l],λj i f b c=>?_⟩;cases j with
  |zero=>simp at b c;subst b c;exact k
  |succ j=>exact g j i f (by simpa using b) (by simpa using c)
theorem EC:∀{ds:Á Dt}{j:Nat}{d:Dt},ds[j]?=À d->d.dep<=aH ds
 |[],_,_,e=>by simp at e
 |d::r,0,_,e=>by simp at e;subst e;simp only[aH];lia
 |d::r,j+1,a,e=>by
  have:=EC (ds:=r) (j:=j) (d:=a) (by simpa using e);simp only[aH];lia
theorem HQ:∀{ds:Á α}{as:Á e},ds.length=as.length->(∀(j:Nat)(d:α)(a:e),ds[j]?=À d->as[j]?=À a->f a=g d)->as.any f=ds.any g
 |[],[],_,_=>rfl
 |d::ds,a::as,hl,h=>by
  rw[Ų,Ų,h 0 d a rfl rfl,HQ (ds:=ds) (as:=as) (by simpa using hl) λj d a b c=>h (j+1) d a (by simpa using b) (by simpa using c)]
def R0 {X:Cx}(hu:X.A.units+30<cLine):jm X (Ĭ .In) (λx y H Q=>∃(p:Addr) (as:Á Addr) (ds:Á Dt) (b:Dt) (N B:Addr->Prop),y=.ref p/\H p=À (.lst (as.map V.ref))/\bJ X.K N H ds (as.map V.ref)/\Rep X.K B H b x/\aH ds<=20/\Q (.bl (ds.any λd=>cA d b)) H):=by
 rintro z s σ H x y v u Q I T U ⟨p,as,ds,b,N,B,rfl,J,hr,L,hd,q⟩;cases U;obtain⟨M,r,P,Z⟩:=I.list (fQ.of J);have:=oy r;subst this;obtain⟨hl,c⟩:=bJ.at hr;obtain⟨e,o⟩:∃e:Value->Bool,∀(j:Nat) (d:Dt) (a:Addr),ds[j]?=À d->as[j]?=À a->e (.ref a)=cA d b:=by
  classical
  refine⟨λu=>decide (∃(j:Nat) (d:Dt) (a:Addr),ds[j]?=À d/\as[j]?=À a/\u=.ref a/\cA d b=true),λj d a f k=>?_⟩;cases h:cA d b with
  |true=>exact Ă ⟨j,d,a,f,k,rfl,h⟩
  |false=>
   refine ë ?_;rintro⟨O,C,Y,D,E,F,m⟩;cases F;rw[Rep.inj I (c O C a D E) (c j d a f k),h]at m;cases m
 refine OY e P.isList (λw hw=>?_) ⟨.bl _,H,I,rfl,?_⟩
 ·have hw:w∈as.map Ñ:=by simpa using hw
  obtain⟨a,G,rfl⟩:=ň.mp hw;obtain⟨j,t,rfl⟩:=ļ G;have n:=Å t;have g:=Å (l:=ds) (i:=j) (by rw[hl];exact t);rw[o j _ _ g n];exact vw I 20 X.A.in1 (by show X.A.units+1+20<_;lia) _ _ (ĺ (EC g) hd) (c j _ _ g n) L rfl T
 ·have f:(as.map Ñ).toArray.any e=ds.any λd=>cA d b:=by
   rw[<-HQ hl o];simp;rfl
  rw[f];exact q
end L2
namespace Mm
open PySem L2
section
variable {T:Tx}{XE:iW}{X:Cx}{pos:kR}
def Yu:AV->Bool
 |.tup _=>true
 |_=>false
def MQ (h:Yu v=true):∃xs,v=.tup xs:=by
 cases v with
 |tup xs=>exact⟨xs,rfl⟩
 |_=>cases h
def Sy (xs:Á AV)(s:S):R AV:=need (tM xs) λa=>need a.max? λM=>.ok (.int M) s
def Um (h:X.calm=true):aG X (.builtin "max") (TU T XE (rV T) Sy):=by
 rintro c s l H xs us Q I r ⟨a,m,o,n,st,e,j,f,k,b⟩;subst e;obtain⟨i,e,b⟩:=b.ö;obtain⟨M,d,b⟩:=b.ö;rw[yl e]at k;rw[k.Bv]at f;rw[List.max?_eq_some_iff]at d;refine F7 h c s l H _ us Q I r ⟨a,i,rfl,f,List.length_pos_of_mem d.1,λA f g=>?_⟩;rw[show A=M by have:=d.2 A f;have:=g M d.1;lia];exact b.Ĺ j a9
noncomputable def JZ:AV->AV->S->R AV
 |v,.ref i,s=>need (toD 20 s v) λb=>need (ù s i) λxs=>need (xs.mapM (toD 20 s)) λa=>if xs.all Yu=true/\aH a<=20 then .ok (.bl (a.any λd=>cA d b)) s else .bad
 |_,_,_=>.bad
def YI (j:X.K=T.K)(hu:X.A.units+30<cLine):jm X (Ĭ .In) (xh T XE JZ):=by
 rintro e s F H x y v u Q I z B ⟨E,a,b,st,g,C,D,c⟩;cases b<;>try (cases a<;>exact c.elim)
 rename_i i;have c:Out T XE (rV T) E H (need (toD 20 st a) λh=>need (ù st i) λxs=>need (xs.mapM (toD 20 st)) λf=>if xs.all Yu=true/\aH f<=20 then .ok (.bl (f.any λd=>cA d h)) st else .bad) Q:=by cases a<;>exact c
 obtain⟨h,m,c⟩:=c.ö;obtain⟨xs,n,c⟩:=c.ö;obtain⟨f,o,c⟩:=c.ö;obtain⟨⟨q,r⟩,c⟩:=c.Ř;obtain⟨p,G,rfl,_,t,k⟩:=g.ef (ċ n) D;obtain⟨l,rfl,_,_⟩:=n6 (λv w=>MQ (Ā.mp q v w)) k;refine R0 hu e s F H _ _ v u Q I z B ⟨p,l,f,h,λ_=>False,λ_=>False,rfl,t,?_,?_,r,c.Ĺ g dt⟩
 ·exact j▸qV (λv d x=>mw g 20 v d x) o k
 ·exact j▸mw g 20 _ _ _ m C
def Dp (d:Ev)(r:hR):Ev:=λa s=>(d a s).bind λb g=>(JO r a g).bind λc f=>match b with
 |.ref i=>need (Gb f i) λe=>need (vR c) λk=>need (a6 e k) λv=>.ok v f
 |_=>.bad
def Jt (hu:X.A.units+1<cLine)(j:PE X o s!"x") (J:PA X E (tP T XE r)):PE X (.Subscript o (.Tuple E kk tp) pos) (tE T XE (Dp m r)):=
 PE.imp (Fh hu j (DA J) (λ_ _=>rfl)) λσ H Q zz=>Ō zz λρ C s N I j=>step N I j λb s1 OO H1 x _ u1 n h e l=>step n h l λc s2 g B y _ Z f D q d=>by
  have e:VR T g B b x:=VR.up Z e;obtain⟨p,xs,rfl,M,vx⟩:=(show ∃p xs,y=.ref p/\B p=À (.tup xs)/\ı T g B c xs from q)
  cases b with
  |ref i=>
   obtain⟨O,u,d⟩:=d.ö;obtain⟨k,w,d⟩:=d.ö;obtain⟨v,z,d⟩:=d.ö;obtain⟨a,ks,rfl,ea,G,U,Y⟩:=f.Im (oo u) e;obtain⟨x',F,P⟩:=(dZ k U Y).1 v z;have L:B p=À (.tup (k.map kV)):=by rw[<-ou w vx];exact M
   exact⟨a,x',rfl,F▸jo.t G L,d.Ĺ f P⟩
  |_=>exact d.elim
def xx:AV->Str×Int
 |.tup (.str x::.int i::_)=>(x,i)
 |_=>(⟨#[]⟩,0)
def Yt:AV->Bool
 |.tup (.str _::.int _::_)=>true
 |_=>false
def Q1 (a b:AV):Bool:=zA (xx a) (xx b)
def r9 (m:Ev):hR:=λa s=>(m a s).bind λv b=>match v with
 |.ref k=>need (ù b k) λl=>if l.all Yt=true/\(l.map xx).Nodup/\l.length<64 then .ok (l.mergeSort Q1) b else .bad
 |_=>.bad
def MP (h:Yt v=true):∃y d r,v=.tup (.str y::.int d::r):=by
 unfold Yt at h;split at h
 ·exact⟨_,_,_,rfl⟩
 ·cases h
def GY {l:Á AV}{p:Á Nat}(pr:p.Perm (Ĉ l.length)):(pick l p).Perm l:=by
 have a:(Ĉ l.length).map (λi=>l.getD i .Ĕ)=l:=by
  apply ng
  ·simp
  ·intro i c b;simp[b]
 have:=pr.map λi=>l.getD i .Ĕ;rw[a]at this;exact this
def S0 {l:Á AV}{p:Á Nat}(nd:(l.map xx).Nodup) (pr:p.Perm (Ĉ l.length)) (h:p.Pairwise λi j=>zA ((l.map xx).getD i (⟨#[]⟩,0)) ((l.map xx).getD j (⟨#[]⟩,0))=true):pick l p=l.mergeSort Q1:=by
 have p1:=GY pr;refine(p1.trans (jT l Q1).symm).eq_of_pairwise (le:=λa b=>Q1 a b=true) (λa b f g m n=>?_) ?_ (nj (le:=Q1) (λa b c h k=>yt h k) (λa b=>yr _ _) l)
 ·have f:=p1.mem_iff.mp f;have g:=(jT l Q1).mem_iff.mp g;obtain⟨i,d,rfl⟩:=ļ f;obtain⟨j,e,rfl⟩:=ļ g;have:xx l[i]=xx l[j]:=BB m n;have:i=j:=(bx (xs:=l.map xx) (h₀:=by simpa using d) (h₁:=by simpa using e) nd).mp (by simpa using this);subst this;rfl
 ·refine lN.mpr (h.imp_of_mem λ{i j} d e h=>?_);have d:i<l.length:=by simpa using pr.mem_iff.mp d
  have e:j<l.length:=by simpa using pr.mem_iff.mp e
  unfold Q1;simp[d,e]at h⊢;exact h
def JB (hK:X.K=T.K)(hm:X.mg "sorted"=none)(h:PE X e s!"x") (o:X.calm=true:=by rfl)(hg:Gl X "sorted":=by rfl)(n:Ì [e] X.env=s!"k"::Ì [] X.env:=by rfl) (u:(ģ pos (Ì [] X.env)).any (·.1)=false:=by rfl) :
  PE X (.Call (.Name "sorted" p) [e] [] pos) (tL T XE (r9 m)):=
 PE.imp (cW (CS o) hg hm ũ (aS h eI n) s!"i" s!"i" n u) λσ H Q zz=>Ō zz λρ O s hs n ho=>step hs n ho λv s1 OO H1 x _ u1 f P C c=>by
  cases v with
  |ref k=>
   obtain⟨l,N,c⟩:=c.ö;obtain⟨⟨L,D,M⟩,c⟩:=c.Ř;obtain⟨a,vs,rfl,_,h1,I⟩:=f.ef (ċ N) C;have hd:∀v∈l,∃y d r,v=.tup (.str y::.int d::r):=λv A=>MP (Ā.mp L v A);obtain⟨J,rfl,g,w⟩:=n6 (λv A=>let ⟨y,d,r,z⟩:=hd v A;⟨_,z⟩) I;refine⟨a,J,l.map xx,rfl,h1,by rw[É,g],λj b d F G=>?_,D,by rw[g];exact M,λp l' pr B t=>?_⟩
   ·have q:j<l.length:=by rw[<-g];exact(Æ.mp F).1
    obtain⟨y,d',r,z⟩:=hd l[j] (e9 q);obtain⟨ws,E,U⟩:=w j b _ F (by rw[Å q,z]);obtain⟨y',ys,rfl,f5,Y⟩:=U.cons_inv;obtain⟨z',zs,rfl,Z,_⟩:=Y.cons_inv;rw[Z.int_inv,f5.str_inv]at E;rw[î,Å q,z]at G;cases G;exact⟨zs,by rw[hK];exact E⟩
   ·rw[<-S0 D (by rw[<-g];exact pr) B]at c;exact c.lst f t (ı.pick I λi hi=>by simpa using pr.mem_iff.mp hi)
  |_=>exact c.elim
end
end Mm
namespace L2
open PySem PySem.Spec PyProof.Rows
def Wi (i j k:Nat)(b:TA):TS:=λD a H=>b a H λc A=>∃v w z,c=[v,w,z]/\D.nx (((a.set i (À v)).set j (À w)).set k (À z)) A
def N9 (hc:X.calm=true)(r:X.N.Nodup)(hi:X.N[i]?=À x)(hj:X.N[j]?=À y)(hk:X.N[k]?=À z)(t:i≠j)(u:i≠k)(B:j≠k)
  (O:X.env.scope.names.lookup x=À .local) (P:X.env.scope.names.lookup y=À .local) (hz:X.env.scope.names.lookup z=À .local) (ha:PA X [a,b,c] ta)
  (hw:jY [.Tuple [.Name x T,.Name y U,.Name z Y] Q pt] (.Tuple [a,b,c] k2 n) X.env=pure (À [x,y,z]))
  (hs:jZ [.Tuple [.Name x T,.Name y U,.Name z Y] Q pt] (.Tuple [a,b,c] k2 n) pos.line X.env=pure false) :
  PS X (.Assign [.Tuple [.Name x T,.Name y U,.Name z Y] Q pt] (.Tuple [a,b,c] k2 n) pos) (Wi i j k ta):=by
 intro d s Z H D I h;rw[Z_];refine Ã (eU ?_);rw[hs];refine Ã (Ê ?_);rw[Ø s!"i"];refine Ã (Tuple_ (ak (ha _ d s Z H _ I h) λus f zz=>iX zz λvs L I1 r1 G=>?_));obtain⟨v,w,q,e1,G⟩:=G;subst e1;obtain⟨g,l,m,rfl,rv,J,rz⟩:∃g l m,us=[g,l,m]/\RelV v g/\RelV w l/\RelV q m:=by
  cases r1 with
  |cons p q=>
   cases q with
   |cons p' q'=>
    cases q' with
    |cons E F=>
     cases F;exact⟨_,_,_,rfl,p,p',E⟩
 refine Ţ ?_ (by show 3<=sizeLine;decide);have I2:Inv X d Z L {f with heap:=f.heap.push {cls:=.type "tuple",data:=.seq [g,l,m].toArray}}:=I1.kept (t':=f.toks) λb o e=>Ä _ e;rw[hw];refine Ã (Ê ?_);show Ù s!"b" X.A (do rule "assign.swapped-stores";let items <-unpackItems (.ref f.heap.objs.size) 3 none;oO [λv=>gJ X.env z v,λv=>gJ X.env y v,λv=>gJ X.env x v] items.reverse;pure Cv) _ _ _;refine Ã (b9 (Ã (WL (items:=#[g,l,m]) (I.ok.hd hc) (ve f.heap _) λh' C=>?_)));have I3:=I2.kept (h':=h') (t':=f.toks) λb o e=>C b o (ñ (Ô e)) e;show Ù _ _ (oO [λv=>gJ X.env z v,λv=>gJ X.env y v,λv=>gJ X.env x v] [m,l,g] >>= λ_=>pure Cv) _ _ _;refine Ã (dH (m4 (gm I3 r hk (.inl hz) rz (λs2 I4=>?_) (.inr hz))));refine dH (m4 (gm I4 r hj (.inl P) J (λs3 I5=>?_) (.inr P)));refine dH (m4 (gm I5 r hi (.inl O) rv (λs4 M=>yP (Ê ?_)) (.inr O)));rw[rC _ _ (ō t),rC _ _ (ō u),rC _ _ (ō B)]at M;exact⟨_,L,M,G⟩
end L2
namespace Mm
open PySem L2
section
variable {T:Tx}{XE:iW}{X:Cx}{pos:kR}
noncomputable def B3 (i j k:Nat)(r:hR):Ms:=λa s=>(r a s).aQ λc b=>match c with
 |[v,w,z]=>.nx (((a.set i (À v)).set j (À w)).set k (À z)) b
 |_=>.bad
def Nt (I:X.calm=true)(F:X.N.Nodup)(G:PA X [a,b,c] (tP T XE r)) (L:X.N[i]?=À x:=by rfl)(M:X.N[j]?=À y:=by rfl)(O:X.N[k]?=À z:=by rfl)(l:i≠j:=by decide)(m:i≠k:=by decide)(n:j≠k:=by decide)
  (Q:X.env.scope.names.lookup x=À .local:=by rfl) (U:X.env.scope.names.lookup y=À .local:=by rfl) (hz:X.env.scope.names.lookup z=À .local:=by rfl)
  (hw:jY [.Tuple [.Name x t,.Name y u,.Name z B] q pt] (.Tuple [a,b,c] k2 f) X.env=pure (À [x,y,z]):=by rfl)
  (o:jZ [.Tuple [.Name x t,.Name y u,.Name z B] q pt] (.Tuple [a,b,c] k2 f) pos.line X.env=pure false:=by rfl) :
  PS X (.Assign [.Tuple [.Name x t,.Name y u,.Name z B] q pt] (.Tuple [a,b,c] k2 f) pos) (tS T XE (B3 i j k r)):=
 PS.imp (N9 I F L M O l m n Q U hz G hw o) λD σ H zz=>lI zz λρ E s o J P=>dm o J P λv s1 g A x _ u1 p h e d=>by
  have e:ı T g A v x:=e
  match v,e,d with
  |[v,w,z],e,d=>
   obtain⟨x1,C,rfl,Y,k2⟩:=e.cons_inv;obtain⟨x2,C,rfl,k4,Z⟩:=k2.cons_inv;obtain⟨x3,C,rfl,k6,k5⟩:=Z.cons_inv;cases k5.nil_inv;exact⟨x1,x2,x3,rfl,d g A _ .refl p (((h.set Y).set k4).set k6)⟩
  |[],_,d=>exact d.elim
  |[_],_,d=>exact d.elim
  |[_,_],_,d=>exact d.elim
  |_::_::_::_::_,_,d=>exact d.elim
end
end Mm
namespace L2
open PySem PySem.Spec PyProof.Rows
section
variable {prog:ď}{w:ī}{A:Ň}{E:Value->Ó->Prop}{s:Ó}
end
end L2
namespace Mm
open PySem L2
section
variable {T:Tx}{XE:iW}{X:Cx}{pos:kR}
def kindOf:AV->Bool
 |.tup _=>true
 |_=>false
end
end Mm
namespace L2
open PySem PySem.Spec PyProof.Rows
end L2
namespace Mm
open PySem L2
section
variable {T:Tx}{XE:iW}{X:Cx}{pos:kR}
end
end Mm
namespace L2
open PySem PySem.Spec PyProof.Rows
abbrev oJ:KeyOrd:=Va oI oI
def SI (K:È):Á V->Hp->VK->Prop:=λxs H Q=>∃(l:Addr) (b:Á Addr) (c:Á Int),xs=[.ref l]/\H l=À (.lst (b.map V.ref))/\c.length=b.length/\(∀(j:Nat) (a:Addr) (d:Int),b[j]?=À a->c[j]?=À d->∃r,gz K H a (.int d::.int j::r))/\b.length<64/\
 ∀e:Addr,H e=none->Q (.ref e) (upd H e (.lst ((Mm.Bw c).map λi=>V.ref (b.getD i 0))))
def CQ {X:Cx}(hc:X.calm=true):aG X (.builtin "sorted") (SI X.K):=by
 rintro c s σ H xs us Q I rv ⟨l,as,ds,rfl,hH,hl,ht,L,q⟩;refine x9 c s σ H _ us Q I rv ⟨l,as,oJ,tuples' true,λi=>((ds.getD i 0,(i:Int)):Int×Int),rfl,hH,L,λc σ Z I1=>?_,?_⟩
 ·have d:∀j a,as[j]?=À a->∃t u r o n,Z.heap.get? a=À o/\o.cls=.type "tuple"/\o.data=.seq (.int (ds.getD j 0) t::.int j u::r).toArray n:=λj a B=>by
   have Y:j<ds.length:=by rw[hl];exact(Æ.mp B).1
   obtain⟨r,e⟩:=ht j a ds[j] B (Å Y);obtain⟨its,f,⟨o,x,g,n,e4⟩,_⟩:=I1.tuple e;cases f with
   |cons e5 E=>
    cases E with
    |cons E e7=>
     obtain⟨t,rfl⟩:=e5;obtain⟨u,rfl⟩:=E;exact⟨t,u,_,o,n,x,g,by rw[e4,Ĥ,Å Y];rfl⟩
  refine⟨?_,?_⟩
  ·intro A J h2 D Q' hq;obtain⟨fs,k1,k2,k3⟩:=uY (h:=J) (P:=λv=>∃i t,v=.int i t) (as:=as) λj a B=>by
    obtain⟨t,u,r,o,n,f,x,g⟩:=d j a B;exact⟨_,o,_,n,D _ _ f,x,g,_,t,rfl⟩
   refine ud (T:=.type "int") k1 (by rw[k3];lia) (λv hv=>?_) s!"i" ?_
   ·obtain⟨i,t,rfl⟩:=k2 v hv;exact xb rfl
   ·have e:(cg "int" != cg "tuple")=true:=by decide
    rw[e];exact hq
  ·intro J D i j a b C U F hC;obtain⟨t,u,r,o,n,f,x,g⟩:=d i a U;obtain⟨t',u',r',o',n',G,f2,m⟩:=d j b F;refine xl (D _ _ f) g (D _ _ G) m ?_;by_cases M:i=j
   ·subst M;rw[U]at F;cases F;rw[f]at G;cases G;rw[g]at m;injection m with m _
    rw[<-m,ë (ŋ _)];refine nQ ?_ _ _;rw[show oJ.blt _ _=false from oJ.irrefl ((ds.getD i 0,(i:Int)):Int×Int)]at hC;exact hC
   ·have hC:C (decide (ds.getD i 0<ds.getD j 0)||(!decide (ds.getD j 0<ds.getD i 0)&&decide ((i:Int)<j))) {Z with heap:=J}:=hC;refine cz ((i_ X.prog X.w).eqBool (a:=ds.getD i 0) (b:=ds.getD j 0) (by simp[i_,cX]) (by simp[i_,cX]) ?_);by_cases hd:ds.getD i 0=ds.getD j 0
    ·rw[hd,ë (Int.lt_irrefl _),rn,g6,Cc]at hC;rw[Ă hd];refine i8 (cz ((i_ X.prog X.w).eqBool (a:=(i:Int)) (b:=(j:Int)) (by simp[i_,cX]) (by simp[i_,cX]) ?_));rw[show decide ((i:Int)=j)=false from ë (by lia)];exact jU (vh _ _ (xk hC))
    ·rw[ë hd];rw[show(decide (ds.getD i 0<ds.getD j 0)||(!decide (ds.getD j 0<ds.getD i 0)&&decide ((i:Int)<j)))=decide (ds.getD i 0<ds.getD j 0) by
      by_cases y:ds.getD i 0<ds.getD j 0
      ·rw[Ă y,Ww]
      ·rw[ë y,Ă (by lia:ds.getD j 0<ds.getD i 0)];rfl]at hC
     exact jU (PySem.W.kat_lt_int hC)
 ·intro p l' pr O N;have z:=q l' N;rw[<-Mm.Bx (ds:=ds) (by rw[hl];exact pr) (O.imp λ{i j} h=>by
   rcases h with h|⟨h,k⟩
   ·have h:(decide (ds.getD i 0<ds.getD j 0)||(!decide (ds.getD j 0<ds.getD i 0)&&decide ((i:Int)<j)))=true:=h;simp only[fK,ē,g0,Š,LC]at h;rcases h with h|⟨h,k⟩
    ·exact .inl (Ă h)
    ·by_cases y:ds.getD i 0<ds.getD j 0
     ·exact .inl (Ă y)
     ·exact .inr ⟨by lia,by lia⟩
   ·exact .inr ⟨ğ (λz:Int×Int=>z.1) h,k⟩)]at z
  exact z
end L2
namespace Mm
open PySem L2
noncomputable def MN:Nat->Á AV->Bool
 |_,[]=>true
 |k,.tup (.int _::.int j::_)::r=>decide (j=k)&&MN (k+1) r
 |_,_=>false
theorem EU:∀{l:Á AV}{k j:Nat}{v:AV},MN k l=true->l[j]?=À v->∃r,v=.tup (.int (Mq v)::.int (k+j:Nat)::r)
 |[],_,_,_,_,e=>by simp at e
 |w::l,k,j,v,h,e=>by
  unfold MN at h;split at h
  ·rename_i a;cases a
  ·rename_i d i r b a;cases a;rw[ē,Š]at h;cases j with
   |zero=>simp at e;subst e;exact⟨r,by rw[h.1];rfl⟩
   |succ j=>
    obtain⟨r,e⟩:=EU h.2 (by simpa using e);exact⟨r,by rw[Nat.add_assoc,Nat.add_comm 1]at e;exact e⟩
  ·cases h
def r4 (m:hR):hR:=λa s=>(m a s).bind λl b=>if MN 0 l=true/\l.length<64 then .ok (pick l (Bw (l.map Mq))) b else .bad
section
variable {T:Tx}{XE:iW}{X:Cx}{pos:kR}
def Jz (P:X.K=T.K)(Z:X.mg "sorted"=none)(h:PE X e (tL T XE m)) (o:X.calm=true:=by rfl)(U:Gl X "sorted":=by rfl)(n:Ì [e] X.env=s!"k"::Ì [] X.env:=by rfl) (t:(ģ pos (Ì [] X.env)).any (·.1)=false:=by rfl) :
  PE X (.Call (.Name "sorted" p) [e] [] pos) (tL T XE (r4 m)):=
 PE.imp (cW (CQ o) U Z ũ (aS h eI n) s!"i" s!"i" n t) λσ H Q zz=>Ō zz λρ G s hs n ho=>step hs n ho λl s1 OO H1 x _ u1 w I y c=>by
  obtain⟨⟨E,F⟩,c⟩:=c.Ř;obtain⟨a,vs,rfl,_,_,O,k⟩:=y;have hd:∀(j:Nat) (v:AV),l[j]?=À v->∃r,v=.tup (.int (Mq v)::.int (j:Nat)::r):=λj v e=>by
   obtain⟨r,e⟩:=EU E e;exact⟨r,by rw[FK]at e;exact e⟩
  obtain⟨D,rfl,g,u⟩:=n6 (λv hv=>by
   obtain⟨j,f,rfl⟩:=ļ hv;obtain⟨r,e⟩:=hd j _ (Å f);exact⟨_,e⟩) k
  refine⟨a,D,l.map Mq,rfl,O,by rw[É,g],λj b d B C=>?_,by rw[g];exact F,λl' q=>?_⟩
  ·have f:j<l.length:=by rw[<-g];exact(Æ.mp B).1
   obtain⟨r,z⟩:=hd j _ (Å f);obtain⟨ws,A,J⟩:=u j b _ B (by rw[Å f,<-z]);obtain⟨y',ys,rfl,N,L⟩:=J.cons_inv;obtain⟨z',zs,rfl,M,_⟩:=L.cons_inv;rw[M.int_inv,N.int_inv]at A;rw[î,Å f]at C;cases C;exact⟨zs,by rw[P];exact A⟩
  ·exact c.lst w q (ı.pick k λi Y=>by
    have:=(vO _).mem_iff.mp Y;rw[g];simpa using this)
end
end Mm
namespace Ro
open PySem L2 Mm
def vQ:AV:=.str "coin"
def bK:AV:=.int 182
def rX:Ms:=
 (Č (Ç zM (Ç bY (Ç ì (mv 0) s!"c") (Ç ì (mv 1) s!"d")) (Ç bY (Ç ì (mv 1) s!"c") (Ç ì (mv 0) s!"d"))))
def cZ:Á AV->S->R AV:=bH 2 rX
def fe:Ms:=
 (ã (oX (mv 0) (gT 3 (ß (gN 3) (ß (gN 4) (ß (gN 2) ś)))))
 (ã (a5 (cB (Ç Ş (mv 3) (mc (.str "of")))) (Č (mv 2)) ĉ)
 (ã (ņ 1 (mc cw))
 (ã (lG (Ŧ (mv 2)) (gT 2 (ß (gN 5) (ß (gN 6) ś))) (a5 (cT (å 2 cZ (Â (mv 1) (Â (mv 6) Ï)))) (ņ 1 (mv 6)) ĉ))
 (Č (mv 1))))))
def ŏ:Á AV->S->R AV:=bH 7 fe
def pG:Ms:=
 (Č (å 2 cZ (Â (mc yo) (Â (C4 (å 1 hU (Â (Ď (ł [("row",none)] (Ŧ (mv 0)) (gN 0) (cB (Ç mq (Ç ì (mv 0) s!"c") (mc ū))) (å 1 ŏ s!"u"))) Ï))) Ï))))
def bT:Á AV->S->R AV:=bH 1 pG
def rS:Ms:=
 (Č (Ď (r8 20 "by_days.<locals>.<lambda>" (mv 0))))
def dV:Á AV->S->R AV:=bH 1 rS
def qw:Ms:=
 (ã (oX (mv 0) (gT 6 (ß (gN 1) (ß (gN 2) (ß (gN 3) (ß (gN 4) (ß (gN 5) (ß (gN 6) ś))))))))
 (Č (Pr (cB (Ç Ş (mv 1) (mc (.str "sold")))) (mv 4) (bg wb (mv 4)))))
def jg:Á AV->S->R AV:=bH 7 qw
def o8:Ms:=
 (ã (ņ 2 s!"c")
 (ã (lG (Ŧ (mv 0)) (gN 3) (a5 (cB (Ç Ş (Ç ì (mv 3) s!"e") (mv 1))) (ã (Oj 2 DH (å 1 jg (Â (mv 3) Ï)))
 (a5 (cB (Ç zM (mv 2) s!"c")) (Č (mc (.bl true))) ĉ)) ĉ))
 (Č (mc (.bl false)))))
def g9:Á AV->S->R AV:=bH 4 o8
def ij:Ms:=
 (ã (lF 9 "keeps" (mv 0) Dm)
 (ã (lF 9 "rows" (mv 0) Dm)
 (ã (lF 9 "hands" (mv 0) GI)
 (ã (lF 9 "makers" (mv 0) Dm)
 (ã (lF 9 "rates" (mv 0) GI)
 (ã (lF 9 "half" (mv 0) (mc bK))
 (ã (lF 9 "money" (mv 0) (Ď (Ŭ Ï)))
    (lF 9 "debts" (mv 0) (Ď (Ŭ Ï))))))))))
def ai:Á AV->S->R AV:=bH 1 ij
def fw:Ms:=
 (a5 (cB (Ç eG (mv 1) (bg (aa 9 "keeps") (mv 0)))) (Au 3 (Â (jL (bX (mc (.str "no person is called ")) (bX (bg kh (mv 1)) sf))) Ï)) ĉ)
def Ě:Á AV->S->R AV:=bH 2 fw
def dN:Ms:=
 (a5 (cB (Ç eG (mv 1) (bg (aa 9 "rows") (mv 0)))) (Au 3 (Â (jL (bX (mc (.str "no work is called ")) (bX (bg kh (mv 1)) sf))) Ï)) ĉ)
def ě:Á AV->S->R AV:=bH 2 dN
def iq:Ms:=
 (Č (Xb (Ç lD (mv 1) (bg (aa 9 "keeps") (mv 0))) (Ç lD (mv 1) (bg (aa 9 "rows") (mv 0)))))
def Ű:Á AV->S->R AV:=bH 2 iq
def gP:Ms:=
 (a5 (cT (Į 9 "has_name" 1 Ű (mv 0) s!"t")) (Au 2 (Â (jL (bX (mc (.str "a person or a work is called ")) (bX (bg kh (mv 1)) (bX (mc (.str " already")) sf)))) Ï)) ĉ)
def av:Á AV->S->R AV:=bH 2 gP
def fR:Ms:=
 (ã (į (Į 9 "need_free" 1 av (mv 0) s!"t"))
    (gF (bg (aa 9 "keeps") (mv 0)) (mv 1) (mc cw)))
def ż:Á AV->S->R AV:=bH 2 fR
def ik:Ms:=
 (ã (į (Į 9 "need_free" 1 av (mv 0) s!"t"))
    (gF (bg (aa 9 "rows") (mv 0)) (mv 1) (Ť Ï)))
def aV:Á AV->S->R AV:=bH 2 ik
def eA:Ms:=
 (Č (Ď (l6 (bg (aa 9 "keeps") (mv 0)))))
def Ŗ:Á AV->S->R AV:=bH 1 eA
def fT:Ms:=
 (Č (Ď (l6 (bg (aa 9 "rows") (mv 0)))))
def Ū:Á AV->S->R AV:=bH 1 fT
def bE:Ms:=
 (ã (į (Į 9 "need_work" 1 ě (mv 0) s!"t"))
 (ã (lG (Ŧ (mv 2)) (gT 3 (ß (gN 3) (ß (gN 4) (ß (gN 5) ś)))) (a5 (qz (cT (Į 9 "has_name" 1 Ű (mv 0) (Â (mv 4) Ï)))) (Au 3 (Â (jL (bX (mc (.str "no person and no work is called ")) (bX (bg kh (mv 4)) sf))) Ï)) ĉ))
 (ã (a5 (cT (å 1 bT (Â (mv 2) Ï))) (Au 4 (Â (mc (.str "the rows give away more than the whole")) Ï)) ĉ)
    (gF (bg (aa 9 "rows") (mv 0)) (mv 1) (mv 2)))))
def Ğ:Á AV->S->R AV:=bH 6 bE
def js:Ms:=
 (ã (į (Į 9 "need_work" 1 ě (mv 0) s!"t"))
 (Č (Ç ô (bg (aa 9 "rows") (mv 0)) (mv 1))))
def bj:Á AV->S->R AV:=bH 2 js
def nC:Ms:=
 (ã (į (Į 9 "need_person" 1 Ě (mv 0) s!"t"))
 (ã (į (Į 9 "need_person" 1 Ě (mv 0) (Â (mv 3) Ï)))
 (ã (a5 (cB (Ç Ş (mv 1) (mv 3))) (Au 3 (Â (mc (.str "nobody hands on to themselves")) Ï)) ĉ)
 (ã (a5 (cB (BF (Â (mv 1) (Â (mv 2) Ï)) (bg (aa 9 "hands") (mv 0)))) (Au 2 (Â (jL (bX (bg kh (mv 1)) (bX (mc (.str " has a hand of that day already")) sf))) Ï)) ĉ)
    (zY (bg (aa 9 "hands") (mv 0)) (Â (mv 1) (Â (mv 2) Ï)) (Ť (Â (mv 3) (Â (mv 4) Ï))))))))
def fY:Á AV->S->R AV:=bH 5 nC
def il:Ms:=
 (ã (į (Į 9 "need_person" 1 Ě (mv 0) s!"t"))
 (Č (Ď (ł [("giver",none),("day",none),("name",none),("part",none),("person",À 1)] (n8 (j' (bg (aa 9 "hands") (mv 0)))) (gT 2 (ß s!"v" (ß (gT 2 (ß (gN 2) (ß (gN 3) ś))) ś))) (cB (Ç Ş (mv 0) (mv 4))) (Ť (Â (mv 1) (Â (mv 2) (Â (mv 3) Ï))))))))
def aW:Á AV->S->R AV:=bH 2 il
def j6:Ms:=
 (ã (į (Į 9 "need_work" 1 ě (mv 0) s!"t"))
 (ã (į (Į 9 "need_person" 1 Ě (mv 0) (Â (mv 3) Ï)))
 (ã (a5 (cB (Ç lD (mv 1) (bg (aa 9 "makers") (mv 0)))) (Au 2 (Â (jL (bX (mc (.str "the maker of ")) (bX (bg kh (mv 1)) (bX (mc (.str " is known already")) sf)))) Ï)) ĉ)
    (gF (bg (aa 9 "makers") (mv 0)) (mv 1) (Ť (Â (mv 2) (Â (mv 3) Ï)))))))
def c9:Á AV->S->R AV:=bH 4 j6
def ir:Ms:=
 (ã (į (Į 9 "need_work" 1 ě (mv 0) s!"t"))
 (Č (yx (bg (aa 9 "makers") (mv 0)) (mv 1))))
def bF:Á AV->S->R AV:=bH 2 ir
def mL:Ms:=
 (ã (a5 (cB (Ç Ş (mv 1) (mc vQ))) (Au 2 (Â (mc (.str "a coin is worth a coin")) Ï)) ĉ)
 (ã (a5 (cB (BF (Â (mv 1) (Â (mv 2) Ï)) (bg (aa 9 "rates") (mv 0)))) (Au 2 (Â (jL (bX (bg kh (mv 1)) (bX (mc (.str " has a worth of that day already")) sf))) Ï)) ĉ)
    (zY (bg (aa 9 "rates") (mv 0)) (Â (mv 1) (Â (mv 2) Ï)) (mv 3))))
def fm:Á AV->S->R AV:=bH 4 mL
def mN:Ms:=
 (ã (a5 (cB (Ç Ş (mv 1) (mc vQ))) (Č (mc yo)) ĉ)
 (ã (Om (bg (aa 9 "rates") (mv 0)) (ņ 3 (Ď (ł [("told",none),("told_day",none),("currency",À 1),("day",À 2)] (S3 (bg (aa 9 "rates") (mv 0))) s!"v" (qy (cB (Ç Ş (mv 0) (mv 2))) (cB (Ç GS (mv 1) (mv 3)))) (mv 1)))))
 (ã (a5 (qz (cT (mv 3))) (Au 5 (Â (jL (bX (bg kh (mv 1)) (bX (mc (.str " has no worth on that day")) sf))) Ï)) ĉ)
 (Č (Dp (bg (aa 9 "rates") (mv 0)) (Â (mv 1) (Â (tF Sy (Di (mv 3))) Ï)))))))
def cQ:Á AV->S->R AV:=bH 4 mN
def gQ:Ms:=
 (Č (Ď (ł [("worth",none),("currency",none),("day",none)] (n8 (j' (bg (aa 9 "rates") (mv 0)))) (gT 2 (ß (gT 2 (ß (gN 1) (ß (gN 2) ś))) (ß (gN 0) ś))) fV (Ť (Â (mv 1) (Â (mv 2) s!"u"))))))
def aw:Á AV->S->R AV:=bH 1 gQ
def mK:Ms:=
 (ã (į (Į 9 "need_person" 1 Ě (mv 0) s!"t"))
    (gF (bg (aa 9 "keeps") (mv 0)) (mv 1) (mv 2)))
def fj:Á AV->S->R AV:=bH 3 mK
def jr:Ms:=
 (ã (į (Į 9 "need_person" 1 Ě (mv 0) s!"t"))
 (Č (Ç ô (bg (aa 9 "keeps") (mv 0)) (mv 1))))
def cj:Á AV->S->R AV:=bH 2 jr
def mJ:Ms:=
  (lF 9 "half" (mv 0) (mv 1))
def fi:Á AV->S->R AV:=bH 2 mJ
def gO:Ms:=
 (Č (bg (aa 9 "half") (mv 0)))
def au:Á AV->S->R AV:=bH 1 gO
def mM:Ms:=
 (ã (į (Į 9 "need_work" 1 ě (mv 0) (Â (mv 2) Ï)))
 (ã (į (Į 9 "worth_of" 2 cQ (mv 0) (Â (mv 5) s!"t")))
 (į (gg "list" Ő (bg (aa 9 "money") (mv 0)) (Â (Ť (Â (mc (.str "sold")) (Â (mv 1) (Â (mv 2) (Â (mv 3) (Â (mv 4) (Â (mv 5) Ï))))))) Ï)))))
def fo:Á AV->S->R AV:=bH 6 mM
def mH:Ms:=
 (ã (į (Į 9 "need_work" 1 ě (mv 0) (Â (mv 2) Ï)))
 (ã (į (Į 9 "worth_of" 2 cQ (mv 0) (Â (mv 5) s!"t")))
 (ã (ņ 6 (Ť (Â (mc (.str "back")) (Â (mv 1) (Â (mv 2) (Â (mv 3) (Â (mv 4) (Â (mv 5) Ï))))))))
 (ã (a5 (cT (C4 (å 2 g9 (Â (Ď (gf (å 1 dV (Â (Ç ť (bg (aa 9 "money") (mv 0)) (Ď (Ŭ (Â (mv 6) Ï)))) Ï)))) (Â (mv 2) Ï))))) (Au 6 (Â (jL (bX (mc (.str "more of ")) (bX (bg kh (mv 2)) (bX (mc (.str " would be brought back than were left")) sf)))) Ï)) ĉ)
 (į (gg "list" Ő (bg (aa 9 "money") (mv 0)) (Â (mv 6) Ï)))))))
def fg:Á AV->S->R AV:=bH 7 mH
def fS:Ms:=
 (Č (Ď (gf (å 1 dV (Â (bg (aa 9 "money") (mv 0)) Ï)))))
def Ž:Á AV->S->R AV:=bH 1 fS
def mI:Ms:=
 (ã (į (Į 9 "need_person" 1 Ě (mv 0) (Â (mv 3) Ï)))
 (į (gg "list" Ő (bg (aa 9 "debts") (mv 0)) (Â (Ť (Â (mv 1) (Â (mv 2) (Â (mv 3) (Â (mv 4) Ï))))) Ï))))
def fh:Á AV->S->R AV:=bH 5 mI
def gM:Ms:=
 (Č (Ď (gf (å 1 dV (Â (bg (aa 9 "debts") (mv 0)) Ï)))))
def ar:Á AV->S->R AV:=bH 1 gM
def lV:Ms:=
 (ã (ņ 3 (å 2 á (Â (mv 0) (Â (mc (.int 8)) Ï))))
 (ã (a5 (cB (Ç p7 (mv 3) (mc (.int 5)))) (Č (Ť (Â (Ť (Â (mc (.str "length")) (Â (mv 1) (Â (Ç ť s!"d" (å 2 á (Â (mv 0) (Â (yi (Ç ì (Ď (Ŭ (Â (mc (.int 5)) (Â (mc (.int 1000)) Ï)))) (å 2 á (Â (mv 0) (Â s!"e" Ï))))) Ï)))) Ï)))) (Â s!"c" Ï)))) ĉ)
 (ã (a5 (Aq (cB (Ç p7 (mv 3) (mc (.int 3)))) (cB (Ç Ş (mv 2) s!"c"))) (Č (Ť (Â (Ť (Â (mc (.str "left")) (Â (mv 1) (Â (å 1 aK s!"u") Ï)))) (Â s!"c" Ï)))) ĉ)
 (ã (ņ 4 (Ç ť s!"d" (å 2 á (Â (mv 0) (Â (sh BR (Â (mv 2) (Â (yi (Ç ì (Ď (Ŭ (Â (mc (.int 12)) (Â (mc (.int 60)) Ï)))) (Ç iP (å 2 á (Â (mv 0) (Â (mc (.int 3)) Ï))) s!"e"))) Ï))) Ï)))))
 (ã (a5 (cB (Ç p7 (mv 3) s!"d")) (Č (Ť (Â (Ť (Â (mc (.str "of")) (Â (mv 1) (Â (å 2 ŝ (Â (mv 4) (Â (mc (.int 60)) Ï))) Ï)))) (Â (mv 4) Ï)))) ĉ)
 (ã (ņ 5 (Ď (Ŭ Ï)))
 (ã (ņ 6 s!"c")
 (ã (lG (xK (Â (Ç ť s!"d" (å 2 á (Â (mv 0) (Â (mc (.int 3)) Ï)))) Ï)) (gN 7) (ã (ņ 6 (Ç ť (Ç ť (mv 6) s!"d") (å 2 á (Â (mv 0) (Â (yi (Ç ì (Ď (Ŭ (Â (mc (.int 3)) (Â (mc (.int 9)) Ï)))) (å 2 á (Â (mv 0) (Â s!"e" Ï))))) Ï)))))
 (į (gg "list" Ő (mv 5) (Â (Ť (Â (mv 6) (Â (å 2 ŝ (Â (Ç ť s!"d" (å 2 á (Â (mv 0) (Â (mv 4) Ï)))) (Â (mc (.int 60)) Ï))) Ï))) Ï)))))
 (ã (į (gg "list" Ő (mv 5) (Â (Ť (Â (mc .Ĕ) (Â (å 2 ŝ (Â (Ç ť s!"d" (å 2 á (Â (mv 0) (Â (mv 4) Ï)))) (Â (mc (.int 60)) Ï))) Ï))) Ï)))
 (Č (Ť (Â (Ť (Â (mc (.str "steps")) (Â (mv 1) (Â (tF kM (uv (mv 5))) Ï)))) (Â (mv 4) Ï)))))))))))))
def dU:Á AV->S->R AV:=bH 8 lV
def kB:Ms:=
 (ã (ņ 3 (mc (.int 60)))
 (ã (ņ 4 (Ď (Ŭ Ï)))
 (ã (lG (xK (Â (Ç bY (mv 2) (sh yA (Â (C4 (Ç ji (mv 1) (Ď (Ŭ Ï)))) Ï))) Ï)) (gN 5) (ã (oX (å 3 dU (Â (mv 0) (Â (Ç ì (mv 1) (å 2 á (Â (mv 0) (Â (sh i3 s!"t") Ï)))) (Â (mv 3) Ï)))) (gT 2 (ß (gN 6) (ß (gN 7) ś))))
 (ã (ņ 3 (Ç Fc (mv 3) (mv 7)))
 (a5 (Aq (cB (Ç ji (Ç ì (mv 6) s!"c") (mc (.str "left")))) (cB (Ç zM (C4 (gg "list" qQ (Ď (ł [("_law_one",none)] (Ŧ (mv 4)) (gN 0) fV (Ç ì (mv 0) s!"c"))) (Â (mc (.str "left")) Ï))) (mc (.int 3))))) (į (gg "list" Ő (mv 4) (Â (mv 6) Ï))) ĉ))))
 (Č (tF kM (uv (mv 4)))))))
def cY:Á AV->S->R AV:=bH 8 kB
def qv:Ms:=
 (ã (ņ 3 (Pr (cB (Ç Ş (mv 1) (mc (.str "coin")))) (Ť (Â s!"d" (Â s!"d" Ï))) (mc .Ĕ)))
 (ã (lG (n8 (r8 21 "_law_worth.<locals>.<lambda>" (Ç ô (mv 0) (mc (.str "rates"))))) (gT 3 (ß (gN 4) (ß (gN 5) (ß (gN 6) ś)))) (a5 (qy (cB (Ç Ş (mv 4) (mv 1))) (cB (Ç GS (mv 5) (mv 2)))) (ņ 3 (mv 6)) ĉ))
 (Č (mv 3))))
def jf:Á AV->S->R AV:=bH 7 qv
def iv:Ms:=
 (Č (Ď (ł [("_law_day",none),("_law_k",none),("_law_some",À 0)] (n8 (r4 (ł [("_law_k",none),("_law_one",none)] (DX (mv 0)) s!"v" fV (Ť (Â (Ç ì (mv 1) s!"d") s!"u"))))) s!"v" fV (Ç ì (mv 2) (mv 1)))))
def Ľ:Á AV->S->R AV:=bH 1 iv
def j8:Ms:=
 (ã (ņ 1 Dm)
 (ã (lG (n8 (gf (å 1 Ľ s!"u"))) (gT 6 (ß (gN 2) (ß (gN 3) (ß (gN 4) (ß (gN 5) (ß (gN 6) (ß (gN 7) ś))))))) (ã (gF (mv 1) (mv 4) (Ç ť (tY (mv 1) (mv 4) s!"c") (Pr (cB (Ç Ş (mv 2) (mc (.str "sold")))) (mv 5) (bg wb (mv 5)))))
 (a5 (cB (Ç zM (Ç ô (mv 1) (mv 4)) s!"c")) (Č (mc (.bl false))) ĉ)))
 (Č (mc (.bl true)))))
def c_:Á AV->S->R AV:=bH 8 j8
def iy:Ms:=
 (Č (Ç ť (Ď (gf (å 2 dS (Â (mv 0) (Â (mc (.int 7)) Ï))))) (Ď (Ŭ (Â (mc (.str "never")) Ï)))))
def bG:Á AV->S->R AV:=bH 1 iy
def rR:Ms:=
 (Č (Ç ì (mv 1) (å 2 á (Â (mv 0) (Â (sh i3 s!"t") Ï)))))
def cq:Á AV->S->R AV:=bH 2 rR
def ju:Ms:=
 (Č (yi (Ç ì (Ď (Ŭ (Â (å 2 á (Â (mv 0) (Â (mc (.int 4)) Ï))) (Â (å 2 á (Â (mv 0) (Â (mc (.int 40)) Ï))) (Â (å 2 á (Â (mv 0) (Â (mc (.int 10000)) Ï))) Ï))))) (å 2 á (Â (mv 0) (Â (mc (.int 3)) Ï))))))
def aJ:Á AV->S->R AV:=bH 1 ju
def lb:Ms:=
 (Č (å 2 ŝ (Â (Ç ť s!"d" (å 2 á (Â (mv 0) (Â (mc (.int 1000)) Ï)))) (Â (Ç ť s!"d" (å 2 á (Â (mv 0) (Â (yi (Ç ì (Ď (Ŭ (Â (mc (.int 3)) (Â (mc (.int 1000)) Ï)))) (å 2 á (Â (mv 0) (Â s!"e" Ï))))) Ï)))) Ï))))
def dO:Á AV->S->R AV:=bH 1 lb
def nE:Ms:=
 (ã (B3 5 6 7 (Â (å 2 cq (Â (mv 0) s!"t")) (Â (å 2 cq (Â (mv 0) s!"t")) (Â (å 1 aJ s!"u") Ï))))
 (ã (a5 (cB (Ç mq (mv 2) (Ť (Â (mc (.str "person")) (Â (mc (.str "work")) Ï))))) (Č (Ť (Â (mv 2) (Â (mv 5) Ï)))) ĉ)
 (ã (a5 (cB (Ç Ş (mv 2) (mc (.str "rows")))) (ã (ņ 8 (å 3 cY (Â (mv 0) (Â (E7 (mv 1) oN (oS (mc (.int 7)))) (Â (å 2 á (Â (mv 0) (Â (mc (.int 5)) Ï))) Ï)))))
 (ã (a5 (cB (Ç Ş (å 2 á (Â (mv 0) (Â (mc (.int 3)) Ï))) s!"c")) (ņ 8 (E7 (Ç ť (mv 8) (Ť (Â (Ť (Â (mc (.str "of")) (Â (mv 6) (Â (å 1 aK s!"u") Ï)))) (Â (Ť (Â (mc (.str "of")) (Â (mv 5) (Â (å 1 aK s!"u") Ï)))) Ï)))) (oS (bg wb (mc (.int 8)))) oN)) ĉ)
 (Č (Ť (Â (mv 2) (Â (mv 5) (Â (mv 8) Ï))))))) ĉ)
 (ã (a5 (cB (Ç Ş (mv 2) (mc (.str "hand")))) (Č (Ť (Â (mv 2) (Â (mv 5) (Â (mv 7) (Â (mv 6) (Â (å 1 aK s!"u") Ï))))))) ĉ)
 (ã (a5 (cB (Ç Ş (mv 2) (mc (.str "known")))) (Č (Ť (Â (mv 2) (Â (mv 5) (Â (mv 7) (Â (mv 6) Ï)))))) ĉ)
 (ã (a5 (cB (Ç Ş (mv 2) (mc (.str "rate")))) (Č (Ť (Â (mv 2) (Â (yi (Ç ì (Ď (Ŭ (Â (mc (.str "coin")) (Â (mc (.str "eur")) (Â (mc (.str "usd")) (Â (mc (.str "eur")) (Â (mc (.str "usd")) Ï))))))) (å 2 á (Â (mv 0) (Â (mc (.int 5)) Ï))))) (Â (mv 7) (Â (å 1 dO s!"u") Ï)))))) ĉ)
 (ã (a5 (cB (Ç Ş (mv 2) (mc (.str "keep")))) (Č (Ť (Â (mv 2) (Â (mv 5) (Â (yi (Ç ì (Ď (Ŭ (Â (Ť (Â s!"c" (Â s!"d" Ï))) (Â (Ť (Â s!"d" (Â s!"d" Ï))) (Â (å 1 aK s!"u") (Â (å 1 aK s!"u") Ï)))))) (å 2 á (Â (mv 0) (Â (mc (.int 4)) Ï))))) Ï))))) ĉ)
 (ã (a5 (cB (Ç Ş (mv 2) (mc (.str "half")))) (Č (Ť (Â (mv 2) (Â (yi (Ç ì (Ď (Ŭ (Â s!"d" (Â (mc (.int 400)) (Â (mc (.int 182)) (Â (Ç ť s!"d" (å 2 á (Â (mv 0) (Â (mc (.int 400)) Ï)))) Ï)))))) (å 2 á (Â (mv 0) (Â (mc (.int 4)) Ï))))) Ï)))) ĉ)
 (ã (a5 (cB (Ç Ş (mv 2) (mc (.str "debt")))) (ã (ņ 9 (yi (Ç ì (Ď (Ŭ (Â s!"d" (Â (Ç t6 (mc (.int 10)) (mc (.int 9))) (Â (Ç ť s!"d" (å 2 á (Â (mv 0) (Â (Ç t6 (mc (.int 10)) (mc (.int 6))) Ï)))) Ï))))) (å 2 á (Â (mv 0) (Â (mc (.int 3)) Ï))))))
 (Č (Ť (Â (mv 2) (Â (yi (Ç ì (Ď (Ŭ (Â (mc (.str "advance")) (Â (mc (.str "wrong")) Ï)))) (å 2 á (Â (mv 0) (Â s!"e" Ï))))) (Â (mv 7) (Â (mv 5) (Â (mv 9) Ï)))))))) ĉ)
 (ã (ņ 3 (Ç ť s!"d" (å 2 á (Â (mv 0) (Â (yi (Ç ì (Ď (Ŭ (Â (mc (.int 5)) (Â (mc (.int 10)) (Â (Ç t6 (mc (.int 10)) (mc (.int 6))) Ï))))) (å 2 á (Â (mv 0) (Â (mc (.int 3)) Ï))))) Ï)))))
 (ã (ņ 4 (Ç ť s!"d" (å 2 á (Â (mv 0) (Â (yi (Ç ì (Ď (Ŭ (Â (mc (.int 20)) (Â (Ç t6 (mc (.int 10)) (mc (.int 9))) Ï)))) (å 2 á (Â (mv 0) (Â s!"e" Ï))))) Ï)))))
 (Č (Ť (Â (mv 2) (Â (mv 7) (Â (mv 5) (Â (mv 3) (Â (mv 4) (Â (yi (Ç ì (Ď (Ŭ (Â (mc (.str "coin")) (Â (mc (.str "coin")) (Â (mc (.str "eur")) (Â (mc (.str "usd")) (Â (mc (.str "usd")) Ï))))))) (å 2 á (Â (mv 0) (Â (mc (.int 5)) Ï))))) Ï)))))))))))))))))))
def fF:Á AV->S->R AV:=bH 10 nE
def lg:Ms:=
 (ã (jV 2 3 (Â (Ç ì (mv 1) s!"c") (Â (E7 (mv 1) (oS s!"d") oN) Ï)))
 (a5 (cB (Ç Ş (mv 2) (mc (.str "person")))) (į (Į 9 "add_person" 1 ż (mv 0) (Â (Ç ì (mv 3) s!"c") Ï))) (a5 (cB (Ç Ş (mv 2) (mc (.str "work")))) (į (Į 9 "add_work" 1 aV (mv 0) (Â (Ç ì (mv 3) s!"c") Ï))) (a5 (cB (Ç Ş (mv 2) (mc (.str "rows")))) (į (Į 9 "put_rows" 2 Ğ (mv 0) (Â (Ç ì (mv 3) s!"c") (Â (Ç ì (mv 3) s!"d") Ï)))) (a5 (cB (Ç Ş (mv 2) (mc (.str "hand")))) (į (Į 9 "hand_on" 4 fY (mv 0) (Â (Ç ì (mv 3) s!"c") (Â (Ç ì (mv 3) s!"d") (Â (Ç ì (mv 3) s!"e") (Â (Ç ì (mv 3) (mc (.int 3))) Ï)))))) (a5 (cB (Ç Ş (mv 2) (mc (.str "known")))) (į (Į 9 "make_known" 3 c9 (mv 0) (Â (Ç ì (mv 3) s!"c") (Â (Ç ì (mv 3) s!"d") (Â (Ç ì (mv 3) s!"e") Ï))))) (a5 (cB (Ç Ş (mv 2) (mc (.str "rate")))) (į (Į 9 "put_rate" 3 fm (mv 0) (Â (Ç ì (mv 3) s!"c") (Â (Ç ì (mv 3) s!"d") (Â (Ç ì (mv 3) s!"e") Ï))))) (a5 (cB (Ç Ş (mv 2) (mc (.str "keep")))) (į (Į 9 "put_keep" 2 fj (mv 0) (Â (Ç ì (mv 3) s!"c") (Â (Ç ì (mv 3) s!"d") Ï)))) (a5 (cB (Ç Ş (mv 2) (mc (.str "half")))) (į (Į 9 "put_half" 1 fi (mv 0) (Â (Ç ì (mv 3) s!"c") Ï))) (a5 (cB (Ç Ş (mv 2) (mc (.str "sold")))) (į (Į 9 "put_sold" 5 fo (mv 0) (Â (Ç ì (mv 3) s!"c") (Â (Ç ì (mv 3) s!"d") (Â (Ç ì (mv 3) s!"e") (Â (Ç ì (mv 3) (mc (.int 3))) (Â (Ç ì (mv 3) (mc (.int 4))) Ï))))))) (a5 (cB (Ç Ş (mv 2) (mc (.str "back")))) (į (Į 9 "put_back" 5 fg (mv 0) (Â (Ç ì (mv 3) s!"c") (Â (Ç ì (mv 3) s!"d") (Â (Ç ì (mv 3) s!"e") (Â (Ç ì (mv 3) (mc (.int 3))) (Â (Ç ì (mv 3) (mc (.int 4))) Ï))))))) (į (Į 9 "put_debt" 4 fh (mv 0) (Â (Ç ì (mv 3) s!"c") (Â (Ç ì (mv 3) s!"d") (Â (Ç ì (mv 3) s!"e") (Â (Ç ì (mv 3) (mc (.int 3))) Ï)))))))))))))))))
def Ŵ:Á AV->S->R AV:=bH 4 lg
def fU:Ms:=
 (ã (ņ 2 (mc .Ĕ))
 (ã (wu 6 5 (λc=>decide (c<9)&&õ 0 c) (į (å 2 Ŵ (Â (mv 0) s!"t"))) (ņ 2 (mv 5)))
 (ã (a5 (cB (Ç qR (mv 2) (mc .Ĕ))) (Č (mc (.str ""))) ĉ)
 (ã (ņ 3 (Ď (Ŭ (Â (bg (bA (pD 2)) (mv 2)) (Â (bg (bA (pD 3)) (mv 2)) (Â (bg (bA (pD 4)) (mv 2)) Ï))))))
 (ã (ņ 3 (Ç ť (mv 3) (Ď (Ŭ (Â (bg (bA (pD 5)) (mv 2)) (Â (bg (bA (pD 6)) (mv 2)) Ï))))))
 (ã (ņ 4 (Ď (ł [("_law_k",none),("_law_told",À 3)] (xK (Â (mc (.int 5)) Ï)) (gN 0) (cT (Ç ì (mv 1) (mv 0))) (C4 (Ç ì (Ď (Ŭ (Â (mc (.str "taken")) (Â (mc (.str "name")) (Â (mc (.str "much")) (Â (mc (.str "rate")) (Â (mc (.str "left")) Ï))))))) (mv 0))))))
 (ã (a5 (Aq (cB (Ç ji (sh i3 (Â (mv 4) Ï)) s!"d")) (Aq (cT (bg (bA (F1 [1,8,7])) (mv 2))) (qz (cT (bg (bA F2) (mv 2)))))) (Č (mc (.str "many"))) ĉ)
 (Č (Ç ì (mv 4) s!"c")))))))))
def ž:Á AV->S->R AV:=bH 6 fU
def lW:Ms:=
 (ã (ņ 0 (gD [((mc (.str "people")),(Ď (Ŭ Ï))),(s!"m",Dm),((mc (.str "hands")),(Ď (Ŭ Ï))),((mc (.str "known")),Dm),((mc (.str "rates")),(Ď (Ŭ Ï))),((mc (.str "keeps")),Dm),((mc (.str "half")),(mc (.int 182)))]))
 (ã (oX (Ť (Â (Ď (Ŭ Ï)) (Â (Ď (Ŭ Ï)) Ï))) (gT 2 (ß (vG (mv 0) (mc (.str "money"))) (ß (vG (mv 0) (mc (.str "debts"))) ś))))
 (Č (mv 0))))
def cG:Á AV->S->R AV:=bH 1 lW
def fx:Ms:=
 (ã (ņ 1 (Ď (ł [("_law_row_here",none)] (Ŧ (mv 0)) (gN 0) (cB (Ç Ş (Ç ì (mv 0) s!"c") (mc (.str "of")))) (Ç ì (mv 0) s!"e"))))
 (ã (lG (Ŧ (mv 0)) (gN 2) (a5 (cB (Ç Ş (Ç ì (mv 2) s!"c") (mc (.str "steps")))) (ã (ņ 5 (Ç ì (Ç ì (Ç ì (mv 2) s!"e") s!"c") s!"d"))
 (ã (lG (Ŧ (Ç ì (mv 2) s!"e")) (gT 2 (ß (gN 6) (ß (gN 7) ś))) (a5 (cB (Ç p7 (Ç bY (Ç ì (mv 7) s!"c") (Ç ì (mv 5) s!"d")) (Ç bY (Ç ì (mv 5) s!"c") (Ç ì (mv 7) s!"d")))) (ņ 5 (mv 7)) ĉ))
 (į (gg "list" Ő (mv 1) (Â (mv 5) Ï))))) ĉ))
 (ã (oX (å 1 fz s!"t") (gT 2 (ß (gN 3) (ß (gN 4) ś))))
 (Č (Ç p7 (mv 3) (mv 4))))))
def Ś:Á AV->S->R AV:=bH 8 fx
def lh:Ms:=
 (ã (a5 (cB (Ç Ş (mv 1) (mc (.str "debt")))) (ã (a5 (cB (Ç h8 (Ç ì (mv 2) s!"e") (Ç ô (mv 0) (mc (.str "people"))))) (Č (mc (.str "name"))) ĉ)
 (ã (į (gg "list" Ő (Ç ô (mv 0) (mc (.str "debts"))) (Â (tF kM (uv (mv 2))) Ï)))
 (Č (mc (.str ""))))) ĉ)
 (ã (a5 (cB (Ç eG (Ç ì (mv 2) s!"d") (Ç ô (mv 0) s!"m"))) (Č (mc (.str "name"))) ĉ)
 (ã (a5 (cB (Ç qR (å 3 jf (Â (mv 0) (Â (Ç ì (mv 2) (mc (.int 4))) (Â (Ç ì (mv 2) s!"c") Ï)))) (mc .Ĕ))) (Č (mc (.str "rate"))) ĉ)
 (ã (ņ 3 (Ç ť (Ť s!"t") (tF kM (uv (mv 2)))))
 (ã (a5 (qy (cB (Ç Ş (mv 1) (mc (.str "back")))) (qz (cT (C4 (å 1 c_ (Â (Ç ť (Ç ô (mv 0) (mc (.str "money"))) (Ď (Ŭ (Â (mv 3) Ï)))) Ï)))))) (Č (mc (.str "left"))) ĉ)
 (ã (į (gg "list" Ő (Ç ô (mv 0) (mc (.str "money"))) (Â (mv 3) Ï)))
 (Č (mc (.str "")))))))))
def dQ:Á AV->S->R AV:=bH 4 lh
def iu:Ms:=
 (ã (a5 (cB (Ç eG (mv 1) (Ç ô (mv 0) s!"m"))) (Č (mc (.str "name"))) ĉ)
 (ã (a5 (MJ (cB (Ç ji (Ď (ł [("_law_row_here",none),("_law_world_here",À 0)] (Ŧ (mv 2)) (gN 0) (qy (cB (Ç h8 (Ç ì (mv 0) s!"d") (Ç ô (mv 1) (mc (.str "people"))))) (cB (Ç eG (Ç ì (mv 0) s!"d") (Ç ô (mv 1) s!"m")))) (mv 0))) (Ď (Ŭ Ï))))) (Č (mc (.str "name"))) ĉ)
 (ã (a5 (cT (å 1 Ś (Â (mv 2) Ï))) (Č (mc (.str "much"))) ĉ)
 (ã (gF (Ç ô (mv 0) s!"m") (mv 1) (mv 2))
 (Č (mc (.str "")))))))
def ĳ:Á AV->S->R AV:=bH 3 iu
def nF:Ms:=
 (ã (ņ 3 (Ç ô (mv 0) (mc (.str "people"))))
 (ã (a5 (cB (Ç Ş (mv 1) (mc (.str "hand")))) (ã (a5 (Aq (cB (Ç h8 (Ç ì (mv 2) s!"c") (mv 3))) (Aq (cB (Ç h8 (Ç ì (mv 2) s!"e") (mv 3))) (cB (Ç Ş (Ç ì (mv 2) s!"c") (Ç ì (mv 2) s!"e"))))) (Č (mc (.str "name"))) ĉ)
 (ã (a5 (MJ (cB (Ç ji (Ď (ł [("_law_one",none),("_law_rest",À 2)] (Ŧ (Ç ô (mv 0) (mc (.str "hands")))) (gN 0) (cB (Ç Ş (E7 (mv 0) oN (oS s!"e")) (Ť (Â (Ç ì (mv 1) s!"c") (Â (Ç ì (mv 1) s!"d") Ï))))) (mv 0))) (Ď (Ŭ Ï))))) (Č (mc (.str "taken"))) ĉ)
 (į (gg "list" Ő (Ç ô (mv 0) (mc (.str "hands"))) (Â (tF kM (uv (mv 2))) Ï))))) ĉ)
 (ã (a5 (cB (Ç Ş (mv 1) (mc (.str "known")))) (ã (a5 (Aq (cB (Ç eG (Ç ì (mv 2) s!"c") (Ç ô (mv 0) s!"m"))) (cB (Ç h8 (Ç ì (mv 2) s!"e") (mv 3)))) (Č (mc (.str "name"))) ĉ)
 (ã (a5 (cB (Ç lD (Ç ì (mv 2) s!"c") (Ç ô (mv 0) (mc (.str "known"))))) (Č (mc (.str "taken"))) ĉ)
    (gF (Ç ô (mv 0) (mc (.str "known"))) (Ç ì (mv 2) s!"c") (Ť (Â (Ç ì (mv 2) s!"d") (Â (Ç ì (mv 2) s!"e") Ï)))))) ĉ)
 (ã (a5 (cB (Ç Ş (mv 1) (mc (.str "rate")))) (ã (ņ 4 (Ď (ł [("_law_one",none)] (Ŧ (Ç ô (mv 0) (mc (.str "rates")))) (gN 0) fV (E7 (mv 0) oN (oS s!"e")))))
 (ã (a5 (Aq (cB (Ç Ş (Ç ì (mv 2) s!"c") (mc (.str "coin")))) (cB (Ç JZ (Ť (Â (Ç ì (mv 2) s!"c") (Â (Ç ì (mv 2) s!"d") Ï))) (mv 4)))) (Č (mc (.str "taken"))) ĉ)
 (į (gg "list" Ő (Ç ô (mv 0) (mc (.str "rates"))) (Â (tF kM (uv (mv 2))) Ï))))) ĉ)
 (ã (a5 (cB (Ç Ş (mv 1) (mc (.str "keep")))) (ã (a5 (cB (Ç h8 (Ç ì (mv 2) s!"c") (mv 3))) (Č (mc (.str "name"))) ĉ)
    (gF (Ç ô (mv 0) (mc (.str "keeps"))) (Ç ì (mv 2) s!"c") (Ç ì (mv 2) s!"d"))) ĉ)
 (Č (mc (.str ""))))))))
def fZ:Á AV->S->R AV:=bH 5 nF
def jv:Ms:=
 (ã (jV 2 3 (Â (Ç ì (mv 1) s!"c") (Â (Ď (tF wo (uv (E7 (mv 1) (oS s!"d") oN)))) Ï)))
 (ã (jV 4 5 (Â (Ç ô (mv 0) (mc (.str "people"))) (Â (Ç ô (mv 0) s!"m") Ï)))
 (ã (a5 (cB (Ç mq (mv 2) (Ť (Â (mc (.str "person")) (Â (mc (.str "work")) Ï))))) (ã (a5 (Aq (cB (Ç mq (Ç ì (mv 3) s!"c") (mv 4))) (cB (Ç lD (Ç ì (mv 3) s!"c") (mv 5)))) (Č (mc (.str "taken"))) ĉ)
 (ã (a5 (cB (Ç Ş (mv 2) (mc (.str "person")))) (į (gg "list" Ő (mv 4) (Â (Ç ì (mv 3) s!"c") Ï))) (gF (mv 5) (Ç ì (mv 3) s!"c") (Ť Ï)))
 (Č (mc (.str ""))))) ĉ)
 (ã (a5 (cB (Ç Ş (mv 2) (mc (.str "half")))) (ã (gF (mv 0) (mc (.str "half")) (Ç ì (mv 3) s!"c"))
 (Č (mc (.str "")))) ĉ)
 (ã (a5 (cB (Ç Ş (mv 2) (mc (.str "rows")))) (Č (å 3 ĳ (Â (mv 0) (Â (Ç ì (mv 3) s!"c") (Â (Ç ì (mv 3) s!"d") Ï))))) ĉ)
 (ã (a5 (cB (Ç mq (mv 2) (Ť (Â (mc (.str "hand")) (Â (mc (.str "known")) (Â (mc (.str "rate")) (Â (mc (.str "keep")) Ï))))))) (Č (å 3 fZ (Â (mv 0) (Â (mv 2) (Â (mv 3) Ï))))) ĉ)
 (Č (å 3 dQ (Â (mv 0) (Â (mv 2) (Â (mv 3) Ï)))))))))))
def aY:Á AV->S->R AV:=bH 6 jv
def fc:Ms:=
 (ã (jV 2 3 (Â (Į 9 "work_names" 0 Ū (mv 0) Ï) (Â (Į 9 "person_names" 0 Ŗ (mv 0) Ï) Ï)))
 (ã (ņ 1 (Ď (Ŭ (Â (mv 3) (Â (mv 2) (Â (Ď (ł [("_law_work",none),("_law_book",À 0)] (Ŧ (mv 2)) (gN 0) fV (Į 9 "rows_of" 1 bj (mv 1) s!"u"))) (Â (Ď (ł [("_law_person",none),("_law_book",À 0)] (Ŧ (mv 3)) (gN 0) fV (Į 9 "hands_of" 1 aW (mv 1) s!"u"))) Ï)))))))
 (ã (ņ 1 (Ç ť (mv 1) (Ď (Ŭ (Â (Ď (ł [("_law_work",none),("_law_book",À 0)] (Ŧ (mv 2)) (gN 0) fV (Į 9 "known_of" 1 bF (mv 1) s!"u"))) (Â (Ď (ł [("_law_person",none),("_law_book",À 0)] (Ŧ (mv 3)) (gN 0) fV (Į 9 "keep_of" 1 cj (mv 1) s!"u"))) Ï))))))
 (Č (Ç ť (mv 1) (Ď (Ŭ (Â (Į 9 "rate_list" 0 aw (mv 0) Ï) (Â (Į 9 "half_days" 0 au (mv 0) Ï) (Â (Į 9 "money_list" 0 Ž (mv 0) Ï) (Â (Į 9 "debt_list" 0 ar (mv 0) Ï) Ï)))))))))))
def aX:Á AV->S->R AV:=bH 4 fc
def jt:Ms:=
 (ã (jV 2 3 (Â (Ď (l6 (Ç ô (mv 0) s!"m"))) (Â (Ď (pO (Ç ô (mv 0) (mc (.str "people"))))) Ï)))
 (ã (ņ 1 (Ď (Ŭ (Â (mv 3) (Â (mv 2) (Â (Ď (ł [("_law_work",none),("_law_world_here",À 0)] (Ŧ (mv 2)) (gN 0) fV (Ç ô (Ç ô (mv 1) s!"m") (mv 0)))) Ï))))))
 (ã (į (gg "list" Ő (mv 1) (Â (Ď (ł [("_law_person",none),("_law_world_here",À 0)] (Ŧ (mv 3)) (gN 0) fV (Ď (vF (ł [("_law_one",none),("_law_person",À 0)] (Ŧ (Ç ô (mv 1) (mc (.str "hands")))) (gN 0) (cB (Ç Ş (Ç ì (mv 0) s!"c") (mv 1))) (E7 (mv 0) (oS s!"d") oN)))))) Ï)))
 (ã (į (gg "list" Ő (mv 1) (Â (Ď (ł [("_law_work",none),("_law_world_here",À 0)] (Ŧ (mv 2)) (gN 0) fV (yx (Ç ô (mv 1) (mc (.str "known"))) (mv 0)))) Ï)))
 (ã (į (gg "list" Ő (mv 1) (Â (Ď (ł [("_law_person",none),("_law_world_here",À 0)] (Ŧ (mv 3)) (gN 0) fV (tY (Ç ô (mv 1) (mc (.str "keeps"))) (mv 0) (Ť (Â s!"c" (Â s!"d" Ï)))))) Ï)))
 (ã (ņ 1 (Ç ť (mv 1) (Ď (Ŭ (Â (Ď (r9 (Ç ô (mv 0) (mc (.str "rates"))))) (Â (Ç ô (mv 0) (mc (.str "half"))) Ï))))))
 (Č (Ç ť (mv 1) (Ď (Ŭ (Â (Ď (gf (å 1 Ľ (Â (Ç ô (mv 0) (mc (.str "money"))) Ï)))) (Â (Ď (gf (å 1 Ľ (Â (Ç ô (mv 0) (mc (.str "debts"))) Ï)))) Ï))))))))))))
def aI:Á AV->S->R AV:=bH 4 jt
def jw:Ms:=
 (ã (ņ 2 (gD [((mc (.str "hand")),(mc (.str "hands"))),((mc (.str "rate")),(mc (.str "rates"))),((mc (.str "debt")),(mc (.str "debts"))),((mc (.str "sold")),(mc (.str "money"))),((mc (.str "back")),(mc (.str "money")))]))
 (ã (ņ 3 (gD [((mc (.str "hand")),(mc (.int 30))),((mc (.str "rate")),(mc (.int 20))),((mc (.str "debt")),(mc (.int 20))),((mc (.str "sold")),(mc (.int 40))),((mc (.str "back")),(mc (.int 40)))]))
 (ã (a5 (qy (cB (Ç lD (mv 1) (mv 2))) (cB (Ç GR (sh i3 (Â (Ç ô (mv 0) (Ç ô (mv 2) (mv 1))) Ï)) (Ç ô (mv 3) (mv 1))))) (Č (mc (.str "half"))) ĉ)
 (Č (mv 1)))))
def ck:Á AV->S->R AV:=bH 4 jw
def kC:Ms:=
 (ã (lG (xK (Â (mv 5) Ï)) (gN 6) (ã (ņ 7 (å 3 fF (Â (mv 0) (Â (mv 3) (Â (å 2 ck (Â (mv 2) (Â (Ç ì (mv 4) (å 2 á (Â (mv 0) (Â (sh i3 (Â (mv 4) Ï)) Ï)))) Ï))) Ï)))))
 (ã (ņ 8 (å 2 aY (Â (mv 2) (Â (mv 7) Ï))))
 (ã (a5 (qz (cT (å 2 (ė 9) (Â (å 2 ž (Â (mv 1) (Â (mv 7) Ï))) (Â (mv 8) Ï))))) (Č (mc (.bl false))) ĉ)
 (a5 (qz (cT (C4 (å 2 (ė 9) (Â (å 1 aX s!"t") (Â (å 1 aI (Â (mv 2) Ï)) Ï)))))) (Č (mc (.bl false))) ĉ)))))
 (Č (mc (.bl true))))
def bS:Á AV->S->R AV:=bH 9 kC
def lT:Ms:=
 (ã (jV 3 4 (Â (pW 9 ai) (Â (å 0 cG Ï) Ï)))
 (ã (lG (Ŧ (E7 (mv 1) oN (oS (mc (.int 7))))) (gN 2) (ã (ņ 5 (Ť (Â (yi (Ç ì (Ď (Ŭ (Â (mc (.str "person")) (Â (mc (.str "work")) Ï)))) (å 2 á (Â (mv 0) (Â s!"e" Ï))))) (Â (mv 2) Ï))))
 (ã (į (å 2 aY (Â (mv 4) (Â (mv 5) Ï))))
 (į (å 2 Ŵ (Â (mv 3) (Â (mv 5) Ï)))))))
 (Č (Ť (Â (mv 3) (Â (mv 4) Ï))))))
def cF:Á AV->S->R AV:=bH 6 lT
def HU:Ms:=
 (ã (ņ 1 (å 1 dP s!"u"))
 (ã (ņ 2 (Ď (gf (å 1 bG s!"t"))))
 (ã (oX (å 2 cF (Â (mv 1) (Â (mv 2) Ï))) (gT 2 (ß (gN 3) (ß (gN 4) ś))))
 (ã (a5 (qz (cT (C4 (å 2 (ė 9) (Â (å 1 aX (Â (mv 3) Ï)) (Â (å 1 aI (Â (mv 4) Ï)) Ï)))))) (Č (mc (.bl false))) ĉ)
 (Č (yi (å 6 bS (Â (mv 1) (Â (mv 3) (Â (mv 4) (Â (mv 2) (Â (Ď (Ŭ (Â (mc (.str "rows")) Ï))) (Â (Ç ť (mc (.int 12)) (å 2 á (Â (mv 1) (Â (mc (.int 19)) Ï)))) Ï)))))))))))))
def vz:Á AV->S->R AV:=bH 5 HU
def top (i:Nat):Stmt:=T4.main.body.getD i (.Pass ⟨0,0,0,0⟩)
set_option hygiene false in
local macro_rules |`(tactic|walk_at"a") => `(tactic|(show mg _=none; with_reducible assumption))
def xTm(p:Array Lean.Term)(s:String):Lean.Term:=
 let f a:=match List.reverse a with|[x]=>x|x::y=>Lean.Syntax.mkApp x y.toArray|_=>p[0]!
 f ((((s.replace "(" " ( ").replace ")" " ) ").splitOn " ").foldl (λs t=>match t,s with|"",_=>s|"(",_=>[]::s|")",a::b::r=>(f a::b)::r|")",_=>s|t,a::r=>((match t.toNat? with|some n=>p[n]!|_=>Lean.mkIdent t.toName)::a)::r|_,_=>s) [[]]).head!
set_option hygiene false in
def xTg:Array (Lean.TSyntax `Lean.Parser.Tactic.tacticSeq):=Lean.Unhygienic.run do
 let p:=#[←`(_),←`(?_),←`((_::_)),←`(by decide),←`([]),←`((by with_reducible assumption:yZ T mg _ _)),←`((by with_reducible assumption:b_ P w T mg base _ _ _ _)),←`(by first|with_reducible assumption|exact TR),←`(by walk_at"a"),←`(by decide+kernel),←`((by with_reducible assumption:gy P w T mg base _ _ _ _ _)),←`((by with_reducible assumption:Uc P w T mg base _ _ _ _)),←`((by decide:2 <= 30)),←`(λ_ _ _ _=>?_),←`(λ_=>?_),←`((IU "str" qS _ _)),←`((gg "list" Ő _ _)),←`((gg "list" BS _ _)),←`((gg "list" qQ _ _)),←`(by first |exact Ro.boot_int |exact Ro.boot_bool |exact Ro.boot_list |exact Ro.boot_tuple |exact Ro.boot_str),←`(by repeat (first|exact trivial|refine⟨⟨rfl,rfl,by first|exact .inl rfl|exact .inr rfl⟩,?_⟩)),←`(λ_ _ _ _ _=>?_),←`((by first|exact nd|(show List.Nodup (_::_);decide+kernel))),←`(by first|exact J5|exact Hs)]
 (((((("~mv 0,YB(pv 0);PA 0 2(tK 0),Fd xs 3 1;PA 0 4(tK 0),Fe;PA 0 2 0,BU 1 1;Ff;Rh;Rt;Rq;Vd;~mc 0,Rm 5;^Č 0,RI 1;^a5 0 0 0,Vp 1 1 1;^į 0,Nr 1;^ņ 0(Ď(ł 0 0 0 0 0,DB 0(fE.of rfl 9 9 9 20)rfl nd 1 21 21 21;^ņ 0 0,JH nd 1;^Au 0 0,Vq xs 3 7 1;^lG 0 0 0,RG 23 rfl 1 1 1;^gF 0 0 0,Nq As 1 1 1;^lF 0 0 0 0,RF bk.cl(bk.na 0 9)1 1;^jV 0 0 0,RH rfl nd 1;^oX 0 0,RD 1 1 1;^zY 0 0 0,JF As 1 1 1;^Om 0 0,RK 1;^wu 0 0 0 0 0,Vr xs 3 nd 13 14;^B3 0 0 0 0,Nt rfl nd 1;^Oj 0 DH 0,RE nd Yp 1;^KD 0 0 0,RL 0 23 1 1;nB 0 0(tS 0 0(ã 0 0)),JI 1 1;nB 0 0(tS 0 0 ĉ),Nv;!Ç Ş 0 0,hE(oEq rfl hu)1 1;PT 0 0(kN 0 0(cT 0)),YN rfl 1;!Ç h8 0 0,hE(Vw rfl)1 1;!Ç lD 0 0,Su As 1 1;!Ç eG 0 0,Od As 1 1;!Ç ji 0 0,hE(oNe rfl hu)1 1;!Ç p7 0 0,hE oGt 1 1;!Ç mq 0 0,hE(oIn rfl)1 1;!Ç zM 0 0,hE oLt 1 1;!Ç GS 0 0,hE oLe 1 1;!Ç qR 0 0,hE Vv 1 1;!BF 0 0,Oc As 1 1;!Ç JZ 0 0,hE(YI rfl hu)1 1;!Ç GR 0 0,hE oGe 1 1;~Ç ì 0 0,Vh(oIx rfl)1 1;~å 0 0 Ï,Q8 6(hr.mono 1)7;~å 0 0 0,Vc 6(hr.mono 1)1 7;~Ď 0,Rn 1;PG 0 0(tT 0 0(gN 0)),Ng 22;~Ť 0,Ru 1;~Ç Ş 0 0,mj(oEq rfl hu)1 1;~Į 0 0 0 0 0 Ï,Jw bk.cl 10(hr.mono 1)1 7;~Į 0 0 0 0 0 0,Nf bk.cl 10(hr.mono 1)1 1 7;&Ŭ 0,RB 1;~Ç ô 0 0,M8 As 1 1;~bg(aa 0 0)0,Rb bk.cl(bk.na 0 9)1;~Ç ť 0 0,si(YH rfl)1 1;PJ 0 2(tJ 0 0(bX 0 0)),Nl 1 1;&ł 0 0 0 0 0,Nm 0(fE.of rfl 9 9 9 20)rfl 1 21 21 21;Kk 1;PG 0 0(tT 0 0(gT 0 0)),Ry rfl rfl 1;Nj;Rg 1;PW.pt(pw_and' 1 1);PW.pt(pw_or' 1 1);pw_and' 1 1;pw_or' 1 1;pw_and1' 1;pw_or1' 1;Kj;~bg kh 0,Rf rfl 1;~jL 0,Nd 1;~E7 0 0 0,Vj rfl 1 1 1;Kl;Km 1;Vf 1;Nn 1;~bg(bA F2)0,Rj xs 8 8 1;~bg(bA(pD 0))0,Ri xs 3 8 1;~bg(bA(F1 0))0,Nb xs 3 3 8 1 1;Oe 1;Ve;RC 1;~Ç h8 0 0,mj(Vw rfl)1 1;~Ç lD 0 0,Ra As 1 1;~tF kM 0,Vm(Qk rfl)8 Ro.boot_tuple 1;NG;RU;NF 1 1;RV 1;~Ç bY 0 0,si YJ 1 1;~Ç ji 0 0,mj(oNe rfl hu)1 1;~Ç p7 0 0,mj oGt 1 1;~Ç mq 0 0,mj(oIn rfl)1 1;~sh i3 0,M7(X3 rfl)8 PySem.boot_len 1;%n8 0,YD rfl 1;~Ç t6 0 0,si YL 1 1;~Ç zM 0 0,mj oLt 1 1;%xK(Â 0 Ï,Vn 8 1;~bg wb 0,Vk YK 1;~Pr 0 0 0,Vg 1 1 1;JE 1 1 1;Np;PE 0 0(tL 0 0 15),Rx rfl PySem.F.plainAttrs_str PySem.F.slot_str_split PySem.F.type_str_split Qo 1 1;PE 0 0(tE 0 0 16),Dz rfl lQ PySem.F.slot_list_append PySem.F.type_list_append Mn 1 1;PE 0 0(tE 0 0 17),Dz rfl lQ PySem.F.slot_list_pop PySem.F.type_list_pop X7 1 1;PE 0 0(tE 0 0 18),Dz rfl lQ PySem.F.slot_list_count PySem.F.type_list_count Qn 1 1;&l6 0,Jy 8 1;Em 0 2 0,Jx 1 1;~yx 0 0,M_ As 1 1;&j' 0,GJ 8(bI(Lx 12 0)hu)1;&r8 0 0 0,JA 8(dlt hr)rfl hC 1;PG 0 0(tT 0 0(vG 0 0)),Nh As 1 1;~Ç GS 0 0,mj oLe 1 1;~Ç qR 0 0,mj Vv 1 1;VO 1;~tY 0 0 0,M' As 1 1 1;~Ç Fc 0 0,si YM 1 1;~Ç iP 0 0,si Vu 1 1;~pW 0 0,Jv 11(hr.mono 1)7;&pO 0,JD 8 1;&vF 0,JC 8 1;%DX 0,Nk rfl 8 1;&r4 0,Jz rfl 8 1;&r9 0,JB rfl 8 1;~tF Sy(Di 0,Pw(Um rfl)8 9 1;~Dp 0 0,Jt As 1 1;%S3 0,YC 1;NH;~Ç GR 0 0,mj oGe 1 1;Vi 1 1;~sh BR 0,M7(X4 rfl)8 boot_min 1;~sh yA 0,YA cInt 8 Ro.boot_int 1;&tF wo 0,Vm(Ul rfl)8 Ro.boot_list 1;RA;NI;~Ç gh 0 0,si oMod 1 1;Rr 1;Q9 1 1;~sh t5 0,M7 cAbs 8 Ro.boot_abs 1;~sh n4 0,M7 Mf 8 Ro.boot_divmod 1;~tF G0(Di 0,Pw(Uk rfl)8 Ro.boot_all 1;~tF G0 0,Vl(Uk rfl)8 Ro.boot_all 1;~bg(hZ 0)0,Rk rfl 3 8 8 19 1;~mLenS 0,me_lenS 8 8 1;%KI 0 0,Rz rfl 8 1 1;%Ŧ 0,YE rfl 1;PG 0 0(tT 0 0(nN 0 0)),Ni 1 1;PE 0 0(tE 0 0 GI),Q_".replace "~" "PE 0 0(tE 0 0(").replace "^" "PS 0 0(tS 0 0(").replace "&" "PE 0 0(tL 0 0(").replace "!" "PT 0 0(kN 0 0(cB(").replace "%" "PI 0 0 0(tW 0 0(").splitOn ";").toArray.mapM λs=>match s.splitOn "," with
 |[x,y]=>`(Lean.Parser.Tactic.tacticSeq|(with_reducible show $(xTm p (x++"))))")));refine $(xTm p y))
 |_=>`(Lean.Parser.Tactic.tacticSeq|with_reducible refine $(xTm p s))
set_option hygiene false in
local macro_rules|`(tactic|walk_at"q")=>do
 let g:=λi j=>xTg.extract i j
 let a:=g 0 10;let b:=g 10 27;let c:=g 27 29;let d:=g 29 43;let e:=g 43 148
 `(tactic|(first|((with_reducible show(_:Nat)<=_);first|decide|lia)|((with_reducible show PE _ _ (tE _ _ (gD _)));(with_reducible refine M9 ?_ ?_ ?_ ?_ ?_);rotate_left;rfl;rfl;exact List.cons_ne_nil _ _;decide)|((with_reducible show PS _ _ (tS _ _ (ņ _ (gD _))));(with_reducible refine Nu ?_ ?_ ?_ ?_ ?_);exact nd;rotate_left;rfl;exact Cf rfl;exact Cf rfl)$[|$a]*|((with_reducible show PS _ _ _);first$[|$b]*)|((with_reducible show nB _ _ _);first$[|$c]*|refine Nw ?_)|((with_reducible show PT _ _ _);first$[|$d]*)$[|$e]*|refine Nw ?_)<;>walk_at"q")
local macro_rules |`(tactic|walk_at"b") => `(tactic|(intro _ _ _ _ _ _ us hl; first |(cases len0 hl; rfl) |(obtain ⟨_, e⟩ := U6 hl; subst e; rfl) |(obtain ⟨_, _, e⟩ := U7 hl; subst e; rfl) |(obtain ⟨_, _, _, e⟩ := U8 hl; subst e; rfl) |(obtain ⟨_, _, _, _, e⟩ := U9 hl; subst e; rfl) |(obtain ⟨_, _, _, _, _, e⟩ := U_ hl; subst e; rfl) |(obtain ⟨_, _, _, _, _, _, e⟩ := U' hl; subst e; rfl) |(obtain ⟨_, _, _, _, _, _, _, e⟩ := Q2 hl; subst e; rfl)))
set_option hygiene false in
local macro_rules |`(tactic|walk_at"g") => `(tactic|(intro hr nd ls; have As := Pf hr; have hu := UP hr; walk_at"q"))
section
variable (P:ď)(w:ī){T:Tx}{mg:Str->Ë Value}(base:Heap)(xs:Xs T mg)(bk:Bk T 9 s!"l")
variable (cI:mg "ValueError"=none)
variable (rb:mg "abs"=none)
variable (wU:mg "all"=none)
variable (qe:mg "bool"=none)
variable (jP:mg "divmod"=none)
variable (du:mg "enumerate"=none)
variable (rd:mg "int"=none)
variable (a_:mg "isinstance"=none)
variable (eZ:mg "len"=none)
variable (jQ:mg "list"=none)
variable (wV:mg "max"=none)
variable (wW:mg "min"=none)
variable (cJ:mg "range"=none)
variable (Ů:mg "sorted"=none)
variable (wX:mg "str"=none)
variable (cK:mg "tuple"=none)
variable (wY:mg "zip"=none)
variable (mu:yZ T mg "COIN" vQ)
variable (ae:yZ T mg "FIRST_HALF_DAYS" bK)
variable (cx:yZ T mg "NOTHING" cw)
variable (qT:yZ T mg "ONE" yo)
variable (af:yZ T mg "WHOLE_COIN_ROWS" ū)
variable (fB:b_ P w T mg base "greatest_divisor" 2 1 ű)
variable (C7:b_ P w T mg base "plus" 2 2 rZ)
variable (vJ:b_ P w T mg base "sum_of" 1 3 hU)
variable (ly:b_ P w T mg base "is_less" 2 1 cZ)
variable (iO:b_ P w T mg base "greatest_part" 1 2 ŏ)
variable (pR:b_ P w T mg base "too_much" 1 4 bT)
variable (gY:b_ P w T mg base "by_days" 1 1 dV)
variable (me:b_ P w T mg base "units_more" 1 1 jg)
variable (kK:b_ P w T mg base "lacks_units" 2 2 g9)
variable (iB:Uc P w T mg base 9 "Book" 1 ai)
variable (Ĝ:gy P w T mg base 9 "need_person" 1 1 Ě)
variable (Ĳ:gy P w T mg base 9 "need_work" 1 1 ě)
variable (cR:gy P w T mg base 9 "has_name" 1 1 Ű)
variable (cu:gy P w T mg base 9 "need_free" 1 2 av)
variable (f6:gy P w T mg base 9 "add_person" 1 3 ż)
variable (iC:gy P w T mg base 9 "add_work" 1 3 aV)
variable (eB:gy P w T mg base 9 "person_names" 0 1 Ŗ)
variable (f_:gy P w T mg base 9 "work_names" 0 1 Ū)
variable (iK:gy P w T mg base 9 "put_rows" 2 5 Ğ)
variable (jE:gy P w T mg base 9 "rows_of" 1 2 bj)
variable (jC:gy P w T mg base 9 "hand_on" 4 2 fY)
variable (iD:gy P w T mg base 9 "hands_of" 1 2 aW)
variable (f7:gy P w T mg base 9 "make_known" 3 2 c9)
variable (iE:gy P w T mg base 9 "known_of" 1 2 bF)
variable (iJ:gy P w T mg base 9 "put_rate" 3 1 fm)
variable (cS:gy P w T mg base 9 "worth_of" 2 1 cQ)
variable (gU:gy P w T mg base 9 "rate_list" 0 1 aw)
variable (iI:gy P w T mg base 9 "put_keep" 2 2 fj)
variable (jD:gy P w T mg base 9 "keep_of" 1 2 cj)
variable (iH:gy P w T mg base 9 "put_half" 1 1 fi)
variable (gS:gy P w T mg base 9 "half_days" 0 1 au)
variable (iL:gy P w T mg base 9 "put_sold" 5 2 fo)
variable (iF:gy P w T mg base 9 "put_back" 5 3 fg)
variable (f9:gy P w T mg base 9 "money_list" 0 2 Ž)
variable (iG:gy P w T mg base 9 "put_debt" 4 2 fh)
variable (gR:gy P w T mg base 9 "debt_list" 0 2 ar)
variable (l8:b_ P w T mg base "_law_begin" 1 1 dP)
variable (ġ:b_ P w T mg base "_law_take" 2 1 á)
variable (hX:b_ P w T mg base "_law_same" 2 10 (ė 9))
variable (aC:b_ P w T mg base "_law_lowest" 2 1 ŝ)
variable (pQ:b_ P w T mg base "_law_sum" 1 2 fz)
variable (l_:b_ P w T mg base "_law_names" 2 2 dS)
variable (hW:b_ P w T mg base "_law_part" 1 2 aK)
variable (h__law_row13:b_ P w T mg base "_law_row" 3 3 dU)
variable (h__law_rows13:b_ P w T mg base "_law_rows" 3 4 cY)
variable (md:b_ P w T mg base "_law_worth" 3 1 jf)
variable (cV:b_ P w T mg base "_law_in_order" 1 1 Ľ)
variable (f':b_ P w T mg base "_law_never_less" 1 2 c_)
variable (iN:b_ P w T mg base "_law_names_of" 1 3 bG)
variable (r_:b_ P w T mg base "_law_of" 2 2 cq)
variable (jF:b_ P w T mg base "_law_any_day" 1 2 aJ)
variable (gW:b_ P w T mg base "_law_any_worth" 1 2 dO)
variable (nO:b_ P w T mg base "_law_deed" 3 5 fF)
variable (lx:b_ P w T mg base "_law_do" 2 6 Ŵ)
variable (jJ:b_ P w T mg base "_law_refusal" 2 7 ž)
variable (ma:b_ P w T mg base "_law_world" 0 1 cG)
variable (fA:b_ P w T mg base "_law_is_too_much" 1 3 Ś)
variable (gX:b_ P w T mg base "_law_due_money" 3 3 dQ)
variable (iM:b_ P w T mg base "_law_due_rows" 3 4 ĳ)
variable (jH:b_ P w T mg base "_law_due_way" 3 1 fZ)
variable (jG:b_ P w T mg base "_law_due" 2 5 aY)
variable (cU:b_ P w T mg base "_law_all_told" 1 3 aX)
variable (dj:b_ P w T mg base "_law_all_due" 1 2 aI)
variable (jI:b_ P w T mg base "_law_kind_of" 2 1 ck)
variable (kJ:b_ P w T mg base "_law_walked" 6 11 bS)
variable (l9:b_ P w T mg base "_law_begun" 2 7 cF)
local macro_rules|`(tactic|exists $f,$k,$n)=>`(tactic|(refine $f (k:=$k) $n (by with_reducible assumption) (Ī rfl rfl rfl rfl (by decide+kernel)) (by walk_at"b") rfl λ_ _ _ _ _ _ _=>?_;walk_at"g"))
include xs bk rb in
theorem oW (_:Df T mg "greatest_divisor" (top 14)):b_ P w T mg base "greatest_divisor" 2 1 ű:=by
 unfold ű fy;exists ŗ,0,["one","other"]
include xs bk fB in
theorem ND (_:Df T mg "plus" (top 15)):b_ P w T mg base "plus" 2 2 rZ:=by
 unfold rZ CL;exists ŗ,1,["one","other","shared","together","divisor","top","below","other_top","other_below"]
include xs bk cx C7 in
theorem GQ (_:Df T mg "sum_of" (top 16)):b_ P w T mg base "sum_of" 1 3 hU:=by
 unfold hU vo;exists ŗ,2,["parts","together","part"]
include xs bk in
theorem DG (_:Df T mg "is_less" (top 17)):b_ P w T mg base "is_less" 2 1 cZ:=by
 unfold cZ rX;exists ŗ,0,["one","other"]
include xs bk cx ly in
theorem sM (_:Df T mg "greatest_part" (top 21)):b_ P w T mg base "greatest_part" 1 2 ŏ:=by
 unfold ŏ fe;exists ŗ,1,["row","greatest","told","kind","name","upto","part"]
include xs bk qT af vJ ly iO in
theorem BQ (_:Df T mg "too_much" (top 20)):b_ P w T mg base "too_much" 1 4 bT:=by
 unfold bT pG;exists ŗ,3,["rows"]
include xs bk Ů in
theorem DF (_:TB T mg "by_days" (top 25) 20):b_ P w T mg base "by_days" 1 1 dV:=by
 unfold dV rS;refine IH (k:=0) ["rows"] (by with_reducible assumption) (Ī rfl rfl rfl rfl s!"g") (by walk_at"b") rfl λ_ _ _ _ _ _ _ hC=>?_;walk_at"g"
include xs bk in
theorem xH (_:Df T mg "units_more" (top 26)):b_ P w T mg base "units_more" 1 1 jg:=by
 unfold jg qw;exists ŗ,0,["row","kind","day","work","count","amount","currency"]
include xs bk me in
theorem wa (_:Df T mg "lacks_units" (top 27)):b_ P w T mg base "lacks_units" 2 2 g9:=by
 unfold g9 o8;exists ŗ,1,["rows","work","left","row"]
include xs bk ae in
theorem sj (_:WW T mg 9 "Book" "Book.__init__" (inClass (top 28) 0)):Uc P w T mg base 9 "Book" 1 ai:=by
 unfold ai ij;exists Qz,0,["self"]
include xs bk in
theorem oU (_:g8 T 9 "need_person" "Book.need_person" (inClass (top 28) 1)):gy P w T mg base 9 "need_person" 1 1 Ě:=by
 unfold Ě fw;exists aM,0,["self","name"]
include xs bk in
theorem qM (_:g8 T 9 "need_work" "Book.need_work" (inClass (top 28) 2)):gy P w T mg base 9 "need_work" 1 1 ě:=by
 unfold ě dN;exists aM,0,["self","name"]
include xs bk in
theorem su (_:g8 T 9 "has_name" "Book.has_name" (inClass (top 28) 3)):gy P w T mg base 9 "has_name" 1 1 Ű:=by
 unfold Ű iq;exists aM,0,["self","name"]
include xs bk cR in
theorem qL (_:g8 T 9 "need_free" "Book.need_free" (inClass (top 28) 4)):gy P w T mg base 9 "need_free" 1 2 av:=by
 unfold av gP;exists aM,1,["self","name"]
include xs bk cx cu in
theorem pX (_:g8 T 9 "add_person" "Book.add_person" (inClass (top 28) 5)):gy P w T mg base 9 "add_person" 1 3 ż:=by
 unfold ż fR;exists aM,2,["self","name"]
include xs bk cu in
theorem sk (_:g8 T 9 "add_work" "Book.add_work" (inClass (top 28) 6)):gy P w T mg base 9 "add_work" 1 3 aV:=by
 unfold aV ik;exists aM,2,["self","name"]
include xs bk Ů in
theorem n3 (_:g8 T 9 "person_names" "Book.person_names" (inClass (top 28) 7)):gy P w T mg base 9 "person_names" 0 1 Ŗ:=by
 unfold Ŗ eA;exists aM,0,["self"]
include xs bk Ů in
theorem p5 (_:g8 T 9 "work_names" "Book.work_names" (inClass (top 28) 8)):gy P w T mg base 9 "work_names" 0 1 Ū:=by
 unfold Ū fT;exists aM,0,["self"]
include xs bk pR Ĳ cR in
theorem sE (_:g8 T 9 "put_rows" "Book.put_rows" (inClass (top 28) 9)):gy P w T mg base 9 "put_rows" 2 5 Ğ:=by
 unfold Ğ bE;exists aM,4,["self","work","rows","kind","name","told"]
include xs bk Ĳ in
theorem uz (_:g8 T 9 "rows_of" "Book.rows_of" (inClass (top 28) 10)):gy P w T mg base 9 "rows_of" 1 2 bj:=by
 unfold bj js;exists aM,1,["self","work"]
include xs bk Ĝ in
theorem ux (_:g8 T 9 "hand_on" "Book.hand_on" (inClass (top 28) 11)):gy P w T mg base 9 "hand_on" 4 2 fY:=by
 unfold fY nC;exists aM,1,["self","person","day","name","part"]
include xs bk Ů Ĝ in
theorem sm (_:g8 T 9 "hands_of" "Book.hands_of" (inClass (top 28) 12)):gy P w T mg base 9 "hands_of" 1 2 aW:=by
 unfold aW il;exists aM,1,["self","person"]
include xs bk Ĝ Ĳ in
theorem pY (_:g8 T 9 "make_known" "Book.make_known" (inClass (top 28) 13)):gy P w T mg base 9 "make_known" 3 2 c9:=by
 unfold c9 j6;exists aM,1,["self","work","day","person"]
include xs bk Ĳ in
theorem sv (_:g8 T 9 "known_of" "Book.known_of" (inClass (top 28) 14)):gy P w T mg base 9 "known_of" 1 2 bF:=by
 unfold bF ir;exists aM,1,["self","work"]
include xs bk mu in
theorem sD (_:g8 T 9 "put_rate" "Book.put_rate" (inClass (top 28) 15)):gy P w T mg base 9 "put_rate" 3 1 fm:=by
 unfold fm mL;exists aM,0,["self","currency","day","worth"]
include xs bk wV mu qT in
theorem sG (_:g8 T 9 "worth_of" "Book.worth_of" (inClass (top 28) 16)):gy P w T mg base 9 "worth_of" 2 1 cQ:=by
 unfold cQ mN;exists aM,0,["self","currency","day","days"]
include xs bk Ů in
theorem qN (_:g8 T 9 "rate_list" "Book.rate_list" (inClass (top 28) 17)):gy P w T mg base 9 "rate_list" 0 1 aw:=by
 unfold aw gQ;exists aM,0,["self"]
include xs bk Ĝ in
theorem sC (_:g8 T 9 "put_keep" "Book.put_keep" (inClass (top 28) 18)):gy P w T mg base 9 "put_keep" 2 2 fj:=by
 unfold fj mK;exists aM,1,["self","person","part"]
include xs bk Ĝ in
theorem uy (_:g8 T 9 "keep_of" "Book.keep_of" (inClass (top 28) 19)):gy P w T mg base 9 "keep_of" 1 2 cj:=by
 unfold cj jr;exists aM,1,["self","person"]
include xs bk in
theorem sA (_:g8 T 9 "put_half" "Book.put_half" (inClass (top 28) 20)):gy P w T mg base 9 "put_half" 1 1 fi:=by
 unfold fi mJ;exists aM,0,["self","days"]
include xs bk in
theorem qK (_:g8 T 9 "half_days" "Book.half_days" (inClass (top 28) 21)):gy P w T mg base 9 "half_days" 0 1 au:=by
 unfold au gO;exists aM,0,["self"]
include xs bk Ĳ cS in
theorem sF (_:g8 T 9 "put_sold" "Book.put_sold" (inClass (top 28) 22)):gy P w T mg base 9 "put_sold" 5 2 fo:=by
 unfold fo mM;exists aM,1,["self","day","work","count","amount","currency"]
include xs bk gY kK Ĳ cS in
theorem sx (_:g8 T 9 "put_back" "Book.put_back" (inClass (top 28) 23)):gy P w T mg base 9 "put_back" 5 3 fg:=by
 unfold fg mH;exists aM,2,["self","day","work","count","amount","currency","row"]
include xs bk gY in
theorem p4 (_:g8 T 9 "money_list" "Book.money_list" (inClass (top 28) 24)):gy P w T mg base 9 "money_list" 0 2 Ž:=by
 unfold Ž fS;exists aM,1,["self"]
include xs bk Ĝ in
theorem sy (_:g8 T 9 "put_debt" "Book.put_debt" (inClass (top 28) 25)):gy P w T mg base 9 "put_debt" 4 2 fh:=by
 unfold fh mI;exists aM,1,["self","kind","day","person","coins"]
include xs bk gY in
theorem qJ (_:g8 T 9 "debt_list" "Book.debt_list" (inClass (top 28) 26)):gy P w T mg base 9 "debt_list" 0 2 ar:=by
 unfold ar gM;exists aM,1,["self"]
include xs bk jQ in
theorem xA (_:Df T mg "_law_begin" (top 30)):b_ P w T mg base "_law_begin" 1 1 dP:=by
 unfold dP lS;exists ŗ,0,["_law_script","_law_cells"]
include xs bk jP eZ in
theorem zL (_:Df T mg "_law_take" (top 31)):b_ P w T mg base "_law_take" 2 1 á:=by
 unfold á nH;exists ŗ,0,["_law_state","_law_many","_law_turn","_law_place","_law_cell","_law_mixed","_law_digit"]
include xs bk wU qe rd a_ eZ jQ wX cK wY in
theorem zK (_:Df T mg "_law_same" (top 32)):∀n:Nat,b_ P w T mg base "_law_same" 2 (n+1) (ė n):=by
 intro n;induction n with
 |zero=>exact ME ["_law_found","_law_due_here"] (by with_reducible assumption) rfl (by walk_at"b")
 |succ n a=>
  unfold ė dh;refine ŗ (k:=n+1) ["_law_found","_law_due_here"] (by with_reducible assumption) (Ī rfl rfl rfl rfl s!"g") (by walk_at"b") rfl λ_ _ _ _ _ _ _=>?_;walk_at"g"
include xs bk rb in
theorem v8 (_:Df T mg "_law_lowest" (top 33)):b_ P w T mg base "_law_lowest" 2 1 ŝ:=by
 unfold ŝ kz;exists ŗ,0,["_law_top","_law_below","_law_sign","_law_one","_law_other"]
include xs bk aC in
theorem BP (_:Df T mg "_law_sum" (top 34)):b_ P w T mg base "_law_sum" 1 2 fz:=by
 unfold fz pE;exists ŗ,1,["_law_parts","_law_top","_law_below","_law_one","_law_other"]
include xs bk eZ cJ ġ in
theorem xD (_:Df T mg "_law_names" (top 35)):b_ P w T mg base "_law_names" 2 2 dS:=by
 unfold dS lU;exists ŗ,1,["_law_state","_law_many","_law_some"]
include xs bk ġ aC in
theorem zJ (_:Df T mg "_law_part" (top 36)):b_ P w T mg base "_law_part" 1 2 aK:=by
 unfold aK nG;exists ŗ,1,["_law_state","_law_below"]
include xs bk wW cJ cK ġ aC hW in
theorem xE (_:Df T mg "_law_row" (top 37)):b_ P w T mg base "_law_row" 3 3 dU:=by
 unfold dU lV;exists ŗ,2,["_law_state","_law_name","_law_room","_law_way","_law_most","_law_rates","_law_upto","_law_turn"]
include xs bk rd eZ cJ cK ġ h__law_row13 in
theorem v9 (_:Df T mg "_law_rows" (top 38)):b_ P w T mg base "_law_rows" 3 4 cY:=by
 unfold cY kB;exists ŗ,3,["_law_state","_law_names_here","_law_many","_law_room","_law_found","_law_turn","_law_row_here","_law_taken"]
include xs bk Ů in
theorem xG (_:TB T mg "_law_worth" (top 39) 21):b_ P w T mg base "_law_worth" 3 1 jf:=by
 unfold jf qv;refine IH (k:=0) ["_law_story","_law_currency","_law_day","_law_found","_law_name","_law_begin_here","_law_worth_here"] (by with_reducible assumption) (Ī rfl rfl rfl rfl s!"g") (by walk_at"b") rfl λ_ _ _ _ _ _ _ hC=>?_;walk_at"g"
include xs bk du Ů in
theorem sJ (_:Df T mg "_law_in_order" (top 40)):b_ P w T mg base "_law_in_order" 1 1 Ľ:=by
 unfold Ľ iv;exists ŗ,0,["_law_some"]
include xs bk cV in
theorem p6 (_:Df T mg "_law_never_less" (top 41)):b_ P w T mg base "_law_never_less" 1 2 c_:=by
 unfold c_ j8;exists ŗ,1,["_law_money","_law_sold","_law_kind","_law_day","_law_work","_law_count","_law_amount","_law_currency"]
include xs bk l_ in
theorem sL (_:Df T mg "_law_names_of" (top 42)):b_ P w T mg base "_law_names_of" 1 3 bG:=by
 unfold bG iy;exists ŗ,2,["_law_state"]
include xs bk eZ ġ in
theorem DE (_:Df T mg "_law_of" (top 43)):b_ P w T mg base "_law_of" 2 2 cq:=by
 unfold cq rR;exists ŗ,1,["_law_state","_law_some"]
include xs bk ġ in
theorem uB (_:Df T mg "_law_any_day" (top 44)):b_ P w T mg base "_law_any_day" 1 2 aJ:=by
 unfold aJ ju;exists ŗ,1,["_law_state"]
include xs bk ġ aC in
theorem qO (_:Df T mg "_law_any_worth" (top 45)):b_ P w T mg base "_law_any_worth" 1 2 dO:=by
 unfold dO lb;exists ŗ,1,["_law_state"]
include xs bk ġ hW h__law_rows13 r_ jF gW in
theorem zI (_:Df T mg "_law_deed" (top 46)):b_ P w T mg base "_law_deed" 3 5 fF:=by
 unfold fF nE;exists ŗ,4,["_law_state","_law_names_here","_law_word","_law_count","_law_amount","_law_one","_law_other","_law_day","_law_rows_here","_law_coins"]
include xs bk f6 iC iK jC f7 iJ iI iH iL iF iG in
theorem DD (_:Df T mg "_law_do" (top 47)):b_ P w T mg base "_law_do" 2 6 Ŵ:=by
 unfold Ŵ lg;exists ŗ,5,["_law_book","_law_deed_here","_law_word","_law_rest"]
include xs bk cI a_ eZ cJ lx in
theorem uE (_:Df T mg "_law_refusal" (top 48)):b_ P w T mg base "_law_refusal" 2 7 ž:=by
 unfold ž fU;exists ŗ,6,["_law_book","_law_deed_here","_law_caught","_law_told","_law_words","error"]
include xs bk in
theorem xF (_:Df T mg "_law_world" (top 49)):b_ P w T mg base "_law_world" 0 1 cG:=by
 unfold cG lW;exists ŗ,0,["_law_found"]
include xs bk pQ in
theorem oV (_:Df T mg "_law_is_too_much" (top 50)):b_ P w T mg base "_law_is_too_much" 1 3 Ś:=by
 unfold Ś fx;exists ŗ,2,["_law_rows_here","_law_parts","_law_row_here","_law_top","_law_below","_law_most","_law_upto","_law_part_here"]
include xs bk cK md f' in
theorem qP (_:Df T mg "_law_due_money" (top 54)):b_ P w T mg base "_law_due_money" 3 3 dQ:=by
 unfold dQ lh;exists ŗ,2,["_law_world_here","_law_word","_law_rest","_law_row_here"]
include xs bk fA in
theorem sI (_:Df T mg "_law_due_rows" (top 52)):b_ P w T mg base "_law_due_rows" 3 4 ĳ:=by
 unfold ĳ iu;exists ŗ,3,["_law_world_here","_law_work","_law_rows_here"]
include xs bk cK in
theorem uC (_:Df T mg "_law_due_way" (top 53)):b_ P w T mg base "_law_due_way" 3 1 fZ:=by
 unfold fZ nF;exists ŗ,0,["_law_world_here","_law_word","_law_rest","_law_people","_law_told"]
include xs bk jQ gX iM jH in
theorem BO (_:Df T mg "_law_due" (top 51)):b_ P w T mg base "_law_due" 2 5 aY:=by
 unfold aY jv;exists ŗ,4,["_law_world_here","_law_deed_here","_law_word","_law_rest","_law_people","_law_works"]
include xs bk eB f_ jE iD iE gU jD gS f9 gR in
theorem sH (_:Df T mg "_law_all_told" (top 55)):b_ P w T mg base "_law_all_told" 1 3 aX:=by
 unfold aX fc;exists ŗ,2,["_law_book","_law_found","_law_works","_law_people"]
include xs bk Ů cV in
theorem uA (_:Df T mg "_law_all_due" (top 56)):b_ P w T mg base "_law_all_due" 1 2 aI:=by
 unfold aI jt;exists ŗ,1,["_law_world_here","_law_found","_law_works","_law_people"]
include xs bk eZ in
theorem uD (_:Df T mg "_law_kind_of" (top 57)):b_ P w T mg base "_law_kind_of" 2 1 ck:=by
 unfold ck jw;exists ŗ,0,["_law_world_here","_law_word","_law_some","_law_most"]
include xs bk eZ cJ ġ hX nO jJ jG cU dj jI in
theorem v_ (_:Df T mg "_law_walked" (top 58)):b_ P w T mg base "_law_walked" 6 11 bS:=by
 unfold bS kC;exists ŗ,10,["_law_state","_law_book","_law_world_here","_law_names_here","_law_words","_law_many","_law_turn","_law_deed_here","_law_due_here"]
include xs bk iB ġ lx ma jG in
theorem xB (_:Df T mg "_law_begun" (top 59)):b_ P w T mg base "_law_begun" 2 7 cF:=by
 unfold cF lT;exists ŗ,6,["_law_state","_law_names_here","_law_name","_law_book","_law_world_here","_law_deed_here"]
include xs bk l8 ġ hX iN cU dj kJ l9 in
theorem RT {f:Addr}{c:eo}(F:HL T.K "law" "law" (top 60) f c):ic P w T.K mg base (rK P w) 12 f c ["_law_script"] (Hx T 1 vz):=by
 unfold vz HU;have S:jc ["_law_script","_law_state","_law_names_here","_law_book","_law_world_here"] ["_law_script"] (ĝ (top 60)):=(Ī rfl rfl rfl rfl s!"g")
 refine zm (k:=11) F S λb A a s H E hr=>?_;have nd:=S.nd;have ls:Ls T (m8 (rK P w) P w T.K mg base ["_law_script","_law_state","_law_names_here","_law_book","_law_world_here"] "law" (ĝ (top 60)) f b A a s H E) (oQ T E):=BE;have As:=Pf hr;have hu:=UP hr;walk_at"q"
end
def Ds (T:Tx)(mg:Str->Ë Value):Prop:=Df T mg "law" (top 60)/\Df T mg "greatest_divisor" (top 14)/\Df T mg "plus" (top 15)/\Df T mg "sum_of" (top 16)/\Df T mg "is_less" (top 17)/\Df T mg "greatest_part" (top 21)/\Df T mg "too_much" (top 20)/\TB T mg "by_days" (top 25) 20/\Df T mg "units_more" (top 26)/\Df T mg "lacks_units" (top 27)/\WW T mg 9 "Book" "Book.__init__" (inClass (top 28) 0)/\g8 T 9 "need_person" "Book.need_person" (inClass (top 28) 1)/\g8 T 9 "need_work" "Book.need_work" (inClass (top 28) 2)/\g8 T 9 "has_name" "Book.has_name" (inClass (top 28) 3)/\g8 T 9 "need_free" "Book.need_free" (inClass (top 28) 4)/\g8 T 9 "add_person" "Book.add_person" (inClass (top 28) 5)/\g8 T 9 "add_work" "Book.add_work" (inClass (top 28) 6)/\g8 T 9 "person_names" "Book.person_names" (inClass (top 28) 7)/\g8 T 9 "work_names" "Book.work_names" (inClass (top 28) 8)/\g8 T 9 "put_rows" "Book.put_rows" (inClass (top 28) 9)/\g8 T 9 "rows_of" "Book.rows_of" (inClass (top 28) 10)/\g8 T 9 "hand_on" "Book.hand_on" (inClass (top 28) 11)/\g8 T 9 "hands_of" "Book.hands_of" (inClass (top 28) 12)/\g8 T 9 "make_known" "Book.make_known" (inClass (top 28) 13)/\g8 T 9 "known_of" "Book.known_of" (inClass (top 28) 14)/\g8 T 9 "put_rate" "Book.put_rate" (inClass (top 28) 15)/\g8 T 9 "worth_of" "Book.worth_of" (inClass (top 28) 16)/\g8 T 9 "rate_list" "Book.rate_list" (inClass (top 28) 17)/\g8 T 9 "put_keep" "Book.put_keep" (inClass (top 28) 18)/\g8 T 9 "keep_of" "Book.keep_of" (inClass (top 28) 19)/\g8 T 9 "put_half" "Book.put_half" (inClass (top 28) 20)/\g8 T 9 "half_days" "Book.half_days" (inClass (top 28) 21)/\g8 T 9 "put_sold" "Book.put_sold" (inClass (top 28) 22)/\g8 T 9 "put_back" "Book.put_back" (inClass (top 28) 23)/\g8 T 9 "money_list" "Book.money_list" (inClass (top 28) 24)/\g8 T 9 "put_debt" "Book.put_debt" (inClass (top 28) 25)/\g8 T 9 "debt_list" "Book.debt_list" (inClass (top 28) 26)/\Df T mg "_law_begin" (top 30)/\Df T mg "_law_take" (top 31)/\Df T mg "_law_same" (top 32)/\Df T mg "_law_lowest" (top 33)/\Df T mg "_law_sum" (top 34)/\Df T mg "_law_names" (top 35)/\Df T mg "_law_part" (top 36)/\Df T mg "_law_row" (top 37)/\Df T mg "_law_rows" (top 38)/\TB T mg "_law_worth" (top 39) 21/\Df T mg "_law_in_order" (top 40)/\Df T mg "_law_never_less" (top 41)/\Df T mg "_law_names_of" (top 42)/\Df T mg "_law_of" (top 43)/\Df T mg "_law_any_day" (top 44)/\Df T mg "_law_any_worth" (top 45)/\Df T mg "_law_deed" (top 46)/\Df T mg "_law_do" (top 47)/\Df T mg "_law_refusal" (top 48)/\Df T mg "_law_world" (top 49)/\Df T mg "_law_is_too_much" (top 50)/\Df T mg "_law_due_money" (top 54)/\Df T mg "_law_due_rows" (top 52)/\Df T mg "_law_due_way" (top 53)/\Df T mg "_law_due" (top 51)/\Df T mg "_law_all_told" (top 55)/\Df T mg "_law_all_due" (top 56)/\Df T mg "_law_kind_of" (top 57)/\Df T mg "_law_walked" (top 58)/\Df T mg "_law_begun" (top 59)
def Qh {P:ď}{w:ī}{T:Tx}{mg:Str->Ë Value}{base:Heap}(xs:Xs T mg)(bk:Bk T 9 s!"l")(cI:mg "ValueError"=none)(rb:mg "abs"=none)(wU:mg "all"=none)(qe:mg "bool"=none)(jP:mg "divmod"=none)(du:mg "enumerate"=none)(rd:mg "int"=none)(a_:mg "isinstance"=none)(eZ:mg "len"=none)(jQ:mg "list"=none)(wV:mg "max"=none)(wW:mg "min"=none)(cJ:mg "range"=none)(Ů:mg "sorted"=none)(wX:mg "str"=none)(cK:mg "tuple"=none)(wY:mg "zip"=none)(mu:yZ T mg "COIN" vQ)(ae:yZ T mg "FIRST_HALF_DAYS" bK)(cx:yZ T mg "NOTHING" cw)(qT:yZ T mg "ONE" yo)(af:yZ T mg "WHOLE_COIN_ROWS" ū)(D:Ds T mg){f:Addr}{a:eo}(F:HL T.K "law" "law" (top 60) f a) :
  ic P w T.K mg base (rK P w) 12 f a ["_law_script"] (Hx T 1 vz):=by
 have D:=D.2;have fB:=oW P w base xs bk rb D.1;have D:=D.2;have C7:=ND P w base xs bk fB D.1;have D:=D.2;have vJ:=GQ P w base xs bk cx C7 D.1;have D:=D.2;have ly:=DG P w base xs bk D.1;have D:=D.2;have iO:=sM P w base xs bk cx ly D.1;have D:=D.2;have pR:=BQ P w base xs bk qT af vJ ly iO D.1;have D:=D.2;have gY:=DF P w base xs bk Ů D.1;have D:=D.2;have me:=xH P w base xs bk D.1;have D:=D.2;have kK:=wa P w base xs bk me D.1;have D:=D.2;have iB:=sj P w base xs bk ae D.1;have D:=D.2;have Ĝ:=oU P w base xs bk D.1;have D:=D.2;have Ĳ:=qM P w base xs bk D.1;have D:=D.2;have cR:=su P w base xs bk D.1;have D:=D.2;have cu:=qL P w base xs bk cR D.1;have D:=D.2;have f6:=pX P w base xs bk cx cu D.1;have D:=D.2;have iC:=sk P w base xs bk cu D.1;have D:=D.2;have eB:=n3 P w base xs bk Ů D.1;have D:=D.2;have f_:=p5 P w base xs bk Ů D.1;have D:=D.2;have iK:=sE P w base xs bk pR Ĳ cR D.1;have D:=D.2;have jE:=uz P w base xs bk Ĳ D.1;have D:=D.2;have jC:=ux P w base xs bk Ĝ D.1;have D:=D.2;have iD:=sm P w base xs bk Ů Ĝ D.1;have D:=D.2;have f7:=pY P w base xs bk Ĝ Ĳ D.1;have D:=D.2;have iE:=sv P w base xs bk Ĳ D.1;have D:=D.2;have iJ:=sD P w base xs bk mu D.1;have D:=D.2;have cS:=sG P w base xs bk wV mu qT D.1;have D:=D.2;have gU:=qN P w base xs bk Ů D.1;have D:=D.2;have iI:=sC P w base xs bk Ĝ D.1;have D:=D.2;have jD:=uy P w base xs bk Ĝ D.1;have D:=D.2;have iH:=sA P w base xs bk D.1;have D:=D.2;have gS:=qK P w base xs bk D.1;have D:=D.2;have iL:=sF P w base xs bk Ĳ cS D.1;have D:=D.2;have iF:=sx P w base xs bk gY kK Ĳ cS D.1;have D:=D.2;have f9:=p4 P w base xs bk gY D.1;have D:=D.2;have iG:=sy P w base xs bk Ĝ D.1;have D:=D.2;have gR:=qJ P w base xs bk gY D.1;have D:=D.2;have l8:=xA P w base xs bk jQ D.1;have D:=D.2;have ġ:=zL P w base xs bk jP eZ D.1;have D:=D.2;have hX:=zK P w base xs bk wU qe rd a_ eZ jQ wX cK wY D.1 9;have D:=D.2;have aC:=v8 P w base xs bk rb D.1;have D:=D.2;have pQ:=BP P w base xs bk aC D.1;have D:=D.2;have l_:=xD P w base xs bk eZ cJ ġ D.1;have D:=D.2;have hW:=zJ P w base xs bk ġ aC D.1;have D:=D.2;have h__law_row13:=xE P w base xs bk wW cJ cK ġ aC hW D.1;have D:=D.2;have h__law_rows13:=v9 P w base xs bk rd eZ cJ cK ġ h__law_row13 D.1;have D:=D.2;have md:=xG P w base xs bk Ů D.1;have D:=D.2;have cV:=sJ P w base xs bk du Ů D.1;have D:=D.2;have f':=p6 P w base xs bk cV D.1;have D:=D.2;have iN:=sL P w base xs bk l_ D.1;have D:=D.2;have r_:=DE P w base xs bk eZ ġ D.1;have D:=D.2;have jF:=uB P w base xs bk ġ D.1;have D:=D.2;have gW:=qO P w base xs bk ġ aC D.1;have D:=D.2;have nO:=zI P w base xs bk ġ hW h__law_rows13 r_ jF gW D.1;have D:=D.2;have lx:=DD P w base xs bk f6 iC iK jC f7 iJ iI iH iL iF iG D.1;have D:=D.2;have jJ:=uE P w base xs bk cI a_ eZ cJ lx D.1;have D:=D.2;have ma:=xF P w base xs bk D.1;have D:=D.2;have fA:=oV P w base xs bk pQ D.1;have D:=D.2;have gX:=qP P w base xs bk cK md f' D.1;have D:=D.2;have iM:=sI P w base xs bk fA D.1;have D:=D.2;have jH:=uC P w base xs bk cK D.1;have D:=D.2;have jG:=BO P w base xs bk jQ gX iM jH D.1;have D:=D.2;have cU:=sH P w base xs bk eB f_ jE iD iE gU jD gS f9 gR D.1;have D:=D.2;have dj:=uA P w base xs bk Ů cV D.1;have D:=D.2;have jI:=uD P w base xs bk eZ D.1;have D:=D.2;have kJ:=v_ P w base xs bk eZ cJ ġ hX nO jJ jG cU dj jI D.1;have D:=D.2;have l9:=xB P w base xs bk iB ġ lx ma jG D;exact RT P w base xs bk l8 ġ hX iN cU dj kJ l9 F
def Qy {l:nr}{w:ī}{K:È}{h:Heap}{mg:Str->Ë Value}{q a c d e g i j k m cB n t1:Addr}{r t:Ë Value}(X:K.In h)(G:h.Ns mainGlobals mg)(p:mg "law"=À (.ref q)) (x0:y6 K mg a "RoyalError" uU none)(x1:y6 K mg c "BadFraction" (.ref a::uU) none) (x2:y6 K mg d "Taken" (.ref a::uU) none) (x3:y6 K mg e "NoName" (.ref a::uU) none) (x4:y6 K mg g "TooMuch" (.ref a::uU) none) (x5:y6 K mg i "NoRate" (.ref a::uU) none) (x6:y6 K mg j "NoneLeft" (.ref a::uU) none) (x7:y6 K mg k "Endless" (.ref a::uU) r) (x8:y6 K mg m "BadRow" (.ref a::uU) t) (b:WU K cB s!"l")(cI:Đ K mainGlobals "ValueError"=À none)(rb:Đ K mainGlobals "abs"=À none)(wU:Đ K mainGlobals "all"=À none)(qe:Đ K mainGlobals "bool"=À none)(jP:Đ K mainGlobals "divmod"=À none)(du:Đ K mainGlobals "enumerate"=À none)(rd:Đ K mainGlobals "int"=À none)(a_:Đ K mainGlobals "isinstance"=À none)(eZ:Đ K mainGlobals "len"=À none)(jQ:Đ K mainGlobals "list"=À none)(wV:Đ K mainGlobals "max"=À none)(wW:Đ K mainGlobals "min"=À none)(cJ:Đ K mainGlobals "range"=À none)(Ů:Đ K mainGlobals "sorted"=À none)(wX:Đ K mainGlobals "str"=À none)(cK:Đ K mainGlobals "tuple"=À none)(wY:Đ K mainGlobals "zip"=À none)(mu:yZ ⟨K,CU [a,c,d,e,g,i,j,k,m,cB] [n,t1]⟩ mg "COIN" vQ)(ae:yZ ⟨K,CU [a,c,d,e,g,i,j,k,m,cB] [n,t1]⟩ mg "FIRST_HALF_DAYS" bK)(cx:yZ ⟨K,CU [a,c,d,e,g,i,j,k,m,cB] [n,t1]⟩ mg "NOTHING" cw)(qT:yZ ⟨K,CU [a,c,d,e,g,i,j,k,m,cB] [n,t1]⟩ mg "ONE" yo)(af:yZ ⟨K,CU [a,c,d,e,g,i,j,k,m,cB] [n,t1]⟩ mg "WHOLE_COIN_ROWS" ū)(D:Ds ⟨K,CU [a,c,d,e,g,i,j,k,m,cB] [n,t1]⟩ mg):∃o:eo,(∀(s:Ó) (v:Value),uH s o ⟨[v],[]⟩ [("_law_script",v)])/\∀base:Heap,K.In base->base.Ns mainGlobals mg->ic l.prog w K mg base (rK l.prog w) 12 q o ["_law_script"] (spT K [n,t1] [(20,"by_days.<locals>.<lambda>"),(21,"_law_worth.<locals>.<lambda>")] vz):=
 MC p rfl D.1 (λ_ _ _ _ _ _ _ _=>.of_eq rfl) λbase f o F=>Qh (Wv x0 x1 x2 x3 x4 x5 x6 x7 x8) (b.bk rfl) (Ċ X G cI) (Ċ X G rb) (Ċ X G wU) (Ċ X G qe) (Ċ X G jP) (Ċ X G du) (Ċ X G rd) (Ċ X G a_) (Ċ X G eZ) (Ċ X G jQ) (Ċ X G wV) (Ċ X G wW) (Ċ X G cJ) (Ċ X G Ů) (Ċ X G wX) (Ċ X G cK) (Ċ X G wY) mu ae cx qT af D F
end Ro
namespace Ro
open PySem L2
end Ro
namespace L2
open PySem PySem.Spec PyProof.Rows
end L2
namespace Ro
open PySem L2
abbrev Fs:=Á (Int×Int)
noncomputable def den:Fs->Int
 |[]=>1
 |f::r=>f.2*den r
def num:Fs->Int
 |[]=>0
 |f::r=>f.1*den r+f.2*num r
def XZ (fs:Fs):Prop:=∀f∈fs,1<=f.2
theorem den_pos:∀{fs:Fs},XZ fs->1<=den fs
 |[],_=>by decide
 |f::r,h=>by
  have b:1<=f.2:=h f Ń;have c:=den_pos (fs:=r) λg a=>h g (Ć _ a);show 1<=f.2*den r;have:=Hz (show 0<f.2 by lia) (show 0<den r by lia);lia
abbrev ig (a b:Int):Int:=((č a b:Nat):Int)
def I_ (a b:Int):ig a b ∣ a:=nt ..
def Bu (a b:Int):ig a b ∣ b:=mB ..
def CV:č a b=1 ↔ Zy a.natAbs b.natAbs:=Iff.rfl
def A6 (d:č a c=1)(e:č b c=1):č (a*b) c=1:=by
 rw[CV]at *
 rw[eX];exact aae d e
def A7 (d:č a b=1)(e:č a c=1):č a (b*c)=1:=by
 rw[CV]at *
 rw[eX];exact aaf d e
def zf (h:č a b=1)(c:x ∣ a)(d:y ∣ b):č x y=1:=by
 rw[CV]at *
 have q:OV x.natAbs y.natAbs ∣ OV a.natAbs b.natAbs:=Nat.dvd_gcd (WC (Nat.gcd_dvd_left ..) (iV.mpr c)) (WC (Nat.gcd_dvd_right ..) (iV.mpr d));rw[show OV a.natAbs b.natAbs=1 from h]at q;exact Nat.dvd_one.mp q
def Ig {a b:Int}(e:b≠0):č (a.fdiv (ig a b)) (b.fdiv (ig a b))=1:=by
 have p:=kb (t:=a) e;have c:=aL (I_ a b);have d:=aL (Bu a b);have q:č (a.fdiv (ig a b)*ig a b) (b.fdiv (ig a b)*ig a b)=č a b:=by rw[c,d]
 rw[OS]at q;have n:(ig a b).natAbs=č a b:=LQ _;rw[n]at q;exact AE p (by rw[q,ZD])
def vA {a g:Int}(h:g ∣ a)(b:1<=a)(c:1<=g):1<=a.fdiv g:=by
 have e:=aL h;refine LR.mp λz=>?_;have:a.fdiv g*g<=0:=ub (by lia) (by lia);lia
def N4 {t b u d:Int}(M:1<=b)(hd:1<=d)(J:č t b=1)(L:č u d=1) :
  fr (t*d+u*b) (b*d)=((t*d.fdiv (ig b d)+u*b.fdiv (ig b d)).fdiv (ig (t*d.fdiv (ig b d)+u*b.fdiv (ig b d)) (ig b d)),b.fdiv (ig b d)*d.fdiv (ig (t*d.fdiv (ig b d)+u*b.fdiv (ig b d)) (ig b d))):=by
 have w:b≠0:=by lia
 have f:d≠0:=by lia
 have x:1<=ig b d:=by have:=kb (t:=b) f;show(1:Int)<=((č b d:Nat):Int);lia
 have r:=aL (I_ b d);have m:=aL (Bu b d);have i:=Ig (a:=b) f;have D:b.fdiv (ig b d) ∣ b:=⟨_,r.symm⟩
 have E:d.fdiv (ig b d) ∣ d:=⟨_,m.symm⟩
 have Q:=vA (I_ b d) M x;have U:=vA (Bu b d) hd x;have o:=zf J (vd t) D;have p:=zf L (vd u) E;generalize b.fdiv (ig b d)=h at *
 generalize N:d.fdiv (ig b d)=c at *
 generalize ig b d=s at *
 generalize v:t*c+u*h=T at *
 have B:s≠0:=by lia
 have O:1<=ig T s:=by have:=kb (t:=T) B;show(1:Int)<=((č T s:Nat):Int);lia
 have z:=aL (I_ T s);have A:=aL (Bu T s);have n:=Ig (a:=T) B;have P:=vA (Bu T s) x O;have y:T.fdiv (ig T s) ∣ T:=⟨_,z.symm⟩
 have F:d.fdiv (ig T s)=c*s.fdiv (ig T s):=by
  have e:d=c*s.fdiv (ig T s)*ig T s:=by rw[mS,A,m]
  have I:ig T s≠0:=by lia
  have G:d.fdiv (ig T s)*ig T s=c*s.fdiv (ig T s)*ig T s:=by
   rw[aL (⟨_,by rw[hI];exact e⟩:ig T s ∣ d)];exact e
  exact kY I G
 have j:č T h=1:=by
  have q:č (t*c) h=1:=A6 o (by rw[Xy];exact i);rw[<-v];rw[<-q];exact Az ..
 have l:č T c=1:=by
  have q:č (u*h) c=1:=A6 p i;rw[<-v,Int.add_comm,<-q];exact Az ..
 rw[F];refine EJ (o6 w f) ?_ ?_ ?_
 ·have:=Hz (show 0<c by lia) (show 0<s.fdiv (ig T s) by lia);have:=Hz (show 0<h by lia) this;lia
 ·exact A7 (zf j y (vd _)) (A7 (zf l y (vd _)) n)
 ·generalize s.fdiv (ig T s)=k at *
  generalize T.fdiv (ig T s)=C at *
  generalize ig T s=g at *
  have H:t*d+u*b=C*g*s:=by
   rw[z,<-v,<-m,<-r,Zv,<-mS,<-mS]
  rw[H,<-m,<-r,<-A];simp only[mS,hI,Int.mul_left_comm]
open Mm
def fq (q:Rat):AV:=.tup [.int q.num,.int q.den]
def zV (q:Rat):č q.num (q.den:Int)=1:=q.reduced
def zW (q:Rat):(1:Int)<=(q.den:Int):=by have:=q.den_pos;lia
def C3 (h:b≠0):fr t b=((ĵ t b).num,((ĵ t b).den:Int)):=by
 refine EJ h (zW _) (zV _) ?_;have e:=ue (ĵ t b);have:=(CA (by have:=(ĵ t b).den_pos;lia) h).mp e;exact this
def y8 (p q:Rat):p+q=ĵ (p.num*q.den+q.num*p.den) (p.den*q.den):=by
 have a:(p.den:Int)≠0:=by have:=p.den_pos;lia
 have b:(q.den:Int)≠0:=by have:=q.den_pos;lia
 rw[<-Ht _ _ a b,ue,ue]
def QD (p q:Rat):fr (p.num*q.den+q.num*p.den) (p.den*q.den)=((p+q).num,((p+q).den:Int)):=by
 have a:(p.den:Int)≠0:=by have:=p.den_pos;lia
 have b:(q.den:Int)≠0:=by have:=q.den_pos;lia
 rw[C3 (o6 a b),y8]
structure Sz (n:Nat)(q:Rat):Prop where
 a:eV n q.num
 b:eV n (q.den:Int)
theorem Sz.mono (h:Sz n q)(k:n<=m):Sz m q:=⟨h.a.mono k,h.b.mono k⟩
def O_ (h:b≠0)(i:eV n t)(f:eV n b):Sz n (ĵ t b):=by
 have e:=C3 (t:=t) h;have c:(fr t b).1=(ĵ t b).num:=by rw[e]
 have d:(fr t b).2=((ĵ t b).den:Int):=by rw[e]
 have g:=QJ (t:=t) h;refine⟨?_,?_⟩
 ·rw[<-c];have a:=QF t b;refine i.le ?_;have:t.natAbs=(fr t b).1.natAbs*(vI t b).natAbs:=by rw[<-eX,a]
  rw[this];exact nv _ (by lia)
 ·rw[<-d];have a:=MG t b;refine f.le ?_;have:b.natAbs=(fr t b).2.natAbs*(vI t b).natAbs:=by rw[<-eX,a]
  rw[this];exact nv _ (by lia)
theorem Sz.add (h:Sz n p)(k:Sz m q):Sz (n+m+1) (p+q):=by
 have c:(p.den:Int)≠0:=by have:=p.den_pos;lia
 have d:(q.den:Int)≠0:=by have:=q.den_pos;lia
 rw[y8];refine O_ (o6 c d) ?_ ((h.b.mul k.b).mono (by lia));exact(h.a.mul k.b).add ((k.a.mul h.b).mono (by lia))
def c5 (h:eV n i)(k:n<=60000000):Ei i:=⟨h.mono k⟩
def nX (h:eV n i)(k:n<=9000):P_ i:=⟨h.mono k⟩
def EH {x y:Int}(b:0<=x)(a:0<y):0<=x.fmod y/\x.fmod y<y:=by
 rw[kZ _ (by lia)];exact⟨Tr _ (by lia),LO _ a⟩
def ET (b:0<y):ig y (x.fmod y)=ig x y:=by
 rw[kZ _ (by lia)];show((č y (x % y):Nat):Int)=((č x y:Nat):Int)
 congr 1;rw[Xy];have a:=Int.emod_def x y;rw[a,Int.gcd_sub_mul_left_left]
theorem Br:∀n x y s,0<=x->0<=y->y.natAbs<n->
  Hf (cB (Ç ji (mv 1) s!"c")) (jV 0 1 (Â (mv 1) (Â (Ç gh (mv 0) (mv 1)) Ï))) n [À (.int x),À (.int y)] s=.nx [À (.int (ig x y)),À (.int 0)] s
 |0,_,_,_,_,_,h=>absurd h (yK _)
 |n+1,x,y,s,f,g,h=>by
  unfold Hf;have e:cB (Ç ji (mv 1) s!"c") [À (.int x),À (.int y)] s=.ok (!decide (y=0)) s:=rfl;rw[e,eY];by_cases b:y=0
  ·subst b;rw[Ø (by simp)];rw[show ig x 0=x by show((č x 0:Nat):Int)=x;rw[LP];lia]
  ·have a:0<y:=by lia
   obtain⟨i,j⟩:=EH f a;rw[Ò (by simpa using b)];have c:jV 0 1 (Â (mv 1) (Â (Ç gh (mv 0) (mv 1)) Ï)) [À (.int x),À (.int y)] s=.nx [À (.int y),À (.int (x.fmod y))] s:=by
    have d:gh (.int x) (.int y) s=.ok (.int (x.fmod y)) s:=Ò b;show((gh (.int x) (.int y) s).bind _ |>.bind _).aQ _=_;rw[d];rfl
   rw[c];show Hf _ _ n _ s=_;rw[Br n y (x.fmod y) s g i (by lia),ET a]
def I0 (a b:Int):ig (if a<0 then -a else a) (if b<0 then -b else b)=ig a b:=by
 show((č _ _:Nat):Int)=((č a b:Nat):Int)
 congr 1;split<;>split<;>simp[Int.gcd_neg,Int.neg_gcd]
def QH (a b:Int)(s:S):ű [.int a,.int b] s=.ok (.int (ig a b)) s:=by
 apply R.wp.eq;unfold ű fy;have e:∀x y:Int,O' [À (AV.int x),À (AV.int y)]=y.natAbs+1:=λ_ _=>rfl;simp?[↓Lf,e];rw[Lg (Br _ _ _ s (by split<;>lia) (by split<;>lia) (cM _)),I0];walk_at"w"
def Ja (h:b≠0):ig a b≠0:=by have:=kb (t:=a) h;show((č a b:Nat):Int)≠0;lia
def vD (h:b≠0)(f:eV n b):eV n (ig a b):=f.le (by
 show((č a b:Nat):Int).natAbs<=_;rw[LQ];exact Nat.le_of_dvd (by lia) (Int.gcd_dvd_natAbs_right a b))
def vC (h:g ∣ a)(h0:g≠0)(f:eV n a):eV n (a.fdiv g):=f.le (by
 have e:=aL h;have:a.natAbs=(a.fdiv g).natAbs*g.natAbs:=by rw[<-eX,e]
 rw[this];exact nv _ (by lia))
def zi (q:Rat):(q.den:Int)≠0:=by have:=q.den_pos;lia
def N3 (t:n<=9000)(h:Sz n p)(k:Sz n q)(s:S):rZ [fq p,fq q] s=.ok (fq (p+q)) s:=by
 have e:=(N4 (zW p) (zW q) (zV p) (zV q)).symm.trans (QD p q);have j:=ğ uQ e;have l:=ğ Prod.snd e;dsimp only at j l;have c:ig (p.den:Int) (q.den:Int)≠0:=Ja (zi q);have f:eV n s!"w":=vD (zi q) k.b;have r:=vC (Bu (p.den:Int) (q.den:Int)) c k.b;have o:=vC (I_ (p.den:Int) (q.den:Int)) c h.b;have i:ig (p.num*(q.den:Int).fdiv s!"w"+q.num*(p.den:Int).fdiv s!"w") s!"w"≠0:=Ja c;have m:eV n (ig (p.num*(q.den:Int).fdiv s!"w"+q.num*(p.den:Int).fdiv s!"w") s!"w"):=vD c f;have d:Ei ((p.den:Int).fdiv s!"w"):=c5 o (by lia);have d1:ig (p.num*(q.den:Int).fdiv s!"w"+q.num*(p.den:Int).fdiv s!"w") s!"w" ∣ (q.den:Int):=Int.dvd_trans (Bu _ _) (Bu _ _);have g:Ei ((q.den:Int).fdiv (ig (p.num*(q.den:Int).fdiv s!"w"+q.num*(p.den:Int).fdiv s!"w") s!"w")):=c5 (vC d1 i k.b) (by lia);apply R.wp.eq;unfold rZ CL fq;simp?[↓a7 (QH _ _ _)];refine⟨⟨c,nX f (by lia)⟩,⟨c5 h.a (by lia),c5 r (by lia)⟩,⟨c,nX f (by lia)⟩,⟨c5 k.a (by lia),d⟩,⟨i,nX m (by lia)⟩,⟨c,nX f (by lia)⟩,⟨i,nX m (by lia)⟩,⟨d,g⟩,?_⟩;rw[j,l]
def bU:Á Rat->Rat
 |[]=>0
 |q::r=>q+bU r
def Gx:cw=fq 0:=rfl
def xT (n:Nat):Rat->Á Rat->Prop
 |a,[]=>Sz n a
 |a,q::r=>Sz n a/\Sz n q/\xT n (a+q) r
inductive L' (s:S):AV->Á AV->Gd->Prop
 |tup (xs:Á AV):L' s (.tup xs) xs []
 |ref {i:Nat}{xs:Á AV}(h:ù s i=À xs):L' s (.ref i) xs [(i,xs)]
def L'.ok (h:L' s v xs b):r3 b s:=by
 cases h with
 |tup=>intro p a;cases a
 |ref h=>intro p a;cases a with
  |head=>exact h
  |tail _ a=>cases a
def L'.src (h:L' s v xs a):Ca v s=.ok (xs,a) s:=by
 cases h with
 |tup=>rfl
 |ref h=>show need (ù s _) _=_;rw[h];rfl
def S5 (g:n<=9000)(w:L' s v (l.map fq) i) (h:xT n 0 l):hU [v] s=.ok (fq (bU l)) s:=by
 apply R.wp.eq;unfold hU vo;simp?[Gx,↓a7 w.src];refine pL (λxs b st=>st=s/\∃a r x,xs=r.map fq/\b=[À v,À (fq a),x]/\xT n a r/\a+bU r=bU l) ?_ ?_ ?_ _ _ _ ⟨rfl,0,l,none,rfl,rfl,h,FO _⟩
 ·rintro _ _ st ⟨rfl,_⟩;exact w.ok
 ·rintro b st ⟨rfl,a,r,x,e,rfl,d,f⟩;cases r with
  |cons=>cases e
  |nil=>
   walk_at"w";rw[<-f,show a+bU []=a from FN a]
 ·rintro y r b st ⟨rfl,a,c,x,e,rfl,d,f⟩;cases c with
  |nil=>cases e
  |cons q c=>
   cases e;simp?[↓a7 (N3 g d.1 d.2.1 _)];exact⟨a+q,c,_,rfl,rfl,d.2.2,by rw[<-f];show a+q+bU c=a+(q+bU c);grind⟩
inductive Rw where
 |of (n:Str) (q:Rat)|steps (n:Str) (us:Á (Int×Rat)) (z:Rat)|left (n:Str) (q:Rat)|len (n:Str) (k:Int)
def G' (p:Int×Rat):AV:=.tup [.int p.1,fq p.2]
def rv:Rw->AV
 |.of n q=>.tup [.str "of",.str n,fq q]
 |.steps n us z=>.tup [.str "steps",.str n,.tup (us.map G'++[.tup [.Ĕ,fq z]])]
 |.left n q=>.tup [.str "left",.str n,fq q]
 |.len n k=>.tup [.str "length",.str n,.int k]
def SD:((("steps":Str)="of")=False)/\((("left":Str)="of")=False)/\((("length":Str)="of")=False)/\
  ((("of":Str)="steps")=False)/\((("left":Str)="steps")=False)/\((("length":Str)="steps")=False)/\
  ((("of":Str)="left")=False)/\((("steps":Str)="left")=False)/\((("length":Str)="left")=False)/\
  ((("of":Str)="length")=False)/\((("steps":Str)="length")=False)/\((("left":Str)="length")=False):=by
 refine⟨?_,?_,?_,?_,?_,?_,?_,?_,?_,?_,?_,?_⟩<;>exact eq_false s!"g"
def Ę (s:S)(xs:Á AV):ù (s++[.lst xs]) s.length=À xs:=by
 unfold ù;simp
def MO (s:S)(xs:Á AV):(kL "list" s!"h" (s++[.lst xs])).isSome=true:=by
 show((ù (s++[.lst xs]) s.length).map λ_=>()).isSome=true;rw[Ę];rfl
def Ye (h:ù s i=À xs):r3 [(i,xs)] s:=by
 intro p a;cases a with
 |head=>exact h
 |tail _ a=>cases a
end Ro
namespace Mm
open PySem L2
mutual
theorem AV.low.mono (h:b<=c):∀{v:AV},v.low b=true->v.low c=true
 |.ref i,k=>by simp only[AV.low,Š]at k⊢;lia
 |.tup xs,k=>by simp only[AV.low]at k⊢;exact Ŀ.mono h k
 |.sq xs,k=>by simp only[AV.low]at k⊢;exact Ŀ.mono h k
 |.Ĕ,_=>by simp only[AV.low]
 |.bl _,_=>by simp only[AV.low]
 |.int _,_=>by simp only[AV.low]
 |.str _,_=>by simp only[AV.low]
theorem Ŀ.mono (h:b<=c):∀{l:Á AV},Ŀ b l=true->Ŀ c l=true
 |[],_=>by simp only[Ŀ]
 |v::r,k=>by
  simp only[Ŀ,ē]at k⊢;exact⟨AV.low.mono h k.1,Ŀ.mono h k.2⟩
end
theorem AO.low.mono (h:b<=c){o:AO}(k:o.low b=true):o.low c=true:=by
 cases o<;>first|exact Ŀ.mono h k|rfl
def Cl (s:S):Prop:=s.all (AO.low s.length)=true
def Cl.add {s e:S}(h:Cl s)(k:e.all (AO.low (s.length+e.length))=true):Cl (s++e):=by
 unfold Cl at *
 rw[List.all_append,è,k,br];rw[Ā]at h⊢;exact λo a=>AO.low.mono (by lia) (h o a)
theorem Cl.set (h:Cl s)(k:o.low s.length=true):Cl (s.set i o):=by
 unfold Cl at *
 rw[ŵ];rw[Ā]at h⊢;intro x a;rcases List.mem_or_eq_of_mem_set a with a|rfl
 ·exact h x a
 ·exact k
def ao (h:ù s k=À xs):ù (s++e) k=À xs:=by
 have:=ċ h;refine dY ?_;have a:k<s.length:=(Æ.mp this).1;rw[é a];exact this
def Ie (a:ù st i=À xs)(b:ù st j=À ys)(hl:xs.length+ys.length<=sizeLine):ť (.ref i) (.ref j) st=.ok (.ref st.length) (st++[.lst (xs++ys)]):=by
 show(need (ù st i) λxs=>need (ù st j) λys=>if xs.length+ys.length<=sizeLine then R.ok (AV.ref st.length) (st++[.lst (xs++ys)])else .bad)=_;rw[a,ø,b,ø,Ò hl]
end Mm
namespace Ro
open PySem L2 Mm
def vU (b:Nat)(q:Rat):(fq q).low b=true:=by simp[fq,AV.low,Ŀ]
end Ro
namespace Mm
open PySem L2
end Mm
namespace Ro
open PySem L2 Mm
def G9 (l:Á Str):(þ l).length=l.length:=(my l).length_eq
theorem BD (A B C:Ë AV):∀n x y s,0<=x->0<=y->y.natAbs<n->
  Hf (cB (Ç p7 (mv 4) s!"c")) (jV 3 4 (Â (mv 4) (Â (Ç gh (mv 3) (mv 4)) Ï))) n [A,B,C,À (.int x),À (.int y)] s=.nx [A,B,C,À (.int (ig x y)),À (.int 0)] s
 |0,_,_,_,_,_,h=>absurd h (yK _)
 |n+1,x,y,s,f,g,h=>by
  unfold Hf;have e:cB (Ç p7 (mv 4) s!"c") [A,B,C,À (.int x),À (.int y)] s=.ok (decide (0<y)) s:=rfl;rw[e,eY];by_cases b:y=0
  ·subst b;rw[Ø (by simp)];rw[show ig x 0=x by show((č x 0:Nat):Int)=x;rw[LP];lia]
  ·have a:0<y:=by lia
   obtain⟨i,j⟩:=EH f a;rw[Ò (by simpa using a)];have c:jV 3 4 (Â (mv 4) (Â (Ç gh (mv 3) (mv 4)) Ï)) [A,B,C,À (.int x),À (.int y)] s=.nx [A,B,C,À (.int y),À (.int (x.fmod y))] s:=by
    have d:gh (.int x) (.int y) s=.ok (.int (x.fmod y)) s:=Ò b;show((gh (.int x) (.int y) s).bind _ |>.bind _).aQ _=_;rw[d];rfl
   rw[c];show Hf _ _ n _ s=_;rw[BD A B C n y (x.fmod y) s g i (by lia),ET a]
def IT (A B C X:Ë AV)(y:Int):Pa [A,B,C,X,À (.int y)]=y.natAbs+1:=rfl
def yw (s:S)(h:b≠0)(l:eV 9000 b)(m:eV 60000000 a):ŝ [.int a,.int b] s=.ok (fq (ĵ a b)) s:=by
 have e:=(Q4 a b h).trans (C3 (t:=a) h);have f:((if b<0 then -1 else 1)*a).fdiv (ig a b)=(ĵ a b).num:=ğ uQ e;have i:((if b<0 then -1 else 1)*b).fdiv (ig a b)=((ĵ a b).den:Int):=ğ Prod.snd e;have g:=Ja (a:=a) h;have j:P_ (ig a b):=nX (vD h l) (Í _);have bs:∀c:Prop,[aZ c]->Ei (if c then -1 else 1):=λc _=>by
  split
  ·exact c5 (n:=1) (by show(-1:Int).natAbs<2^1;decide) s!"i"
  ·exact c5 (n:=1) (by show(1:Int).natAbs<2^1;decide) s!"i"
 have k:Ei b:=⟨l.mono s!"i"⟩
 have ba:Ei a:=⟨m⟩
 apply R.wp.eq;unfold ŝ kz;simp?[↓Lf,IT];rw[Lg (BD _ _ _ _ _ _ s (by split<;>lia) (by split<;>lia) (cM _)),I0];walk_at"w";by_cases c:b<0
 ·simp only[c,fO]at f i⊢;have d:=bs True;rw[Ò trivial]at d;refine⟨⟨d,ba⟩,⟨g,j⟩,⟨d,k⟩,⟨g,j⟩,?_⟩;rw[f,i];rfl
 ·simp only[c,fG]at f i⊢;have d:=bs False;rw[Ø (λz=>z)]at d;refine⟨⟨d,ba⟩,⟨g,j⟩,⟨d,k⟩,⟨g,j⟩,?_⟩;rw[f,i];rfl
def M5 (o:n<=4400)(w:L' s v (l.map fq) m) (h:xT n 0 l):fz [v] s=.ok (fq (bU l)) s:=by
 apply R.wp.eq;unfold fz pE;simp?[↓a7 w.src];refine pL (λxs c st=>st=s/\∃a r x y,xs=r.map fq/\c=[À v,À (.int (Rat.num a)),À (.int a.den),x,y]/\xT n a r/\a+bU r=bU l) ?_ ?_ ?_ _ _ _ ⟨rfl,0,l,none,none,rfl,rfl,h,FO _⟩
 ·rintro _ _ st ⟨rfl,_⟩;exact w.ok
 ·rintro c st ⟨rfl,a,r,x,y,e,rfl,j,i⟩;cases r with
  |cons=>cases e
  |nil=>
   walk_at"w";rw[<-i,show a+bU []=a from FN a];rfl
 ·rintro y r c st ⟨rfl,a,g,x,y,e,rfl,j,i⟩;cases g with
  |nil=>cases e
  |cons q g=>
   cases e;obtain⟨d,f,k⟩:=j;have e:=yw (a:=a.num*q.den+q.num*a.den) (b:=a.den*q.den) st (o6 (zi a) (zi q)) ((d.b.mul f.b).mono (by lia)) (((d.a.mul f.b).add (f.a.mul d.b)).mono (by lia));rw[<-y8]at e;rw[show fq q=.tup [.int q.num,.int q.den]from rfl];simp?[↓a7 e];refine⟨⟨c5 d.a (by lia),c5 f.b (by lia)⟩,⟨c5 f.a (by lia),c5 d.b (by lia)⟩,⟨c5 d.b (by lia),c5 f.b (by lia)⟩,?_⟩;rw[show fq (a+q)=.tup [.int (a+q).num,.int (a+q).den]from rfl];walk_at"w";exact⟨a+q,g,_,_,rfl,rfl,k,by rw[<-i];show a+q+bU g=a+(q+bU g);grind⟩
end Ro
namespace Mm
open PySem L2
def wQ (a:Mt)(r:P')(v:AV)(w:Á AV)(env:En)(s:S)(N:En->S->Prop)(T:AV->S->Prop):(ß a r (v::w) env s).wp N T=(a v env s).wp (λe s1=>(r w e s1).wp N T) T:=by
 show(match a v env s with|.nx e s1=>r w e s1|q=>q).wp N _=_;cases a v env s<;>rfl
def Lb (o i:Ev)(v:AV)(env:En)(s:S)(N:En->S->Prop)(T:AV->S->Prop):(nN o i v env s).wp N T=(o env s).wp λa s1=>(i env s1).wp λb c=>(match a,b with
 |.ref k,.int j=>match ù c k with
  |some xs=>match EX xs.length j with
   |some n=>RS.nx env (c.set k (.lst (xs.set n v)))
   |none=>.bad
  |none=>.bad
 |_,_=>.bad).wp N T:=by
 unfold nN;rw[cy];congr 1;funext a s1;rw[cy];try rfl
end Mm
namespace Ro
open PySem L2 Mm
def U4:¬((.inr "cells":Key)=.inr "turn"):=λz=>kne (kW z)
noncomputable def yc (c:Nat)(t:Int):Á (Key×AV):=[(.inr "cells",.ref c),(.inr "turn",.int t)]
def Iy (c:Nat)(t:Int):a6 (yc c t) (.inr "cells")=À (.ref c):=Ò rfl
def Mz (c:Nat)(t:Int):a6 (yc c t) (.inr "turn")=À (.int t):=by
 unfold yc a6;rw[Ø U4];exact Ò rfl
def Qv (c:Nat)(t u:Int):lE (yc c t) (.inr "turn") (.int u)=yc c u:=by
 unfold lE yc;rw[Ò (by simp)];simp only[Î,aj,Ø U4,fO]
structure Dr (c d n:Nat)(s:S):Prop where
 ex:∃t cells,s[d]?=À (.dK (yc c t))/\s[c]?=À (.lst (cells.map AV.int))/\cells≠[]/\0<=t/\t<=n
 cl:Cl s
structure Kp (c d:Nat)(s s':S):Prop where
 len:s'.length=s.length
 get:∀i,i≠c->i≠d->s'[i]?=s[i]?
def Kp.refl (c d:Nat)(s:S):Kp c d s s:=⟨rfl,λ_ _ _=>rfl⟩
theorem Kp.trans (h:Kp c d s s')(k:Kp c d s' a):Kp c d s a:=⟨k.len.trans h.len,λi b e=>(k.get i b e).trans (h.get i b e)⟩
def Dr.mono (h:Dr c d n s)(k:n<=m):Dr c d m s:=by
 obtain⟨⟨t,a,b,e,f,g,i⟩,cl⟩:=h;exact⟨⟨t,a,b,e,f,g,by lia⟩,cl⟩
def Dr.ne (h:Dr c d n s):c≠d:=by
 obtain⟨⟨t,a,e,b,_⟩,_⟩:=h;rintro rfl;rw[e]at b;cases b
def Dr.Cs (h:Dr c d n s):c<s.length:=by
 obtain⟨⟨t,a,e,b,_⟩,_⟩:=h;exact(Æ.mp b).1
def Dr.Dl (h:Dr c d n s):d<s.length:=by
 obtain⟨⟨t,a,b,e,_⟩,_⟩:=h;exact(Æ.mp b).1
def Dr.app (h:Dr c d n s)(k:Cl (s++e)):Dr c d n (s++e):=by
 have i:=h.Cs;have j:=h.Dl;obtain⟨⟨t,a,b,f,g⟩,cl⟩:=h;exact⟨⟨t,a,by rw[é j];exact b,by rw[é i];exact f,g⟩,k⟩
theorem Dr.set (h:Dr c d n s)(b:i≠c)(e:i≠d)(k:o.low s.length=true):Dr c d n (s.set i o):=by
 obtain⟨⟨t,a,f,g,j⟩,cl⟩:=h;exact⟨⟨t,a,by rw[Û e];exact f,by rw[Û b];exact g,j⟩,cl.set k⟩
theorem low_ints (b:Nat):∀l:Á Int,Ŀ b (l.map AV.int)=true
 |[]=>by simp[Ŀ]
 |i::r=>by simp only[Î,Ŀ,low_ints b r];simp[AV.low]
def MD {x m:Int}(h:0<m)(k:m<=2147483648):eV 31 (x.fmod m):=by
 have a:=oz x h;have b:=ua x h;exact ye (by lia) (by lia)
def nM (h:0<=i)(k:i<2^n):eV n i:=ye (by lia) k
def OD (D:Dr c d n s)(hn:n<=1000000000)(B:0<k)(fk:eV 9000 k) :
  (á [.ref d,.int k] s).wp λv s'=>∃r,v=.int r/\0<=r/\r<k/\Dr c d (n+1) s'/\Kp c d s s':=by
 have O:=D.Cs;have ld:=D.Dl;have P:=D.ne;obtain⟨⟨t,a,h1,h2,N,h4,h5⟩,cl⟩:=D;have L:kH s d=À (yc c t):=by unfold kH;rw[h1]
 have g1:ô (.ref d) (.str "turn") s=.ok (.int t) s:=by
  show(need (kH s d) λf=>need (gb (.str "turn")) λk=>need (a6 f k) λv=>R.ok v s)=_;rw[L,ø];rw[show gb (.str "turn")=À (.inr "turn")from rfl,ø,Mz];rfl
 let b:=s.set d (.dK (yc c (t+1)));have p1:∀l,putD (.int (t+1)) (.ref d) (.str "turn") l s=.nx l b:=λl=>by
  show(match kH s d,gb (.str "turn")with
   |some f,À k=>if f.length<sizeLine then RS.nx l (s.set d (.dK (lE f k (.int (t+1)))))else .bad
   |_,_=>.bad)=_
  rw[L];show(if (yc c t).length<sizeLine then RS.nx l (s.set d (.dK (lE (yc c t) (.inr "turn") (.int (t+1)))))else .bad)=_;rw[Ò (Ŕ (by show(2:Nat)<=1000;lia)),Qv]
 have F:b[d]?=À (.dK (yc c (t+1))):=Ģ ld;have M:b[c]?=À (.lst (a.map AV.int)):=by show(s.set d _)[c]?=_;rw[Û (ō P)];exact h2
 have I:ù b c=À (a.map AV.int):=dY M;have q:Cl b:=cl.set (by simp[AO.low,yc,Ŀ,AV.low,O]);have m:Kp c d s b:=⟨ŵ,λi _ hi=>Û (ō hi)⟩
 have G:ô (.ref d) (.str "cells") b=.ok (.ref c) b:=by
  show(need (kH b d) λf=>need (gb (.str "cells")) λk=>need (a6 f k) λv=>R.ok v b)=_;rw[show kH b d=À (yc c (t+1)) by unfold kH;rw[F],ø];rw[show gb (.str "cells")=À (.inr "cells")from rfl,ø,Iy];rfl
 have hl0:0<a.length:=HA.mpr N;have y:i3 [.ref c] b=.ok (.int a.length) b:=by
  show(need (ù b c) λxs=>R.ok (AV.int xs.length) b)=_;rw[I,ø,É]
 have u:(0:Int)<a.length:=by lia
 have j0:=oz (t+1) u;have j1:=ua (t+1) u;obtain⟨j,ej⟩:∃j:Nat,(t+1).fmod a.length=j:=⟨((t+1).fmod a.length).toNat,by lia⟩
 have hj:j<a.length:=by lia
 have ix:mG (a.map AV.int) (j:Int)=À (.int a[j]):=jd (by rw[î,Å hj];rfl);have H:EX (a.map AV.int).length (j:Int)=À j:=by
  unfold EX;rw[É,Ò (by lia),Ò (by lia)];rfl
 unfold á nH;have gE:ì (.ref c) (.int j) b=.ok (.int a[j]) b:=by
  show(need (ù b c) λxs=>need (mG xs j) λv=>R.ok v b)=_;rw[I,ø,ix];rfl
 have w:(10:Int)^(18:Int).toNat=1000000000000000000:=YO;have A:eV 31 (t+1):=nM (by lia) (by lia);rw[WS.2.2.2.2.2.2.2.2.2.2.2.2.2.2.2.2.1];refine bq λK e=>?_;simp?[↓a7 g1];rw[e];clear e K;refine bq λK e=>?_;simp?[↓Lg (p1 _)];rw[e];clear e K;refine bq λK e=>?_;simp?[↓a7 G,↓a7 y,ej];refine⟨by lia,?_⟩;rw[e];clear e K;refine bq λK e=>?_;simp?[↓a7 G,↓a7 gE];rw[e];clear e K;refine bq λK e=>?_;simp?[w];refine⟨⟨by lia,by lia,by decide⟩,?_⟩;split
 ·simp?[↓wQ,↓Lb,↓a7 G,I,H];refine⟨⟨B,⟨fk⟩⟩,_,rfl,Tr _ (by lia),LO _ B,⟨⟨t+1,a.set j (a[j] / k),?_,?_,?_,by lia,by lia⟩,?_⟩,?_⟩
  ·rw[Û P];exact F
  ·rw[Ģ (by show c<b.length;rw[m.len];exact O),WB]
  ·intro z;have:=ğ cb z;rw[ŵ,df]at this;lia
  ·refine q.set ?_;rw[<-WB];exact low_ints _ _
  ·exact⟨by rw[ŵ];exact m.len,λi Q q2=>by rw[Û (ō Q)];exact m.get i Q q2⟩
 ·rw[e];clear e K;walk_at"w";have T:eV 31 (a[j].fmod 2147483629):=MD (by lia) (by lia);have p:eV 13 (7919:Int):=nM (by lia) (by lia);have E:eV 16 (48271:Int):=nM (by lia) (by lia);have o:eV 17 (104729:Int):=nM (by lia) (by lia);have C:eV 16 (39373:Int):=nM (by lia) (by lia);have J:=A.mul A;have U:=J.mul p;have X:eV 76 (a[j].fmod 2147483629+(t+1)*(t+1)*7919):=eV.add (n:=75) (T.mono (by lia)) (U.mono (by lia));have Y:eV 77 (a[j].fmod 2147483629+(t+1)*(t+1)*7919+11):=eV.add X (nM (by lia) (by lia));have Z:∀x:Int,eV 49 (x.fmod 2147483587+(t+1)*104729):=λx=>eV.add (n:=48) ((MD (by lia) (by lia)).mono (by lia)) ((A.mul o).mono (by lia));have g:∀{n:Nat}{i:Int},eV n i->n<=100->Ei i:=λh k=>c5 h (by lia);refine⟨by decide,⟨g A (by lia),g A (by lia)⟩,⟨g J (by lia),g p (by lia)⟩,⟨g Y (by lia),g E (by lia)⟩,by decide,⟨g (MD (by lia) (by lia)) (by lia),g (MD (by lia) (by lia)) (by lia)⟩,by decide,⟨g A (by lia),g o (by lia)⟩,⟨g (Z _) (by lia),g C (by lia)⟩,by decide,⟨by decide,nX (n:=7) (nM (by lia) (by lia)) (by lia)⟩,by lia,_,rfl,oz _ B,ua _ B,⟨⟨t+1,a,F,M,N,by lia,by lia⟩,q⟩,m⟩
def IP:∀{v:AV},gB v=true->∃d,toD n s v=À d/\d.dep=0
 |.Ĕ,_=>⟨.Ĕ,by unfold toD;rfl,by simp[Dt.dep]⟩
 |.bl b,_=>⟨.bl b,by unfold toD;rfl,by simp[Dt.dep]⟩
 |.int b,_=>⟨.int b,by unfold toD;rfl,by simp[Dt.dep]⟩
 |.str b,_=>⟨.str b,by unfold toD;rfl,by simp[Dt.dep]⟩
theorem yh:∀{l:Á AV},l.all gB=true->∃ds,l.mapM (toD n s)=À ds/\ds.length=l.length/\aH ds=0
 |[],_=>⟨[],rfl,rfl,by simp[aH]⟩
 |v::r,h=>by
  rw[Ķ,ē]at h;obtain⟨d,a,b⟩:=IP (s:=s) (n:=n) h.1;obtain⟨ds,c,e,f⟩:=yh (s:=s) (n:=n) h.2;exact⟨d::ds,by rw[eM,a,c];rfl,by simp[e],by simp[aH,b,f]⟩
def Bh (d:ù s i=À xs)(e:ù s j=À [])(f:xs.all gB=true):C1 s (.ref i) (.ref j)=À xs.isEmpty:=by
 obtain⟨a,c,b,g⟩:=yh (s:=s) (n:=19) f;have t1:toD 20 s (.ref i)=À (.lst a):=by
  simp only[toD,d,aD,c,bQ]
 have t2:toD 20 s (.ref j)=À (.lst []):=by
  simp only[toD,e,aD,rx];rfl
 unfold C1;simp only;rw[t1,t2];dsimp only;rw[Ò (by lia)];congr 1;cases xs with
 |nil=>cases a with
  |nil=>simp[iA]
  |cons=>cases b
 |cons=>cases a with
  |nil=>cases b
  |cons=>simp[iA]
theorem yf:∀l:Á Int,(l.map AV.int).all gB=true
 |[]=>rfl
 |i::r=>by rw[Î,Ķ,yf r];rfl
def UC (h:0<k)(l:k<1048576):eV 9000 k:=(nM (n:=20) (by lia) (by lia)).mono (by lia)
def Wo {k:Int}(h:0<k)(l:k<1048576):(decide (0<k)&&decide (k<1048576))=true:=by rw[Ă h,Ă l];rfl
def take1 {c d n:Nat}{s:S}{k:Int}(D:Dr c d n s)(b:n<=1000000000:=by lia)(a:(decide (0<k)&&decide (k<1048576))=true:=by first|rfl|exact Wo (by lia) (by lia)) :
  (á [.ref d,.int k] s).wp λv s'=>∃r,v=.int r/\0<=r/\r<k/\Dr c d (n+1) s'/\Kp c d s s':=by
 rw[ē]at a;exact OD D b (š a.1) (UC (š a.1) (š a.2))
def ra (m:Ev)(env:En)(s:S)(Q:Á AV×Gd->S->Prop):(xK (Â m Ï) env s).wp Q=(m env s).wp λv s1=>match v with|.int j=>(-(2^62)<=j/\j<2^62)/\Q (n7 0 j.toNat,[]) s1|_=>False:=by
 unfold xK Â Ï;simp only[wp_bind,wR];congr 1;funext v s1;cases v<;>first|rfl|exact pf _ _ _
structure Gk (c d:Nat)(s s':S):Prop where
 len:s.length<=s'.length
 get:∀i,i<s.length->i≠c->i≠d->s'[i]?=s[i]?
def Kp.gk (h:Kp c d s s'):Gk c d s s':=⟨by rw[h.len];exact Í _,λi _ a b=>h.get i a b⟩
theorem Gk.refl (c d:Nat)(s:S):Gk c d s s:=(Kp.refl c d s).gk
def Gk.app (c d:Nat)(s e:S):Gk c d s (s++e):=⟨by simp,λi a _ _=>é a⟩
theorem Gk.trans (h:Gk c d s s')(k:Gk c d s' a):Gk c d s a:=⟨ĺ h.len k.len,λi f b e=>(k.get i (ð f h.len) b e).trans (h.get i f b e)⟩
def Gk.lst {c d n i:Nat}{s s':S}{xs:Á AV}(h:Gk c d s s')(a:i≠c)(b:i≠d)(k:ù s i=À xs):ù s' i=À xs:=by
 have e:=ċ k;exact dY ((h.get i (Æ.mp e).1 a b).trans e)
theorem Gk.set (h:Gk c d s s')(f:s.length<=i):Gk c d s (s'.set i o):=⟨by rw[ŵ];exact h.len,λj e a b=>by rw[Û (by lia)];exact h.get j e a b⟩
def Gk.cut (h:Gk c d s s')(D:Dr c d n s)(A:Dr c d m s'):Dr c d m (s'.take s.length)/\Kp c d s (s'.take s.length)/\(s'.take s.length).all (AO.low s.length)=true:=by
 have r:=D.Cs;have ld:=D.Dl;have g:(s'.take s.length).length=s.length:=by rw[Ũ];have:=h.len;lia
 have l:∀i,i<s.length->(s'.take s.length)[i]?=s'[i]?:=λi a=>aO a;have cl:=D.cl;obtain⟨⟨t,b,p,q,v,w,x⟩,u⟩:=A;have all:(s'.take s.length).all (AO.low s.length)=true:=by
  rw[Ā];intro o y;obtain⟨i,a,e⟩:=Hm.mp y;rw[g]at a;have f:(s'.take s.length)[i]?=À o:=by rw[Å (by rw[g];exact a)];rw[e]
  rw[l i a]at f;by_cases j:i=c
  ·subst j;rw[q]at f;cases f;exact low_ints _ _
  by_cases k:i=d
  ·subst k;rw[p]at f;cases f;simp[AO.low,yc,Ŀ,AV.low,r]
  rw[h.get i a j k]at f;have:=Ā.mp (show s.all (AO.low s.length)=true from cl) o (ý f);exact this
 refine⟨⟨⟨t,b,by rw[l d ld];exact p,by rw[l c r];exact q,v,w,x⟩,?_⟩,⟨g,λi j k=>?_⟩,all⟩
 ·unfold Cl;rw[g];exact all
 ·by_cases a:i<s.length
  ·rw[l i a];exact h.get i a j k
  ·rw[FH (by rw[g];lia),FH (by lia)]
def tR {s:S}{i:Nat}{xs:Á AV}{j:Int}(h:ù s i=À xs)(h0:0<=j)(b:j<xs.length):∃v,v∈xs/\ì (.ref i) (.int j) s=.ok v s:=by
 obtain⟨n,rfl⟩:∃n:Nat,j=n:=⟨j.toNat,by lia⟩
 have a:n<xs.length:=by lia
 refine⟨xs[n],e9 a,?_⟩;show(need (ù s i) λxs=>need (mG xs n) λv=>R.ok v s)=_;rw[h,ø,jd (Å a)];rfl
def sz6 (a:0<=j)(c:j<=60)(d:0<b)(e:b<=60):Sz 6 (ĵ j b):=O_ (by lia) (nM (by lia) (by lia)) (nM (by lia) (by lia))
def zk (a:0<=j)(c:0<b):0<=ĵ j b:=(Rat.divInt_nonneg_iff_of_pos_right c).mpr a
def div_add (h:b≠0):ĵ a b+ĵ c b=ĵ (a+c) b:=by
 rw[Ht _ _ h h,<-Zv,Rat.divInt_mul_right h]
def Mv (c:j<=b)(a:0<b):ĵ j b<=1:=by
 have:0<=ĵ (b-j) b:=zk (by lia) a;have e:ĵ (b-j) b+ĵ j b=1:=by
  rw[div_add (by lia),show b-j+j=b by lia,Rat.divInt_self' (by lia)]
 grind
def qG (s:S)(c:0<=a)(d:a<=1000)(e:0<b)(f:b<=1000):ŝ [.int a,.int b] s=.ok (fq (ĵ a b)) s:=yw s (by lia) ((nM (n:=20) (by lia) (by lia)).mono (by lia)) ((nM (n:=20) (by lia) (by lia)).mono (by lia))
def u6 {c d n:Nat}{s:S}(D:Dr c d n s)(x:n<=900001000):(aK [.ref d] s).wp λv s'=>∃q,v=fq q/\0<=q/\q<=1/\Sz 6 q/\Dr c d (n+3) s'/\Kp c d s s':=by
 unfold aK nG;walk_at"w";refine(take1 D).mono ?_;rintro _ f ⟨r,rfl,u,w,A,H⟩;walk_at"w";have B:=A.app (e:=[.lst [.int 2,.int 3,.int 4,.int 5,.int 10,.int (1+r)]]) (A.cl.add (by simp[AO.low,Ŀ,AV.low]));refine(take1 B).mono ?_;rintro _ o ⟨j,rfl,l,m,D2,C⟩;obtain⟨v,g,k⟩:=tR (s:=o) (i:=f.length) (j:=j) (C.gk.lst (n:=0) (by have:=A.Cs;lia) (by have:=A.Dl;lia) (Ę f _)) l m;obtain⟨b,rfl,p,t⟩:∃b,v=.int b/\1<=b/\b<=60:=by
  simp only[Þ,ü,Ź]at g;rcases g with rfl|rfl|rfl|rfl|rfl|rfl<;>exact⟨_,rfl,by lia,by lia⟩
 have G:=(H.gk.trans (Gk.app c d f _)).trans C.gk;obtain⟨E,I,h⟩:=G.cut D D2;simp?[↓a7 k,h,show AV.low s.length (.int b)=true by simp[AV.low]];refine(take1 E).mono ?_;rintro _ L ⟨i,rfl,y,z,F,J⟩;simp?[↓a7 (qG (a:=1+i) (b:=b) _ (by lia) (by lia) (by lia) (by lia))];exact⟨_,rfl,zk (by lia) (by lia),Mv (by lia) (by lia),sz6 (by lia) (by lia) (by lia) (by lia),F,I.trans J⟩
def HM (w:Int)(q:Rat):Prop:=∃j,1<=j/\j<=w/\q=ĵ j 60
def Qd (w:Int):Rw->Prop
 |.of _ q=>1<=w/\w<=60/\HM w q
 |.steps _ us z=>1<=w/\w<=60/\us.length<=3/\(∀p∈us,HM w p.2)/\HM w z
 |.left _ q=>w=0/\0<=q/\q<=1/\Sz 6 q
 |.len _ k=>w=0/\1<=k/\k<=1000
theorem zB (b:Nat):∀l:Á (Int×Rat),Ŀ b (l.map G')=true
 |[]=>by simp[Ŀ]
 |p::r=>by simp only[Î,Ŀ,zB b r];simp[G',fq,AV.low,Ŀ]
theorem nU (b:Nat):∀l m,Ŀ b (l++m)=(Ŀ b l&&Ŀ b m)
 |[],m=>by simp[Ŀ]
 |v::r,m=>by rw[bw];simp only[Ŀ,nU b r m,Bool.and_assoc]
def Dk (b:Nat):∀r:Rw,(rv r).low b=true
 |.of n q=>by simp[rv,AV.low,Ŀ,vU]
 |.left n q=>by simp[rv,AV.low,Ŀ,vU]
 |.len n q=>by simp[rv,AV.low,Ŀ]
 |.steps n us z=>by simp[rv,AV.low,Ŀ,nU,zB,vU]
def NZ {c d n:Nat}{s:S}(D:Dr c d n s)(x:n<=900001000){xs:Á AV}{m:Int}(q:m=xs.length)(f:0<m)(g:m<=10){P:Int->Prop}(k:∀v∈xs,∃b,v=.int b/\P b) :
  (á [.ref d,.int m] (s++[.lst xs])).wp λv a=>∃b,ì s!"h" v a=.ok (.int b) a/\P b/\(a.take s.length).all (AO.low s.length)=true/\Dr c d (n+1) (a.take s.length)/\Kp c d s (a.take s.length):=by
 have w:∀b,Ŀ b xs=true:=λb=>by
  clear q f g;induction xs with
  |nil=>simp[Ŀ]
  |cons v r t=>
   obtain⟨i,rfl,_⟩:=k v (.head _);simp only[Ŀ,t λv h=>k v (.tail _ h)];simp[AV.low]
 have A:=D.app (e:=[.lst xs]) (D.cl.add (by simp[AO.low,w]));refine(take1 A).mono ?_;rintro _ a ⟨j,rfl,u,y,D2,B⟩;obtain⟨v,h,o⟩:=tR (s:=a) (i:=s.length) (j:=j) (B.gk.lst (n:=0) (by have:=D.Cs;lia) (by have:=D.Dl;lia) (Ę s _)) u (by lia);obtain⟨b,rfl,p⟩:=k v h;obtain⟨C,E,l⟩:=((Gk.app c d s _).trans B.gk).cut D D2;exact⟨b,o,p,l,C,E⟩
def append_at (h:ù s i=À xs)(hl:xs.length<sizeLine):Ő (.ref i) [v] s=.ok .Ĕ (s.set i (.lst (xs++[v]))):=by
 unfold Ő;simp only[h,ø,Ò hl]
def mh (h:ù s i=À xs):(kL "list" (.ref i) s).isSome=true:=by
 show((ù s i).map λ_=>()).isSome=true;rw[h];rfl
def qH (h:ù s i=À xs):ù (s.set i (.lst ys)) i=À ys:=by
 refine dY (Ģ ?_);exact(Æ.mp (ċ h)).1
noncomputable def km:Str:="b aa zebra c quartzes ab m knows d mm likes z ba abcdefgh y zz e x f g hh jj kk pave"
open PySem.Builtin.Str in
def zG:Á Str:=partsBetween km (occurrences km " " 0 km.length (km.length+1)) (" ":Str).length
def JV:zG.length=24:=by decide+kernel
open PySem.Builtin.Str in
def Nz:(decide (km.length<(" ":Str).length)||decide (qj km<qj (" ":Str)))=false/\((" ":Str).length == 0)=false/\(occurrences km " " 0 km.length (km.length+1)).isEmpty=false/\km.length<=1000/\(partsBetween km (occurrences km " " 0 km.length (km.length+1)) (" ":Str).length).length<=1000:=by decide+kernel
def Ow (s:S):qS (.str "b aa zebra c quartzes ab m knows d mm likes z ba abcdefgh y zz e x f g hh jj kk pave") [.str " "] s=.ok (zG.map AV.str) s:=Ò Nz
theorem bM (b:Nat):∀l:Á Str,Ŀ b (l.map AV.str)=true
 |[]=>by simp[Ŀ]
 |i::r=>by simp only[Î,Ŀ,bM b r];simp[AV.low]
def pV (h:ù s i=À xs):i3 [.ref i] s=.ok (.int xs.length) s:=by
 show(need (ù s i) λxs=>R.ok (AV.int xs.length) s)=_;rw[h];rfl
theorem IG (f:α->b):∀(l:Á α) (m:Nat),(l.map f).eraseIdx m=(l.eraseIdx m).map f
 |[],_=>rfl
 |a::r,0=>rfl
 |a::r,m+1=>by show f a::(r.map f).eraseIdx m=f a::(r.eraseIdx m).map f;rw[IG f r m]
def nL:Á Rw->Nat
 |[]=>0
 |.left _ _::r=>nL r+1
 |.of _ _::r=>nL r
 |.steps _ _ _::r=>nL r
 |.len _ _::r=>nL r
def E2:Rw->AV
 |.left _ _=>.str "left"
 |.of _ _=>.str "of"
 |.steps _ _ _=>.str "steps"
 |.len _ _=>.str "length"
def MW:gA (toV (.str "left")) (toV (.str "left"))=true:=by decide+kernel
def U0:gA (toV (.str "of")) (toV (.str "left"))=false:=by decide+kernel
def Jg:gA (toV (.str "steps")) (toV (.str "left"))=false:=by decide+kernel
def kd_len:gA (toV (.str "length")) (toV (.str "left"))=false:=by decide+kernel
theorem Px:∀rs:Á Rw,(rs.map E2).countP (λz=>gA (toV z) (toV (.str "left")))=nL rs
 |[]=>rfl
 |r::rs=>by
  rw[Î,w_,Px rs];cases r
  ·show _+(if gA (toV (.str "of")) (toV (.str "left"))=true then 1 else 0)=nL rs;rw[U0];rfl
  ·show _+(if gA (toV (.str "steps")) (toV (.str "left"))=true then 1 else 0)=nL rs;rw[Jg];rfl
  ·show _+(if gA (toV (.str "left")) (toV (.str "left"))=true then 1 else 0)=nL rs+1;rw[MW];rfl
  ·show _+(if gA (toV (.str "length")) (toV (.str "left"))=true then 1 else 0)=nL rs;rw[kd_len];rfl
theorem vV:∀a b,nL (a++b)=nL a+nL b
 |[],b=>by simp[nL]
 |r::a,b=>by rw[bw];have c:=vV a b;cases r<;>(simp only[nL,c];try lia)
theorem wH:∀a b,bU (a++b)=bU a+bU b
 |[],b=>by show bU b=0+bU b;grind
 |q::a,b=>by show q+bU (a++b)=q+bU a+bU b;rw[wH a b];grind
def ne_nil (a:ù s i=À xs)(b:ù s j=À [])(c:xs.all gB=true)(d:xs≠[]):ji (.ref i) (.ref j) s=.ok (.bl true) s:=by
 unfold ji;rw[Bh a b c];cases xs with
 |nil=>exact(d rfl).elim
 |cons=>rfl
theorem yg:∀l:Á Str,(l.map AV.str).all gB=true
 |[]=>rfl
 |i::r=>by rw[Î,Ķ,yg r];rfl
theorem EG:∀l:Á Rw,(l.map E2).all gB=true
 |[]=>rfl
 |r::l=>by rw[Î,Ķ,EG l];cases r<;>rfl
def PM (r:Rw)(s:S):ì (rv r) (.int 0) s=.ok (E2 r) s:=by
 cases r<;>rfl
theorem u0 (b:Nat):∀l:Á Rw,Ŀ b (l.map rv)=true
 |[]=>by simp[Ŀ]
 |r::l=>by simp only[Î,Ŀ,u0 b l,Dk];rfl
def MV (rs:Á Rw)(st:S)(L:Nat)(h:ù st L=À s!"f") (Q:Á AV->S->Prop):(az (gN 0) fV (Ç ì (mv 0) s!"c") [(L,rs.map rv)] s!"f" [none] st []).wp Q=Q (rs.map E2) st:=by
 refine a7 (R.wp.eq (om (λxs a b s=>s=st/\∃r x,xs=r.map rv/\b=[x]/\a++r.map E2=rs.map E2) ?_ ?_ ?_ _ _ _ _ ⟨rfl,rs,none,rfl,rfl,rfl⟩)) Q
 ·rintro _ _ _ st ⟨rfl,_⟩;exact Ye h
 ·rintro a b st ⟨rfl,r,x,e,rfl,h⟩;cases r with
  |cons=>cases e
  |nil=>exact⟨by rw[<-h];simp,rfl⟩
 ·rintro v r a b st ⟨rfl,c,x,e,rfl,h⟩;cases c with
  |nil=>cases e
  |cons p c=>
   cases e;simp?[↓a7 (PM p _)];exact⟨c,_,rfl,rfl,by rw[<-h];simp⟩
def F_ (rs:Á Rw)(st:S):qQ (.ref st.length) [.str "left"] (st++[.lst (rs.map E2)])=.ok (.int (nL rs)) (st++[.lst (rs.map E2)]):=by
 show(need (ù (st++[.lst (rs.map E2)]) st.length) λxs=>if gB (.str "left")=true/\xs.all gB=true then R.ok (AV.int ((xs.countP λz=>gA (toV z) (toV (.str "left")):Nat):Int)) (st++[.lst (rs.map E2)])else .bad)=_;rw[Ę,ø,Ò ⟨rfl,EG rs⟩,Px]
def Xh (z:1<=m):Sz m 0:=⟨eV.mono (n:=1) (by show(0:Int).natAbs<2^1;decide) z,eV.mono (n:=1) (by show(1:Int).natAbs<2^1;decide) z⟩
theorem wG:∀l a k,Sz k a->(∀q∈l,Sz b q)->k+(b+1)*l.length<=m->b<=m->xT m a l/\Sz (k+(b+1)*l.length) (a+bU l)
 |[],a,k,h,_,c,_=>⟨h.mono (by simp at c;lia),by rw[show a+bU []=a from FN a];exact h.mono (by simp)⟩
 |q::r,a,k,h,d,c,f=>by
  rw[ć,ZA,ZC]at c;have g:=h.add (d q (.head _));obtain⟨i,j⟩:=wG r (a+q) (k+b+1) g (λq e=>d q (.tail _ e)) (by lia) f;refine⟨⟨h.mono (by lia),(d q (.head _)).mono f,i⟩,?_⟩;rw[show a+bU (q::r)=a+q+bU r by show a+(q+bU r)=_;grind];rw[ć,ZA,ZC];exact j.mono (by lia)
def HM.sz (h:HM w q)(hw:w<=60):Sz 6 q/\0<=q:=by
 obtain⟨j,a,b,rfl⟩:=h;exact⟨sz6 (by lia) (by lia) (by lia) (by lia),zk (by lia) (by lia)⟩
def TG:(gC "int" "list"=false)/\(gC "int" "tuple"=false)/\(gC "int" "str"=false)/\(gC "int" "int"=true)/\(gC "int" "bool"=false)/\
  (gC "str" "list"=false)/\(gC "str" "tuple"=false)/\(gC "str" "str"=true)/\
  (gC "tuple" "list"=false)/\(gC "tuple" "tuple"=true)/\(gC "list" "list"=true)/\(gC "list" "tuple"=false):=by
 refine⟨?_,?_,?_,?_,?_,?_,?_,?_,?_,?_,?_,?_⟩<;>decide+kernel
def MR (n:String)(i:Int)(s:S)(Q:AV->S->Prop):(hZ n (.int i) s).wp Q=Q (.bl (gC "int" n)) s:=rfl
def MS (n:String)(i:Str)(s:S)(Q:AV->S->Prop):(hZ n (.str i) s).wp Q=Q (.bl (gC "str" n)) s:=rfl
def MT (n:String)(i:Á AV)(s:S)(Q:AV->S->Prop):(hZ n (.tup i) s).wp Q=Q (.bl (gC "tuple" n)) s:=rfl
def EW (h:ù s i=À xs):hZ n (.ref i) s=.ok (.bl (gC "list" n)) s:=by
 have e:=ċ h;unfold hZ;rw[show Fz (.ref i) s=À "list" by simp only[Fz,e]];rfl
def qZ (b:Bool)(s:S):truth (.bl b) s=À b:=rfl
def Py (a b:Bool)(s:S)(Q:AV->S->Prop):(ji (.bl a) (.bl b) s).wp Q=Q (.bl (!decide (a=b))) s:=rfl
def FF (a b:Ev)(env:En)(s:S)(Q:Á AV×Gd->S->Prop):(KI a b env s).wp Q=(a env s).wp λv s1=>(b env s1).wp λw c=>(need (Hi v w c) λr=>.ok r c).wp Q:=by
 unfold KI;rw[wp_bind];congr 1;funext v s1;rw[wp_bind]
def same_int (n:Nat)(i:Int)(s:S):ė (n+1) [.int i,.int i] s=.ok (.bl true) s:=by
 apply R.wp.eq;unfold ė dh;simp?[mQ,↓MR,TG,qZ,g6,kq]
def same_str (n:Nat)(i:Str)(s:S):ė (n+1) [.str i,.str i] s=.ok (.bl true) s:=by
 apply R.wp.eq;unfold ė dh;simp?[mQ,↓MS,TG,qZ,g6,kq]
theorem za:∀n:Nat,xt (â n (.bl true))=À (â n true)
 |0=>rfl
 |n+1=>by rw[List.replicate_succ];show(xt (â n (.bl true))).map (true::·)=_;rw[za n];rfl
def Er (m:Nat):(â m true).all id=true:=by
 rw[Ā];intro b a;rw[(List.mem_replicate.mp a).2];rfl
def M0 (xs:Á AV)(s:S):i3 [.tup xs] s=.ok (.int xs.length) s:=rfl
end Ro
namespace Mm
open PySem L2
def Hh (a:b env s=.nx e s1)(N:En->S->Prop)(T:AV->S->Prop):(wu n i sub b h env s).wp N T=N e s1:=by
 unfold wu;rw[a];rfl
def OJ (i:Nat)(r:RS)(N:En->S->Prop)(T:AV->S->Prop):(Pc i r).wp N T=r.wp (λe s=>N (e.set i none) s) T:=by cases r<;>rfl
def Hg (a:b env s=.ex c s1)(d:sub c.cls=true)(N:En->S->Prop)(T:AV->S->Prop):(wu n i sub b h env s).wp N T=(h ((â n none).set i (À (.ref s1.length))) (s1++[.exc c.cls])).wp (λe s=>N (e.set i none) s) T:=by
 unfold wu;rw[a];dsimp only;rw[Ò d,OJ]
def zw (h:s[i]?=À (.ins c fs)):zu c (.ref i) s=À (i,fs):=by
 unfold zu;dsimp only;rw[h];dsimp only;rw[Ò rfl]
def QA (h:s[i]?=À (.ins c fs)) (l:fs.lookup f=À v):aa c f (.ref i) s=.ok v s:=by
 unfold aa;rw[zw h];dsimp only[need];rw[l]
structure At (B:Nat)(m:Á AO)(s:S):Prop where
 get:∀i,i<m.length->s[B+i]?=m[i]?
def At.at (h:At B m s)(e:m[i]?=À o):s[B+i]?=À o:=by
 rw[h.get i (Æ.mp e).1];exact e
def At.len (h:At B m s)(k:0<m.length):B+m.length<=s.length:=by
 have e:=h.get (m.length-1) (by lia);rw[Å (by lia:m.length-1<m.length)]at e;have:=(Æ.mp e).1;lia
def At.app (h:At B m s)(e:S):At B m (s++e):=⟨λi a=>by
 have q:=h.get i a;rw[Å a]at q⊢;rw[é (Æ.mp q).1];exact q⟩
def At.new (s e:S):At s.length e (s++e):=⟨λi a=>by rw[ç (by lia)];congr 1;lia⟩
theorem At.set (h:At B m s)(i:Nat)(o:AO):At B (m.set i o) (s.set (B+i) o):=⟨λj a=>by
 rw[ŵ]at a;by_cases e:i=j
 ·subst e;have q:=h.get i a;rw[Å a]at q;rw[Ģ (Æ.mp q).1,Ģ a]
 ·rw[Û (by lia),Û e];exact h.get j a⟩
def At.keep (h:At B m s)(k:∀i,B<=i->i<B+m.length->s'[i]?=s[i]?):At B m s':=⟨λi a=>by rw[k _ (by lia) (by lia)];exact h.get i a⟩
mutual
def Rp (b:Nat)(s:S):Dt->AV->Prop
 |.Ĕ,v=>v=.Ĕ
 |.bl _,_=>False
 |.int i,v=>v=.int i
 |.str x,v=>v=.str x
 |.tup l,v=>∃xs,v=.tup xs/\l.length<=1000/\bu b s l xs
 |.lst l,v=>∃i xs,v=.ref i/\b<=i/\ù s i=À xs/\l.length<=1000/\bu b s l xs
def bu (b:Nat)(s:S):Á Dt->Á AV->Prop
 |[],xs=>xs=[]
 |d::l,xs=>∃x r,xs=x::r/\Rp b s d x/\bu b s l r
end
mutual
theorem Rp.mono (k:∀i xs,ù s i=À xs->ù s' i=À xs):∀{d:Dt}{v:AV},Rp b s d v->Rp b s' d v
 |.Ĕ,_,h=>by unfold Rp at h⊢;exact h
 |.bl _,_,h=>by unfold Rp at h;exact h.elim
 |.int _,_,h=>by unfold Rp at h⊢;exact h
 |.str _,_,h=>by unfold Rp at h⊢;exact h
 |.tup l,_,h=>by
  unfold Rp at h⊢;obtain⟨xs,e,hl,h⟩:=h;exact⟨xs,e,hl,bu.mono k h⟩
 |.lst l,_,h=>by
  unfold Rp at h⊢;obtain⟨i,xs,e,c,a,hl,h⟩:=h;exact⟨i,xs,e,c,k i xs a,hl,bu.mono k h⟩
theorem bu.mono (k:∀i xs,ù s i=À xs->ù s' i=À xs):∀{l:Á Dt}{xs:Á AV},bu b s l xs->bu b s' l xs
 |[],_,h=>by unfold bu at h⊢;exact h
 |_::_,_,h=>by
  unfold bu at h⊢;obtain⟨x,r,e,a,c⟩:=h;exact⟨x,r,e,Rp.mono k a,bu.mono k c⟩
end
def Rp.app (h:Rp b s d v)(e:S):Rp b (s++e) d v:=h.mono λ_ _ q=>ao q
def bu.app (h:bu b s l xs)(e:S):bu b (s++e) l xs:=h.mono λ_ _ q=>ao q
def bu.nil:bu b s [] []:=by unfold bu;rfl
def bu.cons {b:Nat}{s:S}{d:Dt}{v:AV}{l:Á Dt}{xs:Á AV}(h:Rp b s d v)(k:bu b s l xs):bu b s (d::l) (v::xs):=by unfold bu;exact⟨v,xs,rfl,h,k⟩
theorem bu.length:∀{l:Á Dt}{xs:Á AV},bu b s l xs->l.length=xs.length
 |[],_,h=>by unfold bu at h;subst h;rfl
 |_::_,_,h=>by
  unfold bu at h;obtain⟨x,r,rfl,_,a⟩:=h;simp[bu.length a]
def eJ (s:S)(i:Int):Rp b s (.int i) (.int i):=by unfold Rp;rfl
def eK (s:S)(i:Str):Rp b s (.str i) (.str i):=by unfold Rp;rfl
def wt (s:S):Rp b s .Ĕ .Ĕ:=by unfold Rp;rfl
def fC (hl:l.length<=1000)(h:bu b s l xs):Rp b s (.tup l) (.tup xs):=by unfold Rp;exact⟨xs,rfl,hl,h⟩
def sP (e:ù s i=À xs)(a:b<=i)(hl:l.length<=1000)(h:bu b s l xs):Rp b s (.lst l) (.ref i):=by unfold Rp;exact⟨i,xs,rfl,a,e,hl,h⟩
theorem bu.map:∀{l:Á α},(∀a∈l,Rp b s (f a) (g a))->bu b s (l.map f) (l.map g)
 |[],_=>.nil
 |a::l,h=>.cons (h a (.head _)) (bu.map λb c=>h b (.tail _ c))
end Mm
namespace Ro
open PySem L2 Mm
def wx (f:r3 d s)(h:∀p∈xs.zip ys,ė n [p.1,p.2] s=.ok (.bl true) s) (Q:Á AV->S->Prop)(k:∀m,Q (â m (.bl true)) s) :
  (az s!"v" fV (å 2 (ė n) (Â (mv 0) s!"t")) d (wZ xs ys) [none,none] s []).wp Q:=by
 unfold wZ;refine om (λi a b st=>st=s/\∃r x y m,(∀p∈r,p∈xs.zip ys)/\i=(r.map λp=>AV.tup [p.1,p.2])/\b=[x,y]/\a=â m (.bl true)) ?_ ?_ ?_ _ _ _ _ ⟨rfl,xs.zip ys,none,none,0,λ_ h=>h,rfl,rfl,rfl⟩
 ·rintro _ _ _ st ⟨rfl,_⟩;exact f
 ·rintro a b st ⟨rfl,r,x,y,m,_,e,rfl,rfl⟩;exact k m
 ·rintro v r a b st ⟨rfl,c,x,y,m,hr,e,rfl,rfl⟩;cases c with
  |nil=>cases e
  |cons p c=>
   cases e;simp?[↓a7 (h p (hr p (.head _)))];exact⟨c,_,_,m+1,λx g=>hr x (.tail _ g),rfl,rfl,by rw[List.replicate_succ']⟩
def Cb (h:xs.length=ys.length):(wZ xs ys).length=xs.length:=by unfold wZ;simp[h]
def G5 (hl:xs.length<=sizeLine)(a:xs.length=ys.length)(h:∀p∈xs.zip ys,ė n [p.1,p.2] s=.ok (.bl true) s):ė (n+1) [.tup xs,.tup ys] s=.ok (.bl true) s:=by
 apply R.wp.eq;unfold ė dh;simp?[mQ,↓MT,TG,qZ,g6,kq,↓Py,i4,↓a7 (M0 _ _),↓FF,Hi,xI,a];refine⟨?_,?_⟩
 ·rw[Cb a];exact hl
 refine wx (by intro p b;cases b) h _ λm=>?_;unfold G0;rw[za];simp?[Er]
def G3 (hl:xs.length<=sizeLine)(c:xs.length=ys.length)(a:ù s i=À xs)(b:ù s j=À ys)(h:∀p∈xs.zip ys,ė n [p.1,p.2] s=.ok (.bl true) s):ė (n+1) [.ref i,.ref j] s=.ok (.bl true) s:=by
 apply R.wp.eq;unfold ė dh;simp?[mQ,↓a7 (EW a),↓a7 (EW b),TG,qZ,g6,kq,↓Py,i4,↓a7 (pV a),↓a7 (pV b),↓FF,Hi,xI,a,b,bQ,c];refine⟨?_,?_⟩
 ·rw[Cb c];exact hl
 refine wx ?_ h _ λm=>?_
 ·intro p d;simp only[bw,bb,Þ,ü,Ź]at d;rcases d with rfl|rfl
  ·exact a
  ·exact b
 unfold G0;rw[za];simp?[Er]
def KG (n:Nat)(s:S):ė (n+1) [.Ĕ,.Ĕ] s=.ok (.bl true) s:=by
 apply R.wp.eq;unfold ė dh;simp?[mQ]
mutual
theorem Fu:∀{d:Dt}{v w:AV}{n:Nat},Rp b s d v->Rp b s d w->d.dep<n->ė n [v,w] s=.ok (.bl true) s
 |_,_,_,0,_,_,h=>absurd h (yK _)
 |.Ĕ,_,_,n+1,h,k,_=>by unfold Rp at h k;subst h k;exact KG n s
 |.bl _,_,_,n+1,h,k,_=>by unfold Rp at h;exact h.elim
 |.int _,_,_,n+1,h,k,_=>by unfold Rp at h k;subst h k;exact same_int n _ s
 |.str _,_,_,n+1,h,k,_=>by unfold Rp at h k;subst h k;exact same_str n _ s
 |.tup l,_,_,n+1,h,k,hd=>by
  unfold Rp at h k;obtain⟨xs,rfl,hl,h⟩:=h;obtain⟨g,rfl,_,k⟩:=k;have e:=h.length;have f:=k.length;have hd:aH l+1<n+1:=by simpa[Dt.dep]using hd
  exact G5 (xM (by lia)) (by lia) (wy h k (by lia))
 |.lst l,_,_,n+1,h,k,hd=>by
  unfold Rp at h k;obtain⟨i,xs,rfl,_,a,hl,h⟩:=h;obtain⟨j,g,rfl,_,c,_,k⟩:=k;have e:=h.length;have f:=k.length;have hd:aH l+1<n+1:=by simpa[Dt.dep]using hd
  exact G3 (xM (by lia)) (by lia) a c (wy h k (by lia))
theorem wy:∀{l:Á Dt}{xs ys:Á AV}{n:Nat},bu b s l xs->bu b s l ys->aH l<n->∀p∈xs.zip ys,ė n [p.1,p.2] s=.ok (.bl true) s
 |[],_,_,n,h,k,_=>by
  unfold bu at h;subst h;intro p hp;simp at hp
 |d::l,_,_,n,h,k,hd=>by
  unfold bu at h k;obtain⟨x,r,rfl,a,c⟩:=h;obtain⟨y,t,rfl,e,f⟩:=k;have hd:max d.dep (aH l)<n:=by simpa[aH]using hd
  intro p hp;rw[Lw]at hp;rcases Þ.mp hp with rfl|hp
  ·exact Fu a e (by lia)
  ·exact wy c f (by lia) p hp
end
end Ro
namespace Mm
open PySem L2
mutual
theorem Rp.low:∀{d:Dt}{v:AV},Rp b s d v->v.low s.length=true
 |.Ĕ,_,h=>by unfold Rp at h;subst h;simp only[AV.low]
 |.bl _,_,h=>by unfold Rp at h;exact h.elim
 |.int _,_,h=>by unfold Rp at h;subst h;simp only[AV.low]
 |.str _,_,h=>by unfold Rp at h;subst h;simp only[AV.low]
 |.tup l,_,h=>by
  unfold Rp at h;obtain⟨xs,rfl,_,h⟩:=h;simp only[AV.low];exact bu.low h
 |.lst l,_,h=>by
  unfold Rp at h;obtain⟨i,xs,rfl,_,a,_⟩:=h;simp only[AV.low,Š];exact(Æ.mp (ċ a)).1
theorem bu.low:∀{l:Á Dt}{xs:Á AV},bu b s l xs->Ŀ s.length xs=true
 |[],_,h=>by unfold bu at h;subst h;simp only[Ŀ]
 |_::_,_,h=>by
  unfold bu at h;obtain⟨x,r,rfl,a,c⟩:=h;simp only[Ŀ,Rp.low a,bu.low c];rfl
end
theorem bu.append:∀{l q:Á Dt}{xs ys:Á AV},bu b s l xs->bu b s q ys->bu b s (l++q) (xs++ys)
 |[],_,_,_,h,k=>by unfold bu at h;subst h;exact k
 |_::_,_,_,_,h,k=>by
  unfold bu at h;obtain⟨x,r,rfl,a,c⟩:=h;exact .cons a (bu.append c k)
def bu.one (h:Rp b s d v):bu b s [d] [v]:=.cons h .nil
def jj (c:Cl s)(h:bu b s l xs):Cl (s++[.lst xs]):=c.add (by
 have:=h.low;simp only[Ķ,c6,AO.low,br];exact Ŀ.mono (by simp) this)
def zS (a:b<=s.length)(hl:l.length<=1000)(h:bu b s l xs):Rp b (s++[.lst xs]) (.lst l) s!"h":=sP (Ro.Ę s xs) a hl (h.app _)
def fW:az d b elt [] [] env s a=.ok a s:=by unfold az;exact Ò (show r3 [] s from λp c=>nomatch c)
def PX (h:ù s i=À xs):Ca (.ref i) s=.ok (xs,[(i,xs)]) s:=by
 show(need (ù s i) λxs=>R.ok (xs,[(i,xs)]) s)=_;rw[h];rfl
def Ii {b:Nat}(C:S->Prop){names:Á Str}{i:Nat}{s:S}{elt:Ev}{x0:Ë AV}{rest:En}(f:Str->Dt)(t:ù s i=À (names.map AV.str)) (c:C s)
  (h:∀x∈names,∀e,C (s++e)->(elt (À (.str x)::rest) (s++e)).wp λv s'=>∃j,s'=s++e++j/\C s'/\Rp b s' (f x) v) :
  (az (gN 0) fV elt [(i,names.map AV.str)] (names.map AV.str) (x0::rest) s []).wp λa s'=>∃e,s'=s++e/\C s'/\bu b s' (names.map f) a:=by
 refine om (λxs a d st=>∃done r x e,names=done++r/\xs=r.map AV.str/\d=x::rest/\st=s++e/\C st/\bu b st (done.map f) a) ?_ ?_ ?_ _ _ _ _ ⟨[],names,x0,[],rfl,rfl,rfl,by simp,c,.nil⟩
 ·rintro _ _ _ st ⟨_,_,_,e,_,_,_,rfl,_⟩ p u;rw[ò.mp u];exact ao t
 ·rintro a d st ⟨done,r,x,e,g,k,rfl,rfl,l,m⟩;cases r with
  |cons=>cases k
  |nil=>rw[Ġ]at g;subst g;exact⟨e,rfl,l,m⟩
 ·rintro v r a d st ⟨done,n,x,e,g,k,rfl,rfl,l,m⟩;cases n with
  |nil=>cases k
  |cons y n=>
   cases k;walk_at"w";refine(h y (by rw[g];simp) e l).mono ?_;rintro v s' ⟨j,rfl,o,q⟩;exact⟨done++[y],n,_,e++j,by rw[g];simp,rfl,rfl,by simp,o,by rw[ŉ];exact(m.app j).append (.one q)⟩
def kG (e:b v env s=.nx e1 s)(f:a e1 s=.ok true s)(g:elt e1 s=.ok x s)(h:r3 d s:=by exact λp i=>nomatch i):az b a elt d (v::r) env s c=az b a elt d r e1 s (c++[x]):=by
 rw[az,Ò h,e];dsimp only;rw[f];show(if true=true then (elt e1 s).calm.bind λx j=>az b a elt d r e1 j (c++[x])else az b a elt d r e1 s c)=_;rw[Ò rfl,g];rfl
def bh (e:b v env s=.nx e1 s)(f:a e1 s=.ok false s)(g:r3 d s:=by exact λp h=>nomatch h):az b a elt d (v::r) env s c=az b a elt d r e1 s c:=by
 rw[az,Ò g,e];dsimp only;rw[f];show(if false=true then (elt e1 s).calm.bind λx i=>az b a elt d r e1 i (c++[x])else az b a elt d r e1 s c)=_;rw[Ø s!"i"]
end Mm
namespace Ro
open PySem L2 Mm
def kT {α:Type}(f:α->Str)(g:α->AV)(l:Á α):Á (Key×AV):=l.map λa=>(.inr (f a),g a)
theorem Ee (f:α->Str)(g:α->AV)(x:Str):∀l:Á α,a6 (kT f g l) (.inr x)=(l.find? λa=>decide (f a=x)).map g
 |[]=>rfl
 |a::r=>by
  show(if (bt (f a):Key)=bt x then À (g a)else a6 (kT f g r) (.inr x))=_;rw[Ee f g x r,bZ];by_cases h:f a=x
  ·rw[Ò (by rw[h]),Ă h];rfl
  ·rw[Ø (λz=>h (kW z)),ë h]
def wM (h:x∈l):a6 (kT id g l) (.inr x)=À (g x):=by
 rw[Ee];cases e:l.find? λa=>decide (id a=x)with
 |none=>
  have:=Lv.mp e x h;simp at this
 |some a=>
  have:=List.find?_some e;have:a=x:=by simpa using this
  rw[this];rfl
def K5 (h:x∉l):a6 (kT id g l) (.inr x)=none:=by
 rw[Ee];have:(l.find? λa=>decide (id a=x))=none:=Lv.mpr λa b=>by
  simp only[id,Š];intro e;exact h (e▸b)
 rw[this];rfl
theorem K2 (f:α->Str)(g:α->AV):∀l:Á α,mz (kT f g l)=À (l.map f)
 |[]=>rfl
 |a::r=>by
  show(mz (kT f g r)).map (f a::·)=_;rw[K2 f g r];rfl
def sO (h:x∉l)(d:v=g x):lE (kT id g l) (.inr x) v=kT id g (l++[x]):=by
 unfold lE;have:((kT id g l).any λe=>decide (e.1=bt x))=false:=by
  rw[LU];intro p c;obtain⟨a,b,rfl⟩:=ň.mp c;simp only[id,Š];intro z;exact h (kW z▸b)
 rw[this,Ø s!"i"];unfold kT;rw[ŉ,d];rfl
def wh (h:x∈l):lE (kT id g l) (.inr x) v=kT id (λy=>if y=x then v else g y) l:=by
 unfold lE;have:((kT id g l).any λb=>decide (b.1=bt x))=true:=by
  rw[w8];exact⟨(.inr x,g x),ň.mpr ⟨x,h,rfl⟩,by simp⟩
 rw[Ò this];unfold kT;rw[uL];refine HB λa c=>?_;show(if (bt a:Key)=bt x then ((bt a:Key),v)else (bt a,g a))=(bt a,if a=x then v else g a)
 by_cases e:a=x
 ·rw[Ò (by rw[e]),Ò e]
 ·rw[Ø (λz=>e (kW z)),Ø e]
noncomputable def Ap (B:Nat)(h:Int):Á (Str×AV):=[("keeps",.ref (B+1)),("rows",.ref (B+2)),("hands",.ref (B+3)),("makers",.ref (B+4)),("rates",.ref (B+5)),("half",.int h),("money",.ref (B+6)),("debts",.ref (B+7))]
def lr (B:Nat)(h:Int):(Ap B h).lookup (ĩ "keeps")=À (AV.ref (B+1)):=by rfl
def lZ (B:Nat)(h:Int):(Ap B h).lookup (ĩ "rows")=À (AV.ref (B+2)):=by rfl
def IJ (B:Nat)(h:Int):(Ap B h).lookup (ĩ "hands")=À (AV.ref (B+3)):=by rfl
def Gh (B:Nat)(h:Int):(Ap B h).lookup (ĩ "makers")=À (AV.ref (B+4)):=by rfl
def IL (B:Nat)(h:Int):(Ap B h).lookup (ĩ "rates")=À (AV.ref (B+5)):=by rfl
def MF (B:Nat)(h:Int):(Ap B h).lookup (ĩ "half")=À (AV.int h):=by rfl
def IK (B:Nat)(h:Int):(Ap B h).lookup (ĩ "money")=À (AV.ref (B+6)):=by rfl
def II (B:Nat)(h:Int):(Ap B h).lookup (ĩ "debts")=À (AV.ref (B+7)):=by rfl
def UD (B:Nat)(h:Int)(k:((s!"l":Á Str).any λf=>m == f)=false):(Ap B h).lookup m=none:=by
 simp only[Ų,List.any_nil,TX,Hk]at k;obtain⟨a,b,c,d,e,g,i,j⟩:=k;unfold Ap;simp only[Ħ,a,b,c,d,e,g,i,j,List.lookup_nil]
def vu (h:kH s i=À kvs):lD (.str x) (.ref i) s=.ok (.bl (a6 kvs (.inr x)).isSome) s:=by
 show(need (kH s i) λkvs=>need (gb (.str x)) λk=>R.ok (AV.bl (a6 kvs k).isSome) s)=_;rw[h];rfl
def qA (h:kH s i=À kvs):eG (.str x) (.ref i) s=.ok (.bl (!(a6 kvs (.inr x)).isSome)) s:=by
 show(need (kH s i) λkvs=>need (gb (.str x)) λk=>R.ok (AV.bl (!(a6 kvs k).isSome)) s)=_;rw[h];rfl
def Bb (h:kH s i=À kvs)(e:a6 kvs (.inr x)=À v):ô (.ref i) (.str x) s=.ok v s:=by
 show(need (kH s i) λkvs=>need (gb (.str x)) λk=>need (a6 kvs k) λv=>R.ok v s)=_;rw[h,ø,show gb (.str x)=À (.inr x)from rfl,ø,e];rfl
def kd:(a6 (kT id g l) (.inr x)).isSome=decide (x∈l):=by
 by_cases h:x∈l
 ·rw[wM h,Ă h];rfl
 ·rw[K5 h,ë h];rfl
def da (h:b env s=.rt v s1)(a:env=as.map À++â (n-as.length) none:=by rfl):bH n b as s=.ok v s1:=by subst a;unfold bH;rw[h]
def vE (h:b env s=.nx e s1)(a:env=as.map À++â (n-as.length) none:=by rfl):bH n b as s=.ok .Ĕ s1:=by subst a;unfold bH;rw[h]
def EI (h:b env s=.ex c s1)(a:env=as.map À++â (n-as.length) none:=by rfl):bH n b as s=.ex c s1:=by subst a;unfold bH;rw[h]
def DS (h:a env s=.ex c s1):ã a b env s=.ex c s1:=by unfold ã;rw[h]
def ĕ (h:a env s=.nx e s1):ã a b env s=b e s1:=by unfold ã;rw[h]
def EF (h:m env s=.ex c s1):į m env s=.ex c s1:=by unfold į;rw[h];rfl
def lY (h:m env s=.ok v s1):į m env s=.nx env s1:=by unfold į;rw[h];rfl
def m_ (h:c env s=.ok true s1):a5 c a b env s=a env s1:=by unfold a5;rw[h];rfl
def Bt (h:c env s=.ok false s1):a5 c a b env s=b env s1:=by unfold a5;rw[h];rfl
def rj:mv 0 (À v::l) s=.ok v s:=rfl
def Ct:mv 1 (x::À v::l) s=.ok v s:=rfl
def Pj (h:a.length<=1000)(k:x.length<=1000)(e:m env s=.ok (.str x) s) (r:Ej)(Q:AV->S->Prop)(hr:∀t:Str,t.length<=2000->((r t env s).bind λt s1=>if t.length<=sizeLine then R.ok (AV.str t) s1 else .bad).wp Q):(jL (bX (mc (.str a)) (bX (bg kh m) r)) env s).wp Q:=by
 have b:(kU++a).length=a.length:=by rw[OZ];show 0+_=_;lia
 have c:(kU++a++x).length=a.length+x.length:=by rw[OZ,b]
 unfold jL bX mc bg;simp only[ï];rw[Ò (by rw[b,İ];lia)];have d:kh (.str x) s=.ok (.str x) s:=Ò (by rw[İ];lia);simp only[e,ï,d];rw[Ò (by rw[c,İ];lia)];exact hr _ (by rw[c];lia)
def join_nil (h:∀t,Q (.str t) s):∀t:Str,t.length<=2000->((sf t env s).bind λt s1=>if t.length<=sizeLine then R.ok (AV.str t) s1 else .bad).wp Q:=λt a=>by
 unfold sf;rw[ï,Ò (by rw[İ];lia)];exact h t
def Kz (h:(m env s).wp λ_ s1=>s1=s):Au c (Â m Ï) env s=.ex ⟨c,[]⟩ s:=by
 obtain⟨v,s1,e,rfl⟩:=h.get;unfold Au Â Ï;rw[e];rfl
def DP (h:kH s i=À kvs)(l:kvs.length<1000):putD v (.ref i) (.str x) env s=.nx env (s.set i (.dK (lE kvs (.inr x) v))):=by
 show(match kH s i,gb (.str x)with
  |some kvs,À k=>if kvs.length<sizeLine then RS.nx env (s.set i (.dK (lE kvs k v)))else .bad
  |_,_=>.bad)=_
 rw[h];show(if kvs.length<sizeLine then _ else _)=_;rw[Ò (by rw[İ];lia)]
def vP (f:α->Str)(g:α->AV)(l:Á α):(kT f g l).length=l.length:=by unfold kT;rw[É]
def sQ (h:a env s=.rt v s1):ã a b env s=.rt v s1:=by unfold ã;rw[h]
def p9 (h:m l s=.ok v s1):ņ i m l s=.nx (l.set i (À v)) s1:=by unfold ņ;rw[h];rfl
def V2 {r:RS}(h:r.wp (λe s'=>e=env/\s'=t) (λ_ _=>False)):r=.nx env t:=by
 cases r with
 |nx e s'=>obtain⟨rfl,rfl⟩:=h;rfl
 |_=>exact h.elim
theorem lB:∀{l:Á AV},(∀v∈l,v.low b=true)->Ŀ b l=true
 |[],_=>by simp[Ŀ]
 |v::r,h=>by simp only[Ŀ,h v (.head _),lB λw hw=>h w (.tail _ hw)];rfl
def ix0:ì (.tup (a::l)) (.int 0) s=.ok a s:=by
 show(need (mG (a::l) 0) λv=>R.ok v s)=_;rw[show mG (a::l) 0=À a from Lq.2.2.2.2.1 a l];rfl
def nI (h:a env s=.ok v s1):å 1 F (Â a Ï) env s=F [v] s1:=by
 unfold å Â Ï;rw[h];rfl
def CO (h:a env s=.ok v s1)(k:b env s1=.ok w c):å 2 F (Â a (Â b Ï)) env s=F [v,w] c:=by
 unfold å Â Ï;rw[h,ï,k];rfl
def eF (h:m env s=.ok xs s1):Ď m env s=.ok (.ref s1.length) (s1++[.lst xs]):=by
 unfold Ď;rw[h];rfl
def jK (h:c env s=.ok false s1):a5 c a ĉ env s=.nx env s1:=(Bt h).trans rfl
def B9 {t:S}{k:Nat}(c:Cl s)(lo:Ŀ s.length xs=true)(e:m env s=.ok (.ref k) (s++t)) (b:ù (s++t) k=À xs) (a:s.length<=k):gf m env s=.ok xs s:=by
 apply R.wp.eq;simp?[↓a7 e,b,↓pf,cL];exact⟨a,c,lo⟩
def QO:zu c s!"h" (s++AO.ins c fs::t)=À (s.length,fs):=zw (by rw[ç (Í _)];simp)
def SX:(s++a::t).set s.length o=s++o::t:=by rw[dv _ _ (Í _)];simp
def j_ (hl:fs.length<1000)(e:m (À s!"h"::env) (s++.ins c fs::t)=.ok v (s++.ins c fs::t')):lF c f (mv 0) m (À s!"h"::env) (s++.ins c fs::t)=.nx (À s!"h"::env) (s++.ins c (BX f v fs)::t'):=by
 unfold lF;simp only[e,eY,rj,QO];rw[Ò hl,SX]
def Il:Dm env (s++a::t)=.ok (.ref (s.length+(t.length+1))) (s++a::(t++[.dK []])):=by
 unfold Dm;rw[è,ć,Õ];rfl
def PU:GI env (s++a::t)=.ok (.ref (s.length+(t.length+1))) (s++a::(t++[.dT []])):=by
 unfold GI;rw[è,ć,Õ];rfl
def Pn:Ď (Ŭ Ï) env (s++a::t)=.ok (.ref (s.length+(t.length+1))) (s++a::(t++[.lst []])):=by
 apply R.wp.eq;simp?[è,ć,Õ,bw]
def MM (s:S):ai [.ref s.length] (s++[.ins 9 []])=.ok .Ĕ (s++[.ins 9 (Ap s.length 182),.dK [],.dK [],.dT [],.dK [],.dT [],.lst [],.lst []]):=by
 unfold ai ij;refine vE (env:=[À s!"h"]) (e:=[À s!"h"]) ?_;rw[ĕ (j_ (by show 0<1000;lia) Il),ĕ (j_ (by show 1<1000;lia) Il),ĕ (j_ (by show 2<1000;lia) PU),ĕ (j_ (by show 3<1000;lia) Il),ĕ (j_ (by show 4<1000;lia) PU),
  ĕ (j_ (m:=mc bK) (v:=.int 182) (by show 5<1000;lia) rfl),ĕ (j_ (by show 6<1000;lia) Pn),j_ (by show 7<1000;lia) Pn]
 rfl
def M6 (s:S)(env:En):pW 9 ai env s=.ok s!"h" (s++[.ins 9 (Ap s.length 182),.dK [],.dK [],.dT [],.dK [],.dT [],.lst [],.lst []]):=by
 unfold pW;rw[MM];rfl
def HV (ns:Á Int)(q:Cl a):(dP [.sq (ns.map AV.int)] a).wp λv s'=>∃c d e,v=.ref d/\s'=a++e/\Dr c d 0 s'/\a.length<=c/\a.length<=d:=by
 obtain⟨b,em⟩:∃b:Á Int,fI (ns.map AV.int) none (À 63)=b.map AV.int:=by
  refine⟨fI ns none (À 63),?_⟩;unfold fI;rw[É,<-TZ,<-ry]
 have w:zN (.sq (ns.map AV.int)) none (À 63) a=.ok (.ref a.length) (a++[.lst (b.map AV.int)]):=by
  show R.ok _ (a++[AO.lst (fI (ns.map AV.int) none (À 63))])=_;rw[em]
 have y:items (.ref a.length) (a++[.lst (b.map AV.int)])=À (b.map AV.int):=Ę _ _;have t:Cl (a++[.lst (b.map AV.int)]):=q.add (by simp[AO.low,low_ints]);have i:Cl (a++[.lst (b.map AV.int)]++[.lst (b.map AV.int)]):=t.add (by simp[AO.low,low_ints]);have n:ù (a++[.lst (b.map AV.int)]++[.lst (b.map AV.int)]) (a++[AO.lst (b.map AV.int)]).length=À (b.map AV.int):=Ę _ _;have p:a.length<=(a++[AO.lst (b.map AV.int)]).length:=by simp
 unfold dP lS;simp?[↓a7 w,y,wo];rw[Õ]at *
 have A:a.length<=(a++([AO.lst (b.map AV.int)]++[AO.lst (b.map AV.int)])).length:=by simp
 generalize ([AO.lst (b.map AV.int)]++[AO.lst (b.map AV.int)])=g at *
 generalize (a++[AO.lst (b.map AV.int)]).length=D at *
 have z:Ş (.ref D) (.ref (a++g).length) (a++g++[.lst []])=.ok (.bl (b.map AV.int).isEmpty) (a++g++[.lst []]):=by
  unfold Ş;rw[Bh (xs:=b.map AV.int) (ao n) (Ę _ _) (yf b)];rfl
 have l:∀s k x,gD [((mc (.str "cells")),(mv 1)),((mc (.str "turn")),s!"c")] [x,À (.ref k)] s=.ok s!"h" (s++[.dK (yc k 0)]):=by
  intro s k x;unfold gD Fo Fo Fo;simp only[mc,mv,ï,Lq,qF,gb,aD,bQ,ø];rw[Ò (by show(2:Nat)<=15;lia)];congr 1
 simp?[↓a7 z,cL];have h:∀k e f,ù (a++e) k=À (f.map AV.int)->f≠[]->Cl (a++e)->a.length<=k->∃c d u,AV.ref (a++e).length=.ref d/\a++e++[.dK (yc k 0)]=a++u/\Dr c d 0 (a++e++[.dK (yc k 0)])/\a.length<=c/\a.length<=d:=λk e f hl B cl C=>by
  have E:=(Æ.mp (ċ hl)).1;refine⟨k,_,_,rfl,by rw[Õ],⟨⟨0,f,by rw[ç (Í _)];simp,ċ (ao hl),B,by lia,by lia⟩,cl.add ?_⟩,C,by simp⟩;simp only[Ķ,c6,AO.low,yc,Î,aj,Ŀ,AV.low,br,Š];simp;simp at E;lia
 cases b with
 |nil=>
  simp only[aj,List.isEmpty_nil,fO,↓a7 (l _ _ _)];have o:=Ę (a++g) [.int 7];have j:Cl (a++g++[.lst [.int 7]]):=i.add (by simp[AO.low,Ŀ,AV.low]);rw[Õ]at o j⊢;exact h _ _ [7] o (by simp) j A
 |cons m r=>
  simp only[Î,List.isEmpty_cons,ŷ,fG,↓a7 (l _ _ _)];exact h _ _ (m::r) n (by simp) i p
theorem EE:∀(l:Á α)(m:Nat)(h:m<l.length),(l[m]::l.eraseIdx m).Perm l
 |[],_,h=>absurd h (by simp)
 |_::_,0,_=>List.Perm.refl _
 |a::r,m+1,h=>((List.Perm.swap ..).trans (List.Perm.cons a (EE r m (by simpa using h))):(r[m]'(by simpa using h)::a::r.eraseIdx m).Perm (a::r))
end Ro
set_option maxHeartbeats 400000
namespace Ro
open PySem L2 Mm
structure Pv where
 d:Dt
 v:AV
 h:∀b s,Rp b s d v
theorem Pv.low (p:Pv)(b:Nat):p.v.low b=true:=AV.low.mono (ê _) (p.h 0 []).low
def pI (i:Int):Pv:=⟨.int i,.int i,λ_ s=>eJ s i⟩
def pN:Pv:=⟨.Ĕ,.Ĕ,λ_ s=>wt s⟩
noncomputable def pT (l:Á Pv)(hl:l.length<=1000):Pv:=⟨.tup (l.map Pv.d),.tup (l.map Pv.v),λb s=>fC (by rw[É];exact hl) (bu.map λa _=>a.h b s)⟩
def pF (a b:Int):Pv:=pT [pI a,pI b] (by simp)
abbrev Mo:Type:=Bool×Int×Str×Int×Int×Str
def mW (b:Bool):Str:=if b then "sold" else "back"
def mE (x:Mo):AV:=.tup [.str (mW x.1),.int x.2.1,.str x.2.2.1,.int x.2.2.2.1,.int x.2.2.2.2.1,.str x.2.2.2.2.2]
noncomputable def mD (x:Mo):Dt:=.tup [.str (mW x.1),.int x.2.1,.str x.2.2.1,.int x.2.2.2.1,.int x.2.2.2.2.1,.str x.2.2.2.2.2]
def dE (x:Str×Int×Str×Int):AV:=.tup [.str x.1,.int x.2.1,.str x.2.2.1,.int x.2.2.2]
noncomputable def dD (x:Str×Int×Str×Int):Dt:=.tup [.str x.1,.int x.2.1,.str x.2.2.1,.int x.2.2.2]
def hV (x:Pv×Pv):AV:=.tup [x.1.v,x.2.v]
def tK (f:α->AV)(x:(Str×Int)×α):Á Key×AV:=(fJ x.1,f x.2)
structure Bo where
 ps:Á Str
 kf:Str->Pv
 ws:Á Str
 rf:Str->Pv
 hs:Á ((Str×Int)×(Pv×Pv))
 ms:Á Str
 mf:Str->Pv
 rs:Á ((Str×Int)×Pv)
 h:Int
 mn:Á Mo
 db:Á (Str×Int×Str×Int)
def mid (B:Nat)(V:Bo):Á AO:=[.ins 9 (Ap B V.h),.dK (kT id (λp=>(V.kf p).v) V.ps),.dK (kT id (λp=>(V.rf p).v) V.ws),.dT (V.hs.map (tK hV)),.dK (kT id (λp=>(V.mf p).v) V.ms),.dT (V.rs.map (tK Pv.v)),.lst (V.mn.map mE),.lst (V.db.map dE)]
abbrev Bz:Str:="by_days.<locals>.<lambda>"
structure gL (B:Nat)(V:Bo)(s:S):Prop where
 at_:At B (mid B V) s
 cl:Cl s
 t0:s[0]?=À (.tab 20 Bz)
 b0:0<B
structure ChA (B:Nat)(s s':S):Prop where
 len:s.length<=s'.length
 get:∀i,i<s.length->i<B∨B+8<=i->s'[i]?=s[i]?
section
variable {B:Nat}{V V1:Bo}{s:S}
theorem gL.len (h:gL B V s):B+8<=s.length:=h.at_.len (by show 0<8;lia)
theorem gL.app (h:gL B V s)(c:Cl (s++e)):gL B V (s++e):=⟨h.at_.app e,c,by rw[é (by have:=h.len;lia)];exact h.t0,h.b0⟩
def gL.put (h:gL B V s){i:Nat}{o:AO}(c:i<8)(lo:o.low s.length=true)(b:(mid B V).set i o=mid B V1):gL B V1 (s.set (B+i) o)/\ChA B s (s.set (B+i) o):=by
 have a:=h.b0;refine⟨⟨by rw[<-b];exact h.at_.set i o,h.cl.set lo,by rw[Û (by lia)];exact h.t0,a⟩,by rw[ŵ];exact Í _,λj d e=>?_⟩;rw[Û (by lia)]
def O5 (h:gL B V s):s[B]?=À (.ins 9 (Ap B V.h)):=h.at_.at (i:=0) rfl
def lj (h:gL B V s):kH s (B+1)=À (kT id (λp=>(V.kf p).v) V.ps):=kI (h.at_.at (i:=1) rfl)
def lX (h:gL B V s):kH s (B+2)=À (kT id (λp=>(V.rf p).v) V.ws):=kI (h.at_.at (i:=2) rfl)
def Ip (h:gL B V s):Gb s (B+3)=À (V.hs.map (tK hV)):=Io (h.at_.at (i:=3) rfl)
def Ga (h:gL B V s):kH s (B+4)=À (kT id (λp=>(V.mf p).v) V.ms):=kI (h.at_.at (i:=4) rfl)
def Iq (h:gL B V s):Gb s (B+5)=À (V.rs.map (tK Pv.v)):=Io (h.at_.at (i:=5) rfl)
def Jo (h:gL B V s):ù s (B+6)=À (V.mn.map mE):=dY (h.at_.at (i:=6) rfl)
def Jn (h:gL B V s):ù s (B+7)=À (V.db.map dE):=dY (h.at_.at (i:=7) rfl)
def m9 (h:gL B V s){f:Str}{v:AV}{l:En}(k:(Ap B V.h).lookup f=À v):bg (aa 9 f) (mv 0) (À (.ref B)::l) s=.ok v s:=by
 unfold bg;rw[rj,ï];exact QA (O5 h) k
def RM (h:gL B V s)(l:((s!"l":Á Str).any λf=>m == f)=false) (e1:c env s=.ok (.ref B) s) (a:r env s=.ok vs s) (b:vs.length=n:=by rfl):Į 9 m n F c r env s=F (.ref B::vs) s:=by
 unfold Į;rw[e1,ï,zw (O5 h)];dsimp only[need];rw[Ò (UD B V.h l),a,ï];exact Ò b
def p1 (h:a env s=.ok v s):Â a Ï env s=.ok [v] s:=by unfold Â Ï;rw[h];rfl
def BI (h:gL B V s)(l:((s!"l":Á Str).any λf=>m == f)=false) (e1:c env s=.ok (.ref B) s) (a:b env s=.ok v s):Į 9 m 1 F c (Â b Ï) env s=F [.ref B,v] s:=RM h l e1 (p1 a)
def uw (h:gL B V s)(a:x∈V.ps):Ě [.ref B,.str x] s=.ok .Ĕ s:=by
 unfold Ě fw;refine vE (env:=[À (.ref B),À (.str x)]) (Bt (s1:=s) (R.wp.eq ?_));simp?[↓a7 (m9 h (lr B V.h)),↓a7 (qA (lj h)),kd,a,kq,i4]
def xy (h:gL B V s)(a:x∈V.ws):ě [.ref B,.str x] s=.ok .Ĕ s:=by
 unfold ě dN;refine vE (env:=[À (.ref B),À (.str x)]) (Bt (s1:=s) (R.wp.eq ?_));simp?[↓a7 (m9 h (lZ B V.h)),↓a7 (qA (lX h)),kd,a,kq,i4]
def zF (h:gL B V s)(b:x.length<=1000)(a:x∉V.ws):ě [.ref B,.str x] s=.ex ⟨3,[]⟩ s:=by
 unfold ě dN;refine EI (env:=[À (.ref B),À (.str x)]) ((m_ (s1:=s) (R.wp.eq ?_)).trans (Kz (Pj s!"i" b rfl _ _ (join_nil λ_=>rfl))));simp?[↓a7 (m9 h (lZ B V.h)),↓a7 (qA (lX h)),kd,a,L3,g6]
def JN (h:gL B V s)(e1:d env s=.ok (.ref B) s) (a:c env s=.ok (.str x) s) (b:x∈V.ps):į (Į 9 "need_person" 1 Ě d (Â c Ï)) env s=.nx env s:=lY ((BI h s!"g" e1 a).trans (uw h b))
def vW (h:gL B V s)(e1:d env s=.ok (.ref B) s) (a:c env s=.ok (.str x) s) (b:x∈V.ws):į (Į 9 "need_work" 1 ě d (Â c Ï)) env s=.nx env s:=lY ((BI h s!"g" e1 a).trans (xy h b))
def Vt (h:gL B V s)(c:x.length<=1000)(e1:e env s=.ok (.ref B) s) (a:d env s=.ok (.str x) s) (b:x∉V.ws):į (Į 9 "need_work" 1 ě e (Â d Ï)) env s=.ex ⟨3,[]⟩ s:=EF ((BI h s!"g" e1 a).trans (zF h c b))
def tH (h:gL B V s)(x:Str):Ű [.ref B,.str x] s=.ok (.bl (decide (x∈V.ps∨x∈V.ws))) s:=by
 apply R.wp.eq;unfold Ű iq;by_cases a:x∈V.ps
 ·simp?[↓a7 (m9 h (lr B V.h)),↓a7 (vu (lj h)),kd,a,kq,true_or]
 ·simp?[↓a7 (m9 h (lr B V.h)),↓a7 (vu (lj h)),kd,a,L3,false_or,↓a7 (m9 h (lZ B V.h)),↓a7 (vu (lX h))]
def pd (h:gL B V s)(a:¬(x∈V.ps∨x∈V.ws)):av [.ref B,.str x] s=.ok .Ĕ s:=by
 unfold av gP;refine vE (env:=[À (.ref B),À (.str x)]) (Bt (s1:=s) (R.wp.eq ?_));simp?[↓a7 ((BI (m:="has_name") h s!"g" rj Ct).trans (tH h x)),a,L3,qZ]
def qB (h:kH s i=À kvs)(l:kvs.length<64)(e1:v env s=.ok w s)(a:d env s=.ok (.ref i) s) (b:y env s=.ok (.str x) s):gF d y v env s=.nx env (s.set i (.dK (lE kvs (.inr x) w))):=by
 unfold gF;rw[e1,eY,a,eY,b,eY];exact DP h (by lia)
def vn (h:gL B V s)(a:¬(x∈V.ps∨x∈V.ws)) (hl:V.ps.length<64)(b:(V.kf x).v=cw):ż [.ref B,.str x] s=.ok .Ĕ (s.set (B+1) (.dK (kT id (λp=>(V.kf p).v) (V.ps++[x])))):=by
 unfold ż fR;have e:=qB (env:=[À (.ref B),À (.str x)]) (v:=mc cw) (w:=cw) (y:=mv 1) (x:=x) (lj h) (by rw[vP];exact hl) rfl (m9 h (lr B V.h)) rfl;rw[sO (λz=>a (.inl z)) b.symm]at e;exact vE (env:=[À (.ref B),À (.str x)]) ((ĕ (lY ((BI (m:="need_free") h s!"g" rj Ct).trans (pd h a)))).trans e)
def y9 (h:gL B V s)(a:¬(x∈V.ps∨x∈V.ws)) (hl:V.ws.length<64)(b:(V.rf x).v=.tup []):aV [.ref B,.str x] s=.ok .Ĕ (s.set (B+2) (.dK (kT id (λp=>(V.rf p).v) (V.ws++[x])))):=by
 unfold aV ik;have e:=qB (env:=[À (.ref B),À (.str x)]) (v:=Ť Ï) (w:=.tup []) (y:=mv 1) (x:=x) (lX h) (by rw[vP];exact hl) (by apply R.wp.eq;walk_at"w") (m9 h (lZ B V.h)) rfl;rw[sO (λz=>a (.inr z)) b.symm]at e;exact vE (env:=[À (.ref B),À (.str x)]) ((ĕ (lY ((BI (m:="need_free") h s!"g" rj Ct).trans (pd h a)))).trans e)
theorem KW {k:Str×Int}(f:α->AV):∀l:Á ((Str×Int)×α),(a6 (l.map (tK f)) (fJ k)).isSome=decide (k∈l.map uQ)
 |[]=>rfl
 |x::r=>by
  show(if fJ x.1=fJ k then À (f x.2)else a6 (r.map (tK f)) (fJ k)).isSome=_;by_cases a:x.1=k
  ·rw[Ò (by rw[a]),Ă (by rw[Î,a];exact .head _)];rfl
  ·rw[Ø λz=>a (qE z),KW f r,Î];congr 1;rw[Þ];exact g7 ⟨.inr,λz=>z.resolve_left λe=>a e.symm⟩
noncomputable abbrev hA (B:Nat)(x:Str)(k:Int)(y:Str)(v:AV):En:=[À (.ref B),À (.str x),À (.int k),À (.str y),À v]
def eq_str (e1:a env s=.ok (.str x) s) (c:b env s=.ok (.str y) s) (d:decide (x=y)=t):cB (Ç Ş a b) env s=.ok t s:=by
 subst d;unfold cB Ç;rw[e1,ï,c,ï];rfl
noncomputable abbrev kA (B:Nat)(x:Str)(k:Int)(y:Str):En:=[À (.ref B),À (.str x),À (.int k),À (.str y)]
abbrev rA (B:Nat)(x:Str)(k:Int)(v:AV):En:=[À (.ref B),À (.str x),À (.int k),À v]
def HR (h:ù s i=À xs)(l:xs.length<900)(e1:o env s=.ok (.ref i) s) (b:a env s=.ok v s):į (gg "list" Ő o (Â a Ï)) env s=.nx env (s.set i (.lst (xs++[v]))):=by
 refine lY (v:=.Ĕ) (R.wp.eq ?_);simp?[↓a7 e1,mh h,↓a7 b,↓a7 (append_at (v:=v) h (Ŕ (by lia)))]
end
end Ro
set_option maxHeartbeats 400000
namespace Ro
open PySem L2 Mm
def uW:forL c b [] [] env s=.nx env s:=by unfold forL;exact Ò (show r3 [] s from λp a=>nomatch a)
def jz (d:a v env s=.nx e1 s1)(e:b e1 s1=.nx c g):forL a b [] (v::r) env s=forL a b [] r c g:=by
 rw[forL,Ò (show r3 [] s from λp f=>nomatch f),d];dsimp only;rw[e]
def QC (d:a v env s=.nx e1 s1)(e:b e1 s1=.ex c g):forL a b [] (v::r) env s=.ex c g:=by
 rw[forL,Ò (show r3 [] s from λp f=>nomatch f),d];dsimp only;rw[e]
def l0 (e:m env s=.ok (.tup xs) s):lG (Ŧ m) a b env s=forL a b [] xs env s:=by
 unfold lG Ŧ;rw[e];rfl
def O4 (h:Sz n q)(c:n<=9000):Ei q.num/\Ei (q.den:Int):=⟨c5 h.a (by lia),c5 h.b (by lia)⟩
def Pp (c:n<=9000)(d:Sz n a)(e:Sz n b):cZ [fq a,fq b] s=.ok (.bl (decide (a<b))) s:=by
 apply R.wp.eq;unfold cZ rX fq;walk_at"w";refine⟨⟨(O4 d c).1,(O4 e c).2⟩,⟨(O4 e c).1,(O4 d c).2⟩,?_⟩;congr 1;exact AN.mpr (LY a b).symm
noncomputable def E9 (a q:Rat):Rat:=if a<q then q else a
def LM:Rat->Á Rat->Rat
 |a,[]=>a
 |a,q::r=>LM (E9 a q) r
def gr (us:Á (Int×Rat)) (z:Rat):Rat:=LM 0 (us.map (·.2)++[z])
def DC (c:Sz n a)(d:Sz n b):Sz n (E9 a b):=by unfold E9;split<;>assumption
theorem JM:∀l a,Sz n a->(∀q∈l,Sz n q)->Sz n (LM a l)
 |[],_,h,_=>h
 |q::r,a,h,k=>JM r _ (DC h (k q (.head _))) λp b=>k p (.tail _ b)
noncomputable def pv (p:AV×Rat):AV:=.tup [p.1,fq p.2]
def PR (us:Á (Int×Rat)) (z:Rat):us.map G'++[.tup [.Ĕ,fq z]]=((us.map λp:Int×Rat=>((AV.int p.1,p.2):AV×Rat))++[((AV.Ĕ,z):AV×Rat)]).map pv:=by
 rw[ŉ,uL];rfl
theorem vH (f:n<=9000)(x0 x2 x3 x4:Ë AV):∀(l:Á (AV×Rat)) (a:Rat) (x5 x6:Ë AV),Sz n a->(∀p∈l,Sz n p.2)->∃c d,forL (gT 2 (ß (gN 5) (ß (gN 6) ś))) (a5 (cT (å 2 cZ (Â (mv 1) (Â (mv 6) Ï)))) (ņ 1 (mv 6)) ĉ) [] (l.map pv) [x0,À (fq a),x2,x3,x4,x5,x6] s=.nx [x0,À (fq (LM a (l.map (·.2)))),x2,x3,x4,c,d] s
 |[],a,x5,x6,_,_=>⟨x5,x6,uW⟩
 |p::r,a,x5,x6,e,hl=>by
  have g:=hl p (.head _);have e1:∀b,decide (a<p.2)=b->cT (å 2 cZ (Â (mv 1) (Â (mv 6) Ï))) [x0,À (fq a),x2,x3,x4,À p.1,À (fq p.2)] s=.ok b s:=λb i=>by
   subst i;unfold cT;rw[CO (v:=fq a) (w:=fq p.2) rfl rfl,Pp f e g];rfl
  obtain⟨c,d,k⟩:=vH f x0 x2 x3 x4 r (E9 a p.2) (À p.1) (À (fq p.2)) (DC e g) λq j=>hl q (.tail _ j);refine⟨c,d,Eq.trans ?_ k⟩;by_cases h:a<p.2
  ·rw[Î,jz (e1:=[x0,À (fq a),x2,x3,x4,À p.1,À (fq p.2)]) (s1:=s) rfl ((m_ (e1 true (Ă h))).trans (p9 (v:=fq p.2) rfl)),show E9 a p.2=p.2 from Ò h];rfl
  ·rw[Î,jz (e1:=[x0,À (fq a),x2,x3,x4,À p.1,À (fq p.2)]) (s1:=s) rfl (jK (e1 false (ë h))),show E9 a p.2=a from Ø h]
def IX (n v:AV):ŏ [.tup [.str "of",n,v]] s=.ok v s:=by
 unfold ŏ fe;exact da (env:=[À (.tup [.str "of",n,v]),none,none,none,none,none,none]) ((ĕ (e:=[À (.tup [.str "of",n,v]),none,À v,À (.str "of"),À n,none,none]) (s1:=s) rfl).trans (sQ ((m_ (eq_str (x:="of") (y:="of") rfl rfl (Ă rfl))).trans rfl)))
def Bs (m:Str)(us:Á (Int×Rat)) (z:Rat)(hu:∀p∈us,Sz 6 p.2)(hz:Sz 6 z):ŏ [rv (.steps m us z)] s=.ok (fq (gr us z)) s:=by
 obtain⟨b,c,e⟩:=vH (n:=6) (s:=s) (by lia) (À (rv (.steps m us z))) (À (.tup (us.map G'++[.tup [.Ĕ,fq z]]))) (À (.str "steps")) (À (.str m)) ((us.map λp:Int×Rat=>((AV.int p.1,p.2):AV×Rat))++[((AV.Ĕ,z):AV×Rat)]) 0 none none (Xh (by lia)) (λp hp=>by
  rcases ķ.mp hp with hp|hp
  ·obtain⟨x,a,rfl⟩:=ň.mp hp;exact hu x a
  ·rw[ò.mp hp];exact hz)
 rw[<-PR,ŉ,uL]at e;unfold ŏ fe;refine da (env:=[À (rv (.steps m us z)),none,none,none,none,none,none]) ?_;refine(ĕ (e:=[À (rv (.steps m us z)),none,À (.tup (us.map G'++[.tup [.Ĕ,fq z]])),À (.str "steps"),À (.str m),none,none]) (s1:=s) rfl).trans ?_;refine(ĕ (jK (eq_str (x:="steps") (y:="of") rfl rfl s!"g"))).trans ?_;refine(ĕ (p9 (v:=cw) rfl)).trans ?_;refine(ĕ ((l0 (xs:=us.map G'++[.tup [.Ĕ,fq z]]) rfl).trans e)).trans ?_;rfl
def rk:Á Rw->Á Rat
 |[]=>[]
 |.of _ q::r=>q::rk r
 |.steps _ us z::r=>gr us z::rk r
 |.left _ _::r=>rk r
 |.len _ _::r=>rk r
def vm:Rw->Prop
 |.of _ q=>Sz 6 q
 |.steps _ us z=>(∀p∈us,Sz 6 p.2/\0<p.2)/\Sz 6 z/\0<z/\us.length<=3
 |.left _ q=>Sz 6 q
 |.len _ _=>True
def UH (hu:∀p∈us,Sz 6 p.2)(hz:Sz 6 z):Sz 6 (gr us z):=JM _ _ (Xh (by lia)) λq hq=>by
 rcases ķ.mp hq with hq|hq
 ·obtain⟨p,a,rfl⟩:=ň.mp hq;exact hu p a
 ·rw[ò.mp hq];exact hz
theorem sN:∀{rs:Á Rw},(∀r∈rs,vm r)->(∀q∈rk rs,Sz 6 q)/\(rk rs).length<=rs.length
 |[],_=>⟨s!"p",Í _⟩
 |.of _ q::r,h=>by
  have b:=sN (rs:=r) λx a=>h x (.tail _ a);have c:Sz 6 q:=h _ (.head _);exact⟨λx a=>(Þ.mp a).elim (λe=>e▸c) (b.1 x),ny b.2⟩
 |.steps _ us z::r,h=>by
  have b:=sN (rs:=r) λx a=>h x (.tail _ a);have c:(∀p∈us,Sz 6 p.2/\0<p.2)/\Sz 6 z/\0<z/\us.length<=3:=h _ (.head _);exact⟨λx a=>(Þ.mp a).elim (λe=>e▸UH (λp d=>(c.1 p d).1) c.2.1) (b.1 x),ny b.2⟩
 |.left _ _::r,h=>by
  have b:=sN (rs:=r) λx a=>h x (.tail _ a);exact⟨b.1,OW b.2⟩
 |.len _ _::r,h=>by
  have b:=sN (rs:=r) λx a=>h x (.tail _ a);exact⟨b.1,OW b.2⟩
def MX {r:Rw}{b:Bool}(h:(match r with|.of _ _=>true|.steps _ _ _=>true|_=>false)=b):cB (Ç mq (Ç ì (mv 0) s!"c") (mc ū)) [À (rv r)] s=.ok b s:=by
 subst h;cases r<;>rfl
theorem n5:∀{rs:Á Rw},(∀r∈rs,vm r)->∀a b,az (gN 0) (cB (Ç mq (Ç ì (mv 0) s!"c") (mc ū))) (å 1 ŏ s!"u") [] s!"f" [a] s b=.ok (b++(rk rs).map fq) s
 |[],_,a,b=>by rw[aj,fW];simp[rk]
 |.of m q::r,h,a,b=>by
  rw[Î,kG (e1:=[À (rv (.of m q))]) rfl (MX rfl) ((nI rj).trans (IX (.str m) (fq q))),n5 λx c=>h x (.tail _ c)];simp[rk]
 |.steps m us z::r,h,a,b=>by
  have d:(∀p∈us,Sz 6 p.2/\0<p.2)/\Sz 6 z/\0<z/\us.length<=3:=h _ (.head _);rw[Î,kG (e1:=[À (rv (.steps m us z))]) rfl (MX rfl) ((nI rj).trans (Bs m us z (λp e=>(d.1 p e).1) d.2.1)),n5 λx c=>h x (.tail _ c)];simp[rk]
 |.left m q::r,h,a,b=>by
  rw[Î,bh (e1:=[À (rv (.left m q))]) rfl (MX rfl),n5 λx c=>h x (.tail _ c)];rfl
 |.len m q::r,h,a,b=>by
  rw[Î,bh (e1:=[À (rv (.len m q))]) rfl (MX rfl),n5 λx c=>h x (.tail _ c)];rfl
def uG (rs:Á Rw):Bool:=decide (1<bU (rk rs))
def Tf {rs:Á Rw}(h:∀r∈rs,vm r)(hl:rs.length<=20):bT [.tup s!"f"] s=.ok (.bl (uG rs)) s:=by
 obtain⟨i,l⟩:=sN h;obtain⟨k,c⟩:=wG (b:=6) (m:=200) (rk rs) 0 1 (Xh (by lia)) i (by lia) (by lia);have c:Sz 200 (bU (rk rs)):=by rw[FO]at c;exact c.mono (by lia)
 have d:ł [("row",none)] (Ŧ (mv 0)) (gN 0) (cB (Ç mq (Ç ì (mv 0) s!"c") (mc ū))) (å 1 ŏ s!"u") [À (.tup s!"f")] s=.ok ((rk rs).map fq) s:=by
  unfold ł Ŧ;rw[rj,ï];dsimp only;rw[ï];dsimp only;rw[Ò (xM (by rw[É];lia))];exact(n5 h none []).trans (by rw[bb])
 have e:=(nI (F:=hU) (eF d)).trans (S5 (n:=200) (by lia) (.ref (Ę s ((rk rs).map fq))) k);have g:C4 (å 1 hU (Â (Ď (ł [("row",none)] (Ŧ (mv 0)) (gN 0) (cB (Ç mq (Ç ì (mv 0) s!"c") (mc ū))) (å 1 ŏ s!"u"))) Ï)) [À (.tup s!"f")] s=.ok (fq (bU (rk rs))) s:=by
  unfold C4;rw[e,ï];exact Ò ⟨cL,by simp[AV.low,Ŀ,fq]⟩
 have j:Sz 200 (1:Rat):=⟨nM s!"i" s!"g",nM s!"i" s!"g"⟩
 have f:=(CO (F:=cZ) (a:=mc yo) (v:=fq 1) (env:=[À (.tup s!"f")]) rfl g).trans (Pp (by lia) j c);unfold bT pG;refine da (env:=[À (.tup s!"f")]) ?_;unfold Č;rw[f];rfl
end Ro
set_option maxHeartbeats 400000
namespace Ro
open PySem L2 Mm
def v7:Á Rw->Á Rat
 |[]=>[]
 |.of _ q::r=>q::v7 r
 |.steps _ _ _::r=>v7 r
 |.left _ _::r=>v7 r
 |.len _ _::r=>v7 r
def yj:Á Rw->Á Rat
 |[]=>[]
 |.of _ _::r=>yj r
 |.steps _ us z::r=>gr us z::yj r
 |.left _ _::r=>yj r
 |.len _ _::r=>yj r
theorem wI:∀rs:Á Rw,bU (v7 rs++yj rs)=bU (rk rs)
 |[]=>rfl
 |.of _ q::r=>by show q+bU (v7 r++yj r)=q+bU (rk r);rw[wI r]
 |.steps _ us z::r=>by
  show bU (v7 r++(gr us z::yj r))=gr us z+bU (rk r);rw[<-wI r,wH,wH];show bU (v7 r)+(gr us z+bU (yj r))=_;grind
 |.left _ _::r=>wI r
 |.len _ _::r=>wI r
theorem nZ:∀rs:Á Rw,(∀q∈v7 rs++yj rs,q∈rk rs)/\(v7 rs++yj rs).length=(rk rs).length
 |[]=>⟨s!"p",rfl⟩
 |.of _ q::r=>⟨λx hx=>(Þ.mp hx).elim (λe=>e▸.head _) (λz=>.tail _ ((nZ r).1 x z)),ğ Nat.succ (nZ r).2⟩
 |.steps _ us z::r=>⟨λx hx=>by
   rcases ķ.mp hx with hx|hx
   ·exact .tail _ ((nZ r).1 x (eO _ hx))
   ·rcases Þ.mp hx with rfl|hx
    ·exact .head _
    ·exact .tail _ ((nZ r).1 x (Ĩ _ hx)),by
   have:=(nZ r).2;show(v7 r++(gr us z::yj r)).length=(rk r).length+1;simp only[è,ć]at this⊢;lia⟩
 |.left _ _::r=>nZ r
 |.len _ _::r=>nZ r
def Nx (a:0<p)(r:Á Rat):LM p (p::r)=LM 0 (p::r):=by
 show LM (E9 p p) r=LM (E9 0 p) r;rw[show E9 p p=p by unfold E9;split<;>rfl,show E9 0 p=p from Ò a]
def UI (c:n<=9000)(d:Sz n a)(e:Sz n b){x0 x1 x2 x3 x4 x6:Ë AV}(t:Bool)(f:decide (a<b)=t):cB (Ç p7 (Ç bY (Ç ì (mv 7) s!"c") (Ç ì (mv 5) s!"d")) (Ç bY (Ç ì (mv 5) s!"c") (Ç ì (mv 7) s!"d"))) [x0,x1,x2,x3,x4,À (fq a),x6,À (fq b)] s=.ok t s:=by
 subst f;apply R.wp.eq;unfold fq;walk_at"w";refine⟨⟨(O4 e c).1,(O4 d c).2⟩,⟨(O4 d c).1,(O4 e c).2⟩,?_⟩;exact AN.mpr (LY a b).symm
theorem BA (c:n<=9000)(x0 x1 x2 x3 x4:Ë AV):∀(l:Á (AV×Rat)) (a:Rat) (x6 x7:Ë AV),Sz n a->(∀p∈l,Sz n p.2)->∃e f,forL (gT 2 (ß (gN 6) (ß (gN 7) ś))) (a5 (cB (Ç p7 (Ç bY (Ç ì (mv 7) s!"c") (Ç ì (mv 5) s!"d")) (Ç bY (Ç ì (mv 5) s!"c") (Ç ì (mv 7) s!"d")))) (ņ 5 (mv 7)) ĉ) [] (l.map pv) [x0,x1,x2,x3,x4,À (fq a),x6,x7] s=.nx [x0,x1,x2,x3,x4,À (fq (LM a (l.map (·.2)))),e,f] s
 |[],a,x6,x7,_,_=>⟨x6,x7,uW⟩
 |p::r,a,x6,x7,b,hl=>by
  have d:=hl p (.head _);obtain⟨e,f,i⟩:=BA c x0 x1 x2 x3 x4 r (E9 a p.2) (À p.1) (À (fq p.2)) (DC b d) λq g=>hl q (.tail _ g);refine⟨e,f,Eq.trans ?_ i⟩;by_cases h:a<p.2
  ·rw[Î,jz (e1:=[x0,x1,x2,x3,x4,À (fq a),À p.1,À (fq p.2)]) (s1:=s) rfl ((m_ (UI c b d true (Ă h))).trans (p9 (v:=fq p.2) rfl)),show E9 a p.2=p.2 from Ò h];rfl
  ·rw[Î,jz (e1:=[x0,x1,x2,x3,x4,À (fq a),À p.1,À (fq p.2)]) (s1:=s) rfl (jK (UI c b d false (ë h))),show E9 a p.2=a from Ø h]
def NB {r:Rw}{b:Bool}(h:(match r with|.of _ _=>true|_=>false)=b):cB (Ç Ş (Ç ì (mv 0) s!"c") (mc (.str "of"))) [À (rv r)] s=.ok b s:=by
 subst h;cases r<;>rfl
def QQ:Rw->Bool
 |.steps _ _ _=>true
 |_=>false
def V9 {r:Rw}{b:Bool}(h:QQ r=b){x0 x1:Ë AV}{l:En}:cB (Ç Ş (Ç ì (mv 2) s!"c") (mc (.str "steps"))) (x0::x1::À (rv r)::l) s=.ok b s:=by
 subst h;cases r<;>rfl
theorem nY:∀rs a b,az (gN 0) (cB (Ç Ş (Ç ì (mv 0) s!"c") (mc (.str "of")))) (Ç ì (mv 0) s!"e") [] s!"f" [a] s b=.ok (b++(v7 rs).map fq) s
 |[],a,b=>by rw[aj,fW];simp[v7]
 |.of m q::r,a,b=>by
  rw[Î,kG (e1:=[À (rv (.of m q))]) (x:=fq q) rfl (NB rfl) rfl,nY r];simp[v7]
 |.steps m us z::r,a,b=>by rw[Î,bh (e1:=[À (rv (.steps m us z))]) rfl (NB rfl),nY r];rfl
 |.left m q::r,a,b=>by rw[Î,bh (e1:=[À (rv (.left m q))]) rfl (NB rfl),nY r];rfl
 |.len m q::r,a,b=>by rw[Î,bh (e1:=[À (rv (.len m q))]) rfl (NB rfl),nY r];rfl
abbrev Zn:Ms:=a5 (cB (Ç Ş (Ç ì (mv 2) s!"c") (mc (.str "steps")))) (ã (ņ 5 (Ç ì (Ç ì (Ç ì (mv 2) s!"e") s!"c") s!"d"))
 (ã (lG (Ŧ (Ç ì (mv 2) s!"e")) (gT 2 (ß (gN 6) (ß (gN 7) ś))) (a5 (cB (Ç p7 (Ç bY (Ç ì (mv 7) s!"c") (Ç ì (mv 5) s!"d")) (Ç bY (Ç ì (mv 5) s!"c") (Ç ì (mv 7) s!"d")))) (ņ 5 (mv 7)) ĉ))
 (į (gg "list" Ő (mv 1) (Â (mv 5) Ï))))) ĉ
def OF {i:Nat}(L:Á AV)(h:ù st i=À L)(hl:L.length<900)(m:Str)(us:Á (Int×Rat)) (z:Rat)(hr:vm (.steps m us z)) (x0 x3 x4 x5 x6 x7:Ë AV):∃y a b,Zn [x0,À (.ref i),À (rv (.steps m us z)),x3,x4,x5,x6,x7] st=.nx [x0,À (.ref i),À (rv (.steps m us z)),x3,x4,y,a,b] (st.set i (.lst (L++[fq (gr us z)]))):=by
 have hr:(∀p∈us,Sz 6 p.2/\0<p.2)/\Sz 6 z/\0<z/\us.length<=3:=hr;obtain⟨p,r,e,j,v⟩:∃(p:AV×Rat) (r:Á (AV×Rat)),(us.map λp:Int×Rat=>((AV.int p.1,p.2):AV×Rat))++[((AV.Ĕ,z):AV×Rat)]=p::r/\(∀q∈p::r,Sz 6 q.2)/\0<p.2:=by
  have k:∀q∈(us.map λp:Int×Rat=>((AV.int p.1,p.2):AV×Rat))++[((AV.Ĕ,z):AV×Rat)],Sz 6 q.2:=λq hq=>by
   rcases ķ.mp hq with hq|hq
   ·obtain⟨x,w,rfl⟩:=ň.mp hq;exact(hr.1 x w).1
   ·rw[ò.mp hq];exact hr.2.1
  cases us with
  |nil=>exact⟨_,[],rfl,k,hr.2.2.1⟩
  |cons u us=>exact⟨_,_,rfl,k,(hr.1 u (.head _)).2⟩
 have t:gr us z=LM p.2 ((p::r).map (·.2)):=by
  unfold gr;rw[show us.map (·.2)++[z]=((us.map λp:Int×Rat=>((AV.int p.1,p.2):AV×Rat))++[((AV.Ĕ,z):AV×Rat)]).map (·.2) by rw[ŉ,uL];rfl,e];exact(Nx v _).symm
 have g:us.map G'++[.tup [.Ĕ,fq z]]=(p::r).map pv:=by rw[PR,e]
 obtain⟨a,b,f⟩:=BA (n:=6) (s:=st) (by lia) x0 (À (.ref i)) (À (rv (.steps m us z))) x3 x4 (p::r) p.2 x6 x7 (j p (.head _)) j;refine⟨À (fq (gr us z)),a,b,(m_ (V9 rfl)).trans ?_⟩;have l:Ç ì (Ç ì (Ç ì (mv 2) s!"e") s!"c") s!"d" [x0,À (.ref i),À (rv (.steps m us z)),x3,x4,x5,x6,x7] st=.ok (fq p.2) st:=by
  have c:Ç ì (mv 2) s!"e" [x0,À (.ref i),À (rv (.steps m us z)),x3,x4,x5,x6,x7] st=.ok (.tup ((p::r).map pv)) st:=by rw[<-g];rfl
  have d:Ç ì (Ç ì (mv 2) s!"e") s!"c" [x0,À (.ref i),À (rv (.steps m us z)),x3,x4,x5,x6,x7] st=.ok (pv p) st:=by
   unfold Ç at c⊢;rw[c,ï,show mc (.int 0) [x0,À (.ref i),À (rv (.steps m us z)),x3,x4,x5,x6,x7] st=.ok (.int 0) st from rfl,ï];exact ix0
  generalize Ç ì (Ç ì (mv 2) s!"e") s!"c"=A at d⊢;unfold Ç;rw[d];rfl
 refine(ĕ (p9 l)).trans ?_;have o:Ç ì (mv 2) s!"e" [x0,À (.ref i),À (rv (.steps m us z)),x3,x4,À (fq p.2),x6,x7] st=.ok (.tup ((p::r).map pv)) st:=by rw[<-g];rfl
 rw[<-t]at f;refine(ĕ ((l0 o).trans f)).trans ?_;exact HR h hl rfl rfl
def OE {r:Rw}(h:QQ r=false)(x0 x1 x3 x4 x5 x6 x7:Ë AV):Zn [x0,x1,À (rv r),x3,x4,x5,x6,x7] st=.nx [x0,x1,À (rv r),x3,x4,x5,x6,x7] st:=jK (V9 h)
theorem Ac (s:S):∀rs L,(∀r∈rs,vm r)->L.length+rs.length<900->∀x0 x2 x3 x4 x5 x6 x7,∃a b c d,forL (gN 2) Zn [] s!"f" [x0,À s!"h",x2,x3,x4,x5,x6,x7] (s++[.lst L])=.nx [x0,À s!"h",a,x3,x4,b,c,d] (s++[.lst (L++(yj rs).map fq)])
 |[],L,_,_,x0,x2,x3,x4,x5,x6,x7=>⟨x2,x5,x6,x7,by rw[aj,uW];simp[yj]⟩
 |r::rs,L,h,hl,x0,x2,x3,x4,x5,x6,x7=>by
  have j:L.length+rs.length+1<900:=hl;by_cases f:QQ r=false
  ·obtain⟨a,b,c,d,i⟩:=Ac s rs L (λx g=>h x (.tail _ g)) (by lia) x0 (À (rv r)) x3 x4 x5 x6 x7;refine⟨a,b,c,d,?_⟩;rw[Î,jz (e1:=[x0,À s!"h",À (rv r),x3,x4,x5,x6,x7]) (s1:=s++[.lst L]) rfl (OE f x0 _ x3 x4 x5 x6 x7),i];cases r with
   |steps _ _ _=>cases f
   |_=>rfl
  ·cases r with
   |steps m us z=>
    obtain⟨k,l,n,e⟩:=OF L (Ę s L) (by lia) m us z (h _ (.head _)) x0 x3 x4 x5 x6 x7;obtain⟨a,b,c,d,i⟩:=Ac s rs (L++[fq (gr us z)]) (λx g=>h x (.tail _ g)) (by simp;lia) x0 (À (rv (.steps m us z))) x3 x4 k l n;refine⟨a,b,c,d,?_⟩;rw[Î,jz (e1:=[x0,À s!"h",À (rv (.steps m us z)),x3,x4,x5,x6,x7]) (s1:=s++[.lst L]) rfl e,show(s++[AO.lst L]).set s.length (.lst (L++[fq (gr us z)]))=s++[.lst (L++[fq (gr us z)])] by rw[dv _ _ (Í _)];simp,i];simp[yj]
   |_=>exact absurd rfl f
def Dj {rs:Á Rw}(h:∀r∈rs,vm r)(hl:rs.length<=20):Ś [.tup s!"f"] s=.ok (.bl (uG rs)) (s++[.lst ((v7 rs++yj rs).map fq)]):=by
 obtain⟨g,u⟩:=sN h;obtain⟨j,w⟩:=nZ rs;obtain⟨k,x⟩:=wG (b:=6) (m:=200) (v7 rs++yj rs) 0 1 (Xh (by lia)) (λq i=>g q (j q i)) (by lia) (by lia);have lo:(v7 rs).length<=20:=by
  have:(v7 rs++yj rs).length<=20:=by lia
  rw[è]at this;lia
 have f:ł [("_law_row_here",none)] (Ŧ (mv 0)) (gN 0) (cB (Ç Ş (Ç ì (mv 0) s!"c") (mc (.str "of")))) (Ç ì (mv 0) s!"e") [À (.tup s!"f"),none,none,none,none,none,none,none] s=.ok ((v7 rs).map fq) s:=by
  unfold ł Ŧ;rw[rj,ï];dsimp only;rw[ï];dsimp only;rw[Ò (xM (by rw[É];lia))];exact(nY rs none []).trans (by rw[bb])
 obtain⟨l,o,p,t,c⟩:=Ac s rs ((v7 rs).map fq) h (by rw[É];lia) (À (.tup s!"f")) none none none none none none;rw[<-ŉ]at c;have d:=M5 (n:=200) (by lia) (.ref (Ę s ((v7 rs++yj rs).map fq))) k;rw[wI]at d;unfold Ś fx;refine da (env:=[À (.tup s!"f"),none,none,none,none,none,none,none]) ?_;refine(ĕ (p9 (eF f))).trans ?_;refine(ĕ ((l0 (xs:=rs.map rv) rfl).trans c)).trans ?_;refine(ĕ (e:=[À (.tup s!"f"),À s!"h",l,À (.int (bU (rk rs)).num),À (.int (bU (rk rs)).den),o,p,t]) (s1:=s++[.lst ((v7 rs++yj rs).map fq)]) ?_).trans ?_
 ·unfold oX;rw[(nI (F:=fz) (a:=mv 1) (v:=.ref s.length) rfl).trans d];rfl
 ·unfold Č;show R.aQ (R.ok (AV.bl (decide (((bU (rk rs)).den:Int)<(bU (rk rs)).num))) _) _=_;rw[show decide (((bU (rk rs)).den:Int)<(bU (rk rs)).num)=uG rs from AN.mpr (by
   rw[LY];show _ ↔ (1:Int)*_<_*(1:Int)
   rw[xP,Hy])]
  rfl
def Rw.nm:Rw->Str
 |.of n _=>n
 |.steps n _ _=>n
 |.left n _=>n
 |.len n _=>n
def HM.pos (h:HM w q):0<q:=by
 obtain⟨j,c,_,rfl⟩:=h;have a:=zk (j:=j) (b:=60) (by lia) (by lia);refine Rat.lt_of_le_of_ne a λz=>?_;have z:ĵ j 60=0:=z.symm;rw[<-Rat.zero_divInt 1,CA (by lia) (by lia)]at z;lia
def Qd.s:∀{r:Rw},Qd w r->vm r
 |.of _ _,h=>(HM.sz h.2.2 h.2.1).1
 |.steps _ _ _,h=>⟨λp a=>⟨(HM.sz (h.2.2.2.1 p a) h.2.1).1,(h.2.2.2.1 p a).pos⟩,(HM.sz h.2.2.2.2 h.2.1).1,h.2.2.2.2.pos,h.2.2.1⟩
 |.left _ _,h=>h.2.2.2
 |.len _ _,_=>trivial
def Ky {c d n:Nat}{s:S}(D:Dr c d n s)(hn:n<=900000000)(nm:Str){f:Int}(r0:0<=f)(r1:f<=60):(dU [.ref d,.str nm,.int f] s).wp λv s'=>∃r w,v=.tup [rv r,.int w]/\r.nm=nm/\Qd w r/\0<=w/\w<=f/\Dr c d (n+20) s'/\Gk c d s s':=by
 unfold dU lV;walk_at"w";refine(take1 D).mono ?_;rintro _ l ⟨k,rfl,k0,k1,A,L⟩;walk_at"w";split
 ·-- O
  rename_i c1;have C:=A.app (e:=[.lst [.int 5,.int 1000]]) (A.cl.add (by simp[AO.low,Ŀ,AV.low]));refine(take1 C).mono ?_;rintro _ I ⟨j,rfl,j0,j1,D2,B⟩;obtain⟨v,g,H⟩:=tR (s:=I) (i:=l.length) (j:=j) (B.gk.lst (n:=0) (by have:=A.Cs;lia) (by have:=A.Dl;lia) (Ę l _)) j0 j1;obtain⟨b,rfl,b0,b1⟩:∃b,v=.int b/\1<=b/\b<=1000:=by
   simp only[Þ,ü,Ź]at g;rcases g with rfl|rfl<;>exact⟨_,rfl,by lia,by lia⟩
  obtain⟨U,K3,y⟩:=((Gk.app c d l _).trans B.gk).cut A D2;simp?[↓a7 H,y,show AV.low l.length (.int b)=true by simp[AV.low]];refine(take1 U).mono ?_;rintro _ o ⟨i,rfl,i0,i1,E,K4⟩;walk_at"w";exact⟨.len nm (1+i),0,rfl,rfl,⟨rfl,by lia,by lia⟩,by lia,r0,E.mono (by lia),L.gk.trans (K3.gk.trans K4.gk)⟩
 ·split
  ·refine(u6 A (by lia)).mono ?_;rintro _ I ⟨q,rfl,q0,q1,q2,D2,B⟩;exact⟨.left nm q,0,rfl,rfl,⟨rfl,q0,q1,q2⟩,by lia,r0,D2.mono (by lia),L.gk.trans B.gk⟩
  split
  ·refine(u6 A (by lia)).mono ?_;rintro _ I ⟨q,rfl,q0,q1,q2,D2,B⟩;exact⟨.left nm q,0,rfl,rfl,⟨rfl,q0,q1,q2⟩,by lia,r0,D2.mono (by lia),L.gk.trans B.gk⟩
  rename_i c1 c2 c3;have C:=A.app (e:=[.lst [.int 12,.int 60]]) (A.cl.add (by simp[AO.low,Ŀ,AV.low]));refine(take1 C).mono ?_;rintro _ I ⟨j,rfl,j0,j1,D2,B⟩;have hj:j.fdiv 2=j / 2:=Ay _ (by lia);obtain⟨v,g,H⟩:=tR (s:=I) (i:=l.length) (j:=j.fdiv 2) (B.gk.lst (n:=0) (by have:=A.Cs;lia) (by have:=A.Dl;lia) (Ę l _)) (by rw[hj];lia) (by rw[hj];show j / 2<(2:Int);lia);obtain⟨b,rfl,b0,b1⟩:∃b,v=.int b/\1<=b/\b<=60:=by
   simp only[Þ,ü,Ź]at g;rcases g with rfl|rfl<;>exact⟨_,rfl,by lia,by lia⟩
  obtain⟨U,K3,y⟩:=((Gk.app c d l _).trans B.gk).cut A D2;simp?[↓a7 H,y,show AV.low l.length (.int b)=true by simp[AV.low]];refine⟨⟨by decide,nX (n:=7) (nM (by lia) (by lia)) (by lia)⟩,?_⟩;obtain⟨m,em,m0,m1⟩:∃m,(if b<f then b else f)=m/\1<=m/\m<=f:=⟨_,rfl,by split<;>lia,by split<;>lia⟩
  rw[em];refine(take1 U).mono ?_;rintro _ o ⟨i,rfl,i0,i1,E,K4⟩;have G4:Gk c d s o:=L.gk.trans (K3.gk.trans K4.gk);walk_at"w";split
  ·simp?[↓a7 (qG (a:=1+i) (b:=60) _ (by lia) (by lia) (by lia) (by lia))];exact⟨.of nm _,1+i,rfl,rfl,⟨by lia,by lia,1+i,by lia,by lia,rfl⟩,by lia,by lia,E.mono (by lia),G4⟩
  ·-- steps
   have D5:=E.app (e:=[.lst []]) (E.cl.add (by simp[AO.low,Ŀ]));simp?[↓ra];refine(take1 D5).mono ?_;rintro _ s4 ⟨j2,rfl,a0,a1,D6,K6⟩;walk_at"w";refine⟨⟨by lia,by lia⟩,?_⟩;have lc:=E.Cs;have ld:=E.Dl;have L6:ù s4 o.length=À []:=K6.gk.lst (n:=0) (by lia) (by lia) (Ę o _);refine pL (λxs t st=>∃us Q x z,xs.length+z=3/\us.length<=z/\ù st o.length=À (us.map G')/\(∀p∈us,HM (1+i) p.2)/\t=[À (AV.ref d),À (.str nm),À (.int f),À (.int k),À (.int (1+i)),À (.ref o.length),À (.int Q),x]/\Dr c d (n+5+3*z) st/\Gk c d o st) ?_ ?_ ?_ _ _ _ ⟨[],0,none,3-(1+j2).toNat,by simp[n7];lia,ê _,L6,(λ_ h=>nomatch h),rfl,D6.mono (by lia),(Gk.app c d o _).trans K6.gk⟩
   ·rintro _ _ st _ p hp;cases hp
   ·rintro t st ⟨us,Q,x,z,J,z1,M,l2,rfl,X,Z⟩;have J:0+z=3:=J;simp?[mh M];refine(take1 X).mono ?_;rintro _ s5 ⟨u,rfl,b0,b1,Y,G⟩;have l5:=G.gk.lst (n:=0) (by lia) (by lia) M;have N:=qH (ys:=us.map G'++[AV.tup [.Ĕ,fq (ĵ (1+u) 60)]]) l5;simp?[↓a7 (qG (a:=1+u) (b:=60) _ (by lia) (by lia) (by lia) (by lia)),↓a7 (append_at l5 (Ŕ (by simp;lia))),items,N,kM];refine⟨.steps nm us (ĵ (1+u) 60),1+i,rfl,rfl,⟨by lia,by lia,by lia,l2,1+u,by lia,by lia,rfl⟩,by lia,by lia,?_,G4.trans ((Z.trans G.gk).set (Í _))⟩;exact(Y.mono (by lia)).set (by lia) (by lia) (by simp[AO.low,nU,zB,Ŀ,AV.low,vU])
   ·rintro v r t st ⟨us,Q,x,z,J,z1,M,l2,rfl,X,Z⟩;have J:r.length+1+z=3:=J;walk_at"w";refine(NZ (m:=2) (xs:=[.int 3,.int 9]) X (by lia) (by rfl) (by lia) (by lia) (P:=λb=>1<=b/\b<=100000) (by
     intro v g;simp only[Þ,ü,Ź]at g;rcases g with rfl|rfl<;>exact⟨_,rfl,by lia,by lia⟩)).mono ?_
    rintro _ s5 ⟨b,H,⟨b0,b1⟩,y,Y,G⟩;rw[a7 H];refine⟨⟨y,by simp[AV.low]⟩,?_⟩;refine(take1 Y).mono ?_;rintro _ s6 ⟨u,rfl,b2,b3,D9,K9⟩;have N:=(G.trans K9).gk.lst (n:=0) (by lia) (by lia) M;simp?[mh N];refine(take1 D9).mono ?_;rintro _ s7 ⟨j4,rfl,b4,b5,T,F⟩;have l7:=F.gk.lst (n:=0) (by lia) (by lia) N;simp?[↓a7 (qG (a:=1+j4) (b:=60) _ (by lia) (by lia) (by lia) (by lia)),↓a7 (append_at l7 (Ŕ (by simp;lia)))];refine⟨us++[(Q+1+u,ĵ (1+j4) 60)],_,_,z+1,by lia,by simp;lia,?_,?_,rfl,?_,(((Z.trans G.gk).trans K9.gk).trans F.gk).set (Í _)⟩
    ·rw[qH l7,ŉ];rfl
    ·intro p hp;rcases ķ.mp hp with hp|hp
     ·exact l2 p hp
     ·simp only[ò]at hp;subst hp;exact⟨1+j4,by lia,by lia,rfl⟩
    ·exact(T.mono (by lia)).set (by lia) (by lia) (by simp[AO.low,nU,zB,Ŀ,AV.low,vU])
def G1 (D:Dr c d n s)(hn:n<=800000000)(M:ù s J=À (l.map AV.str)) (hz:l≠[])(P:J≠c)(Q:J≠d)(hz2:l.length<=99)(k0:0<=k)(k1:k<=8) :
  (cY [.ref d,.ref J,.int k] s).wp λv s'=>∃rs:Á Rw,v=.tup s!"f"/\(∀r∈rs,vm r/\r.nm∈l)/\rs.length<=8/\Dr c d (n+200) s'/\Gk c d s s':=by
 have lc:=D.Cs;have ld:=D.Dl;have hJl:J<s.length:=(Æ.mp (ċ M)).1;have hzl:0<l.length:=HA.mpr hz;unfold cY kB;have eN:ji (.ref J) (.ref (s++[AO.lst []]).length) ((s++[AO.lst []])++[.lst []])=.ok (.bl true) ((s++[AO.lst []])++[.lst []]):=ne_nil (ao (ao M)) (Ę _ _) (yg l) (by simpa using hz);have D0:=D.app (e:=[.lst []]) (D.cl.add (by simp[AO.low,Ŀ]));simp?[↓ra,↓a7 eN,cL,show ∀b,AV.low b (.bl true)=true from λ_=>by simp[AV.low],Hy];refine⟨⟨c5 (n:=7) (nM k0 (by lia)) (by lia),c5 (n:=7) (nM (by lia) (by lia)) (by lia)⟩,⟨by lia,by lia⟩,?_⟩;refine pL (λxs t st=>∃(rs:Á Rw) (a:Int) (x y w:Ë AV) (z:Nat),(xs.length:Int)+z=k/\rs.length<=z/\nL rs<=3/\(∀r∈rs,vm r/\r.nm∈l)/\0<=a/\a<=60/\ù st s.length=À s!"f"/\ù st J=À (l.map AV.str)/\t=[À (AV.ref d),À (.ref J),À (.int k),À (.int a),À s!"h",x,y,w]/\Dr c d (n+22*z) st/\Gk c d s st) ?_ ?_ ?_ _ _ _ ⟨[],60,none,none,none,0,by simp[n7];lia,Í _,by simp[nL],(λ_ h=>nomatch h),by lia,by lia,Ę _ _,ao M,rfl,D0,Gk.app c d s _⟩
 ·rintro _ _ st _ p hp;cases hp
 ·rintro t st ⟨rs,a,x,y,w,z,C,z1,z2,G,z4,z5,T,F,rfl,H,I⟩;have C:((0:Nat):Int)+z=k:=C;simp?[items,T,kM];exact⟨rs,rfl,G,by lia,H.mono (by lia),I⟩
 ·rintro v r t st ⟨rs,a,x,y,w,z,C,z1,z2,G,z4,z5,T,F,rfl,H,I⟩;have C:((r.length+1:Nat):Int)+z=k:=C;simp?[↓a7 (pV F),É];refine(take1 H).mono ?_;rintro _ A ⟨j,rfl,j0,j1,D2,E⟩;obtain⟨v',hv,ev⟩:=tR (E.gk.lst (n:=0) P Q F) j0 (by rw[É];exact j1);obtain⟨nm,O,rfl⟩:=ň.mp hv;simp?[↓a7 ev];refine(Ky D2 (by lia) nm z4 z5).mono ?_;rintro _ B ⟨q,U,rfl,hq,h1,h2,h3,X,L⟩;have zq:∀r∈rs++[q],vm r/\r.nm∈l:=λr hr=>(ķ.mp hr).elim (G r) λz=>by rw[ò.mp z];exact⟨h1.s,by rw[hq];exact O⟩
  have o:=L.lst (n:=0) (by lia) (by lia) (E.gk.lst (n:=0) (by lia) (by lia) T);have Z:=L.lst (n:=0) P Q (E.gk.lst (n:=0) P Q F);have Y:=(I.trans E.gk).trans L;have m:∀g,(∃(x y w:Ë AV),g=[À (AV.ref d),À (.ref J),À (.int k),À (.int (a-U)),À s!"h",x,y,w])->nL (rs++[q])<=3->(Ő s!"h" [rv q] B).wp (λ_ A=>∃(rs:Á Rw) (a:Int) (x y w:Ë AV) (z:Nat),(r.length:Int)+z=k/\rs.length<=z/\nL rs<=3/\(∀r∈rs,vm r/\r.nm∈l)/\0<=a/\a<=60/\ù A s.length=À s!"f"/\ù A J=À (l.map AV.str)/\g=[À (AV.ref d),À (.ref J),À (.int k),À (.int a),À s!"h",x,y,w]/\Dr c d (n+22*z) A/\Gk c d s A):=by
   rintro g ⟨x',y',w2,rfl⟩ N;rw[a7 (append_at o (Ŕ (by simp;lia)))];refine⟨rs++[q],a-U,x',y',w2,z+1,by lia,by simp;lia,N,zq,by lia,by lia,?_,?_,rfl,?_,Y.set (Í _)⟩
   ·rw[qH o,ŉ];rfl
   ·rw[show ù (B.set s.length _) J=ù B J by unfold ù;rw[Û (by lia)]];exact Z
   ·exact(X.mono (by lia)).set (by lia) (by lia) (by simp[AO.low,nU,u0,Ŀ,Dk])
  simp?[↓a7 (PM q _)];cases q with
  |of f u=>
   rw[show E2 (.of f u)=.str "of" from rfl];simp?[SD,mh o];exact m _ ⟨_,_,_,rfl⟩ (by rw[vV];simp[nL];lia)
  |steps f us u=>
   rw[show E2 (.steps f us u)=.str "steps" from rfl];simp?[SD,mh o];exact m _ ⟨_,_,_,rfl⟩ (by rw[vV];simp[nL];lia)
  |len f u=>
   rw[show E2 (.len f u)=.str "length" from rfl];simp?[SD,mh o];exact m _ ⟨_,_,_,rfl⟩ (by rw[vV];simp[nL];lia)
  |left f u=>
   rw[show E2 (.left f u)=.str "left" from rfl];have w3:Ca s!"h" B=_:=(L'.ref o).src;simp?[eq_self,mh o,↓a7 w3,↓MV rs B _ o,MO,↓a7 (F_ _ _),cL,show ∀b i,AV.low b (.int i)=true from λ_ _=>by simp[AV.low]];refine⟨xM (by rw[É];lia),?_⟩;split
   ·rename_i cc;exact m _ ⟨_,_,_,rfl⟩ (by rw[vV];simp[nL];lia)
   ·refine⟨rs,a-U,_,_,_,z+1,by lia,by lia,z2,?_,by lia,by lia,o,Z,rfl,X.mono (by lia),Y⟩;exact G
end Ro
set_option maxHeartbeats 400000
namespace Ro
open PySem L2 Mm
def pn:Ï env s=.ok [] s:=rfl
def pc (b:a env s=.ok v s)(c:r env s=.ok vs s):Â a r env s=.ok (v::vs) s:=by
 unfold Â;rw[b,ï,c];rfl
def ll (h:r env s=.ok vs s)(hl:vs.length<=1000):Ŭ r env s=.ok vs s:=by
 unfold Ŭ;rw[h,ï,Ò (xM hl)]
def di (c:a env s=.ok v s1)(d:b env s1=.ok w e):Ç op a b env s=op v w e:=by
 unfold Ç;rw[c,ï,d];rfl
section
variable {B:Nat}{V V1:Bo}{s:S}
noncomputable abbrev wA (B:Nat)(x:Str)(R:AV)(a b c:Ë AV):En:=[À (.ref B),À (.str x),À R,a,b,c]
noncomputable abbrev rT:Mt:=gT 3 (ß (gN 3) (ß (gN 4) (ß (gN 5) ś)))
abbrev rB:Ms:=a5 (qz (cT (Į 9 "has_name" 1 Ű (mv 0) (Â (mv 4) Ï)))) (Au 3 (Â (jL (bX (mc (.str "no person and no work is called ")) (bX (bg kh (mv 4)) sf))) Ï)) ĉ
def E_ (h:gL B V s){y:Str}{b:Bool}(d:decide (y∈V.ps∨y∈V.ws)=b) (x:Str)(R a c:AV):qz (cT (Į 9 "has_name" 1 Ű (mv 0) (Â (mv 4) Ï))) (wA B x R (À a) (À (.str y)) (À c)) s=.ok (!b) s:=by
 subst d;unfold qz cT;rw[BI (m:="has_name") (v:=.str y) h s!"g" rj rfl,tH h y];rfl
def Oh (h:gL B V s){y:Str}(b:y∈V.ps∨y∈V.ws)(x:Str)(R a c:AV)(l:Á AV)(u v w:Ë AV):forL rT rB [] (.tup [a,.str y,c]::l) (wA B x R u v w) s=forL rT rB [] l (wA B x R (À a) (À (.str y)) (À c)) s:=
 jz (e1:=wA B x R (À a) (À (.str y)) (À c)) (s1:=s) rfl (jK (E_ h (Ă b) x R a c))
def SQ (h:gL B V s){y:Str}(hl:y.length<=1000)(b:¬(y∈V.ps∨y∈V.ws)) (x:Str)(R a c:AV)(l:Á AV)(u v w:Ë AV):forL rT rB [] (.tup [a,.str y,c]::l) (wA B x R u v w) s=.ex ⟨3,[]⟩ s:=
 QC (e1:=wA B x R (À a) (À (.str y)) (À c)) (s1:=s) rfl ((m_ (E_ h (ë b) x R a c)).trans (Kz (Pj s!"g" hl rfl _ _ (join_nil λ_=>rfl))))
def BZ (h:gL B V s)(b:x.length<=1000)(a:x∉V.ws)(R:AV):Ğ [.ref B,.str x,R] s=.ex ⟨3,[]⟩ s:=by
 unfold Ğ bE;exact EI (env:=wA B x R none none none) (DS (Vt h b rj Ct a))
def BY (h:gL B V s)(a:x∈V.ws){l:Á AV}(hl:forL rT rB [] l (wA B x (.tup l) none none none) s=.ex ⟨3,[]⟩ s):Ğ [.ref B,.str x,.tup l] s=.ex ⟨3,[]⟩ s:=by
 unfold Ğ bE;exact EI (env:=wA B x (.tup l) none none none) ((ĕ (vW h rj Ct a)).trans (DS ((l0 rfl).trans hl)))
def KZ {R:AV}(e:bT [R] s=.ok (.bl b) s):cT (å 1 bT (Â (mv 2) Ï)) (wA B x R a d c) s=.ok b s:=by
 unfold cT;rw[nI (v:=R) rfl,e];rfl
def B0 (h:gL B V s)(d:x∈V.ws){l:Á AV}(hl:forL rT rB [] l (wA B x (.tup l) none none none) s=.nx (wA B x (.tup l) a b c) s) (e:bT [.tup l] s=.ok (.bl true) s):Ğ [.ref B,.str x,.tup l] s=.ex ⟨4,[]⟩ s:=by
 unfold Ğ bE;exact EI (env:=wA B x (.tup l) none none none) ((ĕ (vW h rj Ct d)).trans ((ĕ ((l0 rfl).trans hl)).trans (DS ((m_ (KZ e)).trans (Kz (by walk_at"w"))))))
def zU (h:gL B V s)(d:x∈V.ws)(hw:V.ws.length<64){l:Á AV}(hl:forL rT rB [] l (wA B x (.tup l) none none none) s=.nx (wA B x (.tup l) a b c) s) (f:bT [.tup l] s=.ok (.bl false) s):Ğ [.ref B,.str x,.tup l] s=.ok .Ĕ (s.set (B+2) (.dK (kT id (λy=>if y=x then .tup l else (V.rf y).v) V.ws))):=by
 have e:=qB (env:=wA B x (.tup l) a b c) (v:=mv 2) (w:=.tup l) (y:=mv 1) (x:=x) (lX h) (by rw[vP];exact hw) rfl (m9 h (lZ B V.h)) rfl;rw[wh d]at e;unfold Ğ bE;exact vE (env:=wA B x (.tup l) none none none) ((ĕ (vW h rj Ct d)).trans ((ĕ ((l0 rfl).trans hl)).trans ((ĕ (jK (KZ f))).trans e)))
end
def V3 (r:Rw):∃k v,rv r=.tup [k,.str r.nm,v]:=by cases r<;>exact⟨_,_,rfl⟩
section
variable {B:Nat}{V:Bo}{s:S}
theorem yC (h:gL B V s)(x:Str)(R:AV):∀(rs:Á Rw) (u v w:Ë AV),(∀r∈rs,r.nm.length<=1000)->((∀r∈rs,r.nm∈V.ps∨r.nm∈V.ws)/\∃a b c,forL rT rB [] s!"f" (wA B x R u v w) s=.nx (wA B x R a b c) s)∨((¬∀r∈rs,r.nm∈V.ps∨r.nm∈V.ws)/\forL rT rB [] s!"f" (wA B x R u v w) s=.ex ⟨3,[]⟩ s)
 |[],u,v,w,_=>.inl ⟨s!"p",u,v,w,uW⟩
 |r::rs,u,v,w,hl=>by
  obtain⟨k,i,e⟩:=V3 r;by_cases hr:r.nm∈V.ps∨r.nm∈V.ws
  ·rw[Î,e,Oh h hr];rcases yC h x R rs (À k) (À (.str r.nm)) (À i) (λq d=>hl q (.tail _ d))with⟨f,g⟩|⟨f,g⟩
   ·exact .inl ⟨λq d=>(Þ.mp d).elim (λz=>z▸hr) (f q),g⟩
   ·exact .inr ⟨λz=>f λq d=>z q (.tail _ d),g⟩
  ·rw[Î,e,SQ h (hl r (.head _)) hr];exact .inr ⟨λz=>hr (z r (.head _)),rfl⟩
def rM (ps ws:Á Str)(rs:Á Rw):Prop:=∀r∈rs,r.nm∈ps∨r.nm∈ws
def wj (h:gL B V s)(l:x.length<=1000)(hw:V.ws.length<64){rs:Á Rw}(k:∀r∈rs,vm r)(hl:rs.length<=20)(j:∀r∈rs,r.nm.length<=1000) :
  (¬(x∈V.ws/\rM V.ps V.ws rs)/\Ğ [.ref B,.str x,.tup s!"f"] s=.ex ⟨3,[]⟩ s)∨
  ((x∈V.ws/\rM V.ps V.ws rs)/\uG rs=true/\Ğ [.ref B,.str x,.tup s!"f"] s=.ex ⟨4,[]⟩ s)∨
  ((x∈V.ws/\rM V.ps V.ws rs)/\uG rs=false/\Ğ [.ref B,.str x,.tup s!"f"] s=.ok .Ĕ (s.set (B+2) (.dK (kT id (λy=>if y=x then .tup s!"f"else (V.rf y).v) V.ws)))):=by
 by_cases d:x∈V.ws
 ·rcases yC h x (.tup s!"f") rs none none none j with⟨f,a,b,c,e⟩|⟨f,e⟩
  ·have g:=Tf (s:=s) k hl;cases i:uG rs with
   |true=>rw[i]at g;exact .inr (.inl ⟨⟨d,f⟩,rfl,B0 h d e g⟩)
   |false=>rw[i]at g;exact .inr (.inr ⟨⟨d,f⟩,rfl,zU h d hw e g⟩)
  ·exact .inl ⟨λz=>f z.2,BY h d e⟩
 ·exact .inl ⟨λz=>d z.1,BZ h l d _⟩
end
structure Wl where
 ps:Á Str
 ws:Á Str
 rf:Str->Pv
noncomputable def PY (B:Nat):Á (Key×AV):=[(.inr "people",.ref (B+8)),(.inr "works",.ref (B+9)),(.inr "hands",.ref (B+10)),(.inr "known",.ref (B+11)),(.inr "rates",.ref (B+12)),(.inr "keeps",.ref (B+13)),(.inr "half",.int 182),(.inr "money",.ref (B+15)),(.inr "debts",.ref (B+16))]
def bo (V:Wl):Bo:=⟨V.ps,λ_=>pF 0 1,V.ws,V.rf,[],[],λ_=>pN,[],182,[],[]⟩
def wm (B:Nat)(W:Wl):Á AO:=[.lst (W.ps.map .str),.dK (kT id (λw=>(W.rf w).v) W.ws),.lst [],.dK [],.lst [],.dK [],.dK (PY B),.lst [],.lst []]
structure Ws (B:Nat)(V W:Wl)(s:S):Prop where
 b:gL B (bo V) s
 w:At (B+8) (wm B W) s
structure tj (B:Nat)(s s':S):Prop where
 len:s.length<=s'.length
 get:∀i,i<s.length->i<B∨B+17<=i->s'[i]?=s[i]?
def tj.app (h:tj B s s')(e:S):tj B s (s'++e):=⟨by have:=h.len;simp;lia,λi a k=>by rw[é (by have:=h.len;lia)];exact h.get i a k⟩
def tj.refl (B:Nat)(s:S):tj B s s:=⟨Í _,λ_ _ _=>rfl⟩
theorem tj.trans (h:tj B s s')(k:tj B s' a):tj B s a:=⟨ĺ h.len k.len,λi b q=>(k.get i (ð b h.len) q).trans (h.get i b q)⟩
section
variable {B:Nat}{V W W1 V1:Wl}{s:S}
theorem Ws.len (h:Ws B V W s):B+17<=s.length:=by have:=h.w.len (by show 0<9;lia);exact this
theorem Ws.app (h:Ws B V W s)(c:Cl (s++e)):Ws B V W (s++e):=⟨h.b.app c,h.w.app e⟩
def Ws.Sw (h:Ws B V W s){i:Nat}{o:AO}(a:i<8)(lo:o.low s.length=true)(d:(mid B (bo V)).set i o=mid B (bo V1)):Ws B V1 W (s.set (B+i) o)/\tj B s (s.set (B+i) o):=by
 have k:=(h.b.put a lo d)
 refine⟨⟨k.1,h.w.keep λj c _=>Û (by lia)⟩,by rw[ŵ];exact Í _,λj c e=>?_⟩;rw[Û (by lia)]
def Ws.Sx (h:Ws B V W s){i:Nat}{o:AO}(e:i<9)(lo:o.low s.length=true)(d:(wm B W).set i o=wm B W1):Ws B V W1 (s.set (B+8+i) o)/\tj B s (s.set (B+8+i) o):=by
 have a:=h.b.b0;refine⟨⟨⟨h.b.at_.keep λj _ c=>Û (by have:(mid B (bo V)).length=8:=rfl;lia),h.b.cl.set lo,by rw[Û (by lia)];exact h.b.t0,a⟩,by rw[<-d];exact h.w.set i o⟩,by rw[ŵ];exact Í _,λj c f=>?_⟩;rw[Û (by lia)]
def ow (h:Ws B V W s):ù s (B+8)=À (W.ps.map .str):=dY (h.w.at (i:=0) rfl)
def jx (h:Ws B V W s):kH s (B+9)=À (kT id (λw=>(W.rf w).v) W.ws):=kI (h.w.at (i:=1) rfl)
def Ut (h:Ws B V W s):kH s (B+14)=À (PY B):=kI (h.w.at (i:=6) rfl)
def qd (h:Ws B V W s)(e:a6 (PY B) (.inr x)=À v) (em:m env s=.ok (.ref (B+14)) s):Ç ô m (mc (.str x)) env s=.ok v s:=(di em rfl).trans (Bb (Ut h) e)
def sW (B:Nat):a6 (PY B) (.inr "people")=À (.ref (B+8)):=by rfl
def jN (B:Nat):a6 (PY B) (.inr "works")=À (.ref (B+9)):=by rfl
end
section
variable {s:S}
theorem zt (x:Str):∀l:Á Str,W_ (.str x) (l.map AV.str)=decide (x∈l)
 |[]=>rfl
 |y::r=>by
  have a:=zt x r;unfold W_ Xa at a⊢;rw[Î,Î,Ų,a];show(gA (V.str y) (V.str x)||decide (x∈r))=_;have:gA (V.str y) (V.str x)=decide (x=y):=by
   unfold gA;by_cases h:x=y
   ·subst h;simp
   ·have:¬y=x:=λe=>h e.symm;simp[h,this]
  rw[this];by_cases h:x=y<;>by_cases b:x∈r<;>simp[h,b]
theorem IM:∀l:Á Str,(l.map AV.str).all gB=true
 |[]=>rfl
 |i::r=>by rw[Î,Ķ,IM r];rfl
def UX {i:Nat}{l:Á Str}{x:Str}(h:ù s i=À (l.map AV.str)):mq (.str x) (.ref i) s=.ok (.bl (decide (x∈l))) s:=by
 unfold mq;show need (ù s i) _=_;rw[h,ø,Ò ⟨rfl,IM l⟩,zt]
def RP {i:Nat}{l:Á Str}{x:Str}(h:ù s i=À (l.map AV.str)):h8 (.str x) (.ref i) s=.ok (.bl (!decide (x∈l))) s:=by
 unfold h8;show need (ù s i) _=_;rw[h,ø,Ò ⟨rfl,IM l⟩,zt]
end
section
variable {B:Nat}{V W:Wl}{s:S}
theorem zH (h:Ws B V W s)(b:r3 i s):∀(rs:Á Rw) (a:Ë AV) (c:Á AV),az (gN 0) (qy (cB (Ç h8 (Ç ì (mv 0) s!"d") (Ç ô (mv 1) (mc (.str "people"))))) (cB (Ç eG (Ç ì (mv 0) s!"d") (Ç ô (mv 1) s!"m")))) (mv 0) i s!"f" [a,À (.ref (B+14))] s c=.ok (c++(rs.filter λr=>!decide (r.nm∈W.ps∨r.nm∈W.ws)).map rv) s
 |[],a,c=>by rw[aj,az,Ò b];simp
 |r::rs,a,c=>by
  obtain⟨k,j,e⟩:=V3 r;have e1:Ç ì (mv 0) s!"d" [À (rv r),À (.ref (B+14))] s=.ok (.str r.nm) s:=by rw[e];rfl
  have d:qy (cB (Ç h8 (Ç ì (mv 0) s!"d") (Ç ô (mv 1) (mc (.str "people"))))) (cB (Ç eG (Ç ì (mv 0) s!"d") (Ç ô (mv 1) s!"m"))) [À (rv r),À (.ref (B+14))] s=.ok (!decide (r.nm∈W.ps∨r.nm∈W.ws)) s:=by
   have t1:cB (Ç h8 (Ç ì (mv 0) s!"d") (Ç ô (mv 1) (mc (.str "people")))) [À (rv r),À (.ref (B+14))] s=.ok (!decide (r.nm∈W.ps)) s:=by
    unfold cB;rw[(di e1 (qd (m:=mv 1) h (sW B) rfl)).trans (RP (ow h))];rfl
   have t2:cB (Ç eG (Ç ì (mv 0) s!"d") (Ç ô (mv 1) s!"m")) [À (rv r),À (.ref (B+14))] s=.ok (!decide (r.nm∈W.ws)) s:=by
    unfold cB;rw[(di e1 (qd (m:=mv 1) h (jN B) rfl)).trans (qA (jx h)),kd];rfl
   unfold qy;rw[t1,ï];by_cases g:r.nm∈W.ps
   ·simp[g]
   ·rw[ë g,Ò (show(!false)=true from rfl),t2];simp[g]
  cases f:(!decide (r.nm∈W.ps∨r.nm∈W.ws))with
  |true=>
   rw[f]at d;rw[Î,kG (e1:=[À (rv r),À (.ref (B+14))]) (x:=rv r) rfl d rfl b,zH h b rs,nh,f];simp
  |false=>
   rw[f]at d;rw[Î,bh (e1:=[À (rv r),À (.ref (B+14))]) rfl d b,zH h b rs,nh,f];rfl
end
end Ro
set_option maxHeartbeats 400000
namespace Ro
open PySem L2 Mm
def Pl (p:AV):Prop:=(∃d,(∀s,toD 19 s p=À d)/\d.dep<=10)/\∀b,p.low b=true
theorem Fm {s:S}:∀{l:Á AV},(∀p∈l,Pl p)->∃ds,l.mapM (toD 19 s)=À ds/\ds.length=l.length/\aH ds<=10
 |[],_=>⟨[],rfl,rfl,by simp[aH]⟩
 |v::r,h=>by
  obtain⟨⟨d,a,b⟩,_⟩:=h v (.head _);obtain⟨ds,c,e,f⟩:=Fm (s:=s) λp g=>h p (.tail _ g);exact⟨d::ds,by rw[eM,a s,c];rfl,by simp[e],by simp only[aH];exact LV.mpr ⟨b,f⟩⟩
def MB (d:ù s i=À xs)(e:ù s j=À [])(f:∀p∈xs,Pl p):C1 s (.ref i) (.ref j)=À xs.isEmpty:=by
 obtain⟨a,c,b,g⟩:=Fm (s:=s) f;have t1:toD 20 s (.ref i)=À (.lst a):=by
  simp only[toD,d,aD,c,bQ]
 have t2:toD 20 s (.ref j)=À (.lst []):=by
  simp only[toD,e,aD,rx];rfl
 unfold C1;simp only;rw[t1,t2];dsimp only;rw[Ò (by lia)];congr 1;cases xs with
 |nil=>cases a with
  |nil=>simp[iA]
  |cons=>cases b
 |cons=>cases a with
  |nil=>cases b
  |cons=>simp[iA]
theorem nV (h:∀x,(g x).low b=true):∀l:Á Str,Ŀ b ((kT id g l).map (·.2))=true
 |[]=>by simp[kT,Ŀ]
 |x::r=>by
  show Ŀ b (g x::(kT id g r).map (·.2))=true;simp only[Ŀ,h x,nV h r];rfl
def Je (p:Pv)(f:Str->Pv)(x:Str)(l:Á Str):kT id (λy=>if y=x then p.v else (f y).v) l=kT id (λy=>((if y=x then p else f y:Pv)).v) l:=by
 congr;funext y;split<;>rfl
def E6 (p:Pv)(f:Str->Pv)(x:Str)(l:Á Str)(b:Nat):(AO.dK (kT id (λy=>if y=x then p.v else (f y).v) l)).low b=true:=by
 rw[Je];exact nV (λ_=>Pv.low _ _) _
def EY (h:ù s j=À (a::l)):ì (.ref j) (.int 0) s=.ok a s:=by
 show(need (ù s j) λxs=>need (mG xs 0) λv=>R.ok v s)=_;rw[h,ø,show mG (a::l) 0=À a from jd (j:=0) rfl];rfl
def UY (h:ù s j=À (a::b::l)):ì (.ref j) (.int 1) s=.ok b s:=by
 show(need (ù s j) λxs=>need (mG xs 1) λv=>R.ok v s)=_;rw[h,ø,show mG (a::b::l) 1=À b from jd (j:=1) rfl];rfl
def H0 (h:m env s=.ok (.bl b) s1):cB m env s=.ok b s1:=by unfold cB;rw[h];rfl
def Xg (p:Int×Rat):Dt:=.tup [.int p.1,.tup [.int p.2.num,.int p.2.den]]
theorem KO (s:S)(z:Rat):∀us:Á (Int×Rat),(us.map G'++[AV.tup [.Ĕ,fq z]]).mapM (toD 17 s)=À (us.map Xg++[.tup [.Ĕ,.tup [.int z.num,.int z.den]]])
 |[]=>rfl
 |u::us=>by
  rw[Î,bw,eM,KO s z us];rfl
theorem DZ (z:Rat):∀us:Á (Int×Rat),aH (us.map Xg++[.tup [.Ĕ,.tup [.int z.num,.int z.den]]])<=2
 |[]=>dA rfl
 |u::us=>by
  show max _ _<=2;exact LV.mpr ⟨dA rfl,DZ z us⟩
def VM (r:Rw):Pl (rv r):=by
 refine⟨?_,λb=>Dk b r⟩;cases r with
 |of n q=>exact⟨_,λ_=>rfl,dA rfl⟩
 |left n q=>exact⟨_,λ_=>rfl,dA rfl⟩
 |len n q=>exact⟨_,λ_=>rfl,dA rfl⟩
 |steps n us z=>
  refine⟨.tup [.str "steps",.str n,.tup (us.map Xg++[.tup [.Ĕ,.tup [.int z.num,.int z.den]]])],λs=>?_,?_⟩
  ·have:=KO s z us;show([AV.str "steps",.str n,.tup (us.map G'++[.tup [.Ĕ,fq z]])].mapM (toD 18 s)).map Dt.tup=_;rw[eM,eM,eM,rx];show((do let a <-À (Dt.str "steps");let b <-(do let a <-À (Dt.str n);let b <-(do let a <-((us.map G'++[AV.tup [.Ĕ,fq z]]).mapM (toD 17 s)).map Dt.tup;let b <-À [];pure (a::b));pure (a::b));pure (a::b)):Ë (Á Dt)).map Dt.tup=_;rw[this];rfl
  ·have:=DZ z us;simp only[Dt.dep,aH];lia
section
variable {B:Nat}{V W:Wl}{s:S}
abbrev eW (B:Nat)(x:Str)(R:AV):En:=[À (.ref (B+14)),À (.str x),À R]
def ED (h:kH s i=À (kT id g l)) (e1:a env s=.ok (.str x) s) (b:d env s=.ok (.ref i) s) (c:decide (x∈l)=t):cB (Ç eG a d) env s=.ok (!t) s:=by
 subst c;unfold cB;rw[(di e1 b).trans (qA h),kd];rfl
def Bm {ps ws:Á Str}(rs:Á Rw):(rs.filter λr=>!decide (r.nm∈ps∨r.nm∈ws)).isEmpty=true ↔ rM ps ws rs:=by
 rw[List.isEmpty_iff,List.filter_eq_nil_iff];refine forall_congr' λr=>forall_congr' λ_=>?_;by_cases a:r.nm∈ps<;>simp[a]
def Qw (h:Ws B V W s)(x:Str){rs:Á Rw}(hl:rs.length<=20):MJ (cB (Ç ji (Ď (ł [("_law_row_here",none),("_law_world_here",À 0)] (Ŧ (mv 2)) (gN 0) (qy (cB (Ç h8 (Ç ì (mv 0) s!"d") (Ç ô (mv 1) (mc (.str "people"))))) (cB (Ç eG (Ç ì (mv 0) s!"d") (Ç ô (mv 1) s!"m")))) (mv 0))) (Ď (Ŭ Ï)))) (eW B x (.tup s!"f")) s=.ok (!(rs.filter λr=>!decide (r.nm∈W.ps∨r.nm∈W.ws)).isEmpty) s:=by
 have b:ł [("_law_row_here",none),("_law_world_here",À 0)] (Ŧ (mv 2)) (gN 0) (qy (cB (Ç h8 (Ç ì (mv 0) s!"d") (Ç ô (mv 1) (mc (.str "people"))))) (cB (Ç eG (Ç ì (mv 0) s!"d") (Ç ô (mv 1) s!"m")))) (mv 0) (eW B x (.tup s!"f")) s=.ok ((rs.filter λr=>!decide (r.nm∈W.ps∨r.nm∈W.ws)).map rv) s:=by
  unfold ł Ŧ;rw[show mv 2 (eW B x (.tup s!"f")) s=.ok (.tup s!"f") s from rfl,ï];dsimp only;rw[ï];dsimp only;rw[Ò (xM (by rw[É];lia))];exact(zH h (show r3 [] s from λp a=>nomatch a) rs none []).trans (by rw[bb])
 have c:=eF b;have d:cB (Ç ji (Ď (ł [("_law_row_here",none),("_law_world_here",À 0)] (Ŧ (mv 2)) (gN 0) (qy (cB (Ç h8 (Ç ì (mv 0) s!"d") (Ç ô (mv 1) (mc (.str "people"))))) (cB (Ç eG (Ç ì (mv 0) s!"d") (Ç ô (mv 1) s!"m")))) (mv 0))) (Ď (Ŭ Ï))) (eW B x (.tup s!"f")) s=.ok (!(rs.filter λr=>!decide (r.nm∈W.ps∨r.nm∈W.ws)).isEmpty) (s++[.lst ((rs.filter λr=>!decide (r.nm∈W.ps∨r.nm∈W.ws)).map rv)]++[.lst []]):=by
  refine H0 ((di c (eF (ll pn (by simp)))).trans ?_);unfold ji;rw[MB (ao (Ę _ _)) (Ę _ _) (λp a=>by obtain⟨r,_,rfl⟩:=ň.mp a;exact VM r),List.isEmpty_map];rfl
 unfold MJ;rw[d,ï];exact Ò (by rw[Õ];exact cL)
def NC (rs:Á Rw):AO:=.lst ((v7 rs++yj rs).map fq)
def vv (h:Ws B V W s)(x:Str)(hw:W.ws.length<64){rs:Á Rw}(q:∀r∈rs,vm r)(hl:rs.length<=20) :
  (¬(x∈W.ws/\rM W.ps W.ws rs)/\ĳ [.ref (B+14),.str x,.tup s!"f"] s=.ok (.str "name") s)∨
  ((x∈W.ws/\rM W.ps W.ws rs)/\uG rs=true/\ĳ [.ref (B+14),.str x,.tup s!"f"] s=.ok (.str "much") (s++[NC rs]))∨
  ((x∈W.ws/\rM W.ps W.ws rs)/\uG rs=false/\ĳ [.ref (B+14),.str x,.tup s!"f"] s=.ok (.str "") ((s++[NC rs]).set (B+9) (.dK (kT id (λy=>if y=x then .tup s!"f"else (W.rf y).v) W.ws)))):=by
 unfold ĳ iu;by_cases c:x∈W.ws
 ·have g:=jK (a:=Č (mc (.str "name"))) (ED (env:=eW B x (.tup s!"f")) (a:=mv 1) (d:=Ç ô (mv 0) s!"m") (jx h) rfl (qd (m:=mv 0) h (jN B) rfl) (Ă c));have e:=Qw h x (rs:=rs) hl;by_cases f:rM W.ps W.ws rs
  ·rw[(Bm rs).mpr f]at e;have n:=(nI (F:=Ś) (a:=mv 2) (env:=eW B x (.tup s!"f")) (v:=.tup s!"f") rfl).trans (Dj (s:=s) q hl);have b:cT (å 1 Ś (Â (mv 2) Ï)) (eW B x (.tup s!"f")) s=.ok (uG rs) (s++[NC rs]):=by
    unfold cT;rw[n];rfl
   cases l:uG rs with
   |true=>
    rw[l]at b;exact .inr (.inl ⟨⟨c,f⟩,rfl,da (env:=eW B x (.tup s!"f")) ((ĕ g).trans ((ĕ (jK e)).trans (sQ ((m_ b).trans rfl))))⟩)
   |false=>
    rw[l]at b;have j:At (B+8) (wm B W) (s++[NC rs]):=h.w.app _;have o:Ç ô (mv 0) s!"m" (eW B x (.tup s!"f")) (s++[NC rs])=.ok (.ref (B+9)) (s++[NC rs]):=(di (v:=.ref (B+14)) (w:=.str "works") rfl rfl).trans (Bb (kI (j.at (i:=6) rfl)) (jN B));have k:=qB (env:=eW B x (.tup s!"f")) (v:=mv 2) (w:=.tup s!"f") (y:=mv 1) (x:=x) (kI (j.at (i:=1) rfl)) (by rw[vP];exact hw) rfl o rfl;rw[wh c]at k;exact .inr (.inr ⟨⟨c,f⟩,rfl,da (env:=eW B x (.tup s!"f")) ((ĕ g).trans ((ĕ (jK e)).trans ((ĕ (jK b)).trans ((ĕ k).trans rfl))))⟩)
  ·have p:(rs.filter λr=>!decide (r.nm∈W.ps∨r.nm∈W.ws)).isEmpty=false:=uI.mpr λz=>f ((Bm rs).mp z);rw[p]at e;exact .inl ⟨λz=>f z.2,da (env:=eW B x (.tup s!"f")) ((ĕ g).trans (sQ ((m_ e).trans rfl)))⟩
 ·exact .inl ⟨λz=>c z.1,da (env:=eW B x (.tup s!"f")) (sQ ((m_ (ED (a:=mv 1) (d:=Ç ô (mv 0) s!"m") (jx h) rfl (qd (m:=mv 0) h (jN B) rfl) (ë c))).trans rfl))⟩
end
def zx (h:s[i]?=À (.exc c)) (e:a c=À b):bA a (.ref i) s=.ok (.bl b) s:=by
 unfold bA;simp only[h,e,ø]
def QB (h:(b (À v::À w::â (n-2) none) s).wp (λ_ s1=>Q .Ĕ s1) Q):(bH n b [v,w] s).wp Q:=by rw[WS.2.2.2.2.2.2.2.2.2.2.2.2.2.2.2.2.1];exact h
def B5 (e:m env s=.ok v s)(h:(b (env.set i (À v)) s).wp N T):(ã (ņ i m) b env s).wp N T:=by
 rw[WS.1,WS.2.1,a7 e];exact h
def Ti (c:b env s=.nx a s1)(hr:(r a s1).wp N T):(ã (wu n i sub b h) r env s).wp N T:=by
 rw[WS.1,Hh c];exact hr
def Th (e:b env s=.ex c s1)(f:sub c.cls=true)(d:h ((â n none).set i (À (.ref s1.length))) (s1++[.exc c.cls])=.nx a g) (hr:(r (a.set i none) g).wp N T):(ã (wu n i sub b h) r env s).wp N T:=by
 rw[WS.1,Hg e f,d];exact hr
def Js (c:a env s=.ok v s)(d:b env s=.ok w s):å 2 F (Â a (Â b Ï)) env s=F [v,w] s:=CO c d
def Rc (c:Nat)(x:Str):Prop:=c=2/\x="taken"∨c=3/\x="name"∨c=4/\x="much"∨c=5/\x="rate"
noncomputable def Xk:Á AV:=[.str "taken",.str "name",.str "much",.str "rate",.str "left"]
abbrev Zp:Ev:=C4 (Ç ì (Ď (Ŭ (Â (mc (.str "taken")) (Â (mc (.str "name")) (Â (mc (.str "much")) (Â (mc (.str "rate")) (Â (mc (.str "left")) Ï))))))) (mv 0))
def sz5:([a,b,c,d,e].length<=sizeLine)=True:=eq_true (xM (by show 5<=1000;lia))
section
variable {s:S}
def FD {k:Nat}{x:Str}{env:En}(e:Xk[k]?=À (.str x)):Zp (À (.int k)::env) s=.ok (.str x) s:=by
 apply R.wp.eq;have b:k<5:=(Æ.mp e).1;have a:mG Xk (k:Int)=À (.str x):=jd e;simp?[sz5];show(need (ù (s++[.lst Xk]) s.length) λxs=>need (mG xs k) λv=>R.ok v (s++[.lst Xk])).wp _;rw[Ę,ø,a,ø,wR];exact⟨⟨cL,by simp[AV.low]⟩,rfl⟩
def aT {j k:Nat}{b:Bool}{xs:Á AV}{env:En}(h:ù s j=À xs)(e:xs[k]?=À (.bl b)):cT (Ç ì (mv 1) (mv 0)) (À (.int k)::À (.ref j)::env) s=.ok b s:=by
 apply R.wp.eq;have a:mG xs (k:Int)=À (.bl b):=jd e;walk_at"w";rw[h,ø,a,ø,wR];exact⟨rfl,rfl⟩
def K' {j:Nat}{c:Nat}{x:Str}(a:Rc c x)(h:ù s j=À [.bl (õ 2 c),.bl (õ 3 c),.bl (õ 4 c),.bl (õ 5 c),.bl (õ 6 c)]) :
  az (gN 0) (cT (Ç ì (mv 1) (mv 0))) Zp [] (n7 0 5) [none,À (.ref j)] s []=.ok [.str x] s:=by
 have b:n7 0 5=[.int (0:Nat),.int (1:Nat),.int (2:Nat),.int (3:Nat),.int (4:Nat)]:=rfl;rw[b];rcases a with⟨rfl,rfl⟩|⟨rfl,rfl⟩|⟨rfl,rfl⟩|⟨rfl,rfl⟩
 ·rw[kG rfl (aT (k:=0) h rfl) (FD (k:=0) rfl),bh rfl (aT (k:=1) h rfl),bh rfl (aT (k:=2) h rfl),bh rfl (aT (k:=3) h rfl),bh rfl (aT (k:=4) h rfl),fW];rfl
 ·rw[bh rfl (aT (k:=0) h rfl),kG rfl (aT (k:=1) h rfl) (FD (k:=1) rfl),bh rfl (aT (k:=2) h rfl),bh rfl (aT (k:=3) h rfl),bh rfl (aT (k:=4) h rfl),fW];rfl
 ·rw[bh rfl (aT (k:=0) h rfl),bh rfl (aT (k:=1) h rfl),kG rfl (aT (k:=2) h rfl) (FD (k:=2) rfl),bh rfl (aT (k:=3) h rfl),bh rfl (aT (k:=4) h rfl),fW];rfl
 ·rw[bh rfl (aT (k:=0) h rfl),bh rfl (aT (k:=1) h rfl),bh rfl (aT (k:=2) h rfl),kG rfl (aT (k:=3) h rfl) (FD (k:=3) rfl),bh rfl (aT (k:=4) h rfl),fW];rfl
def HZ (c:Cl s){bs:Á Bool}:Cl (s++[.lst (bs.map AV.bl)]):=c.add (by
 simp only[Ķ,c6,AO.low,br];exact lB λv a=>by obtain⟨b,_,rfl⟩:=ň.mp a;simp[AV.low])
def OI {c:Nat}{x:Str}(f:Rc c x){i:Nat}(h:s[i]?=À (.exc c)) (cl:Cl s) :
    ((ã (a5 (cB (Ç qR (mv 2) (mc .Ĕ))) (Č (mc (.str ""))) ĉ)
 (ã (ņ 3 (Ď (Ŭ (Â (bg (bA (pD 2)) (mv 2)) (Â (bg (bA (pD 3)) (mv 2)) (Â (bg (bA (pD 4)) (mv 2)) Ï))))))
 (ã (ņ 3 (Ç ť (mv 3) (Ď (Ŭ (Â (bg (bA (pD 5)) (mv 2)) (Â (bg (bA (pD 6)) (mv 2)) Ï))))))
 (ã (ņ 4 (Ď (ł [("_law_k",none),("_law_told",À 3)] (xK (Â (mc (.int 5)) Ï)) (gN 0) (cT (Ç ì (mv 1) (mv 0))) Zp)))
 (ã (a5 (Aq (cB (Ç ji (sh i3 (Â (mv 4) Ï)) s!"d")) (Aq (cT (bg (bA (F1 [1,8,7])) (mv 2))) (qz (cT (bg (bA F2) (mv 2)))))) (Č (mc (.str "many"))) ĉ)
 (Č (Ç ì (mv 4) s!"c"))))))) [none,none,À (.ref i),none,none,none] s).wp (λ_ _=>False) λv s'=>v=.str x/\∃e,s'=s++e/\Cl s':=by
  have g:i<s.length:=(Æ.mp h).1;have a:c<9:=by rcases f with⟨rfl,_⟩|⟨rfl,_⟩|⟨rfl,_⟩|⟨rfl,_⟩<;>lia
  have q:∀j e,bA (pD j) (.ref i) (s++e)=.ok (.bl (õ j c)) (s++e):=λj e=>zx (by rw[é g];exact h) (Ò a);have r:∀j,bA (pD j) (.ref i) s=.ok (.bl (õ j c)) s:=λj=>zx h (Ò a);have t:∀e,bA (F1 [1,8,7]) (.ref i) (s++e)=.ok (.bl false) (s++e):=λe=>zx (by rw[é g];exact h) (by rcases f with⟨rfl,_⟩|⟨rfl,_⟩|⟨rfl,_⟩|⟨rfl,_⟩<;>rfl);have u:∀e,bA F2 (.ref i) (s++e)=.ok (.bl true) (s++e):=λe=>zx (by rw[é g];exact h) (Ò a);simp?[mQ,↓a7 (r _),↓a7 (q _ _),↓ra];have m:Cl (s++[.lst [.bl (õ 2 c),.bl (õ 3 c),.bl (õ 4 c)]]):=HZ (bs:=[õ 2 c,õ 3 c,õ 4 c]) cl;have n:Cl (s++[.lst [.bl (õ 2 c),.bl (õ 3 c),.bl (õ 4 c)]]++[.lst [.bl (õ 5 c),.bl (õ 6 c)]]):=HZ (bs:=[õ 5 c,õ 6 c]) m;have o:=Ie (st:=s++[.lst [.bl (õ 2 c),.bl (õ 3 c),.bl (õ 4 c)]]++[.lst [.bl (õ 5 c),.bl (õ 6 c)]]) (ao (Ę s [.bl (õ 2 c),.bl (õ 3 c),.bl (õ 4 c)])) (Ę _ [.bl (õ 5 c),.bl (õ 6 c)]) (xM (by show 3+2<=1000;lia));rw[a7 o];have k:Cl (s++[.lst [.bl (õ 2 c),.bl (õ 3 c),.bl (õ 4 c)]]++[.lst [.bl (õ 5 c),.bl (õ 6 c)]]++[.lst ([.bl (õ 2 c),.bl (õ 3 c),.bl (õ 4 c)]++[.bl (õ 5 c),.bl (õ 6 c)])]):=HZ (bs:=[õ 2 c,õ 3 c,õ 4 c,õ 5 c,õ 6 c]) n;have hl:=Ę (s++[.lst [.bl (õ 2 c),.bl (õ 3 c),.bl (õ 4 c)]]++[.lst [.bl (õ 5 c),.bl (õ 6 c)]]) ([.bl (õ 2 c),.bl (õ 3 c),.bl (õ 4 c)]++[.bl (õ 5 c),.bl (õ 6 c)]);simp only[Õ]at k hl⊢;generalize ([AO.lst [.bl (õ 2 c),.bl (õ 3 c),.bl (õ 4 c)]]++([AO.lst [.bl (õ 5 c),.bl (õ 6 c)]]++[AO.lst ([.bl (õ 2 c),.bl (õ 3 c),.bl (õ 4 c)]++[.bl (õ 5 c),.bl (õ 6 c)])]))=d at *
  generalize (s++([AO.lst [.bl (õ 2 c),.bl (õ 3 c),.bl (õ 4 c)]]++[AO.lst [.bl (õ 5 c),.bl (õ 6 c)]])).length=w at *
  refine⟨⟨by decide,by decide⟩,xM (by simp[n7]),?_⟩;rw[show(5:Int).toNat=5 from rfl,a7 (K' f hl)];have l:=Ę (s++d) [.str x];simp?[↓a7 (pV l),Õ,↓a7 (t _),↓a7 (u _),qZ,i4];have p:ù (s++(d++[.lst [.str x]])) (s++d).length=À [.str x]:=by rw[<-Õ];exact l
  simp only[ć,df,FK,Int.natCast_one];rw[Ø (by simp),Ø s!"i",p,ø,show mG [AV.str x] 0=À (.str x)from Lq.2.2.2.2.1 _ _,ø,wR];refine⟨rfl,_,rfl,?_⟩;rw[<-Õ];exact jj (b:=0) k (.one (eK _ _))
end
section
variable {B:Nat}{V W:Wl}{s:S}
def DJ (h:r env s=.ok [v,w] s1):jV i j r env s=.nx ((env.set i (À v)).set j (À w)) s1:=by
 unfold jV;rw[h];rfl
noncomputable abbrev eD (B:Nat)(d:AV)(w:Str)(n:Nat):En:=[À (.ref (B+14)),À d,À (.str w),À (.ref n),À (.ref (B+8)),À (.ref (B+9))]
def CZ (h:Ws B V W s):jV 4 5 (Â (Ç ô (mv 0) (mc (.str "people"))) (Â (Ç ô (mv 0) s!"m") Ï)) [À (.ref (B+14)),À d,À (.str w),À (.ref n),none,none] s=.nx (eD B d w n) s:=DJ (pc (qd (m:=mv 0) h (sW B) rfl) (pc (qd (m:=mv 0) h (jN B) rfl) pn))
def CY (w:Str)(l:Á AV)(hl:l.length<=10)(b:zN (.tup (.str w::l)) (À 1) none s=.ok (.tup l) s):jV 2 3 (Â (Ç ì (mv 1) s!"c") (Â (Ď (tF wo (uv (E7 (mv 1) (oS s!"d") oN)))) Ï)) [À x,À (.tup (.str w::l)),none,none,none,none] s=.nx [À x,À (.tup (.str w::l)),À (.str w),À s!"h",none,none] (s++[.lst l]):=by
 apply V2;simp?[↓a7 (ix0 (a:=.str w) (l:=l) (s:=s)),↓a7 b,items,wo]
def E5 (l:Á AV)(h:∀v∈l,∀b,v.low b=true)(c:Cl s):Cl (s++[.lst l]):=c.add (by simp only[Ķ,c6,AO.low,br];exact lB λv a=>h v a _)
def IA (h:Ws B V W s)(x:Str){rs:Á Rw}:aY [.ref (B+14),.tup [.str "rows",.str x,.tup s!"f"]] s=ĳ [.ref (B+14),.str x,.tup s!"f"] (s++[.lst [.str x,.tup s!"f"]]):=by
 have cl:Cl (s++[.lst [.str x,.tup s!"f"]]):=E5 _ (λv f b=>by
  simp only[Þ,ü,Ź]at f;rcases f with rfl|rfl
  ·rfl
  ·simp only[AV.low];exact u0 b rs) h.b.cl
 have k:=h.app cl;have g:=Ę s [.str x,.tup s!"f"];have q:∀{r:R AV}{b:Ms}{a:En}{st:S},b a st=(r.aQ λv s=>RS.rt v s)->a=[À (AV.ref (B+14)),À (.tup [.str "rows",.str x,.tup s!"f"]),none,none,none,none]->bH 6 b [.ref (B+14),.tup [.str "rows",.str x,.tup s!"f"]] st=r:=by
  intro r b a st e l;subst l;show(match b [À (AV.ref (B+14)),À (.tup [.str "rows",.str x,.tup s!"f"]),none,none,none,none] st with|.rt v d=>R.ok v d|.nx _ d=>.ok .Ĕ d|.ex c d=>.ex c d|_=>.bad)=r;rw[e];cases r<;>rfl
 unfold aY jv;refine q ?_ rfl;refine(ĕ (CY "rows" [.str x,.tup s!"f"] (by simp) rfl)).trans ?_;refine(ĕ (CZ k)).trans ?_;have m:cB (Ç mq (mv 2) (Ť (Â (mc (.str "person")) (Â (mc (.str "work")) Ï)))) (eD B (.tup [.str "rows",.str x,.tup s!"f"]) "rows" s.length) (s++[.lst [.str x,.tup s!"f"]])=.ok false (s++[.lst [.str x,.tup s!"f"]]):=rfl;have n:cB (Ç Ş (mv 2) (mc (.str "half"))) (eD B (.tup [.str "rows",.str x,.tup s!"f"]) "rows" s.length) (s++[.lst [.str x,.tup s!"f"]])=.ok false (s++[.lst [.str x,.tup s!"f"]]):=rfl;have o:cB (Ç Ş (mv 2) (mc (.str "rows"))) (eD B (.tup [.str "rows",.str x,.tup s!"f"]) "rows" s.length) (s++[.lst [.str x,.tup s!"f"]])=.ok true (s++[.lst [.str x,.tup s!"f"]]):=rfl;refine(ĕ (jK m)).trans ?_;refine(ĕ (jK n)).trans ?_;have i:å 3 ĳ (Â (mv 0) (Â (Ç ì (mv 3) s!"c") (Â (Ç ì (mv 3) s!"d") Ï))) (eD B (.tup [.str "rows",.str x,.tup s!"f"]) "rows" s.length) (s++[.lst [.str x,.tup s!"f"]])=ĳ [.ref (B+14),.str x,.tup s!"f"] (s++[.lst [.str x,.tup s!"f"]]):=by
  unfold å;rw[pc (v:=.ref (B+14)) (vs:=[.str x,.tup s!"f"]) rfl (pc ((di (v:=.ref s.length) (w:=.int 0) rfl rfl).trans (EY g)) (pc ((di (v:=.ref s.length) (w:=.int 1) rfl rfl).trans (UY g)) pn)),ï];rfl
 have j:a5 (cB (Ç Ş (mv 2) (mc (.str "rows")))) (Č (å 3 ĳ (Â (mv 0) (Â (Ç ì (mv 3) s!"c") (Â (Ç ì (mv 3) s!"d") Ï))))) ĉ (eD B (.tup [.str "rows",.str x,.tup s!"f"]) "rows" s.length) (s++[.lst [.str x,.tup s!"f"]])=(ĳ [.ref (B+14),.str x,.tup s!"f"] (s++[.lst [.str x,.tup s!"f"]])).aQ λv s=>RS.rt v s:=by
  refine(m_ o).trans ?_;unfold Č;rw[i]
 unfold ã;rw[j];cases ĳ [.ref (B+14),.str x,.tup s!"f"] (s++[.lst [.str x,.tup s!"f"]])<;>rfl
end
end Ro
set_option maxHeartbeats 400000
namespace Ro
open PySem L2 Mm
def OH:R AV->R AV
 |.ok _ s=>.ok .Ĕ s
 |.ex c s=>.ex c s
 |.bad=>.bad
def IQ {as:Á AV}(a:b env s=į m e1 s1)(c:m e1 s1=r)(d:env=as.map À++â (n-as.length) none:=by rfl):bH n b as s=OH r:=by
 subst d;unfold bH;rw[a];unfold į;rw[c];cases r<;>rfl
def dq {w z:Str}(a:decide (w=z)=t):cB (Ç Ş (mv 2) (mc (.str z))) [x,y,À (.str w),u] s=.ok t s:=by subst a;rfl
section
variable {B:Nat}{V:Bo}{s:S}
def Gf (h:gL B V s)(x:Str):Ŵ [.ref B,.tup [.str "person",.str x]] s=OH (ż [.ref B,.str x] s):=by
 unfold Ŵ lg;exact IQ (env:=[À (.ref B),À (.tup [.str "person",.str x]),none,none]) ((ĕ (e:=[À (.ref B),À (.tup [.str "person",.str x]),À (.str "person"),À (.tup [.str x])]) (s1:=s) rfl).trans (m_ (dq s!"g"))) (RM (vs:=[.str x]) h s!"g" rj rfl)
def My (h:gL B V s)(x:Str):Ŵ [.ref B,.tup [.str "work",.str x]] s=OH (aV [.ref B,.str x] s):=by
 unfold Ŵ lg;exact IQ (env:=[À (.ref B),À (.tup [.str "work",.str x]),none,none]) ((ĕ (e:=[À (.ref B),À (.tup [.str "work",.str x]),À (.str "work"),À (.tup [.str x])]) (s1:=s) rfl).trans ((Bt (dq s!"g")).trans (m_ (dq s!"g")))) (RM (vs:=[.str x]) h s!"g" rj rfl)
def Mw (h:gL B V s)(x:Str)(R:AV):Ŵ [.ref B,.tup [.str "rows",.str x,R]] s=OH (Ğ [.ref B,.str x,R] s):=by
 unfold Ŵ lg;exact IQ (env:=[À (.ref B),À (.tup [.str "rows",.str x,R]),none,none]) ((ĕ (e:=[À (.ref B),À (.tup [.str "rows",.str x,R]),À (.str "rows"),À (.tup [.str x,R])]) (s1:=s) rfl).trans ((Bt (dq s!"g")).trans ((Bt (dq s!"g")).trans (m_ (dq s!"g"))))) (RM (vs:=[.str x,R]) h s!"g" rj rfl)
def B2 (hd:Ŵ [.ref B,d] s=.ok .Ĕ s'):(ž [.ref B,d] s).wp λv b=>v=.str ""/\b=s':=by
 unfold ž fU;have a:į (å 2 Ŵ (Â (mv 0) s!"t")) [À (.ref B),À d,À .Ĕ,none,none,none] s=.nx [À (.ref B),À d,À .Ĕ,none,none,none] s':=lY ((Js rj Ct).trans hd);refine QB (B5 rfl (Ti a ?_));simp?[mQ]
def wq {c:Nat}{x:Str}(a:Rc c x)(hd:Ŵ [.ref B,d] s=.ex ⟨c,[]⟩ s')(cl:Cl s'):(ž [.ref B,d] s).wp λv b=>v=.str x/\∃e,b=s'++e/\Cl b:=by
 unfold ž fU;have k:į (å 2 Ŵ (Â (mv 0) s!"t")) [À (.ref B),À d,À .Ĕ,none,none,none] s=.ex ⟨c,[]⟩ s':=EF ((Js rj Ct).trans hd);have j:(λc=>decide (c<9)&&õ 0 c) (⟨c,[]⟩:AX).cls=true:=by rcases a with⟨rfl,_⟩|⟨rfl,_⟩|⟨rfl,_⟩|⟨rfl,_⟩<;>rfl
 have g:Cl (s'++[.exc c]):=cl.add (by simp[AO.low]);have hw:=OI (x:=x) a (s:=s'++[.exc c]) (i:=s'.length) (by rw[ç (Í _)];simp) g;refine QB (B5 rfl (Th k j rfl ?_));refine RS.wp.mono hw (λ_ _ f=>f.elim) ?_;rintro v l ⟨rfl,e,rfl,h⟩;exact⟨rfl,[.exc c]++e,by rw[Õ],h⟩
end
def rD (r:Rw):Dt:=match r with
 |.of n q=>.tup [.str "of",.str n,.tup [.int q.num,.int q.den]]
 |.steps n us z=>.tup [.str "steps",.str n,.tup (us.map Xg++[.tup [.Ĕ,.tup [.int z.num,.int z.den]]])]
 |.left n q=>.tup [.str "left",.str n,.tup [.int q.num,.int q.den]]
 |.len n k=>.tup [.str "length",.str n,.int k]
def Fq (q:Rat):Rp b s (.tup [.int q.num,.int q.den]) (fq q):=fC (by simp) (.cons (eJ s _) (.one (eJ s _)))
def VZ {r:Rw}(h:vm r):Rp b s (rD r) (rv r):=by
 cases r with
 |of n q=>exact fC (by simp) (.cons (eK s _) (.cons (eK s _) (.one (Fq q))))
 |left n q=>exact fC (by simp) (.cons (eK s _) (.cons (eK s _) (.one (Fq q))))
 |len n k=>exact fC (by simp) (.cons (eK s _) (.cons (eK s _) (.one (eJ s k))))
 |steps n us z=>
  have h:(∀p∈us,Sz 6 p.2/\0<p.2)/\Sz 6 z/\0<z/\us.length<=3:=h;exact fC (by simp) (.cons (eK s _) (.cons (eK s _) (.one (fC (by simp;lia) ((bu.map λp _=>fC (by simp) (.cons (eJ s _) (.one (Fq _)))).append (.one (fC (by simp) (.cons (wt s) (.one (Fq z))))))))))
def rP (rs:Á Rw)(h:(∀r∈rs,vm r)/\rs.length<=20):Pv:=⟨.tup (rs.map rD),.tup s!"f",λb s=>fC (by rw[É];lia) (bu.map λr hr=>VZ (h.1 r hr))⟩
def SF (r:Rw):(rD r).dep<=4:=by
 cases r with
 |steps n us z=>
  have:=DZ z us;simp only[rD,Dt.dep,aH];lia
 |_=>simp[rD,Dt.dep,aH]
open Classical in
def dR (V:Wl)(x:Str)(rs:Á Rw):Str:=if x∈V.ws/\rM V.ps V.ws rs then (if uG rs=true then "much" else "")else "name"
open Classical in
def dW (V:Wl)(x:Str)(rs:Á Rw)(h:(∀r∈rs,vm r)/\rs.length<=20):Wl:=if (x∈V.ws/\rM V.ps V.ws rs)/\uG rs=false then {V with rf:=λy=>if y=x then rP rs h else V.rf y}else V
section
variable {B:Nat}{V W:Wl}{s:S}
def Pk (rs:Á Rw)(h:(∀r∈rs,vm r)/\rs.length<=20) (f:Str->Pv)(x:Str)(l:Á Str):kT id (λy=>if y=x then AV.tup s!"f"else (f y).v) l=kT id (λy=>((if y=x then rP rs h else f y:Pv)).v) l:=Je (rP rs h) f x l
def IB (h:Ws B V W s)(x:Str)(hw:W.ws.length<64){rs:Á Rw}(a:(∀r∈rs,vm r)/\rs.length<=20):∃s',aY [.ref (B+14),.tup [.str "rows",.str x,.tup s!"f"]] s=.ok (.str (dR W x rs)) s'/\Ws B V (dW W x rs a) s'/\tj B s s':=by
 have cl:Cl (s++[.lst [.str x,.tup s!"f"]]):=E5 _ (λv f b=>by
  simp only[Þ,ü,Ź]at f;rcases f with rfl|rfl
  ·rfl
  ·simp only[AV.low];exact u0 b rs) h.b.cl
 have d:=h.app cl;have g:tj B s (s++[.lst [.str x,.tup s!"f"]]):=(tj.refl B s).app _;rw[IA h x];generalize s++[.lst [.str x,.tup s!"f"]]=l at d g⊢;have j:Cl (l++[NC rs]):=d.b.cl.add (by
  simp only[Ķ,c6,NC,AO.low,br];exact lB λv f=>by obtain⟨q,_,rfl⟩:=ň.mp f;simp[fq,AV.low,Ŀ])
 have k:=d.app j;rcases vv d x hw a.1 a.2 with⟨c,e⟩|⟨c,t,e⟩|⟨c,t,e⟩
 ·exact⟨_,by rw[e];unfold dR;rw[Ø c],by unfold dW;rw[Ø λz=>c z.1];exact d,g⟩
 ·exact⟨_,by rw[e];unfold dR;rw[Ò c,Ò t],by unfold dW;rw[Ø λz=>by rw[t]at z;exact nomatch z.2];exact k,g.app _⟩
 ·have lo:(AO.dK (kT id (λy=>if y=x then AV.tup s!"f"else (W.rf y).v) W.ws)).low (l++[NC rs]).length=true:=E6 (rP rs a) W.rf x _ _;have p:=k.Sx (i:=1) (W1:={W with rf:=λy=>if y=x then rP rs a else W.rf y}) (by lia) lo (by rw[Pk rs a];rfl);exact⟨_,by rw[e];unfold dR;rw[Ò c,Ø (by rw[t];decide)],by unfold dW;rw[Ò ⟨c,t⟩];exact p.1,(g.app _).trans p.2⟩
def Mx (h:Ws B V W s)(x:Str)(k:x.length<=1000)(hw:V.ws.length<64){rs:Á Rw}(a:(∀r∈rs,vm r)/\rs.length<=20) (j:∀r∈rs,r.nm.length<=1000):(ž [.ref B,.tup [.str "rows",.str x,.tup s!"f"]] s).wp λv s'=>v=.str (dR V x rs)/\Ws B (dW V x rs a) W s'/\tj B s s':=by
 have e:=Mw h.b x (.tup s!"f");rcases wj (V:=bo V) h.b k hw a.1 a.2 j with⟨c,q⟩|⟨c,t,q⟩|⟨c,t,q⟩
 ·refine(wq (x:="name") (.inr (.inl ⟨rfl,rfl⟩)) (e.trans (ğ OH q)) h.b.cl).mono ?_;rintro _ f ⟨rfl,g,rfl,d⟩;have c:¬(x∈V.ws/\rM V.ps V.ws rs):=c;exact⟨by unfold dR;rw[Ø c],by unfold dW;rw[Ø λz=>c z.1];exact h.app d,(tj.refl B s).app _⟩
 ·refine(wq (x:="much") (.inr (.inr (.inl ⟨rfl,rfl⟩))) (e.trans (ğ OH q)) h.b.cl).mono ?_;rintro _ f ⟨rfl,g,rfl,d⟩;have c:x∈V.ws/\rM V.ps V.ws rs:=c;exact⟨by unfold dR;rw[Ò c,Ò t],by unfold dW;rw[Ø λz=>by rw[t]at z;exact nomatch z.2];exact h.app d,(tj.refl B s).app _⟩
 ·refine(B2 (e.trans (ğ OH q))).mono ?_;rintro _ f ⟨rfl,rfl⟩;have c:x∈V.ws/\rM V.ps V.ws rs:=c;have lo:(AO.dK (kT id (λy=>if y=x then AV.tup s!"f"else (V.rf y).v) V.ws)).low s.length=true:=E6 (rP rs a) V.rf x _ _;have p:=h.Sw (i:=2) (V1:={V with rf:=λy=>if y=x then rP rs a else V.rf y}) (by lia) lo (by rw[Pk rs a];rfl);exact⟨by unfold dR;rw[Ò c,Ø (by rw[t];decide)],by unfold dW;rw[Ò ⟨c,t⟩];exact p.1,p.2⟩
end
end Ro
set_option maxHeartbeats 400000
namespace Mm
open PySem L2
mutual
theorem Rp.zero:∀{d:Dt}{v:AV},Rp b s d v->Rp 0 s d v
 |.Ĕ,_,h=>by unfold Rp at h⊢;exact h
 |.bl _,_,h=>by unfold Rp at h;exact h.elim
 |.int _,_,h=>by unfold Rp at h⊢;exact h
 |.str _,_,h=>by unfold Rp at h⊢;exact h
 |.tup l,_,h=>by
  unfold Rp at h⊢;obtain⟨xs,e,hl,h⟩:=h;exact⟨xs,e,hl,bu.zero h⟩
 |.lst l,_,h=>by
  unfold Rp at h⊢;obtain⟨i,xs,e,_,a,hl,h⟩:=h;exact⟨i,xs,e,ê _,a,hl,bu.zero h⟩
theorem bu.zero:∀{l:Á Dt}{xs:Á AV},bu b s l xs->bu 0 s l xs
 |[],_,h=>by unfold bu at h⊢;exact h
 |_::_,_,h=>by
  unfold bu at h⊢;obtain⟨x,r,e,a,c⟩:=h;exact⟨x,r,e,Rp.zero a,bu.zero c⟩
end
mutual
theorem Rp.up (k:∀i xs,b<=i->ù s i=À xs->ù s' i=À xs):∀{d:Dt}{v:AV},Rp b s d v->Rp b s' d v
 |.Ĕ,_,h=>by unfold Rp at h⊢;exact h
 |.bl _,_,h=>by unfold Rp at h;exact h.elim
 |.int _,_,h=>by unfold Rp at h⊢;exact h
 |.str _,_,h=>by unfold Rp at h⊢;exact h
 |.tup l,_,h=>by
  unfold Rp at h⊢;obtain⟨xs,e,hl,h⟩:=h;exact⟨xs,e,hl,bu.up k h⟩
 |.lst l,_,h=>by
  unfold Rp at h⊢;obtain⟨i,xs,e,a,c,hl,h⟩:=h;exact⟨i,xs,e,a,k i xs a c,hl,bu.up k h⟩
theorem bu.up (k:∀i xs,b<=i->ù s i=À xs->ù s' i=À xs):∀{l:Á Dt}{xs:Á AV},bu b s l xs->bu b s' l xs
 |[],_,h=>by unfold bu at h⊢;exact h
 |_::_,_,h=>by
  unfold bu at h⊢;obtain⟨x,r,e,a,c⟩:=h;exact⟨x,r,e,Rp.up k a,bu.up k c⟩
end
def Iu (h:∀d∈l,d.dep<=m):aH l<=m:=by
 induction l with
 |nil=>simp[aH]
 |cons a r b=>
  simp only[aH];exact LV.mpr ⟨h a (.head _),b λd hd=>h d (.tail _ hd)⟩
def fX {f:α->Dt}(h:∀x,(f x).dep<=m) (l:Á α):aH (l.map f)<=m:=Iu λd hd=>by
 obtain⟨x,_,rfl⟩:=ň.mp hd;exact h x
end Mm
namespace Ro
open PySem L2 Mm
section
variable {s:S}
def CM (h:ù s i=À xs)(hd:xs.all se=true)(hl:xs.length<64)(t:s[0]?=À (.tab 20 Bz)):dV [.ref i] s=.ok s!"h" (s++[.lst (pick xs (Bw (xs.map ur)))]):=by
 have e:∀q,r8 20 Bz (mv 0) (À (.ref i)::q) s=.ok (pick xs (Bw (xs.map ur))) s:=λq=>by
  unfold r8;rw[rj,ï];dsimp only;rw[h,ø,Ò ⟨hd,hl,w8.mpr ⟨_,ý t,by simp[tabAt]⟩⟩]
 unfold dV rS;exact da (env:=[À (.ref i)]) (by unfold Č;rw[eF (e [])];rfl)
def Q6 (l:Á Mo):(l.map mE).all se=true:=by
 rw[Ā];intro v a;obtain⟨x,_,rfl⟩:=ň.mp a;rfl
end
def Tl (b:Nat)(m:Ev)(env:En)(s:S)(d:Dt):Prop:=∃v e,m env s=.ok v (s++e)/\Cl (s++e)/\Rp b (s++e) d v
def L_ (b:Nat)(r:hR)(env:En)(s:S)(l:Á Dt):Prop:=∃a e,r env s=.ok a (s++e)/\Cl (s++e)/\bu b (s++e) l a
def ft (c:Cl s)(e:m env s=.ok v s)(h:Rp b s d v):Tl b m env s d:=⟨v,[],by rw[Ġ];exact e,by rw[Ġ];exact c,by rw[Ġ];exact h⟩
def sS (c:Cl s):L_ b Ï env s []:=⟨[],[],by rw[Ġ];rfl,by rw[Ġ];exact c,.nil⟩
def bN (i:Tl b m env s d)(j:∀e,Cl (s++e)->L_ b r env (s++e) l):L_ b (Â m r) env s (d::l):=by
 obtain⟨v,e,h,c,k⟩:=i;obtain⟨o,a,g,f,n⟩:=j e c;refine⟨v::o,e++a,?_,by rw[<-Õ];exact f,by rw[<-Õ];exact .cons (k.app a) n⟩;unfold Â;rw[h,ï,g,ï,Õ]
def le_app (h:b<=s.length)(e:S):b<=(s++e).length:=by rw[è];lia
def dn (a:b<=s.length)(hl:l.length<=1000)(h:L_ b r env s l):Tl b (Ď r) env s (.lst l):=by
 obtain⟨d,e,h,c,k⟩:=h;exact⟨_,e++[.lst d],by rw[eF h,Õ],by rw[<-Õ];exact jj c k,by rw[<-Õ];exact zS (le_app a e) hl k⟩
def sR (hl:l.length<=1000)(h:L_ b r env s l):L_ b (Ŭ r) env s l:=by
 obtain⟨a,e,h,c,k⟩:=h;refine⟨a,e,?_,c,k⟩;unfold Ŭ;rw[h,ï,Ò (xM (by rw[<-k.length];exact hl))]
def Ab {y:Ev}(z:b<=s.length)(hl:l.length+q.length<=1000)(p:Tl b a env s (.lst l)) (t:∀e,Cl (s++e)->Tl b y env (s++e) (.lst q)):Tl b (Ç ť a y) env s (.lst (l++q)):=by
 obtain⟨v,e,h,c,k⟩:=p;obtain⟨w,d,o,n,m⟩:=t e c;have k:=k.app d;unfold Rp at k m;obtain⟨i,xs,rfl,_,u,_,f⟩:=k;obtain⟨j,A,rfl,_,x,_,g⟩:=m;have B:=f.length;have C:=g.length;have r:=f.append g;refine⟨_,e++d++[.lst (xs++A)],?_,by rw[<-Õ,<-Õ];exact jj n r,by rw[<-Õ,<-Õ];exact zS (le_app (le_app z e) d) (by rw[è];exact hl) r⟩;rw[di h o,Ie u x (xM (by lia)),Õ,Õ,Õ]
def kl {names:Á Str}{f:Str->Dt}(j:ù s i=À (names.map AV.str)) (c:Cl s)(hl:names.length<=1000)(em:m (À (.ref B)::env) s=.ok (.ref i) s) (h:∀x∈names,∀e,Cl (s++e)->Tl b elt [À (.str x),À (.ref B)] (s++e) (f x)):L_ b (ł [(r,none),(t,À 0)] (Ŧ m) (gN 0) fV elt) (À (.ref B)::env) s (names.map f):=by
 have o:=Ii (b:=b) (elt:=elt) Cl (x0:=none) (rest:=[À (.ref B)]) f j c (λx q e k=>by
  obtain⟨v,l,d,g,n⟩:=h x q e k;rw[d];exact⟨l,rfl,g,n⟩)
 obtain⟨a,s',p,e,rfl,d,g⟩:=o.get;refine⟨a,e,?_,d,g⟩;unfold ł Ŧ;rw[em,ï];dsimp only;rw[j,ø,ï];dsimp only;rw[Ò (xM (by rw[É];exact hl))];exact p
def qb (l:Á ((Str×Int)×α)) (k:Str×Int):Ë α:=(l.find? λp=>decide (p.1=k)).map (·.2)
theorem Ad (f:α->AV)(k:Str×Int):∀l:Á ((Str×Int)×α),a6 (l.map (tK f)) (fJ k)=(qb l k).map f
 |[]=>rfl
 |x::r=>by
  show(if fJ x.1=fJ k then À (f x.2)else a6 (r.map (tK f)) (fJ k))=_;unfold qb;rw[bZ,Ad f k r];by_cases a:x.1=k
  ·rw[Ò (by rw[a]),Ă a];rfl
  ·rw[Ø λz=>a (qE z),ë a];rfl
theorem Ko (f:α->AV):∀l:Á ((Str×Int)×α),p8 (l.map (tK f))=À (l.map uQ)
 |[]=>rfl
 |x::r=>by
  show(p8 (r.map (tK f))).map (x.1::·)=_;rw[Ko f r];rfl
def sK (l:Á ((Str×Int)×α)):Á (Str×Int):=ki (l.map uQ)
def zZ (l:Á ((Str×Int)×α)):(sK l).length=l.length:=by unfold sK;rw[(mx _).length_eq,É]
def B6 {l:Á ((Str×Int)×α)}{f:α->AV}(h:Gb s i=À (l.map (tK f))) (hl:l.length<64)(z:α)(e:m env s=.ok (.ref i) s):j' m env s=.ok ((sK l).map λk=>.tup [.tup [.str k.1,.int k.2],f ((qb l k).getD z)]) s:=by
 unfold j';rw[e,ï];dsimp only;rw[h,ø,Ko,ø,Ò (by rw[É];exact hl)];congr 1;refine HB λk b=>?_;have b:k∈l.map uQ:=(mx _).mem_iff.mp b;rw[Ad];cases e:qb l k with
 |some a=>rfl
 |none=>
  have:=KW (k:=k) f l;rw[Ad,e,Ă b]at this;cases this
theorem vr (w:Str×Int->AV)(s:S):∀(l:Á (Str×Int)) (a b c:Ë AV) (d:Á AV),az (gT 2 (ß (gT 2 (ß (gN 1) (ß (gN 2) ś))) (ß (gN 0) ś))) fV (Ť (Â (mv 1) (Â (mv 2) s!"u"))) [] (l.map λk=>.tup [.tup [.str k.1,.int k.2],w k]) [a,b,c] s d=.ok (d++l.map λk=>.tup [.str k.1,.int k.2,w k]) s
 |[],a,b,c,d=>by rw[aj,fW];simp
 |x::r,a,b,c,d=>by
  have e:Ť (Â (mv 1) (Â (mv 2) s!"u")) [À (w x),À (.str x.1),À (.int x.2)] s=.ok (.tup [.str x.1,.int x.2,w x]) s:=by
   apply R.wp.eq;walk_at"w"
  rw[Î,kG (e1:=[À (w x),À (.str x.1),À (.int x.2)]) rfl rfl e,vr w s r];simp
theorem pJ (w:Str×Int->Pv×Pv)(y:Str)(s:S):∀(l:Á (Str×Int)) (a b c d:Ë AV) (e:Á AV),az (gT 2 (ß s!"v" (ß (gT 2 (ß (gN 2) (ß (gN 3) ś))) ś))) (cB (Ç Ş (mv 0) (mv 4))) (Ť (Â (mv 1) (Â (mv 2) (Â (mv 3) Ï)))) [] (l.map λk=>.tup [.tup [.str k.1,.int k.2],hV (w k)]) [a,b,c,d,À (.str y)] s e=.ok (e++(l.filter λk=>decide (k.1=y)).map λk=>.tup [.int k.2,(w k).1.v,(w k).2.v]) s
 |[],a,b,c,d,e=>by rw[aj,fW];simp
 |x::r,a,b,c,d,e=>by
  have g:Ť (Â (mv 1) (Â (mv 2) (Â (mv 3) Ï))) [À (.str x.1),À (.int x.2),À (w x).1.v,À (w x).2.v,À (.str y)] s=.ok (.tup [.int x.2,(w x).1.v,(w x).2.v]) s:=by
   apply R.wp.eq;walk_at"w"
  by_cases f:x.1=y
  ·rw[Î,kG (e1:=[À (.str x.1),À (.int x.2),À (w x).1.v,À (w x).2.v,À (.str y)]) rfl (eq_str (x:=x.1) (y:=y) rfl rfl (Ă f)) g,pJ w y s r,nh,Ă f];simp
  ·rw[Î,bh (e1:=[À (.str x.1),À (.int x.2),À (w x).1.v,À (w x).2.v,À (.str y)]) rfl (eq_str (x:=x.1) (y:=y) rfl rfl (ë f)),pJ w y s r,nh,ë f];rfl
def pZ:Pv×Pv:=(pN,pN)
def hD (V:Bo)(x:Str):Dt:=.lst (((sK V.hs).filter λk=>decide (k.1=x)).map λk=>.tup [.int k.2,((qb V.hs k).getD pZ).1.d,((qb V.hs k).getD pZ).2.d])
def YZ (V:Bo):Dt:=.lst ((sK V.rs).map λk=>.tup [.str k.1,.int k.2,((qb V.rs k).getD pN).d])
noncomputable def nD (V:Bo)(x:Str):Dt:=if x∈V.ms then (V.mf x).d else .Ĕ
def W5 (l:Á Dt)(xs:Á AV):Dt:=.lst ((Bw (xs.map ur)).map λi=>l.getD i .Ĕ)
theorem bu.getD:∀{l:Á Dt}{xs:Á AV},bu b s l xs->∀i,Rp b s (l.getD i .Ĕ) (xs.getD i .Ĕ)
 |[],_,h,i=>by unfold bu at h;subst h;exact wt s
 |_::_,_,h,0=>by unfold bu at h;obtain⟨x,r,rfl,a,_⟩:=h;exact a
 |_::_,_,h,i+1=>by unfold bu at h;obtain⟨x,r,rfl,_,c⟩:=h;exact bu.getD c i
section
variable {B:Nat}{V:Bo}{s:S}
def u_ (h:gL B V s)(l:((s!"l":Á Str).any λf=>m == f)=false) (k:∃v e,F [.ref B,.str x] s=.ok v (s++e)/\Cl (s++e)/\Rp b (s++e) d v):Tl b (Į 9 m 1 F (mv 1) s!"u") [À (.str x),À (.ref B)] s d:=by
 unfold Tl;rw[BI (v:=.str x) h l rfl rfl];exact k
def qY (h:gL B V s)(l:((s!"l":Á Str).any λf=>m == f)=false) (k:∃v e,F [.ref B] s=.ok v (s++e)/\Cl (s++e)/\Rp b (s++e) d v):Tl b (Į 9 m 0 F (mv 0) Ï) (À (.ref B)::env) s d:=by
 unfold Tl;rw[RM (vs:=[]) (n:=0) h l rj rfl];exact k
def Xe {r:R AV}(c:Cl s)(h:r=.ok v s)(k:Rp b s d v):∃v e,r=.ok v (s++e)/\Cl (s++e)/\Rp b (s++e) d v:=⟨v,[],by rw[Ġ];exact h,by rw[Ġ];exact c,by rw[Ġ];exact k⟩
def Xf {r:R AV}(a:b<=s.length)(c:Cl s)(hl:l.length<=1000)(h:r=.ok s!"h" (s++[.lst xs])) (k:bu b s l xs):∃v e,r=.ok v (s++e)/\Cl (s++e)/\Rp b (s++e) (.lst l) v:=⟨_,_,h,jj c k,zS a hl k⟩
def G2 (h:gL B V s)(a:x∈V.ws):∃v e,bj [.ref B,.str x] s=.ok v (s++e)/\Cl (s++e)/\Rp b (s++e) (V.rf x).d v:=by
 refine Xe (v:=(V.rf x).v) h.cl ?_ (Pv.h _ _ _);unfold bj js;exact da (env:=[À (.ref B),À (.str x)]) ((ĕ (vW h rj Ct a)).trans (by unfold Č;rw[(di (op:=ô) (m9 h (lZ B V.h)) Ct).trans (Bb (lX h) (wM a))];rfl))
def Gy (h:gL B V s)(a:x∈V.ps):∃v e,cj [.ref B,.str x] s=.ok v (s++e)/\Cl (s++e)/\Rp b (s++e) (V.kf x).d v:=by
 refine Xe (v:=(V.kf x).v) h.cl ?_ (Pv.h _ _ _);unfold cj jr;exact da (env:=[À (.ref B),À (.str x)]) ((ĕ (JN h rj Ct a)).trans (by unfold Č;rw[(di (op:=ô) (m9 h (lr B V.h)) Ct).trans (Bb (lj h) (wM a))];rfl))
def vL (h:kH s i=À kvs):(kL "dict" (.ref i) s).isSome=true:=by
 have e:=j9 h;unfold kL;simp only[e];rfl
def EO (h:kH s i=À kvs)(e1:d env s=.ok (.ref i) s) (a:y env s=.ok (.str x) s):yx d y env s=.ok ((a6 kvs (.inr x)).getD .Ĕ) s:=by
 obtain⟨u,b⟩:=aN.mp (vL h);unfold yx;rw[e1,ï,b,ø,a,ï];show(need (kH s i) λkvs=>need (gb (.str x)) λk=>R.ok ((a6 kvs k).getD .Ĕ) s)=_;rw[h];rfl
def De (h:gL B V s){x:Str}(c:x∈V.ws):∃v e,bF [.ref B,.str x] s=.ok v (s++e)/\Cl (s++e)/\Rp b (s++e) (nD V x) v:=by
 refine Xe (v:=(a6 (kT id (λp=>(V.mf p).v) V.ms) (.inr x)).getD .Ĕ) h.cl ?_ ?_
 ·unfold bF ir;exact da (env:=[À (.ref B),À (.str x)]) ((ĕ (vW h rj Ct c)).trans (by unfold Č;rw[EO (Ga h) (m9 h (Gh B V.h)) Ct];rfl))
 ·unfold nD;by_cases a:x∈V.ms
  ·rw[Ò a,wM a];exact Pv.h _ _ _
  ·rw[Ø a,K5 a];exact wt s
def C8 (d:b<=s.length)(h:gL B V s){x:Str}(f:x∈V.ps)(hl:V.hs.length<64):∃v e,aW [.ref B,.str x] s=.ok v (s++e)/\Cl (s++e)/\Rp b (s++e) (hD V x) v:=by
 have g:=List.length_filter_le (λk:Str×Int=>decide (k.1=x)) (sK V.hs);rw[zZ]at g;refine Xf d (xs:=((sK V.hs).filter λk=>decide (k.1=x)).map λk=>.tup [.int k.2,((qb V.hs k).getD pZ).1.v,((qb V.hs k).getD pZ).2.v]) h.cl (by rw[É];lia) ?_ (bu.map λk _=>fC (by simp) (.cons (eJ s _) (.cons (Pv.h _ _ _) (.one (Pv.h _ _ _)))));have a:=B6 (Ip h) hl pZ (m9 (l:=[À (.str x)]) h (IJ B V.h));have c:ł [("giver",none),("day",none),("name",none),("part",none),("person",À 1)] (n8 (j' (bg (aa 9 "hands") (mv 0)))) (gT 2 (ß s!"v" (ß (gT 2 (ß (gN 2) (ß (gN 3) ś))) ś))) (cB (Ç Ş (mv 0) (mv 4))) (Ť (Â (mv 1) (Â (mv 2) (Â (mv 3) Ï)))) [À (.ref B),À (.str x)] s=.ok (((sK V.hs).filter λk=>decide (k.1=x)).map λk=>.tup [.int k.2,((qb V.hs k).getD pZ).1.v,((qb V.hs k).getD pZ).2.v]) s:=by
  unfold ł n8;rw[a,ï,ï];dsimp only;rw[Ò (xM (by rw[É,zZ];lia))];have:=pJ (λk=>(qb V.hs k).getD pZ) x s (sK V.hs) none none none none [];rw[bb]at this;exact this
 unfold aW il;exact da (env:=[À (.ref B),À (.str x)]) ((ĕ (JN h rj Ct f)).trans (by unfold Č;rw[eF c];rfl))
def B1 (d:b<=s.length)(h:gL B V s)(hl:V.rs.length<64):∃v e,aw [.ref B] s=.ok v (s++e)/\Cl (s++e)/\Rp b (s++e) (YZ V) v:=by
 refine Xf d (xs:=(sK V.rs).map λk=>.tup [.str k.1,.int k.2,((qb V.rs k).getD pN).v]) h.cl (by rw[É,zZ];lia) ?_ (bu.map λk _=>fC (by simp) (.cons (eK s _) (.cons (eJ s _) (.one (Pv.h _ _ _)))));have a:=B6 (Iq h) hl pN (m9 (l:=[]) h (IL B V.h));have c:ł [("worth",none),("currency",none),("day",none)] (n8 (j' (bg (aa 9 "rates") (mv 0)))) (gT 2 (ß (gT 2 (ß (gN 1) (ß (gN 2) ś))) (ß (gN 0) ś))) fV (Ť (Â (mv 1) (Â (mv 2) s!"u"))) [À (.ref B)] s=.ok ((sK V.rs).map λk=>.tup [.str k.1,.int k.2,((qb V.rs k).getD pN).v]) s:=by
  unfold ł n8;rw[a,ï,ï];dsimp only;rw[Ò (xM (by rw[É,zZ];lia))];have:=vr (λk=>((qb V.rs k).getD pN).v) s (sK V.rs) none none none [];rw[bb]at this;exact this
 unfold aw gQ;exact da (env:=[À (.ref B)]) (by unfold Č;rw[eF c];rfl)
def Jl (c:∀v∈xs,v.low b=true)(p:Á Nat):Ŀ b (pick xs p)=true:=lB λv a=>by
 unfold pick at a;obtain⟨i,_,rfl⟩:=ň.mp a;rw[Ĥ];cases e:xs[i]? with
 |none=>rfl
 |some w=>exact c w (ý e)
def Ey (h:gL B V s)(k:(Ap B V.h).lookup f=À (.ref i)) (a:ù s i=À xs)(hd:xs.all se=true)(hl:xs.length<64)(lo:∀v∈xs,v.low s.length=true):gf (å 1 dV (Â (bg (aa 9 f) (mv 0)) Ï)) [À (.ref B)] s=.ok (pick xs (Bw (xs.map ur))) s:=
 B9 (t:=[.lst (pick xs (Bw (xs.map ur)))]) h.cl (Jl lo _) ((nI (m9 h k)).trans (CM a hd hl h.t0)) (Ę _ _) (Í _)
def Fi (h:bu b s l xs)(hl:xs.length<64):((Bw (xs.map ur)).map λi=>l.getD i .Ĕ).length<=1000/\bu b s ((Bw (xs.map ur)).map λi=>l.getD i .Ĕ) (pick xs (Bw (xs.map ur))):=by
 refine⟨?_,bu.map λi _=>bu.getD h i⟩;rw[É,(vO _).length_eq,dz,É];lia
def zD (d:b<=s.length)(h:gL B V s)(hl:V.mn.length<64):∃v e,Ž [.ref B] s=.ok v (s++e)/\Cl (s++e)/\Rp b (s++e) (W5 (V.mn.map mD) (V.mn.map mE)) v:=by
 obtain⟨a,c⟩:=Fi (s:=s) (l:=V.mn.map mD) (xs:=V.mn.map mE) (bu.map λx _=>fC (by simp) (.cons (eK s _) (.cons (eJ s _) (.cons (eK s _) (.cons (eJ s _) (.cons (eJ s _) (.one (eK s _)))))))) (by rw[É];exact hl);refine Xf d h.cl a ?_ c;unfold Ž fS;exact da (env:=[À (.ref B)]) (by unfold Č;rw[eF (Ey h (IK B V.h) (Jo h) (Q6 _) (by rw[É];exact hl) (λv f=>by obtain⟨x,_,rfl⟩:=ň.mp f;simp[mE,AV.low,Ŀ]))];rfl)
def A_ (f:b<=s.length)(h:gL B V s)(hl:V.db.length<64):∃v e,ar [.ref B] s=.ok v (s++e)/\Cl (s++e)/\Rp b (s++e) (W5 (V.db.map dD) (V.db.map dE)) v:=by
 obtain⟨c,d⟩:=Fi (s:=s) (l:=V.db.map dD) (xs:=V.db.map dE) (bu.map λx _=>fC (by simp) (.cons (eK s _) (.cons (eJ s _) (.cons (eK s _) (.one (eJ s _)))))) (by rw[É];exact hl);refine Xf f h.cl c ?_ d;unfold ar gM;exact da (env:=[À (.ref B)]) (by unfold Č;rw[eF (Ey h (II B V.h) (Jn h) (by rw[Ā];intro v a;obtain⟨x,_,rfl⟩:=ň.mp a;rfl) (by rw[É];exact hl) (λv a=>by obtain⟨x,_,rfl⟩:=ň.mp a;simp[dE,AV.low,Ŀ]))];rfl)
def zE (h:kH s i=À (kT id g l)) (hl:l.length<64)(e:m env s=.ok (.ref i) s):l6 m env s=.ok ((þ l).map AV.str) s:=by
 unfold l6;rw[e,ï];dsimp only;rw[h,ø,K2,ø,List.map_id,Ò hl]
def uF (h:gL B V s)(l:V.ps.length<64):Ŗ [.ref B] s=.ok s!"h" (s++[.lst ((þ V.ps).map AV.str)]):=by
 unfold Ŗ eA;exact da (env:=[À (.ref B)]) (by unfold Č;rw[eF (zE (lj h) l (m9 h (lr B V.h)))];rfl)
def xN (h:gL B V s)(l:V.ws.length<64):Ū [.ref B] s=.ok s!"h" (s++[.lst ((þ V.ws).map AV.str)]):=by
 unfold Ū fT;exact da (env:=[À (.ref B)]) (by unfold Č;rw[eF (zE (lX h) l (m9 h (lZ B V.h)))];rfl)
def QL (h:gL B V s):∃v e,au [.ref B] s=.ok v (s++e)/\Cl (s++e)/\Rp b (s++e) (.int V.h) v:=by
 refine Xe h.cl ?_ (eJ s V.h);unfold au gO;exact da (env:=[À (.ref B)]) (by unfold Č;rw[m9 h (MF B V.h)];rfl)
def nW:x∈þ l ↔ x∈l:=(my l).mem_iff
def h9 (s:S)(l:Á Str):bu b s (l.map Dt.str) (l.map AV.str):=bu.map λa _=>eK s a
def D_ {q:Ms}(h:Tl b m env s d)(k:∀v e,Cl (s++e)->Rp b (s++e) d v->∃w a,q (env.set i (À v)) (s++e)=.rt w (s++e++a)/\Cl (s++e++a)/\Rp b (s++e++a) d' w):∃w a,ã (ņ i m) q env s=.rt w (s++a)/\Cl (s++a)/\Rp b (s++a) d' w:=by
 obtain⟨v,e,j,l,n⟩:=h;obtain⟨w,a,c,f,g⟩:=k v e l n;rw[Õ]at c f g;exact⟨w,e++a,(ĕ (p9 j)).trans c,f,g⟩
def qX (h:l.length<64):(þ l).length<=1000:=by rw[G9];lia
def mR (h:l.length<64)(f:Str->α):((þ l).map f).length<=1000:=by rw[É];exact qX h
end
section
variable {s:S}
theorem yG:∀l:Á Str,B_ (l.map AV.str)=À l
 |[]=>rfl
 |x::r=>by show(B_ (r.map AV.str)).map (x::·)=_;rw[yG r];rfl
def Ot (h:ù s i=À (l.map AV.str)) (hl:l.length<64)(e:m env s=.ok (.ref i) s):pO m env s=.ok ((þ l).map AV.str) s:=by
 unfold pO;rw[e,ï];dsimp only;rw[h,ø,yG,ø,Ò hl]
def G8 (e:m env s=.ok [] s):vF m env s=.ok [] s:=by
 unfold vF;rw[e,ï];rfl
def GC (h:ù s i=À [])(e:m env s=.ok (.ref i) s):ł l (Ŧ m) c b elt env s=.ok [] s:=by
 apply R.wp.eq;simp?[↓a7 e,↓a7 (PX h)];have d:∀a,az c b elt [(i,[])] [] a s []=.ok [] s:=λa=>by
  unfold az;exact Ò (show r3 [(i,[])] s from λp f=>by rw[ò.mp f];exact h)
 rw[a7 (d _)];exact⟨rfl,rfl⟩
def MK (h:kH s i=À kvs)(e1:d env s=.ok (.ref i) s) (a:y env s=.ok (.str x) s) (b:w env s=.ok z s):tY d y w env s=.ok ((a6 kvs (.inr x)).getD z) s:=by
 obtain⟨u,c⟩:=aN.mp (vL h);unfold tY;rw[e1,ï,c,ø,a,ï,b,ï];show(need (kH s i) λkvs=>need (gb (.str x)) λk=>R.ok ((a6 kvs k).getD z) s)=_;rw[h];rfl
end
def tA (V:Wl):Á Dt:=[.lst ((þ V.ps).map .str),.lst ((þ V.ws).map .str),.lst ((þ V.ws).map λx=>(V.rf x).d)]
def told (V:Wl):Dt:=.lst (tA V++[.lst ((þ V.ps).map λ_=>.lst [])]++[.lst ((þ V.ws).map λ_=>.Ĕ),.lst ((þ V.ps).map λ_=>.tup [.int 0,.int 1])]++[.lst [],.int 182,.lst [],.lst []])
def QK (V:Wl)(x:Str):hD (bo V) x=.lst []:=by
 unfold hD sK;show Dt.lst (((ki []).filter _).map _)=_;rw[show ki []=[] by simp[ki]];rfl
def Oi (V:Wl):YZ (bo V)=.lst []:=by
 unfold YZ sK;show Dt.lst ((ki []).map _)=_;rw[show ki []=[] by simp[ki]];rfl
def IE:W5 [] []=.lst []:=by
 unfold W5;rw[show Bw (([]:Á AV).map ur)=[] by simp[Bw]];rfl
structure Td (c B:Nat)(V W:Wl)(ip iw:Nat)(P Q:Á Str)(s:S):Prop where
 b:Ws B V W s
 l:c<=s.length
 lp:c<=ip
 lw:c<=iw
 p:ù s ip=À ((þ P).map AV.str)
 w:ù s iw=À ((þ Q).map AV.str)
theorem Td.app {q:Nat}{V W:Wl}(h:Td q B V W a d P Q s)(c:Cl (s++e)):Td q B V W a d P Q (s++e):=⟨h.b.app c,le_app h.l e,h.lp,h.lw,ao h.p,ao h.w⟩
section
variable {B:Nat}{V W:Wl}{s:S}
def Te (h:Ws B V W s)(A:V.ps.length<64)(L2:V.ws.length<64):∃v e,aX [.ref B] s=.ok v (s++e)/\Cl (s++e)/\Rp 0 (s++e) (told V) v:=by
 have I:Cl (s++[.lst ((þ V.ws).map AV.str)]):=jj (b:=0) (l:=(þ V.ws).map Dt.str) h.b.cl (h9 _ _);have H:=h.app I;have L:Cl (s++[.lst ((þ V.ws).map AV.str)]++[.lst ((þ V.ps).map AV.str)]):=jj (b:=0) (l:=(þ V.ps).map Dt.str) I (h9 _ _);have O:=H.app L;have t2:Td 0 B V W (s++[AO.lst ((þ V.ws).map AV.str)]).length s.length V.ps V.ws (s++[.lst ((þ V.ws).map AV.str)]++[.lst ((þ V.ps).map AV.str)]):=⟨O,ê _,ê _,ê _,Ę _ _,ao (Ę _ _)⟩
 have N:Â (Į 9 "work_names" 0 Ū (mv 0) Ï) (Â (Į 9 "person_names" 0 Ŗ (mv 0) Ï) Ï) [À (.ref B),none,none,none] s=.ok [.ref s.length,.ref (s++[AO.lst ((þ V.ws).map AV.str)]).length] (s++[.lst ((þ V.ws).map AV.str)]++[.lst ((þ V.ps).map AV.str)]):=by
  have P:Į 9 "work_names" 0 Ū (mv 0) Ï [À (.ref B),none,none,none] s=.ok s!"h" (s++[.lst ((þ V.ws).map AV.str)]):=(RM (m:="work_names") (vs:=[]) (n:=0) h.b s!"g" rj rfl).trans (xN h.b L2);have Q:Į 9 "person_names" 0 Ŗ (mv 0) Ï [À (.ref B),none,none,none] (s++[.lst ((þ V.ws).map AV.str)])=.ok (.ref (s++[AO.lst ((þ V.ws).map AV.str)]).length) (s++[.lst ((þ V.ws).map AV.str)]++[.lst ((þ V.ps).map AV.str)]):=(RM (m:="person_names") (vs:=[]) (n:=0) H.b s!"g" rj rfl).trans (uF H.b A);unfold Â;rw[P,ï,Q,ï];rfl
 suffices k:∃w j,fc [À (.ref B),none,none,none] s=.rt w (s++j)/\Cl (s++j)/\Rp 0 (s++j) (told V) w by
  obtain⟨w,e,E,F,G⟩:=k;exact⟨w,e,da E,F,G⟩
 unfold fc;rw[ĕ (DJ N)];rw[Õ]at *
 generalize (s++[AO.lst ((þ V.ws).map AV.str)]).length=C at *
 generalize s.length=D at *
 generalize ([AO.lst ((þ V.ws).map AV.str)]++[AO.lst ((þ V.ps).map AV.str)])=T at *
 clear N I H O h;suffices k:∀s,Td 0 B V W C D V.ps V.ws s->∃w j,(ã (ņ 1 (Ď (Ŭ (Â (mv 3) (Â (mv 2) (Â (Ď (ł [("_law_work",none),("_law_book",À 0)] (Ŧ (mv 2)) (gN 0) fV (Į 9 "rows_of" 1 bj (mv 1) s!"u"))) (Â (Ď (ł [("_law_person",none),("_law_book",À 0)] (Ŧ (mv 3)) (gN 0) fV (Į 9 "hands_of" 1 aW (mv 1) s!"u"))) Ï))))))) _) [À (.ref B),none,À (.ref D),À (.ref C)] s=.rt w (s++j)/\Cl (s++j)/\Rp 0 (s++j) (told V) w by
  obtain⟨w,j,E,F,G⟩:=k _ t2;exact⟨w,T++j,by rw[<-Õ];exact E,by rw[<-Õ];exact F,by rw[<-Õ];exact G⟩
 clear L t2;intro s t;have U:=λ(s:S) (t:Td 0 B V W C D V.ps V.ws s)=>sP (b:=0) (l:=(þ V.ps).map Dt.str) t.p t.lp (mR A _) (h9 _ _);have rw_:=λ(s:S) (t:Td 0 B V W C D V.ps V.ws s)=>sP (b:=0) (l:=(þ V.ws).map Dt.str) t.w t.lw (mR L2 _) (h9 _ _);refine D_ (b:=0) (d:=.lst (tA V++[.lst ((þ V.ps).map λ_=>.lst [])])) (dn t.l (by simp[tA]) (sR (by simp[tA]) (bN (ft t.b.b.cl rfl (U _ t)) λe c=>bN (ft c rfl (rw_ _ (t.app c))) λj g=>bN (dn ((t.app c).app g).l (mR L2 _) (kl ((t.app c).app g).w g (qX L2) rfl λx u f o=>u_ (((t.app c).app g).app o).b.b s!"g" (G2 (((t.app c).app g).app o).b.b (nW.mp u)))) λJ i=>bN (dn (((t.app c).app g).app i).l (mR A _) (kl (((t.app c).app g).app i).p i (qX A) rfl λx u f o=>u_ ((((t.app c).app g).app i).app o).b.b s!"g" (by
  have:=C8 (ê _) ((((t.app c).app g).app i).app o).b.b (nW.mp u) (show 0<64 by lia);rw[QK]at this;exact this))) λ_ c=>sS c))) ?_
 intro v e c r;have t:=t.app c;clear c;generalize s++e=s at t r⊢;refine D_ (b:=0) (d:=.lst (tA V++[.lst ((þ V.ps).map λ_=>.lst [])]++[.lst ((þ V.ws).map λ_=>.Ĕ),.lst ((þ V.ps).map λ_=>.tup [.int 0,.int 1])])) (Ab t.l (by simp[tA]) (ft t.b.b.cl rfl r) λe c=>dn (t.app c).l (by simp) (sR (by simp) (bN (dn (t.app c).l (mR L2 _) (kl (t.app c).w c (qX L2) rfl λx u f o=>u_ ((t.app c).app o).b.b s!"g" (De ((t.app c).app o).b.b (nW.mp u)))) λj g=>bN (dn ((t.app c).app g).l (mR A _) (kl ((t.app c).app g).p g (qX A) rfl λx u f o=>u_ (((t.app c).app g).app o).b.b s!"g" (Gy (((t.app c).app g).app o).b.b (nW.mp u)))) λ_ c=>sS c))) ?_;intro v e c r;have t:=t.app c;clear c;generalize s++e=s at t r⊢;obtain⟨w,e,E,F,G⟩:=Ab (b:=0) (y:=Ď (Ŭ (Â (Į 9 "rate_list" 0 aw (mv 0) Ï) (Â (Į 9 "half_days" 0 au (mv 0) Ï) (Â (Į 9 "money_list" 0 Ž (mv 0) Ï) (Â (Į 9 "debt_list" 0 ar (mv 0) Ï) Ï)))))) (q:=[.lst [],.int 182,.lst [],.lst []]) (env:=[À (.ref B),À v,À (.ref D),À (.ref C)]) (a:=mv 1) t.l (by simp[tA]) (ft t.b.b.cl rfl r) λe c=>dn (t.app c).l (by simp) (sR (by simp) (bN (qY (t.app c).b.b s!"g" (by
  have:=B1 (ê _) (t.app c).b.b (show 0<64 by lia);rw[Oi]at this;exact this)) λj g=>bN (qY ((t.app c).app g).b.b s!"g" (QL ((t.app c).app g).b.b)) λJ i=>bN (qY (((t.app c).app g).app i).b.b s!"g" (by
  have:=zD (b:=0) (ê _) (((t.app c).app g).app i).b.b (show 0<64 by lia);rw[show(bo V).mn.map mD=[]from rfl,show(bo V).mn.map mE=[]from rfl,IE]at this;exact this)) λX M=>bN (qY ((((t.app c).app g).app i).app M).b.b s!"g" (by
  have:=A_ (b:=0) (ê _) ((((t.app c).app g).app i).app M).b.b (show 0<64 by lia);rw[show(bo V).db.map dD=[]from rfl,show(bo V).db.map dE=[]from rfl,IE]at this;exact this)) λ_ c=>sS c))
 exact⟨w,e,by unfold Č;exact(ğ (λz=>R.aQ z λv s=>RS.rt v s) E),F,G⟩
end
end Ro
set_option maxHeartbeats 400000
namespace Ro
open PySem L2 Mm
def F9 {b:Gd}(d:r3 b s):az e c elt b [] env s a=.ok a s:=by unfold az;exact Ò d
def G7 (h:ù s i=À [])(e:m env s=.ok (.ref i) s):r9 m env s=.ok [] s:=by
 unfold r9;rw[e,ï];dsimp only;rw[h,ø,Ò ⟨rfl,.nil,by decide⟩];simp
def lcL (e:r env s=.ok [] s):ł l (n8 r) b a elt env s=.ok [] s:=by
 unfold ł n8;rw[e,ï,ï];dsimp only;rw[Ò (xM (by simp)),fW]
def zr (h:ù s i=À []):Ľ [.ref i] s=.ok s!"h" (s++[.lst []]):=by
 have d:r3 [(i,[])] s:=λp e=>by rw[ò.mp e];exact h
 have a:DX (mv 0) [À (AV.ref i)] s=.ok ([],[(i,[])]) s:=by
  unfold DX;rw[rj,ï];show(need ((ù s i).map λxs=>(xs,[(i,xs)])) λp=>R.ok (yd p.1,p.2) s)=_;rw[h];rfl
 have b:r4 (ł [("_law_k",none),("_law_one",none)] (DX (mv 0)) s!"v" fV (Ť (Â (Ç ì (mv 1) s!"d") s!"u"))) [À (AV.ref i)] s=.ok [] s:=by
  unfold r4 ł;rw[a,ï];dsimp only;rw[Ò (xM (by simp)),F9 d,ï,Ò ⟨rfl,by decide⟩];simp[pick,Bw]
 have c:ł [("_law_day",none),("_law_k",none),("_law_some",À 0)] (n8 (r4 (ł [("_law_k",none),("_law_one",none)] (DX (mv 0)) s!"v" fV (Ť (Â (Ç ì (mv 1) s!"d") s!"u"))))) s!"v" fV (Ç ì (mv 2) (mv 1)) [À (AV.ref i)] s=.ok [] s:=by
  exact lcL b
 unfold Ľ iv;exact da (env:=[À (.ref i)]) (by unfold Č;rw[eF c];rfl)
section
variable {B:Nat}{V W:Wl}{s:S}
theorem Ws.set (h:Ws B V W s)(d:B+17<=i)(lo:o.low s.length=true):Ws B V W (s.set i o):=by
 have a:=h.b.b0;refine⟨⟨h.b.at_.keep λj _ c=>Û (by have:(mid B (bo V)).length=8:=rfl;lia),h.b.cl.set lo,by rw[Û (by lia)];exact h.b.t0,a⟩,h.w.keep λj _ c=>Û (by have:(wm B W).length=9:=rfl;lia)⟩
def M4 (h:Ws B V W s){i:Nat}(a:(wm B W)[i]?=À (.lst [])):ù s (B+8+i)=À []:=dY (h.w.at a)
def Uw (h:Ws B V W s){i:Nat}(a:(wm B W)[i]?=À (.dK [])):kH s (B+8+i)=À []:=kI (h.w.at a)
structure Un (B:Nat)(V W:Wl)(s:S)(f ip iw:Nat)(L:Á Dt)(its:Á AV)(st:S):Prop where
 td:Td 0 B V W ip iw W.ps W.ws st
 ex:∃e,st=s++e
 fl:s.length<=f/\B+17<=f
 np:ip≠f
 nw:iw≠f
 hf:ù st f=À its
 rp:∀o,bu 0 (st.set f o) L its
def Ed {its:Á AV}{L:Á Dt}{d:Dt}(h:Un B V W s f A C L its st)(hl:its.length<900)(t:Tl (f+1) m env st d) (em:∀s,mv 1 env s=.ok (.ref f) s) {rest:Ms}{N:En->S->Prop}{T:AV->S->Prop}(k:∀a g,a.length=its.length+1->Un B V W s f A C (L++[d]) a g->(rest env g).wp N T):(ã (į (gg "list" Ő (mv 1) (Â m Ï))) rest env st).wp N T:=by
 obtain⟨v,e,q,c,r⟩:=t;have j:=ao (e:=e) h.hf;have l:f<st.length:=(Æ.mp (ċ h.hf)).1;have x:į (gg "list" Ő (mv 1) (Â m Ï)) env st=.nx env ((st++e).set f (.lst (its++[v]))):=by
  refine lY (v:=.Ĕ) ?_;unfold gg;rw[em st,ï];obtain⟨u,y⟩:=aN.mp (mh h.hf);rw[y,ø];unfold Â Ï;rw[q,ï,ï,ï];exact append_at j (Ŕ (by lia))
 rw[ĕ x];have n:∀o,bu 0 ((st++e).set f o) (L++[d]) (its++[v]):=λo=>by
  rw[Ho _ _ l];refine((h.rp o).app e).append (.one ?_);rw[<-Ho _ _ l];exact(r.up λi xs E z=>dY (by rw[Û (by lia)];exact ċ z)).zero
 have lo:(AO.lst (its++[v])).low (st++e).length=true:=by
  have:=(n (.lst its)).low;rw[ŵ]at this;exact this
 have t:=h.td.app c;refine k (its++[v]) _ (by simp) ⟨⟨t.b.set h.fl.2 lo,ê _,t.lp,t.lw,dY (by rw[Û (ō h.np)];exact ċ t.p),dY (by rw[Û (ō h.nw)];exact ċ t.w)⟩,?_,h.fl,h.np,h.nw,qH j,λo=>by rw[List.set_set];exact n o⟩;obtain⟨D,rfl⟩:=h.ex;exact⟨_,by rw[Õ,dv _ _ h.fl.1]⟩
def Uy (h:Ws B V W s)(G:W.ps.length<64)(L2:W.ws.length<64):(aI [.ref (B+14)] s).wp λv s'=>∃e,s'=s++e/\Cl s'/\Rp 0 s' (told W) v:=by
 have Z:Cl (s++[.lst ((þ W.ws).map AV.str)]):=jj (b:=0) (l:=(þ W.ws).map Dt.str) h.b.cl (h9 _ _);have T:=h.app Z;have Q:Cl (s++[.lst ((þ W.ws).map AV.str)]++[.lst ((þ W.ps).map AV.str)]):=jj (b:=0) (l:=(þ W.ps).map Dt.str) Z (h9 _ _);have h2:=T.app Q;have t2:Td 0 B V W (s++[AO.lst ((þ W.ws).map AV.str)]).length s.length W.ps W.ws (s++[.lst ((þ W.ws).map AV.str)]++[.lst ((þ W.ps).map AV.str)]):=⟨h2,ê _,ê _,ê _,Ę _ _,ao (Ę _ _)⟩
 have a1:Ď (l6 (Ç ô (mv 0) s!"m")) [À (.ref (B+14)),none,none,none] s=.ok s!"h" (s++[.lst ((þ W.ws).map AV.str)]):=eF (zE (jx h) L2 (qd (m:=mv 0) h (jN B) rfl));have a2:Ď (pO (Ç ô (mv 0) (mc (.str "people")))) [À (.ref (B+14)),none,none,none] (s++[.lst ((þ W.ws).map AV.str)])=.ok (.ref (s++[AO.lst ((þ W.ws).map AV.str)]).length) (s++[.lst ((þ W.ws).map AV.str)]++[.lst ((þ W.ps).map AV.str)]):=eF (Ot (ow T) G (qd (m:=mv 0) T (sW B) rfl));have e0:Â (Ď (l6 (Ç ô (mv 0) s!"m"))) (Â (Ď (pO (Ç ô (mv 0) (mc (.str "people"))))) Ï) [À (.ref (B+14)),none,none,none] s=.ok [.ref s.length,.ref (s++[AO.lst ((þ W.ws).map AV.str)]).length] (s++[.lst ((þ W.ws).map AV.str)]++[.lst ((þ W.ps).map AV.str)]):=by
  unfold Â;rw[a1,ï,a2,ï];rfl
 have hB:=h.len;unfold aI jt;rw[WS.2.2.2.2.2.2.2.2.2.2.2.2.2.2.2.1];show(ã _ _ [À (.ref (B+14)),none,none,none] s).wp _ _;rw[ĕ (DJ e0)];clear e0 a1 a2 Z T h2;show(ã _ _ [À (.ref (B+14)),none,À s!"h",À (.ref (s++[AO.lst ((þ W.ws).map AV.str)]).length)] _).wp _ _;have C:∃e,s++[.lst ((þ W.ws).map AV.str)]++[.lst ((þ W.ps).map AV.str)]=s++e:=⟨_,by rw[Õ]⟩
 generalize s++[.lst ((þ W.ws).map AV.str)]++[.lst ((þ W.ps).map AV.str)]=k at t2 Q C⊢;have N:(s++[AO.lst ((þ W.ws).map AV.str)]).length<k.length:=(Æ.mp (ċ t2.p)).1;have F:s.length<k.length:=(Æ.mp (ċ t2.w)).1;have sl:s.length<=k.length:=ę F;generalize (s++[AO.lst ((þ W.ws).map AV.str)]).length=D at t2 N⊢;generalize hiw:s.length=E at t2 F⊢;have rp:=sP (b:=0) (l:=(þ W.ps).map Dt.str) t2.p t2.lp (mR G _) (h9 k _);have rw_:=sP (b:=0) (l:=(þ W.ws).map Dt.str) t2.w t2.lw (mR L2 _) (h9 k _);have tl:L_ 0 (Ŭ (Â (mv 3) (Â (mv 2) (Â (Ď (ł [("_law_work",none),("_law_world_here",À 0)] (Ŧ (mv 2)) (gN 0) fV (Ç ô (Ç ô (mv 1) s!"m") (mv 0)))) Ï)))) [À (.ref (B+14)),none,À (.ref E),À (.ref D)] k (tA W):=sR (by simp[tA]) (bN (ft Q rfl rp) λe c=>bN (ft c rfl (rw_.app e)) λA n=>bN (dn (ê _) (mR L2 _) (kl ((t2.app c).app n).w n (qX L2) rfl λx U f cf=>ft cf ((di (qd (m:=mv 1) (((t2.app c).app n).app cf).b (jN B) rfl) (w:=.str x) rfl).trans (Bb (jx (((t2.app c).app n).app cf).b) (wM (nW.mp U)))) (Pv.h _ _ _))) λ_ c=>sS c);obtain⟨P,H,e4,c3,Y⟩:=tl;rw[ĕ (p9 (eF e4))];have t3:=t2.app c3;have c4:=jj c3 Y;have ln:=Y.length;have u:Un B V W s (k++H).length D E (tA W) P (k++H++[.lst P]):=⟨t3.app c4,by obtain⟨e,he⟩:=C;exact⟨e++H++[.lst P],by rw[he];simp⟩,⟨by rw[è];lia,by rw[è];lia⟩,ñ (by rw[è];lia),ñ (by rw[è];lia),Ę _ _,λo=>by
  rw[dv _ _ (Í _),oG];exact Y.app _⟩
 have li:P.length=3:=by rw[<-ln];rfl
 show(ã _ _ [À (.ref (B+14)),À (.ref (k++H).length),À (.ref E),À (.ref D)] _).wp _ _;generalize k++H++[.lst P]=st at u⊢;generalize (k++H).length=f at u⊢;clear t3 c4 ln Y c3 e4 t2 rp rw_ N F C Q sl;have X:=λ{L its st} (u:Un B V W s f D E L its st)=>(show f+1<=st.length from(Æ.mp (ċ u.hf)).1)
 refine Ed u (by lia) (d:=.lst ((þ W.ps).map λ_=>.lst [])) (dn (X u) (mR G _) (kl u.td.p u.td.b.b.cl (qX G) rfl λx U q j=>dn (le_app (X u) q) (by simp) ⟨[],[],by rw[Ġ];exact G8 (GC (M4 (i:=2) (u.td.app j).b rfl) (qd (m:=mv 1) (u.td.app j).b rfl rfl)),by rw[Ġ];exact j,.nil⟩)) (λ_=>rfl) λit1 st1 l1 I=>?_;refine Ed I (by lia) (d:=.lst ((þ W.ws).map λ_=>.Ĕ)) (dn (X I) (mR L2 _) (kl I.td.w I.td.b.b.cl (qX L2) rfl λx U q j=>ft j (EO (x:=x) (Uw (i:=3) (I.td.app j).b rfl) (qd (m:=mv 1) (I.td.app j).b rfl rfl) rfl) (wt _))) (λ_=>rfl) λit2 st2 l2 J=>?_;refine Ed J (by lia) (d:=.lst ((þ W.ps).map λ_=>.tup [.int 0,.int 1])) (dn (X J) (mR G _) (kl J.td.p J.td.b.b.cl (qX G) rfl λx U q j=>ft j (MK (x:=x) (z:=.tup [.int 0,.int 1]) (Uw (i:=5) (J.td.app j).b rfl) (qd (m:=mv 1) (J.td.app j).b rfl rfl) rfl rfl) (fC (by simp) (.cons (eJ _ _) (.one (eJ _ _)))))) (λ_=>rfl) λM g l3 O=>?_;have r6:Rp 0 g (.lst (tA W++[.lst ((þ W.ps).map λ_=>.lst [])]++[.lst ((þ W.ws).map λ_=>.Ĕ)]++[.lst ((þ W.ps).map λ_=>.tup [.int 0,.int 1])])) (.ref f):=by
  have:=O.rp (.lst M);rw[show g.set f (.lst M)=g by
   obtain⟨hi,e⟩:=Æ.mp (ċ O.hf)
   rw[<-e];exact List.set_getElem_self hi]at this
  exact sP O.hf (ê _) (by simp[tA]) this
 have fin:∃w A,(ã (ņ 1 (Ç ť (mv 1) (Ď (Ŭ (Â (Ď (r9 (Ç ô (mv 0) (mc (.str "rates"))))) (Â (Ç ô (mv 0) (mc (.str "half"))) Ï)))))) (Č (Ç ť (mv 1) (Ď (Ŭ (Â (Ď (gf (å 1 Ľ (Â (Ç ô (mv 0) (mc (.str "money"))) Ï)))) (Â (Ď (gf (å 1 Ľ (Â (Ç ô (mv 0) (mc (.str "debts"))) Ï)))) Ï))))))) [À (.ref (B+14)),À (.ref f),À (.ref E),À (.ref D)] g=.rt w (g++A)/\Cl (g++A)/\Rp 0 (g++A) (.lst (tA W++[.lst ((þ W.ps).map λ_=>.lst [])]++[.lst ((þ W.ws).map λ_=>.Ĕ)]++[.lst ((þ W.ps).map λ_=>.tup [.int 0,.int 1])]++[.lst [],.int 182]++[.lst [],.lst []])) w:=by
  have t:=O.td;refine D_ (b:=0) (d:=.lst (tA W++[.lst ((þ W.ps).map λ_=>.lst [])]++[.lst ((þ W.ws).map λ_=>.Ĕ)]++[.lst ((þ W.ps).map λ_=>.tup [.int 0,.int 1])]++[.lst [],.int 182])) (Ab (ê _) (by simp[tA]) (ft t.b.b.cl rfl r6) λe c=>dn (ê _) (by simp) (sR (by simp) (bN (dn (ê _) (by simp) ⟨[],[],by rw[Ġ];exact G7 (M4 (i:=4) (t.app c).b rfl) (qd (m:=mv 0) (t.app c).b rfl rfl),by rw[Ġ];exact c,.nil⟩) λA n=>bN (ft n (qd (m:=mv 0) ((t.app c).app n).b (v:=.int 182) rfl rfl) (eJ _ _)) λ_ c=>sS c))) ?_;intro v e c r;have t:=t.app c;clear c;generalize g++e=s7 at t r⊢;have io:∀{st:S}{i:Nat},Ws B V W st->ù st i=À []->∀{x:Str},a6 (PY B) (.inr x)=À (.ref i)->L_ 0 (gf (å 1 Ľ (Â (Ç ô (mv 0) (mc (.str x))) Ï))) [À (.ref (B+14)),À v,À (.ref E),À (.ref D)] st []:=λ{st i} w hi {x} hv=>⟨[],[],by
   rw[Ġ];exact B9 (t:=[.lst []]) w.b.cl rfl ((nI (qd (m:=mv 0) w hv rfl)).trans (zr hi)) (Ę _ _) (Í _),by rw[Ġ];exact w.b.cl,.nil⟩
  obtain⟨w,e,k1,k2,k3⟩:=Ab (b:=0) (y:=Ď (Ŭ (Â (Ď (gf (å 1 Ľ (Â (Ç ô (mv 0) (mc (.str "money"))) Ï)))) (Â (Ď (gf (å 1 Ľ (Â (Ç ô (mv 0) (mc (.str "debts"))) Ï)))) Ï)))) (q:=[.lst [],.lst []]) (env:=[À (.ref (B+14)),À v,À (.ref E),À (.ref D)]) (a:=mv 1) (ê _) (by simp[tA]) (ft t.b.b.cl rfl r) λe c=>dn (ê _) (by simp) (sR (by simp) (bN (dn (ê _) (by simp) (io (t.app c).b (M4 (i:=7) (t.app c).b rfl) rfl)) λA n=>bN (dn (ê _) (by simp) (io ((t.app c).app n).b (M4 (i:=8) ((t.app c).app n).b rfl) rfl)) λ_ c=>sS c));exact⟨w,e,by unfold Č;exact(ğ (λz=>R.aQ z λv s=>RS.rt v s) k1),k2,k3⟩
 obtain⟨w,A,k1,k2,k3⟩:=fin;rw[k1];obtain⟨e5,he⟩:=O.ex;refine⟨e5++A,by rw[he,Õ],k2,?_⟩;have:told W=.lst (tA W++[.lst ((þ W.ps).map λ_=>.lst [])]++[.lst ((þ W.ws).map λ_=>.Ĕ)]++[.lst ((þ W.ps).map λ_=>.tup [.int 0,.int 1])]++[.lst [],.int 182]++[.lst [],.lst []]):=by unfold told;simp
 rw[this];exact k3
end
def Ya (h:(b (À v::À w::À x::â (n-3) none) s).wp (λ_ s1=>Q .Ĕ s1) Q):(bH n b [v,w,x] s).wp Q:=by rw[WS.2.2.2.2.2.2.2.2.2.2.2.2.2.2.2.2.2];exact h
def Ny:([]++zG).Nodup:=by decide+kernel
def JP (D:Dr c d n s)(G:n<=900000000)(k0:0<=k)(k1:k<=20):(dS [.ref d,.int k] s).wp λv s'=>∃(j:Nat) (a:Á Str),v=.ref j/\s.length<=j/\ù s' j=À (a.map AV.str)/\(a.length:Int)=k/\(∀z∈a,z∈zG)/\a.Nodup/\Dr c d (n+20) s'/\Gk c d s s':=by
 have J:=D.Cs;have ld:=D.Dl;unfold dS lU;simp?[↓ra,↓a7 (Ow _),show ∀s:S,(kL "str" (.str "b aa zebra c quartzes ab m knows d mm likes z ba abcdefgh y zz e x f g hh jj kk pave") s).isSome=true from λ_=>rfl];refine⟨⟨by lia,by lia⟩,xM (by simp[n7];lia),?_⟩;refine om (λxs e f st=>∃(b a:Á Str) (x:Ë AV),e=a.map AV.str/\ù st s.length=À (b.map AV.str)/\(xs.length:Int)+a.length=k/\b.length+a.length=24/\(∀z∈b,z∈zG)/\(∀z∈a,z∈zG)/\(a++b).Nodup/\f=[x,À s!"h",À (.ref d)]/\Dr c d (n+a.length) st/\Gk c d s st) ?_ ?_ ?_ _ _ _ _ ⟨zG,[],none,rfl,Ę _ _,by simp[n7];lia,by rw[JV];rfl,λ_ h=>h,(λ_ h=>nomatch h),Ny,rfl,D.app (D.cl.add (by simp[AO.low,bM])),Gk.app c d s _⟩
 ·rintro _ _ _ st _ p E;cases E
 ·rintro e f st ⟨b,a,x,rfl,o,g,F,q,t,nd,rfl,A,B⟩;refine⟨st.length,a,rfl,B.len,Ę _ _,by simpa using g,t,(uM.mp nd).1,?_,B.trans (Gk.app c d st _)⟩;have g:((0:Nat):Int)+a.length=k:=g;exact(A.app (A.cl.add (by simp[AO.low,bM]))).mono (by lia)
 ·rintro v r e f st ⟨b,a,x,rfl,o,g,F,q,t,nd,rfl,A,B⟩;have g:((r.length+1:Nat):Int)+a.length=k:=g;simp?[mh o,↓a7 (pV o),É];refine(take1 A).mono ?_;rintro _ i ⟨j,rfl,H,I,D2,C⟩;have u:=C.gk.lst (n:=0) (by lia) (by lia) o;obtain⟨m,rfl⟩:∃m:Nat,j=m:=⟨j.toNat,by lia⟩
  have l:m<b.length:=by lia
  have w:BS s!"h" [.int m] i=.ok (.str b[m]) (i.set s.length (.lst ((b.eraseIdx m).map AV.str))):=by
   show(need (ù i s.length) λxs=>if 0<=(m:Int)/\(m:Int)<xs.length then need xs[(m:Int).toNat]? λy=>R.ok y (i.set s.length (.lst (xs.eraseIdx (m:Int).toNat)))else .bad)=_;rw[u,ø,Ò ⟨by lia,by rw[É];lia⟩];show(need (b.map AV.str)[m]? λy=>R.ok y (i.set s.length (.lst ((b.map AV.str).eraseIdx m))))=_;rw[î,Å l];show R.ok (AV.str b[m]) _=_;rw[IG]
  rw[a7 w];refine⟨b.eraseIdx m,a++[b[m]],_,by simp,qH u,by simp;lia,?_,λz hz=>q z (List.mem_of_mem_eraseIdx hz),λz hz=>?_,?_,rfl,?_,(B.trans C.gk).set (Í _)⟩
  ·rw[List.length_eraseIdx_of_lt l];simp;lia
  ·rcases ķ.mp hz with hz|hz
   ·exact t z hz
   ·rw[ò.mp hz];exact q _ (e9 l)
  ·rw[Õ];refine(List.Perm.append_left a ?_).nodup nd;exact(EE b m l).symm
  ·exact(D2.mono (by simp;lia)).set (by lia) (by lia) (bM _ _)
def JW:∀z∈zG,z.length<=1000:=by
 have:(zG.all λz=>decide (z.length<=1000))=true:=by decide+kernel
 exact λz a=>š (Ā.mp this z a)
def PD {c d n:Nat}{s:S}(D:Dr c d n s)(t:n<=900001000){xs:Á AV}{m:Int}(r:m=xs.length)(l:0<m)(o:m<=10){P:AV->Prop}(g:∀v∈xs,P v/\∀b,v.low b=true) :
  (á [.ref d,.int m] (s++[.lst xs])).wp λv a=>∃b,ì s!"h" v a=.ok b a/\P b/\b.low s.length=true/\(a.take s.length).all (AO.low s.length)=true/\Dr c d (n+1) (a.take s.length)/\Kp c d s (a.take s.length):=by
 have q:∀b,Ŀ b xs=true:=λb=>lB λv f=>(g v f).2 b;have A:=D.app (e:=[.lst xs]) (D.cl.add (by simp[AO.low,q]));refine(take1 A).mono ?_;rintro _ a ⟨j,rfl,p,u,D2,B⟩;obtain⟨v,f,k⟩:=tR (s:=a) (i:=s.length) (j:=j) (B.gk.lst (n:=0) (by have:=D.Cs;lia) (by have:=D.Dl;lia) (Ę s _)) p (by lia);obtain⟨C,E,h⟩:=((Gk.app c d s _).trans B.gk).cut D D2;exact⟨v,k,(g v f).1,(g v f).2 _,h,C,E⟩
def Pz {c d n i:Nat}{s:S}(D:Dr c d n s)(q:n<=900000000){l:Á Str}(hl:ù s i=À (l.map AV.str)) (h0:0<l.length)(p:l.length<=1000)(k:i≠c)(e:i≠d):(cq [.ref d,.ref i] s).wp λv s'=>∃x,v=.str x/\x∈l/\Dr c d (n+1) s'/\Kp c d s s':=by
 unfold cq rR;simp?[↓a7 (pV hl),É];refine(take1 D).mono ?_;rintro _ a ⟨j,rfl,m,o,B,A⟩;obtain⟨v,g,f⟩:=tR (s:=a) (i:=i) (j:=j) (A.gk.lst (n:=0) k e hl) m (by rw[É];exact o);obtain⟨x,h,rfl⟩:=ň.mp g;have b:(need (ù a i) λxs=>need (mG xs j) λv=>R.ok v a)=.ok (.str x) a:=f;simp?[↓a7 b];exact⟨x,rfl,h,B,A⟩
def OL (i j k:Nat)(a b c:Ev)(env:En)(s:S)(N:En->S->Prop)(T:AV->S->Prop):(B3 i j k (Â a (Â b (Â c Ï))) env s).wp N T=(a env s).wp λv s1=>(b env s1).wp λw d=>(c env d).wp λz e=>N (((env.set i (À v)).set j (À w)).set k (À z)) e:=by
 unfold B3 Â Ï;cases a env s with
 |ok v s1=>
  simp only[ï,wR];cases b env s1 with
  |ok w d=>
   simp only[ï,wR];cases c env d<;>rfl
  |ex c s1=>rfl
  |bad=>rfl
 |ex c s1=>rfl
 |bad=>rfl
def Qr {c d n:Nat}{s:S}(D:Dr c d n s)(i:n<=800000000):(aJ [.ref d] s).wp λv s'=>∃k:Int,v=.int k/\Dr c d (n+4) s'/\Kp c d s s':=by
 unfold aJ ju;walk_at"w";refine(take1 D).mono ?_;rintro _ j ⟨a,rfl,_,_,E,A⟩;refine(take1 E).mono ?_;rintro _ l ⟨b,rfl,_,_,D2,B⟩;refine(take1 D2).mono ?_;rintro _ m ⟨e,rfl,_,_,F,C⟩;rw[<-A.len,<-B.len,<-C.len];refine(PD F (by lia) (P:=λv=>∃b,v=.int b) rfl (by simp) (by simp) ?_).mono ?_
 ·intro v f;simp only[Þ,ü,Ź]at f;rcases f with rfl|rfl|rfl<;>exact⟨⟨_,rfl⟩,λb=>by simp[AV.low]⟩
 rintro _ o ⟨v,h,⟨k,rfl⟩,lo,g,G,H⟩;simp?[↓a7 h,g,lo];exact⟨k,rfl,G.mono (by lia),((A.trans B).trans C).trans H⟩
def UW (h:c env s=.ok false s)(k:(b env s).wp N T):(ã (a5 c a ĉ) b env s).wp N T:=by
 unfold ã;rw[jK h];exact k
def V6 (h:(m env s).wp λv s1=>(b (env.set i (À v)) s1).wp N T):(ã (ņ i m) b env s).wp N T:=by
 obtain⟨v,s1,e,k⟩:=h.get;unfold ã ņ;rw[e];exact k
def PQ (h:ù s i=À xs):zN (.ref i) lo a s=.ok s!"h" (s++[.lst (fI xs lo a)]):=by
 show(need (ù s i) λxs=>R.ok (AV.ref s.length) (s++[.lst (fI xs lo a)]))=_;rw[h];rfl
def Ml (h:x∈fI l lo a):x∈l:=by
 unfold fI at h;exact List.mem_of_mem_drop (Hn h)
def A8 (xs:Á α)(k:Nat):fI xs none (À (k:Int))=xs.take k:=by
 unfold fI;rw[HT.KC,HT.Ol,Ts,XA,<-List.take_eq_take_min]
def QN (h:c env s=.ok true s)(k:(a env s).wp (λe s1=>(b e s1).wp N T) T):(ã (a5 c a ĉ) b env s).wp N T:=by
 rw[WS.1,m_ h];exact k
def Mi (xs:Á α)(lo a:Ë Int):(fI xs lo a).length<=xs.length:=by
 unfold fI;rw[Ũ,xa];lia
def Mj (f:α->b)(l:Á α)(lo a:Ë Int):fI (l.map f) lo a=(fI l lo a).map f:=by
 unfold fI;rw[É,<-TZ,<-ry]
def Mr {c d n i:Nat}{s:S}(D:Dr c d n s)(hn:n<=700000000){l:Á Str}(hl:ù s i=À (l.map AV.str)) (h0:0<l.length)(h1:l.length<=90)(j:i≠c)(b:i≠d):(fF [.ref d,.ref i,.str "rows"] s).wp λv s'=>∃(x:Str) (rs:Á Rw),v=.tup [.str "rows",.str x,.tup s!"f"]/\x∈l/\(∀r∈rs,vm r/\r.nm∈l)/\rs.length<=20/\Dr c d (n+300) s'/\Gk c d s s':=by
 unfold fF nE;refine Ya ?_;rw[WS.1];generalize ã (a5 (cB (Ç Ş (mv 2) (mc (.str "hand")))) _ _) _=tl;rw[OL];refine((show å 2 cq (Â (mv 0) s!"t") [À (.ref d),À (.ref i),À (.str "rows"),none,none,none,none,none,none,none] s=cq [.ref d,.ref i] s from rfl)▸Pz D (by lia) hl h0 (by lia) j b).mono ?_;rintro _ w ⟨x,rfl,o,I,C⟩;refine((show å 2 cq (Â (mv 0) s!"t") [À (.ref d),À (.ref i),À (.str "rows"),none,none,none,none,none,none,none] w=cq [.ref d,.ref i] w from rfl)▸Pz I (by lia) (C.gk.lst (n:=0) j b hl) h0 (by lia) j b).mono ?_;rintro _ H ⟨y,rfl,hy,D2,P⟩;refine((show å 1 aJ s!"u" [À (.ref d),À (.ref i),À (.str "rows"),none,none,none,none,none,none,none] H=aJ [.ref d] H from rfl)▸Qr D2 (by lia)).mono ?_;rintro _ f ⟨k,rfl,A,Q⟩;have K:=(C.trans P).trans Q;have m:=K.gk.lst (n:=0) j b hl;have lc:=A.Cs;have ld:=A.Dl;show(ã _ _ [À (.ref d),À (.ref i),À (.str "rows"),none,none,À (.str x),À (.str y),À (.int k),none,none] f).wp _ _;refine UW (show cB (Ç mq (mv 2) (Ť (Â (mc (.str "person")) (Â (mc (.str "work")) Ï)))) [À (.ref d),À (.ref i),À (.str "rows"),none,none,À (.str x),À (.str y),À (.int k),none,none] f=.ok false f from rfl) ?_;refine QN (by rfl) ?_;refine V6 ?_;have X:Cl (f++[.lst ((l.take 7).map AV.str)]):=A.cl.add (by simp only[Ķ,c6,AO.low,br];exact bM _ _);have Y:zN (.ref i) none (À 7) f=.ok (.ref f.length) (f++[.lst ((l.take 7).map AV.str)]):=by
  rw[PQ m,show fI (l.map AV.str) none (À 7)=_ from A8 _ 7,ry]
 simp?[↓a7 Y];refine(take1 (A.app X)).mono ?_;rintro _ s4 ⟨q,rfl,q0,a,J,E⟩;have l4:ù s4 f.length=À ((l.take 7).map AV.str):=E.gk.lst (n:=0) (by lia) (by lia) (Ę _ _);have u:(l.take 7).length=min 7 l.length:=Ũ;refine(G1 J (by lia) l4 (by intro z;rw[z]at u;simp at u;lia) (by lia) (by lia) (by lia) q0 (by lia)).mono ?_;rintro _ s5 ⟨rs,rfl,hr,hrl,L,O⟩;have G:=((K.gk.trans (Gk.app c d f _)).trans E.gk).trans O;have hr:∀r∈rs,vm r/\r.nm∈l:=λr h=>⟨(hr r h).1,Hn (hr r h).2⟩
 refine(take1 L).mono ?_;rintro _ s6 ⟨p,rfl,p0,p1,B,F⟩;walk_at"w";split
 ·refine(u6 B (by lia)).mono ?_;rintro _ s7 ⟨a,rfl,_,_,z1,M,T⟩;refine(u6 M (by lia)).mono ?_;rintro _ g ⟨e,rfl,_,_,z2,N,U⟩;have Z:ť (.tup s!"f") (.tup [.tup [.str "of",.str y,fq a],.tup [.str "of",.str x,fq e]]) g=.ok (.tup ((rs++[Rw.of y a,Rw.of x e]).map rv)) g:=by
   show(if ([rv (.of y a),rv (.of x e)]:Á AV)≠[]/\s!"f".length+2<=sizeLine then R.ok (AV.tup (rs.map rv++[rv (.of y a),rv (.of x e)])) g else .bad)=_;rw[Ò ⟨by simp,xM (by rw[É];lia)⟩,ŉ];rfl
  have es:zN (.tup ((rs++[Rw.of y a,Rw.of x e]).map rv)) (À (-8)) none g=.ok (.tup ((fI (rs++[Rw.of y a,Rw.of x e]) (À (-8)) none).map rv)) g:=by
   show R.ok (AV.tup (fI ((rs++[Rw.of y a,Rw.of x e]).map rv) (À (-8)) none)) g=_;rw[Mj]
  have t:=Mi (rs++[Rw.of y a,.of x e]) (À (-8)) none;rw[è]at t;have t:(fI (rs++[Rw.of y a,.of x e]) (À (-8)) none).length<=rs.length+2:=t;rw[a7 Z,a7 es];refine⟨x,_,rfl,o,λr h=>?_,by lia,N.mono (by lia),((G.trans F.gk).trans T.gk).trans U.gk⟩;rcases ķ.mp (Ml h)with h|h
  ·exact hr r h
  ·simp only[Þ,ü,Ź]at h;rcases h with rfl|rfl
   ·exact⟨z1,hy⟩
   ·exact⟨z2,o⟩
 ·exact⟨x,rs,rfl,o,hr,by lia,B.mono (by lia),G.trans F.gk⟩
def Kv [oh κ] (k:κ)(v:AV)(l:Á (κ×AV)):(lE l k v).length<=l.length+1:=by
 unfold lE;split<;>simp
def La (s:S)(e:s.length=B+8):cG [] s=.ok (.ref (B+14)) (s++[.lst [],.dK [],.lst [],.dK [],.lst [],.dK [],.dK (PY B),.lst [],.lst []]):=by
 have f:gD [((mc (.str "people")),(Ď (Ŭ Ï))),(s!"m",Dm),((mc (.str "hands")),(Ď (Ŭ Ï))),((mc (.str "known")),Dm),((mc (.str "rates")),(Ď (Ŭ Ï))),((mc (.str "keeps")),Dm),((mc (.str "half")),(mc (.int 182)))] [none] s=.ok (.ref (B+14)) (s++[.lst [],.dK [],.lst [],.dK [],.lst [],.dK [],.dK [(.inr "people",.ref (B+8)),(.inr "works",.ref (B+9)),(.inr "hands",.ref (B+10)),(.inr "known",.ref (B+11)),(.inr "rates",.ref (B+12)),(.inr "keeps",.ref (B+13)),(.inr "half",.int 182)]]):=by
  have i:∀(t:S) (env:En),Ď (Ŭ Ï) env t=.ok (.ref t.length) (t++[.lst []]):=λt env=>by
   apply R.wp.eq;walk_at"w"
  have ld:∀(t:S) (env:En),Dm env t=.ok (.ref t.length) (t++[.dK []]):=λt env=>rfl;unfold gD;simp only[Fo,mc,ï,i,ld,qF,gb,aD,bQ,ø,Õ,bw,bb,è,ć,df,e];rw[Ò (by show(7:Nat)<=15;lia)];rfl
 have g:∀(t:S) (o:AO),(s++(t++[o]))[s.length+t.length]?=À o:=λt o=>by
  rw[ç (by lia),ç (by lia)];rw[show s.length+t.length-s.length-t.length=0 by lia];rfl
 have rs_eq:∀{r:RS}{a:AV}{t:S},r.wp (λ_ _=>False) (λv s'=>v=a/\s'=t)->r=.rt a t:=λ{r a t} h=>by
  cases r with
  |rt v s'=>obtain⟨rfl,rfl⟩:=h;rfl
  |_=>exact h.elim
 unfold cG lW;refine da (env:=[none]) (rs_eq ?_);simp?[↓a7 f];have A:∀(t:S),(s++t).length=s.length+t.length:=λt=>è;have d:∀(t:S) (c:Á (Key×AV)),kH (s++[.lst [],.dK [],.lst [],.dK [],.lst [],.dK [],.dK c]++t) (B+14)=À c:=λt c=>kI (by
  rw[Õ,ç (by lia),show B+14-s.length=6 by lia];rfl)
 have st:∀(t:S) (a b:AO),(s++[.lst [],.dK [],.lst [],.dK [],.lst [],.dK [],a]++t).set (B+14) b=s++[.lst [],.dK [],.lst [],.dK [],.lst [],.dK [],b]++t:=λt a b=>by
  rw[Õ,Õ,dv _ _ (by lia),show B+14-s.length=6 by lia];rfl
 rw[wQ];unfold vG;simp?[cy];rw[Õ,Lg (DP (d _ _) (by show 7<1000;lia)),st];simp?[↓wQ,cy];rw[Lg (DP (d _ _) (by
  refine bI (Kv _ _ _) (by show 7+1<1000;lia))),st]
 walk_at"w";simp only[è,ć,df,e];rw[Õ];rfl
theorem fX:∀{l:Á α},(∀a∈l,(f a).dep<=k)->aH (l.map f)<=k
 |[],_=>by simp[aH]
 |a::r,h=>by
  rw[Î];have d:=h a (.head _);have e:=fX (l:=r) λb c=>h b (.tail _ c);simp only[aH];lia
structure Hd (r:R AV)(Q:AV->S->Prop):Prop where
 run:r.wp Q
def Hd.to (h:Hd r P)(k:∀v s,P v s->Q v s):r.wp Q:=h.run.mono k
section
variable {B:Nat}{V W:Wl}{s:S}
def EL (h:Ws B V W s)(a:¬(x∈W.ps∨x∈W.ws)) (l:ù s j=À [.str x]):Aq (cB (Ç mq (Ç ì (mv 3) s!"c") (mv 4))) (cB (Ç lD (Ç ì (mv 3) s!"c") (mv 5))) (eD B d w j) s=.ok false s:=by
 have e:Ç ì (mv 3) s!"c" (eD B d w j) s=.ok (.str x) s:=(di (v:=.ref j) (w:=.int 0) rfl rfl).trans (EY l);unfold Aq;rw[H0 ((di e rfl).trans (UX (ow h))),ë λz=>a (.inl z),ï,Ø s!"i",H0 ((di e rfl).trans (vu (jx h))),kd,ë λz=>a (.inr z)]
def C0 (h:Ws B V W s)(e:¬(x∈W.ps∨x∈W.ws)) (hl:W.ps.length<64):∃s',aY [.ref (B+14),.tup [.str "person",.str x]] s=.ok (.str "") s'/\Ws B V {W with ps:=W.ps++[x]} s'/\tj B s s':=by
 have cl:Cl (s++[.lst [.str x]]):=E5 _ (λv d b=>by rw[ò.mp d];rfl) h.b.cl;have a:=h.app cl;have c:=Ę s [.str x];have p:=a.Sx (i:=0) (o:=.lst (W.ps.map AV.str++[.str x])) (W1:={W with ps:=W.ps++[x]}) (by lia) (by rw[show W.ps.map AV.str++[.str x]=(W.ps++[x]).map AV.str by simp];exact bM _ _) (by simp[wm]);refine⟨_,?_,p.1,((tj.refl B s).app _).trans p.2⟩;unfold aY jv;refine da (env:=[À (AV.ref (B+14)),À (.tup [.str "person",.str x]),none,none,none,none]) ?_;refine(ĕ (CY "person" [.str x] (by simp) rfl)).trans ?_;refine(ĕ (CZ a)).trans ?_;refine sQ ((m_ (show cB (Ç mq (mv 2) (Ť (Â (mc (.str "person")) (Â (mc (.str "work")) Ï)))) (eD B (.tup [.str "person",.str x]) "person" s.length) (s++[.lst [.str x]])=.ok true (s++[.lst [.str x]])from rfl)).trans ?_);refine(ĕ (jK (EL a e c))).trans ?_;refine(ĕ ((m_ (show cB (Ç Ş (mv 2) (mc (.str "person"))) (eD B (.tup [.str "person",.str x]) "person" s.length) (s++[.lst [.str x]])=.ok true (s++[.lst [.str x]])from rfl)).trans (HR (ow a) (by rw[É];lia) rfl ((di (v:=.ref s.length) (w:=.int 0) rfl rfl).trans (EY c))))).trans ?_;rfl
def IC (h:Ws B V W s)(c:¬(x∈W.ps∨x∈W.ws)) (hl:W.ws.length<64)(hr:(W.rf x).v=.tup []):∃s',aY [.ref (B+14),.tup [.str "work",.str x]] s=.ok (.str "") s'/\Ws B V {W with ws:=W.ws++[x]} s'/\tj B s s':=by
 have cl:Cl (s++[.lst [.str x]]):=E5 _ (λv g b=>by rw[ò.mp g];rfl) h.b.cl;have a:=h.app cl;have f:=Ę s [.str x];have p:=a.Sx (i:=1) (o:=.dK (kT id (λw=>(W.rf w).v) (W.ws++[x]))) (W1:={W with ws:=W.ws++[x]}) (by lia) (nV (λ_=>Pv.low _ _) _) rfl;refine⟨_,?_,p.1,((tj.refl B s).app _).trans p.2⟩;have e:=qB (env:=eD B (.tup [.str "work",.str x]) "work" s.length) (v:=Ť Ï) (w:=.tup []) (d:=mv 5) (y:=Ç ì (mv 3) s!"c") (x:=x) (jx a) (by rw[vP];exact hl) rfl rfl ((di (v:=.ref s.length) (w:=.int 0) rfl rfl).trans (EY f));rw[sO (λz=>c (.inr z)) hr.symm]at e;unfold aY jv;refine da (env:=[À (AV.ref (B+14)),À (.tup [.str "work",.str x]),none,none,none,none]) ?_;refine(ĕ (CY "work" [.str x] (by simp) rfl)).trans ?_;refine(ĕ (CZ a)).trans ?_;refine sQ ((m_ (show cB (Ç mq (mv 2) (Ť (Â (mc (.str "person")) (Â (mc (.str "work")) Ï)))) (eD B (.tup [.str "work",.str x]) "work" s.length) (s++[.lst [.str x]])=.ok true (s++[.lst [.str x]])from rfl)).trans ?_);refine(ĕ (jK (EL a c f))).trans ?_;refine(ĕ ((Bt (show cB (Ç Ş (mv 2) (mc (.str "person"))) (eD B (.tup [.str "work",.str x]) "work" s.length) (s++[.lst [.str x]])=.ok false (s++[.lst [.str x]])from rfl)).trans e)).trans ?_;rfl
def DQ (h:Ws B V W s)(a:¬(x∈V.ps∨x∈V.ws)) (hl:V.ps.length<64):∃s',Ŵ [.ref B,.tup [.str "person",.str x]] s=.ok .Ĕ s'/\Ws B {V with ps:=V.ps++[x]} W s'/\tj B s s':=by
 have p:=h.Sw (i:=1) (o:=.dK (kT id (λp=>((bo V).kf p).v) (V.ps++[x]))) (V1:={V with ps:=V.ps++[x]}) (by lia) (nV (λ_=>Pv.low _ _) _) rfl;exact⟨_,(Gf h.b x).trans (ğ OH (vn (V:=bo V) h.b a hl rfl)),p.1,p.2⟩
def Kw (h:Ws B V W s)(a:¬(x∈V.ps∨x∈V.ws)) (hl:V.ws.length<64)(hr:(V.rf x).v=.tup []):∃s',Ŵ [.ref B,.tup [.str "work",.str x]] s=.ok .Ĕ s'/\Ws B {V with ws:=V.ws++[x]} W s'/\tj B s s':=by
 have p:=h.Sw (i:=2) (o:=.dK (kT id (λp=>((bo V).rf p).v) (V.ws++[x]))) (V1:={V with ws:=V.ws++[x]}) (by lia) (nV (λ_=>Pv.low _ _) _) rfl;exact⟨_,(My h.b x).trans (ğ OH (y9 (V:=bo V) h.b a hl hr)),p.1,p.2⟩
end
def p0:Pv:=pT [] (by simp)
def V0:Wl:=⟨[],[],λ_=>p0⟩
structure LS (c d n B nl:Nat)(names:Á Str)(V W:Wl)(s:S):Prop where
 dr:Dr c d n s
 w:Ws B V W s
 c0:0<c/\c<B
 d0:0<d/\d<B
 nm:ù s nl=À (names.map AV.str)
 n0:nl<B/\nl≠c/\nl≠d
structure Wk (c d B:Nat)(s s':S):Prop where
 len:s.length<=s'.length
 get:∀i,i<s.length->i≠c->i≠d->i<B∨B+17<=i->s'[i]?=s[i]?
theorem Wk.trans (h:Wk c d B s s')(k:Wk c d B s' a):Wk c d B s a:=⟨ĺ h.len k.len,λi g b e f=>(k.get i (ð g h.len) b e f).trans (h.get i g b e f)⟩
def Gk.wk (h:Gk c d s s')(B:Nat):Wk c d B s s':=⟨h.len,λi e a b _=>h.get i e a b⟩
def tj.wk (h:tj B s s')(c d:Nat):Wk c d B s s':=⟨h.len,λi a _ _ k=>h.get i a k⟩
def Wk.lst (w:Wk c d B s s')(a:i≠c)(hd:i≠d)(b:i<B∨B+17<=i)(h:ù s i=À xs):ù s' i=À xs:=by
 have e:=(Æ.mp (ċ h)).1;exact dY (by rw[w.get i e a hd b];exact ċ h)
section
variable {c d n B nl:Nat}{names:Á Str}{V W V' W':Wl}{s s':S}
theorem LS.len (h:LS c d n B nl names V W s):B+17<=s.length:=h.w.len
def LS.gk (h:LS c d n B nl names V W s)(k:Gk c d s s')(D:Dr c d m s'):LS c d m B nl names V W s':=by
 have e:=h.c0;have d0:=h.d0;have a:=h.n0;have hl:=h.len;exact⟨D,⟨⟨h.w.b.at_.keep λi f g=>k.get i (by have:(mid B (bo V)).length=8:=rfl;lia) (by lia) (by lia),D.cl,(k.get 0 (by lia) (by lia) (by lia)).trans h.w.b.t0,h.w.b.b0⟩,h.w.w.keep λi f g=>k.get i (by have:(wm B W).length=9:=rfl;lia) (by lia) (by lia)⟩,e,d0,k.lst (n:=0) a.2.1 a.2.2 h.nm,a⟩
theorem LS.app (h:LS c d n B nl names V W s)(k:Cl (s++e)):LS c d n B nl names V W (s++e):=h.gk (Gk.app c d s e) (h.dr.app k)
theorem LS.mono (h:LS c d n B nl names V W s)(k:n<=m):LS c d m B nl names V W s:=⟨h.dr.mono k,h.w,h.c0,h.d0,h.nm,h.n0⟩
def LS.TQ (h:LS c d n B nl names V W s)(k:tj B s s')(b:Ws B V' W' s'):LS c d n B nl names V' W' s':=by
 have hl:=h.len;have g:∀i,i<B->s'[i]?=s[i]?:=λi l=>k.get i (by lia) (.inl l);obtain⟨⟨t,a,e,f,j⟩,_⟩:=h.dr;exact⟨⟨⟨t,a,by rw[g d h.d0.2];exact e,by rw[g c h.c0.2];exact f,j⟩,b.b.cl⟩,b,h.c0,h.d0,dY (by rw[g nl h.n0.1];exact ċ h.nm),h.n0⟩
def Jk (e:B+17<=b):∀o∈mid B (bo V),o.low b=true:=by
 intro o a;unfold mid bo at a;simp only[Þ,ü,Ź]at a;rcases a with rfl|rfl|rfl|rfl|rfl|rfl|rfl|rfl
 ·simp[AO.low,Ap,Ŀ,AV.low];lia
 ·exact nV (λ_=>Pv.low _ _) _
 ·exact nV (λ_=>Pv.low _ _) _
 all_goals simp[AO.low,Ŀ,kT]
def Jm (e:B+17<=b):∀o∈wm B W,o.low b=true:=by
 intro o a;unfold wm at a;simp only[Þ,ü,Ź]at a;rcases a with rfl|rfl|rfl|rfl|rfl|rfl|rfl|rfl|rfl
 ·exact bM _ _
 ·exact nV (λ_=>Pv.low _ _) _
 all_goals first|(simp[AO.low,Ŀ];done)|(simp[AO.low,PY,Ŀ,AV.low];lia)
def LS.cut (h:LS c d n B nl names V W s)(w:Wk c d B s s')(h':LS c d m B nl names V' W' s'):(s'.take s.length).all (AO.low s.length)=true:=by
 have hl:=h.len;have y:=h.dr.Cs;have l:(s'.take s.length).length=s.length:=by rw[Ũ];have:=w.len;lia
 obtain⟨⟨t,g,u,v,A⟩,r⟩:=h'.dr;rw[Ā];intro o x;obtain⟨i,f,e⟩:=Hm.mp x;rw[l]at f;have a:(s'.take s.length)[i]?=À o:=by rw[Å (by rw[l];exact f)];rw[e]
 rw[aO f]at a;by_cases j:i=c
 ·subst j;rw[v]at a;cases a;exact low_ints _ _
 by_cases k:i=d
 ·subst k;rw[u]at a;cases a;simp[AO.low,yc,Ŀ,AV.low,y]
 by_cases p:i<B∨B+17<=i
 ·rw[w.get i f j k p]at a;exact Ā.mp (show s.all (AO.low s.length)=true from h.dr.cl) o (ý a)
 by_cases z:i<B+8
 ·have q:=h'.w.b.at_.get (i-B) (by show i-B<8;lia);rw[show B+(i-B)=i by lia,a]at q;exact Jk hl o (ý q.symm)
 ·have q:=h'.w.w.get (i-(B+8)) (by show i-(B+8)<9;lia);rw[show B+8+(i-(B+8))=i by lia,a]at q;exact Jm hl o (ý q.symm)
structure Qf (V:Wl):Prop where
 p:V.ps.length<64
 w:V.ws.length<64
 d:∀x,(V.rf x).d.dep<=5
def Uu (h:Qf V)(a:(∀r∈rs,vm r)/\rs.length<=20):Qf (dW V x rs a):=by
 unfold dW;split
 ·refine⟨h.p,h.w,λy=>?_⟩;show(if y=x then rP rs a else V.rf y).d.dep<=5;split
  ·have:=fX (l:=rs) (f:=rD) (k:=4) λr _=>SF r;simp only[rP,Dt.dep];lia
  ·exact h.d y
 ·exact h
def KY (h:Qf V):(told V).dep<9:=by
 have a:aH ((þ V.ps).map Dt.str)<=2:=fX λ_ _=>by simp[Dt.dep]
 have b:aH ((þ V.ws).map Dt.str)<=2:=fX λ_ _=>by simp[Dt.dep]
 have e:aH ((þ V.ws).map λx=>(V.rf x).d)<=5:=fX λx _=>h.d x;have f:aH ((þ V.ps).map λ_=>Dt.lst [])<=2:=fX λp _=>by simp[Dt.dep,aH]
 have g:aH ((þ V.ws).map λ_=>Dt.Ĕ)<=2:=fX λw _=>by simp[Dt.dep]
 have i:aH ((þ V.ps).map λ_=>Dt.tup [.int 0,.int 1])<=2:=fX λ_ _=>by simp[Dt.dep,aH]
 unfold told tA;simp only[Dt.dep,bw,bb,aH];lia
def Ft (h:Ws B V V s)(a:Qf V){K:AV->Prop}(j:K (.bl true)) :
  (aX [.ref B] s).wp λv s1=>(aI [.ref (B+14)] s1).wp λw b=>(ė 9 [v,w] b).wp λx m=>(m.take s.length=s/\x.low s.length=true)/\K x:=by
 obtain⟨v,e,g,f,k⟩:=Te h a.p a.w;rw[a7 g];refine(Uy (h.app f) a.p a.w).mono ?_;rintro w b ⟨i,rfl,o,l⟩;rw[a7 (Fu (n:=9) (k.app i) l (KY a))];refine⟨⟨?_,by simp[AV.low]⟩,j⟩;rw[Õ];exact cL
end
noncomputable def Jf:Á (Key×AV):=[(.inr "hand",.str "hands"),(.inr "rate",.str "rates"),(.inr "debt",.str "debts"),(.inr "sold",.str "money"),(.inr "back",.str "money")]
def MU:Á (Key×AV):=[(.inr "hand",.int 30),(.inr "rate",.int 20),(.inr "debt",.int 20),(.inr "sold",.int 40),(.inr "back",.int 40)]
def Md (a:ù s i=À xs)(b:ù s j=À ys)(k:xs.length+ys.length<=1000):ť (.ref i) (.ref j) s=.ok s!"h" (s++[AO.lst (xs++ys)]):=by
 show(need (ù s i) λxs=>need (ù s j) λys=>if xs.length+ys.length<=sizeLine then R.ok (AV.ref s.length) (s++[AO.lst (xs++ys)])else .bad)=_;rw[a,b,ø,ø,Ò (xM k)]
def BJ (D:Dr c d n s)(p:n<=900000000):(bG [.ref d] s).wp λv s'=>∃(j:Nat) (a:Á Str),v=.ref j/\s.length<=j/\ù s' j=À (a.map AV.str)/\a.length=8/\(∀z∈a,z.length<=1000)/\a.Nodup/\Dr c d (n+20) s'/\Gk c d s s':=by
 have w:=D.Cs;have ld:=D.Dl;unfold bG iy;walk_at"w";refine(JP D p (by lia) (by lia)).mono ?_;rintro _ b ⟨j,a,rfl,o,t,u,i,nd,B,C⟩;obtain⟨D2,A,k⟩:=C.cut D B;have f:Cl (b.take s.length++[AO.lst (a.map AV.str)]):=D2.cl.add (by simp[AO.low,bM]);have g:Cl (b.take s.length++[AO.lst (a.map AV.str)]++[AO.lst [.str "never"]]):=f.add (by simp[AO.low,Ŀ,AV.low]);have l:(a++[("never":Str)]).map AV.str=a.map AV.str++[.str "never"]:=by simp
 have h:Cl (b.take s.length++[AO.lst (a.map AV.str)]++[AO.lst [.str "never"]]++[AO.lst ((a++[("never":Str)]).map AV.str)]):=g.add (by
  have:=bM;simp only[Ķ,c6,AO.low,br];exact bM _ _)
 have m:ť (.ref (b.take s.length).length) (.ref (b.take s.length++[AO.lst (a.map AV.str)]).length) (b.take s.length++[AO.lst (a.map AV.str)]++[AO.lst [.str "never"]])=.ok (.ref (b.take s.length++[AO.lst (a.map AV.str)]++[AO.lst [.str "never"]]).length) (b.take s.length++[AO.lst (a.map AV.str)]++[AO.lst [.str "never"]]++[AO.lst ((a++[("never":Str)]).map AV.str)]):=by
  rw[Md (ao (Ę _ _)) (Ę _ _) (by simp;lia),l]
 simp?[t,o,k,bM,↓a7 m];refine⟨_,a++[("never":Str)],rfl,?_,Ę _ _,?_,?_,?_,(((D2.app f).app g).app h),((A.gk.trans (Gk.app ..)).trans (Gk.app ..)).trans (Gk.app ..)⟩
 ·simp[A.len]
 ·simp;lia
 ·intro z hz;rcases ķ.mp hz with hz|hz
  ·exact JW z (i z hz)
  ·rw[ò.mp hz];decide+kernel
 ·refine uM.mpr ⟨nd,by simp,λx q y r e=>?_⟩;rw[ò.mp r]at e;subst e;exact absurd (i _ q) s!"g"
section
variable {c d n B nl:Nat}{names:Á Str}{V W:Wl}{s:S}
def MZ (h:Cl s)(x:AV):(ck [x,.str "rows"] s).wp λv s'=>v=.str "rows"/\s'=s++[.dK Jf]++[.dK MU]/\Cl s':=by
 have f:∀st a,gD [((mc (.str "hand")),(mc (.str "hands"))),((mc (.str "rate")),(mc (.str "rates"))),((mc (.str "debt")),(mc (.str "debts"))),((mc (.str "sold")),(mc (.str "money"))),((mc (.str "back")),(mc (.str "money")))] a st=.ok (.ref st.length) (st++[.dK Jf]):=λst a=>by
  unfold gD;simp only[Fo,mc,ï,qF,gb,aD,bQ,ø];rw[Ò (by show(5:Nat)<=15;lia)];rfl
 have g:∀st a,gD [((mc (.str "hand")),(mc (.int 30))),((mc (.str "rate")),(mc (.int 20))),((mc (.str "debt")),(mc (.int 20))),((mc (.str "sold")),(mc (.int 40))),((mc (.str "back")),(mc (.int 40)))] a st=.ok (.ref st.length) (st++[.dK MU]):=λst a=>by
  unfold gD;simp only[Fo,mc,ï,qF,gb,aD,bQ,ø];rw[Ò (by show(5:Nat)<=15;lia)];rfl
 have b:Cl (s++[.dK Jf]):=h.add (by simp[AO.low,Jf,Ŀ,AV.low]);have e:Cl (s++[.dK Jf]++[.dK MU]):=b.add (by simp[AO.low,MU,Ŀ,AV.low]);have i:kH (s++[.dK Jf]++[.dK MU]) s.length=À Jf:=kI (by rw[Õ,ç (Í _)];simp);have j:lD (.str "rows") s!"h" (s++[.dK Jf]++[.dK MU])=.ok (.bl false) _:=(vu i).trans rfl;unfold ck jw;simp?[↓a7 (f _ _),↓a7 (g _ _),↓a7 j];exact e
def He (h:LS c d n B nl names V V s)(ok:Qf V)(hm0:0<=many)(hm:many<=60)(hn:n<=600000000)(hN:0<names.length)(O:names.length<=90)(hs:∀x∈names,x.length<=1000)(hw:ù s l=À [.str "rows"])(P:B+17<=l) :
  Hd (bS [.ref d,.ref B,.ref (B+14),.ref nl,.ref l,.int many] s) λv s'=>v=.bl true/\∃m A,LS c d m B nl names A A s'/\Wk c d B s s':=by
 have c0:=h.c0;have d0:=h.d0;have n0:=h.n0;constructor;unfold bS kC;have N:∀{n:Nat}{b:Ms}{o q t u y C:AV}{s:S}{Q:AV->S->Prop},(b (À o::À q::À t::À u::À y::À C::â (n-6) none) s).wp (λ_ a=>Q .Ĕ a) Q->(bH n b [o,q,t,u,y,C] s).wp Q:=by
  intro n b o q t u y C s Q hh;show(match b (À o::À q::À t::À u::À y::À C::â (n-6) none) s with|.rt v a=>R.ok v a|.nx _ a=>.ok .Ĕ a|.ex c a=>.ex c a|_=>.bad).wp Q;revert hh;cases b (À o::À q::À t::À u::À y::À C::â (n-6) none) s<;>exact λz=>z
 refine N ?_;simp?[↓ra];refine⟨⟨by lia,by lia⟩,?_⟩;refine pL (λxs k st=>∃x6 x7 x8 z A,xs.length+z=many.toNat/\k=[À (.ref d),À (.ref B),À (.ref (B+14)),À (.ref nl),À (.ref l),À (.int many),x6,x7,x8]/\Qf A/\LS c d (n+400*z) B nl names A A st/\Wk c d B s st) ?_ ?_ ?_ _ _ _ ⟨none,none,none,0,V,by simp[n7],rfl,ok,h,(Gk.refl c d s).wk B⟩
 ·rintro _ _ st _ p hp;cases hp
 ·rintro k st ⟨x6,x7,x8,z,A,U,rfl,f,G,J⟩;exact⟨_,A,G,J⟩
 ·rintro v r k st ⟨x6,x7,x8,z,A,U,rfl,f,G,J⟩;have U:r.length+1+z=many.toNat:=U;have D:=J.lst (by lia) (by lia) (.inr P) hw;rw[WS.2.2.2.2.2.2.2.2.2.2.1];refine bq λK g=>?_;simp?[↓a7 (pV D)];refine(take1 G.dr).mono ?_;rintro _ a ⟨j,rfl,j0,j1,D1,L⟩;have h1:=G.gk L.gk D1;have E:ù a l=À [.str "rows"]:=L.gk.lst (n:=0) (by lia) (by lia) D;obtain⟨wv,T,ew⟩:=tR (s:=a) (i:=l) (j:=j) E j0 j1;rw[ò.mp T]at ew;have M:(need (ù a l) λxs=>need (mG xs j) λv=>R.ok v a)=.ok (.str "rows") a:=ew;simp?[↓a7 M];refine(MZ h1.dr.cl _).mono ?_;rintro _ s2 ⟨rfl,rfl,c2⟩;have H:LS c d (n+400*z+1) B nl names A A (a++[.dK Jf]++[.dK MU]):=by rw[Õ]at c2⊢;exact h1.app c2
  have g2:Wk c d B a (a++[.dK Jf]++[.dK MU]):=((Gk.app c d a _).trans (Gk.app c d _ _)).wk B;generalize a++[AO.dK Jf]++[AO.dK MU]=s2 at H g2⊢;refine(Mr H.dr (by lia) H.nm hN O n0.2.1 n0.2.2).mono ?_;rintro _ s3 ⟨x,I,rfl,hx,hr,hl,D3,X⟩;rw[g];clear g K;refine bq λK g=>?_;walk_at"w";have e:(∀r∈I,vm r)/\I.length<=20:=⟨λr h=>(hr r h).1,hl⟩
  have h3:=H.gk X D3;obtain⟨s4,e4,Y,g4⟩:=IB h3.w x f.w e;rw[a7 e4,g];clear g K;refine bq λK g=>?_;walk_at"w";have h4:=h3.TQ g4 Y;refine(Mx Y x (hs x hx) f.w e λr h=>hs _ (hr r h).2).mono ?_;rintro _ s5 ⟨rfl,Z,g5⟩;have h5:=h4.TQ g5 Z;have F:=Uu (x:=x) f e;rw[a7 (same_str 8 (dR A x I) s5)];simp only[qZ,i4,ŷ,fG];rw[Ø s!"i",g];clear g K;walk_at"w";refine Ft Z F ?_;rw[qZ];dsimp only;rw[Ø s!"i"];exact⟨_,_,_,z+1,dW A x I e,by lia,rfl,F,h5.mono (by lia),((((J.trans (L.gk.wk B)).trans g2).trans (X.wk B)).trans (g4.wk c d)).trans (g5.wk c d)⟩
def JQ (s:S)(env:En){Q:AV->AV->S->Prop}(k:Q s!"h" (.ref (s.length+14)) (s++(mid s.length (bo V0)++wm s.length V0))):(pW 9 ai env s).wp λv s1=>(cG [] s1).wp λw a=>Q v w a:=by
 have e:=La (s++[.ins 9 (Ap s.length 182),.dK [],.dK [],.dT [],.dK [],.dT [],.lst [],.lst []]) (B:=s.length) (by simp);rw[Õ]at e;rw[a7 (M6 s env),a7 e];exact k
def LS.start (D:Dr c d n s)(f:s[0]?=À (.tab 20 Bz)) (b:0<c)(d0:0<d)(nm:ù s nl=À (names.map AV.str)) (e:nl≠c)(nd:nl≠d):LS c d n s.length nl names V0 V0 (s++(mid s.length (bo V0)++wm s.length V0)):=by
 have g:=D.Cs;have ld:=D.Dl;have h:=(Æ.mp (ċ nm)).1;have a:Cl (s++(mid s.length (bo V0)++wm s.length V0)):=D.cl.add (by
  rw[Ā];intro o ho;rcases ķ.mp ho with ho|ho
  ·exact Jk (Í _) o ho
  ·exact Jm (Í _) o ho)
 refine⟨D.app a,⟨⟨?_,a,by rw[é (by lia)];exact f,by lia⟩,?_⟩,⟨b,by lia⟩,⟨d0,by lia⟩,ao nm,⟨by lia,e,nd⟩⟩
 ·rw[<-Õ];exact(At.new _ _).app _
 ·rw[<-Õ];have:=At.new (s++mid s.length (bo V0)) (wm s.length V0);rwa [è]at this
def HW {j:Nat}{a:Á Str}(D:Dr c d n s)(hn:n<=800000000)(t0:s[0]?=À (.tab 20 Bz)) (c0:0<c)(d0:0<d)(nm:ù s nl=À (names.map AV.str)) (nc:nl≠c)(nd:nl≠d)
  (hj:ù s j=À (a.map AV.str)) (Q:a.length<=10) (nod:a.Nodup) :
  Hd (cF [.ref d,.ref j] s) λv s'=>v=.tup [.ref s.length,.ref (s.length+14)]/\∃V,Qf V/\LS c d (n+30) s.length nl names V V s':=by
 have H:=LS.start D t0 c0 d0 nm nc nd;constructor;unfold cF lT;refine QB ?_;refine bq λK f=>?_;walk_at"w";refine JQ _ _ ?_;rw[f];clear f K;refine bq λK f=>?_;generalize hB:s.length=B at H f⊢;have G:=ao (e:=mid B (bo V0)++wm B V0) hj;generalize s++(mid B (bo V0)++wm B V0)=i at H G⊢;have e2:zN (.ref j) none (À 7) i=.ok (.ref i.length) (i++[AO.lst ((a.take 7).map AV.str)]):=by
  rw[PQ G,show fI (a.map AV.str) none (À 7)=_ from A8 _ 7,ry]
 have hl:=H.len;have A:=H.app (e:=[AO.lst ((a.take 7).map AV.str)]) (H.dr.cl.add (by simp only[Ķ,c6,AO.low,br];exact bM _ _));have L:=Ę i ((a.take 7).map AV.str);have g:(a.take 7).Nodup:=(uN ..).nodup nod;have Q2:(a.take 7).length<=7:=by rw[Ũ];exact Nat.min_le_left ..
 have m:i.length<(i++[AO.lst ((a.take 7).map AV.str)]).length:=by simp
 generalize a.take 7=M at e2 A L g Q2 m;simp?[↓a7 e2,↓a7 (PX L)];generalize i.length=j7 at L hl m⊢;generalize i++[AO.lst (M.map AV.str)]=s2 at A L m⊢;refine pL (λxs k st=>∃r x2 x5 z V,xs=r.map AV.str/\r.length+z=M.length/\r.Nodup/\(∀x∈r,¬(x∈V.ps∨x∈V.ws))/\k=[À (.ref d),À (.ref j),x2,À (.ref B),À (.ref (B+14)),x5]/\(V.ps.length<=z/\V.ws.length<=z/\V.rf=λ_=>p0)/\LS c d (n+2*z) B nl names V V st/\Wk c d B s2 st) ?_ ?_ ?_ _ _ _ ⟨M,none,none,0,V0,rfl,rfl,g,λx T z=>z.elim (nomatch ·) (nomatch ·),rfl,⟨Í _,Í _,rfl⟩,A,(Gk.refl c d s2).wk B⟩
 ·rintro _ _ st ⟨_,_,_,_,_,_,_,_,_,_,_,_,w⟩ p hp;rw[ò.mp hp];have c0:=A.c0;have d0:=A.d0;exact w.lst (by lia) (by lia) (.inr hl) L
 ·rintro k st ⟨r,x2,x5,z,V,hr,J,_,_,rfl,⟨o1,o2,N⟩,h,_⟩;cases r with
  |cons _ _=>cases hr
  |nil=>
   have J:0+z=M.length:=J;rw[f];walk_at"w";exact⟨V,⟨by lia,by lia,λx=>by rw[N];simp[p0,pT,Dt.dep,aH]⟩,h.mono (by lia)⟩
 ·rintro v r k st ⟨t,x2,x5,z,V,hr,J,o,T,rfl,⟨o1,o2,N⟩,h,w⟩;cases t with
  |nil=>cases hr
  |cons x t=>
   cases hr;have J:t.length+1+z=M.length:=J;have U:=T x (.head _);have nx:∀y∈t,y≠x:=λy l e=>(b7.mp o).1 (e▸l);have I:(V.rf x).v=.tup []:=by rw[N];rfl
   rw[WS.2.2.2.2.2.2.2.2.2.2.1];refine bq λK f=>?_;walk_at"w";refine(PD h.dr (by lia) (P:=λv=>v=.str "person"∨v=.str "work") rfl (by simp) (by simp) ?_).mono ?_
   ·intro v I;simp only[Þ,ü,Ź]at I;rcases I with rfl|rfl
    ·exact⟨.inl rfl,λb=>by simp[AV.low]⟩
    ·exact⟨.inr rfl,λb=>by simp[AV.low]⟩
   rintro _ s3 ⟨wv,ev,hw,lo,al,D3,O⟩;rw[a7 ev];refine⟨⟨al,lo⟩,?_⟩;have F:=h.gk O.gk D3;generalize s3.take st.length=s4 at D3 O F⊢;rw[f];clear f K;walk_at"w";rcases hw with rfl|rfl
   ·obtain⟨s5,Y,u,C⟩:=C0 F.w U (by lia);have Q:=F.TQ C u;obtain⟨s6,Z,X,E⟩:=DQ u U (by lia);rw[a7 Y,a7 Z];exact⟨t,_,_,z+1,{V with ps:=V.ps++[x]},rfl,by lia,(b7.mp o).2,λy l q=>T y (.tail _ l) (q.imp_left λq=>(ķ.mp q).resolve_right λq=>nx y l (ò.mp q)),rfl,⟨by simp;lia,by show V.ws.length<=_;lia,N⟩,(Q.TQ E X).mono (by lia),((w.trans (O.gk.wk B)).trans (C.wk c d)).trans (E.wk c d)⟩
   ·obtain⟨s5,Y,u,C⟩:=IC F.w U (by lia) I;have Q:=F.TQ C u;obtain⟨s6,Z,X,E⟩:=Kw u U (by lia) I;rw[a7 Y,a7 Z];exact⟨t,_,_,z+1,{V with ws:=V.ws++[x]},rfl,by lia,(b7.mp o).2,λy l q=>T y (.tail _ l) (q.imp_right λq=>(ķ.mp q).resolve_right λq=>nx y l (ò.mp q)),rfl,⟨by show V.ps.length<=_;lia,by simp;lia,N⟩,(Q.TQ E X).mono (by lia),((w.trans (O.gk.wk B)).trans (C.wk c d)).trans (E.wk c d)⟩
end
def Q0 (ns:Á Int):(vz [.sq (ns.map AV.int)] (tabS [(20,"by_days.<locals>.<lambda>"),(21,"_law_worth.<locals>.<lambda>")])).wp λv _=>v=.bl true:=by
 have s:Cl (tabS [(20,"by_days.<locals>.<lambda>"),(21,"_law_worth.<locals>.<lambda>")]):=rfl;unfold vz HU;rw[WS.2.2.2.2.2.2.2.2.2.2.2.2.2.2.2.1];refine bq λK b=>?_;walk_at"w";refine(HV ns s).mono ?_;rintro _ p ⟨c,d,e0,rfl,N,C,M,d0⟩;have t0:p[0]?=À (.tab 20 Bz):=by rw[N];rfl
 have M:1<c:=M;have d0:1<d:=d0;clear N;have lc0:=C.Cs;have ld0:=C.Dl;rw[b];clear b K;refine bq λK b=>?_;walk_at"w";refine(BJ C (by lia)).mono ?_;rintro _ X ⟨j,a,rfl,hj,O,ln,nm,G,D2,J⟩;obtain⟨D,E,L⟩:=J.cut C D2;have t3:(X.take p.length)[0]?=À (.tab 20 Bz):=by rw[E.get 0 (by lia) (by lia)];exact t0
 simp?[O,hj,L,bM];rw[b];clear b K;generalize X.take p.length=k at D E t3⊢;have z:k.length=p.length:=E.len;have I:=D.app (e:=[AO.lst (a.map AV.str)]) (D.cl.add (by simp only[Ķ,c6,AO.low,br];exact bM _ _));have o:=Ę k (a.map AV.str);have Z:(k++[AO.lst (a.map AV.str)])[0]?=À (.tab 20 Bz):=by rw[é (by lia)];exact t3
 generalize k.length=Q at o z⊢;generalize k++[AO.lst (a.map AV.str)]=Y at I Z o⊢;clear D E D2 J O L C;have r:=HW I (by lia) Z (by lia) (by lia) o (by lia) (by lia) o (by lia) G;refine bq λK b=>?_;walk_at"w";generalize cF [.ref d,.ref Q] Y=U at r⊢;refine r.to ?_;rintro _ g ⟨rfl,V,T,h⟩;walk_at"w";rw[b];clear b K U r;generalize Y.length=B at h⊢;refine bq λK b=>?_;walk_at"w";refine Ft h.w T ?_;rw[qZ];dsimp only;rw[Ø s!"i",b];clear b K;walk_at"w";have y:=h.app (e:=[AO.lst [AV.str "rows"]]) (h.dr.cl.add (by simp[AO.low,Ŀ,AV.low]));have P:=Ę g [AV.str "rows"];have w9:Wk c d B g (g++[AO.lst [AV.str "rows"]]):=(Gk.app c d g _).wk B;have hc:=h.c0;have hd:=h.d0;have hL:=h.len;generalize g++[AO.lst [AV.str "rows"]]=s9 at y P w9⊢;refine(take1 y.dr).mono ?_;rintro _ f ⟨q,rfl,q0,q1,F,A⟩;have u:=y.gk A.gk F;have i:ù f g.length=À [AV.str "rows"]:=A.gk.lst (n:=0) (by lia) (by lia) P;have t:ť (.int 12) (.int q) f=.ok (.int (12+q)) f:=rfl;rw[a7 t];have l:=He (many:=12+q) u T (by lia) (by lia) (by lia) (by lia) (by lia) nm i hL;refine⟨rfl,?_⟩;generalize bS [.ref d,.ref B,.ref (B+14),.ref Q,.ref g.length,.int (12+q)] f=U at l⊢;refine l.to ?_;rintro _ s11 ⟨rfl,m,V1,x,H⟩;exact⟨⟨h.cut ((w9.trans (A.gk.wk B)).trans H) x,rfl⟩,rfl⟩
end Ro
end
namespace PySem.W.Fast
section
variable (a:True)
def tw5044614778359250393:=a
def tw9015167485171265906:=a
def tw14151264807093105066:=a
def tw4773913220224456248:=a
def tw6749336448586204798:=a
def tw5999760516399740599:=a
def tw18338390232556829275:=a
def tw16039823346690202176:=a
def tw17798927465431033033:=a
def tw15777414876652774599:=a
def tw13107029289454351012:=a
def tw4904409137840441547:=a
def tw3446153199440311494:=a
def tw3339878827016395190:=a
def tw12801542758218163914:=a
def tw9486783240161559594:=a
def tw7802812888289603847:=a
def tw14990211412035500985:=a
def tw14908065773808703429:=a
def tw8020781733385904811:=a
def tw17891194809278243733:=a
def tw15330368077810472838:=a
def tw9708417772548501063:=a
def tw12068403902783521268:=a
def tw17871363176344189479:=a
def tw2607454148227751630:=a
def tw12469377405388787970:=a
def tw10441969492456973657:=a
def tw9468990533176990501:=a
def tw9272885604480932382:=a
def tw15835772300065233445:=a
def tw12865011270819208261:=a
def tw4670252741620818306:=a
def tw6348940424855654256:=a
def tw5482768127819457360:=a
def tw17487976174704556541:=a
def tw6875789013742555474:=a
def tw11184289650973464419:=a
def tw15410133165937993925:=a
def tw11590220129816075071:=a
def tw12222004794968859587:=a
def tw424126310077233761:=a
def tw11085240720072842981:=a
def tw16315339861624832510:=a
def tw6883916669378039590:=a
def tw762540094185420139:=a
def tw7338030840201273891:=a
def tw18324088362142719792:=a
def tw11611155104834317611:=a
def tw8138440805226076265:=a
def tw18416590756173030557:=a
def tw11921738849852142225:=a
def tw5488806551665539357:=a
def tw6420885448276288420:=a
def tw9574891338211055333:=a
def tw6276371830590128546:=a
def tw570690175776862304:=a
def tw16027810002415511256:=a
def tw7428767270788314435:=a
def tw6913637456312434590:=a
def tw2029902459884551559:=a
def tw4296041032832637451:=a
def tw6531340585310447794:=a
def tw3229862736538588390:=a
def tw203031671588107827:=a
def tw17645778575576658189:=a
def tw2111194354188403611:=a
def tw664035240401338003:=a
def tw2711677027089947980:=a
def tw7585400821065262953:=a
def tw462503323462787495:=a
def tw5236484929806579926:=a
def tw4674882534445120792:=a
def tw4243240926034321196:=a
def tw5678971670879834800:=a
def tw4910109939817647181:=a
def tw57538264013397031:=a
def tw5671220170377999901:=a
def tw12192347150513799142:=a
def tw1032173698707783253:=a
def tw15661849862753825387:=a
def tw15034702238400668187:=a
def tw3576828736923841724:=a
def tw2461775558340449296:=a
def tw14660911800409142489:=a
def tw2697569158415588483:=a
def tw15429593831582579538:=a
def tw1465856308825930710:=a
def tw4045015967876665643:=a
def tw12800264768898365097:=a
def tw7178328184386746565:=a
def tw5942622179260191281:=a
def tw17555379854220387313:=a
def tw15142788090926977923:=a
def tw3044770926086733070:=a
def tw7277527771196916190:=a
def tw14727706040581778656:=a
def tw10893519872152826066:=a
def tw15796145288957146011:=a
def tw13184532118704684795:=a
def tw7432997916512049395:=a
def tw15001429041045486604:=a
def tw13891882056061780888:=a
def tw1044019355078628892:=a
def tw7193257683540823594:=a
def tw6201786901773912183:=a
def tw5017387494154783168:=a
def tw16138978769613710545:=a
def tw6045781631788500152:=a
def tw18358279704683120341:=a
def tw18406390347060996953:=a
def tw11626449994307983075:=a
def tw18307299573597719639:=a
def tw16667383867405641727:=a
def tw1796818351560474572:=a
def tw12642543549690629699:=a
def tw14659096275415703617:=a
def tw13645507508910697526:=a
def tw6903722025304092325:=a
def tw15822843287551387717:=a
def tw8981422684785070645:=a
def tw10608849628202932816:=a
def tw13803124242709160946:=a
def tw10638377761305354256:=a
def tw17534818081648596681:=a
def tw868182757131764532:=a
def tw11411447314381508225:=a
def tw10783700585972799608:=a
def tw8875928525489674783:=a
def tw6670720547985416603:=a
def tw2128394853366209360:=a
def tw17399163527099639084:=a
def tw5474233053185602724:=a
def tw10757823927068462422:=a
def tw15825143185053411937:=a
def tw15389743484807993734:=a
def tw12409058061270249888:=a
def tw9264618939012925736:=a
def tw8612350868803673464:=a
def tw13293502608550222343:=a
def tw6804704337818040455:=a
def tw3165281375579573159:=a
def tw2991310355432602328:=a
def tw5928615863792257686:=a
def tw13909015966909266150:=a
def tw13592650247883569895:=a
def tw9102816499857821094:=a
def tw7470884418950568998:=a
def tw8313229645893218999:=a
def tw1283891398999014686:=a
def tw9876512832945222787:=a
def tw959684186631271352:=a
def tw10129986448461139012:=a
def tw575202607529920025:=a
def tw12319195752213858809:=a
def tw6523101574529095061:=a
def tw8889081818340379126:=a
def tw5621045997171980283:=a
def tw11395357752450995186:=a
def tw5255016329991858669:=a
def tw1847231351830518342:=a
def tw16349759491596835839:=a
def tw12249111257589831704:=a
def tw7834737531994485785:=a
def tw18180383249757701449:=a
def tw13608440065471125140:=a
def tw2528036002737004995:=a
def tw16297500059662527101:=a
def tw3356079207777650056:=a
def tw18267351336386239876:=a
def tw2638488093513974829:=a
def tw1955454832242447752:=a
def tw5581515735647889998:=a
def tw15661115279093454378:=a
def tw6635189388445033170:=a
def tw12709791762913980416:=a
def tw11486071687174205199:=a
def tw643805090002804288:=a
def tw13927869638485520722:=a
def tw8495189432883919031:=a
def tw12318130161641403439:=a
def tw6768270103474061760:=a
def tw3796237000029151791:=a
def tw1998900556906300388:=a
def tw6077391166203799758:=a
def tw17656756506645209779:=a
def tw9016810827177824483:=a
def tw17197733785004655008:=a
def tw6542834036546056744:=a
def tw9036109958080960161:=a
def tw8070260048607874352:=a
def tw1042054477152270045:=a
def tw6839224596512701474:=a
def tw2214979043469770235:=a
def tw15093255892943954092:=a
def tw7801331758070444214:=a
def tw16110737369185952070:=a
def tw8489162360911946396:=a
def tw17379635238733688624:=a
def tw1487875964897356572:=a
def tw17687539186139513397:=a
def tw15491509256355431059:=a
def tw3316028735599042368:=a
def tw191615678147281307:=a
def tw17427717765028386475:=a
def tw17190594568756711794:=a
def tw16897563249931276453:=a
def tw9026388440075615291:=a
def tw16497567835276534426:=a
def tw13251802151038372760:=a
def tw12284642295352528962:=a
def tw3611761233619176074:=a
def tw14874500877863321536:=a
def tw7503589894482015338:=a
def tw376921021696215678:=a
def tw16282079949579149320:=a
def tw15896004037771731106:=a
def tw4178378434020685866:=a
def tw9694809273537376287:=a
def tw9607043324049803639:=a
def tw5031609271331853447:=a
def tw13809453603185129789:=a
def tw15660456002915659485:=a
def tw3424564283854334043:=a
def tw1822197048868102691:=a
def tw7295657940739545639:=a
def tw15497357465774384182:=a
def tw12842461849658999895:=a
def tw7496421794901862886:=a
def tw1658033770174854616:=a
def tw12596324117774592766:=a
def tw8999624158698594219:=a
def tw15199543009523308887:=a
def tw13079115885449401962:=a
def tw5534167707726466986:=a
def tw1444403928262387143:=a
def tw8638319885701752945:=a
def tw15414928407745904231:=a
def tw15910241656825617555:=a
def tw8633065232459543223:=a
def tw10981416656691983279:=a
def tw6780565391406867899:=a
def tw18340203011481814695:=a
def tw6310408640931098247:=a
def tw8768217618349914334:=a
def tw1203780419641930818:=a
def tw17620746075832050355:=a
def tw1559418981432314898:=a
def tw5702605245166090957:=a
def tw2138858899731650409:=a
def tw4002128469526421396:=a
def tw16519003045963711150:=a
def tw9795492498487144621:=a
def tw4309023875476449963:=a
def tw4137960198073602799:=a
def tw4015322663289377937:=a
def tw3291514476683024969:=a
def tw308324038551070154:=a
def tw1610846644717652639:=a
def tw161983189584435123:=a
def tw15605750131154014158:=a
def tw4967046229232664000:=a
def tw11168874766828172972:=a
def tw13999663380041334610:=a
def tw1942602638419319406:=a
def tw10058593416745146165:=a
def tw15429899326086759668:=a
def tw2344027693194945434:=a
def tw8548170333068851978:=a
def tw4216227330064591884:=a
def tw15219190371019476385:=a
def tw4634887275397505241:=a
def tw13785092427747922247:=a
def tw9038458774951193056:=a
def tw13921647625384896876:=a
def tw2952171761896690615:=a
def tw3624968676204300816:=a
def tw1985843019410662208:=a
def tw16736437158721646566:=a
def tw4160236064328590925:=a
def tw4018486514809329787:=a
def tw17277231931333503430:=a
def tw2823251910437433190:=a
def tw4810946715018865104:=a
def tw14149607723896401132:=a
def tw4340548750066461938:=a
def tw17612261668512437700:=a
def tw4061633869983259569:=a
def tw11873655648352901967:=a
def tw10738356223866055710:=a
def tw5699079615464376736:=a
def tw15696594261538412441:=a
def tw14274021885224193903:=a
def tw60811224419062476:=a
def tw10669161068304102745:=a
def tw17169198358696058213:=a
def tw16483082741814122652:=a
def tw6474888570143597892:=a
def tw43723552950978254:=a
def tw14991842297619622:=a
def tw12226824313670916769:=a
def tw3216808658114658038:=a
def tw1618885733231547948:=a
def tw5567708547319005398:=a
def tw3012709565969851225:=a
def tw8177565438237992871:=a
def tw15122604657473768548:=a
def tw1084370648554726297:=a
def tw7886021664545634458:=a
def tw5837229640700047126:=a
def tw4799304781658007110:=a
def tw3109095177629607641:=a
def tw18413040714554086383:=a
def tw11735485680756008069:=a
def tw14964429671048249917:=a
def tw14069996000563151199:=a
def tw12603856703411430813:=a
def tw11039838783157685966:=a
def tw3465311118966335773:=a
def tw17863457069591211880:=a
def tw10942206313512850876:=a
def tw9612889035502258411:=a
def tw18358965879919952209:=a
def tw15004454955950485840:=a
def tw13069729989767319616:=a
def tw6234058713724496644:=a
def tw14523126494031542297:=a
def tw5936208442301586430:=a
def tw4510764801289104172:=a
def tw1970388677041522144:=a
def tw15065533800415171572:=a
def tw13650271892263506225:=a
def tw13400664888577681163:=a
def tw12583135795812763043:=a
def tw12061552746021505559:=a
def tw6323628512635821197:=a
def tw5713018541016196376:=a
def tw3305594495188814944:=a
def tw15516326415291926404:=a
def tw6661212915001153477:=a
def tw5100695245036398759:=a
def tw16870607575024148513:=a
def tw12498790755071612694:=a
def tw11589224038686633043:=a
def tw10858490798580648030:=a
def tw5894135830053664646:=a
def tw17388571747946220979:=a
def tw4173079737571503288:=a
def tw16543549949957943140:=a
def tw12535456407303940721:=a
def tw10021086059793018179:=a
def tw13577695649905728804:=a
def tw11556343303250711683:=a
def tw5586851850239506251:=a
def tw1872174315160607530:=a
def tw2482292413519348786:=a
def tw10008928618747828669:=a
def tw7001972951710837129:=a
def tw11839384590460258457:=a
def tw17638004598830985735:=a
def tw9099234541122142361:=a
def tw16719900660266669487:=a
def tw16307789423491191012:=a
def tw11407253509554818349:=a
def tw8693489338597534818:=a
def tw212703005474838979:=a
def tw16075149260930024221:=a
def tw8893392403709697225:=a
def tw9295539664222093102:=a
def tw6095117922515741612:=a
def tw12082796087269519777:=a
def tw10462675415980005900:=a
def tw2591905091594242611:=a
def tw673888707836303112:=a
def tw1772748593120958651:=a
def tw8561999245794103768:=a
def tw7952981123130900361:=a
def tw5233922870334282019:=a
def tw1866004532914755340:=a
def tw14617015933630125394:=a
def tw14604286106603413095:=a
def tw7229148225069124260:=a
def tw7117033728861249808:=a
def tw5670616004584323449:=a
def tw2709886132070089627:=a
def tw14994842951218643895:=a
def tw13861885008261107699:=a
def tw2786554825322736312:=a
def tw7909789412737806224:=a
def tw17333811895779786573:=a
def tw13054572628641077611:=a
def tw16737183320663005397:=a
def tw15730328112930876536:=a
def tw5878799705784255566:=a
def tw15690189087761840782:=a
def tw14618811699364764691:=a
def tw16905808320564783809:=a
def tw9782299709358375345:=a
def tw3567149326061644901:=a
def tw838231710356745625:=a
def tw862181219606576096:=a
def tw7777834425868167269:=a
def tw4411409244926878040:=a
def tw9507602468682590469:=a
def tw11667856024821924060:=a
def tw16311661996730987695:=a
def tw622247773699638336:=a
def tw12215447604396847156:=a
def tw5937810207379668959:=a
def tw7234556047101954437:=a
def tw3410888924126113205:=a
def tw17051377268634289533:=a
def tw11951940521544164556:=a
def tw13751920133610044682:=a
def tw15955126639939473816:=a
def tw5049137674589062016:=a
def tw11395453479120183569:=a
def tw1882718330939248131:=a
def tw8796304328959683662:=a
def tw11989042523774253881:=a
def tw13518030489617446234:=a
def tw3892874474447937846:=a
def tw6483110214546593730:=a
def tw12552478757744475151:=a
def tw10251468615848729332:=a
def tw13048021472401593152:=a
def tw15590901865115024510:=a
def tw6123406184991101047:=a
def tw8734306391150238419:=a
def tw15719364664559712033:=a
def tw10509471782104288658:=a
def tw11884863867550817919:=a
def tw11700307757718452679:=a
def tw555207869529022420:=a
def tw3885301783513401727:=a
def tw365865904192879582:=a
def tw3306232293874133584:=a
def tw3264367920221115512:=a
def tw17942207066267032129:=a
def tw17757871553143112529:=a
def tw16645741263250216833:=a
def tw15723377307492748806:=a
def tw13175183277539219036:=a
def tw13036399155924651694:=a
def tw1292272984355481196:=a
def tw11347483715511107834:=a
def tw11597422795963650588:=a
def tw9325775104176420569:=a
def tw8133567565427150452:=a
def tw2205871374947882089:=a
def tw962774653459476304:=a
def tw9622808351281317889:=a
def tw9581481399240187321:=a
def tw9480233240479702546:=a
def tw8073952316086621135:=a
def tw3062095348252359881:=a
def tw17676961816096193462:=a
def tw17485134305785744647:=a
def tw17275069437824055954:=a
def tw16949271262780333754:=a
def tw1665471771229200690:=a
def tw16260009443703015067:=a
def tw13239232896904218055:=a
def tw10292204253737897000:=a
def tw14379728670519788557:=a
def tw5068069171394364566:=a
def tw4324858210629132694:=a
def tw6024811908169954475:=a
def tw2717189840109675378:=a
def tw703378001202016739:=a
def tw5412866203726176104:=a
def tw15964673254822854046:=a
def tw11612079130697594301:=a
def tw10036490048955961762:=a
def tw469263677369943225:=a
def tw9303797444768432050:=a
def tw7905709450142272433:=a
def tw7343652210934831140:=a
def tw6099989472424290628:=a
def tw5850959608044342171:=a
def tw4730026096492921922:=a
def tw4336859252269033407:=a
def tw3657798357061842711:=a
def tw15362006596206377484:=a
def tw11176293179486399450:=a
def tw10726288781792899931:=a
def tw10148354416668651035:=a
def tw10507601137954210171:=a
def tw12526502949992959814:=a
def tw9737274299822051227:=a
def tw5871528087795457793:=a
def tw492515469819748254:=a
def tw4491651844478712769:=a
def tw4488694421086252766:=a
def tw17224660939255345954:=a
def tw16344971123591571192:=a
def tw14197017344963110823:=a
def tw14154028767201220777:=a
def tw13049970752944560927:=a
def tw1220163866142060869:=a
def tw13231927659456603732:=a
def tw7502927745628236971:=a
def tw5519207111412955696:=a
def tw3622342732975449634:=a
def tw2328467088958908066:=a
def tw17602235545329083259:=a
def tw17265916522785133365:=a
def tw16521856712160197102:=a
def tw16283423531964527655:=a
def tw14749288925812356778:=a
def tw10906218179005585058:=a
def tw4254715570845084402:=a
def tw13008221105509350460:=a
def tw16732711309086465204:=a
def tw995526792704767489:=a
end
end PySem.W.Fast
open PySem PySem.W PyProof.Rows
set_option maxRecDepth 100000 in
set_option maxHeartbeats 0 in
theorem PySem.Challenge.cw_royaltree_k13_rows_put_holds : PySem.Challenge.rw_royaltree_k13_rows_put.Holds := by
 w_on;o_law;k_head;(case hw=>w_witness2)
 k_fill
 refine Ro.Wq (l:=PySem.Challenge.rw_royaltree_k13_rows_put) _ [(20,"by_days.<locals>.<lambda>"),(21,"_law_worth.<locals>.<lambda>")] Ro.vz 12 (by decide) ⟨rfl,rfl,by decide,by decide⟩ Ro.Q0 rfl rfl (λw h Y=>PySem.W.km_in_of Y) (λw h Y=>PySem.W.km_tabs_of Y) ?TC ?TK ?F;case TC=>
  intro w h KX;refine List.forall_mem_cons.mpr ⟨?_,List.forall_mem_cons.mpr ⟨?_,λ_ z=>nomatch z⟩⟩
  ·refine' Ro.PV (x:="by_days") (st:=Ro.top 25) ?a ?l ?c;(case a=>k_is);(case l=>k_is);(case c=>first|k_is|kernel_rfl|rfl)
  ·refine' Ro.PV (x:="_law_worth") (st:=Ro.top 39) ?a ?l ?c;(case a=>k_is);(case l=>k_is);(case c=>first|k_is|kernel_rfl|rfl)
 case TK=>
  intro w h KX;refine List.forall_mem_cons.mpr ⟨?_,List.forall_mem_cons.mpr ⟨?_,λ_ z=>nomatch z⟩⟩<;>
  first|k_is|kernel_rfl|rfl
 case F=>
  intro w mg fa h KX G hmg;refine' Ro.Qy KX G hmg ?x0 ?x1 ?x2 ?x3 ?x4 ?x5 ?x6 ?x7 ?x8 ?b ?cI ?rb ?wU ?qe ?jP ?du ?rd ?a_ ?eZ ?jQ ?wV ?wW ?cJ ?Ů ?wX ?cK ?wY ?mu ?ae ?cx ?qT ?af ⟨?d66,?d0,?d1,?d2,?d3,?d4,?d5,?d6,?d7,?d8,?d9,?d10,?d11,?d12,?d13,?d14,?d15,?d16,?d17,?d18,?d19,?d20,?d21,?d22,?d23,?d24,?d25,?d26,?d27,?d28,?d29,?d30,?d31,?d32,?d33,?d34,?d35,?d36,?d37,?d38,?d39,?d40,?d41,?d42,?d43,?d44,?d45,?d46,?d47,?d48,?d49,?d50,?d51,?d52,?d53,?d54,?d55,?d56,?d57,?d58,?d59,?d60,?d61,?d62,?d63,?d64,?d65⟩;(case x0|x1|x2|x3|x4|x5|x6|x7|x8=>(refine' Ro.Wu KX G ?a ?l ?n ?s ?k ?g ?h ?j ?cn ?ct ?i;(case a=>k_is);(case l=>k_is);(case n=>k_is);(case s=>first|rfl|decide+kernel);(case k=>k_is);(case g=>k_is);(case h=>k_is);(case j=>k_is);(case cn=>k_is);(case ct=>k_is);(case i=>first|rfl|decide+kernel)));(case b=>(refine' Ro.Uj (nm:="Book") ?ba ?bp ?bd ?bo ?bs ?bn;(case ba=>k_is);(case bp=>k_is);(case bd=>k_is);(case bo=>k_is);(case bs=>k_is);(case bn=>exact List.forall_mem_cons.mpr ⟨by k_is,List.forall_mem_cons.mpr ⟨by k_is,List.forall_mem_cons.mpr ⟨by k_is,List.forall_mem_cons.mpr ⟨by k_is,List.forall_mem_cons.mpr ⟨by k_is,List.forall_mem_cons.mpr ⟨by k_is,List.forall_mem_cons.mpr ⟨by k_is,List.forall_mem_cons.mpr ⟨by k_is,Ro.RO⟩⟩⟩⟩⟩⟩⟩⟩)));(case cI|rb|wU|qe|jP|du|rd|a_|eZ|jQ|wV|wW|cJ|Ů|wX|cK|wY=>k_is);(case mu=>(refine' Ro.E3 (x:="COIN") (v:=.str "coin") KX G ?a ?r ?w;(case a=>k_is);(case r=>exact⟨_,rfl⟩);(case w=>exact λρ H=>by unfold Mm.VR;rfl)));(case ae=>(refine' Ro.E3 (x:="FIRST_HALF_DAYS") (v:=.int 182) KX G ?a ?r ?w;(case a=>k_is);(case r=>exact⟨_,rfl⟩);(case w=>exact λρ H=>by unfold Mm.VR;rfl)));(case cx=>(refine' Ro.Dh (x:="NOTHING") (vs:=[.int 0,.int 1]) KX G ?a ?l ?v ?s ?w;(case a=>k_is);(case l=>k_is);(case v=>exact .cons ⟨_,rfl⟩ (.cons ⟨_,rfl⟩ (.nil)));(case s=>decide);(case w=>exact λρ H=>.cons (by unfold Mm.VR;rfl) (.cons (by unfold Mm.VR;rfl) (.nil)))));(case qT=>(refine' Ro.Dh (x:="ONE") (vs:=[.int 1,.int 1]) KX G ?a ?l ?v ?s ?w;(case a=>k_is);(case l=>k_is);(case v=>exact .cons ⟨_,rfl⟩ (.cons ⟨_,rfl⟩ (.nil)));(case s=>decide);(case w=>exact λρ H=>.cons (by unfold Mm.VR;rfl) (.cons (by unfold Mm.VR;rfl) (.nil)))));(case af=>(refine' Ro.Dh (x:="WHOLE_COIN_ROWS") (vs:=[.str "of",.str "steps"]) KX G ?a ?l ?v ?s ?w;(case a=>k_is);(case l=>k_is);(case v=>exact .cons ⟨_,rfl⟩ (.cons ⟨_,rfl⟩ (.nil)));(case s=>decide);(case w=>exact λρ H=>.cons (by unfold Mm.VR;rfl) (.cons (by unfold Mm.VR;rfl) (.nil)))));(case d0|d1|d2|d3|d4|d5|d7|d8|d36|d37|d38|d39|d40|d41|d42|d43|d44|d46|d47|d48|d49|d50|d51|d52|d53|d54|d55|d56|d57|d58|d59|d60|d61|d62|d63|d64|d65|d66=>(refine' Ro.Uv KX G ?a ?l ?c ?k;(case a=>k_is);(case l=>k_is);(case c=>k_is);(case k=>k_is)));(case d6|d45=>(refine' Ro.Qu KX G rfl ?a ?l ?c ?k ?h;(case a=>k_is);(case l=>k_is);(case c=>k_is);(case k=>k_is);(case h=>first|k_is|kernel_rfl|rfl)));(case d9=>(refine' Ro.Qs KX G rfl ?g ?a ?l ?c ?k ?f ?m ?kc;(case g=>k_is);(case a=>k_is);(case l=>k_is);(case c=>k_is);(case k=>k_is);(case f=>k_is);(case m=>k_is);(case kc=>k_is)));(case d10|d11|d12|d13|d14|d15|d16|d17|d18|d19|d20|d21|d22|d23|d24|d25|d26|d27|d28|d29|d30|d31|d32|d33|d34|d35=>(refine' Ro.Qt rfl ?a ?l ?c ?k ?f;(case a=>k_is);(case l=>k_is);(case c=>k_is);(case k=>k_is);(case f=>k_is)))
