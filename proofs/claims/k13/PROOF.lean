import PyProof.Rows.All
import Wide.All
import OpenK.AllK
import Wide.FinOn
import PySem.Challenge.RW_pegleap_k13_whole_turned_about
import Lean
import PyProof.EqAt
import PyProof.EqKinds
import PyProof.TupleCall
import KE.KIsAll
import PyProof.ExcAttrAll.ValueError
import OpenK.KDescr
import PyProof.NeKinds
import PySem.SetOps
import PyProof.ZipIter
import KE.KDictOf
import PyProof.AttrMissHeap
import PyProof.FactsAll.zip_1
import PyProof.DictRoadsH
import PyProof.TupleKey
import PyProof.EnumMake
import PyProof.ConsumeWalk
import PyProof.FactsAll.list_3
import PyProof.SumWalkG
import PyProof.WalkInts
import PyProof.SeqI3
import PyProof.DictUpdate
import PyProof.DictItems
import PyProof.Rows.TupDisplay
import PyProof.DictIter
import PyProof.DictWalks
import PyProof.Conv_int_bool
import KE.KLam
import KE.KSortKey
import Open.Pieces
set_option hygiene false
set_option compiler.extract_closed false
set_option Elab.async false
set_option linter.all false
set_option maxRecDepth 100000
set_option maxHeartbeats 4000000
noncomputable section
def zu0(_:True:=by rfl):True:=trivial
def zu1(_:True:=by decide):True:=trivial
def zu2(_:True:=by k_is):True:=trivial
def zu3(_:True:=by intro _;rfl):True:=trivial
def zu4(_:True:=by first|exact .inl rfl|exact .inr rfl|assumption):True:=trivial
def zu5(_:True:=by with_unfolding_all rfl):True:=trivial
def zu6(_:True:=by decide +kernel):True:=trivial
def zu7(_:True:=by(repeat intro _);rfl):True:=trivial
def zu8(_:True:=by kernel_rfl):True:=trivial
section
open PySem PySem.Spec PySem.W PyProof.Rows
abbrev aW9:=@if_pos
abbrev aX0:=@if_neg
abbrev aX1:=@decide_eq_true
abbrev aX2:=@decide_eq_false
abbrev aX3:=@beq_iff_eq
abbrev aX4:=@decide_eq_true_eq
abbrev aX5:=@of_decide_eq_true
abbrev aX6:=@beq_eq_false_iff_ne
abbrev aX7:=@if_false
abbrev aX8:=@if_true
abbrev aX9:=@or_false
abbrev aY0:=@beq_self_eq_true
abbrev aY1:=@absurd
abbrev aY2:=@bne_self_eq_false
abbrev aY3:=@of_decide_eq_false
end
open PySem.W (Frag)
open PySem renaming Value->au,World->bI,Program->cS,Addr->av,Heap->aQ,sizeLine->cG,sysModules->nN,entryOfKey->pN,mainGlobals->cZ,bootBuiltins->kZ,Around->bX,Shared->ay,Scope->i0,wpAny->aA,Expr->bg,model->aC,starEach->bH,Stmt->aX,wpAny_mono->gR,wpAny_Name->Cc,wpAny_loadName_local->LB,wpAny_truthy_bool->vp,wpAny_execs_nil->HS,wpAny_execs_cons->VU,assignEach->qQ,wpAny_assign_Name->VV,wpAny_bind->ak,wpAny_holding->iN,wpAny_standAt->yX,wpAny_pure->aB,wpAny_newObj_type->nF,wpAny_rule->vq,wpAny_passesOwn->vt,wpAny_pyNext_list_item->VW,wpAny_pyNext_list_end->VX,wpAny_pyIter_list->VY,foldedSetIterable->qR,compareOp->gU,sizeLine_eq->fQ,attributeBase->mO,wpAny_Tuple_spliced->LC,FuncData->gr,mem_of_lookup->vz,wpAny_newFunctionEnv_cells->LD,wpAny_Call_Name_kw->sH,evalPart_none->EL,slot_list_getitem->EM,wpAny_getItem_list_slice->LF,wpAny_Call_method_late->LG,codeAny_mono->sI,wpAny_field->pZ,wpAny_setField->q8,wpAny_call->Ad,wpAny_attempt->nO,wpAny_newTuple->EN,wpAny_newList->vA,wpAny_loadPart'->jH,wpAny_forIn_list->lI,richCompare_meets_room->LH,wpAny_call_entry->gF,SetTable->gG,wpAny_setState_of->LJ,putSet_of->Ae,wpAny_of_eq->sJ,wpAny_storeSet_of->LK,codeAny_builtin->lJ,plainId_quiet->vB,wpAny_askSetting->EO,entryFor_of_tree->LL,wpAny_pyIter_slot->Af,wpAny_callSpecial?_slot->q9,wpAny_fieldsOf->sN,firstArgMember->sO,wpAny_handled->ER,wpAny_throw->ES,wpAny_isInstance->qc,isSubtype_stop->ET,wpAny_specialOf->nP,wpAny_typeOf->Ag,wpAny_seqItems->EU,wpAny_comprehension_free->LM,wpAny_tupleItemsOf->EV,isSubtype_tuple_tuple->LN,wpAny_pyIter_enum->LO,storedH_new->Ah,wpAny_dictEntries->jI,wpAny_letGo->EW,size_of_entries->nQ,DictEntry->qd,wpAny_dictEpoch->nR,wpAny_notOrdered_dict->EX,wpAny_typeNameOfWhole_itemiter->Ai,wpAny_typeNameOf_itemiter->Aj,wpAny_isOneOf_itemiter->EY,wpAny_setField_rec->vC,wpAny_typeNameOfWhole_keyiter->Ak,wpAny_typeNameOf_keyiter->Al,wpAny_isOneOf_keyiter->LP,Params->dP
open PySem.Value renaming int->Jo,str->WX,isInt_shape->ae7,none->dI,ref->eG,type->uh
open PySem.W renaming instObj->um,hideAll->yY,hideAll_get->LQ,of_hideAll->HU,hideAll_none->VZ,Frag->aD,findIn->vD,emptyDict->qS,keepIn->sP,cellsFrom_some->LR,fnOf->mP,callWith_K->LS,kas_item_eq->EZ
open PySem.Heap renaming lt_size->bY,SameBut->gH,get?_push_of_some->bM,get?_push_size->dW,size_push->yZ,get?_update_other->F0,get?_update_self->mQ,get?_update_ne->F5,size_update->LU
open Nat renaming lt_of_lt_of_le->i6,lt_irrefl->qT,ne_of_lt->dh,le_trans->cj,le_of_lt->iO,ne_of_gt->Ce,le_refl->aZ,le_of_eq->LV,lt_succ_self->z4,zero_le->gI,le_of_not_lt->lK,le_succ->vE,not_lt_zero->jf,min_self->LW,lt_of_le_of_lt->qe,le_add_right->F6,lt_of_succ_lt->sQ,lt_of_le_of_ne->LX,zero_add->kq,pos_of_ne_zero->F7,add_zero->F8,add_sub_cancel->Am,add_assoc->vF,not_lt->F9,pow_succ->LY,mod_lt->qf,succ_pos->sR,div_eq_of_lt->LZ,lt_or_eq_of_le->M1,lt_trichotomy->sS,min_eq_left->Fe,lt_succ_of_lt->vG,eq_zero_or_pos->M6,le_antisymm->M7,sub_zero->M8,lt_or_ge->M9,min_eq_right->Ma,add_comm->Mb,succ_mul->Mc,pow_le_pow_right->Me
open List renaming range->cU,mem_filter->lZ,mem_range->m6,filterMap_cons->HV,mem_cons_self->uo,mem_cons_of_mem->nS,mem_cons->bR,mem_append->gh,mem_append_left->HW,getElem?_eq_some_iff->fR,getElem?_set_self->m7,getElem?_set_ne->l0,mem_filterMap->Cf,mem_append_right->nG,length_cons->cK,lookup->pO,map_cons->aW,length_map->bf,append_nil->jJ,nodup_cons->iP,of_mem_zip->Ff,replicate->kr,length_take->ku,getElem?_append_right->jK,getElem?_replicate->sU,getElem?_append_left->lN,getElem?_map->cY,getElem?_take_of_lt->Fg,take_sublist->Mf,mem_of_getElem?->jg,length_append->bU,length_replicate->Fi,length_drop->vH,size_toArray->d8,reverse_cons->vI,length_singleton->An,map_nil->lO,filterMap_cons_some->Mg,exists_cons_of_length_eq_add_one->sV,eq_nil_of_length_eq_zero->Mh,all_map->Mi,extract_eq_take_drop->fT,map_take->Fj,map_drop->Fl,pairwise_append->vJ,append_assoc->f9,pairwise_iff_getElem->qg,drop_eq_getElem_cons->sW,mem_iff_getElem->iQ,take_append_drop->mR,take_of_length_le->sZ,drop_length->Ao,mem_of_mem_drop->t6,mem_singleton->dQ,not_mem_nil->fE,reverse_append->Mj,mem_reverse->qh,reverse_perm->Fo,pairwise_reverse->Fp,mem_of_mem_take->nU,take_length->vK,nil_append->dw,length_reverse->Ml,getD_eq_getElem?_getD->mS,length_eq_zero_iff->nV,foldl_cons->Mm,getElem?_take->Fq,getElem?_drop->Mn,map_append->gu,ext_getElem?->vL,getElem?_eq_none->nW,ext_getElem->Mp,length_range->t7,map_toArray->Ft,map_map->d9,map_congr_left->mT,append_inj->Mq,cons_append->vM,zip_cons_cons->Mr,countP_cons->vN,pairwise_map->Aq,all_eq_true->fU,getElem?_cons_succ->Ms,getElem?_eq_getElem->dz,pairwise_lt_range->Mt,getElem?_range->Fv,getElem_mem->t8,mem_map->aL,perm_middle->Mu,nodup_iff_pairwise_ne->qi,getElem_map->t9,nodup_nil->tu,eraseIdx_eq_take_drop_succ->Mv,isEmpty_nil->Fw,length_nil->nX,take_succ->Mw,take_succ_cons->Mz,drop_succ_cons->MA,any_cons->nY,getElem?_eq_none_iff->mU,mapM_cons->Fx,perm_ext_iff_of_nodup->Fy,lookup_cons->mV,getElem?_mapIdx->Fz,flatMap_cons->qj,find?_cons->vO,zip_append->MB,flatMap_append->nZ,nodup_append->vP,range'_succ->MC,any_map->Ar,any_eq_true->lP,find?_eq_none->MD,drop_of_length_le->FA,map_id->As,filter_cons_of_pos->ME,filter_cons_of_neg->MF,mem_flatMap->MG,pairwise_cons->vQ,filter_sublist->mW,mem_erase_of_ne->MH,length_erase_of_mem->MJ,length_pos_of_mem->MK,zipIdx_map_fst->FE,length_filter_le->oh,filter_append->FF,foldl_append->Au,flatMap_singleton->ML,map_eq_nil_iff->MM,sum_cons->tw
open Ne renaming symm->dZ
open Option.some renaming inj->eN
open PySem.Calls renaming Constant_str->W0,Name_function_global->MN,loadGlobal_builtin->W6,spliced_nil->Av,spliced_cons->vR,call_len_list->MO,callWith_builtin->FG,evalArgs_plain->FH
open Array renaming length_toList->d7,mem_toList_iff->z5,getElem?_eq_some_iff->oj,getElem_toList->MP,getD_eq_getD_getElem?->iR,perm_iff_toList_perm->MQ,getElem?_toList->lQ,toList_push->FI,toList_inj->Aw,toList_zip->MR,getElem?_eq_none->qk,getElem?_eq_none_iff->MS,getElem?_eq_getElem->vS,any_toList->Ax,forIn_toList->vU,isEmpty_iff->MT,size_push->MU
open PyProof.Rows renaming assignInOrder_nil->W7,assignInOrder_cons->MV,callWith_type1->MW,callWith_builtin1->MX,lt_int->WY,Subscript_->FJ,subscriptTail_builtinR->MY,SortSt->bF,SortKind->gV,wpS_bind->aF,wpS_get->lR,wpS_pure->aM,wpS_modify->qm,wpS_forRange->iA,wpS_mono->jL,seqObj->bZ,get?_update_seq->vV,listItems_at->FL,listUpdate_at->qp,seqEpoch_at->vW,seqObj->eO,listUpdate_at->FN,get?_update_seq->FO,entry_proto_collect'->WZ,entry_list_iadd'->X0,callWith_kw->X3
open Bool renaming false_ne_true->iS,and_eq_true->bV,and_true->vX,and_false->FP,eq_false_iff->tE,not_true->iC,false_eq_true->cP,not_false->Ay,or_eq_true->kB,true_and->MZ,not_eq_true->N1,false_or->Az,eq_iff_iff->om
open PySem.W.Looks renaming here->ae8
open PySem.Within renaming cons->ae9
open Option renaming isSome_iff_exists->N2,getD_none->N3,map_eq_some_iff->N4,bind_eq_some_iff->FQ
open False renaming elim->mX
open PySem.Heap.IsSliceOf renaming new->N5
open PySem.Obj renaming mapSeq->cQ,isFreed_of_fields->AA,data_mapFields->tF,cls_mapFields->FT,isFreed_of_dict->N6,data_mapDictKeys->AB
open Or renaming inl->fF,inr->gJ
open PySem.Heap.UpToSlots renaming of_keeps->X4
open Nat.succ renaming inj->fj
open List.Perm renaming append_left->N7,eq_of_pairwise->FU
open PySem.Heap.SameBut renaming update->eS,refl->N8
open StateT renaming run_pure->N9
open List.cons renaming inj->Na
open PySem.SetTable renaming insertAt->iT
open List.Pairwise renaming filterMap->X5,map->qq,sublist->X6
open PyProof.Rows.F renaming entry_set_update_loop->Nb,plain_set_update_loop->FW
open PySem.Around renaming under_plainId->qt
open PySem.F renaming plain_set_new->Nc,called_set->ou,slot_set_iter->Nd,slot_tuple_hash->Nf,slot_tuple_eq->AD,slot_dict_len->Ng,slot_dict_update->Nh,plainAttrs_dict->Ni,slot_dict_items_iter->Nj,slot_dict_itemiterator_next->vY,entry_dict_itemiterator_next->Nk,args_dict_itemiterator_next_1->Nl,slot_dict_itemiterator_iter->Nm,slot_dict_get->Nn,slot_dict_iter->Np,slot_dict_keyiterator_next->vZ,entry_dict_keyiterator_next->Nq,args_dict_keyiterator_next_1->Nr
open PySem.Code renaming quiet_builtin->FY
open PySem.Str renaming ofString->kC
open Int renaming toNat_natCast->jM,zero_add->Nt,eq_ofNat_of_zero_le->w5,mul_nonneg->Nu,mul_le_mul->Nv,emod_nonneg->FZ,emod_lt_of_pos->G1,mul_ediv_add_emod->Nx,ediv_nonneg->Ny,ediv_lt_of_lt_mul->Nz
open Decidable renaming byContradiction->AE
open ForInStep renaming yield->lS
open PySem.Builtin.Tuple renaming tupleHashOf->AF
open PySem.Expr renaming Subscript->tG
open PySem.Builtin.Dict renaming showsAll->w6
open Std.Legacy.Range renaming forIn_eq_forIn_range'->X7
open PySem.Builtin.Dict_items renaming ownsTuple->w9
open Prod renaming ext->mY
open Prod.mk renaming injEq->we
def wg{p0 p1 p2:Prop}{G:Prop}(h:p0/\p1/\p2)(f:p0->p1->p2->G):G:=f h.1 h.2.1 h.2.2
def aO{lT:Sort _}{p0 p1:lT->Prop}{G:Prop}(h:∃a0,p0 a0/\p1 a0)(f:∀a0,p0 a0->p1 a0->G):G:=h.elim fun a0 h=>f a0 h.1 h.2
def qu{lT oz:Sort _}{p0:lT->oz->Prop}{G:Prop}(h:∃a0 a1,p0 a0 a1)(f:∀a0 a1,p0 a0 a1->G):G:=h.elim fun a0 h=>h.elim fun a1 h=>f a0 a1 h
def G3{p0 p1 p2 p3:Prop}{G:Prop}(h:p0/\p1/\p2/\p3)(f:p0->p1->p2->p3->G):G:=f h.1 h.2.1 h.2.2.1 h.2.2.2
def cC{lT:Sort _}{p0 p1 p2:lT->Prop}{G:Prop}(h:∃a0,p0 a0/\p1 a0/\p2 a0)(f:∀a0,p0 a0->p1 a0->p2 a0->G):G:=h.elim fun a0 h=>f a0 h.1 h.2.1 h.2.2
def di{lT oz:Sort _}{p0 p1:lT->oz->Prop}{G:Prop}(h:∃a0 a1,p0 a0 a1/\p1 a0 a1)(f:∀a0 a1,p0 a0 a1->p1 a0 a1->G):G:=h.elim fun a0 h=>h.elim fun a1 h=>f a0 a1 h.1 h.2
def S5{p0 p1 p2 p3 p4:Prop}{G:Prop}(h:p0/\p1/\p2/\p3/\p4)(f:p0->p1->p2->p3->p4->G):G:=f h.1 h.2.1 h.2.2.1 h.2.2.2.1 h.2.2.2.2
def aD4{lT:Sort _}{p0 p1 p2 p3:lT->Prop}{G:Prop}(h:∃a0,p0 a0/\p1 a0/\p2 a0/\p3 a0)(f:∀a0,p0 a0->p1 a0->p2 a0->p3 a0->G):G:=h.elim fun a0 h=>f a0 h.1 h.2.1 h.2.2.1 h.2.2.2
def bw{lT oz:Sort _}{p0 p1 p2:lT->oz->Prop}{G:Prop}(h:∃a0 a1,p0 a0 a1/\p1 a0 a1/\p2 a0 a1)(f:∀a0 a1,p0 a0 a1->p1 a0 a1->p2 a0 a1->G):G:=h.elim fun a0 h=>h.elim fun a1 h=>f a0 a1 h.1 h.2.1 h.2.2
def S6{lT oz wj:Sort _}{p0 p1:lT->oz->wj->Prop}{G:Prop}(h:∃a0 a1 a2,p0 a0 a1 a2/\p1 a0 a1 a2)(f:∀a0 a1 a2,p0 a0 a1 a2->p1 a0 a1 a2->G):G:=h.elim fun a0 h=>h.elim fun a1 h=>h.elim fun a2 h=>f a0 a1 a2 h.1 h.2
def uI{p0 p1 p2 p3 p4 p5:Prop}{G:Prop}(h:p0/\p1/\p2/\p3/\p4/\p5)(f:p0->p1->p2->p3->p4->p5->G):G:=f h.1 h.2.1 h.2.2.1 h.2.2.2.1 h.2.2.2.2.1 h.2.2.2.2.2
def S7{lT:Sort _}{p0 p1 p2 p3 p4:lT->Prop}{G:Prop}(h:∃a0,p0 a0/\p1 a0/\p2 a0/\p3 a0/\p4 a0)(f:∀a0,p0 a0->p1 a0->p2 a0->p3 a0->p4 a0->G):G:=h.elim fun a0 h=>f a0 h.1 h.2.1 h.2.2.1 h.2.2.2.1 h.2.2.2.2
def uJ{lT oz:Sort _}{p0 p1 p2 p3:lT->oz->Prop}{G:Prop}(h:∃a0 a1,p0 a0 a1/\p1 a0 a1/\p2 a0 a1/\p3 a0 a1)(f:∀a0 a1,p0 a0 a1->p1 a0 a1->p2 a0 a1->p3 a0 a1->G):G:=h.elim fun a0 h=>h.elim fun a1 h=>f a0 a1 h.1 h.2.1 h.2.2.1 h.2.2.2
def X8{lT oz wj:Sort _}{p0 p1 p2:lT->oz->wj->Prop}{G:Prop}(h:∃a0 a1 a2,p0 a0 a1 a2/\p1 a0 a1 a2/\p2 a0 a1 a2)(f:∀a0 a1 a2,p0 a0 a1 a2->p1 a0 a1 a2->p2 a0 a1 a2->G):G:=h.elim fun a0 h=>h.elim fun a1 h=>h.elim fun a2 h=>f a0 a1 a2 h.1 h.2.1 h.2.2
def aD5{lT oz wj Jp:Sort _}{p0 p1:lT->oz->wj->Jp->Prop}{G:Prop}(h:∃a0 a1 a2 a3,p0 a0 a1 a2 a3/\p1 a0 a1 a2 a3)(f:∀a0 a1 a2 a3,p0 a0 a1 a2 a3->p1 a0 a1 a2 a3->G):G:=h.elim fun a0 h=>h.elim fun a1 h=>h.elim fun a2 h=>h.elim fun a3 h=>f a0 a1 a2 a3 h.1 h.2
def aD6{lT oz wj Jp α4:Sort _}{p0:lT->oz->wj->Jp->α4->Prop}{G:Prop}(h:∃a0 a1 a2 a3 a4,p0 a0 a1 a2 a3 a4)(f:∀a0 a1 a2 a3 a4,p0 a0 a1 a2 a3 a4->G):G:=h.elim fun a0 h=>h.elim fun a1 h=>h.elim fun a2 h=>h.elim fun a3 h=>h.elim fun a4 h=>f a0 a1 a2 a3 a4 h
def Jq{lT oz:Sort _}{p0 p1 p2 p3 p4:lT->oz->Prop}{G:Prop}(h:∃a0 a1,p0 a0 a1/\p1 a0 a1/\p2 a0 a1/\p3 a0 a1/\p4 a0 a1)(f:∀a0 a1,p0 a0 a1->p1 a0 a1->p2 a0 a1->p3 a0 a1->p4 a0 a1->G):G:=h.elim fun a0 h=>h.elim fun a1 h=>f a0 a1 h.1 h.2.1 h.2.2.1 h.2.2.2.1 h.2.2.2.2
def S8{lT oz wj:Sort _}{p0 p1 p2 p3:lT->oz->wj->Prop}{G:Prop}(h:∃a0 a1 a2,p0 a0 a1 a2/\p1 a0 a1 a2/\p2 a0 a1 a2/\p3 a0 a1 a2)(f:∀a0 a1 a2,p0 a0 a1 a2->p1 a0 a1 a2->p2 a0 a1 a2->p3 a0 a1 a2->G):G:=h.elim fun a0 h=>h.elim fun a1 h=>h.elim fun a2 h=>f a0 a1 a2 h.1 h.2.1 h.2.2.1 h.2.2.2
def aD7{lT oz wj Jp:Sort _}{p0 p1 p2:lT->oz->wj->Jp->Prop}{G:Prop}(h:∃a0 a1 a2 a3,p0 a0 a1 a2 a3/\p1 a0 a1 a2 a3/\p2 a0 a1 a2 a3)(f:∀a0 a1 a2 a3,p0 a0 a1 a2 a3->p1 a0 a1 a2 a3->p2 a0 a1 a2 a3->G):G:=h.elim fun a0 h=>h.elim fun a1 h=>h.elim fun a2 h=>h.elim fun a3 h=>f a0 a1 a2 a3 h.1 h.2.1 h.2.2
def af0{lT oz:Sort _}{p0 p1 p2 p3 p4 p5:lT->oz->Prop}{G:Prop}(h:∃a0 a1,p0 a0 a1/\p1 a0 a1/\p2 a0 a1/\p3 a0 a1/\p4 a0 a1/\p5 a0 a1)(f:∀a0 a1,p0 a0 a1->p1 a0 a1->p2 a0 a1->p3 a0 a1->p4 a0 a1->p5 a0 a1->G):G:=h.elim fun a0 h=>h.elim fun a1 h=>f a0 a1 h.1 h.2.1 h.2.2.1 h.2.2.2.1 h.2.2.2.2.1 h.2.2.2.2.2
def Cg{lT oz wj:Sort _}{p0 p1 p2 p3 p4:lT->oz->wj->Prop}{G:Prop}(h:∃a0 a1 a2,p0 a0 a1 a2/\p1 a0 a1 a2/\p2 a0 a1 a2/\p3 a0 a1 a2/\p4 a0 a1 a2)(f:∀a0 a1 a2,p0 a0 a1 a2->p1 a0 a1 a2->p2 a0 a1 a2->p3 a0 a1 a2->p4 a0 a1 a2->G):G:=h.elim fun a0 h=>h.elim fun a1 h=>h.elim fun a2 h=>f a0 a1 a2 h.1 h.2.1 h.2.2.1 h.2.2.2.1 h.2.2.2.2
def af1{lT oz wj Jp:Sort _}{p0 p1 p2 p3:lT->oz->wj->Jp->Prop}{G:Prop}(h:∃a0 a1 a2 a3,p0 a0 a1 a2 a3/\p1 a0 a1 a2 a3/\p2 a0 a1 a2 a3/\p3 a0 a1 a2 a3)(f:∀a0 a1 a2 a3,p0 a0 a1 a2 a3->p1 a0 a1 a2 a3->p2 a0 a1 a2 a3->p3 a0 a1 a2 a3->G):G:=h.elim fun a0 h=>h.elim fun a1 h=>h.elim fun a2 h=>h.elim fun a3 h=>f a0 a1 a2 a3 h.1 h.2.1 h.2.2.1 h.2.2.2
def aD8{lT oz wj:Sort _}{p0 p1 p2 p3 p4 p5:lT->oz->wj->Prop}{G:Prop}(h:∃a0 a1 a2,p0 a0 a1 a2/\p1 a0 a1 a2/\p2 a0 a1 a2/\p3 a0 a1 a2/\p4 a0 a1 a2/\p5 a0 a1 a2)(f:∀a0 a1 a2,p0 a0 a1 a2->p1 a0 a1 a2->p2 a0 a1 a2->p3 a0 a1 a2->p4 a0 a1 a2->p5 a0 a1 a2->G):G:=h.elim fun a0 h=>h.elim fun a1 h=>h.elim fun a2 h=>f a0 a1 a2 h.1 h.2.1 h.2.2.1 h.2.2.2.1 h.2.2.2.2.1 h.2.2.2.2.2
def af2{lT oz wj Jp:Sort _}{p0 p1 p2 p3 p4:lT->oz->wj->Jp->Prop}{G:Prop}(h:∃a0 a1 a2 a3,p0 a0 a1 a2 a3/\p1 a0 a1 a2 a3/\p2 a0 a1 a2 a3/\p3 a0 a1 a2 a3/\p4 a0 a1 a2 a3)(f:∀a0 a1 a2 a3,p0 a0 a1 a2 a3->p1 a0 a1 a2 a3->p2 a0 a1 a2 a3->p3 a0 a1 a2 a3->p4 a0 a1 a2 a3->G):G:=h.elim fun a0 h=>h.elim fun a1 h=>h.elim fun a2 h=>h.elim fun a3 h=>f a0 a1 a2 a3 h.1 h.2.1 h.2.2.1 h.2.2.2.1 h.2.2.2.2
def aD9{lT oz wj Jp:Sort _}{p0 p1 p2 p3 p4 p5:lT->oz->wj->Jp->Prop}{G:Prop}(h:∃a0 a1 a2 a3,p0 a0 a1 a2 a3/\p1 a0 a1 a2 a3/\p2 a0 a1 a2 a3/\p3 a0 a1 a2 a3/\p4 a0 a1 a2 a3/\p5 a0 a1 a2 a3)(f:∀a0 a1 a2 a3,p0 a0 a1 a2 a3->p1 a0 a1 a2 a3->p2 a0 a1 a2 a3->p3 a0 a1 a2 a3->p4 a0 a1 a2 a3->p5 a0 a1 a2 a3->G):G:=h.elim fun a0 h=>h.elim fun a1 h=>h.elim fun a2 h=>h.elim fun a3 h=>f a0 a1 a2 a3 h.1 h.2.1 h.2.2.1 h.2.2.2.1 h.2.2.2.2.1 h.2.2.2.2.2
def X9{lT oz wj Jp α4 α5 α6 α7 α8:Sort _}{p0 p1 p2:lT->oz->wj->Jp->α4->α5->α6->α7->α8->Prop}{G:Prop}(h:∃a0 a1 a2 a3 a4 a5 a6 a7 a8,p0 a0 a1 a2 a3 a4 a5 a6 a7 a8/\p1 a0 a1 a2 a3 a4 a5 a6 a7 a8/\p2 a0 a1 a2 a3 a4 a5 a6 a7 a8)(f:∀a0 a1 a2 a3 a4 a5 a6 a7 a8,p0 a0 a1 a2 a3 a4 a5 a6 a7 a8->p1 a0 a1 a2 a3 a4 a5 a6 a7 a8->p2 a0 a1 a2 a3 a4 a5 a6 a7 a8->G):G:=h.elim fun a0 h=>h.elim fun a1 h=>h.elim fun a2 h=>h.elim fun a3 h=>h.elim fun a4 h=>h.elim fun a5 h=>h.elim fun a6 h=>h.elim fun a7 h=>h.elim fun a8 h=>f a0 a1 a2 a3 a4 a5 a6 a7 a8 h.1 h.2.1 h.2.2
namespace L2
open PySem PySem.Spec PyProof.Rows
abbrev Key:=Sum Int Str
def W8:Key->au->Bool
 | .inl k,v=>Value.isInt k v
 | .inr x,v=>Value.isStrOf x v
def aE0(w:bI):Key->Int
 | .inl k=>hashInt k
 | .inr x=>hashStr w x
theorem eW:∀{k:Key} {v:au},W8 k v=true->(∃i t,k=Sum.inl i/\v=Jo i t)\/(∃x t,k=Sum.inr x/\v=WX x t)
 | .inl i,v,h=>by
  obtain⟨t,e⟩:=ae7 (k:=i) (v:=v) h;exact .inl ⟨i,t,rfl,e⟩
 | .inr x,v,h=>by
  obtain⟨t,e⟩:=Value.isStrOf_shape (x:=x) (v:=v) h;exact .inr ⟨x,t,rfl,e⟩
def Xa(a b:Int):decide ((Sum.inl a:Key)=Sum.inl b)=(a==b):=by
 by_cases e:a=b;subst e;simp;have h:¬ (Sum.inl a:Key)=Sum.inl b:=fun q=>e (Sum.inl.inj q);rw[aX2 h];exact(aX6.mpr e).symm
def Xb(a b:Str):decide ((Sum.inr a:Key)=Sum.inr b)=decide (a=b):=by
 by_cases e:a=b;subst e;simp;have h:¬ (Sum.inr a:Key)=Sum.inr b:=fun q=>e (Sum.inr.inj q);rw[aX2 h,aX2 e]
def Xc(a:Int)(b:Str):decide ((Sum.inl a:Key)=Sum.inr b)=false:=aX2 (fun q=>nomatch q)
def Xd(a:Str)(b:Int):decide ((Sum.inr a:Key)=Sum.inl b)=false:=aX2 (fun q=>nomatch q)
def HX(prog:cS)(w:bI):PySem.KeyKind prog w Key where
 is:=W8
 hash:=aE0 w
 inj:=fun v a b ha hb=>by
  rcases eW ha with⟨i,t,rfl,rfl⟩|⟨x,t,rfl,rfl⟩;rcases eW hb with⟨j,u,rfl,e⟩|⟨y,u,rfl,e⟩;injection e with e1 _;rw[e1];exact nomatch e;rcases eW hb with⟨j,u,rfl,e⟩|⟨y,u,rfl,e⟩;exact nomatch e;injection e with e1 _;rw[e1]
 byValue:=fun k v h=>by
  rcases eW h with⟨i,t,rfl,rfl⟩|⟨x,t,rfl,rfl⟩ <;> rfl
 pyHash:=fun hv h=>by
  rcases eW hv with⟨i,t,rfl,rfl⟩|⟨x,t,rfl,rfl⟩;exact wpAny_pyHash_int h;exact wpAny_pyHash_str h
 eqBool:=fun hu hv h=>by
  rcases eW hu with⟨i,t,rfl,rfl⟩|⟨x,t,rfl,rfl⟩;rcases eW hv with⟨j,u,rfl,rfl⟩|⟨y,u,rfl,rfl⟩;rw[Xa]at h;exact wpAny_eqBool_int h;rw[Xc]at h;exact SeqAt.EqAt.int_str i t y u _ _ _ _ h;rcases eW hv with⟨j,u,rfl,rfl⟩|⟨y,u,rfl,rfl⟩;rw[Xd]at h;exact SeqAt.EqAt.str_int x t j u _ _ _ _ h;rw[Xb]at h;exact wpAny_eqBool_str h
 «strs»:=fun k x t v h=>by
  rcases eW h with⟨i,u,rfl,e⟩|⟨y,u,rfl,e⟩;exact nomatch e;injection e with e1 _;subst e1;cases v <;> rfl
inductive V where
 | cM|bl (b:Bool)|int (i:Int)|str (x:Str)|byt (b:Array UInt8)|flt (b:UInt64)|ref (a:av)|ty (n:String)
 deriving DecidableEq
def RelV:V->au->Prop
 | .cM,u=>u=dI
 | .bl b,u=>u=Value.bool b
 | .int i,u=>∃t,u=Jo i t
 | .str x,u=>∃t,u=WX x t
 | .byt b,u=>∃t,u=Value.bytes b t
 | .flt b,u=>∃t,u=Value.float b t
 | .ref a,u=>u=eG a
 | .ty n,u=>u=uh n
abbrev Vals:List V->List au->Prop:=Paired RelV
theorem Vals.length(r:Vals xs us):xs.length=us.length:=Paired.length r
theorem Vals.get:∀{xs:List V} {us:List au} {i:Nat} {x:V},Vals xs us->xs[i]?=some x->∃u,us[i]?=some u/\RelV x u
 | _,_,_,_,.nil,e=>by simp at e
 | _,_,0,_,.cons r _,e=>by simp at e;subst e;exact⟨_,rfl,r⟩
 | _,_,i+1,x,.cons _ t,e=>by
  refine aO (Vals.get (i:=i) (x:=x) t (by simpa using e)) fun u h1 h2=>?_;exact⟨u,by simpa using h1,h2⟩
def Vals.append(h:Vals xs us)(s:Vals ys ws):Vals (xs++ys) (us++ws):=by
 induction h with
 | nil=>exact s
 | cons r t ih=>exact .cons r ih
theorem Vals.take:∀{xs:List V} {us:List au} (n:Nat),Vals xs us->Vals (xs.take n) (us.take n)
 | _,_,0,_=>.nil
 | _,_,_+1,.nil=>.nil
 | _,_,n+1,.cons r t=>.cons r (Vals.take n t)
theorem Vals.drop:∀{xs:List V} {us:List au} (n:Nat),Vals xs us->Vals (xs.drop n) (us.drop n)
 | _,_,0,r=>r
 | _,_,_+1,.nil=>.nil
 | _,_,n+1,.cons _ t=>Vals.drop n t
def G4:Option V->Option au->Prop
 | some v,some u=>RelV v u
 | none,none=>True
 | _,_=>False
def KV{κ:Type}:List (κ×V)->List (κ×au)->Prop:=Paired fun(p:κ×V) (q:κ×au)=>p.1=q.1/\RelV p.2 q.2
def kV:Key->V
 | .inl i=>.int i
 | .inr x=>.str x
inductive HO where
 | lst (xs:List V)
 | tup (xs:List V)
 | dK (Ci:List (Key×V))|dT (Ci:List (List Key×V))
 | set (S:Int->Bool) (n:Nat)
 | ins (C dx:av) (fs:List (Str×V))
 | own (x:av)
 | xd (fs:List (Str×V))
 | met (f x:av)
 | Xe (lo hi:Int)
 | Cj (o:Obj) (u:HO)
 | Ck (p:PySem.Pos) (q:Str)
 | ext (φ:aQ->Prop)
abbrev Hp:=av->Option HO
def upd(H:Hp)(a:av)(o:HO):Hp:=fun b=>if b=a then some o else H b
def bS:upd H a o a=some o:=by unfold upd;rw[aW9 rfl]
def aR(h:b≠a):upd H a o b=H b:=by unfold upd;rw[aX0 h]
def aY{H:Hp}(h:H a=some o)(h':H b=none):a≠b:=by
 intro e;subst e;rw[h]at h';cases h'
section
variable (P:cS)(w:bI)
def gk(H:Hp)(h:aQ)(a:av):HO->Prop
 | .lst xs=>xs.length<=cG/\∃(bx:List au) (n:Nat),Vals xs bx/\h.get? a=some {cls:=.type "list",data:=.seq bx.toArray n}
 | .tup xs=>xs.length<=cG/\∃bx:List au,Vals xs bx/\IsTup h a bx.toArray
 | .dK Ci=>Ci.length<=cG/\(a==nN)=false/\∃vs,KV Ci vs/\h.DictOf (HX P w) a vs
 | .dT Ci=>Ci.length<=cG/\(a==nN)=false/\∃xs:List (List Key×av×au),
   Paired (fun(p:List Key×V) (q:List Key×av×au)=>p.1=q.1/\H q.2.1=some (.tup (p.1.map kV))/\RelV p.2 q.2.2) Ci xs/\
   ∃o es ep,h.get? a=some o/\o.ExactDict/\o.data = .dict es ep/\es.toList=xs.map (pN (tupleKind (HX P w)))/\(xs.map (·.1)).Nodup
 | .set S n=>h.SetOf (intKind P w) a S n
 | .ins C dx fs=>H dx=some (.own a)/\fs.length<=1000/\dx≠a/\h.get? a=some (um C dx)/\
   ∃mA,h.Ns1 dx mA/\(∀f,G4 (fs.lookup f) (mA f))/\PySem.Within mA (fs.map (·.1))
 | .own _=>∃o,h.get? a=some o
 | .xd fs=>∃mA,h.Ns1 a mA/\∀f,G4 (fs.lookup f) (mA f)
 | .Xe lo hi=>∃t u v,h.get? a=some {cls:=.type "range",data:=.fields #[.int lo t,.int hi u,.int 1 v]}
 | .Cj o u=>h.get? a=some o/\gk H h a u
 | .Ck p q=>∃ps:Array au,h.get? a=some {cls:=.none,data:=.fields ps}/\TriplesOk ps.toList/\(codeAmong p ps.toList=none\/∃c oc vs t,codeAmong p ps.toList=some (.ref c)/\H c=some (.Cj oc (.own c))/\oc.data = .fields vs/\vs[1]?=some (.str q t))
 | .met f x=>h.get? a=some (PySem.W.methodObj (.ref f) (.ref x))
 | .ext φ=>φ h/\(∃o,h.get? a=some o)/\∀h1 h2:aQ,φ h1->(∀o,h1.get? a=some o->h2.get? a=some o)->φ h2
def qL(H:Hp)(h:aQ):Prop:=∀a o,H a=some o->gk P w H h a o
end
theorem gk.lt(x:gk P w H h a o):a<h.objs.size:=by
 cases o with
 | lst xs=>obtain⟨_,_,_,_,e⟩:=x;exact bY e
 | tup xs=>obtain⟨_,_,_,p⟩:=x;exact p.lt
 | dK Ci=>obtain⟨_,_,_,_,o,_,_,e,_⟩:=x;exact bY e
 | dT Ci=>obtain⟨_,_,_,_,o,_,_,e,_⟩:=x;exact bY e
 | set S n=>obtain⟨o,_,_,_,e,_⟩:=x;exact bY e
 | ins C dx fs=>obtain⟨_,_,_,e,_⟩:=x;exact bY e
 | own y=>obtain⟨_,e⟩:=x;exact bY e
 | xd fs=>obtain⟨_,⟨_,_,_,e,_⟩,_⟩:=x;exact bY e
 | Xe lo hi=>obtain⟨_,_,_,e⟩:=x;exact bY e
 | Cj ob u=>obtain⟨e,_⟩:=x;exact bY e
 | Ck p q=>obtain⟨_,e,_⟩:=x;exact bY e
 | met f y=>exact bY (show h.get? a=some _ from x)
 | ext φ=>obtain⟨_,⟨_,e⟩,_⟩:=x;exact bY e
def Paired.aE1{G:α->β->Prop}(h:Paired F aE2 aE3)(f:∀a b,F a b->G a b):Paired G aE2 aE3:=by
 induction h with
 | nil=>exact .nil
 | cons r t ih=>exact .cons (f _ _ r) ih
def gk.yt(x:gk P w H h a o)(k:∀b u,(b=a\/H b=some (.own a))->h.get? b=some u->h'.get? b=some u)
  (ho:∀b,H b=some (.own a)->H' b=some (.own a)) (ht:∀b xs,H b=some (.tup xs)->H' b=some (.tup xs)) (hf:∀b o u,H b=some (.Cj o u)->H' b=some (.Cj o u)):gk P w H' h' a o:=by
 induction o with
 | lst xs=>obtain⟨z,bx,n,r,e⟩:=x;exact⟨z,bx,n,r,k _ _ (.inl rfl) e⟩
 | tup xs=>obtain⟨z,bx,r,ob,e,c⟩:=x;exact⟨z,bx,r,ob,k _ _ (.inl rfl) e,c⟩
 | dK Ci=>obtain⟨z,y,vs,r,ob,es,ep,e,c⟩:=x;exact⟨z,y,vs,r,ob,es,ep,k _ _ (.inl rfl) e,c⟩
 | dT Ci=>obtain⟨z,y,xs,r,ob,es,ep,e,c⟩:=x;exact⟨z,y,xs,Paired.aE1 r fun p q z=>⟨z.1,ht _ _ z.2.1,z.2.2⟩,ob,es,ep,k _ _ (.inl rfl) e,c⟩
 | set S n=>obtain⟨ob,es,ep,t,e,c⟩:=x;exact⟨ob,es,ep,t,k _ _ (.inl rfl) e,c⟩
 | ins C dx fs=>obtain⟨d,z,ne,e,mA,⟨od,es,ep,e2,c⟩,r⟩:=x;exact⟨ho _ d,z,ne,k _ _ (.inl rfl) e,mA,⟨od,es,ep,k _ _ (.inr d) e2,c⟩,r⟩
 | own y=>obtain⟨ob,e⟩:=x;exact⟨ob,k _ _ (.inl rfl) e⟩
 | xd fs=>obtain⟨mA,⟨od,es,ep,e,c⟩,r⟩:=x;exact⟨mA,⟨od,es,ep,k _ _ (.inl rfl) e,c⟩,r⟩
 | Xe lo hi=>obtain⟨t,u,v,e⟩:=x;exact⟨t,u,v,k _ _ (.inl rfl) e⟩
 | Cj ob u ih=>obtain⟨e,q⟩:=x;exact⟨k _ _ (.inl rfl) e,ih q⟩
 | Ck p q=>obtain⟨ps,e,t,z⟩:=x;exact⟨ps,k a _ (.inl rfl) e,t,z.imp id fun⟨c,oc,vs,u,a,b,d⟩=>⟨c,oc,vs,u,a,hf _ _ _ b,d⟩⟩
 | met f y=>have e:h.get? a=some (PySem.W.methodObj (.ref f) (.ref y)):=x;show h'.get? a=some (PySem.W.methodObj (.ref f) (.ref y));exact k a _ (.inl rfl) e
 | ext φ=>obtain⟨p,⟨o,e⟩,st⟩:=x;exact⟨st _ _ p fun o q=>k _ _ (.inl rfl) q,⟨o,k _ _ (.inl rfl) e⟩,st⟩
theorem qL.lt(x:qL P w H h)(e:H a=some o):a<h.objs.size:=(x a o e).lt
def qL.fresh(x:qL P w H h)(e:h.objs.size<=a):H a=none:=by
 cases q:H a with
 | none=>rfl
 | some u=>exact aY1 (i6 (x.lt q) e) (qT _)
def qL.kept(x:qL P w H h)(k:∀b u,h.get? b=some u->h'.get? b=some u):qL P w H h':=fun a o e=>
 (x a o e).yt (fun b u _ q=>k b u q) (fun _ q=>q) (fun _ _ q=>q) fun _ zo _ q=>q
def qL.laid(x:qL P w H h)(k:∀b u,h.get? b=some u->h'.get? b=some u)(hp:h.objs.size<=a)(new:gk P w (upd H a o) h' a o):qL P w (upd H a o) h':=fun b u e=>by
 have hn:=x.fresh hp;by_cases hb:b=a;subst hb;rw[bS]at e;cases e;exact new;rw[aR hb]at e;exact(x b u e).yt (fun c v _ q=>k c v q) (fun c q=>by rw[aR (aY q hn)];exact q) (fun c xs q=>by rw[aR (aY q hn)];exact q) fun c zo xs q=>by rw[aR (aY q hn)];exact q
def Rd(H:Hp)(a:av)(u:HO):Prop:=H a=some u\/∃o,H a=some (.Cj o u)
def Rd.ok(r:Rd H a u)(x:qL P w H h):gk P w H h a u:=by
 rcases r with r|⟨o,r⟩;exact x a u r;obtain⟨_,q⟩:=x a _ r;exact q
def Mut:Option HO->Prop
 | some (.lst _)=>True
 | some (.dK _)=>True
 | some (.dT _)=>True
 | some (.set _ _)=>True
 | some (.ins _ _ _)=>True
 | some (.ext _)=>True
 | _=>False
def qL.write(ok:qL P w H h)(mu:Mut (H x))(he:e=x\/H e=some (.own x))(k:∀b u,b≠e->h.get? b=some u->h'.get? b=some u)(S9:∃u,h'.get? e=some u)
  (new:gk P w (upd H x o') h' x o'):qL P w (upd H x o') h':=fun b u q=>by
 have af4:∀c y,H c=some (.own y)->c≠x:=fun c y r z=>by subst z;rw[r]at mu;exact mu
 have nfz:∀c o u,H c=some (.Cj o u)->c≠x:=fun c o u r z=>by subst z;rw[r]at mu;exact mu
 have aE4:∀c xs,H c=some (.tup xs)->c≠x:=fun c xs r z=>by subst z;rw[r]at mu;exact mu
 by_cases hb:b=x;subst hb;rw[bS]at q;cases q;exact new;rw[aR hb]at q;by_cases Sa:b=e;have q':H b=some (.own x):=by rcases he with z|z;exact aY1 (Sa.trans z) hb;rw[Sa];exact z
 rw[q]at q';cases q';obtain⟨v,hv⟩:=S9;exact⟨v,by rw[Sa];exact hv⟩;refine(ok b u q).yt (fun c v hc r=>k c v ?_ r) (fun c r=>by rw[aR (af4 c b r)];exact r) (fun c xs r=>by rw[aR (aE4 c xs r)];exact r) fun c zo xs r=>by rw[aR (nfz c zo xs r)];exact r
 rcases hc with rfl|hc;exact Sa;rintro rfl;rcases he with z|z;exact af4 c b hc z;rw[hc]at z;cases z;exact hb rfl
structure Un(fs ex:List av)(H H':Hp)(h h':aQ):Prop where
 keep:∀b o,h.get? b=some o->H b=none->b∉fs->b∉ex->h'.get? b=some o
 slot:∀b o,h.get? b=some o->H b=none->b∈fs->b∉ex->∃sl,h'.get? b=some {o with slots:=sl}
 free:∀b o,h.get? b=some o->H b=none->b∉ex->H' b=none
 there:∀b o,h.get? b=some o->b∉ex->∃o',h'.get? b=some o'
 oA:∀b xs,H b=some (.tup xs)->H' b=some (.tup xs)
 wm:∀b o u,H b=some (.Cj o u)->H' b=some (.Cj o u)
 wo:∀b p q,H b=some (.Ck p q)->H' b=some (.Ck p q)
def Un.any(u:Un fs ex H H1 h h1)(q:h.get? b=some ob)(n:H b=none)(hx:b∉ex):∃sl,h1.get? b=some {ob with slots:=sl}:=by
 by_cases hb:b∈fs;exact u.slot b ob q n hb hx;exact⟨ob.slots,u.keep b ob q n hb hx⟩
def Un.kept(k:∀b u,h.get? b=some u->h'.get? b=some u):Un fs ex H H h h':=
 ⟨fun b ob q _ _ _=>k b ob q,fun b ob q _ _ _=>⟨ob.slots,k b ob q⟩,fun _ _ _ n _=>n,fun b ob q _=>⟨ob,k b ob q⟩,fun _ _ q=>q,fun _ _ _ q=>q,fun _ _ _ q=>q⟩
def Un.refl:Un fs ex H H h h:=Un.kept fun _ _ q=>q
def Un.laid(k:∀b u,h.get? b=some u->h'.get? b=some u)(hp:h.objs.size<=a)(hn:H a=none):Un fs ex H (upd H a o) h h' where
 keep:=fun b u q _ _ _=>k b u q
 slot:=fun b u q _ _ _=>⟨u.slots,k b u q⟩
 free:=fun b u q n _=>by rw[aR (dh (i6 (bY q) hp))];exact n
 there:=fun b u q _=>⟨u,k b u q⟩
 oA:=fun b xs q=>by rw[aR (aY q hn)];exact q
 wm:=fun b u xs q=>by rw[aR (aY q hn)];exact q
 wo:=fun b p r q=>by rw[aR (aY q hn)];exact q
def Un.write(mu:Mut (H x))(he:e=x\/H e=some (.own x))(k:∀b u,b≠e->h.get? b=some u->h'.get? b=some u)(S9:∃u,h'.get? e=some u):Un fs ex H (upd H x o) h h':=by
 have hx:∀b,H b=none->b≠x:=fun b n z=>by subst z;rw[n]at mu;exact mu
 have hb:∀b,H b=none->b≠e:=fun b n z=>by subst z;rcases he with r|r;exact hx b n r;rw[n]at r;cases r
 have hm:∀b u,H b=some u->¬ Mut (some u)->b≠x:=fun b u q nm z=>by subst z;rw[q]at mu;exact nm mu
 refine⟨fun b u q n _ _=>k b u (hb b n) q,fun b u q n _ _=>⟨u.slots,k b u (hb b n) q⟩,fun b u q n _=>by rw[aR (hx b n)];exact n,fun b u q _=>?_,
  fun b xs q=>by rw[aR (hm b _ q fun z=>z)];exact q,fun b u xs q=>by rw[aR (hm b _ q fun z=>z)];exact q,fun b p r q=>by rw[aR (hm b _ q fun z=>z)];exact q⟩
 by_cases Sa:b=e;subst Sa;exact S9;exact⟨u,k b u Sa q⟩
def trk(h:aQ)(H:Hp):List av:=(cU h.objs.size).filter fun a=>(H a).isSome
def Co(h:aQ)(H:Hp):aQ:=yY h (trk h H)
def Jr(h:aQ)(H:Hp):(Co h H).objs.size=h.objs.size:=PySem.W.hideAll_size _ _
def Cp{h:aQ}(e:h.get? b=some o)(n:H b=none):(Co h H).get? b=some o:=
 LQ _ e fun hm=>by
  have q:(H b).isSome=true:=(lZ.mp hm).2;rw[n]at q;simp at q
def Sb(e:(Co h H).get? b=some o):h.get? b=some o/\H b=none:=by
 have e':h.get? b=some o:=HU (trk h H) e;refine⟨e',?_⟩;cases q:H b with
 | none=>rfl
 | some x=>have hm:b∈trk h H:=lZ.mpr ⟨m6.mpr (bY e'),by simp[q]⟩;have z:(Co h H).get? b=none:=VZ (trk h H) hm;rw[z]at e;cases e
structure Mod(K:aD)(mg:Str->Option au)(base:aQ):Prop where
 kin:K.In base
 glob:base.Ns cZ mg
 blt:∃mb,base.Ns builtinsNs mb/\∀x:Str,x≠ "__name__" ->mb x=kZ x
 nolimit:base.NoLimit
structure Cx where
 prog:cS
 w:bI
 K:aD
 mg:Str->Option au
 base:aQ
 A:bX
 N:List Str
 iU:ay
 NB:Hp
 env:Env
 outer:List Env
 stack:List Env
 ex:List av
 fn:Str->Bool
 calm:Bool
 pn:List (av×Obj)
 xe:au->ay->Prop
def wu(l:List Env):List av:=l.filterMap (·.frame)
abbrev Cx.fs(X:Cx):List av:=wu X.outer
def Vis(sc:i0)(x:Str):Prop:=sc.names.lookup x=some .local\/sc.names.lookup x=some .cell\/sc.names.lookup x=some .free
def Loc(sc:i0)(x:Str):Prop:=sc.names.lookup x=some .local\/sc.names.lookup x=some .cell
def Look(env:Env)(h:aQ)(m:Str->Option au)(x:Str)(u:au):Prop:=
 (env.kindOf x=some .local/\m x=some u)\/((env.kindOf x=some .cell\/env.kindOf x=some .free)/\∃c,env.cells.lookup x=some c/\h.IsCell c (some u))
structure Cx.Ok(X:Cx):Prop where
 mod:Mod X.K X.mg X.base
 kind:X.env.scope.kind = .function
 glob:X.env.globals=cZ
 blt:X.env.builtins=builtinsNs
 above:X.iU.heap.objs.size<=X.env.locals
 inj:∀x y c,X.env.cells.lookup x=some c->X.env.cells.lookup y=some c->x=y
 has:∀x,(X.env.kindOf x=some .cell\/X.env.kindOf x=some .free)->∃c,X.env.cells.lookup x=some c
 cab:∀x c,X.fn x=true->X.env.cells.lookup x=some c->X.iU.heap.objs.size<=c
 hd:X.calm=true->X.A.handled=none
 frames:X.A.frames=some X.stack
 NC:X.stack=X.outer\/(X.stack=X.env::X.outer/\X.env.frame=some X.env.locals)
 exf:∀b∈X.ex,b≠X.env.locals/\∀x c,X.env.cells.lookup x=some c->c≠b
 bs:∀b o,X.base.get? b=some o->X.iU.heap.get? b=some o/\X.NB b=none
 RL:X.base.objs.size<=X.iU.heap.objs.size
 Js:∀b o,X.base.get? b=some o->b∉X.ex
 Jt:∀b∈X.ex,b∉X.fs
 tH:X.iU.heap.FunFrames X.base X.outer
 W9:∀b∈X.fs,X.NB b=none
structure Inv(X:Cx)(ao:List (av×Obj))(σ:List (Option V))(H:Hp)(s:ay):Prop where
 ok:X.Ok
 os:s.os=X.iU.os
 bare:AllBare s.gens
 base:Un X.fs X.ex X.NB H X.iU.heap s.heap
 loc:∃m,s.heap.Ns X.env.locals m/\∀(i:Nat) (x:Str) (v:V),X.N[i]?=some x->σ[i]?=some (some v)->Vis X.env.scope x->∃u,RelV v u/\Look X.env s.heap m x u
 cell:∀x c,X.env.cells.lookup x=some c->∃v,s.heap.IsCell c v
 free:H X.env.locals=none
 pP:∀x c,X.env.cells.lookup x=some c->H c=none
 pin:∀p∈X.pn++ao,s.heap.get? p.1=some p.2/\H p.1=none/\p.1≠X.env.locals/\p.1∉X.fs/\∀v,p.2.data≠ .cell v
 eU:qL X.prog X.w H s.heap
 len:σ.length=X.N.length
section
variable {X:Cx}{s:ay}
def Cx.Ok.aE5(ok:X.Ok)(e:X.base.get? b=some o):b∉X.fs:=fun hb=>by
 have:=(ok.tH.mem hb).1;rw[e]at this;cases this
theorem Inv.bs(I:Inv X ao σ H s):∀b o,X.base.get? b=some o->s.heap.get? b=some o/\H b=none:=fun b o e=>
 ⟨I.base.keep b o (I.ok.bs b o e).1 (I.ok.bs b o e).2 (I.ok.aE5 e) (I.ok.Js b o e),I.base.free b o (I.ok.bs b o e).1 (I.ok.bs b o e).2 (I.ok.Js b o e)⟩
def Inv.bk(I:Inv X ao σ H s):∀b o,X.base.get? b=some o->s.heap.get? b=some o:=fun b o e=>(I.bs b o e).1
theorem Inv.mod(I:Inv X ao σ H s):Mod X.K X.mg X.base:=I.ok.mod
def Inv.Ju(I:Inv X ao σ H s):X.K.In s.heap:=I.ok.mod.kin.keeps I.bk
theorem Inv.nolimit(I:Inv X ao σ H s):s.heap.NoLimit:=I.ok.mod.nolimit.keeps I.bk
theorem Inv.lt(I:Inv X ao σ H s):X.env.locals<s.heap.objs.size:=let⟨_,hn,_⟩:=I.loc;hn.lt
def Inv.sz(I:Inv X ao σ H s):X.iU.heap.objs.size<=s.heap.objs.size:=cj I.ok.above (iO I.lt)
def Inv.aE6(I:Inv X ao σ H s)(h:s.heap.objs.size<=a):a∉X.fs:=fun hb=>by
 obtain⟨_,o,ho,_⟩:=I.ok.tH.mem hb;exact aY1 (i6 (bY ho) (cj I.sz h)) (qT _)
def Inv.Xf(I:Inv X ao σ H s):∀x c,X.env.cells.lookup x=some c->c≠X.env.locals:=fun x c e z=>by
 refine di (I.cell x c e) fun v o ho hd=>?_;refine aO I.loc fun m iV _=>?_;obtain⟨o',es,ep,Cq,Lk,_⟩:=iV;rw[z,Cq]at ho;cases ho;rw[Lk]at hd;cases hd
theorem Inv.tH(I:Inv X ao σ H s):s.heap.FunFrames X.base X.outer:=by
 have all:∀(l:List Env),(∀b∈wu l,b∈X.fs)->X.iU.heap.FunFrames X.base l->s.heap.FunFrames X.base l:=by
  intro l;induction l with
  | nil=>intro _ _;trivial
  | cons env r ih=>intro hs hl;refine wg hl fun hk iV hr=>?_;clear hl;obtain⟨L,o,hf,hn,ho,hd⟩:=iV;have hL:L∈X.fs:=hs L (by unfold wu;rw[HV,hf];exact uo);obtain⟨sl,e⟩:=I.base.slot L o ho (I.ok.W9 L hL) hL fun z=>I.ok.Jt L z hL;exact⟨hk,⟨L,_,hf,hn,e,hd⟩,ih (fun b hb=>hs b (by unfold wu;rw[HV,hf];exact nS _ hb)) hr⟩
 exact all X.outer (fun _ hb=>hb) I.ok.tH
theorem Inv.stack(I:Inv X ao σ H s):s.heap.FunFrames X.base X.stack:=by
 rcases I.ok.NC with e|⟨e,hf⟩;rw[e];exact I.tH;rw[e];refine aO I.loc fun m hn _=>?_;refine .cons (by rw[I.ok.kind];decide) hf hn ?_ I.tH;exact Heap.get?_none_of_le (cj I.ok.RL I.ok.above)
def Inv.G5(I:Inv X ao σ H s):∀b∈wu X.stack,b∈X.env.locals::X.fs:=fun b hb=>by
 rcases I.ok.NC with e|⟨e,hf⟩;rw[e]at hb;exact nS _ hb;rw[e]at hb;unfold wu at hb;rw[HV,hf]at hb;exact hb
def Inv.HY(I:Inv X ao σ H s):∀b∈wu X.stack,H b=none:=fun b hb=>by
 rcases bR.mp (I.G5 b hb)with e|hb;rw[e];exact I.free;obtain⟨_,o,ho,_⟩:=I.ok.tH.mem hb;exact I.base.free b o ho (I.ok.W9 b hb) fun z=>I.ok.Jt b z hb
def Inv.step{t':Nat}{d':Drawn}{ch:List av}(I:Inv X ao σ H s)
  (RM:∀b∈ch,(b∈X.ex\/X.iU.heap.objs.size<=b)/\b≠X.env.locals/\(∀x c,X.env.cells.lookup x=some c->c≠b)/\∀p∈X.pn++ao,p.1≠b)
  (keep:∀b o,b≠X.env.locals->b∉X.fs->b∉ch->s.heap.get? b=some o->H b=none->h'.get? b=some o)
  (slot:∀b o,b≠X.env.locals->b∈X.fs->b∉ch->s.heap.get? b=some o->H b=none->∃sl,h'.get? b=some {o with slots:=sl}) (free:∀b o,b∉ch->s.heap.get? b=some o->H b=none->H' b=none)
  (there:∀b o,b∉ch->s.heap.get? b=some o->∃o',h'.get? b=some o')
  (oA:∀b xs,H b=some (.tup xs)->H' b=some (.tup xs)) (wm:∀b o u,H b=some (.Cj o u)->H' b=some (.Cj o u)) (wo:∀b p q,H b=some (.Ck p q)->H' b=some (.Ck p q))
  (ns:∀m,s.heap.Ns X.env.locals m->h'.Ns X.env.locals m) (eU:qL X.prog X.w H' h') (hg:AllBare g') :
  Inv X ao σ H' {s with heap:=h',gens:=g',drawn:=d',toks:=t'}:=by
 have neL:∀b o,X.iU.heap.get? b=some o->b≠X.env.locals:=fun b o e=>dh (i6 (bY e) I.ok.above);have neC:∀b o,X.iU.heap.get? b=some o->b∉X.ex->b∉ch:=fun b o e hx hb=>by rcases(RM b hb).1 with z|z;exact hx z;exact aY1 (i6 (bY e) z) (qT _)
 have cellK:∀x c,X.env.cells.lookup x=some c->∀v,s.heap.IsCell c v->h'.IsCell c v:=fun x c e v l6=>by refine aO l6 fun o ho hd=>?_;clear l6;have nch:c∉ch:=fun z=>(RM c z).2.2.1 x c e rfl;by_cases hc:c∈X.fs;obtain⟨sl,q⟩:=slot c o (I.Xf x c e) hc nch ho (I.pP x c e);exact⟨_,q,hd⟩;exact⟨o,keep c o (I.Xf x c e) hc nch ho (I.pP x c e),hd⟩
 refine⟨I.ok,I.os,hg,⟨fun b o e n hb hx=>?_,fun b o e n hb hx=>?_,fun b o e n hx=>?_,fun b o e hx=>?_,fun b xs e=>oA b xs (I.base.oA b xs e),fun b o xs e=>wm b o xs (I.base.wm b o xs e),fun b p q e=>wo b p q (I.base.wo b p q e)⟩,?_,fun x c e=>?_,?_,fun x c e=>?_,fun p hp=>?_,eU,I.len⟩;exact keep b o (neL b o e) hb (neC b o e hx) (I.base.keep b o e n hb hx) (I.base.free b o e n hx);obtain⟨sl,e1⟩:=I.base.slot b o e n hb hx;obtain⟨sl',e2⟩:=slot b _ (neL b o e) hb (neC b o e hx) e1 (I.base.free b o e n hx);exact⟨sl',e2⟩;obtain⟨o',e1⟩:=I.base.there b o e hx;exact free b o' (neC b o e hx) e1 (I.base.free b o e n hx);obtain⟨o',e1⟩:=I.base.there b o e hx;exact there b o' (neC b o e hx) e1;refine aO I.loc fun m hn hl=>?_;refine⟨m,ns m hn,fun i x v e1 e2 e3=>?_⟩;refine aO (hl i x v e1 e2 e3) fun u r l=>?_;refine⟨u,r,?_⟩;rcases l with l|⟨k,c,e,z⟩;exact .inl l;exact .inr ⟨k,c,e,cellK x c e _ z⟩;obtain⟨v,z⟩:=I.cell x c e;exact⟨v,cellK x c e v z⟩;refine aO I.loc fun m iV _=>?_;obtain⟨o,_,_,ho,_⟩:=iV;exact free _ o (fun z=>(RM _ z).2.1 rfl) ho I.free;refine di (I.cell x c e) fun v o ho hd=>?_;exact free c o (fun z=>(RM c z).2.2.1 x c e rfl) ho (I.pP x c e);refine S5 (I.pin p hp) fun e n ne nf d=>?_;have nch:p.1∉ch:=fun z=>(RM p.1 z).2.2.2 p hp rfl;exact⟨keep p.1 p.2 ne nf nch e n,free p.1 p.2 nch e n,ne,nf,d⟩
def Inv.un{t':Nat}(I:Inv X ao σ H s)(u:Un X.fs [] H H' s.heap h')(eU:qL X.prog X.w H' h'):Inv X ao σ H' {s with heap:=h',toks:=t'}:=by
 refine aO (id I.loc) fun m iV _=>?_;obtain⟨o,es,ep,ho,r⟩:=iV;obtain⟨sl,hL⟩:=u.any ho I.free (by simp);exact I.step (g':=s.gens) (d':=s.drawn) (ch:=[]) (fun _ z=>nomatch z) (fun b o _ hb _ e n=>u.keep b o e n hb (by simp)) (fun b o _ hb _ e n=>u.slot b o e n hb (by simp)) (fun b o _ e n=>u.free b o e n (by simp)) (fun b o _ e=>u.there b o e (by simp)) u.oA u.wm u.wo (fun m' hm=>by
  refine S6 hm fun o' Cr AG Cq r'=>?_;clear hm;rw[ho]at Cq;cases Cq;exact⟨_,Cr,AG,hL,r'⟩) eU I.bare
def Inv.call{t':Nat}{d':Drawn}(I:Inv X ao σ H s)(u:Un (wu X.stack) ch H H' s.heap h')(eU:qL X.prog X.w H' h')(hg:AllBare g')
  (RM:∀b∈ch,(b∈X.ex\/X.iU.heap.objs.size<=b)/\b≠X.env.locals/\(∀x c,X.env.cells.lookup x=some c->c≠b)/\∀p∈X.pn++ao,p.1≠b) :
  Inv X ao σ H' {s with heap:=h',gens:=g',drawn:=d',toks:=t'}:=by
 refine aO (id I.loc) fun m iV _=>?_;obtain⟨o,es,ep,ho,r⟩:=iV;obtain⟨sl,hL⟩:=u.any ho I.free fun z=>(RM _ z).2.1 rfl;exact I.step (ch:=ch) RM (fun b o hL hb hc e n=>u.keep b o e n (fun z=>(bR.mp (I.G5 b z)).elim hL hb) hc) (fun b o _ _ hc e n=>u.any e n hc) (fun b o hc e n=>u.free b o e n hc) (fun b o hc e=>u.there b o e hc) u.oA u.wm u.wo (fun m' hm=>by
  refine S6 hm fun o' Cr AG Cq r'=>?_;clear hm;rw[ho]at Cq;cases Cq;exact⟨_,Cr,AG,hL,r'⟩) eU hg
def Inv.turned{t':Nat}{it:av}(I:Inv X ao σ H s)(k:∀b o,b≠it->s.heap.get? b=some o->h'.get? b=some o)(hn:H it=none)(hL:it≠X.env.locals)
  (h1:it∈X.ex\/X.iU.heap.objs.size<=it) (h2:∀x c,X.env.cells.lookup x=some c->c≠it) (h3:∀p∈X.pn++ao,p.1≠it):Inv X ao σ H {s with heap:=h',toks:=t'}:=by
 have nit:∀b u,H b=some u->b≠it:=fun b u e z=>by rw[z,hn]at e;cases e
 refine I.step (g':=s.gens) (d':=s.drawn) (ch:=[it]) (fun b hb=>?_) (fun b o _ _ hc e _=>k b o (fun z=>hc (by simp[z])) e) (fun b o _ _ hc e _=>⟨o.slots,k b o (fun z=>hc (by simp[z])) e⟩) (fun _ _ _ _ n=>n)
  (fun b o hc e=>⟨o,k b o (fun z=>hc (by simp[z])) e⟩) (fun _ _ e=>e) (fun _ _ _ e=>e) (fun _ _ _ e=>e) (fun m hm=>?_) (fun b u e=>?_) I.bare
 have e:b=it:=by simpa using hb
 subst e;exact⟨h1,hL,h2,h3⟩;refine S6 hm fun o es ep ho r=>?_;clear hm;exact⟨o,es,ep,k _ o (dZ hL) ho,r⟩;refine(I.eU b u e).yt (fun c v hc q=>k c v ?_ q) (fun _ q=>q) (fun _ _ q=>q) fun _ zo _ q=>q;rcases hc with z|z;rw[z];exact nit b u e;exact nit c _ z
def Inv.tok(I:Inv X ao σ H s)(t:Nat):Inv X ao σ H {s with toks:=t}:=I.un (h':=s.heap) (t':=t) Un.refl I.eU
theorem Inv.kept(I:Inv X ao σ H s)(k:∀b u,s.heap.get? b=some u->h'.get? b=some u):Inv X ao σ H {s with heap:=h',toks:=t'}:=I.un (Un.kept k) (I.eU.kept k)
theorem Inv.laid(I:Inv X ao σ H s)(k:∀b u,s.heap.get? b=some u->h'.get? b=some u)(hp:s.heap.objs.size<=a)(new:gk X.prog X.w (upd H a o) h' a o) :
  Inv X ao σ (upd H a o) {s with heap:=h',toks:=t'}:=I.un (Un.laid k hp (I.eU.fresh hp)) (I.eU.laid k hp new)
theorem Inv.write(I:Inv X ao σ H s)(mu:Mut (H x))(he:e=x\/H e=some (.own x))(k:∀b u,b≠e->s.heap.get? b=some u->h'.get? b=some u)(S9:∃u,h'.get? e=some u)
  (new:gk X.prog X.w (upd H x o) h' x o):Inv X ao σ (upd H x o) {s with heap:=h',toks:=t'}:=I.un (Un.write mu he k S9) (I.eU.write mu he k S9 new)
def Inv.qU(I:Inv X ao σ H s)(h:∀p∈af5,s.heap.get? p.1=some p.2/\H p.1=none/\p.1≠X.env.locals/\p.1∉X.fs/\∀v,p.2.data≠ .cell v):Inv X af5 σ H s:=
 ⟨I.ok,I.os,I.bare,I.base,I.loc,I.cell,I.free,I.pP,fun p hp=>(gh.mp hp).elim (fun z=>I.pin p (HW _ z)) (h p),I.eU,I.len⟩
def Cs{N:List Str}(hN:N.Nodup){i j:Nat}(a:N[i]?=some x)(b:N[j]?=some x):i=j:=by
 obtain⟨h1,e1⟩:=fR.mp a;obtain⟨h2,e2⟩:=fR.mp b;exact(List.getElem_inj hN).mp (e1.trans e2.symm)
def z6{Q:Unit->ay->Prop}(I:Inv X ao σ H s)(hN:X.N.Nodup)(hi:X.N[i]?=some x)(hx:Loc X.env.scope x)(r:RelV v u)
  (h:∀s',Inv X ao (σ.set i (some v)) H s'->(∃a,gH a s.heap s'.heap/\(a=X.env.locals\/X.env.cells.lookup x=some a))->Q () s') (hf:autoParam (X.fn x=true\/X.env.scope.names.lookup x=some .local) zu4._auto_1):aA M A (storeName X.env x u) Q E s:=by
 refine aO (id I.loc) fun m hn hl=>?_;have aE7:(X.env.scope.kind == .class || (X.env.scope.kind == .module&&X.env.locals !=X.env.globals))=false:=by rw[I.ok.kind];rfl
 have af6:i<σ.length:=by rw[I.len];exact(fR.mp hi).1
 have Xf:=I.Xf;have tracked:∀{a:av} {h':aQ},(∃o,s.heap.get? a=some o/\H a=none)->gH a s.heap h'->qL X.prog X.w H h':=fun {a h'} ha hs b ob e=>by refine aO ha fun _ _ HZ=>?_;clear ha;refine(I.eU b ob e).yt (fun c w' hc q=>(hs.2 c ?_).trans q) (fun _ q=>q) (fun _ _ q=>q) fun _ zo _ q=>q;rintro rfl;rcases hc with rfl|hc;rw[HZ]at e;cases e;rw[HZ]at hc;cases hc
 rcases hx with hk|hk;refine wpAny_storeName_local hk hn (fun h' wz hs=>?_) aE7;refine S6 (id hn) fun oL _ _ hoL _=>?_;refine h _ ⟨I.ok,I.os,I.bare,⟨fun b o e n hb hx=>?_,fun b o e n hb hx=>?_,I.base.free,fun b o e hx=>?_,I.base.oA,I.base.wm,I.base.wo⟩,⟨_,wz,fun j y v' e1 e2 e3=>?_⟩,fun y c e=>?_,I.free,I.pP,fun p hp=>?_,tracked ⟨oL,hoL,I.free⟩ hs,by simpa using I.len⟩ ⟨_,hs,.inl rfl⟩;exact(hs.2 b (dh (i6 (bY e) I.ok.above))).trans (I.base.keep b o e n hb hx);obtain⟨sl,e1⟩:=I.base.slot b o e n hb hx;exact⟨sl,(hs.2 b (dh (i6 (bY e) I.ok.above))).trans e1⟩;obtain⟨o',e1⟩:=I.base.there b o e hx;exact⟨o',(hs.2 b (dh (i6 (bY e) I.ok.above))).trans e1⟩;by_cases hj:j=i;subst hj;rw[hi]at e1;cases e1;rw[m7 af6]at e2;cases e2;exact⟨u,r,.inl ⟨hk,by simp⟩⟩;rw[l0 (dZ hj)]at e2;refine aO (hl j y v' e1 e2 e3) fun u' r' q=>?_;refine⟨u',r',?_⟩;rcases q with⟨k,e⟩|⟨k,c,e,z⟩;refine .inl ⟨k,?_⟩;have:y≠x:=fun e=>hj (Cs hN e1 (e▸hi));simp[this,e];exact .inr ⟨k,c,e,z.sameBut hs (Xf y c e)⟩;obtain⟨w',z⟩:=I.cell y c e;exact⟨w',z.sameBut hs (Xf y c e)⟩;refine S5 (I.pin p hp) fun e n ne nf d=>?_;exact⟨(hs.2 p.1 ne).trans e,n,ne,nf,d⟩;have hfn:X.fn x=true:=by rcases hf with z|z;exact z;rw[z]at hk;cases hk
 obtain⟨c,hc⟩:=I.ok.has x (.inl hk);obtain⟨w',z⟩:=I.cell x c hc;refine wpAny_storeName_cell I.ok.kind hk hc z (fun h' uK hs=>?_);refine aO (id z) fun oc Xg aE8=>?_;refine h {s with heap:=h'} ⟨I.ok,I.os,I.bare,⟨fun b o e n hb hx=>?_,fun b o e n hb hx=>?_,I.base.free,fun b o e hx=>?_,I.base.oA,I.base.wm,I.base.wo⟩,⟨m,hn.sameBut hs (dZ (Xf x c hc)),fun j y v' e1 e2 e3=>?_⟩,fun y c' e=>?_,I.free,I.pP,fun p hp=>?_,tracked ⟨oc,Xg,I.pP x c hc⟩ hs,by simpa using I.len⟩ ⟨c,hs,.inr hc⟩;exact(hs.2 b (dh (i6 (bY e) (I.ok.cab x c hfn hc)))).trans (I.base.keep b o e n hb hx);obtain⟨sl,e1⟩:=I.base.slot b o e n hb hx;exact⟨sl,(hs.2 b (dh (i6 (bY e) (I.ok.cab x c hfn hc)))).trans e1⟩;obtain⟨o',e1⟩:=I.base.there b o e hx;exact⟨o',(hs.2 b (dh (i6 (bY e) (I.ok.cab x c hfn hc)))).trans e1⟩;by_cases hj:j=i;subst hj;rw[hi]at e1;cases e1;rw[m7 af6]at e2;cases e2;exact⟨u,r,.inr ⟨.inl hk,c,hc,uK⟩⟩;rw[l0 (dZ hj)]at e2;refine aO (hl j y v' e1 e2 e3) fun u' r' q=>?_;refine⟨u',r',?_⟩;rcases q with q|⟨k,c',e,z'⟩;exact .inl q;refine .inr ⟨k,c',e,z'.sameBut hs ?_⟩;rintro rfl;exact hj (Cs hN e1 (I.ok.inj _ _ _ e hc▸hi));by_cases hcc:c'=c;subst hcc;exact⟨_,uK⟩;obtain⟨w2,z2⟩:=I.cell y c' e;exact⟨w2,z2.sameBut hs hcc⟩;refine S5 (I.pin p hp) fun e n ne nf d=>?_;refine⟨(hs.2 p.1 ?_).trans e,n,ne,nf,d⟩;intro q;rw[q,Xg]at e;have q':oc=p.2:=eN e;exact d w' (by rw[<- q'];exact aE8)
def qV{Q:Unit->ay->Prop}(I:Inv X ao σ H s)(hN:X.N.Nodup)(hi:X.N[i]?=some x)(hx:Loc X.env.scope x)(r:RelV v u)
  (h:∀s',Inv X ao (σ.set i (some v)) H s'->Q () s') (hf:autoParam (X.fn x=true\/X.env.scope.names.lookup x=some .local) zu4._auto_1):aA M A (storeName X.env x u) Q E s:=
 z6 I hN hi hx r (fun s' I' _=>h s' I') hf
def Inv.Ct{s':ay}(I:Inv X ao σ H s)(ho:s'.os=s.os)(u:Un (wu X.stack) ch H H' s.heap s'.heap)(eU:qL X.prog X.w H' s'.heap)(hg:AllBare s'.gens)
  (RM:∀b∈ch,(b∈X.ex\/X.iU.heap.objs.size<=b)/\b≠X.env.locals/\(∀x c,X.env.cells.lookup x=some c->c≠b)/\∀p∈X.pn++ao,p.1≠b):Inv X ao σ H' s':=by
 obtain⟨h',g',d',t',o'⟩:=s';have e:o'=s.os:=ho;subst e;exact I.call (g':=g') (t':=t') (d':=d') u eU hg RM
end
abbrev XK:=au->Option av->Hp->Prop
abbrev St:=List (Option V)
abbrev VK:=V->Hp->Prop
abbrev TE:=St->Hp->VK->Prop
abbrev TT:=St->Hp->(Bool->Hp->Prop)->Prop
abbrev TA:=St->Hp->(List V->Hp->Prop)->Prop
structure Ends where
 nx:St->Hp->Prop
 rt:VK
 bk:St->Hp->Prop:=fun _ _=>False
 ct:St->Hp->Prop:=fun _ _=>False
abbrev TS:=Ends->St->Hp->Prop
def EP(X:Cx)(ao:List (av×Obj))(σ:St)(Q:VK)(u:au)(s':ay):Prop:=∃v H',Inv X ao σ H' s'/\RelV v u/\Q v H'
def TP(X:Cx)(ao:List (av×Obj))(σ:St)(Q:Bool->Hp->Prop)(b:Bool)(s':ay):Prop:=∃H',Inv X ao σ H' s'/\Q b H'
def AP(X:Cx)(ao:List (av×Obj))(σ:St)(Q:List V->Hp->Prop)(us:List au)(s':ay):Prop:=∃vs H',Inv X ao σ H' s'/\Vals vs us/\Q vs H'
def SP(X:Cx)(ao:List (av×Obj))(D:Ends)(f:Flow)(s':ay):Prop:=
 match f with
 | .next=>∃dF H',Inv X ao dF H' s'/\D.nx dF H'
 | .brk=>∃dF H',Inv X ao dF H' s'/\D.bk dF H'
 | .cont=>∃dF H',Inv X ao dF H' s'/\D.ct dF H'
 | .ret u=>∃v dF H',Inv X ao dF H' s'/\RelV v u/\D.rt v H'
def PE(X:Cx)(e:bg)(t:TE):Prop:=
 ∀(ao:List (av×Obj)) (s:ay) (σ:St) (H:Hp) (Q:VK),Inv X ao σ H s->t σ H Q->aA (aC X.prog X.w) X.A (eval e X.env) (EP X ao σ Q) X.xe s
def PT(X:Cx)(e:bg)(t:TT):Prop:=
 ∀(ao:List (av×Obj)) (s:ay) (σ:St) (H:Hp) (Q:Bool->Hp->Prop),Inv X ao σ H s->t σ H Q->aA (aC X.prog X.w) X.A (isTrue e X.env (eval e X.env)) (TP X ao σ Q) X.xe s
def PW(X:Cx)(e:bg)(t:TT):Prop:=
 ∀(whole:Sem au) (ao:List (av×Obj)) (s:ay) (σ:St) (H:Hp) (Q:Bool->Hp->Prop),Inv X ao σ H s->t σ H Q->aA (aC X.prog X.w) X.A (isTrue e X.env whole) (TP X ao σ Q) X.xe s
def PW.pt(h:PW X e t):PT X e t:=h _
def PA(X:Cx)(es:List bg)(t:TA):Prop:=
 ∀(pos:Pos) (ao:List (av×Obj)) (s:ay) (σ:St) (H:Hp) (Q:List V->Hp->Prop),Inv X ao σ H s->t σ H Q->aA (aC X.prog X.w) X.A (spliced (backTo pos (bH es X.env))) (AP X ao σ Q) X.xe s
def PS(X:Cx)(st:aX)(t:TS):Prop:=
 ∀(ao:List (av×Obj)) (s:ay) (σ:St) (H:Hp) (D:Ends),Inv X ao σ H s->t D σ H->aA (aC X.prog X.w) X.A (exec st X.env) (SP X ao D) X.xe s
def qM(X:Cx)(st:List aX)(t:TS):Prop:=
 ∀(ao:List (av×Obj)) (s:ay) (σ:St) (H:Hp) (D:Ends),Inv X ao σ H s->t D σ H->aA (aC X.prog X.w) X.A (execs st X.env) (SP X ao D) X.xe s
def gv{Q':α->ay->Prop}(h:aA M A t Q E s)(hQ:∀a s,Q a s->Q' a s):aA M A t Q' E s:=gR h hQ fun _ _ x=>x
section
variable {X:Cx}
def uL(i:Nat):TE:=fun σ H Q=>∃v,σ[i]?=some (some v)/\Q v H
def tC(v:V):TE:=fun _ H Q=>Q v H
def Xh(hN:X.N[i]?=some x)(hv:Vis X.env.scope x)(hd:autoParam ((x==("__debug__" : Str))=false) zu1._auto_1)(G6:autoParam ((x==("__classdict__" : Str))=false) zu1._auto_1):PE X (.Name x pos) (uL i):=by
 intro ao s σ H Q I h;obtain⟨v,e,h⟩:=h;obtain⟨m,hn,hl⟩:=I.loc;obtain⟨u,r,l⟩:=hl i x v hN e hv;have fin:EP X ao σ Q u s:=⟨v,H,I,r,h⟩
 rcases l with⟨hk,hm⟩|⟨hk,c,hc,wA⟩;exact Cc (LB I.ok.kind hk hn hm fin) hd;rcases hk with hk|hk;exact Cc (wpAny_loadName_cell I.ok.kind hk hc wA fin) hd;exact Cc (wpAny_loadName_free I.ok.kind hk hc wA fin G6) hd
def Xi{i j pos}:PE X (.Constant (.int i) j pos) (tC (.int i)):=fun _ _ _ H _ I h=>wpAny_Constant_int ⟨.int i,H,I.tok _,⟨_,rfl⟩,h⟩
def af7{b j pos}:PE X (.Constant (.bool b) j pos) (tC (.bl b)):=fun _ _ _ H _ I h=>Constant_bool ⟨.bl b,H,I,rfl,h⟩
def Xj{x j pos}:PE X (.Constant (.str x) j pos) (tC (.str x)):=fun _ _ _ H _ I h=>W0 ⟨.str x,H,I.tok _,⟨_,rfl⟩,h⟩
def Gl(X:Cx)(x:Str):Prop:=X.env.kindOf x=some .globalImplicit
def qW{Q:au->ay->Prop}(I:Inv X ao σ H s)(hg:Gl X x)(hm:X.mg x=some u)(h:Q u s)
  (hd:autoParam ((x==("__debug__" : Str))=false) zu1._auto_1):aA (aC X.prog X.w) X.A (eval (.Name x pos) X.env) Q E s:=
 MN I.ok.kind hg (Calls.loadGlobal_global (by rw[I.ok.glob];exact I.mod.glob.keeps I.bk) hm h) hd
def wB{Q:au->ay->Prop}(I:Inv X ao σ H s)(hg:Gl X x)(hm:X.mg x=none)(hv:kZ x=some u)(h:Q u s)
  (hn:autoParam (x≠ "__name__") zu1._auto_1) (hd:autoParam ((x==("__debug__" : Str))=false) zu1._auto_1):aA (aC X.prog X.w) X.A (eval (.Name x pos) X.env) Q E s:=by
 refine aO I.mod.blt fun mb h1 h2=>?_;exact MN I.ok.kind hg (W6 (by rw[I.ok.glob];exact I.mod.glob.keeps I.bk) hm (by rw[I.ok.blt];exact h1.keeps I.bk) ((h2 x hn).trans hv) h) hd
def Sd(hg:Gl X x)(hm:X.mg x=some u)(r:RelV v u)(hd:autoParam ((x==("__debug__" : Str))=false) zu1._auto_1):PE X (.Name x pos) (tC v):=
 fun _ _ _ H _ I h=>qW I hg hm ⟨v,H,I,r,h⟩ hd
variable {a b:bg}{ta tb:TE}{pos:Pos}
def tB(t:TE):TT:=fun σ H Q=>t σ H fun x H1=>∃c,x = .bl c/\Q c H1
def Xk(h:PE X e t)(he:autoParam (∀whole,isTrue e X.env whole=(do let v <- whole;standAt e.pos;holding [v] (truthy v))) zu3._auto_1):PT X e (tB t):=by
 intro ao s σ H Q I hw;refine isTrue_plain (gv (h ao s σ H _ I hw) fun v s1 Cu=>?_) (he _);refine bw Cu fun x H1 I1 r1 q1=>?_;clear Cu;refine aO q1 fun d iV q=>?_;clear q1;obtain rfl:=iV;cases r1;exact vp ⟨H1,I1,q⟩
variable {tA tB':TT}{rest:List bg}
def aE9(t u:TT):TT:=fun σ H Q=>t σ H fun c H1=>if c=true then u σ H1 Q else Q false H1
def tOr(t u:TT):TT:=fun σ H Q=>t σ H fun c H1=>if c=true then Q true H1 else u σ H1 Q
def aF0(t:TT):TT:=fun σ H Q=>t σ H fun c H1=>Q (!c) H1
def pw_and1(ha:PT X a tA):PW X (.BoolOp .And [a] pos) tA:=by
 intro wh ao s σ H Q I h;refine isTrue_and (gv (ha ao s σ H Q I h) fun c s1 e=>?_);cases c with
 | true=>exact isTrue_and_nil e
 | false=>exact e
def pw_or1(ha:PT X a tA):PW X (.BoolOp .Or [a] pos) tA:=by
 intro wh ao s σ H Q I h;refine isTrue_or (gv (ha ao s σ H Q I h) fun c s1 e=>?_);cases c with
 | false=>exact isTrue_or_nil e
 | true=>exact e
def pw_and(ha:PT X a tA)(hb:PW X (.BoolOp .And (b::rest) pos) tB'):PW X (.BoolOp .And (a::b::rest) pos) (aE9 tA tB'):=by
 intro wh ao s σ H Q I h;refine isTrue_and (gv (ha ao s σ H _ I h) fun c s1 Ez=>?_);refine aO Ez fun H1 I1 q1=>?_;clear Ez;cases c with
 | true=>exact hb wh ao s1 σ H1 Q I1 q1
 | false=>exact⟨H1,I1,q1⟩
def pw_or(ha:PT X a tA)(hb:PW X (.BoolOp .Or (b::rest) pos) tB'):PW X (.BoolOp .Or (a::b::rest) pos) (tOr tA tB'):=by
 intro wh ao s σ H Q I h;refine isTrue_or (gv (ha ao s σ H _ I h) fun c s1 EA=>?_);refine aO EA fun H1 I1 q1=>?_;clear EA;cases c with
 | true=>exact⟨H1,I1,q1⟩
 | false=>exact hb wh ao s1 σ H1 Q I1 q1
def Xl(ha:PT X a tA):PT X (.UnaryOp .Not a pos) (aF0 tA):=by
 intro ao s σ H Q I h;exact isTrue_not (ha ao s σ H (fun c H1=>Q (!c) H1) I h)
def af8(ta tb:TE):TE:=fun σ H Q=>ta σ H fun x H1=>∃c,x = .bl c/\if c=true then tb σ H1 Q else Q (.bl false) H1
def Xm{op}(h:PE X a t):PE X (.BoolOp op [a] pos) t:=fun ao s σ H Q I hw=>BoolOp_one (h ao s σ H Q I hw)
def Xn(ha:PE X a ta)(hb:PE X (.BoolOp .And (b::rest) pos) tb):PE X (.BoolOp .And (a::b::rest) pos) (af8 ta tb):=by
 intro ao s σ H Q I h;refine BoolOp_and (gv (ha ao s σ H _ I h) fun v s1 wC=>?_);obtain⟨x,H1,I1,r1,q1⟩:=wC;obtain⟨c,rfl,q1⟩:=q1;cases r1;refine vp ?_;cases c with
 | true=>exact hb ao s1 σ H1 Q I1 q1
 | false=>exact⟨.bl false,H1,I1,rfl,q1⟩
end
def k9(K:aD)(H:Hp)(a:av)(xs:List V):Prop:=
 Rd H a (.lst xs)\/
  ∃(o:Obj) (bx:Array au) (n:Nat),K.lookup a=some o/\o.cls = .type "list" /\o.dict=none/\o.data = .seq bx n/\bx.size<=cG/\Vals xs bx.toList
def kW(K:aD)(H:Hp)(a:av)(xs:List V):Prop:=
 Rd H a (.tup xs)\/
  ∃(o:Obj) (bx:Array au) (n:Nat),K.lookup a=some o/\o.cls = .type "tuple" /\o.data = .seq bx n/\bx.size<=cG/\Vals xs bx.toList
def aF1:au->Option V
 | .none=>some .cM
 | .bool b=>some (.bl b)
 | .int i _=>some (.int i)
 | .str x _=>some (.str x)
 | .bytes b _=>some (.byt b)
 | .float b _=>some (.flt b)
 | .ref a=>some (.ref a)
 | .type n=>some (.ty n)
 | _=>none
def RelV.abs(r:RelV x u):aF1 u=some x:=by
 cases x with
 | cM=>cases r;rfl
 | bl _=>cases r;rfl
 | int _=>obtain⟨t,rfl⟩:=r;rfl
 | str _=>obtain⟨t,rfl⟩:=r;rfl
 | byt _=>obtain⟨t,rfl⟩:=r;rfl
 | flt _=>obtain⟨t,rfl⟩:=r;rfl
 | ref _=>cases r;rfl
 | ty _=>cases r;rfl
def RelV.inj(r:RelV x u)(q:RelV y u):x=y:=eN (r.abs.symm.trans q.abs)
theorem Vals.inj(h:Vals xs us)(h':Vals ys us):xs=ys:=by
 induction h generalizing ys with
 | nil=>cases h';rfl
 | cons r t ih=>
  cases h' with
  | cons r' t'=>rw[r.inj r',ih t']
def k9.of{K:aD}(h:H a=some (.lst xs)):k9 K H a xs:=.inl (.inl h)
def kW.of{K:aD}(h:H a=some (.tup xs)):kW K H a xs:=.inl (.inl h)
def Inv.list(I:Inv X ao σ H s)(h:k9 X.K H a xs):∃bx:List au,Vals xs bx/\PlainL s.heap a bx.toArray/\xs.length<=cG:=by
 rcases h with h|⟨o,bx,n,hk,hc,hd,hs,hz,r⟩;obtain⟨z,bx,n,r,e⟩:=h.ok I.eU;exact⟨bx,r,⟨_,n,e,rfl,rfl,rfl⟩,z⟩;refine⟨bx.toList,r,⟨o,n,I.Ju a o hk,hc,hd,by simpa using hs⟩,?_⟩;have e:=r.length;simp only[d7]at e;lia
def Inv.tuple(I:Inv X ao σ H s)(h:kW X.K H a xs):∃bx:List au,Vals xs bx/\IsTup s.heap a bx.toArray/\xs.length<=cG:=by
 rcases h with h|⟨o,bx,n,hk,hc,hs,hz,r⟩;obtain⟨z,bx,r,p⟩:=h.ok I.eU;exact⟨bx,r,p,z⟩;refine⟨bx.toList,r,⟨o,I.Ju a o hk,hc,n,by simpa using hs⟩,?_⟩;have e:=r.length;simp only[d7]at e;lia
def Inv.wD(I:Inv X ao σ H s)(h:k9 X.K H a xs)(h':k9 X.K H a ys):xs=ys:=by
 refine cC (I.list h) fun bx r b9 _=>?_;obtain⟨o,n,e,_,_,d⟩:=b9;refine cC (I.list h') fun its' r' b9 _=>?_;obtain⟨o',n',e',_,_,d'⟩:=b9;rw[e]at e';cases e';rw[d]at d';injection d' with d1 _;have:bx=its':=by simpa using congrArg Array.toList d1
 subst this;exact r.inj r'
def Inv.Jv(I:Inv X ao σ H s)(h:kW X.K H a xs)(h':kW X.K H a ys):xs=ys:=by
 refine cC (I.tuple h) fun bx r b9 _=>?_;obtain⟨o,e,_,n,d⟩:=b9;refine cC (I.tuple h') fun its' r' b9 _=>?_;obtain⟨o',e',_,n',d'⟩:=b9;rw[e]at e';cases e';rw[d]at d';injection d' with d1 _;have:bx=its':=by simpa using congrArg Array.toList d1
 subst this;exact r.inj r'
abbrev Cx.eT(X:Cx)(E:au->ay->Prop):Cx:={X with xe:=E}
theorem Cx.Ok.eT{X:Cx}(ok:X.Ok)(E:au->ay->Prop):(X.eT E).Ok:=
 ⟨ok.mod,ok.kind,ok.glob,ok.blt,ok.above,ok.inj,ok.has,ok.cab,ok.hd,ok.frames,ok.NC,ok.exf,ok.bs,ok.RL,ok.Js,ok.Jt,ok.tH,ok.W9⟩
def Cx.Ok.iW{X:Cx}(ok:(X.eT E).Ok):X.Ok:=
 ⟨ok.mod,ok.kind,ok.glob,ok.blt,ok.above,ok.inj,ok.has,ok.cab,ok.hd,ok.frames,ok.NC,ok.exf,ok.bs,ok.RL,ok.Js,ok.Jt,ok.tH,ok.W9⟩
theorem Inv.eT(I:Inv X ao σ H s)(E:au->ay->Prop):Inv (X.eT E) ao σ H s:=⟨I.ok.eT E,I.os,I.bare,I.base,I.loc,I.cell,I.free,I.pP,I.pin,I.eU,I.len⟩
theorem Inv.iW(I:Inv (X.eT E) ao σ H s):Inv X ao σ H s:=⟨I.ok.iW,I.os,I.bare,I.base,I.loc,I.cell,I.free,I.pP,I.pin,I.eU,I.len⟩
theorem SP.iW(h:SP (X.eT E) ao D f s'):SP X ao D f s':=by
 cases f with
 | next=>obtain⟨dF,H',I,q⟩:=h;exact⟨dF,H',I.iW,q⟩
 | brk=>obtain⟨dF,H',I,q⟩:=h;exact⟨dF,H',I.iW,q⟩
 | cont=>obtain⟨dF,H',I,q⟩:=h;exact⟨dF,H',I.iW,q⟩
 | ret u=>obtain⟨v,dF,H',I,r,q⟩:=h;exact⟨v,dF,H',I.iW,r,q⟩
section
variable {X:Cx}{st:aX}{rest:List aX}{t u:TS}
def af9:TS:=fun D σ H=>D.nx σ H
def ag0(t u:TS):TS:=fun D σ H=>t {D with nx:=u D} σ H
def Se:qM X [] af9:=fun _ _ σ H _ I h=>HS ⟨σ,H,I,h⟩
def Cv(h1:PS X st t)(h2:qM X rest u):qM X (st::rest) (ag0 t u):=by
 intro ao s σ H D I h;refine VU (gv (h1 ao s σ H {D with nx:=u D} I h) fun f s1 q=>?_);cases f with
 | next=>obtain⟨dF,H',I',q⟩:=q;exact h2 ao s1 dF H' D I' q
 | ret v=>exact q
 | brk=>exact q
 | cont=>exact q
def I0(h1:PS X st t):qM X [st] t:=by
 intro ao s σ H D I h;refine VU (gv (h1 ao s σ H D I h) fun f s1 q=>?_);cases f with
 | next=>exact HS q
 | ret v=>exact q
 | brk=>exact q
 | cont=>exact q
def Inv.quiet(I:Inv X ao σ H s):interactive X.env=false:=by simp[interactive,I.ok.kind]
def Wa(te:TE):TS:=fun D σ H=>te σ H fun _ H1=>D.nx σ H1
def uU(he:PE X e te)(hs:autoParam (swapsWith e none pos.line X.env=pure false) zu0._auto_1):PS X (.Expr e pos) (Wa te):=by
 intro ao s σ H D I h;exact wpAny_Expr_any (gv (he ao s σ H _ I h) fun v s1 ND=>ND.elim fun x Xo=>Xo.elim fun H1 aF2=>aF2.elim fun I1 aF3=>aF3.elim fun r1 q1=>⟨σ,H1,I1,q1⟩) I.quiet hs
def aF4(te:TE):TS:=fun D σ H=>te σ H D.rt
def Xp(he:PE X e te):PS X (.Return (some e) pos) (aF4 te):=by
 intro ao s σ H D I h;exact wpAny_Return_some (gv (he ao s σ H _ I h) fun v s1 aF5=>aF5.elim fun x aF6=>aF6.elim fun H1 aF7=>aF7.elim fun I1 aF8=>aF8.elim fun r1 q1=>⟨x,σ,H1,I1,r1,q1⟩)
def aF9(c:TT)(t u:TS):TS:=fun D σ H=>c σ H fun b H1=>if b=true then t D σ H1 else u D σ H1
def ag1(hc:PT X c tc)(ha:qM X a t)(hb:qM X b u):PS X (.If c a b pos) (aF9 tc t u):=by
 intro ao s σ H D I h;refine wpAny_If (gv (hc ao s σ H _ I h) fun d s1 ag2=>?_);refine aO ag2 fun H1 I1 q1=>?_;clear ag2;cases d with
 | true=>exact ha ao s1 σ H1 D I1 q1
 | false=>exact hb ao s1 σ H1 D I1 q1
end
abbrev TG:=V->St->Hp->(St->Hp->Prop)->Prop
abbrev TGs:=List V->St->Hp->(St->Hp->Prop)->Prop
def PG(X:Cx)(target:bg)(t:TG):Prop:=
 ∀(ao:List (av×Obj)) (s:ay) (σ:St) (H:Hp) (v:V) (u:au) (Q:St->Hp->Prop),Inv X ao σ H s->RelV v u->t v σ H Q->
  aA (aC X.prog X.w) X.A (assign target X.env u) (fun _ s'=>∃dF H',Inv X ao dF H' s'/\Q dF H') X.xe s
def PGs(X:Cx)(ts:List bg)(t:TGs):Prop:=
 ∀(ao:List (av×Obj)) (s:ay) (σ:St) (H:Hp) (vs:List V) (us:List au) (Q:St->Hp->Prop),Inv X ao σ H s->Vals vs us->t vs σ H Q->
  aA (aC X.prog X.w) X.A (assignInOrder ((qQ ts X.env).map (·.2)) us) (fun _ s'=>∃dF H',Inv X ao dF H' s'/\Q dF H') X.xe s
abbrev ag3:=V->V->V->Hp->(Hp->Prop)->Prop
def ag4(X:Cx)(t:ag3):Prop:=
 ∀(ao:List (av×Obj)) (s:ay) (σ:St) (H:Hp) (o i v:V) (ov iv u:au) (Q:Hp->Prop),Inv X ao σ H s->RelV o ov->RelV i iv->RelV v u->t o i v H Q->
  aA (aC X.prog X.w) X.A (setItem ov iv u) (fun _ s'=>∃H',Inv X ao σ H' s'/\Q H') X.xe s
def Cw(i:Nat):TG:=fun v σ H Q=>Q (σ.set i (some v)) H
def dj(hN:X.N.Nodup)(hi:X.N[i]?=some x)(hx:Loc X.env.scope x)(hf:autoParam (X.fn x=true\/X.env.scope.names.lookup x=some .local) zu4._auto_1):PG X (.Name x pos) (Cw i):=by
 intro ao s σ H v u Q I r h;exact VV (qV I hN hi hx r (fun s' I'=>⟨_,H,I',h⟩) hf)
def ag5:TGs:=fun vs σ H Q=>vs=[]/\Q σ H
def NF(t:TG)(u:TGs):TGs:=fun vs σ H Q=>∃v r,vs=v::r/\t v σ H fun dF H'=>u r dF H' Q
def qX:PGs X [] ag5:=by
 intro ao s σ H vs us Q I r h;obtain⟨e,h⟩:=h;subst e;cases r;exact W7 ⟨σ,H,I,h⟩
def i7(h1:PG X e t)(h2:PGs X es u)
  (hs:autoParam ((qQ (e::es) X.env).map (·.2)=assign e X.env::(qQ es X.env).map (·.2)) zu0._auto_1):PGs X (e::es) (NF t u):=by
 intro ao s σ H vs us Q I r h;obtain⟨v,vr,e1,h⟩:=h;subst e1;cases r with
 | cons r rr=>rw[hs];refine MV (gv (h1 ao s σ H _ _ _ I r h) fun _ s1 ag6=>?_);refine di ag6 fun NG H1 I1 q1=>?_;clear ag6;exact h2 ao s1 NG H1 _ _ Q I1 rr q1
def ag7(K:aD)(n:Nat)(t:TGs):TG:=fun v σ H Q=>∃a xs,v = .ref a/\kW K H a xs/\xs.length=n/\t xs σ H Q
def wF(hc:X.calm=true)(h:PGs X es t)
  (hn:autoParam ((qQ es X.env).length=n) zu0._auto_1) (pG:autoParam ((qQ es X.env).findIdx? (·.1)=none) zu0._auto_1):PG X (.Tuple es k pos) (ag7 X.K n t):=by
 intro ao s σ H v u Q I r hw;obtain⟨a,xs,e1,hq,hl,hw⟩:=hw;subst e1;cases r;obtain⟨bx,rv,ht,hz⟩:=I.tuple hq;refine assign_Tuple_tuple (I.ok.hd hc) ht (by simp[hn,<- hl,rv.length]) pG fun h' hx=>?_;have I1:Inv X ao σ H {s with heap:=h'}:=I.kept (t':=s.toks) fun b o e=>hx b o (dh (bY e)) e;exact h ao _ σ H xs _ Q I1 (by simpa using rv) hw
def jW(to ti:TE)(t:ag3):TG:=fun v σ H Q=>to σ H fun o H1=>ti σ H1 fun i H2=>t o i v H2 fun H3=>Q σ H3
def NH(ho:PE X o to)(hi:PE X i ti)(hs:ag4 X t)
  (ha:autoParam (∀v,assign (.Subscript o i pos) X.env v=(do
   let ov <- holding [v] (eval o X.env)
   let iv <- holding [v,ov] (eval i X.env)
   standAt pos
   holding [v,ov,iv] (setItem ov iv v)
   release [v,ov,iv] [])) zu3._auto_1):PG X (.Subscript o i pos) (jW to ti t):=by
 intro ao s σ H v u Q I r h;rw[ha];refine ak (iN (gv (ho ao s σ H _ I h) fun ov s1 ag8=>?_));refine bw ag8 fun x H1 I1 r1 q1=>?_;clear ag8;refine ak (iN (gv (hi ao s1 σ H1 _ I1 q1) fun iv s2 ag9=>?_));refine bw ag9 fun y H2 I2 r2 q2=>?_;clear ag9;refine ak (yX (ak (iN (gv (hs ao s2 σ H2 x y v ov iv u _ I2 r1 r2 r q2) fun _ s3 ah0=>?_))));refine aO ah0 fun H3 I3 q3=>?_;clear ah0;exact wpAny_release ⟨σ,H3,I3,q3⟩
def ah1(te:TE)(g:TG):TS:=fun D σ H=>te σ H fun x H1=>g x σ H1 D.nx
def G7(he:PE X e te)(hg:PG X tg g)(hs:autoParam (swapsWithSole [tg] e pos.line X.env=pure false) zu0._auto_1)(hw:autoParam (swappedStores [tg] e X.env=pure none) zu0._auto_1)
  (h1:autoParam ((qQ [tg] X.env).map (·.2)=[assign tg X.env]) zu0._auto_1):PS X (.Assign [tg] e pos) (ah1 te g):=by
 intro ao s σ H D I h;refine wpAny_Assign_stores (gv (he ao s σ H _ I h) fun v s1 ah2=>?_) hs hw;refine bw ah2 fun x H1 I1 r1 q1=>?_;clear ah2;rw[h1];exact gv (hg ao s1 σ H1 x v _ I1 r1 q1) fun _ s2 q=>q
def Xq(hN:X.N.Nodup)(hi:X.N[i]?=some x)(hx:Loc X.env.scope x)(he:PE X e te)(hs:autoParam (swapsWith e (some (.Name x pos')) pos.line X.env=pure false) zu0._auto_1)(hf:autoParam (X.fn x=true\/X.env.scope.names.lookup x=some .local) zu4._auto_1) :
  PS X (.Assign [.Name x pos'] e pos) (ah1 te (Cw i)):=by
 intro ao s σ H D I h;refine wpAny_Assign_Name (gv (he ao s σ H _ I h) fun v s1 ah3=>?_) hs;refine bw ah3 fun y H1 I1 r1 q1=>?_;clear ah3;exact qV I1 hN hi hx r1 (fun s2 I2=>⟨_,H1,I2,q1⟩) hf
def aG0(i j:Nat)(ta:TA):TS:=fun D σ H=>ta σ H fun vs H1=>∃v w,vs=[v,w]/\D.nx ((σ.set i (some v)).set j (some w)) H1
def Xr{kt k2 Xs}(hc:X.calm=true)(hN:X.N.Nodup)(hi:X.N[i]?=some x)(hj:X.N[j]?=some y)(mK:i≠j)
  (hx:X.env.scope.names.lookup x=some .local) (hy:X.env.scope.names.lookup y=some .local) (ha:PA X [a,b] ta)
  (hw:swappedStores [.Tuple [.Name x px,.Name y py] kt pt] (.Tuple [a,b] k2 Xs) X.env=pure (some [x,y]))
  (hs:autoParam (swapsWithSole [.Tuple [.Name x px,.Name y py] kt pt] (.Tuple [a,b] k2 Xs) pos.line X.env=pure false) zu0._auto_1) :
  PS X (.Assign [.Tuple [.Name x px,.Name y py] kt pt] (.Tuple [a,b] k2 Xs) pos) (aG0 i j ta):=by
 intro ao s σ H D I h;rw[exec_Assign_arm];refine ak (yX ?_);rw[hs];refine ak (aB ?_);rw[aX0 (by decide)];refine ak (Tuple_ (gv (ha _ ao s σ H _ I h) fun us s1 ah4=>?_));refine bw ah4 fun vs H1 I1 r1 q1=>?_;clear ah4;obtain⟨v,w,e1,q1⟩:=q1;subst e1;obtain⟨u1,u2,rfl,rv,Sf⟩:∃u1 u2,us=[u1,u2]/\RelV v u1/\RelV w u2:=by
  cases r1 with
  | cons p q=>
   cases q with
   | cons p' q'=>cases q';exact⟨_,_,rfl,p,p'⟩
 refine nF ?_ (by show 2<=cG;decide);have I2:Inv X ao σ H1 {s1 with heap:=s1.heap.push {cls:=.type "tuple",data:=.seq [u1,u2].toArray}}:=I1.kept (t':=s1.toks) fun b o e=>bM _ e;rw[hw];refine ak (aB ?_);show aA (aC X.prog X.w) X.A (do rule "assign.swapped-stores";let items <- unpackItems (.ref s1.heap.objs.size) 2 none;assignInOrder [fun v=>bindName X.env y v,fun v=>bindName X.env x v] items.reverse;pure Flow.next) _ _ _;refine ak (vq (ak (unpackItems_tuple (items:=#[u1,u2]) (I.ok.hd hc) (IsTup.new s1.heap _) fun h' qY=>?_)));have I3:=I2.kept (h':=h') (t':=s1.toks) fun b o e=>qY b o (dh (bY e)) e;show aA _ _ (assignInOrder [fun v=>bindName X.env y v,fun v=>bindName X.env x v] [u2,u1]>>=fun _=>pure Flow.next) _ _ _;refine ak (MV (wpAny_bindName (qV I3 hN hj (.inl hy) Sf (fun s2 I4=>?_) (.inr hy))));refine MV (wpAny_bindName (qV I4 hN hi (.inl hx) rv (fun s3 I5=>W7 (aB ?_)) (.inr hx)));rw[List.set_comm _ _ (dZ mK)]at I5;exact⟨_,H1,I5,q1⟩
def Xu(c:TT)(tb:TS):TS:=fun D σ H=>∃W:Nat->St->Hp->Prop,(∃m,W m σ H)/\∀m σ H,W m σ H->
 c σ H fun b H1=>if b=true then ∃N:St->Hp->Prop,(∀dF H',N dF H'->∃m',m'<m/\W m' dF H')/\tb {D with nx:=N,ct:=N,bk:=D.nx} σ H1 else D.nx σ H1
def NI(hp:PassesOwn (aC X.prog X.w) X.A X.env X.xe)(hc:PT X c tc)(hb:qM X body tb):PS X (.While c body [] pos) (Xu tc tb):=by
 intro ao s σ H D I h;refine aO h fun W iV turn=>?_;clear h;obtain⟨m0,w0⟩:=iV;refine wpAny_While (codeAny_whileLoop (fun n s'=>∃dF H',Inv X ao dF H' s'/\W n dF H') ?_ m0 ⟨σ,H,I,w0⟩);rintro n s1 ⟨NG,H1,I1,w1⟩;refine vt hp (gv (hc ao s1 NG H1 _ I1 (turn n NG H1 w1)) fun b s2 ah5=>?_);refine aO ah5 fun H2 I2 q2=>?_;clear ah5;cases b with
 | true=>
  obtain⟨N,hN,q2⟩:=q2;rw[aW9 rfl];refine vt hp (gv (hb ao s2 NG H2 _ I2 q2) fun f s3 q3=>?_);cases f with
  | next=>refine di q3 fun Cy H3 I3 n3=>?_;clear q3;refine aO (hN Cy H3 n3) fun m' hm w3=>?_;exact⟨m',hm,Cy,H3,I3,w3⟩
  | cont=>refine di q3 fun Cy H3 I3 n3=>?_;clear q3;refine aO (hN Cy H3 n3) fun m' hm w3=>?_;exact⟨m',hm,Cy,H3,I3,w3⟩
  | brk=>exact q3
  | ret v=>exact q3
 | false=>rw[aX0 iS];exact HS ⟨NG,H2,I2,q2⟩
structure It where
 go:Nat->Hp->Prop
 yld:Nat->Hp->V->Hp->Prop
 stop:Nat->Hp->Prop
def AH(X:Cx)(ao:List (av×Obj))(H:Hp)(b:av):Prop:=
 H b=none/\b≠X.env.locals/\b∉X.fs/\(b∈X.ex\/X.iU.heap.objs.size<=b)/\(∀x c,X.env.cells.lookup x=some c->c≠b)/\∀p∈X.pn++ao,p.1≠b
def Inv.Jw(I:Inv X ao σ H s)(hb:s.heap.objs.size<=b)(hn:H' b=none):AH X ao H' b:=by
 refine⟨hn,Ce (i6 I.lt hb),I.aE6 hb,.inr (cj I.sz hb),fun x c e z=>?_,fun p hp z=>?_⟩;obtain⟨v,q⟩:=I.cell x c e;exact aY1 (i6 q.lt (by rw[z];exact hb)) (qT _);exact aY1 (i6 (bY (I.pin p hp).1) (by rw[z];exact hb)) (qT _)
structure Turn(P:cS)(w:bI)(K:aD)(tg:bg)(J:It)(fp:List av)(it:av)(tn:Nat->aQ->Prop):Prop where
 mem:it∈fp
 obj:∀i h,tn i h->∀b∈fp,∃o,h.get? b=some o/\∀v,o.data≠ .cell v
 keep:∀i h h',tn i h->(∀b∈fp,∀o,h.get? b=some o->h'.get? b=some o)->tn i h'
 item:∀(X:Cx),X.prog=P->X.w=w->X.K=K->X.calm=true->∀(i:Nat) (ao:List (av×Obj)) (s:ay) (σ:St) (H:Hp) (E:au->ay->Prop),Inv X ao σ H s->(∀b∈fp,AH X ao H b)->tn i s.heap->J.go i H->
  aA (aC P w) X.A (pyNext (.ref it)) (fun r s1=>∃u,r=some u/\
   aA (aC P w) X.A (letOwnedTupleGo tg (.ref it) u) (fun _ s2=>∃x H',Inv X ao σ H' s2/\RelV x u/\J.yld i H x H'/\tn (i+1) s2.heap/\∀b∈fp,H' b=none) E s1) E s
 done:∀(X:Cx),X.prog=P->X.w=w->X.K=K->X.calm=true->∀(i:Nat) (ao:List (av×Obj)) (s:ay) (σ:St) (H:Hp) (E:au->ay->Prop),Inv X ao σ H s->(∀b∈fp,AH X ao H b)->tn i s.heap->J.stop i H->
  aA (aC P w) X.A (pyNext (.ref it)) (fun r s1=>r=none/\Inv X ao σ H s1) E s
 self:∀(A:bX) (i:Nat) (s:ay) (Q:au->ay->Prop) (E:au->ay->Prop),tn i s.heap->Q (.ref it) s->aA (aC P w) A (pyIter (.ref it)) Q E s
abbrev TI:=St->Hp->(It->Hp->Prop)->Prop
def PIE(X:Cx)(ao:List (av×Obj))(σ:St)(tg:bg)(R:It->Hp->Prop)(itv:au)(s2:ay):Prop:=
 ∃(it:av) (fp:List av) (tn:Nat->aQ->Prop) (J:It) (H':Hp),itv = .ref it/\Inv X ao σ H' s2/\Turn X.prog X.w X.K tg J fp it tn/\tn 0 s2.heap/\(∀b∈fp,AH X ao H' b)/\R J H'
def PI(X:Cx)(tg iter:bg)(wi:TI):Prop:=
 ∀(ao:List (av×Obj)) (s:ay) (σ:St) (H:Hp) (R:It->Hp->Prop),Inv X ao σ H s->wi σ H R->
  aA (aC X.prog X.w) X.A (eval iter X.env) (fun v s1=>aA (aC X.prog X.w) X.A (pyIter v) (PIE X ao σ tg R) X.xe s1) X.xe s
def I8{s:ay}{Q:Unit->ay->Prop}(ho:s.heap.get? it=some o)(hc:o.cls = .type n)(hd:o.data = .fields vs)
    (hn:["enumerate","zip","dict_itemiterator","dict_reverseitemiterator","odict_iterator","itertools.zip_longest","itertools.pairwise"].contains n=false) (hQ:Q () s):aA M A (letOwnedTupleGo tg (.ref it) u) Q E s:=by
  unfold letOwnedTupleGo;cases tg <;> first
    | exact aB hQ
    | (cases u <;> first
        | exact aB hQ
        | (refine ak (wpAny_load ho ?_)
           rw[hc,hd]
           show aA M A (if(["enumerate","zip","dict_itemiterator","dict_reverseitemiterator","odict_iterator","itertools.zip_longest","itertools.pairwise"].contains n&&vs[0]?==some (rawInt _))=true then _ else _) Q E s
           rw[aX0 (by intro h;rw[hn,Bool.false_and]at h;cases h)]
           exact aB hQ))
def Itl(K:aD)(a:av):It:=
 ⟨fun i H=>∃xs x,k9 K H a xs/\xs[i]?=some x,fun i H x H'=>H'=H/\∀xs,k9 K H a xs->xs[i]?=some x,fun i H=>∃xs,k9 K H a xs/\xs.length<=i⟩
def Itt(K:aD)(a:av):It:=
 ⟨fun i H=>∃xs x,kW K H a xs/\xs[i]?=some x,fun i H x H'=>H'=H/\∀xs,kW K H a xs->xs[i]?=some x,fun i H=>∃xs,kW K H a xs/\xs.length<=i⟩
def Itr(lo:Int)(n:Nat):It:=⟨fun i _=>i<n,fun i H x H'=>H'=H/\x = .int (lo+i),fun i _=>n<=i⟩
def Jx{P:cS}{w:bI}{K:aD}{tg:bg}(a it:av):Turn P w K tg (Itl K a) [it] it (fun i h=>h.IsListIter it a i) where
 mem:=by simp
 obj:=fun i h st b hb=>by
  have e:b=it:=by simpa using hb
  subst e;refine cC st fun o e c d=>?_;clear st;exact⟨o,e,fun v z=>by rw[d]at z;cases z⟩
 keep:=fun i h h' st k=>st.at fun o e=>k it (by simp) o e
 item:=by
  intro X hP hw hK hc i ao s σ H E I hf st hg;subst hP hw hK;refine di hg fun xs x hq hx=>?_;clear hg;refine cC (I.list hq) fun bx rv p hz=>?_;refine aO (rv.get hx) fun u hu ru=>?_;refine uI (hf it (by simp)) fun f0 f1 f2 f3 f4 f5=>?_;refine VW st p.isList (x:=u) (by simpa using hu) fun h' st' sb=>?_;have I1:Inv X ao σ H {s with heap:=h'}:=I.turned (t':=s.toks) (fun b o hb e=>(sb.2 b hb).trans e) f0 f1 f3 f4 f5;refine cC (id st') fun o e c d=>?_;exact⟨u,rfl,I8 (s:={s with heap:=h'}) e c d (by decide) ⟨x,H,I1,ru,⟨rfl,fun ys hy=>by rw[I.wD hy hq];exact hx⟩,st',fun b hb=>(hf b hb).1⟩⟩
 done:=by
  intro X hP hw hK hc i ao s σ H E I hf st hg;subst hP hw hK;refine aO hg fun xs hq hx=>?_;clear hg;refine cC (I.list hq) fun bx rv p hz=>?_;refine uI (hf it (by simp)) fun f0 f1 f2 f3 f4 f5=>?_;have hl:=rv.length;exact VX (I.ok.hd hc) st p.isList (by simp;lia) fun h' eb=>⟨rfl,I.turned (t':=s.toks) (fun b o hb e=>eb b o hb e) f0 f1 f3 f4 f5⟩
 self:=fun _ _ _ _ _ st h=>wpAny_pyIter_listiter st h
def G8{P:cS}{w:bI}{K:aD}{tg:bg}(a it:av):Turn P w K tg (Itt K a) [it] it (fun i h=>h.IsTupleIter it a i) where
 mem:=by simp
 obj:=fun i h st b hb=>by
  have e:b=it:=by simpa using hb
  subst e;refine cC st fun o e c d=>?_;clear st;exact⟨o,e,fun v z=>by rw[d]at z;cases z⟩
 keep:=fun i h h' st k=>st.at fun o e=>k it (by simp) o e
 item:=by
  intro X hP hw hK hc i ao s σ H E I hf st hg;subst hP hw hK;refine di hg fun xs x hq hx=>?_;clear hg;refine cC (I.tuple hq) fun bx rv p hz=>?_;refine aO (rv.get hx) fun u hu ru=>?_;refine uI (hf it (by simp)) fun f0 f1 f2 f3 f4 f5=>?_;refine wpAny_pyNext_tuple_item st (show s.heap.IsTuple a bx.toArray from p) (x:=u) (by simpa using hu) fun h' st' sb=>?_;have I1:Inv X ao σ H {s with heap:=h'}:=I.turned (t':=s.toks) (fun b o hb e=>(sb.2 b hb).trans e) f0 f1 f3 f4 f5;refine cC (id st') fun o e c d=>?_;exact⟨u,rfl,I8 (s:={s with heap:=h'}) e c d (by decide) ⟨x,H,I1,ru,⟨rfl,fun ys hy=>by rw[I.Jv hy hq];exact hx⟩,st',fun b hb=>(hf b hb).1⟩⟩
 done:=by
  intro X hP hw hK hc i ao s σ H E I hf st hg;subst hP hw hK;refine aO hg fun xs hq hx=>?_;clear hg;refine cC (I.tuple hq) fun bx rv p hz=>?_;refine uI (hf it (by simp)) fun f0 f1 f2 f3 f4 f5=>?_;have hl:=rv.length;exact wpAny_pyNext_tuple_end (I.ok.hd hc) st (show s.heap.IsTuple a bx.toArray from p) (by simp;lia) fun h' eb=>⟨rfl,I.turned (t':=s.toks) (fun b o hb e=>eb b o hb e) f0 f1 f3 f4 f5⟩
 self:=fun _ _ _ _ _ st h=>wpAny_pyIter_tupleiter st h
def G9{P:cS}{w:bI}{K:aD}{tg:bg}(it:av)(lo:Int)(n:Nat):Turn P w K tg (Itr lo n) [it] it (fun i h=>IsRangeIter h it (lo+(i:Nat)*1) ((n:Int)-(i:Nat)) 1) where
 mem:=by simp
 obj:=fun i h st b hb=>by
  have e:b=it:=by simpa using hb
  subst e;exact⟨_,st,fun v z=>by
   have z':Data.fields _=Data.cell v:=z;cases z'⟩
 keep:=fun i h h' st k=>k it (by simp) _ st
 item:=by
  intro X hP hw hK hc i ao s σ H E I hf st hg;subst hP hw hK;refine uI (hf it (by simp)) fun f0 f1 f2 f3 f4 f5=>?_;have W:=Walks.range (prog:=X.prog) (w:=X.w) (I.ok.hd hc) it lo 1 n;refine W.item i s _ _ hg st fun v h' tk hv st' kk=>?_;obtain⟨t,rfl⟩:=hv;have I1:Inv X ao σ H {s with heap:=h',toks:=tk}:=I.turned (fun b o hb e=>kk b o (by simpa using hb) e) f0 f1 f3 f4 f5;refine⟨_,rfl,I8 (s:={s with heap:=h',toks:=tk}) (n:="range_iterator") st' rfl rfl (by decide) ⟨.int (lo+i),H,I1,⟨t,?_⟩,⟨rfl,rfl⟩,st',fun b hb=>(hf b hb).1⟩⟩;rw[Int.mul_one]
 done:=by
  intro X hP hw hK hc i ao s σ H E I hf st hg;subst hP hw hK;refine uI (hf it (by simp)) fun f0 f1 f2 f3 f4 f5=>?_;exact wpAny_pyNext_range_end (I.ok.hd hc) st (by have:n<=i:=hg;lia) fun h' eb=>⟨rfl,I.turned (t':=s.toks) (fun b o hb e=>eb b o hb e) f0 f1 f3 f4 f5⟩
 self:=fun _ _ _ _ _ st h=>wpAny_pyIter_rangeiter st h
def ah6(K:aD)(tl:TE):TI:=fun σ H R=>tl σ H fun x H1=>∃a,x = .ref a/\(∃xs,k9 K H1 a xs)/\R (Itl K a) H1
def aG1(K:aD)(tl:TE):TI:=fun σ H R=>tl σ H fun x H1=>∃a,x = .ref a/\(∃xs,kW K H1 a xs)/\R (Itt K a) H1
def Ia{l:bg}{tl:TE}(hl:PE X l tl):PI X tg l (ah6 X.K tl):=by
 intro ao s σ H R I h;refine gv (hl ao s σ H _ I h) fun v s1 ah7=>?_;refine bw ah7 fun x H1 I1 r1 q1=>?_;clear ah7;refine cC q1 fun a e b9 q=>?_;clear q1;obtain⟨xs,hq⟩:=b9;subst e;cases r1;refine cC (I1.list hq) fun bx rv p hz=>?_;refine VY p.isList ?_;refine⟨s1.heap.objs.size,[s1.heap.objs.size],_,_,H1,rfl,I1.kept (t':=s1.toks) fun b o e=>bM _ e,Jx a _,⟨_,dW _ rfl,rfl,rfl⟩,fun b hb=>?_,q⟩;have e:b=s1.heap.objs.size:=by simpa using hb
 subst e;exact I1.Jw (aZ _) (I1.eU.fresh (aZ _))
def Xv{l:bg}{tl:TE}(hl:PE X l tl):PI X tg l (aG1 X.K tl):=by
 intro ao s σ H R I h;refine gv (hl ao s σ H _ I h) fun v s1 ah8=>?_;refine bw ah8 fun x H1 I1 r1 q1=>?_;clear ah8;refine cC q1 fun a e b9 q=>?_;clear q1;obtain⟨xs,hq⟩:=b9;subst e;cases r1;refine cC (I1.tuple hq) fun bx rv p hz=>?_;refine wpAny_pyIter_tuple (show s1.heap.IsTuple a bx.toArray from p) ?_;refine⟨s1.heap.objs.size,[s1.heap.objs.size],_,_,H1,rfl,I1.kept (t':=s1.toks) fun b o e=>bM _ e,G8 a _,⟨_,dW _ rfl,rfl,rfl⟩,fun b hb=>?_,q⟩;have e:b=s1.heap.objs.size:=by simpa using hb
 subst e;exact I1.Jw (aZ _) (I1.eU.fresh (aZ _))
def NJ{R:It->Hp->Prop}{lo hi:Int}{tk:Nat}(I:Inv X ao σ H s)(h1 : -(2 ^ 62)<=lo)(h2:lo<2 ^ 62)(h3 : -(2 ^ 62)<=hi)(h4:hi<2 ^ 62)
  (q:R (Itr lo (hi-lo).toNat) H):aA (aC X.prog X.w) X.A (pyIter (.ref s.heap.objs.size)) (PIE X ao σ tg R) E {s with heap:=s.heap.push {cls:=.type "range",data:=.fields #[.int lo t,.int hi u,.int 1 v]},toks:=tk}:=by
 refine wpAny_pyIter_range (IsRange.new ..) (small_one h1 h2 h3 h4) ?_;have I1:Inv X ao σ H {s with heap:=s.heap.push {cls:=.type "range",data:=.fields #[.int lo t,.int hi u,.int 1 v]},toks:=tk}:=I.kept fun b o e=>bM _ e;refine⟨(s.heap.push {cls:=.type "range",data:=.fields #[.int lo t,.int hi u,.int 1 v]}).objs.size,[(s.heap.push {cls:=.type "range",data:=.fields #[.int lo t,.int hi u,.int 1 v]}).objs.size],_,_,H,rfl,
  I1.kept (t':=tk) fun b o e=>bM _ e,G9 _ lo (hi-lo).toNat,?_,fun b hb=>?_,q⟩
 have e1:lo+((0:Nat):Int)*1=lo:=by simp
 have e2:(((hi-lo).toNat:Nat):Int)-((0:Nat):Int)=Builtin.Range.rangeSize lo hi 1:=by rw[rangeSize_one];split <;> lia
 show IsRangeIter _ _ (lo+((0:Nat):Int)*1) ((((hi-lo).toNat:Nat):Int)-((0:Nat):Int)) 1;rw[e1,e2];exact dW _ rfl;have e:b=(s.heap.push {cls:=.type "range",data:=.fields #[.int lo t,.int hi u,.int 1 v]}).objs.size:=by simpa using hb
 subst e;exact I1.Jw (aZ _) (I1.eU.fresh (aZ _))
def ah9(ta:TA):TI:=fun σ H R=>ta σ H fun vs H1=>∃j:Int,vs=[.int j]/\ -(2 ^ 62)<=j/\j<2 ^ 62/\R (Itr 0 j.toNat) H1
def Jy{a:bg}{p:Pos}(hg:Gl X "range")(hm:X.mg "range"=none)(ha:PA X [a] ta)(hs:autoParam (bH [a] X.env=[(false,eval a X.env)]) zu0._auto_1):PI X tg (.Call (.Name "range" p) [a] [] pos) (ah9 ta):=by
 intro ao s σ H R I h;refine Call_ (wB I hg hm boot_range (MW (gv (ha pos ao s σ H _ I h) fun us s1 ai0=>?_) hs rfl));refine bw ai0 fun vs H1 I1 r1 q1=>?_;clear ai0;obtain⟨j,e,q1,q2,q⟩:=q1;subst e;cases r1 with
 | cons r rr=>cases rr;obtain⟨t,rfl⟩:=r;exact call_range_1 (NJ I1 (by lia) (by lia) q1 q2 (by simpa using q))
def aG2(wi:TI)(g:TG)(tb:TS):TS:=fun D σ H=>wi σ H fun J H1=>∃W:Nat->Nat->St->Hp->Prop,(∃m,W 0 m σ H1)/\∀i m σ H,W i m σ H->
 (J.stop i H/\D.nx σ H)\/(J.go i H/\∃N:St->Hp->Prop,(∀dF H',N dF H'->∃m',m'<m/\W (i+1) m' dF H')/\∀x H',J.yld i H x H'->g x σ H' fun AI H2=>tb {D with nx:=N,ct:=N,bk:=D.nx} AI H2)
def wG(fp:List av)(h:aQ):List (av×Obj):=fp.filterMap fun b=>(h.get? b).map fun o=>(b,o)
def mZ{h:aQ}(hb:b∈fp)(e:h.get? b=some o):(b,o)∈wG fp h:=Cf.mpr ⟨b,hb,by rw[e];rfl⟩
def Jz(hp:p∈wG fp h):p.1∈fp/\h.get? p.1=some p.2:=by
 refine aO (Cf.mp hp) fun b hb e=>?_;cases q:h.get? b with
 | none=>rw[q]at e;cases e
 | some o=>rw[q]at e;have e':(b,o)=p:=eN e;subst e';exact⟨hb,q⟩
def Inv.pinned(I:Inv X ao σ H s)(hf:∀b∈fp,AH X ao H b)(ho:∀b∈fp,∃o,s.heap.get? b=some o/\∀v,o.data≠ .cell v):Inv X (ao++wG fp s.heap) σ H s:=
 I.qU fun p hp=>(gh.mp hp).elim (fun z=>I.pin p (nG _ z)) fun z=>by
  obtain⟨hb,e⟩:=Jz z;refine G3 (hf p.1 hb) fun f0 f1 f2 _=>?_;refine aO (ho p.1 hb) fun o e' d=>?_;rw[e]at e';cases e';exact⟨e,f0,f1,f2,d⟩
def Inv.wH(I:Inv X (ao++pl) σ H s):Inv X ao σ H s:=I.qU fun p hp=>I.pin p (nG _ (HW _ hp))
def Ga(hp:PassesOwn (aC X.prog X.w) X.A X.env X.xe)(hc:X.calm=true)(hi:PI X tg iter wi)(hg:PG X tg g)(hb:qM X body tb)
  (hs:autoParam (∀x,qR iter X.env x=pure x) zu3._auto_1):PS X (.For tg iter body [] pos) (aG2 wi g tb):=by
 intro ao s σ H D I h;refine wpAny_For (gv (hi ao s σ H _ I h) fun v s1 h1=>gv h1 fun itv s2 h2=>?_) hs;obtain⟨it,fp,tn,J,H2,e,I2,T,m8,f2,W,⟨m0,w0⟩,turn⟩:=h2;subst e;have Xw:∀{H':Hp},(∀b∈fp,H' b=none)->∀b∈fp,AH X ao H' b:=fun hn b hb=>⟨hn b hb,(f2 b hb).2⟩
 refine codeAny_forLoop_any (fun n s'=>∃i dF H',Inv X ao dF H' s'/\tn i s'.heap/\(∀b∈fp,H' b=none)/\W i n dF H') ?_ m0 ⟨0,σ,H2,I2,m8,fun b hb=>(f2 b hb).1,w0⟩;rintro n s3 ⟨i,Cy,H3,I3,Cz,fr3,w3⟩;rcases turn i n Cy H3 w3 with⟨stop,qn⟩|⟨go,N,hN,step⟩;refine vt hp (gv (T.done X rfl rfl rfl hc i ao s3 Cy H3 X.xe I3 (Xw fr3) Cz stop) fun r s4 aG3=>?_);obtain⟨hr,I4⟩:=aG3;subst hr;exact HS ⟨Cy,H3,I4,qn⟩;refine vt hp (gv (T.item X rfl rfl rfl hc i ao s3 Cy H3 X.xe I3 (Xw fr3) Cz go) fun r s4 ai1=>?_);refine aO ai1 fun u hr h4=>?_;clear ai1;subst hr;refine vt hp (gv h4 fun _ s5 ai2=>?_);refine Jq ai2 fun x H5 I5 r5 y5 AJ fr5=>?_;clear ai2;have I5':=I5.pinned (Xw fr5) (T.obj _ _ AJ);refine vt hp (gv (hg _ s5 Cy H5 x u _ I5' r5 (step x H5 y5)) fun _ s6 ai3=>?_);refine di ai3 fun Xx H6 I6 q6=>?_;clear ai3;refine vt hp (gv (hb _ s6 Xx H6 _ I6 q6) fun f s7 q7=>?_);have again:∀{NK:St} {H7:Hp},Inv X (ao++wG fp s5.heap) NK H7 s7->N NK H7->∃m,m<n/\∃i dF H',Inv X ao dF H' s7/\tn i s7.heap/\(∀b∈fp,H' b=none)/\W i m dF H':=fun {NK H7} I7 n7=>by refine aO (hN NK H7 n7) fun m' hm w7=>?_;refine⟨m',hm,i+1,NK,H7,I7.wH,T.keep _ _ _ AJ fun b hb o e=>(I7.pin (b,o) (nG _ (nG _ (mZ hb e)))).1,fun b hb=>?_,w7⟩;refine aO (T.obj _ _ AJ b hb) fun o e d=>?_;exact(I7.pin (b,o) (nG _ (nG _ (mZ hb e)))).2.1
 cases f with
 | next=>obtain⟨NK,H7,I7,n7⟩:=q7;exact again I7 n7
 | cont=>obtain⟨NK,H7,I7,n7⟩:=q7;exact again I7 n7
 | brk=>obtain⟨NK,H7,I7,q7⟩:=q7;exact⟨NK,H7,I7.wH,q7⟩
 | ret v=>obtain⟨x7,NK,H7,I7,r7,q7⟩:=q7;exact⟨x7,NK,H7,I7.wH,r7,q7⟩
abbrev R2:=V->V->Hp->VK->Prop
def pQ(X:Cx)(f:au->au->Sem au)(r:R2):Prop:=
 ∀(ao:List (av×Obj)) (s:ay) (σ:St) (H:Hp) (x y:V) (v u:au) (Q:VK),Inv X ao σ H s->RelV x v->RelV y u->r x y H Q->
  aA (aC X.prog X.w) X.A (f v u) (EP X ao σ Q) X.xe s
def UnR(X:Cx)(f:au->Sem au)(r:V->Hp->VK->Prop):Prop:=
 ∀(ao:List (av×Obj)) (s:ay) (σ:St) (H:Hp) (x:V) (v:au) (Q:VK),Inv X ao σ H s->RelV x v->r x H Q->
  aA (aC X.prog X.w) X.A (f v) (EP X ao σ Q) X.xe s
def oB(X:Cx)(f:au)(r:List V->Hp->VK->Prop):Prop:=
 ∀(ao:List (av×Obj)) (s:ay) (σ:St) (H:Hp) (xs:List V) (us:List au) (Q:VK),Inv X ao σ H s->Vals xs us->r xs H Q->
  aA (aC X.prog X.w) X.A (call f us) (EP X ao σ Q) X.xe s
def tOp(r:R2)(ta tb:TE):TE:=fun σ H Q=>ta σ H fun x H1=>tb σ H1 fun y H2=>r x y H2 Q
def tUn(r:V->Hp->VK->Prop)(ta:TE):TE:=fun σ H Q=>ta σ H fun x H1=>r x H1 Q
def rI(C:Int->Int->Prop)(g:Int->Int->V):R2:=fun x y H Q=>∃i j,x = .int i/\y = .int j/\C i j/\Q (g i j) H
def Ll(g:Int->Int->V):R2:=fun x y H Q=>∃i j,x = .int i/\y = .int j/\Q (g i j) H
def rU(g:Int->V):V->Hp->VK->Prop:=fun x H Q=>∃i,x = .int i/\Q (g i) H
def Xy(ha:PE X a ta)(hb:PE X b tb){R:V->V->Hp->Prop}(I:Inv X ao σ H s)
  (h:ta σ H fun x H1=>tb σ H1 fun y H2=>R x y H2) {f:au->au->Sem au}
  (hf:∀v u s2 x y H2,Inv X ao σ H2 s2->RelV x v->RelV y u->R x y H2->aA (aC X.prog X.w) X.A (f v u) Q X.xe s2) :
  aA (aC X.prog X.w) X.A (eval a X.env) (fun v kE=>aA (aC X.prog X.w) X.A (eval b X.env) (fun u Sh=>aA (aC X.prog X.w) X.A (f v u) Q X.xe Sh) X.xe kE) X.xe s:=by
 refine gv (ha ao s σ H _ I h) fun v s1 ai4=>?_;refine bw ai4 fun x H1 I1 r1 q1=>?_;clear ai4;refine gv (hb ao s1 σ H1 _ I1 q1) fun u s2 ai5=>?_;refine bw ai5 fun y H2 I2 r2 q2=>?_;clear ai5;exact hf v u s2 x y H2 I2 r1 r2 q2
def ai6(ho:pQ X (binaryOp op) r)(ha:PE X a ta)(hb:PE X b tb):PE X (.BinOp a op b pos) (tOp r ta tb):=by
 intro ao s σ H Q I h;exact wpAny_BinOp (Xy ha hb I h fun v u s2 x y H2 I2 rx ry q=>ho ao s2 σ H2 x y v u Q I2 rx ry q)
def ai7(ho:UnR X (unaryOp op) r)(ha:PE X a ta):PE X (.UnaryOp op a pos) (tUn r ta):=by
 intro ao s σ H Q I h;exact UnaryOp_ (gv (ha ao s σ H _ I h) fun v s1 aG4=>aG4.elim fun x aG5=>aG5.elim fun H1 aG6=>aG6.elim fun I1 aG7=>aG7.elim fun r1 q1=>ho ao s1 σ H1 x v Q I1 r1 q1)
def opI{f:au->au->Sem au}{C:Int->Int->Prop}{g:Int->Int->Int}
  (rule:∀(i j:Int) (t u:Tok) (s:ay) (Q:au->ay->Prop) (E:au->ay->Prop),C i j->Q (.int (g i j) s.toks) {s with toks:=s.toks+1}->aA (aC X.prog X.w) X.A (f (.int i t) (.int j u)) Q E s) :
  pQ X f (rI C fun i j=>.int (g i j)):=by
 intro ao s σ H x y v u Q I rx ry h;refine uJ h fun i j b9 qZ hc q=>?_;clear h;obtain rfl:=b9;obtain rfl:=qZ;obtain⟨t,rfl⟩:=rx;obtain⟨t',rfl⟩:=ry;exact rule i j t t' s _ _ hc ⟨.int (g i j),H,I.tok _,⟨_,rfl⟩,q⟩
def ai8{f:au->au->Sem au}{g:Int->Int->Int}
  (rule:∀(i j:Int) (t u:Tok) (s:ay) (Q:au->ay->Prop) (E:au->ay->Prop),Q (.int (g i j) s.toks) {s with toks:=s.toks+1}->aA (aC X.prog X.w) X.A (f (.int i t) (.int j u)) Q E s) :
  pQ X f (Ll fun i j=>.int (g i j)):=by
 intro ao s σ H x y v u Q I rx ry h;refine bw h fun i j b9 qZ q=>?_;clear h;obtain rfl:=b9;obtain rfl:=qZ;obtain⟨t,rfl⟩:=rx;obtain⟨t',rfl⟩:=ry;exact rule i j t t' s _ _ ⟨.int (g i j),H,I.tok _,⟨_,rfl⟩,q⟩
def Xz{f:au->au->Sem au}{g:Int->Int->Bool}
  (rule:∀(i j:Int) (t u:Tok) (s:ay) (Q:au->ay->Prop) (E:au->ay->Prop),Q (.bool (g i j)) s->aA (aC X.prog X.w) X.A (f (.int i t) (.int j u)) Q E s) :
  pQ X f (Ll fun i j=>.bl (g i j)):=by
 intro ao s σ H x y v u Q I rx ry h;refine bw h fun i j b9 qZ q=>?_;clear h;obtain rfl:=b9;obtain rfl:=qZ;obtain⟨t,rfl⟩:=rx;obtain⟨t',rfl⟩:=ry;exact rule i j t t' s _ _ ⟨.bl (g i j),H,I,rfl,q⟩
def ai9(i j:Int):Prop:=0<j/\j<1073741824
def Si(i j:Int):Prop:=(-(2 ^ 64)<i/\i<2 ^ 64)\/(-(2 ^ 64)<j/\j<2 ^ 64)
def Si.ok(h:Si i j):IntMulOk i j:=by
 rcases h with⟨h1,h2⟩|⟨h1,h2⟩;exact .of_left (intBits_le_64 h1 h2);exact .of_right (intBits_le_64 h1 h2)
def XA:pQ X (binaryOp .Add) (Ll fun i j=>.int (i+j)):=ai8 fun _ _ _ _ _ _ _ q=>add_int q
def XC:pQ X (binaryOp .Sub) (Ll fun i j=>.int (i-j)):=ai8 fun _ _ _ _ _ _ _ q=>sub_int q
def XE:pQ X (binaryOp .Mult) (rI Si fun i j=>.int (i*j)):=opI fun _ _ _ _ _ _ _ hc q=>mul_int q hc.ok
def Sj:pQ X (binaryOp .FloorDiv) (rI ai9 fun i j=>.int (i / j)):=opI fun i j _ _ _ _ _ hc q=>by
 have h1:(0:Int)<j:=hc.1;have h2:j<1073741824:=hc.2;exact floordiv_int (by lia) (by rw[Int.fdiv_eq_ediv_of_nonneg i (by lia)];exact q) (.inl (PyProof.noPylong_small (by lia)))
def XF:pQ X (binaryOp .Mod) (rI (fun _ j=>0<j) fun i j=>.int (i % j)):=opI fun i j _ _ _ _ _ hc q=>by
 have h1:(0:Int)<j:=hc;exact mod_int' (by lia) (by rw[Int.fmod_eq_emod_of_nonneg i (by lia)];exact q)
def unI{f:au->Sem au}{g:Int->Int}
  (rule:∀(i:Int) (t:Tok) (s:ay) (Q:au->ay->Prop) (E:au->ay->Prop),Q (.int (g i) s.toks) {s with toks:=s.toks+1}->aA (aC X.prog X.w) X.A (f (.int i t)) Q E s) :
  UnR X f (rU fun i=>.int (g i)):=by
 intro ao s σ H x v Q I rx h;refine aO h fun i iV q=>?_;clear h;obtain rfl:=iV;obtain⟨t,rfl⟩:=rx;exact rule i t s _ _ ⟨.int (g i),H,I.tok _,⟨_,rfl⟩,q⟩
def XG:UnR X (unaryOp .USub) (rU fun i=>.int (-i)):=unI fun _ _ _ _ _ q=>neg_int q
def aj0:pQ X (gU .Lt) (Ll fun i j=>.bl (decide (i<j))):=Xz fun _ _ _ _ _ _ _ q=>lt_int q
def z7:pQ X (gU .LtE) (Ll fun i j=>.bl (decide (i<=j))):=Xz fun _ _ _ _ _ _ _ q=>le_int q
def aj1:pQ X (gU .Gt) (Ll fun i j=>.bl (decide (j<i))):=Xz fun _ _ _ _ _ _ _ q=>gt_int q
def wI(b:bg)(h:autoParam (op≠ .In) zu1._auto_1)(h2:autoParam (op≠ .NotIn) zu1._auto_1):behindInMarks op b=false:=by
 have e1:(op==CmpOp.In)=false:=by cases op <;> first|rfl|exact aY1 rfl h
 have e2:(op==CmpOp.NotIn)=false:=by cases op <;> first|rfl|exact aY1 rfl h2
 cases b <;> simp[behindInMarks,e1,e2]
def Sl(ho:pQ X (gU op) r)(ha:PE X a ta)(hb:PE X b tb)(hm:behindInMarks op b=false):PE X (.Compare a [op] [b] pos) (tOp r ta tb):=by
 intro ao s σ H Q I h;exact wpAny_Compare1 (Xy ha hb I h fun v u s2 x y H2 I2 rx ry q=>ho ao s2 σ H2 x y v u Q I2 rx ry q) hm
def Wb(t:TE):TT:=fun σ H Q=>t σ H fun x H'=>∃k,x = .bl k/\Q k H'
def Sm(ho:pQ X (gU op) r)(ha:PE X a ta)(hb:PE X b tb)(hm:behindInMarks op b=false):PT X (.Compare a [op] [b] pos) (Wb (tOp r ta tb)):=by
 intro ao s σ H Q I h;refine wpAny_isTrue_Compare1 (gv (ha ao s σ H _ I h) fun v s1 aG8=>aG8.elim fun x aG9=>aG9.elim fun H1 aH0=>aH0.elim fun I1 aH1=>aH1.elim fun r1 q1=>gv (hb ao s1 σ H1 _ I1 q1) fun u s2 aH2=>aH2.elim fun y aH3=>aH3.elim fun H2 aH4=>aH4.elim fun I2 aH5=>aH5.elim fun r2 q2=>
  gv (ho ao s2 σ H2 x y v u _ I2 r1 r2 q2) fun c s3 aH6=>aH6.elim fun z aH7=>aH7.elim fun H3 aH8=>aH8.elim fun I3 aH9=>aH9.elim fun r3 aI0=>aI0.elim fun k aI1=>aI1.elim fun e q3=>?_) hm
 subst e;cases r3;exact vp ⟨H3,I3,q3⟩
def Gb(r r':R2)(ta tb tc:TE):TE:=fun σ H Q=>ta σ H fun x H1=>tb σ H1 fun y H2=>r x y H2 fun z H3=>∃k,z = .bl k/\
 (if k=true then tc σ H3 fun w' H4=>r' y w' H4 Q else Q (.bl false) H3)
def NL(ho:pQ X (gU op) r)(Cq:pQ X (gU NN) r')(ha:PE X a ta)(hb:PE X b tb)(hc:PE X c tc)
  (hm:autoParam (lastMarks [op,NN] [b,c]=false) zu5._auto_1):PE X (.Compare a [op,NN] [b,c] pos) (Gb r r' ta tb tc):=by
 intro ao s σ H Q I h;refine Compare_chain (gv (ha ao s σ H _ I h) fun v s1 aI2=>aI2.elim fun x aI3=>aI3.elim fun H1 aI4=>aI4.elim fun I1 aI5=>aI5.elim fun r1 q1=>chain_link (gv (hb ao s1 σ H1 _ I1 q1) fun u s2 aI6=>aI6.elim fun y aI7=>aI7.elim fun H2 aI8=>aI8.elim fun I2 aI9=>aI9.elim fun r2 q2=>
  gv (ho ao s2 σ H2 x y v u _ I2 r1 r2 q2) fun d s3 aJ0=>aJ0.elim fun z aJ1=>aJ1.elim fun H3 aJ2=>aJ2.elim fun I3 aJ3=>aJ3.elim fun r3 aJ4=>aJ4.elim fun k aJ5=>aJ5.elim fun e q3=>?_)) hm
 subst e;cases r3;refine vp ?_;cases k with
 | false=>exact ite_ff ⟨.bl false,H3,I3,rfl,q3⟩
 | true=>exact ite_tt (chain_last (gv (hc ao s3 σ H3 _ I3 q3) fun w' s4 aJ6=>aJ6.elim fun z' aJ7=>aJ7.elim fun H4 aJ8=>aJ8.elim fun I4 aJ9=>aJ9.elim fun r4 q4=>Cq ao s4 σ H4 y z' u w' Q I4 r2 r4 q4))
def NO(ho:pQ X (gU op) r)(Cq:pQ X (gU NN) r')(ha:PE X a ta)(hb:PE X b tb)(hc:PE X c tc)
  (hm:autoParam (lastMarks [op,NN] [b,c]=false) zu5._auto_1):PT X (.Compare a [op,NN] [b,c] pos) (Wb (Gb r r' ta tb tc)):=by
 intro ao s σ H Q I h;refine isTrue_chain (gv (ha ao s σ H _ I h) fun v s1 aK0=>aK0.elim fun x aK1=>aK1.elim fun H1 aK2=>aK2.elim fun I1 aK3=>aK3.elim fun r1 q1=>test_link (gv (hb ao s1 σ H1 _ I1 q1) fun u s2 aK4=>aK4.elim fun y aK5=>aK5.elim fun H2 aK6=>aK6.elim fun I2 aj2=>aj2.elim fun r2 q2=>
  gv (ho ao s2 σ H2 x y v u _ I2 r1 r2 q2) fun d s3 aj3=>aj3.elim fun z aj4=>aj4.elim fun H3 aj5=>aj5.elim fun I3 aj6=>aj6.elim fun r3 aj7=>aj7.elim fun k aj8=>aj8.elim fun e q3=>?_)) hm
 subst e;cases r3;refine vp ?_;cases k with
 | false=>refine aO q3 fun k' e' q'=>?_;clear q3;cases e';exact ite_ff ⟨H3,I3,q'⟩
 | true=>refine ite_tt (test_last (gv (hc ao s3 σ H3 _ I3 q3) fun w' s4 aj9=>aj9.elim fun z' ak0=>ak0.elim fun H4 ak1=>ak1.elim fun I4 ak2=>ak2.elim fun r4 q4=>gv (Cq ao s4 σ H4 y z' u w' _ I4 r2 r4 q4) fun d' s5 ak3=>?_));obtain⟨z2,H5,I5,r5,k2,e2,q5⟩:=ak3;subst e2;cases r5;exact vp ⟨H5,I5,q5⟩
def Gf:(cG:Nat)<2 ^ 63:=by rw[fQ];decide
def vals1(r:Vals [x] us):∃u,us=[u]/\RelV x u:=by
 cases r with
 | cons r1 r2=>cases r2;exact⟨_,rfl,r1⟩
def NP:oB X (.builtin "abs") (fun xs H Q=>∃i,xs=[.int i]/\Q (.int (if i<0 then -i else i)) H):=by
 intro ao s σ H xs us Q I r h;refine aO h fun i iV q=>?_;clear h;obtain rfl:=iV;obtain⟨u,rfl,t,rfl⟩:=vals1 r;exact call_abs_int fun u tk=>⟨.int (if i<0 then -i else i),H,I.tok _,⟨_,rfl⟩,q⟩
structure JA(h:aQ)(x dx C:av)(mA:Str->Option au):Prop where
 obj:h.get? x=some (um C dx)
 ns:h.Ns1 dx mA
 ne:dx≠x
def JB{h:aQ}(n:h.Ns1 dx mA):∃od,h.get? dx=some od/\∀name,PySem.W.lookIn name od=some (mA name):=by
 refine Cg n fun o es ep ho hd hk _ hm=>?_;clear n;refine⟨o,ho,fun name=>?_⟩;have e:=hm name;unfold nsFind findBy at e;rw[<- Array.find?_toList]at e;unfold PySem.W.lookIn;rw[hd];dsimp only;split;rename_i y q;rw[q]at e;exact congrArg some e;rename_i q;rw[q]at e;have a:es.toList.any (·.refKey)=false:=by rw[List.any_eq_false];intro y hy;refine qu (hk y (z5.mp hy)) fun z t AK=>?_;simp[DictEntry.refKey,AK]
 have a':¬ es.toList.any (·.refKey)=true:=by rw[a];exact iS
 rw[aX0 a'];exact congrArg some e
def JA.look(I:JA h x dx C mA):∃od,PySem.W.InstAt h x (um C dx) C (some od)/\∀name,PySem.W.lookIn name od=some (mA name):=
 let⟨od,ho,hl⟩:=JB I.ns
 ⟨od,⟨I.obj,rfl,rfl,ho⟩,hl⟩
section
variable {prog:cS}{w:bI}{A:bX}{E:au->ay->Prop}{s:ay}{K:aD}{x dx C f:av}{mA:Str->Option au}{name:Str}{v:au}
def get_map{Q:au->ay->Prop}(X:K.In s.heap)(I:JA s.heap x dx C mA)(hg:PySem.W.plainGet K C name=true)(hh:PySem.W.hasDictIn K C=true)
  (ha:vD K (.ref C) name=some none) (hv:mA name=some v) (hv':PySem.W.handedIn v=true) (h:Q v {s with toks:=s.toks+1}) :
  aA (aC prog w) A (getAttr (.ref x) name expr) Q E s:=by
 refine aO I.look fun od J hl=>?_;exact PySem.W.get_value X J (PySem.W.plainGet_of hg).1 (PySem.W.findObj_own hh ha rfl (by rw[hl,hv])) hv' h
def Sn{Q:Unit->ay->Prop}(X:K.In s.heap)(I:JA s.heap x dx C mA)
  (hs:vD K (.ref C) "__setattr__"=some (some (.builtin "object.__setattr__"))) (hp:PySem.W.plainOver K C=true) (ht:PySem.W.takerIn K C name=some none) (hh:PySem.W.hasDictIn K C=true)
  (hw:PySem.Within mA ns) (hsz:ns.length<=cG)
  (h:∀h',JA h' x dx C (fun y=>if y=name then some v else mA y)->gH dx s.heap h'->Q () {s with heap:=h',toks:=s.toks+2}) :
  aA (aC prog w) A (setAttr (.ref x) name v) Q E s:=by
 refine aO I.look fun od J hl=>?_;refine PySem.W.set_plain X J hs (PySem.W.osa_open (s:={s with toks:=s.toks+1}) (r:=none) X J hp ht fun b=>?_);refine aO (PySem.W.any_some hh) fun cd hc Lk=>?_;have hx:s.heap.get? x=some ⟨.ref C,some dx,.plain,#[]⟩:=I.obj;refine ak (aB (ak (ak (wpAny_loadPart hx (ak (ae8 (s:={s with toks:=s.toks+1}) (PySem.W.looks_clsIn X hc) ?_))))));rw[Lk];refine aB (a:=some dx) (ak (aB (ak ?_)));refine wpAny_nsSet1 (s:={s with toks:=s.toks+1}) I.ns fun h' hn2 XH=>?_;refine X8 (hn2.count (ae9 name v hw)) fun oD esD epD hoD hdD hcD=>?_;refine ak (wpAny_lookBehind hoD (by rw[hdD];exact pastItsLine_dict (cj hcD (by rw[cK];lia))) ?_);exact aB (h _ ⟨(XH.2 _ (dZ I.ne)).trans I.obj,hn2,I.ne⟩ XH)
def NQ(X:K.In s.heap)(hm:PySem.W.makesIn K C=true)
  (hi:vD K (.ref C) "__init__"=some (some (.ref f))) (hf:PySem.W.typeIn K (.ref f)=some (.type "function"))
  (h:codeAny (aC prog w) (A.under (.builtin "type.__call__" ⟨.ref C::vs,kw⟩)) (.call (.ref f) ⟨.ref (s.heap.objs.size+1)::vs,kw⟩) (PySem.W.InitBack (s.heap.objs.size+1) R)
   {s with heap:=(s.heap.push qS).push (um C s.heap.objs.size)}) :
  codeAny (aC prog w) A (.call (.ref C) ⟨vs,kw⟩) R s:=by
 obtain⟨hh,g,d,t,os⟩:=s;exact PySem.W.make_core (PySem.W.makes_of X hm) (PySem.W.looks_findIn X hi) (fun self=>PySem.W.bind_fn X self hf) (.inl rfl) h
end
def oE(f:Str)(v:V):List (Str×V)->List (Str×V)
 | []=>[(f,v)]
 | (g,x)::r=>if g=f then(g,v)::r else(g,x)::oE f v r
theorem uq(f g:Str)(v:V):∀fs:List (Str×V),(oE f v fs).lookup g=if g=f then some v else fs.lookup g
 | []=>by
  show pO g [(f,v)]=_;by_cases h:g=f;have hb:(g==f)=true:=aX3.mpr h;simp only[pO,hb,aW9 h];have hb:(g==f)=false:=aX6.mpr h;simp only[pO,hb,aX0 h]
 | (k,x)::r=>by
  have ih:=uq f g v r;rw[show oE f v ((k,x)::r)=(if k=f then(k,v)::r else(k,x)::oE f v r)from rfl];by_cases hk:k=f;rw[aW9 hk];by_cases h:g=k;have hb:(g==k)=true:=aX3.mpr h;simp only[pO,hb,aW9 (h.trans hk)];have hb:(g==k)=false:=aX6.mpr h;simp only[pO,hb,aX0 (fun e:g=f=>h (e.trans hk.symm))];rw[aX0 hk];by_cases h:g=k;have hb:(g==k)=true:=aX3.mpr h;simp only[pO,hb,aX0 (fun e:g=f=>hk (h.symm.trans e))];have hb:(g==k)=false:=aX6.mpr h;simp only[pO,hb];exact ih
theorem tK(f:Str)(v:V):∀fs:List (Str×V),f∈(oE f v fs).map (·.1)/\∀g,g∈fs.map (·.1)->g∈(oE f v fs).map (·.1)
 | []=>⟨by simp[oE],fun g h=>by simp at h⟩
 | (k,x)::r=>by
  obtain⟨i1,i2⟩:=tK f v r;rw[show oE f v ((k,x)::r)=(if k=f then(k,v)::r else(k,x)::oE f v r)from rfl];by_cases hk:k=f;rw[aW9 hk];subst hk;exact⟨by simp,fun g h=>by simpa using h⟩;rw[aX0 hk];refine⟨?_,fun g h=>?_⟩;rw[aW];exact nS _ i1;rw[aW]at h ⊢;rcases bR.mp h with e|e;exact bR.mpr (.inl e);exact nS _ (i2 g e)
theorem ur(f:Str)(v:V):∀fs:List (Str×V),(oE f v fs).length<=fs.length+1
 | []=>by simp[oE]
 | (k,x)::r=>by
  have ih:=ur f v r;rw[show oE f v ((k,x)::r)=(if k=f then(k,v)::r else(k,x)::oE f v r)from rfl];by_cases hk:k=f;rw[aW9 hk,cK,cK];lia;rw[aX0 hk,cK,cK];lia
def G4.some_of(r:G4 (some v) o):∃u,o=some u/\RelV v u:=by
 cases o with
 | none=>exact(show False from r).elim
 | some u=>exact⟨u,rfl,r⟩
def JC(r:RelV v u):PySem.W.handedIn u=true:=by
 cases v with
 | cM=>cases(show u=dI from r);rfl
 | bl b=>cases(show u=Value.bool b from r);rfl
 | int i=>obtain⟨t,e⟩:=(show ∃t,u=Jo i t from r);cases e;rfl
 | str x=>obtain⟨t,e⟩:=(show ∃t,u=WX x t from r);cases e;rfl
 | byt b=>obtain⟨t,e⟩:=(show ∃t,u=Value.bytes b t from r);cases e;rfl
 | flt b=>obtain⟨t,e⟩:=(show ∃t,u=Value.float b t from r);cases e;rfl
 | ref a=>cases(show u=eG a from r);rfl
 | ty n=>cases(show u=uh n from r);rfl
def r8(eU:qL P w H h)(e:H a=some (.ins C dx fs)):∃mA,JA h a dx C mA/\(∀f,G4 (fs.lookup f) (mA f))/\PySem.Within mA (fs.map (·.1))/\fs.length<=1000/\H dx=some (.own a):=by
 obtain⟨d,z,ne,ob,mA,n,r,q⟩:=(show gk P w H h a (.ins C dx fs)from eU a _ e)
 exact⟨mA,⟨ob,n,ne⟩,r,q,z,d⟩
structure Ln(K:aD)(C:av):Prop where
 pg:PySem.W.plainGet K C Str.empty=true
 hd:PySem.W.hasDictIn K C=true
 po:PySem.W.plainOver K C=true
 sa:vD K (.ref C) "__setattr__"=some (some (.builtin "object.__setattr__"))
def Ln.get{K:aD}{C:av}(c:Ln K C)(f:Str):PySem.W.plainGet K C f=true:=c.pg
def jN(K:aD)(C:av)(f:Str):Prop:=vD K (.ref C) f=some none
def jN.ak4{K:aD}{C:av}{f:Str}(n:jN K C f):PySem.W.takerIn K C f=some none:=by
 unfold PySem.W.takerIn;rw[show vD K (.ref C) f=some none from n];rfl
def Gg{Q:au->ay->Prop}(I:Inv X ao σ H s)(e:H a=some (.ins C dx fs))(c:Ln X.K C)(n:jN X.K C f)(l:fs.lookup f=some v)
  (h:∀u s',Inv X ao σ H s'->RelV v u->Q u s'):aA (aC X.prog X.w) A (getAttr (.ref a) f b) Q E s:=by
 refine S7 (r8 I.eU e) fun mA O r _ _ _=>?_;obtain⟨u,hu,ru⟩:=G4.some_of (v:=v) (o:=mA f) (by rw[<- l];exact r f);exact get_map I.Ju O (c.get f) c.hd n hu (JC ru) (h u _ (I.tok _) ru)
def Gh{Q:Unit->ay->Prop}(I:Inv X ao σ H s)(e:H a=some (.ins C dx fs))(c:Ln X.K C)(n:jN X.K C f)(hl:fs.length<1000)(ry:RelV y u)
  (h:∀s',Inv X ao σ (upd H a (.ins C dx (oE f y fs))) s'->Q () s'):aA (aC X.prog X.w) A (setAttr (.ref a) f u) Q E s:=by
 refine S7 (r8 I.eU e) fun mA O r wi _ ho=>?_;have hz:(fs.map (·.1)).length<=cG:=by rw[bf,fQ];lia
 refine Sn I.Ju O c.sa c.po n.ak4 c.hd wi hz fun h' O' sb=>h _ ?_;have hd:∃o,h'.get? dx=some o:=let⟨o,_,_,e',_⟩:=O'.ns;⟨o,e'⟩;refine I.write (x:=a) (e:=dx) (by rw[e];exact True.intro) (.inr ho) (fun b q hb z=>(sb.2 b hb).trans z) hd ?_;refine⟨by rw[aR O.ne];exact ho,?_,O.ne,O'.obj,_,O'.ns,fun g=>?_,fun g hg=>?_⟩;have:=ur f y fs;lia;show G4 ((oE f y fs).lookup g) (if g=f then some u else mA g);rw[uq];by_cases q:g=f;rw[aW9 q,aW9 q];exact ry;rw[aX0 q,aX0 q];exact r g;by_cases q:g=f;rw[q];exact(tK f y fs).1;refine(tK f y fs).2 g (wi g fun z=>hg ?_);show(if g=f then some u else mA g)=none;rw[aX0 q];exact z
def Inv.made(I:Inv X ao σ H s):Inv X ao σ (upd (upd H s.heap.objs.size (.own (s.heap.objs.size+1))) (s.heap.objs.size+1) (.ins C s.heap.objs.size []))
  {s with heap:=(s.heap.push qS).push (um C s.heap.objs.size)}:=by
 have e1:(s.heap.push qS).get? s.heap.objs.size=some qS:=dW s.heap rfl;have e2:((s.heap.push qS).push (um C s.heap.objs.size)).get? (s.heap.objs.size+1)=some (um C s.heap.objs.size):=by have:=dW (s.heap.push qS) (o:=um C s.heap.objs.size) rfl;rwa [yZ]at this
 have e3:(s.heap.push qS).Ns s.heap.objs.size (fun _=>none):=⟨qS,#[],_,e1,rfl,(fun e he=>aY1 he (by simp)),fun _=>rfl⟩
 have I1:=I.laid (a:=s.heap.objs.size) (o:=.own (s.heap.objs.size+1)) (h':=s.heap.push qS) (t':=s.toks) (fun b u q=>bM _ q) (aZ _) ⟨_,e1⟩;refine I1.laid (a:=s.heap.objs.size+1) (o:=.ins C s.heap.objs.size []) (t':=s.toks) (fun b u q=>bM _ q) (LV (yZ _ _)) ?_;have ne:s.heap.objs.size≠s.heap.objs.size+1:=dh (z4 _);refine⟨by rw[aR ne,bS],gI _,ne,e2,fun _=>none,(Heap.Ns1.of_empty e3).at fun o q=>bM _ q,fun _=>True.intro,fun y hy=>aY1 rfl hy⟩
def Sq(hb:mO e f env (eval e env)=eval e env)
  (h:aA (aC prog w) A (eval e env) (fun o kE=>aA (aC prog w) A (getAttr o f true) Q E kE) E s):aA (aC prog w) A (eval (.Attribute e f pos) env) Q E s:=
 Attribute_any_ h (by rw[arm_eval_Attribute,hb])
def aK7(K:aD)(ta:TE)(f:Str):TE:=fun σ H Q=>ta σ H fun x H1=>∃a C dx fs v,x = .ref a/\H1 a=some (.ins C dx fs)/\Ln K C/\jN K C f/\fs.lookup f=some v/\Q v H1
def ak5(K:aD)(ta tv:TE)(f:Str):TS:=fun D σ H=>tv σ H fun y H1=>ta σ H1 fun x H2=>∃a C dx fs,x = .ref a/\H2 a=some (.ins C dx fs)/\Ln K C/\jN K C f/\fs.length<1000/\
 D.nx σ (upd H2 a (.ins C dx (oE f y fs)))
def XI(he:PE X e ta)(hb:mO e f X.env (eval e X.env)=eval e X.env):PE X (.Attribute e f pos) (aK7 X.K ta f):=by
 intro ao s σ H Q I h;refine Sq hb (gv (he ao s σ H _ I h) fun u s1 ak6=>?_);obtain⟨x,H1,I1,rx,a,C,dx,fs,v,ex,ea,c,n,l,q⟩:=ak6;subst ex;obtain rfl:u=eG a:=rx;exact Gg I1 ea c n l fun u' s2 I2 ru=>⟨v,H1,I2,ru,q⟩
def XJ(ha:PE X o ta)(hv:PE X value tv)(hs:swapsWith value (some (.Attribute o f pos')) pos.line X.env=pure false):PS X (.Assign [.Attribute o f pos'] value pos) (ak5 X.K ta tv f):=by
 intro ao s σ H D I h;refine plainObj_wpAny_Assign_Attribute (gv (hv ao s σ H _ I h) fun u s1 ak7=>ak7.elim fun y ak8=>ak8.elim fun H1 ak9=>ak9.elim fun I1 al0=>al0.elim fun ry q=>gv (ha ao s1 σ H1 _ I1 q) fun ov s2 al1=>?_) hs;obtain⟨x,H2,I2,rx,a,C,dx,fs,ex,ea,c,n,l,q2⟩:=al1;subst ex;obtain rfl:ov=eG a:=rx;exact Gh I2 ea c n l ry fun s3 I3=>⟨σ,_,I3,q2⟩
structure iX(k:Nat)(A:bX):Prop where
 hd:A.handled=none
 dp:A.depth+3*k+5<recursionLimit
 un:A.units+16*k+200<cLine
def iX.mono(r:iX k A)(h:j<=k):iX j A:=⟨r.hd,by have:=r.dp;lia,by have:=r.un;lia⟩
theorem iX.deeper(r:iX (k+1) A)(env:Env):iX k (A.deeper env):=
 ⟨r.hd,by have:=r.dp;show A.depth+1+3*k+5<_;lia,by have:=r.un;show A.units+3+16*k+200<_;lia⟩
def Gi{A:bX}:(A.under (.builtin "type.__call__" ⟨.ref C::us,kw⟩)).depth=A.depth+1:=by
 first|rfl|simp[Around.under,Code.weight,Code.isCreation,Code.isGuard,Code.isCaller,Code.frames,Code.isFrame,guardIds]
def Gj{A:bX}:(A.under (.builtin "type.__call__" ⟨.ref C::us,kw⟩)).units=A.units+1:=by
 first|rfl|simp[Around.under,Code.cUnits,Code.frames,Code.isFrame]
def iX.make(r:iX (k+1) A)(C:av)(us:List au)(kw:List (Str×au)):iX k (A.under (.builtin "type.__call__" ⟨.ref C::us,kw⟩)):=
 ⟨r.hd,by have:=r.dp;rw[Gi];lia,by have:=r.un;rw[Gj];lia⟩
theorem iX.depth(r:iX k A):A.depth<recursionLimit:=by have:=r.dp;lia
theorem iX.units(r:iX k A):A.units+64<cLine:=by have:=r.un;lia
def JD:TA:=fun _ H Q=>Q [] H
def wJ(ta:TE)(tr:TA):TA:=fun σ H Q=>ta σ H fun x H1=>tr σ H1 fun xs H2=>Q (x::xs) H2
def n5:PA X [] JD:=fun _ _ _ _ H Q I h=>Av ⟨[],H,I,.nil,h⟩
def iY(ha:PE X e te)(hr:PA X es t)(hs:autoParam (bH (e::es) X.env=(false,eval e X.env)::bH es X.env) zu0._auto_1):PA X (e::es) (wJ te t):=by
 intro pos ao s σ H Q I h;rw[hs];show aA _ _ (spliced ((false,eval e X.env)::backTo pos (bH es X.env))) _ _ s;refine vR (gv (ha ao s σ H _ I h) fun u s1 Wc=>?_);refine bw Wc fun x H1 I1 r1 q1=>?_;clear Wc;exact gv (hr pos ao s1 σ H1 _ I1 q1) fun us s2 al2=>al2.elim fun xs al3=>al3.elim fun H2 al4=>al4.elim fun I2 al5=>al5.elim fun r2 q2=>⟨x::xs,H2,I2,.cons r1 r2,q2⟩
def aK8(t:TA):TE:=fun σ H Q=>t σ H fun xs H1=>xs.length<=cG/\∀p,H1 p=none->Q (.ref p) (upd H1 p (.tup xs))
def aK9(t:TA):TE:=fun σ H Q=>t σ H fun xs H1=>xs.length<=cG/\∀p,H1 p=none->Q (.ref p) (upd H1 p (.lst xs))
def NR{x1}(h:PA X es t):PE X (.Tuple es x1 pos) (aK8 t):=by
 intro ao s σ H Q I hq;refine LC (gv (h pos ao s σ H _ I hq) fun us s1 al6=>al6.elim fun xs al7=>al7.elim fun H1 al8=>al8.elim fun I1 al9=>al9.elim fun r am0=>am0.elim fun z q=>⟨by rw[<- r.length];exact z,?_⟩);have hf:H1 s1.heap.objs.size=none:=I1.eU.fresh (aZ _);refine⟨.ref s1.heap.objs.size,upd H1 s1.heap.objs.size (.tup xs),I1.laid (t':=s1.toks) (fun b u e=>bM _ e) (aZ _) ?_,rfl,q _ hf⟩;exact⟨z,us,r,⟨_,dW _ rfl,rfl,_,rfl⟩⟩
def XM(h:PA X es t):PE X (.List es pos) (aK9 t):=by
 intro ao s σ H Q I hq;refine wpAny_List_spliced (gv (h pos ao s σ H _ I hq) fun us s1 am1=>am1.elim fun xs am2=>am2.elim fun H1 am3=>am3.elim fun I1 am4=>am4.elim fun r am5=>am5.elim fun z q=>⟨by rw[<- r.length];exact z,?_⟩);have hf:H1 s1.heap.objs.size=none:=I1.eU.fresh (aZ _);refine⟨.ref s1.heap.objs.size,upd H1 s1.heap.objs.size (.lst xs),I1.laid (t':=s1.toks) (fun b u e=>bM _ e) (aZ _) ?_,rfl,q _ hf⟩;exact⟨z,us,0,r,dW _ rfl⟩
abbrev Sp:=List V->Hp->VK->XK->Prop
abbrev RN:=List Env->Hp->ay->XK->au->ay->Prop
structure Gk(P:cS)(w:bI)(K:aD)(mg:Str->Option au)(base:aQ)(A:bX)(outer:List Env)(s:ay)(H:Hp):Prop where
 frames:A.frames=some outer
 mod:Mod K mg base
 bs:∀b o,base.get? b=some o->s.heap.get? b=some o/\H b=none
 RL:base.objs.size<=s.heap.objs.size
 tH:s.heap.FunFrames base outer
 W9:∀b∈wu outer,H b=none
 eU:qL P w H s.heap
 bare:AllBare s.gens
def CE(outer:List Env)(P:cS)(w:bI)(H:Hp)(s:ay)(Q:VK)(u:au)(s':ay):Prop:=
 ∃v H',s'.os=s.os/\AllBare s'.gens/\Un (wu outer) [] H H' s.heap s'.heap/\qL P w H' s'.heap/\RelV v u/\Q v H'
def CR(CX:RN)(outer:List Env)(P:cS)(w:bI)(H:Hp)(s:ay)(Q:VK)(E:XK)(r:Result)(s':ay):Prop:=
 match r with
 | .ok (.ret u)=>CE outer P w H s Q u s'
 | .ok _=>False
 | .error e=>CX outer H s E e s'
structure jO(P:cS)(w:bI)(K:aD)(mg:Str->Option au)(base:aQ)(CX:RN)(k:Nat)(f:av)(fd:gr)(ps:List Str)(sp:Sp):Prop where
 len:∀vs H Q E,sp vs H Q E->vs.length=ps.length
 run:∀(A:bX) (outer:List Env) (s:ay) (H:Hp) (args:Args) (us:List au) (vs:List V) (Q:VK) (E:XK),iX k A->Gk P w K mg base A outer s H->BindsTo s fd args (ps.zip us)->Vals vs us->sp vs H Q E->
  codeAny (aC P w) A (.call (.ref f) args) (CR CX outer P w H s Q E) s
theorem jO.mono{P:cS}{w:bI}{K:aD}{mg:Str->Option au}{base:aQ}{CX:RN}{j k:Nat}{f:av}{fd:gr}{ps:List Str}{sp:Sp}(F:jO P w K mg base CX j f fd ps sp)(h:j<=k) :
  jO P w K mg base CX k f fd ps sp:=⟨F.len,fun A outer s H args us vs Q E hr=>F.run A outer s H args us vs Q E (hr.mono h)⟩
def jO.imp{P:cS}{w:bI}{K:aD}{mg:Str->Option au}{base:aQ}{CX:RN}{k:Nat}{f:av}{fd:gr}{ps:List Str}{sp sp':Sp}(F:jO P w K mg base CX k f fd ps sp)
  (h:∀vs H Q E,sp' vs H Q E->sp vs H Q E):jO P w K mg base CX k f fd ps sp':=
 ⟨fun vs H Q E q=>F.len vs H Q E (h _ _ _ _ q),fun A outer s H args us vs Q E hr he hb hv hs=>F.run A outer s H args us vs Q E hr he hb hv (h _ _ _ _ hs)⟩
def Gk.make{P:cS}{w:bI}{K:aD}{mg:Str->Option au}{base:aQ}{A:bX}{outer:List Env}{s:ay}{H:Hp}(e:Gk P w K mg base A outer s H)(C:av)(us:List au)(kw:List (Str×au)) :
  Gk P w K mg base (A.under (.builtin "type.__call__" ⟨.ref C::us,kw⟩)) outer s H:=⟨by first|exact e.frames|(simpa[Around.under,Code.envs,Code.isFrame,pushEnvs]using e.frames),e.mod,e.bs,e.RL,e.tH,e.W9,e.eU,e.bare⟩
def Inv.am6(I:Inv X ao σ H s):Gk X.prog X.w X.K X.mg X.base X.A X.stack s H:=
 ⟨I.ok.frames,I.ok.mod,I.bs,cj I.ok.RL I.sz,I.stack,I.HY,I.eU,I.bare⟩
def Inv.after(I:Inv X ao σ H s)(h:CE X.stack X.prog X.w H s Q u s'):EP X ao σ Q u s':=by
 refine af0 h fun v H' os bare un eU r q=>?_;clear h;obtain⟨hh,g,d,t,os'⟩:=s';obtain rfl:os'=s.os:=os;exact⟨v,H',I.call (h':=hh) (g':=g) (d':=d) (t':=t) (ch:=[]) un eU bare (fun b z=>aY1 z (by simp)),r,q⟩
def Binds(K:aD)(fd:gr)(ps:List Str)(ds:List au):Prop:=
 ∀(s:ay) (us:List au),K.In s.heap->(us++ds).length=ps.length->BindsTo s fd ⟨us,[]⟩ (ps.zip (us++ds))
def Binds.all{K:aD}{fd:gr}{ps:List Str}(h:∀us:List au,us.length=ps.length->bindArgs fd ⟨us,[]⟩=pure (ps.zip us)):Binds K fd ps []:=fun s us _ hl=>by
 rw[jJ]at hl ⊢;exact .of_eq (h us hl)
structure Mk(K:aD)(C f:av):Prop where
 makes:PySem.W.makesIn K C=true
 init:vD K (.ref C) "__init__"=some (some (.ref f))
 fn:PySem.W.isFn K (.ref f)=true
 kp:sP K (.ref C)=true
structure jX(N P:List Str)(sc:i0):Prop where
 kind:sc.kind = .function
 co:sc.isCoroutine=false
 gen:sc.isGenerator=false
 nd:N.Nodup
 pre:N.take P.length=P
 par:∀x∈P,sc.names.lookup x=some .local\/sc.names.lookup x=some .cell
 XN:∀y∈sc.names,y.2≠ .free
theorem z8{kindOf:Str->Option NameKind}{x:Str}:∀{binds:List (Str×au)} {m:Str->Option au},(∀v,(x,v)∉binds)->bindL kindOf binds m x=m x
 | [],_,_=>rfl
 | (n,v)::r,m,h=>by
  unfold bindL;rw[z8 fun w hw=>h w (nS _ hw)];split;have:x≠n:=by rintro rfl;exact h v uo
  simp[this];rfl
theorem z9{kindOf:Str->Option NameKind}{x:Str}:∀{binds:List (Str×au)} {m:Str->Option au},(∀v,(x,v)∉binds)->bindC kindOf binds m x=m x
 | [],_,_=>rfl
 | (n,v)::r,m,h=>by
  unfold bindC;rw[z9 fun w hw=>h w (nS _ hw)];split;rfl;have:x≠n:=by rintro rfl;exact h v uo
  simp[this]
theorem zb{kindOf:Str->Option NameKind}:∀{P:List Str} {vs:List au} {i:Nat} {m:Str->Option au},P.Nodup->P[i]?=some x->vs[i]?=some v->kindOf x=some .local->
  bindL kindOf (P.zip vs) m x=some v
 | [],_,_,_,_,h,_,_=>by simp at h
 | _::_,[],_,_,_,_,h,_=>by simp at h
 | p::P,w::vs,0,m,nd,h1,h2,hk=>by
  simp at h1 h2;subst h1;subst h2;show bindL kindOf ((p,w)::P.zip vs) m p=_;unfold bindL;rw[z8 fun v hv=>(iP.mp nd).1 (Ff hv).1,aW9 hk];simp
 | p::P,w::vs,i+1,m,nd,h1,h2,hk=>by
  show bindL kindOf ((p,w)::P.zip vs) m x=_;unfold bindL;exact zb (i:=i) (iP.mp nd).2 (by simpa using h1) (by simpa using h2) hk
theorem ze{kindOf:Str->Option NameKind}:∀{P:List Str} {vs:List au} {i:Nat} {m:Str->Option au},P.Nodup->P[i]?=some x->vs[i]?=some v->kindOf x≠some .local->
  bindC kindOf (P.zip vs) m x=some v
 | [],_,_,_,_,h,_,_=>by simp at h
 | _::_,[],_,_,_,_,h,_=>by simp at h
 | p::P,w::vs,0,m,nd,h1,h2,hk=>by
  simp at h1 h2;subst h1;subst h2;show bindC kindOf ((p,w)::P.zip vs) m p=_;unfold bindC;rw[z9 fun v hv=>(iP.mp nd).1 (Ff hv).1,aX0 hk];simp
 | p::P,w::vs,i+1,m,nd,h1,h2,hk=>by
  show bindC kindOf ((p,w)::P.zip vs) m x=_;unfold bindC;exact ze (i:=i) (iP.mp nd).2 (by simpa using h1) (by simpa using h2) hk
def start(N:List Str)(vs:List V):St:=vs.map some++kr (N.length-vs.length) none
def nJ(CX:RN)(P:cS)(w:bI)(K:aD)(mg:Str->Option au)(base:aQ)(N:List Str)(qual:Str)(scope:i0)(f:av)(cd:au)(A:bX)(outer:List Env)(s:ay)(H:Hp)(E:XK):Cx where
 prog:=P
 w:=w
 K:=K
 mg:=mg
 base:=base
 A:=A.deeper (envOfC qual scope s.heap.objs.size f cd)
 N:=N
 iU:=s
 NB:=H
 env:=envOfC qual scope s.heap.objs.size f cd
 outer:=outer
 stack:=envOfC qual scope s.heap.objs.size f cd::outer
 ex:=[]
 calm:=true
 fn:=fun _=>true
 pn:=[]
 xe:=fun e s'=>aA (aC P w) (A.deeper (envOfC qual scope s.heap.objs.size f cd)) (leaving (envOfC qual scope s.heap.objs.size f cd) e) (fun _ Lo=>CX outer H s E e Lo) (fun e' Lo=>CX outer H s E e' Lo) s'
def CA{sc:i0}(h:sc.names.lookup x=some .cell):∃c,(cellsFrom n sc.names []).lookup x=some c:=by
 have q:=LR sc.names n [] (.inl h);exact N2.mp q
def JE{CX:RN}{P:cS}{w:bI}{K:aD}{mg:Str->Option au}{base:aQ}{N ps:List Str}{qual:Str}{scope:i0}{f:av}{cd:au}{A:bX}{outer:List Env}{s s1:ay}{H:Hp}{E:XK}{us:List au}{vs:List V}
  (S:jX N ps scope) (hd:A.handled=none) (e0:Gk P w K mg base A outer s H) (hl:vs.length=ps.length) (r:Vals vs us)
  (x:InCallC s s.heap.objs.size (bindL (envOfC qual scope s.heap.objs.size f cd).kindOf (ps.zip us) fun _=>none) (cellsFrom (s.heap.objs.size+1) scope.names []) (bindC (envOfC qual scope s.heap.objs.size f cd).kindOf (ps.zip us) fun _=>none) s1) :
  Inv (nJ CX P w K mg base N qual scope f cd A outer s H E) [] (start N vs) H s1:=by
 have yr:ps.length<=N.length:=by have:=congrArg List.length S.pre;rw[ku]at this;lia
 refine di x.done fun h1 tk b9 hk=>?_;obtain rfl:=b9;have noA:∀b:av,b∉(nJ CX P w K mg base N qual scope f cd A outer s H E).ex:=fun b z=>aY1 (show b∈([]:List av)from z) (by simp);refine⟨⟨e0.mod,S.kind,rfl,rfl,aZ _,fun y z c h1 h2=>?_,fun y hy=>?_,fun y c _ h=>?_,fun _=>hd,Around.frames_deeper e0.frames,.inr ⟨rfl,rfl⟩,fun b z=>aY1 z (noA b),e0.bs,e0.RL,fun b _ _=>noA b,fun b z=>aY1 z (noA b),e0.tH,e0.W9⟩,
  rfl,e0.bare,Un.kept hk,⟨_,x.toInCall.ns,fun i y v h1 h2 h3=>?_⟩,fun y c h=>⟨_,x.cell y c h⟩,e0.eU.fresh (aZ _),fun y c h=>?_,fun p hp=>aY1 (show p∈([]:List (av×Obj))from hp) (by simp),e0.eU.kept hk,?_⟩
 exact name_of_addr x.apart (vz h1) (vz h2);have hy:scope.names.lookup y=some .cell\/scope.names.lookup y=some .free:=hy;rcases hy with hy|hy;exact CA hy;exact aY1 rfl (S.XN _ (vz hy));exact iO (x.above y c (vz h));have hi:i<vs.length:=by unfold start at h2;by_cases hi:i<vs.length;exact hi;rw[jK (by simpa using hi)]at h2;rw[sU]at h2;split at h2 <;> cases h2
 have ha:vs[i]?=some v:=by
  unfold start at h2;rw[lN (by simpa using hi),cY]at h2;cases e:vs[i]? with
  | none=>rw[e]at h2;cases h2
  | some a=>rw[e]at h2;cases h2;rfl
 refine aO (r.get ha) fun u hu rv=>?_;have hp:ps[i]?=some y:=by rw[<- S.pre,Fg (by lia)];exact h1
 have ndP:ps.Nodup:=by rw[<- S.pre];exact S.nd.sublist (Mf _ _)
 refine⟨u,rv,?_⟩;rcases S.par y (jg hp)with k|k;exact .inl ⟨k,zb ndP hp hu k⟩;obtain⟨c,e⟩:=CA (n:=s.heap.objs.size+1) k;refine .inr ⟨.inl k,c,e,?_⟩;have q:=x.cell y c e;rw[ze ndP hp hu (by show scope.names.lookup y≠_;rw[k];decide)]at q;exact q;exact e0.eU.fresh (iO (x.above y c (vz h)));unfold start;show _=N.length;rw[bU,bf,Fi];lia
def am7{CX:RN}{P:cS}{w:bI}{K:aD}{mg:Str->Option au}{base:aQ}{k:Nat}{f:av}{name qual:Str}{params:Arguments}{body:List aX}{scope:i0}{dV kV doc pm cW ct oc:au}{an od:Option av}
  {EB:Array (Option au)} {N ps:List Str} {sp:Sp} (lk:K.lookup f=some ⟨oc,od,.func (mP name qual params body scope dV kV doc pm an cW ct),EB⟩) (G6:PySem.W.codeIn K cW qual=true) (S:jX N ps scope)
  (len:∀vs H Q E,sp vs H Q E->vs.length=ps.length)
  (CB:∀(A:bX) (outer:List Env) (s:ay) (H:Hp) (vs:List V) (Q:VK) (E:XK),iX k (A.deeper (envOfC qual scope s.heap.objs.size f cW))->sp vs H Q E->
   ∃t,qM (nJ CX P w K mg base N qual scope f cW A outer s H E) body t/\t {nx:=fun _ H'=>Q .cM H',rt:=Q} (start N vs) H) :
  jO P w K mg base CX (k+1) f (mP name qual params body scope dV kV doc pm an cW ct) ps sp:=by
 refine⟨len,fun A outer s H args us vs Q E hr e0 hb r hsp=>?_⟩;have hl:=len _ _ _ _ hsp;have KX:K.In s.heap:=e0.mod.kin.keeps fun b o e=>(e0.bs b o e).1;have lim:s.heap.NoLimit:=e0.mod.nolimit.keeps fun b o e=>(e0.bs b o e).1;have CC:∀y∈ps.zip us,scope.names.lookup y.1=some .local\/(scope.names.lookup y.1=some .cell/\((cellsFrom (s.heap.objs.size+1) scope.names []).lookup y.1).isSome=true):=fun am8 hy=>by obtain⟨n,v⟩:=am8;rcases S.par n (Ff hy).1 with q|q;exact .inl q;exact .inr ⟨q,LR _ _ _ (.inl q)⟩
 refine codeAny_call_function hr.depth (KX _ _ lk) rfl S.co S.gen rfl (PySem.W.codeRec_of KX G6) (hb _ _ _ _ ?_);refine LD S.kind CC fun env he s1 x=>?_;subst he;refine⟨lim.keeps x.toInCall.keep,codeAny_func ?_⟩;refine aO (CB A outer s H vs Q E (hr.deeper _) hsp) fun t ht hq=>?_;have I:Inv (nJ CX P w K mg base N qual scope f cW A outer s H E) [] (start N vs) H s1:=JE S hr.hd e0 hl r x;refine gR (ht [] s1 (start N vs) H _ I hq) (fun fl s' hs=>?_) fun e s' hs=>hs;have fin:∀{dF:St} {H':Hp} {v:V} {u:au},Inv (nJ CX P w K mg base N qual scope f cW A outer s H E) [] dF H' s'->RelV v u->Q v H'->CE outer P w H s Q u s':=
  fun {dF H' v u} J rv q=>⟨v,H',J.os,J.bare,J.base,J.eU,rv,q⟩
 cases fl with
 | ret u=>refine X8 hs fun v dF H' J rv q=>?_;clear hs;exact fin J rv q
 | next=>refine di hs fun dF H' J q=>?_;clear hs;exact fin (v:=V.cM) (u:=dI) J rfl q
 | brk=>refine di hs fun _ _ _ q=>?_;clear hs;exact mX q
 | cont=>refine di hs fun _ _ _ q=>?_;clear hs;exact mX q
section
variable {X:Cx}{x:Str}{p pos:Pos}{e:bg}{es:List bg}{t:TA}{id:String}{r:List V->Hp->VK->Prop}
def tCB(r:List V->Hp->VK->Prop)(t:TA):TE:=fun σ H Q=>t σ H fun vs H1=>r vs H1 Q
def oF(hc:oB X (.builtin id) r)(hg:Gl X x)(hm:X.mg x=none)(hv:kZ x=some (.builtin id))(ha:PA X (e::es) t)(hn:autoParam (x≠ "__name__") zu1._auto_1)(EC:autoParam ((x==("__debug__" : Str))=false) zu1._auto_1)
  (he:autoParam (bH (e::es) X.env=(false,eval e X.env)::bH es X.env) zu0._auto_1) (yr:autoParam ((backTo pos (bH es X.env)).any (·.1)=false) zu0._auto_1):PE X (.Call (.Name x p) (e::es) [] pos) (tCB r t):=by
 intro ao s σ H Q I h;refine sH (wB I hg hm hv ?_ hn EC);exact MX (gv (ha pos ao s σ H _ I h) fun us s1 am9=>am9.elim fun vs an0=>an0.elim fun H1 an1=>an1.elim fun I1 an2=>an2.elim fun r1 q1=>hc ao s1 σ H1 vs us Q I1 r1 q1) he yr
def p9(hc:oB X (.type T) r)(hg:Gl X x)(hm:X.mg x=none)(hv:kZ x=some (.type T))(ha:PA X (e::es) t)(hn:autoParam (x≠ "__name__") zu1._auto_1)(EC:autoParam ((x==("__debug__" : Str))=false) zu1._auto_1)
  (he:autoParam (bH (e::es) X.env=(false,eval e X.env)::bH es X.env) zu0._auto_1) (yr:autoParam ((backTo pos (bH es X.env)).any (·.1)=false) zu0._auto_1):PE X (.Call (.Name x p) (e::es) [] pos) (tCB r t):=by
 intro ao s σ H Q I h;refine sH (wB I hg hm hv ?_ hn EC);exact MW (gv (ha pos ao s σ H _ I h) fun us s1 an3=>an3.elim fun vs an4=>an4.elim fun H1 an5=>an5.elim fun I1 an6=>an6.elim fun r1 q1=>hc ao s1 σ H1 vs us Q I1 r1 q1) he yr
end
end L2
namespace HT
open PySem PyProof.Rows
def lexLt:List Int->List Int->Bool
 | [],[]=>false
 | [],_::_=>true
 | _::_,[]=>false
 | x::xs,y::ys=>if x=y then lexLt xs ys else decide (x<y)
def dg(x y:Int)(xs ys:List Int):lexLt (x::xs) (y::ys)=if x=y then lexLt xs ys else decide (x<y):=rfl
def i8:lexLt [] []=false:=rfl
def oG(y:Int)(ys:List Int):lexLt [] (y::ys)=true:=rfl
def kF(x:Int)(xs:List Int):lexLt (x::xs) []=false:=rfl
def NS(A:bX)(s:ay)(a:Int)(t:Tok)(c:Int)(u:Tok)(prog:cS)(w:bI)(E:au->ay->Prop)(Q:au->ay->Prop)(h:Q (.bool (decide (a<c))) s) :
  aA (aC prog w) A (richCompare .Lt (.int a t) (.int c u)) Q E s:=
 (WY h:aA (aC prog w) A (gU .Lt (.int a t) (.int c u)) Q E s)
section
open PySem.SeqAt
open PySem.AutoSeq1 (wpAny_loadPart')
open PySem.MeetsSeq PySem.MeetsSeq2 PySem.MeetsSeq3
end
def zf(n d:Nat):Option Int->Nat
 | none=>d
 | some v=>if v<0 then(v+(n:Int)).toNat else min v.toNat n
end HT
namespace L2
open PySem PySem.Spec PyProof.Rows
abbrev TO:=St->Hp->(Option Int->Hp->Prop)->Prop
def PO(X:Cx)(e:Option bg)(t:TO):Prop:=
 ∀(ao:List (av×Obj)) (s:ay) (σ:St) (H:Hp) (Q:Option Int->Hp->Prop),Inv X ao σ H s->t σ H Q->
  aA (aC X.prog X.w) X.A (evalPart e X.env) (fun u s'=>∃o H',Inv X ao σ H' s'/\IsPart u o/\Q o H') X.xe s
def Ss:TO:=fun _ H Q=>Q none H
def an7(t:TE):TO:=fun σ H Q=>t σ H fun x H1=>∃i,x = .int i/\Q (some i) H1
section
variable {X:Cx}{e:bg}{te:TE}{lo hi:Option bg}{tl th:TO}{pos p2:Pos}
def Sv:PO X none Ss:=by
 intro ao s σ H Q I h;rw[EL];exact aB ⟨none,H,I,.none,h⟩
def Sw(h:PE X e te):PO X (some e) (an7 te):=by
 intro ao s σ H Q I hw;rw[evalPart_some];refine gv (h ao s σ H _ I hw) fun u s1 Wd=>?_;refine bw Wd fun x H1 I1 r1 q1=>?_;clear Wd;refine aO q1 fun i iV q=>?_;clear q1;obtain rfl:=iV;obtain⟨t,rfl⟩:=r1;exact⟨some i,H1,I1,.int i t,q⟩
def SlR(X:Cx)(r:V->Option Int->Option Int->Hp->VK->Prop):Prop:=
 ∀(ao:List (av×Obj)) (s:ay) (σ:St) (H:Hp) (x:V) (v vl vu:au) (lo hi:Option Int) (sl:av) (Q:VK),Inv X ao σ H s->RelV x v->s.heap.IsSliceOf sl vl vu .none->IsPart vl lo->IsPart vu hi->r x lo hi H Q->
  ∃T id,typeLookup (.type T) "__getitem__"=pure (some (.builtin id))/\s.TypeIs v T/\aA (aC X.prog X.w) X.A (getItem v (.ref sl)) (EP X ao σ Q) X.xe s
def tSl(r:V->Option Int->Option Int->Hp->VK->Prop)(te:TE)(tl th:TO):TE:=fun σ H Q=>te σ H fun x H1=>tl σ H1 fun l H2=>th σ H2 fun u H3=>r x l u H3 Q
def NT(hr:SlR X r)(he:PE X e te)(hl:PO X lo tl)(hu:PO X hi th):PE X (.Subscript e (.Slice lo hi none p2) pos) (tSl r te tl th):=by
 intro ao s σ H Q I h;refine FJ (gv (he ao s σ H _ I h) fun v s1 CD=>?_);refine bw CD fun x H1 I1 r1 q1=>?_;clear CD;refine wpAny_Slice (gv (hl ao s1 σ H1 _ I1 q1) fun vl s2 NU=>NU.elim fun l an8=>an8.elim fun H2 an9=>an9.elim fun I2 ao0=>ao0.elim fun pl q2=>gv (hu ao s2 σ H2 _ I2 q2) fun vu s3 We=>?_);refine bw We fun u H3 I3 pu q3=>?_;clear We;rw[EL];refine aB ?_;have I4:Inv X ao σ H3 {s3 with heap:=s3.heap.push {cls:=.type "slice",data:=.fields #[vl,vu,.none]}}:=I3.kept (t':=s3.toks) fun b ob q=>bM _ q;refine bw (hr ao {s3 with heap:=s3.heap.push {cls:=.type "slice",data:=.fields #[vl,vu,.none]}} σ H3 x v vl vu l u s3.heap.objs.size Q I4 r1 (N5 ..) pl pu q3) fun T id hT ht hg=>?_;show aA (aC X.prog X.w) X.A (subscriptTail e (.Slice lo hi none p2) v (.ref s3.heap.objs.size)) (EP X ao σ Q) X.xe {s3 with heap:=s3.heap.push {cls:=.type "slice",data:=.fields #[vl,vu,.none]}};exact tail_any (ops:=[.ref s3.heap.objs.size,v]) ht hT hg (by with_unfolding_all rfl)
def JF(xs:List V)(lo hi:Option Int):List V:=(xs.drop (HT.zf xs.length 0 lo)).take (HT.zf xs.length xs.length hi-HT.zf xs.length 0 lo)
def CF(xs:List V)(lo hi:Option Int):(JF xs lo hi).length<=xs.length:=by
 unfold JF;rw[ku,vH];lia
end
def RO(n:Nat)(i:Int):Option Nat:=if 0<=i then(if i<n then some i.toNat else none)else if -(n:Int)<=i then some (i+n).toNat else none
def CG{α:Type}(xs:List α)(i:Int):Option α:=(RO xs.length i).bind fun j=>xs[j]?
def Sy(h:RO n i=some j):seqIndex? i n=some j/\j<n/\ -(n:Int)<=i/\i<n:=by
 unfold RO at h;by_cases h0:0<=i;rw[aW9 h0]at h;by_cases h1:i<n;rw[aW9 h1]at h;have e:i.toNat=j:=eN h;exact⟨by rw[seqIndex_of h0 h1,e],by lia,by lia,h1⟩;rw[aX0 h1]at h;cases h;rw[aX0 h0]at h;by_cases h1 : -(n:Int)<=i;rw[aW9 h1]at h;have e:(i+n).toNat=j:=eN h;exact⟨by rw[seqIndex_neg (by lia) h1,e],by lia,h1,by lia⟩;rw[aX0 h1]at h;cases h
def Ib(h:CG xs i=some v):∃j,seqIndex? i xs.length=some j/\xs[j]?=some v/\j<xs.length/\ -(xs.length:Int)<=i/\i<xs.length:=by
 unfold CG at h;cases e:RO xs.length i with
 | none=>rw[e]at h;cases h
 | some j=>rw[e]at h;refine G3 (Sy e) fun h1 h2 h3 h4=>?_;exact⟨j,h1,h,h2,h3,h4⟩
def r9(b:bg):Prop:=∀o i,subscripted b false o i=operate [o,i] (getItem o i)
def Sz(X:Cx)(r:R2):Prop:=
 ∀(value slice:bg) (ao:List (av×Obj)) (s:ay) (σ:St) (H:Hp) (x y:V) (v u:au) (Q:VK),Inv X ao σ H s->RelV x v->RelV y u->r x y H Q->
  subscripted slice false v u=operate [v,u] (getItem v u)->aA (aC X.prog X.w) X.A (subscriptTail value slice v u) (EP X ao σ Q) X.xe s
def MtR(X:Cx)(id:String)(r:V->List V->Hp->VK->Prop):Prop:=
 ∀(ao:List (av×Obj)) (s:ay) (σ:St) (H:Hp) (x:V) (xs:List V) (v:au) (us:List au) (Q:VK),Inv X ao σ H s->RelV x v->Vals xs us->r x xs H Q->
  aA (aC X.prog X.w) X.A (call (.builtin id) (v::us)) (EP X ao σ Q) X.xe s
section
variable {X:Cx}
def Sz.or(h:Sz X r)(h':Sz X r'):Sz X (fun x y H Q=>r x y H Q\/r' x y H Q):=by
 intro value slice ao s σ H x y v u Q I rx ry q hs;rcases q with q|q;exact h value slice ao s σ H x y v u Q I rx ry q hs;exact h' value slice ao s σ H x y v u Q I rx ry q hs
def Wf(hr:Sz X r)(ha:PE X a ta)(hb:PE X b tb)(hs:r9 b):PE X (.Subscript a b pos) (tOp r ta tb):=by
 intro ao s σ H Q I h;exact FJ (Xy ha hb I h fun v u s2 x y H2 I2 rx ry q=>hr a b ao s2 σ H2 x y v u Q I2 rx ry q (hs _ _))
def ao1(K:aD):R2:=fun x y H Q=>∃p xs i v,x = .ref p/\y = .int i/\k9 K H p xs/\CG xs i=some v/\Q v H
def ao2(K:aD):R2:=fun x y H Q=>∃p xs i v,x = .ref p/\y = .int i/\kW K H p xs/\CG xs i=some v/\Q v H
def SA:Sz X (ao1 X.K):=by
 intro value slice ao s σ H x y v u Q I rx ry h hs;refine af2 h fun p xs i z NV SD hq he q=>?_;clear h;obtain rfl:=NV;obtain rfl:=SD;cases rx;obtain⟨t,rfl⟩:=ry;refine cC (I.list hq) fun bx r pl hz=>?_;refine S7 (Ib he) fun j h1 h2 h3 h4 h5=>?_;refine aO (r.get h2) fun w ew Sf=>?_;have hl:=r.length;have hn:=Gf;have fin:EP X ao σ Q w s:=⟨z,H,I,Sf,q⟩
 by_cases h0:0<=i;have hj:i.toNat=j:=by rw[seqIndex_of h0 h5]at h1;exact eN h1
 exact item_listR pl.isList h0 (by lia) (by rw[hj];simpa using ew) fin hs;have hj:(i+(bx.toArray.size:Int)).toNat=j:=by rw[seqIndex_neg (by lia) h4]at h1;rw[d8,<- hl];exact eN h1
 exact MY (x:=w) pl.isList.typeIs EM.lookup
  (wpAny_getItem_list_neg (Q:=fun r s'=>r=w/\EP X ao σ Q r s') pl.isList (by lia) (by rw[d8] <;> lia) (by lia) (by rw[hj];simpa using ew) ⟨rfl,fin⟩) hs
def XO:Sz X (ao2 X.K):=by
 intro value slice ao s σ H x y v u Q I rx ry h hs;refine af2 h fun p xs i z NV SD hq he q=>?_;clear h;obtain rfl:=NV;obtain rfl:=SD;cases rx;obtain⟨t,rfl⟩:=ry;refine cC (I.tuple hq) fun bx r pl hz=>?_;refine S7 (Ib he) fun j h1 h2 h3 h4 h5=>?_;refine aO (r.get h2) fun w ew Sf=>?_;have hl:=r.length;have hn:=Gf;have fin:EP X ao σ Q w s:=⟨z,H,I,Sf,q⟩
 exact MY (x:=w) pl.typeIs slot_tuple_getitem.lookup
  (getItem_tuple (j:=j) (Q:=fun r s'=>r=w/\EP X ao σ Q r s') pl (by lia) (by lia) (by rw[d8,<- hl];exact h1) (by simpa using ew) ⟨rfl,fin⟩) hs
def AL(lo hi:Option Int)(n:Nat):(sliceBounds lo hi none n).1=((HT.zf n 0 lo:Nat):Int)/\(sliceBounds lo hi none n).2.1=((HT.zf n n hi:Nat):Int)/\(sliceBounds lo hi none n).2.2=1:=by
 refine⟨?_,?_,rfl⟩;cases lo with
 | none=>simp[sliceBounds,HT.zf]
 | some i=>simp only[sliceBounds,HT.zf,N3,show(1:Int) > 0 by decide,aX8];by_cases h:i<0;simp only[h,aX8] <;> lia;simp only[h,aX7] <;> lia
 cases hi with
 | none=>simp[sliceBounds,HT.zf]
 | some i=>simp only[sliceBounds,HT.zf,N3,show(1:Int) > 0 by decide,aX8];by_cases h:i<0;simp only[h,aX8] <;> lia;simp only[h,aX7] <;> lia
def yu(bx:List au)(lo hi:Option Int):slicePick bx.toArray lo hi none=((bx.drop (HT.zf bx.length 0 lo)).take (HT.zf bx.length bx.length hi-HT.zf bx.length 0 lo)).toArray:=by
 refine wg (AL lo hi bx.toArray.size) fun h1 h2 h3=>?_;unfold slicePick;rw[h1,h2,h3];simp only[sliceRange_one,pick_run,d8] <;> rfl
def aL0(K:aD):V->Option Int->Option Int->Hp->VK->Prop:=fun x lo hi H Q=>∃a xs,x = .ref a/\k9 K H a xs/\∀p,H p=none->Q (.ref p) (upd H p (.lst (JF xs lo hi)))
def SE:SlR X (aL0 X.K):=by
 intro ao s σ H x v vl vu lo hi sl Q I rx hs pl pu h;refine bw h fun a xs b9 hx q=>?_;clear h;obtain rfl:=b9;cases rx;refine cC (I.list hx) fun bx r ht hz=>?_;have hlen:=r.length;refine⟨"list",_,EM.lookup,ht.isList.typeIs,?_⟩;refine LF ht.isList hs pl pu .none (by simp) ?_ (by rw[d8] <;> lia);rw[yu,<- hlen];refine⟨.ref s.heap.objs.size,_,I.laid (t':=s.toks) (o:=.lst (JF xs lo hi)) (fun b ob q=>bM _ q) (aZ _) ?_,rfl,q _ (I.eU.fresh (aZ _))⟩;exact⟨cj (CF xs lo hi) hz,_,0,(r.drop (HT.zf xs.length 0 lo)).take (HT.zf xs.length xs.length hi-HT.zf xs.length 0 lo),dW _ rfl⟩
def AM:oB X (.builtin "len") (fun xs H Q=>∃p ys,xs=[.ref p]/\(k9 X.K H p ys\/kW X.K H p ys)/\Q (.int ys.length) H):=by
 intro ao s σ H xs us Q I r h;refine bw h fun p ys b9 hq q=>?_;clear h;obtain rfl:=b9;refine aO (vals1 r) fun u iV rx=>?_;obtain rfl:=iV;cases rx;have hn:=Gf;rcases hq with hq|hq;refine cC (I.list hq) fun bx r' pl hz=>?_;have hlen:=r'.length;exact MO pl.isList (by simp only[d8] <;> lia) ⟨.int ys.length,H,I.tok _,⟨s.toks+1,by rw[d8,hlen]⟩,q⟩;refine cC (I.tuple hq) fun bx r' pl hz=>?_;have hlen:=r'.length;exact len_tuple pl (by simp only[d8] <;> lia) ⟨.int ys.length,H,I.tok _,⟨s.toks+1,by rw[d8,hlen]⟩,q⟩
def rf:oB X (.type "list") (fun xs H Q=>∃p ys,xs=[.ref p]/\(k9 X.K H p ys\/kW X.K H p ys)/\∀l,H l=none->Q (.ref l) (upd H l (.lst ys))):=by
 intro ao s σ H xs us Q I r h;refine bw h fun p ys b9 hq q=>?_;clear h;obtain rfl:=b9;refine aO (vals1 r) fun u iV rx=>?_;obtain rfl:=iV;cases rx;have fin:∀(bx:List au),Vals ys bx->ys.length<=cG->∀(h':aQ) (c':Nat),(∀b o',s.heap.get? b=some o'->h'.get? b=some o')->
   h'.get? s.heap.objs.size=some {cls:=.type "list",dict:=none,data:=.seq bx.toArray c',slots:=#[]}->EP X ao σ Q (.ref s.heap.objs.size) {s with heap:=h'}:=fun bx r' hz h' c' kp e=>
  ⟨.ref s.heap.objs.size,_,I.laid (t':=s.toks) kp (aZ _) (show gk X.prog X.w _ h' _ (.lst ys)from⟨hz,bx,c',r',e⟩),rfl,q _ (I.eU.fresh (aZ _))⟩
 rcases hq with hq|hq;refine cC (I.list hq) fun bx r' pl hz=>?_;have hlen:=r'.length;obtain⟨o,ho,hc,n,hd⟩:=pl.isList;exact call_list_seq p (.inl rfl) ho hc hd (fun h' c' kp e=>fin bx r' hz h' c' kp e) (by simp only[d8] <;> lia);refine cC (I.tuple hq) fun bx r' pl hz=>?_;have hlen:=r'.length;obtain⟨o,ho,hc,n,hd⟩:=pl;exact call_list_seq p (.inr rfl) ho hc hd (fun h' c' kp e=>fin bx r' hz h' c' kp e) (by simp only[d8] <;> lia)
def yv:oB X (.type "tuple") (fun xs H Q=>∃p ys,xs=[.ref p]/\((k9 X.K H p ys/\∀l,H l=none->Q (.ref l) (upd H l (.tup ys)))\/(kW X.K H p ys/\Q (.ref p) H))):=by
 intro ao s σ H xs us Q I r h;obtain⟨p,ys,rfl,h⟩:=h;obtain⟨u,rfl,rx⟩:=vals1 r;cases rx;rcases h with⟨hq,q⟩|⟨hq,q⟩;obtain⟨bx,r',pl,hz⟩:=I.list hq;have hlen:=r'.length;refine call_tuple_list pl.isList (fun h' kp=>?_) (by simp only[d8] <;> lia);have I1:Inv X ao σ H {s with heap:=h'}:=I.kept (t':=s.toks) kp;have I2:Inv X ao σ (upd H h'.objs.size (.tup ys)) {s with heap:=h'.push {cls:=.type "tuple",data:=.seq bx.toArray}}:=
  I1.laid (t':=s.toks) (fun b o e=>bM _ e) (aZ _) (show gk X.prog X.w _ _ _ (.tup ys)from⟨hz,bx,r',IsTup.new _ _⟩)
 exact⟨.ref h'.objs.size,_,I2,rfl,q _ (I1.eU.fresh (aZ _))⟩;obtain⟨bx,r',pl,hz⟩:=I.tuple hq;exact call_tuple_same pl ⟨.ref p,H,I,rfl,q⟩
def tyV(K:aD)(T:String)(x:V)(H:Hp):Prop:=match x with
 | .str _=>T = "str"
 | .int _=>T = "int"
 | .ref p=>(T = "list" /\∃xs,k9 K H p xs)\/(T = "tuple" /\∃o,K.lookup p=some o/\o.cls = .type "tuple" /\o.dict=none)\/
   (T = "dict" /\((∃Ci,H p=some (.dK Ci))\/∃Ci,H p=some (.dT Ci)))\/(T = "set" /\∃S n,H p=some (.set S n))
 | _=>False
def XQ(I:Inv X ao σ H s)(r:RelV x v)(ty:tyV X.K T x H) :
  s.TypeIs v T/\∀a,v = .ref a->∃ob,s.heap.get? a=some ob/\ob.dict=none:=by
 cases x with
 | str z=>obtain⟨t,rfl⟩:=r;cases(show T = "str"from ty);exact⟨typeIs_str s z t,fun _ e=>nomatch e⟩
 | int i=>obtain⟨t,rfl⟩:=r;cases(show T = "int"from ty);exact⟨typeIs_int s i t,fun _ e=>nomatch e⟩
 | ref p=>
  cases r;rcases ty with⟨rfl,xs,hq⟩|⟨rfl,o,hk,hc,hd⟩|⟨rfl,hk⟩|⟨rfl,S,n,hk⟩;refine cC (I.list hq) fun bx _ pl _=>?_;refine⟨pl.isList.typeIs,fun a e=>?_⟩;cases e;refine uJ pl fun o n e c hd _=>?_;clear pl;exact⟨o,e,hd⟩;refine⟨⟨o,I.Ju p o hk,hc⟩,fun a e=>?_⟩;cases e;exact⟨o,I.Ju _ o hk,hd⟩;have z:∃o,s.heap.get? p=some o/\o.ExactDict:=by rcases hk with⟨Ci,hk⟩|⟨Ci,hk⟩;obtain⟨_,_,_,_,o,_,_,e,ex,_⟩:=I.eU p _ hk;exact⟨o,e,ex⟩;obtain⟨_,_,_,_,o,_,_,e,ex,_⟩:=I.eU p _ hk;exact⟨o,e,ex⟩
  refine aO z fun o e ex=>?_;clear z;refine⟨⟨o,e,ex.1⟩,fun a e2=>?_⟩;cases e2;exact⟨o,e,ex.2.1⟩;refine aD7 (I.eU p _ hk) fun o _ _ _ e ex _=>?_;refine⟨⟨o,e,ex.1⟩,fun a e2=>?_⟩;cases e2;exact⟨o,e,ex.2.1⟩
 | _=>exact mX ty
def tBM(K:aD)(T:String)(r:V->List V->Hp->VK->Prop)(to:TE)(t:TA):TE:=fun σ H Q=>to σ H fun x H1=>tyV K T x H1/\t σ H1 fun xs H2=>r x xs H2 Q
variable {o e:bg}{es:List bg}{to:TE}{t:TA}{name:Str}{apos i9:Pos}{T id:String}{r:V->List V->Hp->VK->Prop}
def ao3(pa:PlainAttrs T)(slot:Slot T name id)(hty:typeOf (.builtin id)=pure (.type "method_descriptor"))(hm:MtR X id r)(ho:PE X o to)(ha:PA X (e::es) t)
  (rg:autoParam (mO o name X.env (eval o X.env)=eval o X.env) zu0._auto_1)
  (NW:autoParam (((backTo i9 (bH (e::es) X.env)).all (fun x=>!x.1)&&(backToKw i9 (keywordEach [] X.env)).all (fun x=>x.1.isSome)
   && decide ((e::es).length+([]:List Keyword).length+(if([]:List Keyword).isEmpty then 0 else 1)<30))=true) zu0._auto_1)
  (rj:autoParam ((apos.endLine==i9.line)=true) zu0._auto_1) (hs:autoParam (bH (e::es) X.env=(false,eval e X.env)::bH es X.env) zu0._auto_1) (qv:autoParam ((backTo i9 (bH es X.env)).any (·.1)=false) zu0._auto_1) :
  PE X (.Call (.Attribute o name apos) (e::es) [] i9) (tBM X.K T r to t):=by
 intro ao s σ H Q I h;refine LG rg NW rj rfl (gv (ho ao s σ H _ I h) fun v s1 Wg=>?_);refine uJ Wg fun x H1 I1 r1 ty q1=>?_;clear Wg;obtain⟨h1,h2⟩:=XQ I1 r1 ty;refine⟨T,id,pa,slot,hty,h1,h2,?_⟩;have hA:=ha i9 ao s1 σ H1 _ I1 q1;rw[hs]at hA ⊢;refine FG (by show(false || (backTo i9 (bH es X.env)).any (·.1))=false;rw[qv] <;> rfl) (FH ?_);exact gv hA fun us s2 ao4=>ao4.elim fun vs ao5=>ao5.elim fun H2 ao6=>ao6.elim fun I2 ao7=>ao7.elim fun r2 q2=>hm ao s2 σ H2 x vs v us Q I2 r1 r2 q2
end
def MtM(X:Cx)(id:String)(r:V->List V->Hp->VK->Prop):Prop:=
 ∀(ao:List (av×Obj)) (s:ay) (σ:St) (H:Hp) (x:V) (xs:List V) (v:au) (us:List au) (Q:VK),Inv X ao σ H s->RelV x v->Vals xs us->r x xs H Q->
  aA (aC X.prog X.w) X.A (call (.builtin id) (v::us)) (EP X ao σ Q) X.xe s
def Vals.inv(h:Vals (x::xs) us):∃u vs,us=u::vs/\RelV x u/\Vals xs vs:=by
 cases h with
 | cons r t=>exact⟨_,_,rfl,r,t⟩
def Vals.zero(h:Vals [] us):us=[]:=by
 cases h;rfl
def Vals.one(h:Vals [x] us):∃u,us=[u]/\RelV x u:=by
 refine bw h.inv fun u vs b9 r t=>?_;obtain rfl:=b9;obtain rfl:=t.zero;exact⟨u,rfl,r⟩
def Vals.two(h:Vals [x,y] us):∃u v,us=[u,v]/\RelV x u/\RelV y v:=by
 refine bw h.inv fun u vs b9 r t=>?_;obtain rfl:=b9;refine aO t.one fun v iV q=>?_;obtain rfl:=iV;exact⟨u,v,rfl,r,q⟩
theorem Vals.reverse(h:Vals xs us):Vals xs.reverse us.reverse:=by
 induction h with
 | nil=>exact .nil
 | cons r t ih=>rw[vI,vI];exact Vals.append ih (.cons r .nil)
def Inv.aL1{bx its':List au}{f:Array au->Array au}(I:Inv X ao σ H s)(hH:H l=some (.lst xs))
  (e:s.heap.get? l=some {cls:=.type "list",data:=.seq bx.toArray n}) (hf:f bx.toArray=its'.toArray) (hv:Vals ys its') (hz:ys.length<=cG) :
  Inv X ao σ (upd H l (.lst ys)) {s with heap:=s.heap.update l (cQ f),toks:=t'}:=by
 have q:=PySem.IsL.update e f;rw[hf]at q;refine I.write (x:=l) (e:=l) (by rw[hH];exact trivial) (.inl rfl) (fun b' u hb hu=>(F0 s.heap (cQ f) (dZ hb)).trans hu) ⟨_,q⟩ ?_;exact⟨hz,its',_,hv,q⟩
def Inv.aL2(I:Inv X ao σ H s)(hv:Vals ys bx)(hz:ys.length<=cG) :
  Inv X ao σ (upd H s.heap.objs.size (.lst ys)) {s with heap:=s.heap.push {cls:=.type "list",data:=.seq bx.toArray},toks:=t'}:=
 I.laid (fun _ _ q=>bM _ q) (aZ _) ⟨hz,bx,0,hv,dW _ rfl⟩
theorem Inv.fresh(I:Inv X ao σ H s):H s.heap.objs.size=none:=I.eU.fresh (aZ _)
def Inv.aL3(I:Inv X ao σ H s)(hH:H l=some (.lst xs)):xs.length<=cG/\∃(bx:List au) (n:Nat),Vals xs bx/\xs.length=bx.length/\s.heap.get? l=some {cls:=.type "list",data:=.seq bx.toArray n}:=by
 obtain⟨z,bx,n,r,e⟩:=I.eU l _ hH;exact⟨z,bx,n,r,r.length,e⟩
def Ic:V->List V->Hp->VK->Prop:=fun x vs H Q=>∃l xs y,x = .ref l/\vs=[y]/\H l=some (.lst xs)/\xs.length<cG/\Q .cM (upd H l (.lst (xs++[y])))
def zg:MtM X "list.append" Ic:=by
 intro ao s σ H x vs v us Q I rx rv h;refine Cg h fun l xs y qZ NV hH hz q=>?_;clear h;obtain rfl:=qZ;obtain rfl:=NV;cases rx;refine aO rv.one fun u iV ru=>?_;obtain rfl:=iV;obtain⟨z,bx,n,r,hl,e⟩:=I.aL3 hH;refine call_meets F.slot_list_append ⟨_,e,rfl⟩ F.entry_list_append (F.args_list_append_2 _ _) (PySem.list_append l bx.toArray n u (by rw[d8];lia)) ⟨e,?_⟩;refine⟨.cM,_,I.aL1 (its':=bx++[u]) hH e (by simp) (r.append (.cons ru .nil)) ?_,rfl,q⟩;rw[bU,An];lia
end L2
namespace Att
open PySem PySem.W PySem.Calls PyProof.Rows
def uM:∀(ns:List Int) (vs:List au),WellAll P h vs (ns.map WData.int)->IntsAre vs ns:=by
 intro ns;induction ns with
 | nil=>intro vs w;rw[lO]at w;cases w;exact .nil
 | cons n ns ih=>
  intro vs w;rw[aW]at w;cases w with
  | cons a b=>cases a;exact .cons _ _ (ih _ b)
def JG{l:OpenLaw}(hn:l.most=some n)
  (SH:l.row.toRowW.claim.pre args=true) (hwl:WellAll P h vals args) :
  ∃a vs ns,vals=[eG a]/\args=[WData.list (ns.map WData.int)]/\h.get? a=some {cls:=.type "list",data:=.seq vs.toArray}/\IntsAre vs ns/\ns.length<=n:=by
 have hsh:WShape.hasAll [] args [.list .int]=true:=(pre_splitW SH).1;have hc:l.pre.holds [] {args:=args}=true:=(pre_splitW SH).2;refine bw (hasAllW_cons hsh) fun d r b9 h1 h2=>?_;obtain rfl:=b9;obtain rfl:=hasAllW_nil h2;refine aO (hasW_list h1) fun xs iV h3=>?_;obtain rfl:=iV;obtain⟨ns,rfl⟩:=items_int h3;have hlen:ns.length<=n:=by
  unfold OpenLaw.pre at hc;have h4:(WTm.not (.lt (.lit (.int (n:Int))) (.len (.arg 0)))).holds [] {args:=[.list (ns.map .int)]}=true:=by have h4:=(holds_andW hc).1;rw[hn]at h4;exact h4
  have h5:=condW_of h4 (w_not (w_lt w_lit (w_len_list (w_arg rfl))));rw[bf]at h5;refine lK fun q=>?_;have q':(n:Int)<((ns.length:Nat):Int):=by lia
  first
   | (rw[aX1 q']at h5;exact aY1 h5 (by decide))
   | (simp at h5;lia)
 cases hwl with
 | cons w1 w2=>
  cases w2;cases w1 with
  | list ho oH=>exact⟨_,_,ns,rfl,rfl,ho,uM ns _ oH,hlen⟩
def JH(l:OpenLaw)(args:List WData):l.row.toRowW.claim.post args (.bool true) args=true:=
 postW_of (r:=l.row.toRowW) (X:=(true==true))
  (show WShape.has [] (.bool true) .bool=true by first|rfl|decide|simp[WShape.has,WShape.arms,WShape.armsAll])
  (show(WTm.eq .res (.lit (.bool true))).value [] {args:=args,res:=some (.bool true),after:=args}=some (.bool (true==true))from w_eq_bool (w_res rfl) w_lit) rfl
def CH{l:OpenLaw}{YP:bI->aQ->Prop}{d:DefRec}
  (hn:l.most=some n) (XR:d.params.defaults=[])
  (call:∀(w:bI) (iU kE:ay) (mg mb:Str->Option au) (fa:av) (o:Obj) (pm cd doc:au) (a:av) (vs:List au) (ns:List Int),
   Ground q loose [] XP w iU mg mb kE.heap->YP w kE.heap->
   kE.heap.get? fa=some o->o.data = .func (docDef d.name d.params d.body d.scope pm cd doc)->kE.heap.CodeRec cd d.name->mg d.name=some (.ref fa)->
   kE.heap.get? a=some {cls:=.type "list",data:=.seq vs.toArray}->IntsAre vs ns->ns.length<=n->kE.gens=#[]->
   codeAny (aC l.prog w) callerA (.call (.ref fa) ⟨[.ref a],[]⟩) (fun r s'=>r = .ok (.ret (.bool true))/\OldK kE.heap s'.heap/\s'.os=kE.os/\AllBare s'.gens) kE) :
  WalkO q loose XP YP l.row.toRowW d [] (fun f vs=>PySem.call f vs):=by
 intro w iU kE mg mb G Y fa o pm cd doc dV kV ho hd G6 hD hmg hg args vals as SH aV3 hrd hwl hlo;obtain rfl:dV = .none:=Dflts.none hD XR;obtain rfl:kV = .none:=Dflts.noKw hD;refine Cg (JG hn SH hwl) fun a vs ns qZ NV XS hints hlen=>?_;obtain rfl:=qZ;obtain rfl:=NV;refine enter_call (sI (call w iU kE mg mb fa o pm cd doc a vs ns G Y ho (fd_plain hd) G6 hmg XS hints hlen hg) fun r s' hq=>?_);refine G3 hq fun zo0 h2 h3 h4=>?_;clear hq;obtain rfl:=zo0;exact⟨.inl ⟨.bool true,.bool true,[],rfl,fun _=>rfl,.bool true,JH l _,fun _=>⟨List.Pairwise.nil,fun _ hm=>(nomatch hm)⟩⟩,h2,h3,h4⟩
end Att
namespace L2
open PySem PySem.Spec PyProof.Rows
theorem zh:∀{vs:List au} {ns:List Int},IntsAre vs ns->Vals (ns.map V.int) vs
 | _,_,.nil=>.nil
 | _,_,.cons n t h=>.cons ⟨t,rfl⟩ (zh h)
def inClass(s:aX)(j:Nat):aX:=match s with
 | .ClassDef _ _ _ body _ _ _ _ _ _ _=>body.getD j (.Pass ⟨0,0,0,0⟩)
 | _=>.Pass ⟨0,0,0,0⟩
def iZ(s:aX):Arguments:=match s with
 | .FunctionDef _ a _ _ _ _ _ _ _ _=>a
 | _=>{posonlyargs:=[],args:=[],vararg:=none,kwonlyargs:=[],kw_defaults:=[],kwarg:=none,defaults:=[]}
def eE(s:aX):List aX:=match s with
 | .FunctionDef _ _ b _ _ _ _ _ _ _=>b
 | _=>[]
def bz(s:aX):i0:=match s with
 | .FunctionDef _ _ _ _ _ _ sc _ _ _=>sc
 | _=>{kind:=.function,names:=[],isGenerator:=false,isCoroutine:=false}
structure Lp(K:aD)(x qual:Str)(st:aX)(f:av)(fd:gr):Prop where
 ex:∃(oc:au) (od:Option av) (kV doc pm:au) (an:Option av) (cW ct:au) (EB:Array (Option au)),
  fd=mP x qual (iZ st) (eE st) (bz st) .none kV doc pm an cW ct/\K.lookup f=some ⟨oc,od,.func fd,EB⟩/\PySem.W.codeIn K cW qual=true
 kp:sP K (.ref f)=true
section
variable {K:aD}
def Lp.binds{x qual:Str}{st:aX}{f:av}{fd:gr}{ps:List Str}(F:Lp K x qual st f fd)
  (h:∀(kV doc pm:au) (an:Option av) (cW ct:au) (us:List au),us.length=ps.length->bindArgs (mP x qual (iZ st) (eE st) (bz st) .none kV doc pm an cW ct) ⟨us,[]⟩=pure (ps.zip us)):Binds K fd ps []:=by
 refine X9 F.ex fun oc od kV doc pm an cW ct EB zo9 lk G6=>?_;obtain rfl:=zo9;exact .all (h kV doc pm an cW ct)
def AN{x qual:Str}{st:aX}{f:av}{oc:au}{od an:Option av}{EB:Array (Option au)}{kV doc pm cW ct:au}(l:K.lookup f=some ⟨oc,od,.func (mP x qual (iZ st) (eE st) (bz st) .none kV doc pm an cW ct),EB⟩)
  (c:PySem.W.codeIn K cW qual=true) (k:sP K (.ref f)=true):Lp K x qual st f (mP x qual (iZ st) (eE st) (bz st) .none kV doc pm an cW ct):=⟨⟨oc,od,kV,doc,pm,an,cW,ct,EB,rfl,l,c⟩,k⟩
end
def pv(i:Nat)(hN:autoParam (X.N[i]?=some x) zu0._auto_1)(hv:Vis X.env.scope x:=by first|exact fF rfl|exact gJ (fF rfl)|exact gJ (gJ rfl))(hd:autoParam ((x==("__debug__" : Str))=false) zu1._auto_1)
  (G6:autoParam ((x==("__classdict__" : Str))=false) zu1._auto_1):PE X (.Name x pos) (uL i):=Xh hN hv hd G6
def aE(H H':Hp):Prop:=∀b o,H b=some o->H' b=some o
def aE.refl(H:Hp):aE H H:=fun _ _ h=>h
def aE.trans(a:aE H H1)(b:aE H1 H2):aE H H2:=fun c o h=>b c o (a c o h)
def aE.free(e:aE H H')(h:H' l=Option.none):H l=Option.none:=by
 cases q:H l with
 | none=>rfl
 | some o=>rw[e l o q]at h;cases h
def aE.seq{K:aD}{H H':Hp}{a:av}{xs:List V}(e:aE H H')(h:k9 K H a xs):k9 K H' a xs:=by
 rcases h with(h|⟨o,h⟩)|h;exact .inl (.inl (e _ _ h));exact .inl (.inr ⟨o,e _ _ h⟩);exact .inr h
end L2
namespace Dm
open PySem PySem.Spec PyProof.Rows L2
def XD(dx:Option av)(a:av)(h:aQ):Prop:=∀d,dx=some d->∃o,h.get? a=some o/\o.dict=some d
def XD.no:XD none a h:=fun _ z=>nomatch z
def XD.keeps{h':aQ}(x:XD dx a h)(k:∀o,h.get? a=some o->∃o',h'.get? a=some o'/\o'.dict=o.dict):XD dx a h':=fun d z=>by
 obtain⟨o,e,ed⟩:=x d z;obtain⟨o',e',ed'⟩:=k o e;exact⟨o',e',ed'.trans ed⟩
def Gm(f:Obj->Obj):Prop:=∀o,(f o).dict=o.dict/\(o.isFreed=false->(f o).isFreed=false)
inductive KD{α:Type}:Sem α->Prop
 | ret (a:α):KD (.pure a)
 | exc (e:au):KD (.raise e)
 | no (w:String):KD (.unsupported w)
 | load {a:av} {pt:Option au} {k:Obj->Sem α} (h:∀o,KD (k o)):KD (.load a pt k)
 | upd {a:av} {pt:Option au} {f:Obj->Obj} {k:Unit->Sem α} (hf:Gm f) (h:KD (k ())):KD (.update a pt f k)
 | alloc {o:Obj} {k:av->Sem α} (h:∀a,KD (k a)):KD (.alloc o k)
 | stack {k:List (Code×Pos)->Sem α} (h:∀l,KD (k l)):KD (.stack k)
theorem KD.bind{f:α->Sem β}(hm:KD m)(hf:∀a,KD (f a)):KD (m>>=f):=by
 show KD (Sem.bind m f);induction hm with
 | ret a=>exact hf a
 | exc e=>exact .exc e
 | no w=>exact .no w
 | load _ ih=>exact .load ih
 | upd z _ ih=>exact .upd z ih
 | alloc _ ih=>exact .alloc ih
 | stack _ ih=>exact .stack ih
def XD.upd(x:XD dx a h)(hf:Gm f):XD dx a (h.update b f):=x.keeps fun o e=>by
 by_cases z:b=a;subst z;exact⟨f o,mQ f e ((hf o).2 (Heap.get?_some_iff.mp e).2),(hf o).1⟩;exact⟨o,(F0 h f z).trans e,rfl⟩
def ao8(k:KD t) :
  ∀{p:Pos} {s:ay},Sem.wp M Γ t Q E p s->XD dx a s.heap->Sem.wp M Γ t (fun x p s=>Q x p s/\XD dx a s.heap) (fun x p s=>E x p s/\XD dx a s.heap) p s:=by
 induction k with
 | ret x=>exact fun h z=>⟨h,z⟩
 | exc e=>exact fun h z=>⟨h,z⟩
 | no w=>exact fun h z=>h
 | load _ ih=>intro p s h z;rw[Sem.wp_load]at h ⊢;obtain⟨o,e,h⟩:=h;exact⟨o,e,ih o h z⟩
 | upd hf _ ih=>intro p s h z;rw[Sem.wp_update]at h ⊢;exact⟨h.1,ih h.2 (z.upd hf)⟩
 | alloc _ ih=>intro p s h z;rw[Sem.wp_alloc]at h ⊢;exact ih _ h (z.keeps fun o e=>⟨o,bM _ e,rfl⟩)
 | stack _ ih=>intro p s h z;exact ih _ h z
def CI(k:KD t)(h:aA M A t Q E s)(z:XD dx a s.heap) :
  aA M A t (fun x s'=>Q x s'/\XD dx a s'.heap) (fun x s'=>E x s'/\XD dx a s'.heap) s:=fun Γ p AO=>ao8 k (h Γ p AO) z
def AQ(a:av):KD (load a):=.load fun o=>.ret o
def wK:KD stack:=.stack fun l=>.ret l
def rm(f:Array au->Array au):Gm (Obj.mapFields f):=fun o=>by
 obtain⟨c,d,dt,sl⟩:=o;cases dt <;> exact⟨rfl,fun h=>h⟩
def CJ(v:au):KD (fieldsOf v):=by
 unfold fieldsOf;cases v with
 | ref a=>refine .bind (AQ a) fun o=>?_;split;exact .ret _;exact .no _
 | _=>exact .no _
def rq(v:au)(i:Nat):KD (field v i):=by
 unfold field;refine .bind (CJ v) fun vs=>?_;split;exact .ret _;exact .no _
def wL(a:av)(i:Nat)(x:au):KD (updateField a i x):=by
 unfold updateField;refine .bind (AQ a) fun o=>?_;split;split;exact .upd (rm _) (.ret _);exact .no _;exact .no _
def oJ(v:au)(i:Nat)(x:au):KD (setField v i x):=by
 unfold setField;cases v with
 | ref a=>exact wL a i x
 | _=>exact .no _
def AR(e:au)(f:Option av):KD (setFlight e f):=by
 unfold setFlight;refine .bind (rq e 1) fun tb=>?_;split;exact oJ _ _ _;exact .ret _
def JI(env:Env)(outer:List Env):KD (behindIsImport env outer):=by
 unfold behindIsImport;split;exact .ret _;split;exact .ret _;exact .bind (rq _ _) fun _=>.ret _
def SI(env:Env)(i:Bool)(outer:List Env):KD (keptBack env i outer):=by
 unfold keptBack;split;split;exact .ret _;unfold underTheClaimsCaller;exact .bind (.bind wK fun _=>.ret _) fun _=>.ret _;exact .ret _
def NX:∀l:List Env,KD (readyFrames l):=fun l=>by
 induction l with
 | nil=>exact .ret _
 | cons env outer ih=>unfold readyFrames;split;refine .bind (AQ _) fun o=>?_;split;exact .ret _;refine .bind (JI env outer) fun i=>.bind (SI env i outer) fun b=>.bind (.upd (fun o=>⟨rfl,fun h=>by obtain⟨_,_,d,_⟩:=o;cases d <;> exact h⟩) (.ret _)) fun _=>ih;exact .no _
def Gn(env:Env):KD (PySem.frameOf env):=by
 unfold PySem.frameOf frameEnvs;refine .bind (.bind wK fun _=>.ret _) fun l=>.bind ?_ fun o=>?_;unfold frameObject;split;exact .ret _;exact .bind (NX _) fun _=>.ret _;split;exact .ret _;exact .no _
def NY(f:av)(b:Bool):KD (entryPlaceOf f b):=by
 unfold entryPlaceOf;refine .bind wK fun l=>?_;split;exact .ret _;exact .ret _
def NZ(head:au)(fr:au)(l f x:au)(pl:List au):KD (EntryCells.newEntry head fr l f x pl):=by
 have fin:∀d,KD (newObjAsIs (.type "traceback") d):=fun d=>by unfold newObjAsIs;exact .bind (.alloc fun a=>.ret a) fun _=>.ret _
 unfold EntryCells.newEntry newFields;generalize ([head,fr,l,f,x]++if pl.isEmpty=true then kr 6 dI else pl).toArray=vs;unfold newObj;dsimp only;split;exact .bind (.no _) fun _=>fin _;exact fin _
def SJ(e:au)(env:Env):KD (noteFrame e env):=by
 unfold noteFrame;split;refine .bind (rq e 1) fun head=>?_;have fin:=fun(f:av)=>KD.bind (Gn env) fun a=>KD.bind (NY f (head != .none)) fun pl=>KD.bind (NZ head a .none (rawInt f) .none pl) fun b=>oJ e 1 b;dsimp only;split;refine .bind (rq head 3) fun x=>?_;split;exact .ret _;exact .bind (oJ _ _ _) fun _=>fin _;exact fin _;exact .no _
def Cov(l:List Env)(B h:aQ):Prop:=∀b o,h.get? b=some o->b∉wu l->B.get? b=some o
def nM(P:cS)(w:bI):RN:=fun outer H s E e s'=>∃a cls dx a0 H' h B,e = .ref a/\Heap.FlyingW B outer a cls a0 s'.heap/\XD dx a s'.heap/\Cov outer B h/\h.UpToSlots s'.heap/\E cls dx H'/\s'.os=s.os/\AllBare s'.gens/\
 Un (wu outer) [] H H' s.heap h/\qL P w H' h
structure Made(h h':aQ)(a:av)(cls:au):Prop where
 keeps:∀b o,h.get? b=some o->h'.get? b=some o
 new:h.get? a=none
 there:∃o a0,h'.get? a=some o/\o.cls=cls/\o.data = .fields #[a0,.none,.none,.none,.bool false,.none]
def Made.of(x:Heap.MadeExcOf h h' a cls vs):Made h h' a cls:=by
 refine cC x.there fun t he _ _=>?_;exact⟨x.keeps,x.new,_,_,he,rfl,rfl⟩
def l7(X:Cx)(E:L2.St->XK)(e:au)(s':ay):Prop:=∃a cls dx σ H h,e = .ref a/\L2.Inv X [] σ H {s' with heap:=h}/\E σ cls dx H/\XD dx a s'.heap/\
 (Made h s'.heap a cls\/(∃a0 B,Cov X.stack B h/\h.UpToSlots s'.heap/\(Heap.FlyingW B X.stack a cls a0 s'.heap\/Heap.HeldW B X.stack a cls a0 X.env.locals s'.heap)))
def wM(I:L2.Inv X ao σ H s):L2.Inv X [] σ H s:=I.qU fun p hp=>by cases hp
section
variable {X:Cx}
def SM(I:L2.Inv X ao σ H s)(hx:Made s.heap h' a cls)(q:E σ cls none H):l7 X E (.ref a) {s with heap:=h'}:=
 ⟨a,cls,none,σ,H,s.heap,rfl,wM I,q,.no,.inl hx⟩
def CK(I:L2.Inv X ao σ H s)(c:nM X.prog X.w X.stack H s (E σ) e s'):l7 X E e s':=by
 obtain⟨a,cls,dx,a0,H',h,B,rfl,f,xd,cv,up,q,os,bare,un,eU⟩:=c;have I':L2.Inv X ao σ H' {s' with heap:=h}:=Inv.Ct I (s':={s' with heap:=h}) os un eU bare (fun b z=>aY1 z (by simp));exact⟨a,cls,dx,σ,H',h,rfl,wM I',q,xd,.inr ⟨a0,B,cv,up,.inl f⟩⟩
def SN{h:aQ}(f:h.FunFrames base l):∃B:aQ,Cov l B h/\B.StaysIn h/\h.FunFrames B l/\∀b,h.get? b=none->B.get? b=none:=by
 have st:(yY h (wu l)).StaysIn h:=fun b o e=>HU _ e;refine⟨yY h (wu l),fun b o e n=>LQ _ e n,st,PySem.W.funFrames_hide f fun env he a ha=>Cf.mpr ⟨env,he,ha⟩,fun b hb=>?_⟩;cases hq:(yY h (wu l)).get? b with
 | none=>rfl
 | some o'=>have:=st b o' hq;rw[hb]at this;cases this
structure XT(X:Cx):Prop where
 NC:X.stack=X.env::X.outer
 fr:X.env.frame=some X.env.locals
def CL{Q:Unit->ay->Prop}(O:XT X)(f:l7 X E e s')
  (hq:∀(a:av) cls dx a0 σ H h B h',e = .ref a->L2.Inv X [] σ H {s' with heap:=h}->E σ cls dx H->XD dx a h'->Cov X.stack B h->h.UpToSlots h'->Heap.HeldW B X.stack a cls a0 X.env.locals h'->Q () {s' with heap:=h'}) :
  aA (aC X.prog X.w) X.A (noteFrame e X.env) Q E' s':=by
 obtain⟨a,cls,dx,σ,H,h,rfl,I,q,xd,f⟩:=f;have fr:X.A.frames=some (X.env::X.outer):=by rw[I.ok.frames,O.NC]
 refine gR (CI (Q:=fun u s1=>XD dx a s1.heap->Q u s1) (E:=E') (SJ _ _) ?_ xd) (fun u s1 h=>h.1 h.2) fun _ _ h=>h.1;rcases f with hx|⟨a0,B,cv,up,f|f⟩;obtain⟨oe,a0,he,zj,hdt⟩:=hx.there;subst zj;obtain⟨B,b1,b2,b3,b4⟩:=SN I.stack;have ff:s'.heap.FunFrames B X.stack:=b3.of_keeps fun b o hb _=>⟨o,hx.keeps b o hb,rfl⟩
 rw[O.NC]at ff;unfold noteFrame;simp only[O.fr];refine ak (pZ he (vs:=#[a0,.none,.none,.none,.bool false,.none]) hdt (x:=.none) rfl ?_);rw[aX0 (by decide)];refine wpAny_entryW (a0:=a0) fr ff O.fr he (fun b o hb=>hx.keeps b o (b2 b o hb)) (b4 a hx.new) hdt (by simp) rfl fun h' hN=>?_;obtain⟨k1,k2,k3,k4⟩:=hN;refine fun xd=>hq a _ dx a0 σ H h B h' rfl I q xd b1 ((X4 hx.keeps).trans k4) ⟨k1,b4 a hx.new,?_,k3⟩;rw[O.NC];exact k2;rw[O.NC]at f;refine wpAny_looks_onW fr O.fr f fun h' hh us=>?_;exact fun xd=>hq a cls dx a0 σ H h B h' rfl I q xd cv (up.trans us) (by rw[O.NC];exact hh);refine wpAny_noteFrame_againW O.fr f.2.2.2 ?_;exact fun xd=>hq a cls dx a0 σ H h B s'.heap rfl I q xd cv up f
def gm(O:XT X):PassesOwn (aC X.prog X.w) X.A X.env (l7 X E):=by
 intro e s' f;refine CL O f fun a cls dx a0 σ H h B h' ea I q xd cv up hd=>?_;subst ea;unfold cameBackBy;obtain⟨k1,k2,k3,oe,vs,T,oT,ts,he,hc,RP,h1,hnT,hTe,hT,hdT,h3⟩:=hd;refine ak (pZ he RP h1 ?_);rw[aX0 (by simp)];unfold setFlight;refine ak (pZ he RP h1 ?_);rw[aW9 (show(eG T !=dI)=true from by simp)];have h3s:3<ts.size:=(oj.mp h3).1;rw[O.fr];refine q8 hT hdT h3s ?_;have other:∀b,b≠T->(h'.update T (Obj.mapFields (·.setIfInBounds 3 (rawInt X.env.locals)))).get? b=h'.get? b:=fun b hb=>F0 _ _ (dZ hb);have Wh:∀b o,h'.get? b=some o->(∀vs,o.data≠ .fields vs)->b≠T:=fun b o hb hnf z=>by rw[z,hT]at hb;injection hb with hb;subst hb;exact hnf ts hdT
 refine⟨a,cls,dx,σ,H,h,rfl,I,q,xd.upd (rm _),.inr ⟨a0,B,cv,fun b o hb hn=>?_,.inr ⟨fun b o hb=>?_,k2,k3.of_keeps fun b o hb hnf=>⟨o,(other b (Wh b o hb hnf)).trans hb,rfl⟩,?_⟩⟩⟩;obtain⟨sl,e1⟩:=up b o hb hn;exact⟨sl,(other b (Wh b _ e1 fun vs z=>hn vs z)).trans e1⟩;refine(other b fun z=>?_).trans (k1 b o hb);rw[z,hnT]at hb;cases hb;refine⟨oe,vs,T,_,_,(other a (dZ hTe)).trans he,hc,RP,h1,hnT,hTe,mQ _ hT (AA (tF hdT _)),tF hdT _,?_⟩;simp[h3s]
end
section
variable {P:cS}{w:bI}{K:aD}{mg:Str->Option au}{base:aQ}{N:List Str}{qual:Str}{scope:i0}{f:av}{cd:au}{A:bX}{outer:List Env}{s:ay}{H:Hp}{E:XK}
def JJ(fl:l7 (nJ (nM P w) P w K mg base N qual scope f cd A outer s H E) (fun _=>E) e s'):(nJ (nM P w) P w K mg base N qual scope f cd A outer s H E).xe e s':=by
 let X:=nJ (nM P w) P w K mg base N qual scope f cd A outer s H E;have O:XT X:=⟨rfl,rfl⟩
 show aA (aC P w) X.A (leaving X.env e) (fun _ Lo=>nM P w outer H s E e Lo) (fun e' Lo=>nM P w outer H s E e' Lo) s';unfold leaving;refine ak (CL O fl fun a cls dx a0 σ H' h B h' ea I q xd cv up hd=>?_);subst ea;refine gR (CI (Q:=fun _ s1=>XD dx a s1.heap->nM P w outer H s E (.ref a) s1) (E:=fun e' s1=>nM P w outer H s E e' s1) (AR _ _) ?_ xd) (fun u s1 h=>h.1 h.2) fun _ _ h=>h.1;refine wpAny_landsW hd fun h2 fl2 us xd=>?_;refine G3 fl2 fun k1 k2 b9 k4=>?_;clear fl2;obtain⟨_,⟨L',o',e1,e2,e3,e4⟩,k3⟩:=b9;obtain rfl:X.env.locals=L':=eN e1;have hL:H' X.env.locals=none:=I.free;have fr:∀b,b∈wu X.stack↔b=X.env.locals\/b∈wu outer:=fun b=>by show b∈wu (X.env::outer)↔_;unfold wu;rw[Mg (show X.env.frame=some X.env.locals from rfl),bR]
 have get:∀b o,b≠X.env.locals->h.get? b=some o->(yY h [X.env.locals]).get? b=some o:=fun b o n e=>LQ _ e (by simpa using n);refine⟨a,cls,dx,a0,H',yY h [X.env.locals],B,rfl,⟨k1,k2,k3,k4⟩,xd,fun b o e nb=>?_,fun b o e hn=>?_,q,I.os,I.bare,?_,?_⟩;have nl:b≠X.env.locals:=fun z=>by have z':=VZ [X.env.locals] (h:=h) (b:=b) (by simp[z]);rw[e]at z';cases z'
 exact cv b o (HU _ e) fun z=>by rcases(fr b).mp z with z|z;exact nl z;exact nb z
 exact(up.trans us) b o (HU _ e) hn;have u:Un (wu outer) [] H H' s.heap h:=I.base;have ne:∀b o,s.heap.get? b=some o->b≠X.env.locals:=fun b o e=>dh (i6 (bY e) I.ok.above);refine⟨fun b o e n nf nx=>get b o (ne b o e) (u.keep b o e n nf nx),fun b o e n nf nx=>?_,u.free,fun b o e nx=>?_,u.oA,u.wm,u.wo⟩;obtain⟨sl,e1⟩:=u.slot b o e n nf nx;exact⟨sl,get b _ (ne b o e) e1⟩;obtain⟨o',e1⟩:=u.there b o e nx;exact⟨o',get b _ (ne b o e) e1⟩;intro b u e;refine(I.eU b u e).yt (fun c v hc q'=>get c v ?_ q') (fun _ z=>z) (fun _ _ z=>z) fun _ zo _ z=>z;rcases hc with z|z;rintro rfl;rw[<- z,hL]at e;cases e;rintro rfl;rw[hL]at z;cases z
end
end Dm
namespace Dm
open PySem PySem.Spec PyProof.Rows L2 PySem.W
def exD(K:Frag)(C:av)(bmB:List au)(newId:String)(o:Obj):Bool:=match o.data with
 | .cls cd=>!cd.hasDel&&cd.mro.head?==some (.ref C)&&tailIn K bmB cd.mro.tail&&nsOkIn K cd.ns&&nsIn K cd.ns "__init__"==some none&&o.cls == .type "type" && o.slots.toList[4]?==some (some (.builtin newId))&&o.slots.toList.length==6
 | _=>false
def exB(K:Frag)(C:av)(bmB:List au)(newId:String):Bool:=(K.lookup C).any (exD K C bmB newId)
def six{l:List (Option au)}(h:l.length=6)(e:l[4]?=some a):∃k0 k1 k2 k3 k5,l=[k0,k1,k2,k3,a,k5]:=by
 refine qu (sV h) fun k0 l b9=>?_;obtain rfl:=b9;refine qu (sV (fj h)) fun k1 l b9=>?_;obtain rfl:=b9;refine qu (sV (fj (fj h))) fun k2 l b9=>?_;obtain rfl:=b9;refine qu (sV (fj (fj (fj h)))) fun k3 l b9=>?_;obtain rfl:=b9;refine qu (sV (fj (fj (fj (fj h))))) fun k4 l b9=>?_;obtain rfl:=b9;refine qu (sV (fj (fj (fj (fj (fj h)))))) fun k5 l b9=>?_;obtain rfl:=b9;obtain rfl:=Mh (fj (fj (fj (fj (fj (fj h))))));cases e;exact⟨k0,k1,k2,k3,k5,rfl⟩
def XU{K:Frag}{mg:Str->Option au}(X:K.In h)(hb:mg x=some (.ref C))(q:exB K C bmB newId=true):OwnCls x C bmB newId mg h:=by
 refine⟨hb,?_⟩;unfold exB at q;cases ho:K.lookup C with
 | none=>rw[ho]at q;cases q
 | some o=>
  rw[ho]at q;replace q:exD K C bmB newId o=true:=q;obtain⟨oc,dd,dt,sl⟩:=o;cases dt with
  | cls cd=>
   obtain⟨nm,bs,mro,ns,qn,hd,sn,sub,ab,col,del⟩:=cd;obtain⟨l⟩:=sl;unfold exD at q;simp only[bV,aX3,Bool.not_eq_true']at q;obtain⟨⟨⟨⟨⟨⟨⟨rfl,q1⟩,q2⟩,q3⟩,q4⟩,rfl⟩,q5⟩,q6⟩:=q;cases mro with
   | nil=>cases q1
   | cons m bm=>cases q1;refine aD6 (six q6 q5) fun k0 k1 k2 k3 k5 SD=>?_;obtain rfl:=SD;exact⟨bm,ns,nm,qn,bs,hd,sn,sub,ab,col,dd,k0,k1,k2,k3,k5,_,X _ _ ho,.of_isNs (isNs_of_in X q3),nsMap_none_of_in X q3 q4,tail_of_in X q2⟩
  | _=>exact nomatch q
section
variable {X:Cx}{E:L2.St->XK}{x:Str}{C:av}{B newId O0:String}{bm:List au}{np i9 pos:Pos}{AS:bg}{rest:List bg}{ta:TA}
def XW(E:L2.St->XK)(cls:au)(ta:TA):TS:=fun _ σ H=>ta σ H fun vs H1=>vs.length<=cG/\E σ cls none H1
def O2(FB:ExcBaseFacts B newId O0 bm)(hh:X.A.handled=none)(hm:X.mg x=some (.ref C))(hc:exB X.K C bm newId=true)(hg:Gl X x)(ha:PA (X.eT (l7 X E)) (AS::rest) ta)
  (he:autoParam (bH (AS::rest) X.env=(false,eval AS X.env)::bH rest X.env) zu0._auto_1) (qv:autoParam ((backTo i9 (bH rest X.env)).any (·.1)=false) zu0._auto_1) (hd:autoParam ((x==("__debug__" : Str))=false) zu1._auto_1) :
  PS (X.eT (l7 X E)) (.Raise (some (.Call (.Name x np) (AS::rest) [] i9)) none pos) (XW E (.ref C) ta):=by
 intro ao s σ H D I h;have O:OwnCls x C bm newId X.mg X.base:=XU I.ok.mod.kin hm hc;obtain⟨tl,N,nm,q,bs,hdct,sn,sub,ab,col,dd,k0,k1,k2,k3,k5,mN,hC,hN,hni,T⟩:=O.obj;refine wpAny_Raise_call_subT (C:=C) (nm:=nm) (q:=q) (N:=N) (bs:=bs) (bm:=tl) (hdct:=hdct) (sn:=sn) (sub:=sub) (ab:=ab) (col:=col) (dd:=dd) (k0:=k0) (k1:=k1) (k2:=k2) (k3:=k3) (k5:=k5)
  FB (mN:=mN) (T.hasType FB.hasBase) hh (by rw[he];show(false || (backTo i9 (bH rest X.env)).any (·.1))=false;rw[qv];rfl) hni (qW I hg hm ⟨rfl,?_⟩ hd)
 have hp:=ha i9 ao s σ H _ I h;rw[he]at hp ⊢;refine FH (gR hp (fun us s2 l6=>?_) fun _ _ y=>y);refine uJ l6 fun vs H1 I1 r z w=>?_;clear l6;exact⟨rfl,by rw[<- r.length];exact z,I1.bk _ _ hC,hN.keeps I1.bk,T.keeps I1.bk,fun h' e hx=>SM I1.iW (.of hx) w⟩
def O3(sp:Sp)(E:L2.St->XK)(t:TA):TE:=fun σ H Q=>t σ H fun vs H1=>sp vs H1 Q (E σ)
def SO{CX:RN}(F:jO X.prog X.w X.K X.mg X.base (nM X.prog X.w) k f fd ps sp)(hr:iX k X.A)(hb:Binds X.K fd ps [])
  (I:L2.Inv X ao σ H s) (r:Vals vs us) (h:sp vs H Q (E σ)):aA (aC X.prog X.w) X.A (call (.ref f) us) (EP X ao σ Q) (l7 X E) s:=by
 have hl:(us++[]).length=ps.length:=by rw[jJ,<- r.length];exact F.len _ _ _ _ h
 have hbd:=hb s us I.Ju hl;rw[jJ]at hbd;refine Ad (sI (F.run X.A X.stack s H ⟨us,[]⟩ us vs Q (E σ) hr I.am6 hbd r h) fun r s' hq=>?_);cases r with
 | error e=>exact CK I hq
 | ok fl=>
  cases fl with
  | ret u=>exact I.after hq
  | next=>exact mX hq
  | brk=>exact mX hq
  | cont=>exact mX hq
def O5(F:jO X.prog X.w X.K X.mg X.base (nM X.prog X.w) k f fd ps sp)(hr:iX k X.A)(hg:Gl X x)(hm:X.mg x=some (.ref f))(hk:sP X.K (.ref f)=true)(hb:Binds X.K fd ps [])
  (ha:PA (X.eT (l7 X E)) (e::es) t) (EC:autoParam ((x==("__debug__" : Str))=false) zu1._auto_1) (he:autoParam (bH (e::es) X.env=(false,eval e X.env)::bH es X.env) zu0._auto_1) (yr:autoParam ((backTo pos (bH es X.env)).any (·.1)=false) zu0._auto_1) :
  PE (X.eT (l7 X E)) (.Call (.Name x p) (e::es) [] pos) (O3 sp E t):=by
 intro ao s σ H Q I h;refine sH (qW I hg hm ?_ EC);refine LS (h₀:=X.base) I.ok.mod.kin hk (gv (ha pos ao s σ H _ I h) fun us s1 pR=>pR.elim fun vs uV=>uV.elim fun H1 ED=>ED.elim fun I1 Gp=>Gp.elim fun r q=>⟨I1.Ju,?_⟩) he yr;refine gv (SO (CX:=nM X.prog X.w) F hr hb I1.iW r q) fun u s2 EE=>EE.elim fun v Cu=>Cu.elim fun H2 Ez=>Ez.elim fun I2 EA=>EA.elim fun r2 q2=>⟨v,H2,I2.eT _,r2,q2⟩
def XX(C:av)(sp:Sp)(E:L2.St->XK)(t:TA):TE:=fun σ H Q=>t σ H fun vs H1=>∀x dx,H1 x=none->H1 dx=none->dx≠x->
 sp (.ref x::vs) (upd (upd H1 dx (.own x)) x (.ins C dx [])) (fun v H2=>v = .cM/\Q (.ref x) H2) (E σ)
def JK(M:Mk X.K C f)(F:jO X.prog X.w X.K X.mg X.base (nM X.prog X.w) k f fd ps sp)(hr:iX (k+1) X.A)(hb:Binds X.K fd ps [])
  (I:L2.Inv X ao σ H s) (r:Vals vs us) (h:∀x dx,H x=none->H dx=none->dx≠x->sp (.ref x::vs) (upd (upd H dx (.own x)) x (.ins C dx [])) (fun v H2=>v = .cM/\Q (.ref x) H2) (E σ)) :
  aA (aC X.prog X.w) X.A (call (.ref C) us) (EP X ao σ Q) (l7 X E) s:=by
 have hq:=h (s.heap.objs.size+1) s.heap.objs.size (I.eU.fresh (vE _)) (I.eU.fresh (aZ _)) (dh (z4 _));have I2:=Inv.made (C:=C) I;have r2:Vals (V.ref (s.heap.objs.size+1)::vs) (eG (s.heap.objs.size+1)::us):=.cons rfl r;have hl:(eG (s.heap.objs.size+1)::us++[]).length=ps.length:=by rw[jJ,<- r2.length];exact F.len _ _ _ _ hq
 have hbd:=hb _ (eG (s.heap.objs.size+1)::us) I2.Ju hl;rw[jJ]at hbd;refine Ad (NQ (f:=f) I.Ju M.makes M.init (aX3.mp M.fn) (sI (F.run _ X.stack _ _ ⟨eG (s.heap.objs.size+1)::us,[]⟩ (eG (s.heap.objs.size+1)::us) _ _ (E σ) (hr.make C us [])
  (I2.am6.make C us []) hbd r2 hq) fun r s' SQ=>?_))
 cases r with
 | error e=>exact CK I2 SQ
 | ok fl=>
  cases fl with
  | ret u=>refine uJ (I2.after SQ) fun v H' I3 rv ev q3=>?_;subst ev;exact⟨rv,⟨V.ref (s.heap.objs.size+1),H',I3,rfl,q3⟩⟩
  | next=>exact mX SQ
  | brk=>exact mX SQ
  | cont=>exact mX SQ
def O6(M:Mk X.K C f)(F:jO X.prog X.w X.K X.mg X.base (nM X.prog X.w) k f fd ps sp)(hr:iX (k+1) X.A)(hg:Gl X x)(hm:X.mg x=some (.ref C))(hb:Binds X.K fd ps [])
  (ha:PA (X.eT (l7 X E)) (e::es) t) (EC:autoParam ((x==("__debug__" : Str))=false) zu1._auto_1) (he:autoParam (bH (e::es) X.env=(false,eval e X.env)::bH es X.env) zu0._auto_1) (yr:autoParam ((backTo pos (bH es X.env)).any (·.1)=false) zu0._auto_1) :
  PE (X.eT (l7 X E)) (.Call (.Name x p) (e::es) [] pos) (XX C sp E t):=by
 intro ao s σ H Q I h;refine sH (qW I hg hm ?_ EC);refine LS (h₀:=X.base) I.ok.mod.kin M.kp (gv (ha pos ao s σ H _ I h) fun us s1 wC=>wC.elim fun vs AU=>AU.elim fun H1 AV=>AV.elim fun I1 AW=>AW.elim fun r q=>⟨I1.Ju,?_⟩) he yr;refine gv (JK M F hr hb I1.iW r q) fun u s2 Gq=>Gq.elim fun v O7=>O7.elim fun H2 O8=>O8.elim fun I2 O9=>O9.elim fun r2 q2=>⟨v,H2,I2.eT _,r2,q2⟩
def zq{P:cS}{w:bI}{K:aD}{mg:Str->Option au}{base:aQ}{x qual:Str}{st:aX}{f:av}{fd:gr}{N ps:List Str}{k:Nat}{sp:Sp}(F:Lp K x qual st f fd)(S:jX N ps (bz st))(len:∀vs H Q E,sp vs H Q E->vs.length=ps.length)
  (CB:∀(cW:au),fd.code=cW->∀(A:bX) (outer:List Env) (s:ay) (H:Hp) (vs:List V) (Q:VK) (E:XK),iX k (A.deeper (envOfC qual (bz st) s.heap.objs.size f cW))->sp vs H Q E->
   ∃t,qM ((nJ (nM P w) P w K mg base N qual (bz st) f cW A outer s H E).eT (l7 (nJ (nM P w) P w K mg base N qual (bz st) f cW A outer s H E) fun _=>E)) (eE st) t/\t {nx:=fun _ H'=>Q .cM H',rt:=Q} (start N vs) H) :
  jO P w K mg base (nM P w) (k+1) f fd ps sp:=by
 refine X9 F.ex fun oc od kV doc pm an cW ct EB zo9 lk G6=>?_;obtain rfl:=zo9;refine am7 lk G6 S len fun A outer s H vs Q E hr h=>?_;refine aO (CB cW rfl A outer s H vs Q E hr h) fun t ht q=>?_;refine⟨t,fun ao s' σ H' D I hw=>?_,q⟩;exact gR (ht ao s' σ H' D (I.eT _) hw) (fun fl Lo hs=>SP.iW hs) fun e Lo hs=>JJ hs
end
section
variable {e:av}
def ClsAt(e:av)(cls:au)(h:aQ):Prop:=∃o,h.get? e=some o/\o.cls=cls
end
end Dm
namespace Dm
open PySem PySem.Spec PyProof.Rows L2 PySem.W PySem.Calls PySem.Builtin PySem.Builtin.ObjectAttr PySem.Builtin.Getset_descriptor
def XY(e C dx:av)(h:aQ):Prop:=∃o,h.get? e=some o/\o.cls = .ref C/\o.dict=some dx/\∃vs,o.data = .fields vs
def XY.at_(p:XY e C dx h):ClsAt e (.ref C) h:=by
 obtain⟨o,h1,h2,_⟩:=p;exact⟨o,h1,h2⟩
end Dm
namespace Dm
open PySem PyProof.Rows L2
inductive D where
 | cM|bl (b:Bool)|int (i:Int)|str (x:Str)|tup (ds:List D)|lst (ds:List D)|bJ (t:Nat) (ds:List D)
mutual
def dep:D->Nat
 | .tup ds=>jw ds+1
 | .lst ds=>jw ds+1
 | .bJ tb ds=>jw ds+2
 | _=>0
def jw:List D->Nat
 | []=>0
 | d::ds=>max (dep d) (jw ds)
end
theorem iy:∀{ds:List D} {d:D},d∈ds->dep d<=jw ds
 | _::_,_,.head _=>Nat.le_max_left _ _
 | _::ds,_,.tail _ h=>cj (iy h) (Nat.le_max_right _ _)
theorem rA:∀{ds:List D},(∀d∈ds,dep d<=n)->jw ds<=n
 | [],_=>gI _
 | d::ds,h=>Nat.max_le.mpr ⟨h d (.head _),rA fun x hx=>h x (.tail _ hx)⟩
mutual
def iJ:D->D->Bool
 | .cM,.cM=>true
 | .bl a,.bl b=>a==b
 | .bl a,.int j=>(if a then 1 else 0)==j
 | .int i,.bl b=>i==(if b then 1 else 0)
 | .int i,.int j=>i==j
 | .str x,.str y=>x==y
 | .tup xs,.tup ys=>fD xs ys
 | .lst xs,.lst ys=>fD xs ys
 | _,_=>false
def fD:List D->List D->Bool
 | [],[]=>true
 | x::xs,y::ys=>iJ x y&&fD xs ys
 | _,_=>false
end
theorem CM:∀{xs ys:List D},fD xs ys=true->xs.length=ys.length
 | [],[],_=>rfl
 | [],_::_,h=>by simp[fD]at h
 | _::_,[],h=>by simp[fD]at h
 | x::xs,y::ys,h=>by
  rw[fD,bV]at h;rw[cK,cK,CM h.2]
theorem CN:∀{xs ys:List D},xs.length=ys.length->fD xs ys=(cU xs.length).all fun j=>iJ (xs.getD j .cM) (ys.getD j .cM)
 | [],[],_=>rfl
 | x::xs,y::ys,h=>by
  rw[fD,CN (xs:=xs) (ys:=ys) (by simpa using h),cK,List.range_succ_eq_map,List.all_cons,Mi];rfl
mutual
def flat:D->Bool
 | .tup ds=>cu ds
 | .lst ds=>cu ds
 | .bJ _ _=>false
 | _=>true
def cu:List D->Bool
 | []=>true
 | d::ds=>flat d&&cu ds
end
theorem dG:∀{ds:List D} {d:D},cu ds=true->d∈ds->flat d=true
 | _::_,_,h,.head _=>by rw[cu,bV]at h;exact h.1
 | _::ds,_,h,.tail _ m=>by rw[cu,bV]at h;exact dG h.2 m
theorem jx:∀{ds:List D},(∀d∈ds,flat d=true)->cu ds=true
 | [],_=>rfl
 | d::ds,h=>by rw[cu,bV];exact⟨h d (.head _),jx fun x hx=>h x (.tail _ hx)⟩
mutual
def eX(h:aQ):D->au->Prop
 | .cM,v=>v = .none
 | .bl b,v=>v = .bool b
 | .int i,v=>∃t,v = .int i t
 | .str x,v=>∃t,v = .str x t
 | .tup ds,v=>∃a items,v = .ref a/\IsTup h a items/\bA h ds items.toList
 | .lst ds,v=>∃a items,v = .ref a/\PlainL h a items/\bA h ds items.toList
 | .bJ _ _,_=>False
def bA(h:aQ):List D->List au->Prop
 | [],vs=>vs=[]
 | d::ds,vs=>∃v r,vs=v::r/\eX h d v/\bA h ds r
end
theorem bA.len:∀{ds:List D} {vs:List au},bA h ds vs->vs.length=ds.length
 | [],_,e=>by rw[bA]at e;subst e;rfl
 | d::ds,_,e=>by
  rw[bA]at e;obtain⟨v,r,rfl,_,q⟩:=e;rw[cK,cK,q.len]
theorem bA.get:∀{ds:List D} {vs:List au} (j:Nat) (hj:j<vs.length),bA h ds vs->eX h (ds.getD j .cM) vs[j]/\ds.getD j .cM∈ds
 | [],_,j,hj,e=>by rw[bA]at e;subst e;exact aY1 hj (jf _)
 | d::ds,_,j,hj,e=>by
  rw[bA]at e;obtain⟨v,r,rfl,q1,q⟩:=e;cases j with
  | zero=>exact⟨q1,.head _⟩
  | succ j=>obtain⟨a,b⟩:=q.get j (by simpa using hj);exact⟨by simpa using a,by simpa using .inr b⟩
mutual
theorem Oa:∀d:D,flat d=true->iJ d d=true
 | .cM,_=>by rw[iJ]
 | .bl b,_=>by rw[iJ];exact aY0 b
 | .int i,_=>by rw[iJ];exact aY0 i
 | .str x,_=>by rw[iJ];exact aY0 x
 | .tup xs,h=>by rw[iJ];rw[flat]at h;exact m9 xs h
 | .lst xs,h=>by rw[iJ];rw[flat]at h;exact m9 xs h
 | .bJ tb xs,h=>by rw[flat]at h;cases h
theorem m9:∀ds:List D,cu ds=true->fD ds ds=true
 | [],_=>by rw[fD]
 | d::ds,h=>by
  rw[cu,bV]at h;rw[fD,Oa d h.1,m9 ds h.2];rfl
end
inductive Vw(h:aQ):D->au->Prop
 | cM:Vw h .cM .none
 | bl (b:Bool):Vw h (.bl b) (.bool b)
 | int (i:Int) (t:Tok):Vw h (.int i) (.int i t)
 | str (x:Str) (t:Tok):Vw h (.str x) (.str x t)
 | tup {ds:List D} {a:av} {bx:Array au} (q:IsTup h a bx) (p:bA h ds bx.toList):Vw h (.tup ds) (.ref a)
 | lst {ds:List D} {a:av} {bx:Array au} (q:PlainL h a bx) (p:bA h ds bx.toList):Vw h (.lst ds) (.ref a)
def vw(x:eX h d u):Vw h d u:=by
 cases d with
 | cM=>rw[eX]at x;subst x;exact .cM
 | bl b=>rw[eX]at x;subst x;exact .bl b
 | int i=>rw[eX]at x;obtain⟨t,rfl⟩:=x;exact .int i t
 | str y=>rw[eX]at x;obtain⟨t,rfl⟩:=x;exact .str y t
 | tup ds=>rw[eX]at x;obtain⟨a,bx,rfl,q,p⟩:=x;exact .tup q p
 | lst ds=>rw[eX]at x;obtain⟨a,bx,rfl,q,p⟩:=x;exact .lst q p
 | bJ _ _=>rw[eX]at x;exact x.elim
def bA.inj(H:∀d∈ds,∀(e:D) (v:au),eX h d v->eX h e v->d=e)(x:bA h ds vs)(y:bA h es vs):ds=es:=by
 induction ds generalizing es vs with
 | nil=>
  rw[bA]at x;subst x;cases es with
  | nil=>rfl
  | cons e es=>rw[bA]at y;obtain⟨_,_,z,_⟩:=y;cases z
 | cons d ds ih=>
  rw[bA]at x;obtain⟨v,r,rfl,p1,p2⟩:=x;cases es with
  | nil=>rw[bA]at y;cases y
  | cons e es=>rw[bA]at y;obtain⟨v',r',z,q1,q2⟩:=y;cases z;rw[H d (.head _) e v p1 q1,ih (fun d hd=>H d (.tail _ hd)) p2 q2]
theorem eX.inj(d e:D)(hu:eX h d v)(hv:eX h e v):d=e:=by
 generalize hn:dep d=n;induction n using Nat.strongRecOn generalizing d e v with
 | ind n ih=>
 have x:=vw hu;have y:=vw hv;clear hu hv;cases x with
 | cM=>cases y;rfl
 | bl b=>cases y;rfl
 | int i t=>cases y;rfl
 | str s t=>cases y;rfl
 | tup q p=>
  rw[dep]at hn;cases y with
  | tup q' p'=>obtain⟨o1,q1,_,n1,d1⟩:=q;obtain⟨o2,q2,_,n2,d2⟩:=q';obtain rfl:=eN (q1.symm.trans q2);rw[d1]at d2;cases d2;rw[bA.inj (fun d hd e v a b=>ih _ (by have:=iy hd;lia) d e a b rfl) p p']
  | lst q' p'=>obtain⟨o1,q1,c1,_⟩:=q;obtain⟨o2,n2,q2,c2,_⟩:=q';obtain rfl:=eN (q1.symm.trans q2);rw[c1]at c2;exact aY1 c2 (by decide)
 | lst q p=>
  rw[dep]at hn;cases y with
  | tup q' p'=>obtain⟨o2,n2,q2,c2,_⟩:=q;obtain⟨o1,q1,c1,_⟩:=q';obtain rfl:=eN (q1.symm.trans q2);rw[c1]at c2;exact aY1 c2 (by decide)
  | lst q' p'=>obtain⟨o1,n1,q1,_,_,d1⟩:=q;obtain⟨o2,n2,q2,_,_,d2⟩:=q';obtain rfl:=eN (q1.symm.trans q2);rw[d1]at d2;cases d2;rw[bA.inj (fun d hd e v a b=>ih _ (by have:=iy hd;lia) d e a b rfl) p p']
open PySem.SeqAt
section
variable {s:ay}
def aN(x:IsTup h a items):h.IsTuple a items:=by
 obtain⟨o,h1,h2,n,h3⟩:=x;exact⟨o,h1,h2,n,h3⟩
def mh{bx jE:Array au}(pu:bA s.heap xs bx.toList)(pv:bA s.heap ys jE.toList)(h:∀(x y:D) (u v:au),x∈xs->y∈ys->eX s.heap x u->eX s.heap y v->EqAt A s u v (iJ x y)):∀j (h1:j<bx.size) (h2:j<jE.size),EqAt A s bx[j] jE[j] (iJ (xs.getD j .cM) (ys.getD j .cM)):=fun j h1 h2=>by
 obtain⟨g1,m1⟩:=pu.get j (by rw[d7];exact h1);obtain⟨g2,m2⟩:=pv.get j (by rw[d7];exact h2);rw[MP]at g1 g2;exact h _ _ _ _ m1 m2 g1 g2
def wN{bx jE:Array au}(pu:bA s.heap xs bx.toList)(pv:bA s.heap ys jE.toList):((cU (min bx.size jE.size)).all (fun j=>iJ (xs.getD j .cM) (ys.getD j .cM))&&(bx.size==jE.size))=fD xs ys:=by
 have lu:bx.size=xs.length:=by rw[<- d7];exact pu.len
 have lv:jE.size=ys.length:=by rw[<- d7];exact pv.len
 by_cases hl:bx.size=jE.size;rw[<- hl,LW,aY0,vX,lu,<- CN (lu.symm.trans (hl.trans lv))];rw[aX6.mpr hl,FP];exact(tE.mpr fun z=>hl (by rw[lu,lv];exact CM z)).symm
def Gr{bx jE:Array au}(pu:bA s.heap xs bx.toList)(pv:bA s.heap ys jE.toList)(hl:bx.size=jE.size):(cU bx.size).all (fun j=>iJ (xs.getD j .cM) (ys.getD j .cM))=fD xs ys:=by
 rw[<- wN pu pv,<- hl,LW,aY0,vX]
def Gs{bx jE:Array au}(pu:bA s.heap xs bx.toList)(pv:bA s.heap ys jE.toList)(hl:¬ bx.size=jE.size):false=fD xs ys:=by
 rw[<- wN pu pv,aX6.mpr hl,FP]
def SR{A:bX}(x:Vw s.heap d u)(y:Vw s.heap e v)(gK:A.units<cLine)(hn:dep d=n)(fx:flat d=true)(fy:flat e=true)
  (ht:∀{xs ys:List D} {a b:av} {bx jE:Array au},dep (.tup xs)=n->cu xs=true->cu ys=true->IsTup s.heap a bx->bA s.heap xs bx.toList->IsTup s.heap b jE->bA s.heap ys jE.toList->EqAt A s (.ref a) (.ref b) (fD xs ys))
  (hl:∀{xs ys:List D} {a b:av} {bx jE:Array au},dep (.lst xs)=n->cu xs=true->cu ys=true->PlainL s.heap a bx->bA s.heap xs bx.toList->PlainL s.heap b jE->bA s.heap ys jE.toList->EqAt A s (.ref a) (.ref b) (fD xs ys)):EqAt A s u v (iJ d e):=by
 cases x with
 | cM=>
  cases y with
  | cM=>exact EqAt.same _
  | bl c=>exact EqAt.none_bool c
  | int j r=>exact EqAt.none_int j r
  | str y r=>exact EqAt.none_str y r
  | tup q' p'=>exact EqAt.none_tuple (aN q') gK
  | lst q' p'=>exact EqAt.none_list q'.isList gK
 | bl b=>
  cases y with
  | cM=>exact EqAt.bool_none b
  | bl c=>exact EqAt.bool_bool b c
  | int j r=>exact EqAt.bool_int b j r
  | str y r=>exact EqAt.bool_str b y r
  | tup q' p'=>exact EqAt.bool_tuple b (aN q') gK
  | lst q' p'=>exact EqAt.bool_list b q'.isList gK
 | int i t=>
  cases y with
  | cM=>exact EqAt.int_none i t
  | bl c=>exact EqAt.int_bool i t c
  | int j r=>exact EqAt.int_int i t j r
  | str y r=>exact EqAt.int_str i t y r
  | tup q' p'=>exact EqAt.int_tuple i t (aN q') gK
  | lst q' p'=>exact EqAt.int_list i t q'.isList gK
 | str x t=>
  cases y with
  | cM=>exact EqAt.str_none x t
  | bl c=>exact EqAt.str_bool x t c
  | int j r=>exact EqAt.str_int x t j r
  | str y r=>exact EqAt.str_str x t y r
  | tup q' p'=>exact EqAt.str_tuple x t (aN q') gK
  | lst q' p'=>exact EqAt.str_list x t q'.isList gK
 | tup q p=>
  cases y with
  | cM=>exact EqAt.tuple_none (aN q) gK
  | bl c=>exact EqAt.tuple_bool c (aN q) gK
  | int j r=>exact EqAt.tuple_int j r (aN q) gK
  | str y r=>exact EqAt.tuple_str y r (aN q) gK
  | tup q' p'=>exact ht hn (by rw[flat]at fx;exact fx) (by rw[flat]at fy;exact fy) q p q' p'
  | lst q' p'=>exact EqAt.tuple_list (aN q) q'.isList gK
 | lst q p=>
  cases y with
  | cM=>exact EqAt.list_none q.isList gK
  | bl c=>exact EqAt.list_bool c q.isList gK
  | int j r=>exact EqAt.list_int j r q.isList gK
  | str y r=>exact EqAt.list_str y r q.isList gK
  | tup q' p'=>exact EqAt.list_tuple q.isList (aN q') gK
  | lst q' p'=>exact hl hn (by rw[flat]at fx;exact fx) (by rw[flat]at fy;exact fy) q p q' p'
def oK(d e:D){A:bX}(fx:flat d=true)(fy:flat e=true)(hu:eX s.heap d u)(hv:eX s.heap e v)(hr:A.units+dep d<cLine):EqAt A s u v (iJ d e):=by
 generalize hn:dep d=n at hr;induction n using Nat.strongRecOn generalizing d e A u v with
 | ind n ih=>
 have gK:A.units<cLine:=qe (F6 _ _) hr;refine SR (vw hu) (vw hv) gK hn fx fy (fun {xs ys a b bx jE} hn fx fy q p q' p'=>?_) (fun {xs ys a b bx jE} hn fx fy q p q' p'=>?_);by_cases uu:a=b;subst uu;have e:D.tup xs=D.tup ys:=eX.inj (h:=s.heap) _ _ (v:=.ref a) (by rw[eX];exact⟨a,bx,rfl,q,p⟩) (by rw[eX];exact⟨a,jE,rfl,q',p'⟩);obtain rfl:xs=ys:=by injection e
 rw[m9 xs fx];exact EqAt.same _;rw[<- wN p p'];exact EqAt.of_refs uu (RcAt.tuples (aN q) (aN q') gK (mh p p' fun x y u v m1 m2 g1 g2=>ih _ (by rw[<- hn,dep];have:=iy m1;lia) _ _ (dG fx m1) (dG fy m2) g1 g2 rfl (by show A.units+1+_<_;rw[<- hn,dep]at hr;have:=iy m1;lia)));by_cases uu:a=b;subst uu;have e:D.lst xs=D.lst ys:=eX.inj (h:=s.heap) _ _ (v:=.ref a) (by rw[eX];exact⟨a,bx,rfl,q,p⟩) (by rw[eX];exact⟨a,jE,rfl,q',p'⟩);obtain rfl:xs=ys:=by injection e
 rw[m9 xs fx];exact EqAt.same _;refine EqAt.of_refs uu ?_;by_cases hl:bx.size=jE.size;rw[<- Gr p p' hl];exact RcAt.lists q.isList q'.isList hl gK (mh p p' fun x y u v m1 m2 g1 g2=>ih _ (by rw[<- hn,dep];have:=iy m1;lia) _ _ (dG fx m1) (dG fy m2) g1 g2 rfl (by show A.units+1+_<_;rw[<- hn,dep]at hr;have:=iy m1;lia));rw[<- Gs p p' hl];exact RcAt.lists_lengths q.isList q'.isList (by simpa using hl) gK
end
end Dm
namespace Sg
open PySem PySem.W PyProof.Rows
noncomputable section
def gal:Bool->Keyed->Array Keyed->Nat->Nat->Nat->StateT bF Sem (Option Nat):=sortPriv% PySem.Builtin.gallop
def mlo:Array Keyed->Array Keyed->StateT bF Sem (Array Keyed):=sortPriv% PySem.Builtin.mergeLo
def mhi:Array Keyed->Array Keyed->StateT bF Sem (Array Keyed):=sortPriv% PySem.Builtin.mergeHi
def smg:Nat->StateT bF Sem Unit:=sortPriv% PySem.Builtin.setMinGallop
def Cm(prog:cS)(w:bI)(A:bX)(s:ay)(kd:gV)(f:Nat->Keyed)(n:Nat)(r:Nat->Nat):Prop:=
 ∀i j C,i<n->j<n->C (decide (r i<r j)) s->aA (aC prog w) A (keyLt' kd (f i).1 (f j).1) C (fun _ _=>False) s
section
variable {prog:cS}{w:bI}{A:bX}{E:au->ay->Prop}{s:ay}{kd:gV}{st:bF}
def CO{Q:Option Bool->bF->Prop}(hc:Cm prog w A s kd f n r)(hk:kindOf st=kd)(hi:i<n)(hj:j<n)(h:Q (some (decide (r i<r j))) st):wpS (aC prog w) A E s (lt' (f i) (f j)) Q st:=by
 rw[lt'_eq];refine aF (lR ?_);rw[hk];refine aF (wpS_lift (nO (gR (hc i j (fun c s'=>s'=s/\c=decide (r i<r j)) hi hj ⟨rfl,rfl⟩) (fun c s' z=>?_) fun _ _ z=>z.elim)));obtain⟨rfl,rfl⟩:=z;exact⟨rfl,aM h⟩
def arr(f:Nat->Keyed)(X:List Nat):Array Keyed:=(X.map f).toArray
def cA(X:List Nat):(arr f X).size=X.length:=by simp[arr]
def gz(X:List Nat)(i j:Nat):(arr f X).extract i j=arr f (X.extract i j):=by simp[arr,fT,Fj,Fl]
def fG(X:List Nat)(x:Nat):(arr f X).push (f x)=arr f (X++[x]):=by simp[arr]
def iz(X Y:List Nat):arr f X++arr f Y=arr f (X++Y):=by simp[arr]
def uW(X:List Nat):(arr f X).reverse=arr f X.reverse:=by simp[arr]
def cV{X:List Nat}{Q:Keyed->bF->Prop}(hi:X[i]?=some x)(h:Q (f x) st):wpS (aC prog w) A E s (elem' (arr f X) i) Q st:=by
 rw[elem'_eq];have:(arr f X)[i]?=some (f x):=by simp[arr,hi]
 rw[this];exact aM h
def AX{Q:Unit->bF->Prop}(h:Q () (SortSt.mk' (kindOf st) (arrOf st) (pendingOf st) g (failedOf st))):wpS (aC prog w) A E s (smg g) Q st:=qm h
def bey(left:Bool)(key:Keyed)(a:Array Keyed)(b i:Nat):StateT bF Sem (Option Bool):=
 elem' a (b+i)>>=fun x=>ite (left=true) (lt' x key) (lt' key x>>=fun c=>pure (c.map not))
def lk(r:Nat->Nat)(left:Bool)(key x:Nat):Bool:=if left then decide (r x<r key)else !decide (r key<r x)
def XZ{Q:Option Bool->bF->Prop}(hc:Cm prog w A s kd f n r)(hk:kindOf st=kd)(hX:∀x∈X,x<n)(AK:key<n)(hi:X[b+i]?=some x)(h:Q (some (lk r left key x)) st) :
  wpS (aC prog w) A E s (bey left (f key) (arr f X) b i) Q st:=by
 unfold bey;have hx:x<n:=hX x (jg hi);refine aF (cV hi ?_);cases left with
 | true=>rw[aW9 rfl];exact CO hc hk hx AK (by simpa[lk]using h)
 | false=>rw[aX0 (by simp)];exact aF (CO hc hk AK hx (aM (by simpa[lk]using h)))
section
variable {B:Nat->Bool}{m:Nat}{Q:Option (Option Nat)×Nat×Nat->bF->Prop}{g:Nat->Option (Option Nat)×Nat×Nat->StateT bF Sem (ForInStep (Option (Option Nat)×Nat×Nat))}
def Wi(mono:∀i j,i<=j->j<m->B j=true->B i=true){lo hi:Nat}
  (hg:∀x lo hi (Q:_->bF->Prop),lo<=hi->hi<=m->(lo ≥ hi->Q (.done (none,lo,hi)) st)->(lo<hi->B (lo+(hi-lo) / 2)=true->Q (.yield (none,lo+(hi-lo) / 2+1,hi)) st)->(lo<hi->B (lo+(hi-lo) / 2)=false->Q (.yield (none,lo,lo+(hi-lo) / 2)) st)->wpS (aC prog w) A E s (g x (none,lo,hi)) Q st)
  (h1:lo<=hi) (h2:hi<=m) (hlo:∀i,i<lo->B i=true) (hhi:∀i,hi<=i->i<m->B i=false)
  (h:∀k,k<=m->(∀i,i<k->B i=true)->(∀i,k<=i->i<m->B i=false)->Q (none,k,k) st):wpS (aC prog w) A E s (forIn [0:m] (none,lo,hi) g) Q st:=by
 refine iA (I:=fun x c st'=>st'=st/\∃lo hi,c=(none,lo,hi)/\lo<=hi/\hi<=m/\hi-lo<=m-x/\(∀i,i<lo->B i=true)/\(∀i,hi<=i->i<m->B i=false)) ?step ?fin ⟨rfl,lo,hi,rfl,h1,h2,by lia,hlo,hhi⟩;case fin=>
  rintro c st' ⟨rfl,lo,hi,rfl,a1,a2,a3,a4,a5⟩;have:lo=hi:=by lia
  subst this;exact h lo a2 a4 a5
 case step=>
  rintro x c st' _ hx ⟨rfl,lo,hi,rfl,a1,a2,a3,a4,a5⟩;refine hg x lo hi _ a1 a2 (fun z=>?_) (fun z b=>?_) fun z b=>?_;have:lo=hi:=by lia
  subst this;exact h lo a2 a4 a5;exact⟨rfl,_,_,rfl,by lia,a2,by lia,fun i Y0=>mono i _ (by lia) (by lia) b,a5⟩;refine⟨rfl,_,_,rfl,by lia,by lia,by lia,a4,fun i h1 h2=>?_⟩;cases q:B i with
  | false=>rfl
  | true=>rw[mono _ i h1 h2 q]at b;cases b
def Wj{D:Nat->Bool}(hmx:mx<=m)
  (hg:∀x l o (Q:_->bF->Prop),1<=o->(o ≥ mx->Q (.done (none,l,o)) st)->(o<mx->D o=false->Q (.done (none,l,o)) st)->(o<mx->D o=true->Q (.yield (none,o,2*o+1)) st)->wpS (aC prog w) A E s (g x (none,l,o)) Q st)
  (h0:D 0=true) (hm:0<mx)
  (h:∀l o,l<o->l<mx->D l=true->(o ≥ mx\/D o=false)->Q (none,l,o) st):wpS (aC prog w) A E s (forIn [0:m] (none,0,1) g) Q st:=by
 refine iA (I:=fun x c st'=>st'=st/\∃l o,c=(none,l,o)/\l<o/\x+1<=o/\l<mx/\D l=true) ?step ?fin ⟨rfl,0,1,rfl,by lia,by lia,hm,h0⟩;case fin=>rintro c st' ⟨rfl,l,o,rfl,a1,a2,a3,a4⟩;exact h l o a1 a3 a4 (.inl (by lia))
 case step=>rintro x c st' _ hx ⟨rfl,l,o,rfl,a1,a2,a3,a4⟩;refine hg x l o _ (by lia) (fun z=>h l o a1 a3 a4 (.inl z)) (fun z b=>h l o a1 a3 a4 (.inr b)) fun z b=>⟨rfl,o,2*o+1,rfl,by lia,by lia,z,b⟩
end
def tL{left:Bool}{key:Nat}{X:List Nat}{b m hint:Nat}{Q:Option Nat->bF->Prop}(hc:Cm prog w A s kd f n r)(hk:kindOf st=kd)(hX:∀x∈X,x<n)(AK:key<n)(hm:b+m<=X.length)(hh:hint<m)
  (mono:∀i j,i<=j->j<m->lk r left key (X.getD (b+j) 0)=true->lk r left key (X.getD (b+i) 0)=true)
  (h:∀k,k<=m->(∀i,i<k->lk r left key (X.getD (b+i) 0)=true)->(∀i,k<=i->i<m->lk r left key (X.getD (b+i) 0)=false)->Q (some k) st) :
  wpS (aC prog w) A E s (gal left (f key) (arr f X) b m hint) Q st:=by
 have look:∀{i:Nat} {Q:Option Bool->bF->Prop},i<m->Q (some (lk r left key (X.getD (b+i) 0))) st->wpS (aC prog w) A E s (bey left (f key) (arr f X) b i) Q st:=fun {i Q} hi q=>by
  have e:X[b+i]?=some (X.getD (b+i) 0):=by
   have:b+i<X.length:=by lia
   simp[this]
  exact XZ hc hk hX AK e q
 generalize hB:(fun i=>lk r left key (X.getD (b+i) 0))=B at *;have hB':∀i,lk r left key (X.getD (b+i) 0)=B i:=fun i=>by rw[<- hB]
 simp only[hB']at mono h look;have step:∀{Q:Option (Option Nat)×Nat×Nat->bF->Prop} {g:Nat->Option (Option Nat)×Nat×Nat->StateT bF Sem (ForInStep (Option (Option Nat)×Nat×Nat))},True:=fun {_ _}=>trivial;refine aF (look hh ?_);cases hr:B hint with
 | true=>
  dsimp only;rw[aW9 rfl];refine aF (Wj (m:=m) (D:=fun o=>B (hint+o)) (mx:=m-hint) (by lia) (fun x l o Q ho q1 q2 q3=>?_) hr (by lia) fun l o a1 a2 a3 a4=>?_);dsimp only;by_cases z:o ≥ m-hint;rw[aW9 z];exact aM (q1 z);rw[aX0 z];refine aF (look (i:=hint+o) (by lia) ?_);cases q:B (hint+o)with
  | true=>simp only[iC,cP,aX7];exact aM (q3 (by lia) q)
  | false=>simp only[Ay,aX8];exact aM (q2 (by lia) q)
  dsimp only;refine aF (Wi (m:=m) mono (fun x lo hi Q g1 g2 q1 q2 q3=>?_) (by lia) (by lia) (fun i hi=>mono i (hint+l) (by lia) (by lia) a3) (fun i h1 h2=>?_) fun k k1 k2 k3=>aM (h k k1 k2 k3));dsimp only;by_cases z:lo ≥ hi;rw[aW9 z];exact aM (q1 z);rw[aX0 z];refine aF (look (i:=lo+(hi-lo) / 2) (by lia) ?_);cases q:B (lo+(hi-lo) / 2)with
  | true=>dsimp only;rw[if_pos rfl];exact aM (q2 (by lia) q)
  | false=>dsimp only;rw[if_neg (by simp)];exact aM (q3 (by lia) q)
  rcases a4 with a4|a4;lia;cases q:B i with
  | false=>rfl
  | true=>rw[mono (hint+o) i (by lia) h2 q]at a4;cases a4
 | false=>
  dsimp only;rw[aX0 (by simp)];refine aF (Wj (m:=m) (D:=fun o=>!B (hint-o)) (mx:=hint+1) (by lia) (fun x l o Q ho q1 q2 q3=>?_) (by simp[hr]) (by lia) fun l o a1 a2 a3 a4=>?_);dsimp only;by_cases z:o ≥ hint+1;rw[aW9 z];exact aM (q1 z);rw[aX0 z];refine aF (look (i:=hint-o) (by lia) ?_);cases q:B (hint-o)with
  | true=>dsimp only;rw[if_pos rfl];exact aM (q2 (by lia) (by simp[q]))
  | false=>dsimp only;rw[if_neg (by simp)];exact aM (q3 (by lia) (by simp[q]))
  dsimp only;have a3:B (hint-l)=false:=by simpa using a3
  refine aF (Wi (m:=m) mono (fun x lo hi Q g1 g2 q1 q2 q3=>?_) (by lia) (by lia) (fun i hi=>?_) (fun i h1 h2=>?_) fun k k1 k2 k3=>aM (h k k1 k2 k3));dsimp only;by_cases z:lo ≥ hi;rw[aW9 z];exact aM (q1 z);rw[aX0 z];refine aF (look (i:=lo+(hi-lo) / 2) (by lia) ?_);cases q:B (lo+(hi-lo) / 2)with
  | true=>dsimp only;rw[if_pos rfl];exact aM (q2 (by lia) q)
  | false=>dsimp only;rw[if_neg (by simp)];exact aM (q3 (by lia) q)
  rcases a4 with a4|a4;lia;have a4:B (hint-o)=true:=by simpa using a4
  by_cases z:o<=hint;exact mono i (hint-o) (by lia) (by lia) a4;lia;cases q:B i with
  | false=>rfl
  | true=>rw[mono (hint-l) i h1 h2 q]at a3;cases a3
end
end
noncomputable section
structure MI(le:Nat->Nat->Prop)(T O xs ys:List Nat):Prop where
 pm:(O++(xs++ys)).Perm T
 so:O.Pairwise le
 sx:xs.Pairwise le
 sy:ys.Pairwise le
 ox:∀o∈O,∀x∈xs,le o x
 oy:∀o∈O,∀y∈ys,le o y
def Dn(le:Nat->Nat->Prop)(T Z:List Nat):Prop:=Z.Perm T/\Z.Pairwise le
def MI.tx(h:MI le T O (u++xs) ys)(hu:∀x∈u,∀y∈ys,le x y):MI le T (O++u) xs ys:=by
 have sx:=vJ.mp h.sx;refine⟨by have:=h.pm;simpa[f9]using this,vJ.mpr ⟨h.so,sx.1,fun o ho x hx=>h.ox o ho x (HW _ hx)⟩,sx.2.1,h.sy,fun o ho x hx=>?_,fun o ho y hy=>?_⟩;rcases gh.mp ho with ho|ho;exact h.ox o ho x (nG _ hx);exact sx.2.2 o ho x hx;rcases gh.mp ho with ho|ho;exact h.oy o ho y hy;exact hu o ho y hy
def MI.swap(h:MI le T O xs ys):MI le T O ys xs:=⟨(N7 O List.perm_append_comm).trans h.pm,h.so,h.sy,h.sx,h.oy,h.ox⟩
def MI.ty(h:MI le T O xs (u++ys))(hu:∀y∈u,∀x∈xs,le y x):MI le T (O++u) xs ys:=(h.swap.tx hu).swap
def MI.fin(h:MI le T O xs ys)(hu:∀x∈xs,∀y∈ys,le x y):Dn le T (O++xs++ys):=
 ⟨by rw[f9];exact h.pm,vJ.mpr ⟨vJ.mpr ⟨h.so,h.sx,h.ox⟩,h.sy,fun o ho y hy=>by
  rcases gh.mp ho with ho|ho;exact h.oy o ho y hy;exact hu o ho y hy⟩⟩
def MI.ap3(h:MI le T O xs ys)(hu:∀y∈ys,∀x∈xs,le y x):Dn le T (O++ys++xs):=h.swap.fin hu
abbrev Le(r:Nat->Nat):Nat->Nat->Prop:=fun a b=>r a<=r b
def j0{X:List Nat}(h:X.Pairwise (Le r))(mK:i<=j)(hj:j<X.length):r (X.getD i 0)<=r (X.getD j 0):=by
 have e:∀k (hk:k<X.length),X.getD k 0=X[k]:=fun k hk=>by simp[hk]
 rw[e i (by lia),e j hj];by_cases c:i=j;subst c;exact aZ _;exact qg.mp h i j (by lia) hj (by lia)
def Ie{X:List Nat}(h:i<X.length):X.drop i=X.getD i 0::X.drop (i+1):=by
 rw[sW h];simp[h]
def j4{X:List Nat}(h:x∈X.drop i):∃j,i<=j/\j<X.length/\x=X.getD j 0:=by
 obtain⟨k,hk,e⟩:=iQ.mp h;rw[vH]at hk;exact⟨i+k,by lia,by lia,by rw[<- e];simp[show i+k<X.length by lia]⟩
def Ig{X:List Nat}(hk:i+k<=X.length)(h:x∈X.extract i (i+k)):∃j,j<k/\x=X.getD (i+j) 0:=by
 obtain⟨q,hq,e⟩:=iQ.mp h;have:q<k:=by simp[fT]at hq;lia
 refine⟨q,this,?_⟩;rw[<- e];simp[fT,show i+q<X.length by lia]
def wO{X:List Nat}:X.drop i=X.extract i (i+k)++X.drop (i+k):=by
 rw[fT,show i+k-i=k by lia,<- List.drop_drop,mR]
def uX{X:List Nat}:X.extract i X.length=X.drop i:=by
 rw[fT,sZ (by simp)]
def get_some{X:List Nat}(h:i<X.length):X[i]?=some (X.getD i 0):=by simp[h]
def get_mem{X:List Nat}(h:i<X.length):X.getD i 0∈X:=jg (get_some h)
structure LI(r:Nat->Nat)(X Y O:List Nat)(ia ib:Nat):Prop where
 a:ia+1<X.length
 b:ib<Y.length
 l:O.length=ia+ib
 m:MI (Le r) (X++Y) O (X.drop ia) (Y.drop ib)
def aE(st st':bF):Prop:=∃g,st'=SortSt.mk' (kindOf st) (arrOf st) (pendingOf st) g (failedOf st)
def aE.refl(st:bF):aE st st:=⟨gallopOf st,rfl⟩
def aE.kd{st st':bF}(h:aE st st'):kindOf st'=kindOf st:=by obtain⟨g,rfl⟩:=h;rfl
def aE.mg{st st':bF}(h:aE st st')(g:Nat):aE st (SortSt.mk' (kindOf st') (arrOf st') (pendingOf st') g (failedOf st')):=by obtain⟨g',rfl⟩:=h;exact⟨g,rfl⟩
section
variable {kd:gV}{st:bF}
def br[Decidable c](h1:c->wpS (aC prog w) A E s a Q st)(h2:¬ c->wpS (aC prog w) A E s b Q st):wpS (aC prog w) A E s (if c then a else b) Q st:=by
 by_cases h:c;rw[aW9 h];exact h1 h;rw[aX0 h];exact h2 h
def RQ:lk r false key x=true↔r x<=r key:=by simp[lk]
def Y3:lk r false key x=false↔r key<r x:=by simp[lk]
def SS:lk r true key x=true↔r x<r key:=by simp[lk]
def SV:lk r true key x=false↔r key<=r x:=by simp[lk]
def RT(e:o=arr f O):o.push (f y)=arr f (O++[y]):=by rw[e,fG]
def pB{Q:Unit->bF->Prop}(h:Q () st):wpS (aC prog w) A E s (liftM (rule x)) Q st:=wpS_lift (vq ⟨rfl,h⟩)
def share{α:Type}{P:α->Prop}{G:Prop}(use:(∀v,P v)->G)(prf:∀v,P v):G:=use prf
def Ob{α β:Type}{P H:α->β->Prop}{G:Prop}(use:(∀a b,H a b->P a b)->G)(prf:∀a b,H a b->P a b):G:=use prf
def Y4{Q:Array Keyed->bF->Prop}(hc:Cm prog w A s kd f n r)(hk:kindOf st=kd)(hX:∀x∈X,x<n)(hY:∀y∈Y,y<n)(sX:X.Pairwise (Le r))(sY:Y.Pairwise (Le r))(lX:0<X.length)(lY:0<Y.length)
  (h0:∀x∈X,r (Y.getD 0 0)<=r x) (hl:∀y∈Y,r y<=r (X.getD (X.length-1) 0)) (h:∀Z st',aE st st'->Dn (Le r) (X++Y) Z->Q (arr f Z) st') :
  wpS (aC prog w) A E s (mlo (arr f X) (arr f Y)) Q st:=by
 have zX:∀{i:Nat},(i==(arr f X).size)=true->i=X.length:=fun z=>by rw[<- cA (f:=f) X];exact aX3.mp z
 have zY:∀{i:Nat},(i==(arr f Y).size)=true->i=Y.length:=fun z=>by rw[<- cA (f:=f) Y];exact aX3.mp z
 have zX':∀{i:Nat},¬ (i==(arr f X).size)=true->i≠X.length:=fun z e=>z (by rw[cA];exact aX3.mpr e);have zY':∀{i:Nat},¬ (i==(arr f Y).size)=true->i≠Y.length:=fun z e=>z (by rw[cA];exact aX3.mpr e);let Gd:Array Keyed->Prop:=fun res=>∃Z,res=arr f Z/\Dn (Le r) (X++Y) Z;have wQ:∀{O ia ib o},o=arr f O->MI (Le r) (X++Y) O (X.drop ia) (Y.drop ib)->(ia=X.length\/ib=Y.length)->Gd (o++(arr f X).extract ia (arr f X).size++(arr f Y).extract ib (arr f Y).size):=fun {O ia ib o} e m q=>by refine⟨O++X.drop ia++Y.drop ib,?_,m.fin fun x hx y hy=>?_⟩;rw[e,gz,gz,cA,cA,uX,uX,iz,iz];rcases q with q|q;rw[q,Ao]at hx;cases hx;rw[q,Ao]at hy;cases hy
 have AY:∀{O ia ib o},o=arr f O->MI (Le r) (X++Y) O (X.drop ia) (Y.drop ib)->ia+1=X.length->Gd (o++(arr f Y).extract ib (arr f Y).size++(arr f X).extract ia (arr f X).size):=fun {O ia ib o} e m q=>by refine⟨O++Y.drop ib++X.drop ia,?_,m.ap3 fun y hy x hx=>?_⟩;rw[e,gz,gz,cA,cA,uX,uX,iz,iz];obtain⟨j,j1,j2,rfl⟩:=j4 hx;rw[show j=X.length-1 by lia];exact hl y (t6 hy)
 have gX:∀i,i<X.length->X.getD i 0<n:=fun i hi=>hX _ (get_mem hi);have gY:∀i,i<Y.length->Y.getD i 0<n:=fun i hi=>hY _ (get_mem hi);have stX:∀{O ia ib},ia<X.length->MI (Le r) (X++Y) O (X.drop ia) (Y.drop ib)->(∀y∈Y.drop ib,r (X.getD ia 0)<=r y)->MI (Le r) (X++Y) (O++[X.getD ia 0]) (X.drop (ia+1)) (Y.drop ib):=fun {O ia ib} hi m q=>by rw[Ie hi]at m;exact MI.tx (u:=[X.getD ia 0]) m fun x hx y hy=>by rw[dQ.mp hx];exact q y hy
 have stY:∀{O ia ib},ib<Y.length->MI (Le r) (X++Y) O (X.drop ia) (Y.drop ib)->(∀x∈X.drop ia,r (Y.getD ib 0)<=r x)->MI (Le r) (X++Y) (O++[Y.getD ib 0]) (X.drop ia) (Y.drop (ib+1)):=fun {O ia ib} hi m q=>by rw[Ie hi]at m;exact MI.ty (u:=[Y.getD ib 0]) m fun x hx y hy=>by rw[dQ.mp hx];exact q y hy
 have M0:MI (Le r) (X++Y) [Y.getD 0 0] (X.drop 0) (Y.drop 1):=
  stY (O:=[]) lY ⟨by simp,.nil,sX,sY,fun o ho=>aY1 ho fE,fun o ho=>aY1 ho fE⟩ fun x hx=>h0 x hx
 refine aF (pB (aF (cV (get_some lY) (br (fun z=>?_) fun z1=>br (fun z=>?_) fun z2=>aF (lR (aF ?_))))));obtain⟨Z,e,d⟩:=wQ (o:=#[f (Y.getD 0 0)]) rfl M0 (.inr (zY z));have q:=h Z st (.refl _) d;rw[<- e]at q;exact aM q;obtain⟨Z,e,d⟩:=AY (o:=#[f (Y.getD 0 0)]) rfl M0 (zX z);have q:=h Z st (.refl _) d;rw[<- e]at q;exact aM q;have z1:=zY' z1;have z2:=zX' z2;refine jL (iA (I:=fun x c st'=>aE st st'/\c.1=none/\∃O,c.2.1=arr f O/\LI r X Y O c.2.2.1 c.2.2.2.1/\x+1<=O.length) (Q:=fun c st'=>aE st st'/\∃res,c.1=some res/\Gd res) ?step ?fin ⟨.refl _,rfl,[Y.getD 0 0],rfl,⟨by show 0+1<_;lia,by show 1<_;lia,rfl,M0⟩,aZ _⟩) ?post;case post=>rintro⟨_,c⟩ st' ⟨S,_,rfl,Z,rfl,d⟩;exact aM (h Z st' S d)
 case fin=>rintro⟨_,_,ia,ib,mg⟩ st' ⟨_,rfl,O,rfl,L,hO⟩;have:=L.a;have:=L.b;have:=L.l;rw[cA,cA]at hO;dsimp only at *;lia
 case step=>
  rintro x ⟨_,_,ia,ib,mg⟩ jU _ hx ⟨S1,rfl,O,rfl,L,hO⟩;refine aF (jL (iA (I:=fun z c st'=>aE st st'/\c.1=none/\∃O',c.2.1=arr f O'/\LI r X Y O' c.2.2.1 c.2.2.2.1/\O.length+z<=O'.length)
   (Q:=fun c st'=>aE st st'/\((∃res,c.1=some res/\Gd res)\/c.1=none/\∃O',c.2.1=arr f O'/\LI r X Y O' c.2.2.1 c.2.2.2.1/\O.length+1<=O'.length)) ?s1 ?f1 ⟨S1,rfl,O,rfl,L,aZ _⟩) ?p1)
  case f1=>rintro⟨_,_,ia,ib,ac,bc⟩ st' ⟨S2,rfl,O',rfl,L',SX⟩;exact⟨S2,.inr ⟨rfl,O',rfl,L',by rw[cA,cA]at SX;lia⟩⟩
  case s1=>
   rintro z ⟨_,_,ia,ib,ac,bc⟩ m8 _ hz ⟨S2,rfl,O',rfl,L',SX⟩;have la:ia+1<X.length:=L'.a;have lb:ib<Y.length:=L'.b;have ll:O'.length=ia+ib:=L'.l;have lm:MI (Le r) (X++Y) O' (X.drop ia) (Y.drop ib):=L'.m;refine aF (cV (get_some lb) (aF (cV (get_some (show ia<X.length by lia)) (aF (CO hc (S2.kd.trans hk) (gY ib lb) (gX ia (by lia)) (br (fun cw=>?_) fun cw=>?_))))));have cw:r (Y.getD ib 0)<r (X.getD ia 0):=aX5 cw;have M2:=stY lb lm fun x hx=>by obtain⟨j,j1,j2,rfl⟩:=j4 hx;have:=j0 sX j1 j2;lia
   refine aF (cV (get_some lb) (br (fun c3=>aM ⟨S2,.inl ⟨_,rfl,wQ (fG _ _) M2 (.inr (zY c3))⟩⟩) fun c3=>?_));have c3:ib+1≠Y.length:=zY' c3;have L2:LI r X Y (O'++[Y.getD ib 0]) ia (ib+1):=⟨la,by lia,by rw[bU,ll];simp;lia,M2⟩
   refine br (fun c4=>aM ⟨S2,.inr ⟨rfl,_,fG _ _,L2,?_⟩⟩) fun c4=>aM ⟨S2,rfl,_,fG _ _,L2,?_⟩ <;> (rw[bU];simp;lia)
   have cw:¬ r (Y.getD ib 0)<r (X.getD ia 0):=fun z=>cw (aX1 z);have M2:=stX (show ia<X.length by lia) lm fun y hy=>by obtain⟨j,j1,j2,rfl⟩:=j4 hy;have:=j0 sY j1 j2;lia
   refine aF (cV (get_some (show ia<X.length by lia)) (br (fun c3=>aM ⟨S2,.inl ⟨_,rfl,AY (fG _ _) M2 (zX c3)⟩⟩) fun c3=>?_));have c3:ia+1+1≠X.length:=zX' c3;have L2:LI r X Y (O'++[X.getD ia 0]) (ia+1) ib:=⟨by lia,lb,by rw[bU,ll];simp;lia,M2⟩
   refine br (fun c4=>aM ⟨S2,.inr ⟨rfl,_,fG _ _,L2,?_⟩⟩) fun c4=>aM ⟨S2,rfl,_,fG _ _,L2,?_⟩ <;> (rw[bU];simp;lia)
  case p1=>
   rintro⟨_,_,ia,ib,ac,bc⟩ m8 ⟨S2,⟨res,rfl,d⟩|⟨rfl,O',rfl,L',SX⟩⟩;exact aM ⟨S2,res,rfl,d⟩;refine aF (pB (aF (jL (iA (I:=fun z c st'=>aE st st'/\c.1=none/\∃kG,c.2.1=arr f kG/\LI r X Y kG c.2.2.1 c.2.2.2.1/\O.length+1<=kG.length)
    (Q:=fun c st'=>aE st st'/\((∃res,c.1=some res/\Gd res)\/c.1=none/\∃kG,c.2.1=arr f kG/\LI r X Y kG c.2.2.1 c.2.2.2.1/\O.length+1<=kG.length)) ?s2 ?f2 ⟨S2,rfl,O',rfl,L',SX⟩) ?p2)))
   case f2=>rintro⟨_,_,ia,ib,mg,ac,bc⟩ st' ⟨S3,rfl,kG,rfl,AZ,Gu⟩;exact⟨S3,.inr ⟨rfl,kG,rfl,AZ,Gu⟩⟩
   case p2=>rintro⟨_,_,ia,ib,mg,ac,bc⟩ Cz ⟨S3,⟨res,rfl,d⟩|⟨rfl,kG,rfl,AZ,Gu⟩⟩;exact aM ⟨S3,res,rfl,d⟩;exact aF (AX (aM ⟨S3.mg _,rfl,kG,rfl,AZ,by lia⟩))
   case s2=>
    rintro z ⟨_,_,ia,ib,mg',ac,bc⟩ Cz _ hz ⟨S3,rfl,kG,rfl,AZ,Gu⟩;have la:ia+1<X.length:=AZ.a;have lb:ib<Y.length:=AZ.b;have ll:kG.length=ia+ib:=AZ.l;have lm:MI (Le r) (X++Y) kG (X.drop ia) (Y.drop ib):=AZ.m;refine share (P:=?P) (fun J=>?use) fun(v:Nat)=>?prf;case use=>refine br (fun cg=>?_) fun cg=>?_;clear cg;generalize mg'-1=v;exact J v;exact J _
    refine aF (AX (aF (cV (get_some lb) (aF (tL (b:=ia) (key:=Y.getD ib 0) (m:=(arr f X).size-ia) hc ((S3.mg _).kd.trans hk) hX (gY ib lb) (by rw[cA];lia) (by rw[cA];lia) (fun i j mK hj q=>?_) fun k k1 k2 k3=>?_)))));rw[cA]at hj;exact RQ.mpr (cj (j0 sX (show ia+i<=ia+j by lia) (by lia)) (RQ.mp q));rw[cA]at k1 k3;have M2:MI (Le r) (X++Y) (kG++X.extract ia (ia+k)) (X.drop (ia+k)) (Y.drop ib):=by have m:=lm;rw[wO (i:=ia) (k:=k)]at m;refine m.tx fun x hx y hy=>?_;obtain⟨j,j1,rfl⟩:=Ig (by lia) hx;obtain⟨j',j2,j3,rfl⟩:=j4 hy;exact cj (RQ.mp (k2 j j1)) (j0 sY j2 j3)
    have Mx:∀x∈X.drop (ia+k),r (Y.getD ib 0)<=r x:=fun x hx=>by obtain⟨j,j1,j2,rfl⟩:=j4 hx;have:=k3 (j-ia) (by lia) (by lia);rw[show ia+(j-ia)=j by lia]at this;exact iO (Y3.mp this)
    have l1:(kG++X.extract ia (ia+k)).length=ia+k+ib:=by rw[bU,ll];simp[fT];lia
    have l2:O.length+1<=(kG++X.extract ia (ia+k)).length:=by lia
    have e2:arr f kG++(arr f X).extract ia (ia+k)=arr f (kG++X.extract ia (ia+k)):=by rw[gz,iz]
    have e0:k=0->arr f kG=arr f (kG++X.extract ia (ia+k)):=fun z=>by rw[z];simp[fT]
    generalize kG++X.extract ia (ia+k)=O1 at *;have M3:=stY lb M2 Mx;have gB:∀x∈X.drop (ia+k),r (X.getD (ia+k) 0)<=r x:=fun x hx=>by obtain⟨j,j1,j2,rfl⟩:=j4 hx;exact j0 sX j1 j2
    refine Ob (P:=?P2) (H:=fun o i=>o=arr f O1/\i=ia+k/\i+1<X.length) (fun J=>?aL8) fun o i hoi=>?aV4;case aL8=>
     refine br (fun ck=>br (fun c3=>aM ⟨S3.mg _,.inl ⟨_,rfl,AY e2 M2 (zX c3)⟩⟩) fun c3=>br (fun c4=>aM ⟨S3.mg _,.inl ⟨_,rfl,wQ e2 M2 (.inl (zX c4))⟩⟩) fun c4=>?_) fun ck=>?_;have c3:ia+k+1≠X.length:=zX' c3;have c4:ia+k≠X.length:=zX' c4;have JL:ia+k+1<X.length:=by lia
     generalize ho:arr f kG++(arr f X).extract ia (ia+k)=o;generalize hi:ia+k=i at JL ⊢;exact J o i ⟨ho.symm.trans e2,hi.symm,JL⟩;have k0:k=0:=by have:¬ k > 0:=ck;lia
     exact J (arr f kG) ia ⟨e0 k0,by lia,la⟩
    obtain⟨rfl,rfl,JL⟩:=hoi;have eo:arr f O1=arr f O1:=rfl;refine aF (cV (get_some lb) (br (fun c5=>aM ⟨S3.mg _,.inl ⟨_,rfl,wQ (RT eo) M3 (.inr (zY c5))⟩⟩) fun c5=>?_));have c5:ib+1≠Y.length:=zY' c5;refine aF (cV (get_some (sQ JL)) (aF (tL (b:=ib+1) (m:=(arr f Y).size-(ib+1)) hc ((S3.mg _).kd.trans hk) hY (gX _ (sQ JL)) (by rw[cA];lia) (by rw[cA];lia) (fun i j mK hj q=>?_) fun k' k1' k2' Wk=>?_)));rw[cA]at hj;exact SS.mpr (qe (j0 sY (show ib+1+i<=ib+1+j by lia) (by lia)) (SS.mp q));rw[cA]at k1' Wk;have l3:(O1++[Y.getD ib 0]++Y.extract (ib+1) (ib+1+k')).length=O1.length+1+k':=by simp[fT];lia
    have M4:=wO (X:=Y) (i:=ib+1) (k:=k')▸M3;have M4:=M4.ty fun y hy x hx=>by obtain⟨j,j1,rfl⟩:=Ig (by lia) hy;exact cj (iO (SS.mp (k2' j j1))) (gB x hx)
    have My:=fun y (hy:y∈Y.drop (ib+1+k'))=>show r (X.getD _ 0)<=r y by obtain⟨j,j1,j2,rfl⟩:=j4 hy;have q:=Wk (j-(ib+1)) (by lia) (by lia);rw[show ib+1+(j-(ib+1))=j by lia]at q;exact SV.mp q
    have M5:=stX (sQ JL) M4 My;have e4:(arr f (O1++[Y.getD ib 0]))++(arr f Y).extract (ib+1) (ib+1+k')=arr f (O1++[Y.getD ib 0]++Y.extract (ib+1) (ib+1+k')):=by rw[gz,iz]
    have e5:k'=0->arr f (O1++[Y.getD ib 0])=arr f (O1++[Y.getD ib 0]++Y.extract (ib+1) (ib+1+k')):=fun z=>by rw[z];simp[fT]
    generalize O1++[Y.getD ib 0]++Y.extract (ib+1) (ib+1+k')=O4 at *;rw[<- RT eo]at e4 e5;refine Ob (P:=?P3) (H:=fun o i=>o=arr f O4/\i=ib+1+k'/\i<Y.length) (fun J=>?aL9) fun o i hoi=>?aV5;case aL9=>
     refine br (fun ck=>br (fun c6=>aM ⟨S3.mg _,.inl ⟨_,rfl,wQ e4 M4 (.inr (zY c6))⟩⟩) fun c6=>?_) fun ck=>?_;have c6:ib+1+k'≠Y.length:=zY' c6;have SY:ib+1+k'<Y.length:=by lia
     generalize ho:((arr f O1).push (f (Y.getD ib 0)))++(arr f Y).extract (ib+1) (ib+1+k')=o;generalize hi:ib+1+k'=i at SY ⊢;exact J o i ⟨ho.symm.trans e4,hi.symm,SY⟩;have k0:k'=0:=by have:¬ k' > 0:=ck;lia
     exact J _ _ ⟨e5 k0,by lia,by lia⟩
    obtain⟨rfl,rfl,SY⟩:=hoi;have eo:arr f O4=arr f O4:=rfl;refine aF (cV (get_some (sQ JL)) (br (fun c7=>aM ⟨S3.mg _,.inl ⟨_,rfl,AY (RT eo) M5 (zX c7)⟩⟩) fun c7=>?_));have c7:=zX' c7;refine br (fun _=>aM ⟨S3.mg _,.inr ⟨rfl,_,RT eo,⟨LX JL c7,SY,?_,M5⟩,?_⟩⟩) fun _=>aM ⟨S3.mg _,rfl,_,RT eo,⟨LX JL c7,SY,?_,M5⟩,?_⟩ <;> (rw[bU,l3,l1];simp;lia)
end
end
noncomputable section
abbrev Ge(r:Nat->Nat):Nat->Nat->Prop:=fun a b=>r b<=r a
abbrev tr(X:List Nat)(i:Nat):List Nat:=(X.take i).reverse
def Wl{X:List Nat}(h0:0<i)(h:i<=X.length):tr X i=X.getD (i-1) 0::tr X (i-1):=by
 obtain⟨j,rfl⟩:∃j,i=j+1:=⟨i-1,by lia⟩
 rw[tr,List.take_succ_eq_append_getElem (by lia),Mj];simp[show j<X.length by lia]
def CP(h:k<=i):tr X i=(X.extract k i).reverse++tr X k:=by
 rw[tr,tr,<- Mj,fT,<- List.take_add,show k+(i-k)=i by lia]
def qw(h:x∈tr X i):∃j,j<i/\j<X.length/\x=X.getD j 0:=by
 obtain⟨k,hk,e⟩:=iQ.mp (qh.mp h);rw[ku]at hk;exact⟨k,by lia,by lia,by rw[<- e];simp[show k<X.length by lia]⟩
def Oc{X:List Nat}(hi:i<=X.length)(h:x∈(X.extract k i).reverse):∃j,k<=j/\j<i/\x=X.getD j 0:=by
 obtain⟨q,hq,e⟩:=iQ.mp (qh.mp h);have SQ:q<i-k:=by simp[fT]at hq;lia
 refine⟨k+q,by lia,by lia,?_⟩;rw[<- e];simp[fT,show k+q<X.length by lia]
def rB{X:List Nat}:X.extract 0 i=X.take i:=by simp[fT]
structure HI(r:Nat->Nat)(X Y O:List Nat)(na nb:Nat):Prop where
 a:0<na
 a':na<=X.length
 b:1<nb
 b':nb<=Y.length
 l:O.length+na+nb=X.length+Y.length
 m:MI (Ge r) (X++Y) O (tr X na) (tr Y nb)
section
variable {kd:gV}{st:bF}
def Y5{Q:Array Keyed->bF->Prop}(hc:Cm prog w A s kd f n r)(hk:kindOf st=kd)(hX:∀x∈X,x<n)(hY:∀y∈Y,y<n)(sX:X.Pairwise (Le r))(sY:Y.Pairwise (Le r))(lX:0<X.length)(lY:0<Y.length)
  (h0:∀x∈X,r (Y.getD 0 0)<=r x) (hl:∀y∈Y,r y<=r (X.getD (X.length-1) 0)) (h:∀Z st',aE st st'->Dn (Le r) (X++Y) Z->Q (arr f Z) st') :
  wpS (aC prog w) A E s (mhi (arr f X) (arr f Y)) Q st:=by
 let Gd:Array Keyed->Prop:=fun res=>∃Z,res=arr f Z/\Dn (Le r) (X++Y) Z;have rv:∀{Z},Dn (Ge r) (X++Y) Z->Dn (Le r) (X++Y) Z.reverse:=fun d=>⟨(Fo _).trans d.1,Fp.mpr d.2⟩
 have wQ:∀{O na nb o},o=arr f O->MI (Ge r) (X++Y) O (tr X na) (tr Y nb)->(na=0\/nb=0)->Gd ((arr f X).extract 0 na++(arr f Y).extract 0 nb++o.reverse):=fun {O na nb o} e m q=>by refine⟨(O++tr Y nb++tr X na).reverse,?_,rv (m.ap3 fun y hy x hx=>?_)⟩;rw[e,gz,gz,uW,rB,rB,iz,iz];simp[tr];rcases q with q|q;rw[q]at hx;simp[tr]at hx;rw[q]at hy;simp[tr]at hy
 have AY:∀{O na nb o},o=arr f O->MI (Ge r) (X++Y) O (tr X na) (tr Y nb)->nb=1->Gd ((arr f Y).extract 0 nb++(arr f X).extract 0 na++o.reverse):=fun {O na nb o} e m q=>by refine⟨(O++tr X na++tr Y nb).reverse,?_,rv (m.fin fun x hx y hy=>?_)⟩;rw[e,gz,gz,uW,rB,rB,iz,iz];simp[tr];obtain⟨j,j1,j2,rfl⟩:=qw hy;rw[show j=0 by lia];exact h0 x (nU (qh.mp hx))
 have gX:∀i,i<X.length->X.getD i 0<n:=fun i hi=>hX _ (get_mem hi);have gY:∀i,i<Y.length->Y.getD i 0<n:=fun i hi=>hY _ (get_mem hi);have stX:∀{O na nb},0<na->na<=X.length->MI (Ge r) (X++Y) O (tr X na) (tr Y nb)->(∀y∈tr Y nb,r y<=r (X.getD (na-1) 0))->MI (Ge r) (X++Y) (O++[X.getD (na-1) 0]) (tr X (na-1)) (tr Y nb):=fun {O na nb} hi Y0 m q=>by rw[Wl hi Y0]at m;exact MI.tx (u:=[X.getD (na-1) 0]) m fun x hx y hy=>by rw[dQ.mp hx];exact q y hy
 have stY:∀{O na nb},0<nb->nb<=Y.length->MI (Ge r) (X++Y) O (tr X na) (tr Y nb)->(∀x∈tr X na,r x<=r (Y.getD (nb-1) 0))->MI (Ge r) (X++Y) (O++[Y.getD (nb-1) 0]) (tr X na) (tr Y (nb-1)):=fun {O na nb} hi Y0 m q=>by rw[Wl hi Y0]at m;exact MI.ty (u:=[Y.getD (nb-1) 0]) m fun x hx y hy=>by rw[dQ.mp hx];exact q y hy
 have upX:∀{na x},na<=X.length->x∈tr X na->r x<=r (X.getD (na-1) 0):=fun {na x} hi hx=>by obtain⟨j,j1,j2,rfl⟩:=qw hx;exact j0 sX (by lia) (by lia)
 have upY:∀{nb y},nb<=Y.length->y∈tr Y nb->r y<=r (Y.getD (nb-1) 0):=fun {nb y} hi hy=>by obtain⟨j,j1,j2,rfl⟩:=qw hy;exact j0 sY (by lia) (by lia)
 have M0:MI (Ge r) (X++Y) [X.getD (X.length-1) 0] (tr X (X.length-1)) (tr Y Y.length):=
  stX (O:=[]) lX (aZ _) ⟨by simp only[tr,vK,dw];exact(Fo _).append (Fo _),.nil,by simpa only[tr,vK]using Fp.mpr sX,by simpa only[tr,vK]using Fp.mpr sY,fun o ho=>aY1 ho fE,fun o ho=>aY1 ho fE⟩ fun y hy=>hl y (nU (qh.mp hy))
 have sx:=cA (f:=f) X;have sy:=cA (f:=f) Y;refine aF (pB (aF (cV (i:=(arr f X).size-1) (by rw[sx];exact get_some (by lia)) (br (fun z=>?_) fun z1=>br (fun z=>?_) fun z2=>aF (lR (aF ?_))))));obtain⟨Z,e,d⟩:=wQ (o:=#[f (X.getD (X.length-1) 0)]) rfl M0 (.inl (by rw[<- sx];exact aX3.mp z));have q:=h Z st (.refl _) d;rw[<- e]at q;exact aM (by rw[sx,sy];exact q);obtain⟨Z,e,d⟩:=AY (o:=#[f (X.getD (X.length-1) 0)]) rfl M0 (by rw[<- sy];exact aX3.mp z);have q:=h Z st (.refl _) d;rw[<- e]at q;exact aM (by rw[sx,sy];exact q);have z1:X.length-1≠0:=fun e=>z1 (by show((arr f X).size-1==0)=true;rw[sx];exact aX3.mpr e);have z2:Y.length≠1:=fun e=>z2 (by rw[sy];exact aX3.mpr e);refine jL (iA (I:=fun x c st'=>aE st st'/\c.1=none/\∃O,c.2.2.2.1=arr f O/\HI r X Y O c.2.1 c.2.2.1/\x+1<=O.length) (Q:=fun c st'=>aE st st'/\∃res,c.1=some res/\Gd res) ?step ?fin ?init) ?post;case init=>exact⟨.refl _,rfl,[X.getD (X.length-1) 0],rfl,by
  show HI r X Y _ ((arr f X).size-1) (arr f Y).size;rw[sx,sy];exact⟨by lia,by lia,by lia,aZ _,by simp;lia,M0⟩,aZ _⟩
 case post=>rintro⟨_,c⟩ st' ⟨S,_,rfl,Z,rfl,d⟩;exact aM (h Z st' S d)
 case fin=>rintro⟨_,na,nb,_,mg⟩ st' ⟨_,rfl,O,rfl,L,hO⟩;have:=L.a;have:=L.b;have:=L.l;rw[sx,sy]at hO;dsimp only at *;lia
 case step=>
  rintro x ⟨_,na,nb,_,mg⟩ jU _ hx ⟨S1,rfl,O,rfl,L,hO⟩;refine aF (jL (iA (I:=fun z c st'=>aE st st'/\c.1=none/\∃O',c.2.2.2.1=arr f O'/\HI r X Y O' c.2.1 c.2.2.1/\O.length+z<=O'.length)
   (Q:=fun c st'=>aE st st'/\((∃res,c.1=some res/\Gd res)\/c.1=none/\∃O',c.2.2.2.1=arr f O'/\HI r X Y O' c.2.1 c.2.2.1/\O.length+1<=O'.length)) ?s1 ?f1 ⟨S1,rfl,O,rfl,L,aZ _⟩) ?p1)
  case f1=>rintro⟨_,na,nb,_,ac,bc⟩ st' ⟨S2,rfl,O',rfl,L',SX⟩;exact⟨S2,.inr ⟨rfl,O',rfl,L',by rw[sx,sy]at SX;lia⟩⟩
  case s1=>
   rintro z ⟨_,na,nb,_,ac,bc⟩ m8 _ hz ⟨S2,rfl,O',rfl,L',SX⟩;have la:0<na:=L'.a;have RU:na<=X.length:=L'.a';have lb:1<nb:=L'.b;have lb':nb<=Y.length:=L'.b';have ll:O'.length+na+nb=X.length+Y.length:=L'.l;have lm:MI (Ge r) (X++Y) O' (tr X na) (tr Y nb):=L'.m;have ga:na-1<X.length:=by lia
   have gb:nb-1<Y.length:=by lia
   refine aF (cV (get_some gb) (aF (cV (get_some ga) (aF (CO hc (S2.kd.trans hk) (gY (nb-1) gb) (gX (na-1) ga) (br (fun cw=>?_) fun cw=>?_))))));have cw:r (Y.getD (nb-1) 0)<r (X.getD (na-1) 0):=aX5 cw;have M2:=stX la RU lm fun y hy=>cj (upY lb' hy) (iO cw);refine aF (cV (get_some ga) (br (fun c3=>aM ⟨S2,.inl ⟨_,rfl,wQ (fG _ _) M2 (.inl (aX3.mp c3))⟩⟩) fun c3=>?_));have c3:na-1≠0:=fun e=>c3 (aX3.mpr e);have L2:HI r X Y (O'++[X.getD (na-1) 0]) (na-1) nb:=⟨by lia,by lia,lb,lb',by rw[bU];simp;lia,M2⟩
   refine br (fun c4=>aM ⟨S2,.inr ⟨rfl,_,fG _ _,L2,?_⟩⟩) fun c4=>aM ⟨S2,rfl,_,fG _ _,L2,?_⟩ <;> (rw[bU];simp;lia)
   have cw:¬ r (Y.getD (nb-1) 0)<r (X.getD (na-1) 0):=fun z=>cw (aX1 z);have M2:=stY (by lia) lb' lm fun x hx=>cj (upX RU hx) (lK cw);refine aF (cV (get_some gb) (br (fun c3=>aM ⟨S2,.inl ⟨_,rfl,AY (fG _ _) M2 (aX3.mp c3)⟩⟩) fun c3=>?_));have c3:nb-1≠1:=fun e=>c3 (aX3.mpr e);have L2:HI r X Y (O'++[Y.getD (nb-1) 0]) na (nb-1):=⟨la,RU,by lia,by lia,by rw[bU];simp;lia,M2⟩
   refine br (fun c4=>aM ⟨S2,.inr ⟨rfl,_,fG _ _,L2,?_⟩⟩) fun c4=>aM ⟨S2,rfl,_,fG _ _,L2,?_⟩ <;> (rw[bU];simp;lia)
  case p1=>
   rintro⟨_,na,nb,_,ac,bc⟩ m8 ⟨S2,⟨res,rfl,d⟩|⟨rfl,O',rfl,L',SX⟩⟩;exact aM ⟨S2,res,rfl,d⟩;refine aF (pB (aF (jL (iA (I:=fun z c st'=>aE st st'/\c.1=none/\∃kG,c.2.2.2.1=arr f kG/\HI r X Y kG c.2.1 c.2.2.1/\O.length+1<=kG.length)
    (Q:=fun c st'=>aE st st'/\((∃res,c.1=some res/\Gd res)\/c.1=none/\∃kG,c.2.2.2.1=arr f kG/\HI r X Y kG c.2.1 c.2.2.1/\O.length+1<=kG.length)) ?s2 ?f2 ⟨S2,rfl,O',rfl,L',SX⟩) ?p2)))
   case f2=>rintro⟨_,na,nb,_,mg,ac,bc⟩ st' ⟨S3,rfl,kG,rfl,AZ,Gu⟩;exact⟨S3,.inr ⟨rfl,kG,rfl,AZ,Gu⟩⟩
   case p2=>rintro⟨_,na,nb,_,mg,ac,bc⟩ Cz ⟨S3,⟨res,rfl,d⟩|⟨rfl,kG,rfl,AZ,Gu⟩⟩;exact aM ⟨S3,res,rfl,d⟩;exact aF (AX (aM ⟨S3.mg _,rfl,kG,rfl,AZ,by lia⟩))
   case s2=>
    rintro z ⟨_,na,nb,_,mg',ac,bc⟩ Cz _ hz ⟨S3,rfl,kG,rfl,AZ,Gu⟩;have la:0<na:=AZ.a;have RU:na<=X.length:=AZ.a';have lb:1<nb:=AZ.b;have lb':nb<=Y.length:=AZ.b';have ll:kG.length+na+nb=X.length+Y.length:=AZ.l;have lm:MI (Ge r) (X++Y) kG (tr X na) (tr Y nb):=AZ.m;have gb:nb-1<Y.length:=by lia
    refine share (P:=?P) (fun J=>?use) fun(v:Nat)=>?prf;case use=>refine br (fun cg=>?_) fun cg=>?_;clear cg;generalize mg'-1=v;exact J v;exact J _
    refine aF (AX (aF (cV (get_some gb) (aF (tL (b:=0) (key:=Y.getD (nb-1) 0) (m:=na) (hint:=na-1) hc ((S3.mg _).kd.trans hk) hX (gY (nb-1) gb) (by lia) (by lia) (fun i j mK hj q=>?_) fun k k1 k2 k3=>?_)))));exact RQ.mpr (cj (j0 sX (show 0+i<=0+j by lia) (by lia)) (RQ.mp q));simp only[kq]at k2 k3;have M2:MI (Ge r) (X++Y) (kG++(X.extract k na).reverse) (tr X k) (tr Y nb):=by have m:=lm;rw[CP k1]at m;refine m.tx fun x hx y hy=>?_;obtain⟨j,j1,j2,rfl⟩:=Oc RU hx;exact cj (upY lb' hy) (iO (Y3.mp (k3 j j1 j2)))
    have Mx:∀x∈tr X k,r x<=r (Y.getD (nb-1) 0):=fun x hx=>by obtain⟨j,j1,j2,rfl⟩:=qw hx;exact RQ.mp (k2 j j1)
    have l1:(kG++(X.extract k na).reverse).length+k+nb=X.length+Y.length:=by rw[bU,Ml];simp[fT];lia
    have l2:O.length+1<=(kG++(X.extract k na).reverse).length:=by lia
    have e2:arr f kG++((arr f X).extract k na).reverse=arr f (kG++(X.extract k na).reverse):=by rw[gz,uW,iz]
    have e0:na=k->arr f kG=arr f (kG++(X.extract k na).reverse):=fun z=>by rw[z];simp[fT]
    generalize kG++(X.extract k na).reverse=O1 at *;have M3:=stY (by lia) lb' M2 Mx;refine br (fun ck=>br (fun c3=>aM ⟨S3.mg _,.inl ⟨_,rfl,wQ e2 M2 (.inl (aX3.mp c3))⟩⟩) fun c3=>?_) fun ck=>?_;have JL:0<k:=by have c3:k≠0:=fun e=>c3 (aX3.mpr e);lia
    have eo:=e2;rotate_left;obtain rfl:na=k:=by have:¬ na-k > 0:=ck;lia
    have JL:=la;have eo:=e0 rfl;all_goals
     refine aF (cV (get_some gb) (br (fun c5=>aM ⟨S3.mg _,.inl ⟨_,rfl,AY (RT eo) M3 (aX3.mp c5)⟩⟩) fun c5=>?_))
     have c5:nb-1≠1:=fun e=>c5 (aX3.mpr e)
     have ga:=i6 (Nat.sub_lt JL Nat.zero_lt_one) (cj k1 RU)
     refine aF (cV (get_some ga) (aF (tL (b:=0) (m:=nb-1) (hint:=nb-1-1) hc ((S3.mg _).kd.trans hk) hY (gX _ ga) (by lia) (by lia) (fun i j mK hj q=>?_) fun k' k1' k2' Wk=>?_)))
     ·exact SS.mpr (qe (j0 sY (show 0+i<=0+j by lia) (by lia)) (SS.mp q))
     simp only[kq]at k2' Wk
     have l3:(O1++[Y.getD (nb-1) 0]++(Y.extract k' (nb-1)).reverse).length=O1.length+1+(nb-1-k'):=by simp[fT];lia
     have M4:=CP (X:=Y) k1'▸M3
     have M4:=M4.ty fun y hy x hx=>by
      obtain⟨j,j1,j2,rfl⟩:=Oc (by lia) hy
      exact cj (upX (cj k1 RU) hx) (SV.mp (Wk j j1 j2))
     have My:=fun y (hy:y∈tr Y k')=>show r y<=r (X.getD _ 0) by
      obtain⟨j,j1,j2,rfl⟩:=qw hy
      exact iO (SS.mp (k2' j j1))
     have M5:=stX JL (cj k1 RU) M4 My
     have e4:arr f (O1++[Y.getD (nb-1) 0])++((arr f Y).extract k' (nb-1)).reverse=arr f (O1++[Y.getD (nb-1) 0]++(Y.extract k' (nb-1)).reverse):=by rw[gz,uW,iz]
     have e5:nb-1=k'->arr f (O1++[Y.getD (nb-1) 0])=arr f (O1++[Y.getD (nb-1) 0]++(Y.extract k' (nb-1)).reverse):=fun z=>by rw[<- z];simp[fT]
     generalize O1++[Y.getD (nb-1) 0]++(Y.extract k' (nb-1)).reverse=O4 at *
     rw[<- RT eo]at e4 e5
     refine br (fun ck=>br (fun c6=>aM ⟨S3.mg _,.inl ⟨_,rfl,AY e4 M4 (aX3.mp c6)⟩⟩) fun c6=>br (fun c7=>aM ⟨S3.mg _,.inl ⟨_,rfl,wQ e4 M4 (.inr (aX3.mp c7))⟩⟩) fun c7=>?_) fun ck=>?_
     have SY:1<k':=by
      have c6:k'≠1:=fun e=>c6 (aX3.mpr e)
      have c7:k'≠0:=fun e=>c7 (aX3.mpr e)
      lia
     have eo:=e4
     rotate_left
     obtain rfl:nb-1=k':=by
      have:¬ nb-1-k' > 0:=ck
      lia
     have SY:1<nb-1:=by lia
     have eo:=e5 rfl
     all_goals
      refine aF (cV (get_some ga) (br (fun c8=>aM ⟨S3.mg _,.inl ⟨_,rfl,wQ (RT eo) M5 (.inl (aX3.mp c8))⟩⟩) fun c8=>?_))
      have c8:=fun e=>c8 (aX3.mpr e)
      refine br (fun _=>aM ⟨S3.mg _,.inr ⟨rfl,_,RT eo,⟨F7 c8,cj (Nat.sub_le _ _) (cj k1 RU),SY,cj k1' (by lia),?_,M5⟩,?_⟩⟩) fun _=>aM ⟨S3.mg _,rfl,_,RT eo,⟨F7 c8,cj (Nat.sub_le _ _) (cj k1 RU),SY,cj k1' (by lia),?_,M5⟩,?_⟩ <;> (rw[bU,l3];simp;lia)
end
end
noncomputable section
def Od{B:List Nat}(h:i<B.length):(P++(B++R)).getD (P.length+i) 0=B.getD i 0:=by
 simp[mS,jK,lN,h]
def Ih{P B:List Nat}(hi:i=P.length)(hj:j=P.length+B.length):(P++(B++R)).extract i j=B:=by
 subst hi;subst hj;simp[fT]
theorem Oe:∀(L U V R:List Keyed) (k:Nat),U.length=sa+k->V.length=L.length->(L.zipIdx k).foldl (fun a (q:Keyed×Nat)=>a.setIfInBounds (sa+q.2) q.1) (U++(V++R)).toArray=(U++(L++R)).toArray
 | [],U,V,R,k,_,hv=>by
  have:V=[]:=nV.mp hv;subst this;rfl
 | l::L,U,[],R,k,_,hv=>by simp at hv
 | l::L,U,v::V,R,k,hu,hv=>by
  rw[List.zipIdx_cons,Mm];have e:(U++(v::V++R)).toArray.setIfInBounds (sa+k) l=((U++[l])++(V++R)).toArray:=by rw[<- hu];simp[List.set_append]
  show List.foldl _ ((U++(v::V++R)).toArray.setIfInBounds (sa+k) l) _=_;rw[e,Oe L (U++[l]) V R (k+1) (by simp;lia) (by simpa using hv)];simp
def tM{X Y:List Nat}:(X++Y).Pairwise le↔X.Pairwise le/\Y.Pairwise le/\∀a∈X,∀b∈Y,le a b:=vJ
def B0{X:List Nat}{x:Nat}(h:x∈X):∃j,j<X.length/\x=X.getD j 0:=by
 obtain⟨j,hj,e⟩:=iQ.mp h;exact⟨j,hj,by rw[<- e];simp[hj]⟩
section
variable {kd:gV}
def Y6{st st':bF}{Q:PUnit->bF->Prop}(h:Q ⟨⟩ st'):wpS (aC prog w) A E s (set st':StateT bF Sem PUnit) Q st:=by
 unfold wpS;rw[StateT.run_set];exact aB ⟨rfl,h⟩
structure Wt(kd:gV)(f:Nat->Keyed)(p:List Nat)(pe:Array (Nat×Nat×Nat))(st:bF):Prop where
 k:kindOf st=kd
 a:arrOf st=arr f p
 p:pendingOf st=pe
 e:failedOf st=none
def Y7{i sa na nb pw pw':Nat}{P1 B1 B2 P2:List Nat}{pe:Array (Nat×Nat×Nat)}{st:bF}{Q:Bool->bF->Prop}(hc:Cm prog w A s kd f n r)(W:Wt kd f (P1++(B1++(B2++P2))) pe st)(hp:∀x∈P1++(B1++(B2++P2)),x<n)
  (e1:pe[i]?=some (sa,na,pw)) (e2:pe[i+1]?=some (sa+na,nb,pw')) (hs:P1.length=sa) (ha:B1.length=na) (hb:B2.length=nb) (h1:0<na) (h2:0<nb) (s1:B1.Pairwise (Le r)) (s2:B2.Pairwise (Le r))
  (h:∀M st',M.Perm (B1++B2)->M.Pairwise (Le r)->Wt kd f (P1++(M++P2)) ((pe.setIfInBounds i (sa,na+nb,pw)).eraseIdxIfInBounds (i+1)) st'->Q true st'):wpS (aC prog w) A E s (mergeAt' i) Q st:=by
 obtain⟨Wm,a',p',g,e'⟩:=st;obtain rfl:Wm=kd:=W.k;obtain rfl:a'=arr f (P1++(B1++(B2++P2))):=W.a;obtain rfl:p'=pe:=W.p;obtain rfl:e'=none:=W.e;refine aF (lR ?_);dsimp only;rw[e1,e2];refine aF (Y6 ?_);generalize hpe:(p'.setIfInBounds i (sa,na+nb,pw)).eraseIdxIfInBounds (i+1)=pe2 at *;have W2:∀{p g},Wt Wm f p pe2 (SortSt.mk' Wm (arr f p) pe2 g none):=⟨rfl,rfl,rfl,rfl⟩
 have gA:∀i,i<na->(P1++(B1++(B2++P2))).getD (sa+i) 0=B1.getD i 0:=fun i hi=>by rw[<- hs];exact Od (by lia)
 have gB:∀i,i<nb->(P1++(B1++(B2++P2))).getD (sa+na+i) 0=B2.getD i 0:=fun i hi=>by rw[<- f9,<- hs,<- ha,<- bU];exact Od (by lia)
 have gB0:=gB 0 h2;rw[F8]at gB0;have lp:(P1++(B1++(B2++P2))).length=sa+na+nb+P2.length:=by simp;lia
 have hk:B2.getD 0 0<n:=by rw[<- gB0];exact hp _ (get_mem (by lia))
 refine aF (cV (x:=B2.getD 0 0) (by rw[get_some (by lia),gB0]) (aF (tL (b:=sa) (m:=na) (hint:=0) hc rfl hp hk (by lia) h1 (fun i j mK hj q=>?_) fun k k1 k2 k3=>?_)));rw[gA i (by lia)];rw[gA j hj]at q;exact RQ.mpr (cj (j0 s1 mK (by lia)) (RQ.mp q));have low:∀b∈B2,r (B2.getD 0 0)<=r b:=fun b n6=>by obtain⟨j,j1,rfl⟩:=B0 n6;exact j0 s2 (gI _) j1
 refine br (fun z=>aM (h (B1++B2) _ (.refl _) (tM.mpr ⟨s1,s2,fun a RV b n6=>?_⟩) (by rw[f9];exact W2))) fun z=>?_;have z:na-k=0:=aX3.mp z;obtain⟨j,j1,rfl⟩:=B0 RV;have:=k2 j (by lia);rw[gA j (by lia)]at this;exact cj (RQ.mp this) (low b n6);have z:na-k≠0:=fun e=>z (aX3.mpr e);have gl:(P1++(B1++(B2++P2))).getD (sa+k+(na-k)-1) 0=B1.getD (na-1) 0:=by rw[show sa+k+(na-k)-1=sa+(na-1) by lia];exact gA _ (by lia)
 have hk2:B1.getD (na-1) 0<n:=by rw[<- gl];exact hp _ (get_mem (by lia))
 refine aF (cV (x:=B1.getD (na-1) 0) (by rw[get_some (by lia),gl]) (aF (tL (b:=sa+na) (m:=nb) (hint:=nb-1) hc rfl hp hk2 (by lia) (by lia) (fun i j mK hj q=>?_) fun k' k1' k2' Wk=>?_)));rw[gB i (by lia)];rw[gB j hj]at q;exact SS.mpr (qe (j0 s2 mK (by lia)) (SS.mp q));have top:∀a∈B1,r a<=r (B1.getD (na-1) 0):=fun a RV=>by obtain⟨j,j1,rfl⟩:=B0 RV;exact j0 s1 (by lia) (by lia)
 refine br (fun z=>aM (h (B1++B2) _ (.refl _) (tM.mpr ⟨s1,s2,fun a RV b n6=>?_⟩) (by rw[f9];exact W2))) fun z'=>?_;have z:k'=0:=aX3.mp z;obtain⟨j,j1,rfl⟩:=B0 n6;have:=Wk j (by lia) (by lia);rw[gB j (by lia)]at this;exact cj (top a RV) (SV.mp this);have z':k'≠0:=fun e=>z' (aX3.mpr e);have sp1:B1.take k++B1.drop k=B1:=mR _ _;have sp2:B2.take k'++B2.drop k'=B2:=mR _ _;have e3:(P1++(B1++(B2++P2)))=(P1++B1.take k)++(B1.drop k++(B2++P2)):=by rw[f9,<- f9 (B1.take k),sp1]
 have e4:(P1++(B1++(B2++P2)))=(P1++B1)++(B2.take k'++(B2.drop k'++P2)):=by rw[<- f9 (B2.take k'),sp2,f9]
 have x1:(arr f (P1++(B1++(B2++P2)))).extract (sa+k) (sa+na)=arr f (B1.drop k):=by rw[gz,e3,Ih (by simp;lia) (by simp;lia)]
 have x2:(arr f (P1++(B1++(B2++P2)))).extract (sa+na) (sa+na+k')=arr f (B2.take k'):=by rw[gz,e4,Ih (by simp;lia) (by simp;lia)]
 have t1:=tM.mp (sp1.symm▸s1);have t2:=tM.mp (sp2.symm▸s2);have m1:∀x∈B1.drop k,r (B2.getD 0 0)<r x:=fun x hx=>by obtain⟨j,j1,j2,rfl⟩:=j4 hx;have:=k3 j j1 (by lia);rw[gA j (by lia)]at this;exact Y3.mp this
 have m2:∀y∈B2.take k',r y<r (B1.getD (na-1) 0):=fun y hy=>by obtain⟨j,j1,j2,rfl⟩:=qw (qh.mpr hy);have:=k2' j j1;rw[gB j (by lia)]at this;exact SS.mp this
 have m3:∀y∈B2.drop k',r (B1.getD (na-1) 0)<=r y:=fun y hy=>by obtain⟨j,j1,j2,rfl⟩:=j4 hy;have:=Wk j j1 (by lia);rw[gB j (by lia)]at this;exact SV.mp this
 have m0:∀x∈B1.take k,r x<=r (B2.getD 0 0):=fun x hx=>by obtain⟨j,j1,j2,rfl⟩:=qw (qh.mpr hx);have:=k2 j j1;rw[gA j (by lia)]at this;exact RQ.mp this
 have q0:(B2.take k').getD 0 0=B2.getD 0 0:=by simp[mS,Fq,F7 z']
 have ql:(B1.drop k).getD ((B1.drop k).length-1) 0=B1.getD (na-1) 0:=by simp only[mS,Mn,vH,ha];rw[show k+(na-k-1)=na-1 by lia]
 have fin:∀Z st',aE (SortSt.mk' Wm (arr f (P1++(B1++(B2++P2)))) pe2 g none) st'->Dn (Le r) (B1.drop k++B2.take k') Z->wpS (aC prog w) A E s
   (modify (fun st=>setArr st ((arr f Z).toList.zipIdx.foldl (fun a (q:Keyed×Nat)=>a.setIfInBounds (sa+k+q.2) q.1) (arrOf st)))>>=fun _=>get>>=fun st=>pure (failedOf st).isNone) Q st':=fun Z st' S d=>by
  obtain⟨g',rfl⟩:=S
  refine aF (qm (aF (lR (aM (h (B1.take k++(Z++B2.drop k')) _ ?_ ?_ ?_)))))
  ·have:(B1.take k++(Z++B2.drop k')).Perm (B1.take k++((B1.drop k++B2.take k')++B2.drop k')):=(d.1.append_right _).append_left _
   refine this.trans ?_
   rw[f9,sp2,<- f9,sp1]
  ·have inZ:∀z∈Z,r (B2.getD 0 0)<=r z/\r z<=r (B1.getD (na-1) 0):=fun z hz=>by
    rcases gh.mp (d.1.mem_iff.mp hz)with hz|hz
    ·exact⟨iO (m1 z hz),top z (t6 hz)⟩
    ·exact⟨low z (nU hz),iO (m2 z hz)⟩
   refine tM.mpr ⟨t1.1,tM.mpr ⟨d.2,t2.2.1,fun z hz b n6=>cj (inZ z hz).2 (m3 b n6)⟩,fun a RV b n6=>?_⟩
   rcases gh.mp n6 with n6|n6
   ·exact cj (m0 a RV) (inZ b n6).1
   ·exact cj (m0 a RV) (low b (t6 n6))
  ·have lz:Z.length=(B1.drop k++B2.take k').length:=d.1.length_eq
   have:=Oe (sa:=sa+k) (Z.map f) ((P1++B1.take k).map f) ((B1.drop k++B2.take k').map f) ((B2.drop k'++P2).map f) 0 (by simp;lia) (by simp[lz])
   have e5:(P1++B1.take k).map f++((B1.drop k++B2.take k').map f++(B2.drop k'++P2).map f)=(P1++(B1++(B2++P2))).map f:=by
    rw[<- gu,<- gu,e3,f9 (B1.drop k),<- f9 (B2.take k'),sp2]
   rw[e5]at this
   refine⟨rfl,?_,rfl,rfl⟩
   show(arr f Z).toList.zipIdx.foldl _ (arr f (P1++(B1++(B2++P2))))=_
   unfold arr
   rw[this,<- gu,<- gu]
   simp only[f9]
 rw[x1,x2];refine br (fun _=>aF ?_) fun _=>aF ?_;exact Y4 hc rfl (fun x hx=>hp x (by simp[t6 hx])) (fun x hx=>hp x (by simp[nU hx])) t1.2.1 t2.1 (by simp;lia) (by simp;lia) (fun x hx=>by rw[q0];exact iO (m1 x hx)) (fun y hy=>by rw[ql];exact iO (m2 y hy)) fin;exact Y5 hc rfl (fun x hx=>hp x (by simp[t6 hx])) (fun x hx=>hp x (by simp[nU hx])) t1.2.1 t2.1 (by simp;lia) (by simp;lia) (fun x hx=>by rw[q0];exact iO (m1 x hx)) (fun y hy=>by rw[ql];exact iO (m2 y hy)) fin
end
end
end Sg
namespace So
open PySem PySem.W PyProof.Rows
def rev_getD{p:Array Nat}(hj:j<=p.size)(k:Nat):(kas_rev p i j).getD k 0=if i<=k/\k<j then p.getD (i+j-1-k) 0 else p.getD k 0:=by
 rw[iR];unfold kas_rev;rw[getElem?_mirror_all hj];split <;> rw[iR]
def Of(p:Array Nat)(i j:Nat):(kas_rev p i j).Perm p:=mirror_perm _ _ _ _
end So
namespace Sg
open PySem PySem.W PyProof.Rows
noncomputable section
def Ii(p:List Nat)(i j:Nat):List Nat:=(kas_rev p.toArray i j).toList
def Y8(p:List Nat)(k d:Nat):List Nat:=(bubble p.toArray k d).toList
def B3(p:List Nat)(k:Nat):p.toArray.getD k 0=p.getD k 0:=by simp[mS,iR]
def uv(p:Array Nat)(k:Nat):p.toList.getD k 0=p.getD k 0:=by simp[mS,iR]
def B4{p:List Nat}(h:j<=p.length)(k:Nat):(Ii p i j).getD k 0=if i<=k/\k<j then p.getD (i+j-1-k) 0 else p.getD k 0:=by
 rw[Ii,uv,So.rev_getD (by simpa using h)];split <;> rw[B3]
def T4(p:List Nat)(i j:Nat):(Ii p i j).Perm p:=by
 have:=MQ.mp (So.Of p.toArray i j);simpa[Ii]using this
def T5(p:List Nat)(k d:Nat):(Y8 p k d).Perm p:=by
 have:=MQ.mp (bubble_perm p.toArray k d);simpa[Y8]using this
def Gv{p:List Nat}(hk:k<p.length)(hl:l<=k)(j:Nat):(Y8 p k (k-l)).getD j 0=if j=l then p.getD k 0 else if l<j/\j<=k then p.getD (j-1) 0 else p.getD j 0:=by
 rw[Y8,uv,iR,getElem?_bubble (by simpa using hk) (k-l) (by lia),show k-(k-l)=l by lia]
 repeat' split
 all_goals simp[mS]
structure Fix(lo:Nat)(p p':List Nat):Prop where
 pm:p'.Perm p
 eq:∀k,k<lo->p'.getD k 0=p.getD k 0
theorem Fix.refl(lo:Nat)(p:List Nat):Fix lo p p:=⟨.refl _,fun _ _=>rfl⟩
theorem Fix.trans{lo:Nat}{p p' p'':List Nat}(a:Fix lo p p')(b:Fix lo p' p''):Fix lo p p'':=⟨b.pm.trans a.pm,fun k hk=>(b.eq k hk).trans (a.eq k hk)⟩
def Fix.rv{lo:Nat}{p:List Nat}{i j:Nat}(h:j<=p.length)(hi:lo<=i):Fix lo p (Ii p i j):=⟨T4 _ _ _,fun k hk=>by rw[B4 h,aX0 (by lia)]⟩
def Fix.bu{lo:Nat}{p:List Nat}{k l:Nat}(hk:k<p.length)(hl:l<=k)(hi:lo<=l):Fix lo p (Y8 p k (k-l)):=⟨T5 _ _ _,fun j hj=>by rw[Gv hk hl,aX0 (by lia),aX0 (by lia)]⟩
def Fix.len{lo:Nat}{p p':List Nat}(a:Fix lo p p'):p'.length=p.length:=a.pm.length_eq
def Fix.all{lo n:Nat}{p p':List Nat}(a:Fix lo p p')(h:∀x∈p,x<n):∀x∈p',x<n:=fun x hx=>h x (a.pm.mem_iff.mp hx)
abbrev vv(r:Nat->Nat)(p:List Nat)(lo i:Nat):Nat:=r (p.getD (lo+i) 0)
def Gw(v:Nat->Nat)(a:Nat):Prop:=∀i j,i<=j->j<a->v i<=v j
def Og(v:Nat->Nat)(a:Nat):Prop:=∀i j,i<=j->j<a->v j<=v i
def Gw.one(v:Nat->Nat):Gw v 1:=fun i j mK hj=>by
 have:i=j:=by lia
 subst this;exact aZ _
def Gw.succ(h:Gw v a)(h1:1<=a)(q:¬ v a<v (a-1)):Gw v (a+1):=fun i j mK hj=>by
 by_cases hj':j<a;exact h i j mK hj';have e:j=a:=by lia
 subst e;by_cases hi:i=j;subst hi;exact aZ _;have:=h i (j-1) (by lia) (by lia);lia
def Og.succ(h:Og v a)(h1:1<=a)(q:v a<=v (a-1)):Og v (a+1):=fun i j mK hj=>by
 by_cases hj':j<a;exact h i j mK hj';have e:j=a:=by lia
 subst e;by_cases hi:i=j;subst hi;exact aZ _;have:=h i (j-1) (by lia) (by lia);lia
section
variable {kd:gV}{st:bF}
def rC{Q:Option Bool->bF->Prop}(hc:Cm prog w A s kd f n r)(W:Wt kd f p pe st)(hp:∀x∈p,x<n)(hi:i<p.length)(hj:j<p.length)(h:Q (some (decide (r (p.getD i 0)<r (p.getD j 0)))) st):wpS (aC prog w) A E s (ltAt' i j) Q st:=by
 rw[ltAt'_eq];refine aF (lR ?_);show wpS _ _ _ _ (elem' (arrOf st) i>>=fun x=>elem' (arrOf st) j>>=fun y=>lt' x y) Q st;rw[W.a];exact aF (cV (get_some hi) (aF (cV (get_some hj) (CO hc W.k (hp _ (get_mem hi)) (hp _ (get_mem hj)) h))))
def rD(p:List Nat):arr f p=p.toArray.map f:=by simp[arr]
def B5{Q:Unit->bF->Prop}(W:Wt kd f p pe st)(h:∀st',Wt kd f (Ii p i j) pe st'->Q () st'):wpS (aC prog w) A E s (reverseSlice' i j) Q st:=by
 rw[reverseSlice'_eq];refine qm (h _ ⟨W.k,?_,W.p,W.e⟩);show mirror (arrOf st) i j ((j-i) / 2)=_;rw[W.a,rD,rD,Ii];exact kas_swaps_map f (fun k=>i+k) (fun k=>j-1-k) _ p.toArray
def Y9{Q:Unit->bF->Prop}(W:Wt kd f p pe st)(h:∀st',Wt kd f (Y8 p k (k-l)) pe st'->Q () st'):wpS (aC prog w) A E s (moveDown' k l) Q st:=by
 rw[moveDown'_eq];refine qm (h _ ⟨W.k,?_,W.p,W.e⟩);show bubble (arrOf st) k (k-l)=_;rw[W.a,rD,rD,Y8];exact kas_swaps_map f (fun i=>k-i) (fun i=>k-i-1) _ p.toArray
def ap7{v:Nat->Nat}{Q:Option (Option Nat)×Nat->bF->Prop}{g:Nat->Option (Option Nat)×Nat->StateT bF Sem (ForInStep (Option (Option Nat)×Nat))}
  (hg:∀x m (Q:_->bF->Prop),1<=m->m<nrem->(v m<v (m-1)->Q (.done (none,m)) st)->(¬ v m<v (m-1)->Q (.yield (none,m+1)) st)->wpS (aC prog w) A E s (g x (none,m)) Q st)
  (h1:1<=a) (h2:a<=nrem) (hu:Gw v a) (h:∀m,a<=m->m<=nrem->Gw v m->(m=nrem\/v m<v (m-1))->Q (none,m) st):wpS (aC prog w) A E s (forIn [a:nrem] (none,a) g) Q st:=by
 refine iA (I:=fun x c st'=>st'=st/\c=(none,x)/\Gw v x) ?step ?fin ⟨rfl,rfl,hu⟩;case fin=>rintro c st' ⟨rfl,rfl,hs⟩;rw[show max a nrem=nrem by lia]at hs ⊢;exact h nrem h2 (aZ _) hs (.inl rfl)
 case step=>rintro x c st' hx hn ⟨rfl,rfl,hs⟩;exact hg x x _ (by lia) hn (fun q=>h x hx (by lia) hs (.inr q)) fun q=>⟨rfl,rfl,hs.succ (by lia) q⟩
def Yb{lo nrem:Nat}{Q:Option Nat->bF->Prop}(hc:Cm prog w A s kd f n r)(W:Wt kd f p pe st)(hp:∀x∈p,x<n)(hl:lo+nrem<=p.length)(h1:1<=nrem)
  (h:∀m p' st',1<=m->m<=nrem->Fix lo p p'->Gw (vv r p' lo) m->Wt kd f p' pe st'->Q (some m) st'):wpS (aC prog w) A E s (countRun' lo nrem) Q st:=by
 have asc:∀{p' st' m} {Q:ForInStep (Option (Option Nat)×Nat)->bF->Prop},Wt kd f p' pe st'->Fix lo p p'->1<=m->m<nrem->(vv r p' lo m<vv r p' lo (m-1)->Q (.done (none,m)) st')->(¬ vv r p' lo m<vv r p' lo (m-1)->Q (.yield (none,m+1)) st')->
   wpS (aC prog w) A E s (ltAt' (lo+m) (lo+m-1)>>=fun z=>match z with|some q=>if q=true then pure (.done (none,m))else pure (.yield (none,m+1))|_=>pure (.done (some none,m))) Q st':=fun {p' st' m Q} W F hm hn q1 q2=>by
  have:=F.len
  refine aF (rC hc W (F.all hp) (by lia) (by lia) (br (fun z=>aM (q1 ?_)) fun z=>aM (q2 fun y=>z (aX1 ?_))))
  ·have:=aX5 z
   rw[show lo+m-1=lo+(m-1) by lia]at this
   exact this
  ·rw[show lo+m-1=lo+(m-1) by lia]
   exact y
 have eqv:∀{p' x q},lo+x<=p'.length->q+1<=x->(∀i,x-(q+1)<=i->i<x->vv r p' lo i=vv r p' lo (x-1))->∀i,vv r (Ii p' (lo+x-(q+1)) (lo+x)) lo i=vv r p' lo i:=fun {p' x q} hx hq he i=>by unfold vv;rw[B4 hx];split;rename_i hi;have a:=he i (by lia) (by lia);have b:=he (x-(q+1)+x-1-i) (by lia) (by lia);rw[show lo+x-(q+1)+(lo+x)-1-(lo+i)=lo+(x-(q+1)+x-1-i) by lia];exact b.trans a.symm;rfl
 refine aF (ap7 (v:=vv r p lo) (fun x m Q hm hn q1 q2=>asc W (.refl _ _) hm hn q1 q2) (aZ 1) h1 (Gw.one _) fun m a1 a2 a3 a4=>br (fun z=>aM (h m p st a1 a2 (.refl _ _) a3 W)) fun z=>?_);have z:m≠nrem:=fun e=>z (aX3.mpr e);have a4:vv r p lo m<vv r p lo (m-1):=by rcases a4 with a4|a4;exact aY1 a4 z;exact a4
 refine br (fun z2=>aF (rC hc W hp (show lo<p.length by lia) (show lo+m-1<p.length by lia) (br (fun z3=>aM (h m p st a1 a2 (.refl _ _) a3 W)) fun z3=>aF (B5 W fun m8 W2=>?_)))) fun z2=>?_;have z3:¬ vv r p lo 0<vv r p lo (m-1):=fun q=>z3 (aX1 (by rw[show lo+m-1=lo+(m-1) by lia];exact q));have F2:Fix lo p (Ii p lo (lo+m)):=.rv (by lia) (aZ _);have d2:Og (vv r (Ii p lo (lo+m)) lo) (m+1):=by
  have al:∀k,k<m->vv r p lo k=vv r p lo (m-1):=fun k hk=>by have b1:=a3 0 k (by lia) hk;have b2:=a3 k (m-1) (by lia) (by lia);lia
  have ev:∀i,vv r (Ii p lo (lo+m)) lo i=vv r p lo i:=fun i=>by have:=eqv (p':=p) (x:=m) (q:=m-1) (by lia) (by lia) (fun i _ hi=>al i hi) i;rw[show lo+m-(m-1+1)=lo by lia]at this;exact this
  refine Og.succ (fun i j mK hj=>?_) a1 (by rw[ev,ev];lia);rw[ev,ev,al i (by lia),al j hj];exact aZ _
 rotate_left;have W2:=W;have F2:=Fix.refl lo p;have d2:Og (vv r p lo) (m+1):=by
  have:m=1:=by have:¬ m > 1:=z2;lia
  subst this;refine Og.succ (fun i j mK hj=>?_) (aZ _) (by lia);have:i=j:=by lia
  subst this;exact aZ _
 all_goals
  refine aF (pB (aF (jL (iA (I:=fun x c st'=>∃p3 q,c=(none,x,q)/\Wt kd f p3 pe st'/\Fix lo p p3/\Og (vv r p3 lo) x/\q+1<=x/\∀i,x-(q+1)<=i->i<x->vv r p3 lo i=vv r p3 lo (x-1))
   (Q:=fun c st'=>∃p3 q x,c=(none,x,q)/\1<=x/\x<=nrem/\Wt kd f p3 pe st'/\Fix lo p p3/\Og (vv r p3 lo) x/\q+1<=x/\∀i,x-(q+1)<=i->i<x->vv r p3 lo i=vv r p3 lo (x-1)) ?_ ?_ ⟨_,0,rfl,W2,F2,d2,by lia,fun i h1 h2=>by congr 1;lia⟩) ?_)))
  ·rintro x c Cz hx hn ⟨p3,q,rfl,W3,F3,d3,q3,e3⟩
   have fl:=F3.len
   have l1:lo+x-1=lo+(x-1):=by lia
   refine aF (rC hc W3 (F3.all hp) (show lo+x<_ by lia) (show lo+x-1<_ by lia) (br (fun y=>?_) fun y=>aF (rC hc W3 (F3.all hp) (show lo+x-1<_ by lia) (show lo+x<_ by lia) (br (fun y2=>aM ⟨p3,q,x,rfl,by lia,by lia,W3,F3,d3,q3,e3⟩) fun y2=>aM ⟨p3,q+1,rfl,W3,F3,?_,by lia,fun i i1 i2=>?_⟩))))
   ·have y:vv r p3 lo x<vv r p3 lo (x-1):=by have:=aX5 y;rw[l1]at this;exact this
    have ev:=eqv (p':=p3) (by lia) q3 e3
    refine br (fun _=>aF (B5 (i:=lo+x-(q+1)) (j:=lo+x) W3 fun Wn W4=>aM ⟨_,0,rfl,W4,F3.trans (.rv (i:=lo+x-(q+1)) (j:=lo+x) (by lia) (by lia)),Og.succ (fun i j mK hj=>by rw[ev,ev];exact d3 i j mK hj) (by lia) (by rw[ev,ev];lia),by lia,fun i i1 i2=>by congr 1;lia⟩)) fun _=>aM ⟨p3,0,rfl,W3,F3,d3.succ (by lia) (by lia),by lia,fun i i1 i2=>by congr 1;lia⟩
   ·have y:¬ vv r p3 lo x<vv r p3 lo (x-1):=fun q=>y (aX1 (by rw[l1];exact q))
    have y2:¬ vv r p3 lo (x-1)<vv r p3 lo x:=fun q=>y2 (aX1 (by rw[l1];exact q))
    exact d3.succ (by lia) (by lia)
   ·have y:¬ vv r p3 lo x<vv r p3 lo (x-1):=fun q=>y (aX1 (by rw[l1];exact q))
    have y2:¬ vv r p3 lo (x-1)<vv r p3 lo x:=fun q=>y2 (aX1 (by rw[l1];exact q))
    show vv r p3 lo i=vv r p3 lo (x+1-1)
    rw[Am]
    by_cases hi:i=x
    ·subst hi;rfl
    ·rw[e3 i (by lia) (by lia)];lia
  ·rintro c Cz ⟨p3,q,rfl,W3,F3,d3,q3,e3⟩
   rw[show max (m+1) nrem=nrem by lia]at *
   exact⟨p3,q,nrem,rfl,h1,aZ _,W3,F3,d3,q3,e3⟩
  ·rintro c Cz ⟨p3,q,x,rfl,x1,x2,W3,F3,d3,q3,e3⟩
   have fl:=F3.len
   have ev:=eqv (p':=p3) (by lia) q3 e3
   refine br (fun _=>aF (B5 (i:=lo+x-(q+1)) (j:=lo+x) W3 fun Wn W4=>?_)) fun _=>?_
   have F4:Fix lo p _:=F3.trans (.rv (i:=lo+x-(q+1)) (j:=lo+x) (by lia) (by lia))
   have d4:Og (vv r (Ii p3 (lo+x-(q+1)) (lo+x)) lo) x:=fun i j mK hj=>by rw[ev,ev];exact d3 i j mK hj
   generalize Ii p3 (lo+x-(q+1)) (lo+x)=p4 at W4 F4 d4
   rotate_left
   have W4:=W3
   have F4:=F3
   have d4:=d3
   all_goals
    have fl:=F4.len
    refine aF (B5 (i:=lo) (j:=lo+x) W4 fun AJ W5=>aF (ap7 (a:=x) (v:=vv r (Ii _ lo (lo+x)) lo) (fun x' m' Q yw hn q1 q2=>asc W5 (F4.trans (.rv (by lia) (aZ _))) yw hn q1 q2) x1 x2 (fun i j mK hj=>?_) fun m' a1 a2 a3 _=>aM (h m' _ _ (by lia) a2 (F4.trans (.rv (by lia) (aZ _))) a3 W5)))
    unfold vv
    rw[B4 (by lia),B4 (by lia),aW9 (by lia),aW9 (by lia),show lo+(lo+x)-1-(lo+i)=lo+(x-1-i) by lia,show lo+(lo+x)-1-(lo+j)=lo+(x-1-j) by lia]
    exact d4 _ _ (by lia) (by lia)
def Yc{lo m ok:Nat}{Q:Bool->bF->Prop}(hc:Cm prog w A s kd f n r)(W:Wt kd f p pe st)(hp:∀x∈p,x<n)(hl:lo+m<=p.length)(hk:1<=ok)(hm:ok<=m)(hu:Gw (vv r p lo) ok)
  (h:∀p' st',Fix lo p p'->Gw (vv r p' lo) m->Wt kd f p' pe st'->Q true st'):wpS (aC prog w) A E s (binarySort' lo m ok) Q st:=by
 refine aF (jL (iA (I:=fun k c st'=>∃p',c=(none,())/\Wt kd f p' pe st'/\Fix lo p p'/\Gw (vv r p' lo) k) (Q:=fun c st'=>∃p',c=(none,())/\Wt kd f p' pe st'/\Fix lo p p'/\Gw (vv r p' lo) m) ?_ ?_ ⟨p,rfl,W,.refl _ _,by rw[Nat.max_eq_left hk];exact hu⟩) ?_);rintro k c jU k1 k2 ⟨p1,rfl,W1,F1,u1⟩;have fl:=F1.len;refine aF (jL (iA (I:=fun x c st'=>st'=jU/\∃l q,c=(none,l,q)/\l<=q/\q<=k/\q-l<=k-x/\(∀i,i<l->vv r p1 lo i<=vv r p1 lo k)/\∀i,q<=i->i<k->vv r p1 lo k<vv r p1 lo i)
  (Q:=fun c st'=>st'=jU/\∃l q,c=(none,l,q)/\l<=k/\(∀i,i<l->vv r p1 lo i<=vv r p1 lo k)/\∀i,l<=i->i<k->vv r p1 lo k<vv r p1 lo i) ?_ ?_ ⟨rfl,0,k,rfl,gI _,aZ _,aZ _,fun i hi=>by lia,fun i h1 h2=>by lia⟩) ?_)
 rintro x c m8 _ hx ⟨rfl,l,q,rfl,b1,b2,b3,b4,b5⟩;refine br (fun z=>?_) fun z=>aF (rC hc W1 (F1.all hp) (show lo+k<_ by lia) (show lo+(l+q) / 2<_ by have:¬ l ≥ q:=z;lia) (br (fun y=>aM ⟨rfl,l,(l+q) / 2,rfl,by lia,by lia,?_,b4,fun i i1 i2=>?_⟩) fun y=>aM ⟨rfl,(l+q) / 2+1,q,rfl,?_,b2,?_,fun i i1=>?_,b5⟩));have:l ≥ q:=z;have:l=q:=by lia
 subst this;exact aM ⟨rfl,l,l,rfl,b2,b4,b5⟩;have:¬ l ≥ q:=z;lia;have y:vv r p1 lo k<vv r p1 lo ((l+q) / 2):=aX5 y;exact i6 y (u1 _ _ i1 i2);have:¬ l ≥ q:=z;lia;have:¬ l ≥ q:=z;lia;have y:¬ vv r p1 lo k<vv r p1 lo ((l+q) / 2):=fun e=>y (aX1 e);have:¬ l ≥ q:=z;exact cj (u1 i ((l+q) / 2) (by lia) (by lia)) (lK y);rintro c m8 ⟨rfl,l,q,rfl,b1,b2,b3,b4,b5⟩;have:l=q:=by lia
 subst this;exact⟨rfl,l,l,rfl,b2,b4,b5⟩
 ·rintro c m8 ⟨rfl,l,q,rfl,b1,b2,b3⟩;refine aF (Y9 (k:=lo+k) (l:=lo+l) W1 fun Cz W3=>aM ⟨_,rfl,W3,F1.trans (.bu (by lia) (by lia) (by lia)),fun i j mK hj=>?_⟩);unfold vv;rw[Gv (by lia) (by lia),Gv (by lia) (by lia)];have g:∀i j,i<=j->j<k->r (p1.getD (lo+i) 0)<=r (p1.getD (lo+j) 0):=u1
  repeat' split
  all_goals first
   | (exfalso;lia)
   | exact aZ _
   | exact b2 _ (by lia)
   | (rw[show lo+j-1=lo+(j-1) by lia];exact iO (b3 _ (by lia) (by lia)))
   | (rw[show lo+i-1=lo+(i-1) by lia,show lo+j-1=lo+(j-1) by lia];exact g _ _ (by lia) (by lia))
   | (rw[show lo+j-1=lo+(j-1) by lia];exact g _ _ (by lia) (by lia))
   | exact g _ _ (by lia) (by lia)
 rintro c jU ⟨p1,rfl,W1,F1,u1⟩;rw[show max (max ok 1) m=m by lia]at u1;exact⟨p1,rfl,W1,F1,u1⟩;rintro c jU ⟨p1,rfl,W1,F1,u1⟩;exact aM (h p1 jU F1 u1 W1)
end
end
noncomputable section
def PR(r:Nat->Nat):Nat->List (Nat×Nat×Nat)->List (List Nat)->Prop
 | _,[],[]=>True
 | s,q::ps,b::rs=>q.1=s/\q.2.1=b.length/\0<b.length/\b.Pairwise (Le r)/\PR r (s+b.length) ps rs
 | _,_,_=>False
theorem PR.len:∀{s:Nat} {ps:List (Nat×Nat×Nat)} {rs:List (List Nat)},PR r s ps rs->ps.length=rs.length/\rs.length<=rs.flatten.length
 | _,[],[],_=>⟨rfl,aZ _⟩
 | s,q::ps,b::rs,h=>by
  rw[PR]at h;have:=PR.len h.2.2.2.2;rw[List.flatten_cons,bU,cK,cK];lia
 | _,[],_::_,h=>by simp[PR]at h
 | _,_::_,[],h=>by simp[PR]at h
theorem PR.snoc{q:Nat×Nat×Nat}{b:List Nat}(h2:q.2.1=b.length)(h3:0<b.length)(h4:b.Pairwise (Le r)):∀{s:Nat} {ps:List (Nat×Nat×Nat)} {rs:List (List Nat)},PR r s ps rs->q.1=s+rs.flatten.length->PR r s (ps++[q]) (rs++[b])
 | s,[],[],_,h1=>by
  show PR r s [q] [b];rw[PR];exact⟨by simpa using h1,h2,h3,h4,trivial⟩
 | s,q'::ps,b'::rs,h,h1=>by
  rw[PR]at h;show PR r s (q'::(ps++[q])) (b'::(rs++[b]));rw[PR];exact⟨h.1,h.2.1,h.2.2.1,h.2.2.2.1,PR.snoc h2 h3 h4 h.2.2.2.2 (by rw[h1];simp;lia)⟩
 | _,[],_::_,h,_=>by simp[PR]at h
 | _,_::_,[],h,_=>by simp[PR]at h
theorem PR.pw:∀{s:Nat} {ps JM:List (Nat×Nat×Nat)} {rs:List (List Nat)},PR r s ps rs->JM.map (fun q=>(q.1,q.2.1))=ps.map (fun q=>(q.1,q.2.1))->PR r s JM rs
 | _,[],JM,[],_,e=>by
  have:JM=[]:=by simpa using e
  rw[this];trivial
 | s,q::ps,[],b::rs,h,e=>by simp at e
 | s,q::ps,q'::JM,b::rs,h,e=>by
  rw[PR]at h ⊢;rw[aW,aW]at e;injection e with e1 e2;injection e1 with e3 e4;exact⟨e3.trans h.1,e4.trans h.2.1,h.2.2.1,h.2.2.2.1,PR.pw h.2.2.2.2 e2⟩
 | _,[],_,_::_,h,_=>by simp[PR]at h
 | _,_::_,_,[],h,_=>by simp[PR]at h
theorem PR.one:∀{s:Nat} {ps:List (Nat×Nat×Nat)} {b:List Nat},PR r s ps [b]->b.Pairwise (Le r)
 | _,[],_,h=>by simp[PR]at h
 | _,_::_,_,h=>by rw[PR]at h;exact h.2.2.2.1
theorem PR.two:∀{i s:Nat} {ps:List (Nat×Nat×Nat)} {rs:List (List Nat)},PR r s ps rs->i+1<ps.length->∃R1 b1 b2 R2 pw pw',rs=R1++b1::b2::R2/\ps[i]?=some (s+R1.flatten.length,b1.length,pw)/\ps[i+1]?=some (s+R1.flatten.length+b1.length,b2.length,pw')/\
  0<b1.length/\0<b2.length/\b1.Pairwise (Le r)/\b2.Pairwise (Le r)/\∀M:List Nat,M.length=b1.length+b2.length->M.Pairwise (Le r)->PR r s ((ps.set i (s+R1.flatten.length,b1.length+b2.length,pw)).eraseIdx (i+1)) (R1++M::R2)
 | 0,s,q::q'::ps,b::b'::rs,h,_=>by
  rw[PR,PR]at h;obtain⟨h1,h2,h3,h4,h5,h6,h7,h8,h9⟩:=h;obtain⟨a,c,d⟩:=q;obtain⟨a',c',d'⟩:=q';simp only at h1 h2 h5 h6;subst h1 h2 h5 h6;refine⟨[],b,b',rs,d,d',rfl,rfl,rfl,h3,h7,h4,h8,fun M hM sM=>?_⟩;show PR r a ((a+0,b.length+b'.length,d)::ps) (M::rs);rw[PR];exact⟨rfl,hM.symm,by lia,sM,by rw[hM,<- vF];exact h9⟩
 | i+1,s,q::ps,b::rs,h,hl=>by
  rw[PR]at h;obtain⟨R1,b1,b2,R2,pw,pw',e1,e2,e3,x1,x2,x3,x4,x5⟩:=PR.two (i:=i) h.2.2.2.2 (by simpa using hl);have ee:s+(b::R1).flatten.length=s+b.length+R1.flatten.length:=by simp;lia
  refine⟨b::R1,b1,b2,R2,pw,pw',by rw[e1];rfl,by rw[ee];exact e2,by rw[ee];exact e3,x1,x2,x3,x4,fun M hM sM=>?_⟩;rw[ee];show PR r s (q::((ps.set i (s+b.length+R1.flatten.length,b1.length+b2.length,pw)).eraseIdx (i+1))) (b::(R1++M::R2));rw[PR];exact⟨h.1,h.2.1,h.2.2.1,h.2.2.2.1,x5 M hM sM⟩
 | _,_,[],[],_,hl=>by simp at hl
 | _,_,[],_::_,h,_=>by simp[PR]at h
 | _,_,_::_,[],h,_=>by simp[PR]at h
 | 0,_,[_],[_],_,hl=>by simp at hl
 | 0,_,[_],_::_::_,h,_=>by simp[PR]at h
 | 0,_,_::_::_,[_],h,_=>by simp[PR]at h
def Oh(a:Array (Nat×Nat×Nat))(i pw:Nat):(a.modify i fun x=>(x.1,x.2.1,pw)).toList.map (fun q=>(q.1,q.2.1))=a.toList.map fun q=>(q.1,q.2.1):=by
 refine vL fun k=>?_;simp only[cY,lQ,Array.getElem?_modify];split;cases a[k]? <;> rfl;rfl
def Fix.tail{F:List Nat}(h:Fix F.length (F++R) p'):∃R',p'=F++R'/\R'.Perm R:=by
 have hl:=h.len;have e:p'.take F.length=F:=by
  refine vL fun k=>?_;rw[Fq];split;rename_i hk;have q:=h.eq k hk;have a:k<p'.length:=by rw[hl,bU];lia
  rw[get_some a,q];simp[mS,hk,lN];rename_i hk;rw[nW (by lia)]
 refine⟨p'.drop F.length,?_,?_⟩;conv=>lhs;rw[<- mR F.length p',e]
 have:=h.pm;rw[show p'=F++p'.drop F.length by conv=>lhs;rw[<- mR F.length p',e]]at this;exact(List.perm_append_left_iff F).mp this
def Ij(h:Gw (vv r (F++R) F.length) m)(hm:m<=R.length):(R.take m).Pairwise (Le r):=by
 rw[qg];intro i j hi hj mK;rw[ku]at hi hj;have:=h i j (by lia) (by lia);simp[vv,mS,jK]at this;simp[show i<R.length by lia,show j<R.length by lia]at this ⊢;exact this
section
variable {kd:gV}{st:bF}
def Oi{rs:List (List Nat)}{Q:Bool->bF->Prop}(hc:Cm prog w A s kd f n r)(W:Wt kd f (rs.flatten++R) pe st)(hp:∀x∈rs.flatten++R,x<n)(hr:PR r 0 pe.toList rs)(hi:i+1<pe.size)
  (h:∀uw yx st',uw.flatten.Perm rs.flatten->PR r 0 yx.toList uw->yx.size+1=pe.size->Wt kd f (uw.flatten++R) yx st'->Q true st'):wpS (aC prog w) A E s (mergeAt' i) Q st:=by
 obtain⟨R1,b1,b2,R2,pw,pw',rfl,e2,e3,x1,x2,x3,x4,x5⟩:=hr.two (i:=i) (by simpa using hi);rw[lQ]at e2 e3;have ef:(R1++b1::b2::R2).flatten++R=R1.flatten++(b1++(b2++(R2.flatten++R))):=by simp
 rw[ef]at W hp;refine Y7 hc W hp e2 e3 (by lia) rfl rfl x1 x2 x3 x4 fun M st' pm sm W'=>?_;have lM:M.length=b1.length+b2.length:=by rw[pm.length_eq,bU]
 have P':=x5 M lM sm;refine h (R1++M::R2) _ st' ?_ ?_ ?_ (by rw[show(R1++M::R2).flatten++R=R1.flatten++(M++(R2.flatten++R)) by simp];exact W');have:(R1++M::R2).flatten=R1.flatten++(M++R2.flatten):=by simp
 rw[this,show(R1++b1::b2::R2).flatten=R1.flatten++((b1++b2)++R2.flatten) by simp];exact(pm.append_right _).append_left _;have:((pe.setIfInBounds i (0+R1.flatten.length,b1.length+b2.length,pw)).eraseIdxIfInBounds (i+1)).toList=(pe.toList.set i (0+R1.flatten.length,b1.length+b2.length,pw)).eraseIdx (i+1):=by simp
 rw[this];exact P';rw[Array.eraseIdxIfInBounds,dif_pos (by simp;lia)];simp;lia
def Ik{Q:Unit->bF->Prop}(hc:Cm prog w A s kd f n r)(W:Wt kd f p #[] st)(hp:∀x∈p,x<n)(h:∀p' st',p'.Perm p->p'.Pairwise (Le r)->arrOf st'=arr f p'->failedOf st'=none->Q () st') :
  wpS (aC prog w) A E s sortRuns' Q st:=by
 have sz:(arrOf st).size=p.length:=by rw[W.a,cA]
 refine aF (lR (aF (jL (iA (I:=fun x c st'=>∃(rs:List (List Nat)) (R:List Nat) (pe:Array (Nat×Nat×Nat)),c=(none,rs.flatten.length)/\Wt kd f (rs.flatten++R) pe st'/\(rs.flatten++R).Perm p/\PR r 0 pe.toList rs/\x<=rs.flatten.length)
  (Q:=fun c st'=>∃(rs:List (List Nat)) (pe:Array (Nat×Nat×Nat)),c=(none,rs.flatten.length)/\Wt kd f rs.flatten pe st'/\rs.flatten.Perm p/\PR r 0 pe.toList rs) ?step ?fin ⟨[],p,#[],rfl,W,.refl _,trivial,gI _⟩) ?post)))
 case fin=>rintro c st' ⟨rs,R,pe,rfl,W1,P1,r1,x1⟩;have l1:=P1.length_eq;rw[bU]at l1;have:R=[]:=nV.mp (by rw[sz]at x1;lia);subst this;rw[jJ]at W1 P1;exact⟨rs,pe,rfl,W1,P1,r1⟩
 case post=>
  rintro c jU ⟨rs,pe,rfl,W1,P1,r1⟩;refine aF (jL (iA (I:=fun x c st'=>∃(rs:List (List Nat)) (pe:Array (Nat×Nat×Nat)),c=(none,())/\Wt kd f rs.flatten pe st'/\rs.flatten.Perm p/\PR r 0 pe.toList rs/\pe.size+x<=p.length+1)
   (Q:=fun c st'=>∃(rs:List (List Nat)) (pe:Array (Nat×Nat×Nat)),c=(none,())/\Wt kd f rs.flatten pe st'/\rs.flatten.Perm p/\PR r 0 pe.toList rs/\pe.size<=1) ?_ ?_ ⟨rs,pe,rfl,W1,P1,r1,?_⟩) ?_)
  rintro x c m8 _ hx ⟨rs,pe,rfl,W2,P2,r2,x2⟩;have W2':Wt kd f (rs.flatten++[]) pe m8:=by rw[jJ];exact W2
  have Oj:∀x∈rs.flatten++[],x<n:=fun x hx=>hp x (P2.mem_iff.mp (by simpa using hx));refine aF (lR (br (fun z=>aM ⟨rs,pe,rfl,W2,P2,r2,by rw[<- W2.p];exact z⟩) fun z=>aF (Oi hc W2' Oj r2 ?_ fun Yd Ye AJ P5 r5 l5 W5=>br (fun z=>aY1 z (by simp)) fun _=>aM ⟨Yd,Ye,rfl,by rw[jJ]at W5;exact W5,P5.trans P2,r5,by lia⟩)));have z:¬ (pendingOf m8).size<=1:=z;have e:(sortPriv% PySem.Builtin.SortState.pending) m8=pe:=W2.p;rw[W2.p]at z;rw[e];(repeat' split) <;> lia;rintro c m8 ⟨rs,pe,rfl,W2,P2,r2,x2⟩;exact⟨rs,pe,rfl,W2,P2,r2,by rw[sz]at x2;lia⟩;have:=r1.len;have:=P1.length_eq;have:pe.size=rs.length:=by rw[<- d7];exact r1.len.1
  lia;rintro c m8 ⟨rs,pe,rfl,W2,P2,r2,x2⟩;have l2:=r2.len;rw[d7]at l2;refine aM (h rs.flatten m8 P2 ?_ W2.a W2.e);match rs,l2,r2 with
  | [],_,_=>exact .nil
  | [b],_,r2=>simpa using r2.one
  | _::_::_,l2,_=>simp at l2;lia
 case step=>
  rintro x c jU _ hx ⟨rs,R,pe,rfl,W1,P1,r1,x1⟩;have l1:=P1.length_eq;rw[bU]at l1;have hp1:∀x∈rs.flatten++R,x<n:=fun x hx=>hp x (P1.mem_iff.mp hx);refine br (fun z=>aM ?_) fun z=>aF (Yb hc W1 hp1 (lo:=rs.flatten.length) (nrem:=(arrOf st).size-rs.flatten.length) (by rw[sz,bU];lia) (by have z:¬ rs.flatten.length ≥ (arrOf st).size:=z;lia) fun m p2 m8 m1 m2 F2 u2 W2=>?_);have z:rs.flatten.length ≥ (arrOf st).size:=z;have:R=[]:=nV.mp (by rw[sz]at z;lia);subst this;rw[jJ]at W1 P1;exact⟨rs,pe,rfl,W1,P1,r1⟩;obtain⟨R2,rfl,pm2⟩:=F2.tail;have l2:=pm2.length_eq;rw[sz]at m2;have Oj:∀x∈rs.flatten++R2,x<n:=F2.all hp1;have P2:(rs.flatten++R2).Perm p:=(pm2.append_left _).trans P1;have push:∀{R3:List Nat} {m:Nat} {uw:List (List Nat)} {yx:Array (Nat×Nat×Nat)} {AJ:bF},1<=m/\m<=R3.length->(R3.take m).Pairwise (Le r)->(rs.flatten++R3).Perm p->uw.flatten.Perm rs.flatten->PR r 0 yx.toList uw->kindOf AJ=kd->arrOf AJ=arr f (uw.flatten++R3)->pendingOf AJ=yx.push (rs.flatten.length,m,0)->failedOf AJ=none->
    ∃(Wo:List (List Nat)) (R:List Nat) (pe:Array (Nat×Nat×Nat)),((none,rs.flatten.length+m):Option Unit×Nat)=(none,Wo.flatten.length)/\Wt kd f (Wo.flatten++R) pe AJ/\(Wo.flatten++R).Perm p/\PR r 0 pe.toList Wo/\x+1<=Wo.flatten.length:=fun {R3 m uw yx AJ} hm s3 P3 P4 r4 w1 w2 w3 w4=>by
   have lf:uw.flatten.length=rs.flatten.length:=P4.length_eq
   have e:(uw++[R3.take m]).flatten=uw.flatten++R3.take m:=by simp
   have lt:(R3.take m).length=m:=by rw[ku];lia
   have e2:(uw++[R3.take m]).flatten++R3.drop m=uw.flatten++R3:=by rw[e,f9,mR]
   refine⟨uw++[R3.take m],R3.drop m,yx.push (rs.flatten.length,m,0),?_,⟨w1,by rw[e2];exact w2,w3,w4⟩,by rw[e2];exact(P4.append_right _).trans P3,?_,?_⟩
   ·rw[e,bU,lf,lt]
   ·rw[FI]
    exact r4.snoc (by rw[lt]) (by lia) s3 (by show rs.flatten.length=0+_;lia)
   ·rw[e,bU,lf,lt];lia
  refine br (fun zm=>aF (pB (aF (Yc hc W2 Oj (lo:=rs.flatten.length) (m:=min ((arrOf st).size-rs.flatten.length) (minRun' (arrOf st).size (arrOf st).size 0)) (by rw[sz,bU];lia) m1 (by have zm:m<minRun' (arrOf st).size (arrOf st).size 0:=zm;lia) u2 fun p3 Cz F3 u3 W3=>br (fun z=>aY1 z (by simp)) fun _=>?_)))) fun _=>?_;obtain⟨R3,rfl,pm3⟩:=F3.tail;have l3:=pm3.length_eq;have P3:(rs.flatten++R3).Perm p:=(pm3.append_left _).trans P2;have hm3:1<=min ((arrOf st).size-rs.flatten.length) (minRun' (arrOf st).size (arrOf st).size 0)/\min ((arrOf st).size-rs.flatten.length) (minRun' (arrOf st).size (arrOf st).size 0)<=R3.length:=by have zm:m<minRun' (arrOf st).size (arrOf st).size 0:=zm;lia
  have s3:=Ij u3 hm3.2;rotate_left;have W3:=W2;have P3:=P2;have hm3:1<=m/\m<=R2.length:=by lia
  have s3:=Ij u2 hm3.2;generalize hR:R2=R3 at *;all_goals
   have hp3:∀x∈rs.flatten++R3,x<n:=fun x hx=>hp x (P3.mem_iff.mp hx)
   refine aF (lR ?_)
   dsimp only
   split
   ·refine aF (jL (iA (I:=fun y c st'=>∃(uw:List (List Nat)) (yx:Array (Nat×Nat×Nat)),c=(none,())/\Wt kd f (uw.flatten++R3) yx st'/\uw.flatten.Perm rs.flatten/\PR r 0 yx.toList uw)
     (Q:=fun c st'=>∃(uw:List (List Nat)) (yx:Array (Nat×Nat×Nat)),c=(none,())/\Wt kd f (uw.flatten++R3) yx st'/\uw.flatten.Perm rs.flatten/\PR r 0 yx.toList uw) ?_ (fun _ _ z=>z) ⟨rs,pe,rfl,W3,.refl _,r1⟩) ?_)
    ·rintro y c Wn _ _ ⟨uw,yx,rfl,W4,P4,r4⟩
     refine aF (lR ?_)
     split
     ·rename_i a b o hq
      refine br (fun _=>aM ⟨uw,yx,rfl,W4,P4,r4⟩) fun _=>aF (Oi hc W4 (fun x hx=>hp3 x (((P4.append_right _).mem_iff).mp hx)) r4 ?_ fun Yd Ye AJ P5 r5 _ W5=>br (fun z=>aY1 z (by simp)) fun _=>aM ⟨Yd,Ye,rfl,W5,P5.trans P4,r5⟩)
      have e:(sortPriv% PySem.Builtin.SortState.pending) Wn=yx:=W4.p
      rw[e]at hq ⊢
      split at hq
      ·lia
      ·cases hq
     ·exact aM ⟨uw,yx,rfl,W4,P4,r4⟩
    ·rintro c Wn ⟨uw,yx,rfl,W4,P4,r4⟩
     obtain rfl:=W4.p
     exact aF (qm (aF (qm (aM (push hm3 s3 P3 P4 (r4.pw (Oh _ _ _)) W4.k W4.a rfl W4.e)))))
   ·obtain rfl:=W3.p
    exact aF (qm (aM (push hm3 s3 P3 (.refl _) r1 W3.k W3.a rfl W3.e)))
end
end
end Sg
namespace So
open PySem PySem.W PyProof.Rows
def Keeps(a:av)(h h':aQ):Prop:=∀b o,b≠a->h.get? b=some o->h'.get? b=some o
section
variable {prog:cS}{w:bI}{A:bX}{E:au->ay->Prop}{s:ay}{a:av}{vs:List au}{kd:gV}{r:Nat->Nat}
def map_range(ds:List α)(z:α):(cU ds.length).map (fun i=>ds.getD i z)=ds:=by
 refine Mp (by simp) fun i h1 h2=>?_;simp at h1;simp[h1]
def yy{P:PySem.Fin->ay->Prop}(ho:s.heap.get? a=some (bZ "list" vs.toArray n))(hz:vs.length<=cG)
  (CC:2<=vs.length->∀h' Q,Keeps a s.heap h'->Q kd {s with heap:=h'}->aA (aC prog w) A (keyKind' vs.toArray) Q E {s with heap:=h'})
  (ie:2<=vs.length->∀h' i j C,Keeps a s.heap h'->i<vs.length->j<vs.length->C (decide (r i<r j)) {s with heap:=h'}->aA (aC prog w) A (keyLt' kd (vs.getD i dI) (vs.getD j dI)) C (fun _ _=>False) {s with heap:=h'})
  (h:∀h' n' (pm:List Nat),Keeps a s.heap h'->pm.Perm (cU vs.length)->pm.Pairwise (fun i j=>r i<=r j)->h'.get? a=some (bZ "list" (pm.map fun i=>vs.getD i dI).toArray n')->P (.done (.ret .none)) {s with heap:=h'}) :
  aA (aC prog w) A (Builtin.«list.sort» ⟨[.ref a],[]⟩) P E s:=by
 have Lq:=eS s.heap a (cQ fun _=>(#[]:Array au));obtain⟨e1,Wq⟩:∃e1,(s.heap.update a (cQ fun _=>(#[]:Array au))).get? a=some (bZ "list" #[] e1):=⟨_,vV ho fun _=>#[]⟩
 rw[list_sort_plain];refine ak (FL ho rfl (ak (qp ho rfl (ak (vW Wq rfl (ak (EN (ak (vA (iN ?_) (gI _))) (by show vs.length<=_;lia))))) (by rw[d8];lia) (gI _))));generalize hG:((s.heap.update a (cQ fun _=>(#[]:Array au))).push (bZ "tuple" vs.toArray 0)).push (bZ "list" #[] 0)=g;have kg:Keeps a s.heap g:=fun b o hb e=>by rw[<- hG];exact bM _ (bM _ (by rw[Lq.2 b hb];exact e))
 have ag:g.get? a=some (bZ "list" #[] e1):=by rw[<- hG];exact bM _ (bM _ Wq)
 show aA (aC prog w) A _ P E {s with heap:=g};dsimp only;have fin:∀(pm:List Nat),pm.Perm (cU vs.length)->pm.Pairwise (fun i j=>r i<=r j)->P (.done (.ret .none)) {s with heap:=g.update a (cQ fun _=>(pm.map fun i=>vs.getD i dI).toArray)}:=fun pm h1 h2=>by have Lr:=eS g a (cQ fun _=>(pm.map fun i=>vs.getD i dI).toArray);exact h _ _ pm (fun b o hb e=>by rw[Lr.2 b hb];exact kg b o hb e) h1 h2 (vV ag fun _=>_)
 have psz:∀(pm:List Nat),pm.Perm (cU vs.length)->(pm.map fun i=>vs.getD i dI).toArray.size<=cG+1:=fun pm hp=>by rw[d8,bf,hp.length_eq,t7];lia
 by_cases h2:vs.toArray.size<2;rw[aW9 h2,aW9 h2];refine ak (aB ?_);rw[N9];refine ak (aB ?_);dsimp only;have out:(arrOf (SortSt.mk' general' (vs.toArray.zip vs.toArray) #[] 7 none)).map (·.2)=((cU vs.length).map fun i=>vs.getD i dI).toArray:=by rw[map_range];apply Aw.mp;rw[Array.toList_map,MR];exact List.map_snd_zip (aZ _)
 rw[out];refine ak (vW ag rfl (ak (qp ag rfl ?_ (gI _) (psz _ (.refl _)))));simp only[aY2,cP,aX7];refine aB (fin _ (.refl _) ?_);rw[d8]at h2;refine qg.mpr fun i j hi hj mK=>?_;rw[t7]at hj;lia;rw[aX0 h2,aX0 h2];rw[d8]at h2;have Gx:2<=vs.length:=by lia
 refine ak (CC Gx g _ kg ?_);have W:Sg.Wt kd (kas_item (pairsOf vs)) (cU vs.length) #[] (SortSt.mk' kd (vs.toArray.zip vs.toArray) #[] 7 none):=⟨rfl,by
  have e:=kas_range (pairsOf vs);rw[pairsOf_size]at e;rw[Sg.rD,e];rfl,rfl,rfl⟩
 have run:=Sg.Ik (prog:=prog) (w:=w) (A:=A) (E:=E) (s:={s with heap:=g}) (n:=vs.length) (r:=r) (Q:=fun _ st'=>failedOf st'=none/\∃pm:List Nat,arrOf st'=Sg.arr (kas_item (pairsOf vs)) pm/\pm.Perm (cU vs.length)/\pm.Pairwise (fun i j=>r i<=r j))
  (fun i j C hi hj hc=>by rw[EZ,EZ];exact ie Gx g i j C kg hi hj hc) W (fun x hx=>m6.mp hx) fun p' st' q1 q2 q3 q4=>⟨q4,p',q3,q1,q2⟩
 refine ak (gR run ?_ fun _ _ e=>e);rintro⟨⟨⟩,st'⟩ s' ⟨rfl,hf,pm,har,p1,p3⟩;dsimp only;have out:(arrOf st').map (·.2)=(pm.map fun i=>vs.getD i dI).toArray:=by rw[har,Sg.arr,Ft,d9];congr 1;refine mT fun i _=>?_;show(kas_item (pairsOf vs) i).2=_;rw[EZ]
 rw[out];refine ak (vW ag rfl (ak (qp ag rfl ?_ (gI _) (psz _ p1))));rw[hf];simp only[aY2,cP,aX7];exact aB (fin pm p1 p3)
end
end So
namespace Dm
open PySem PyProof.Rows L2 HT
mutual
def fl:D->List Int
 | .int i=>[i]
 | .tup ds=>jF ds
 | .lst ds=>jF ds
 | _=>[]
def jF:List D->List Int
 | []=>[]
 | d::ds=>fl d++jF ds
end
mutual
def gD:D->D->Bool
 | .int _,.int _=>true
 | .tup xs,.tup ys=>fH xs ys
 | .lst xs,.lst ys=>fH xs ys
 | _,_=>false
def fH:List D->List D->Bool
 | [],[]=>true
 | x::xs,y::ys=>gD x y&&fH xs ys
 | _,_=>false
end
mutual
theorem uY:∀(x y:D),gD x y=true->(fl x).length=(fl y).length
 | .int _,.int _,_=>rfl
 | .tup xs,.tup ys,h=>by rw[fl,fl];exact wR xs ys (by rw[gD]at h;exact h)
 | .lst xs,.lst ys,h=>by rw[fl,fl];exact wR xs ys (by rw[gD]at h;exact h)
 | .cM,y,h=>by cases y <;> simp[gD]at h
 | .bl _,y,h=>by cases y <;> simp[gD]at h
 | .str _,y,h=>by cases y <;> simp[gD]at h
 | .bJ _ _,y,h=>by cases y <;> simp[gD]at h
 | .int _,.cM,h=>by simp[gD]at h
 | .int _,.bl _,h=>by simp[gD]at h
 | .int _,.str _,h=>by simp[gD]at h
 | .int _,.tup _,h=>by simp[gD]at h
 | .int _,.lst _,h=>by simp[gD]at h
 | .int _,.bJ _ _,h=>by simp[gD]at h
 | .tup _,.cM,h=>by simp[gD]at h
 | .tup _,.bl _,h=>by simp[gD]at h
 | .tup _,.str _,h=>by simp[gD]at h
 | .tup _,.int _,h=>by simp[gD]at h
 | .tup _,.lst _,h=>by simp[gD]at h
 | .tup _,.bJ _ _,h=>by simp[gD]at h
 | .lst _,.cM,h=>by simp[gD]at h
 | .lst _,.bl _,h=>by simp[gD]at h
 | .lst _,.str _,h=>by simp[gD]at h
 | .lst _,.int _,h=>by simp[gD]at h
 | .lst _,.tup _,h=>by simp[gD]at h
 | .lst _,.bJ _ _,h=>by simp[gD]at h
theorem wR:∀(xs ys:List D),fH xs ys=true->(jF xs).length=(jF ys).length
 | [],[],_=>rfl
 | [],_::_,h=>by simp[fH]at h
 | _::_,[],h=>by simp[fH]at h
 | x::xs,y::ys,h=>by
  rw[fH,bV]at h;rw[jF,jF,bU,bU,uY x y h.1,wR xs ys h.2]
end
def fJ(h:gD x y=true):(∃i j,x = .int i/\y = .int j)\/(∃xs ys,x = .tup xs/\y = .tup ys/\fH xs ys=true)\/(∃xs ys,x = .lst xs/\y = .lst ys/\fH xs ys=true):=by
 cases x <;> cases y <;> simp[gD]at h;exact .inl ⟨_,_,rfl,rfl⟩;exact .inr (.inl ⟨_,_,rfl,rfl,h⟩);exact .inr (.inr ⟨_,_,rfl,rfl,h⟩)
mutual
theorem B6:∀(x y:D),gD x y=true->fl x=fl y->x=y
 | .int i,y,h,e=>by
  rcases fJ h with⟨i',j,e1,rfl⟩|⟨_,_,e1,_⟩|⟨_,_,e1,_⟩;rw[fl,fl]at e;injection e with e;rw[e];cases e1;cases e1
 | .tup xs,y,h,e=>by
  rcases fJ h with⟨_,_,e1,_⟩|⟨rE,ys,e1,rfl,q⟩|⟨_,_,e1,_⟩;cases e1;obtain rfl:xs=rE:=by injection e1
  rw[fl,fl]at e;rw[rF xs ys q e];cases e1
 | .lst xs,y,h,e=>by
  rcases fJ h with⟨_,_,e1,_⟩|⟨_,_,e1,_⟩|⟨rE,ys,e1,rfl,q⟩;cases e1;cases e1;obtain rfl:xs=rE:=by injection e1
  rw[fl,fl]at e;rw[rF xs ys q e]
 | .cM,y,h,_=>by cases y <;> simp[gD]at h
 | .bl _,y,h,_=>by cases y <;> simp[gD]at h
 | .str _,y,h,_=>by cases y <;> simp[gD]at h
 | .bJ _ _,y,h,_=>by cases y <;> simp[gD]at h
theorem rF:∀(xs ys:List D),fH xs ys=true->jF xs=jF ys->xs=ys
 | [],[],_,_=>rfl
 | [],_::_,h,_=>by simp[fH]at h
 | _::_,[],h,_=>by simp[fH]at h
 | x::xs,y::ys,h,e=>by
  rw[fH,bV]at h;rw[jF,jF]at e;obtain⟨e1,e2⟩:=Mq e (uY x y h.1);rw[B6 x y h.1 e1,rF xs ys h.2 e2]
end
mutual
theorem wU:∀(x y:D),gD x y=true->flat x=true/\flat y=true
 | .int i,y,h=>by
  rcases fJ h with⟨_,j,_,rfl⟩|⟨_,_,e1,_⟩|⟨_,_,e1,_⟩;exact⟨by rw[flat] <;> simp,by rw[flat] <;> simp⟩;cases e1;cases e1
 | .tup xs,y,h=>by
  rcases fJ h with⟨_,_,e1,_⟩|⟨rE,ys,e1,rfl,q⟩|⟨_,_,e1,_⟩;cases e1;obtain rfl:xs=rE:=by injection e1
  rw[flat,flat];exact tN xs ys q;cases e1
 | .lst xs,y,h=>by
  rcases fJ h with⟨_,_,e1,_⟩|⟨_,_,e1,_⟩|⟨rE,ys,e1,rfl,q⟩;cases e1;cases e1;obtain rfl:xs=rE:=by injection e1
  rw[flat,flat];exact tN xs ys q
 | .cM,y,h=>by cases y <;> simp[gD]at h
 | .bl _,y,h=>by cases y <;> simp[gD]at h
 | .str _,y,h=>by cases y <;> simp[gD]at h
 | .bJ _ _,y,h=>by cases y <;> simp[gD]at h
theorem tN:∀(xs ys:List D),fH xs ys=true->cu xs=true/\cu ys=true
 | [],[],_=>⟨by rw[cu],by rw[cu]⟩
 | [],_::_,h=>by simp[fH]at h
 | _::_,[],h=>by simp[fH]at h
 | x::xs,y::ys,h=>by
  rw[fH,bV]at h;obtain⟨a,b⟩:=wU x y h.1;obtain⟨c,d⟩:=tN xs ys h.2;rw[cu,cu,a,b,c,d];exact⟨rfl,rfl⟩
end
mutual
theorem Ol:∀(x y:D),gD x y=true->iJ x y=decide (fl x=fl y)
 | .int i,y,h=>by
  rcases fJ h with⟨_,j,_,rfl⟩|⟨_,_,e1,_⟩|⟨_,_,e1,_⟩;rw[iJ,fl,fl];by_cases c:i=j;subst c;simp;simp[c];cases e1;cases e1
 | .tup xs,y,h=>by
  rcases fJ h with⟨_,_,e1,_⟩|⟨rE,ys,e1,rfl,q⟩|⟨_,_,e1,_⟩;cases e1;obtain rfl:xs=rE:=by injection e1
  rw[iJ,fl,fl];exact uZ xs ys q;cases e1
 | .lst xs,y,h=>by
  rcases fJ h with⟨_,_,e1,_⟩|⟨_,_,e1,_⟩|⟨rE,ys,e1,rfl,q⟩;cases e1;cases e1;obtain rfl:xs=rE:=by injection e1
  rw[iJ,fl,fl];exact uZ xs ys q
 | .cM,y,h=>by cases y <;> simp[gD]at h
 | .bl _,y,h=>by cases y <;> simp[gD]at h
 | .str _,y,h=>by cases y <;> simp[gD]at h
 | .bJ _ _,y,h=>by cases y <;> simp[gD]at h
theorem uZ:∀(xs ys:List D),fH xs ys=true->fD xs ys=decide (jF xs=jF ys)
 | [],[],_=>by rw[fD];simp[jF]
 | [],_::_,h=>by simp[fH]at h
 | _::_,[],h=>by simp[fH]at h
 | x::xs,y::ys,h=>by
  rw[fH,bV]at h;rw[fD,Ol x y h.1,uZ xs ys h.2,jF,jF];have l:=uY x y h.1;by_cases c1:fl x=fl y;rw[c1];by_cases c2:jF xs=jF ys;rw[c2];simp;simp[c2];have:¬ (fl x++jF xs=fl y++jF ys):=fun z=>c1 (Mq z l).1;simp[c1,this]
end
theorem v5:∀{a c b d:List Int},a.length=c.length->lexLt (a++b) (c++d)=if a=c then lexLt b d else lexLt a c
 | [],[],b,d,_=>by simp
 | x::a,y::c,b,d,h=>by
  rw[vM,vM,dg,dg,v5 (a:=a) (c:=c) (by simpa using h)];by_cases e:x=y;subst e;by_cases e2:a=c;subst e2;simp;simp[e2];simp[e]
theorem rG:∀a:List Int,lexLt a a=false
 | []=>rfl
 | x::a=>by rw[dg,aW9 rfl];exact rG a
theorem B7:∀a b:List Int,lexLt a b=false->lexLt b a=false->a=b
 | [],[],_,_=>rfl
 | [],_::_,h,_=>by rw[oG]at h;cases h
 | _::_,[],_,h=>by rw[oG]at h;cases h
 | x::a,y::b,h1,h2=>by
  rw[dg]at h1 h2;by_cases e:x=y;subst e;rw[aW9 rfl]at h1 h2;rw[B7 a b h1 h2];rw[aX0 e]at h1;rw[aX0 (fun z=>e z.symm)]at h2;have:=aY3 h1;have:=aY3 h2;lia
theorem lex_trans:∀a b c:List Int,lexLt a b=true->lexLt b c=true->lexLt a c=true
 | [],[],_,h,_=>by rw[i8]at h;cases h
 | [],_::_,[],_,h=>by rw[kF]at h;cases h
 | [],_::_,_::_,_,_=>rfl
 | _::_,[],_,h,_=>by rw[kF]at h;cases h
 | _::_,_::_,[],_,h=>by rw[kF]at h;cases h
 | x::a,y::b,z::c,h1,h2=>by
  rw[dg]at h1 h2 ⊢;by_cases e1:x=y;subst e1;rw[aW9 rfl]at h1;by_cases e2:x=z;subst e2;rw[aW9 rfl]at h2 ⊢;exact lex_trans a b c h1 h2;rw[aX0 e2]at h2 ⊢;exact h2;rw[aX0 e1]at h1;have k1:=aX5 h1;by_cases e2:y=z;subst e2;rw[aX0 e1];exact h1;rw[aX0 e2]at h2;have k2:=aX5 h2;rw[aX0 (by lia)];exact aX1 (by lia)
def Om(a b:List Int)(h:lexLt a b=true):lexLt b a=false:=by
 cases q:lexLt b a with
 | false=>rfl
 | true=>have:=lex_trans a b a h q;rw[rG]at this;cases this
def qx(a b:List Int):Bool:=!lexLt b a
def JN(a b:List Int):(qx a b || qx b a)=true:=by
 unfold qx;cases q:lexLt b a with
 | false=>rfl
 | true=>rw[Om b a q];rfl
def zu(a b c:List Int)(h1:qx a b=true)(h2:qx b c=true):qx a c=true:=by
 unfold qx at h1 h2 ⊢;have h1:lexLt b a=false:=by simpa using h1
 have h2:lexLt c b=false:=by simpa using h2
 cases q:lexLt c a with
 | false=>rfl
 | true=>
  by_cases e:a=b;subst e;rw[h2]at q;cases q;have:lexLt a b=true:=by
   cases z:lexLt a b with
   | true=>rfl
   | false=>exact aY1 (B7 a b z h1) e
  have:=lex_trans c a b q this;rw[h2]at this;cases this
def wV(a b:List Int)(h1:qx a b=true)(h2:qx b a=true):a=b:=B7 a b (by simpa[qx]using h2) (by simpa[qx]using h1)
def fC(ds:List D):List D:=ds.mergeSort fun a b=>qx (fl a) (fl b)
def cJ(ds:List D):(fC ds).Perm ds:=List.mergeSort_perm _ _
def mq(ds:List D):(fC ds).Pairwise fun a b=>qx (fl a) (fl b)=true:=
 List.pairwise_mergeSort (le:=fun a b=>qx (fl a) (fl b)) (fun a b c=>zu (fl a) (fl b) (fl c)) (fun a b=>JN (fl a) (fl b)) ds
def j5{es:List D}(hs:∀a∈ds,∀b∈ds,gD a b=true)(hp:es.Perm ds)(hw:es.Pairwise fun a b=>qx (fl a) (fl b)=true):es=fC ds:=by
 refine FU (le:=fun a b=>qx (fl a) (fl b)=true) (fun a b ha hb h1 h2=>?_) hw (mq ds) (hp.trans (cJ ds).symm);exact B6 a b (hs a (hp.mem_iff.mp ha) b ((cJ ds).mem_iff.mp hb)) (wV _ _ h1 h2)
end Dm
namespace Dm
open PySem PyProof.Rows L2 HT PySem.SeqAt
def Yg(A:bX)(s:ay)(u v:au)(b:Bool):Prop:=
 ∀(prog:cS) (w:bI) (E:au->ay->Prop) (Q:au->ay->Prop),Q (.bool b) s->aA (aC prog w) A (richCompare .Lt u v) Q E s
inductive PL(A:bX)(s:ay):List au->List au->List D->List D->Prop
 | nil:PL A s [] [] [] []
 | cons {v w:au} {x y:D} {vs ws:List au} {xs ys:List D}:EqAt A s v w (decide (fl x=fl y))->Yg A s v w (lexLt (fl x) (fl y))->(fl x).length=(fl y).length->PL A s vs ws xs ys->PL A s (v::vs) (w::ws) (x::xs) (y::ys)
def PL.len(h:PL A s vs ws xs ys):vs.length=ws.length:=by
 induction h with
 | nil=>rfl
 | cons _ _ _ _ ih=>rw[cK,cK,ih]
section
open PySem.AutoSeq1 (wpAny_loadPart')
open PySem.MeetsSeq PySem.MeetsSeq2 PySem.MeetsSeq3
def Gy(l b:av)(items B8:Array au)(n n2:Nat)(dd dd2:Option av)(sl sl2:Array (Option au))(xs ys:List D) :
  Meets (Builtin.«tuple.__lt__» ⟨[.ref l,.ref b],[]⟩) (fun A R s=>
   s.heap.get? l=some {cls:=.type "tuple",dict:=dd,data:=.seq items n,slots:=sl}/\
   s.heap.get? b=some {cls:=.type "tuple",dict:=dd2,data:=.seq B8 n2,slots:=sl2}/\
   PL A.in1 s items.toList B8.toList xs ys/\R (.ok (.ret (.bool (lexLt (jF xs) (jF ys))))) s):=
 .of_wp fun prog w A R s h=>by
  obtain⟨hp,g,d,tk,os⟩:=s;obtain⟨hl,hb,hP,h⟩:=h;have f2:=AutoSeq1.sub_tuple_tuple;have B9:items.size=B8.size:=by simpa using hP.len
  wp_walk using jH hl,jH hb,lI _ (fun rest b s'=>b.1=none/\s'=⟨hp,g,d,tk,os⟩/\∃(vs ws:List au) (rE Il:List D),rest=vs.zip ws/\
   PL A.in1 ⟨hp,g,d,tk,os⟩ vs ws rE Il/\R (.ok (.ret (.bool (lexLt (jF rE) (jF Il))))) ⟨hp,g,d,tk,os⟩) _
  case turn=>
   rintro⟨y,x⟩ rest b s' ⟨n6,rfl,vs,ws,rE,Il,hz,hP',hR⟩;cases hP' with
   | nil=>cases hz
   | @cons v0 w0 x0 y0 _ _ _ _ he ie hfl aM2=>
    rw[Mr]at hz;injection hz with hyx Oo;injection hyx with hy hx;subst hy hx;rw[jF,jF,v5 hfl]at hR;refine ak (he prog w _ _ ?_);by_cases c:fl x0=fl y0;rw[aW9 c]at hR;rw[aX1 c]
    wp_walk
    exact⟨rfl,rfl,_,_,_,_,Oo,aM2,hR⟩;rw[aX0 c]at hR;rw[aX2 c];have hri:=ie prog w
    wp_walk using hri
    exact⟨_,rfl,by simpa using hR⟩
  case fin=>
   rintro⟨b1,b2⟩ s' ⟨n6,rfl,vs,ws,rE,Il,hz,hP',hR⟩;simp only at n6;subst n6;cases hP' with
   | cons _ _ _ _=>cases hz
   | nil=>
    wp_walk
    refine⟨_,rfl,?_⟩;simpa[Builtin.Tuple.tupleCompareSizes,B9,jF,i8]using hR
  case h=>exact⟨rfl,rfl,items.toList,B8.toList,xs,ys,rfl,hP,h⟩
end
mutual
def nl:D->Bool
 | .lst _=>false
 | .tup ds=>Gz ds
 | _=>true
def Gz:List D->Bool
 | []=>true
 | d::ds=>nl d&&Gz ds
end
mutual
theorem Yh:∀(x y:D) {A:bX} {u v:au},gD x y=true->nl x=true->eX s.heap x u->eX s.heap y v->A.units+dep x<cLine->Yg A s u v (lexLt (fl x) (fl y))
 | .int i,y,A,u,v,h,_,hu,hv,_=>by
  rcases fJ h with⟨_,j,_,rfl⟩|⟨_,_,e1,_⟩|⟨_,_,e1,_⟩;rw[eX]at hu;rw[eX]at hv;obtain⟨t,rfl⟩:=hu;obtain⟨t',rfl⟩:=hv;intro prog w E Q hq;refine NS A s i t j t' prog w E Q ?_;rw[fl,fl,dg,i8]at hq;by_cases c:i=j;rw[aW9 c]at hq;rw[aX2 (by lia)];exact hq;rw[aX0 c]at hq;exact hq;cases e1;cases e1
 | .tup xs,y,A,u,v,h,hn,hu,hv,hr=>by
  rcases fJ h with⟨_,_,e1,_⟩|⟨rE,ys,e1,rfl,q⟩|⟨_,_,e1,_⟩;cases e1;obtain rfl:xs=rE:=by injection e1
  rw[eX]at hu;rw[eX]at hv;refine bw hu fun a it b9 t1 p1=>?_;clear hu;obtain rfl:=b9;refine bw hv fun b Wr b9 t2 p2=>?_;clear hv;obtain rfl:=b9;rw[dep]at hr;rw[nl]at hn;obtain⟨⟨cls,dd,data,sl⟩,ho,hc,n,hd⟩:=id t1;obtain⟨⟨aq1,dd2,data2,sl2⟩,Ws,Ls,n2,hd2⟩:=id t2;simp only at hc hd Ls hd2;subst hc hd Ls hd2;intro prog w E Q hq;rw[fl,fl]at hq;exact LH (op:=.Lt) ⟨_,ho,rfl⟩ ⟨_,Ws,rfl⟩ PySem.F.slot_tuple_lt PySem.F.entry_tuple_lt (PySem.F.args_tuple_lt_2 _ _) (Gy a b it Wr n n2 dd dd2 sl sl2 xs ys)
   ⟨ho,Ws,T6 xs ys q hn p1 p2 (A:=A.in1) (by show A.units+1+_<_;lia),show Value.bool (lexLt (jF xs) (jF ys))≠Value.notImplemented/\Q _ s from⟨(fun x=>nomatch x),hq⟩⟩ (by lia)
  cases e1
 | .lst xs,y,A,u,v,h,hn,_,_,_=>by rw[nl]at hn;cases hn
 | .cM,y,_,_,_,h,_,_,_,_=>by cases y <;> simp[gD]at h
 | .bl _,y,_,_,_,h,_,_,_,_=>by cases y <;> simp[gD]at h
 | .str _,y,_,_,_,h,_,_,_,_=>by cases y <;> simp[gD]at h
 | .bJ _ _,y,_,_,_,h,_,_,_,_=>by cases y <;> simp[gD]at h
theorem T6:∀(xs ys:List D) {A:bX} {vs ws:List au},fH xs ys=true->Gz xs=true->bA s.heap xs vs->bA s.heap ys ws->A.units+jw xs<cLine->PL A s vs ws xs ys
 | [],[],A,vs,ws,_,_,h1,h2,_=>by rw[bA]at h1 h2;subst h1;subst h2;exact .nil
 | [],_::_,_,_,_,h,_,_,_,_=>by simp[fH]at h
 | _::_,[],_,_,_,h,_,_,_,_=>by simp[fH]at h
 | x::xs,y::ys,A,vs,ws,h,hn,h1,h2,hr=>by
  rw[bA]at h1;rw[bA]at h2;refine bw h1 fun v r b9 a1 a2=>?_;clear h1;obtain rfl:=b9;refine bw h2 fun v' r' b9 b1 b2=>?_;clear h2;obtain rfl:=b9;rw[fH,bV]at h;rw[Gz,bV]at hn;rw[jw]at hr;obtain⟨f1,f2⟩:=wU x y h.1;refine .cons ?_ (Yh x y h.1 hn.1 a1 b1 (by lia)) (uY x y h.1) (T6 xs ys h.2 hn.2 a2 b2 (by lia));rw[<- Ol x y h.1];exact oK x y f1 f2 a1 b1 (by lia)
end
end Dm
namespace Dm
open PySem PySem.W PyProof.Rows L2 HT PySem.SeqAt So
mutual
theorem eX.keep{h h':aQ}(k:∀b o,h.get? b=some o->h'.get? b=some o):∀(d:D) {v:au},eX h d v->eX h' d v
 | .cM,v,q=>by rw[eX]at q ⊢;exact q
 | .bl b,v,q=>by rw[eX]at q ⊢;exact q
 | .int i,v,q=>by rw[eX]at q ⊢;exact q
 | .str x,v,q=>by rw[eX]at q ⊢;exact q
 | .tup ds,v,q=>by
  rw[eX]at q ⊢;refine bw q fun a it e t p=>?_;clear q;exact⟨a,it,e,t.keeps k,bA.keep k ds p⟩
 | .lst ds,v,q=>by
  rw[eX]at q ⊢;refine bw q fun a it e t p=>?_;clear q;exact⟨a,it,e,t.keeps k,bA.keep k ds p⟩
 | .bJ tb ds,v,q=>by rw[eX]at q;exact q.elim
theorem bA.keep{h h':aQ}(k:∀b o,h.get? b=some o->h'.get? b=some o):∀(ds:List D) {vs:List au},bA h ds vs->bA h' ds vs
 | [],_,q=>by rw[bA]at q ⊢;exact q
 | d::ds,_,q=>by
  rw[bA]at q ⊢;refine bw q fun v r e a b=>?_;clear q;exact⟨v,r,e,eX.keep k d a,bA.keep k ds b⟩
end
theorem bA.of_map(f:α->D)(g:α->au):∀(l:List α),(∀x∈l,eX h (f x) (g x))->bA h (l.map f) (l.map g)
 | [],_=>by rw[lO,bA];rfl
 | x::l,hx=>by
  rw[aW,aW,bA];exact⟨_,_,rfl,hx x (.head _),bA.of_map f g l fun y hy=>hx y (.tail _ hy)⟩
theorem GA{p q:α->Bool}:∀(l:List α),(∀x∈l,p x=true->q x=true)->l.countP p<=l.countP q
 | [],_=>aZ _
 | x::l,h=>by
  rw[vN,vN];have ih:=GA l fun y hy=>h y (.tail _ hy);by_cases c:p x=true;rw[aW9 c,aW9 (h x (.head _) c)];lia;rw[aX0 c];lia
theorem Oq{p q:α->Bool}:∀(l:List α),(∀x∈l,p x=true->q x=true)->∀z∈l,q z=true->p z=false->l.countP p<l.countP q
 | x::l,h,z,hz,hq,hp=>by
  rw[vN,vN];rcases bR.mp hz with e|e;subst e;rw[aX0 (by rw[hp];exact iS),aW9 hq];have:=GA l fun y hy=>h y (.tail _ hy);lia;have ih:=Oq l (fun y hy=>h y (.tail _ hy)) z e hq hp;by_cases c:p x=true;rw[aW9 c,aW9 (h x (.head _) c)];lia;rw[aX0 c];lia
def rk(ds:List D)(i:Nat):Nat:=(cU ds.length).countP fun j=>lexLt (fl (ds.getD j .cM)) (fl (ds.getD i .cM))
def Im(ds:List D)(hi:i<ds.length):lexLt (fl (ds.getD i .cM)) (fl (ds.getD j .cM))=decide (rk ds i<rk ds j):=by
 cases q:lexLt (fl (ds.getD i .cM)) (fl (ds.getD j .cM))with
 | true=>refine(aX1 ?_).symm;exact Oq _ (fun k _ hk=>lex_trans _ _ _ hk q) i (m6.mpr hi) q (rG _)
 | false=>
  refine(aX2 (F9.mpr ?_)).symm;refine GA _ fun k _ hk=>?_;cases z:lexLt (fl (ds.getD k .cM)) (fl (ds.getD i .cM))with
  | true=>rfl
  | false=>
   have a:qx (fl (ds.getD i .cM)) (fl (ds.getD k .cM))=true:=by unfold qx;rw[z];rfl
   have b:qx (fl (ds.getD j .cM)) (fl (ds.getD i .cM))=true:=by unfold qx;rw[q];rfl
   have c:=zu _ _ _ b a;unfold qx at c;rw[hk]at c;cases c
inductive Sk:List D->gV->Prop
 | n8 {ds:List D} {kd:gV}:ds.length<2->Sk ds kd
 | nums {ds:List D}:(∀d∈ds,∃i,d = .int i)->Sk ds oneType'
 | oA {ds:List D}:(∀d∈ds,∃i xs,d = .tup (.int i::xs))->Sk ds (tuples' true)
 | Yi {ds:List D}:(∀d∈ds,∃ys xs,d = .tup (.tup ys::xs))->Sk ds (tuples' false)
def Ba(i j:Int):lexLt [i] [j]=decide (i<j):=by
 rw[dg,i8];by_cases c:i=j;rw[aW9 c,aX2 (by lia)];rw[aX0 c]
theorem CQ{Q:Bool->ay->Prop}:∀(xs ys:List D) (vs ws:List au) (i:Nat),(b=true->i=0->∃m n rE Il,xs = .int m::rE/\ys = .int n::Il)->fH xs ys=true->PL A s vs ws xs ys->bA s.heap xs vs->bA s.heap ys ws->fin=false->Q (lexLt (jF xs) (jF ys)) s->
  KatLex prog w A b fin Q (vs.zip ws) i s
 | [],[],vs,ws,i,_,_,hP,h1,h2,hf,hq=>by
  rw[bA]at h1 h2;subst h1;subst h2;show Q fin s;rw[hf];exact hq
 | [],_::_,_,_,_,_,h,_,_,_,_,_=>by simp[fH]at h
 | _::_,[],_,_,_,_,h,_,_,_,_,_=>by simp[fH]at h
 | x::xs,y::ys,vs,ws,i,hb,h,hP,h1,h2,hf,hq=>by
  rw[bA]at h1;rw[bA]at h2;refine bw h1 fun v r b9 a1 a2=>?_;clear h1;obtain rfl:=b9;refine bw h2 fun v' r' b9 b1 b2=>?_;clear h2;obtain rfl:=b9;rw[fH,bV]at h;cases hP with
  | cons he hl hfl hP'=>
   rw[jF,jF,v5 hfl]at hq;refine kat_cons (he prog w _ _ (kat_go (fun c=>kat_yes ?_) (fun c=>kat_no ?_)));have c:=aX5 c;rw[aW9 c]at hq;exact CQ xs ys r r' (i+1) (fun _ z=>aY1 z (Nat.succ_ne_zero _)) h.2 hP' a2 b2 hf hq;have c:=aY3 c;rw[aX0 c]at hq;by_cases n6:b=true/\i=0;obtain⟨hb1,Wu⟩:=n6;refine aD5 (hb hb1 Wu) fun m n _ _ e1 e2=>?_;obtain⟨rfl,_⟩:x = .int m/\_:=Na e1;obtain⟨rfl,_⟩:y = .int n/\_:=Na e2;rw[eX]at a1;rw[eX]at b1;obtain⟨t,rfl⟩:=a1;obtain⟨t',rfl⟩:=b1;rw[hb1,Wu];refine oneLt_int ?_;rw[fl,fl,Ba]at hq;exact hq;have:(b&&i==0)=false:=by
    cases b with
    | false=>rfl
    | true=>have:i≠0:=fun z=>n6 ⟨rfl,z⟩;simp[this]
   rw[this];exact kat_one _ _ (hl prog w _ _ (show PySem.W.BoolBack Q (.bool (lexLt (fl x) (fl y))) s from hq))
def l8(p:bA h ds vs)(hi:i<ds.length):eX h (ds.getD i .cM) (vs.getD i dI)/\ds.getD i .cM∈ds:=by
 have hv:i<vs.length:=by rw[p.len];exact hi
 obtain⟨a,b⟩:=p.get i hv;have e:vs.getD i dI=vs[i]:=by simp[hv]
 rw[e];exact⟨a,b⟩
def Yj{C:Bool->ay->Prop}(k:Sk ds kd)(h2:2<=ds.length)(hs:∀a∈ds,∀b∈ds,gD a b=true)(hn:∀a∈ds,nl a=true)(hd:∀a∈ds,A.units+dep a<cLine)(p:bA s.heap ds vs)
  (hi:i<ds.length) (hj:j<ds.length) (hc:C (decide (rk ds i<rk ds j)) s):aA (aC prog w) A (keyLt' kd (vs.getD i dI) (vs.getD j dI)) C (fun _ _=>False) s:=by
 rw[<- Im ds hi]at hc;obtain⟨ai,mi⟩:=l8 p hi;obtain⟨aj,mj⟩:=l8 p hj;generalize ds.getD i .cM=x at hc ai mi;generalize ds.getD j .cM=y at hc aj mj;have tup:∀{b:Bool} {xs ys:List D},x = .tup xs->y = .tup ys->(b=true->∃m n rE Il,xs = .int m::rE/\ys = .int n::Il)->aA (aC prog w) A (keyLt' (tuples' b) (vs.getD i dI) (vs.getD j dI)) C (fun _ _=>False) s:=by intro b xs ys ex ey hb;have sh:=hs x mi y mj;have nx:=hn x mi;have dx:=hd x mi;subst ex;subst ey;rw[gD]at sh;rw[nl]at nx;rw[dep]at dx;rw[eX]at ai;rw[eX]at aj;refine bw ai fun a it e1 qZ p1=>?_;clear ai;obtain⟨o1,q1,_,n1,d1⟩:=qZ;refine bw aj fun b' Wr e2 qZ p2=>?_;clear aj;obtain⟨o2,q2,_,n2,d2⟩:=qZ;rw[e1,e2];have P:=T6 xs ys (A:=A) sh nx p1 p2 (by lia);refine kat_lt q1 d1 q2 d2 (CQ xs ys _ _ 0 (fun h _=>hb h) sh P p1 p2 (aX2 ?_) ?_);have:it.toList.length=Wr.toList.length:=P.len;simp at this;lia;rw[fl,fl]at hc;exact hc
 cases k with
 | n8 h=>lia
 | nums h=>obtain⟨m,rfl⟩:=h x mi;obtain⟨n,rfl⟩:=h y mj;rw[eX]at ai;rw[eX]at aj;obtain⟨t,e1⟩:=ai;obtain⟨t',e2⟩:=aj;rw[e1,e2,keyLt'_oneType];refine oneLt_int ?_;rw[fl,fl,Ba]at hc;exact hc
 | oA h=>refine qu (h x mi) fun m xs e1=>?_;refine qu (h y mj) fun n ys e2=>?_;exact tup e1 e2 fun _=>⟨m,n,xs,ys,rfl,rfl⟩
 | Yi h=>refine qu (h x mi) fun m xs e1=>?_;refine qu (h y mj) fun n ys e2=>?_;exact tup e1 e2 fun z=>nomatch z
theorem Bb:∀{ds:List D} {vs:List au} (f:D->Prop),(∀d∈ds,∃x xs,d = .tup (x::xs)/\f x)->bA h ds vs->∃fs:List au,fs.length=ds.length/\KatTups h vs fs/\∀v∈fs,∃x,f x/\eX h x v
 | [],vs,f,_,p=>by
  rw[bA]at p;subst p;exact⟨[],rfl,.nil,fun v hv=>aY1 hv (by simp)⟩
 | d::ds,vs,f,hd,p=>by
  rw[bA]at p;refine bw p fun v r b9 a b=>?_;clear p;obtain rfl:=b9;refine cC (Bb f (fun d Lk=>hd d (.tail _ Lk)) b) fun fs l k e=>?_;refine di (hd d (.head _)) fun x xs b9 fx=>?_;obtain rfl:=b9;rw[eX]at a;refine bw a fun ad it b9 qZ p1=>?_;clear a;obtain rfl:=b9;obtain⟨o1,q1,c1,n1,d1⟩:=qZ;rw[bA]at p1;refine bw p1 fun y r' e1 a1 _=>?_;clear p1;refine⟨y::fs,by rw[cK,cK,l],.cons q1 c1 d1 ?_ k,fun z hz=>?_⟩;rw[<- lQ,e1];rfl;rcases bR.mp hz with rfl|hz;exact⟨x,fx,a1⟩;exact e z hz
def CS{Q:gV->ay->Prop}(k:Sk ds kd)(h2:2<=ds.length)(p:bA s.heap ds vs)(hq:Q kd s):aA (aC prog w) A (keyKind' vs.toArray) Q E s:=by
 cases k with
 | n8 h=>lia
 | nums h=>refine kas_kind (T:=.type "int") (by rw[p.len];exact h2) (fun v hv=>?_) (by decide) (by decide) hq;obtain⟨i,hi,e⟩:=iQ.mp hv;obtain⟨a,b⟩:=p.get i hi;obtain⟨m,em⟩:=h _ b;rw[em,eX]at a;obtain⟨t,et⟩:=a;rw[<- e,et];exact Looks.now
 | oA h=>obtain⟨fs,l,kt,e⟩:=Bb (fun x=>∃i,x = .int i) (fun d hd=>by obtain⟨i,xs,e⟩:=h d hd;exact⟨_,xs,e,i,rfl⟩) p;refine kat_kind (T:=.type "int") kt (by lia) (fun v hv=>?_) (by decide) hq;refine aO (e v hv) fun x iV q=>?_;obtain⟨i,rfl⟩:=iV;rw[eX]at q;obtain⟨t,rfl⟩:=q;exact Looks.now
 | Yi h=>obtain⟨fs,l,kt,e⟩:=Bb (fun x=>∃ys,x = .tup ys) (fun d hd=>by obtain⟨ys,xs,e⟩:=h d hd;exact⟨_,xs,e,ys,rfl⟩) p;refine kat_kind (T:=.type "tuple") kt (by lia) (fun v hv=>?_) (by decide) hq;refine aO (e v hv) fun x iV q=>?_;obtain⟨ys,rfl⟩:=iV;rw[eX]at q;refine bw q fun a it b9 qZ _=>?_;clear q;obtain rfl:=b9;obtain⟨o1,q1,c1,_⟩:=qZ;have lk:Looks (aC prog w) s.heap (typeOf (.ref a)) o1.cls:=(Looks.ld q1).andThen .now;rw[c1]at lk;exact lk
def SG(prog:cS)(w:bI)(A:bX)(es:List D)(kd:gV)(vs:List au):Prop:=es.length<=cG/\(∀a∈es,∀b∈es,fl a=fl b->a=b)/\∀(A':bX) (s:ay),A'.units=A.units+2->2<=es.length->bA s.heap es vs->
 (∀E (R:gV->ay->Prop),R kd s->aA (aC prog w) A' (keyKind' vs.toArray) R E s)/\∀i j C,i<es.length->j<es.length->C (decide (rk es i<rk es j)) s->aA (aC prog w) A' (keyLt' kd (vs.getD i dI) (vs.getD j dI)) C (fun _ _=>False) s
def ux{Pd:List D->gV->List au->Prop}{Q:au->ay->Prop}(hk:∀es kd vs,Pd es kd vs->SG prog w A es kd vs)
  (aM3:∀R:List au->ay->Prop,(∀h' tk es kd vs,(∀b ob,s.heap.get? b=some ob->h'.get? b=some ob)->Pd es kd vs->bA h' es vs->R vs {s with heap:=h',toks:=tk})->aA (aC prog w) A.in1 (collect v) R E s)
  (h:∀(h1 h':aQ) tk es kd vs L n (pm:List Nat),(∀b ob,s.heap.get? b=some ob->h1.get? b=some ob)->(∀b ob,h1.get? b=some ob->h'.get? b=some ob)->Pd es kd vs->bA h1 es vs->h1.objs.size<=L->(∀i∈pm,i<es.length)->fC es=pm.map (fun i=>es.getD i .cM)->
   h'.get? L=some (bZ "list" (pm.map fun i=>vs.getD i dI).toArray n)->Q (.ref L) {s with heap:=h',toks:=tk}) :
  aA (aC prog w) A (call (.builtin "sorted") [v]) Q E s:=by
 refine Calls.call_function_entry kind_sorted plain_sorted entry_sorted (args_sorted1 _) ?_;unfold Builtin.«sorted»;refine ak (m:=checkCount "sorted" 1 1 _) (aB (ak (aM3 _ fun h1 tk es kd vs k1 pd p=>?_)));obtain ⟨lz,ij,sk⟩:=hk es kd vs pd;have lv:vs.length=es.length:=p.len;refine ak (vA ?_ (by lia));have oL:(h1.push (bZ "list" vs.toArray 0)).get? h1.objs.size=some (bZ "list" vs.toArray 0):=dW _ rfl;have nk:∀h',Keeps h1.objs.size (h1.push (bZ "list" vs.toArray 0)) h'->∀b ob,h1.get? b=some ob->h'.get? b=some ob:=fun h' kh b ob e=>kh b ob (dh (bY e)) (bM _ e);refine ak (iN (gF slot_list_sort ⟨_,oL,rfl⟩ entry_list_sort ?body (args_list_sort _)));case body=>
  refine yy (kd:=kd) (r:=rk es) (s:={s with heap:=h1.push (bZ "list" vs.toArray 0),toks:=tk}) oL (by lia) (fun h2 h' R kh hR=>(sk _ _ rfl (by lia) (p.keep (nk h' kh))).1 _ R hR) (fun h2 h' i j C kh hi hj hC=>(sk _ _ rfl (by lia) (p.keep (nk h' kh))).2 i j C (by lia) (by lia) hC) fun h' n' pm kh hp hu ho=>?_;rw[lv]at hp;have lt:∀i∈pm,i<es.length:=fun i hi=>m6.mp (hp.mem_iff.mp hi);refine⟨_,rfl,aB ⟨_,rfl,h h1 h' tk es kd vs _ n' pm k1 (nk h' kh) pd p (aZ _) lt ?_ ho⟩⟩;have pe:(pm.map fun i=>es.getD i D.cM).Perm es:=by have:=hp.map fun i=>es.getD i D.cM;rwa [So.map_range]at this
  refine(FU (le:=fun a b=>qx (fl a) (fl b)=true) (fun a b ha hb h1 h2=>ij a ((cJ es).mem_iff.mp ha) b (pe.mem_iff.mp hb) (wV _ _ h1 h2)) (mq es) ?_ ((cJ es).trans pe.symm));rw[Aq];refine hu.imp_of_mem fun {i j} hi hj mK=>?_;unfold qx;rw[Im es (lt j hj),aX2 (by lia)];rfl
def sgS(sk:Sk es kd)(l:es.length<64)(hs:∀a∈es,∀b∈es,gD a b=true)(hn:∀a∈es,nl a=true)(hd:∀a∈es,A.units+2+dep a<cLine):SG prog w A es kd vs:=
 ⟨cj (iO l) (by rw[fQ];decide),fun a ha b hb=>B6 a b (hs a ha b hb),fun A' s e h2 p=>⟨fun E R hR=>CS sk h2 p hR,fun i j C=>Yj sk h2 hs hn (fun a ha=>by rw[e];exact hd a ha) p⟩⟩
end Dm
namespace Dm
open PySem PyProof.Rows L2 PySem.SeqAt
def T7{A:bX}(x:Vw s.heap d u)(y:Vw s.heap e v)(gK:A.units<cLine)(hn:dep d=n)(fx:flat d=true)(fy:flat e=true)
  (ht:∀{xs ys:List D} {a b:av} {bx jE:Array au},dep (.tup xs)=n->cu xs=true->cu ys=true->IsTup s.heap a bx->bA s.heap xs bx.toList->IsTup s.heap b jE->bA s.heap ys jE.toList->RcAt A s (.ref a) (.ref b) (fD xs ys))
  (hl:∀{xs ys:List D} {a b:av} {bx jE:Array au},dep (.lst xs)=n->cu xs=true->cu ys=true->PlainL s.heap a bx->bA s.heap xs bx.toList->PlainL s.heap b jE->bA s.heap ys jE.toList->RcAt A s (.ref a) (.ref b) (fD xs ys)):RcAt A s u v (iJ d e):=by
 cases x with
 | cM=>
  cases y with
  | cM=>exact RcAt.none_none
  | bl c=>exact RcAt.none_bool c
  | int j r=>exact RcAt.none_int j r
  | str y r=>exact RcAt.none_str y r
  | tup q' p'=>exact RcAt.none_tuple (aN q') gK
  | lst q' p'=>exact RcAt.none_list q'.isList gK
 | bl b=>
  cases y with
  | cM=>exact RcAt.bool_none b
  | bl c=>exact RcAt.bool_bool b c
  | int j r=>exact RcAt.bool_int b j r
  | str y r=>exact RcAt.bool_str b y r
  | tup q' p'=>exact RcAt.bool_tuple b (aN q') gK
  | lst q' p'=>exact RcAt.bool_list b q'.isList gK
 | int i t=>
  cases y with
  | cM=>exact RcAt.int_none i t
  | bl c=>exact RcAt.int_bool i t c
  | int j r=>exact RcAt.int_int i t j r
  | str y r=>exact RcAt.int_str i t y r
  | tup q' p'=>exact RcAt.int_tuple i t (aN q') gK
  | lst q' p'=>exact RcAt.int_list i t q'.isList gK
 | str x t=>
  cases y with
  | cM=>exact RcAt.str_none x t
  | bl c=>exact RcAt.str_bool x t c
  | int j r=>exact RcAt.str_int x t j r
  | str y r=>exact RcAt.str_str x t y r
  | tup q' p'=>exact RcAt.str_tuple x t (aN q') gK
  | lst q' p'=>exact RcAt.str_list x t q'.isList gK
 | tup q p=>
  cases y with
  | cM=>exact RcAt.tuple_none (aN q) gK
  | bl c=>exact RcAt.tuple_bool c (aN q) gK
  | int j r=>exact RcAt.tuple_int j r (aN q) gK
  | str y r=>exact RcAt.tuple_str y r (aN q) gK
  | tup q' p'=>exact ht hn (by rw[flat]at fx;exact fx) (by rw[flat]at fy;exact fy) q p q' p'
  | lst q' p'=>exact RcAt.tuple_list (aN q) q'.isList gK
 | lst q p=>
  cases y with
  | cM=>exact RcAt.list_none q.isList gK
  | bl c=>exact RcAt.list_bool c q.isList gK
  | int j r=>exact RcAt.list_int j r q.isList gK
  | str y r=>exact RcAt.list_str y r q.isList gK
  | tup q' p'=>exact RcAt.list_tuple q.isList (aN q') gK
  | lst q' p'=>exact hl hn (by rw[flat]at fx;exact fx) (by rw[flat]at fy;exact fy) q p q' p'
def Yk(d e:D){A:bX}(fx:flat d=true)(fy:flat e=true)(hu:eX s.heap d u)(hv:eX s.heap e v)(hr:A.units+dep d<cLine):RcAt A s u v (iJ d e):=by
 have gK:A.units<cLine:=qe (F6 _ _) hr;refine T7 (vw hu) (vw hv) gK rfl fx fy (fun {xs ys a b bx jE} hn fx fy q p q' p'=>?_) (fun {xs ys a b bx jE} hn fx fy q p q' p'=>?_);rw[<- wN p p'];exact RcAt.tuples (aN q) (aN q') gK (mh p p' fun x y u v m1 m2 g1 g2=>oK _ _ (dG fx m1) (dG fy m2) g1 g2 (by show A.units+1+_<_;rw[<- hn,dep]at hr;have:=iy m1;lia));by_cases hl:bx.size=jE.size;rw[<- Gr p p' hl];exact RcAt.lists q.isList q'.isList hl gK (mh p p' fun x y u v m1 m2 g1 g2=>oK _ _ (dG fx m1) (dG fy m2) g1 g2 (by show A.units+1+_<_;rw[<- hn,dep]at hr;have:=iy m1;lia));rw[<- Gs p p' hl];exact RcAt.lists_lengths q.isList q'.isList (by simpa using hl) gK
def JO{A:bX}(x:Vw s.heap d u)(y:Vw s.heap e v)(gK:A.units<cLine)(hn:dep d=n)(fx:flat d=true)(fy:flat e=true)
  (ht:∀{xs ys:List D} {a b:av} {bx jE:Array au},dep (.tup xs)=n->cu xs=true->cu ys=true->IsTup s.heap a bx->bA s.heap xs bx.toList->IsTup s.heap b jE->bA s.heap ys jE.toList->RcNeAt A s (.ref a) (.ref b) (!fD xs ys))
  (hl:∀{xs ys:List D} {a b:av} {bx jE:Array au},dep (.lst xs)=n->cu xs=true->cu ys=true->PlainL s.heap a bx->bA s.heap xs bx.toList->PlainL s.heap b jE->bA s.heap ys jE.toList->RcNeAt A s (.ref a) (.ref b) (!fD xs ys)):RcNeAt A s u v (!iJ d e):=by
 cases x with
 | cM=>
  cases y with
  | cM=>exact RcNeAt.none_none
  | bl c=>exact RcNeAt.none_bool c
  | int j r=>exact RcNeAt.none_int j r
  | str y r=>exact RcNeAt.none_str y r
  | tup q' p'=>exact RcNeAt.none_tuple (aN q') gK
  | lst q' p'=>exact RcNeAt.none_list q'.isList gK
 | bl b=>
  cases y with
  | cM=>exact RcNeAt.bool_none b
  | bl c=>exact RcNeAt.bool_bool b c
  | int j r=>exact RcNeAt.bool_int b j r
  | str y r=>exact RcNeAt.bool_str b y r
  | tup q' p'=>exact RcNeAt.bool_tuple b (aN q') gK
  | lst q' p'=>exact RcNeAt.bool_list b q'.isList gK
 | int i t=>
  cases y with
  | cM=>exact RcNeAt.int_none i t
  | bl c=>exact RcNeAt.int_bool i t c
  | int j r=>exact RcNeAt.int_int i t j r
  | str y r=>exact RcNeAt.int_str i t y r
  | tup q' p'=>exact RcNeAt.int_tuple i t (aN q') gK
  | lst q' p'=>exact RcNeAt.int_list i t q'.isList gK
 | str x t=>
  cases y with
  | cM=>exact RcNeAt.str_none x t
  | bl c=>exact RcNeAt.str_bool x t c
  | int j r=>exact RcNeAt.str_int x t j r
  | str y r=>exact RcNeAt.str_str x t y r
  | tup q' p'=>exact RcNeAt.str_tuple x t (aN q') gK
  | lst q' p'=>exact RcNeAt.str_list x t q'.isList gK
 | tup q p=>
  cases y with
  | cM=>exact RcNeAt.tuple_none (aN q) gK
  | bl c=>exact RcNeAt.tuple_bool c (aN q) gK
  | int j r=>exact RcNeAt.tuple_int j r (aN q) gK
  | str y r=>exact RcNeAt.tuple_str y r (aN q) gK
  | tup q' p'=>exact ht hn (by rw[flat]at fx;exact fx) (by rw[flat]at fy;exact fy) q p q' p'
  | lst q' p'=>exact RcNeAt.tuple_list (aN q) q'.isList gK
 | lst q p=>
  cases y with
  | cM=>exact RcNeAt.list_none q.isList gK
  | bl c=>exact RcNeAt.list_bool c q.isList gK
  | int j r=>exact RcNeAt.list_int j r q.isList gK
  | str y r=>exact RcNeAt.list_str y r q.isList gK
  | tup q' p'=>exact RcNeAt.list_tuple q.isList (aN q') gK
  | lst q' p'=>exact hl hn (by rw[flat]at fx;exact fx) (by rw[flat]at fy;exact fy) q p q' p'
def Ot(d e:D){A:bX}(fx:flat d=true)(fy:flat e=true)(hu:eX s.heap d u)(hv:eX s.heap e v)(hr:A.units+dep d<cLine):RcNeAt A s u v (!iJ d e):=by
 have gK:A.units<cLine:=qe (F6 _ _) hr;refine JO (vw hu) (vw hv) gK rfl fx fy (fun {xs ys a b bx jE} hn fx fy q p q' p'=>?_) (fun {xs ys a b bx jE} hn fx fy q p q' p'=>?_);rw[<- wN p p'];exact RcNeAt.tuples (aN q) (aN q') gK (mh p p' fun x y u v m1 m2 g1 g2=>oK _ _ (dG fx m1) (dG fy m2) g1 g2 (by show A.units+1+_<_;rw[<- hn,dep]at hr;have:=iy m1;lia));by_cases hl:bx.size=jE.size;rw[<- Gr p p' hl];exact RcNeAt.lists q.isList q'.isList hl gK (mh p p' fun x y u v m1 m2 g1 g2=>oK _ _ (dG fx m1) (dG fy m2) g1 g2 (by show A.units+1+_<_;rw[<- hn,dep]at hr;have:=iy m1;lia));rw[<- Gs p p' hl];exact RcNeAt.lists_lengths q.isList q'.isList (by simpa using hl) gK
end Dm
namespace Tb
open PySem PySem.SetTable
def kH(mask:Nat)(p:Probe):Probe:=
 if p.more > 0 then {p with j:=p.j+1,more:=p.more-1}else
  {p with j:=(leap mask p.i p.perturb).1,more:=runEnd mask (leap mask p.i p.perturb).1-(leap mask p.i p.perturb).1,i:=(leap mask p.i p.perturb).1,perturb:=(leap mask p.i p.perturb).2}
def wW(t:gG)(p:Probe):t.advance p=kH t.mask p:=by
 unfold SetTable.advance kH;rfl
def Lu(mask i kI:Nat):Probe:={j:=i,more:=runEnd mask i-i,i:=i,perturb:=kI,dummy:=none}
def wX(t:gG)(h:Int):t.probeStart h=Lu t.mask (bits h % (t.mask+1)) (bits h):=rfl
def W(mask:Nat):Probe->Nat->Probe
 | p,0=>p
 | p,k+1=>W mask (kH mask p) k
theorem oM(mask:Nat):∀(a b:Nat) (p:Probe),W mask p (a+b)=W mask (W mask p a) b
 | 0,b,p=>by rw[kq];rfl
 | a+1,b,p=>by
  rw[show a+1+b=(a+b)+1 by lia];show W mask (kH mask p) (a+b)=_;rw[oM mask a b];rfl
def Yl(mask:Nat)(p:Probe)(k:Nat):W mask p (k+1)=kH mask (W mask p k):=by
 rw[oM mask k 1 p];rfl
def wY(mask:Nat)(p:Probe)(h:p.dummy=none):(kH mask p).dummy=none:=by
 unfold kH;split <;> exact h
theorem Io(mask:Nat):∀(k:Nat) (p:Probe),p.dummy=none->(W mask p k).dummy=none
 | 0,_,h=>h
 | k+1,p,h=>Io mask k _ (wY mask p h)
theorem Ou(mask:Nat):∀(k:Nat) (p:Probe),k<=p.more->W mask p k={p with j:=p.j+k,more:=p.more-k}
 | 0,p,_=>rfl
 | k+1,p,h=>by
  show W mask (kH mask p) k=_;have e:kH mask p={p with j:=p.j+1,more:=p.more-1}:=by unfold kH;rw[aW9 (by lia)]
  rw[e,Ou mask k _ (by show k<=p.more-1;lia)];simp only[Probe.mk.injEq,and_true,true_and];lia
def GB(mask i kI:Nat):W mask (Lu mask i kI) (runEnd mask i-i+1)=Lu mask (leap mask i kI).1 (leap mask i kI).2:=by
 rw[Yl,Ou mask (runEnd mask i-i) (Lu mask i kI) (aZ _)];unfold kH;rw[aX0 (by show ¬ (runEnd mask i-i-(runEnd mask i-i) > 0);lia)];rfl
def Ym(mask i:Nat):runEnd mask i-i<=9:=by unfold runEnd;split <;> lia
def G(mask:Nat):Nat->Nat->Nat->Nat×Nat
 | 0,i,kI=>(i,kI)
 | n+1,i,kI=>G mask n (leap mask i kI).1 (leap mask i kI).2
theorem CT(mask:Nat):∀(n i kI:Nat),∃k,k<=10*n/\W mask (Lu mask i kI) k=Lu mask (G mask n i kI).1 (G mask n i kI).2
 | 0,i,kI=>⟨0,by lia,rfl⟩
 | n+1,i,kI=>by
  refine aO (CT mask n (leap mask i kI).1 (leap mask i kI).2) fun k hk e=>?_;refine⟨runEnd mask i-i+1+k,by have:=Ym mask i;lia,?_⟩;rw[oM,GB,e];rfl
theorem Wv(mask:Nat):∀(n i kI:Nat),(G mask n i kI).2=kI / 32 ^ n
 | 0,i,kI=>by simp[G]
 | n+1,i,kI=>by
  show(G mask n (leap mask i kI).1 (leap mask i kI).2).2=_;rw[Wv mask n,show(leap mask i kI).2=kI / 32 from rfl,Nat.div_div_eq_div_mul,LY,Nat.mul_comm]
theorem Ww(mask:Nat):∀(a b i kI:Nat),G mask (a+b) i kI=G mask b (G mask a i kI).1 (G mask a i kI).2
 | 0,b,i,kI=>by rw[kq];rfl
 | a+1,b,i,kI=>by
  rw[show a+1+b=(a+b)+1 by lia];show G mask (a+b) _ _=_;rw[Ww mask a b];rfl
theorem aq3(mask:Nat):∀(n i kI:Nat),i<mask+1->(G mask n i kI).1<mask+1
 | 0,_,_,h=>h
 | n+1,i,kI,_=>aq3 mask n _ _ (qf _ (sR _))
def seen(mask:Nat):Nat->Nat->Nat->Nat
 | 0,_,acc=>acc
 | n+1,i,acc=>seen mask n ((i*5+1) % (mask+1)) (acc ||| (1 <<< i))
theorem CU(mask e:Nat):∀(n i acc:Nat),(seen mask n i acc).testBit e=true->acc.testBit e=true\/∃m,m<n/\(G mask m i 0).1=e
 | 0,i,acc,h=>.inl h
 | n+1,i,acc,h=>by
  rcases CU mask e n _ _ h with h|⟨m,hm,e'⟩;rw[Nat.testBit_or,kB]at h;rcases h with h|h;exact .inl h;refine .inr ⟨0,by lia,?_⟩;rw[Nat.one_shiftLeft,Nat.testBit_two_pow]at h;exact aX5 h;exact .inr ⟨m+1,by lia,e'⟩
def oN(mask:Nat):Bool:=(cU (mask+1)).all fun i=>seen mask (mask+1) i 0==2 ^ (mask+1)-1
def aq4:oN 7=true:=by decide +kernel
def Yn:oN 31=true:=by decide +kernel
def T8:oN 127=true:=by decide +kernel
def Lv(mask:Nat):Prop:=mask=7\/mask=31\/mask=127
def Lv.full{mask:Nat}(h:Lv mask):oN mask=true:=by
 rcases h with rfl|rfl|rfl;exact aq4;exact Yn;exact T8
def cover{mask:Nat}(hm:Lv mask){i e:Nat}(hi:i<mask+1)(he:e<mask+1):∃m,m<mask+1/\(G mask m i 0).1=e:=by
 have h:=hm.full;unfold oN at h;rw[fU]at h;have q:=aX3.mp (h i (m6.mpr hi));have b:(seen mask (mask+1) i 0).testBit e=true:=by rw[q,Nat.testBit_two_pow_sub_one];exact aX1 he
 rcases CU mask e _ _ _ b with h0|h0;rw[Nat.zero_testBit]at h0;cases h0;exact h0
def T9(h:Int):bits h<2 ^ 64:=by
 unfold bits;lia
def Ip{mask:Nat}(hm:Lv mask)(h:Int){e:Nat}(he:e<mask+1):∃n,n<=mask+13/\(G mask n (bits h % (mask+1)) (bits h)).1=e:=by
 have p0:(G mask 13 (bits h % (mask+1)) (bits h)).2=0:=by rw[Wv];exact LZ (i6 (T9 h) (by decide))
 obtain⟨m,yw,e'⟩:=cover hm (aq3 mask 13 _ (bits h) (qf _ (sR _))) he;refine⟨13+m,by lia,?_⟩;rw[Ww,p0];exact e'
def reach{mask:Nat}(hm:Lv mask)(h:Int){e:Nat}(he:e<mask+1):∃k,k<=10*(mask+13)/\(W mask (Lu mask (bits h % (mask+1)) (bits h)) k).j=e:=by
 refine aO (Ip hm h he) fun n hn e'=>?_;refine aO (CT mask n (bits h % (mask+1)) (bits h)) fun k hk ek=>?_;refine⟨k,by lia,?_⟩;rw[ek];exact e'
def uy(xs:Array Nat):Prop:=∀i j,i<j->j<xs.size->xs.getD i 0<xs.getD j 0
def uy.le(h:uy xs)(mK:i<=j)(hj:j<xs.size):xs.getD i 0<=xs.getD j 0:=by
 rcases M1 mK with h'|rfl;exact iO (h i j h' hj);exact aZ _
def Ov(xs:Array Nat)(h:i<xs.size):xs.getD i a=xs.getD i b:=by simp[Array.getD,h]
theorem wZ(hr:uy xs)(j:Nat):∀(fuel lo hi:Nat),hi<=xs.size->lo<=hi->hi-lo<=fuel->(∀i,i<lo->xs.getD i 0<j)->(∀i,hi<=i->i<xs.size->j<=xs.getD i 0)->
  lo<=below.go xs j fuel lo hi/\below.go xs j fuel lo hi<=xs.size/\(∀i,i<below.go xs j fuel lo hi->xs.getD i 0<j)/\∀i,below.go xs j fuel lo hi<=i->i<xs.size->j<=xs.getD i 0
 | 0,lo,hi,h1,h2,h3,a,b=>by
  have:hi=lo:=by lia
  subst this;exact⟨aZ _,h1,a,b⟩
 | fuel+1,lo,hi,h1,h2,h3,a,b=>by
  unfold below.go;by_cases ie:lo<hi;rw[aW9 ie];dsimp only;have hm:(lo+hi) / 2<xs.size:=by lia
  rw[Ov xs (b:=0) hm];by_cases hc:xs.getD ((lo+hi) / 2) 0<j;rw[aW9 hc];have q:=wZ hr j fuel ((lo+hi) / 2+1) hi h1 (by lia) (by lia) (fun i Y0=>qe (hr.le (by lia) hm) hc) b;exact⟨by lia,q.2⟩;rw[aX0 hc];have q:=wZ hr j fuel lo ((lo+hi) / 2) (by lia) (by lia) (by lia) a (fun i Y0 hs=>cj (lK hc) (hr.le Y0 hs));exact⟨by lia,q.2⟩;rw[aX0 ie];have:hi=lo:=by lia
  subst this;exact⟨aZ _,h1,a,b⟩
def n9(hr:uy xs)(j:Nat):below xs j<=xs.size/\(∀i,i<below xs j->xs.getD i 0<j)/\∀i,below xs j<=i->i<xs.size->j<=xs.getD i 0:=
 (wZ hr j xs.size 0 xs.size (aZ _) (gI _) (aZ _) (fun i h=>aY1 h (jf _)) (fun i h h'=>aY1 h' (F9.mpr h))).2
def below_at(hr:uy xs)(hi:i<xs.size):below xs (xs.getD i 0)=i:=by
 refine wg (n9 hr (xs.getD i 0)) fun a b c=>?_;rcases sS (below xs (xs.getD i 0)) i with h|h|h;have:=c _ (aZ _) (by lia);have:=hr _ _ h hi;lia;exact h;have:=b i h;lia
structure Good(t:gG)(n:Nat):Prop where
 size:t.place.size=n
 rise:uy t.place
 le:∀i,i<n->t.place.getD i 0<=t.mask
 dum:t.dummies=#[]
 msk:Lv t.mask
 n8:n<t.mask
def Iq(j:Nat):has #[] j=false:=by simp[has]
def zv(g:Good t n)(hi:i<n):t.slot (t.place.getD i 0) = .live i:=by
 have hs:i<t.place.size:=by rw[g.size];exact hi
 unfold SetTable.slot;dsimp only;rw[below_at g.rise hs,aW9 (by simp[Array.getD,hs])]
def x6(g:Good t n)(j:Nat):(∃i,i<n/\t.place.getD i 0=j/\t.slot j = .live i)\/((∀i,i<n->t.place.getD i 0≠j)/\t.slot j = .empty):=by
 by_cases h:∃i,i<n/\t.place.getD i 0=j;refine aO h fun i hi e=>?_;clear h;exact .inl ⟨i,hi,e,by rw[<- e];exact zv g hi⟩;refine .inr ⟨fun i hi e=>h ⟨i,hi,e⟩,?_⟩;unfold SetTable.slot;dsimp only;rw[aX0,g.dum,Iq];rfl;intro q;have q:=aX3.mp q;obtain⟨hs,e⟩:=oj.mp q;exact h ⟨below t.place j,by rw[<- g.size];exact hs,by simp[Array.getD,hs,e]⟩
def fK(g:Good t n)(j:Nat):t.slot j = .empty↔∀i,i<n->t.place.getD i 0≠j:=by
 rcases x6 g j with⟨i,hi,e,q⟩|⟨a,q⟩;rw[q];exact⟨fun h=>(nomatch h),fun h=>aY1 e (h i hi)⟩;exact⟨fun _=>a,fun _=>q⟩
theorem Ir(h:uy xs):∀i,i<xs.size->i<=xs.getD i 0
 | 0,_=>gI _
 | i+1,hi=>by
  have a:=Ir h i (by lia);have b:=h i (i+1) (by lia) hi;lia
def GC(g:Good t n):∃e,e<t.mask+1/\t.slot e = .empty:=by
 by_cases h:∀i,i<n->t.place.getD i 0=i;refine⟨n,by have:=g.n8;lia,(fK g n).mpr fun i hi e=>?_⟩;rw[h i hi]at e;lia;have:∃i,i<n/\t.place.getD i 0≠i/\∀k,k<i->t.place.getD k 0=k:=by
  have aux:∀m,m<=n->(∀k,k<m->t.place.getD k 0=k)\/∃i,i<n/\t.place.getD i 0≠i/\∀k,k<i->t.place.getD k 0=k:=by
   intro m;induction m with
   | zero=>intro _;exact .inl fun k hk=>aY1 hk (jf _)
   | succ m ih=>intro hm;rcases ih (by lia)with a|a;by_cases e:t.place.getD m 0=m;refine .inl fun k hk=>?_;rcases M1 (Nat.le_of_lt_succ hk)with h'|rfl;exact a k h';exact e;exact .inr ⟨m,by lia,e,a⟩;exact .inr a
  rcases aux n (aZ _)with a|a;exact aY1 a h;exact a
 refine cC this fun i hi ne before=>?_;clear this;have hs:i<t.place.size:=by rw[g.size];exact hi
 have ge:=Ir g.rise i hs;refine⟨i,by have:=g.le i hi;lia,(fK g i).mpr fun k hk e=>?_⟩;rcases sS k i with h'|rfl|h';rw[before k h']at e;lia;exact ne e;have:=g.rise i k h' (by rw[g.size];exact hk);lia
def toList_ins(xs:Array α)(p:Nat)(x:α):(iT xs p x).toList=xs.toList.take p++x::xs.toList.drop p:=by
 simp[iT,fT,sZ]
def Ow(xs:Array α)(p:Nat)(x:α)(hp:p<=xs.size):(iT xs p x).size=xs.size+1:=by
 rw[<- d7,toList_ins,bU,cK,ku,vH,d7];lia
def r8(xs:Array α)(p:Nat)(x:α)(hp:p<=xs.size)(i:Nat):(iT xs p x)[i]?=if i<p then xs[i]? else if i=p then some x else xs[i-1]?:=by
 rw[<- lQ,toList_ins];by_cases h1:i<p;rw[aW9 h1,lN (by rw[ku,d7];lia),Fg h1,lQ];rw[aX0 h1,jK (by rw[ku,d7];lia),ku,d7,Fe hp];by_cases h2:i=p;subst h2;simp;rw[aX0 h2];obtain⟨m,hm⟩:∃m,i-p=m+1:=⟨i-p-1,by lia⟩
 rw[hm,Ms,Mn,lQ];congr 1;lia
def CV(xs:Array Nat)(p x:Nat)(hp:p<=xs.size)(i:Nat):(iT xs p x).getD i 0=if i<p then xs.getD i 0 else if i=p then x else xs.getD (i-1) 0:=by
 have e:∀ys:Array Nat,∀k,ys.getD k 0=(ys[k]?).getD 0:=fun ys k=>by simp[iR]
 rw[e,r8 xs p x hp i];split;rw[e];split;rfl;rw[e]
def GD(g:Good t n):t.put j=({t with place:=iT t.place (below t.place j) j},below t.place j):=by
 unfold SetTable.put;dsimp only;rw[g.dum,Iq];simp only[cP,aX7]
def CW(g:Good t n)(hj:j<=t.mask)(he:t.slot j = .empty)(hf:n+1<t.mask):Good (t.put j).1 (n+1)/\(t.put j).2=below t.place j/\below t.place j<=n/\(t.put j).1.mask=t.mask/\
  (∀k,(t.put j).1.slot k = .empty↔(t.slot k = .empty/\k≠j))/\(t.put j).1.place=iT t.place (below t.place j) j:=by
 refine wg (n9 g.rise j) fun b1 b2 b3=>?_;rw[g.size]at b1 b3;have hb1:below t.place j<=t.place.size:=by rw[g.size];exact b1
 have hne:=(fK g j).mp he;have gt:∀i,below t.place j<=i->i<n->j<t.place.getD i 0:=fun i h1 h2=>by have:=b3 i h1 h2;have:=hne i h2;lia
 rw[GD g];have gd:=CV t.place (below t.place j) j hb1;have sz:(iT t.place (below t.place j) j).size=n+1:=by rw[Ow _ _ _ hb1,g.size]
 have gg:Good {t with place:=iT t.place (below t.place j) j} (n+1):=by
  refine⟨sz,fun i k hik hk=>?_,fun i hi=>?_,g.dum,g.msk,hf⟩;have hk:k<n+1:=by rw[<- sz];exact hk
  show(iT t.place (below t.place j) j).getD i 0<(iT t.place (below t.place j) j).getD k 0;rw[gd i,gd k];by_cases h1:k<below t.place j;rw[aW9 h1,aW9 (by lia)];exact g.rise i k hik (by rw[g.size];lia);rw[aX0 h1];by_cases h2:k=below t.place j;rw[aW9 h2,aW9 (by lia)];exact b2 i (by lia);rw[aX0 h2];by_cases h3:i<below t.place j;rw[aW9 h3];exact g.rise i (k-1) (by lia) (by rw[g.size];lia);rw[aX0 h3];by_cases h4:i=below t.place j;rw[aW9 h4];exact gt (k-1) (by lia) (by lia);rw[aX0 h4];exact g.rise (i-1) (k-1) (by lia) (by rw[g.size];lia);show(iT t.place (below t.place j) j).getD i 0<=t.mask;rw[gd i];by_cases h1:i<below t.place j;rw[aW9 h1];exact g.le i (by lia);rw[aX0 h1];by_cases h2:i=below t.place j;rw[aW9 h2];exact hj;rw[aX0 h2];exact g.le (i-1) (by lia)
 refine⟨gg,rfl,b1,rfl,fun k=>?_,rfl⟩;rw[fK gg,fK g];show(∀i,i<n+1->(iT t.place (below t.place j) j).getD i 0≠k)↔_;constructor;intro h;refine⟨fun i hi e=>?_,fun e=>?_⟩;by_cases h1:i<below t.place j;exact h i (by lia) (by rw[gd i,aW9 h1];exact e);exact h (i+1) (by lia) (by rw[gd (i+1),aX0 (by lia),aX0 (by lia)];exact e);exact h (below t.place j) (by lia) (by rw[gd,aX0 (by lia),aW9 rfl];exact e.symm);rintro⟨h,aM6⟩ i hi e;rw[gd i]at e;by_cases h1:i<below t.place j;rw[aW9 h1]at e;exact h i (by lia) e;rw[aX0 h1]at e;by_cases h2:i=below t.place j;rw[aW9 h2]at e;exact aM6 e.symm;rw[aX0 h2]at e;exact h (i-1) (by lia) e
def tP(t:gG)(h:Int)(j:Nat):Prop:=∃k,(W t.mask (t.probeStart h) k).j=j/\∀m,m<k->t.slot (W t.mask (t.probeStart h) m).j≠ .empty
def Paths(t:gG)(hs:Nat->Int)(n:Nat):Prop:=∀i,i<n->tP t (hs i) (t.place.getD i 0)
def least{p:Nat->Prop}[DecidablePred p]{k:Nat}(h:p k):∃d,d<=k/\p d/\∀m,m<d->¬ p m:=by
 induction k using Nat.strongRecOn with
 | _ k ih=>by_cases q:∃m,m<k/\p m;refine aO q fun m hm pm=>?_;clear q;refine cC (ih m hm pm) fun d hd a b=>?_;exact⟨d,by lia,a,b⟩;exact⟨k,aZ _,h,fun m hm pm=>q ⟨m,hm,pm⟩⟩
def dist{t:gG}{n:Nat}(g:Good t n)(h:Int):∃d,d<=10*(t.mask+13)/\t.slot (W t.mask (t.probeStart h) d).j = .empty/\∀m,m<d->t.slot (W t.mask (t.probeStart h) m).j≠ .empty:=by
 refine aO (GC g) fun e he se=>?_;refine aO (reach g.msk h he) fun k hk ek=>?_;obtain⟨d,hd,a,b⟩:=least (p:=fun m=>t.slot (W t.mask (t.probeStart h) m).j = .empty) (k:=k) (by rw[wX,ek];exact se);exact⟨d,by lia,a,b⟩
theorem Iu(g:Good t n)(hashAt:Nat->Int)(h:Int):∀(d:Nat) (p:Probe) (fuel:Nat),p.dummy=none->d<fuel->t.slot (W t.mask p d).j = .empty->(∀m,m<d->t.slot (W t.mask p m).j≠ .empty)->
  (∃m i,m<d/\i<n/\t.slot (W t.mask p m).j = .live i/\hashAt i=h/\(∀m',m'<m->∀i',t.slot (W t.mask p m').j = .live i'->hashAt i'≠h)/\probe.go t hashAt h fuel p=some (.candidate (W t.mask p m).j i (W t.mask p (m+1))))\/
  ((∀m,m<d->∀i,t.slot (W t.mask p m).j = .live i->hashAt i≠h)/\probe.go t hashAt h fuel p=some (.empty (W t.mask p d).j none))
 | 0,p,fuel+1,hd,_,he,_=>by
  refine .inr ⟨fun m hm=>aY1 hm (jf _),?_⟩;unfold probe.go;have Tc:t.slot p.j = .empty:=he;rw[Tc,hd];rfl
 | d+1,p,fuel+1,hd,hf,he,hb=>by
  have h0:t.slot p.j≠ .empty:=hb 0 (by lia);rcases x6 g p.j with⟨i,hi,_,q⟩|⟨_,q⟩;by_cases hh:hashAt i=h;refine .inl ⟨0,i,by lia,hi,q,hh,fun m hm=>aY1 hm (jf _),?_⟩;unfold probe.go;rw[q];dsimp only;rw[aW9 (aX3.mpr hh),wW];rfl;have e:probe.go t hashAt h (fuel+1) p=probe.go t hashAt h fuel (kH t.mask p):=by
   conv=>lhs;unfold probe.go
   rw[q];dsimp only;rw[aX0 (fun z=>hh (aX3.mp z)),wW]
  rw[e];rcases Iu g hashAt h d (kH t.mask p) fuel (wY _ _ hd) (by lia) he (fun m hm=>hb (m+1) (by lia))with⟨m,i',a1,a2,a3,a4,a5,a6⟩|⟨a1,a2⟩;refine .inl ⟨m+1,i',by lia,a2,a3,a4,fun m' yw i'' q'=>?_,a6⟩;cases m' with
  | zero=>have q2:t.slot p.j = .live i'':=q';rw[q]at q2;cases q2;exact hh
  | succ m'=>exact a5 m' (by lia) i'' q'
  refine .inr ⟨fun m hm i'' q'=>?_,a2⟩;cases m with
  | zero=>have q2:t.slot p.j = .live i'':=q';rw[q]at q2;cases q2;exact hh
  | succ m=>exact a1 m (by lia) i'' q'
  exact aY1 q h0
def JP(g:Good t n)(hj:j<=t.mask)(he:t.slot j = .empty)(hf:n+1<t.mask){EF:Nat->Int}(P:Paths t hs n)
  (hh:∀i,i<n+1->EF i=if i<below t.place j then hs i else if i=below t.place j then h else hs (i-1)) (hp:tP t h j):Paths (t.put j).1 EF (n+1):=by
 refine uI (CW g hj he hf) fun gg _ hb hm hsl yr=>?_;have keep:∀{h':Int} {k:Nat},tP t h' k->tP (t.put j).1 h' k:=by
  rintro h' k ⟨s,e,b⟩;have es:(t.put j).1.probeStart h'=t.probeStart h':=by rw[wX,wX,hm]
  refine⟨s,by rw[hm,es];exact e,fun m yw z=>?_⟩;rw[hm,es]at z;exact b m yw ((hsl _).mp z).1
 intro i hi;rw[yr,CV _ _ _ (by rw[g.size];exact hb),hh i hi];by_cases h1:i<below t.place j;rw[aW9 h1,aW9 h1];exact keep (P i (by lia));rw[aX0 h1,aX0 h1];by_cases h2:i=below t.place j;rw[aW9 h2,aW9 h2];exact keep hp;rw[aX0 h2,aX0 h2];exact keep (P (i-1) (by lia))
def C7(owner:Array (Option Nat))(j:Nat):Bool:=(owner.getD j (some 0)).isSome
def st(mask:Nat)(h:Int):Probe:=Lu mask (bits h % (mask+1)) (bits h)
theorem zw{mask:Nat}(owner:Array (Option Nat))(hz:owner.size=mask+1):∀(fuel i kI n:Nat),i<mask+1->n<fuel->C7 owner (G mask n i kI).1=false->
  ∃k j,layClean.free mask owner fuel i kI=some j/\(W mask (Lu mask i kI) k).j=j/\j<mask+1/\C7 owner j=false/\∀m,m<k->C7 owner (W mask (Lu mask i kI) m).j=true
 | fuel+1,i,kI,n,hi,hn,he=>by
  have aV6:runEnd mask i<=mask:=by unfold runEnd;split <;> lia
  have Wx:i<=runEnd mask i:=by unfold runEnd;split <;> lia
  have hW:∀m,m<=runEnd mask i-i->(W mask (Lu mask i kI) m).j=i+m:=fun m hm=>by rw[Ou mask m (Lu mask i kI) hm];rfl
  unfold layClean.free;cases hf:(cU (runEnd mask i+1-i)).find? (fun k=>(owner.getD (i+k) (some 0)).isNone)with
  | some k=>
   dsimp only;rw[List.find?_range_eq_some]at hf;refine wg hf fun a b c=>?_;clear hf;have hk:k<runEnd mask i+1-i:=m6.mp b;refine⟨k,i+k,rfl,hW k (by lia),by lia,?_,fun m hm=>?_⟩;unfold C7;cases q:owner.getD (i+k) (some 0)with
   | none=>rfl
   | some z=>rw[q]at a;cases a
   rw[hW m (by lia)];have q:=c m hm;unfold C7;cases q2:owner.getD (i+m) (some 0)with
   | none=>rw[q2]at q;cases q
   | some z=>rfl
  | none=>
   dsimp only;rw[List.find?_range_eq_none]at hf;have oH:∀m,m<runEnd mask i+1-i->C7 owner (i+m)=true:=fun m hm=>by
    have q:=hf m hm;unfold C7;cases q2:owner.getD (i+m) (some 0)with
    | none=>rw[q2]at q;cases q
    | some z=>rfl
   cases n with
   | zero=>
    have:C7 owner i=true:=by have:=oH 0 (by lia);rwa [F8]at this
    have Tc:C7 owner i=false:=he;rw[this]at Tc;cases Tc
   | succ n=>
    refine Jq (zw owner hz fuel (leap mask i kI).1 (leap mask i kI).2 n (qf _ (sR _)) (by lia) he) fun k j e1 e2 e3 e4 e5=>?_;refine⟨runEnd mask i-i+1+k,j,e1,by rw[oM,GB];exact e2,e3,e4,fun m hm=>?_⟩;by_cases hm1:m<runEnd mask i-i+1;rw[hW m (by lia)];exact oH m (by lia);obtain⟨r,rfl⟩:∃r,m=runEnd mask i-i+1+r:=⟨m-(runEnd mask i-i+1),by lia⟩
    rw[oM,GB];exact e5 r (by lia)
theorem aq7{mask:Nat}:∀(k:Nat) (p:Probe),p.j+p.more<=mask->(W mask p k).j<=mask
 | 0,p,h=>by show p.j<=mask;lia
 | k+1,p,h=>by
  refine aq7 k (kH mask p) ?_;unfold kH;split;show p.j+1+(p.more-1)<=mask;lia;show(leap mask p.i p.perturb).1+(runEnd mask (leap mask p.i p.perturb).1-(leap mask p.i p.perturb).1)<=mask;have:(leap mask p.i p.perturb).1<mask+1:=qf _ (sR _);unfold runEnd;split <;> lia
def Wy(mask:Nat)(h:Int)(k:Nat):(W mask (st mask h) k).j<=mask:=by
 refine aq7 k _ ?_;show bits h % (mask+1)+(runEnd mask (bits h % (mask+1))-bits h % (mask+1))<=mask;have:bits h % (mask+1)<mask+1:=qf _ (sR _);unfold runEnd;split <;> lia
structure Own(mask:Nat)(hs:Nat->Int)(owner:Array (Option Nat))(q:Nat):Prop where
 size:owner.size=mask+1
 lt:∀(j a:Nat),owner[j]?=some (some a)->a<q
 at':∀(a:Nat),a<q->∃j,owner[j]?=some (some a)/\∃k,(W mask (st mask (hs a)) k).j=j/\∀m,m<k->C7 owner (W mask (st mask (hs a)) m).j=true
 uniq:∀(a j j':Nat),owner[j]?=some (some a)->owner[j']?=some (some a)->j=j'
 cnt:owner.toList.countP Option.isNone=mask+1-q
def JQ(mask:Nat)(hs:Nat->Int):Own mask hs (Array.replicate (mask+1) none) 0:=by
 have no:∀(j a:Nat),(Array.replicate (mask+1) (none:Option Nat))[j]?≠some (some a):=fun j a h=>by rw[Array.getElem?_replicate]at h;split at h <;> cases h
 refine⟨by simp,fun j a h=>aY1 h (no j a),fun a h=>aY1 h (jf _),fun a j _ h=>aY1 h (no j a),?_⟩;rw[Array.toList_replicate,List.countP_replicate];rfl
def occ_none(h:C7 owner j=false):owner[j]?=some none:=by
 unfold C7 at h;rw[iR]at h;cases q:owner[j]? with
 | none=>rw[q]at h;cases h
 | some z=>cases z with
  | none=>rfl
  | some _=>rw[q]at h;cases h
def CY{owner:Array (Option Nat)}(h:owner[j]?=some none):C7 owner j=false:=by
 unfold C7;rw[iR,h];rfl
def Td{owner:Array (Option Nat)}(hj:j<owner.size)(i:Nat):(owner.setIfInBounds j (some q))[i]?=if i=j then some (some q)else owner[i]?:=by
 rw[Array.getElem?_setIfInBounds];by_cases e:i=j;subst e;simp[hj];rw[aX0 (fun z=>e z.symm),aX0 e]
def Ox{mask:Nat}(hm:Lv mask){hs:Nat->Int}{owner:Array (Option Nat)}{q:Nat}(o:Own mask hs owner q)(hq:q<mask+1) :
  ∃j,layClean.free mask owner (turns mask) (bits (hs q) % (mask+1)) (bits (hs q))=some j/\Own mask hs (owner.setIfInBounds j (some q)) (q+1):=by
 have hc:0<owner.toList.countP Option.isNone:=by rw[o.cnt];lia
 refine aO (List.countP_pos_iff.mp hc) fun x hx hn=>?_;obtain⟨e,he,ex⟩:=iQ.mp hx;have CZ:e<owner.size:=by rw[<- d7];exact he
 have e0:owner[e]?=some none:=by
  rw[<- lQ,dz he,ex];cases x with
  | none=>rfl
  | some _=>cases hn
 obtain⟨n,wz,en⟩:=Ip hm (hs q) (e:=e) (by rw[<- o.size];exact CZ);obtain⟨k,j,f1,f2,f3,f4,f5⟩:=zw owner o.size (turns mask) (bits (hs q) % (mask+1)) (bits (hs q)) n (qf _ (sR _)) (by unfold turns;lia) (by rw[en];exact CY e0);refine⟨j,f1,?_⟩;have hj:j<owner.size:=by rw[o.size];exact f3
 have g:=Td (q:=q) hj;have jn:owner[j]?=some none:=occ_none f4;have up:∀i,C7 owner i=true->C7 (owner.setIfInBounds j (some q)) i=true:=fun i h=>by unfold C7 at h ⊢;rw[iR]at h ⊢;rw[g i];by_cases z:i=j;rw[aW9 z];rfl;rw[aX0 z];exact h
 refine⟨by rw[Array.size_setIfInBounds];exact o.size,fun i a h=>?_,fun a ha=>?_,fun a i i' h h'=>?_,?_⟩;rw[g i]at h;by_cases z:i=j;rw[aW9 z]at h;cases h;lia;rw[aX0 z]at h;have:=o.lt i a h;lia;by_cases z:a=q;subst z;exact⟨j,by rw[g,aW9 rfl],k,f2,fun m yw=>up _ (f5 m yw)⟩;obtain⟨i,b1,k',b2,b3⟩:=o.at' a (by lia);refine⟨i,?_,k',b2,fun m yw=>up _ (b3 m yw)⟩;rw[g,aX0,b1];rintro rfl;rw[jn]at b1;cases b1;rw[g i]at h;rw[g i']at h';by_cases z:i=j;by_cases z':i'=j;rw[z,z'];rw[aW9 z]at h;rw[aX0 z']at h';cases h;exact aY1 (o.lt _ _ h') (qT _);by_cases z':i'=j;rw[aX0 z]at h;rw[aW9 z']at h';cases h';exact aY1 (o.lt _ _ h) (qT _);rw[aX0 z]at h;rw[aX0 z']at h';exact o.uniq a i i' h h';rw[Array.toList_setIfInBounds];have hj':j<owner.toList.length:=by rw[d7];exact hj
 rw[List.countP_set hj',o.cnt];have ej:owner.toList[j]=none:=by
  have q1:owner.toList[j]?=some none:=by rw[lQ];exact jn
  rw[dz hj']at q1;exact eN q1
 rw[ej];simp;lia
theorem D0{mask:Nat}(hm:Lv mask){hs:Nat->Int}:∀(l:List Int) (owner:Array (Option Nat)) (q:Nat),Own mask hs owner q->q+l.length<=mask->(∀i,i<l.length->l[i]?=some (hs (q+i)))->
  ∃Bc,l.foldl (init:=some (owner,q)) (fun acc h=>do
   let(owner,k) <- acc
   let j <- layClean.free mask owner (turns mask) (bits h % (mask+1)) (bits h)
   pure (owner.setIfInBounds j (some k),k+1))=some (Bc,q+l.length)/\Own mask hs Bc (q+l.length)
 | [],owner,q,o,_,_=>⟨owner,rfl,o⟩
 | h::r,owner,q,o,hl,hh=>by
  have e0:h=hs q:=by have:=hh 0 (by simp);simpa using this
  obtain⟨j,f1,o1⟩:=Ox hm o (by simp only[cK]at hl;lia);obtain⟨Bc,e,o2⟩:=D0 hm r (owner.setIfInBounds j (some q)) (q+1) o1 (by simp only[cK]at hl;lia) (fun i hi=>by
   have:=hh (i+1) (by simp;lia);simp only[Ms]at this;rw[this,show q+(i+1)=q+1+i by lia])
  refine⟨Bc,?_,by rw[cK,show q+(r.length+1)=q+1+r.length by lia];exact o2⟩;rw[Mm];have e1:(do
   let(owner,k) <- (some (owner,q):Option (Array (Option Nat)×Nat))
   let j <- layClean.free mask owner (turns mask) (bits h % (mask+1)) (bits h)
   pure (owner.setIfInBounds j (some k),k+1))=some (owner.setIfInBounds j (some q),q+1):=by
   show(do
    let j <- layClean.free mask owner (turns mask) (bits h % (mask+1)) (bits h)
    pure (owner.setIfInBounds j (some q),q+1))=_
   rw[e0,f1];rfl
  rw[e1,e,cK,show q+(r.length+1)=q+1+r.length by lia]
def GF{mask:Nat}(hm:Lv mask)(hashes:Array Int)(hn:hashes.size<=mask):∃owner,layClean mask hashes=some owner/\Own mask (fun i=>hashes.getD i 0) owner hashes.size:=by
 obtain⟨owner,e,o⟩:=D0 hm (hs:=fun i=>hashes.getD i 0) hashes.toList (Array.replicate (mask+1) none) 0 (JQ mask _) (by rw[d7];lia) (fun i hi=>by
  rw[d7]at hi;rw[lQ,kq];simp[Array.getD,hi])
 rw[d7,kq]at e o;refine⟨owner,?_,o⟩;unfold layClean;rw[<- Array.foldl_toList,e];rfl
def live(mask:Nat)(owner:Array (Option Nat)):List (Nat×Nat):=(cU (mask+1)).filterMap fun j=>(owner.getD j none).map (j,·)
def x8{mask:Nat}{owner:Array (Option Nat)}(hz:owner.size=mask+1){j a:Nat}:(j,a)∈live mask owner↔owner[j]?=some (some a):=by
 unfold live;rw[Cf];constructor;rintro⟨x,hx,e⟩;cases q:owner.getD x none with
 | none=>rw[q]at e;cases e
 | some b=>
  rw[q]at e;cases e;rw[iR]at q;cases q2:owner[j]? with
  | none=>rw[q2]at q;cases q
  | some z=>rw[q2]at q;have q:z=some a:=q;rw[q]
 intro h;have hj:j<owner.size:=(oj.mp h).1;exact⟨j,m6.mpr (by lia),by rw[iR,h];rfl⟩
def JR(mask:Nat)(owner:Array (Option Nat)):(live mask owner).Pairwise fun x y=>x.1<y.1:=by
 unfold live;refine X5 _ ?_ Mt;intro a a' haa b hb b' n6;cases q:owner.getD a none with
 | none=>rw[q]at hb;cases hb
 | some z=>
  cases q':owner.getD a' none with
  | none=>rw[q']at n6;cases n6
  | some z'=>rw[q]at hb;rw[q']at n6;cases hb;cases n6;exact haa
def Bd{owner:Array (Option Nat)}(hz:owner.size=n):owner.toList=(cU n).map fun j=>owner.getD j none:=by
 refine vL fun i=>?_;rw[lQ,cY];by_cases h:i<n;rw[Fv h];have h':i<owner.size:=by lia
 simp[Array.getD,h'];rw[qk (by lia),nW (by simp;lia)];rfl
def Oz{mask:Nat}{hs:Nat->Int}{owner:Array (Option Nat)}{n:Nat}(o:Own mask hs owner n)(hn:n<=mask+1):(live mask owner).length=n:=by
 unfold live;rw[List.length_filterMap_eq_countP];have e1:List.countP (fun j=>((owner.getD j none).map fun x=>(j,x)).isSome) (cU (mask+1))=owner.toList.countP Option.isSome:=by rw[Bd o.size,List.countP_map];congr 1;funext j;simp
 rw[e1];have e2:=List.length_eq_countP_add_countP (p:=Option.isNone) (l:=owner.toList);rw[o.cnt,d7,o.size]at e2;have e3:owner.toList.countP Option.isSome=List.countP (fun a=>decide ¬ (Option.isNone a=true)) owner.toList:=by congr 1;funext a;cases a <;> rfl
 lia
def JS{mask n:Nat}(hm:Lv mask)(hashes:Array Int)(hz:hashes.size=n)(hn:n<mask)(finger moves:Nat)(led plain:Bool) :
  ∃t' order,laid mask finger moves led plain hashes=some (t',order)/\Good t' n/\t'.mask=mask/\t'.led=led/\t'.plain=plain/\order.size=n/\(∀m,m<n->order.getD m 0<n)/\
   (∀m m',m<n->m'<n->order.getD m 0=order.getD m' 0->m=m')/\(∀a,a<n->∃m,m<n/\order.getD m 0=a)/\Paths t' (fun m=>hashes.getD (order.getD m 0) 0) n:=by
 refine aO (GF hm hashes (by lia)) fun owner e o=>?_;rw[hz]at o;have ll:=Oz o (by lia);refine⟨{mask,place:=((live mask owner).map (·.1)).toArray,dummies:=#[],finger,led,moves,plain},((live mask owner).map (·.2)).toArray,?_,?_⟩;unfold laid;rw[e];rfl;have gp:∀m,m<n->∃j a,(live mask owner)[m]?=some (j,a)/\(((live mask owner).map (·.1)).toArray).getD m 0=j/\(((live mask owner).map (·.2)).toArray).getD m 0=a/\owner[j]?=some (some a):=fun m h=>by
  have h':m<(live mask owner).length:=by lia
  refine⟨((live mask owner)[m]).1,((live mask owner)[m]).2,dz h',?_,?_,(x8 o.size).mp (t8 h')⟩;simp[Array.getD,h'];simp[Array.getD,h']
 have pw:=qg.mp (JR mask owner);have rise:uy (((live mask owner).map (·.1)).toArray):=fun i j mK hj=>by
  have hj:j<(live mask owner).length:=by simpa using hj
  have hi:i<(live mask owner).length:=by lia
  have:=pw i j hi hj mK;simpa[Array.getD,hi,hj]using this
 have good:Good {mask,place:=((live mask owner).map (·.1)).toArray,dummies:=#[],finger,led,moves,plain} n:=by refine⟨by simp[ll],rise,fun i hi=>?_,rfl,hm,hn⟩;refine uJ (gp i hi) fun j a _ e2 _ e4=>?_;show(((live mask owner).map (·.1)).toArray).getD i 0<=mask;rw[e2];have:=(oj.mp e4).1;have:=o.size;lia
 refine⟨good,rfl,rfl,rfl,by simp[ll],fun m h=>?_,fun m m' h h' q=>?_,fun a h=>?_,fun m h=>?_⟩;refine uJ (gp m h) fun j a _ _ e3 e4=>?_;rw[e3];exact o.lt j a e4;refine uJ (gp m h) fun j a _ e2 e3 e4=>?_;refine uJ (gp m' h') fun j' a' _ e2' e3' e4'=>?_;rw[e3,e3']at q;subst q;have ej:=o.uniq a j j' e4 e4';rcases sS m m' with z|z|z;have:=rise m m' z (by simp[ll];exact h');lia;exact z;have:=rise m' m z (by simp[ll];exact h);lia;refine aO (o.at' a h) fun j b _=>?_;obtain⟨m,yw,em⟩:=iQ.mp ((x8 (mask:=mask) o.size).mpr b);refine⟨m,by lia,?_⟩;simp[Array.getD,yw,em];refine uJ (gp m h) fun j a _ e2 e3 e4=>?_;obtain⟨j',b1,k,b2,b3⟩:=o.at' a (o.lt j a e4);have ej:=o.uniq a j j' e4 b1;subst ej;dsimp only;rw[e2,e3];refine⟨k,b2,fun m' yw z=>?_⟩;have z:=(fK good _).mp z;have oc:=b3 m' yw;have inr:(W mask (st mask (hashes.getD a 0)) m').j<=mask:=Wy mask _ m';unfold C7 at oc;rw[iR]at oc;cases q:owner[(W mask (st mask (hashes.getD a 0)) m').j]? with
 | none=>have:=MS.mp q;have:=o.size;lia
 | some x=>
  cases x with
  | none=>rw[q]at oc;cases oc
  | some b=>obtain⟨r,hr,er⟩:=iQ.mp ((x8 (mask:=mask) o.size).mpr q);refine z r (by lia) ?_;dsimp only;simp[Array.getD,hr,er];rfl
end Tb
namespace Ts
open PySem PySem.SetTable Tb
structure oO(prog:cS)(w:bI)(K:Type)[DecidableEq K] extends HeapKind prog w K where
 OA:∀{A:bX} {E:au->ay->Prop} {s:ay} {k:K} {a:av} {Q:Bool->ay->Prop},is s.heap k a->Q false s->aA (aC prog w) A (ofAClassStatement 8 (.ref a)) Q E s
 Wz:∀{A:bX} {E:au->ay->Prop} {s:ay} {k:K} {a:av} {Q:Bool->ay->Prop},is s.heap k a->Q true s->aA (aC prog w) A (hashByValue 8 (.ref a)) Q E s
 mono:∀{h h':aQ} {k:K} {a:av},is h k a->(∀b o,h.get? b=some o->o.cls = .type "tuple" ->h'.get? b=some o)->is h' k a
section
variable {prog:cS}{w:bI}{K:Type}[DecidableEq K]{κ:oO prog w K}
def stays(κ:oO prog w K)(x:κ.is h k a)(ho:h.get? d=some o)(hc:o.cls = .type "set")(sb:gH d h h'):κ.is h' k a:=
 κ.mono x fun b ob e hb=>by
  rw[sb.2 b ?_];exact e;rintro rfl;obtain rfl:=eN (e.symm.trans ho);rw[hc]at hb;exact aY1 hb (by decide)
def entry(κ:oO prog w K)(x:K×av):Int×au:=(κ.hash x.1,.ref x.2)
structure iK(κ:oO prog w K)(h:aQ)(a:av)(led:Bool)(xs:List (K×av))(o:Obj)(ep:Nat)(t:gG):Prop where
 obj:h.get? a=some o
 nc:o.ExactSet
 data:o.data = .set (xs.map (entry κ)).toArray ep t
 good:Good t xs.length
 Iv:Paths t (fun i=>((xs.map (entry κ)).toArray[i]?.map (·.1)).getD 0) xs.length
 JT:t.led=led
 plain:t.plain=true
 n8:xs.length*5<t.mask*3
 keys:(xs.map (·.1)).Nodup
 each:∀x∈xs,κ.is h x.1 x.2
def fits_of(g:Good t n):t.fits n=true:=by
 unfold SetTable.fits SetTable.fill;rw[g.dum,g.size];have:=g.n8;simp;lia
variable {A:bX}{E:au->ay->Prop}{s:ay}{a b:av}{led:Bool}{xs:List (K×av)}{o:Obj}{ep:Nat}{t:gG}{k:K}
def j6{Q:(Array (Int×au)×Nat×gG)->ay->Prop}(S:iK κ s.heap a led xs o ep t)(h:Q ((xs.map (entry κ)).toArray,ep,t) s):aA (aC prog w) A (setState a) Q E s:=
 LJ S.obj S.data (by simpa using fits_of S.good) h
def Te{Q:Bool->ay->Prop}{l:List (K×av)}(hx:κ.is s.heap k b)(hl:∀x∈l,κ.is s.heap x.1 x.2)(h:Q false s) :
  aA (aC prog w) A (searchCouldBeSeen (.ref b) (l.map fun x=>eG x.2)) Q E s:=by
 unfold searchCouldBeSeen;refine ak (lI _ (fun rest r s'=>r.1=none/\s'=s/\∃(l':List (K×av)),rest=l'.map (fun x:K×av=>eG x.2)/\∀x∈l',κ.is s.heap x.1 x.2) _ ?_ ?_ _ _ ⟨rfl,rfl,l,rfl,hl⟩);rintro v rest r s' ⟨hr,rfl,l',D3,hk⟩;cases l' with
 | nil=>cases D3
 | cons x l'=>
  rw[aW]at D3;injection D3 with e1 e2;subst e1;have nx:r.1=none/\s'=s'/\∃(l'':List (K×av)),rest=l''.map (fun x:K×av=>eG x.2)/\∀x∈l'',κ.is s'.heap x.1 x.2:=⟨hr,rfl,l',e2,fun y hy=>hk y (nS _ hy)⟩
  have Iw:=hk x uo;dsimp only;split;exact aB ⟨rfl,rfl,nx.2.2⟩;refine ak (κ.quiet hx ?_);simp only[iC,cP,aX7];refine ak (κ.quiet Iw ?_);simp only[iC,cP,aX7];refine ak (κ.OA hx ?_);simp only[cP,aX7];refine ak (κ.OA Iw ?_);simp only[cP,aX7];exact aB ⟨rfl,rfl,nx.2.2⟩
 rintro⟨r1,r2⟩ s' ⟨hr,rfl,_⟩;simp only at hr;subst hr;exact aB h
def jY(xs:List (K×av))(i:Nat):(xs.map (entry κ)).toArray[i]?=xs[i]?.map (entry κ):=by simp
def JU{Q:SetFound->ay->Prop}(S:iK κ s.heap a led xs o ep t)(hr:κ.room A)(hx:κ.is s.heap k b)
  (hT:k∈xs.map (·.1)->Q (.there none) s)
  (hF:k∉xs.map (·.1)->∀j,j<=t.mask->t.slot j = .empty->tP t (κ.hash k) j->Q (.free j false) s)
  {D:Nat} (hD:D<=10*(t.mask+13)) (hE:t.slot (W t.mask (t.probeStart (κ.hash k)) D).j = .empty) (hB:∀m,m<D->t.slot (W t.mask (t.probeStart (κ.hash k)) m).j≠ .empty) :
  ∀(r m0 fuel:Nat),m0+r=D->r<fuel->(∀m i,m<m0->t.slot (W t.mask (t.probeStart (κ.hash k)) m).j = .live i->∀x,xs[i]?=some x->x.1≠k)->
   ∀zx:Option Probe,zx.getD (t.probeStart (κ.hash k))=W t.mask (t.probeStart (κ.hash k)) m0->
   aA (aC prog w) A (setSearchFrom a (.ref b) (κ.hash k) true fuel zx) Q E s:=by
 intro r;induction r using Nat.strongRecOn with
 | _ r ih=>
  intro m0 fuel hm hf hv zx pG;obtain⟨fuel,rfl⟩:∃f,fuel=f+1:=⟨fuel-1,by lia⟩
  unfold setSearchFrom;refine ak (j6 S ?_);dsimp only;have hgw:t.gaveWay=false:=by unfold SetTable.gaveWay;rcases S.good.msk with e|e|e <;> rw[e] <;> rfl
  rw[hgw];simp only[cP,aX7];have sp:=Iu S.good (fun i=>((xs.map (entry κ)).toArray[i]?.map (·.1)).getD 0) (κ.hash k) r (W t.mask (t.probeStart (κ.hash k)) m0) (10*turns t.mask) (Io _ _ _ rfl) (by unfold turns;lia)
   (by rw[<- oM,hm];exact hE) (fun m yw=>by rw[<- oM];exact hB _ (by lia))
  have hpr:t.probe (fun i=>((xs.map (entry κ)).toArray[i]?.map (·.1)).getD 0) (κ.hash k) (zx.getD (t.probeStart (κ.hash k)))=probe.go t (fun i=>((xs.map (entry κ)).toArray[i]?.map (·.1)).getD 0) (κ.hash k) (10*turns t.mask) (W t.mask (t.probeStart (κ.hash k)) m0):=by rw[pG];rfl
  rcases sp with⟨m,i,h1,h2,h3,h4,h5,h6⟩|⟨h1,h2⟩;have Oj:=hpr.trans h6;generalize hpq:t.probe _ (κ.hash k) (zx.getD (t.probeStart (κ.hash k)))=pr;obtain rfl:=hpq.symm.trans Oj;dsimp only;obtain⟨x,Yo⟩:∃x,xs[i]?=some x:=⟨xs[i],dz h2⟩
  have hxm:x∈xs:=jg Yo;have rest:aA (aC prog w) A (do
    let some (_,y):=(xs.map (entry κ)).toArray[i]?|unsupported "internal:set-entry"
    let equal <- holding [y] (eqBool y (.ref b))
    let(Cr,_,t') <- setState a
    if true&&equal then return .there none
    let some same:=t'.sameMemory t.moves t.mask|unsupported "set.changed-during-lookup:is-the-new-block-at-the-old-address"
    let aq8 <- match(if same then t'.slot (W t.mask (W t.mask (t.probeStart (κ.hash k)) m0) m).j else .empty)with
     | .live i'=>match Cr[i']? with
      | some (_,y')=>do pure (if <- isSame y' y then some i' else none)
      | none=>pure none
     | _=>pure none
    match aq8 with
    | none=>rule "set.search.anew";setSearchFrom a (.ref b) (κ.hash k) true fuel none
    | some i'=>if equal then return .there (some i')else setSearchFrom a (.ref b) (κ.hash k) true fuel (some (W t.mask (W t.mask (t.probeStart (κ.hash k)) m0) (m+1)))) Q E s:=by
   rw[jY,Yo]
   dsimp only[Option.map,entry]
   refine ak (iN (κ.eqBool hr (S.each x hxm) hx ?_))
   refine ak (j6 S ?_)
   dsimp only
   by_cases hk:x.1=k
   ·rw[aX1 hk]
    simp only[Bool.and_self,aX8]
    exact aB (hT (aL.mpr ⟨x,hxm,hk⟩))
   ·rw[aX2 hk]
    simp only[FP,cP,aX7]
    have Iz:t.sameMemory t.moves t.mask=some true:=by unfold SetTable.sameMemory;rw[aW9 (by simp)]
    rw[Iz]
    dsimp only
    rw[aW9 rfl,h3]
    dsimp only
    rw[jY,Yo]
    dsimp only[Option.map,entry]
    refine ak (wpAny_isSame_ref_self (ak (aB ?_)))
    simp only[aX8]
    refine ih (r-(m+1)) (by lia) (m0+(m+1)) fuel (by lia) (by lia) (fun m' i' yw hl y hy=>?_) _ (by rw[<- oM];rfl)
    by_cases c1:m'<m0
    ·exact hv m' i' c1 hl y hy
    ·obtain⟨q,rfl⟩:∃q,m'=m0+q:=⟨m'-m0,by lia⟩
     rw[oM]at hl
     by_cases c2:q<m
     ·intro e
      refine h5 q c2 i' hl ?_
      show((xs.map (entry κ)).toArray[i']?.map (·.1)).getD 0=κ.hash k
      rw[jY,hy]
      show κ.hash y.1=κ.hash k
      rw[e]
     ·have:q=m:=by lia
      subst this
      rw[h3]at hl
      cases hl
      rw[Yo]at hy
      cases hy
      exact hk
  by_cases hl:led=true;have D3:t.led=true:=S.JT.trans hl;rw[D3];simp only[iC,cP,aX7];exact rest;have D3:t.led=false:=S.JT.trans (tE.mpr hl);rw[D3];simp only[Ay,aX8];have el:((((xs.map (entry κ)).toArray.filter (·.1==κ.hash k))).toList.map (·.2))=(xs.filter fun y=>κ.hash y.1==κ.hash k).map fun y=>eG y.2:=by rw[Array.toList_filter,List.filter_map,d9];rfl
  rw[el];refine ak (Te hx (fun y hy=>S.each y (lZ.mp hy).1) ?_);simp only[cP,aX7];exact rest;have Oj:=hpr.trans h2;generalize hpq:t.probe _ (κ.hash k) (zx.getD (t.probeStart (κ.hash k)))=pr;obtain rfl:=hpq.symm.trans Oj;dsimp only;have ej:(W t.mask (W t.mask (t.probeStart (κ.hash k)) m0) r).j=(W t.mask (t.probeStart (κ.hash k)) D).j:=by rw[<- oM,hm]
  rw[ej];refine aB (hF (fun Be=>?_) _ (Wy t.mask _ D) hE ⟨D,rfl,hB⟩);refine aO (aL.mp Be) fun x hxm ek=>?_;obtain⟨i,hi,ei⟩:=iQ.mp hxm;have Yo:xs[i]?=some x:=by rw[dz hi,ei]
  refine aO (S.Iv i hi) fun ki p1 p2=>?_;have hh:(fun i=>((xs.map (entry κ)).toArray[i]?.map (·.1)).getD 0) i=κ.hash k:=by show((xs.map (entry κ)).toArray[i]?.map (·.1)).getD 0=κ.hash k;rw[jY,Yo];show κ.hash x.1=κ.hash k;rw[ek]
  rw[hh]at p1 p2;have sl:t.slot (W t.mask (t.probeStart (κ.hash k)) ki).j = .live i:=by rw[p1];exact zv S.good hi
  have c1:ki<D:=by rcases sS ki D with c|c|c;exact c;subst c;rw[sl]at hE;cases hE;exact aY1 hE (p2 D c)
  by_cases c2:ki<m0;exact hv ki i c2 sl x Yo ek;obtain⟨q,rfl⟩:∃q,ki=m0+q:=⟨ki-m0,by lia⟩
  rw[oM]at sl;exact h1 q (by lia) i sl hh
end
section
variable {prog:cS}{w:bI}{K:Type}[DecidableEq K]{κ:oO prog w K}
variable {A:bX}{E:au->ay->Prop}{s:ay}{a b:av}{led:Bool}{xs:List (K×av)}{o:Obj}{ep:Nat}{t:gG}{k:K}
def iK.store(S:iK κ s.heap a led xs o ep t){ys:List (K×av)}(hg:Good t' ys.length)(hp:Paths t' (fun i=>((ys.map (entry κ)).toArray[i]?.map (·.1)).getD 0) ys.length)(hl:t'.led=led)(yr:t'.plain=true)
  (hk:(ys.map (·.1)).Nodup) (he:∀x∈ys,κ.is s.heap x.1 x.2) :
  let h':=s.heap.update a (Obj.putSet (ys.map (entry κ)).toArray t')
  gH a s.heap h'/\h'.get? a=some {o with data:=.set (ys.map (entry κ)).toArray (ep+1) t'}/\(∀x∈ys,κ.is h' x.1 x.2)/\
   (ys.length*5<t'.mask*3->iK κ h' a led ys {o with data:=.set (ys.map (entry κ)).toArray (ep+1) t'} (ep+1) t'):=by
 intro h';have sb:gH a s.heap h':=eS ..;have OB:h'.get? a=some {o with data:=.set (ys.map (entry κ)).toArray (ep+1) t'}:=by have:=mQ (Obj.putSet (ys.map (entry κ)).toArray t') S.obj (by rw[Ae _ t' S.data];rfl);rw[Ae _ t' S.data]at this;exact this
 have hi:∀x∈ys,κ.is h' x.1 x.2:=fun x hx=>stays κ (he x hx) S.obj S.nc.1 sb;exact⟨sb,OB,hi,fun hf=>⟨OB,S.nc,rfl,hg,hp,hl,yr,hf,hk,hi⟩⟩
def rH(h:(M=32/\16<=n/\n<32)\/(M=128/\64<=n/\n<128)):sizeAbove n=M:=by
 unfold sizeAbove;rcases h with⟨rfl,h1,h2⟩|⟨rfl,h1,h2⟩;unfold sizeAbove.go;rw[aW9 (by lia)];unfold sizeAbove.go;rw[aW9 (by lia)];unfold sizeAbove.go;rw[aX0 (by lia)];unfold sizeAbove.go;rw[aW9 (by lia)];unfold sizeAbove.go;rw[aW9 (by lia)];unfold sizeAbove.go;rw[aW9 (by lia)];unfold sizeAbove.go;rw[aW9 (by lia)];unfold sizeAbove.go;rw[aX0 (by lia)]
def yz(l:List α)(p:Nat)(x y:α):y∈l.take p++x::l.drop p↔y=x\/y∈l:=by
 rw[gh,bR];have:y∈l↔y∈l.take p\/y∈l.drop p:=by rw[<- gh,mR]
 rw[this];constructor;rintro(h|h|h);exact .inr (.inl h);exact .inl h;exact .inr (.inr h);rintro(h|h|h);exact .inr (.inl h);exact .inl h;exact .inr (.inr h)
def JV{l:List α}(p:Nat)(h:l.Nodup)(hx:x∉l):(l.take p++x::l.drop p).Nodup:=by
 have e:(l.take p++x::l.drop p).Perm (x::l):=by refine Mu.trans ?_;rw[mR]
 exact e.nodup_iff.mpr (iP.mpr ⟨hx,h⟩)
def reorder(l:List α)(order:Array Nat)(hl:l.length=n)(ho:order.size=n)(ie:∀m,m<n->order.getD m 0<n) :
  (order.toList.filterMap (fun i=>l[i]?)).length=n/\∀m,m<n->(order.toList.filterMap (fun i=>l[i]?))[m]?=l[order.getD m 0]?:=by
 have key:∀(q:List Nat),(∀i∈q,i<l.length)->(q.filterMap (fun i=>l[i]?)).length=q.length/\∀m,m<q.length->(q.filterMap (fun i=>l[i]?))[m]?=l[q.getD m 0]?:=by
  intro q;induction q with
  | nil=>intro _;exact⟨rfl,fun m h=>aY1 h (jf _)⟩
  | cons i q ih=>
   intro h;have hi:=h i uo;obtain⟨a1,a2⟩:=ih fun j hj=>h j (nS _ hj);rw[Mg (b:=l[i]) (dz hi)];refine⟨by rw[cK,cK,a1],fun m hm=>?_⟩;cases m with
   | zero=>simp[dz hi]
   | succ m=>simpa using a2 m (by simpa using hm)
 have hm:∀i∈order.toList,i<l.length:=fun i hi=>by
  obtain⟨m,h1,h2⟩:=iQ.mp hi;have hz:m<order.size:=by rw[<- d7];exact h1
  have:=ie m (by lia);have e:order.getD m 0=i:=by simp[Array.getD,hz];rw[<- h2];simp
  lia
 obtain⟨b1,b2⟩:=key order.toList hm;refine⟨by rw[b1,d7,ho],fun m h=>?_⟩;rw[b2 m (by rw[d7];lia)];congr 1;have hz:m<order.size:=by lia
 simp[Array.getD,List.getD,hz]
def OC{Q:Unit->ay->Prop}(ho:s.heap.get? a=some o)(hx:o.ExactSet)(hd:o.data = .set (xs.map (entry κ)).toArray ep t)(hg:Good t xs.length)(hl:t.led=led)(yr:t.plain=true)(hk:(xs.map (·.1)).Nodup)(he:∀x∈xs,κ.is s.heap x.1 x.2)
  (hM:Lv M) (hw:sizeAbove wanted=M+1) (hn:xs.length*5<M*3)
  (h:∀h' o' AG t' ys,gH a s.heap h'->iK κ h' a led ys o' AG t'->(∀x,x∈ys↔x∈xs)->ys.length=xs.length->Q () {s with heap:=h'}):aA (aC prog w) A (setRelay a wanted) Q E s:=by
 unfold setRelay;refine ak (LJ ho hd (by simpa using fits_of hg) ?_);dsimp only;have hM':M<200:=by rcases hM with e|e|e <;> lia
 rw[aX0 (by rw[hw,fQ];lia)];obtain⟨t',order,e1,g1,e2,e3,e4,e5,e6,e7,e8,e9⟩:=JS (n:=xs.length) hM (((xs.map (entry κ)).toArray).map (·.1)) (by simp) (by lia) t.finger (t.movedTo M) t.led t.plain;have hrl:t.relaid (((xs.map (entry κ)).toArray).map (·.1)) wanted=some (t',order):=by unfold SetTable.relaid;rw[hw,Am];exact e1
 rw[hrl];obtain⟨r1,r2⟩:=reorder xs order rfl e5 e6;have ent:order.filterMap (fun i=>((xs.map (entry κ)).toArray)[i]?)=((order.toList.filterMap (fun i=>xs[i]?)).map (entry κ)).toArray:=by apply Aw.mp;rw[Array.toList_filterMap,List.map_filterMap];congr 1;funext i;rw[jY]
 refine ak (sJ (a:=(((order.toList.filterMap (fun i=>xs[i]?)).map (entry κ)).toArray,t')) ?_ ?_)
 ·show(do
   if(order.filterMap (fun i=>((xs.map (entry κ)).toArray)[i]?)).size !=((xs.map (entry κ)).toArray).size then unsupported "internal:set-table-lost-an-element"
   pure (order.filterMap (fun i=>((xs.map (entry κ)).toArray)[i]?),t'):Sem (Array (Int×au)×gG))=_
  rw[ent,aX0 (by simp[r1])];first|done|rfl
 dsimp only;have len:(order.toList.filterMap (fun i=>xs[i]?)).length=xs.length:=r1;have mem:∀x,x∈order.toList.filterMap (fun i=>xs[i]?)↔x∈xs:=fun x=>by
  rw[Cf];constructor;rintro⟨i,_,e⟩;exact jg e;intro qY;obtain⟨i,hi,ei⟩:=iQ.mp qY;refine aO (e8 i hi) fun m hm em=>?_;have hz:m<order.size:=by lia
  refine⟨i,?_,by rw[dz hi,ei]⟩;have:order[m]=i:=by rw[<- em];simp[Array.getD,hz]
  rw[<- this];exact z5.mpr (Array.getElem_mem hz)
 have nd:((order.toList.filterMap (fun i=>xs[i]?)).map (·.1)).Nodup:=by
  rw[qi,qg];intro i j hi hj mK e;rw[bf,len]at hi hj;have gi:=r2 i hi;have gj:=r2 j hj;rw[dz (by lia),dz (e6 i hi)]at gi;rw[dz (by lia),dz (e6 j hj)]at gj;rw[t9,t9,eN gi,eN gj]at e;have pw:=qg.mp (qi.mp hk);have a1:order.getD i 0<(xs.map (·.1)).length:=by rw[bf];exact e6 i hi
  have a2:order.getD j 0<(xs.map (·.1)).length:=by rw[bf];exact e6 j hj
  rcases sS (order.getD i 0) (order.getD j 0)with c|c|c;exact pw _ _ a1 a2 c (by rw[t9,t9];exact e);have:=e7 i j hi hj c;lia;exact pw _ _ a2 a1 c (by rw[t9,t9];exact e.symm)
 have pth:Paths t' (fun i=>(((order.toList.filterMap (fun i=>xs[i]?)).map (entry κ)).toArray[i]?.map (·.1)).getD 0) (order.toList.filterMap (fun i=>xs[i]?)).length:=by
  rw[len];intro i hi;have q:=e9 i hi;have ee:(((order.toList.filterMap (fun i=>xs[i]?)).map (entry κ)).toArray[i]?.map (·.1)).getD 0=(((xs.map (entry κ)).toArray).map (·.1)).getD (order.getD i 0) 0:=by rw[jY,r2 i hi];generalize order.getD i 0=z;rw[iR,Array.getElem?_map,jY]
  show tP t' ((((order.toList.filterMap (fun i=>xs[i]?)).map (entry κ)).toArray[i]?.map (·.1)).getD 0) (t'.place.getD i 0);rw[ee];exact q
 have sb:gH a s.heap (s.heap.update a (Obj.putSet ((order.toList.filterMap (fun i=>xs[i]?)).map (entry κ)).toArray t')):=eS ..;have OB:=mQ (Obj.putSet ((order.toList.filterMap (fun i=>xs[i]?)).map (entry κ)).toArray t') ho (by rw[Ae _ t' hd];rfl);rw[Ae _ t' hd]at OB;refine LK ho hd (h _ _ (ep+1) t' (order.toList.filterMap (fun i=>xs[i]?)) sb ⟨OB,hx,rfl,by rw[len];exact g1,pth,e3.trans hl,e4.trans yr,by rw[len,e2];exact hn,nd,fun x qY=>stays κ (he x ((mem x).mp qY)) ho hx.1 sb⟩ mem len) ?_;rw[d8,bf,len,fQ];lia
def Yp{Q:Bool->ay->Prop}(S:iK κ s.heap a led xs o ep t)(hr:κ.room A)(hx:κ.is s.heap k b)(hn:xs.length<60)
  (h:∀c h' o' AG t' ys,gH a s.heap h'->iK κ h' a led ys o' AG t'->(∀x∈ys,x∈xs\/x=(k,b))->(∀x∈xs,x∈ys)->k∈ys.map (·.1)->ys.length<=xs.length+1->Q c {s with heap:=h',toks:=s.toks+κ.draws k}) :
  aA (aC prog w) A (setAdd a (.ref b)) Q E s:=by
 unfold setAdd;refine iN (ak (κ.pyHash hr hx ?_));have S':iK κ ({s with toks:=s.toks+κ.draws k}:ay).heap a led xs o ep t:=S;have qY:κ.is ({s with toks:=s.toks+κ.draws k}:ay).heap k b:=hx;refine cC (dist S.good (κ.hash k)) fun D d1 d2 d3=>?_;have hm:t.mask<=127:=by rcases S.good.msk with e|e|e <;> lia
 unfold setAddHashed setAddHashedIn;refine iN (ak (j6 S' ?_));dsimp only;have hsc:byScan (.ref b) (xs.map (entry κ)).toArray=false:=by simp[byScan,Value.scannable]
 rw[hsc];simp only[cP,aX7];unfold setSearch;refine ak (JU S' hr qY (fun Be=>?_) (fun Be j hj he hp=>?_) d1 d2 d3 D 0 100000 (by lia) (by lia) (fun m i h0=>aY1 h0 (jf _)) none rfl);dsimp only;refine aB (h false s.heap o ep t xs (.refl ..) S (fun x hx=>.inl hx) (fun x hx=>hx) Be (by lia));dsimp only;refine ak (j6 S' ?_);dsimp only;have hf1:xs.length+1<t.mask:=by have:=S.n8;rcases S.good.msk with e|e|e <;> rw[e]at this ⊢ <;> lia
 refine uI (CW S.good hj he hf1) fun g1 p1 p2 p3 p4 p5=>?_;have yr:(t.put j).1.plain=true:=by rw[GD S.good];exact S.plain
 have hld:(t.put j).1.led=led:=by rw[GD S.good];exact S.JT
 rw[yr];simp only[aX8];refine ak (κ.Wz qY ?_);simp only[aX8];have ent:iT (xs.map (entry κ)).toArray (t.put j).2 (κ.hash k,eG b)=((xs.take (below t.place j)++(k,b)::xs.drop (below t.place j)).map (entry κ)).toArray:=by apply Aw.mp;rw[toList_ins,p1,gu,aW,Fj,Fl];rfl
 rw[ent];have len:(xs.take (below t.place j)++(k,b)::xs.drop (below t.place j)).length=xs.length+1:=by rw[bU,cK,ku,vH];lia
 have nd:((xs.take (below t.place j)++(k,b)::xs.drop (below t.place j)).map (·.1)).Nodup:=by rw[gu,aW,Fj,Fl];exact JV _ S.keys Be
 have mem:∀x,x∈(xs.take (below t.place j)++(k,b)::xs.drop (below t.place j))↔x=(k,b)\/x∈xs:=fun x=>yz _ _ _ _;have is':∀x∈(xs.take (below t.place j)++(k,b)::xs.drop (below t.place j)),κ.is s.heap x.1 x.2:=fun x Iw=>by rcases(mem x).mp Iw with e|e;rw[e];exact hx;exact S.each x e
 have pth:Paths (t.put j).1 (fun i=>(((xs.take (below t.place j)++(k,b)::xs.drop (below t.place j)).map (entry κ)).toArray[i]?.map (·.1)).getD 0) (xs.length+1):=by refine JP S.good hj he hf1 S.Iv (h:=κ.hash k) (fun i hi=>?_) hp;rw[<- ent,p1,r8 _ _ _ (by simp;exact p2)];by_cases c1:i<below t.place j;rw[aW9 c1,aW9 c1];rw[aX0 c1,aX0 c1];by_cases c2:i=below t.place j;rw[aW9 c2,aW9 c2];rfl;rw[aX0 c2,aX0 c2]
 obtain⟨sb,OB,is2,S2⟩:=iK.store (s:={s with toks:=s.toks+κ.draws k}) S' (t':=(t.put j).1) (by rw[len];exact g1) (by rw[len];exact pth) hld yr nd is';refine ak (LK S.obj S.data ?_ (by rw[d8,bf,len,fQ];lia));have ar0:∀h' o' AG t' ys,gH a s.heap h'->iK κ h' a led ys o' AG t'->(∀x,x∈ys↔x∈(xs.take (below t.place j)++(k,b)::xs.drop (below t.place j)))->ys.length=xs.length+1->Q true {s with heap:=h',toks:=s.toks+κ.draws k}:=
  fun h' o' AG t' ys q1 q2 q3 q4=>h true h' o' AG t' ys q1 q2 (fun x Iw=>((mem x).mp ((q3 x).mp Iw)).symm) (fun x Iw=>(q3 x).mpr ((mem x).mpr (.inr Iw))) (aL.mpr ⟨(k,b),(q3 _).mpr ((mem _).mpr (.inl rfl)),rfl⟩) (by lia)
 have tf:(t.put j).1.tooFull=decide ((xs.length+1)*5 ≥ t.mask*3):=by unfold SetTable.tooFull SetTable.fill;rw[g1.dum,g1.size,p3];simp
 rw[tf];simp only[Ay,MZ];by_cases full:(xs.length+1)*5 ≥ t.mask*3;rw[aW9 (aX1 full)];have n8:=S.n8;have hM:∃M,Lv M/\sizeAbove (SetTable.grown ((xs.map (entry κ)).toArray.size+1))=M+1/\(xs.length+1)*5<M*3:=by
  have eg:SetTable.grown ((xs.map (entry κ)).toArray.size+1)=(xs.length+1)*4:=by unfold SetTable.grown;rw[d8,bf,aX0 (by lia)]
  rw[eg];rcases S.good.msk with e|e|e;rw[e]at full n8;exact⟨31,.inr (.inl rfl),rH (.inl ⟨rfl,by lia,by lia⟩),by lia⟩;rw[e]at full n8;exact⟨127,.inr (.inr rfl),rH (.inr ⟨rfl,by lia,by lia⟩),by lia⟩;rw[e]at full;lia
 refine cC hM fun M hM1 hM2 hM3=>?_;clear hM;refine ak (OC (κ:=κ) (M:=M) (led:=led) (s:={s with heap:=_,toks:=_}) OB S.nc rfl (by rw[len];exact g1) hld yr nd is2 hM1 hM2 (by rw[len];exact hM3) fun h' o' AG t' ys q1 q2 q3 q4=>?_);exact aB (ar0 h' o' AG t' ys (sb.trans q1) q2 q3 (q4.trans len));rw[aX0 (by simp;lia)];refine aB (ar0 _ _ _ _ _ sb (S2 (by rw[len,p3];lia)) (fun x=>Iff.rfl) len)
end
section
variable {prog:cS}{w:bI}{K:Type}[DecidableEq K]{κ:oO prog w K}
variable {A:bX}{R:Result->ay->Prop}{s:ay}{a b:av}{led:Bool}{xs:List (K×av)}{o:Obj}{ep:Nat}{t:gG}
def iK.keep{h':aQ}(S:iK κ h a led xs o ep t)(e:∀b o,h.get? b=some o->(b=a\/o.cls = .type "tuple")->h'.get? b=some o):iK κ h' a led xs o ep t:=
 ⟨e _ _ S.obj (.inl rfl),S.nc,S.data,S.good,S.Iv,S.JT,S.plain,S.n8,S.keys,fun x hx=>κ.mono (S.each x hx) fun b o q c=>e b o q (.inr c)⟩
def Tf{ys:List (K×av)}(hh:A.handled=none)(rJ:κ.room A.in1)(hSI:S≠I)(hSl:S≠l)(hlI:l≠I)(hn:ys.length<=50) :
  ∀(r i:Nat) (s:ay) (xs:List (K×av)) (o:Obj) (ep:Nat) (t:gG),i+r=ys.length->s.heap.IsListIter I l i->s.heap.IsList l (ys.map fun y=>eG y.2).toArray->iK κ s.heap S led xs o ep t->
   (∀y∈ys,κ.is s.heap y.1 y.2)->(∀x∈xs,x∈ys)->(∀j y,j<i->ys[j]?=some y->y.1∈xs.map (·.1))->xs.length<=i->
   (∀h' tk o' AG t' zs,(∀b ob,b≠S->b≠I->s.heap.get? b=some ob->h'.get? b=some ob)->iK κ h' S led zs o' AG t'->(∀x∈zs,x∈ys)->(∀y∈ys,y.1∈zs.map (·.1))->R (.ok (.ret .none)) {s with heap:=h',toks:=tk})->
   codeAny (aC prog w) A (.builtin "set.update.loop" ⟨[.ref S,.ref I],[]⟩) R s:=by
 intro r;induction r with
 | zero=>intro i s xs o ep t hi hit hl hS hk hx hd hz hR;refine lJ Nb ?_;rw[qt FW _];refine ak (m:=pyNext (.ref I)) (VX hh hit hl (by simp;lia) fun h' he=>?_);refine aB (hR h' s.toks o ep t xs (fun b ob _ h2 e=>he b ob h2 e) (hS.keep fun b ob e c=>he b ob ?_ e) hx fun y hy=>?_);rintro rfl;rcases c with c|c;exact hSI c.symm;refine cC hit fun oi h1 h2 _=>?_;clear hit;obtain rfl:=eN (e.symm.trans h1);rw[h2]at c;exact aY1 c (by decide);obtain⟨j,hj,ej⟩:=iQ.mp hy;exact hd j y (by lia) (by rw[dz hj,ej])
 | succ r ih=>
  intro i s xs o ep t hi hit hl hS hk hx hd hz hR;have hil:i<ys.length:=by lia
  refine lJ Nb ?_;rw[qt FW _];refine ak (m:=pyNext (.ref I)) (VW hit hl (x:=.ref (ys[i]).2) (by simp[hil]) fun h1 Tg Lq=>?_);have tupI:∀b ob,s.heap.get? b=some ob->ob.cls = .type "tuple" ->b≠I:=fun b ob e c z=>by subst z;refine cC hit fun oi q1 q2 _=>?_;clear hit;obtain rfl:=eN (e.symm.trans q1);rw[q2]at c;exact aY1 c (by decide)
  have WA:∀b ob,s.heap.get? b=some ob->(b=S\/ob.cls = .type "tuple")->h1.get? b=some ob:=fun b ob e c=>by rw[Lq.2 b ?_];exact e;rcases c with c|c;rw[c];exact hSI;exact tupI b ob e c
  have S1:iK κ ({s with heap:=h1}:ay).heap S led xs o ep t:=hS.keep WA;have hk1:∀y∈ys,κ.is h1 y.1 y.2:=fun y hy=>κ.mono (hk y hy) fun b ob e c=>WA b ob e (.inr c);have hm:ys[i]∈ys:=t8 hil;dsimp only;refine ak (iN (Yp S1 rJ (hk1 _ hm) (by lia) fun c h2 o2 ep2 t2 zs Lr S2 m1 m2 m3 m4=>?_));refine aB ⟨vB FW _,?_⟩;have tupS:∀b ob,h1.get? b=some ob->ob.cls = .type "tuple" ->b≠S:=fun b ob e c z=>by subst z;obtain rfl:=eN (e.symm.trans S1.obj);rw[S1.nc.1]at c;exact aY1 c (by decide)
  refine ih (i+1) _ zs o2 ep2 t2 (by lia) (Tg.at fun ob e=>by rw[Lr.2 _ (dZ hSI)];exact e) ?_ S2 (fun y hy=>κ.mono (hk1 y hy) fun b ob e c=>by rw[Lr.2 b (tupS b ob e c)];exact e)
   (fun x qY=>?_) (fun j y hj hy=>?_) (by lia) fun h' tk o' AG t' ws q1 q2 q3 q4=>?_
  refine hl.at fun ob e=>?_;show h2.get? l=_;rw[Lr.2 _ (dZ hSl),Lq.2 _ hlI];exact e;rcases m1 x qY with e|e;exact hx x e;rw[e];exact hm;by_cases c:j<i;refine aO (aL.mp (hd j y c hy)) fun x hx1 Iw=>?_;exact aL.mpr ⟨x,m2 x hx1,Iw⟩;have:j=i:=by lia
  subst this;rw[dz hil]at hy;obtain rfl:=eN hy;exact m3;refine hR h' tk o' AG t' ws (fun b ob h1' Gx e=>q1 b ob h1' Gx ?_) q2 q3 q4;show h2.get? b=_;rw[Lr.2 b h1',Lq.2 b Gx];exact e
end
section
variable {w:bI}{K:Type}[DecidableEq K]{κ:oO prog w K}
variable {A:bX}{s:ay}
def iG(w:bI):Bool:=!(w.params.followText "set-order")
def j7(w:bI):Obj:={cls:=.type "set",dict:=none,data:=.set #[] 0 (.fresh 0 0 (iG w))}
def GG(w:bI):Good (SetTable.fresh 0 0 (iG w)) 0:=⟨rfl,fun i j _ h=>aY1 h (jf _),fun i h=>aY1 h (jf _),rfl,.inl rfl,(by show 0<7;decide)⟩
def GH{h:aQ}(e:h.get? a=some (j7 w)):iK κ h a (iG w) [] (j7 w) 0 (.fresh 0 0 (iG w)):=
 ⟨e,⟨rfl,rfl,rfl⟩,rfl,GG w,fun i h=>aY1 h (jf _),rfl,rfl,(by show 0*5<7*3;decide),tu,fun x h=>aY1 h (by simp)⟩
def OD(v:au){Q₁:au->ay->Prop}(h:Q₁ (.ref s.heap.objs.size) {s with heap:=s.heap.push (j7 w)}) :
  codeAny (aC prog w) A (.call (.builtin "set.__new__") ⟨[.type "set",v],[]⟩) (wants Q₁ E) s:=by
 refine codeAny_of_tree ?_;show aA _ A.in1 (checkBuiltinCall "set.__new__" ⟨[.type "set",v],[]⟩>>=fun _=>again (.builtin "set.__new__" ⟨[.type "set",v],[]⟩)) _ _ s;refine ak (sJ (F.newCall_set_1 v) (aB ⟨vB Nc _,lJ F.entry_set_new ?_⟩));rw[qt Nc _];unfold Builtin.«set.__new__» Builtin.Frozenset.newClass;have own:=sub_set_self;obtain ⟨hp,g,d,tk,os⟩:=s;dsimp only
 wp_walk
 refine EO (aB ?_);dsimp only;simp only[newObj];exact ak (wpAny_alloc (aB (aB h)))
def OE{ys:List (K×av)}{Q:au->ay->Prop}(hh:A.handled=none)(rJ:κ.room A.in1.in1.in1)(hl:s.heap.IsList l (ys.map fun y=>eG y.2).toArray)(hn:ys.length<=50)(hk:∀y∈ys,κ.is s.heap y.1 y.2)
  (h:∀h' tk o ep t zs,(∀b ob,s.heap.get? b=some ob->h'.get? b=some ob)->iK κ h' s.heap.objs.size (iG w) zs o ep t->(∀x∈zs,x∈ys)->(∀y∈ys,y.1∈zs.map (·.1))->Q (.ref s.heap.objs.size) {s with heap:=h',toks:=tk}) :
  aA (aC prog w) A (call (.type "set") [.ref l]) Q E s:=by
 refine qu ou.mro fun c tl aV7=>?_;have made:=ou.made;have sub:=ou.sub;have n1:=ou.notType;have n2:=ou.canCreate;have ct:=F.typeCall_set_1 (.ref l);refine Ad (codeAny_of_tree ?_);show aA _ _ (callAny (.type "set") _) _ _ _;refine aB ⟨FY _ (by decide +kernel),lJ F.entry_type_call ?_⟩;rw[Around.under_plain (weight_type_call_type "set" [.ref l] []) rfl];repeat any_goals first|assumption|wp_step
 refine sI (OD (.ref l) (E:=E) (Q₁:=fun obj kE=>obj = .ref s.heap.objs.size/\kE={s with heap:=s.heap.push (j7 w)}) ⟨rfl,rfl⟩) fun r kE hr=>?_;cases r with
 | error e=>exact hr
 | ok fl=>
  cases fl with
  | ret obj=>
   obtain⟨rfl,rfl⟩:=hr;have got:(s.heap.push (j7 w)).get? s.heap.objs.size=some (j7 w):=dW _ rfl;have ty:Shared.TypeIs {s with heap:=s.heap.push (j7 w)} (.ref s.heap.objs.size) "set":=⟨_,got,rfl⟩
   have li:=ou.init.lookup;have bi:=ou.init.bind (.ref s.heap.objs.size);repeat any_goals first|assumption|wp_step
   refine sI (codeAny_call_builtin (R:=wants (fun r Sh=>r = .none/\∃h' tk o ep t zs,Sh={s with heap:=h',toks:=tk}/\(∀b ob,s.heap.get? b=some ob->h'.get? b=some ob)/\iK κ h' s.heap.objs.size (iG w) zs o ep t/\(∀x∈zs,x∈ys)/\(∀y∈ys,y.1∈zs.map (·.1))) E)
    ou.init.plain F.entry_set_init (check_set_init_1 ty ?_)) fun aM8 Sh OF=>?_
   ·obtain⟨ol,hol,zj,nl,hdl⟩:=hl;obtain⟨aV8,ar3,aT7,Yq⟩:=ol;simp only at zj hdl;subst zj;subst hdl;have aM9:(s.heap.push (j7 w)).get? l=some {cls:=.type "list",dict:=ar3,data:=.seq (ys.map fun y=>eG y.2).toArray nl,slots:=Yq}:=bM _ hol;have s1:=F.sub_list_set;have s2:=F.sub_list_frozenset;have s3:(uh "list"==uh "dict")=false:=by decide
    have hl1:(s.heap.push (j7 w)).IsList l (ys.map fun y=>eG y.2).toArray:=⟨_,aM9,rfl,nl,rfl⟩
    have aV9:(s.heap.push (j7 w)).get? s.heap.objs.size=some { cls:=.type "set",dict:=none,data:=.set #[] 0 (.fresh 0 0 (iG w)) }:=got;unfold Builtin.«set.__init__» noKeywords Builtin.Frozenset.updateFrom;generalize hPI:pyIter=PI
    wp_walk
    subst hPI;refine VY hl1 ?_;refine ak (wpAny_runValue ?_);have lt:l<s.heap.objs.size:=bY hol;have sz:(s.heap.push (j7 w)).objs.size=s.heap.objs.size+1:=by rw[yZ]
    have d1:s.heap.objs.size≠(s.heap.push (j7 w)).objs.size:=by rw[sz];exact dh (z4 _)
    have d2:s.heap.objs.size≠l:=Ce lt;have d3:l≠(s.heap.push (j7 w)).objs.size:=by rw[sz];exact dh (vG lt)
    refine Tf (κ:=κ) (led:=iG w) (ys:=ys) (by simp[hh]) rJ d1 d2 d3 hn ys.length 0 _ [] (j7 w) 0 (.fresh 0 0 (iG w)) (by lia)
     ?h1 ?h2 ?h3 ?hk (fun x hx=>aY1 hx (by simp)) (fun j y hj=>aY1 hj (jf _)) (aZ _) fun h' tk o ep t zs q1 q2 q3 q4=>?_
    case h1=>exact⟨_,dW _ rfl,rfl,rfl⟩
    case h2=>exact hl1.push _
    case h3=>exact GH (bM _ got)
    case hk=>exact fun y hy=>κ.mono (hk y hy) fun b ob e _=>bM _ (bM _ e)
    refine aB (aB ⟨rfl,h',tk,o,ep,t,zs,rfl,fun b ob e=>?_,q2,q3,q4⟩);have lb:=bY e;exact q1 b ob (dh lb) (by rw[sz];exact dh (vG lb)) (bM _ (bM _ e))
   cases aM8 with
   | error e=>exact OF
   | ok ar4=>
    cases ar4 with
    | ret r=>
     obtain⟨rfl,h',tk,o,ep,t,zs,rfl,q1,q2,q3,q4⟩:=OF;repeat any_goals first|assumption|wp_step
     exact h h' tk o ep t zs q1 q2 q3 q4
    | _=>exact OF.elim
  | _=>exact hr.elim
end
def ig:Slot "set_iterator" "__next__" "set_iterator.__next__" :=
 .of (owner:="set_iterator") (n:="__next__") (by rw[typeLookup_type,builtinLookup_eq_fast];kernel_rfl) (by decide +kernel)
  (by decide +kernel) (by decide +kernel) (by first|exact .inl (by decide +kernel)|exact .inr (by decide +kernel))
  (by rw[isSubtype_type];kernel_rfl)
def oQ:entryFor table "set_iterator.__next__" =some Builtin.«set_iterator.__next__»:=LL (by kernel_rfl)
def pS(a:au):argsOk "set_iterator.__next__" ⟨[a],[]⟩:=by unfold argsOk;kernel_rfl
def x9:entryFor table "set.__iter__" =some Builtin.«frozenset.__iter__» :=
 entryFor_alias (id':="frozenset.__iter__") (by kernel_rfl) rfl (by decide +kernel) (by kernel_rfl)
theorem IA(next:Nat->Nat):∀(fuel k:Nat) (left:List α) (out:Array α),fuel=left.length->(pickOrder.go next fuel k left out).toList.Perm (out.toList++left)
 | 0,k,left,out,h=>by
  have:left=[]:=nV.mp h.symm;subst this;unfold pickOrder.go;simp
 | fuel+1,k,left,out,h=>by
  unfold pickOrder.go;have ie:next k % left.length<left.length:=qf _ (by lia)
  rw[dz ie];dsimp only;refine(IA next fuel (k+1) _ _ (by rw[List.length_eraseIdx_of_lt ie];lia)).trans ?_;rw[FI,f9];refine N7 _ ?_;have e1:left=left.take (next k % left.length)++left[next k % left.length]::left.drop (next k % left.length+1):=by rw[<- sW ie,mR]
  have e2:left.eraseIdx (next k % left.length)=left.take (next k % left.length)++left.drop (next k % left.length+1):=Mv _ _;rw[e2];refine List.Perm.trans ?_ (List.Perm.of_eq e1.symm);rw[List.singleton_append];exact Mu.symm
def zy(next:Nat->Nat)(xs:Array α):(pickOrder next xs).toList.Perm xs.toList:=by
 have:=IA next xs.size 0 xs.toList #[] (by simp)
 simpa[pickOrder]using this
section
variable {prog:cS}{w:bI}{K:Type}[DecidableEq K]{κ:oO prog w K}
variable {A:bX}{E:au->ay->Prop}{s:ay}{a:av}{xs:List (K×av)}{o:Obj}{ep:Nat}{t:gG}
def je(w:bI)(a:av)(ep:Nat)(es:Array (Int×au)):Array (Int×au):=if w.params.followText "set-order"then pickOrder (w.params.setOrder a ep) es else es
def tQ(w:bI)(a:av)(ep:Nat)(es:Array (Int×au)):(je w a ep es).toList.Perm es.toList:=by
 unfold je;split;exact zy _ _;exact .refl _
def slotAt(w:bI)(t:gG)(m:Nat):Nat:=if w.params.followText "set-order"then 0 else if m=0 then 0 else t.place.getD (m-1) 0+1
def zA(h:aQ)(I a:av)(n ep slot m:Nat):Prop:=∃ob,h.get? I=some ob/\ob.cls = .type "set_iterator" /\ob.data = .fields #[rawInt slot,rawInt m,.ref a,rawInt n,rawInt ep]
def zA.typeIs{n ep slot m:Nat}(x:zA s.heap I a n ep slot m):s.TypeIs (.ref I) "set_iterator":=let⟨ob,h1,h2,_⟩:=x;⟨ob,h1,h2⟩
def tR{Q:Bool->ay->Prop}(h:Q (w.params.followText "set-order") s):aA (aC prog w) A setsByText Q E s:=by
 unfold setsByText;exact ak (EO (aB h))
def IB{Q:Option (au×Nat)->ay->Prop}(S:iK κ s.heap a (iG w) xs o ep t)(hm:m<=xs.length)
  (h1:∀e,(je w a ep (xs.map (entry κ)).toArray)[m]?=some e->Q (some (e.2,slotAt w t (m+1))) s) (h2:m=xs.length->Q none s) :
  aA (aC prog w) A (setNext a (slotAt w t m) m ep) Q E s:=by
 unfold setNext;refine ak (j6 S ?_);dsimp only;refine ak (tR ?_);by_cases hb:w.params.followText "set-order"=true;rw[aW9 hb];simp only[aY2,cP,aX7];unfold setWalk;refine ak (ak (j6 S ?_));dsimp only;refine ak (tR ?_);rw[aW9 hb];refine ak (EO (aB ?_));have ew:je w a ep (xs.map (entry κ)).toArray=pickOrder (w.params.setOrder a ep) (xs.map (entry κ)).toArray:=by unfold je;rw[aW9 hb]
 have es:∀q,slotAt w t q=0:=fun q=>by unfold slotAt;rw[aW9 hb]
 have sz:(pickOrder (w.params.setOrder a ep) (xs.map (entry κ)).toArray).size=xs.length:=by rw[<- d7,(zy _ _).length_eq];simp
 refine aB ?_;show Q ((pickOrder (w.params.setOrder a ep) (xs.map (entry κ)).toArray)[m]?.map fun e=>(e.2,slotAt w t m)) s;cases q:(pickOrder (w.params.setOrder a ep) (xs.map (entry κ)).toArray)[m]? with
 | none=>have:=MS.mp q;exact h2 (by lia)
 | some e=>have:=h1 e (by rw[ew];exact q);rw[es]at this ⊢;exact this
 rw[aX0 hb];have ew:je w a ep (xs.map (entry κ)).toArray=(xs.map (entry κ)).toArray:=by unfold je;rw[aX0 hb]
 have ld:t.led=true:=by rw[S.JT];unfold iG;rw[tE.mpr hb];rfl
 have bl:below t.place (slotAt w t m)=m:=by unfold slotAt;rw[aX0 hb];by_cases c:m=0;rw[aW9 c,c];refine wg (n9 S.good.rise 0) fun b1 b2 b3=>?_;rcases M6 (below t.place 0)with z|z;exact z;exact aY1 (b2 0 z) (jf _);rw[aX0 c];refine wg (n9 S.good.rise (t.place.getD (m-1) 0+1)) fun b1 b2 b3=>?_;rw[S.good.size]at b1 b3;rcases sS (below t.place (t.place.getD (m-1) 0+1)) m with z|z|z;have:=b3 (m-1) (by lia) (by lia);lia;exact z;have q1:=b2 m z;have q2:=S.good.rise (m-1) m (by lia) (by rw[S.good.size];lia);lia
 refine wpAny_ite ?_;split;rename_i hd;exfalso;have:(!t.plain&&decide ((xs.map (entry κ)).toArray.size > 1))=true:=hd;rw[S.plain]at this;cases this;refine ak (sJ (a:=()) ?_ ?_);show(if(!t.led && !((xs.map (entry κ)).toArray).isEmpty)=true then(unsupported "set:maker-not-led" : Sem Unit)else pure ())=pure ();rw[ld];rfl;refine aB ?_;show Q (match((xs.map (entry κ)).toArray)[below t.place (slotAt w t m)]?,t.place[below t.place (slotAt w t m)]? with
  | some (_,x),some j=>some (x,j+1)
  | _,_=>none) s
 rw[bl];by_cases c:m<xs.length;have e1:((xs.map (entry κ)).toArray)[m]?=some (entry κ xs[m]):=by rw[jY,dz c];rfl
 have hs:m<t.place.size:=by rw[S.good.size];exact c
 have e2:t.place[m]?=some (t.place.getD m 0):=by simp[Array.getD,hs]
 rw[e1,e2];have:=h1 (entry κ xs[m]) (by rw[ew];exact e1);unfold slotAt at this;rw[aX0 hb,aX0 (by lia),Am]at this;exact this;have em:m=xs.length:=by lia
 have e1:((xs.map (entry κ)).toArray)[m]?=none:=by rw[jY,nW (by lia)];rfl
 rw[e1];exact h2 em
end
section
variable {prog:cS}{w:bI}{K:Type}[DecidableEq K]{κ:oO prog w K}
variable {A:bX}{E:au->ay->Prop}{s:ay}{a I:av}{xs:List (K×av)}{o:Obj}{ep:Nat}{t:gG}
def qy{Q:Array (Int×au)->ay->Prop}{led:Bool}(S:iK κ s.heap a led xs o ep t)(h:Q (xs.map (entry κ)).toArray s):aA (aC prog w) A (setEntries a) Q E s:=by
 unfold setEntries;exact ak (j6 S (aB h))
def Th{Q:au->ay->Prop}(S:iK κ s.heap a (iG w) xs o ep t)(hn:xs.length<=50)
  (h:Q (.ref s.heap.objs.size) {s with heap:=s.heap.push {cls:=.type "set_iterator",data:=.fields #[rawInt (slotAt w t 0),rawInt ((0:Nat):Int),.ref a,rawInt xs.length,rawInt ep]}}):aA (aC prog w) A (pyIter (.ref a)) Q E s:=by
 have ty:s.TypeIs (.ref a) "set":=⟨o,S.obj,S.nc.1⟩
 refine Af ty Nd (gF Nd ty x9 ?_ (F.args_set_iter_1 _));unfold Builtin.«frozenset.__iter__» Builtin.Frozenset.slot0 slotArgs;simp only[Fw,iC,cP,aX7,bind_assoc,nX,aY2];unfold Builtin.Frozenset.addrOf Builtin.Frozenset.sizeOf;refine ak (aB ?_);try dsimp only
 refine ak (aB ?_);refine ak (ak (qy S (aB ?_)));refine ak ?_;unfold setDrawn;refine ak (j6 S ?_);dsimp only;refine ak (tR (aB ?_));rw[aX0 (by
  intro z;have z:(!(w.params.followText "set-order")&&(!t.plain&&decide ((xs.map (entry κ)).toArray.size > 1)))=true:=z;rw[S.plain]at z;simp at z)]
 refine ak (aB ?_);have z0:slotAt w t 0=0:=by unfold slotAt;split <;> rfl
 rw[z0]at h;refine ak ?_;unfold setEpoch;refine ak (j6 S (aB ?_));dsimp only;unfold newFields;refine ak (nF (aB ⟨_,rfl,"set_iterator",_,⟨_,dW _ rfl,rfl⟩,ig.lookup,?_⟩));simpa using h
def OG{Q:Option au->ay->Prop}(S:iK κ s.heap a (iG w) xs o ep t)(hit:zA s.heap I a xs.length ep (slotAt w t m) m)(he:(je w a ep (xs.map (entry κ)).toArray)[m]?=some e)
  (hm:m<xs.length) (hQ:∀h',zA h' I a xs.length ep (slotAt w t (m+1)) (m+1)->gH I s.heap h'->Q (some e.2) {s with heap:=h'}):aA (aC prog w) A (pyNext (.ref I)) Q E s:=by
 refine cC (id hit) fun ob ho hc hd=>?_;unfold pyNext;refine ak (nO (q9 (name:=kC "__next__") hit.typeIs ig (gF ig hit.typeIs oQ ?_ (pS _))));unfold Builtin.«set_iterator.__next__» slotArgs;simp only[Fw,iC,cP,aX7,bind_assoc,nX,aY2];refine ak (aB ?_);dsimp only;refine ak (sN ho hd ?_);dsimp only[rawInt];refine ak (qy S ?_);rw[aX0 (by simp)];simp only[jM];refine ak (IB S (iO hm) (fun e' Tc=>?_) (fun z=>aY1 z (dh hm)));obtain rfl:e=e':=eN (he.symm.trans Tc);dsimp only;refine ak (q8 ho hd (by simp) ?_);have d1:=tF hd (·.setIfInBounds 0 (rawInt (slotAt w t (m+1):Nat)));have g1:=mQ (Obj.mapFields (·.setIfInBounds 0 (rawInt (slotAt w t (m+1):Nat)))) ho (AA d1);refine ak (q8 g1 d1 (by simp) ?_);have d2:=tF d1 (·.setIfInBounds 1 (rawInt ((m:Int)+1)));have g2:=mQ (Obj.mapFields (·.setIfInBounds 1 (rawInt ((m:Int)+1)))) g1 (AA d2);refine aB ⟨_,rfl,aB (hQ _ ⟨_,g2,?_,?_⟩ ((eS ..).trans (eS ..)))⟩;rw[FT,FT];exact hc;rw[d2];simp[rawInt]
def Ti{Q:Option au->ay->Prop}(hh:A.handled=none)(S:iK κ s.heap a (iG w) xs o ep t)(hit:zA s.heap I a xs.length ep (slotAt w t xs.length) xs.length)
  (hQ:∀h',Heap.ExtBut I s.heap h'->Q none {s with heap:=h'}):aA (aC prog w) A (pyNext (.ref I)) Q E s:=by
 refine cC (id hit) fun ob ho hc hd=>?_;unfold pyNext;refine ak (nO (q9 (name:=kC "__next__") hit.typeIs ig (gF ig hit.typeIs oQ ?_ (pS _))));unfold Builtin.«set_iterator.__next__» slotArgs;simp only[Fw,iC,cP,aX7,bind_assoc,nX,aY2];refine ak (aB ?_);dsimp only;refine ak (sN ho hd ?_);dsimp only[rawInt];refine ak (qy S ?_);rw[aX0 (by simp)];simp only[jM];have sz:(je w a ep (xs.map (entry κ)).toArray).size=xs.length:=by rw[<- d7,(tQ _ _ _ _).length_eq];simp
 refine ak (IB S (aZ _) (fun e' Tc=>?_) (fun z=>?_));rw[qk (by lia)]at Tc;cases Tc;dsimp only;refine ak (q8 ho hd (by simp) ?_);refine ak ?_;simp only[newExc,newTuple];refine ak (nF ?_ (by size_fits));refine ak (m:=sO _ _) (sJ (a:=dI) (by first|rfl|(simp only[sO];rfl)) ?_);refine nF ?_ (by size_fits);simp only[raiseNew];refine ak (ER ?_);have hh1:A.in1.handled=none:=hh;rw[hh1];refine ak (aB (ES ?_));refine ak (qc (T:="StopIteration") (b:=true) ⟨_,dW _ rfl,rfl⟩ ET ?_);exact aB (hQ _ (((eS ..).extBut.push _).push _))
def JW(hh:A.handled=none)(hLI:L≠I)(hLa:L≠a)(hIa:a≠I)(hn:xs.length<=50) :
  ∀(r m:Nat) (s:ay),m+r=xs.length->iK κ s.heap a (iG w) xs o ep t->zA s.heap I a xs.length ep (slotAt w t m) m->
   (∃n,s.heap.get? L=some (eO "list" (((je w a ep (xs.map (entry κ)).toArray).toList.take m).map (·.2)).toArray n))->
   (∀h' n,(∀b ob,b≠L->b≠I->s.heap.get? b=some ob->h'.get? b=some ob)->h'.get? L=some (eO "list" ((je w a ep (xs.map (entry κ)).toArray).toList.map (·.2)).toArray n)->R (.ok (.ret res)) {s with heap:=h'})->
   codeAny (aC prog w) A (.builtin "list.extend.loop" ⟨[.ref L,.ref I,res],[]⟩) R s:=by
 have sz:(je w a ep (xs.map (entry κ)).toArray).size=xs.length:=by rw[<- d7,(tQ _ _ _ _).length_eq];simp
 have xg:entryFor table "list.extend.loop" =some Builtin.«list.extend.loop»:=LL (by kernel_rfl);have qz:plainId "list.extend.loop" =true:=by decide +kernel
 intro r;induction r with
 | zero=>
  intro m s hm S hit ⟨n,hL⟩ hR;have em:m=xs.length:=by lia
  subst em;refine lJ xg ?_;rw[qt qz _];refine ak (m:=pyNext (.ref I)) (Ti hh S hit fun h' he=>?_);refine aB (hR h' n (fun b ob _ h2 e=>he b ob h2 e) ?_);have:=he L _ hLI hL;rw[sZ (by rw[d7];lia)]at this;exact this
 | succ r ih=>
  intro m s hm S hit ⟨n,hL⟩ hR;have hml:m<xs.length:=by lia
  have ar7:m<(je w a ep (xs.map (entry κ)).toArray).size:=by lia
  refine lJ xg ?_;rw[qt qz _];refine ak (m:=pyNext (.ref I)) (OG S hit (vS ar7) hml fun h1 Tg Lq=>?_);have hL1:h1.get? L=some (eO "list" (((je w a ep (xs.map (entry κ)).toArray).toList.take m).map (·.2)).toArray n):=by rw[Lq.2 L hLI];exact hL
  refine ak (FN hL1 rfl ?_ (by simp;rw[fQ];lia) (by simp;rw[fQ];lia));refine aB ⟨vB qz _,?_⟩;have Lr:=eS h1 L (cQ fun x=>x.push ((je w a ep (xs.map (entry κ)).toArray)[m]).2);have tup:∀b ob,s.heap.get? b=some ob->(b=a\/ob.cls = .type "tuple")->b≠I/\b≠L:=fun b ob e c=>by constructor;rintro rfl;rcases c with c|c;exact hIa c.symm;refine cC hit fun q q1 q2 _=>?_;clear hit;obtain rfl:=eN (e.symm.trans q1);rw[q2]at c;exact aY1 c (by decide);rintro rfl;rcases c with c|c;exact hLa c;obtain rfl:=eN (e.symm.trans hL);exact aY1 (show uh "list"=uh "tuple"from c) (by decide)
  refine ih (m+1) _ (by lia) (S.keep fun b ob e c=>?_) ?_ ?_ fun h' n' q1 q2=>?_;obtain⟨c1,c2⟩:=tup b ob e c;show(h1.update L _).get? b=_;rw[Lr.2 b c2,Lq.2 b c1];exact e;refine aO Tg fun q q1 q2=>?_;clear Tg;exact⟨q,(by show(h1.update L _).get? I=_;rw[Lr.2 I (dZ hLI)];exact q1),q2⟩;obtain⟨n',wz⟩:∃n',(h1.update L (cQ fun x=>x.push ((je w a ep (xs.map (entry κ)).toArray)[m]).2)).get? L=some (eO "list" ((((je w a ep (xs.map (entry κ)).toArray).toList.take m).map (·.2)).toArray.push ((je w a ep (xs.map (entry κ)).toArray)[m]).2) n'):=⟨_,FO hL1 _⟩
  refine⟨n',wz.trans ?_⟩;congr 2;rw[Mw,dz (by rw[d7];exact ar7)];simp;refine hR h' n' (fun b ob h1' Gx e=>q1 b ob h1' Gx ?_) q2;show(h1.update L _).get? b=_;rw[Lr.2 b h1',Lq.2 b Gx];exact e
end
section
variable {prog:cS}{w:bI}{K:Type}[DecidableEq K]{κ:oO prog w K}
variable {A:bX}{E:au->ay->Prop}{s:ay}{a:av}{xs:List (K×av)}{o:Obj}{ep:Nat}{t:gG}
def Tj{Q:Bool->ay->Prop}(hT:s.TypeIs (.ref a) "set")(h:∀c tk,Q c {s with toks:=tk}):aA (aC prog w) A (Builtin.List.listLengthHint (.ref a)) Q E s:=by
 unfold Builtin.List.listLengthHint;refine ak (nP hT F.slot_set_len.lookup ?_);have sp:splitId "set.__len__"=some ("set","__len__"):=by kernel_rfl
 dsimp only;rw[sp];dsimp only;refine ak (qc hT sub_set_self ?_);rw[iC,aX0 iS];rw[aW9 (by decide +kernel)];refine ak (Ag hT ?_);exact aB (h false s.toks)
def D4{Q:List au->ay->Prop}(hh:A.handled=none)(S:iK κ s.heap a (iG w) xs o ep t)(hn:xs.length<=50)
  (h:∀h' tk vs,(∀b ob,s.heap.get? b=some ob->h'.get? b=some ob)->vs.Perm (xs.map fun x=>eG x.2)->Q vs {s with heap:=h',toks:=tk}):aA (aC prog w) A (collect (.ref a)) Q E s:=by
 unfold collect;refine ak (wpAny_runValue (lJ WZ ?_));refine ak (m:=newList []) (vA (aB ⟨FY _ (by decide +kernel),lJ X0 ?_⟩));show aA _ _ (Builtin.List.listExtendWith (.ref s.heap.objs.size) (.ref a) (.ref s.heap.objs.size)) _ _ {s with heap:=s.heap.push (eO "list" #[] 0)};unfold Builtin.List.listExtendWith;have al:a<s.heap.objs.size:=bY S.obj;have S1:iK κ ({s with heap:=s.heap.push (eO "list" #[] 0)}:ay).heap a (iG w) xs o ep t:=S.keep fun b ob e _=>bM _ e;have ty1:Shared.TypeIs {s with heap:=s.heap.push (eO "list" #[] 0)} (.ref a) "set":=⟨o,S1.obj,S1.nc.1⟩
 refine ak (Ag ty1 ?_);have sr:Builtin.List.listSameRef (.ref s.heap.objs.size) (.ref a)=false:=by show(s.heap.objs.size==a)=false;exact aX6.mpr (Ce al)
 rw[sr,aX0 (by decide)];refine ak (Th S1 hn ?_);have sz1:(s.heap.push (eO "list" #[] 0)).objs.size=s.heap.objs.size+1:=by rw[yZ]
 generalize hO:({cls:=.type "set_iterator",data:=.fields #[rawInt (slotAt w t 0),rawInt ((0:Nat):Int),.ref a,rawInt xs.length,rawInt ep]}:Obj)=ob;have hI:((s.heap.push (eO "list" #[] 0)).push ob).get? (s.heap.push (eO "list" #[] 0)).objs.size=some ob:=dW _ (by rw[<- hO];rfl);have Yr:((s.heap.push (eO "list" #[] 0)).push ob).get? s.heap.objs.size=some (eO "list" #[] 0):=bM _ (dW _ rfl);have S2:iK κ ((s.heap.push (eO "list" #[] 0)).push ob) a (iG w) xs o ep t:=S1.keep fun b ob e _=>bM _ e;refine ak (iN (Tj (s:={s with heap:=(s.heap.push (eO "list" #[] 0)).push ob}) ⟨o,S2.obj,S2.nc.1⟩ fun c tk=>?_));refine wpAny_ite ?_;split
 ·refine ak (vq ?_);unfold Builtin.List.listTouch;refine ak (ak (FN Yr rfl ?_ (by simp) (by simp)));obtain⟨n1,g1⟩:∃n1,(((s.heap.push (eO "list" #[] 0)).push ob).update s.heap.objs.size (cQ (·.push .none))).get? s.heap.objs.size=some (eO "list" (#[].push .none) n1):=⟨_,FO Yr _⟩
  refine FN g1 rfl ?_ (by simp;rw[fQ];decide) (by simp);obtain⟨n2,g2⟩:∃n2,((((s.heap.push (eO "list" #[] 0)).push ob).update s.heap.objs.size (cQ (·.push .none))).update s.heap.objs.size (cQ (·.pop))).get? s.heap.objs.size=some (eO "list" (#[].push .none).pop n2):=⟨_,FO g1 _⟩
  have sb:=(eS ((s.heap.push (eO "list" #[] 0)).push ob) s.heap.objs.size (cQ (·.push .none))).trans (eS _ s.heap.objs.size (cQ (·.pop)));generalize ((((s.heap.push (eO "list" #[] 0)).push ob).update s.heap.objs.size (cQ (·.push .none))).update s.heap.objs.size (cQ (·.pop)))=g at g2 sb ⊢;have ne1:s.heap.objs.size≠(s.heap.push (eO "list" #[] 0)).objs.size:=by rw[sz1];exact dh (z4 _)
  have ne2:s.heap.objs.size≠a:=Ce al;have ne3:a≠(s.heap.push (eO "list" #[] 0)).objs.size:=by rw[sz1];exact dh (vG al)
  refine aB ⟨FY _ (by decide +kernel),?_⟩;refine JW (κ:=κ) (a:=a) (xs:=xs) (o:=o) (ep:=ep) (t:=t) (by simp[hh]) ne1 ne2 ne3 hn xs.length 0 _ (by lia) ?h1 ?h2 ⟨n2,g2⟩ fun h' n' q1 q2=>?_;case h1=>refine S2.keep fun b OH e c=>?_;show g.get? b=_;rw[sb.2 b ?_];exact e;rintro rfl;rcases c with c|c;exact ne2 c;obtain rfl:=eN (e.symm.trans Yr);exact aY1 (show uh "list"=uh "tuple"from c) (by decide)
  case h2=>exact⟨ob,(by show g.get? _=_;rw[sb.2 _ (dZ ne1)];exact hI),by rw[<- hO],by rw[<- hO]⟩
  have pm:=(tQ w a ep (xs.map (entry κ)).toArray).map (·.2);have em:(xs.map (entry κ)).toArray.toList.map (·.2)=xs.map fun x=>eG x.2:=by simp[entry]
  rw[em]at pm;show aA _ _ (load s.heap.objs.size>>=fun ob=>match ob.data with | .seq xs _=>pure xs.toList|_=>unsupported "internal:collect") _ _ _;refine ak (wpAny_load q2 ?_);refine aB (h h' tk _ (fun b OH e=>q1 b OH (dh (bY e)) (by rw[sz1];exact dh (vG (bY e))) ?_) (by simpa using pm));show g.get? b=_;rw[sb.2 b (dh (bY e))];exact bM _ (bM _ e)
 rename_i hs;refine aY1 ?_ hs;rw[kB];exact .inr (by decide +kernel)
end
end Ts
namespace Dm
open PySem PyProof.Rows L2 PySem.SeqAt
def aE.tup{K:aD}{H H':Hp}{a:av}{xs:List V}(e:aE H H')(h:kW K H a xs):kW K H' a xs:=by
 rcases h with(h|⟨o,h⟩)|h;exact .inl (.inl (e _ _ h));exact .inl (.inr ⟨o,e _ _ h⟩);exact .inr h
def er(H:Hp)(A:List av):Hp:=fun a=>if a∈A then none else H a
def dH(h:a∈A):er H A a=none:=aW9 h
def aU(h:a∉A):er H A a=H a:=aX0 h
def aG(H:Hp)(A:List av):aE (er H A) H:=fun b o h=>by
 by_cases q:b∈A;rw[dH q]at h;cases h;rwa [aU q]at h
def aI(e:aE H H'):aE (er H A) (er H' A):=fun b o h=>by
 by_cases q:b∈A;rw[dH q]at h;cases h;rw[aU q]at h ⊢;exact e b o h
structure Cfg where
 ob:Nat->aD->Hp->av->List V->Prop
 mono:∀{t:Nat} {K:aD} {H H':Hp} {a:av} {vs:List V},aE H H'->ob t K H a vs->ob t K H' a vs
 own:aD->Hp->Hp->av->List V->Prop
 IC:∀{K:aD} {F F' H H':Hp} {a:av} {vs:List V},aE F F'->H' a=H a->own K F H a vs->own K F' H' a vs
 WB:∀{K:aD} {F G H:Hp} {a:av} {vs:List V},own K F H a vs->aE F G->G a=H a->ob 2 K G a vs
 ar9:∀{K:aD} {F H:Hp} {a:av} {vs:List V},own K F H a vs->∃φ,H a=some (.ext φ)
 gl:Hp->Prop
 glM:∀{H H':Hp},aE H H'->gl H->gl H'
structure GL where
 p:Hp->Prop
 m:∀{H H':Hp},aE H H'->p H->p H'
def as1:Cfg:=⟨fun _ _ _ _ _=>False,fun _ h=>h,fun _ _ _ _ _=>False,fun _ _ h=>h,fun h _ _=>h,fun h=>h.elim,fun _=>True,fun _ h=>h⟩
mutual
def Rep(K:aD)(C:Cfg):Hp->D->V->Prop
 | _,.cM,v=>v = .cM
 | _,.bl b,v=>v = .bl b
 | _,.int i,v=>v = .int i
 | _,.str x,v=>v = .str x
 | H,.tup ds,v=>∃a xs,v = .ref a/\kW K H a xs/\aH K C H ds xs
 | H,.lst ds,v=>∃a xs,v = .ref a/\k9 K H a xs/\aH K C (er H [a]) ds xs
 | H,.bJ t ds,v=>∃a xs,v = .ref a/\C.ob t K H a xs/\aH K C H ds xs
def aH(K:aD)(C:Cfg):Hp->List D->List V->Prop
 | _,[],vs=>vs=[]
 | H,d::ds,vs=>∃v r,vs=v::r/\Rep K C H d v/\aH K C H ds r
end
section
variable {K:aD}{C:Cfg}
mutual
theorem Rep.same:∀{H H':Hp} (e:aE H H') (d:D) {v:V},Rep K C H d v->Rep K C H' d v
 | _,_,e,.cM,v,q=>by rw[Rep]at q ⊢;exact q
 | _,_,e,.bl b,v,q=>by rw[Rep]at q ⊢;exact q
 | _,_,e,.int i,v,q=>by rw[Rep]at q ⊢;exact q
 | _,_,e,.str x,v,q=>by rw[Rep]at q ⊢;exact q
 | _,_,e,.tup ds,v,q=>by
  rw[Rep]at q ⊢;refine bw q fun a xs h1 h2 h3=>?_;clear q;exact⟨a,xs,h1,aE.tup e h2,aH.same e ds h3⟩
 | _,_,e,.lst ds,v,q=>by
  rw[Rep]at q ⊢;refine bw q fun a xs h1 h2 h3=>?_;clear q;exact⟨a,xs,h1,e.seq h2,aH.same (aI e) ds h3⟩
 | _,_,e,.bJ t ds,v,q=>by
  rw[Rep]at q ⊢;refine bw q fun a xs h1 h2 h3=>?_;clear q;exact⟨a,xs,h1,C.mono e h2,aH.same e ds h3⟩
theorem aH.same:∀{H H':Hp} (e:aE H H') (ds:List D) {vs:List V},aH K C H ds vs->aH K C H' ds vs
 | _,_,e,[],_,q=>by rw[aH]at q ⊢;exact q
 | _,_,e,d::ds,_,q=>by
  rw[aH]at q ⊢;refine bw q fun v r e1 a b=>?_;clear q;exact⟨v,r,e1,Rep.same e d a,aH.same e ds b⟩
end
variable {H:Hp}
def Rep.items(q:Rep K C H (.lst ds) v):∃a xs,v = .ref a/\k9 K H a xs/\aH K C H ds xs:=by
 rw[Rep]at q;refine bw q fun a xs h1 h2 h3=>?_;clear q;exact⟨a,xs,h1,h2,h3.same (aG _ _) _⟩
theorem aH.len:∀{ds:List D} {vs:List V},aH K C H ds vs->vs.length=ds.length
 | [],_,e=>by rw[aH]at e;subst e;rfl
 | d::ds,_,e=>by
  rw[aH]at e;refine bw e fun v r b9 _ q=>?_;clear e;obtain rfl:=b9;rw[cK,cK,q.len]
theorem aH.get':∀{ds:List D} {vs:List V} {j:Nat} {d:D},aH K C H ds vs->ds[j]?=some d->∃v,vs[j]?=some v/\Rep K C H d v
 | [],_,j,v,e,h=>by cases h
 | d::ds,_,j,v,e,h=>by
  rw[aH]at e;refine bw e fun u r b9 a q=>?_;clear e;obtain rfl:=b9;cases j with
  | zero=>cases h;exact⟨u,rfl,a⟩
  | succ j=>refine aO (q.get' (j:=j) (by simpa using h)) fun z h1 h2=>?_;exact⟨z,by simpa using h1,h2⟩
def aH.nil:aH K C H [] []:=by rw[aH]
def aH.cons(a:Rep K C H d v)(b:aH K C H ds vs):aH K C H (d::ds) (v::vs):=by rw[aH];exact⟨v,vs,rfl,a,b⟩
theorem aH.app:∀{ds es:List D} {vs ws:List V},aH K C H ds vs->aH K C H es ws->aH K C H (ds++es) (vs++ws)
 | [],_,_,_,a,b=>by rw[aH]at a;subst a;exact b
 | d::ds,_,_,_,a,b=>by
  rw[aH]at a;refine bw a fun v r b9 a1 a2=>?_;clear a;obtain rfl:=b9;exact .cons a1 (a2.app b)
theorem aH.take:∀{ds:List D} {vs:List V} (n:Nat),aH K C H ds vs->aH K C H (ds.take n) (vs.take n)
 | [],_,n,a=>by rw[aH]at a;subst a;simp[aH]
 | d::ds,_,0,a=>by simp[aH]
 | d::ds,_,n+1,a=>by
  rw[aH]at a;refine bw a fun v r b9 a1 a2=>?_;clear a;obtain rfl:=b9;rw[Mz,Mz];exact .cons a1 (a2.take n)
theorem aH.drop:∀{ds:List D} {vs:List V} (n:Nat),aH K C H ds vs->aH K C H (ds.drop n) (vs.drop n)
 | [],_,n,a=>by rw[aH]at a;subst a;simp[aH]
 | d::ds,_,0,a=>a
 | d::ds,_,n+1,a=>by
  rw[aH]at a;refine bw a fun v r b9 a1 a2=>?_;clear a;obtain rfl:=b9;rw[MA,MA];exact a2.drop n
theorem aH.ints:∀ns:List Int,aH K C H (ns.map D.int) (ns.map V.int)
 | []=>.nil
 | n::ns=>.cons (by rw[Rep]) (aH.ints ns)
end
section
variable {s:ay}
mutual
theorem Inv.dat(I:Inv X ao σ H s):∀(d:D) {v:V} {u:au},flat d=true->Rep X.K C H d v->RelV v u->eX s.heap d u
 | .cM,v,u,_,q,r=>by rw[Rep]at q;subst q;rw[eX];exact r
 | .bl b,v,u,_,q,r=>by rw[Rep]at q;subst q;rw[eX];exact r
 | .int i,v,u,_,q,r=>by rw[Rep]at q;subst q;rw[eX];exact r
 | .str x,v,u,_,q,r=>by rw[Rep]at q;subst q;rw[eX];exact r
 | .tup ds,v,u,f,q,r=>by
  rw[Rep]at q;rw[flat]at f;refine bw q fun a xs b9 h2 h3=>?_;clear q;obtain rfl:=b9;obtain rfl:u = .ref a:=r;refine cC (I.tuple h2) fun bx r1 t _=>?_;rw[eX];exact⟨a,bx.toArray,rfl,t,Inv.D5 I ds f h3 r1⟩
 | .lst ds,v,u,f,q,r=>by
  have q:=q.items;rw[flat]at f;refine bw q fun a xs b9 h2 h3=>?_;clear q;obtain rfl:=b9;obtain rfl:u = .ref a:=r;refine cC (I.list h2) fun bx r1 t _=>?_;rw[eX];exact⟨a,bx.toArray,rfl,t,Inv.D5 I ds f h3 r1⟩
 | .bJ tb ds,v,u,f,q,r=>by rw[flat]at f;cases f
theorem Inv.D5(I:Inv X ao σ H s):∀(ds:List D) {vs:List V} {us:List au},cu ds=true->aH X.K C H ds vs->Vals vs us->bA s.heap ds us
 | [],_,_,_,q,r=>by rw[aH]at q;subst q;cases r;rw[bA]
 | d::ds,_,_,f,q,r=>by
  rw[aH]at q;refine bw q fun v vs' b9 a b=>?_;clear q;obtain rfl:=b9;rw[cu,bV]at f;cases r with
  | cons r1 r2=>rw[bA];exact⟨_,_,rfl,Inv.dat I d f.1 a r1,Inv.D5 I ds f.2 b r2⟩
end
def Ys(K:aD)(C:Cfg)(neg:Bool):R2:=fun x y H Q=>∃d e,Rep K C H d x/\Rep K C H e y/\flat d=true/\flat e=true/\dep d<=60/\Q (.bl (if neg then !iJ d e else iJ d e)) H
def OI(hu:X.A.units+64<cLine):pQ X (gU .Eq) (Ys X.K C false):=by
 intro ao s σ H x y v u Q I rx ry ⟨d,e,h1,h2,f1,f2,h3,q⟩;exact Yk d e f1 f2 (Inv.dat I d f1 h1 rx) (Inv.dat I e f2 h2 ry) (by lia) _ _ _ _ ⟨.bl (iJ d e),H,I,rfl,q⟩
def Yt(hu:X.A.units+64<cLine):pQ X (gU .NotEq) (Ys X.K C true):=by
 intro ao s σ H x y v u Q I rx ry ⟨d,e,h1,h2,f1,f2,h3,q⟩;exact Ot d e f1 f2 (Inv.dat I d f1 h1 rx) (Inv.dat I e f2 h2 ry) (by lia) _ _ _ _ ⟨.bl (!iJ d e),H,I,rfl,q⟩
def Yu(K:aD)(C:Cfg)(neg:Bool):R2:=fun x y H Q=>∃d es,Rep K C H d x/\(Rep K C H (.lst es) y\/Rep K C H (.tup es) y)/\flat d=true/\cu es=true/\jw es<=60/\Q (.bl (if neg then !(es.any fun e=>iJ e d)else es.any fun e=>iJ e d)) H
def uz(h:aQ)(d:D)(y:au):Bool:=@decide (∃e,eX h e y/\iJ e d=true) (Classical.propDecidable _)
def D6(q:eX h e y):uz h d y=iJ e d:=by
 unfold uz;cases z:iJ e d with
 | true=>exact @aX1 _ (Classical.propDecidable _) ⟨e,q,z⟩
 | false=>refine @aX2 _ (Classical.propDecidable _) ?_;rintro⟨e',q',z'⟩;rw[eX.inj e e' q q']at z;rw[z]at z';cases z'
theorem mw:∀(es:List D) {ys:List au},bA h es ys->ys.any (uz h d)=es.any fun e=>iJ e d
 | [],_,q=>by rw[bA]at q;subst q;rfl
 | e::es,_,q=>by
  rw[bA]at q;refine bw q fun v r b9 a b=>?_;clear q;obtain rfl:=b9;rw[nY,nY,D6 a,mw es b]
def ng{A:bX}(fd:flat d=true)(hx:eX s.heap d x)(f:cu es=true)(q:bA s.heap es ys)(hu:A.units+jw es<cLine):∀y∈ys,EqAt A s y x (uz s.heap d y):=fun y hy=>by
 obtain⟨j,hj,e⟩:=iQ.mp hy;obtain⟨a,b⟩:=q.get j hj;rw[e]at a;rw[D6 a];have:=iy b;exact oK _ _ (dG f b) fd a hx (by lia)
def OJ(hu:X.A.units+64<cLine):pQ X (gU .In) (Yu X.K C false):=by
 intro ao s σ H x y v u Q I rx ry ⟨d,es,h1,h2,f1,f2,h3,q⟩;have hd:=Inv.dat I d f1 h1 rx;rcases h2 with h2|h2;have he:=Inv.dat I (.lst es) (by rw[flat];exact f2) h2 ry;rw[eX]at he;refine bw he fun a it b9 t p=>?_;clear he;obtain rfl:=b9;refine in_listAt (uz s.heap d) t.isList (fun y hy=>ng f1 hd f2 p (by show X.A.units+1+_<_;lia) y (z5.mpr hy)) ?_;rw[<- Ax,mw es p];exact⟨.bl (es.any fun e=>iJ e d),H,I,rfl,q⟩;have he:=Inv.dat I (.tup es) (by rw[flat];exact f2) h2 ry;rw[eX]at he;refine bw he fun a it b9 t p=>?_;clear he;obtain rfl:=b9;refine in_tupleAt (uz s.heap d) (aN t) (fun y hy=>ng f1 hd f2 p (by show X.A.units+1+_<_;lia) y (z5.mpr hy)) ?_;rw[<- Ax,mw es p];exact⟨.bl (es.any fun e=>iJ e d),H,I,rfl,q⟩
def zC(hu:X.A.units+64<cLine):pQ X (gU .NotIn) (Yu X.K C true):=by
 intro ao s σ H x y v u Q I rx ry ⟨d,es,h1,h2,f1,f2,h3,q⟩;have hd:=Inv.dat I d f1 h1 rx;rcases h2 with h2|h2;have he:=Inv.dat I (.lst es) (by rw[flat];exact f2) h2 ry;rw[eX]at he;refine bw he fun a it b9 t p=>?_;clear he;obtain rfl:=b9;refine notIn_listAt (uz s.heap d) t.isList (fun y hy=>ng f1 hd f2 p (by show X.A.units+1+_<_;lia) y (z5.mpr hy)) ?_;rw[<- Ax,mw es p];exact⟨.bl (!es.any fun e=>iJ e d),H,I,rfl,q⟩;have he:=Inv.dat I (.tup es) (by rw[flat];exact f2) h2 ry;rw[eX]at he;refine bw he fun a it b9 t p=>?_;clear he;obtain rfl:=b9;refine notIn_tupleAt (uz s.heap d) (aN t) (fun y hy=>ng f1 hd f2 p (by show X.A.units+1+_<_;lia) y (z5.mpr hy)) ?_;rw[<- Ax,mw es p];exact⟨.bl (!es.any fun e=>iJ e d),H,I,rfl,q⟩
end
end Dm
namespace Dm
open PySem PyProof.Rows L2 PySem.SeqAt Ts
theorem v7(r:Vals ws vs):∀(pm:List Nat),(∀i∈pm,i<ws.length)->Vals (pm.map fun i=>ws.getD i .cM) (pm.map fun i=>vs.getD i dI)
 | [],_=>.nil
 | i::pm,h=>by
  refine .cons ?_ (v7 r pm fun j hj=>h j (.tail _ hj));have hi:=h i (.head _);refine aO (r.get (dz hi)) fun u h1 h2=>?_;have e1:ws.getD i .cM=ws[i]:=by simp[hi]
  have e2:vs.getD i dI=u:=by simp[h1]
  show RelV (ws.getD i .cM) (vs.getD i dI);rw[e1,e2];exact h2
theorem v8{K:aD}{H:Hp}{ws:List V}{ds:List D}(r:aH K C H ds ws):∀(pm:List Nat),(∀i∈pm,i<ds.length)->aH K C H (pm.map fun i=>ds.getD i .cM) (pm.map fun i=>ws.getD i .cM)
 | [],_=>.nil
 | i::pm,h=>by
  refine .cons ?_ (v8 r pm fun j hj=>h j (.tail _ hj));have hi:=h i (.head _);refine aO (r.get' (dz hi)) fun u h1 h2=>?_;have e1:ds.getD i .cM=ds[i]:=by simp[hi]
  have e2:ws.getD i .cM=u:=by simp[h1]
  show Rep K C H (ds.getD i .cM) (ws.getD i .cM);rw[e1,e2];exact h2
structure rK(ds:List D):Prop where
 kd:∃kd,Sk ds kd
 n8:ds.length<64
 gD:∀a∈ds,∀b∈ds,gD a b=true
 nl:∀a∈ds,nl a=true
 dep:∀a∈ds,dep a<=50
def yC(h:∀a∈ds,∀b∈ds,gD a b=true):cu ds=true:=jx fun d hd=>(wU d d (h d hd d hd)).1
def OL(K:aD)(C:Cfg):List V->Hp->VK->Prop:=fun xs H Q=>∃v ds,xs=[v]/\Rep K C H (.lst ds) v/\rK ds/\∀p ws,H p=none->aH K C H (fC ds) ws->Q (.ref p) (upd H p (.lst ws))
def xh{h1 h':aQ}{vs:List au}(I:L2.Inv X ao σ H s)(k1:∀b ob,s.heap.get? b=some ob->h1.get? b=some ob)(k2:∀b ob,h1.get? b=some ob->h'.get? b=some ob)
  (hL:h1.objs.size<=L) (ho:h'.get? L=some (bZ "list" vs.toArray n)) (r:Vals ws vs) (hz:ws.length<=cG) (q:H L=none->Q (.ref L) (upd H L (.lst ws))):EP X ao σ Q (.ref L) {s with heap:=h',toks:=tk}:=by
 have I1:L2.Inv X ao σ H {s with heap:=h1,toks:=tk}:=I.kept k1;have hn:H L=none:=I1.eU.fresh hL;refine⟨.ref L,upd H L (.lst ws),I1.laid (t':=tk) k2 hL ⟨hz,vs,n,r,ho⟩,rfl,q hn⟩
def Yv(K:aD)(C:Cfg)(G:List D->Prop):List V->Hp->VK->Prop:=fun xs H Q=>∃a ws ds,xs=[.ref a]/\k9 K H a ws/\aH K C H ds ws/\G ds/\∀(p:av) (pm:List Nat),H p=none->(∀i∈pm,i<ds.length)->fC ds=pm.map (fun i=>ds.getD i .cM)->Q (.ref p) (upd H p (.lst (pm.map fun i=>ws.getD i .cM)))
def Bf{G:List D->Prop}(hG:∀ds,G ds->cu ds=true/\∃kd,ds.length<=cG->∀bx,SG X.prog X.w X.A ds kd bx):oB X (.builtin "sorted") (Yv X.K C G):=by
 intro ao s σ H xs us Q I r ⟨a,ws,ds,e,h2,h3,S,q⟩;subst e;refine aO (vals1 r) fun u iV rv=>?_;obtain rfl:=iV;obtain rfl:u = .ref a:=rv;refine cC (I.list h2) fun bx r1 pl hz=>?_;obtain⟨ff,kd,sg⟩:=hG ds S;have ld:bx.length=ds.length:=by rw[<- r1.length,h3.len]
 have lw:ws.length=ds.length:=h3.len;refine ux (Pd:=fun es Wm vs=>es=ds/\Wm=kd/\vs=bx) (fun es Wm vs hp=>?_) (fun R hR=>?_) fun h1 h' tk es Wm vs L n pm k1 k2 hp hd hL ie hs ho=>?_;obtain⟨rfl,rfl,rfl⟩:=hp;exact sg (by rw[<- lw];exact hz) _;refine collect_list (vs:=bx) (s:=s) pl.isList ?_ (by rw[<- r1.length];exact hz);have keep:∀b ob,s.heap.get? b=some ob->((s.heap.push (bZ "list" #[] 0)).update s.heap.objs.size (cQ (· ++ bx.toArray))).get? b=some ob:=fun b ob e=>by rw[F5 _ _ _ _ (dh (bY e))];exact bM _ e
 exact hR _ s.toks ds kd bx keep ⟨rfl,rfl,rfl⟩ ((Inv.D5 I ds ff h3 r1).keep keep);obtain⟨rfl,rfl,rfl⟩:=hp;have lp:pm.length=es.length:=by have:=congrArg List.length hs;rw[bf,(cJ es).length_eq]at this;exact this.symm
 exact xh I k1 k2 hL ho (v7 r1 pm fun i hi=>by rw[lw];exact ie i hi) (by rw[bf,lp,<- lw];exact hz) fun hn=>q L pm hn ie hs
def Bg(hu:X.A.units+64<cLine):oB X (.builtin "sorted") (OL X.K C):=by
 intro ao s σ H xs us Q I r ⟨v,ds,e,h1,S,q⟩;subst e;obtain⟨a,ws,rfl,h2,h3⟩:=h1.items;exact Bf (G:=rK) (fun ds S=>⟨yC S.gD,S.kd.imp fun kd sk _ bx=>sgS sk S.n8 S.gD S.nl fun a ha=>by have:=S.dep a ha;lia⟩) ao s σ H _ us Q I r ⟨a,ws,ds,rfl,h2,h3,S,fun p pm hn ie hs=>q p _ hn (by rw[hs];exact v8 h3 pm ie)⟩
end Dm
namespace Dm
open PySem PyProof.Rows L2 PySem.SeqAt Ts Tb
def xj(h:ItemsAre (intKind prog w) ks vs):∀v∈vs,∃i t,v=Jo i t:=by
 induction h with
 | nil=>intro v hv;cases hv
 | cons h1 _ ih=>intro v hv;rcases bR.mp hv with rfl|hv;obtain⟨t,e⟩:=ae7 h1;exact⟨_,t,e⟩;exact ih v hv
def tupS(prog:cS)(w:bI):oO prog w (List Int) where
 toHeapKind:=tupleKind (intKind prog w)
 OA:=fun {A E s k a Q} hk h=>by
  have hT:=hk.typeIs;refine S8 hk fun o items n ho _ hd hi=>?_;clear hk;unfold ofAClassStatement;refine ak (Ag hT ?_);dsimp only;rw[aW9 (by decide)];refine ak (aB ?_);simp only[iC,cP,aX7];refine ak (EU ho hd ?_);dsimp only;refine ak ?_;rw[<- vU];refine lI _ (fun rest r s'=>r.1=none/\s'=s/\∀v∈rest,∃i t,v=Jo i t) _ ?_ ?_ _ _ ⟨rfl,rfl,xj hi⟩;rintro v rest r s' ⟨hr,rfl,oH⟩;refine qu (oH v uo) fun i t b9=>?_;obtain rfl:=b9;unfold ofAClassStatement;refine ak (aB ?_);simp only[cP,aX7];exact aB ⟨rfl,rfl,fun u hu=>oH u (nS _ hu)⟩;rintro⟨r1,r2⟩ s' ⟨hr,rfl,_⟩;simp only at hr;subst hr;exact aB h
 Wz:=fun {A E s k a Q} hk h=>by
  have hT:=hk.typeIs;refine S8 hk fun o items n ho _ hd hi=>?_;clear hk;unfold hashByValue;refine ak (nP hT Nf.lookup ?_);dsimp only;refine ak (EU ho hd ?_);dsimp only[Option.getD];refine ak ?_;rw[<- vU];refine lI _ (fun rest r s'=>r.1=none/\s'=s/\∀v∈rest,∃i t,v=Jo i t) _ ?_ ?_ _ _ ⟨rfl,rfl,xj hi⟩;rintro v rest r s' ⟨hr,rfl,oH⟩;refine qu (oH v uo) fun i t b9=>?_;obtain rfl:=b9;unfold hashByValue;refine ak (aB ?_);simp only[iC,cP,aX7];exact aB ⟨rfl,rfl,fun u hu=>oH u (nS _ hu)⟩;rintro⟨r1,r2⟩ s' ⟨hr,rfl,_⟩;simp only at hr;subst hr;exact aB h
 mono:=fun hk e=>by
  refine S8 hk fun o items n ho hc hd hi=>?_;clear hk;exact⟨o,items,n,e _ _ ho hc,hc,hd,hi⟩
theorem D7:∀{ns:List Int} {vs:List au},bA h (ns.map D.int) vs->ItemsAre (intKind prog w) ns vs
 | [],_,q=>by rw[lO,bA]at q;subst q;exact .nil
 | n::ns,_,q=>by
  rw[aW,bA]at q;refine bw q fun v r b9 a b=>?_;clear q;obtain rfl:=b9;rw[eX]at a;obtain⟨t,rfl⟩:=a;exact .cons (by show Value.isInt n (.int n t)=true;simp[Value.isInt]) (D7 b)
def as2{ns:List Int}(q:eX h (.tup (ns.map D.int)) (.ref a)):(tupS prog w).is h ns a:=by
 rw[eX]at q;refine bw q fun b it e qZ p=>?_;clear q;obtain⟨o,h1,h2,n,h3⟩:=qZ;obtain rfl:a=b:=by injection e
 exact⟨o,it,n,h1,h2,h3,D7 p⟩
def OM(prog:cS)(w:bI)(a:av)(zs:List (List Int×av))(h:aQ):Prop:=
 ∃o ep t,h.get? a=some o/\o.ExactSet/\o.data = .set (zs.map (entry (tupS prog w))).toArray ep t/\Good t zs.length/\Paths t (fun i=>((zs.map (entry (tupS prog w))).toArray[i]?.map (·.1)).getD 0) zs.length/\
  t.led=iG w/\t.plain=true/\zs.length*5<t.mask*3/\(zs.map (·.1)).Nodup
def Members(K:aD)(H:Hp)(zs:List (List Int×av)):Prop:=∀z∈zs,kW K H z.2 (z.1.map V.int)
def ID(X:Cx)(C:Cfg):List V->Hp->VK->Prop:=fun xs H Q=>∃(v:V) (jZ:List (List Int)),xs=[v]/\Rep X.K C H (.lst (jZ.map fun ns=>.tup (ns.map D.int))) v/\jZ.length<=50/\
 ∀p zs,H p=none->Members X.K H zs->(zs.map (·.1)).Nodup->(∀ns,ns∈zs.map (·.1)↔ns∈jZ)->Q (.ref p) (upd H p (.ext (OM X.prog X.w p zs)))
theorem zD{K:aD}{H:Hp}:∀{jZ:List (List Int)} {ws:List V},aH K C H (jZ.map fun ns=>.tup (ns.map D.int)) ws->∃ys:List (List Int×av),ys.map (·.1)=jZ/\ws=(ys.map fun y=>V.ref y.2)/\Members K H ys
 | [],_,q=>by rw[lO,aH]at q;subst q;exact⟨[],rfl,rfl,fun z hz=>by cases hz⟩
 | ns::jZ,_,q=>by
  rw[aW,aH]at q;refine bw q fun v r b9 a b=>?_;clear q;obtain rfl:=b9;refine cC (zD b) fun ys e1 e2 m=>?_;rw[Rep]at a;refine bw a fun ad xs b9 t p=>?_;clear a;obtain rfl:=b9;have exs:xs=ns.map V.int:=by
   clear t;induction ns generalizing xs with
   | nil=>rw[lO,aH]at p;exact p
   | cons n ns ih=>rw[aW,aH]at p;refine bw p fun v r' b9 a1 a2=>?_;clear p;obtain rfl:=b9;rw[Rep]at a1;rw[a1,ih _ a2];rfl
  subst exs;refine⟨(ns,ad)::ys,by rw[aW,e1],by rw[aW,e2],fun z hz=>?_⟩;rcases bR.mp hz with rfl|hz;exact t;exact m z hz
def ON(I:L2.Inv X ao σ H s){z:List Int×av}(h:kW X.K H z.2 (z.1.map V.int)):(tupS X.prog X.w).is s.heap z.1 z.2:=by
 refine as2 ?_;refine Inv.dat (C:=as1) I _ (v:=V.ref z.2) ?_ ?_ rfl;rw[flat];exact jx fun d hd=>by refine aO (aL.mp hd) fun n _ b9=>?_;obtain rfl:=b9;rw[flat] <;> simp
 rw[Rep];exact⟨z.2,_,rfl,h,aH.ints z.1⟩
theorem zE:∀{ys:List (List Int×av)},Vals (ys.map fun y=>V.ref y.2) vs->vs=ys.map fun y=>eG y.2
 | [],r=>by cases r;rfl
 | y::ys,r=>by
  cases r with
  | cons r1 r2=>rw[aW,zE r2];congr 1
def JX(hh:X.A.handled=none)(hu:X.A.units+64<cLine):oB X (.type "set") (ID X C):=by
 intro ao s σ H xs us Q I r ⟨v,jZ,e,h1,hn,q⟩;subst e;refine aO (vals1 r) fun u iV rv=>?_;obtain rfl:=iV;have h1:=h1.items;refine bw h1 fun a ws b9 h2 h3=>?_;clear h1;obtain rfl:=b9;obtain rfl:u = .ref a:=rv;refine cC (I.list h2) fun bx r1 pl hz=>?_;refine cC (zD h3) fun ys e1 e2 m=>?_;subst e2;obtain rfl:=zE r1;have ly:ys.length=jZ.length:=by rw[<- e1,bf]
 refine OE (κ:=tupS X.prog X.w) (ys:=ys) hh (by show X.A.units+1+1+1<cLine;lia) pl.isList (by lia) (fun y hy=>ON I (m y hy)) fun h' tk o ep t zs k S m1 m2=>?_;have hf:H s.heap.objs.size=none:=I.eU.fresh (aZ _);refine⟨.ref s.heap.objs.size,upd H s.heap.objs.size (.ext (OM X.prog X.w s.heap.objs.size zs)),I.laid (t':=tk) k (aZ _) ?_,rfl,q _ zs hf (fun z hz=>m z (m1 z hz)) S.keys fun ns=>?_⟩;refine⟨⟨o,ep,t,S.obj,S.nc,S.data,S.good,S.Iv,S.JT,S.plain,S.n8,S.keys⟩,⟨o,S.obj⟩,?_⟩;rintro h1 h2 ⟨o',AG,t',q1,q2⟩ ke;exact⟨o',AG,t',ke _ q1,q2⟩;constructor;intro hm;refine aO (aL.mp hm) fun z hz b9=>?_;obtain rfl:=b9;rw[<- e1];exact aL.mpr ⟨z,m1 z hz,rfl⟩;intro hm;rw[<- e1]at hm;refine aO (aL.mp hm) fun y hy b9=>?_;obtain rfl:=b9;exact m2 y hy
def Rows(jZ:List (List Int)):Prop:=∃n,∀ns∈jZ,ns.length=n+1
theorem tT:∀{a b:List Int},a.length=b.length->fH (a.map D.int) (b.map D.int)=true
 | [],[],_=>by simp[fH]
 | x::a,y::b,h=>by
  rw[aW,aW,fH,tT (by simpa using h)];simp[gD]
theorem D8:∀a:List Int,Gz (a.map D.int)=true
 | []=>by simp[Gz]
 | x::a=>by rw[aW,Gz,D8 a];simp[nl]
def JY(a:List Int):jw (a.map D.int)=0:=by
 have:jw (a.map D.int)<=0:=rA fun d hd=>by refine aO (aL.mp hd) fun n _ b9=>?_;obtain rfl:=b9;rw[dep] <;> simp
 lia
def yD(h:Rows jZ)(n8:jZ.length<64):rK (jZ.map fun ns=>.tup (ns.map D.int)):=by
 obtain⟨n,hn⟩:=h;have mem:∀d∈jZ.map (fun ns=>D.tup (ns.map D.int)),∃ns∈jZ,d = .tup (ns.map D.int):=fun d hd=>by refine aO (aL.mp hd) fun ns h1 h2=>?_;exact⟨ns,h1,h2.symm⟩
 refine⟨⟨_,.oA fun d hd=>?_⟩,by rw[bf];exact n8,fun a ha b hb=>?_,fun a ha=>?_,fun a ha=>?_⟩;refine aO (mem d hd) fun ns h1 b9=>?_;obtain rfl:=b9;have:=hn ns h1;match ns,this with
 | i::r,_=>exact⟨i,r.map D.int,rfl⟩
 refine aO (mem a ha) fun ns h1 b9=>?_;obtain rfl:=b9;refine aO (mem b hb) fun ms h2 b9=>?_;obtain rfl:=b9;rw[gD];exact tT (by rw[hn ns h1,hn ms h2]);refine aO (mem a ha) fun ns h1 b9=>?_;obtain rfl:=b9;rw[nl];exact D8 ns;refine aO (mem a ha) fun ns h1 b9=>?_;obtain rfl:=b9;rw[dep,JY];decide
def GI(X:Cx)(C:Cfg):List V->Hp->VK->Prop:=fun xs H Q=>∃a zs,xs=[.ref a]/\H a=some (.ext (OM X.prog X.w a zs))/\Members X.K H zs/\zs.length<=50/\Rows (zs.map (·.1))/\
 ∀p ws (es:List (List Int)),H p=none->es.Perm (zs.map (·.1))->aH X.K C H (fC (es.map fun ns=>.tup (ns.map D.int))) ws->Q (.ref p) (upd H p (.lst ws))
def JZ:∀{l:List α} {m:List β},m.Perm (l.map f)->∃l':List α,l'.Perm l/\m=l'.map f:=by
 intro l m h;generalize e:l.map f=k at h;induction h generalizing l with
 | nil=>exact⟨l,.refl _,e.symm⟩
 | cons x _ ih=>
  match l,e with
  | a::l,e=>rw[aW]at e;injection e with e1 e2;refine aO (ih e2) fun l' p q=>?_;exact⟨a::l',p.cons a,by rw[aW,e1,q]⟩
 | swap x y k=>
  match l,e with
  | a::b::l,e=>rw[aW,aW]at e;injection e with e1 e2;injection e2 with e2 e3;exact⟨b::a::l,.swap a b l,by rw[aW,aW,e1,e2,e3]⟩
 | trans _ _ ih1 ih2=>refine aO (ih2 e) fun l1 p1 q1=>?_;refine aO (ih1 q1.symm) fun l2 p2 q2=>?_;exact⟨l2,p2.trans p1,q2⟩
def Bh(hh:X.A.handled=none)(hu:X.A.units+64<cLine):oB X (.builtin "sorted") (GI X C):=by
 intro ao s σ H xs us Q I r ⟨a,zs,e,h1,hm,hn,hr,q⟩;subst e;refine aO (vals1 r) fun u iV rv=>?_;obtain rfl:=iV;obtain rfl:u = .ref a:=rv;refine wg (I.eU a _ h1) fun zo0 _ _=>?_;obtain⟨o,ep,t,g1,g2,g3,g4,g5,g6,g7,g8,g9⟩:=zo0;have S:iK (tupS X.prog X.w) s.heap a (iG X.w) zs o ep t:=⟨g1,g2,g3,g4,g5,g6,g7,g8,g9,fun x hx=>ON I (hm x hx)⟩
 refine ux (Pd:=fun es kd vs=>kd=tuples' true/\∃l:List (List Int×av),l.Perm zs/\es=(l.map fun y=>.tup (y.1.map D.int))/\vs=l.map fun y=>eG y.2) (fun es kd vs hp=>?_) (fun R hR=>?_) fun h1 h' tk es kd vs L n pm k1 k2 hp hd hL ie hs ho=>?_;obtain⟨rfl,l,p,rfl,rfl⟩:=hp;obtain⟨m,yw⟩:=hr;have rows:Rows (l.map (·.1)):=⟨m,fun ns hns=>yw ns ((p.map _).mem_iff.mp hns)⟩
 have so:=yD rows (by rw[bf,p.length_eq];lia);rw[d9]at so;refine sgS (.oA fun d hd=>?_) so.n8 so.gD so.nl fun a ha=>by have:=so.dep a ha;lia
 refine aO (aL.mp hd) fun y hy b9=>?_;obtain rfl:=b9;have:=yw y.1 (aL.mpr ⟨y,p.mem_iff.mp hy,rfl⟩);match h:y.1,this with
 | i::r,_=>exact⟨i,r.map D.int,rfl⟩
 refine D4 (κ:=tupS X.prog X.w) hh S hn fun h' tk vs k pv=>?_;refine aO (JZ pv) fun l p b9=>?_;obtain rfl:=b9;refine hR h' tk _ _ _ k ⟨rfl,l,p,rfl,rfl⟩ (bA.of_map _ _ l fun y hy=>eX.keep k _ ?_);have t:=hm y (p.mem_iff.mp hy);refine Inv.dat (C:=as1) I _ (v:=V.ref y.2) ?_ ?_ rfl;rw[flat];exact jx fun d hd=>by refine aO (aL.mp hd) fun n _ b9=>?_;obtain rfl:=b9;rw[flat] <;> simp
 rw[Rep];exact⟨y.2,_,rfl,t,aH.ints y.1⟩;obtain⟨rfl,l,p,rfl,rfl⟩:=hp;have ll:l.length<=50:=by rw[p.length_eq];exact hn
 have lp:pm.length=l.length:=by have:=congrArg List.length hs;rw[bf,(cJ _).length_eq,bf]at this;exact this.symm
 have rv:∀l:List (List Int×av),Vals (l.map fun y=>V.ref y.2) (l.map fun y=>eG y.2):=fun l=>by
  induction l with
  | nil=>exact .nil
  | cons y l ih=>exact .cons rfl ih
 have lt':∀i∈pm,i<l.length:=fun i hi=>by have:=ie i hi;rwa [bf]at this
 have rp:aH X.K C H (l.map fun y=>.tup (y.1.map D.int)) (l.map fun y=>V.ref y.2):=by
  have hm2:∀y∈l,kW X.K H y.2 (y.1.map V.int):=fun y hy=>hm y (p.mem_iff.mp hy);clear hs ie lt' lp hd ho p ll;induction l with
  | nil=>exact .nil
  | cons y l ih=>refine .cons ?_ (ih fun z hz=>hm2 z (nS _ hz));rw[Rep];exact⟨y.2,_,rfl,hm2 y uo,aH.ints y.1⟩
 have big:64<=cG:=by rw[fQ];decide
 refine xh I k1 k2 hL ho (v7 (rv l) pm fun i hi=>by rw[bf];exact lt' i hi) (by rw[bf,lp];lia) fun wz=>q L _ (l.map (·.1)) wz (p.map _) ?_;rw[d9];show aH X.K C H (fC (l.map fun y=>.tup (y.1.map D.int))) _;rw[hs];exact v8 rp pm ie
end Dm
namespace Dm
open PySem PySem.Spec PyProof.Rows L2
inductive R(α:Type) where
 | ok (a:α)|ex (c:av) (p:Option Int)|bad
def R.bind{α β:Type}(r:R α)(f:α->R β):R β:=match r with | .ok a=>f a | .ex c p=>.ex c p | .bad=>.bad
abbrev gM:=List (Option D)
abbrev DF:=gM->R D
abbrev DA:=gM->R (List D)
inductive Out where
 | nx (st:gM)|rt (d:D)|bk (st:gM)|ct (st:gM)|ex (c:av) (p:Option Int) (st:gM)|bad
abbrev DS:=gM->Out
def K2(E:XK)(c:av)(p:Option Int)(H:Hp):Prop:=match p with
 | none=>E (.ref c) none H
 | some n=>∀dx,H dx=some (.xd [("at",.int n)])->E (.ref c) (some dx) H
def rL:Option HO->Bool
 | none=>true
 | some (.tup _)=>true
 | some (.Cj _ (.tup _))=>true
 | _=>false
def nw(G H:Hp):Hp:=fun a=>if rL (G a)=true then H a else none
def cN(G H:Hp):aE (nw G H) H:=fun b o h=>by
 unfold nw at h;split at h;exact h;cases h
def bP(e:aE H H'):aE (nw G H) (nw G H'):=fun b o h=>by
 unfold nw at h ⊢;split at h;rename_i q;rw[aW9 q];exact e b o h;cases h
def nh(e:aE G G')(h:rL (G' a)=true):rL (G a)=true:=by
 cases q:G a with
 | none=>rfl
 | some o=>rw[e a o q]at h;exact h
def rM(e:aE G G'):aE (nw G' H) (nw G H):=fun b o h=>by
 unfold nw at h ⊢;split at h;rename_i q;rw[aW9 (nh e q)];exact h;cases h
def jP(h:G a=none):nw G H a=H a:=by unfold nw;rw[h];rfl
def jV(H G:Hp):Prop:=aE G H/\∀a xs,Rd H a (.tup xs)->Rd G a (.tup xs)
theorem jV.trans(a:jV H G)(b:jV G F):jV H F:=⟨b.1.trans a.1,fun x xs h=>b.2 x xs (a.2 x xs h)⟩
theorem jV.nw(e:aE G H):jV H (nw G H):=⟨cN _ _,fun a xs h=>by
 have k:rL (G a)=true:=by
  cases q:G a with
  | none=>rfl
  | some o=>have:=e a o q;rcases h with h|⟨u,h⟩;rw[h]at this;cases this;rfl;rw[h]at this;cases this;rfl
 unfold Rd Dm.nw;rw[aW9 k];exact h⟩
def WC:HO->Bool
 | .lst _=>true
 | .ext _=>true
 | _=>false
theorem jV.er(h:∀a∈A,∃o,H a=some o/\WC o=true):jV H (er H A):=⟨aG _ _,fun a xs r=>by
 have k:a∉A:=fun m=>by obtain⟨o,q,z⟩:=h a m;rcases r with r|⟨u,r⟩;rw[q]at r;cases r;cases z;rw[q]at r;cases r;cases z
 unfold Rd;rw[aU k];exact r⟩
mutual
def gw:D->Bool
 | .tup ds=>dB ds
 | .lst _=>false
 | .bJ _ _=>false
 | _=>true
def dB:List D->Bool
 | []=>true
 | d::ds=>gw d&&dB ds
end
theorem jy:∀{ds:List D} {d:D},dB ds=true->d∈ds->gw d=true
 | _::_,_,h,.head _=>by rw[dB,bV]at h;exact h.1
 | _::ds,_,h,.tail _ m=>by rw[dB,bV]at h;exact jy h.2 m
theorem eY:∀{ds:List D},(∀d∈ds,gw d=true)->dB ds=true
 | [],_=>rfl
 | d::ds,h=>by rw[dB,bV];exact⟨h d (.head _),eY fun x hx=>h x (.tail _ hx)⟩
section
variable {K:aD}{C:Cfg}{H G:Hp}
def jV.sq(k:jV H G)(h:kW K H a xs):kW K G a xs:=by
 rcases h with h|h;exact .inl (k.2 a xs h);exact .inr h
mutual
theorem Rep.part(k:jV H G):∀(d:D) {v:V},gw d=true->Rep K C H d v->Rep K C G d v
 | .cM,v,_,q=>by rw[Rep]at q ⊢;exact q
 | .bl b,v,_,q=>by rw[Rep]at q ⊢;exact q
 | .int i,v,_,q=>by rw[Rep]at q ⊢;exact q
 | .str x,v,_,q=>by rw[Rep]at q ⊢;exact q
 | .tup ds,v,n,q=>by
  rw[Rep]at q ⊢;rw[gw]at n;refine bw q fun a xs h1 h2 h3=>?_;clear q;exact⟨a,xs,h1,k.sq h2,aH.part k ds n h3⟩
 | .lst ds,v,n,q=>by rw[gw]at n;cases n
 | .bJ t ds,v,n,q=>by rw[gw]at n;cases n
theorem aH.part(k:jV H G):∀(ds:List D) {vs:List V},dB ds=true->aH K C H ds vs->aH K C G ds vs
 | [],_,_,q=>by rw[aH]at q ⊢;exact q
 | d::ds,_,n,q=>by
  rw[aH]at q ⊢;rw[dB,bV]at n;refine bw q fun v r e1 a b=>?_;clear q;exact⟨v,r,e1,Rep.part k d n.1 a,aH.part k ds n.2 b⟩
end
end
inductive Kd where
 | new|tU|loc|old|tV|jQ
inductive SK where
 | par|loc|own (n:Bool)|any|pr|ll|dp
def kJ:D->Bool
 | .lst _=>true
 | .bJ t _=>t==2
 | _=>false
def kX(K:aD)(C:Cfg)(F H:Hp)(p:av):D->Prop
 | .lst ds=>∃xs,H p=some (.lst xs)/\aH K C F ds xs
 | .bJ t ds=>t=2/\∃xs,C.own K F H p xs/\aH K C F ds xs
 | _=>False
section
variable {K:aD}{C:Cfg}{F F' H H':Hp}{p:av}
theorem kX.WC:∀{d:D},kX K C F H p d->∃o,H p=some o/\Dm.WC o=true
 | .lst _,h=>let⟨_,e,_⟩:=h;⟨_,e,rfl⟩
 | .bJ _ _,h=>let⟨_,_,e,_⟩:=h;let⟨_,q⟩:=C.ar9 e;⟨_,q,rfl⟩
theorem kX.kJ:∀{d:D},kX K C F H p d->Dm.kJ d=true
 | .lst _,_=>rfl
 | .bJ _ _,h=>by rw[Dm.kJ,h.1];rfl
theorem kX.mono(f:aE F F')(e:H' p=H p):∀{d:D},kX K C F H p d->kX K C F' H' p d
 | .lst _,h=>let⟨xs,a,b⟩:=h;⟨xs,e.trans a,b.same f _⟩
 | .bJ _ _,h=>let⟨t,xs,a,b⟩:=h;⟨t,xs,C.IC f e a,b.same f _⟩
def kX.later(f:aE F F')(e:aE H H')(h:kX K C F H p d):kX K C F' H' p d:=by
 obtain⟨o,q,_⟩:=h.WC;exact h.mono f ((e _ _ q).trans q.symm)
theorem kX.rep(f:aE F (er G [p]))(e:G p=H p):∀{d:D},kX K C F H p d->Rep K C G d (.ref p)
 | .lst _,h=>by obtain⟨xs,a,b⟩:=h;rw[Rep];exact⟨p,xs,rfl,.of (e.trans a),b.same f _⟩
 | .bJ _ _,h=>by obtain⟨rfl,xs,a,b⟩:=h;rw[Rep];exact⟨p,xs,rfl,C.WB a (f.trans (aG _ _)) e,b.same (f.trans (aG _ _)) _⟩
end
def oR(K:aD)(C:Cfg)(G F:Hp)(d:D)(v:V):Prop:=∀s ds,d = .tup [.str s,.lst ds]->∃q p xs,v = .ref q/\kW K F q [.str s,.ref p]/\G p=none/\F p=some (.lst xs)/\aH K C (er F [p]) ds xs
def pH:D->Bool
 | .tup [.str _,.lst _]=>false
 | _=>true
def oR.not{K:aD}{C:Cfg}{G F:Hp}{d:D}{v:V}(n:pH d=true):oR K C G F d v:=fun s ds z=>by subst z;cases n
def oR.mono{K:aD}{C:Cfg}{G F F':Hp}{d:D}{v:V}(f:aE F F')(t:oR K C G F d v):oR K C G F' d v:=fun s ds h=>by
 refine Cg (t s ds h) fun q p xs a b c e g=>?_;exact⟨q,p,xs,a,aE.tup f b,c,f _ _ e,g.same (aI f) _⟩
def oR.early{K:aD}{C:Cfg}{G G' F:Hp}{d:D}{v:V}(e:aE G G')(t:oR K C G' F d v):oR K C G F d v:=fun s ds h=>by
 refine X8 (t s ds h) fun q p xs a b c=>?_;exact⟨q,p,xs,a,b,e.free c.1,c.2⟩
def kK(K:aD)(C:Cfg)(G F:Hp)(d:D)(v:V):Prop:=(kJ d=true->∃p,v = .ref p/\G p=none/\kX K C (er F [p]) F p d)/\oR K C G F d v
def Tn:List α->Option (α×α)
 | []=>none
 | a::l=>match l with
  | []=>none
  | b::l=>match l with
   | []=>some (a,b)
   | _::_=>none
theorem To:∀{l:List α},Tn l=some (a,b)->l=[a,b]
 | [_,_],h=>by cases h;rfl
 | [],h=>by cases h
 | [_],h=>by cases h
 | _::_::_::_,h=>by cases h
def IE:D->Option (List D)
 | .tup ds=>some ds
 | .cM | .bl _ | .int _ | .str _ | .lst _ | .bJ _ _=>none
def WD:D->Option Str
 | .str s=>some s
 | .cM | .bl _ | .int _ | .tup _ | .lst _ | .bJ _ _=>none
def OO:D->Option (List D)
 | .lst s=>some s
 | .cM | .bl _ | .int _ | .tup _ | .str _ | .bJ _ _=>none
def OP{d:D}(h:IE d=some z):d = .tup z:=by cases d <;> cases h;rfl
def OQ{d:D}(h:OO d=some z):d = .lst z:=by cases d <;> cases h;rfl
def Bj(d:D):Option (Str×Str×List D):=((IE d).bind Tn).bind fun p=>(WD p.1).bind fun s=>((IE p.2).bind Tn).bind fun q=>(WD q.1).bind fun s'=>(OO q.2).map fun ds=>(s,s',ds)
theorem D9{K:aD}{F:Hp}:∀{ds:List D} {vs:List V},vs.length=ds.length->(∀(j:Nat) (d:D) (v:V),ds[j]?=some d->vs[j]?=some v->Rep K C F d v)->aH K C F ds vs
 | [],[],_,_=>.nil
 | d::ds,v::vs,l,h=>.cons (h 0 d v rfl rfl) (D9 (by simpa using l) fun j d v h1 h2=>h (j+1) d v h1 h2)
 | [],_::_,l,_=>by cases l
 | _::_,[],l,_=>by cases l
def Lns(K:aD)(C:Cfg)(A:List av)(H:Hp)(ds:List D)(xs:List V):Prop:=xs.length=ds.length/\∀(j:Nat) (d:D) (v:V),ds[j]?=some d->xs[j]?=some v->∃a ys es,d = .lst es/\v = .ref a/\a∈A/\H a=some (.lst ys)/\dB es=true/\aH K C (er H A) es ys
section
variable (K:aD)(C:Cfg)
def Val(κ:Kd)(G0:Hp)(A:List av)(H H':Hp)(d:D)(v:V):Prop:=match κ with
 | .new=>Rep K C (nw H H') d v/\kK K C H (nw H H') d v
 | .tU=>Rep K C (er H' A) d v/\kK K C H (er H' A) d v
 | .loc=>Rep K C (nw G0 (er H' A)) d v/\kK K C G0 (nw G0 (er H' A)) d v
 | .old=>Rep K C (er H' A) d v
 | .tV=>Rep K C (nw G0 H') d v/\kK K C G0 (nw G0 H') d v
 | .jQ=>Rep K C H' d v
def eh(n:Bool)(G0:Hp)(A:List av)(H:Hp):Hp:=if n=true then nw G0 (er H A)else er H A
def Slot(k:SK)(G0:Hp)(A:List av)(H:Hp)(d:D)(v:V):Prop:=match k with
 | .par=>Rep K C (er H A) d v
 | .loc=>Rep K C (nw G0 (er H A)) d v/\kK K C G0 (nw G0 (er H A)) d v
 | .own n=>(∃p,v = .ref p/\p∈A/\G0 p=none/\kX K C (eh n G0 A H) H p d)\/(kJ d=false/\oR K C G0 (eh n G0 A H) d v/\Rep K C (eh n G0 A H) d v)
 | .any=>Rep K C H d v
 | .pr=>(∃q p s ds xs,d = .tup [.str s,.lst ds]/\v = .ref q/\kW K (er H A) q [.str s,.ref p]/\p∈A/\G0 p=none/\H p=some (.lst xs)/\aH K C (er H A) ds xs)\/(pH d=true/\Rep K C (er H A) d v)
 | .ll=>∃p a xs es ds vs,d = .lst (.lst es::ds)/\v = .ref p/\p∈A/\a∈A/\p≠a/\G0 p=none/\G0 a=none/\H p=some (.lst (.ref a::vs))/\H a=some (.lst xs)/\aH K C (er H A) es xs/\aH K C (er H A) ds vs
 | .dp=>(∃q r p s s' ds xs,d = .tup [.str s,.tup [.str s',.lst ds]]/\v = .ref q/\kW K (er H A) q [.str s,.ref r]/\kW K (er H A) r [.str s',.ref p]/\er H A p=some (.lst xs)/\Lns K C A H ds xs)\/(Bj d=none/\Rep K C (er H A) d v)
structure RS(G0:Hp)(Γ:List SK)(σ:L2.St)(H:Hp)(A:List av)(st:gM):Prop where
 base:aE G0 (er H A)
 lists:∀a∈A,∃o,H a=some o/\WC o=true
 len:σ.length=st.length
 slot:∀(i:Nat) (d:D),st[i]?=some (some d)->∃k v,Γ[i]?=some k/\σ[i]?=some (some v)/\Slot K C k G0 A H d v
 apart:∀(i j:Nat) (n m:Bool) (p:av) (d e:D),i≠j->Γ[i]?=some (.own n)->Γ[j]?=some (.own m)->st[i]?=some (some d)->st[j]?=some (some e)->kJ d=true->kJ e=true->σ[i]?=some (some (.ref p))->σ[j]?≠some (some (.ref p))
 gl:C.gl G0
end
section
variable {K:aD}{C:Cfg}{G0:Hp}{Γ:List SK}{σ:L2.St}{H H' H'' H1:Hp}{A:List av}{st:gM}{κ:Kd}{d:D}{v:V}
theorem kK.mono(f:aE F F')(t:kK K C G F d v):kK K C G F' d v:=⟨fun h=>by
 refine cC (t.1 h) fun p a b c=>?_;exact⟨p,a,b,c.later (aI f) f⟩,t.2.mono f⟩
theorem kK.early(e:aE G G')(t:kK K C G' F d v):kK K C G F d v:=⟨fun h=>by
 refine cC (t.1 h) fun p a b c=>?_;exact⟨p,a,e.free b,c⟩,t.2.early e⟩
def Bk(K:aD)(C:Cfg)(G F:Hp)(ds:List D)(vs:List V):Prop:=∀(j:Nat) (d:D) (v:V),ds[j]?=some d->vs[j]?=some v->kK K C G F d v
theorem Bk.mono{K:aD}(f:aE F F')(t:Bk K C G F ds vs):Bk K C G F' ds vs:=fun j d v h1 h2=>(t j d v h1 h2).mono f
def Bk.snoc{K:aD}(l:vs.length=ds.length)(t:Bk K C G F ds vs)(h:kK K C G F d v):Bk K C G F (ds++[d]) (vs++[v]):=fun j d' v' h1 h2=>by
 by_cases hj:j<ds.length;rw[lN hj]at h1;rw[lN (by rw[l];exact hj)]at h2;exact t j d' v' h1 h2;rw[jK (lK hj)]at h1;rw[jK (by rw[l];exact lK hj),l]at h2;have e:j-ds.length=0:=by have:=(fR.mp h1).1;rw[An]at this;lia
 rw[e]at h1 h2;cases h1;cases h2;exact h
def Dst(ds:List D)(vs:List V):Prop:=∀(j k:Nat) (d d':D) (v:V),j≠k->ds[j]?=some d->ds[k]?=some d'->kJ d=true->kJ d'=true->vs[j]?=some v->vs[k]?≠some v
def vc{α:Type}{l:List α}{x y:α}{j:Nat}(h:(l++[x])[j]?=some y):(j<l.length/\l[j]?=some y)\/(j=l.length/\y=x):=by
 by_cases hj:j<l.length;rw[lN hj]at h;exact .inl ⟨hj,h⟩;rw[jK (lK hj)]at h;have e:j-l.length=0:=by have:=(fR.mp h).1;rw[An]at this;lia
 rw[e]at h;cases h;exact .inr ⟨by lia,rfl⟩
def Dst.snoc(l:vs.length=ds.length)(t:Dst ds vs)(h:kJ d=true->∀(j:Nat) (d':D),ds[j]?=some d'->kJ d'=true->vs[j]?≠some v):Dst (ds++[d]) (vs++[v]):=fun j k d1 d2 u jk h1 h2 o1 o2 v1 v2=>by
 rcases vc h1 with⟨j1,g1⟩|⟨j1,g1⟩ <;> rcases vc h2 with⟨k1,g2⟩|⟨k1,g2⟩ <;> rcases vc v1 with⟨j2,w1⟩|⟨j2,w1⟩ <;> rcases vc v2 with⟨k2,w2⟩|⟨k2,w2⟩ <;> first
  | exact t j k d1 d2 u jk g1 g2 o1 o2 w1 w2
  | exact h (g2▸o2) j d1 g1 o1 (w2▸w1)
  | exact h (g1▸o1) k d2 g2 o2 (w1▸w2)
  | lia
def Dc(K:aD)(C:Cfg)(G F:Hp)(d:D)(v:V):Prop:=∀ds,d = .lst ds->∃p xs,v = .ref p/\F p=some (.lst xs)/\Bk K C G (er F [p]) ds xs/\Dst ds xs
def GJ(K:aD)(C:Cfg)(G F:Hp)(d:D)(v:V):Prop:=Dc K C G F d v/\∀z,Bj d=some z->∃q r p xs,v = .ref q/\kW K F q [.str z.1,.ref r]/\kW K F r [.str z.2.1,.ref p]/\Dc K C G F (.lst z.2.2) (.ref p)/\G p=none/\F p=some (.lst xs)/\aH K C (er F [p]) z.2.2 xs
def GJ.not(h:∀ds,d≠ .lst ds)(h':Bj d=none):GJ K C G F d v:=⟨fun ds z=>(h ds z).elim,fun z w=>by rw[h']at w;cases w⟩
def Dc.deep{K:aD}{ds:List D}(t:Dc K C G F (.lst ds) v):GJ K C G F (.lst ds) v:=⟨t,fun z w=>by cases w⟩
theorem OR:∀{d:D},gw d=true->kJ d=false
 | .lst _,h=>by rw[gw]at h;cases h
 | .bJ _ _,h=>by rw[gw]at h;cases h
 | .cM,_=>rfl
 | .bl _,_=>rfl
 | .int _,_=>rfl
 | .str _,_=>rfl
 | .tup _,_=>rfl
theorem kK.not(n:kJ d=false)(m:pH d=true):kK K C G F d v:=⟨fun h=>(by rw[n]at h;cases h),.not m⟩
theorem kK.gw(n:gw d=true):kK K C G F d v:=⟨fun h=>(by rw[OR n]at h;cases h),fun s ds z=>by subst z;simp[Dm.gw,dB]at n⟩
def Val.later(e:aE H' H'')(q:Val K C κ G0 A H H' d v):Val K C κ G0 A H H'' d v:=by
 cases κ with
 | new=>exact⟨q.1.same (bP e) _,q.2.mono (bP e)⟩
 | tU=>exact⟨q.1.same (aI e) _,q.2.mono (aI e)⟩
 | loc=>exact⟨q.1.same (bP (aI e)) _,q.2.mono (bP (aI e))⟩
 | old=>exact Rep.same (aI e) _ q
 | tV=>exact⟨q.1.same (bP e) _,q.2.mono (bP e)⟩
 | jQ=>exact Rep.same e _ q
theorem Val.early(e:aE H H1)(q:Val K C κ G0 A H1 H' d v):Val K C κ G0 A H H' d v:=by
 cases κ with
 | new=>exact⟨q.1.same (rM e) _,(q.2.early e).mono (rM e)⟩
 | tU=>exact⟨q.1,q.2.early e⟩
 | loc=>exact q
 | old=>exact q
 | tV=>exact q
 | jQ=>exact q
def Val.rep(q:Val K C κ G0 A H H' d v):Rep K C H' d v:=by
 cases κ with
 | new=>exact q.1.same (cN _ _) _
 | tU=>exact q.1.same (aG _ _) _
 | loc=>exact q.1.same ((cN _ _).trans (aG _ _)) _
 | old=>exact Rep.same (aG _ _) _ q
 | tV=>exact q.1.same (cN _ _) _
 | jQ=>exact q
def Slot.move{k:SK}(e:aE H H')(ee:aE (er H A) (er H' A'))(sb:∀a∈A,a∈A')(h3:Slot K C k G0 A H d v):Slot K C k G0 A' H' d v:=by
 have Tp:∀n,aE (eh n G0 A H) (eh n G0 A' H'):=fun n=>by unfold eh;cases n;exact ee;exact bP ee
 cases k with
 | par=>exact Rep.same ee _ h3
 | loc=>exact⟨h3.1.same (bP ee) _,h3.2.mono (bP ee)⟩
 | own n=>rcases h3 with⟨p,b,c,f,g⟩|⟨a,b⟩;exact .inl ⟨p,b,sb _ c,f,g.later (Tp n) e⟩;exact .inr ⟨a,b.1.mono (Tp n),b.2.same (Tp n) _⟩
 | pr=>rcases h3 with⟨q,p,s,ds,xs,a,b,c,f,g,h,j⟩|⟨a,b⟩;exact .inl ⟨q,p,s,ds,xs,a,b,aE.tup ee c,sb _ f,g,e _ _ h,j.same ee _⟩;exact .inr ⟨a,Rep.same ee _ b⟩
 | ll=>obtain⟨p,a,xs,es,ds,vs,h4,h5,h6,h7,h8,h9,h10,h11,h12,h13,h14⟩:=h3;exact⟨p,a,xs,es,ds,vs,h4,h5,sb _ h6,sb _ h7,h8,h9,h10,e _ _ h11,e _ _ h12,h13.same ee _,h14.same ee _⟩
 | dp=>
  rcases h3 with⟨q,r,p,s,s',ds,xs,h4,h5,h6,h7,h8,h9⟩|⟨a,b⟩;exact .inl ⟨q,r,p,s,s',ds,xs,h4,h5,aE.tup ee h6,aE.tup ee h7,ee _ _ h8,h9.1,fun j d v g1 g2=>by
   obtain⟨a,ys,es,k1,k2,k3,k4,k5,k6⟩:=h9.2 j d v g1 g2;exact⟨a,ys,es,k1,k2,sb _ k3,e _ _ k4,k5,k6.same ee _⟩⟩
  exact .inr ⟨a,Rep.same ee _ b⟩
 | any=>exact Rep.same e _ h3
def RS.mono(r:RS K C G0 Γ σ H A st)(e:aE H H'):RS K C G0 Γ σ H' A st where
 base:=r.base.trans (aI e)
 lists:=fun a m=>let⟨o,h,z⟩:=r.lists a m;⟨o,e _ _ h,z⟩
 len:=r.len
 slot:=fun i d h=>bw (r.slot i d h) fun k v h1 h2 h3=>⟨k,v,h1,h2,h3.move e (aI e) fun _ m=>m⟩
 apart:=r.apart
 gl:=r.gl
def RS.g0(r:RS K C G0 Γ σ H A st):aE G0 H:=r.base.trans (aG _ _)
def RS.Dd(r:RS K C G0 Γ σ H A st):jV H (er H A):=.er r.lists
def RS.rL(r:RS K C G0 Γ σ H A st):jV H (nw G0 (er H A)):=r.Dd.trans (.nw r.base)
def Val.flat(r:RS K C G0 Γ σ H A st)(e:aE H H')(n:gw d=true)(q:Rep K C H' d v)(κ:Kd):Val K C κ G0 A H H' d v:=by
 have r':=r.mono e;cases κ with
 | new=>exact⟨q.part (.nw e) _ n,.gw n⟩
 | tU=>exact⟨q.part r'.Dd _ n,.gw n⟩
 | loc=>exact⟨q.part r'.rL _ n,.gw n⟩
 | old=>exact Rep.part r'.Dd _ n q
 | tV=>exact⟨q.part (.nw r'.g0) _ n,.gw n⟩
 | jQ=>exact q
def RS.xm(r:RS K C G0 Γ σ H A st)(e:aE H H'):aE (nw H H') (er H' A):=fun b o h=>by
 unfold nw at h;split at h;rename_i q;have:b∉A:=fun m=>by
  obtain⟨o,hx,z⟩:=r.lists b m;rw[hx]at q;cases o with
  | lst _=>cases q
  | ext _=>cases q
  | _=>cases z
 rw[aU this];exact h;cases h
def RS.Tq(r:RS K C G0 Γ σ H A st)(e:aE H H'):aE (nw H H') (nw G0 (er H' A)):=fun b o h=>by
 have h1:=r.xm e b o h;unfold nw at h;split at h;rename_i q;unfold nw;rw[aW9 (nh r.g0 q)];exact h1;cases h
def Kd.le:Kd->Kd->Bool
 | .new,_=>true
 | .tU,.tU=>true | .tU,.old=>true | .tU,.jQ=>true
 | .loc,.loc=>true | .loc,.old=>true | .loc,.tV=>true | .loc,.jQ=>true
 | .old,.old=>true | .old,.jQ=>true
 | .tV,.tV=>true | .tV,.jQ=>true
 | .jQ,.jQ=>true
 | _,_=>false
theorem Val.le(r:RS K C G0 Γ σ H A st)(e:aE H H'){κ:Kd}(l:κ.le κ'=true)(q:Val K C κ G0 A H H' d v):Val K C κ' G0 A H H' d v:=by
 have ne:=r.xm e;have nl:=r.Tq e;cases κ <;> cases κ' <;> first
  | exact q
  | (cases l;done)
  | exact q.rep
  | exact⟨q.1.same ne _,q.2.mono ne⟩
  | exact⟨q.1.same nl _,(q.2.early r.g0).mono nl⟩
  | exact q.1.same ne _
  | exact⟨q.1.same (nl.trans (bP (aG _ _))) _,(q.2.early r.g0).mono (nl.trans (bP (aG _ _)))⟩
  | exact q.1
  | exact q.1.same (cN _ _) _
  | exact⟨q.1.same (bP (aG _ _)) _,q.2.mono (bP (aG _ _))⟩
end
def Kd.hp(κ:Kd)(G0:Hp)(A:List av)(H H':Hp):Hp:=match κ with
 | .new=>nw H H' | .tU=>er H' A | .loc=>nw G0 (er H' A) | .old=>er H' A | .tV=>nw G0 H' | .jQ=>H'
def SK.kd:SK->Kd
 | .par=>.old | .loc=>.loc | .own true=>.tV | .own false=>.jQ | .any=>.jQ | .pr=>.jQ | .ll=>.jQ | .dp=>.jQ
def SK.takes:SK->Kd->Bool
 | .par,κ=>κ.le .old
 | .loc,κ=>κ.le .loc
 | .own true,κ=>κ.le .new
 | .own false,κ=>κ.le .tU
 | .any,_=>true
 | .pr,κ=>κ.le .new
 | .ll,_=>false
 | .dp,_=>false
theorem Kd.OS:∀{κ:Kd},κ.le .new=true->κ = .new
 | .new,_=>rfl
section
variable {K:aD}{C:Cfg}{G0:Hp}{Γ:List SK}{σ:L2.St}{H H':Hp}{A:List av}{st:gM}{κ:Kd}{d:D}{v:V}
theorem Val.hp(q:Val K C κ G0 A H H' d v):Rep K C (κ.hp G0 A H H') d v:=by
 cases κ with
 | new=>exact q.1
 | tU=>exact q.1
 | loc=>exact q.1
 | old=>exact q
 | tV=>exact q.1
 | jQ=>exact q
def Kd.rN(e:aE H' H''):aE (κ.hp G0 A H H') (κ.hp G0 A H H''):=by
 cases κ with
 | new=>exact bP e
 | tU=>exact aI e
 | loc=>exact bP (aI e)
 | old=>exact aI e
 | tV=>exact bP e
 | jQ=>exact e
def Kd.OT(e:aE H H1):aE (κ.hp G0 A H1 H') (κ.hp G0 A H H'):=by
 cases κ with
 | new=>exact rM e
 | tU=>exact .refl _
 | loc=>exact .refl _
 | old=>exact .refl _
 | tV=>exact .refl _
 | jQ=>exact .refl _
def Kd.qA:aE (κ.hp G0 A H H') H':=by
 cases κ with
 | new=>exact cN _ _
 | tU=>exact aG _ _
 | loc=>exact(cN _ _).trans (aG _ _)
 | old=>exact aG _ _
 | tV=>exact cN _ _
 | jQ=>exact .refl _
def cH(h:H p=none):aE H (upd H p o):=fun b u q=>by rw[aR (aY q h)];exact q
def De(r:RS K C G0 Γ σ H A st)(e:aE H H')(h:H' p=none):κ.hp G0 A H (upd H' p o) p=some o:=by
 have h0:H p=none:=e.free h;have g0:G0 p=none:=r.g0.free h0;have nA:p∉A:=fun m=>by obtain⟨xs,q,_⟩:=r.lists p m;rw[h0]at q;cases q
 have u:upd H' p o p=some o:=bS;cases κ with
 | new=>show nw H _ p=_;rw[jP h0];exact u
 | tU=>show er _ A p=_;rw[aU nA];exact u
 | loc=>show nw G0 _ p=_;rw[jP g0,aU nA];exact u
 | old=>show er _ A p=_;rw[aU nA];exact u
 | tV=>show nw G0 _ p=_;rw[jP g0];exact u
 | jQ=>exact u
theorem Val.tup(r:RS K C G0 Γ σ H A st)(e:aE H H')(h:H' p=none)(np:pH (.tup ds)=true)(q:aH K C (κ.hp G0 A H H') ds xs):Val K C κ G0 A H (upd H' p (.tup xs)) (.tup ds) (.ref p):=by
 have R:Rep K C (κ.hp G0 A H (upd H' p (.tup xs))) (.tup ds) (.ref p):=by rw[Rep];exact⟨p,xs,rfl,.of (De r e h),q.same (Kd.rN (cH h)) _⟩
 have T:∀G F,kK K C G F (.tup ds) (.ref p):=fun G F=>.not rfl np;cases κ with
 | new=>exact⟨R,T _ _⟩
 | tU=>exact⟨R,T _ _⟩
 | loc=>exact⟨R,T _ _⟩
 | old=>exact R
 | tV=>exact⟨R,T _ _⟩
 | jQ=>exact R
theorem Val.lst(r:RS K C G0 Γ σ H A st)(e:aE H H')(h:H' p=none)(q:aH K C (κ.hp G0 A H H') ds xs):Val K C κ G0 A H (upd H' p (.lst xs)) (.lst ds) (.ref p):=by
 have h0:H p=none:=e.free h;have R0:aH K C (er (κ.hp G0 A H (upd H' p (.lst xs))) [p]) ds xs:=by
  refine q.same (fun b u z=>?_) _;have nb:b≠p:=fun w=>by have:=Kd.qA _ _ z;rw[w,h]at this;cases this
  rw[aU (by simpa using nb)];exact Kd.rN (cH h) _ _ z
 have R:Rep K C (κ.hp G0 A H (upd H' p (.lst xs))) (.lst ds) (.ref p):=by rw[Rep];exact⟨p,xs,rfl,.of (De r e h),R0⟩
 have T:∀G,G p=none->kK K C G (κ.hp G0 A H (upd H' p (.lst xs))) (.lst ds) (.ref p):=fun G g=>⟨fun _=>⟨p,rfl,g,xs,De r e h,R0⟩,.not rfl⟩
 cases κ with
 | new=>exact⟨R,T _ h0⟩
 | tU=>exact⟨R,T _ h0⟩
 | loc=>exact⟨R,T _ (r.g0.free h0)⟩
 | old=>exact R
 | tV=>exact⟨R,T _ (r.g0.free h0)⟩
 | jQ=>exact R
def Tr(h:pH d=false):∃s ds,d = .tup [.str s,.lst ds]:=by
 unfold pH at h;split at h;exact⟨_,_,rfl⟩;cases h
theorem OU:∀{d:D},kJ d=true->pH d=true
 | .lst _,_=>rfl
 | .bJ _ _,_=>rfl
 | .tup _,h=>by cases h
def RS.read(r:RS K C G0 Γ σ H A st){i:Nat}(hk:Γ[i]?=some k)(h:st[i]?=some (some d)):∃v,σ[i]?=some (some v)/\Val K C k.kd G0 A H H d v:=by
 refine bw (r.slot i d h) fun k' v h1 h2 h3=>?_;rw[hk]at h1;cases h1;refine⟨v,h2,?_⟩;cases k with
 | par=>exact h3
 | loc=>exact h3
 | any=>exact h3
 | pr=>
  show Rep K C H d v;rcases h3 with⟨q,p,s,ds,xs,rfl,rfl,c,f,g,h,j⟩|⟨_,b⟩;have S:aE (er H A) (er H [p]):=fun b u w=>by
   have nb:b≠p:=fun z=>by rw[z,dH f]at w;cases w
   rw[aU (by simpa using nb)];exact aG _ _ _ _ w
  rw[Rep];refine⟨q,_,rfl,aE.tup (aG _ _) c,.cons (by rw[Rep]) (.cons ?_ (by rw[aH]))⟩;rw[Rep];exact⟨p,xs,rfl,.of h,j.same S _⟩;exact b.same (aG _ _) _
 | ll=>
  obtain⟨p,a,xs,es,ds,vs,rfl,rfl,h6,h7,h8,h9,h10,h11,h12,h13,h14⟩:=h3;show Rep K C H _ _;have S:∀{B:List av},(∀b∈B,b∈A)->aE (er H A) (er H B):=fun sb b u w=>by by_cases mb:b∈A;rw[dH mb]at w;cases w;rw[aU (fun z=>mb (sb b z))];rw[aU mb]at w;exact w
  have S1:aE (er H A) (er H [p]):=S fun b m=>by rw[dQ.mp m];exact h6
  rw[Rep];refine⟨p,_,rfl,.of h11,.cons ?_ (h14.same S1 _)⟩;rw[Rep];refine⟨a,xs,rfl,.of (by rw[aU (by simpa using dZ h8)];exact h12),h13.same (fun b u w=>?_) _⟩;have mb:b∉A:=fun m=>by rw[dH m]at w;cases w
  rw[aU mb]at w;rw[aU (by simp;exact fun z=>mb (z▸h7)),aU (by simp;exact fun z=>mb (z▸h6))];exact w
 | dp=>
  rcases h3 with⟨q,t,p,s,s',ds,xs,rfl,rfl,h6,h7,h8,h9⟩|⟨_,b⟩;show Rep K C H _ _;have np:p∉A:=fun m=>by rw[dH m]at h8;cases h8
  have hp:=aG _ _ _ _ h8;rw[Rep];refine⟨q,_,rfl,aE.tup (aG _ _) h6,.cons (by rw[Rep]) (.cons ?_ (by rw[aH]))⟩;rw[Rep];refine⟨t,_,rfl,aE.tup (aG _ _) h7,.cons (by rw[Rep]) (.cons ?_ (by rw[aH]))⟩;rw[Rep];refine⟨p,xs,rfl,.of hp,D9 h9.1 fun j d v g1 g2=>?_⟩;obtain⟨a,ys,es,rfl,rfl,k3,k4,k5,k6⟩:=h9.2 j d v g1 g2;have ap:a≠p:=fun z=>np (z▸k3);rw[Rep];refine⟨a,ys,rfl,.of (by rw[aU (by simpa using ap)];exact k4),?_⟩;refine(k6.same (aG _ _) _).part ((jV.er fun b m=>?_).trans (.er fun b m=>?_)) _ k5;rw[dQ.mp m];exact⟨_,hp,rfl⟩;rw[dQ.mp m,aU (by simpa using ap)];exact⟨_,k4,rfl⟩;exact b.same (aG _ _) _
 | own n=>
  rcases h3 with⟨p,rfl,c,f,g⟩|⟨a,b⟩;have np:∀b u,eh n G0 A H b=some u->b≠p:=fun b u w w'=>by
   subst w';unfold eh at w;cases n with
   | true=>have:=cN _ _ _ _ w;rw[dH c]at this;cases this
   | false=>rw[aX0 (by decide),dH c]at w;cases w
  have S:∀F:Hp,aE (eh n G0 A H) F->aE (eh n G0 A H) (er F [p]):=fun F e b u w=>by rw[aU (by simpa using np b u w)];exact e _ _ w
  cases n with
  | true=>
   have e1:aE (eh true G0 A H) (nw G0 H):=by unfold eh;exact bP (aG _ _)
   have e2:nw G0 H p=H p:=jP f;exact⟨g.rep (S _ e1) e2,fun _=>⟨p,rfl,f,g.mono (S _ e1) e2⟩,.not (OU g.kJ)⟩
  | false=>
   have e1:aE (eh false G0 A H) H:=by unfold eh;exact aG _ _
   exact g.rep (S _ e1) rfl
  cases n with
  | true=>exact⟨b.2.same (by unfold eh;exact bP (aG _ _)) _,fun h=>(by rw[a]at h;cases h),b.1.mono (by unfold eh;exact bP (aG _ _))⟩
  | false=>exact b.2.same (by unfold eh;exact aG _ _) _
theorem RS.set(r:RS K C G0 Γ σ H A st)(e:aE H H')(hk:Γ[i]?=some k)(l:k.takes κ=true)(q:Val K C κ G0 A H H' d v) :
  ∃A',RS K C G0 Γ (σ.set i (some v)) H' A' (st.set i (some d))/\aE (er H A) (er H' A')/\∀a∈A,a∈A':=by
 have r':=r.mono e;have same:(∀n,k = .own n->kJ d=false)->Slot K C k G0 A H' d v->∃A',RS K C G0 Γ (σ.set i (some v)) H' A' (st.set i (some d))/\aE (er H A) (er H' A')/\∀a∈A,a∈A':=fun nl s=>by
  refine⟨A,⟨r'.base,r'.lists,by simp[r.len],fun j d' h=>?_,fun a b n m p ds es uu g1 g2 s1 s2 o1 o2 w1 w2=>?_,r.gl⟩,aI e,fun _ m=>m⟩;by_cases hj:i=j;subst hj;have ie:i<st.length:=by have:=(fR.mp h).1;simpa using this
  rw[m7 ie]at h;cases h;exact⟨k,v,hk,m7 (by rw[r.len];exact ie),s⟩;rw[l0 hj]at h ⊢;exact r'.slot j d' h;have ha:a≠i:=fun z=>by
   subst z;have ie:a<st.length:=by have:=(fR.mp s1).1;simpa using this
   rw[m7 ie]at s1;rw[hk]at g1;cases s1;rw[nl n (eN g1)]at o1;cases o1
  have hb:b≠i:=fun z=>by
   subst z;have ie:b<st.length:=by have:=(fR.mp s2).1;simpa using this
   rw[m7 ie]at s2;rw[hk]at g2;cases s2;rw[nl m (eN g2)]at o2;cases o2
  rw[l0 (dZ ha)]at s1 w1;rw[l0 (dZ hb)]at s2 w2;exact r.apart a b n m p ds es uu g1 g2 s1 s2 o1 o2 w1 w2
 cases k with
 | par=>exact same (fun _ z=>by cases z) (Val.le r e (κ':=.old) l q)
 | loc=>exact same (fun _ z=>by cases z) (Val.le r e (κ':=.loc) l q)
 | any=>exact same (fun _ z=>by cases z) q.rep
 | ll=>cases l
 | dp=>cases l
 | pr=>
  obtain rfl:=Kd.OS (κ:=κ) l;have qo:Rep K C (er H' A) d v:=Val.le r e (κ:=.new) (κ':=.old) rfl q;by_cases hd:pH d=true;exact same (fun _ z=>by cases z) (.inr ⟨hd,qo⟩);obtain⟨s,ds,rfl⟩:∃s ds,d = .tup [.str s,.lst ds]:=Tr (tE.mpr hd);obtain⟨tq,p,xs,rfl,sq,h0,EG,i1⟩:=q.2.2 s ds rfl;have hp:H' p=some (.lst xs):=cN _ _ _ _ EG;have pA:p∉A:=fun m=>by obtain⟨ys,z,_⟩:=r.lists p m;rw[h0]at z;cases z
  have g0:G0 p=none:=r.g0.free h0;have ee:aE (er H A) (er H' (p::A)):=fun b u z=>by
   have nb:b≠p:=fun w=>by have:=aG _ _ _ _ z;rw[w,h0]at this;cases this
   by_cases mb:b∈A;rw[dH mb]at z;cases z;rw[aU (by simp[nb,mb])];rw[aU mb]at z;exact e _ _ z
  have Tp:∀m,aE (eh m G0 A H) (eh m G0 (p::A) H'):=fun m=>by unfold eh;cases m;exact ee;exact bP ee
  have en:aE (er (nw H H') [p]) (er H' (p::A)):=fun b u z=>by by_cases nb:b=p;rw[nb,dH (by simp)]at z;cases z;rw[aU (by simpa using nb)]at z;have:=r.xm e _ _ z;by_cases mb:b∈A;rw[dH mb]at this;cases this;rw[aU mb]at this;rw[aU (by simp[nb,mb])];exact this
  have sq':kW K (er H' (p::A)) tq [.str s,.ref p]:=by
   rcases sq with sq|sq;refine .inl ?_;have nq:tq≠p:=fun w=>by rcases sq with sq|⟨u,sq⟩;rw[w,EG]at sq;cases sq;rw[w,EG]at sq;cases sq
   have up:nw H H' tq=er H' (p::A) tq\/nw H H' tq=none:=by
    cases hz:nw H H' tq with
    | none=>exact .inr rfl
    | some u=>refine .inl ?_;have:=en tq u (by rw[aU (by simpa using nq)];exact hz);rw[this]
   rcases sq with sq|⟨u,sq⟩;rcases up with up|up;exact .inl (by rw[<- up];exact sq);rw[up]at sq;cases sq;rcases up with up|up;exact .inr ⟨u,by rw[<- up];exact sq⟩;rw[up]at sq;cases sq;exact .inr sq
  refine⟨p::A,⟨r.base.trans ee,fun a m=>?_,by simp[r.len],fun j d' h=>?_,fun a b n' m' p' GK Cr uu g1 g2 s1 s2 o1 o2 w1 w2=>?_,r.gl⟩,ee,fun _ m=>.tail _ m⟩;rcases bR.mp m with rfl|m;exact⟨_,hp,rfl⟩;exact r'.lists a m;by_cases hj:i=j;subst hj;have ie:i<st.length:=by have:=(fR.mp h).1;simpa using this
  rw[m7 ie]at h;cases h;exact⟨.pr,.ref tq,hk,m7 (by rw[r.len];exact ie),.inl ⟨tq,p,s,ds,xs,rfl,rfl,sq',.head _,g0,hp,i1.same en _⟩⟩;rw[l0 hj]at h ⊢;exact bw (r.slot j d' h) fun k' v' h1 h2 h3=>⟨k',v',h1,h2,h3.move e ee fun _ m=>.tail _ m⟩
  have ha:a≠i:=fun z=>by subst z;rw[hk]at g1;cases g1
  have hb:b≠i:=fun z=>by subst z;rw[hk]at g2;cases g2
  rw[l0 (dZ ha)]at s1 w1;rw[l0 (dZ hb)]at s2 w2;exact r.apart a b n' m' p' GK Cr uu g1 g2 s1 s2 o1 o2 w1 w2
 | own n=>
  have q1:Val K C .tU G0 A H H' d v:=Val.le r e (κ':=.tU) (by cases n <;> cases κ <;> first|rfl|cases l) q;have q2:n=true->Val K C .loc G0 A H H' d v:=fun z=>by subst z;obtain rfl:=Kd.OS (κ:=κ) l;exact Val.le r e rfl q
  by_cases hd:kJ d=true;refine cC (q1.2.1 hd) fun p b9 h0 i1=>?_;obtain rfl:=b9;refine aO i1.WC fun o EG hM=>?_;have hp:H' p=some o:=aG _ _ _ _ EG;have pA:p∉A:=fun m=>by obtain⟨ys,z,_⟩:=r.lists p m;rw[h0]at z;cases z
  have g0:G0 p=none:=r.g0.free h0;have ee:aE (er H A) (er H' (p::A)):=fun b u z=>by
   have nb:b≠p:=fun w=>by have:=aG _ _ _ _ z;rw[w,h0]at this;cases this
   by_cases mb:b∈A;rw[dH mb]at z;cases z;rw[aU (by simp[nb,mb])];rw[aU mb]at z;exact e _ _ z
  have Tp:∀m,aE (eh m G0 A H) (eh m G0 (p::A) H'):=fun m=>by unfold eh;cases m;exact ee;exact bP ee
  have items:kX K C (eh n G0 (p::A) H') H' p d:=by
   cases n with
   | false=>exact i1.mono (fun b u z=>by
     by_cases mb:b∈[p]
     ·rw[dH mb]at z;cases z
     ·rw[aU mb]at z
      by_cases ma:b∈A
      ·rw[dH ma]at z;cases z
      ·rw[aU ma]at z
       show er H' (p::A) b=_
       rw[aU (by simpa[ma]using mb)];exact z) (hp.trans EG.symm)
   | true=>
    refine cC ((q2 rfl).2.1 hd) fun p' e1 _ i2=>?_;cases e1;exact i2.mono (fun b u z=>by
     by_cases mb:b∈[p];rw[dH mb]at z;cases z;rw[aU mb]at z;show nw G0 (er H' (p::A)) b=_;unfold nw at z ⊢;split at z;rename_i kk;rw[aW9 kk];by_cases ma:b∈A;rw[dH ma]at z;cases z;rw[aU ma]at z;rw[aU (by simpa[ma]using mb)];exact z;cases z) (by rw[jP g0];exact hp.trans EG.symm)
  refine⟨p::A,⟨r.base.trans ee,fun a m=>?_,by simp[r.len],fun j d' h=>?_,fun a b n' m' p' GK Cr uu g1 g2 s1 s2 o1 o2 w1 w2=>?_,r.gl⟩,ee,fun _ m=>.tail _ m⟩;rcases bR.mp m with rfl|m;exact⟨o,hp,hM⟩;exact r'.lists a m;by_cases hj:i=j;subst hj;have ie:i<st.length:=by have:=(fR.mp h).1;simpa using this
  rw[m7 ie]at h;cases h;exact⟨.own n,.ref p,hk,m7 (by rw[r.len];exact ie),.inl ⟨p,rfl,.head _,g0,items⟩⟩;rw[l0 hj]at h ⊢;exact bw (r.slot j d' h) fun k' v' h1 h2 h3=>⟨k',v',h1,h2,h3.move e ee fun _ m=>.tail _ m⟩
  
  have old:∀{c:Nat} {nn:Bool} {cd:D},c≠i->Γ[c]?=some (.own nn)->(st.set i (some d))[c]?=some (some cd)->kJ cd=true->(σ.set i (some (.ref p)))[c]?≠some (some (.ref p)):=fun {c nn cd} hc gc sc oc wc=>by rw[l0 (dZ hc)]at sc wc;refine bw (r.slot c _ sc) fun k' v' h1 h2 h3=>?_;rw[gc]at h1;cases h1;rw[wc]at h2;cases h2;rcases h3 with⟨p2,b,c',_⟩|⟨a,_⟩;cases b;exact pA c';rw[oc]at a;cases a
  by_cases ha:a=i;subst ha;have ie:a<st.length:=by have:=(fR.mp s1).1;simpa using this
  rw[m7 (by rw[r.len];exact ie)]at w1;cases w1;exact old (dZ uu) g2 s2 o2 w2;by_cases hb:b=i;subst hb;have ie:b<st.length:=by have:=(fR.mp s2).1;simpa using this
  rw[m7 (by rw[r.len];exact ie)]at w2;cases w2;exact old ha g1 s1 o1 w1;rw[l0 (dZ ha)]at s1 w1;rw[l0 (dZ hb)]at s2 w2;exact r.apart a b n' m' p' GK Cr uu g1 g2 s1 s2 o1 o2 w1 w2;have hd:=tE.mpr hd;refine same (fun _ _=>hd) (.inr ⟨hd,?_⟩);cases n with
  | false=>exact⟨q1.2.2.early r.g0,q1.1⟩
  | true=>exact⟨(q2 rfl).2.2,(q2 rfl).1⟩
end
section
variable (K:aD)(C:Cfg)(G0:Hp)(Γ:List SK)(E:L2.St->XK)
def tD(f:DF)(κ:Kd):TE:=fun σ H Q=>∃A st,RS K C G0 Γ σ H A st/\match f st with
 | .ok d=>∀v H',aE H H'->Val K C κ G0 A H H' d v->Q v H'
 | .ex c p=>∀H',aE H H'->K2 (E σ) c p H'
 | .bad=>False
def EH(f:DA)(κ:Kd):TA:=fun σ H Q=>∃A st,RS K C G0 Γ σ H A st/\match f st with
 | .ok ds=>∀vs H',aE H H'->aH K C (κ.hp G0 A H H') ds vs->Q vs H'
 | .ex c p=>∀H',aE H H'->K2 (E σ) c p H'
 | .bad=>False
def vd(f:DF):TT:=fun σ H Q=>∃A st,RS K C G0 Γ σ H A st/\match f st with
 | .ok (.bl b)=>∀H',aE H H'->Q b H'
 | .ex c p=>∀H',aE H H'->K2 (E σ) c p H'
 | _=>False
end
def _root_.L2.PE.imp(h:PE X e t)(i:∀σ H Q,t' σ H Q->t σ H Q):PE X e t':=fun ao s σ H Q I q=>h ao s σ H Q I (i σ H Q q)
def _root_.L2.PT.imp(h:PT X e t)(i:∀σ H Q,t' σ H Q->t σ H Q):PT X e t':=fun ao s σ H Q I q=>h ao s σ H Q I (i σ H Q q)
def _root_.L2.PW.imp(h:PW X e t)(i:∀σ H Q,t' σ H Q->t σ H Q):PW X e t':=fun w ao s σ H Q I q=>h w ao s σ H Q I (i σ H Q q)
def _root_.L2.PA.imp(h:PA X e t)(i:∀σ H Q,t' σ H Q->t σ H Q):PA X e t':=fun p ao s σ H Q I q=>h p ao s σ H Q I (i σ H Q q)
def _root_.L2.PS.imp(h:PS X e t)(i:∀D σ H,t' D σ H->t D σ H):PS X e t':=fun ao s σ H D I q=>h ao s σ H D I (i D σ H q)
def _root_.L2.qM.imp(h:qM X e t)(i:∀D σ H,t' D σ H->t D σ H):qM X e t':=fun ao s σ H D I q=>h ao s σ H D I (i D σ H q)
def ah(i:Nat):DF:=fun st=>match st[i]? with|some (some d)=>.ok d|_=>.bad
def dC(d:D):DF:=fun _=>.ok d
def b8(f:DF):DF:=fun st=>(f st).bind fun d=>if gw d=true then .ok d else .bad
def aV(g:D->D->R D)(fa fb:DF):DF:=fun st=>(fa st).bind fun a=>(fb st).bind fun b=>g a b
def rO(g:D->R D)(fa:DF):DF:=fun st=>(fa st).bind g
def az:DA:=fun _=>.ok []
def af(f:DF)(g:DA):DA:=fun st=>(f st).bind fun d=>(g st).bind fun ds=>.ok (d::ds)
def bD(g:List D->R D)(f:DA):DF:=fun st=>(f st).bind g
def jR(fa fb:DF):DF:=fun st=>(fa st).bind fun a=>match a with | .bl true=>fb st | .bl false=>.ok (.bl false)|_=>.bad
def Tt(fa fb:DF):DF:=fun st=>(fa st).bind fun a=>match a with | .bl true=>.ok (.bl true) | .bl false=>fb st|_=>.bad
def tX(fa:DF):DF:=fun st=>(fa st).bind fun a=>match a with | .bl b=>.ok (.bl (!b))|_=>.bad
section
variable {X:Cx}{C:Cfg}{G0:Hp}{Γ:List SK}{E:L2.St->XK}{a b c:bg}{fa fb:DF}{κ kj C8:Kd}
def GN(i:Nat)(h:PE X e (uL i))(hk:autoParam (Γ[i]?=some k) zu0._auto_1):PE X e (tD X.K C G0 Γ E (ah i) k.kd):=h.imp fun σ H Q zz=>by
 refine di zz fun A st r q=>?_;clear zz;unfold ah at q;cases hs:st[i]? with
 | none=>rw[hs]at q;exact q.elim
 | some o=>
  cases o with
  | none=>rw[hs]at q;exact q.elim
  | some d=>rw[hs]at q;refine aO (r.read hk hs) fun v h1 h2=>?_;exact⟨v,h1,q v H (.refl _) h2⟩
def Tu(h:PE X e (tC v))(n:gw d=true)(q:∀H,Rep X.K C H d v):PE X e (tD X.K C G0 Γ E (dC d) .new):=h.imp fun σ H Q l6=>l6.elim fun A pR=>pR.elim fun st uV=>uV.elim fun r k=>k v H (.refl _) (.flat r (.refl _) n (q H) _)
def Yw{j}:PE X (.Constant (.int i) j pos) (tD X.K C G0 Γ E (dC (.int i)) .new):=Tu Xi (by rw[gw] <;> simp) fun H=>by rw[Rep]
def as5{j}:PE X (.Constant (.bool i) j pos) (tD X.K C G0 Γ E (dC (.bl i)) .new):=Tu af7 (by rw[gw] <;> simp) fun H=>by rw[Rep]
def Yx{j}:PE X (.Constant (.str i) j pos) (tD X.K C G0 Γ E (dC (.str i)) .new):=Tu Xj (by rw[gw] <;> simp) fun H=>by rw[Rep]
def Bl(hg:Gl X x)(hm:X.mg x=some (.int i t))(hd:autoParam ((x==("__debug__" : Str))=false) zu1._auto_1):PE X (.Name x pos) (tD X.K C G0 Γ E (dC (.int i)) .new):=Tu (Sd hg hm (v:=.int i) ⟨t,rfl⟩ hd) (by rw[gw] <;> simp) fun H=>by rw[Rep]
def as6(l:κ.le κ'=true)(h:PE X e (tD X.K C G0 Γ E f κ)):PE X e (tD X.K C G0 Γ E f κ'):=h.imp fun σ H Q ED=>ED.elim fun A Gp=>Gp.elim fun st EE=>EE.elim fun r q=>⟨A,st,r,by
 split at q;exact fun v H' e w=>q v H' e (w.le r e l);exact q;exact q⟩
def Tv(h:PE X e (tD X.K C G0 Γ E f κ)):PE X e (tD X.K C G0 Γ E (b8 f) .new):=h.imp fun σ H Q Cu=>Cu.elim fun A Ez=>Ez.elim fun st EA=>EA.elim fun r q=>⟨A,st,r,by
 unfold b8 R.bind at q;cases hf:f st with
 | ok d=>rw[hf]at q;dsimp only at q ⊢;by_cases n:gw d=true;rw[aW9 n]at q;exact fun v H' e w=>q v H' e (.flat r e n w.rep _);rw[aX0 n]at q;exact q.elim
 | ex c p=>rw[hf]at q;exact q
 | bad=>rw[hf]at q;exact q⟩
def uN(K:aD)(C:Cfg)(r2:R2)(g:D->D->R D)(κ:Kd):Prop:=∀(G0:Hp) (Γ:List SK) (E:XK) (σ:L2.St) (A:List av) (st:gM) (H:Hp) (a b:D) (x y:V) (Q:VK),RS K C G0 Γ σ H A st->Rep K C H a x->Rep K C H b y->
 (match g a b with | .ok d=>∀v H',aE H H'->Val K C κ G0 A H H' d v->Q v H' | .ex c p=>∀H',aE H H'->K2 E c p H' | .bad=>False)->r2 x y H Q
def two(ho:uN X.K C r2 g κ):∀σ H Q,tD X.K C G0 Γ E (aV g fa fb) κ σ H Q->tOp r2 (tD X.K C G0 Γ E fa kj) (tD X.K C G0 Γ E fb C8) σ H Q:=fun σ H Q zz=>by
 refine di zz fun A st r q=>?_;clear zz;refine⟨A,st,r,?_⟩;unfold aV R.bind at q;cases ha:fa st with
 | bad=>rw[ha]at q;exact q
 | ex c p=>rw[ha]at q;exact q
 | ok a=>
  rw[ha]at q;intro x H1 e1 w1;refine⟨A,st,r.mono e1,?_⟩;dsimp only at q;cases hb:fb st with
  | bad=>rw[hb]at q;exact q
  | ex c p=>rw[hb]at q;exact fun H' e'=>q H' (e1.trans e')
  | ok b=>
   rw[hb]at q;intro y H2 e2 w2;refine ho G0 Γ (E σ) σ A st H2 a b x y Q ((r.mono e1).mono e2) (w1.rep.same e2 _) w2.rep ?_;dsimp only at q;cases hg:g a b with
   | bad=>rw[hg]at q;exact q
   | ex c p=>rw[hg]at q;exact fun H' e'=>q H' ((e1.trans e2).trans e')
   | ok d=>rw[hg]at q;exact fun v H' e' w=>q v H' ((e1.trans e2).trans e') (w.early (e1.trans e2))
def zF(hr:pQ X (binaryOp op) r2)(ho:uN X.K C r2 g κ)(ha:PE X a (tD X.K C G0 Γ E fa kj))(hb:PE X b (tD X.K C G0 Γ E fb C8)):PE X (.BinOp a op b pos) (tD X.K C G0 Γ E (aV g fa fb) κ):=(ai6 hr ha hb).imp (two ho)
def GO(hr:pQ X (gU op) r2)(ho:uN X.K C r2 g κ)(ha:PE X a (tD X.K C G0 Γ E fa kj))(hb:PE X b (tD X.K C G0 Γ E fb C8))(hm:behindInMarks op b=false):PE X (.Compare a [op] [b] pos) (tD X.K C G0 Γ E (aV g fa fb) κ):=(Sl hr ha hb hm).imp (two ho)
theorem uN.flat{K:aD}{r2:R2}{g:D->D->R D}(h:∀(H:Hp) (a b:D) (x y:V) (Q:VK),Rep K C H a x->Rep K C H b y->(match g a b with | .ok d=>gw d=true/\∀v,Rep K C H d v->Q v H|_=>False)->r2 x y H Q)(hg:∀a b,(∀c p,g a b≠ .ex c p)/\∀d,g a b = .ok d->gw d=true):uN K C r2 g κ:=fun G0 Γ E σ A st H a b x y Q r qa qb q=>h H a b x y Q qa qb (by
 cases hz:g a b with
 | bad=>rw[hz]at q;exact q
 | ex c p=>exact aY1 hz ((hg a b).1 c p)
 | ok d=>rw[hz]at q;exact⟨(hg a b).2 d hz,fun v w=>q v H (.refl _) (.flat r (.refl _) ((hg a b).2 d hz) w _)⟩)
def IF(Cd:Int->Int->Bool)(g:Int->Int->D):D->D->R D:=fun a b=>match a,b with | .int i,.int j=>if Cd i j=true then .ok (g i j)else .bad|_,_=>.bad
def OV{Cd:Int->Int->Bool}{g:Int->Int->D}{a b d:D}(h:IF Cd g a b = .ok d):∃i j,a = .int i/\b = .int j/\Cd i j=true/\d=g i j:=by
 unfold IF at h;split at h;split at h;rename_i q;cases h;exact⟨_,_,rfl,rfl,q,rfl⟩;cases h;cases h
def OW{Cd:Int->Int->Bool}{g:Int->Int->D}{a b:D}{c:av}{p:Option Int}:IF Cd g a b≠ .ex c p:=by
 unfold IF;split;split <;> exact fun h=>by cases h
 exact fun h=>by cases h
def l9{K:aD}{r2:R2}{Cd:Int->Int->Bool}{g:Int->Int->D}(h:∀(H:Hp) (i j:Int) (Q:VK),Cd i j=true->(∀v,Rep K C H (g i j) v->Q v H)->r2 (.int i) (.int j) H Q)(n:∀i j,gw (g i j)=true):uN K C r2 (IF Cd g) κ:=.flat (fun H a b x y Q qa qb q=>by
  cases hz:IF Cd g a b with
  | bad=>rw[hz]at q;exact q.elim
  | ex c p=>exact aY1 hz OW
  | ok d=>rw[hz]at q;refine uJ (OV hz) fun i j b9 qZ hc SD=>?_;obtain rfl:=b9;obtain rfl:=qZ;obtain rfl:=SD;rw[Rep]at qa qb;subst qa;subst qb;exact h H i j Q hc q.2) fun a b=>⟨fun c p=>OW,fun d hd=>by obtain⟨i,j,_,_,_,rfl⟩:=OV hd;exact n i j⟩
def gO:=IF (fun _ _=>true) fun i j=>.int (i+j)
def jW:=IF (fun _ _=>true) fun i j=>.int (i-j)
def sm(i:Int):Bool:=decide (-(2 ^ 64)<i)&&decide (i<2 ^ 64)
def rP:=IF (fun i j=>sm i || sm j) fun i j=>.int (i*j)
def oS:=IF (fun _ j=>decide (0<j)&&decide (j<1073741824)) fun i j=>.int (i / j)
def jc:=IF (fun _ j=>decide (0<j)) fun i j=>.int (i % j)
def gLt:=IF (fun _ _=>true) fun i j=>.bl (decide (i<j))
def WE:=IF (fun _ _=>true) fun i j=>.bl (decide (i<=j))
def RW:=IF (fun _ _=>true) fun i j=>.bl (decide (j<i))
def xo{K:aD}{H:Hp}{i:Int}:Rep K C H (.int i) (.int i):=by rw[Rep]
def Df{K:aD}{H:Hp}{i:Bool}:Rep K C H (.bl i) (.bl i):=by rw[Rep]
def Tw{K:aD}:uN K C (Ll fun i j=>.int (i+j)) gO .new:=l9 (fun H i j Q _ q=>⟨i,j,rfl,rfl,q _ xo⟩) fun i j=>by rw[gw] <;> simp
def Tz{K:aD}:uN K C (Ll fun i j=>.int (i-j)) jW .new:=l9 (fun H i j Q _ q=>⟨i,j,rfl,rfl,q _ xo⟩) fun i j=>by rw[gw] <;> simp
def TF{K:aD}:uN K C (rI Si fun i j=>.int (i*j)) rP .new:=l9 (fun H i j Q c q=>⟨i,j,rfl,rfl,by
 rcases kB _ _ |>.mp c with c|c;simp[sm]at c;exact .inl ⟨by lia,by lia⟩;simp[sm]at c;exact .inr ⟨by lia,by lia⟩,q _ xo⟩) fun i j=>by rw[gw] <;> simp
def TH{K:aD}:uN K C (rI ai9 fun i j=>.int (i / j)) oS .new:=l9 (fun H i j Q c q=>⟨i,j,rfl,rfl,by simp at c;exact⟨c.1,c.2⟩,q _ xo⟩) fun i j=>by rw[gw] <;> simp
def TJ{K:aD}:uN K C (rI (fun _ j=>0<j) fun i j=>.int (i % j)) jc .new:=l9 (fun H i j Q c q=>⟨i,j,rfl,rfl,by simpa using c,q _ xo⟩) fun i j=>by rw[gw] <;> simp
def Yy{K:aD}:uN K C (Ll fun i j=>.bl (decide (i<j))) gLt .new:=l9 (fun H i j Q _ q=>⟨i,j,rfl,rfl,q _ Df⟩) fun i j=>by rw[gw] <;> simp
def tY{K:aD}:uN K C (Ll fun i j=>.bl (decide (i<=j))) WE .new:=l9 (fun H i j Q _ q=>⟨i,j,rfl,rfl,q _ Df⟩) fun i j=>by rw[gw] <;> simp
def Yz{K:aD}:uN K C (Ll fun i j=>.bl (decide (j<i))) RW .new:=l9 (fun H i j Q _ q=>⟨i,j,rfl,rfl,q _ Df⟩) fun i j=>by rw[gw] <;> simp
def k7(neg:Bool):D->D->R D:=fun a b=>if(Dm.flat a&&Dm.flat b&&decide (dep a<=60))=true then .ok (.bl (if neg then !iJ a b else iJ a b))else .bad
def GP{K:aD}{neg:Bool}:uN K C (Ys K C neg) (k7 neg) .new:=.flat (fun H a b x y Q qa qb q=>by
  unfold k7 at q;split at q;rename_i c;split at c;rename_i c';cases c;simp only[bV,aX4]at c';exact⟨a,b,qa,qb,c'.1.1,c'.1.2,c'.2,q.2 _ Df⟩;cases c;exact q.elim) fun a b=>⟨fun c p=>(by unfold k7;split <;> exact fun h=>(by cases h)),fun d h=>by unfold k7 at h;split at h <;> cases h;rw[gw] <;> simp⟩
def jG(neg:Bool):D->D->R D:=fun a b=>match b with
 | .lst es=>if(Dm.flat a&&cu es&&decide (jw es<=60))=true then .ok (.bl (if neg then !(es.any fun e=>iJ e a)else es.any fun e=>iJ e a))else .bad
 | .tup es=>if(Dm.flat a&&cu es&&decide (jw es<=60))=true then .ok (.bl (if neg then !(es.any fun e=>iJ e a)else es.any fun e=>iJ e a))else .bad
 | _=>.bad
def Bm{K:aD}{neg:Bool}:uN K C (Yu K C neg) (jG neg) .new:=.flat (fun H a b x y Q qa qb q=>by
  cases b with
  | lst es=>unfold jG at q;dsimp only at q;split at q;rename_i c;split at c;rename_i c';cases c;simp only[bV,aX4]at c';exact⟨a,es,qa,.inl qb,c'.1.1,c'.1.2,c'.2,q.2 _ Df⟩;cases c;exact q.elim
  | tup es=>unfold jG at q;dsimp only at q;split at q;rename_i c;split at c;rename_i c';cases c;simp only[bV,aX4]at c';exact⟨a,es,qa,.inr qb,c'.1.1,c'.1.2,c'.2,q.2 _ Df⟩;cases c;exact q.elim
  | _=>exact q.elim) fun a b=>⟨fun c p=>(by unfold jG;split <;> (try split) <;> exact fun h=>(by cases h)),fun d h=>by unfold jG at h;split at h <;> (try split at h) <;> cases h <;> (rw[gw] <;> simp)⟩
def eF:D->D->R D:=fun a b=>match a,b with
 | .lst ds,.int i=>match CG ds i with|some d=>.ok d|none=>.bad
 | .tup ds,.int i=>match CG ds i with|some d=>.ok d|none=>.bad
 | _,_=>.bad
def Dg{K:aD}{H:Hp}{ds:List D}{xs:List V}{i:Int}{d:D}(q:aH K C H ds xs)(h:CG ds i=some d):∃v,CG xs i=some v/\Rep K C H d v:=by
 unfold CG at h ⊢;rw[q.len];cases hj:RO ds.length i with
 | none=>rw[hj]at h;cases h
 | some j=>rw[hj]at h;exact q.get' h
end
section
variable {X:Cx}{C:Cfg}{G0:Hp}{Γ:List SK}{E:L2.St->XK}{a b c:bg}{fa fb:DF}{κ kj:Kd}{rest:List bg}{pos:Pos}
def YA{K:aD}{H:Hp}{a d:D}{x:V}{i:Int}(qa:Rep K C H a x)(h:eF a (.int i) = .ok d):(∃p xs v,x = .ref p/\(k9 K H p xs\/kW K H p xs)/\CG xs i=some v/\Rep K C H d v):=by
 cases a with
 | lst ds=>
  unfold eF at h;dsimp only at h;cases hz:CG ds i with
  | none=>rw[hz]at h;cases h
  | some d'=>rw[hz]at h;cases h;refine bw qa.items fun p xs b9 h2 h3=>?_;obtain rfl:=b9;refine aO (Dg h3 hz) fun v h4 h5=>?_;exact⟨p,xs,v,rfl,.inl h2,h4,h5⟩
 | tup ds=>
  unfold eF at h;dsimp only at h;cases hz:CG ds i with
  | none=>rw[hz]at h;cases h
  | some d'=>rw[hz]at h;cases h;rw[Rep]at qa;refine bw qa fun p xs b9 h2 h3=>?_;clear qa;obtain rfl:=b9;refine aO (Dg h3 hz) fun v h4 h5=>?_;exact⟨p,xs,v,rfl,.inr h2,h4,h5⟩
 | _=>cases h
def as8(K:aD):R2:=fun x y H Q=>ao1 K x y H Q\/ao2 K x y H Q
def aN4:Sz X (as8 X.K):=SA.or XO
def k9.part{K:aD}{G H:Hp}(e:aE G H){p:av}{xs:List V}(h:k9 K G p xs\/kW K G p xs):k9 K H p xs\/kW K H p xs:=h.imp (fun h=>e.seq h) fun h=>aE.tup e h
def Kd.item:Kd->Kd
 | .tU=>.old
 | .new=>.old
 | .loc=>.old
 | .old=>.old
 | _=>.jQ
def TL{a b d:D}(h:eF a b = .ok d):∃i,b = .int i:=by
 cases b with
 | int i=>exact⟨i,rfl⟩
 | _=>cases a <;> cases h
def YB{a b:D}{c:av}{p:Option Int}:eF a b≠ .ex c p:=by
 unfold eF;split;split <;> exact fun h=>(by cases h)
 split <;> exact fun h=>(by cases h)
 exact fun h=>(by cases h)
def GQ(ha:PE X a (tD X.K C G0 Γ E fa kj))(hb:PE X b (tD X.K C G0 Γ E fb C8))(hs:r9 b):PE X (.Subscript a b pos) (tD X.K C G0 Γ E (aV eF fa fb) kj.item):=(Wf aN4 ha hb hs).imp fun σ H Q zz=>by
 refine di zz fun A st r q=>?_;clear zz;refine⟨A,st,r,?_⟩;unfold aV R.bind at q;cases ha:fa st with
 | bad=>rw[ha]at q;exact q
 | ex c p=>rw[ha]at q;exact q
 | ok a=>
  rw[ha]at q;intro x H1 e1 w1;refine⟨A,st,r.mono e1,?_⟩;dsimp only at q;cases hb:fb st with
  | bad=>rw[hb]at q;exact q
  | ex c p=>rw[hb]at q;exact fun H' e'=>q H' (e1.trans e')
  | ok b=>
   rw[hb]at q;intro y H2 e2 w2;dsimp only at q;cases hg:eF a b with
   | bad=>rw[hg]at q;exact q.elim
   | ex c p=>exact aY1 hg YB
   | ok d=>
    rw[hg]at q;obtain⟨i,rfl⟩:=TL hg;have nj:=e1.trans e2;have w:=w1.later e2;obtain rfl:y = .int i:=by have:=w2.rep;rw[Rep]at this;exact this
    have fin:∀G:Hp,aE G H2->Rep X.K C G a x->(∀v,Rep X.K C G d v->Val X.K C kj.item G0 A H H2 d v)->as8 X.K x (.int i) H2 Q:=fun G e qa k=>by refine S8 (YA qa hg) fun p xs v qZ s at' rv=>?_;obtain rfl:=qZ;rcases k9.part e s with s|s;exact .inl ⟨p,xs,i,v,rfl,rfl,s,at',q v H2 nj (k v rv)⟩;exact .inr ⟨p,xs,i,v,rfl,rfl,s,at',q v H2 nj (k v rv)⟩
    cases kj with
    | new=>exact fin _ (aG _ _) (w.le r nj (κ':=.old) rfl) fun v z=>z
    | tU=>exact fin _ (aG _ _) (w.le r nj (κ':=.old) rfl) fun v z=>z
    | loc=>exact fin _ (aG _ _) (w.le r nj (κ':=.old) rfl) fun v z=>z
    | old=>exact fin _ (aG _ _) w fun v z=>z
    | tV=>exact fin _ (.refl _) w.rep fun v z=>z
    | jQ=>exact fin _ (.refl _) w fun v z=>z
def GR:PA X [] (EH X.K C G0 Γ E az κ):=n5.imp fun σ H Q l6=>l6.elim fun A pR=>pR.elim fun st uV=>uV.elim fun r q=>q [] H (.refl _) .nil
def ve(ha:PE X e (tD X.K C G0 Γ E f kj))(hr:PA X es (EH X.K C G0 Γ E fs κ))(l:autoParam (kj.le κ=true) zu0._auto_1)(hs:autoParam (bH (e::es) X.env=(false,eval e X.env)::bH es X.env) zu0._auto_1):PA X (e::es) (EH X.K C G0 Γ E (af f fs) κ):=(iY ha hr hs).imp fun σ H Q zz=>by
 refine di zz fun A st r q=>?_;clear zz;refine⟨A,st,r,?_⟩;unfold af R.bind at q;cases hf:f st with
 | bad=>rw[hf]at q;exact q
 | ex c p=>rw[hf]at q;exact q
 | ok a=>
  rw[hf]at q;intro x H1 e1 w1;refine⟨A,st,r.mono e1,?_⟩;dsimp only at q;cases hb:fs st with
  | bad=>rw[hb]at q;exact q
  | ex c p=>rw[hb]at q;exact fun H' e'=>q H' (e1.trans e')
  | ok b=>rw[hb]at q;intro y H2 e2 w2;exact q (x::y) H2 (e1.trans e2) (.cons ((w1.le r e1 l).hp.same (Kd.rN e2) _) (w2.same (Kd.OT e1) _))
def xq{l:List α}(h:l.length<=100):l.length<=cG:=cj h (by rw[fQ];decide)
def bQ(n:Nat)(f:DA):DF:=fun st=>(f st).bind fun ds=>if ds.length<=n/\pH (.tup ds)=true then .ok (.tup ds)else .bad
def xr{x1}(h:PA X es (EH X.K C G0 Γ E fs κ)):PE X (.Tuple es x1 pos) (tD X.K C G0 Γ E (bQ 100 fs) κ):=(NR h).imp fun σ H Q zz=>by
 refine di zz fun A st r q=>?_;clear zz;refine⟨A,st,r,?_⟩;unfold bQ R.bind at q;cases hf:fs st with
 | bad=>rw[hf]at q;exact q
 | ex c p=>rw[hf]at q;exact q
 | ok ds=>
  rw[hf]at q;dsimp only at q;split at q;rename_i d hz;split at hz;rename_i hl;cases hz;exact fun vs H1 e1 w1=>⟨xq (by rw[w1.len];exact hl.1),fun p hp=>q _ _ (e1.trans (cH hp)) (.tup r e1 hp hl.2 w1)⟩
  cases hz;rename_i hz;split at hz <;> cases hz;exact q.elim
def cX(n:Nat)(f:DA):DF:=fun st=>(f st).bind fun ds=>if ds.length<=n then .ok (.lst ds)else .bad
def OX(h:PA X es (EH X.K C G0 Γ E fs κ)):PE X (.List es pos) (tD X.K C G0 Γ E (cX 100 fs) κ):=(XM h).imp fun σ H Q zz=>by
 refine di zz fun A st r q=>?_;clear zz;refine⟨A,st,r,?_⟩;unfold cX R.bind at q;cases hf:fs st with
 | bad=>rw[hf]at q;exact q
 | ex c p=>rw[hf]at q;exact q
 | ok ds=>
  rw[hf]at q;dsimp only at q;split at q;rename_i d hz;split at hz;rename_i hl;cases hz;exact fun vs H1 e1 w1=>⟨xq (by rw[w1.len];exact hl),fun p hp=>q _ _ (e1.trans (cH hp)) (.lst r e1 hp w1)⟩
  cases hz;rename_i hz;split at hz <;> cases hz;exact q.elim
def YC(K:aD)(C:Cfg)(r1:List V->Hp->VK->Prop)(g:List D->R D)(κ:Kd):Prop:=∀(G0:Hp) (Γ:List SK) (E:XK) (σ:L2.St) (A:List av) (st:gM) (H:Hp) (ds:List D) (xs:List V) (Q:VK),RS K C G0 Γ σ H A st->aH K C H ds xs->
 (match g ds with | .ok d=>∀v H',aE H H'->Val K C κ G0 A H H' d v->Q v H' | .ex c p=>∀H',aE H H'->K2 E c p H' | .bad=>False)->r1 xs H Q
def xu(ho:YC X.K C r1 g κ)(h:PE X e (tCB r1 (EH X.K C G0 Γ E fs kj))):PE X e (tD X.K C G0 Γ E (bD g fs) κ):=h.imp fun σ H Q zz=>by
 refine di zz fun A st r q=>?_;clear zz;refine⟨A,st,r,?_⟩;unfold bD R.bind at q;cases hf:fs st with
 | bad=>rw[hf]at q;exact q
 | ex c p=>rw[hf]at q;exact q
 | ok ds=>
  rw[hf]at q;dsimp only at q;intro vs H1 e1 w1;refine ho G0 Γ (E σ) σ A st H1 ds vs Q (r.mono e1) (w1.same Kd.qA _) ?_;cases hg:g ds with
  | bad=>rw[hg]at q;exact q
  | ex c p=>rw[hg]at q;exact fun H' e'=>q H' (e1.trans e')
  | ok d=>rw[hg]at q;exact fun v H' e' w=>q v H' (e1.trans e') (w.early e1)
def oU{K:aD}{H:Hp}{d:D}{xs:List V}(h:aH K C H [d] xs):∃v,xs=[v]/\Rep K C H d v:=by
 rw[aH]at h;refine bw h fun v r b9 q z=>?_;clear h;obtain rfl:=b9;rw[aH]at z;subst z;exact⟨v,rfl,q⟩
def jz:List D->R D:=fun ds=>match ds with | [.lst xs]=>.ok (.int xs.length) | [.tup xs]=>.ok (.int xs.length)|_=>.bad
def TM{K:aD}:YC K C (fun xs H Q=>∃p ys,xs=[.ref p]/\(k9 K H p ys\/kW K H p ys)/\Q (.int ys.length) H) jz .new:=fun G0 Γ E σ A st H ds xs Q r w q=>by
 unfold jz at q;split at q;rename_i z;split at z;cases z;refine aO (oU w) fun v iV w1=>?_;obtain rfl:=iV;refine bw w1.items fun p ys b9 s t=>?_;obtain rfl:=b9;exact⟨p,ys,rfl,.inl s,q _ H (.refl _) (.flat r (.refl _) (by rw[gw] <;> simp) (by rw[t.len];exact xo) _)⟩;cases z;refine aO (oU w) fun v iV w1=>?_;obtain rfl:=iV;rw[Rep]at w1;refine bw w1 fun p ys b9 s t=>?_;clear w1;obtain rfl:=b9;exact⟨p,ys,rfl,.inr s,q _ H (.refl _) (.flat r (.refl _) (by rw[gw] <;> simp) (by rw[t.len];exact xo) _)⟩;cases z;rename_i z;split at z <;> cases z;exact q.elim
def lq:List D->R D:=fun ds=>match ds with | [.lst xs]=>if dB xs=true then .ok (.lst xs)else .bad | [.tup xs]=>if dB xs=true then .ok (.lst xs)else .bad|_=>.bad
def Dh{K:aD}:YC K C (fun xs H Q=>∃p ys,xs=[.ref p]/\(k9 K H p ys\/kW K H p ys)/\∀l,H l=none->Q (.ref l) (upd H l (.lst ys))) lq .new:=fun G0 Γ E σ A st H ds xs Q r w q=>by
 have fin:∀(es:List D) (p:av) (ys:List V),(k9 K H p ys\/kW K H p ys)->aH K C H es ys->dB es=true->(∀v H',aE H H'->Val K C .new G0 A H H' (.lst es) v->Q v H')->∃p' Il,[V.ref p]=[.ref p']/\(k9 K H p' Il\/kW K H p' Il)/\∀l,H l=none->Q (.ref l) (upd H l (.lst Il)):=fun es p ys s t n q=>
  ⟨p,ys,rfl,s,fun l hl=>q _ _ (cH hl) (.lst r (.refl _) hl (t.part (.nw (.refl _)) _ n))⟩
 unfold lq at q;split at q;rename_i z;split at z;split at z;rename_i n;cases z;refine aO (oU w) fun v iV w1=>?_;obtain rfl:=iV;refine bw w1.items fun p ys b9 s t=>?_;obtain rfl:=b9;exact fin _ _ _ (.inl s) t n q;cases z;split at z;rename_i n;cases z;refine aO (oU w) fun v iV w1=>?_;obtain rfl:=iV;rw[Rep]at w1;refine bw w1 fun p ys b9 s t=>?_;clear w1;obtain rfl:=b9;exact fin _ _ _ (.inr s) t n q;cases z;cases z
 ·rename_i z;split at z <;> (try split at z) <;> cases z
 exact q.elim
def WG(h:PE X e (tD X.K C G0 Γ E f κ))(he:autoParam (∀whole,isTrue e X.env whole=(do let v <- whole;standAt e.pos;holding [v] (truthy v))) zu3._auto_1):PT X e (vd X.K C G0 Γ E f):=(Xk h he).imp fun σ H Q zz=>by
 refine di zz fun A st r q=>?_;clear zz;refine⟨A,st,r,?_⟩;cases hf:f st with
 | bad=>rw[hf]at q;exact q
 | ex c p=>rw[hf]at q;exact q
 | ok d=>
  rw[hf]at q;cases d with
  | bl b=>exact fun v H' e' w=>⟨b,by have:=w.rep;rw[Rep]at this;exact this,q H' e'⟩
  | _=>exact q.elim
def oV(hr:pQ X (gU op) r2)(ho:uN X.K C r2 g .new)(ha:PE X a (tD X.K C G0 Γ E fa kj))(hb:PE X b (tD X.K C G0 Γ E fb C8))(hm:behindInMarks op b=false):PT X (.Compare a [op] [b] pos) (vd X.K C G0 Γ E (aV g fa fb)):=(Sm hr ha hb hm).imp fun σ H Q zz=>by
 refine di zz fun A st r q=>?_;clear zz;refine two (κ:=.new) ho σ H _ ⟨A,st,r,?_⟩;cases hf:aV g fa fb st with
 | bad=>rw[hf]at q;exact q
 | ex c p=>rw[hf]at q;exact q
 | ok d=>
  rw[hf]at q;cases d with
  | bl b=>exact fun v H' e' w=>⟨b,by have:=w.rep;rw[Rep]at this;exact this,q H' e'⟩
  | _=>exact q.elim
def YD(h:PT X a (vd X.K C G0 Γ E fa)):PT X (.UnaryOp .Not a pos) (vd X.K C G0 Γ E (tX fa)):=(Xl h).imp fun σ H Q zz=>by
 refine di zz fun A st r q=>?_;clear zz;refine⟨A,st,r,?_⟩;unfold tX R.bind at q;cases hf:fa st with
 | bad=>rw[hf]at q;exact q
 | ex c p=>rw[hf]at q;exact q
 | ok d=>
  rw[hf]at q;cases d with
  | bl b=>exact q
  | _=>exact q.elim
def TN(ha:PT X a (vd X.K C G0 Γ E fa)):PW X (.BoolOp .And [a] pos) (vd X.K C G0 Γ E fa):=pw_and1 ha
def YE(ha:PT X a (vd X.K C G0 Γ E fa)):PW X (.BoolOp .Or [a] pos) (vd X.K C G0 Γ E fa):=pw_or1 ha
def YF(ha:PT X a (vd X.K C G0 Γ E fa))(hb:PW X (.BoolOp .And (b::rest) pos) (vd X.K C G0 Γ E fb)):PW X (.BoolOp .And (a::b::rest) pos) (vd X.K C G0 Γ E (jR fa fb)):=(pw_and ha hb).imp fun σ H Q zz=>by
 refine di zz fun A st r q=>?_;clear zz;refine⟨A,st,r,?_⟩;unfold jR R.bind at q;cases hf:fa st with
 | bad=>rw[hf]at q;exact q
 | ex c p=>rw[hf]at q;exact q
 | ok d=>
  rw[hf]at q;cases d with
  | bl b=>
   intro H1 e1;cases b with
   | false=>rw[aX0 iS];exact q H1 e1
   | true=>
    rw[aW9 rfl];refine⟨A,st,r.mono e1,?_⟩;dsimp only at q;cases hb:fb st with
    | bad=>rw[hb]at q;exact q
    | ex c p=>rw[hb]at q;exact fun H' e'=>q H' (e1.trans e')
    | ok d=>
     rw[hb]at q;cases d with
     | bl b=>exact fun H' e'=>q H' (e1.trans e')
     | _=>exact q.elim
  | _=>exact q.elim
def as9(ha:PT X a (vd X.K C G0 Γ E fa))(hb:PW X (.BoolOp .Or (b::rest) pos) (vd X.K C G0 Γ E fb)):PW X (.BoolOp .Or (a::b::rest) pos) (vd X.K C G0 Γ E (Tt fa fb)):=(pw_or ha hb).imp fun σ H Q zz=>by
 refine di zz fun A st r q=>?_;clear zz;refine⟨A,st,r,?_⟩;unfold Tt R.bind at q;cases hf:fa st with
 | bad=>rw[hf]at q;exact q
 | ex c p=>rw[hf]at q;exact q
 | ok d=>
  rw[hf]at q;cases d with
  | bl b=>
   intro H1 e1;cases b with
   | true=>rw[aW9 rfl];exact q H1 e1
   | false=>
    rw[aX0 iS];refine⟨A,st,r.mono e1,?_⟩;dsimp only at q;cases hb:fb st with
    | bad=>rw[hb]at q;exact q
    | ex c p=>rw[hb]at q;exact fun H' e'=>q H' (e1.trans e')
    | ok d=>
     rw[hb]at q;cases d with
     | bl b=>exact fun H' e'=>q H' (e1.trans e')
     | _=>exact q.elim
  | _=>exact q.elim
def YG{op}(ha:PE X a (tD X.K C G0 Γ E fa κ)):PE X (.BoolOp op [a] pos) (tD X.K C G0 Γ E fa κ):=Xm ha
def vbl{K:aD}{A:List av}{H H':Hp}{b:Bool}{v:V}(w:Val K C κ G0 A H H' (.bl b) v):v = .bl b:=by have:=w.rep;rw[Rep]at this;exact this
def YH(ha:PE X a (tD X.K C G0 Γ E fa kj))(hb:PE X (.BoolOp .And (b::rest) pos) (tD X.K C G0 Γ E fb κ)):PE X (.BoolOp .And (a::b::rest) pos) (tD X.K C G0 Γ E (jR fa fb) κ):=(Xn ha hb).imp fun σ H Q zz=>by
 refine di zz fun A st r q=>?_;clear zz;refine⟨A,st,r,?_⟩;unfold jR R.bind at q;cases hf:fa st with
 | bad=>rw[hf]at q;exact q
 | ex c p=>rw[hf]at q;exact q
 | ok d=>
  rw[hf]at q;cases d with
  | bl b=>
   intro v H1 e1 w1;refine⟨b,vbl w1,?_⟩;cases b with
   | false=>rw[aX0 iS];exact q _ H1 e1 (.flat r e1 (by rw[gw] <;> simp) Df _)
   | true=>
    rw[aW9 rfl];refine⟨A,st,r.mono e1,?_⟩;dsimp only at q;cases hb:fb st with
    | bad=>rw[hb]at q;exact q
    | ex c p=>rw[hb]at q;exact fun H' e'=>q H' (e1.trans e')
    | ok d=>rw[hb]at q;exact fun v H' e' w=>q v H' (e1.trans e') (w.early e1)
  | _=>exact q.elim
end
def TQ(K:aD)(C:Cfg)(jq:Option Bool)(G0 H':Hp)(d:D)(v:V):Prop:=match jq with
 | some true=>Rep K C (nw G0 H') d v/\kK K C G0 (nw G0 H') d v
 | some false=>Rep K C H' d v
 | none=>(Rep K C (nw G0 H') d v/\kK K C G0 (nw G0 H') d v)/\GJ K C G0 (nw G0 H') d v
section
variable (K:aD)(C:Cfg)(G0:Hp)(Γ:List SK)(E:L2.St->XK)(jq:Option Bool)
def nK(F:DS):TS:=fun D σ H=>∃A st,RS K C G0 Γ σ H A st/\match F st with
 | .nx st'=>∀dF H' A',RS K C G0 Γ dF H' A' st'->aE (er H A) (er H' A')->D.nx dF H'
 | .bk st'=>∀dF H' A',RS K C G0 Γ dF H' A' st'->aE (er H A) (er H' A')->D.bk dF H'
 | .ct st'=>∀dF H' A',RS K C G0 Γ dF H' A' st'->aE (er H A) (er H' A')->D.ct dF H'
 | .rt d=>∀v H',aE G0 H'->TQ K C jq G0 H' d v->D.rt v H'
 | .ex c p st'=>∀dF H' A',RS K C G0 Γ dF H' A' st'->aE (er H A) (er H' A')->K2 (E dF) c p H'
 | .bad=>False
end
def bG(F G:DS):DS:=fun st=>match F st with | .nx st'=>G st'|o=>o
def cy:DS:=fun st=>.nx st
def cF(i:Nat)(f:DF):DS:=fun st=>match f st with | .ok d=>.nx (st.set i (some d)) | .ex c p=>.ex c p st | .bad=>.bad
def nH(f:DF):DS:=fun st=>match f st with | .ok _=>.nx st | .ex c p=>.ex c p st | .bad=>.bad
def eL(f:DF):DS:=fun st=>match f st with | .ok d=>.rt d | .ex c p=>.ex c p st | .bad=>.bad
def dJ(fc:DF)(F G:DS):DS:=fun st=>match fc st with | .ok (.bl true)=>F st | .ok (.bl false)=>G st | .ok _=>.bad | .ex c p=>.ex c p st | .bad=>.bad
section
variable {X:Cx}{C:Cfg}{G0:Hp}{Γ:List SK}{E:L2.St->XK}{jq:Option Bool}{c:bg}{κ:Kd}{pos:Pos}
def YI:qM X [] (nK X.K C G0 Γ E jq cy):=Se.imp fun D σ H l6=>l6.elim fun A pR=>pR.elim fun st uV=>uV.elim fun r q=>q σ H A r (.refl _)
def TR(h1:PS X s (nK X.K C G0 Γ E jq F))(h2:qM X ss (nK X.K C G0 Γ E jq G)):qM X (s::ss) (nK X.K C G0 Γ E jq (bG F G)):=(Cv h1 h2).imp fun D σ H zz=>by
 refine di zz fun A st r q=>?_;clear zz;refine⟨A,st,r,?_⟩;unfold bG at q;cases hf:F st with
 | nx st'=>
  rw[hf]at q;intro dF H' A' r' e';refine⟨A',st',r',?_⟩;dsimp only at q;cases hg:G st' with
  | nx m8=>rw[hg]at q;exact fun AI H2 A2 r2 e2=>q AI H2 A2 r2 (e'.trans e2)
  | bk m8=>rw[hg]at q;exact fun AI H2 A2 r2 e2=>q AI H2 A2 r2 (e'.trans e2)
  | ct m8=>rw[hg]at q;exact fun AI H2 A2 r2 e2=>q AI H2 A2 r2 (e'.trans e2)
  | rt d=>rw[hg]at q;exact q
  | ex c p m8=>rw[hg]at q;exact fun AI H2 A2 r2 e2=>q AI H2 A2 r2 (e'.trans e2)
  | bad=>rw[hg]at q;exact q
 | bk st'=>rw[hf]at q;exact q
 | ct st'=>rw[hf]at q;exact q
 | rt d=>rw[hf]at q;exact q
 | ex c p st'=>rw[hf]at q;exact q
 | bad=>rw[hf]at q;exact q
def YJ(h1:PS X s (nK X.K C G0 Γ E jq F)):qM X [s] (nK X.K C G0 Γ E jq F):=I0 h1
def YK(hN:X.N.Nodup)(he:PE X e (tD X.K C G0 Γ E f κ))(hk:autoParam (Γ[i]?=some k) zu0._auto_1)(hl:autoParam (k.takes κ=true) zu0._auto_1)(hi:autoParam (X.N[i]?=some x) zu0._auto_1)(hx:Loc X.env.scope x:=by first|exact fF rfl|exact gJ rfl)(hs:autoParam (swapsWith e (some (.Name x pos')) pos.line X.env=pure false) zu0._auto_1)
  (hf:autoParam (X.fn x=true\/X.env.scope.names.lookup x=some .local) zu4._auto_1):PS X (.Assign [.Name x pos'] e pos) (nK X.K C G0 Γ E jq (cF i f)):=(Xq hN hi hx he hs hf).imp fun D σ H zz=>by
 refine di zz fun A st r q=>?_;clear zz;refine⟨A,st,r,?_⟩;unfold cF at q;cases hf:f st with
 | bad=>rw[hf]at q;exact q
 | ex c p=>rw[hf]at q;exact fun H' e'=>q σ H' A (r.mono e') (aI e')
 | ok d=>rw[hf]at q;intro v H' e' w;refine cC (r.set e' hk hl w) fun A' r' e2 _=>?_;exact q _ _ A' r' e2
def TU(he:PE X e (tD X.K C G0 Γ E f κ))(hs:autoParam (swapsWith e none pos.line X.env=pure false) zu0._auto_1):PS X (.Expr e pos) (nK X.K C G0 Γ E jq (nH f)):=(uU he hs).imp fun D σ H zz=>by
 refine di zz fun A st r q=>?_;clear zz;refine⟨A,st,r,?_⟩;unfold nH at q;cases hf:f st with
 | bad=>rw[hf]at q;exact q
 | ex c p=>rw[hf]at q;exact fun H' e'=>q σ H' A (r.mono e') (aI e')
 | ok d=>rw[hf]at q;exact fun v H' e' w=>q σ H' A (r.mono e') (aI e')
def aN5:Bool->Kd|true=>.tV|false=>.jQ
def YL(he:PE X e (tD X.K C G0 Γ E f κ))(l:autoParam (κ.le (aN5 b)=true) zu0._auto_1):PS X (.Return (some e) pos) (nK X.K C G0 Γ E (some b) (eL f)):=(Xp he).imp fun D σ H zz=>by
 refine di zz fun A st r q=>?_;clear zz;refine⟨A,st,r,?_⟩;unfold eL at q;cases hf:f st with
 | bad=>rw[hf]at q;exact q
 | ex c p=>rw[hf]at q;exact fun H' e'=>q σ H' A (r.mono e') (aI e')
 | ok d=>
  rw[hf]at q;intro v H' e' w;have w':=w.le r e' l;refine q v H' (r.g0.trans e') ?_;cases b with
  | true=>exact w'
  | false=>exact w'
def aT8(d:D):Bool:=match d with | .lst _=>false|d=>(Bj d).isNone
def at1(hc:PT X c (vd X.K C G0 Γ E fc))(ha:qM X ss (nK X.K C G0 Γ E jq F))(hb:qM X ss' (nK X.K C G0 Γ E jq G)):PS X (.If c ss ss' pos) (nK X.K C G0 Γ E jq (Dm.dJ fc F G)):=(ag1 hc ha hb).imp fun D σ H zz=>by
 refine di zz fun A st r q=>?_;clear zz;refine⟨A,st,r,?_⟩;unfold Dm.dJ at q;have sub:∀{H1:Hp} (e1:aE H H1) {G:DS},(match G st with
   | .nx st'=>∀dF H' A',RS X.K C G0 Γ dF H' A' st'->aE (er H A) (er H' A')->D.nx dF H'
   | .bk st'=>∀dF H' A',RS X.K C G0 Γ dF H' A' st'->aE (er H A) (er H' A')->D.bk dF H'
   | .ct st'=>∀dF H' A',RS X.K C G0 Γ dF H' A' st'->aE (er H A) (er H' A')->D.ct dF H'
   | .rt d=>∀v H',aE G0 H'->TQ X.K C jq G0 H' d v->D.rt v H'
   | .ex c p st'=>∀dF H' A',RS X.K C G0 Γ dF H' A' st'->aE (er H A) (er H' A')->K2 (E dF) c p H'
   | .bad=>False)->nK X.K C G0 Γ E jq G D σ H1:=fun {H1} e1 {G} q=>by
  refine⟨A,st,r.mono e1,?_⟩
  cases hg:G st with
  | nx m8=>rw[hg]at q;exact fun AI H2 A2 r2 e2=>q AI H2 A2 r2 ((aI e1).trans e2)
  | bk m8=>rw[hg]at q;exact fun AI H2 A2 r2 e2=>q AI H2 A2 r2 ((aI e1).trans e2)
  | ct m8=>rw[hg]at q;exact fun AI H2 A2 r2 e2=>q AI H2 A2 r2 ((aI e1).trans e2)
  | rt d=>rw[hg]at q;exact q
  | ex c p m8=>rw[hg]at q;exact fun AI H2 A2 r2 e2=>q AI H2 A2 r2 ((aI e1).trans e2)
  | bad=>rw[hg]at q;exact q
 cases hf:fc st with
 | bad=>rw[hf]at q;exact q
 | ex c p=>rw[hf]at q;exact fun H' e'=>q σ H' A (r.mono e') (aI e')
 | ok d=>
  rw[hf]at q;cases d with
  | bl b=>
   intro H1 e1;cases b with
   | true=>rw[aW9 rfl];exact sub e1 q
   | false=>rw[aX0 iS];exact sub e1 q
  | _=>exact q.elim
def lB:List SK->Bool:=fun Γ=>Γ.all fun k=>match k with | .any=>false | .pr=>false | .ll=>false | .dp=>false|_=>true
def OY(h:lB Γ=true){i:Nat}:Γ[i]?≠some .any:=fun z=>by
 unfold lB at h;have:=fU.mp h _ (jg z);cases this
def OZ(h:lB Γ=true){i:Nat}:Γ[i]?≠some .pr:=fun z=>by
 unfold lB at h;have:=fU.mp h _ (jg z);cases this
def P0(h:lB Γ=true){i:Nat}:Γ[i]?≠some .ll:=fun z=>by
 unfold lB at h;have:=fU.mp h _ (jg z);cases this
def P6(h:lB Γ=true){i:Nat}:Γ[i]?≠some .dp:=fun z=>by
 unfold lB at h;have:=fU.mp h _ (jg z);cases this
def RS.TV{K:aD}{σ:L2.St}{H:Hp}{A:List av}{st:gM}(r:RS K C G0 Γ σ H A st)(na:lB Γ=true){i:Nat}{n:Bool}{p:av}{ob:HO}{d' d0:D}(hk:Γ[i]?=some (.own n))(hs:st[i]?=some (some d0))(hv:σ[i]?=some (some (.ref p)))(hp:p∈A)(g0:G0 p=none)
  (sG:kJ d0=true) (hM:WC ob=true) (q:kX K C (eh n G0 A H) (upd H p ob) p d'):RS K C G0 Γ σ (upd H p ob) A (st.set i (some d'))/\aE (er H A) (er (upd H p ob) A):=by
 have ee:er (upd H p ob) A=er H A:=by funext b;by_cases mb:b∈A;rw[dH mb,dH mb];rw[aU mb,aU mb,aR (fun z:b=p=>mb (by rw[z];exact hp))]
 have Tp:∀m,eh m G0 A (upd H p ob)=eh m G0 A H:=fun m=>by unfold eh;rw[ee]
 refine⟨⟨by rw[ee];exact r.base,fun a m=>?_,by simp[r.len],fun j d h=>?_,fun a b n' m' p' ds es uu g1 g2 s1 s2 o1 o2 w1 w2=>?_,r.gl⟩,by rw[ee];exact .refl _⟩;by_cases ha:a=p;subst ha;exact⟨ob,bS,hM⟩;rw[aR ha];exact r.lists a m;by_cases hj:i=j;subst hj;rw[m7 (fR.mp hs).1]at h;cases h;exact⟨_,_,hk,hv,.inl ⟨p,rfl,hp,g0,by rw[Tp];exact q⟩⟩;rw[l0 hj]at h;refine bw (r.slot j d h) fun k v h1 h2 h3=>?_;refine⟨k,v,h1,h2,?_⟩;cases k with
 | par=>show Rep K C (er _ A) d v;rw[ee];exact h3
 | loc=>show _/\_;rw[ee];exact h3
 | any=>exact aY1 h1 (OY na)
 | pr=>exact aY1 h1 (OZ na)
 | ll=>exact aY1 h1 (P0 na)
 | dp=>exact aY1 h1 (P6 na)
 | own m=>
  rcases h3 with⟨p2,b,c,f,q2⟩|⟨a,b⟩;subst b;have np:p2≠p:=fun z=>by subst z;exact r.apart i j n m p2 d0 d hj hk h1 hs h sG q2.kJ hv h2
  exact .inl ⟨p2,rfl,c,f,by rw[Tp];exact q2.mono (.refl _) (aR np)⟩;exact .inr ⟨a,by rw[Tp];exact b⟩
 have back:∀{c:Nat} {x:D},(st.set i (some d'))[c]?=some (some x)->kJ x=true->∃y,st[c]?=some (some y)/\kJ y=true:=fun {c x} h ho=>by by_cases hc:i=c;subst hc;exact⟨d0,hs,sG⟩;rw[l0 hc]at h;exact⟨_,h,ho⟩
 obtain⟨ds1,s1,o1⟩:=back s1 o1;obtain⟨es1,s2,o2⟩:=back s2 o2;exact r.apart a b n' m' p' ds1 es1 uu g1 g2 s1 s2 o1 o2 w1 w2
def RS.mut{K:aD}{σ:L2.St}{H:Hp}{A:List av}{st:gM}(r:RS K C G0 Γ σ H A st)(na:lB Γ=true){i:Nat}{n:Bool}{p:av}{GK:List D}{rE:List V}{d0:D}(hk:Γ[i]?=some (.own n))(hs:st[i]?=some (some d0))(hv:σ[i]?=some (some (.ref p)))(hp:p∈A)(g0:G0 p=none)
  (sG:∃ds,d0 = .lst ds) (q:aH K C (eh n G0 A H) GK rE):RS K C G0 Γ σ (upd H p (.lst rE)) A (st.set i (some (.lst GK)))/\aE (er H A) (er (upd H p (.lst rE)) A):=by
 obtain⟨ds,rfl⟩:=sG;exact r.TV na hk hs hv hp g0 rfl rfl ⟨rE,bS,q⟩
def RS.Bo{K:aD}{σ:L2.St}{H:Hp}{A:List av}{st:gM}(r:RS K C G0 Γ σ H A st){i:Nat}{n:Bool}{d:D}(hk:Γ[i]?=some (.own n))(hs:st[i]?=some (some d))(hd:kJ d=true) :
  ∃p,σ[i]?=some (some (.ref p))/\p∈A/\G0 p=none/\kX K C (eh n G0 A H) H p d:=by
 refine bw (r.slot i _ hs) fun k v h1 h2 h3=>?_;rw[hk]at h1;cases h1;rcases h3 with⟨p2,b,c,f,q2⟩|⟨a,b⟩;cases b;exact⟨p2,h2,c,f,q2⟩;rw[hd]at a;cases a
def RS.owned{K:aD}{σ:L2.St}{H:Hp}{A:List av}{st:gM}(r:RS K C G0 Γ σ H A st){i:Nat}{n:Bool}{ds:List D}(hk:Γ[i]?=some (.own n))(hs:st[i]?=some (some (.lst ds))) :
  ∃p xs,σ[i]?=some (some (.ref p))/\p∈A/\G0 p=none/\H p=some (.lst xs)/\aH K C (eh n G0 A H) ds xs:=by
 refine aD4 (r.Bo hk hs rfl) fun p a b c q=>?_;exact aO q fun xs e w=>⟨p,xs,a,b,c,e,w⟩
def WH:Bool->Kd|true=>.loc|false=>.old
theorem Val.WH{K:aD}{σ:L2.St}{H H':Hp}{A:List av}{st:gM}{n:Bool}{d:D}{v:V}(r:RS K C G0 Γ σ H A st)(e:aE H H')(l:κ.le (WH n)=true)(w:Val K C κ G0 A H H' d v):Rep K C (eh n G0 A H') d v:=by
 have:=w.le r e l;cases n with
 | true=>exact this.1
 | false=>exact this
def kY(i:Nat)(f:DF):DS:=fun st=>match st[i]? with
 | some (some (.lst ds))=>match f st with
  | .ok d=>if ds.length<=5000 then .nx (st.set i (some (.lst (ds++[d]))))else .bad
  | .ex c p=>.ex c p st
  | .bad=>.bad
 | _=>.bad
def YM{i:Nat}{n:Bool}{to:TE}(h:PE X e (tBM X.K "list" Ic (uL i) (wJ (tD X.K C G0 Γ E f κ) JD)))(na:lB Γ=true)(hk:autoParam (Γ[i]?=some (.own n)) zu0._auto_1)(hl:autoParam (κ.le (WH n)=true) zu0._auto_1)(hs:autoParam (swapsWith e none pos.line X.env=pure false) zu0._auto_1):PS X (.Expr e pos) (nK X.K C G0 Γ E jq (kY i f)):=(uU h hs).imp fun D σ H zz=>by
 refine di zz fun A st r q=>?_;clear zz;unfold kY at q;split at q;all_goals first
  | (rename_i z;split at z <;> (try split at z) <;> (try split at z) <;> cases z;done)
  | skip
 rename_i st' z;split at z;rename_i ds hs;cases hf:f st with
 | bad=>rw[hf]at z;cases z
 | ex c p=>rw[hf]at z;cases z
 | ok d=>
  rw[hf]at z;dsimp only at z;split at z;rename_i hlen;cases z;refine Jq (r.owned hk hs) fun p xs h1 h2 h3 h4 h5=>?_;refine⟨_,h1,.inl ⟨rfl,xs,.of h4⟩,A,st,r,?_⟩;rw[hf];intro v H' e' w;have r':=r.mono e';have q5:aH X.K C (eh n G0 A H') ds xs:=h5.same (by
   unfold eh;cases n;exact aI e';exact bP (aI e')) _
  refine⟨p,xs,v,rfl,rfl,e' _ _ h4,?_,?_⟩;rw[h5.len];have:5001<=cG:=by rw[fQ];decide
  lia;obtain⟨r2,e2⟩:=r'.mut na hk hs h1 h2 h3 ⟨ds,rfl⟩ (q5.app (.cons (w.WH r e' hl) .nil));exact q _ _ A r2 ((aI e').trans e2);cases z
 cases z;rename_i c p st' z;split at z;rename_i ds hs;cases hf:f st with
 | bad=>rw[hf]at z;cases z
 | ok d=>rw[hf]at z;dsimp only at z;split at z <;> cases z
 | ex c p=>rw[hf]at z;cases z;refine Jq (r.owned hk hs) fun p' xs h1 h2 h3 h4 h5=>?_;refine⟨_,h1,.inl ⟨rfl,xs,.of h4⟩,A,st,r,?_⟩;rw[hf];exact fun H' e'=>q σ H' A (r.mono e') (aI e')
 cases z;exact q.elim
end
def spD(K:aD)(C:Cfg)(n:Nat)(F:List D->R D)(jq:Option Bool):Sp:=fun vs H Q E=>∃ds,ds.length=n/\(aH K C H ds vs/\C.gl H)/\match F ds with
 | .ok d=>∀v H',aE H H'->TQ K C jq H H' d v->Q v H'
 | .ex c p=>∀H',aE H H'->K2 E c p H'
 | .bad=>False
noncomputable def bW (m:Nat) (Fb:DS):List D->R D:=fun ds=>match Fb (ds.map some++kr (m - ds.length) none) with
 | .rt d=>.ok d | .nx _=>.ok .cM | .ex c p _=>.ex c p|_=>.bad
section
variable {K:aD}{C:Cfg}{Γ:List SK}{H:Hp}
def lU:er H []=H:=by funext a;exact aU (by simp)
def P7{ds:List D}(hn:ds.length=n)(AO:∀i,i<n->Γ[i]?=some .par)(q:aH K C H ds vs)(hgl:C.gl H):RS K C H Γ (L2.start N vs) H [] (ds.map some++kr (N.length-ds.length) none) where
 base:=by rw[lU];exact .refl _
 lists:=fun a m=>by cases m
 len:=by unfold L2.start;simp[q.len]
 slot:=fun i d h=>by
  have hi:i<ds.length:=by apply AE;intro ie;rw[jK (by simp;lia)]at h;simp at h;rw[sU]at h;split at h <;> cases h
  rw[lN (by simpa using hi),cY]at h;cases hd:ds[i]? with
  | none=>rw[hd]at h;cases h
  | some d'=>rw[hd]at h;cases h;refine aO (q.get' hd) fun v h1 h2=>?_;refine⟨.par,v,AO i (by lia),?_,?_⟩;unfold L2.start;rw[lN (by rw[bf,q.len];exact hi),cY,h1];rfl;show Rep K C (er H []) d v;rw[lU];exact h2
 gl:=hgl
 apart:=fun i j a b p GK es mK g1 g2 s1 s2 w1 w2=>by
  have hi:i<ds.length:=by apply AE;intro ie;rw[jK (by simp;lia)]at s1;simp at s1;rw[sU]at s1;split at s1 <;> cases s1
  rw[AO i (by lia)]at g1;cases g1
def YN{P:cS}{w:bI}{mg:Str->Option au}{base:aQ}{x qual:Str}{st:aX}{f:av}{fd:gr}{N ps:List Str}{k n:Nat}{jq:Option Bool}{Fb:DS}(F:Lp K x qual st f fd)(S:jX N ps (bz st))(hn:ps.length=n)(AO:∀i,i<n->Γ[i]?=some .par)
  (body:∀(cW:au),fd.code=cW->∀(A:bX) (outer:List Env) (s:ay) (H:Hp) (E:XK),iX k (A.deeper (envOfC qual (bz st) s.heap.objs.size f cW))->
   qM ((nJ (nM P w) P w K mg base N qual (bz st) f cW A outer s H E).eT (l7 (nJ (nM P w) P w K mg base N qual (bz st) f cW A outer s H E) fun _=>E)) (eE st) (nK K C H Γ (fun _=>E) jq Fb)) :
  jO P w K mg base (nM P w) (k+1) f fd ps (spD K C n (bW N.length Fb) jq):=by
 refine zq F S (fun vs H Q E l6=>by obtain⟨ds,h1,h2,_⟩:=l6;rw[h2.1.len,h1,hn]) fun cW hc A outer s H vs Q E hr pR=>?_;refine cC pR fun ds h1 h2 q=>?_;clear pR;refine⟨_,body cW hc A outer s H E hr,[],_,P7 h1 AO h2.1 h2.2,?_⟩;unfold bW at q;cases hf:Fb (ds.map some++kr (N.length-ds.length) none)with
 | nx st'=>
  rw[hf]at q;intro dF H' A' r' e';refine q .cM H' (r'.g0) ?_;have R:∀H:Hp,Rep K C H .cM .cM:=fun H=>by rw[Rep]
  match jq with
  | none=>exact⟨⟨R (nw H H'),.not rfl rfl⟩,.not (fun ds z=>by cases z) rfl⟩
  | some true=>exact⟨R (nw H H'),.not rfl rfl⟩
  | some false=>exact R H'
 | bk st'=>rw[hf]at q;exact q.elim
 | ct st'=>rw[hf]at q;exact q.elim
 | rt d=>rw[hf]at q;exact q
 | ex c p st'=>rw[hf]at q;exact fun dF H' A' r' e'=>q H' r'.g0
 | bad=>rw[hf]at q;exact q.elim
end
def P8:Bool->Kd|true=>.new|false=>.jQ
def P9{n:Nat}{Fd:List D->R D}{EI:Bool}{K:aD}:∀σ H Q,tD K C G0 Γ E (bD Fd fs) (P8 EI) σ H Q->(∀st ds,fs st = .ok ds->ds.length=n)->O3 (spD K C n Fd (some EI)) E (EH K C G0 Γ E fs κ) σ H Q:=fun σ H Q uV hlen=>by
 refine di uV fun A st r q=>?_;clear uV;refine⟨A,st,r,?_⟩;unfold bD R.bind at q;cases hf:fs st with
 | bad=>rw[hf]at q;exact q
 | ex c p=>rw[hf]at q;exact q
 | ok ds=>
  rw[hf]at q;dsimp only at q;intro vs H1 e1 w1;refine⟨ds,hlen st ds hf,⟨w1.same Kd.qA _,C.glM (r.g0.trans e1) r.gl⟩,?_⟩;cases hg:Fd ds with
  | bad=>rw[hg]at q;exact q
  | ex c p=>rw[hg]at q;exact fun H' e'=>q H' (e1.trans e')
  | ok d=>
   rw[hg]at q;refine fun v H' e' w=>q v H' (e1.trans e') ?_;cases EI with
   | true=>have w':Val K C .new G0 A H1 H' d v:=w;exact w'.early e1
   | false=>exact w
def IG:∀st ds,az st = .ok ds->ds.length=0:=fun st ds h=>by cases h;rfl
def Di(h:∀st ds,fs st = .ok ds->ds.length=n):∀st ds,af f fs st = .ok ds->ds.length=n+1:=fun st ds q=>by
 unfold af R.bind at q;cases hf:f st with
 | bad=>rw[hf]at q;cases q
 | ex c p=>rw[hf]at q;cases q
 | ok d=>
  rw[hf]at q;dsimp only at q;cases hg:fs st with
  | bad=>rw[hg]at q;cases q
  | ex c p=>rw[hg]at q;cases q
  | ok GK=>rw[hg]at q;cases q;rw[cK,h st _ hg]
def TX{X:Cx}(Fn:jO X.prog X.w X.K X.mg X.base (nM X.prog X.w) k ff fd ps (spD X.K C n Fd (some EI)))(hr:iX k X.A)(hm:X.mg x=some (.ref ff))(hk:sP X.K (.ref ff)=true)(hb:Binds X.K fd ps [])
  (ha:PA (X.eT (l7 X E)) (e::es) (EH X.K C G0 Γ E fs κ)) (hlen:∀st ds,fs st = .ok ds->ds.length=n) (hg:autoParam (Gl X x) zu0._auto_1) (EC:autoParam ((x==("__debug__" : Str))=false) zu1._auto_1) (he:autoParam (bH (e::es) X.env=(false,eval e X.env)::bH es X.env) zu0._auto_1) (yr:autoParam ((backTo pos (bH es X.env)).any (·.1)=false) zu0._auto_1) :
  PE (X.eT (l7 X E)) (.Call (.Name x p) (e::es) [] pos) (tD X.K C G0 Γ E (bD Fd fs) (P8 EI)):=(O5 Fn hr hg hm hk hb ha EC he yr).imp fun σ H Q q=>P9 σ H Q q hlen
abbrev DB:=D->gM->Option gM
def fS(bind:DB)(F:DS):List D->gM->Out
 | [],st=>.nx st
 | d::ds,st=>match bind d st with
  | none=>.bad
  | some jU=>match F jU with
   | .nx st'=>fS bind F ds st'
   | .ct st'=>fS bind F ds st'
   | .bk st'=>.nx st'
   | o=>o
abbrev DI:=gM->R (List D)
def fm(g:DI)(bind:DB)(F:DS):DS:=fun st=>match g st with | .ok ds=>fS bind F ds st | .ex c p=>.ex c p st | .bad=>.bad
def pT(K:aD)(C:Cfg)(G0:Hp)(Γ:List SK)(t:TG)(bind:DB):Prop:=∀(σ:L2.St) (H:Hp) (A:List av) (st jU:gM) (d:D) (v:V) (Q:L2.St->Hp->Prop),RS K C G0 Γ σ H A st->Rep K C (er H A) d v->bind d st=some jU->
 (∀dF A',RS K C G0 Γ dF H A' jU->aE (er H A) (er H A')->(∀a∈A,a∈A')->Q dF H)->t v σ H Q
def cR(i:Nat):DB:=fun d st=>some (st.set i (some d))
def eZ(i j:Nat):DB:=fun d st=>match d with | .tup [a,b]=>some ((st.set i (some a)).set j (some b))|_=>none
def vf{K:aD}{i:Nat}{k:SK}(hk:autoParam (Γ[i]?=some k) zu0._auto_1)(l:autoParam (k.takes .old=true) zu0._auto_1):pT K C G0 Γ (Cw i) (cR i):=fun σ H A st jU d v Q r w hb q=>by
 cases hb;refine cC (r.set (.refl _) hk l (κ:=.old) w) fun A' r' e' sb=>?_;exact q _ A' r' e' sb
def rQ{K:aD}{i j:Nat}{k k':SK}(hk:autoParam (Γ[i]?=some k) zu0._auto_1)(hj:autoParam (Γ[j]?=some k') zu0._auto_1)(l:autoParam (k.takes .old=true) zu0._auto_1)(l':autoParam (k'.takes .old=true) zu0._auto_1):pT K C G0 Γ (ag7 K 2 (NF (Cw i) (NF (Cw j) ag5))) (eZ i j):=fun σ H A st jU d v Q r w hb q=>by
 unfold eZ at hb;split at hb;rename_i a b;cases hb;rw[Rep]at w;refine bw w fun p xs b9 h2 h3=>?_;clear w;obtain rfl:=b9;have Gx:=aE.tup (aG _ _) h2;rw[aH]at h3;obtain⟨x,r1,rfl,wx,h3⟩:=h3;rw[aH]at h3;obtain⟨y,r2,rfl,wy,h3⟩:=h3;rw[aH]at h3;subst h3;refine⟨p,_,rfl,Gx,rfl,x,[y],rfl,y,[],rfl,rfl,?_⟩;refine cC (r.set (.refl _) hk l (κ:=.old) wx) fun A1 s1 e1 b1=>?_;refine cC (s1.set (.refl _) hj l' (κ:=.old) (wy.same e1 _)) fun A2 s2 e2 b2=>?_;exact q _ A2 s2 (e1.trans e2) fun a m=>b2 a (b1 a m);cases hb
def K3(K:aD)(C:Cfg)(A:List av)(H1:Hp)(J:It)(ds:List D):Prop:=∀(i:Nat) (H:Hp) (A':List av),aE (er H1 A) (er H A')->(∀a∈A',H a≠none)->
 (∀d,ds[i]?=some d->J.go i H/\∀x H',J.yld i H x H'->aE H H'/\Rep K C (er H' A') d x)/\(ds[i]?=none->J.stop i H)
def tZ{K:aD}{J:It}{ds:List D}{bind:DB}{g:TG}{A:List av}{H H1:Hp}{σ:L2.St}{st:gM}{D:Ends}(hB:pT K C G0 Γ g bind)(hJ:K3 K C A H1 J ds)(r:RS K C G0 Γ σ H A st)(e1:aE H H1)(q:match fS bind F ds st with
   | .nx st'=>∀dF H' A',RS K C G0 Γ dF H' A' st'->aE (er H A) (er H' A')->D.nx dF H'
   | .bk st'=>∀dF H' A',RS K C G0 Γ dF H' A' st'->aE (er H A) (er H' A')->D.bk dF H'
   | .ct st'=>∀dF H' A',RS K C G0 Γ dF H' A' st'->aE (er H A) (er H' A')->D.ct dF H'
   | .rt d=>∀v H',aE G0 H'->TQ K C jq G0 H' d v->D.rt v H'
   | .ex c p st'=>∀dF H' A',RS K C G0 Γ dF H' A' st'->aE (er H A) (er H' A')->K2 (E dF) c p H'
   | .bad=>False) :
  ∃W:Nat->Nat->L2.St->Hp->Prop,(∃m,W 0 m σ H1)/\∀i m σ H,W i m σ H->
   (J.stop i H/\D.nx σ H)\/(J.go i H/\∃N:L2.St->Hp->Prop,(∀dF H',N dF H'->∃m',m'<m/\W (i+1) m' dF H')/\∀x H',J.yld i H x H'->g x σ H' fun AI H2=>nK K C G0 Γ E jq F {D with nx:=N,ct:=N,bk:=D.nx} AI H2):=by
 refine⟨fun i m dF H'=>m=ds.length-i/\i<=ds.length/\∃A' st',RS K C G0 Γ dF H' A' st'/\aE (er H1 A) (er H' A')/\fS bind F (ds.drop i) st'=fS bind F ds st,⟨ds.length,rfl,gI _,A,st,r.mono e1,.refl _,rfl⟩,?_⟩;rintro i m Cy H3 ⟨rfl,hi,A3,Cz,r3,e3,g3⟩;obtain⟨mL,pG⟩:=hJ i H3 A3 e3 (fun a m=>by obtain⟨xs,q,_⟩:=r3.lists a m;rw[q];simp);cases hd:ds[i]? with
 | none=>have:ds.drop i=[]:=List.drop_eq_nil_iff.mpr (mU.mp hd);rw[this]at g3;rw[<- g3]at q;exact .inl ⟨pG hd,q Cy H3 A3 r3 ((aI e1).trans e3)⟩
 | some d=>
  obtain⟨go,yl⟩:=mL d hd;have ie:i<ds.length:=(fR.mp hd).1;have hdr:ds.drop i=d::ds.drop (i+1):=by rw[sW ie];congr 1;exact(fR.mp hd).2
  refine .inr ⟨go,fun dF H'=>∃A' st',RS K C G0 Γ dF H' A' st'/\aE (er H1 A) (er H' A')/\fS bind F (ds.drop (i+1)) st'=fS bind F ds st,fun dF H' ED=>ED.elim fun A' Gp=>Gp.elim fun st' EE=>EE.elim fun h1 Cu=>Cu.elim fun h2 h3=>⟨ds.length-(i+1),by lia,rfl,ie,A',st',h1,h2,h3⟩,fun x H' hy=>?_⟩;obtain⟨e4,wx⟩:=yl x H' hy;rw[hdr,fS]at g3;cases hb:bind d Cz with
  | none=>rw[hb]at g3;rw[<- g3]at q;exact q.elim
  | some Wn=>
   rw[hb]at g3;dsimp only at g3;refine hB Cy H' A3 Cz Wn d x _ (r3.mono e4) wx hb fun σ5 A5 r5 e5 _=>⟨A5,Wn,r5,?_⟩
   have TY:aE (er H1 A) (er H' A5):=(e3.trans (aI e4)).trans e5;cases hf:F Wn with
   | nx AJ=>rw[hf]at g3;exact fun Xx H6 A6 r6 e6=>⟨A6,AJ,r6,TY.trans e6,g3⟩
   | ct AJ=>rw[hf]at g3;exact fun Xx H6 A6 r6 e6=>⟨A6,AJ,r6,TY.trans e6,g3⟩
   | bk AJ=>rw[hf]at g3;rw[<- g3]at q;exact fun Xx H6 A6 r6 e6=>q Xx H6 A6 r6 (((aI e1).trans TY).trans e6)
   | rt d=>rw[hf]at g3;rw[<- g3]at q;exact q
   | ex c p AJ=>rw[hf]at g3;rw[<- g3]at q;exact fun Xx H6 A6 r6 e6=>q Xx H6 A6 r6 (((aI e1).trans TY).trans e6)
   | bad=>rw[hf]at g3;rw[<- g3]at q;exact q.elim
def fV(f:DF):DI:=fun st=>match f st with | .ok (.lst ds)=>.ok ds | .ok _=>.bad | .ex c p=>.ex c p | .bad=>.bad
def uA{tg iter:bg}{bind:DB}{g:TG}(hp:PassesOwn (aC X.prog X.w) X.A X.env X.xe)(hc:X.calm=true)(he:PE X iter (tD X.K C G0 Γ E f κ))(l:κ.le .old=true)(hg:PG X tg g)(hB:pT X.K C G0 Γ g bind)(hb:qM X ss (nK X.K C G0 Γ E jq F))(hs:autoParam (∀x,qR iter X.env x=pure x) zu3._auto_1) :
  PS X (.For tg iter ss [] pos) (nK X.K C G0 Γ E jq (fm (fV f) bind F)):=(Ga hp hc (Ia he) hg hb hs).imp fun D σ H zz=>by
 refine di zz fun A st r q=>?_;clear zz;refine⟨A,st,r,?_⟩;unfold fm fV at q;cases hf:f st with
 | bad=>rw[hf]at q;exact q.elim
 | ex c p=>rw[hf]at q;exact fun H' e'=>q σ H' A (r.mono e') (aI e')
 | ok d=>
  rw[hf]at q;cases d with
  | lst ds=>dsimp only at q;intro v H1 e1 w;have w':Rep X.K C (er H1 A) (.lst ds) v:=w.le r e1 (κ':=.old) l;rw[Rep]at w';refine bw w' fun a xs b9 h2 h3=>?_;clear w';obtain rfl:=b9;refine⟨a,rfl,⟨xs,(aG _ _).seq h2⟩,?_⟩;refine tZ hB (fun i H3 A3 e3 _=>⟨fun d hd=>?_,fun hd=>?_⟩) r e1 q;refine aO (h3.get' hd) fun v hv rv=>?_;have s3:k9 X.K H3 a xs:=(e3.trans (aG _ _)).seq h2;refine⟨⟨xs,v,s3,hv⟩,fun x H' Ez=>?_⟩;obtain⟨hH,hx⟩:=Ez;subst hH;have:=hx xs s3;rw[hv]at this;cases this;exact⟨.refl _,rv.same ((aG _ _).trans e3) _⟩;exact⟨xs,(e3.trans (aG _ _)).seq h2,by rw[h3.len];exact mU.mp hd⟩
  | _=>exact q.elim
def qB(fs:DA):DI:=fun st=>match fs st with | .ok [.int j]=>if(decide (-(2 ^ 62)<=j)&&decide (j<2 ^ 62))=true then .ok ((cU j.toNat).map fun i=>.int (i:Nat))else .bad | .ok _=>.bad | .ex c p=>.ex c p | .bad=>.bad
def Bp{tg:bg}{bind:DB}{g:TG}{p:Pos}(hp:PassesOwn (aC X.prog X.w) X.A X.env X.xe)(hc:X.calm=true)(hm:X.mg "range"=none)(ha:PA X [a] (EH X.K C G0 Γ E fs κ))(hg:PG X tg g)(hB:pT X.K C G0 Γ g bind)(hb:qM X ss (nK X.K C G0 Γ E jq F))(hgl:autoParam (Gl X "range") zu0._auto_1)
  (hs1:autoParam (bH [a] X.env=[(false,eval a X.env)]) zu0._auto_1) (hs:autoParam (∀x,qR (.Call (.Name "range" p) [a] [] pos) X.env x=pure x) zu3._auto_1) {pos':Pos} :
  PS X (.For tg (.Call (.Name "range" p) [a] [] pos) ss [] pos') (nK X.K C G0 Γ E jq (fm (qB fs) bind F)):=(Ga hp hc (Jy hgl hm ha hs1) hg hb hs).imp fun D σ H zz=>by
 refine di zz fun A st r q=>?_;clear zz;refine⟨A,st,r,?_⟩;unfold fm at q;cases hg:qB fs st with
 | bad=>rw[hg]at q;exact q.elim
 | ex c p=>
  rw[hg]at q;have hf:fs st = .ex c p:=by unfold qB at hg;split at hg;split at hg <;> cases hg;cases hg;rename_i z;rw[z];cases hg;rfl;cases hg
  rw[hf];exact fun H' e'=>q σ H' A (r.mono e') (aI e')
 | ok GK=>
  rw[hg]at q;unfold qB at hg;split at hg;rename_i j hf;rw[hf];split at hg;rename_i hc;cases hg;simp only[bV,aX4]at hc;intro vs H1 e1 w1;refine aO (oU w1) fun v iV wv=>?_;obtain rfl:=iV;obtain rfl:v = .int j:=by rw[Rep]at wv;exact wv
  refine⟨j,rfl,hc.1,hc.2,?_⟩;refine tZ hB (fun i H3 A3 e3 _=>⟨fun d hd=>?_,fun hd=>?_⟩) r e1 q;rw[cY]at hd;have hi:i<j.toNat:=by apply AE;intro ie;rw[nW (by simpa using ie)]at hd;cases hd
  rw[Fv hi]at hd;cases hd;refine⟨hi,fun x H' EA=>?_⟩;obtain⟨hH,hx⟩:=EA;subst hH;subst hx;refine⟨.refl _,?_⟩;rw[Rep,Nt];show j.toNat<=i;have:=mU.mp hd;simpa using this;cases hg;cases hg;cases hg;cases hg
def nt(g g':D->D->R D)(fa fb fc:DF):DF:=fun st=>(fa st).bind fun a=>(fb st).bind fun b=>(g a b).bind fun z=>match z with
 | .bl true=>(fc st).bind fun c=>g' b c
 | .bl false=>.ok (.bl false)
 | _=>.bad
def zG{K:aD}{r2 r2':R2}{g g':D->D->R D}(ho:uN K C r2 g .new)(Cq:uN K C r2' g' .new):∀σ H Q,tD K C G0 Γ E (nt g g' fa fb fc) .new σ H Q->Gb r2 r2' (tD K C G0 Γ E fa kj) (tD K C G0 Γ E fb C8) (tD K C G0 Γ E fc EI) σ H Q:=fun σ H Q zz=>by
 refine di zz fun A st r q=>?_;clear zz;refine⟨A,st,r,?_⟩;unfold nt R.bind at q;cases ha:fa st with
 | bad=>rw[ha]at q;exact q
 | ex c p=>rw[ha]at q;exact q
 | ok a=>
  rw[ha]at q;intro x H1 e1 w1;refine⟨A,st,r.mono e1,?_⟩;dsimp only at q;cases hb:fb st with
  | bad=>rw[hb]at q;exact q
  | ex c p=>rw[hb]at q;exact fun H' e'=>q H' (e1.trans e')
  | ok b=>
   rw[hb]at q;intro y H2 e2 w2;dsimp only at q;have nj:=e1.trans e2;refine ho G0 Γ (E σ) σ A st H2 a b x y _ (r.mono nj) (w1.rep.same e2 _) w2.rep ?_;cases hg:g a b with
   | bad=>rw[hg]at q;exact q
   | ex c p=>rw[hg]at q;exact fun H' e'=>q H' (nj.trans e')
   | ok z=>
    rw[hg]at q;cases z with
    | bl k=>
     intro v H3 e3 w3;refine⟨k,vbl w3,?_⟩;have u0:=nj.trans e3;cases k with
     | false=>rw[aX0 iS];exact q _ H3 u0 (.flat r u0 (by rw[gw] <;> simp) Df _)
     | true=>
      rw[aW9 rfl];refine⟨A,st,r.mono u0,?_⟩;dsimp only at q;cases hc:fc st with
      | bad=>rw[hc]at q;exact q
      | ex c p=>rw[hc]at q;exact fun H' e'=>q H' (u0.trans e')
      | ok c=>
       rw[hc]at q;intro w' H4 e4 w4;dsimp only at q;refine Cq G0 Γ (E σ) σ A st H4 b c y w' Q (r.mono (u0.trans e4)) (w2.rep.same (e3.trans e4) _) w4.rep ?_;cases OB:g' b c with
       | bad=>rw[OB]at q;exact q
       | ex c p=>rw[OB]at q;exact fun H' e'=>q H' ((u0.trans e4).trans e')
       | ok d=>rw[OB]at q;exact fun v H' e' w=>q v H' ((u0.trans e4).trans e') (w.early (u0.trans e4))
    | _=>exact q.elim
def Dj(hr:pQ X (gU op) r2)(Pa:pQ X (gU NN) r2')(ho:uN X.K C r2 g .new)(Cq:uN X.K C r2' g' .new)(ha:PE X a (tD X.K C G0 Γ E fa kj))(hb:PE X b (tD X.K C G0 Γ E fb C8))(hc:PE X c (tD X.K C G0 Γ E fc EI))
  (hm:autoParam (lastMarks [op,NN] [b,c]=false) zu5._auto_1):PE X (.Compare a [op,NN] [b,c] pos) (tD X.K C G0 Γ E (nt g g' fa fb fc) .new):=(NL hr Pa ha hb hc hm).imp (zG ho Cq)
def Pb(hr:pQ X (gU op) r2)(Pa:pQ X (gU NN) r2')(ho:uN X.K C r2 g .new)(Cq:uN X.K C r2' g' .new)(ha:PE X a (tD X.K C G0 Γ E fa kj))(hb:PE X b (tD X.K C G0 Γ E fb C8))(hc:PE X c (tD X.K C G0 Γ E fc EI))
  (hm:autoParam (lastMarks [op,NN] [b,c]=false) zu5._auto_1):PT X (.Compare a [op,NN] [b,c] pos) (vd X.K C G0 Γ E (nt g g' fa fb fc)):=(NO hr Pa ha hb hc hm).imp fun σ H Q zz=>by
 refine di zz fun A st r q=>?_;clear zz;refine zG ho Cq σ H _ ⟨A,st,r,?_⟩;cases hf:nt g g' fa fb fc st with
 | bad=>rw[hf]at q;exact q
 | ex c p=>rw[hf]at q;exact q
 | ok d=>
  rw[hf]at q;cases d with
  | bl b=>exact fun v H' e' w=>⟨b,vbl w,q H' e'⟩
  | _=>exact q.elim
def YO:D->R D:=fun a=>match a with | .int i=>.ok (.int (-i))|_=>.bad
def YQ(ha:PE X a (tD X.K C G0 Γ E fa kj)):PE X (.UnaryOp .USub a pos) (tD X.K C G0 Γ E (rO YO fa) .new):=(ai7 XG ha).imp fun σ H Q zz=>by
 refine di zz fun A st r q=>?_;clear zz;refine⟨A,st,r,?_⟩;unfold rO R.bind at q;cases ha:fa st with
 | bad=>rw[ha]at q;exact q
 | ex c p=>rw[ha]at q;exact q
 | ok a=>
  rw[ha]at q;intro x H1 e1 w1;cases a with
  | int i=>have:=w1.rep;rw[Rep]at this;exact⟨i,this,q _ H1 e1 (.flat r e1 (by rw[gw] <;> simp) xo _)⟩
  | _=>exact q.elim
def cutD(ds:List D)(lo hi:Option Int):List D:=(ds.drop (HT.zf ds.length 0 lo)).take (HT.zf ds.length ds.length hi-HT.zf ds.length 0 lo)
def mz(o:Option DF):gM->R (Option Int):=fun st=>match o with
 | none=>.ok none
 | some f=>(f st).bind fun d=>match d with | .int i=>.ok (some i)|_=>.bad
def Lw(fa:DF)(lo hi:Option DF):DF:=fun st=>(fa st).bind fun a=>(mz lo st).bind fun l=>(mz hi st).bind fun h=>match a with
 | .lst ds=>if dB ds=true then .ok (.lst (cutD ds l h))else .bad
 | _=>.bad
def tDO(K:aD)(C:Cfg)(G0:Hp)(Γ:List SK)(E:L2.St->XK)(o:Option DF):TO:=fun σ H Q=>∃A st,RS K C G0 Γ σ H A st/\match mz o st with
 | .ok i=>∀H',aE H H'->Q i H'
 | .ex c p=>∀H',aE H H'->K2 (E σ) c p H'
 | .bad=>False
def TZ:PO X none (tDO X.K C G0 Γ E none):=fun ao s σ H Q I l6=>l6.elim fun A pR=>pR.elim fun st uV=>uV.elim fun r q=>Sv ao s σ H Q I (q H (.refl _))
def II(h:PE X e (tD X.K C G0 Γ E f κ)):PO X (some e) (tDO X.K C G0 Γ E (some f)):=fun ao s σ H Q I ED=>ED.elim fun A Gp=>Gp.elim fun st EE=>EE.elim fun r q=>Sw h ao s σ H Q I ⟨A,st,r,by
 unfold mz R.bind at q;cases hf:f st with
 | bad=>simp only[hf]at q
 | ex c p=>simp only[hf]at q;exact q
 | ok d=>
  simp only[hf]at q;cases d with
  | int i=>exact fun v H' e' w=>⟨i,by have:=w.rep;rw[Rep]at this;exact this,q H' e'⟩
  | _=>exact q.elim⟩
def Pc{K:aD}{H:Hp}{ds:List D}{xs:List V}{lo hi:Option Int}(q:aH K C H ds xs):aH K C H (cutD ds lo hi) (JF xs lo hi):=by
 unfold cutD JF;rw[q.len];exact(q.drop _).take _
def K4:∀{ds:List D} (n:Nat),dB ds=true->dB (ds.take n)=true:=fun n h=>eY fun d hd=>jy h (nU hd)
def K5:∀{ds:List D} (n:Nat),dB ds=true->dB (ds.drop n)=true:=fun n h=>eY fun d hd=>jy h (t6 hd)
def Pe{ds es:List D}(h:dB ds=true)(h':dB es=true):dB (ds++es)=true:=eY fun d hd=>(gh.mp hd).elim (jy h) (jy h')
def Pf{lo hi:Option bg}{fl fh:Option DF}{p2:Pos}(he:PE X e (tD X.K C G0 Γ E fa kj))(hl:PO X lo (tDO X.K C G0 Γ E fl))(hu:PO X hi (tDO X.K C G0 Γ E fh)):PE X (.Subscript e (.Slice lo hi none p2) pos) (tD X.K C G0 Γ E (Lw fa fl fh) .new):=(NT SE he hl hu).imp fun σ H Q zz=>by
 refine di zz fun A st r q=>?_;clear zz;refine⟨A,st,r,?_⟩;unfold Lw R.bind at q;cases ha:fa st with
 | bad=>rw[ha]at q;exact q
 | ex c p=>rw[ha]at q;exact q
 | ok a=>
  rw[ha]at q;intro x H1 e1 w1;refine⟨A,st,r.mono e1,?_⟩;dsimp only at q;cases hb:mz fl st with
  | bad=>rw[hb]at q;exact q
  | ex c p=>rw[hb]at q;exact fun H' e'=>q H' (e1.trans e')
  | ok l=>
   rw[hb]at q;intro H2 e2;refine⟨A,st,r.mono (e1.trans e2),?_⟩;dsimp only at q;cases hc:mz fh st with
   | bad=>rw[hc]at q;exact q
   | ex c p=>rw[hc]at q;exact fun H' e'=>q H' ((e1.trans e2).trans e')
   | ok h=>
    rw[hc]at q;intro H3 e3;dsimp only at q;cases a with
    | lst ds=>dsimp only at q;by_cases n:dB ds=true;rw[aW9 n]at q;refine bw ((w1.rep.same (e2.trans e3) _).items) fun p xs b9 h2 h3=>?_;obtain rfl:=b9;have u0:=(e1.trans e2).trans e3;refine⟨p,xs,rfl,h2,fun l' D3=>q _ _ (u0.trans (cH D3)) (.lst r u0 D3 ?_)⟩;exact(Pc h3).part (.nw u0) _ (K4 _ (K5 _ n));rw[aX0 n]at q;exact q.elim
    | _=>exact q.elim
def WI(K:aD):R2:=fun x y H Q=>∃l b xs zs,x = .ref l/\y = .ref b/\k9 K H l xs/\k9 K H b zs/\xs.length+zs.length<=cG/\∀p,H p=none->Q (.ref p) (upd H p (.lst (xs++zs)))
def U0:pQ X (binaryOp .Add) (WI X.K):=by
 intro ao s σ H x y v u Q I rx ry h;refine aD9 h fun l b xs zs NV SD hH hB hz q=>?_;clear h;obtain rfl:=NV;obtain rfl:=SD;cases rx;cases ry;refine cC (I.list hH) fun bx r p1 _=>?_;refine cC (I.list hB) fun YR r2 p2 _=>?_;obtain⟨⟨cls,dd,data,sl⟩,ho,hc,n,hd⟩:=id p1.isList;obtain⟨⟨aq1,dd2,data2,sl2⟩,Ws,Ls,n2,hd2⟩:=id p2.isList;simp only at hc hd Ls hd2;subst hc hd Ls hd2;have l1:=r.length;have l2:=r2.length;refine concat_meets ⟨_,ho,rfl⟩ ⟨_,Ws,rfl⟩ noFill_list_add seq_list_add PySem.F.slot_list_add PySem.F.entry_list_add (PySem.F.args_list_add_2 _ _) (list_addW l b bx.toArray YR.toArray n n2 dd dd2 sl sl2 (by simp;lia)) ⟨ho,Ws,?_⟩;have ea:bx.toArray++YR.toArray=(bx++YR).toArray:=by simp
 rw[ea];exact⟨.ref _,_,I.aL2 (t':=s.toks) (r.append r2) (by rw[bU];lia),rfl,q _ I.fresh⟩
def pI:D->D->R D:=fun a b=>match a,b with
 | .lst ds,.lst es=>if(dB ds&&dB es&&decide (ds.length+es.length<=5000))=true then .ok (.lst (ds++es))else .bad
 | _,_=>.bad
def U1{K:aD}:uN K C (WI K) pI .new:=fun G0 Γ E σ A st H a b x y Q r qa qb q=>by
 cases hg:pI a b with
 | bad=>rw[hg]at q;exact q.elim
 | ex c p=>unfold pI at hg;split at hg <;> (try split at hg) <;> cases hg
 | ok d=>
  rw[hg]at q;unfold pI at hg;split at hg;rename_i ds es;split at hg;rename_i hc;cases hg;simp only[bV,aX4]at hc;refine bw qa.items fun p xs b9 h2 h3=>?_;obtain rfl:=b9;refine bw qb.items fun p' ys b9 Gx h3'=>?_;obtain rfl:=b9;refine⟨p,p',xs,ys,rfl,rfl,h2,Gx,?_,fun l hl=>q _ _ (cH hl) (.lst r (.refl _) hl ?_)⟩;rw[h3.len,h3'.len];have:5000<=cG:=by rw[fQ];decide
  lia;exact(h3.app h3').part (.nw (.refl _)) _ (Pe hc.1.1 hc.1.2);cases hg;cases hg
def K6:D->Option (List Int)
 | .tup ds=>ds.mapM fun d=>match d with | .int i=>some i|_=>none
 | _=>none
theorem U3:∀{d:D} {ns:List Int},K6 d=some ns->d = .tup (ns.map D.int)
 | .tup ds,ns,h=>by
  rw[K6]at h;congr 1;revert ns;induction ds with
  | nil=>intro ns h;simp at h;subst h;rfl
  | cons d ds ih=>
   intro ns h;rw[Fx]at h;cases d with
   | int i=>
    dsimp only at h;cases hm:ds.mapM fun d=>match d with | .int i=>some i|_=>(none:Option Int)with
    | none=>rw[hm]at h;cases h
    | some ms=>rw[hm]at h;have h':i::ms=ns:=eN h;subst h';rw[aW,<- ih ms hm]
   | _=>cases h
def zH(ds:List D):Option (List (List Int)):=ds.mapM K6
theorem Dk:∀{ds:List D} {jZ:List (List Int)},zH ds=some jZ->ds=jZ.map fun ns=>.tup (ns.map D.int)
 | [],jZ,h=>by
  have h':some []=some jZ:=h;cases h';rfl
 | d::ds,jZ,h=>by
  unfold zH at h;rw[Fx]at h;cases hd:K6 d with
  | none=>rw[hd]at h;cases h
  | some ns=>
   rw[hd]at h;cases hm:ds.mapM K6 with
   | none=>rw[hm]at h;cases h
   | some ms=>rw[hm]at h;have h':ns::ms=jZ:=eN h;subst h';rw[aW,<- Dk (ds:=ds) hm,U3 hd]
def mC(jZ:List (List Int)):Bool:=match jZ with | []=>true|ns::_=>decide (ns.length≠0)&&jZ.all fun ms=>decide (ms.length=ns.length)
def Dl(h:mC jZ=true):Rows jZ:=by
 cases jZ with
 | nil=>exact⟨0,fun ns hm=>by cases hm⟩
 | cons ns jZ=>
  unfold mC at h;rw[bV]at h;have h1:ns.length≠0:=by simpa using h.1
  refine⟨ns.length-1,fun ms hm=>?_⟩;have:=fU.mp h.2 ms hm;have:ms.length=ns.length:=by simpa using this
  lia
def pJ(ns:List Int):D:=.tup (ns.map D.int)
def U4(ns:List Int):gw (pJ ns)=true:=by
 unfold pJ;rw[gw];exact eY fun d hd=>by refine aO (aL.mp hd) fun n _ b9=>?_;obtain rfl:=b9;rw[gw] <;> simp
def K7(jZ:List (List Int)):dB (jZ.map pJ)=true:=eY fun d hd=>by
 refine aO (aL.mp hd) fun n _ b9=>?_;obtain rfl:=b9;exact U4 n
def aT9:List D->R D:=fun ds=>match ds with
 | [.lst es]=>match zH es with
  | some jZ=>if(mC jZ&&decide (jZ.length<64))=true then .ok (.lst (fC es))else .bad
  | none=>.bad
 | _=>.bad
def dd{α:Type}[DecidableEq α]:List α->List α
 | []=>[]
 | x::xs=>if x∈xs then dd xs else x::dd xs
theorem u5[DecidableEq α]:∀{xs:List α},x∈dd xs↔x∈xs
 | []=>Iff.rfl
 | y::ys=>by
  rw[dd];split;rename_i h;rw[u5,bR];constructor;exact .inr;rintro(rfl|q);exact h;exact q;rw[bR,bR,u5]
theorem rR[DecidableEq α]:∀(xs:List α),(dd xs).Nodup
 | []=>.nil
 | y::ys=>by
  rw[dd];split;exact rR ys;rename_i h;exact iP.mpr ⟨fun q=>h (u5.mp q),rR ys⟩
def kL:D->R D:=fun a=>match a with
 | .lst es=>match zH es with
  | some jZ=>if(mC jZ&&decide (jZ.length<=50))=true then .ok (.lst (fC ((dd jZ).map pJ)))else .bad
  | none=>.bad
 | _=>.bad
def Dp{es:List D}(hs:∀a∈ds,∀b∈ds,gD a b=true)(hp:es.Perm ds):fC es=fC ds:=j5 hs ((cJ es).trans hp) (mq es)
def YS:kZ "set"=some (.type "set"):=by decide +kernel
def zI:kZ "sorted"=some (.builtin "sorted"):=by decide +kernel
def Pg(h:Rows jZ):∀a∈jZ.map pJ,∀b∈jZ.map pJ,gD a b=true:=fun a ha b hb=>by
 obtain⟨n,hn⟩:=h;refine aO (aL.mp ha) fun x hx b9=>?_;obtain rfl:=b9;refine aO (aL.mp hb) fun y hy b9=>?_;obtain rfl:=b9;unfold pJ;rw[gD];exact tT (by rw[hn x hx,hn y hy])
def YT(l:List (List Int)):(dd l).length<=l.length:=by
 induction l with
 | nil=>exact aZ _
 | cons x l ih=>rw[dd];split;exact Nat.le_succ_of_le ih;rw[cK,cK];lia
def GS(hh:X.A.handled=none)(hu:X.A.units+64<cLine)(hm:X.mg "sorted"=none)(hm2:X.mg "set"=none)(he:PE X e (tD X.K C G0 Γ E f κ))(hg:autoParam (Gl X "sorted") zu0._auto_1)(hg2:autoParam (Gl X "set") zu0._auto_1)
  (h1:autoParam (bH [Expr.Call (.Name "set" p2) [e] [] U5] X.env=[(false,eval (.Call (.Name "set" p2) [e] [] U5) X.env)]) zu0._auto_1) (h2:autoParam (bH [e] X.env=[(false,eval e X.env)]) zu0._auto_1) :
  PE X (.Call (.Name "sorted" p1) [.Call (.Name "set" p2) [e] [] U5] [] pos) (tD X.K C G0 Γ E (rO kL f) .new):=by
 have P1:PE X (.Call (.Name "set" p2) [e] [] U5) (tCB (ID X C) (wJ (tD X.K C G0 Γ E f κ) JD)):=p9 (JX hh hu) hg2 hm2 YS (iY he n5 h2) (by decide) (by decide) h2;have P2:PE X (.Call (.Name "sorted" p1) [.Call (.Name "set" p2) [e] [] U5] [] pos) (tCB (GI X C) (wJ (tCB (ID X C) (wJ (tD X.K C G0 Γ E f κ) JD)) JD)):=oF (Bh hh hu) hg hm zI (iY P1 n5 h1) (by decide) (by decide) h1;refine P2.imp fun σ H Q l6=>l6.elim fun A pR=>pR.elim fun st uV=>uV.elim fun r q=>⟨A,st,r,?_⟩
 unfold rO R.bind at q;cases hf:f st with
 | bad=>rw[hf]at q;exact q
 | ex c p=>rw[hf]at q;exact q
 | ok d=>
  rw[hf]at q;dsimp only at q;intro v H1 e1 w1;show ID X C [v] H1 (fun x H2=>GI X C [x] H2 Q);cases hg:kL d with
  | bad=>rw[hg]at q;exact q.elim
  | ex c p=>unfold kL at hg;split at hg <;> (try split at hg) <;> (try split at hg) <;> cases hg
  | ok d'=>
   rw[hg]at q;unfold kL at hg;split at hg;rename_i es;split at hg;rename_i jZ hr;split at hg;rename_i hc;cases hg;simp only[bV,aX4]at hc;have he:=Dk hr;have YU:=Dl hc.1;refine⟨v,jZ,rfl,by rw[<- he];exact w1.rep,hc.2,fun p zs hp Be nod mm=>?_⟩;have pz:(zs.map (·.1)).Perm (dd jZ):=(Fy nod (rR jZ)).mpr fun ns=>by rw[mm ns,u5]
   have hl:zs.length<=50:=by have h1:=pz.length_eq;rw[bf]at h1;have:=YT jZ;lia
   have hR:Rows (zs.map (·.1)):=by obtain⟨n,hn⟩:=YU;exact⟨n,fun ns h=>hn ns ((mm ns).mp h)⟩
   have e2:aE H1 (upd H1 p (.ext (OM X.prog X.w p zs))):=cH hp;refine⟨p,zs,rfl,bS,fun z hz=>aE.tup e2 (Be z hz),hl,hR,fun p' ws Cr EG yx Sf=>?_⟩;have u0:=e1.trans e2;refine q _ _ (u0.trans (cH EG)) (.lst r u0 EG ?_);have hs:fC (Cr.map pJ)=fC ((dd jZ).map pJ):=Dp (Pg (by obtain⟨n,hn⟩:=YU;exact⟨n,fun ns h=>hn ns (u5.mp h)⟩)) ((yx.trans pz).map _);have rw2:aH X.K C (upd H1 p (.ext (OM X.prog X.w p zs))) (fC ((dd jZ).map pJ)) ws:=by rw[<- hs];exact Sf
   exact rw2.part (.nw u0) _ (eY fun d hd=>jy (K7 _) ((cJ _).mem_iff.mp hd));cases hg;cases hg;cases hg
def aW0(i:Nat)(fi f:DF):DS:=fun st=>match f st with
 | .ok d=>match st[i]? with
  | some (some (.lst ds))=>match fi st with
   | .ok (.int k)=>match RO ds.length k with
    | some j=>.nx (st.set i (some (.lst (ds.set j d))))
    | none=>.bad
   | .ok _=>.bad
   | .ex c p=>.ex c p st
   | .bad=>.bad
  | _=>.bad
 | .ex c p=>.ex c p st
 | .bad=>.bad
def yE(i j:Nat)(fs:DA):DS:=fun st=>match fs st with | .ok [a,b]=>.nx ((st.set i (some a)).set j (some b)) | .ok _=>.bad | .ex c p=>.ex c p st | .bad=>.bad
def GU{kt k2 Xs}(hc:X.calm=true)(hN:X.N.Nodup)(ha:PA X [a,b] (EH X.K C G0 Γ E fs .new))(mK:i≠j)(hk:autoParam (Γ[i]?=some k) zu0._auto_1)(hk':autoParam (Γ[j]?=some k') zu0._auto_1)
  (hl:autoParam (k.takes .old=true) zu0._auto_1) (D3:autoParam (k'.takes .old=true) zu0._auto_1) (hi:autoParam (X.N[i]?=some x) zu0._auto_1) (hj:autoParam (X.N[j]?=some y) zu0._auto_1) (hx:autoParam (X.env.scope.names.lookup x=some .local) zu0._auto_1) (hy:autoParam (X.env.scope.names.lookup y=some .local) zu0._auto_1)
  (hw:autoParam (swappedStores [.Tuple [.Name x px,.Name y py] kt pt] (.Tuple [a,b] k2 Xs) X.env=pure (some [x,y])) zu0._auto_1)
  (hs:autoParam (swapsWithSole [.Tuple [.Name x px,.Name y py] kt pt] (.Tuple [a,b] k2 Xs) pos.line X.env=pure false) zu0._auto_1) :
  PS X (.Assign [.Tuple [.Name x px,.Name y py] kt pt] (.Tuple [a,b] k2 Xs) pos) (nK X.K C G0 Γ E jq (yE i j fs)):=(Xr hc hN hi hj mK hx hy ha hw hs).imp fun D σ H zz=>by
 refine di zz fun A st r q=>?_;clear zz;refine⟨A,st,r,?_⟩;unfold yE at q;cases hf:fs st with
 | bad=>rw[hf]at q;exact q
 | ex c p=>rw[hf]at q;exact fun H' e'=>q σ H' A (r.mono e') (aI e')
 | ok ds=>
  rw[hf]at q;match ds,q with
  | [a,b],q=>intro vs H1 e1 w;rw[aH]at w;obtain⟨v,r1,rfl,wa,w⟩:=w;obtain⟨v',rfl,wb⟩:=oU w;refine⟨v,v',rfl,?_⟩;have wa':Rep X.K C (er H1 A) a v:=wa.same (r.xm e1) _;have wb':Rep X.K C (er H1 A) b v':=wb.same (r.xm e1) _;refine cC ((r.mono e1).set (.refl _) hk hl (κ:=.old) wa') fun A1 s1 ee1 _=>?_;refine cC (s1.set (.refl _) hk' D3 (κ:=.old) (wb'.same ee1 _)) fun A2 s2 ee2 _=>?_;exact q _ _ A2 s2 (((aI e1).trans ee1).trans ee2)
  | [],q=>exact q.elim
  | [_],q=>exact q.elim
  | _::_::_::_,q=>exact q.elim
def uB(bind:DB)(f:DF):DS:=fun st=>match f st with | .ok d=>(match bind d st with|some st'=>.nx st'|none=>.bad) | .ex c p=>.ex c p st | .bad=>.bad
def IJ{tg:bg}{g:TG}{bind:DB}(he:PE X e (tD X.K C G0 Γ E f κ))(l:κ.le .old=true)(hg:PG X tg g)(hB:pT X.K C G0 Γ g bind)(hs:autoParam (swapsWithSole [tg] e pos.line X.env=pure false) zu0._auto_1)(hw:autoParam (swappedStores [tg] e X.env=pure none) zu0._auto_1)
  (h1:autoParam ((qQ [tg] X.env).map (·.2)=[assign tg X.env]) zu0._auto_1):PS X (.Assign [tg] e pos) (nK X.K C G0 Γ E jq (uB bind f)):=(G7 he hg hs hw h1).imp fun D σ H zz=>by
 refine di zz fun A st r q=>?_;clear zz;refine⟨A,st,r,?_⟩;unfold uB at q;cases hf:f st with
 | bad=>rw[hf]at q;exact q
 | ex c p=>rw[hf]at q;exact fun H' e'=>q σ H' A (r.mono e') (aI e')
 | ok d=>
  rw[hf]at q;dsimp only at q;intro v H1 e1 w;cases hb:bind d st with
  | none=>rw[hb]at q;exact q.elim
  | some st'=>rw[hb]at q;exact hB σ H1 A st st' d v _ (r.mono e1) (w.le r e1 (κ':=.old) l) hb fun dF A' r' e' _=>q dF H1 A' r' ((aI e1).trans e')
def yF(X:Cx)(P:L2.St->Prop)(n:Nat)(e:bg):Prop:=∀(ao:List (av×Obj)) (s:ay) (σ:L2.St) (H:Hp) (Q:au->ay->Prop) (Ex:au->ay->Prop),L2.Inv X ao σ H s->P σ->(∀x t s',L2.Inv X ao σ H s'->x.length<=n->Q (.str x t) s')->aA (aC X.prog X.w) X.A (eval e X.env) Q Ex s
def zJ{x:Str}{j}(h:autoParam (x.length<=n) zu1._auto_1):yF X P n (.Constant (.str x) j pos):=fun ao s σ H Q Ex I p q=>W0 (q _ _ _ (I.tok _) h)
def xw(hm:X.mg x=some (.int i t))(hs:i.natAbs.log2<1920)(hl:(toString i:Str).length<=n)(hg:autoParam (Gl X x) zu0._auto_1)(hd:autoParam ((x==("__debug__" : Str))=false) zu1._auto_1):yF X P n (.FormattedValue (.Name x p) (-1) none pos):=fun ao s σ H Q Ex I pp q=>
 FormattedValue_plain (qW I hg hm (formatField_int_small hs (q _ _ _ (I.tok _) hl)) hd)
end Dm
namespace Dm
open PySem PySem.Spec PyProof.Rows L2 PySem.W
def U6(c:av):Nat:=c+3
end Dm
namespace Dm
open PySem PySem.Spec PyProof.Rows L2
abbrev xx(X:Cx)(scope:i0)(cl:List (Str×av))(N':List Str)(fp:List av)(s:ay)(H:Hp)(L:av):Cx:=
 {X with N:=N',iU:=s,NB:=H,env:=compEnvC scope cl L X.env,outer:=X.stack,ex:=fp,fn:=fun _=>false,pn:=[],xe:=fun _ _=>False}
def Cap(X:Cx)(scope:i0)(cl:List (Str×av)):List (Nat×Str)->Prop
 | []=>True
 | (i,x)::r=>(X.N[i]?=some x/\X.env.kindOf x=some .cell/\cl.lookup x=X.env.cells.lookup x/\(relabel scope X.env).names.lookup x=some .cell)/\Cap X scope cl r
theorem Cap.get:∀{l:List (Nat×Str)} {p:Nat×Str},Cap X scope cl l->p∈l->X.N[p.1]?=some p.2/\X.env.kindOf p.2=some .cell/\cl.lookup p.2=X.env.cells.lookup p.2/\(relabel scope X.env).names.lookup p.2=some .cell
 | _::_,_,h,.head _=>h.1
 | _::_,_,h,.tail _ m=>h.2.get m
def YV(I:L2.Inv X ao σ H s)(hk:scope.kind = .function)(hL:s.heap.objs.size<=L)(zj:∀x c,cl.lookup x=some c->X.env.cells.lookup x=some c)(K8:∀x,((relabel scope X.env).names.lookup x=some .cell\/(relabel scope X.env).names.lookup x=some .free)->∃c,cl.lookup x=some c)
  (hf:∀b∈fp,AH X ao H b) (hfs:∀b∈fp,b<s.heap.objs.size):(xx X scope cl N' fp s H L).Ok where
 mod:=I.ok.mod
 kind:=hk
 glob:=I.ok.glob
 blt:=I.ok.blt
 above:=hL
 inj:=fun x y c h1 h2=>I.ok.inj x y c (zj _ _ h1) (zj _ _ h2)
 has:=K8
 cab:=fun x c z=>(nomatch z)
 hd:=I.ok.hd
 frames:=I.ok.frames
 NC:=.inl rfl
 exf:=fun b hb=>⟨dh (i6 (hfs b hb) hL),fun x c h=>(hf b hb).2.2.2.2.1 x c (zj _ _ h)⟩
 bs:=I.bs
 RL:=cj I.ok.RL I.sz
 Js:=fun b o e hb=>by
  rcases(hf b hb).2.2.2.1 with z|z;exact I.ok.Js b o e z;exact aY1 (i6 (bY e) (cj I.ok.RL z)) (qT _)
 Jt:=fun b hb z=>by
  rcases bR.mp (I.G5 b z)with e|e;exact(hf b hb).2.1 e;exact(hf b hb).2.2.1 e
 tH:=I.stack
 W9:=I.HY
def oW{α:Type}(k:Nat)(fr:List Nat)(σ:List (Option α)):List (Option α):=kr k none++fr.map fun i=>(σ[i]?).join
def Dq(h:(oW k fr σ)[j]?=some (some v)):∃i,k<=j/\fr[j-k]?=some i/\σ[i]?=some (some v):=by
 unfold oW at h;by_cases hj:j<k;rw[lN (by simpa using hj),sU,aW9 hj]at h;cases h;rw[jK (by simpa using lK hj),Fi,cY]at h;cases hi:fr[j-k]? with
 | none=>rw[hi]at h;cases h
 | some i=>
  rw[hi]at h;have h':(σ[i]?).join=some v:=eN h;refine⟨i,lK hj,rfl,?_⟩;cases hs:σ[i]? with
  | none=>rw[hs]at h';cases h'
  | some o=>rw[hs]at h';rw[show o=some v from h']
def Ph{fr:List Nat}{σ:List (Option α)}(hj:k<=j)(hi:fr[j-k]?=some i)(h:σ[i]?=some (some v)):(oW k fr σ)[j]?=some (some v):=by
 unfold oW;rw[jK (by simpa using hj),Fi,cY,hi];show some ((σ[i]?).join)=_;rw[h];rfl
def U7{s1:ay}{caps:List (Nat×Str)}(I:L2.Inv X ao σ H s)(ok:(xx X scope cl (gZ++caps.map (·.2)) fp s H L).Ok)(K9:Cap X scope cl caps)(zj:∀x c,cl.lookup x=some c->X.env.cells.lookup x=some c)
  (ho:s1.os=s.os) (hb:AllBare s1.gens) (un:Un (wu X.stack) fp H H1 s.heap s1.heap) (kc:∀b o,s.heap.get? b=some o->s1.heap.get? b=some o) (hn:s1.heap.Ns L m) (hL:H1 L=none) (HZ:∀x c,cl.lookup x=some c->H1 c=none) (eU:qL X.prog X.w H1 s1.heap) :
  L2.Inv (xx X scope cl (gZ++caps.map (·.2)) fp s H L) [] (oW gZ.length (caps.map (·.1)) σ) H1 s1:=by
 refine⟨ok,ho,hb,un,⟨m,hn,fun j x v h1 h2 h3=>?_⟩,fun x c h=>?_,hL,HZ,fun p hp=>(by cases hp),eU,(by unfold oW;simp)⟩;refine cC (Dq h2) fun i hj hi hs=>?_;rw[jK hj,cY]at h1;rw[cY]at hi;cases hc:caps[j-gZ.length]? with
 | none=>rw[hc]at h1;cases h1
 | some p=>rw[hc]at h1 hi;cases h1;cases hi;refine G3 (K9.get (jg hc)) fun c1 c2 c3 c4=>?_;refine aO I.loc fun m0 hn0 Yr=>?_;refine aO (Yr p.1 p.2 v c1 hs (.inr (.inl c2))) fun u ru lk=>?_;refine⟨u,ru,.inr ⟨.inl c4,?_⟩⟩;rcases lk with⟨z,_⟩|⟨_,c,e1,e2⟩;rw[c2]at z;cases z;refine aO e2 fun o e3 e4=>?_;clear e2;exact⟨c,c3.trans e1,o,kc _ _ e3,e4⟩
 obtain⟨v,q⟩:=I.cell x c (zj _ _ h);refine aO q fun o e3 e4=>?_;clear q;exact⟨v,o,kc _ _ e3,e4⟩
abbrev xy:L2.St->XK:=fun _ _ _ _=>False
def vg(h:l7 X xy e s):False:=by
 obtain⟨_,_,_,_,_,_,_,_,q,_⟩:=h;exact q
def iD(bind:DB)(test elt:DF):List D->gM->R (List D)
 | [],_=>.ok []
 | d::ds,st=>match bind d st with
  | none=>.bad
  | some jU=>match test jU with
   | .ok (.bl true)=>(match elt jU with
    | .ok e=>(match iD bind test elt ds jU with | .ok r=>.ok (e::r)|_=>.bad)
    | _=>.bad)
   | .ok (.bl false)=>iD bind test elt ds jU
   | _=>.bad
def Bq(Γ:List SK):Prop:=∀(i:Nat) (k:SK),Γ[i]?=some k->k=SK.par
section
variable {K:aD}{C:Cfg}{G0:Hp}{Γ:List SK}{σ:L2.St}{H:Hp}{A B:List av}{st:gM}
def GV(h:∀a∈B,a∈A):aE (er H A) (er H B):=fun b o e=>by
 by_cases ha:b∈A;rw[dH ha]at e;cases e;rw[aU ha]at e;rw[aU fun z=>ha (h b z)];exact e
def RS.at8(r:RS K C G0 Γ σ H A st)(AO:Bq Γ)(sub:∀a∈B,a∈A):RS K C G0 Γ σ H B st where
 base:=r.base.trans (GV sub)
 lists:=fun a m=>r.lists a (sub a m)
 len:=r.len
 slot:=fun i d h=>by
  refine bw (r.slot i d h) fun k v h1 h2 h3=>?_;obtain rfl:=AO i k h1;exact⟨.par,v,h1,h2,Rep.same (GV sub) _ h3⟩
 apart:=fun i j n m p ds es mK g1=>by have:=AO i _ g1;cases this
 gl:=r.gl
def RS.YW(r:RS K C G0 Γ σ H A st)(AO:Bq Γ)(ha:a∈A):RS K C G0 Γ σ (upd H a (.lst ys)) A st:=by
 have ee:er (upd H a (.lst ys)) A=er H A:=by funext b;by_cases mb:b∈A;rw[dH mb,dH mb];rw[aU mb,aU mb,aR (fun z:b=a=>mb (by rw[z];exact ha))]
 refine⟨by rw[ee];exact r.base,fun b m=>?_,r.len,fun i d h=>?_,fun i j n m p ds es mK g1=>(by have:=AO i _ g1;cases this),r.gl⟩;by_cases hb:b=a;subst hb;exact⟨_,bS,rfl⟩;rw[aR hb];exact r.lists b m;refine bw (r.slot i d h) fun k v h1 h2 h3=>?_;obtain rfl:=AO i k h1;exact⟨.par,v,h1,h2,by show Rep K C (er _ A) d v;rw[ee];exact h3⟩
end
def part(n:Bool)(H2:Hp)(acc:av)(B:List av)(H:Hp):Hp:=if n=true then nw H2 (er H [acc])else er H (acc::B)
def pC(e:aE H H'):aE (part n H2 acc B H) (part n H2 acc B H'):=by
 unfold part;cases n;exact aI e;exact bP (aI e)
def Pj:part n H2 acc B (upd H acc o)=part n H2 acc B H:=by
 have e:∀A:List av,acc∈A->er (upd H acc o) A=er H A:=fun A m=>by funext b;by_cases mb:b∈A;rw[dH mb,dH mb];rw[aU mb,aU mb,aR (fun z:b=acc=>mb (by rw[z];exact m))]
 unfold part;rw[e [acc] (.head _),e (acc::B) (.head _)]
def Ka{ft:DF}:∀(ao:List (av×Obj)) (s:ay) (σ:L2.St) (H:Hp) (Q:Bool->Hp->Prop),L2.Inv X ao σ H s->vd X.K C G0 Γ E (dC (.bl true)) σ H Q->
  aA (aC X.prog X.w) X.A (forIn ([]:List bg) true fun c r=>if r=true then do let ok <- isTrue c X.env (eval c X.env);pure (lS ok)else pure (lS r)) (TP X ao σ Q) X.xe s:=fun ao s σ H Q I l6=>l6.elim fun A pR=>pR.elim fun st uV=>uV.elim fun r q=>wpAny_tests_nil ⟨H,I,q H (.refl _)⟩
def ko(h:PT X c (vd X.K C G0 Γ E ft)):∀(ao:List (av×Obj)) (s:ay) (σ:L2.St) (H:Hp) (Q:Bool->Hp->Prop),L2.Inv X ao σ H s->vd X.K C G0 Γ E ft σ H Q->
  aA (aC X.prog X.w) X.A (forIn [c] true fun c r=>if r=true then do let ok <- isTrue c X.env (eval c X.env);pure (lS ok)else pure (lS r)) (TP X ao σ Q) X.xe s:=fun ao s σ H Q I q=>wpAny_tests_one (h ao s σ H Q I q)
section
variable {X:Cx}{C:Cfg}{G0:Hp}{Γ:List SK}{tg iter elt:bg}{ifs:List bg}{scope:i0}{pos:Pos}{fp:List av}{it acc:av}{tn:Nat->aQ->Prop}{J:It}{g:TG}{bind:DB}{ft fe:DF}{rS:Kd}{n:Bool}{H2:Hp}{B:List av}{ds total:List D}{R:Result->ay->Prop}
def xA(X:Cx)(C:Cfg)(G0:Hp)(Γ:List SK)(acc:av)(bind:DB)(ft fe:DF)(n:Bool)(H2:Hp)(B:List av)(ds total:List D)(i:Nat)(s:ay)(σ:L2.St)(H:Hp):Prop:=
 ∃st ys es,L2.Inv X [] σ H s/\H acc=some (.lst ys)/\RS X.K C G0 Γ σ H (acc::B) st/\aE H2 (er H [acc])/\(aH X.K C (part n H2 acc B H) es ys/\(n=true->Bk X.K C H2 (part n H2 acc B H) es ys/\Dst es ys))/\es.length<=i/\
  ∃rest,iD bind ft fe (ds.drop i) st = .ok rest/\es++rest=total
def Kc(T:Turn X.prog X.w X.K tg J fp it tn)(IK:X.calm=true)(hfp:∀b∈fp,b∈X.ex/\b≠X.env.locals/\b∉X.fs/\(∀x c,X.env.cells.lookup x=some c->c≠b))(hpn:X.pn=[])(AO:Bq Γ)(hJ:K3 X.K C B H2 J ds)(hB:pT X.K C G0 Γ g bind)(hG:PG (X.eT (l7 X xy)) tg g)
  (hT:∀(ao:List (av×Obj)) (s:ay) (σ:L2.St) (H:Hp) (Q:Bool->Hp->Prop),L2.Inv (X.eT (l7 X xy)) ao σ H s->vd X.K C G0 Γ xy ft σ H Q->
   aA (aC X.prog X.w) X.A (forIn ifs true fun c r=>if r=true then do let ok <- isTrue c X.env (eval c X.env);pure (lS ok)else pure (lS r)) (TP (X.eT (l7 X xy)) ao σ Q) (l7 X xy) s)
  (hE:PE (X.eT (l7 X xy)) elt (tD X.K C G0 Γ xy fe rS)) (hn:n=true->rS = .new) (wz:n=false->rS.le .old=true) (GW:H2 acc=none) (n8:ds.length<=5000)
  (fin:∀s σ H,xA X C G0 Γ acc bind ft fe n H2 B ds total ds.length s σ H->R (.ok .next) s) :
  ∀s σ H,xA X C G0 Γ acc bind ft fe n H2 B ds total 0 s σ H->tn 0 s.heap->(∀b∈fp,H b=none)->codeAny (aC X.prog X.w) X.A (.compLoop (.ListComp elt [⟨tg,iter,ifs,0⟩] scope pos) 0 (.ref it) (.ref acc) X.env) R s:=fun s0 σ0 H0 h0 t0 f0=>by
 refine codeAny_loop rfl (fun m s=>∃i σ H,m=ds.length-i/\i<=ds.length/\xA X C G0 Γ acc bind ft fe n H2 B ds total i s σ H/\tn i s.heap/\∀b∈fp,H b=none) (fun m s ED=>?_) ds.length ⟨0,σ0,H0,rfl,gI _,h0,t0,f0⟩;refine Cg ED fun i σ H hm hi iv htn hfn=>?_;clear ED;subst hm;show aA _ X.A ((compTurn (.ListComp elt [⟨tg,iter,ifs,0⟩] scope pos) 0 (.ref it) (.ref acc) X.env).onRaise (fun x=>do noteFrame x X.env;theTreesLotGoes x)) _ _ s;refine wpAny_noted ?_;rw[compTurn_list];obtain⟨st,ys,es,I,hH,r,e2,rp,hl,rest,mL,YX⟩:=id iv;have YY:∀{H':Hp},(∀b∈fp,H' b=none)->∀b∈fp,AH X [] H' b:=fun hn b hb=>⟨hn b hb,(hfp b hb).2.1,(hfp b hb).2.2.1,.inl (hfp b hb).1,(hfp b hb).2.2.2,fun p hp=>by rw[hpn]at hp;cases hp⟩
 have hJi:=hJ i H (acc::B) (fun b o e=>by
  by_cases hb:b∈B;rw[dH hb]at e;cases e;rw[aU hb]at e;have z:=e2 b o e;by_cases ha:b=acc;subst ha;rw[GW]at e;cases e;rw[aU (by simpa using ha)]at z;rw[aU (by simp[ha,hb])];exact z) (fun a m=>by obtain⟨xs,q,_⟩:=r.lists a m;rw[q];simp)
 cases hd:ds[i]? with
 | none=>have Wx:=mU.mp hd;obtain rfl:i=ds.length:=M7 hi Wx;refine ak (yX (ak (gR (T.done X rfl rfl rfl IK _ [] s σ H _ I (YY hfn) htn (hJi.2 hd)) (fun rr s1 Gp=>?_) fun _ _ h=>h)));obtain⟨hr,I1⟩:=Gp;subst hr;exact aB (fin s1 σ H ⟨st,ys,es,I1,hH,r,e2,rp,hl,rest,mL,YX⟩)
 | some d=>
  have ie:i<ds.length:=(fR.mp hd).1;have hdr:ds.drop i=d::ds.drop (i+1):=by rw[sW ie];congr 1;exact(fR.mp hd).2
  rw[hdr,iD]at mL;obtain⟨go,yl⟩:=hJi.1 d hd;refine ak (yX (ak (gR (T.item X rfl rfl rfl IK i [] s σ H _ I (YY hfn) htn go) (fun rr s1 EE=>?_) fun _ _ h=>h)));refine aO EE fun u hr h1=>?_;clear EE;subst hr;refine ak (gR h1 (fun _ s3 Cu=>?_) fun _ _ h=>h);refine Jq Cu fun x H3 I3 rx hy tn3 RX=>?_;clear Cu;obtain⟨e3,wx⟩:=yl x H3 hy;have I3p:=I3.pinned (YY RX) (T.obj _ _ tn3);cases hb:bind d st with
  | none=>rw[hb]at mL;cases mL
  | some jU=>
   rw[hb]at mL;dsimp only at mL;have r3:=r.mono e3;refine ak (gR (hG _ s3 σ H3 x u (fun Lx H4=>H4=H3/\∃A4,RS X.K C G0 Γ Lx H3 A4 jU/\∀a∈acc::B,a∈A4) (I3p.eT _) rx (hB σ H3 (acc::B) st jU d x _ r3 wx hb fun Lx A4 r4 _ sb=>⟨rfl,A4,r4,sb⟩)) (fun _ s4 Ez=>?_) fun _ _ h=>(vg h).elim);obtain⟨Lx,H4,I4,hH4,A4,r4,sb⟩:=Ez;subst hH4;have r4':=r4.at8 AO sb;have hH3:H4 acc=some (.lst ys):=e3 _ _ hH;have again:∀{s9:ay} {σ9:L2.St} {H9:Hp},L2.Inv X ([]++wG fp s3.heap) σ9 H9 s9->xA X C G0 Γ acc bind ft fe n H2 B ds total (i+1) s9 σ9 H9->∃m,m<ds.length-i/\∃i' dF H',m=ds.length-i'/\i'<=ds.length/\xA X C G0 Γ acc bind ft fe n H2 B ds total i' s9 dF H'/\tn i' s9.heap/\∀b∈fp,H' b=none:=fun {s9 σ9 H9} I9 c9=>by refine⟨ds.length-(i+1),by lia,i+1,σ9,H9,rfl,ie,c9,T.keep _ _ _ tn3 fun b hb o e=>(I9.pin (b,o) (nG _ (nG _ (mZ hb e)))).1,fun b hb=>?_⟩;refine aO (T.obj _ _ tn3 b hb) fun o e _=>?_;exact(I9.pin (b,o) (nG _ (nG _ (mZ hb e)))).2.1
   have ep:aE H2 (er H4 [acc]):=e2.trans (aI e3);refine ak (gR (hT _ s4 Lx H4 (fun b H5=>aE H4 H5/\ft jU = .ok (.bl b)) I4 ⟨acc::B,jU,r4',?_⟩) (fun ok s5 EA=>EA.elim fun H5 wC=>wC.elim fun I5 AU=>AU.elim fun e5 eU=>?_) fun _ _ h=>(vg h).elim);cases hf:ft jU with
   | bad=>rw[hf]at mL;cases mL
   | ex c p=>rw[hf]at mL;cases mL
   | ok t=>
    rw[hf]at mL;cases t with
    | bl b=>exact fun H' e'=>⟨e',rfl⟩
    | _=>cases mL
   rw[eU]at mL;have ep5:=ep.trans (aI e5);cases ok with
   | false=>dsimp only at mL;exact aB ⟨rfl,again I5.iW ⟨jU,ys,es,(I5.iW).qU (fun p hp=>by cases hp),e5 _ _ hH3,r4'.mono e5,ep5,⟨rp.1.same (pC (e3.trans e5)) _,fun z=>⟨(rp.2 z).1.mono (pC (e3.trans e5)),(rp.2 z).2⟩⟩,by lia,rest,mL,YX⟩⟩
   | true=>
    dsimp only at mL;cases hfe:fe jU with
    | bad=>rw[hfe]at mL;cases mL
    | ex c p=>rw[hfe]at mL;cases mL
    | ok de=>
     rw[hfe]at mL;dsimp only at mL;refine ak (ak (gR (hE _ s5 Lx H5 (fun v H6=>aE H5 H6/\Val X.K C rS G0 (acc::B) H5 H6 de v) I5 ⟨acc::B,jU,r4'.mono e5,?_⟩) (fun ue s6 AV=>AV.elim fun v AW=>AW.elim fun H6 Gq=>Gq.elim fun I6 O7=>O7.elim fun rv O8=>O8.elim fun e6 wv=>?_) fun _ _ h=>(vg h).elim));rw[hfe];exact fun v H' e' w=>⟨e',w⟩
     have e56:=e5.trans e6;have hH6:H6 acc=some (.lst ys):=e56 _ _ hH3;have sn:aE (nw H5 H6) (nw H2 (er H6 [acc])):=fun b o z=>by
      unfold nw at z;split at z;rename_i kk;have hb:b≠acc:=fun w=>by subst w;rw[e5 _ _ hH3]at kk;cases kk
      show nw H2 (er H6 [acc]) b=_;unfold nw;rw[aW9 (nh (ep5.trans (aG _ _)) kk),aU (by simpa using hb)];exact z;cases z
     have wp:Rep X.K C (part n H2 acc B H6) de v/\(n=true->kK X.K C H2 (part n H2 acc B H6) de v):=by
      cases n with
      | true=>obtain rfl:=hn rfl;exact⟨wv.1.same sn _,fun _=>(wv.2.early (ep5.trans (aG _ _))).mono sn⟩
      | false=>exact⟨Val.le (r4'.mono e5) e6 (κ':=.old) (wz rfl) wv,fun z=>by cases z⟩
     refine ak (gR (zg (X:=X.eT (l7 X xy)) _ s6 Lx H6 (.ref acc) [v] (.ref acc) [ue] (fun z H7=>H7=upd H6 acc (.lst (ys++[v]))) I6 rfl (.cons rv .nil) ⟨acc,ys,v,rfl,rfl,hH6,?_,rfl⟩) (fun _ s7 O9=>O9.elim fun z YZ=>YZ.elim fun H7 Z0=>Z0.elim fun I7w ND=>ND.elim fun _ hH7=>?_) fun _ _ h=>(vg h).elim);rw[rp.1.len];have:5001<=cG:=by rw[fQ];decide
     lia;subst hH7;have I7:=I7w.iW;refine aB (aB ⟨rfl,again I7 ?_⟩);cases hgr:iD bind ft fe (ds.drop (i+1)) jU with
     | bad=>rw[hgr]at mL;cases mL
     | ex c p=>rw[hgr]at mL;cases mL
     | ok at9=>
      rw[hgr]at mL;cases mL;refine⟨jU,ys++[v],es++[de],I7.qU (fun p hp=>by cases hp),bS,((r4'.mono e56)).YW AO (.head _),?_,?_,by simp;lia,at9,hgr,by simpa using YX⟩;have:er (upd H6 acc (.lst (ys++[v]))) [acc]=er H6 [acc]:=by funext b;by_cases mb:b∈[acc];rw[dH mb,dH mb];rw[aU mb,aU mb,aR (by simpa using mb)]
      rw[this];exact ep.trans (aI e56);rw[Pj];exact⟨(rp.1.same (pC (e3.trans e56)) _).app (.cons wp.1 .nil),fun z=>⟨((rp.2 z).1.mono (pC (e3.trans e56))).snoc rp.1.len (wp.2 z),(rp.2 z).2.snoc rp.1.len fun od j d' hj od' hv=>by
       subst z;obtain rfl:=hn rfl;obtain⟨a,ra,ga,_⟩:=wv.2.1 od;subst ra;obtain⟨b,rb,_,ob⟩:=((rp.2 rfl).1 j d' _ hj hv).1 od';cases rb;obtain⟨o,q,_⟩:=ob.WC;have q:nw H2 (er H [acc]) a=some o:=q;have:=(e3.trans e5) _ _ (aG _ _ _ _ (cN _ _ _ _ q));rw[ga]at this;cases this⟩⟩
end
def zB(z:Bool)(A:List av):List av:=if z=true then A else []
def EJ(K:aD)(C:Cfg)(G0:Hp)(Γ:List SK)(E:L2.St->XK)(z:Bool)(gi:DI):TI:=fun σ H Rr=>∃A st,RS K C G0 Γ σ H A st/\match gi st with
 | .ok ds=>∀J H',aE H H'->K3 K C (zB z A) H' J ds->Rr J H'
 | .ex c p=>∀H',aE H H'->K2 (E σ) c p H'
 | .bad=>False
def _root_.L2.PI.imp(h:PI X tg e t)(i:∀σ H Q,t' σ H Q->t σ H Q):PI X tg e t':=fun ao s σ H Q I q=>h ao s σ H Q I (i σ H Q q)
def Pn:∀a∈zB z A,a∈A:=fun a h=>by unfold zB at h;cases z with|true=>exact h|false=>cases h
def Br(he:PE X iter (tD X.K C G0 Γ E f κ))(l:z=true->κ.le .old=true):PI X tg iter (EJ X.K C G0 Γ E z (fV f)):=(Ia he).imp fun σ H Q zz=>by
 refine di zz fun A st r q=>?_;clear zz;refine⟨A,st,r,?_⟩;unfold fV at q;cases hf:f st with
 | bad=>rw[hf]at q;exact q
 | ex c p=>rw[hf]at q;exact q
 | ok d=>
  rw[hf]at q;cases d with
  | lst ds=>
   dsimp only at q;intro v H1 e1 w;have w':Rep X.K C (er H1 (zB z A)) (.lst ds) v:=by
    unfold zB;cases z with
    | true=>exact w.le r e1 (κ':=.old) (l rfl)
    | false=>rw[aX0 (by decide),lU];exact w.rep
   rw[Rep]at w';refine bw w' fun a xs b9 h2 h3=>?_;clear w';obtain rfl:=b9;refine⟨a,rfl,⟨xs,(aG _ _).seq h2⟩,q _ _ e1 fun i H3 A3 e3 _=>⟨fun d hd=>?_,fun hd=>?_⟩⟩;refine aO (h3.get' hd) fun v hv rv=>?_;have s3:k9 X.K H3 a xs:=(e3.trans (aG _ _)).seq h2;refine⟨⟨xs,v,s3,hv⟩,fun x H' l6=>?_⟩;obtain⟨hH,hx⟩:=l6;subst hH;have:=hx xs s3;rw[hv]at this;cases this;exact⟨.refl _,rv.same ((aG _ _).trans e3) _⟩;exact⟨xs,(e3.trans (aG _ _)).seq h2,by rw[h3.len];exact mU.mp hd⟩
  | _=>exact q.elim
def Dr(I:L2.Inv X ao σ H s)(hH:H L=none)(hL:L≠X.env.locals)(hS:X.iU.heap.objs.size<=L)(hc:∀x c,X.env.cells.lookup x=some c->c≠L)(hp:∀p∈X.pn++ao,p.1≠L)(hs:gH L s.heap h'):L2.Inv X ao σ H {s with heap:=h'}:=by
 have kp:∀b o,b≠L->s.heap.get? b=some o->h'.get? b=some o:=fun b o hb e=>(hs.2 b hb).trans e;refine Inv.Ct I (s':={s with heap:=h'}) (ch:=[L]) rfl ⟨fun b o e n nf nx=>kp b o (by simpa using nx) e,fun b o e n nf nx=>⟨o.slots,kp b o (by simpa using nx) e⟩,fun b o e n nx=>n,fun b o e nx=>⟨o,kp b o (by simpa using nx) e⟩,fun b xs q=>q,fun b o u q=>q,fun _ _ _ e=>e⟩ (fun b u e=>?_) I.bare (fun b hb=>?_);refine(I.eU b u e).yt (fun c v uK q=>kp c v ?_ q) (fun _ q=>q) (fun _ _ q=>q) fun _ zo _ q=>q;rintro rfl;rcases uK with rfl|uK;rw[hH]at e;cases e;rw[hH]at uK;cases uK;obtain rfl:b=L:=by simpa using hb
 exact⟨.inr hS,hL,hc,hp⟩
section
variable {X:Cx}{C:Cfg}{G0:Hp}{Γ:List SK}{E0:au->ay->Prop}{ao:List (av×Obj)}{σ:L2.St}{H2:Hp}{s2:ay}{A:List av}{st:gM}{tg iter elt:bg}{ifs:List bg}{scope:i0}{cl:List (Str×av)}{pos:Pos}{fp:List av}{it:av}{tn:Nat->aQ->Prop}{J:It}{g:TG}{bind:DB}{ft fe:DF}{rS:Kd}{n z:Bool}{ds total:List D}{gZ:List Str}{caps:List (Nat×Str)}{RR:au->av->Result->ay->Prop}
def pU(m:Nat):List SK:=kr m .par
def zK(m:Nat):Bq (pU m):=fun i k h=>by unfold pU at h;rw[sU]at h;split at h <;> cases h;rfl
structure xB(X:Cx)(C:Cfg)(ao:List (av×Obj))(σ:L2.St)(n:Bool)(H2:Hp)(B:List av)(total:List D)(acc L:av)(s':ay)(H':Hp)(ys:List V):Prop where
 inv:L2.Inv X ao σ H' s'
 ns:∃m,s'.heap.Ns L m
 hL:H' L=none
 lL:L≠X.env.locals
 sL:X.iU.heap.objs.size<=L
 cL:∀x c,X.env.cells.lookup x=some c->c≠L
 pL:∀p∈X.pn++ao,p.1≠L
 new:H2 acc=none
 at':H' acc=some (.lst ys)
 same:aE H2 (er H' [acc])
 Z1:aH X.K C (part n H2 acc B H') total ys/\(n=true->Bk X.K C H2 (part n H2 acc B H') total ys/\Dst total ys)
def xC(I2:L2.Inv X ao σ H2 s2)(IK:X.calm=true)(r2:RS X.K C G0 Γ σ H2 A st)(T:Turn X.prog X.w X.K tg J fp it tn)(htn:tn 0 s2.heap)(hf:∀b∈fp,AH X ao H2 b)(hJ:K3 X.K C (zB z A) H2 J ds)(hz:z=true->∀p∈caps,Γ[p.1]?=some .par\/Γ[p.1]?=some .loc)
  (mL:iD bind ft fe ds (oW gZ.length (caps.map (·.1)) st) = .ok total) (n8:ds.length<=5000) (hk:scope.kind = .function) (wA:∀y∈scope.names,y.2≠ .cell) (zj:∀x c,cl.lookup x=some c->X.env.cells.lookup x=some c)
  (K8:∀x,((relabel scope X.env).names.lookup x=some .cell\/(relabel scope X.env).names.lookup x=some .free)->∃c,cl.lookup x=some c) (K9:Cap X scope cl caps)
  (hB:pT X.K C G0 (pU (gZ.length+caps.length)) g bind)
  (hG:∀s H L,PG ((xx X scope cl (gZ++caps.map (·.2)) fp s H L).eT (l7 (xx X scope cl (gZ++caps.map (·.2)) fp s H L) xy)) tg g)
  (hT:∀s0 H0 L (ao:List (av×Obj)) (s:ay) (σ:L2.St) (H:Hp) (Q:Bool->Hp->Prop),L2.Inv ((xx X scope cl (gZ++caps.map (·.2)) fp s0 H0 L).eT (l7 (xx X scope cl (gZ++caps.map (·.2)) fp s0 H0 L) xy)) ao σ H s->vd X.K C G0 (pU (gZ.length+caps.length)) xy ft σ H Q->
   aA (aC X.prog X.w) X.A (forIn ifs true fun c r=>if r=true then do let ok <- isTrue c (compEnvC scope cl L X.env) (eval c (compEnvC scope cl L X.env));pure (lS ok)else pure (lS r)) (TP ((xx X scope cl (gZ++caps.map (·.2)) fp s0 H0 L).eT (l7 (xx X scope cl (gZ++caps.map (·.2)) fp s0 H0 L) xy)) ao σ Q) (l7 (xx X scope cl (gZ++caps.map (·.2)) fp s0 H0 L) xy) s)
  (hE:∀s H L,PE ((xx X scope cl (gZ++caps.map (·.2)) fp s H L).eT (l7 (xx X scope cl (gZ++caps.map (·.2)) fp s H L) xy)) elt (tD X.K C G0 (pU (gZ.length+caps.length)) xy fe rS)) (hn:n=true->rS = .new) (wz:n=false->rS.le .old=true)
  (hRR:∀acc L s' H' ys,xB X C ao σ n H2 (zB z A) total acc L s' H' ys->RR (.ref acc) L (.ok .next) s') :
  aA (aC X.prog X.w) X.A (newList []) (fun acc Z2=>aA (aC X.prog X.w) X.A (newFunctionEnv scope X.env.globals cl [] X.env.qual none .none (some X.env)) (fun au1 aN8=>
   codeAny (aC X.prog X.w) X.A (.compStart (.ListComp elt [⟨tg,iter,ifs,0⟩] scope pos) 0 (.ref it) acc {au1 with scope:=relabel scope X.env}) (RR acc au1.locals) aN8) E0 Z2) E0 s2:=by
 refine nF (wpAny_newFunctionEnv wA (by intro y hy;simp at hy) (fun Ke GX Bs=>?_) hk);dsimp only at GX Bs ⊢;generalize hH2:s2.heap.push {cls:=.type "list",dict:=none,data:=.seq ([]:List au).toArray}=G2 at GX Bs ⊢;have hC:G2.objs.size=s2.heap.objs.size+1:=by rw[<- hH2,yZ]
 have hDC:s2.heap.objs.size≠G2.objs.size:=by rw[hC];exact dh (z4 _)
 have below:∀b,b<s2.heap.objs.size->b≠G2.objs.size/\b≠s2.heap.objs.size:=fun b hb=>⟨by rw[hC];exact dh (vG hb),dh hb⟩
 have old:∀b o,s2.heap.get? b=some o->Ke.get? b=some o:=fun b o e=>Bs.extBut b o (below b (bY e)).1 (bM _ (hH2▸bM _ e));have GW:Ke.get? s2.heap.objs.size=some {cls:=.type "list",data:=.seq ([]:List au).toArray 0}:=Bs.extBut _ _ hDC (bM _ (hH2▸dW _ rfl));have Kf:H2 s2.heap.objs.size=none:=I2.eU.fresh (aZ _);have Z3:s2.heap.objs.size<=G2.objs.size:=by rw[hC];exact vE _
 have nL:H2 G2.objs.size=none:=I2.eU.fresh Z3;have hfs:∀b∈fp,b<s2.heap.objs.size:=fun b hb=>by obtain⟨o,e,_⟩:=T.obj _ _ htn b hb;exact bY e
 have ok:=YV (N':=gZ++caps.map (·.2)) (L:=G2.objs.size) I2 hk Z3 zj K8 hf hfs;have un:Un (wu X.stack) fp H2 (upd H2 s2.heap.objs.size (.lst [])) s2.heap Ke:=Un.laid old (aZ _) Kf;have eU:qL X.prog X.w (upd H2 s2.heap.objs.size (.lst [])) Ke:=I2.eU.laid old (aZ _) ⟨gI _,[],0,.nil,GW⟩;have inn:L2.Inv (xx X scope cl (gZ++caps.map (·.2)) fp s2 H2 G2.objs.size) [] (oW gZ.length (caps.map (·.1)) σ) (upd H2 s2.heap.objs.size (.lst [])) {s2 with heap:=Ke,toks:=s2.toks+([]:List (Str×au)).length}:=by
  refine U7 I2 ok K9 zj rfl I2.bare un old GX (by rw[aR (dZ hDC)];exact nL) (fun x c h=>?_) eU;have hc:=I2.pP x c (zj _ _ h);have Ls:c≠s2.heap.objs.size:=fun w=>by obtain⟨v,q⟩:=I2.cell x c (zj _ _ h);exact aY1 q.lt (by rw[w];exact qT _)
  rw[aR Ls];exact hc
 have e2:aE H2 (upd H2 s2.heap.objs.size (.lst [])):=cH Kf;have ee:aE H2 (er (upd H2 s2.heap.objs.size (.lst [])) [s2.heap.objs.size]):=fun b o e=>by
  have:b≠s2.heap.objs.size:=fun w=>by rw[w,Kf]at e;cases e
  rw[aU (by simpa using this)];exact e2 b o e
 have eB:aE (er H2 (zB z A)) (er (upd H2 s2.heap.objs.size (.lst [])) (s2.heap.objs.size::zB z A)):=fun b o e=>by
  by_cases mb:b∈zB z A;rw[dH mb]at e;cases e;rw[aU mb]at e;have:b≠s2.heap.objs.size:=fun w=>by rw[w,Kf]at e;cases e
  rw[aU (by simp[this,mb])];exact e2 b o e
 have rin:RS X.K C G0 (pU (gZ.length+caps.length)) (oW gZ.length (caps.map (·.1)) σ) (upd H2 s2.heap.objs.size (.lst [])) (s2.heap.objs.size::zB z A) (oW gZ.length (caps.map (·.1)) st):=by
  refine⟨(r2.base.trans (GV Pn)).trans eB,fun a m=>?_,by unfold oW;simp,fun j d h=>?_,fun i j n' m' p GK es mK g1=>(by have:=zK _ i _ g1;cases this),r2.gl⟩;rcases bR.mp m with rfl|m;exact⟨_,bS,rfl⟩;obtain⟨o,q,hM⟩:=r2.lists a (Pn a m);exact⟨o,e2 _ _ q,hM⟩;refine cC (Dq h) fun i hj hi hs=>?_;refine bw (r2.slot i d hs) fun k v h1 h2 h3=>?_;have ie:j-gZ.length<caps.length:=by have:=(fR.mp hi).1;simpa using this
  refine⟨.par,v,?_,Ph hj hi h2,?_⟩;unfold pU;rw[sU,aW9 (by lia)];refine Rep.same eB _ ?_;refine aO (r2.read h1 hs) fun v' w1 w2=>?_;rw[h2]at w1;cases w1;unfold zB;cases z with
  | false=>rw[aX0 (by decide),lU];exact w2.rep
  | true=>
   rw[cY]at hi;cases hc:caps[j-gZ.length]? with
   | none=>rw[hc]at hi;cases hi
   | some p=>rw[hc]at hi;cases hi;rcases hz rfl p (jg hc)with q|q;rw[h1]at q;cases q;exact h3;rw[h1]at q;cases q;exact h3.1.same (cN _ _) _
 have loop:∀s3:ay,s3={s2 with heap:=Ke,toks:=s2.toks+([]:List (Str×au)).length}->
   codeAny (aC X.prog X.w) X.A (.compLoop (.ListComp elt [⟨tg,iter,ifs,0⟩] scope pos) 0 (.ref it) (.ref s2.heap.objs.size) (compEnvC scope cl G2.objs.size X.env)) (RR (.ref s2.heap.objs.size) G2.objs.size) s3:=by
  rintro s3 rfl
  refine Kc (X:=xx X scope cl (gZ++caps.map (·.2)) fp s2 H2 G2.objs.size) (C:=C) (G0:=G0) (B:=zB z A) (H2:=H2) (total:=total) T IK (fun b hb=>⟨hb,(ok.exf b hb).1,ok.Jt b hb,(ok.exf b hb).2⟩) rfl (zK _) hJ hB (hG _ _ _) (hT _ _ _) (hE _ _ _) hn wz Kf n8
   (fun s' dF H' uV=>uV.elim fun st' ED=>ED.elim fun ys Gp=>Gp.elim fun es EE=>EE.elim fun I' Cu=>Cu.elim fun hy Ez=>Ez.elim fun r' EA=>EA.elim fun e' wC=>wC.elim fun rp AU=>AU.elim fun hl AV=>AV.elim fun rest AW=>AW.elim fun hg ht=>?_) _ _ _ ⟨_,[],[],inn,bS,rin,ee,⟨.nil,fun _=>⟨fun j d v h=>(by cases h),fun j k d d' v _ h=>(by cases h)⟩⟩,gI _,total,by simpa using mL,rfl⟩ (T.keep _ _ _ htn fun b hb o e=>old b o e) (fun b hb=>by rw[aR (below b (hfs b hb)).2];exact(hf b hb).1)
  have hr:rest=[]:=by
   rw[Ao]at hg
   exact(R.ok.inj hg).symm
  subst hr
  rw[jJ]at ht
  subst ht
  have aN9:L2.Inv X ao σ H' s':=Inv.Ct I2 I'.os I'.base I'.eU I'.bare fun b hb=>⟨(hf b hb).2.2.2.1,(hf b hb).2.1,(hf b hb).2.2.2.2.1,(hf b hb).2.2.2.2.2⟩
  refine hRR _ _ s' H' ys ⟨aN9,I'.loc.imp fun m h=>h.1,I'.free,?_,cj I2.sz Z3,fun x c h w=>?_,fun p hp w=>?_,Kf,hy,e',rp⟩
  ·exact dZ (below _ I2.lt).1
  ·obtain⟨v,q⟩:=I2.cell x c h
   exact(below _ q.lt).1 w
  ·exact(below _ (bY (I2.pin p hp).1)).1 w
 exact codeAny_compStart_list (loop _ rfl) (T.self X.A 0 _ _ _ (T.keep _ _ _ htn fun b hb o e=>old b o e) (loop _ rfl))
end
def uC(z n:Bool):Kd:=if n=true then .new else if z=true then .tU else .jQ
def ir(gi:DI)(k:Nat)(fr:List Nat)(bind:DB)(ft fe:DF):DF:=fun st=>match gi st with
 | .ok ds=>if ds.length<=5000 then(match iD bind ft fe ds (oW k fr st)with | .ok es=>.ok (.lst es)|_=>.bad)else .bad
 | .ex c p=>.ex c p
 | .bad=>.bad
section
variable {X:Cx}{C:Cfg}{G0:Hp}{Γ:List SK}{E:L2.St->XK}{jq:Option Bool}{tg iter elt:bg}{ifs:List bg}{scope:i0}{cl:List (Str×av)}{pos:Pos}{g:TG}{bind:DB}{gi:DI}{ft fe:DF}{rS:Kd}{n z:Bool}{gZ:List Str}{caps:List (Nat×Str)}
def xB.val{ao:List (av×Obj)}{σ:L2.St}{H H2:Hp}{A:List av}{total:List D}{acc L:av}{s':ay}{H':Hp}{ys:List V}{st:gM}(b:xB X C ao σ n H2 (zB z A) total acc L s' H' ys)(r:RS X.K C G0 Γ σ H A st)(e:aE H H2):aE H H'/\Val X.K C (uC z n) G0 A H H' (.lst total) (.ref acc)/\(n=true->GJ X.K C H (nw H H') (.lst total) (.ref acc)):=by
 have e2:aE H2 H':=b.same.trans (aG _ _);have eH:=e.trans e2;refine⟨eH,?_,fun z=>Dc.deep fun ds w=>?_⟩;rotate_left;subst z;cases w;refine⟨acc,ys,rfl,by rw[jP (e.free b.new)];exact b.at',fun j d v h1 h2=>(((b.Z1.2 rfl).1 j d v h1 h2).early e).mono fun c o z=>?_,(b.Z1.2 rfl).2⟩;unfold part at z;rw[aW9 rfl]at z;by_cases hc:c=acc;subst hc;have:=cN _ _ _ _ z;rw[dH (.head _)]at this;cases this;rw[aU (by simpa using hc)];exact rM e _ _ (bP (aG _ _) _ _ z);have h0:H acc=none:=e.free b.new;have rp:=b.Z1.1;unfold uC;cases n with
 | true=>
  rw[aW9 rfl];have R0:aH X.K C (er (nw H H') [acc]) total ys:=rp.same (fun c o z=>by
   unfold part at z;rw[aW9 rfl]at z;by_cases hc:c=acc;subst hc;have:=cN _ _ _ _ z;rw[dH (.head _)]at this;cases this;rw[aU (by simpa using hc)];exact rM e _ _ (bP (aG _ _) _ _ z)) _
  have ha:nw H H' acc=some (.lst ys):=by rw[jP h0];exact b.at'
  exact⟨by rw[Rep];exact⟨acc,ys,rfl,.of ha,R0⟩,⟨fun _=>⟨acc,rfl,h0,ys,ha,R0⟩,.not rfl⟩⟩
 | false=>
  rw[aX0 (by decide)];cases z with
  | true=>
   rw[aW9 rfl];have hA:acc∉A:=fun m=>by obtain⟨xs,q,_⟩:=r.lists acc m;rw[h0]at q;cases q
   have R0:aH X.K C (er (er H' A) [acc]) total ys:=rp.same (fun c o z=>by
    unfold part zB at z;rw[aX0 (by decide),aW9 rfl]at z;by_cases hc:c∈acc::A;rw[dH hc]at z;cases z;rw[aU hc]at z;have h1:c≠acc:=fun w=>hc (by rw[w];exact .head _);have h2:c∉A:=fun w=>hc (.tail _ w);rw[aU (by simpa using h1),aU h2];exact z) _
   have ha:er H' A acc=some (.lst ys):=by rw[aU hA];exact b.at'
   exact⟨by rw[Rep];exact⟨acc,ys,rfl,.of ha,R0⟩,⟨fun _=>⟨acc,rfl,h0,ys,ha,R0⟩,.not rfl⟩⟩
  | false=>rw[aX0 (by decide)];show Rep X.K C H' _ _;rw[Rep];refine⟨acc,ys,rfl,.of b.at',rp.same (fun c o z=>?_) _⟩;unfold part zB at z;rw[aX0 (by decide),aX0 (by decide)]at z;exact z
structure Blk(X:Cx)(C:Cfg)(G0:Hp)(Γ:List SK)(tg elt:bg)(ifs:List bg)(scope:i0)(cl:List (Str×av))(g:TG)(bind:DB)(ft fe:DF)(rS:Kd)(n z:Bool)(gZ:List Str)(caps:List (Nat×Str)):Prop where
 calm:X.calm=true:=by rfl
 hk:scope.kind = .function:=by rfl
 wA:∀y∈scope.names,y.2≠ .cell:=by decide +kernel
 WJ:closureFor scope X.env=pure cl:=by with_unfolding_all rfl
 zj:∀x c,cl.lookup x=some c->X.env.cells.lookup x=some c:=by exact Z4 (by intro p hp;first|(cases hp;done)|(simp only[bR,fE,aX9]at hp;first|(rcases hp with rfl <;> rfl)|(rcases hp with rfl|rfl <;> rfl)|(rcases hp with rfl|rfl|rfl <;> rfl)))
 K8:∀x,((relabel scope X.env).names.lookup x=some .cell\/(relabel scope X.env).names.lookup x=some .free)->∃c,cl.lookup x=some c:=by exact U8 (by rfl)
 Po:∀y∈scope.names,y.2 = .local->scope.names.lookup y.1=some .local:=by decide +kernel
 K9:Cap X scope cl caps:=by repeat' first|exact trivial|refine⟨⟨rfl,rfl,rfl,rfl⟩,?_⟩
 hz:z=true->∀p∈caps,Γ[p.1]?=some .par\/Γ[p.1]?=some .loc:=by intro _ p hp;first|(cases hp;done)|(simp only[bR,fE,aX9]at hp;first|(rcases hp with rfl <;> first|exact fF rfl|exact gJ rfl)|(rcases hp with rfl|rfl <;> first|exact fF rfl|exact gJ rfl)|(rcases hp with rfl|rfl|rfl <;> first|exact fF rfl|exact gJ rfl))
 hB:pT X.K C G0 (pU (gZ.length+caps.length)) g bind:=by first|exact vf (i:=0) (k:=.par)|exact rQ (i:=0) (j:=1) (k:=.par) (k':=.par)
 hG:∀fp s H L,PG ((xx X scope cl (gZ++caps.map (·.2)) fp s H L).eT (l7 (xx X scope cl (gZ++caps.map (·.2)) fp s H L) xy)) tg g:=by intro _ _ _ _;first|exact dj (i:=0) (aX5 (by kernel_rfl)) rfl (fF rfl) (gJ rfl)|exact wF rfl (i7 (dj (i:=0) (aX5 (by kernel_rfl)) rfl (fF rfl) (gJ rfl)) (i7 (dj (i:=1) (aX5 (by kernel_rfl)) rfl (fF rfl) (gJ rfl)) qX))
 hT:∀fp s0 H0 L (ao:List (av×Obj)) (s:ay) (σ:L2.St) (H:Hp) (Q:Bool->Hp->Prop),L2.Inv ((xx X scope cl (gZ++caps.map (·.2)) fp s0 H0 L).eT (l7 (xx X scope cl (gZ++caps.map (·.2)) fp s0 H0 L) xy)) ao σ H s->vd X.K C G0 (pU (gZ.length+caps.length)) xy ft σ H Q->
   aA (aC X.prog X.w) X.A (forIn ifs true fun c r=>if r=true then do let ok <- isTrue c (compEnvC scope cl L X.env) (eval c (compEnvC scope cl L X.env));pure (lS ok)else pure (lS r)) (TP ((xx X scope cl (gZ++caps.map (·.2)) fp s0 H0 L).eT (l7 (xx X scope cl (gZ++caps.map (·.2)) fp s0 H0 L) xy)) ao σ Q) (l7 (xx X scope cl (gZ++caps.map (·.2)) fp s0 H0 L) xy) s:=by exact fun _ _ _ _=>Ka (ft:=dC (.bl true))
 hE:∀fp s H L,PE ((xx X scope cl (gZ++caps.map (·.2)) fp s H L).eT (l7 (xx X scope cl (gZ++caps.map (·.2)) fp s H L) xy)) elt (tD X.K C G0 (pU (gZ.length+caps.length)) xy fe rS)
 hn:n=true->rS = .new:=by first|exact fun _=>rfl|exact fun h=>nomatch h
 wz:n=false->rS.le .old=true:=by first|exact fun _=>rfl|exact fun h=>nomatch h
def tDc(K:aD)(C:Cfg)(G0:Hp)(Γ:List SK)(E:L2.St->XK)(f:DF)(z n:Bool):TE:=fun σ H Q=>∃A st,RS K C G0 Γ σ H A st/\match f st with
 | .ok d=>∀v H',aE H H'->Val K C (uC z n) G0 A H H' d v/\(n=true->GJ K C H (nw H H') d v)->Q v H'
 | .ex c p=>∀H',aE H H'->K2 (E σ) c p H'
 | .bad=>False
def Pp(Bt:PI X tg iter (EJ X.K C G0 Γ E z gi))(b:Blk X C G0 Γ tg elt ifs scope cl g bind ft fe rS n z gZ caps)(hs:autoParam (∀x,qR iter X.env x=pure x) zu3._auto_1) :
  PE X (.ListComp elt [⟨tg,iter,ifs,0⟩] scope pos) (tDc X.K C G0 Γ E (ir gi gZ.length (caps.map (·.1)) bind ft fe) z n):=fun ao s σ H Q I zz=>by
 refine di zz fun A st r q=>?_;clear zz;rw[eval_ListComp];unfold ir at q;refine LM (use:=none) rfl hs b.WJ b.hk b.Po (gR (Bt ao s σ H (fun J H'=>∃ds total,aE H H'/\K3 X.K C (zB z A) H' J ds/\ds.length<=5000/\iD bind ft fe ds (oW gZ.length (caps.map (·.1)) st) = .ok total/\∀v H',aE H H'->Val X.K C (uC z n) G0 A H H' (.lst total) v/\(n=true->GJ X.K C H (nw H H') (.lst total) v)->Q v H') I ⟨A,st,r,?_⟩) (fun xv s1 h1=>gR h1 (fun itv s2 h2=>?_) fun _ _ e=>e) fun _ _ e=>e);cases hg:gi st with
 | bad=>rw[hg]at q;exact q
 | ex c p=>rw[hg]at q;exact q
 | ok ds=>
  rw[hg]at q;dsimp only at q;by_cases hl:ds.length<=5000;rw[aW9 hl]at q;cases hc:iD bind ft fe ds (oW gZ.length (caps.map (·.1)) st)with
  | bad=>rw[hc]at q;exact q.elim
  | ex c p=>rw[hc]at q;exact q.elim
  | ok total=>rw[hc]at q;exact fun J H' e' hJ=>⟨ds,total,e',hJ,hl,hc,q⟩
  rw[aX0 hl]at q;exact q.elim
 obtain⟨it,fp,tn,J,H2,rfl,I2,T,t0,f0,ds,total,e2,hJ,hl,mL,hq⟩:=h2;refine xC (RR:=fun acc L=>compPost (aC X.prog X.w) X.A X.xe none (EP X ao σ Q) acc L) I2 b.calm (r.mono e2) T t0 f0 hJ b.hz mL hl b.hk b.wA b.zj b.K8 b.K9 b.hB (b.hG fp) (b.hT fp) (b.hE fp) b.hn b.wz fun acc L s' H' ys be=>?_;obtain⟨e',w⟩:=be.val r e2;obtain⟨m,hm⟩:=be.ns;exact⟨m,hm,fun h' hsb=>⟨.ref acc,H',Dr be.inv be.hL be.lL be.sL be.cL be.pL hsb,rfl,hq _ _ e' w⟩⟩
def U9(Bt:PI X tg iter (EJ X.K C G0 Γ E z gi))(b:Blk X C G0 Γ tg elt ifs scope cl g bind ft fe rS n z gZ caps)(hs:autoParam (∀x,qR iter X.env x=pure x) zu3._auto_1) :
  PE X (.ListComp elt [⟨tg,iter,ifs,0⟩] scope pos) (tD X.K C G0 Γ E (ir gi gZ.length (caps.map (·.1)) bind ft fe) (uC z n)):=(Pp Bt b hs).imp fun σ H Q zz=>by
 obtain⟨A,st,r,q⟩:=zz;refine⟨A,st,r,?_⟩;cases hf:ir gi gZ.length (caps.map (·.1)) bind ft fe st with
 | bad=>rw[hf]at q;exact q
 | ex c p=>rw[hf]at q;exact q
 | ok d=>rw[hf]at q;exact fun v H' e w=>q v H' e w.1
def Ua{Pq:Pos}(hN:X.N.Nodup)(Bt:PI X tg iter (EJ X.K C G0 Γ E z gi))(b:Blk X C G0 Γ tg elt ifs scope cl g bind ft fe rS n z gZ caps)(hk:autoParam (Γ[i]?=some k) zu0._auto_1)(hl:autoParam (k.takes (uC z n)=true) zu0._auto_1)(hi:autoParam (X.N[i]?=some x) zu0._auto_1)(hx:autoParam (X.env.scope.names.lookup x=some .local) zu0._auto_1)
  (hsw:autoParam (swapsWith (.ListComp elt [⟨tg,iter,ifs,0⟩] scope pos) (some (.Name x pos')) Pq.line X.env=pure true) zu0._auto_1) (hs:autoParam (∀x,qR iter X.env x=pure x) zu3._auto_1) :
  PS X (.Assign [.Name x pos'] (.ListComp elt [⟨tg,iter,ifs,0⟩] scope pos) Pq) (nK X.K C G0 Γ E jq (cF i (ir gi gZ.length (caps.map (·.1)) bind ft fe))):=fun ao s σ H D I zz=>by
 refine di zz fun A st r q=>?_;clear zz;rw[exec_Assign_Name_used _ _ _ _ hsw];refine ak (yX (ak ?_));show aA _ X.A (do let _ <- comprehension (.ListComp elt [⟨tg,iter,ifs,0⟩] scope pos) scope X.env _ (newList []) false (eval iter X.env) (some (assign (.Name x pos') X.env))) _ _ s;unfold cF ir at q;refine ak (gR (LM (use:=some (assign (.Name x pos') X.env)) (Q:=fun _ s'=>SP X ao D .next s') rfl hs b.WJ b.hk b.Po (gR (Bt ao s σ H (fun J H'=>∃ds total,aE H H'/\K3 X.K C (zB z A) H' J ds/\ds.length<=5000/\iD bind ft fe ds (oW gZ.length (caps.map (·.1)) st) = .ok total/\∀dF H' A',RS X.K C G0 Γ dF H' A' (st.set i (some (.lst total)))->aE (er H A) (er H' A')->D.nx dF H') I ⟨A,st,r,?_⟩) (fun xv s1 h1=>gR h1 (fun itv s2 h2=>?_) fun _ _ e=>e) fun _ _ e=>e))
  (fun _ s' hq=>aB (aB hq)) fun _ _ e=>e)
 cases hg:gi st with
 | bad=>rw[hg]at q;exact q
 | ex c p=>rw[hg]at q;exact fun H' e'=>q σ H' A (r.mono e') (aI e')
 | ok ds=>
  rw[hg]at q;dsimp only at q;by_cases hl:ds.length<=5000;rw[aW9 hl]at q;cases hc:iD bind ft fe ds (oW gZ.length (caps.map (·.1)) st)with
  | bad=>rw[hc]at q;exact q.elim
  | ex c p=>rw[hc]at q;exact q.elim
  | ok total=>rw[hc]at q;exact fun J H' e' hJ=>⟨ds,total,e',hJ,hl,hc,q⟩
  rw[aX0 hl]at q;exact q.elim
 obtain⟨it,fp,tn,J,H2,rfl,I2,T,t0,f0,ds,total,e2,hJ,hlen,mL,hq⟩:=h2;refine xC (RR:=fun acc L=>compPost (aC X.prog X.w) X.A X.xe (some (assign (.Name x pos') X.env)) (fun _ s'=>SP X ao D .next s') acc L) I2 b.calm (r.mono e2) T t0 f0 hJ b.hz mL hlen b.hk b.wA b.zj b.K8 b.K9 b.hB (b.hG fp) (b.hT fp) (b.hE fp) b.hn b.wz fun acc L s' H' ys be=>?_;obtain⟨e',w,_⟩:=be.val r e2;obtain⟨m,hm⟩:=be.ns;refine cC (r.set e' hk hl w) fun A' r' ea _=>?_;refine VV (z6 be.inv hN hi (.inl hx) (v:=.ref acc) rfl (fun s3 I3 l6=>?_) (.inr hx));refine aO l6 fun c hsb hc=>?_;clear l6;have hcL:L≠c:=by rcases hc with rfl|hc;exact be.lL;exact fun z=>be.cL x c hc z.symm
 exact⟨m,hm.sameBut hsb hcL,fun h' EF=>⟨_,H',Dr I3 be.hL be.lL be.sL be.cL be.pL EF,hq _ _ A' r' ea⟩⟩
end
abbrev DP:=(Int×Int)×av×Int×Tok
def dxs(ps:List DP):List (List Int×av×au):=ps.map fun p=>([p.1.1,p.1.2],p.2.1,.int p.2.2.1 p.2.2.2)
def DX(a:av)(ps:List DP)(h:aQ):Prop:=∃o es ep,h.get? a=some o/\o.ExactDict/\o.data = .dict es ep/\(∀(P:cS) (w:bI),es.toList=(dxs ps).map (pN (tupleKind (intKind P w))))/\((dxs ps).map (·.1)).Nodup
def dvs(ps:List DP):List V:=ps.flatMap fun p=>[.int p.1.1,.int p.1.2,.int p.2.2.1]
def Ub(K:aD)(H:Hp)(a:av)(vs:List V):Prop:=∃ps,vs=dvs ps/\H a=some (.ext (DX a ps))/\∀p∈ps,kW K H p.2.1 [.int p.1.1,.int p.1.2]
def Ub.mono{K:aD}{H H':Hp}{a:av}{vs:List V}(e:aE H H')(h:Ub K H a vs):Ub K H' a vs:=by
 refine cC h fun ps h1 h2 h3=>?_;clear h;exact⟨ps,h1,e _ _ h2,fun p hp=>aE.tup e (h3 p hp)⟩
end Dm
namespace Hk
open PySem
section
variable {K:Type}[DecidableEq K](kh:HeapKind prog w K)
def Refs(h:aQ):List K->List au->Prop
 | [],vs=>vs=[]
 | k::ks,vs=>∃a r,vs = .ref a::r/\kh.is h k a/\Refs h ks r
def rT(h:aQ)(ks:List K)(a:av):Prop:=∃o bx n,h.get? a=some o/\o.cls = .type "tuple" /\o.data = .seq bx n/\Refs kh h ks bx.toList
def GY(ks:List K):Int:=reduceHash (AF (ks.map kh.hash))
def fW:List K->Nat
 | []=>0
 | k::ks=>kh.draws k+fW ks
variable {kh}
theorem Refs.inj:∀{x y:List K} {vs:List au},Refs kh h x vs->Refs kh h y vs->x=y
 | [],[],_,_,_=>rfl
 | [],_::_,_,e,⟨_,_,z,_⟩=>by rw[Refs]at e;rw[e]at z;cases z
 | _::_,[],_,⟨_,_,z,_⟩,e=>by rw[Refs]at e;rw[e]at z;cases z
 | _::_,_::_,_,⟨_,_,z,p,r⟩,⟨_,_,z',p',r'⟩=>by rw[z]at z';cases z';rw[kh.inj p p',r.inj r']
theorem Refs.keeps{h:aQ}{es ep}(ho:h.get? d=some o)(hd:o.data = .dict es ep)(hs:gH d h h'):∀{x:List K} {vs:List au},Refs kh h x vs->Refs kh h' x vs
 | [],_,e=>e
 | _::_,_,⟨a,r,z,p,q⟩=>⟨a,r,z,kh.keeps p ho hd hs,q.keeps ho hd hs⟩
theorem zL:∀(x y:List K),fW kh (x++y)=fW kh x+fW kh y
 | [],y=>by rw[fW,kq];rfl
 | k::x,y=>by rw[vM,fW,fW,zL x y,vF]
theorem rT.tuple{s:ay}(x:rT kh s.heap ks a):s.TypeIs (.ref a) "tuple":=x.elim fun o z=>z.elim fun _ z=>z.elim fun _ z=>⟨o,z.1,z.2.1⟩
theorem rT.inj(hx:rT kh h x a)(hy:rT kh h y a):x=y:=by
 obtain⟨o,bx,n,e,_,d,r⟩:=hx;obtain⟨o',its',n',e',_,d',r'⟩:=hy;rw[e]at e';cases e';rw[d]at d';cases d';exact r.inj r'
theorem rT.keeps{es ep}(x:rT kh h ks a)(ho:h.get? d=some o)(hd:o.data = .dict es ep)(hs:gH d h h'):rT kh h' ks a:=by
 obtain⟨u,bx,n,e,c,q,r⟩:=x;refine⟨u,bx,n,(hs.2 a fun z=>?_).trans e,c,q,r.keeps ho hd hs⟩;rw[z,ho]at e;cases e;rw[hd]at q;cases q
def Uc{Q:Int->ay->Prop}(hu:A.units<cLine)(hr:kh.room A.in1)(hk:rT kh s.heap ks a)(h:Q (GY kh ks) {s with toks:=s.toks+(fW kh ks+1)}):aA (aC prog w) A (pyHash (.ref a)) Q E s:=by
 have hT:=hk.tuple;have sl:=Nf;obtain⟨o,bx,n,ho,_,hd,hi⟩:=hk;(unfold pyHash);(first|unfold pyHashByItsType|skip);(first|refine ak (wpAny_cRoomFor_or (.inr hu) ?_)|skip);(refine ak (nP hT sl.lookup ?_));(show aA _ _ (if(some (Value.builtin "tuple.__hash__")==some dI)=true then _ else _) Q E s);(rw[aX0 (by rw[beq_builtin_none];exact iS)]);(refine ak (nP hT sl.lookup ?_));(show aA _ _ (callSpecialIfBoundUnlessNone? (.ref a) "__hash__" _>>=_) Q E s);refine ak (wpAny_callSpecialIfBoundUnlessNone?_slot hT sl (gF sl hT F.entry_tuple_hash ?_ (F.args_tuple_hash_1 _)));(show aA _ _ (Builtin.Tuple.tupleItemsOf (.ref a)>>=_) _ _ s);(refine ak (EV ho hd (ak ?_)));(rw[<- vU]);refine lI _ (fun rest (b:Array Int) s'=>∃x y,ks=x++y/\Refs kh s.heap y rest/\b.toList=x.map kh.hash/\s'={s with toks:=s.toks+fW kh x}) _ ?_ ?_ _ _ ⟨[],ks,rfl,hi,rfl,rfl⟩;rintro v rest b s' ⟨x,y,rfl,hl,hb,rfl⟩;cases y with
 | nil=>rw[Refs]at hl;cases hl
 | cons k y=>
  obtain⟨c,r,z,p,q⟩:=hl;cases z;have e:fW kh (x++[k])=fW kh x+kh.draws k:=by rw[zL];rfl
  have nx:∃x' y',x++k::y=x'++y'/\Refs kh s.heap y' rest/\(b.push (kh.hash k)).toList=x'.map kh.hash/\({s with toks:=s.toks+fW kh x+kh.draws k}:ay)={s with toks:=s.toks+fW kh x'}:=⟨x++[k],y,by simp,q,by simp[hb],by rw[e,vF]⟩
  refine ak (kh.pyHash (s:={s with toks:=s.toks+fW kh x}) hr p ?_);first
   | exact aB nx
   | exact ak (aB (aB nx))
 rintro b s' ⟨x,y,rfl,hl,hb,rfl⟩;cases y with
 | cons k y=>obtain⟨_,_,z,_⟩:=hl;cases z
 | nil=>rw[jJ]at h;(show aA _ _ (retInt (AF b.toList)) _ _ _);(rw[hb]);(refine wpAny_ret_mkInt ?_);show aA _ _ (if(decide (-(2:Int) ^ 63<=AF (x.map kh.hash))&&decide (AF (x.map kh.hash)<2 ^ 63))=true then _ else _) Q E _;unfold GY reduceHash at h;split;rename_i c;rw[aW9 c]at h;exact aB (by simpa[vF]using h);rename_i c;rw[aX0 c]at h;exact ak (vq (aB (by simpa[vF]using h)))
def au4{P:Fin->ay->Prop}(hr:kh.room A)(hx:rT kh s.heap x a)(hy:rT kh s.heap y b)(h:P (.done (.ret (.bool (decide (x=y))))) s):aA (aC prog w) A (Builtin.«tuple.__eq__» ⟨[.ref a,.ref b],[]⟩) P E s:=by
 have hT:=hy.tuple;obtain⟨oa,us,na,ea,_,da,ra⟩:=hx;obtain⟨ob,vs,nb,eb,_,db,rb⟩:=hy;(show aA _ _ (isInstance (.ref b) (.type "tuple")>>=_) _ _ s);(refine ak (qc hT LN ?_));(simp only[iC,cP,aX7]);refine ak (EV ea da (ak (EV eb db (ak ?_))));refine lI _ (fun rest r s'=>r.1=none/\s'=s/\∃x' y' us' vs',rest=List.zip us' vs'/\Refs kh s.heap x' us'/\Refs kh s.heap y' vs'/\decide (x'=y')=decide (x=y)/\(us'.length==vs'.length)=(us.size==vs.size)) _ ?_ ?_ _ _ ⟨rfl,rfl,x,y,us.toList,vs.toList,rfl,ra,rb,rfl,by simp⟩;rintro⟨u,v⟩ rest r s' ⟨Pa,rfl,x',y',us',vs',hz,qY,Ly,Ud,hlen⟩;cases x' with
 | nil=>rw[Refs]at qY;subst qY;simp at hz
 | cons k1 x1=>
  obtain⟨c1,r1,z1,p1,q1⟩:=qY;subst z1;cases y' with
  | nil=>rw[Refs]at Ly;subst Ly;simp at hz
  | cons k2 y1=>obtain⟨c2,r2,z2,p2,q2⟩:=Ly;subst z2;rw[Mr]at hz;cases hz;refine ak (kh.eqBool (x:=k1) (y:=k2) hr p1 p2 ?_);by_cases hk:k1=k2;subst hk;(rw[aX1 rfl]);(simp only[iC,cP,aX7]);exact aB ⟨rfl,rfl,x1,y1,r1,r2,rfl,q1,q2,by rw[<- Ud];simp,by simpa using hlen⟩;(rw[aX2 hk]);(simp only[Ay,aX8]);rw[show decide (x=y)=false by rw[<- Ud];simp[hk]]at h;exact ak (aB (aB (aB h)))
 rintro⟨r1,r2⟩ s' ⟨Pa,rfl,x',y',us',vs',hz,qY,Ly,Ud,hlen⟩;dsimp only at Pa;subst Pa;refine aB ?_;have e:(us.size==vs.size)=decide (x=y):=by
  rw[<- Ud,<- hlen];cases x' with
  | nil=>
   rw[Refs]at qY;subst qY;cases y' with
   | nil=>rw[Refs]at Ly;subst Ly;rfl
   | cons k2 y1=>obtain⟨c2,r2,rfl,_⟩:=Ly;simp
  | cons k1 x1=>
   obtain⟨c1,r1,rfl,_⟩:=qY;cases y' with
   | nil=>rw[Refs]at Ly;subst Ly;simp
   | cons k2 y1=>obtain⟨c2,r2,rfl,_⟩:=Ly;simp at hz
 show P (.done (.ret (.bool (us.size==vs.size)))) s';rw[e];exact h
def Kg{Q:Bool->ay->Prop}(hu:A.units<cLine)(hr:kh.room A.in1)(hx:rT kh s.heap x a)(hy:rT kh s.heap y b)(h:Q (decide (x=y)) s):aA (aC prog w) A (eqBool (.ref a) (.ref b)) Q E s:=by
 (unfold eqBool);(try with_reducible refine iN ?_);(show aA _ _ (if(eG a==eG b)=true then _ else _) Q E s);by_cases c:(eG a==eG b)=true;rw[aW9 c];cases eq_of_beq c;obtain rfl:=hx.inj hy;exact ak (vq (aB (by simpa using h)));(rw[aX0 c]);(refine ak (wpAny_richCompare_same_room (op:=.Eq) hx.tuple hy.tuple AD (gF AD hx.tuple F.entry_tuple_eq (au4 hr hx hy ⟨_,rfl,(fun e=>nomatch e),vp h⟩) (F.args_tuple_eq_2 _ _)) hu))
def Ds{Q:Bool->ay->Prop}(ho:s.heap.get? a=some o)(hc:o.cls = .type "tuple")(hd:o.data = .seq bx m)(q:∀v∈bx.toList,∀{A:bX} {R:Bool->ay->Prop},R true s->aA (aC prog w) A (eqIsQuiet n v) R E s)(h:Q true s):aA (aC prog w) A (eqIsQuiet (n+1) (.ref a)) Q E s:=by
 have hT:s.TypeIs (.ref a) "tuple":=⟨o,ho,hc⟩
 (unfold eqIsQuiet);(refine ak (nP hT AD.lookup ?_));(show aA _ _ (isInstance (.ref a) (.type "tuple")>>=_) _ _ s);(refine ak (qc hT LN ?_));(simp only[iC,cP,aX7]);(refine ak (EU ho hd (ak ?_)));(show aA _ _ (forIn bx _ _) _ _ s);(rw[<- vU]);refine lI _ (fun rest r s'=>r.1=none/\s'=s/\∀v∈rest,v∈bx.toList) _ ?_ ?_ _ _ ⟨rfl,rfl,fun _ m=>m⟩;rintro v rest r s' ⟨hr,rfl,oH⟩;(refine ak (q v (oH v (.head _)) ?_));(simp only[iC,cP,aX7]);exact aB ⟨rfl,rfl,fun u m=>oH u (.tail _ m)⟩;rintro⟨r1,r2⟩ s' ⟨hr,rfl,_⟩;dsimp only at hr;subst hr;exact aB h
end
theorem Refs.mem{prog:cS}{w:bI}{K:Type}[DecidableEq K]{kh:HeapKind prog w K}{h:aQ}:∀{ks:List K} {vs:List au} {v:au},Refs kh h ks vs->v∈vs->∃k a,v = .ref a/\kh.is h k a
 | [],_,_,e,m=>by rw[Refs]at e;rw[e]at m;cases m
 | k::ks,_,v,⟨a,r,z,p,q⟩,m=>by
  rw[z]at m;rcases bR.mp m with rfl|m;exact⟨k,a,rfl,p⟩;exact q.mem m
def jS{prog:cS}{w:bI}{K:Type}[DecidableEq K](knd:KeyKind prog w K):HeapKind prog w (List (List K)) where
 is:=rT (tupleKind knd)
 hash:=GY (tupleKind knd)
 draws:=fun ks=>fW (tupleKind knd) ks+1
 room:=fun A=>A.units+1<cLine
 inj:=fun hx hy=>hx.inj hy
 keeps:=fun x ho hd hs=>x.keeps ho hd hs
 pyHash:=fun hu hk h=>Uc (sQ hu) hu hk h
 eqBool:=fun hu hx hy h=>Kg (sQ hu) hu hx hy h
 quiet:=fun {A E s k a Q} hk h=>by
  obtain⟨o,bx,n,ho,hc,hd,hi⟩:=hk;refine Ds (n:=7) ho hc hd (fun v m A' R hR=>?_) h;obtain⟨k1,c,rfl,o1,aW1,n1,Wq,hc1,hd1,hi1⟩:=hi.mem m;refine Ds (n:=6) Wq hc1 hd1 (fun v m A'' R' hR'=>?_) hR;rw[eqIsQuiet_byValue _ (hi1.byValue v m)];exact aB hR'
end Hk
namespace Dm
open PySem PySem.Spec PyProof.Rows L2
abbrev SP:=List (List Int)×av×au
def DY(a:av)(o:Obj)(ps:List SP)(h:aQ):Prop:=(a==nN)=false/\ps.length<=cG/\h.get? a=some o/\o.ExactDict/\∃es ep,o.data = .dict es ep/\(∀(P:cS) (w:bI),es.toList=ps.map (pN (Hk.jS (intKind P w))))/\(ps.map (·.1)).Nodup
def jh(K:aD)(H:Hp)(ks:List (List Int))(a:av):Prop:=∃cs:List av,kW K H a (cs.map V.ref)/\cs.length=ks.length/\∀z∈ks.zip cs,kW K H z.2 (z.1.map V.int)
def jT(ps:List SP)(vs:List V):List V:=(ps.zip vs).flatMap fun z=>[.ref z.1.2.1,z.2]
def DYo(K:aD)(F H:Hp)(a:av)(xs:List V):Prop:=∃o ps vs,xs=jT ps vs/\Vals vs (ps.map (·.2.2))/\H a=some (.ext (DY a o ps))/\(∀p∈ps,jh K F p.1 p.2.1)/\∀l,V.ref l∈vs->∃ys,F l=some (.lst ys)
def jh.mono{K:aD}{H H':Hp}{ks:List (List Int)}{a:av}(e:aE H H')(h:jh K H ks a):jh K H' ks a:=by
 refine cC h fun cs h1 h2 h3=>?_;exact⟨cs,aE.tup e h1,h2,fun z m=>aE.tup e (h3 z m)⟩
theorem DYo.mono{K:aD}{F F' H H':Hp}{a:av}{xs:List V}(f:aE F F')(e:H' a=H a)(h:DYo K F H a xs):DYo K F' H' a xs:=by
 refine Cg h fun o ps vs h1 h2 h3 h4 h5=>?_;exact⟨o,ps,vs,h1,h2,e.trans h3,fun p m=>(h4 p m).mono f,fun l m=>let⟨ys,q⟩:=h5 l m;⟨ys,f _ _ q⟩⟩
def DY.of{ps:List SP}{h:aQ}(z:(a==nN)=false)(hl:ps.length<=cG)(q:h.DictOfH (Hk.jS (intKind P w)) a ps):∃o,DY a o ps h:=by
 refine aD8 q fun o es ep h1 h2 h3 h4 _ h6=>?_;exact⟨o,z,hl,h1,h2,es,ep,h3,fun P' w'=>h4,h6⟩
def DY.dict(q:DY a o ps h)(k:∀p∈ps,(Hk.jS (intKind P w)).is h p.1 p.2.1):h.DictOfH (Hk.jS (intKind P w)) a ps:=by
 obtain⟨_,_,h1,h2,es,ep,h3,h4,h6⟩:=q;exact⟨o,es,ep,h1,h2,h3,h4 P w,k,h6⟩
def DY.keep{h':aQ}(q:DY a o ps h)(e:∀o,h.get? a=some o->h'.get? a=some o):DY a o ps h':=⟨q.1,q.2.1,e o q.2.2.1,q.2.2.2⟩
def Dt(q:DY a o ps h):gk P w H h a (.ext (DY a o ps)):=⟨q,⟨o,q.2.2.1⟩,fun h1 h2 z e=>z.keep e⟩
def Pr(I:L2.Inv X ao σ H s){ns:List Int}(h:kW X.K H a (ns.map V.int)):(tupleKind (intKind X.prog X.w)).is s.heap ns a:=by
 refine cC (I.tuple h) fun bx rv b9 hsz=>?_;clear hsz;obtain⟨o,e,hc,n,hd⟩:=b9;refine⟨o,bx.toArray,n,e,hc,hd,?_⟩;show ItemsAre _ ns bx;clear h e hd;induction ns generalizing bx with
 | nil=>cases rv;exact .nil
 | cons i ns ih=>
  cases rv with
  | cons r1 t1=>obtain⟨t,rfl⟩:=r1;exact .cons (by simp[intKind,Value.isInt]) (ih _ t1)
def lV(I:L2.Inv X ao σ H s)(h:jh X.K H ks a):(Hk.jS (intKind X.prog X.w)).is s.heap ks a:=by
 refine cC h fun cs h1 h2 h3=>?_;refine cC (I.tuple h1) fun bx rv b9 hsz=>?_;clear hsz;obtain⟨o,e,hc,n,hd⟩:=b9;refine⟨o,bx.toArray,n,e,hc,hd,?_⟩;show Hk.Refs _ s.heap ks bx;clear h h1 e hd;induction ks generalizing cs bx with
 | nil=>
  cases cs with
  | nil=>cases rv;exact rfl
  | cons c cs=>cases h2
 | cons k ks ih=>
  cases cs with
  | nil=>cases h2
  | cons c cs=>
   cases rv with
   | cons r1 t1=>cases r1;exact⟨c,_,rfl,Pr I (h3 (k,c) (.head _)),ih cs (by simpa using h2) (fun z m=>h3 z (.tail _ m)) _ t1⟩
def lC(I:L2.Inv X ao σ H s)(ha:H a=some (.ext (DY a o ps)))(hk:∀p∈ps,jh X.K H p.1 p.2.1):s.heap.DictOfH (Hk.jS (intKind X.prog X.w)) a ps/\(a==nN)=false/\ps.length<=cG:=by
 refine wg ((show gk X.prog X.w H s.heap a (.ext (DY a o ps))from I.eU a _ ha)) fun dx _ _=>?_;exact⟨dx.dict fun p m=>lV I (hk p m),dx.1,dx.2.1⟩
end Dm
namespace Dm
open PySem PySem.Spec PyProof.Rows L2 PySem.W
def cz(Cb:av)(gl:GL):Cfg where
 gl:=gl.p
 glM:=gl.m
 ob:=fun t K H a vs=>((t=0/\∃dx fs l,H a=some (.ins Cb dx fs)/\fs.lookup ("cells" : Str)=some (.ref l)/\H l=some (.lst vs))\/(∃c,t=U6 c/\((vs=[]/\H a=some (.ext (ClsAt a (.ref c))))\/∃n dx,vs=[.int n]/\H a=some (.ext (XY a c dx))/\H dx=some (.xd [("at",.int n)]))))\/(t=1/\Ub K H a vs)\/(t=2/\DYo K H H a vs)
 mono:=fun {t K H H' a vs} e h=>by
  rcases h with(⟨h0,dx,fs,l,h1,h2,h3⟩|⟨c,h0,⟨h1,h2⟩|⟨n,dx,h1,h2,h3⟩⟩)|⟨h0,h1⟩|⟨h0,h1⟩;exact .inl (.inl ⟨h0,dx,fs,l,e _ _ h1,h2,e _ _ h3⟩);exact .inl (.inr ⟨c,h0,.inl ⟨h1,e _ _ h2⟩⟩);exact .inl (.inr ⟨c,h0,.inr ⟨n,dx,h1,e _ _ h2,e _ _ h3⟩⟩);exact .inr (.inl ⟨h0,h1.mono e⟩);exact .inr (.inr ⟨h0,h1.mono e (by
   refine Cg h1 fun o ps vs _ _ z _ _=>?_;exact(e _ _ z).trans z.symm)⟩)
 own:=DYo
 IC:=fun f e h=>h.mono f e
 WB:=fun h f e=>.inr (.inr ⟨rfl,h.mono f e⟩)
 ar9:=fun h=>by
  refine Cg h fun o ps vs _ _ z _ _=>?_;exact⟨_,z⟩
def dR:D->R D:=fun a=>match a with | .bJ 0 ds=>if dB ds=true then .ok (.lst ds)else .bad|_=>.bad
def Kh{a d:D}(h:dR a = .ok d):∃ds,a = .bJ 0 ds/\dB ds=true/\d = .lst ds:=by
 unfold dR at h;split at h;split at h;rename_i n;cases h;exact⟨_,rfl,n,rfl⟩;cases h;cases h
def Kl{a:D}{c:av}{p:Option Int}:dR a≠ .ex c p:=by
 unfold dR;split;split <;> exact fun h=>(by cases h)
 exact fun h=>(by cases h)
def Km{K:Frag}{H:Hp}{ds:List D}{x:V}(n:dB ds=true)(q:Rep K (cz Cb gl) H (.bJ 0 ds) x):∃a dx fs l,x = .ref a/\H a=some (.ins Cb dx fs)/\fs.lookup ("cells" : Str)=some (.ref l)/\Rep K (cz Cb gl) H (.lst ds) (.ref l):=by
 rw[Rep]at q;refine bw q fun a xs b9 h2 h3=>?_;clear q;obtain rfl:=b9;rcases h2 with(⟨_,dx,fs,l,h4,h5,h6⟩|⟨c,z,_⟩)|⟨z,_⟩|⟨z,_⟩;refine⟨a,dx,fs,l,rfl,h4,h5,?_⟩;rw[Rep];exact⟨l,xs,rfl,.of h6,h3.part (.er fun b m=>by rw[dQ.mp m];exact⟨_,h6,rfl⟩) _ n⟩;unfold U6 at z;lia;cases z;cases z
def Pu(hC:Ln X.K Cb)(hA:jN X.K Cb "cells")(ha:PE X a (tD X.K (cz Cb gl) G0 Γ E fa kj))(hb:autoParam (mO a ("cells" : Str) X.env (eval a X.env)=eval a X.env) zu0._auto_1):PE X (.Attribute a "cells" pos) (tD X.K (cz Cb gl) G0 Γ E (rO dR fa) kj.item):=(XI ha hb).imp fun σ H Q zz=>by
 refine di zz fun A st r q=>?_;clear zz;refine⟨A,st,r,?_⟩;unfold rO R.bind at q;cases ha:fa st with
 | bad=>rw[ha]at q;exact q
 | ex c p=>rw[ha]at q;exact q
 | ok a=>
  rw[ha]at q;dsimp only at q;intro x H1 e1 w1;cases hg:dR a with
  | bad=>rw[hg]at q;exact q.elim
  | ex c p=>exact aY1 hg Kl
  | ok d=>
   rw[hg]at q;refine cC (Kh hg) fun ds iV n qZ=>?_;obtain rfl:=iV;obtain rfl:=qZ;have fin:∀G:Hp,aE G H1->Rep X.K (cz Cb gl) G (.bJ 0 ds) x->(∀v,Rep X.K (cz Cb gl) G (.lst ds) v->Val X.K (cz Cb gl) kj.item G0 A H H1 (.lst ds) v)->∃a C dx fs v,x = .ref a/\H1 a=some (.ins C dx fs)/\Ln X.K C/\jN X.K C "cells" /\fs.lookup ("cells" : Str)=some v/\Q v H1:=fun G e qa k=>by refine af1 (Km n qa) fun a dx fs l NV h1 h2 h3=>?_;obtain rfl:=NV;exact⟨a,Cb,dx,fs,.ref l,rfl,e _ _ h1,hC,hA,h2,q _ _ e1 (k _ h3)⟩
   cases kj with
   | new=>exact fin _ (aG _ _) (w1.le r e1 (κ':=.old) rfl) fun v z=>z
   | tU=>exact fin _ (aG _ _) (w1.le r e1 (κ':=.old) rfl) fun v z=>z
   | loc=>exact fin _ (aG _ _) (w1.le r e1 (κ':=.old) rfl) fun v z=>z
   | old=>exact fin _ (aG _ _) w1 fun v z=>z
   | tV=>exact fin _ (.refl _) w1.rep fun v z=>z
   | jQ=>exact fin _ (.refl _) w1 fun v z=>z
def Bu(K:Frag)(Cb:av)(gl:GL)(Fc:List D->R D):Sp:=fun vs H Q E=>∃x dx ds v,vs=[.ref x,v]/\H x=some (.ins Cb dx [])/\(Rep K (cz Cb gl) H (.lst ds) v/\gl.p H)/\match Fc [.lst ds]with
 | .ok _=>dB ds=true/\∀l H' ys,H l=none->(∀b o,b≠x->H b=some o->H' b=some o)->H' x=some (.ins Cb dx [("cells",.ref l)])->H' l=some (.lst ys)->aH K (cz Cb gl) H' ds ys->Q .cM H'
 | .ex c p=>∀H',aE H H'->K2 E c p H'
 | .bad=>False
def Ue{P:cS}{w:bI}{K:Frag}{mg:Str->Option au}{base:aQ}{x qual:Str}{st:aX}{f:av}{fd:gr}{k:Nat}{Fc:List D->R D}(F:Lp K x qual st f fd)(S:jX ["self","cells"] ["self","cells"] (bz st))(hC:Ln K Cb)(hA:jN K Cb "cells")
  (CB:∀(cW:au) (A:bX) (outer:List Env) (s:ay) (H:Hp) (E:XK),iX k (A.deeper (envOfC qual (bz st) s.heap.objs.size f cW))->
   qM ((nJ (nM P w) P w K mg base ["self","cells"] qual (bz st) f cW A outer s H E).eT (l7 (nJ (nM P w) P w K mg base ["self","cells"] qual (bz st) f cW A outer s H E) fun _=>E)) (eE st)
    (ag0 (Wa (tD K (cz Cb gl) H [.par,.par] (fun _=>E) (bD Fc (af (ah 1) az)) κ)) (ak5 K (uL 0) (tD K (cz Cb gl) H [.par,.par] (fun _=>E) (bD lq (af (ah 1) az)) .new) "cells"))) :
  jO P w K mg base (nM P w) (k+1) f fd ["self","cells"] (Bu K Cb gl Fc):=by
 refine zq F S (fun vs H Q E l6=>by obtain⟨x,dx,ds,v,h,_⟩:=l6;rw[h];rfl) fun cW _ A outer s H vs Q E hr pR=>?_;refine af1 pR fun x dx ds v hvs hx hd q=>?_;clear pR;subst hvs;have r0:RS K (cz Cb gl) H [.par,.par] [some (.ref x),some v] H [] [none,some (.lst ds)]:=⟨by rw[lU];exact .refl _,fun a m=>(by cases m),rfl,fun i d h=>(by
  match i,h with
  | 1,h=>cases h;exact⟨.par,v,rfl,rfl,by show Rep _ _ (er H []) _ _;rw[lU];exact hd.1⟩),fun i j n m p ds es mK g1=>(by
  match i,g1 with
  | 0,g1=>cases g1
  | 1,g1=>cases g1),hd.2⟩
 refine⟨_,CB cW A outer s H E hr,[],[none,some (.lst ds)],r0,?_⟩;have hf:bD Fc (af (ah 1) az) [none,some (.lst ds)]=Fc [.lst ds]:=rfl;rw[hf];cases hF:Fc [.lst ds]with
 | bad=>rw[hF]at q;exact q
 | ex c p=>rw[hF]at q;exact q
 | ok d0=>
  rw[hF]at q;obtain⟨n,q⟩:=q;intro v1 H1 e1 w1;refine⟨[],[none,some (.lst ds)],r0.mono e1,?_⟩;have hg:bD lq (af (ah 1) az) [none,some (.lst ds)] = .ok (.lst ds):=by show lq [.lst ds]=_;unfold lq;dsimp only;rw[aW9 n]
  rw[hg];intro y H2 e2 w2;refine cC (w2.2.1 rfl) fun l b9 nl ow=>?_;refine aO ow fun ys hl rl=>?_;obtain rfl:=b9;have hl2:H2 l=some (.lst ys):=cN _ _ _ _ hl;have nj:=e1.trans e2;have Iw:H2 x=some (.ins Cb dx []):=nj _ _ hx;have nlx:l≠x:=fun z=>by rw[z,e1 _ _ hx]at nl;cases nl
  refine⟨.ref x,rfl,x,Cb,dx,[],rfl,Iw,hC,hA,by show 0<1000;decide,?_⟩;have keep:aE (er H2 [x]) (upd H2 x (.ins Cb dx (oE "cells" (.ref l) []))):=fun b o z=>by by_cases hb:b=x;rw[hb,dH (.head _)]at z;cases z;rw[aR hb];rw[aU (by simpa using hb)]at z;exact z
  refine q l _ ys (e1.free nl) (fun b o hb z=>by rw[aR hb];exact nj _ _ z) bS (by rw[aR nlx];exact hl2) ?_;have rl2:aH K (cz Cb gl) H2 ds ys:=rl.same ((aG _ _).trans (cN _ _)) _;refine aH.same keep _ (rl2.part ⟨aG _ _,fun b xs z=>?_⟩ _ n);unfold Rd;have:b≠x:=fun w=>by subst w;rcases z with z|⟨o,z⟩;rw[Iw]at z;cases z;rw[Iw]at z;cases z
  rw[aU (by simpa using this)];exact z
def qC(Fc:List D->R D):List D->R D:=fun ds=>match ds with
 | [.lst es]=>(match Fc [.lst es]with | .ok _=>if dB es=true then .ok (.bJ 0 es)else .bad | .ex c p=>.ex c p | .bad=>.bad)
 | _=>.bad
def Pw{X:Cx}(M:Mk X.K Cb fi)(Fn:jO X.prog X.w X.K X.mg X.base (nM X.prog X.w) k fi fd ["self","cells"] (Bu X.K Cb gl Fc))(hr:iX (k+1) X.A)(hm:X.mg x=some (.ref Cb))(hb:Binds X.K fd ["self","cells"] [])
  (ha:PA (X.eT (l7 X E)) [e] (EH X.K (cz Cb gl) G0 Γ E fs κ)) (hg:autoParam (Gl X x) zu0._auto_1) (EC:autoParam ((x==("__debug__" : Str))=false) zu1._auto_1) (he:autoParam (bH [e] X.env=[(false,eval e X.env)]) zu0._auto_1) :
  PE (X.eT (l7 X E)) (.Call (.Name x p) [e] [] pos) (tD X.K (cz Cb gl) G0 Γ E (bD (qC Fc) fs) .new):=(O6 M Fn hr hg hm hb ha EC he).imp fun σ H Q zz=>by
 refine di zz fun A st r q=>?_;clear zz;refine⟨A,st,r,?_⟩;unfold bD R.bind at q;cases hf:fs st with
 | bad=>rw[hf]at q;exact q
 | ex c p=>rw[hf]at q;exact q
 | ok ds=>
  rw[hf]at q;dsimp only at q;intro vs H1 e1 w1 y dx hy hdx hne;have s0:aE H1 (upd (upd H1 dx (.own y)) y (.ins Cb dx [])):=fun b o z=>by rw[aR (aY z hy),aR (aY z hdx)];exact z
  match ds,q,w1 with
  | [.lst es],q,w1=>
   refine aO (oU w1) fun v iV wv=>?_;obtain rfl:=iV;refine⟨y,dx,es,v,rfl,bS,⟨(wv.same Kd.qA _).same s0 _,gl.m ((r.g0.trans e1).trans s0) r.gl⟩,?_⟩;unfold qC at q;dsimp only at q;cases hF:Fc [.lst es]with
   | bad=>rw[hF]at q;exact q
   | ex c p=>rw[hF]at q;exact fun H' e'=>q H' ((e1.trans s0).trans e')
   | ok d0=>rw[hF]at q;dsimp only at q;by_cases n:dB es=true;rw[aW9 n]at q;refine⟨n,fun l H' ys nl kp qY D3 rp=>⟨rfl,?_⟩⟩;have e':aE H1 H':=fun b o z=>kp b o (aY z hy) (s0 b o z);have eH:=e1.trans e';have hy0:H y=none:=e1.free hy;have Yr:H l=none:=e1.free (s0.free nl);refine q _ _ eH ⟨?_,.not rfl rfl⟩;rw[Rep];refine⟨y,ys,rfl,.inl (.inl ⟨rfl,dx,_,l,by rw[jP hy0];exact qY,rfl,by rw[jP Yr];exact D3⟩),rp.part (.nw eH) _ n⟩;rw[aX0 n]at q;exact q.elim
  | [],q,_=>exact q.elim
  | [.cM],q,_=>exact q.elim
  | [.bl _],q,_=>exact q.elim
  | [.int _],q,_=>exact q.elim
  | [.str _],q,_=>exact q.elim
  | [.tup _],q,_=>exact q.elim
  | [.bJ _ _],q,_=>exact q.elim
  | d1::d2::dr,q,_=>
   have:qC Fc (d1::d2::dr) = .bad:=by unfold qC;cases d1 <;> rfl
   rw[this]at q;exact q.elim
section
variable {X:Cx}{e:bg}{rest:List bg}{pos:Pos}{s:aX}
theorem xD:∀(es:List bg) (out:Str) (m:Nat),(∀e∈es,yF X P n e)->out.length+es.length*n<=m->m<=100000->∀(ao:List (av×Obj)) (s:ay) (σ:L2.St) (H:Hp) (Q:au->ay->Prop) (Ex:au->ay->Prop),L2.Inv X ao σ H s->P σ->(∀x t s',L2.Inv X ao σ H s'->x.length<=m->Q (.str x t) s')->aA (aC X.prog X.w) X.A (joinParts out (evalEach es X.env)) Q Ex s
 | [],out,m,_,hl,hm,ao,s,σ,H,Q,Ex,I,p,q=>joinParts_nil (q _ _ _ (I.tok _) (by simp at hl;lia)) (by rw[fQ];simp at hl;lia)
 | e::es,out,m,h,hl,hm,ao,s,σ,H,Q,Ex,I,p,q=>by
  show aA _ _ (joinParts out (eval e X.env::evalEach es X.env)) Q Ex s;refine joinParts_cons (h e (.head _) ao s σ H _ Ex I p fun x t s' I' hx=>?_);have hlen:(out++x).length=out.length+x.length:=strLen_append out x;rw[cK,Nat.add_mul,Nat.one_mul]at hl;refine⟨by rw[hlen,fQ];lia,?_⟩;exact xD es (out++x) m (fun e' m'=>h e' (.tail _ m')) (by rw[hlen];lia) hm ao s' σ H Q Ex I' p q
def Px(h:∀e∈v1::v2::rest,yF X P n e)(hm:(v1::v2::rest).length*n<=100000):yF X P ((v1::v2::rest).length*n) (.JoinedStr (v1::v2::rest) pos):=fun ao s σ H Q Ex I p q=>
 JoinedStr_many (xD (v1::v2::rest) Str.empty _ h (by show 0+_<=_;lia) hm ao s σ H Q Ex I p q)
def all_nil:∀e∈([]:List bg),yF X P n e:=fun e h=>by cases h
def all_cons(h:yF X P n e)(t:∀e∈es,yF X P n e):∀e'∈e::es,yF X P n e':=fun e' m=>by
 rcases bR.mp m with rfl|m;exact h;exact t e' m
def gP(c:av):DS:=fun st=>.ex c none st
def Kn{X:Cx}(FB:ExcBaseFacts B newId O0 bm)(hh:X.A.handled=none)(hm:X.mg x=some (.ref K0))(hc:exB X.K K0 bm newId=true)(ha:yF (X.eT (l7 X E)) (fun _=>True) n AS)(hg:autoParam (Gl X x) zu0._auto_1)
  (he:autoParam (bH [AS] X.env=[(false,eval AS X.env)]) zu0._auto_1) (hd:autoParam ((x==("__debug__" : Str))=false) zu1._auto_1) :
  PS (X.eT (l7 X E)) (.Raise (some (.Call (.Name x np) [AS] [] i9)) none pos) (nK X.K C G0 Γ E jq (gP K0)):=by
 have P1:PE (X.eT (l7 X E)) AS (fun σ H Q=>∀x:Str,Q (.str x) H):=fun ao s σ H Q I q=>ha ao s σ H _ _ I trivial fun x t s' I' _=>⟨.str x,H,I',⟨t,rfl⟩,q x⟩
 refine(O2 FB hh hm hc hg (iY P1 n5 he) he rfl hd).imp fun D σ H l6=>?_;refine di l6 fun A st r q=>?_;clear l6;intro x;exact⟨xq (by show 1<=100;decide),q σ H A r (.refl _)⟩
end
def Bv{Γ:List SK}(i:Nat)(h:PE X e (uL i))(hk:autoParam (Γ[i]?=some .par) zu0._auto_1):PE X e (tD X.K C G0 Γ E (ah i) .old):=GN i h hk
def Ug{Γ:List SK}(i:Nat)(h:PE X e (uL i))(hk:autoParam (Γ[i]?=some .loc) zu0._auto_1):PE X e (tD X.K C G0 Γ E (ah i) .loc):=GN i h hk
def Uh{Γ:List SK}(i:Nat)(h:PE X e (uL i))(hk:autoParam (Γ[i]?=some (.own true)) zu0._auto_1):PE X e (tD X.K C G0 Γ E (ah i) .tV):=GN i h hk
def Z5(ha:PE X a (tD X.K C G0 Γ E fa kj))(hb:PE X b (tD X.K C G0 Γ E fb C8))(hs:r9 b)(hk:autoParam (kj.item = .old) zu0._auto_1):PE X (.Subscript a b pos) (tD X.K C G0 Γ E (aV eF fa fb) .old):=hk▸GQ ha hb hs
def Py{X:Cx}(hC:Ln X.K Cb)(hA:jN X.K Cb "cells")(ha:PE X a (tD X.K (cz Cb gl) G0 Γ E fa kj))(hb:autoParam (mO a ("cells" : Str) X.env (eval a X.env)=eval a X.env) zu0._auto_1)(hk:autoParam (kj.item = .old) zu0._auto_1):PE X (.Attribute a "cells" pos) (tD X.K (cz Cb gl) G0 Γ E (rO dR fa) .old):=hk▸Pu hC hA ha hb
def pD(K:Frag)(mg:Str->Option au)(x qual:Str)(st:aX)(ps:List Str):Prop:=∃a fd,Lp K x qual st a fd/\mg x=some (.ref a)/\Binds K fd ps []
def Ko(n:Nat)(P:List au->Prop):Prop:=match n with|0=>P []|n+1=>∀u,Ko n fun us=>P (u::us)
def jd(h:Ko n P){us:List au}(hl:us.length=n):P us:=by
 subst hl;induction us generalizing P with
 | nil=>exact h
 | cons u us ih=>exact ih (h u)
def zM{K:Frag}{x qual:Str}{st:aX}{f:av}{fd:gr}{ps:List Str}(F:Lp K x qual st f fd)(h:∀(kV doc pm:au) (an:Option av) (cW ct:au),Ko ps.length fun us=>bindArgs (mP x qual (iZ st) (eE st) (bz st) .none kV doc pm an cW ct) ⟨us,[]⟩=pure (ps.zip us)):Binds K fd ps []:=F.binds fun kV doc pm an cW ct us hl=>jd (h kV doc pm an cW ct) hl
def Z6{K:Frag}{h:aQ}{mg:Str->Option au}{x:Str}{st:aX}{ps:List Str}{f:av}{oc:au}{od an:Option av}{EB:Array (Option au)}{kV doc pm cW ct:au}(X:K.In h)(G:h.Ns cZ mg)(a:nsIn K cZ x=some (some (.ref f)))(l:K.lookup f=some ⟨oc,od,.func (mP x x (iZ st) (eE st) (bz st) .none kV doc pm an cW ct),EB⟩)
  (c:PySem.W.codeIn K cW x=true) (k:sP K (.ref f)=true) (hb:∀(kV doc pm:au) (an:Option av) (cW ct:au),Ko ps.length fun us=>bindArgs (mP x x (iZ st) (eE st) (bz st) .none kV doc pm an cW ct) ⟨us,[]⟩=pure (ps.zip us)):pD K mg x x st ps:=
 ⟨_,_,AN (st:=st) l c k,mg_of X G a,zM (AN (st:=st) l c k) hb⟩
structure FD(P:cS)(w:bI)(K:Frag)(mg:Str->Option au)(base:aQ)(C:Cfg)(k:Nat)(x:Str)(ps:List Str)(n:Nat)(F:List D->R D)(κ:Option Bool):Prop where
 ex:∃a fd,jO P w K mg base (nM P w) k a fd ps (spD K C n F κ)/\mg x=some (.ref a)/\keepIn K (.ref a)=true/\Binds K fd ps []/\∃o,K.lookup a=some o/\o.data = .func fd
def xE{K:Frag}{x qual:Str}{st:aX}{a:av}{fd:gr}(F:Lp K x qual st a fd):∃o,K.lookup a=some o/\o.data = .func fd:=by
 refine X9 F.ex fun oc od kV doc pm an cW ct EB e lk G6=>?_;exact⟨_,lk,rfl⟩
def au6{P:cS}{w:bI}{K:Frag}{mg:Str->Option au}{base:aQ}{C:Cfg}{x qual:Str}{st:aX}{N ps:List Str}{Γ:List SK}{k n:Nat}{jq:Option Bool}{Fb:DS}(T:pD K mg x qual st ps)(S:jX N ps (bz st))(hn:ps.length=n)(AO:∀i,i<n->Γ[i]?=some .par)
  (body:∀(f:av) (cW:au),(mg x=some (.ref f)/\∃o fd,K.lookup f=some o/\o.data = .func fd/\fd.code=cW)->∀(A:bX) (outer:List Env) (s:ay) (H:Hp) (E:XK),iX k (A.deeper (envOfC qual (bz st) s.heap.objs.size f cW))->
   qM ((nJ (nM P w) P w K mg base N qual (bz st) f cW A outer s H E).eT (l7 (nJ (nM P w) P w K mg base N qual (bz st) f cW A outer s H E) fun _=>E)) (eE st) (nK K C H Γ (fun _=>E) jq Fb)) :
  FD P w K mg base C (k+1) x ps n (bW N.length Fb) jq:=by
 refine bw T fun a fd Fu hm hb=>?_;clear T;exact⟨a,fd,YN Fu S hn AO (fun cW hc=>body a cW ⟨hm,let⟨o,h1,h2⟩:=xE Fu;⟨o,fd,h1,h2,hc⟩⟩),hm,Fu.kp,hb,xE Fu⟩
def Du{X:Cx}(Fn:FD X.prog X.w X.K X.mg X.base C k x ps n F (some EI))(hr:iX j X.A)(hj:k<=j)
  (ha:PA (X.eT (l7 X E)) (e::es) (EH X.K C G0 Γ E fs κ)) (hlen:∀st ds,fs st = .ok ds->ds.length=n) (hkc:autoParam (P8 EI=aO4) zu0._auto_1) (hg:autoParam (Gl X x) zu0._auto_1) (EC:autoParam ((x==("__debug__" : Str))=false) zu1._auto_1) (he:autoParam (bH (e::es) X.env=(false,eval e X.env)::bH es X.env) zu0._auto_1) (yr:autoParam ((backTo pos (bH es X.env)).any (·.1)=false) zu0._auto_1) :
  PE (X.eT (l7 X E)) (.Call (.Name x p) (e::es) [] pos) (tD X.K C G0 Γ E (bD F fs) aO4):=by
 refine Jq Fn.ex fun a fd h1 h2 h3 h4 _=>?_;subst hkc;exact TX h1 (hr.mono hj) h2 h3 h4 ha hlen hg EC he yr
def Z4{cl cs:List (Str×av)}(h:∀p∈cl,cs.lookup p.1=some p.2):∀x c,cl.lookup x=some c->cs.lookup x=some c:=fun x c e=>by
 induction cl with
 | nil=>cases e
 | cons p cl ih=>obtain⟨n,a⟩:=p;rw[mV]at e;by_cases hx:(x==n)=true;rw[hx]at e;cases e;rw[aX3.mp hx];exact h (n,c) (.head _);rw[N1]at hx;rw[hx]at e;exact ih (fun q m=>h q (.tail _ m)) e
theorem lookup_mem:∀{names:List (Str×β)},names.lookup x=some k->(x,k)∈names
 | [],e=>by cases e
 | (n,k')::ns,e=>by
  rw[mV]at e;by_cases hx:(x==n)=true;rw[hx]at e;cases e;rw[aX3.mp hx];exact .head _;rw[N1]at hx;rw[hx]at e;exact .tail _ (lookup_mem e)
def U8{names:List (Str×NameKind)}{cl:List (Str×av)}(h:(names.all fun p=>(p.2 != .cell&&p.2 != .free) || (cl.lookup p.1).isSome)=true):∀x,(names.lookup x=some .cell\/names.lookup x=some .free)->∃c,cl.lookup x=some c:=fun x e=>by
 have go:∀{k:NameKind},names.lookup x=some k->(k != .cell&&k != .free)=false->∃c,cl.lookup x=some c:=fun {k} e hk=>by have:=fU.mp h _ (lookup_mem e);dsimp only at this;rw[hk,Az]at this;exact N2.mp this
 rcases e with e|e;exact go e rfl;exact go e rfl
def mD{X:Cx}{C:Cfg}{G0:Hp}{Γ:List SK}{E:L2.St->XK}{tg iter elt:bg}{ifs:List bg}{scope:i0}{cl:List (Str×av)}{pos:Pos}{g:TG}{bind:DB}{gi:DI}{ft fe:DF}{rS EI:Kd}{n z:Bool}{gZ:List Str}{caps:List (Nat×Str)}{kk:Nat}{fr:List Nat}
  (Bt:PI X tg iter (EJ X.K C G0 Γ E z gi)) (b:Blk X C G0 Γ tg elt ifs scope cl g bind ft fe rS n z gZ caps) (hs:autoParam (∀x,qR iter X.env x=pure x) zu3._auto_1) (hk:autoParam (uC z n=EI) zu0._auto_1) (h1:autoParam (gZ.length=kk) zu0._auto_1) (h2:autoParam (caps.map (·.1)=fr) zu0._auto_1) :
  PE X (.ListComp elt [⟨tg,iter,ifs,0⟩] scope pos) (tD X.K C G0 Γ E (ir gi kk fr bind ft fe) EI):=by
 subst hk;subst h1;subst h2;exact U9 Bt b hs
def xF{X:Cx}{C:Cfg}{G0:Hp}{Γ:List SK}{E:L2.St->XK}{jq:Option Bool}{tg iter elt:bg}{ifs:List bg}{scope:i0}{cl:List (Str×av)}{pos:Pos}{g:TG}{bind:DB}{gi:DI}{ft fe:DF}{rS:Kd}{n z:Bool}{gZ:List Str}{caps:List (Nat×Str)}{kk:Nat}{fr:List Nat}
  {i:Nat} {k:SK} {x:Str} {pos' Pq:Pos} (hN:X.N.Nodup) (Bt:PI X tg iter (EJ X.K C G0 Γ E z gi)) (b:Blk X C G0 Γ tg elt ifs scope cl g bind ft fe rS n z gZ caps) (hk:autoParam (Γ[i]?=some k) zu0._auto_1) (hl:autoParam (k.takes (uC z n)=true) zu0._auto_1) (hi:autoParam (X.N[i]?=some x) zu0._auto_1) (hx:autoParam (X.env.scope.names.lookup x=some .local) zu0._auto_1)
  (hsw:autoParam (swapsWith (.ListComp elt [⟨tg,iter,ifs,0⟩] scope pos) (some (.Name x pos')) Pq.line X.env=pure true) zu0._auto_1) (hs:autoParam (∀x,qR iter X.env x=pure x) zu3._auto_1) (h1:autoParam (gZ.length=kk) zu0._auto_1) (h2:autoParam (caps.map (·.1)=fr) zu0._auto_1) :
  PS X (.Assign [.Name x pos'] (.ListComp elt [⟨tg,iter,ifs,0⟩] scope pos) Pq) (nK X.K C G0 Γ E jq (cF i (ir gi kk fr bind ft fe))):=by
 subst h1;subst h2;exact Ua hN Bt b hk hl hi hx hsw hs
end Dm
namespace Dm
open PySem PySem.Spec PyProof.Rows L2
def Ite(K:aD)(a:av):It:=
 ⟨fun i H=>∃xs x,k9 K H a xs/\xs[i]?=some x,fun i H x H'=>∃T y,H T=none/\H'=upd H T (.tup [.int i,y])/\x = .ref T/\∀xs,k9 K H a xs->xs[i]?=some y,fun i H=>∃xs,k9 K H a xs/\xs.length<=i⟩
def Kp{P:cS}{w:bI}{K:aD}{elts:List bg}{x1}{pos:Pos}(a e it:av)(hei:e≠it):Turn P w K (.Tuple elts x1 pos) (Ite K a) [e,it] e (fun i h=>(∃old,IsEnum h e it i old)/\h.IsListIter it a i) where
 mem:=by simp
 obj:=fun i h st b hb=>by
  obtain⟨⟨old,he⟩,o,ho,c,d⟩:=st;rcases bR.mp hb with rfl|hb;exact⟨_,he,fun v z=>by cases z⟩;obtain rfl:b=it:=by simpa using hb
  exact⟨o,ho,fun v z=>by rw[d]at z;cases z⟩
 keep:=fun i h h' st k=>⟨st.1.imp fun old he=>k e (by simp) _ he,st.2.at fun o z=>k it (by simp) o z⟩
 item:=by
  intro X hP hw hK hc i ao s σ H E I hf st hg;subst hP hw hK;obtain⟨⟨old,he⟩,hit⟩:=st;refine di hg fun xs x hq hx=>?_;clear hg;refine cC (I.list hq) fun bx rv p hz=>?_;refine aO (rv.get hx) fun u hu ru=>?_;have fe:=hf e (by simp);have fi:=hf it (by simp);have hn:H s.heap.objs.size=none:=I.eU.fresh (aZ _);refine wpAny_pyNext_enum_item he hit p.isList (x:=u) (by simpa using hu) hei fun h' ho Bw hT hsz hk=>⟨_,rfl,?_⟩
  have kp:∀b o,b∉[e,it]->s.heap.get? b=some o->h'.get? b=some o:=fun b o hb q=>hk b o (fun z=>hb (by simp[z])) (fun z=>hb (by simp[z])) q;have lt:∀b o,s.heap.get? b=some o->b≠s.heap.objs.size:=fun b o q=>dh (bY q);have I1:L2.Inv X ao σ (upd H s.heap.objs.size (.tup [.int i,x])) {s with heap:=h',toks:=s.toks+1}:=by
   refine Inv.Ct I (s':={s with heap:=h',toks:=s.toks+1}) (ch:=[e,it]) rfl ⟨fun b o q n nf nx=>kp b o nx q,fun b o q n nf nx=>⟨o.slots,kp b o nx q⟩,fun b o q n nx=>?_,fun b o q nx=>⟨o,kp b o nx q⟩,fun b ys q=>?_,fun b o u' q=>?_,fun b zp zr q=>?_⟩ (fun b o q=>?_) I.bare (fun b hb=>?_);rw[aR (lt b o q)];exact n;rw[aR (aY q hn)];exact q;rw[aR (aY q hn)];exact q;rw[aR (aY q hn)];exact q;by_cases hb:b=s.heap.objs.size;subst hb;rw[bS]at q;cases q;exact⟨by simp only[cK,nX];rw[fQ];decide,[.int i s.toks,u],.cons ⟨_,rfl⟩ (.cons ru .nil),⟨_,hT,rfl,0,rfl⟩⟩;rw[aR hb]at q;refine(I.eU b o q).yt (fun c v uK z=>kp c v ?_ z) (fun c z=>by rw[aR (aY z hn)];exact z) (fun c ys z=>by rw[aR (aY z hn)];exact z) fun c zo ys z=>by rw[aR (aY z hn)];exact z
   intro hm;rcases bR.mp hm with rfl|hm;rcases uK with rfl|uK;rw[fe.1]at q;cases q;rw[fe.1]at uK;cases uK;obtain rfl:c=it:=by simpa using hm
   rcases uK with rfl|uK;rw[fi.1]at q;cases q;rw[fi.1]at uK;cases uK;refine uI (hf b hb) fun f0 f1 f2 f3 f4 f5=>?_;exact⟨f3,f1,f4,f5⟩
  have ne:e≠s.heap.objs.size:=lt e _ he;have ni:it≠s.heap.objs.size:=by obtain⟨o,z,_⟩:=hit;exact lt it _ z
  refine uI fe fun f0 f1 f2 f3 f4 f5=>?_;clear fe;refine wpAny_letOwnedTupleGo_enum ho fun h2 RY XH=>?_;have I2:L2.Inv X ao σ (upd H s.heap.objs.size (.tup [.int i,x])) {s with heap:=h2,toks:=s.toks+1}:=I1.turned (t':=s.toks+1) (fun b o hb q=>(XH.2 b hb).trans q) (by rw[aR ne];exact f0) f1 f3 f4 f5;refine⟨.ref s.heap.objs.size,_,I2,rfl,⟨_,x,hn,rfl,rfl,fun ys hy=>by rw[I.wD hy hq];exact hx⟩,⟨⟨u,by simpa using RY⟩,Bw.at fun o z=>(XH.2 it (dZ hei)).trans z⟩,fun b hb=>?_⟩;rcases bR.mp hb with rfl|hb;rw[aR ne];exact f0;obtain rfl:b=it:=by simpa using hb
  rw[aR ni];exact fi.1
 done:=by
  intro X hP hw hK hc i ao s σ H E I hf st hg;subst hP hw hK;obtain⟨⟨old,he⟩,hit⟩:=st;refine aO hg fun xs hq hx=>?_;clear hg;refine cC (I.list hq) fun bx rv p hz=>?_;refine uI (hf it (by simp)) fun f0 f1 f2 f3 f4 f5=>?_;have hl:=rv.length;exact wpAny_pyNext_enum_end (I.ok.hd hc) he hit p.isList (qk (by simp;lia)) fun h' eb=>⟨rfl,I.turned (t':=s.toks) (fun b o hb e=>eb b o hb e) f0 f1 f3 f4 f5⟩
 self:=fun _ _ _ _ _ st h=>by
  obtain⟨⟨old,he⟩,_⟩:=st;exact LO he h
def iEn(K:aD)(ta:TA):TI:=fun σ H R=>ta σ H fun vs H1=>∃a,vs=[.ref a]/\(∃xs,k9 K H1 a xs)/\R (Ite K a) H1
def Kq:kZ "enumerate"=some (.type "enumerate"):=by decide +kernel
def Ui{p pos tp:Pos}{ta:TA}(hg:Gl X "enumerate")(hm:X.mg "enumerate"=none)(ha:PA X [a] ta)(hs:autoParam (bH [a] X.env=[(false,eval a X.env)]) zu0._auto_1):PI X (.Tuple elts x1 tp) (.Call (.Name "enumerate" p) [a] [] pos) (iEn X.K ta):=by
 intro ao s σ H R I h;refine Call_ (wB I hg hm Kq (MW (gv (ha pos ao s σ H _ I h) fun us s1 l6=>?_) hs rfl));refine bw l6 fun vs H1 I1 r1 q1=>?_;clear l6;refine cC q1 fun a e b9 q=>?_;clear q1;obtain⟨xs,hq⟩:=b9;subst e;cases r1 with
 | cons r rr=>
  cases rr;cases r;refine cC (I1.list hq) fun bx rv p hz=>?_;refine call_enumerate_list p.isList fun h' he hit hsz hk=>LO he ?_;have I2:L2.Inv X ao σ H1 {s1 with heap:=h'}:=I1.kept (t':=s1.toks) hk;refine⟨s1.heap.objs.size+1,[s1.heap.objs.size+1,s1.heap.objs.size],_,_,H1,rfl,I2,Kp a _ _ (Nat.succ_ne_self _),⟨⟨.none,he⟩,hit⟩,fun b hb=>?_,q⟩;have n6:s1.heap.objs.size<=b:=by
   rcases bR.mp hb with rfl|hb;exact vE _;obtain rfl:b=s1.heap.objs.size:=by simpa using hb
   exact aZ _
  exact I1.Jw n6 (I1.eU.fresh n6)
def enD(ds:List D):List D:=ds.mapIdx fun i d=>.tup [.int i,d]
def Dv(f:DF):DI:=fun st=>match f st with | .ok (.lst ds)=>.ok (enD ds) | .ok _=>.bad | .ex c p=>.ex c p | .bad=>.bad
def Uj(hm:X.mg "enumerate"=none)(ha:PE X a (tD X.K C G0 Γ E f κ))(l:z=true->κ.le .old=true)(hgl:autoParam (Gl X "enumerate") zu0._auto_1)(hs1:autoParam (bH [a] X.env=[(false,eval a X.env)]) zu0._auto_1):PI X (.Tuple elts x1 tp) (.Call (.Name "enumerate" p) [a] [] pos) (EJ X.K C G0 Γ E z (Dv f)):=(Ui hgl hm (iY ha n5 hs1) hs1).imp fun σ H Q zz=>by
 refine di zz fun A st r q=>?_;clear zz;refine⟨A,st,r,?_⟩;unfold Dv at q;cases hf:f st with
 | bad=>rw[hf]at q;exact q
 | ex c p=>rw[hf]at q;exact q
 | ok d=>
  rw[hf]at q;cases d with
  | lst ds=>
   dsimp only at q;intro v H1 e1 w;have w':Rep X.K C (er H1 (zB z A)) (.lst ds) v:=by
    unfold zB;cases z with
    | true=>exact w.le r e1 (κ':=.old) (l rfl)
    | false=>rw[aX0 (by decide),lU];exact w.rep
   rw[Rep]at w';refine bw w' fun a xs b9 h2 h3=>?_;clear w';obtain rfl:=b9;refine⟨a,rfl,⟨xs,(aG _ _).seq h2⟩,q _ _ e1 fun i H3 A3 e3 nA=>⟨fun d hd=>?_,fun hd=>?_⟩⟩;unfold enD at hd;rw[Fz]at hd;cases sG:ds[i]? with
   | none=>rw[sG]at hd;cases hd
   | some d0=>rw[sG]at hd;cases hd;refine aO (h3.get' sG) fun v hv rv=>?_;have s3:k9 X.K H3 a xs:=(e3.trans (aG _ _)).seq h2;refine⟨⟨xs,v,s3,hv⟩,fun x H' pR=>?_⟩;refine uJ pR fun T y hT hH ex hx=>?_;clear pR;subst hH ex;have:=hx xs s3;rw[hv]at this;cases this;have nT:T∉A3:=fun m=>nA T m hT;refine⟨cH hT,?_⟩;have up:aE (er H3 A3) (er (upd H3 T (.tup [.int i,v])) A3):=aI (cH hT);rw[Rep];refine⟨T,_,rfl,.inl (.inl (by rw[aU nT,bS])),?_⟩;rw[aH];refine⟨.int i,[v],rfl,xo,?_⟩;rw[aH];refine⟨v,[],rfl,rv.same ((aG _ _).trans (e3.trans up)) _,?_⟩;rw[aH]
   unfold enD at hd;rw[Fz]at hd;refine⟨xs,(e3.trans (aG _ _)).seq h2,by rw[h3.len];exact mU.mp (by cases sG:ds[i]? with|none=>rfl|some d=>rw[sG]at hd;cases hd)⟩
  | _=>exact q.elim
def IL{bind:DB}{g:TG}{gi:DI}(hp:PassesOwn (aC X.prog X.w) X.A X.env X.xe)(hc:X.calm=true)(hI:PI X tg iter (EJ X.K C G0 Γ E true gi))(hg:PG X tg g)(hB:pT X.K C G0 Γ g bind)(hb:qM X ss (nK X.K C G0 Γ E jq F))(hs:autoParam (∀x,qR iter X.env x=pure x) zu3._auto_1) :
  PS X (.For tg iter ss [] pos) (nK X.K C G0 Γ E jq (fm gi bind F)):=(Ga hp hc hI hg hb hs).imp fun D σ H zz=>by
 refine di zz fun A st r q=>?_;clear zz;refine⟨A,st,r,?_⟩;unfold fm at q;cases hg:gi st with
 | bad=>rw[hg]at q;exact q.elim
 | ex c p=>rw[hg]at q;exact fun H' e'=>q σ H' A (r.mono e') (aI e')
 | ok ds=>rw[hg]at q;intro J H1 e1 hJ;exact tZ hB hJ r e1 q
end Dm
namespace Dm
open PySem PySem.Spec PyProof.Rows L2 PySem.W
def Z7:DS:=fun _=>.bad
def Uk:qM X ss (nK X.K C G0 Γ E jq Z7):=fun ao s σ H D I l6=>l6.elim fun A pR=>pR.elim fun st uV=>uV.elim fun r q=>q.elim
def aW2:D->D->R D:=fun a b=>match a,b with
 | .lst ds,.int k=>if(dB ds&&decide (0<=k)&&decide (k<5000)&&decide (ds.length*k.toNat<=5000))=true then .ok (.lst (kr k.toNat ds).flatten)else .bad
 | _,_=>.bad
def rV:List D->R D:=fun ds=>match ds with | [.int i]=>.ok (.int (if i<0 then -i else i))|_=>.bad
def Z8:kZ "abs"=some (.builtin "abs"):=by decide +kernel
def Pz:kZ "tuple"=some (.type "tuple"):=by decide +kernel
def Ul{K:Frag}:YC K C (fun xs H Q=>∃i,xs=[.int i]/\Q (.int (if i<0 then -i else i)) H) rV .new:=fun G0 Γ E σ A st H ds xs Q r w q=>by
 unfold rV at q;split at q;rename_i z;split at z;rename_i i;cases z;refine aO (oU w) fun v iV w1=>?_;obtain rfl:=iV;rw[Rep]at w1;subst w1;exact⟨i,rfl,q _ H (.refl _) (.flat r (.refl _) (by rw[gw] <;> simp) xo _)⟩;cases z;rename_i z;split at z <;> cases z;exact q.elim
def isI:D->Bool | .int _=>true|_=>false
def au7:D->Bool | .tup (.int _::_)=>true|_=>false
def au8:D->Bool | .tup (.tup _::_)=>true|_=>false
def pV(ds:List D):Bool:=decide (ds.length<64)&&dB ds&&ds.all (fun d=>nl d&&decide (dep d<=50))&&ds.all (fun a=>ds.all fun b=>gD a b)&&(ds.all isI || ds.all au7 || ds.all au8)
def PB(h:pV ds=true):rK ds:=by
 unfold pV at h;simp only[bV,kB,aX4,fU]at h;obtain⟨⟨⟨⟨h1,h2⟩,h3⟩,h4⟩,h5⟩:=h;refine⟨?_,h1,fun a ha b hb=>h4 a ha b hb,fun a ha=>(h3 a ha).1,fun a ha=>(h3 a ha).2⟩;rcases h5 with(h5|h5)|h5;exact⟨_,.nums fun d hd=>by have:=h5 d hd;unfold isI at this;split at this;exact⟨_,rfl⟩;cases this⟩;exact⟨_,.oA fun d hd=>by have:=h5 d hd;unfold au7 at this;split at this;exact⟨_,_,rfl⟩;cases this⟩;exact⟨_,.Yi fun d hd=>by have:=h5 d hd;unfold au8 at this;split at this;exact⟨_,_,rfl⟩;cases this⟩
def fL:List D->R D:=fun ds=>match ds with
 | [.lst es]=>if pV es=true then .ok (.lst (fC es))else .bad
 | _=>.bad
def Kr{K:Frag}:YC K C (OL K C) fL .new:=fun G0 Γ E σ A st H ds xs Q r w q=>by
 cases hg:fL ds with
 | bad=>rw[hg]at q;exact q.elim
 | ex c p=>unfold fL at hg;split at hg <;> (try split at hg) <;> cases hg
 | ok d=>
  rw[hg]at q;unfold fL at hg;split at hg;rename_i es;split at hg;rename_i hc;cases hg;refine aO (oU w) fun v iV w1=>?_;obtain rfl:=iV;have n:dB es=true:=by unfold pV at hc;simp only[bV]at hc;exact hc.1.1.1.2
  refine⟨v,es,rfl,w1,PB hc,fun p ws hp Sf=>q _ _ (cH hp) (.lst r (.refl _) hp (Sf.part (.nw (.refl _)) _ ?_))⟩;exact eY fun d hd=>jy n ((cJ es).mem_iff.mp hd);cases hg;cases hg
def gW:List D->R D:=fun ds=>match ds with | [.lst es]=>if dB es=true then .ok (.tup es)else .bad|_=>.bad
def Ks{K:Frag}:YC K C (fun xs H Q=>∃p ys,xs=[.ref p]/\((k9 K H p ys/\∀l,H l=none->Q (.ref l) (upd H l (.tup ys)))\/(kW K H p ys/\Q (.ref p) H))) gW .new:=fun G0 Γ E σ A st H ds xs Q r w q=>by
 unfold gW at q;split at q;rename_i zz;split at zz;rename_i es;split at zz;rename_i n;cases zz;refine aO (oU w) fun v iV w1=>?_;obtain rfl:=iV;refine bw w1.items fun p ys b9 s t=>?_;obtain rfl:=b9;refine⟨p,ys,rfl,.inl ⟨s,fun l hl=>q _ _ (cH hl) (.flat r (cH hl) (by rw[gw];exact n) ?_ _)⟩⟩;rw[Rep];exact⟨l,ys,rfl,.inl (.inl bS),t.same (cH hl) _⟩;cases zz;cases zz;rename_i zz;split at zz;split at zz <;> cases zz;cases zz;exact q.elim
def iTp(f:DF):DI:=fun st=>match f st with | .ok (.tup ds)=>.ok ds | .ok _=>.bad | .ex c p=>.ex c p | .bad=>.bad
def Z9(he:PE X iter (tD X.K C G0 Γ E f κ))(l:z=true->κ.le .old=true):PI X tg iter (EJ X.K C G0 Γ E z (iTp f)):=(Xv he).imp fun σ H Q zz=>by
 refine di zz fun A st r q=>?_;clear zz;refine⟨A,st,r,?_⟩;unfold iTp at q;cases hf:f st with
 | bad=>rw[hf]at q;exact q
 | ex c p=>rw[hf]at q;exact q
 | ok d=>
  rw[hf]at q;cases d with
  | tup ds=>
   dsimp only at q;intro v H1 e1 w;have w':Rep X.K C (er H1 (zB z A)) (.tup ds) v:=by
    unfold zB;cases z with
    | true=>exact w.le r e1 (κ':=.old) (l rfl)
    | false=>rw[aX0 (by decide),lU];exact w.rep
   rw[Rep]at w';refine bw w' fun a xs b9 h2 h3=>?_;clear w';obtain rfl:=b9;have sq:∀{F F':Hp},aE F F'->kW X.K F a xs->kW X.K F' a xs:=fun e h=>aE.tup e h;refine⟨a,rfl,⟨xs,sq (aG _ _) h2⟩,q _ _ e1 fun i H3 A3 e3 _=>⟨fun d hd=>?_,fun hd=>?_⟩⟩;refine aO (h3.get' hd) fun v hv rv=>?_;have s3:kW X.K H3 a xs:=sq (e3.trans (aG _ _)) h2;refine⟨⟨xs,v,s3,hv⟩,fun x H' l6=>?_⟩;obtain⟨hH,hx⟩:=l6;subst hH;have:=hx xs s3;rw[hv]at this;cases this;exact⟨.refl _,rv.same e3 _⟩;exact⟨xs,sq (e3.trans (aG _ _)) h2,by rw[h3.len];exact mU.mp hd⟩
  | _=>exact q.elim
end Dm
namespace Dm
open PySem PySem.Spec PyProof.Rows L2
def cellsOf:List D->Option (List (Int×Int))
 | []=>some []
 | .tup [.int r,.int c]::ds=>(cellsOf ds).map ((r,c) :: ·)
 | _=>none
def intsOf:List D->Option (List Int)
 | []=>some []
 | .int i::ds=>(intsOf ds).map (i :: ·)
 | _=>none
section
variable {K:aD}{C:Cfg}{H:Hp}
theorem zN:∀{ds:List D} {cs:List Int},intsOf ds=some cs->ds=cs.map D.int
 | [],cs,h=>by cases h;rfl
 | .int r::ds,cs,h=>by
  rw[intsOf]at h;refine aO (N4.mp h) fun cs' h1 b9=>?_;obtain rfl:=b9;rw[zN h1];rfl
theorem zO:∀{ns:List Int} {vs:List V},aH K C H (ns.map D.int) vs->vs=ns.map V.int
 | [],_,h=>by rw[lO,aH]at h;exact h
 | n::ns,_,h=>by
  rw[aW,aH]at h;refine bw h fun v r b9 q t=>?_;clear h;obtain rfl:=b9;rw[Rep]at q;subst q;rw[zO t];rfl
end
end Dm
namespace Dm
def oX(h:u+64<c):u+2<c:=by lia
def PC(h:u+64<c):u+1<c:=by lia
end Dm
namespace Dm
open PySem PySem.Spec PyProof.Rows L2
def KL(K:aD)(H:Hp)(ps:List SP)(qN:List (List (List Int))):Prop:=qN.length=ps.length/\∀z∈ps.zip qN,jh K H z.2 z.1.2.1
theorem keys_eq(I:L2.Inv X ao σ H s):∀{ps:List SP} {qN:List (List (List Int))},(∀p∈ps,jh X.K H p.1 p.2.1)->KL X.K H ps qN->ps.map (·.1)=qN
 | [],[],_,_=>rfl
 | [],_::_,_,h=>by cases h.1
 | _::_,[],_,h=>by cases h.1
 | p::ps,k::qN,hk,h=>by
  rw[aW,keys_eq I (fun q m=>hk q (.tail _ m)) ⟨by simpa using h.1,fun z m=>h.2 z (.tail _ m)⟩];rw[(Hk.jS (intKind X.prog X.w)).inj (lV I (hk p (.head _))) (lV I (h.2 (p,k) (.head _)))]
def Za(K:aD)(neg:Bool):R2:=fun x y H Q=>∃a b ob ps ks qN,x = .ref b/\y = .ref a/\H a=some (.ext (DY a ob ps))/\(∀p∈ps,jh K H p.1 p.2.1)/\KL K H ps qN/\jh K H ks b/\(ps.map (·.1)=qN->Q (.bl (if neg then !(atKey ps ks).isSome else(atKey ps ks).isSome)) H)
def Zb(hu:X.A.units+2<cLine):pQ X (gU .In) (Za X.K false):=by
 intro ao s σ H x y v u Q I rx ry h;obtain⟨a,b,ob,ps,ks,qN,rfl,rfl,ha,hk,Um,hb,q⟩:=h;cases rx;cases ry;have q:=q (keys_eq I hk Um);obtain⟨dd,hd,_⟩:=lC I ha hk;exact wpAny_in_heap (show X.A.units+1+1<cLine from hu) (lV I hb) hd dd ⟨.bl (atKey ps ks).isSome,H,I.tok _,rfl,q⟩
def Ku(hu:X.A.units+2<cLine):pQ X (gU .NotIn) (Za X.K true):=by
 intro ao s σ H x y v u Q I rx ry h;obtain⟨a,b,ob,ps,ks,qN,rfl,rfl,ha,hk,Um,hb,q⟩:=h;cases rx;cases ry;have q:=q (keys_eq I hk Um);obtain⟨dd,hd,_⟩:=lC I ha hk;exact wpAny_notIn_heap (show X.A.units+1+1<cLine from hu) (lV I hb) hd dd ⟨.bl (!(atKey ps ks).isSome),H,I.tok _,rfl,q⟩
def av0(K:aD):R2:=fun x y H Q=>∃a b ob ps ks qN,x = .ref a/\y = .ref b/\H a=some (.ext (DY a ob ps))/\(∀p∈ps,jh K H p.1 p.2.1)/\KL K H ps qN/\jh K H ks b/\(ps.map (·.1)=qN->(∀l ys xs,k9 K H l ys->k9 K H l xs->ys=xs)->∃p v,atKey ps ks=some p/\RelV v p.2/\Q v H)
def aP0(hu:X.A.units+2<cLine):Sz X (av0 X.K):=by
 intro value slice ao s σ H x y v u Q I rx ry h hs;obtain⟨a,b,ob,ps,ks,qN,rfl,rfl,ha,hk,Um,hb,q⟩:=h;cases rx;cases ry;obtain⟨p,z,hp,rz,q⟩:=q (keys_eq I hk Um) fun l ys xs h1 h2=>I.wD h1 h2;obtain⟨dd,hd,_⟩:=lC I ha hk;have hT:s.TypeIs (.ref a) "dict":=dd.typeIs;unfold subscriptTail;refine ak ?_;rw[getitemInPython_of_ne hT.not_modules];refine ak (nP hT PySem.F.slot_dict_getitem.lookup ?_);have fin:aA (aC X.prog X.w) X.A (subscripted slice false (.ref a) (.ref b)) (fun r Z2=>aA (aC X.prog X.w) X.A (letTemporaryGo value (.ref a) r>>=fun _=>pure r) (EP X ao σ Q) X.xe Z2) X.xe s:=by rw[hs];refine wpAny_operating (wpAny_getItem_heap (show X.A.units+1+1<cLine from hu) (lV I hb) dd hp ?_);exact ak (wpAny_letTemporaryGo (aB ⟨z,H,I.tok _,rz,q⟩))
 first
  | exact aB (ak fin)
  | exact ak (aB (ak fin))
  | exact ak fin
def av1(K:aD):V->V->V->Hp->(Hp->Prop)->Prop:=fun o i v H Q=>∃a b ob ps ks qN,o = .ref a/\i = .ref b/\H a=some (.ext (DY a ob ps))/\(∀p∈ps,jh K H p.1 p.2.1)/\KL K H ps qN/\jh K H ks b/\ps.length<cG/\∀u OH,RelV v u->ps.map (·.1)=qN->Q (upd H a (.ext (DY a OH (storedH ps ks b u))))
def GZ{ps:List SP}{ks:List (List Int)}{b:av}{u:au}:(storedH ps ks b u).length<=ps.length+1:=by
 unfold storedH;split;rw[bf];exact vE _;rw[bU];exact aZ _
def WK(hu:X.A.units+2<cLine):ag4 X (av1 X.K):=by
 intro ao s σ H o i v ov iv u Q I ro ri rv h;obtain⟨a,b,ob,ps,ks,qN,rfl,rfl,ha,hk,Um,hb,hl,q⟩:=h;cases ro;cases ri;obtain⟨dd,hd,hz⟩:=lC I ha hk;refine wpAny_setItem_heap (hsz:=hz) (show X.A.units+1+1<cLine from hu) (lV I hb) dd fun h' dd' hs=>?_;have he:∃q,h'.get? a=some q:=let⟨q,_,_,hq,_⟩:=dd';⟨q,hq⟩;obtain⟨OH,dy⟩:=DY.of hd (cj GZ hl) dd';exact⟨_,I.write (x:=a) (e:=a) (by rw[ha];trivial) (.inl rfl) (fun c w hc z=>(hs.2 c hc).trans z) he (Dt dy),q u _ rv (keys_eq I hk Um)⟩
def Inv.av2(I:L2.Inv X ao σ H s):nN<s.heap.objs.size:=
 Nat.lt_trans (by decide) (show cZ<s.heap.objs.size from(I.mod.glob.keeps I.bk).lt)
def av3:TE:=fun σ H Q=>∀p o,H p=none->Q (.ref p) (upd H p (.ext (DY p o [])))
def PD{h:aQ}(hb:(h.objs.size==nN)=false):DY h.objs.size {cls:=.type "dict",data:=.dict #[]} [] (h.push {cls:=.type "dict",data:=.dict #[]}):=
 ⟨hb,gI _,dW _ rfl,⟨rfl,rfl,rfl⟩,#[],0,rfl,fun _ _=>rfl,tu⟩
def Uo:PE X (.Dict [] [] pos) av3:=fun ao s σ H Q I h=>
 wpAny_Dict_empty ⟨.ref s.heap.objs.size,_,I.laid (a:=s.heap.objs.size) (o:=.ext (DY s.heap.objs.size _ [])) (t':=s.toks) (fun _ _ q=>bM _ q) (aZ _) (Dt (PD (aX6.mpr (dZ (dh (Inv.av2 I)))))),rfl,h _ _ (I.eU.fresh (aZ _))⟩
def Dw:D->Option (List Int) | .tup ds=>intsOf ds|_=>none
def lW:List D->Option (List (List Int))
 | []=>some []
 | d::ds=>match Dw d,lW ds with|some a,some r=>some (a::r)|_,_=>none
def mE:D->Option (List (List Int)) | .tup ds=>lW ds|_=>none
def dS:List D->Option (List (List (List Int)×D×D))
 | []=>some []
 | k::v::r=>match mE k,dS r with|some a,some l=>some ((a,k,v)::l)|_,_=>none
 | _=>none
section
variable {K:aD}{C:Cfg}{H:Hp}
def Dy(h:Dw d=some a):d = .tup (a.map D.int):=by
 cases d with
 | tup ds=>rw[Dw]at h;rw[zN h]
 | _=>cases h
theorem uD:∀{ds:List D} {ks:List (List Int)} {xs:List V},lW ds=some ks->aH K C H ds xs->∃cs:List av,xs=cs.map V.ref/\cs.length=ks.length/\∀z∈ks.zip cs,kW K H z.2 (z.1.map V.int)
 | [],ks,xs,h,q=>by cases h;rw[aH]at q;subst q;exact⟨[],rfl,rfl,fun z m=>nomatch m⟩
 | d::ds,ks,xs,h,q=>by
  rw[lW]at h;cases ha:Dw d with
  | none=>rw[ha]at h;cases h
  | some a=>
   cases hr:lW ds with
   | none=>rw[ha,hr]at h;cases h
   | some r=>
    rw[ha,hr]at h;cases h;rw[aH]at q;obtain⟨v,vs,rfl,q1,q2⟩:=q;obtain⟨cs,rfl,hl,hz⟩:=uD hr q2;rw[Dy ha,Rep]at q1;obtain⟨c,ys,rfl,sq,rs⟩:=q1;have e:=zO rs;subst e;exact⟨c::cs,rfl,by simp[hl],fun z m=>by
     rcases bR.mp (show z∈(a,c)::r.zip cs from m)with rfl|m;exact sq;exact hz z m⟩
def jr(h:Rep K C H d v)(hk:mE d=some ks):∃b,v = .ref b/\jh K H ks b:=by
 cases d with
 | tup ds=>rw[Rep]at h;obtain⟨a,xs,rfl,sq,rs⟩:=h;obtain⟨cs,rfl,hl,hz⟩:=uD hk rs;exact⟨a,rfl,cs,sq,hl,hz⟩
 | _=>cases hk
def zP(p:SP)(ps:List SP)(v:V)(vs:List V):jT (p::ps) (v::vs) = .ref p.2.1::v::jT ps vs:=rfl
def oY(h:Vals vs us):vs.length=us.length:=h.length
theorem mF:∀{ps:List SP} {vs:List V} {ds:List D} {l:List (List (List Int)×D×D)},vs.length=ps.length->aH K C H ds (jT ps vs)->dS ds=some l->
  ds=l.flatMap (fun z=>[z.2.1,z.2.2])/\KL K H ps (l.map (·.1))/\aH K C H (l.map (·.2.2)) vs/\aH K C H (l.map (·.2.1)) (ps.map fun p=>.ref p.2.1)
 | [],[],ds,l,_,q,h=>by
  have:jT [] []=[]:=rfl;rw[this]at q;cases ds with
  | nil=>cases h;exact⟨rfl,⟨rfl,fun z m=>nomatch m⟩,by rw[lO,aH],by rw[lO,aH];rfl⟩
  | cons d ds=>rw[aH]at q;obtain⟨_,_,z,_⟩:=q;cases z
 | [],_::_,_,_,e,_,_=>by cases e
 | _::_,[],_,_,e,_,_=>by cases e
 | p::ps,v::vs,ds,l,e,q,h=>by
  rw[zP]at q;cases ds with
  | nil=>rw[aH]at q;cases q
  | cons k ds=>
   cases ds with
   | nil=>rw[aH]at q;obtain⟨_,_,z,_,q⟩:=q;cases z;rw[aH]at q;cases q
   | cons w ds=>
    rw[dS]at h;cases ha:mE k with
    | none=>rw[ha]at h;cases h
    | some a=>
     cases hr:dS ds with
     | none=>rw[ha,hr]at h;cases h
     | some r=>rw[ha,hr]at h;cases h;rw[aH]at q;obtain⟨_,_,z,q1,q⟩:=q;cases z;rw[aH]at q;obtain⟨_,_,z,q2,q⟩:=q;cases z;obtain⟨i1,i2,i3,i4⟩:=mF (by simpa using e) q hr;obtain⟨b,z,hb⟩:=jr q1 ha;cases z;refine⟨by rw[qj,<- i1];rfl,⟨by simpa using i2.1,fun z m=>?_⟩,?_,?_⟩;rcases bR.mp (show z∈(p,a)::ps.zip (r.map (·.1))from m)with rfl|m;exact hb;exact i2.2 z m;rw[aW];exact .cons q2 i3;rw[aW,aW];exact .cons q1 i4
def kM(h:Rep K (cz Cb gl) H (.bJ 2 ds) v)(hp:dS ds=some l):∃a o ps vs,v = .ref a/\Vals vs (ps.map (·.2.2))/\H a=some (.ext (DY a o ps))/\(∀p∈ps,jh K H p.1 p.2.1)/\(∀l,V.ref l∈vs->∃ys,H l=some (.lst ys))/\
  KL K H ps (l.map (·.1))/\aH K (cz Cb gl) H (l.map (·.2.2)) vs/\aH K (cz Cb gl) H (l.map (·.2.1)) (ps.map fun p=>.ref p.2.1):=by
 rw[Rep]at h;obtain⟨a,xs,rfl,ob,rs⟩:=h;rcases ob with(⟨z,_⟩|⟨c,z,_⟩)|⟨z,_⟩|⟨_,o,ps,vs,rfl,h2,h3,h4,h5⟩;cases z;unfold U6 at z;lia;cases z;obtain⟨_,i2,i3,i4⟩:=mF (by rw[oY h2,bf]) rs hp;exact⟨a,o,ps,vs,rfl,h2,h3,h4,h5,i2,i3,i4⟩
end
def xG{ps:List SP}(h:ps.map (·.1)=qN)(ks:List (List Int)):(atKey ps ks).isSome=qN.any (fun k=>decide (k=ks)):=by
 subst h;unfold atKey;rw[Option.isSome_map];induction ps with
 | nil=>rfl
 | cons p ps ih=>
  rw[vO,aW,nY];cases decide (p.1=ks)with
  | true=>rfl
  | false=>rw[Az];exact ih
def pK(neg:Bool):D->D->R D:=fun a b=>match mE a,b with
 | some ks,.bJ 2 ds=>(match dS ds with|some l=>.ok (.bl (if neg then !(l.map (·.1)).any (fun k=>decide (k=ks))else(l.map (·.1)).any (fun k=>decide (k=ks))))|none=>.bad)
 | _,_=>.bad
def Up(h:pK neg a b = .ok d):∃ks ds l,mE a=some ks/\b = .bJ 2 ds/\dS ds=some l/\d = .bl (if neg then !(l.map (·.1)).any (fun k=>decide (k=ks))else(l.map (·.1)).any (fun k=>decide (k=ks))):=by
 unfold pK at h;split at h;rename_i ks ds hk;split at h;rename_i l hl;cases h;exact⟨ks,ds,l,hk,rfl,hl,rfl⟩;cases h;cases h
def Uq:pK neg a b≠ .ex c p:=by
 unfold pK;split;split <;> exact fun h=>(by cases h)
 exact fun h=>(by cases h)
section
variable {Cb:av}{gl:GL}{G0:Hp}{Γ:List SK}{E:L2.St->XK}{a b:bg}
def IM{K:aD}{neg:Bool}:uN K (cz Cb gl) (Za K neg) (pK neg) .new:=fun G0 Γ E σ A st H a b x y Q r qa qb q=>by
 cases hg:pK neg a b with
 | bad=>rw[hg]at q;exact q.elim
 | ex c p=>exact aY1 hg Uq
 | ok d=>rw[hg]at q;obtain⟨ks,ds,l,hk,rfl,hl,rfl⟩:=Up hg;obtain⟨p,o,ps,vs,rfl,h1,h2,h3,_,h4,_⟩:=kM (show Rep K (cz Cb gl) H (.bJ 2 ds) y from qb) hl;obtain⟨b',rfl,hb⟩:=jr qa hk;refine⟨p,b',o,ps,ks,_,rfl,rfl,h2,h3,h4,hb,fun z=>?_⟩;rw[xG z];exact q _ H (.refl _) (.flat r (.refl _) (by rw[gw] <;> simp) (by rw[Rep]) _)
end
def uO(f:DF)(F:DS):Nat->DS
 | 0,_=>.bad
 | n+1,st=>match f st with
  | .ok (.bl true)=>(match F st with
   | .nx st'=>uO f F n st'
   | .ct st'=>uO f F n st'
   | .bk st'=>.nx st'
   | o=>o)
  | .ok (.bl false)=>.nx st
  | .ok _=>.bad
  | .ex c p=>.ex c p st
  | .bad=>.bad
def PF(n:Nat)(hp:PassesOwn (aC X.prog X.w) X.A X.env X.xe)(hc:PT X c (vd X.K C G0 Γ E f))(hb:qM X ss (nK X.K C G0 Γ E jq F)):PS X (.While c ss [] pos) (nK X.K C G0 Γ E jq (uO f F n)):=(NI hp hc hb).imp fun D σ H zz=>by
 refine di zz fun A st r q=>?_;clear zz;refine⟨fun m NG H1=>∃A1 jU,RS X.K C G0 Γ NG H1 A1 jU/\aE (er H A) (er H1 A1)/\uO f F m jU=uO f F n st,⟨n,A,st,r,.refl _,rfl⟩,?_⟩;intro m NG H1 w1;refine bw w1 fun A1 jU r1 e1 g1=>?_;clear w1;refine⟨A1,jU,r1,?_⟩;rw[<- g1]at q;cases m with
 | zero=>exact q.elim
 | succ m=>
  rw[uO]at q g1;cases hf:f jU with
  | bad=>rw[hf]at q;exact q
  | ex cl p=>rw[hf]at q;exact fun H' e'=>q NG H' A1 (r1.mono e') (e1.trans (aI e'))
  | ok d=>
   rw[hf]at q g1;cases d with
   | bl b=>
    intro H2 e2;cases b with
    | false=>rw[aX0 iS];exact q NG H2 A1 (r1.mono e2) (e1.trans (aI e2))
    | true=>
     rw[aW9 rfl];refine⟨fun Cy H3=>∃A3 Cz,RS X.K C G0 Γ Cy H3 A3 Cz/\aE (er H A) (er H3 A3)/\uO f F m Cz=uO f F n st,fun Cy H3 w=>⟨m,z4 m,w⟩,A1,jU,r1.mono e2,?_⟩;dsimp only at q g1;cases hF:F jU with
     | nx m8=>rw[hF]at g1;exact fun Lx H4 A4 r4 e4=>⟨A4,m8,r4,(e1.trans (aI e2)).trans e4,g1⟩
     | ct m8=>rw[hF]at g1;exact fun Lx H4 A4 r4 e4=>⟨A4,m8,r4,(e1.trans (aI e2)).trans e4,g1⟩
     | bk m8=>rw[hF]at q;exact fun Lx H4 A4 r4 e4=>q Lx H4 A4 r4 ((e1.trans (aI e2)).trans e4)
     | rt d=>rw[hF]at q;exact q
     | ex cl p m8=>rw[hF]at q;exact fun Lx H4 A4 r4 e4=>q Lx H4 A4 r4 ((e1.trans (aI e2)).trans e4)
     | bad=>rw[hF]at q;exact q
   | _=>exact q.elim
section
variable {K:aD}{Cb:av}{gl:GL}{G0:Hp}{Γ:List SK}{σ:L2.St}{H H':Hp}{A:List av}{st:gM}{κ:Kd}
def Val.gf(r:RS K (cz Cb gl) G0 Γ σ H A st)(e:aE H H'){ps:List SP}(h:H' p=none)(rel:Vals vs (ps.map (·.2.2)))(hk:∀q∈ps,jh K (κ.hp G0 A H H') q.1 q.2.1)
  (hl:∀l,V.ref l∈vs->∃ys,κ.hp G0 A H H' l=some (.lst ys)) (q:aH K (cz Cb gl) (κ.hp G0 A H H') ds (jT ps vs)):Val K (cz Cb gl) κ G0 A H (upd H' p (.ext (DY p o ps))) (.bJ 2 ds) (.ref p):=by
 have h0:H p=none:=e.free h;have S:aE (κ.hp G0 A H H') (er (κ.hp G0 A H (upd H' p (.ext (DY p o ps)))) [p]):=fun b u z=>by
  have nb:b≠p:=fun w=>by have:=Kd.qA _ _ z;rw[w,h]at this;cases this
  rw[aU (by simpa using nb)];exact Kd.rN (cH h) _ _ z
 have at_:κ.hp G0 A H (upd H' p (.ext (DY p o ps))) p=some (.ext (DY p o ps)):=De r e h;have own:kX K (cz Cb gl) (er (κ.hp G0 A H (upd H' p (.ext (DY p o ps)))) [p]) (κ.hp G0 A H (upd H' p (.ext (DY p o ps)))) p (.bJ 2 ds):=
  ⟨rfl,jT ps vs,⟨o,ps,vs,rfl,rel,at_,fun x m=>(hk x m).mono S,fun l m=>let⟨ys,z⟩:=hl l m;⟨ys,S _ _ z⟩⟩,q.same S _⟩
 have R:Rep K (cz Cb gl) (κ.hp G0 A H (upd H' p (.ext (DY p o ps)))) (.bJ 2 ds) (.ref p):=own.rep (.refl _) rfl;have T:∀G,G p=none->kK K (cz Cb gl) G (κ.hp G0 A H (upd H' p (.ext (DY p o ps)))) (.bJ 2 ds) (.ref p):=fun G g=>⟨fun _=>⟨p,rfl,g,own⟩,.not rfl⟩
 cases κ with
 | new=>exact⟨R,T _ h0⟩
 | tU=>exact⟨R,T _ h0⟩
 | loc=>exact⟨R,T _ (r.g0.free h0)⟩
 | old=>exact R
 | tV=>exact⟨R,T _ (r.g0.free h0)⟩
 | jQ=>exact R
end
def Bx:PE X (.Dict [] [] pos) (tD X.K (cz Cb gl) G0 Γ E (dC (.bJ 2 [])) .new):=Uo.imp fun σ H Q zz=>by
 obtain⟨A,st,r,q⟩:=zz;intro p o hp;exact q _ _ (cH hp) (Val.gf (ps:=[]) (vs:=[]) r (.refl _) hp .nil (fun _ m=>nomatch m) (fun _ m=>nomatch m) (by rw[aH];rfl))
def ez(o:Option (Option D)):Option (List D×List (List (List Int)×D×D)):=match o with
 | some (some (.bJ 2 ds))=>(dS ds).map fun l=>(ds,l)
 | _=>none
def ji(h:ez o=some z):o=some (some (.bJ 2 z.1))/\dS z.1=some z.2:=by
 unfold ez at h;split at h;rename_i ds;cases hp:dS ds with
 | none=>rw[hp]at h;cases h
 | some l=>rw[hp]at h;cases h;exact⟨rfl,hp⟩
 cases h
def nu(h:o=some (some (.bJ 2 ds)))(hp:dS ds=some l):ez o=some (ds,l):=by
 subst h;show(dS ds).map _=_;rw[hp];rfl
def WL:D->Bool
 | .lst _=>true
 | .int _=>true
 | .bl _=>true
 | _=>false
def Ur(i:Nat)(st:gM)(z:List D×List (List (List Int)×D×D))(kd d:D):Out:=match mE kd with
 | some ks=>if z.2.length<=5000/\(z.2.map (·.1)).any (fun k=>decide (k=ks))=false/\WL d=true then .nx (st.set i (some (.bJ 2 (z.1++[kd,d]))))else .bad
 | none=>.bad
def H8(i:Nat)(fk f:DF):DS:=fun st=>match f st with
 | .ok d=>(match ez st[i]? with
  | some z=>(match fk st with
   | .ok kd=>Ur i st z kd d
   | .ex c p=>.ex c p st
   | .bad=>.bad)
  | none=>.bad)
 | .ex c p=>.ex c p st
 | .bad=>.bad
def rW(h:mE kd=some ks):gw kd=true:=by
 cases kd with
 | tup es=>
  rw[gw];refine eY ?_;replace h:lW es=some ks:=h;induction es generalizing ks with
  | nil=>intro x m;cases m
  | cons y es ih=>
   intro x m;rw[lW]at h;cases h1:Dw y with
   | none=>rw[h1]at h;cases h
   | some a=>
    cases h2:lW es with
    | none=>rw[h1,h2]at h;cases h
    | some r=>
     rcases bR.mp m with rfl|m;rw[Dy h1,gw];exact eY fun z hz=>by obtain⟨w,_,rfl⟩:=aL.mp hz;rw[gw] <;> simp
     exact ih h2 x m
 | _=>cases h
theorem aH.Hf{K:aD}{C:Cfg}{H:Hp}:∀{ds es:List D} {xs ys:List V},aH K C H ds xs->aH K C H es ys->aH K C H (ds++es) (xs++ys)
 | [],es,xs,ys,h,h'=>by rw[aH]at h;subst h;exact h'
 | d::ds,es,xs,ys,h,h'=>by
  rw[aH]at h;obtain⟨v,r,rfl,q,t⟩:=h;exact .cons q (aH.Hf t h')
def zQ{ps:List SP}{vs:List V}(h:vs.length=ps.length):jT (ps++[p]) (vs++[v])=jT ps vs++[.ref p.2.1,v]:=by
 unfold jT;rw[MB h.symm,nZ];rfl
theorem Vals.snoc:∀{vs:List V} {us:List au} {v:V} {u:au},Vals vs us->RelV v u->Vals (vs++[v]) (us++[u])
 | _,_,v,u,.nil,h=>.cons h .nil
 | _,_,v,u,.cons r t,h=>.cons r (Vals.snoc t h)
def Zc{i:Nat}{n:Bool}{x:Str}{p1 p2:Pos}{ix:bg}{fi:DF}(hu:X.A.units+2<cLine)(hx:PE X (.Name x p1) (uL i))(hi:PE X ix (tD X.K (cz Cb gl) G0 Γ E fi κ'))(he:PE X e (tD X.K (cz Cb gl) G0 Γ E f κ))(na:lB Γ=true)(hk:autoParam (Γ[i]?=some (.own n)) zu0._auto_1)(hl:autoParam (κ = .new) zu0._auto_1)
  (ha:autoParam (∀v,assign (.Subscript (.Name x p1) ix p2) X.env v=(do
   let ov <- holding [v] (eval (.Name x p1) X.env)
   let iv <- holding [v,ov] (eval ix X.env)
   standAt p2
   holding [v,ov,iv] (setItem ov iv v)
   release [v,ov,iv] [])) zu3._auto_1)
  (hs:autoParam (swapsWithSole [tG (.Name x p1) ix p2] e pos.line X.env=pure false) zu0._auto_1) (hw:autoParam (swappedStores [tG (.Name x p1) ix p2] e X.env=pure none) zu0._auto_1)
  (h1:autoParam ((qQ [tG (.Name x p1) ix p2] X.env).map (·.2)=[assign (.Subscript (.Name x p1) ix p2) X.env]) zu0._auto_1) :
  PS X (.Assign [.Subscript (.Name x p1) ix p2] e pos) (nK X.K (cz Cb gl) G0 Γ E jq (H8 i fi f)):=(G7 he (NH hx hi (WK hu) ha) hs hw h1).imp fun D σ H zz=>by
 subst hl;obtain⟨A,st,r,q⟩:=zz;refine⟨A,st,r,?_⟩;unfold H8 at q;cases hf:f st with
 | bad=>rw[hf]at q;exact q
 | ex c p=>rw[hf]at q;exact fun H' e'=>q σ H' A (r.mono e') (aI e')
 | ok d=>
  rw[hf]at q;dsimp only at q;cases pG:ez st[i]? with
  | none=>rw[pG]at q;exact q.elim
  | some z=>
   obtain⟨pG,PJ⟩:=ji pG;obtain⟨ds,l⟩:=z;rw[nu pG PJ]at q;dsimp only at q pG PJ;intro v H1 e1 w1;obtain⟨p,h1,h2,h3,t2,xs,ow,h5⟩:=r.Bo hk pG rfl;refine⟨_,h1,A,st,r.mono e1,?_⟩;cases hi:fi st with
   | bad=>rw[hi]at q;exact q
   | ex c p=>rw[hi]at q;exact fun H' e'=>q σ H' A (r.mono (e1.trans e')) (aI (e1.trans e'))
   | ok kd=>
    rw[hi]at q;dsimp only at q;intro vi H2 e2 w2;unfold Ur at q;cases By:mE kd with
    | none=>rw[By]at q;exact q.elim
    | some ks=>
     rw[By]at q;dsimp only at q;by_cases hc:l.length<=5000/\(l.map (·.1)).any (fun k=>decide (k=ks))=false/\WL d=true;rw[aW9 hc]at q;have nj:=e1.trans e2;have r':=r.mono nj;have S:aE (eh n G0 A H) (eh n G0 A H2):=by unfold eh;cases n;exact aI nj;exact bP (aI nj)
     have S2:aE (eh n G0 A H2) H2:=by unfold eh;cases n;exact aG _ _;exact(cN _ _).trans (aG _ _)
     obtain⟨ob,ps,vs,rfl,rel,hp,kp,pl⟩:=ow;have q5:aH X.K (cz Cb gl) (eh n G0 A H2) ds (jT ps vs):=h5.same S _;have hlen:vs.length=ps.length:=by rw[oY rel,bf]
     obtain⟨_,i2,_,_⟩:=mF hlen q5 PJ;have RZ:∀x∈ps,jh X.K (eh n G0 A H2) x.1 x.2.1:=fun x m=>(kp x m).mono S;obtain⟨b,rfl,hb⟩:=jr w2.rep By;have wk:Rep X.K (cz Cb gl) (eh n G0 A H2) kd (.ref b):=by unfold eh;cases n;exact Rep.part r'.Dd _ (rW By) w2.rep;exact Rep.part r'.rL _ (rW By) w2.rep
     obtain⟨b2,Wu,hbk⟩:=jr wk By;cases Wu;have Zd:=w1.later e2;have wv:Rep X.K (cz Cb gl) (eh n G0 A H2) d v:=Zd.WH r nj (by cases n <;> rfl);have plv:∀l',v = .ref l'->∃ys,eh n G0 A H2 l'=some (.lst ys):=fun l' zl=>by
      cases d with
      | lst es=>
       obtain⟨p',z,h0,ys,hy,_⟩:=Zd.2.1 rfl;rw[zl]at z;cases z;have nA:l'∉A:=fun m=>by obtain⟨o,w,_⟩:=r.lists l' m;rw[h0]at w;cases w
       have hy2:H2 l'=some (.lst ys):=cN _ _ _ _ hy;refine⟨ys,?_⟩;unfold eh;cases n;show er H2 A l'=_;rw[aU nA];exact hy2;show nw G0 (er H2 A) l'=_;rw[jP (r.g0.free h0),aU nA];exact hy2
      | int k=>rw[Rep]at wv;rw[wv]at zl;cases zl
      | bl k=>rw[Rep]at wv;rw[wv]at zl;cases zl
      | _=>cases hc.2.2
     have hlp:l.length=ps.length:=by have:=i2.1;rw[bf]at this;exact this
     refine⟨p,b,ob,ps,ks,_,rfl,rfl,nj _ _ hp,fun x m=>(RZ x m).mono S2,⟨i2.1,fun z m=>(i2.2 z m).mono S2⟩,hb,?_,fun u OH ru zk=>?_⟩;rw[fQ];have:=hc.1;lia;have hn:atKey ps ks=none:=by have:=xG zk ks;rw[hc.2.1]at this;exact Option.isSome_eq_false_iff.mp this |> Option.isNone_iff_eq_none.mp
     rw[Ah hn];have own:kX X.K (cz Cb gl) (eh n G0 A H2) (upd H2 p (.ext (DY p OH (ps++[(ks,b,u)])))) p (.bJ 2 (ds++[kd,d])):=by refine⟨rfl,jT (ps++[(ks,b,u)]) (vs++[v]),⟨_,_,_,rfl,by rw[gu];exact Vals.snoc rel ru,bS,fun x m=>?_,fun l' m=>?_⟩,?_⟩;rcases gh.mp m with m|m;exact RZ x m;obtain rfl:=dQ.mp m;exact hbk;rcases gh.mp m with m|m;obtain⟨ys,z⟩:=pl l' m;exact⟨ys,S _ _ z⟩;exact plv l' (dQ.mp m).symm;rw[zQ hlen];exact aH.Hf q5 (.cons wk (.cons wv (by rw[aH])))
     obtain⟨r2,e3⟩:=r'.TV na hk pG h1 h2 h3 rfl rfl own;exact q _ _ A r2 ((aI nj).trans e3);rw[aX0 hc]at q;exact q.elim
def Kv:oB X (.builtin "len") (fun xs H Q=>∃a o ps,xs=[V.ref a]/\H a=some (.ext (DY a o ps))/\Q (.int ps.length) H):=by
 intro ao s σ H xs us Q I r h;obtain⟨a,o,ps,rfl,ha,q⟩:=h;obtain⟨u,rfl,ru⟩:=vals1 r;cases ru;obtain⟨dy,_,_⟩:=(show gk X.prog X.w H s.heap a (.ext (DY a o ps))from I.eU a _ ha)
 obtain⟨hd,hz,ho,hx,es,ep,iE,he,hn⟩:=dy;have hT:s.TypeIs (.ref a) "dict":=⟨o,ho,hx.1⟩
 have hs:es.size=ps.length:=by rw[<- d7,he X.prog X.w,bf]
 rw[fQ] at hz;refine PySem.Calls.call_function_entry kind_len plain_len entry_len (args_len1 _) ?_;(unfold Builtin.«len»);(refine ak (m:=oneArg "len" _) (aB ?_));refine ak (m:=callSpecial? (.ref a) (kC "__len__")) (q9 (name:=kC "__len__") hT Ng (gF Ng hT PySem.F.entry_dict_len ?_ (PySem.F.args_dict_len_1 _)));(show aA _ _ (dictSize a>>=_) _ _ s);(unfold dictSize);(refine ak (ak (jI ho iE (aB ?_))));(show aA _ _ (Builtin.Dict.pendingCount a>>=_) _ _ s);(refine ak (wpAny_pendingCount_other hd (wpAny_ret_mkInt ?_)));rw[F8,hs];(refine ak (iN (aB ?_)));(refine ak (EW ?_));(show aA _ _ (if ((ps.length:Nat):Int) < 0 then _ else _) _ _ _);(rw[aX0 (by lia)]);(show aA _ _ (if ((ps.length:Nat):Int) ≥ 2 ^ 63 then _ else _) _ _ _);(rw[aX0 (by lia)]);exact ak (wpAny_mkInt (aB ⟨_,rfl,.int ps.length,H,(I.tok _).tok _,⟨_,rfl⟩,q⟩))
def pW:List D->R D:=fun ds=>match ds with
 | [.bJ 2 xs]=>(match dS xs with|some l=>.ok (.int l.length)|none=>.bad)
 | _=>.bad
def PK(h:pW ds = .ok d):∃xs l,ds=[.bJ 2 xs]/\dS xs=some l/\d = .int l.length:=by
 unfold pW at h;split at h;rename_i xs;split at h;rename_i l hl;cases h;exact⟨xs,l,rfl,hl,rfl⟩;cases h;cases h
def PM:pW ds≠ .ex c p:=by
 unfold pW;split;split <;> exact fun h=>(by cases h)
 exact fun h=>(by cases h)
def PN{K:aD}:YC K (cz Cb gl) (fun xs H Q=>∃a o ps,xs=[V.ref a]/\H a=some (.ext (DY a o ps))/\Q (.int ps.length) H) pW .new:=fun G0 Γ E σ A st H ds xs Q r w q=>by
 cases hg:pW ds with
 | bad=>rw[hg]at q;exact q.elim
 | ex c p=>exact aY1 hg PM
 | ok d=>rw[hg]at q;obtain⟨ys,l,rfl,hl,rfl⟩:=PK hg;obtain⟨v,rfl,w1⟩:=oU w;obtain⟨p,o,ps,vs,rfl,_,h2,_,_,h4,_⟩:=kM w1 hl;refine⟨p,o,ps,rfl,h2,?_⟩;rw[show ps.length=l.length by rw[<- h4.1,bf]];exact q _ H (.refl _) (.flat r (.refl _) (by rw[gw] <;> simp) xo _)
def pX:D->D->R D:=fun a b=>match a,mE b with
 | .bJ 2 ds,some ks=>(match dS ds with
  | some l=>(match l.find? (fun z=>decide (z.1=ks))with|some z=>if WL z.2.2=true then .ok z.2.2 else .bad|none=>.bad)
  | none=>.bad)
 | _,_=>.bad
def PU{a b d:D}(h:pX a b = .ok d):∃ds ks l z,a = .bJ 2 ds/\mE b=some ks/\dS ds=some l/\l.find? (fun z=>decide (z.1=ks))=some z/\WL z.2.2=true/\d=z.2.2:=by
 unfold pX at h;split at h;rename_i ds ks hk;split at h;rename_i l hl;split at h;rename_i z hz;split at h;rename_i ho;cases h;exact⟨ds,ks,l,z,rfl,hk,hl,hz,ho,rfl⟩;cases h;cases h;cases h;cases h
def PV{a b:D}{c:av}{p:Option Int}:pX a b≠ .ex c p:=by
 unfold pX;split;split;split;split <;> exact fun h=>(by cases h)
 exact fun h=>(by cases h)
 exact fun h=>(by cases h)
 exact fun h=>(by cases h)
theorem BA:∀{ps:List SP} {vs:List V} {l:List (List (List Int)×D×D)} {K:aD} {C:Cfg} {H:Hp} {ks:List (List Int)} {z:List (List Int)×D×D},ps.map (·.1)=l.map (·.1)->Vals vs (ps.map (·.2.2))->aH K C H (l.map (·.2.2)) vs->l.find? (fun z=>decide (z.1=ks))=some z->
  ∃p v,atKey ps ks=some p/\RelV v p.2/\Rep K C H z.2.2 v/\v∈vs
 | [],_,[],_,_,_,_,_,_,_,_,h=>by cases h
 | [],_,_::_,_,_,_,_,_,h,_,_,_=>by cases h
 | _::_,_,[],_,_,_,_,_,h,_,_,_=>by cases h
 | p::ps,vs,y::l,K,C,H,ks,z,h,rel,rs,hf=>by
  rw[aW,aW]at h;injection h with h1 h2;rw[aW]at rel;rw[aW,aH]at rs;obtain⟨v,r,rfl,q1,q2⟩:=rs;cases rel with
  | cons r1 t1=>
   rw[vO]at hf;unfold atKey;rw[vO,h1];cases hd:decide (y.1=ks)with
   | true=>rw[hd]at hf;cases hf;exact⟨p.2,v,rfl,r1,q1,.head _⟩
   | false=>rw[hd]at hf;obtain⟨p',v',e1,e2,e3,e4⟩:=BA h2 t1 q2 hf;exact⟨p',v',e1,e2,e3,.tail _ e4⟩
def Us(hu:X.A.units+2<cLine)(ha:PE X a (tD X.K (cz Cb gl) G0 Γ E fa .loc))(hb:PE X b (tD X.K (cz Cb gl) G0 Γ E fb C8))(hs:r9 b):PE X (.Subscript a b pos) (tD X.K (cz Cb gl) G0 Γ E (aV pX fa fb) .loc):=(Wf (aP0 hu) ha hb hs).imp fun σ H Q zz=>by
 obtain⟨A,st,r,q⟩:=zz;refine⟨A,st,r,?_⟩;unfold aV R.bind at q;cases h1:fa st with
 | bad=>rw[h1]at q;exact q
 | ex c p=>rw[h1]at q;exact q
 | ok da=>
  rw[h1]at q;intro x H1 e1 w1;refine⟨A,st,r.mono e1,?_⟩;dsimp only at q;cases h2:fb st with
  | bad=>rw[h2]at q;exact q
  | ex c p=>rw[h2]at q;exact fun H' e'=>q H' (e1.trans e')
  | ok db=>
   rw[h2]at q;intro y H2 e2 w2;dsimp only at q;cases hg:pX da db with
   | bad=>rw[hg]at q;exact q.elim
   | ex c p=>exact aY1 hg PV
   | ok d=>
    rw[hg]at q;obtain⟨ds,ks,l,z,rfl,hk,hl,hz,ho,rfl⟩:=PU hg;have nj:=e1.trans e2;have Zd:=w1.later e2;obtain⟨p,o,ps,vs,rfl,h1,h2,h3,h5,h4,h6,_⟩:=kM Zd.1 hl;obtain⟨b',rfl,hb⟩:=jr w2.rep hk;have S:aE (nw G0 (er H2 A)) H2:=(cN _ _).trans (aG _ _);refine⟨p,b',o,ps,ks,_,rfl,rfl,S _ _ h2,fun x m=>(h3 x m).mono S,⟨h4.1,fun z m=>(h4.2 z m).mono S⟩,hb,fun zk lu=>?_⟩;obtain⟨pv,v,g1,g2,g3,g4⟩:=BA zk h1 h6 hz;refine⟨pv,v,g1,g2,q v H2 nj ⟨g3,?_,?_⟩⟩;intro Dz;cases hd:z.2.2 with
    | lst es=>
     rw[hd,Rep]at g3;obtain⟨l',xs,rfl,sq,rs⟩:=g3;obtain⟨ys,hy⟩:=h5 l' g4;have g0:G0 l'=none:=by
      unfold nw at hy;split at hy;rename_i kp;cases hg0:G0 l' with
      | none=>rfl
      | some u=>rw[hg0]at kp;have:=(r.mono nj).base _ _ hg0;rw[hy]at this;cases this;cases kp
      cases hy
     refine⟨l',rfl,g0,ys,hy,?_⟩;have:ys=xs:=lu l' ys xs (.of (S _ _ hy)) (aE.seq S sq);rw[this];exact rs
    | int k=>rw[hd]at Dz;cases Dz
    | bl k=>rw[hd]at Dz;cases Dz
    | _=>rw[hd]at ho;cases ho
    refine oR.not ?_;cases hd:z.2.2 with
    | tup es=>rw[hd]at ho;cases ho
    | _=>rfl
end Dm
namespace Hk
open PySem
section
variable {K:Type}[DecidableEq K]{knd:HeapKind prog w K}{s:ay}
def yG{Q:Unit->ay->Prop}(hu:knd.room A)(AK:knd.is s.heap k a)(hm:s.heap.DictOfH knd d xs)(hno:k∉xs.map (·.1))(hsz:xs.length<=cG)
  (hQ:∀h',h'.DictOfH knd d (xs++[(k,a,v)])->gH d s.heap h'->Q () {s with heap:=h'}):aA (aC prog w) A (dictSetHashed d (.ref a) (knd.hash k) v) Q E s:=by
 obtain⟨od,es,ep,ho,hc,hd,he,his,hn⟩:=hm;(unfold dictSetHashed);(try with_reducible refine iN ?_);refine ak (wpAny_dictFind_heap hu AK ho hd he his hn (fun _=>?_) (fun j p hj=>?_));refine ak (vq (wpAny_updateDictKeys (hz:=by have e:=nQ he;omega) ho hd (hQ _ ⟨_,_,ep+1,mQ _ ho (N6 (AB hd _)),hc.mapDictKeys _,AB hd _,?_,?_,?_⟩ (eS ..))));simp[he,pN];intro x hx;rcases gh.mp hx with hx|hx;exact knd.keeps (his x hx) ho hd (eS ..);obtain rfl:=dQ.mp hx;exact knd.keeps AK ho hd (eS ..);rw[gu,vP];exact⟨hn,by simp,fun x hx y hy z=>by
  have hy:y=k:=by simpa using hy
  rw[z,hy]at hx;exact hno hx⟩
 exact aY1 (aL.mpr ⟨(k,p),jg hj,rfl⟩) hno
def Kw{Q:Array qd->ay->Prop}(ho:s.heap.DictOfH knd o ys)(n8:ys.length<=1)(tp:∀y∈ys,s.TypeIs (.ref y.2.1) "tuple")(hQ:∀es:Array qd,es.toList=ys.map (pN knd)->Q es s):aA (aC prog w) A (Builtin.Dict.entriesForEmpty nm o) Q E s:=by
 obtain⟨oo,es,ep,h1,h2,h3,h4,h5,h6⟩:=ho;unfold Builtin.Dict.entriesForEmpty;refine ak (jI h1 h3 (ak ?_));rw[<- vU];refine lI _ (fun rest _ s'=>s'=s/\∀e∈rest,e∈es.toList) _ ?_ ?_ _ _ ⟨rfl,fun _ m=>m⟩;rintro e rest b s' ⟨rfl,oH⟩;have m:=oH e (.head _);rw[h4]at m;obtain⟨y,hy,rfl⟩:=aL.mp m;have fs:∀p:qd->Bool,(es.filter p).size<=1:=fun p=>cj (Array.size_filter_le ..) (by rw[nQ h4];exact n8);(show aA _ _ (Builtin.Dict.quietEq (.ref y.2.1)>>=_) _ _ _);(unfold Builtin.Dict.quietEq);(refine ak (ak (nP (tp y hy) AD.lookup (aB ?_))));rw[aW9 (by decide)];rw[aX0 (F9.mpr (fs _))];first
  | exact aB ⟨rfl,fun u m=>oH u (.tail _ m)⟩
  | exact ak (aB (aB ⟨rfl,fun u m=>oH u (.tail _ m)⟩))
 rintro b s' ⟨rfl,_⟩;exact aB (hQ es h4)
def Hg{Q:Unit->ay->Prop}(hu:knd.room A)(hdo:d≠o)(hoS:(o==nN)=false)(hd:s.heap.DictOfH knd d xs)(ho:s.heap.DictOfH knd o ys)(dis:∀y∈ys,y.1∉xs.map (·.1))(n8:xs=[]->ys.length<=1)(tp:∀y∈ys,s.TypeIs (.ref y.2.1) "tuple")(hsz:xs.length+ys.length<=cG)
  (hQ:∀h',h'.DictOfH knd d (xs++ys)->gH d s.heap h'->Q () {s with heap:=h'}):aA (aC prog w) A (Builtin.Dict.mergeDict nm d o) Q E s:=by
 obtain⟨od,esd,epd,hod,G6,RP,hed,hkd,hnd⟩:=id hd;obtain⟨oo,Lz,epo,hoo,hco,PX,S9,hko,hno⟩:=id ho;have hlen:ys.length=Lz.size:=(nQ S9).symm;(unfold Builtin.Dict.mergeDict);(rw[aX0 (by simpa using hdo)]);(unfold w6);(rw[aX0 (by rw[hoS];exact iS)]);refine ak (aB (ak (jI hoo PX ?_)));dsimp only;split
 case' isTrue=>
  refine ak (jI hod RP ?_)
  split
 case' isTrue.isTrue=>
  rename_i aP3
  have h0:esd=#[]:=MT.mp aP3
  have hx:xs=[]:=by have:=nQ hed;rw[h0]at this;exact nV.mp this.symm
  subst hx
  refine ak (Kw ho (n8 rfl) tp fun es CZ=>?_)
  rw[dw]at hQ
  split
  ·have hto:es.size<=cG+1:=by rw[nQ CZ];rw[nX]at hsz;omega
   refine ak (wpAny_updateDictKeysTo hod RP (aB (hQ _ ⟨_,_,epd+1,mQ _ hod (N6 (AB RP _)),G6.mapDictKeys _,AB RP _,CZ,fun y m=>knd.keeps (hko y m) hod RP (eS ..),hno⟩ (eS ..))) hto)
  ·rename_i hne
   have h1:es=#[]:=MT.mp (by simpa using hne)
   have hy:ys=[]:=by have:=nQ CZ;rw[h1]at this;exact nV.mp this.symm
   subst hy
   exact aB (hQ _ hd (N8 _ _))
 all_goals
  (refine ak (nR hoo PX (ak (jI hoo PX (ak ?_)))))
  (rw[X7]);(simp only[Std.Legacy.Range.size,M8,Am,Nat.div_one])
  refine lI _ (fun rest _ s'=>∃h' i,s'={s with heap:=h'}/\rest=List.range' i (Lz.size-i)/\i<=Lz.size/\h'.DictOfH knd d (xs++ys.take i)/\gH d s.heap h') _ ?_ ?_ _ _ ⟨s.heap,0,rfl,by simp,gI _,by simpa using hd,N8 _ _⟩
  ·rintro x rest b s' ⟨h',i,rfl,hr,hi,Lk,EF⟩
   have ie:i<Lz.size:=by
    rcases M9 i Lz.size with h|h
    ·exact h
    ·rw[Nat.sub_eq_zero_of_le h]at hr;cases hr
   have e1:Lz.size-i=(Lz.size-(i+1))+1:=by omega
   rw[e1,MC]at hr
   injection hr with hx Oo
   subst hx
   have av7:h'.get? o=some oo:=(EF.2 o (dZ hdo)).trans hoo
   have hly:x<ys.length:=by rw[hlen];exact ie
   obtain⟨y,hy⟩:∃y,ys[x]?=some y:=⟨ys[x],dz hly⟩
   have hey:Lz[x]?=some (pN knd y):=by rw[entry_at S9,hy];rfl
   have my:y∈ys:=jg hy
   refine ak (jI (s:={s with heap:=h'}) av7 PX ?_)
   rw[hey]
   have aP4:y.1∉(xs++ys.take x).map (·.1):=fun z=>by
    rw[gu]at z
    rcases gh.mp z with z|z
    ·exact dis y my z
    ·obtain⟨u,hu',e⟩:=aL.mp z
     obtain⟨j,hj⟩:=List.mem_iff_getElem?.mp hu'
     rw[Fq]at hj
     split at hj
     ·rename_i hjx
      obtain⟨k,a,v⟩:=u
      obtain⟨k2,a2,v2⟩:=y
      dsimp only at e
      subst e
      have:=idxH_unique hno hj hy
      omega
     ·cases hj
   show aA _ _ (holding [eG y.2.1,y.2.2] (dictSetHashed d (.ref y.2.1) (knd.hash y.1) y.2.2)>>=_) _ _ _
   refine ak (iN (yG (s:={s with heap:=h'}) hu (knd.keeps (hko y my) hod RP EF) Lk aP4 (by rw[bU,ku];omega) fun BB aP5 av8=>?_))
   have av9:BB.get? o=some oo:=(av8.2 o (dZ hdo)).trans av7
   refine ak (nR (s:={s with heap:=BB}) av9 PX ?_)
   rw[aX0 (by simp)]
   exact aB ⟨BB,x+1,rfl,Oo,ie,by
    rw[Mw,hy,<- f9];exact aP5,EF.trans av8⟩
  ·rintro b s' ⟨h',i,rfl,hr,hi,Lk,EF⟩
   have S4:i=Lz.size:=by
    rcases M9 i Lz.size with h|h
    ·have e1:Lz.size-i=(Lz.size-(i+1))+1:=by omega
     rw[e1,MC]at hr;cases hr
    ·exact M7 hi h
   rw[S4,<- hlen,vK]at Lk
   exact aB (hQ h' Lk EF)
end
end Hk
namespace Dm
open PySem PySem.Spec PyProof.Rows L2
def WM(K:aD):V->List V->Hp->VK->Prop:=fun x xs H Q=>∃a c oa oc ps qs qN lss,x = .ref a/\xs=[.ref c]/\a≠c/\H a=some (.ext (DY a oa ps))/\H c=some (.ext (DY c oc qs))/\(∀p∈ps,jh K H p.1 p.2.1)/\(∀p∈qs,jh K H p.1 p.2.1)/\KL K H ps qN/\KL K H qs lss/\
 (∀k∈lss,k∉qN)/\(ps=[]->qs.length<=1)/\ps.length+qs.length<=cG/\∀oa',ps.map (·.1)=qN->qs.map (·.1)=lss->Q .cM (upd H a (.ext (DY a oa' (ps++qs))))
def Ut(hu:X.A.units+2<cLine):MtR X "dict.update" (WM X.K):=by
 intro ao s σ H x xs v us Q I rx rv h;obtain ⟨a,c,oa,oc,ps,qs,qN,lss,rfl,rfl,nac,ha,hc,hka,hkc,la,lc,dis,n8,hz,q⟩:=h;cases rx;obtain ⟨u,rfl,ru⟩:=vals1 rv;cases ru;obtain ⟨da,za,_⟩:=lC I ha hka;obtain ⟨dc,zc,_⟩:=lC I hc hkc;have ea:=keys_eq I hka la;have ec:=keys_eq I hkc lc;have hT:=da.typeIs;have hTc:=dc.typeIs;refine gF Nh hT PySem.F.entry_dict_update ?_ (PySem.F.args_dict_update_2 _ _);(unfold Builtin.«dict.update»);(refine ak ?_);(unfold Builtin.Dict.selfAndRest);(refine ak (EX hT ?_));(show aA _ _ (pure (a,[eG c])) _ _ s);(refine aB ?_);(show aA _ _ (Builtin.Dict.updateFrom "dict.update" a (.ref c) [] .none) _ _ s);(unfold Builtin.Dict.updateFrom);(refine ak (Ag hTc ?_));(rw[aX0 (by decide)]);(refine ak ?_);(unfold Builtin.Dict.merge);(refine ak ?_);(unfold Builtin.Dict.readDirectly);(refine ak (qc hTc isSubtype_dict_dict ?_));(simp only[iC,cP,aX7]);(refine ak (nP hTc PySem.F.slot_dict_iter.lookup (aB ?_)));(simp only[aY0,aX8]);refine ak (aB (Hk.Hg (knd:=Hk.jS (intKind X.prog X.w)) (show X.A.units+1+1 < cLine from hu) nac zc da dc (fun y m=>?_) n8 (fun y m=>?_) hz fun h' dd hs=>?_));rw[ea];exact dis _ (by rw[<- ec];exact aL.mpr ⟨y,m,rfl⟩);exact(lV I (hkc y m)).tuple;(show aA _ _ (Builtin.Dict.addKeywords a []>>=_) _ _ _);(refine ak (aB (aB ⟨.none,rfl,?_⟩)));have he:∃q,h'.get? a=some q:=let ⟨q,_,_,hq,_⟩:=dd;⟨q,hq⟩;obtain ⟨oa',dy⟩:=DY.of za (by rw[bU];exact hz) dd;exact⟨.cM,_,I.write (t':=s.toks) (x:=a) (e:=a) (by rw[ha];trivial) (.inl rfl) (fun b w hb z=>(hs.2 b hb).trans z) he (Dt dy),rfl,q _ ea ec⟩
def aw1(r:V->List V->Hp->VK->Prop)(to:TE)(t:TA):TE:=fun σ H Q=>to σ H fun x H1=>(∃a o ps,x = .ref a/\H1 a=some (.ext (DY a o ps)))/\t σ H1 fun xs H2=>r x xs H2 Q
def PY{to:TE}{t:TA}{name:Str}{apos i9:Pos}{id:String}{r:V->List V->Hp->VK->Prop}(slot:PySem.Slot "dict" name id)(hty:typeOf (.builtin id)=pure (.type "method_descriptor"))(hm:MtR X id r)(ho:PE X o to)(ha:PA X (e::es) t)
  (rg:autoParam (mO o name X.env (eval o X.env)=eval o X.env) zu0._auto_1)
  (NW:autoParam (((backTo i9 (bH (e::es) X.env)).all (fun x=>!x.1)&&(backToKw i9 (keywordEach [] X.env)).all (fun x=>x.1.isSome)
   && decide ((e::es).length+([]:List Keyword).length+(if([]:List Keyword).isEmpty then 0 else 1)<30))=true) zu0._auto_1)
  (rj:autoParam ((apos.endLine==i9.line)=true) zu0._auto_1) (hs:autoParam (bH (e::es) X.env=(false,eval e X.env)::bH es X.env) zu0._auto_1) (qv:autoParam ((backTo i9 (bH es X.env)).any (·.1)=false) zu0._auto_1) :
  PE X (.Call (.Attribute o name apos) (e::es) [] i9) (aw1 r to t):=by
 intro ao s σ H Q I h;refine LG rg NW rj rfl (gv (ho ao s σ H _ I h) fun v s1 zz=>?_);obtain⟨x,H1,I1,r1,⟨a,oo,ps,rfl,hx⟩,q1⟩:=zz;cases r1;obtain⟨⟨_,_,hg,qY,_⟩,_,_⟩:=(show gk X.prog X.w H1 s1.heap a (.ext (DY a oo ps))from I1.eU a _ hx)
 refine⟨"dict",id,Ni,slot,hty,⟨oo,hg,qY.1⟩,fun b e=>?_,?_⟩;cases e;exact⟨oo,hg,qY.2.1⟩;have hA:=ha i9 ao s1 σ H1 _ I1 q1;rw[hs]at hA ⊢;refine FG (by show(false || (backTo i9 (bH es X.env)).any (·.1))=false;rw[qv] <;> rfl) (FH ?_);exact gv hA fun us s2 zz=>by obtain⟨vs,H2,I2,r2,q2⟩:=zz;exact hm ao s2 σ H2 (.ref a) vs (.ref a) us Q I2 rfl r2 q2
def Kx(i:Nat)(f:DF):DS:=fun st=>match ez st[i]? with
 | some z=>(match f st with
  | .ok d=>(match ez (some (some d))with
   | some y=>if z.2.length+y.2.length<=5000/\(∀k∈y.2.map (·.1),k∉z.2.map (·.1))/\(z.2=[]->y.2.length<=1)then .nx (st.set i (some (.bJ 2 (z.1++y.1))))else .bad
   | none=>.bad)
  | .ex c p=>.ex c p st
  | .bad=>.bad)
 | none=>.bad
def PZ{ps:List SP}{vs:List V}(h:vs.length=ps.length):jT (ps++qs) (vs++ws)=jT ps vs++jT qs ws:=by
 unfold jT;rw[MB h.symm,nZ]
theorem Vals.Hf:∀{vs ws:List V} {us ts:List au},Vals vs us->Vals ws ts->Vals (vs++ws) (us++ts)
 | _,_,_,_,.nil,h=>h
 | _,_,_,_,.cons r t,h=>.cons r (Vals.Hf t h)
def Ze(h:PE X e (aw1 (WM X.K) (uL i) (wJ (tD X.K (cz Cb gl) G0 Γ E f κ) JD)))(na:lB Γ=true)(hk:autoParam (Γ[i]?=some (.own n)) zu0._auto_1)(hl:autoParam (κ.le (WH n)=true) zu0._auto_1)(hs:autoParam (swapsWith e none pos.line X.env=pure false) zu0._auto_1) :
  PS X (.Expr e pos) (nK X.K (cz Cb gl) G0 Γ E jq (Kx i f)):=(uU h hs).imp fun D σ H zz=>by
 obtain⟨A,st,r,q⟩:=zz;unfold Kx at q;cases pG:ez st[i]? with
 | none=>rw[pG]at q;exact q.elim
 | some z=>
  rw[pG]at q;obtain⟨pG,PJ⟩:=ji pG;obtain⟨ds,l⟩:=z;dsimp only at q pG PJ;obtain⟨p,h1,h2,h3,t2,xs,ow,h5⟩:=r.Bo hk pG rfl;obtain⟨ob,ps,vs,rfl,rel,hp,kp,pl⟩:=ow;refine⟨_,h1,⟨p,ob,ps,rfl,hp⟩,A,st,r,?_⟩;cases hf:f st with
  | bad=>rw[hf]at q;exact q
  | ex c p=>rw[hf]at q;exact fun H' e'=>q σ H' A (r.mono e') (aI e')
  | ok d=>
   rw[hf]at q;dsimp only at q;intro v H1 e1 w1;cases hy:ez (some (some d))with
   | none=>rw[hy]at q;exact q.elim
   | some y=>
    rw[hy]at q;obtain⟨hd,Q0⟩:=ji hy;obtain⟨Cr,l2⟩:=y;cases hd;dsimp only at q Q0;by_cases hc:l.length+l2.length<=5000/\(∀k∈l2.map (·.1),k∉l.map (·.1))/\(l=[]->l2.length<=1);rw[aW9 hc]at q;have r':=r.mono e1;have S:aE (eh n G0 A H) (eh n G0 A H1):=by unfold eh;cases n;exact aI e1;exact bP (aI e1)
    have S2:aE (eh n G0 A H1) H1:=by unfold eh;cases n;exact aG _ _;exact(cN _ _).trans (aG _ _)
    have q5:aH X.K (cz Cb gl) (eh n G0 A H1) ds (jT ps vs):=h5.same S _;have hlen:vs.length=ps.length:=by rw[oY rel,bf]
    obtain⟨_,i2,_,_⟩:=mF hlen q5 PJ;have RZ:∀x∈ps,jh X.K (eh n G0 A H1) x.1 x.2.1:=fun x m=>(kp x m).mono S;have wd:Rep X.K (cz Cb gl) (eh n G0 A H1) (.bJ 2 Cr) v:=w1.WH r e1 hl;have wd':=wd;obtain⟨c,oc,qs,ws,rfl,g1,g2,g3,g5,g4,g6,_⟩:=kM wd Q0;rw[Rep]at wd';have q6:∃oc' qs' ws',Vals ws' (qs'.map (·.2.2))/\eh n G0 A H1 c=some (.ext (DY c oc' qs'))/\(∀x∈qs',jh X.K (eh n G0 A H1) x.1 x.2.1)/\(∀l,V.ref l∈ws'->∃ys,eh n G0 A H1 l=some (.lst ys))/\aH X.K (cz Cb gl) (eh n G0 A H1) Cr (jT qs' ws'):=by obtain⟨c',ys,zc,OH,rs⟩:=wd';cases zc;rcases OH with(⟨z,_⟩|⟨c,z,_⟩)|⟨z,_⟩|⟨_,o',JM,vs',rfl,k2,k3,k4,k5⟩;cases z;unfold U6 at z;lia;cases z;exact⟨o',JM,vs',k2,k3,k4,k5,rs⟩
    clear g1 g2 g3 g5 g4 g6;obtain⟨oc,qs,ws,g1,g2,g3,g5,q6⟩:=q6;have aw2:ws.length=qs.length:=by rw[oY g1,bf]
    obtain⟨_,g4,_,_⟩:=mF aw2 q6 Q0;have npc:p≠c:=fun z=>by
     subst z;unfold eh at g2;cases n with
     | true=>have:=cN _ _ _ _ g2;rw[dH h2]at this;cases this
     | false=>rw[aX0 (by decide),dH h2]at g2;cases g2
    have e1l:l.length=ps.length:=by have:=i2.1;rw[bf]at this;exact this
    have e2l:l2.length=qs.length:=by have:=g4.1;rw[bf]at this;exact this
    refine⟨p,c,ob,oc,ps,qs,_,_,rfl,rfl,npc,e1 _ _ hp,S2 _ _ g2,fun x m=>(RZ x m).mono S2,fun x m=>(g3 x m).mono S2,⟨i2.1,fun z m=>(i2.2 z m).mono S2⟩,⟨g4.1,fun z m=>(g4.2 z m).mono S2⟩,hc.2.1,fun z=>?_,?_,fun oa' _ _=>?_⟩;rw[<- e2l];exact hc.2.2 (nV.mp (by rw[e1l,z];rfl));rw[fQ];have:=hc.1;lia;have own:kX X.K (cz Cb gl) (eh n G0 A H1) (upd H1 p (.ext (DY p oa' (ps++qs)))) p (.bJ 2 (ds++Cr)):=by refine⟨rfl,jT (ps++qs) (vs++ws),⟨_,_,_,rfl,by rw[gu];exact Vals.Hf rel g1,bS,fun x m=>?_,fun l' m=>?_⟩,?_⟩;rcases gh.mp m with m|m;exact RZ x m;exact g3 x m;rcases gh.mp m with m|m;obtain⟨ys,z⟩:=pl l' m;exact⟨ys,S _ _ z⟩;exact g5 l' m;rw[PZ hlen];exact aH.Hf q5 q6
    obtain⟨r2,e3⟩:=r'.TV na hk pG h1 h2 h3 rfl rfl own;exact q _ _ A r2 ((aI e1).trans e3);rw[aX0 hc]at q;exact q.elim
end Dm
namespace Hk
open PySem
def Hh{Q:au->ay->Prop}(ho:s.heap.get? d=some od)(hx:od.ExactDict)(hd:(d==nN)=false)(hQ:Q (.ref s.heap.objs.size) {s with heap:=s.heap.push {cls:=.type "dict_items",data:=.fields #[.ref d]}}):aA (aC prog w) A (call (.builtin "dict.items") [.ref d]) Q E s:=by
 have hT:s.TypeIs (.ref d) "dict":=⟨od,ho,hx.1⟩
 refine gF F.slot_dict_items hT F.entry_dict_items ?_ (F.args_dict_items_1 _);(unfold Builtin.«dict.items»);(refine ak ?_);(unfold Builtin.Dict.noArgs);(refine ak (EX hT ?_));(show aA _ _ (pure d) _ _ s);(refine aB ?_);(show aA _ _ (w6 d>>=_) _ _ s);(unfold w6);(rw[aX0 (by rw[hd];exact iS)]);exact ak (aB (ak (nF (aB ⟨_,rfl,hQ⟩))))
def Hi{Q:au->ay->Prop}(hv:s.heap.IsItemsView v d)(ho:s.heap.get? d=some od)(iE:od.data = .dict es ep)
  (hQ:Q (.ref s.heap.objs.size) {s with heap:=s.heap.push {cls:=.type "dict_itemiterator",data:=.fields #[.none,.bool false,.ref d,.int 0 0,.int es.size 0,.int ep 0,.none,.none]}}):aA (aC prog w) A (pyIter (.ref v)) Q E s:=by
 obtain ⟨ov,hov,hcv,hdv⟩:=id hv;refine Af hv.typeIs Nj (gF Nj hv.typeIs F.entry_dict_items_iter ?_ (F.args_dict_items_iter_1 _));(unfold Builtin.«dict_items.__iter__»);(refine ak (aB (ak ?_)));(unfold Builtin.Dict_items.dictOf);(refine ak (pZ hov hdv (x:=.ref d) rfl (aB (ak ?_))));(unfold Builtin.Dict_items.newIterator);(refine ak (jI ho iE (ak (nR ho iE ?_))));(have own:w9 "dict_itemiterator" =true:=by decide);(simp only[own,aX8]);refine nF (aB ⟨_,rfl,"dict_itemiterator",_,⟨_,dW _ rfl,rfl⟩,vY.lookup,by simpa[rawInt,Builtin.Dict_items.ownedTupleFields] using hQ⟩) (by
  simp only[sizeOk,Builtin.Dict_items.ownedTupleFields,d8,bU,cK,nX,fQ];omega)
def Hj{Q:Option au->ay->Prop}(hit:IsItemIter s.heap it d i es.size ep ok ov)(ho:s.heap.get? d=some od)(iE:od.data = .dict es ep)(hx:es[i]?=some e)
  (hQ:∀h',IsItemIterOut h' it d (i+1) es.size ep e.key e.val s.heap.objs.size->h'.get? s.heap.objs.size=some {cls:=.type "tuple",data:=.seq #[e.key,e.val]}->h'.objs.size=s.heap.objs.size+1->
   (∀b o,b≠it->s.heap.get? b=some o->h'.get? b=some o)->Q (some (.ref s.heap.objs.size)) {s with heap:=h'}):aA (aC prog w) A (pyNext (.ref it)) Q E s:=by
 obtain⟨hp,g,dr,tk,os⟩:=s;have hT:Shared.TypeIs ⟨hp,g,dr,tk,os⟩ (.ref it) "dict_itemiterator":=⟨_,hit,rfl⟩
 have own:w9 "dict_itemiterator"=true:=by decide
 have ie:i<es.size:=(oj.mp hx).1;have he:es[i]=e:=(oj.mp hx).2;unfold pyNext;refine ak (nO (q9 (name:=kC "__next__") hT vY (gF vY hT Nk ?_ (Nl _))));(refine ak (aB (ak (ak ?_))));(first|refine ak (Ai hT (aB ?_))|refine ak (Aj hT (aB ?_)));(refine ak (sN hit rfl ?_));(simp only[own,aX8]);(show aA _ _ (if(eG d==dI)=true then _ else _) _ _ _);(rw[aX0 (show ¬ ((eG d==dI)=true)from iS)]);(refine ak (aB (ak (jI ho iE ?_))));(rw[aX0 (by simp)]);(refine ak (aB (ak (nR ho iE ?_))));(rw[aX0 (by simp)]);(refine aB ?_);(simp only[show ¬ ((i:Int)<0)from by omega,aX7,jM,vS ie,he]);(refine ak ?_);(first|refine ak (Ai hT (aB ?_))|refine ak (Aj hT (aB ?_)));(refine ak (EY hT ?_));(show aA _ _ (setField (.ref it) 3 (rawInt ((i:Int)+1))>>=_) _ _ ⟨hp,g,dr,tk,os⟩);(refine ak (vC hit (by simp) fun h1 f1 s1=>?_));replace s1:gH it hp h1:=s1;replace f1:IsItemIter h1 it d (i+1) es.size ep ok ov:=by
  have z:((i+1:Nat):Int)=(i:Int)+1:=by omega
  unfold IsItemIter;rw[z];simpa[rawInt]using f1
 have hT1:Shared.TypeIs ⟨h1,g,dr,tk,os⟩ (.ref it) "dict_itemiterator":=⟨_,f1,rfl⟩
 refine ak (iN (ak (EY hT1 (ak (EY hT1 ?_)))));(show aA _ _ (Builtin.Dict_items.pairFromOwner (.ref it) 6 e.key e.val) _ _ ⟨h1,g,dr,tk,os⟩);(unfold Builtin.Dict_items.pairFromOwner);(refine ak (EN ?_));have f2:IsItemIter (h1.push {cls:=.type "tuple",data:=.seq #[e.key,e.val]}) it d (i+1) es.size ep ok ov:=bM _ f1;have z1:h1.objs.size=hp.objs.size:=s1.1;have hil:hp.objs.size≠it:=Ce (bY hit);have t2:(h1.push {cls:=.type "tuple",data:=.seq #[e.key,e.val]}).get? hp.objs.size=some {cls:=.type "tuple",data:=.seq #[e.key,e.val]}:=by rw[<- z1];exact dW _ rfl
 have z2:(h1.push {cls:=.type "tuple",data:=.seq #[e.key,e.val]}).objs.size=hp.objs.size+1:=by rw[yZ,z1]
 have k2:∀b o,b≠it->hp.get? b=some o->(h1.push {cls:=.type "tuple",data:=.seq #[e.key,e.val]}).get? b=some o:=fun b o hb q=>bM _ (s1.extBut b o hb q);rw[z1];generalize h1.push {cls:=.type "tuple",data:=.seq #[e.key,e.val]}=h2 at f2 t2 z2 k2 ⊢;(show aA _ _ (Builtin.Dict_items.ownedTupleIsFree (.ref it)>>=_) _ _ ⟨h2,g,dr,tk,os⟩);(refine ak ?_);(unfold Builtin.Dict_items.ownedTupleIsFree);(refine ak (pZ f2 rfl (x:=.none) rfl (aB ?_)));simp only[aX8];refine ak (pZ f2 rfl (x:=ok) rfl (ak (pZ f2 rfl (x:=ov) rfl (ak (vC f2 (by simp) fun h3 f3 s3=>?_)))));replace s3:gH it h2 h3:=s3;replace f3:IsItemIter h3 it d (i+1) es.size ep e.key ov:=f3;refine ak (vC f3 (by simp) fun h4 f4 s4=>?_);replace s4:gH it h3 h4:=s4;replace f4:IsItemIter h4 it d (i+1) es.size ep e.key e.val:=f4;refine ak (vC f4 (by simp) fun h5 f5 s5=>?_);replace s5:gH it h4 h5:=s5;replace f5:IsItemIterOut h5 it d (i+1) es.size ep e.key e.val hp.objs.size:=f5;refine ak (vC f5 (by simp) fun h6 f6 s6=>?_);replace s6:gH it h5 h6:=s6;replace f6:IsItemIterOut h6 it d (i+1) es.size ep e.key e.val hp.objs.size:=f6;have all:∀b o,b≠it->h2.get? b=some o->h6.get? b=some o:=fun b o hb q=>s6.extBut b o hb (s5.extBut b o hb (s4.extBut b o hb (s3.extBut b o hb q)));exact ak (EW (aB (aB ⟨_,rfl,aB (hQ h6 f6 (all _ _ hil t2) (by show h6.objs.size=_;rw[s6.1,s5.1,s4.1,s3.1,z2]) fun b o hb q=>all b o hb (k2 b o hb q))⟩)))
def Ky{Q:Option au->ay->Prop}(hh:A.handled=none)(hit:IsItemIter s.heap it d i es.size ep ok ov)(ho:s.heap.get? d=some od)(iE:od.data = .dict es ep)(hx:es.size<=i)
  (hQ:∀h',Heap.ExtBut it s.heap h'->Q none {s with heap:=h'}):aA (aC prog w) A (pyNext (.ref it)) Q E s:=by
 have hT:s.TypeIs (.ref it) "dict_itemiterator":=⟨_,hit,rfl⟩
 have own:w9 "dict_itemiterator"=true:=by decide
 unfold pyNext;refine ak (nO (q9 (name:=kC "__next__") hT vY (gF vY hT Nk ?_ (Nl _))));(refine ak (aB (ak (ak ?_))));(first|refine ak (Ai hT (aB ?_))|refine ak (Aj hT (aB ?_)));(refine ak (sN hit rfl ?_));(simp only[own,aX8]);(show aA _ _ (if(eG d==dI)=true then _ else _) _ _ s);(rw[aX0 (show ¬ ((eG d==dI)=true)from iS)]);(refine ak (aB (ak (jI ho iE ?_))));(rw[aX0 (by simp)]);(refine ak (aB (ak (nR ho iE ?_))));(rw[aX0 (by simp)]);(refine aB ?_);(simp only[show ¬ ((i:Int)<0)from by omega,aX7,jM,qk hx]);(refine ak ?_);(first|refine ak (Ai hT (aB ?_))|refine ak (Aj hT (aB ?_)));(show aA _ _ (setField (.ref it) 2 .none>>=_) _ _ s);(refine ak (q8 hit rfl (by simp) ?_));(show aA _ _ (newExc (.type "StopIteration") []>>=_) _ _ _);(refine ak ?_);(simp only[newExc,newTuple]);(refine ak (nF ?_ (by size_fits)));(refine ak (m:=sO _ _) (sJ (a:=dI) (by first|rfl|(simp only[sO];rfl)) ?_));(refine nF ?_ (by size_fits));(simp only[raiseNew]);(refine ak (ER ?_));(rw[show A.in1.handled=none from hh]);(refine ak (aB (ES ?_)));(refine ak (qc (T:="StopIteration") (b:=true) ⟨_,dW _ rfl,rfl⟩ ET ?_));exact aB (hQ _ (((eS ..).extBut.push _).push _))
end Hk
namespace Dm
open PySem PySem.Spec PyProof.Rows L2
def ItY(a:av)(o:Obj)(ps:List SP)(vs:List V):It:=
 ⟨fun i H=>H a=some (.ext (DY a o ps))/\i<ps.length,fun i H x H'=>∃T p y,ps[i]?=some p/\vs[i]?=some y/\H T=none/\H'=upd H T (.tup [.ref p.2.1,y])/\x = .ref T,fun i H=>H a=some (.ext (DY a o ps))/\ps.length<=i⟩
def Hl:entryFor table "dict_itemiterator.__iter__" =some Builtin.«dict_keyiterator.__iter__» :=
 entryFor_alias (id':="dict_keyiterator.__iter__") (by kernel_rfl) (by first|rfl|decide +kernel) (by decide +kernel) (by kernel_rfl)
theorem DC:∀{vs:List V} {us:List au} {i:Nat} {u:au},Vals vs us->us[i]?=some u->∃v,vs[i]?=some v/\RelV v u
 | _,_,_,_,.nil,h=>by cases h
 | _,_,0,_,.cons r t,h=>by cases h;exact⟨_,rfl,r⟩
 | _,_,i+1,_,.cons r t,h=>let⟨v,h1,h2⟩:=DC t (i:=i) h;⟨v,h1,h2⟩
def DE{P:cS}{w:bI}{K:aD}{elts:List bg}{x1}{pos:Pos}{a it:av}{o:Obj}{ps:List SP}{vs:List V}{es:Array qd}{ep:Nat}(iE:o.data = .dict es ep)(rel:Vals vs (ps.map (·.2.2)))(CZ:∀(P:cS) (w:bI),es.toList=ps.map (pN (Hk.jS (intKind P w)))) :
  Turn P w K (.Tuple elts x1 pos) (ItY a o ps vs) [it] it (fun i h=>∃ok ov,IsItemIter h it a i es.size ep ok ov) where
 mem:=by simp
 obj:=fun i h st b hb=>by
  obtain⟨ok,ov,he⟩:=st;obtain rfl:b=it:=by simpa using hb
  exact⟨_,he,fun v z=>by cases z⟩
 keep:=fun i h h' st k=>by
  obtain⟨ok,ov,he⟩:=st;exact⟨ok,ov,k it (by simp) _ he⟩
 item:=by
  intro X hP hw hK hc i ao s σ H E I hf st hg;subst hP hw hK;obtain⟨ok,ov,he⟩:=st;obtain⟨ha,hi⟩:=hg;obtain⟨⟨Iz,hz,ho,hx,_⟩,_,_⟩:=(show gk X.prog X.w H s.heap a (.ext (DY a o ps))from I.eU a _ ha)
  have CZ:=CZ X.prog X.w;obtain⟨p,hp⟩:∃p,ps[i]?=some p:=⟨ps[i],dz hi⟩
  obtain⟨y,hy,ry⟩:=DC rel (i:=i) (u:=p.2.2) (by rw[cY,hp];rfl);have hen:es[i]?=some (pN (Hk.jS (intKind X.prog X.w)) p):=by rw[entry_at CZ,hp];rfl
  have fi:=hf it (by simp);have hn:H s.heap.objs.size=none:=I.eU.fresh (aZ _);refine Hk.Hj he ho iE hen fun h' Bw hT hsz hk=>⟨_,rfl,?_⟩
  have kp:∀b o,b∉[it]->s.heap.get? b=some o->h'.get? b=some o:=fun b o hb q=>hk b o (fun z=>hb (by simp[z])) q;have lt:∀b o,s.heap.get? b=some o->b≠s.heap.objs.size:=fun b o q=>dh (bY q);have I1:L2.Inv X ao σ (upd H s.heap.objs.size (.tup [.ref p.2.1,y])) {s with heap:=h'}:=by
   refine Inv.Ct I (s':={s with heap:=h'}) (ch:=[it]) rfl ⟨fun b o q n nf nx=>kp b o nx q,fun b o q n nf nx=>⟨o.slots,kp b o nx q⟩,fun b o q n nx=>?_,fun b o q nx=>⟨o,kp b o nx q⟩,fun b ys q=>?_,fun b o u' q=>?_,fun b zp zr q=>?_⟩ (fun b o q=>?_) I.bare (fun b hb=>?_);rw[aR (lt b o q)];exact n;rw[aR (aY q hn)];exact q;rw[aR (aY q hn)];exact q;rw[aR (aY q hn)];exact q;by_cases hb:b=s.heap.objs.size;subst hb;rw[bS]at q;cases q;exact⟨by simp only[cK,nX];rw[fQ];decide,[.ref p.2.1,p.2.2],.cons rfl (.cons ry .nil),⟨_,hT,rfl,0,rfl⟩⟩;rw[aR hb]at q;refine(I.eU b o q).yt (fun c v uK z=>kp c v ?_ z) (fun c z=>by rw[aR (aY z hn)];exact z) (fun c ys z=>by rw[aR (aY z hn)];exact z) fun c zo ys z=>by rw[aR (aY z hn)];exact z
   intro hm;obtain rfl:c=it:=by simpa using hm
   rcases uK with rfl|uK;rw[fi.1]at q;cases q;rw[fi.1]at uK;cases uK;refine uI (hf b hb) fun f0 f1 f2 f3 f4 f5=>?_;exact⟨f3,f1,f4,f5⟩
  have ni:it≠s.heap.objs.size:=lt it _ he;obtain⟨f0,f1,f2,f3,f4,f5⟩:=fi;refine wpAny_letOwnedTupleGo_items Bw fun h2 RY XH=>?_;have I2:L2.Inv X ao σ (upd H s.heap.objs.size (.tup [.ref p.2.1,y])) {s with heap:=h2}:=I1.turned (t':=s.toks) (fun b o hb q=>(XH.2 b hb).trans q) (by rw[aR ni];exact f0) f1 f3 f4 f5;refine⟨.ref s.heap.objs.size,_,I2,rfl,⟨_,p,y,hp,hy,hn,rfl,rfl⟩,⟨_,_,RY⟩,fun b hb=>?_⟩;obtain rfl:b=it:=by simpa using hb
  rw[aR ni];exact f0
 done:=by
  intro X hP hw hK hc i ao s σ H E I hf st hg;subst hP hw hK;obtain⟨ok,ov,he⟩:=st;obtain⟨ha,hi⟩:=hg;obtain⟨⟨Iz,hz,ho,hx,_⟩,_,_⟩:=(show gk X.prog X.w H s.heap a (.ext (DY a o ps))from I.eU a _ ha)
  obtain⟨f0,f1,f2,f3,f4,f5⟩:=hf it (by simp);exact Hk.Ky (I.ok.hd hc) he ho iE (by rw[nQ (CZ X.prog X.w)];exact hi) fun h' eb=>⟨rfl,I.turned (t':=s.toks) (fun b o hb e=>eb b o hb e) f0 f1 f3 f4 f5⟩
 self:=fun A i s Q E st h=>by
  obtain⟨ok,ov,he⟩:=st;have hT:s.TypeIs (.ref it) "dict_itemiterator":=⟨_,he,rfl⟩
  exact Af hT Nm (gF Nm hT Hl (by
   show aA _ _ (ret (.ref it)) _ _ s;exact aB ⟨_,rfl,"dict_itemiterator",_,hT,PySem.F.slot_dict_itemiterator_next.lookup,h⟩) (PySem.F.args_dict_itemiterator_iter_1 _))
def aP7(to:TE):TI:=fun σ H R=>to σ H fun x H1=>∃a o ps vs,x = .ref a/\H1 a=some (.ext (DY a o ps))/\Vals vs (ps.map (·.2.2))/\R (ItY a o ps vs) H1
def Kz{to:TE}{apos i9 tp:Pos}(ho:PE X o to)(rg:autoParam (mO o "items" X.env (eval o X.env)=eval o X.env) zu0._auto_1)(rj:autoParam ((apos.endLine==i9.line)=true) zu0._auto_1):PI X (.Tuple elts x1 tp) (.Call (.Attribute o "items" apos) [] [] i9) (aP7 to):=by
 intro ao s σ H R I h;refine wpAny_Call_method0_late rg rj (gv (ho ao s σ H _ I h) fun v s1 zz=>?_);obtain⟨x,H1,I1,r1,a,oo,ps,vs,rfl,hx,rel,q1⟩:=zz;cases r1;obtain⟨⟨Iz,hz,hg,qY,es,ep,iE,CZ,hn⟩,_,_⟩:=(show gk X.prog X.w H1 s1.heap a (.ext (DY a oo ps))from I1.eU a _ hx)
 refine⟨"dict","dict.items",Ni,PySem.F.slot_dict_items,PySem.F.type_dict_items,⟨oo,hg,qY.1⟩,fun b e=>?_,?_⟩;cases e;exact⟨oo,hg,qY.2.1⟩;refine FG rfl (PySem.evalArgs_none (Hk.Hh hg qY Iz ?_));refine Hk.Hi (d:=a) (od:=oo) (es:=es) (ep:=ep) ⟨_,dW _ rfl,rfl,rfl⟩ (bM _ hg) iE ?_;have k2:∀b u,s1.heap.get? b=some u->((s1.heap.push {cls:=.type "dict_items",data:=.fields #[.ref a]}).push {cls:=.type "dict_itemiterator",data:=.fields #[.none,.bool false,.ref a,.int 0 0,.int es.size 0,.int ep 0,.none,.none]}).get? b=some u:=fun b u z=>bM _ (bM _ z);refine⟨_,[_],_,_,H1,rfl,I1.kept (t':=s1.toks) k2,DE iE rel CZ,⟨_,_,dW _ rfl⟩,fun b hb=>?_,q1⟩;have n6:s1.heap.objs.size<=b:=by
  obtain rfl:b=_:=by simpa using hb
  exact vE _
 exact I1.Jw n6 (I1.eU.fresh n6)
def xH(f:DF):DI:=fun st=>match f st with
 | .ok d=>(match ez (some (some d))with|some y=>.ok (y.2.map fun t=>.tup [t.2.1,t.2.2])|none=>.bad)
 | .ex c p=>.ex c p
 | .bad=>.bad
def Q2{apos i9:Pos}(ha:PE X o (tD X.K (cz Cb gl) G0 Γ E f κ))(l:z=true->κ.le .old=true)(rg:autoParam (mO o "items" X.env (eval o X.env)=eval o X.env) zu0._auto_1)(rj:autoParam ((apos.endLine==i9.line)=true) zu0._auto_1) :
  PI X (.Tuple elts x1 tp) (.Call (.Attribute o "items" apos) [] [] i9) (EJ X.K (cz Cb gl) G0 Γ E z (xH f)):=(Kz ha rg rj).imp fun σ H Q zz=>by
 obtain⟨A,st,r,q⟩:=zz;refine⟨A,st,r,?_⟩;unfold xH at q;cases hf:f st with
 | bad=>rw[hf]at q;exact q
 | ex c p=>rw[hf]at q;exact q
 | ok d=>
  rw[hf]at q;dsimp only at q;intro v H1 e1 w;cases hy:ez (some (some d))with
  | none=>rw[hy]at q;exact q.elim
  | some y=>
   rw[hy]at q;obtain⟨hd,Q0⟩:=ji hy;obtain⟨ds,lp⟩:=y;cases hd;dsimp only at q Q0;have w':Rep X.K (cz Cb gl) (er H1 (zB z A)) (.bJ 2 ds) v:=by
    unfold zB;cases z with
    | true=>exact w.le r e1 (κ':=.old) (l rfl)
    | false=>rw[aX0 (by decide),lU];exact w.rep
   obtain⟨a,oo,ps,vs,rfl,g1,g2,g3,g5,g4,g6,g7⟩:=kM w' Q0;have B9:ps.length=lp.length:=by rw[<- g4.1,bf]
   refine⟨a,oo,ps,vs,rfl,aG _ _ _ _ g2,g1,q _ _ e1 fun i H3 A3 e3 nA=>⟨fun d hd=>?_,fun hd=>?_⟩⟩;rw[cY]at hd;cases sG:lp[i]? with
   | none=>rw[sG]at hd;cases hd
   | some t=>
    rw[sG]at hd;cases hd;have hi:i<ps.length:=by rw[B9];exact(fR.mp sG).1
    have ga:H3 a=some (.ext (DY a oo ps)):=(e3.trans (aG _ _)) _ _ g2;refine⟨⟨ga,hi⟩,fun x H' pR=>?_⟩;obtain⟨T,p,y,hp,Ly,hT,hH,ex⟩:=pR;subst hH ex;obtain⟨v1,hv1,rv1⟩:=g6.get' (show(lp.map (·.2.2))[i]?=some t.2.2 by rw[cY,sG];rfl);rw[Ly]at hv1;cases hv1;obtain⟨v2,hv2,rv2⟩:=g7.get' (show(lp.map (·.2.1))[i]?=some t.2.1 by rw[cY,sG];rfl);rw[cY,hp]at hv2;cases hv2;have nT:T∉A3:=fun m=>nA T m hT;refine⟨cH hT,?_⟩;have up:aE (er H3 A3) (er (upd H3 T (.tup [.ref p.2.1,y])) A3):=aI (cH hT);rw[Rep];refine⟨T,_,rfl,.inl (.inl (by rw[aU nT,bS])),?_⟩;rw[aH];refine⟨_,[y],rfl,rv2.same (e3.trans up) _,?_⟩;rw[aH];refine⟨y,[],rfl,rv1.same (e3.trans up) _,?_⟩;rw[aH]
   rw[cY]at hd;have hn:lp[i]?=none:=by cases sG:lp[i]? with|none=>rfl|some t=>rw[sG]at hd;cases hd
   exact⟨(e3.trans (aG _ _)) _ _ g2,by rw[B9];exact mU.mp hn⟩
def rX(s:Str)(f:DF):DF:=fun st=>match f st with
 | .ok d=>(match d with | .lst ds=>.ok (.tup [.str s,.lst ds])|_=>.bad)
 | .ex c p=>.ex c p
 | .bad=>.bad
def IP(hc:PE X c (tD X.K C G0 Γ E (dC (.str s)) .new))(he:PE X e (tD X.K C G0 Γ E f .loc))(h1:autoParam (bH [c,e] X.env=[(false,eval c X.env),(false,eval e X.env)]) zu0._auto_1)(h2:autoParam (bH [e] X.env=[(false,eval e X.env)]) zu0._auto_1) :
  PE X (.Tuple [c,e] x1 pos) (tD X.K C G0 Γ E (rX s f) .loc):=(NR (iY hc (iY he n5 h2) (by rw[h1,h2]))).imp fun σ H Q zz=>by
 obtain⟨A,st,r,q⟩:=zz;refine⟨A,st,r,?_⟩;intro v1 H1 e1 w1;refine⟨A,st,r.mono e1,?_⟩;unfold rX at q;cases hf:f st with
 | bad=>rw[hf]at q;exact q
 | ex c p=>rw[hf]at q;exact fun H' e'=>q H' (e1.trans e')
 | ok d=>
  rw[hf]at q;cases d with
  | lst ds=>dsimp only at q;intro v2 H2 e2 w2;have nj:=e1.trans e2;refine⟨by simp only[cK,nX];rw[fQ];decide,fun p hp=>q _ _ (nj.trans (cH hp)) ?_⟩;have hv1:=w1.rep;rw[Rep]at hv1;subst hv1;have up:aE (nw G0 (er H2 A)) (nw G0 (er (upd H2 p (.tup [.str s,v2])) A)):=bP (aI (cH hp));have at_:nw G0 (er (upd H2 p (.tup [.str s,v2])) A) p=some (.tup [.str s,v2]):=De (κ:=.loc) r nj hp;obtain⟨p',rfl,g0,xs,hx,rx⟩:=w2.2.1 rfl;refine⟨?_,fun z=>(by cases z),fun s' GK z=>?_⟩;rw[Rep];exact⟨p,_,rfl,.of at_,.cons (by rw[Rep]) (.cons (w2.1.same up _) (by rw[aH]))⟩;cases z;exact⟨p,p',xs,rfl,.of at_,g0,up _ _ hx,rx.same (aI up) _⟩
  | _=>exact q.elim
def aw5(K:aD)(tk tv:TE):TE:=fun σ H Q=>∀p o,H p=none->tk σ (upd H p (.ext (DY p o []))) fun x H1=>tv σ H1 fun y H2=>H2 p=some (.ext (DY p o []))/\∃b ks,x = .ref b/\jh K H2 ks b/\∀u o',RelV y u->Q (.ref p) (upd H2 p (.ext (DY p o' [(ks,b,u)])))
def Uu(hu:X.A.units+1<cLine)(hk:PE X k tk)(hv:PE X e tv):PE X (.Dict [some k] [e] pos) (aw5 X.K tk tv):=by
 intro ao s σ H Q I q;have hn:=I.eU.fresh (aZ s.heap.objs.size);have Iz:(s.heap.objs.size==nN)=false:=aX6.mpr (dZ (dh (Inv.av2 I)));have I1:=I.laid (a:=s.heap.objs.size) (o:=.ext (DY s.heap.objs.size _ [])) (h':=s.heap.push {cls:=.type "dict",data:=.dict #[]}) (t':=s.toks) (fun _ _ q=>bM _ q) (aZ _) (Dt (PD Iz));refine wpAny_Dict_any rfl rfl (by simp) (by simp) (pairTrees_cons_walk (gv (hk ao _ σ _ _ I1 (q _ _ hn)) fun u s1 zz=>?_));obtain⟨x,H1,I2,rx,q1⟩:=zz;refine gv (hv ao s1 σ H1 _ I2 q1) fun w2 s2 zz=>?_;obtain⟨y,H2,I3,ry,hp,b,ks,rfl,hb,q2⟩:=zz;cases rx;refine pairTrees_nil_walk ?_;obtain⟨dd,_,hz⟩:=lC I3 hp (fun _ m=>nomatch m);unfold storeAll;refine lI _ (fun rest _ s'=>(rest=[(eG b,w2)]/\s'=s2)\/(rest=[]/\∃o',L2.Inv X ao σ (upd H2 s.heap.objs.size (.ext (DY s.heap.objs.size o' [(ks,b,w2)]))) s')) _ ?_ ?_ _ _ (.inl ⟨rfl,rfl⟩);rintro z rest b0 s' (⟨hr,rfl⟩|⟨hr,_⟩);cases hr;refine ak (wpAny_dictSet_heap (hsz:=hz) (show X.A.units+1<cLine from hu) (lV I3 hb) dd fun h' dd' hs=>aB (.inr ⟨rfl,?_⟩));have he:∃q,h'.get? s.heap.objs.size=some q:=let⟨q,_,_,hq,_⟩:=dd';⟨q,hq⟩;obtain⟨o',dy⟩:=DY.of Iz (by rw[Ah rfl];simp only[dw,An];rw[fQ];decide) dd';rw[Ah rfl,dw]at dy;exact⟨o',I3.write (x:=s.heap.objs.size) (e:=s.heap.objs.size) (by rw[hp];trivial) (.inl rfl) (fun c w hc z=>(hs.2 c hc).trans z) he (Dt dy)⟩;cases hr;rintro b0 s' (⟨hr,_⟩|⟨_,o',I4⟩);cases hr;exact⟨.ref s.heap.objs.size,_,I4,rfl,q2 w2 o' ry⟩
def xJ(fk f:DF):DF:=fun st=>match fk st with
 | .ok kd=>(match f st with
  | .ok d=>(match mE kd with|some _=>if WL d=true then .ok (.bJ 2 [kd,d])else .bad|none=>.bad)
  | .ex c p=>.ex c p
  | .bad=>.bad)
 | .ex c p=>.ex c p
 | .bad=>.bad
def IQ(hu:X.A.units+1<cLine)(hk:PE X k (tD X.K (cz Cb gl) G0 Γ E fk κk))(hv:PE X e (tD X.K (cz Cb gl) G0 Γ E f .new)):PE X (.Dict [some k] [e] pos) (tD X.K (cz Cb gl) G0 Γ E (xJ fk f) .new):=(Uu hu hk hv).imp fun σ H Q zz=>by
 obtain⟨A,st,r,q⟩:=zz;intro p o hp;have e0:aE H (upd H p (.ext (DY p o []))):=cH hp;refine⟨A,st,r.mono e0,?_⟩;unfold xJ at q;cases hfk:fk st with
 | bad=>rw[hfk]at q;exact q
 | ex c p'=>rw[hfk]at q;exact fun H' e'=>q H' (e0.trans e')
 | ok kd=>
  rw[hfk]at q;dsimp only at q;intro x H1 e1 w1;refine⟨A,st,(r.mono e0).mono e1,?_⟩;cases hf:f st with
  | bad=>rw[hf]at q;exact q
  | ex c p'=>rw[hf]at q;exact fun H' e'=>q H' ((e0.trans e1).trans e')
  | ok d=>
   rw[hf]at q;dsimp only at q;intro y H2 e2 w2;cases By:mE kd with
   | none=>rw[By]at q;exact q.elim
   | some ks=>
    rw[By]at q;dsimp only at q;by_cases ho:WL d=true;rw[aW9 ho]at q;have nj:=e1.trans e2;have e02:=e0.trans nj;have Oj:H2 p=some (.ext (DY p o [])):=nj _ _ bS;have wk:=w1.rep.same e2 _;obtain⟨b,rfl,hb⟩:=jr wk By;refine⟨Oj,b,ks,rfl,hb,fun u o' ru=>?_⟩;have nz:∀b' w,nw H (upd H2 p (.ext (DY p o' [(ks,b,u)]))) b'=some w->True:=fun _ _ _=>trivial;have S:aE (nw H1 H2) (er (nw H (upd H2 p (.ext (DY p o' [(ks,b,u)])))) [p]):=fun b' w z=>by
     unfold nw at z;split at z;rename_i kp;have nb:b'≠p:=fun w'=>by subst w';rw[e1 _ _ bS]at kp;cases kp
     rw[aU (by simpa using nb)];unfold nw;rw[aW9 (nh (e0.trans e1) kp),aR nb];exact z;cases z
    have wv:Rep X.K (cz Cb gl) (er (nw H (upd H2 p (.ext (DY p o' [(ks,b,u)])))) [p]) d y:=w2.1.same S _;have kt:jV H2 (er (nw H (upd H2 p (.ext (DY p o' [(ks,b,u)])))) [p]):=by
     refine⟨fun b' w z=>?_,fun a xs z=>?_⟩;by_cases nb:b'=p;rw[nb,dH (by simp)]at z;cases z;rw[aU (by simpa using nb)]at z;have:=cN _ _ _ _ z;rwa [aR nb]at this;have na:a≠p:=fun w=>by rcases z with z|⟨u',z⟩;rw[w,Oj]at z;cases z;rw[w,Oj]at z;cases z
     have kn:rL (H a)=true:=by
      cases q':H a with
      | none=>rfl
      | some o''=>have:=e02 a o'' q';rcases z with z|⟨u',z⟩;rw[z]at this;cases this;rfl;rw[z]at this;cases this;rfl
     unfold Rd;rw[aU (by simpa using na)];unfold nw;rw[aW9 kn,aR na];exact z
    have wk2:Rep X.K (cz Cb gl) (er (nw H (upd H2 p (.ext (DY p o' [(ks,b,u)])))) [p]) kd (.ref b):=Rep.part kt _ (rW By) wk;obtain⟨b2,Wu,hbk⟩:=jr wk2 By;cases Wu;have at_:nw H (upd H2 p (.ext (DY p o' [(ks,b,u)]))) p=some (.ext (DY p o' [(ks,b,u)])):=by rw[jP hp];exact bS
    have plv:∀l',y = .ref l'->∃ys,er (nw H (upd H2 p (.ext (DY p o' [(ks,b,u)])))) [p] l'=some (.lst ys):=fun l' zl=>by
     cases d with
     | lst es=>obtain⟨p',z,h0,ys,hy,_⟩:=w2.2.1 rfl;rw[zl]at z;cases z;exact⟨ys,S _ _ hy⟩
     | int n=>have:=w2.1;rw[Rep]at this;rw[this]at zl;cases zl
     | bl n=>have:=w2.1;rw[Rep]at this;rw[this]at zl;cases zl
     | _=>cases ho
    have own:kX X.K (cz Cb gl) (er (nw H (upd H2 p (.ext (DY p o' [(ks,b,u)])))) [p]) (nw H (upd H2 p (.ext (DY p o' [(ks,b,u)])))) p (.bJ 2 [kd,d]):=
     ⟨rfl,jT [(ks,b,u)] [y],⟨o',_,_,rfl,.cons ru .nil,at_,fun x m=>by obtain rfl:=dQ.mp m;exact hbk,fun l' m=>plv l' (dQ.mp m).symm⟩,.cons wk2 (.cons wv (by rw[aH];rfl))⟩
    refine q _ _ (fun b' w z=>?_) ⟨own.rep (.refl _) rfl,fun _=>⟨p,rfl,hp,own⟩,.not rfl⟩;have nb:b'≠p:=fun w'=>by rw[w',hp]at z;cases z
    rw[aR nb];exact e02 _ _ z;rw[aX0 ho]at q;exact q.elim
def Zf(K:aD):V->List V->Hp->VK->Prop:=fun x xs H Q=>∃a b ob ps ks qN dv,x = .ref a/\xs=[.ref b,dv]/\H a=some (.ext (DY a ob ps))/\(∀p∈ps,jh K H p.1 p.2.1)/\KL K H ps qN/\jh K H ks b/\
 (ps.map (·.1)=qN->∃v,(∀p,atKey ps ks=some p->RelV v p.2)/\(atKey ps ks=none->v=dv)/\Q v H)
def Uv(hu:X.A.units+2<cLine):MtR X "dict.get" (Zf X.K):=by
 intro ao s σ H x xs v us Q I rx rv h;obtain⟨a,b,ob,ps,ks,qN,dv,rfl,rfl,ha,hk,Um,hb,q⟩:=h;cases rx;obtain⟨u1,u2,rfl,r1,r2⟩:=rv.two;cases r1;obtain⟨z,q1,q2,q0⟩:=q (keys_eq I hk Um);obtain⟨dd,hd,_⟩:=lC I ha hk;refine gF Nn dd.typeIs PySem.F.entry_dict_get ?_ (PySem.F.args_dict_get_3 _ _ _);(show aA _ _ (dictGet a (.ref b)>>=_) _ _ s);(refine ak (wpAny_dictGet_heap (show X.A.units+1+1<cLine from hu) (lV I hb) dd ?_));cases hf:atKey ps ks with
 | some p=>exact aB ⟨p.2,rfl,z,H,I.tok _,q1 p hf,q0⟩
 | none=>obtain rfl:=q2 hf;(show aA _ _ (Builtin.Dict.missed a (.ref b)>>=_) _ _ _);exact ak (wpAny_missed_other hd (aB ⟨u2,rfl,z,H,I.tok _,r2,q0⟩))
def isN:D->Bool | .int _=>true|_=>false
def Uw(l:List (List (List Int)×D×D))(ks:List (List Int))(d:D):D:=match l.find? (fun z=>decide (z.1=ks))with|some z=>z.2.2|none=>d
def xK(l:List (List (List Int)×D×D))(k d:D):R D:=match mE k with
 | some ks=>if isN (Uw l ks d)=true then .ok (Uw l ks d)else .bad
 | none=>.bad
def Q3(h:xK l k d = .ok x):∃ks,mE k=some ks/\isN (Uw l ks d)=true/\x=Uw l ks d:=by
 unfold xK at h;split at h;rename_i ks hk;split at h;rename_i hn;cases h;exact⟨ks,hk,hn,rfl⟩;cases h;cases h
def Q4:xK l k d≠ .ex c p:=by
 unfold xK;split;split <;> exact fun h=>(by cases h)
 exact fun h=>(by cases h)
def rY(fo fa fb:DF):DF:=fun st=>match fo st with
 | .ok o=>(match ez (some (some o))with
  | some z=>(match fa st with
   | .ok k=>(match fb st with
    | .ok d=>xK z.2 k d
    | .ex c p=>.ex c p
    | .bad=>.bad)
   | .ex c p=>.ex c p
   | .bad=>.bad)
  | none=>.bad)
 | .ex c p=>.ex c p
 | .bad=>.bad
def find_none{ps:List SP}{l:List (List (List Int)×D×D)}(h:ps.map (·.1)=l.map (·.1))(hf:l.find? (fun z=>decide (z.1=ks))=none):atKey ps ks=none:=by
 have e:=xG h ks;cases hq:atKey ps ks with
 | none=>rfl
 | some p=>rw[hq,Ar]at e;obtain⟨z,zm,zd⟩:=lP.mp e.symm;have:=MD.mp hf z zm;exact aY1 zd this
def aw7(h:isN d=true):gw d=true:=by cases d <;> first|(cases h;done)|rfl
def IS{apos:Pos}(hu:X.A.units+2<cLine)(ho:PE X o (tD X.K (cz Cb gl) G0 Γ E fo κo))(ha:PE X a (tD X.K (cz Cb gl) G0 Γ E fa kj))(hb:PE X b (tD X.K (cz Cb gl) G0 Γ E fb C8))
  (rg:autoParam (mO o "get" X.env (eval o X.env)=eval o X.env) zu0._auto_1)
  (NW:autoParam (((backTo i9 (bH [a,b] X.env)).all (fun x=>!x.1)&&(backToKw i9 (keywordEach [] X.env)).all (fun x=>x.1.isSome)&&decide ([a,b].length+([]:List Keyword).length+(if([]:List Keyword).isEmpty then 0 else 1)<30))=true) zu0._auto_1)
  (rj:autoParam ((apos.endLine==i9.line)=true) zu0._auto_1) (h1:autoParam (bH [a,b] X.env=(false,eval a X.env)::bH [b] X.env) zu0._auto_1) (h2:autoParam (bH [b] X.env=(false,eval b X.env)::bH [] X.env) zu0._auto_1) (qv:autoParam ((backTo i9 (bH [b] X.env)).any (·.1)=false) zu0._auto_1) :
  PE X (.Call (.Attribute o "get" apos) [a,b] [] i9) (tD X.K (cz Cb gl) G0 Γ E (rY fo fa fb) .new):=(PY Nn rfl (Uv hu) ho (iY ha (iY hb n5 h2) h1) rg NW rj h1 qv).imp fun σ H Q zz=>by
 obtain⟨A,st,r,q⟩:=zz;refine⟨A,st,r,?_⟩;unfold rY at q;cases ho:fo st with
 | bad=>rw[ho]at q;exact q
 | ex c p=>rw[ho]at q;exact q
 | ok d0=>
  rw[ho]at q;dsimp only at q;cases hz:ez (some (some d0))with
  | none=>rw[hz]at q;exact q.elim
  | some zz=>
  rw[hz]at q;obtain⟨sG,hl⟩:=ji hz;obtain⟨ds,l⟩:=zz;dsimp only at q hl sG;cases sG;intro x H1 e1 w1;obtain⟨p0,oo,ps,vs,rfl,g1,g2,g3,g5,g4,g6,_⟩:=kM w1.rep hl;refine⟨⟨p0,oo,ps,rfl,g2⟩,A,st,r.mono e1,?_⟩;cases h1:fa st with
  | bad=>rw[h1]at q;exact q
  | ex c p=>rw[h1]at q;exact fun H' e'=>q H' (e1.trans e')
  | ok k=>
   rw[h1]at q;dsimp only at q;intro y H2 e2 w2;refine⟨A,st,r.mono (e1.trans e2),?_⟩;cases h2:fb st with
   | bad=>rw[h2]at q;exact q
   | ex c p=>rw[h2]at q;exact fun H' e'=>q H' ((e1.trans e2).trans e')
   | ok d=>
    rw[h2]at q;dsimp only at q;intro z H3 e3 w3;cases hg:xK l k d with
    | bad=>rw[hg]at q;exact q.elim
    | ex c p=>exact aY1 hg Q4
    | ok x=>
    rw[hg]at q;obtain⟨ks,hk,hn,rfl⟩:=Q3 hg;have u0:=e2.trans e3;obtain⟨b',rfl,hb⟩:=jr (w2.later e3).rep hk;refine⟨p0,b',oo,ps,ks,_,z,rfl,rfl,u0 _ _ g2,fun p m=>(g3 p m).mono u0,⟨g4.1,fun w m=>(g4.2 w m).mono u0⟩,hb,fun zk=>?_⟩;have fin:∀v,Rep X.K (cz Cb gl) H3 (Uw l ks d) v->Q v H3:=fun v rv=>q v H3 (e1.trans u0) (.flat r (e1.trans u0) (aw7 hn) rv _);cases hf:l.find? (fun z=>decide (z.1=ks))with
    | some w=>obtain⟨p,v,f1,f2,f3,_⟩:=BA zk g1 g6 hf;refine⟨v,fun p' EG=>?_,fun hx=>?_,fin v ?_⟩;rw[f1]at EG;cases EG;exact f2;rw[f1]at hx;cases hx;unfold Uw;rw[hf];exact f3.same u0 _
    | none=>have hx:=find_none zk hf;refine⟨z,fun p' EG=>?_,fun _=>rfl,fin z ?_⟩;rw[hx]at EG;cases EG;unfold Uw;rw[hf];exact w3.rep
def KA(ks:List (List Int))(d:D):List D->List D
 | k::v::r=>k::(if mE k=some ks then d else v)::KA ks d r
 | l=>l
def putD(ds:List D)(l:List (List (List Int)×D×D))(ks:List (List Int))(kd d:D):List D:=if(l.map (·.1)).any (fun k=>decide (k=ks))=true then KA ks d ds else ds++[kd,d]
def Q5(i:Nat)(st:gM)(z:List D×List (List (List Int)×D×D))(kd d:D):Out:=match mE kd with
 | some ks=>if z.2.length<=5000/\WL d=true then .nx (st.set i (some (.bJ 2 (putD z.1 z.2 ks kd d))))else .bad
 | none=>.bad
def uE(i:Nat)(fk f:DF):DS:=fun st=>match f st with
 | .ok d=>(match ez st[i]? with
  | some z=>(match fk st with
   | .ok kd=>Q5 i st z kd d
   | .ex c p=>.ex c p st
   | .bad=>.bad)
  | none=>.bad)
 | .ex c p=>.ex c p st
 | .bad=>.bad
def pv(ks:List (List Int))(v:V):List SP->List V->List V
 | p::ps,w::vs=>(if p.1=ks then v else w)::pv ks v ps vs
 | _,_=>[]
theorem IT{K:aD}{C:Cfg}{H:Hp}{ks:List (List Int)}{d:D}{v:V}{u:au}(wv:Rep K C H d v)(ru:RelV v u):∀{ps:List SP} {vs:List V} {ds:List D} {l:List (List (List Int)×D×D)},Vals vs (ps.map (·.2.2))->aH K C H ds (jT ps vs)->dS ds=some l->ps.map (·.1)=l.map (·.1)->
  Vals (pv ks v ps vs) ((ps.map (putAt ks u)).map (·.2.2))/\aH K C H (KA ks d ds) (jT (ps.map (putAt ks u)) (pv ks v ps vs))/\∀w∈pv ks v ps vs,w=v\/w∈vs
 | [],_,ds,l,rel,q,h,e=>by
  cases rel;have:l=[]:=by simpa using e.symm
  subst this;rw[show jT [] []=[]from rfl]at q;cases ds with
  | nil=>exact⟨.nil,q,fun w m=>nomatch m⟩
  | cons k ds=>rw[aH]at q;obtain⟨_,_,z,_⟩:=q;cases z
 | p::ps,vs,ds,l,rel,q,h,e=>by
  rw[aW]at rel;cases rel with
  | @cons w _ vs _ r1 t1=>
   rw[zP]at q;cases ds with
   | nil=>rw[aH]at q;cases q
   | cons k ds=>
    cases ds with
    | nil=>rw[aH]at q;obtain⟨_,_,z,_,q⟩:=q;cases z;rw[aH]at q;cases q
    | cons x ds=>
     rw[dS]at h;cases ha:mE k with
     | none=>rw[ha]at h;cases h
     | some a=>
      cases hr:dS ds with
      | none=>rw[ha,hr]at h;cases h
      | some rr=>
       rw[ha,hr]at h;cases h;rw[aW,aW]at e;injection e with e1 e2;rw[aH]at q;obtain⟨_,_,z,q1,q⟩:=q;cases z;rw[aH]at q;obtain⟨_,_,z,q2,q⟩:=q;cases z;obtain⟨i1,i2,i3⟩:=IT wv ru t1 q hr e2;have e1:p.1=a:=e1;rw[KA,ha,pv,aW,aW];by_cases c:p.1=ks;have c':some a=some ks:=by rw[<- e1,c]
       rw[aW9 c,aW9 c',show putAt ks u p=(p.1,p.2.1,u) by unfold putAt;rw[aW9 c]];exact⟨.cons ru i1,.cons q1 (.cons wv i2),fun y m=>(bR.mp m).elim .inl fun m=>(i3 y m).imp id (.tail _)⟩;have c':¬ some a=some ks:=fun z=>c (by rw[e1];injection z);rw[aX0 c,aX0 c',show putAt ks u p=p by unfold putAt;rw[aX0 c]];exact⟨.cons r1 i1,.cons q1 (.cons q2 i2),fun y m=>(bR.mp m).elim (fun z=>.inr (z ▸ .head _)) fun m=>(i3 y m).imp id (.tail _)⟩
def Ux{i:Nat}{n:Bool}{x:Str}{p1 p2:Pos}{ix:bg}{fi:DF}(hu:X.A.units+2<cLine)(hx:PE X (.Name x p1) (uL i))(hi:PE X ix (tD X.K (cz Cb gl) G0 Γ E fi κ'))(he:PE X e (tD X.K (cz Cb gl) G0 Γ E f κ))(na:lB Γ=true)(hk:autoParam (Γ[i]?=some (.own n)) zu0._auto_1)(hl:autoParam (κ = .new) zu0._auto_1)
  (ha:autoParam (∀v,assign (.Subscript (.Name x p1) ix p2) X.env v=(do
   let ov <- holding [v] (eval (.Name x p1) X.env)
   let iv <- holding [v,ov] (eval ix X.env)
   standAt p2
   holding [v,ov,iv] (setItem ov iv v)
   release [v,ov,iv] [])) zu3._auto_1)
  (hs:autoParam (swapsWithSole [tG (.Name x p1) ix p2] e pos.line X.env=pure false) zu0._auto_1) (hw:autoParam (swappedStores [tG (.Name x p1) ix p2] e X.env=pure none) zu0._auto_1)
  (h1:autoParam ((qQ [tG (.Name x p1) ix p2] X.env).map (·.2)=[assign (.Subscript (.Name x p1) ix p2) X.env]) zu0._auto_1) :
  PS X (.Assign [.Subscript (.Name x p1) ix p2] e pos) (nK X.K (cz Cb gl) G0 Γ E jq (uE i fi f)):=(G7 he (NH hx hi (WK hu) ha) hs hw h1).imp fun D σ H zz=>by
 subst hl;obtain⟨A,st,r,q⟩:=zz;refine⟨A,st,r,?_⟩;unfold uE at q;cases hf:f st with
 | bad=>rw[hf]at q;exact q
 | ex c p=>rw[hf]at q;exact fun H' e'=>q σ H' A (r.mono e') (aI e')
 | ok d=>
  rw[hf]at q;dsimp only at q;cases pG:ez st[i]? with
  | none=>rw[pG]at q;exact q.elim
  | some z=>
   obtain⟨pG,PJ⟩:=ji pG;obtain⟨ds,l⟩:=z;rw[nu pG PJ]at q;dsimp only at q pG PJ;intro v H1 e1 w1;obtain⟨p,h1,h2,h3,t2,xs,ow,h5⟩:=r.Bo hk pG rfl;refine⟨_,h1,A,st,r.mono e1,?_⟩;cases hi:fi st with
   | bad=>rw[hi]at q;exact q
   | ex c p=>rw[hi]at q;exact fun H' e'=>q σ H' A (r.mono (e1.trans e')) (aI (e1.trans e'))
   | ok kd=>
    rw[hi]at q;dsimp only at q;intro vi H2 e2 w2;unfold Q5 at q;cases By:mE kd with
    | none=>rw[By]at q;exact q.elim
    | some ks=>
     rw[By]at q;dsimp only at q;by_cases hc:l.length<=5000/\WL d=true;rw[aW9 hc]at q;have nj:=e1.trans e2;have r':=r.mono nj;have S:aE (eh n G0 A H) (eh n G0 A H2):=by unfold eh;cases n;exact aI nj;exact bP (aI nj)
     have S2:aE (eh n G0 A H2) H2:=by unfold eh;cases n;exact aG _ _;exact(cN _ _).trans (aG _ _)
     obtain⟨ob,ps,vs,rfl,rel,hp,kp,pl⟩:=ow;have q5:aH X.K (cz Cb gl) (eh n G0 A H2) ds (jT ps vs):=h5.same S _;have hlen:vs.length=ps.length:=by rw[oY rel,bf]
     obtain⟨_,i2,_,_⟩:=mF hlen q5 PJ;have RZ:∀x∈ps,jh X.K (eh n G0 A H2) x.1 x.2.1:=fun x m=>(kp x m).mono S;obtain⟨b,rfl,hb⟩:=jr w2.rep By;have wk:Rep X.K (cz Cb gl) (eh n G0 A H2) kd (.ref b):=by unfold eh;cases n;exact Rep.part r'.Dd _ (rW By) w2.rep;exact Rep.part r'.rL _ (rW By) w2.rep
     obtain⟨b2,Wu,hbk⟩:=jr wk By;cases Wu;have Zd:=w1.later e2;have wv:Rep X.K (cz Cb gl) (eh n G0 A H2) d v:=Zd.WH r nj (by cases n <;> rfl);have plv:∀l',v = .ref l'->∃ys,eh n G0 A H2 l'=some (.lst ys):=fun l' zl=>by
      cases d with
      | lst es=>
       obtain⟨p',z,h0,ys,hy,_⟩:=Zd.2.1 rfl;rw[zl]at z;cases z;have nA:l'∉A:=fun m=>by obtain⟨o,w,_⟩:=r.lists l' m;rw[h0]at w;cases w
       have hy2:H2 l'=some (.lst ys):=cN _ _ _ _ hy;refine⟨ys,?_⟩;unfold eh;cases n;show er H2 A l'=_;rw[aU nA];exact hy2;show nw G0 (er H2 A) l'=_;rw[jP (r.g0.free h0),aU nA];exact hy2
      | int k=>rw[Rep]at wv;rw[wv]at zl;cases zl
      | bl k=>rw[Rep]at wv;rw[wv]at zl;cases zl
      | _=>cases hc.2
     have hlp:l.length=ps.length:=by have:=i2.1;rw[bf]at this;exact this
     refine⟨p,b,ob,ps,ks,_,rfl,rfl,nj _ _ hp,fun x m=>(RZ x m).mono S2,⟨i2.1,fun z m=>(i2.2 z m).mono S2⟩,hb,?_,fun u OH ru zk=>?_⟩;rw[fQ];have:=hc.1;lia;have fin:∀{GK JM vs'},putD ds l ks kd d=GK->storedH ps ks b u=JM->Vals vs' (JM.map (·.2.2))->(∀x∈JM,jh X.K (eh n G0 A H2) x.1 x.2.1)->(∀w∈vs',w=v\/w∈vs)->aH X.K (cz Cb gl) (eh n G0 A H2) GK (jT JM vs')->D.nx _ _:=fun {GK JM vs'} z1 z2 w1 w2 w3 w4=>by
      subst z1;subst z2;have own:kX X.K (cz Cb gl) (eh n G0 A H2) (upd H2 p (.ext (DY p OH (storedH ps ks b u)))) p (.bJ 2 (putD ds l ks kd d)):=by refine⟨rfl,_,⟨_,_,vs',rfl,w1,bS,w2,fun l' m=>?_⟩,w4⟩;rcases w3 _ m with e|m;exact plv l' e.symm;obtain⟨ys,z⟩:=pl l' m;exact⟨ys,S _ _ z⟩
      obtain⟨r2,e3⟩:=r'.TV na hk pG h1 h2 h3 rfl rfl own;exact q _ _ A r2 ((aI nj).trans e3)
     cases hn:atKey ps ks with
     | none=>refine fin (aX0 fun z=>by rw[<- xG zk,hn]at z;cases z) (Ah hn b u) (vs':=vs++[v]) (by rw[gu];exact Vals.snoc rel ru) (fun x m=>?_) (fun w m=>?_) (by rw[zQ hlen];exact aH.Hf q5 (.cons wk (.cons wv (by rw[aH]))));rcases gh.mp m with m|m;exact RZ x m;obtain rfl:=dQ.mp m;exact hbk;rcases gh.mp m with m|m;exact .inr m;exact .inl (dQ.mp m)
     | some p0=>obtain⟨y1,y2,y3⟩:=IT (ks:=ks) wv ru rel q5 PJ zk;refine fin (aW9 (by rw[<- xG zk,hn];rfl)) (storedH_old hn b u) y1 (fun x m=>?_) y3 y2;obtain⟨y,ym,rfl⟩:=aL.mp m;unfold putAt;split;exact RZ y ym;exact RZ y ym
     rw[aX0 hc]at q;exact q.elim
end Dm
namespace Hk
open PySem
def KC{Q:au->ay->Prop}(hd:(d==nN)=false)(ho:s.heap.get? d=some od)(hx:od.ExactDict)(iE:od.data = .dict es ep)
  (hQ:Q (.ref s.heap.objs.size) {s with heap:=s.heap.push {cls:=.type "dict_keyiterator",data:=.fields #[.ref d,.int 0 0,.int es.size 0,.int ep 0]}}):aA (aC prog w) A (pyIter (.ref d)) Q E s:=by
 have hT:s.TypeIs (.ref d) "dict":=⟨od,ho,hx.1⟩
 refine Af hT Np (gF Np hT F.entry_dict_iter ?_ (F.args_dict_iter_1 _));unfold Builtin.«dict.__iter__»;refine ak ?_;unfold Builtin.Dict.dictSlotNone;refine ak (EX hT ?_);show aA _ _ (pure (eG d)) _ _ s;refine aB ?_;show aA _ _ (w6 d>>=_) _ _ s;unfold w6;rw[aX0 (by rw[hd];exact iS)];refine ak (aB (ak (jI ho iE (ak (nR ho iE ?_)))));refine ak (nF (aB ⟨_,rfl,"dict_keyiterator",_,⟨_,dW _ rfl,rfl⟩,vZ.lookup,?_⟩));simpa[rawInt] using hQ
def KG{Q:Option au->ay->Prop}(hit:s.heap.IsKeyIter it d i es.size ep)(ho:s.heap.get? d=some od)(iE:od.data = .dict es ep)(hx:es[i]?=some e)
  (hQ:∀h',h'.IsKeyIter it d (i+1) es.size ep->gH it s.heap h'->Q (some e.key) {s with heap:=h'}):aA (aC prog w) A (pyNext (.ref it)) Q E s:=by
 obtain⟨o,hio,hc,hd⟩:=id hit;have ie:i<es.size:=(oj.mp hx).1;have he:es[i]=e:=(oj.mp hx).2;have Dz:w9 "dict_keyiterator"=false:=by decide
 unfold pyNext;refine ak (nO (q9 (name:=kC "__next__") hit.typeIs vZ (gF vZ hit.typeIs Nq ?_ (Nr _))));refine ak (aB (ak (ak ?_)));first|refine ak (Ak hit.typeIs (aB ?_))|refine ak (Al hit.typeIs (aB ?_))
 refine ak (sN hio hd ?_);simp only[Dz,cP,aX7];show aA _ _ (if(eG d==dI)=true then _ else _) _ _ s;rw[aX0 (show ¬ ((eG d==dI)=true)from iS)];refine ak (aB (ak (jI ho iE ?_)));rw[aX0 (by simp)];refine ak (aB (ak (nR ho iE ?_)));rw[aX0 (by simp)];refine aB ?_;simp only[show ¬ ((i:Int)<0)from by omega,aX7,jM,vS ie,he];refine ak ?_;first|refine ak (Ak hit.typeIs (aB ?_))|refine ak (Al hit.typeIs (aB ?_))
 refine ak (LP hit.typeIs ?_);show aA _ _ (setField (.ref it) 1 (rawInt ((i:Int)+1))>>=_) _ _ s;refine ak (q8 hio hd (by simp) ?_);have Bw:(s.heap.update it (Obj.mapFields (·.setIfInBounds 1 (rawInt ((i:Int)+1))))).IsKeyIter it d (i+1) es.size ep:=
  ⟨_,mQ _ hio (AA (tF hd _)),(FT ..).trans hc,by rw[tF hd];simp[rawInt]⟩
 refine ak (iN ?_);refine ak (LP (s:={s with heap:=s.heap.update it (Obj.mapFields (·.setIfInBounds 1 (rawInt ((i:Int)+1))))}) Bw.typeIs ?_);show aA _ _ (pure e.key) _ _ _;exact aB (aB ⟨_,rfl,aB (hQ _ Bw (eS ..))⟩)
def Q6{Q:Option au->ay->Prop}(hh:A.handled=none)(hit:s.heap.IsKeyIter it d i es.size ep)(ho:s.heap.get? d=some od)(iE:od.data = .dict es ep)(hx:es.size<=i)
  (hQ:∀h',Heap.ExtBut it s.heap h'->Q none {s with heap:=h'}):aA (aC prog w) A (pyNext (.ref it)) Q E s:=by
 obtain⟨o,hio,hc,hd⟩:=id hit;have Dz:w9 "dict_keyiterator"=false:=by decide
 unfold pyNext;refine ak (nO (q9 (name:=kC "__next__") hit.typeIs vZ (gF vZ hit.typeIs Nq ?_ (Nr _))));refine ak (aB (ak (ak ?_)));first|refine ak (Ak hit.typeIs (aB ?_))|refine ak (Al hit.typeIs (aB ?_))
 refine ak (sN hio hd ?_);simp only[Dz,cP,aX7];show aA _ _ (if(eG d==dI)=true then _ else _) _ _ s;rw[aX0 (show ¬ ((eG d==dI)=true)from iS)];refine ak (aB (ak (jI ho iE ?_)));rw[aX0 (by simp)];refine ak (aB (ak (nR ho iE ?_)));rw[aX0 (by simp)];refine aB ?_;simp only[show ¬ ((i:Int)<0)from by omega,aX7,jM,qk hx];refine ak ?_;first|refine ak (Ak hit.typeIs (aB ?_))|refine ak (Al hit.typeIs (aB ?_))
 show aA _ _ (setField (.ref it) 0 .none>>=_) _ _ s;refine ak (q8 hio hd (by simp) ?_);show aA _ _ (newExc (.type "StopIteration") []>>=_) _ _ _;refine ak ?_;simp only[newExc,newTuple];refine ak (nF ?_ (by size_fits));refine ak (m:=sO _ _) (sJ (a:=dI) (by first|rfl|(simp only[sO];rfl)) ?_);refine nF ?_ (by size_fits);simp only[raiseNew];refine ak (ER ?_);rw[show A.in1.handled=none from hh];refine ak (aB (ES ?_));refine ak (qc (T:="StopIteration") (b:=true) ⟨_,dW _ rfl,rfl⟩ ET ?_);exact aB (hQ _ (((eS ..).extBut.push _).push _))
end Hk
namespace Dm
open PySem PySem.Spec PyProof.Rows L2
def ItK(a:av)(o:Obj)(ps:List SP):It:=
 ⟨fun i H=>H a=some (.ext (DY a o ps))/\i<ps.length,fun i H x H'=>∃p,ps[i]?=some p/\H'=H/\x = .ref p.2.1,fun i H=>H a=some (.ext (DY a o ps))/\ps.length<=i⟩
def Hq{P:cS}{w:bI}{K:aD}{tg:bg}{a it:av}{o:Obj}{ps:List SP}{es:Array qd}{ep:Nat}(iE:o.data = .dict es ep)(CZ:∀(P:cS) (w:bI),es.toList=ps.map (pN (Hk.jS (intKind P w)))) :
  Turn P w K tg (ItK a o ps) [it] it (fun i h=>h.IsKeyIter it a i es.size ep) where
 mem:=by simp
 obj:=fun i h st b hb=>by
  obtain⟨oi,he,_,hd⟩:=st;obtain rfl:b=it:=by simpa using hb
  exact⟨_,he,fun v z=>by rw[hd]at z;cases z⟩
 keep:=fun i h h' st k=>st.at fun o e=>k it (by simp) o e
 item:=by
  intro X hP hw hK hc i ao s σ H E I hf st hg;subst hP hw hK;obtain⟨ha,hi⟩:=hg;obtain⟨⟨Iz,hz,ho,hx,_⟩,_,_⟩:=(show gk X.prog X.w H s.heap a (.ext (DY a o ps))from I.eU a _ ha)
  obtain⟨p,hp⟩:∃p,ps[i]?=some p:=⟨ps[i],dz hi⟩
  have hen:es[i]?=some (pN (Hk.jS (intKind X.prog X.w)) p):=by rw[entry_at (CZ X.prog X.w),hp];rfl
  obtain⟨f0,f1,f2,f3,f4,f5⟩:=hf it (by simp);refine Hk.KG st ho iE hen fun h' Bw hs=>⟨_,rfl,?_⟩
  obtain⟨oi,he,zj,hd⟩:=id Bw;refine I8 he zj hd (by decide) ?_;exact⟨.ref p.2.1,H,I.turned (t':=s.toks) (fun b o hb q=>(hs.2 b hb).trans q) f0 f1 f3 f4 f5,rfl,⟨p,hp,rfl,rfl⟩,Bw,fun b hb=>by
   obtain rfl:b=it:=by simpa using hb
   exact f0⟩
 done:=by
  intro X hP hw hK hc i ao s σ H E I hf st hg;subst hP hw hK;obtain⟨ha,hi⟩:=hg;obtain⟨⟨Iz,hz,ho,hx,_⟩,_,_⟩:=(show gk X.prog X.w H s.heap a (.ext (DY a o ps))from I.eU a _ ha)
  obtain⟨f0,f1,f2,f3,f4,f5⟩:=hf it (by simp);exact Hk.Q6 (I.ok.hd hc) st ho iE (by rw[nQ (CZ X.prog X.w)];exact hi) fun h' eb=>⟨rfl,I.turned (t':=s.toks) (fun b o hb e=>eb b o hb e) f0 f1 f3 f4 f5⟩
 self:=fun A i s Q E st h=>wpAny_pyIter_keyiter st h
def aP9(to:TE):TI:=fun σ H R=>to σ H fun x H1=>∃a o ps,x = .ref a/\H1 a=some (.ext (DY a o ps))/\R (ItK a o ps) H1
def Q7{to:TE}(ho:PE X o to):PI X tg o (aP9 to):=by
 intro ao s σ H R I h;refine gv (ho ao s σ H _ I h) fun v s1 zz=>?_;obtain⟨x,H1,I1,r1,a,oo,ps,rfl,hx,q1⟩:=zz;cases r1;obtain⟨⟨Iz,hz,hg,qY,es,ep,iE,CZ,hn⟩,_,_⟩:=(show gk X.prog X.w H1 s1.heap a (.ext (DY a oo ps))from I1.eU a _ hx)
 refine Hk.KC Iz hg qY iE ?_;refine⟨_,[_],_,_,H1,rfl,I1.kept (t':=s1.toks) (fun b u z=>bM _ z),Hq iE CZ,⟨_,dW _ rfl,rfl,rfl⟩,fun b hb=>?_,q1⟩;have n6:s1.heap.objs.size<=b:=by
  obtain rfl:b=_:=by simpa using hb
  exact aZ _
 exact I1.Jw n6 (I1.eU.fresh n6)
def Q8(f:DF):DI:=fun st=>match f st with
 | .ok d=>(match ez (some (some d))with|some y=>.ok (y.2.map fun t=>t.2.1)|none=>.bad)
 | .ex c p=>.ex c p
 | .bad=>.bad
def Uy(ha:PE X o (tD X.K (cz Cb gl) G0 Γ E f κ))(l:z=true->κ.le .old=true):PI X tg o (EJ X.K (cz Cb gl) G0 Γ E z (Q8 f)):=(Q7 ha).imp fun σ H Q zz=>by
 obtain⟨A,st,r,q⟩:=zz;refine⟨A,st,r,?_⟩;unfold Q8 at q;cases hf:f st with
 | bad=>rw[hf]at q;exact q
 | ex c p=>rw[hf]at q;exact q
 | ok d=>
  rw[hf]at q;dsimp only at q;intro v H1 e1 w;cases hy:ez (some (some d))with
  | none=>rw[hy]at q;exact q.elim
  | some y=>
   rw[hy]at q;obtain⟨hd,Q0⟩:=ji hy;obtain⟨ds,lp⟩:=y;cases hd;dsimp only at q Q0;have w':Rep X.K (cz Cb gl) (er H1 (zB z A)) (.bJ 2 ds) v:=by
    unfold zB;cases z with
    | true=>exact w.le r e1 (κ':=.old) (l rfl)
    | false=>rw[aX0 (by decide),lU];exact w.rep
   obtain⟨a,oo,ps,vs,rfl,g1,g2,g3,g5,g4,g6,g7⟩:=kM w' Q0;have B9:ps.length=lp.length:=by rw[<- g4.1,bf]
   refine⟨a,oo,ps,rfl,aG _ _ _ _ g2,q _ _ e1 fun i H3 A3 e3 nA=>⟨fun d hd=>?_,fun hd=>?_⟩⟩;rw[cY]at hd;cases sG:lp[i]? with
   | none=>rw[sG]at hd;cases hd
   | some t=>
    rw[sG]at hd;cases hd;have hi:i<ps.length:=by rw[B9];exact(fR.mp sG).1
    have ga:H3 a=some (.ext (DY a oo ps)):=(e3.trans (aG _ _)) _ _ g2;refine⟨⟨ga,hi⟩,fun x H' pR=>?_⟩;obtain⟨p,hp,hH,ex⟩:=pR;subst hH ex;obtain⟨v2,hv2,rv2⟩:=g7.get' (show(lp.map (·.2.1))[i]?=some t.2.1 by rw[cY,sG];rfl);rw[cY,hp]at hv2;cases hv2;exact⟨.refl _,rv2.same e3 _⟩
   rw[cY]at hd;have hn:lp[i]?=none:=by cases sG:lp[i]? with|none=>rfl|some t=>rw[sG]at hd;cases hd
   exact⟨(e3.trans (aG _ _)) _ _ g2,by rw[B9];exact mU.mp hn⟩
end Dm
namespace Dm
open PySem PyProof.Rows L2 HT PySem.SeqAt
open PySem.AutoSeq1 (wpAny_loadPart')
open PySem.MeetsSeq PySem.MeetsSeq2 PySem.MeetsSeq3
abbrev lob(d:Option av)(us:Array au)(m:Nat)(z:Array (Option au)):Obj:={cls:=.type "list",dict:=d,data:=.seq us m,slots:=z}
theorem IU{us vs:Array au}(same:us.size=vs.size):∀(f j:Nat) (xs ys:List D),us.size=j+f->
  Meets (Builtin.«list.__eq__.loop» ⟨[.ref p,.ref q,rawInt j,rawInt 0],[]⟩) (fun A R s=>s.heap.get? p=some (lob d us m z)/\s.heap.get? q=some (lob d' vs m' z')/\PL A.in1 s (us.toList.drop j) (vs.toList.drop j) xs ys/\R (.ok (.ret (.bool (lexLt (jF xs) (jF ys))))) s)
 | 0,j,xs,ys,e=>fun prog w A R s hh=>by
  obtain⟨h0,g0,d0,t0,o0⟩:=s;obtain⟨hp,hq,P,hR⟩:=hh;rw[FA (by rw[d7];lia),FA (by rw[d7];lia)]at P;cases P
  wp_walk using jH hp,jH hq
  rw[show us[((j:Nat):Int).toNat]?=none by rw[jM];exact qk (by lia),show vs[((j:Nat):Int).toNat]?=none by rw[jM];exact qk (by lia)]
  wp_walk using jH hp,jH hq
  rw[jF,i8]at hR;show R (.ok (.ret (.bool (decide (us.size<vs.size))))) _;rw[aX2 (by lia)];exact hR
 | f+1,j,xs,ys,e=>fun prog w A R s hh=>by
  obtain⟨h0,g0,d0,t0,o0⟩:=s;obtain⟨hp,hq,P,hR⟩:=hh;have ju:j<us.size:=by lia
  have jv:j<vs.size:=by lia
  have eu:us[((j:Nat):Int).toNat]?=some us[j]:=by rw[jM];exact vS ju
  have ev:vs[((j:Nat):Int).toNat]?=some vs[j]:=by rw[jM];exact vS jv
  rw[sW (show j<us.toList.length by rw[d7];exact ju),sW (show j<vs.toList.length by rw[d7];exact jv)]at P;cases P with
  | @cons _ _ x0 y0 _ _ rE Il q1 q2 q3 q4=>
   rw[MP]at q1 q2;rw[jF,jF,v5 q3]at hR
   wp_walk using jH hp,jH hq
   rw[eu,ev];refine ak (q1 prog w _ _ ?_);by_cases c:fl x0=fl y0;rw[aW9 c]at hR;rw[aX1 c]
   wp_walk
   rw[show((j:Int)+1)=((j+1:Nat):Int)from rfl];refine⟨vB plain_eq_loop _,lJ entry_eq_loop ?_⟩;rw[qt plain_eq_loop _];exact IU same f (j+1) rE Il (by lia) prog w A R _ ⟨hp,hq,q4,hR⟩;rw[aX0 c]at hR;rw[aX2 c]
   wp_walk using jH hp,jH hq
   rw[eu,ev];refine ak (q2 prog w _ _ ?_)
   wp_walk
   simpa using hR
def KH{us vs:Array au}(same:us.size=vs.size)(xs ys:List D) :
  Meets (Builtin.«list.__lt__» ⟨[.ref p,.ref q],[]⟩) (fun A R s=>s.heap.get? p=some (lob d us m z)/\s.heap.get? q=some (lob d' vs m' z')/\PL A.in1 s us.toList vs.toList xs ys/\R (.ok (.ret (.bool (lexLt (jF xs) (jF ys))))) s):=fun prog w A R s hh=>by
 obtain⟨h0,g0,d0,t0,o0⟩:=s;obtain⟨hp,hq,P,hR⟩:=hh;have sub:=AutoSeq1.sub_list_list
 wp_walk using jH hp,jH hq
 refine⟨vB plain_eq_loop _,lJ entry_eq_loop ?_⟩;rw[qt plain_eq_loop _];exact IU same us.size 0 xs ys (kq _).symm prog w A R _ ⟨hp,hq,P,hR⟩
def Zg{A:bX}(sh:fH xs ys=true)(n:Gz xs=true)(hu:eX s.heap (.lst xs) u)(hv:eX s.heap (.lst ys) v)(hr:A.units+jw xs+1<cLine):Yg A s u v (lexLt (jF xs) (jF ys)):=by
 rw[eX]at hu hv;refine bw hu fun a it b9 t1 p1=>?_;clear hu;obtain rfl:=b9;refine bw hv fun b Wr b9 t2 p2=>?_;clear hv;obtain rfl:=b9;obtain⟨⟨cls,dd,data,sl⟩,n1,ho,hc,hd,he⟩:=id t1;obtain⟨⟨aq1,dd2,data2,sl2⟩,n2,Ws,Ls,hd2,RY⟩:=id t2;simp only at hc hd he Ls hd2 RY;subst hc hd he Ls hd2 RY;have P:=T6 xs ys (A:=A.in1) sh n p1 p2 (by show A.units+1+_<_;lia);intro prog w E Q hq;have B9:it.size=Wr.size:=by simpa using P.len
 exact LH (op:=.Lt) ⟨_,ho,rfl⟩ ⟨_,Ws,rfl⟩ PySem.F.slot_list_lt PySem.F.entry_list_lt (PySem.F.args_list_lt_2 _ _) (KH B9 xs ys)
  ⟨ho,Ws,P,show Value.bool (lexLt (jF xs) (jF ys))≠Value.notImplemented/\Q _ s from⟨(fun x=>nomatch x),hq⟩⟩ (by lia)
end Dm
namespace Dm
open PySem PySem.W PyProof.Rows L2 HT PySem.SeqAt So
def SkT(ds:List D):Prop:=∀a∈ds,∀b∈ds,∃i j xs ys,a = .tup [.int i,.lst xs]/\b = .tup [.int j,.lst ys]/\Gz xs=true/\cu xs=true/\jw xs<=50/\(i=j->fH xs ys=true)
def vh(i:Int)(xs:List D):fl (.tup [.int i,.lst xs])=i::jF xs:=by simp[fl,jF]
def Uz(h:SkT ds)(ha:a∈ds)(hb:b∈ds)(e:fl a=fl b):a=b:=by
 obtain⟨i,j,xs,ys,rfl,rfl,_,_,_,sh⟩:=h a ha b hb;rw[vh,vh]at e;injection e with e1 e2;subst e1;rw[rF xs ys (sh rfl) e2]
def UA{C:Bool->ay->Prop}(k:SkT ds)(hu:A.units+60<cLine)(p:bA s.heap ds vs)(hi:i<ds.length)(hj:j<ds.length)(hc:C (decide (rk ds i<rk ds j)) s) :
  aA (aC prog w) A (keyLt' (tuples' true) (vs.getD i dI) (vs.getD j dI)) C (fun _ _=>False) s:=by
 rw[<- Im ds hi]at hc;obtain⟨ai,mi⟩:=l8 p hi;obtain⟨aj,mj⟩:=l8 p hj;generalize ds.getD i .cM=x at hc ai mi;generalize ds.getD j .cM=y at hc aj mj;obtain⟨m,n,xs,ys,rfl,rfl,nx,fx,dx,sh⟩:=k x mi y mj;obtain⟨_,_,_,_,e1,_,_,fy,_,_⟩:=k _ mj _ mj;injection e1 with e1;injection e1 with _ e1;injection e1 with e1;injection e1 with e1;subst e1;rw[vh,vh]at hc;rw[eX]at ai aj;refine bw ai fun a it e1 qZ p1=>?_;clear ai;obtain⟨o1,q1,_,n1,d1⟩:=qZ;refine bw aj fun b' Wr e2 qZ p2=>?_;clear aj;obtain⟨o2,q2,_,n2,d2⟩:=qZ;rw[e1,e2];rw[bA]at p1 p2;obtain⟨v0,r0,er0,a0,p1⟩:=p1;obtain⟨v1,r1,er1,a1,p2⟩:=p2;rw[bA]at p1 p2;obtain⟨v2,r2,rfl,a2,p1⟩:=p1;obtain⟨v3,r3,rfl,a3,p2⟩:=p2;rw[bA]at p1 p2;subst p1;subst p2;rw[eX]at a0 a1;obtain⟨t,rfl⟩:=a0;obtain⟨t',rfl⟩:=a1;have sz:it.size=Wr.size:=by rw[<- d7,er0,<- d7,er1];rfl
 refine kat_lt q1 d1 q2 d2 ?_;rw[er0,er1];have E0:EqAt A s (.int m t) (.int n t') (decide (m=n)):=by have:=oK (s:=s) (.int m) (.int n) (A:=A) (by rw[flat] <;> simp) (by rw[flat] <;> simp) (u:=.int m t) (v:=.int n t') (by rw[eX];exact⟨t,rfl⟩) (by rw[eX];exact⟨t',rfl⟩) (by simp[dep];lia);rw[iJ]at this;exact this
 refine kat_cons (E0 prog w _ _ (kat_go (fun c=>kat_yes ?_) fun c=>kat_no ?_));have c:=aX5 c;subst c;rw[dg,aW9 rfl]at hc;have sh:=sh rfl;have E1:EqAt A s v2 v3 (decide (jF xs=jF ys)):=by have:=oK (s:=s) (.lst xs) (.lst ys) (A:=A) (by rw[flat];exact fx) (by rw[flat];exact fy) a2 a3 (by rw[dep];lia);rwa [iJ,uZ xs ys sh]at this
 refine kat_cons (E1 prog w _ _ (kat_go (fun c=>kat_yes ?_) fun c=>kat_no ?_));have c:=aX5 c;rw[c,rG]at hc;show C (decide (it.size<Wr.size)) s;rw[aX2 (by lia)];exact hc;refine kat_one _ _ (Zg sh nx a2 a3 (by lia) prog w _ _ (show PySem.W.BoolBack C (.bool (lexLt (jF xs) (jF ys))) s from hc));have c:=aY3 c;rw[dg,aX0 c]at hc;exact oneLt_int hc
def sgT(sk:SkT es)(l:es.length<=cG)(hu:A.units+64<cLine):SG prog w A es (tuples' true) vs:=
 ⟨l,fun a ha b hb=>Uz sk ha hb,fun A' s e h2 p=>⟨fun E R hR=>CS (.oA fun d hd=>let⟨i,_,xs,_,e,_⟩:=sk d hd d hd;⟨i,_,e⟩) h2 p hR,fun i j C=>UA sk (by rw[e];lia) p⟩⟩
end Dm
namespace Dm
open PySem PyProof.Rows L2 PySem.SeqAt Ts
def WN:D->Option Int
 | .int s=>some s
 | .cM | .bl _ | .lst _ | .tup _ | .str _ | .bJ _ _=>none
def Q9{d:D}(h:WN d=some z):d = .int z:=by cases d <;> cases h;rfl
def KI(d:D):Option (Int×List D):=((IE d).bind Tn).bind fun p=>(WN p.1).bind fun i=>(OO p.2).map fun xs=>(i,xs)
def IV{d:D}(h:KI d=some z):d = .tup [.int z.1,.lst z.2]:=by
 unfold KI at h;obtain⟨⟨a,b⟩,h1,h⟩:=FQ.mp h;obtain⟨ds,h2,h1⟩:=FQ.mp h1;obtain⟨s,h3,h⟩:=FQ.mp h;obtain⟨fs,h7,rfl⟩:=N4.mp h;rw[OP h2,To h1,show a=_ from Q9 h3,show b=_ from OQ h7]
def skB(ds:List D):Bool:=ds.all fun a=>ds.all fun b=>match KI a with
 | some p=>(match KI b with
  | some q=>Gz p.2&&cu p.2&&decide (jw p.2<=50)&&(decide (p.1≠q.1) || fH p.2 q.2)
  | none=>false)
 | none=>false
def Zh(h:skB ds=true):SkT ds:=fun a ha b hb=>by
 unfold skB at h;have h:=fU.mp (fU.mp h a ha) b hb;cases h1:KI a with
 | none=>rw[h1]at h;cases h
 | some p=>
  cases h2:KI b with
  | none=>rw[h1,h2]at h;cases h
  | some q=>rw[h1,h2]at h;simp only[bV,kB,aX4]at h;refine⟨p.1,q.1,p.2,q.2,IV h1,IV h2,h.1.1.1,h.1.1.2,h.1.2,fun e=>?_⟩;rcases h.2 with z|z;exact aY1 e z;exact z
end Dm
namespace Lm
open PySem PySem.Spec PySem.W PyProof.Rows PySem.Calls
abbrev body(x:Str)(p1 p2 p3 p4 p5 p6:Pos)(c1:Nat):bg:=.Tuple [.UnaryOp .USub (.Call (.Name "len" p1) [.Name x p2] [] p3) p4,.Name x p5] c1 p6
def Qa{Q:au->ay->Prop}(ho:s.heap.get? f=some o)(hd:o.data = .func (kla_fn nm qual params (body x p1 p2 p3 p4 p5 p6 c1) scope [] pm cv KJ))(Zi:s.heap.CodeRec cv qual)
  (hco:scope.isCoroutine=false) (aQ1:scope.isGenerator=false) (hk:scope.kind = .function) (hx:scope.names.lookup x=some .local) (hln:scope.names.lookup ("len" : Str)=some .globalImplicit)
  (Qc:∀(s:ay) (u:au),BindsTo s (kla_fn nm qual params (body x p1 p2 p3 p4 p5 p6 c1) scope [] pm cv KJ) ⟨[u],[]⟩ [(x,u)]) (EC:(x==("__debug__" : Str))=false)
  (rJ:A.depth<recursionLimit) (lim:s.heap.NoLimit) (hg:s.heap.Ns cZ mg) (hm:mg "len"=none) (hb:s.heap.Ns builtinsNs mb) (hmb:mb "len"=some (.builtin "len")) (hv:s.heap.IsList v items) (aQ2:(items.size:Int)<2 ^ 63)
  (h:∀h' tk t z,(∀b o,s.heap.get? b=some o->h'.get? b=some o)->s.heap.objs.size<=t->h'.get? t=some (bZ "tuple" #[.int (-(items.size:Int)) z,.ref v] 0)->Q (.ref t) {s with heap:=h',toks:=tk}) :
  aA (aC prog w) A (call (.ref f) [.ref v]) Q E s:=by
 refine Ad (kla_callFunE rJ ho hd hco aQ1 rfl Zi (Qc s (.ref v) _ _ _ _ ?_));refine LD hk (fun y hy=>.inl ?_) fun env he s1 ic=>?_;rw[dQ.mp hy];exact hx;have hke:env.scope.kind = .function:=by rw[he];exact hk
 have hxe:env.kindOf x=some .local:=by rw[he];exact hx
 have hle:env.kindOf "len"=some .globalImplicit:=by rw[he];exact hln
 have Wx:env.globals=cZ:=by rw[he];rfl
 have Sa:env.builtins=builtinsNs:=by rw[he];rfl
 obtain⟨h1,tk,rfl⟩:=ic.toInCall.same;have keep:=ic.toInCall.keep;have ns:=ic.toInCall.ns;have mx:bindL env.kindOf [(x,eG v)] (fun _=>none) x=some (.ref v):=by unfold bindL;rw[hxe];simp[bindL]
 have sz:s.heap.objs.size<=h1.objs.size:=cj ic.toInCall.fresh (iO ns.lt);refine⟨lim.keeps keep,kla_codeExpr ?_⟩;refine LC ?_;show aA _ _ (spliced ((false,eval (.UnaryOp .USub (.Call (.Name "len" p1) [.Name x p2] [] p3) p4) env)::backTo p6 (bH [.Name x p5] env))) _ _ _;refine vR (wpAny_UnaryOp (sH ?_));refine MN hke hle (W6 (by rw[Wx];exact hg.keeps keep) hm (by rw[Sa];exact hb.keeps keep) hmb ?_);refine MX ?_ rfl rfl;show aA _ _ (spliced ((false,eval (.Name x p2) env)::backTo p3 (bH [] env))) _ _ _;refine vR (Cc (LB hke hxe ns mx ?_) EC);refine Av ?_;refine MO (let⟨o,a,b⟩:=hv;⟨o,keep _ _ a,b⟩) aQ2 ?_;refine neg_int ?_;show aA _ _ (spliced ((false,eval (.Name x p5) env)::backTo p6 (bH [] env))) _ _ _;refine vR (Cc (LB hke hxe ns mx ?_) EC);refine Av ⟨by rw[fQ];show 2<=_;decide,?_⟩;exact h _ _ _ _ (fun b o e=>bM _ (keep b o e)) sz (dW _ rfl)
end Lm
namespace So
open PySem PySem.W PyProof.Rows
def KS(KO:Nat->Obj->Prop)(h:aQ)(ks:List au):Prop:=∀j k,ks[j]?=some k->∃t o,k = .ref t/\h.get? t=some o/\KO j o
section
variable {prog:cS}{w:bI}{A:bX}{E:au->ay->Prop}{s:ay}{a q:av}{vs:List au}{kd:gV}{r:Nat->Nat}{KO:Nat->Obj->Prop}
def yH{P:PySem.Fin->ay->Prop}(ho:s.heap.get? a=some (bZ "list" vs.toArray n))(hz:vs.length<=cG)
  (ax4:∀i x h' tk Q,vs[i]?=some x->Keeps a s.heap h'->(∀BB UB t o,(∀b o,h'.get? b=some o->BB.get? b=some o)->h'.objs.size<=t->BB.get? t=some o->KO i o->Q (.ref t) {s with heap:=BB,toks:=UB})->aA (aC prog w) A (call (.ref q) [x]) Q (fun _ _=>False) {s with heap:=h',toks:=tk})
  (CC:∀ks h' tk Q,2<=vs.length->ks.length=vs.length->Keeps a s.heap h'->KS KO h' ks->Q kd {s with heap:=h',toks:=tk}->aA (aC prog w) A (keyKind' ks.toArray) Q E {s with heap:=h',toks:=tk})
  (ie:∀ks h' tk i j C,2<=vs.length->ks.length=vs.length->Keeps a s.heap h'->KS KO h' ks->i<vs.length->j<vs.length->C (decide (r i<r j)) {s with heap:=h',toks:=tk}->aA (aC prog w) A (keyLt' kd (ks.getD i dI) (ks.getD j dI)) C (fun _ _=>False) {s with heap:=h',toks:=tk})
  (h:∀h' tk n' (pm:List Nat),Keeps a s.heap h'->pm.Perm (cU vs.length)->pm.Pairwise (fun i j=>r i<=r j)->h'.get? a=some (bZ "list" (pm.map fun i=>vs.getD i dI).toArray n')->P (.done (.ret .none)) {s with heap:=h',toks:=tk}) :
  aA (aC prog w) A (Builtin.«list.sort» ⟨[.ref a],[(kC "key",.ref q)]⟩) P E s:=by
 have ha:a<s.heap.objs.size:=bY ho;have Lq:=eS s.heap a (cQ fun _=>(#[]:Array au));obtain⟨e1,Wq⟩:∃e1,(s.heap.update a (cQ fun _=>(#[]:Array au))).get? a=some (bZ "list" #[] e1):=⟨_,vV ho fun _=>#[]⟩
 rw[ksk_t1];unfold ksk_tree;refine ak (FL ho rfl (ak (qp ho rfl (ak (vW Wq rfl (ak (EN (ak (vA (iN ?_) (gI _))) (by show vs.length<=_;lia))))) (by rw[d8];lia) (gI _))));generalize hG:((s.heap.update a (cQ fun _=>(#[]:Array au))).push (bZ "tuple" vs.toArray 0)).push (bZ "list" #[] 0)=g;generalize hS:((s.heap.update a (cQ fun _=>(#[]:Array au))).push (bZ "tuple" vs.toArray 0)).objs.size=S;have hSs:s.heap.objs.size<S:=by rw[<- hS,size_push',LU];lia
 have hSa:a≠S:=by lia
 have kg:Keeps a s.heap g:=fun b o hb e=>by rw[<- hG];exact bM _ (bM _ (by rw[Lq.2 b hb];exact e))
 have ag:g.get? a=some (bZ "list" #[] e1):=by rw[<- hG];exact bM _ (bM _ Wq)
 have sg:g.get? S=some (bZ "list" #[] 0):=by rw[<- hG,<- hS];exact dW _ rfl
 clear hG hS Wq Lq;show aA (aC prog w) A (ksk_rest a (.ref q) false vs.toArray e1 (.ref S)) P E {s with heap:=g};unfold ksk_rest;refine ak (vq ?_);rw[List.forIn_toArray];have upk:∀{g:aQ} {F:Obj->Obj},Keeps a s.heap g->Keeps a s.heap (g.update S F):=fun {g F} k b o hb e=>by rw[F5 _ _ _ _ (by have:=bY e;lia)];exact k b o hb e
 refine ak (ksk_fold (fun i s'=>∃h' tk kA e,s'={s with heap:=h',toks:=tk}/\Keeps a s.heap h'/\h'.get? a=some (bZ "list" #[] e1)/\h'.get? S=some (bZ "list" kA e)/\kA.size=i/\
  ∀j k,kA.toList[j]?=some k->∃t o,k = .ref t/\t≠a/\t≠S/\h'.get? t=some o/\KO j o) vs 0 _ ⟨g,s.toks,#[],0,rfl,kg,ag,sg,rfl,fun j k e=>by simp at e⟩ ?step ?done)
 case step=>
  rintro j x s' hx ⟨h',tk,kA,e,rfl,k1,a1,s1,z1,f1⟩;simp only[kq]at z1 ⊢;have hj:j<vs.length:=(fR.mp hx).1;refine ak (nO (gR (ax4 j x h' tk (fun v Lo=>∃BB UB t o,v = .ref t/\Lo={s with heap:=BB,toks:=UB}/\(∀b o,h'.get? b=some o->BB.get? b=some o)/\h'.objs.size<=t/\BB.get? t=some o/\KO j o) hx k1 fun BB UB t o q1 q2 q3 q4=>⟨BB,UB,t,o,rfl,rfl,q1,q2,q3,q4⟩) (fun v Lo he=>?_) fun _ _ hF=>hF.elim));obtain⟨h2,tk2,t,o,rfl,rfl,q1,q2,q3,q4⟩:=he;dsimp only;have s2:=q1 _ _ s1;have tS:t≠S:=by have:=bY s1;lia
  have ta:t≠a:=by have:=bY a1;lia
  have sb:=eS h2 S (cQ (·.push (eG t)));obtain⟨c2,Ls⟩:∃c2,(h2.update S (cQ (·.push (eG t)))).get? S=some (bZ "list" (kA.push (.ref t)) c2):=⟨_,vV s2 (·.push (eG t))⟩
  refine ak (qp s2 rfl ?_ (by lia) (cj (LV (MU ..)) (by lia)));refine aB ⟨rfl,_,_,kA.push (.ref t),c2,rfl,upk fun b o hb e=>q1 b o (k1 b o hb e),(sb.2 a hSa).trans (q1 _ _ a1),Ls,by rw[MU,z1],fun i k ek=>?_⟩;rw[FI,List.getElem?_append]at ek;split at ek;obtain⟨t',o',r1,r2,r3,r4,r5⟩:=f1 i k ek;exact⟨t',o',r1,r2,r3,(sb.2 t' r3).trans (q1 _ _ r4),r5⟩;rename_i hi;rw[d7,z1]at hi ek;have:i-j=0:=by rcases M6 (i-j)with z|z;exact z;rw[nW (by simp;lia)]at ek;cases ek
  have ij:i=j:=by lia
  subst ij;simp at ek;subst ek;exact⟨t,o,rfl,ta,tS,(sb.2 t tS).trans q3,q4⟩
 case done=>
  rintro s' ⟨h',tk,kA,e,rfl,k1,a1,s1,z1,f1⟩;simp only[kq]at z1;skip
  refine ak (FL s1 rfl ?_);have kl:kA.toList.length=vs.length:=by rw[d7];exact z1
  have ks:KS KO h' kA.toList:=fun j k e=>let⟨t,o,r1,_,_,r4,r5⟩:=f1 j k e;⟨t,o,r1,r4,r5⟩;have sb:=eS h' S (cQ fun _=>(#[]:Array au));have a2:(h'.update S (cQ fun _=>(#[]:Array au))).get? a=some (bZ "list" #[] e1):=(sb.2 a hSa).trans a1;have tail:∀(st:bF) (pm:List Nat),failedOf st=none->(arrOf st).map (·.2)=(pm.map fun i=>vs.getD i dI).toArray->pm.Perm (cU vs.length)->pm.Pairwise (fun i j=>r i<=r j)->
    aA (aC prog w) A (ksk_tail a false e1 (.ref S) st) P E {s with heap:=h',toks:=tk}:=fun st pm hf ha hp hw=>by
   unfold ksk_tail
   dsimp only
   refine ak (qp s1 rfl ?_ (by lia) (gI _))
   refine ak (EW ?_)
   refine ak (vW a2 rfl ?_)
   rw[ha,hf]
   refine ak (qp a2 rfl ?_ (gI _) (by
    rw[aX0 (by decide),d8,bf,hp.length_eq,t7];lia))
   simp only[aY2,cP,aX7]
   have Lr:=eS (h'.update S (cQ fun _=>(#[]:Array au))) a (cQ fun _=>(pm.map fun i=>vs.getD i dI).toArray)
   exact aB (h _ _ _ pm (fun b o hb e=>by rw[Lr.2 b hb];exact upk k1 b o hb e) hp hw (vV a2 fun _=>_))
  unfold ksk_end;dsimp only;simp only[cP,aX7];have zp:kA.zip vs.toArray=((cU vs.length).map fun i=>(kA.toList.getD i dI,vs.getD i dI)).toArray:=by
   apply Aw.mp;rw[MR];refine Mp (by simp[z1]) fun i h1 h2=>?_;simp at h1 h2;have h3:i<kA.size:=by lia
   simp[h2,h3]
  by_cases h2:vs.toArray.size<2;rw[aW9 h2,aW9 h2];refine ak (aB ?_);rw[N9];refine ak (aB ?_);dsimp only;refine tail _ (cU vs.length) rfl ?_ (.refl _) ?_;show(kA.zip vs.toArray).map (·.2)=_;rw[zp,Ft,d9];rfl;rw[d8]at h2;refine qg.mpr fun i j hi hj mK=>?_;rw[t7]at hj;lia;rw[aX0 h2,aX0 h2];rw[d8]at h2;have Gx:2<=vs.length:=by lia
  refine ak (CC kA.toList h' tk _ Gx kl k1 ks ?_);have W:Sg.Wt kd (fun i=>(kA.toList.getD i dI,vs.getD i dI)) (cU vs.length) #[] (SortSt.mk' kd (kA.zip vs.toArray) #[] 7 none):=⟨rfl,zp,rfl,rfl⟩
  have run:=Sg.Ik (prog:=prog) (w:=w) (A:=A) (E:=E) (s:={s with heap:=h',toks:=tk}) (n:=vs.length) (r:=r) (Q:=fun _ st'=>failedOf st'=none/\∃pm:List Nat,arrOf st'=Sg.arr (fun i=>(kA.toList.getD i dI,vs.getD i dI)) pm/\pm.Perm (cU vs.length)/\pm.Pairwise (fun i j=>r i<=r j))
   (fun i j C hi hj hc=>ie kA.toList h' tk i j C Gx kl k1 ks hi hj hc) W (fun x hx=>m6.mp hx) fun p' st' q1 q2 q3 q4=>⟨q4,p',q3,q1,q2⟩
  refine ak (gR run ?_ fun _ _ e=>e);rintro⟨⟨⟩,st'⟩ s' ⟨rfl,hf,pm,har,p1,p3⟩;dsimp only;refine tail st' pm hf ?_ p1 p3;rw[har,Sg.arr,Ft,d9];rfl
end
end So
namespace Dm
open PySem PySem.W PyProof.Rows L2 HT PySem.SeqAt So
def BC:D->D
 | .lst xs=>.tup [.int (-(xs.length:Int)),.lst xs]
 | d=>d
def SkK(ds:List D):Prop:=SkT (ds.map BC)/\∀d∈ds,∃xs,d = .lst xs
def KO(ds:List D)(bx:List au)(j:Nat)(o:Obj):Prop:=∃z xs v,ds[j]?=some (.lst xs)/\bx[j]?=some (.ref v)/\o=bZ "tuple" #[.int (-(xs.length:Int)) z,.ref v] 0
theorem IW:∀{ds:List D} {vs:List au},vs.length=ds.length->(∀(j:Nat) (d:D) (v:au),ds[j]?=some d->vs[j]?=some v->eX h d v)->bA h ds vs
 | [],vs,l,_=>by rw[bA];exact Mh l
 | d::ds,[],l,_=>by cases l
 | d::ds,v::vs,l,f=>by
  rw[bA];exact⟨v,vs,rfl,f 0 d v rfl rfl,IW (by simpa using l) fun j d' v' h1 h2=>f (j+1) d' v' (by simpa using h1) (by simpa using h2)⟩
def KS.D5{bx ks:List au}(l:ks.length=bx.length)(p:bA h ds bx)(k:KS (KO ds bx) h ks):bA h (ds.map BC) ks:=by
 refine IW (by rw[bf,l,p.len]) fun j d v h1 h2=>?_;obtain⟨t,o,rfl,g,z,xs,a,e1,e2,rfl⟩:=k j v h2;rw[cY,e1]at h1;cases h1;have hj:j<bx.length:=(fR.mp e2).1;obtain⟨q,_⟩:=p.get j hj;have ed:ds.getD j .cM = .lst xs:=by rw[mS,e1];rfl
 have ev:bx[j] = .ref a:=(fR.mp e2).2;rw[ed,ev]at q;rw[BC,eX];refine⟨t,_,rfl,⟨_,g,rfl,_,rfl⟩,?_⟩;rw[bA];refine⟨_,_,rfl,?_,?_⟩;rw[eX];exact⟨z,rfl⟩;rw[bA];exact⟨_,_,rfl,q,by rw[bA]⟩
def BD{bx:List au}{Q:au->ay->Prop}(hu:A.units+64<cLine)(sk:SkK ds)(hz:ds.length<=cG)(hl:s.heap.IsList l bx.toArray)(p:bA s.heap ds bx)
  (aQ3:∀h' tk v jE R,(∀b o,s.heap.get? b=some o->h'.get? b=some o)->h'.IsList v jE->(jE.size:Int)<2 ^ 63->(∀BB UB t z,(∀b o,h'.get? b=some o->BB.get? b=some o)->h'.objs.size<=t->BB.get? t=some (bZ "tuple" #[.int (-(jE.size:Int)) z,.ref v] 0)->R (.ref t) {s with heap:=BB,toks:=UB})->
   aA (aC prog w) A.in1.in1 (call (.ref f) [.ref v]) R (fun _ _=>False) {s with heap:=h',toks:=tk})
  (Iz:∀xs,D.lst xs∈ds->(xs.length:Int)<2 ^ 63)
  (h:∀h' tk L n (pm:List Nat),(∀b ob,s.heap.get? b=some ob->h'.get? b=some ob)->s.heap.objs.size<=L->(∀i∈pm,i<ds.length)->pm.Perm (cU ds.length)->fC (ds.map BC)=pm.map (fun i=>(ds.map BC).getD i .cM)->
   h'.get? L=some (bZ "list" (pm.map fun i=>bx.getD i dI).toArray n)->Q (.ref L) {s with heap:=h',toks:=tk}) :
  aA (aC prog w) A (call (.builtin "sorted") [.ref l] [(kC "key",.ref f)]) Q E s:=by
 have lv:bx.length=ds.length:=p.len;refine call_function_entry_kw kind_sorted plain_sorted entry_sorted (ksk_s1 _ _) ?_;unfold Builtin.«sorted»;refine ak (m:=checkCount "sorted" 1 1 _) (aB (ak (collect_list hl ?_ (by rw[lv];exact hz))));have k1:∀b o,s.heap.get? b=some o->((s.heap.push (bZ "list" #[] 0)).update s.heap.objs.size (cQ (· ++ bx.toArray))).get? b=some o:=fun b o e=>by rw[F5 _ _ _ _ (dh (bY e))];exact bM _ e
 have z1:s.heap.objs.size<=((s.heap.push (bZ "list" #[] 0)).update s.heap.objs.size (cQ (· ++ bx.toArray))).objs.size:=by rw[LU,size_push'];lia
 generalize ((s.heap.push (bZ "list" #[] 0)).update s.heap.objs.size (cQ (· ++ bx.toArray)))=h1 at k1 z1 ⊢;refine ak (vA ?_ (by lia));have oL:(h1.push (bZ "list" bx.toArray 0)).get? h1.objs.size=some (bZ "list" bx.toArray 0):=dW _ rfl;have nk:∀h',Keeps h1.objs.size (h1.push (bZ "list" bx.toArray 0)) h'->∀b ob,s.heap.get? b=some ob->h'.get? b=some ob:=fun h' kh b ob e=>kh b ob (dh (bY (k1 b ob e))) (bM _ (k1 b ob e));refine ak (iN (wpAny_call_entry_kw slot_list_sort ⟨_,oL,rfl⟩ entry_list_sort ?body (ksk_l1 _ _)));case body=>
  obtain⟨_,ij,sg⟩:=sgT (prog:=prog) (w:=w) (A:=A) (vs:=[]) sk.1 (by rw[bf];exact hz) hu;refine yH (KO:=KO ds bx) (kd:=tuples' true) (r:=rk (ds.map BC)) (s:={s with heap:=h1.push (bZ "list" bx.toArray 0)}) oL (by lia) (fun i x h' tk R hx kh hR=>?_) (fun ks h' tk R h2 kl kh kk hR=>?_) (fun ks h' tk i j C h2 kl kh kk hi hj hC=>?_) fun h' tk n' pm kh hp hu' ho=>?_;have hi:i<bx.length:=(fR.mp hx).1;obtain⟨q,m⟩:=(p.keep (nk h' kh)).get i hi;obtain⟨xs,ex⟩:=sk.2 _ m;rw[ex,eX]at q;obtain⟨a,jE,e,pl,pd⟩:=q;have ev:x = .ref a:=by rw[<- e];exact((fR.mp hx).2).symm
  subst ev;have jl:jE.size=xs.length:=by rw[<- d7];exact pd.len
  refine aQ3 h' tk a jE R (nk h' kh) pl.isList (by rw[jl];exact Iz xs (ex▸m)) fun BB UB t z q1 q2 q3=>hR BB UB t _ q1 q2 q3 ⟨z,xs,a,?_,hx,by rw[jl]⟩;have hd:i<ds.length:=by lia
  rw[<- ex,dz hd];simp[hd];obtain⟨_,_,sg⟩:=sgT (prog:=prog) (w:=w) (A:=A) (vs:=ks) sk.1 (by rw[bf];exact hz) hu;exact(sg _ _ rfl (by rw[bf];lia) (KS.D5 kl (p.keep (nk h' kh)) kk)).1 _ R hR;obtain⟨_,_,sg⟩:=sgT (prog:=prog) (w:=w) (A:=A) (vs:=ks) sk.1 (by rw[bf];exact hz) hu;exact(sg _ _ rfl (by rw[bf];lia) (KS.D5 kl (p.keep (nk h' kh)) kk)).2 i j C (by rw[bf];lia) (by rw[bf];lia) hC;rw[lv]at hp;have lt:∀i∈pm,i<ds.length:=fun i hi=>m6.mp (hp.mem_iff.mp hi);refine⟨_,rfl,aB ⟨_,rfl,h h' tk _ n' pm (nk h' kh) z1 lt hp ?_ ho⟩⟩;have pe:(pm.map fun i=>(ds.map BC).getD i D.cM).Perm (ds.map BC):=by have:=hp.map fun i=>(ds.map BC).getD i D.cM;rwa [show cU ds.length=cU (ds.map BC).length by rw[bf],So.map_range]at this
  refine(FU (le:=fun a b=>qx (fl a) (fl b)=true) (fun a b ha hb h1 h2=>ij a ((cJ _).mem_iff.mp ha) b (pe.mem_iff.mp hb) (wV _ _ h1 h2)) (mq _) ?_ ((cJ _).trans pe.symm));rw[Aq];refine hu'.imp_of_mem fun {i j} hi hj mK=>?_;unfold qx;rw[Im (ds.map BC) (by rw[bf];exact lt j hj),aX2 (by lia)];rfl
end Dm
namespace L2
open PySem PySem.Spec PySem.W PyProof.Rows
def qL.tab(ok:qL P w H h)(hT:H T=some (.Ck p q))(k:∀b u,b≠T->h.get? b=some u->h'.get? b=some u)(hc:h.objs.size<=c)(Xg:h'.get? c=some oc)(od:oc.data = .fields vs)(oq:vs[1]?=some (.str q t))
  (hT':h'.get? T=some (tabObj ps)) (tr:TriplesOk ps.toList) (hit:codeAmong p ps.toList=some (.ref c)):qL P w (upd H c (.Cj oc (.own c))) h':=fun b u e=>by
 have hn:=ok.fresh hc;have cT:T≠c:=fun z=>by rw[z,hn]at hT;cases hT
 by_cases hb:b=c;subst hb;rw[bS]at e;cases e;exact⟨Xg,_,Xg⟩;rw[aR hb]at e;by_cases bT:b=T;subst bT;rw[hT]at e;cases e;exact⟨ps,hT',tr,.inr ⟨c,oc,vs,t,hit,bS,od,oq⟩⟩;refine(ok b u e).yt (fun d v hd r=>k d v ?_ r) (fun d r=>by rw[aR (aY r hn)];exact r) (fun d xs r=>by rw[aR (aY r hn)];exact r) fun d o xs r=>by rw[aR (aY r hn)];exact r
 rcases hd with rfl|hd;exact bT;rintro rfl;rw[hT]at hd;cases hd
def Un.tab(hT:H T=some (.Ck p q))(k:∀b u,b≠T->h.get? b=some u->h'.get? b=some u)(hn:H c=none)(hc:h.objs.size<=c)(hT':∃u,h'.get? T=some u):Un fs [] H (upd H c o) h h' where
 keep:=fun b u e n _ _=>k b u (fun z=>by rw[z,hT]at n;cases n) e
 slot:=fun b u e n _ _=>⟨u.slots,k b u (fun z=>by rw[z,hT]at n;cases n) e⟩
 free:=fun b u e n _=>by rw[aR (dh (i6 (bY e) hc))];exact n
 there:=fun b u e _=>by
  by_cases bT:b=T;rw[bT];exact hT';exact⟨u,k b u bT e⟩
 oA:=fun b xs r=>by rw[aR (aY r hn)];exact r
 wm:=fun b u xs r=>by rw[aR (aY r hn)];exact r
 wo:=fun b u xs r=>by rw[aR (aY r hn)];exact r
def isK:au->au->au->au->Bool
 | .str _ _,b,c,d=>(match b with | .int _ _=>(match c with | .bool _=>(match d with | .int _ _=>true|_=>false)|_=>false)|_=>false)
 | _,_,_,_=>false
def Zj(h:isK a b c d=true):∃x1 x2 y1 y2 z w1 w2,a = .str x1 x2/\b = .int y1 y2/\c = .bool z/\d = .int w1 w2:=by
 cases a <;> try (cases h;done)
 cases b <;> try (cases h;done)
 cases c <;> try (cases h;done)
 cases d <;> try (cases h;done)
 exact⟨_,_,_,_,_,_,_,rfl,rfl,rfl,rfl⟩
def u6(K:aD)(c T:av):Bool:=match K.lookup c with
 | some o=>(o.cls == .type "code")&&(match o.data with
  | .fields vs=>decide (vs[11]?=some (.ref T))&&isK (vs.getD 18 .none) (vs.getD 7 .none) (vs.getD 9 .none) (vs.getD 10 .none)&&decide (c≠T)
  | _=>false)
 | none=>false
def IX{K:aD}(X:K.In h)(e:u6 K c T=true):CodeHd h c T:=by
 unfold u6 at e;cases lk:K.lookup c with
 | none=>rw[lk]at e;cases e
 | some o=>
  rw[lk]at e;obtain⟨cl,dc,dt,sl⟩:=o;have e:=Bool.and_eq_true_iff.mp e;have e0:cl = .type "code":=aX3.mp e.1;subst e0;cases dt with
  | fields vs=>have e:(decide (vs[11]?=some (.ref T))&&isK (vs.getD 18 .none) (vs.getD 7 .none) (vs.getD 9 .none) (vs.getD 10 .none)&&decide (c≠T))=true:=e.2;simp only[bV,aX4]at e;obtain⟨⟨e1,e2⟩,e3⟩:=e;obtain⟨_,_,_,_,_,_,_,h1,h2,h3,h4⟩:=Zj e2;exact⟨_,vs,_,_,_,_,_,_,_,X _ _ lk,rfl,rfl,e1,by rw[iR,e1];rfl,h1,h2,h3,h4,e3⟩
  | _=>cases e.2
def KP(K:aD)(b T:av):Bool:=match K.lookup b with
 | some ⟨.type "module",some d,.plain,_⟩=>decide (d=builtinsNs)&&decide (b≠builtinsNs)&&decide (b≠cZ)&&decide (b≠T)
 | _=>false
structure UC(X:Cx)(args:Arguments)(scope:i0)(T:av)(q:Str):Prop where
 code:∃c,X.env.code = .ref c/\u6 X.K c T=true
 glob:X.env.globals=cZ
 qual:X.env.qual ++ "<lambda>"=q
 blt:∃b,X.mg "__builtins__"=some (.ref b)/\KP X.K b T=true
 gT:cZ≠T
 ax7:closureFor scope X.env=pure []
 dfl:defaultsOf args X.env=([],[])
def Qd{Q:au->ay->Prop}(L:UC X args scope T q)(I:Inv X ao σ H s)(hT:H T=some (.Ck lp q))
  (h:∀f H1 h' tk o cv pm KJ,aE H H1->(∀b,H b≠none->H1 b=H b)->Inv X ao σ H1 {s with heap:=h',toks:=tk}->h'.get? f=some o->o.data = .func (kla_fn "<lambda>" q args body scope [] pm cv KJ)->h'.CodeRec cv q->Q (.ref f) {s with heap:=h',toks:=tk}) :
  aA (aC X.prog X.w) X.A (eval (.Lambda args body scope lp) X.env) Q X.xe s:=by
 rw[arm_eval_Lambda,L.dfl,L.qual];dsimp only;refine ak (aB (ak (iN (aB ?_))));obtain⟨ps,gT,tr,hh⟩:=I.eU T _ hT;obtain⟨c,hc,hd⟩:=L.code;obtain⟨bm,b1,b2⟩:=L.blt;have hb:s.heap.BuiltinsAt X.mg T:=by unfold KP at b2;split at b2;rename_i d _ lk;simp only[bV,aX4]at b2;obtain⟨⟨⟨rfl,b4⟩,b5⟩,b6⟩:=b2;exact⟨bm,_,b1,b4,b5,b6,I.Ju _ _ lk,rfl,rfl,rfl⟩;cases b2
 have hd:=IX I.Ju hd;have hg:s.heap.Ns cZ X.mg:=I.mod.glob.keeps I.bk;rcases hh with hn|⟨c',oc,vs,t,hf,hcc,od,oq⟩;refine kla_makeFunction L.ax7 L.glob hg hc hd gT tr hn L.gT hb fun c' KJ h' tk hx Wx ie Zi hT'=>?_;obtain⟨c2,oc,vs,t,e2,Xg,od,oq⟩:=Zi;cases e2;have k:∀b u,b≠T->s.heap.get? b=some u->(h'.push (kla_obj "<lambda>" q args body scope [] ((X.mg "__name__").getD .none) c' KJ)).get? b=some u:=fun b u hb e=>bM _ (hx b u hb e);have ax8:=bM (kla_obj "<lambda>" q args body scope [] ((X.mg "__name__").getD .none) c' KJ) Xg;have hT2:=bM (kla_obj "<lambda>" q args body scope [] ((X.mg "__name__").getD .none) c' KJ) hT';have wz:H c'=none:=I.eU.fresh Wx;have hl:(ps++#[rawInt lp.line,rawInt lp.col,eG c']).toList=ps.toList++[rawInt lp.line,rawInt lp.col,.ref c']:=by simp
 refine h _ (upd H c' (.Cj oc (.own c'))) _ tk _ _ _ _ (fun b o e=>by rw[aR (aY e wz)];exact e) (fun b hb=>aR fun z=>hb (by rw[z];exact wz)) (I.un (Un.tab hT k wz Wx ⟨_,hT2⟩) (I.eU.tab hT k Wx ax8 od oq hT2 (by rw[hl];exact TriplesOk_snoc _ _ _ _ tr) (by rw[hl];exact codeAmong_snoc _ tr hn))) (dW _ rfl) rfl ⟨c',oc,vs,t,rfl,ax8,od,oq⟩;refine kla_makeFunctionHit L.ax7 L.glob hg hc hd gT tr hf hb fun KJ h' tk k hz=>?_;have k':∀b u,s.heap.get? b=some u->(h'.push {cls:=.type "function",data:=.func (kla_fn "<lambda>" q args body scope [] ((X.mg "__name__").getD .none) (.ref c') KJ)}).get? b=some u:=fun b u e=>bM _ (k b u e);obtain⟨gc,_⟩:=I.eU c' _ hcc;exact h _ H _ tk _ _ _ _ (fun b o e=>e) (fun b _=>rfl) (I.kept k') (dW _ rfl) rfl ⟨c',oc,vs,t,rfl,k' _ _ gc,od,oq⟩
end L2
namespace Dm
open PySem PySem.Spec PySem.W PyProof.Rows L2 PySem.SeqAt Ts So
structure Zk(x:Str)(q:Str)(args:Arguments)(body:bg)(scope:i0):Prop where
 co:scope.isCoroutine=false
 gen:scope.isGenerator=false
 kind:scope.kind = .function
 loc:scope.names.lookup x=some .local
 len:scope.names.lookup ("len" : Str)=some .globalImplicit
 bind:∀pm cv KJ (s:ay) (u:au),BindsTo s (kla_fn "<lambda>" q args body scope [] pm cv KJ) ⟨[u],[]⟩ [(x,u)]
 ndb:(x==("__debug__" : Str))=false
def tSK(K:aD)(C:Cfg)(T:av)(lp:Pos)(q:Str)(te:TE):TE:=fun σ H Q=>te σ H fun v H1=>∃a ws ds,v = .ref a/\H1 T=some (.Ck lp q)/\k9 K H1 a ws/\aH K C H1 ds ws/\SkK ds/\cu ds=true/\(∀xs,D.lst xs∈ds->(xs.length:Int)<2 ^ 63)/\
 ∀(H2:Hp) (p:av) (pm:List Nat),aE H1 H2->H2 p=none->(∀i∈pm,i<ds.length)->pm.Perm (cU ds.length)->fC (ds.map BC)=pm.map (fun i=>(ds.map BC).getD i .cM)->Q (.ref p) (upd H2 p (.lst (pm.map fun i=>ws.getD i .cM)))
def Qe(he:PE X e te)(L:UC X args scope T q)(LT:Zk x q args (Lm.body x p1 p2 p3 p4 p5 p6 c1) scope)(hg:Gl X "sorted")(hm:X.mg "sorted"=none)(hml:X.mg "len"=none)(hu:X.A.units+64<cLine)(rJ:X.A.depth<recursionLimit)
  (hs:autoParam (bH [e] X.env=[(false,eval e X.env)]) zu0._auto_1):PE X (.Call (.Name "sorted" p0) [e] [⟨some "key",.Lambda args (Lm.body x p1 p2 p3 p4 p5 p6 c1) scope lp,kp⟩] pos) (tSK X.K C T lp q te):=by
 intro ao s σ H Q I h;refine sH (wB I hg hm (show kZ "sorted"=some (.builtin "sorted") by decide +kernel) ?_);have RY:backTo pos (bH [e] X.env)=(false,eval e X.env)::backTo pos (bH [] X.env):=by rw[hs];rfl
 refine X3 ?_ RY (by rw[RY];rfl);rw[RY];refine vR (gv (he ao s σ H _ I h) fun u s1 zz=>?_);obtain⟨v,H1,I1,r1,a,ws,ds,rfl,hT,hq,hr,sk,ff,sm,k⟩:=zz;obtain rfl:u = .ref a:=r1;refine Av ?_;show aA _ _ (evalAll [do let v <- eval (.Lambda args (Lm.body x p1 p2 p3 p4 p5 p6 c1) scope lp) X.env;standAt pos;pure v]) _ _ s1;refine wpAny_evalAll_cons (ak (Qd L I1 hT fun f H2 h' tk o cv pm KJ sm2 _ I2 fo fd fr=>ak (yX (aB (wpAny_evalAll_nil ?_)))));have hq2:k9 X.K H2 a ws:=sm2.seq hq;have hr2:aH X.K C H2 ds ws:=hr.same sm2 _;obtain⟨bx,rv,pl,hz⟩:=I2.list hq2;have lw:ws.length=ds.length:=hr2.len;obtain⟨mb,b1,b2⟩:=I2.mod.blt;show aA _ _ (call (.builtin "sorted") [.ref a] [(kC "key",.ref f)]) _ _ _;refine BD hu sk (by rw[<- lw];exact hz) pl.isList (Inv.D5 I2 ds ff hr2 rv) (fun h3 tk3 v jE R k3 hl hf hR=>?_) sm fun h3 tk3 l n pm' k3 hL ie hp EF ho=>?_;exact Lm.Qa (k3 _ _ fo) fd (fr.keeps k3) LT.co LT.gen LT.kind LT.loc LT.len (LT.bind pm cv KJ) LT.ndb rJ (I2.nolimit.keeps k3) (mg:=X.mg) ((I2.mod.glob.keeps I2.bk).keeps k3) hml ((b1.keeps I2.bk).keeps k3) ((b2 "len" (by decide)).trans (show kZ "len"=some (.builtin "len") by decide +kernel)) hl hf hR;have lp:pm'.length=ds.length:=by rw[hp.length_eq,t7]
 exact xh I2 (h1:=h') (fun b ob e=>e) k3 hL ho (v7 rv pm' fun i hi=>by rw[lw];exact ie i hi) (by rw[bf,lp,<- lw];exact hz) fun hn=>k H2 l pm' sm2 hn ie hp EF
def unK:D->D
 | .tup [_,d]=>d
 | d=>d
def isL:D->Bool
 | .lst xs=>decide (xs.length<5000)
 | _=>false
def UD(es:List D):Bool:=es.all isL&&skB (es.map BC)&&cu es
def qD:D->R D:=fun d=>match d with
 | .lst es=>if UD es=true then .ok (.lst ((fC (es.map BC)).map unK))else .bad
 | _=>.bad
def Zl(h:isL d=true):∃xs,d = .lst xs/\xs.length<5000:=by
 cases d with
 | lst xs=>exact⟨xs,rfl,aX5 h⟩
 | _=>cases h
def WO(T:av)(lp:Pos)(q:Str):GL:=⟨fun H=>H T=some (.Ck lp q),fun e h=>e _ _ h⟩
section
variable {κ:Kd}
def Val.at{K:aD}{A:List av}{H H':Hp}{d:D}{v:V}(w:Val K C κ G0 A H H' d v):Rep K C (κ.hp G0 A H H') d v:=by
 cases κ with
 | new=>exact w.1
 | tU=>exact w.1
 | loc=>exact w.1
 | old=>exact w
 | tV=>exact w.1
 | jQ=>exact w
def UE(e:aE H' H''):aE (κ.hp G0 A H H') (κ.hp G0 A H H''):=by
 cases κ with
 | new=>exact bP e
 | tU=>exact aI e
 | loc=>exact bP (aI e)
 | old=>exact aI e
 | tV=>exact bP e
 | jQ=>exact e
def Qf(he:PE X e (tD X.K C G0 Γ E f κ))(hC:∀H,C.gl H->H T=some (.Ck lp q))(L:UC X args scope T q)(LT:Zk x q args (Lm.body x p1 p2 p3 p4 p5 p6 c1) scope)(hg:Gl X "sorted")(hm:X.mg "sorted"=none)(hml:X.mg "len"=none)(hu:X.A.units+64<cLine)(rJ:X.A.depth<recursionLimit)
  (hs:autoParam (bH [e] X.env=[(false,eval e X.env)]) zu0._auto_1):PE X (.Call (.Name "sorted" p0) [e] [⟨some "key",.Lambda args (Lm.body x p1 p2 p3 p4 p5 p6 c1) scope lp,kp⟩] pos) (tD X.K C G0 Γ E (rO qD f) κ):=
 (Qe (C:=C) he L LT hg hm hml hu rJ hs).imp fun σ H Q zz=>by
 refine di zz fun A st r q=>?_;clear zz;refine⟨A,st,r,?_⟩;unfold rO R.bind at q;cases hf:f st with
 | bad=>rw[hf]at q;exact q
 | ex c p=>rw[hf]at q;exact q
 | ok d=>
  rw[hf]at q;dsimp only at q;intro v H1 e1 w1;cases hg:qD d with
  | bad=>rw[hg]at q;exact q.elim
  | ex c p=>unfold qD at hg;split at hg <;> (try split at hg) <;> cases hg
  | ok d'=>
   rw[hg]at q;unfold qD at hg;split at hg
   ·rename_i es;split at hg;case isFalse=>cases hg
    rename_i hb;cases hg;unfold UD at hb;simp only[bV]at hb;obtain⟨⟨b1,b2⟩,b3⟩:=hb;have il:=fun d hd=>Zl (fU.mp b1 d hd);have rp:=w1.at
    rw[Rep]at rp;obtain⟨a,ws,rfl,sq,rs⟩:=rp;have Wo:aH X.K C (κ.hp G0 A H H1) es ws:=rs.same (aG _ _) _;refine⟨a,ws,es,rfl,hC H1 (C.glM (r.g0.trans e1) r.gl),aE.seq Kd.qA sq,Wo.same Kd.qA _,⟨Zh b2,fun d hd=>(il d hd).imp fun _ z=>z.1⟩,b3,fun xs hx=>?_,fun H2 p pm nj hn ie hp hs=>?_⟩;obtain⟨ys,e,l⟩:=il _ hx;cases e;have:(5000:Int)<2 ^ 63:=by decide
    lia;refine q _ _ ((e1.trans nj).trans (cH hn)) ?_;have Cr:(fC (es.map BC)).map unK=pm.map fun i=>es.getD i .cM:=by rw[hs,d9];refine mT fun i hi=>?_;have hi:=ie i hi;obtain⟨xs,ex,_⟩:=il es[i] (t8 hi);show unK ((es.map BC).getD i .cM)=_;simp[hi,ex,BC,unK]
    rw[Cr];exact Val.lst r (e1.trans nj) hn (v8 (Wo.same (UE nj) _) pm ie)
   cases hg
end
end Dm
namespace L2
open PySem PySem.Spec PySem.W PyProof.Rows
section
variable {K:aD}{s:ay}{vs:List au}{ns:List Int}
def KQ(KX:K.In s.heap)(hns:s.heap.Ns cZ mg)(hb:s.heap.Ns builtinsNs mb)(hbb:∀x:Str,x≠ "__name__" ->mb x=kZ x)(aQ5:s.heap.NoLimit)(hg:s.gens=#[])
  (ha:s.heap.get? a=some {cls:=.type "list",data:=.seq vs.toArray}) (hi:IntsAre vs ns) (hl:ns.length<=cG) (hr:iX k callerA)
  (hT:s.heap.get? T=some (tabObj #[])) (hc:u6 K c T=true) (kT:K.lookup T=none)
  (F:∀base:aQ,K.In base->base.Ns cZ mg->jO P w K mg base CX k fa fd [x] sp) (Qc:∀(s:ay) (u:au),BindsTo s fd ⟨[u],[]⟩ [(x,u)])
  (hsp:∀H:Hp,H T=some (.Ck lp q)->k9 K H a (ns.map V.int)->sp [.ref a] H (fun v _=>v = .bl true) fun _ _ _=>False)
  (hCX:∀H e s',CX [] H s (fun _ _ _=>False) e s'->False) :
  codeAny (aC P w) callerA (.call (.ref fa) ⟨[.ref a],[]⟩) (fun r s'=>r = .ok (.ret (.bool true))/\OldK s.heap s'.heap/\s'.os=s.os/\AllBare s'.gens) s:=by
 have aT:a≠T:=fun z=>by rw[z,hT]at ha;cases ha
 have rv:=zh hi;have aQ6:=hi.length;let oa:Obj:={cls:=.type "list",data:=.seq vs.toArray}
 let H:Hp:=fun b=>if b=T then some (.Ck lp q)else if b=a then(match K.lookup a with|none=>some (.Cj oa (.lst (ns.map V.int)))|some _=>none)else none
 have HT:H T=some (.Ck lp q):=aW9 rfl;have Ha:H a=match K.lookup a with|none=>some (.Cj oa (.lst (ns.map V.int)))|some _=>none:=(aX0 aT).trans (aW9 rfl)
 have Ho:∀b,b≠T->b≠a->H b=none:=fun b h1 h2=>(aX0 h1).trans (aX0 h2);have HK:∀b o,K.lookup b=some o->H b=none:=fun b o e=>by by_cases h1:b=T;rw[h1,kT]at e;cases e;by_cases h2:b=a;rw[h2,Ha,<- h2,e];exact Ho b h1 h2
 have HD:∀{b:av} {o:Obj} {es:Array qd} {ep:Nat},s.heap.get? b=some o->o.data = .dict es ep->H b=none:=fun {b o es ep} e d=>by refine Ho b (fun z=>?_) fun z=>?_;rw[z,hT]at e;cases e;cases d;rw[z,ha]at e;cases e;cases d
 have eU:qL P w H s.heap:=fun b u z=>by
  by_cases h1:b=T;subst h1;rw[HT]at z;cases z;exact⟨#[],hT,trivial,.inl rfl⟩;by_cases h2:b=a;subst h2;rw[Ha]at z;cases hk:K.lookup b with
  | none=>rw[hk]at z;cases z;exact⟨ha,by rw[bf];exact hl,vs,_,rv,ha⟩
  | some o=>rw[hk]at z;cases z
  rw[Ho b h1 h2]at z;cases z
 have hS:k9 K H a (ns.map V.int):=by
  cases hk:K.lookup a with
  | none=>exact .inl (.inr ⟨oa,by rw[Ha,hk]⟩)
  | some o=>have e:=KX a o hk;rw[ha]at e;cases e;exact .inr ⟨_,vs.toArray,_,hk,rfl,rfl,rfl,by rw[d8,aQ6];exact hl,by simpa using rv⟩
 have nsK:∀{b:av} {m:Str->Option au},s.heap.Ns b m->(Co s.heap H).Ns b m:=fun {b m} ⟨o,es,ep,e,d,r⟩=>⟨o,es,ep,Cp e (HD e d),d,r⟩
 have hKb:K.In (Co s.heap H):=fun b o e=>Cp (KX b o e) (HK b o e);have hM:Mod K mg (Co s.heap H):=⟨hKb,nsK hns,⟨mb,nsK hb,hbb⟩,let⟨mc,h1,h2⟩:=aQ5;⟨mc,nsK h1,h2⟩⟩
 have e0:Gk P w K mg (Co s.heap H) callerA [] s H:=⟨rfl,hM,fun b o e=>Sb e,LV (Jr _ _),trivial,fun b hb=>aY1 (show b∈([]:List av)from hb) (by simp),eU,.of_eq hg⟩
 refine sI ((F _ hKb (nsK hns)).run callerA [] s H ⟨[.ref a],[]⟩ [.ref a] [.ref a] _ _ hr e0 (Qc s (.ref a)) (.cons rfl .nil) (hsp H HT hS)) fun r s' h=>?_;match r,h with
 | .error e,h=>exact(hCX H e s' h).elim
 | .ok (.ret u),h=>
  obtain⟨v,H',os,bare,un,ay1,r',q'⟩:=h;subst q';obtain rfl:u=Value.bool true:=r';have kp:∀b o,b≠T->s.heap.get? b=some o->s'.heap.get? b=some o:=fun b o hbT e=>by
   cases z:H b with
   | none=>exact un.keep b o e z (by intro z;exact aY1 (show b∈([]:List av)from z) (by simp)) (by simp)
   | some u=>
    by_cases h2:b=a;subst h2;rw[ha]at e;cases e;rw[Ha]at z;cases hk:K.lookup b with
    | none=>rw[hk]at z;cases z;exact(ay1 b _ (un.wm b oa (.lst (ns.map V.int)) (by rw[Ha,hk]))).1
    | some o=>rw[hk]at z;cases z
    rw[Ho b hbT h2]at z;cases z
  obtain⟨ps,gT,_⟩:=ay1 T _ (un.wo T lp q HT);have tab:=(IX KX hc).tab hT;refine⟨rfl,⟨fun b o e=>?_,fun b o e=>?_⟩,os,bare⟩;by_cases h1:b=T;subst h1;rw[hT]at e;cases e;exact .inr (.inl ⟨tab.isCodeTable,rfl,#[],ps,rfl,by rw[gT];simp⟩);exact .inl (kp b o h1 e);by_cases h1:b=T;exact⟨_,h1▸gT⟩;exact⟨o,kp b o h1 e⟩
end
def Qg{l:PySem.W.OpenLaw}{YP:bI->aQ->Prop}{d:DefRec}{K:dP->aD}{CX:bI->RN}{sp:bI->Sp}
  (hn:l.most=some n) (hn2:n<=cG) (XR:d.params.defaults=[]) (hr:iX k callerA)
  (hY:∀(w:bI) (h:aQ),YP w h->(K w.params).In h/\h.get? T=some (tabObj #[]))
  (hK:∀w:bI,(K w.params).lookup T=none/\∃c,u6 (K w.params) c T=true)
  (F:∀(w:bI) (mg:Str->Option au) (fa:av) (h:aQ),(K w.params).In h->h.Ns cZ mg->mg d.name=some (.ref fa)->
   ∃fd:gr,(∀(s:ay) (u:au),BindsTo s fd ⟨[u],[]⟩ [(x,u)])/\
    ∀base:aQ,(K w.params).In base->base.Ns cZ mg->jO l.prog w (K w.params) mg base (CX w) k fa fd [x] (sp w))
  (hsp:∀(w:bI) (H:Hp) (a:av) (ns:List Int),ns.length<=n->H T=some (.Ck lp y)->k9 (K w.params) H a (ns.map V.int)->sp w [.ref a] H (fun v _=>v = .bl true) fun _ _ _=>False)
  (hCX:∀(w:bI) (H:Hp) (s:ay) (e:au) (s':ay),CX w [] H s (fun _ _ _=>False) e s'->False) :
  PySem.W.WalkO q loose XP YP l.row.toRowW d [] (fun f vs=>PySem.call f vs):=by
 refine Att.CH hn XR fun w iU kE mg mb fa o pm cd doc a vs ns G Y ho hd G6 hmg XS hints hlen hg=>?_;obtain⟨KX,gT⟩:=hY w _ Y;obtain⟨kT,c,hc⟩:=hK w;obtain⟨fd,hb,hF⟩:=F w mg fa _ KX G.T.g hmg;exact KQ KX G.T.g G.T.b G.T.builtins G.T.nolimit hg XS hints (cj hlen hn2) hr gT hc kT hF hb (fun H hT hS=>hsp w H a ns hlen hT hS) fun H e s'=>hCX w H kE e s'
end L2
namespace Dm
open PySem PySem.Spec PySem.W PyProof.Rows L2
def uF(st:aX):Pos:=match eE st with
 | [.Return (some (.Call _ _ [⟨_,.Lambda _ _ _ p,_⟩] _)) _]=>p
 | _=>⟨0,0,0,0⟩
def UG{X:Cx}(hC:∀(f:av) (cW:au),X.mg x=some (.ref f)->(∃o fd,X.K.lookup f=some o/\o.data = .func fd/\fd.code=cW)->∃c,cW = .ref c/\u6 X.K c T=true)
  (hB:∃b,X.mg "__builtins__"=some (.ref b)/\KP X.K b T=true) (hG:cZ≠T) (hc:X.mg x=some (.ref f)/\∃o fd,X.K.lookup f=some o/\o.data = .func fd/\fd.code=cW) (e:autoParam (X.env.code=cW) zu0._auto_1) (g:autoParam (X.env.globals=cZ) zu0._auto_1)
  (hq:autoParam (X.env.qual=x ++ ".<locals>.") zu0._auto_1) (hq2:autoParam (x ++ ".<locals>." ++ "<lambda>"=q) zu6._auto_1) (cl:autoParam (closureFor scope X.env=pure []) zu0._auto_1) (dfl:autoParam (defaultsOf args X.env=([],[])) zu0._auto_1):UC X args scope T q:=by
 obtain⟨c,rfl,h⟩:=hC f cW hc.1 hc.2;exact⟨⟨c,e,h⟩,g,by rw[hq];exact hq2,hB,hG,cl,dfl⟩
def UH{K:Frag}(X:K.In h)(G:h.Ns cZ mg)(ha:nsIn K cZ x=some (some (.ref a)))(l:K.lookup a=some o)(d:o.data = .func fd)(hc:fd.code = .ref c)(ct:u6 K c T=true)(f:av)(cW:au)(hm:mg x=some (.ref f))(hl:∃o fd,K.lookup f=some o/\o.data = .func fd/\fd.code=cW):∃c,cW = .ref c/\u6 K c T=true:=by
 have e:=mg_of X G ha;rw[hm]at e;cases e;obtain⟨o',fd',h1,h2,h3⟩:=hl;rw[l]at h1;cases h1;rw[d]at h2;cases h2;exact⟨c,h3.symm.trans hc,ct⟩
def Zm(st:aX):bg:=match eE st with
 | [.Return (some (.Call _ _ [⟨_,e,_⟩] _)) _]=>e
 | _=>.Constant .none 0 ⟨0,0,0,0⟩
def UI(st:aX):Arguments:=match Zm st with | .Lambda a _ _ _=>a|_=>⟨[],[],none,[],[],none,[]⟩
def UJ(st:aX):bg:=match Zm st with | .Lambda _ b _ _=>b|e=>e
def Qh(st:aX):i0:=match Zm st with | .Lambda _ _ s _=>s|_=>bz st
def Qi(T:av):Frag->Frag
 | []=>[]
 | p::K=>if p.1=T then Qi T K else p::Qi T K
theorem rZ:∀K:Frag,pO T (Qi T K)=none
 | []=>rfl
 | (a,u)::K=>by
  by_cases e:a=T;rw[Qi,aW9 e];exact rZ K;rw[Qi,aX0 e,mV,beq_false_of_ne (dZ e)];exact rZ K
theorem qE:∀(K:Frag) (b:av) (o:Obj),b≠T->pO b (Qi T K)=some o->pO b K=some o
 | [],_,_,_,h=>by cases h
 | (a,u)::K,b,o,n,h=>by
  by_cases e:a=T;rw[Qi,aW9 e]at h;rw[mV,beq_false_of_ne (fun c=>n (c.trans e))];exact qE K b o n h;rw[Qi,aX0 e,mV]at h;rw[mV];by_cases c:b=a;rw[c,aY0]at h ⊢;exact h;rw[beq_false_of_ne c]at h ⊢;exact qE K b o n h
def Zn{K:Frag}(X:K.In h):(Qi T K).In h:=fun a o e=>by
 by_cases n:a=T;rw[n,rZ]at e;cases e;exact X a o (qE K a o n e)
end Dm
namespace Dm
open PySem PySem.Spec PyProof.Rows L2 PySem.W
def qO{K:Frag}{h:aQ}{mg:Str->Option au}{x:Str}{st:aX}{ps:List Str}{f:av}{oc:au}{od an:Option av}{EB:Array (Option au)}{kV doc pm cW ct:au}(X:K.In h)(G:h.Ns cZ mg)(a:autoParam (nsIn K cZ x=some (some (.ref f))) zu2._auto_1)(l:autoParam (K.lookup f=some ⟨oc,od,.func (fnOf x x (iZ st) (eE st) (bz st) .none kV doc pm an cW ct),EB⟩) zu2._auto_1)
  (c:autoParam (codeIn K cW x=true) zu2._auto_1) (k:autoParam (keepIn K (.ref f)=true) zu2._auto_1) (hb:autoParam (∀(kV doc pm:au) (an:Option av) (cW ct:au),Ko ps.length fun us=>bindArgs (fnOf x x (iZ st) (eE st) (bz st) .none kV doc pm an cW ct) ⟨us,[]⟩=pure (ps.zip us)) zu7._auto_1):pD K mg x x st ps:=Z6 X G a l c k hb
def WQ{K:Frag}(X:K.In h)(G:h.Ns cZ mg)(e:autoParam (nsIn K cZ x=some (some v)) zu2._auto_1):mg x=some v:=mg_of X G e
def WR{K:Frag}(X:K.In h)(G:h.Ns cZ mg)(e:autoParam (nsIn K cZ x=some none) zu2._auto_1):mg x=none:=mg_none_of X G e
def clS{K:Frag}{C:av}(a:autoParam (plainGet K C Str.empty=true) zu2._auto_1)(b:autoParam (hasDictIn K C=true) zu2._auto_1)(c:autoParam (plainOver K C=true) zu2._auto_1)(d:autoParam (findIn K (.ref C) "__setattr__"=some (some (.builtin "object.__setattr__"))) zu2._auto_1):Ln K C:=⟨a,b,c,d⟩
def naS{K:Frag}{C:av}{x:Str}(a:autoParam (findIn K (.ref C) x=some none) zu2._auto_1):jN K C x:=a
def inS{K:Frag}{C a:av}{st:aX}{x qual:Str}{ps:List Str}{oc:au}{od an:Option av}{EB:Array (Option au)}{kV doc pm cW ct:au}(i:autoParam (findIn K (.ref C) "__init__"=some (some (.ref a))) zu2._auto_1)(l:autoParam (K.lookup a=some ⟨oc,od,.func (fnOf x qual (iZ st) (eE st) (bz st) .none kV doc pm an cW ct),EB⟩) zu2._auto_1)
  (c:autoParam (codeIn K cW qual=true) zu2._auto_1) (k:autoParam (keepIn K (.ref a)=true) zu2._auto_1) (m:autoParam (makesIn K C=true) zu2._auto_1) (f:autoParam (isFn K (.ref a)=true) zu2._auto_1) (q:autoParam (keepIn K (.ref C)=true) zu2._auto_1) (hb:autoParam (∀(kV doc pm:au) (an:Option av) (cW ct:au),Ko ps.length fun us=>bindArgs (fnOf x qual (iZ st) (eE st) (bz st) .none kV doc pm an cW ct) ⟨us,[]⟩=pure (ps.zip us)) zu7._auto_1) :
  ∃a fd,Lp K x qual st a fd/\Mk K C a/\Binds K fd ps []:=⟨a,_,AN (st:=st) l c k,⟨m,i,f,q⟩,zM (AN (st:=st) l c k) hb⟩
def aQ8{K:Frag}(X:K.In h)(G:h.Ns cZ mg)(ha:autoParam (nsIn K cZ x=some (some (.ref a))) zu2._auto_1)(l:autoParam (K.lookup a=some o) zu2._auto_1)(d:autoParam (o.data = .func fd) zu0._auto_1)(hc:autoParam (fd.code = .ref c) zu0._auto_1)(ct:autoParam (u6 K c T=true) zu8._auto_1):∀(f:av) (cW:au),mg x=some (.ref f)->(∃o fd,K.lookup f=some o/\o.data = .func fd/\fd.code=cW)->∃c,cW = .ref c/\u6 K c T=true:=UH X G ha l d hc ct
def bmS{K:Frag}(X:K.In h)(G:h.Ns cZ mg)(e:autoParam (nsIn K cZ "__builtins__"=some (some (.ref b))) zu2._auto_1)(m:autoParam (KP K b T=true) zu8._auto_1):∃b,mg "__builtins__"=some (.ref b)/\KP K b T=true:=⟨b,mg_of X G e,m⟩
def scS{N P:List Str}{sc:i0}(a:autoParam (sc.kind = .function) zu0._auto_1)(b:autoParam (sc.isCoroutine=false) zu0._auto_1)(c:autoParam (sc.isGenerator=false) zu0._auto_1)(d:autoParam (N.Nodup) zu6._auto_1)(e:autoParam (N.take P.length=P) zu0._auto_1)(f:autoParam (∀x∈P,sc.names.lookup x=some .local\/sc.names.lookup x=some .cell) zu6._auto_1)(g:autoParam (∀y∈sc.names,y.2≠ .free) zu6._auto_1):jX N P sc:=⟨a,b,c,d,e,f,g⟩
def aQ9:∀{Γ:List SK} {n:Nat},Γ.take n=kr n .par->∀i,i<n->Γ[i]?=some .par:=fun {Γ n} h i hi=>by
 rw[<- Fg hi,h,List.getElem?_replicate_of_lt hi]
end Dm
namespace L2
open PySem PySem.Spec PyProof.Rows
theorem Qj{α β:Type}{g:α->Option β}{h:α->β}:∀{l:List α},(∀x∈l,g x=some (h x))->l.filterMap g=l.map h
 | [],_=>rfl
 | x::l,e=>by rw[HV,e x (.head _),aW,Qj fun y m=>e y (.tail _ m)]
def Qk(vs:List au):slicePick vs.toArray none none (some (-1))=vs.reverse.toArray:=by
 unfold slicePick;apply congrArg;have hb:sliceBounds none none (some (-1)) vs.toArray.size=((vs.length:Int)-1,-1,-1):=by simp[sliceBounds]
 rw[hb];unfold sliceRange;dsimp only;rw[aX0 (by decide)];have hn:(if(vs.length:Int)-1 > -1 then((vs.length:Int)-1 - -1 - -1-1) / - -1 else 0).toNat=vs.length:=by split <;> simp <;> omega
 rw[hn,List.filterMap_map];refine vL fun i=>?_;have key:(cU vs.length).filterMap ((fun x:Nat=>vs.toArray[x]?)∘fun i:Nat=>(((vs.length:Int)-1) + -1*(i:Int)).toNat)=(cU vs.length).map fun i=>vs.getD (vs.length-1-i) .none:=by
  refine Qj fun j hj=>?_;have hj:=m6.mp hj;have e:(((vs.length:Int)-1) + -1*(j:Int)).toNat=vs.length-1-j:=by omega
  show vs.toArray[(((vs.length:Int)-1) + -1*(j:Int)).toNat]?=some (vs.getD (vs.length-1-j) .none);rw[e];have:vs.length-1-j<vs.length:=by omega
  simp[this]
 rw[key,cY];by_cases h:i<vs.length;rw[Fv h,List.getElem?_reverse h];have:vs.length-1-i<vs.length:=by omega
 simp[this];rw[nW (by simpa using h),nW (by simpa using h)];rfl
def aR0(K:aD):V->Hp->VK->Prop:=fun x H Q=>∃a xs,x = .ref a/\k9 K H a xs/\∀p,H p=none->Q (.ref p) (upd H p (.lst xs.reverse))
def Zo{X:Cx}{e:bg}{te:TE}{st:bg}{tt:TO}{pos p2:Pos}(he:PE X e te)(hs:PO X (some st) tt):PE X (.Subscript e (.Slice none none (some st) p2) pos) (fun σ H Q=>te σ H fun x H1=>tt σ H1 fun o H2=>o=some (-1)/\aR0 X.K x H2 Q):=by
 intro ao s σ H Q I h;refine FJ (gv (he ao s σ H _ I h) fun v s1 CD=>?_);refine bw CD fun x H1 I1 r1 q1=>?_;clear CD;refine wpAny_Slice ?_;rw[EL];refine aB (aB ?_);refine gv (hs ao s1 σ H1 _ I1 q1) fun vs s2 NU=>?_;obtain⟨o,H2,I2,ps,rfl,a,xs,rfl,hx,q⟩:=NU;cases r1;have I4:Inv X ao σ H2 {s2 with heap:=s2.heap.push {cls:=.type "slice",data:=.fields #[.none,.none,vs]}}:=I2.kept (t':=s2.toks) fun b ob q=>bM _ q;refine cC (I4.list hx) fun bx r ht hz=>?_;have hlen:=r.length;show aA (aC X.prog X.w) X.A (subscriptTail e (.Slice none none (some st) p2) (.ref a) (.ref s2.heap.objs.size)) (EP X ao σ Q) X.xe {s2 with heap:=s2.heap.push {cls:=.type "slice",data:=.fields #[.none,.none,vs]}};refine tail_any (ops:=[.ref a,.ref s2.heap.objs.size]) ht.isList.typeIs EM.lookup ?_ (by with_unfolding_all rfl);refine LF ht.isList (N5 ..) .none .none ps (by simp) ?_ (by rw[d8] <;> lia);rw[Qk];refine⟨.ref _,_,I4.laid (t':=s2.toks) (o:=.lst xs.reverse) (fun b ob q=>bM _ q) (aZ _) ?_,rfl,q _ (I4.eU.fresh (aZ _))⟩;exact⟨by rw[Ml];exact hz,_,0,r.reverse,dW _ rfl⟩
end L2
namespace Dm
open PySem PySem.Spec PyProof.Rows L2
def Ql(fa fs:DF):DF:=fun st=>(fa st).bind fun a=>(fs st).bind fun b=>match a,b with
 | .lst ds,.int i=>if dB ds=true/\i = -1 then .ok (.lst ds.reverse)else .bad
 | _,_=>.bad
def Qm{K:aD}{C:Cfg}{H:Hp}{ds:List D}{xs:List V}(q:aH K C H ds xs):aH K C H ds.reverse xs.reverse:=by
 induction ds generalizing xs with
 | nil=>rw[aH]at q;subst q;exact .nil
 | cons d ds ih=>rw[aH]at q;obtain⟨v,vs,rfl,a,b⟩:=q;rw[vI,vI];exact(ih b).app (.cons a .nil)
def Zp{X:Cx}{C:Cfg}{G0:Hp}{Γ:List SK}{E:L2.St->XK}{e st:bg}{fa fs:DF}{kj κs:Kd}{pos p2:Pos}(he:PE X e (tD X.K C G0 Γ E fa kj))(hs:PE X st (tD X.K C G0 Γ E fs κs)):PE X (.Subscript e (.Slice none none (some st) p2) pos) (tD X.K C G0 Γ E (Ql fa fs) .new):=(Zo he (II hs)).imp fun σ H Q zz=>by
 refine di zz fun A st r q=>?_;clear zz;refine⟨A,st,r,?_⟩;unfold Ql R.bind at q;cases ha:fa st with
 | bad=>rw[ha]at q;exact q
 | ex c p=>rw[ha]at q;exact q
 | ok a=>
  rw[ha]at q;intro x H1 e1 w1;refine⟨A,st,r.mono e1,?_⟩;dsimp only at q;cases hb:fs st with
  | bad=>rw[hb]at q;simp only[mz,hb,R.bind];exact q
  | ex c p=>rw[hb]at q;simp only[mz,hb,R.bind];exact fun H' e'=>q H' (e1.trans e')
  | ok b=>
   rw[hb]at q;cases a with
   | lst ds=>
    cases b with
    | int i=>simp only[mz,hb,R.bind];intro H2 e2;dsimp only at q;by_cases n:dB ds=true/\i = -1;rw[aW9 n]at q;refine bw ((w1.rep.same e2 _).items) fun p xs b9 h2 h3=>?_;obtain rfl:=b9;have u0:=e1.trans e2;refine⟨by rw[n.2],p,xs,rfl,h2,fun l' D3=>q _ _ (u0.trans (cH D3)) (.lst r u0 D3 ?_)⟩;exact(Qm h3).part (.nw u0) _ (eY fun d hd=>jy n.1 (qh.mp hd));rw[aX0 n]at q;exact q.elim
    | _=>exact q.elim
   | _=>cases b <;> exact q.elim
def iSq(f:DF):DI:=fun st=>match f st with | .ok (.lst ds)=>.ok ds | .ok (.tup ds)=>.ok ds | .ok _=>.bad | .ex c p=>.ex c p | .bad=>.bad
def Zq{X:Cx}{C:Cfg}{G0:Hp}{Γ:List SK}{E:L2.St->XK}{tg iter:bg}{f:DF}{κ:Kd}{z:Bool}(he:PE X iter (tD X.K C G0 Γ E f κ))(l:z=true->κ.le .old=true):PI X tg iter (EJ X.K C G0 Γ E z (iSq f)):=fun ao s σ H R I zz=>by
 obtain⟨A,st,r,q⟩:=zz;unfold iSq at q;cases hf:f st with
 | bad=>rw[hf]at q;exact q.elim
 | ex c p=>rw[hf]at q;exact Br he l ao s σ H R I ⟨A,st,r,by unfold fV;rw[hf];exact q⟩
 | ok d=>
  rw[hf]at q;cases d with
  | lst ds=>exact Br he l ao s σ H R I ⟨A,st,r,by unfold fV;rw[hf];exact q⟩
  | tup ds=>exact Z9 he l ao s σ H R I ⟨A,st,r,by unfold iTp;rw[hf];exact q⟩
  | _=>exact q.elim
end Dm
namespace Pk
open PySem PySem.Spec PyProof.Rows L2 PySem.W Dm
def top(i:Nat):aX:=PySem.Challenge.pw_pegleap_k13_whole_turned_about.main.body.getD i (.Pass ⟨0,0,0,0⟩)
abbrev DG:aX:=top 8
abbrev KR:aX:=top 9
abbrev yI:aX:=top 10
abbrev IY:aX:=inClass (top 11) 0
abbrev BE:aX:=top 12
abbrev DH:aX:=top 13
abbrev KU:aX:=top 14
abbrev UK:aX:=top 15
abbrev Qn:aX:=top 16
abbrev yJ:aX:=top 19
abbrev yK:aX:=top 20
abbrev Qo:aX:=top 21
abbrev Qp:aX:=top 22
abbrev Hr:aX:=top 23
abbrev BF:aX:=top 25
abbrev DJ:aX:=top 26
abbrev yL:aX:=top 27
abbrev BG:aX:=top 28
abbrev dM:aX:=top 29
abbrev Qq:aX:=top 30
abbrev DK:aX:=top 31
abbrev xM:aX:=top 33
abbrev Hs:aX:=top 34
abbrev uP:aX:=top 35
abbrev xN:aX:=top 36
abbrev xO:aX:=top 37
abbrev BH:aX:=top 38
abbrev DL:aX:=top 39
abbrev yM:aX:=top 40
abbrev DM:aX:=top 41
abbrev ay6:aX:=top 42
structure jb where
 Ht:av
 fq:av
 eV:av
 Qs:av
 lE:av
 tab:av
 Zr:Tok
 BI:Tok
 KW:Tok
structure Txt(K:Frag)(mg:Str->Option au)(t:jb):Prop where
 DN:pD K mg "is_rising" "is_rising" DG ["cells"]
 KY:pD K mg "is_cell" "is_cell" KR ["cell"]
 yN:pD K mg "check_cells" "check_cells" yI ["cells"]
 BJ:pD K mg "check_pegs" "check_pegs" BE ["board","pegs"]
 DO:pD K mg "two_apart" "two_apart" DH ["cell"]
 KZ:pD K mg "between" "between" KU ["cell","other"]
 UL:pD K mg "leaps" "leaps" UK ["board"]
 Qt:pD K mg "turned" "turned" Qn ["board","pegs"]
 yO:pD K mg "can_be_done" "can_be_done" yJ ["pegs","leap"]
 yP:pD K mg "pegs_behind" "pegs_behind" yK ["pegs","leap"]
 Qu:pD K mg "walked" "walked" Qo ["board","pegs","row"]
 Qv:pD K mg "odd_on" "odd_on" Qp ["colours","two"]
 Hu:pD K mg "class_of" "class_of" Hr ["board","pegs"]
 BK:pD K mg "steps_from" "steps_from" BF ["all_leaps","standing"]
 DQ:pD K mg "next_rows" "next_rows" DJ ["all_leaps","layer"]
 yQ:pD K mg "next_counts" "next_counts" yL ["all_leaps","layer"]
 BL:pD K mg "first_rows" "first_rows" BG ["board","pegs"]
 Hv:pD K mg "in_order" "in_order" dM ["standings"]
 Qw:pD K mg "answer" "answer" Qq ["board","pegs","others"]
 DR:pD K mg "row_count" "row_count" DK ["board","pegs","others"]
 xP:pD K mg "_law_cell_at" "_law_cell_at" xM ["script","k"]
 Hw:pD K mg "_law_mix" "_law_mix" Hs ["cell","k","many"]
 uQ:pD K mg "_law_cells_by" "_law_cells_by" uP ["script","most"]
 xQ:pD K mg "_law_pegs_by" "_law_pegs_by" xN ["cell","cells"]
 xR:pD K mg "_law_between" "_law_between" xO ["leap"]
 BN:pD K mg "_law_leaps" "_law_leaps" BH ["cells"]
 DT:pD K mg "_law_open" "_law_open" DL ["cells","pegs"]
 yR:pD K mg "_law_behind" "_law_behind" yM ["pegs","leap"]
 DU:pD K mg "_law_gone" "_law_gone" DM ["cells","pegs","cell","most"]
 WS:pD K mg "law" "law" ay6 ["script"]
 ay7:mg "abs"=none
 DV:mg "enumerate"=none
 Qx:mg "len"=none
 Qy:mg "list"=none
 UM:mg "range"=none
 ay8:mg "set"=none
 xS:mg "sorted"=none
 UN:mg "tuple"=none
 zR:mg "COLOURS"=some (.int (3) t.KW)
 Qz:mg "LAST"=some (.int (7) t.Zr)
 s8:mg "MOST_CELLS"=some (.int (24) t.BI)
 Zs:mg "PegError"=some (.ref t.Ht)
 Hx:mg "BadBoard"=some (.ref t.fq)
 L0:mg "BadPegs"=some (.ref t.eV)
 ay9:mg "NoLeap"=some (.ref t.Qs)
 UO:mg "Board"=some (.ref t.lE)
 Hy:exB K t.fq [.type "ValueError",.type "Exception",.type "BaseException",.type "object"] "ValueError.__new__"=true
 L1:exB K t.eV [.type "ValueError",.type "Exception",.type "BaseException",.type "object"] "ValueError.__new__"=true
 aR1:∀(f:av) (cW:au),mg "in_order"=some (.ref f)->(∃o fd,K.lookup f=some o/\o.data = .func fd/\fd.code=cW)->∃c,cW = .ref c/\u6 K c t.tab=true
 aR2:∃b,mg "__builtins__"=some (.ref b)/\KP K b t.tab=true
 aR3:cZ≠t.tab
 clB:Ln K t.lE
 naB:jN K t.lE "cells"
 iB:∃a fd,Lp K "__init__" "Board.__init__" IY a fd/\Mk K t.lE a/\Binds K fd ["self","cells"] []
def az0:ExcBaseFacts "ValueError" "ValueError.__new__" "ValueError.__init__" [.type "ValueError",.type "Exception",.type "BaseException",.type "object"] :=PySem.F.excBase_ValueError
def QA:kZ "len"=some (.builtin "len"):=by decide +kernel
def IZ:kZ "list"=some (.type "list"):=by decide +kernel
def f7(t:jb):List D->R D:=bW 1 (eL (aV (k7 false) (ah 0) (rO kL (ah 0))))
def mG(t:jb):List D->R D:=bW 1 (eL (jR (nt WE WE (dC (.int 0)) (aV eF (ah 0) (dC (.int 0))) (dC (.int (7)))) (nt WE WE (dC (.int 0)) (aV eF (ah 0) (dC (.int 1))) (dC (.int (7))))))
def cB(t:jb):List D->R D:=bW 2 (bG (dJ (tX (nt WE WE (dC (.int 1)) (bD jz (af (ah 0) az)) (dC (.int (24)))))
 (gP t.fq)
 cy)
 (bG (dJ (tX (bD (f7 t) (af (ah 0) az)))
 (gP t.fq)
 cy)
 (fm (fV (ah 0)) (cR 1)
 (dJ (tX (bD (mG t) (af (ah 1) az)))
 (gP t.fq)
 cy))))
def cI(t:jb):List D->R D:=bW 3 (bG (dJ (tX (bD (f7 t) (af (ah 1) az)))
 (gP t.eV)
 cy)
 (fm (fV (ah 1)) (cR 2)
 (dJ (aV (jG true) (ah 2) (rO dR (ah 0)))
 (gP t.eV)
 cy)))
def iH(t:jb):List D->R D:=bW 3 (bG (cF 1 (b8 (aV eF (ah 0) (dC (.int 0)))))
 (bG (cF 2 (b8 (aV eF (ah 0) (dC (.int 1)))))
 (eL (cX 100 (af (bQ 100 (af (aV jW (ah 1) (dC (.int 2))) (af (b8 (ah 2)) az))) (af (bQ 100 (af (b8 (ah 1)) (af (aV jW (ah 2) (dC (.int 2))) az))) (af (bQ 100 (af (b8 (ah 1)) (af (aV gO (ah 2) (dC (.int 2))) az))) (af (bQ 100 (af (aV gO (ah 1) (dC (.int 2))) (af (b8 (ah 2)) az))) az))))))))
def gQ(t:jb):List D->R D:=bW 2 (eL (bQ 100 (af (aV oS (aV gO (aV eF (ah 0) (dC (.int 0))) (aV eF (ah 1) (dC (.int 0)))) (dC (.int 2))) (af (aV oS (aV gO (aV eF (ah 0) (dC (.int 1))) (aV eF (ah 1) (dC (.int 1)))) (dC (.int 2))) az))))
def pF(t:jb):List D->R D:=bW 4 (bG (cF 1 (cX 100 az))
 (bG (fm (fV (rO dR (ah 0))) (cR 2)
 (fm (fV (bD (iH t) (af (ah 2) az))) (cR 3)
 (dJ (jR (aV (jG false) (ah 3) (rO dR (ah 0))) (aV (jG false) (bD (gQ t) (af (ah 2) (af (ah 3) az))) (rO dR (ah 0))))
 (kY 1 (bQ 100 (af (b8 (ah 2)) (af (b8 (ah 3)) az))))
 cy)))
 (eL (ah 1))))
def j8(t:jb):List D->R D:=bW 2 (bG (nH (bD (cI t) (af (ah 0) (af (ah 1) az))))
 (eL (ir (fV (rO dR (ah 0))) 1 [1] (cR 0) (aV (jG true) (ah 0) (ah 1)) (b8 (ah 0)))))
def fu(t:jb):List D->R D:=bW 2 (eL (jR (aV (jG false) (aV eF (ah 1) (dC (.int 0))) (ah 0)) (jR (aV (jG true) (aV eF (ah 1) (dC (.int 1))) (ah 0)) (aV (jG false) (bD (gQ t) (af (aV eF (ah 1) (dC (.int 0))) (af (aV eF (ah 1) (dC (.int 1))) az))) (ah 0)))))
def fz(t:jb):List D->R D:=bW 3 (bG (cF 2 (bQ 100 (af (b8 (aV eF (ah 1) (dC (.int 0)))) (af (bD (gQ t) (af (aV eF (ah 1) (dC (.int 0))) (af (aV eF (ah 1) (dC (.int 1))) az))) az))))
 (eL (bD fL (af (aV pI (ir (iSq (ah 0)) 1 [2] (cR 0) (aV (jG true) (ah 0) (ah 1)) (b8 (ah 0))) (cX 100 (af (b8 (aV eF (ah 1) (dC (.int 1)))) az))) az))))
def sd(t:jb):List D->R D:=bW 7 (bG (nH (bD (cI t) (af (ah 0) (af (ah 1) az))))
 (bG (cF 3 (bD lq (af (ah 1) az)))
 (bG (cF 4 (bD (pF t) (af (ah 0) az)))
 (bG (fm (Dv (ah 2)) (eZ 5 6)
 (bG (dJ (Tt (aV (jG true) (ah 6) (ah 4)) (tX (bD (fu t) (af (ah 3) (af (ah 6) az)))))
 Z7
 cy)
 (cF 3 (bD (fz t) (af (ah 3) (af (ah 6) az))))))
 (eL (ah 3))))))
def kN(t:jb):List D->R D:=bW 2 (eL (aV jc (bD jz (af (ir (fV (ah 0)) 1 [1] (cR 0) (aV (jG false) (ah 0) (ah 1)) (b8 (ah 0))) az)) (dC (.int 2))))
def fY(t:jb):List D->R D:=bW 4 (bG (nH (bD (cI t) (af (ah 0) (af (ah 1) az))))
 (bG (cF 2 (ir (fV (ah 1)) 1 [] (cR 0) (dC (.bl true)) (aV jc (aV gO (aV eF (ah 0) (dC (.int 0))) (aV eF (ah 0) (dC (.int 1)))) (dC (.int (3))))))
 (bG (cF 3 (ir (fV (ah 1)) 1 [] (cR 0) (dC (.bl true)) (aV jc (aV jW (aV eF (ah 0) (dC (.int 0))) (aV eF (ah 0) (dC (.int 1)))) (dC (.int (3))))))
 (eL (bQ 100 (af (bD (kN t) (af (ah 2) (af (bQ 100 (af (dC (.int 0)) (af (dC (.int 1)) az))) az))) (af (bD (kN t) (af (ah 2) (af (bQ 100 (af (dC (.int 1)) (af (dC (.int 2)) az))) az))) (af (bD (kN t) (af (ah 3) (af (bQ 100 (af (dC (.int 0)) (af (dC (.int 1)) az))) az))) (af (bD (kN t) (af (ah 3) (af (bQ 100 (af (dC (.int 1)) (af (dC (.int 2)) az))) az))) az)))))))))
def dU(t:jb):List D->R D:=bW 2 (eL (ir (fV (ah 0)) 1 [1] (cR 0) (bD (fu t) (af (ah 1) (af (ah 0) az))) (bQ 100 (af (b8 (ah 0)) (af (bD gW (af (bD (fz t) (af (ah 1) (af (ah 0) az))) az)) az)))))
def jA(t:jb):List D->R D:=bW 7 (bG (cF 2 (dC (.bJ 2 [])))
 (bG (fm (xH (ah 1)) (eZ 3 4)
 (fm (fV (bD (dU t) (af (ah 0) (af (ah 3) az)))) (eZ 5 6)
 (dJ (aV (pK true) (ah 6) (ah 2))
 (H8 2 (ah 6) (aV pI (ah 4) (cX 100 (af (b8 (ah 5)) az))))
 cy)))
 (eL (ah 2))))
def iu(t:jb):List D->R D:=bW 7 (bG (cF 2 (dC (.bJ 2 [])))
 (bG (fm (xH (ah 1)) (eZ 3 4)
 (fm (fV (bD (dU t) (af (ah 0) (af (ah 3) az)))) (eZ 5 6)
 (uE 2 (ah 6) (aV gO (rY (ah 2) (ah 6) (dC (.int 0))) (ah 4)))))
 (eL (ah 2))))
def j9(t:jb):List D->R D:=bW 5 (bG (cF 2 (bD (pF t) (af (ah 0) az)))
 (bG (cF 3 (dC (.bJ 2 [])))
 (bG (cF 4 (xJ (bD gW (af (ah 1) az)) (cX 100 az)))
 (bG (uO (aV RW (bD pW (af (ah 4) az)) (dC (.int 0)))
 (bG (Kx 3 (ah 4))
 (cF 4 (bD (jA t) (af (ah 2) (af (ah 4) az))))) 40)
 (eL (ah 3))))))
def iF(t:jb):List D->R D:=bW 1 (eL (rO qD (ir (Q8 (ah 0)) 1 [] (cR 0) (dC (.bl true)) (bD lq (af (ah 0) az)))))
def oZ(t:jb):List D->R D:=bW 4 (bG (nH (bD (cI t) (af (ah 0) (af (ah 1) az))))
 (bG (nH (bD (cI t) (af (ah 0) (af (ah 2) az))))
 (bG (dJ (aV (k7 true) (bD (fY t) (af (ah 0) (af (ah 1) az))) (bD (fY t) (af (ah 0) (af (ah 2) az))))
 (eL (bQ 100 (af (dC (.str "never")) (af (bQ 100 (af (dC (.str "class")) az)) az))))
 cy)
 (bG (cF 3 (bD (j9 t) (af (ah 0) (af (ah 1) az))))
 (bG (dJ (aV (pK false) (bD gW (af (ah 2) az)) (ah 3))
 (eL (rX "leaps" (aV pX (ah 3) (bD gW (af (ah 2) az)))))
 cy)
 (eL (bQ 100 (af (dC (.str "never")) (af (rX "closed" (bD (iF t) (af (ah 3) az))) az)))))))))
def dX(t:jb):List D->R D:=bW 6 (bG (nH (bD (cI t) (af (ah 0) (af (ah 1) az))))
 (bG (nH (bD (cI t) (af (ah 0) (af (ah 2) az))))
 (bG (cF 3 (bD (pF t) (af (ah 0) az)))
 (bG (cF 4 (xJ (bD gW (af (ah 1) az)) (dC (.int 1))))
 (bG (fm (qB (af (aV jW (bD jz (af (ah 1) az)) (bD jz (af (ah 2) az))) az)) (cR 5)
 (cF 4 (bD (iu t) (af (ah 3) (af (ah 4) az)))))
 (eL (rY (ah 4) (bD gW (af (ah 2) az)) (dC (.int 0)))))))))
def bq(t:jb):List D->R D:=bW 2 (bG (dJ (aV gLt (ah 1) (bD jz (af (ah 0) az)))
 (eL (b8 (aV eF (ah 0) (ah 1))))
 cy)
 (eL (dC (.int 0))))
def bh(t:jb):List D->R D:=bW 5 (bG (cF 3 (cX 100 (af (dC (.int 48271)) (af (dC (.int 69621)) (af (dC (.int 16807)) (af (dC (.int 39373)) (af (dC (.int 30269)) (af (dC (.int 40014)) (af (dC (.int 40692)) (af (dC (.int 50021)) (af (dC (.int 61687)) (af (dC (.int 71993)) (af (dC (.int 83869)) (af (dC (.int 95561)) (af (dC (.int 30307)) az)))))))))))))))
 (bG (cF 4 (aV rP (aV gO (aV jc (ah 0) (dC (.int 2147483647))) (dC (.int 12345))) (aV eF (ah 3) (aV jc (ah 1) (dC (.int 13))))))
 (bG (cF 4 (aV gO (aV rP (ah 4) (aV gO (aV rP (dC (.int 2)) (aV oS (ah 1) (dC (.int 13)))) (dC (.int 1)))) (aV rP (dC (.int 977)) (ah 1))))
 (eL (aV jc (aV oS (aV jc (ah 4) (dC (.int 1000000007))) (dC (.int 7))) (ah 2))))))
def dO(t:jb):List D->R D:=bW 9 (bG (cF 2 (bD (bq t) (af (ah 0) (af (dC (.int 0)) az))))
 (bG (yE 3 4 (af (aV gO (dC (.int 1)) (bD (bh t) (af (ah 2) (af (dC (.int 1)) (af (dC (.int 4)) az))))) (af (aV gO (dC (.int 1)) (bD (bh t) (af (ah 2) (af (dC (.int 2)) (af (dC (.int 6)) az))))) az)))
 (bG (dJ (aV (k7 false) (aV jc (ah 2) (dC (.int 4))) (dC (.int 1)))
 (uB (eZ 3 4) (b8 (aV eF (cX 100 (af (bQ 100 (af (aV gO (dC (.int 1)) (aV jc (ah 3) (dC (.int 3)))) (af (dC (.int 8)) az))) (af (bQ 100 (af (dC (.int 8)) (af (aV gO (dC (.int 1)) (aV jc (ah 4) (dC (.int 3)))) az))) az))) (aV jc (aV oS (ah 2) (dC (.int 4))) (dC (.int 2))))))
 cy)
 (bG (yE 5 6 (af (bD (bh t) (af (ah 2) (af (dC (.int 3)) (af (aV jW (dC (.int 9)) (ah 3)) az)))) (af (bD (bh t) (af (ah 2) (af (dC (.int 4)) (af (aV jW (dC (.int 9)) (ah 4)) az)))) az)))
 (bG (cF 7 (cX 100 az))
 (bG (fm (qB (af (aV rP (ah 3) (ah 4)) az)) (cR 8)
 (dJ (aV RW (bD (bh t) (af (bD (bq t) (af (ah 0) (af (dC (.int 1)) az))) (af (ah 8) (af (dC (.int 7)) az)))) (dC (.int 0)))
 (kY 7 (bQ 100 (af (aV gO (ah 5) (aV oS (ah 8) (ah 4))) (af (aV gO (ah 6) (aV jc (ah 8) (ah 4))) az))))
 cy))
 (bG (dJ (aV (k7 false) (bD jz (af (ah 7) az)) (dC (.int 0)))
 (cF 7 (cX 100 (af (bQ 100 (af (b8 (ah 5)) (af (b8 (ah 6)) az))) az)))
 cy)
 (eL (Lw (ah 7) none (some (ah 1)))))))))))
def fM(t:jb):List D->R D:=bW 4 (bG (cF 2 (bD (bh t) (af (ah 0) (af (dC (.int 40)) (af (dC (.int 4)) az)))))
 (bG (dJ (aV (k7 false) (ah 2) (dC (.int 0)))
 (bG (cF 3 (bD (bh t) (af (ah 0) (af (dC (.int 41)) (af (bD jz (af (ah 1) az)) az)))))
 (eL (aV pI (Lw (ah 1) none (some (ah 3))) (Lw (ah 1) (some (aV gO (ah 3) (dC (.int 1)))) none))))
 cy)
 (eL (ir (Dv (ah 1)) 2 [0,2] (eZ 0 1) (aV RW (bD (bh t) (af (ah 2) (af (ah 0) (af (aV eF (cX 100 (af (dC (.int 0)) (af (dC (.int 2)) (af (dC (.int 3)) (af (dC (.int 4)) az))))) (ah 3)) az)))) (dC (.int 0))) (b8 (ah 1))))))
def bN(t:jb):List D->R D:=bW 1 (eL (bQ 100 (af (aV oS (aV gO (aV eF (aV eF (ah 0) (dC (.int 0))) (dC (.int 0))) (aV eF (aV eF (ah 0) (dC (.int 1))) (dC (.int 0)))) (dC (.int 2))) (af (aV oS (aV gO (aV eF (aV eF (ah 0) (dC (.int 0))) (dC (.int 1))) (aV eF (aV eF (ah 0) (dC (.int 1))) (dC (.int 1)))) (dC (.int 2))) az))))
def ja(t:jb):List D->R D:=bW 5 (bG (cF 1 (cX 100 az))
 (bG (fm (fV (ah 0)) (cR 2)
 (fm (fV (ah 0)) (cR 3)
 (bG (cF 4 (bD fL (af (cX 100 (af (bD rV (af (aV jW (aV eF (ah 2) (dC (.int 0))) (aV eF (ah 3) (dC (.int 0)))) az)) (af (bD rV (af (aV jW (aV eF (ah 2) (dC (.int 1))) (aV eF (ah 3) (dC (.int 1)))) az)) az))) az)))
 (dJ (jR (aV (k7 false) (ah 4) (cX 100 (af (dC (.int 0)) (af (dC (.int 2)) az)))) (aV (jG false) (bD (bN t) (af (bQ 100 (af (b8 (ah 2)) (af (b8 (ah 3)) az))) az)) (ah 0)))
 (kY 1 (bQ 100 (af (b8 (ah 2)) (af (b8 (ah 3)) az))))
 cy))))
 (eL (bD fL (af (ah 1) az)))))
def iI(t:jb):List D->R D:=bW 5 (bG (cF 2 (cX 100 az))
 (bG (fm (fV (bD (ja t) (af (ah 0) az))) (eZ 3 4)
 (dJ (jR (aV (jG false) (ah 3) (ah 1)) (jR (aV (jG false) (bD (bN t) (af (bQ 100 (af (b8 (ah 3)) (af (b8 (ah 4)) az))) az)) (ah 1)) (aV (jG true) (ah 4) (ah 1))))
 (kY 2 (bQ 100 (af (b8 (ah 3)) (af (b8 (ah 4)) az))))
 cy))
 (eL (ah 2))))
def iw(t:jb):List D->R D:=bW 3 (bG (cF 2 (ir (fV (ah 0)) 1 [1] (cR 0) (jR (aV (k7 true) (ah 0) (aV eF (ah 1) (dC (.int 0)))) (aV (k7 true) (ah 0) (bD (bN t) (af (ah 1) az)))) (b8 (ah 0))))
 (eL (bD fL (af (aV pI (ah 2) (cX 100 (af (b8 (aV eF (ah 1) (dC (.int 1)))) az))) az))))
def jB(t:jb):List D->R D:=bW 9 (bG (cF 4 (cX 100 az))
 (bG (cF 5 (bD lq (af (ah 1) az)))
 (bG (fm (qB (af (bD (bh t) (af (ah 2) (af (dC (.int 60)) (af (aV gO (ah 3) (dC (.int 1))) az)))) az)) (cR 6)
 (bG (cF 7 (bD (iI t) (af (ah 0) (af (ah 5) az))))
 (dJ (aV RW (bD jz (af (ah 7) az)) (dC (.int 0)))
 (bG (cF 8 (b8 (aV eF (ah 7) (bD (bh t) (af (ah 2) (af (aV gO (dC (.int 61)) (ah 6)) (af (bD jz (af (ah 7) az)) az)))))))
 (bG (kY 4 (b8 (ah 8)))
 (cF 5 (bD (iw t) (af (ah 5) (af (ah 8) az))))))
 cy)))
 (eL (bQ 100 (af (ah 4) (af (ah 5) az)))))))
def zS(t:jb):List D->R D:=bW 11 (bG (cF 1 (bD (dO t) (af (ah 0) (af (dC (.int 9)) az))))
 (bG (cF 2 (bD (qC (cB t)) (af (bD lq (af (ah 1) az)) az)))
 (bG (cF 3 (bD (fM t) (af (bD (bq t) (af (ah 0) (af (dC (.int 2)) az))) (af (ah 1) az))))
 (bG (uB (eZ 4 5) (bD (jB t) (af (ah 1) (af (ah 3) (af (bD (bq t) (af (ah 0) (af (dC (.int 3)) az))) (af (dC (.int 8)) az))))))
 (bG (yE 6 7 (af (bD (j8 t) (af (ah 2) (af (ah 3) az))) (af (bD (j8 t) (af (ah 2) (af (ah 5) az))) az)))
 (bG (dJ (Tt (aV (k7 true) (bD (j8 t) (af (ah 2) (af (ah 6) az))) (ah 3)) (aV (k7 true) (bD (sd t) (af (ah 2) (af (ah 7) (af (Ql (ah 4) (rO YO (dC (.int 1)))) az)))) (ah 6)))
 (eL (dC (.bl false)))
 cy)
 (bG (dJ (Tt (aV (k7 true) (bD (dX t) (af (ah 2) (af (ah 3) (af (ah 5) az)))) (bD (dX t) (af (ah 2) (af (ah 7) (af (ah 6) az))))) (aV gLt (bD (dX t) (af (ah 2) (af (ah 3) (af (ah 5) az)))) (dC (.int 1))))
 (eL (dC (.bl false)))
 cy)
 (bG (cF 8 (bD (fM t) (af (bD (bq t) (af (ah 0) (af (dC (.int 4)) az))) (af (ah 1) az))))
 (bG (cF 9 (bD (oZ t) (af (ah 2) (af (ah 3) (af (ah 8) az)))))
 (bG (cF 10 (bD (oZ t) (af (ah 2) (af (bD (j8 t) (af (ah 2) (af (ah 8) az))) (af (ah 6) az)))))
 (bG (dJ (Tt (aV (k7 true) (aV eF (ah 9) (dC (.int 0))) (aV eF (ah 10) (dC (.int 0)))) (aV (jG true) (aV eF (ah 9) (dC (.int 0))) (bQ 100 (af (dC (.str "leaps")) (af (dC (.str "never")) az)))))
 (eL (dC (.bl false)))
 cy)
 (bG (dJ (jR (aV (k7 false) (aV eF (ah 9) (dC (.int 0))) (dC (.str "leaps"))) (aV (k7 true) (bD jz (af (aV eF (ah 9) (dC (.int 1))) az)) (bD jz (af (aV eF (ah 10) (dC (.int 1))) az))))
 (eL (dC (.bl false)))
 cy)
 (eL (aV (k7 false) (bD (dX t) (af (ah 2) (af (ah 3) (af (ah 8) az)))) (bD (dX t) (af (ah 2) (af (bD (j8 t) (af (ah 2) (af (ah 8) az))) (af (ah 6) az))))))))))))))))))
abbrev qF(t:jb):Cfg:=cz t.lE (WO t.tab (uF dM) "in_order.<locals>.<lambda>")
def qP{P:cS}{w:bI}{K:Frag}{mg:Str->Option au}{base:aQ}{C:Cfg}{x qual:Str}{st:aX}(N:List Str){ps:List Str}(Γ:List SK){k n:Nat}{jq:Option Bool}{Fb:DS}(T:pD K mg x qual st ps)
  (body:jX N ps (bz st)->∀(f:av) (cW:au),(mg x=some (.ref f)/\∃o fd,K.lookup f=some o/\o.data = .func fd/\fd.code=cW)->∀(A:bX) (outer:List Env) (s:ay) (H:Hp) (E:XK),iX k (A.deeper (envOfC qual (bz st) s.heap.objs.size f cW))->
   qM ((nJ (nM P w) P w K mg base N qual (bz st) f cW A outer s H E).eT (l7 (nJ (nM P w) P w K mg base N qual (bz st) f cW A outer s H E) fun _=>E)) (eE st) (nK K C H Γ (fun _=>E) jq Fb)) (S:jX N ps (bz st):=by exact scS) (hn:autoParam (ps.length=n) zu0._auto_1) (AO:autoParam (Γ.take n=kr n .par) zu0._auto_1) :
  FD P w K mg base C (k+1) x ps n (bW N.length Fb) jq:=au6 T S hn (aQ9 AO) (body S)
def QB{X:Cx}{C:Cfg}{G0:Hp}{Γ:List SK}{E:L2.St->XK}{e:bg}{es:List bg}{f:DF}{fs:DA}{kj:Kd}(ha:PE X e (tD X.K C G0 Γ E f kj))(hr:PA X es (EH X.K C G0 Γ E fs .jQ))(hs:autoParam (bH (e::es) X.env=(false,eval e X.env)::bH es X.env) zu0._auto_1):PA X (e::es) (EH X.K C G0 Γ E (af f fs) .jQ):=ve ha hr (by cases kj <;> rfl) hs
abbrev gE{X:Cx}{e:bg}{K:Frag}{C:Cfg}{G0:Hp}{Γ:List SK}{E:L2.St->XK}{κ:Kd}(f:DF):Prop:=PE X e (tD K C G0 Γ E f κ)
abbrev gS{X:Cx}{s:aX}{K:Frag}{C:Cfg}{G0:Hp}{Γ:List SK}{E:L2.St->XK}{jq:Option Bool}(f:DS):Prop:=PS X s (nK K C G0 Γ E jq f)
abbrev gT{X:Cx}{e:bg}{K:Frag}{C:Cfg}{G0:Hp}{Γ:List SK}{E:L2.St->XK}(f:DF):Prop:=PT X e (vd K C G0 Γ E f)
local macro_rules|`(tactic|walk_at"k")=>`(tactic|repeat first|((with_reducible change PE _ _ _);first|((with_reducible change gE (ah _));first|exact Bv _ (pv _)|exact Uh _ (pv _)|exact Ug _ (pv _))|with_reducible exact Yw|with_reducible refine' Tv ?_|((with_reducible change gE (bD _ _));first|((with_reducible change gE (bD jz _));refine' xu (kj:=.jQ) TM (oF AM rfl T.Qx QA ?_))|((with_reducible change gE (bD lq _));refine' xu (kj:=.jQ) Dh (p9 rf rfl T.Qy IZ ?_))|((with_reducible change gE (bD fL _));refine' xu (kj:=.jQ) Kr (oF (Bg hr.units) rfl T.xS zI ?_))|((with_reducible change gE (bD gW _));refine' xu (kj:=.jQ) Ks (p9 yv rfl T.UN Pz ?_))|((with_reducible change gE (bD rV _));refine' xu (kj:=.jQ) Ul (oF NP rfl T.ay7 Z8 ?_))|refine' Du (κ:=.jQ) (by first|exact DW T|exact yS T|exact L3 T|exact BO T|exact uR T|exact L4 T|exact Hz T|exact QC T|exact uS T|exact BP T|exact xT T|exact xU T|exact DZ T|exact yT T|exact L5 T|exact uT T|exact HA T|exact BQ T|exact L6 T|exact BR T|exact xV T|exact yU T|exact E2 T|exact u7 T|exact yV T|exact BS T|exact xW T|exact BU T) hr (by decide) ?_ (by repeat first|exact IG|refine Di ?_))|with_reducible refine' YG ?_|((with_reducible change PE _ (.Subscript (.List _ _) _ _) (tD _ _ _ _ _ (aV eF _ _) _));focus ((with_reducible refine' GQ ?_ ?_ ?_);walk_at"k";done))|((with_reducible change gE (aV eF _ _));(fail_if_success (with_reducible change PE _ (.Subscript (.List _ _) _ _) _));first|with_reducible refine' GQ ?_ ?_ ?_|refine' Z5 ?_ ?_ (fun _ _=>rfl) ?_|refine' aR4 ?_ ?_ (fun _ _=>rfl) ?_)|with_reducible refine' zF XA Tw ?_ ?_|with_reducible refine' zF XF TJ ?_ ?_|with_reducible refine' zF Sj TH ?_ ?_|with_reducible refine' zF XC Tz ?_ ?_|with_reducible refine' zF XE TF ?_ ?_|with_reducible refine' zF U0 U1 ?_ ?_|((with_reducible change gE (bQ _ _));first|focus ((with_reducible refine' xr (κ:=.new) ?_);walk_at"k";done)|focus ((with_reducible refine' xr (κ:=.loc) ?_);walk_at"k";done)|focus ((with_reducible refine' xr (κ:=.old) ?_);walk_at"k";done)|focus ((with_reducible refine' xr (κ:=.tV) ?_);walk_at"k";done))|((with_reducible change gE (cX _ _));first|focus ((with_reducible refine' OX (κ:=.new) ?_);walk_at"k";done)|focus ((with_reducible refine' OX (κ:=.old) ?_);walk_at"k";done))|((with_reducible change gE (aV (k7 false) _ _));refine' GO (OI hr.units) GP ?_ ?_ (wI _))|((with_reducible change gE (aV (jG false) _ _));refine' GO (OJ hr.units) Bm ?_ ?_ (by with_unfolding_all rfl))|((with_reducible change gE (aV (jG true) _ _));refine' GO (zC hr.units) Bm ?_ ?_ (by with_unfolding_all rfl))|with_reducible exact as5|with_reducible exact Yx|((with_reducible change gE (rO dR _));refine' Py T.clB T.naB ?_ (hk:=?_))|with_reducible refine' YH ?_ ?_|with_reducible refine' Pf ?_ ?_ ?_|with_reducible refine' YQ ?_|((with_reducible change gE (dC _));first|exact Bl rfl T.zR|exact Bl rfl T.Qz|exact Bl rfl T.s8))|((with_reducible change PA _ _ _);first|((with_reducible change PA _ _ (EH _ _ _ _ _ (af _ _) .jQ));refine' QB ?_ ?_)|with_reducible exact GR|((with_reducible change PA _ _ (EH _ _ _ _ _ _ _));refine' ve ?_ ?_ ?_)|((with_reducible change PA _ _ (wJ _ _));refine' iY ?_ n5))|((with_reducible change _=_);exact rfl)|((with_reducible change List.Nodup _);exact hS.nd)|((with_reducible change r9 _);exact fun _ _=>rfl)|((with_reducible change qM _ _ _);first|with_reducible exact Uk|((with_reducible change qM _ _ (nK _ _ _ _ _ _ (bG _ _)));refine' TR ?_ ?_)|refine' YJ ?_)|((with_reducible change PS _ _ _);first|with_reducible refine' YL ?_ ?_|((with_reducible change gS (cF _ _));(fail_if_success (with_reducible change PS _ (.Assign _ (.ListComp _ _ _ _) _) _));refine' YK ?_ ?_ (hl:=?_))|with_reducible refine' at1 ?_ ?_ YI|((with_reducible change gS (nH _));refine' TU ?_)|((with_reducible change gS (kY _ _));refine' YM (to:=uL 0) (ao3 PySem.F.plainAttrs_list PySem.F.slot_list_append PySem.F.type_list_append zg (pv _) (iY ?_ n5)) rfl (hl:=?_))|((with_reducible change gS (fm (fV _) (cR _) _));refine' uA (gm ⟨rfl,rfl⟩) rfl ?_ ?_ (by first|exact dj hS.nd rfl (fF rfl)|exact dj hS.nd rfl (gJ rfl)) (vf (k:=.par)) ?_)|((with_reducible change gS (fm (fV _) (eZ _ _) _));refine' uA (gm ⟨rfl,rfl⟩) rfl ?_ ?_ (wF rfl (i7 (by first|exact dj hS.nd rfl (fF rfl)|exact dj hS.nd rfl (gJ rfl)) (i7 (by first|exact dj hS.nd rfl (fF rfl)|exact dj hS.nd rfl (gJ rfl)) qX))) (rQ (k:=.par) (k':=.par)) ?_)|((with_reducible change gS (fm (qB _) _ _));refine' Bp (κ:=.jQ) (gm ⟨rfl,rfl⟩) rfl T.UM ?_ (by first|exact dj hS.nd rfl (fF rfl)|exact dj hS.nd rfl (gJ rfl)) (vf (k:=.par)) ?_)|((with_reducible change gS (fm _ (cR _) _));refine' IL (gm ⟨rfl,rfl⟩) rfl ?_ (by first|exact dj hS.nd rfl (fF rfl)|exact dj hS.nd rfl (gJ rfl)) (vf (k:=.par)) ?_)|((with_reducible change gS (fm _ (eZ _ _) _));refine' IL (gm ⟨rfl,rfl⟩) rfl ?_ (wF rfl (i7 (by first|exact dj hS.nd rfl (fF rfl)|exact dj hS.nd rfl (gJ rfl)) (i7 (by first|exact dj hS.nd rfl (fF rfl)|exact dj hS.nd rfl (gJ rfl)) qX))) (rQ (k:=.par) (k':=.par)) ?_)|((with_reducible change gS (gP _));refine' Kn az0 hr.hd (by first|exact T.Hx|exact T.L0) (by first|exact T.Hy|exact T.L1) (by first|exact zJ (n:=500) (by decide +kernel)|(refine' Px (n:=500) ?_ (by decide);repeat first|exact all_nil|refine' all_cons ?_ ?_|exact zJ (by decide +kernel)|exact xw T.zR (by decide) (by decide +kernel)|exact xw T.Qz (by decide) (by decide +kernel)|exact xw T.s8 (by decide) (by decide +kernel)))))|((with_reducible change PT _ _ _);first|((with_reducible change gT (aV (k7 false) _ _));refine' oV (OI hr.units) GP ?_ ?_ (wI _))|((with_reducible change gT (aV gLt _ _));refine' oV aj0 Yy ?_ ?_ (wI _))|((with_reducible change gT (aV RW _ _));refine' oV aj1 Yz ?_ ?_ (wI _))|((with_reducible change gT (aV (jG false) _ _));refine' oV (OJ hr.units) Bm ?_ ?_ (by with_unfolding_all rfl))|((with_reducible change gT (aV (jG true) _ _));refine' oV (zC hr.units) Bm ?_ ?_ (by with_unfolding_all rfl))|((with_reducible change gT (aV (k7 true) _ _));refine' oV (Yt hr.units) GP ?_ ?_ (wI _))|((with_reducible change gT (aV (pK true) _ _));refine' oV (Ku (oX hr.units)) IM ?_ ?_ (by with_unfolding_all rfl))|((with_reducible change gT (aV (pK false) _ _));refine' oV (Zb (oX hr.units)) IM ?_ ?_ (by with_unfolding_all rfl))|with_reducible refine' YD ?_|((with_reducible change PT _ (.BoolOp _ _ _) _);refine' PW.pt ?_)|((with_reducible change PT _ (.Call _ _ _ _) _);refine' WG ?_)|((with_reducible change PT _ (.Name _ _) _);refine' WG ?_))|((with_reducible change Kd);rotate_left)|((with_reducible change PW _ _ _);first|with_reducible refine' TN ?_|with_reducible refine' YE ?_|with_reducible refine' YF ?_ ?_|with_reducible refine' as9 ?_ ?_)|((with_reducible change PI _ _ _ _);first|with_reducible refine' Br ?_ ?_|((with_reducible change PI _ _ _ (EJ _ _ _ _ _ _ (xH _)));refine' Q2 ?_ ?_)|((with_reducible change PI _ _ _ (EJ _ _ _ _ _ _ (Q8 _)));refine' Uy ?_ ?_)|((with_reducible change PI _ _ _ (EJ _ _ _ _ _ _ (iSq _)));refine' Zq ?_ ?_)|((with_reducible change PI _ _ _ (EJ _ _ _ _ _ _ (Dv _)));refine' Uj T.DV ?_ ?_))|with_reducible exact TZ|with_reducible refine' II ?_|((with_reducible change _=true->_=true);exact fun _=>rfl))
section
variable {P:cS}{w:bI}{K:Frag}{mg:Str->Option au}{base:aQ}{t:jb}
def yW(t:jb):Zk "pegs" "in_order.<locals>.<lambda>" (UI dM) (UJ dM) (Qh dM):=⟨rfl,rfl,rfl,rfl,rfl,fun _ _ _ _ _=>.of_eq rfl,by decide⟩
def BP(T:Txt K mg t):FD P w K mg base (qF t) 1 "is_rising" ["cells"] 1 (f7 t) (some true):=qP ["cells"] [.par] T.DN fun hS f cW hc A outer s H E hr=>by
 walk_at"k";refine GS (κ:=.old) hr.hd hr.units T.xS T.ay8 ?_;walk_at"k"
def HA(T:Txt K mg t):FD P w K mg base (qF t) 1 "is_cell" ["cell"] 1 (mG t) (some true):=qP ["cell"] [.par] T.KY fun hS f cW hc A outer s H E hr=>by
 walk_at"k";refine Dj (kj:=.new) (C8:=.old) (EI:=.new) z7 z7 tY tY ?_ ?_ ?_;walk_at"k";refine Dj (kj:=.new) (C8:=.old) (EI:=.new) z7 z7 tY tY ?_ ?_ ?_;walk_at"k"
def xX(T:Txt K mg t):FD P w K mg base (qF t) 2 "check_cells" ["cells"] 1 (cB t) (some true):=qP ["cells","cell"] [.par,.par] T.yN fun hS f cW hc A outer s H E hr=>by
 walk_at"k";refine Pb (kj:=.new) (C8:=.new) (EI:=.new) z7 z7 tY tY ?_ ?_ ?_;walk_at"k"
def QD(T:Txt K mg t){fi:av}{fd:gr}(F:Lp K "__init__" "Board.__init__" IY fi fd):jO P w K mg base (nM P w) 3 fi fd ["self","cells"] (Bu K t.lE (WO t.tab (uF dM) "in_order.<locals>.<lambda>") (cB t)):=
 Ue (κ:=.new) F scS T.clB T.naB fun cW A outer s H E hr=>by
 refine Cv ?_ ?_;refine uU ?_;refine Du (κ:=.jQ) (xX T) hr (by decide) ?_ (Di IG);refine ve (κ:=.jQ) (kj:=.old) ?_ ?_;exact Bv 1 (pv 1);exact GR (κ:=.jQ);refine I0 ?_;refine XJ (pv 0) ?_ rfl;refine xu (kj:=.jQ) Dh ?_;refine p9 rf rfl T.Qy IZ ?_;refine ve (κ:=.jQ) (kj:=.old) ?_ ?_;exact Bv 1 (pv 1);exact GR (κ:=.jQ)
def yS(T:Txt K mg t):FD P w K mg base (qF t) 2 "check_pegs" ["board","pegs"] 2 (cI t) (some true):=qP ["board","pegs","cell"] [.par,.par,.par] T.BJ fun hS f cW hc A outer s H E hr=>by
 walk_at"k"
def BQ(T:Txt K mg t):FD P w K mg base (qF t) 1 "two_apart" ["cell"] 1 (iH t) (some true):=qP ["cell","row","column"] [.par,.par,.par] T.DO fun hS f cW hc A outer s H E hr=>by
 walk_at"k"
def Hz(T:Txt K mg t):FD P w K mg base (qF t) 1 "between" ["cell","other"] 2 (gQ t) (some true):=qP ["cell","other"] [.par,.par] T.KZ fun hS f cW hc A outer s H E hr=>by
 walk_at"k"
def QC(T:Txt K mg t):FD P w K mg base (qF t) 2 "leaps" ["board"] 1 (pF t) (some true):=qP ["board","found","first","second"] [.par,.own true,.par,.par] T.UL fun hS f cW hc A outer s H E hr=>by
 walk_at"k"
def L3(T:Txt K mg t):FD P w K mg base (qF t) 3 "turned" ["board","pegs"] 2 (j8 t) (some true):=qP ["board","pegs"] [.par,.par] T.Qt fun hS f cW hc A outer s H E hr=>by
 walk_at"k";refine mD (n:=true) (z:=true) (gZ:=["cell"]) (caps:=[(1,"pegs")]) ?_ (.mk (rS:=.new) (hT:=fun _ _ _ _=>ko ?_) (hE:=fun _ _ _ _=>?_));walk_at"k"
def xT(T:Txt K mg t):FD P w K mg base (qF t) 2 "can_be_done" ["pegs","leap"] 2 (fu t) (some true):=qP ["pegs","leap"] [.par,.par] T.yO fun hS f cW hc A outer s H E hr=>by
 walk_at"k"
def xU(T:Txt K mg t):FD P w K mg base (qF t) 2 "pegs_behind" ["pegs","leap"] 2 (fz t) (some true):=qP ["pegs","leap","taken"] [.par,.par,.par] T.yP fun hS f cW hc A outer s H E hr=>by
 walk_at"k";refine mD (n:=true) (z:=true) (gZ:=["cell"]) (caps:=[(2,"taken")]) ?_ (.mk (rS:=.new) (hT:=fun _ _ _ _=>ko ?_) (hE:=fun _ _ _ _=>?_));walk_at"k"
def L6(T:Txt K mg t):FD P w K mg base (qF t) 3 "walked" ["board","pegs","row"] 3 (sd t) (some true):=qP ["board","pegs","row","standing","all_leaps","at","leap"] [.par,.par,.par,.loc,.par,.par,.par] T.Qu fun hS f cW hc A outer s H E hr=>by
 walk_at"k"
def L4(T:Txt K mg t):FD P w K mg base (qF t) 1 "odd_on" ["colours","two"] 2 (kN t) (some true):=qP ["colours","two"] [.par,.par] T.Qv fun hS f cW hc A outer s H E hr=>by
 walk_at"k";refine mD (n:=true) (z:=true) (gZ:=["colour"]) (caps:=[(1,"two")]) ?_ (.mk (rS:=.new) (hT:=fun _ _ _ _=>ko ?_) (hE:=fun _ _ _ _=>?_));walk_at"k"
def DZ(T:Txt K mg t):FD P w K mg base (qF t) 3 "class_of" ["board","pegs"] 2 (fY t) (some true):=qP ["board","pegs","by_sum","by_difference"] [.par,.par,.par,.par] T.Hu fun hS f cW hc A outer s H E hr=>by
 walk_at"k";refine xF (i:=2) (k:=.par) (n:=true) (z:=true) (gZ:=["cell"]) (caps:=[]) ?_ ?_ (.mk (rS:=.new) (hE:=fun _ _ _ _=>?_));walk_at"k";refine xF (i:=3) (k:=.par) (n:=true) (z:=true) (gZ:=["cell"]) (caps:=[]) ?_ ?_ (.mk (rS:=.new) (hE:=fun _ _ _ _=>?_));walk_at"k"
def yT(T:Txt K mg t):FD P w K mg base (qF t) 3 "steps_from" ["all_leaps","standing"] 2 (dU t) (some true):=qP ["all_leaps","standing"] [.par,.par] T.BK fun hS f cW hc A outer s H E hr=>by
 walk_at"k";refine mD (n:=true) (z:=true) (gZ:=["leap"]) (caps:=[(1,"standing")]) ?_ (.mk (rS:=.new) (hT:=fun _ _ _ _=>ko ?_) (hE:=fun _ _ _ _=>?_));walk_at"k"
def BR(T:Txt K mg t):FD P w K mg base (qF t) 4 "next_rows" ["all_leaps","layer"] 2 (jA t) (some true):=qP ["all_leaps","layer","found","standing","row","leap","behind"] [.par,.par,.own true,.par,.par,.par,.par] T.DQ fun hS f cW hc A outer s H E hr=>by
 walk_at"k";exact Bx;walk_at"k";refine Zc (i:=2) (κ:=.new) (κ':=.old) (oX hr.units) (pv 2) ?_ ?_ rfl;walk_at"k"
def xV(T:Txt K mg t):FD P w K mg base (qF t) 4 "next_counts" ["all_leaps","layer"] 2 (iu t) (some true):=qP ["all_leaps","layer","found","standing","count","leap","behind"] [.par,.par,.own true,.par,.par,.par,.par] T.yQ fun hS f cW hc A outer s H E hr=>by
 walk_at"k";exact Bx;walk_at"k";refine Ux (i:=2) (κ:=.new) (κ':=.old) (oX hr.units) (pv 2) ?_ ?_ rfl;walk_at"k";refine IS (κo:=.tV) (kj:=.old) (C8:=.new) (oX hr.units) ?_ ?_ ?_;walk_at"k"
def yU(T:Txt K mg t):FD P w K mg base (qF t) 5 "first_rows" ["board","pegs"] 2 (j9 t) (some true):=qP ["board","pegs","all_leaps","found","layer"] [.par,.par,.par,.own true,.loc] T.BL fun hS f cW hc A outer s H E hr=>by
 walk_at"k";exact Bx;walk_at"k";refine IQ (κk:=.new) (PC hr.units) ?_ ?_;walk_at"k";refine PF 40 (gm ⟨rfl,rfl⟩) ?_ ?_;walk_at"k";refine xu (kj:=.jQ) PN ?_;refine oF Kv rfl T.Qx QA ?_;walk_at"k";refine Ze (i:=3) (κ:=.loc) ?_ rfl;refine PY Nh PySem.F.type_dict_update (Ut (oX hr.units)) (pv 3) ?_;walk_at"k"
def E2(T:Txt K mg t):FD P w K mg base (qF t) 1 "in_order" ["standings"] 1 (iF t) (some true):=qP ["standings"] [.par] T.Hv fun hS f cW hc A outer s H E hr=>by
 walk_at"k";refine Qf (κ:=.new) ?_ (fun H h=>h) (UG T.aR1 T.aR2 T.aR3 hc) (yW t) rfl T.xS T.Qx hr.units hr.depth;refine mD (n:=true) (z:=true) (gZ:=["standing"]) (caps:=[]) ?_ (.mk (rS:=.new) (hE:=fun _ _ _ _=>?_));walk_at"k"
def L5(T:Txt K mg t):FD P w K mg base (qF t) 6 "answer" ["board","pegs","others"] 3 (oZ t) (some true):=qP ["board","pegs","others","rows"] [.par,.par,.par,.loc] T.Qw fun hS f cW hc A outer s H E hr=>by
 walk_at"k";refine IP ?_ ?_;walk_at"k";refine Us (C8:=.new) (oX hr.units) ?_ ?_ (fun _ _=>rfl);walk_at"k";refine xr (κ:=.loc) ?_;walk_at"k";refine IP ?_ (as6 (κ:=.new) (κ':=.loc) rfl ?_);walk_at"k"
def BO(T:Txt K mg t):FD P w K mg base (qF t) 5 "row_count" ["board","pegs","others"] 3 (dX t) (some true):=qP ["board","pegs","others","all_leaps","layer","leaps_done"] [.par,.par,.par,.par,.loc,.par] T.DR fun hS f cW hc A outer s H E hr=>by
 walk_at"k";refine IQ (κk:=.new) (PC hr.units) ?_ ?_;walk_at"k";refine IS (κo:=.loc) (kj:=.new) (C8:=.new) (oX hr.units) ?_ ?_ ?_;walk_at"k"
def uR(T:Txt K mg t):FD P w K mg base (qF t) 1 "_law_cell_at" ["script","k"] 2 (bq t) (some true):=qP ["script","k"] [.par,.par] T.xP fun hS f cW hc A outer s H E hr=>by
 walk_at"k"
def DW(T:Txt K mg t):FD P w K mg base (qF t) 1 "_law_mix" ["cell","k","many"] 3 (bh t) (some true):=qP ["cell","k","many","some","number"] [.par,.par,.par,.par,.par] T.Hw fun hS f cW hc A outer s H E hr=>by
 walk_at"k"
def u7(T:Txt K mg t):FD P w K mg base (qF t) 2 "_law_cells_by" ["script","most"] 2 (dO t) (some true):=qP ["script","most","cell","height","width","down","across","some","k"] [.par,.par,.par,.par,.par,.par,.par,.own true,.par] T.uQ fun hS f cW hc A outer s H E hr=>by
 walk_at"k";refine GU (i:=3) (j:=4) (k:=.par) (k':=.par) rfl ?_ ?_ (by decide);walk_at"k";refine IJ (κ:=.new) ?_ rfl (wF rfl (i7 (dj (i:=3) (by exact hS.nd) rfl (fF rfl)) (i7 (dj (i:=4) (by exact hS.nd) rfl (fF rfl)) qX))) (rQ (i:=3) (j:=4) (k:=.par) (k':=.par));walk_at"k";refine GU (i:=5) (j:=6) (k:=.par) (k':=.par) rfl ?_ ?_ (by decide);walk_at"k"
def uT(T:Txt K mg t):FD P w K mg base (qF t) 2 "_law_pegs_by" ["cell","cells"] 2 (fM t) (some true):=qP ["cell","cells","way","gone"] [.par,.par,.par,.par] T.xQ fun hS f cW hc A outer s H E hr=>by
 walk_at"k";refine mD (n:=true) (z:=true) (gZ:=["k","one"]) (caps:=[(0,"cell"),(2,"way")]) ?_ (.mk (rS:=.new) (hT:=fun _ _ _ _=>ko ?_) (hE:=fun _ _ _ _=>?_));walk_at"k"
def uS(T:Txt K mg t):FD P w K mg base (qF t) 1 "_law_between" ["leap"] 1 (bN t) (some true):=qP ["leap"] [.par] T.xR fun hS f cW hc A outer s H E hr=>by
 walk_at"k"
def yV(T:Txt K mg t):FD P w K mg base (qF t) 2 "_law_leaps" ["cells"] 1 (ja t) (some true):=qP ["cells","found","one","two","apart"] [.par,.own true,.par,.par,.par] T.BN fun hS f cW hc A outer s H E hr=>by
 walk_at"k"
def BS(T:Txt K mg t):FD P w K mg base (qF t) 3 "_law_open" ["cells","pegs"] 2 (iI t) (some true):=qP ["cells","pegs","found","one","two"] [.par,.par,.own true,.par,.par] T.DT fun hS f cW hc A outer s H E hr=>by
 walk_at"k"
def xW(T:Txt K mg t):FD P w K mg base (qF t) 2 "_law_behind" ["pegs","leap"] 2 (iw t) (some true):=qP ["pegs","leap","left"] [.par,.par,.par] T.yR fun hS f cW hc A outer s H E hr=>by
 walk_at"k";refine xF (i:=2) (k:=.par) (n:=true) (z:=true) (gZ:=["one"]) (caps:=[(1,"leap")]) ?_ ?_ (.mk (rS:=.new) (hT:=fun _ _ _ _=>ko ?_) (hE:=fun _ _ _ _=>?_));walk_at"k"
def BU(T:Txt K mg t):FD P w K mg base (qF t) 4 "_law_gone" ["cells","pegs","cell","most"] 4 (jB t) (some true):=qP ["cells","pegs","cell","most","row","here","k","some","leap"] [.par,.par,.par,.par,.own true,.loc,.par,.par,.par] T.DU fun hS f cW hc A outer s H E hr=>by
 walk_at"k"
def UP(T:Txt K mg t){fiB:av}{fdB:gr}(mkB:Mk K t.lE fiB)(bB:Binds K fdB ["self","cells"] [])(UQ:jO P w K mg base (nM P w) 3 fiB fdB ["self","cells"] (Bu K t.lE (WO t.tab (uF dM) "in_order.<locals>.<lambda>") (cB t))):FD P w K mg base (qF t) 7 "law" ["script"] 1 (zS t) (some true):=qP ["script","cells","board","pegs","row","behind","one","two","others","found","again"] [.par,.par,.par,.par,.par,.par,.par,.par,.par,.loc,.loc] T.WS fun hS f cW hc A outer s H E hr=>by
 walk_at"k";refine Pw (κ:=.jQ) mkB UQ (hr.mono (by decide)) T.UO bB ?_;walk_at"k";refine IJ (κ:=.new) ?_ rfl (wF rfl (i7 (dj (i:=4) (by exact hS.nd) rfl (fF rfl)) (i7 (dj (i:=5) (by exact hS.nd) rfl (fF rfl)) qX))) (rQ (i:=4) (j:=5) (k:=.par) (k':=.par));walk_at"k";refine GU (i:=6) (j:=7) (k:=.par) (k':=.par) rfl ?_ ?_ (by decide);walk_at"k";refine Zp (kj:=.old) (κs:=.new) ?_ ?_;walk_at"k"
def Zt(T:Txt K mg t):FD P w K mg base (qF t) 7 "law" ["script"] 1 (zS t) (some true):=by
 obtain⟨fiB,fdB,FuB,mkB,bB⟩:=T.iB;exact UP T mkB bB (QD T FuB)
def E3(K:Frag)(gl:GL):Sp:=fun vs H Q _=>∃(a:av) (ns:List Int),vs=[.ref a]/\(k9 K H a (ns.map V.int)/\gl.p H)/\ns.length<=63/\∀H',Q (.bl true) H'
def Zu(T:Txt K mg t)(QE:∀ns:List Int,ns.length<=63->zS t [.lst (ns.map D.int)] = .ok (.bl true)):∃a fd,jO P w K mg base (nM P w) 40 a fd ["script"] (E3 K (WO t.tab (uF dM) "in_order.<locals>.<lambda>"))/\mg "law"=some (.ref a)/\∃o,K.lookup a=some o/\o.data = .func fd:=by
 obtain⟨a,fd,h1,h2,_,_,h4⟩:=(Zt (P:=P) (w:=w) (base:=base) T).ex;refine⟨a,fd,(h1.mono (by decide)).imp fun vs H Q E l6=>?_,h2,h4⟩;obtain⟨p,ns,e,hs,hl,q⟩:=l6;subst e;refine⟨[.lst (ns.map D.int)],rfl,⟨.cons (by rw[Rep];exact⟨p,_,rfl,hs.1,aH.ints ns⟩) .nil,hs.2⟩,?_⟩;rw[QE ns hl];intro v H' _ r;have r':=r.1;rw[Rep]at r';subst r';exact q H'
end
def az1{l:OpenLaw}{w:bI}{K:Frag}{h:aQ}{mg:Str->Option au}{fa T0:av}(hfa:mg "law"=some (.ref fa))(T:∃t:jb,Txt K mg t/\t.tab=T0)(QE:∀(t:jb) (ns:List Int),ns.length<=63->zS t [.lst (ns.map D.int)] = .ok (.bl true)) :
  ∃fd:gr,(∀(s:ay) (v:au),BindsTo s fd ⟨[v],[]⟩ [("script",v)])/\∀base:aQ,K.In base->base.Ns cZ mg->jO l.prog w K mg base (nM l.prog w) 40 fa fd ["script"] (E3 K (WO T0 (uF dM) "in_order.<locals>.<lambda>")):=by
 obtain⟨t,T,rfl⟩:=T;obtain⟨a,fd,Fu,hm,hb⟩:=T.WS;obtain rfl:a=fa:=by rw[hm]at hfa;cases hfa;rfl
 refine⟨fd,fun s v=>?_,fun base hk hn=>?_⟩;obtain⟨oc,od,kV,doc,pm,an,cW,ct,EB,rfl,lk,G6⟩:=Fu.ex;exact .of_eq rfl;obtain⟨a',fd',h1,h2,h3⟩:=Zu (P:=l.prog) (w:=w) (base:=base) T (QE t);rw[hm]at h2;cases h2;obtain⟨o,l1,d1⟩:=h3;obtain⟨o',l2,d2⟩:=xE Fu;rw[l1]at l2;cases l2;rw[d1]at d2;cases d2;exact h1
def walk{l:OpenLaw}{q:cS}{loose:List Str}{XP:(Str->Option au)->aQ->Prop}{d:DefRec}{K K1:dP->Frag}{T0:av}(hn:l.most=some 63)(XR:d.params.defaults=[])(hT:∀P,(K P).lookup T0=some (tabObj #[]))(eK:∀P,Qi T0 (K P)=K1 P)(hc:∀P,∃c,u6 (K1 P) c T0=true)
  (F:∀(w:bI) (mg:Str->Option au) (fa:av) (h:aQ),(K1 w.params).In h->h.Ns cZ mg->mg d.name=some (.ref fa)->
   ∃fd:gr,(∀(s:ay) (u:au),BindsTo s fd ⟨[u],[]⟩ [("script",u)])/\∀base:aQ,(K1 w.params).In base->base.Ns cZ mg->jO l.prog w (K1 w.params) mg base (nM l.prog w) 40 fa fd ["script"] (E3 (K1 w.params) (WO T0 (uF dM) "in_order.<locals>.<lambda>"))) :
  WalkO q loose XP (fun w h=>(K w.params).In h) l.row.toRowW d [] (fun f vs=>PySem.call f vs):=
 L2.Qg (n:=63) (k:=40) (x:="script") (K:=K1) (CX:=fun w=>nM l.prog w) (sp:=fun w=>E3 (K1 w.params) (WO T0 (uF dM) "in_order.<locals>.<lambda>")) hn (by decide) XR ⟨rfl,by decide,by decide⟩ (fun w h X=>⟨eK _▸Zn X,X _ _ (hT w.params)⟩) (fun w=>⟨eK _▸rZ _,hc w.params⟩) F (fun _ _ a ns hl hT hS=>⟨a,ns,rfl,⟨hS,hT⟩,hl,fun _=>rfl⟩) fun w H s e s' pR=>pR.elim fun _ uV=>uV.elim fun _ ED=>ED.elim fun _ Gp=>Gp.elim fun _ EE=>EE.elim fun _ Cu=>Cu.elim fun _ Ez=>Ez.elim fun _ EA=>EA.elim fun _ wC=>wC.elim fun _ AU=>AU.elim fun _ AV=>AV.elim fun _ AW=>AW.elim fun _ Gq=>Gq.elim fun z _=>z
def az2{l:OpenLaw}{q:cS}{loose:List Str}{XP:(Str->Option au)->aQ->Prop}{d:DefRec}{K K1:dP->Frag}{T0:av}{as:List av}(hn:l.most=some 63)(XR:d.params.defaults=[])(e:∀P,as=(K P).map (·.1))(hT:∀P,(K P).lookup T0=some (tabObj #[]))(eK:∀P,Qi T0 (K P)=K1 P)(hc:∀P,∃c,u6 (K1 P) c T0=true)
  (F:∀(w:bI) (mg:Str->Option au) (fa:av) (h:aQ),(K1 w.params).In h->h.Ns cZ mg->mg d.name=some (.ref fa)->
   ∃fd:gr,(∀(s:ay) (u:au),BindsTo s fd ⟨[u],[]⟩ [("script",u)])/\∀base:aQ,(K1 w.params).In base->base.Ns cZ mg->jO l.prog w (K1 w.params) mg base (nM l.prog w) 40 fa fd ["script"] (E3 (K1 w.params) (WO T0 (uF dM) "in_order.<locals>.<lambda>"))) :
  WalkX q loose XP (fun s:ay=>as.map s.heap.get?) (fun w=>(K w.params).map fun p=>some p.2) l.row.toRowW d [] (fun f vs=>PySem.call f vs):=
 fun w iU kE mg mb G y a o pm cd doc dV kV h1 h2 h3 h4 h5 h6 args vals as' L h7 h8 h9 h10 h11=>walk hn XR hT eK hc F w iU kE mg mb G (InK.keeps w iU.heap kE.heap (InK.of e w iU y) L.keeps) a o pm cd doc dV kV h1 h2 h3 h4 h5 h6 args vals as' h7 h8 h9 h10 h11
end Pk
namespace Dm
open L2 HT
@[simp] theorem aC8 (a:α) (f:α->R β):R.bind (.ok a) f=f a:=rfl
@[simp] theorem az4 (f:α->R β):R.bind (.bad:R α) f = .bad:=rfl
@[simp] theorem aC9 (c:PySem.Addr) (p:Option Int) (f:α->R β):R.bind (.ex c p:R α) f = .ex c p:=rfl
@[simp] theorem aU0 (st:gM):bG F G st=match F st with | .nx st'=>G st'|o=>o:=rfl
@[simp] theorem aR5 (st:gM):cy st = .nx st:=rfl
@[simp] theorem aU1 (st:gM):cF i f st=match f st with | .ok d=>.nx (st.set i (some d)) | .ex c p=>.ex c p st | .bad=>.bad:=rfl
@[simp] theorem aR6 (st:gM):nH f st=match f st with | .ok _=>.nx st | .ex c p=>.ex c p st | .bad=>.bad:=rfl
@[simp] theorem aU2 (st:gM):eL f st=match f st with | .ok d=>.rt d | .ex c p=>.ex c p st | .bad=>.bad:=rfl
@[simp] theorem aU3 (st:gM):Dm.dJ fc F G st=match fc st with | .ok (.bl true)=>F st | .ok (.bl false)=>G st | .ok _=>.bad | .ex c p=>.ex c p st | .bad=>.bad:=rfl
@[simp] theorem az5 (st:gM):gP c st = .ex c none st:=rfl
@[simp] theorem aU4 (st:gM):ah i st=match st[i]? with|some (some d)=>.ok d|_=>.bad:=rfl
@[simp] theorem dC_ (st:gM):dC d st = .ok d:=rfl
@[simp] theorem aR7 (st:gM):b8 f st=(f st).bind fun d=>if gw d=true then .ok d else .bad:=rfl
@[simp] theorem aW3 {g:D->D->R D} (st:gM):aV g fa fb st=(fa st).bind fun a=>(fb st).bind fun b=>g a b:=rfl
@[simp] theorem aW4 {g:D->R D} (st:gM):rO g fa st=(fa st).bind g:=rfl
@[simp] theorem WT (st:gM):az st = .ok []:=rfl
@[simp] theorem QF (st:gM):af f fs st=(f st).bind fun d=>(fs st).bind fun ds=>.ok (d::ds):=rfl
@[simp] theorem aR8 (i:Int) (ds:List D):pH (.tup (.int i::ds))=true:=rfl
@[simp] theorem aR9 (es ds:List D):pH (.tup (.tup es::ds))=true:=rfl
@[simp] theorem aS0 (es ds:List D):pH (.tup (.lst es::ds))=true:=rfl
@[simp] theorem aS1 (b:Bool) (ds:List D):pH (.tup (.bl b::ds))=true:=rfl
@[simp] theorem aU5 (st:gM):bQ n fs st=(fs st).bind fun ds=>if ds.length<=n/\pH (.tup ds)=true then .ok (.tup ds)else .bad:=rfl
@[simp] theorem aU6 (st:gM):cX n fs st=(fs st).bind fun ds=>if ds.length<=n then .ok (.lst ds)else .bad:=rfl
@[simp] theorem aW5 {g:List D->R D} (st:gM):bD g fs st=(fs st).bind g:=rfl
@[simp] theorem aU7 (st:gM):jR fa fb st=(fa st).bind fun a=>match a with | .bl true=>fb st | .bl false=>.ok (.bl false)|_=>.bad:=rfl
@[simp] theorem aW6 (st:gM):Tt fa fb st=(fa st).bind fun a=>match a with | .bl true=>.ok (.bl true) | .bl false=>fb st|_=>.bad:=rfl
@[simp] theorem aU8 (st:gM):tX fa st=(fa st).bind fun a=>match a with | .bl b=>.ok (.bl (!b))|_=>.bad:=rfl
@[simp] theorem aD0 {g g':D->D->R D} (st:gM):nt g g' fa fb fc st=(fa st).bind fun a=>(fb st).bind fun b=>(g a b).bind fun z=>match z with
 | .bl true=>(fc st).bind fun c=>g' b c
 | .bl false=>.ok (.bl false)
 | _=>.bad:=rfl
@[simp] theorem aU9 (i j:Int):gO (.int i) (.int j) = .ok (.int (i+j)):=rfl
@[simp] theorem aV0 (i j:Int):jW (.int i) (.int j) = .ok (.int (i-j)):=rfl
@[simp] theorem aS2 (i j:Int):gLt (.int i) (.int j) = .ok (.bl (decide (i<j))):=rfl
@[simp] theorem aW7 (i j:Int):WE (.int i) (.int j) = .ok (.bl (decide (i<=j))):=rfl
@[simp] theorem aS3 (i j:Int):RW (.int i) (.int j) = .ok (.bl (decide (j<i))):=rfl
@[simp] theorem aV1 (i:Int):YO (.int i) = .ok (.int (-i)):=rfl
@[simp] theorem BV (ds:List D):jz [.lst ds] = .ok (.int ds.length):=rfl
@[simp] theorem aS4 (ds:List D):jz [.tup ds] = .ok (.int ds.length):=rfl
@[simp] theorem aD1 (i:Int):gw (.int i)=true:=by rw[gw] <;> simp
@[simp] theorem aS5 (i:Bool):gw (.bl i)=true:=by rw[gw] <;> simp
@[simp] theorem zT {gi:DI} {bind:DB} (st:gM):fm gi bind F st=match gi st with | .ok ds=>fS bind F ds st | .ex c p=>.ex c p st | .bad=>.bad:=rfl
@[simp] theorem aV2 (st:gM):fV f st=match f st with | .ok (.lst ds)=>.ok ds | .ok _=>.bad | .ex c p=>.ex c p | .bad=>.bad:=rfl
def nI{j:Int}(h:0<j):jc (.int i) (.int j) = .ok (.int (i % j)):=by
 show(if decide (0<j)=true then _ else _)=_;rw[aW9 (aX1 h)]
def E4{j:Int}(h:0<j)(h2:j<1073741824):oS (.int i) (.int j) = .ok (.int (i / j)):=by
 show(if(decide (0<j)&&decide (j<1073741824))=true then _ else _)=_;rw[aW9 (by rw[aX1 h,aX1 h2];rfl)]
def xY{i:Int}(h : -(2 ^ 64)<i/\i<2 ^ 64):rP (.int i) (.int j) = .ok (.int (i*j)):=by
 show(if(sm i || sm j)=true then _ else _)=_;rw[aW9];unfold sm;rw[aX1 h.1,aX1 h.2];rfl
abbrev Cell:=Int×Int
def cD(c:Cell):D:=.tup [.int c.1,.int c.2]
@[simp] theorem aS6 (c:Cell) (ds:List D):pH (.tup (cD c::ds))=true:=rfl
abbrev aJ(l:List Cell):D:=.lst (l.map cD)
def row(c:Cell):List Int:=[c.1,c.2]
def UR(h:row a=row b):a=b:=by
 obtain⟨a1,a2⟩:=a;obtain⟨b1,b2⟩:=b;simp[row]at h;simp[h]
@[simp] theorem Zv (c:Cell):gw (cD c)=true:=by unfold cD;simp[gw,dB]
@[simp] theorem US (l:List Cell):dB (l.map cD)=true:=eY fun d hd=>by obtain⟨c,_,rfl⟩:=aL.mp hd;exact Zv c
@[simp] theorem UT (c:Cell):flat (cD c)=true:=by unfold cD;simp[flat,cu]
@[simp] theorem E5 (l:List Cell):cu (l.map cD)=true:=jx fun d hd=>by obtain⟨c,_,rfl⟩:=aL.mp hd;exact UT c
@[simp] theorem QG (c:Cell):dep (cD c)=1:=by unfold cD;simp[dep,jw]
def vj(l:List Cell):jw (l.map cD)<=1:=rA fun d hd=>by obtain⟨c,_,rfl⟩:=aL.mp hd;rw[QG];exact aZ _
@[simp] theorem HB (a b:Cell):iJ (cD a) (cD b)=decide (a=b):=by
 obtain⟨a1,a2⟩:=a;obtain⟨b1,b2⟩:=b;unfold cD;simp only[iJ,fD,vX];by_cases h:a1=b1 <;> by_cases h':a2=b2 <;> simp[h,h']
@[simp] theorem UU:∀(a b:List Cell),fD (a.map cD) (b.map cD)=decide (a=b)
 | [],[]=>by simp[fD]
 | [],_::_=>by simp[fD]
 | _::_,[]=>by simp[fD]
 | x::a,y::b=>by
  rw[aW,aW,fD,HB,UU a b];by_cases h:x=y <;> by_cases h':a=b <;> simp[h,h']
def BW(neg:Bool)(a b:List Cell):k7 neg (aJ a) (aJ b) = .ok (.bl (if neg then !decide (a=b)else decide (a=b))):=by
 unfold k7;have h:=vj a;rw[aW9];simp[iJ];simp[flat,dep];lia
def nv(neg:Bool)(i j:Int):k7 neg (.int i) (.int j) = .ok (.bl (if neg then !decide (i=j)else decide (i=j))):=by
 unfold k7;rw[aW9 (by simp[flat,dep])];have e:iJ (.int i) (.int j)=decide (i=j):=by rw[iJ];by_cases h:i=j;simp[h];rw[aX2 h];exact aX6.mpr h
 rw[e]
def fB(neg:Bool)(c:Cell)(l:List Cell):jG neg (cD c) (aJ l) = .ok (.bl (if neg then !decide (c∈l)else decide (c∈l))):=by
 unfold jG;have h:=vj l;dsimp only;rw[aW9 (by simp;lia)];have e:(l.map cD).any (fun e=>iJ e (cD c))=decide (c∈l):=by
  induction l with
  | nil=>rfl
  | cons x l ih=>rw[aW,nY,HB,ih (vj l)];by_cases hx:x=c;simp[hx];have:¬ c=x:=fun z=>hx z.symm;simp[hx,this]
 rw[e]
def UW(c:Cell):K6 (cD c)=some (row c):=rfl
theorem E6:∀l:List Cell,zH (l.map cD)=some (l.map row)
 | []=>rfl
 | c::l=>by
  have ih:=E6 l;unfold zH at ih ⊢;rw[aW,Fx,UW,ih];rfl
theorem UX:∀l:List Cell,mC (l.map row)=true
 | []=>rfl
 | c::l=>by
  unfold mC;rw[aW];simp[row]
def uG(a b:Cell):Prop:=a.1<b.1\/(a.1=b.1/\a.2<b.2)
instance (a b:Cell):Decidable (uG a b):=inferInstanceAs (Decidable (_\/_))
def b7(l:List Cell):Prop:=l.Pairwise uG
def az6(a b:Cell):lexLt (row a) (row b)=decide (uG a b):=by
 obtain⟨a1,a2⟩:=a;obtain⟨b1,b2⟩:=b;unfold row uG;rw[dg];by_cases h2:a1=b1;subst h2;rw[aW9 rfl,dg];by_cases h3:a2=b2;subst h3;rw[aW9 rfl];simp[rG];rw[aX0 h3];simp;rw[aX0 h2];simp[h2]
def QH(c:Cell):fl (cD c)=row c:=by unfold cD row;simp[fl,jF]
def QI(a b:Cell):qx (fl (cD a)) (fl (cD b)) = !decide (uG b a):=by rw[QH,QH];unfold qx;rw[az6]
def J0(a b:Cell):uG a b\/a=b\/uG b a:=by
 obtain⟨a1,a2⟩:=a;obtain⟨b1,b2⟩:=b;unfold uG;by_cases h1:a1<b1;exact .inl (.inl h1);by_cases h2:b1<a1;exact .inr (.inr (.inl h2));have:a1=b1:=by lia
 subst this;by_cases h3:a2<b2;exact .inl (.inr ⟨rfl,h3⟩);by_cases h4:b2<a2;exact .inr (.inr (.inr ⟨rfl,h4⟩));have:a2=b2:=by lia
 subst this;exact .inr (.inl rfl)
def ny(a:Cell):¬ uG a a:=by unfold uG;lia
def zU(h:uG a b)(h':uG b c):uG a c:=by unfold uG at *;lia
def sf(h:uG a b):¬ uG b a:=fun h'=>ny a (zU h h')
def b7.nodup(h:b7 l):l.Nodup:=h.imp fun {a b} uu e=>by subst e;exact ny _ uu
def toC:D->Cell
 | .tup [.int a,.int b]=>(a,b)
 | _=>(0,0)
def toC_cD(c:Cell):toC (cD c)=c:=rfl
theorem WU[DecidableEq α]:∀{l:List α},l.Nodup->dd l=l
 | [],_=>rfl
 | x::l,h=>by
  rw[iP]at h;rw[dd,aX0 h.1,WU h.2]
def L7{l:List Cell}(h:l.Nodup):(l.map row).Nodup:=by
 rw[qi]at h ⊢;exact qq row (fun a b uu e=>uu (UR e)) h
def UY(h:b7 l):fC (l.map cD)=l.map cD:=by
 symm;refine j5 (fun a ha b hb=>?_) (.refl _) ?_;refine aO (aL.mp ha) fun x _ b9=>?_;obtain rfl:=b9;refine aO (aL.mp hb) fun y _ b9=>?_;obtain rfl:=b9;unfold cD;simp[gD,fH];refine qq cD (fun a b uu=>?_) h;rw[QI,aX2 (sf uu)];rfl
def UZ(l:List Cell):(l.map row).map pJ=l.map cD:=by rw[d9];rfl
def HC(l:List Cell)(hl:l.length<=50):∃m:List Cell,kL (aJ l) = .ok (aJ m)/\(l=m↔b7 l):=by
 let ys:=fC ((dd (l.map row)).map pJ);have hp:ys.Perm ((dd (l.map row)).map pJ):=cJ _;have hy:∀y∈ys,∃c∈l,y=cD c:=fun y h=>by refine aO (aL.mp (hp.mem_iff.mp h)) fun r hr b9=>?_;obtain rfl:=b9;refine aO (aL.mp (u5.mp hr)) fun c hc b9=>?_;obtain rfl:=b9;exact⟨c,hc,rfl⟩
 have hm:ys=(ys.map toC).map cD:=by
  rw[d9];conv=>lhs;rw[<- As ys]
  refine mT fun y h=>?_;refine aO (hy y h) fun c _ b9=>?_;obtain rfl:=b9;rfl
 refine⟨ys.map toC,?_,?_⟩;unfold kL;dsimp only;rw[E6];dsimp only;rw[aW9 (by rw[UX,MZ,bf];exact aX1 hl)];show R.ok (D.lst ys)=_;exact congrArg (fun z=>R.ok (D.lst z)) hm;constructor;intro e;have Q0:ys=l.map cD:=by rw[hm,<- e]
 have hnd:ys.Nodup:=by
  refine hp.nodup_iff.mpr ?_;have:=rR (l.map row);rw[qi]at this ⊢;refine qq pJ (fun a b uu e=>uu ?_) this;unfold pJ at e;have e':a.map D.int=b.map D.int:=by injection e
  exact List.map_inj_right (fun x y h=>by injection h) |>.mp e'
 have hpw:=mq ((dd (l.map row)).map pJ);change List.Pairwise _ ys at hpw;rw[Q0]at hnd hpw;rw[qi]at hnd;rw[Aq]at hnd hpw;refine(hnd.and hpw).imp fun {a b} l6=>?_;obtain⟨h1,h2⟩:=l6;rw[QI]at h2;rcases J0 a b with h|h|h;exact h;subst h;exact aY1 rfl h1;rw[aX1 h]at h2;cases h2;intro h;have e1:dd (l.map row)=l.map row:=WU (L7 h.nodup);have e2:ys=l.map cD:=by show fC _=_;rw[e1,UZ,UY h]
 rw[e2,d9];conv=>lhs;rw[<- As l]
 exact mT fun c _=>(toC_cD c).symm
def aS(h:F st = .nx st'):bG F G st=G st':=by simp[h]
def HE(h:F st = .rt d):bG F G st = .rt d:=by simp[h]
def Zx(h:F st = .ex c p s):bG F G st = .ex c p s:=by simp[h]
def gx(h:f st = .ok d):cF i f st = .nx (st.set i (some d)):=by simp[h]
def gy(h:f st = .ok d):eL f st = .rt d:=by simp[h]
def sj(h:f st = .ok d):nH f st = .nx st:=by simp[h]
def BX(h:fc st = .ok (.bl true)):Dm.dJ fc F G st=F st:=by simp[h]
def nB(h:fc st = .ok (.bl false)):Dm.dJ fc F G st=G st:=by simp[h]
def dm{ds:List D}(st:gM)(h:F st = .rt d)(e:autoParam (ds.map some++kr (n-ds.length) none=st) zu0._auto_1):bW n F ds = .ok d:=by
 subst e;unfold bW;rw[h]
def E7{g:List D->R D}(h1:f1 st = .ok a)(h:g [a]=r):bD g (af f1 az) st=r:=by simp[h1,h]
def C9{g:List D->R D}(h1:f1 st = .ok a)(h2:f2 st = .ok b)(h:g [a,b]=r):bD g (af f1 (af f2 az)) st=r:=by simp[h1,h2,h]
def RX{g:List D->R D}(h1:f1 st = .ok a)(h2:f2 st = .ok b)(h3:f3 st = .ok c)(h:g [a,b,c]=r):bD g (af f1 (af f2 (af f3 az))) st=r:=by simp[h1,h2,h3,h]
def iM{g:D->D->R D}(h1:f1 st = .ok a)(h2:f2 st = .ok b)(h:g a b=r):aV g f1 f2 st=r:=by simp[h1,h2,h]
def un1{g:D->R D}(h1:f1 st = .ok a)(h:g a=r):rO g f1 st=r:=by simp[h1,h]
def az7(h:f st = .ok d)(n:gw d=true):b8 f st = .ok d:=by simp[h,n]
def kO(h:f st = .ok (.bl true))(h2:g st=r):jR f g st=r:=by simp[h,h2]
def u9(h:f st = .ok (.bl false)):jR f g st = .ok (.bl false):=by simp[h]
def J1(h:f st = .ok (.bl false))(h2:g st=r):Tt f g st=r:=by simp[h,h2]
def az8(h:f st = .ok (.bl b)):tX f st = .ok (.bl (!b)):=by simp[h]
theorem jC{α:Type}{bind:DB}{ft fe:DF}{f:α->D}{p:α->Bool}{g:α->D}{S:α->gM}{P:gM->Prop}:∀(xs:List α) (hS:∀x∈xs,P (S x)) (hb:∀x∈xs,∀st,P st->bind (f x) st=some (S x)) (ht:∀x∈xs,ft (S x) = .ok (.bl (p x))) (he:∀x∈xs,p x=true->fe (S x) = .ok (g x)) (st:gM),P st->iD bind ft fe (xs.map f) st = .ok ((xs.filter p).map g)
 | [],_,_,_,_,_,_=>rfl
 | x::xs,hS,hb,ht,he,st,h=>by
  have ih:=jC xs (fun y hy=>hS y (.tail _ hy)) (fun y hy=>hb y (.tail _ hy)) (fun y hy=>ht y (.tail _ hy)) (fun y hy=>he y (.tail _ hy)) (S x) (hS x (.head _));rw[aW,iD,hb x (.head _) st h];dsimp only;rw[ht x (.head _)];cases hp:p x with
  | true=>dsimp only;rw[he x (.head _) hp,ME hp,aW,ih]
  | false=>dsimp only;rw[MF (by rw[hp];exact iS),ih]
def k8{gi:DI}{k:Nat}{fr:List Nat}{bind:DB}{ft fe:DF}{st:gM}{ds es:List D}(h1:gi st = .ok ds)(hl:ds.length<=5000)(h2:iD bind ft fe ds (oW k fr st) = .ok es):ir gi k fr bind ft fe st = .ok (.lst es):=by
 unfold ir;rw[h1];dsimp only;rw[aW9 hl,h2]
theorem jj{α:Type}{bind:DB}{F:DS}{f:α->D}{Q:List α->gM->Prop}:∀(xs pre:List α) (st:gM),(∀p x r,pre++xs=p++x::r->∀st,Q p st->∃jU m8,bind (f x) st=some jU/\F jU = .nx m8/\Q (p++[x]) m8)->Q pre st->∃st',fS bind F (xs.map f) st = .nx st'/\Q (pre++xs) st'
 | [],pre,st,_,q=>⟨st,rfl,by simpa using q⟩
 | x::xs,pre,st,h,q=>by
  refine bw (h pre x xs rfl st q) fun jU m8 h1 h2 q2=>?_;refine aO (jj xs (pre++[x]) m8 (fun p y r e=>h p y r (by simpa using e)) q2) fun st' h3 q3=>?_;refine⟨st',?_,by simpa using q3⟩;rw[aW,fS,h1];dsimp only;rw[h2];exact h3
def Stop(o:Out):Prop:=match o with | .rt _=>True | .ex _ _ _=>True|_=>False
theorem J2{α:Type}{bind:DB}{F:DS}{f:α->D}{Q:gM->Prop}{p:α->Prop}{S:Out->Prop}(hS:∀o,S o->Stop o):∀(xs:List α) (st:gM),(∀x∈xs,∀st,Q st->∃jU,bind (f x) st=some jU/\(p x->∃m8,F jU = .nx m8/\Q m8)/\(¬ p x->S (F jU)))->Q st->
  ((∀x∈xs,p x)->∃st',fS bind F (xs.map f) st = .nx st'/\Q st')/\(¬ (∀x∈xs,p x)->S (fS bind F (xs.map f) st))
 | [],st,_,q=>⟨fun _=>⟨st,rfl,q⟩,fun h=>aY1 (fun x hx=>by cases hx) h⟩
 | x::xs,st,h,q=>by
  refine cC (h x (.head _) st q) fun jU h1 h2 h3=>?_;rw[aW,fS,h1];dsimp only;by_cases hp:p x;refine aO (h2 hp) fun m8 e2 q2=>?_;obtain⟨i1,i2⟩:=J2 hS xs m8 (fun y hy=>h y (.tail _ hy)) q2;rw[e2];dsimp only;refine⟨fun z=>i1 fun y hy=>z y (.tail _ hy),fun z=>i2 fun z'=>z fun y hy=>?_⟩;rcases bR.mp hy with rfl|hy;exact hp;exact z' y hy;have s:=h3 hp;refine⟨fun z=>aY1 (z x (.head _)) hp,fun _=>?_⟩;cases hf:F jU with
  | rt d=>rw[hf]at s;exact s
  | ex c p st=>rw[hf]at s;exact s
  | _=>rw[hf]at s;exact aY1 (hS _ s) (by simp[Stop])
def J3(f:α->D)(l:List α):enD (l.map f)=l.zipIdx.map fun p=>.tup [.int (p.2:Nat),f p.1]:=by
 unfold enD;refine vL fun i=>?_;rw[Fz,cY,cY,List.getElem?_zipIdx];cases l[i]? <;> simp
def BY{ds:List D}{n:Nat}(h:ds[n]?=some d):eF (.lst ds) (.int n) = .ok d:=by
 have hl:=(fR.mp h).1;have e:CG ds (n:Int)=some d:=by unfold CG RO;rw[aW9 (Int.natCast_nonneg n),aW9 (by lia)];simpa using h
 unfold eF;dsimp only;rw[e]
def xZ(ds:List D)(m:Nat):cutD ds none (some (m:Int))=ds.take m:=by
 unfold cutD HT.zf;simp only[List.drop_zero,M8];rw[aX0 (by lia)];simp only[jM];by_cases h:m<=ds.length;rw[Fe h];rw[Ma (by lia),vK,sZ (by lia)]
def QJ(ds:List D)(m:Nat):cutD ds (some (m:Int)) none=ds.drop m:=by
 unfold cutD HT.zf;dsimp only;rw[aX0 (by lia)];simp only[jM];by_cases h:m<=ds.length;rw[Fe h,sZ (by simp)];rw[Ma (by lia),Ao,FA (by lia)];simp
def az9{f g:DF}{a:Nat}(h1:f st = .ok (aJ l))(h2:g st = .ok (.int (a:Int))):Lw f none (some g) st = .ok (aJ (l.take a)):=by
 simp[Lw,mz,h1,h2,xZ]
def V0{f g:DF}{a:Nat}(h1:f st = .ok (aJ l))(h2:g st = .ok (.int (a:Int))):Lw f (some g) none st = .ok (aJ (l.drop a)):=by
 simp[Lw,mz,h1,h2,QJ]
def HF{l m:List Cell}(h:l.length+m.length<=5000):pI (aJ l) (aJ m) = .ok (aJ (l++m)):=by
 unfold pI;dsimp only;rw[aW9 (by simp;lia)];simp
def HG(a b:Cell):gD (cD a) (cD b)=true:=by unfold cD;simp[gD,fH]
def QK(a:Cell):nl (cD a)=true:=by unfold cD;simp[nl,Gz]
def QL{l:List Cell}(h:l.length<64):pV (l.map cD)=true:=by
 unfold pV;simp only[bV,kB,aX4,fU,bf];refine⟨⟨⟨⟨h,US l⟩,fun d hd=>?_⟩,fun a ha b hb=>?_⟩,.inl (.inr fun d hd=>?_)⟩;refine aO (aL.mp hd) fun c _ b9=>?_;obtain rfl:=b9;exact⟨QK c,by rw[QG];decide⟩;refine aO (aL.mp ha) fun c _ b9=>?_;obtain rfl:=b9;refine aO (aL.mp hb) fun c' _ b9=>?_;obtain rfl:=b9;exact HG c c';refine aO (aL.mp hd) fun c _ b9=>?_;obtain rfl:=b9;rfl
def ua{m:List Cell}(hp:m.Perm l)(hs:m.Pairwise (fun a b=>¬ uG b a))(hn:l.Nodup):b7 m:=by
 have wz:m.Nodup:=hp.nodup_iff.mpr hn;rw[qi]at wz;refine(wz.and hs).imp fun {a b} l6=>?_;obtain⟨h1,h2⟩:=l6;rcases J0 a b with h|h|h;exact h;exact aY1 h h1;exact aY1 h h2
def HH(hl:b7 l)(hm:b7 m)(h:∀c,c∈l↔c∈m):l=m:=by
 have hp:l.Perm m:=(Fy hl.nodup hm.nodup).mpr h;exact hp.eq_of_pairwise (fun a b _ _ h1 h2=>aY1 h2 (sf h1)) hl hm
@[simp] theorem aD2 (l:List Cell):dR (.bJ 0 (l.map cD)) = .ok (aJ l):=by simp[dR]
@[simp] theorem aA0 (l:List Cell):lq [aJ l] = .ok (aJ l):=by simp[lq]
abbrev bC:=Cell×Cell
def lD(p:bC):D:=.tup [cD p.1,cD p.2]
abbrev bO(l:List bC):D:=.lst (l.map lD)
def mid(a b:Cell):Cell:=((a.1+b.1) / 2,(a.2+b.2) / 2)
def four(c:Cell):List Cell:=[(c.1-2,c.2),(c.1,c.2-2),(c.1,c.2+2),(c.1+2,c.2)]
def EK(aa:List Cell)(a:Cell):List Cell:=(four a).filter fun b=>decide (b∈aa)&&decide (mid a b∈aa)
def aK(aa:List Cell):List bC:=aa.flatMap fun a=>(EK aa a).map fun b=>(a,b)
def qG:p∈aK aa↔p.1∈aa/\p.2∈four p.1/\p.2∈aa/\mid p.1 p.2∈aa:=by
 unfold aK EK;simp only[MG,aL,lZ,bV,aX4];constructor;rintro⟨a,h1,b,⟨h2,h3,h4⟩,rfl⟩;exact⟨h1,h2,h3,h4⟩;rintro⟨h1,h2,h3,h4⟩;exact⟨p.1,h1,p.2,⟨h2,h3,h4⟩,rfl⟩
@[simp] theorem HJ (p:bC):gw (lD p)=true:=by unfold lD;simp[gw,dB]
@[simp] theorem V1 (l:List bC):dB (l.map lD)=true:=eY fun d hd=>by obtain⟨c,_,rfl⟩:=aL.mp hd;exact HJ c
@[simp] theorem V2 (p:bC):flat (lD p)=true:=by unfold lD;simp[flat,cu]
@[simp] theorem aA1 (l:List bC):cu (l.map lD)=true:=jx fun d hd=>by obtain⟨c,_,rfl⟩:=aL.mp hd;exact V2 c
@[simp] theorem QM (p:bC):dep (lD p)=2:=by unfold lD;simp[dep,jw]
def J4(l:List bC):jw (l.map lD)<=2:=rA fun d hd=>by obtain⟨c,_,rfl⟩:=aL.mp hd;rw[QM];exact aZ _
@[simp] theorem QN (a b:bC):iJ (lD a) (lD b)=decide (a=b):=by
 obtain⟨a1,a2⟩:=a;obtain⟨b1,b2⟩:=b;unfold lD;simp only[iJ,fD,vX,HB];by_cases h:a1=b1 <;> by_cases h':a2=b2 <;> simp[h,h']
@[simp] theorem V3:∀(a b:List bC),fD (a.map lD) (b.map lD)=decide (a=b)
 | [],[]=>by simp[fD]
 | [],_::_=>by simp[fD]
 | _::_,[]=>by simp[fD]
 | x::a,y::b=>by
  rw[aW,aW,fD,QN,V3 a b];by_cases h:x=y <;> by_cases h':a=b <;> simp[h,h']
def Zz(neg:Bool)(c:bC)(l:List bC):jG neg (lD c) (bO l) = .ok (.bl (if neg then !decide (c∈l)else decide (c∈l))):=by
 unfold jG;have h:=J4 l;dsimp only;rw[aW9 (by simp;lia)];have e:(l.map lD).any (fun e=>iJ e (lD c))=decide (c∈l):=by
  induction l with
  | nil=>rfl
  | cons x l ih=>rw[aW,nY,QN,ih (J4 l)];by_cases hx:x=c;simp[hx];have:¬ c=x:=fun z=>hx z.symm;simp[hx,this]
 rw[e]
@[simp] theorem lx0 (p:bC):eF (lD p) (.int 0) = .ok (cD p.1):=rfl
@[simp] theorem lx1 (p:bC):eF (lD p) (.int 1) = .ok (cD p.2):=rfl
def WV(p q:bC):Prop:=uG p.1 q.1\/(p.1=q.1/\uG p.2 q.2)
def WW(p:bC):fl (lD p)=row p.1++row p.2:=by unfold lD;simp[fl,jF,QH]
def QO(a b:Cell)(u v:List Int):lexLt (row a++u) (row b++v)=if a=b then lexLt u v else decide (uG a b):=by
 obtain⟨a1,a2⟩:=a;obtain⟨b1,b2⟩:=b;unfold row uG;simp only[vM,dw];rw[dg];by_cases h2:a1=b1;subst h2;rw[aW9 rfl,dg];by_cases h3:a2=b2;subst h3;rw[aW9 rfl,aW9 rfl];rw[aX0 h3,aX0 (by simpa using h3)];simp;rw[aX0 h2,aX0 (by simp[h2])];simp[h2]
def aA2(p q:bC):qx (fl (lD p)) (fl (lD q))=true↔¬ WV q p:=by
 rw[WW,WW];unfold qx WV;rw[QO];by_cases h:q.1=p.1;rw[aW9 h,az6];have:=ny p.1;rw[h];simp[this];rw[aX0 h];simp[h]
def E8(h:WV p q):¬ WV q p:=by
 unfold WV at *;rintro(h'|⟨e,h'⟩);rcases h with h|⟨e,h⟩;exact sf h h';rw[e]at h';exact ny _ h';rcases h with h|⟨e',h⟩;rw[e]at h;exact ny _ h;exact sf h h'
def QS(a b:bC):gD (lD a) (lD b)=true:=by unfold lD;simp[gD,fH,HG]
def aA3(a:bC):nl (lD a)=true:=by unfold lD;simp[nl,Gz,QK]
def V4{l:List bC}(h:l.Pairwise WV):fC (l.map lD)=l.map lD:=by
 symm;refine j5 (fun a ha b hb=>?_) (.refl _) ?_;refine aO (aL.mp ha) fun x _ b9=>?_;obtain rfl:=b9;refine aO (aL.mp hb) fun y _ b9=>?_;obtain rfl:=b9;exact QS x y;refine qq lD (fun a b uu=>?_) h;rw[aA2];exact E8 uu
def QT{l:List bC}(h:l.length<64):pV (l.map lD)=true:=by
 unfold pV;simp only[bV,kB,aX4,fU,bf];refine⟨⟨⟨⟨h,V1 l⟩,fun d hd=>?_⟩,fun a ha b hb=>?_⟩,.inr fun d hd=>?_⟩;refine aO (aL.mp hd) fun c _ b9=>?_;obtain rfl:=b9;exact⟨aA3 c,by rw[QM];decide⟩;refine aO (aL.mp ha) fun c _ b9=>?_;obtain rfl:=b9;refine aO (aL.mp hb) fun c' _ b9=>?_;obtain rfl:=b9;exact QS c c';refine aO (aL.mp hd) fun c _ b9=>?_;obtain rfl:=b9;rfl
def QU{l:List bC}(h:l.Pairwise WV)(hl:l.length<64):fL [bO l] = .ok (bO l):=by
 unfold fL;dsimp only;rw[aW9 (QT hl),V4 h]
def uH(a:Cell):b7 (four a):=by
 unfold four b7 uG;simp only[vQ,bR,fE,aX9,List.Pairwise.nil,and_true];refine⟨?_,?_,?_,?_⟩ <;> intro b hb
 ·rcases hb with rfl|rfl|rfl <;> first|(simp;done)|(simp;lia)
 ·rcases hb with rfl|rfl <;> first|(simp;done)|(simp;lia)
 ·obtain rfl:=hb;first|(simp;done)|(simp;lia)
 exact hb.elim
def E9(up:b7 aa):(aK aa).Pairwise WV:=by
 unfold aK;rw[List.pairwise_flatMap];refine⟨fun a _=>?_,up.imp fun {a b} uu x hx y hy=>?_⟩;refine qq (R:=uG) _ (fun x y h=>.inr ⟨rfl,h⟩) ?_;exact(uH a).sublist mW;refine aO (aL.mp hx) fun _ _ b9=>?_;obtain rfl:=b9;refine aO (aL.mp hy) fun _ _ b9=>?_;obtain rfl:=b9;exact .inl uu
def Ea(up:b7 aa):(aK aa).Nodup:=(E9 up).imp fun {a b} h e=>by subst e;exact E8 h h
theorem zV[DecidableEq α]:∀{l m:List α},l.Nodup->(∀x∈l,x∈m)->l.length<=m.length
 | [],_,_,_=>gI _
 | x::l,m,hn,h=>by
  rw[iP]at hn;have hx:=h x (.head _);have ih:=zV (m:=m.erase x) hn.2 fun y hy=>(MH (fun e=>hn.1 (by rw[<- e];exact hy))).mpr (h y (.tail _ hy));have:=MJ hx;have:=MK hx;rw[cK];lia
def y9(h w:Nat):List Cell:=(cU (h*w)).map fun k=>(((k / w:Nat):Int),((k % w:Nat):Int))
def QV{h w:Nat}{c:Cell}(h1:0<=c.1)(h2:c.1<h)(h3:0<=c.2)(h4:c.2<w):c∈y9 h w:=by
 obtain⟨a,ha⟩:=w5 h1;obtain⟨b,hb⟩:=w5 h3;have n6:b<w:=by lia
 have RV:a<h:=by lia
 have hw:0<w:=by lia
 have e1:(a*w+b) / w=a:=by rw[Mb,Nat.add_mul_div_right _ _ hw,LZ n6];lia
 have e2:(a*w+b) % w=b:=by rw[Mb,Nat.add_mul_mod_self_right,Nat.mod_eq_of_lt n6]
 refine aL.mpr ⟨a*w+b,m6.mpr ?_,?_⟩;calc a*w+b<a*w+w:=by lia
  _=(a+1)*w:=by rw[Mc]
  _<=h*w:=Nat.mul_le_mul_right w RV
 show((((a*w+b) / w:Nat):Int),(((a*w+b) % w:Nat):Int))=c;rw[e1,e2];exact mY ha.symm hb.symm
def Box(l:List Cell)(h w:Nat):Prop:=∃dn ac:Int,∀c∈l,dn<=c.1/\c.1<dn+h/\ac<=c.2/\c.2<ac+w
def V5(a b:Cell)(x y:Int)(h:b∈four a):(b.1-x,b.2-y)∈four (a.1-x,a.2-y):=by
 unfold four at *;simp only[bR,fE,aX9]at *;rcases h with rfl|rfl|rfl|rfl;exact .inl (mY (by simp only;lia) rfl);exact .inr (.inl (mY rfl (by simp only;lia)));exact .inr (.inr (.inl (mY rfl (by simp only;lia))));exact .inr (.inr (.inr (mY (by simp only;lia) rfl)))
def L8(up:b7 l)(b:Box l h w):(aK l).length<=(aK (y9 h w)).length:=by
 refine qu b fun dn ac hb=>?_;clear b;have key:∀c∈l,(c.1-dn,c.2-ac)∈y9 h w:=fun c hc=>by refine G3 (hb c hc) fun h1 h2 h3 h4=>?_;exact QV (by simp only;lia) (by simp only;lia) (by simp only;lia) (by simp only;lia)
 have:=zV (l:=(aK l).map fun p=>(((p.1.1-dn,p.1.2-ac),(p.2.1-dn,p.2.2-ac)):bC)) (m:=aK (y9 h w)) (by
  have hn:=Ea up;rw[qi]at hn ⊢;refine qq _ (fun p q hpq e=>hpq ?_) hn;simp only[we]at e;refine wg e fun zo0 e3 e4=>?_;clear e;obtain⟨e1,e2⟩:=zo0;exact mY (mY (by lia) (by lia)) (mY (by lia) (by lia))) (fun p hp=>by
  refine aO (aL.mp hp) fun q hq b9=>?_;obtain rfl:=b9;refine G3 (qG.mp hq) fun h1 h2 h3 h4=>?_;refine qG.mpr ⟨key _ h1,V5 _ _ _ _ h2,key _ h3,?_⟩;have e:mid (q.1.1-dn,q.1.2-ac) (q.2.1-dn,q.2.2-ac)=((mid q.1 q.2).1-dn,(mid q.1 q.2).2-ac):=by unfold mid;exact mY (by simp only;lia) (by simp only;lia)
  show mid (q.1.1-dn,q.1.2-ac) (q.2.1-dn,q.2.2-ac)∈y9 h w;rw[e];exact key _ h4)
 rwa [bf]at this
def small(h w:Nat):Prop:=(h<=4/\w<=6)\/(h<=3/\w=8)\/(h=8/\w<=3)
def ya:(∀h,h<=4->∀w,w<=6->(aK (y9 h w)).length<=56)/\(∀h,h<=3->(aK (y9 h 8)).length<=56)/\(∀w,w<=3->(aK (y9 8 w)).length<=56):=by
 refine⟨fun h hh w hw=>?_,fun h hh=>?_,fun w hw=>?_⟩;have a:∀h:Fin 5,∀w:Fin 7,(aK (y9 h.1 w.1)).length<=56:=by decide +kernel
 exact a ⟨h,by lia⟩ ⟨w,by lia⟩;have a:∀h:Fin 4,(aK (y9 h.1 8)).length<=56:=by decide +kernel
 exact a ⟨h,by lia⟩;have a:∀w:Fin 4,(aK (y9 8 w.1)).length<=56:=by decide +kernel
 exact a ⟨w,by lia⟩
def La(up:b7 l)(b:Box l h w)(s:small h w):(aK l).length<=56:=by
 refine cj (L8 up b) ?_;rcases s with⟨h1,h2⟩|⟨h1,rfl⟩|⟨rfl,h2⟩;exact ya.1 h h1 w h2;exact ya.2.1 h h1;exact ya.2.2 w h2
def QW(x y:Int):∃u v:Int,fL [.lst [.int x,.int y]] = .ok (.lst [.int u,.int v])/\((u=0/\v=2)↔(x=0/\y=2\/x=2/\y=0)):=by
 have hb:pV [.int x,.int y]=true:=by unfold pV;simp[dB,nl,dep,gD,isI]
 have g:fL [.lst [.int x,.int y]] = .ok (.lst (fC [.int x,.int y])):=by unfold fL;dsimp only;rw[if_pos hb]
 have fi:∀i:Int,fl (.int i)=[i]:=fun i=>by simp[fl]
 have le:∀i j:Int,i<=j->qx (fl (.int i)) (fl (.int j))=true:=fun i j h=>by rw[fi,fi];unfold qx;rw[Ba];simp;lia
 by_cases h:x<=y;refine⟨x,y,?_,by lia⟩;rw[g];congr 2;symm;refine j5 (fun a ha b hb=>?_) (.refl _) ?_;simp only[bR,fE,aX9]at ha hb;rcases ha with rfl|rfl <;> rcases hb with rfl|rfl <;> simp[gD];simp only[vQ,bR,fE,aX9,List.Pairwise.nil,and_true];exact⟨fun b hb=>by subst hb;exact le _ _ h,fun b hb=>hb.elim⟩;refine⟨y,x,?_,by lia⟩;rw[g];congr 2;symm;refine j5 (fun a ha b hb=>?_) (.swap _ _ _) ?_;simp only[bR,fE,aX9]at ha hb;rcases ha with rfl|rfl <;> rcases hb with rfl|rfl <;> simp[gD];simp only[vQ,bR,fE,aX9,List.Pairwise.nil,and_true];exact⟨fun b hb=>by subst hb;exact le _ _ (by lia),fun b hb=>hb.elim⟩
def QX(i:Int):Int:=if i<0 then -i else i
def ap(a b:Cell):Bool:=(decide (QX (a.1-b.1)=0)&&decide (QX (a.2-b.2)=2)) || (decide (QX (a.1-b.1)=2)&&decide (QX (a.2-b.2)=0))
def aS7:QX i=0↔i=0:=by unfold QX;split <;> lia
def aS8:QX i=2↔i=2\/i = -2:=by unfold QX;split <;> lia
def V6(a b:Cell):ap a b=true↔b∈four a:=by
 unfold ap four;obtain⟨a1,a2⟩:=a;obtain⟨b1,b2⟩:=b;simp only[kB,bV,aX4,bR,fE,aX9,we,aS7,aS8];constructor;rintro(⟨h1,h2|h2⟩|⟨h1|h1,h2⟩);exact .inr (.inl (by lia));exact .inr (.inr (.inl (by lia)));exact .inl (by lia);exact .inr (.inr (.inr (by lia)));rintro(⟨h1,h2⟩|⟨h1,h2⟩|⟨h1,h2⟩|⟨h1,h2⟩);exact .inr ⟨.inl (by lia),by lia⟩;exact .inl ⟨by lia,.inl (by lia)⟩;exact .inl ⟨by lia,.inr (by lia)⟩;exact .inr ⟨.inr (by lia),by lia⟩
def V7(up:b7 aa)(a:Cell):(aa.filter fun b=>ap a b&&decide (mid a b∈aa))=EK aa a:=by
 unfold EK;refine HH (up.sublist mW) ((uH a).sublist mW) fun b=>?_;simp only[lZ,bV,aX4,V6];constructor;rintro⟨h1,h2,h3⟩;exact⟨h2,h1,h3⟩;rintro⟨h1,h2,h3⟩;exact⟨h2,h1,h3⟩
def kP(aq:List Cell)(p:bC):Bool:=decide (p.1∈aq)&&(!decide (p.2∈aq)&&decide (mid p.1 p.2∈aq))
def Ca(aa aq:List Cell):List bC:=(aK aa).filter (kP aq)
end Dm
namespace Pk
open L2 Dm
variable (t:jb)
def Eb{l:List Cell}(hl:l.length<=50):(b7 l->f7 t [aJ l] = .ok (.bl true))/\(¬ b7 l->f7 t [aJ l] = .ok (.bl false)):=by
 obtain⟨m,h1,h2⟩:=HC l hl;constructor;intro h;have e:=h2.mpr h;subst e;simp[f7,bW,h1,BW];intro h;have:¬ l=m:=fun z=>h (h2.mp z);simp[f7,bW,h1,BW,this]
def inR(c:Cell):Prop:=0<=c.1/\c.1<=7/\0<=c.2/\c.2<=7
instance (c:Cell):Decidable (inR c):=inferInstanceAs (Decidable (_/\_))
@[simp] theorem ix0 (c:Cell):eF (cD c) (.int 0) = .ok (.int c.1):=rfl
@[simp] theorem ix1 (c:Cell):eF (cD c) (.int 1) = .ok (.int c.2):=rfl
def ZC(c:Cell):mG t [cD c] = .ok (.bl (decide (inR c))):=by
 unfold inR;by_cases h1:0<=c.1 <;> by_cases h2:c.1<=7 <;> by_cases h3:0<=c.2 <;> by_cases h4:c.2<=7 <;> simp[mG,bW,h1,h2,h3,h4]
def Valid(l:List Cell):Prop:=(1<=l.length/\l.length<=24)/\b7 l/\∀c∈l,inR c
theorem yb{F:DS}(hF:∀(x:D) (c:Cell),F [some x,some (cD c)]=if inR c then .nx [some x,some (cD c)]else .ex t.fq none [some x,some (cD c)])(x:D):∀(l:List Cell) (y:Option D),((∀c∈l,inR c)->∃y',fS (cR 1) F (l.map cD) [some x,y] = .nx [some x,y'])/\(¬ (∀c∈l,inR c)->∃s,fS (cR 1) F (l.map cD) [some x,y] = .ex t.fq none s)
 | [],y=>⟨fun _=>⟨y,rfl⟩,fun h=>aY1 (fun c hc=>by cases hc) h⟩
 | c::l,y=>by
  obtain⟨i1,i2⟩:=yb hF x l (some (cD c));have e:cR 1 (cD c) [some x,y]=some [some x,some (cD c)]:=rfl;by_cases hc:inR c;constructor;intro h;obtain⟨y',h'⟩:=i1 fun d hd=>h d (.tail _ hd);refine⟨y',?_⟩;rw[aW,fS,e];dsimp only;rw[hF,aW9 hc];exact h';intro h;obtain⟨s,h'⟩:=i2 fun z=>h fun d hd=>by rcases bR.mp hd with rfl|hd;exact hc;exact z d hd
  refine⟨s,?_⟩;rw[aW,fS,e];dsimp only;rw[hF,aW9 hc];exact h';constructor;intro h;exact aY1 (h c (.head _)) hc;intro h;refine⟨[some x,some (cD c)],?_⟩;rw[aW,fS,e];dsimp only;rw[hF,aX0 hc]
def V8{l:List Cell}(hl:l.length<=50):(Valid l->cB t [aJ l] = .ok .cM)/\(¬ Valid l->cB t [aJ l] = .ex t.fq none):=by
 have hF:∀(x:D) (c:Cell),Dm.dJ (tX (bD (mG t) (af (ah 1) az))) (gP t.fq) cy [some x,some (cD c)]=if inR c then .nx [some x,some (cD c)]else .ex t.fq none [some x,some (cD c)]:=fun x c=>by by_cases h:inR c <;> simp[ZC,h]
 obtain⟨i1,i2⟩:=yb t hF (aJ l) l none;obtain⟨r1,r2⟩:=Eb t hl;have c1:((l.map cD).length:Int)=l.length:=by simp
 by_cases h0:1<=l.length;by_cases h1:l.length<=24;by_cases h2:b7 l;by_cases h3:∀c∈l,inR c;obtain⟨y,h4⟩:=i1 h3;refine⟨fun _=>?_,fun h=>aY1 ⟨⟨h0,h1⟩,h2,h3⟩ h⟩;have a1:(1:Int)<=l.length:=by lia
 have a2:(l.length:Int)<=24:=by lia
 simp[cB,bW,a1,a2,r1 h2,h4];obtain⟨y,h4⟩:=i2 h3;refine⟨fun h=>aY1 h.2.2 h3,fun _=>?_⟩;have a1:(1:Int)<=l.length:=by lia
 have a2:(l.length:Int)<=24:=by lia
 simp[cB,bW,a1,a2,r1 h2,h4];refine⟨fun h=>aY1 h.2.1 h2,fun _=>?_⟩;have a1:(1:Int)<=l.length:=by lia
 have a2:(l.length:Int)<=24:=by lia
 simp[cB,bW,a1,a2,r2 h2];refine⟨fun h=>aY1 h.1.2 h1,fun _=>?_⟩;have a1:(1:Int)<=l.length:=by lia
 have a2:¬ (l.length:Int)<=24:=by lia
 simp[cB,bW,a1,a2];refine⟨fun h=>aY1 h.1.1 h0,fun _=>?_⟩;have a1:¬ (1:Int)<=l.length:=by lia
 simp[cB,bW,a1]
def QY(ns:List Int)(n:Nat):Int:=(ns[n]?).getD 0
abbrev iL(ns:List Int):D:=.lst (ns.map D.int)
def QZ(ns:List Int)(n:Nat):bq t [iL ns,.int n] = .ok (.int (QY ns n)):=by
 unfold QY;by_cases h:n<ns.length;have e:eF (iL ns) (.int n) = .ok (.int ((ns[n]?).getD 0)):=BY (by rw[cY,dz h];simp);have h':(n:Int)<ns.length:=by lia
 simp[bq,bW,h',e];have h':¬ (n:Int)<ns.length:=by lia
 rw[nW (lK h)];simp[bq,bW,h']
abbrev V9:List Int:=[48271,69621,16807,39373,30269,40014,40692,50021,61687,71993,83869,95561,30307]
def ZD(k:Int):∃v:Int,0<=v/\v<=95561/\eF (.lst [.int 48271,.int 69621,.int 16807,.int 39373,.int 30269,.int 40014,.int 40692,.int 50021,.int 61687,.int 71993,.int 83869,.int 95561,.int 30307]) (.int (k % 13)) = .ok (.int v):=by
 obtain⟨n,hn,e⟩:∃n:Nat,n<V9.length/\k % 13=n:=⟨(k % 13).toNat,by show _<13;lia,by lia⟩
 rw[e];have hL:∀x∈V9,0<=x/\x<=95561:=by decide
 exact⟨V9[n],(hL _ (t8 hn)).1,(hL _ (t8 hn)).2,BY (ds:=V9.map D.int) (by rw[cY,dz hn];rfl)⟩
def pY(c k m:Int)(hm:0<m):∃r:Int,0<=r/\r<m/\bh t [.int c,.int k,.int m] = .ok (.int r):=by
 obtain⟨v,v0,v1,hv⟩:=ZD k;have e1:jc (.int c) (.int 2147483647) = .ok (.int (c % 2147483647)):=nI (by decide);have e2:jc (.int k) (.int 13) = .ok (.int (k % 13)):=nI (by decide);have e3:oS (.int k) (.int 13) = .ok (.int (k / 13)):=E4 (by decide) (by decide);have b0:0<=c % 2147483647+12345:=by lia
 have b1:c % 2147483647+12345<=2147495991:=by lia
 have b2:0<=(c % 2147483647+12345)*v:=Nu b0 v0;have b3:(c % 2147483647+12345)*v<=2147495991*95561:=Nv b1 v1 v0 (by decide);have e4:rP (.int (c % 2147483647+12345)) (.int v) = .ok (.int ((c % 2147483647+12345)*v)):=xY (by constructor <;> lia);have e5:rP (.int 2) (.int (k / 13)) = .ok (.int (2*(k / 13))):=xY (by decide);have e6:rP (.int ((c % 2147483647+12345)*v)) (.int (2*(k / 13)+1)) = .ok (.int ((c % 2147483647+12345)*v*(2*(k / 13)+1))):=xY (by constructor <;> lia);have e7:rP (.int 977) (.int k) = .ok (.int (977*k)):=xY (by decide);have e8:∀x:Int,jc (.int x) (.int 1000000007) = .ok (.int (x % 1000000007)):=fun x=>nI (by decide);have e9:∀x:Int,oS (.int x) (.int 7) = .ok (.int (x / 7)):=fun x=>E4 (by decide) (by decide);have e10:∀x:Int,jc (.int x) (.int m) = .ok (.int (x % m)):=fun x=>nI hm;refine⟨(((c % 2147483647+12345)*v*(2*(k / 13)+1)+977*k) % 1000000007 / 7) % m,FZ _ (by lia),G1 _ hm,?_⟩;simp[bh,bW,e1,e2,e3,hv,e4,e5,e6,e7,e8,e9,e10]
def pk(c:Int)(k:Nat):Bool:=match bh t [.int c,.int k,.int 7]with | .ok (.int r)=>decide (0<r)|_=>false
def uc(dn ac w:Int)(k:Nat):Cell:=(dn+k / w,ac+k % w)
abbrev J5:DS:=Dm.dJ (aV RW (bD (bh t) (af (bD (bq t) (af (ah 0) (af (dC (.int 1)) az))) (af (ah 8) (af (dC (.int 7)) az)))) (dC (.int 0)))
 (kY 7 (bQ 100 (af (aV gO (ah 5) (aV oS (ah 8) (ah 4))) (af (aV gO (ah 6) (aV jc (ah 8) (ah 4))) az))))
 cy
theorem qH(ns:List Int)(most c h w dn ac:Int)(hw:0<w)(hw2:w<100):∀(ks:List Nat) (acc:List Cell) (y:Option D),acc.length+ks.length<=5000->
  ∃y',fS (cR 8) (J5 t) (ks.map fun i=>.int (i:Nat)) [some (iL ns),some (.int most),some (.int c),some (.int h),some (.int w),some (.int dn),some (.int ac),some (aJ acc),y]=
   .nx [some (iL ns),some (.int most),some (.int c),some (.int h),some (.int w),some (.int dn),some (.int ac),some (aJ (acc++(ks.filter (pk t (QY ns 1))).map (uc dn ac w))),y']
 | [],acc,y,_=>⟨y,by simp[fS]⟩
 | k::ks,acc,y,hl=>by
  obtain⟨r,r0,r1,hr⟩:=pY t (QY ns 1) k 7 (by decide);have hat:=QZ t ns 1;have hp:pk t (QY ns 1) k=decide (0<r):=by unfold pk;rw[hr]
  have e1:oS (.int (k:Int)) (.int w) = .ok (.int ((k:Int) / w)):=E4 hw (by lia);have e2:jc (.int (k:Int)) (.int w) = .ok (.int ((k:Int) % w)):=nI hw;have hb:cR 8 (.int (k:Int)) [some (iL ns),some (.int most),some (.int c),some (.int h),some (.int w),some (.int dn),some (.int ac),some (aJ acc),y]=some [some (iL ns),some (.int most),some (.int c),some (.int h),some (.int w),some (.int dn),some (.int ac),some (aJ acc),some (.int (k:Int))]:=rfl;rw[cK]at hl;rw[aW,fS,hb];dsimp only;by_cases hc:0<r;have hF:J5 t [some (iL ns),some (.int most),some (.int c),some (.int h),some (.int w),some (.int dn),some (.int ac),some (aJ acc),some (.int (k:Int))] = .nx [some (iL ns),some (.int most),some (.int c),some (.int h),some (.int w),some (.int dn),some (.int ac),some (aJ (acc++[uc dn ac w k])),some (.int (k:Int))]:=by
   have GW:acc.length<=5000:=by lia
   have ZE:bq t [iL ns,.int 1] = .ok (.int (QY ns 1)):=hat
   have Pa:bh t [.int (QY ns 1),.int (k:Int),.int 7] = .ok (.int r):=hr;simp[ZE,Pa,hc,kY,e1,e2,uc,cD,GW]
  rw[hF];dsimp only;obtain⟨y',ih⟩:=qH ns most c h w dn ac hw hw2 ks (acc++[uc dn ac w k]) (some (.int (k:Int))) (by simp;lia);refine⟨y',ih.trans ?_⟩;rw[ME (by rw[hp];exact aX1 hc),aW,f9];rfl;have hF:J5 t [some (iL ns),some (.int most),some (.int c),some (.int h),some (.int w),some (.int dn),some (.int ac),some (aJ acc),some (.int (k:Int))] = .nx [some (iL ns),some (.int most),some (.int c),some (.int h),some (.int w),some (.int dn),some (.int ac),some (aJ acc),some (.int (k:Int))]:=by
   have ZE:bq t [iL ns,.int 1] = .ok (.int (QY ns 1)):=hat
   have Pa:bh t [.int (QY ns 1),.int (k:Int),.int 7] = .ok (.int r):=hr;simp[ZE,Pa,hc]
  rw[hF];dsimp only;obtain⟨y',ih⟩:=qH ns most c h w dn ac hw hw2 ks acc (some (.int (k:Int))) (by lia);refine⟨y',ih.trans ?_⟩;rw[MF (by rw[hp,aX2 hc];decide)]
def Va{dn ac w:Int}(hw:0<w){j k:Nat}(h:j<k):uG (uc dn ac w j) (uc dn ac w k):=by
 unfold uG uc;dsimp only;have h1:(j:Int) / w<=(k:Int) / w:=Int.ediv_le_ediv hw (by lia);rcases Int.lt_or_eq_of_le h1 with h2|h2;exact .inl (by lia);refine .inr ⟨by lia,?_⟩;have e1:=Nx (j:Int) w;have e2:=Nx (k:Int) w;rw[h2]at e1;lia
def Vb{dn ac w h:Int}(hw:0<w)(hh:0<h)(d0:0<=dn)(d1:dn<=8-h)(a0:0<=ac)(a1:ac<=8-w){k:Nat}(hk:(k:Int)<h*w):inR (uc dn ac w k):=by
 unfold inR uc;dsimp only;have h1:0<=(k:Int) / w:=Ny (by lia) (by lia);have h2:(k:Int) / w<h:=Nz hw hk;have h3:0<=(k:Int) % w:=FZ _ (by lia);have h4:(k:Int) % w<w:=G1 _ hw;lia
def BZ{dn ac w:Int}(hw:0<w)(p:Nat->Bool)(n:Nat):b7 (((cU n).filter p).map (uc dn ac w)):=by
 unfold b7;refine qq (R:=fun a b=>a<b) (uc dn ac w) (fun a b h=>Va hw h) ?_;exact X6 mW Mt
structure Drawn(l:List Cell)(most:Nat):Prop where
 pos:1<=l.length
 le:l.length<=most
 up:b7 l
 inr:∀c∈l,inR c
 box:∃h w,Box l h w/\small h w
def Vc(ns:List Int)(most:Nat)(hm:1<=most):∃l,dO t [iL ns,.int most] = .ok (aJ l)/\Drawn l most:=by
 obtain⟨c,hat⟩:∃c:Int,bq t [iL ns,.int 0] = .ok (.int c):=⟨_,QZ t ns 0⟩
 obtain⟨r1,p1,q1,h1⟩:=pY t c 1 4 (by decide);obtain⟨r2,p2,q2,h2⟩:=pY t c 2 6 (by decide);have e4:jc (.int c) (.int 4) = .ok (.int (c % 4)):=nI (by decide);obtain⟨h,w,a1,a2,b1,b2,hw,sm,e3⟩:∃h w:Int,1<=h/\h<=8/\1<=w/\w<=8/\h*w<=64/\((h<=4/\w<=6)\/(h<=3/\w=8)\/(h=8/\w<=3))/\Dm.dJ (aV (k7 false) (aV jc (ah 2) (dC (.int 4))) (dC (.int 1)))
   (uB (eZ 3 4) (b8 (aV eF (cX 100 (af (bQ 100 (af (aV gO (dC (.int 1)) (aV jc (ah 3) (dC (.int 3)))) (af (dC (.int 8)) az))) (af (bQ 100 (af (dC (.int 8)) (af (aV gO (dC (.int 1)) (aV jc (ah 4) (dC (.int 3)))) az))) az))) (aV jc (aV oS (ah 2) (dC (.int 4))) (dC (.int 2))))))
   cy [some (iL ns),some (.int most),some (.int c),some (.int (1+r1)),some (.int (1+r2)),none,none,none,none] = .nx [some (iL ns),some (.int most),some (.int c),some (.int h),some (.int w),none,none,none,none]:=by
  by_cases hc:c % 4=1
  ·have m1:jc (.int (1+r1)) (.int 3) = .ok (.int ((1+r1) % 3)):=nI (by decide)
   have m2:jc (.int (1+r2)) (.int 3) = .ok (.int ((1+r2) % 3)):=nI (by decide)
   have m3:oS (.int c) (.int 4) = .ok (.int (c / 4)):=E4 (by decide) (by decide)
   have m4:jc (.int (c / 4)) (.int 2) = .ok (.int (c / 4 % 2)):=nI (by decide)
   have hz:c / 4 % 2=0\/c / 4 % 2=1:=by lia
   rcases hz with hz|hz
   ·refine⟨1+(1+r1) % 3,8,by lia,by lia,by lia,by lia,by lia,by lia,?_⟩
    have ix:eF (.lst [.tup [.int (1+(1+r1) % 3),.int 8],.tup [.int 8,.int (1+(1+r2) % 3)]]) (.int 0) = .ok (.tup [.int (1+(1+r1) % 3),.int 8]):=rfl
    simp[e4,nv,hc,m1,m2,m3,m4,hz,ix,uB,gw,dB,eZ]
   ·refine⟨8,1+(1+r2) % 3,by lia,by lia,by lia,by lia,by lia,by lia,?_⟩
    have ix:eF (.lst [.tup [.int (1+(1+r1) % 3),.int 8],.tup [.int 8,.int (1+(1+r2) % 3)]]) (.int 1) = .ok (.tup [.int 8,.int (1+(1+r2) % 3)]):=rfl
    simp[e4,nv,hc,m1,m2,m3,m4,hz,ix,uB,gw,dB,eZ]
  ·have hb:(1+r1)*(1+r2)<=4*6:=Nv (by lia) (by lia) (by lia) (by lia)
   refine⟨1+r1,1+r2,by lia,by lia,by lia,by lia,by lia,by lia,?_⟩
   simp[e4,nv,hc]
 obtain⟨dn,d0,d1,hd⟩:=pY t c 3 (9-h) (by lia);obtain⟨ac,s0,s1,hs⟩:=pY t c 4 (9-w) (by lia);have em:rP (.int h) (.int w) = .ok (.int (h*w)):=xY (by constructor <;> lia);have hn0:0<=h*w:=Nu (by lia) (by lia);obtain⟨y',hl⟩:=qH t ns most c h w dn ac (by lia) (by lia) (cU (h*w).toNat) [] none (by simp;lia);rw[dw]at hl;have up:=BZ (dn:=dn) (ac:=ac) (w:=w) (by lia) (pk t (QY ns 1)) (h*w).toNat
 have Xe:qB (af (aV rP (ah 3) (ah 4)) az) [some (iL ns),some (.int most),some (.int c),some (.int h),some (.int w),some (.int dn),some (.int ac),some (.lst []),none] = .ok ((cU (h*w).toNat).map fun i=>.int (i:Nat)):=by unfold qB;simp[em];lia
 obtain⟨L,hLd⟩:∃L,L=((cU (h*w).toNat).filter (pk t (QY ns 1))).map (uc dn ac w):=⟨_,rfl⟩
 rw[<- hLd]at hl up;have S4:∀x∈L,inR x:=fun x hx=>by rw[hLd]at hx;obtain⟨k,hk,rfl⟩:=aL.mp hx;have:=m6.mp (lZ.mp hk).1;exact Vb (h:=h) (by lia) (by lia) d0 (by lia) s0 (by lia) (by lia)
 have hbx:∀x∈L,dn<=x.1/\x.1<dn+(h.toNat:Int)/\ac<=x.2/\x.2<ac+(w.toNat:Int):=fun x hx=>by rw[hLd]at hx;obtain⟨k,hk,rfl⟩:=aL.mp hx;have hk':=m6.mp (lZ.mp hk).1;have q1:0<=(k:Int) / w:=Ny (by lia) (by lia);have q2:(k:Int) / w<h:=Nz (by lia) (by lia);have q3:0<=(k:Int) % w:=FZ _ (by lia);have q4:(k:Int) % w<w:=G1 _ (by lia);unfold uc;dsimp only;lia
 have sm':small h.toNat w.toNat:=by unfold small;lia
 have f1:cF 2 (bD (bq t) (af (ah 0) (af (dC (.int 0)) az))) [some (iL ns),some (.int most),none,none,none,none,none,none,none] = .nx [some (iL ns),some (.int most),some (.int c),none,none,none,none,none,none]:=by simp[hat]
 have f2:yE 3 4 (af (aV gO (dC (.int 1)) (bD (bh t) (af (ah 2) (af (dC (.int 1)) (af (dC (.int 4)) az))))) (af (aV gO (dC (.int 1)) (bD (bh t) (af (ah 2) (af (dC (.int 2)) (af (dC (.int 6)) az))))) az)) [some (iL ns),some (.int most),some (.int c),none,none,none,none,none,none] = .nx [some (iL ns),some (.int most),some (.int c),some (.int (1+r1)),some (.int (1+r2)),none,none,none,none]:=by simp[yE,h1,h2]
 have f4:yE 5 6 (af (bD (bh t) (af (ah 2) (af (dC (.int 3)) (af (aV jW (dC (.int 9)) (ah 3)) az)))) (af (bD (bh t) (af (ah 2) (af (dC (.int 4)) (af (aV jW (dC (.int 9)) (ah 4)) az)))) az)) [some (iL ns),some (.int most),some (.int c),some (.int h),some (.int w),none,none,none,none] = .nx [some (iL ns),some (.int most),some (.int c),some (.int h),some (.int w),some (.int dn),some (.int ac),none,none]:=by simp[yE,hd,hs]
 have f5:cF 7 (cX 100 az) [some (iL ns),some (.int most),some (.int c),some (.int h),some (.int w),some (.int dn),some (.int ac),none,none] = .nx [some (iL ns),some (.int most),some (.int c),some (.int h),some (.int w),some (.int dn),some (.int ac),some (.lst []),none]:=by simp
 have f6:fm (qB (af (aV rP (ah 3) (ah 4)) az)) (cR 8) (J5 t) [some (iL ns),some (.int most),some (.int c),some (.int h),some (.int w),some (.int dn),some (.int ac),some (.lst []),none] = .nx [some (iL ns),some (.int most),some (.int c),some (.int h),some (.int w),some (.int dn),some (.int ac),some (aJ L),y']:=by rw[zT,Xe];exact hl
 have fin:∀l:List Cell,Drawn l most->(bG (Dm.dJ (aV (k7 false) (bD jz (af (ah 7) az)) (dC (.int 0)))
   (cF 7 (cX 100 (af (bQ 100 (af (b8 (ah 5)) (af (b8 (ah 6)) az))) az)))
   cy)
   (eL (Lw (ah 7) none (some (ah 1))))) [some (iL ns),some (.int most),some (.int c),some (.int h),some (.int w),some (.int dn),some (.int ac),some (aJ L),y'] = .rt (aJ l)->∃l,dO t [iL ns,.int most] = .ok (aJ l)/\Drawn l most:=fun l dl e=>by
  refine⟨l,?_,dl⟩
  have e0:dO t [iL ns,.int most]=match(.rt (aJ l):Out)with | .rt d=>.ok d | .nx _=>.ok .cM | .ex c p _=>.ex c p|_=>.bad:=by
   unfold dO bW
   show(match(bG _ _ [some (iL ns),some (.int most),none,none,none,none,none,none,none])with | .rt d=>R.ok d | .nx _=>.ok .cM | .ex c p _=>.ex c p|_=>.bad)=_
   rw[aS f1,aS f2,aS e3,aS f4,aS f5,aS f6,e]
  rw[e0]
 by_cases hL:L=[]
 refine fin [(dn,ac)] ⟨by simp,by simpa using hm,by simp[b7],fun x hx=>?_,?_⟩ ?_;obtain rfl:x=(dn,ac):=by simpa using hx
 unfold inR;dsimp only;lia;refine⟨h.toNat,w.toNat,⟨dn,ac,fun x hx=>?_⟩,sm'⟩;obtain rfl:x=(dn,ac):=by simpa using hx
 dsimp only;lia;subst hL;have g1:Dm.dJ (aV (k7 false) (bD jz (af (ah 7) az)) (dC (.int 0)))
  (cF 7 (cX 100 (af (bQ 100 (af (b8 (ah 5)) (af (b8 (ah 6)) az))) az)))
  cy [some (iL ns),some (.int most),some (.int c),some (.int h),some (.int w),some (.int dn),some (.int ac),some (aJ []),y'] = .nx [some (iL ns),some (.int most),some (.int c),some (.int h),some (.int w),some (.int dn),some (.int ac),some (aJ [(dn,ac)]),y']:=by simp[nv,cD]
 rw[aS g1];have:(([(dn,ac)]:List Cell).map cD).take most=([(dn,ac)]:List Cell).map cD:=sZ (by simpa using hm);simp[Lw,mz,xZ,this];simp[cD,gw,dB];exact this;refine fin (L.take most) ⟨?_,by simp;lia,up.sublist (Mf _ _),fun x hx=>S4 x (nU hx),⟨h.toNat,w.toNat,⟨dn,ac,fun x hx=>hbx x (nU hx)⟩,sm'⟩⟩ ?_;cases hc:L with
 | nil=>exact aY1 hc hL
 | cons x r=>simp;lia
 have hL0:¬ (L.length:Int)=0:=by intro z;exact hL (nV.mp (by lia))
 have g1:Dm.dJ (aV (k7 false) (bD jz (af (ah 7) az)) (dC (.int 0)))
  (cF 7 (cX 100 (af (bQ 100 (af (b8 (ah 5)) (af (b8 (ah 6)) az))) az)))
  cy [some (iL ns),some (.int most),some (.int c),some (.int h),some (.int w),some (.int dn),some (.int ac),some (aJ L),y'] = .nx [some (iL ns),some (.int most),some (.int c),some (.int h),some (.int w),some (.int dn),some (.int ac),some (aJ L),y']:=by simp[nv,hL]
 rw[aS g1];simp[Lw,mz,xZ]
end Pk
namespace Pk
open L2 Dm
variable (t:jb)
def Vd(c m:Int)(k:Nat):Bool:=match bh t [.int c,.int k,.int m]with | .ok (.int r)=>decide (0<r)|_=>false
def R4(c:Int){l:List Cell}(h1:1<=l.length)(h2:l.length<=500):∃p,fM t [.int c,aJ l] = .ok (aJ p)/\p.Sublist l:=by
 obtain⟨r,r0,r1,hr⟩:=pY t c 40 4 (by decide);have f1:cF 2 (bD (bh t) (af (ah 0) (af (dC (.int 40)) (af (dC (.int 4)) az)))) [some (.int c),some (aJ l),none,none] = .nx [some (.int c),some (aJ l),some (.int r),none]:=by simp[hr]
 by_cases hz:r=0;subst hz;obtain⟨g,g0,g1,hg⟩:=pY t c 41 l.length (by lia);obtain⟨n,rfl⟩:=w5 g0;have hn:n<l.length:=by lia
 refine⟨l.take n++l.drop (n+1),?_,by rw[<- Mv];exact List.eraseIdx_sublist l n⟩;unfold fM;refine dm [some (.int c),some (aJ l),none,none] ?_;rw[aS f1];refine HE ?_;rw[BX (by simp[nv])];have f2:cF 3 (bD (bh t) (af (ah 0) (af (dC (.int 41)) (af (bD jz (af (ah 1) az)) az)))) [some (.int c),some (aJ l),some (.int 0),none] = .nx [some (.int c),some (aJ l),some (.int 0),some (.int (n:Int))]:=by simp[hg]
 rw[aS f2];refine gy (iM (a:=aJ (l.take n)) (b:=aJ (l.drop (n+1))) (az9 rfl rfl) (V0 rfl rfl) (HF ?_));simp;lia;obtain⟨m,hm,hix⟩:∃m:Int,0<m/\eF (.lst [.int 0,.int 2,.int 3,.int 4]) (.int r) = .ok (.int m):=by
  have:r=1\/r=2\/r=3:=by lia
  rcases this with rfl|rfl|rfl;exact⟨2,by decide,rfl⟩;exact⟨3,by decide,rfl⟩;exact⟨4,by decide,rfl⟩
 refine⟨(l.zipIdx.filter fun x=>Vd t c m x.2).map (·.1),?_,?_⟩;unfold fM;refine dm [some (.int c),some (aJ l),none,none] ?_;rw[aS f1,aS (st':=[some (.int c),some (aJ l),some (.int r),none]) (by rw[nB (by simp[nv,hz])];rfl)];refine gy ?_;show _=R.ok (D.lst (List.map cD (List.map _ _)));rw[d9];refine k8 (ds:=l.zipIdx.map fun p=>.tup [.int (p.2:Nat),cD p.1]) ?_ (by simp;lia) ?_;simp[Dv,J3];refine jC (S:=fun x=>[some (.int (x.2:Nat)),some (cD x.1),some (.int c),some (.int r)]) (P:=fun st=>∃y z,st=[y,z,some (.int c),some (.int r)]) l.zipIdx (fun x _=>⟨_,_,rfl⟩) (fun x _ st ⟨y,z,e⟩=>by subst e;rfl) (fun x _=>?_) (fun x _ _=>by simp) _ ⟨none,none,rfl⟩;obtain⟨v,v0,v1,hv⟩:=pY t c x.2 m hm;have e:Vd t c m x.2=decide (0<v):=by unfold Vd;rw[hv]
 simp[hix,hv,e];have:=(mW (p:=fun x:Cell×Nat=>Vd t c m x.2) (l:=l.zipIdx)).map Prod.fst;rwa [FE]at this
def bK(aa aq:List Cell):Prop:=b7 aq/\∀c∈aq,c∈aa
def kQ{aa aq:List Cell}(hl:aq.length<=50):(bK aa aq->cI t [.bJ 0 (aa.map cD),aJ aq] = .ok .cM)/\(¬ bK aa aq->cI t [.bJ 0 (aa.map cD),aJ aq] = .ex t.eV none):=by
 obtain⟨r1,r2⟩:=Eb t hl;have loop:=J2 (bind:=cR 2) (F:=Dm.dJ (aV (jG true) (ah 2) (rO dR (ah 0))) (gP t.eV) cy) (f:=cD) (Q:=fun st=>∃y,st=[some (.bJ 0 (aa.map cD)),some (aJ aq),y]) (p:=fun c=>c∈aa) (S:=fun o=>∃s,o = .ex t.eV none s) (fun o ⟨s,e⟩=>by subst e;trivial) aq [some (.bJ 0 (aa.map cD)),some (aJ aq),none] (fun c _ st ⟨y,e⟩=>by
  subst e;refine⟨[some (.bJ 0 (aa.map cD)),some (aJ aq),some (cD c)],rfl,fun h=>⟨_,?_,some (cD c),rfl⟩,fun h=>⟨[some (.bJ 0 (aa.map cD)),some (aJ aq),some (cD c)],?_⟩⟩;rw[nB (by simp[fB,h])];rfl;rw[BX (by simp[fB,h])];rfl) ⟨none,rfl⟩
 have key:∀o:Out,(bG (Dm.dJ (tX (bD (f7 t) (af (ah 1) az))) (gP t.eV) cy) (fm (fV (ah 1)) (cR 2) (Dm.dJ (aV (jG true) (ah 2) (rO dR (ah 0))) (gP t.eV) cy))) [some (.bJ 0 (aa.map cD)),some (aJ aq),none]=o->cI t [.bJ 0 (aa.map cD),aJ aq]=match o with | .rt d=>.ok d | .nx _=>.ok .cM | .ex c p _=>.ex c p|_=>.bad:=fun o h=>by unfold cI bW;subst h;rfl
 by_cases hr:b7 aq;have s1:Dm.dJ (tX (bD (f7 t) (af (ah 1) az))) (gP t.eV) cy [some (.bJ 0 (aa.map cD)),some (aJ aq),none] = .nx [some (.bJ 0 (aa.map cD)),some (aJ aq),none]:=by simp[r1 hr]
 rw[aS s1]at key;refine⟨fun h=>?_,fun h=>?_⟩;obtain⟨st',h1,_⟩:=loop.1 h.2;exact key (.nx st') (by simp[h1]);obtain⟨s,h1⟩:=loop.2 fun z=>h ⟨hr,z⟩;exact key (.ex t.eV none s) (by simp[h1]);refine⟨fun h=>aY1 h.1 hr,fun _=>key (.ex t.eV none [some (.bJ 0 (aa.map cD)),some (aJ aq),none]) (Zx ?_)⟩;simp[r2 hr]
def bK.sub{aa aq:List Cell}(h:b7 aa)(hs:aq.Sublist aa):bK aa aq:=⟨h.sublist hs,fun c hc=>hs.subset hc⟩
def Ve{l:List Cell}(d:Drawn l 24):qC (cB t) [aJ l] = .ok (.bJ 0 (l.map cD)):=by
 have h:=(V8 t (l:=l) (by have:=d.le;lia)).1 ⟨⟨d.pos,d.le⟩,d.up,d.inr⟩;simp[qC,h]
def Drawn.mono{l:List Cell}{m n:Nat}(d:Drawn l m)(h:m<=n):Drawn l n:=⟨d.pos,cj d.le h,d.up,d.inr,d.box⟩
end Pk
namespace Pk
open L2 Dm
abbrev bB(aa:List Cell):D:=.bJ 0 (aa.map cD)
variable (t:jb)
@[simp] theorem aW8 (x:Int):oS (.int x) (.int 2) = .ok (.int (x / 2)):=E4 (by decide) (by decide)
theorem vm(f:Cell->List bC)(k:Nat):∀l:List Cell,(∀a∈l,(f a).length<=k)->(l.flatMap f).length<=l.length*k
 | [],_=>by simp
 | a::l,h=>by
  rw[qj,bU,cK,Mc];have:=vm f k l fun x hx=>h x (.tail _ hx);have:=h a (.head _);lia
def R5{bind:DB}{F:DS}{S:List bC->Option D->gM}{a:Cell}{p:Cell->Bool}(xs:List Cell)(acc:List bC)(y:Option D)(hl:acc.length+xs.length<=5000)
  (hb:∀acc y b,bind (cD b) (S acc y)=some (S acc (some (cD b)))) (hF:∀acc b,b∈xs->acc.length<=5000->∃y,F (S acc (some (cD b))) = .nx (S (acc++if p b=true then [(a,b)]else []) y)) :
  ∃y',fS bind F (xs.map cD) (S acc y) = .nx (S (acc++(xs.filter p).map fun b=>(a,b)) y'):=by
 obtain⟨st',h1,y',h2,_⟩:=jj (bind:=bind) (F:=F) (f:=cD) (Q:=fun pre st=>∃y,st=S (acc++(pre.filter p).map fun b=>(a,b)) y/\pre.length<=xs.length) xs [] (S acc y) (fun q x r e st ⟨y,hy,hq⟩=>by
  subst hy;rw[dw]at e;have hlen:q.length+1<=xs.length:=by rw[e];simp
  have hf:(q.filter p).length<=q.length:=oh ..;obtain⟨y2,h2⟩:=hF (acc++(q.filter p).map fun b=>(a,b)) x (by rw[e];simp) (by simp;lia);refine⟨_,_,hb _ _ _,h2,y2,?_,by simpa using hlen⟩;rw[FF,gu,<- f9];cases hp:p x <;> simp[hp]) ⟨y,by simp,by simp⟩
 exact⟨y',by rw[h1,h2,dw]⟩
def HL(p:bC):bN t [lD p] = .ok (cD (mid p.1 p.2)):=by
 simp[bN,bW,mid,cD,lD,eF,CG,RO]
def aA4(i:Int):rV [.int i] = .ok (.int (QX i)):=rfl
def R6{aa:List Cell}(up:b7 aa)(hl:aa.length<=30)(n8:(aK aa).length<64):ja t [aJ aa] = .ok (bO (aK aa)):=by
 have inner:∀(acc:List bC) (a:Cell) (y z:Option D),acc.length<=900->∃y' z',(fm (fV (ah 0)) (cR 3)
   (bG (cF 4 (bD fL (af (cX 100 (af (bD rV (af (aV jW (aV eF (ah 2) (dC (.int 0))) (aV eF (ah 3) (dC (.int 0)))) az)) (af (bD rV (af (aV jW (aV eF (ah 2) (dC (.int 1))) (aV eF (ah 3) (dC (.int 1)))) az)) az))) az)))
   (Dm.dJ (jR (aV (k7 false) (ah 4) (cX 100 (af (dC (.int 0)) (af (dC (.int 2)) az)))) (aV (jG false) (bD (bN t) (af (bQ 100 (af (b8 (ah 2)) (af (b8 (ah 3)) az))) az)) (ah 0)))
   (kY 1 (bQ 100 (af (b8 (ah 2)) (af (b8 (ah 3)) az))))
   cy))) [some (aJ aa),some (bO acc),some (cD a),y,z] = .nx [some (aJ aa),some (bO (acc++(EK aa a).map fun b=>(a,b))),some (cD a),y',z']:=fun acc a y z ha=>by
  obtain⟨st',h1,y',z',h2,_⟩:=jj (bind:=cR 3) (F:=bG (cF 4 (bD fL (af (cX 100 (af (bD rV (af (aV jW (aV eF (ah 2) (dC (.int 0))) (aV eF (ah 3) (dC (.int 0)))) az)) (af (bD rV (af (aV jW (aV eF (ah 2) (dC (.int 1))) (aV eF (ah 3) (dC (.int 1)))) az)) az))) az)))
   (Dm.dJ (jR (aV (k7 false) (ah 4) (cX 100 (af (dC (.int 0)) (af (dC (.int 2)) az)))) (aV (jG false) (bD (bN t) (af (bQ 100 (af (b8 (ah 2)) (af (b8 (ah 3)) az))) az)) (ah 0)))
   (kY 1 (bQ 100 (af (b8 (ah 2)) (af (b8 (ah 3)) az))))
   cy)) (f:=cD) (Q:=fun pre st=>∃y z,st=[some (aJ aa),some (bO (acc++(pre.filter fun b=>ap a b&&decide (mid a b∈aa)).map fun b=>(a,b))),some (cD a),y,z]/\pre.length<=aa.length) aa [] [some (aJ aa),some (bO acc),some (cD a),y,z] (fun q b r e st ⟨y,z,hy,hq⟩=>by
   subst hy
   rw[dw]at e
   have hlen:q.length+1<=aa.length:=by rw[e];simp
   have hf:(q.filter fun b=>ap a b&&decide (mid a b∈aa)).length<=q.length:=oh ..
   obtain⟨u,v,hs,huv⟩:=QW (QX (a.1-b.1)) (QX (a.2-b.2))
   have hap:ap a b=decide (u=0/\v=2):=by
    unfold ap
    rw[om]
    simp only[kB,bV,aX4]
    exact huv.symm
   generalize hA:acc++(q.filter fun b=>ap a b&&decide (mid a b∈aa)).map (fun b=>(a,b))=A
   have lA:A.length<=5000:=by rw[<- hA];simp;lia
   have s1:cF 4 (bD fL (af (cX 100 (af (bD rV (af (aV jW (aV eF (ah 2) (dC (.int 0))) (aV eF (ah 3) (dC (.int 0)))) az)) (af (bD rV (af (aV jW (aV eF (ah 2) (dC (.int 1))) (aV eF (ah 3) (dC (.int 1)))) az)) az))) az)) [some (aJ aa),some (bO A),some (cD a),some (cD b),z] = .nx [some (aJ aa),some (bO A),some (cD a),some (cD b),some (.lst [.int u,.int v])]:=by
    simp[aA4,hs]
   have ge:k7 false (.lst [.int u,.int v]) (.lst [.int 0,.int 2]) = .ok (.bl (decide (u=0/\v=2))):=by
    unfold k7
    rw[aW9 (by simp[flat,cu,dep,jw])]
    simp only[iJ,fD,vX,cP,aX7]
    by_cases h:u=0 <;> by_cases h':v=2 <;> simp[h,h']
   have gb:(bD (bN t) (af (bQ 100 (af (b8 (ah 2)) (af (b8 (ah 3)) az))) az)) [some (aJ aa),some (bO A),some (cD a),some (cD b),some (.lst [.int u,.int v])] = .ok (cD (mid a b)):=by
    have:=HL t (a,b)
    unfold lD at this
    simp[this]
   refine⟨[some (aJ aa),some (bO A),some (cD a),some (cD b),z],[some (aJ aa),some (bO (A++if(ap a b&&decide (mid a b∈aa))=true then [(a,b)]else [])),some (cD a),some (cD b),some (.lst [.int u,.int v])],rfl,?_,some (cD b),some (.lst [.int u,.int v]),?_,by simpa using hlen⟩
   ·rw[aS s1]
    by_cases h1:u=0/\v=2
    ·by_cases h2:mid a b∈aa
     ·rw[BX (kO (iM (a:=.lst [.int u,.int v]) (b:=.lst [.int 0,.int 2]) rfl (by simp) (by rw[ge];simp[h1])) (iM gb rfl (by rw[fB];simp[h2])))]
      rw[hap]
      simp[kY,lA,h1,h2,lD]
     ·rw[nB (kO (iM (a:=.lst [.int u,.int v]) (b:=.lst [.int 0,.int 2]) rfl (by simp) (by rw[ge];simp[h1])) (iM gb rfl (by rw[fB];simp[h2])))]
      simp[h2]
    ·rw[nB (u9 (iM (a:=.lst [.int u,.int v]) (b:=.lst [.int 0,.int 2]) rfl (by simp) (by rw[ge];simp[h1])))]
     rw[hap]
     simp[h1]
   ·rw[<- hA,FF,gu,<- f9]
    cases hp:(ap a b&&decide (mid a b∈aa)) <;> simp[hp]) ⟨y,z,by simp,by simp⟩
  refine⟨y',z',?_⟩
  rw[dw,V7 up]at h2
  subst h2
  simp
  exact h1
 obtain⟨st',h1,y,z,x,h2⟩:=jj (bind:=cR 2) (F:=fm (fV (ah 0)) (cR 3)
   (bG (cF 4 (bD fL (af (cX 100 (af (bD rV (af (aV jW (aV eF (ah 2) (dC (.int 0))) (aV eF (ah 3) (dC (.int 0)))) az)) (af (bD rV (af (aV jW (aV eF (ah 2) (dC (.int 1))) (aV eF (ah 3) (dC (.int 1)))) az)) az))) az)))
   (Dm.dJ (jR (aV (k7 false) (ah 4) (cX 100 (af (dC (.int 0)) (af (dC (.int 2)) az)))) (aV (jG false) (bD (bN t) (af (bQ 100 (af (b8 (ah 2)) (af (b8 (ah 3)) az))) az)) (ah 0)))
   (kY 1 (bQ 100 (af (b8 (ah 2)) (af (b8 (ah 3)) az))))
   cy))) (f:=cD) (Q:=fun pre st=>∃y z x,st=[some (aJ aa),some (bO (pre.flatMap fun a=>(EK aa a).map fun b=>(a,b))),y,z,x]) aa [] [some (aJ aa),some (bO []),none,none,none] (fun q a r e st ⟨y,z,x,hy⟩=>by
  subst hy
  rw[dw]at e
  have hq:q.length<=30:=by rw[e]at hl;simp at hl;lia
  have h4:∀a,((EK aa a).map fun b=>(a,b)).length<=4:=fun a=>by
   rw[bf];exact cj (oh ..) (by simp[four])
  have:=vm (fun a=>(EK aa a).map fun b=>(a,b)) 4 q fun a _=>h4 a
  obtain⟨z',x',h⟩:=inner (q.flatMap fun a=>(EK aa a).map fun b=>(a,b)) a z x (by lia)
  exact⟨_,_,rfl,h,some (cD a),z',x',by rw[nZ];simp⟩) ⟨none,none,none,rfl⟩
 subst h2;unfold ja;refine dm [some (aJ aa),none,none,none,none] ?_;rw[aS (st':=[some (aJ aa),some (bO []),none,none,none]) (by simp),aS (st':=[some (aJ aa),some (bO (aK aa)),y,z,x]) ?_];exact gy (E7 (a:=bO (aK aa)) rfl (QU (E9 up) n8));rw[zT];have:fV (ah 0) [some (aJ aa),some (bO []),none,none,none] = .ok (aa.map cD):=by simp
 rw[this];exact h1
def Drawn.n8{l:List Cell}{m:Nat}(d:Drawn l m):(aK l).length<64:=by
 obtain⟨h,w,b,s⟩:=d.box;have:=La d.up b s;lia
end Pk
namespace Pk
open L2 Dm
variable (t:jb)
def aA5(c:Cell):iH t [cD c] = .ok (aJ (four c)):=by
 simp[iH,bW,four,cD,eF,CG,RO]
def J6(a b:Cell):gQ t [cD a,cD b] = .ok (cD (mid a b)):=by
 simp[gQ,bW,mid,cD,eF,CG,RO]
def C0{aa:List Cell}(hl:aa.length<=200):pF t [bB aa] = .ok (bO (aK aa)):=by
 have inner:∀(acc:List bC) (a:Cell) (y:Option D),acc.length<=900->∃y',(fm (fV (bD (iH t) (af (ah 2) az))) (cR 3)
   (Dm.dJ (jR (aV (jG false) (ah 3) (rO dR (ah 0))) (aV (jG false) (bD (gQ t) (af (ah 2) (af (ah 3) az))) (rO dR (ah 0))))
   (kY 1 (bQ 100 (af (b8 (ah 2)) (af (b8 (ah 3)) az))))
   cy)) [some (bB aa),some (bO acc),some (cD a),y] = .nx [some (bB aa),some (bO (acc++(EK aa a).map fun b=>(a,b))),some (cD a),y']:=fun acc a y ha=>by
  obtain⟨y',h⟩:=R5 (bind:=cR 3) (F:=Dm.dJ (jR (aV (jG false) (ah 3) (rO dR (ah 0))) (aV (jG false) (bD (gQ t) (af (ah 2) (af (ah 3) az))) (rO dR (ah 0))))
   (kY 1 (bQ 100 (af (b8 (ah 2)) (af (b8 (ah 3)) az))))
   cy) (S:=fun acc y=>[some (bB aa),some (bO acc),some (cD a),y]) (a:=a) (p:=fun b=>decide (b∈aa)&&decide (mid a b∈aa)) (four a) acc y (by simp[four];lia) (fun acc y b=>rfl) (fun acc b _ GW=>⟨some (cD b),by
    by_cases h1:b∈aa
    ·by_cases h2:mid a b∈aa
     ·rw[BX (kO (iM (a:=cD b) (b:=aJ aa) rfl (by simp) (by rw[fB];simp[h1])) (iM (a:=cD (mid a b)) (b:=aJ aa) (by simp[J6]) (by simp) (by rw[fB];simp[h2])))]
      simp[kY,GW,h1,h2,lD]
     ·rw[nB (kO (iM (a:=cD b) (b:=aJ aa) rfl (by simp) (by rw[fB];simp[h1])) (iM (a:=cD (mid a b)) (b:=aJ aa) (by simp[J6]) (by simp) (by rw[fB];simp[h2])))]
      simp[h2]
    ·rw[nB (u9 (iM (a:=cD b) (b:=aJ aa) rfl (by simp) (by rw[fB];simp[h1])))]
     simp[h1]⟩)
  exact⟨y',by simp[aA5];exact h⟩
 obtain⟨st',h1,y,z,h2⟩:=jj (bind:=cR 2) (F:=fm (fV (bD (iH t) (af (ah 2) az))) (cR 3)
   (Dm.dJ (jR (aV (jG false) (ah 3) (rO dR (ah 0))) (aV (jG false) (bD (gQ t) (af (ah 2) (af (ah 3) az))) (rO dR (ah 0))))
   (kY 1 (bQ 100 (af (b8 (ah 2)) (af (b8 (ah 3)) az))))
   cy)) (f:=cD) (Q:=fun pre st=>∃y z,st=[some (bB aa),some (bO (pre.flatMap fun a=>(EK aa a).map fun b=>(a,b))),y,z]) aa [] [some (bB aa),some (bO []),none,none] (fun q a r e st ⟨y,z,hy⟩=>by
  subst hy
  rw[dw]at e
  have hq:q.length<=200:=by rw[e]at hl;simp at hl;lia
  have h4:∀a,((EK aa a).map fun b=>(a,b)).length<=4:=fun a=>by
   rw[bf];exact cj (oh ..) (by simp[four])
  have:=vm (fun a=>(EK aa a).map fun b=>(a,b)) 4 q fun a _=>h4 a
  obtain⟨z',h⟩:=inner (q.flatMap fun a=>(EK aa a).map fun b=>(a,b)) a z (by lia)
  exact⟨_,_,rfl,h,some (cD a),z',by rw[nZ];simp⟩) ⟨none,none,rfl⟩
 subst h2;unfold pF;refine dm [some (bB aa),none,none,none] ?_;rw[aS (st':=[some (bB aa),some (bO []),none,none]) (by simp),aS (st':=[some (bB aa),some (bO (aK aa)),y,z]) ?_];rfl;rw[zT];have:fV (rO dR (ah 0)) [some (bB aa),some (bO []),none,none] = .ok (aa.map cD):=by simp
 rw[this];exact h1
end Pk
namespace Dm
open L2 HT
def yc(l:List Cell):List Cell:=(fC (l.map cD)).map toC
def Ec(l:List Cell):fC (l.map cD)=(yc l).map cD:=by
 have hp:=cJ (l.map cD);unfold yc;rw[d9];conv=>lhs;rw[<- As (fC (l.map cD))]
 refine mT fun y hy=>?_;refine aO (aL.mp (hp.mem_iff.mp hy)) fun c _ b9=>?_;obtain rfl:=b9;rfl
def nC(l:List Cell):(yc l).Perm l:=by
 have:=(cJ (l.map cD)).map toC;rw[d9]at this;have e:l.map (toC∘cD)=l:=by
  conv=>rhs;rw[<- As l]
  exact mT fun c _=>toC_cD c
 rw[e]at this;exact this
def R7(l:List Cell):(yc l).Pairwise (fun a b=>¬ uG b a):=by
 have pw:=mq (l.map cD);rw[Ec,Aq]at pw;refine pw.imp fun {a b} h=>?_;rw[QI]at h;simpa using h
def J7{l:List Cell}(h:l.length<64):fL [aJ l] = .ok (aJ (yc l)):=by
 unfold fL;dsimp only;rw[aW9 (QL h),Ec]
def R8(neg:Bool)(a b:Cell):k7 neg (cD a) (cD b) = .ok (.bl (if neg then !decide (a=b)else decide (a=b))):=by
 unfold k7;rw[aW9 (by simp)];simp
def R9{l:List Cell}(h:l.Nodup):b7 (yc l):=ua (nC l) (R7 l) h
def left(aq:List Cell)(p:bC):List Cell:=aq.filter fun c=>!decide (c=p.1) && !decide (c=mid p.1 p.2)
def bL(aq:List Cell)(p:bC):List Cell:=yc (left aq p++[p.2])
def p7:c∈left aq p↔c∈aq/\c≠p.1/\c≠mid p.1 p.2:=by
 unfold left;simp
def jm:c∈bL aq p↔(c∈aq/\c≠p.1/\c≠mid p.1 p.2)\/c=p.2:=by
 unfold bL;rw[(nC _).mem_iff,gh,p7];simp
def su:kP aq p=true↔p.1∈aq/\p.2∉aq/\mid p.1 p.2∈aq:=by
 unfold kP;simp
def zW{p:bC}(up:b7 aq)(h:p.2∉aq):b7 (bL aq p):=by
 refine R9 ?_;rw[vP];refine⟨up.nodup.sublist mW,by simp,fun a ha b hb e=>?_⟩;rw[dQ]at hb;subst hb;subst e;exact h (p7.mp ha).1
def ZJ{p:bC}(h:p.2∈four p.1):mid p.1 p.2≠p.1:=by
 obtain⟨⟨a1,a2⟩,b1,b2⟩:=p;unfold four at h;unfold mid;simp only[bR,fE,aX9,we]at h;intro e;simp only[we]at e;lia
def yd{aq:List Cell}(nd:aq.Nodup)(h:kP aq p=true)(hf:p.2∈four p.1):aq.Perm (p.1::mid p.1 p.2::left aq p):=by
 refine wg (su.mp h) fun h1 h2 h3=>?_;have hne:=ZJ hf;refine(Fy nd ?_).mpr fun c=>?_;rw[iP,iP];refine⟨?_,?_,nd.sublist mW⟩;rw[bR,p7];rintro(e|e);exact hne e.symm;exact e.2.1 rfl;rw[p7];exact fun e=>e.2.2 rfl;rw[bR,bR,p7];by_cases e1:c=p.1;subst e1;simp[h1];by_cases e2:c=mid p.1 p.2;subst e2;simp[h3];simp[e1,e2]
def HM{aq:List Cell}(nd:aq.Nodup)(h:kP aq p=true)(hf:p.2∈four p.1):(bL aq p).length+1=aq.length:=by
 have:=(yd nd h hf).length_eq;have:=(nC (left aq p++[p.2])).length_eq;unfold bL;simp at *;lia
def sA(h:p∈Ca aa aq):p.1∈aa/\p.2∈four p.1/\p.2∈aa/\mid p.1 p.2∈aa/\kP aq p=true:=by
 unfold Ca at h;rw[lZ,qG]at h;exact⟨h.1.1,h.1.2.1,h.1.2.2.1,h.1.2.2.2,h.2⟩
def lF(aa:List Cell):List Cell->List bC->Prop
 | _,[]=>True
 | aq,p::r=>p∈Ca aa aq/\lF aa (bL aq p) r
def dY(aq:List Cell)(row:List bC):List Cell:=row.foldl bL aq
def ud(aq:List Cell)(row:List bC)(p:bC):dY aq (row++[p])=bL (dY aq row) p:=by
 unfold dY;rw[Au];rfl
theorem C1:∀{aq:List Cell} {row:List bC} {p:bC},lF aa aq row->p∈Ca aa (dY aq row)->lF aa aq (row++[p])
 | aq,[],p,_,h=>⟨h,trivial⟩
 | aq,q::r,p,h,hp=>⟨h.1,C1 h.2 hp⟩
def kS(c:Cell):Int:=(c.1+c.2) % 3
def kD(c:Cell):Int:=(c.1-c.2) % 3
def par(f:Cell->Bool)(l:List Cell):Int:=((l.filter f).length:Int) % 2
def f1(c:Cell):Bool:=decide (kS c<2)
def f2(c:Cell):Bool:=decide (0<kS c)
def f3(c:Cell):Bool:=decide (kD c<2)
def f4(c:Cell):Bool:=decide (0<kD c)
def qI(l:List Cell):List Int:=[par f1 l,par f2 l,par f3 l,par f4 l]
def bi(b:Bool):Nat:=if b then 1 else 0
def J8(f:Cell->Bool)(l:List Cell):par f l=((l.countP f:Nat):Int) % 2:=by unfold par;rw[List.countP_eq_length_filter]
def nD{f:Cell->Bool}{aq:List Cell}(nd:aq.Nodup)(h:kP aq p=true)(hf:p.2∈four p.1)(he:(bi (f p.1)+bi (f (mid p.1 p.2))+bi (f p.2))=2):par f (bL aq p)=par f aq:=by
 have e1:=(yd nd h hf).countP_eq f;have e2:=(nC (left aq p++[p.2])).countP_eq f;rw[J8,J8];unfold bL;simp only[e2,e1,List.countP_append,vN,List.countP_nil];unfold bi at he;lia
def Vf(P:Prop)[Decidable P]:bi (decide P)=if P then 1 else 0:=by unfold bi;simp
def Ra(c:Cell):bi (f1 c)=if(c.1+c.2) % 3<2 then 1 else 0:=Vf _
def Rb(c:Cell):bi (f2 c)=if 0<(c.1+c.2) % 3 then 1 else 0:=Vf _
def Rc(c:Cell):bi (f3 c)=if(c.1-c.2) % 3<2 then 1 else 0:=Vf _
def Rf(c:Cell):bi (f4 c)=if 0<(c.1-c.2) % 3 then 1 else 0:=Vf _
def Rg(s e:Int)(h:e=1\/e = -1):(if s % 3<2 then 1 else 0)+(if(s+e) % 3<2 then 1 else 0)+(if(s+2*e) % 3<2 then 1 else 0)=2:=by
 have h3:s % 3=0\/s % 3=1\/s % 3=2:=by lia
 rcases h with rfl|rfl <;> rcases h3 with h|h|h;rw[h,aW9 (by decide),aW9 (by lia),aX0 (by lia)];rw[h,aW9 (by decide),aX0 (by lia),aW9 (by lia)];rw[h,aX0 (by decide),aW9 (by lia),aW9 (by lia)];rw[h,aW9 (by decide),aX0 (by lia),aW9 (by lia)];rw[h,aW9 (by decide),aW9 (by lia),aX0 (by lia)];rw[h,aX0 (by decide),aW9 (by lia),aW9 (by lia)]
def Rh(s e:Int)(h:e=1\/e = -1):(if 0<s % 3 then 1 else 0)+(if 0<(s+e) % 3 then 1 else 0)+(if 0<(s+2*e) % 3 then 1 else 0)=2:=by
 have h3:s % 3=0\/s % 3=1\/s % 3=2:=by lia
 rcases h with rfl|rfl <;> rcases h3 with h|h|h;rw[h,aX0 (by decide),aW9 (by lia),aW9 (by lia)];rw[h,aW9 (by decide),aW9 (by lia),aX0 (by lia)];rw[h,aW9 (by decide),aX0 (by lia),aW9 (by lia)];rw[h,aX0 (by decide),aW9 (by lia),aW9 (by lia)];rw[h,aW9 (by decide),aX0 (by lia),aW9 (by lia)];rw[h,aW9 (by decide),aW9 (by lia),aX0 (by lia)]
def Ri{p:bC}(hf:p.2∈four p.1):∃e f:Int,(e=1\/e = -1)/\(f=1\/f = -1)/\(mid p.1 p.2).1+(mid p.1 p.2).2=p.1.1+p.1.2+e/\p.2.1+p.2.2=p.1.1+p.1.2+2*e/\(mid p.1 p.2).1-(mid p.1 p.2).2=p.1.1-p.1.2+f/\p.2.1-p.2.2=p.1.1-p.1.2+2*f:=by
 obtain⟨⟨a1,a2⟩,b1,b2⟩:=p;unfold four at hf;unfold mid;simp only[bR,fE,aX9,we]at hf ⊢;rcases hf with⟨rfl,rfl⟩|⟨rfl,rfl⟩|⟨rfl,rfl⟩|⟨rfl,rfl⟩;exact⟨-1,-1,.inr rfl,.inr rfl,by lia,by lia,by lia,by lia⟩;exact⟨-1,1,.inr rfl,.inl rfl,by lia,by lia,by lia,by lia⟩;exact⟨1,-1,.inl rfl,.inr rfl,by lia,by lia,by lia,by lia⟩;exact⟨1,1,.inl rfl,.inl rfl,by lia,by lia,by lia,by lia⟩
def HN{aq:List Cell}(nd:aq.Nodup)(h:kP aq p=true)(hf:p.2∈four p.1):qI (bL aq p)=qI aq:=by
 refine af0 (Ri hf) fun e f he hf' s1 s2 d1 d2=>?_;unfold qI;rw[nD nd h hf (f:=f1) (by rw[Ra,Ra,Ra,s1,s2];exact Rg _ e he),nD nd h hf (f:=f2) (by rw[Rb,Rb,Rb,s1,s2];exact Rh _ e he),
  nD nd h hf (f:=f3) (by rw[Rc,Rc,Rc,d1,d2];exact Rg _ f hf'),nD nd h hf (f:=f4) (by rw[Rf,Rf,Rf,d1,d2];exact Rh _ f hf')]
theorem jD:∀{row:List bC} {aq:List Cell},b7 aq->(∀c∈aq,c∈aa)->lF aa aq row->b7 (dY aq row)/\(∀c∈dY aq row,c∈aa)/\qI (dY aq row)=qI aq/\(dY aq row).length+row.length=aq.length
 | [],aq,u,s,_=>⟨u,s,rfl,rfl⟩
 | p::r,aq,u,s,h=>by
  refine S5 (sA h.1) fun m1 m2 m3 m4 m5=>?_;have c1:=HN u.nodup m5 m2;have l1:=HM u.nodup m5 m2;obtain⟨i1,i2,i3,i4⟩:=jD (row:=r) (aq:=bL aq p) (zW u (su.mp m5).2.1) (fun c hc=>by
   rcases jm.mp hc with h|h;exact s c h.1;rw[h];exact m3) h.2
  refine⟨i1,i2,i3.trans c1,?_⟩;rw[cK,<- l1,<- i4];show(dY (bL aq p) r).length+(r.length+1)=(dY (bL aq p) r).length+r.length+1;lia
def tI(l:List Int):D:=.tup (l.map D.int)
def Lb(l:List Cell):D:=tI (qI l)
theorem Ed:∀a b:List Int,fD (a.map D.int) (b.map D.int)=decide (a=b)
 | [],[]=>by simp[fD]
 | [],_::_=>by simp[fD]
 | _::_,[]=>by simp[fD]
 | x::a,y::b=>by
  rw[aW,aW,fD,Ed a b,iJ];by_cases h:x=y <;> by_cases h':a=b <;> simp[h,h']
def zZ:∀a:List Int,cu (a.map D.int)=true:=fun a=>jx fun d hd=>by obtain⟨c,_,rfl⟩:=aL.mp hd;simp[flat]
def Ef:∀a:List Int,jw (a.map D.int)<=0:=fun a=>rA fun d hd=>by obtain⟨c,_,rfl⟩:=aL.mp hd;simp[dep]
def ZK(neg:Bool)(a b:List Int):k7 neg (tI a) (tI b) = .ok (.bl (if neg then !decide (a=b)else decide (a=b))):=by
 unfold k7 tI;have h:=Ef a;rw[aW9];simp[iJ,Ed];simp[flat,dep,zZ];lia
def ZL(neg:Bool)(x:Int)(l:List Int):jG neg (.int x) (tI l) = .ok (.bl (if neg then !decide (x∈l)else decide (x∈l))):=by
 unfold jG tI;have h:=Ef l;dsimp only;rw[aW9 (by simp[flat,zZ];lia)];have e:(l.map D.int).any (fun e=>iJ e (.int x))=decide (x∈l):=by
  clear h;induction l with
  | nil=>rfl
  | cons y l ih=>rw[aW,nY,ih,iJ];by_cases hx:y=x;simp[hx];have:¬ x=y:=fun z=>hx z.symm;simp[hx,this]
 rw[e]
def Rj(neg:Bool)(a b:List Cell):k7 neg (Lb a) (Lb b) = .ok (.bl (if neg then !decide (qI a=qI b)else decide (qI a=qI b))):=ZK neg _ _
def comp_map{α:Type}{bind:DB}{ft fe:DF}{f:α->D}{g:α->D}{S:α->gM}{P:gM->Prop}(xs:List α)(hS:∀x∈xs,P (S x))(hb:∀x∈xs,∀st,P st->bind (f x) st=some (S x))(ht:∀x∈xs,ft (S x) = .ok (.bl true))(he:∀x∈xs,fe (S x) = .ok (g x))(st:gM)(h:P st):iD bind ft fe (xs.map f) st = .ok (xs.map g):=by
 have:=jC (p:=fun _=>true) xs hS hb ht (fun x hx _=>he x hx) st h;rw[List.filter_eq_self.mpr fun _ _=>rfl]at this;exact this
end Dm
namespace Pk
open L2 Dm
variable (t:jb)
def J9(aq:List Cell)(k:Cell->Int)(two:List Int)(f:Cell->Bool)(h:∀c,decide (k c∈two)=f c)(hl:aq.length<=5000):kN t [.lst (aq.map fun c=>.int (k c)),tI two] = .ok (.int (par f aq)):=by
 unfold kN;refine dm [some (.lst (aq.map fun c=>.int (k c))),some (tI two)] (gy (iM (a:=.int ((aq.filter f).length:Nat)) (b:=.int 2) ?_ rfl (by unfold par;exact nI (by decide))));refine E7 (a:=.lst ((aq.filter f).map fun c=>.int (k c))) (k8 (ds:=aq.map fun c=>.int (k c)) rfl (by simpa using hl) (jC (S:=fun x=>[some (.int (k x)),some (tI two)]) (P:=fun st=>∃y,st=[y,some (tI two)]) aq (fun x _=>⟨_,rfl⟩) (fun x _ st ⟨y,e⟩=>by subst e;rfl) (fun x _=>?_) (fun x _ _=>by simp) _ ⟨none,rfl⟩)) (by simp);rw[<- h x];exact iM (a:=.int (k x)) (b:=tI two) rfl rfl (by rw[ZL];simp)
def Ja{aa aq:List Cell}(lp:aq.length<=50)(S:bK aa aq):fY t [bB aa,aJ aq] = .ok (Lb aq):=by
 have hc:=(kQ t (aa:=aa) lp).1 S;have o1:=J9 t aq kS [0,1] f1 (fun c=>by unfold f1 kS;rw[om];simp only[bR,fE,aX9,aX4];lia) (by lia);have o2:=J9 t aq kS [1,2] f2 (fun c=>by unfold f2 kS;rw[om];simp only[bR,fE,aX9,aX4];lia) (by lia);have o3:=J9 t aq kD [0,1] f3 (fun c=>by unfold f3 kD;rw[om];simp only[bR,fE,aX9,aX4];lia) (by lia);have o4:=J9 t aq kD [1,2] f4 (fun c=>by unfold f4 kD;rw[om];simp only[bR,fE,aX9,aX4];lia) (by lia);unfold fY;refine dm [some (bB aa),some (aJ aq),none,none] ?_;rw[aS (st':=[some (bB aa),some (aJ aq),none,none]) (by simp[hc])];rw[aS (st':=[some (bB aa),some (aJ aq),some (.lst (aq.map fun c=>.int (kS c))),none]) (gx (k8 (ds:=aq.map cD) rfl (by simp;lia) (comp_map (S:=fun x=>[some (cD x)]) (P:=fun st=>∃y,st=[y]) aq (fun x _=>⟨_,rfl⟩) (fun x _ st ⟨y,e⟩=>by subst e;rfl) (fun x _=>rfl) (fun x _=>iM (a:=.int (x.1+x.2)) (b:=.int 3) (iM (a:=.int x.1) (b:=.int x.2) rfl rfl rfl) rfl (nI (by decide))) _ ⟨none,rfl⟩)))];rw[aS (st':=[some (bB aa),some (aJ aq),some (.lst (aq.map fun c=>.int (kS c))),some (.lst (aq.map fun c=>.int (kD c)))]) (gx (k8 (ds:=aq.map cD) rfl (by simp;lia) (comp_map (S:=fun x=>[some (cD x)]) (P:=fun st=>∃y,st=[y]) aq (fun x _=>⟨_,rfl⟩) (fun x _ st ⟨y,e⟩=>by subst e;rfl) (fun x _=>rfl) (fun x _=>iM (a:=.int (x.1-x.2)) (b:=.int 3) (iM (a:=.int x.1) (b:=.int x.2) rfl rfl rfl) rfl (nI (by decide))) _ ⟨none,rfl⟩)))];refine gy ?_;simp[tI]at o1 o2 o3 o4;simp[o1,o2,o3,o4,Lb,tI,qI]
end Pk
namespace Pk
open L2 Dm
variable (t:jb)
def Vg{aa aq:List Cell}(up:b7 aa)(hl:aa.length<=30)(n8:(aK aa).length<64):iI t [aJ aa,aJ aq] = .ok (bO (Ca aa aq)):=by
 have hL:=R6 t up hl n8;obtain⟨st',h1,y,z,h2,_⟩:=jj (bind:=eZ 3 4) (F:=Dm.dJ (jR (aV (jG false) (ah 3) (ah 1)) (jR (aV (jG false) (bD (bN t) (af (bQ 100 (af (b8 (ah 3)) (af (b8 (ah 4)) az))) az)) (ah 1)) (aV (jG true) (ah 4) (ah 1))))
   (kY 2 (bQ 100 (af (b8 (ah 3)) (af (b8 (ah 4)) az))))
   cy) (f:=lD) (Q:=fun pre st=>∃y z,st=[some (aJ aa),some (aJ aq),some (bO (pre.filter (kP aq))),y,z]/\pre.length<=64) (aK aa) [] [some (aJ aa),some (aJ aq),some (bO []),none,none] (fun q p r e st ⟨y,z,hy,hq⟩=>by
  subst hy
  rw[dw]at e
  have hlen:q.length+1<=64:=by rw[e]at n8;simp at n8;lia
  have hf:(q.filter (kP aq)).length<=q.length:=oh ..
  generalize hA:q.filter (kP aq)=A at hf
  have lA:A.length<=5000:=by lia
  have gb:(bD (bN t) (af (bQ 100 (af (b8 (ah 3)) (af (b8 (ah 4)) az))) az)) [some (aJ aa),some (aJ aq),some (bO A),some (cD p.1),some (cD p.2)] = .ok (cD (mid p.1 p.2)):=by
   have:=HL t p
   unfold lD at this
   simp[this]
  refine⟨[some (aJ aa),some (aJ aq),some (bO A),some (cD p.1),some (cD p.2)],[some (aJ aa),some (aJ aq),some (bO (A++if kP aq p=true then [p]else [])),some (cD p.1),some (cD p.2)],rfl,?_,some (cD p.1),some (cD p.2),?_,by simpa using hlen⟩
  ·unfold kP
   by_cases h1:p.1∈aq
   ·by_cases h3:mid p.1 p.2∈aq
    ·by_cases h2:p.2∈aq
     ·rw[nB (kO (iM (a:=cD p.1) (b:=aJ aq) rfl rfl (by rw[fB];simp[h1])) (kO (iM gb rfl (by rw[fB];simp[h3])) (iM (a:=cD p.2) (b:=aJ aq) rfl rfl (by rw[fB];simp[h2]))))]
      simp[h2]
     ·rw[BX (kO (iM (a:=cD p.1) (b:=aJ aq) rfl rfl (by rw[fB];simp[h1])) (kO (iM gb rfl (by rw[fB];simp[h3])) (iM (a:=cD p.2) (b:=aJ aq) rfl rfl (by rw[fB];simp[h2]))))]
      simp[kY,lA,h1,h2,h3,lD]
    ·rw[nB (kO (iM (a:=cD p.1) (b:=aJ aq) rfl rfl (by rw[fB];simp[h1])) (u9 (iM gb rfl (by rw[fB];simp[h3]))))]
     simp[h3]
   ·rw[nB (u9 (iM (a:=cD p.1) (b:=aJ aq) rfl rfl (by rw[fB];simp[h1])))]
    simp[h1]
  ·rw[<- hA,FF]
   cases hp:kP aq p <;> simp[hp]) ⟨none,none,rfl,by simp⟩
 rw[dw]at h2;subst h2;unfold iI;refine dm [some (aJ aa),some (aJ aq),none,none,none] ?_;rw[aS (st':=[some (aJ aa),some (aJ aq),some (bO []),none,none]) (by simp),aS (st':=[some (aJ aa),some (aJ aq),some (bO (Ca aa aq)),y,z]) ?_];rfl;rw[zT];have:fV (bD (ja t) (af (ah 0) az)) [some (aJ aa),some (aJ aq),some (bO []),none,none] = .ok ((aK aa).map lD):=by simp[hL]
 rw[this];exact h1
end Pk
namespace Pk
open L2 Dm
variable (t:jb)
def Lc{aq:List Cell}(p:bC)(hl:aq.length<=60):iw t [aJ aq,lD p] = .ok (aJ (bL aq p)):=by
 have hb:=HL t p;have g1:(ir (fV (ah 0)) 1 [1] (cR 0) (jR (aV (k7 true) (ah 0) (aV eF (ah 1) (dC (.int 0)))) (aV (k7 true) (ah 0) (bD (bN t) (af (ah 1) az)))) (b8 (ah 0))) [some (aJ aq),some (lD p),none] = .ok (aJ (left aq p)):=by
  refine k8 (ds:=aq.map cD) (by simp) (by simp;lia) ?_;exact jC (S:=fun x=>[some (cD x),some (lD p)]) (P:=fun st=>∃y,st=[y,some (lD p)]) aq (fun x _=>⟨_,rfl⟩) (fun x _ st ⟨y,e⟩=>by subst e;rfl) (fun x _=>by
   by_cases h1:x=p.1;exact(u9 (iM (a:=cD x) (b:=cD p.1) rfl (by simp) (by rw[R8];simp[h1]))).trans (by simp[h1]);exact(kO (iM (a:=cD x) (b:=cD p.1) rfl (by simp) (by rw[R8];simp[h1])) (iM (a:=cD x) (b:=cD (mid p.1 p.2)) rfl (by simp[hb]) (R8 ..))).trans (by simp[h1])) (fun x _ _=>by simp) _ ⟨none,rfl⟩
 have hle:(left aq p).length<=aq.length:=oh ..;unfold iw;refine dm [some (aJ aq),some (lD p),none] ?_;rw[aS (st':=[some (aJ aq),some (lD p),some (aJ (left aq p))]) (gx g1)];refine gy (E7 (a:=aJ (left aq p++[p.2])) (iM (a:=aJ (left aq p)) (b:=aJ [p.2]) rfl (by simp) (HF (by simp;lia))) ?_);exact J7 (by simp;lia)
theorem bK.row{aa aq:List Cell}{row:List bC}(S:bK aa aq)(h:lF aa aq row):bK aa (dY aq row):=by
 obtain⟨h1,h2,_⟩:=jD S.1 S.2 h;exact⟨h1,h2⟩
def ZP{l:List bC}{a:Nat}(h:a<l.length):eF (bO l) (.int (a:Int)) = .ok (lD l[a]):=BY (by rw[cY,dz h];rfl)
def ZQ{aa aq:List Cell}(c:Int){most:Nat}(hm:most<=900)(S:bK aa aq)(lp:aq.length<=50)(up:b7 aa)(hl:aa.length<=30)(n8:(aK aa).length<64) :
  ∃row,lF aa aq row/\row.length<=most/\jB t [aJ aa,aJ aq,.int c,.int most] = .ok (.tup [bO row,aJ (dY aq row)]):=by
 obtain⟨n,n0,n1,hn⟩:=pY t c 60 (most+1) (by lia);obtain⟨n,rfl⟩:=w5 n0;have Xe:qB (af (bD (bh t) (af (ah 2) (af (dC (.int 60)) (af (aV gO (ah 3) (dC (.int 1))) az)))) az) [some (aJ aa),some (aJ aq),some (.int c),some (.int most),some (bO []),some (aJ aq),none,none,none] = .ok ((cU n).map fun i=>.int (i:Nat)):=by
  unfold qB;have:(af (bD (bh t) (af (ah 2) (af (dC (.int 60)) (af (aV gO (ah 3) (dC (.int 1))) az)))) az) [some (aJ aa),some (aJ aq),some (.int c),some (.int most),some (bO []),some (aJ aq),none,none,none] = .ok [.int n]:=by simp[hn]
  rw[this];dsimp only;rw[aW9 (by simp;lia)];rfl
 obtain⟨st',h1,row,x,y,z,ok,lr,h2⟩:=jj (bind:=cR 6) (F:=bG (cF 7 (bD (iI t) (af (ah 0) (af (ah 5) az))))
  (Dm.dJ (aV RW (bD jz (af (ah 7) az)) (dC (.int 0)))
  (bG (cF 8 (b8 (aV eF (ah 7) (bD (bh t) (af (ah 2) (af (aV gO (dC (.int 61)) (ah 6)) (af (bD jz (af (ah 7) az)) az)))))))
  (bG (kY 4 (b8 (ah 8)))
  (cF 5 (bD (iw t) (af (ah 5) (af (ah 8) az))))))
  cy)) (f:=fun i:Nat=>D.int (i:Nat)) (Q:=fun pre st=>∃row x y z,lF aa aq row/\row.length<=pre.length/\st=[some (aJ aa),some (aJ aq),some (.int c),some (.int most),some (bO row),some (aJ (dY aq row)),x,y,z]) (cU n) [] [some (aJ aa),some (aJ aq),some (.int c),some (.int most),some (bO []),some (aJ aq),none,none,none] (fun q k r e st ⟨row,x,y,z,ok,lr,hy⟩=>by
  subst hy
  rw[dw]at e
  have hq:q.length<=900:=by
   have:=congrArg List.length e
   simp at this;lia
  have hw:=jD S.1 S.2 ok
  have lw:(dY aq row).length<=50:=by lia
  generalize hW:dY aq row=W at hw lw
  have ho:=Vg t (aq:=W) up hl n8
  generalize hO:Ca aa W=O at ho
  have s1:cF 7 (bD (iI t) (af (ah 0) (af (ah 5) az))) [some (aJ aa),some (aJ aq),some (.int c),some (.int most),some (bO row),some (aJ W),some (.int (k:Nat)),y,z] = .nx [some (aJ aa),some (aJ aq),some (.int c),some (.int most),some (bO row),some (aJ W),some (.int (k:Nat)),some (bO O),z]:=by simp[ho]
  by_cases hO0:0<O.length
  ·obtain⟨m,m0,m1,hmx⟩:=pY t c (61+k) O.length (by lia)
   obtain⟨m,rfl⟩:=w5 m0
   have yw:m<O.length:=by lia
   have hix:=ZP yw
   have Be:O[m]∈Ca aa W:=by rw[hO];exact t8 yw
   have hbh:=Lc t (aq:=W) O[m] (by lia)
   refine⟨[some (aJ aa),some (aJ aq),some (.int c),some (.int most),some (bO row),some (aJ W),some (.int (k:Nat)),y,z],[some (aJ aa),some (aJ aq),some (.int c),some (.int most),some (bO (row++[O[m]])),some (aJ (bL W O[m])),some (.int (k:Nat)),some (bO O),some (lD O[m])],rfl,?_,row++[O[m]],_,_,_,C1 ok (by rw[hW];exact Be),by simpa using lr,by rw[ud,hW]⟩
   rw[aS s1,BX (by simp;lia)]
   rw[aS (st':=[some (aJ aa),some (aJ aq),some (.int c),some (.int most),some (bO row),some (aJ W),some (.int (k:Nat)),some (bO O),some (lD O[m])]) (gx (az7 (iM (a:=bO O) (b:=.int (m:Int)) rfl (by simpa using hmx) hix) (HJ _)))]
   rw[aS (st':=[some (aJ aa),some (aJ aq),some (.int c),some (.int most),some (bO (row++[O[m]])),some (aJ W),some (.int (k:Nat)),some (bO O),some (lD O[m])]) (by
    have:row.length<=5000:=by lia
    simp[kY,this])]
   exact gx (C9 (a:=aJ W) (b:=lD O[m]) rfl rfl hbh)
  ·refine⟨[some (aJ aa),some (aJ aq),some (.int c),some (.int most),some (bO row),some (aJ W),some (.int (k:Nat)),y,z],[some (aJ aa),some (aJ aq),some (.int c),some (.int most),some (bO row),some (aJ W),some (.int (k:Nat)),some (bO O),z],rfl,?_,row,_,_,_,ok,by simp;lia,by rw[hW]⟩
   rw[aS s1,nB (iM (a:=.int (O.length:Nat)) (b:=.int 0) (by simp) rfl (by rw[aS3,aX2 (by lia)]))];rfl) ⟨[],_,_,_,trivial,by simp,rfl⟩
 subst h2;refine⟨row,ok,by simp at lr;lia,?_⟩;unfold jB;refine dm [some (aJ aa),some (aJ aq),some (.int c),some (.int most),none,none,none,none,none] ?_;rw[aS (st':=[some (aJ aa),some (aJ aq),some (.int c),some (.int most),some (bO []),none,none,none,none]) (by simp),
  aS (st':=[some (aJ aa),some (aJ aq),some (.int c),some (.int most),some (bO []),some (aJ aq),none,none,none]) (by simp),
  aS (by rw[zT,Xe];exact h1)]
 simp
end Pk
namespace Fr
variable {S L:Type}[BEq S][LawfulBEq S]
def ins(d:List (S×List L))(k:S)(v:List L):List (S×List L):=if d.any (·.1==k)then d else d++[(k,v)]
def fP(d:List (S×List L))(X:List (S×List L)):List (S×List L):=X.foldl (fun d p=>ins d p.1 p.2) d
def ext(step:S->List (L×S))(p:S×List L):List (S×List L):=(step p.1).map fun q=>(q.2,p.2++[q.1])
def Vh{t:S}:(ins d k v).any (·.1==t)=(d.any (·.1==t) || k==t):=by
 unfold ins;split;rename_i h;by_cases e:k=t;subst e;rw[h];rfl;simp[e];simp
theorem C2:∀(X d:List (S×List L)) (t:S),(fP d X).any (·.1==t)=(d.any (·.1==t) || X.any (·.1==t))
 | [],d,t=>by simp[fP]
 | p::X,d,t=>by
  show(fP (ins d p.1 p.2) X).any _=_;rw[C2 X,Vh,nY,Bool.or_assoc]
def sC(d X Y:List (S×List L)):fP d (X++Y)=fP (fP d X) Y:=by unfold fP;rw[Au]
theorem Eg:∀(X d:List (S×List L)),(∀p∈X,d.any (·.1==p.1)=true)->fP d X=d
 | [],d,_=>rfl
 | p::X,d,h=>by
  show fP (ins d p.1 p.2) X=d;rw[ins,aW9 (h p (.head _))];exact Eg X d fun q m=>h q (.tail _ m)
theorem C3:∀(X d e:List (S×List L)),(∀p∈d,(ext step p).all (fun q=>e.any (·.1==q.1))=true)->
  ∃d',fP d X=d++d'/\fP e (d'.flatMap (ext step))=fP e (X.flatMap (ext step))
 | [],d,e,_=>⟨[],by simp[fP],rfl⟩
 | p::X,d,e,h=>by
  show ∃d',fP (ins d p.1 p.2) X=d++d'/\_;rw[qj,sC];by_cases k:d.any (·.1==p.1)=true;rw[ins,aW9 k];obtain⟨q,m,hq⟩:=lP.mp k;have hq:=eq_of_beq hq;have hh:=h q m;rw[Eg (ext step p) e];exact C3 X d e h;intro r mr;unfold ext at hh mr;rw[hq]at hh;rw[Mi]at hh;obtain⟨x,mx,rfl⟩:=aL.mp mr;exact(fU.mp hh) x mx;rw[ins,aX0 k];have h':∀q∈d++[(p.1,p.2)],(ext step q).all (fun r=>(fP e (ext step p)).any (·.1==r.1))=true:=by intro q m;rw[fU];intro r mr;rw[C2];rcases gh.mp m with m|m;rw[(fU.mp (h q m)) r mr];rfl;obtain rfl:=dQ.mp m;rw[kB];exact .inr (lP.mpr ⟨r,mr,aY0 _⟩)
  obtain⟨d',e1,e2⟩:=C3 X (d++[(p.1,p.2)]) (fP e (ext step p)) h';refine⟨(p.1,p.2)::d',by rw[e1,f9];rfl,?_⟩;rw[qj,sC];exact e2
def Rk(X:List (S×List L)):fP [] ((fP [] X).flatMap (ext step))=fP [] (X.flatMap (ext step)):=by
 obtain⟨d',e1,e2⟩:=C3 X [] [] (step:=step) (fun _ m=>nomatch m);rw[e1];exact e2
def rows(step:S->List (L×S)):Nat->S->List (S×List L)
 | 0,s=>[(s,[])]
 | n+1,s=>(step s).flatMap fun q=>(rows step n q.2).map fun r=>(r.1,q.1::r.2)
def iter(step:S->List (L×S)):Nat->List (S×List L)->List (S×List L)
 | 0,X=>X
 | n+1,X=>iter step n (X.flatMap (ext step))
theorem Eh:∀(n:Nat) (X Y:List (S×List L)),iter step n (X++Y)=iter step n X++iter step n Y
 | 0,_,_=>rfl
 | n+1,X,Y=>by rw[iter,iter,iter,nZ,Eh n]
theorem A0(n:Nat)(f:α->List (S×List L)):∀(l:List α),iter step n (l.flatMap f)=l.flatMap fun a=>iter step n (f a)
 | []=>by
  show iter step n []=[]
  induction n with
  | zero=>rfl
  | succ n ih=>rw[iter];exact ih
 | a::l=>by rw[qj,Eh,A0 n f l,qj]
theorem Ei(f:α->β):∀(l:List α),l.map f=l.flatMap fun a=>[f a]
 | []=>rfl
 | a::l=>by rw[aW,qj,<- Ei f l];rfl
theorem A7:∀(n:Nat) (s:S) (pre:List L),iter step n [(s,pre)]=(rows step n s).map fun r=>(r.1,pre++r.2)
 | 0,s,pre=>by simp[iter,rows]
 | n+1,s,pre=>by
  rw[iter,rows,ML,ext];rw[Ei,A0,List.map_flatMap];congr 1;funext q;rw[A7 n];simp
def dD(step:S->List (L×S))(s:S):Nat->List (S×List L)
 | 0=>[(s,[])]
 | n+1=>fP [] ((dD step s n).flatMap (ext step))
theorem Ej:∀(n:Nat) (X:List (S×List L)),iter step (n+1) X=(iter step n X).flatMap (ext step)
 | 0,X=>rfl
 | n+1,X=>by rw[iter,Ej n];rfl
theorem ye(s:S):∀n,dD step s n=fP [] (rows step n s)
 | 0=>rfl
 | n+1=>by
  have e:∀m,rows step m s=iter step m [(s,[])]:=fun m=>by rw[A7];simp
  rw[dD,ye s n,Rk,e n,<- Ej,<- e]
theorem A8(t:S):∀(X:List (S×List L)),X.any (·.1==t)=true->∃r,X.lookup t=some r
 | p::X,h=>by
  rw[mV];by_cases e:t=p.1;subst e;rw[aY0];exact⟨_,rfl⟩;rw[show(t==p.1)=false by simpa using e];rw[nY,show(p.1==t)=false by simpa using dZ e,Az]at h;exact A8 t X h
def yf(step:S->List (L×S))(t:S)(n:Nat)(s:S):(rows step (n+1) s).any (·.1==t)=(step s).any fun q=>(rows step n q.2).any (·.1==t):=by
 rw[rows,List.any_flatMap];congr 1;funext q;rw[Ar];rfl
end Fr
namespace Pk
open L2 Dm
variable (t:jb)
def tS(l:List Cell):D:=.tup (l.map cD)
def ZS(neg:Bool)(c:Cell)(l:List Cell):jG neg (cD c) (tS l) = .ok (.bl (if neg then !decide (c∈l)else decide (c∈l))):=by
 have h:=fB neg c l;unfold jG aJ at h;unfold jG tS;exact h
def Rl{d:D}{aq:List Cell}(hd:d=tS aq\/d=aJ aq)(p:bC):fu t [d,lD p] = .ok (.bl (kP aq p)):=by
 have g:∀neg (c:Cell),jG neg (cD c) d = .ok (.bl (if neg then !decide (c∈aq)else decide (c∈aq))):=fun neg c=>by rcases hd with rfl|rfl;exact ZS neg c aq;exact fB neg c aq
 unfold fu kP;refine dm [some d,some (lD p)] (gy ?_);have g1:=g false p.1;have g2:=g true p.2;have g3:=g false (mid p.1 p.2);by_cases h1:p.1∈aq <;> by_cases h2:p.2∈aq <;> simp[J6,g1,g2,g3,h1,h2]
def ZT(aq:List Cell)(p:bC):fu t [tS aq,lD p] = .ok (.bl (kP aq p)):=Rl t (.inl rfl) p
def Rm(neg:Bool)(x a b:Cell):jG neg (cD x) (.tup [cD a,cD b]) = .ok (.bl (if neg then !(decide (a=x) || decide (b=x))else(decide (a=x) || decide (b=x)))):=by
 unfold jG;dsimp only;rw[aW9 (by simp[cu,jw])];simp
def A9{d:D}{aq:List Cell}(hd:d=tS aq\/d=aJ aq)(p:bC)(hl:aq.length<=60):fz t [d,lD p] = .ok (aJ (bL aq p)):=by
 have hb:=J6 t p.1 p.2;have g1:(ir (iSq (ah 0)) 1 [2] (cR 0) (aV (jG true) (ah 0) (ah 1)) (b8 (ah 0))) [some d,some (lD p),some (.tup [cD p.1,cD (mid p.1 p.2)])] = .ok (aJ (left aq p)):=by
  refine k8 (ds:=aq.map cD) (by rcases hd with rfl|rfl <;> rfl) (by simp;lia) ?_;refine jC (S:=fun x=>[some (cD x),some (.tup [cD p.1,cD (mid p.1 p.2)])]) (P:=fun st=>∃y,st=[y,some (.tup [cD p.1,cD (mid p.1 p.2)])]) aq (fun x _=>⟨_,rfl⟩) (fun x _ st ⟨y,e⟩=>by subst e;rfl) (fun x _=>?_) (fun x _ _=>by simp) _ ⟨none,rfl⟩;refine iM (a:=cD x) (b:=.tup [cD p.1,cD (mid p.1 p.2)]) rfl rfl ?_;rw[Rm];have e1:decide (p.1=x)=decide (x=p.1):=by rw[om];simp[eq_comm]
  have e2:decide (mid p.1 p.2=x)=decide (x=mid p.1 p.2):=by rw[om];simp[eq_comm]
  rw[e1,e2];cases decide (x=p.1) <;> cases decide (x=mid p.1 p.2) <;> rfl
 have hle:(left aq p).length<=aq.length:=oh ..;unfold fz;refine dm [some d,some (lD p),none] ?_;rw[aS (st':=[some d,some (lD p),some (.tup [cD p.1,cD (mid p.1 p.2)])]) (by simp[hb])];refine gy (E7 (a:=aJ (left aq p++[p.2])) (iM (a:=aJ (left aq p)) (b:=aJ [p.2]) g1 (by simp) (HF (by simp;lia))) ?_);exact J7 (by simp;lia)
def Ld{aq:List Cell}(p:bC)(hl:aq.length<=60):fz t [tS aq,lD p] = .ok (aJ (bL aq p)):=A9 t (.inl rfl) p hl
def aP(aa:List Cell)(s:List Cell):List (bC×List Cell):=(Ca aa s).map fun p=>(p,bL s p)
def Rn(aa:List Cell):(aK aa).length<=4*aa.length:=by
 have h4:∀a,((EK aa a).map fun b=>(a,b)).length<=4:=fun a=>by rw[bf];exact cj (oh ..) (by simp[four])
 have:=vm (fun a=>(EK aa a).map fun b=>(a,b)) 4 aa fun a _=>h4 a;unfold aK;lia
def mH(l:List Cell):gW [aJ l] = .ok (tS l):=by
 unfold gW aJ tS;dsimp only;rw[aW9 (eY fun d hd=>by obtain⟨c,_,rfl⟩:=aL.mp hd;unfold cD;simp[gw,dB])]
def Jb{aa s:List Cell}(hl:aa.length<=200)(ls:s.length<=60):dU t [bO (aK aa),tS s] = .ok (.lst ((aP aa s).map fun q=>.tup [lD q.1,tS q.2])):=by
 have e:(aP aa s).map (fun q=>D.tup [lD q.1,tS q.2])=((aK aa).filter (kP s)).map fun p=>D.tup [lD p,tS (bL s p)]:=by unfold aP Ca;rw[d9];rfl
 rw[e];unfold dU;refine dm [some (bO (aK aa)),some (tS s)] (gy (k8 (ds:=(aK aa).map lD) rfl ?_ ?_));rw[bf];have:=Rn aa;lia;exact jC (S:=fun x=>[some (lD x),some (tS s)]) (P:=fun st=>∃y,st=[y,some (tS s)]) (aK aa) (fun x _=>⟨_,rfl⟩) (fun x _ st ⟨y,e⟩=>by subst e;rfl) (fun x _=>by simp[ZT]) (fun x _ _=>by
  have n1:gw (lD x)=true:=by unfold lD cD;simp[gw,dB]
  have n2:∀ds,pH (.tup (lD x::ds))=true:=fun _=>rfl;simp[Ld t x ls,mH,n1,n2]) _ ⟨none,rfl⟩
def kS(s:List Cell):List (List Int):=s.map fun c=>[c.1,c.2]
theorem uf:∀{a b:List Cell},kS a=kS b->a=b
 | [],[],_=>rfl
 | [],_::_,h=>by cases h
 | _::_,[],h=>by cases h
 | x::a,y::b,h=>by
  unfold kS at h;rw[aW,aW]at h;injection h with h1 h2;injection h1 with h3 h4;injection h4 with h5 _;rw[uf (a:=a) (b:=b) h2];obtain⟨x1,x2⟩:=x;obtain⟨y1,y2⟩:=y;dsimp only at h3 h5;rw[h3,h5]
theorem Ek:∀(s:List Cell),lW (s.map cD)=some (kS s)
 | []=>rfl
 | c::s=>by
  rw[aW,lW,Ek s];rfl
def jt(s:List Cell):mE (tS s)=some (kS s):=Ek s
def gf(L:List (List Cell×List bC)):List D:=L.flatMap fun z=>[tS z.1,bO z.2]
def pM(L:List (List Cell×List bC)):List (List (List Int)×D×D):=L.map fun z=>(kS z.1,tS z.1,bO z.2)
theorem mJ:∀(L:List (List Cell×List bC)),dS (gf L)=some (pM L)
 | []=>rfl
 | z::L=>by
  show dS (tS z.1::bO z.2::gf L)=_;rw[dS,jt,mJ L];rfl
def El(L:List (List Cell×List bC))(b:List Cell):((pM L).map (·.1)).any (fun k=>decide (k=kS b))=L.any (·.1==b):=by
 unfold pM;rw[d9,Ar];congr 1;funext z;show decide (kS z.1=kS b)=(z.1==b)
 by_cases h:z.1=b;rw[h];simp;rw[aX2 fun e=>h (uf e)];exact(aX6.mpr h).symm
def Em(neg:Bool)(b:List Cell)(L:List (List Cell×List bC)):pK neg (tS b) (.bJ 2 (gf L)) = .ok (.bl (if neg then !L.any (·.1==b)else L.any (·.1==b))):=by
 simp only[pK,jt,mJ,El]
def kR(L:List (List Cell×List bC)):ez (some (some (.bJ 2 (gf L))))=some (gf L,pM L):=nu rfl (mJ L)
end Pk
namespace Pk
open L2 Dm
def Ro(aa:List Cell)(L:List (List Cell×List bC)):Prop:=(L.map (·.1)).Nodup/\∀z∈L,bK aa z.1
def Bound(aa:List Cell):Prop:=∀L,Ro aa L->L.length<=900
theorem Ro.ins{aa:List Cell}{L:List (List Cell×List bC)}(h:Ro aa L){k:List Cell}{v:List bC}(S:bK aa k):Ro aa (Fr.ins L k v):=by
 unfold Fr.ins;split;exact h;rename_i hn;refine⟨?_,fun z m=>?_⟩;rw[gu,vP];refine⟨h.1,by simp,fun a ha b hb e=>hn ?_⟩;have hb:b=k:=by simpa using hb
 obtain⟨z,hz,rfl⟩:=aL.mp ha;exact lP.mpr ⟨z,hz,by rw[e,hb];exact aY0 _⟩;rcases gh.mp m with m|m;exact h.2 z m;obtain rfl:=dQ.mp m;exact S
def ZV{l m:List bC}(h:l.length+m.length<=5000):pI (bO l) (bO m) = .ok (bO (l++m)):=by
 have n:∀l:List bC,dB (l.map lD)=true:=fun l=>eY fun d hd=>by obtain⟨c,_,rfl⟩:=aL.mp hd;unfold lD cD;simp[gw,dB]
 unfold pI bO;dsimp only;simp[n,h]
def Jc(L M:List (List Cell×List bC)):gf (L++M)=gf L++gf M:=by unfold gf;rw[nZ]
def HP{aa:List Cell}(bd:Bound aa)(a b c:D){row:List bC}(YU:row.length<=900)(qs:List (bC×List Cell))(hq:∀q∈qs,bK aa q.2)(acc:List (List Cell×List bC))(ok:Ro aa acc)(y z:Option D) :
  ∃y' z',fS (eZ 5 6) (Dm.dJ (aV (pK true) (ah 6) (ah 2)) (H8 2 (ah 6) (aV pI (ah 4) (cX 100 (af (b8 (ah 5)) az)))) cy) (qs.map fun q=>D.tup [lD q.1,tS q.2]) [some a,some b,some (.bJ 2 (gf acc)),some c,some (bO row),y,z]=
   .nx [some a,some b,some (.bJ 2 (gf (Fr.fP acc (qs.map fun q=>(q.2,row++[q.1]))))),some c,some (bO row),y',z']/\Ro aa (Fr.fP acc (qs.map fun q=>(q.2,row++[q.1]))):=by
 obtain⟨st',h1,y',z',h2,h3⟩:=jj (bind:=eZ 5 6) (F:=Dm.dJ (aV (pK true) (ah 6) (ah 2)) (H8 2 (ah 6) (aV pI (ah 4) (cX 100 (af (b8 (ah 5)) az)))) cy) (f:=fun q:bC×List Cell=>D.tup [lD q.1,tS q.2])
  (Q:=fun pre st=>∃y z,st=[some a,some b,some (.bJ 2 (gf (Fr.fP acc (pre.map fun q=>(q.2,row++[q.1]))))),some c,some (bO row),y,z]/\Ro aa (Fr.fP acc (pre.map fun q=>(q.2,row++[q.1])))) qs [] [some a,some b,some (.bJ 2 (gf acc)),some c,some (bO row),y,z] (fun p x r e st ⟨y,z,hy,hk⟩=>by
  subst hy
  rw[dw]at e
  have mx:x∈qs:=by rw[e];simp
  refine⟨[some a,some b,some (.bJ 2 (gf (Fr.fP acc (p.map fun q=>(q.2,row++[q.1]))))),some c,some (bO row),some (lD x.1),some (tS x.2)],?_⟩
  generalize hM:Fr.fP acc (p.map fun q=>(q.2,row++[q.1]))=M at hk ⊢
  have Rp:Fr.fP acc ((p++[x]).map fun q=>(q.2,row++[q.1]))=Fr.ins M x.2 (row++[x.1]):=by
   rw[gu,Fr.sC,hM];rfl
  rw[Rp]
  have g:=Em true x.2 M
  have n1:gw (lD x.1)=true:=by unfold lD cD;simp[gw,dB]
  refine⟨[some a,some b,some (.bJ 2 (gf (Fr.ins M x.2 (row++[x.1])))),some c,some (bO row),some (lD x.1),some (tS x.2)],rfl,?_,_,_,rfl,hk.ins (hq x mx)⟩
  cases Rq:M.any (·.1==x.2)with
  | true=>
   rw[Rq]at g
   rw[nB (iM (a:=tS x.2) (b:=.bJ 2 (gf M)) rfl rfl g)]
   unfold Fr.ins
   rw[aW9 Rq];rfl
  | false=>
   rw[Rq]at g
   rw[BX (iM (a:=tS x.2) (b:=.bJ 2 (gf M)) rfl rfl g)]
   have hv:(aV pI (ah 4) (cX 100 (af (b8 (ah 5)) az))) [some a,some b,some (.bJ 2 (gf M)),some c,some (bO row),some (lD x.1),some (tS x.2)] = .ok (bO (row++[x.1])):=
    iM (a:=bO row) (b:=bO [x.1]) rfl (by simp[n1]) (ZV (by simp;lia))
   unfold H8
   rw[hv]
   show(match ez (some (some (.bJ 2 (gf M))))with|some z=>_|none=>_)=_
   rw[kR]
   show Ur 2 _ (gf M,pM M) (tS x.2) (bO (row++[x.1]))=_
   unfold Ur
   rw[jt]
   dsimp only
   rw[aW9 ⟨by unfold pM;rw[bf];have:=bd M hk;lia,by rw[El];exact Rq,rfl⟩]
   unfold Fr.ins
   rw[aX0 (by rw[Rq];decide),Jc]
   rfl) ⟨y,z,rfl,ok⟩
 rw[dw]at h2 h3;subst h2;exact⟨y',z',h1,h3⟩
variable (t:jb)
def kU{aa s:List Cell}(S:bK aa s):∀q∈aP aa s,bK aa q.2:=fun q m=>by
 unfold aP at m;obtain⟨p,hp,rfl⟩:=aL.mp m;exact S.row (row:=[p]) ⟨hp,trivial⟩
def Rt{aa:List Cell}(hl:aa.length<=60)(bd:Bound aa)(L:List (List Cell×List bC))(hS:∀z∈L,bK aa z.1)(h60:∀z∈L,z.1.length<=60)(hr:∀z∈L,z.2.length<=900) :
  jA t [bO (aK aa),.bJ 2 (gf L)] = .ok (.bJ 2 (gf (Fr.fP [] (L.flatMap (Fr.ext (aP aa))))))/\Ro aa (Fr.fP [] (L.flatMap (Fr.ext (aP aa)))):=by
 obtain⟨st',h1,y,z,u,v,h2,h3⟩:=jj (bind:=eZ 3 4) (F:=fm (fV (bD (dU t) (af (ah 0) (af (ah 3) az)))) (eZ 5 6) (Dm.dJ (aV (pK true) (ah 6) (ah 2)) (H8 2 (ah 6) (aV pI (ah 4) (cX 100 (af (b8 (ah 5)) az)))) cy)) (f:=fun z:List Cell×List bC=>D.tup [tS z.1,bO z.2])
  (Q:=fun pre st=>∃y z u v,st=[some (bO (aK aa)),some (.bJ 2 (gf L)),some (.bJ 2 (gf (Fr.fP [] (pre.flatMap (Fr.ext (aP aa)))))),y,z,u,v]/\Ro aa (Fr.fP [] (pre.flatMap (Fr.ext (aP aa))))) L [] [some (bO (aK aa)),some (.bJ 2 (gf L)),some (.bJ 2 (gf [])),none,none,none,none] (fun p x r e st ⟨y,z,u,v,hy,hk⟩=>by
  subst hy
  rw[dw]at e
  have mx:x∈L:=by rw[e];simp
  refine⟨[some (bO (aK aa)),some (.bJ 2 (gf L)),some (.bJ 2 (gf (Fr.fP [] (p.flatMap (Fr.ext (aP aa)))))),some (tS x.1),some (bO x.2),u,v],?_⟩
  have hs:=Jb t (aa:=aa) (s:=x.1) (by lia) (h60 x mx)
  obtain⟨y',z',g1,g2⟩:=HP bd (bO (aK aa)) (.bJ 2 (gf L)) (tS x.1) (hr x mx) (aP aa x.1) (kU (hS x mx)) _ hk u v
  have ee:Fr.fP [] ((p++[x]).flatMap (Fr.ext (aP aa)))=Fr.fP (Fr.fP [] (p.flatMap (Fr.ext (aP aa)))) ((aP aa x.1).map fun q=>(q.2,x.2++[q.1])):=by
   rw[nZ,Fr.sC,ML];rfl
  rw[ee]
  refine⟨_,rfl,?_,some (tS x.1),some (bO x.2),y',z',rfl,g2⟩
  have hi:fV (bD (dU t) (af (ah 0) (af (ah 3) az))) [some (bO (aK aa)),some (.bJ 2 (gf L)),some (.bJ 2 (gf (Fr.fP [] (p.flatMap (Fr.ext (aP aa)))))),some (tS x.1),some (bO x.2),u,v] = .ok ((aP aa x.1).map fun q=>D.tup [lD q.1,tS q.2]):=by
   unfold fV
   rw[C9 (a:=bO (aK aa)) (b:=tS x.1) rfl rfl hs]
  unfold fm
  rw[hi]
  exact g1) ⟨none,none,none,none,rfl,⟨tu,fun z m=>nomatch m⟩⟩
 rw[dw]at h2 h3;subst h2;refine⟨?_,h3⟩;unfold jA;refine dm [some (bO (aK aa)),some (.bJ 2 (gf L)),none,none,none,none,none] ?_;rw[aS (st':=[some (bO (aK aa)),some (.bJ 2 (gf L)),some (.bJ 2 (gf [])),none,none,none,none]) (gx rfl)];have hi:xH (ah 1) [some (bO (aK aa)),some (.bJ 2 (gf L)),some (.bJ 2 (gf [])),none,none,none,none] = .ok (L.map fun z=>D.tup [tS z.1,bO z.2]):=by unfold xH;show(match ez (some (some (.bJ 2 (gf L))))with|some y=>_|none=>_)=_;rw[kR];show R.ok ((pM L).map fun t=>D.tup [t.2.1,t.2.2])=_;unfold pM;rw[d9];rfl
 rw[aS (F:=fm (xH (ah 1)) (eZ 3 4) _) (by unfold fm;rw[hi];exact h1)];exact gy rfl
end Pk
namespace Pk
open L2 Dm
theorem jo:∀{aa s:List Cell},b7 aa->b7 s->(∀c∈s,c∈aa)->s.Sublist aa
 | _,[],_,_,_=>List.nil_sublist _
 | [],a::s,_,_,h=>by cases h a (.head _)
 | x::r,a::s,hc,hs,h=>by
  have uK:=vQ.mp hc;have EF:=vQ.mp hs;by_cases e:a=x;subst e;refine List.Sublist.cons_cons a (jo uK.2 EF.2 fun c m=>?_);rcases bR.mp (h c (.tail _ m))with rfl|m';exact aY1 (EF.1 _ m) (ny _);exact m';have ha:a∈r:=(bR.mp (h a (.head _))).resolve_left e;refine List.Sublist.cons x (jo uK.2 hs fun c m=>?_);rcases bR.mp (h c m)with rfl|m';rcases bR.mp m with z|m2;exact aY1 z.symm e;exact aY1 (zU (uK.1 _ ha) (EF.1 _ m2)) (ny _);exact m'
def subs:List Cell->List (List Cell)
 | []=>[[]]
 | c::l=>(subs l).map (c :: ·)++subs l
theorem yg:∀l,(subs l).length=2 ^ l.length
 | []=>rfl
 | c::l=>by rw[subs,bU,bf,yg l,cK,LY];lia
theorem sD:∀{l s:List Cell},s.Sublist l->s∈subs l
 | _,_,.slnil=>by simp[subs]
 | _,_,.cons c h=>by rw[subs];exact nG _ (sD h)
 | _,_,.cons_cons c h=>by rw[subs];exact HW _ (aL.mpr ⟨_,sD h,rfl⟩)
theorem len_sub:∀{l m:List (List Cell)},l.Nodup->(∀x∈l,x∈m)->l.length<=m.length
 | [],_,_,_=>gI _
 | a::l,m,hn,h=>by
  have wz:=iP.mp hn;have ha:a∈m:=h a (.head _);have:=len_sub (l:=l) (m:=m.erase a) wz.2 fun x hx=>(MH fun e=>wz.1 (by rw[<- e];exact hx)).mpr (h x (.tail _ hx));rw[MJ ha]at this;have pos:0<m.length:=MK ha;rw[cK];lia
def yh{aa:List Cell}(up:b7 aa)(hl:aa.length<=9):Bound aa:=fun L h=>by
 have aT0:∀s∈L.map (·.1),s∈subs aa:=fun s m=>by obtain⟨z,hz,rfl⟩:=aL.mp m;exact sD (jo up (h.2 z hz).1 (h.2 z hz).2)
 have h1:=len_sub h.1 aT0;rw[bf,yg]at h1;have h2:2 ^ aa.length<=2 ^ 9:=Me (by decide) hl;have:(2:Nat) ^ 9=512:=rfl;lia
variable (t:jb)
theorem Jd:∀{X d:List (List Cell×List bC)} {z:List Cell×List bC},z∈Fr.fP d X->z∈d\/z∈X
 | [],d,z,h=>.inl h
 | p::X,d,z,h=>by
  have h:z∈Fr.fP (Fr.ins d p.1 p.2) X:=h;rcases Jd h with h|h;unfold Fr.ins at h;split at h;exact .inl h;rcases gh.mp h with h|h;exact .inl h;obtain rfl:=dQ.mp h;exact .inr (.head _);exact .inr (.tail _ h)
structure aT1(aa aq:List Cell)(n:Nat)(z:List Cell×List bC):Prop where
 st:bK aa z.1
 len:z.1.length+n=aq.length
 row:z.2.length=n
theorem sE{aa aq:List Cell}(S:bK aa aq):∀n,∀z∈Fr.dD (aP aa) aq n,aT1 aa aq n z
 | 0,z,m=>by
  obtain rfl:=dQ.mp (show z∈[(aq,[])]from m);exact⟨S,rfl,rfl⟩
 | n+1,z,m=>by
  rcases Jd (show z∈Fr.fP [] _ from m)with m|m;cases m;obtain⟨w,hw,m⟩:=MG.mp m;have cw:=sE S n w hw;unfold Fr.ext at m;obtain⟨q,hq,rfl⟩:=aL.mp m;have SQ:=hq;unfold aP at SQ;obtain⟨p,hp,rfl⟩:=aL.mp SQ;obtain⟨_,_,_,o4⟩:=jD (row:=[p]) cw.st.1 cw.st.2 ⟨hp,trivial⟩;have o4:(bL w.1 p).length+1=w.1.length:=by simpa[dY]using o4
  exact⟨kU cw.st _ hq,by show(bL w.1 p).length+(n+1)=_;have:=cw.len;lia,by show(w.2++[p]).length=_;rw[bU,cw.row];rfl⟩
theorem Lf(t:jb){aa aq:List Cell}(hl:aa.length<=60)(bd:Bound aa)(S:bK aa aq)(lp:aq.length<=60):∀n,Ro aa (Fr.dD (aP aa) aq n)
 | 0=>⟨by simp[Fr.dD],fun z m=>(sE S 0 z m).st⟩
 | n+1=>(Rt t hl bd (Fr.dD (aP aa) aq n) (fun z m=>(sE S n z m).st) (fun z m=>by have:=(sE S n z m).len;lia) (fun z m=>by have:=(sE S n z m).len;have:=(sE S n z m).row;lia)).2
def jd(aa aq:List Cell):Nat->List (List Cell×List bC)
 | 0=>[]
 | n+1=>jd aa aq n++Fr.dD (aP aa) aq n
theorem yi{aa aq:List Cell}:∀{n:Nat} {z},z∈jd aa aq n->∃k,k<n/\z∈Fr.dD (aP aa) aq k
 | n+1,z,m=>by
  rcases gh.mp (show z∈jd aa aq n++_ from m)with m|m;obtain⟨k,hk,h⟩:=yi m;exact⟨k,by lia,h⟩;exact⟨n,by lia,m⟩
def yj{aa aq:List Cell}(S:bK aa aq){n:Nat}:∀z∈Fr.dD (aP aa) aq n,z.1∉(jd aa aq n).map (·.1):=fun z m h=>by
 obtain⟨w,hw,e⟩:=aL.mp h;obtain⟨k,hk,hw⟩:=yi hw;have h1:=(sE S k w hw).len;have h2:=(sE S n z m).len;have e:w.1=z.1:=e;rw[e]at h1;lia
theorem C4(t:jb){aa aq:List Cell}(hl:aa.length<=60)(bd:Bound aa)(S:bK aa aq)(lp:aq.length<=60):∀n,Ro aa (jd aa aq n)
 | 0=>⟨by simp[jd],fun z m=>nomatch m⟩
 | n+1=>by
  have h1:=C4 t hl bd S lp n;have h2:=Lf t hl bd S lp n;refine⟨?_,fun z m=>?_⟩;show((jd aa aq n++Fr.dD (aP aa) aq n).map (·.1)).Nodup;rw[gu,vP];exact⟨h1.1,h2.1,fun a ha b hb e=>by
   obtain⟨z,hz,rfl⟩:=aL.mp hb;exact yj S z hz (by rw[<- e];exact ha)⟩
  rcases gh.mp (show z∈jd aa aq n++Fr.dD (aP aa) aq n from m)with m|m;exact h1.2 z m;exact h2.2 z m
end Pk
namespace Pk
open L2 Dm
variable (t:jb)
def Lg(L:List (List Cell×List bC)):pW [.bJ 2 (gf L)] = .ok (.int (L.length:Nat)):=by
 simp only[pW,mJ,pM,bf]
def Vi{L M:List (List Cell×List bC)}{st:gM}{i:Nat}{f:DF}(hi:st[i]?=some (some (.bJ 2 (gf L))))(hf:f st = .ok (.bJ 2 (gf M)))(hz:L.length+M.length<=5000)(dis:∀z∈M,z.1∉L.map (·.1))(n8:L=[]->M.length<=1) :
  Kx i f st = .nx (st.set i (some (.bJ 2 (gf (L++M))))):=by
 unfold Kx;rw[hi,kR];dsimp only;rw[hf];dsimp only;rw[kR];dsimp only;rw[aW9,Jc];refine⟨by unfold pM;rw[bf,bf];exact hz,fun k mk hk=>?_,fun e=>?_⟩;unfold pM at mk hk;rw[d9]at mk hk;obtain⟨z,hz,rfl⟩:=aL.mp mk;obtain⟨w,hw,e⟩:=aL.mp hk;exact dis z hz (aL.mpr ⟨w,hw,uf e⟩);unfold pM at e ⊢;rw[bf];exact n8 (MM.mp e)
theorem qJ{aa aq:List Cell}{n:Nat}(h:Fr.dD (aP aa) aq n=[]):∀k,Fr.dD (aP aa) aq (n+k)=[]
 | 0=>h
 | k+1=>by
  show Fr.dD (aP aa) aq (n+k+1)=[]
  rw[Fr.dD,qJ h k];rfl
theorem Aa{aa aq:List Cell}{n:Nat}(h:Fr.dD (aP aa) aq n=[]):∀k,jd aa aq (n+k)=jd aa aq n
 | 0=>rfl
 | k+1=>by
  show jd aa aq (n+k)++Fr.dD (aP aa) aq (n+k)=_;rw[qJ h k,jJ,Aa h k]
def Ru:DF:=aV RW (bD pW (af (ah 4) az)) (dC (.int 0))
def fBody(t:jb):DS:=bG (Kx 3 (ah 4)) (cF 4 (bD (jA t) (af (ah 2) (af (ah 4) az))))
theorem yk(t:jb){aa aq:List Cell}(hl:aa.length<=60)(bd:Bound aa)(S:bK aa aq)(lp:aq.length<=60)(a b:D):∀(k n fuel:Nat),n+k=aq.length+1->k<fuel->
  uO Ru (fBody t) fuel [some a,some b,some (bO (aK aa)),some (.bJ 2 (gf (jd aa aq n))),some (.bJ 2 (gf (Fr.dD (aP aa) aq n)))]=
   .nx [some a,some b,some (bO (aK aa)),some (.bJ 2 (gf (jd aa aq (aq.length+1)))),some (.bJ 2 (gf []))]
 | k,n,0,_,h=>by lia
 | k,n,fuel+1,e,h=>by
  have ht:Ru [some a,some b,some (bO (aK aa)),some (.bJ 2 (gf (jd aa aq n))),some (.bJ 2 (gf (Fr.dD (aP aa) aq n)))] = .ok (.bl (decide ((0:Int)<((Fr.dD (aP aa) aq n).length:Nat)))):=
   iM (a:=.int ((Fr.dD (aP aa) aq n).length:Nat)) (b:=.int 0) (E7 (a:=.bJ 2 (gf (Fr.dD (aP aa) aq n))) rfl (Lg _)) rfl rfl
  rw[uO,ht];cases hL:Fr.dD (aP aa) aq n with
  | nil=>have:=Aa hL k;rw[e]at this;rw[this];rfl
  | cons z0 r0=>
   rw[<- hL];have at6:decide ((0:Int)<((Fr.dD (aP aa) aq n).length:Nat))=true:=by rw[hL];simp
   rw[at6];dsimp only;have hn:n<=aq.length:=by have:=(sE S n z0 (by rw[hL];exact .head _)).len;lia
   cases k with
   | zero=>lia
   | succ k=>
    have kb:=bd _ (C4 t hl bd S lp (n+1));have kb:(jd aa aq n++Fr.dD (aP aa) aq n).length<=900:=kb;rw[bU]at kb;have hnx:=(Rt t hl bd (Fr.dD (aP aa) aq n) (fun z m=>(sE S n z m).st) (fun z m=>by have:=(sE S n z m).len;lia) (fun z m=>by have:=(sE S n z m).len;have:=(sE S n z m).row;lia)).1;have hb:fBody t [some a,some b,some (bO (aK aa)),some (.bJ 2 (gf (jd aa aq n))),some (.bJ 2 (gf (Fr.dD (aP aa) aq n)))] = .nx [some a,some b,some (bO (aK aa)),some (.bJ 2 (gf (jd aa aq (n+1)))),some (.bJ 2 (gf (Fr.dD (aP aa) aq (n+1))))]:=by
     unfold fBody;rw[aS (Vi (i:=3) (f:=ah 4) rfl rfl (by lia) (yj S) (fun z=>by
      cases n with
      | zero=>simp[Fr.dD]
      | succ n=>
       exfalso;have hnn:Fr.dD (aP aa) aq n=[]:=by have:jd aa aq n++Fr.dD (aP aa) aq n=[]:=z;exact(List.append_eq_nil_iff.mp this).2
       have:=qJ hnn 1;rw[hL]at this;cases this))]
     exact gx (C9 (a:=bO (aK aa)) (b:=.bJ 2 (gf (Fr.dD (aP aa) aq n))) rfl rfl hnx)
    rw[hb];dsimp only;exact yk t hl bd S lp a b k (n+1) fuel (by lia) (by lia)
def Rv{aa aq:List Cell}(hl:aa.length<=60)(bd:Bound aa)(S:bK aa aq)(lp:aq.length<=30):j9 t [bB aa,aJ aq] = .ok (.bJ 2 (gf (jd aa aq (aq.length+1)))):=by
 have h:=yk t hl bd S (by lia) (bB aa) (aJ aq) (aq.length+1) 0 40 (by lia) (by lia);have h0:xJ (bD gW (af (ah 1) az)) (cX 100 az) [some (bB aa),some (aJ aq),some (bO (aK aa)),some (.bJ 2 (gf [])),none] = .ok (.bJ 2 (gf [(aq,[])])):=by have h1:(bD gW (af (ah 1) az)) [some (bB aa),some (aJ aq),some (bO (aK aa)),some (.bJ 2 (gf [])),none] = .ok (tS aq):=E7 (a:=aJ aq) rfl (mH _);unfold xJ;rw[h1];dsimp only;rw[show(cX 100 az) [some (bB aa),some (aJ aq),some (bO (aK aa)),some (.bJ 2 (gf [])),none] = .ok (.lst [])from rfl];dsimp only;rw[jt];rfl
 unfold j9;refine dm [some (bB aa),some (aJ aq),none,none,none] ?_;rw[aS (st':=[some (bB aa),some (aJ aq),some (bO (aK aa)),none,none]) (gx (E7 (a:=bB aa) rfl (C0 t (by lia)))),
  aS (st':=[some (bB aa),some (aJ aq),some (bO (aK aa)),some (.bJ 2 (gf [])),none]) (gx rfl),
  aS (st':=[some (bB aa),some (aJ aq),some (bO (aK aa)),some (.bJ 2 (gf [])),some (.bJ 2 (gf [(aq,[])]))]) (gx h0)]
 show bG (uO Ru (fBody t) 40) (eL (ah 3)) [some (bB aa),some (aJ aq),some (bO (aK aa)),some (.bJ 2 (gf (jd aa aq 0))),some (.bJ 2 (gf (Fr.dD (aP aa) aq 0)))]=_;rw[aS h];exact gy rfl
end Pk
namespace Cn
variable {S L:Type}[DecidableEq S]
def N(step:S->List (L×S))(u:S):Nat->S->Int
 | 0,s=>if s=u then 1 else 0
 | n+1,s=>((step s).map fun q=>N step u n q.2).sum
def val(d:List (S×Int))(k:S):Int:=match d.find? (fun z=>decide (z.1=k))with|some z=>z.2|none=>0
def ups(d:List (S×Int))(k:S)(v:Int):List (S×Int):=if d.any (fun z=>decide (z.1=k))=true then d.map (fun z=>(z.1,if z.1=k then v else z.2))else d++[(k,v)]
def add(d:List (S×Int))(k:S)(c:Int):List (S×Int):=ups d k (val d k+c)
def PS(f:S->Int)(d:List (S×Int)):Int:=(d.map fun z=>z.2*f z.1).sum
def lG(f:S->Int)(z:S×Int)(d:List (S×Int)):PS f (z::d)=z.2*f z.1+PS f d:=by simp[PS]
theorem En:∀{d:List (S×Int)},(∀z∈d,z.1≠k)->d.map (fun z=>(z.1,if z.1=k then v else z.2))=d
 | [],_=>rfl
 | z::d,h=>by rw[aW,En fun y m=>h y (.tail _ m),aX0 (h z (.head _))]
def Je{d:List (S×Int)}:d.any (fun z=>decide (z.1=k))=true↔k∈d.map (·.1):=
 ⟨fun h=>let⟨z,m,e⟩:=lP.mp h;aL.mpr ⟨z,m,aX5 e⟩,fun h=>let⟨z,m,e⟩:=aL.mp h;lP.mpr ⟨z,m,aX1 e⟩⟩
def Rw{d:List (S×Int)}(h:k∉d.map (·.1)):val d k=0:=by
 unfold val;rw[MD.mpr fun z m e=>h (aL.mpr ⟨z,m,aX5 e⟩)]
theorem Rx(f:S->Int)(k:S)(v:Int):∀{d:List (S×Int)},(d.map (·.1)).Nodup->PS f (ups d k v)=PS f d+(v-val d k)*f k
 | [],_=>by simp[ups,PS,val]
 | z::d,nd=>by
  rw[aW,iP]at nd;have ih:=Rx f k v nd.2;unfold ups at ih ⊢;by_cases e:z.1=k;have hn:∀y∈d,y.1≠k:=fun y m c=>nd.1 (by rw[e,<- c];exact aL.mpr ⟨y,m,rfl⟩);have hv:val (z::d) k=z.2:=by simp[val,e]
  rw[aW9 (by simp[e]),aW,En hn,aW9 e,lG,lG,hv,e];simp only[Int.sub_mul];omega;have hv:val (z::d) k=val d k:=by simp[val,e]
  rw[hv];by_cases c:d.any (fun z=>decide (z.1=k))=true;rw[aW9 c]at ih;rw[aW9 (by simp[e];simpa using c),aW,aX0 e,lG,lG,ih];simp only;omega;rw[aX0 c]at ih;rw[aX0 (by simp[e];simpa using c),vM,lG,lG,ih];omega
def aa0(f:S->Int)(k:S)(c:Int){d:List (S×Int)}(nd:(d.map (·.1)).Nodup):PS f (add d k c)=PS f d+c*f k:=by
 unfold add;rw[Rx f k _ nd,show val d k+c-val d k=c by omega]
def Eo(d:List (S×Int))(k:S)(v:Int):(ups d k v).map (·.1)=if k∈d.map (·.1)then d.map (·.1)else d.map (·.1)++[k]:=by
 unfold ups;by_cases c:k∈d.map (·.1);rw[aW9 (Je.mpr c),aW9 c,d9];rfl;rw[aX0 (fun z=>c (Je.mp z)),aX0 c,gu];rfl
def Ry{d:List (S×Int)}(nd:(d.map (·.1)).Nodup):((ups d k v).map (·.1)).Nodup:=by
 rw[Eo];split;exact nd;rename_i c;rw[vP];exact⟨nd,by simp,fun a ha b hb e=>by obtain rfl:=dQ.mp hb;subst e;exact c ha⟩
def Vj{s:S}(h:s∈(ups d k v).map (·.1)):s∈d.map (·.1)\/s=k:=by
 rw[Eo]at h;split at h;exact .inl h;rcases gh.mp h with h|h;exact .inl h;exact .inr (dQ.mp h)
theorem Rz:∀{d:List (S×Int)},(d.map (·.1)).Nodup->PS (fun s=>if s=u then 1 else 0) d=val d u
 | [],_=>rfl
 | z::d,nd=>by
  rw[aW,iP]at nd;rw[lG,Rz nd.2];by_cases e:z.1=u;rw[aW9 e,Rw (fun m=>nd.1 (by rw[e];exact m))];simp[val,e];rw[aX0 e];simp[val,e]
def more(c:Int)(acc:List (S×Int))(qs:List (L×S)):List (S×Int):=qs.foldl (fun a q=>add a q.2 c) acc
def next(step:S->List (L×S))(acc d:List (S×Int)):List (S×Int):=d.foldl (fun a z=>more z.2 a (step z.1)) acc
theorem Jf(f:S->Int)(c:Int):∀(qs:List (L×S)) {acc:List (S×Int)},(acc.map (·.1)).Nodup->((more c acc qs).map (·.1)).Nodup/\PS f (more c acc qs)=PS f acc+c*(qs.map fun q=>f q.2).sum
 | [],acc,nd=>⟨nd,by simp[more]⟩
 | q::qs,acc,nd=>by
  obtain⟨h1,h2⟩:=Jf f c qs (acc:=add acc q.2 c) (Ry nd);refine⟨h1,?_⟩;show PS f (more c (add acc q.2 c) qs)=_;rw[h2,aa0 f _ _ nd,aW,tw,Int.mul_add];omega
theorem Jg(step:S->List (L×S))(f:S->Int):∀(d:List (S×Int)) {acc:List (S×Int)},(acc.map (·.1)).Nodup->((next step acc d).map (·.1)).Nodup/\PS f (next step acc d)=PS f acc+PS (fun s=>((step s).map fun q=>f q.2).sum) d
 | [],acc,nd=>⟨nd,by simp[next,PS]⟩
 | z::d,acc,nd=>by
  obtain⟨h1,h2⟩:=Jf f z.2 (step z.1) nd;obtain⟨h3,h4⟩:=Jg step f d h1;refine⟨h3,?_⟩;show PS f (next step (more z.2 acc (step z.1)) d)=_;rw[h4,h2,lG];omega
def lay(step:S->List (L×S))(d:List (S×Int)):Nat->List (S×Int)
 | 0=>d
 | n+1=>next step [] (lay step d n)
theorem RA(step:S->List (L×S))(u:S){d:List (S×Int)}(nd:(d.map (·.1)).Nodup):∀n k,((lay step d n).map (·.1)).Nodup/\PS (N step u k) (lay step d n)=PS (N step u (k+n)) d
 | 0,k=>⟨nd,rfl⟩
 | n+1,k=>by
  have h:=Jg step (N step u k) (lay step d n) (acc:=[]) tu;refine⟨h.1,?_⟩;show PS (N step u k) (next step [] (lay step d n))=_;rw[h.2,show k+(n+1)=k+1+n by omega,<- (RA step u nd n (k+1)).2];simp only[PS,lO,List.sum_nil,Nt];rfl
def Vk(step:S->List (L×S))(s u:S)(n:Nat):val (lay step [(s,1)] n) u=N step u n s:=by
 have h:=RA step u (d:=[(s,(1:Int))]) (by simp) n 0;rw[<- Rz h.1];have e:(fun s=>if s=u then(1:Int)else 0)=N step u 0:=by funext x;rfl
 rw[e,h.2,kq];simp[PS]
theorem Ep(f:α->Int):∀(l:List α),(∀x∈l,f x=0)->(l.map f).sum=0
 | [],_=>rfl
 | x::l,h=>by rw[aW,tw,h x (.head _),Ep f l fun y m=>h y (.tail _ m)];rfl
end Cn
namespace Pk
open L2 Dm
variable (t:jb)
def dN(L:List (List Cell×Int)):List D:=L.flatMap fun z=>[tS z.1,.int z.2]
def RB(L:List (List Cell×Int)):List (List (List Int)×D×D):=L.map fun z=>(kS z.1,tS z.1,.int z.2)
def C5(z:List Cell×Int)(L:List (List Cell×Int)):dN (z::L)=tS z.1 :: .int z.2::dN L:=rfl
theorem Er:∀(L:List (List Cell×Int)),dS (dN L)=some (RB L)
 | []=>rfl
 | z::L=>by rw[C5,dS,jt,Er L];rfl
def HQ{a b:List Cell}:kS a=kS b↔a=b:=⟨uf,fun e=>by rw[e]⟩
def Vl(L:List (List Cell×Int))(b:List Cell):((RB L).map (·.1)).any (fun k=>decide (k=kS b))=L.any (fun z=>decide (z.1=b)):=by
 unfold RB;rw[d9,Ar];congr 1;funext z;simp[HQ]
def ug(L:List (List Cell×Int)):ez (some (some (.bJ 2 (dN L))))=some (dN L,RB L):=nu rfl (Er L)
theorem Es(b:List Cell):∀(L:List (List Cell×Int)),(RB L).find? (fun z=>decide (z.1=kS b))=(L.find? (fun z=>decide (z.1=b))).map fun z=>(kS z.1,tS z.1,.int z.2)
 | []=>rfl
 | z::L=>by
  show((kS z.1,tS z.1,D.int z.2)::RB L).find? _=_;rw[vO,vO];by_cases e:z.1=b;rw[aX1 (HQ.mpr e),aX1 e];rfl;rw[aX2 (fun c=>e (HQ.mp c)),aX2 e];exact Es b L
def aa2(L:List (List Cell×Int))(b:List Cell):Uw (RB L) (kS b) (.int 0) = .int (Cn.val L b):=by
 unfold Uw Cn.val;rw[Es];cases L.find? (fun z=>decide (z.1=b)) <;> rfl
def RC{f1 f2 f3:DF}{st:gM}{L:List (List Cell×Int)}{b:List Cell}(h1:f1 st = .ok (.bJ 2 (dN L)))(h2:f2 st = .ok (tS b))(h3:f3 st = .ok (.int 0)):rY f1 f2 f3 st = .ok (.int (Cn.val L b)):=by
 unfold rY;rw[h1,h2,h3];dsimp only;rw[ug];dsimp only;unfold xK;rw[jt];dsimp only;rw[aa2];rfl
theorem RD(b:List Cell)(v:Int):∀(L:List (List Cell×Int)),KA (kS b) (.int v) (dN L)=dN (L.map fun z=>(z.1,if z.1=b then v else z.2))
 | []=>rfl
 | z::L=>by
  rw[C5,KA,RD b v L,jt,aW,C5];by_cases e:z.1=b;rw[aW9 (by rw[e]),aW9 e];rw[aX0 (fun c=>e (uf (eN c))),aX0 e]
def aa3(L:List (List Cell×Int))(b:List Cell)(v:Int):putD (dN L) (RB L) (kS b) (tS b) (.int v)=dN (Cn.ups L b v):=by
 unfold putD Cn.ups;rw[Vl];split;exact RD b v L;unfold dN;rw[nZ];rfl
def Vm{i:Nat}{fk f:DF}{st:gM}{L:List (List Cell×Int)}{b:List Cell}{v:Int}(hi:st[i]?=some (some (.bJ 2 (dN L))))(hk:fk st = .ok (tS b))(hf:f st = .ok (.int v))(hl:L.length<=5000):uE i fk f st = .nx (st.set i (some (.bJ 2 (dN (Cn.ups L b v))))):=by
 unfold uE;rw[hf,hi];dsimp only;rw[ug,hk];dsimp only;unfold Q5;rw[jt];dsimp only;rw[aW9 ⟨by unfold RB;rw[bf];exact hl,rfl⟩,aa3]
def KN(aa:List Cell)(L:List (List Cell×Int)):Prop:=(L.map (·.1)).Nodup/\∀s∈L.map (·.1),bK aa s
def KN.len{aa:List Cell}(up:b7 aa)(hl:aa.length<=9){L:List (List Cell×Int)}(h:KN aa L):L.length<=4096:=by
 have h1:=len_sub h.1 fun s m=>sD (jo up (h.2 s m).1 (h.2 s m).2);rw[bf,yg]at h1;have h2:2 ^ aa.length<=2 ^ 9:=Me (by decide) hl;have:(2:Nat) ^ 9=512:=rfl;lia
theorem KN.ups{aa:List Cell}{L:List (List Cell×Int)}(h:KN aa L){k:List Cell}{v:Int}(S:bK aa k):KN aa (Cn.ups L k v):=
 ⟨Cn.Ry h.1,fun s m=>by
  rcases Cn.Vj m with m|rfl;exact h.2 s m;exact S⟩
def Lh{aa:List Cell}(up:b7 aa)(hl:aa.length<=9)(a b c:D){n:Int}(qs:List (bC×List Cell))(hq:∀q∈qs,bK aa q.2)(acc:List (List Cell×Int))(ok:KN aa acc)(y z:Option D) :
  ∃y' z',fS (eZ 5 6) (uE 2 (ah 6) (aV gO (rY (ah 2) (ah 6) (dC (.int 0))) (ah 4))) (qs.map fun q=>D.tup [lD q.1,tS q.2]) [some a,some b,some (.bJ 2 (dN acc)),some c,some (.int n),y,z]=
   .nx [some a,some b,some (.bJ 2 (dN (Cn.more n acc qs))),some c,some (.int n),y',z']/\KN aa (Cn.more n acc qs):=by
 obtain⟨st',h1,y',z',h2,h3⟩:=jj (bind:=eZ 5 6) (F:=uE 2 (ah 6) (aV gO (rY (ah 2) (ah 6) (dC (.int 0))) (ah 4))) (f:=fun q:bC×List Cell=>D.tup [lD q.1,tS q.2])
  (Q:=fun pre st=>∃y z,st=[some a,some b,some (.bJ 2 (dN (Cn.more n acc pre))),some c,some (.int n),y,z]/\KN aa (Cn.more n acc pre)) qs [] [some a,some b,some (.bJ 2 (dN acc)),some c,some (.int n),y,z] (fun p x r e st ⟨y,z,hy,hk⟩=>by
  subst hy
  rw[dw]at e
  have mx:x∈qs:=by rw[e];simp
  have Rp:Cn.more n acc (p++[x])=Cn.add (Cn.more n acc p) x.2 n:=by unfold Cn.more;rw[Au];rfl
  rw[Rp]
  generalize Cn.more n acc p=M at hk ⊢
  have lM:=hk.len up hl
  refine⟨[some a,some b,some (.bJ 2 (dN M)),some c,some (.int n),some (lD x.1),some (tS x.2)],[some a,some b,some (.bJ 2 (dN (Cn.add M x.2 n))),some c,some (.int n),some (lD x.1),some (tS x.2)],rfl,?_,_,_,rfl,hk.ups (hq x mx)⟩
  rw[Vm (L:=M) (b:=x.2) (v:=Cn.val M x.2+n) rfl rfl (iM (a:=.int (Cn.val M x.2)) (b:=.int n) (RC (L:=M) (b:=x.2) rfl rfl rfl) rfl rfl) (by lia)]
  rfl) ⟨y,z,rfl,ok⟩
 rw[dw]at h2 h3;subst h2;exact⟨y',z',h1,h3⟩
def gn{aa s:List Cell}(up:b7 aa)(S:bK aa s):s.length<=aa.length:=(jo up S.1 S.2).length_le
def Vn{aa:List Cell}(up:b7 aa)(hl:aa.length<=9){L:List (List Cell×Int)}(hS:KN aa L) :
  iu t [bO (aK aa),.bJ 2 (dN L)] = .ok (.bJ 2 (dN (Cn.next (aP aa) [] L)))/\KN aa (Cn.next (aP aa) [] L):=by
 obtain⟨st',h1,y,z,u,v,h2,h3⟩:=jj (bind:=eZ 3 4) (F:=fm (fV (bD (dU t) (af (ah 0) (af (ah 3) az)))) (eZ 5 6) (uE 2 (ah 6) (aV gO (rY (ah 2) (ah 6) (dC (.int 0))) (ah 4)))) (f:=fun z:List Cell×Int=>D.tup [tS z.1,.int z.2])
  (Q:=fun pre st=>∃y z u v,st=[some (bO (aK aa)),some (.bJ 2 (dN L)),some (.bJ 2 (dN (Cn.next (aP aa) [] pre))),y,z,u,v]/\KN aa (Cn.next (aP aa) [] pre)) L [] [some (bO (aK aa)),some (.bJ 2 (dN L)),some (.bJ 2 (dN [])),none,none,none,none] (fun p x r e st ⟨y,z,u,v,hy,hk⟩=>by
  subst hy
  rw[dw]at e
  have Sx:bK aa x.1:=hS.2 _ (aL.mpr ⟨x,by rw[e];simp,rfl⟩)
  have lx:=gn up Sx
  have hs:=Jb t (aa:=aa) (s:=x.1) (by lia) (by lia)
  obtain⟨y',z',g1,g2⟩:=Lh up hl (bO (aK aa)) (.bJ 2 (dN L)) (tS x.1) (n:=x.2) (aP aa x.1) (kU Sx) _ hk u v
  have ee:Cn.next (aP aa) [] (p++[x])=Cn.more x.2 (Cn.next (aP aa) [] p) (aP aa x.1):=by unfold Cn.next;rw[Au];rfl
  rw[ee]
  refine⟨[some (bO (aK aa)),some (.bJ 2 (dN L)),some (.bJ 2 (dN (Cn.next (aP aa) [] p))),some (tS x.1),some (.int x.2),u,v],_,rfl,?_,some (tS x.1),some (.int x.2),y',z',rfl,g2⟩
  have hi:fV (bD (dU t) (af (ah 0) (af (ah 3) az))) [some (bO (aK aa)),some (.bJ 2 (dN L)),some (.bJ 2 (dN (Cn.next (aP aa) [] p))),some (tS x.1),some (.int x.2),u,v] = .ok ((aP aa x.1).map fun q=>D.tup [lD q.1,tS q.2]):=by
   unfold fV
   rw[C9 (a:=bO (aK aa)) (b:=tS x.1) rfl rfl hs]
  unfold fm
  rw[hi]
  exact g1) ⟨none,none,none,none,rfl,⟨tu,fun z m=>nomatch m⟩⟩
 rw[dw]at h2 h3;subst h2;refine⟨?_,h3⟩;unfold iu;refine dm [some (bO (aK aa)),some (.bJ 2 (dN L)),none,none,none,none,none] ?_;rw[aS (st':=[some (bO (aK aa)),some (.bJ 2 (dN L)),some (.bJ 2 (dN [])),none,none,none,none]) (gx rfl)];have hi:xH (ah 1) [some (bO (aK aa)),some (.bJ 2 (dN L)),some (.bJ 2 (dN [])),none,none,none,none] = .ok (L.map fun z=>D.tup [tS z.1,.int z.2]):=by unfold xH;show(match ez (some (some (.bJ 2 (dN L))))with|some y=>_|none=>_)=_;rw[ug];show R.ok ((RB L).map fun t=>D.tup [t.2.1,t.2.2])=_;unfold RB;rw[d9];rfl
 rw[aS (F:=fm (xH (ah 1)) (eZ 3 4) _) (by unfold fm;rw[hi];exact h1)];exact gy rfl
def vn{aa aq others:List Cell}(up:b7 aa)(hl:aa.length<=9)(S:bK aa aq)(So:bK aa others) :
  dX t [bB aa,aJ aq,aJ others] = .ok (.int (Cn.N (aP aa) others (aq.length-others.length) aq)):=by
 have lp:=gn up S;have lo:=gn up So;have k1:=(kQ t (aa:=aa) (aq:=aq) (by lia)).1 S;have k2:=(kQ t (aa:=aa) (aq:=others) (by lia)).1 So;have kl:=C0 t (aa:=aa) (by lia);unfold dX;refine dm [some (bB aa),some (aJ aq),some (aJ others),none,none,none] ?_;rw[aS (st':=[some (bB aa),some (aJ aq),some (aJ others),none,none,none]) (sj (C9 (a:=bB aa) (b:=aJ aq) rfl rfl k1)),
  aS (st':=[some (bB aa),some (aJ aq),some (aJ others),none,none,none]) (sj (C9 (a:=bB aa) (b:=aJ others) rfl rfl k2)),
  aS (st':=[some (bB aa),some (aJ aq),some (aJ others),some (bO (aK aa)),none,none]) (gx (E7 (a:=bB aa) rfl kl)),
  aS (st':=[some (bB aa),some (aJ aq),some (aJ others),some (bO (aK aa)),some (.bJ 2 (dN [(aq,1)])),none]) (gx (by
   unfold xJ
   rw[E7 (a:=aJ aq) (r:=.ok (tS aq)) rfl (mH aq)]
   show(match mE (tS aq)with|some _=>_|none=>_)=_
   rw[jt];rfl))]
 obtain⟨st',h1,y,h2,h3⟩:=jj (bind:=cR 5) (F:=cF 4 (bD (iu t) (af (ah 3) (af (ah 4) az)))) (f:=fun i:Nat=>D.int (i:Nat))
  (Q:=fun pre st=>∃y,st=[some (bB aa),some (aJ aq),some (aJ others),some (bO (aK aa)),some (.bJ 2 (dN (Cn.lay (aP aa) [(aq,1)] pre.length))),y]/\KN aa (Cn.lay (aP aa) [(aq,1)] pre.length)) (cU (aq.length-others.length)) [] [some (bB aa),some (aJ aq),some (aJ others),some (bO (aK aa)),some (.bJ 2 (dN [(aq,1)])),none] (fun p x r e st ⟨y,hy,hk⟩=>by
  subst hy
  obtain⟨g1,g2⟩:=Vn t up hl hk
  refine⟨[some (bB aa),some (aJ aq),some (aJ others),some (bO (aK aa)),some (.bJ 2 (dN (Cn.lay (aP aa) [(aq,1)] p.length))),some (.int (x:Nat))],_,rfl,gx (C9 (a:=bO (aK aa)) (b:=.bJ 2 (dN (Cn.lay (aP aa) [(aq,1)] p.length))) rfl rfl g1),some (.int (x:Nat)),?_,?_⟩
  ·rw[bU];rfl
  ·rw[bU];exact g2) ⟨none,rfl,iP.mpr ⟨fE,tu⟩,fun s m=>by obtain rfl:=dQ.mp m;exact S⟩
 rw[dw,t7]at h2;subst h2;have hi:qB (af (aV jW (bD jz (af (ah 1) az)) (bD jz (af (ah 2) az))) az) [some (bB aa),some (aJ aq),some (aJ others),some (bO (aK aa)),some (.bJ 2 (dN [(aq,1)])),none] = .ok ((cU (aq.length-others.length)).map fun i:Nat=>D.int (i:Nat)):=by
  have e:(aV jW (bD jz (af (ah 1) az)) (bD jz (af (ah 2) az))) [some (bB aa),some (aJ aq),some (aJ others),some (bO (aK aa)),some (.bJ 2 (dN [(aq,1)])),none] = .ok (.int ((aq.length:Int)-others.length)):=
   iM (a:=.int aq.length) (b:=.int others.length) (E7 (a:=aJ aq) rfl (by unfold aJ;rw[BV,bf])) (E7 (a:=aJ others) rfl (by unfold aJ;rw[BV,bf])) rfl
  unfold qB;simp only[QF,WT,e,R.bind];rw[aW9 (by simp;lia),show((aq.length:Int)-others.length).toNat=aq.length-others.length by lia]
 rw[aS (F:=fm _ _ _) (by unfold fm;rw[hi];exact h1)];refine gy ?_;rw[RC (L:=Cn.lay (aP aa) [(aq,1)] (aq.length-others.length)) (b:=others) rfl (E7 (a:=aJ others) rfl (mH others)) rfl,Cn.Vk]
end Pk
namespace Pk
open L2 Dm
def Vo(F:List (List Cell)):D:=.lst (F.map aJ)
def Li(aa s u:List Cell):Prop:=∃row,lF aa s row/\dY s row=u
theorem qK{aa:List Cell}:∀{row:List bC} {aq:List Cell},lF aa aq row->(Fr.rows (aP aa) row.length aq).any (·.1==dY aq row)=true
 | [],aq,_=>by show([(aq,[])]:List (List Cell×List bC)).any _=true;simp[dY]
 | p::row,aq,h=>by
  rw[cK,Fr.yf,lP];refine⟨(p,bL aq p),?_,?_⟩;unfold aP;exact aL.mpr ⟨p,h.1,rfl⟩;exact qK h.2
theorem Ab:∀{L:List (List Cell×List bC)} {s:List Cell} {r:List bC},L.lookup s=some r->(pM L).find? (fun z=>decide (z.1=kS s))=some (kS s,tS s,bO r)
 | z::L,s,r,h=>by
  rw[mV]at h;show List.find? _ ((kS z.1,tS z.1,bO z.2)::pM L)=_;by_cases e:s=z.1;subst e;rw[aY0]at h;cases h;rw[List.find?_cons_of_pos (by simp)];rw[show(s==z.1)=false by simpa using e]at h;rw[List.find?_cons_of_neg (by simp;exact fun w=>e (uf w).symm)];exact Ab h
def Vp{L:List (List Cell×List bC)}{s:List Cell}{r:List bC}(h:L.lookup s=some r):pX (.bJ 2 (gf L)) (tS s) = .ok (bO r):=by
 simp only[pX,jt,mJ,Ab h];rfl
theorem p8{aa:List Cell}{u:List Cell}:∀{n:Nat} {s:List Cell},(Fr.rows (aP aa) n s).any (·.1==u)=true->Li aa s u
 | 0,s,h=>by
  have:s=u:=by simpa[Fr.rows]using h
  exact⟨[],trivial,this⟩
 | n+1,s,h=>by
  rw[Fr.yf,lP]at h;obtain⟨q,hq,h⟩:=h;unfold aP at hq;obtain⟨p,hp,rfl⟩:=aL.mp hq;obtain⟨row,ok,e⟩:=p8 h;exact⟨p::row,⟨hp,ok⟩,e⟩
variable (t:jb)
theorem Jh:∀{a b:List Cell},a.length=b.length->fH (a.map cD) (b.map cD)=true
 | [],[],_=>rfl
 | [],_::_,h=>by cases h
 | _::_,[],h=>by cases h
 | a::l,b::m,h=>by rw[aW,aW,fH,HG,Jh (by simpa using h)];rfl
theorem RE:∀(l:List Cell),Gz (l.map cD)=true
 | []=>rfl
 | a::l=>by rw[aW,Gz,QK,RE l];rfl
def Vq{F:List (List Cell)}(h:∀s∈F,s.length<=60):UD (F.map aJ)=true:=by
 unfold UD;rw[bV,bV];refine⟨⟨fU.mpr fun a ha=>?_,fU.mpr fun a ha=>fU.mpr fun b hb=>?_⟩,jx fun d hd=>?_⟩;obtain⟨x,hx,rfl⟩:=aL.mp ha;have:=h x hx;exact aX1 (by rw[bf];lia);rw[d9]at ha hb;obtain⟨x,_,rfl⟩:=aL.mp ha;obtain⟨y,_,rfl⟩:=aL.mp hb;have d:=vj x;show(Gz (x.map cD)&&cu (x.map cD)&&decide (jw (x.map cD)<=50)&&(decide (-((x.map cD).length:Int)≠ -((y.map cD).length:Int)) || fH (x.map cD) (y.map cD)))=true;rw[RE,E5,aX1 (by lia:jw (x.map cD)<=50),bf,bf];by_cases e:x.length=y.length;rw[Jh e];simp;rw[aX1 (by lia : -((x.length:Nat):Int)≠ -((y.length:Nat):Int))];rfl;obtain⟨x,_,rfl⟩:=aL.mp hd;unfold aJ;rw[flat];exact E5 x
def RG{l:List β}{m:List α}(h:l.Perm (m.map f)):∃k:List α,k.Perm m/\l=k.map f:=by
 generalize e:m.map f=n at h;induction h generalizing m with
 | nil=>exact⟨[],by rw[MM.mp e],rfl⟩
 | cons x _ ih=>
  cases m with
  | nil=>cases e
  | cons a m=>injection e with e1 e2;obtain⟨k,hk,rfl⟩:=ih e2;exact⟨a::k,hk.cons a,by rw[<- e1];rfl⟩
 | swap x y l=>
  match m,e with
  | a::b::m,e=>injection e with e1 e2;injection e2 with e2 e3;subst e1 e2 e3;exact⟨b::a::m,.swap a b m,rfl⟩
 | trans _ _ i1 i2=>obtain⟨k,hk,rfl⟩:=i2 e;obtain⟨j,hj,rfl⟩:=i1 rfl;exact⟨j,hj.trans hk,rfl⟩
def Lj{F:List (List Cell)}(h:∀s∈F,s.length<=60):∃G,G.Perm F/\qD (Vo F) = .ok (Vo G):=by
 have p:=cJ ((F.map aJ).map BC);rw[d9]at p;obtain⟨k,hk,e⟩:=RG p;refine⟨k,hk,?_⟩;unfold qD Vo;dsimp only;rw[aW9 (Vq h),d9,e,d9];rfl
def Vr{L:List (List Cell×List bC)}(hl:L.length<=5000)(h:∀z∈L,z.1.length<=60):∃G,G.Perm (L.map (·.1))/\iF t [.bJ 2 (gf L)] = .ok (Vo G):=by
 obtain⟨G,hG,e⟩:=Lj (F:=L.map (·.1)) (fun s m=>by obtain⟨z,hz,rfl⟩:=aL.mp m;exact h z hz);refine⟨G,hG,?_⟩;unfold iF;refine dm [some (.bJ 2 (gf L))] (gy (un1 (a:=Vo (L.map (·.1))) ?_ e));unfold Vo;rw[d9];refine k8 (ds:=L.map fun z=>tS z.1) ?_ (by rw[bf];exact hl) ?_;unfold Q8;show(match ez (some (some (.bJ 2 (gf L))))with|some y=>_|none=>_)=_;rw[kR];show R.ok ((pM L).map fun t=>t.2.1)=_;unfold pM;rw[d9];rfl;exact comp_map (S:=fun z=>[some (tS z.1)]) (P:=fun st=>∃y,st=[y]) L (fun x _=>⟨_,rfl⟩) (fun x _ st l6=>by obtain⟨y,e⟩:=l6;subst e;rfl) (fun x _=>rfl) (fun x _=>E7 (a:=tS x.1) rfl (by
  unfold lq tS;dsimp only;rw[aW9 (eY fun d hd=>by obtain⟨c,_,rfl⟩:=aL.mp hd;unfold cD;simp[gw,dB])];rfl)) _ ⟨none,rfl⟩
theorem Ji:∀N,(jd aa aq N).any (·.1==u)=true↔∃n,n<N/\(Fr.rows (aP aa) n aq).any (·.1==u)=true
 | 0=>⟨fun h=>(by cases h),fun pR=>by obtain⟨n,h,_⟩:=pR;lia⟩
 | N+1=>by
  show(jd aa aq N++Fr.dD (aP aa) aq N).any _=true↔_;rw[List.any_append,kB,Ji N,Fr.ye,Fr.C2];show _\/(false || _)=true↔_;rw[Az];constructor;rintro(⟨n,h,e⟩|e);exact⟨n,by lia,e⟩;exact⟨N,by lia,e⟩;rintro⟨n,h,e⟩;by_cases c:n=N;exact .inr (c▸e);exact .inl ⟨n,by lia,e⟩
def Jj(S:bK aa aq):(jd aa aq (aq.length+1)).any (·.1==u)=true↔Li aa aq u:=by
 rw[Ji];refine⟨fun uV=>uV.elim fun n ED=>ED.elim fun _ h=>p8 h,fun Gp=>Gp.elim fun row EE=>EE.elim fun ok e=>⟨row.length,?_,by rw[<- e];exact qK ok⟩⟩;have:=(jD S.1 S.2 ok).2.2.2;lia
theorem Jk(f:α->Int):∀(l:List α),(∀x∈l,0<=f x)->0<=(l.map f).sum/\(0<(l.map f).sum↔∃x∈l,0<f x)
 | [],_=>⟨Int.le_refl _,fun h=>(by simp at h),fun Cu=>Cu.elim fun x Ez=>Ez.elim fun m _=>nomatch m⟩
 | x::l,h=>by
  obtain⟨h1,h2⟩:=Jk f l fun y m=>h y (.tail _ m);have h0:=h x (.head _);rw[aW,tw];refine⟨by lia,fun z=>?_,fun EA=>EA.elim fun y wC=>wC.elim fun m z=>?_⟩;by_cases c:0<f x;exact⟨x,.head _,c⟩;obtain⟨y,m,z⟩:=h2.mp (by lia);exact⟨y,.tail _ m,z⟩;rcases bR.mp m with rfl|m;lia;have:=h2.mpr ⟨y,m,z⟩;lia
theorem Jl:∀(n:Nat) (s:List Cell),0<=Cn.N (aP aa) u n s/\(0<Cn.N (aP aa) u n s↔(Fr.rows (aP aa) n s).any (·.1==u)=true)
 | 0,s=>by
  show 0<=(if s=u then(1:Int)else 0)/\(0<(if s=u then(1:Int)else 0)↔([(s,[])]:List (List Cell×List bC)).any _=true);by_cases e:s=u <;> simp[e]
 | n+1,s=>by
  obtain⟨h1,h2⟩:=Jk (fun q:bC×List Cell=>Cn.N (aP aa) u n q.2) (aP aa s) fun q _=>(Jl n q.2).1;refine⟨h1,h2.trans ?_⟩;rw[Fr.yf,lP];exact⟨fun AU=>AU.elim fun q AV=>AV.elim fun m z=>⟨q,m,(Jl n q.2).2.mp z⟩,fun AW=>AW.elim fun q Gq=>Gq.elim fun m z=>⟨q,m,(Jl n q.2).2.mpr z⟩⟩
def aA6(S:bK aa s):0<Cn.N (aP aa) u (s.length-u.length) s↔Li aa s u:=by
 rw[(Jl _ _).2];refine⟨p8,fun O7=>?_⟩;obtain⟨row,ok,e⟩:=O7;have:=(jD S.1 S.2 ok).2.2.2;rw[e]at this;rw[show s.length-u.length=row.length by lia,<- e];exact qK ok
def Vs(up:b7 aa)(hl:aa.length<=9)(S:bK aa aq):∃G,(∀s,s∈G↔Li aa aq s)/\G.length<=900/\iF t [.bJ 2 (gf (jd aa aq (aq.length+1)))] = .ok (Vo G):=by
 have lp:=gn up S;have k:=C4 t (by lia) (yh up hl) S (by lia) (aq.length+1);have kb:=yh up hl _ k;obtain⟨G,hG,e⟩:=Vr t (L:=jd aa aq (aq.length+1)) (by lia) fun z m=>by have:=gn up (k.2 z m);lia
 refine⟨G,fun s=>?_,by rw[hG.length_eq,bf];exact kb,e⟩;rw[hG.mem_iff,<- Jj S,lP,aL];exact⟨fun O8=>O8.elim fun z O9=>O9.elim fun m e=>⟨z,m,by rw[<- e];exact aY0 _⟩,fun YZ=>YZ.elim fun z Z0=>Z0.elim fun m e=>⟨z,m,eq_of_beq e⟩⟩
theorem Et{u:List Cell}{r:List bC}:∀{L:List (List Cell×List bC)},L.lookup u=some r->(u,r)∈L
 | z::L,h=>by
  rw[mV]at h;by_cases e:u=z.1;subst e;rw[aY0]at h;cases h;exact .head _;rw[show(u==z.1)=false by simpa using e]at h;exact .tail _ (Et h)
def Eu(up:b7 aa)(hl:aa.length<=9)(S:bK aa aq)(Su:bK aa u) :
  ∃(b:Bool) (d:D),(b=true↔Li aa aq u)/\(b=true->∃r:List bC,d=bO r/\u.length+r.length=aq.length)/\oZ t [bB aa,aJ aq,aJ u] = .ok (.tup [.str (if b=true then "leaps"else "never"),d]):=by
 have lp:=gn up S;have lu:=gn up Su;have c1:=(kQ t (aa:=aa) (aq:=aq) (by lia)).1 S;have c2:=(kQ t (aa:=aa) (aq:=u) (by lia)).1 Su;have k1:=Ja t (aa:=aa) (aq:=aq) (by lia) S;have k2:=Ja t (aa:=aa) (aq:=u) (by lia) Su;have hf:=Rv t (by lia) (yh up hl) S (by lia);have kc:∀st,st=[some (bB aa),some (aJ aq),some (aJ u),none]->(aV (k7 true) (bD (fY t) (af (ah 0) (af (ah 1) az))) (bD (fY t) (af (ah 0) (af (ah 2) az)))) st = .ok (.bl (!decide (qI aq=qI u))):=fun st e=>by subst e;exact iM (a:=Lb aq) (b:=Lb u) (C9 (a:=bB aa) (b:=aJ aq) rfl rfl k1) (C9 (a:=bB aa) (b:=aJ u) rfl rfl k2) (by rw[Rj];rfl)
 have kc:=kc _ rfl;suffices h:∃(b:Bool) (d:D),(b=true↔Li aa aq u)/\(b=true->∃r:List bC,d=bO r/\u.length+r.length=aq.length)/\(bG (Dm.dJ (aV (k7 true) (bD (fY t) (af (ah 0) (af (ah 1) az))) (bD (fY t) (af (ah 0) (af (ah 2) az))))
 (eL (bQ 100 (af (dC (.str "never")) (af (bQ 100 (af (dC (.str "class")) az)) az))))
 cy)
 (bG (cF 3 (bD (j9 t) (af (ah 0) (af (ah 1) az))))
 (bG (Dm.dJ (aV (pK false) (bD gW (af (ah 2) az)) (ah 3))
 (eL (rX "leaps" (aV pX (ah 3) (bD gW (af (ah 2) az)))))
 cy)
 (eL (bQ 100 (af (dC (.str "never")) (af (rX "closed" (bD (iF t) (af (ah 3) az))) az))))))) [some (bB aa),some (aJ aq),some (aJ u),none] = .rt (.tup [.str (if b=true then "leaps"else "never"),d]) by
  obtain⟨b,d,h0,h9,h⟩:=h;refine⟨b,d,h0,h9,?_⟩;unfold oZ;refine dm [some (bB aa),some (aJ aq),some (aJ u),none] ?_;rw[aS (sj (C9 (a:=bB aa) (b:=aJ aq) rfl rfl c1)),aS (sj (C9 (a:=bB aa) (b:=aJ u) rfl rfl c2))];exact h
 by_cases ec:qI aq=qI u;rw[aX1 ec]at kc;rw[aS (st':=[some (bB aa),some (aJ aq),some (aJ u),none]) (by rw[nB kc];rfl)];generalize hL:jd aa aq (aq.length+1)=L at hf;rw[aS (st':=[some (bB aa),some (aJ aq),some (aJ u),some (.bJ 2 (gf L))]) (gx (C9 (a:=bB aa) (b:=aJ aq) rfl rfl hf))];have tW:(bD gW (af (ah 2) az)) [some (bB aa),some (aJ aq),some (aJ u),some (.bJ 2 (gf L))] = .ok (tS u):=E7 (a:=aJ u) rfl (mH _);have hg:=Em false u L;have ar:=Jj (u:=u) S;rw[hL]at ar;by_cases c:Li aa aq u;have S4:=ar.mpr c;obtain⟨r,hr⟩:=Fr.A8 u L S4;rw[S4]at hg;have hz:=Et hr;rw[<- hL]at hz;obtain⟨k,_,hz⟩:=yi hz;have hz:=sE S k _ hz;refine⟨true,bO r,⟨fun _=>c,fun _=>rfl⟩,fun _=>⟨r,rfl,by rw[hz.row];exact hz.len⟩,HE ?_⟩;rw[BX (iM (a:=tS u) (b:=.bJ 2 (gf L)) tW rfl hg),aW9 rfl];refine gy ?_;unfold rX;rw[iM (a:=.bJ 2 (gf L)) (b:=tS u) rfl tW (Vp hr)];have S4:L.any (·.1==u)=false:=tE.mpr fun z=>c (ar.mp z);rw[S4]at hg;rw[aS (st':=[some (bB aa),some (aJ aq),some (aJ u),some (.bJ 2 (gf L))]) (by rw[nB (iM (a:=tS u) (b:=.bJ 2 (gf L)) tW rfl hg)];rfl)];obtain⟨G,_,_,h2⟩:=Vs t up hl S;rw[hL]at h2;have hp:(rX "closed" (bD (iF t) (af (ah 3) az))) [some (bB aa),some (aJ aq),some (aJ u),some (.bJ 2 (gf L))] = .ok (.tup [.str "closed",Vo G]):=by unfold rX;rw[E7 (a:=.bJ 2 (gf L)) rfl h2];rfl
 refine⟨false,.tup [.str "closed",Vo G],⟨fun z=>(by cases z),fun z=>aY1 z c⟩,(fun z=>by cases z),gy ?_⟩;unfold bQ;simp only[QF,WT,hp,R.bind];rfl;rw[aX2 ec]at kc;have c:¬ Li aa aq u:=fun ND=>ND.elim fun row Xo=>Xo.elim fun ok e=>ec (by have:=(jD S.1 S.2 ok).2.2.1;rw[e]at this;exact this.symm);refine⟨false,.tup [.str "class"],⟨fun z=>(by cases z),fun z=>aY1 z c⟩,(fun z=>by cases z),HE ?_⟩;rw[BX kc];rfl
end Pk
namespace Pk
open L2 Dm
variable (t:jb)
def gC(aa s:List Cell):List Cell:=aa.filter fun c=>!decide (c∈s)
def nE{aa s:List Cell}{c:Cell}:c∈gC aa s↔c∈aa/\c∉s:=by unfold gC;simp
def gq{aa s:List Cell}(up:b7 aa):bK aa (gC aa s):=.sub up mW
def up_eq{a b:List Cell}(ha:b7 a)(hb:b7 b)(h:∀c,c∈a↔c∈b):a=b:=
 (jo hb ha fun c m=>(h c).mp m).eq_of_length_le (jo ha hb fun c m=>(h c).mpr m).length_le
def lH{aa s:List Cell}(up:b7 aa)(S:bK aa s):gC aa (gC aa s)=s:=up_eq (gq up).1 S.1 fun c=>by
 rw[nE,nE];constructor;rintro⟨h1,h2⟩;exact AE fun h=>h2 ⟨h1,h⟩;exact fun h=>⟨S.2 c h,fun z=>z.2 h⟩
def Vt{aa s u:List Cell}(up:b7 aa)(S:bK aa s)(U:bK aa u)(h:gC aa s=gC aa u):s=u:=by rw[<- lH up S,h,lH up U]
theorem Ac(p:Cell->Bool):∀l:List Cell,(l.filter fun c=>!p c).length+(l.filter p).length=l.length
 | []=>rfl
 | c::l=>by
  have:=Ac p l;cases h:p c <;> simp[h] <;> omega
def vo{aa s:List Cell}(up:b7 aa)(S:bK aa s):(gC aa s).length+s.length=aa.length:=by
 have e:aa.filter (fun c=>decide (c∈s))=s:=up_eq (up.sublist mW) S.1 fun c=>by rw[lZ,decide_eq_true_iff];exact⟨fun h=>h.2,fun h=>⟨S.2 c h,h⟩⟩
 have:=Ac (fun c=>decide (c∈s)) aa;rw[e]at this;exact this
def yo{aa s:List Cell}{p:bC}(up:b7 aa)(S:bK aa s)(h:p∈Ca aa s):p∈Ca aa (gC aa (bL s p))/\bL (gC aa (bL s p)) p=gC aa s:=by
 obtain⟨m1,m2,m3,m4,m5⟩:=sA h;obtain⟨c1,c2,c3⟩:=su.mp m5;have n1:p.1≠p.2:=fun e=>c2 (e▸c1);have n2:mid p.1 p.2≠p.2:=fun e=>c2 (e▸c3);have k1:p.1∈gC aa (bL s p):=nE.mpr ⟨m1,fun z=>(jm.mp z).elim (fun z=>z.2.1 rfl) n1⟩;have k2:p.2∉gC aa (bL s p):=fun z=>(nE.mp z).2 (jm.mpr (.inr rfl));have k3:mid p.1 p.2∈gC aa (bL s p):=nE.mpr ⟨m4,fun z=>(jm.mp z).elim (fun z=>z.2.2 rfl) n2⟩;refine⟨?_,up_eq (zW (gq up).1 k2) (gq up).1 fun c=>?_⟩;unfold Ca at h ⊢;exact lZ.mpr ⟨(lZ.mp h).1,su.mpr ⟨k1,k2,k3⟩⟩;rw[jm,nE,nE,jm];constructor;rintro(⟨⟨h1,h2⟩,h3,h4⟩|rfl);exact⟨h1,fun z=>h2 (.inl ⟨z,h3,h4⟩)⟩;exact⟨m3,c2⟩;rintro⟨h1,h2⟩;by_cases e:c=p.2;exact .inr e;exact .inl ⟨⟨h1,fun z=>z.elim (fun z=>h2 z.1) e⟩,fun z=>h2 (z▸c1),fun z=>h2 (z▸c3)⟩
theorem C6{aa:List Cell}(up:b7 aa):∀{row:List bC} {s:List Cell},bK aa s->lF aa s row->lF aa (gC aa (dY s row)) row.reverse/\dY (gC aa (dY s row)) row.reverse=gC aa s
 | [],s,_,_=>⟨trivial,rfl⟩
 | p::r,s,S,h=>by
  obtain⟨i1,i2⟩:=C6 up (row:=r) (S.row (row:=[p]) ⟨h.1,trivial⟩) h.2;obtain⟨l1,l2⟩:=yo up S h.1;have i2:dY (gC aa (dY s (p::r))) r.reverse=gC aa (bL s p):=i2;rw[vI];exact⟨C1 i1 (by rw[i2];exact l1),by rw[ud,i2];exact l2⟩
def Jm{aa s u:List Cell}(up:b7 aa)(S:bK aa s)(h:Li aa s u):Li aa (gC aa u) (gC aa s):=by
 obtain⟨row,ok,e⟩:=h;obtain⟨h1,h2⟩:=C6 up S ok;rw[e]at h1 h2;exact⟨_,h1,h2⟩
def Vu{aa s u:List Cell}(up:b7 aa)(S:bK aa s)(U:bK aa u):Li aa (gC aa u) (gC aa s)↔Li aa s u:=
 ⟨fun h=>by have:=Jm up (gq up) h;rwa [lH up S,lH up U]at this,Jm up S⟩
theorem yp{α β:Type}(f:α->β->Int)(b:List β):∀a:List α,(a.map fun x=>(b.map fun y=>f x y).sum).sum=(b.map fun y=>(a.map fun x=>f x y).sum).sum
 | []=>(Cn.Ep _ b fun _ _=>rfl).symm
 | x::a=>by
  rw[aW,tw,yp f b a];clear yp;induction b with
  | nil=>rfl
  | cons y b ih=>simp only[aW,tw]at ih ⊢;omega
theorem sum_filter{α:Type}(p:α->Bool)(f:α->Int):∀l:List α,((l.filter p).map f).sum=(l.map fun x=>if p x=true then f x else 0).sum
 | []=>rfl
 | x::l=>by
  rw[aW,tw,<- sum_filter p f l];cases h:p x <;> simp[h]
def Ew(aa s:List Cell)(f:List Cell->Int):((aP aa s).map fun q=>f q.2).sum=((aK aa).map fun p=>if kP s p=true then f (bL s p)else 0).sum:=by
 unfold aP Ca;rw[d9];exact sum_filter (kP s) (fun p=>f (bL s p)) (aK aa)
def RH{aa s u:List Cell}(up:b7 aa)(S:bK aa s)(U:bK aa u):((aP aa s).map fun q=>if q.2=u then(1:Int)else 0).sum=((aP aa (gC aa u)).map fun q=>if s=gC aa q.2 then(1:Int)else 0).sum:=by
 rw[Ew aa s fun v=>if v=u then 1 else 0,Ew aa (gC aa u) fun v=>if s=gC aa v then 1 else 0];refine congrArg _ (mT fun p hp=>?_);have mem:∀v,kP v p=true->p∈Ca aa v:=fun v h=>by unfold Ca;exact lZ.mpr ⟨hp,h⟩
 have key:(kP s p=true/\bL s p=u)↔(kP (gC aa u) p=true/\s=gC aa (bL (gC aa u) p)):=by constructor;rintro⟨h1,rfl⟩;obtain⟨l1,l2⟩:=yo up S (mem s h1);exact⟨(sA l1).2.2.2.2,by rw[l2,lH up S]⟩;rintro⟨h1,h2⟩;obtain⟨l1,l2⟩:=yo up (gq up) (mem _ h1);rw[<- h2]at l1 l2;exact⟨(sA l1).2.2.2.2,by rw[l2,lH up U]⟩
 have e1:∀(a:Bool) (P:Prop) [Decidable P],(if a=true then(if P then(1:Int)else 0)else 0)=if a=true/\P then 1 else 0:=fun a P _=>by cases a <;> simp
 rw[e1,e1];simp only[key]
theorem RI{aa:List Cell}(up:b7 aa){u:List Cell}(U:bK aa u):∀(n:Nat) {s:List Cell},bK aa s->Cn.N (aP aa) u (n+1) s=((aP aa (gC aa u)).map fun q=>Cn.N (aP aa) (gC aa q.2) n s).sum
 | 0,s,S=>RH up S U
 | n+1,s,S=>by
  show((aP aa s).map fun q=>Cn.N (aP aa) u (n+1) q.2).sum=((aP aa (gC aa u)).map fun q=>((aP aa s).map fun r=>Cn.N (aP aa) (gC aa q.2) n r.2).sum).sum;rw[<- yp];exact congrArg _ (mT fun q m=>RI up U n (kU S q m))
theorem RJ{aa:List Cell}(up:b7 aa):∀(n:Nat) {s u:List Cell},bK aa s->bK aa u->Cn.N (aP aa) u n s=Cn.N (aP aa) (gC aa s) n (gC aa u)
 | 0,s,u,S,U=>by
  show(if s=u then(1:Int)else 0)=if gC aa u=gC aa s then 1 else 0
  by_cases e:s=u;rw[aW9 e,aW9 (by rw[e])];rw[aX0 e,aX0 fun z=>e (Vt up U S z).symm]
 | n+1,s,u,S,U=>by
  rw[RI up U n S];show _=((aP aa (gC aa u)).map fun q=>Cn.N (aP aa) (gC aa s) n q.2).sum;refine congrArg _ (mT fun q m=>?_);rw[RJ up n S (gq up),lH up (kU (gq up) q m)]
def yq{aa s u:List Cell}(up:b7 aa)(S:bK aa s)(U:bK aa u):Cn.N (aP aa) (gC aa s) ((gC aa u).length-(gC aa s).length) (gC aa u)=Cn.N (aP aa) u (s.length-u.length) s:=by
 have h1:=vo up S;have h2:=vo up U;rw[show(gC aa u).length-(gC aa s).length=s.length-u.length by lia];exact(RJ up _ S U).symm
def sF{aa aq:List Cell}(up:b7 aa)(hl:aa.length<=50)(S:bK aa aq):j8 t [bB aa,aJ aq] = .ok (aJ (gC aa aq)):=by
 have lp:=gn up S;have c1:=(kQ t (aa:=aa) (aq:=aq) (by lia)).1 S;unfold j8;refine dm [some (bB aa),some (aJ aq)] ?_;rw[aS (sj (C9 (a:=bB aa) (b:=aJ aq) rfl rfl c1))];refine gy (k8 (ds:=aa.map cD) (by simp) (by simp;lia) ?_);exact jC (S:=fun x=>[some (cD x),some (aJ aq)]) (P:=fun st=>∃y,st=[y,some (aJ aq)]) aa (fun x _=>⟨_,rfl⟩) (fun x _ st ⟨y,e⟩=>by subst e;rfl) (fun x _=>iM (a:=cD x) (b:=aJ aq) rfl rfl (by rw[fB];simp)) (fun x _ _=>by simp) _ ⟨none,rfl⟩
end Pk
namespace Dm
open L2 HT
theorem Ey{aa:List Cell}:∀{a:List bC} {p:bC} {b:List bC} {aq:List Cell},lF aa aq (a++p::b)->p∈Ca aa (dY aq a)/\lF aa aq a
 | [],p,b,aq,h=>⟨h.1,trivial⟩
 | q::a,p,b,aq,h=>by
  obtain⟨h1,h2⟩:=Ey (a:=a) (p:=p) (b:=b) h.2;exact⟨h1,h.1,h2⟩
end Dm
namespace Pk
open L2 Dm
variable (t:jb)
def RK{aa aq:List Cell}{row:List bC}(hl:aa.length<=200)(lp:aq.length<=50)(S:bK aa aq)(ok:lF aa aq row):sd t [bB aa,aJ aq,bO row] = .ok (aJ (dY aq row)):=by
 have hc:=(kQ t (aa:=aa) lp).1 S;obtain⟨st',h1,y,z,h2⟩:=jj (bind:=eZ 5 6) (F:=bG (Dm.dJ (Tt (aV (jG true) (ah 6) (ah 4)) (tX (bD (fu t) (af (ah 3) (af (ah 6) az)))))
  Z7
  cy)
  (cF 3 (bD (fz t) (af (ah 3) (af (ah 6) az))))) (f:=fun p:bC×Nat=>D.tup [.int (p.2:Nat),lD p.1]) (Q:=fun pre st=>∃y z,st=[some (bB aa),some (aJ aq),some (bO row),some (aJ (dY aq (pre.map (·.1)))),some (bO (aK aa)),y,z]) row.zipIdx [] [some (bB aa),some (aJ aq),some (bO row),some (aJ aq),some (bO (aK aa)),none,none] (fun q x r e st ⟨y,z,hy⟩=>by
  subst hy
  rw[dw]at e
  have e':row=q.map (·.1)++x.1::r.map (·.1):=by
   have:=congrArg (List.map (·.1)) e
   rw[FE]at this
   simpa using this
  rw[e']at ok
  obtain⟨mem,ok1⟩:=Ey ok
  have hw:=jD S.1 S.2 ok1
  generalize hW:dY aq (q.map (·.1))=W at hw mem
  obtain⟨m1,m2,m3,m4,m5⟩:=sA mem
  have aA8:=Rl t (.inr rfl) x.1 (d:=aJ W)
  rw[m5]at aA8
  have S4:x.1∈aK aa:=by unfold Ca at mem;exact(lZ.mp mem).1
  have hbh:=A9 t (.inr rfl) (d:=aJ W) (aq:=W) x.1 (by lia)
  refine⟨[some (bB aa),some (aJ aq),some (bO row),some (aJ W),some (bO (aK aa)),some (.int (x.2:Nat)),some (lD x.1)],[some (bB aa),some (aJ aq),some (bO row),some (aJ (bL W x.1)),some (bO (aK aa)),some (.int (x.2:Nat)),some (lD x.1)],rfl,?_,_,_,by rw[gu,aW,lO,ud,hW]⟩
  rw[aS (st':=[some (bB aa),some (aJ aq),some (bO row),some (aJ W),some (bO (aK aa)),some (.int (x.2:Nat)),some (lD x.1)]) (by
   rw[nB (J1 (iM (a:=lD x.1) (b:=bO (aK aa)) rfl rfl (by rw[Zz];simp[S4])) (az8 (b:=true) (C9 (a:=aJ W) (b:=lD x.1) rfl rfl aA8)))];rfl)]
  exact gx (C9 (a:=aJ W) (b:=lD x.1) rfl rfl hbh)) ⟨none,none,rfl⟩
 rw[dw,FE]at h2;subst h2;unfold sd;refine dm [some (bB aa),some (aJ aq),some (bO row),none,none,none,none] ?_;rw[aS (st':=[some (bB aa),some (aJ aq),some (bO row),none,none,none,none]) (by simp[hc]),
  aS (st':=[some (bB aa),some (aJ aq),some (bO row),some (aJ aq),none,none,none]) (by simp),
  aS (st':=[some (bB aa),some (aJ aq),some (bO row),some (aJ aq),some (bO (aK aa)),none,none]) (by simp[C0 t hl]),
  aS (by
   rw[zT]
   have:Dv (ah 2) [some (bB aa),some (aJ aq),some (bO row),some (aJ aq),some (bO (aK aa)),none,none] = .ok (row.zipIdx.map fun p:bC×Nat=>D.tup [.int (p.2:Nat),lD p.1]):=by
    unfold Dv
    exact congrArg R.ok (J3 lD row)
   rw[this]
   exact h1)]
 rfl
def HR(n:Int)(neg:Bool):k7 neg (.int n) (.int n) = .ok (.bl (!neg)):=by cases neg <;> simp[k7,flat,dep,iJ]
def aa8(b:Bool):k7 true (.str (if b=true then "leaps"else "never")) (.str (if b=true then "leaps"else "never")) = .ok (.bl false):=by simp[k7,flat,dep,iJ]
def aa9{row:List bC}{f g:DF}{st:gM}(h1:f st = .ok (bO row))(h2:g st = .ok (.int (-1))):Ql f g st = .ok (bO row.reverse):=by
 unfold Ql;rw[h1,h2];show(if dB (row.map lD)=true/\(-1:Int) = -1 then R.ok (D.lst (row.map lD).reverse)else .bad)=_;rw[aW9 ⟨eY fun d hd=>by obtain⟨c,_,rfl⟩:=aL.mp hd;exact HJ c,rfl⟩];unfold bO;rw[List.map_reverse]
def aA9(ns:List Int):zS t [iL ns] = .ok (.bl true):=by
 obtain⟨l,hl,dl⟩:=Vc t ns 9 (by decide);have hl:dO t [iL ns,.int 9] = .ok (aJ l):=hl;obtain⟨c,hat⟩:∃c:Int,bq t [iL ns,.int 2] = .ok (.int c):=⟨_,QZ t ns 2⟩
 obtain⟨c3,aT3⟩:∃c:Int,bq t [iL ns,.int 3] = .ok (.int c):=⟨_,QZ t ns 3⟩
 obtain⟨c4,aT4⟩:∃c:Int,bq t [iL ns,.int 4] = .ok (.int c):=⟨_,QZ t ns 4⟩
 have ll:=dl.le;have up:=dl.up;obtain⟨g,hg,sub⟩:=R4 t c (l:=l) dl.pos (by lia);have S:bK l g:=.sub up sub;have hB:=Ve t (dl.mono (by decide:9<=24));have lg:=gn up S;obtain⟨row,ok,lr,mL⟩:=ZQ t c3 (most:=8) (by decide) S (by lia) up (by lia) dl.n8;have mL:jB t [aJ l,aJ g,.int c3,.int 8] = .ok (.tup [bO row,aJ (dY g row)]):=mL;have SW:bK l (dY g row):=S.row ok;have hR:Li l g (dY g row):=⟨row,ok,rfl⟩
 obtain⟨rok,rw1⟩:=C6 up S ok;obtain⟨o,ho,aT5⟩:=R4 t c4 (l:=l) dl.pos (by lia);have So:bK l o:=.sub up aT5;generalize dY g row=W at *;have S1:bK l (gC l g):=gq up;have S2:bK l (gC l W):=gq up;have S3:bK l (gC l o):=gq up;have l2:=gn up S2;have t1:=sF t up (by lia) S;have t2:=sF t up (by lia) SW;have t3:=sF t up (by lia) S1;have t4:=sF t up (by lia) So;rw[lH up S]at t3;have hw:=RK t (row:=row.reverse) (by lia) (by lia) S2 rok;rw[rw1]at hw;have n1:=vn t up ll S SW;have n2:=vn t up ll S2 S1;have n3:=vn t up ll S So;have n4:=vn t up ll S3 S1;rw[yq up S SW]at n2;rw[yq up S So]at n4;have pos:=(aA6 (u:=W) S).mpr hR;generalize Cn.N (aP l) W (g.length-W.length) g=n at n1 n2 pos;generalize Cn.N (aP l) o (g.length-o.length) g=m at n3 n4;obtain⟨b,d,hb,hd,a1⟩:=Eu t up ll S So;obtain⟨b',d',n6,Lk,a2⟩:=Eu t up ll S3 S1;have eb:b'=b:=by rw[om,hb,n6];exact Vu up S So
 subst eb;have lo:=vo up So;have lg2:=vo up S;unfold zS;refine dm [some (iL ns),none,none,none,none,none,none,none,none,none,none] ?_;rw[aS (st':=[some (iL ns),some (aJ l),none,none,none,none,none,none,none,none,none]) (by simp[hl]),
  aS (st':=[some (iL ns),some (aJ l),some (bB l),none,none,none,none,none,none,none,none]) (by simp[hB]),
  aS (st':=[some (iL ns),some (aJ l),some (bB l),some (aJ g),none,none,none,none,none,none,none]) (by simp[hat,hg]),
  aS (st':=[some (iL ns),some (aJ l),some (bB l),some (aJ g),some (bO row),some (aJ W),none,none,none,none,none]) (by simp[aT3,mL,uB,eZ]),
  aS (st':=[some (iL ns),some (aJ l),some (bB l),some (aJ g),some (bO row),some (aJ W),some (aJ (gC l g)),some (aJ (gC l W)),none,none,none]) (by simp[yE,t1,t2])]
 rw[aS (st':=[some (iL ns),some (aJ l),some (bB l),some (aJ g),some (bO row),some (aJ W),some (aJ (gC l g)),some (aJ (gC l W)),none,none,none]) (by
   rw[nB (J1 (iM (a:=aJ g) (b:=aJ g) (C9 (a:=bB l) (b:=aJ (gC l g)) rfl rfl t3) rfl (by rw[BW];simp)) (iM (a:=aJ (gC l g)) (b:=aJ (gC l g)) (RX (a:=bB l) (b:=aJ (gC l W)) (c:=bO row.reverse) rfl rfl (aa9 rfl rfl) hw) rfl (by rw[BW];simp)))];rfl),
  aS (st':=[some (iL ns),some (aJ l),some (bB l),some (aJ g),some (bO row),some (aJ W),some (aJ (gC l g)),some (aJ (gC l W)),none,none,none]) (by
   rw[nB (J1 (iM (a:=.int n) (b:=.int n) (RX (a:=bB l) (b:=aJ g) (c:=aJ W) rfl rfl rfl n1) (RX (a:=bB l) (b:=aJ (gC l W)) (c:=aJ (gC l g)) rfl rfl rfl n2) (HR n true)) (iM (a:=.int n) (b:=.int 1) (RX (a:=bB l) (b:=aJ g) (c:=aJ W) rfl rfl rfl n1) rfl (by rw[aS2,aX2 (by lia)])))];rfl),
  aS (st':=[some (iL ns),some (aJ l),some (bB l),some (aJ g),some (bO row),some (aJ W),some (aJ (gC l g)),some (aJ (gC l W)),some (aJ o),none,none]) (by simp[aT4,ho])]
 generalize hX:D.tup [.str (if b'=true then "leaps"else "never"),d]=X at a1;generalize hY:D.tup [.str (if b'=true then "leaps"else "never"),d']=Y at a2;rw[aS (st':=[some (iL ns),some (aJ l),some (bB l),some (aJ g),some (bO row),some (aJ W),some (aJ (gC l g)),some (aJ (gC l W)),some (aJ o),some X,none]) (gx (RX (a:=bB l) (b:=aJ g) (c:=aJ o) rfl rfl rfl a1)),
  aS (st':=[some (iL ns),some (aJ l),some (bB l),some (aJ g),some (bO row),some (aJ W),some (aJ (gC l g)),some (aJ (gC l W)),some (aJ o),some X,some Y]) (gx (RX (a:=bB l) (b:=aJ (gC l o)) (c:=aJ (gC l g)) rfl (C9 (a:=bB l) (b:=aJ o) rfl rfl t4) rfl a2))]
 generalize pG:[some (iL ns),some (aJ l),some (bB l),some (aJ g),some (bO row),some (aJ W),some (aJ (gC l g)),some (aJ (gC l W)),some (aJ o),some X,some Y]=st;have v9:ah 9 st = .ok X:=by rw[<- pG];rfl
 have v10:ah 10 st = .ok Y:=by rw[<- pG];rfl
 have x0:(aV eF (ah 9) (dC (.int 0))) st = .ok (.str (if b'=true then "leaps"else "never")):=iM v9 rfl (by rw[<- hX];rfl);have x1:(aV eF (ah 9) (dC (.int 1))) st = .ok d:=iM v9 rfl (by rw[<- hX];rfl);have y0:(aV eF (ah 10) (dC (.int 0))) st = .ok (.str (if b'=true then "leaps"else "never")):=iM v10 rfl (by rw[<- hY];rfl);have y1:(aV eF (ah 10) (dC (.int 1))) st = .ok d':=iM v10 rfl (by rw[<- hY];rfl);rw[aS (st':=st) (by
  rw[nB (J1 (iM x0 y0 (aa8 b')) (iM (b:=.tup [.str "leaps",.str "never"]) x0 rfl (by cases b' <;> rfl)))];rfl)]
 have fin:eL (aV (k7 false) (bD (dX t) (af (ah 2) (af (ah 3) (af (ah 8) az)))) (bD (dX t) (af (ah 2) (af (bD (j8 t) (af (ah 2) (af (ah 8) az))) (af (ah 6) az))))) st = .rt (.bl true):=by rw[<- pG];exact gy (iM (a:=.int m) (b:=.int m) (RX (a:=bB l) (b:=aJ g) (c:=aJ o) rfl rfl rfl n3) (RX (a:=bB l) (b:=aJ (gC l o)) (c:=aJ (gC l g)) rfl (C9 (a:=bB l) (b:=aJ o) rfl rfl t4) rfl n4) (HR m false))
 rw[aS (st':=st)];exact fin;cases b' with
 | false=>rw[nB (u9 (iM x0 rfl rfl))];rfl
 | true=>
  obtain⟨r,rfl,e1⟩:=hd rfl;obtain⟨r',rfl,e2⟩:=Lk rfl;have e:r'.length=r.length:=by lia
  rw[nB (kO (iM x0 rfl rfl) (iM (a:=.int (r.length:Nat)) (b:=.int (r.length:Nat)) (E7 x1 (by unfold bO;rw[BV,bf])) (E7 y1 (by unfold bO;rw[BV,bf,e])) (HR _ true)))];rfl
end Pk
section ab0
noncomputable section
namespace Hd
open PySem PySem.W PySem.Calls PyProof.Rows
abbrev pq:cS:=PySem.Challenge.pw_pegleap_k13_whole_turned_about
def nth:List aX → Nat → aX
  | [],_=> .Pass ⟨0,0,0,0⟩
  | s::_,0=>s
  | _::r,n+1=>nth r n
def tk:Nat → List aX → List aX
  | 0,_=>[]
  | _,[]=>[]
  | n+1,s::r=>s::tk n r
def dr:Nat → List aX → List aX
  | 0,l=>l
  | _,[]=>[]
  | n+1,_::r=>dr n r
def st(i:Nat):aX:=nth pq.main.body i
def sc(i j:Nat):aX:=match st i with | .ClassDef _ _ _ b _ _ _ _ _ _ _=>nth b j|s=>s
def fN:aX → Str | .FunctionDef n _ _ _ _ _ _ _ _ _=>n|_=>default
def fX(s:aX)(q:Str)(g:av)(cl:List (Str×av))(dv kv doc pm:au)(an:Option av)(cd ct:au)(bi:av):PySem.Data:=match s with | .FunctionDef n a b _ _ _ sc _ _ _=> .func ⟨n,q,a,.stmts b,sc,g,cl,dv,kv,doc,pm,an,cd,ct,bi⟩|_=> .plain
noncomputable def en(P:dP)(x:Str)(t:Tok)(v:au):qd:=⟨PyData.keyHash P x,.str x t,v⟩
def Vv{tb:String → Option Builtin}{p:cS}{w:bI}{n:Nat}{a:Option au}{N:Nat}{s r:ay}{env:Env}{c:Code}{pos:Pos}{B:List Frame}{b b':List aX}(e:b=b')(k:topRun tb p w n a N s (restOf b' env c pos B)=some r):topRun tb p w n a N s (restOf b env c pos B)=some r:=e▸k
noncomputable def tO (vs:Array au):Obj:=⟨.type "tuple",none,.seq vs 0,#[]⟩
noncomputable def cO (n q:Str) (t:Tok) (L a k:Int) (r:av) (b:Bool) (c:av) (x y z:au) (u:Nat):Obj:=⟨.type "code",none,.fields #[.str n t,.str q (t+1),.str "/claim/cut.py" (t+2),.int L 0,.int a 0,.int 0 0,.int 0 0,.int k 0,.ref r,.bool b,.int 181 0,.ref c,.none,x,y,z,.int u 0,.int L 0,.str "/claim/cut.py" (u+1)],#[]⟩
noncomputable def fO (s:aX) (g:av) (m:Str) (t:Tok) (c:av):Obj:=⟨.type "function",none,fX s (fN s) g [] .none .none .none (.str m t) none (.ref c) .none 0,#[]⟩
noncomputable def fZ (s:aX):Obj:=⟨.none,none,fX s (fN s) 0 [] .none .none .none .none none .none .none 0,#[]⟩
abbrev nd(o:Obj)(l r:BT):BT:= .node o l r
abbrev ly(o:Obj):BT:= .node o .nil .nil
def o0:Obj:=tO #[]
def o1:Obj:=⟨.none,none,(.fields #[]),#[]⟩
def o2:Obj:=cO "<module>" "<module>" 182 1 0 0 11 false 12 .none .none .none 185
def o3:Obj:=⟨.type "frame",none,.plain,#[(some (.ref 13)),(some (.ref 3)),(some (.ref 3)),none,(some (.str "__main__" 164)),none,(some (.ref 0))]⟩
def lf0:Life:={}
def Ha(P:dP):aQ:=⟨⟨[boot_o_0 P,boot_o_1 P,boot_o_2 P,boot_o_3 P,boot_o_4 P,boot_o_5 P,boot_o_6 P,boot_o_7 P,boot_o_8 P,boot_o_9 P,boot_o_10 P,o0,o1,o2,o3]⟩,lf0⟩
def T0(P:dP):BT:=(nd (boot_o_0 P) (nd (boot_o_1 P) (nd (boot_o_3 P) (ly (boot_o_7 P)) (ly o0)) (nd (boot_o_5 P) (ly (boot_o_9 P)) (ly o2))) (nd (boot_o_2 P) (nd (boot_o_4 P) (ly (boot_o_8 P)) (ly o1)) (nd (boot_o_6 P) (ly (boot_o_10 P)) (ly o3))))
def S0(w:bI)(os:OsState):SharedT:=⟨T0 w.params,15,lf0,#[],⟨0,0,0,0⟩,187,os⟩
def o4(P:dP):Obj:=⟨.type "dict",none,(.dict #[en P "__name__" 165 (.str "pegleap.boards" 264),en P "__doc__" 166 .none,en P "__package__" 167 .none,en P "__loader__" 168 (.builtin "__main__.__loader__#opaque"),en P "__spec__" 169 .none,en P "__annotations__" 170 (.ref 6),en P "__builtins__" 171 (.ref 4),en P "__file__" 173 (.str "/claim/cut.py" 172),en P "__cached__" 174 .none,en P "PegError" 206 (.ref 24),en P "BadBoard" 222 (.ref 37),en P "BadPegs" 238 (.ref 49),en P "NoLeap" 263 (.ref 68),en P "LAST" 267 (.int 7 266),en P "MOST_CELLS" 269 (.int 24 268)] 15),#[]⟩
def o5:Obj:=⟨.none,none,(.fields #[.int 2 0,.int 0 0,.ref 20,.int 4 0,.int 0 0,.ref 33,.int 6 0,.int 0 0,.ref 45,.int 8 0,.int 0 0,.ref 57]),#[]⟩
def o6:Obj:=tO #[.type "ValueError"]
def o7:Obj:=⟨.type "builtin_function_or_method",none,(.fields #[.builtin "type.__prepare__",.type "type"]),#[]⟩
def o8(P:dP):Obj:=⟨.type "dict",none,(.dict #[en P "__module__" 196 (.str "pegleap.errors" 187),en P "__qualname__" 198 (.str "PegError" 197),en P "__firstlineno__" 200 (.int 2 199),en P "__static_attributes__" 201 (.ref 22)] 4),#[]⟩
def o9:Obj:=cO "PegError" "PegError" 191 2 0 0 18 false 19 .none .none .none 194
def o10:Obj:=⟨.type "frame",none,.plain,#[(some (.ref 20)),(some (.ref 3)),(some (.ref 17)),none,(some (.str "pegleap.errors" 187)),none,(some (.ref 0))]⟩
def o11(P:dP):Obj:=⟨.type "dict",none,(.dict #[en P "__module__" 196 (.str "pegleap.errors" 187),en P "__firstlineno__" 200 (.int 2 199),en P "__static_attributes__" 201 (.ref 22),en P "__weakref__" 203 (.ref 25),en P "__doc__" 204 .none] 3),#[]⟩
def o12:Obj:=⟨.type "type",none,(.cls ⟨"PegError",[.type "ValueError"],[.ref 24,.type "ValueError",.type "Exception",.type "BaseException",.type "object"],23,"PegError",true,[],[.ref 37,.ref 49,.ref 68],false,none,false⟩),#[(some (.ref 15)),none,(some (.str "PegError" 189)),(some (.str "PegError" 197)),(some (.builtin "ValueError.__new__")),(some (.bool true))]⟩
def o13:Obj:=⟨.type "getset_descriptor",none,(.fields #[.str "__weakref__" 202,.ref 24,.builtin "ExceptionGroup.__weakref__",.none]),#[]⟩
def o14:Obj:=⟨.type "super",none,(.fields #[.ref 24,.ref 24,.ref 24]),#[]⟩
def o15:Obj:=⟨.type "builtin_function_or_method",none,(.fields #[.builtin "object.__init_subclass__",.ref 24]),#[]⟩
def LA:Obj:=tO #[.ref 24]
def o17(P:dP):Obj:=⟨.type "dict",none,(.dict #[en P "__module__" 214 (.str "pegleap.errors" 187),en P "__qualname__" 216 (.str "BadBoard" 215),en P "__firstlineno__" 218 (.int 4 217),en P "__static_attributes__" 219 (.ref 35)] 4),#[]⟩
def o18:Obj:=cO "BadBoard" "BadBoard" 209 4 0 0 31 false 32 .none .none .none 212
def o19:Obj:=⟨.type "frame",none,.plain,#[(some (.ref 33)),(some (.ref 3)),(some (.ref 30)),none,(some (.str "pegleap.errors" 187)),none,(some (.ref 0))]⟩
def o20(P:dP):Obj:=⟨.type "dict",none,(.dict #[en P "__module__" 214 (.str "pegleap.errors" 187),en P "__firstlineno__" 218 (.int 4 217),en P "__static_attributes__" 219 (.ref 35),en P "__doc__" 220 .none] 2),#[]⟩
def o21:Obj:=⟨.type "type",none,(.cls ⟨"BadBoard",[.ref 24],[.ref 37,.ref 24,.type "ValueError",.type "Exception",.type "BaseException",.type "object"],36,"BadBoard",true,[],[],false,none,false⟩),#[(some (.ref 28)),none,(some (.str "BadBoard" 207)),(some (.str "BadBoard" 215)),(some (.builtin "ValueError.__new__")),(some (.bool true))]⟩
def o22:Obj:=⟨.type "super",none,(.fields #[.ref 37,.ref 37,.ref 37]),#[]⟩
def o23:Obj:=⟨.type "builtin_function_or_method",none,(.fields #[.builtin "object.__init_subclass__",.ref 37]),#[]⟩
def o24(P:dP):Obj:=⟨.type "dict",none,(.dict #[en P "__module__" 230 (.str "pegleap.errors" 187),en P "__qualname__" 232 (.str "BadPegs" 231),en P "__firstlineno__" 234 (.int 6 233),en P "__static_attributes__" 235 (.ref 47)] 4),#[]⟩
def o25:Obj:=cO "BadPegs" "BadPegs" 225 6 0 0 43 false 44 .none .none .none 228
def o26:Obj:=⟨.type "frame",none,.plain,#[(some (.ref 45)),(some (.ref 3)),(some (.ref 42)),none,(some (.str "pegleap.errors" 187)),none,(some (.ref 0))]⟩
def o27(P:dP):Obj:=⟨.type "dict",none,(.dict #[en P "__module__" 230 (.str "pegleap.errors" 187),en P "__firstlineno__" 234 (.int 6 233),en P "__static_attributes__" 235 (.ref 47),en P "__doc__" 236 .none] 2),#[]⟩
def o28:Obj:=⟨.type "type",none,(.cls ⟨"BadPegs",[.ref 24],[.ref 49,.ref 24,.type "ValueError",.type "Exception",.type "BaseException",.type "object"],48,"BadPegs",true,[],[],false,none,false⟩),#[(some (.ref 40)),none,(some (.str "BadPegs" 223)),(some (.str "BadPegs" 231)),(some (.builtin "ValueError.__new__")),(some (.bool true))]⟩
def o29:Obj:=⟨.type "super",none,(.fields #[.ref 49,.ref 49,.ref 49]),#[]⟩
def o30:Obj:=⟨.type "builtin_function_or_method",none,(.fields #[.builtin "object.__init_subclass__",.ref 49]),#[]⟩
def o31(P:dP):Obj:=⟨.type "dict",none,(.dict #[en P "__module__" 246 (.str "pegleap.errors" 187),en P "__qualname__" 248 (.str "NoLeap" 247),en P "__firstlineno__" 250 (.int 8 249),en P "__init__" 258 (.ref 65),en P "__static_attributes__" 260 (.ref 66)] 5),#[]⟩
def o32:Obj:=⟨.none,none,(.fields #[.int 10 0,.int 4 0,.ref 64]),#[]⟩
def o33:Obj:=cO "NoLeap" "NoLeap" 241 8 0 0 55 false 56 .none .none .none 244
def o34:Obj:=⟨.type "frame",none,.plain,#[(some (.ref 57)),(some (.ref 3)),(some (.ref 54)),none,(some (.str "pegleap.errors" 187)),none,(some (.ref 0))]⟩
def o35:Obj:=tO #[.str "self" 254,.str "at" 255]
def o36:Obj:=⟨.none,none,(fX (sc 4 0) "NoLeap.__init__" 0 [] .none .none .none .none none .none .none 0),#[]⟩
def o37:Obj:=cO "__init__" "NoLeap.__init__" 251 10 2 3 59 true 60 (.ref 61) (.ref 62) (.ref 63) 256
def o38:Obj:=⟨.type "function",none,(fX (sc 4 0) "NoLeap.__init__" 3 [] .none .none .none (.str "pegleap.errors" 187) none (.ref 64) .none 0),#[]⟩
def o39:Obj:=tO #[.str "at" 259]
def o40(P:dP):Obj:=⟨.type "dict",none,(.dict #[en P "__module__" 246 (.str "pegleap.errors" 187),en P "__firstlineno__" 250 (.int 8 249),en P "__init__" 258 (.ref 65),en P "__static_attributes__" 260 (.ref 66),en P "__doc__" 261 .none] 2),#[]⟩
def o41:Obj:=⟨.type "type",none,(.cls ⟨"NoLeap",[.ref 24],[.ref 68,.ref 24,.type "ValueError",.type "Exception",.type "BaseException",.type "object"],67,"NoLeap",true,[],[],false,none,false⟩),#[(some (.ref 52)),none,(some (.str "NoLeap" 239)),(some (.str "NoLeap" 247)),(some (.builtin "ValueError.__new__")),(some (.bool true))]⟩
def o42:Obj:=⟨.type "super",none,(.fields #[.ref 68,.ref 68,.ref 68]),#[]⟩
def o43:Obj:=⟨.type "builtin_function_or_method",none,(.fields #[.builtin "object.__init_subclass__",.ref 68]),#[]⟩
def T1(P:dP):BT:=(nd (boot_o_0 P) (nd (boot_o_1 P) (nd (o4 P) (nd (boot_o_7 P) (nd o6 (nd o0 (ly o36) .nil) (ly o0)) (nd (o11 P) (ly o23) (ly o0))) (nd o0 (nd o1 (nd o0 (ly (o40 P)) .nil) (ly o30)) (nd o15 (ly o0) (ly o0)))) (nd (boot_o_5 P) (nd (boot_o_9 P) (nd (o8 P) (nd o18 (ly o38) .nil) (ly o28)) (nd o13 (ly o7) (ly o33))) (nd o2 (nd o10 (nd o21 (ly o42) .nil) (ly o7)) (nd o7 (ly o25) (ly o35))))) (nd (boot_o_2 P) (nd (boot_o_4 P) (nd (boot_o_8 P) (nd o7 (nd o1 (ly o37) .nil) (ly (o27 P))) (nd o12 (ly LA) (ly o32))) (nd o5 (nd o9 (nd (o20 P) (ly o41) .nil) (ly LA)) (nd LA (ly o1) (ly o1)))) (nd (boot_o_6 P) (nd (boot_o_10 P) (nd o0 (nd o19 (ly o39) .nil) (ly o29)) (nd o14 (ly (o24 P)) (ly o34))) (nd o3 (nd o0 (nd o22 (ly o43) .nil) (ly (o31 P))) (nd (o17 P) (ly o26) (ly o0))))))
def S1(w:bI)(os:OsState):SharedT:=⟨T1 w.params,71,lf0,#[],⟨0,0,0,0⟩,270,os⟩
def o44(P:dP):Obj:=⟨.type "dict",none,(.dict #[en P "__name__" 165 (.str "law_pegleap_k13_whole_turned_about" 479),en P "__doc__" 166 .none,en P "__package__" 167 .none,en P "__loader__" 168 (.builtin "__main__.__loader__#opaque"),en P "__spec__" 169 .none,en P "__annotations__" 170 (.ref 6),en P "__builtins__" 171 (.ref 4),en P "__file__" 173 (.str "/claim/cut.py" 172),en P "__cached__" 174 .none,en P "PegError" 206 (.ref 24),en P "BadBoard" 222 (.ref 37),en P "BadPegs" 238 (.ref 49),en P "NoLeap" 263 (.ref 68),en P "LAST" 267 (.int 7 266),en P "MOST_CELLS" 269 (.int 24 268),en P "is_rising" 276 (.ref 77),en P "is_cell" 283 (.ref 84),en P "check_cells" 291 (.ref 91),en P "Board" 320 (.ref 108),en P "check_pegs" 329 (.ref 119),en P "two_apart" 338 (.ref 126),en P "between" 346 (.ref 133),en P "leaps" 356 (.ref 140),en P "turned" 362 (.ref 145),en P "COLOURS" 366 (.int 3 365),en P "can_be_done" 374 (.ref 152),en P "pegs_behind" 380 (.ref 157),en P "walked" 393 (.ref 164),en P "odd_on" 399 (.ref 169),en P "class_of" 405 (.ref 174),en P "steps_from" 413 (.ref 179),en P "next_rows" 426 (.ref 186),en P "next_counts" 439 (.ref 193),en P "first_rows" 450 (.ref 200),en P "in_order" 456 (.ref 205),en P "answer" 466 (.ref 212),en P "row_count" 478 (.ref 219),en P "_law_cell_at" 488 (.ref 226)] 38),#[]⟩
def o45:Obj:=⟨.none,none,(.fields #[.int 2 0,.int 0 0,.ref 20,.int 4 0,.int 0 0,.ref 33,.int 6 0,.int 0 0,.ref 45,.int 8 0,.int 0 0,.ref 57,.int 16 0,.int 0 0,.ref 76,.int 18 0,.int 0 0,.ref 83,.int 20 0,.int 0 0,.ref 90,.int 28 0,.int 0 0,.ref 97,.int 33 0,.int 0 0,.ref 118,.int 39 0,.int 0 0,.ref 125,.int 43 0,.int 0 0,.ref 132,.int 45 0,.int 0 0,.ref 139,.int 52 0,.int 0 0,.ref 144,.int 57 0,.int 0 0,.ref 151,.int 59 0,.int 0 0,.ref 156,.int 62 0,.int 0 0,.ref 163,.int 71 0,.int 0 0,.ref 168,.int 73 0,.int 0 0,.ref 173,.int 79 0,.int 0 0,.ref 178,.int 81 0,.int 0 0,.ref 185,.int 88 0,.int 0 0,.ref 192,.int 94 0,.int 0 0,.ref 199,.int 102 0,.int 0 0,.ref 204,.int 104 0,.int 0 0,.ref 211,.int 113 0,.int 0 0,.ref 218,.int 122 0,.int 0 0,.ref 225]),#[]⟩
def o46:Obj:=tO #[.str "cells" 273]
def o47:Obj:=fZ (st 8)
def o48:Obj:=cO "is_rising" "is_rising" 270 16 1 3 71 true 72 (.ref 73) (.ref 74) (.ref 75) 274
def o49:Obj:=fO (st 8) 3 "pegleap.boards" 264 76
def o50:Obj:=tO #[.str "cell" 280]
def o51:Obj:=fZ (st 9)
def o52:Obj:=cO "is_cell" "is_cell" 277 18 1 3 78 true 79 (.ref 80) (.ref 81) (.ref 82) 281
def o53:Obj:=fO (st 9) 3 "pegleap.boards" 264 83
def o54:Obj:=tO #[.str "cells" 287,.str "cell" 288]
def o55:Obj:=fZ (st 10)
def o56:Obj:=cO "check_cells" "check_cells" 284 20 1 3 85 true 86 (.ref 87) (.ref 88) (.ref 89) 289
def o57:Obj:=fO (st 10) 3 "pegleap.boards" 264 90
def o58(P:dP):Obj:=⟨.type "dict",none,(.dict #[en P "__module__" 299 (.str "pegleap.boards" 264),en P "__qualname__" 301 (.str "Board" 300),en P "__firstlineno__" 303 (.int 28 302),en P "__init__" 311 (.ref 105),en P "__static_attributes__" 313 (.ref 106)] 5),#[]⟩
def o59:Obj:=⟨.none,none,(.fields #[.int 30 0,.int 4 0,.ref 104]),#[]⟩
def o60:Obj:=cO "Board" "Board" 294 28 0 0 95 false 96 .none .none .none 297
def o61:Obj:=⟨.type "frame",none,.plain,#[(some (.ref 97)),(some (.ref 3)),(some (.ref 94)),none,(some (.str "pegleap.boards" 264)),none,(some (.ref 0))]⟩
def o62:Obj:=tO #[.str "self" 307,.str "cells" 308]
def o63:Obj:=⟨.none,none,(fX (sc 11 0) "Board.__init__" 0 [] .none .none .none .none none .none .none 0),#[]⟩
def o64:Obj:=cO "__init__" "Board.__init__" 304 30 2 3 99 true 100 (.ref 101) (.ref 102) (.ref 103) 309
def o65:Obj:=⟨.type "function",none,(fX (sc 11 0) "Board.__init__" 3 [] .none .none .none (.str "pegleap.boards" 264) none (.ref 104) .none 0),#[]⟩
def o66:Obj:=tO #[.str "cells" 312]
def o67(P:dP):Obj:=⟨.type "dict",none,(.dict #[en P "__module__" 299 (.str "pegleap.boards" 264),en P "__firstlineno__" 303 (.int 28 302),en P "__init__" 311 (.ref 105),en P "__static_attributes__" 313 (.ref 106),en P "__dict__" 315 (.ref 109),en P "__weakref__" 317 (.ref 110),en P "__doc__" 318 .none] 4),#[]⟩
def o68:Obj:=⟨.type "type",none,(.cls ⟨"Board",[.type "object"],[.ref 108,.type "object"],107,"Board",true,[],[],false,none,false⟩),#[none,none,(some (.str "Board" 292)),(some (.str "Board" 300)),(some (.builtin "object.__new__")),(some (.bool true))]⟩
def o69:Obj:=⟨.type "getset_descriptor",none,(.fields #[.str "__dict__" 314,.ref 108,.builtin "function.__dict__",.builtin "function.__dict__#set"]),#[]⟩
def o70:Obj:=⟨.type "getset_descriptor",none,(.fields #[.str "__weakref__" 316,.ref 108,.builtin "ExceptionGroup.__weakref__",.none]),#[]⟩
def o71:Obj:=⟨.type "super",none,(.fields #[.ref 108,.ref 108,.ref 108]),#[]⟩
def o72:Obj:=⟨.type "builtin_function_or_method",none,(.fields #[.builtin "object.__init_subclass__",.ref 108]),#[]⟩
def o73:Obj:=tO #[.str "board" 324,.str "pegs" 325,.str "cell" 326]
def o74:Obj:=fZ (st 12)
def o75:Obj:=cO "check_pegs" "check_pegs" 321 33 2 3 113 true 114 (.ref 115) (.ref 116) (.ref 117) 327
def o76:Obj:=fO (st 12) 3 "pegleap.boards" 264 118
def o77:Obj:=tO #[.str "cell" 333,.str "row" 334,.str "column" 335]
def o78:Obj:=fZ (st 13)
def o79:Obj:=cO "two_apart" "two_apart" 330 39 1 3 120 true 121 (.ref 122) (.ref 123) (.ref 124) 336
def o80:Obj:=fO (st 13) 3 "pegleap.boards" 264 125
def o81:Obj:=tO #[.str "cell" 342,.str "other" 343]
def o82:Obj:=fZ (st 14)
def o83:Obj:=cO "between" "between" 339 43 2 3 127 true 128 (.ref 129) (.ref 130) (.ref 131) 344
def o84:Obj:=fO (st 14) 3 "pegleap.boards" 264 132
def o85:Obj:=tO #[.str "board" 350,.str "found" 351,.str "first" 352,.str "second" 353]
def o86:Obj:=fZ (st 15)
def o87:Obj:=cO "leaps" "leaps" 347 45 1 3 134 true 135 (.ref 136) (.ref 137) (.ref 138) 354
def o88:Obj:=fO (st 15) 3 "pegleap.boards" 264 139
def o89:Obj:=fZ (st 16)
def o90:Obj:=cO "turned" "turned" 357 52 2 3 141 true 142 .none .none (.ref 143) 360
def o91:Obj:=fO (st 16) 3 "pegleap.boards" 264 144
def o92:Obj:=tO #[.str "pegs" 370,.str "leap" 371]
def o93:Obj:=fZ (st 19)
def o94:Obj:=cO "can_be_done" "can_be_done" 367 57 2 3 146 true 147 (.ref 148) (.ref 149) (.ref 150) 372
def o95:Obj:=fO (st 19) 3 "pegleap.standings" 363 151
def o96:Obj:=fZ (st 20)
def o97:Obj:=cO "pegs_behind" "pegs_behind" 375 59 2 3 153 true 154 .none .none (.ref 155) 378
def o98:Obj:=fO (st 20) 3 "pegleap.standings" 363 156
def o99:Obj:=tO #[.str "board" 384,.str "pegs" 385,.str "row" 386,.str "standing" 387,.str "all_leaps" 388,.str "at" 389,.str "leap" 390]
def ab1:Obj:=fZ (st 21)
def Vx:Obj:=cO "walked" "walked" 381 62 3 3 158 true 159 (.ref 160) (.ref 161) (.ref 162) 391
def Vy:Obj:=fO (st 21) 3 "pegleap.standings" 363 163
def ab2:Obj:=fZ (st 22)
def Vz:Obj:=cO "odd_on" "odd_on" 394 71 2 3 165 true 166 .none .none (.ref 167) 397
def VA:Obj:=fO (st 22) 3 "pegleap.standings" 363 168
def ab3:Obj:=fZ (st 23)
def VB:Obj:=cO "class_of" "class_of" 400 73 2 3 170 true 171 .none .none (.ref 172) 403
def VC:Obj:=fO (st 23) 3 "pegleap.standings" 363 173
def ab4:Obj:=fZ (st 25)
def VD:Obj:=cO "steps_from" "steps_from" 408 79 2 3 175 true 176 .none .none (.ref 177) 411
def VE:Obj:=fO (st 25) 3 "pegleap.search" 406 178
def ab5:Obj:=tO #[.str "all_leaps" 417,.str "layer" 418,.str "found" 419,.str "standing" 420,.str "row" 421,.str "leap" 422,.str "behind" 423]
def ab6:Obj:=fZ (st 26)
def VF:Obj:=cO "next_rows" "next_rows" 414 81 2 3 180 true 181 (.ref 182) (.ref 183) (.ref 184) 424
def VG:Obj:=fO (st 26) 3 "pegleap.search" 406 185
def ab7:Obj:=tO #[.str "all_leaps" 430,.str "layer" 431,.str "found" 432,.str "standing" 433,.str "count" 434,.str "leap" 435,.str "behind" 436]
def ab8:Obj:=fZ (st 27)
def VH:Obj:=cO "next_counts" "next_counts" 427 88 2 3 187 true 188 (.ref 189) (.ref 190) (.ref 191) 437
def VI:Obj:=fO (st 27) 3 "pegleap.search" 406 192
def ab9:Obj:=tO #[.str "board" 443,.str "pegs" 444,.str "all_leaps" 445,.str "found" 446,.str "layer" 447]
def ac0:Obj:=fZ (st 28)
def VJ:Obj:=cO "first_rows" "first_rows" 440 94 2 3 194 true 195 (.ref 196) (.ref 197) (.ref 198) 448
def VL:Obj:=fO (st 28) 3 "pegleap.search" 406 199
def ac1:Obj:=fZ (st 29)
def VM:Obj:=cO "in_order" "in_order" 451 102 1 3 201 true 202 .none .none (.ref 203) 454
def VN:Obj:=fO (st 29) 3 "pegleap.search" 406 204
def ac2:Obj:=tO #[.str "board" 460,.str "pegs" 461,.str "others" 462,.str "rows" 463]
def ac3:Obj:=fZ (st 30)
def VO:Obj:=cO "answer" "answer" 457 104 3 3 206 true 207 (.ref 208) (.ref 209) (.ref 210) 464
def VP:Obj:=fO (st 30) 3 "pegleap.search" 406 211
def ac4:Obj:=tO #[.str "board" 470,.str "pegs" 471,.str "others" 472,.str "all_leaps" 473,.str "layer" 474,.str "leaps_done" 475]
def ac5:Obj:=fZ (st 31)
def VQ:Obj:=cO "row_count" "row_count" 467 113 3 3 213 true 214 (.ref 215) (.ref 216) (.ref 217) 476
def VR:Obj:=fO (st 31) 3 "pegleap.search" 406 218
def ac6:Obj:=tO #[.str "script" 484,.str "k" 485]
def ac7:Obj:=fZ (st 33)
def VS:Obj:=cO "_law_cell_at" "_law_cell_at" 481 122 2 3 220 true 221 (.ref 222) (.ref 223) (.ref 224) 486
def VT:Obj:=fO (st 33) 3 "law_pegleap_k13_whole_turned_about" 479 225
def T2(P:dP):BT:=(nd (boot_o_0 P) (nd (boot_o_1 P) (nd (o44 P) (nd (boot_o_7 P) (nd o6 (nd o0 (nd o36 (ly o0) (ly ab8)) (nd o0 (ly o1) (ly o0))) (nd o0 (nd o1 (ly o89) (ly o1)) (nd o71 (ly o0) .nil))) (nd (o11 P) (nd o23 (nd o0 (ly o1) (ly VJ)) (nd o63 (ly ab2) .nil)) (nd o0 (nd o54 (ly o94) (ly ac4)) (nd o76 (ly o0) .nil)))) (nd o0 (nd o1 (nd o0 (nd (o40 P) (ly o82) (ly o1)) (nd o0 (ly Vx) .nil)) (nd o30 (nd o52 (ly o1) (ly VO)) (nd o73 (ly VE) .nil))) (nd o15 (nd o0 (nd o47 (ly o87) (ly ac1)) (nd (o67 P) (ly o1) .nil)) (nd o0 (nd o57 (ly o96) (ly VR)) (nd o0 (ly o0) .nil))))) (nd (boot_o_5 P) (nd (boot_o_9 P) (nd (o8 P) (nd o18 (nd o38 (ly o81) (ly VI)) (nd o60 (ly o0) (ly VS))) (nd o28 (nd o0 (ly o91) (ly o0)) (nd o0 (ly ab4) .nil))) (nd o13 (nd o7 (nd o46 (ly o0) (ly o0)) (nd o65 (ly VA) .nil)) (nd o33 (nd o55 (ly o0) (ly ac5)) (nd o1 (ly VF) .nil)))) (nd o2 (nd o10 (nd o21 (nd o42 (ly o84) (ly o0)) (nd o62 (ly o0) .nil)) (nd o7 (nd o0 (ly o0) (ly o0)) (nd o74 (ly o1) .nil))) (nd o7 (nd o25 (nd o49 (ly o0) (ly VN)) (nd o69 (ly VB) .nil)) (nd o35 (nd o7 (ly o98) (ly o1)) (nd o79 (ly ab7) .nil)))))) (nd (boot_o_2 P) (nd (boot_o_4 P) (nd (boot_o_8 P) (nd o7 (nd o1 (nd o37 (ly o1) (ly VH)) (nd o59 (ly o99) (ly ac7))) (nd (o27 P) (nd o50 (ly o90) (ly ac2)) (nd o72 (ly o1) .nil))) (nd o12 (nd LA (nd o1 (ly o85) (ly VL)) (nd o64 (ly Vz) .nil)) (nd o32 (nd o0 (ly o95) (ly o0)) (nd o0 (ly ab6) .nil)))) (nd o45 (nd o9 (nd (o20 P) (nd o41 (ly o83) (ly ab9)) (nd o1 (ly Vy) .nil)) (nd LA (nd o53 (ly o92) (ly VP)) (nd o0 (ly o0) .nil))) (nd LA (nd o1 (nd o48 (ly o88) (ly VM)) (nd o68 (ly ab3) .nil)) (nd o1 (nd o0 (ly o97) (ly o0)) (nd o78 (ly o1) .nil))))) (nd (boot_o_6 P) (nd (boot_o_10 P) (nd o0 (nd o19 (nd o39 (ly o0) (ly o0)) (nd o61 (ly ab1) (ly VT))) (nd o29 (nd o51 (ly o0) (ly ac3)) (nd o1 (ly VD) .nil))) (nd o14 (nd (o24 P) (nd o0 (ly o86) (ly o1)) (nd o66 (ly o0) .nil)) (nd o34 (nd o56 (ly o1) (ly VQ)) (nd o77 (ly VG) .nil)))) (nd o3 (nd o0 (nd o22 (nd o43 (ly o0) (ly ac0)) (nd o0 (ly o1) .nil)) (nd (o31 P) (nd o1 (ly o93) (ly o1)) (nd o75 (ly ab5) .nil))) (nd (o17 P) (nd o26 (nd o0 (ly o1) (ly o0)) (nd o70 (ly VC) .nil)) (nd o0 (nd (o58 P) (ly o0) (ly ac6)) (nd o80 (ly o0) .nil)))))))
def S2(w:bI)(os:OsState):SharedT:=⟨T2 w.params,227,lf0,#[],⟨0,0,0,0⟩,489,os⟩
def ac8(P:dP):Obj:=⟨.type "dict",none,(.dict #[en P "__name__" 165 (.str "law_pegleap_k13_whole_turned_about" 479),en P "__doc__" 166 .none,en P "__package__" 167 .none,en P "__loader__" 168 (.builtin "__main__.__loader__#opaque"),en P "__spec__" 169 .none,en P "__annotations__" 170 (.ref 6),en P "__builtins__" 171 (.ref 4),en P "__file__" 173 (.str "/claim/cut.py" 172),en P "__cached__" 174 .none,en P "PegError" 206 (.ref 24),en P "BadBoard" 222 (.ref 37),en P "BadPegs" 238 (.ref 49),en P "NoLeap" 263 (.ref 68),en P "LAST" 267 (.int 7 266),en P "MOST_CELLS" 269 (.int 24 268),en P "is_rising" 276 (.ref 77),en P "is_cell" 283 (.ref 84),en P "check_cells" 291 (.ref 91),en P "Board" 320 (.ref 108),en P "check_pegs" 329 (.ref 119),en P "two_apart" 338 (.ref 126),en P "between" 346 (.ref 133),en P "leaps" 356 (.ref 140),en P "turned" 362 (.ref 145),en P "COLOURS" 366 (.int 3 365),en P "can_be_done" 374 (.ref 152),en P "pegs_behind" 380 (.ref 157),en P "walked" 393 (.ref 164),en P "odd_on" 399 (.ref 169),en P "class_of" 405 (.ref 174),en P "steps_from" 413 (.ref 179),en P "next_rows" 426 (.ref 186),en P "next_counts" 439 (.ref 193),en P "first_rows" 450 (.ref 200),en P "in_order" 456 (.ref 205),en P "answer" 466 (.ref 212),en P "row_count" 478 (.ref 219),en P "_law_cell_at" 488 (.ref 226),en P "_law_mix" 499 (.ref 233),en P "_law_cells_by" 514 (.ref 240),en P "_law_pegs_by" 520 (.ref 245),en P "_law_between" 527 (.ref 252),en P "_law_leaps" 538 (.ref 259),en P "_law_open" 549 (.ref 266),en P "_law_behind" 555 (.ref 271),en P "_law_gone" 570 (.ref 278),en P "law" 587 (.ref 285)] 47),#[]⟩
def aB0:Obj:=⟨.none,none,(.fields #[.int 2 0,.int 0 0,.ref 20,.int 4 0,.int 0 0,.ref 33,.int 6 0,.int 0 0,.ref 45,.int 8 0,.int 0 0,.ref 57,.int 16 0,.int 0 0,.ref 76,.int 18 0,.int 0 0,.ref 83,.int 20 0,.int 0 0,.ref 90,.int 28 0,.int 0 0,.ref 97,.int 33 0,.int 0 0,.ref 118,.int 39 0,.int 0 0,.ref 125,.int 43 0,.int 0 0,.ref 132,.int 45 0,.int 0 0,.ref 139,.int 52 0,.int 0 0,.ref 144,.int 57 0,.int 0 0,.ref 151,.int 59 0,.int 0 0,.ref 156,.int 62 0,.int 0 0,.ref 163,.int 71 0,.int 0 0,.ref 168,.int 73 0,.int 0 0,.ref 173,.int 79 0,.int 0 0,.ref 178,.int 81 0,.int 0 0,.ref 185,.int 88 0,.int 0 0,.ref 192,.int 94 0,.int 0 0,.ref 199,.int 102 0,.int 0 0,.ref 204,.int 104 0,.int 0 0,.ref 211,.int 113 0,.int 0 0,.ref 218,.int 122 0,.int 0 0,.ref 225,.int 126 0,.int 0 0,.ref 232,.int 131 0,.int 0 0,.ref 239,.int 144 0,.int 0 0,.ref 244,.int 150 0,.int 0 0,.ref 251,.int 152 0,.int 0 0,.ref 258,.int 160 0,.int 0 0,.ref 265,.int 166 0,.int 0 0,.ref 270,.int 169 0,.int 0 0,.ref 277,.int 179 0,.int 0 0,.ref 284]),#[]⟩
def aB1:Obj:=tO #[.str "cell" 492,.str "k" 493,.str "many" 494,.str "some" 495,.str "number" 496]
def aB2:Obj:=fZ (st 34)
def ac9:Obj:=cO "_law_mix" "_law_mix" 489 126 3 3 227 true 228 (.ref 229) (.ref 230) (.ref 231) 497
def ad0:Obj:=fO (st 34) 3 "law_pegleap_k13_whole_turned_about" 479 232
def aB3:Obj:=tO #[.str "script" 503,.str "most" 504,.str "cell" 505,.str "height" 506,.str "width" 507,.str "down" 508,.str "across" 509,.str "some" 510,.str "k" 511]
def aB4:Obj:=fZ (st 35)
def ad1:Obj:=cO "_law_cells_by" "_law_cells_by" 500 131 2 3 234 true 235 (.ref 236) (.ref 237) (.ref 238) 512
def ad2:Obj:=fO (st 35) 3 "law_pegleap_k13_whole_turned_about" 479 239
def aB5:Obj:=fZ (st 36)
def ad3:Obj:=cO "_law_pegs_by" "_law_pegs_by" 515 144 2 3 241 true 242 .none .none (.ref 243) 518
def ad4:Obj:=fO (st 36) 3 "law_pegleap_k13_whole_turned_about" 479 244
def aB6:Obj:=tO #[.str "leap" 524]
def aB7:Obj:=fZ (st 37)
def ad5:Obj:=cO "_law_between" "_law_between" 521 150 1 3 246 true 247 (.ref 248) (.ref 249) (.ref 250) 525
def ad6:Obj:=fO (st 37) 3 "law_pegleap_k13_whole_turned_about" 479 251
def aB8:Obj:=tO #[.str "cells" 531,.str "found" 532,.str "one" 533,.str "two" 534,.str "apart" 535]
def aB9:Obj:=fZ (st 38)
def ad7:Obj:=cO "_law_leaps" "_law_leaps" 528 152 1 3 253 true 254 (.ref 255) (.ref 256) (.ref 257) 536
def ad8:Obj:=fO (st 38) 3 "law_pegleap_k13_whole_turned_about" 479 258
def aC0:Obj:=tO #[.str "cells" 542,.str "pegs" 543,.str "found" 544,.str "one" 545,.str "two" 546]
def aC1:Obj:=fZ (st 39)
def ad9:Obj:=cO "_law_open" "_law_open" 539 160 2 3 260 true 261 (.ref 262) (.ref 263) (.ref 264) 547
def ae0:Obj:=fO (st 39) 3 "law_pegleap_k13_whole_turned_about" 479 265
def aC2:Obj:=fZ (st 40)
def ae1:Obj:=cO "_law_behind" "_law_behind" 550 166 2 3 267 true 268 .none .none (.ref 269) 553
def ae2:Obj:=fO (st 40) 3 "law_pegleap_k13_whole_turned_about" 479 270
def aC3:Obj:=tO #[.str "cells" 559,.str "pegs" 560,.str "cell" 561,.str "most" 562,.str "row" 563,.str "here" 564,.str "k" 565,.str "some" 566,.str "leap" 567]
def aC4:Obj:=fZ (st 41)
def ae3:Obj:=cO "_law_gone" "_law_gone" 556 169 4 3 272 true 273 (.ref 274) (.ref 275) (.ref 276) 568
def ae4:Obj:=fO (st 41) 3 "law_pegleap_k13_whole_turned_about" 479 277
def aC5:Obj:=tO #[.str "script" 574,.str "cells" 575,.str "board" 576,.str "pegs" 577,.str "row" 578,.str "behind" 579,.str "one" 580,.str "two" 581,.str "others" 582,.str "found" 583,.str "again" 584]
def aC6:Obj:=fZ (st 42)
def ae5:Obj:=cO "law" "law" 571 179 1 3 279 true 280 (.ref 281) (.ref 282) (.ref 283) 585
def ae6:Obj:=fO (st 42) 3 "law_pegleap_k13_whole_turned_about" 479 284
def T3(P:dP):BT:=(nd (boot_o_0 P) (nd (boot_o_1 P) (nd (ac8 P) (nd (boot_o_7 P) (nd o6 (nd o0 (nd o36 (nd o0 (ly aB8) .nil) (ly ab8)) (nd o0 (ly o1) (ly o0))) (nd o0 (nd o1 (nd o89 (ly ae2) .nil) (ly o1)) (nd o71 (ly o0) (ly ad1)))) (nd (o11 P) (nd o23 (nd o0 (nd o1 (ly o0) .nil) (ly VJ)) (nd o63 (ly ab2) (ly aB2))) (nd o0 (nd o54 (nd o94 (ly o0) .nil) (ly ac4)) (nd o76 (ly o0) (ly o1))))) (nd o0 (nd o1 (nd o0 (nd (o40 P) (nd o82 (ly ad8) .nil) (ly o1)) (nd o0 (ly Vx) (ly o0))) (nd o30 (nd o52 (nd o1 (ly o0) .nil) (ly VO)) (nd o73 (ly VE) (ly aB5)))) (nd o15 (nd o0 (nd o47 (nd o87 (ly o0) .nil) (ly ac1)) (nd (o67 P) (ly o1) (ly o1))) (nd o0 (nd o57 (nd o96 (ly aC6) .nil) (ly VR)) (nd o0 (ly o0) (ly ad5)))))) (nd (boot_o_5 P) (nd (boot_o_9 P) (nd (o8 P) (nd o18 (nd o38 (nd o81 (ly aB9) .nil) (ly VI)) (nd o60 (ly o0) (ly VS))) (nd o28 (nd o0 (nd o91 (ly o1) .nil) (ly o0)) (nd o0 (ly ab4) (ly o0)))) (nd o13 (nd o7 (nd o46 (nd o0 (ly ad9) .nil) (ly o0)) (nd o65 (ly VA) (ly ad0))) (nd o33 (nd o55 (nd o0 (ly aC5) .nil) (ly ac5)) (nd o1 (ly VF) (ly o0))))) (nd o2 (nd o10 (nd o21 (nd o42 (nd o84 (ly o1) .nil) (ly o0)) (nd o62 (ly o0) (ly aB1))) (nd o7 (nd o0 (nd o0 (ly ae3) .nil) (ly o0)) (nd o74 (ly o1) (ly ad4)))) (nd o7 (nd o25 (nd o49 (nd o0 (ly aC2) .nil) (ly VN)) (nd o69 (ly VB) (ly o0))) (nd o35 (nd o7 (nd o98 (ly ae6) .nil) (ly o1)) (nd o79 (ly ab7) (ly o0))))))) (nd (boot_o_2 P) (nd (boot_o_4 P) (nd (boot_o_8 P) (nd o7 (nd o1 (nd o37 (nd o1 (ly o0) .nil) (ly VH)) (nd o59 (ly o99) (ly ac7))) (nd (o27 P) (nd o50 (nd o90 (ly o0) .nil) (ly ac2)) (nd o72 (ly o1) (ly ad2)))) (nd o12 (nd LA (nd o1 (nd o85 (ly aC1) .nil) (ly VL)) (nd o64 (ly Vz) (ly ac9))) (nd o32 (nd o0 (nd o95 (ly o1) .nil) (ly o0)) (nd o0 (ly ab6) (ly aB6))))) (nd aB0 (nd o9 (nd (o20 P) (nd o41 (nd o83 (ly o0) .nil) (ly ab9)) (nd o1 (ly Vy) (ly o1))) (nd LA (nd o53 (nd o92 (ly aC4) .nil) (ly VP)) (nd o0 (ly o0) (ly ad3)))) (nd LA (nd o1 (nd o48 (nd o88 (ly o1) .nil) (ly VM)) (nd o68 (ly ab3) (ly aB3))) (nd o1 (nd o0 (nd o97 (ly ae5) .nil) (ly o0)) (nd o78 (ly o1) (ly ad6)))))) (nd (boot_o_6 P) (nd (boot_o_10 P) (nd o0 (nd o19 (nd o39 (nd o0 (ly ad7) .nil) (ly o0)) (nd o61 (ly ab1) (ly VT))) (nd o29 (nd o51 (nd o0 (ly aC3) .nil) (ly ac3)) (nd o1 (ly VD) (ly o1)))) (nd o14 (nd (o24 P) (nd o0 (nd o86 (ly ae0) .nil) (ly o1)) (nd o66 (ly o0) (ly o0))) (nd o34 (nd o56 (nd o1 (ly o0) .nil) (ly VQ)) (nd o77 (ly VG) (ly aB7))))) (nd o3 (nd o0 (nd o22 (nd o43 (nd o0 (ly aC0) .nil) (ly ac0)) (nd o0 (ly o1) (ly o0))) (nd (o31 P) (nd o1 (nd o93 (ly ae4) .nil) (ly o1)) (nd o75 (ly ab5) (ly o0)))) (nd (o17 P) (nd o26 (nd o0 (nd o1 (ly ae1) .nil) (ly o0)) (nd o70 (ly VC) (ly aB4))) (nd o0 (nd (o58 P) (ly o0) (ly ac6)) (nd o80 (ly o0) (ly o1))))))))
def S3(w:bI)(os:OsState):SharedT:=⟨T3 w.params,286,lf0,#[],⟨0,0,0,0⟩,588,os⟩
def H1(P:dP):aQ:=⟨⟨[boot_o_0 P,boot_o_1 P,boot_o_2 P,ac8 P,boot_o_4 P,boot_o_5 P,boot_o_6 P,boot_o_7 P,boot_o_8 P,boot_o_9 P,boot_o_10 P,o0,aB0,o2,o3,o6,o7,o8 P,o0,o1,o9,o10,o0,o11 P,o12,o13,o14,o15,LA,o7,o17 P,o0,o1,o18,o19,o0,o20 P,o21,o22,o23,LA,o7,o24 P,o0,o1,o25,o26,o0,o27 P,o28,o29,o30,LA,o7,o31 P,o0,o32,o33,o34,o0,o1,o35,o0,o36,o37,o38,o39,o40 P,o41,o42,o43,o0,o1,o46,o0,o47,o48,o49,o0,o1,o50,o0,o51,o52,o53,o0,o1,o54,o0,o55,o56,o57,o0,o7,o58 P,o0,o59,o60,o61,o0,o1,o62,o0,o63,o64,o65,o66,o67 P,o68,o69,o70,o71,o72,o0,o1,o73,o0,o74,o75,o76,o0,o1,o77,o0,o78,o79,o80,o0,o1,o81,o0,o82,o83,o84,o0,o1,o85,o0,o86,o87,o88,o0,o1,o89,o90,o91,o0,o1,o92,o0,o93,o94,o95,o0,o1,o96,o97,o98,o0,o1,o99,o0,ab1,Vx,Vy,o0,o1,ab2,Vz,VA,o0,o1,ab3,VB,VC,o0,o1,ab4,VD,VE,o0,o1,ab5,o0,ab6,VF,VG,o0,o1,ab7,o0,ab8,VH,VI,o0,o1,ab9,o0,ac0,VJ,VL,o0,o1,ac1,VM,VN,o0,o1,ac2,o0,ac3,VO,VP,o0,o1,ac4,o0,ac5,VQ,VR,o0,o1,ac6,o0,ac7,VS,VT,o0,o1,aB1,o0,aB2,ac9,ad0,o0,o1,aB3,o0,aB4,ad1,ad2,o0,o1,aB5,ad3,ad4,o0,o1,aB6,o0,aB7,ad5,ad6,o0,o1,aB8,o0,aB9,ad7,ad8,o0,o1,aC0,o0,aC1,ad9,ae0,o0,o1,aC2,ae1,ae2,o0,o1,aC3,o0,aC4,ae3,ae4,o0,o1,aC5,o0,aC6,ae5,ae6]⟩,lf0⟩
def env:Env:={scope:=pq.main.scope,locals:=mainNs,globals:=mainNs,cells:=[],code:=(.ref 13),frame:=some 14}
abbrev bE:List aX:=behindTheImports pq
def cE:Code:= .body bE env
abbrev fp:Pos:=⟨0,0,0,0⟩
abbrev B:List Frame:=[topFrame fp]
def pre(w:bI)(os:OsState):topGo treeTable pq w 11 (some (.ref 6)) 12 ⟨boot_heap w.params,#[],boot_drawn,boot_toks,os⟩ (topStub pq)=some (⟨Ha w.params,#[],⟨0,0,0,0⟩,187,os⟩,⟨denote treeTable cE,cE,⟨0,0,0,0⟩,B⟩):=by kernel_rfl
def block(w:bI)(os:OsState):segRun treeTable pq w 11 (some (.ref 6)) 1 1 ⟨Ha w.params,#[],⟨0,0,0,0⟩,187,os⟩ (blockOf bE env cE ⟨0,0,0,0⟩ B)=some (.next,(S0 w os).abs,cE,⟨0,0,0,0⟩):=by kernel_rfl
def g0:List aX:=tk 8 (dr 0 bE)
def r0(w:bI)(os:OsState):segRunT treeTable pq w 11 (some (.ref 6)) 1 894 (S0 w os) (piecesOf g0 env cE ⟨0,0,0,0⟩ B)=some (.next,S1 w os,cE,⟨15,0,15,10⟩):=by kernel_rfl
def g1:List aX:=tk 26 (dr 8 bE)
def r1(w:bI)(os:OsState):segRunT treeTable pq w 11 (some (.ref 6)) 1 891 (S1 w os) (piecesOf g1 env cE ⟨15,0,15,10⟩ B)=some (.next,S2 w os,cE,⟨122,0,125,12⟩):=by kernel_rfl
def g2:List aX:=tk 9 (dr 34 bE)
def r2(w:bI)(os:OsState):segRunT treeTable pq w 11 (some (.ref 6)) 1 294 (S2 w os) (piecesOf g2 env cE ⟨122,0,125,12⟩ B)=some (.next,S3 w os,cE,⟨179,0,196,89⟩):=by kernel_rfl
def fin(w:bI)(os:OsState):topRun treeTable pq w 11 (some (.ref 6)) 2 (S3 w os).abs ⟨doneF .next,cE,⟨179,0,196,89⟩,B⟩=some ⟨H1 w.params,#[],⟨0,0,0,0⟩,588,os⟩:=by kernel_rfl
def hb:bE=(g0++(g1++(g2++[]))):=by kernel_rfl
def run(w:bI)(os:OsState):topRun treeTable pq w 11 (some (.ref 6)) (12+(1+(894+(891+(294+2))))) ⟨boot_heap w.params,#[],boot_drawn,boot_toks,os⟩ (topStub pq)=some ⟨H1 w.params,#[],⟨0,0,0,0⟩,588,os⟩:=
  go_top (pre w os) (piece_block (block w os) (Vv hb (piece_app (segRun_of (r0 w os)) (piece_app (segRun_of (r1 w os)) (piece_app (segRun_of (r2 w os)) (piece_nil (fin w os)))))))
def K(P:dP):Frag:=(nat_lit 0,boot_o_0 P)::(nat_lit 1,boot_o_1 P)::(nat_lit 2,boot_o_2 P)::(nat_lit 3,ac8 P)::(nat_lit 4,boot_o_4 P)::(nat_lit 5,boot_o_5 P)::(nat_lit 6,boot_o_6 P)::(nat_lit 7,boot_o_7 P)::(nat_lit 8,boot_o_8 P)::(nat_lit 9,boot_o_9 P)::(nat_lit 10,boot_o_10 P)::(nat_lit 13,o2)::(nat_lit 23,o11 P)::(nat_lit 24,o12)::(nat_lit 36,o20 P)::(nat_lit 37,o21)::(nat_lit 48,o27 P)::(nat_lit 49,o28)::(nat_lit 64,o37)::(nat_lit 65,o38)::(nat_lit 67,o40 P)::(nat_lit 68,o41)::(nat_lit 76,o48)::(nat_lit 77,o49)::(nat_lit 83,o52)::(nat_lit 84,o53)::(nat_lit 90,o56)::(nat_lit 91,o57)::(nat_lit 104,o64)::(nat_lit 105,o65)::(nat_lit 107,o67 P)::(nat_lit 108,o68)::(nat_lit 118,o75)::(nat_lit 119,o76)::(nat_lit 125,o79)::(nat_lit 126,o80)::(nat_lit 132,o83)::(nat_lit 133,o84)::(nat_lit 139,o87)::(nat_lit 140,o88)::(nat_lit 144,o90)::(nat_lit 145,o91)::(nat_lit 151,o94)::(nat_lit 152,o95)::(nat_lit 156,o97)::(nat_lit 157,o98)::(nat_lit 163,Vx)::(nat_lit 164,Vy)::(nat_lit 168,Vz)::(nat_lit 169,VA)::(nat_lit 173,VB)::(nat_lit 174,VC)::(nat_lit 178,VD)::(nat_lit 179,VE)::(nat_lit 185,VF)::(nat_lit 186,VG)::(nat_lit 192,VH)::(nat_lit 193,VI)::(nat_lit 199,VJ)::(nat_lit 200,VL)::(nat_lit 204,VM)::(nat_lit 205,VN)::(nat_lit 211,VO)::(nat_lit 212,VP)::(nat_lit 218,VQ)::(nat_lit 219,VR)::(nat_lit 225,VS)::(nat_lit 226,VT)::(nat_lit 232,ac9)::(nat_lit 233,ad0)::(nat_lit 239,ad1)::(nat_lit 240,ad2)::(nat_lit 244,ad3)::(nat_lit 245,ad4)::(nat_lit 251,ad5)::(nat_lit 252,ad6)::(nat_lit 258,ad7)::(nat_lit 259,ad8)::(nat_lit 265,ad9)::(nat_lit 266,ae0)::(nat_lit 270,ae1)::(nat_lit 271,ae2)::(nat_lit 277,ae3)::(nat_lit 278,ae4)::(nat_lit 284,ae5)::(nat_lit 285,ae6)::[]
noncomputable abbrev as:List av:=[202,0,1,2,3,4,5,6,7,8,9,10,13,23,24,36,37,48,49,64,65,67,68,76,77,83,84,90,91,104,105,107,108,118,119,125,126,132,133,139,140,144,145,151,152,156,157,163,164,168,169,173,174,178,179,185,186,192,193,199,200,204,205,211,212,218,219,225,226,232,233,239,240,244,245,251,252,258,259,265,266,270,271,277,278,284,285]
abbrev q:cS:=view PySem.Challenge.pw_pegleap_k13_whole_turned_about [1,2,3,4,6,7,8,9,10,11,12,13,14,15,16,18,19,20,21,22,23,25,26,27,28,29,30,31,33,34,35,36,37,38,39,40,41,42]
abbrev loose:List Str:=[]
abbrev lv:List (Str×WData):=[]
def dL:DefRec:=match st 42 with | .FunctionDef n a b _ _ _ sc _ _ ps=>⟨n,a,b,sc,ps⟩|_=>⟨default,default,[],default,⟨0,0,0,0⟩⟩
theorem ws:PySem.Challenge.rw_pegleap_k13_whole_turned_about.wellSaid=true:=by kernel_rfl
theorem size(w:bI):((boot_heap w.params).isNs cZ&&(#[]:Array GenState).size==0,(boot_heap w.params).objs.size,(boot_heap w.params).nsMap cZ "__annotations__")=(true,11,(some (.ref 6))):=by kernel_rfl
theorem aC7(w:bI):(fun os=>((staticsOk (importedModules pq.main.body) (boot_heap w.params) (H1 w.params)&&namesBound pq (H1 w.params)&&gensDone ⟨H1 w.params,#[],⟨0,0,0,0⟩,588,os⟩&&laidKept (boot_heap w.params) (H1 w.params)),openSeen q loose (importedModules pq.main.body) (fun s=>xlAt q lv s&&recOk (RowW.records (OpenRow.toRowW (OpenLaw.row PySem.Challenge.rw_pegleap_k13_whole_turned_about))) s) true ⟨H1 w.params,#[],⟨0,0,0,0⟩,588,os⟩,(fun s:ay=>as.map s.heap.get?) ⟨H1 w.params,#[],⟨0,0,0,0⟩,588,os⟩))=fun _=>(true,openGood q loose,(fun w:bI=>(((nat_lit 202,o1)::K w.params)).map fun p=>some p.2) w):=by kernel_rfl
theorem hl:LeftO pq q loose (fun s=>xlAt q lv s&&recOk (RowW.records (OpenRow.toRowW (OpenLaw.row PySem.Challenge.rw_pegleap_k13_whole_turned_about))) s) (fun s:ay=>as.map s.heap.get?) (fun w:bI=>(((nat_lit 202,o1)::K w.params)).map fun p=>some p.2) 4278:=
  LeftO.of_pieces (boot_open (by kernel_rfl) (by kernel_rfl) (fun s=>by kernel_rfl)) size run (by kernel_rfl) aC7
end Hd
end
open PySem PySem.W PyProof.Rows
set_option maxRecDepth 100000 in
set_option maxHeartbeats 0 in
theorem PySem.Challenge.cw_pegleap_k13_whole_turned_about_holds : PySem.Challenge.rw_pegleap_k13_whole_turned_about.Holds := by
  refine holds_law Hd.ws fun aT6=> ?_
  refine holds_openX (r:=OpenLaw.row PySem.Challenge.rw_pegleap_k13_whole_turned_about) (d:=Hd.dL) (kwd:=[]) Hd.hl (fun s e=>xl_of s (Bool.and_eq_true_iff.mp e).1) XL.keeps (by kernel_rfl) (by kernel_rfl) (by kernel_rfl) (fun s e=>recFacts_of (Bool.and_eq_true_iff.mp e).2) (by kernel_rfl) aT6 (by kernel_rfl) ⟨rfl,rfl,rfl,rfl,rfl,by kernel_rfl⟩ ?hw ?hc
  (case hw=>w_on;w_witness2)
  k_fill
  refine Pk.az2 (l:=PySem.Challenge.rw_pegleap_k13_whole_turned_about) (K:=fun P=>(nat_lit 202,Hd.o1)::Hd.K P) (K1:=Hd.K) (T0:=202) (by kernel_rfl) (by kernel_rfl) (fun _=>by kernel_rfl) (fun _=>by kernel_rfl) (fun _=>by kernel_rfl) (fun _=>⟨204,by kernel_rfl⟩) ?F
  case F=>
    intro w mg fa h KX G hmg
    exact Pk.az1 (h:=h) hmg ⟨⟨_,_,_,_,_,202,_,_,_⟩,⟨Dm.qO KX G,Dm.qO KX G,Dm.qO KX G,Dm.qO KX G,Dm.qO KX G,Dm.qO KX G,Dm.qO KX G,Dm.qO KX G,Dm.qO KX G,Dm.qO KX G,Dm.qO KX G,Dm.qO KX G,Dm.qO KX G,Dm.qO KX G,Dm.qO KX G,Dm.qO KX G,Dm.qO KX G,Dm.qO KX G,Dm.qO KX G,Dm.qO KX G,Dm.qO KX G,Dm.qO KX G,Dm.qO KX G,Dm.qO KX G,Dm.qO KX G,Dm.qO KX G,Dm.qO KX G,Dm.qO KX G,Dm.qO KX G,Dm.qO KX G,Dm.WR KX G,Dm.WR KX G,Dm.WR KX G,Dm.WR KX G,Dm.WR KX G,Dm.WR KX G,Dm.WR KX G,Dm.WR KX G,Dm.WQ KX G,Dm.WQ KX G,Dm.WQ KX G,Dm.WQ KX G,Dm.WQ KX G,Dm.WQ KX G,Dm.WQ KX G,Dm.WQ KX G,by kernel_rfl,by kernel_rfl,Dm.aQ8 KX G,Dm.bmS KX G,by decide,Dm.clS,Dm.naS,Dm.inS⟩,rfl⟩ (fun t ns hl=>Pk.aA9 t ns)
end ab0
