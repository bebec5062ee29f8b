import PyProof.Rows.All
import Wide.All
import OpenK.AllK
import Wide.FinOn
import PySem.Challenge.RW_pegleap_k08_reached
import Lean
import PyProof.EqAt
import PyProof.EqKinds
import PyProof.TupleCall
import KE.KIsAll
import PyProof.ExcAttrAll.ValueError
import OpenK.KDescr
import PyProof.NeKinds
import PySem.SetOps
import PyProof.ZipIter
import KE.KDictOf
import PyProof.AttrMissHeap
import PyProof.FactsAll.zip_1
import PyProof.DictRoadsH
import PyProof.TupleKey
import PyProof.EnumMake
import PyProof.ConsumeWalk
import PyProof.FactsAll.list_3
import PyProof.SumWalkG
import PyProof.WalkInts
import PyProof.SeqI3
import PyProof.DictUpdate
import PyProof.DictItems
import PyProof.Rows.TupDisplay
import PyProof.DictIter
import PyProof.DictWalks
import PyProof.Conv_int_bool
import KE.KLam
import KE.KSortKey
import Open.Pieces
set_option Elab.async false
set_option linter.all false
set_option maxRecDepth 100000
set_option maxHeartbeats 4000000
noncomputable section
section
open PySem PySem.Spec PySem.W PyProof.Rows
abbrev aM4:=@if_pos
abbrev aM5:=@if_neg
abbrev aM6:=@decide_eq_true
abbrev aM7:=@decide_eq_false
abbrev aM8:=@beq_iff_eq
abbrev aM9:=@decide_eq_true_eq
abbrev aN0:=@of_decide_eq_true
abbrev aN1:=@beq_eq_false_iff_ne
abbrev aN2:=@if_false
abbrev aN3:=@if_true
abbrev aN4:=@or_false
abbrev aN5:=@beq_self_eq_true
abbrev aN6:=@absurd
abbrev aN7:=@bne_self_eq_false
abbrev aN8:=@of_decide_eq_false
end
open PySem.W (Frag)
open PySem renaming Value->av,World->bQ,Program->dG,Addr->ay,Heap->aY,sizeLine->cU,sysModules->oJ,entryOfKey->qx,mainGlobals->dM,bootBuiltins->jU,Around->cH,Shared->aA,Scope->iQ,wpAny->aB,Expr->bF,model->aD,starEach->bN,Stmt->bz,wpAny_mono->iI,wpAny_Name->CG,wpAny_loadName_local->LC,wpAny_truthy_bool->wW,wpAny_execs_nil->Ia,wpAny_execs_cons->Um,assignEach->vq,wpAny_assign_Name->Uo,wpAny_bind->ah,wpAny_holding->jh,wpAny_standAt->A0,wpAny_pure->aC,wpAny_newObj_type->ou,wpAny_rule->wX,wpAny_passesOwn->wY,wpAny_pyNext_list_item->Up,wpAny_pyNext_list_end->Uq,wpAny_pyIter_list->LD,foldedSetIterable->qy,compareOp->iR,sizeLine_eq->gG,attributeBase->s8,wpAny_Tuple_spliced->LF,FuncData->gP,mem_of_lookup->wZ,wpAny_newFunctionEnv_cells->LG,wpAny_Call_Name_kw->uh,slot_list_getitem->LH,wpAny_Call_method0_late->LJ,evalArgs_none->LK,wpAny_Call_method_late->LL,codeAny_mono->um,wpAny_field->qO,wpAny_setField->qP,wpAny_call->AX,wpAny_attempt->oK,wpAny_newTuple->EV,wpAny_newList->x6,wpAny_loadPart'->k9,wpAny_forIn_list->mC,richCompare_meets_room->LM,wpAny_call_entry->iK,SetTable->i0,wpAny_setState_of->LN,putSet_of->AY,wpAny_of_eq->uo,wpAny_storeSet_of->LO,codeAny_builtin->mD,plainId_quiet->x8,wpAny_askSetting->EW,entryFor_of_tree->LP,wpAny_pyIter_slot->AZ,wpAny_callSpecial?_slot->qQ,wpAny_fieldsOf->uq,firstArgMember->ur,wpAny_handled->EX,wpAny_throw->EY,wpAny_isInstance->qR,isSubtype_stop->EZ,wpAny_specialOf->qS,wpAny_typeOf->B0,wpAny_seqItems->F0,wpAny_comprehension_free->LQ,wpAny_tupleItemsOf->F5,isSubtype_tuple_tuple->LR,wpAny_pyIter_enum->LS,storedH_new->F6,wpAny_dictEntries->kj,wpAny_letGo->F7,size_of_entries->oM,DictEntry->qT,wpAny_dictEpoch->oN,wpAny_notOrdered_dict->F8,wpAny_typeNameOfWhole_itemiter->B3,wpAny_typeNameOf_itemiter->B4,wpAny_isOneOf_itemiter->F9,wpAny_setField_rec->x9,wpAny_typeNameOfWhole_keyiter->B5,wpAny_typeNameOf_keyiter->B6,wpAny_isOneOf_keyiter->LU,Params->fY
open PySem.Value renaming int->Fe,str->Rg,isInt_shape->Zc,none->ez,ref->eW,type->sd
open PySem.W renaming instObj->vt,hideAll->A7,hideAll_get->LV,of_hideAll->Ib,hideAll_none->Ur,Frag->aE,findIn->xg,emptyDict->sf,keepIn->qU,cellsFrom_some->LW,fnOf->nF,callWith_K->LX,kas_item_eq->Ff,kia_one->uu
open PySem.Heap renaming lt_size->cu,SameBut->i6,get?_push_of_some->bU,get?_push_size->eV,size_push->A8,get?_update_other->Fg,get?_update_self->nH,get?_update_ne->Fi,size_update->LY
open Nat renaming lt_of_lt_of_le->iS,lt_irrefl->sj,ne_of_lt->dH,le_trans->cI,le_of_lt->ji,ne_of_gt->CH,le_refl->bg,le_of_eq->LZ,lt_succ_self->A9,zero_le->i7,le_of_not_lt->mE,le_succ->xh,not_lt_zero->jK,min_self->M1,lt_of_le_of_lt->qV,le_add_right->Fj,lt_of_succ_lt->uv,lt_of_le_of_ne->M6,zero_add->mF,pos_of_ne_zero->Fl,add_zero->Fo,add_sub_cancel->B7,add_assoc->xj,not_lt->Fp,pow_succ->M7,mod_lt->qW,succ_pos->uw,div_eq_of_lt->M8,lt_or_eq_of_le->M9,lt_trichotomy->ux,min_eq_left->Fq,lt_succ_of_lt->xm,eq_zero_or_pos->Ma,le_antisymm->Mb,sub_zero->Mc,lt_or_ge->Me,min_eq_right->Mf,add_comm->Mg,succ_mul->Mh,pow_le_pow_right->Mi
open List renaming range->dU,mem_filter->vz,mem_range->l6,filterMap_cons->Mj,mem_cons_self->vA,mem_cons_of_mem->oO,mem_cons->bW,mem_append->gH,mem_append_left->Aa,getElem?_eq_some_iff->eL,getElem?_set_self->kJ,getElem?_set_ne->jH,mem_filterMap->CI,mem_append_right->mY,length_cons->dg,lookup->qz,map_cons->bG,length_map->br,append_nil->ko,nodup_cons->l7,of_mem_zip->Ft,replicate->mG,length_take->l8,getElem?_append_right->kq,getElem?_replicate->uy,getElem?_append_left->kr,getElem?_map->di,getElem?_take_of_lt->Fv,take_sublist->Ml,mem_of_getElem?->iM,length_append->cG,length_replicate->Fw,length_drop->xo,size_toArray->dI,length_singleton->B8,map_nil->nI,filterMap_cons_some->Mm,exists_cons_of_length_eq_add_one->uz,eq_nil_of_length_eq_zero->Mn,all_map->Mp,extract_eq_take_drop->gx,map_take->Fx,map_drop->Fy,pairwise_append->xq,append_assoc->fP,pairwise_iff_getElem->qX,drop_eq_getElem_cons->uA,mem_iff_getElem->j4,take_append_drop->nJ,take_of_length_le->uB,drop_length->B9,mem_of_mem_drop->uC,mem_singleton->eY,not_mem_nil->fQ,reverse_append->Mq,mem_reverse->uD,reverse_perm->Fz,pairwise_reverse->FA,mem_of_mem_take->oQ,take_length->xr,nil_append->gf,getD_eq_getElem?_getD->nK,length_eq_zero_iff->oR,foldl_cons->Mr,getElem?_take->FE,getElem?_drop->Ms,map_append->iN,ext_getElem?->Ba,getElem?_eq_none->uE,ext_getElem->Mt,length_range->xu,map_toArray->FF,map_map->eZ,map_congr_left->uF,append_inj->Mu,cons_append->Bb,zip_cons_cons->Mv,countP_cons->xw,pairwise_map->Bc,all_eq_true->f7,getElem?_cons_succ->Mw,getElem?_eq_getElem->dz,pairwise_lt_range->Mz,getElem?_range->MA,getElem_mem->uG,mem_map->aO,perm_middle->MB,nodup_iff_pairwise_ne->qY,getElem_map->uH,nodup_nil->FG,eraseIdx_eq_take_drop_succ->MC,isEmpty_nil->FH,length_nil->qZ,take_succ->MD,take_succ_cons->ME,drop_succ_cons->MF,any_cons->xx,getElem?_eq_none_iff->nM,mapM_cons->FI,perm_ext_iff_of_nodup->Bd,lookup_cons->uI,getElem?_mapIdx->FJ,flatMap_cons->r8,zip_append->MG,flatMap_append->r9,nodup_append->xy,range'_succ->MH,drop_of_length_le->FL,Nodup->nN,map_id->Be,filter_cons_of_pos->MJ,filter_cons_of_neg->MK,mem_flatMap->ML,pairwise_cons->xA,filter_sublist->rf,mem_erase_of_ne->MM,length_erase_of_mem->MN,length_pos_of_mem->MO,length_filter_le->oS,filter_append->FN,foldl_append->MP,any_eq_true->rg,flatMap_singleton->MQ,any_map->FO,map_eq_nil_iff->MR
open Ne renaming symm->eU
open Option.some renaming inj->fq
open PySem.Calls renaming Name_function_global->MS,loadGlobal_builtin->Us,spliced_nil->Bf,spliced_cons->xB,call_len_list->MT,callWith_builtin->Bg,evalArgs_plain->FP
open Array renaming length_toList->dN,mem_toList_iff->Ab,getElem?_toList->l9,getElem?_eq_some_iff->oU,getElem_toList->MU,getD_eq_getD_getElem?->jm,perm_iff_toList_perm->MV,toList_push->FQ,toList_inj->Bh,toList_zip->MW,getElem?_eq_none->rj,getElem?_eq_none_iff->MX,getElem?_eq_getElem->xC,any_toList->Bj,forIn_toList->xD,isEmpty_iff->MY,size_push->MZ
open PyProof.Rows renaming assignInOrder_nil->Ut,assignInOrder_cons->N1,callWith_type1->N2,callWith_builtin1->N3,lt_int->Vh,subscriptTail_builtinR->N4,SortSt->bJ,SortKind->iO,wpS_bind->aM,wpS_get->mH,wpS_pure->aP,wpS_modify->rm,wpS_forRange->j5,wpS_mono->ku,seqObj->cJ,get?_update_seq->xE,listItems_at->FT,listUpdate_at->rq,seqEpoch_at->xF,seqObj->fu,listUpdate_at->FU,get?_update_seq->FW,entry_proto_collect'->Vi,entry_list_iadd'->Vj,callWith_kw->Vk
open Bool renaming false_ne_true->jo,and_eq_true->bR,and_true->uJ,and_false->FY,eq_false_iff->xG,not_true->j6,false_eq_true->dj,not_false->Bk,or_eq_true->lg,true_and->Bl,not_eq_true->N5,false_or->FZ,eq_iff_iff->oV
open PySem.W.Looks renaming here->Zd
open PySem.Within renaming cons->Ze
open Option renaming isSome_iff_exists->N6,getD_none->N7
open False renaming elim->nO
open PySem.Heap.IsSliceOf renaming new->Vl
open PySem.Obj renaming mapSeq->dm,isFreed_of_fields->Bm,data_mapFields->uK,cls_mapFields->G1,isFreed_of_dict->N8,data_mapDictKeys->Bo
open Or renaming inl->cS,inr->gQ
open PySem.Heap.UpToSlots renaming of_keeps->Vm
open Nat.succ renaming inj->fR
open List.Perm renaming append_left->N9,eq_of_pairwise->Bp
open PySem.Heap.SameBut renaming update->fz,refl->Na
open StateT renaming run_pure->Nb
open List.cons renaming inj->Nc
open PySem.SetTable renaming insertAt->jq
open List.Pairwise renaming filterMap->Vn,map->rz,sublist->Vo
open PyProof.Rows.F renaming entry_set_update_loop->Nd,plain_set_update_loop->G3
open PySem.Around renaming under_plainId->rA
open PySem.F renaming plain_set_new->Nf,called_set->oW,slot_set_iter->Ng,slot_tuple_hash->Nh,slot_tuple_eq->Bq,slot_dict_len->Ni,slot_dict_update->Nj,plainAttrs_dict->Nk,slot_dict_items_iter->Nl,slot_dict_itemiterator_next->xH,entry_dict_itemiterator_next->Nm,args_dict_itemiterator_next_1->Nn,slot_dict_itemiterator_iter->Np,slot_dict_iter->Nq,slot_dict_keyiterator_next->xJ,entry_dict_keyiterator_next->Nr,args_dict_keyiterator_next_1->Nt,plainAttrs_list->rB,slot_list_append->uL,type_list_append->uM
open PySem.Code renaming quiet_builtin->G4
open PySem.Str renaming ofString->lq
open Int renaming toNat_natCast->kB,eq_ofNat_of_zero_le->G5,mul_nonneg->Nu,mul_le_mul->Nv,emod_nonneg->G6,emod_lt_of_pos->G7,mul_ediv_add_emod->Nx,ediv_nonneg->Ny,ediv_lt_of_lt_mul->Nz
open Decidable renaming byContradiction->G8
open ForInStep renaming yield->mJ
open PySem.Builtin.Tuple renaming tupleHashOf->Br
open PySem.Expr renaming Subscript->G9
open PySem.Builtin.Dict renaming showsAll->xK
open Std.Legacy.Range renaming forIn_eq_forIn_range'->Vp
open PySem.Builtin.Dict_items renaming ownsTuple->xM
open Prod renaming ext->mK
open Prod.mk renaming injEq->xN
section at4
theorem xO{p0 p1 p2:Prop}{G:Prop}(h:p0/\p1/\p2)(f:p0->p1->p2->G):G:=f h.1 h.2.1 h.2.2
theorem aU{mL:Sort _}{p0 p1:mL->Prop}{G:Prop}(h:∃a0,p0 a0/\p1 a0)(f:∀a0,p0 a0->p1 a0->G):G:=h.elim fun a0 h=>f a0 h.1 h.2
theorem rC{mL oX:Sort _}{p0:mL->oX->Prop}{G:Prop}(h:∃a0 a1,p0 a0 a1)(f:∀a0 a1,p0 a0 a1->G):G:=h.elim fun a0 h=>h.elim fun a1 h=>f a0 a1 h
theorem Ga{p0 p1 p2 p3:Prop}{G:Prop}(h:p0/\p1/\p2/\p3)(f:p0->p1->p2->p3->G):G:=f h.1 h.2.1 h.2.2.1 h.2.2.2
theorem cM{mL:Sort _}{p0 p1 p2:mL->Prop}{G:Prop}(h:∃a0,p0 a0/\p1 a0/\p2 a0)(f:∀a0,p0 a0->p1 a0->p2 a0->G):G:=h.elim fun a0 h=>f a0 h.1 h.2.1 h.2.2
theorem dO{mL oX:Sort _}{p0 p1:mL->oX->Prop}{G:Prop}(h:∃a0 a1,p0 a0 a1/\p1 a0 a1)(f:∀a0 a1,p0 a0 a1->p1 a0 a1->G):G:=h.elim fun a0 h=>h.elim fun a1 h=>f a0 a1 h.1 h.2
theorem Rh{p0 p1 p2 p3 p4:Prop}{G:Prop}(h:p0/\p1/\p2/\p3/\p4)(f:p0->p1->p2->p3->p4->G):G:=f h.1 h.2.1 h.2.2.1 h.2.2.2.1 h.2.2.2.2
theorem at5{mL:Sort _}{p0 p1 p2 p3:mL->Prop}{G:Prop}(h:∃a0,p0 a0/\p1 a0/\p2 a0/\p3 a0)(f:∀a0,p0 a0->p1 a0->p2 a0->p3 a0->G):G:=h.elim fun a0 h=>f a0 h.1 h.2.1 h.2.2.1 h.2.2.2
theorem bA{mL oX:Sort _}{p0 p1 p2:mL->oX->Prop}{G:Prop}(h:∃a0 a1,p0 a0 a1/\p1 a0 a1/\p2 a0 a1)(f:∀a0 a1,p0 a0 a1->p1 a0 a1->p2 a0 a1->G):G:=h.elim fun a0 h=>h.elim fun a1 h=>f a0 a1 h.1 h.2.1 h.2.2
theorem Ri{mL oX xP:Sort _}{p0 p1:mL->oX->xP->Prop}{G:Prop}(h:∃a0 a1 a2,p0 a0 a1 a2/\p1 a0 a1 a2)(f:∀a0 a1 a2,p0 a0 a1 a2->p1 a0 a1 a2->G):G:=h.elim fun a0 h=>h.elim fun a1 h=>h.elim fun a2 h=>f a0 a1 a2 h.1 h.2
theorem w6{p0 p1 p2 p3 p4 p5:Prop}{G:Prop}(h:p0/\p1/\p2/\p3/\p4/\p5)(f:p0->p1->p2->p3->p4->p5->G):G:=f h.1 h.2.1 h.2.2.1 h.2.2.2.1 h.2.2.2.2.1 h.2.2.2.2.2
theorem Rj{mL:Sort _}{p0 p1 p2 p3 p4:mL->Prop}{G:Prop}(h:∃a0,p0 a0/\p1 a0/\p2 a0/\p3 a0/\p4 a0)(f:∀a0,p0 a0->p1 a0->p2 a0->p3 a0->p4 a0->G):G:=h.elim fun a0 h=>f a0 h.1 h.2.1 h.2.2.1 h.2.2.2.1 h.2.2.2.2
theorem uN{mL oX:Sort _}{p0 p1 p2 p3:mL->oX->Prop}{G:Prop}(h:∃a0 a1,p0 a0 a1/\p1 a0 a1/\p2 a0 a1/\p3 a0 a1)(f:∀a0 a1,p0 a0 a1->p1 a0 a1->p2 a0 a1->p3 a0 a1->G):G:=h.elim fun a0 h=>h.elim fun a1 h=>f a0 a1 h.1 h.2.1 h.2.2.1 h.2.2.2
theorem Vq{mL oX xP:Sort _}{p0 p1 p2:mL->oX->xP->Prop}{G:Prop}(h:∃a0 a1 a2,p0 a0 a1 a2/\p1 a0 a1 a2/\p2 a0 a1 a2)(f:∀a0 a1 a2,p0 a0 a1 a2->p1 a0 a1 a2->p2 a0 a1 a2->G):G:=h.elim fun a0 h=>h.elim fun a1 h=>h.elim fun a2 h=>f a0 a1 a2 h.1 h.2.1 h.2.2
theorem at6{mL oX xP Jw:Sort _}{p0 p1:mL->oX->xP->Jw->Prop}{G:Prop}(h:∃a0 a1 a2 a3,p0 a0 a1 a2 a3/\p1 a0 a1 a2 a3)(f:∀a0 a1 a2 a3,p0 a0 a1 a2 a3->p1 a0 a1 a2 a3->G):G:=h.elim fun a0 h=>h.elim fun a1 h=>h.elim fun a2 h=>h.elim fun a3 h=>f a0 a1 a2 a3 h.1 h.2
theorem at7{mL oX xP Jw α4:Sort _}{p0:mL->oX->xP->Jw->α4->Prop}{G:Prop}(h:∃a0 a1 a2 a3 a4,p0 a0 a1 a2 a3 a4)(f:∀a0 a1 a2 a3 a4,p0 a0 a1 a2 a3 a4->G):G:=h.elim fun a0 h=>h.elim fun a1 h=>h.elim fun a2 h=>h.elim fun a3 h=>h.elim fun a4 h=>f a0 a1 a2 a3 a4 h
theorem Gb{mL oX:Sort _}{p0 p1 p2 p3 p4:mL->oX->Prop}{G:Prop}(h:∃a0 a1,p0 a0 a1/\p1 a0 a1/\p2 a0 a1/\p3 a0 a1/\p4 a0 a1)(f:∀a0 a1,p0 a0 a1->p1 a0 a1->p2 a0 a1->p3 a0 a1->p4 a0 a1->G):G:=h.elim fun a0 h=>h.elim fun a1 h=>f a0 a1 h.1 h.2.1 h.2.2.1 h.2.2.2.1 h.2.2.2.2
theorem Rk{mL oX xP:Sort _}{p0 p1 p2 p3:mL->oX->xP->Prop}{G:Prop}(h:∃a0 a1 a2,p0 a0 a1 a2/\p1 a0 a1 a2/\p2 a0 a1 a2/\p3 a0 a1 a2)(f:∀a0 a1 a2,p0 a0 a1 a2->p1 a0 a1 a2->p2 a0 a1 a2->p3 a0 a1 a2->G):G:=h.elim fun a0 h=>h.elim fun a1 h=>h.elim fun a2 h=>f a0 a1 a2 h.1 h.2.1 h.2.2.1 h.2.2.2
theorem at8{mL oX xP Jw:Sort _}{p0 p1 p2:mL->oX->xP->Jw->Prop}{G:Prop}(h:∃a0 a1 a2 a3,p0 a0 a1 a2 a3/\p1 a0 a1 a2 a3/\p2 a0 a1 a2 a3)(f:∀a0 a1 a2 a3,p0 a0 a1 a2 a3->p1 a0 a1 a2 a3->p2 a0 a1 a2 a3->G):G:=h.elim fun a0 h=>h.elim fun a1 h=>h.elim fun a2 h=>h.elim fun a3 h=>f a0 a1 a2 a3 h.1 h.2.1 h.2.2
theorem Zf{mL oX:Sort _}{p0 p1 p2 p3 p4 p5:mL->oX->Prop}{G:Prop}(h:∃a0 a1,p0 a0 a1/\p1 a0 a1/\p2 a0 a1/\p3 a0 a1/\p4 a0 a1/\p5 a0 a1)(f:∀a0 a1,p0 a0 a1->p1 a0 a1->p2 a0 a1->p3 a0 a1->p4 a0 a1->p5 a0 a1->G):G:=h.elim fun a0 h=>h.elim fun a1 h=>f a0 a1 h.1 h.2.1 h.2.2.1 h.2.2.2.1 h.2.2.2.2.1 h.2.2.2.2.2
theorem Bs{mL oX xP:Sort _}{p0 p1 p2 p3 p4:mL->oX->xP->Prop}{G:Prop}(h:∃a0 a1 a2,p0 a0 a1 a2/\p1 a0 a1 a2/\p2 a0 a1 a2/\p3 a0 a1 a2/\p4 a0 a1 a2)(f:∀a0 a1 a2,p0 a0 a1 a2->p1 a0 a1 a2->p2 a0 a1 a2->p3 a0 a1 a2->p4 a0 a1 a2->G):G:=h.elim fun a0 h=>h.elim fun a1 h=>h.elim fun a2 h=>f a0 a1 a2 h.1 h.2.1 h.2.2.1 h.2.2.2.1 h.2.2.2.2
theorem Zg{mL oX xP Jw:Sort _}{p0 p1 p2 p3:mL->oX->xP->Jw->Prop}{G:Prop}(h:∃a0 a1 a2 a3,p0 a0 a1 a2 a3/\p1 a0 a1 a2 a3/\p2 a0 a1 a2 a3/\p3 a0 a1 a2 a3)(f:∀a0 a1 a2 a3,p0 a0 a1 a2 a3->p1 a0 a1 a2 a3->p2 a0 a1 a2 a3->p3 a0 a1 a2 a3->G):G:=h.elim fun a0 h=>h.elim fun a1 h=>h.elim fun a2 h=>h.elim fun a3 h=>f a0 a1 a2 a3 h.1 h.2.1 h.2.2.1 h.2.2.2
theorem at9{mL oX xP:Sort _}{p0 p1 p2 p3 p4 p5:mL->oX->xP->Prop}{G:Prop}(h:∃a0 a1 a2,p0 a0 a1 a2/\p1 a0 a1 a2/\p2 a0 a1 a2/\p3 a0 a1 a2/\p4 a0 a1 a2/\p5 a0 a1 a2)(f:∀a0 a1 a2,p0 a0 a1 a2->p1 a0 a1 a2->p2 a0 a1 a2->p3 a0 a1 a2->p4 a0 a1 a2->p5 a0 a1 a2->G):G:=h.elim fun a0 h=>h.elim fun a1 h=>h.elim fun a2 h=>f a0 a1 a2 h.1 h.2.1 h.2.2.1 h.2.2.2.1 h.2.2.2.2.1 h.2.2.2.2.2
theorem Vr{mL oX xP Jw:Sort _}{p0 p1 p2 p3 p4:mL->oX->xP->Jw->Prop}{G:Prop}(h:∃a0 a1 a2 a3,p0 a0 a1 a2 a3/\p1 a0 a1 a2 a3/\p2 a0 a1 a2 a3/\p3 a0 a1 a2 a3/\p4 a0 a1 a2 a3)(f:∀a0 a1 a2 a3,p0 a0 a1 a2 a3->p1 a0 a1 a2 a3->p2 a0 a1 a2 a3->p3 a0 a1 a2 a3->p4 a0 a1 a2 a3->G):G:=h.elim fun a0 h=>h.elim fun a1 h=>h.elim fun a2 h=>h.elim fun a3 h=>f a0 a1 a2 a3 h.1 h.2.1 h.2.2.1 h.2.2.2.1 h.2.2.2.2
theorem au0{mL oX xP Jw:Sort _}{p0 p1 p2 p3 p4 p5:mL->oX->xP->Jw->Prop}{G:Prop}(h:∃a0 a1 a2 a3,p0 a0 a1 a2 a3/\p1 a0 a1 a2 a3/\p2 a0 a1 a2 a3/\p3 a0 a1 a2 a3/\p4 a0 a1 a2 a3/\p5 a0 a1 a2 a3)(f:∀a0 a1 a2 a3,p0 a0 a1 a2 a3->p1 a0 a1 a2 a3->p2 a0 a1 a2 a3->p3 a0 a1 a2 a3->p4 a0 a1 a2 a3->p5 a0 a1 a2 a3->G):G:=h.elim fun a0 h=>h.elim fun a1 h=>h.elim fun a2 h=>h.elim fun a3 h=>f a0 a1 a2 a3 h.1 h.2.1 h.2.2.1 h.2.2.2.1 h.2.2.2.2.1 h.2.2.2.2.2
theorem Vs{mL oX xP Jw α4 α5 α6 α7 α8:Sort _}{p0 p1 p2:mL->oX->xP->Jw->α4->α5->α6->α7->α8->Prop}{G:Prop}(h:∃a0 a1 a2 a3 a4 a5 a6 a7 a8,p0 a0 a1 a2 a3 a4 a5 a6 a7 a8/\p1 a0 a1 a2 a3 a4 a5 a6 a7 a8/\p2 a0 a1 a2 a3 a4 a5 a6 a7 a8)(f:∀a0 a1 a2 a3 a4 a5 a6 a7 a8,p0 a0 a1 a2 a3 a4 a5 a6 a7 a8->p1 a0 a1 a2 a3 a4 a5 a6 a7 a8->p2 a0 a1 a2 a3 a4 a5 a6 a7 a8->G):G:=h.elim fun a0 h=>h.elim fun a1 h=>h.elim fun a2 h=>h.elim fun a3 h=>h.elim fun a4 h=>h.elim fun a5 h=>h.elim fun a6 h=>h.elim fun a7 h=>h.elim fun a8 h=>f a0 a1 a2 a3 a4 a5 a6 a7 a8 h.1 h.2.1 h.2.2
end at4
section Zh
namespace L2
open PySem PySem.Spec PyProof.Rows
abbrev Key:=Sum Int Str
def Uu:Key->av->Bool
 | .inl k,v=>Value.isInt k v
 | .inr x,v=>Value.isStrOf x v
def au1(w:bQ):Key->Int
 | .inl k=>hashInt k
 | .inr x=>hashStr w x
theorem fD:∀{k:Key} {v:av},Uu k v=true->(∃i t,k=Sum.inl i/\v=Fe i t)\/(∃x t,k=Sum.inr x/\v=Rg x t)
 | .inl i,v,h=>by
  obtain⟨t,e⟩:=Zc (k:=i) (v:=v) h;exact .inl ⟨i,t,rfl,e⟩
 | .inr x,v,h=>by
  obtain⟨t,e⟩:=Value.isStrOf_shape (x:=x) (v:=v) h;exact .inr ⟨x,t,rfl,e⟩
theorem Vt(a b:Int):decide ((Sum.inl a:Key)=Sum.inl b)=(a==b):=by
 by_cases e:a=b;subst e;simp;have h:¬ (Sum.inl a:Key)=Sum.inl b:=fun q=>e (Sum.inl.inj q);rw[aM7 h];exact(aN1.mpr e).symm
theorem Vu(a b:Str):decide ((Sum.inr a:Key)=Sum.inr b)=decide (a=b):=by
 by_cases e:a=b;subst e;simp;have h:¬ (Sum.inr a:Key)=Sum.inr b:=fun q=>e (Sum.inr.inj q);rw[aM7 h,aM7 e]
theorem Vv(a:Int)(b:Str):decide ((Sum.inl a:Key)=Sum.inr b)=false:=aM7 (fun q=>nomatch q)
theorem Vx(a:Str)(b:Int):decide ((Sum.inr a:Key)=Sum.inl b)=false:=aM7 (fun q=>nomatch q)
def Ic(prog:dG)(w:bQ):PySem.KeyKind prog w Key where
 is:=Uu
 hash:=au1 w
 inj:=fun v a b ha hb=>by
  rcases fD ha with⟨i,t,rfl,rfl⟩|⟨x,t,rfl,rfl⟩;rcases fD hb with ⟨j,u,rfl,e⟩ | ⟨y,u,rfl,e⟩;injection e with e1 _;rw[e1];exact nomatch e;rcases fD hb with ⟨j,u,rfl,e⟩ | ⟨y,u,rfl,e⟩;exact nomatch e;injection e with e1 _;rw[e1]
 byValue:=fun k v h=>by
  rcases fD h with⟨i,t,rfl,rfl⟩|⟨x,t,rfl,rfl⟩ <;> rfl
 pyHash:=fun hv h=>by
  rcases fD hv with⟨i,t,rfl,rfl⟩|⟨x,t,rfl,rfl⟩;exact wpAny_pyHash_int h;exact wpAny_pyHash_str h
 eqBool:=fun hu hv h=>by
  rcases fD hu with⟨i,t,rfl,rfl⟩|⟨x,t,rfl,rfl⟩;rcases fD hv with ⟨j,u,rfl,rfl⟩ | ⟨y,u,rfl,rfl⟩;rw[Vt]at h;exact wpAny_eqBool_int h;rw[Vv]at h;exact SeqAt.EqAt.int_str i t y u _ _ _ _ h;rcases fD hv with ⟨j,u,rfl,rfl⟩ | ⟨y,u,rfl,rfl⟩;rw[Vx]at h;exact SeqAt.EqAt.str_int x t j u _ _ _ _ h;rw[Vu]at h;exact wpAny_eqBool_str h
 «strs»:=fun k x t v h=>by
  rcases fD h with⟨i,u,rfl,e⟩|⟨y,u,rfl,e⟩;exact nomatch e;injection e with e1 _;subst e1;cases v <;> rfl
inductive V where
 | dh|bl (b:Bool)|int (i:Int)|str (x:Str)|byt (b:Array UInt8)|flt (b:UInt64)|ref (a:ay)|ty (n:String)
 deriving DecidableEq
def RelV:V->av->Prop
 | .dh,u=>u=ez
 | .bl b,u=>u=Value.bool b
 | .int i,u=>∃t,u=Fe i t
 | .str x,u=>∃t,u=Rg x t
 | .byt b,u=>∃t,u=Value.bytes b t
 | .flt b,u=>∃t,u=Value.float b t
 | .ref a,u=>u=eW a
 | .ty n,u=>u=sd n
abbrev Vals:List V->List av->Prop:=Paired RelV
theorem Vals.length(r:Vals xs us):xs.length=us.length:=Paired.length r
theorem Vals.get:∀{xs:List V} {us:List av} {i:Nat} {x:V},Vals xs us->xs[i]?=some x->∃u,us[i]?=some u/\RelV x u
 | _,_,_,_,.nil,e=>by simp at e
 | _,_,0,_,.cons r _,e=>by simp at e;subst e;exact⟨_,rfl,r⟩
 | _,_,i+1,x,.cons _ t,e=>by
  refine aU (Vals.get (i:=i) (x:=x) t (by simpa using e)) fun u h1 h2=>?_;exact⟨u,by simpa using h1,h2⟩
theorem Vals.append(h:Vals xs us)(s:Vals ys ws):Vals (xs++ys) (us++ws):=by
 induction h with
 | nil=>exact s
 | cons r t ih=>exact .cons r ih
theorem Vals.take:∀{xs:List V} {us:List av} (n:Nat),Vals xs us->Vals (xs.take n) (us.take n)
 | _,_,0,_=>.nil
 | _,_,_+1,.nil=>.nil
 | _,_,n+1,.cons r t=>.cons r (Vals.take n t)
theorem Vals.drop:∀{xs:List V} {us:List av} (n:Nat),Vals xs us->Vals (xs.drop n) (us.drop n)
 | _,_,0,r=>r
 | _,_,_+1,.nil=>.nil
 | _,_,n+1,.cons _ t=>Vals.drop n t
def Gf:Option V->Option av->Prop
 | some v,some u=>RelV v u
 | none,none=>True
 | _,_=>False
def KV{κ:Type}:List (κ×V)->List (κ×av)->Prop:=Paired fun(p:κ×V) (q:κ×av)=>p.1=q.1/\RelV p.2 q.2
def kV:Key->V
 | .inl i=>.int i
 | .inr x=>.str x
inductive HO where
 | lst (xs:List V)
 | tup (xs:List V)
 | dK (CJ:List (Key×V))|dT (CJ:List (List Key×V))
 | set (S:Int->Bool) (n:Nat)
 | ins (C dx:ay) (fs:List (Str×V))
 | own (x:ay)
 | xd (fs:List (Str×V))
 | met (f x:ay)
 | Zi (lo hi:Int)
 | CK (o:Obj) (u:HO)
 | CL (p:PySem.Pos) (q:Str)
 | ext (φ:aY->Prop)
abbrev Hp:=ay->Option HO
def upd(H:Hp)(a:ay)(o:HO):Hp:=fun b=>if b=a then some o else H b
theorem bS:upd H a o a=some o:=by unfold upd;rw[aM4 rfl]
theorem aW(h:b≠a):upd H a o b=H b:=by unfold upd;rw[aM5 h]
theorem bf{H:Hp}(h:H a=some o)(h':H b=none):a≠b:=by
 intro e;subst e;rw[h]at h';cases h'
section
variable (P:dG)(w:bQ)
def gI(H:Hp)(h:aY)(a:ay):HO->Prop
 | .lst xs=>xs.length<=cU/\∃(bq:List av) (n:Nat),Vals xs bq/\h.get? a=some {cls:=.type "list",data:=.seq bq.toArray n}
 | .tup xs=>xs.length<=cU/\∃bq:List av,Vals xs bq/\IsTup h a bq.toArray
 | .dK CJ=>CJ.length<=cU/\(a==oJ)=false/\∃vs,KV CJ vs/\h.DictOf (Ic P w) a vs
 | .dT CJ=>CJ.length<=cU/\(a==oJ)=false/\∃xs:List (List Key×ay×av),
   Paired (fun(p:List Key×V) (q:List Key×ay×av)=>p.1=q.1/\H q.2.1=some (.tup (p.1.map kV))/\RelV p.2 q.2.2) CJ xs/\
   ∃o es ep,h.get? a=some o/\o.ExactDict/\o.data = .dict es ep/\es.toList=xs.map (qx (tupleKind (Ic P w)))/\(xs.map (·.1)).Nodup
 | .set S n=>h.SetOf (intKind P w) a S n
 | .ins C dx fs=>H dx=some (.own a)/\fs.length<=1000/\dx≠a/\h.get? a=some (vt C dx)/\
   ∃mA,h.Ns1 dx mA/\(∀f,Gf (fs.lookup f) (mA f))/\PySem.Within mA (fs.map (·.1))
 | .own _=>∃o,h.get? a=some o
 | .xd fs=>∃mA,h.Ns1 a mA/\∀f,Gf (fs.lookup f) (mA f)
 | .Zi lo hi=>∃t u v,h.get? a=some {cls:=.type "range",data:=.fields #[.int lo t,.int hi u,.int 1 v]}
 | .CK o u=>h.get? a=some o/\gI H h a u
 | .CL p q=>∃ps:Array av,h.get? a=some {cls:=.none,data:=.fields ps}/\TriplesOk ps.toList/\(codeAmong p ps.toList=none\/∃c oc vs t,codeAmong p ps.toList=some (.ref c)/\H c=some (.CK oc (.own c))/\oc.data = .fields vs/\vs[1]?=some (.str q t))
 | .met f x=>h.get? a=some (PySem.W.methodObj (.ref f) (.ref x))
 | .ext φ=>φ h/\(∃o,h.get? a=some o)/\∀h1 h2:aY,φ h1->(∀o,h1.get? a=some o->h2.get? a=some o)->φ h2
def rZ(H:Hp)(h:aY):Prop:=∀a o,H a=some o->gI P w H h a o
end
section
theorem gI.lt(x:gI P w H h a o):a<h.objs.size:=by
 cases o with
 | lst xs=>obtain⟨_,_,_,_,e⟩:=x;exact cu e
 | tup xs=>obtain⟨_,_,_,p⟩:=x;exact p.lt
 | dK CJ=>obtain⟨_,_,_,_,o,_,_,e,_⟩:=x;exact cu e
 | dT CJ=>obtain⟨_,_,_,_,o,_,_,e,_⟩:=x;exact cu e
 | set S n=>obtain⟨o,_,_,_,e,_⟩:=x;exact cu e
 | ins C dx fs=>obtain⟨_,_,_,e,_⟩:=x;exact cu e
 | own y=>obtain⟨_,e⟩:=x;exact cu e
 | xd fs=>obtain⟨_,⟨_,_,_,e,_⟩,_⟩:=x;exact cu e
 | Zi lo hi=>obtain⟨_,_,_,e⟩:=x;exact cu e
 | CK ob u=>obtain⟨e,_⟩:=x;exact cu e
 | CL p q=>obtain⟨_,e,_⟩:=x;exact cu e
 | met f y=>exact cu (show h.get? a=some _ from x)
 | ext φ=>obtain⟨_,⟨_,e⟩,_⟩:=x;exact cu e
theorem Paired.au2{G:α->β->Prop}(h:Paired F au3 au4)(f:∀a b,F a b->G a b):Paired G au3 au4:=by
 induction h with
 | nil=>exact .nil
 | cons r t ih=>exact .cons (f _ _ r) ih
theorem gI.zA(x:gI P w H h a o)(k:∀b u,(b=a\/H b=some (.own a))->h.get? b=some u->h'.get? b=some u)
  (ho:∀b,H b=some (.own a)->H' b=some (.own a)) (ht:∀b xs,H b=some (.tup xs)->H' b=some (.tup xs)) (hf:∀b o u,H b=some (.CK o u)->H' b=some (.CK o u)):gI P w H' h' a o:=by
 induction o with
 | lst xs=>obtain⟨z,bq,n,r,e⟩:=x;exact⟨z,bq,n,r,k _ _ (.inl rfl) e⟩
 | tup xs=>obtain⟨z,bq,r,ob,e,c⟩:=x;exact⟨z,bq,r,ob,k _ _ (.inl rfl) e,c⟩
 | dK CJ=>obtain⟨z,y,vs,r,ob,es,ep,e,c⟩:=x;exact⟨z,y,vs,r,ob,es,ep,k _ _ (.inl rfl) e,c⟩
 | dT CJ=>obtain⟨z,y,xs,r,ob,es,ep,e,c⟩:=x;exact⟨z,y,xs,Paired.au2 r fun p q z=>⟨z.1,ht _ _ z.2.1,z.2.2⟩,ob,es,ep,k _ _ (.inl rfl) e,c⟩
 | set S n=>obtain⟨ob,es,ep,t,e,c⟩:=x;exact⟨ob,es,ep,t,k _ _ (.inl rfl) e,c⟩
 | ins C dx fs=>obtain⟨d,z,ne,e,mA,⟨od,es,ep,e2,c⟩,r⟩:=x;exact⟨ho _ d,z,ne,k _ _ (.inl rfl) e,mA,⟨od,es,ep,k _ _ (.inr d) e2,c⟩,r⟩
 | own y=>obtain⟨ob,e⟩:=x;exact⟨ob,k _ _ (.inl rfl) e⟩
 | xd fs=>obtain⟨mA,⟨od,es,ep,e,c⟩,r⟩:=x;exact⟨mA,⟨od,es,ep,k _ _ (.inl rfl) e,c⟩,r⟩
 | Zi lo hi=>obtain⟨t,u,v,e⟩:=x;exact⟨t,u,v,k _ _ (.inl rfl) e⟩
 | CK ob u ih=>obtain⟨e,q⟩:=x;exact⟨k _ _ (.inl rfl) e,ih q⟩
 | CL p q=>obtain⟨ps,e,t,z⟩:=x;exact⟨ps,k a _ (.inl rfl) e,t,z.imp id fun⟨c,oc,vs,u,a,b,d⟩=>⟨c,oc,vs,u,a,hf _ _ _ b,d⟩⟩
 | met f y=>have e:h.get? a=some (PySem.W.methodObj (.ref f) (.ref y)):=x;show h'.get? a=some (PySem.W.methodObj (.ref f) (.ref y));exact k a _ (.inl rfl) e
 | ext φ=>obtain⟨p,⟨o,e⟩,st⟩:=x;exact⟨st _ _ p fun o q=>k _ _ (.inl rfl) q,⟨o,k _ _ (.inl rfl) e⟩,st⟩
theorem rZ.lt(x:rZ P w H h)(e:H a=some o):a<h.objs.size:=(x a o e).lt
theorem rZ.fresh(x:rZ P w H h)(e:h.objs.size<=a):H a=none:=by
 cases q:H a with
 | none=>rfl
 | some u=>exact aN6 (iS (x.lt q) e) (sj _)
theorem rZ.kept(x:rZ P w H h)(k:∀b u,h.get? b=some u->h'.get? b=some u):rZ P w H h':=fun a o e=>
 (x a o e).zA (fun b u _ q=>k b u q) (fun _ q=>q) (fun _ _ q=>q) fun _ zo _ q=>q
theorem rZ.laid(x:rZ P w H h)(k:∀b u,h.get? b=some u->h'.get? b=some u)(hp:h.objs.size<=a)(new:gI P w (upd H a o) h' a o):rZ P w (upd H a o) h':=fun b u e=>by
 have hn:=x.fresh hp;by_cases hb:b=a;subst hb;rw[bS]at e;cases e;exact new;rw[aW hb] at e;exact(x b u e).zA (fun c v _ q=>k c v q) (fun c q=>by rw[aW (bf q hn)];exact q) (fun c xs q=>by rw[aW (bf q hn)];exact q) fun c zo xs q=>by rw[aW (bf q hn)];exact q
end
def Rd(H:Hp)(a:ay)(u:HO):Prop:=H a=some u\/∃o,H a=some (.CK o u)
theorem Rd.of(h:H a=some u):Rd H a u:=.inl h
theorem Rd.ok(r:Rd H a u)(x:rZ P w H h):gI P w H h a u:=by
 rcases r with r|⟨o,r⟩;exact x a u r;obtain⟨_,q⟩:=x a _ r;exact q
def Mut:Option HO->Prop
 | some (.lst _)=>True
 | some (.dK _)=>True
 | some (.dT _)=>True
 | some (.set _ _)=>True
 | some (.ins _ _ _)=>True
 | some (.ext _)=>True
 | _=>False
section
theorem rZ.write(ok:rZ P w H h)(mu:Mut (H x))(he:e=x\/H e=some (.own x))(k:∀b u,b≠e->h.get? b=some u->h'.get? b=some u)(Rl:∃u,h'.get? e=some u)
  (new:gI P w (upd H x o') h' x o'):rZ P w (upd H x o') h':=fun b u q=>by
 have Zj:∀c y,H c=some (.own y)->c≠x:=fun c y r z=>by subst z;rw[r]at mu;exact mu
 have nfz:∀c o u,H c=some (.CK o u)->c≠x:=fun c o u r z=>by subst z;rw[r]at mu;exact mu
 have au5:∀c xs,H c=some (.tup xs)->c≠x:=fun c xs r z=>by subst z;rw[r]at mu;exact mu
 by_cases hb:b=x;subst hb;rw[bS]at q;cases q;exact new;rw[aW hb] at q;by_cases Rm:b=e;have q':H b=some (.own x):=by rcases he with z | z;exact aN6 (Rm.trans z) hb;rw[Rm];exact z
 rw[q]at q';cases q';obtain⟨v,hv⟩:=Rl;exact⟨v,by rw[Rm];exact hv⟩;refine(ok b u q).zA (fun c v hc r=>k c v ?_ r) (fun c r=>by rw[aW (Zj c b r)];exact r) (fun c xs r=>by rw[aW (au5 c xs r)];exact r) fun c zo xs r=>by rw[aW (nfz c zo xs r)];exact r
 rcases hc with rfl | hc;exact Rm;rintro rfl;rcases he with z | z;exact Zj c b hc z;rw[hc]at z;cases z;exact hb rfl
end
structure Un(fs ex:List ay)(H H':Hp)(h h':aY):Prop where
 keep:∀b o,h.get? b=some o->H b=none->b∉fs->b∉ex->h'.get? b=some o
 slot:∀b o,h.get? b=some o->H b=none->b∈fs->b∉ex->∃sl,h'.get? b=some {o with slots:=sl}
 free:∀b o,h.get? b=some o->H b=none->b∉ex->H' b=none
 there:∀b o,h.get? b=some o->b∉ex->∃o',h'.get? b=some o'
 oY:∀b xs,H b=some (.tup xs)->H' b=some (.tup xs)
 xQ:∀b o u,H b=some (.CK o u)->H' b=some (.CK o u)
 xR:∀b p q,H b=some (.CL p q)->H' b=some (.CL p q)
section
theorem Un.any(u:Un fs ex H H1 h h1)(q:h.get? b=some ob)(n:H b=none)(hx:b∉ex):∃sl,h1.get? b=some {ob with slots:=sl}:=by
 by_cases hb:b∈fs;exact u.slot b ob q n hb hx;exact⟨ob.slots,u.keep b ob q n hb hx⟩
theorem Un.kept(k:∀b u,h.get? b=some u->h'.get? b=some u):Un fs ex H H h h':=
 ⟨fun b ob q _ _ _=>k b ob q,fun b ob q _ _ _=>⟨ob.slots,k b ob q⟩,fun _ _ _ n _=>n,fun b ob q _=>⟨ob,k b ob q⟩,fun _ _ q=>q,fun _ _ _ q=>q,fun _ _ _ q=>q⟩
theorem Un.refl:Un fs ex H H h h:=Un.kept fun _ _ q=>q
theorem Un.laid(k:∀b u,h.get? b=some u->h'.get? b=some u)(hp:h.objs.size<=a)(hn:H a=none):Un fs ex H (upd H a o) h h' where
 keep:=fun b u q _ _ _=>k b u q
 slot:=fun b u q _ _ _=>⟨u.slots,k b u q⟩
 free:=fun b u q n _=>by rw[aW (dH (iS (cu q) hp))];exact n
 there:=fun b u q _=>⟨u,k b u q⟩
 oY:=fun b xs q=>by rw[aW (bf q hn)];exact q
 xQ:=fun b u xs q=>by rw[aW (bf q hn)];exact q
 xR:=fun b p r q=>by rw[aW (bf q hn)];exact q
theorem Un.write(mu:Mut (H x))(he:e=x\/H e=some (.own x))(k:∀b u,b≠e->h.get? b=some u->h'.get? b=some u)(Rl:∃u,h'.get? e=some u):Un fs ex H (upd H x o) h h':=by
 have hx:∀b,H b=none->b≠x:=fun b n z=>by subst z;rw[n]at mu;exact mu
 have hb:∀b,H b=none->b≠e:=fun b n z=>by subst z;rcases he with r|r;exact hx b n r;rw[n]at r;cases r
 have hm:∀b u,H b=some u->¬ Mut (some u)->b≠x:=fun b u q nm z=>by subst z;rw[q]at mu;exact nm mu
 refine⟨fun b u q n _ _=>k b u (hb b n) q,fun b u q n _ _=>⟨u.slots,k b u (hb b n) q⟩,fun b u q n _=>by rw[aW (hx b n)];exact n,fun b u q _=>?_,
  fun b xs q=>by rw[aW (hm b _ q fun z=>z)];exact q,fun b u xs q=>by rw[aW (hm b _ q fun z=>z)];exact q,fun b p r q=>by rw[aW (hm b _ q fun z=>z)];exact q⟩
 by_cases Rm:b=e;subst Rm;exact Rl;exact⟨u,k b u Rm q⟩
end
def trk(h:aY)(H:Hp):List ay:=(dU h.objs.size).filter fun a=>(H a).isSome
def CM(h:aY)(H:Hp):aY:=A7 h (trk h H)
theorem Jx(h:aY)(H:Hp):(CM h H).objs.size=h.objs.size:=PySem.W.hideAll_size _ _
theorem CN{h:aY}(e:h.get? b=some o)(n:H b=none):(CM h H).get? b=some o:=
 LV _ e fun hm=>by
  have q:(H b).isSome=true:=(vz.mp hm).2;rw[n]at q;simp at q
theorem Rn(e:(CM h H).get? b=some o):h.get? b=some o/\H b=none:=by
 have e':h.get? b=some o:=Ib (trk h H) e;refine⟨e',?_⟩;cases q:H b with
 | none=>rfl
 | some x=>have hm:b∈trk h H:=vz.mpr ⟨l6.mpr (cu e'),by simp[q]⟩;have z:(CM h H).get? b=none:=Ur (trk h H) hm;rw[z]at e;cases e
structure Mod(K:aE)(mg:Str->Option av)(base:aY):Prop where
 Zk:K.In base
 glob:base.Ns dM mg
 blt:∃mb,base.Ns builtinsNs mb/\∀x:Str,x≠ "__name__" ->mb x=jU x
 nolimit:base.NoLimit
structure Cx where
 prog:dG
 w:bQ
 K:aE
 mg:Str->Option av
 base:aY
 A:cH
 N:List Str
 jr:aA
 NB:Hp
 env:Env
 outer:List Env
 stack:List Env
 ex:List ay
 fn:Str->Bool
 calm:Bool
 pn:List (ay×Obj)
 xe:av->aA->Prop
def xS(l:List Env):List ay:=l.filterMap (·.frame)
abbrev Cx.fs(X:Cx):List ay:=xS X.outer
def Vis(sc:iQ)(x:Str):Prop:=sc.names.lookup x=some .local\/sc.names.lookup x=some .cell\/sc.names.lookup x=some .free
def Loc(sc:iQ)(x:Str):Prop:=sc.names.lookup x=some .local\/sc.names.lookup x=some .cell
def Look(env:Env)(h:aY)(m:Str->Option av)(x:Str)(u:av):Prop:=
 (env.kindOf x=some .local/\m x=some u)\/((env.kindOf x=some .cell\/env.kindOf x=some .free)/\∃c,env.cells.lookup x=some c/\h.IsCell c (some u))
structure Cx.Ok(X:Cx):Prop where
 mod:Mod X.K X.mg X.base
 kind:X.env.scope.kind = .function
 glob:X.env.globals=dM
 blt:X.env.builtins=builtinsNs
 above:X.jr.heap.objs.size<=X.env.locals
 inj:∀x y c,X.env.cells.lookup x=some c->X.env.cells.lookup y=some c->x=y
 has:∀x,(X.env.kindOf x=some .cell\/X.env.kindOf x=some .free)->∃c,X.env.cells.lookup x=some c
 YD:∀x c,X.fn x=true->X.env.cells.lookup x=some c->X.jr.heap.objs.size<=c
 hd:X.calm=true->X.A.handled=none
 frames:X.A.frames=some X.stack
 NC:X.stack=X.outer\/(X.stack=X.env::X.outer/\X.env.frame=some X.env.locals)
 Zl:∀b∈X.ex,b≠X.env.locals/\∀x c,X.env.cells.lookup x=some c->c≠b
 bs:∀b o,X.base.get? b=some o->X.jr.heap.get? b=some o/\X.NB b=none
 QW:X.base.objs.size<=X.jr.heap.objs.size
 Jy:∀b o,X.base.get? b=some o->b∉X.ex
 Jz:∀b∈X.ex,b∉X.fs
 uO:X.jr.heap.FunFrames X.base X.outer
 Uv:∀b∈X.fs,X.NB b=none
structure Inv(X:Cx)(ak:List (ay×Obj))(σ:List (Option V))(H:Hp)(s:aA):Prop where
 ok:X.Ok
 os:s.os=X.jr.os
 bare:AllBare s.gens
 base:Un X.fs X.ex X.NB H X.jr.heap s.heap
 loc:∃m,s.heap.Ns X.env.locals m/\∀(i:Nat) (x:Str) (v:V),X.N[i]?=some x->σ[i]?=some (some v)->Vis X.env.scope x->∃u,RelV v u/\Look X.env s.heap m x u
 cell:∀x c,X.env.cells.lookup x=some c->∃v,s.heap.IsCell c v
 free:H X.env.locals=none
 qA:∀x c,X.env.cells.lookup x=some c->H c=none
 pin:∀p∈X.pn++ak,s.heap.get? p.1=some p.2/\H p.1=none/\p.1≠X.env.locals/\p.1∉X.fs/\∀v,p.2.data≠ .cell v
 fE:rZ X.prog X.w H s.heap
 len:σ.length=X.N.length
section
variable {X:Cx}{s:aA}
theorem Cx.Ok.au6(ok:X.Ok)(e:X.base.get? b=some o):b∉X.fs:=fun hb=>by
 have:=(ok.uO.mem hb).1;rw[e]at this;cases this
theorem Inv.bs(I:Inv X ak σ H s):∀b o,X.base.get? b=some o->s.heap.get? b=some o/\H b=none:=fun b o e=>
 ⟨I.base.keep b o (I.ok.bs b o e).1 (I.ok.bs b o e).2 (I.ok.au6 e) (I.ok.Jy b o e),I.base.free b o (I.ok.bs b o e).1 (I.ok.bs b o e).2 (I.ok.Jy b o e)⟩
theorem Inv.bk(I:Inv X ak σ H s):∀b o,X.base.get? b=some o->s.heap.get? b=some o:=fun b o e=>(I.bs b o e).1
theorem Inv.mod(I:Inv X ak σ H s):Mod X.K X.mg X.base:=I.ok.mod
theorem Inv.Bt(I:Inv X ak σ H s):X.K.In s.heap:=I.ok.mod.Zk.keeps I.bk
theorem Inv.nolimit(I:Inv X ak σ H s):s.heap.NoLimit:=I.ok.mod.nolimit.keeps I.bk
theorem Inv.lt(I:Inv X ak σ H s):X.env.locals<s.heap.objs.size:=let⟨_,hn,_⟩:=I.loc;hn.lt
theorem Inv.sz(I:Inv X ak σ H s):X.jr.heap.objs.size<=s.heap.objs.size:=cI I.ok.above (ji I.lt)
theorem Inv.au7(I:Inv X ak σ H s)(h:s.heap.objs.size<=a):a∉X.fs:=fun hb=>by
 obtain ⟨_,o,ho,_⟩:=I.ok.uO.mem hb;exact aN6 (iS (cu ho) (cI I.sz h)) (sj _)
theorem Inv.Vy(I:Inv X ak σ H s):∀x c,X.env.cells.lookup x=some c->c≠X.env.locals:=fun x c e z=>by
 refine dO (I.cell x c e) fun v o ho hd=>?_;refine aU I.loc fun m je _=>?_;obtain⟨o',es,ep,CO,QX,_⟩:=je;rw[z,CO]at ho;cases ho;rw[QX]at hd;cases hd
theorem Inv.uO(I:Inv X ak σ H s):s.heap.FunFrames X.base X.outer:=by
 have all:∀(l:List Env),(∀b∈xS l,b∈X.fs)->X.jr.heap.FunFrames X.base l->s.heap.FunFrames X.base l:=by
  intro l;induction l with
  | nil=>intro _ _;trivial
  | cons env r ih=>intro hs hl;refine xO hl fun hk je hr=>?_;clear hl;obtain⟨L,o,hf,hn,ho,hd⟩:=je;have hL:L∈X.fs:=hs L (by unfold xS;rw[Mj,hf];exact vA);obtain⟨sl,e⟩:=I.base.slot L o ho (I.ok.Uv L hL) hL fun z=>I.ok.Jz L z hL;exact⟨hk,⟨L,_,hf,hn,e,hd⟩,ih (fun b hb=>hs b (by unfold xS;rw[Mj,hf];exact oO _ hb)) hr⟩
 exact all X.outer (fun _ hb=>hb) I.ok.uO
theorem Inv.stack(I:Inv X ak σ H s):s.heap.FunFrames X.base X.stack:=by
 rcases I.ok.NC with e | ⟨e,hf⟩;rw[e];exact I.uO;rw[e];refine aU I.loc fun m hn _=>?_;refine .cons (by rw[I.ok.kind];decide) hf hn ?_ I.uO;exact Heap.get?_none_of_le (cI I.ok.QW I.ok.above)
theorem Inv.Gg(I:Inv X ak σ H s):∀b∈xS X.stack,b∈X.env.locals::X.fs:=fun b hb=>by
 rcases I.ok.NC with e | ⟨e,hf⟩;rw[e]at hb;exact oO _ hb;rw[e]at hb;unfold xS at hb;rw[Mj,hf]at hb;exact hb
theorem Inv.Ie(I:Inv X ak σ H s):∀b∈xS X.stack,H b=none:=fun b hb=>by
 rcases bW.mp (I.Gg b hb)with e|hb;rw[e];exact I.free;obtain ⟨_,o,ho,_⟩:=I.ok.uO.mem hb;exact I.base.free b o ho (I.ok.Uv b hb) fun z=>I.ok.Jz b z hb
theorem Inv.step{t':Nat}{d':Drawn}{ch:List ay}(I:Inv X ak σ H s)
  (QY:∀b∈ch,(b∈X.ex\/X.jr.heap.objs.size<=b)/\b≠X.env.locals/\(∀x c,X.env.cells.lookup x=some c->c≠b)/\∀p∈X.pn++ak,p.1≠b)
  (keep:∀b o,b≠X.env.locals->b∉X.fs->b∉ch->s.heap.get? b=some o->H b=none->h'.get? b=some o)
  (slot:∀b o,b≠X.env.locals->b∈X.fs->b∉ch->s.heap.get? b=some o->H b=none->∃sl,h'.get? b=some {o with slots:=sl}) (free:∀b o,b∉ch->s.heap.get? b=some o->H b=none->H' b=none)
  (there:∀b o,b∉ch->s.heap.get? b=some o->∃o',h'.get? b=some o')
  (oY:∀b xs,H b=some (.tup xs)->H' b=some (.tup xs)) (xQ:∀b o u,H b=some (.CK o u)->H' b=some (.CK o u)) (xR:∀b p q,H b=some (.CL p q)->H' b=some (.CL p q))
  (ns:∀m,s.heap.Ns X.env.locals m->h'.Ns X.env.locals m) (fE:rZ X.prog X.w H' h') (hg:AllBare g') :
  Inv X ak σ H' {s with heap:=h',gens:=g',drawn:=d',toks:=t'}:=by
 have neL:∀b o,X.jr.heap.get? b=some o->b≠X.env.locals:=fun b o e=>dH (iS (cu e) I.ok.above);have neC:∀b o,X.jr.heap.get? b=some o->b∉X.ex->b∉ch:=fun b o e hx hb=>by rcases(QY b hb).1 with z|z;exact hx z;exact aN6 (iS (cu e) z) (sj _)
 have cellK:∀x c,X.env.cells.lookup x=some c->∀v,s.heap.IsCell c v->h'.IsCell c v:=fun x c e v kX=>by refine aU kX fun o ho hd=>?_;clear kX;have Zm:c∉ch:=fun z=>(QY c z).2.2.1 x c e rfl;by_cases hc:c∈X.fs;obtain⟨sl,q⟩:=slot c o (I.Vy x c e) hc Zm ho (I.qA x c e);exact⟨_,q,hd⟩;exact⟨o,keep c o (I.Vy x c e) hc Zm ho (I.qA x c e),hd⟩
 refine⟨I.ok,I.os,hg,⟨fun b o e n hb hx=>?_,fun b o e n hb hx=>?_,fun b o e n hx=>?_,fun b o e hx=>?_,fun b xs e=>oY b xs (I.base.oY b xs e),fun b o xs e=>xQ b o xs (I.base.xQ b o xs e),fun b p q e=>xR b p q (I.base.xR b p q e)⟩,?_,fun x c e=>?_,?_,fun x c e=>?_,fun p hp=>?_,fE,I.len⟩;exact keep b o (neL b o e) hb (neC b o e hx) (I.base.keep b o e n hb hx) (I.base.free b o e n hx);obtain ⟨sl,e1⟩:=I.base.slot b o e n hb hx;obtain⟨sl',e2⟩:=slot b _ (neL b o e) hb (neC b o e hx) e1 (I.base.free b o e n hx);exact⟨sl',e2⟩;obtain ⟨o',e1⟩:=I.base.there b o e hx;exact free b o' (neC b o e hx) e1 (I.base.free b o e n hx);obtain ⟨o',e1⟩:=I.base.there b o e hx;exact there b o' (neC b o e hx) e1;refine aU I.loc fun m hn hl=>?_;refine⟨m,ns m hn,fun i x v e1 e2 e3=>?_⟩;refine aU (hl i x v e1 e2 e3) fun u r l=>?_;refine⟨u,r,?_⟩;rcases l with l|⟨k,c,e,z⟩;exact .inl l;exact .inr ⟨k,c,e,cellK x c e _ z⟩;obtain⟨v,z⟩:=I.cell x c e;exact⟨v,cellK x c e v z⟩;refine aU I.loc fun m je _=>?_;obtain⟨o,_,_,ho,_⟩:=je;exact free _ o (fun z=>(QY _ z).2.1 rfl) ho I.free;refine dO (I.cell x c e) fun v o ho hd=>?_;exact free c o (fun z=>(QY c z).2.2.1 x c e rfl) ho (I.qA x c e);refine Rh (I.pin p hp) fun e n ne nf d=>?_;have Zm:p.1∉ch:=fun z=>(QY p.1 z).2.2.2 p hp rfl;exact⟨keep p.1 p.2 ne nf Zm e n,free p.1 p.2 Zm e n,ne,nf,d⟩
theorem Inv.un{t':Nat}(I:Inv X ak σ H s)(u:Un X.fs [] H H' s.heap h')(fE:rZ X.prog X.w H' h'):Inv X ak σ H' {s with heap:=h',toks:=t'}:=by
 refine aU (id I.loc) fun m je _=>?_;obtain ⟨o,es,ep,ho,r⟩:=je;obtain⟨sl,hL⟩:=u.any ho I.free (by simp);exact I.step (g':=s.gens) (d':=s.drawn) (ch:=[]) (fun _ z=>nomatch z) (fun b o _ hb _ e n=>u.keep b o e n hb (by simp)) (fun b o _ hb _ e n=>u.slot b o e n hb (by simp)) (fun b o _ e n=>u.free b o e n (by simp)) (fun b o _ e=>u.there b o e (by simp)) u.oY u.xQ u.xR (fun m' hm=>by
  refine Ri hm fun o' vB Bu CO r'=>?_;clear hm;rw[ho] at CO;cases CO;exact⟨_,vB,Bu,hL,r'⟩) fE I.bare
theorem Inv.call{t':Nat}{d':Drawn}(I:Inv X ak σ H s)(u:Un (xS X.stack) ch H H' s.heap h')(fE:rZ X.prog X.w H' h')(hg:AllBare g')
  (QY:∀b∈ch,(b∈X.ex\/X.jr.heap.objs.size<=b)/\b≠X.env.locals/\(∀x c,X.env.cells.lookup x=some c->c≠b)/\∀p∈X.pn++ak,p.1≠b) :
  Inv X ak σ H' {s with heap:=h',gens:=g',drawn:=d',toks:=t'}:=by
 refine aU (id I.loc) fun m je _=>?_;obtain ⟨o,es,ep,ho,r⟩:=je;obtain⟨sl,hL⟩:=u.any ho I.free fun z=>(QY _ z).2.1 rfl;exact I.step (ch:=ch) QY (fun b o hL hb hc e n=>u.keep b o e n (fun z=>(bW.mp (I.Gg b z)).elim hL hb) hc) (fun b o _ _ hc e n=>u.any e n hc) (fun b o hc e n=>u.free b o e n hc) (fun b o hc e=>u.there b o e hc) u.oY u.xQ u.xR (fun m' hm=>by
  refine Ri hm fun o' vB Bu CO r'=>?_;clear hm;rw[ho] at CO;cases CO;exact⟨_,vB,Bu,hL,r'⟩) fE hg
theorem Inv.turned{t':Nat}{it:ay}(I:Inv X ak σ H s)(k:∀b o,b≠it->s.heap.get? b=some o->h'.get? b=some o)(hn:H it=none)(hL:it≠X.env.locals)
  (h1:it∈X.ex\/X.jr.heap.objs.size<=it) (h2:∀x c,X.env.cells.lookup x=some c->c≠it) (h3:∀p∈X.pn++ak,p.1≠it):Inv X ak σ H {s with heap:=h',toks:=t'}:=by
 have nit:∀b u,H b=some u->b≠it:=fun b u e z=>by rw[z,hn]at e;cases e
 refine I.step (g':=s.gens) (d':=s.drawn) (ch:=[it]) (fun b hb=>?_) (fun b o _ _ hc e _=>k b o (fun z=>hc (by simp[z])) e) (fun b o _ _ hc e _=>⟨o.slots,k b o (fun z=>hc (by simp[z])) e⟩) (fun _ _ _ _ n=>n)
  (fun b o hc e=>⟨o,k b o (fun z=>hc (by simp[z])) e⟩) (fun _ _ e=>e) (fun _ _ _ e=>e) (fun _ _ _ e=>e) (fun m hm=>?_) (fun b u e=>?_) I.bare
 have e:b=it:=by simpa using hb
 subst e;exact⟨h1,hL,h2,h3⟩;refine Ri hm fun o es ep ho r=>?_;clear hm;exact⟨o,es,ep,k _ o (eU hL) ho,r⟩;refine(I.fE b u e).zA (fun c v hc q=>k c v ?_ q) (fun _ q=>q) (fun _ _ q=>q) fun _ zo _ q=>q;rcases hc with z | z;rw[z];exact nit b u e;exact nit c _ z
theorem Inv.tok(I:Inv X ak σ H s)(t:Nat):Inv X ak σ H {s with toks:=t}:=I.un (h':=s.heap) (t':=t) Un.refl I.fE
theorem Inv.kept(I:Inv X ak σ H s)(k:∀b u,s.heap.get? b=some u->h'.get? b=some u):Inv X ak σ H {s with heap:=h',toks:=t'}:=I.un (Un.kept k) (I.fE.kept k)
theorem Inv.laid(I:Inv X ak σ H s)(k:∀b u,s.heap.get? b=some u->h'.get? b=some u)(hp:s.heap.objs.size<=a)(new:gI X.prog X.w (upd H a o) h' a o) :
  Inv X ak σ (upd H a o) {s with heap:=h',toks:=t'}:=I.un (Un.laid k hp (I.fE.fresh hp)) (I.fE.laid k hp new)
theorem Inv.write(I:Inv X ak σ H s)(mu:Mut (H x))(he:e=x\/H e=some (.own x))(k:∀b u,b≠e->s.heap.get? b=some u->h'.get? b=some u)(Rl:∃u,h'.get? e=some u)
  (new:gI X.prog X.w (upd H x o) h' x o):Inv X ak σ (upd H x o) {s with heap:=h',toks:=t'}:=I.un (Un.write mu he k Rl) (I.fE.write mu he k Rl new)
theorem Inv.su(I:Inv X ak σ H s)(h:∀p∈Zn,s.heap.get? p.1=some p.2/\H p.1=none/\p.1≠X.env.locals/\p.1∉X.fs/\∀v,p.2.data≠ .cell v):Inv X Zn σ H s:=
 ⟨I.ok,I.os,I.bare,I.base,I.loc,I.cell,I.free,I.qA,fun p hp=>(gH.mp hp).elim (fun z=>I.pin p (Aa _ z)) (h p),I.fE,I.len⟩
theorem CP{N:List Str}(hN:N.Nodup){i j:Nat}(a:N[i]?=some x)(b:N[j]?=some x):i=j:=by
 obtain⟨h1,e1⟩:=eL.mp a;obtain⟨h2,e2⟩:=eL.mp b;exact(List.getElem_inj hN).mp (e1.trans e2.symm)
theorem Ac{Q:Unit->aA->Prop}(I:Inv X ak σ H s)(hN:X.N.Nodup)(hi:X.N[i]?=some x)(hx:Loc X.env.scope x)(r:RelV v u)
  (h:∀s',Inv X ak (σ.set i (some v)) H s'->(∃a,i6 a s.heap s'.heap/\(a=X.env.locals\/X.env.cells.lookup x=some a))->Q () s') (hf:X.fn x=true\/X.env.scope.names.lookup x=some .local:=by first|exact .inl rfl|exact .inr rfl|assumption):aB M A (storeName X.env x u) Q E s:=by
 refine aU (id I.loc) fun m hn hl=>?_;have au8:(X.env.scope.kind == .class || (X.env.scope.kind == .module&&X.env.locals !=X.env.globals))=false:=by rw[I.ok.kind];rfl
 have Zo:i<σ.length:=by rw[I.len];exact(eL.mp hi).1
 have Vy:=I.Vy;have tracked:∀{a:ay} {h':aY},(∃o,s.heap.get? a=some o/\H a=none)->i6 a s.heap h'->rZ X.prog X.w H h':=fun {a h'} ha hs b ob e=>by refine aU ha fun _ _ Ig=>?_;clear ha;refine(I.fE b ob e).zA (fun c w' hc q=>(hs.2 c ?_).trans q) (fun _ q=>q) (fun _ _ q=>q) fun _ zo _ q=>q;rintro rfl;rcases hc with rfl | hc;rw[Ig]at e;cases e;rw[Ig]at hc;cases hc
 rcases hx with hk|hk;refine wpAny_storeName_local hk hn (fun h' xT hs=>?_) au8;refine Ri (id hn) fun oL _ _ hoL _=>?_;refine h _ ⟨I.ok,I.os,I.bare,⟨fun b o e n hb hx=>?_,fun b o e n hb hx=>?_,I.base.free,fun b o e hx=>?_,I.base.oY,I.base.xQ,I.base.xR⟩,⟨_,xT,fun j y v' e1 e2 e3=>?_⟩,fun y c e=>?_,I.free,I.qA,fun p hp=>?_,tracked ⟨oL,hoL,I.free⟩ hs,by simpa using I.len⟩ ⟨_,hs,.inl rfl⟩;exact(hs.2 b (dH (iS (cu e) I.ok.above))).trans (I.base.keep b o e n hb hx);obtain ⟨sl,e1⟩:=I.base.slot b o e n hb hx;exact⟨sl,(hs.2 b (dH (iS (cu e) I.ok.above))).trans e1⟩;obtain ⟨o',e1⟩:=I.base.there b o e hx;exact⟨o',(hs.2 b (dH (iS (cu e) I.ok.above))).trans e1⟩;by_cases hj:j=i;subst hj;rw[hi] at e1;cases e1;rw[kJ Zo] at e2;cases e2;exact⟨u,r,.inl ⟨hk,by simp⟩⟩;rw[jH (eU hj)] at e2;refine aU (hl j y v' e1 e2 e3) fun u' r' q=>?_;refine⟨u',r',?_⟩;rcases q with⟨k,e⟩|⟨k,c,e,z⟩;refine .inl ⟨k,?_⟩;have:y≠x:=fun e=>hj (CP hN e1 (e▸hi));simp[this,e];exact .inr ⟨k,c,e,z.sameBut hs (Vy y c e)⟩;obtain⟨w',z⟩:=I.cell y c e;exact⟨w',z.sameBut hs (Vy y c e)⟩;refine Rh (I.pin p hp) fun e n ne nf d=>?_;exact⟨(hs.2 p.1 ne).trans e,n,ne,nf,d⟩;have YE:X.fn x=true:=by rcases hf with z|z;exact z;rw[z]at hk;cases hk
 obtain⟨c,hc⟩:=I.ok.has x (.inl hk);obtain⟨w',z⟩:=I.cell x c hc;refine wpAny_storeName_cell I.ok.kind hk hc z (fun h' w9 hs=>?_);refine aU (id z) fun oc Vz au9=>?_;refine h {s with heap:=h'} ⟨I.ok,I.os,I.bare,⟨fun b o e n hb hx=>?_,fun b o e n hb hx=>?_,I.base.free,fun b o e hx=>?_,I.base.oY,I.base.xQ,I.base.xR⟩,⟨m,hn.sameBut hs (eU (Vy x c hc)),fun j y v' e1 e2 e3=>?_⟩,fun y c' e=>?_,I.free,I.qA,fun p hp=>?_,tracked ⟨oc,Vz,I.qA x c hc⟩ hs,by simpa using I.len⟩ ⟨c,hs,.inr hc⟩;exact(hs.2 b (dH (iS (cu e) (I.ok.YD x c YE hc)))).trans (I.base.keep b o e n hb hx);obtain ⟨sl,e1⟩:=I.base.slot b o e n hb hx;exact⟨sl,(hs.2 b (dH (iS (cu e) (I.ok.YD x c YE hc)))).trans e1⟩;obtain ⟨o',e1⟩:=I.base.there b o e hx;exact⟨o',(hs.2 b (dH (iS (cu e) (I.ok.YD x c YE hc)))).trans e1⟩;by_cases hj:j=i;subst hj;rw[hi] at e1;cases e1;rw[kJ Zo] at e2;cases e2;exact⟨u,r,.inr ⟨.inl hk,c,hc,w9⟩⟩;rw[jH (eU hj)] at e2;refine aU (hl j y v' e1 e2 e3) fun u' r' q=>?_;refine⟨u',r',?_⟩;rcases q with q|⟨k,c',e,z'⟩;exact .inl q;refine .inr ⟨k,c',e,z'.sameBut hs ?_⟩;rintro rfl;exact hj (CP hN e1 (I.ok.inj _ _ _ e hc▸hi));by_cases hcc:c'=c;subst hcc;exact⟨_,w9⟩;obtain⟨w2,z2⟩:=I.cell y c' e;exact⟨w2,z2.sameBut hs hcc⟩;refine Rh (I.pin p hp) fun e n ne nf d=>?_;refine⟨(hs.2 p.1 ?_).trans e,n,ne,nf,d⟩;intro q;rw[q,Vz]at e;have q':oc=p.2:=fq e;exact d w' (by rw[<- q'];exact au9)
theorem sA{Q:Unit->aA->Prop}(I:Inv X ak σ H s)(hN:X.N.Nodup)(hi:X.N[i]?=some x)(hx:Loc X.env.scope x)(r:RelV v u)
  (h:∀s',Inv X ak (σ.set i (some v)) H s'->Q () s') (hf:X.fn x=true\/X.env.scope.names.lookup x=some .local:=by first|exact .inl rfl|exact .inr rfl|assumption):aB M A (storeName X.env x u) Q E s:=
 Ac I hN hi hx r (fun s' I' _=>h s' I') hf
theorem Inv.CQ{s':aA}(I:Inv X ak σ H s)(ho:s'.os=s.os)(u:Un (xS X.stack) ch H H' s.heap s'.heap)(fE:rZ X.prog X.w H' s'.heap)(hg:AllBare s'.gens)
  (QY:∀b∈ch,(b∈X.ex\/X.jr.heap.objs.size<=b)/\b≠X.env.locals/\(∀x c,X.env.cells.lookup x=some c->c≠b)/\∀p∈X.pn++ak,p.1≠b):Inv X ak σ H' s':=by
 obtain⟨h',g',d',t',o'⟩:=s';have e:o'=s.os:=ho;subst e;exact I.call (g':=g') (t':=t') (d':=d') u fE hg QY
end
abbrev XK:=av->Option ay->Hp->Prop
abbrev St:=List (Option V)
abbrev VK:=V->Hp->Prop
abbrev TE:=St->Hp->VK->Prop
abbrev TT:=St->Hp->(Bool->Hp->Prop)->Prop
abbrev TA:=St->Hp->(List V->Hp->Prop)->Prop
structure Ends where
 nx:St->Hp->Prop
 rt:VK
 bk:St->Hp->Prop:=fun _ _=>False
 ct:St->Hp->Prop:=fun _ _=>False
abbrev TS:=Ends->St->Hp->Prop
def EP(X:Cx)(ak:List (ay×Obj))(σ:St)(Q:VK)(u:av)(s':aA):Prop:=∃v H',Inv X ak σ H' s'/\RelV v u/\Q v H'
def TP(X:Cx)(ak:List (ay×Obj))(σ:St)(Q:Bool->Hp->Prop)(b:Bool)(s':aA):Prop:=∃H',Inv X ak σ H' s'/\Q b H'
def AP(X:Cx)(ak:List (ay×Obj))(σ:St)(Q:List V->Hp->Prop)(us:List av)(s':aA):Prop:=∃vs H',Inv X ak σ H' s'/\Vals vs us/\Q vs H'
def SP(X:Cx)(ak:List (ay×Obj))(D:Ends)(f:Flow)(s':aA):Prop:=
 match f with
 | .next=>∃dZ H',Inv X ak dZ H' s'/\D.nx dZ H'
 | .brk=>∃dZ H',Inv X ak dZ H' s'/\D.bk dZ H'
 | .cont=>∃dZ H',Inv X ak dZ H' s'/\D.ct dZ H'
 | .ret u=>∃v dZ H',Inv X ak dZ H' s'/\RelV v u/\D.rt v H'
def PE(X:Cx)(e:bF)(t:TE):Prop:=
 ∀(ak:List (ay×Obj)) (s:aA) (σ:St) (H:Hp) (Q:VK),Inv X ak σ H s->t σ H Q->aB (aD X.prog X.w) X.A (eval e X.env) (EP X ak σ Q) X.xe s
def PT(X:Cx)(e:bF)(t:TT):Prop:=
 ∀(ak:List (ay×Obj)) (s:aA) (σ:St) (H:Hp) (Q:Bool->Hp->Prop),Inv X ak σ H s->t σ H Q->aB (aD X.prog X.w) X.A (isTrue e X.env (eval e X.env)) (TP X ak σ Q) X.xe s
def PW(X:Cx)(e:bF)(t:TT):Prop:=
 ∀(whole:Sem av) (ak:List (ay×Obj)) (s:aA) (σ:St) (H:Hp) (Q:Bool->Hp->Prop),Inv X ak σ H s->t σ H Q->aB (aD X.prog X.w) X.A (isTrue e X.env whole) (TP X ak σ Q) X.xe s
theorem PW.pt(h:PW X e t):PT X e t:=h _
def PA(X:Cx)(es:List bF)(t:TA):Prop:=
 ∀(pos:Pos) (ak:List (ay×Obj)) (s:aA) (σ:St) (H:Hp) (Q:List V->Hp->Prop),Inv X ak σ H s->t σ H Q->aB (aD X.prog X.w) X.A (spliced (backTo pos (bN es X.env))) (AP X ak σ Q) X.xe s
def PS(X:Cx)(st:bz)(t:TS):Prop:=
 ∀(ak:List (ay×Obj)) (s:aA) (σ:St) (H:Hp) (D:Ends),Inv X ak σ H s->t D σ H->aB (aD X.prog X.w) X.A (exec st X.env) (SP X ak D) X.xe s
def vC(X:Cx)(st:List bz)(t:TS):Prop:=
 ∀(ak:List (ay×Obj)) (s:aA) (σ:St) (H:Hp) (D:Ends),Inv X ak σ H s->t D σ H->aB (aD X.prog X.w) X.A (execs st X.env) (SP X ak D) X.xe s
theorem gS{Q':α->aA->Prop}(h:aB M A t Q E s)(hQ:∀a s,Q a s->Q' a s):aB M A t Q' E s:=iI h hQ fun _ _ x=>x
section
variable {X:Cx}
def oB(i:Nat):TE:=fun σ H Q=>∃v,σ[i]?=some (some v)/\Q v H
def tC(v:V):TE:=fun _ H Q=>Q v H
theorem VA(hN:X.N[i]?=some x)(hv:Vis X.env.scope x)(hd:(x==("__debug__" : Str))=false:=by decide)(Gh:(x==("__classdict__" : Str))=false:=by decide):PE X (.Name x pos) (oB i):=by
 intro ak s σ H Q I h;obtain⟨v,e,h⟩:=h;obtain⟨m,hn,hl⟩:=I.loc;obtain⟨u,r,l⟩:=hl i x v hN e hv;have fin:EP X ak σ Q u s:=⟨v,H,I,r,h⟩
 rcases l with⟨hk,hm⟩|⟨hk,c,hc,xU⟩;exact CG (LC I.ok.kind hk hn hm fin) hd;rcases hk with hk|hk;exact CG (wpAny_loadName_cell I.ok.kind hk hc xU fin) hd;exact CG (wpAny_loadName_free I.ok.kind hk hc xU fin Gh) hd
theorem ND{i j pos}:PE X (.Constant (.int i) j pos) (tC (.int i)):=fun _ _ _ H _ I h=>wpAny_Constant_int ⟨.int i,H,I.tok _,⟨_,rfl⟩,h⟩
theorem Zp{b j pos}:PE X (.Constant (.bool b) j pos) (tC (.bl b)):=fun _ _ _ H _ I h=>Constant_bool ⟨.bl b,H,I,rfl,h⟩
def Gl(X:Cx)(x:Str):Prop:=X.env.kindOf x=some .globalImplicit
theorem sC{Q:av->aA->Prop}(I:Inv X ak σ H s)(hg:Gl X x)(hm:X.mg x=some u)(h:Q u s)
  (hd:(x==("__debug__" : Str))=false:=by decide):aB (aD X.prog X.w) X.A (eval (.Name x pos) X.env) Q E s:=
 MS I.ok.kind hg (Calls.loadGlobal_global (by rw[I.ok.glob];exact I.mod.glob.keeps I.bk) hm h) hd
theorem uP{Q:av->aA->Prop}(I:Inv X ak σ H s)(hg:Gl X x)(hm:X.mg x=none)(hv:jU x=some u)(h:Q u s)
  (hn:x≠ "__name__":=by decide) (hd:(x==("__debug__" : Str))=false:=by decide):aB (aD X.prog X.w) X.A (eval (.Name x pos) X.env) Q E s:=by
 refine aU I.mod.blt fun mb h1 h2=>?_;exact MS I.ok.kind hg (Us (by rw[I.ok.glob];exact I.mod.glob.keeps I.bk) hm (by rw[I.ok.blt];exact h1.keeps I.bk) ((h2 x hn).trans hv) h) hd
theorem Ro(hg:Gl X x)(hm:X.mg x=some u)(r:RelV v u)(hd:(x==("__debug__" : Str))=false:=by decide):PE X (.Name x pos) (tC v):=
 fun _ _ _ H _ I h=>sC I hg hm ⟨v,H,I,r,h⟩ hd
theorem Rp(hg:Gl X x)(hm:X.mg x=none)(hv:jU x=some u)(r:RelV v u)(hn:x≠ "__name__":=by decide)(hd:(x==("__debug__" : Str))=false:=by decide):PE X (.Name x pos) (tC v):=
 fun _ _ _ H _ I h=>uP I hg hm hv ⟨v,H,I,r,h⟩ hn hd
variable {a b:bF}{ta tb:TE}{pos:Pos}
def tB(t:TE):TT:=fun σ H Q=>t σ H fun x H1=>∃c,x = .bl c/\Q c H1
theorem VB(h:PE X e t)(he:∀whole,isTrue e X.env whole=(do let v <- whole;standAt e.pos;holding [v] (truthy v)):=by intro _;rfl):PT X e (tB t):=by
 intro ak s σ H Q I hw;refine isTrue_plain (gS (h ak s σ H _ I hw) fun v s1 Gi=>?_) (he _);refine bA Gi fun x H1 I1 r1 q1=>?_;clear Gi;refine aU q1 fun d je q=>?_;clear q1;obtain rfl:=je;cases r1;exact wW ⟨H1,I1,q⟩
variable {tA tB':TT}{rest:List bF}
def av0(t u:TT):TT:=fun σ H Q=>t σ H fun c H1=>if c=true then u σ H1 Q else Q false H1
def tOr(t u:TT):TT:=fun σ H Q=>t σ H fun c H1=>if c=true then Q true H1 else u σ H1 Q
def av1(t:TT):TT:=fun σ H Q=>t σ H fun c H1=>Q (!c) H1
theorem pw_and1(ha:PT X a tA):PW X (.BoolOp .And [a] pos) tA:=by
 intro wh ak s σ H Q I h;refine isTrue_and (gS (ha ak s σ H Q I h) fun c s1 e=>?_);cases c with
 | true=>exact isTrue_and_nil e
 | false=>exact e
theorem pw_or1(ha:PT X a tA):PW X (.BoolOp .Or [a] pos) tA:=by
 intro wh ak s σ H Q I h;refine isTrue_or (gS (ha ak s σ H Q I h) fun c s1 e=>?_);cases c with
 | false=>exact isTrue_or_nil e
 | true=>exact e
theorem pw_and(ha:PT X a tA)(hb:PW X (.BoolOp .And (b::rest) pos) tB'):PW X (.BoolOp .And (a::b::rest) pos) (av0 tA tB'):=by
 intro wh ak s σ H Q I h;refine isTrue_and (gS (ha ak s σ H _ I h) fun c s1 Ih=>?_);refine aU Ih fun H1 I1 q1=>?_;clear Ih;cases c with
 | true=>exact hb wh ak s1 σ H1 Q I1 q1
 | false=>exact⟨H1,I1,q1⟩
theorem pw_or(ha:PT X a tA)(hb:PW X (.BoolOp .Or (b::rest) pos) tB'):PW X (.BoolOp .Or (a::b::rest) pos) (tOr tA tB'):=by
 intro wh ak s σ H Q I h;refine isTrue_or (gS (ha ak s σ H _ I h) fun c s1 Ii=>?_);refine aU Ii fun H1 I1 q1=>?_;clear Ii;cases c with
 | true=>exact⟨H1,I1,q1⟩
 | false=>exact hb wh ak s1 σ H1 Q I1 q1
theorem VC(ha:PT X a tA):PT X (.UnaryOp .Not a pos) (av1 tA):=by
 intro ak s σ H Q I h;exact isTrue_not (ha ak s σ H (fun c H1=>Q (!c) H1) I h)
def Zq(ta tb:TE):TE:=fun σ H Q=>ta σ H fun x H1=>∃c,x = .bl c/\if c=true then tb σ H1 Q else Q (.bl false) H1
theorem VD{op}(h:PE X a t):PE X (.BoolOp op [a] pos) t:=fun ak s σ H Q I hw=>BoolOp_one (h ak s σ H Q I hw)
theorem VE(ha:PE X a ta)(hb:PE X (.BoolOp .And (b::rest) pos) tb):PE X (.BoolOp .And (a::b::rest) pos) (Zq ta tb):=by
 intro ak s σ H Q I h;refine BoolOp_and (gS (ha ak s σ H _ I h) fun v s1 Bv=>?_);obtain⟨x,H1,I1,r1,q1⟩:=Bv;obtain⟨c,rfl,q1⟩:=q1;cases r1;refine wW ?_;cases c with
 | true=>exact hb ak s1 σ H1 Q I1 q1
 | false=>exact⟨.bl false,H1,I1,rfl,q1⟩
end
def lB(K:aE)(H:Hp)(a:ay)(xs:List V):Prop:=
 Rd H a (.lst xs)\/
  ∃(o:Obj) (bq:Array av) (n:Nat),K.lookup a=some o/\o.cls = .type "list" /\o.dict=none/\o.data = .seq bq n/\bq.size<=cU/\Vals xs bq.toList
def mZ(K:aE)(H:Hp)(a:ay)(xs:List V):Prop:=
 Rd H a (.tup xs)\/
  ∃(o:Obj) (bq:Array av) (n:Nat),K.lookup a=some o/\o.cls = .type "tuple" /\o.data = .seq bq n/\bq.size<=cU/\Vals xs bq.toList
def av2:av->Option V
 | .none=>some .dh
 | .bool b=>some (.bl b)
 | .int i _=>some (.int i)
 | .str x _=>some (.str x)
 | .bytes b _=>some (.byt b)
 | .float b _=>some (.flt b)
 | .ref a=>some (.ref a)
 | .type n=>some (.ty n)
 | _=>none
theorem RelV.abs(r:RelV x u):av2 u=some x:=by
 cases x with
 | dh=>cases r;rfl
 | bl _=>cases r;rfl
 | int _=>obtain⟨t,rfl⟩:=r;rfl
 | str _=>obtain⟨t,rfl⟩:=r;rfl
 | byt _=>obtain⟨t,rfl⟩:=r;rfl
 | flt _=>obtain⟨t,rfl⟩:=r;rfl
 | ref _=>cases r;rfl
 | ty _=>cases r;rfl
theorem RelV.inj(r:RelV x u)(q:RelV y u):x=y:=fq (r.abs.symm.trans q.abs)
theorem Vals.inj(h:Vals xs us)(h':Vals ys us):xs=ys:=by
 induction h generalizing ys with
 | nil=>cases h';rfl
 | cons r t ih=>
  cases h' with
  | cons r' t'=>rw[r.inj r',ih t']
section
theorem lB.of{K:aE}(h:H a=some (.lst xs)):lB K H a xs:=.inl (.inl h)
theorem mZ.of{K:aE}(h:H a=some (.tup xs)):mZ K H a xs:=.inl (.inl h)
theorem Inv.list(I:Inv X ak σ H s)(h:lB X.K H a xs):∃bq:List av,Vals xs bq/\PlainL s.heap a bq.toArray/\xs.length<=cU:=by
 rcases h with h|⟨o,bq,n,hk,hc,hd,hs,hz,r⟩;obtain⟨z,bq,n,r,e⟩:=h.ok I.fE;exact⟨bq,r,⟨_,n,e,rfl,rfl,rfl⟩,z⟩;refine⟨bq.toList,r,⟨o,n,I.Bt a o hk,hc,hd,by simpa using hs⟩,?_⟩;have e:=r.length;simp only[dN] at e;lia
theorem Inv.tuple(I:Inv X ak σ H s)(h:mZ X.K H a xs):∃bq:List av,Vals xs bq/\IsTup s.heap a bq.toArray/\xs.length<=cU:=by
 rcases h with h|⟨o,bq,n,hk,hc,hs,hz,r⟩;obtain⟨z,bq,r,p⟩:=h.ok I.fE;exact⟨bq,r,p,z⟩;refine⟨bq.toList,r,⟨o,I.Bt a o hk,hc,n,by simpa using hs⟩,?_⟩;have e:=r.length;simp only[dN] at e;lia
theorem Inv.CS(I:Inv X ak σ H s)(h:lB X.K H a xs)(h':lB X.K H a ys):xs=ys:=by
 refine cM (I.list h) fun bq r b8 _=>?_;obtain⟨o,n,e,_,_,d⟩:=b8;refine cM (I.list h') fun its' r' b8 _=>?_;obtain⟨o',n',e',_,_,d'⟩:=b8;rw[e] at e';cases e';rw[d] at d';injection d' with d1 _;have:bq=its':=by simpa using congrArg Array.toList d1
 subst this;exact r.inj r'
theorem Inv.JA(I:Inv X ak σ H s)(h:mZ X.K H a xs)(h':mZ X.K H a ys):xs=ys:=by
 refine cM (I.tuple h) fun bq r b8 _=>?_;obtain⟨o,e,_,n,d⟩:=b8;refine cM (I.tuple h') fun its' r' b8 _=>?_;obtain⟨o',e',_,n',d'⟩:=b8;rw[e] at e';cases e';rw[d] at d';injection d' with d1 _;have:bq=its':=by simpa using congrArg Array.toList d1
 subst this;exact r.inj r'
end
abbrev Cx.eX(X:Cx)(E:av->aA->Prop):Cx:={X with xe:=E}
theorem Cx.Ok.eX{X:Cx}(ok:X.Ok)(E:av->aA->Prop):(X.eX E).Ok:=
 ⟨ok.mod,ok.kind,ok.glob,ok.blt,ok.above,ok.inj,ok.has,ok.YD,ok.hd,ok.frames,ok.NC,ok.Zl,ok.bs,ok.QW,ok.Jy,ok.Jz,ok.uO,ok.Uv⟩
theorem Cx.Ok.jt{X:Cx}(ok:(X.eX E).Ok):X.Ok:=
 ⟨ok.mod,ok.kind,ok.glob,ok.blt,ok.above,ok.inj,ok.has,ok.YD,ok.hd,ok.frames,ok.NC,ok.Zl,ok.bs,ok.QW,ok.Jy,ok.Jz,ok.uO,ok.Uv⟩
section
theorem Inv.eX(I:Inv X ak σ H s)(E:av->aA->Prop):Inv (X.eX E) ak σ H s:=⟨I.ok.eX E,I.os,I.bare,I.base,I.loc,I.cell,I.free,I.qA,I.pin,I.fE,I.len⟩
theorem Inv.jt(I:Inv (X.eX E) ak σ H s):Inv X ak σ H s:=⟨I.ok.jt,I.os,I.bare,I.base,I.loc,I.cell,I.free,I.qA,I.pin,I.fE,I.len⟩
theorem SP.jt(h:SP (X.eX E) ak D f s'):SP X ak D f s':=by
 cases f with
 | next=>obtain⟨dZ,H',I,q⟩:=h;exact⟨dZ,H',I.jt,q⟩
 | brk=>obtain⟨dZ,H',I,q⟩:=h;exact⟨dZ,H',I.jt,q⟩
 | cont=>obtain⟨dZ,H',I,q⟩:=h;exact⟨dZ,H',I.jt,q⟩
 | ret u=>obtain⟨v,dZ,H',I,r,q⟩:=h;exact⟨v,dZ,H',I.jt,r,q⟩
end
section
variable {X:Cx}{st:bz}{rest:List bz}{t u:TS}
def Zr:TS:=fun D σ H=>D.nx σ H
def Zs(t u:TS):TS:=fun D σ H=>t {D with nx:=u D} σ H
theorem Rq:vC X [] Zr:=fun _ _ σ H _ I h=>Ia ⟨σ,H,I,h⟩
theorem CT(h1:PS X st t)(h2:vC X rest u):vC X (st::rest) (Zs t u):=by
 intro ak s σ H D I h;refine Um (gS (h1 ak s σ H {D with nx:=u D} I h) fun f s1 q=>?_);cases f with
 | next=>obtain⟨dZ,H',I',q⟩:=q;exact h2 ak s1 dZ H' D I' q
 | ret v=>exact q
 | brk=>exact q
 | cont=>exact q
theorem Ij(h1:PS X st t):vC X [st] t:=by
 intro ak s σ H D I h;refine Um (gS (h1 ak s σ H D I h) fun f s1 q=>?_);cases f with
 | next=>exact Ia q
 | ret v=>exact q
 | brk=>exact q
 | cont=>exact q
theorem Inv.quiet(I:Inv X ak σ H s):interactive X.env=false:=by simp[interactive,I.ok.kind]
def Uw(te:TE):TS:=fun D σ H=>te σ H fun _ H1=>D.nx σ H1
theorem q8(he:PE X e te)(hs:swapsWith e none pos.line X.env=pure false:=by rfl):PS X (.Expr e pos) (Uw te):=by
 intro ak s σ H D I h;exact wpAny_Expr_any (gS (he ak s σ H _ I h) fun v s1 VF=>VF.elim fun x av3=>av3.elim fun H1 av4=>av4.elim fun I1 av5=>av5.elim fun r1 q1=>⟨σ,H1,I1,q1⟩) I.quiet hs
def av6(te:TE):TS:=fun D σ H=>te σ H D.rt
theorem NF(he:PE X e te):PS X (.Return (some e) pos) (av6 te):=by
 intro ak s σ H D I h;exact wpAny_Return_some (gS (he ak s σ H _ I h) fun v s1 av7=>av7.elim fun x av8=>av8.elim fun H1 av9=>av9.elim fun I1 aw0=>aw0.elim fun r1 q1=>⟨x,σ,H1,I1,r1,q1⟩)
def aw1(c:TT)(t u:TS):TS:=fun D σ H=>c σ H fun b H1=>if b=true then t D σ H1 else u D σ H1
theorem Zt(hc:PT X c tc)(ha:vC X a t)(hb:vC X b u):PS X (.If c a b pos) (aw1 tc t u):=by
 intro ak s σ H D I h;refine wpAny_If (gS (hc ak s σ H _ I h) fun d s1 Zu=>?_);refine aU Zu fun H1 I1 q1=>?_;clear Zu;cases d with
 | true=>exact ha ak s1 σ H1 D I1 q1
 | false=>exact hb ak s1 σ H1 D I1 q1
end
abbrev TG:=V->St->Hp->(St->Hp->Prop)->Prop
abbrev Zv:=List V->St->Hp->(St->Hp->Prop)->Prop
def PG(X:Cx)(target:bF)(t:TG):Prop:=
 ∀(ak:List (ay×Obj)) (s:aA) (σ:St) (H:Hp) (v:V) (u:av) (Q:St->Hp->Prop),Inv X ak σ H s->RelV v u->t v σ H Q->
  aB (aD X.prog X.w) X.A (assign target X.env u) (fun _ s'=>∃dZ H',Inv X ak dZ H' s'/\Q dZ H') X.xe s
def PGs(X:Cx)(ts:List bF)(t:Zv):Prop:=
 ∀(ak:List (ay×Obj)) (s:aA) (σ:St) (H:Hp) (vs:List V) (us:List av) (Q:St->Hp->Prop),Inv X ak σ H s->Vals vs us->t vs σ H Q->
  aB (aD X.prog X.w) X.A (assignInOrder ((vq ts X.env).map (·.2)) us) (fun _ s'=>∃dZ H',Inv X ak dZ H' s'/\Q dZ H') X.xe s
abbrev Zw:=V->V->V->Hp->(Hp->Prop)->Prop
def Zx(X:Cx)(t:Zw):Prop:=
 ∀(ak:List (ay×Obj)) (s:aA) (σ:St) (H:Hp) (o i v:V) (ov iv u:av) (Q:Hp->Prop),Inv X ak σ H s->RelV o ov->RelV i iv->RelV v u->t o i v H Q->
  aB (aD X.prog X.w) X.A (setItem ov iv u) (fun _ s'=>∃H',Inv X ak σ H' s'/\Q H') X.xe s
section
def CU(i:Nat):TG:=fun v σ H Q=>Q (σ.set i (some v)) H
theorem cW(hN:X.N.Nodup)(hi:X.N[i]?=some x)(hx:Loc X.env.scope x)(hf:X.fn x=true\/X.env.scope.names.lookup x=some .local:=by first|exact .inl rfl|exact .inr rfl|assumption):PG X (.Name x pos) (CU i):=by
 intro ak s σ H v u Q I r h;exact Uo (sA I hN hi hx r (fun s' I'=>⟨_,H,I',h⟩) hf)
def Zy:Zv:=fun vs σ H Q=>vs=[]/\Q σ H
def NG(t:TG)(u:Zv):Zv:=fun vs σ H Q=>∃v r,vs=v::r/\t v σ H fun dZ H'=>u r dZ H' Q
theorem sD:PGs X [] Zy:=by
 intro ak s σ H vs us Q I r h;obtain⟨e,h⟩:=h;subst e;cases r;exact Ut ⟨σ,H,I,h⟩
theorem iT(h1:PG X e t)(h2:PGs X es u)
  (hs:(vq (e::es) X.env).map (·.2)=assign e X.env::(vq es X.env).map (·.2):=by rfl):PGs X (e::es) (NG t u):=by
 intro ak s σ H vs us Q I r h;obtain⟨v,vr,e1,h⟩:=h;subst e1;cases r with
 | cons r rr=>rw[hs];refine N1 (gS (h1 ak s σ H _ _ _ I r h) fun _ s1 Zz=>?_);refine dO Zz fun NH H1 I1 q1=>?_;clear Zz;exact h2 ak s1 NH H1 _ _ Q I1 rr q1
def ZA(K:aE)(n:Nat)(t:Zv):TG:=fun v σ H Q=>∃a xs,v = .ref a/\mZ K H a xs/\xs.length=n/\t xs σ H Q
theorem xV(hc:X.calm=true)(h:PGs X es t)
  (hn:(vq es X.env).length=n:=by rfl) (oE:(vq es X.env).findIdx? (·.1)=none:=by rfl):PG X (.Tuple es k pos) (ZA X.K n t):=by
 intro ak s σ H v u Q I r hw;obtain⟨a,xs,e1,hq,hl,hw⟩:=hw;subst e1;cases r;obtain⟨bq,rv,ht,hz⟩:=I.tuple hq;refine assign_Tuple_tuple (I.ok.hd hc) ht (by simp[hn,<- hl,rv.length]) oE fun h' hx=>?_;have I1:Inv X ak σ H {s with heap:=h'}:=I.kept (t':=s.toks) fun b o e=>hx b o (dH (cu e)) e;exact h ak _ σ H xs _ Q I1 (by simpa using rv) hw
def n5(to ti:TE)(t:Zw):TG:=fun v σ H Q=>to σ H fun o H1=>ti σ H1 fun i H2=>t o i v H2 fun H3=>Q σ H3
theorem VG(ho:PE X o to)(hi:PE X i ti)(hs:Zx X t)
  (ha:∀v,assign (.Subscript o i pos) X.env v=(do
   let ov <- holding [v] (eval o X.env)
   let iv <- holding [v,ov] (eval i X.env)
   standAt pos
   holding [v,ov,iv] (setItem ov iv v)
   release [v,ov,iv] []):=by intro _;rfl):PG X (.Subscript o i pos) (n5 to ti t):=by
 intro ak s σ H v u Q I r h;rw[ha];refine ah (jh (gS (ho ak s σ H _ I h) fun ov s1 ZC=>?_));refine bA ZC fun x H1 I1 r1 q1=>?_;clear ZC;refine ah (jh (gS (hi ak s1 σ H1 _ I1 q1) fun iv s2 ZD=>?_));refine bA ZD fun y H2 I2 r2 q2=>?_;clear ZD;refine ah (A0 (ah (jh (gS (hs ak s2 σ H2 x y v ov iv u _ I2 r1 r2 r q2) fun _ s3 ZE=>?_))));refine aU ZE fun H3 I3 q3=>?_;clear ZE;exact wpAny_release ⟨σ,H3,I3,q3⟩
def ZF(te:TE)(g:TG):TS:=fun D σ H=>te σ H fun x H1=>g x σ H1 D.nx
theorem NI(he:PE X e te)(hg:PG X tg g)(hs:swapsWithSole [tg] e pos.line X.env=pure false:=by rfl)(hw:swappedStores [tg] e X.env=pure none:=by rfl)
  (h1:(vq [tg] X.env).map (·.2)=[assign tg X.env]:=by rfl):PS X (.Assign [tg] e pos) (ZF te g):=by
 intro ak s σ H D I h;refine wpAny_Assign_stores (gS (he ak s σ H _ I h) fun v s1 ZG=>?_) hs hw;refine bA ZG fun x H1 I1 r1 q1=>?_;clear ZG;rw[h1];exact gS (hg ak s1 σ H1 x v _ I1 r1 q1) fun _ s2 q=>q
theorem NJ(hN:X.N.Nodup)(hi:X.N[i]?=some x)(hx:Loc X.env.scope x)(he:PE X e te)(hs:swapsWith e (some (.Name x pos')) pos.line X.env=pure false:=by rfl)(hf:X.fn x=true\/X.env.scope.names.lookup x=some .local:=by first|exact .inl rfl|exact .inr rfl|assumption) :
  PS X (.Assign [.Name x pos'] e pos) (ZF te (CU i)):=by
 intro ak s σ H D I h;refine wpAny_Assign_Name (gS (he ak s σ H _ I h) fun v s1 ZH=>?_) hs;refine bA ZH fun y H1 I1 r1 q1=>?_;clear ZH;exact sA I1 hN hi hx r1 (fun s2 I2=>⟨_,H1,I2,q1⟩) hf
def aw2(i j:Nat)(ta:TA):TS:=fun D σ H=>ta σ H fun vs H1=>∃v w,vs=[v,w]/\D.nx ((σ.set i (some v)).set j (some w)) H1
theorem VH{kt k2 VI}(hc:X.calm=true)(hN:X.N.Nodup)(hi:X.N[i]?=some x)(hj:X.N[j]?=some y)(nD:i≠j)
  (hx:X.env.scope.names.lookup x=some .local) (hy:X.env.scope.names.lookup y=some .local) (ha:PA X [a,b] ta)
  (hw:swappedStores [.Tuple [.Name x px,.Name y py] kt pt] (.Tuple [a,b] k2 VI) X.env=pure (some [x,y]))
  (hs:swapsWithSole [.Tuple [.Name x px,.Name y py] kt pt] (.Tuple [a,b] k2 VI) pos.line X.env=pure false:=by rfl) :
  PS X (.Assign [.Tuple [.Name x px,.Name y py] kt pt] (.Tuple [a,b] k2 VI) pos) (aw2 i j ta):=by
 intro ak s σ H D I h;rw[exec_Assign_arm];refine ah (A0 ?_);rw[hs];refine ah (aC ?_);rw[aM5 (by decide)];refine ah (Tuple_ (gS (ha _ ak s σ H _ I h) fun us s1 ZI=>?_));refine bA ZI fun vs H1 I1 r1 q1=>?_;clear ZI;obtain⟨v,w,e1,q1⟩:=q1;subst e1;obtain⟨u1,u2,rfl,rv,NK⟩:∃u1 u2,us=[u1,u2]/\RelV v u1/\RelV w u2:=by
  cases r1 with
  | cons p q=>
   cases q with
   | cons p' q'=>cases q';exact⟨_,_,rfl,p,p'⟩
 refine ou ?_ (by show 2<=cU;decide);have I2:Inv X ak σ H1 {s1 with heap:=s1.heap.push {cls:=.type "tuple",data:=.seq [u1,u2].toArray}}:=I1.kept (t':=s1.toks) fun b o e=>bU _ e;rw[hw];refine ah (aC ?_);show aB (aD X.prog X.w) X.A (do rule "assign.swapped-stores";let items <- unpackItems (.ref s1.heap.objs.size) 2 none;assignInOrder [fun v=>bindName X.env y v,fun v=>bindName X.env x v] items.reverse;pure Flow.next) _ _ _;refine ah (wX (ah (unpackItems_tuple (items:=#[u1,u2]) (I.ok.hd hc) (IsTup.new s1.heap _) fun h' sE=>?_)));have I3:=I2.kept (h':=h') (t':=s1.toks) fun b o e=>sE b o (dH (cu e)) e;show aB _ _ (assignInOrder [fun v=>bindName X.env y v,fun v=>bindName X.env x v] [u2,u1]>>=fun _=>pure Flow.next) _ _ _;refine ah (N1 (wpAny_bindName (sA I3 hN hj (.inl hy) NK (fun s2 I4=>?_) (.inr hy))));refine N1 (wpAny_bindName (sA I4 hN hi (.inl hx) rv (fun s3 I5=>Ut (aC ?_)) (.inr hx)));rw[List.set_comm _ _ (eU nD)]at I5;exact⟨_,H1,I5,q1⟩
end
section
def VJ(c:TT)(tb:TS):TS:=fun D σ H=>∃W:Nat->St->Hp->Prop,(∃m,W m σ H)/\∀m σ H,W m σ H->
 c σ H fun b H1=>if b=true then ∃N:St->Hp->Prop,(∀dZ H',N dZ H'->∃m',m'<m/\W m' dZ H')/\tb {D with nx:=N,ct:=N,bk:=D.nx} σ H1 else D.nx σ H1
theorem NL(hp:PassesOwn (aD X.prog X.w) X.A X.env X.xe)(hc:PT X c tc)(hb:vC X body tb):PS X (.While c body [] pos) (VJ tc tb):=by
 intro ak s σ H D I h;refine aU h fun W je turn=>?_;clear h;obtain⟨m0,w0⟩:=je;refine wpAny_While (codeAny_whileLoop (fun n s'=>∃dZ H',Inv X ak dZ H' s'/\W n dZ H') ?_ m0 ⟨σ,H,I,w0⟩);rintro n s1 ⟨NH,H1,I1,w1⟩;refine wY hp (gS (hc ak s1 NH H1 _ I1 (turn n NH H1 w1)) fun b s2 ZJ=>?_);refine aU ZJ fun H2 I2 q2=>?_;clear ZJ;cases b with
 | true=>
  obtain⟨N,hN,q2⟩:=q2;rw[aM4 rfl];refine wY hp (gS (hb ak s2 NH H2 _ I2 q2) fun f s3 q3=>?_);cases f with
  | next=>refine dO q3 fun CV H3 I3 n3=>?_;clear q3;refine aU (hN CV H3 n3) fun m' hm w3=>?_;exact⟨m',hm,CV,H3,I3,w3⟩
  | cont=>refine dO q3 fun CV H3 I3 n3=>?_;clear q3;refine aU (hN CV H3 n3) fun m' hm w3=>?_;exact⟨m',hm,CV,H3,I3,w3⟩
  | brk=>exact q3
  | ret v=>exact q3
 | false=>rw[aM5 jo];exact Ia ⟨NH,H2,I2,q2⟩
end
structure It where
 go:Nat->Hp->Prop
 yld:Nat->Hp->V->Hp->Prop
 stop:Nat->Hp->Prop
def Bw(X:Cx)(ak:List (ay×Obj))(H:Hp)(b:ay):Prop:=
 H b=none/\b≠X.env.locals/\b∉X.fs/\(b∈X.ex\/X.jr.heap.objs.size<=b)/\(∀x c,X.env.cells.lookup x=some c->c≠b)/\∀p∈X.pn++ak,p.1≠b
theorem Inv.JB(I:Inv X ak σ H s)(hb:s.heap.objs.size<=b)(hn:H' b=none):Bw X ak H' b:=by
 refine⟨hn,CH (iS I.lt hb),I.au7 hb,.inr (cI I.sz hb),fun x c e z=>?_,fun p hp z=>?_⟩;obtain⟨v,q⟩:=I.cell x c e;exact aN6 (iS q.lt (by rw[z];exact hb)) (sj _);exact aN6 (iS (cu (I.pin p hp).1) (by rw[z];exact hb)) (sj _)
structure Turn(P:dG)(w:bQ)(K:aE)(tg:bF)(J:It)(fp:List ay)(it:ay)(tn:Nat->aY->Prop):Prop where
 mem:it∈fp
 obj:∀i h,tn i h->∀b∈fp,∃o,h.get? b=some o/\∀v,o.data≠ .cell v
 keep:∀i h h',tn i h->(∀b∈fp,∀o,h.get? b=some o->h'.get? b=some o)->tn i h'
 item:∀(X:Cx),X.prog=P->X.w=w->X.K=K->X.calm=true->∀(i:Nat) (ak:List (ay×Obj)) (s:aA) (σ:St) (H:Hp) (E:av->aA->Prop),Inv X ak σ H s->(∀b∈fp,Bw X ak H b)->tn i s.heap->J.go i H->
  aB (aD P w) X.A (pyNext (.ref it)) (fun r s1=>∃u,r=some u/\
   aB (aD P w) X.A (letOwnedTupleGo tg (.ref it) u) (fun _ s2=>∃x H',Inv X ak σ H' s2/\RelV x u/\J.yld i H x H'/\tn (i+1) s2.heap/\∀b∈fp,H' b=none) E s1) E s
 done:∀(X:Cx),X.prog=P->X.w=w->X.K=K->X.calm=true->∀(i:Nat) (ak:List (ay×Obj)) (s:aA) (σ:St) (H:Hp) (E:av->aA->Prop),Inv X ak σ H s->(∀b∈fp,Bw X ak H b)->tn i s.heap->J.stop i H->
  aB (aD P w) X.A (pyNext (.ref it)) (fun r s1=>r=none/\Inv X ak σ H s1) E s
 self:∀(A:cH) (i:Nat) (s:aA) (Q:av->aA->Prop) (E:av->aA->Prop),tn i s.heap->Q (.ref it) s->aB (aD P w) A (pyIter (.ref it)) Q E s
abbrev TI:=St->Hp->(It->Hp->Prop)->Prop
def PIE(X:Cx)(ak:List (ay×Obj))(σ:St)(tg:bF)(R:It->Hp->Prop)(itv:av)(s2:aA):Prop:=
 ∃(it:ay) (fp:List ay) (tn:Nat->aY->Prop) (J:It) (H':Hp),itv = .ref it/\Inv X ak σ H' s2/\Turn X.prog X.w X.K tg J fp it tn/\tn 0 s2.heap/\(∀b∈fp,Bw X ak H' b)/\R J H'
def PI(X:Cx)(tg iter:bF)(wi:TI):Prop:=
 ∀(ak:List (ay×Obj)) (s:aA) (σ:St) (H:Hp) (R:It->Hp->Prop),Inv X ak σ H s->wi σ H R->
  aB (aD X.prog X.w) X.A (eval iter X.env) (fun v s1=>aB (aD X.prog X.w) X.A (pyIter v) (PIE X ak σ tg R) X.xe s1) X.xe s
theorem Ik{s:aA}{Q:Unit->aA->Prop}(ho:s.heap.get? it=some o)(hc:o.cls = .type n)(hd:o.data = .fields vs)
    (hn:["enumerate","zip","dict_itemiterator","dict_reverseitemiterator","odict_iterator","itertools.zip_longest","itertools.pairwise"].contains n=false) (hQ:Q () s):aB M A (letOwnedTupleGo tg (.ref it) u) Q E s:=by
  unfold letOwnedTupleGo;cases tg <;> first
    | exact aC hQ
    | (cases u <;> first
        | exact aC hQ
        | (refine ah (wpAny_load ho ?_)
           rw[hc,hd]
           show aB M A (if(["enumerate","zip","dict_itemiterator","dict_reverseitemiterator","odict_iterator","itertools.zip_longest","itertools.pairwise"].contains n&&vs[0]?==some (rawInt _))=true then _ else _) Q E s
           rw[aM5 (by intro h;rw[hn,Bool.false_and]at h;cases h)]
           exact aC hQ))
def Itl(K:aE)(a:ay):It:=
 ⟨fun i H=>∃xs x,lB K H a xs/\xs[i]?=some x,fun i H x H'=>H'=H/\∀xs,lB K H a xs->xs[i]?=some x,fun i H=>∃xs,lB K H a xs/\xs.length<=i⟩
def Itt(K:aE)(a:ay):It:=
 ⟨fun i H=>∃xs x,mZ K H a xs/\xs[i]?=some x,fun i H x H'=>H'=H/\∀xs,mZ K H a xs->xs[i]?=some x,fun i H=>∃xs,mZ K H a xs/\xs.length<=i⟩
def Itr(lo:Int)(n:Nat):It:=⟨fun i _=>i<n,fun i H x H'=>H'=H/\x = .int (lo+i),fun i _=>n<=i⟩
theorem JC{P:dG}{w:bQ}{K:aE}{tg:bF}(a it:ay):Turn P w K tg (Itl K a) [it] it (fun i h=>h.IsListIter it a i) where
 mem:=by simp
 obj:=fun i h st b hb=>by
  have e:b=it:=by simpa using hb
  subst e;refine cM st fun o e c d=>?_;clear st;exact⟨o,e,fun v z=>by rw[d] at z;cases z⟩
 keep:=fun i h h' st k=>st.at fun o e=>k it (by simp) o e
 item:=by
  intro X hP hw hK hc i ak s σ H E I hf st hg;subst hP hw hK;refine dO hg fun xs x hq hx=>?_;clear hg;refine cM (I.list hq) fun bq rv p hz=>?_;refine aU (rv.get hx) fun u hu ru=>?_;refine w6 (hf it (by simp)) fun f0 f1 f2 f3 f4 f5=>?_;refine Up st p.isList (x:=u) (by simpa using hu) fun h' st' sb=>?_;have I1:Inv X ak σ H { s with heap:=h' }:=I.turned (t':=s.toks) (fun b o hb e=>(sb.2 b hb).trans e) f0 f1 f3 f4 f5;refine cM (id st') fun o e c d=>?_;exact⟨u,rfl,Ik (s:={s with heap:=h'}) e c d (by decide) ⟨x,H,I1,ru,⟨rfl,fun ys hy=>by rw[I.CS hy hq];exact hx⟩,st',fun b hb=>(hf b hb).1⟩⟩
 done:=by
  intro X hP hw hK hc i ak s σ H E I hf st hg;subst hP hw hK;refine aU hg fun xs hq hx=>?_;clear hg;refine cM (I.list hq) fun bq rv p hz=>?_;refine w6 (hf it (by simp)) fun f0 f1 f2 f3 f4 f5=>?_;have hl:=rv.length;exact Uq (I.ok.hd hc) st p.isList (by simp;lia) fun h' eb=>⟨rfl,I.turned (t':=s.toks) (fun b o hb e=>eb b o hb e) f0 f1 f3 f4 f5⟩
 self:=fun _ _ _ _ _ st h=>wpAny_pyIter_listiter st h
theorem Gj{P:dG}{w:bQ}{K:aE}{tg:bF}(a it:ay):Turn P w K tg (Itt K a) [it] it (fun i h=>h.IsTupleIter it a i) where
 mem:=by simp
 obj:=fun i h st b hb=>by
  have e:b=it:=by simpa using hb
  subst e;refine cM st fun o e c d=>?_;clear st;exact⟨o,e,fun v z=>by rw[d] at z;cases z⟩
 keep:=fun i h h' st k=>st.at fun o e=>k it (by simp) o e
 item:=by
  intro X hP hw hK hc i ak s σ H E I hf st hg;subst hP hw hK;refine dO hg fun xs x hq hx=>?_;clear hg;refine cM (I.tuple hq) fun bq rv p hz=>?_;refine aU (rv.get hx) fun u hu ru=>?_;refine w6 (hf it (by simp)) fun f0 f1 f2 f3 f4 f5=>?_;refine wpAny_pyNext_tuple_item st (show s.heap.IsTuple a bq.toArray from p) (x:=u) (by simpa using hu) fun h' st' sb=>?_;have I1:Inv X ak σ H { s with heap:=h' }:=I.turned (t':=s.toks) (fun b o hb e=>(sb.2 b hb).trans e) f0 f1 f3 f4 f5;refine cM (id st') fun o e c d=>?_;exact⟨u,rfl,Ik (s:={s with heap:=h'}) e c d (by decide) ⟨x,H,I1,ru,⟨rfl,fun ys hy=>by rw[I.JA hy hq];exact hx⟩,st',fun b hb=>(hf b hb).1⟩⟩
 done:=by
  intro X hP hw hK hc i ak s σ H E I hf st hg;subst hP hw hK;refine aU hg fun xs hq hx=>?_;clear hg;refine cM (I.tuple hq) fun bq rv p hz=>?_;refine w6 (hf it (by simp)) fun f0 f1 f2 f3 f4 f5=>?_;have hl:=rv.length;exact wpAny_pyNext_tuple_end (I.ok.hd hc) st (show s.heap.IsTuple a bq.toArray from p) (by simp;lia) fun h' eb=>⟨rfl,I.turned (t':=s.toks) (fun b o hb e=>eb b o hb e) f0 f1 f3 f4 f5⟩
 self:=fun _ _ _ _ _ st h=>wpAny_pyIter_tupleiter st h
theorem Gk{P:dG}{w:bQ}{K:aE}{tg:bF}(it:ay)(lo:Int)(n:Nat):Turn P w K tg (Itr lo n) [it] it (fun i h=>IsRangeIter h it (lo+(i:Nat)*1) ((n:Int)-(i:Nat)) 1) where
 mem:=by simp
 obj:=fun i h st b hb=>by
  have e:b=it:=by simpa using hb
  subst e;exact⟨_,st,fun v z=>by
   have z':Data.fields _=Data.cell v:=z;cases z'⟩
 keep:=fun i h h' st k=>k it (by simp) _ st
 item:=by
  intro X hP hw hK hc i ak s σ H E I hf st hg;subst hP hw hK;refine w6 (hf it (by simp)) fun f0 f1 f2 f3 f4 f5=>?_;have W:=Walks.range (prog:=X.prog) (w:=X.w) (I.ok.hd hc) it lo 1 n;refine W.item i s _ _ hg st fun v h' tk hv st' kk=>?_;obtain⟨t,rfl⟩:=hv;have I1:Inv X ak σ H {s with heap:=h',toks:=tk}:=I.turned (fun b o hb e=>kk b o (by simpa using hb) e) f0 f1 f3 f4 f5;refine⟨_,rfl,Ik (s:={s with heap:=h',toks:=tk}) (n:="range_iterator") st' rfl rfl (by decide) ⟨.int (lo+i),H,I1,⟨t,?_⟩,⟨rfl,rfl⟩,st',fun b hb=>(hf b hb).1⟩⟩;rw[Int.mul_one]
 done:=by
  intro X hP hw hK hc i ak s σ H E I hf st hg;subst hP hw hK;refine w6 (hf it (by simp)) fun f0 f1 f2 f3 f4 f5=>?_;exact wpAny_pyNext_range_end (I.ok.hd hc) st (by have:n<=i:=hg;lia) fun h' eb=>⟨rfl,I.turned (t':=s.toks) (fun b o hb e=>eb b o hb e) f0 f1 f3 f4 f5⟩
 self:=fun _ _ _ _ _ st h=>wpAny_pyIter_rangeiter st h
section
def ZK(K:aE)(tl:TE):TI:=fun σ H R=>tl σ H fun x H1=>∃a,x = .ref a/\(∃xs,lB K H1 a xs)/\R (Itl K a) H1
def aw3(K:aE)(tl:TE):TI:=fun σ H R=>tl σ H fun x H1=>∃a,x = .ref a/\(∃xs,mZ K H1 a xs)/\R (Itt K a) H1
theorem Il{l:bF}{tl:TE}(hl:PE X l tl):PI X tg l (ZK X.K tl):=by
 intro ak s σ H R I h;refine gS (hl ak s σ H _ I h) fun v s1 ZL=>?_;refine bA ZL fun x H1 I1 r1 q1=>?_;clear ZL;refine cM q1 fun a e b8 q=>?_;clear q1;obtain ⟨xs,hq⟩:=b8;subst e;cases r1;refine cM (I1.list hq) fun bq rv p hz=>?_;refine LD p.isList ?_;refine⟨s1.heap.objs.size,[s1.heap.objs.size],_,_,H1,rfl,I1.kept (t':=s1.toks) fun b o e=>bU _ e,JC a _,⟨_,eV _ rfl,rfl,rfl⟩,fun b hb=>?_,q⟩;have e:b=s1.heap.objs.size:=by simpa using hb
 subst e;exact I1.JB (bg _) (I1.fE.fresh (bg _))
theorem VL{l:bF}{tl:TE}(hl:PE X l tl):PI X tg l (aw3 X.K tl):=by
 intro ak s σ H R I h;refine gS (hl ak s σ H _ I h) fun v s1 ZM=>?_;refine bA ZM fun x H1 I1 r1 q1=>?_;clear ZM;refine cM q1 fun a e b8 q=>?_;clear q1;obtain ⟨xs,hq⟩:=b8;subst e;cases r1;refine cM (I1.tuple hq) fun bq rv p hz=>?_;refine wpAny_pyIter_tuple (show s1.heap.IsTuple a bq.toArray from p) ?_;refine⟨s1.heap.objs.size,[s1.heap.objs.size],_,_,H1,rfl,I1.kept (t':=s1.toks) fun b o e=>bU _ e,Gj a _,⟨_,eV _ rfl,rfl,rfl⟩,fun b hb=>?_,q⟩;have e:b=s1.heap.objs.size:=by simpa using hb
 subst e;exact I1.JB (bg _) (I1.fE.fresh (bg _))
theorem NN{R:It->Hp->Prop}{lo hi:Int}{tk:Nat}(I:Inv X ak σ H s)(h1 : -(2 ^ 62)<=lo)(h2:lo<2 ^ 62)(h3 : -(2 ^ 62)<=hi)(h4:hi<2 ^ 62)
  (q:R (Itr lo (hi-lo).toNat) H):aB (aD X.prog X.w) X.A (pyIter (.ref s.heap.objs.size)) (PIE X ak σ tg R) E {s with heap:=s.heap.push {cls:=.type "range",data:=.fields #[.int lo t,.int hi u,.int 1 v]},toks:=tk}:=by
 refine wpAny_pyIter_range (IsRange.new ..) (small_one h1 h2 h3 h4) ?_;have I1:Inv X ak σ H {s with heap:=s.heap.push {cls:=.type "range",data:=.fields #[.int lo t,.int hi u,.int 1 v]},toks:=tk}:=I.kept fun b o e=>bU _ e;refine⟨(s.heap.push {cls:=.type "range",data:=.fields #[.int lo t,.int hi u,.int 1 v]}).objs.size,[(s.heap.push {cls:=.type "range",data:=.fields #[.int lo t,.int hi u,.int 1 v]}).objs.size],_,_,H,rfl,
  I1.kept (t':=tk) fun b o e=>bU _ e,Gk _ lo (hi-lo).toNat,?_,fun b hb=>?_,q⟩
 have e1:lo+((0:Nat):Int)*1=lo:=by simp
 have e2:(((hi-lo).toNat:Nat):Int)-((0:Nat):Int)=Builtin.Range.rangeSize lo hi 1:=by rw[rangeSize_one];split <;> lia
 show IsRangeIter _ _ (lo+((0:Nat):Int)*1) ((((hi-lo).toNat:Nat):Int)-((0:Nat):Int)) 1;rw[e1,e2];exact eV _ rfl;have e:b=(s.heap.push {cls:=.type "range",data:=.fields #[.int lo t,.int hi u,.int 1 v]}).objs.size:=by simpa using hb
 subst e;exact I1.JB (bg _) (I1.fE.fresh (bg _))
def ZN(ta:TA):TI:=fun σ H R=>ta σ H fun vs H1=>∃j:Int,vs=[.int j]/\ -(2 ^ 62)<=j/\j<2 ^ 62/\R (Itr 0 j.toNat) H1
theorem JD{a:bF}{p:Pos}(hg:Gl X "range")(hm:X.mg "range"=none)(ha:PA X [a] ta)(hs:bN [a] X.env=[(false,eval a X.env)]:=by rfl):PI X tg (.Call (.Name "range" p) [a] [] pos) (ZN ta):=by
 intro ak s σ H R I h;refine Call_ (uP I hg hm boot_range (N2 (gS (ha pos ak s σ H _ I h) fun us s1 ZO=>?_) hs rfl));refine bA ZO fun vs H1 I1 r1 q1=>?_;clear ZO;obtain⟨j,e,q1,q2,q⟩:=q1;subst e;cases r1 with
 | cons r rr=>cases rr;obtain ⟨t,rfl⟩:=r;exact call_range_1 (NN I1 (by lia) (by lia) q1 q2 (by simpa using q))
def aw4(wi:TI)(g:TG)(tb:TS):TS:=fun D σ H=>wi σ H fun J H1=>∃W:Nat->Nat->St->Hp->Prop,(∃m,W 0 m σ H1)/\∀i m σ H,W i m σ H->
 (J.stop i H/\D.nx σ H)\/(J.go i H/\∃N:St->Hp->Prop,(∀dZ H',N dZ H'->∃m',m'<m/\W (i+1) m' dZ H')/\∀x H',J.yld i H x H'->g x σ H' fun Bx H2=>tb {D with nx:=N,ct:=N,bk:=D.nx} Bx H2)
def xW(fp:List ay)(h:aY):List (ay×Obj):=fp.filterMap fun b=>(h.get? b).map fun o=>(b,o)
theorem nP{h:aY}(hb:b∈fp)(e:h.get? b=some o):(b,o)∈xW fp h:=CI.mpr ⟨b,hb,by rw[e];rfl⟩
theorem JE(hp:p∈xW fp h):p.1∈fp/\h.get? p.1=some p.2:=by
 refine aU (CI.mp hp) fun b hb e=>?_;cases q:h.get? b with
 | none=>rw[q]at e;cases e
 | some o=>rw[q]at e;have e':(b,o)=p:=fq e;subst e';exact⟨hb,q⟩
theorem Inv.pinned(I:Inv X ak σ H s)(hf:∀b∈fp,Bw X ak H b)(ho:∀b∈fp,∃o,s.heap.get? b=some o/\∀v,o.data≠ .cell v):Inv X (ak++xW fp s.heap) σ H s:=
 I.su fun p hp=>(gH.mp hp).elim (fun z=>I.pin p (mY _ z)) fun z=>by
  obtain⟨hb,e⟩:=JE z;refine Ga (hf p.1 hb) fun f0 f1 f2 _=>?_;refine aU (ho p.1 hb) fun o e' d=>?_;rw[e] at e';cases e';exact⟨e,f0,f1,f2,d⟩
theorem Inv.xX(I:Inv X (ak++pl) σ H s):Inv X ak σ H s:=I.su fun p hp=>I.pin p (mY _ (Aa _ hp))
theorem Gm(hp:PassesOwn (aD X.prog X.w) X.A X.env X.xe)(hc:X.calm=true)(hi:PI X tg iter wi)(hg:PG X tg g)(hb:vC X body tb)
  (hs:∀x,qy iter X.env x=pure x:=by intro _;rfl):PS X (.For tg iter body [] pos) (aw4 wi g tb):=by
 intro ak s σ H D I h;refine wpAny_For (gS (hi ak s σ H _ I h) fun v s1 h1=>gS h1 fun itv s2 h2=>?_) hs;obtain⟨it,fp,tn,J,H2,e,I2,T,mO,f2,W,⟨m0,w0⟩,turn⟩:=h2;subst e;have VM:∀{H':Hp},(∀b∈fp,H' b=none)->∀b∈fp,Bw X ak H' b:=fun hn b hb=>⟨hn b hb,(f2 b hb).2⟩
 refine codeAny_forLoop_any (fun n s'=>∃i dZ H',Inv X ak dZ H' s'/\tn i s'.heap/\(∀b∈fp,H' b=none)/\W i n dZ H') ?_ m0 ⟨0,σ,H2,I2,mO,fun b hb=>(f2 b hb).1,w0⟩;rintro n s3 ⟨i,CV,H3,I3,By,fr3,w3⟩;rcases turn i n CV H3 w3 with⟨stop,qn⟩|⟨go,N,hN,step⟩;refine wY hp (gS (T.done X rfl rfl rfl hc i ak s3 CV H3 X.xe I3 (VM fr3) By stop) fun r s4 aw5=>?_);obtain⟨hr,I4⟩:=aw5;subst hr;exact Ia ⟨CV,H3,I4,qn⟩;refine wY hp (gS (T.item X rfl rfl rfl hc i ak s3 CV H3 X.xe I3 (VM fr3) By go) fun r s4 ZP=>?_);refine aU ZP fun u hr h4=>?_;clear ZP;subst hr;refine wY hp (gS h4 fun _ s5 ZQ=>?_);refine Gb ZQ fun x H5 I5 r5 y5 BA fr5=>?_;clear ZQ;have I5':=I5.pinned (VM fr5) (T.obj _ _ BA);refine wY hp (gS (hg _ s5 CV H5 x u _ I5' r5 (step x H5 y5)) fun _ s6 ZR=>?_);refine dO ZR fun VN H6 I6 q6=>?_;clear ZR;refine wY hp (gS (hb _ s6 VN H6 _ I6 q6) fun f s7 q7=>?_);have again:∀{NO:St} {H7:Hp},Inv X (ak++xW fp s5.heap) NO H7 s7->N NO H7->∃m,m<n/\∃i dZ H',Inv X ak dZ H' s7/\tn i s7.heap/\(∀b∈fp,H' b=none)/\W i m dZ H':=fun {NO H7} I7 n7=>by refine aU (hN NO H7 n7) fun m' hm w7=>?_;refine⟨m',hm,i+1,NO,H7,I7.xX,T.keep _ _ _ BA fun b hb o e=>(I7.pin (b,o) (mY _ (mY _ (nP hb e)))).1,fun b hb=>?_,w7⟩;refine aU (T.obj _ _ BA b hb) fun o e d=>?_;exact(I7.pin (b,o) (mY _ (mY _ (nP hb e)))).2.1
 cases f with
 | next=>obtain⟨NO,H7,I7,n7⟩:=q7;exact again I7 n7
 | cont=>obtain⟨NO,H7,I7,n7⟩:=q7;exact again I7 n7
 | brk=>obtain⟨NO,H7,I7,q7⟩:=q7;exact⟨NO,H7,I7.xX,q7⟩
 | ret v=>obtain⟨x7,NO,H7,I7,r7,q7⟩:=q7;exact⟨x7,NO,H7,I7.xX,r7,q7⟩
end
abbrev R2:=V->V->Hp->VK->Prop
def rD(X:Cx)(f:av->av->Sem av)(r:R2):Prop:=
 ∀(ak:List (ay×Obj)) (s:aA) (σ:St) (H:Hp) (x y:V) (v u:av) (Q:VK),Inv X ak σ H s->RelV x v->RelV y u->r x y H Q->
  aB (aD X.prog X.w) X.A (f v u) (EP X ak σ Q) X.xe s
def UnR(X:Cx)(f:av->Sem av)(r:V->Hp->VK->Prop):Prop:=
 ∀(ak:List (ay×Obj)) (s:aA) (σ:St) (H:Hp) (x:V) (v:av) (Q:VK),Inv X ak σ H s->RelV x v->r x H Q->
  aB (aD X.prog X.w) X.A (f v) (EP X ak σ Q) X.xe s
def lV(X:Cx)(f:av)(r:List V->Hp->VK->Prop):Prop:=
 ∀(ak:List (ay×Obj)) (s:aA) (σ:St) (H:Hp) (xs:List V) (us:List av) (Q:VK),Inv X ak σ H s->Vals xs us->r xs H Q->
  aB (aD X.prog X.w) X.A (call f us) (EP X ak σ Q) X.xe s
def YF(r:R2)(ta tb:TE):TE:=fun σ H Q=>ta σ H fun x H1=>tb σ H1 fun y H2=>r x y H2 Q
def tUn(r:V->Hp->VK->Prop)(ta:TE):TE:=fun σ H Q=>ta σ H fun x H1=>r x H1 Q
def rI(C:Int->Int->Prop)(g:Int->Int->V):R2:=fun x y H Q=>∃i j,x = .int i/\y = .int j/\C i j/\Q (g i j) H
def Lk(g:Int->Int->V):R2:=fun x y H Q=>∃i j,x = .int i/\y = .int j/\Q (g i j) H
def rU(g:Int->V):V->Hp->VK->Prop:=fun x H Q=>∃i,x = .int i/\Q (g i) H
section
theorem VO(ha:PE X a ta)(hb:PE X b tb){R:V->V->Hp->Prop}(I:Inv X ak σ H s)
  (h:ta σ H fun x H1=>tb σ H1 fun y H2=>R x y H2) {f:av->av->Sem av}
  (hf:∀v u s2 x y H2,Inv X ak σ H2 s2->RelV x v->RelV y u->R x y H2->aB (aD X.prog X.w) X.A (f v u) Q X.xe s2) :
  aB (aD X.prog X.w) X.A (eval a X.env) (fun v lC=>aB (aD X.prog X.w) X.A (eval b X.env) (fun u Rt=>aB (aD X.prog X.w) X.A (f v u) Q X.xe Rt) X.xe lC) X.xe s:=by
 refine gS (ha ak s σ H _ I h) fun v s1 ZS=>?_;refine bA ZS fun x H1 I1 r1 q1=>?_;clear ZS;refine gS (hb ak s1 σ H1 _ I1 q1) fun u s2 ZT=>?_;refine bA ZT fun y H2 I2 r2 q2=>?_;clear ZT;exact hf v u s2 x y H2 I2 r1 r2 q2
theorem ZU(ho:rD X (binaryOp op) r)(ha:PE X a ta)(hb:PE X b tb):PE X (.BinOp a op b pos) (YF r ta tb):=by
 intro ak s σ H Q I h;exact wpAny_BinOp (VO ha hb I h fun v u s2 x y H2 I2 rx ry q=>ho ak s2 σ H2 x y v u Q I2 rx ry q)
theorem ZV(ho:UnR X (unaryOp op) r)(ha:PE X a ta):PE X (.UnaryOp op a pos) (tUn r ta):=by
 intro ak s σ H Q I h;exact UnaryOp_ (gS (ha ak s σ H _ I h) fun v s1 aw6=>aw6.elim fun x aw7=>aw7.elim fun H1 aw8=>aw8.elim fun I1 aw9=>aw9.elim fun r1 q1=>ho ak s1 σ H1 x v Q I1 r1 q1)
theorem opI{f:av->av->Sem av}{C:Int->Int->Prop}{g:Int->Int->Int}
  (rule:∀(i j:Int) (t u:Tok) (s:aA) (Q:av->aA->Prop) (E:av->aA->Prop),C i j->Q (.int (g i j) s.toks) {s with toks:=s.toks+1}->aB (aD X.prog X.w) X.A (f (.int i t) (.int j u)) Q E s) :
  rD X f (rI C fun i j=>.int (g i j)):=by
 intro ak s σ H x y v u Q I rx ry h;refine uN h fun i j b8 rE hc q=>?_;clear h;obtain rfl:=b8;obtain rfl:=rE;obtain ⟨t,rfl⟩:=rx;obtain ⟨t',rfl⟩:=ry;exact rule i j t t' s _ _ hc ⟨.int (g i j),H,I.tok _,⟨_,rfl⟩,q⟩
theorem ZW{f:av->av->Sem av}{g:Int->Int->Int}
  (rule:∀(i j:Int) (t u:Tok) (s:aA) (Q:av->aA->Prop) (E:av->aA->Prop),Q (.int (g i j) s.toks) {s with toks:=s.toks+1}->aB (aD X.prog X.w) X.A (f (.int i t) (.int j u)) Q E s) :
  rD X f (Lk fun i j=>.int (g i j)):=by
 intro ak s σ H x y v u Q I rx ry h;refine bA h fun i j b8 rE q=>?_;clear h;obtain rfl:=b8;obtain rfl:=rE;obtain ⟨t,rfl⟩:=rx;obtain ⟨t',rfl⟩:=ry;exact rule i j t t' s _ _ ⟨.int (g i j),H,I.tok _,⟨_,rfl⟩,q⟩
theorem VP{f:av->av->Sem av}{g:Int->Int->Bool}
  (rule:∀(i j:Int) (t u:Tok) (s:aA) (Q:av->aA->Prop) (E:av->aA->Prop),Q (.bool (g i j)) s->aB (aD X.prog X.w) X.A (f (.int i t) (.int j u)) Q E s) :
  rD X f (Lk fun i j=>.bl (g i j)):=by
 intro ak s σ H x y v u Q I rx ry h;refine bA h fun i j b8 rE q=>?_;clear h;obtain rfl:=b8;obtain rfl:=rE;obtain ⟨t,rfl⟩:=rx;obtain ⟨t',rfl⟩:=ry;exact rule i j t t' s _ _ ⟨.bl (g i j),H,I,rfl,q⟩
def ZX(i j:Int):Prop:=0<j/\j<1073741824
def Ru(i j:Int):Prop:=(-(2 ^ 64)<i/\i<2 ^ 64)\/(-(2 ^ 64)<j/\j<2 ^ 64)
theorem Ru.ok(h:Ru i j):IntMulOk i j:=by
 rcases h with⟨h1,h2⟩|⟨h1,h2⟩;exact .of_left (intBits_le_64 h1 h2);exact .of_right (intBits_le_64 h1 h2)
theorem i8:rD X (binaryOp .Add) (Lk fun i j=>.int (i+j)):=ZW fun _ _ _ _ _ _ _ q=>add_int q
theorem uQ:rD X (binaryOp .Sub) (Lk fun i j=>.int (i-j)):=ZW fun _ _ _ _ _ _ _ q=>sub_int q
theorem xY:rD X (binaryOp .Mult) (rI Ru fun i j=>.int (i*j)):=opI fun _ _ _ _ _ _ _ hc q=>mul_int q hc.ok
theorem lW:rD X (binaryOp .FloorDiv) (rI ZX fun i j=>.int (i / j)):=opI fun i j _ _ _ _ _ hc q=>by
 have h1:(0:Int)<j:=hc.1;have h2:j<1073741824:=hc.2;exact floordiv_int (by lia) (by rw[Int.fdiv_eq_ediv_of_nonneg i (by lia)];exact q) (.inl (PyProof.noPylong_small (by lia)))
theorem mP:rD X (binaryOp .Mod) (rI (fun _ j=>0<j) fun i j=>.int (i % j)):=opI fun i j _ _ _ _ _ hc q=>by
 have h1:(0:Int)<j:=hc;exact mod_int' (by lia) (by rw[Int.fmod_eq_emod_of_nonneg i (by lia)];exact q)
theorem unI{f:av->Sem av}{g:Int->Int}
  (rule:∀(i:Int) (t:Tok) (s:aA) (Q:av->aA->Prop) (E:av->aA->Prop),Q (.int (g i) s.toks) {s with toks:=s.toks+1}->aB (aD X.prog X.w) X.A (f (.int i t)) Q E s) :
  UnR X f (rU fun i=>.int (g i)):=by
 intro ak s σ H x v Q I rx h;refine aU h fun i je q=>?_;clear h;obtain rfl:=je;obtain ⟨t,rfl⟩:=rx;exact rule i t s _ _ ⟨.int (g i),H,I.tok _,⟨_,rfl⟩,q⟩
theorem VQ:UnR X (unaryOp .USub) (rU fun i=>.int (-i)):=unI fun _ _ _ _ _ q=>neg_int q
end
section
theorem Ux:rD X (iR .Lt) (Lk fun i j=>.bl (decide (i<j))):=VP fun _ _ _ _ _ _ _ q=>lt_int q
theorem Ad:rD X (iR .LtE) (Lk fun i j=>.bl (decide (i<=j))):=VP fun _ _ _ _ _ _ _ q=>le_int q
theorem NP:rD X (iR .Gt) (Lk fun i j=>.bl (decide (j<i))):=VP fun _ _ _ _ _ _ _ q=>gt_int q
theorem i9(b:bF)(h:op≠ .In:=by decide)(h2:op≠ .NotIn:=by decide):behindInMarks op b=false:=by
 have e1:(op==CmpOp.In)=false:=by cases op <;> first|rfl|exact aN6 rfl h
 have e2:(op==CmpOp.NotIn)=false:=by cases op <;> first|rfl|exact aN6 rfl h2
 cases b <;> simp[behindInMarks,e1,e2]
theorem Rv(ho:rD X (iR op) r)(ha:PE X a ta)(hb:PE X b tb)(hm:behindInMarks op b=false):PE X (.Compare a [op] [b] pos) (YF r ta tb):=by
 intro ak s σ H Q I h;exact wpAny_Compare1 (VO ha hb I h fun v u s2 x y H2 I2 rx ry q=>ho ak s2 σ H2 x y v u Q I2 rx ry q) hm
def Uy(t:TE):TT:=fun σ H Q=>t σ H fun x H'=>∃k,x = .bl k/\Q k H'
theorem Rw(ho:rD X (iR op) r)(ha:PE X a ta)(hb:PE X b tb)(hm:behindInMarks op b=false):PT X (.Compare a [op] [b] pos) (Uy (YF r ta tb)):=by
 intro ak s σ H Q I h;refine wpAny_isTrue_Compare1 (gS (ha ak s σ H _ I h) fun v s1 ax0=>ax0.elim fun x ax1=>ax1.elim fun H1 ax2=>ax2.elim fun I1 ax3=>ax3.elim fun r1 q1=>gS (hb ak s1 σ H1 _ I1 q1) fun u s2 ax4=>ax4.elim fun y ax5=>ax5.elim fun H2 ax6=>ax6.elim fun I2 ax7=>ax7.elim fun r2 q2=>
  gS (ho ak s2 σ H2 x y v u _ I2 r1 r2 q2) fun c s3 ax8=>ax8.elim fun z ax9=>ax9.elim fun H3 ay0=>ay0.elim fun I3 ay1=>ay1.elim fun r3 ay2=>ay2.elim fun k ay3=>ay3.elim fun e q3=>?_) hm
 subst e;cases r3;exact wW ⟨H3,I3,q3⟩
def Gn(r r':R2)(ta tb tc:TE):TE:=fun σ H Q=>ta σ H fun x H1=>tb σ H1 fun y H2=>r x y H2 fun z H3=>∃k,z = .bl k/\
 (if k=true then tc σ H3 fun w' H4=>r' y w' H4 Q else Q (.bl false) H3)
theorem NQ(ho:rD X (iR op) r)(CO:rD X (iR NR) r')(ha:PE X a ta)(hb:PE X b tb)(hc:PE X c tc)
  (hm:lastMarks [op,NR] [b,c]=false:=by with_unfolding_all rfl):PE X (.Compare a [op,NR] [b,c] pos) (Gn r r' ta tb tc):=by
 intro ak s σ H Q I h;refine Compare_chain (gS (ha ak s σ H _ I h) fun v s1 ay4=>ay4.elim fun x ay5=>ay5.elim fun H1 ay6=>ay6.elim fun I1 ay7=>ay7.elim fun r1 q1=>chain_link (gS (hb ak s1 σ H1 _ I1 q1) fun u s2 ay8=>ay8.elim fun y ay9=>ay9.elim fun H2 az0=>az0.elim fun I2 az1=>az1.elim fun r2 q2=>
  gS (ho ak s2 σ H2 x y v u _ I2 r1 r2 q2) fun d s3 az2=>az2.elim fun z az3=>az3.elim fun H3 az4=>az4.elim fun I3 az5=>az5.elim fun r3 az6=>az6.elim fun k az7=>az7.elim fun e q3=>?_)) hm
 subst e;cases r3;refine wW ?_;cases k with
 | false=>exact ite_ff ⟨.bl false,H3,I3,rfl,q3⟩
 | true=>exact ite_tt (chain_last (gS (hc ak s3 σ H3 _ I3 q3) fun w' s4 az8=>az8.elim fun z' az9=>az9.elim fun H4 aA0=>aA0.elim fun I4 aA1=>aA1.elim fun r4 q4=>CO ak s4 σ H4 y z' u w' Q I4 r2 r4 q4))
theorem NS(ho:rD X (iR op) r)(CO:rD X (iR NR) r')(ha:PE X a ta)(hb:PE X b tb)(hc:PE X c tc)
  (hm:lastMarks [op,NR] [b,c]=false:=by with_unfolding_all rfl):PT X (.Compare a [op,NR] [b,c] pos) (Uy (Gn r r' ta tb tc)):=by
 intro ak s σ H Q I h;refine isTrue_chain (gS (ha ak s σ H _ I h) fun v s1 aA2=>aA2.elim fun x aA3=>aA3.elim fun H1 aA4=>aA4.elim fun I1 aA5=>aA5.elim fun r1 q1=>test_link (gS (hb ak s1 σ H1 _ I1 q1) fun u s2 aA6=>aA6.elim fun y aA7=>aA7.elim fun H2 aA8=>aA8.elim fun I2 ZY=>ZY.elim fun r2 q2=>
  gS (ho ak s2 σ H2 x y v u _ I2 r1 r2 q2) fun d s3 ZZ=>ZZ.elim fun z aa0=>aa0.elim fun H3 aa1=>aa1.elim fun I3 aa2=>aa2.elim fun r3 aa3=>aa3.elim fun k aa4=>aa4.elim fun e q3=>?_)) hm
 subst e;cases r3;refine wW ?_;cases k with
 | false=>refine aU q3 fun k' e' q'=>?_;clear q3;cases e';exact ite_ff ⟨H3,I3,q'⟩
 | true=>refine ite_tt (test_last (gS (hc ak s3 σ H3 _ I3 q3) fun w' s4 aa5=>aa5.elim fun z' aa6=>aa6.elim fun H4 aa7=>aa7.elim fun I4 aa8=>aa8.elim fun r4 q4=>gS (CO ak s4 σ H4 y z' u w' _ I4 r2 r4 q4) fun d' s5 aa9=>?_));obtain⟨z2,H5,I5,r5,k2,e2,q5⟩:=aa9;subst e2;cases r5;exact wW ⟨H5,I5,q5⟩
theorem Gp:(cU:Nat)<2 ^ 63:=by rw[gG];decide
theorem vals1(r:Vals [x] us):∃u,us=[u]/\RelV x u:=by
 cases r with
 | cons r1 r2=>cases r2;exact⟨_,rfl,r1⟩
theorem vals2(r:Vals [x,y] us):∃u w',us=[u,w']/\RelV x u/\RelV y w':=by
 cases r with
 | cons r1 r2=>
  cases r2 with
  | cons r3 r4=>cases r4;exact⟨_,_,rfl,r1,r3⟩
theorem CW:lV X (.builtin "abs") (fun xs H Q=>∃i,xs=[.int i]/\Q (.int (if i<0 then -i else i)) H):=by
 intro ak s σ H xs us Q I r h;refine aU h fun i je q=>?_;clear h;obtain rfl:=je;obtain⟨u,rfl,t,rfl⟩:=vals1 r;exact call_abs_int fun u tk=>⟨.int (if i<0 then -i else i),H,I.tok _,⟨_,rfl⟩,q⟩
end
structure JF(h:aY)(x dx C:ay)(mA:Str->Option av):Prop where
 obj:h.get? x=some (vt C dx)
 ns:h.Ns1 dx mA
 ne:dx≠x
theorem JG{h:aY}(n:h.Ns1 dx mA):∃od,h.get? dx=some od/\∀name,PySem.W.lookIn name od=some (mA name):=by
 refine Bs n fun o es ep ho hd hk _ hm=>?_;clear n;refine⟨o,ho,fun name=>?_⟩;have e:=hm name;unfold nsFind findBy at e;rw[<- Array.find?_toList]at e;unfold PySem.W.lookIn;rw[hd];dsimp only;split;rename_i y q;rw[q] at e;exact congrArg some e;rename_i q;rw[q] at e;have a:es.toList.any (·.refKey)=false:=by rw[List.any_eq_false];intro y hy;refine rC (hk y (Ab.mp hy)) fun z t BB=>?_;simp[DictEntry.refKey,BB]
 have a':¬ es.toList.any (·.refKey)=true:=by rw[a];exact jo
 rw[aM5 a'];exact congrArg some e
theorem JF.look(I:JF h x dx C mA):∃od,PySem.W.InstAt h x (vt C dx) C (some od)/\∀name,PySem.W.lookIn name od=some (mA name):=
 let⟨od,ho,hl⟩:=JG I.ns
 ⟨od,⟨I.obj,rfl,rfl,ho⟩,hl⟩
section
variable {prog:dG}{w:bQ}{A:cH}{E:av->aA->Prop}{s:aA}{K:aE}{x dx C f:ay}{mA:Str->Option av}{name:Str}{v:av}
theorem get_map{Q:av->aA->Prop}(X:K.In s.heap)(I:JF s.heap x dx C mA)(hg:PySem.W.plainGet K C name=true)(hh:PySem.W.hasDictIn K C=true)
  (ha:xg K (.ref C) name=some none) (hv:mA name=some v) (hv':PySem.W.handedIn v=true) (h:Q v {s with toks:=s.toks+1}) :
  aB (aD prog w) A (getAttr (.ref x) name expr) Q E s:=by
 refine aU I.look fun od J hl=>?_;exact PySem.W.get_value X J (PySem.W.plainGet_of hg).1 (PySem.W.findObj_own hh ha rfl (by rw[hl,hv])) hv' h
theorem Rx{Q:Unit->aA->Prop}(X:K.In s.heap)(I:JF s.heap x dx C mA)
  (hs:xg K (.ref C) "__setattr__"=some (some (.builtin "object.__setattr__"))) (hp:PySem.W.plainOver K C=true) (ht:PySem.W.takerIn K C name=some none) (hh:PySem.W.hasDictIn K C=true)
  (hw:PySem.Within mA ns) (hsz:ns.length<=cU)
  (h:∀h',JF h' x dx C (fun y=>if y=name then some v else mA y)->i6 dx s.heap h'->Q () {s with heap:=h',toks:=s.toks+2}) :
  aB (aD prog w) A (setAttr (.ref x) name v) Q E s:=by
 refine aU I.look fun od J hl=>?_;refine PySem.W.set_plain X J hs (PySem.W.osa_open (s:={s with toks:=s.toks+1}) (r:=none) X J hp ht fun b=>?_);refine aU (PySem.W.any_some hh) fun cd hc QX=>?_;have hx:s.heap.get? x=some ⟨.ref C,some dx,.plain,#[]⟩:=I.obj;refine ah (aC (ah (ah (wpAny_loadPart hx (ah (Zd (s:={s with toks:=s.toks+1}) (PySem.W.looks_clsIn X hc) ?_))))));rw[QX];refine aC (a:=some dx) (ah (aC (ah ?_)));refine wpAny_nsSet1 (s:={s with toks:=s.toks+1}) I.ns fun h' hn2 VR=>?_;refine Vq (hn2.count (Ze name v hw)) fun oD esD epD hoD hdD hcD=>?_;refine ah (wpAny_lookBehind hoD (by rw[hdD];exact pastItsLine_dict (cI hcD (by rw[dg];lia))) ?_);exact aC (h _ ⟨(VR.2 _ (eU I.ne)).trans I.obj,hn2,I.ne⟩ VR)
theorem NT(X:K.In s.heap)(hm:PySem.W.makesIn K C=true)
  (hi:xg K (.ref C) "__init__"=some (some (.ref f))) (hf:PySem.W.typeIn K (.ref f)=some (.type "function"))
  (h:codeAny (aD prog w) (A.under (.builtin "type.__call__" ⟨.ref C::vs,kw⟩)) (.call (.ref f) ⟨.ref (s.heap.objs.size+1)::vs,kw⟩) (PySem.W.InitBack (s.heap.objs.size+1) R)
   {s with heap:=(s.heap.push sf).push (vt C s.heap.objs.size)}) :
  codeAny (aD prog w) A (.call (.ref C) ⟨vs,kw⟩) R s:=by
 obtain⟨hh,g,d,t,os⟩:=s;exact PySem.W.make_core (PySem.W.makes_of X hm) (PySem.W.looks_findIn X hi) (fun self=>PySem.W.bind_fn X self hf) (.inl rfl) h
end
def oZ(f:Str)(v:V):List (Str×V)->List (Str×V)
 | []=>[(f,v)]
 | (g,x)::r=>if g=f then(g,v)::r else(g,x)::oZ f v r
theorem vD(f g:Str)(v:V):∀fs:List (Str×V),(oZ f v fs).lookup g=if g=f then some v else fs.lookup g
 | []=>by
  show qz g [(f,v)]=_;by_cases h:g=f;have hb:(g==f)=true:=aM8.mpr h;simp only[qz,hb,aM4 h];have hb:(g==f)=false:=aN1.mpr h;simp only[qz,hb,aM5 h]
 | (k,x)::r=>by
  have ih:=vD f g v r;rw[show oZ f v ((k,x)::r)=(if k=f then (k,v)::r else (k,x)::oZ f v r) from rfl];by_cases hk:k=f;rw[aM4 hk];by_cases h:g=k;have hb:(g==k)=true:=aM8.mpr h;simp only[qz,hb,aM4 (h.trans hk)];have hb:(g==k)=false:=aN1.mpr h;simp only[qz,hb,aM5 (fun e:g=f=>h (e.trans hk.symm))];rw[aM5 hk];by_cases h:g=k;have hb:(g==k)=true:=aM8.mpr h;simp only[qz,hb,aM5 (fun e:g=f=>hk (h.symm.trans e))];have hb:(g==k)=false:=aN1.mpr h;simp only[qz,hb];exact ih
theorem uR(f:Str)(v:V):∀fs:List (Str×V),f∈(oZ f v fs).map (·.1)/\∀g,g∈fs.map (·.1)->g∈(oZ f v fs).map (·.1)
 | []=>⟨by simp[oZ],fun g h=>by simp at h⟩
 | (k,x)::r=>by
  obtain⟨i1,i2⟩:=uR f v r;rw[show oZ f v ((k,x)::r)=(if k=f then (k,v)::r else (k,x)::oZ f v r) from rfl];by_cases hk:k=f;rw[aM4 hk];subst hk;exact⟨by simp,fun g h=>by simpa using h⟩;rw[aM5 hk];refine⟨?_,fun g h=>?_⟩;rw[bG];exact oO _ i1;rw[bG]at h ⊢;rcases bW.mp h with e|e;exact bW.mpr (.inl e);exact oO _ (i2 g e)
theorem vE(f:Str)(v:V):∀fs:List (Str×V),(oZ f v fs).length<=fs.length+1
 | []=>by simp[oZ]
 | (k,x)::r=>by
  have ih:=vE f v r;rw[show oZ f v ((k,x)::r)=(if k=f then (k,v)::r else (k,x)::oZ f v r) from rfl];by_cases hk:k=f;rw[aM4 hk,dg,dg];lia;rw[aM5 hk,dg,dg];lia
theorem Gf.some_of(r:Gf (some v) o):∃u,o=some u/\RelV v u:=by
 cases o with
 | none=>exact(show False from r).elim
 | some u=>exact⟨u,rfl,r⟩
theorem JH(r:RelV v u):PySem.W.handedIn u=true:=by
 cases v with
 | dh=>cases(show u=ez from r);rfl
 | bl b=>cases(show u=Value.bool b from r);rfl
 | int i=>obtain⟨t,e⟩:=(show ∃t,u=Fe i t from r);cases e;rfl
 | str x=>obtain⟨t,e⟩:=(show ∃t,u=Rg x t from r);cases e;rfl
 | byt b=>obtain⟨t,e⟩:=(show ∃t,u=Value.bytes b t from r);cases e;rfl
 | flt b=>obtain⟨t,e⟩:=(show ∃t,u=Value.float b t from r);cases e;rfl
 | ref a=>cases(show u=eW a from r);rfl
 | ty n=>cases(show u=sd n from r);rfl
section
theorem sF(fE:rZ P w H h)(e:H a=some (.ins C dx fs)):∃mA,JF h a dx C mA/\(∀f,Gf (fs.lookup f) (mA f))/\PySem.Within mA (fs.map (·.1))/\fs.length<=1000/\H dx=some (.own a):=by
 obtain⟨d,z,ne,ob,mA,n,r,q⟩:=(show gI P w H h a (.ins C dx fs)from fE a _ e)
 exact⟨mA,⟨ob,n,ne⟩,r,q,z,d⟩
end
structure Ll(K:aE)(C:ay):Prop where
 pg:PySem.W.plainGet K C Str.empty=true
 hd:PySem.W.hasDictIn K C=true
 po:PySem.W.plainOver K C=true
 sa:xg K (.ref C) "__setattr__"=some (some (.builtin "object.__setattr__"))
theorem Ll.get{K:aE}{C:ay}(c:Ll K C)(f:Str):PySem.W.plainGet K C f=true:=c.pg
def kC(K:aE)(C:ay)(f:Str):Prop:=xg K (.ref C) f=some none
theorem kC.ab0{K:aE}{C:ay}{f:Str}(n:kC K C f):PySem.W.takerIn K C f=some none:=by
 unfold PySem.W.takerIn;rw[show xg K (.ref C) f=some none from n];rfl
section
theorem Gq{Q:av->aA->Prop}(I:Inv X ak σ H s)(e:H a=some (.ins C dx fs))(c:Ll X.K C)(n:kC X.K C f)(l:fs.lookup f=some v)
  (h:∀u s',Inv X ak σ H s'->RelV v u->Q u s'):aB (aD X.prog X.w) A (getAttr (.ref a) f b) Q E s:=by
 refine Rj (sF I.fE e) fun mA O r _ _ _=>?_;obtain⟨u,hu,ru⟩:=Gf.some_of (v:=v) (o:=mA f) (by rw[<- l];exact r f);exact get_map I.Bt O (c.get f) c.hd n hu (JH ru) (h u _ (I.tok _) ru)
theorem Gr{Q:Unit->aA->Prop}(I:Inv X ak σ H s)(e:H a=some (.ins C dx fs))(c:Ll X.K C)(n:kC X.K C f)(hl:fs.length<1000)(ry:RelV y u)
  (h:∀s',Inv X ak σ (upd H a (.ins C dx (oZ f y fs))) s'->Q () s'):aB (aD X.prog X.w) A (setAttr (.ref a) f u) Q E s:=by
 refine Rj (sF I.fE e) fun mA O r wi _ ho=>?_;have hz:(fs.map (·.1)).length<=cU:=by rw[br,gG];lia
 refine Rx I.Bt O c.sa c.po n.ab0 c.hd wi hz fun h' O' sb=>h _ ?_;have hd:∃o,h'.get? dx=some o:=let⟨o,_,_,e',_⟩:=O'.ns;⟨o,e'⟩;refine I.write (x:=a) (e:=dx) (by rw[e];exact True.intro) (.inr ho) (fun b q hb z=>(sb.2 b hb).trans z) hd ?_;refine⟨by rw[aW O.ne];exact ho,?_,O.ne,O'.obj,_,O'.ns,fun g=>?_,fun g hg=>?_⟩;have:=vE f y fs;lia;show Gf ((oZ f y fs).lookup g) (if g=f then some u else mA g);rw[vD];by_cases q:g=f;rw[aM4 q,aM4 q];exact ry;rw[aM5 q,aM5 q];exact r g;by_cases q:g=f;rw[q];exact(uR f y fs).1;refine(uR f y fs).2 g (wi g fun z=>hg ?_);show(if g=f then some u else mA g)=none;rw[aM5 q];exact z
theorem Inv.made(I:Inv X ak σ H s):Inv X ak σ (upd (upd H s.heap.objs.size (.own (s.heap.objs.size+1))) (s.heap.objs.size+1) (.ins C s.heap.objs.size []))
  {s with heap:=(s.heap.push sf).push (vt C s.heap.objs.size)}:=by
 have e1:(s.heap.push sf).get? s.heap.objs.size=some sf:=eV s.heap rfl;have e2:((s.heap.push sf).push (vt C s.heap.objs.size)).get? (s.heap.objs.size+1)=some (vt C s.heap.objs.size):=by have:=eV (s.heap.push sf) (o:=vt C s.heap.objs.size) rfl;rwa [A8]at this
 have e3:(s.heap.push sf).Ns s.heap.objs.size (fun _=>none):=⟨sf,#[],_,e1,rfl,(fun e he=>aN6 he (by simp)),fun _=>rfl⟩
 have I1:=I.laid (a:=s.heap.objs.size) (o:=.own (s.heap.objs.size+1)) (h':=s.heap.push sf) (t':=s.toks) (fun b u q=>bU _ q) (bg _) ⟨_,e1⟩;refine I1.laid (a:=s.heap.objs.size+1) (o:=.ins C s.heap.objs.size []) (t':=s.toks) (fun b u q=>bU _ q) (LZ (A8 _ _)) ?_;have ne:s.heap.objs.size≠s.heap.objs.size+1:=dH (A9 _);refine⟨by rw[aW ne,bS],i7 _,ne,e2,fun _=>none,(Heap.Ns1.of_empty e3).at fun o q=>bU _ q,fun _=>True.intro,fun y hy=>aN6 rfl hy⟩
theorem Ry(hb:s8 e f env (eval e env)=eval e env)
  (h:aB (aD prog w) A (eval e env) (fun o lC=>aB (aD prog w) A (getAttr o f true) Q E lC) E s):aB (aD prog w) A (eval (.Attribute e f pos) env) Q E s:=
 Attribute_any_ h (by rw[arm_eval_Attribute,hb])
end
def aA9(K:aE)(ta:TE)(f:Str):TE:=fun σ H Q=>ta σ H fun x H1=>∃a C dx fs v,x = .ref a/\H1 a=some (.ins C dx fs)/\Ll K C/\kC K C f/\fs.lookup f=some v/\Q v H1
def ab1(K:aE)(ta tv:TE)(f:Str):TS:=fun D σ H=>tv σ H fun y H1=>ta σ H1 fun x H2=>∃a C dx fs,x = .ref a/\H2 a=some (.ins C dx fs)/\Ll K C/\kC K C f/\fs.length<1000/\
 D.nx σ (upd H2 a (.ins C dx (oZ f y fs)))
section
theorem VS(he:PE X e ta)(hb:s8 e f X.env (eval e X.env)=eval e X.env):PE X (.Attribute e f pos) (aA9 X.K ta f):=by
 intro ak s σ H Q I h;refine Ry hb (gS (he ak s σ H _ I h) fun u s1 ab2=>?_);obtain⟨x,H1,I1,rx,a,C,dx,fs,v,ex,ea,c,n,l,q⟩:=ab2;subst ex;obtain rfl:u=eW a:=rx;exact Gq I1 ea c n l fun u' s2 I2 ru=>⟨v,H1,I2,ru,q⟩
theorem VT(ha:PE X o ta)(hv:PE X value tv)(hs:swapsWith value (some (.Attribute o f pos')) pos.line X.env=pure false):PS X (.Assign [.Attribute o f pos'] value pos) (ab1 X.K ta tv f):=by
 intro ak s σ H D I h;refine plainObj_wpAny_Assign_Attribute (gS (hv ak s σ H _ I h) fun u s1 ab3=>ab3.elim fun y ab4=>ab4.elim fun H1 ab5=>ab5.elim fun I1 ab6=>ab6.elim fun ry q=>gS (ha ak s1 σ H1 _ I1 q) fun ov s2 ab7=>?_) hs;obtain⟨x,H2,I2,rx,a,C,dx,fs,ex,ea,c,n,l,q2⟩:=ab7;subst ex;obtain rfl:ov=eW a:=rx;exact Gr I2 ea c n l ry fun s3 I3=>⟨σ,_,I3,q2⟩
end
structure jf(k:Nat)(A:cH):Prop where
 hd:A.handled=none
 dp:A.depth+3*k+5<recursionLimit
 un:A.units+16*k+200<cLine
theorem jf.mono(r:jf k A)(h:j<=k):jf j A:=⟨r.hd,by have:=r.dp;lia,by have:=r.un;lia⟩
theorem jf.deeper(r:jf (k+1) A)(env:Env):jf k (A.deeper env):=
 ⟨r.hd,by have:=r.dp;show A.depth+1+3*k+5<_;lia,by have:=r.un;show A.units+3+16*k+200<_;lia⟩
theorem Gs{A:cH}:(A.under (.builtin "type.__call__" ⟨.ref C::us,kw⟩)).depth=A.depth+1:=by
 first|rfl|simp[Around.under,Code.weight,Code.isCreation,Code.isGuard,Code.isCaller,Code.frames,Code.isFrame,guardIds]
theorem Gu{A:cH}:(A.under (.builtin "type.__call__" ⟨.ref C::us,kw⟩)).units=A.units+1:=by
 first|rfl|simp[Around.under,Code.cUnits,Code.frames,Code.isFrame]
theorem jf.make(r:jf (k+1) A)(C:ay)(us:List av)(kw:List (Str×av)):jf k (A.under (.builtin "type.__call__" ⟨.ref C::us,kw⟩)):=
 ⟨r.hd,by have:=r.dp;rw[Gs];lia,by have:=r.un;rw[Gu];lia⟩
theorem jf.depth(r:jf k A):A.depth<recursionLimit:=by have:=r.dp;lia
theorem jf.units(r:jf k A):A.units+64<cLine:=by have:=r.un;lia
def Gv:TA:=fun _ H Q=>Q [] H
def xZ(ta:TE)(tr:TA):TA:=fun σ H Q=>ta σ H fun x H1=>tr σ H1 fun xs H2=>Q (x::xs) H2
section
theorem jL:PA X [] Gv:=fun _ _ _ _ H Q I h=>Bf ⟨[],H,I,.nil,h⟩
theorem gU(ha:PE X e te)(hr:PA X es t)(hs:bN (e::es) X.env=(false,eval e X.env)::bN es X.env:=by rfl):PA X (e::es) (xZ te t):=by
 intro pos ak s σ H Q I h;rw[hs];show aB _ _ (spliced ((false,eval e X.env)::backTo pos (bN es X.env))) _ _ s;refine xB (gS (ha ak s σ H _ I h) fun u s1 Uz=>?_);refine bA Uz fun x H1 I1 r1 q1=>?_;clear Uz;exact gS (hr pos ak s1 σ H1 _ I1 q1) fun us s2 ab8=>ab8.elim fun xs ab9=>ab9.elim fun H2 ac0=>ac0.elim fun I2 ac1=>ac1.elim fun r2 q2=>⟨x::xs,H2,I2,.cons r1 r2,q2⟩
def aB0(t:TA):TE:=fun σ H Q=>t σ H fun xs H1=>xs.length<=cU/\∀p,H1 p=none->Q (.ref p) (upd H1 p (.tup xs))
def aB1(t:TA):TE:=fun σ H Q=>t σ H fun xs H1=>xs.length<=cU/\∀p,H1 p=none->Q (.ref p) (upd H1 p (.lst xs))
theorem VU{x1}(h:PA X es t):PE X (.Tuple es x1 pos) (aB0 t):=by
 intro ak s σ H Q I hq;refine LF (gS (h pos ak s σ H _ I hq) fun us s1 ac2=>ac2.elim fun xs ac3=>ac3.elim fun H1 ac4=>ac4.elim fun I1 ac5=>ac5.elim fun r ac6=>ac6.elim fun z q=>⟨by rw[<- r.length];exact z,?_⟩);have hf:H1 s1.heap.objs.size=none:=I1.fE.fresh (bg _);refine⟨.ref s1.heap.objs.size,upd H1 s1.heap.objs.size (.tup xs),I1.laid (t':=s1.toks) (fun b u e=>bU _ e) (bg _) ?_,rfl,q _ hf⟩;exact⟨z,us,r,⟨_,eV _ rfl,rfl,_,rfl⟩⟩
theorem VV(h:PA X es t):PE X (.List es pos) (aB1 t):=by
 intro ak s σ H Q I hq;refine wpAny_List_spliced (gS (h pos ak s σ H _ I hq) fun us s1 ac7=>ac7.elim fun xs ac8=>ac8.elim fun H1 ac9=>ac9.elim fun I1 ad0=>ad0.elim fun r ad1=>ad1.elim fun z q=>⟨by rw[<- r.length];exact z,?_⟩);have hf:H1 s1.heap.objs.size=none:=I1.fE.fresh (bg _);refine⟨.ref s1.heap.objs.size,upd H1 s1.heap.objs.size (.lst xs),I1.laid (t':=s1.toks) (fun b u e=>bU _ e) (bg _) ?_,rfl,q _ hf⟩;exact⟨z,us,0,r,eV _ rfl⟩
end
abbrev Sp:=List V->Hp->VK->XK->Prop
abbrev QZ:=List Env->Hp->aA->XK->av->aA->Prop
structure Gw(P:dG)(w:bQ)(K:aE)(mg:Str->Option av)(base:aY)(A:cH)(outer:List Env)(s:aA)(H:Hp):Prop where
 frames:A.frames=some outer
 mod:Mod K mg base
 bs:∀b o,base.get? b=some o->s.heap.get? b=some o/\H b=none
 QW:base.objs.size<=s.heap.objs.size
 uO:s.heap.FunFrames base outer
 Uv:∀b∈xS outer,H b=none
 fE:rZ P w H s.heap
 bare:AllBare s.gens
def CE(outer:List Env)(P:dG)(w:bQ)(H:Hp)(s:aA)(Q:VK)(u:av)(s':aA):Prop:=
 ∃v H',s'.os=s.os/\AllBare s'.gens/\Un (xS outer) [] H H' s.heap s'.heap/\rZ P w H' s'.heap/\RelV v u/\Q v H'
def CR(CX:QZ)(outer:List Env)(P:dG)(w:bQ)(H:Hp)(s:aA)(Q:VK)(E:XK)(r:Result)(s':aA):Prop:=
 match r with
 | .ok (.ret u)=>CE outer P w H s Q u s'
 | .ok _=>False
 | .error e=>CX outer H s E e s'
structure jV(P:dG)(w:bQ)(K:aE)(mg:Str->Option av)(base:aY)(CX:QZ)(k:Nat)(f:ay)(fd:gP)(ps:List Str)(sp:Sp):Prop where
 len:∀vs H Q E,sp vs H Q E->vs.length=ps.length
 run:∀(A:cH) (outer:List Env) (s:aA) (H:Hp) (args:Args) (us:List av) (vs:List V) (Q:VK) (E:XK),jf k A->Gw P w K mg base A outer s H->BindsTo s fd args (ps.zip us)->Vals vs us->sp vs H Q E->
  codeAny (aD P w) A (.call (.ref f) args) (CR CX outer P w H s Q E) s
theorem jV.mono{P:dG}{w:bQ}{K:aE}{mg:Str->Option av}{base:aY}{CX:QZ}{j k:Nat}{f:ay}{fd:gP}{ps:List Str}{sp:Sp}(F:jV P w K mg base CX j f fd ps sp)(h:j<=k) :
  jV P w K mg base CX k f fd ps sp:=⟨F.len,fun A outer s H args us vs Q E hr=>F.run A outer s H args us vs Q E (hr.mono h)⟩
theorem jV.imp{P:dG}{w:bQ}{K:aE}{mg:Str->Option av}{base:aY}{CX:QZ}{k:Nat}{f:ay}{fd:gP}{ps:List Str}{sp sp':Sp}(F:jV P w K mg base CX k f fd ps sp)
  (h:∀vs H Q E,sp' vs H Q E->sp vs H Q E):jV P w K mg base CX k f fd ps sp':=
 ⟨fun vs H Q E q=>F.len vs H Q E (h _ _ _ _ q),fun A outer s H args us vs Q E hr he hb hv hs=>F.run A outer s H args us vs Q E hr he hb hv (h _ _ _ _ hs)⟩
theorem Gw.make{P:dG}{w:bQ}{K:aE}{mg:Str->Option av}{base:aY}{A:cH}{outer:List Env}{s:aA}{H:Hp}(e:Gw P w K mg base A outer s H)(C:ay)(us:List av)(kw:List (Str×av)) :
  Gw P w K mg base (A.under (.builtin "type.__call__" ⟨.ref C::us,kw⟩)) outer s H:=⟨by first|exact e.frames|(simpa[Around.under,Code.envs,Code.isFrame,pushEnvs]using e.frames),e.mod,e.bs,e.QW,e.uO,e.Uv,e.fE,e.bare⟩
section
theorem Inv.ad2(I:Inv X ak σ H s):Gw X.prog X.w X.K X.mg X.base X.A X.stack s H:=
 ⟨I.ok.frames,I.ok.mod,I.bs,cI I.ok.QW I.sz,I.stack,I.Ie,I.fE,I.bare⟩
theorem Inv.after(I:Inv X ak σ H s)(h:CE X.stack X.prog X.w H s Q u s'):EP X ak σ Q u s':=by
 refine Zf h fun v H' os bare un fE r q=>?_;clear h;obtain⟨hh,g,d,t,os'⟩:=s';obtain rfl:os'=s.os:=os;exact⟨v,H',I.call (h':=hh) (g':=g) (d':=d) (t':=t) (ch:=[]) un fE bare (fun b z=>aN6 z (by simp)),r,q⟩
end
def Binds(K:aE)(fd:gP)(ps:List Str)(ds:List av):Prop:=
 ∀(s:aA) (us:List av),K.In s.heap->(us++ds).length=ps.length->BindsTo s fd ⟨us,[]⟩ (ps.zip (us++ds))
theorem Binds.all{K:aE}{fd:gP}{ps:List Str}(h:∀us:List av,us.length=ps.length->bindArgs fd ⟨us,[]⟩=pure (ps.zip us)):Binds K fd ps []:=fun s us _ hl=>by
 rw[ko]at hl ⊢;exact .of_eq (h us hl)
section
structure Mk(K:aE)(C f:ay):Prop where
 makes:PySem.W.makesIn K C=true
 init:xg K (.ref C) "__init__"=some (some (.ref f))
 fn:PySem.W.isFn K (.ref f)=true
 kp:qU K (.ref C)=true
end
structure bY(N P:List Str)(sc:iQ):Prop where
 kind:sc.kind = .function
 co:sc.isCoroutine=false
 gen:sc.isGenerator=false
 nd:N.Nodup
 pre:N.take P.length=P
 par:∀x∈P,sc.names.lookup x=some .local\/sc.names.lookup x=some .cell
 VW:∀y∈sc.names,y.2≠ .free
theorem Ae{kindOf:Str->Option NameKind}{x:Str}:∀{binds:List (Str×av)} {m:Str->Option av},(∀v,(x,v)∉binds)->bindL kindOf binds m x=m x
 | [],_,_=>rfl
 | (n,v)::r,m,h=>by
  unfold bindL;rw[Ae fun w hw=>h w (oO _ hw)];split;have:x≠n:=by rintro rfl;exact h v vA
  simp[this];rfl
theorem Af{kindOf:Str->Option NameKind}{x:Str}:∀{binds:List (Str×av)} {m:Str->Option av},(∀v,(x,v)∉binds)->bindC kindOf binds m x=m x
 | [],_,_=>rfl
 | (n,v)::r,m,h=>by
  unfold bindC;rw[Af fun w hw=>h w (oO _ hw)];split;rfl;have:x≠n:=by rintro rfl;exact h v vA
  simp[this]
theorem Ag{kindOf:Str->Option NameKind}:∀{P:List Str} {vs:List av} {i:Nat} {m:Str->Option av},P.Nodup->P[i]?=some x->vs[i]?=some v->kindOf x=some .local->
  bindL kindOf (P.zip vs) m x=some v
 | [],_,_,_,_,h,_,_=>by simp at h
 | _::_,[],_,_,_,_,h,_=>by simp at h
 | p::P,w::vs,0,m,nd,h1,h2,hk=>by
  simp at h1 h2;subst h1;subst h2;show bindL kindOf ((p,w)::P.zip vs) m p=_;unfold bindL;rw[Ae fun v hv=>(l7.mp nd).1 (Ft hv).1,aM4 hk];simp
 | p::P,w::vs,i+1,m,nd,h1,h2,hk=>by
  show bindL kindOf ((p,w)::P.zip vs) m x=_;unfold bindL;exact Ag (i:=i) (l7.mp nd).2 (by simpa using h1) (by simpa using h2) hk
theorem Ah{kindOf:Str->Option NameKind}:∀{P:List Str} {vs:List av} {i:Nat} {m:Str->Option av},P.Nodup->P[i]?=some x->vs[i]?=some v->kindOf x≠some .local->
  bindC kindOf (P.zip vs) m x=some v
 | [],_,_,_,_,h,_,_=>by simp at h
 | _::_,[],_,_,_,_,h,_=>by simp at h
 | p::P,w::vs,0,m,nd,h1,h2,hk=>by
  simp at h1 h2;subst h1;subst h2;show bindC kindOf ((p,w)::P.zip vs) m p=_;unfold bindC;rw[Af fun v hv=>(l7.mp nd).1 (Ft hv).1,aM5 hk];simp
 | p::P,w::vs,i+1,m,nd,h1,h2,hk=>by
  show bindC kindOf ((p,w)::P.zip vs) m x=_;unfold bindC;exact Ah (i:=i) (l7.mp nd).2 (by simpa using h1) (by simpa using h2) hk
def start(N:List Str)(vs:List V):St:=vs.map some++mG (N.length-vs.length) none
def qp(CX:QZ)(P:dG)(w:bQ)(K:aE)(mg:Str->Option av)(base:aY)(N:List Str)(qual:Str)(scope:iQ)(f:ay)(cd:av)(A:cH)(outer:List Env)(s:aA)(H:Hp)(E:XK):Cx where
 prog:=P
 w:=w
 K:=K
 mg:=mg
 base:=base
 A:=A.deeper (envOfC qual scope s.heap.objs.size f cd)
 N:=N
 jr:=s
 NB:=H
 env:=envOfC qual scope s.heap.objs.size f cd
 outer:=outer
 stack:=envOfC qual scope s.heap.objs.size f cd::outer
 ex:=[]
 calm:=true
 fn:=fun _=>true
 pn:=[]
 xe:=fun e s'=>aB (aD P w) (A.deeper (envOfC qual scope s.heap.objs.size f cd)) (leaving (envOfC qual scope s.heap.objs.size f cd) e) (fun _ Ln=>CX outer H s E e Ln) (fun e' Ln=>CX outer H s E e' Ln) s'
theorem CY{sc:iQ}(h:sc.names.lookup x=some .cell):∃c,(cellsFrom n sc.names []).lookup x=some c:=by
 have q:=LW sc.names n [] (.inl h);exact N6.mp q
theorem JI{CX:QZ}{P:dG}{w:bQ}{K:aE}{mg:Str->Option av}{base:aY}{N ps:List Str}{qual:Str}{scope:iQ}{f:ay}{cd:av}{A:cH}{outer:List Env}{s s1:aA}{H:Hp}{E:XK}{us:List av}{vs:List V}
  (S:bY N ps scope) (hd:A.handled=none) (e0:Gw P w K mg base A outer s H) (hl:vs.length=ps.length) (r:Vals vs us)
  (x:InCallC s s.heap.objs.size (bindL (envOfC qual scope s.heap.objs.size f cd).kindOf (ps.zip us) fun _=>none) (cellsFrom (s.heap.objs.size+1) scope.names []) (bindC (envOfC qual scope s.heap.objs.size f cd).kindOf (ps.zip us) fun _=>none) s1) :
  Inv (qp CX P w K mg base N qual scope f cd A outer s H E) [] (start N vs) H s1:=by
 have uS:ps.length<=N.length:=by have:=congrArg List.length S.pre;rw[l8]at this;lia
 refine dO x.done fun h1 tk b8 hk=>?_;obtain rfl:=b8;have noA:∀b:ay,b∉(qp CX P w K mg base N qual scope f cd A outer s H E).ex:=fun b z=>aN6 (show b∈([]:List ay)from z) (by simp);refine⟨⟨e0.mod,S.kind,rfl,rfl,bg _,fun y z c h1 h2=>?_,fun y hy=>?_,fun y c _ h=>?_,fun _=>hd,Around.frames_deeper e0.frames,.inr ⟨rfl,rfl⟩,fun b z=>aN6 z (noA b),e0.bs,e0.QW,fun b _ _=>noA b,fun b z=>aN6 z (noA b),e0.uO,e0.Uv⟩,
  rfl,e0.bare,Un.kept hk,⟨_,x.toInCall.ns,fun i y v h1 h2 h3=>?_⟩,fun y c h=>⟨_,x.cell y c h⟩,e0.fE.fresh (bg _),fun y c h=>?_,fun p hp=>aN6 (show p∈([]:List (ay×Obj))from hp) (by simp),e0.fE.kept hk,?_⟩
 exact name_of_addr x.apart (wZ h1) (wZ h2);have hy:scope.names.lookup y=some .cell\/scope.names.lookup y=some .free:=hy;rcases hy with hy|hy;exact CY hy;exact aN6 rfl (S.VW _ (wZ hy));exact ji (x.above y c (wZ h));have hi:i<vs.length:=by unfold start at h2;by_cases hi:i<vs.length;exact hi;rw[kq (by simpa using hi)]at h2;rw[uy]at h2;split at h2 <;> cases h2
 have ha:vs[i]?=some v:=by
  unfold start at h2;rw[kr (by simpa using hi),di]at h2;cases e:vs[i]? with
  | none=>rw[e]at h2;cases h2
  | some a=>rw[e]at h2;cases h2;rfl
 refine aU (r.get ha) fun u hu rv=>?_;have hp:ps[i]?=some y:=by rw[<- S.pre,Fv (by lia)];exact h1
 have ndP:ps.Nodup:=by rw[<- S.pre];exact S.nd.sublist (Ml _ _)
 refine⟨u,rv,?_⟩;rcases S.par y (iM hp)with k|k;exact .inl ⟨k,Ag ndP hp hu k⟩;obtain⟨c,e⟩:=CY (n:=s.heap.objs.size+1) k;refine .inr ⟨.inl k,c,e,?_⟩;have q:=x.cell y c e;rw[Ah ndP hp hu (by show scope.names.lookup y≠_;rw[k];decide)]at q;exact q;exact e0.fE.fresh (ji (x.above y c (wZ h)));unfold start;show _=N.length;rw[cG,br,Fw];lia
theorem ad3{CX:QZ}{P:dG}{w:bQ}{K:aE}{mg:Str->Option av}{base:aY}{k:Nat}{f:ay}{name qual:Str}{params:Arguments}{body:List bz}{scope:iQ}{dV kV doc pm dW ct oc:av}{an od:Option ay}
  {EN:Array (Option av)} {N ps:List Str} {sp:Sp} (lk:K.lookup f=some ⟨oc,od,.func (nF name qual params body scope dV kV doc pm an dW ct),EN⟩) (Gh:PySem.W.codeIn K dW qual=true) (S:bY N ps scope)
  (len:∀vs H Q E,sp vs H Q E->vs.length=ps.length)
  (CZ:∀(A:cH) (outer:List Env) (s:aA) (H:Hp) (vs:List V) (Q:VK) (E:XK),jf k (A.deeper (envOfC qual scope s.heap.objs.size f dW))->sp vs H Q E->
   ∃t,vC (qp CX P w K mg base N qual scope f dW A outer s H E) body t/\t {nx:=fun _ H'=>Q .dh H',rt:=Q} (start N vs) H) :
  jV P w K mg base CX (k+1) f (nF name qual params body scope dV kV doc pm an dW ct) ps sp:=by
 refine⟨len,fun A outer s H args us vs Q E hr e0 hb r YG=>?_⟩;have hl:=len _ _ _ _ YG;have KX:K.In s.heap:=e0.mod.Zk.keeps fun b o e=>(e0.bs b o e).1;have lim:s.heap.NoLimit:=e0.mod.nolimit.keeps fun b o e=>(e0.bs b o e).1;have D0:∀y∈ps.zip us,scope.names.lookup y.1=some .local\/(scope.names.lookup y.1=some .cell/\((cellsFrom (s.heap.objs.size+1) scope.names []).lookup y.1).isSome=true):=fun ad4 hy=>by obtain⟨n,v⟩:=ad4;rcases S.par n (Ft hy).1 with q|q;exact .inl q;exact .inr ⟨q,LW _ _ _ (.inl q)⟩
 refine codeAny_call_function hr.depth (KX _ _ lk) rfl S.co S.gen rfl (PySem.W.codeRec_of KX Gh) (hb _ _ _ _ ?_);refine LG S.kind D0 fun env he s1 x=>?_;subst he;refine⟨lim.keeps x.toInCall.keep,codeAny_func ?_⟩;refine aU (CZ A outer s H vs Q E (hr.deeper _) YG) fun t ht hq=>?_;have I:Inv (qp CX P w K mg base N qual scope f dW A outer s H E) [] (start N vs) H s1:=JI S hr.hd e0 hl r x;refine iI (ht [] s1 (start N vs) H _ I hq) (fun fl s' hs=>?_) fun e s' hs=>hs;have fin:∀{dZ:St} {H':Hp} {v:V} {u:av},Inv (qp CX P w K mg base N qual scope f dW A outer s H E) [] dZ H' s'->RelV v u->Q v H'->CE outer P w H s Q u s':=
  fun {dZ H' v u} J rv q=>⟨v,H',J.os,J.bare,J.base,J.fE,rv,q⟩
 cases fl with
 | ret u=>refine Vq hs fun v dZ H' J rv q=>?_;clear hs;exact fin J rv q
 | next=>refine dO hs fun dZ H' J q=>?_;clear hs;exact fin (v:=V.dh) (u:=ez) J rfl q
 | brk=>refine dO hs fun _ _ _ q=>?_;clear hs;exact nO q
 | cont=>refine dO hs fun _ _ _ q=>?_;clear hs;exact nO q
section
variable {X:Cx}{x:Str}{p pos:Pos}{e:bF}{es:List bF}{t:TA}{id:String}{r:List V->Hp->VK->Prop}
def VX(r:List V->Hp->VK->Prop)(t:TA):TE:=fun σ H Q=>t σ H fun vs H1=>r vs H1 Q
theorem dX(hc:lV X (.builtin id) r)(hg:Gl X x)(hm:X.mg x=none)(hv:jU x=some (.builtin id))(ha:PA X (e::es) t)(hn:x≠ "__name__":=by decide)(Ai:(x==("__debug__" : Str))=false:=by decide)
  (he:bN (e::es) X.env=(false,eval e X.env)::bN es X.env:=by rfl) (uS:(backTo pos (bN es X.env)).any (·.1)=false:=by rfl):PE X (.Call (.Name x p) (e::es) [] pos) (VX r t):=by
 intro ak s σ H Q I h;refine uh (uP I hg hm hv ?_ hn Ai);exact N3 (gS (ha pos ak s σ H _ I h) fun us s1 ad5=>ad5.elim fun vs ad6=>ad6.elim fun H1 ad7=>ad7.elim fun I1 ad8=>ad8.elim fun r1 q1=>hc ak s1 σ H1 vs us Q I1 r1 q1) he uS
theorem ja(hc:lV X (.type T) r)(hg:Gl X x)(hm:X.mg x=none)(hv:jU x=some (.type T))(ha:PA X (e::es) t)(hn:x≠ "__name__":=by decide)(Ai:(x==("__debug__" : Str))=false:=by decide)
  (he:bN (e::es) X.env=(false,eval e X.env)::bN es X.env:=by rfl) (uS:(backTo pos (bN es X.env)).any (·.1)=false:=by rfl):PE X (.Call (.Name x p) (e::es) [] pos) (VX r t):=by
 intro ak s σ H Q I h;refine uh (uP I hg hm hv ?_ hn Ai);exact N2 (gS (ha pos ak s σ H _ I h) fun us s1 ad9=>ad9.elim fun vs ae0=>ae0.elim fun H1 ae1=>ae1.elim fun I1 ae2=>ae2.elim fun r1 q1=>hc ak s1 σ H1 vs us Q I1 r1 q1) he uS
end
end L2
namespace HT
open PySem PyProof.Rows
def lexLt:List Int->List Int->Bool
 | [],[]=>false
 | [],_::_=>true
 | _::_,[]=>false
 | x::xs,y::ys=>if x=y then lexLt xs ys else decide (x<y)
theorem dQ(x y:Int)(xs ys:List Int):lexLt (x::xs) (y::ys)=if x=y then lexLt xs ys else decide (x<y):=rfl
theorem iU:lexLt [] []=false:=rfl
theorem p7(y:Int)(ys:List Int):lexLt [] (y::ys)=true:=rfl
theorem lE(x:Int)(xs:List Int):lexLt (x::xs) []=false:=rfl
theorem NU(A:cH)(s:aA)(a:Int)(t:Tok)(c:Int)(u:Tok)(prog:dG)(w:bQ)(E:av->aA->Prop)(Q:av->aA->Prop)(h:Q (.bool (decide (a<c))) s) :
  aB (aD prog w) A (richCompare .Lt (.int a t) (.int c u)) Q E s:=
 (Vh h:aB (aD prog w) A (iR .Lt (.int a t) (.int c u)) Q E s)
section
open PySem.SeqAt
open PySem.AutoSeq1 (wpAny_loadPart')
open PySem.MeetsSeq PySem.MeetsSeq2 PySem.MeetsSeq3
end
section
def Aj(n d:Nat):Option Int->Nat
 | none=>d
 | some v=>if v<0 then(v+(n:Int)).toNat else min v.toNat n
end
end HT
namespace L2
open PySem PySem.Spec PyProof.Rows
abbrev TO:=St->Hp->(Option Int->Hp->Prop)->Prop
def PO(X:Cx)(e:Option bF)(t:TO):Prop:=
 ∀(ak:List (ay×Obj)) (s:aA) (σ:St) (H:Hp) (Q:Option Int->Hp->Prop),Inv X ak σ H s->t σ H Q->
  aB (aD X.prog X.w) X.A (evalPart e X.env) (fun u s'=>∃o H',Inv X ak σ H' s'/\IsPart u o/\Q o H') X.xe s
def Rz:TO:=fun _ H Q=>Q none H
def ae3(t:TE):TO:=fun σ H Q=>t σ H fun x H1=>∃i,x = .int i/\Q (some i) H1
section
variable {X:Cx}{e:bF}{te:TE}{lo hi:Option bF}{tl th:TO}{pos p2:Pos}
theorem RA:PO X none Rz:=by
 intro ak s σ H Q I h;rw[evalPart_none];exact aC ⟨none,H,I,.none,h⟩
theorem RB(h:PE X e te):PO X (some e) (ae3 te):=by
 intro ak s σ H Q I hw;rw[evalPart_some];refine gS (h ak s σ H _ I hw) fun u s1 UA=>?_;refine bA UA fun x H1 I1 r1 q1=>?_;clear UA;refine aU q1 fun i je q=>?_;clear q1;obtain rfl:=je;obtain ⟨t,rfl⟩:=r1;exact⟨some i,H1,I1,.int i t,q⟩
def SlR(X:Cx)(r:V->Option Int->Option Int->Hp->VK->Prop):Prop:=
 ∀(ak:List (ay×Obj)) (s:aA) (σ:St) (H:Hp) (x:V) (v vl vu:av) (lo hi:Option Int) (sl:ay) (Q:VK),Inv X ak σ H s->RelV x v->s.heap.IsSliceOf sl vl vu .none->IsPart vl lo->IsPart vu hi->r x lo hi H Q->
  ∃T id,typeLookup (.type T) "__getitem__"=pure (some (.builtin id))/\s.TypeIs v T/\aB (aD X.prog X.w) X.A (getItem v (.ref sl)) (EP X ak σ Q) X.xe s
def tSl(r:V->Option Int->Option Int->Hp->VK->Prop)(te:TE)(tl th:TO):TE:=fun σ H Q=>te σ H fun x H1=>tl σ H1 fun l H2=>th σ H2 fun u H3=>r x l u H3 Q
theorem D3(hr:SlR X r)(he:PE X e te)(hl:PO X lo tl)(hu:PO X hi th):PE X (.Subscript e (.Slice lo hi none p2) pos) (tSl r te tl th):=by
 intro ak s σ H Q I h;refine Subscript_ (gS (he ak s σ H _ I h) fun v s1 UB=>?_);refine bA UB fun x H1 I1 r1 q1=>?_;clear UB;refine wpAny_Slice (gS (hl ak s1 σ H1 _ I1 q1) fun vl s2 ae4=>ae4.elim fun l ae5=>ae5.elim fun H2 ae6=>ae6.elim fun I2 ae7=>ae7.elim fun pl q2=>gS (hu ak s2 σ H2 _ I2 q2) fun vu s3 UC=>?_);refine bA UC fun u H3 I3 pu q3=>?_;clear UC;rw[evalPart_none];refine aC ?_;have I4:Inv X ak σ H3 {s3 with heap:=s3.heap.push {cls:=.type "slice",data:=.fields #[vl,vu,.none]}}:=I3.kept (t':=s3.toks) fun b ob q=>bU _ q;refine bA (hr ak {s3 with heap:=s3.heap.push {cls:=.type "slice",data:=.fields #[vl,vu,.none]}} σ H3 x v vl vu l u s3.heap.objs.size Q I4 r1 (Vl ..) pl pu q3) fun T id hT ht hg=>?_;show aB (aD X.prog X.w) X.A (subscriptTail e (.Slice lo hi none p2) v (.ref s3.heap.objs.size)) (EP X ak σ Q) X.xe {s3 with heap:=s3.heap.push {cls:=.type "slice",data:=.fields #[vl,vu,.none]}};exact tail_any (ops:=[.ref s3.heap.objs.size,v]) ht hT hg (by with_unfolding_all rfl)
def JJ(xs:List V)(lo hi:Option Int):List V:=(xs.drop (HT.Aj xs.length 0 lo)).take (HT.Aj xs.length xs.length hi-HT.Aj xs.length 0 lo)
theorem D4(xs:List V)(lo hi:Option Int):(JJ xs lo hi).length<=xs.length:=by
 unfold JJ;rw[l8,xo];lia
end
def Lo(n:Nat)(i:Int):Option Nat:=if 0<=i then(if i<n then some i.toNat else none)else if -(n:Int)<=i then some (i+n).toNat else none
def BC{α:Type}(xs:List α)(i:Int):Option α:=(Lo xs.length i).bind fun j=>xs[j]?
theorem RC(h:Lo n i=some j):seqIndex? i n=some j/\j<n/\ -(n:Int)<=i/\i<n:=by
 unfold Lo at h;by_cases h0:0<=i;rw[aM4 h0]at h;by_cases h1:i<n;rw[aM4 h1] at h;have e:i.toNat=j:=fq h;exact⟨by rw[seqIndex_of h0 h1,e],by lia,by lia,h1⟩;rw[aM5 h1] at h;cases h;rw[aM5 h0]at h;by_cases h1 : -(n:Int)<=i;rw[aM4 h1] at h;have e:(i+n).toNat=j:=fq h;exact⟨by rw[seqIndex_neg (by lia) h1,e],by lia,h1,by lia⟩;rw[aM5 h1] at h;cases h
theorem Im(h:BC xs i=some v):∃j,seqIndex? i xs.length=some j/\xs[j]?=some v/\j<xs.length/\ -(xs.length:Int)<=i/\i<xs.length:=by
 unfold BC at h;cases e:Lo xs.length i with
 | none=>rw[e]at h;cases h
 | some j=>rw[e]at h;refine Ga (RC e) fun h1 h2 h3 h4=>?_;exact⟨j,h1,h,h2,h3,h4⟩
theorem RD{xs:List α}{j:Nat}(h:xs[j]?=some v):BC xs (j:Int)=some v:=by
 have hj:j<xs.length:=(eL.mp h).1;have e:Lo xs.length (j:Int)=some j:=by unfold Lo;rw[aM4 (by lia),aM4 (by lia)];simp
 unfold BC;rw[e];exact h
def wC(b:bF):Prop:=∀o i,subscripted b false o i=operate [o,i] (getItem o i)
def UD(X:Cx)(r:R2):Prop:=
 ∀(value slice:bF) (ak:List (ay×Obj)) (s:aA) (σ:St) (H:Hp) (x y:V) (v u:av) (Q:VK),Inv X ak σ H s->RelV x v->RelV y u->r x y H Q->
  subscripted slice false v u=operate [v,u] (getItem v u)->aB (aD X.prog X.w) X.A (subscriptTail value slice v u) (EP X ak σ Q) X.xe s
def MtR(X:Cx)(id:String)(r:V->List V->Hp->VK->Prop):Prop:=
 ∀(ak:List (ay×Obj)) (s:aA) (σ:St) (H:Hp) (x:V) (xs:List V) (v:av) (us:List av) (Q:VK),Inv X ak σ H s->RelV x v->Vals xs us->r x xs H Q->
  aB (aD X.prog X.w) X.A (call (.builtin id) (v::us)) (EP X ak σ Q) X.xe s
section
variable {X:Cx}
theorem UD.or(h:UD X r)(h':UD X r'):UD X (fun x y H Q=>r x y H Q\/r' x y H Q):=by
 intro value slice ak s σ H x y v u Q I rx ry q hs;rcases q with q | q;exact h value slice ak s σ H x y v u Q I rx ry q hs;exact h' value slice ak s σ H x y v u Q I rx ry q hs
theorem UE(hr:UD X r)(ha:PE X a ta)(hb:PE X b tb)(hs:wC b):PE X (.Subscript a b pos) (YF r ta tb):=by
 intro ak s σ H Q I h;exact Subscript_ (VO ha hb I h fun v u s2 x y H2 I2 rx ry q=>hr a b ak s2 σ H2 x y v u Q I2 rx ry q (hs _ _))
def VY(K:aE):R2:=fun x y H Q=>∃p xs i v,x = .ref p/\y = .int i/\lB K H p xs/\BC xs i=some v/\Q v H
def ae8(K:aE):R2:=fun x y H Q=>∃p xs i v,x = .ref p/\y = .int i/\mZ K H p xs/\BC xs i=some v/\Q v H
theorem Io:UD X (VY X.K):=by
 intro value slice ak s σ H x y v u Q I rx ry h hs;refine Vr h fun p xs i z JK RE hq he q=>?_;clear h;obtain rfl:=JK;obtain rfl:=RE;cases rx;obtain ⟨t,rfl⟩:=ry;refine cM (I.list hq) fun bq r pl hz=>?_;refine Rj (Im he) fun j h1 h2 h3 h4 h5=>?_;refine aU (r.get h2) fun w ew NK=>?_;have hl:=r.length;have hn:=Gp;have fin:EP X ak σ Q w s:=⟨z,H,I,NK,q⟩
 by_cases h0:0<=i;have hj:i.toNat=j:=by rw[seqIndex_of h0 h5]at h1;exact fq h1
 exact item_listR pl.isList h0 (by lia) (by rw[hj];simpa using ew) fin hs;have hj:(i+(bq.toArray.size:Int)).toNat=j:=by rw[seqIndex_neg (by lia) h4]at h1;rw[dI,<- hl];exact fq h1
 exact N4 (x:=w) pl.isList.typeIs LH.lookup
  (wpAny_getItem_list_neg (Q:=fun r s'=>r=w/\EP X ak σ Q r s') pl.isList (by lia) (by rw[dI] <;> lia) (by lia) (by rw[hj];simpa using ew) ⟨rfl,fin⟩) hs
theorem VZ:UD X (ae8 X.K):=by
 intro value slice ak s σ H x y v u Q I rx ry h hs;refine Vr h fun p xs i z JK RE hq he q=>?_;clear h;obtain rfl:=JK;obtain rfl:=RE;cases rx;obtain ⟨t,rfl⟩:=ry;refine cM (I.tuple hq) fun bq r pl hz=>?_;refine Rj (Im he) fun j h1 h2 h3 h4 h5=>?_;refine aU (r.get h2) fun w ew NK=>?_;have hl:=r.length;have hn:=Gp;have fin:EP X ak σ Q w s:=⟨z,H,I,NK,q⟩
 exact N4 (x:=w) pl.typeIs slot_tuple_getitem.lookup
  (getItem_tuple (j:=j) (Q:=fun r s'=>r=w/\EP X ak σ Q r s') pl (by lia) (by lia) (by rw[dI,<- hl];exact h1) (by simpa using ew) ⟨rfl,fin⟩) hs
theorem BD(lo hi:Option Int)(n:Nat):(sliceBounds lo hi none n).1=((HT.Aj n 0 lo:Nat):Int)/\(sliceBounds lo hi none n).2.1=((HT.Aj n n hi:Nat):Int)/\(sliceBounds lo hi none n).2.2=1:=by
 refine⟨?_,?_,rfl⟩;cases lo with
 | none=>simp[sliceBounds,HT.Aj]
 | some i=>simp only[sliceBounds,HT.Aj,N7,show (1:Int) > 0 by decide,aN3];by_cases h:i<0;simp only[h,aN3] <;> lia;simp only[h,aN2] <;> lia
 cases hi with
 | none=>simp[sliceBounds,HT.Aj]
 | some i=>simp only[sliceBounds,HT.Aj,N7,show (1:Int) > 0 by decide,aN3];by_cases h:i<0;simp only[h,aN3] <;> lia;simp only[h,aN2] <;> lia
theorem zC(bq:List av)(lo hi:Option Int):slicePick bq.toArray lo hi none=((bq.drop (HT.Aj bq.length 0 lo)).take (HT.Aj bq.length bq.length hi-HT.Aj bq.length 0 lo)).toArray:=by
 refine xO (BD lo hi bq.toArray.size) fun h1 h2 h3=>?_;unfold slicePick;rw[h1,h2,h3];simp only[sliceRange_one,pick_run,dI] <;> rfl
def aB2(K:aE):V->Option Int->Option Int->Hp->VK->Prop:=fun x lo hi H Q=>∃a xs,x = .ref a/\lB K H a xs/\∀p,H p=none->Q (.ref p) (upd H p (.lst (JJ xs lo hi)))
theorem Ip:SlR X (aB2 X.K):=by
 intro ak s σ H x v vl vu lo hi sl Q I rx hs pl pu h;refine bA h fun a xs b8 hx q=>?_;clear h;obtain rfl:=b8;cases rx;refine cM (I.list hx) fun bq r ht hz=>?_;have hlen:=r.length;refine⟨"list",_,LH.lookup,ht.isList.typeIs,?_⟩;refine wpAny_getItem_list_slice ht.isList hs pl pu .none (by simp) ?_ (by rw[dI] <;> lia);rw[zC,<- hlen];refine⟨.ref s.heap.objs.size,_,I.laid (t':=s.toks) (o:=.lst (JJ xs lo hi)) (fun b ob q=>bU _ q) (bg _) ?_,rfl,q _ (I.fE.fresh (bg _))⟩;exact⟨cI (D4 xs lo hi) hz,_,0,(r.drop (HT.Aj xs.length 0 lo)).take (HT.Aj xs.length xs.length hi-HT.Aj xs.length 0 lo),eV _ rfl⟩
theorem iC:lV X (.builtin "len") (fun xs H Q=>∃p ys,xs=[.ref p]/\(lB X.K H p ys\/mZ X.K H p ys)/\Q (.int ys.length) H):=by
 intro ak s σ H xs us Q I r h;refine bA h fun p ys b8 hq q=>?_;clear h;obtain rfl:=b8;refine aU (vals1 r) fun u je rx=>?_;obtain rfl:=je;cases rx;have hn:=Gp;rcases hq with hq | hq;refine cM (I.list hq) fun bq r' pl hz=>?_;have hlen:=r'.length;exact MT pl.isList (by simp only[dI] <;> lia) ⟨.int ys.length,H,I.tok _,⟨s.toks+1,by rw[dI,hlen]⟩,q⟩;refine cM (I.tuple hq) fun bq r' pl hz=>?_;have hlen:=r'.length;exact len_tuple pl (by simp only[dI] <;> lia) ⟨.int ys.length,H,I.tok _,⟨s.toks+1,by rw[dI,hlen]⟩,q⟩
theorem jw:lV X (.type "list") (fun xs H Q=>∃p ys,xs=[.ref p]/\(lB X.K H p ys\/mZ X.K H p ys)/\∀l,H l=none->Q (.ref l) (upd H l (.lst ys))):=by
 intro ak s σ H xs us Q I r h;refine bA h fun p ys b8 hq q=>?_;clear h;obtain rfl:=b8;refine aU (vals1 r) fun u je rx=>?_;obtain rfl:=je;cases rx;have fin:∀(bq:List av),Vals ys bq->ys.length<=cU->∀(h':aY) (c':Nat),(∀b o',s.heap.get? b=some o'->h'.get? b=some o')->
   h'.get? s.heap.objs.size=some {cls:=.type "list",dict:=none,data:=.seq bq.toArray c',slots:=#[]}->EP X ak σ Q (.ref s.heap.objs.size) {s with heap:=h'}:=fun bq r' hz h' c' kp e=>
  ⟨.ref s.heap.objs.size,_,I.laid (t':=s.toks) kp (bg _) (show gI X.prog X.w _ h' _ (.lst ys)from⟨hz,bq,c',r',e⟩),rfl,q _ (I.fE.fresh (bg _))⟩
 rcases hq with hq | hq;refine cM (I.list hq) fun bq r' pl hz=>?_;have hlen:=r'.length;obtain⟨o,ho,hc,n,hd⟩:=pl.isList;exact call_list_seq p (.inl rfl) ho hc hd (fun h' c' kp e=>fin bq r' hz h' c' kp e) (by simp only[dI] <;> lia);refine cM (I.tuple hq) fun bq r' pl hz=>?_;have hlen:=r'.length;obtain⟨o,ho,hc,n,hd⟩:=pl;exact call_list_seq p (.inr rfl) ho hc hd (fun h' c' kp e=>fin bq r' hz h' c' kp e) (by simp only[dI] <;> lia)
theorem qB:lV X (.type "tuple") (fun xs H Q=>∃p ys,xs=[.ref p]/\((lB X.K H p ys/\∀l,H l=none->Q (.ref l) (upd H l (.tup ys)))\/(mZ X.K H p ys/\Q (.ref p) H))):=by
 intro ak s σ H xs us Q I r h;obtain⟨p,ys,rfl,h⟩:=h;obtain⟨u,rfl,rx⟩:=vals1 r;cases rx;rcases h with⟨hq,q⟩|⟨hq,q⟩;obtain⟨bq,r',pl,hz⟩:=I.list hq;have hlen:=r'.length;refine call_tuple_list pl.isList (fun h' kp=>?_) (by simp only[dI] <;> lia);have I1:Inv X ak σ H {s with heap:=h'}:=I.kept (t':=s.toks) kp;have I2:Inv X ak σ (upd H h'.objs.size (.tup ys)) {s with heap:=h'.push {cls:=.type "tuple",data:=.seq bq.toArray}}:=
  I1.laid (t':=s.toks) (fun b o e=>bU _ e) (bg _) (show gI X.prog X.w _ _ _ (.tup ys)from⟨hz,bq,r',IsTup.new _ _⟩)
 exact⟨.ref h'.objs.size,_,I2,rfl,q _ (I1.fE.fresh (bg _))⟩;obtain⟨bq,r',pl,hz⟩:=I.tuple hq;exact call_tuple_same pl ⟨.ref p,H,I,rfl,q⟩
def tyV(K:aE)(T:String)(x:V)(H:Hp):Prop:=match x with
 | .str _=>T = "str"
 | .int _=>T = "int"
 | .ref p=>(T = "list" /\∃xs,lB K H p xs)\/(T = "tuple" /\∃o,K.lookup p=some o/\o.cls = .type "tuple" /\o.dict=none)\/
   (T = "dict" /\((∃CJ,H p=some (.dK CJ))\/∃CJ,H p=some (.dT CJ)))\/(T = "set" /\∃S n,H p=some (.set S n))
 | _=>False
theorem NV(I:Inv X ak σ H s)(r:RelV x v)(ty:tyV X.K T x H) :
  s.TypeIs v T/\∀a,v = .ref a->∃ob,s.heap.get? a=some ob/\ob.dict=none:=by
 cases x with
 | str z=>obtain ⟨t,rfl⟩:=r;cases(show T = "str"from ty);exact⟨typeIs_str s z t,fun _ e=>nomatch e⟩
 | int i=>obtain ⟨t,rfl⟩:=r;cases(show T = "int"from ty);exact⟨typeIs_int s i t,fun _ e=>nomatch e⟩
 | ref p=>
  cases r;rcases ty with⟨rfl,xs,hq⟩|⟨rfl,o,hk,hc,hd⟩|⟨rfl,hk⟩|⟨rfl,S,n,hk⟩;refine cM (I.list hq) fun bq _ pl _=>?_;refine⟨pl.isList.typeIs,fun a e=>?_⟩;cases e;refine uN pl fun o n e c hd _=>?_;clear pl;exact⟨o,e,hd⟩;refine⟨⟨o,I.Bt p o hk,hc⟩,fun a e=>?_⟩;cases e;exact⟨o,I.Bt _ o hk,hd⟩;have z:∃o,s.heap.get? p=some o/\o.ExactDict:=by rcases hk with⟨CJ,hk⟩|⟨CJ,hk⟩;obtain ⟨_,_,_,_,o,_,_,e,ex,_⟩:=I.fE p _ hk;exact⟨o,e,ex⟩;obtain ⟨_,_,_,_,o,_,_,e,ex,_⟩:=I.fE p _ hk;exact⟨o,e,ex⟩
  refine aU z fun o e ex=>?_;clear z;refine⟨⟨o,e,ex.1⟩,fun a e2=>?_⟩;cases e2;exact⟨o,e,ex.2.1⟩;refine at8 (I.fE p _ hk) fun o _ _ _ e ex _=>?_;refine⟨⟨o,e,ex.1⟩,fun a e2=>?_⟩;cases e2;exact⟨o,e,ex.2.1⟩
 | _=>exact nO ty
def ae9(K:aE)(T:String)(r:V->List V->Hp->VK->Prop)(to:TE):TE:=fun σ H Q=>to σ H fun x H1=>tyV K T x H1/\r x [] H1 Q
def tBM(K:aE)(T:String)(r:V->List V->Hp->VK->Prop)(to:TE)(t:TA):TE:=fun σ H Q=>to σ H fun x H1=>tyV K T x H1/\t σ H1 fun xs H2=>r x xs H2 Q
variable {o e:bF}{es:List bF}{to:TE}{t:TA}{name:Str}{apos jx:Pos}{T id:String}{r:V->List V->Hp->VK->Prop}
theorem W0(pa:PlainAttrs T)(slot:Slot T name id)(hty:typeOf (.builtin id)=pure (.type "method_descriptor"))(hm:MtR X id r)(ho:PE X o to)
  (sG:s8 o name X.env (eval o X.env)=eval o X.env:=by rfl) (sH:(apos.endLine==jx.line)=true:=by rfl):PE X (.Call (.Attribute o name apos) [] [] jx) (ae9 X.K T r to):=by
 intro ak s σ H Q I h;refine LJ sG sH (gS (ho ak s σ H _ I h) fun v s1 UG=>?_);refine uN UG fun x H1 I1 r1 ty q1=>?_;clear UG;obtain ⟨h1,h2⟩:=NV I1 r1 ty;exact⟨T,id,pa,slot,hty,h1,h2,Bg rfl (LK (hm ak s1 σ H1 x [] v [] Q I1 r1 .nil q1))⟩
theorem Ak(pa:PlainAttrs T)(slot:Slot T name id)(hty:typeOf (.builtin id)=pure (.type "method_descriptor"))(hm:MtR X id r)(ho:PE X o to)(ha:PA X (e::es) t)
  (sG:s8 o name X.env (eval o X.env)=eval o X.env:=by rfl)
  (W6:((backTo jx (bN (e::es) X.env)).all (fun x=>!x.1)&&(backToKw jx (keywordEach [] X.env)).all (fun x=>x.1.isSome)
   && decide ((e::es).length+([]:List Keyword).length+(if([]:List Keyword).isEmpty then 0 else 1)<30))=true:=by rfl)
  (sH:(apos.endLine==jx.line)=true:=by rfl) (hs:bN (e::es) X.env=(false,eval e X.env)::bN es X.env:=by rfl) (y9:(backTo jx (bN es X.env)).any (·.1)=false:=by rfl) :
  PE X (.Call (.Attribute o name apos) (e::es) [] jx) (tBM X.K T r to t):=by
 intro ak s σ H Q I h;refine LL sG W6 sH rfl (gS (ho ak s σ H _ I h) fun v s1 UH=>?_);refine uN UH fun x H1 I1 r1 ty q1=>?_;clear UH;obtain ⟨h1,h2⟩:=NV I1 r1 ty;refine⟨T,id,pa,slot,hty,h1,h2,?_⟩;have hA:=ha jx ak s1 σ H1 _ I1 q1;rw[hs] at hA ⊢;refine Bg (by show (false || (backTo jx (bN es X.env)).any (·.1))=false;rw[y9] <;> rfl) (FP ?_);exact gS hA fun us s2 af0=>af0.elim fun vs af1=>af1.elim fun H2 af2=>af2.elim fun I2 af3=>af3.elim fun r2 q2=>hm ak s2 σ H2 x vs v us Q I2 r1 r2 q2
end
def MtM(X:Cx)(id:String)(r:V->List V->Hp->VK->Prop):Prop:=
 ∀(ak:List (ay×Obj)) (s:aA) (σ:St) (H:Hp) (x:V) (xs:List V) (v:av) (us:List av) (Q:VK),Inv X ak σ H s->RelV x v->Vals xs us->r x xs H Q->
  aB (aD X.prog X.w) X.A (call (.builtin id) (v::us)) (EP X ak σ Q) X.xe s
theorem Vals.inv(h:Vals (x::xs) us):∃u vs,us=u::vs/\RelV x u/\Vals xs vs:=by
 cases h with
 | cons r t=>exact⟨_,_,rfl,r,t⟩
theorem Vals.zero(h:Vals [] us):us=[]:=by
 cases h;rfl
theorem Vals.one(h:Vals [x] us):∃u,us=[u]/\RelV x u:=by
 refine bA h.inv fun u vs b8 r t=>?_;obtain rfl:=b8;obtain rfl:=t.zero;exact⟨u,rfl,r⟩
theorem Vals.dropLast(h:Vals xs us):Vals xs.dropLast us.dropLast:=by
 induction h with
 | nil=>exact .nil
 | cons r t ih=>
  cases t with
  | nil=>exact .nil
  | cons q t'=>exact .cons r ih
theorem Gx(l:List α):l.eraseIdx (l.length-1)=l.dropLast:=by
 induction l with
 | nil=>rfl
 | cons a r ih=>
  cases r with
  | nil=>rfl
  | cons b r=>
   have e:(a::b::r).length-1=((b::r).length-1)+1:=by have h1:(a::b::r).length=r.length+2:=rfl;have h2:(b::r).length=r.length+1:=rfl;lia
   rw[e,List.eraseIdx_cons_succ,ih];all_goals rfl
section
theorem Inv.af4{bq its':List av}{f:Array av->Array av}(I:Inv X ak σ H s)(hH:H l=some (.lst xs))
  (e:s.heap.get? l=some {cls:=.type "list",data:=.seq bq.toArray n}) (hf:f bq.toArray=its'.toArray) (hv:Vals ys its') (hz:ys.length<=cU) :
  Inv X ak σ (upd H l (.lst ys)) {s with heap:=s.heap.update l (dm f),toks:=t'}:=by
 have q:=PySem.IsL.update e f;rw[hf] at q;refine I.write (x:=l) (e:=l) (by rw[hH];exact trivial) (.inl rfl) (fun b' u hb hu=>(Fg s.heap (dm f) (eU hb)).trans hu) ⟨_,q⟩ ?_;exact⟨hz,its',_,hv,q⟩
theorem Inv.aB3(I:Inv X ak σ H s)(hv:Vals ys bq)(hz:ys.length<=cU) :
  Inv X ak σ (upd H s.heap.objs.size (.lst ys)) {s with heap:=s.heap.push {cls:=.type "list",data:=.seq bq.toArray},toks:=t'}:=
 I.laid (fun _ _ q=>bU _ q) (bg _) ⟨hz,bq,0,hv,eV _ rfl⟩
theorem Inv.fresh(I:Inv X ak σ H s):H s.heap.objs.size=none:=I.fE.fresh (bg _)
theorem Inv.af5(I:Inv X ak σ H s)(hH:H l=some (.lst xs)):xs.length<=cU/\∃(bq:List av) (n:Nat),Vals xs bq/\xs.length=bq.length/\s.heap.get? l=some {cls:=.type "list",data:=.seq bq.toArray n}:=by
 obtain⟨z,bq,n,r,e⟩:=I.fE l _ hH;exact⟨z,bq,n,r,r.length,e⟩
end
section
def BE:V->List V->Hp->VK->Prop:=fun x vs H Q=>∃l xs y,x = .ref l/\vs=[y]/\H l=some (.lst xs)/\xs.length<cU/\Q .dh (upd H l (.lst (xs++[y])))
theorem jM:MtM X "list.append" BE:=by
 intro ak s σ H x vs v us Q I rx rv h;refine Bs h fun l xs y rE JK hH hz q=>?_;clear h;obtain rfl:=rE;obtain rfl:=JK;cases rx;refine aU rv.one fun u je ru=>?_;obtain rfl:=je;obtain ⟨z,bq,n,r,hl,e⟩:=I.af5 hH;refine call_meets F.slot_list_append ⟨_,e,rfl⟩ F.entry_list_append (F.args_list_append_2 _ _) (PySem.list_append l bq.toArray n u (by rw[dI];lia)) ⟨e,?_⟩;refine⟨.dh,_,I.af4 (its':=bq++[u]) hH e (by simp) (r.append (.cons ru .nil)) ?_,rfl,q⟩;rw[cG,B8];lia
def af6:V->List V->Hp->VK->Prop:=fun x vs H Q=>∃l xs y,x = .ref l/\vs=[]/\H l=some (.lst xs)/\xs[xs.length-1]?=some y/\Q y (upd H l (.lst xs.dropLast))
theorem W7:MtM X "list.pop" af6:=by
 intro ak s σ H x vs v us Q I rx rv h;refine Bs h fun l xs y rE JK hH hy q=>?_;clear h;obtain rfl:=rE;obtain rfl:=JK;cases rx;have hus:=rv.zero;subst hus;obtain ⟨z,bq,n,r,hl,e⟩:=I.af5 hH;refine aU (r.get hy) fun u hu ru=>?_;have Iq:bq.toArray[bq.toArray.size-1]?=some u:=by show bq.toArray[bq.length-1]?=some u;rw[<- l9,<- hl];exact hu
 refine call_meets F.slot_list_pop ⟨_,e,rfl⟩ F.entry_list_pop (F.args_list_pop_1 _) (MeetsSeq.list_pop_last l bq.toArray n u Iq (by rw[dI];lia)) ⟨e,?_⟩;refine⟨y,_,I.af4 (its':=bq.dropLast) hH e ?_ r.dropLast ?_,ru,q⟩;show bq.toArray.eraseIdxIfInBounds (bq.toArray.size-1)=bq.dropLast.toArray;rw[dI,List.eraseIdxIfInBounds_toArray,Gx];rw[List.length_dropLast];lia
end
end L2
namespace Att
open PySem PySem.W PySem.Calls PyProof.Rows
theorem we:∀(ns:List Int) (vs:List av),WellAll P h vs (ns.map WData.int)->IntsAre vs ns:=by
 intro ns;induction ns with
 | nil=>intro vs w;rw[nI]at w;cases w;exact .nil
 | cons n ns ih=>
  intro vs w;rw[bG]at w;cases w with
  | cons a b=>cases a;exact .cons _ _ (ih _ b)
theorem JL{l:OpenLaw}(hn:l.most=some n)
  (D5:l.row.toRowW.claim.pre args=true) (hwl:WellAll P h vals args) :
  ∃a vs ns,vals=[eW a]/\args=[WData.list (ns.map WData.int)]/\h.get? a=some {cls:=.type "list",data:=.seq vs.toArray}/\IntsAre vs ns/\ns.length<=n:=by
 have hsh:WShape.hasAll [] args [.list .int]=true:=(pre_splitW D5).1;have hc:l.pre.holds [] {args:=args}=true:=(pre_splitW D5).2;refine bA (hasAllW_cons hsh) fun d r b8 h1 h2=>?_;obtain rfl:=b8;obtain rfl:=hasAllW_nil h2;refine aU (hasW_list h1) fun xs je h3=>?_;obtain rfl:=je;obtain⟨ns,rfl⟩:=items_int h3;have hlen:ns.length<=n:=by
  unfold OpenLaw.pre at hc;have h4:(WTm.not (.lt (.lit (.int (n:Int))) (.len (.arg 0)))).holds [] {args:=[.list (ns.map .int)]}=true:=by have h4:=(holds_andW hc).1;rw[hn]at h4;exact h4
  have h5:=condW_of h4 (w_not (w_lt w_lit (w_len_list (w_arg rfl))));rw[br]at h5;refine mE fun q=>?_;have q':(n:Int)<((ns.length:Nat):Int):=by lia
  first
   | (rw[aM6 q']at h5;exact aN6 h5 (by decide))
   | (simp at h5;lia)
 cases hwl with
 | cons w1 w2=>
  cases w2;cases w1 with
  | list ho n6=>exact⟨_,_,ns,rfl,rfl,ho,we ns _ n6,hlen⟩
theorem JM(l:OpenLaw)(args:List WData):l.row.toRowW.claim.post args (.bool true) args=true:=
 postW_of (r:=l.row.toRowW) (X:=(true==true))
  (show WShape.has [] (.bool true) .bool=true by first|rfl|decide|simp[WShape.has,WShape.arms,WShape.armsAll])
  (show(WTm.eq .res (.lit (.bool true))).value [] {args:=args,res:=some (.bool true),after:=args}=some (.bool (true==true))from w_eq_bool (w_res rfl) w_lit) rfl
theorem D6{l:OpenLaw}{YP:bQ->aY->Prop}{d:DefRec}
  (hn:l.most=some n) (W8:d.params.defaults=[])
  (call:∀(w:bQ) (jr lC:aA) (mg mb:Str->Option av) (fa:ay) (o:Obj) (pm cd doc:av) (a:ay) (vs:List av) (ns:List Int),
   Ground q loose [] XP w jr mg mb lC.heap->YP w lC.heap->
   lC.heap.get? fa=some o->o.data = .func (docDef d.name d.params d.body d.scope pm cd doc)->lC.heap.CodeRec cd d.name->mg d.name=some (.ref fa)->
   lC.heap.get? a=some {cls:=.type "list",data:=.seq vs.toArray}->IntsAre vs ns->ns.length<=n->lC.gens=#[]->
   codeAny (aD l.prog w) callerA (.call (.ref fa) ⟨[.ref a],[]⟩) (fun r s'=>r = .ok (.ret (.bool true))/\OldK lC.heap s'.heap/\s'.os=lC.os/\AllBare s'.gens) lC) :
  WalkO q loose XP YP l.row.toRowW d [] (fun f vs=>PySem.call f vs):=by
 intro w jr lC mg mb G Y fa o pm cd doc dV kV ho hd Gh hD hmg hg args vals as D5 aK9 hrd hwl hlo;obtain rfl:dV = .none:=Dflts.none hD W8;obtain rfl:kV = .none:=Dflts.noKw hD;refine Bs (JL hn D5 hwl) fun a vs ns rE JK W9 hints hlen=>?_;obtain rfl:=rE;obtain rfl:=JK;refine enter_call (um (call w jr lC mg mb fa o pm cd doc a vs ns G Y ho (fd_plain hd) Gh hmg W9 hints hlen hg) fun r s' hq=>?_);refine Ga hq fun zo0 h2 h3 h4=>?_;clear hq;obtain rfl:=zo0;exact⟨.inl ⟨.bool true,.bool true,[],rfl,fun _=>rfl,.bool true,JM l _,fun _=>⟨List.Pairwise.nil,fun _ hm=>(nomatch hm)⟩⟩,h2,h3,h4⟩
end Att
namespace L2
open PySem PySem.Spec PyProof.Rows
theorem Al:∀{vs:List av} {ns:List Int},IntsAre vs ns->Vals (ns.map V.int) vs
 | _,_,.nil=>.nil
 | _,_,.cons n t h=>.cons ⟨t,rfl⟩ (Al h)
def inClass(s:bz)(j:Nat):bz:=match s with
 | .ClassDef _ _ _ body _ _ _ _ _ _ _=>body.getD j (.Pass ⟨0,0,0,0⟩)
 | _=>.Pass ⟨0,0,0,0⟩
def jy(s:bz):Arguments:=match s with
 | .FunctionDef _ a _ _ _ _ _ _ _ _=>a
 | _=>{posonlyargs:=[],args:=[],vararg:=none,kwonlyargs:=[],kw_defaults:=[],kwarg:=none,defaults:=[]}
def fG(s:bz):List bz:=match s with
 | .FunctionDef _ _ b _ _ _ _ _ _ _=>b
 | _=>[]
def aR(s:bz):iQ:=match s with
 | .FunctionDef _ _ _ _ _ _ sc _ _ _=>sc
 | _=>{kind:=.function,names:=[],isGenerator:=false,isCoroutine:=false}
structure Lp(K:aE)(x qual:Str)(st:bz)(f:ay)(fd:gP):Prop where
 ex:∃(oc:av) (od:Option ay) (kV doc pm:av) (an:Option ay) (dW ct:av) (EN:Array (Option av)),
  fd=nF x qual (jy st) (fG st) (aR st) .none kV doc pm an dW ct/\K.lookup f=some ⟨oc,od,.func fd,EN⟩/\PySem.W.codeIn K dW qual=true
 kp:qU K (.ref f)=true
section
variable {K:aE}
theorem Lp.binds{x qual:Str}{st:bz}{f:ay}{fd:gP}{ps:List Str}(F:Lp K x qual st f fd)
  (h:∀(kV doc pm:av) (an:Option ay) (dW ct:av) (us:List av),us.length=ps.length->bindArgs (nF x qual (jy st) (fG st) (aR st) .none kV doc pm an dW ct) ⟨us,[]⟩=pure (ps.zip us)):Binds K fd ps []:=by
 refine Vs F.ex fun oc od kV doc pm an dW ct EN zo9 lk Gh=>?_;obtain rfl:=zo9;exact .all (h kV doc pm an dW ct)
theorem BF{x qual:Str}{st:bz}{f:ay}{oc:av}{od an:Option ay}{EN:Array (Option av)}{kV doc pm dW ct:av}(l:K.lookup f=some ⟨oc,od,.func (nF x qual (jy st) (fG st) (aR st) .none kV doc pm an dW ct),EN⟩)
  (c:PySem.W.codeIn K dW qual=true) (k:qU K (.ref f)=true):Lp K x qual st f (nF x qual (jy st) (fG st) (aR st) .none kV doc pm an dW ct):=⟨⟨oc,od,kV,doc,pm,an,dW,ct,EN,rfl,l,c⟩,k⟩
end
section
theorem pv(i:Nat)(hN:X.N[i]?=some x:=by rfl)(hv:Vis X.env.scope x:=by first|exact cS rfl|exact gQ (cS rfl)|exact gQ (gQ rfl))(hd:(x==("__debug__" : Str))=false:=by decide)
  (Gh:(x==("__classdict__" : Str))=false:=by decide):PE X (.Name x pos) (oB i):=VA hN hv hd Gh
end
def aI(H H':Hp):Prop:=∀b o,H b=some o->H' b=some o
theorem aI.refl(H:Hp):aI H H:=fun _ _ h=>h
theorem aI.trans(a:aI H H1)(b:aI H1 H2):aI H H2:=fun c o h=>b c o (a c o h)
theorem aI.free(e:aI H H')(h:H' l=Option.none):H l=Option.none:=by
 cases q:H l with
 | none=>rfl
 | some o=>rw[e l o q]at h;cases h
theorem aI.seq{K:aE}{H H':Hp}{a:ay}{xs:List V}(e:aI H H')(h:lB K H a xs):lB K H' a xs:=by
 rcases h with (h | ⟨o,h⟩) | h;exact .inl (.inl (e _ _ h));exact .inl (.inr ⟨o,e _ _ h⟩);exact .inr h
end L2
end Zh
section aB4
namespace Dm
open PySem PySem.Spec PyProof.Rows L2
def XD(dx:Option ay)(a:ay)(h:aY):Prop:=∀d,dx=some d->∃o,h.get? a=some o/\o.dict=some d
theorem XD.no:XD none a h:=fun _ z=>nomatch z
theorem XD.keeps{h':aY}(x:XD dx a h)(k:∀o,h.get? a=some o->∃o',h'.get? a=some o'/\o'.dict=o.dict):XD dx a h':=fun d z=>by
 obtain⟨o,e,ed⟩:=x d z;obtain⟨o',e',ed'⟩:=k o e;exact⟨o',e',ed'.trans ed⟩
def Gy(f:Obj->Obj):Prop:=∀o,(f o).dict=o.dict/\(o.isFreed=false->(f o).isFreed=false)
inductive KD{α:Type}:Sem α->Prop
 | ret (a:α):KD (.pure a)
 | exc (e:av):KD (.raise e)
 | no (w:String):KD (.unsupported w)
 | load {a:ay} {pt:Option av} {k:Obj->Sem α} (h:∀o,KD (k o)):KD (.load a pt k)
 | upd {a:ay} {pt:Option av} {f:Obj->Obj} {k:Unit->Sem α} (hf:Gy f) (h:KD (k ())):KD (.update a pt f k)
 | alloc {o:Obj} {k:ay->Sem α} (h:∀a,KD (k a)):KD (.alloc o k)
 | stack {k:List (Code×Pos)->Sem α} (h:∀l,KD (k l)):KD (.stack k)
theorem KD.bind{f:α->Sem β}(hm:KD m)(hf:∀a,KD (f a)):KD (m>>=f):=by
 show KD (Sem.bind m f);induction hm with
 | ret a=>exact hf a
 | exc e=>exact .exc e
 | no w=>exact .no w
 | load _ ih=>exact .load ih
 | upd z _ ih=>exact .upd z ih
 | alloc _ ih=>exact .alloc ih
 | stack _ ih=>exact .stack ih
theorem XD.upd(x:XD dx a h)(hf:Gy f):XD dx a (h.update b f):=x.keeps fun o e=>by
 by_cases z:b=a;subst z;exact⟨f o,nH f e ((hf o).2 (Heap.get?_some_iff.mp e).2),(hf o).1⟩;exact⟨o,(Fg h f z).trans e,rfl⟩
theorem af7(k:KD t) :
  ∀{p:Pos} {s:aA},Sem.wp M Γ t Q E p s->XD dx a s.heap->Sem.wp M Γ t (fun x p s=>Q x p s/\XD dx a s.heap) (fun x p s=>E x p s/\XD dx a s.heap) p s:=by
 induction k with
 | ret x=>exact fun h z=>⟨h,z⟩
 | exc e=>exact fun h z=>⟨h,z⟩
 | no w=>exact fun h z=>h
 | load _ ih=>intro p s h z;rw[Sem.wp_load]at h ⊢;obtain⟨o,e,h⟩:=h;exact⟨o,e,ih o h z⟩
 | upd hf _ ih=>intro p s h z;rw[Sem.wp_update]at h ⊢;exact⟨h.1,ih h.2 (z.upd hf)⟩
 | alloc _ ih=>intro p s h z;rw[Sem.wp_alloc]at h ⊢;exact ih _ h (z.keeps fun o e=>⟨o,bU _ e,rfl⟩)
 | stack _ ih=>intro p s h z;exact ih _ h z
theorem D7(k:KD t)(h:aB M A t Q E s)(z:XD dx a s.heap) :
  aB M A t (fun x s'=>Q x s'/\XD dx a s'.heap) (fun x s'=>E x s'/\XD dx a s'.heap) s:=fun Γ p D8=>af7 k (h Γ p D8) z
theorem BG(a:ay):KD (load a):=.load fun o=>.ret o
theorem ya:KD stack:=.stack fun l=>.ret l
theorem sI(f:Array av->Array av):Gy (Obj.mapFields f):=fun o=>by
 obtain⟨c,d,dt,sl⟩:=o;cases dt <;> exact⟨rfl,fun h=>h⟩
theorem D9(v:av):KD (fieldsOf v):=by
 unfold fieldsOf;cases v with
 | ref a=>refine .bind (BG a) fun o=>?_;split;exact .ret _;exact .no _
 | _=>exact .no _
theorem sJ(v:av)(i:Nat):KD (field v i):=by
 unfold field;refine .bind (D9 v) fun vs=>?_;split;exact .ret _;exact .no _
theorem yb(a:ay)(i:Nat)(x:av):KD (updateField a i x):=by
 unfold updateField;refine .bind (BG a) fun o=>?_;split;split;exact .upd (sI _) (.ret _);exact .no _;exact .no _
theorem p8(v:av)(i:Nat)(x:av):KD (setField v i x):=by
 unfold setField;cases v with
 | ref a=>exact yb a i x
 | _=>exact .no _
theorem BH(e:av)(f:Option ay):KD (setFlight e f):=by
 unfold setFlight;refine .bind (sJ e 1) fun tb=>?_;split;exact p8 _ _ _;exact .ret _
theorem JN(env:Env)(outer:List Env):KD (behindIsImport env outer):=by
 unfold behindIsImport;split;exact .ret _;split;exact .ret _;exact .bind (sJ _ _) fun _=>.ret _
theorem RG(env:Env)(i:Bool)(outer:List Env):KD (keptBack env i outer):=by
 unfold keptBack;split;split;exact .ret _;unfold underTheClaimsCaller;exact .bind (.bind ya fun _=>.ret _) fun _=>.ret _;exact .ret _
theorem NW:∀l:List Env,KD (readyFrames l):=fun l=>by
 induction l with
 | nil=>exact .ret _
 | cons env outer ih=>unfold readyFrames;split;refine .bind (BG _) fun o=>?_;split;exact .ret _;refine .bind (JN env outer) fun i=>.bind (RG env i outer) fun b=>.bind (.upd (fun o=>⟨rfl,fun h=>by obtain⟨_,_,d,_⟩:=o;cases d <;> exact h⟩) (.ret _)) fun _=>ih;exact .no _
theorem Gz(env:Env):KD (PySem.frameOf env):=by
 unfold PySem.frameOf frameEnvs;refine .bind (.bind ya fun _=>.ret _) fun l=>.bind ?_ fun o=>?_;unfold frameObject;split;exact .ret _;exact .bind (NW _) fun _=>.ret _;split;exact .ret _;exact .no _
theorem NX(f:ay)(b:Bool):KD (entryPlaceOf f b):=by
 unfold entryPlaceOf;refine .bind ya fun l=>?_;split;exact .ret _;exact .ret _
theorem NY(head:av)(fr:av)(l f x:av)(pl:List av):KD (EntryCells.newEntry head fr l f x pl):=by
 have fin:∀d,KD (newObjAsIs (.type "traceback") d):=fun d=>by unfold newObjAsIs;exact .bind (.alloc fun a=>.ret a) fun _=>.ret _
 unfold EntryCells.newEntry newFields;generalize ([head,fr,l,f,x]++if pl.isEmpty=true then mG 6 ez else pl).toArray=vs;unfold newObj;dsimp only;split;exact .bind (.no _) fun _=>fin _;exact fin _
theorem RH(e:av)(env:Env):KD (noteFrame e env):=by
 unfold noteFrame;split;refine .bind (sJ e 1) fun head=>?_;have fin:=fun(f:ay)=>KD.bind (Gz env) fun a=>KD.bind (NX f (head != .none)) fun pl=>KD.bind (NY head a .none (rawInt f) .none pl) fun b=>p8 e 1 b;dsimp only;split;refine .bind (sJ head 3) fun x=>?_;split;exact .ret _;exact .bind (p8 _ _ _) fun _=>fin _;exact fin _;exact .no _
def Cov(l:List Env)(B h:aY):Prop:=∀b o,h.get? b=some o->b∉xS l->B.get? b=some o
def p9(P:dG)(w:bQ):QZ:=fun outer H s E e s'=>∃a cls dx a0 H' h B,e = .ref a/\Heap.FlyingW B outer a cls a0 s'.heap/\XD dx a s'.heap/\Cov outer B h/\h.UpToSlots s'.heap/\E cls dx H'/\s'.os=s.os/\AllBare s'.gens/\
 Un (xS outer) [] H H' s.heap h/\rZ P w H' h
structure Made(h h':aY)(a:ay)(cls:av):Prop where
 keeps:∀b o,h.get? b=some o->h'.get? b=some o
 new:h.get? a=none
 there:∃o a0,h'.get? a=some o/\o.cls=cls/\o.data = .fields #[a0,.none,.none,.none,.bool false,.none]
theorem Made.of(x:Heap.MadeExcOf h h' a cls vs):Made h h' a cls:=by
 refine cM x.there fun t he _ _=>?_;exact⟨x.keeps,x.new,_,_,he,rfl,rfl⟩
def lH(X:Cx)(E:L2.St->XK)(e:av)(s':aA):Prop:=∃a cls dx σ H h,e = .ref a/\L2.Inv X [] σ H {s' with heap:=h}/\E σ cls dx H/\XD dx a s'.heap/\
 (Made h s'.heap a cls\/(∃a0 B,Cov X.stack B h/\h.UpToSlots s'.heap/\(Heap.FlyingW B X.stack a cls a0 s'.heap\/Heap.HeldW B X.stack a cls a0 X.env.locals s'.heap)))
theorem yc(I:L2.Inv X ak σ H s):L2.Inv X [] σ H s:=I.su fun p hp=>by cases hp
section
variable {X:Cx}
theorem RI(I:L2.Inv X ak σ H s)(hx:Made s.heap h' a cls)(q:E σ cls none H):lH X E (.ref a) {s with heap:=h'}:=
 ⟨a,cls,none,σ,H,s.heap,rfl,yc I,q,.no,.inl hx⟩
theorem Dc(I:L2.Inv X ak σ H s)(c:p9 X.prog X.w X.stack H s (E σ) e s'):lH X E e s':=by
 obtain⟨a,cls,dx,a0,H',h,B,rfl,f,xd,cv,up,q,os,bare,un,fE⟩:=c;have I':L2.Inv X ak σ H' {s' with heap:=h}:=Inv.CQ I (s':={s' with heap:=h}) os un fE bare (fun b z=>aN6 z (by simp));exact⟨a,cls,dx,σ,H',h,rfl,yc I',q,xd,.inr ⟨a0,B,cv,up,.inl f⟩⟩
theorem RJ{h:aY}(f:h.FunFrames base l):∃B:aY,Cov l B h/\B.StaysIn h/\h.FunFrames B l/\∀b,h.get? b=none->B.get? b=none:=by
 have st:(A7 h (xS l)).StaysIn h:=fun b o e=>Ib _ e;refine⟨A7 h (xS l),fun b o e n=>LV _ e n,st,PySem.W.funFrames_hide f fun env he a ha=>CI.mpr ⟨env,he,ha⟩,fun b hb=>?_⟩;cases hq:(A7 h (xS l)).get? b with
 | none=>rfl
 | some o'=>have:=st b o' hq;rw[hb]at this;cases this
structure Wa(X:Cx):Prop where
 NC:X.stack=X.env::X.outer
 fr:X.env.frame=some X.env.locals
theorem Dd{Q:Unit->aA->Prop}(O:Wa X)(f:lH X E e s')
  (hq:∀(a:ay) cls dx a0 σ H h B h',e = .ref a->L2.Inv X [] σ H {s' with heap:=h}->E σ cls dx H->XD dx a h'->Cov X.stack B h->h.UpToSlots h'->Heap.HeldW B X.stack a cls a0 X.env.locals h'->Q () {s' with heap:=h'}) :
  aB (aD X.prog X.w) X.A (noteFrame e X.env) Q E' s':=by
 obtain⟨a,cls,dx,σ,H,h,rfl,I,q,xd,f⟩:=f;have fr:X.A.frames=some (X.env::X.outer):=by rw[I.ok.frames,O.NC]
 refine iI (D7 (Q:=fun u s1=>XD dx a s1.heap->Q u s1) (E:=E') (RH _ _) ?_ xd) (fun u s1 h=>h.1 h.2) fun _ _ h=>h.1;rcases f with hx|⟨a0,B,cv,up,f|f⟩;obtain⟨oe,a0,he,Am,hdt⟩:=hx.there;subst Am;obtain⟨B,b1,b2,b3,b4⟩:=RJ I.stack;have ff:s'.heap.FunFrames B X.stack:=b3.of_keeps fun b o hb _=>⟨o,hx.keeps b o hb,rfl⟩
 rw[O.NC]at ff;unfold noteFrame;simp only[O.fr];refine ah (qO he (vs:=#[a0,.none,.none,.none,.bool false,.none]) hdt (x:=.none) rfl ?_);rw[aM5 (by decide)];refine wpAny_entryW (a0:=a0) fr ff O.fr he (fun b o hb=>hx.keeps b o (b2 b o hb)) (b4 a hx.new) hdt (by simp) rfl fun h' hN=>?_;obtain⟨k1,k2,k3,k4⟩:=hN;refine fun xd=>hq a _ dx a0 σ H h B h' rfl I q xd b1 ((Vm hx.keeps).trans k4) ⟨k1,b4 a hx.new,?_,k3⟩;rw[O.NC];exact k2;rw[O.NC]at f;refine wpAny_looks_onW fr O.fr f fun h' hh us=>?_;exact fun xd=>hq a cls dx a0 σ H h B h' rfl I q xd cv (up.trans us) (by rw[O.NC];exact hh);refine wpAny_noteFrame_againW O.fr f.2.2.2 ?_;exact fun xd=>hq a cls dx a0 σ H h B s'.heap rfl I q xd cv up f
theorem bX(O:Wa X):PassesOwn (aD X.prog X.w) X.A X.env (lH X E):=by
 intro e s' f;refine Dd O f fun a cls dx a0 σ H h B h' ea I q xd cv up hd=>?_;subst ea;unfold cameBackBy;obtain⟨k1,k2,k3,oe,vs,T,oT,ts,he,hc,R4,h1,hnT,hTe,hT,YH,h3⟩:=hd;refine ah (qO he R4 h1 ?_);rw[aM5 (by simp)];unfold setFlight;refine ah (qO he R4 h1 ?_);rw[aM4 (show(eW T !=ez)=true from by simp)];have h3s:3<ts.size:=(oU.mp h3).1;rw[O.fr];refine qP hT YH h3s ?_;have other:∀b,b≠T->(h'.update T (Obj.mapFields (·.setIfInBounds 3 (rawInt X.env.locals)))).get? b=h'.get? b:=fun b hb=>Fg _ _ (eU hb);have UI:∀b o,h'.get? b=some o->(∀vs,o.data≠ .fields vs)->b≠T:=fun b o hb hnf z=>by rw[z,hT]at hb;injection hb with hb;subst hb;exact hnf ts YH
 refine⟨a,cls,dx,σ,H,h,rfl,I,q,xd.upd (sI _),.inr ⟨a0,B,cv,fun b o hb hn=>?_,.inr ⟨fun b o hb=>?_,k2,k3.of_keeps fun b o hb hnf=>⟨o,(other b (UI b o hb hnf)).trans hb,rfl⟩,?_⟩⟩⟩;obtain⟨sl,e1⟩:=up b o hb hn;exact⟨sl,(other b (UI b _ e1 fun vs z=>hn vs z)).trans e1⟩;refine(other b fun z=>?_).trans (k1 b o hb);rw[z,hnT]at hb;cases hb;refine⟨oe,vs,T,_,_,(other a (eU hTe)).trans he,hc,R4,h1,hnT,hTe,nH _ hT (Bm (uK YH _)),uK YH _,?_⟩;simp[h3s]
end
section
variable {P:dG}{w:bQ}{K:aE}{mg:Str->Option av}{base:aY}{N:List Str}{qual:Str}{scope:iQ}{f:ay}{cd:av}{A:cH}{outer:List Env}{s:aA}{H:Hp}{E:XK}
theorem JO(fl:lH (qp (p9 P w) P w K mg base N qual scope f cd A outer s H E) (fun _=>E) e s'):(qp (p9 P w) P w K mg base N qual scope f cd A outer s H E).xe e s':=by
 let X:=qp (p9 P w) P w K mg base N qual scope f cd A outer s H E;have O:Wa X:=⟨rfl,rfl⟩
 show aB (aD P w) X.A (leaving X.env e) (fun _ Ln=>p9 P w outer H s E e Ln) (fun e' Ln=>p9 P w outer H s E e' Ln) s';unfold leaving;refine ah (Dd O fl fun a cls dx a0 σ H' h B h' ea I q xd cv up hd=>?_);subst ea;refine iI (D7 (Q:=fun _ s1=>XD dx a s1.heap->p9 P w outer H s E (.ref a) s1) (E:=fun e' s1=>p9 P w outer H s E e' s1) (BH _ _) ?_ xd) (fun u s1 h=>h.1 h.2) fun _ _ h=>h.1;refine wpAny_landsW hd fun h2 fl2 us xd=>?_;refine Ga fl2 fun k1 k2 b8 k4=>?_;clear fl2;obtain⟨_,⟨L',o',e1,e2,e3,e4⟩,k3⟩:=b8;obtain rfl:X.env.locals=L':=fq e1;have hL:H' X.env.locals=none:=I.free;have fr:∀b,b∈xS X.stack↔b=X.env.locals\/b∈xS outer:=fun b=>by show b∈xS (X.env::outer)↔_;unfold xS;rw[Mm (show X.env.frame=some X.env.locals from rfl),bW]
 have get:∀b o,b≠X.env.locals->h.get? b=some o->(A7 h [X.env.locals]).get? b=some o:=fun b o n e=>LV _ e (by simpa using n);refine⟨a,cls,dx,a0,H',A7 h [X.env.locals],B,rfl,⟨k1,k2,k3,k4⟩,xd,fun b o e nb=>?_,fun b o e hn=>?_,q,I.os,I.bare,?_,?_⟩;have nl:b≠X.env.locals:=fun z=>by have z':=Ur [X.env.locals] (h:=h) (b:=b) (by simp[z]);rw[e]at z';cases z'
 exact cv b o (Ib _ e) fun z=>by rcases(fr b).mp z with z|z;exact nl z;exact nb z
 exact(up.trans us) b o (Ib _ e) hn;have u:Un (xS outer) [] H H' s.heap h:=I.base;have ne:∀b o,s.heap.get? b=some o->b≠X.env.locals:=fun b o e=>dH (iS (cu e) I.ok.above);refine⟨fun b o e n nf nx=>get b o (ne b o e) (u.keep b o e n nf nx),fun b o e n nf nx=>?_,u.free,fun b o e nx=>?_,u.oY,u.xQ,u.xR⟩;obtain⟨sl,e1⟩:=u.slot b o e n nf nx;exact⟨sl,get b _ (ne b o e) e1⟩;obtain⟨o',e1⟩:=u.there b o e nx;exact⟨o',get b _ (ne b o e) e1⟩;intro b u e;refine(I.fE b u e).zA (fun c v hc q'=>get c v ?_ q') (fun _ z=>z) (fun _ _ z=>z) fun _ zo _ z=>z;rcases hc with z | z;rintro rfl;rw[<- z,hL]at e;cases e;rintro rfl;rw[hL]at z;cases z
end
end Dm
end aB4
section af8
namespace Dm
open PySem PySem.Spec PyProof.Rows L2 PySem.W
def exD(K:Frag)(C:ay)(YI:List av)(newId:String)(o:Obj):Bool:=match o.data with
 | .cls cd=>!cd.hasDel&&cd.mro.head?==some (.ref C)&&tailIn K YI cd.mro.tail&&nsOkIn K cd.ns&&nsIn K cd.ns "__init__"==some none&&o.cls == .type "type" && o.slots.toList[4]?==some (some (.builtin newId))&&o.slots.toList.length==6
 | _=>false
def YJ(K:Frag)(C:ay)(YI:List av)(newId:String):Bool:=(K.lookup C).any (exD K C YI newId)
theorem six{l:List (Option av)}(h:l.length=6)(e:l[4]?=some a):∃k0 k1 k2 k3 k5,l=[k0,k1,k2,k3,a,k5]:=by
 refine rC (uz h) fun k0 l b8=>?_;obtain rfl:=b8;refine rC (uz (fR h)) fun k1 l b8=>?_;obtain rfl:=b8;refine rC (uz (fR (fR h))) fun k2 l b8=>?_;obtain rfl:=b8;refine rC (uz (fR (fR (fR h)))) fun k3 l b8=>?_;obtain rfl:=b8;refine rC (uz (fR (fR (fR (fR h))))) fun k4 l b8=>?_;obtain rfl:=b8;refine rC (uz (fR (fR (fR (fR (fR h)))))) fun k5 l b8=>?_;obtain rfl:=b8;obtain rfl:=Mn (fR (fR (fR (fR (fR (fR h))))));cases e;exact⟨k0,k1,k2,k3,k5,rfl⟩
theorem Wb{K:Frag}{mg:Str->Option av}(X:K.In h)(hb:mg x=some (.ref C))(q:YJ K C YI newId=true):OwnCls x C YI newId mg h:=by
 refine⟨hb,?_⟩;unfold YJ at q;cases ho:K.lookup C with
 | none=>rw[ho]at q;cases q
 | some o=>
  rw[ho]at q;replace q:exD K C YI newId o=true:=q;obtain⟨oc,dd,dt,sl⟩:=o;cases dt with
  | cls cd=>
   obtain⟨nm,bs,mro,ns,qn,hd,sn,sub,ab,col,del⟩:=cd;obtain⟨l⟩:=sl;unfold exD at q;simp only[bR,aM8,Bool.not_eq_true']at q;obtain⟨⟨⟨⟨⟨⟨⟨rfl,q1⟩,q2⟩,q3⟩,q4⟩,rfl⟩,q5⟩,q6⟩:=q;cases mro with
   | nil=>cases q1
   | cons m bm=>cases q1;refine at7 (six q6 q5) fun k0 k1 k2 k3 k5 RE=>?_;obtain rfl:=RE;exact⟨bm,ns,nm,qn,bs,hd,sn,sub,ab,col,dd,k0,k1,k2,k3,k5,_,X _ _ ho,.of_isNs (isNs_of_in X q3),nsMap_none_of_in X q3 q4,tail_of_in X q2⟩
  | _=>exact nomatch q
section
variable {X:Cx}{E:L2.St->XK}{x:Str}{C:ay}{B newId NZ:String}{bm:List av}{np jx pos:Pos}{BI:bF}{rest:List bF}{ta:TA}
def Wc(E:L2.St->XK)(cls:av)(ta:TA):TS:=fun _ σ H=>ta σ H fun vs H1=>vs.length<=cU/\E σ cls none H1
theorem O0(FB:ExcBaseFacts B newId NZ bm)(hh:X.A.handled=none)(hm:X.mg x=some (.ref C))(hc:YJ X.K C bm newId=true)(hg:Gl X x)(ha:PA (X.eX (lH X E)) (BI::rest) ta)
  (he:bN (BI::rest) X.env=(false,eval BI X.env)::bN rest X.env:=by rfl) (y9:(backTo jx (bN rest X.env)).any (·.1)=false:=by rfl) (hd:(x==("__debug__" : Str))=false:=by decide) :
  PS (X.eX (lH X E)) (.Raise (some (.Call (.Name x np) (BI::rest) [] jx)) none pos) (Wc E (.ref C) ta):=by
 intro ak s σ H D I h;have O:OwnCls x C bm newId X.mg X.base:=Wb I.ok.mod.Zk hm hc;obtain⟨tl,N,nm,q,bs,hdct,sn,sub,ab,col,dd,k0,k1,k2,k3,k5,mN,hC,hN,hni,T⟩:=O.obj;refine wpAny_Raise_call_subT (C:=C) (nm:=nm) (q:=q) (N:=N) (bs:=bs) (bm:=tl) (hdct:=hdct) (sn:=sn) (sub:=sub) (ab:=ab) (col:=col) (dd:=dd) (k0:=k0) (k1:=k1) (k2:=k2) (k3:=k3) (k5:=k5)
  FB (mN:=mN) (T.hasType FB.hasBase) hh (by rw[he];show(false || (backTo jx (bN rest X.env)).any (·.1))=false;rw[y9];rfl) hni (sC I hg hm ⟨rfl,?_⟩ hd)
 have hp:=ha jx ak s σ H _ I h;rw[he]at hp ⊢;refine FP (iI hp (fun us s2 kX=>?_) fun _ _ y=>y);refine uN kX fun vs H1 I1 r z w=>?_;clear kX;exact⟨rfl,by rw[<- r.length];exact z,I1.bk _ _ hC,hN.keeps I1.bk,T.keeps I1.bk,fun h' e hx=>RI I1.jt (.of hx) w⟩
def GA(sp:Sp)(E:L2.St->XK)(t:TA):TE:=fun σ H Q=>t σ H fun vs H1=>sp vs H1 Q (E σ)
theorem RK{CX:QZ}(F:jV X.prog X.w X.K X.mg X.base (p9 X.prog X.w) k f fd ps sp)(hr:jf k X.A)(hb:Binds X.K fd ps [])
  (I:L2.Inv X ak σ H s) (r:Vals vs us) (h:sp vs H Q (E σ)):aB (aD X.prog X.w) X.A (call (.ref f) us) (EP X ak σ Q) (lH X E) s:=by
 have hl:(us++[]).length=ps.length:=by rw[ko,<- r.length];exact F.len _ _ _ _ h
 have hbd:=hb s us I.Bt hl;rw[ko] at hbd;refine AX (um (F.run X.A X.stack s H ⟨us,[]⟩ us vs Q (E σ) hr I.ad2 hbd r h) fun r s' hq=>?_);cases r with
 | error e=>exact Dc I hq
 | ok fl=>
  cases fl with
  | ret u=>exact I.after hq
  | next=>exact nO hq
  | brk=>exact nO hq
  | cont=>exact nO hq
theorem De(F:jV X.prog X.w X.K X.mg X.base (p9 X.prog X.w) k f fd ps sp)(hr:jf k X.A)(hg:Gl X x)(hm:X.mg x=some (.ref f))(hk:qU X.K (.ref f)=true)(hb:Binds X.K fd ps [])
  (ha:PA (X.eX (lH X E)) (e::es) t) (Ai:(x==("__debug__" : Str))=false:=by decide) (he:bN (e::es) X.env=(false,eval e X.env)::bN es X.env:=by rfl) (uS:(backTo pos (bN es X.env)).any (·.1)=false:=by rfl) :
  PE (X.eX (lH X E)) (.Call (.Name x p) (e::es) [] pos) (GA sp E t):=by
 intro ak s σ H Q I h;refine uh (sC I hg hm ?_ Ai);refine LX (h₀:=X.base) I.ok.mod.Zk hk (gS (ha pos ak s σ H _ I h) fun us s1 qq=>qq.elim fun vs uT=>uT.elim fun H1 EO=>EO.elim fun I1 GB=>GB.elim fun r q=>⟨I1.Bt,?_⟩) he uS;refine gS (RK (CX:=p9 X.prog X.w) F hr hb I1.jt r q) fun u s2 Ir=>Ir.elim fun v Gi=>Gi.elim fun H2 Ih=>Ih.elim fun I2 Ii=>Ii.elim fun r2 q2=>⟨v,H2,I2.eX _,r2,q2⟩
def Wd(C:ay)(sp:Sp)(E:L2.St->XK)(t:TA):TE:=fun σ H Q=>t σ H fun vs H1=>∀x dx,H1 x=none->H1 dx=none->dx≠x->
 sp (.ref x::vs) (upd (upd H1 dx (.own x)) x (.ins C dx [])) (fun v H2=>v = .dh/\Q (.ref x) H2) (E σ)
theorem JP(M:Mk X.K C f)(F:jV X.prog X.w X.K X.mg X.base (p9 X.prog X.w) k f fd ps sp)(hr:jf (k+1) X.A)(hb:Binds X.K fd ps [])
  (I:L2.Inv X ak σ H s) (r:Vals vs us) (h:∀x dx,H x=none->H dx=none->dx≠x->sp (.ref x::vs) (upd (upd H dx (.own x)) x (.ins C dx [])) (fun v H2=>v = .dh/\Q (.ref x) H2) (E σ)) :
  aB (aD X.prog X.w) X.A (call (.ref C) us) (EP X ak σ Q) (lH X E) s:=by
 have hq:=h (s.heap.objs.size+1) s.heap.objs.size (I.fE.fresh (xh _)) (I.fE.fresh (bg _)) (dH (A9 _));have I2:=Inv.made (C:=C) I;have r2:Vals (V.ref (s.heap.objs.size+1)::vs) (eW (s.heap.objs.size+1)::us):=.cons rfl r;have hl:(eW (s.heap.objs.size+1)::us++[]).length=ps.length:=by rw[ko,<- r2.length];exact F.len _ _ _ _ hq
 have hbd:=hb _ (eW (s.heap.objs.size+1)::us) I2.Bt hl;rw[ko] at hbd;refine AX (NT (f:=f) I.Bt M.makes M.init (aM8.mp M.fn) (um (F.run _ X.stack _ _ ⟨eW (s.heap.objs.size+1)::us,[]⟩ (eW (s.heap.objs.size+1)::us) _ _ (E σ) (hr.make C us [])
  (I2.ad2.make C us []) hbd r2 hq) fun r s' RL=>?_))
 cases r with
 | error e=>exact Dc I2 RL
 | ok fl=>
  cases fl with
  | ret u=>refine uN (I2.after RL) fun v H' I3 rv ev q3=>?_;subst ev;exact⟨rv,⟨V.ref (s.heap.objs.size+1),H',I3,rfl,q3⟩⟩
  | next=>exact nO RL
  | brk=>exact nO RL
  | cont=>exact nO RL
theorem O2(M:Mk X.K C f)(F:jV X.prog X.w X.K X.mg X.base (p9 X.prog X.w) k f fd ps sp)(hr:jf (k+1) X.A)(hg:Gl X x)(hm:X.mg x=some (.ref C))(hb:Binds X.K fd ps [])
  (ha:PA (X.eX (lH X E)) (e::es) t) (Ai:(x==("__debug__" : Str))=false:=by decide) (he:bN (e::es) X.env=(false,eval e X.env)::bN es X.env:=by rfl) (uS:(backTo pos (bN es X.env)).any (·.1)=false:=by rfl) :
  PE (X.eX (lH X E)) (.Call (.Name x p) (e::es) [] pos) (Wd C sp E t):=by
 intro ak s σ H Q I h;refine uh (sC I hg hm ?_ Ai);refine LX (h₀:=X.base) I.ok.mod.Zk M.kp (gS (ha pos ak s σ H _ I h) fun us s1 Bv=>Bv.elim fun vs GC=>GC.elim fun H1 GD=>GD.elim fun I1 GF=>GF.elim fun r q=>⟨I1.Bt,?_⟩) he uS;refine gS (JP M F hr hb I1.jt r q) fun u s2 O3=>O3.elim fun v We=>We.elim fun H2 Wf=>Wf.elim fun I2 Wg=>Wg.elim fun r2 q2=>⟨v,H2,I2.eX _,r2,q2⟩
theorem An{P:dG}{w:bQ}{K:aE}{mg:Str->Option av}{base:aY}{x qual:Str}{st:bz}{f:ay}{fd:gP}{N ps:List Str}{k:Nat}{sp:Sp}(F:Lp K x qual st f fd)(S:bY N ps (aR st))(len:∀vs H Q E,sp vs H Q E->vs.length=ps.length)
  (CZ:∀(dW:av),fd.code=dW->∀(A:cH) (outer:List Env) (s:aA) (H:Hp) (vs:List V) (Q:VK) (E:XK),jf k (A.deeper (envOfC qual (aR st) s.heap.objs.size f dW))->sp vs H Q E->
   ∃t,vC ((qp (p9 P w) P w K mg base N qual (aR st) f dW A outer s H E).eX (lH (qp (p9 P w) P w K mg base N qual (aR st) f dW A outer s H E) fun _=>E)) (fG st) t/\t {nx:=fun _ H'=>Q .dh H',rt:=Q} (start N vs) H) :
  jV P w K mg base (p9 P w) (k+1) f fd ps sp:=by
 refine Vs F.ex fun oc od kV doc pm an dW ct EN zo9 lk Gh=>?_;obtain rfl:=zo9;refine ad3 lk Gh S len fun A outer s H vs Q E hr h=>?_;refine aU (CZ dW rfl A outer s H vs Q E hr h) fun t ht q=>?_;refine⟨t,fun ak s' σ H' D I hw=>?_,q⟩;exact iI (ht ak s' σ H' D (I.eX _) hw) (fun fl Ln hs=>SP.jt hs) fun e Ln hs=>JO hs
end
section
variable {e:ay}
def ClsAt(e:ay)(cls:av)(h:aY):Prop:=∃o,h.get? e=some o/\o.cls=cls
end
end Dm
end af8
section aB6
namespace Dm
open PySem PySem.Spec PyProof.Rows L2 PySem.W PySem.Calls PySem.Builtin PySem.Builtin.ObjectAttr PySem.Builtin.Getset_descriptor
def Wh(e C dx:ay)(h:aY):Prop:=∃o,h.get? e=some o/\o.cls = .ref C/\o.dict=some dx/\∃vs,o.data = .fields vs
theorem Wh.at_(p:Wh e C dx h):ClsAt e (.ref C) h:=by
 obtain⟨o,h1,h2,_⟩:=p;exact⟨o,h1,h2⟩
end Dm
end aB6
section aB7
namespace Dm
open PySem PyProof.Rows L2
inductive D where
 | dh|bl (b:Bool)|int (i:Int)|str (x:Str)|tup (ds:List D)|lst (ds:List D)|d8 (t:Nat) (ds:List D)
mutual
def dep:D->Nat
 | .tup ds=>kN ds+1
 | .lst ds=>kN ds+1
 | .d8 tb ds=>kN ds+2
 | _=>0
def kN:List D->Nat
 | []=>0
 | d::ds=>max (dep d) (kN ds)
end
theorem iX:∀{ds:List D} {d:D},d∈ds->dep d<=kN ds
 | _::_,_,.head _=>Nat.le_max_left _ _
 | _::ds,_,.tail _ h=>cI (iX h) (Nat.le_max_right _ _)
theorem sN:∀{ds:List D},(∀d∈ds,dep d<=n)->kN ds<=n
 | [],_=>i7 _
 | d::ds,h=>Nat.max_le.mpr ⟨h d (.head _),sN fun x hx=>h x (.tail _ hx)⟩
mutual
def j7:D->D->Bool
 | .dh,.dh=>true
 | .bl a,.bl b=>a==b
 | .bl a,.int j=>(if a then 1 else 0)==j
 | .int i,.bl b=>i==(if b then 1 else 0)
 | .int i,.int j=>i==j
 | .str x,.str y=>x==y
 | .tup xs,.tup ys=>fm xs ys
 | .lst xs,.lst ys=>fm xs ys
 | _,_=>false
def fm:List D->List D->Bool
 | [],[]=>true
 | x::xs,y::ys=>j7 x y&&fm xs ys
 | _,_=>false
end
theorem Df:∀{xs ys:List D},fm xs ys=true->xs.length=ys.length
 | [],[],_=>rfl
 | [],_::_,h=>by simp[fm]at h
 | _::_,[],h=>by simp[fm]at h
 | x::xs,y::ys,h=>by
  rw[fm,bR]at h;rw[dg,dg,Df h.2]
theorem Dg:∀{xs ys:List D},xs.length=ys.length->fm xs ys=(dU xs.length).all fun j=>j7 (xs.getD j .dh) (ys.getD j .dh)
 | [],[],_=>rfl
 | x::xs,y::ys,h=>by
  rw[fm,Dg (xs:=xs) (ys:=ys) (by simpa using h),dg,List.range_succ_eq_map,List.all_cons,Mp];rfl
mutual
def flat:D->Bool
 | .tup ds=>cC ds
 | .lst ds=>cC ds
 | .d8 _ _=>false
 | _=>true
def cC:List D->Bool
 | []=>true
 | d::ds=>flat d&&cC ds
end
theorem eN:∀{ds:List D} {d:D},cC ds=true->d∈ds->flat d=true
 | _::_,_,h,.head _=>by rw[cC,bR]at h;exact h.1
 | _::ds,_,h,.tail _ m=>by rw[cC,bR]at h;exact eN h.2 m
theorem ie:∀{ds:List D},(∀d∈ds,flat d=true)->cC ds=true
 | [],_=>rfl
 | d::ds,h=>by rw[cC,bR];exact⟨h d (.head _),ie fun x hx=>h x (.tail _ hx)⟩
mutual
def fH(h:aY):D->av->Prop
 | .dh,v=>v = .none
 | .bl b,v=>v = .bool b
 | .int i,v=>∃t,v = .int i t
 | .str x,v=>∃t,v = .str x t
 | .tup ds,v=>∃a items,v = .ref a/\IsTup h a items/\bI h ds items.toList
 | .lst ds,v=>∃a items,v = .ref a/\PlainL h a items/\bI h ds items.toList
 | .d8 _ _,_=>False
def bI(h:aY):List D->List av->Prop
 | [],vs=>vs=[]
 | d::ds,vs=>∃v r,vs=v::r/\fH h d v/\bI h ds r
end
theorem bI.len:∀{ds:List D} {vs:List av},bI h ds vs->vs.length=ds.length
 | [],_,e=>by rw[bI]at e;subst e;rfl
 | d::ds,_,e=>by
  rw[bI]at e;obtain⟨v,r,rfl,_,q⟩:=e;rw[dg,dg,q.len]
theorem bI.get:∀{ds:List D} {vs:List av} (j:Nat) (hj:j<vs.length),bI h ds vs->fH h (ds.getD j .dh) vs[j]/\ds.getD j .dh∈ds
 | [],_,j,hj,e=>by rw[bI]at e;subst e;exact aN6 hj (jK _)
 | d::ds,_,j,hj,e=>by
  rw[bI]at e;obtain⟨v,r,rfl,q1,q⟩:=e;cases j with
  | zero=>exact⟨q1,.head _⟩
  | succ j=>obtain⟨a,b⟩:=q.get j (by simpa using hj);exact⟨by simpa using a,by simpa using .inr b⟩
mutual
theorem O5:∀d:D,flat d=true->j7 d d=true
 | .dh,_=>by rw[j7]
 | .bl b,_=>by rw[j7];exact aN5 b
 | .int i,_=>by rw[j7];exact aN5 i
 | .str x,_=>by rw[j7];exact aN5 x
 | .tup xs,h=>by rw[j7];rw[flat]at h;exact n8 xs h
 | .lst xs,h=>by rw[j7];rw[flat]at h;exact n8 xs h
 | .d8 tb xs,h=>by rw[flat]at h;cases h
theorem n8:∀ds:List D,cC ds=true->fm ds ds=true
 | [],_=>by rw[fm]
 | d::ds,h=>by
  rw[cC,bR]at h;rw[fm,O5 d h.1,n8 ds h.2];rfl
end
inductive Vw(h:aY):D->av->Prop
 | dh:Vw h .dh .none
 | bl (b:Bool):Vw h (.bl b) (.bool b)
 | int (i:Int) (t:Tok):Vw h (.int i) (.int i t)
 | str (x:Str) (t:Tok):Vw h (.str x) (.str x t)
 | tup {ds:List D} {a:ay} {bq:Array av} (q:IsTup h a bq) (p:bI h ds bq.toList):Vw h (.tup ds) (.ref a)
 | lst {ds:List D} {a:ay} {bq:Array av} (q:PlainL h a bq) (p:bI h ds bq.toList):Vw h (.lst ds) (.ref a)
theorem vw(x:fH h d u):Vw h d u:=by
 cases d with
 | dh=>rw[fH]at x;subst x;exact .dh
 | bl b=>rw[fH]at x;subst x;exact .bl b
 | int i=>rw[fH]at x;obtain⟨t,rfl⟩:=x;exact .int i t
 | str y=>rw[fH]at x;obtain⟨t,rfl⟩:=x;exact .str y t
 | tup ds=>rw[fH]at x;obtain⟨a,bq,rfl,q,p⟩:=x;exact .tup q p
 | lst ds=>rw[fH]at x;obtain⟨a,bq,rfl,q,p⟩:=x;exact .lst q p
 | d8 _ _=>rw[fH]at x;exact x.elim
theorem bI.inj(H:∀d∈ds,∀(e:D) (v:av),fH h d v->fH h e v->d=e)(x:bI h ds vs)(y:bI h es vs):ds=es:=by
 induction ds generalizing es vs with
 | nil=>
  rw[bI]at x;subst x;cases es with
  | nil=>rfl
  | cons e es=>rw[bI]at y;obtain⟨_,_,z,_⟩:=y;cases z
 | cons d ds ih=>
  rw[bI]at x;obtain⟨v,r,rfl,p1,p2⟩:=x;cases es with
  | nil=>rw[bI]at y;cases y
  | cons e es=>rw[bI]at y;obtain⟨v',r',z,q1,q2⟩:=y;cases z;rw[H d (.head _) e v p1 q1,ih (fun d hd=>H d (.tail _ hd)) p2 q2]
theorem fH.inj(d e:D)(hu:fH h d v)(hv:fH h e v):d=e:=by
 generalize hn:dep d=n;induction n using Nat.strongRecOn generalizing d e v with
 | ind n ih=>
 have x:=vw hu;have y:=vw hv;clear hu hv;cases x with
 | dh=>cases y;rfl
 | bl b=>cases y;rfl
 | int i t=>cases y;rfl
 | str s t=>cases y;rfl
 | tup q p=>
  rw[dep] at hn;cases y with
  | tup q' p'=>obtain⟨o1,q1,_,n1,d1⟩:=q;obtain⟨o2,q2,_,n2,d2⟩:=q';obtain rfl:=fq (q1.symm.trans q2);rw[d1] at d2;cases d2;rw[bI.inj (fun d hd e v a b=>ih _ (by have:=iX hd;lia) d e a b rfl) p p']
  | lst q' p'=>obtain⟨o1,q1,c1,_⟩:=q;obtain⟨o2,n2,q2,c2,_⟩:=q';obtain rfl:=fq (q1.symm.trans q2);rw[c1] at c2;exact aN6 c2 (by decide)
 | lst q p=>
  rw[dep] at hn;cases y with
  | tup q' p'=>obtain⟨o2,n2,q2,c2,_⟩:=q;obtain⟨o1,q1,c1,_⟩:=q';obtain rfl:=fq (q1.symm.trans q2);rw[c1] at c2;exact aN6 c2 (by decide)
  | lst q' p'=>obtain⟨o1,n1,q1,_,_,d1⟩:=q;obtain⟨o2,n2,q2,_,_,d2⟩:=q';obtain rfl:=fq (q1.symm.trans q2);rw[d1] at d2;cases d2;rw[bI.inj (fun d hd e v a b=>ih _ (by have:=iX hd;lia) d e a b rfl) p p']
open PySem.SeqAt
section
variable {s:aA}
theorem aS(x:IsTup h a items):h.IsTuple a items:=by
 obtain⟨o,h1,h2,n,h3⟩:=x;exact⟨o,h1,h2,n,h3⟩
theorem n9{bq k7:Array av}(pu:bI s.heap xs bq.toList)(pv:bI s.heap ys k7.toList)(h:∀(x y:D) (u v:av),x∈xs->y∈ys->fH s.heap x u->fH s.heap y v->EqAt A s u v (j7 x y)):∀j (h1:j<bq.size) (h2:j<k7.size),EqAt A s bq[j] k7[j] (j7 (xs.getD j .dh) (ys.getD j .dh)):=fun j h1 h2=>by
 obtain⟨g1,m1⟩:=pu.get j (by rw[dN];exact h1);obtain⟨g2,m2⟩:=pv.get j (by rw[dN];exact h2);rw[MU]at g1 g2;exact h _ _ _ _ m1 m2 g1 g2
theorem yd{bq k7:Array av}(pu:bI s.heap xs bq.toList)(pv:bI s.heap ys k7.toList):((dU (min bq.size k7.size)).all (fun j=>j7 (xs.getD j .dh) (ys.getD j .dh))&&(bq.size==k7.size))=fm xs ys:=by
 have lu:bq.size=xs.length:=by rw[<- dN];exact pu.len
 have lv:k7.size=ys.length:=by rw[<- dN];exact pv.len
 by_cases hl:bq.size=k7.size;rw[<- hl,M1,aN5,uJ,lu,<- Dg (lu.symm.trans (hl.trans lv))];rw[aN1.mpr hl,FY];exact(xG.mpr fun z=>hl (by rw[lu,lv];exact Df z)).symm
theorem GG{bq k7:Array av}(pu:bI s.heap xs bq.toList)(pv:bI s.heap ys k7.toList)(hl:bq.size=k7.size):(dU bq.size).all (fun j=>j7 (xs.getD j .dh) (ys.getD j .dh))=fm xs ys:=by
 rw[<- yd pu pv,<- hl,M1,aN5,uJ]
theorem GH{bq k7:Array av}(pu:bI s.heap xs bq.toList)(pv:bI s.heap ys k7.toList)(hl:¬ bq.size=k7.size):false=fm xs ys:=by
 rw[<- yd pu pv,aN1.mpr hl,FY]
theorem RM{A:cH}(x:Vw s.heap d u)(y:Vw s.heap e v)(ig:A.units<cLine)(hn:dep d=n)(fx:flat d=true)(fy:flat e=true)
  (ht:∀{xs ys:List D} {a b:ay} {bq k7:Array av},dep (.tup xs)=n->cC xs=true->cC ys=true->IsTup s.heap a bq->bI s.heap xs bq.toList->IsTup s.heap b k7->bI s.heap ys k7.toList->EqAt A s (.ref a) (.ref b) (fm xs ys))
  (hl:∀{xs ys:List D} {a b:ay} {bq k7:Array av},dep (.lst xs)=n->cC xs=true->cC ys=true->PlainL s.heap a bq->bI s.heap xs bq.toList->PlainL s.heap b k7->bI s.heap ys k7.toList->EqAt A s (.ref a) (.ref b) (fm xs ys)):EqAt A s u v (j7 d e):=by
 cases x with
 | dh=>
  cases y with
  | dh=>exact EqAt.same _
  | bl c=>exact EqAt.none_bool c
  | int j r=>exact EqAt.none_int j r
  | str y r=>exact EqAt.none_str y r
  | tup q' p'=>exact EqAt.none_tuple (aS q') ig
  | lst q' p'=>exact EqAt.none_list q'.isList ig
 | bl b=>
  cases y with
  | dh=>exact EqAt.bool_none b
  | bl c=>exact EqAt.bool_bool b c
  | int j r=>exact EqAt.bool_int b j r
  | str y r=>exact EqAt.bool_str b y r
  | tup q' p'=>exact EqAt.bool_tuple b (aS q') ig
  | lst q' p'=>exact EqAt.bool_list b q'.isList ig
 | int i t=>
  cases y with
  | dh=>exact EqAt.int_none i t
  | bl c=>exact EqAt.int_bool i t c
  | int j r=>exact EqAt.int_int i t j r
  | str y r=>exact EqAt.int_str i t y r
  | tup q' p'=>exact EqAt.int_tuple i t (aS q') ig
  | lst q' p'=>exact EqAt.int_list i t q'.isList ig
 | str x t=>
  cases y with
  | dh=>exact EqAt.str_none x t
  | bl c=>exact EqAt.str_bool x t c
  | int j r=>exact EqAt.str_int x t j r
  | str y r=>exact EqAt.str_str x t y r
  | tup q' p'=>exact EqAt.str_tuple x t (aS q') ig
  | lst q' p'=>exact EqAt.str_list x t q'.isList ig
 | tup q p=>
  cases y with
  | dh=>exact EqAt.tuple_none (aS q) ig
  | bl c=>exact EqAt.tuple_bool c (aS q) ig
  | int j r=>exact EqAt.tuple_int j r (aS q) ig
  | str y r=>exact EqAt.tuple_str y r (aS q) ig
  | tup q' p'=>exact ht hn (by rw[flat]at fx;exact fx) (by rw[flat]at fy;exact fy) q p q' p'
  | lst q' p'=>exact EqAt.tuple_list (aS q) q'.isList ig
 | lst q p=>
  cases y with
  | dh=>exact EqAt.list_none q.isList ig
  | bl c=>exact EqAt.list_bool c q.isList ig
  | int j r=>exact EqAt.list_int j r q.isList ig
  | str y r=>exact EqAt.list_str y r q.isList ig
  | tup q' p'=>exact EqAt.list_tuple q.isList (aS q') ig
  | lst q' p'=>exact hl hn (by rw[flat]at fx;exact fx) (by rw[flat]at fy;exact fy) q p q' p'
theorem pB(d e:D){A:cH}(fx:flat d=true)(fy:flat e=true)(hu:fH s.heap d u)(hv:fH s.heap e v)(hr:A.units+dep d<cLine):EqAt A s u v (j7 d e):=by
 generalize hn:dep d=n at hr;induction n using Nat.strongRecOn generalizing d e A u v with
 | ind n ih=>
 have ig:A.units < cLine:=qV (Fj _ _) hr;refine RM (vw hu) (vw hv) ig hn fx fy (fun {xs ys a b bq k7} hn fx fy q p q' p'=>?_) (fun {xs ys a b bq k7} hn fx fy q p q' p'=>?_);by_cases sO:a=b;subst sO;have e:D.tup xs=D.tup ys:=fH.inj (h:=s.heap) _ _ (v:=.ref a) (by rw[fH];exact⟨a,bq,rfl,q,p⟩) (by rw[fH];exact⟨a,k7,rfl,q',p'⟩);obtain rfl:xs=ys:=by injection e
 rw[n8 xs fx];exact EqAt.same _;rw[<- yd p p'];exact EqAt.of_refs sO (RcAt.tuples (aS q) (aS q') ig (n9 p p' fun x y u v m1 m2 g1 g2=>ih _ (by rw[<- hn,dep];have:=iX m1;lia) _ _ (eN fx m1) (eN fy m2) g1 g2 rfl (by show A.units+1+_<_;rw[<- hn,dep]at hr;have:=iX m1;lia)));by_cases sO:a=b;subst sO;have e:D.lst xs=D.lst ys:=fH.inj (h:=s.heap) _ _ (v:=.ref a) (by rw[fH];exact⟨a,bq,rfl,q,p⟩) (by rw[fH];exact⟨a,k7,rfl,q',p'⟩);obtain rfl:xs=ys:=by injection e
 rw[n8 xs fx];exact EqAt.same _;refine EqAt.of_refs sO ?_;by_cases hl:bq.size=k7.size;rw[<- GG p p' hl];exact RcAt.lists q.isList q'.isList hl ig (n9 p p' fun x y u v m1 m2 g1 g2=>ih _ (by rw[<- hn,dep];have:=iX m1;lia) _ _ (eN fx m1) (eN fy m2) g1 g2 rfl (by show A.units+1+_<_;rw[<- hn,dep]at hr;have:=iX m1;lia));rw[<- GH p p' hl];exact RcAt.lists_lengths q.isList q'.isList (by simpa using hl) ig
end
end Dm
end aB7
section ag0
namespace Sg
open PySem PySem.W PyProof.Rows
noncomputable section
def gal:Bool->Keyed->Array Keyed->Nat->Nat->Nat->StateT bJ Sem (Option Nat):=sortPriv% PySem.Builtin.gallop
def mlo:Array Keyed->Array Keyed->StateT bJ Sem (Array Keyed):=sortPriv% PySem.Builtin.mergeLo
def mhi:Array Keyed->Array Keyed->StateT bJ Sem (Array Keyed):=sortPriv% PySem.Builtin.mergeHi
def smg:Nat->StateT bJ Sem Unit:=sortPriv% PySem.Builtin.setMinGallop
def Cm(prog:dG)(w:bQ)(A:cH)(s:aA)(kd:iO)(f:Nat->Keyed)(n:Nat)(r:Nat->Nat):Prop:=
 ∀i j C,i<n->j<n->C (decide (r i<r j)) s->aB (aD prog w) A (keyLt' kd (f i).1 (f j).1) C (fun _ _=>False) s
section
variable {prog:dG}{w:bQ}{A:cH}{E:av->aA->Prop}{s:aA}{kd:iO}{st:bJ}
theorem Dh{Q:Option Bool->bJ->Prop}(hc:Cm prog w A s kd f n r)(hk:kindOf st=kd)(hi:i<n)(hj:j<n)(h:Q (some (decide (r i<r j))) st):wpS (aD prog w) A E s (lt' (f i) (f j)) Q st:=by
 rw[lt'_eq];refine aM (mH ?_);rw[hk];refine aM (wpS_lift (oK (iI (hc i j (fun c s'=>s'=s/\c=decide (r i<r j)) hi hj ⟨rfl,rfl⟩) (fun c s' z=>?_) fun _ _ z=>z.elim)));obtain⟨rfl,rfl⟩:=z;exact⟨rfl,aP h⟩
def arr(f:Nat->Keyed)(X:List Nat):Array Keyed:=(X.map f).toArray
theorem cP(X:List Nat):(arr f X).size=X.length:=by simp[arr]
theorem gV(X:List Nat)(i j:Nat):(arr f X).extract i j=arr f (X.extract i j):=by simp[arr,gx,Fx,Fy]
theorem gh(X:List Nat)(x:Nat):(arr f X).push (f x)=arr f (X++[x]):=by simp[arr]
theorem iY(X Y:List Nat):arr f X++arr f Y=arr f (X++Y):=by simp[arr]
theorem wD(X:List Nat):(arr f X).reverse=arr f X.reverse:=by simp[arr]
theorem dB{X:List Nat}{Q:Keyed->bJ->Prop}(hi:X[i]?=some x)(h:Q (f x) st):wpS (aD prog w) A E s (elem' (arr f X) i) Q st:=by
 rw[elem'_eq];have:(arr f X)[i]?=some (f x):=by simp[arr,hi]
 rw[this];exact aP h
theorem BJ{Q:Unit->bJ->Prop}(h:Q () (SortSt.mk' (kindOf st) (arrOf st) (pendingOf st) g (failedOf st))):wpS (aD prog w) A E s (smg g) Q st:=rm h
def bey(left:Bool)(key:Keyed)(a:Array Keyed)(b i:Nat):StateT bJ Sem (Option Bool):=
 elem' a (b+i)>>=fun x=>ite (left=true) (lt' x key) (lt' key x>>=fun c=>pure (c.map not))
def lk(r:Nat->Nat)(left:Bool)(key x:Nat):Bool:=if left then decide (r x<r key)else !decide (r key<r x)
theorem Wi{Q:Option Bool->bJ->Prop}(hc:Cm prog w A s kd f n r)(hk:kindOf st=kd)(hX:∀x∈X,x<n)(BB:key<n)(hi:X[b+i]?=some x)(h:Q (some (lk r left key x)) st) :
  wpS (aD prog w) A E s (bey left (f key) (arr f X) b i) Q st:=by
 unfold bey;have hx:x<n:=hX x (iM hi);refine aM (dB hi ?_);cases left with
 | true=>rw[aM4 rfl];exact Dh hc hk hx BB (by simpa[lk]using h)
 | false=>rw[aM5 (by simp)];exact aM (Dh hc hk BB hx (aP (by simpa[lk]using h)))
section
variable {B:Nat->Bool}{m:Nat}{Q:Option (Option Nat)×Nat×Nat->bJ->Prop}{g:Nat->Option (Option Nat)×Nat×Nat->StateT bJ Sem (ForInStep (Option (Option Nat)×Nat×Nat))}
theorem UJ(mono:∀i j,i<=j->j<m->B j=true->B i=true){lo hi:Nat}
  (hg:∀x lo hi (Q:_->bJ->Prop),lo<=hi->hi<=m->(lo ≥ hi->Q (.done (none,lo,hi)) st)->(lo<hi->B (lo+(hi-lo) / 2)=true->Q (.yield (none,lo+(hi-lo) / 2+1,hi)) st)->(lo<hi->B (lo+(hi-lo) / 2)=false->Q (.yield (none,lo,lo+(hi-lo) / 2)) st)->wpS (aD prog w) A E s (g x (none,lo,hi)) Q st)
  (h1:lo<=hi) (h2:hi<=m) (hlo:∀i,i<lo->B i=true) (hhi:∀i,hi<=i->i<m->B i=false)
  (h:∀k,k<=m->(∀i,i<k->B i=true)->(∀i,k<=i->i<m->B i=false)->Q (none,k,k) st):wpS (aD prog w) A E s (forIn [0:m] (none,lo,hi) g) Q st:=by
 refine j5 (I:=fun x c st'=>st'=st/\∃lo hi,c=(none,lo,hi)/\lo<=hi/\hi<=m/\hi-lo<=m-x/\(∀i,i<lo->B i=true)/\(∀i,hi<=i->i<m->B i=false)) ?step ?fin ⟨rfl,lo,hi,rfl,h1,h2,by lia,hlo,hhi⟩;case fin=>
  rintro c st' ⟨rfl,lo,hi,rfl,a1,a2,a3,a4,a5⟩;have:lo=hi:=by lia
  subst this;exact h lo a2 a4 a5
 case step=>
  rintro x c st' _ hx ⟨rfl,lo,hi,rfl,a1,a2,a3,a4,a5⟩;refine hg x lo hi _ a1 a2 (fun z=>?_) (fun z b=>?_) fun z b=>?_;have:lo=hi:=by lia
  subst this;exact h lo a2 a4 a5;exact⟨rfl,_,_,rfl,by lia,a2,by lia,fun i Wj=>mono i _ (by lia) (by lia) b,a5⟩;refine⟨rfl,_,_,rfl,by lia,by lia,by lia,a4,fun i h1 h2=>?_⟩;cases q:B i with
  | false=>rfl
  | true=>rw[mono _ i h1 h2 q]at b;cases b
theorem UK{D:Nat->Bool}(hmx:mx<=m)
  (hg:∀x l o (Q:_->bJ->Prop),1<=o->(o ≥ mx->Q (.done (none,l,o)) st)->(o<mx->D o=false->Q (.done (none,l,o)) st)->(o<mx->D o=true->Q (.yield (none,o,2*o+1)) st)->wpS (aD prog w) A E s (g x (none,l,o)) Q st)
  (h0:D 0=true) (hm:0<mx)
  (h:∀l o,l<o->l<mx->D l=true->(o ≥ mx\/D o=false)->Q (none,l,o) st):wpS (aD prog w) A E s (forIn [0:m] (none,0,1) g) Q st:=by
 refine j5 (I:=fun x c st'=>st'=st/\∃l o,c=(none,l,o)/\l<o/\x+1<=o/\l<mx/\D l=true) ?step ?fin ⟨rfl,0,1,rfl,by lia,by lia,hm,h0⟩;case fin=>rintro c st' ⟨rfl,l,o,rfl,a1,a2,a3,a4⟩;exact h l o a1 a3 a4 (.inl (by lia))
 case step=>rintro x c st' _ hx ⟨rfl,l,o,rfl,a1,a2,a3,a4⟩;refine hg x l o _ (by lia) (fun z=>h l o a1 a3 a4 (.inl z)) (fun z b=>h l o a1 a3 a4 (.inr b)) fun z b=>⟨rfl,o,2*o+1,rfl,by lia,by lia,z,b⟩
end
theorem uU{left:Bool}{key:Nat}{X:List Nat}{b m hint:Nat}{Q:Option Nat->bJ->Prop}(hc:Cm prog w A s kd f n r)(hk:kindOf st=kd)(hX:∀x∈X,x<n)(BB:key<n)(hm:b+m<=X.length)(hh:hint<m)
  (mono:∀i j,i<=j->j<m->lk r left key (X.getD (b+j) 0)=true->lk r left key (X.getD (b+i) 0)=true)
  (h:∀k,k<=m->(∀i,i<k->lk r left key (X.getD (b+i) 0)=true)->(∀i,k<=i->i<m->lk r left key (X.getD (b+i) 0)=false)->Q (some k) st) :
  wpS (aD prog w) A E s (gal left (f key) (arr f X) b m hint) Q st:=by
 have look:∀{i:Nat} {Q:Option Bool->bJ->Prop},i<m->Q (some (lk r left key (X.getD (b+i) 0))) st->wpS (aD prog w) A E s (bey left (f key) (arr f X) b i) Q st:=fun {i Q} hi q=>by
  have e:X[b+i]?=some (X.getD (b+i) 0):=by
   have:b+i<X.length:=by lia
   simp[this]
  exact Wi hc hk hX BB e q
 generalize hB:(fun i=>lk r left key (X.getD (b+i) 0))=B at *;have hB':∀i,lk r left key (X.getD (b+i) 0)=B i:=fun i=>by rw[<- hB]
 simp only[hB']at mono h look;have step:∀{Q:Option (Option Nat)×Nat×Nat->bJ->Prop} {g:Nat->Option (Option Nat)×Nat×Nat->StateT bJ Sem (ForInStep (Option (Option Nat)×Nat×Nat))},True:=fun {_ _}=>trivial;refine aM (look hh ?_);cases hr:B hint with
 | true=>
  dsimp only;rw[aM4 rfl];refine aM (UK (m:=m) (D:=fun o=>B (hint+o)) (mx:=m-hint) (by lia) (fun x l o Q ho q1 q2 q3=>?_) hr (by lia) fun l o a1 a2 a3 a4=>?_);dsimp only;by_cases z:o ≥ m-hint;rw[aM4 z];exact aP (q1 z);rw[aM5 z];refine aM (look (i:=hint+o) (by lia) ?_);cases q:B (hint+o)with
  | true=>simp only[j6,dj,aN2];exact aP (q3 (by lia) q)
  | false=>simp only[Bk,aN3];exact aP (q2 (by lia) q)
  dsimp only;refine aM (UJ (m:=m) mono (fun x lo hi Q g1 g2 q1 q2 q3=>?_) (by lia) (by lia) (fun i hi=>mono i (hint+l) (by lia) (by lia) a3) (fun i h1 h2=>?_) fun k k1 k2 k3=>aP (h k k1 k2 k3));dsimp only;by_cases z:lo ≥ hi;rw[aM4 z];exact aP (q1 z);rw[aM5 z];refine aM (look (i:=lo+(hi - lo) / 2) (by lia) ?_);cases q:B (lo+(hi-lo) / 2)with
  | true=>dsimp only;rw[if_pos rfl];exact aP (q2 (by lia) q)
  | false=>dsimp only;rw[if_neg (by simp)];exact aP (q3 (by lia) q)
  rcases a4 with a4 | a4;lia;cases q:B i with
  | false=>rfl
  | true=>rw[mono (hint+o) i (by lia) h2 q]at a4;cases a4
 | false=>
  dsimp only;rw[aM5 (by simp)];refine aM (UK (m:=m) (D:=fun o=>!B (hint-o)) (mx:=hint+1) (by lia) (fun x l o Q ho q1 q2 q3=>?_) (by simp[hr]) (by lia) fun l o a1 a2 a3 a4=>?_);dsimp only;by_cases z:o ≥ hint+1;rw[aM4 z];exact aP (q1 z);rw[aM5 z];refine aM (look (i:=hint-o) (by lia) ?_);cases q:B (hint-o)with
  | true=>dsimp only;rw[if_pos rfl];exact aP (q2 (by lia) (by simp[q]))
  | false=>dsimp only;rw[if_neg (by simp)];exact aP (q3 (by lia) (by simp[q]))
  dsimp only;have a3:B (hint-l)=false:=by simpa using a3
  refine aM (UJ (m:=m) mono (fun x lo hi Q g1 g2 q1 q2 q3=>?_) (by lia) (by lia) (fun i hi=>?_) (fun i h1 h2=>?_) fun k k1 k2 k3=>aP (h k k1 k2 k3));dsimp only;by_cases z:lo ≥ hi;rw[aM4 z];exact aP (q1 z);rw[aM5 z];refine aM (look (i:=lo+(hi - lo) / 2) (by lia) ?_);cases q:B (lo+(hi-lo) / 2)with
  | true=>dsimp only;rw[if_pos rfl];exact aP (q2 (by lia) q)
  | false=>dsimp only;rw[if_neg (by simp)];exact aP (q3 (by lia) q)
  rcases a4 with a4 | a4;lia;have a4:B (hint-o)=true:=by simpa using a4
  by_cases z:o<=hint;exact mono i (hint-o) (by lia) (by lia) a4;lia;cases q:B i with
  | false=>rfl
  | true=>rw[mono (hint-l) i h1 h2 q]at a3;cases a3
end
end
noncomputable section
structure MI(le:Nat->Nat->Prop)(T O xs ys:List Nat):Prop where
 pm:(O++(xs++ys)).Perm T
 so:O.Pairwise le
 sx:xs.Pairwise le
 sy:ys.Pairwise le
 ox:∀o∈O,∀x∈xs,le o x
 oy:∀o∈O,∀y∈ys,le o y
def Dn(le:Nat->Nat->Prop)(T Z:List Nat):Prop:=Z.Perm T/\Z.Pairwise le
section
theorem MI.tx(h:MI le T O (u++xs) ys)(hu:∀x∈u,∀y∈ys,le x y):MI le T (O++u) xs ys:=by
 have sx:=xq.mp h.sx;refine⟨by have:=h.pm;simpa[fP]using this,xq.mpr ⟨h.so,sx.1,fun o ho x hx=>h.ox o ho x (Aa _ hx)⟩,sx.2.1,h.sy,fun o ho x hx=>?_,fun o ho y hy=>?_⟩;rcases gH.mp ho with ho | ho;exact h.ox o ho x (mY _ hx);exact sx.2.2 o ho x hx;rcases gH.mp ho with ho | ho;exact h.oy o ho y hy;exact hu o ho y hy
theorem MI.swap(h:MI le T O xs ys):MI le T O ys xs:=⟨(N9 O List.perm_append_comm).trans h.pm,h.so,h.sy,h.sx,h.oy,h.ox⟩
theorem MI.ty(h:MI le T O xs (u++ys))(hu:∀y∈u,∀x∈xs,le y x):MI le T (O++u) xs ys:=(h.swap.tx hu).swap
theorem MI.fin(h:MI le T O xs ys)(hu:∀x∈xs,∀y∈ys,le x y):Dn le T (O++xs++ys):=
 ⟨by rw[fP];exact h.pm,xq.mpr ⟨xq.mpr ⟨h.so,h.sx,h.ox⟩,h.sy,fun o ho y hy=>by
  rcases gH.mp ho with ho | ho;exact h.oy o ho y hy;exact hu o ho y hy⟩⟩
theorem MI.ag2(h:MI le T O xs ys)(hu:∀y∈ys,∀x∈xs,le y x):Dn le T (O++ys++xs):=h.swap.fin hu
end
section
abbrev Le(r:Nat->Nat):Nat->Nat->Prop:=fun a b=>r a<=r b
theorem jz{X:List Nat}(h:X.Pairwise (Le r))(nD:i<=j)(hj:j<X.length):r (X.getD i 0)<=r (X.getD j 0):=by
 have e:∀k (hk:k<X.length),X.getD k 0=X[k]:=fun k hk=>by simp[hk]
 rw[e i (by lia),e j hj];by_cases c:i=j;subst c;exact bg _;exact qX.mp h i j (by lia) hj (by lia)
theorem Iu{X:List Nat}(h:i<X.length):X.drop i=X.getD i 0::X.drop (i+1):=by
 rw[uA h];simp[h]
theorem jA{X:List Nat}(h:x∈X.drop i):∃j,i<=j/\j<X.length/\x=X.getD j 0:=by
 obtain⟨k,hk,e⟩:=j4.mp h;rw[xo]at hk;exact⟨i+k,by lia,by lia,by rw[<- e];simp[show i+k<X.length by lia]⟩
theorem Iv{X:List Nat}(hk:i+k<=X.length)(h:x∈X.extract i (i+k)):∃j,j<k/\x=X.getD (i+j) 0:=by
 obtain⟨q,hq,e⟩:=j4.mp h;have:q<k:=by simp[gx]at hq;lia
 refine⟨q,this,?_⟩;rw[<- e];simp[gx,show i+q<X.length by lia]
theorem ye{X:List Nat}:X.drop i=X.extract i (i+k)++X.drop (i+k):=by
 rw[gx,show i+k-i=k by lia,<- List.drop_drop,nJ]
theorem wF{X:List Nat}:X.extract i X.length=X.drop i:=by
 rw[gx,uB (by simp)]
theorem get_some{X:List Nat}(h:i<X.length):X[i]?=some (X.getD i 0):=by simp[h]
theorem get_mem{X:List Nat}(h:i<X.length):X.getD i 0∈X:=iM (get_some h)
structure LI(r:Nat->Nat)(X Y O:List Nat)(ia ib:Nat):Prop where
 a:ia+1<X.length
 b:ib<Y.length
 l:O.length=ia+ib
 m:MI (Le r) (X++Y) O (X.drop ia) (Y.drop ib)
end
def aI(st st':bJ):Prop:=∃g,st'=SortSt.mk' (kindOf st) (arrOf st) (pendingOf st) g (failedOf st)
theorem aI.refl(st:bJ):aI st st:=⟨gallopOf st,rfl⟩
theorem aI.kd{st st':bJ}(h:aI st st'):kindOf st'=kindOf st:=by obtain⟨g,rfl⟩:=h;rfl
theorem aI.mg{st st':bJ}(h:aI st st')(g:Nat):aI st (SortSt.mk' (kindOf st') (arrOf st') (pendingOf st') g (failedOf st')):=by obtain⟨g',rfl⟩:=h;exact⟨g,rfl⟩
section
variable {kd:iO}{st:bJ}
theorem bD[Decidable c](h1:c->wpS (aD prog w) A E s a Q st)(h2:¬ c->wpS (aD prog w) A E s b Q st):wpS (aD prog w) A E s (if c then a else b) Q st:=by
 by_cases h:c;rw[aM4 h];exact h1 h;rw[aM5 h];exact h2 h
theorem R5:lk r false key x=true↔r x<=r key:=by simp[lk]
theorem Wk:lk r false key x=false↔r key<r x:=by simp[lk]
theorem RN:lk r true key x=true↔r x<r key:=by simp[lk]
theorem RO:lk r true key x=false↔r key<=r x:=by simp[lk]
theorem R6(e:o=arr f O):o.push (f y)=arr f (O++[y]):=by rw[e,gh]
theorem q9{Q:Unit->bJ->Prop}(h:Q () st):wpS (aD prog w) A E s (liftM (rule x)) Q st:=wpS_lift (wX ⟨rfl,h⟩)
theorem Wl{Q:Array Keyed->bJ->Prop}(hc:Cm prog w A s kd f n r)(hk:kindOf st=kd)(hX:∀x∈X,x<n)(hY:∀y∈Y,y<n)(sX:X.Pairwise (Le r))(sY:Y.Pairwise (Le r))(lX:0<X.length)(lY:0<Y.length)
  (h0:∀x∈X,r (Y.getD 0 0)<=r x) (hl:∀y∈Y,r y<=r (X.getD (X.length-1) 0)) (h:∀Z st',aI st st'->Dn (Le r) (X++Y) Z->Q (arr f Z) st') :
  wpS (aD prog w) A E s (mlo (arr f X) (arr f Y)) Q st:=by
 have zX:∀{i:Nat},(i==(arr f X).size)=true->i=X.length:=fun z=>by rw[<- cP (f:=f) X];exact aM8.mp z
 have zY:∀{i:Nat},(i==(arr f Y).size)=true->i=Y.length:=fun z=>by rw[<- cP (f:=f) Y];exact aM8.mp z
 have zX':∀{i:Nat},¬ (i==(arr f X).size)=true->i≠X.length:=fun z e=>z (by rw[cP];exact aM8.mpr e);have zY':∀{i:Nat},¬ (i==(arr f Y).size)=true->i≠Y.length:=fun z e=>z (by rw[cP];exact aM8.mpr e);let Gd:Array Keyed->Prop:=fun res=>∃Z,res=arr f Z/\Dn (Le r) (X++Y) Z;have yf:∀{O ia ib o},o=arr f O->MI (Le r) (X++Y) O (X.drop ia) (Y.drop ib)->(ia=X.length\/ib=Y.length)->Gd (o++(arr f X).extract ia (arr f X).size++(arr f Y).extract ib (arr f Y).size):=fun {O ia ib o} e m q=>by refine⟨O++X.drop ia++Y.drop ib,?_,m.fin fun x hx y hy=>?_⟩;rw[e,gV,gV,cP,cP,wF,wF,iY,iY];rcases q with q | q;rw[q,B9]at hx;cases hx;rw[q,B9]at hy;cases hy
 have BK:∀{O ia ib o},o=arr f O->MI (Le r) (X++Y) O (X.drop ia) (Y.drop ib)->ia+1=X.length->Gd (o++(arr f Y).extract ib (arr f Y).size++(arr f X).extract ia (arr f X).size):=fun {O ia ib o} e m q=>by refine⟨O++Y.drop ib++X.drop ia,?_,m.ag2 fun y hy x hx=>?_⟩;rw[e,gV,gV,cP,cP,wF,wF,iY,iY];obtain ⟨j,j1,j2,rfl⟩:=jA hx;rw[show j=X.length-1 by lia];exact hl y (uC hy)
 have gX:∀i,i < X.length->X.getD i 0 < n:=fun i hi=>hX _ (get_mem hi);have gY:∀i,i < Y.length->Y.getD i 0 < n:=fun i hi=>hY _ (get_mem hi);have YK:∀{O ia ib},ia<X.length->MI (Le r) (X++Y) O (X.drop ia) (Y.drop ib)->(∀y∈Y.drop ib,r (X.getD ia 0)<=r y)->MI (Le r) (X++Y) (O++[X.getD ia 0]) (X.drop (ia+1)) (Y.drop ib):=fun {O ia ib} hi m q=>by rw[Iu hi] at m;exact MI.tx (u:=[X.getD ia 0]) m fun x hx y hy=>by rw[eY.mp hx];exact q y hy
 have YL:∀{O ia ib},ib<Y.length->MI (Le r) (X++Y) O (X.drop ia) (Y.drop ib)->(∀x∈X.drop ia,r (Y.getD ib 0)<=r x)->MI (Le r) (X++Y) (O++[Y.getD ib 0]) (X.drop ia) (Y.drop (ib+1)):=fun {O ia ib} hi m q=>by rw[Iu hi] at m;exact MI.ty (u:=[Y.getD ib 0]) m fun x hx y hy=>by rw[eY.mp hx];exact q y hy
 have M0:MI (Le r) (X++Y) [Y.getD 0 0] (X.drop 0) (Y.drop 1):=
  YL (O:=[]) lY ⟨by simp,.nil,sX,sY,fun o ho=>aN6 ho fQ,fun o ho=>aN6 ho fQ⟩ fun x hx=>h0 x hx
 refine aM (q9 (aM (dB (get_some lY) (bD (fun z=>?_) fun z1=>bD (fun z=>?_) fun z2=>aM (mH (aM ?_))))));obtain⟨Z,e,d⟩:=yf (o:=#[f (Y.getD 0 0)]) rfl M0 (.inr (zY z));have q:=h Z st (.refl _) d;rw[<- e] at q;exact aP q;obtain⟨Z,e,d⟩:=BK (o:=#[f (Y.getD 0 0)]) rfl M0 (zX z);have q:=h Z st (.refl _) d;rw[<- e] at q;exact aP q;have z1:=zY' z1;have z2:=zX' z2;refine ku (j5 (I:=fun x c st'=>aI st st'/\c.1=none/\∃O,c.2.1=arr f O/\LI r X Y O c.2.2.1 c.2.2.2.1/\x+1<=O.length) (Q:=fun c st'=>aI st st'/\∃res,c.1=some res/\Gd res) ?step ?fin ⟨.refl _,rfl,[Y.getD 0 0],rfl,⟨by show 0+1<_;lia,by show 1<_;lia,rfl,M0⟩,bg _⟩) ?post;case post=>rintro ⟨_,c⟩ st' ⟨S,_,rfl,Z,rfl,d⟩;exact aP (h Z st' S d)
 case fin=>rintro⟨_,_,ia,ib,mg⟩ st' ⟨_,rfl,O,rfl,L,hO⟩;have:=L.a;have:=L.b;have:=L.l;rw[cP,cP]at hO;dsimp only at *;lia
 case step=>
  rintro x ⟨_,_,ia,ib,mg⟩ k8 _ hx ⟨S1,rfl,O,rfl,L,hO⟩;refine aM (ku (j5 (I:=fun z c st'=>aI st st'/\c.1=none/\∃O',c.2.1=arr f O'/\LI r X Y O' c.2.2.1 c.2.2.2.1/\O.length+z<=O'.length)
   (Q:=fun c st'=>aI st st'/\((∃res,c.1=some res/\Gd res)\/c.1=none/\∃O',c.2.1=arr f O'/\LI r X Y O' c.2.2.1 c.2.2.2.1/\O.length+1<=O'.length)) ?s1 ?f1 ⟨S1,rfl,O,rfl,L,bg _⟩) ?p1)
  case f1=>rintro⟨_,_,ia,ib,ac,bc⟩ st' ⟨S2,rfl,O',rfl,L',RP⟩;exact⟨S2,.inr ⟨rfl,O',rfl,L',by rw[cP,cP]at RP;lia⟩⟩
  case s1=>
   rintro z ⟨_,_,ia,ib,ac,bc⟩ mO _ hz ⟨S2,rfl,O',rfl,L',RP⟩;have la:ia+1<X.length:=L'.a;have lb:ib<Y.length:=L'.b;have ll:O'.length=ia+ib:=L'.l;have lm:MI (Le r) (X++Y) O' (X.drop ia) (Y.drop ib):=L'.m;refine aM (dB (get_some lb) (aM (dB (get_some (show ia<X.length by lia)) (aM (Dh hc (S2.kd.trans hk) (gY ib lb) (gX ia (by lia)) (bD (fun cw=>?_) fun cw=>?_))))));have cw:r (Y.getD ib 0)<r (X.getD ia 0):=aN0 cw;have M2:=YL lb lm fun x hx=>by obtain⟨j,j1,j2,rfl⟩:=jA hx;have:=jz sX j1 j2;lia
   refine aM (dB (get_some lb) (bD (fun c3=>aP ⟨S2,.inl ⟨_,rfl,yf (gh _ _) M2 (.inr (zY c3))⟩⟩) fun c3=>?_));have c3:ib+1≠Y.length:=zY' c3;have L2:LI r X Y (O'++[Y.getD ib 0]) ia (ib+1):=⟨la,by lia,by rw[cG,ll];simp;lia,M2⟩
   refine bD (fun c4=>aP ⟨S2,.inr ⟨rfl,_,gh _ _,L2,?_⟩⟩) fun c4=>aP ⟨S2,rfl,_,gh _ _,L2,?_⟩ <;> (rw[cG];simp;lia)
   have cw:¬ r (Y.getD ib 0)<r (X.getD ia 0):=fun z=>cw (aM6 z);have M2:=YK (show ia<X.length by lia) lm fun y hy=>by obtain⟨j,j1,j2,rfl⟩:=jA hy;have:=jz sY j1 j2;lia
   refine aM (dB (get_some (show ia<X.length by lia)) (bD (fun c3=>aP ⟨S2,.inl ⟨_,rfl,BK (gh _ _) M2 (zX c3)⟩⟩) fun c3=>?_));have c3:ia+1+1≠X.length:=zX' c3;have L2:LI r X Y (O'++[X.getD ia 0]) (ia+1) ib:=⟨by lia,lb,by rw[cG,ll];simp;lia,M2⟩
   refine bD (fun c4=>aP ⟨S2,.inr ⟨rfl,_,gh _ _,L2,?_⟩⟩) fun c4=>aP ⟨S2,rfl,_,gh _ _,L2,?_⟩ <;> (rw[cG];simp;lia)
  case p1=>
   rintro⟨_,_,ia,ib,ac,bc⟩ mO ⟨S2,⟨res,rfl,d⟩|⟨rfl,O',rfl,L',RP⟩⟩;exact aP ⟨S2,res,rfl,d⟩;refine aM (q9 (aM (ku (j5 (I:=fun z c st'=>aI st st'/\c.1=none/\∃lU,c.2.1=arr f lU/\LI r X Y lU c.2.2.1 c.2.2.2.1/\O.length+1<=lU.length)
    (Q:=fun c st'=>aI st st'/\((∃res,c.1=some res/\Gd res)\/c.1=none/\∃lU,c.2.1=arr f lU/\LI r X Y lU c.2.2.1 c.2.2.2.1/\O.length+1<=lU.length)) ?s2 ?f2 ⟨S2,rfl,O',rfl,L',RP⟩) ?p2)))
   case f2=>rintro⟨_,_,ia,ib,mg,ac,bc⟩ st' ⟨S3,rfl,lU,rfl,BL,GI⟩;exact⟨S3,.inr ⟨rfl,lU,rfl,BL,GI⟩⟩
   case p2=>rintro⟨_,_,ia,ib,mg,ac,bc⟩ By ⟨S3,⟨res,rfl,d⟩|⟨rfl,lU,rfl,BL,GI⟩⟩;exact aP ⟨S3,res,rfl,d⟩;exact aM (BJ (aP ⟨S3.mg _,rfl,lU,rfl,BL,by lia⟩))
   case s2=>
    rintro z ⟨_,_,ia,ib,mg',ac,bc⟩ By _ hz ⟨S3,rfl,lU,rfl,BL,GI⟩;have la:ia+1<X.length:=BL.a;have lb:ib<Y.length:=BL.b;have ll:lU.length=ia+ib:=BL.l;have lm:MI (Le r) (X++Y) lU (X.drop ia) (Y.drop ib):=BL.m;refine bD (fun cg=>?_) fun cg=>?_;all_goals
     refine aM (BJ (aM (dB (get_some lb) (aM (uU (b:=ia) (key:=Y.getD ib 0) (m:=(arr f X).size-ia) hc ((S3.mg _).kd.trans hk) hX (gY ib lb) (by rw[cP];lia) (by rw[cP];lia) (fun i j nD hj q=>?_) fun k k1 k2 k3=>?_)))))
     ·rw[cP] at hj
      exact R5.mpr (cI (jz sX (show ia+i<=ia+j by lia) (by lia)) (R5.mp q))
     rw[cP]at k1 k3
     have M2:MI (Le r) (X++Y) (lU++X.extract ia (ia+k)) (X.drop (ia+k)) (Y.drop ib):=by
      have m:=lm
      rw[ye (i:=ia) (k:=k)]at m
      refine m.tx fun x hx y hy=>?_
      obtain⟨j,j1,rfl⟩:=Iv (by lia) hx
      obtain⟨j',j2,j3,rfl⟩:=jA hy
      exact cI (R5.mp (k2 j j1)) (jz sY j2 j3)
     have Mx:∀x∈X.drop (ia+k),r (Y.getD ib 0)<=r x:=fun x hx=>by
      obtain ⟨j,j1,j2,rfl⟩:=jA hx
      have:=k3 (j-ia) (by lia) (by lia)
      rw[show ia+(j-ia)=j by lia]at this
      exact ji (Wk.mp this)
     have l1:(lU++X.extract ia (ia+k)).length=ia+k+ib:=by rw[cG,ll];simp[gx];lia
     have l2:O.length+1<=(lU++X.extract ia (ia+k)).length:=by lia
     have e2:arr f lU++(arr f X).extract ia (ia+k)=arr f (lU++X.extract ia (ia+k)):=by rw[gV,iY]
     have e0:k=0->arr f lU=arr f (lU++X.extract ia (ia+k)):=fun z=>by rw[z];simp[gx]
     generalize lU++X.extract ia (ia+k)=O1 at *
     have M3:=YL lb M2 Mx
     have gB:∀x∈X.drop (ia+k),r (X.getD (ia+k) 0)<=r x:=fun x hx=>by obtain⟨j,j1,j2,rfl⟩:=jA hx;exact jz sX j1 j2
     refine bD (fun ck=>bD (fun c3=>aP ⟨S3.mg _,.inl ⟨_,rfl,BK e2 M2 (zX c3)⟩⟩) fun c3=>bD (fun c4=>aP ⟨S3.mg _,.inl ⟨_,rfl,yf e2 M2 (.inl (zX c4))⟩⟩) fun c4=>?_) fun ck=>?_
     have O6:ia+k+1<X.length:=by
      have c3:ia+k+1≠X.length:=zX' c3
      have c4:ia+k≠X.length:=zX' c4
      lia
     have eo:=e2
     rotate_left
     obtain rfl:k=0:=by
      have:¬ k > 0:=ck
      lia
     have O6:ia+0+1<X.length:=la
     have eo:=e0 rfl
     all_goals
      refine aM (dB (get_some lb) (bD (fun c5=>aP ⟨S3.mg _,.inl ⟨_,rfl,yf (R6 eo) M3 (.inr (zY c5))⟩⟩) fun c5=>?_))
      have c5:ib+1≠Y.length:=zY' c5
      refine aM (dB (get_some (uv O6)) (aM (uU (b:=ib+1) (m:=(arr f Y).size-(ib+1)) hc ((S3.mg _).kd.trans hk) hY (gX _ (uv O6)) (by rw[cP];lia) (by rw[cP];lia) (fun i j nD hj q=>?_) fun k' YM YN UL=>?_)))
      ·rw[cP] at hj
       exact RN.mpr (qV (jz sY (show ib+1+i<=ib+1+j by lia) (by lia)) (RN.mp q))
      rw[cP]at YM UL
      have l3:(O1++[Y.getD ib 0]++Y.extract (ib+1) (ib+1+k')).length=O1.length+1+k':=by simp[gx];lia
      have M4:=ye (X:=Y) (i:=ib+1) (k:=k')▸M3
      have M4:=M4.ty fun y hy x hx=>by
       obtain⟨j,j1,rfl⟩:=Iv (by lia) hy
       exact cI (ji (RN.mp (YN j j1))) (gB x hx)
      have My:=fun y (hy:y∈Y.drop (ib+1+k'))=>show r (X.getD _ 0)<=r y by
       obtain ⟨j,j1,j2,rfl⟩:=jA hy
       have q:=UL (j-(ib+1)) (by lia) (by lia)
       rw[show ib+1+(j-(ib+1))=j by lia]at q
       exact RO.mp q
      have M5:=YK (uv O6) M4 My
      have e4:(arr f (O1++[Y.getD ib 0]))++(arr f Y).extract (ib+1) (ib+1+k')=arr f (O1++[Y.getD ib 0]++Y.extract (ib+1) (ib+1+k')):=by rw[gV,iY]
      have e5:k'=0->arr f (O1++[Y.getD ib 0])=arr f (O1++[Y.getD ib 0]++Y.extract (ib+1) (ib+1+k')):=fun z=>by rw[z];simp[gx]
      generalize O1++[Y.getD ib 0]++Y.extract (ib+1) (ib+1+k')=O4 at *
      rw[<- R6 eo] at e4 e5
      refine bD (fun ck=>bD (fun c6=>aP ⟨S3.mg _,.inl ⟨_,rfl,yf e4 M4 (.inr (zY c6))⟩⟩) fun c6=>?_) fun ck=>?_
      have Wm:ib+1+k'<Y.length:=by
       have c6:ib+1+k'≠Y.length:=zY' c6
       lia
      have eo:=e4
      rotate_left
      obtain rfl:k'=0:=by
       have:¬ k' > 0:=ck
       lia
      have Wm:ib+1+0<Y.length:=by lia
      have eo:=e5 rfl
      all_goals
       refine aM (dB (get_some (uv O6)) (bD (fun c7=>aP ⟨S3.mg _,.inl ⟨_,rfl,BK (R6 eo) M5 (zX c7)⟩⟩) fun c7=>?_))
       have c7:=zX' c7
       refine bD (fun _=>aP ⟨S3.mg _,.inr ⟨rfl,_,R6 eo,⟨M6 O6 c7,Wm,?_,M5⟩,?_⟩⟩) fun _=>aP ⟨S3.mg _,rfl,_,R6 eo,⟨M6 O6 c7,Wm,?_,M5⟩,?_⟩ <;> (rw[cG,l3,l1];simp;lia)
end
end
noncomputable section
section
abbrev Ge(r:Nat->Nat):Nat->Nat->Prop:=fun a b=>r b<=r a
abbrev tr(X:List Nat)(i:Nat):List Nat:=(X.take i).reverse
theorem UM{X:List Nat}(h0:0<i)(h:i<=X.length):tr X i=X.getD (i-1) 0::tr X (i-1):=by
 obtain⟨j,rfl⟩:∃j,i=j+1:=⟨i-1,by lia⟩
 rw[tr,List.take_succ_eq_append_getElem (by lia),Mq];simp[show j<X.length by lia]
theorem Di(h:k<=i):tr X i=(X.extract k i).reverse++tr X k:=by
 rw[tr,tr,<- Mq,gx,<- List.take_add,show k+(i-k)=i by lia]
theorem rF(h:x∈tr X i):∃j,j<i/\j<X.length/\x=X.getD j 0:=by
 obtain⟨k,hk,e⟩:=j4.mp (uD.mp h);rw[l8]at hk;exact⟨k,by lia,by lia,by rw[<- e];simp[show k<X.length by lia]⟩
theorem O7{X:List Nat}(hi:i<=X.length)(h:x∈(X.extract k i).reverse):∃j,k<=j/\j<i/\x=X.getD j 0:=by
 obtain⟨q,hq,e⟩:=j4.mp (uD.mp h);have RL:q<i-k:=by simp[gx]at hq;lia
 refine⟨k+q,by lia,by lia,?_⟩;rw[<- e];simp[gx,show k+q<X.length by lia]
theorem sP{X:List Nat}:X.extract 0 i=X.take i:=by simp[gx]
structure HI(r:Nat->Nat)(X Y O:List Nat)(na nb:Nat):Prop where
 a:0<na
 a':na<=X.length
 b:1<nb
 b':nb<=Y.length
 l:O.length+na+nb=X.length+Y.length
 m:MI (Ge r) (X++Y) O (tr X na) (tr Y nb)
end
section
variable {kd:iO}{st:bJ}
theorem Wn{Q:Array Keyed->bJ->Prop}(hc:Cm prog w A s kd f n r)(hk:kindOf st=kd)(hX:∀x∈X,x<n)(hY:∀y∈Y,y<n)(sX:X.Pairwise (Le r))(sY:Y.Pairwise (Le r))(lX:0<X.length)(lY:0<Y.length)
  (h0:∀x∈X,r (Y.getD 0 0)<=r x) (hl:∀y∈Y,r y<=r (X.getD (X.length-1) 0)) (h:∀Z st',aI st st'->Dn (Le r) (X++Y) Z->Q (arr f Z) st') :
  wpS (aD prog w) A E s (mhi (arr f X) (arr f Y)) Q st:=by
 let Gd:Array Keyed->Prop:=fun res=>∃Z,res=arr f Z/\Dn (Le r) (X++Y) Z;have rv:∀{Z},Dn (Ge r) (X++Y) Z->Dn (Le r) (X++Y) Z.reverse:=fun d=>⟨(Fz _).trans d.1,FA.mpr d.2⟩
 have yf:∀{O na nb o},o=arr f O->MI (Ge r) (X++Y) O (tr X na) (tr Y nb)->(na=0\/nb=0)->Gd ((arr f X).extract 0 na++(arr f Y).extract 0 nb++o.reverse):=fun {O na nb o} e m q=>by refine⟨(O++tr Y nb++tr X na).reverse,?_,rv (m.ag2 fun y hy x hx=>?_)⟩;rw[e,gV,gV,wD,sP,sP,iY,iY];simp[tr];rcases q with q | q;rw[q]at hx;simp[tr]at hx;rw[q]at hy;simp[tr]at hy
 have BK:∀{O na nb o},o=arr f O->MI (Ge r) (X++Y) O (tr X na) (tr Y nb)->nb=1->Gd ((arr f Y).extract 0 nb++(arr f X).extract 0 na++o.reverse):=fun {O na nb o} e m q=>by refine⟨(O++tr X na++tr Y nb).reverse,?_,rv (m.fin fun x hx y hy=>?_)⟩;rw[e,gV,gV,wD,sP,sP,iY,iY];simp[tr];obtain ⟨j,j1,j2,rfl⟩:=rF hy;rw[show j=0 by lia];exact h0 x (oQ (uD.mp hx))
 have gX:∀i,i < X.length->X.getD i 0 < n:=fun i hi=>hX _ (get_mem hi);have gY:∀i,i < Y.length->Y.getD i 0 < n:=fun i hi=>hY _ (get_mem hi);have YK:∀{O na nb},0<na->na<=X.length->MI (Ge r) (X++Y) O (tr X na) (tr Y nb)->(∀y∈tr Y nb,r y<=r (X.getD (na-1) 0))->MI (Ge r) (X++Y) (O++[X.getD (na-1) 0]) (tr X (na-1)) (tr Y nb):=fun {O na nb} hi Wj m q=>by rw[UM hi Wj] at m;exact MI.tx (u:=[X.getD (na-1) 0]) m fun x hx y hy=>by rw[eY.mp hx];exact q y hy
 have YL:∀{O na nb},0<nb->nb<=Y.length->MI (Ge r) (X++Y) O (tr X na) (tr Y nb)->(∀x∈tr X na,r x<=r (Y.getD (nb-1) 0))->MI (Ge r) (X++Y) (O++[Y.getD (nb-1) 0]) (tr X na) (tr Y (nb-1)):=fun {O na nb} hi Wj m q=>by rw[UM hi Wj] at m;exact MI.ty (u:=[Y.getD (nb-1) 0]) m fun x hx y hy=>by rw[eY.mp hx];exact q y hy
 have upX:∀{na x},na<=X.length->x∈tr X na->r x<=r (X.getD (na-1) 0):=fun {na x} hi hx=>by obtain⟨j,j1,j2,rfl⟩:=rF hx;exact jz sX (by lia) (by lia)
 have upY:∀{nb y},nb<=Y.length->y∈tr Y nb->r y<=r (Y.getD (nb-1) 0):=fun {nb y} hi hy=>by obtain⟨j,j1,j2,rfl⟩:=rF hy;exact jz sY (by lia) (by lia)
 have M0:MI (Ge r) (X++Y) [X.getD (X.length-1) 0] (tr X (X.length-1)) (tr Y Y.length):=
  YK (O:=[]) lX (bg _) ⟨by simp only[tr,xr,gf];exact(Fz _).append (Fz _),.nil,by simpa only[tr,xr]using FA.mpr sX,by simpa only[tr,xr]using FA.mpr sY,fun o ho=>aN6 ho fQ,fun o ho=>aN6 ho fQ⟩ fun y hy=>hl y (oQ (uD.mp hy))
 have sx:=cP (f:=f) X;have sy:=cP (f:=f) Y;refine aM (q9 (aM (dB (i:=(arr f X).size-1) (by rw[sx];exact get_some (by lia)) (bD (fun z=>?_) fun z1=>bD (fun z=>?_) fun z2=>aM (mH (aM ?_))))));obtain⟨Z,e,d⟩:=yf (o:=#[f (X.getD (X.length-1) 0)]) rfl M0 (.inl (by rw[<- sx];exact aM8.mp z));have q:=h Z st (.refl _) d;rw[<- e] at q;exact aP (by rw[sx,sy];exact q);obtain⟨Z,e,d⟩:=BK (o:=#[f (X.getD (X.length-1) 0)]) rfl M0 (by rw[<- sy];exact aM8.mp z);have q:=h Z st (.refl _) d;rw[<- e] at q;exact aP (by rw[sx,sy];exact q);have z1:X.length-1≠0:=fun e=>z1 (by show((arr f X).size-1==0)=true;rw[sx];exact aM8.mpr e);have z2:Y.length≠1:=fun e=>z2 (by rw[sy];exact aM8.mpr e);refine ku (j5 (I:=fun x c st'=>aI st st'/\c.1=none/\∃O,c.2.2.2.1=arr f O/\HI r X Y O c.2.1 c.2.2.1/\x+1<=O.length) (Q:=fun c st'=>aI st st'/\∃res,c.1=some res/\Gd res) ?step ?fin ?init) ?post;case init=>exact⟨.refl _,rfl,[X.getD (X.length-1) 0],rfl,by
  show HI r X Y _ ((arr f X).size-1) (arr f Y).size;rw[sx,sy];exact⟨by lia,by lia,by lia,bg _,by simp;lia,M0⟩,bg _⟩
 case post=>rintro ⟨_,c⟩ st' ⟨S,_,rfl,Z,rfl,d⟩;exact aP (h Z st' S d)
 case fin=>rintro⟨_,na,nb,_,mg⟩ st' ⟨_,rfl,O,rfl,L,hO⟩;have:=L.a;have:=L.b;have:=L.l;rw[sx,sy]at hO;dsimp only at *;lia
 case step=>
  rintro x ⟨_,na,nb,_,mg⟩ k8 _ hx ⟨S1,rfl,O,rfl,L,hO⟩;refine aM (ku (j5 (I:=fun z c st'=>aI st st'/\c.1=none/\∃O',c.2.2.2.1=arr f O'/\HI r X Y O' c.2.1 c.2.2.1/\O.length+z<=O'.length)
   (Q:=fun c st'=>aI st st'/\((∃res,c.1=some res/\Gd res)\/c.1=none/\∃O',c.2.2.2.1=arr f O'/\HI r X Y O' c.2.1 c.2.2.1/\O.length+1<=O'.length)) ?s1 ?f1 ⟨S1,rfl,O,rfl,L,bg _⟩) ?p1)
  case f1=>rintro⟨_,na,nb,_,ac,bc⟩ st' ⟨S2,rfl,O',rfl,L',RP⟩;exact⟨S2,.inr ⟨rfl,O',rfl,L',by rw[sx,sy]at RP;lia⟩⟩
  case s1=>
   rintro z ⟨_,na,nb,_,ac,bc⟩ mO _ hz ⟨S2,rfl,O',rfl,L',RP⟩;have la:0<na:=L'.a;have R7:na<=X.length:=L'.a';have lb:1<nb:=L'.b;have YO:nb<=Y.length:=L'.b';have ll:O'.length+na+nb=X.length+Y.length:=L'.l;have lm:MI (Ge r) (X++Y) O' (tr X na) (tr Y nb):=L'.m;have ga:na-1<X.length:=by lia
   have gb:nb - 1 < Y.length:=by lia
   refine aM (dB (get_some gb) (aM (dB (get_some ga) (aM (Dh hc (S2.kd.trans hk) (gY (nb-1) gb) (gX (na-1) ga) (bD (fun cw=>?_) fun cw=>?_))))));have cw:r (Y.getD (nb-1) 0)<r (X.getD (na-1) 0):=aN0 cw;have M2:=YK la R7 lm fun y hy=>cI (upY YO hy) (ji cw);refine aM (dB (get_some ga) (bD (fun c3=>aP ⟨S2,.inl ⟨_,rfl,yf (gh _ _) M2 (.inl (aM8.mp c3))⟩⟩) fun c3=>?_));have c3:na-1≠0:=fun e=>c3 (aM8.mpr e);have L2:HI r X Y (O'++[X.getD (na-1) 0]) (na-1) nb:=⟨by lia,by lia,lb,YO,by rw[cG];simp;lia,M2⟩
   refine bD (fun c4=>aP ⟨S2,.inr ⟨rfl,_,gh _ _,L2,?_⟩⟩) fun c4=>aP ⟨S2,rfl,_,gh _ _,L2,?_⟩ <;> (rw[cG];simp;lia)
   have cw:¬ r (Y.getD (nb-1) 0)<r (X.getD (na-1) 0):=fun z=>cw (aM6 z);have M2:=YL (by lia) YO lm fun x hx=>cI (upX R7 hx) (mE cw);refine aM (dB (get_some gb) (bD (fun c3=>aP ⟨S2,.inl ⟨_,rfl,BK (gh _ _) M2 (aM8.mp c3)⟩⟩) fun c3=>?_));have c3:nb-1≠1:=fun e=>c3 (aM8.mpr e);have L2:HI r X Y (O'++[Y.getD (nb-1) 0]) na (nb-1):=⟨la,R7,by lia,by lia,by rw[cG];simp;lia,M2⟩
   refine bD (fun c4=>aP ⟨S2,.inr ⟨rfl,_,gh _ _,L2,?_⟩⟩) fun c4=>aP ⟨S2,rfl,_,gh _ _,L2,?_⟩ <;> (rw[cG];simp;lia)
  case p1=>
   rintro⟨_,na,nb,_,ac,bc⟩ mO ⟨S2,⟨res,rfl,d⟩|⟨rfl,O',rfl,L',RP⟩⟩;exact aP ⟨S2,res,rfl,d⟩;refine aM (q9 (aM (ku (j5 (I:=fun z c st'=>aI st st'/\c.1=none/\∃lU,c.2.2.2.1=arr f lU/\HI r X Y lU c.2.1 c.2.2.1/\O.length+1<=lU.length)
    (Q:=fun c st'=>aI st st'/\((∃res,c.1=some res/\Gd res)\/c.1=none/\∃lU,c.2.2.2.1=arr f lU/\HI r X Y lU c.2.1 c.2.2.1/\O.length+1<=lU.length)) ?s2 ?f2 ⟨S2,rfl,O',rfl,L',RP⟩) ?p2)))
   case f2=>rintro⟨_,na,nb,_,mg,ac,bc⟩ st' ⟨S3,rfl,lU,rfl,BL,GI⟩;exact⟨S3,.inr ⟨rfl,lU,rfl,BL,GI⟩⟩
   case p2=>rintro⟨_,na,nb,_,mg,ac,bc⟩ By ⟨S3,⟨res,rfl,d⟩|⟨rfl,lU,rfl,BL,GI⟩⟩;exact aP ⟨S3,res,rfl,d⟩;exact aM (BJ (aP ⟨S3.mg _,rfl,lU,rfl,BL,by lia⟩))
   case s2=>
    rintro z ⟨_,na,nb,_,mg',ac,bc⟩ By _ hz ⟨S3,rfl,lU,rfl,BL,GI⟩;have la:0<na:=BL.a;have R7:na<=X.length:=BL.a';have lb:1<nb:=BL.b;have YO:nb<=Y.length:=BL.b';have ll:lU.length+na+nb=X.length+Y.length:=BL.l;have lm:MI (Ge r) (X++Y) lU (tr X na) (tr Y nb):=BL.m;have gb:nb - 1 < Y.length:=by lia
    refine bD (fun cg=>?_) fun cg=>?_;all_goals
     refine aM (BJ (aM (dB (get_some gb) (aM (uU (b:=0) (key:=Y.getD (nb-1) 0) (m:=na) (hint:=na-1) hc ((S3.mg _).kd.trans hk) hX (gY (nb-1) gb) (by lia) (by lia) (fun i j nD hj q=>?_) fun k k1 k2 k3=>?_)))))
     ·exact R5.mpr (cI (jz sX (show 0+i<=0+j by lia) (by lia)) (R5.mp q))
     simp only[mF]at k2 k3
     have M2:MI (Ge r) (X++Y) (lU++(X.extract k na).reverse) (tr X k) (tr Y nb):=by
      have m:=lm
      rw[Di k1]at m
      refine m.tx fun x hx y hy=>?_
      obtain⟨j,j1,j2,rfl⟩:=O7 R7 hx
      exact cI (upY YO hy) (ji (Wk.mp (k3 j j1 j2)))
     have Mx:∀x∈tr X k,r x<=r (Y.getD (nb-1) 0):=fun x hx=>by
      obtain⟨j,j1,j2,rfl⟩:=rF hx
      exact R5.mp (k2 j j1)
     have l1:(lU++(X.extract k na).reverse).length+k+nb=X.length+Y.length:=by rw[cG,List.length_reverse];simp[gx];lia
     have l2:O.length+1<=(lU++(X.extract k na).reverse).length:=by lia
     have e2:arr f lU++((arr f X).extract k na).reverse=arr f (lU++(X.extract k na).reverse):=by rw[gV,wD,iY]
     have e0:na=k->arr f lU=arr f (lU++(X.extract k na).reverse):=fun z=>by rw[z];simp[gx]
     generalize lU++(X.extract k na).reverse=O1 at *
     have M3:=YL (by lia) YO M2 Mx
     refine bD (fun ck=>bD (fun c3=>aP ⟨S3.mg _,.inl ⟨_,rfl,yf e2 M2 (.inl (aM8.mp c3))⟩⟩) fun c3=>?_) fun ck=>?_
     have O6:0<k:=by
      have c3:k≠0:=fun e=>c3 (aM8.mpr e)
      lia
     have eo:=e2
     rotate_left
     obtain rfl:na=k:=by
      have:¬ na-k > 0:=ck
      lia
     have O6:=la
     have eo:=e0 rfl
     all_goals
      refine aM (dB (get_some gb) (bD (fun c5=>aP ⟨S3.mg _,.inl ⟨_,rfl,BK (R6 eo) M3 (aM8.mp c5)⟩⟩) fun c5=>?_))
      have c5:nb-1≠1:=fun e=>c5 (aM8.mpr e)
      have ga:=iS (Nat.sub_lt O6 Nat.zero_lt_one) (cI k1 R7)
      refine aM (dB (get_some ga) (aM (uU (b:=0) (m:=nb-1) (hint:=nb-1-1) hc ((S3.mg _).kd.trans hk) hY (gX _ ga) (by lia) (by lia) (fun i j nD hj q=>?_) fun k' YM YN UL=>?_)))
      ·exact RN.mpr (qV (jz sY (show 0+i<=0+j by lia) (by lia)) (RN.mp q))
      simp only[mF]at YN UL
      have l3:(O1++[Y.getD (nb-1) 0]++(Y.extract k' (nb-1)).reverse).length=O1.length+1+(nb-1-k'):=by simp[gx];lia
      have M4:=Di (X:=Y) YM▸M3
      have M4:=M4.ty fun y hy x hx=>by
       obtain⟨j,j1,j2,rfl⟩:=O7 (by lia) hy
       exact cI (upX (cI k1 R7) hx) (RO.mp (UL j j1 j2))
      have My:=fun y (hy:y∈tr Y k')=>show r y<=r (X.getD _ 0) by
       obtain ⟨j,j1,j2,rfl⟩:=rF hy
       exact ji (RN.mp (YN j j1))
      have M5:=YK O6 (cI k1 R7) M4 My
      have e4:arr f (O1++[Y.getD (nb-1) 0])++((arr f Y).extract k' (nb-1)).reverse=arr f (O1++[Y.getD (nb-1) 0]++(Y.extract k' (nb-1)).reverse):=by rw[gV,wD,iY]
      have e5:nb-1=k'->arr f (O1++[Y.getD (nb-1) 0])=arr f (O1++[Y.getD (nb-1) 0]++(Y.extract k' (nb-1)).reverse):=fun z=>by rw[<- z];simp[gx]
      generalize O1++[Y.getD (nb-1) 0]++(Y.extract k' (nb-1)).reverse=O4 at *
      rw[<- R6 eo] at e4 e5
      refine bD (fun ck=>bD (fun c6=>aP ⟨S3.mg _,.inl ⟨_,rfl,BK e4 M4 (aM8.mp c6)⟩⟩) fun c6=>bD (fun c7=>aP ⟨S3.mg _,.inl ⟨_,rfl,yf e4 M4 (.inr (aM8.mp c7))⟩⟩) fun c7=>?_) fun ck=>?_
      have Wm:1<k':=by
       have c6:k'≠1:=fun e=>c6 (aM8.mpr e)
       have c7:k'≠0:=fun e=>c7 (aM8.mpr e)
       lia
      have eo:=e4
      rotate_left
      obtain rfl:nb-1=k':=by
       have:¬ nb-1-k' > 0:=ck
       lia
      have Wm:1<nb-1:=by lia
      have eo:=e5 rfl
      all_goals
       refine aM (dB (get_some ga) (bD (fun c8=>aP ⟨S3.mg _,.inl ⟨_,rfl,yf (R6 eo) M5 (.inl (aM8.mp c8))⟩⟩) fun c8=>?_))
       have c8:=fun e=>c8 (aM8.mpr e)
       refine bD (fun _=>aP ⟨S3.mg _,.inr ⟨rfl,_,R6 eo,⟨Fl c8,cI (Nat.sub_le _ _) (cI k1 R7),Wm,cI YM (by lia),?_,M5⟩,?_⟩⟩) fun _=>aP ⟨S3.mg _,rfl,_,R6 eo,⟨Fl c8,cI (Nat.sub_le _ _) (cI k1 R7),Wm,cI YM (by lia),?_,M5⟩,?_⟩ <;> (rw[cG,l3];simp;lia)
end
end
noncomputable section
theorem O8{B:List Nat}(h:i<B.length):(P++(B++R)).getD (P.length+i) 0=B.getD i 0:=by
 simp[nK,kq,kr,h]
theorem Iw{P B:List Nat}(hi:i=P.length)(hj:j=P.length+B.length):(P++(B++R)).extract i j=B:=by
 subst hi;subst hj;simp[gx]
theorem O9:∀(L U V R:List Keyed) (k:Nat),U.length=sa+k->V.length=L.length->(L.zipIdx k).foldl (fun a (q:Keyed×Nat)=>a.setIfInBounds (sa+q.2) q.1) (U++(V++R)).toArray=(U++(L++R)).toArray
 | [],U,V,R,k,_,hv=>by
  have:V=[]:=oR.mp hv;subst this;rfl
 | l::L,U,[],R,k,_,hv=>by simp at hv
 | l::L,U,v::V,R,k,hu,hv=>by
  rw[List.zipIdx_cons,Mr];have e:(U++(v::V++R)).toArray.setIfInBounds (sa+k) l=((U++[l])++(V++R)).toArray:=by rw[<- hu];simp[List.set_append]
  show List.foldl _ ((U++(v::V++R)).toArray.setIfInBounds (sa+k) l) _=_;rw[e,O9 L (U++[l]) V R (k+1) (by simp;lia) (by simpa using hv)];simp
theorem uV{X Y:List Nat}:(X++Y).Pairwise le↔X.Pairwise le/\Y.Pairwise le/\∀a∈X,∀b∈Y,le a b:=xq
theorem BN{X:List Nat}{x:Nat}(h:x∈X):∃j,j<X.length/\x=X.getD j 0:=by
 obtain⟨j,hj,e⟩:=j4.mp h;exact⟨j,hj,by rw[<- e];simp[hj]⟩
section
variable {kd:iO}
theorem Wo{st st':bJ}{Q:PUnit->bJ->Prop}(h:Q ⟨⟩ st'):wpS (aD prog w) A E s (set st':StateT bJ Sem PUnit) Q st:=by
 unfold wpS;rw[StateT.run_set];exact aC ⟨rfl,h⟩
structure Wt(kd:iO)(f:Nat->Keyed)(p:List Nat)(pe:Array (Nat×Nat×Nat))(st:bJ):Prop where
 k:kindOf st=kd
 a:arrOf st=arr f p
 p:pendingOf st=pe
 e:failedOf st=none
theorem Wq{i sa na nb pw YQ:Nat}{P1 B1 B2 P2:List Nat}{pe:Array (Nat×Nat×Nat)}{st:bJ}{Q:Bool->bJ->Prop}(hc:Cm prog w A s kd f n r)(W:Wt kd f (P1++(B1++(B2++P2))) pe st)(hp:∀x∈P1++(B1++(B2++P2)),x<n)
  (e1:pe[i]?=some (sa,na,pw)) (e2:pe[i+1]?=some (sa+na,nb,YQ)) (hs:P1.length=sa) (ha:B1.length=na) (hb:B2.length=nb) (h1:0<na) (h2:0<nb) (s1:B1.Pairwise (Le r)) (s2:B2.Pairwise (Le r))
  (h:∀M st',M.Perm (B1++B2)->M.Pairwise (Le r)->Wt kd f (P1++(M++P2)) ((pe.setIfInBounds i (sa,na+nb,pw)).eraseIdxIfInBounds (i+1)) st'->Q true st'):wpS (aD prog w) A E s (mergeAt' i) Q st:=by
 obtain⟨UN,a',p',g,e'⟩:=st;obtain rfl:UN=kd:=W.k;obtain rfl:a'=arr f (P1++(B1++(B2++P2))):=W.a;obtain rfl:p'=pe:=W.p;obtain rfl:e'=none:=W.e;refine aM (mH ?_);dsimp only;rw[e1,e2];refine aM (Wo ?_);generalize hpe:(p'.setIfInBounds i (sa,na+nb,pw)).eraseIdxIfInBounds (i+1)=pe2 at *;have W2:∀{p g},Wt UN f p pe2 (SortSt.mk' UN (arr f p) pe2 g none):=⟨rfl,rfl,rfl,rfl⟩
 have gA:∀i,i<na->(P1++(B1++(B2++P2))).getD (sa+i) 0=B1.getD i 0:=fun i hi=>by rw[<- hs];exact O8 (by lia)
 have gB:∀i,i<nb->(P1++(B1++(B2++P2))).getD (sa+na+i) 0=B2.getD i 0:=fun i hi=>by rw[<- fP,<- hs,<- ha,<- cG];exact O8 (by lia)
 have gB0:=gB 0 h2;rw[Fo]at gB0;have lp:(P1++(B1++(B2++P2))).length=sa+na+nb+P2.length:=by simp;lia
 have hk:B2.getD 0 0<n:=by rw[<- gB0];exact hp _ (get_mem (by lia))
 refine aM (dB (x:=B2.getD 0 0) (by rw[get_some (by lia),gB0]) (aM (uU (b:=sa) (m:=na) (hint:=0) hc rfl hp hk (by lia) h1 (fun i j nD hj q=>?_) fun k k1 k2 k3=>?_)));rw[gA i (by lia)];rw[gA j hj]at q;exact R5.mpr (cI (jz s1 nD (by lia)) (R5.mp q));have low:∀b∈B2,r (B2.getD 0 0)<=r b:=fun b mW=>by obtain⟨j,j1,rfl⟩:=BN mW;exact jz s2 (i7 _) j1
 refine bD (fun z=>aP (h (B1++B2) _ (.refl _) (uV.mpr ⟨s1,s2,fun a Iz b mW=>?_⟩) (by rw[fP];exact W2))) fun z=>?_;have z:na-k=0:=aM8.mp z;obtain⟨j,j1,rfl⟩:=BN Iz;have:=k2 j (by lia);rw[gA j (by lia)] at this;exact cI (R5.mp this) (low b mW);have z:na-k≠0:=fun e=>z (aM8.mpr e);have gl:(P1++(B1++(B2++P2))).getD (sa+k+(na-k)-1) 0=B1.getD (na-1) 0:=by rw[show sa+k+(na-k)-1=sa+(na-1) by lia];exact gA _ (by lia)
 have hk2:B1.getD (na-1) 0<n:=by rw[<- gl];exact hp _ (get_mem (by lia))
 refine aM (dB (x:=B1.getD (na-1) 0) (by rw[get_some (by lia),gl]) (aM (uU (b:=sa+na) (m:=nb) (hint:=nb-1) hc rfl hp hk2 (by lia) (by lia) (fun i j nD hj q=>?_) fun k' YM YN UL=>?_)));rw[gB i (by lia)];rw[gB j hj]at q;exact RN.mpr (qV (jz s2 nD (by lia)) (RN.mp q));have top:∀a∈B1,r a<=r (B1.getD (na-1) 0):=fun a Iz=>by obtain⟨j,j1,rfl⟩:=BN Iz;exact jz s1 (by lia) (by lia)
 refine bD (fun z=>aP (h (B1++B2) _ (.refl _) (uV.mpr ⟨s1,s2,fun a Iz b mW=>?_⟩) (by rw[fP];exact W2))) fun z'=>?_;have z:k'=0:=aM8.mp z;obtain⟨j,j1,rfl⟩:=BN mW;have:=UL j (by lia) (by lia);rw[gB j (by lia)] at this;exact cI (top a Iz) (RO.mp this);have z':k'≠0:=fun e=>z' (aM8.mpr e);have sp1:B1.take k++B1.drop k=B1:=nJ _ _;have sp2:B2.take k'++B2.drop k'=B2:=nJ _ _;have e3:(P1++(B1++(B2++P2)))=(P1++B1.take k)++(B1.drop k++(B2++P2)):=by rw[fP,<- fP (B1.take k),sp1]
 have e4:(P1++(B1++(B2++P2)))=(P1++B1)++(B2.take k'++(B2.drop k'++P2)):=by rw[<- fP (B2.take k'),sp2,fP]
 have x1:(arr f (P1++(B1++(B2++P2)))).extract (sa+k) (sa+na)=arr f (B1.drop k):=by rw[gV,e3,Iw (by simp;lia) (by simp;lia)]
 have x2:(arr f (P1++(B1++(B2++P2)))).extract (sa+na) (sa+na+k')=arr f (B2.take k'):=by rw[gV,e4,Iw (by simp;lia) (by simp;lia)]
 have t1:=uV.mp (sp1.symm▸s1);have t2:=uV.mp (sp2.symm▸s2);have m1:∀x∈B1.drop k,r (B2.getD 0 0)<r x:=fun x hx=>by obtain ⟨j,j1,j2,rfl⟩:=jA hx;have:=k3 j j1 (by lia);rw[gA j (by lia)] at this;exact Wk.mp this
 have m2:∀y∈B2.take k',r y<r (B1.getD (na-1) 0):=fun y hy=>by obtain⟨j,j1,j2,rfl⟩:=rF (uD.mpr hy);have:=YN j j1;rw[gB j (by lia)] at this;exact RN.mp this
 have m3:∀y∈B2.drop k',r (B1.getD (na-1) 0)<=r y:=fun y hy=>by obtain ⟨j,j1,j2,rfl⟩:=jA hy;have:=UL j j1 (by lia);rw[gB j (by lia)] at this;exact RO.mp this
 have m0:∀x∈B1.take k,r x<=r (B2.getD 0 0):=fun x hx=>by obtain⟨j,j1,j2,rfl⟩:=rF (uD.mpr hx);have:=k2 j j1;rw[gA j (by lia)] at this;exact R5.mp this
 have q0:(B2.take k').getD 0 0=B2.getD 0 0:=by simp[nK,FE,Fl z']
 have ql:(B1.drop k).getD ((B1.drop k).length-1) 0=B1.getD (na-1) 0:=by simp only[nK,Ms,xo,ha];rw[show k+(na-k-1)=na-1 by lia]
 have fin:∀Z st',aI (SortSt.mk' UN (arr f (P1++(B1++(B2++P2)))) pe2 g none) st'->Dn (Le r) (B1.drop k++B2.take k') Z->wpS (aD prog w) A E s
   (modify (fun st=>setArr st ((arr f Z).toList.zipIdx.foldl (fun a (q:Keyed×Nat)=>a.setIfInBounds (sa+k+q.2) q.1) (arrOf st)))>>=fun _=>get>>=fun st=>pure (failedOf st).isNone) Q st':=fun Z st' S d=>by
  obtain⟨g',rfl⟩:=S
  refine aM (rm (aM (mH (aP (h (B1.take k++(Z++B2.drop k')) _ ?_ ?_ ?_)))))
  ·have:(B1.take k++(Z++B2.drop k')).Perm (B1.take k++((B1.drop k++B2.take k')++B2.drop k')):=(d.1.append_right _).append_left _
   refine this.trans ?_
   rw[fP,sp2,<- fP,sp1]
  ·have inZ:∀z∈Z,r (B2.getD 0 0)<=r z/\r z<=r (B1.getD (na-1) 0):=fun z hz=>by
    rcases gH.mp (d.1.mem_iff.mp hz)with hz|hz
    ·exact⟨ji (m1 z hz),top z (uC hz)⟩
    ·exact⟨low z (oQ hz),ji (m2 z hz)⟩
   refine uV.mpr ⟨t1.1,uV.mpr ⟨d.2,t2.2.1,fun z hz b mW=>cI (inZ z hz).2 (m3 b mW)⟩,fun a Iz b mW=>?_⟩
   rcases gH.mp mW with mW|mW
   ·exact cI (m0 a Iz) (inZ b mW).1
   ·exact cI (m0 a Iz) (low b (uC mW))
  ·have lz:Z.length=(B1.drop k++B2.take k').length:=d.1.length_eq
   have:=O9 (sa:=sa+k) (Z.map f) ((P1++B1.take k).map f) ((B1.drop k++B2.take k').map f) ((B2.drop k'++P2).map f) 0 (by simp;lia) (by simp[lz])
   have e5:(P1++B1.take k).map f++((B1.drop k++B2.take k').map f++(B2.drop k'++P2).map f)=(P1++(B1++(B2++P2))).map f:=by
    rw[<- iN,<- iN,e3,fP (B1.drop k),<- fP (B2.take k'),sp2]
   rw[e5]at this
   refine⟨rfl,?_,rfl,rfl⟩
   show(arr f Z).toList.zipIdx.foldl _ (arr f (P1++(B1++(B2++P2))))=_
   unfold arr
   rw[this,<- iN,<- iN]
   simp only[fP]
 rw[x1,x2];refine bD (fun _=>aM ?_) fun _=>aM ?_;exact Wl hc rfl (fun x hx=>hp x (by simp[uC hx])) (fun x hx=>hp x (by simp[oQ hx])) t1.2.1 t2.1 (by simp;lia) (by simp;lia) (fun x hx=>by rw[q0];exact ji (m1 x hx)) (fun y hy=>by rw[ql];exact ji (m2 y hy)) fin;exact Wn hc rfl (fun x hx=>hp x (by simp[uC hx])) (fun x hx=>hp x (by simp[oQ hx])) t1.2.1 t2.1 (by simp;lia) (by simp;lia) (fun x hx=>by rw[q0];exact ji (m1 x hx)) (fun y hy=>by rw[ql];exact ji (m2 y hy)) fin
end
end
end Sg
end ag0
section aB8
namespace So
open PySem PySem.W PyProof.Rows
section
theorem rev_getD{p:Array Nat}(hj:j<=p.size)(k:Nat):(kas_rev p i j).getD k 0=if i<=k/\k<j then p.getD (i+j-1-k) 0 else p.getD k 0:=by
 rw[jm];unfold kas_rev;rw[getElem?_mirror_all hj];split <;> rw[jm]
theorem Oa(p:Array Nat)(i j:Nat):(kas_rev p i j).Perm p:=mirror_perm _ _ _ _
end
end So
end aB8
section ag5
namespace Sg
open PySem PySem.W PyProof.Rows
noncomputable section
def IA(p:List Nat)(i j:Nat):List Nat:=(kas_rev p.toArray i j).toList
def Wr(p:List Nat)(k d:Nat):List Nat:=(bubble p.toArray k d).toList
theorem BO(p:List Nat)(k:Nat):p.toArray.getD k 0=p.getD k 0:=by simp[nK,jm]
theorem vF(p:Array Nat)(k:Nat):p.toList.getD k 0=p.getD k 0:=by simp[nK,jm]
theorem BP{p:List Nat}(h:j<=p.length)(k:Nat):(IA p i j).getD k 0=if i<=k/\k<j then p.getD (i+j-1-k) 0 else p.getD k 0:=by
 rw[IA,vF,So.rev_getD (by simpa using h)];split <;> rw[BO]
theorem RQ(p:List Nat)(i j:Nat):(IA p i j).Perm p:=by
 have:=MV.mp (So.Oa p.toArray i j);simpa[IA]using this
theorem RT(p:List Nat)(k d:Nat):(Wr p k d).Perm p:=by
 have:=MV.mp (bubble_perm p.toArray k d);simpa[Wr]using this
theorem GJ{p:List Nat}(hk:k<p.length)(hl:l<=k)(j:Nat):(Wr p k (k-l)).getD j 0=if j=l then p.getD k 0 else if l<j/\j<=k then p.getD (j-1) 0 else p.getD j 0:=by
 rw[Wr,vF,jm,getElem?_bubble (by simpa using hk) (k-l) (by lia),show k-(k-l)=l by lia]
 repeat' split
 all_goals simp[nK]
structure Fix(lo:Nat)(p p':List Nat):Prop where
 pm:p'.Perm p
 eq:∀k,k<lo->p'.getD k 0=p.getD k 0
theorem Fix.refl(lo:Nat)(p:List Nat):Fix lo p p:=⟨.refl _,fun _ _=>rfl⟩
theorem Fix.trans{lo:Nat}{p p' p'':List Nat}(a:Fix lo p p')(b:Fix lo p' p''):Fix lo p p'':=⟨b.pm.trans a.pm,fun k hk=>(b.eq k hk).trans (a.eq k hk)⟩
theorem Fix.rv{lo:Nat}{p:List Nat}{i j:Nat}(h:j<=p.length)(hi:lo<=i):Fix lo p (IA p i j):=⟨RQ _ _ _,fun k hk=>by rw[BP h,aM5 (by lia)]⟩
theorem Fix.bu{lo:Nat}{p:List Nat}{k l:Nat}(hk:k<p.length)(hl:l<=k)(hi:lo<=l):Fix lo p (Wr p k (k-l)):=⟨RT _ _ _,fun j hj=>by rw[GJ hk hl,aM5 (by lia),aM5 (by lia)]⟩
theorem Fix.len{lo:Nat}{p p':List Nat}(a:Fix lo p p'):p'.length=p.length:=a.pm.length_eq
theorem Fix.all{lo n:Nat}{p p':List Nat}(a:Fix lo p p')(h:∀x∈p,x<n):∀x∈p',x<n:=fun x hx=>h x (a.pm.mem_iff.mp hx)
abbrev vv(r:Nat->Nat)(p:List Nat)(lo i:Nat):Nat:=r (p.getD (lo+i) 0)
def GK(v:Nat->Nat)(a:Nat):Prop:=∀i j,i<=j->j<a->v i<=v j
def Ob(v:Nat->Nat)(a:Nat):Prop:=∀i j,i<=j->j<a->v j<=v i
theorem GK.one(v:Nat->Nat):GK v 1:=fun i j nD hj=>by
 have:i=j:=by lia
 subst this;exact bg _
theorem GK.succ(h:GK v a)(h1:1<=a)(q:¬ v a<v (a-1)):GK v (a+1):=fun i j nD hj=>by
 by_cases YR:j<a;exact h i j nD YR;have e:j=a:=by lia
 subst e;by_cases hi:i=j;subst hi;exact bg _;have:=h i (j - 1) (by lia) (by lia);lia
theorem Ob.succ(h:Ob v a)(h1:1<=a)(q:v a<=v (a-1)):Ob v (a+1):=fun i j nD hj=>by
 by_cases YR:j<a;exact h i j nD YR;have e:j=a:=by lia
 subst e;by_cases hi:i=j;subst hi;exact bg _;have:=h i (j - 1) (by lia) (by lia);lia
section
variable {kd:iO}{st:bJ}
theorem sQ{Q:Option Bool->bJ->Prop}(hc:Cm prog w A s kd f n r)(W:Wt kd f p pe st)(hp:∀x∈p,x<n)(hi:i<p.length)(hj:j<p.length)(h:Q (some (decide (r (p.getD i 0)<r (p.getD j 0)))) st):wpS (aD prog w) A E s (ltAt' i j) Q st:=by
 rw[ltAt'_eq];refine aM (mH ?_);show wpS _ _ _ _ (elem' (arrOf st) i>>=fun x=>elem' (arrOf st) j>>=fun y=>lt' x y) Q st;rw[W.a];exact aM (dB (get_some hi) (aM (dB (get_some hj) (Dh hc W.k (hp _ (get_mem hi)) (hp _ (get_mem hj)) h))))
theorem sR(p:List Nat):arr f p=p.toArray.map f:=by simp[arr]
theorem BQ{Q:Unit->bJ->Prop}(W:Wt kd f p pe st)(h:∀st',Wt kd f (IA p i j) pe st'->Q () st'):wpS (aD prog w) A E s (reverseSlice' i j) Q st:=by
 rw[reverseSlice'_eq];refine rm (h _ ⟨W.k,?_,W.p,W.e⟩);show mirror (arrOf st) i j ((j-i) / 2)=_;rw[W.a,sR,sR,IA];exact kas_swaps_map f (fun k=>i+k) (fun k=>j-1-k) _ p.toArray
theorem Ws{Q:Unit->bJ->Prop}(W:Wt kd f p pe st)(h:∀st',Wt kd f (Wr p k (k-l)) pe st'->Q () st'):wpS (aD prog w) A E s (moveDown' k l) Q st:=by
 rw[moveDown'_eq];refine rm (h _ ⟨W.k,?_,W.p,W.e⟩);show bubble (arrOf st) k (k-l)=_;rw[W.a,sR,sR,Wr];exact kas_swaps_map f (fun i=>k-i) (fun i=>k-i-1) _ p.toArray
theorem ag6{v:Nat->Nat}{Q:Option (Option Nat)×Nat->bJ->Prop}{g:Nat->Option (Option Nat)×Nat->StateT bJ Sem (ForInStep (Option (Option Nat)×Nat))}
  (hg:∀x m (Q:_->bJ->Prop),1<=m->m<nrem->(v m<v (m-1)->Q (.done (none,m)) st)->(¬ v m<v (m-1)->Q (.yield (none,m+1)) st)->wpS (aD prog w) A E s (g x (none,m)) Q st)
  (h1:1<=a) (h2:a<=nrem) (hu:GK v a) (h:∀m,a<=m->m<=nrem->GK v m->(m=nrem\/v m<v (m-1))->Q (none,m) st):wpS (aD prog w) A E s (forIn [a:nrem] (none,a) g) Q st:=by
 refine j5 (I:=fun x c st'=>st'=st/\c=(none,x)/\GK v x) ?step ?fin ⟨rfl,rfl,hu⟩;case fin=>rintro c st' ⟨rfl,rfl,hs⟩;rw[show max a nrem=nrem by lia]at hs ⊢;exact h nrem h2 (bg _) hs (.inl rfl)
 case step=>rintro x c st' hx hn ⟨rfl,rfl,hs⟩;exact hg x x _ (by lia) hn (fun q=>h x hx (by lia) hs (.inr q)) fun q=>⟨rfl,rfl,hs.succ (by lia) q⟩
theorem Wu{lo nrem:Nat}{Q:Option Nat->bJ->Prop}(hc:Cm prog w A s kd f n r)(W:Wt kd f p pe st)(hp:∀x∈p,x<n)(hl:lo+nrem<=p.length)(h1:1<=nrem)
  (h:∀m p' st',1<=m->m<=nrem->Fix lo p p'->GK (vv r p' lo) m->Wt kd f p' pe st'->Q (some m) st'):wpS (aD prog w) A E s (countRun' lo nrem) Q st:=by
 have asc:∀{p' st' m} {Q:ForInStep (Option (Option Nat)×Nat)->bJ->Prop},Wt kd f p' pe st'->Fix lo p p'->1<=m->m<nrem->(vv r p' lo m<vv r p' lo (m-1)->Q (.done (none,m)) st')->(¬ vv r p' lo m<vv r p' lo (m-1)->Q (.yield (none,m+1)) st')->
   wpS (aD prog w) A E s (ltAt' (lo+m) (lo+m-1)>>=fun z=>match z with|some q=>if q=true then pure (.done (none,m))else pure (.yield (none,m+1))|_=>pure (.done (some none,m))) Q st':=fun {p' st' m Q} W F hm hn q1 q2=>by
  have:=F.len
  refine aM (sQ hc W (F.all hp) (by lia) (by lia) (bD (fun z=>aP (q1 ?_)) fun z=>aP (q2 fun y=>z (aM6 ?_))))
  ·have:=aN0 z
   rw[show lo+m-1=lo+(m-1) by lia]at this
   exact this
  ·rw[show lo+m-1=lo+(m-1) by lia]
   exact y
 have eqv:∀{p' x q},lo+x<=p'.length->q+1<=x->(∀i,x-(q+1)<=i->i<x->vv r p' lo i=vv r p' lo (x-1))->∀i,vv r (IA p' (lo+x-(q+1)) (lo+x)) lo i=vv r p' lo i:=fun {p' x q} hx hq he i=>by unfold vv;rw[BP hx];split;rename_i hi;have a:=he i (by lia) (by lia);have b:=he (x-(q+1)+x-1-i) (by lia) (by lia);rw[show lo+x-(q+1)+(lo+x)-1-(lo+i)=lo+(x-(q+1)+x-1-i) by lia];exact b.trans a.symm;rfl
 refine aM (ag6 (v:=vv r p lo) (fun x m Q hm hn q1 q2=>asc W (.refl _ _) hm hn q1 q2) (bg 1) h1 (GK.one _) fun m a1 a2 a3 a4=>bD (fun z=>aP (h m p st a1 a2 (.refl _ _) a3 W)) fun z=>?_);have z:m≠nrem:=fun e=>z (aM8.mpr e);have a4:vv r p lo m<vv r p lo (m-1):=by rcases a4 with a4 | a4;exact aN6 a4 z;exact a4
 refine bD (fun z2=>aM (sQ hc W hp (show lo<p.length by lia) (show lo+m-1<p.length by lia) (bD (fun z3=>aP (h m p st a1 a2 (.refl _ _) a3 W)) fun z3=>aM (BQ W fun mO W2=>?_)))) fun z2=>?_;have z3:¬ vv r p lo 0<vv r p lo (m-1):=fun q=>z3 (aM6 (by rw[show lo+m-1=lo+(m-1) by lia];exact q));have F2:Fix lo p (IA p lo (lo+m)):=.rv (by lia) (bg _);have d2:Ob (vv r (IA p lo (lo+m)) lo) (m+1):=by
  have al:∀k,k<m->vv r p lo k=vv r p lo (m-1):=fun k hk=>by have b1:=a3 0 k (by lia) hk;have b2:=a3 k (m-1) (by lia) (by lia);lia
  have ev:∀i,vv r (IA p lo (lo+m)) lo i=vv r p lo i:=fun i=>by have:=eqv (p':=p) (x:=m) (q:=m-1) (by lia) (by lia) (fun i _ hi=>al i hi) i;rw[show lo+m-(m-1+1)=lo by lia]at this;exact this
  refine Ob.succ (fun i j nD hj=>?_) a1 (by rw[ev,ev];lia);rw[ev,ev,al i (by lia),al j hj];exact bg _
 rotate_left;have W2:=W;have F2:=Fix.refl lo p;have d2:Ob (vv r p lo) (m+1):=by
  have:m=1:=by have:¬ m > 1:=z2;lia
  subst this;refine Ob.succ (fun i j nD hj=>?_) (bg _) (by lia);have:i=j:=by lia
  subst this;exact bg _
 all_goals
  refine aM (q9 (aM (ku (j5 (I:=fun x c st'=>∃p3 q,c=(none,x,q)/\Wt kd f p3 pe st'/\Fix lo p p3/\Ob (vv r p3 lo) x/\q+1<=x/\∀i,x-(q+1)<=i->i<x->vv r p3 lo i=vv r p3 lo (x-1))
   (Q:=fun c st'=>∃p3 q x,c=(none,x,q)/\1<=x/\x<=nrem/\Wt kd f p3 pe st'/\Fix lo p p3/\Ob (vv r p3 lo) x/\q+1<=x/\∀i,x-(q+1)<=i->i<x->vv r p3 lo i=vv r p3 lo (x-1)) ?_ ?_ ⟨_,0,rfl,W2,F2,d2,by lia,fun i h1 h2=>by congr 1;lia⟩) ?_)))
  ·rintro x c By hx hn ⟨p3,q,rfl,W3,F3,d3,q3,e3⟩
   have fl:=F3.len
   have l1:lo+x-1=lo+(x-1):=by lia
   refine aM (sQ hc W3 (F3.all hp) (show lo+x<_ by lia) (show lo+x-1<_ by lia) (bD (fun y=>?_) fun y=>aM (sQ hc W3 (F3.all hp) (show lo+x-1<_ by lia) (show lo+x<_ by lia) (bD (fun y2=>aP ⟨p3,q,x,rfl,by lia,by lia,W3,F3,d3,q3,e3⟩) fun y2=>aP ⟨p3,q+1,rfl,W3,F3,?_,by lia,fun i i1 i2=>?_⟩))))
   ·have y:vv r p3 lo x<vv r p3 lo (x-1):=by have:=aN0 y;rw[l1]at this;exact this
    have ev:=eqv (p':=p3) (by lia) q3 e3
    refine bD (fun _=>aM (BQ (i:=lo+x-(q+1)) (j:=lo+x) W3 fun R8 W4=>aP ⟨_,0,rfl,W4,F3.trans (.rv (i:=lo+x-(q+1)) (j:=lo+x) (by lia) (by lia)),Ob.succ (fun i j nD hj=>by rw[ev,ev];exact d3 i j nD hj) (by lia) (by rw[ev,ev];lia),by lia,fun i i1 i2=>by congr 1;lia⟩)) fun _=>aP ⟨p3,0,rfl,W3,F3,d3.succ (by lia) (by lia),by lia,fun i i1 i2=>by congr 1;lia⟩
   ·have y:¬ vv r p3 lo x < vv r p3 lo (x - 1):=fun q=>y (aM6 (by rw[l1];exact q))
    have y2:¬ vv r p3 lo (x - 1) < vv r p3 lo x:=fun q=>y2 (aM6 (by rw[l1];exact q))
    exact d3.succ (by lia) (by lia)
   ·have y:¬ vv r p3 lo x < vv r p3 lo (x - 1):=fun q=>y (aM6 (by rw[l1];exact q))
    have y2:¬ vv r p3 lo (x - 1) < vv r p3 lo x:=fun q=>y2 (aM6 (by rw[l1];exact q))
    show vv r p3 lo i=vv r p3 lo (x+1-1)
    rw[B7]
    by_cases hi:i=x
    ·subst hi;rfl
    ·rw[e3 i (by lia) (by lia)];lia
  ·rintro c By ⟨p3,q,rfl,W3,F3,d3,q3,e3⟩
   rw[show max (m+1) nrem=nrem by lia]at *
   exact⟨p3,q,nrem,rfl,h1,bg _,W3,F3,d3,q3,e3⟩
  ·rintro c By ⟨p3,q,x,rfl,x1,x2,W3,F3,d3,q3,e3⟩
   have fl:=F3.len
   have ev:=eqv (p':=p3) (by lia) q3 e3
   refine bD (fun _=>aM (BQ (i:=lo+x-(q+1)) (j:=lo+x) W3 fun R8 W4=>?_)) fun _=>?_
   have F4:Fix lo p _:=F3.trans (.rv (i:=lo+x-(q+1)) (j:=lo+x) (by lia) (by lia))
   have d4:Ob (vv r (IA p3 (lo+x-(q+1)) (lo+x)) lo) x:=fun i j nD hj=>by rw[ev,ev];exact d3 i j nD hj
   generalize IA p3 (lo+x-(q+1)) (lo+x)=p4 at W4 F4 d4
   rotate_left
   have W4:=W3
   have F4:=F3
   have d4:=d3
   all_goals
    have fl:=F4.len
    refine aM (BQ (i:=lo) (j:=lo+x) W4 fun BA W5=>aM (ag6 (a:=x) (v:=vv r (IA _ lo (lo+x)) lo) (fun x' m' Q CB hn q1 q2=>asc W5 (F4.trans (.rv (by lia) (bg _))) CB hn q1 q2) x1 x2 (fun i j nD hj=>?_) fun m' a1 a2 a3 _=>aP (h m' _ _ (by lia) a2 (F4.trans (.rv (by lia) (bg _))) a3 W5)))
    unfold vv
    rw[BP (by lia),BP (by lia),aM4 (by lia),aM4 (by lia),show lo+(lo+x)-1-(lo+i)=lo+(x-1-i) by lia,show lo+(lo+x)-1-(lo+j)=lo+(x-1-j) by lia]
    exact d4 _ _ (by lia) (by lia)
theorem Wv{lo m ok:Nat}{Q:Bool->bJ->Prop}(hc:Cm prog w A s kd f n r)(W:Wt kd f p pe st)(hp:∀x∈p,x<n)(hl:lo+m<=p.length)(hk:1<=ok)(hm:ok<=m)(hu:GK (vv r p lo) ok)
  (h:∀p' st',Fix lo p p'->GK (vv r p' lo) m->Wt kd f p' pe st'->Q true st'):wpS (aD prog w) A E s (binarySort' lo m ok) Q st:=by
 refine aM (ku (j5 (I:=fun k c st'=>∃p',c=(none,())/\Wt kd f p' pe st'/\Fix lo p p'/\GK (vv r p' lo) k) (Q:=fun c st'=>∃p',c=(none,())/\Wt kd f p' pe st'/\Fix lo p p'/\GK (vv r p' lo) m) ?_ ?_ ⟨p,rfl,W,.refl _ _,by rw[Nat.max_eq_left hk];exact hu⟩) ?_);rintro k c k8 k1 k2 ⟨p1,rfl,W1,F1,u1⟩;have fl:=F1.len;refine aM (ku (j5 (I:=fun x c st'=>st'=k8/\∃l q,c=(none,l,q)/\l<=q/\q<=k/\q-l<=k-x/\(∀i,i<l->vv r p1 lo i<=vv r p1 lo k)/\∀i,q<=i->i<k->vv r p1 lo k<vv r p1 lo i)
  (Q:=fun c st'=>st'=k8/\∃l q,c=(none,l,q)/\l<=k/\(∀i,i<l->vv r p1 lo i<=vv r p1 lo k)/\∀i,l<=i->i<k->vv r p1 lo k<vv r p1 lo i) ?_ ?_ ⟨rfl,0,k,rfl,i7 _,bg _,bg _,fun i hi=>by lia,fun i h1 h2=>by lia⟩) ?_)
 rintro x c mO _ hx ⟨rfl,l,q,rfl,b1,b2,b3,b4,b5⟩;refine bD (fun z=>?_) fun z=>aM (sQ hc W1 (F1.all hp) (show lo+k<_ by lia) (show lo+(l+q) / 2<_ by have:¬ l ≥ q:=z;lia) (bD (fun y=>aP ⟨rfl,l,(l+q) / 2,rfl,by lia,by lia,?_,b4,fun i i1 i2=>?_⟩) fun y=>aP ⟨rfl,(l+q) / 2+1,q,rfl,?_,b2,?_,fun i i1=>?_,b5⟩));have:l ≥ q:=z;have:l=q:=by lia
 subst this;exact aP ⟨rfl,l,l,rfl,b2,b4,b5⟩;have:¬ l ≥ q:=z;lia;have y:vv r p1 lo k<vv r p1 lo ((l+q) / 2):=aN0 y;exact iS y (u1 _ _ i1 i2);have:¬ l ≥ q:=z;lia;have:¬ l ≥ q:=z;lia;have y:¬ vv r p1 lo k<vv r p1 lo ((l+q) / 2):=fun e=>y (aM6 e);have:¬ l ≥ q:=z;exact cI (u1 i ((l+q) / 2) (by lia) (by lia)) (mE y);rintro c mO ⟨rfl,l,q,rfl,b1,b2,b3,b4,b5⟩;have:l=q:=by lia
 subst this;exact⟨rfl,l,l,rfl,b2,b4,b5⟩
 ·rintro c mO ⟨rfl,l,q,rfl,b1,b2,b3⟩;refine aM (Ws (k:=lo+k) (l:=lo+l) W1 fun By W3=>aP ⟨_,rfl,W3,F1.trans (.bu (by lia) (by lia) (by lia)),fun i j nD hj=>?_⟩);unfold vv;rw[GJ (by lia) (by lia),GJ (by lia) (by lia)];have g:∀i j,i<=j->j<k->r (p1.getD (lo+i) 0)<=r (p1.getD (lo+j) 0):=u1
  repeat' split
  all_goals first
   | (exfalso;lia)
   | exact bg _
   | exact b2 _ (by lia)
   | (rw[show lo+j-1=lo+(j-1) by lia];exact ji (b3 _ (by lia) (by lia)))
   | (rw[show lo+i-1=lo+(i-1) by lia,show lo+j-1=lo+(j-1) by lia];exact g _ _ (by lia) (by lia))
   | (rw[show lo+j-1=lo+(j-1) by lia];exact g _ _ (by lia) (by lia))
   | exact g _ _ (by lia) (by lia)
 rintro c k8 ⟨p1,rfl,W1,F1,u1⟩;rw[show max (max ok 1) m=m by lia]at u1;exact⟨p1,rfl,W1,F1,u1⟩;rintro c k8 ⟨p1,rfl,W1,F1,u1⟩;exact aP (h p1 k8 F1 u1 W1)
end
end
noncomputable section
def PR(r:Nat->Nat):Nat->List (Nat×Nat×Nat)->List (List Nat)->Prop
 | _,[],[]=>True
 | s,q::ps,b::rs=>q.1=s/\q.2.1=b.length/\0<b.length/\b.Pairwise (Le r)/\PR r (s+b.length) ps rs
 | _,_,_=>False
section
theorem PR.len:∀{s:Nat} {ps:List (Nat×Nat×Nat)} {rs:List (List Nat)},PR r s ps rs->ps.length=rs.length/\rs.length<=rs.flatten.length
 | _,[],[],_=>⟨rfl,bg _⟩
 | s,q::ps,b::rs,h=>by
  rw[PR]at h;have:=PR.len h.2.2.2.2;rw[List.flatten_cons,cG,dg,dg];lia
 | _,[],_::_,h=>by simp[PR]at h
 | _,_::_,[],h=>by simp[PR]at h
theorem PR.snoc{q:Nat×Nat×Nat}{b:List Nat}(h2:q.2.1=b.length)(h3:0<b.length)(h4:b.Pairwise (Le r)):∀{s:Nat} {ps:List (Nat×Nat×Nat)} {rs:List (List Nat)},PR r s ps rs->q.1=s+rs.flatten.length->PR r s (ps++[q]) (rs++[b])
 | s,[],[],_,h1=>by
  show PR r s [q] [b];rw[PR];exact⟨by simpa using h1,h2,h3,h4,trivial⟩
 | s,q'::ps,b'::rs,h,h1=>by
  rw[PR]at h;show PR r s (q'::(ps++[q])) (b'::(rs++[b]));rw[PR];exact⟨h.1,h.2.1,h.2.2.1,h.2.2.2.1,PR.snoc h2 h3 h4 h.2.2.2.2 (by rw[h1];simp;lia)⟩
 | _,[],_::_,h,_=>by simp[PR]at h
 | _,_::_,[],h,_=>by simp[PR]at h
theorem PR.pw:∀{s:Nat} {ps Ww:List (Nat×Nat×Nat)} {rs:List (List Nat)},PR r s ps rs->Ww.map (fun q=>(q.1,q.2.1))=ps.map (fun q=>(q.1,q.2.1))->PR r s Ww rs
 | _,[],Ww,[],_,e=>by
  have:Ww=[]:=by simpa using e
  rw[this];trivial
 | s,q::ps,[],b::rs,h,e=>by simp at e
 | s,q::ps,q'::Ww,b::rs,h,e=>by
  rw[PR]at h ⊢;rw[bG,bG] at e;injection e with e1 e2;injection e1 with e3 e4;exact⟨e3.trans h.1,e4.trans h.2.1,h.2.2.1,h.2.2.2.1,PR.pw h.2.2.2.2 e2⟩
 | _,[],_,_::_,h,_=>by simp[PR]at h
 | _,_::_,_,[],h,_=>by simp[PR]at h
theorem PR.one:∀{s:Nat} {ps:List (Nat×Nat×Nat)} {b:List Nat},PR r s ps [b]->b.Pairwise (Le r)
 | _,[],_,h=>by simp[PR]at h
 | _,_::_,_,h=>by rw[PR]at h;exact h.2.2.2.1
theorem PR.two:∀{i s:Nat} {ps:List (Nat×Nat×Nat)} {rs:List (List Nat)},PR r s ps rs->i+1<ps.length->∃R1 b1 b2 R2 pw YQ,rs=R1++b1::b2::R2/\ps[i]?=some (s+R1.flatten.length,b1.length,pw)/\ps[i+1]?=some (s+R1.flatten.length+b1.length,b2.length,YQ)/\
  0<b1.length/\0<b2.length/\b1.Pairwise (Le r)/\b2.Pairwise (Le r)/\∀M:List Nat,M.length=b1.length+b2.length->M.Pairwise (Le r)->PR r s ((ps.set i (s+R1.flatten.length,b1.length+b2.length,pw)).eraseIdx (i+1)) (R1++M::R2)
 | 0,s,q::q'::ps,b::b'::rs,h,_=>by
  rw[PR,PR]at h;obtain⟨h1,h2,h3,h4,h5,h6,h7,h8,h9⟩:=h;obtain⟨a,c,d⟩:=q;obtain⟨a',c',d'⟩:=q';simp only at h1 h2 h5 h6;subst h1 h2 h5 h6;refine⟨[],b,b',rs,d,d',rfl,rfl,rfl,h3,h7,h4,h8,fun M hM sM=>?_⟩;show PR r a ((a+0,b.length+b'.length,d)::ps) (M::rs);rw[PR];exact⟨rfl,hM.symm,by lia,sM,by rw[hM,<- xj];exact h9⟩
 | i+1,s,q::ps,b::rs,h,hl=>by
  rw[PR]at h;obtain⟨R1,b1,b2,R2,pw,YQ,e1,e2,e3,x1,x2,x3,x4,x5⟩:=PR.two (i:=i) h.2.2.2.2 (by simpa using hl);have ee:s+(b::R1).flatten.length=s+b.length+R1.flatten.length:=by simp;lia
  refine⟨b::R1,b1,b2,R2,pw,YQ,by rw[e1];rfl,by rw[ee];exact e2,by rw[ee];exact e3,x1,x2,x3,x4,fun M hM sM=>?_⟩;rw[ee];show PR r s (q::((ps.set i (s+b.length+R1.flatten.length,b1.length+b2.length,pw)).eraseIdx (i+1))) (b::(R1++M::R2));rw[PR];exact⟨h.1,h.2.1,h.2.2.1,h.2.2.2.1,x5 M hM sM⟩
 | _,_,[],[],_,hl=>by simp at hl
 | _,_,[],_::_,h,_=>by simp[PR]at h
 | _,_,_::_,[],h,_=>by simp[PR]at h
 | 0,_,[_],[_],_,hl=>by simp at hl
 | 0,_,[_],_::_::_,h,_=>by simp[PR]at h
 | 0,_,_::_::_,[_],h,_=>by simp[PR]at h
end
theorem Oc(a:Array (Nat×Nat×Nat))(i pw:Nat):(a.modify i fun x=>(x.1,x.2.1,pw)).toList.map (fun q=>(q.1,q.2.1))=a.toList.map fun q=>(q.1,q.2.1):=by
 refine Ba fun k=>?_;simp only[di,l9,Array.getElem?_modify];split;cases a[k]? <;> rfl;rfl
theorem Fix.tail{F:List Nat}(h:Fix F.length (F++R) p'):∃R',p'=F++R'/\R'.Perm R:=by
 have hl:=h.len;have e:p'.take F.length=F:=by
  refine Ba fun k=>?_;rw[FE];split;rename_i hk;have q:=h.eq k hk;have a:k<p'.length:=by rw[hl,cG];lia
  rw[get_some a,q];simp[nK,hk,kr];rename_i hk;rw[uE (by lia)]
 refine⟨p'.drop F.length,?_,?_⟩;conv=>lhs;rw[<- nJ F.length p',e]
 have:=h.pm;rw[show p'=F++p'.drop F.length by conv=>lhs;rw[<- nJ F.length p',e]]at this;exact(List.perm_append_left_iff F).mp this
theorem IB(h:GK (vv r (F++R) F.length) m)(hm:m<=R.length):(R.take m).Pairwise (Le r):=by
 rw[qX];intro i j hi hj nD;rw[l8]at hi hj;have:=h i j (by lia) (by lia);simp[vv,nK,kq]at this;simp[show i<R.length by lia,show j<R.length by lia]at this ⊢;exact this
section
variable {kd:iO}{st:bJ}
theorem Od{rs:List (List Nat)}{Q:Bool->bJ->Prop}(hc:Cm prog w A s kd f n r)(W:Wt kd f (rs.flatten++R) pe st)(hp:∀x∈rs.flatten++R,x<n)(hr:PR r 0 pe.toList rs)(hi:i+1<pe.size)
  (h:∀vG zD st',vG.flatten.Perm rs.flatten->PR r 0 zD.toList vG->zD.size+1=pe.size->Wt kd f (vG.flatten++R) zD st'->Q true st'):wpS (aD prog w) A E s (mergeAt' i) Q st:=by
 obtain⟨R1,b1,b2,R2,pw,YQ,rfl,e2,e3,x1,x2,x3,x4,x5⟩:=hr.two (i:=i) (by simpa using hi);rw[l9]at e2 e3;have ef:(R1++b1::b2::R2).flatten++R=R1.flatten++(b1++(b2++(R2.flatten++R))):=by simp
 rw[ef]at W hp;refine Wq hc W hp e2 e3 (by lia) rfl rfl x1 x2 x3 x4 fun M st' pm sm W'=>?_;have lM:M.length=b1.length+b2.length:=by rw[pm.length_eq,cG]
 have P':=x5 M lM sm;refine h (R1++M::R2) _ st' ?_ ?_ ?_ (by rw[show(R1++M::R2).flatten++R=R1.flatten++(M++(R2.flatten++R)) by simp];exact W');have:(R1++M::R2).flatten=R1.flatten++(M++R2.flatten):=by simp
 rw[this,show(R1++b1::b2::R2).flatten=R1.flatten++((b1++b2)++R2.flatten) by simp];exact(pm.append_right _).append_left _;have:((pe.setIfInBounds i (0+R1.flatten.length,b1.length+b2.length,pw)).eraseIdxIfInBounds (i+1)).toList=(pe.toList.set i (0+R1.flatten.length,b1.length+b2.length,pw)).eraseIdx (i+1):=by simp
 rw[this];exact P';rw[Array.eraseIdxIfInBounds,dif_pos (by simp;lia)];simp;lia
theorem IC{Q:Unit->bJ->Prop}(hc:Cm prog w A s kd f n r)(W:Wt kd f p #[] st)(hp:∀x∈p,x<n)(h:∀p' st',p'.Perm p->p'.Pairwise (Le r)->arrOf st'=arr f p'->failedOf st'=none->Q () st') :
  wpS (aD prog w) A E s sortRuns' Q st:=by
 have sz:(arrOf st).size=p.length:=by rw[W.a,cP]
 refine aM (mH (aM (ku (j5 (I:=fun x c st'=>∃(rs:List (List Nat)) (R:List Nat) (pe:Array (Nat×Nat×Nat)),c=(none,rs.flatten.length)/\Wt kd f (rs.flatten++R) pe st'/\(rs.flatten++R).Perm p/\PR r 0 pe.toList rs/\x<=rs.flatten.length)
  (Q:=fun c st'=>∃(rs:List (List Nat)) (pe:Array (Nat×Nat×Nat)),c=(none,rs.flatten.length)/\Wt kd f rs.flatten pe st'/\rs.flatten.Perm p/\PR r 0 pe.toList rs) ?step ?fin ⟨[],p,#[],rfl,W,.refl _,trivial,i7 _⟩) ?post)))
 case fin=>rintro c st' ⟨rs,R,pe,rfl,W1,P1,r1,x1⟩;have l1:=P1.length_eq;rw[cG] at l1;have:R=[]:=oR.mp (by rw[sz]at x1;lia);subst this;rw[ko] at W1 P1;exact⟨rs,pe,rfl,W1,P1,r1⟩
 case post=>
  rintro c k8 ⟨rs,pe,rfl,W1,P1,r1⟩;refine aM (ku (j5 (I:=fun x c st'=>∃(rs:List (List Nat)) (pe:Array (Nat×Nat×Nat)),c=(none,())/\Wt kd f rs.flatten pe st'/\rs.flatten.Perm p/\PR r 0 pe.toList rs/\pe.size+x<=p.length+1)
   (Q:=fun c st'=>∃(rs:List (List Nat)) (pe:Array (Nat×Nat×Nat)),c=(none,())/\Wt kd f rs.flatten pe st'/\rs.flatten.Perm p/\PR r 0 pe.toList rs/\pe.size<=1) ?_ ?_ ⟨rs,pe,rfl,W1,P1,r1,?_⟩) ?_)
  rintro x c mO _ hx ⟨rs,pe,rfl,W2,P2,r2,x2⟩;have W2':Wt kd f (rs.flatten++[]) pe mO:=by rw[ko];exact W2
  have Oe:∀x∈rs.flatten++[],x<n:=fun x hx=>hp x (P2.mem_iff.mp (by simpa using hx));refine aM (mH (bD (fun z=>aP ⟨rs,pe,rfl,W2,P2,r2,by rw[<- W2.p];exact z⟩) fun z=>aM (Od hc W2' Oe r2 ?_ fun Wx Wy BA P5 r5 l5 W5=>bD (fun z=>aN6 z (by simp)) fun _=>aP ⟨Wx,Wy,rfl,by rw[ko]at W5;exact W5,P5.trans P2,r5,by lia⟩)));have z:¬ (pendingOf mO).size<=1:=z;have e:(sortPriv% PySem.Builtin.SortState.pending) mO=pe:=W2.p;rw[W2.p]at z;rw[e];(repeat' split) <;> lia;rintro c mO ⟨rs,pe,rfl,W2,P2,r2,x2⟩;exact⟨rs,pe,rfl,W2,P2,r2,by rw[sz]at x2;lia⟩;have:=r1.len;have:=P1.length_eq;have:pe.size=rs.length:=by rw[<- dN];exact r1.len.1
  lia;rintro c mO ⟨rs,pe,rfl,W2,P2,r2,x2⟩;have l2:=r2.len;rw[dN]at l2;refine aP (h rs.flatten mO P2 ?_ W2.a W2.e);match rs,l2,r2 with
  | [],_,_=>exact .nil
  | [b],_,r2=>simpa using r2.one
  | _::_::_,l2,_=>simp at l2;lia
 case step=>
  rintro x c k8 _ hx ⟨rs,R,pe,rfl,W1,P1,r1,x1⟩;have l1:=P1.length_eq;rw[cG] at l1;have hp1:∀x∈rs.flatten++R,x<n:=fun x hx=>hp x (P1.mem_iff.mp hx);refine bD (fun z=>aP ?_) fun z=>aM (Wu hc W1 hp1 (lo:=rs.flatten.length) (nrem:=(arrOf st).size-rs.flatten.length) (by rw[sz,cG];lia) (by have z:¬ rs.flatten.length ≥ (arrOf st).size:=z;lia) fun m p2 mO m1 m2 F2 u2 W2=>?_);have z:rs.flatten.length ≥ (arrOf st).size:=z;have:R=[]:=oR.mp (by rw[sz]at z;lia);subst this;rw[ko] at W1 P1;exact⟨rs,pe,rfl,W1,P1,r1⟩;obtain⟨R2,rfl,pm2⟩:=F2.tail;have l2:=pm2.length_eq;rw[sz]at m2;have Oe:∀x∈rs.flatten++R2,x<n:=F2.all hp1;have P2:(rs.flatten++R2).Perm p:=(pm2.append_left _).trans P1;have push:∀{R3:List Nat} {m:Nat} {vG:List (List Nat)} {zD:Array (Nat×Nat×Nat)} {BA:bJ},1<=m/\m<=R3.length->(R3.take m).Pairwise (Le r)->(rs.flatten++R3).Perm p->vG.flatten.Perm rs.flatten->PR r 0 zD.toList vG->kindOf BA=kd->arrOf BA=arr f (vG.flatten++R3)->pendingOf BA=zD.push (rs.flatten.length,m,0)->failedOf BA=none->
    ∃(RU:List (List Nat)) (R:List Nat) (pe:Array (Nat×Nat×Nat)),((none,rs.flatten.length+m):Option Unit×Nat)=(none,RU.flatten.length)/\Wt kd f (RU.flatten++R) pe BA/\(RU.flatten++R).Perm p/\PR r 0 pe.toList RU/\x+1<=RU.flatten.length:=fun {R3 m vG zD BA} hm s3 P3 P4 r4 w1 w2 w3 w4=>by
   have lf:vG.flatten.length=rs.flatten.length:=P4.length_eq
   have e:(vG++[R3.take m]).flatten=vG.flatten++R3.take m:=by simp
   have lt:(R3.take m).length=m:=by rw[l8];lia
   have e2:(vG++[R3.take m]).flatten++R3.drop m=vG.flatten++R3:=by rw[e,fP,nJ]
   refine⟨vG++[R3.take m],R3.drop m,zD.push (rs.flatten.length,m,0),?_,⟨w1,by rw[e2];exact w2,w3,w4⟩,by rw[e2];exact(P4.append_right _).trans P3,?_,?_⟩
   ·rw[e,cG,lf,lt]
   ·rw[FQ]
    exact r4.snoc (by rw[lt]) (by lia) s3 (by show rs.flatten.length=0+_;lia)
   ·rw[e,cG,lf,lt];lia
  refine bD (fun zm=>aM (q9 (aM (Wv hc W2 Oe (lo:=rs.flatten.length) (m:=min ((arrOf st).size-rs.flatten.length) (minRun' (arrOf st).size (arrOf st).size 0)) (by rw[sz,cG];lia) m1 (by have zm:m<minRun' (arrOf st).size (arrOf st).size 0:=zm;lia) u2 fun p3 By F3 u3 W3=>bD (fun z=>aN6 z (by simp)) fun _=>?_)))) fun _=>?_;obtain⟨R3,rfl,pm3⟩:=F3.tail;have l3:=pm3.length_eq;have P3:(rs.flatten++R3).Perm p:=(pm3.append_left _).trans P2;have hm3:1<=min ((arrOf st).size-rs.flatten.length) (minRun' (arrOf st).size (arrOf st).size 0)/\min ((arrOf st).size-rs.flatten.length) (minRun' (arrOf st).size (arrOf st).size 0)<=R3.length:=by have zm:m<minRun' (arrOf st).size (arrOf st).size 0:=zm;lia
  have s3:=IB u3 hm3.2;rotate_left;have W3:=W2;have P3:=P2;have hm3:1<=m/\m<=R2.length:=by lia
  have s3:=IB u2 hm3.2;generalize hR:R2=R3 at *;all_goals
   have hp3:∀x∈rs.flatten++R3,x<n:=fun x hx=>hp x (P3.mem_iff.mp hx)
   refine aM (mH ?_)
   dsimp only
   split
   ·refine aM (ku (j5 (I:=fun y c st'=>∃(vG:List (List Nat)) (zD:Array (Nat×Nat×Nat)),c=(none,())/\Wt kd f (vG.flatten++R3) zD st'/\vG.flatten.Perm rs.flatten/\PR r 0 zD.toList vG)
     (Q:=fun c st'=>∃(vG:List (List Nat)) (zD:Array (Nat×Nat×Nat)),c=(none,())/\Wt kd f (vG.flatten++R3) zD st'/\vG.flatten.Perm rs.flatten/\PR r 0 zD.toList vG) ?_ (fun _ _ z=>z) ⟨rs,pe,rfl,W3,.refl _,r1⟩) ?_)
    ·rintro y c R8 _ _ ⟨vG,zD,rfl,W4,P4,r4⟩
     refine aM (mH ?_)
     split
     ·rename_i a b o hq
      refine bD (fun _=>aP ⟨vG,zD,rfl,W4,P4,r4⟩) fun _=>aM (Od hc W4 (fun x hx=>hp3 x (((P4.append_right _).mem_iff).mp hx)) r4 ?_ fun Wx Wy BA P5 r5 _ W5=>bD (fun z=>aN6 z (by simp)) fun _=>aP ⟨Wx,Wy,rfl,W5,P5.trans P4,r5⟩)
      have e:(sortPriv% PySem.Builtin.SortState.pending) R8=zD:=W4.p
      rw[e]at hq ⊢
      split at hq
      ·lia
      ·cases hq
     ·exact aP ⟨vG,zD,rfl,W4,P4,r4⟩
    ·rintro c R8 ⟨vG,zD,rfl,W4,P4,r4⟩
     obtain rfl:=W4.p
     exact aM (rm (aM (rm (aP (push hm3 s3 P3 P4 (r4.pw (Oc _ _ _)) W4.k W4.a rfl W4.e)))))
   ·obtain rfl:=W3.p
    exact aM (rm (aP (push hm3 s3 P3 (.refl _) r1 W3.k W3.a rfl W3.e)))
end
end
end Sg
end ag5
section ag8
namespace So
open PySem PySem.W PyProof.Rows
def Keeps(a:ay)(h h':aY):Prop:=∀b o,b≠a->h.get? b=some o->h'.get? b=some o
section
variable {prog:dG}{w:bQ}{A:cH}{E:av->aA->Prop}{s:aA}{a:ay}{vs:List av}{kd:iO}{r:Nat->Nat}
theorem map_range(ds:List α)(z:α):(dU ds.length).map (fun i=>ds.getD i z)=ds:=by
 refine Mt (by simp) fun i h1 h2=>?_;simp at h1;simp[h1]
theorem zE{P:PySem.Fin->aA->Prop}(ho:s.heap.get? a=some (cJ "list" vs.toArray n))(hz:vs.length<=cU)
  (D0:2<=vs.length->∀h' Q,Keeps a s.heap h'->Q kd {s with heap:=h'}->aB (aD prog w) A (keyKind' vs.toArray) Q E {s with heap:=h'})
  (gr:2<=vs.length->∀h' i j C,Keeps a s.heap h'->i<vs.length->j<vs.length->C (decide (r i<r j)) {s with heap:=h'}->aB (aD prog w) A (keyLt' kd (vs.getD i ez) (vs.getD j ez)) C (fun _ _=>False) {s with heap:=h'})
  (h:∀h' n' (pm:List Nat),Keeps a s.heap h'->pm.Perm (dU vs.length)->pm.Pairwise (fun i j=>r i<=r j)->h'.get? a=some (cJ "list" (pm.map fun i=>vs.getD i ez).toArray n')->P (.done (.ret .none)) {s with heap:=h'}) :
  aB (aD prog w) A (Builtin.«list.sort» ⟨[.ref a],[]⟩) P E s:=by
 have Lq:=fz s.heap a (dm fun _=>(#[]:Array av));obtain⟨e1,UO⟩:∃e1,(s.heap.update a (dm fun _=>(#[]:Array av))).get? a=some (cJ "list" #[] e1):=⟨_,xE ho fun _=>#[]⟩
 rw[list_sort_plain];refine ah (FT ho rfl (ah (rq ho rfl (ah (xF UO rfl (ah (EV (ah (x6 (jh ?_) (i7 _))) (by show vs.length<=_;lia))))) (by rw[dI];lia) (i7 _))));generalize hG:((s.heap.update a (dm fun _=>(#[]:Array av))).push (cJ "tuple" vs.toArray 0)).push (cJ "list" #[] 0)=g;have kg:Keeps a s.heap g:=fun b o hb e=>by rw[<- hG];exact bU _ (bU _ (by rw[Lq.2 b hb];exact e))
 have ag:g.get? a=some (cJ "list" #[] e1):=by rw[<- hG];exact bU _ (bU _ UO)
 show aB (aD prog w) A _ P E {s with heap:=g};dsimp only;have fin:∀(pm:List Nat),pm.Perm (dU vs.length)->pm.Pairwise (fun i j=>r i<=r j)->P (.done (.ret .none)) {s with heap:=g.update a (dm fun _=>(pm.map fun i=>vs.getD i ez).toArray)}:=fun pm h1 h2=>by have Lr:=fz g a (dm fun _=>(pm.map fun i=>vs.getD i ez).toArray);exact h _ _ pm (fun b o hb e=>by rw[Lr.2 b hb];exact kg b o hb e) h1 h2 (xE ag fun _=>_)
 have psz:∀(pm:List Nat),pm.Perm (dU vs.length)->(pm.map fun i=>vs.getD i ez).toArray.size<=cU+1:=fun pm hp=>by rw[dI,br,hp.length_eq,xu];lia
 by_cases h2:vs.toArray.size<2;rw[aM4 h2,aM4 h2];refine ah (aC ?_);rw[Nb];refine ah (aC ?_);dsimp only;have out:(arrOf (SortSt.mk' general' (vs.toArray.zip vs.toArray) #[] 7 none)).map (·.2)=((dU vs.length).map fun i=>vs.getD i ez).toArray:=by rw[map_range];apply Bh.mp;rw[Array.toList_map,MW];exact List.map_snd_zip (bg _)
 rw[out];refine ah (xF ag rfl (ah (rq ag rfl ?_ (i7 _) (psz _ (.refl _)))));simp only[aN7,dj,aN2];refine aC (fin _ (.refl _) ?_);rw[dI] at h2;refine qX.mpr fun i j hi hj nD=>?_;rw[xu] at hj;lia;rw[aM5 h2,aM5 h2];rw[dI] at h2;have GN:2<=vs.length:=by lia
 refine ah (D0 GN g _ kg ?_);have W:Sg.Wt kd (kas_item (pairsOf vs)) (dU vs.length) #[] (SortSt.mk' kd (vs.toArray.zip vs.toArray) #[] 7 none):=⟨rfl,by
  have e:=kas_range (pairsOf vs);rw[pairsOf_size]at e;rw[Sg.sR,e];rfl,rfl,rfl⟩
 have run:=Sg.IC (prog:=prog) (w:=w) (A:=A) (E:=E) (s:={s with heap:=g}) (n:=vs.length) (r:=r) (Q:=fun _ st'=>failedOf st'=none/\∃pm:List Nat,arrOf st'=Sg.arr (kas_item (pairsOf vs)) pm/\pm.Perm (dU vs.length)/\pm.Pairwise (fun i j=>r i<=r j))
  (fun i j C hi hj hc=>by rw[Ff,Ff];exact gr GN g i j C kg hi hj hc) W (fun x hx=>l6.mp hx) fun p' st' q1 q2 q3 q4=>⟨q4,p',q3,q1,q2⟩
 refine ah (iI run ?_ fun _ _ e=>e);rintro ⟨⟨⟩,st'⟩ s' ⟨rfl,hf,pm,har,p1,p3⟩;dsimp only;have out:(arrOf st').map (·.2)=(pm.map fun i=>vs.getD i ez).toArray:=by rw[har,Sg.arr,FF,eZ];congr 1;refine uF fun i _=>?_;show(kas_item (pairsOf vs) i).2=_;rw[Ff]
 rw[out];refine ah (xF ag rfl (ah (rq ag rfl ?_ (i7 _) (psz _ p1))));rw[hf];simp only[aN7,dj,aN2];exact aC (fin pm p1 p3)
end
end So
end ag8
section aB9
namespace Dm
open PySem PyProof.Rows L2 HT
mutual
def fl:D->List Int
 | .int i=>[i]
 | .tup ds=>jF ds
 | .lst ds=>jF ds
 | _=>[]
def jF:List D->List Int
 | []=>[]
 | d::ds=>fl d++jF ds
end
mutual
def gZ:D->D->Bool
 | .int _,.int _=>true
 | .tup xs,.tup ys=>gk xs ys
 | .lst xs,.lst ys=>gk xs ys
 | _,_=>false
def gk:List D->List D->Bool
 | [],[]=>true
 | x::xs,y::ys=>gZ x y&&gk xs ys
 | _,_=>false
end
mutual
theorem wG:∀(x y:D),gZ x y=true->(fl x).length=(fl y).length
 | .int _,.int _,_=>rfl
 | .tup xs,.tup ys,h=>by rw[fl,fl];exact yg xs ys (by rw[gZ]at h;exact h)
 | .lst xs,.lst ys,h=>by rw[fl,fl];exact yg xs ys (by rw[gZ]at h;exact h)
 | .dh,y,h=>by cases y <;> simp[gZ]at h
 | .bl _,y,h=>by cases y <;> simp[gZ]at h
 | .str _,y,h=>by cases y <;> simp[gZ]at h
 | .d8 _ _,y,h=>by cases y <;> simp[gZ]at h
 | .int _,.dh,h=>by simp[gZ]at h
 | .int _,.bl _,h=>by simp[gZ]at h
 | .int _,.str _,h=>by simp[gZ]at h
 | .int _,.tup _,h=>by simp[gZ]at h
 | .int _,.lst _,h=>by simp[gZ]at h
 | .int _,.d8 _ _,h=>by simp[gZ]at h
 | .tup _,.dh,h=>by simp[gZ]at h
 | .tup _,.bl _,h=>by simp[gZ]at h
 | .tup _,.str _,h=>by simp[gZ]at h
 | .tup _,.int _,h=>by simp[gZ]at h
 | .tup _,.lst _,h=>by simp[gZ]at h
 | .tup _,.d8 _ _,h=>by simp[gZ]at h
 | .lst _,.dh,h=>by simp[gZ]at h
 | .lst _,.bl _,h=>by simp[gZ]at h
 | .lst _,.str _,h=>by simp[gZ]at h
 | .lst _,.int _,h=>by simp[gZ]at h
 | .lst _,.tup _,h=>by simp[gZ]at h
 | .lst _,.d8 _ _,h=>by simp[gZ]at h
theorem yg:∀(xs ys:List D),gk xs ys=true->(jF xs).length=(jF ys).length
 | [],[],_=>rfl
 | [],_::_,h=>by simp[gk]at h
 | _::_,[],h=>by simp[gk]at h
 | x::xs,y::ys,h=>by
  rw[gk,bR] at h;rw[jF,jF,cG,cG,wG x y h.1,yg xs ys h.2]
end
theorem gm(h:gZ x y=true):(∃i j,x = .int i/\y = .int j)\/(∃xs ys,x = .tup xs/\y = .tup ys/\gk xs ys=true)\/(∃xs ys,x = .lst xs/\y = .lst ys/\gk xs ys=true):=by
 cases x <;> cases y <;> simp[gZ]at h;exact .inl ⟨_,_,rfl,rfl⟩;exact .inr (.inl ⟨_,_,rfl,rfl,h⟩);exact .inr (.inr ⟨_,_,rfl,rfl,h⟩)
mutual
theorem BR:∀(x y:D),gZ x y=true->fl x=fl y->x=y
 | .int i,y,h,e=>by
  rcases gm h with⟨i',j,e1,rfl⟩|⟨_,_,e1,_⟩|⟨_,_,e1,_⟩;rw[fl,fl]at e;injection e with e;rw[e];cases e1;cases e1
 | .tup xs,y,h,e=>by
  rcases gm h with ⟨_,_,e1,_⟩ | ⟨rG,ys,e1,rfl,q⟩ | ⟨_,_,e1,_⟩;cases e1;obtain rfl:xs=rG:=by injection e1
  rw[fl,fl] at e;rw[sS xs ys q e];cases e1
 | .lst xs,y,h,e=>by
  rcases gm h with ⟨_,_,e1,_⟩ | ⟨_,_,e1,_⟩ | ⟨rG,ys,e1,rfl,q⟩;cases e1;cases e1;obtain rfl:xs=rG:=by injection e1
  rw[fl,fl] at e;rw[sS xs ys q e]
 | .dh,y,h,_=>by cases y <;> simp[gZ]at h
 | .bl _,y,h,_=>by cases y <;> simp[gZ]at h
 | .str _,y,h,_=>by cases y <;> simp[gZ]at h
 | .d8 _ _,y,h,_=>by cases y <;> simp[gZ]at h
theorem sS:∀(xs ys:List D),gk xs ys=true->jF xs=jF ys->xs=ys
 | [],[],_,_=>rfl
 | [],_::_,h,_=>by simp[gk]at h
 | _::_,[],h,_=>by simp[gk]at h
 | x::xs,y::ys,h,e=>by
  rw[gk,bR] at h;rw[jF,jF]at e;obtain⟨e1,e2⟩:=Mu e (wG x y h.1);rw[BR x y h.1 e1,sS xs ys h.2 e2]
end
mutual
theorem yh:∀(x y:D),gZ x y=true->flat x=true/\flat y=true
 | .int i,y,h=>by
  rcases gm h with ⟨_,j,_,rfl⟩ | ⟨_,_,e1,_⟩ | ⟨_,_,e1,_⟩;exact⟨by rw[flat] <;> simp,by rw[flat] <;> simp⟩;cases e1;cases e1
 | .tup xs,y,h=>by
  rcases gm h with ⟨_,_,e1,_⟩ | ⟨rG,ys,e1,rfl,q⟩ | ⟨_,_,e1,_⟩;cases e1;obtain rfl:xs=rG:=by injection e1
  rw[flat,flat];exact uW xs ys q;cases e1
 | .lst xs,y,h=>by
  rcases gm h with ⟨_,_,e1,_⟩ | ⟨_,_,e1,_⟩ | ⟨rG,ys,e1,rfl,q⟩;cases e1;cases e1;obtain rfl:xs=rG:=by injection e1
  rw[flat,flat];exact uW xs ys q
 | .dh,y,h=>by cases y <;> simp[gZ]at h
 | .bl _,y,h=>by cases y <;> simp[gZ]at h
 | .str _,y,h=>by cases y <;> simp[gZ]at h
 | .d8 _ _,y,h=>by cases y <;> simp[gZ]at h
theorem uW:∀(xs ys:List D),gk xs ys=true->cC xs=true/\cC ys=true
 | [],[],_=>⟨by rw[cC],by rw[cC]⟩
 | [],_::_,h=>by simp[gk]at h
 | _::_,[],h=>by simp[gk]at h
 | x::xs,y::ys,h=>by
  rw[gk,bR] at h;obtain⟨a,b⟩:=yh x y h.1;obtain⟨c,d⟩:=uW xs ys h.2;rw[cC,cC,a,b,c,d];exact⟨rfl,rfl⟩
end
mutual
theorem Of:∀(x y:D),gZ x y=true->j7 x y=decide (fl x=fl y)
 | .int i,y,h=>by
  rcases gm h with ⟨_,j,_,rfl⟩ | ⟨_,_,e1,_⟩ | ⟨_,_,e1,_⟩;rw[j7,fl,fl];by_cases c:i=j;subst c;simp;simp[c];cases e1;cases e1
 | .tup xs,y,h=>by
  rcases gm h with ⟨_,_,e1,_⟩ | ⟨rG,ys,e1,rfl,q⟩ | ⟨_,_,e1,_⟩;cases e1;obtain rfl:xs=rG:=by injection e1
  rw[j7,fl,fl];exact wH xs ys q;cases e1
 | .lst xs,y,h=>by
  rcases gm h with ⟨_,_,e1,_⟩ | ⟨_,_,e1,_⟩ | ⟨rG,ys,e1,rfl,q⟩;cases e1;cases e1;obtain rfl:xs=rG:=by injection e1
  rw[j7,fl,fl];exact wH xs ys q
 | .dh,y,h=>by cases y <;> simp[gZ]at h
 | .bl _,y,h=>by cases y <;> simp[gZ]at h
 | .str _,y,h=>by cases y <;> simp[gZ]at h
 | .d8 _ _,y,h=>by cases y <;> simp[gZ]at h
theorem wH:∀(xs ys:List D),gk xs ys=true->fm xs ys=decide (jF xs=jF ys)
 | [],[],_=>by rw[fm];simp[jF]
 | [],_::_,h=>by simp[gk]at h
 | _::_,[],h=>by simp[gk]at h
 | x::xs,y::ys,h=>by
  rw[gk,bR] at h;rw[fm,Of x y h.1,wH xs ys h.2,jF,jF];have l:=wG x y h.1;by_cases c1:fl x=fl y;rw[c1];by_cases c2:jF xs=jF ys;rw[c2];simp;simp[c2];have:¬ (fl x++jF xs=fl y++jF ys):=fun z=>c1 (Mu z l).1;simp[c1,this]
end
theorem wI:∀{a c b d:List Int},a.length=c.length->lexLt (a++b) (c++d)=if a=c then lexLt b d else lexLt a c
 | [],[],b,d,_=>by simp
 | x::a,y::c,b,d,h=>by
  rw[Bb,Bb,dQ,dQ,wI (a:=a) (c:=c) (by simpa using h)];by_cases e:x=y;subst e;by_cases e2:a=c;subst e2;simp;simp[e2];simp[e]
theorem sU:∀a:List Int,lexLt a a=false
 | []=>rfl
 | x::a=>by rw[dQ,aM4 rfl];exact sU a
theorem BS:∀a b:List Int,lexLt a b=false->lexLt b a=false->a=b
 | [],[],_,_=>rfl
 | [],_::_,h,_=>by rw[p7]at h;cases h
 | _::_,[],_,h=>by rw[p7]at h;cases h
 | x::a,y::b,h1,h2=>by
  rw[dQ]at h1 h2;by_cases e:x=y;subst e;rw[aM4 rfl]at h1 h2;rw[BS a b h1 h2];rw[aM5 e]at h1;rw[aM5 (fun z=>e z.symm)]at h2;have:=aN8 h1;have:=aN8 h2;lia
theorem lex_trans:∀a b c:List Int,lexLt a b=true->lexLt b c=true->lexLt a c=true
 | [],[],_,h,_=>by rw[iU]at h;cases h
 | [],_::_,[],_,h=>by rw[lE]at h;cases h
 | [],_::_,_::_,_,_=>rfl
 | _::_,[],_,h,_=>by rw[lE]at h;cases h
 | _::_,_::_,[],_,h=>by rw[lE]at h;cases h
 | x::a,y::b,z::c,h1,h2=>by
  rw[dQ]at h1 h2 ⊢;by_cases e1:x=y;subst e1;rw[aM4 rfl]at h1;by_cases e2:x=z;subst e2;rw[aM4 rfl]at h2 ⊢;exact lex_trans a b c h1 h2;rw[aM5 e2]at h2 ⊢;exact h2;rw[aM5 e1]at h1;have k1:=aN0 h1;by_cases e2:y=z;subst e2;rw[aM5 e1];exact h1;rw[aM5 e2]at h2;have k2:=aN0 h2;rw[aM5 (by lia)];exact aM6 (by lia)
theorem Og(a b:List Int)(h:lexLt a b=true):lexLt b a=false:=by
 cases q:lexLt b a with
 | false=>rfl
 | true=>have:=lex_trans a b a h q;rw[sU]at this;cases this
def qC(a b:List Int):Bool:=!lexLt b a
theorem JQ(a b:List Int):(qC a b || qC b a)=true:=by
 unfold qC;cases q:lexLt b a with
 | false=>rfl
 | true=>rw[Og b a q];rfl
theorem Ao(a b c:List Int)(h1:qC a b=true)(h2:qC b c=true):qC a c=true:=by
 unfold qC at h1 h2 ⊢;have h1:lexLt b a=false:=by simpa using h1
 have h2:lexLt c b=false:=by simpa using h2
 cases q:lexLt c a with
 | false=>rfl
 | true=>
  by_cases e:a=b;subst e;rw[h2]at q;cases q;have:lexLt a b=true:=by
   cases z:lexLt a b with
   | true=>rfl
   | false=>exact aN6 (BS a b z h1) e
  have:=lex_trans c a b q this;rw[h2]at this;cases this
theorem sV(a b:List Int)(h1:qC a b=true)(h2:qC b a=true):a=b:=BS a b (by simpa[qC]using h2) (by simpa[qC]using h1)
def eO(ds:List D):List D:=ds.mergeSort fun a b=>qC (fl a) (fl b)
theorem bZ(ds:List D):(eO ds).Perm ds:=List.mergeSort_perm _ _
theorem jW(ds:List D):(eO ds).Pairwise fun a b=>qC (fl a) (fl b)=true:=
 List.pairwise_mergeSort (le:=fun a b=>qC (fl a) (fl b)) (fun a b c=>Ao (fl a) (fl b) (fl c)) (fun a b=>JQ (fl a) (fl b)) ds
theorem jB{es:List D}(hs:∀a∈ds,∀b∈ds,gZ a b=true)(hp:es.Perm ds)(hw:es.Pairwise fun a b=>qC (fl a) (fl b)=true):es=eO ds:=by
 refine Bp (le:=fun a b=>qC (fl a) (fl b)=true) (fun a b ha hb h1 h2=>?_) hw (jW ds) (hp.trans (bZ ds).symm);exact BR a b (hs a (hp.mem_iff.mp ha) b ((bZ ds).mem_iff.mp hb)) (sV _ _ h1 h2)
end Dm
end aB9
section ag9
namespace Dm
open PySem PyProof.Rows L2 HT PySem.SeqAt
def Wz(A:cH)(s:aA)(u v:av)(b:Bool):Prop:=
 ∀(prog:dG) (w:bQ) (E:av->aA->Prop) (Q:av->aA->Prop),Q (.bool b) s->aB (aD prog w) A (richCompare .Lt u v) Q E s
inductive PL(A:cH)(s:aA):List av->List av->List D->List D->Prop
 | nil:PL A s [] [] [] []
 | cons {v w:av} {x y:D} {vs ws:List av} {xs ys:List D}:EqAt A s v w (decide (fl x=fl y))->Wz A s v w (lexLt (fl x) (fl y))->(fl x).length=(fl y).length->PL A s vs ws xs ys->PL A s (v::vs) (w::ws) (x::xs) (y::ys)
theorem PL.len(h:PL A s vs ws xs ys):vs.length=ws.length:=by
 induction h with
 | nil=>rfl
 | cons _ _ _ _ ih=>rw[dg,dg,ih]
section
open PySem.AutoSeq1 (wpAny_loadPart')
open PySem.MeetsSeq PySem.MeetsSeq2 PySem.MeetsSeq3
theorem GO(l b:ay)(items BU:Array av)(n n2:Nat)(dd YS:Option ay)(sl YT:Array (Option av))(xs ys:List D) :
  Meets (Builtin.«tuple.__lt__» ⟨[.ref l,.ref b],[]⟩) (fun A R s=>
   s.heap.get? l=some {cls:=.type "tuple",dict:=dd,data:=.seq items n,slots:=sl}/\
   s.heap.get? b=some {cls:=.type "tuple",dict:=YS,data:=.seq BU n2,slots:=YT}/\
   PL A.in1 s items.toList BU.toList xs ys/\R (.ok (.ret (.bool (lexLt (jF xs) (jF ys))))) s):=
 .of_wp fun prog w A R s h=>by
  obtain ⟨hp,g,d,tk,os⟩:=s;obtain⟨hl,hb,hP,h⟩:=h;have f2:=AutoSeq1.sub_tuple_tuple;have BV:items.size=BU.size:=by simpa using hP.len
  wp_walk using k9 hl,k9 hb,mC _ (fun rest b s'=>b.1=none/\s'=⟨hp,g,d,tk,os⟩/\∃(vs ws:List av) (rG ID:List D),rest=vs.zip ws/\
   PL A.in1 ⟨hp,g,d,tk,os⟩ vs ws rG ID/\R (.ok (.ret (.bool (lexLt (jF rG) (jF ID))))) ⟨hp,g,d,tk,os⟩) _
  case turn=>
   rintro⟨y,x⟩ rest b s' ⟨mW,rfl,vs,ws,rG,ID,hz,hP',hR⟩;cases hP' with
   | nil=>cases hz
   | @cons v0 w0 x0 y0 _ _ _ _ he gr hfl aC0=>
    rw[Mv] at hz;injection hz with hyx Oh;injection hyx with hy hx;subst hy hx;rw[jF,jF,wI hfl]at hR;refine ah (he prog w _ _ ?_);by_cases c:fl x0=fl y0;rw[aM4 c] at hR;rw[aM6 c]
    wp_walk
    exact⟨rfl,rfl,_,_,_,_,Oh,aC0,hR⟩;rw[aM5 c] at hR;rw[aM7 c];have hri:=gr prog w
    wp_walk using hri
    exact⟨_,rfl,by simpa using hR⟩
  case fin=>
   rintro⟨b1,b2⟩ s' ⟨mW,rfl,vs,ws,rG,ID,hz,hP',hR⟩;simp only at mW;subst mW;cases hP' with
   | cons _ _ _ _=>cases hz
   | nil=>
    wp_walk
    refine⟨_,rfl,?_⟩;simpa[Builtin.Tuple.tupleCompareSizes,BV,jF,iU]using hR
  case h=>exact⟨rfl,rfl,items.toList,BU.toList,xs,ys,rfl,hP,h⟩
end
mutual
def nl:D->Bool
 | .lst _=>false
 | .tup ds=>GP ds
 | _=>true
def GP:List D->Bool
 | []=>true
 | d::ds=>nl d&&GP ds
end
section
mutual
theorem WA:∀(x y:D) {A:cH} {u v:av},gZ x y=true->nl x=true->fH s.heap x u->fH s.heap y v->A.units+dep x<cLine->Wz A s u v (lexLt (fl x) (fl y))
 | .int i,y,A,u,v,h,_,hu,hv,_=>by
  rcases gm h with ⟨_,j,_,rfl⟩ | ⟨_,_,e1,_⟩ | ⟨_,_,e1,_⟩;rw[fH] at hu;rw[fH] at hv;obtain⟨t,rfl⟩:=hu;obtain⟨t',rfl⟩:=hv;intro prog w E Q hq;refine NU A s i t j t' prog w E Q ?_;rw[fl,fl,dQ,iU]at hq;by_cases c:i=j;rw[aM4 c] at hq;rw[aM7 (by lia)];exact hq;rw[aM5 c]at hq;exact hq;cases e1;cases e1
 | .tup xs,y,A,u,v,h,hn,hu,hv,hr=>by
  rcases gm h with ⟨_,_,e1,_⟩ | ⟨rG,ys,e1,rfl,q⟩ | ⟨_,_,e1,_⟩;cases e1;obtain rfl:xs=rG:=by injection e1
  rw[fH] at hu;rw[fH] at hv;refine bA hu fun a it b8 t1 p1=>?_;clear hu;obtain rfl:=b8;refine bA hv fun b UP b8 t2 p2=>?_;clear hv;obtain rfl:=b8;rw[dep]at hr;rw[nl]at hn;obtain⟨⟨cls,dd,data,sl⟩,ho,hc,n,hd⟩:=id t1;obtain⟨⟨ah0,YS,data2,YT⟩,UQ,Ls,n2,hd2⟩:=id t2;simp only at hc hd Ls hd2;subst hc hd Ls hd2;intro prog w E Q hq;rw[fl,fl]at hq;exact LM (op:=.Lt) ⟨_,ho,rfl⟩ ⟨_,UQ,rfl⟩ PySem.F.slot_tuple_lt PySem.F.entry_tuple_lt (PySem.F.args_tuple_lt_2 _ _) (GO a b it UP n n2 dd YS sl YT xs ys)
   ⟨ho,UQ,RV xs ys q hn p1 p2 (A:=A.in1) (by show A.units+1+_<_;lia),show Value.bool (lexLt (jF xs) (jF ys))≠Value.notImplemented/\Q _ s from⟨(fun x=>nomatch x),hq⟩⟩ (by lia)
  cases e1
 | .lst xs,y,A,u,v,h,hn,_,_,_=>by rw[nl]at hn;cases hn
 | .dh,y,_,_,_,h,_,_,_,_=>by cases y <;> simp[gZ]at h
 | .bl _,y,_,_,_,h,_,_,_,_=>by cases y <;> simp[gZ]at h
 | .str _,y,_,_,_,h,_,_,_,_=>by cases y <;> simp[gZ]at h
 | .d8 _ _,y,_,_,_,h,_,_,_,_=>by cases y <;> simp[gZ]at h
theorem RV:∀(xs ys:List D) {A:cH} {vs ws:List av},gk xs ys=true->GP xs=true->bI s.heap xs vs->bI s.heap ys ws->A.units+kN xs<cLine->PL A s vs ws xs ys
 | [],[],A,vs,ws,_,_,h1,h2,_=>by rw[bI]at h1 h2;subst h1;subst h2;exact .nil
 | [],_::_,_,_,_,h,_,_,_,_=>by simp[gk]at h
 | _::_,[],_,_,_,h,_,_,_,_=>by simp[gk]at h
 | x::xs,y::ys,A,vs,ws,h,hn,h1,h2,hr=>by
  rw[bI] at h1;rw[bI] at h2;refine bA h1 fun v r b8 a1 a2=>?_;clear h1;obtain rfl:=b8;refine bA h2 fun v' r' b8 b1 b2=>?_;clear h2;obtain rfl:=b8;rw[gk,bR] at h;rw[GP,bR]at hn;rw[kN]at hr;obtain⟨f1,f2⟩:=yh x y h.1;refine .cons ?_ (WA x y h.1 hn.1 a1 b1 (by lia)) (wG x y h.1) (RV xs ys h.2 hn.2 a2 b2 (by lia));rw[<- Of x y h.1];exact pB x y f1 f2 a1 b1 (by lia)
end
end
end Dm
end ag9
section ah1
namespace Dm
open PySem PySem.W PyProof.Rows L2 HT PySem.SeqAt So
mutual
theorem fH.keep{h h':aY}(k:∀b o,h.get? b=some o->h'.get? b=some o):∀(d:D) {v:av},fH h d v->fH h' d v
 | .dh,v,q=>by rw[fH]at q ⊢;exact q
 | .bl b,v,q=>by rw[fH]at q ⊢;exact q
 | .int i,v,q=>by rw[fH]at q ⊢;exact q
 | .str x,v,q=>by rw[fH]at q ⊢;exact q
 | .tup ds,v,q=>by
  rw[fH] at q ⊢;refine bA q fun a it e t p=>?_;clear q;exact⟨a,it,e,t.keeps k,bI.keep k ds p⟩
 | .lst ds,v,q=>by
  rw[fH] at q ⊢;refine bA q fun a it e t p=>?_;clear q;exact⟨a,it,e,t.keeps k,bI.keep k ds p⟩
 | .d8 tb ds,v,q=>by rw[fH]at q;exact q.elim
theorem bI.keep{h h':aY}(k:∀b o,h.get? b=some o->h'.get? b=some o):∀(ds:List D) {vs:List av},bI h ds vs->bI h' ds vs
 | [],_,q=>by rw[bI]at q ⊢;exact q
 | d::ds,_,q=>by
  rw[bI]at q ⊢;refine bA q fun v r e a b=>?_;clear q;exact⟨v,r,e,fH.keep k d a,bI.keep k ds b⟩
end
theorem bI.of_map(f:α->D)(g:α->av):∀(l:List α),(∀x∈l,fH h (f x) (g x))->bI h (l.map f) (l.map g)
 | [],_=>by rw[nI,bI];rfl
 | x::l,hx=>by
  rw[bG,bG,bI];exact⟨_,_,rfl,hx x (.head _),bI.of_map f g l fun y hy=>hx y (.tail _ hy)⟩
theorem GQ{p q:α->Bool}:∀(l:List α),(∀x∈l,p x=true->q x=true)->l.countP p<=l.countP q
 | [],_=>bg _
 | x::l,h=>by
  rw[xw,xw];have ih:=GQ l fun y hy=>h y (.tail _ hy);by_cases c:p x=true;rw[aM4 c,aM4 (h x (.head _) c)];lia;rw[aM5 c];lia
theorem Oi{p q:α->Bool}:∀(l:List α),(∀x∈l,p x=true->q x=true)->∀z∈l,q z=true->p z=false->l.countP p<l.countP q
 | x::l,h,z,hz,hq,hp=>by
  rw[xw,xw];rcases bW.mp hz with e|e;subst e;rw[aM5 (by rw[hp];exact jo),aM4 hq];have:=GQ l fun y hy=>h y (.tail _ hy);lia;have ih:=Oi l (fun y hy=>h y (.tail _ hy)) z e hq hp;by_cases c:p x=true;rw[aM4 c,aM4 (h x (.head _) c)];lia;rw[aM5 c];lia
def rk(ds:List D)(i:Nat):Nat:=(dU ds.length).countP fun j=>lexLt (fl (ds.getD j .dh)) (fl (ds.getD i .dh))
theorem IE(ds:List D)(hi:i<ds.length):lexLt (fl (ds.getD i .dh)) (fl (ds.getD j .dh))=decide (rk ds i<rk ds j):=by
 cases q:lexLt (fl (ds.getD i .dh)) (fl (ds.getD j .dh))with
 | true=>refine(aM6 ?_).symm;exact Oi _ (fun k _ hk=>lex_trans _ _ _ hk q) i (l6.mpr hi) q (sU _)
 | false=>
  refine(aM7 (Fp.mpr ?_)).symm;refine GQ _ fun k _ hk=>?_;cases z:lexLt (fl (ds.getD k .dh)) (fl (ds.getD i .dh))with
  | true=>rfl
  | false=>
   have a:qC (fl (ds.getD i .dh)) (fl (ds.getD k .dh))=true:=by unfold qC;rw[z];rfl
   have b:qC (fl (ds.getD j .dh)) (fl (ds.getD i .dh))=true:=by unfold qC;rw[q];rfl
   have c:=Ao _ _ _ b a;unfold qC at c;rw[hk]at c;cases c
inductive Sk:List D->iO->Prop
 | lZ {ds:List D} {kd:iO}:ds.length<2->Sk ds kd
 | nums {ds:List D}:(∀d∈ds,∃i,d = .int i)->Sk ds oneType'
 | oY {ds:List D}:(∀d∈ds,∃i xs,d = .tup (.int i::xs))->Sk ds (tuples' true)
 | WB {ds:List D}:(∀d∈ds,∃ys xs,d = .tup (.tup ys::xs))->Sk ds (tuples' false)
section
theorem BW(i j:Int):lexLt [i] [j]=decide (i<j):=by
 rw[dQ,iU];by_cases c:i=j;rw[aM4 c,aM7 (by lia)];rw[aM5 c]
theorem Dj{Q:Bool->aA->Prop}:∀(xs ys:List D) (vs ws:List av) (i:Nat),(b=true->i=0->∃m n rG ID,xs = .int m::rG/\ys = .int n::ID)->gk xs ys=true->PL A s vs ws xs ys->bI s.heap xs vs->bI s.heap ys ws->fin=false->Q (lexLt (jF xs) (jF ys)) s->
  KatLex prog w A b fin Q (vs.zip ws) i s
 | [],[],vs,ws,i,_,_,hP,h1,h2,hf,hq=>by
  rw[bI]at h1 h2;subst h1;subst h2;show Q fin s;rw[hf];exact hq
 | [],_::_,_,_,_,_,h,_,_,_,_,_=>by simp[gk]at h
 | _::_,[],_,_,_,_,h,_,_,_,_,_=>by simp[gk]at h
 | x::xs,y::ys,vs,ws,i,hb,h,hP,h1,h2,hf,hq=>by
  rw[bI] at h1;rw[bI] at h2;refine bA h1 fun v r b8 a1 a2=>?_;clear h1;obtain rfl:=b8;refine bA h2 fun v' r' b8 b1 b2=>?_;clear h2;obtain rfl:=b8;rw[gk,bR] at h;cases hP with
  | cons he hl hfl hP'=>
   rw[jF,jF,wI hfl]at hq;refine kat_cons (he prog w _ _ (kat_go (fun c=>kat_yes ?_) (fun c=>kat_no ?_)));have c:=aN0 c;rw[aM4 c] at hq;exact Dj xs ys r r' (i+1) (fun _ z=>aN6 z (Nat.succ_ne_zero _)) h.2 hP' a2 b2 hf hq;have c:=aN8 c;rw[aM5 c]at hq;by_cases mW:b=true/\i=0;obtain⟨hb1,YU⟩:=mW;refine at6 (hb hb1 YU) fun m n _ _ e1 e2=>?_;obtain⟨rfl,_⟩:x = .int m/\_:=Nc e1;obtain⟨rfl,_⟩:y = .int n/\_:=Nc e2;rw[fH]at a1;rw[fH]at b1;obtain⟨t,rfl⟩:=a1;obtain⟨t',rfl⟩:=b1;rw[hb1,YU];refine oneLt_int ?_;rw[fl,fl,BW]at hq;exact hq;have:(b&&i==0)=false:=by
    cases b with
    | false=>rfl
    | true=>have:i≠0:=fun z=>mW ⟨rfl,z⟩;simp[this]
   rw[this];exact kat_one _ _ (hl prog w _ _ (show PySem.W.BoolBack Q (.bool (lexLt (fl x) (fl y))) s from hq))
theorem m6(p:bI h ds vs)(hi:i<ds.length):fH h (ds.getD i .dh) (vs.getD i ez)/\ds.getD i .dh∈ds:=by
 have hv:i<vs.length:=by rw[p.len];exact hi
 obtain⟨a,b⟩:=p.get i hv;have e:vs.getD i ez=vs[i]:=by simp[hv]
 rw[e];exact⟨a,b⟩
theorem WC{C:Bool->aA->Prop}(k:Sk ds kd)(h2:2<=ds.length)(hs:∀a∈ds,∀b∈ds,gZ a b=true)(hn:∀a∈ds,nl a=true)(hd:∀a∈ds,A.units+dep a<cLine)(p:bI s.heap ds vs)
  (hi:i<ds.length) (hj:j<ds.length) (hc:C (decide (rk ds i<rk ds j)) s):aB (aD prog w) A (keyLt' kd (vs.getD i ez) (vs.getD j ez)) C (fun _ _=>False) s:=by
 rw[<- IE ds hi] at hc;obtain ⟨ai,mi⟩:=m6 p hi;obtain ⟨aj,mj⟩:=m6 p hj;generalize ds.getD i .dh=x at hc ai mi;generalize ds.getD j .dh=y at hc aj mj;have tup:∀{b:Bool} {xs ys:List D},x = .tup xs->y = .tup ys->(b=true->∃m n rG ID,xs = .int m::rG/\ys = .int n::ID)->aB (aD prog w) A (keyLt' (tuples' b) (vs.getD i ez) (vs.getD j ez)) C (fun _ _=>False) s:=by intro b xs ys ex ey hb;have sh:=hs x mi y mj;have nx:=hn x mi;have dx:=hd x mi;subst ex;subst ey;rw[gZ]at sh;rw[nl]at nx;rw[dep]at dx;rw[fH] at ai;rw[fH] at aj;refine bA ai fun a it e1 rE p1=>?_;clear ai;obtain ⟨o1,q1,_,n1,d1⟩:=rE;refine bA aj fun b' UP e2 rE p2=>?_;clear aj;obtain ⟨o2,q2,_,n2,d2⟩:=rE;rw[e1,e2];have P:=RV xs ys (A:=A) sh nx p1 p2 (by lia);refine kat_lt q1 d1 q2 d2 (Dj xs ys _ _ 0 (fun h _=>hb h) sh P p1 p2 (aM7 ?_) ?_);have:it.toList.length=UP.toList.length:=P.len;simp at this;lia;rw[fl,fl]at hc;exact hc
 cases k with
 | lZ h=>lia
 | nums h=>obtain⟨m,rfl⟩:=h x mi;obtain⟨n,rfl⟩:=h y mj;rw[fH] at ai;rw[fH] at aj;obtain⟨t,e1⟩:=ai;obtain⟨t',e2⟩:=aj;rw[e1,e2,keyLt'_oneType];refine oneLt_int ?_;rw[fl,fl,BW]at hc;exact hc
 | oY h=>refine rC (h x mi) fun m xs e1=>?_;refine rC (h y mj) fun n ys e2=>?_;exact tup e1 e2 fun _=>⟨m,n,xs,ys,rfl,rfl⟩
 | WB h=>refine rC (h x mi) fun m xs e1=>?_;refine rC (h y mj) fun n ys e2=>?_;exact tup e1 e2 fun z=>nomatch z
theorem BX:∀{ds:List D} {vs:List av} (f:D->Prop),(∀d∈ds,∃x xs,d = .tup (x::xs)/\f x)->bI h ds vs->∃fs:List av,fs.length=ds.length/\KatTups h vs fs/\∀v∈fs,∃x,f x/\fH h x v
 | [],vs,f,_,p=>by
  rw[bI]at p;subst p;exact⟨[],rfl,.nil,fun v hv=>aN6 hv (by simp)⟩
 | d::ds,vs,f,hd,p=>by
  rw[bI]at p;refine bA p fun v r b8 a b=>?_;clear p;obtain rfl:=b8;refine cM (BX f (fun d QX=>hd d (.tail _ QX)) b) fun fs l k e=>?_;refine dO (hd d (.head _)) fun x xs b8 fx=>?_;obtain rfl:=b8;rw[fH] at a;refine bA a fun ad it b8 rE p1=>?_;clear a;obtain rfl:=b8;obtain⟨o1,q1,c1,n1,d1⟩:=rE;rw[bI]at p1;refine bA p1 fun y r' e1 a1 _=>?_;clear p1;refine⟨y::fs,by rw[dg,dg,l],.cons q1 c1 d1 ?_ k,fun z hz=>?_⟩;rw[<- l9,e1];rfl;rcases bW.mp hz with rfl | hz;exact⟨x,fx,a1⟩;exact e z hz
theorem Dk{Q:iO->aA->Prop}(k:Sk ds kd)(h2:2<=ds.length)(p:bI s.heap ds vs)(hq:Q kd s):aB (aD prog w) A (keyKind' vs.toArray) Q E s:=by
 cases k with
 | lZ h=>lia
 | nums h=>refine kas_kind (T:=.type "int") (by rw[p.len];exact h2) (fun v hv=>?_) (by decide) (by decide) hq;obtain⟨i,hi,e⟩:=j4.mp hv;obtain⟨a,b⟩:=p.get i hi;obtain⟨m,em⟩:=h _ b;rw[em,fH]at a;obtain⟨t,et⟩:=a;rw[<- e,et];exact Looks.now
 | oY h=>obtain⟨fs,l,kt,e⟩:=BX (fun x=>∃i,x = .int i) (fun d hd=>by obtain⟨i,xs,e⟩:=h d hd;exact⟨_,xs,e,i,rfl⟩) p;refine kat_kind (T:=.type "int") kt (by lia) (fun v hv=>?_) (by decide) hq;refine aU (e v hv) fun x je q=>?_;obtain⟨i,rfl⟩:=je;rw[fH]at q;obtain⟨t,rfl⟩:=q;exact Looks.now
 | WB h=>obtain⟨fs,l,kt,e⟩:=BX (fun x=>∃ys,x = .tup ys) (fun d hd=>by obtain⟨ys,xs,e⟩:=h d hd;exact⟨_,xs,e,ys,rfl⟩) p;refine kat_kind (T:=.type "tuple") kt (by lia) (fun v hv=>?_) (by decide) hq;refine aU (e v hv) fun x je q=>?_;obtain⟨ys,rfl⟩:=je;rw[fH]at q;refine bA q fun a it b8 rE _=>?_;clear q;obtain rfl:=b8;obtain⟨o1,q1,c1,_⟩:=rE;have lk:Looks (aD prog w) s.heap (typeOf (.ref a)) o1.cls:=(Looks.ld q1).andThen .now;rw[c1]at lk;exact lk
def SG(prog:dG)(w:bQ)(A:cH)(es:List D)(kd:iO)(vs:List av):Prop:=es.length<=cU/\(∀a∈es,∀b∈es,fl a=fl b->a=b)/\∀(A':cH) (s:aA),A'.units=A.units+2->2<=es.length->bI s.heap es vs->
 (∀E (R:iO->aA->Prop),R kd s->aB (aD prog w) A' (keyKind' vs.toArray) R E s)/\∀i j C,i<es.length->j<es.length->C (decide (rk es i<rk es j)) s->aB (aD prog w) A' (keyLt' kd (vs.getD i ez) (vs.getD j ez)) C (fun _ _=>False) s
theorem vH{Pd:List D->iO->List av->Prop}{Q:av->aA->Prop}(hk:∀es kd vs,Pd es kd vs->SG prog w A es kd vs)
  (aC1:∀R:List av->aA->Prop,(∀h' tk es kd vs,(∀b ob,s.heap.get? b=some ob->h'.get? b=some ob)->Pd es kd vs->bI h' es vs->R vs {s with heap:=h',toks:=tk})->aB (aD prog w) A.in1 (collect v) R E s)
  (h:∀(h1 h':aY) tk es kd vs L n (pm:List Nat),(∀b ob,s.heap.get? b=some ob->h1.get? b=some ob)->(∀b ob,h1.get? b=some ob->h'.get? b=some ob)->Pd es kd vs->bI h1 es vs->h1.objs.size<=L->(∀i∈pm,i<es.length)->eO es=pm.map (fun i=>es.getD i .dh)->
   h'.get? L=some (cJ "list" (pm.map fun i=>vs.getD i ez).toArray n)->Q (.ref L) {s with heap:=h',toks:=tk}) :
  aB (aD prog w) A (call (.builtin "sorted") [v]) Q E s:=by
 refine Calls.call_function_entry kind_sorted plain_sorted entry_sorted (args_sorted1 _) ?_;unfold Builtin.«sorted»;refine ah (m:=checkCount "sorted" 1 1 _) (aC (ah (aC1 _ fun h1 tk es kd vs k1 pd p=>?_)));obtain⟨lz,ij,sk⟩:=hk es kd vs pd;have lv:vs.length=es.length:=p.len;refine ah (x6 ?_ (by lia));have oL:(h1.push (cJ "list" vs.toArray 0)).get? h1.objs.size=some (cJ "list" vs.toArray 0):=eV _ rfl;have nk:∀h',Keeps h1.objs.size (h1.push (cJ "list" vs.toArray 0)) h'->∀b ob,h1.get? b=some ob->h'.get? b=some ob:=fun h' kh b ob e=>kh b ob (dH (cu e)) (bU _ e);refine ah (jh (iK slot_list_sort ⟨_,oL,rfl⟩ entry_list_sort ?body (args_list_sort _)));case body=>
  refine zE (kd:=kd) (r:=rk es) (s:={s with heap:=h1.push (cJ "list" vs.toArray 0),toks:=tk}) oL (by lia) (fun h2 h' R kh hR=>(sk _ _ rfl (by lia) (p.keep (nk h' kh))).1 _ R hR) (fun h2 h' i j C kh hi hj hC=>(sk _ _ rfl (by lia) (p.keep (nk h' kh))).2 i j C (by lia) (by lia) hC) fun h' n' pm kh hp hu ho=>?_;rw[lv] at hp;have lt:∀i∈pm,i<es.length:=fun i hi=>l6.mp (hp.mem_iff.mp hi);refine⟨_,rfl,aC ⟨_,rfl,h h1 h' tk es kd vs _ n' pm k1 (nk h' kh) pd p (bg _) lt ?_ ho⟩⟩;have pe:(pm.map fun i=>es.getD i D.dh).Perm es:=by have:=hp.map fun i=>es.getD i D.dh;rwa [So.map_range]at this
  refine(Bp (le:=fun a b=>qC (fl a) (fl b)=true) (fun a b ha hb h1 h2=>ij a ((bZ es).mem_iff.mp ha) b (pe.mem_iff.mp hb) (sV _ _ h1 h2)) (jW es) ?_ ((bZ es).trans pe.symm));rw[Bc];refine hu.imp_of_mem fun {i j} hi hj nD=>?_;unfold qC;rw[IE es (lt j hj),aM7 (by lia)];rfl
theorem sgS(sk:Sk es kd)(l:es.length<64)(hs:∀a∈es,∀b∈es,gZ a b=true)(hn:∀a∈es,nl a=true)(hd:∀a∈es,A.units+2+dep a<cLine):SG prog w A es kd vs:=
 ⟨cI (ji l) (by rw[gG];decide),fun a ha b hb=>BR a b (hs a ha b hb),fun A' s e h2 p=>⟨fun E R hR=>Dk sk h2 p hR,fun i j C=>WC sk h2 hs hn (fun a ha=>by rw[e];exact hd a ha) p⟩⟩
end
end Dm
end ah1
section aC2
namespace Dm
open PySem PyProof.Rows L2 PySem.SeqAt
section
theorem RW{A:cH}(x:Vw s.heap d u)(y:Vw s.heap e v)(ig:A.units<cLine)(hn:dep d=n)(fx:flat d=true)(fy:flat e=true)
  (ht:∀{xs ys:List D} {a b:ay} {bq k7:Array av},dep (.tup xs)=n->cC xs=true->cC ys=true->IsTup s.heap a bq->bI s.heap xs bq.toList->IsTup s.heap b k7->bI s.heap ys k7.toList->RcAt A s (.ref a) (.ref b) (fm xs ys))
  (hl:∀{xs ys:List D} {a b:ay} {bq k7:Array av},dep (.lst xs)=n->cC xs=true->cC ys=true->PlainL s.heap a bq->bI s.heap xs bq.toList->PlainL s.heap b k7->bI s.heap ys k7.toList->RcAt A s (.ref a) (.ref b) (fm xs ys)):RcAt A s u v (j7 d e):=by
 cases x with
 | dh=>
  cases y with
  | dh=>exact RcAt.none_none
  | bl c=>exact RcAt.none_bool c
  | int j r=>exact RcAt.none_int j r
  | str y r=>exact RcAt.none_str y r
  | tup q' p'=>exact RcAt.none_tuple (aS q') ig
  | lst q' p'=>exact RcAt.none_list q'.isList ig
 | bl b=>
  cases y with
  | dh=>exact RcAt.bool_none b
  | bl c=>exact RcAt.bool_bool b c
  | int j r=>exact RcAt.bool_int b j r
  | str y r=>exact RcAt.bool_str b y r
  | tup q' p'=>exact RcAt.bool_tuple b (aS q') ig
  | lst q' p'=>exact RcAt.bool_list b q'.isList ig
 | int i t=>
  cases y with
  | dh=>exact RcAt.int_none i t
  | bl c=>exact RcAt.int_bool i t c
  | int j r=>exact RcAt.int_int i t j r
  | str y r=>exact RcAt.int_str i t y r
  | tup q' p'=>exact RcAt.int_tuple i t (aS q') ig
  | lst q' p'=>exact RcAt.int_list i t q'.isList ig
 | str x t=>
  cases y with
  | dh=>exact RcAt.str_none x t
  | bl c=>exact RcAt.str_bool x t c
  | int j r=>exact RcAt.str_int x t j r
  | str y r=>exact RcAt.str_str x t y r
  | tup q' p'=>exact RcAt.str_tuple x t (aS q') ig
  | lst q' p'=>exact RcAt.str_list x t q'.isList ig
 | tup q p=>
  cases y with
  | dh=>exact RcAt.tuple_none (aS q) ig
  | bl c=>exact RcAt.tuple_bool c (aS q) ig
  | int j r=>exact RcAt.tuple_int j r (aS q) ig
  | str y r=>exact RcAt.tuple_str y r (aS q) ig
  | tup q' p'=>exact ht hn (by rw[flat]at fx;exact fx) (by rw[flat]at fy;exact fy) q p q' p'
  | lst q' p'=>exact RcAt.tuple_list (aS q) q'.isList ig
 | lst q p=>
  cases y with
  | dh=>exact RcAt.list_none q.isList ig
  | bl c=>exact RcAt.list_bool c q.isList ig
  | int j r=>exact RcAt.list_int j r q.isList ig
  | str y r=>exact RcAt.list_str y r q.isList ig
  | tup q' p'=>exact RcAt.list_tuple q.isList (aS q') ig
  | lst q' p'=>exact hl hn (by rw[flat]at fx;exact fx) (by rw[flat]at fy;exact fy) q p q' p'
theorem WD(d e:D){A:cH}(fx:flat d=true)(fy:flat e=true)(hu:fH s.heap d u)(hv:fH s.heap e v)(hr:A.units+dep d<cLine):RcAt A s u v (j7 d e):=by
 have ig:A.units < cLine:=qV (Fj _ _) hr;refine RW (vw hu) (vw hv) ig rfl fx fy (fun {xs ys a b bq k7} hn fx fy q p q' p'=>?_) (fun {xs ys a b bq k7} hn fx fy q p q' p'=>?_);rw[<- yd p p'];exact RcAt.tuples (aS q) (aS q') ig (n9 p p' fun x y u v m1 m2 g1 g2=>pB _ _ (eN fx m1) (eN fy m2) g1 g2 (by show A.units+1+_<_;rw[<- hn,dep]at hr;have:=iX m1;lia));by_cases hl:bq.size=k7.size;rw[<- GG p p' hl];exact RcAt.lists q.isList q'.isList hl ig (n9 p p' fun x y u v m1 m2 g1 g2=>pB _ _ (eN fx m1) (eN fy m2) g1 g2 (by show A.units+1+_<_;rw[<- hn,dep]at hr;have:=iX m1;lia));rw[<- GH p p' hl];exact RcAt.lists_lengths q.isList q'.isList (by simpa using hl) ig
theorem JR{A:cH}(x:Vw s.heap d u)(y:Vw s.heap e v)(ig:A.units<cLine)(hn:dep d=n)(fx:flat d=true)(fy:flat e=true)
  (ht:∀{xs ys:List D} {a b:ay} {bq k7:Array av},dep (.tup xs)=n->cC xs=true->cC ys=true->IsTup s.heap a bq->bI s.heap xs bq.toList->IsTup s.heap b k7->bI s.heap ys k7.toList->RcNeAt A s (.ref a) (.ref b) (!fm xs ys))
  (hl:∀{xs ys:List D} {a b:ay} {bq k7:Array av},dep (.lst xs)=n->cC xs=true->cC ys=true->PlainL s.heap a bq->bI s.heap xs bq.toList->PlainL s.heap b k7->bI s.heap ys k7.toList->RcNeAt A s (.ref a) (.ref b) (!fm xs ys)):RcNeAt A s u v (!j7 d e):=by
 cases x with
 | dh=>
  cases y with
  | dh=>exact RcNeAt.none_none
  | bl c=>exact RcNeAt.none_bool c
  | int j r=>exact RcNeAt.none_int j r
  | str y r=>exact RcNeAt.none_str y r
  | tup q' p'=>exact RcNeAt.none_tuple (aS q') ig
  | lst q' p'=>exact RcNeAt.none_list q'.isList ig
 | bl b=>
  cases y with
  | dh=>exact RcNeAt.bool_none b
  | bl c=>exact RcNeAt.bool_bool b c
  | int j r=>exact RcNeAt.bool_int b j r
  | str y r=>exact RcNeAt.bool_str b y r
  | tup q' p'=>exact RcNeAt.bool_tuple b (aS q') ig
  | lst q' p'=>exact RcNeAt.bool_list b q'.isList ig
 | int i t=>
  cases y with
  | dh=>exact RcNeAt.int_none i t
  | bl c=>exact RcNeAt.int_bool i t c
  | int j r=>exact RcNeAt.int_int i t j r
  | str y r=>exact RcNeAt.int_str i t y r
  | tup q' p'=>exact RcNeAt.int_tuple i t (aS q') ig
  | lst q' p'=>exact RcNeAt.int_list i t q'.isList ig
 | str x t=>
  cases y with
  | dh=>exact RcNeAt.str_none x t
  | bl c=>exact RcNeAt.str_bool x t c
  | int j r=>exact RcNeAt.str_int x t j r
  | str y r=>exact RcNeAt.str_str x t y r
  | tup q' p'=>exact RcNeAt.str_tuple x t (aS q') ig
  | lst q' p'=>exact RcNeAt.str_list x t q'.isList ig
 | tup q p=>
  cases y with
  | dh=>exact RcNeAt.tuple_none (aS q) ig
  | bl c=>exact RcNeAt.tuple_bool c (aS q) ig
  | int j r=>exact RcNeAt.tuple_int j r (aS q) ig
  | str y r=>exact RcNeAt.tuple_str y r (aS q) ig
  | tup q' p'=>exact ht hn (by rw[flat]at fx;exact fx) (by rw[flat]at fy;exact fy) q p q' p'
  | lst q' p'=>exact RcNeAt.tuple_list (aS q) q'.isList ig
 | lst q p=>
  cases y with
  | dh=>exact RcNeAt.list_none q.isList ig
  | bl c=>exact RcNeAt.list_bool c q.isList ig
  | int j r=>exact RcNeAt.list_int j r q.isList ig
  | str y r=>exact RcNeAt.list_str y r q.isList ig
  | tup q' p'=>exact RcNeAt.list_tuple q.isList (aS q') ig
  | lst q' p'=>exact hl hn (by rw[flat]at fx;exact fx) (by rw[flat]at fy;exact fy) q p q' p'
theorem Oj(d e:D){A:cH}(fx:flat d=true)(fy:flat e=true)(hu:fH s.heap d u)(hv:fH s.heap e v)(hr:A.units+dep d<cLine):RcNeAt A s u v (!j7 d e):=by
 have ig:A.units < cLine:=qV (Fj _ _) hr;refine JR (vw hu) (vw hv) ig rfl fx fy (fun {xs ys a b bq k7} hn fx fy q p q' p'=>?_) (fun {xs ys a b bq k7} hn fx fy q p q' p'=>?_);rw[<- yd p p'];exact RcNeAt.tuples (aS q) (aS q') ig (n9 p p' fun x y u v m1 m2 g1 g2=>pB _ _ (eN fx m1) (eN fy m2) g1 g2 (by show A.units+1+_<_;rw[<- hn,dep]at hr;have:=iX m1;lia));by_cases hl:bq.size=k7.size;rw[<- GG p p' hl];exact RcNeAt.lists q.isList q'.isList hl ig (n9 p p' fun x y u v m1 m2 g1 g2=>pB _ _ (eN fx m1) (eN fy m2) g1 g2 (by show A.units+1+_<_;rw[<- hn,dep]at hr;have:=iX m1;lia));rw[<- GH p p' hl];exact RcNeAt.lists_lengths q.isList q'.isList (by simpa using hl) ig
end
end Dm
end aC2
section aC3
namespace Tb
open PySem PySem.SetTable
def lI(mask:Nat)(p:Probe):Probe:=
 if p.more > 0 then {p with j:=p.j+1,more:=p.more-1}else
  {p with j:=(leap mask p.i p.perturb).1,more:=runEnd mask (leap mask p.i p.perturb).1-(leap mask p.i p.perturb).1,i:=(leap mask p.i p.perturb).1,perturb:=(leap mask p.i p.perturb).2}
theorem yi(t:i0)(p:Probe):t.advance p=lI t.mask p:=by
 unfold SetTable.advance lI;rfl
def Lu(mask i lJ:Nat):Probe:={j:=i,more:=runEnd mask i-i,i:=i,perturb:=lJ,dummy:=none}
theorem yj(t:i0)(h:Int):t.probeStart h=Lu t.mask (bits h % (t.mask+1)) (bits h):=rfl
def W(mask:Nat):Probe->Nat->Probe
 | p,0=>p
 | p,k+1=>W mask (lI mask p) k
theorem pC(mask:Nat):∀(a b:Nat) (p:Probe),W mask p (a+b)=W mask (W mask p a) b
 | 0,b,p=>by rw[mF];rfl
 | a+1,b,p=>by
  rw[show a+1+b=(a+b)+1 by lia];show W mask (lI mask p) (a+b)=_;rw[pC mask a b];rfl
theorem WE(mask:Nat)(p:Probe)(k:Nat):W mask p (k+1)=lI mask (W mask p k):=by
 rw[pC mask k 1 p];rfl
theorem yk(mask:Nat)(p:Probe)(h:p.dummy=none):(lI mask p).dummy=none:=by
 unfold lI;split <;> exact h
theorem IF(mask:Nat):∀(k:Nat) (p:Probe),p.dummy=none->(W mask p k).dummy=none
 | 0,_,h=>h
 | k+1,p,h=>IF mask k _ (yk mask p h)
theorem Ol(mask:Nat):∀(k:Nat) (p:Probe),k<=p.more->W mask p k={p with j:=p.j+k,more:=p.more-k}
 | 0,p,_=>rfl
 | k+1,p,h=>by
  show W mask (lI mask p) k=_;have e:lI mask p={p with j:=p.j+1,more:=p.more-1}:=by unfold lI;rw[aM4 (by lia)]
  rw[e,Ol mask k _ (by show k<=p.more-1;lia)];simp only[Probe.mk.injEq,and_true,true_and];lia
theorem GR(mask i lJ:Nat):W mask (Lu mask i lJ) (runEnd mask i-i+1)=Lu mask (leap mask i lJ).1 (leap mask i lJ).2:=by
 rw[WE,Ol mask (runEnd mask i-i) (Lu mask i lJ) (bg _)];unfold lI;rw[aM5 (by show ¬ (runEnd mask i-i-(runEnd mask i-i) > 0);lia)];rfl
theorem WG(mask i:Nat):runEnd mask i-i<=9:=by unfold runEnd;split <;> lia
def G(mask:Nat):Nat->Nat->Nat->Nat×Nat
 | 0,i,lJ=>(i,lJ)
 | n+1,i,lJ=>G mask n (leap mask i lJ).1 (leap mask i lJ).2
theorem Dl(mask:Nat):∀(n i lJ:Nat),∃k,k<=10*n/\W mask (Lu mask i lJ) k=Lu mask (G mask n i lJ).1 (G mask n i lJ).2
 | 0,i,lJ=>⟨0,by lia,rfl⟩
 | n+1,i,lJ=>by
  refine aU (Dl mask n (leap mask i lJ).1 (leap mask i lJ).2) fun k hk e=>?_;refine⟨runEnd mask i-i+1+k,by have:=WG mask i;lia,?_⟩;rw[pC,GR,e];rfl
theorem UR(mask:Nat):∀(n i lJ:Nat),(G mask n i lJ).2=lJ / 32 ^ n
 | 0,i,lJ=>by simp[G]
 | n+1,i,lJ=>by
  show(G mask n (leap mask i lJ).1 (leap mask i lJ).2).2=_;rw[UR mask n,show(leap mask i lJ).2=lJ / 32 from rfl,Nat.div_div_eq_div_mul,M7,Nat.mul_comm]
theorem US(mask:Nat):∀(a b i lJ:Nat),G mask (a+b) i lJ=G mask b (G mask a i lJ).1 (G mask a i lJ).2
 | 0,b,i,lJ=>by rw[mF];rfl
 | a+1,b,i,lJ=>by
  rw[show a+1+b=(a+b)+1 by lia];show G mask (a+b) _ _=_;rw[US mask a b];rfl
theorem ah2(mask:Nat):∀(n i lJ:Nat),i<mask+1->(G mask n i lJ).1<mask+1
 | 0,_,_,h=>h
 | n+1,i,lJ,_=>ah2 mask n _ _ (qW _ (uw _))
def seen(mask:Nat):Nat->Nat->Nat->Nat
 | 0,_,acc=>acc
 | n+1,i,acc=>seen mask n ((i*5+1) % (mask+1)) (acc ||| (1 <<< i))
theorem Dp(mask e:Nat):∀(n i acc:Nat),(seen mask n i acc).testBit e=true->acc.testBit e=true\/∃m,m<n/\(G mask m i 0).1=e
 | 0,i,acc,h=>.inl h
 | n+1,i,acc,h=>by
  rcases Dp mask e n _ _ h with h|⟨m,hm,e'⟩;rw[Nat.testBit_or,lg]at h;rcases h with h | h;exact .inl h;refine .inr ⟨0,by lia,?_⟩;rw[Nat.one_shiftLeft,Nat.testBit_two_pow]at h;exact aN0 h;exact .inr ⟨m+1,by lia,e'⟩
def pD(mask:Nat):Bool:=(dU (mask+1)).all fun i=>seen mask (mask+1) i 0==2 ^ (mask+1)-1
theorem ah3:pD 7=true:=by decide +kernel
theorem WH:pD 31=true:=by decide +kernel
theorem RX:pD 127=true:=by decide +kernel
def Lv(mask:Nat):Prop:=mask=7\/mask=31\/mask=127
theorem Lv.full{mask:Nat}(h:Lv mask):pD mask=true:=by
 rcases h with rfl|rfl|rfl;exact ah3;exact WH;exact RX
theorem cover{mask:Nat}(hm:Lv mask){i e:Nat}(hi:i<mask+1)(he:e<mask+1):∃m,m<mask+1/\(G mask m i 0).1=e:=by
 have h:=hm.full;unfold pD at h;rw[f7]at h;have q:=aM8.mp (h i (l6.mpr hi));have b:(seen mask (mask+1) i 0).testBit e=true:=by rw[q,Nat.testBit_two_pow_sub_one];exact aM6 he
 rcases Dp mask e _ _ _ b with h0|h0;rw[Nat.zero_testBit]at h0;cases h0;exact h0
theorem RY(h:Int):bits h<2 ^ 64:=by
 unfold bits;lia
theorem IG{mask:Nat}(hm:Lv mask)(h:Int){e:Nat}(he:e<mask+1):∃n,n<=mask+13/\(G mask n (bits h % (mask+1)) (bits h)).1=e:=by
 have p0:(G mask 13 (bits h % (mask+1)) (bits h)).2=0:=by rw[UR];exact M8 (iS (RY h) (by decide))
 obtain⟨m,CB,e'⟩:=cover hm (ah2 mask 13 _ (bits h) (qW _ (uw _))) he;refine⟨13+m,by lia,?_⟩;rw[US,p0];exact e'
theorem reach{mask:Nat}(hm:Lv mask)(h:Int){e:Nat}(he:e<mask+1):∃k,k<=10*(mask+13)/\(W mask (Lu mask (bits h % (mask+1)) (bits h)) k).j=e:=by
 refine aU (IG hm h he) fun n hn e'=>?_;refine aU (Dl mask n (bits h % (mask+1)) (bits h)) fun k hk ek=>?_;refine⟨k,by lia,?_⟩;rw[ek];exact e'
def vI(xs:Array Nat):Prop:=∀i j,i<j->j<xs.size->xs.getD i 0<xs.getD j 0
theorem vI.le(h:vI xs)(nD:i<=j)(hj:j<xs.size):xs.getD i 0<=xs.getD j 0:=by
 rcases M9 nD with h'|rfl;exact ji (h i j h' hj);exact bg _
theorem Om(xs:Array Nat)(h:i<xs.size):xs.getD i a=xs.getD i b:=by simp[Array.getD,h]
theorem ym(hr:vI xs)(j:Nat):∀(fuel lo hi:Nat),hi<=xs.size->lo<=hi->hi-lo<=fuel->(∀i,i<lo->xs.getD i 0<j)->(∀i,hi<=i->i<xs.size->j<=xs.getD i 0)->
  lo<=below.go xs j fuel lo hi/\below.go xs j fuel lo hi<=xs.size/\(∀i,i<below.go xs j fuel lo hi->xs.getD i 0<j)/\∀i,below.go xs j fuel lo hi<=i->i<xs.size->j<=xs.getD i 0
 | 0,lo,hi,h1,h2,h3,a,b=>by
  have:hi=lo:=by lia
  subst this;exact⟨bg _,h1,a,b⟩
 | fuel+1,lo,hi,h1,h2,h3,a,b=>by
  unfold below.go;by_cases gr:lo<hi;rw[aM4 gr];dsimp only;have hm:(lo+hi) / 2<xs.size:=by lia
  rw[Om xs (b:=0) hm];by_cases hc:xs.getD ((lo+hi) / 2) 0<j;rw[aM4 hc];have q:=ym hr j fuel ((lo+hi) / 2+1) hi h1 (by lia) (by lia) (fun i Wj=>qV (hr.le (by lia) hm) hc) b;exact⟨by lia,q.2⟩;rw[aM5 hc];have q:=ym hr j fuel lo ((lo+hi) / 2) (by lia) (by lia) (by lia) a (fun i Wj hs=>cI (mE hc) (hr.le Wj hs));exact⟨by lia,q.2⟩;rw[aM5 gr];have:hi=lo:=by lia
  subst this;exact⟨bg _,h1,a,b⟩
theorem nQ(hr:vI xs)(j:Nat):below xs j<=xs.size/\(∀i,i<below xs j->xs.getD i 0<j)/\∀i,below xs j<=i->i<xs.size->j<=xs.getD i 0:=
 (ym hr j xs.size 0 xs.size (bg _) (i7 _) (bg _) (fun i h=>aN6 h (jK _)) (fun i h h'=>aN6 h' (Fp.mpr h))).2
theorem below_at(hr:vI xs)(hi:i<xs.size):below xs (xs.getD i 0)=i:=by
 refine xO (nQ hr (xs.getD i 0)) fun a b c=>?_;rcases ux (below xs (xs.getD i 0)) i with h|h|h;have:=c _ (bg _) (by lia);have:=hr _ _ h hi;lia;exact h;have:=b i h;lia
structure Good(t:i0)(n:Nat):Prop where
 size:t.place.size=n
 rise:vI t.place
 le:∀i,i<n->t.place.getD i 0<=t.mask
 dum:t.dummies=#[]
 YV:Lv t.mask
 lZ:n<t.mask
theorem II(j:Nat):has #[] j=false:=by simp[has]
theorem Aq(g:Good t n)(hi:i<n):t.slot (t.place.getD i 0) = .live i:=by
 have hs:i < t.place.size:=by rw[g.size];exact hi
 unfold SetTable.slot;dsimp only;rw[below_at g.rise hs,aM4 (by simp[Array.getD,hs])]
theorem yo(g:Good t n)(j:Nat):(∃i,i<n/\t.place.getD i 0=j/\t.slot j = .live i)\/((∀i,i<n->t.place.getD i 0≠j)/\t.slot j = .empty):=by
 by_cases h:∃i,i<n/\t.place.getD i 0=j;refine aU h fun i hi e=>?_;clear h;exact .inl ⟨i,hi,e,by rw[<- e];exact Aq g hi⟩;refine .inr ⟨fun i hi e=>h ⟨i,hi,e⟩,?_⟩;unfold SetTable.slot;dsimp only;rw[aM5,g.dum,II];rfl;intro q;have q:=aM8.mp q;obtain⟨hs,e⟩:=oU.mp q;exact h ⟨below t.place j,by rw[<- g.size];exact hs,by simp[Array.getD,hs,e]⟩
theorem gn(g:Good t n)(j:Nat):t.slot j = .empty↔∀i,i<n->t.place.getD i 0≠j:=by
 rcases yo g j with⟨i,hi,e,q⟩|⟨a,q⟩;rw[q];exact⟨fun h=>(nomatch h),fun h=>aN6 e (h i hi)⟩;exact⟨fun _=>a,fun _=>q⟩
theorem IJ(h:vI xs):∀i,i<xs.size->i<=xs.getD i 0
 | 0,_=>i7 _
 | i+1,hi=>by
  have a:=IJ h i (by lia);have b:=h i (i+1) (by lia) hi;lia
theorem GS(g:Good t n):∃e,e<t.mask+1/\t.slot e = .empty:=by
 by_cases h:∀i,i<n->t.place.getD i 0=i;refine⟨n,by have:=g.lZ;lia,(gn g n).mpr fun i hi e=>?_⟩;rw[h i hi]at e;lia;have:∃i,i<n/\t.place.getD i 0≠i/\∀k,k<i->t.place.getD k 0=k:=by
  have aux:∀m,m<=n->(∀k,k<m->t.place.getD k 0=k)\/∃i,i<n/\t.place.getD i 0≠i/\∀k,k<i->t.place.getD k 0=k:=by
   intro m;induction m with
   | zero=>intro _;exact .inl fun k hk=>aN6 hk (jK _)
   | succ m ih=>intro hm;rcases ih (by lia)with a|a;by_cases e:t.place.getD m 0=m;refine .inl fun k hk=>?_;rcases M9 (Nat.le_of_lt_succ hk)with h'|rfl;exact a k h';exact e;exact .inr ⟨m,by lia,e,a⟩;exact .inr a
  rcases aux n (bg _)with a|a;exact aN6 a h;exact a
 refine cM this fun i hi ne before=>?_;clear this;have hs:i < t.place.size:=by rw[g.size];exact hi
 have ge:=IJ g.rise i hs;refine⟨i,by have:=g.le i hi;lia,(gn g i).mpr fun k hk e=>?_⟩;rcases ux k i with h'|rfl|h';rw[before k h']at e;lia;exact ne e;have:=g.rise i k h' (by rw[g.size];exact hk);lia
theorem toList_ins(xs:Array α)(p:Nat)(x:α):(jq xs p x).toList=xs.toList.take p++x::xs.toList.drop p:=by
 simp[jq,gx,uB]
theorem Oo(xs:Array α)(p:Nat)(x:α)(hp:p<=xs.size):(jq xs p x).size=xs.size+1:=by
 rw[<- dN,toList_ins,cG,dg,l8,xo,dN];lia
theorem sF(xs:Array α)(p:Nat)(x:α)(hp:p<=xs.size)(i:Nat):(jq xs p x)[i]?=if i<p then xs[i]? else if i=p then some x else xs[i-1]?:=by
 rw[<- l9,toList_ins];by_cases h1:i<p;rw[aM4 h1,kr (by rw[l8,dN];lia),Fv h1,l9];rw[aM5 h1,kq (by rw[l8,dN];lia),l8,dN,Fq hp];by_cases h2:i=p;subst h2;simp;rw[aM5 h2];obtain⟨m,hm⟩:∃m,i-p=m+1:=⟨i-p-1,by lia⟩
 rw[hm,Mw,Ms,l9];congr 1;lia
theorem Dq(xs:Array Nat)(p x:Nat)(hp:p<=xs.size)(i:Nat):(jq xs p x).getD i 0=if i<p then xs.getD i 0 else if i=p then x else xs.getD (i-1) 0:=by
 have e:∀ys:Array Nat,∀k,ys.getD k 0=(ys[k]?).getD 0:=fun ys k=>by simp[jm]
 rw[e,sF xs p x hp i];split;rw[e];split;rfl;rw[e]
theorem GU(g:Good t n):t.put j=({t with place:=jq t.place (below t.place j) j},below t.place j):=by
 unfold SetTable.put;dsimp only;rw[g.dum,II];simp only[dj,aN2]
theorem Dr(g:Good t n)(hj:j<=t.mask)(he:t.slot j = .empty)(hf:n+1<t.mask):Good (t.put j).1 (n+1)/\(t.put j).2=below t.place j/\below t.place j<=n/\(t.put j).1.mask=t.mask/\
  (∀k,(t.put j).1.slot k = .empty↔(t.slot k = .empty/\k≠j))/\(t.put j).1.place=jq t.place (below t.place j) j:=by
 refine xO (nQ g.rise j) fun b1 b2 b3=>?_;rw[g.size]at b1 b3;have hb1:below t.place j<=t.place.size:=by rw[g.size];exact b1
 have YW:=(gn g j).mp he;have gt:∀i,below t.place j<=i->i<n->j<t.place.getD i 0:=fun i h1 h2=>by have:=b3 i h1 h2;have:=YW i h2;lia
 rw[GU g];have gd:=Dq t.place (below t.place j) j hb1;have sz:(jq t.place (below t.place j) j).size=n+1:=by rw[Oo _ _ _ hb1,g.size]
 have gg:Good {t with place:=jq t.place (below t.place j) j} (n+1):=by
  refine⟨sz,fun i k hik hk=>?_,fun i hi=>?_,g.dum,g.YV,hf⟩;have hk:k<n+1:=by rw[<- sz];exact hk
  show(jq t.place (below t.place j) j).getD i 0<(jq t.place (below t.place j) j).getD k 0;rw[gd i,gd k];by_cases h1:k<below t.place j;rw[aM4 h1,aM4 (by lia)];exact g.rise i k hik (by rw[g.size];lia);rw[aM5 h1];by_cases h2:k=below t.place j;rw[aM4 h2,aM4 (by lia)];exact b2 i (by lia);rw[aM5 h2];by_cases h3:i<below t.place j;rw[aM4 h3];exact g.rise i (k-1) (by lia) (by rw[g.size];lia);rw[aM5 h3];by_cases h4:i=below t.place j;rw[aM4 h4];exact gt (k-1) (by lia) (by lia);rw[aM5 h4];exact g.rise (i-1) (k-1) (by lia) (by rw[g.size];lia);show(jq t.place (below t.place j) j).getD i 0<=t.mask;rw[gd i];by_cases h1:i<below t.place j;rw[aM4 h1];exact g.le i (by lia);rw[aM5 h1];by_cases h2:i=below t.place j;rw[aM4 h2];exact hj;rw[aM5 h2];exact g.le (i-1) (by lia)
 refine⟨gg,rfl,b1,rfl,fun k=>?_,rfl⟩;rw[gn gg,gn g];show(∀i,i<n+1->(jq t.place (below t.place j) j).getD i 0≠k)↔_;constructor;intro h;refine⟨fun i hi e=>?_,fun e=>?_⟩;by_cases h1:i<below t.place j;exact h i (by lia) (by rw[gd i,aM4 h1];exact e);exact h (i+1) (by lia) (by rw[gd (i+1),aM5 (by lia),aM5 (by lia)];exact e);exact h (below t.place j) (by lia) (by rw[gd,aM5 (by lia),aM4 rfl];exact e.symm);rintro⟨h,aC4⟩ i hi e;rw[gd i]at e;by_cases h1:i<below t.place j;rw[aM4 h1]at e;exact h i (by lia) e;rw[aM5 h1]at e;by_cases h2:i=below t.place j;rw[aM4 h2]at e;exact aC4 e.symm;rw[aM5 h2]at e;exact h (i-1) (by lia) e
def uX(t:i0)(h:Int)(j:Nat):Prop:=∃k,(W t.mask (t.probeStart h) k).j=j/\∀m,m<k->t.slot (W t.mask (t.probeStart h) m).j≠ .empty
def Paths(t:i0)(hs:Nat->Int)(n:Nat):Prop:=∀i,i<n->uX t (hs i) (t.place.getD i 0)
theorem least{p:Nat->Prop}[DecidablePred p]{k:Nat}(h:p k):∃d,d<=k/\p d/\∀m,m<d->¬ p m:=by
 induction k using Nat.strongRecOn with
 | _ k ih=>by_cases q:∃m,m<k/\p m;refine aU q fun m hm pm=>?_;clear q;refine cM (ih m hm pm) fun d hd a b=>?_;exact⟨d,by lia,a,b⟩;exact⟨k,bg _,h,fun m hm pm=>q ⟨m,hm,pm⟩⟩
theorem dist{t:i0}{n:Nat}(g:Good t n)(h:Int):∃d,d<=10*(t.mask+13)/\t.slot (W t.mask (t.probeStart h) d).j = .empty/\∀m,m<d->t.slot (W t.mask (t.probeStart h) m).j≠ .empty:=by
 refine aU (GS g) fun e he se=>?_;refine aU (reach g.YV h he) fun k hk ek=>?_;obtain⟨d,hd,a,b⟩:=least (p:=fun m=>t.slot (W t.mask (t.probeStart h) m).j = .empty) (k:=k) (by rw[yj,ek];exact se);exact⟨d,by lia,a,b⟩
theorem IK(g:Good t n)(hashAt:Nat->Int)(h:Int):∀(d:Nat) (p:Probe) (fuel:Nat),p.dummy=none->d<fuel->t.slot (W t.mask p d).j = .empty->(∀m,m<d->t.slot (W t.mask p m).j≠ .empty)->
  (∃m i,m<d/\i<n/\t.slot (W t.mask p m).j = .live i/\hashAt i=h/\(∀m',m'<m->∀i',t.slot (W t.mask p m').j = .live i'->hashAt i'≠h)/\probe.go t hashAt h fuel p=some (.candidate (W t.mask p m).j i (W t.mask p (m+1))))\/
  ((∀m,m<d->∀i,t.slot (W t.mask p m).j = .live i->hashAt i≠h)/\probe.go t hashAt h fuel p=some (.empty (W t.mask p d).j none))
 | 0,p,fuel+1,hd,_,he,_=>by
  refine .inr ⟨fun m hm=>aN6 hm (jK _),?_⟩;unfold probe.go;have RZ:t.slot p.j = .empty:=he;rw[RZ,hd];rfl
 | d+1,p,fuel+1,hd,hf,he,hb=>by
  have h0:t.slot p.j≠ .empty:=hb 0 (by lia);rcases yo g p.j with⟨i,hi,_,q⟩|⟨_,q⟩;by_cases hh:hashAt i=h;refine .inl ⟨0,i,by lia,hi,q,hh,fun m hm=>aN6 hm (jK _),?_⟩;unfold probe.go;rw[q];dsimp only;rw[aM4 (aM8.mpr hh),yi];rfl;have e:probe.go t hashAt h (fuel+1) p=probe.go t hashAt h fuel (lI t.mask p):=by
   conv=>lhs;unfold probe.go
   rw[q];dsimp only;rw[aM5 (fun z=>hh (aM8.mp z)),yi]
  rw[e];rcases IK g hashAt h d (lI t.mask p) fuel (yk _ _ hd) (by lia) he (fun m hm=>hb (m+1) (by lia))with⟨m,i',a1,a2,a3,a4,a5,a6⟩|⟨a1,a2⟩;refine .inl ⟨m+1,i',by lia,a2,a3,a4,fun m' CB i'' q'=>?_,a6⟩;cases m' with
  | zero=>have q2:t.slot p.j = .live i'':=q';rw[q] at q2;cases q2;exact hh
  | succ m'=>exact a5 m' (by lia) i'' q'
  refine .inr ⟨fun m hm i'' q'=>?_,a2⟩;cases m with
  | zero=>have q2:t.slot p.j = .live i'':=q';rw[q] at q2;cases q2;exact hh
  | succ m=>exact a1 m (by lia) i'' q'
  exact aN6 q h0
theorem JS(g:Good t n)(hj:j<=t.mask)(he:t.slot j = .empty)(hf:n+1<t.mask){CC:Nat->Int}(P:Paths t hs n)
  (hh:∀i,i<n+1->CC i=if i<below t.place j then hs i else if i=below t.place j then h else hs (i-1)) (hp:uX t h j):Paths (t.put j).1 CC (n+1):=by
 refine w6 (Dr g hj he hf) fun gg _ hb hm hsl uS=>?_;have keep:∀{h':Int} {k:Nat},uX t h' k->uX (t.put j).1 h' k:=by
  rintro h' k ⟨s,e,b⟩;have es:(t.put j).1.probeStart h'=t.probeStart h':=by rw[yj,yj,hm]
  refine⟨s,by rw[hm,es];exact e,fun m CB z=>?_⟩;rw[hm,es]at z;exact b m CB ((hsl _).mp z).1
 intro i hi;rw[uS,Dq _ _ _ (by rw[g.size];exact hb),hh i hi];by_cases h1:i<below t.place j;rw[aM4 h1,aM4 h1];exact keep (P i (by lia));rw[aM5 h1,aM5 h1];by_cases h2:i=below t.place j;rw[aM4 h2,aM4 h2];exact keep hp;rw[aM5 h2,aM5 h2];exact keep (P (i-1) (by lia))
def CD(owner:Array (Option Nat))(j:Nat):Bool:=(owner.getD j (some 0)).isSome
def st(mask:Nat)(h:Int):Probe:=Lu mask (bits h % (mask+1)) (bits h)
theorem Ar{mask:Nat}(owner:Array (Option Nat))(hz:owner.size=mask+1):∀(fuel i lJ n:Nat),i<mask+1->n<fuel->CD owner (G mask n i lJ).1=false->
  ∃k j,layClean.free mask owner fuel i lJ=some j/\(W mask (Lu mask i lJ) k).j=j/\j<mask+1/\CD owner j=false/\∀m,m<k->CD owner (W mask (Lu mask i lJ) m).j=true
 | fuel+1,i,lJ,n,hi,hn,he=>by
  have aL0:runEnd mask i<=mask:=by unfold runEnd;split <;> lia
  have UT:i<=runEnd mask i:=by unfold runEnd;split <;> lia
  have hW:∀m,m<=runEnd mask i-i->(W mask (Lu mask i lJ) m).j=i+m:=fun m hm=>by rw[Ol mask m (Lu mask i lJ) hm];rfl
  unfold layClean.free;cases hf:(dU (runEnd mask i+1-i)).find? (fun k=>(owner.getD (i+k) (some 0)).isNone)with
  | some k=>
   dsimp only;rw[List.find?_range_eq_some]at hf;refine xO hf fun a b c=>?_;clear hf;have hk:k<runEnd mask i+1-i:=l6.mp b;refine⟨k,i+k,rfl,hW k (by lia),by lia,?_,fun m hm=>?_⟩;unfold CD;cases q:owner.getD (i+k) (some 0)with
   | none=>rfl
   | some z=>rw[q]at a;cases a
   rw[hW m (by lia)];have q:=c m hm;unfold CD;cases q2:owner.getD (i+m) (some 0)with
   | none=>rw[q2]at q;cases q
   | some z=>rfl
  | none=>
   dsimp only;rw[List.find?_range_eq_none]at hf;have n6:∀m,m<runEnd mask i+1-i->CD owner (i+m)=true:=fun m hm=>by
    have q:=hf m hm;unfold CD;cases q2:owner.getD (i+m) (some 0)with
    | none=>rw[q2]at q;cases q
    | some z=>rfl
   cases n with
   | zero=>
    have:CD owner i=true:=by have:=n6 0 (by lia);rwa [Fo]at this
    have RZ:CD owner i=false:=he;rw[this]at RZ;cases RZ
   | succ n=>
    refine Gb (Ar owner hz fuel (leap mask i lJ).1 (leap mask i lJ).2 n (qW _ (uw _)) (by lia) he) fun k j e1 e2 e3 e4 e5=>?_;refine⟨runEnd mask i-i+1+k,j,e1,by rw[pC,GR];exact e2,e3,e4,fun m hm=>?_⟩;by_cases hm1:m<runEnd mask i-i+1;rw[hW m (by lia)];exact n6 m (by lia);obtain⟨r,rfl⟩:∃r,m=runEnd mask i-i+1+r:=⟨m-(runEnd mask i-i+1),by lia⟩
    rw[pC,GR];exact e5 r (by lia)
theorem ah6{mask:Nat}:∀(k:Nat) (p:Probe),p.j+p.more<=mask->(W mask p k).j<=mask
 | 0,p,h=>by show p.j<=mask;lia
 | k+1,p,h=>by
  refine ah6 k (lI mask p) ?_;unfold lI;split;show p.j+1+(p.more-1)<=mask;lia;show(leap mask p.i p.perturb).1+(runEnd mask (leap mask p.i p.perturb).1-(leap mask p.i p.perturb).1)<=mask;have:(leap mask p.i p.perturb).1<mask+1:=qW _ (uw _);unfold runEnd;split <;> lia
theorem UU(mask:Nat)(h:Int)(k:Nat):(W mask (st mask h) k).j<=mask:=by
 refine ah6 k _ ?_;show bits h % (mask+1)+(runEnd mask (bits h % (mask+1))-bits h % (mask+1))<=mask;have:bits h % (mask+1)<mask+1:=qW _ (uw _);unfold runEnd;split <;> lia
structure Own(mask:Nat)(hs:Nat->Int)(owner:Array (Option Nat))(q:Nat):Prop where
 size:owner.size=mask+1
 lt:∀(j a:Nat),owner[j]?=some (some a)->a<q
 at':∀(a:Nat),a<q->∃j,owner[j]?=some (some a)/\∃k,(W mask (st mask (hs a)) k).j=j/\∀m,m<k->CD owner (W mask (st mask (hs a)) m).j=true
 uniq:∀(a j j':Nat),owner[j]?=some (some a)->owner[j']?=some (some a)->j=j'
 cnt:owner.toList.countP Option.isNone=mask+1-q
theorem JT(mask:Nat)(hs:Nat->Int):Own mask hs (Array.replicate (mask+1) none) 0:=by
 have no:∀(j a:Nat),(Array.replicate (mask+1) (none:Option Nat))[j]?≠some (some a):=fun j a h=>by rw[Array.getElem?_replicate]at h;split at h <;> cases h
 refine⟨by simp,fun j a h=>aN6 h (no j a),fun a h=>aN6 h (jK _),fun a j _ h=>aN6 h (no j a),?_⟩;rw[Array.toList_replicate,List.countP_replicate];rfl
theorem occ_none(h:CD owner j=false):owner[j]?=some none:=by
 unfold CD at h;rw[jm]at h;cases q:owner[j]? with
 | none=>rw[q]at h;cases h
 | some z=>cases z with
  | none=>rfl
  | some _=>rw[q]at h;cases h
theorem Ds{owner:Array (Option Nat)}(h:owner[j]?=some none):CD owner j=false:=by
 unfold CD;rw[jm,h];rfl
theorem S4{owner:Array (Option Nat)}(hj:j<owner.size)(i:Nat):(owner.setIfInBounds j (some q))[i]?=if i=j then some (some q)else owner[i]?:=by
 rw[Array.getElem?_setIfInBounds];by_cases e:i=j;subst e;simp[hj];rw[aM5 (fun z=>e z.symm),aM5 e]
theorem Oq{mask:Nat}(hm:Lv mask){hs:Nat->Int}{owner:Array (Option Nat)}{q:Nat}(o:Own mask hs owner q)(hq:q<mask+1) :
  ∃j,layClean.free mask owner (turns mask) (bits (hs q) % (mask+1)) (bits (hs q))=some j/\Own mask hs (owner.setIfInBounds j (some q)) (q+1):=by
 have hc:0<owner.toList.countP Option.isNone:=by rw[o.cnt];lia
 refine aU (List.countP_pos_iff.mp hc) fun x hx hn=>?_;obtain⟨e,he,ex⟩:=j4.mp hx;have Dt:e<owner.size:=by rw[<- dN];exact he
 have e0:owner[e]?=some none:=by
  rw[<- l9,dz he,ex];cases x with
  | none=>rfl
  | some _=>cases hn
 obtain⟨n,xT,en⟩:=IG hm (hs q) (e:=e) (by rw[<- o.size];exact Dt);obtain⟨k,j,f1,f2,f3,f4,f5⟩:=Ar owner o.size (turns mask) (bits (hs q) % (mask+1)) (bits (hs q)) n (qW _ (uw _)) (by unfold turns;lia) (by rw[en];exact Ds e0);refine⟨j,f1,?_⟩;have hj:j<owner.size:=by rw[o.size];exact f3
 have g:=S4 (q:=q) hj;have jn:owner[j]?=some none:=occ_none f4;have up:∀i,CD owner i=true->CD (owner.setIfInBounds j (some q)) i=true:=fun i h=>by unfold CD at h ⊢;rw[jm]at h ⊢;rw[g i];by_cases z:i=j;rw[aM4 z];rfl;rw[aM5 z];exact h
 refine⟨by rw[Array.size_setIfInBounds];exact o.size,fun i a h=>?_,fun a ha=>?_,fun a i i' h h'=>?_,?_⟩;rw[g i]at h;by_cases z:i=j;rw[aM4 z]at h;cases h;lia;rw[aM5 z]at h;have:=o.lt i a h;lia;by_cases z:a=q;subst z;exact⟨j,by rw[g,aM4 rfl],k,f2,fun m CB=>up _ (f5 m CB)⟩;obtain⟨i,b1,k',b2,b3⟩:=o.at' a (by lia);refine⟨i,?_,k',b2,fun m CB=>up _ (b3 m CB)⟩;rw[g,aM5,b1];rintro rfl;rw[jn]at b1;cases b1;rw[g i]at h;rw[g i']at h';by_cases z:i=j;by_cases z':i'=j;rw[z,z'];rw[aM4 z]at h;rw[aM5 z']at h';cases h;exact aN6 (o.lt _ _ h') (sj _);by_cases z':i'=j;rw[aM5 z]at h;rw[aM4 z']at h';cases h';exact aN6 (o.lt _ _ h) (sj _);rw[aM5 z]at h;rw[aM5 z']at h';exact o.uniq a i i' h h';rw[Array.toList_setIfInBounds];have YR:j<owner.toList.length:=by rw[dN];exact hj
 rw[List.countP_set YR,o.cnt];have ej:owner.toList[j]=none:=by
  have q1:owner.toList[j]?=some none:=by rw[l9];exact jn
  rw[dz YR]at q1;exact fq q1
 rw[ej];simp;lia
theorem Du{mask:Nat}(hm:Lv mask){hs:Nat->Int}:∀(l:List Int) (owner:Array (Option Nat)) (q:Nat),Own mask hs owner q->q+l.length<=mask->(∀i,i<l.length->l[i]?=some (hs (q+i)))->
  ∃BY,l.foldl (init:=some (owner,q)) (fun acc h=>do
   let(owner,k) <- acc
   let j <- layClean.free mask owner (turns mask) (bits h % (mask+1)) (bits h)
   pure (owner.setIfInBounds j (some k),k+1))=some (BY,q+l.length)/\Own mask hs BY (q+l.length)
 | [],owner,q,o,_,_=>⟨owner,rfl,o⟩
 | h::r,owner,q,o,hl,hh=>by
  have e0:h=hs q:=by have:=hh 0 (by simp);simpa using this
  obtain⟨j,f1,o1⟩:=Oq hm o (by simp only[dg]at hl;lia);obtain⟨BY,e,o2⟩:=Du hm r (owner.setIfInBounds j (some q)) (q+1) o1 (by simp only[dg]at hl;lia) (fun i hi=>by
   have:=hh (i+1) (by simp;lia);simp only[Mw]at this;rw[this,show q+(i+1)=q+1+i by lia])
  refine⟨BY,?_,by rw[dg,show q+(r.length+1)=q+1+r.length by lia];exact o2⟩;rw[Mr];have e1:(do
   let(owner,k) <- (some (owner,q):Option (Array (Option Nat)×Nat))
   let j <- layClean.free mask owner (turns mask) (bits h % (mask+1)) (bits h)
   pure (owner.setIfInBounds j (some k),k+1))=some (owner.setIfInBounds j (some q),q+1):=by
   show(do
    let j <- layClean.free mask owner (turns mask) (bits h % (mask+1)) (bits h)
    pure (owner.setIfInBounds j (some q),q+1))=_
   rw[e0,f1];rfl
  rw[e1,e,dg,show q+(r.length+1)=q+1+r.length by lia]
theorem GV{mask:Nat}(hm:Lv mask)(hashes:Array Int)(hn:hashes.size<=mask):∃owner,layClean mask hashes=some owner/\Own mask (fun i=>hashes.getD i 0) owner hashes.size:=by
 obtain⟨owner,e,o⟩:=Du hm (hs:=fun i=>hashes.getD i 0) hashes.toList (Array.replicate (mask+1) none) 0 (JT mask _) (by rw[dN];lia) (fun i hi=>by
  rw[dN]at hi;rw[l9,mF];simp[Array.getD,hi])
 rw[dN,mF]at e o;refine⟨owner,?_,o⟩;unfold layClean;rw[<- Array.foldl_toList,e];rfl
def live(mask:Nat)(owner:Array (Option Nat)):List (Nat×Nat):=(dU (mask+1)).filterMap fun j=>(owner.getD j none).map (j,·)
theorem yp{mask:Nat}{owner:Array (Option Nat)}(hz:owner.size=mask+1){j a:Nat}:(j,a)∈live mask owner↔owner[j]?=some (some a):=by
 unfold live;rw[CI];constructor;rintro⟨x,hx,e⟩;cases q:owner.getD x none with
 | none=>rw[q]at e;cases e
 | some b=>
  rw[q] at e;cases e;rw[jm]at q;cases q2:owner[j]? with
  | none=>rw[q2]at q;cases q
  | some z=>rw[q2]at q;have q:z=some a:=q;rw[q]
 intro h;have hj:j<owner.size:=(oU.mp h).1;exact⟨j,l6.mpr (by lia),by rw[jm,h];rfl⟩
theorem JU(mask:Nat)(owner:Array (Option Nat)):(live mask owner).Pairwise fun x y=>x.1<y.1:=by
 unfold live;refine Vn _ ?_ Mz;intro a a' haa b hb b' mW;cases q:owner.getD a none with
 | none=>rw[q]at hb;cases hb
 | some z=>
  cases q':owner.getD a' none with
  | none=>rw[q']at mW;cases mW
  | some z'=>rw[q]at hb;rw[q']at mW;cases hb;cases mW;exact haa
theorem BZ{owner:Array (Option Nat)}(hz:owner.size=n):owner.toList=(dU n).map fun j=>owner.getD j none:=by
 refine Ba fun i=>?_;rw[l9,di];by_cases h:i<n;rw[MA h];have h':i<owner.size:=by lia
 simp[Array.getD,h'];rw[rj (by lia),uE (by simp;lia)];rfl
theorem Ot{mask:Nat}{hs:Nat->Int}{owner:Array (Option Nat)}{n:Nat}(o:Own mask hs owner n)(hn:n<=mask+1):(live mask owner).length=n:=by
 unfold live;rw[List.length_filterMap_eq_countP];have e1:List.countP (fun j=>((owner.getD j none).map fun x=>(j,x)).isSome) (dU (mask+1))=owner.toList.countP Option.isSome:=by rw[BZ o.size,List.countP_map];congr 1;funext j;simp
 rw[e1];have e2:=List.length_eq_countP_add_countP (p:=Option.isNone) (l:=owner.toList);rw[o.cnt,dN,o.size]at e2;have e3:owner.toList.countP Option.isSome=List.countP (fun a=>decide ¬ (Option.isNone a=true)) owner.toList:=by congr 1;funext a;cases a <;> rfl
 lia
theorem JV{mask n:Nat}(hm:Lv mask)(hashes:Array Int)(hz:hashes.size=n)(hn:n<mask)(finger moves:Nat)(led plain:Bool) :
  ∃t' order,laid mask finger moves led plain hashes=some (t',order)/\Good t' n/\t'.mask=mask/\t'.led=led/\t'.plain=plain/\order.size=n/\(∀m,m<n->order.getD m 0<n)/\
   (∀m m',m<n->m'<n->order.getD m 0=order.getD m' 0->m=m')/\(∀a,a<n->∃m,m<n/\order.getD m 0=a)/\Paths t' (fun m=>hashes.getD (order.getD m 0) 0) n:=by
 refine aU (GV hm hashes (by lia)) fun owner e o=>?_;rw[hz]at o;have ll:=Ot o (by lia);refine⟨{mask,place:=((live mask owner).map (·.1)).toArray,dummies:=#[],finger,led,moves,plain},((live mask owner).map (·.2)).toArray,?_,?_⟩;unfold laid;rw[e];rfl;have gp:∀m,m<n->∃j a,(live mask owner)[m]?=some (j,a)/\(((live mask owner).map (·.1)).toArray).getD m 0=j/\(((live mask owner).map (·.2)).toArray).getD m 0=a/\owner[j]?=some (some a):=fun m h=>by
  have h':m<(live mask owner).length:=by lia
  refine⟨((live mask owner)[m]).1,((live mask owner)[m]).2,dz h',?_,?_,(yp o.size).mp (uG h')⟩;simp[Array.getD,h'];simp[Array.getD,h']
 have pw:=qX.mp (JU mask owner);have rise:vI (((live mask owner).map (·.1)).toArray):=fun i j nD hj=>by
  have hj:j<(live mask owner).length:=by simpa using hj
  have hi:i<(live mask owner).length:=by lia
  have:=pw i j hi hj nD;simpa[Array.getD,hi,hj]using this
 have good:Good {mask,place:=((live mask owner).map (·.1)).toArray,dummies:=#[],finger,led,moves,plain} n:=by refine⟨by simp[ll],rise,fun i hi=>?_,rfl,hm,hn⟩;refine uN (gp i hi) fun j a _ e2 _ e4=>?_;show(((live mask owner).map (·.1)).toArray).getD i 0<=mask;rw[e2];have:=(oU.mp e4).1;have:=o.size;lia
 refine⟨good,rfl,rfl,rfl,by simp[ll],fun m h=>?_,fun m m' h h' q=>?_,fun a h=>?_,fun m h=>?_⟩;refine uN (gp m h) fun j a _ _ e3 e4=>?_;rw[e3];exact o.lt j a e4;refine uN (gp m h) fun j a _ e2 e3 e4=>?_;refine uN (gp m' h') fun j' a' _ e2' e3' e4'=>?_;rw[e3,e3']at q;subst q;have ej:=o.uniq a j j' e4 e4';rcases ux m m' with z|z|z;have:=rise m m' z (by simp[ll];exact h');lia;exact z;have:=rise m' m z (by simp[ll];exact h);lia;refine aU (o.at' a h) fun j b _=>?_;obtain⟨m,CB,em⟩:=j4.mp ((yp (mask:=mask) o.size).mpr b);refine⟨m,by lia,?_⟩;simp[Array.getD,CB,em];refine uN (gp m h) fun j a _ e2 e3 e4=>?_;obtain⟨j',b1,k,b2,b3⟩:=o.at' a (o.lt j a e4);have ej:=o.uniq a j j' e4 b1;subst ej;dsimp only;rw[e2,e3];refine⟨k,b2,fun m' CB z=>?_⟩;have z:=(gn good _).mp z;have oc:=b3 m' CB;have inr:(W mask (st mask (hashes.getD a 0)) m').j<=mask:=UU mask _ m';unfold CD at oc;rw[jm]at oc;cases q:owner[(W mask (st mask (hashes.getD a 0)) m').j]? with
 | none=>have:=MX.mp q;have:=o.size;lia
 | some x=>
  cases x with
  | none=>rw[q]at oc;cases oc
  | some b=>obtain⟨r,hr,er⟩:=j4.mp ((yp (mask:=mask) o.size).mpr q);refine z r (by lia) ?_;dsimp only;simp[Array.getD,hr,er];rfl
end Tb
end aC3
section aC5
namespace Ts
open PySem PySem.SetTable Tb
structure pF(prog:dG)(w:bQ)(K:Type)[DecidableEq K] extends HeapKind prog w K where
 Ou:∀{A:cH} {E:av->aA->Prop} {s:aA} {k:K} {a:ay} {Q:Bool->aA->Prop},is s.heap k a->Q false s->aB (aD prog w) A (ofAClassStatement 8 (.ref a)) Q E s
 UW:∀{A:cH} {E:av->aA->Prop} {s:aA} {k:K} {a:ay} {Q:Bool->aA->Prop},is s.heap k a->Q true s->aB (aD prog w) A (hashByValue 8 (.ref a)) Q E s
 mono:∀{h h':aY} {k:K} {a:ay},is h k a->(∀b o,h.get? b=some o->o.cls = .type "tuple" ->h'.get? b=some o)->is h' k a
section
variable {prog:dG}{w:bQ}{K:Type}[DecidableEq K]{κ:pF prog w K}
theorem stays(κ:pF prog w K)(x:κ.is h k a)(ho:h.get? d=some o)(hc:o.cls = .type "set")(sb:i6 d h h'):κ.is h' k a:=
 κ.mono x fun b ob e hb=>by
  rw[sb.2 b ?_];exact e;rintro rfl;obtain rfl:=fq (e.symm.trans ho);rw[hc]at hb;exact aN6 hb (by decide)
def entry(κ:pF prog w K)(x:K×ay):Int×av:=(κ.hash x.1,.ref x.2)
structure jg(κ:pF prog w K)(h:aY)(a:ay)(led:Bool)(xs:List (K×ay))(o:Obj)(ep:Nat)(t:i0):Prop where
 obj:h.get? a=some o
 nR:o.ExactSet
 data:o.data = .set (xs.map (entry κ)).toArray ep t
 good:Good t xs.length
 IL:Paths t (fun i=>((xs.map (entry κ)).toArray[i]?.map (·.1)).getD 0) xs.length
 JW:t.led=led
 plain:t.plain=true
 lZ:xs.length*5<t.mask*3
 keys:(xs.map (·.1)).Nodup
 each:∀x∈xs,κ.is h x.1 x.2
theorem fits_of(g:Good t n):t.fits n=true:=by
 unfold SetTable.fits SetTable.fill;rw[g.dum,g.size];have:=g.lZ;simp;lia
variable {A:cH}{E:av->aA->Prop}{s:aA}{a b:ay}{led:Bool}{xs:List (K×ay)}{o:Obj}{ep:Nat}{t:i0}{k:K}
theorem jC{Q:(Array (Int×av)×Nat×i0)->aA->Prop}(S:jg κ s.heap a led xs o ep t)(h:Q ((xs.map (entry κ)).toArray,ep,t) s):aB (aD prog w) A (setState a) Q E s:=
 LN S.obj S.data (by simpa using fits_of S.good) h
theorem S5{Q:Bool->aA->Prop}{l:List (K×ay)}(hx:κ.is s.heap k b)(hl:∀x∈l,κ.is s.heap x.1 x.2)(h:Q false s) :
  aB (aD prog w) A (searchCouldBeSeen (.ref b) (l.map fun x=>eW x.2)) Q E s:=by
 unfold searchCouldBeSeen;refine ah (mC _ (fun rest r s'=>r.1=none/\s'=s/\∃(l':List (K×ay)),rest=l'.map (fun x:K×ay=>eW x.2)/\∀x∈l',κ.is s.heap x.1 x.2) _ ?_ ?_ _ _ ⟨rfl,rfl,l,rfl,hl⟩);rintro v rest r s' ⟨hr,rfl,l',Dv,hk⟩;cases l' with
 | nil=>cases Dv
 | cons x l'=>
  rw[bG]at Dv;injection Dv with e1 e2;subst e1;have nx:r.1=none/\s'=s'/\∃(l'':List (K×ay)),rest=l''.map (fun x:K×ay=>eW x.2)/\∀x∈l'',κ.is s'.heap x.1 x.2:=⟨hr,rfl,l',e2,fun y hy=>hk y (oO _ hy)⟩
  have IM:=hk x vA;dsimp only;split;exact aC ⟨rfl,rfl,nx.2.2⟩;refine ah (κ.quiet hx ?_);simp only[j6,dj,aN2];refine ah (κ.quiet IM ?_);simp only[j6,dj,aN2];refine ah (κ.Ou hx ?_);simp only[dj,aN2];refine ah (κ.Ou IM ?_);simp only[dj,aN2];exact aC ⟨rfl,rfl,nx.2.2⟩
 rintro ⟨r1,r2⟩ s' ⟨hr,rfl,_⟩;simp only at hr;subst hr;exact aC h
theorem kO(xs:List (K×ay))(i:Nat):(xs.map (entry κ)).toArray[i]?=xs[i]?.map (entry κ):=by simp
theorem JX{Q:SetFound->aA->Prop}(S:jg κ s.heap a led xs o ep t)(hr:κ.room A)(hx:κ.is s.heap k b)
  (hT:k∈xs.map (·.1)->Q (.there none) s)
  (hF:k∉xs.map (·.1)->∀j,j<=t.mask->t.slot j = .empty->uX t (κ.hash k) j->Q (.free j false) s)
  {D:Nat} (hD:D<=10*(t.mask+13)) (hE:t.slot (W t.mask (t.probeStart (κ.hash k)) D).j = .empty) (hB:∀m,m<D->t.slot (W t.mask (t.probeStart (κ.hash k)) m).j≠ .empty) :
  ∀(r m0 fuel:Nat),m0+r=D->r<fuel->(∀m i,m<m0->t.slot (W t.mask (t.probeStart (κ.hash k)) m).j = .live i->∀x,xs[i]?=some x->x.1≠k)->
   ∀nc:Option Probe,nc.getD (t.probeStart (κ.hash k))=W t.mask (t.probeStart (κ.hash k)) m0->
   aB (aD prog w) A (setSearchFrom a (.ref b) (κ.hash k) true fuel nc) Q E s:=by
 intro r;induction r using Nat.strongRecOn with
 | _ r ih=>
  intro m0 fuel hm hf hv nc oE;obtain⟨fuel,rfl⟩:∃f,fuel=f+1:=⟨fuel-1,by lia⟩
  unfold setSearchFrom;refine ah (jC S ?_);dsimp only;have hgw:t.gaveWay=false:=by unfold SetTable.gaveWay;rcases S.good.YV with e|e|e <;> rw[e] <;> rfl
  rw[hgw];simp only[dj,aN2];have sp:=IK S.good (fun i=>((xs.map (entry κ)).toArray[i]?.map (·.1)).getD 0) (κ.hash k) r (W t.mask (t.probeStart (κ.hash k)) m0) (10*turns t.mask) (IF _ _ _ rfl) (by unfold turns;lia)
   (by rw[<- pC,hm];exact hE) (fun m CB=>by rw[<- pC];exact hB _ (by lia))
  have hpr:t.probe (fun i=>((xs.map (entry κ)).toArray[i]?.map (·.1)).getD 0) (κ.hash k) (nc.getD (t.probeStart (κ.hash k)))=probe.go t (fun i=>((xs.map (entry κ)).toArray[i]?.map (·.1)).getD 0) (κ.hash k) (10*turns t.mask) (W t.mask (t.probeStart (κ.hash k)) m0):=by rw[oE];rfl
  rcases sp with⟨m,i,h1,h2,h3,h4,h5,h6⟩|⟨h1,h2⟩;have Oe:=hpr.trans h6;generalize hpq:t.probe _ (κ.hash k) (nc.getD (t.probeStart (κ.hash k)))=pr;obtain rfl:=hpq.symm.trans Oe;dsimp only;obtain⟨x,WI⟩:∃x,xs[i]?=some x:=⟨xs[i],dz h2⟩
  have hxm:x∈xs:=iM WI;have rest:aB (aD prog w) A (do
    let some (_,y):=(xs.map (entry κ)).toArray[i]?|unsupported "internal:set-entry"
    let equal <- holding [y] (eqBool y (.ref b))
    let(vB,_,t') <- setState a
    if true&&equal then return .there none
    let some same:=t'.sameMemory t.moves t.mask|unsupported "set.changed-during-lookup:is-the-new-block-at-the-old-address"
    let ah7 <- match(if same then t'.slot (W t.mask (W t.mask (t.probeStart (κ.hash k)) m0) m).j else .empty)with
     | .live i'=>match vB[i']? with
      | some (_,y')=>do pure (if <- isSame y' y then some i' else none)
      | none=>pure none
     | _=>pure none
    match ah7 with
    | none=>rule "set.search.anew";setSearchFrom a (.ref b) (κ.hash k) true fuel none
    | some i'=>if equal then return .there (some i')else setSearchFrom a (.ref b) (κ.hash k) true fuel (some (W t.mask (W t.mask (t.probeStart (κ.hash k)) m0) (m+1)))) Q E s:=by
   rw[kO,WI]
   dsimp only[Option.map,entry]
   refine ah (jh (κ.eqBool hr (S.each x hxm) hx ?_))
   refine ah (jC S ?_)
   dsimp only
   by_cases hk:x.1=k
   ·rw[aM6 hk]
    simp only[Bool.and_self,aN3]
    exact aC (hT (aO.mpr ⟨x,hxm,hk⟩))
   ·rw[aM7 hk]
    simp only[FY,dj,aN2]
    have IP:t.sameMemory t.moves t.mask=some true:=by unfold SetTable.sameMemory;rw[aM4 (by simp)]
    rw[IP]
    dsimp only
    rw[aM4 rfl,h3]
    dsimp only
    rw[kO,WI]
    dsimp only[Option.map,entry]
    refine ah (wpAny_isSame_ref_self (ah (aC ?_)))
    simp only[aN3]
    refine ih (r-(m+1)) (by lia) (m0+(m+1)) fuel (by lia) (by lia) (fun m' i' CB hl y hy=>?_) _ (by rw[<- pC];rfl)
    by_cases c1:m'<m0
    ·exact hv m' i' c1 hl y hy
    ·obtain⟨q,rfl⟩:∃q,m'=m0+q:=⟨m'-m0,by lia⟩
     rw[pC]at hl
     by_cases c2:q<m
     ·intro e
      refine h5 q c2 i' hl ?_
      show((xs.map (entry κ)).toArray[i']?.map (·.1)).getD 0=κ.hash k
      rw[kO,hy]
      show κ.hash y.1=κ.hash k
      rw[e]
     ·have:q=m:=by lia
      subst this
      rw[h3]at hl
      cases hl
      rw[WI]at hy
      cases hy
      exact hk
  by_cases hl:led=true;have Dv:t.led=true:=S.JW.trans hl;rw[Dv];simp only[j6,dj,aN2];exact rest;have Dv:t.led=false:=S.JW.trans (xG.mpr hl);rw[Dv];simp only[Bk,aN3];have el:((((xs.map (entry κ)).toArray.filter (·.1==κ.hash k))).toList.map (·.2))=(xs.filter fun y=>κ.hash y.1==κ.hash k).map fun y=>eW y.2:=by rw[Array.toList_filter,List.filter_map,eZ];rfl
  rw[el];refine ah (S5 hx (fun y hy=>S.each y (vz.mp hy).1) ?_);simp only[dj,aN2];exact rest;have Oe:=hpr.trans h2;generalize hpq:t.probe _ (κ.hash k) (nc.getD (t.probeStart (κ.hash k)))=pr;obtain rfl:=hpq.symm.trans Oe;dsimp only;have ej:(W t.mask (W t.mask (t.probeStart (κ.hash k)) m0) r).j=(W t.mask (t.probeStart (κ.hash k)) D).j:=by rw[<- pC,hm]
  rw[ej];refine aC (hF (fun GW=>?_) _ (UU t.mask _ D) hE ⟨D,rfl,hB⟩);refine aU (aO.mp GW) fun x hxm ek=>?_;obtain⟨i,hi,ei⟩:=j4.mp hxm;have WI:xs[i]?=some x:=by rw[dz hi,ei]
  refine aU (S.IL i hi) fun ki p1 p2=>?_;have hh:(fun i=>((xs.map (entry κ)).toArray[i]?.map (·.1)).getD 0) i=κ.hash k:=by show((xs.map (entry κ)).toArray[i]?.map (·.1)).getD 0=κ.hash k;rw[kO,WI];show κ.hash x.1=κ.hash k;rw[ek]
  rw[hh]at p1 p2;have sl:t.slot (W t.mask (t.probeStart (κ.hash k)) ki).j = .live i:=by rw[p1];exact Aq S.good hi
  have c1:ki<D:=by rcases ux ki D with c|c|c;exact c;subst c;rw[sl]at hE;cases hE;exact aN6 hE (p2 D c)
  by_cases c2:ki<m0;exact hv ki i c2 sl x WI ek;obtain⟨q,rfl⟩:∃q,ki=m0+q:=⟨ki-m0,by lia⟩
  rw[pC]at sl;exact h1 q (by lia) i sl hh
end
section
variable {prog:dG}{w:bQ}{K:Type}[DecidableEq K]{κ:pF prog w K}
variable {A:cH}{E:av->aA->Prop}{s:aA}{a b:ay}{led:Bool}{xs:List (K×ay)}{o:Obj}{ep:Nat}{t:i0}{k:K}
theorem jg.store(S:jg κ s.heap a led xs o ep t){ys:List (K×ay)}(hg:Good t' ys.length)(hp:Paths t' (fun i=>((ys.map (entry κ)).toArray[i]?.map (·.1)).getD 0) ys.length)(hl:t'.led=led)(uS:t'.plain=true)
  (hk:(ys.map (·.1)).Nodup) (he:∀x∈ys,κ.is s.heap x.1 x.2) :
  let h':=s.heap.update a (Obj.putSet (ys.map (entry κ)).toArray t')
  i6 a s.heap h'/\h'.get? a=some {o with data:=.set (ys.map (entry κ)).toArray (ep+1) t'}/\(∀x∈ys,κ.is h' x.1 x.2)/\
   (ys.length*5<t'.mask*3->jg κ h' a led ys {o with data:=.set (ys.map (entry κ)).toArray (ep+1) t'} (ep+1) t'):=by
 intro h';have sb:i6 a s.heap h':=fz ..;have Ov:h'.get? a=some {o with data:=.set (ys.map (entry κ)).toArray (ep+1) t'}:=by have:=nH (Obj.putSet (ys.map (entry κ)).toArray t') S.obj (by rw[AY _ t' S.data];rfl);rw[AY _ t' S.data]at this;exact this
 have hi:∀x∈ys,κ.is h' x.1 x.2:=fun x hx=>stays κ (he x hx) S.obj S.nR.1 sb;exact⟨sb,Ov,hi,fun hf=>⟨Ov,S.nR,rfl,hg,hp,hl,uS,hf,hk,hi⟩⟩
theorem sW(h:(M=32/\16<=n/\n<32)\/(M=128/\64<=n/\n<128)):sizeAbove n=M:=by
 unfold sizeAbove;rcases h with⟨rfl,h1,h2⟩|⟨rfl,h1,h2⟩;unfold sizeAbove.go;rw[aM4 (by lia)];unfold sizeAbove.go;rw[aM4 (by lia)];unfold sizeAbove.go;rw[aM5 (by lia)];unfold sizeAbove.go;rw[aM4 (by lia)];unfold sizeAbove.go;rw[aM4 (by lia)];unfold sizeAbove.go;rw[aM4 (by lia)];unfold sizeAbove.go;rw[aM4 (by lia)];unfold sizeAbove.go;rw[aM5 (by lia)]
theorem zF(l:List α)(p:Nat)(x y:α):y∈l.take p++x::l.drop p↔y=x\/y∈l:=by
 rw[gH,bW];have:y∈l↔y∈l.take p\/y∈l.drop p:=by rw[<- gH,nJ]
 rw[this];constructor;rintro (h | h | h);exact .inr (.inl h);exact .inl h;exact .inr (.inr h);rintro (h | h | h);exact .inr (.inl h);exact .inl h;exact .inr (.inr h)
theorem JY{l:List α}(p:Nat)(h:l.Nodup)(hx:x∉l):(l.take p++x::l.drop p).Nodup:=by
 have e:(l.take p++x::l.drop p).Perm (x::l):=by refine MB.trans ?_;rw[nJ]
 exact e.nodup_iff.mpr (l7.mpr ⟨hx,h⟩)
theorem reorder(l:List α)(order:Array Nat)(hl:l.length=n)(ho:order.size=n)(gr:∀m,m<n->order.getD m 0<n) :
  (order.toList.filterMap (fun i=>l[i]?)).length=n/\∀m,m<n->(order.toList.filterMap (fun i=>l[i]?))[m]?=l[order.getD m 0]?:=by
 have key:∀(q:List Nat),(∀i∈q,i<l.length)->(q.filterMap (fun i=>l[i]?)).length=q.length/\∀m,m<q.length->(q.filterMap (fun i=>l[i]?))[m]?=l[q.getD m 0]?:=by
  intro q;induction q with
  | nil=>intro _;exact⟨rfl,fun m h=>aN6 h (jK _)⟩
  | cons i q ih=>
   intro h;have hi:=h i vA;obtain⟨a1,a2⟩:=ih fun j hj=>h j (oO _ hj);rw[Mm (b:=l[i]) (dz hi)];refine⟨by rw[dg,dg,a1],fun m hm=>?_⟩;cases m with
   | zero=>simp[dz hi]
   | succ m=>simpa using a2 m (by simpa using hm)
 have hm:∀i∈order.toList,i<l.length:=fun i hi=>by
  obtain⟨m,h1,h2⟩:=j4.mp hi;have hz:m<order.size:=by rw[<- dN];exact h1
  have:=gr m (by lia);have e:order.getD m 0=i:=by simp[Array.getD,hz];rw[<- h2];simp
  lia
 obtain⟨b1,b2⟩:=key order.toList hm;refine⟨by rw[b1,dN,ho],fun m h=>?_⟩;rw[b2 m (by rw[dN];lia)];congr 1;have hz:m < order.size:=by lia
 simp[Array.getD,List.getD,hz]
theorem Ow{Q:Unit->aA->Prop}(ho:s.heap.get? a=some o)(hx:o.ExactSet)(hd:o.data = .set (xs.map (entry κ)).toArray ep t)(hg:Good t xs.length)(hl:t.led=led)(uS:t.plain=true)(hk:(xs.map (·.1)).Nodup)(he:∀x∈xs,κ.is s.heap x.1 x.2)
  (hM:Lv M) (hw:sizeAbove wanted=M+1) (hn:xs.length*5<M*3)
  (h:∀h' o' Bu t' ys,i6 a s.heap h'->jg κ h' a led ys o' Bu t'->(∀x,x∈ys↔x∈xs)->ys.length=xs.length->Q () {s with heap:=h'}):aB (aD prog w) A (setRelay a wanted) Q E s:=by
 unfold setRelay;refine ah (LN ho hd (by simpa using fits_of hg) ?_);dsimp only;have hM':M<200:=by rcases hM with e|e|e <;> lia
 rw[aM5 (by rw[hw,gG];lia)];obtain⟨t',order,e1,g1,e2,e3,e4,e5,e6,e7,e8,e9⟩:=JV (n:=xs.length) hM (((xs.map (entry κ)).toArray).map (·.1)) (by simp) (by lia) t.finger (t.movedTo M) t.led t.plain;have hrl:t.relaid (((xs.map (entry κ)).toArray).map (·.1)) wanted=some (t',order):=by unfold SetTable.relaid;rw[hw,B7];exact e1
 rw[hrl];obtain⟨r1,r2⟩:=reorder xs order rfl e5 e6;have ent:order.filterMap (fun i=>((xs.map (entry κ)).toArray)[i]?)=((order.toList.filterMap (fun i=>xs[i]?)).map (entry κ)).toArray:=by apply Bh.mp;rw[Array.toList_filterMap,List.map_filterMap];congr 1;funext i;rw[kO]
 refine ah (uo (a:=(((order.toList.filterMap (fun i=>xs[i]?)).map (entry κ)).toArray,t')) ?_ ?_)
 ·show(do
   if(order.filterMap (fun i=>((xs.map (entry κ)).toArray)[i]?)).size !=((xs.map (entry κ)).toArray).size then unsupported "internal:set-table-lost-an-element"
   pure (order.filterMap (fun i=>((xs.map (entry κ)).toArray)[i]?),t'):Sem (Array (Int×av)×i0))=_
  rw[ent,aM5 (by simp[r1])];first|done|rfl
 dsimp only;have len:(order.toList.filterMap (fun i=>xs[i]?)).length=xs.length:=r1;have mem:∀x,x∈order.toList.filterMap (fun i=>xs[i]?)↔x∈xs:=fun x=>by
  rw[CI];constructor;rintro⟨i,_,e⟩;exact iM e;intro sE;obtain⟨i,hi,ei⟩:=j4.mp sE;refine aU (e8 i hi) fun m hm em=>?_;have hz:m < order.size:=by lia
  refine⟨i,?_,by rw[dz hi,ei]⟩;have:order[m]=i:=by rw[<- em];simp[Array.getD,hz]
  rw[<- this];exact Ab.mpr (Array.getElem_mem hz)
 have nd:((order.toList.filterMap (fun i=>xs[i]?)).map (·.1)).Nodup:=by
  rw[qY,qX];intro i j hi hj nD e;rw[br,len]at hi hj;have gi:=r2 i hi;have gj:=r2 j hj;rw[dz (by lia),dz (e6 i hi)]at gi;rw[dz (by lia),dz (e6 j hj)]at gj;rw[uH,uH,fq gi,fq gj]at e;have pw:=qX.mp (qY.mp hk);have a1:order.getD i 0<(xs.map (·.1)).length:=by rw[br];exact e6 i hi
  have a2:order.getD j 0<(xs.map (·.1)).length:=by rw[br];exact e6 j hj
  rcases ux (order.getD i 0) (order.getD j 0)with c|c|c;exact pw _ _ a1 a2 c (by rw[uH,uH];exact e);have:=e7 i j hi hj c;lia;exact pw _ _ a2 a1 c (by rw[uH,uH];exact e.symm)
 have pth:Paths t' (fun i=>(((order.toList.filterMap (fun i=>xs[i]?)).map (entry κ)).toArray[i]?.map (·.1)).getD 0) (order.toList.filterMap (fun i=>xs[i]?)).length:=by
  rw[len];intro i hi;have q:=e9 i hi;have ee:(((order.toList.filterMap (fun i=>xs[i]?)).map (entry κ)).toArray[i]?.map (·.1)).getD 0=(((xs.map (entry κ)).toArray).map (·.1)).getD (order.getD i 0) 0:=by rw[kO,r2 i hi];generalize order.getD i 0=z;rw[jm,Array.getElem?_map,kO]
  show uX t' ((((order.toList.filterMap (fun i=>xs[i]?)).map (entry κ)).toArray[i]?.map (·.1)).getD 0) (t'.place.getD i 0);rw[ee];exact q
 have sb:i6 a s.heap (s.heap.update a (Obj.putSet ((order.toList.filterMap (fun i=>xs[i]?)).map (entry κ)).toArray t')):=fz ..;have Ov:=nH (Obj.putSet ((order.toList.filterMap (fun i=>xs[i]?)).map (entry κ)).toArray t') ho (by rw[AY _ t' hd];rfl);rw[AY _ t' hd]at Ov;refine LO ho hd (h _ _ (ep+1) t' (order.toList.filterMap (fun i=>xs[i]?)) sb ⟨Ov,hx,rfl,by rw[len];exact g1,pth,e3.trans hl,e4.trans uS,by rw[len,e2];exact hn,nd,fun x sE=>stays κ (he x ((mem x).mp sE)) ho hx.1 sb⟩ mem len) ?_;rw[dI,br,len,gG];lia
theorem WJ{Q:Bool->aA->Prop}(S:jg κ s.heap a led xs o ep t)(hr:κ.room A)(hx:κ.is s.heap k b)(hn:xs.length<60)
  (h:∀c h' o' Bu t' ys,i6 a s.heap h'->jg κ h' a led ys o' Bu t'->(∀x∈ys,x∈xs\/x=(k,b))->(∀x∈xs,x∈ys)->k∈ys.map (·.1)->ys.length<=xs.length+1->Q c {s with heap:=h',toks:=s.toks+κ.draws k}) :
  aB (aD prog w) A (setAdd a (.ref b)) Q E s:=by
 unfold setAdd;refine jh (ah (κ.pyHash hr hx ?_));have S':jg κ ({s with toks:=s.toks+κ.draws k}:aA).heap a led xs o ep t:=S;have sE:κ.is ({s with toks:=s.toks+κ.draws k}:aA).heap k b:=hx;refine cM (dist S.good (κ.hash k)) fun D d1 d2 d3=>?_;have hm:t.mask<=127:=by rcases S.good.YV with e|e|e <;> lia
 unfold setAddHashed setAddHashedIn;refine jh (ah (jC S' ?_));dsimp only;have hsc:byScan (.ref b) (xs.map (entry κ)).toArray=false:=by simp[byScan,Value.scannable]
 rw[hsc];simp only[dj,aN2];unfold setSearch;refine ah (JX S' hr sE (fun GW=>?_) (fun GW j hj he hp=>?_) d1 d2 d3 D 0 100000 (by lia) (by lia) (fun m i h0=>aN6 h0 (jK _)) none rfl);dsimp only;refine aC (h false s.heap o ep t xs (.refl ..) S (fun x hx=>.inl hx) (fun x hx=>hx) GW (by lia));dsimp only;refine ah (jC S' ?_);dsimp only;have hf1:xs.length+1<t.mask:=by have:=S.lZ;rcases S.good.YV with e|e|e <;> rw[e]at this ⊢ <;> lia
 refine w6 (Dr S.good hj he hf1) fun g1 p1 p2 p3 p4 p5=>?_;have uS:(t.put j).1.plain=true:=by rw[GU S.good];exact S.plain
 have hld:(t.put j).1.led=led:=by rw[GU S.good];exact S.JW
 rw[uS];simp only[aN3];refine ah (κ.UW sE ?_);simp only[aN3];have ent:jq (xs.map (entry κ)).toArray (t.put j).2 (κ.hash k,eW b)=((xs.take (below t.place j)++(k,b)::xs.drop (below t.place j)).map (entry κ)).toArray:=by apply Bh.mp;rw[toList_ins,p1,iN,bG,Fx,Fy];rfl
 rw[ent];have len:(xs.take (below t.place j)++(k,b)::xs.drop (below t.place j)).length=xs.length+1:=by rw[cG,dg,l8,xo];lia
 have nd:((xs.take (below t.place j)++(k,b)::xs.drop (below t.place j)).map (·.1)).Nodup:=by rw[iN,bG,Fx,Fy];exact JY _ S.keys GW
 have mem:∀x,x∈(xs.take (below t.place j)++(k,b)::xs.drop (below t.place j))↔x=(k,b)\/x∈xs:=fun x=>zF _ _ _ _;have is':∀x∈(xs.take (below t.place j)++(k,b)::xs.drop (below t.place j)),κ.is s.heap x.1 x.2:=fun x IM=>by rcases(mem x).mp IM with e|e;rw[e];exact hx;exact S.each x e
 have pth:Paths (t.put j).1 (fun i=>(((xs.take (below t.place j)++(k,b)::xs.drop (below t.place j)).map (entry κ)).toArray[i]?.map (·.1)).getD 0) (xs.length+1):=by refine JS S.good hj he hf1 S.IL (h:=κ.hash k) (fun i hi=>?_) hp;rw[<- ent,p1,sF _ _ _ (by simp;exact p2)];by_cases c1:i<below t.place j;rw[aM4 c1,aM4 c1];rw[aM5 c1,aM5 c1];by_cases c2:i=below t.place j;rw[aM4 c2,aM4 c2];rfl;rw[aM5 c2,aM5 c2]
 obtain⟨sb,Ov,is2,S2⟩:=jg.store (s:={s with toks:=s.toks+κ.draws k}) S' (t':=(t.put j).1) (by rw[len];exact g1) (by rw[len];exact pth) hld uS nd is';refine ah (LO S.obj S.data ?_ (by rw[dI,br,len,gG];lia));have ah9:∀h' o' Bu t' ys,i6 a s.heap h'->jg κ h' a led ys o' Bu t'->(∀x,x∈ys↔x∈(xs.take (below t.place j)++(k,b)::xs.drop (below t.place j)))->ys.length=xs.length+1->Q true {s with heap:=h',toks:=s.toks+κ.draws k}:=
  fun h' o' Bu t' ys q1 q2 q3 q4=>h true h' o' Bu t' ys q1 q2 (fun x IM=>((mem x).mp ((q3 x).mp IM)).symm) (fun x IM=>(q3 x).mpr ((mem x).mpr (.inr IM))) (aO.mpr ⟨(k,b),(q3 _).mpr ((mem _).mpr (.inl rfl)),rfl⟩) (by lia)
 have tf:(t.put j).1.tooFull=decide ((xs.length+1)*5 ≥ t.mask*3):=by unfold SetTable.tooFull SetTable.fill;rw[g1.dum,g1.size,p3];simp
 rw[tf];simp only[Bk,Bl];by_cases full:(xs.length+1)*5 ≥ t.mask*3;rw[aM4 (aM6 full)];have lZ:=S.lZ;have hM:∃M,Lv M/\sizeAbove (SetTable.grown ((xs.map (entry κ)).toArray.size+1))=M+1/\(xs.length+1)*5<M*3:=by
  have eg:SetTable.grown ((xs.map (entry κ)).toArray.size+1)=(xs.length+1)*4:=by unfold SetTable.grown;rw[dI,br,aM5 (by lia)]
  rw[eg];rcases S.good.YV with e|e|e;rw[e] at full lZ;exact⟨31,.inr (.inl rfl),sW (.inl ⟨rfl,by lia,by lia⟩),by lia⟩;rw[e] at full lZ;exact⟨127,.inr (.inr rfl),sW (.inr ⟨rfl,by lia,by lia⟩),by lia⟩;rw[e]at full;lia
 refine cM hM fun M hM1 hM2 hM3=>?_;clear hM;refine ah (Ow (κ:=κ) (M:=M) (led:=led) (s:={s with heap:=_,toks:=_}) Ov S.nR rfl (by rw[len];exact g1) hld uS nd is2 hM1 hM2 (by rw[len];exact hM3) fun h' o' Bu t' ys q1 q2 q3 q4=>?_);exact aC (ah9 h' o' Bu t' ys (sb.trans q1) q2 q3 (q4.trans len));rw[aM5 (by simp;lia)];refine aC (ah9 _ _ _ _ _ sb (S2 (by rw[len,p3];lia)) (fun x=>Iff.rfl) len)
end
section
variable {prog:dG}{w:bQ}{K:Type}[DecidableEq K]{κ:pF prog w K}
variable {A:cH}{R:Result->aA->Prop}{s:aA}{a b:ay}{led:Bool}{xs:List (K×ay)}{o:Obj}{ep:Nat}{t:i0}
theorem jg.keep{h':aY}(S:jg κ h a led xs o ep t)(e:∀b o,h.get? b=some o->(b=a\/o.cls = .type "tuple")->h'.get? b=some o):jg κ h' a led xs o ep t:=
 ⟨e _ _ S.obj (.inl rfl),S.nR,S.data,S.good,S.IL,S.JW,S.plain,S.lZ,S.keys,fun x hx=>κ.mono (S.each x hx) fun b o q c=>e b o q (.inr c)⟩
theorem S6{ys:List (K×ay)}(hh:A.handled=none)(sZ:κ.room A.in1)(hSI:S≠I)(hSl:S≠l)(hlI:l≠I)(hn:ys.length<=50) :
  ∀(r i:Nat) (s:aA) (xs:List (K×ay)) (o:Obj) (ep:Nat) (t:i0),i+r=ys.length->s.heap.IsListIter I l i->s.heap.IsList l (ys.map fun y=>eW y.2).toArray->jg κ s.heap S led xs o ep t->
   (∀y∈ys,κ.is s.heap y.1 y.2)->(∀x∈xs,x∈ys)->(∀j y,j<i->ys[j]?=some y->y.1∈xs.map (·.1))->xs.length<=i->
   (∀h' tk o' Bu t' zs,(∀b ob,b≠S->b≠I->s.heap.get? b=some ob->h'.get? b=some ob)->jg κ h' S led zs o' Bu t'->(∀x∈zs,x∈ys)->(∀y∈ys,y.1∈zs.map (·.1))->R (.ok (.ret .none)) {s with heap:=h',toks:=tk})->
   codeAny (aD prog w) A (.builtin "set.update.loop" ⟨[.ref S,.ref I],[]⟩) R s:=by
 intro r;induction r with
 | zero=>intro i s xs o ep t hi hit hl hS hk hx hd hz hR;refine mD Nd ?_;rw[rA G3 _];refine ah (m:=pyNext (.ref I)) (Uq hh hit hl (by simp;lia) fun h' he=>?_);refine aC (hR h' s.toks o ep t xs (fun b ob _ h2 e=>he b ob h2 e) (hS.keep fun b ob e c=>he b ob ?_ e) hx fun y hy=>?_);rintro rfl;rcases c with c | c;exact hSI c.symm;refine cM hit fun oi h1 h2 _=>?_;clear hit;obtain rfl:=fq (e.symm.trans h1);rw[h2]at c;exact aN6 c (by decide);obtain⟨j,hj,ej⟩:=j4.mp hy;exact hd j y (by lia) (by rw[dz hj,ej])
 | succ r ih=>
  intro i s xs o ep t hi hit hl hS hk hx hd hz hR;have hil:i<ys.length:=by lia
  refine mD Nd ?_;rw[rA G3 _];refine ah (m:=pyNext (.ref I)) (Up hit hl (x:=.ref (ys[i]).2) (by simp[hil]) fun h1 S7 Lq=>?_);have tupI:∀b ob,s.heap.get? b=some ob->ob.cls = .type "tuple" ->b≠I:=fun b ob e c z=>by subst z;refine cM hit fun oi q1 q2 _=>?_;clear hit;obtain rfl:=fq (e.symm.trans q1);rw[q2] at c;exact aN6 c (by decide)
  have UX:∀b ob,s.heap.get? b=some ob->(b=S\/ob.cls = .type "tuple")->h1.get? b=some ob:=fun b ob e c=>by rw[Lq.2 b ?_];exact e;rcases c with c | c;rw[c];exact hSI;exact tupI b ob e c
  have S1:jg κ ({s with heap:=h1}:aA).heap S led xs o ep t:=hS.keep UX;have hk1:∀y∈ys,κ.is h1 y.1 y.2:=fun y hy=>κ.mono (hk y hy) fun b ob e c=>UX b ob e (.inr c);have hm:ys[i]∈ys:=uG hil;dsimp only;refine ah (jh (WJ S1 sZ (hk1 _ hm) (by lia) fun c h2 o2 ep2 t2 zs Lr S2 m1 m2 m3 m4=>?_));refine aC ⟨x8 G3 _,?_⟩;have tupS:∀b ob,h1.get? b=some ob->ob.cls = .type "tuple" ->b≠S:=fun b ob e c z=>by subst z;obtain rfl:=fq (e.symm.trans S1.obj);rw[S1.nR.1]at c;exact aN6 c (by decide)
  refine ih (i+1) _ zs o2 ep2 t2 (by lia) (S7.at fun ob e=>by rw[Lr.2 _ (eU hSI)];exact e) ?_ S2 (fun y hy=>κ.mono (hk1 y hy) fun b ob e c=>by rw[Lr.2 b (tupS b ob e c)];exact e)
   (fun x sE=>?_) (fun j y hj hy=>?_) (by lia) fun h' tk o' Bu t' ws q1 q2 q3 q4=>?_
  refine hl.at fun ob e=>?_;show h2.get? l=_;rw[Lr.2 _ (eU hSl),Lq.2 _ hlI];exact e;rcases m1 x sE with e|e;exact hx x e;rw[e];exact hm;by_cases c:j<i;refine aU (aO.mp (hd j y c hy)) fun x hx1 IM=>?_;exact aO.mpr ⟨x,m2 x hx1,IM⟩;have:j=i:=by lia
  subst this;rw[dz hil]at hy;obtain rfl:=fq hy;exact m3;refine hR h' tk o' Bu t' ws (fun b ob h1' GN e=>q1 b ob h1' GN ?_) q2 q3 q4;show h2.get? b=_;rw[Lr.2 b h1',Lq.2 b GN];exact e
end
section
variable {w:bQ}{K:Type}[DecidableEq K]{κ:pF prog w K}
variable {A:cH}{s:aA}
def jb(w:bQ):Bool:=!(w.params.followText "set-order")
def jD(w:bQ):Obj:={cls:=.type "set",dict:=none,data:=.set #[] 0 (.fresh 0 0 (jb w))}
theorem GX(w:bQ):Good (SetTable.fresh 0 0 (jb w)) 0:=⟨rfl,fun i j _ h=>aN6 h (jK _),fun i h=>aN6 h (jK _),rfl,.inl rfl,(by show 0<7;decide)⟩
theorem GY{h:aY}(e:h.get? a=some (jD w)):jg κ h a (jb w) [] (jD w) 0 (.fresh 0 0 (jb w)):=
 ⟨e,⟨rfl,rfl,rfl⟩,rfl,GX w,fun i h=>aN6 h (jK _),rfl,rfl,(by show 0*5<7*3;decide),FG,fun x h=>aN6 h (by simp)⟩
theorem Ox(v:av){Q₁:av->aA->Prop}(h:Q₁ (.ref s.heap.objs.size) {s with heap:=s.heap.push (jD w)}) :
  codeAny (aD prog w) A (.call (.builtin "set.__new__") ⟨[.type "set",v],[]⟩) (wants Q₁ E) s:=by
 refine codeAny_of_tree ?_;show aB _ A.in1 (checkBuiltinCall "set.__new__" ⟨[.type "set",v],[]⟩>>=fun _=>again (.builtin "set.__new__" ⟨[.type "set",v],[]⟩)) _ _ s;refine ah (uo (F.newCall_set_1 v) (aC ⟨x8 Nf _,mD F.entry_set_new ?_⟩));rw[rA Nf _];unfold Builtin.«set.__new__» Builtin.Frozenset.newClass;have own:=sub_set_self;obtain ⟨hp,g,d,tk,os⟩:=s;dsimp only
 wp_walk
 refine EW (aC ?_);dsimp only;simp only[newObj];exact ah (wpAny_alloc (aC (aC h)))
theorem Oz{ys:List (K×ay)}{Q:av->aA->Prop}(hh:A.handled=none)(sZ:κ.room A.in1.in1.in1)(hl:s.heap.IsList l (ys.map fun y=>eW y.2).toArray)(hn:ys.length<=50)(hk:∀y∈ys,κ.is s.heap y.1 y.2)
  (h:∀h' tk o ep t zs,(∀b ob,s.heap.get? b=some ob->h'.get? b=some ob)->jg κ h' s.heap.objs.size (jb w) zs o ep t->(∀x∈zs,x∈ys)->(∀y∈ys,y.1∈zs.map (·.1))->Q (.ref s.heap.objs.size) {s with heap:=h',toks:=tk}) :
  aB (aD prog w) A (call (.type "set") [.ref l]) Q E s:=by
 refine rC oW.mro fun c tl aL1=>?_;have made:=oW.made;have sub:=oW.sub;have n1:=oW.notType;have n2:=oW.canCreate;have ct:=F.typeCall_set_1 (.ref l);refine AX (codeAny_of_tree ?_);show aB _ _ (callAny (.type "set") _) _ _ _;refine aC ⟨G4 _ (by decide +kernel),mD F.entry_type_call ?_⟩;rw[Around.under_plain (weight_type_call_type "set" [.ref l] []) rfl];repeat any_goals first|assumption|wp_step
 refine um (Ox (.ref l) (E:=E) (Q₁:=fun obj lC=>obj = .ref s.heap.objs.size/\lC={s with heap:=s.heap.push (jD w)}) ⟨rfl,rfl⟩) fun r lC hr=>?_;cases r with
 | error e=>exact hr
 | ok fl=>
  cases fl with
  | ret obj=>
   obtain⟨rfl,rfl⟩:=hr;have got:(s.heap.push (jD w)).get? s.heap.objs.size=some (jD w):=eV _ rfl;have ty:Shared.TypeIs {s with heap:=s.heap.push (jD w)} (.ref s.heap.objs.size) "set":=⟨_,got,rfl⟩
   have li:=oW.init.lookup;have bi:=oW.init.bind (.ref s.heap.objs.size);repeat any_goals first|assumption|wp_step
   refine um (codeAny_call_builtin (R:=wants (fun r Rt=>r = .none/\∃h' tk o ep t zs,Rt={s with heap:=h',toks:=tk}/\(∀b ob,s.heap.get? b=some ob->h'.get? b=some ob)/\jg κ h' s.heap.objs.size (jb w) zs o ep t/\(∀x∈zs,x∈ys)/\(∀y∈ys,y.1∈zs.map (·.1))) E)
    oW.init.plain F.entry_set_init (check_set_init_1 ty ?_)) fun aC6 Rt OA=>?_
   ·obtain⟨ol,hol,Am,nl,hdl⟩:=hl;obtain⟨aL2,ai2,aJ3,WK⟩:=ol;simp only at Am hdl;subst Am;subst hdl;have aC7:(s.heap.push (jD w)).get? l=some {cls:=.type "list",dict:=ai2,data:=.seq (ys.map fun y=>eW y.2).toArray nl,slots:=WK}:=bU _ hol;have s1:=F.sub_list_set;have s2:=F.sub_list_frozenset;have s3:(sd "list"==sd "dict")=false:=by decide
    have hl1:(s.heap.push (jD w)).IsList l (ys.map fun y=>eW y.2).toArray:=⟨_,aC7,rfl,nl,rfl⟩
    have aL3:(s.heap.push (jD w)).get? s.heap.objs.size=some {cls:=.type "set",dict:=none,data:=.set #[] 0 (.fresh 0 0 (jb w))}:=got;unfold Builtin.«set.__init__» noKeywords Builtin.Frozenset.updateFrom;generalize hPI:pyIter=PI
    wp_walk
    subst hPI;refine LD hl1 ?_;refine ah (wpAny_runValue ?_);have lt:l<s.heap.objs.size:=cu hol;have sz:(s.heap.push (jD w)).objs.size=s.heap.objs.size+1:=by rw[A8]
    have d1:s.heap.objs.size≠(s.heap.push (jD w)).objs.size:=by rw[sz];exact dH (A9 _)
    have d2:s.heap.objs.size≠l:=CH lt;have d3:l≠(s.heap.push (jD w)).objs.size:=by rw[sz];exact dH (xm lt)
    refine S6 (κ:=κ) (led:=jb w) (ys:=ys) (by simp[hh]) sZ d1 d2 d3 hn ys.length 0 _ [] (jD w) 0 (.fresh 0 0 (jb w)) (by lia)
     ?h1 ?h2 ?h3 ?hk (fun x hx=>aN6 hx (by simp)) (fun j y hj=>aN6 hj (jK _)) (bg _) fun h' tk o ep t zs q1 q2 q3 q4=>?_
    case h1=>exact⟨_,eV _ rfl,rfl,rfl⟩
    case h2=>exact hl1.push _
    case h3=>exact GY (bU _ got)
    case hk=>exact fun y hy=>κ.mono (hk y hy) fun b ob e _=>bU _ (bU _ e)
    refine aC (aC ⟨rfl,h',tk,o,ep,t,zs,rfl,fun b ob e=>?_,q2,q3,q4⟩);have lb:=cu e;exact q1 b ob (dH lb) (by rw[sz];exact dH (xm lb)) (bU _ (bU _ e))
   cases aC6 with
   | error e=>exact OA
   | ok ai3=>
    cases ai3 with
    | ret r=>
     obtain⟨rfl,h',tk,o,ep,t,zs,rfl,q1,q2,q3,q4⟩:=OA;repeat any_goals first|assumption|wp_step
     exact h h' tk o ep t zs q1 q2 q3 q4
    | _=>exact OA.elim
  | _=>exact hr.elim
end
theorem iV:Slot "set_iterator" "__next__" "set_iterator.__next__" :=
 .of (owner:="set_iterator") (n:="__next__") (by rw[typeLookup_type,builtinLookup_eq_fast];kernel_rfl) (by decide +kernel)
  (by decide +kernel) (by decide +kernel) (by first|exact .inl (by decide +kernel)|exact .inr (by decide +kernel))
  (by rw[isSubtype_type];kernel_rfl)
theorem pG:entryFor table "set_iterator.__next__" =some Builtin.«set_iterator.__next__»:=LP (by kernel_rfl)
theorem qD(a:av):argsOk "set_iterator.__next__" ⟨[a],[]⟩:=by unfold argsOk;kernel_rfl
theorem yq:entryFor table "set.__iter__" =some Builtin.«frozenset.__iter__» :=
 entryFor_alias (id':="frozenset.__iter__") (by kernel_rfl) rfl (by decide +kernel) (by kernel_rfl)
theorem IQ(next:Nat->Nat):∀(fuel k:Nat) (left:List α) (out:Array α),fuel=left.length->(pickOrder.go next fuel k left out).toList.Perm (out.toList++left)
 | 0,k,left,out,h=>by
  have:left=[]:=oR.mp h.symm;subst this;unfold pickOrder.go;simp
 | fuel+1,k,left,out,h=>by
  unfold pickOrder.go;have gr:next k % left.length<left.length:=qW _ (by lia)
  rw[dz gr];dsimp only;refine(IQ next fuel (k+1) _ _ (by rw[List.length_eraseIdx_of_lt gr];lia)).trans ?_;rw[FQ,fP];refine N9 _ ?_;have e1:left=left.take (next k % left.length)++left[next k % left.length]::left.drop (next k % left.length+1):=by rw[<- uA gr,nJ]
  have e2:left.eraseIdx (next k % left.length)=left.take (next k % left.length)++left.drop (next k % left.length+1):=MC _ _;rw[e2];refine List.Perm.trans ?_ (List.Perm.of_eq e1.symm);rw[List.singleton_append];exact MB.symm
theorem As(next:Nat->Nat)(xs:Array α):(pickOrder next xs).toList.Perm xs.toList:=by
 have:=IQ next xs.size 0 xs.toList #[] (by simp)
 simpa[pickOrder]using this
section
variable {prog:dG}{w:bQ}{K:Type}[DecidableEq K]{κ:pF prog w K}
variable {A:cH}{E:av->aA->Prop}{s:aA}{a:ay}{xs:List (K×ay)}{o:Obj}{ep:Nat}{t:i0}
def jI(w:bQ)(a:ay)(ep:Nat)(es:Array (Int×av)):Array (Int×av):=if w.params.followText "set-order"then pickOrder (w.params.setOrder a ep) es else es
theorem uY(w:bQ)(a:ay)(ep:Nat)(es:Array (Int×av)):(jI w a ep es).toList.Perm es.toList:=by
 unfold jI;split;exact As _ _;exact .refl _
def slotAt(w:bQ)(t:i0)(m:Nat):Nat:=if w.params.followText "set-order"then 0 else if m=0 then 0 else t.place.getD (m-1) 0+1
def Au(h:aY)(I a:ay)(n ep slot m:Nat):Prop:=∃ob,h.get? I=some ob/\ob.cls = .type "set_iterator" /\ob.data = .fields #[rawInt slot,rawInt m,.ref a,rawInt n,rawInt ep]
theorem Au.typeIs{n ep slot m:Nat}(x:Au s.heap I a n ep slot m):s.TypeIs (.ref I) "set_iterator":=let⟨ob,h1,h2,_⟩:=x;⟨ob,h1,h2⟩
theorem uZ{Q:Bool->aA->Prop}(h:Q (w.params.followText "set-order") s):aB (aD prog w) A setsByText Q E s:=by
 unfold setsByText;exact ah (EW (aC h))
theorem IS{Q:Option (av×Nat)->aA->Prop}(S:jg κ s.heap a (jb w) xs o ep t)(hm:m<=xs.length)
  (h1:∀e,(jI w a ep (xs.map (entry κ)).toArray)[m]?=some e->Q (some (e.2,slotAt w t (m+1))) s) (h2:m=xs.length->Q none s) :
  aB (aD prog w) A (setNext a (slotAt w t m) m ep) Q E s:=by
 unfold setNext;refine ah (jC S ?_);dsimp only;refine ah (uZ ?_);by_cases hb:w.params.followText "set-order"=true;rw[aM4 hb];simp only[aN7,dj,aN2];unfold setWalk;refine ah (ah (jC S ?_));dsimp only;refine ah (uZ ?_);rw[aM4 hb];refine ah (EW (aC ?_));have ew:jI w a ep (xs.map (entry κ)).toArray=pickOrder (w.params.setOrder a ep) (xs.map (entry κ)).toArray:=by unfold jI;rw[aM4 hb]
 have es:∀q,slotAt w t q=0:=fun q=>by unfold slotAt;rw[aM4 hb]
 have sz:(pickOrder (w.params.setOrder a ep) (xs.map (entry κ)).toArray).size=xs.length:=by rw[<- dN,(As _ _).length_eq];simp
 refine aC ?_;show Q ((pickOrder (w.params.setOrder a ep) (xs.map (entry κ)).toArray)[m]?.map fun e=>(e.2,slotAt w t m)) s;cases q:(pickOrder (w.params.setOrder a ep) (xs.map (entry κ)).toArray)[m]? with
 | none=>have:=MX.mp q;exact h2 (by lia)
 | some e=>have:=h1 e (by rw[ew];exact q);rw[es]at this ⊢;exact this
 rw[aM5 hb];have ew:jI w a ep (xs.map (entry κ)).toArray=(xs.map (entry κ)).toArray:=by unfold jI;rw[aM5 hb]
 have ld:t.led=true:=by rw[S.JW];unfold jb;rw[xG.mpr hb];rfl
 have bl:below t.place (slotAt w t m)=m:=by unfold slotAt;rw[aM5 hb];by_cases c:m=0;rw[aM4 c,c];refine xO (nQ S.good.rise 0) fun b1 b2 b3=>?_;rcases Ma (below t.place 0)with z|z;exact z;exact aN6 (b2 0 z) (jK _);rw[aM5 c];refine xO (nQ S.good.rise (t.place.getD (m-1) 0+1)) fun b1 b2 b3=>?_;rw[S.good.size]at b1 b3;rcases ux (below t.place (t.place.getD (m-1) 0+1)) m with z|z|z;have:=b3 (m-1) (by lia) (by lia);lia;exact z;have q1:=b2 m z;have q2:=S.good.rise (m-1) m (by lia) (by rw[S.good.size];lia);lia
 refine wpAny_ite ?_;split;rename_i hd;exfalso;have:(!t.plain&&decide ((xs.map (entry κ)).toArray.size > 1))=true:=hd;rw[S.plain]at this;cases this;refine ah (uo (a:=()) ?_ ?_);show(if(!t.led && !((xs.map (entry κ)).toArray).isEmpty)=true then(unsupported "set:maker-not-led" : Sem Unit)else pure ())=pure ();rw[ld];rfl;refine aC ?_;show Q (match((xs.map (entry κ)).toArray)[below t.place (slotAt w t m)]?,t.place[below t.place (slotAt w t m)]? with
  | some (_,x),some j=>some (x,j+1)
  | _,_=>none) s
 rw[bl];by_cases c:m<xs.length;have e1:((xs.map (entry κ)).toArray)[m]?=some (entry κ xs[m]):=by rw[kO,dz c];rfl
 have hs:m<t.place.size:=by rw[S.good.size];exact c
 have e2:t.place[m]?=some (t.place.getD m 0):=by simp[Array.getD,hs]
 rw[e1,e2];have:=h1 (entry κ xs[m]) (by rw[ew];exact e1);unfold slotAt at this;rw[aM5 hb,aM5 (by lia),B7]at this;exact this;have em:m=xs.length:=by lia
 have e1:((xs.map (entry κ)).toArray)[m]?=none:=by rw[kO,uE (by lia)];rfl
 rw[e1];exact h2 em
end
section
variable {prog:dG}{w:bQ}{K:Type}[DecidableEq K]{κ:pF prog w K}
variable {A:cH}{E:av->aA->Prop}{s:aA}{a I:ay}{xs:List (K×ay)}{o:Obj}{ep:Nat}{t:i0}
theorem rH{Q:Array (Int×av)->aA->Prop}{led:Bool}(S:jg κ s.heap a led xs o ep t)(h:Q (xs.map (entry κ)).toArray s):aB (aD prog w) A (setEntries a) Q E s:=by
 unfold setEntries;exact ah (jC S (aC h))
theorem S8{Q:av->aA->Prop}(S:jg κ s.heap a (jb w) xs o ep t)(hn:xs.length<=50)
  (h:Q (.ref s.heap.objs.size) {s with heap:=s.heap.push {cls:=.type "set_iterator",data:=.fields #[rawInt (slotAt w t 0),rawInt ((0:Nat):Int),.ref a,rawInt xs.length,rawInt ep]}}):aB (aD prog w) A (pyIter (.ref a)) Q E s:=by
 have ty:s.TypeIs (.ref a) "set":=⟨o,S.obj,S.nR.1⟩
 refine AZ ty Ng (iK Ng ty yq ?_ (F.args_set_iter_1 _));unfold Builtin.«frozenset.__iter__» Builtin.Frozenset.slot0 slotArgs;simp only[FH,j6,dj,aN2,bind_assoc,qZ,aN7];unfold Builtin.Frozenset.addrOf Builtin.Frozenset.sizeOf;refine ah (aC ?_);try dsimp only
 refine ah (aC ?_);refine ah (ah (rH S (aC ?_)));refine ah ?_;unfold setDrawn;refine ah (jC S ?_);dsimp only;refine ah (uZ (aC ?_));rw[aM5 (by
  intro z;have z:(!(w.params.followText "set-order")&&(!t.plain&&decide ((xs.map (entry κ)).toArray.size > 1)))=true:=z;rw[S.plain]at z;simp at z)]
 refine ah (aC ?_);have z0:slotAt w t 0=0:=by unfold slotAt;split <;> rfl
 rw[z0]at h;refine ah ?_;unfold setEpoch;refine ah (jC S (aC ?_));dsimp only;unfold newFields;refine ah (ou (aC ⟨_,rfl,"set_iterator",_,⟨_,eV _ rfl,rfl⟩,iV.lookup,?_⟩));simpa using h
theorem OB{Q:Option av->aA->Prop}(S:jg κ s.heap a (jb w) xs o ep t)(hit:Au s.heap I a xs.length ep (slotAt w t m) m)(he:(jI w a ep (xs.map (entry κ)).toArray)[m]?=some e)
  (hm:m<xs.length) (hQ:∀h',Au h' I a xs.length ep (slotAt w t (m+1)) (m+1)->i6 I s.heap h'->Q (some e.2) {s with heap:=h'}):aB (aD prog w) A (pyNext (.ref I)) Q E s:=by
 refine cM (id hit) fun ob ho hc hd=>?_;unfold pyNext;refine ah (oK (qQ (name:=lq "__next__") hit.typeIs iV (iK iV hit.typeIs pG ?_ (qD _))));unfold Builtin.«set_iterator.__next__» slotArgs;simp only[FH,j6,dj,aN2,bind_assoc,qZ,aN7];refine ah (aC ?_);dsimp only;refine ah (uq ho hd ?_);dsimp only[rawInt];refine ah (rH S ?_);rw[aM5 (by simp)];simp only[kB];refine ah (IS S (ji hm) (fun e' RZ=>?_) (fun z=>aN6 z (dH hm)));obtain rfl:e=e':=fq (he.symm.trans RZ);dsimp only;refine ah (qP ho hd (by simp) ?_);have d1:=uK hd (·.setIfInBounds 0 (rawInt (slotAt w t (m+1):Nat)));have g1:=nH (Obj.mapFields (·.setIfInBounds 0 (rawInt (slotAt w t (m+1):Nat)))) ho (Bm d1);refine ah (qP g1 d1 (by simp) ?_);have d2:=uK d1 (·.setIfInBounds 1 (rawInt ((m:Int)+1)));have g2:=nH (Obj.mapFields (·.setIfInBounds 1 (rawInt ((m:Int)+1)))) g1 (Bm d2);refine aC ⟨_,rfl,aC (hQ _ ⟨_,g2,?_,?_⟩ ((fz ..).trans (fz ..)))⟩;rw[G1,G1];exact hc;rw[d2];simp[rawInt]
theorem S9{Q:Option av->aA->Prop}(hh:A.handled=none)(S:jg κ s.heap a (jb w) xs o ep t)(hit:Au s.heap I a xs.length ep (slotAt w t xs.length) xs.length)
  (hQ:∀h',Heap.ExtBut I s.heap h'->Q none {s with heap:=h'}):aB (aD prog w) A (pyNext (.ref I)) Q E s:=by
 refine cM (id hit) fun ob ho hc hd=>?_;unfold pyNext;refine ah (oK (qQ (name:=lq "__next__") hit.typeIs iV (iK iV hit.typeIs pG ?_ (qD _))));unfold Builtin.«set_iterator.__next__» slotArgs;simp only[FH,j6,dj,aN2,bind_assoc,qZ,aN7];refine ah (aC ?_);dsimp only;refine ah (uq ho hd ?_);dsimp only[rawInt];refine ah (rH S ?_);rw[aM5 (by simp)];simp only[kB];have sz:(jI w a ep (xs.map (entry κ)).toArray).size=xs.length:=by rw[<- dN,(uY _ _ _ _).length_eq];simp
 refine ah (IS S (bg _) (fun e' RZ=>?_) (fun z=>?_));rw[rj (by lia)]at RZ;cases RZ;dsimp only;refine ah (qP ho hd (by simp) ?_);refine ah ?_;simp only[newExc,newTuple];refine ah (ou ?_ (by size_fits));refine ah (m:=ur _ _) (uo (a:=ez) (by first | rfl | (simp only[ur];rfl)) ?_);refine ou ?_ (by size_fits);simp only[raiseNew];refine ah (EX ?_);have hh1:A.in1.handled=none:=hh;rw[hh1];refine ah (aC (EY ?_));refine ah (qR (T:="StopIteration") (b:=true) ⟨_,eV _ rfl,rfl⟩ EZ ?_);exact aC (hQ _ (((fz ..).extBut.push _).push _))
theorem JZ(hh:A.handled=none)(hLI:L≠I)(hLa:L≠a)(hIa:a≠I)(hn:xs.length<=50) :
  ∀(r m:Nat) (s:aA),m+r=xs.length->jg κ s.heap a (jb w) xs o ep t->Au s.heap I a xs.length ep (slotAt w t m) m->
   (∃n,s.heap.get? L=some (fu "list" (((jI w a ep (xs.map (entry κ)).toArray).toList.take m).map (·.2)).toArray n))->
   (∀h' n,(∀b ob,b≠L->b≠I->s.heap.get? b=some ob->h'.get? b=some ob)->h'.get? L=some (fu "list" ((jI w a ep (xs.map (entry κ)).toArray).toList.map (·.2)).toArray n)->R (.ok (.ret res)) {s with heap:=h'})->
   codeAny (aD prog w) A (.builtin "list.extend.loop" ⟨[.ref L,.ref I,res],[]⟩) R s:=by
 have sz:(jI w a ep (xs.map (entry κ)).toArray).size=xs.length:=by rw[<- dN,(uY _ _ _ _).length_eq];simp
 have yr:entryFor table "list.extend.loop" =some Builtin.«list.extend.loop»:=LP (by kernel_rfl);have rJ:plainId "list.extend.loop"=true:=by decide +kernel
 intro r;induction r with
 | zero=>
  intro m s hm S hit ⟨n,hL⟩ hR;have em:m=xs.length:=by lia
  subst em;refine mD yr ?_;rw[rA rJ _];refine ah (m:=pyNext (.ref I)) (S9 hh S hit fun h' he=>?_);refine aC (hR h' n (fun b ob _ h2 e=>he b ob h2 e) ?_);have:=he L _ hLI hL;rw[uB (by rw[dN];lia)]at this;exact this
 | succ r ih=>
  intro m s hm S hit ⟨n,hL⟩ hR;have hml:m<xs.length:=by lia
  have ai6:m<(jI w a ep (xs.map (entry κ)).toArray).size:=by lia
  refine mD yr ?_;rw[rA rJ _];refine ah (m:=pyNext (.ref I)) (OB S hit (xC ai6) hml fun h1 S7 Lq=>?_);have hL1:h1.get? L=some (fu "list" (((jI w a ep (xs.map (entry κ)).toArray).toList.take m).map (·.2)).toArray n):=by rw[Lq.2 L hLI];exact hL
  refine ah (FU hL1 rfl ?_ (by simp;rw[gG];lia) (by simp;rw[gG];lia));refine aC ⟨x8 rJ _,?_⟩;have Lr:=fz h1 L (dm fun x=>x.push ((jI w a ep (xs.map (entry κ)).toArray)[m]).2);have tup:∀b ob,s.heap.get? b=some ob->(b=a\/ob.cls = .type "tuple")->b≠I/\b≠L:=fun b ob e c=>by constructor;rintro rfl;rcases c with c | c;exact hIa c.symm;refine cM hit fun q q1 q2 _=>?_;clear hit;obtain rfl:=fq (e.symm.trans q1);rw[q2] at c;exact aN6 c (by decide);rintro rfl;rcases c with c | c;exact hLa c;obtain rfl:=fq (e.symm.trans hL);exact aN6 (show sd "list"=sd "tuple"from c) (by decide)
  refine ih (m+1) _ (by lia) (S.keep fun b ob e c=>?_) ?_ ?_ fun h' n' q1 q2=>?_;obtain⟨c1,c2⟩:=tup b ob e c;show(h1.update L _).get? b=_;rw[Lr.2 b c2,Lq.2 b c1];exact e;refine aU S7 fun q q1 q2=>?_;clear S7;exact⟨q,(by show(h1.update L _).get? I=_;rw[Lr.2 I (eU hLI)];exact q1),q2⟩;obtain⟨n',xT⟩:∃n',(h1.update L (dm fun x=>x.push ((jI w a ep (xs.map (entry κ)).toArray)[m]).2)).get? L=some (fu "list" ((((jI w a ep (xs.map (entry κ)).toArray).toList.take m).map (·.2)).toArray.push ((jI w a ep (xs.map (entry κ)).toArray)[m]).2) n'):=⟨_,FW hL1 _⟩
  refine⟨n',xT.trans ?_⟩;congr 2;rw[MD,dz (by rw[dN];exact ai6)];simp;refine hR h' n' (fun b ob h1' GN e=>q1 b ob h1' GN ?_) q2;show(h1.update L _).get? b=_;rw[Lr.2 b h1',Lq.2 b GN];exact e
end
section
variable {prog:dG}{w:bQ}{K:Type}[DecidableEq K]{κ:pF prog w K}
variable {A:cH}{E:av->aA->Prop}{s:aA}{a:ay}{xs:List (K×ay)}{o:Obj}{ep:Nat}{t:i0}
theorem Sa{Q:Bool->aA->Prop}(hT:s.TypeIs (.ref a) "set")(h:∀c tk,Q c {s with toks:=tk}):aB (aD prog w) A (Builtin.List.listLengthHint (.ref a)) Q E s:=by
 unfold Builtin.List.listLengthHint;refine ah (qS hT F.slot_set_len.lookup ?_);have sp:splitId "set.__len__"=some ("set","__len__"):=by kernel_rfl
 dsimp only;rw[sp];dsimp only;refine ah (qR hT sub_set_self ?_);rw[j6,aM5 jo];rw[aM4 (by decide +kernel)];refine ah (B0 hT ?_);exact aC (h false s.toks)
theorem Dw{Q:List av->aA->Prop}(hh:A.handled=none)(S:jg κ s.heap a (jb w) xs o ep t)(hn:xs.length<=50)
  (h:∀h' tk vs,(∀b ob,s.heap.get? b=some ob->h'.get? b=some ob)->vs.Perm (xs.map fun x=>eW x.2)->Q vs {s with heap:=h',toks:=tk}):aB (aD prog w) A (collect (.ref a)) Q E s:=by
 unfold collect;refine ah (wpAny_runValue (mD Vi ?_));refine ah (m:=newList []) (x6 (aC ⟨G4 _ (by decide +kernel),mD Vj ?_⟩));show aB _ _ (Builtin.List.listExtendWith (.ref s.heap.objs.size) (.ref a) (.ref s.heap.objs.size)) _ _ {s with heap:=s.heap.push (fu "list" #[] 0)};unfold Builtin.List.listExtendWith;have al:a<s.heap.objs.size:=cu S.obj;have S1:jg κ ({s with heap:=s.heap.push (fu "list" #[] 0)}:aA).heap a (jb w) xs o ep t:=S.keep fun b ob e _=>bU _ e;have ty1:Shared.TypeIs {s with heap:=s.heap.push (fu "list" #[] 0)} (.ref a) "set":=⟨o,S1.obj,S1.nR.1⟩
 refine ah (B0 ty1 ?_);have sr:Builtin.List.listSameRef (.ref s.heap.objs.size) (.ref a)=false:=by show(s.heap.objs.size==a)=false;exact aN1.mpr (CH al)
 rw[sr,aM5 (by decide)];refine ah (S8 S1 hn ?_);have sz1:(s.heap.push (fu "list" #[] 0)).objs.size=s.heap.objs.size+1:=by rw[A8]
 generalize hO:({cls:=.type "set_iterator",data:=.fields #[rawInt (slotAt w t 0),rawInt ((0:Nat):Int),.ref a,rawInt xs.length,rawInt ep]}:Obj)=ob;have hI:((s.heap.push (fu "list" #[] 0)).push ob).get? (s.heap.push (fu "list" #[] 0)).objs.size=some ob:=eV _ (by rw[<- hO];rfl);have WL:((s.heap.push (fu "list" #[] 0)).push ob).get? s.heap.objs.size=some (fu "list" #[] 0):=bU _ (eV _ rfl);have S2:jg κ ((s.heap.push (fu "list" #[] 0)).push ob) a (jb w) xs o ep t:=S1.keep fun b ob e _=>bU _ e;refine ah (jh (Sa (s:={s with heap:=(s.heap.push (fu "list" #[] 0)).push ob}) ⟨o,S2.obj,S2.nR.1⟩ fun c tk=>?_));refine wpAny_ite ?_;split
 ·refine ah (wX ?_);unfold Builtin.List.listTouch;refine ah (ah (FU WL rfl ?_ (by simp) (by simp)));obtain⟨n1,g1⟩:∃n1,(((s.heap.push (fu "list" #[] 0)).push ob).update s.heap.objs.size (dm (·.push .none))).get? s.heap.objs.size=some (fu "list" (#[].push .none) n1):=⟨_,FW WL _⟩
  refine FU g1 rfl ?_ (by simp;rw[gG];decide) (by simp);obtain⟨n2,g2⟩:∃n2,((((s.heap.push (fu "list" #[] 0)).push ob).update s.heap.objs.size (dm (·.push .none))).update s.heap.objs.size (dm (·.pop))).get? s.heap.objs.size=some (fu "list" (#[].push .none).pop n2):=⟨_,FW g1 _⟩
  have sb:=(fz ((s.heap.push (fu "list" #[] 0)).push ob) s.heap.objs.size (dm (·.push .none))).trans (fz _ s.heap.objs.size (dm (·.pop)));generalize ((((s.heap.push (fu "list" #[] 0)).push ob).update s.heap.objs.size (dm (·.push .none))).update s.heap.objs.size (dm (·.pop)))=g at g2 sb ⊢;have ne1:s.heap.objs.size≠(s.heap.push (fu "list" #[] 0)).objs.size:=by rw[sz1];exact dH (A9 _)
  have ne2:s.heap.objs.size≠a:=CH al;have ne3:a≠(s.heap.push (fu "list" #[] 0)).objs.size:=by rw[sz1];exact dH (xm al)
  refine aC ⟨G4 _ (by decide +kernel),?_⟩;refine JZ (κ:=κ) (a:=a) (xs:=xs) (o:=o) (ep:=ep) (t:=t) (by simp[hh]) ne1 ne2 ne3 hn xs.length 0 _ (by lia) ?h1 ?h2 ⟨n2,g2⟩ fun h' n' q1 q2=>?_;case h1=>refine S2.keep fun b Sb e c=>?_;show g.get? b=_;rw[sb.2 b ?_];exact e;rintro rfl;rcases c with c | c;exact ne2 c;obtain rfl:=fq (e.symm.trans WL);exact aN6 (show sd "list"=sd "tuple"from c) (by decide)
  case h2=>exact⟨ob,(by show g.get? _=_;rw[sb.2 _ (eU ne1)];exact hI),by rw[<- hO],by rw[<- hO]⟩
  have pm:=(uY w a ep (xs.map (entry κ)).toArray).map (·.2);have em:(xs.map (entry κ)).toArray.toList.map (·.2)=xs.map fun x=>eW x.2:=by simp[entry]
  rw[em]at pm;show aB _ _ (load s.heap.objs.size>>=fun ob=>match ob.data with | .seq xs _=>pure xs.toList|_=>unsupported "internal:collect") _ _ _;refine ah (wpAny_load q2 ?_);refine aC (h h' tk _ (fun b Sb e=>q1 b Sb (dH (cu e)) (by rw[sz1];exact dH (xm (cu e))) ?_) (by simpa using pm));show g.get? b=_;rw[sb.2 b (dH (cu e))];exact bU _ (bU _ e)
 rename_i hs;refine aN6 ?_ hs;rw[lg];exact .inr (by decide +kernel)
end
end Ts
end aC5
section aC8
namespace Dm
open PySem PyProof.Rows L2 PySem.SeqAt
theorem aI.tup{K:aE}{H H':Hp}{a:ay}{xs:List V}(e:aI H H')(h:mZ K H a xs):mZ K H' a xs:=by
 rcases h with (h | ⟨o,h⟩) | h;exact .inl (.inl (e _ _ h));exact .inl (.inr ⟨o,e _ _ h⟩);exact .inr h
def er(H:Hp)(A:List ay):Hp:=fun a=>if a∈A then none else H a
theorem dD(h:a∈A):er H A a=none:=aM4 h
theorem aV(h:a∉A):er H A a=H a:=aM5 h
theorem aJ(H:Hp)(A:List ay):aI (er H A) H:=fun b o h=>by
 by_cases q:b∈A;rw[dD q] at h;cases h;rwa [aV q]at h
theorem aL(e:aI H H'):aI (er H A) (er H' A):=fun b o h=>by
 by_cases q:b∈A;rw[dD q] at h;cases h;rw[aV q]at h ⊢;exact e b o h
structure Cfg where
 ob:Nat->aE->Hp->ay->List V->Prop
 mono:∀{t:Nat} {K:aE} {H H':Hp} {a:ay} {vs:List V},aI H H'->ob t K H a vs->ob t K H' a vs
 own:aE->Hp->Hp->ay->List V->Prop
 IT:∀{K:aE} {F F' H H':Hp} {a:ay} {vs:List V},aI F F'->H' a=H a->own K F H a vs->own K F' H' a vs
 UY:∀{K:aE} {F G H:Hp} {a:ay} {vs:List V},own K F H a vs->aI F G->G a=H a->ob 2 K G a vs
 ai8:∀{K:aE} {F H:Hp} {a:ay} {vs:List V},own K F H a vs->∃φ,H a=some (.ext φ)
 gl:Hp->Prop
 glM:∀{H H':Hp},aI H H'->gl H->gl H'
structure GL where
 p:Hp->Prop
 m:∀{H H':Hp},aI H H'->p H->p H'
def ai9:Cfg:=⟨fun _ _ _ _ _=>False,fun _ h=>h,fun _ _ _ _ _=>False,fun _ _ h=>h,fun h _ _=>h,fun h=>h.elim,fun _=>True,fun _ h=>h⟩
mutual
def Rep(K:aE)(C:Cfg):Hp->D->V->Prop
 | _,.dh,v=>v = .dh
 | _,.bl b,v=>v = .bl b
 | _,.int i,v=>v = .int i
 | _,.str x,v=>v = .str x
 | H,.tup ds,v=>∃a xs,v = .ref a/\mZ K H a xs/\aQ K C H ds xs
 | H,.lst ds,v=>∃a xs,v = .ref a/\lB K H a xs/\aQ K C (er H [a]) ds xs
 | H,.d8 t ds,v=>∃a xs,v = .ref a/\C.ob t K H a xs/\aQ K C H ds xs
def aQ(K:aE)(C:Cfg):Hp->List D->List V->Prop
 | _,[],vs=>vs=[]
 | H,d::ds,vs=>∃v r,vs=v::r/\Rep K C H d v/\aQ K C H ds r
end
section
variable {K:aE}{C:Cfg}
mutual
theorem Rep.same:∀{H H':Hp} (e:aI H H') (d:D) {v:V},Rep K C H d v->Rep K C H' d v
 | _,_,e,.dh,v,q=>by rw[Rep]at q ⊢;exact q
 | _,_,e,.bl b,v,q=>by rw[Rep]at q ⊢;exact q
 | _,_,e,.int i,v,q=>by rw[Rep]at q ⊢;exact q
 | _,_,e,.str x,v,q=>by rw[Rep]at q ⊢;exact q
 | _,_,e,.tup ds,v,q=>by
  rw[Rep] at q ⊢;refine bA q fun a xs h1 h2 h3=>?_;clear q;exact⟨a,xs,h1,aI.tup e h2,aQ.same e ds h3⟩
 | _,_,e,.lst ds,v,q=>by
  rw[Rep] at q ⊢;refine bA q fun a xs h1 h2 h3=>?_;clear q;exact⟨a,xs,h1,e.seq h2,aQ.same (aL e) ds h3⟩
 | _,_,e,.d8 t ds,v,q=>by
  rw[Rep] at q ⊢;refine bA q fun a xs h1 h2 h3=>?_;clear q;exact⟨a,xs,h1,C.mono e h2,aQ.same e ds h3⟩
theorem aQ.same:∀{H H':Hp} (e:aI H H') (ds:List D) {vs:List V},aQ K C H ds vs->aQ K C H' ds vs
 | _,_,e,[],_,q=>by rw[aQ]at q ⊢;exact q
 | _,_,e,d::ds,_,q=>by
  rw[aQ] at q ⊢;refine bA q fun v r e1 a b=>?_;clear q;exact⟨v,r,e1,Rep.same e d a,aQ.same e ds b⟩
end
variable {H:Hp}
theorem Rep.items(q:Rep K C H (.lst ds) v):∃a xs,v = .ref a/\lB K H a xs/\aQ K C H ds xs:=by
 rw[Rep] at q;refine bA q fun a xs h1 h2 h3=>?_;clear q;exact⟨a,xs,h1,h2,h3.same (aJ _ _) _⟩
theorem aQ.len:∀{ds:List D} {vs:List V},aQ K C H ds vs->vs.length=ds.length
 | [],_,e=>by rw[aQ]at e;subst e;rfl
 | d::ds,_,e=>by
  rw[aQ]at e;refine bA e fun v r b8 _ q=>?_;clear e;obtain rfl:=b8;rw[dg,dg,q.len]
theorem aQ.get':∀{ds:List D} {vs:List V} {j:Nat} {d:D},aQ K C H ds vs->ds[j]?=some d->∃v,vs[j]?=some v/\Rep K C H d v
 | [],_,j,v,e,h=>by cases h
 | d::ds,_,j,v,e,h=>by
  rw[aQ]at e;refine bA e fun u r b8 a q=>?_;clear e;obtain rfl:=b8;cases j with
  | zero=>cases h;exact⟨u,rfl,a⟩
  | succ j=>refine aU (q.get' (j:=j) (by simpa using h)) fun z h1 h2=>?_;exact⟨z,by simpa using h1,h2⟩
theorem aQ.nil:aQ K C H [] []:=by rw[aQ]
theorem aQ.cons(a:Rep K C H d v)(b:aQ K C H ds vs):aQ K C H (d::ds) (v::vs):=by rw[aQ];exact⟨v,vs,rfl,a,b⟩
theorem aQ.app:∀{ds es:List D} {vs ws:List V},aQ K C H ds vs->aQ K C H es ws->aQ K C H (ds++es) (vs++ws)
 | [],_,_,_,a,b=>by rw[aQ]at a;subst a;exact b
 | d::ds,_,_,_,a,b=>by
  rw[aQ] at a;refine bA a fun v r b8 a1 a2=>?_;clear a;obtain rfl:=b8;exact .cons a1 (a2.app b)
theorem aQ.take:∀{ds:List D} {vs:List V} (n:Nat),aQ K C H ds vs->aQ K C H (ds.take n) (vs.take n)
 | [],_,n,a=>by rw[aQ]at a;subst a;simp[aQ]
 | d::ds,_,0,a=>by simp[aQ]
 | d::ds,_,n+1,a=>by
  rw[aQ] at a;refine bA a fun v r b8 a1 a2=>?_;clear a;obtain rfl:=b8;rw[ME,ME];exact .cons a1 (a2.take n)
theorem aQ.drop:∀{ds:List D} {vs:List V} (n:Nat),aQ K C H ds vs->aQ K C H (ds.drop n) (vs.drop n)
 | [],_,n,a=>by rw[aQ]at a;subst a;simp[aQ]
 | d::ds,_,0,a=>a
 | d::ds,_,n+1,a=>by
  rw[aQ] at a;refine bA a fun v r b8 a1 a2=>?_;clear a;obtain rfl:=b8;rw[MF,MF];exact a2.drop n
theorem aQ.ints:∀ns:List Int,aQ K C H (ns.map D.int) (ns.map V.int)
 | []=>.nil
 | n::ns=>.cons (by rw[Rep]) (aQ.ints ns)
end
section
variable {s:aA}
mutual
theorem Inv.dat(I:Inv X ak σ H s):∀(d:D) {v:V} {u:av},flat d=true->Rep X.K C H d v->RelV v u->fH s.heap d u
 | .dh,v,u,_,q,r=>by rw[Rep]at q;subst q;rw[fH];exact r
 | .bl b,v,u,_,q,r=>by rw[Rep]at q;subst q;rw[fH];exact r
 | .int i,v,u,_,q,r=>by rw[Rep]at q;subst q;rw[fH];exact r
 | .str x,v,u,_,q,r=>by rw[Rep]at q;subst q;rw[fH];exact r
 | .tup ds,v,u,f,q,r=>by
  rw[Rep] at q;rw[flat] at f;refine bA q fun a xs b8 h2 h3=>?_;clear q;obtain rfl:=b8;obtain rfl:u = .ref a:=r;refine cM (I.tuple h2) fun bq r1 t _=>?_;rw[fH];exact⟨a,bq.toArray,rfl,t,Inv.Dy I ds f h3 r1⟩
 | .lst ds,v,u,f,q,r=>by
  have q:=q.items;rw[flat] at f;refine bA q fun a xs b8 h2 h3=>?_;clear q;obtain rfl:=b8;obtain rfl:u = .ref a:=r;refine cM (I.list h2) fun bq r1 t _=>?_;rw[fH];exact⟨a,bq.toArray,rfl,t,Inv.Dy I ds f h3 r1⟩
 | .d8 tb ds,v,u,f,q,r=>by rw[flat]at f;cases f
theorem Inv.Dy(I:Inv X ak σ H s):∀(ds:List D) {vs:List V} {us:List av},cC ds=true->aQ X.K C H ds vs->Vals vs us->bI s.heap ds us
 | [],_,_,_,q,r=>by rw[aQ]at q;subst q;cases r;rw[bI]
 | d::ds,_,_,f,q,r=>by
  rw[aQ]at q;refine bA q fun v UZ b8 a b=>?_;clear q;obtain rfl:=b8;rw[cC,bR]at f;cases r with
  | cons r1 r2=>rw[bI];exact⟨_,_,rfl,Inv.dat I d f.1 a r1,Inv.Dy I ds f.2 b r2⟩
end
def WM(K:aE)(C:Cfg)(neg:Bool):R2:=fun x y H Q=>∃d e,Rep K C H d x/\Rep K C H e y/\flat d=true/\flat e=true/\dep d<=60/\Q (.bl (if neg then !j7 d e else j7 d e)) H
theorem v5(hu:X.A.units+64<cLine):rD X (iR .Eq) (WM X.K C false):=by
 intro ak s σ H x y v u Q I rx ry ⟨d,e,h1,h2,f1,f2,h3,q⟩;exact WD d e f1 f2 (Inv.dat I d f1 h1 rx) (Inv.dat I e f2 h2 ry) (by lia) _ _ _ _ ⟨.bl (j7 d e),H,I,rfl,q⟩
theorem v7(hu:X.A.units+64<cLine):rD X (iR .NotEq) (WM X.K C true):=by
 intro ak s σ H x y v u Q I rx ry ⟨d,e,h1,h2,f1,f2,h3,q⟩;exact Oj d e f1 f2 (Inv.dat I d f1 h1 rx) (Inv.dat I e f2 h2 ry) (by lia) _ _ _ _ ⟨.bl (!j7 d e),H,I,rfl,q⟩
def WN(K:aE)(C:Cfg)(neg:Bool):R2:=fun x y H Q=>∃d es,Rep K C H d x/\(Rep K C H (.lst es) y\/Rep K C H (.tup es) y)/\flat d=true/\cC es=true/\kN es<=60/\Q (.bl (if neg then !(es.any fun e=>j7 e d)else es.any fun e=>j7 e d)) H
def vJ(h:aY)(d:D)(y:av):Bool:=@decide (∃e,fH h e y/\j7 e d=true) (Classical.propDecidable _)
theorem Dz(q:fH h e y):vJ h d y=j7 e d:=by
 unfold vJ;cases z:j7 e d with
 | true=>exact @aM6 _ (Classical.propDecidable _) ⟨e,q,z⟩
 | false=>refine @aM7 _ (Classical.propDecidable _) ?_;rintro⟨e',q',z'⟩;rw[fH.inj e e' q q']at z;rw[z]at z';cases z'
theorem ng:∀(es:List D) {ys:List av},bI h es ys->ys.any (vJ h d)=es.any fun e=>j7 e d
 | [],_,q=>by rw[bI]at q;subst q;rfl
 | e::es,_,q=>by
  rw[bI]at q;refine bA q fun v r b8 a b=>?_;clear q;obtain rfl:=b8;rw[xx,xx,Dz a,ng es b]
theorem nS{A:cH}(fd:flat d=true)(hx:fH s.heap d x)(f:cC es=true)(q:bI s.heap es ys)(hu:A.units+kN es<cLine):∀y∈ys,EqAt A s y x (vJ s.heap d y):=fun y hy=>by
 obtain⟨j,hj,e⟩:=j4.mp hy;obtain⟨a,b⟩:=q.get j hj;rw[e]at a;rw[Dz a];have:=iX b;exact pB _ _ (eN f b) fd a hx (by lia)
theorem rK(hu:X.A.units+64<cLine):rD X (iR .In) (WN X.K C false):=by
 intro ak s σ H x y v u Q I rx ry ⟨d,es,h1,h2,f1,f2,h3,q⟩;have hd:=Inv.dat I d f1 h1 rx;rcases h2 with h2 | h2;have he:=Inv.dat I (.lst es) (by rw[flat];exact f2) h2 ry;rw[fH] at he;refine bA he fun a it b8 t p=>?_;clear he;obtain rfl:=b8;refine in_listAt (vJ s.heap d) t.isList (fun y hy=>nS f1 hd f2 p (by show X.A.units+1+_<_;lia) y (Ab.mpr hy)) ?_;rw[<- Bj,ng es p];exact⟨.bl (es.any fun e=>j7 e d),H,I,rfl,q⟩;have he:=Inv.dat I (.tup es) (by rw[flat];exact f2) h2 ry;rw[fH] at he;refine bA he fun a it b8 t p=>?_;clear he;obtain rfl:=b8;refine in_tupleAt (vJ s.heap d) (aS t) (fun y hy=>nS f1 hd f2 p (by show X.A.units+1+_<_;lia) y (Ab.mpr hy)) ?_;rw[<- Bj,ng es p];exact⟨.bl (es.any fun e=>j7 e d),H,I,rfl,q⟩
theorem nh(hu:X.A.units+64<cLine):rD X (iR .NotIn) (WN X.K C true):=by
 intro ak s σ H x y v u Q I rx ry ⟨d,es,h1,h2,f1,f2,h3,q⟩;have hd:=Inv.dat I d f1 h1 rx;rcases h2 with h2 | h2;have he:=Inv.dat I (.lst es) (by rw[flat];exact f2) h2 ry;rw[fH] at he;refine bA he fun a it b8 t p=>?_;clear he;obtain rfl:=b8;refine notIn_listAt (vJ s.heap d) t.isList (fun y hy=>nS f1 hd f2 p (by show X.A.units+1+_<_;lia) y (Ab.mpr hy)) ?_;rw[<- Bj,ng es p];exact⟨.bl (!es.any fun e=>j7 e d),H,I,rfl,q⟩;have he:=Inv.dat I (.tup es) (by rw[flat];exact f2) h2 ry;rw[fH] at he;refine bA he fun a it b8 t p=>?_;clear he;obtain rfl:=b8;refine notIn_tupleAt (vJ s.heap d) (aS t) (fun y hy=>nS f1 hd f2 p (by show X.A.units+1+_<_;lia) y (Ab.mpr hy)) ?_;rw[<- Bj,ng es p];exact⟨.bl (!es.any fun e=>j7 e d),H,I,rfl,q⟩
end
end Dm
end aC8
section aC9
namespace Dm
open PySem PyProof.Rows L2 PySem.SeqAt Ts
section
theorem wJ(r:Vals ws vs):∀(pm:List Nat),(∀i∈pm,i<ws.length)->Vals (pm.map fun i=>ws.getD i .dh) (pm.map fun i=>vs.getD i ez)
 | [],_=>.nil
 | i::pm,h=>by
  refine .cons ?_ (wJ r pm fun j hj=>h j (.tail _ hj));have hi:=h i (.head _);refine aU (r.get (dz hi)) fun u h1 h2=>?_;have e1:ws.getD i .dh=ws[i]:=by simp[hi]
  have e2:vs.getD i ez=u:=by simp[h1]
  show RelV (ws.getD i .dh) (vs.getD i ez);rw[e1,e2];exact h2
theorem t6{K:aE}{H:Hp}{ws:List V}{ds:List D}(r:aQ K C H ds ws):∀(pm:List Nat),(∀i∈pm,i<ds.length)->aQ K C H (pm.map fun i=>ds.getD i .dh) (pm.map fun i=>ws.getD i .dh)
 | [],_=>.nil
 | i::pm,h=>by
  refine .cons ?_ (t6 r pm fun j hj=>h j (.tail _ hj));have hi:=h i (.head _);refine aU (r.get' (dz hi)) fun u h1 h2=>?_;have e1:ds.getD i .dh=ds[i]:=by simp[hi]
  have e2:ws.getD i .dh=u:=by simp[h1]
  show Rep K C H (ds.getD i .dh) (ws.getD i .dh);rw[e1,e2];exact h2
structure t7(ds:List D):Prop where
 kd:∃kd,Sk ds kd
 lZ:ds.length<64
 gZ:∀a∈ds,∀b∈ds,gZ a b=true
 nl:∀a∈ds,nl a=true
 dep:∀a∈ds,dep a<=50
theorem zG(h:∀a∈ds,∀b∈ds,gZ a b=true):cC ds=true:=ie fun d hd=>(yh d d (h d hd d hd)).1
def OC(K:aE)(C:Cfg):List V->Hp->VK->Prop:=fun xs H Q=>∃v ds,xs=[v]/\Rep K C H (.lst ds) v/\t7 ds/\∀p ws,H p=none->aQ K C H (eO ds) ws->Q (.ref p) (upd H p (.lst ws))
theorem yt{h1 h':aY}{vs:List av}(I:L2.Inv X ak σ H s)(k1:∀b ob,s.heap.get? b=some ob->h1.get? b=some ob)(k2:∀b ob,h1.get? b=some ob->h'.get? b=some ob)
  (hL:h1.objs.size<=L) (ho:h'.get? L=some (cJ "list" vs.toArray n)) (r:Vals ws vs) (hz:ws.length<=cU) (q:H L=none->Q (.ref L) (upd H L (.lst ws))):EP X ak σ Q (.ref L) {s with heap:=h',toks:=tk}:=by
 have I1:L2.Inv X ak σ H {s with heap:=h1,toks:=tk}:=I.kept k1;have hn:H L=none:=I1.fE.fresh hL;refine⟨.ref L,upd H L (.lst ws),I1.laid (t':=tk) k2 hL ⟨hz,vs,n,r,ho⟩,rfl,q hn⟩
def OD(K:aE)(C:Cfg)(G:List D->Prop):List V->Hp->VK->Prop:=fun xs H Q=>∃a ws ds,xs=[.ref a]/\lB K H a ws/\aQ K C H ds ws/\G ds/\∀(p:ay) (pm:List Nat),H p=none->(∀i∈pm,i<ds.length)->eO ds=pm.map (fun i=>ds.getD i .dh)->Q (.ref p) (upd H p (.lst (pm.map fun i=>ws.getD i .dh)))
theorem t8{G:List D->Prop}(hG:∀ds,G ds->cC ds=true/\∃kd,ds.length<=cU->∀bq,SG X.prog X.w X.A ds kd bq):lV X (.builtin "sorted") (OD X.K C G):=by
 intro ak s σ H xs us Q I r ⟨a,ws,ds,e,h2,h3,S,q⟩;subst e;refine aU (vals1 r) fun u je rv=>?_;obtain rfl:=je;obtain rfl:u = .ref a:=rv;refine cM (I.list h2) fun bq r1 pl hz=>?_;obtain⟨ff,kd,sg⟩:=hG ds S;have ld:bq.length=ds.length:=by rw[<- r1.length,h3.len]
 have lw:ws.length=ds.length:=h3.len;refine vH (Pd:=fun es UN vs=>es=ds/\UN=kd/\vs=bq) (fun es UN vs hp=>?_) (fun R hR=>?_) fun h1 h' tk es UN vs L n pm k1 k2 hp hd hL gr hs ho=>?_;obtain ⟨rfl,rfl,rfl⟩:=hp;exact sg (by rw[<- lw];exact hz) _;refine collect_list (vs:=bq) (s:=s) pl.isList ?_ (by rw[<- r1.length];exact hz);have keep:∀b ob,s.heap.get? b=some ob->((s.heap.push (cJ "list" #[] 0)).update s.heap.objs.size (dm (· ++ bq.toArray))).get? b=some ob:=fun b ob e=>by rw[Fi _ _ _ _ (dH (cu e))];exact bU _ e
 exact hR _ s.toks ds kd bq keep ⟨rfl,rfl,rfl⟩ ((Inv.Dy I ds ff h3 r1).keep keep);obtain ⟨rfl,rfl,rfl⟩:=hp;have lp:pm.length=es.length:=by have:=congrArg List.length hs;rw[br,(bZ es).length_eq]at this;exact this.symm
 exact yt I k1 k2 hL ho (wJ r1 pm fun i hi=>by rw[lw];exact gr i hi) (by rw[br,lp,<- lw];exact hz) fun hn=>q L pm hn gr hs
theorem kP(hu:X.A.units+64<cLine):lV X (.builtin "sorted") (OC X.K C):=by
 intro ak s σ H xs us Q I r ⟨v,ds,e,h1,S,q⟩;subst e;obtain⟨a,ws,rfl,h2,h3⟩:=h1.items;exact t8 (G:=t7) (fun ds S=>⟨zG S.gZ,S.kd.imp fun kd sk _ bq=>sgS sk S.lZ S.gZ S.nl fun a ha=>by have:=S.dep a ha;lia⟩) ak s σ H _ us Q I r ⟨a,ws,ds,rfl,h2,h3,S,fun p pm hn gr hs=>q p _ hn (by rw[hs];exact t6 h3 pm gr)⟩
end
end Dm
end aC9
section aD0
namespace Dm
open PySem PyProof.Rows L2 PySem.SeqAt Ts Tb
theorem yu(h:ItemsAre (intKind prog w) ks vs):∀v∈vs,∃i t,v=Fe i t:=by
 induction h with
 | nil=>intro v hv;cases hv
 | cons h1 _ ih=>intro v hv;rcases bW.mp hv with rfl|hv;obtain⟨t,e⟩:=Zc h1;exact⟨_,t,e⟩;exact ih v hv
def tupS(prog:dG)(w:bQ):pF prog w (List Int) where
 toHeapKind:=tupleKind (intKind prog w)
 Ou:=fun {A E s k a Q} hk h=>by
  have hT:=hk.typeIs;refine Rk hk fun o items n ho _ hd hi=>?_;clear hk;unfold ofAClassStatement;refine ah (B0 hT ?_);dsimp only;rw[aM4 (by decide)];refine ah (aC ?_);simp only[j6,dj,aN2];refine ah (F0 ho hd ?_);dsimp only;refine ah ?_;rw[<- xD];refine mC _ (fun rest r s'=>r.1=none/\s'=s/\∀v∈rest,∃i t,v=Fe i t) _ ?_ ?_ _ _ ⟨rfl,rfl,yu hi⟩;rintro v rest r s' ⟨hr,rfl,n6⟩;refine rC (n6 v vA) fun i t b8=>?_;obtain rfl:=b8;unfold ofAClassStatement;refine ah (aC ?_);simp only[dj,aN2];exact aC ⟨rfl,rfl,fun u hu=>n6 u (oO _ hu)⟩;rintro ⟨r1,r2⟩ s' ⟨hr,rfl,_⟩;simp only at hr;subst hr;exact aC h
 UW:=fun {A E s k a Q} hk h=>by
  have hT:=hk.typeIs;refine Rk hk fun o items n ho _ hd hi=>?_;clear hk;unfold hashByValue;refine ah (qS hT Nh.lookup ?_);dsimp only;refine ah (F0 ho hd ?_);dsimp only[Option.getD];refine ah ?_;rw[<- xD];refine mC _ (fun rest r s'=>r.1=none/\s'=s/\∀v∈rest,∃i t,v=Fe i t) _ ?_ ?_ _ _ ⟨rfl,rfl,yu hi⟩;rintro v rest r s' ⟨hr,rfl,n6⟩;refine rC (n6 v vA) fun i t b8=>?_;obtain rfl:=b8;unfold hashByValue;refine ah (aC ?_);simp only[j6,dj,aN2];exact aC ⟨rfl,rfl,fun u hu=>n6 u (oO _ hu)⟩;rintro ⟨r1,r2⟩ s' ⟨hr,rfl,_⟩;simp only at hr;subst hr;exact aC h
 mono:=fun hk e=>by
  refine Rk hk fun o items n ho hc hd hi=>?_;clear hk;exact⟨o,items,n,e _ _ ho hc,hc,hd,hi⟩
theorem DC:∀{ns:List Int} {vs:List av},bI h (ns.map D.int) vs->ItemsAre (intKind prog w) ns vs
 | [],_,q=>by rw[nI,bI]at q;subst q;exact .nil
 | n::ns,_,q=>by
  rw[bG,bI]at q;refine bA q fun v r b8 a b=>?_;clear q;obtain rfl:=b8;rw[fH] at a;obtain⟨t,rfl⟩:=a;exact .cons (by show Value.isInt n (.int n t)=true;simp[Value.isInt]) (DC b)
theorem aj0{ns:List Int}(q:fH h (.tup (ns.map D.int)) (.ref a)):(tupS prog w).is h ns a:=by
 rw[fH]at q;refine bA q fun b it e rE p=>?_;clear q;obtain⟨o,h1,h2,n,h3⟩:=rE;obtain rfl:a=b:=by injection e
 exact⟨o,it,n,h1,h2,h3,DC p⟩
def OE(prog:dG)(w:bQ)(a:ay)(zs:List (List Int×ay))(h:aY):Prop:=
 ∃o ep t,h.get? a=some o/\o.ExactSet/\o.data = .set (zs.map (entry (tupS prog w))).toArray ep t/\Good t zs.length/\Paths t (fun i=>((zs.map (entry (tupS prog w))).toArray[i]?.map (·.1)).getD 0) zs.length/\
  t.led=jb w/\t.plain=true/\zs.length*5<t.mask*3/\(zs.map (·.1)).Nodup
section
def Members(K:aE)(H:Hp)(zs:List (List Int×ay)):Prop:=∀z∈zs,mZ K H z.2 (z.1.map V.int)
def IU(X:Cx)(C:Cfg):List V->Hp->VK->Prop:=fun xs H Q=>∃(v:V) (kQ:List (List Int)),xs=[v]/\Rep X.K C H (.lst (kQ.map fun ns=>.tup (ns.map D.int))) v/\kQ.length<=50/\
 ∀p zs,H p=none->Members X.K H zs->(zs.map (·.1)).Nodup->(∀ns,ns∈zs.map (·.1)↔ns∈kQ)->Q (.ref p) (upd H p (.ext (OE X.prog X.w p zs)))
theorem Av{K:aE}{H:Hp}:∀{kQ:List (List Int)} {ws:List V},aQ K C H (kQ.map fun ns=>.tup (ns.map D.int)) ws->∃ys:List (List Int×ay),ys.map (·.1)=kQ/\ws=(ys.map fun y=>V.ref y.2)/\Members K H ys
 | [],_,q=>by rw[nI,aQ]at q;subst q;exact⟨[],rfl,rfl,fun z hz=>by cases hz⟩
 | ns::kQ,_,q=>by
  rw[bG,aQ]at q;refine bA q fun v r b8 a b=>?_;clear q;obtain rfl:=b8;refine cM (Av b) fun ys e1 e2 m=>?_;rw[Rep]at a;refine bA a fun ad xs b8 t p=>?_;clear a;obtain rfl:=b8;have exs:xs=ns.map V.int:=by
   clear t;induction ns generalizing xs with
   | nil=>rw[nI,aQ]at p;exact p
   | cons n ns ih=>rw[bG,aQ]at p;refine bA p fun v r' b8 a1 a2=>?_;clear p;obtain rfl:=b8;rw[Rep]at a1;rw[a1,ih _ a2];rfl
  subst exs;refine⟨(ns,ad)::ys,by rw[bG,e1],by rw[bG,e2],fun z hz=>?_⟩;rcases bW.mp hz with rfl | hz;exact t;exact m z hz
theorem OF(I:L2.Inv X ak σ H s){z:List Int×ay}(h:mZ X.K H z.2 (z.1.map V.int)):(tupS X.prog X.w).is s.heap z.1 z.2:=by
 refine aj0 ?_;refine Inv.dat (C:=ai9) I _ (v:=V.ref z.2) ?_ ?_ rfl;rw[flat];exact ie fun d hd=>by refine aU (aO.mp hd) fun n _ b8=>?_;obtain rfl:=b8;rw[flat] <;> simp
 rw[Rep];exact⟨z.2,_,rfl,h,aQ.ints z.1⟩
theorem Aw:∀{ys:List (List Int×ay)},Vals (ys.map fun y=>V.ref y.2) vs->vs=ys.map fun y=>eW y.2
 | [],r=>by cases r;rfl
 | y::ys,r=>by
  cases r with
  | cons r1 r2=>rw[bG,Aw r2];congr 1
theorem K2(hh:X.A.handled=none)(hu:X.A.units+64<cLine):lV X (.type "set") (IU X C):=by
 intro ak s σ H xs us Q I r ⟨v,kQ,e,h1,hn,q⟩;subst e;refine aU (vals1 r) fun u je rv=>?_;obtain rfl:=je;have h1:=h1.items;refine bA h1 fun a ws b8 h2 h3=>?_;clear h1;obtain rfl:=b8;obtain rfl:u = .ref a:=rv;refine cM (I.list h2) fun bq r1 pl hz=>?_;refine cM (Av h3) fun ys e1 e2 m=>?_;subst e2;obtain rfl:=Aw r1;have ly:ys.length=kQ.length:=by rw[<- e1,br]
 refine Oz (κ:=tupS X.prog X.w) (ys:=ys) hh (by show X.A.units+1+1+1<cLine;lia) pl.isList (by lia) (fun y hy=>OF I (m y hy)) fun h' tk o ep t zs k S m1 m2=>?_;have hf:H s.heap.objs.size=none:=I.fE.fresh (bg _);refine⟨.ref s.heap.objs.size,upd H s.heap.objs.size (.ext (OE X.prog X.w s.heap.objs.size zs)),I.laid (t':=tk) k (bg _) ?_,rfl,q _ zs hf (fun z hz=>m z (m1 z hz)) S.keys fun ns=>?_⟩;refine⟨⟨o,ep,t,S.obj,S.nR,S.data,S.good,S.IL,S.JW,S.plain,S.lZ,S.keys⟩,⟨o,S.obj⟩,?_⟩;rintro h1 h2 ⟨o',Bu,t',q1,q2⟩ ke;exact⟨o',Bu,t',ke _ q1,q2⟩;constructor;intro hm;refine aU (aO.mp hm) fun z hz b8=>?_;obtain rfl:=b8;rw[<- e1];exact aO.mpr ⟨z,m1 z hz,rfl⟩;intro hm;rw[<- e1]at hm;refine aU (aO.mp hm) fun y hy b8=>?_;obtain rfl:=b8;exact m2 y hy
def Rows(kQ:List (List Int)):Prop:=∃n,∀ns∈kQ,ns.length=n+1
theorem v8:∀{a b:List Int},a.length=b.length->gk (a.map D.int) (b.map D.int)=true
 | [],[],_=>by simp[gk]
 | x::a,y::b,h=>by
  rw[bG,bG,gk,v8 (by simpa using h)];simp[gZ]
theorem DE:∀a:List Int,GP (a.map D.int)=true
 | []=>by simp[GP]
 | x::a=>by rw[bG,GP,DE a];simp[nl]
theorem K3(a:List Int):kN (a.map D.int)=0:=by
 have:kN (a.map D.int)<=0:=sN fun d hd=>by refine aU (aO.mp hd) fun n _ b8=>?_;obtain rfl:=b8;rw[dep] <;> simp
 lia
theorem zH(h:Rows kQ)(lZ:kQ.length<64):t7 (kQ.map fun ns=>.tup (ns.map D.int)):=by
 obtain ⟨n,hn⟩:=h;have mem:∀d∈kQ.map (fun ns=>D.tup (ns.map D.int)),∃ns∈kQ,d = .tup (ns.map D.int):=fun d hd=>by refine aU (aO.mp hd) fun ns h1 h2=>?_;exact⟨ns,h1,h2.symm⟩
 refine⟨⟨_,.oY fun d hd=>?_⟩,by rw[br];exact lZ,fun a ha b hb=>?_,fun a ha=>?_,fun a ha=>?_⟩;refine aU (mem d hd) fun ns h1 b8=>?_;obtain rfl:=b8;have:=hn ns h1;match ns,this with
 | i::r,_=>exact⟨i,r.map D.int,rfl⟩
 refine aU (mem a ha) fun ns h1 b8=>?_;obtain rfl:=b8;refine aU (mem b hb) fun ms h2 b8=>?_;obtain rfl:=b8;rw[gZ];exact v8 (by rw[hn ns h1,hn ms h2]);refine aU (mem a ha) fun ns h1 b8=>?_;obtain rfl:=b8;rw[nl];exact DE ns;refine aU (mem a ha) fun ns h1 b8=>?_;obtain rfl:=b8;rw[dep,K3];decide
def GZ(X:Cx)(C:Cfg):List V->Hp->VK->Prop:=fun xs H Q=>∃a zs,xs=[.ref a]/\H a=some (.ext (OE X.prog X.w a zs))/\Members X.K H zs/\zs.length<=50/\Rows (zs.map (·.1))/\
 ∀p ws (es:List (List Int)),H p=none->es.Perm (zs.map (·.1))->aQ X.K C H (eO (es.map fun ns=>.tup (ns.map D.int))) ws->Q (.ref p) (upd H p (.lst ws))
theorem K4:∀{l:List α} {m:List β},m.Perm (l.map f)->∃l':List α,l'.Perm l/\m=l'.map f:=by
 intro l m h;generalize e:l.map f=k at h;induction h generalizing l with
 | nil=>exact⟨l,.refl _,e.symm⟩
 | cons x _ ih=>
  match l,e with
  | a::l,e=>rw[bG]at e;injection e with e1 e2;refine aU (ih e2) fun l' p q=>?_;exact⟨a::l',p.cons a,by rw[bG,e1,q]⟩
 | swap x y k=>
  match l,e with
  | a::b::l,e=>rw[bG,bG] at e;injection e with e1 e2;injection e2 with e2 e3;exact⟨b::a::l,.swap a b l,by rw[bG,bG,e1,e2,e3]⟩
 | trans _ _ ih1 ih2=>refine aU (ih2 e) fun l1 p1 q1=>?_;refine aU (ih1 q1.symm) fun l2 p2 q2=>?_;exact⟨l2,p2.trans p1,q2⟩
theorem C0(hh:X.A.handled=none)(hu:X.A.units+64<cLine):lV X (.builtin "sorted") (GZ X C):=by
 intro ak s σ H xs us Q I r ⟨a,zs,e,h1,hm,hn,hr,q⟩;subst e;refine aU (vals1 r) fun u je rv=>?_;obtain rfl:=je;obtain rfl:u = .ref a:=rv;refine xO (I.fE a _ h1) fun zo0 _ _=>?_;obtain⟨o,ep,t,g1,g2,g3,g4,g5,g6,g7,g8,g9⟩:=zo0;have S:jg (tupS X.prog X.w) s.heap a (jb X.w) zs o ep t:=⟨g1,g2,g3,g4,g5,g6,g7,g8,g9,fun x hx=>OF I (hm x hx)⟩
 refine vH (Pd:=fun es kd vs=>kd=tuples' true/\∃l:List (List Int×ay),l.Perm zs/\es=(l.map fun y=>.tup (y.1.map D.int))/\vs=l.map fun y=>eW y.2) (fun es kd vs hp=>?_) (fun R hR=>?_) fun h1 h' tk es kd vs L n pm k1 k2 hp hd hL gr hs ho=>?_;obtain ⟨rfl,l,p,rfl,rfl⟩:=hp;obtain⟨m,CB⟩:=hr;have rows:Rows (l.map (·.1)):=⟨m,fun ns hns=>CB ns ((p.map _).mem_iff.mp hns)⟩
 have so:=zH rows (by rw[br,p.length_eq];lia);rw[eZ]at so;refine sgS (.oY fun d hd=>?_) so.lZ so.gZ so.nl fun a ha=>by have:=so.dep a ha;lia
 refine aU (aO.mp hd) fun y hy b8=>?_;obtain rfl:=b8;have:=CB y.1 (aO.mpr ⟨y,p.mem_iff.mp hy,rfl⟩);match h:y.1,this with
 | i::r,_=>exact⟨i,r.map D.int,rfl⟩
 refine Dw (κ:=tupS X.prog X.w) hh S hn fun h' tk vs k pv=>?_;refine aU (K4 pv) fun l p b8=>?_;obtain rfl:=b8;refine hR h' tk _ _ _ k ⟨rfl,l,p,rfl,rfl⟩ (bI.of_map _ _ l fun y hy=>fH.keep k _ ?_);have t:=hm y (p.mem_iff.mp hy);refine Inv.dat (C:=ai9) I _ (v:=V.ref y.2) ?_ ?_ rfl;rw[flat];exact ie fun d hd=>by refine aU (aO.mp hd) fun n _ b8=>?_;obtain rfl:=b8;rw[flat] <;> simp
 rw[Rep];exact⟨y.2,_,rfl,t,aQ.ints y.1⟩;obtain ⟨rfl,l,p,rfl,rfl⟩:=hp;have ll:l.length<=50:=by rw[p.length_eq];exact hn
 have lp:pm.length=l.length:=by have:=congrArg List.length hs;rw[br,(bZ _).length_eq,br]at this;exact this.symm
 have rv:∀l:List (List Int×ay),Vals (l.map fun y=>V.ref y.2) (l.map fun y=>eW y.2):=fun l=>by
  induction l with
  | nil=>exact .nil
  | cons y l ih=>exact .cons rfl ih
 have lt':∀i∈pm,i<l.length:=fun i hi=>by have:=gr i hi;rwa [br]at this
 have rp:aQ X.K C H (l.map fun y=>.tup (y.1.map D.int)) (l.map fun y=>V.ref y.2):=by
  have hm2:∀y∈l,mZ X.K H y.2 (y.1.map V.int):=fun y hy=>hm y (p.mem_iff.mp hy);clear hs gr lt' lp hd ho p ll;induction l with
  | nil=>exact .nil
  | cons y l ih=>refine .cons ?_ (ih fun z hz=>hm2 z (oO _ hz));rw[Rep];exact⟨y.2,_,rfl,hm2 y vA,aQ.ints y.1⟩
 have big:64<=cU:=by rw[gG];decide
 refine yt I k1 k2 hL ho (wJ (rv l) pm fun i hi=>by rw[br];exact lt' i hi) (by rw[br,lp];lia) fun xT=>q L _ (l.map (·.1)) xT (p.map _) ?_;rw[eZ];show aQ X.K C H (eO (l.map fun y=>.tup (y.1.map D.int))) _;rw[hs];exact t6 rp pm gr
end
end Dm
end aD0
section aD1
namespace Dm
open PySem PySem.Spec PyProof.Rows L2
inductive R(α:Type) where
 | ok (a:α)|ex (c:ay) (p:Option Int)|bad
def R.bind{α β:Type}(r:R α)(f:α->R β):R β:=match r with | .ok a=>f a | .ex c p=>.ex c p | .bad=>.bad
abbrev ir:=List (Option D)
abbrev DF:=ir->R D
abbrev DA:=ir->R (List D)
inductive Out where
 | nx (st:ir)|rt (d:D)|bk (st:ir)|ct (st:ir)|ex (c:ay) (p:Option Int) (st:ir)|bad
abbrev DS:=ir->Out
def IV(E:XK)(c:ay)(p:Option Int)(H:Hp):Prop:=match p with
 | none=>E (.ref c) none H
 | some n=>∀dx,H dx=some (.xd [("at",.int n)])->E (.ref c) (some dx) H
def vK:Option HO->Bool
 | none=>true
 | some (.tup _)=>true
 | some (.CK _ (.tup _))=>true
 | _=>false
def nw(G H:Hp):Hp:=fun a=>if vK (G a)=true then H a else none
theorem cz(G H:Hp):aI (nw G H) H:=fun b o h=>by
 unfold nw at h;split at h;exact h;cases h
theorem bO(e:aI H H'):aI (nw G H) (nw G H'):=fun b o h=>by
 unfold nw at h ⊢;split at h;rename_i q;rw[aM4 q];exact e b o h;cases h
theorem nU(e:aI G G')(h:vK (G' a)=true):vK (G a)=true:=by
 cases q:G a with
 | none=>rfl
 | some o=>rw[e a o q]at h;exact h
theorem nV(e:aI G G'):aI (nw G' H) (nw G H):=fun b o h=>by
 unfold nw at h ⊢;split at h;rename_i q;rw[aM4 (nU e q)];exact h;cases h
theorem lK(h:G a=none):nw G H a=H a:=by unfold nw;rw[h];rfl
def kK(H G:Hp):Prop:=aI G H/\∀a xs,Rd H a (.tup xs)->Rd G a (.tup xs)
theorem kK.trans(a:kK H G)(b:kK G F):kK H F:=⟨b.1.trans a.1,fun x xs h=>b.2 x xs (a.2 x xs h)⟩
theorem kK.nw(e:aI G H):kK H (nw G H):=⟨cz _ _,fun a xs h=>by
 have k:vK (G a)=true:=by
  cases q:G a with
  | none=>rfl
  | some o=>have:=e a o q;rcases h with h|⟨u,h⟩;rw[h] at this;cases this;rfl;rw[h] at this;cases this;rfl
 unfold Rd Dm.nw;rw[aM4 k];exact h⟩
def R9:HO->Bool
 | .lst _=>true
 | .ext _=>true
 | _=>false
theorem kK.er(h:∀a∈A,∃o,H a=some o/\R9 o=true):kK H (er H A):=⟨aJ _ _,fun a xs r=>by
 have k:a∉A:=fun m=>by obtain⟨o,q,z⟩:=h a m;rcases r with r|⟨u,r⟩;rw[q] at r;cases r;cases z;rw[q] at r;cases r;cases z
 unfold Rd;rw[aV k];exact r⟩
mutual
def gJ:D->Bool
 | .tup ds=>dS ds
 | .lst _=>false
 | .d8 _ _=>false
 | _=>true
def dS:List D->Bool
 | []=>true
 | d::ds=>gJ d&&dS ds
end
theorem lN:∀{ds:List D} {d:D},dS ds=true->d∈ds->gJ d=true
 | _::_,_,h,.head _=>by rw[dS,bR]at h;exact h.1
 | _::ds,_,h,.tail _ m=>by rw[dS,bR]at h;exact lN h.2 m
theorem gy:∀{ds:List D},(∀d∈ds,gJ d=true)->dS ds=true
 | [],_=>rfl
 | d::ds,h=>by rw[dS,bR];exact⟨h d (.head _),gy fun x hx=>h x (.tail _ hx)⟩
section
variable {K:aE}{C:Cfg}{H G:Hp}
theorem kK.sq(k:kK H G)(h:mZ K H a xs):mZ K G a xs:=by
 rcases h with h | h;exact .inl (k.2 a xs h);exact .inr h
mutual
theorem Rep.part(k:kK H G):∀(d:D) {v:V},gJ d=true->Rep K C H d v->Rep K C G d v
 | .dh,v,_,q=>by rw[Rep]at q ⊢;exact q
 | .bl b,v,_,q=>by rw[Rep]at q ⊢;exact q
 | .int i,v,_,q=>by rw[Rep]at q ⊢;exact q
 | .str x,v,_,q=>by rw[Rep]at q ⊢;exact q
 | .tup ds,v,n,q=>by
  rw[Rep] at q ⊢;rw[gJ]at n;refine bA q fun a xs h1 h2 h3=>?_;clear q;exact⟨a,xs,h1,k.sq h2,aQ.part k ds n h3⟩
 | .lst ds,v,n,q=>by rw[gJ]at n;cases n
 | .d8 t ds,v,n,q=>by rw[gJ]at n;cases n
theorem aQ.part(k:kK H G):∀(ds:List D) {vs:List V},dS ds=true->aQ K C H ds vs->aQ K C G ds vs
 | [],_,_,q=>by rw[aQ]at q ⊢;exact q
 | d::ds,_,n,q=>by
  rw[aQ] at q ⊢;rw[dS,bR]at n;refine bA q fun v r e1 a b=>?_;clear q;exact⟨v,r,e1,Rep.part k d n.1 a,aQ.part k ds n.2 b⟩
end
end
inductive Kd where
 | new|vL|loc|old|oF|aZ
inductive SK where
 | par|loc|own (n:Bool)|any|pr|ll
def lO:D->Bool
 | .lst _=>true
 | .d8 t _=>t==2
 | _=>false
def mQ(K:aE)(C:Cfg)(F H:Hp)(p:ay):D->Prop
 | .lst ds=>∃xs,H p=some (.lst xs)/\aQ K C F ds xs
 | .d8 t ds=>t=2/\∃xs,C.own K F H p xs/\aQ K C F ds xs
 | _=>False
section
variable {K:aE}{C:Cfg}{F F' H H':Hp}{p:ay}
theorem mQ.R9:∀{d:D},mQ K C F H p d->∃o,H p=some o/\Dm.R9 o=true
 | .lst _,h=>let⟨_,e,_⟩:=h;⟨_,e,rfl⟩
 | .d8 _ _,h=>let⟨_,_,e,_⟩:=h;let⟨_,q⟩:=C.ai8 e;⟨_,q,rfl⟩
theorem mQ.lO:∀{d:D},mQ K C F H p d->Dm.lO d=true
 | .lst _,_=>rfl
 | .d8 _ _,h=>by rw[Dm.lO,h.1];rfl
theorem mQ.mono(f:aI F F')(e:H' p=H p):∀{d:D},mQ K C F H p d->mQ K C F' H' p d
 | .lst _,h=>let⟨xs,a,b⟩:=h;⟨xs,e.trans a,b.same f _⟩
 | .d8 _ _,h=>let⟨t,xs,a,b⟩:=h;⟨t,xs,C.IT f e a,b.same f _⟩
theorem mQ.later(f:aI F F')(e:aI H H')(h:mQ K C F H p d):mQ K C F' H' p d:=by
 obtain⟨o,q,_⟩:=h.R9;exact h.mono f ((e _ _ q).trans q.symm)
theorem mQ.rep(f:aI F (er G [p]))(e:G p=H p):∀{d:D},mQ K C F H p d->Rep K C G d (.ref p)
 | .lst _,h=>by obtain⟨xs,a,b⟩:=h;rw[Rep];exact⟨p,xs,rfl,.of (e.trans a),b.same f _⟩
 | .d8 _ _,h=>by obtain⟨rfl,xs,a,b⟩:=h;rw[Rep];exact⟨p,xs,rfl,C.UY a (f.trans (aJ _ _)) e,b.same (f.trans (aJ _ _)) _⟩
end
def qE(K:aE)(C:Cfg)(G F:Hp)(d:D)(v:V):Prop:=∀s ds,d = .tup [.str s,.lst ds]->∃q p xs,v = .ref q/\mZ K F q [.str s,.ref p]/\G p=none/\F p=some (.lst xs)/\aQ K C (er F [p]) ds xs
def qt:D->Bool
 | .tup [.str _,.lst _]=>false
 | _=>true
theorem qE.not{K:aE}{C:Cfg}{G F:Hp}{d:D}{v:V}(n:qt d=true):qE K C G F d v:=fun s ds z=>by subst z;cases n
theorem qE.mono{K:aE}{C:Cfg}{G F F':Hp}{d:D}{v:V}(f:aI F F')(t:qE K C G F d v):qE K C G F' d v:=fun s ds h=>by
 refine Bs (t s ds h) fun q p xs a b c e g=>?_;exact⟨q,p,xs,a,aI.tup f b,c,f _ _ e,g.same (aL f) _⟩
theorem qE.early{K:aE}{C:Cfg}{G G' F:Hp}{d:D}{v:V}(e:aI G G')(t:qE K C G' F d v):qE K C G F d v:=fun s ds h=>by
 refine Vq (t s ds h) fun q p xs a b c=>?_;exact⟨q,p,xs,a,b,e.free c.1,c.2⟩
def lP(K:aE)(C:Cfg)(G F:Hp)(d:D)(v:V):Prop:=(lO d=true->∃p,v = .ref p/\G p=none/\mQ K C (er F [p]) F p d)/\qE K C G F d v
section
variable (K:aE)(C:Cfg)
def Val(κ:Kd)(G0:Hp)(A:List ay)(H H':Hp)(d:D)(v:V):Prop:=match κ with
 | .new=>Rep K C (nw H H') d v/\lP K C H (nw H H') d v
 | .vL=>Rep K C (er H' A) d v/\lP K C H (er H' A) d v
 | .loc=>Rep K C (nw G0 (er H' A)) d v/\lP K C G0 (nw G0 (er H' A)) d v
 | .old=>Rep K C (er H' A) d v
 | .oF=>Rep K C (nw G0 H') d v/\lP K C G0 (nw G0 H') d v
 | .aZ=>Rep K C H' d v
def eh(n:Bool)(G0:Hp)(A:List ay)(H:Hp):Hp:=if n=true then nw G0 (er H A)else er H A
def Slot(k:SK)(G0:Hp)(A:List ay)(H:Hp)(d:D)(v:V):Prop:=match k with
 | .par=>Rep K C (er H A) d v
 | .loc=>Rep K C (nw G0 (er H A)) d v/\lP K C G0 (nw G0 (er H A)) d v
 | .own n=>(∃p,v = .ref p/\p∈A/\G0 p=none/\mQ K C (eh n G0 A H) H p d)\/(lO d=false/\qE K C G0 (eh n G0 A H) d v/\Rep K C (eh n G0 A H) d v)
 | .any=>Rep K C H d v
 | .pr=>(∃q p s ds xs,d = .tup [.str s,.lst ds]/\v = .ref q/\mZ K (er H A) q [.str s,.ref p]/\p∈A/\G0 p=none/\H p=some (.lst xs)/\aQ K C (er H A) ds xs)\/(qt d=true/\Rep K C (er H A) d v)
 | .ll=>∃p a xs es ds vs,d = .lst (.lst es::ds)/\v = .ref p/\p∈A/\a∈A/\p≠a/\G0 p=none/\G0 a=none/\H p=some (.lst (.ref a::vs))/\H a=some (.lst xs)/\aQ K C (er H A) es xs/\aQ K C (er H A) ds vs
structure RS(G0:Hp)(Γ:List SK)(σ:L2.St)(H:Hp)(A:List ay)(st:ir):Prop where
 base:aI G0 (er H A)
 lists:∀a∈A,∃o,H a=some o/\R9 o=true
 len:σ.length=st.length
 slot:∀(i:Nat) (d:D),st[i]?=some (some d)->∃k v,Γ[i]?=some k/\σ[i]?=some (some v)/\Slot K C k G0 A H d v
 apart:∀(i j:Nat) (n m:Bool) (p:ay) (d e:D),i≠j->Γ[i]?=some (.own n)->Γ[j]?=some (.own m)->st[i]?=some (some d)->st[j]?=some (some e)->lO d=true->lO e=true->σ[i]?=some (some (.ref p))->σ[j]?≠some (some (.ref p))
 gl:C.gl G0
end
section
variable {K:aE}{C:Cfg}{G0:Hp}{Γ:List SK}{σ:L2.St}{H H' H'' H1:Hp}{A:List ay}{st:ir}{κ:Kd}{d:D}{v:V}
theorem lP.mono(f:aI F F')(t:lP K C G F d v):lP K C G F' d v:=⟨fun h=>by
 refine cM (t.1 h) fun p a b c=>?_;exact⟨p,a,b,c.later (aL f) f⟩,t.2.mono f⟩
theorem lP.early(e:aI G G')(t:lP K C G' F d v):lP K C G F d v:=⟨fun h=>by
 refine cM (t.1 h) fun p a b c=>?_;exact⟨p,a,e.free b,c⟩,t.2.early e⟩
def C1(K:aE)(C:Cfg)(G F:Hp)(ds:List D)(vs:List V):Prop:=∀(j:Nat) (d:D) (v:V),ds[j]?=some d->vs[j]?=some v->lP K C G F d v
theorem C1.mono{K:aE}(f:aI F F')(t:C1 K C G F ds vs):C1 K C G F' ds vs:=fun j d v h1 h2=>(t j d v h1 h2).mono f
theorem C1.snoc{K:aE}(l:vs.length=ds.length)(t:C1 K C G F ds vs)(h:lP K C G F d v):C1 K C G F (ds++[d]) (vs++[v]):=fun j d' v' h1 h2=>by
 by_cases hj:j<ds.length;rw[kr hj]at h1;rw[kr (by rw[l];exact hj)]at h2;exact t j d' v' h1 h2;rw[kq (mE hj)]at h1;rw[kq (by rw[l];exact mE hj),l]at h2;have e:j-ds.length=0:=by have:=(eL.mp h1).1;rw[B8] at this;lia
 rw[e]at h1 h2;cases h1;cases h2;exact h
def YX(ds:List D)(vs:List V):Prop:=∀(j k:Nat) (d d':D) (v:V),j≠k->ds[j]?=some d->ds[k]?=some d'->lO d=true->lO d'=true->vs[j]?=some v->vs[k]?≠some v
theorem wK{α:Type}{l:List α}{x y:α}{j:Nat}(h:(l++[x])[j]?=some y):(j<l.length/\l[j]?=some y)\/(j=l.length/\y=x):=by
 by_cases hj:j<l.length;rw[kr hj]at h;exact .inl ⟨hj,h⟩;rw[kq (mE hj)]at h;have e:j-l.length=0:=by have:=(eL.mp h).1;rw[B8] at this;lia
 rw[e] at h;cases h;exact .inr ⟨by lia,rfl⟩
theorem YX.snoc(l:vs.length=ds.length)(t:YX ds vs)(h:lO d=true->∀(j:Nat) (d':D),ds[j]?=some d'->lO d'=true->vs[j]?≠some v):YX (ds++[d]) (vs++[v]):=fun j k d1 d2 u jk h1 h2 o1 o2 v1 v2=>by
 rcases wK h1 with⟨j1,g1⟩|⟨j1,g1⟩ <;> rcases wK h2 with⟨k1,g2⟩|⟨k1,g2⟩ <;> rcases wK v1 with⟨j2,w1⟩|⟨j2,w1⟩ <;> rcases wK v2 with⟨k2,w2⟩|⟨k2,w2⟩ <;> first
  | exact t j k d1 d2 u jk g1 g2 o1 o2 w1 w2
  | exact h (g2▸o2) j d1 g1 o1 (w2▸w1)
  | exact h (g1▸o1) k d2 g2 o2 (w1▸w2)
  | lia
def wg(K:aE)(C:Cfg)(G F:Hp)(d:D)(v:V):Prop:=∀ds,d = .lst ds->∃p xs,v = .ref p/\F p=some (.lst xs)/\C1 K C G (er F [p]) ds xs/\YX ds xs
theorem wg.mono{K:aE}(f:aI F F')(t:wg K C G F d v):wg K C G F' d v:=fun ds h=>by
 obtain ⟨p,xs,a,b,c⟩:=t ds h;exact⟨p,xs,a,f _ _ b,c.1.mono (aL f),c.2⟩
theorem wg.early{K:aE}(e:aI G G')(t:wg K C G' F d v):wg K C G F d v:=fun ds h=>by
 obtain ⟨p,xs,a,b,c⟩:=t ds h;exact⟨p,xs,a,b,fun j d v h1 h2=>(c.1 j d v h1 h2).early e,c.2⟩
theorem OG:∀{d:D},gJ d=true->lO d=false
 | .lst _,h=>by rw[gJ]at h;cases h
 | .d8 _ _,h=>by rw[gJ]at h;cases h
 | .dh,_=>rfl
 | .bl _,_=>rfl
 | .int _,_=>rfl
 | .str _,_=>rfl
 | .tup _,_=>rfl
theorem lP.not(n:lO d=false)(m:qt d=true):lP K C G F d v:=⟨fun h=>(by rw[n]at h;cases h),.not m⟩
theorem lP.gJ(n:gJ d=true):lP K C G F d v:=⟨fun h=>(by rw[OG n]at h;cases h),fun s ds z=>by subst z;simp[Dm.gJ,dS]at n⟩
theorem Val.later(e:aI H' H'')(q:Val K C κ G0 A H H' d v):Val K C κ G0 A H H'' d v:=by
 cases κ with
 | new=>exact⟨q.1.same (bO e) _,q.2.mono (bO e)⟩
 | vL=>exact⟨q.1.same (aL e) _,q.2.mono (aL e)⟩
 | loc=>exact⟨q.1.same (bO (aL e)) _,q.2.mono (bO (aL e))⟩
 | old=>exact Rep.same (aL e) _ q
 | oF=>exact⟨q.1.same (bO e) _,q.2.mono (bO e)⟩
 | aZ=>exact Rep.same e _ q
theorem Val.early(e:aI H H1)(q:Val K C κ G0 A H1 H' d v):Val K C κ G0 A H H' d v:=by
 cases κ with
 | new=>exact⟨q.1.same (nV e) _,(q.2.early e).mono (nV e)⟩
 | vL=>exact⟨q.1,q.2.early e⟩
 | loc=>exact q
 | old=>exact q
 | oF=>exact q
 | aZ=>exact q
theorem Val.rep(q:Val K C κ G0 A H H' d v):Rep K C H' d v:=by
 cases κ with
 | new=>exact q.1.same (cz _ _) _
 | vL=>exact q.1.same (aJ _ _) _
 | loc=>exact q.1.same ((cz _ _).trans (aJ _ _)) _
 | old=>exact Rep.same (aJ _ _) _ q
 | oF=>exact q.1.same (cz _ _) _
 | aZ=>exact q
theorem RS.mono(r:RS K C G0 Γ σ H A st)(e:aI H H'):RS K C G0 Γ σ H' A st where
 base:=r.base.trans (aL e)
 lists:=fun a m=>let⟨o,h,z⟩:=r.lists a m;⟨o,e _ _ h,z⟩
 len:=r.len
 slot:=fun i d h=>by
  refine bA (r.slot i d h) fun k v h1 h2 h3=>?_;refine⟨k,v,h1,h2,?_⟩;have ee:∀n,aI (eh n G0 A H) (eh n G0 A H'):=fun n=>by unfold eh;cases n;exact aL e;exact bO (aL e)
  cases k with
  | par=>exact Rep.same (aL e) _ h3
  | loc=>exact⟨h3.1.same (bO (aL e)) _,h3.2.mono (bO (aL e))⟩
  | own n=>rcases h3 with⟨p,b,c,f,g⟩|⟨a,b⟩;exact .inl ⟨p,b,c,f,g.later (ee n) e⟩;exact .inr ⟨a,b.1.mono (ee n),b.2.same (ee n) _⟩
  | pr=>rcases h3 with⟨q,p,s,ds,xs,a,b,c,f,g,h,j⟩|⟨a,b⟩;exact .inl ⟨q,p,s,ds,xs,a,b,aI.tup (aL e) c,f,g,e _ _ h,j.same (aL e) _⟩;exact .inr ⟨a,Rep.same (aL e) _ b⟩
  | ll=>obtain⟨p,a,xs,es,ds,vs,h4,h5,h6,h7,h8,h9,K5,DG,K6,K7,Lw⟩:=h3;exact⟨p,a,xs,es,ds,vs,h4,h5,h6,h7,h8,h9,K5,e _ _ DG,e _ _ K6,K7.same (aL e) _,Lw.same (aL e) _⟩
  | any=>exact Rep.same e _ h3
 apart:=r.apart
 gl:=r.gl
theorem RS.g0(r:RS K C G0 Γ σ H A st):aI G0 H:=r.base.trans (aJ _ _)
theorem RS.DH(r:RS K C G0 Γ σ H A st):kK H (er H A):=.er r.lists
theorem RS.vK(r:RS K C G0 Γ σ H A st):kK H (nw G0 (er H A)):=r.DH.trans (.nw r.base)
theorem Val.flat(r:RS K C G0 Γ σ H A st)(e:aI H H')(n:gJ d=true)(q:Rep K C H' d v)(κ:Kd):Val K C κ G0 A H H' d v:=by
 have r':=r.mono e;cases κ with
 | new=>exact⟨q.part (.nw e) _ n,.gJ n⟩
 | vL=>exact⟨q.part r'.DH _ n,.gJ n⟩
 | loc=>exact⟨q.part r'.vK _ n,.gJ n⟩
 | old=>exact Rep.part r'.DH _ n q
 | oF=>exact⟨q.part (.nw r'.g0) _ n,.gJ n⟩
 | aZ=>exact q
theorem RS.yv(r:RS K C G0 Γ σ H A st)(e:aI H H'):aI (nw H H') (er H' A):=fun b o h=>by
 unfold nw at h;split at h;rename_i q;have:b∉A:=fun m=>by
  obtain⟨o,hx,z⟩:=r.lists b m;rw[hx]at q;cases o with
  | lst _=>cases q
  | ext _=>cases q
  | _=>cases z
 rw[aV this];exact h;cases h
theorem RS.Sd(r:RS K C G0 Γ σ H A st)(e:aI H H'):aI (nw H H') (nw G0 (er H' A)):=fun b o h=>by
 have h1:=r.yv e b o h;unfold nw at h;split at h;rename_i q;unfold nw;rw[aM4 (nU r.g0 q)];exact h1;cases h
def Kd.le:Kd->Kd->Bool
 | .new,_=>true
 | .vL,.vL=>true | .vL,.old=>true | .vL,.aZ=>true
 | .loc,.loc=>true | .loc,.old=>true | .loc,.oF=>true | .loc,.aZ=>true
 | .old,.old=>true | .old,.aZ=>true
 | .oF,.oF=>true | .oF,.aZ=>true
 | .aZ,.aZ=>true
 | _,_=>false
theorem Val.le(r:RS K C G0 Γ σ H A st)(e:aI H H'){κ:Kd}(l:κ.le κ'=true)(q:Val K C κ G0 A H H' d v):Val K C κ' G0 A H H' d v:=by
 have ne:=r.yv e;have nl:=r.Sd e;cases κ <;> cases κ' <;> first
  | exact q
  | (cases l;done)
  | exact q.rep
  | exact⟨q.1.same ne _,q.2.mono ne⟩
  | exact⟨q.1.same nl _,(q.2.early r.g0).mono nl⟩
  | exact q.1.same ne _
  | exact⟨q.1.same (nl.trans (bO (aJ _ _))) _,(q.2.early r.g0).mono (nl.trans (bO (aJ _ _)))⟩
  | exact q.1
  | exact q.1.same (cz _ _) _
  | exact⟨q.1.same (bO (aJ _ _)) _,q.2.mono (bO (aJ _ _))⟩
end
def Kd.hp(κ:Kd)(G0:Hp)(A:List ay)(H H':Hp):Hp:=match κ with
 | .new=>nw H H' | .vL=>er H' A | .loc=>nw G0 (er H' A) | .old=>er H' A | .oF=>nw G0 H' | .aZ=>H'
def SK.kd:SK->Kd
 | .par=>.old | .loc=>.loc | .own true=>.oF | .own false=>.aZ | .any=>.aZ | .pr=>.aZ | .ll=>.aZ
def SK.takes:SK->Kd->Bool
 | .par,κ=>κ.le .old
 | .loc,κ=>κ.le .loc
 | .own true,κ=>κ.le .new
 | .own false,κ=>κ.le .vL
 | .any,_=>true
 | .pr,κ=>κ.le .new
 | .ll,_=>false
theorem Kd.OH:∀{κ:Kd},κ.le .new=true->κ = .new
 | .new,_=>rfl
section
variable {K:aE}{C:Cfg}{G0:Hp}{Γ:List SK}{σ:L2.St}{H H':Hp}{A:List ay}{st:ir}{κ:Kd}{d:D}{v:V}
theorem Val.hp(q:Val K C κ G0 A H H' d v):Rep K C (κ.hp G0 A H H') d v:=by
 cases κ with
 | new=>exact q.1
 | vL=>exact q.1
 | loc=>exact q.1
 | old=>exact q
 | oF=>exact q.1
 | aZ=>exact q
theorem Kd.t9(e:aI H' H''):aI (κ.hp G0 A H H') (κ.hp G0 A H H''):=by
 cases κ with
 | new=>exact bO e
 | vL=>exact aL e
 | loc=>exact bO (aL e)
 | old=>exact aL e
 | oF=>exact bO e
 | aZ=>exact e
theorem Kd.OI(e:aI H H1):aI (κ.hp G0 A H1 H') (κ.hp G0 A H H'):=by
 cases κ with
 | new=>exact nV e
 | vL=>exact .refl _
 | loc=>exact .refl _
 | old=>exact .refl _
 | oF=>exact .refl _
 | aZ=>exact .refl _
theorem Kd.v9:aI (κ.hp G0 A H H') H':=by
 cases κ with
 | new=>exact cz _ _
 | vL=>exact aJ _ _
 | loc=>exact(cz _ _).trans (aJ _ _)
 | old=>exact aJ _ _
 | oF=>exact cz _ _
 | aZ=>exact .refl _
theorem cX(h:H p=none):aI H (upd H p o):=fun b u q=>by rw[aW (bf q h)];exact q
theorem DJ(r:RS K C G0 Γ σ H A st)(e:aI H H')(h:H' p=none):κ.hp G0 A H (upd H' p o) p=some o:=by
 have h0:H p=none:=e.free h;have g0:G0 p=none:=r.g0.free h0;have nA:p∉A:=fun m=>by obtain⟨xs,q,_⟩:=r.lists p m;rw[h0]at q;cases q
 have u:upd H' p o p=some o:=bS;cases κ with
 | new=>show nw H _ p=_;rw[lK h0];exact u
 | vL=>show er _ A p=_;rw[aV nA];exact u
 | loc=>show nw G0 _ p=_;rw[lK g0,aV nA];exact u
 | old=>show er _ A p=_;rw[aV nA];exact u
 | oF=>show nw G0 _ p=_;rw[lK g0];exact u
 | aZ=>exact u
theorem Val.tup(r:RS K C G0 Γ σ H A st)(e:aI H H')(h:H' p=none)(np:qt (.tup ds)=true)(q:aQ K C (κ.hp G0 A H H') ds xs):Val K C κ G0 A H (upd H' p (.tup xs)) (.tup ds) (.ref p):=by
 have R:Rep K C (κ.hp G0 A H (upd H' p (.tup xs))) (.tup ds) (.ref p):=by rw[Rep];exact⟨p,xs,rfl,.of (DJ r e h),q.same (Kd.t9 (cX h)) _⟩
 have T:∀G F,lP K C G F (.tup ds) (.ref p):=fun G F=>.not rfl np;cases κ with
 | new=>exact⟨R,T _ _⟩
 | vL=>exact⟨R,T _ _⟩
 | loc=>exact⟨R,T _ _⟩
 | old=>exact R
 | oF=>exact⟨R,T _ _⟩
 | aZ=>exact R
theorem Val.lst(r:RS K C G0 Γ σ H A st)(e:aI H H')(h:H' p=none)(q:aQ K C (κ.hp G0 A H H') ds xs):Val K C κ G0 A H (upd H' p (.lst xs)) (.lst ds) (.ref p):=by
 have h0:H p=none:=e.free h;have R0:aQ K C (er (κ.hp G0 A H (upd H' p (.lst xs))) [p]) ds xs:=by
  refine q.same (fun b u z=>?_) _;have nb:b≠p:=fun w=>by have:=Kd.v9 _ _ z;rw[w,h] at this;cases this
  rw[aV (by simpa using nb)];exact Kd.t9 (cX h) _ _ z
 have R:Rep K C (κ.hp G0 A H (upd H' p (.lst xs))) (.lst ds) (.ref p):=by rw[Rep];exact⟨p,xs,rfl,.of (DJ r e h),R0⟩
 have T:∀G,G p=none->lP K C G (κ.hp G0 A H (upd H' p (.lst xs))) (.lst ds) (.ref p):=fun G g=>⟨fun _=>⟨p,rfl,g,xs,DJ r e h,R0⟩,.not rfl⟩
 cases κ with
 | new=>exact⟨R,T _ h0⟩
 | vL=>exact⟨R,T _ h0⟩
 | loc=>exact⟨R,T _ (r.g0.free h0)⟩
 | old=>exact R
 | oF=>exact⟨R,T _ (r.g0.free h0)⟩
 | aZ=>exact R
theorem Se(h:qt d=false):∃s ds,d = .tup [.str s,.lst ds]:=by
 unfold qt at h;split at h;exact⟨_,_,rfl⟩;cases h
theorem OJ:∀{d:D},lO d=true->qt d=true
 | .lst _,_=>rfl
 | .d8 _ _,_=>rfl
 | .tup _,h=>by cases h
theorem RS.read(r:RS K C G0 Γ σ H A st){i:Nat}(hk:Γ[i]?=some k)(h:st[i]?=some (some d)):∃v,σ[i]?=some (some v)/\Val K C k.kd G0 A H H d v:=by
 refine bA (r.slot i d h) fun k' v h1 h2 h3=>?_;rw[hk] at h1;cases h1;refine⟨v,h2,?_⟩;cases k with
 | par=>exact h3
 | loc=>exact h3
 | any=>exact h3
 | pr=>
  show Rep K C H d v;rcases h3 with⟨q,p,s,ds,xs,rfl,rfl,c,f,g,h,j⟩|⟨_,b⟩;have S:aI (er H A) (er H [p]):=fun b u w=>by
   have nb:b≠p:=fun z=>by rw[z,dD f]at w;cases w
   rw[aV (by simpa using nb)];exact aJ _ _ _ _ w
  rw[Rep];refine⟨q,_,rfl,aI.tup (aJ _ _) c,.cons (by rw[Rep]) (.cons ?_ (by rw[aQ]))⟩;rw[Rep];exact⟨p,xs,rfl,.of h,j.same S _⟩;exact b.same (aJ _ _) _
 | ll=>
  obtain⟨p,a,xs,es,ds,vs,rfl,rfl,h6,h7,h8,h9,K5,DG,K6,K7,Lw⟩:=h3;show Rep K C H _ _;have S:∀{B:List ay},(∀b∈B,b∈A)->aI (er H A) (er H B):=fun sb b u w=>by by_cases mb:b∈A;rw[dD mb]at w;cases w;rw[aV (fun z=>mb (sb b z))];rw[aV mb]at w;exact w
  have S1:aI (er H A) (er H [p]):=S fun b m=>by rw[eY.mp m];exact h6
  rw[Rep];refine⟨p,_,rfl,.of DG,.cons ?_ (Lw.same S1 _)⟩;rw[Rep];refine⟨a,xs,rfl,.of (by rw[aV (by simpa using eU h8)];exact K6),K7.same (fun b u w=>?_) _⟩;have mb:b∉A:=fun m=>by rw[dD m]at w;cases w
  rw[aV mb]at w;rw[aV (by simp;exact fun z=>mb (z▸h7)),aV (by simp;exact fun z=>mb (z▸h6))];exact w
 | own n=>
  rcases h3 with⟨p,rfl,c,f,g⟩|⟨a,b⟩;have np:∀b u,eh n G0 A H b=some u->b≠p:=fun b u w w'=>by
   subst w';unfold eh at w;cases n with
   | true=>have:=cz _ _ _ _ w;rw[dD c]at this;cases this
   | false=>rw[aM5 (by decide),dD c]at w;cases w
  have S:∀F:Hp,aI (eh n G0 A H) F->aI (eh n G0 A H) (er F [p]):=fun F e b u w=>by rw[aV (by simpa using np b u w)];exact e _ _ w
  cases n with
  | true=>
   have e1:aI (eh true G0 A H) (nw G0 H):=by unfold eh;exact bO (aJ _ _)
   have e2:nw G0 H p=H p:=lK f;exact⟨g.rep (S _ e1) e2,fun _=>⟨p,rfl,f,g.mono (S _ e1) e2⟩,.not (OJ g.lO)⟩
  | false=>
   have e1:aI (eh false G0 A H) H:=by unfold eh;exact aJ _ _
   exact g.rep (S _ e1) rfl
  cases n with
  | true=>exact⟨b.2.same (by unfold eh;exact bO (aJ _ _)) _,fun h=>(by rw[a]at h;cases h),b.1.mono (by unfold eh;exact bO (aJ _ _))⟩
  | false=>exact b.2.same (by unfold eh;exact aJ _ _) _
theorem RS.set(r:RS K C G0 Γ σ H A st)(e:aI H H')(hk:Γ[i]?=some k)(l:k.takes κ=true)(q:Val K C κ G0 A H H' d v) :
  ∃A',RS K C G0 Γ (σ.set i (some v)) H' A' (st.set i (some d))/\aI (er H A) (er H' A')/\∀a∈A,a∈A':=by
 have r':=r.mono e;have same:(∀n,k = .own n->lO d=false)->Slot K C k G0 A H' d v->∃A',RS K C G0 Γ (σ.set i (some v)) H' A' (st.set i (some d))/\aI (er H A) (er H' A')/\∀a∈A,a∈A':=fun nl s=>by
  refine⟨A,⟨r'.base,r'.lists,by simp[r.len],fun j d' h=>?_,fun a b n m p ds es sO g1 g2 s1 s2 o1 o2 w1 w2=>?_,r.gl⟩,aL e,fun _ m=>m⟩;by_cases hj:i=j;subst hj;have gr:i<st.length:=by have:=(eL.mp h).1;simpa using this
  rw[kJ gr] at h;cases h;exact⟨k,v,hk,kJ (by rw[r.len];exact gr),s⟩;rw[jH hj] at h ⊢;exact r'.slot j d' h;have ha:a≠i:=fun z=>by
   subst z;have gr:a<st.length:=by have:=(eL.mp s1).1;simpa using this
   rw[kJ gr]at s1;rw[hk]at g1;cases s1;rw[nl n (fq g1)]at o1;cases o1
  have hb:b≠i:=fun z=>by
   subst z;have gr:b<st.length:=by have:=(eL.mp s2).1;simpa using this
   rw[kJ gr]at s2;rw[hk]at g2;cases s2;rw[nl m (fq g2)]at o2;cases o2
  rw[jH (eU ha)] at s1 w1;rw[jH (eU hb)] at s2 w2;exact r.apart a b n m p ds es sO g1 g2 s1 s2 o1 o2 w1 w2
 cases k with
 | par=>exact same (fun _ z=>by cases z) (Val.le r e (κ':=.old) l q)
 | loc=>exact same (fun _ z=>by cases z) (Val.le r e (κ':=.loc) l q)
 | any=>exact same (fun _ z=>by cases z) q.rep
 | ll=>cases l
 | pr=>
  obtain rfl:=Kd.OH (κ:=κ) l;have qo:Rep K C (er H' A) d v:=Val.le r e (κ:=.new) (κ':=.old) rfl q;by_cases hd:qt d=true;exact same (fun _ z=>by cases z) (.inr ⟨hd,qo⟩);obtain⟨s,ds,rfl⟩:∃s ds,d = .tup [.str s,.lst ds]:=Se (xG.mpr hd);obtain⟨tq,p,xs,rfl,sq,h0,K8,i1⟩:=q.2.2 s ds rfl;have hp:H' p=some (.lst xs):=cz _ _ _ _ K8;have pA:p∉A:=fun m=>by obtain ⟨ys,z,_⟩:=r.lists p m;rw[h0] at z;cases z
  have g0:G0 p=none:=r.g0.free h0;have ee:aI (er H A) (er H' (p::A)):=fun b u z=>by
   have nb:b≠p:=fun w=>by have:=aJ _ _ _ _ z;rw[w,h0] at this;cases this
   by_cases mb:b∈A;rw[dD mb] at z;cases z;rw[aV (by simp[nb,mb])];rw[aV mb] at z;exact e _ _ z
  have H8:∀m,aI (eh m G0 A H) (eh m G0 (p::A) H'):=fun m=>by unfold eh;cases m;exact ee;exact bO ee
  have en:aI (er (nw H H') [p]) (er H' (p::A)):=fun b u z=>by by_cases nb:b=p;rw[nb,dD (by simp)] at z;cases z;rw[aV (by simpa using nb)] at z;have:=r.yv e _ _ z;by_cases mb:b∈A;rw[dD mb]at this;cases this;rw[aV mb]at this;rw[aV (by simp[nb,mb])];exact this
  have sq':mZ K (er H' (p::A)) tq [.str s,.ref p]:=by
   rcases sq with sq|sq;refine .inl ?_;have nq:tq≠p:=fun w=>by rcases sq with sq | ⟨u,sq⟩;rw[w,K8] at sq;cases sq;rw[w,K8] at sq;cases sq
   have up:nw H H' tq=er H' (p::A) tq\/nw H H' tq=none:=by
    cases hz:nw H H' tq with
    | none=>exact .inr rfl
    | some u=>refine .inl ?_;have:=en tq u (by rw[aV (by simpa using nq)];exact hz);rw[this]
   rcases sq with sq | ⟨u,sq⟩;rcases up with up | up;exact .inl (by rw[<- up];exact sq);rw[up] at sq;cases sq;rcases up with up | up;exact .inr ⟨u,by rw[<- up];exact sq⟩;rw[up] at sq;cases sq;exact .inr sq
  refine⟨p::A,⟨r.base.trans ee,fun a m=>?_,by simp[r.len],fun j d' h=>?_,fun a b n' m' p' Hf vB sO g1 g2 s1 s2 o1 o2 w1 w2=>?_,r.gl⟩,ee,fun _ m=>.tail _ m⟩;rcases bW.mp m with rfl | m;exact⟨_,hp,rfl⟩;exact r'.lists a m;by_cases hj:i=j;subst hj;have gr:i<st.length:=by have:=(eL.mp h).1;simpa using this
  rw[kJ gr] at h;cases h;exact⟨.pr,.ref tq,hk,kJ (by rw[r.len];exact gr),.inl ⟨tq,p,s,ds,xs,rfl,rfl,sq',.head _,g0,hp,i1.same en _⟩⟩;rw[jH hj] at h ⊢;refine bA (r.slot j d' h) fun k' v' h1 h2 h3=>?_;refine⟨k',v',h1,h2,?_⟩;cases k' with
  | par=>exact Rep.same ee _ h3
  | loc=>exact⟨h3.1.same (bO ee) _,h3.2.mono (bO ee)⟩
  | any=>exact Rep.same e _ h3
  | ll=>obtain ⟨p1,a1,xs1,WO,WQ,vs1,h4,h5,h6,h7,h8,h9,K5,DG,K6,K7,Lw⟩:=h3;exact⟨p1,a1,xs1,WO,WQ,vs1,h4,h5,.tail _ h6,.tail _ h7,h8,h9,K5,e _ _ DG,e _ _ K6,K7.same ee _,Lw.same ee _⟩
  | pr=>rcases h3 with ⟨q2,p2,s2,ds2,xs2,a,b,c,f,g,hh,jj⟩ | ⟨a,b⟩;exact .inl ⟨q2,p2,s2,ds2,xs2,a,b,aI.tup ee c,.tail _ f,g,e _ _ hh,jj.same ee _⟩;exact .inr ⟨a,Rep.same ee _ b⟩
  | own m=>rcases h3 with ⟨p2,b,c,f,g⟩ | ⟨a,b⟩;exact .inl ⟨p2,b,.tail _ c,f,g.later (H8 m) e⟩;exact .inr ⟨a,b.1.mono (H8 m),b.2.same (H8 m) _⟩
  have ha:a≠i:=fun z=>by subst z;rw[hk]at g1;cases g1
  have hb:b≠i:=fun z=>by subst z;rw[hk] at g2;cases g2
  rw[jH (eU ha)] at s1 w1;rw[jH (eU hb)] at s2 w2;exact r.apart a b n' m' p' Hf vB sO g1 g2 s1 s2 o1 o2 w1 w2
 | own n=>
  have q1:Val K C .vL G0 A H H' d v:=Val.le r e (κ':=.vL) (by cases n <;> cases κ <;> first|rfl|cases l) q;have q2:n=true->Val K C .loc G0 A H H' d v:=fun z=>by subst z;obtain rfl:=Kd.OH (κ:=κ) l;exact Val.le r e rfl q
  by_cases hd:lO d=true;refine cM (q1.2.1 hd) fun p b8 h0 i1=>?_;obtain rfl:=b8;refine aU i1.R9 fun o K8 hM=>?_;have hp:H' p=some o:=aJ _ _ _ _ K8;have pA:p∉A:=fun m=>by obtain ⟨ys,z,_⟩:=r.lists p m;rw[h0] at z;cases z
  have g0:G0 p=none:=r.g0.free h0;have ee:aI (er H A) (er H' (p::A)):=fun b u z=>by
   have nb:b≠p:=fun w=>by have:=aJ _ _ _ _ z;rw[w,h0] at this;cases this
   by_cases mb:b∈A;rw[dD mb] at z;cases z;rw[aV (by simp[nb,mb])];rw[aV mb] at z;exact e _ _ z
  have H8:∀m,aI (eh m G0 A H) (eh m G0 (p::A) H'):=fun m=>by unfold eh;cases m;exact ee;exact bO ee
  have items:mQ K C (eh n G0 (p::A) H') H' p d:=by
   cases n with
   | false=>exact i1.mono (fun b u z=>by
     by_cases mb:b∈[p]
     ·rw[dD mb] at z;cases z
     ·rw[aV mb] at z
      by_cases ma:b∈A
      ·rw[dD ma] at z;cases z
      ·rw[aV ma] at z
       show er H' (p::A) b=_
       rw[aV (by simpa[ma]using mb)];exact z) (hp.trans K8.symm)
   | true=>
    refine cM ((q2 rfl).2.1 hd) fun p' e1 _ i2=>?_;cases e1;exact i2.mono (fun b u z=>by
     by_cases mb:b∈[p];rw[dD mb] at z;cases z;rw[aV mb] at z;show nw G0 (er H' (p::A)) b=_;unfold nw at z ⊢;split at z;rename_i kk;rw[aM4 kk];by_cases ma:b∈A;rw[dD ma] at z;cases z;rw[aV ma] at z;rw[aV (by simpa[ma]using mb)];exact z;cases z) (by rw[lK g0];exact hp.trans K8.symm)
  refine⟨p::A,⟨r.base.trans ee,fun a m=>?_,by simp[r.len],fun j d' h=>?_,fun a b n' m' p' Hf vB sO g1 g2 s1 s2 o1 o2 w1 w2=>?_,r.gl⟩,ee,fun _ m=>.tail _ m⟩;rcases bW.mp m with rfl | m;exact⟨o,hp,hM⟩;exact r'.lists a m;by_cases hj:i=j;subst hj;have gr:i<st.length:=by have:=(eL.mp h).1;simpa using this
  rw[kJ gr] at h;cases h;exact⟨.own n,.ref p,hk,kJ (by rw[r.len];exact gr),.inl ⟨p,rfl,.head _,g0,items⟩⟩;rw[jH hj] at h ⊢;refine bA (r.slot j d' h) fun k' v' h1 h2 h3=>?_;refine⟨k',v',h1,h2,?_⟩;cases k' with
  | par=>exact Rep.same ee _ h3
  | loc=>exact⟨h3.1.same (bO ee) _,h3.2.mono (bO ee)⟩
  | any=>exact Rep.same e _ h3
  | ll=>obtain ⟨p1,a1,xs1,WO,WQ,vs1,h4,h5,h6,h7,h8,h9,K5,DG,K6,K7,Lw⟩:=h3;exact⟨p1,a1,xs1,WO,WQ,vs1,h4,h5,.tail _ h6,.tail _ h7,h8,h9,K5,e _ _ DG,e _ _ K6,K7.same ee _,Lw.same ee _⟩
  | pr=>rcases h3 with ⟨q2,p2,s2,ds2,xs2,a,b,c,f,g,hh,jj⟩ | ⟨a,b⟩;exact .inl ⟨q2,p2,s2,ds2,xs2,a,b,aI.tup ee c,.tail _ f,g,e _ _ hh,jj.same ee _⟩;exact .inr ⟨a,Rep.same ee _ b⟩
  | own m=>rcases h3 with ⟨p2,b,c,f,g⟩ | ⟨a,b⟩;exact .inl ⟨p2,b,.tail _ c,f,g.later (H8 m) e⟩;exact .inr ⟨a,b.1.mono (H8 m),b.2.same (H8 m) _⟩
  
  have old:∀{c:Nat} {nn:Bool} {cd:D},c≠i->Γ[c]?=some (.own nn)->(st.set i (some d))[c]?=some (some cd)->lO cd=true->(σ.set i (some (.ref p)))[c]?≠some (some (.ref p)):=fun {c nn cd} hc gc sc oc wc=>by rw[jH (eU hc)]at sc wc;refine bA (r.slot c _ sc) fun k' v' h1 h2 h3=>?_;rw[gc]at h1;cases h1;rw[wc]at h2;cases h2;rcases h3 with⟨p2,b,c',_⟩|⟨a,_⟩;cases b;exact pA c';rw[oc]at a;cases a
  by_cases ha:a=i;subst ha;have gr:a<st.length:=by have:=(eL.mp s1).1;simpa using this
  rw[kJ (by rw[r.len];exact gr)]at w1;cases w1;exact old (eU sO) g2 s2 o2 w2;by_cases hb:b=i;subst hb;have gr:b<st.length:=by have:=(eL.mp s2).1;simpa using this
  rw[kJ (by rw[r.len];exact gr)]at w2;cases w2;exact old ha g1 s1 o1 w1;rw[jH (eU ha)] at s1 w1;rw[jH (eU hb)] at s2 w2;exact r.apart a b n' m' p' Hf vB sO g1 g2 s1 s2 o1 o2 w1 w2;have hd:=xG.mpr hd;refine same (fun _ _=>hd) (.inr ⟨hd,?_⟩);cases n with
  | false=>exact⟨q1.2.2.early r.g0,q1.1⟩
  | true=>exact⟨(q2 rfl).2.2,(q2 rfl).1⟩
end
section
variable (K:aE)(C:Cfg)(G0:Hp)(Γ:List SK)(E:L2.St->XK)
def tD(f:DF)(κ:Kd):TE:=fun σ H Q=>∃A st,RS K C G0 Γ σ H A st/\match f st with
 | .ok d=>∀v H',aI H H'->Val K C κ G0 A H H' d v->Q v H'
 | .ex c p=>∀H',aI H H'->IV (E σ) c p H'
 | .bad=>False
def ER(f:DA)(κ:Kd):TA:=fun σ H Q=>∃A st,RS K C G0 Γ σ H A st/\match f st with
 | .ok ds=>∀vs H',aI H H'->aQ K C (κ.hp G0 A H H') ds vs->Q vs H'
 | .ex c p=>∀H',aI H H'->IV (E σ) c p H'
 | .bad=>False
def yw(f:DF):TT:=fun σ H Q=>∃A st,RS K C G0 Γ σ H A st/\match f st with
 | .ok (.bl b)=>∀H',aI H H'->Q b H'
 | .ex c p=>∀H',aI H H'->IV (E σ) c p H'
 | _=>False
end
theorem _root_.L2.PE.imp(h:PE X e t)(i:∀σ H Q,t' σ H Q->t σ H Q):PE X e t':=fun ak s σ H Q I q=>h ak s σ H Q I (i σ H Q q)
theorem _root_.L2.PT.imp(h:PT X e t)(i:∀σ H Q,t' σ H Q->t σ H Q):PT X e t':=fun ak s σ H Q I q=>h ak s σ H Q I (i σ H Q q)
theorem _root_.L2.PW.imp(h:PW X e t)(i:∀σ H Q,t' σ H Q->t σ H Q):PW X e t':=fun w ak s σ H Q I q=>h w ak s σ H Q I (i σ H Q q)
theorem _root_.L2.PA.imp(h:PA X e t)(i:∀σ H Q,t' σ H Q->t σ H Q):PA X e t':=fun p ak s σ H Q I q=>h p ak s σ H Q I (i σ H Q q)
theorem _root_.L2.PS.imp(h:PS X e t)(i:∀D σ H,t' D σ H->t D σ H):PS X e t':=fun ak s σ H D I q=>h ak s σ H D I (i D σ H q)
theorem _root_.L2.vC.imp(h:vC X e t)(i:∀D σ H,t' D σ H->t D σ H):vC X e t':=fun ak s σ H D I q=>h ak s σ H D I (i D σ H q)
def au(i:Nat):DF:=fun st=>match st[i]? with|some (some d)=>.ok d|_=>.bad
def dC(d:D):DF:=fun _=>.ok d
def bC(f:DF):DF:=fun st=>(f st).bind fun d=>if gJ d=true then .ok d else .bad
def bw(g:D->D->R D)(fa fb:DF):DF:=fun st=>(fa st).bind fun a=>(fb st).bind fun b=>g a b
def oz(g:D->R D)(fa:DF):DF:=fun st=>(fa st).bind g
def aH:DA:=fun _=>.ok []
def af(f:DF)(g:DA):DA:=fun st=>(f st).bind fun d=>(g st).bind fun ds=>.ok (d::ds)
def cQ(g:List D->R D)(f:DA):DF:=fun st=>(f st).bind g
def kR(fa fb:DF):DF:=fun st=>(fa st).bind fun a=>match a with | .bl true=>fb st | .bl false=>.ok (.bl false)|_=>.bad
def Ra(fa fb:DF):DF:=fun st=>(fa st).bind fun a=>match a with | .bl true=>.ok (.bl true) | .bl false=>fb st|_=>.bad
def rL(fa:DF):DF:=fun st=>(fa st).bind fun a=>match a with | .bl b=>.ok (.bl (!b))|_=>.bad
section
variable {X:Cx}{C:Cfg}{G0:Hp}{Γ:List SK}{E:L2.St->XK}{a b c:bF}{fa fb:DF}{κ aN d9:Kd}
theorem C2(i:Nat)(h:PE X e (oB i))(hk:Γ[i]?=some k:=by rfl):PE X e (tD X.K C G0 Γ E (au i) k.kd):=h.imp fun σ H Q zz=>by
 refine dO zz fun A st r q=>?_;clear zz;unfold au at q;cases hs:st[i]? with
 | none=>rw[hs]at q;exact q.elim
 | some o=>
  cases o with
  | none=>rw[hs]at q;exact q.elim
  | some d=>rw[hs]at q;refine aU (r.read hk hs) fun v h1 h2=>?_;exact⟨v,h1,q v H (.refl _) h2⟩
theorem WR(h:PE X e (tC v))(n:gJ d=true)(q:∀H,Rep X.K C H d v):PE X e (tD X.K C G0 Γ E (dC d) .new):=h.imp fun σ H Q kX=>kX.elim fun A qq=>qq.elim fun st uT=>uT.elim fun r k=>k v H (.refl _) (.flat r (.refl _) n (q H) _)
theorem aF{j}:PE X (.Constant (.int i) j pos) (tD X.K C G0 Γ E (dC (.int i)) .new):=WR ND (by rw[gJ] <;> simp) fun H=>by rw[Rep]
theorem OL{j}:PE X (.Constant (.bool i) j pos) (tD X.K C G0 Γ E (dC (.bl i)) .new):=WR Zp (by rw[gJ] <;> simp) fun H=>by rw[Rep]
theorem C3(hg:Gl X x)(hm:X.mg x=some (.int i t))(hd:(x==("__debug__" : Str))=false:=by decide):PE X (.Name x pos) (tD X.K C G0 Γ E (dC (.int i)) .new):=WR (Ro hg hm (v:=.int i) ⟨t,rfl⟩ hd) (by rw[gJ] <;> simp) fun H=>by rw[Rep]
theorem cN(h:PE X e (tD X.K C G0 Γ E f κ)):PE X e (tD X.K C G0 Γ E (bC f) .new):=h.imp fun σ H Q Gi=>Gi.elim fun A Ih=>Ih.elim fun st Ii=>Ii.elim fun r q=>⟨A,st,r,by
 unfold bC R.bind at q;cases hf:f st with
 | ok d=>rw[hf] at q;dsimp only at q ⊢;by_cases n:gJ d=true;rw[aM4 n] at q;exact fun v H' e w=>q v H' e (.flat r e n w.rep _);rw[aM5 n] at q;exact q.elim
 | ex c p=>rw[hf]at q;exact q
 | bad=>rw[hf]at q;exact q⟩
def wj(K:aE)(C:Cfg)(r2:R2)(g:D->D->R D)(κ:Kd):Prop:=∀(G0:Hp) (Γ:List SK) (E:XK) (σ:L2.St) (A:List ay) (st:ir) (H:Hp) (a b:D) (x y:V) (Q:VK),RS K C G0 Γ σ H A st->Rep K C H a x->Rep K C H b y->
 (match g a b with | .ok d=>∀v H',aI H H'->Val K C κ G0 A H H' d v->Q v H' | .ex c p=>∀H',aI H H'->IV E c p H' | .bad=>False)->r2 x y H Q
theorem two(ho:wj X.K C r2 g κ):∀σ H Q,tD X.K C G0 Γ E (bw g fa fb) κ σ H Q->YF r2 (tD X.K C G0 Γ E fa aN) (tD X.K C G0 Γ E fb d9) σ H Q:=fun σ H Q zz=>by
 refine dO zz fun A st r q=>?_;clear zz;refine⟨A,st,r,?_⟩;unfold bw R.bind at q;cases ha:fa st with
 | bad=>rw[ha]at q;exact q
 | ex c p=>rw[ha]at q;exact q
 | ok a=>
  rw[ha] at q;intro x H1 e1 w1;refine⟨A,st,r.mono e1,?_⟩;dsimp only at q;cases hb:fb st with
  | bad=>rw[hb]at q;exact q
  | ex c p=>rw[hb]at q;exact fun H' e'=>q H' (e1.trans e')
  | ok b=>
   rw[hb] at q;intro y H2 e2 w2;refine ho G0 Γ (E σ) σ A st H2 a b x y Q ((r.mono e1).mono e2) (w1.rep.same e2 _) w2.rep ?_;dsimp only at q;cases hg:g a b with
   | bad=>rw[hg]at q;exact q
   | ex c p=>rw[hg]at q;exact fun H' e'=>q H' ((e1.trans e2).trans e')
   | ok d=>rw[hg]at q;exact fun v H' e' w=>q v H' ((e1.trans e2).trans e') (w.early (e1.trans e2))
theorem cF(hr:rD X (binaryOp op) r2)(ho:wj X.K C r2 g κ)(ha:PE X a (tD X.K C G0 Γ E fa aN))(hb:PE X b (tD X.K C G0 Γ E fb d9)):PE X (.BinOp a op b pos) (tD X.K C G0 Γ E (bw g fa fb) κ):=(ZU hr ha hb).imp (two ho)
theorem yx(hr:rD X (iR op) r2)(ho:wj X.K C r2 g κ)(ha:PE X a (tD X.K C G0 Γ E fa aN))(hb:PE X b (tD X.K C G0 Γ E fb d9))(hm:behindInMarks op b=false):PE X (.Compare a [op] [b] pos) (tD X.K C G0 Γ E (bw g fa fb) κ):=(Rv hr ha hb hm).imp (two ho)
theorem wj.flat{K:aE}{r2:R2}{g:D->D->R D}(h:∀(H:Hp) (a b:D) (x y:V) (Q:VK),Rep K C H a x->Rep K C H b y->(match g a b with | .ok d=>gJ d=true/\∀v,Rep K C H d v->Q v H|_=>False)->r2 x y H Q)(hg:∀a b,(∀c p,g a b≠ .ex c p)/\∀d,g a b = .ok d->gJ d=true):wj K C r2 g κ:=fun G0 Γ E σ A st H a b x y Q r qa qb q=>h H a b x y Q qa qb (by
 cases hz:g a b with
 | bad=>rw[hz]at q;exact q
 | ex c p=>exact aN6 hz ((hg a b).1 c p)
 | ok d=>rw[hz]at q;exact⟨(hg a b).2 d hz,fun v w=>q v H (.refl _) (.flat r (.refl _) ((hg a b).2 d hz) w _)⟩)
def IW(Cd:Int->Int->Bool)(g:Int->Int->D):D->D->R D:=fun a b=>match a,b with | .int i,.int j=>if Cd i j=true then .ok (g i j)else .bad|_,_=>.bad
theorem OM{Cd:Int->Int->Bool}{g:Int->Int->D}{a b d:D}(h:IW Cd g a b = .ok d):∃i j,a = .int i/\b = .int j/\Cd i j=true/\d=g i j:=by
 unfold IW at h;split at h;split at h;rename_i q;cases h;exact⟨_,_,rfl,rfl,q,rfl⟩;cases h;cases h
theorem ON{Cd:Int->Int->Bool}{g:Int->Int->D}{a b:D}{c:ay}{p:Option Int}:IW Cd g a b≠ .ex c p:=by
 unfold IW;split;split <;> exact fun h=>by cases h
 exact fun h=>by cases h
theorem m7{K:aE}{r2:R2}{Cd:Int->Int->Bool}{g:Int->Int->D}(h:∀(H:Hp) (i j:Int) (Q:VK),Cd i j=true->(∀v,Rep K C H (g i j) v->Q v H)->r2 (.int i) (.int j) H Q)(n:∀i j,gJ (g i j)=true):wj K C r2 (IW Cd g) κ:=.flat (fun H a b x y Q qa qb q=>by
  cases hz:IW Cd g a b with
  | bad=>rw[hz]at q;exact q.elim
  | ex c p=>exact aN6 hz ON
  | ok d=>rw[hz]at q;refine uN (OM hz) fun i j b8 rE hc RE=>?_;obtain rfl:=b8;obtain rfl:=rE;obtain rfl:=RE;rw[Rep]at qa qb;subst qa;subst qb;exact h H i j Q hc q.2) fun a b=>⟨fun c p=>ON,fun d hd=>by obtain⟨i,j,_,_,_,rfl⟩:=OM hd;exact n i j⟩
def jX:=IW (fun _ _=>true) fun i j=>.int (i+j)
def n5:=IW (fun _ _=>true) fun i j=>.int (i-j)
def sm(i:Int):Bool:=decide (-(2 ^ 64)<i)&&decide (i<2 ^ 64)
def tu:=IW (fun i j=>sm i || sm j) fun i j=>.int (i*j)
def pH:=IW (fun _ j=>decide (0<j)&&decide (j<1073741824)) fun i j=>.int (i / j)
def jG:=IW (fun _ j=>decide (0<j)) fun i j=>.int (i % j)
def gLt:=IW (fun _ _=>true) fun i j=>.bl (decide (i<j))
def V0:=IW (fun _ _=>true) fun i j=>.bl (decide (i<=j))
def WS:=IW (fun _ _=>true) fun i j=>.bl (decide (j<i))
theorem yy{K:aE}{H:Hp}{i:Int}:Rep K C H (.int i) (.int i):=by rw[Rep]
theorem zI{K:aE}{H:Hp}{i:Bool}:Rep K C H (.bl i) (.bl i):=by rw[Rep]
theorem fJ{K:aE}:wj K C (Lk fun i j=>.int (i+j)) jX .new:=m7 (fun H i j Q _ q=>⟨i,j,rfl,rfl,q _ yy⟩) fun i j=>by rw[gJ] <;> simp
theorem qc{K:aE}:wj K C (Lk fun i j=>.int (i-j)) n5 .new:=m7 (fun H i j Q _ q=>⟨i,j,rfl,rfl,q _ yy⟩) fun i j=>by rw[gJ] <;> simp
theorem tw{K:aE}:wj K C (rI Ru fun i j=>.int (i*j)) tu .new:=m7 (fun H i j Q c q=>⟨i,j,rfl,rfl,by
 rcases lg _ _ |>.mp c with c|c;simp[sm]at c;exact .inl ⟨by lia,by lia⟩;simp[sm]at c;exact .inr ⟨by lia,by lia⟩,q _ yy⟩) fun i j=>by rw[gJ] <;> simp
theorem m8{K:aE}:wj K C (rI ZX fun i j=>.int (i / j)) pH .new:=m7 (fun H i j Q c q=>⟨i,j,rfl,rfl,by simp at c;exact⟨c.1,c.2⟩,q _ yy⟩) fun i j=>by rw[gJ] <;> simp
theorem jR{K:aE}:wj K C (rI (fun _ j=>0<j) fun i j=>.int (i % j)) jG .new:=m7 (fun H i j Q c q=>⟨i,j,rfl,rfl,by simpa using c,q _ yy⟩) fun i j=>by rw[gJ] <;> simp
theorem OO{K:aE}:wj K C (Lk fun i j=>.bl (decide (i<j))) gLt .new:=m7 (fun H i j Q _ q=>⟨i,j,rfl,rfl,q _ zI⟩) fun i j=>by rw[gJ] <;> simp
theorem vc{K:aE}:wj K C (Lk fun i j=>.bl (decide (i<=j))) V0 .new:=m7 (fun H i j Q _ q=>⟨i,j,rfl,rfl,q _ zI⟩) fun i j=>by rw[gJ] <;> simp
theorem Hg{K:aE}:wj K C (Lk fun i j=>.bl (decide (j<i))) WS .new:=m7 (fun H i j Q _ q=>⟨i,j,rfl,rfl,q _ zI⟩) fun i j=>by rw[gJ] <;> simp
def nE(neg:Bool):D->D->R D:=fun a b=>if(Dm.flat a&&Dm.flat b&&decide (dep a<=60))=true then .ok (.bl (if neg then !j7 a b else j7 a b))else .bad
theorem kE{K:aE}{neg:Bool}:wj K C (WM K C neg) (nE neg) .new:=.flat (fun H a b x y Q qa qb q=>by
  unfold nE at q;split at q;rename_i c;split at c;rename_i c';cases c;simp only[bR,aM9] at c';exact⟨a,b,qa,qb,c'.1.1,c'.1.2,c'.2,q.2 _ zI⟩;cases c;exact q.elim) fun a b=>⟨fun c p=>(by unfold nE;split <;> exact fun h=>(by cases h)),fun d h=>by unfold nE at h;split at h <;> cases h;rw[gJ] <;> simp⟩
def mX(neg:Bool):D->D->R D:=fun a b=>match b with
 | .lst es=>if(Dm.flat a&&cC es&&decide (kN es<=60))=true then .ok (.bl (if neg then !(es.any fun e=>j7 e a)else es.any fun e=>j7 e a))else .bad
 | .tup es=>if(Dm.flat a&&cC es&&decide (kN es<=60))=true then .ok (.bl (if neg then !(es.any fun e=>j7 e a)else es.any fun e=>j7 e a))else .bad
 | _=>.bad
theorem kF{K:aE}{neg:Bool}:wj K C (WN K C neg) (mX neg) .new:=.flat (fun H a b x y Q qa qb q=>by
  cases b with
  | lst es=>unfold mX at q;dsimp only at q;split at q;rename_i c;split at c;rename_i c';cases c;simp only[bR,aM9] at c';exact⟨a,es,qa,.inl qb,c'.1.1,c'.1.2,c'.2,q.2 _ zI⟩;cases c;exact q.elim
  | tup es=>unfold mX at q;dsimp only at q;split at q;rename_i c;split at c;rename_i c';cases c;simp only[bR,aM9] at c';exact⟨a,es,qa,.inr qb,c'.1.1,c'.1.2,c'.2,q.2 _ zI⟩;cases c;exact q.elim
  | _=>exact q.elim) fun a b=>⟨fun c p=>(by unfold mX;split <;> (try split) <;> exact fun h=>(by cases h)),fun d h=>by unfold mX at h;split at h <;> (try split at h) <;> cases h <;> (rw[gJ] <;> simp)⟩
def fS:D->D->R D:=fun a b=>match a,b with
 | .lst ds,.int i=>match BC ds i with|some d=>.ok d|none=>.bad
 | .tup ds,.int i=>match BC ds i with|some d=>.ok d|none=>.bad
 | _,_=>.bad
theorem DK{K:aE}{H:Hp}{ds:List D}{xs:List V}{i:Int}{d:D}(q:aQ K C H ds xs)(h:BC ds i=some d):∃v,BC xs i=some v/\Rep K C H d v:=by
 unfold BC at h ⊢;rw[q.len];cases hj:Lo ds.length i with
 | none=>rw[hj]at h;cases h
 | some j=>rw[hj]at h;exact q.get' h
end
section
variable {X:Cx}{C:Cfg}{G0:Hp}{Γ:List SK}{E:L2.St->XK}{a b c:bF}{fa fb:DF}{κ aN:Kd}{rest:List bF}{pos:Pos}
theorem WT{K:aE}{H:Hp}{a d:D}{x:V}{i:Int}(qa:Rep K C H a x)(h:fS a (.int i) = .ok d):(∃p xs v,x = .ref p/\(lB K H p xs\/mZ K H p xs)/\BC xs i=some v/\Rep K C H d v):=by
 cases a with
 | lst ds=>
  unfold fS at h;dsimp only at h;cases hz:BC ds i with
  | none=>rw[hz]at h;cases h
  | some d'=>rw[hz] at h;cases h;refine bA qa.items fun p xs b8 h2 h3=>?_;obtain rfl:=b8;refine aU (DK h3 hz) fun v h4 h5=>?_;exact⟨p,xs,v,rfl,.inl h2,h4,h5⟩
 | tup ds=>
  unfold fS at h;dsimp only at h;cases hz:BC ds i with
  | none=>rw[hz]at h;cases h
  | some d'=>rw[hz] at h;cases h;rw[Rep]at qa;refine bA qa fun p xs b8 h2 h3=>?_;clear qa;obtain rfl:=b8;refine aU (DK h3 hz) fun v h4 h5=>?_;exact⟨p,xs,v,rfl,.inr h2,h4,h5⟩
 | _=>cases h
def aj4(K:aE):R2:=fun x y H Q=>VY K x y H Q\/ae8 K x y H Q
theorem aD2:UD X (aj4 X.K):=Io.or VZ
theorem lB.part{K:aE}{G H:Hp}(e:aI G H){p:ay}{xs:List V}(h:lB K G p xs\/mZ K G p xs):lB K H p xs\/mZ K H p xs:=h.imp (fun h=>e.seq h) fun h=>aI.tup e h
def Kd.item:Kd->Kd
 | .vL=>.old
 | .new=>.old
 | .loc=>.old
 | .old=>.old
 | _=>.aZ
theorem Sf{a b d:D}(h:fS a b = .ok d):∃i,b = .int i:=by
 cases b with
 | int i=>exact⟨i,rfl⟩
 | _=>cases a <;> cases h
theorem WU{a b:D}{c:ay}{p:Option Int}:fS a b≠ .ex c p:=by
 unfold fS;split;split <;> exact fun h=>(by cases h)
 split <;> exact fun h=>(by cases h)
 exact fun h=>(by cases h)
theorem OP(ha:PE X a (tD X.K C G0 Γ E fa aN))(hb:PE X b (tD X.K C G0 Γ E fb d9))(hs:wC b):PE X (.Subscript a b pos) (tD X.K C G0 Γ E (bw fS fa fb) aN.item):=(UE aD2 ha hb hs).imp fun σ H Q zz=>by
 refine dO zz fun A st r q=>?_;clear zz;refine⟨A,st,r,?_⟩;unfold bw R.bind at q;cases ha:fa st with
 | bad=>rw[ha]at q;exact q
 | ex c p=>rw[ha]at q;exact q
 | ok a=>
  rw[ha] at q;intro x H1 e1 w1;refine⟨A,st,r.mono e1,?_⟩;dsimp only at q;cases hb:fb st with
  | bad=>rw[hb]at q;exact q
  | ex c p=>rw[hb]at q;exact fun H' e'=>q H' (e1.trans e')
  | ok b=>
   rw[hb] at q;intro y H2 e2 w2;dsimp only at q;cases hg:fS a b with
   | bad=>rw[hg]at q;exact q.elim
   | ex c p=>exact aN6 hg WU
   | ok d=>
    rw[hg] at q;obtain⟨i,rfl⟩:=Sf hg;have tE:=e1.trans e2;have w:=w1.later e2;obtain rfl:y = .int i:=by have:=w2.rep;rw[Rep]at this;exact this
    have fin:∀G:Hp,aI G H2->Rep X.K C G a x->(∀v,Rep X.K C G d v->Val X.K C aN.item G0 A H H2 d v)->aj4 X.K x (.int i) H2 Q:=fun G e qa k=>by refine Rk (WT qa hg) fun p xs v rE s at' rv=>?_;obtain rfl:=rE;rcases lB.part e s with s|s;exact .inl ⟨p,xs,i,v,rfl,rfl,s,at',q v H2 tE (k v rv)⟩;exact .inr ⟨p,xs,i,v,rfl,rfl,s,at',q v H2 tE (k v rv)⟩
    cases aN with
    | new=>exact fin _ (aJ _ _) (w.le r tE (κ':=.old) rfl) fun v z=>z
    | vL=>exact fin _ (aJ _ _) (w.le r tE (κ':=.old) rfl) fun v z=>z
    | loc=>exact fin _ (aJ _ _) (w.le r tE (κ':=.old) rfl) fun v z=>z
    | old=>exact fin _ (aJ _ _) w fun v z=>z
    | oF=>exact fin _ (.refl _) w.rep fun v z=>z
    | aZ=>exact fin _ (.refl _) w fun v z=>z
theorem aK:PA X [] (ER X.K C G0 Γ E aH κ):=jL.imp fun σ H Q kX=>kX.elim fun A qq=>qq.elim fun st uT=>uT.elim fun r q=>q [] H (.refl _) .nil
theorem aq(ha:PE X e (tD X.K C G0 Γ E f aN))(hr:PA X es (ER X.K C G0 Γ E fs κ))(l:aN.le κ=true:=by rfl)(hs:bN (e::es) X.env=(false,eval e X.env)::bN es X.env:=by rfl):PA X (e::es) (ER X.K C G0 Γ E (af f fs) κ):=(gU ha hr hs).imp fun σ H Q zz=>by
 refine dO zz fun A st r q=>?_;clear zz;refine⟨A,st,r,?_⟩;unfold af R.bind at q;cases hf:f st with
 | bad=>rw[hf]at q;exact q
 | ex c p=>rw[hf]at q;exact q
 | ok a=>
  rw[hf] at q;intro x H1 e1 w1;refine⟨A,st,r.mono e1,?_⟩;dsimp only at q;cases hb:fs st with
  | bad=>rw[hb]at q;exact q
  | ex c p=>rw[hb]at q;exact fun H' e'=>q H' (e1.trans e')
  | ok b=>rw[hb] at q;intro y H2 e2 w2;exact q (x::y) H2 (e1.trans e2) (.cons ((w1.le r e1 l).hp.same (Kd.t9 e2) _) (w2.same (Kd.OI e1) _))
theorem yz{l:List α}(h:l.length<=100):l.length<=cU:=cI h (by rw[gG];decide)
def cY(n:Nat)(f:DA):DF:=fun st=>(f st).bind fun ds=>if ds.length<=n/\qt (.tup ds)=true then .ok (.tup ds)else .bad
theorem gz{x1}(h:PA X es (ER X.K C G0 Γ E fs κ)):PE X (.Tuple es x1 pos) (tD X.K C G0 Γ E (cY 100 fs) κ):=(VU h).imp fun σ H Q zz=>by
 refine dO zz fun A st r q=>?_;clear zz;refine⟨A,st,r,?_⟩;unfold cY R.bind at q;cases hf:fs st with
 | bad=>rw[hf]at q;exact q
 | ex c p=>rw[hf]at q;exact q
 | ok ds=>
  rw[hf] at q;dsimp only at q;split at q;rename_i d hz;split at hz;rename_i hl;cases hz;exact fun vs H1 e1 w1=>⟨yz (by rw[w1.len];exact hl.1),fun p hp=>q _ _ (e1.trans (cX hp)) (.tup r e1 hp hl.2 w1)⟩
  cases hz;rename_i hz;split at hz <;> cases hz;exact q.elim
def dw(n:Nat)(f:DA):DF:=fun st=>(f st).bind fun ds=>if ds.length<=n then .ok (.lst ds)else .bad
theorem iu(h:PA X es (ER X.K C G0 Γ E fs κ)):PE X (.List es pos) (tD X.K C G0 Γ E (dw 100 fs) κ):=(VV h).imp fun σ H Q zz=>by
 refine dO zz fun A st r q=>?_;clear zz;refine⟨A,st,r,?_⟩;unfold dw R.bind at q;cases hf:fs st with
 | bad=>rw[hf]at q;exact q
 | ex c p=>rw[hf]at q;exact q
 | ok ds=>
  rw[hf] at q;dsimp only at q;split at q;rename_i d hz;split at hz;rename_i hl;cases hz;exact fun vs H1 e1 w1=>⟨yz (by rw[w1.len];exact hl),fun p hp=>q _ _ (e1.trans (cX hp)) (.lst r e1 hp w1)⟩
  cases hz;rename_i hz;split at hz <;> cases hz;exact q.elim
def V1(K:aE)(C:Cfg)(r1:List V->Hp->VK->Prop)(g:List D->R D)(κ:Kd):Prop:=∀(G0:Hp) (Γ:List SK) (E:XK) (σ:L2.St) (A:List ay) (st:ir) (H:Hp) (ds:List D) (xs:List V) (Q:VK),RS K C G0 Γ σ H A st->aQ K C H ds xs->
 (match g ds with | .ok d=>∀v H',aI H H'->Val K C κ G0 A H H' d v->Q v H' | .ex c p=>∀H',aI H H'->IV E c p H' | .bad=>False)->r1 xs H Q
theorem iW(ho:V1 X.K C r1 g κ)(h:PE X e (VX r1 (ER X.K C G0 Γ E fs aN))):PE X e (tD X.K C G0 Γ E (cQ g fs) κ):=h.imp fun σ H Q zz=>by
 refine dO zz fun A st r q=>?_;clear zz;refine⟨A,st,r,?_⟩;unfold cQ R.bind at q;cases hf:fs st with
 | bad=>rw[hf]at q;exact q
 | ex c p=>rw[hf]at q;exact q
 | ok ds=>
  rw[hf] at q;dsimp only at q;intro vs H1 e1 w1;refine ho G0 Γ (E σ) σ A st H1 ds vs Q (r.mono e1) (w1.same Kd.v9 _) ?_;cases hg:g ds with
  | bad=>rw[hg]at q;exact q
  | ex c p=>rw[hg]at q;exact fun H' e'=>q H' (e1.trans e')
  | ok d=>rw[hg]at q;exact fun v H' e' w=>q v H' (e1.trans e') (w.early e1)
theorem nj{K:aE}{H:Hp}{d:D}{xs:List V}(h:aQ K C H [d] xs):∃v,xs=[v]/\Rep K C H d v:=by
 rw[aQ]at h;refine bA h fun v r b8 q z=>?_;clear h;obtain rfl:=b8;rw[aQ]at z;subst z;exact⟨v,rfl,q⟩
def pI:List D->R D:=fun ds=>match ds with | [.lst xs]=>.ok (.int xs.length) | [.tup xs]=>.ok (.int xs.length)|_=>.bad
theorem qd{K:aE}:V1 K C (fun xs H Q=>∃p ys,xs=[.ref p]/\(lB K H p ys\/mZ K H p ys)/\Q (.int ys.length) H) pI .new:=fun G0 Γ E σ A st H ds xs Q r w q=>by
 unfold pI at q;split at q;rename_i z;split at z;cases z;refine aU (nj w) fun v je w1=>?_;obtain rfl:=je;refine bA w1.items fun p ys b8 s t=>?_;obtain rfl:=b8;exact⟨p,ys,rfl,.inl s,q _ H (.refl _) (.flat r (.refl _) (by rw[gJ] <;> simp) (by rw[t.len];exact yy) _)⟩;cases z;refine aU (nj w) fun v je w1=>?_;obtain rfl:=je;rw[Rep] at w1;refine bA w1 fun p ys b8 s t=>?_;clear w1;obtain rfl:=b8;exact⟨p,ys,rfl,.inr s,q _ H (.refl _) (.flat r (.refl _) (by rw[gJ] <;> simp) (by rw[t.len];exact yy) _)⟩;cases z;rename_i z;split at z <;> cases z;exact q.elim
def m9:List D->R D:=fun ds=>match ds with | [.lst xs]=>if dS xs=true then .ok (.lst xs)else .bad | [.tup xs]=>if dS xs=true then .ok (.lst xs)else .bad|_=>.bad
theorem pJ{K:aE}:V1 K C (fun xs H Q=>∃p ys,xs=[.ref p]/\(lB K H p ys\/mZ K H p ys)/\∀l,H l=none->Q (.ref l) (upd H l (.lst ys))) m9 .new:=fun G0 Γ E σ A st H ds xs Q r w q=>by
 have fin:∀(es:List D) (p:ay) (ys:List V),(lB K H p ys\/mZ K H p ys)->aQ K C H es ys->dS es=true->(∀v H',aI H H'->Val K C .new G0 A H H' (.lst es) v->Q v H')->∃p' ID,[V.ref p]=[.ref p']/\(lB K H p' ID\/mZ K H p' ID)/\∀l,H l=none->Q (.ref l) (upd H l (.lst ID)):=fun es p ys s t n q=>
  ⟨p,ys,rfl,s,fun l hl=>q _ _ (cX hl) (.lst r (.refl _) hl (t.part (.nw (.refl _)) _ n))⟩
 unfold m9 at q;split at q;rename_i z;split at z;split at z;rename_i n;cases z;refine aU (nj w) fun v je w1=>?_;obtain rfl:=je;refine bA w1.items fun p ys b8 s t=>?_;obtain rfl:=b8;exact fin _ _ _ (.inl s) t n q;cases z;split at z;rename_i n;cases z;refine aU (nj w) fun v je w1=>?_;obtain rfl:=je;rw[Rep] at w1;refine bA w1 fun p ys b8 s t=>?_;clear w1;obtain rfl:=b8;exact fin _ _ _ (.inr s) t n q;cases z;cases z
 ·rename_i z;split at z <;> (try split at z) <;> cases z
 exact q.elim
theorem Ax(h:PE X e (tD X.K C G0 Γ E f κ))(he:∀whole,isTrue e X.env whole=(do let v <- whole;standAt e.pos;holding [v] (truthy v)):=by intro _;rfl):PT X e (yw X.K C G0 Γ E f):=(VB h he).imp fun σ H Q zz=>by
 refine dO zz fun A st r q=>?_;clear zz;refine⟨A,st,r,?_⟩;cases hf:f st with
 | bad=>rw[hf]at q;exact q
 | ex c p=>rw[hf]at q;exact q
 | ok d=>
  rw[hf] at q;cases d with
  | bl b=>exact fun v H' e' w=>⟨b,by have:=w.rep;rw[Rep]at this;exact this,q H' e'⟩
  | _=>exact q.elim
theorem eS(hr:rD X (iR op) r2)(ho:wj X.K C r2 g .new)(ha:PE X a (tD X.K C G0 Γ E fa aN))(hb:PE X b (tD X.K C G0 Γ E fb d9))(hm:behindInMarks op b=false):PT X (.Compare a [op] [b] pos) (yw X.K C G0 Γ E (bw g fa fb)):=(Rw hr ha hb hm).imp fun σ H Q zz=>by
 refine dO zz fun A st r q=>?_;clear zz;refine two (κ:=.new) ho σ H _ ⟨A,st,r,?_⟩;cases hf:bw g fa fb st with
 | bad=>rw[hf]at q;exact q
 | ex c p=>rw[hf]at q;exact q
 | ok d=>
  rw[hf] at q;cases d with
  | bl b=>exact fun v H' e' w=>⟨b,by have:=w.rep;rw[Rep]at this;exact this,q H' e'⟩
  | _=>exact q.elim
theorem vd(h:PT X a (yw X.K C G0 Γ E fa)):PT X (.UnaryOp .Not a pos) (yw X.K C G0 Γ E (rL fa)):=(VC h).imp fun σ H Q zz=>by
 refine dO zz fun A st r q=>?_;clear zz;refine⟨A,st,r,?_⟩;unfold rL R.bind at q;cases hf:fa st with
 | bad=>rw[hf]at q;exact q
 | ex c p=>rw[hf]at q;exact q
 | ok d=>
  rw[hf] at q;cases d with
  | bl b=>exact q
  | _=>exact q.elim
theorem wL(ha:PT X a (yw X.K C G0 Γ E fa)):PW X (.BoolOp .And [a] pos) (yw X.K C G0 Γ E fa):=pw_and1 ha
theorem Hh(ha:PT X a (yw X.K C G0 Γ E fa)):PW X (.BoolOp .Or [a] pos) (yw X.K C G0 Γ E fa):=pw_or1 ha
theorem yC(ha:PT X a (yw X.K C G0 Γ E fa))(hb:PW X (.BoolOp .And (b::rest) pos) (yw X.K C G0 Γ E fb)):PW X (.BoolOp .And (a::b::rest) pos) (yw X.K C G0 Γ E (kR fa fb)):=(pw_and ha hb).imp fun σ H Q zz=>by
 refine dO zz fun A st r q=>?_;clear zz;refine⟨A,st,r,?_⟩;unfold kR R.bind at q;cases hf:fa st with
 | bad=>rw[hf]at q;exact q
 | ex c p=>rw[hf]at q;exact q
 | ok d=>
  rw[hf] at q;cases d with
  | bl b=>
   intro H1 e1;cases b with
   | false=>rw[aM5 jo];exact q H1 e1
   | true=>
    rw[aM4 rfl];refine⟨A,st,r.mono e1,?_⟩;dsimp only at q;cases hb:fb st with
    | bad=>rw[hb]at q;exact q
    | ex c p=>rw[hb]at q;exact fun H' e'=>q H' (e1.trans e')
    | ok d=>
     rw[hb] at q;cases d with
     | bl b=>exact fun H' e'=>q H' (e1.trans e')
     | _=>exact q.elim
  | _=>exact q.elim
theorem OQ(ha:PT X a (yw X.K C G0 Γ E fa))(hb:PW X (.BoolOp .Or (b::rest) pos) (yw X.K C G0 Γ E fb)):PW X (.BoolOp .Or (a::b::rest) pos) (yw X.K C G0 Γ E (Ra fa fb)):=(pw_or ha hb).imp fun σ H Q zz=>by
 refine dO zz fun A st r q=>?_;clear zz;refine⟨A,st,r,?_⟩;unfold Ra R.bind at q;cases hf:fa st with
 | bad=>rw[hf]at q;exact q
 | ex c p=>rw[hf]at q;exact q
 | ok d=>
  rw[hf] at q;cases d with
  | bl b=>
   intro H1 e1;cases b with
   | true=>rw[aM4 rfl];exact q H1 e1
   | false=>
    rw[aM5 jo];refine⟨A,st,r.mono e1,?_⟩;dsimp only at q;cases hb:fb st with
    | bad=>rw[hb]at q;exact q
    | ex c p=>rw[hb]at q;exact fun H' e'=>q H' (e1.trans e')
    | ok d=>
     rw[hb] at q;cases d with
     | bl b=>exact fun H' e'=>q H' (e1.trans e')
     | _=>exact q.elim
  | _=>exact q.elim
theorem OR{op}(ha:PE X a (tD X.K C G0 Γ E fa κ)):PE X (.BoolOp op [a] pos) (tD X.K C G0 Γ E fa κ):=VD ha
theorem vbl{K:aE}{A:List ay}{H H':Hp}{b:Bool}{v:V}(w:Val K C κ G0 A H H' (.bl b) v):v = .bl b:=by have:=w.rep;rw[Rep]at this;exact this
theorem Hi(ha:PE X a (tD X.K C G0 Γ E fa aN))(hb:PE X (.BoolOp .And (b::rest) pos) (tD X.K C G0 Γ E fb κ)):PE X (.BoolOp .And (a::b::rest) pos) (tD X.K C G0 Γ E (kR fa fb) κ):=(VE ha hb).imp fun σ H Q zz=>by
 refine dO zz fun A st r q=>?_;clear zz;refine⟨A,st,r,?_⟩;unfold kR R.bind at q;cases hf:fa st with
 | bad=>rw[hf]at q;exact q
 | ex c p=>rw[hf]at q;exact q
 | ok d=>
  rw[hf] at q;cases d with
  | bl b=>
   intro v H1 e1 w1;refine⟨b,vbl w1,?_⟩;cases b with
   | false=>rw[aM5 jo];exact q _ H1 e1 (.flat r e1 (by rw[gJ] <;> simp) zI _)
   | true=>
    rw[aM4 rfl];refine⟨A,st,r.mono e1,?_⟩;dsimp only at q;cases hb:fb st with
    | bad=>rw[hb]at q;exact q
    | ex c p=>rw[hb]at q;exact fun H' e'=>q H' (e1.trans e')
    | ok d=>rw[hb]at q;exact fun v H' e' w=>q v H' (e1.trans e') (w.early e1)
  | _=>exact q.elim
end
def Sh(K:aE)(C:Cfg)(kG:Option Bool)(G0 H':Hp)(d:D)(v:V):Prop:=match kG with
 | some true=>Rep K C (nw G0 H') d v/\lP K C G0 (nw G0 H') d v
 | some false=>Rep K C H' d v
 | none=>(Rep K C (nw G0 H') d v/\lP K C G0 (nw G0 H') d v)/\wg K C G0 (nw G0 H') d v
section
variable (K:aE)(C:Cfg)(G0:Hp)(Γ:List SK)(E:L2.St->XK)(kG:Option Bool)
def oG(F:DS):TS:=fun D σ H=>∃A st,RS K C G0 Γ σ H A st/\match F st with
 | .nx st'=>∀dZ H' A',RS K C G0 Γ dZ H' A' st'->aI (er H A) (er H' A')->D.nx dZ H'
 | .bk st'=>∀dZ H' A',RS K C G0 Γ dZ H' A' st'->aI (er H A) (er H' A')->D.bk dZ H'
 | .ct st'=>∀dZ H' A',RS K C G0 Γ dZ H' A' st'->aI (er H A) (er H' A')->D.ct dZ H'
 | .rt d=>∀v H',aI G0 H'->Sh K C kG G0 H' d v->D.rt v H'
 | .ex c p st'=>∀dZ H' A',RS K C G0 Γ dZ H' A' st'->aI (er H A) (er H' A')->IV (E dZ) c p H'
 | .bad=>False
end
def cA(F G:DS):DS:=fun st=>match F st with | .nx st'=>G st'|o=>o
def cZ:DS:=fun st=>.nx st
def eE(i:Nat)(f:DF):DS:=fun st=>match f st with | .ok d=>.nx (st.set i (some d)) | .ex c p=>.ex c p st | .bad=>.bad
def DL(f:DF):DS:=fun st=>match f st with | .ok _=>.nx st | .ex c p=>.ex c p st | .bad=>.bad
def gK(f:DF):DS:=fun st=>match f st with | .ok d=>.rt d | .ex c p=>.ex c p st | .bad=>.bad
def f9(fc:DF)(F G:DS):DS:=fun st=>match fc st with | .ok (.bl true)=>F st | .ok (.bl false)=>G st | .ok _=>.bad | .ex c p=>.ex c p st | .bad=>.bad
section
variable {X:Cx}{C:Cfg}{G0:Hp}{Γ:List SK}{E:L2.St->XK}{kG:Option Bool}{c:bF}{κ:Kd}{pos:Pos}
theorem gR:vC X [] (oG X.K C G0 Γ E kG cZ):=Rq.imp fun D σ H kX=>kX.elim fun A qq=>qq.elim fun st uT=>uT.elim fun r q=>q σ H A r (.refl _)
theorem b7(h1:PS X s (oG X.K C G0 Γ E kG F))(h2:vC X ss (oG X.K C G0 Γ E kG G)):vC X (s::ss) (oG X.K C G0 Γ E kG (cA F G)):=(CT h1 h2).imp fun D σ H zz=>by
 refine dO zz fun A st r q=>?_;clear zz;refine⟨A,st,r,?_⟩;unfold cA at q;cases hf:F st with
 | nx st'=>
  rw[hf] at q;intro dZ H' A' r' e';refine⟨A',st',r',?_⟩;dsimp only at q;cases hg:G st' with
  | nx mO=>rw[hg]at q;exact fun Bx H2 A2 r2 e2=>q Bx H2 A2 r2 (e'.trans e2)
  | bk mO=>rw[hg]at q;exact fun Bx H2 A2 r2 e2=>q Bx H2 A2 r2 (e'.trans e2)
  | ct mO=>rw[hg]at q;exact fun Bx H2 A2 r2 e2=>q Bx H2 A2 r2 (e'.trans e2)
  | rt d=>rw[hg]at q;exact q
  | ex c p mO=>rw[hg]at q;exact fun Bx H2 A2 r2 e2=>q Bx H2 A2 r2 (e'.trans e2)
  | bad=>rw[hg]at q;exact q
 | bk st'=>rw[hf]at q;exact q
 | ct st'=>rw[hf]at q;exact q
 | rt d=>rw[hf]at q;exact q
 | ex c p st'=>rw[hf]at q;exact q
 | bad=>rw[hf]at q;exact q
theorem bh(h1:PS X s (oG X.K C G0 Γ E kG F)):vC X [s] (oG X.K C G0 Γ E kG F):=Ij h1
theorem dJ(hN:X.N.Nodup)(he:PE X e (tD X.K C G0 Γ E f κ))(hk:Γ[i]?=some k:=by rfl)(hl:k.takes κ=true:=by rfl)(hi:X.N[i]?=some x:=by rfl)(hx:Loc X.env.scope x:=by first|exact cS rfl|exact gQ rfl)(hs:swapsWith e (some (.Name x pos')) pos.line X.env=pure false:=by rfl)
  (hf:X.fn x=true\/X.env.scope.names.lookup x=some .local:=by first|exact .inl rfl|exact .inr rfl|assumption):PS X (.Assign [.Name x pos'] e pos) (oG X.K C G0 Γ E kG (eE i f)):=(NJ hN hi hx he hs hf).imp fun D σ H zz=>by
 refine dO zz fun A st r q=>?_;clear zz;refine⟨A,st,r,?_⟩;unfold eE at q;cases hf:f st with
 | bad=>rw[hf]at q;exact q
 | ex c p=>rw[hf]at q;exact fun H' e'=>q σ H' A (r.mono e') (aL e')
 | ok d=>rw[hf] at q;intro v H' e' w;refine cM (r.set e' hk hl w) fun A' r' e2 _=>?_;exact q _ _ A' r' e2
theorem Si(he:PE X e (tD X.K C G0 Γ E f κ))(hs:swapsWith e none pos.line X.env=pure false:=by rfl):PS X (.Expr e pos) (oG X.K C G0 Γ E kG (DL f)):=(q8 he hs).imp fun D σ H zz=>by
 refine dO zz fun A st r q=>?_;clear zz;refine⟨A,st,r,?_⟩;unfold DL at q;cases hf:f st with
 | bad=>rw[hf]at q;exact q
 | ex c p=>rw[hf]at q;exact fun H' e'=>q σ H' A (r.mono e') (aL e')
 | ok d=>rw[hf]at q;exact fun v H' e' w=>q σ H' A (r.mono e') (aL e')
def aD3:Bool->Kd|true=>.oF|false=>.aZ
theorem eT(he:PE X e (tD X.K C G0 Γ E f κ))(l:κ.le (aD3 b)=true:=by rfl):PS X (.Return (some e) pos) (oG X.K C G0 Γ E (some b) (gK f)):=(NF he).imp fun D σ H zz=>by
 refine dO zz fun A st r q=>?_;clear zz;refine⟨A,st,r,?_⟩;unfold gK at q;cases hf:f st with
 | bad=>rw[hf]at q;exact q
 | ex c p=>rw[hf]at q;exact fun H' e'=>q σ H' A (r.mono e') (aL e')
 | ok d=>
  rw[hf] at q;intro v H' e' w;have w':=w.le r e' l;refine q v H' (r.g0.trans e') ?_;cases b with
  | true=>exact w'
  | false=>exact w'
def V2(K:aE)(C:Cfg)(G0:Hp)(Γ:List SK)(E:L2.St->XK)(f:DF):TE:=fun σ H Q=>∃A st,RS K C G0 Γ σ H A st/\match f st with
 | .ok d=>∀v H',aI H H'->Val K C .new G0 A H H' d v/\wg K C H (nw H H') d v->Q v H'
 | .ex c p=>∀H',aI H H'->IV (E σ) c p H'
 | .bad=>False
theorem IX(he:PE X e (V2 X.K C G0 Γ E f)):PS X (.Return (some e) pos) (oG X.K C G0 Γ E none (gK f)):=(NF he).imp fun D σ H zz=>by
 obtain ⟨A,st,r,q⟩:=zz;refine⟨A,st,r,?_⟩;unfold gK at q;cases hf:f st with
 | bad=>rw[hf]at q;exact q
 | ex c p=>rw[hf]at q;exact fun H' e'=>q σ H' A (r.mono e') (aL e')
 | ok d=>rw[hf] at q;intro v H' e' w;exact q v H' (r.g0.trans e') ⟨w.1.le r e' (κ':=.oF) rfl,(w.2.early r.g0).mono (nV r.g0)⟩
theorem jJ(hc:PT X c (yw X.K C G0 Γ E fc))(ha:vC X ss (oG X.K C G0 Γ E kG F))(hb:vC X ss' (oG X.K C G0 Γ E kG G)):PS X (.If c ss ss' pos) (oG X.K C G0 Γ E kG (Dm.f9 fc F G)):=(Zt hc ha hb).imp fun D σ H zz=>by
 refine dO zz fun A st r q=>?_;clear zz;refine⟨A,st,r,?_⟩;unfold Dm.f9 at q;have sub:∀{H1:Hp} (e1:aI H H1) {G:DS},(match G st with
   | .nx st'=>∀dZ H' A',RS X.K C G0 Γ dZ H' A' st'->aI (er H A) (er H' A')->D.nx dZ H'
   | .bk st'=>∀dZ H' A',RS X.K C G0 Γ dZ H' A' st'->aI (er H A) (er H' A')->D.bk dZ H'
   | .ct st'=>∀dZ H' A',RS X.K C G0 Γ dZ H' A' st'->aI (er H A) (er H' A')->D.ct dZ H'
   | .rt d=>∀v H',aI G0 H'->Sh X.K C kG G0 H' d v->D.rt v H'
   | .ex c p st'=>∀dZ H' A',RS X.K C G0 Γ dZ H' A' st'->aI (er H A) (er H' A')->IV (E dZ) c p H'
   | .bad=>False)->oG X.K C G0 Γ E kG G D σ H1:=fun {H1} e1 {G} q=>by
  refine⟨A,st,r.mono e1,?_⟩
  cases hg:G st with
  | nx mO=>rw[hg]at q;exact fun Bx H2 A2 r2 e2=>q Bx H2 A2 r2 ((aL e1).trans e2)
  | bk mO=>rw[hg]at q;exact fun Bx H2 A2 r2 e2=>q Bx H2 A2 r2 ((aL e1).trans e2)
  | ct mO=>rw[hg]at q;exact fun Bx H2 A2 r2 e2=>q Bx H2 A2 r2 ((aL e1).trans e2)
  | rt d=>rw[hg]at q;exact q
  | ex c p mO=>rw[hg]at q;exact fun Bx H2 A2 r2 e2=>q Bx H2 A2 r2 ((aL e1).trans e2)
  | bad=>rw[hg]at q;exact q
 cases hf:fc st with
 | bad=>rw[hf]at q;exact q
 | ex c p=>rw[hf]at q;exact fun H' e'=>q σ H' A (r.mono e') (aL e')
 | ok d=>
  rw[hf] at q;cases d with
  | bl b=>
   intro H1 e1;cases b with
   | true=>rw[aM4 rfl];exact sub e1 q
   | false=>rw[aM5 jo];exact sub e1 q
  | _=>exact q.elim
def pK:List SK->Bool:=fun Γ=>Γ.all fun k=>match k with | .any=>false | .pr=>false | .ll=>false|_=>true
theorem OS(h:pK Γ=true){i:Nat}:Γ[i]?≠some .any:=fun z=>by
 unfold pK at h;have:=f7.mp h _ (iM z);cases this
theorem OT(h:pK Γ=true){i:Nat}:Γ[i]?≠some .pr:=fun z=>by
 unfold pK at h;have:=f7.mp h _ (iM z);cases this
theorem OU(h:pK Γ=true){i:Nat}:Γ[i]?≠some .ll:=fun z=>by
 unfold pK at h;have:=f7.mp h _ (iM z);cases this
theorem RS.WV{K:aE}{σ:L2.St}{H:Hp}{A:List ay}{st:ir}(r:RS K C G0 Γ σ H A st)(na:pK Γ=true){i:Nat}{n:Bool}{p:ay}{ob:HO}{d' d0:D}(hk:Γ[i]?=some (.own n))(hs:st[i]?=some (some d0))(hv:σ[i]?=some (some (.ref p)))(hp:p∈A)(g0:G0 p=none)
  (wm:lO d0=true) (hM:R9 ob=true) (q:mQ K C (eh n G0 A H) (upd H p ob) p d'):RS K C G0 Γ σ (upd H p ob) A (st.set i (some d'))/\aI (er H A) (er (upd H p ob) A):=by
 have ee:er (upd H p ob) A=er H A:=by funext b;by_cases mb:b∈A;rw[dD mb,dD mb];rw[aV mb,aV mb,aW (fun z:b=p=>mb (by rw[z];exact hp))]
 have H8:∀m,eh m G0 A (upd H p ob)=eh m G0 A H:=fun m=>by unfold eh;rw[ee]
 refine⟨⟨by rw[ee];exact r.base,fun a m=>?_,by simp[r.len],fun j d h=>?_,fun a b n' m' p' ds es sO g1 g2 s1 s2 o1 o2 w1 w2=>?_,r.gl⟩,by rw[ee];exact .refl _⟩;by_cases ha:a=p;subst ha;exact⟨ob,bS,hM⟩;rw[aW ha];exact r.lists a m;by_cases hj:i=j;subst hj;rw[kJ (eL.mp hs).1]at h;cases h;exact⟨_,_,hk,hv,.inl ⟨p,rfl,hp,g0,by rw[H8];exact q⟩⟩;rw[jH hj] at h;refine bA (r.slot j d h) fun k v h1 h2 h3=>?_;refine⟨k,v,h1,h2,?_⟩;cases k with
 | par=>show Rep K C (er _ A) d v;rw[ee];exact h3
 | loc=>show _/\_;rw[ee];exact h3
 | any=>exact aN6 h1 (OS na)
 | pr=>exact aN6 h1 (OT na)
 | ll=>exact aN6 h1 (OU na)
 | own m=>
  rcases h3 with ⟨p2,b,c,f,q2⟩ | ⟨a,b⟩;subst b;have np:p2≠p:=fun z=>by subst z;exact r.apart i j n m p2 d0 d hj hk h1 hs h wm q2.lO hv h2
  exact .inl ⟨p2,rfl,c,f,by rw[H8];exact q2.mono (.refl _) (aW np)⟩;exact .inr ⟨a,by rw[H8];exact b⟩
 have back:∀{c:Nat} {x:D},(st.set i (some d'))[c]?=some (some x)->lO x=true->∃y,st[c]?=some (some y)/\lO y=true:=fun {c x} h ho=>by by_cases hc:i=c;subst hc;exact⟨d0,hs,wm⟩;rw[jH hc]at h;exact⟨_,h,ho⟩
 obtain⟨WQ,s1,o1⟩:=back s1 o1;obtain⟨WO,s2,o2⟩:=back s2 o2;exact r.apart a b n' m' p' WQ WO sO g1 g2 s1 s2 o1 o2 w1 w2
theorem RS.mut{K:aE}{σ:L2.St}{H:Hp}{A:List ay}{st:ir}(r:RS K C G0 Γ σ H A st)(na:pK Γ=true){i:Nat}{n:Bool}{p:ay}{Hf:List D}{rG:List V}{d0:D}(hk:Γ[i]?=some (.own n))(hs:st[i]?=some (some d0))(hv:σ[i]?=some (some (.ref p)))(hp:p∈A)(g0:G0 p=none)
  (wm:∃ds,d0 = .lst ds) (q:aQ K C (eh n G0 A H) Hf rG):RS K C G0 Γ σ (upd H p (.lst rG)) A (st.set i (some (.lst Hf)))/\aI (er H A) (er (upd H p (.lst rG)) A):=by
 obtain⟨ds,rfl⟩:=wm;exact r.WV na hk hs hv hp g0 rfl rfl ⟨rG,bS,q⟩
theorem RS.Hj{K:aE}{σ:L2.St}{H:Hp}{A:List ay}{st:ir}(r:RS K C G0 Γ σ H A st){i:Nat}{n:Bool}{d:D}(hk:Γ[i]?=some (.own n))(hs:st[i]?=some (some d))(hd:lO d=true) :
  ∃p,σ[i]?=some (some (.ref p))/\p∈A/\G0 p=none/\mQ K C (eh n G0 A H) H p d:=by
 refine bA (r.slot i _ hs) fun k v h1 h2 h3=>?_;rw[hk] at h1;cases h1;rcases h3 with ⟨p2,b,c,f,q2⟩ | ⟨a,b⟩;cases b;exact⟨p2,h2,c,f,q2⟩;rw[hd]at a;cases a
theorem RS.owned{K:aE}{σ:L2.St}{H:Hp}{A:List ay}{st:ir}(r:RS K C G0 Γ σ H A st){i:Nat}{n:Bool}{ds:List D}(hk:Γ[i]?=some (.own n))(hs:st[i]?=some (some (.lst ds))) :
  ∃p xs,σ[i]?=some (some (.ref p))/\p∈A/\G0 p=none/\H p=some (.lst xs)/\aQ K C (eh n G0 A H) ds xs:=by
 refine at5 (r.Hj hk hs rfl) fun p a b c q=>?_;exact aU q fun xs e w=>⟨p,xs,a,b,c,e,w⟩
def WW:Bool->Kd|true=>.loc|false=>.old
theorem Val.WW{K:aE}{σ:L2.St}{H H':Hp}{A:List ay}{st:ir}{n:Bool}{d:D}{v:V}(r:RS K C G0 Γ σ H A st)(e:aI H H')(l:κ.le (WW n)=true)(w:Val K C κ G0 A H H' d v):Rep K C (eh n G0 A H') d v:=by
 have:=w.le r e l;cases n with
 | true=>exact this.1
 | false=>exact this
def mR(i:Nat)(f:DF):DS:=fun st=>match st[i]? with
 | some (some (.lst ds))=>match f st with
  | .ok d=>if ds.length<=5000 then .nx (st.set i (some (.lst (ds++[d]))))else .bad
  | .ex c p=>.ex c p st
  | .bad=>.bad
 | _=>.bad
theorem yD{i:Nat}{n:Bool}{to:TE}(h:PE X e (tBM X.K "list" BE (oB i) (xZ (tD X.K C G0 Γ E f κ) Gv)))(na:pK Γ=true)(hk:Γ[i]?=some (.own n):=by rfl)(hl:κ.le (WW n)=true:=by rfl)(hs:swapsWith e none pos.line X.env=pure false:=by rfl):PS X (.Expr e pos) (oG X.K C G0 Γ E kG (mR i f)):=(q8 h hs).imp fun D σ H zz=>by
 refine dO zz fun A st r q=>?_;clear zz;unfold mR at q;split at q;all_goals first
  | (rename_i z;split at z <;> (try split at z) <;> (try split at z) <;> cases z;done)
  | skip
 rename_i st' z;split at z;rename_i ds hs;cases hf:f st with
 | bad=>rw[hf]at z;cases z
 | ex c p=>rw[hf]at z;cases z
 | ok d=>
  rw[hf]at z;dsimp only at z;split at z;rename_i hlen;cases z;refine Gb (r.owned hk hs) fun p xs h1 h2 h3 h4 h5=>?_;refine⟨_,h1,.inl ⟨rfl,xs,.of h4⟩,A,st,r,?_⟩;rw[hf];intro v H' e' w;have r':=r.mono e';have q5:aQ X.K C (eh n G0 A H') ds xs:=h5.same (by
   unfold eh;cases n;exact aL e';exact bO (aL e')) _
  refine⟨p,xs,v,rfl,rfl,e' _ _ h4,?_,?_⟩;rw[h5.len];have:5001<=cU:=by rw[gG];decide
  lia;obtain⟨r2,e2⟩:=r'.mut na hk hs h1 h2 h3 ⟨ds,rfl⟩ (q5.app (.cons (w.WW r e' hl) .nil));exact q _ _ A r2 ((aL e').trans e2);cases z
 cases z;rename_i c p st' z;split at z;rename_i ds hs;cases hf:f st with
 | bad=>rw[hf]at z;cases z
 | ok d=>rw[hf]at z;dsimp only at z;split at z <;> cases z
 | ex c p=>rw[hf] at z;cases z;refine Gb (r.owned hk hs) fun p' xs h1 h2 h3 h4 h5=>?_;refine⟨_,h1,.inl ⟨rfl,xs,.of h4⟩,A,st,r,?_⟩;rw[hf];exact fun H' e'=>q σ H' A (r.mono e') (aL e')
 cases z;exact q.elim
end
def YY(K:aE)(C:Cfg)(n:Nat)(F:List D->R D)(kG:Option Bool):Sp:=fun vs H Q E=>∃ds,ds.length=n/\(aQ K C H ds vs/\C.gl H)/\match F ds with
 | .ok d=>∀v H',aI H H'->Sh K C kG H H' d v->Q v H'
 | .ex c p=>∀H',aI H H'->IV E c p H'
 | .bad=>False
noncomputable def cV (m:Nat) (Fb:DS):List D->R D:=fun ds=>match Fb (ds.map some++mG (m - ds.length) none) with
 | .rt d=>.ok d | .nx _=>.ok .dh | .ex c p _=>.ex c p|_=>.bad
section
variable {K:aE}{C:Cfg}{Γ:List SK}{H:Hp}
theorem mS:er H []=H:=by funext a;exact aV (by simp)
theorem OV{ds:List D}(hn:ds.length=n)(D8:∀i,i<n->Γ[i]?=some .par)(q:aQ K C H ds vs)(hgl:C.gl H):RS K C H Γ (L2.start N vs) H [] (ds.map some++mG (N.length-ds.length) none) where
 base:=by rw[mS];exact .refl _
 lists:=fun a m=>by cases m
 len:=by unfold L2.start;simp[q.len]
 slot:=fun i d h=>by
  have hi:i<ds.length:=by apply G8;intro gr;rw[kq (by simp;lia)]at h;simp at h;rw[uy]at h;split at h <;> cases h
  rw[kr (by simpa using hi),di]at h;cases hd:ds[i]? with
  | none=>rw[hd]at h;cases h
  | some d'=>rw[hd]at h;cases h;refine aU (q.get' hd) fun v h1 h2=>?_;refine⟨.par,v,D8 i (by lia),?_,?_⟩;unfold L2.start;rw[kr (by rw[br,q.len];exact hi),di,h1];rfl;show Rep K C (er H []) d v;rw[mS];exact h2
 gl:=hgl
 apart:=fun i j a b p Hf es nD g1 g2 s1 s2 w1 w2=>by
  have hi:i<ds.length:=by apply G8;intro gr;rw[kq (by simp;lia)]at s1;simp at s1;rw[uy]at s1;split at s1 <;> cases s1
  rw[D8 i (by lia)]at g1;cases g1
theorem WX{P:dG}{w:bQ}{mg:Str->Option av}{base:aY}{x qual:Str}{st:bz}{f:ay}{fd:gP}{N ps:List Str}{k n:Nat}{kG:Option Bool}{Fb:DS}(F:Lp K x qual st f fd)(S:bY N ps (aR st))(hn:ps.length=n)(D8:∀i,i<n->Γ[i]?=some .par)
  (body:∀(dW:av),fd.code=dW->∀(A:cH) (outer:List Env) (s:aA) (H:Hp) (E:XK),jf k (A.deeper (envOfC qual (aR st) s.heap.objs.size f dW))->
   vC ((qp (p9 P w) P w K mg base N qual (aR st) f dW A outer s H E).eX (lH (qp (p9 P w) P w K mg base N qual (aR st) f dW A outer s H E) fun _=>E)) (fG st) (oG K C H Γ (fun _=>E) kG Fb)) :
  jV P w K mg base (p9 P w) (k+1) f fd ps (YY K C n (cV N.length Fb) kG):=by
 refine An F S (fun vs H Q E kX=>by obtain⟨ds,h1,h2,_⟩:=kX;rw[h2.1.len,h1,hn]) fun dW hc A outer s H vs Q E hr qq=>?_;refine cM qq fun ds h1 h2 q=>?_;clear qq;refine⟨_,body dW hc A outer s H E hr,[],_,OV h1 D8 h2.1 h2.2,?_⟩;unfold cV at q;cases hf:Fb (ds.map some++mG (N.length-ds.length) none)with
 | nx st'=>
  rw[hf] at q;intro dZ H' A' r' e';refine q .dh H' (r'.g0) ?_;have R:∀H:Hp,Rep K C H .dh .dh:=fun H=>by rw[Rep]
  match kG with
  | none=>exact⟨⟨R (nw H H'),.not rfl rfl⟩,fun ds z=>by cases z⟩
  | some true=>exact⟨R (nw H H'),.not rfl rfl⟩
  | some false=>exact R H'
 | bk st'=>rw[hf]at q;exact q.elim
 | ct st'=>rw[hf]at q;exact q.elim
 | rt d=>rw[hf]at q;exact q
 | ex c p st'=>rw[hf]at q;exact fun dZ H' A' r' e'=>q H' r'.g0
 | bad=>rw[hf]at q;exact q.elim
end
section
def OW:Bool->Kd|true=>.new|false=>.aZ
theorem OX{n:Nat}{Fd:List D->R D}{ES:Bool}{K:aE}:∀σ H Q,tD K C G0 Γ E (cQ Fd fs) (OW ES) σ H Q->(∀st ds,fs st = .ok ds->ds.length=n)->GA (YY K C n Fd (some ES)) E (ER K C G0 Γ E fs κ) σ H Q:=fun σ H Q uT hlen=>by
 refine dO uT fun A st r q=>?_;clear uT;refine⟨A,st,r,?_⟩;unfold cQ R.bind at q;cases hf:fs st with
 | bad=>rw[hf]at q;exact q
 | ex c p=>rw[hf]at q;exact q
 | ok ds=>
  rw[hf] at q;dsimp only at q;intro vs H1 e1 w1;refine⟨ds,hlen st ds hf,⟨w1.same Kd.v9 _,C.glM (r.g0.trans e1) r.gl⟩,?_⟩;cases hg:Fd ds with
  | bad=>rw[hg]at q;exact q
  | ex c p=>rw[hg]at q;exact fun H' e'=>q H' (e1.trans e')
  | ok d=>
   rw[hg] at q;refine fun v H' e' w=>q v H' (e1.trans e') ?_;cases ES with
   | true=>have w':Val K C .new G0 A H1 H' d v:=w;exact w'.early e1
   | false=>exact w
theorem K9{n:Nat}{Fd:List D->R D}{K:aE}:∀σ H Q,V2 K C G0 Γ E (cQ Fd fs) σ H Q->(∀st ds,fs st = .ok ds->ds.length=n)->GA (YY K C n Fd none) E (ER K C G0 Γ E fs κ) σ H Q:=fun σ H Q uT hlen=>by
 refine dO uT fun A st r q=>?_;clear uT;refine⟨A,st,r,?_⟩;unfold cQ R.bind at q;cases hf:fs st with
 | bad=>rw[hf]at q;exact q
 | ex c p=>rw[hf]at q;exact q
 | ok ds=>
  rw[hf] at q;dsimp only at q;intro vs H1 e1 w1;refine⟨ds,hlen st ds hf,⟨w1.same Kd.v9 _,C.glM (r.g0.trans e1) r.gl⟩,?_⟩;cases hg:Fd ds with
  | bad=>rw[hg]at q;exact q
  | ex c p=>rw[hg]at q;exact fun H' e'=>q H' (e1.trans e')
  | ok d=>rw[hg] at q;refine fun v H' e' w=>q v H' (e1.trans e') ?_;have w':Val K C .new G0 A H1 H' d v:=w.1;exact⟨w'.early e1,(w.2.early e1).mono (nV e1)⟩
theorem bK:∀st ds,aH st = .ok ds->ds.length=0:=fun st ds h=>by cases h;rfl
theorem aG(h:∀st ds,fs st = .ok ds->ds.length=n):∀st ds,af f fs st = .ok ds->ds.length=n+1:=fun st ds q=>by
 unfold af R.bind at q;cases hf:f st with
 | bad=>rw[hf]at q;cases q
 | ex c p=>rw[hf]at q;cases q
 | ok d=>
  rw[hf] at q;dsimp only at q;cases hg:fs st with
  | bad=>rw[hg]at q;cases q
  | ex c p=>rw[hg]at q;cases q
  | ok Hf=>rw[hg]at q;cases q;rw[dg,h st _ hg]
theorem Sj{X:Cx}(Fn:jV X.prog X.w X.K X.mg X.base (p9 X.prog X.w) k ff fd ps (YY X.K C n Fd (some ES)))(hr:jf k X.A)(hm:X.mg x=some (.ref ff))(hk:qU X.K (.ref ff)=true)(hb:Binds X.K fd ps [])
  (ha:PA (X.eX (lH X E)) (e::es) (ER X.K C G0 Γ E fs κ)) (hlen:∀st ds,fs st = .ok ds->ds.length=n) (hg:Gl X x:=by rfl) (Ai:(x==("__debug__" : Str))=false:=by decide) (he:bN (e::es) X.env=(false,eval e X.env)::bN es X.env:=by rfl) (uS:(backTo pos (bN es X.env)).any (·.1)=false:=by rfl) :
  PE (X.eX (lH X E)) (.Call (.Name x p) (e::es) [] pos) (tD X.K C G0 Γ E (cQ Fd fs) (OW ES)):=(De Fn hr hg hm hk hb ha Ai he uS).imp fun σ H Q q=>OX σ H Q q hlen
theorem OY{X:Cx}(Fn:jV X.prog X.w X.K X.mg X.base (p9 X.prog X.w) k ff fd ps (YY X.K C n Fd none))(hr:jf k X.A)(hm:X.mg x=some (.ref ff))(hk:qU X.K (.ref ff)=true)(hb:Binds X.K fd ps [])
  (ha:PA (X.eX (lH X E)) (e::es) (ER X.K C G0 Γ E fs κ)) (hlen:∀st ds,fs st = .ok ds->ds.length=n) (hg:Gl X x:=by rfl) (Ai:(x==("__debug__" : Str))=false:=by decide) (he:bN (e::es) X.env=(false,eval e X.env)::bN es X.env:=by rfl) (uS:(backTo pos (bN es X.env)).any (·.1)=false:=by rfl) :
  PE (X.eX (lH X E)) (.Call (.Name x p) (e::es) [] pos) (V2 X.K C G0 Γ E (cQ Fd fs)):=(De Fn hr hg hm hk hb ha Ai he uS).imp fun σ H Q q=>K9 σ H Q q hlen
abbrev DB:=D->ir->Option ir
def fK(bind:DB)(F:DS):List D->ir->Out
 | [],st=>.nx st
 | d::ds,st=>match bind d st with
  | none=>.bad
  | some k8=>match F k8 with
   | .nx st'=>fK bind F ds st'
   | .ct st'=>fK bind F ds st'
   | .bk st'=>.nx st'
   | o=>o
abbrev DI:=ir->R (List D)
def iw(g:DI)(bind:DB)(F:DS):DS:=fun st=>match g st with | .ok ds=>fK bind F ds st | .ex c p=>.ex c p st | .bad=>.bad
def qF(K:aE)(C:Cfg)(G0:Hp)(Γ:List SK)(t:TG)(bind:DB):Prop:=∀(σ:L2.St) (H:Hp) (A:List ay) (st k8:ir) (d:D) (v:V) (Q:L2.St->Hp->Prop),RS K C G0 Γ σ H A st->Rep K C (er H A) d v->bind d st=some k8->
 (∀dZ A',RS K C G0 Γ dZ H A' k8->aI (er H A) (er H A')->(∀a∈A,a∈A')->Q dZ H)->t v σ H Q
def d7(i:Nat):DB:=fun d st=>some (st.set i (some d))
def kL(i j:Nat):DB:=fun d st=>match d with | .tup [a,b]=>some ((st.set i (some a)).set j (some b))|_=>none
theorem fV{K:aE}{i:Nat}{k:SK}(hk:Γ[i]?=some k:=by rfl)(l:k.takes .old=true:=by rfl):qF K C G0 Γ (CU i) (d7 i):=fun σ H A st k8 d v Q r w hb q=>by
 cases hb;refine cM (r.set (.refl _) hk l (κ:=.old) w) fun A' r' e' sb=>?_;exact q _ A' r' e' sb
theorem tF{K:aE}{i j:Nat}{k k':SK}(hk:Γ[i]?=some k:=by rfl)(hj:Γ[j]?=some k':=by rfl)(l:k.takes .old=true:=by rfl)(l':k'.takes .old=true:=by rfl):qF K C G0 Γ (ZA K 2 (NG (CU i) (NG (CU j) Zy))) (kL i j):=fun σ H A st k8 d v Q r w hb q=>by
 unfold kL at hb;split at hb;rename_i a b;cases hb;rw[Rep]at w;refine bA w fun p xs b8 h2 h3=>?_;clear w;obtain rfl:=b8;have GN:=aI.tup (aJ _ _) h2;rw[aQ] at h3;obtain⟨x,r1,rfl,wx,h3⟩:=h3;rw[aQ] at h3;obtain⟨y,r2,rfl,wy,h3⟩:=h3;rw[aQ] at h3;subst h3;refine⟨p,_,rfl,GN,rfl,x,[y],rfl,y,[],rfl,rfl,?_⟩;refine cM (r.set (.refl _) hk l (κ:=.old) wx) fun A1 s1 e1 b1=>?_;refine cM (s1.set (.refl _) hj l' (κ:=.old) (wy.same e1 _)) fun A2 s2 e2 b2=>?_;exact q _ A2 s2 (e1.trans e2) fun a m=>b2 a (b1 a m);cases hb
def Ka(K:aE)(C:Cfg)(A:List ay)(H1:Hp)(J:It)(ds:List D):Prop:=∀(i:Nat) (H:Hp) (A':List ay),aI (er H1 A) (er H A')->(∀a∈A',H a≠none)->
 (∀d,ds[i]?=some d->J.go i H/\∀x H',J.yld i H x H'->aI H H'/\Rep K C (er H' A') d x)/\(ds[i]?=none->J.stop i H)
theorem ve{K:aE}{J:It}{ds:List D}{bind:DB}{g:TG}{A:List ay}{H H1:Hp}{σ:L2.St}{st:ir}{D:Ends}(hB:qF K C G0 Γ g bind)(hJ:Ka K C A H1 J ds)(r:RS K C G0 Γ σ H A st)(e1:aI H H1)(q:match fK bind F ds st with
   | .nx st'=>∀dZ H' A',RS K C G0 Γ dZ H' A' st'->aI (er H A) (er H' A')->D.nx dZ H'
   | .bk st'=>∀dZ H' A',RS K C G0 Γ dZ H' A' st'->aI (er H A) (er H' A')->D.bk dZ H'
   | .ct st'=>∀dZ H' A',RS K C G0 Γ dZ H' A' st'->aI (er H A) (er H' A')->D.ct dZ H'
   | .rt d=>∀v H',aI G0 H'->Sh K C kG G0 H' d v->D.rt v H'
   | .ex c p st'=>∀dZ H' A',RS K C G0 Γ dZ H' A' st'->aI (er H A) (er H' A')->IV (E dZ) c p H'
   | .bad=>False) :
  ∃W:Nat->Nat->L2.St->Hp->Prop,(∃m,W 0 m σ H1)/\∀i m σ H,W i m σ H->
   (J.stop i H/\D.nx σ H)\/(J.go i H/\∃N:L2.St->Hp->Prop,(∀dZ H',N dZ H'->∃m',m'<m/\W (i+1) m' dZ H')/\∀x H',J.yld i H x H'->g x σ H' fun Bx H2=>oG K C G0 Γ E kG F {D with nx:=N,ct:=N,bk:=D.nx} Bx H2):=by
 refine⟨fun i m dZ H'=>m=ds.length-i/\i<=ds.length/\∃A' st',RS K C G0 Γ dZ H' A' st'/\aI (er H1 A) (er H' A')/\fK bind F (ds.drop i) st'=fK bind F ds st,⟨ds.length,rfl,i7 _,A,st,r.mono e1,.refl _,rfl⟩,?_⟩;rintro i m CV H3 ⟨rfl,hi,A3,By,r3,e3,g3⟩;obtain⟨oH,oE⟩:=hJ i H3 A3 e3 (fun a m=>by obtain⟨xs,q,_⟩:=r3.lists a m;rw[q];simp);cases hd:ds[i]? with
 | none=>have:ds.drop i=[]:=List.drop_eq_nil_iff.mpr (nM.mp hd);rw[this]at g3;rw[<- g3]at q;exact .inl ⟨oE hd,q CV H3 A3 r3 ((aL e1).trans e3)⟩
 | some d=>
  obtain⟨go,yl⟩:=oH d hd;have gr:i < ds.length:=(eL.mp hd).1;have hdr:ds.drop i=d::ds.drop (i+1):=by rw[uA gr];congr 1;exact(eL.mp hd).2
  refine .inr ⟨go,fun dZ H'=>∃A' st',RS K C G0 Γ dZ H' A' st'/\aI (er H1 A) (er H' A')/\fK bind F (ds.drop (i+1)) st'=fK bind F ds st,fun dZ H' EO=>EO.elim fun A' GB=>GB.elim fun st' Ir=>Ir.elim fun h1 Gi=>Gi.elim fun h2 h3=>⟨ds.length-(i+1),by lia,rfl,gr,A',st',h1,h2,h3⟩,fun x H' hy=>?_⟩;obtain⟨e4,wx⟩:=yl x H' hy;rw[hdr,fK]at g3;cases hb:bind d By with
  | none=>rw[hb]at g3;rw[<- g3]at q;exact q.elim
  | some R8=>
   rw[hb]at g3;dsimp only at g3;refine hB CV H' A3 By R8 d x _ (r3.mono e4) wx hb fun σ5 A5 r5 e5 _=>⟨A5,R8,r5,?_⟩
   have Sl:aI (er H1 A) (er H' A5):=(e3.trans (aL e4)).trans e5;cases hf:F R8 with
   | nx BA=>rw[hf]at g3;exact fun VN H6 A6 r6 e6=>⟨A6,BA,r6,Sl.trans e6,g3⟩
   | ct BA=>rw[hf]at g3;exact fun VN H6 A6 r6 e6=>⟨A6,BA,r6,Sl.trans e6,g3⟩
   | bk BA=>rw[hf]at g3;rw[<- g3]at q;exact fun VN H6 A6 r6 e6=>q VN H6 A6 r6 (((aL e1).trans Sl).trans e6)
   | rt d=>rw[hf]at g3;rw[<- g3]at q;exact q
   | ex c p BA=>rw[hf]at g3;rw[<- g3]at q;exact fun VN H6 A6 r6 e6=>q VN H6 A6 r6 (((aL e1).trans Sl).trans e6)
   | bad=>rw[hf]at g3;rw[<- g3]at q;exact q.elim
def gu(f:DF):DI:=fun st=>match f st with | .ok (.lst ds)=>.ok ds | .ok _=>.bad | .ex c p=>.ex c p | .bad=>.bad
theorem fL{tg iter:bF}{bind:DB}{g:TG}(hp:PassesOwn (aD X.prog X.w) X.A X.env X.xe)(hc:X.calm=true)(he:PE X iter (tD X.K C G0 Γ E f κ))(l:κ.le .old=true)(hg:PG X tg g)(hB:qF X.K C G0 Γ g bind)(hb:vC X ss (oG X.K C G0 Γ E kG F))(hs:∀x,qy iter X.env x=pure x:=by intro _;rfl) :
  PS X (.For tg iter ss [] pos) (oG X.K C G0 Γ E kG (iw (gu f) bind F)):=(Gm hp hc (Il he) hg hb hs).imp fun D σ H zz=>by
 refine dO zz fun A st r q=>?_;clear zz;refine⟨A,st,r,?_⟩;unfold iw gu at q;cases hf:f st with
 | bad=>rw[hf]at q;exact q.elim
 | ex c p=>rw[hf]at q;exact fun H' e'=>q σ H' A (r.mono e') (aL e')
 | ok d=>
  rw[hf] at q;cases d with
  | lst ds=>dsimp only at q;intro v H1 e1 w;have w':Rep X.K C (er H1 A) (.lst ds) v:=w.le r e1 (κ':=.old) l;rw[Rep] at w';refine bA w' fun a xs b8 h2 h3=>?_;clear w';obtain rfl:=b8;refine⟨a,rfl,⟨xs,(aJ _ _).seq h2⟩,?_⟩;refine ve hB (fun i H3 A3 e3 _=>⟨fun d hd=>?_,fun hd=>?_⟩) r e1 q;refine aU (h3.get' hd) fun v hv rv=>?_;have s3:lB X.K H3 a xs:=(e3.trans (aJ _ _)).seq h2;refine⟨⟨xs,v,s3,hv⟩,fun x H' Ih=>?_⟩;obtain⟨hH,hx⟩:=Ih;subst hH;have:=hx xs s3;rw[hv] at this;cases this;exact⟨.refl _,rv.same ((aJ _ _).trans e3) _⟩;exact⟨xs,(e3.trans (aJ _ _)).seq h2,by rw[h3.len];exact nM.mp hd⟩
  | _=>exact q.elim
def yE(fs:DA):DI:=fun st=>match fs st with | .ok [.int j]=>if(decide (-(2 ^ 62)<=j)&&decide (j<2 ^ 62))=true then .ok ((dU j.toNat).map fun i=>.int (i:Nat))else .bad | .ok _=>.bad | .ex c p=>.ex c p | .bad=>.bad
theorem tG{tg:bF}{bind:DB}{g:TG}{p:Pos}(hp:PassesOwn (aD X.prog X.w) X.A X.env X.xe)(hc:X.calm=true)(hm:X.mg "range"=none)(ha:PA X [a] (ER X.K C G0 Γ E fs κ))(hg:PG X tg g)(hB:qF X.K C G0 Γ g bind)(hb:vC X ss (oG X.K C G0 Γ E kG F))(hgl:Gl X "range":=by rfl)
  (hs1:bN [a] X.env=[(false,eval a X.env)]:=by rfl) (hs:∀x,qy (.Call (.Name "range" p) [a] [] pos) X.env x=pure x:=by intro _;rfl) {pos':Pos} :
  PS X (.For tg (.Call (.Name "range" p) [a] [] pos) ss [] pos') (oG X.K C G0 Γ E kG (iw (yE fs) bind F)):=(Gm hp hc (JD hgl hm ha hs1) hg hb hs).imp fun D σ H zz=>by
 refine dO zz fun A st r q=>?_;clear zz;refine⟨A,st,r,?_⟩;unfold iw at q;cases hg:yE fs st with
 | bad=>rw[hg]at q;exact q.elim
 | ex c p=>
  rw[hg] at q;have hf:fs st = .ex c p:=by unfold yE at hg;split at hg;split at hg <;> cases hg;cases hg;rename_i z;rw[z];cases hg;rfl;cases hg
  rw[hf];exact fun H' e'=>q σ H' A (r.mono e') (aL e')
 | ok Hf=>
  rw[hg] at q;unfold yE at hg;split at hg;rename_i j hf;rw[hf];split at hg;rename_i hc;cases hg;simp only[bR,aM9] at hc;intro vs H1 e1 w1;refine aU (nj w1) fun v je wv=>?_;obtain rfl:=je;obtain rfl:v = .int j:=by rw[Rep]at wv;exact wv
  refine⟨j,rfl,hc.1,hc.2,?_⟩;refine ve hB (fun i H3 A3 e3 _=>⟨fun d hd=>?_,fun hd=>?_⟩) r e1 q;rw[di] at hd;have hi:i<j.toNat:=by apply G8;intro gr;rw[uE (by simpa using gr)]at hd;cases hd
  rw[MA hi]at hd;cases hd;refine⟨hi,fun x H' Ii=>?_⟩;obtain⟨hH,hx⟩:=Ii;subst hH;subst hx;refine⟨.refl _,?_⟩;rw[Rep,Int.zero_add];show j.toNat<=i;have:=nM.mp hd;simpa using this;cases hg;cases hg;cases hg;cases hg
end
section
def nW(g g':D->D->R D)(fa fb fc:DF):DF:=fun st=>(fa st).bind fun a=>(fb st).bind fun b=>(g a b).bind fun z=>match z with
 | .bl true=>(fc st).bind fun c=>g' b c
 | .bl false=>.ok (.bl false)
 | _=>.bad
theorem Ay{K:aE}{r2 YZ:R2}{g g':D->D->R D}(ho:wj K C r2 g .new)(CO:wj K C YZ g' .new):∀σ H Q,tD K C G0 Γ E (nW g g' fa fb fc) .new σ H Q->Gn r2 YZ (tD K C G0 Γ E fa aN) (tD K C G0 Γ E fb d9) (tD K C G0 Γ E fc ES) σ H Q:=fun σ H Q zz=>by
 refine dO zz fun A st r q=>?_;clear zz;refine⟨A,st,r,?_⟩;unfold nW R.bind at q;cases ha:fa st with
 | bad=>rw[ha]at q;exact q
 | ex c p=>rw[ha]at q;exact q
 | ok a=>
  rw[ha] at q;intro x H1 e1 w1;refine⟨A,st,r.mono e1,?_⟩;dsimp only at q;cases hb:fb st with
  | bad=>rw[hb]at q;exact q
  | ex c p=>rw[hb]at q;exact fun H' e'=>q H' (e1.trans e')
  | ok b=>
   rw[hb] at q;intro y H2 e2 w2;dsimp only at q;have tE:=e1.trans e2;refine ho G0 Γ (E σ) σ A st H2 a b x y _ (r.mono tE) (w1.rep.same e2 _) w2.rep ?_;cases hg:g a b with
   | bad=>rw[hg]at q;exact q
   | ex c p=>rw[hg]at q;exact fun H' e'=>q H' (tE.trans e')
   | ok z=>
    rw[hg] at q;cases z with
    | bl k=>
     intro v H3 e3 w3;refine⟨k,vbl w3,?_⟩;have C4:=tE.trans e3;cases k with
     | false=>rw[aM5 jo];exact q _ H3 C4 (.flat r C4 (by rw[gJ] <;> simp) zI _)
     | true=>
      rw[aM4 rfl];refine⟨A,st,r.mono C4,?_⟩;dsimp only at q;cases hc:fc st with
      | bad=>rw[hc]at q;exact q
      | ex c p=>rw[hc]at q;exact fun H' e'=>q H' (C4.trans e')
      | ok c=>
       rw[hc]at q;intro w' H4 e4 w4;dsimp only at q;refine CO G0 Γ (E σ) σ A st H4 b c y w' Q (r.mono (C4.trans e4)) (w2.rep.same (e3.trans e4) _) w4.rep ?_;cases Ov:g' b c with
       | bad=>rw[Ov]at q;exact q
       | ex c p=>rw[Ov]at q;exact fun H' e'=>q H' ((C4.trans e4).trans e')
       | ok d=>rw[Ov]at q;exact fun v H' e' w=>q v H' ((C4.trans e4).trans e') (w.early (C4.trans e4))
    | _=>exact q.elim
theorem DM(hr:rD X (iR op) r2)(OZ:rD X (iR NR) YZ)(ho:wj X.K C r2 g .new)(CO:wj X.K C YZ g' .new)(ha:PE X a (tD X.K C G0 Γ E fa aN))(hb:PE X b (tD X.K C G0 Γ E fb d9))(hc:PE X c (tD X.K C G0 Γ E fc ES))
  (hm:lastMarks [op,NR] [b,c]=false:=by with_unfolding_all rfl):PE X (.Compare a [op,NR] [b,c] pos) (tD X.K C G0 Γ E (nW g g' fa fb fc) .new):=(NQ hr OZ ha hb hc hm).imp (Ay ho CO)
theorem P0(hr:rD X (iR op) r2)(OZ:rD X (iR NR) YZ)(ho:wj X.K C r2 g .new)(CO:wj X.K C YZ g' .new)(ha:PE X a (tD X.K C G0 Γ E fa aN))(hb:PE X b (tD X.K C G0 Γ E fb d9))(hc:PE X c (tD X.K C G0 Γ E fc ES))
  (hm:lastMarks [op,NR] [b,c]=false:=by with_unfolding_all rfl):PT X (.Compare a [op,NR] [b,c] pos) (yw X.K C G0 Γ E (nW g g' fa fb fc)):=(NS hr OZ ha hb hc hm).imp fun σ H Q zz=>by
 refine dO zz fun A st r q=>?_;clear zz;refine Ay ho CO σ H _ ⟨A,st,r,?_⟩;cases hf:nW g g' fa fb fc st with
 | bad=>rw[hf]at q;exact q
 | ex c p=>rw[hf]at q;exact q
 | ok d=>
  rw[hf] at q;cases d with
  | bl b=>exact fun v H' e' w=>⟨b,vbl w,q H' e'⟩
  | _=>exact q.elim
def P6:D->R D:=fun a=>match a with | .int i=>.ok (.int (-i))|_=>.bad
theorem WY(ha:PE X a (tD X.K C G0 Γ E fa aN)):PE X (.UnaryOp .USub a pos) (tD X.K C G0 Γ E (oz P6 fa) .new):=(ZV VQ ha).imp fun σ H Q zz=>by
 refine dO zz fun A st r q=>?_;clear zz;refine⟨A,st,r,?_⟩;unfold oz R.bind at q;cases ha:fa st with
 | bad=>rw[ha]at q;exact q
 | ex c p=>rw[ha]at q;exact q
 | ok a=>
  rw[ha] at q;intro x H1 e1 w1;cases a with
  | int i=>have:=w1.rep;rw[Rep]at this;exact⟨i,this,q _ H1 e1 (.flat r e1 (by rw[gJ] <;> simp) yy _)⟩
  | _=>exact q.elim
def cutD(ds:List D)(lo hi:Option Int):List D:=(ds.drop (HT.Aj ds.length 0 lo)).take (HT.Aj ds.length ds.length hi-HT.Aj ds.length 0 lo)
def mh(o:Option DF):ir->R (Option Int):=fun st=>match o with
 | none=>.ok none
 | some f=>(f st).bind fun d=>match d with | .int i=>.ok (some i)|_=>.bad
def Lx(fa:DF)(lo hi:Option DF):DF:=fun st=>(fa st).bind fun a=>(mh lo st).bind fun l=>(mh hi st).bind fun h=>match a with
 | .lst ds=>if dS ds=true then .ok (.lst (cutD ds l h))else .bad
 | _=>.bad
def Z0(K:aE)(C:Cfg)(G0:Hp)(Γ:List SK)(E:L2.St->XK)(o:Option DF):TO:=fun σ H Q=>∃A st,RS K C G0 Γ σ H A st/\match mh o st with
 | .ok i=>∀H',aI H H'->Q i H'
 | .ex c p=>∀H',aI H H'->IV (E σ) c p H'
 | .bad=>False
theorem tH:PO X none (Z0 X.K C G0 Γ E none):=fun ak s σ H Q I kX=>kX.elim fun A qq=>qq.elim fun st uT=>uT.elim fun r q=>RA ak s σ H Q I (q H (.refl _))
theorem tK(h:PE X e (tD X.K C G0 Γ E f κ)):PO X (some e) (Z0 X.K C G0 Γ E (some f)):=fun ak s σ H Q I EO=>EO.elim fun A GB=>GB.elim fun st Ir=>Ir.elim fun r q=>RB h ak s σ H Q I ⟨A,st,r,by
 unfold mh R.bind at q;cases hf:f st with
 | bad=>simp only[hf]at q
 | ex c p=>simp only[hf]at q;exact q
 | ok d=>
  simp only[hf]at q;cases d with
  | int i=>exact fun v H' e' w=>⟨i,by have:=w.rep;rw[Rep]at this;exact this,q H' e'⟩
  | _=>exact q.elim⟩
theorem DN{K:aE}{H:Hp}{ds:List D}{xs:List V}{lo hi:Option Int}(q:aQ K C H ds xs):aQ K C H (cutD ds lo hi) (JJ xs lo hi):=by
 unfold cutD JJ;rw[q.len];exact(q.drop _).take _
theorem Kc:∀{ds:List D} (n:Nat),dS ds=true->dS (ds.take n)=true:=fun n h=>gy fun d hd=>lN h (oQ hd)
theorem Ke:∀{ds:List D} (n:Nat),dS ds=true->dS (ds.drop n)=true:=fun n h=>gy fun d hd=>lN h (uC hd)
theorem P7{ds es:List D}(h:dS ds=true)(h':dS es=true):dS (ds++es)=true:=gy fun d hd=>(gH.mp hd).elim (lN h) (lN h')
theorem yF{lo hi:Option bF}{fl fh:Option DF}{p2:Pos}(he:PE X e (tD X.K C G0 Γ E fa aN))(hl:PO X lo (Z0 X.K C G0 Γ E fl))(hu:PO X hi (Z0 X.K C G0 Γ E fh)):PE X (.Subscript e (.Slice lo hi none p2) pos) (tD X.K C G0 Γ E (Lx fa fl fh) .new):=(D3 Ip he hl hu).imp fun σ H Q zz=>by
 refine dO zz fun A st r q=>?_;clear zz;refine⟨A,st,r,?_⟩;unfold Lx R.bind at q;cases ha:fa st with
 | bad=>rw[ha]at q;exact q
 | ex c p=>rw[ha]at q;exact q
 | ok a=>
  rw[ha] at q;intro x H1 e1 w1;refine⟨A,st,r.mono e1,?_⟩;dsimp only at q;cases hb:mh fl st with
  | bad=>rw[hb]at q;exact q
  | ex c p=>rw[hb]at q;exact fun H' e'=>q H' (e1.trans e')
  | ok l=>
   rw[hb] at q;intro H2 e2;refine⟨A,st,r.mono (e1.trans e2),?_⟩;dsimp only at q;cases hc:mh fh st with
   | bad=>rw[hc]at q;exact q
   | ex c p=>rw[hc]at q;exact fun H' e'=>q H' ((e1.trans e2).trans e')
   | ok h=>
    rw[hc] at q;intro H3 e3;dsimp only at q;cases a with
    | lst ds=>dsimp only at q;by_cases n:dS ds=true;rw[aM4 n] at q;refine bA ((w1.rep.same (e2.trans e3) _).items) fun p xs b8 h2 h3=>?_;obtain rfl:=b8;have C4:=(e1.trans e2).trans e3;refine⟨p,xs,rfl,h2,fun l' Dv=>q _ _ (C4.trans (cX Dv)) (.lst r C4 Dv ?_)⟩;exact(DN h3).part (.nw C4) _ (Kc _ (Ke _ n));rw[aM5 n] at q;exact q.elim
    | _=>exact q.elim
def V3(K:aE):R2:=fun x y H Q=>∃l b xs zs,x = .ref l/\y = .ref b/\lB K H l xs/\lB K H b zs/\xs.length+zs.length<=cU/\∀p,H p=none->Q (.ref p) (upd H p (.lst (xs++zs)))
theorem wM:rD X (binaryOp .Add) (V3 X.K):=by
 intro ak s σ H x y v u Q I rx ry h;refine au0 h fun l b xs zs JK RE hH hB hz q=>?_;clear h;obtain rfl:=JK;obtain rfl:=RE;cases rx;cases ry;refine cM (I.list hH) fun bq r p1 _=>?_;refine cM (I.list hB) fun WZ r2 p2 _=>?_;obtain⟨⟨cls,dd,data,sl⟩,ho,hc,n,hd⟩:=id p1.isList;obtain⟨⟨ah0,YS,data2,YT⟩,UQ,Ls,n2,hd2⟩:=id p2.isList;simp only at hc hd Ls hd2;subst hc hd Ls hd2;have l1:=r.length;have l2:=r2.length;refine concat_meets ⟨_,ho,rfl⟩ ⟨_,UQ,rfl⟩ noFill_list_add seq_list_add PySem.F.slot_list_add PySem.F.entry_list_add (PySem.F.args_list_add_2 _ _) (list_addW l b bq.toArray WZ.toArray n n2 dd YS sl YT (by simp;lia)) ⟨ho,UQ,?_⟩;have ea:bq.toArray++WZ.toArray=(bq++WZ).toArray:=by simp
 rw[ea];exact⟨.ref _,_,I.aB3 (t':=s.toks) (r.append r2) (by rw[cG];lia),rfl,q _ I.fresh⟩
def qu:D->D->R D:=fun a b=>match a,b with
 | .lst ds,.lst es=>if(dS ds&&dS es&&decide (ds.length+es.length<=5000))=true then .ok (.lst (ds++es))else .bad
 | _,_=>.bad
theorem wN{K:aE}:wj K C (V3 K) qu .new:=fun G0 Γ E σ A st H a b x y Q r qa qb q=>by
 cases hg:qu a b with
 | bad=>rw[hg]at q;exact q.elim
 | ex c p=>unfold qu at hg;split at hg <;> (try split at hg) <;> cases hg
 | ok d=>
  rw[hg] at q;unfold qu at hg;split at hg;rename_i ds es;split at hg;rename_i hc;cases hg;simp only[bR,aM9] at hc;refine bA qa.items fun p xs b8 h2 h3=>?_;obtain rfl:=b8;refine bA qb.items fun p' ys b8 GN h3'=>?_;obtain rfl:=b8;refine⟨p,p',xs,ys,rfl,rfl,h2,GN,?_,fun l hl=>q _ _ (cX hl) (.lst r (.refl _) hl ?_)⟩;rw[h3.len,h3'.len];have:5000<=cU:=by rw[gG];decide
  lia;exact(h3.app h3').part (.nw (.refl _)) _ (P7 hc.1.1 hc.1.2);cases hg;cases hg
def Kf:D->Option (List Int)
 | .tup ds=>ds.mapM fun d=>match d with | .int i=>some i|_=>none
 | _=>none
theorem Sm:∀{d:D} {ns:List Int},Kf d=some ns->d = .tup (ns.map D.int)
 | .tup ds,ns,h=>by
  rw[Kf]at h;congr 1;revert ns;induction ds with
  | nil=>intro ns h;simp at h;subst h;rfl
  | cons d ds ih=>
   intro ns h;rw[FI]at h;cases d with
   | int i=>
    dsimp only at h;cases hm:ds.mapM fun d=>match d with | .int i=>some i|_=>(none:Option Int)with
    | none=>rw[hm]at h;cases h
    | some ms=>rw[hm]at h;have h':i::ms=ns:=fq h;subst h';rw[bG,<- ih ms hm]
   | _=>cases h
def Az(ds:List D):Option (List (List Int)):=ds.mapM Kf
theorem DO:∀{ds:List D} {kQ:List (List Int)},Az ds=some kQ->ds=kQ.map fun ns=>.tup (ns.map D.int)
 | [],kQ,h=>by
  have h':some []=some kQ:=h;cases h';rfl
 | d::ds,kQ,h=>by
  unfold Az at h;rw[FI]at h;cases hd:Kf d with
  | none=>rw[hd]at h;cases h
  | some ns=>
   rw[hd]at h;cases hm:ds.mapM Kf with
   | none=>rw[hm]at h;cases h
   | some ms=>rw[hm]at h;have h':ns::ms=kQ:=fq h;subst h';rw[bG,<- DO (ds:=ds) hm,Sm hd]
def nt(kQ:List (List Int)):Bool:=match kQ with | []=>true|ns::_=>decide (ns.length≠0)&&kQ.all fun ms=>decide (ms.length=ns.length)
theorem DQ(h:nt kQ=true):Rows kQ:=by
 cases kQ with
 | nil=>exact⟨0,fun ns hm=>by cases hm⟩
 | cons ns kQ=>
  unfold nt at h;rw[bR]at h;have h1:ns.length≠0:=by simpa using h.1
  refine⟨ns.length-1,fun ms hm=>?_⟩;have:=f7.mp h.2 ms hm;have:ms.length=ns.length:=by simpa using this
  lia
def qv(ns:List Int):D:=.tup (ns.map D.int)
theorem Sn(ns:List Int):gJ (qv ns)=true:=by
 unfold qv;rw[gJ];exact gy fun d hd=>by refine aU (aO.mp hd) fun n _ b8=>?_;obtain rfl:=b8;rw[gJ] <;> simp
theorem Kg(kQ:List (List Int)):dS (kQ.map qv)=true:=gy fun d hd=>by
 refine aU (aO.mp hd) fun n _ b8=>?_;obtain rfl:=b8;exact Sn n
def aJ4:List D->R D:=fun ds=>match ds with
 | [.lst es]=>match Az es with
  | some kQ=>if(nt kQ&&decide (kQ.length<64))=true then .ok (.lst (eO es))else .bad
  | none=>.bad
 | _=>.bad
def dd{α:Type}[DecidableEq α]:List α->List α
 | []=>[]
 | x::xs=>if x∈xs then dd xs else x::dd xs
theorem vf[DecidableEq α]:∀{xs:List α},x∈dd xs↔x∈xs
 | []=>Iff.rfl
 | y::ys=>by
  rw[dd];split;rename_i h;rw[vf,bW];constructor;exact .inr;rintro(rfl|q);exact h;exact q;rw[bW,bW,vf]
theorem tL[DecidableEq α]:∀(xs:List α),(dd xs).Nodup
 | []=>.nil
 | y::ys=>by
  rw[dd];split;exact tL ys;rename_i h;exact l7.mpr ⟨fun q=>h (vf.mp q),tL ys⟩
def lQ:D->R D:=fun a=>match a with
 | .lst es=>match Az es with
  | some kQ=>if(nt kQ&&decide (kQ.length<=50))=true then .ok (.lst (eO ((dd kQ).map qv)))else .bad
  | none=>.bad
 | _=>.bad
theorem DR{es:List D}(hs:∀a∈ds,∀b∈ds,gZ a b=true)(hp:es.Perm ds):eO es=eO ds:=jB hs ((bZ es).trans hp) (jW es)
end
section
theorem X0:jU "set"=some (.type "set"):=by decide +kernel
theorem kY:jU "sorted"=some (.builtin "sorted"):=by decide +kernel
theorem P8(h:Rows kQ):∀a∈kQ.map qv,∀b∈kQ.map qv,gZ a b=true:=fun a ha b hb=>by
 obtain ⟨n,hn⟩:=h;refine aU (aO.mp ha) fun x hx b8=>?_;obtain rfl:=b8;refine aU (aO.mp hb) fun y hy b8=>?_;obtain rfl:=b8;unfold qv;rw[gZ];exact v8 (by rw[hn x hx,hn y hy])
theorem X3(l:List (List Int)):(dd l).length<=l.length:=by
 induction l with
 | nil=>exact bg _
 | cons x l ih=>rw[dd];split;exact Nat.le_succ_of_le ih;rw[dg,dg];lia
theorem Hl(hh:X.A.handled=none)(hu:X.A.units+64<cLine)(hm:X.mg "sorted"=none)(hm2:X.mg "set"=none)(he:PE X e (tD X.K C G0 Γ E f κ))(hg:Gl X "sorted":=by rfl)(hg2:Gl X "set":=by rfl)
  (h1:bN [Expr.Call (.Name "set" p2) [e] [] Sq] X.env=[(false,eval (.Call (.Name "set" p2) [e] [] Sq) X.env)]:=by rfl) (h2:bN [e] X.env=[(false,eval e X.env)]:=by rfl) :
  PE X (.Call (.Name "sorted" p1) [.Call (.Name "set" p2) [e] [] Sq] [] pos) (tD X.K C G0 Γ E (oz lQ f) .new):=by
 have P1:PE X (.Call (.Name "set" p2) [e] [] Sq) (VX (IU X C) (xZ (tD X.K C G0 Γ E f κ) Gv)):=ja (K2 hh hu) hg2 hm2 X0 (gU he jL h2) (by decide) (by decide) h2;have P2:PE X (.Call (.Name "sorted" p1) [.Call (.Name "set" p2) [e] [] Sq] [] pos) (VX (GZ X C) (xZ (VX (IU X C) (xZ (tD X.K C G0 Γ E f κ) Gv)) Gv)):=dX (C0 hh hu) hg hm kY (gU P1 jL h1) (by decide) (by decide) h1;refine P2.imp fun σ H Q kX=>kX.elim fun A qq=>qq.elim fun st uT=>uT.elim fun r q=>⟨A,st,r,?_⟩
 unfold oz R.bind at q;cases hf:f st with
 | bad=>rw[hf]at q;exact q
 | ex c p=>rw[hf]at q;exact q
 | ok d=>
  rw[hf] at q;dsimp only at q;intro v H1 e1 w1;show IU X C [v] H1 (fun x H2=>GZ X C [x] H2 Q);cases hg:lQ d with
  | bad=>rw[hg]at q;exact q.elim
  | ex c p=>unfold lQ at hg;split at hg <;> (try split at hg) <;> (try split at hg) <;> cases hg
  | ok d'=>
   rw[hg] at q;unfold lQ at hg;split at hg;rename_i es;split at hg;rename_i kQ hr;split at hg;rename_i hc;cases hg;simp only[bR,aM9] at hc;have he:=DO hr;have X4:=DQ hc.1;refine⟨v,kQ,rfl,by rw[<- he];exact w1.rep,hc.2,fun p zs hp GW nod mm=>?_⟩;have pz:(zs.map (·.1)).Perm (dd kQ):=(Bd nod (tL kQ)).mpr fun ns=>by rw[mm ns,vf]
   have hl:zs.length<=50:=by have h1:=pz.length_eq;rw[br]at h1;have:=X3 kQ;lia
   have hR:Rows (zs.map (·.1)):=by obtain⟨n,hn⟩:=X4;exact⟨n,fun ns h=>hn ns ((mm ns).mp h)⟩
   have e2:aI H1 (upd H1 p (.ext (OE X.prog X.w p zs))):=cX hp;refine⟨p,zs,rfl,bS,fun z hz=>aI.tup e2 (GW z hz),hl,hR,fun p' ws vB K8 zD NK=>?_⟩;have C4:=e1.trans e2;refine q _ _ (C4.trans (cX K8)) (.lst r C4 K8 ?_);have hs:eO (vB.map qv)=eO ((dd kQ).map qv):=DR (P8 (by obtain⟨n,hn⟩:=X4;exact⟨n,fun ns h=>hn ns (vf.mp h)⟩)) ((zD.trans pz).map _);have rw2:aQ X.K C (upd H1 p (.ext (OE X.prog X.w p zs))) (eO ((dd kQ).map qv)) ws:=by rw[<- hs];exact NK
   exact rw2.part (.nw C4) _ (gy fun d hd=>lN (Kg _) ((bZ _).mem_iff.mp hd));cases hg;cases hg;cases hg
def aL4(i:Nat)(fi f:DF):DS:=fun st=>match f st with
 | .ok d=>match st[i]? with
  | some (some (.lst ds))=>match fi st with
   | .ok (.int k)=>match Lo ds.length k with
    | some j=>.nx (st.set i (some (.lst (ds.set j d))))
    | none=>.bad
   | .ok _=>.bad
   | .ex c p=>.ex c p st
   | .bad=>.bad
  | _=>.bad
 | .ex c p=>.ex c p st
 | .bad=>.bad
def DT(i j:Nat)(fs:DA):DS:=fun st=>match fs st with | .ok [a,b]=>.nx ((st.set i (some a)).set j (some b)) | .ok _=>.bad | .ex c p=>.ex c p st | .bad=>.bad
theorem P9{kt k2 VI}(hc:X.calm=true)(hN:X.N.Nodup)(ha:PA X [a,b] (ER X.K C G0 Γ E fs .new))(nD:i≠j)(hk:Γ[i]?=some k:=by rfl)(hk':Γ[j]?=some k':=by rfl)
  (hl:k.takes .old=true:=by rfl) (Dv:k'.takes .old=true:=by rfl) (hi:X.N[i]?=some x:=by rfl) (hj:X.N[j]?=some y:=by rfl) (hx:X.env.scope.names.lookup x=some .local:=by rfl) (hy:X.env.scope.names.lookup y=some .local:=by rfl)
  (hw:swappedStores [.Tuple [.Name x px,.Name y py] kt pt] (.Tuple [a,b] k2 VI) X.env=pure (some [x,y]):=by rfl)
  (hs:swapsWithSole [.Tuple [.Name x px,.Name y py] kt pt] (.Tuple [a,b] k2 VI) pos.line X.env=pure false:=by rfl) :
  PS X (.Assign [.Tuple [.Name x px,.Name y py] kt pt] (.Tuple [a,b] k2 VI) pos) (oG X.K C G0 Γ E kG (DT i j fs)):=(VH hc hN hi hj nD hx hy ha hw hs).imp fun D σ H zz=>by
 refine dO zz fun A st r q=>?_;clear zz;refine⟨A,st,r,?_⟩;unfold DT at q;cases hf:fs st with
 | bad=>rw[hf]at q;exact q
 | ex c p=>rw[hf]at q;exact fun H' e'=>q σ H' A (r.mono e') (aL e')
 | ok ds=>
  rw[hf] at q;match ds,q with
  | [a,b],q=>intro vs H1 e1 w;rw[aQ]at w;obtain⟨v,r1,rfl,wa,w⟩:=w;obtain⟨v',rfl,wb⟩:=nj w;refine⟨v,v',rfl,?_⟩;have wa':Rep X.K C (er H1 A) a v:=wa.same (r.yv e1) _;have wb':Rep X.K C (er H1 A) b v':=wb.same (r.yv e1) _;refine cM ((r.mono e1).set (.refl _) hk hl (κ:=.old) wa') fun A1 s1 ee1 _=>?_;refine cM (s1.set (.refl _) hk' Dv (κ:=.old) (wb'.same ee1 _)) fun A2 s2 ee2 _=>?_;exact q _ _ A2 s2 (((aL e1).trans ee1).trans ee2)
  | [],q=>exact q.elim
  | [_],q=>exact q.elim
  | _::_::_::_,q=>exact q.elim
def AA(bind:DB)(f:DF):DS:=fun st=>match f st with | .ok d=>(match bind d st with|some st'=>.nx st'|none=>.bad) | .ex c p=>.ex c p st | .bad=>.bad
theorem Su{tg:bF}{g:TG}{bind:DB}(he:PE X e (tD X.K C G0 Γ E f κ))(l:κ.le .old=true)(hg:PG X tg g)(hB:qF X.K C G0 Γ g bind)(hs:swapsWithSole [tg] e pos.line X.env=pure false:=by rfl)(hw:swappedStores [tg] e X.env=pure none:=by rfl)
  (h1:(vq [tg] X.env).map (·.2)=[assign tg X.env]:=by rfl):PS X (.Assign [tg] e pos) (oG X.K C G0 Γ E kG (AA bind f)):=(NI he hg hs hw h1).imp fun D σ H zz=>by
 refine dO zz fun A st r q=>?_;clear zz;refine⟨A,st,r,?_⟩;unfold AA at q;cases hf:f st with
 | bad=>rw[hf]at q;exact q
 | ex c p=>rw[hf]at q;exact fun H' e'=>q σ H' A (r.mono e') (aL e')
 | ok d=>
  rw[hf] at q;dsimp only at q;intro v H1 e1 w;cases hb:bind d st with
  | none=>rw[hb]at q;exact q.elim
  | some st'=>rw[hb] at q;exact hB σ H1 A st st' d v _ (r.mono e1) (w.le r e1 (κ':=.old) l) hb fun dZ A' r' e' _=>q dZ H1 A' r' ((aL e1).trans e')
def zJ(X:Cx)(P:L2.St->Prop)(n:Nat)(e:bF):Prop:=∀(ak:List (ay×Obj)) (s:aA) (σ:L2.St) (H:Hp) (Q:av->aA->Prop) (Ex:av->aA->Prop),L2.Inv X ak σ H s->P σ->(∀x t s',L2.Inv X ak σ H s'->x.length<=n->Q (.str x t) s')->aB (aD X.prog X.w) X.A (eval e X.env) Q Ex s
theorem kZ{x:Str}{j}(h:x.length<=n:=by decide):zJ X P n (.Constant (.str x) j pos):=fun ak s σ H Q Ex I p q=>Calls.Constant_str (q _ _ _ (I.tok _) h)
theorem DU(hm:X.mg x=some (.int i t))(hs:i.natAbs.log2<1920)(hl:(toString i:Str).length<=n)(hg:Gl X x:=by rfl)(hd:(x==("__debug__" : Str))=false:=by decide):zJ X P n (.FormattedValue (.Name x p) (-1) none pos):=fun ak s σ H Q Ex I pp q=>
 FormattedValue_plain (sC I hg hm (formatField_int_small hs (q _ _ _ (I.tok _) hl)) hd)
end
end Dm
end aD1
section aD4
namespace Dm
open PySem PySem.Spec PyProof.Rows L2 PySem.W
def Sv(c:ay):Nat:=c+3
end Dm
end aD4
section aD5
namespace Dm
open PySem PySem.Spec PyProof.Rows L2
abbrev yG(X:Cx)(scope:iQ)(cl:List (Str×ay))(N':List Str)(fp:List ay)(s:aA)(H:Hp)(L:ay):Cx:=
 {X with N:=N',jr:=s,NB:=H,env:=compEnvC scope cl L X.env,outer:=X.stack,ex:=fp,fn:=fun _=>false,pn:=[],xe:=fun _ _=>False}
def Z1(X:Cx)(scope:iQ)(cl:List (Str×ay)):List (Nat×Str)->Prop
 | []=>True
 | (i,x)::r=>(X.N[i]?=some x/\X.env.kindOf x=some .cell/\cl.lookup x=X.env.cells.lookup x/\(relabel scope X.env).names.lookup x=some .cell)/\Z1 X scope cl r
theorem Z1.get:∀{l:List (Nat×Str)} {p:Nat×Str},Z1 X scope cl l->p∈l->X.N[p.1]?=some p.2/\X.env.kindOf p.2=some .cell/\cl.lookup p.2=X.env.cells.lookup p.2/\(relabel scope X.env).names.lookup p.2=some .cell
 | _::_,_,h,.head _=>h.1
 | _::_,_,h,.tail _ m=>h.2.get m
section
theorem X5(I:L2.Inv X ak σ H s)(hk:scope.kind = .function)(hL:s.heap.objs.size<=L)(Am:∀x c,cl.lookup x=some c->X.env.cells.lookup x=some c)(Kh:∀x,((relabel scope X.env).names.lookup x=some .cell\/(relabel scope X.env).names.lookup x=some .free)->∃c,cl.lookup x=some c)
  (hf:∀b∈fp,Bw X ak H b) (hfs:∀b∈fp,b<s.heap.objs.size):(yG X scope cl N' fp s H L).Ok where
 mod:=I.ok.mod
 kind:=hk
 glob:=I.ok.glob
 blt:=I.ok.blt
 above:=hL
 inj:=fun x y c h1 h2=>I.ok.inj x y c (Am _ _ h1) (Am _ _ h2)
 has:=Kh
 YD:=fun x c z=>(nomatch z)
 hd:=I.ok.hd
 frames:=I.ok.frames
 NC:=.inl rfl
 Zl:=fun b hb=>⟨dH (iS (hfs b hb) hL),fun x c h=>(hf b hb).2.2.2.2.1 x c (Am _ _ h)⟩
 bs:=I.bs
 QW:=cI I.ok.QW I.sz
 Jy:=fun b o e hb=>by
  rcases(hf b hb).2.2.2.1 with z|z;exact I.ok.Jy b o e z;exact aN6 (iS (cu e) (cI I.ok.QW z)) (sj _)
 Jz:=fun b hb z=>by
  rcases bW.mp (I.Gg b z)with e|e;exact(hf b hb).2.1 e;exact(hf b hb).2.2.1 e
 uO:=I.stack
 Uv:=I.Ie
def pM{α:Type}(k:Nat)(fr:List Nat)(σ:List (Option α)):List (Option α):=mG k none++fr.map fun i=>(σ[i]?).join
theorem DV(h:(pM k fr σ)[j]?=some (some v)):∃i,k<=j/\fr[j-k]?=some i/\σ[i]?=some (some v):=by
 unfold pM at h;by_cases hj:j<k;rw[kr (by simpa using hj),uy,aM4 hj]at h;cases h;rw[kq (by simpa using mE hj),Fw,di]at h;cases hi:fr[j-k]? with
 | none=>rw[hi]at h;cases h
 | some i=>
  rw[hi]at h;have h':(σ[i]?).join=some v:=fq h;refine⟨i,mE hj,rfl,?_⟩;cases hs:σ[i]? with
  | none=>rw[hs]at h';cases h'
  | some o=>rw[hs]at h';rw[show o=some v from h']
theorem Pa{fr:List Nat}{σ:List (Option α)}(hj:k<=j)(hi:fr[j-k]?=some i)(h:σ[i]?=some (some v)):(pM k fr σ)[j]?=some (some v):=by
 unfold pM;rw[kq (by simpa using hj),Fw,di,hi];show some ((σ[i]?).join)=_;rw[h];rfl
theorem Sw{s1:aA}{caps:List (Nat×Str)}(I:L2.Inv X ak σ H s)(ok:(yG X scope cl (gM++caps.map (·.2)) fp s H L).Ok)(Kl:Z1 X scope cl caps)(Am:∀x c,cl.lookup x=some c->X.env.cells.lookup x=some c)
  (ho:s1.os=s.os) (hb:AllBare s1.gens) (un:Un (xS X.stack) fp H H1 s.heap s1.heap) (kc:∀b o,s.heap.get? b=some o->s1.heap.get? b=some o) (hn:s1.heap.Ns L m) (hL:H1 L=none) (Ig:∀x c,cl.lookup x=some c->H1 c=none) (fE:rZ X.prog X.w H1 s1.heap) :
  L2.Inv (yG X scope cl (gM++caps.map (·.2)) fp s H L) [] (pM gM.length (caps.map (·.1)) σ) H1 s1:=by
 refine⟨ok,ho,hb,un,⟨m,hn,fun j x v h1 h2 h3=>?_⟩,fun x c h=>?_,hL,Ig,fun p hp=>(by cases hp),fE,(by unfold pM;simp)⟩;refine cM (DV h2) fun i hj hi hs=>?_;rw[kq hj,di]at h1;rw[di] at hi;cases hc:caps[j-gM.length]? with
 | none=>rw[hc]at h1;cases h1
 | some p=>rw[hc]at h1 hi;cases h1;cases hi;refine Ga (Kl.get (iM hc)) fun c1 c2 c3 c4=>?_;refine aU I.loc fun m0 hn0 WL=>?_;refine aU (WL p.1 p.2 v c1 hs (.inr (.inl c2))) fun u ru lk=>?_;refine⟨u,ru,.inr ⟨.inl c4,?_⟩⟩;rcases lk with⟨z,_⟩|⟨_,c,e1,e2⟩;rw[c2]at z;cases z;refine aU e2 fun o e3 e4=>?_;clear e2;exact⟨c,c3.trans e1,o,kc _ _ e3,e4⟩
 obtain⟨v,q⟩:=I.cell x c (Am _ _ h);refine aU q fun o e3 e4=>?_;clear q;exact⟨v,o,kc _ _ e3,e4⟩
end
abbrev yH:L2.St->XK:=fun _ _ _ _=>False
theorem wO(h:lH X yH e s):False:=by
 obtain⟨_,_,_,_,_,_,_,_,q,_⟩:=h;exact q
def j8(bind:DB)(test elt:DF):List D->ir->R (List D)
 | [],_=>.ok []
 | d::ds,st=>match bind d st with
  | none=>.bad
  | some k8=>match test k8 with
   | .ok (.bl true)=>(match elt k8 with
    | .ok e=>(match j8 bind test elt ds k8 with | .ok r=>.ok (e::r)|_=>.bad)
    | _=>.bad)
   | .ok (.bl false)=>j8 bind test elt ds k8
   | _=>.bad
def C5(Γ:List SK):Prop:=∀(i:Nat) (k:SK),Γ[i]?=some k->k=SK.par
section
variable {K:aE}{C:Cfg}{G0:Hp}{Γ:List SK}{σ:L2.St}{H:Hp}{A B:List ay}{st:ir}
theorem Hq(h:∀a∈B,a∈A):aI (er H A) (er H B):=fun b o e=>by
 by_cases ha:b∈A;rw[dD ha]at e;cases e;rw[aV ha]at e;rw[aV fun z=>ha (h b z)];exact e
theorem RS.ak1(r:RS K C G0 Γ σ H A st)(D8:C5 Γ)(sub:∀a∈B,a∈A):RS K C G0 Γ σ H B st where
 base:=r.base.trans (Hq sub)
 lists:=fun a m=>r.lists a (sub a m)
 len:=r.len
 slot:=fun i d h=>by
  refine bA (r.slot i d h) fun k v h1 h2 h3=>?_;obtain rfl:=D8 i k h1;exact⟨.par,v,h1,h2,Rep.same (Hq sub) _ h3⟩
 apart:=fun i j n m p ds es nD g1=>by have:=D8 i _ g1;cases this
 gl:=r.gl
theorem RS.X6(r:RS K C G0 Γ σ H A st)(D8:C5 Γ)(ha:a∈A):RS K C G0 Γ σ (upd H a (.lst ys)) A st:=by
 have ee:er (upd H a (.lst ys)) A=er H A:=by funext b;by_cases mb:b∈A;rw[dD mb,dD mb];rw[aV mb,aV mb,aW (fun z:b=a=>mb (by rw[z];exact ha))]
 refine⟨by rw[ee];exact r.base,fun b m=>?_,r.len,fun i d h=>?_,fun i j n m p ds es nD g1=>(by have:=D8 i _ g1;cases this),r.gl⟩;by_cases hb:b=a;subst hb;exact⟨_,bS,rfl⟩;rw[aW hb];exact r.lists b m;refine bA (r.slot i d h) fun k v h1 h2 h3=>?_;obtain rfl:=D8 i k h1;exact⟨.par,v,h1,h2,by show Rep K C (er _ A) d v;rw[ee];exact h3⟩
end
def part(n:Bool)(H2:Hp)(acc:ay)(B:List ay)(H:Hp):Hp:=if n=true then nw H2 (er H [acc])else er H (acc::B)
theorem qe(e:aI H H'):aI (part n H2 acc B H) (part n H2 acc B H'):=by
 unfold part;cases n;exact aL e;exact bO (aL e)
theorem Pb:part n H2 acc B (upd H acc o)=part n H2 acc B H:=by
 have e:∀A:List ay,acc∈A->er (upd H acc o) A=er H A:=fun A m=>by funext b;by_cases mb:b∈A;rw[dD mb,dD mb];rw[aV mb,aV mb,aW (fun z:b=acc=>mb (by rw[z];exact m))]
 unfold part;rw[e [acc] (.head _),e (acc::B) (.head _)]
theorem qf{ft:DF}:∀(ak:List (ay×Obj)) (s:aA) (σ:L2.St) (H:Hp) (Q:Bool->Hp->Prop),L2.Inv X ak σ H s->yw X.K C G0 Γ E (dC (.bl true)) σ H Q->
  aB (aD X.prog X.w) X.A (forIn ([]:List bF) true fun c r=>if r=true then do let ok <- isTrue c X.env (eval c X.env);pure (mJ ok)else pure (mJ r)) (TP X ak σ Q) X.xe s:=fun ak s σ H Q I kX=>kX.elim fun A qq=>qq.elim fun st uT=>uT.elim fun r q=>wpAny_tests_nil ⟨H,I,q H (.refl _)⟩
theorem qg(h:PT X c (yw X.K C G0 Γ E ft)):∀(ak:List (ay×Obj)) (s:aA) (σ:L2.St) (H:Hp) (Q:Bool->Hp->Prop),L2.Inv X ak σ H s->yw X.K C G0 Γ E ft σ H Q->
  aB (aD X.prog X.w) X.A (forIn [c] true fun c r=>if r=true then do let ok <- isTrue c X.env (eval c X.env);pure (mJ ok)else pure (mJ r)) (TP X ak σ Q) X.xe s:=fun ak s σ H Q I q=>wpAny_tests_one (h ak s σ H Q I q)
section
variable {X:Cx}{C:Cfg}{G0:Hp}{Γ:List SK}{tg iter elt:bF}{ifs:List bF}{scope:iQ}{pos:Pos}{fp:List ay}{it acc:ay}{tn:Nat->aY->Prop}{J:It}{g:TG}{bind:DB}{ft fe:DF}{tM:Kd}{n:Bool}{H2:Hp}{B:List ay}{ds total:List D}{R:Result->aA->Prop}
def yI(X:Cx)(C:Cfg)(G0:Hp)(Γ:List SK)(acc:ay)(bind:DB)(ft fe:DF)(n:Bool)(H2:Hp)(B:List ay)(ds total:List D)(i:Nat)(s:aA)(σ:L2.St)(H:Hp):Prop:=
 ∃st ys es,L2.Inv X [] σ H s/\H acc=some (.lst ys)/\RS X.K C G0 Γ σ H (acc::B) st/\aI H2 (er H [acc])/\(aQ X.K C (part n H2 acc B H) es ys/\(n=true->C1 X.K C H2 (part n H2 acc B H) es ys/\YX es ys))/\es.length<=i/\
  ∃rest,j8 bind ft fe (ds.drop i) st = .ok rest/\es++rest=total
theorem Km(T:Turn X.prog X.w X.K tg J fp it tn)(IY:X.calm=true)(hfp:∀b∈fp,b∈X.ex/\b≠X.env.locals/\b∉X.fs/\(∀x c,X.env.cells.lookup x=some c->c≠b))(hpn:X.pn=[])(D8:C5 Γ)(hJ:Ka X.K C B H2 J ds)(hB:qF X.K C G0 Γ g bind)(hG:PG (X.eX (lH X yH)) tg g)
  (hT:∀(ak:List (ay×Obj)) (s:aA) (σ:L2.St) (H:Hp) (Q:Bool->Hp->Prop),L2.Inv (X.eX (lH X yH)) ak σ H s->yw X.K C G0 Γ yH ft σ H Q->
   aB (aD X.prog X.w) X.A (forIn ifs true fun c r=>if r=true then do let ok <- isTrue c X.env (eval c X.env);pure (mJ ok)else pure (mJ r)) (TP (X.eX (lH X yH)) ak σ Q) (lH X yH) s)
  (hE:PE (X.eX (lH X yH)) elt (tD X.K C G0 Γ yH fe tM)) (hn:n=true->tM = .new) (xT:n=false->tM.le .old=true) (Hr:H2 acc=none) (lZ:ds.length<=5000)
  (fin:∀s σ H,yI X C G0 Γ acc bind ft fe n H2 B ds total ds.length s σ H->R (.ok .next) s) :
  ∀s σ H,yI X C G0 Γ acc bind ft fe n H2 B ds total 0 s σ H->tn 0 s.heap->(∀b∈fp,H b=none)->codeAny (aD X.prog X.w) X.A (.compLoop (.ListComp elt [⟨tg,iter,ifs,0⟩] scope pos) 0 (.ref it) (.ref acc) X.env) R s:=fun s0 σ0 H0 h0 t0 f0=>by
 refine codeAny_loop rfl (fun m s=>∃i σ H,m=ds.length-i/\i<=ds.length/\yI X C G0 Γ acc bind ft fe n H2 B ds total i s σ H/\tn i s.heap/\∀b∈fp,H b=none) (fun m s EO=>?_) ds.length ⟨0,σ0,H0,rfl,i7 _,h0,t0,f0⟩;refine Bs EO fun i σ H hm hi iv Z2 YE=>?_;clear EO;subst hm;show aB _ X.A ((compTurn (.ListComp elt [⟨tg,iter,ifs,0⟩] scope pos) 0 (.ref it) (.ref acc) X.env).onRaise (fun x=>do noteFrame x X.env;theTreesLotGoes x)) _ _ s;refine wpAny_noted ?_;rw[compTurn_list];obtain⟨st,ys,es,I,hH,r,e2,rp,hl,rest,oH,X7⟩:=id iv;have X8:∀{H':Hp},(∀b∈fp,H' b=none)->∀b∈fp,Bw X [] H' b:=fun hn b hb=>⟨hn b hb,(hfp b hb).2.1,(hfp b hb).2.2.1,.inl (hfp b hb).1,(hfp b hb).2.2.2,fun p hp=>by rw[hpn]at hp;cases hp⟩
 have hJi:=hJ i H (acc::B) (fun b o e=>by
  by_cases hb:b∈B;rw[dD hb]at e;cases e;rw[aV hb]at e;have z:=e2 b o e;by_cases ha:b=acc;subst ha;rw[Hr]at e;cases e;rw[aV (by simpa using ha)]at z;rw[aV (by simp[ha,hb])];exact z) (fun a m=>by obtain⟨xs,q,_⟩:=r.lists a m;rw[q];simp)
 cases hd:ds[i]? with
 | none=>have UT:=nM.mp hd;obtain rfl:i=ds.length:=Mb hi UT;refine ah (A0 (ah (iI (T.done X rfl rfl rfl IY _ [] s σ H _ I (X8 YE) Z2 (hJi.2 hd)) (fun rr s1 GB=>?_) fun _ _ h=>h)));obtain⟨hr,I1⟩:=GB;subst hr;exact aC (fin s1 σ H ⟨st,ys,es,I1,hH,r,e2,rp,hl,rest,oH,X7⟩)
 | some d=>
  have gr:i < ds.length:=(eL.mp hd).1;have hdr:ds.drop i=d::ds.drop (i+1):=by rw[uA gr];congr 1;exact(eL.mp hd).2
  rw[hdr,j8]at oH;obtain⟨go,yl⟩:=hJi.1 d hd;refine ah (A0 (ah (iI (T.item X rfl rfl rfl IY i [] s σ H _ I (X8 YE) Z2 go) (fun rr s1 Ir=>?_) fun _ _ h=>h)));refine aU Ir fun u hr h1=>?_;clear Ir;subst hr;refine ah (iI h1 (fun _ s3 Gi=>?_) fun _ _ h=>h);refine Gb Gi fun x H3 I3 rx hy tn3 fn3=>?_;clear Gi;obtain⟨e3,wx⟩:=yl x H3 hy;have I3p:=I3.pinned (X8 fn3) (T.obj _ _ tn3);cases hb:bind d st with
  | none=>rw[hb]at oH;cases oH
  | some k8=>
   rw[hb]at oH;dsimp only at oH;have r3:=r.mono e3;refine ah (iI (hG _ s3 σ H3 x u (fun Ly H4=>H4=H3/\∃A4,RS X.K C G0 Γ Ly H3 A4 k8/\∀a∈acc::B,a∈A4) (I3p.eX _) rx (hB σ H3 (acc::B) st k8 d x _ r3 wx hb fun Ly A4 r4 _ sb=>⟨rfl,A4,r4,sb⟩)) (fun _ s4 Ih=>?_) fun _ _ h=>(wO h).elim);obtain⟨Ly,H4,I4,hH4,A4,r4,sb⟩:=Ih;subst hH4;have r4':=r4.ak1 D8 sb;have hH3:H4 acc=some (.lst ys):=e3 _ _ hH;have again:∀{s9:aA} {σ9:L2.St} {H9:Hp},L2.Inv X ([]++xW fp s3.heap) σ9 H9 s9->yI X C G0 Γ acc bind ft fe n H2 B ds total (i+1) s9 σ9 H9->∃m,m<ds.length-i/\∃i' dZ H',m=ds.length-i'/\i'<=ds.length/\yI X C G0 Γ acc bind ft fe n H2 B ds total i' s9 dZ H'/\tn i' s9.heap/\∀b∈fp,H' b=none:=fun {s9 σ9 H9} I9 c9=>by refine⟨ds.length-(i+1),by lia,i+1,σ9,H9,rfl,gr,c9,T.keep _ _ _ tn3 fun b hb o e=>(I9.pin (b,o) (mY _ (mY _ (nP hb e)))).1,fun b hb=>?_⟩;refine aU (T.obj _ _ tn3 b hb) fun o e _=>?_;exact(I9.pin (b,o) (mY _ (mY _ (nP hb e)))).2.1
   have ep:aI H2 (er H4 [acc]):=e2.trans (aL e3);refine ah (iI (hT _ s4 Ly H4 (fun b H5=>aI H4 H5/\ft k8 = .ok (.bl b)) I4 ⟨acc::B,k8,r4',?_⟩) (fun ok s5 Ii=>Ii.elim fun H5 Bv=>Bv.elim fun I5 GC=>GC.elim fun e5 fE=>?_) fun _ _ h=>(wO h).elim);cases hf:ft k8 with
   | bad=>rw[hf]at oH;cases oH
   | ex c p=>rw[hf]at oH;cases oH
   | ok t=>
    rw[hf]at oH;cases t with
    | bl b=>exact fun H' e'=>⟨e',rfl⟩
    | _=>cases oH
   rw[fE]at oH;have ep5:=ep.trans (aL e5);cases ok with
   | false=>dsimp only at oH;exact aC ⟨rfl,again I5.jt ⟨k8,ys,es,(I5.jt).su (fun p hp=>by cases hp),e5 _ _ hH3,r4'.mono e5,ep5,⟨rp.1.same (qe (e3.trans e5)) _,fun z=>⟨(rp.2 z).1.mono (qe (e3.trans e5)),(rp.2 z).2⟩⟩,by lia,rest,oH,X7⟩⟩
   | true=>
    dsimp only at oH;cases hfe:fe k8 with
    | bad=>rw[hfe]at oH;cases oH
    | ex c p=>rw[hfe]at oH;cases oH
    | ok de=>
     rw[hfe]at oH;dsimp only at oH;refine ah (ah (iI (hE _ s5 Ly H5 (fun v H6=>aI H5 H6/\Val X.K C tM G0 (acc::B) H5 H6 de v) I5 ⟨acc::B,k8,r4'.mono e5,?_⟩) (fun ue s6 GD=>GD.elim fun v GF=>GF.elim fun H6 O3=>O3.elim fun I6 We=>We.elim fun rv Wf=>Wf.elim fun e6 wv=>?_) fun _ _ h=>(wO h).elim));rw[hfe];exact fun v H' e' w=>⟨e',w⟩
     have e56:=e5.trans e6;have hH6:H6 acc=some (.lst ys):=e56 _ _ hH3;have sn:aI (nw H5 H6) (nw H2 (er H6 [acc])):=fun b o z=>by
      unfold nw at z;split at z;rename_i kk;have hb:b≠acc:=fun w=>by subst w;rw[e5 _ _ hH3]at kk;cases kk
      show nw H2 (er H6 [acc]) b=_;unfold nw;rw[aM4 (nU (ep5.trans (aJ _ _)) kk),aV (by simpa using hb)];exact z;cases z
     have wp:Rep X.K C (part n H2 acc B H6) de v/\(n=true->lP X.K C H2 (part n H2 acc B H6) de v):=by
      cases n with
      | true=>obtain rfl:=hn rfl;exact⟨wv.1.same sn _,fun _=>(wv.2.early (ep5.trans (aJ _ _))).mono sn⟩
      | false=>exact⟨Val.le (r4'.mono e5) e6 (κ':=.old) (xT rfl) wv,fun z=>by cases z⟩
     refine ah (iI (jM (X:=X.eX (lH X yH)) _ s6 Ly H6 (.ref acc) [v] (.ref acc) [ue] (fun z H7=>H7=upd H6 acc (.lst (ys++[v]))) I6 rfl (.cons rv .nil) ⟨acc,ys,v,rfl,rfl,hH6,?_,rfl⟩) (fun _ s7 Wg=>Wg.elim fun z aD6=>aD6.elim fun H7 aD7=>aD7.elim fun I7w VF=>VF.elim fun _ hH7=>?_) fun _ _ h=>(wO h).elim);rw[rp.1.len];have:5001<=cU:=by rw[gG];decide
     lia;subst hH7;have I7:=I7w.jt;refine aC (aC ⟨rfl,again I7 ?_⟩);cases hgr:j8 bind ft fe (ds.drop (i+1)) k8 with
     | bad=>rw[hgr]at oH;cases oH
     | ex c p=>rw[hgr]at oH;cases oH
     | ok ak2=>
      rw[hgr]at oH;cases oH;refine⟨k8,ys++[v],es++[de],I7.su (fun p hp=>by cases hp),bS,((r4'.mono e56)).X6 D8 (.head _),?_,?_,by simp;lia,ak2,hgr,by simpa using X7⟩;have:er (upd H6 acc (.lst (ys++[v]))) [acc]=er H6 [acc]:=by funext b;by_cases mb:b∈[acc];rw[dD mb,dD mb];rw[aV mb,aV mb,aW (by simpa using mb)]
      rw[this];exact ep.trans (aL e56);rw[Pb];exact⟨(rp.1.same (qe (e3.trans e56)) _).app (.cons wp.1 .nil),fun z=>⟨((rp.2 z).1.mono (qe (e3.trans e56))).snoc rp.1.len (wp.2 z),(rp.2 z).2.snoc rp.1.len fun od j d' hj od' hv=>by
       subst z;obtain rfl:=hn rfl;obtain⟨a,ra,ga,_⟩:=wv.2.1 od;subst ra;obtain⟨b,rb,_,ob⟩:=((rp.2 rfl).1 j d' _ hj hv).1 od';cases rb;obtain⟨o,q,_⟩:=ob.R9;have q:nw H2 (er H [acc]) a=some o:=q;have:=(e3.trans e5) _ _ (aJ _ _ _ _ (cz _ _ _ _ q));rw[ga]at this;cases this⟩⟩
end
def zB(z:Bool)(A:List ay):List ay:=if z=true then A else []
def Lz(K:aE)(C:Cfg)(G0:Hp)(Γ:List SK)(E:L2.St->XK)(z:Bool)(gi:DI):TI:=fun σ H Rr=>∃A st,RS K C G0 Γ σ H A st/\match gi st with
 | .ok ds=>∀J H',aI H H'->Ka K C (zB z A) H' J ds->Rr J H'
 | .ex c p=>∀H',aI H H'->IV (E σ) c p H'
 | .bad=>False
theorem _root_.L2.PI.imp(h:PI X tg e t)(i:∀σ H Q,t' σ H Q->t σ H Q):PI X tg e t':=fun ak s σ H Q I q=>h ak s σ H Q I (i σ H Q q)
section
theorem Pc:∀a∈zB z A,a∈A:=fun a h=>by unfold zB at h;cases z with|true=>exact h|false=>cases h
theorem tN(he:PE X iter (tD X.K C G0 Γ E f κ))(l:z=true->κ.le .old=true):PI X tg iter (Lz X.K C G0 Γ E z (gu f)):=(Il he).imp fun σ H Q zz=>by
 refine dO zz fun A st r q=>?_;clear zz;refine⟨A,st,r,?_⟩;unfold gu at q;cases hf:f st with
 | bad=>rw[hf]at q;exact q
 | ex c p=>rw[hf]at q;exact q
 | ok d=>
  rw[hf] at q;cases d with
  | lst ds=>
   dsimp only at q;intro v H1 e1 w;have w':Rep X.K C (er H1 (zB z A)) (.lst ds) v:=by
    unfold zB;cases z with
    | true=>exact w.le r e1 (κ':=.old) (l rfl)
    | false=>rw[aM5 (by decide),mS];exact w.rep
   rw[Rep] at w';refine bA w' fun a xs b8 h2 h3=>?_;clear w';obtain rfl:=b8;refine⟨a,rfl,⟨xs,(aJ _ _).seq h2⟩,q _ _ e1 fun i H3 A3 e3 _=>⟨fun d hd=>?_,fun hd=>?_⟩⟩;refine aU (h3.get' hd) fun v hv rv=>?_;have s3:lB X.K H3 a xs:=(e3.trans (aJ _ _)).seq h2;refine⟨⟨xs,v,s3,hv⟩,fun x H' kX=>?_⟩;obtain ⟨hH,hx⟩:=kX;subst hH;have:=hx xs s3;rw[hv] at this;cases this;exact⟨.refl _,rv.same ((aJ _ _).trans e3) _⟩;exact⟨xs,(e3.trans (aJ _ _)).seq h2,by rw[h3.len];exact nM.mp hd⟩
  | _=>exact q.elim
theorem DW(I:L2.Inv X ak σ H s)(hH:H L=none)(hL:L≠X.env.locals)(hS:X.jr.heap.objs.size<=L)(hc:∀x c,X.env.cells.lookup x=some c->c≠L)(hp:∀p∈X.pn++ak,p.1≠L)(hs:i6 L s.heap h'):L2.Inv X ak σ H {s with heap:=h'}:=by
 have kp:∀b o,b≠L->s.heap.get? b=some o->h'.get? b=some o:=fun b o hb e=>(hs.2 b hb).trans e;refine Inv.CQ I (s':={s with heap:=h'}) (ch:=[L]) rfl ⟨fun b o e n nf nx=>kp b o (by simpa using nx) e,fun b o e n nf nx=>⟨o.slots,kp b o (by simpa using nx) e⟩,fun b o e n nx=>n,fun b o e nx=>⟨o,kp b o (by simpa using nx) e⟩,fun b xs q=>q,fun b o u q=>q,fun _ _ _ e=>e⟩ (fun b u e=>?_) I.bare (fun b hb=>?_);refine(I.fE b u e).zA (fun c v w9 q=>kp c v ?_ q) (fun _ q=>q) (fun _ _ q=>q) fun _ zo _ q=>q;rintro rfl;rcases w9 with rfl | w9;rw[hH]at e;cases e;rw[hH]at w9;cases w9;obtain rfl:b=L:=by simpa using hb
 exact⟨.inr hS,hL,hc,hp⟩
end
section
variable {X:Cx}{C:Cfg}{G0:Hp}{Γ:List SK}{E0:av->aA->Prop}{ak:List (ay×Obj)}{σ:L2.St}{H2:Hp}{s2:aA}{A:List ay}{st:ir}{tg iter elt:bF}{ifs:List bF}{scope:iQ}{cl:List (Str×ay)}{pos:Pos}{fp:List ay}{it:ay}{tn:Nat->aY->Prop}{J:It}{g:TG}{bind:DB}{ft fe:DF}{tM:Kd}{n z:Bool}{ds total:List D}{gM:List Str}{caps:List (Nat×Str)}{RR:av->ay->Result->aA->Prop}
def qG(m:Nat):List SK:=mG m .par
theorem AB(m:Nat):C5 (qG m):=fun i k h=>by unfold qG at h;rw[uy]at h;split at h <;> cases h;rfl
structure yJ(X:Cx)(C:Cfg)(ak:List (ay×Obj))(σ:L2.St)(n:Bool)(H2:Hp)(B:List ay)(total:List D)(acc L:ay)(s':aA)(H':Hp)(ys:List V):Prop where
 inv:L2.Inv X ak σ H' s'
 ns:∃m,s'.heap.Ns L m
 hL:H' L=none
 lL:L≠X.env.locals
 sL:X.jr.heap.objs.size<=L
 cL:∀x c,X.env.cells.lookup x=some c->c≠L
 pL:∀p∈X.pn++ak,p.1≠L
 new:H2 acc=none
 at':H' acc=some (.lst ys)
 same:aI H2 (er H' [acc])
 X9:aQ X.K C (part n H2 acc B H') total ys/\(n=true->C1 X.K C H2 (part n H2 acc B H') total ys/\YX total ys)
theorem yK(I2:L2.Inv X ak σ H2 s2)(IY:X.calm=true)(r2:RS X.K C G0 Γ σ H2 A st)(T:Turn X.prog X.w X.K tg J fp it tn)(Z2:tn 0 s2.heap)(hf:∀b∈fp,Bw X ak H2 b)(hJ:Ka X.K C (zB z A) H2 J ds)(hz:z=true->∀p∈caps,Γ[p.1]?=some .par\/Γ[p.1]?=some .loc)
  (oH:j8 bind ft fe ds (pM gM.length (caps.map (·.1)) st) = .ok total) (lZ:ds.length<=5000) (hk:scope.kind = .function) (xU:∀y∈scope.names,y.2≠ .cell) (Am:∀x c,cl.lookup x=some c->X.env.cells.lookup x=some c)
  (Kh:∀x,((relabel scope X.env).names.lookup x=some .cell\/(relabel scope X.env).names.lookup x=some .free)->∃c,cl.lookup x=some c) (Kl:Z1 X scope cl caps)
  (hB:qF X.K C G0 (qG (gM.length+caps.length)) g bind)
  (hG:∀s H L,PG ((yG X scope cl (gM++caps.map (·.2)) fp s H L).eX (lH (yG X scope cl (gM++caps.map (·.2)) fp s H L) yH)) tg g)
  (hT:∀s0 H0 L (ak:List (ay×Obj)) (s:aA) (σ:L2.St) (H:Hp) (Q:Bool->Hp->Prop),L2.Inv ((yG X scope cl (gM++caps.map (·.2)) fp s0 H0 L).eX (lH (yG X scope cl (gM++caps.map (·.2)) fp s0 H0 L) yH)) ak σ H s->yw X.K C G0 (qG (gM.length+caps.length)) yH ft σ H Q->
   aB (aD X.prog X.w) X.A (forIn ifs true fun c r=>if r=true then do let ok <- isTrue c (compEnvC scope cl L X.env) (eval c (compEnvC scope cl L X.env));pure (mJ ok)else pure (mJ r)) (TP ((yG X scope cl (gM++caps.map (·.2)) fp s0 H0 L).eX (lH (yG X scope cl (gM++caps.map (·.2)) fp s0 H0 L) yH)) ak σ Q) (lH (yG X scope cl (gM++caps.map (·.2)) fp s0 H0 L) yH) s)
  (hE:∀s H L,PE ((yG X scope cl (gM++caps.map (·.2)) fp s H L).eX (lH (yG X scope cl (gM++caps.map (·.2)) fp s H L) yH)) elt (tD X.K C G0 (qG (gM.length+caps.length)) yH fe tM)) (hn:n=true->tM = .new) (xT:n=false->tM.le .old=true)
  (hRR:∀acc L s' H' ys,yJ X C ak σ n H2 (zB z A) total acc L s' H' ys->RR (.ref acc) L (.ok .next) s') :
  aB (aD X.prog X.w) X.A (newList []) (fun acc aD8=>aB (aD X.prog X.w) X.A (newFunctionEnv scope X.env.globals cl [] X.env.qual none .none (some X.env)) (fun ak4 aD9=>
   codeAny (aD X.prog X.w) X.A (.compStart (.ListComp elt [⟨tg,iter,ifs,0⟩] scope pos) 0 (.ref it) acc {ak4 with scope:=relabel scope X.env}) (RR acc ak4.locals) aD9) E0 aD8) E0 s2:=by
 refine ou (wpAny_newFunctionEnv xU (by intro y hy;simp at hy) (fun Kn Hs C6=>?_) hk);dsimp only at Hs C6 ⊢;generalize hH2:s2.heap.push {cls:=.type "list",dict:=none,data:=.seq ([]:List av).toArray}=G2 at Hs C6 ⊢;have hC:G2.objs.size=s2.heap.objs.size+1:=by rw[<- hH2,A8]
 have hDC:s2.heap.objs.size≠G2.objs.size:=by rw[hC];exact dH (A9 _)
 have below:∀b,b<s2.heap.objs.size->b≠G2.objs.size/\b≠s2.heap.objs.size:=fun b hb=>⟨by rw[hC];exact dH (xm hb),dH hb⟩
 have old:∀b o,s2.heap.get? b=some o->Kn.get? b=some o:=fun b o e=>C6.extBut b o (below b (cu e)).1 (bU _ (hH2▸bU _ e));have Hr:Kn.get? s2.heap.objs.size=some {cls:=.type "list",data:=.seq ([]:List av).toArray 0}:=C6.extBut _ _ hDC (bU _ (hH2▸eV _ rfl));have Ko:H2 s2.heap.objs.size=none:=I2.fE.fresh (bg _);have Xa:s2.heap.objs.size<=G2.objs.size:=by rw[hC];exact xh _
 have nL:H2 G2.objs.size=none:=I2.fE.fresh Xa;have hfs:∀b∈fp,b<s2.heap.objs.size:=fun b hb=>by obtain⟨o,e,_⟩:=T.obj _ _ Z2 b hb;exact cu e
 have ok:=X5 (N':=gM++caps.map (·.2)) (L:=G2.objs.size) I2 hk Xa Am Kh hf hfs;have un:Un (xS X.stack) fp H2 (upd H2 s2.heap.objs.size (.lst [])) s2.heap Kn:=Un.laid old (bg _) Ko;have fE:rZ X.prog X.w (upd H2 s2.heap.objs.size (.lst [])) Kn:=I2.fE.laid old (bg _) ⟨i7 _,[],0,.nil,Hr⟩;have inn:L2.Inv (yG X scope cl (gM++caps.map (·.2)) fp s2 H2 G2.objs.size) [] (pM gM.length (caps.map (·.1)) σ) (upd H2 s2.heap.objs.size (.lst [])) {s2 with heap:=Kn,toks:=s2.toks+([]:List (Str×av)).length}:=by
  refine Sw I2 ok Kl Am rfl I2.bare un old Hs (by rw[aW (eU hDC)];exact nL) (fun x c h=>?_) fE;have hc:=I2.qA x c (Am _ _ h);have Ls:c≠s2.heap.objs.size:=fun w=>by obtain⟨v,q⟩:=I2.cell x c (Am _ _ h);exact aN6 q.lt (by rw[w];exact sj _)
  rw[aW Ls];exact hc
 have e2:aI H2 (upd H2 s2.heap.objs.size (.lst [])):=cX Ko;have ee:aI H2 (er (upd H2 s2.heap.objs.size (.lst [])) [s2.heap.objs.size]):=fun b o e=>by
  have:b≠s2.heap.objs.size:=fun w=>by rw[w,Ko] at e;cases e
  rw[aV (by simpa using this)];exact e2 b o e
 have eB:aI (er H2 (zB z A)) (er (upd H2 s2.heap.objs.size (.lst [])) (s2.heap.objs.size::zB z A)):=fun b o e=>by
  by_cases mb:b∈zB z A;rw[dD mb]at e;cases e;rw[aV mb]at e;have:b≠s2.heap.objs.size:=fun w=>by rw[w,Ko] at e;cases e
  rw[aV (by simp[this,mb])];exact e2 b o e
 have rin:RS X.K C G0 (qG (gM.length+caps.length)) (pM gM.length (caps.map (·.1)) σ) (upd H2 s2.heap.objs.size (.lst [])) (s2.heap.objs.size::zB z A) (pM gM.length (caps.map (·.1)) st):=by
  refine⟨(r2.base.trans (Hq Pc)).trans eB,fun a m=>?_,by unfold pM;simp,fun j d h=>?_,fun i j n' m' p Hf es nD g1=>(by have:=AB _ i _ g1;cases this),r2.gl⟩;rcases bW.mp m with rfl | m;exact⟨_,bS,rfl⟩;obtain⟨o,q,hM⟩:=r2.lists a (Pc a m);exact⟨o,e2 _ _ q,hM⟩;refine cM (DV h) fun i hj hi hs=>?_;refine bA (r2.slot i d hs) fun k v h1 h2 h3=>?_;have gr:j-gM.length<caps.length:=by have:=(eL.mp hi).1;simpa using this
  refine⟨.par,v,?_,Pa hj hi h2,?_⟩;unfold qG;rw[uy,aM4 (by lia)];refine Rep.same eB _ ?_;refine aU (r2.read h1 hs) fun v' w1 w2=>?_;rw[h2]at w1;cases w1;unfold zB;cases z with
  | false=>rw[aM5 (by decide),mS];exact w2.rep
  | true=>
   rw[di] at hi;cases hc:caps[j-gM.length]? with
   | none=>rw[hc]at hi;cases hi
   | some p=>rw[hc]at hi;cases hi;rcases hz rfl p (iM hc)with q|q;rw[h1]at q;cases q;exact h3;rw[h1]at q;cases q;exact h3.1.same (cz _ _) _
 have loop:∀s3:aA,s3={s2 with heap:=Kn,toks:=s2.toks+([]:List (Str×av)).length}->
   codeAny (aD X.prog X.w) X.A (.compLoop (.ListComp elt [⟨tg,iter,ifs,0⟩] scope pos) 0 (.ref it) (.ref s2.heap.objs.size) (compEnvC scope cl G2.objs.size X.env)) (RR (.ref s2.heap.objs.size) G2.objs.size) s3:=by
  rintro s3 rfl
  refine Km (X:=yG X scope cl (gM++caps.map (·.2)) fp s2 H2 G2.objs.size) (C:=C) (G0:=G0) (B:=zB z A) (H2:=H2) (total:=total) T IY (fun b hb=>⟨hb,(ok.Zl b hb).1,ok.Jz b hb,(ok.Zl b hb).2⟩) rfl (AB _) hJ hB (hG _ _ _) (hT _ _ _) (hE _ _ _) hn xT Ko lZ
   (fun s' dZ H' uT=>uT.elim fun st' EO=>EO.elim fun ys GB=>GB.elim fun es Ir=>Ir.elim fun I' Gi=>Gi.elim fun hy Ih=>Ih.elim fun r' Ii=>Ii.elim fun e' Bv=>Bv.elim fun rp GC=>GC.elim fun hl GD=>GD.elim fun rest GF=>GF.elim fun hg ht=>?_) _ _ _ ⟨_,[],[],inn,bS,rin,ee,⟨.nil,fun _=>⟨fun j d v h=>(by cases h),fun j k d d' v _ h=>(by cases h)⟩⟩,i7 _,total,by simpa using oH,rfl⟩ (T.keep _ _ _ Z2 fun b hb o e=>old b o e) (fun b hb=>by rw[aW (below b (hfs b hb)).2];exact(hf b hb).1)
  have hr:rest=[]:=by
   rw[B9]at hg
   exact(R.ok.inj hg).symm
  subst hr
  rw[ko]at ht
  subst ht
  have aE0:L2.Inv X ak σ H' s':=Inv.CQ I2 I'.os I'.base I'.fE I'.bare fun b hb=>⟨(hf b hb).2.2.2.1,(hf b hb).2.1,(hf b hb).2.2.2.2.1,(hf b hb).2.2.2.2.2⟩
  refine hRR _ _ s' H' ys ⟨aE0,I'.loc.imp fun m h=>h.1,I'.free,?_,cI I2.sz Xa,fun x c h w=>?_,fun p hp w=>?_,Ko,hy,e',rp⟩
  ·exact eU (below _ I2.lt).1
  ·obtain⟨v,q⟩:=I2.cell x c h
   exact(below _ q.lt).1 w
  ·exact(below _ (cu (I2.pin p hp).1)).1 w
 exact codeAny_compStart_list (loop _ rfl) (T.self X.A 0 _ _ _ (T.keep _ _ _ Z2 fun b hb o e=>old b o e) (loop _ rfl))
end
def vM(z n:Bool):Kd:=if n=true then .new else if z=true then .vL else .aZ
def gq(gi:DI)(k:Nat)(fr:List Nat)(bind:DB)(ft fe:DF):DF:=fun st=>match gi st with
 | .ok ds=>if ds.length<=5000 then(match j8 bind ft fe ds (pM k fr st)with | .ok es=>.ok (.lst es)|_=>.bad)else .bad
 | .ex c p=>.ex c p
 | .bad=>.bad
section
variable {X:Cx}{C:Cfg}{G0:Hp}{Γ:List SK}{E:L2.St->XK}{kG:Option Bool}{tg iter elt:bF}{ifs:List bF}{scope:iQ}{cl:List (Str×ay)}{pos:Pos}{g:TG}{bind:DB}{gi:DI}{ft fe:DF}{tM:Kd}{n z:Bool}{gM:List Str}{caps:List (Nat×Str)}
theorem yJ.val{ak:List (ay×Obj)}{σ:L2.St}{H H2:Hp}{A:List ay}{total:List D}{acc L:ay}{s':aA}{H':Hp}{ys:List V}{st:ir}(b:yJ X C ak σ n H2 (zB z A) total acc L s' H' ys)(r:RS X.K C G0 Γ σ H A st)(e:aI H H2):aI H H'/\Val X.K C (vM z n) G0 A H H' (.lst total) (.ref acc)/\(n=true->wg X.K C H (nw H H') (.lst total) (.ref acc)):=by
 have e2:aI H2 H':=b.same.trans (aJ _ _);have eH:=e.trans e2;refine⟨eH,?_,fun z ds w=>?_⟩;rotate_left;subst z;cases w;refine⟨acc,ys,rfl,by rw[lK (e.free b.new)];exact b.at',fun j d v h1 h2=>(((b.X9.2 rfl).1 j d v h1 h2).early e).mono fun c o z=>?_,(b.X9.2 rfl).2⟩;unfold part at z;rw[aM4 rfl] at z;by_cases hc:c=acc;subst hc;have:=cz _ _ _ _ z;rw[dD (.head _)] at this;cases this;rw[aV (by simpa using hc)];exact nV e _ _ (bO (aJ _ _) _ _ z);have h0:H acc=none:=e.free b.new;have rp:=b.X9.1;unfold vM;cases n with
 | true=>
  rw[aM4 rfl];have R0:aQ X.K C (er (nw H H') [acc]) total ys:=rp.same (fun c o z=>by
   unfold part at z;rw[aM4 rfl] at z;by_cases hc:c=acc;subst hc;have:=cz _ _ _ _ z;rw[dD (.head _)] at this;cases this;rw[aV (by simpa using hc)];exact nV e _ _ (bO (aJ _ _) _ _ z)) _
  have ha:nw H H' acc=some (.lst ys):=by rw[lK h0];exact b.at'
  exact⟨by rw[Rep];exact⟨acc,ys,rfl,.of ha,R0⟩,⟨fun _=>⟨acc,rfl,h0,ys,ha,R0⟩,.not rfl⟩⟩
 | false=>
  rw[aM5 (by decide)];cases z with
  | true=>
   rw[aM4 rfl];have hA:acc∉A:=fun m=>by obtain⟨xs,q,_⟩:=r.lists acc m;rw[h0]at q;cases q
   have R0:aQ X.K C (er (er H' A) [acc]) total ys:=rp.same (fun c o z=>by
    unfold part zB at z;rw[aM5 (by decide),aM4 rfl]at z;by_cases hc:c∈acc::A;rw[dD hc]at z;cases z;rw[aV hc]at z;have h1:c≠acc:=fun w=>hc (by rw[w];exact .head _);have h2:c∉A:=fun w=>hc (.tail _ w);rw[aV (by simpa using h1),aV h2];exact z) _
   have ha:er H' A acc=some (.lst ys):=by rw[aV hA];exact b.at'
   exact⟨by rw[Rep];exact⟨acc,ys,rfl,.of ha,R0⟩,⟨fun _=>⟨acc,rfl,h0,ys,ha,R0⟩,.not rfl⟩⟩
  | false=>rw[aM5 (by decide)];show Rep X.K C H' _ _;rw[Rep];refine⟨acc,ys,rfl,.of b.at',rp.same (fun c o z=>?_) _⟩;unfold part zB at z;rw[aM5 (by decide),aM5 (by decide)]at z;exact z
structure IZ(X:Cx)(C:Cfg)(G0:Hp)(Γ:List SK)(tg elt:bF)(ifs:List bF)(scope:iQ)(cl:List (Str×ay))(g:TG)(bind:DB)(ft fe:DF)(tM:Kd)(n z:Bool)(gM:List Str)(caps:List (Nat×Str)):Prop where
 calm:X.calm=true
 hk:scope.kind = .function
 xU:∀y∈scope.names,y.2≠ .cell
 Am:∀x c,cl.lookup x=some c->X.env.cells.lookup x=some c
 Kh:∀x,((relabel scope X.env).names.lookup x=some .cell\/(relabel scope X.env).names.lookup x=some .free)->∃c,cl.lookup x=some c
 V4:closureFor scope X.env=pure cl
 Pe:∀y∈scope.names,y.2 = .local->scope.names.lookup y.1=some .local
 Kl:Z1 X scope cl caps
 hz:z=true->∀p∈caps,Γ[p.1]?=some .par\/Γ[p.1]?=some .loc
 hB:qF X.K C G0 (qG (gM.length+caps.length)) g bind
 hG:∀fp s H L,PG ((yG X scope cl (gM++caps.map (·.2)) fp s H L).eX (lH (yG X scope cl (gM++caps.map (·.2)) fp s H L) yH)) tg g
 hT:∀fp s0 H0 L (ak:List (ay×Obj)) (s:aA) (σ:L2.St) (H:Hp) (Q:Bool->Hp->Prop),L2.Inv ((yG X scope cl (gM++caps.map (·.2)) fp s0 H0 L).eX (lH (yG X scope cl (gM++caps.map (·.2)) fp s0 H0 L) yH)) ak σ H s->yw X.K C G0 (qG (gM.length+caps.length)) yH ft σ H Q->
   aB (aD X.prog X.w) X.A (forIn ifs true fun c r=>if r=true then do let ok <- isTrue c (compEnvC scope cl L X.env) (eval c (compEnvC scope cl L X.env));pure (mJ ok)else pure (mJ r)) (TP ((yG X scope cl (gM++caps.map (·.2)) fp s0 H0 L).eX (lH (yG X scope cl (gM++caps.map (·.2)) fp s0 H0 L) yH)) ak σ Q) (lH (yG X scope cl (gM++caps.map (·.2)) fp s0 H0 L) yH) s
 hE:∀fp s H L,PE ((yG X scope cl (gM++caps.map (·.2)) fp s H L).eX (lH (yG X scope cl (gM++caps.map (·.2)) fp s H L) yH)) elt (tD X.K C G0 (qG (gM.length+caps.length)) yH fe tM)
 hn:n=true->tM = .new
 xT:n=false->tM.le .old=true
def tDc(K:aE)(C:Cfg)(G0:Hp)(Γ:List SK)(E:L2.St->XK)(f:DF)(z n:Bool):TE:=fun σ H Q=>∃A st,RS K C G0 Γ σ H A st/\match f st with
 | .ok d=>∀v H',aI H H'->Val K C (vM z n) G0 A H H' d v/\(n=true->wg K C H (nw H H') d v)->Q v H'
 | .ex c p=>∀H',aI H H'->IV (E σ) c p H'
 | .bad=>False
theorem DZ(yL:PI X tg iter (Lz X.K C G0 Γ E z gi))(b:IZ X C G0 Γ tg elt ifs scope cl g bind ft fe tM n z gM caps)(hs:∀x,qy iter X.env x=pure x:=by intro _;rfl) :
  PE X (.ListComp elt [⟨tg,iter,ifs,0⟩] scope pos) (tDc X.K C G0 Γ E (gq gi gM.length (caps.map (·.1)) bind ft fe) z n):=fun ak s σ H Q I zz=>by
 refine dO zz fun A st r q=>?_;clear zz;rw[eval_ListComp];unfold gq at q;refine LQ (use:=none) rfl hs b.V4 b.hk b.Pe (iI (yL ak s σ H (fun J H'=>∃ds total,aI H H'/\Ka X.K C (zB z A) H' J ds/\ds.length<=5000/\j8 bind ft fe ds (pM gM.length (caps.map (·.1)) st) = .ok total/\∀v H',aI H H'->Val X.K C (vM z n) G0 A H H' (.lst total) v/\(n=true->wg X.K C H (nw H H') (.lst total) v)->Q v H') I ⟨A,st,r,?_⟩) (fun xv s1 h1=>iI h1 (fun itv s2 h2=>?_) fun _ _ e=>e) fun _ _ e=>e);cases hg:gi st with
 | bad=>rw[hg]at q;exact q
 | ex c p=>rw[hg]at q;exact q
 | ok ds=>
  rw[hg] at q;dsimp only at q;by_cases hl:ds.length<=5000;rw[aM4 hl] at q;cases hc:j8 bind ft fe ds (pM gM.length (caps.map (·.1)) st)with
  | bad=>rw[hc]at q;exact q.elim
  | ex c p=>rw[hc]at q;exact q.elim
  | ok total=>rw[hc]at q;exact fun J H' e' hJ=>⟨ds,total,e',hJ,hl,hc,q⟩
  rw[aM5 hl] at q;exact q.elim
 obtain⟨it,fp,tn,J,H2,rfl,I2,T,t0,f0,ds,total,e2,hJ,hl,oH,hq⟩:=h2;refine yK (RR:=fun acc L=>compPost (aD X.prog X.w) X.A X.xe none (EP X ak σ Q) acc L) I2 b.calm (r.mono e2) T t0 f0 hJ b.hz oH hl b.hk b.xU b.Am b.Kh b.Kl b.hB (b.hG fp) (b.hT fp) (b.hE fp) b.hn b.xT fun acc L s' H' ys be=>?_;obtain⟨e',w⟩:=be.val r e2;obtain ⟨m,hm⟩:=be.ns;exact⟨m,hm,fun h' hsb=>⟨.ref acc,H',DW be.inv be.hL be.lL be.sL be.cL be.pL hsb,rfl,hq _ _ e' w⟩⟩
theorem Sx(yL:PI X tg iter (Lz X.K C G0 Γ E z gi))(b:IZ X C G0 Γ tg elt ifs scope cl g bind ft fe tM n z gM caps)(hs:∀x,qy iter X.env x=pure x:=by intro _;rfl) :
  PE X (.ListComp elt [⟨tg,iter,ifs,0⟩] scope pos) (tD X.K C G0 Γ E (gq gi gM.length (caps.map (·.1)) bind ft fe) (vM z n)):=(DZ yL b hs).imp fun σ H Q zz=>by
 obtain ⟨A,st,r,q⟩:=zz;refine⟨A,st,r,?_⟩;cases hf:gq gi gM.length (caps.map (·.1)) bind ft fe st with
 | bad=>rw[hf]at q;exact q
 | ex c p=>rw[hf]at q;exact q
 | ok d=>rw[hf]at q;exact fun v H' e w=>q v H' e w.1
theorem Pf(yL:PI X tg iter (Lz X.K C G0 Γ E z gi))(b:IZ X C G0 Γ tg elt ifs scope cl g bind ft fe tM true z gM caps)(hs:∀x,qy iter X.env x=pure x:=by intro _;rfl) :
  PE X (.ListComp elt [⟨tg,iter,ifs,0⟩] scope pos) (V2 X.K C G0 Γ E (gq gi gM.length (caps.map (·.1)) bind ft fe)):=(DZ yL b hs).imp fun σ H Q zz=>by
 obtain ⟨A,st,r,q⟩:=zz;refine⟨A,st,r,?_⟩;cases hf:gq gi gM.length (caps.map (·.1)) bind ft fe st with
 | bad=>rw[hf]at q;exact q
 | ex c p=>rw[hf]at q;exact q
 | ok d=>rw[hf]at q;exact fun v H' e w=>q v H' e ⟨w.1,w.2 rfl⟩
theorem Sy{Pg:Pos}(hN:X.N.Nodup)(yL:PI X tg iter (Lz X.K C G0 Γ E z gi))(b:IZ X C G0 Γ tg elt ifs scope cl g bind ft fe tM n z gM caps)(hk:Γ[i]?=some k:=by rfl)(hl:k.takes (vM z n)=true:=by rfl)(hi:X.N[i]?=some x:=by rfl)(hx:X.env.scope.names.lookup x=some .local:=by rfl)
  (hsw:swapsWith (.ListComp elt [⟨tg,iter,ifs,0⟩] scope pos) (some (.Name x pos')) Pg.line X.env=pure true:=by rfl) (hs:∀x,qy iter X.env x=pure x:=by intro _;rfl) :
  PS X (.Assign [.Name x pos'] (.ListComp elt [⟨tg,iter,ifs,0⟩] scope pos) Pg) (oG X.K C G0 Γ E kG (eE i (gq gi gM.length (caps.map (·.1)) bind ft fe))):=fun ak s σ H D I zz=>by
 refine dO zz fun A st r q=>?_;clear zz;rw[exec_Assign_Name_used _ _ _ _ hsw];refine ah (A0 (ah ?_));show aB _ X.A (do let _ <- comprehension (.ListComp elt [⟨tg,iter,ifs,0⟩] scope pos) scope X.env _ (newList []) false (eval iter X.env) (some (assign (.Name x pos') X.env))) _ _ s;unfold eE gq at q;refine ah (iI (LQ (use:=some (assign (.Name x pos') X.env)) (Q:=fun _ s'=>SP X ak D .next s') rfl hs b.V4 b.hk b.Pe (iI (yL ak s σ H (fun J H'=>∃ds total,aI H H'/\Ka X.K C (zB z A) H' J ds/\ds.length<=5000/\j8 bind ft fe ds (pM gM.length (caps.map (·.1)) st) = .ok total/\∀dZ H' A',RS X.K C G0 Γ dZ H' A' (st.set i (some (.lst total)))->aI (er H A) (er H' A')->D.nx dZ H') I ⟨A,st,r,?_⟩) (fun xv s1 h1=>iI h1 (fun itv s2 h2=>?_) fun _ _ e=>e) fun _ _ e=>e))
  (fun _ s' hq=>aC (aC hq)) fun _ _ e=>e)
 cases hg:gi st with
 | bad=>rw[hg]at q;exact q
 | ex c p=>rw[hg]at q;exact fun H' e'=>q σ H' A (r.mono e') (aL e')
 | ok ds=>
  rw[hg] at q;dsimp only at q;by_cases hl:ds.length<=5000;rw[aM4 hl] at q;cases hc:j8 bind ft fe ds (pM gM.length (caps.map (·.1)) st)with
  | bad=>rw[hc]at q;exact q.elim
  | ex c p=>rw[hc]at q;exact q.elim
  | ok total=>rw[hc]at q;exact fun J H' e' hJ=>⟨ds,total,e',hJ,hl,hc,q⟩
  rw[aM5 hl] at q;exact q.elim
 obtain⟨it,fp,tn,J,H2,rfl,I2,T,t0,f0,ds,total,e2,hJ,hlen,oH,hq⟩:=h2;refine yK (RR:=fun acc L=>compPost (aD X.prog X.w) X.A X.xe (some (assign (.Name x pos') X.env)) (fun _ s'=>SP X ak D .next s') acc L) I2 b.calm (r.mono e2) T t0 f0 hJ b.hz oH hlen b.hk b.xU b.Am b.Kh b.Kl b.hB (b.hG fp) (b.hT fp) (b.hE fp) b.hn b.xT fun acc L s' H' ys be=>?_;obtain⟨e',w,_⟩:=be.val r e2;obtain ⟨m,hm⟩:=be.ns;refine cM (r.set e' hk hl w) fun A' r' ea _=>?_;refine Uo (Ac be.inv hN hi (.inl hx) (v:=.ref acc) rfl (fun s3 I3 kX=>?_) (.inr hx));refine aU kX fun c hsb hc=>?_;clear kX;have hcL:L≠c:=by rcases hc with rfl | hc;exact be.lL;exact fun z=>be.cL x c hc z.symm
 exact⟨m,hm.sameBut hsb hcL,fun h' CC=>⟨_,H',DW I3 be.hL be.lL be.sL be.cL be.pL CC,hq _ _ A' r' ea⟩⟩
end
abbrev DP:=(Int×Int)×ay×Int×Tok
def dxs(ps:List DP):List (List Int×ay×av):=ps.map fun p=>([p.1.1,p.1.2],p.2.1,.int p.2.2.1 p.2.2.2)
def DX(a:ay)(ps:List DP)(h:aY):Prop:=∃o es ep,h.get? a=some o/\o.ExactDict/\o.data = .dict es ep/\(∀(P:dG) (w:bQ),es.toList=(dxs ps).map (qx (tupleKind (intKind P w))))/\((dxs ps).map (·.1)).Nodup
def dvs(ps:List DP):List V:=ps.flatMap fun p=>[.int p.1.1,.int p.1.2,.int p.2.2.1]
def Sz(K:aE)(H:Hp)(a:ay)(vs:List V):Prop:=∃ps,vs=dvs ps/\H a=some (.ext (DX a ps))/\∀p∈ps,mZ K H p.2.1 [.int p.1.1,.int p.1.2]
theorem Sz.mono{K:aE}{H H':Hp}{a:ay}{vs:List V}(e:aI H H')(h:Sz K H a vs):Sz K H' a vs:=by
 refine cM h fun ps h1 h2 h3=>?_;clear h;exact⟨ps,h1,e _ _ h2,fun p hp=>aI.tup e (h3 p hp)⟩
end Dm
end aD5
section aE1
namespace Hk
open PySem
section
variable {K:Type}[DecidableEq K](kh:HeapKind prog w K)
def Refs(h:aY):List K->List av->Prop
 | [],vs=>vs=[]
 | k::ks,vs=>∃a r,vs = .ref a::r/\kh.is h k a/\Refs h ks r
def tP(h:aY)(ks:List K)(a:ay):Prop:=∃o bq n,h.get? a=some o/\o.cls = .type "tuple" /\o.data = .seq bq n/\Refs kh h ks bq.toList
def Ht(ks:List K):Int:=reduceHash (Br (ks.map kh.hash))
def gC:List K->Nat
 | []=>0
 | k::ks=>kh.draws k+gC ks
variable {kh}
theorem Refs.inj:∀{x y:List K} {vs:List av},Refs kh h x vs->Refs kh h y vs->x=y
 | [],[],_,_,_=>rfl
 | [],_::_,_,e,⟨_,_,z,_⟩=>by rw[Refs]at e;rw[e]at z;cases z
 | _::_,[],_,⟨_,_,z,_⟩,e=>by rw[Refs]at e;rw[e]at z;cases z
 | _::_,_::_,_,⟨_,_,z,p,r⟩,⟨_,_,z',p',r'⟩=>by rw[z]at z';cases z';rw[kh.inj p p',r.inj r']
theorem Refs.keeps{h:aY}{es ep}(ho:h.get? d=some o)(hd:o.data = .dict es ep)(hs:i6 d h h'):∀{x:List K} {vs:List av},Refs kh h x vs->Refs kh h' x vs
 | [],_,e=>e
 | _::_,_,⟨a,r,z,p,q⟩=>⟨a,r,z,kh.keeps p ho hd hs,q.keeps ho hd hs⟩
theorem AD:∀(x y:List K),gC kh (x++y)=gC kh x+gC kh y
 | [],y=>by rw[gC,mF];rfl
 | k::x,y=>by rw[Bb,gC,gC,AD x y,xj]
theorem tP.tuple{s:aA}(x:tP kh s.heap ks a):s.TypeIs (.ref a) "tuple":=x.elim fun o z=>z.elim fun _ z=>z.elim fun _ z=>⟨o,z.1,z.2.1⟩
theorem tP.inj(hx:tP kh h x a)(hy:tP kh h y a):x=y:=by
 obtain⟨o,bq,n,e,_,d,r⟩:=hx;obtain⟨o',its',n',e',_,d',r'⟩:=hy;rw[e] at e';cases e';rw[d]at d';cases d';exact r.inj r'
theorem tP.keeps{es ep}(x:tP kh h ks a)(ho:h.get? d=some o)(hd:o.data = .dict es ep)(hs:i6 d h h'):tP kh h' ks a:=by
 obtain⟨u,bq,n,e,c,q,r⟩:=x;refine⟨u,bq,n,(hs.2 a fun z=>?_).trans e,c,q,r.keeps ho hd hs⟩;rw[z,ho]at e;cases e;rw[hd]at q;cases q
theorem SA{Q:Int->aA->Prop}(hu:A.units<cLine)(hr:kh.room A.in1)(hk:tP kh s.heap ks a)(h:Q (Ht kh ks) {s with toks:=s.toks+(gC kh ks+1)}):aB (aD prog w) A (pyHash (.ref a)) Q E s:=by
 have hT:=hk.tuple;have sl:=Nh;obtain⟨o,bq,n,ho,_,hd,hi⟩:=hk;(unfold pyHash);(first|unfold pyHashByItsType|skip);(first|refine ah (wpAny_cRoomFor_or (.inr hu) ?_)|skip);(refine ah (qS hT sl.lookup ?_));(show aB _ _ (if(some (Value.builtin "tuple.__hash__")==some ez)=true then _ else _) Q E s);(rw[aM5 (by rw[beq_builtin_none];exact jo)]);(refine ah (qS hT sl.lookup ?_));(show aB _ _ (callSpecialIfBoundUnlessNone? (.ref a) "__hash__" _>>=_) Q E s);refine ah (wpAny_callSpecialIfBoundUnlessNone?_slot hT sl (iK sl hT F.entry_tuple_hash ?_ (F.args_tuple_hash_1 _)));(show aB _ _ (Builtin.Tuple.tupleItemsOf (.ref a)>>=_) _ _ s);(refine ah (F5 ho hd (ah ?_)));(rw[<- xD]);refine mC _ (fun rest (b:Array Int) s'=>∃x y,ks=x++y/\Refs kh s.heap y rest/\b.toList=x.map kh.hash/\s'={s with toks:=s.toks+gC kh x}) _ ?_ ?_ _ _ ⟨[],ks,rfl,hi,rfl,rfl⟩;rintro v rest b s' ⟨x,y,rfl,hl,hb,rfl⟩;cases y with
 | nil=>rw[Refs]at hl;cases hl
 | cons k y=>
  obtain⟨c,r,z,p,q⟩:=hl;cases z;have e:gC kh (x++[k])=gC kh x+kh.draws k:=by rw[AD];rfl
  have nx:∃x' y',x++k::y=x'++y'/\Refs kh s.heap y' rest/\(b.push (kh.hash k)).toList=x'.map kh.hash/\({s with toks:=s.toks+gC kh x+kh.draws k}:aA)={s with toks:=s.toks+gC kh x'}:=⟨x++[k],y,by simp,q,by simp[hb],by rw[e,xj]⟩
  refine ah (kh.pyHash (s:={s with toks:=s.toks+gC kh x}) hr p ?_);first
   | exact aC nx
   | exact ah (aC (aC nx))
 rintro b s' ⟨x,y,rfl,hl,hb,rfl⟩;cases y with
 | cons k y=>obtain⟨_,_,z,_⟩:=hl;cases z
 | nil=>rw[ko]at h;(show aB _ _ (retInt (Br b.toList)) _ _ _);(rw[hb]);(refine wpAny_ret_mkInt ?_);show aB _ _ (if(decide (-(2:Int) ^ 63<=Br (x.map kh.hash))&&decide (Br (x.map kh.hash)<2 ^ 63))=true then _ else _) Q E _;unfold Ht reduceHash at h;split;rename_i c;rw[aM4 c]at h;exact aC (by simpa[xj]using h);rename_i c;rw[aM5 c]at h;exact ah (wX (aC (by simpa[xj]using h)))
theorem ak7{P:Fin->aA->Prop}(hr:kh.room A)(hx:tP kh s.heap x a)(hy:tP kh s.heap y b)(h:P (.done (.ret (.bool (decide (x=y))))) s):aB (aD prog w) A (Builtin.«tuple.__eq__» ⟨[.ref a,.ref b],[]⟩) P E s:=by
 have hT:=hy.tuple;obtain⟨oa,us,na,ea,_,da,ra⟩:=hx;obtain⟨ob,vs,nb,eb,_,db,rb⟩:=hy;(show aB _ _ (isInstance (.ref b) (.type "tuple")>>=_) _ _ s);(refine ah (qR hT LR ?_));(simp only[j6,dj,aN2]);refine ah (F5 ea da (ah (F5 eb db (ah ?_))));refine mC _ (fun rest r s'=>r.1=none/\s'=s/\∃x' y' us' UZ,rest=List.zip us' UZ/\Refs kh s.heap x' us'/\Refs kh s.heap y' UZ/\decide (x'=y')=decide (x=y)/\(us'.length==UZ.length)=(us.size==vs.size)) _ ?_ ?_ _ _ ⟨rfl,rfl,x,y,us.toList,vs.toList,rfl,ra,rb,rfl,by simp⟩;rintro⟨u,v⟩ rest r s' ⟨OZ,rfl,x',y',us',UZ,hz,sE,Iq,SD,hlen⟩;cases x' with
 | nil=>rw[Refs]at sE;subst sE;simp at hz
 | cons k1 x1=>
  obtain⟨c1,r1,z1,p1,q1⟩:=sE;subst z1;cases y' with
  | nil=>rw[Refs]at Iq;subst Iq;simp at hz
  | cons k2 y1=>obtain⟨c2,r2,z2,p2,q2⟩:=Iq;subst z2;rw[Mv] at hz;cases hz;refine ah (kh.eqBool (x:=k1) (y:=k2) hr p1 p2 ?_);by_cases hk:k1=k2;subst hk;(rw[aM6 rfl]);(simp only[j6,dj,aN2]);exact aC ⟨rfl,rfl,x1,y1,r1,r2,rfl,q1,q2,by rw[<- SD];simp,by simpa using hlen⟩;(rw[aM7 hk]);(simp only[Bk,aN3]);rw[show decide (x=y)=false by rw[<- SD];simp[hk]]at h;exact ah (aC (aC (aC h)))
 rintro⟨r1,r2⟩ s' ⟨OZ,rfl,x',y',us',UZ,hz,sE,Iq,SD,hlen⟩;dsimp only at OZ;subst OZ;refine aC ?_;have e:(us.size==vs.size)=decide (x=y):=by
  rw[<- SD,<- hlen];cases x' with
  | nil=>
   rw[Refs]at sE;subst sE;cases y' with
   | nil=>rw[Refs]at Iq;subst Iq;rfl
   | cons k2 y1=>obtain⟨c2,r2,rfl,_⟩:=Iq;simp
  | cons k1 x1=>
   obtain⟨c1,r1,rfl,_⟩:=sE;cases y' with
   | nil=>rw[Refs]at Iq;subst Iq;simp
   | cons k2 y1=>obtain⟨c2,r2,rfl,_⟩:=Iq;simp at hz
 show P (.done (.ret (.bool (us.size==vs.size)))) s';rw[e];exact h
theorem Kp{Q:Bool->aA->Prop}(hu:A.units<cLine)(hr:kh.room A.in1)(hx:tP kh s.heap x a)(hy:tP kh s.heap y b)(h:Q (decide (x=y)) s):aB (aD prog w) A (eqBool (.ref a) (.ref b)) Q E s:=by
 (unfold eqBool);(try with_reducible refine jh ?_);(show aB _ _ (if(eW a==eW b)=true then _ else _) Q E s);by_cases c:(eW a==eW b)=true;rw[aM4 c];cases eq_of_beq c;obtain rfl:=hx.inj hy;exact ah (wX (aC (by simpa using h)));(rw[aM5 c]);(refine ah (wpAny_richCompare_same_room (op:=.Eq) hx.tuple hy.tuple Bq (iK Bq hx.tuple F.entry_tuple_eq (ak7 hr hx hy ⟨_,rfl,(fun e=>nomatch e),wW h⟩) (F.args_tuple_eq_2 _ _)) hu))
theorem E2{Q:Bool->aA->Prop}(ho:s.heap.get? a=some o)(hc:o.cls = .type "tuple")(hd:o.data = .seq bq m)(q:∀v∈bq.toList,∀{A:cH} {R:Bool->aA->Prop},R true s->aB (aD prog w) A (eqIsQuiet n v) R E s)(h:Q true s):aB (aD prog w) A (eqIsQuiet (n+1) (.ref a)) Q E s:=by
 have hT:s.TypeIs (.ref a) "tuple":=⟨o,ho,hc⟩
 (unfold eqIsQuiet);(refine ah (qS hT Bq.lookup ?_));(show aB _ _ (isInstance (.ref a) (.type "tuple")>>=_) _ _ s);(refine ah (qR hT LR ?_));(simp only[j6,dj,aN2]);(refine ah (F0 ho hd (ah ?_)));(show aB _ _ (forIn bq _ _) _ _ s);(rw[<- xD]);refine mC _ (fun rest r s'=>r.1=none/\s'=s/\∀v∈rest,v∈bq.toList) _ ?_ ?_ _ _ ⟨rfl,rfl,fun _ m=>m⟩;rintro v rest r s' ⟨hr,rfl,n6⟩;(refine ah (q v (n6 v (.head _)) ?_));(simp only[j6,dj,aN2]);exact aC ⟨rfl,rfl,fun u m=>n6 u (.tail _ m)⟩;rintro ⟨r1,r2⟩ s' ⟨hr,rfl,_⟩;dsimp only at hr;subst hr;exact aC h
end
theorem Refs.mem{prog:dG}{w:bQ}{K:Type}[DecidableEq K]{kh:HeapKind prog w K}{h:aY}:∀{ks:List K} {vs:List av} {v:av},Refs kh h ks vs->v∈vs->∃k a,v = .ref a/\kh.is h k a
 | [],_,_,e,m=>by rw[Refs]at e;rw[e]at m;cases m
 | k::ks,_,v,⟨a,r,z,p,q⟩,m=>by
  rw[z]at m;rcases bW.mp m with rfl | m;exact⟨k,a,rfl,p⟩;exact q.mem m
def kH{prog:dG}{w:bQ}{K:Type}[DecidableEq K](knd:KeyKind prog w K):HeapKind prog w (List (List K)) where
 is:=tP (tupleKind knd)
 hash:=Ht (tupleKind knd)
 draws:=fun ks=>gC (tupleKind knd) ks+1
 room:=fun A=>A.units+1<cLine
 inj:=fun hx hy=>hx.inj hy
 keeps:=fun x ho hd hs=>x.keeps ho hd hs
 pyHash:=fun hu hk h=>SA (uv hu) hu hk h
 eqBool:=fun hu hx hy h=>Kp (uv hu) hu hx hy h
 quiet:=fun {A E s k a Q} hk h=>by
  obtain⟨o,bq,n,ho,hc,hd,hi⟩:=hk;refine E2 (n:=7) ho hc hd (fun v m A' R hR=>?_) h;obtain⟨k1,c,rfl,o1,aL5,n1,UO,hc1,hd1,hi1⟩:=hi.mem m;refine E2 (n:=6) UO hc1 hd1 (fun v m A'' R' hR'=>?_) hR;rw[eqIsQuiet_byValue _ (hi1.byValue v m)];exact aC hR'
end Hk
end aE1
section ak8
namespace Dm
open PySem PySem.Spec PyProof.Rows L2
abbrev SP:=List (List Int)×ay×av
def DY(a:ay)(o:Obj)(ps:List SP)(h:aY):Prop:=(a==oJ)=false/\ps.length<=cU/\h.get? a=some o/\o.ExactDict/\∃es ep,o.data = .dict es ep/\(∀(P:dG) (w:bQ),es.toList=ps.map (qx (Hk.kH (intKind P w))))/\(ps.map (·.1)).Nodup
def mT(K:aE)(H:Hp)(ks:List (List Int))(a:ay):Prop:=∃cs:List ay,mZ K H a (cs.map V.ref)/\cs.length=ks.length/\∀z∈ks.zip cs,mZ K H z.2 (z.1.map V.int)
def nu(ps:List SP)(vs:List V):List V:=(ps.zip vs).flatMap fun z=>[.ref z.1.2.1,z.2]
def DYo(K:aE)(F H:Hp)(a:ay)(xs:List V):Prop:=∃o ps vs,xs=nu ps vs/\Vals vs (ps.map (·.2.2))/\H a=some (.ext (DY a o ps))/\(∀p∈ps,mT K F p.1 p.2.1)/\∀l,V.ref l∈vs->∃ys,F l=some (.lst ys)
theorem mT.mono{K:aE}{H H':Hp}{ks:List (List Int)}{a:ay}(e:aI H H')(h:mT K H ks a):mT K H' ks a:=by
 refine cM h fun cs h1 h2 h3=>?_;exact⟨cs,aI.tup e h1,h2,fun z m=>aI.tup e (h3 z m)⟩
theorem DYo.mono{K:aE}{F F' H H':Hp}{a:ay}{xs:List V}(f:aI F F')(e:H' a=H a)(h:DYo K F H a xs):DYo K F' H' a xs:=by
 refine Bs h fun o ps vs h1 h2 h3 h4 h5=>?_;exact⟨o,ps,vs,h1,h2,e.trans h3,fun p m=>(h4 p m).mono f,fun l m=>let⟨ys,q⟩:=h5 l m;⟨ys,f _ _ q⟩⟩
theorem DY.of{ps:List SP}{h:aY}(z:(a==oJ)=false)(hl:ps.length<=cU)(q:h.DictOfH (Hk.kH (intKind P w)) a ps):∃o,DY a o ps h:=by
 refine at9 q fun o es ep h1 h2 h3 h4 _ h6=>?_;exact⟨o,z,hl,h1,h2,es,ep,h3,fun P' w'=>h4,h6⟩
theorem DY.dict(q:DY a o ps h)(k:∀p∈ps,(Hk.kH (intKind P w)).is h p.1 p.2.1):h.DictOfH (Hk.kH (intKind P w)) a ps:=by
 obtain⟨_,_,h1,h2,es,ep,h3,h4,h6⟩:=q;exact⟨o,es,ep,h1,h2,h3,h4 P w,k,h6⟩
theorem DY.keep{h':aY}(q:DY a o ps h)(e:∀o,h.get? a=some o->h'.get? a=some o):DY a o ps h':=⟨q.1,q.2.1,e o q.2.2.1,q.2.2.2⟩
theorem E3(q:DY a o ps h):gI P w H h a (.ext (DY a o ps)):=⟨q,⟨o,q.2.2.1⟩,fun h1 h2 z e=>z.keep e⟩
section
theorem Ph(I:L2.Inv X ak σ H s){ns:List Int}(h:mZ X.K H a (ns.map V.int)):(tupleKind (intKind X.prog X.w)).is s.heap ns a:=by
 refine cM (I.tuple h) fun bq rv b8 hsz=>?_;clear hsz;obtain ⟨o,e,hc,n,hd⟩:=b8;refine⟨o,bq.toArray,n,e,hc,hd,?_⟩;show ItemsAre _ ns bq;clear h e hd;induction ns generalizing bq with
 | nil=>cases rv;exact .nil
 | cons i ns ih=>
  cases rv with
  | cons r1 t1=>obtain ⟨t,rfl⟩:=r1;exact .cons (by simp[intKind,Value.isInt]) (ih _ t1)
theorem rM(I:L2.Inv X ak σ H s)(h:mT X.K H ks a):(Hk.kH (intKind X.prog X.w)).is s.heap ks a:=by
 refine cM h fun cs h1 h2 h3=>?_;refine cM (I.tuple h1) fun bq rv b8 hsz=>?_;clear hsz;obtain ⟨o,e,hc,n,hd⟩:=b8;refine⟨o,bq.toArray,n,e,hc,hd,?_⟩;show Hk.Refs _ s.heap ks bq;clear h h1 e hd;induction ks generalizing cs bq with
 | nil=>
  cases cs with
  | nil=>cases rv;exact rfl
  | cons c cs=>cases h2
 | cons k ks ih=>
  cases cs with
  | nil=>cases h2
  | cons c cs=>
   cases rv with
   | cons r1 t1=>cases r1;exact⟨c,_,rfl,Ph I (h3 (k,c) (.head _)),ih cs (by simpa using h2) (fun z m=>h3 z (.tail _ m)) _ t1⟩
theorem tQ(I:L2.Inv X ak σ H s)(ha:H a=some (.ext (DY a o ps)))(hk:∀p∈ps,mT X.K H p.1 p.2.1):s.heap.DictOfH (Hk.kH (intKind X.prog X.w)) a ps/\(a==oJ)=false/\ps.length<=cU:=by
 refine xO ((show gI X.prog X.w H s.heap a (.ext (DY a o ps))from I.fE a _ ha)) fun dx _ _=>?_;exact⟨dx.dict fun p m=>rM I (hk p m),dx.1,dx.2.1⟩
end
end Dm
end ak8
section aE2
namespace Dm
open PySem PySem.Spec PyProof.Rows L2 PySem.W
def dP(Cb:ay)(gl:GL):Cfg where
 gl:=gl.p
 glM:=gl.m
 ob:=fun t K H a vs=>((t=0/\∃dx fs l,H a=some (.ins Cb dx fs)/\fs.lookup ("cells" : Str)=some (.ref l)/\H l=some (.lst vs))\/(∃c,t=Sv c/\((vs=[]/\H a=some (.ext (ClsAt a (.ref c))))\/∃n dx,vs=[.int n]/\H a=some (.ext (Wh a c dx))/\H dx=some (.xd [("at",.int n)]))))\/(t=1/\Sz K H a vs)\/(t=2/\DYo K H H a vs)
 mono:=fun {t K H H' a vs} e h=>by
  rcases h with(⟨h0,dx,fs,l,h1,h2,h3⟩|⟨c,h0,⟨h1,h2⟩|⟨n,dx,h1,h2,h3⟩⟩)|⟨h0,h1⟩|⟨h0,h1⟩;exact .inl (.inl ⟨h0,dx,fs,l,e _ _ h1,h2,e _ _ h3⟩);exact .inl (.inr ⟨c,h0,.inl ⟨h1,e _ _ h2⟩⟩);exact .inl (.inr ⟨c,h0,.inr ⟨n,dx,h1,e _ _ h2,e _ _ h3⟩⟩);exact .inr (.inl ⟨h0,h1.mono e⟩);exact .inr (.inr ⟨h0,h1.mono e (by
   refine Bs h1 fun o ps vs _ _ z _ _=>?_;exact(e _ _ z).trans z.symm)⟩)
 own:=DYo
 IT:=fun f e h=>h.mono f e
 UY:=fun h f e=>.inr (.inr ⟨rfl,h.mono f e⟩)
 ai8:=fun h=>by
  refine Bs h fun o ps vs _ _ z _ _=>?_;exact⟨_,z⟩
section
def fj:D->R D:=fun a=>match a with | .d8 0 ds=>if dS ds=true then .ok (.lst ds)else .bad|_=>.bad
theorem Kq{a d:D}(h:fj a = .ok d):∃ds,a = .d8 0 ds/\dS ds=true/\d = .lst ds:=by
 unfold fj at h;split at h;split at h;rename_i n;cases h;exact⟨_,rfl,n,rfl⟩;cases h;cases h
theorem Kr{a:D}{c:ay}{p:Option Int}:fj a≠ .ex c p:=by
 unfold fj;split;split <;> exact fun h=>(by cases h)
 exact fun h=>(by cases h)
theorem Ks{K:Frag}{H:Hp}{ds:List D}{x:V}(n:dS ds=true)(q:Rep K (dP Cb gl) H (.d8 0 ds) x):∃a dx fs l,x = .ref a/\H a=some (.ins Cb dx fs)/\fs.lookup ("cells" : Str)=some (.ref l)/\Rep K (dP Cb gl) H (.lst ds) (.ref l):=by
 rw[Rep] at q;refine bA q fun a xs b8 h2 h3=>?_;clear q;obtain rfl:=b8;rcases h2 with(⟨_,dx,fs,l,h4,h5,h6⟩|⟨c,z,_⟩)|⟨z,_⟩|⟨z,_⟩;refine⟨a,dx,fs,l,rfl,h4,h5,?_⟩;rw[Rep];exact⟨l,xs,rfl,.of h6,h3.part (.er fun b m=>by rw[eY.mp m];exact⟨_,h6,rfl⟩) _ n⟩;unfold Sv at z;lia;cases z;cases z
theorem Pj(hC:Ll X.K Cb)(hA:kC X.K Cb "cells")(ha:PE X a (tD X.K (dP Cb gl) G0 Γ E fa aN))(hb:s8 a ("cells" : Str) X.env (eval a X.env)=eval a X.env:=by rfl):PE X (.Attribute a "cells" pos) (tD X.K (dP Cb gl) G0 Γ E (oz fj fa) aN.item):=(VS ha hb).imp fun σ H Q zz=>by
 refine dO zz fun A st r q=>?_;clear zz;refine⟨A,st,r,?_⟩;unfold oz R.bind at q;cases ha:fa st with
 | bad=>rw[ha]at q;exact q
 | ex c p=>rw[ha]at q;exact q
 | ok a=>
  rw[ha] at q;dsimp only at q;intro x H1 e1 w1;cases hg:fj a with
  | bad=>rw[hg]at q;exact q.elim
  | ex c p=>exact aN6 hg Kr
  | ok d=>
   rw[hg] at q;refine cM (Kq hg) fun ds je n rE=>?_;obtain rfl:=je;obtain rfl:=rE;have fin:∀G:Hp,aI G H1->Rep X.K (dP Cb gl) G (.d8 0 ds) x->(∀v,Rep X.K (dP Cb gl) G (.lst ds) v->Val X.K (dP Cb gl) aN.item G0 A H H1 (.lst ds) v)->∃a C dx fs v,x = .ref a/\H1 a=some (.ins C dx fs)/\Ll X.K C/\kC X.K C "cells" /\fs.lookup ("cells" : Str)=some v/\Q v H1:=fun G e qa k=>by refine Zg (Ks n qa) fun a dx fs l JK h1 h2 h3=>?_;obtain rfl:=JK;exact⟨a,Cb,dx,fs,.ref l,rfl,e _ _ h1,hC,hA,h2,q _ _ e1 (k _ h3)⟩
   cases aN with
   | new=>exact fin _ (aJ _ _) (w1.le r e1 (κ':=.old) rfl) fun v z=>z
   | vL=>exact fin _ (aJ _ _) (w1.le r e1 (κ':=.old) rfl) fun v z=>z
   | loc=>exact fin _ (aJ _ _) (w1.le r e1 (κ':=.old) rfl) fun v z=>z
   | old=>exact fin _ (aJ _ _) w1 fun v z=>z
   | oF=>exact fin _ (.refl _) w1.rep fun v z=>z
   | aZ=>exact fin _ (.refl _) w1 fun v z=>z
def C7(K:Frag)(Cb:ay)(gl:GL)(Fc:List D->R D):Sp:=fun vs H Q E=>∃x dx ds v,vs=[.ref x,v]/\H x=some (.ins Cb dx [])/\(Rep K (dP Cb gl) H (.lst ds) v/\gl.p H)/\match Fc [.lst ds]with
 | .ok _=>dS ds=true/\∀l H' ys,H l=none->(∀b o,b≠x->H b=some o->H' b=some o)->H' x=some (.ins Cb dx [("cells",.ref l)])->H' l=some (.lst ys)->aQ K (dP Cb gl) H' ds ys->Q .dh H'
 | .ex c p=>∀H',aI H H'->IV E c p H'
 | .bad=>False
theorem SE{P:dG}{w:bQ}{K:Frag}{mg:Str->Option av}{base:aY}{x qual:Str}{st:bz}{f:ay}{fd:gP}{k:Nat}{Fc:List D->R D}(F:Lp K x qual st f fd)(S:bY ["self","cells"] ["self","cells"] (aR st))(hC:Ll K Cb)(hA:kC K Cb "cells")
  (CZ:∀(dW:av) (A:cH) (outer:List Env) (s:aA) (H:Hp) (E:XK),jf k (A.deeper (envOfC qual (aR st) s.heap.objs.size f dW))->
   vC ((qp (p9 P w) P w K mg base ["self","cells"] qual (aR st) f dW A outer s H E).eX (lH (qp (p9 P w) P w K mg base ["self","cells"] qual (aR st) f dW A outer s H E) fun _=>E)) (fG st)
    (Zs (Uw (tD K (dP Cb gl) H [.par,.par] (fun _=>E) (cQ Fc (af (au 1) aH)) κ)) (ab1 K (oB 0) (tD K (dP Cb gl) H [.par,.par] (fun _=>E) (cQ m9 (af (au 1) aH)) .new) "cells"))) :
  jV P w K mg base (p9 P w) (k+1) f fd ["self","cells"] (C7 K Cb gl Fc):=by
 refine An F S (fun vs H Q E kX=>by obtain⟨x,dx,ds,v,h,_⟩:=kX;rw[h];rfl) fun dW _ A outer s H vs Q E hr qq=>?_;refine Zg qq fun x dx ds v hvs hx hd q=>?_;clear qq;subst hvs;have r0:RS K (dP Cb gl) H [.par,.par] [some (.ref x),some v] H [] [none,some (.lst ds)]:=⟨by rw[mS];exact .refl _,fun a m=>(by cases m),rfl,fun i d h=>(by
  match i,h with
  | 1,h=>cases h;exact⟨.par,v,rfl,rfl,by show Rep _ _ (er H []) _ _;rw[mS];exact hd.1⟩),fun i j n m p ds es nD g1=>(by
  match i,g1 with
  | 0,g1=>cases g1
  | 1,g1=>cases g1),hd.2⟩
 refine⟨_,CZ dW A outer s H E hr,[],[none,some (.lst ds)],r0,?_⟩;have hf:cQ Fc (af (au 1) aH) [none,some (.lst ds)]=Fc [.lst ds]:=rfl;rw[hf];cases hF:Fc [.lst ds]with
 | bad=>rw[hF]at q;exact q
 | ex c p=>rw[hF]at q;exact q
 | ok d0=>
  rw[hF]at q;obtain⟨n,q⟩:=q;intro v1 H1 e1 w1;refine⟨[],[none,some (.lst ds)],r0.mono e1,?_⟩;have hg:cQ m9 (af (au 1) aH) [none,some (.lst ds)] = .ok (.lst ds):=by show m9 [.lst ds]=_;unfold m9;dsimp only;rw[aM4 n]
  rw[hg];intro y H2 e2 w2;refine cM (w2.2.1 rfl) fun l b8 nl ow=>?_;refine aU ow fun ys hl rl=>?_;obtain rfl:=b8;have hl2:H2 l=some (.lst ys):=cz _ _ _ _ hl;have tE:=e1.trans e2;have IM:H2 x=some (.ins Cb dx []):=tE _ _ hx;have nlx:l≠x:=fun z=>by rw[z,e1 _ _ hx]at nl;cases nl
  refine⟨.ref x,rfl,x,Cb,dx,[],rfl,IM,hC,hA,by show 0<1000;decide,?_⟩;have keep:aI (er H2 [x]) (upd H2 x (.ins Cb dx (oZ "cells" (.ref l) []))):=fun b o z=>by by_cases hb:b=x;rw[hb,dD (.head _)]at z;cases z;rw[aW hb];rw[aV (by simpa using hb)]at z;exact z
  refine q l _ ys (e1.free nl) (fun b o hb z=>by rw[aW hb];exact tE _ _ z) bS (by rw[aW nlx];exact hl2) ?_;have rl2:aQ K (dP Cb gl) H2 ds ys:=rl.same ((aJ _ _).trans (cz _ _)) _;refine aQ.same keep _ (rl2.part ⟨aJ _ _,fun b xs z=>?_⟩ _ n);unfold Rd;have:b≠x:=fun w=>by subst w;rcases z with z|⟨o,z⟩;rw[IM] at z;cases z;rw[IM] at z;cases z
  rw[aV (by simpa using this)];exact z
def rN(Fc:List D->R D):List D->R D:=fun ds=>match ds with
 | [.lst es]=>(match Fc [.lst es]with | .ok _=>if dS es=true then .ok (.d8 0 es)else .bad | .ex c p=>.ex c p | .bad=>.bad)
 | _=>.bad
theorem Pn{X:Cx}(M:Mk X.K Cb fi)(Fn:jV X.prog X.w X.K X.mg X.base (p9 X.prog X.w) k fi fd ["self","cells"] (C7 X.K Cb gl Fc))(hr:jf (k+1) X.A)(hm:X.mg x=some (.ref Cb))(hb:Binds X.K fd ["self","cells"] [])
  (ha:PA (X.eX (lH X E)) [e] (ER X.K (dP Cb gl) G0 Γ E fs κ)) (hg:Gl X x:=by rfl) (Ai:(x==("__debug__" : Str))=false:=by decide) (he:bN [e] X.env=[(false,eval e X.env)]:=by rfl) :
  PE (X.eX (lH X E)) (.Call (.Name x p) [e] [] pos) (tD X.K (dP Cb gl) G0 Γ E (cQ (rN Fc) fs) .new):=(O2 M Fn hr hg hm hb ha Ai he).imp fun σ H Q zz=>by
 refine dO zz fun A st r q=>?_;clear zz;refine⟨A,st,r,?_⟩;unfold cQ R.bind at q;cases hf:fs st with
 | bad=>rw[hf]at q;exact q
 | ex c p=>rw[hf]at q;exact q
 | ok ds=>
  rw[hf] at q;dsimp only at q;intro vs H1 e1 w1 y dx hy hdx YW;have s0:aI H1 (upd (upd H1 dx (.own y)) y (.ins Cb dx [])):=fun b o z=>by rw[aW (bf z hy),aW (bf z hdx)];exact z
  match ds,q,w1 with
  | [.lst es],q,w1=>
   refine aU (nj w1) fun v je wv=>?_;obtain rfl:=je;refine⟨y,dx,es,v,rfl,bS,⟨(wv.same Kd.v9 _).same s0 _,gl.m ((r.g0.trans e1).trans s0) r.gl⟩,?_⟩;unfold rN at q;dsimp only at q;cases hF:Fc [.lst es]with
   | bad=>rw[hF]at q;exact q
   | ex c p=>rw[hF]at q;exact fun H' e'=>q H' ((e1.trans s0).trans e')
   | ok d0=>rw[hF] at q;dsimp only at q;by_cases n:dS es=true;rw[aM4 n] at q;refine⟨n,fun l H' ys nl kp sE Dv rp=>⟨rfl,?_⟩⟩;have e':aI H1 H':=fun b o z=>kp b o (bf z hy) (s0 b o z);have eH:=e1.trans e';have hy0:H y=none:=e1.free hy;have WL:H l=none:=e1.free (s0.free nl);refine q _ _ eH ⟨?_,.not rfl rfl⟩;rw[Rep];refine⟨y,ys,rfl,.inl (.inl ⟨rfl,dx,_,l,by rw[lK hy0];exact sE,rfl,by rw[lK WL];exact Dv⟩),rp.part (.nw eH) _ n⟩;rw[aM5 n] at q;exact q.elim
  | [],q,_=>exact q.elim
  | [.dh],q,_=>exact q.elim
  | [.bl _],q,_=>exact q.elim
  | [.int _],q,_=>exact q.elim
  | [.str _],q,_=>exact q.elim
  | [.tup _],q,_=>exact q.elim
  | [.d8 _ _],q,_=>exact q.elim
  | d1::d2::dr,q,_=>
   have:rN Fc (d1::d2::dr) = .bad:=by unfold rN;cases d1 <;> rfl
   rw[this]at q;exact q.elim
end
section
variable {X:Cx}{e:bF}{rest:List bF}{pos:Pos}{s:bz}
theorem yM:∀(es:List bF) (out:Str) (m:Nat),(∀e∈es,zJ X P n e)->out.length+es.length*n<=m->m<=100000->∀(ak:List (ay×Obj)) (s:aA) (σ:L2.St) (H:Hp) (Q:av->aA->Prop) (Ex:av->aA->Prop),L2.Inv X ak σ H s->P σ->(∀x t s',L2.Inv X ak σ H s'->x.length<=m->Q (.str x t) s')->aB (aD X.prog X.w) X.A (joinParts out (evalEach es X.env)) Q Ex s
 | [],out,m,_,hl,hm,ak,s,σ,H,Q,Ex,I,p,q=>joinParts_nil (q _ _ _ (I.tok _) (by simp at hl;lia)) (by rw[gG];simp at hl;lia)
 | e::es,out,m,h,hl,hm,ak,s,σ,H,Q,Ex,I,p,q=>by
  show aB _ _ (joinParts out (eval e X.env::evalEach es X.env)) Q Ex s;refine joinParts_cons (h e (.head _) ak s σ H _ Ex I p fun x t s' I' hx=>?_);have hlen:(out++x).length=out.length+x.length:=strLen_append out x;rw[dg,Nat.add_mul,Nat.one_mul]at hl;refine⟨by rw[hlen,gG];lia,?_⟩;exact yM es (out++x) m (fun e' m'=>h e' (.tail _ m')) (by rw[hlen];lia) hm ak s' σ H Q Ex I' p q
theorem E4(h:∀e∈v1::v2::rest,zJ X P n e)(hm:(v1::v2::rest).length*n<=100000):zJ X P ((v1::v2::rest).length*n) (.JoinedStr (v1::v2::rest) pos):=fun ak s σ H Q Ex I p q=>
 JoinedStr_many (yM (v1::v2::rest) Str.empty _ h (by show 0+_<=_;lia) hm ak s σ H Q Ex I p q)
theorem all_nil:∀e∈([]:List bF),zJ X P n e:=fun e h=>by cases h
theorem all_cons(h:zJ X P n e)(t:∀e∈es,zJ X P n e):∀e'∈e::es,zJ X P n e':=fun e' m=>by
 rcases bW.mp m with rfl | m;exact h;exact t e' m
def iZ(c:ay):DS:=fun st=>.ex c none st
theorem nv{X:Cx}(FB:ExcBaseFacts B newId NZ bm)(hh:X.A.handled=none)(hm:X.mg x=some (.ref K0))(hc:YJ X.K K0 bm newId=true)(ha:zJ (X.eX (lH X E)) (fun _=>True) n BI)(hg:Gl X x:=by rfl)
  (he:bN [BI] X.env=[(false,eval BI X.env)]:=by rfl) (hd:(x==("__debug__" : Str))=false:=by decide) :
  PS (X.eX (lH X E)) (.Raise (some (.Call (.Name x np) [BI] [] jx)) none pos) (oG X.K C G0 Γ E kG (iZ K0)):=by
 have P1:PE (X.eX (lH X E)) BI (fun σ H Q=>∀x:Str,Q (.str x) H):=fun ak s σ H Q I q=>ha ak s σ H _ _ I trivial fun x t s' I' _=>⟨.str x,H,I',⟨t,rfl⟩,q x⟩
 refine(O0 FB hh hm hc hg (gU P1 jL he) he rfl hd).imp fun D σ H kX=>?_;refine dO kX fun A st r q=>?_;clear kX;intro x;exact⟨yz (by show 1<=100;decide),q σ H A r (.refl _)⟩
def tyD:D->Option String
 | .dh=>some "NoneType" | .bl _=>some "bool" | .int _=>some "int" | .str _=>some "str" | .tup _=>some "tuple" | .lst _=>some "list" | .d8 _ _=>none
theorem ak9{ak:List (ay×Obj)}{σ:L2.St}{H:Hp}{s:aA}{d:D}{x:V}{u c:av}{t:String}{b:Bool}{Q:av->aA->Prop}{Ex:av->aA->Prop}(I:L2.Inv X ak σ H s)(q:Rep X.K C H d x)(rx:RelV x u)(ht:tyD d=some t)(e:kitOne X.K (.type t) c=some b)(h:∀tk,Q (.bool b) {s with toks:=tk}) :
  aB (aD X.prog X.w) X.A (call (.builtin "isinstance") [u,c]) Q Ex s:=by
 cases d with
 | dh=>rw[Rep]at q;subst q;cases ht;cases(show u=ez from rx);exact uu kitx_none I.Bt True.intro e (fun z=>nomatch z) h
 | bl y=>rw[Rep]at q;subst q;cases ht;cases(show u=Value.bool y from rx);exact uu kitx_bool I.Bt True.intro e (fun z=>nomatch z) h
 | int i=>rw[Rep]at q;subst q;cases ht;obtain⟨t,q⟩:=(show ∃t,u=Fe i t from rx);cases q;exact uu kitx_int I.Bt True.intro e (fun z=>nomatch z) h
 | str y=>rw[Rep]at q;subst q;cases ht;obtain⟨t,q⟩:=(show ∃t,u=Rg y t from rx);cases q;exact uu kitx_str I.Bt True.intro e (fun z=>nomatch z) h
 | tup ds=>rw[Rep] at q;refine bA q fun a xs b8 h2 _=>?_;clear q;obtain rfl:=b8;cases ht;cases (show u=eW a from rx);refine cM (I.tuple h2) fun bq _ b8 _=>?_;obtain⟨o,h1,h3,_⟩:=b8;exact uu kitx_tuple I.Bt ⟨o,h1,h3⟩ e (fun z=>nomatch z) h
 | lst ds=>refine bA q.items fun a xs b8 h2 _=>?_;obtain rfl:=b8;cases ht;cases (show u=eW a from rx);refine cM (I.list h2) fun bq _ b8 _=>?_;obtain⟨o,n,h1,h3,_⟩:=b8;exact uu kitx_list I.Bt ⟨o,h1,h3⟩ e (fun z=>nomatch z) h
 | d8 _ _=>cases ht
def E5(Z3:String->Option Bool):D->R D:=fun d=>match tyD d with|some t=>(match Z3 t with|some b=>.ok (.bl b)|none=>.bad)|none=>.bad
theorem Po{T:String}{tx:Str}{p1 p2:Pos}{Z3:String->Option Bool}(aE4:∀t b,Z3 t=some b->kitOne X.K (.type t) (.type T)=some b)(hm:X.mg "isinstance"=none)(hmT:X.mg tx=none)(hvT:jU tx=some (.type T))(ha:PE X a (tD X.K C G0 Γ E fa aN))
  (hg:Gl X "isinstance":=by rfl) (hgT:Gl X tx:=by rfl) (hnT:tx≠ "__name__":=by decide) (YH:(tx==("__debug__" : Str))=false:=by decide)
  (h1:bN [a,Expr.Name tx p2] X.env=[(false,eval a X.env),(false,eval (.Name tx p2) X.env)]:=by rfl) (h2:bN [Expr.Name tx p2] X.env=[(false,eval (.Name tx p2) X.env)]:=by rfl) :
  PE X (.Call (.Name "isinstance" p1) [a,.Name tx p2] [] pos) (tD X.K C G0 Γ E (oz (E5 Z3) fa) .new):=by
 have Pp:lV X (.builtin "isinstance") (fun xs H Q=>∃x d t b,xs=[x,.ty T]/\Rep X.K C H d x/\tyD d=some t/\Z3 t=some b/\Q (.bl b) H):=fun ak s σ H xs us Q I r qq=>by refine Vr qq fun x d t b hx hr ht hb q=>?_;clear qq;subst hx;refine bA (vals2 r) fun u w' b8 ru NK=>?_;obtain rfl:=b8;cases(show w'=sd T from NK);exact ak9 I hr ru ht (aE4 t b hb) fun tk=>⟨.bl b,H,I.tok _,rfl,q⟩
 have P2:PE X (.Name tx p2) (tC (.ty T)):=Rp hgT hmT hvT rfl hnT YH;refine(dX Pp hg hm (by decide +kernel) (gU ha (gU P2 jL h2) (by rw[h1,h2])) (by decide) (by decide) (by rw[h1,h2]) (by rw[h2];rfl)).imp fun σ H Q uT=>uT.elim fun A EO=>EO.elim fun st GB=>GB.elim fun r q=>⟨A,st,r,?_⟩
 unfold oz R.bind at q;cases hf:fa st with
 | bad=>rw[hf]at q;exact q
 | ex c p=>rw[hf]at q;exact q
 | ok d=>
  rw[hf] at q;dsimp only at q;intro x H1 e1 w1;unfold E5 at q;cases ht:tyD d with
  | none=>rw[ht]at q;exact q.elim
  | some t=>
   rw[ht]at q;dsimp only at q;cases hb:Z3 t with
   | none=>rw[hb]at q;exact q.elim
   | some b=>rw[hb] at q;exact⟨x,d,t,b,rfl,w1.rep,ht,hb,q _ H1 e1 (.flat r e1 (by rw[gJ] <;> simp) zI _)⟩
end
theorem ao{Γ:List SK}(i:Nat)(h:PE X e (oB i))(hk:Γ[i]?=some .par:=by rfl):PE X e (tD X.K C G0 Γ E (au i) .old):=C2 i h hk
theorem tR{Γ:List SK}(i:Nat)(h:PE X e (oB i))(hk:Γ[i]?=some .loc:=by rfl):PE X e (tD X.K C G0 Γ E (au i) .loc):=C2 i h hk
theorem iD{Γ:List SK}(i:Nat)(h:PE X e (oB i))(hk:Γ[i]?=some (.own true):=by rfl):PE X e (tD X.K C G0 Γ E (au i) .oF):=C2 i h hk
theorem cK(ha:PE X a (tD X.K C G0 Γ E fa aN))(hb:PE X b (tD X.K C G0 Γ E fb d9))(hs:wC b)(hk:aN.item = .old:=by rfl):PE X (.Subscript a b pos) (tD X.K C G0 Γ E (bw fS fa fb) .old):=hk▸OP ha hb hs
theorem Pq(ha:PE X a (tD X.K C G0 Γ E fa aN))(hb:PE X b (tD X.K C G0 Γ E fb d9))(hs:wC b)(hk:aN.item = .aZ:=by rfl):PE X (.Subscript a b pos) (tD X.K C G0 Γ E (bw fS fa fb) .aZ):=hk▸OP ha hb hs
theorem pN{X:Cx}(hC:Ll X.K Cb)(hA:kC X.K Cb "cells")(ha:PE X a (tD X.K (dP Cb gl) G0 Γ E fa aN))(hb:s8 a ("cells" : Str) X.env (eval a X.env)=eval a X.env:=by rfl)(hk:aN.item = .old:=by rfl):PE X (.Attribute a "cells" pos) (tD X.K (dP Cb gl) G0 Γ E (oz fj fa) .old):=hk▸Pj hC hA ha hb
def vg(K:Frag)(mg:Str->Option av)(x qual:Str)(st:bz)(ps:List Str):Prop:=∃a fd,Lp K x qual st a fd/\mg x=some (.ref a)/\Binds K fd ps []
def Ku(n:Nat)(P:List av->Prop):Prop:=match n with|0=>P []|n+1=>∀u,Ku n fun us=>P (u::us)
theorem jN(h:Ku n P){us:List av}(hl:us.length=n):P us:=by
 subst hl;induction us generalizing P with
 | nil=>exact h
 | cons u us ih=>exact ih (h u)
theorem AE{K:Frag}{x qual:Str}{st:bz}{f:ay}{fd:gP}{ps:List Str}(F:Lp K x qual st f fd)(h:∀(kV doc pm:av) (an:Option ay) (dW ct:av),Ku ps.length fun us=>bindArgs (nF x qual (jy st) (fG st) (aR st) .none kV doc pm an dW ct) ⟨us,[]⟩=pure (ps.zip us)):Binds K fd ps []:=F.binds fun kV doc pm an dW ct us hl=>jN (h kV doc pm an dW ct) hl
theorem Xb{K:Frag}{h:aY}{mg:Str->Option av}{x:Str}{st:bz}{ps:List Str}{f:ay}{oc:av}{od an:Option ay}{EN:Array (Option av)}{kV doc pm dW ct:av}(X:K.In h)(G:h.Ns dM mg)(a:nsIn K dM x=some (some (.ref f)))(l:K.lookup f=some ⟨oc,od,.func (nF x x (jy st) (fG st) (aR st) .none kV doc pm an dW ct),EN⟩)
  (c:PySem.W.codeIn K dW x=true) (k:qU K (.ref f)=true) (hb:∀(kV doc pm:av) (an:Option ay) (dW ct:av),Ku ps.length fun us=>bindArgs (nF x x (jy st) (fG st) (aR st) .none kV doc pm an dW ct) ⟨us,[]⟩=pure (ps.zip us)):vg K mg x x st ps:=
 ⟨_,_,BF (st:=st) l c k,mg_of X G a,AE (BF (st:=st) l c k) hb⟩
structure FD(P:dG)(w:bQ)(K:Frag)(mg:Str->Option av)(base:aY)(C:Cfg)(k:Nat)(x:Str)(ps:List Str)(n:Nat)(F:List D->R D)(κ:Option Bool):Prop where
 ex:∃a fd,jV P w K mg base (p9 P w) k a fd ps (YY K C n F κ)/\mg x=some (.ref a)/\keepIn K (.ref a)=true/\Binds K fd ps []/\∃o,K.lookup a=some o/\o.data = .func fd
theorem yN{K:Frag}{x qual:Str}{st:bz}{a:ay}{fd:gP}(F:Lp K x qual st a fd):∃o,K.lookup a=some o/\o.data = .func fd:=by
 refine Vs F.ex fun oc od kV doc pm an dW ct EN e lk Gh=>?_;exact⟨_,lk,rfl⟩
theorem gW{P:dG}{w:bQ}{K:Frag}{mg:Str->Option av}{base:aY}{C:Cfg}{x qual:Str}{st:bz}{N ps:List Str}{Γ:List SK}{k n:Nat}{kG:Option Bool}{Fb:DS}(T:vg K mg x qual st ps)(S:bY N ps (aR st))(hn:ps.length=n)(D8:∀i,i<n->Γ[i]?=some .par)
  (body:∀(f:ay) (dW:av),(mg x=some (.ref f)/\∃o fd,K.lookup f=some o/\o.data = .func fd/\fd.code=dW)->∀(A:cH) (outer:List Env) (s:aA) (H:Hp) (E:XK),jf k (A.deeper (envOfC qual (aR st) s.heap.objs.size f dW))->
   vC ((qp (p9 P w) P w K mg base N qual (aR st) f dW A outer s H E).eX (lH (qp (p9 P w) P w K mg base N qual (aR st) f dW A outer s H E) fun _=>E)) (fG st) (oG K C H Γ (fun _=>E) kG Fb)) :
  FD P w K mg base C (k+1) x ps n (cV N.length Fb) kG:=by
 refine bA T fun a fd Fu hm hb=>?_;clear T;exact⟨a,fd,WX Fu S hn D8 (fun dW hc=>body a dW ⟨hm,let⟨o,h1,h2⟩:=yN Fu;⟨o,fd,h1,h2,hc⟩⟩),hm,Fu.kp,hb,yN Fu⟩
theorem bx{X:Cx}(Fn:FD X.prog X.w X.K X.mg X.base C k x ps n F (some ES))(hr:jf j X.A)(hj:k<=j)
  (ha:PA (X.eX (lH X E)) (e::es) (ER X.K C G0 Γ E fs κ)) (hlen:∀st ds,fs st = .ok ds->ds.length=n) (hkc:OW ES=aE6:=by rfl) (hg:Gl X x:=by rfl) (Ai:(x==("__debug__" : Str))=false:=by decide) (he:bN (e::es) X.env=(false,eval e X.env)::bN es X.env:=by rfl) (uS:(backTo pos (bN es X.env)).any (·.1)=false:=by rfl) :
  PE (X.eX (lH X E)) (.Call (.Name x p) (e::es) [] pos) (tD X.K C G0 Γ E (cQ F fs) aE6):=by
 refine Gb Fn.ex fun a fd h1 h2 h3 h4 _=>?_;subst hkc;exact Sj h1 (hr.mono hj) h2 h3 h4 ha hlen hg Ai he uS
theorem AF{X:Cx}(Fn:FD X.prog X.w X.K X.mg X.base C k x ps n F none)(hr:jf j X.A)(hj:k<=j)
  (ha:PA (X.eX (lH X E)) (e::es) (ER X.K C G0 Γ E fs κ)) (hlen:∀st ds,fs st = .ok ds->ds.length=n) (hg:Gl X x:=by rfl) (Ai:(x==("__debug__" : Str))=false:=by decide) (he:bN (e::es) X.env=(false,eval e X.env)::bN es X.env:=by rfl) (uS:(backTo pos (bN es X.env)).any (·.1)=false:=by rfl) :
  PE (X.eX (lH X E)) (.Call (.Name x p) (e::es) [] pos) (V2 X.K C G0 Γ E (cQ F fs)):=by
 refine Gb Fn.ex fun a fd h1 h2 h3 h4 _=>?_;exact OY h1 (hr.mono hj) h2 h3 h4 ha hlen hg Ai he uS
theorem pO{cl cs:List (Str×ay)}(h:∀p∈cl,cs.lookup p.1=some p.2):∀x c,cl.lookup x=some c->cs.lookup x=some c:=fun x c e=>by
 induction cl with
 | nil=>cases e
 | cons p cl ih=>obtain⟨n,a⟩:=p;rw[uI]at e;by_cases hx:(x==n)=true;rw[hx] at e;cases e;rw[aM8.mp hx];exact h (n,c) (.head _);rw[N5] at hx;rw[hx] at e;exact ih (fun q m=>h q (.tail _ m)) e
theorem lookup_mem:∀{names:List (Str×β)},names.lookup x=some k->(x,k)∈names
 | [],e=>by cases e
 | (n,k')::ns,e=>by
  rw[uI]at e;by_cases hx:(x==n)=true;rw[hx] at e;cases e;rw[aM8.mp hx];exact .head _;rw[N5] at hx;rw[hx] at e;exact .tail _ (lookup_mem e)
theorem mq{names:List (Str×NameKind)}{cl:List (Str×ay)}(h:(names.all fun p=>(p.2 != .cell&&p.2 != .free) || (cl.lookup p.1).isSome)=true):∀x,(names.lookup x=some .cell\/names.lookup x=some .free)->∃c,cl.lookup x=some c:=fun x e=>by
 have go:∀{k:NameKind},names.lookup x=some k->(k != .cell&&k != .free)=false->∃c,cl.lookup x=some c:=fun {k} e hk=>by have:=f7.mp h _ (lookup_mem e);dsimp only at this;rw[hk,FZ]at this;exact N6.mp this
 rcases e with e|e;exact go e rfl;exact go e rfl
theorem pP{X:Cx}{C:Cfg}{G0:Hp}{Γ:List SK}{E:L2.St->XK}{tg iter elt:bF}{ifs:List bF}{scope:iQ}{cl:List (Str×ay)}{pos:Pos}{g:TG}{bind:DB}{gi:DI}{ft fe:DF}{tM ES:Kd}{n z:Bool}{gM:List Str}{caps:List (Nat×Str)}{kk:Nat}{fr:List Nat}
  (yL:PI X tg iter (Lz X.K C G0 Γ E z gi)) (b:IZ X C G0 Γ tg elt ifs scope cl g bind ft fe tM n z gM caps) (hs:∀x,qy iter X.env x=pure x:=by intro _;rfl) (hk:vM z n=ES:=by rfl) (h1:gM.length=kk:=by rfl) (h2:caps.map (·.1)=fr:=by rfl) :
  PE X (.ListComp elt [⟨tg,iter,ifs,0⟩] scope pos) (tD X.K C G0 Γ E (gq gi kk fr bind ft fe) ES):=by
 subst hk;subst h1;subst h2;exact Sx yL b hs
theorem E6{X:Cx}{C:Cfg}{G0:Hp}{Γ:List SK}{E:L2.St->XK}{kG:Option Bool}{tg iter elt:bF}{ifs:List bF}{scope:iQ}{cl:List (Str×ay)}{pos:Pos}{g:TG}{bind:DB}{gi:DI}{ft fe:DF}{tM:Kd}{n z:Bool}{gM:List Str}{caps:List (Nat×Str)}{kk:Nat}{fr:List Nat}
  {i:Nat} {k:SK} {x:Str} {pos' Pg:Pos} (hN:X.N.Nodup) (yL:PI X tg iter (Lz X.K C G0 Γ E z gi)) (b:IZ X C G0 Γ tg elt ifs scope cl g bind ft fe tM n z gM caps) (hk:Γ[i]?=some k:=by rfl) (hl:k.takes (vM z n)=true:=by rfl) (hi:X.N[i]?=some x:=by rfl) (hx:X.env.scope.names.lookup x=some .local:=by rfl)
  (hsw:swapsWith (.ListComp elt [⟨tg,iter,ifs,0⟩] scope pos) (some (.Name x pos')) Pg.line X.env=pure true:=by rfl) (hs:∀x,qy iter X.env x=pure x:=by intro _;rfl) (h1:gM.length=kk:=by rfl) (h2:caps.map (·.1)=fr:=by rfl) :
  PS X (.Assign [.Name x pos'] (.ListComp elt [⟨tg,iter,ifs,0⟩] scope pos) Pg) (oG X.K C G0 Γ E kG (eE i (gq gi kk fr bind ft fe))):=by
 subst h1;subst h2;exact Sy hN yL b hk hl hi hx hsw hs
end Dm
end aE2
section aE7
namespace Dm
open PySem PySem.Spec PyProof.Rows L2
def Ite(K:aE)(a:ay):It:=
 ⟨fun i H=>∃xs x,lB K H a xs/\xs[i]?=some x,fun i H x H'=>∃T y,H T=none/\H'=upd H T (.tup [.int i,y])/\x = .ref T/\∀xs,lB K H a xs->xs[i]?=some y,fun i H=>∃xs,lB K H a xs/\xs.length<=i⟩
theorem Kv{P:dG}{w:bQ}{K:aE}{elts:List bF}{x1}{pos:Pos}(a e it:ay)(hei:e≠it):Turn P w K (.Tuple elts x1 pos) (Ite K a) [e,it] e (fun i h=>(∃old,IsEnum h e it i old)/\h.IsListIter it a i) where
 mem:=by simp
 obj:=fun i h st b hb=>by
  obtain⟨⟨old,he⟩,o,ho,c,d⟩:=st;rcases bW.mp hb with rfl | hb;exact⟨_,he,fun v z=>by cases z⟩;obtain rfl:b=it:=by simpa using hb
  exact⟨o,ho,fun v z=>by rw[d]at z;cases z⟩
 keep:=fun i h h' st k=>⟨st.1.imp fun old he=>k e (by simp) _ he,st.2.at fun o z=>k it (by simp) o z⟩
 item:=by
  intro X hP hw hK hc i ak s σ H E I hf st hg;subst hP hw hK;obtain ⟨⟨old,he⟩,hit⟩:=st;refine dO hg fun xs x hq hx=>?_;clear hg;refine cM (I.list hq) fun bq rv p hz=>?_;refine aU (rv.get hx) fun u hu ru=>?_;have fe:=hf e (by simp);have fi:=hf it (by simp);have hn:H s.heap.objs.size=none:=I.fE.fresh (bg _);refine wpAny_pyNext_enum_item he hit p.isList (x:=u) (by simpa using hu) hei fun h' ho C8 hT hsz hk=>⟨_,rfl,?_⟩
  have kp:∀b o,b∉[e,it]->s.heap.get? b=some o->h'.get? b=some o:=fun b o hb q=>hk b o (fun z=>hb (by simp[z])) (fun z=>hb (by simp[z])) q;have lt:∀b o,s.heap.get? b=some o->b≠s.heap.objs.size:=fun b o q=>dH (cu q);have I1:L2.Inv X ak σ (upd H s.heap.objs.size (.tup [.int i,x])) {s with heap:=h',toks:=s.toks+1}:=by
   refine Inv.CQ I (s':={s with heap:=h',toks:=s.toks+1}) (ch:=[e,it]) rfl ⟨fun b o q n nf nx=>kp b o nx q,fun b o q n nf nx=>⟨o.slots,kp b o nx q⟩,fun b o q n nx=>?_,fun b o q nx=>⟨o,kp b o nx q⟩,fun b ys q=>?_,fun b o u' q=>?_,fun b zp zr q=>?_⟩ (fun b o q=>?_) I.bare (fun b hb=>?_);rw[aW (lt b o q)];exact n;rw[aW (bf q hn)];exact q;rw[aW (bf q hn)];exact q;rw[aW (bf q hn)];exact q;by_cases hb:b=s.heap.objs.size;subst hb;rw[bS] at q;cases q;exact⟨by simp only[dg,qZ];rw[gG];decide,[.int i s.toks,u],.cons ⟨_,rfl⟩ (.cons ru .nil),⟨_,hT,rfl,0,rfl⟩⟩;rw[aW hb] at q;refine(I.fE b o q).zA (fun c v w9 z=>kp c v ?_ z) (fun c z=>by rw[aW (bf z hn)];exact z) (fun c ys z=>by rw[aW (bf z hn)];exact z) fun c zo ys z=>by rw[aW (bf z hn)];exact z
   intro hm;rcases bW.mp hm with rfl|hm;rcases w9 with rfl | w9;rw[fe.1]at q;cases q;rw[fe.1]at w9;cases w9;obtain rfl:c=it:=by simpa using hm
   rcases w9 with rfl | w9;rw[fi.1] at q;cases q;rw[fi.1] at w9;cases w9;refine w6 (hf b hb) fun f0 f1 f2 f3 f4 f5=>?_;exact⟨f3,f1,f4,f5⟩
  have ne:e≠s.heap.objs.size:=lt e _ he;have ni:it≠s.heap.objs.size:=by obtain⟨o,z,_⟩:=hit;exact lt it _ z
  refine w6 fe fun f0 f1 f2 f3 f4 f5=>?_;clear fe;refine wpAny_letOwnedTupleGo_enum ho fun h2 Rb VR=>?_;have I2:L2.Inv X ak σ (upd H s.heap.objs.size (.tup [.int i,x])) {s with heap:=h2,toks:=s.toks+1}:=I1.turned (t':=s.toks+1) (fun b o hb q=>(VR.2 b hb).trans q) (by rw[aW ne];exact f0) f1 f3 f4 f5;refine⟨.ref s.heap.objs.size,_,I2,rfl,⟨_,x,hn,rfl,rfl,fun ys hy=>by rw[I.CS hy hq];exact hx⟩,⟨⟨u,by simpa using Rb⟩,C8.at fun o z=>(VR.2 it (eU hei)).trans z⟩,fun b hb=>?_⟩;rcases bW.mp hb with rfl | hb;rw[aW ne];exact f0;obtain rfl:b=it:=by simpa using hb
  rw[aW ni];exact fi.1
 done:=by
  intro X hP hw hK hc i ak s σ H E I hf st hg;subst hP hw hK;obtain ⟨⟨old,he⟩,hit⟩:=st;refine aU hg fun xs hq hx=>?_;clear hg;refine cM (I.list hq) fun bq rv p hz=>?_;refine w6 (hf it (by simp)) fun f0 f1 f2 f3 f4 f5=>?_;have hl:=rv.length;exact wpAny_pyNext_enum_end (I.ok.hd hc) he hit p.isList (rj (by simp;lia)) fun h' eb=>⟨rfl,I.turned (t':=s.toks) (fun b o hb e=>eb b o hb e) f0 f1 f3 f4 f5⟩
 self:=fun _ _ _ _ _ st h=>by
  obtain⟨⟨old,he⟩,_⟩:=st;exact LS he h
def iEn(K:aE)(ta:TA):TI:=fun σ H R=>ta σ H fun vs H1=>∃a,vs=[.ref a]/\(∃xs,lB K H1 a xs)/\R (Ite K a) H1
theorem Kw:jU "enumerate"=some (.type "enumerate"):=by decide +kernel
section
theorem SH{p pos tp:Pos}{ta:TA}(hg:Gl X "enumerate")(hm:X.mg "enumerate"=none)(ha:PA X [a] ta)(hs:bN [a] X.env=[(false,eval a X.env)]:=by rfl):PI X (.Tuple elts x1 tp) (.Call (.Name "enumerate" p) [a] [] pos) (iEn X.K ta):=by
 intro ak s σ H R I h;refine Call_ (uP I hg hm Kw (N2 (gS (ha pos ak s σ H _ I h) fun us s1 kX=>?_) hs rfl));refine bA kX fun vs H1 I1 r1 q1=>?_;clear kX;refine cM q1 fun a e b8 q=>?_;clear q1;obtain ⟨xs,hq⟩:=b8;subst e;cases r1 with
 | cons r rr=>
  cases rr;cases r;refine cM (I1.list hq) fun bq rv p hz=>?_;refine call_enumerate_list p.isList fun h' he hit hsz hk=>LS he ?_;have I2:L2.Inv X ak σ H1 {s1 with heap:=h'}:=I1.kept (t':=s1.toks) hk;refine⟨s1.heap.objs.size+1,[s1.heap.objs.size+1,s1.heap.objs.size],_,_,H1,rfl,I2,Kv a _ _ (Nat.succ_ne_self _),⟨⟨.none,he⟩,hit⟩,fun b hb=>?_,q⟩;have mW:s1.heap.objs.size<=b:=by
   rcases bW.mp hb with rfl | hb;exact xh _;obtain rfl:b=s1.heap.objs.size:=by simpa using hb
   exact bg _
  exact I1.JB mW (I1.fE.fresh mW)
def enD(ds:List D):List D:=ds.mapIdx fun i d=>.tup [.int i,d]
def SI(f:DF):DI:=fun st=>match f st with | .ok (.lst ds)=>.ok (enD ds) | .ok _=>.bad | .ex c p=>.ex c p | .bad=>.bad
theorem SJ(hm:X.mg "enumerate"=none)(ha:PE X a (tD X.K C G0 Γ E f κ))(l:z=true->κ.le .old=true)(hgl:Gl X "enumerate":=by rfl)(hs1:bN [a] X.env=[(false,eval a X.env)]:=by rfl):PI X (.Tuple elts x1 tp) (.Call (.Name "enumerate" p) [a] [] pos) (Lz X.K C G0 Γ E z (SI f)):=(SH hgl hm (gU ha jL hs1) hs1).imp fun σ H Q zz=>by
 refine dO zz fun A st r q=>?_;clear zz;refine⟨A,st,r,?_⟩;unfold SI at q;cases hf:f st with
 | bad=>rw[hf]at q;exact q
 | ex c p=>rw[hf]at q;exact q
 | ok d=>
  rw[hf] at q;cases d with
  | lst ds=>
   dsimp only at q;intro v H1 e1 w;have w':Rep X.K C (er H1 (zB z A)) (.lst ds) v:=by
    unfold zB;cases z with
    | true=>exact w.le r e1 (κ':=.old) (l rfl)
    | false=>rw[aM5 (by decide),mS];exact w.rep
   rw[Rep] at w';refine bA w' fun a xs b8 h2 h3=>?_;clear w';obtain rfl:=b8;refine⟨a,rfl,⟨xs,(aJ _ _).seq h2⟩,q _ _ e1 fun i H3 A3 e3 nA=>⟨fun d hd=>?_,fun hd=>?_⟩⟩;unfold enD at hd;rw[FJ] at hd;cases wm:ds[i]? with
   | none=>rw[wm]at hd;cases hd
   | some d0=>rw[wm] at hd;cases hd;refine aU (h3.get' wm) fun v hv rv=>?_;have s3:lB X.K H3 a xs:=(e3.trans (aJ _ _)).seq h2;refine⟨⟨xs,v,s3,hv⟩,fun x H' qq=>?_⟩;refine uN qq fun T y hT hH ex hx=>?_;clear qq;subst hH ex;have:=hx xs s3;rw[hv] at this;cases this;have nT:T∉A3:=fun m=>nA T m hT;refine⟨cX hT,?_⟩;have up:aI (er H3 A3) (er (upd H3 T (.tup [.int i,v])) A3):=aL (cX hT);rw[Rep];refine⟨T,_,rfl,.inl (.inl (by rw[aV nT,bS])),?_⟩;rw[aQ];refine⟨.int i,[v],rfl,yy,?_⟩;rw[aQ];refine⟨v,[],rfl,rv.same ((aJ _ _).trans (e3.trans up)) _,?_⟩;rw[aQ]
   unfold enD at hd;rw[FJ] at hd;refine⟨xs,(e3.trans (aJ _ _)).seq h2,by rw[h3.len];exact nM.mp (by cases wm:ds[i]? with|none=>rfl|some d=>rw[wm]at hd;cases hd)⟩
  | _=>exact q.elim
theorem SM{bind:DB}{g:TG}{gi:DI}(hp:PassesOwn (aD X.prog X.w) X.A X.env X.xe)(hc:X.calm=true)(hI:PI X tg iter (Lz X.K C G0 Γ E true gi))(hg:PG X tg g)(hB:qF X.K C G0 Γ g bind)(hb:vC X ss (oG X.K C G0 Γ E kG F))(hs:∀x,qy iter X.env x=pure x:=by intro _;rfl) :
  PS X (.For tg iter ss [] pos) (oG X.K C G0 Γ E kG (iw gi bind F)):=(Gm hp hc hI hg hb hs).imp fun D σ H zz=>by
 refine dO zz fun A st r q=>?_;clear zz;refine⟨A,st,r,?_⟩;unfold iw at q;cases hg:gi st with
 | bad=>rw[hg]at q;exact q.elim
 | ex c p=>rw[hg]at q;exact fun H' e'=>q σ H' A (r.mono e') (aL e')
 | ok ds=>rw[hg] at q;intro J H1 e1 hJ;exact ve hB hJ r e1 q
end
end Dm
end aE7
section aE8
namespace Dm
open PySem PySem.Spec PyProof.Rows L2 PySem.W
section
def aL6:D->D->R D:=fun a b=>match a,b with
 | .lst ds,.int k=>if(dS ds&&decide (0<=k)&&decide (k<5000)&&decide (ds.length*k.toNat<=5000))=true then .ok (.lst (mG k.toNat ds).flatten)else .bad
 | _,_=>.bad
def vh:List D->R D:=fun ds=>match ds with | [.int i]=>.ok (.int (if i<0 then -i else i))|_=>.bad
theorem Pr:jU "abs"=some (.builtin "abs"):=by decide +kernel
theorem E7:jU "tuple"=some (.type "tuple"):=by decide +kernel
theorem J0{K:Frag}:V1 K C (fun xs H Q=>∃i,xs=[.int i]/\Q (.int (if i<0 then -i else i)) H) vh .new:=fun G0 Γ E σ A st H ds xs Q r w q=>by
 unfold vh at q;split at q;rename_i z;split at z;rename_i i;cases z;refine aU (nj w) fun v je w1=>?_;obtain rfl:=je;rw[Rep] at w1;subst w1;exact⟨i,rfl,q _ H (.refl _) (.flat r (.refl _) (by rw[gJ] <;> simp) yy _)⟩;cases z;rename_i z;split at z <;> cases z;exact q.elim
def isI:D->Bool | .int _=>true|_=>false
def al0:D->Bool | .tup (.int _::_)=>true|_=>false
def al1:D->Bool | .tup (.tup _::_)=>true|_=>false
def qH(ds:List D):Bool:=decide (ds.length<64)&&dS ds&&ds.all (fun d=>nl d&&decide (dep d<=50))&&ds.all (fun a=>ds.all fun b=>gZ a b)&&(ds.all isI || ds.all al0 || ds.all al1)
theorem Pu(h:qH ds=true):t7 ds:=by
 unfold qH at h;simp only[bR,lg,aM9,f7]at h;obtain⟨⟨⟨⟨h1,h2⟩,h3⟩,h4⟩,h5⟩:=h;refine⟨?_,h1,fun a ha b hb=>h4 a ha b hb,fun a ha=>(h3 a ha).1,fun a ha=>(h3 a ha).2⟩;rcases h5 with(h5|h5)|h5;exact⟨_,.nums fun d hd=>by have:=h5 d hd;unfold isI at this;split at this;exact⟨_,rfl⟩;cases this⟩;exact⟨_,.oY fun d hd=>by have:=h5 d hd;unfold al0 at this;split at this;exact⟨_,_,rfl⟩;cases this⟩;exact⟨_,.WB fun d hd=>by have:=h5 d hd;unfold al1 at this;split at this;exact⟨_,_,rfl⟩;cases this⟩
def gD:List D->R D:=fun ds=>match ds with
 | [.lst es]=>if qH es=true then .ok (.lst (eO es))else .bad
 | _=>.bad
theorem qh{K:Frag}:V1 K C (OC K C) gD .new:=fun G0 Γ E σ A st H ds xs Q r w q=>by
 cases hg:gD ds with
 | bad=>rw[hg]at q;exact q.elim
 | ex c p=>unfold gD at hg;split at hg <;> (try split at hg) <;> cases hg
 | ok d=>
  rw[hg] at q;unfold gD at hg;split at hg;rename_i es;split at hg;rename_i hc;cases hg;refine aU (nj w) fun v je w1=>?_;obtain rfl:=je;have n:dS es=true:=by unfold qH at hc;simp only[bR]at hc;exact hc.1.1.1.2
  refine⟨v,es,rfl,w1,Pu hc,fun p ws hp NK=>q _ _ (cX hp) (.lst r (.refl _) hp (NK.part (.nw (.refl _)) _ ?_))⟩;exact gy fun d hd=>lN n ((bZ es).mem_iff.mp hd);cases hg;cases hg
end
section
def pQ:List D->R D:=fun ds=>match ds with | [.lst es]=>if dS es=true then .ok (.tup es)else .bad|_=>.bad
theorem AG{K:Frag}:V1 K C (fun xs H Q=>∃p ys,xs=[.ref p]/\((lB K H p ys/\∀l,H l=none->Q (.ref l) (upd H l (.tup ys)))\/(mZ K H p ys/\Q (.ref p) H))) pQ .new:=fun G0 Γ E σ A st H ds xs Q r w q=>by
 unfold pQ at q;split at q;rename_i zz;split at zz;rename_i es;split at zz;rename_i n;cases zz;refine aU (nj w) fun v je w1=>?_;obtain rfl:=je;refine bA w1.items fun p ys b8 s t=>?_;obtain rfl:=b8;refine⟨p,ys,rfl,.inl ⟨s,fun l hl=>q _ _ (cX hl) (.flat r (cX hl) (by rw[gJ];exact n) ?_ _)⟩⟩;rw[Rep];exact⟨l,ys,rfl,.inl (.inl bS),t.same (cX hl) _⟩;cases zz;cases zz;rename_i zz;split at zz;split at zz <;> cases zz;cases zz;exact q.elim
def iTp(f:DF):DI:=fun st=>match f st with | .ok (.tup ds)=>.ok ds | .ok _=>.bad | .ex c p=>.ex c p | .bad=>.bad
theorem Xc(he:PE X iter (tD X.K C G0 Γ E f κ))(l:z=true->κ.le .old=true):PI X tg iter (Lz X.K C G0 Γ E z (iTp f)):=(VL he).imp fun σ H Q zz=>by
 refine dO zz fun A st r q=>?_;clear zz;refine⟨A,st,r,?_⟩;unfold iTp at q;cases hf:f st with
 | bad=>rw[hf]at q;exact q
 | ex c p=>rw[hf]at q;exact q
 | ok d=>
  rw[hf] at q;cases d with
  | tup ds=>
   dsimp only at q;intro v H1 e1 w;have w':Rep X.K C (er H1 (zB z A)) (.tup ds) v:=by
    unfold zB;cases z with
    | true=>exact w.le r e1 (κ':=.old) (l rfl)
    | false=>rw[aM5 (by decide),mS];exact w.rep
   rw[Rep] at w';refine bA w' fun a xs b8 h2 h3=>?_;clear w';obtain rfl:=b8;have sq:∀{F F':Hp},aI F F'->mZ X.K F a xs->mZ X.K F' a xs:=fun e h=>aI.tup e h;refine⟨a,rfl,⟨xs,sq (aJ _ _) h2⟩,q _ _ e1 fun i H3 A3 e3 _=>⟨fun d hd=>?_,fun hd=>?_⟩⟩;refine aU (h3.get' hd) fun v hv rv=>?_;have s3:mZ X.K H3 a xs:=sq (e3.trans (aJ _ _)) h2;refine⟨⟨xs,v,s3,hv⟩,fun x H' kX=>?_⟩;obtain ⟨hH,hx⟩:=kX;subst hH;have:=hx xs s3;rw[hv] at this;cases this;exact⟨.refl _,rv.same e3 _⟩;exact⟨xs,sq (e3.trans (aJ _ _)) h2,by rw[h3.len];exact nM.mp hd⟩
  | _=>exact q.elim
theorem all_range(bs:List Bool)(n:Nat)(hn:n=bs.length):(dU n).all (fun i=>bs.getD i false)=bs.all id:=by
 subst hn;rw[oV,f7,f7];constructor;intro h b hb;obtain⟨i,hi,rfl⟩:=j4.mp hb;have:=h i (l6.mpr hi);simpa[hi] using this;intro h i hi;have hi:=l6.mp hi;have:=h bs[i] (uG hi);simpa[hi] using this
theorem Pw(hh:X.A.handled=none):lV X (.builtin "all") (fun xs H Q=>∃(p:ay) (bs:List Bool),xs=[.ref p]/\lB X.K H p (bs.map V.bl)/\Q (.bl (bs.all id)) H):=by
 intro ak s σ H xs us Q I r ⟨p,bs,e,hq,q⟩;subst e;refine aU (vals1 r) fun u je rx=>?_;obtain rfl:=je;cases rx;refine cM (I.list hq) fun bq rv pl hz=>?_;have hl:bq.length=bs.length:=by rw[<- rv.length,br]
 have gr:p<s.heap.objs.size:=by obtain⟨o,h1,_⟩:=pl.isList;exact cu h1
 have keep:∀b o,s.heap.get? b=some o->(s.heap.push {cls:=.type "list_iterator",data:=.fields #[.ref p,.int 0 0]}).get? b=some o:=fun b o e=>bU _ e;refine call_all_walk (LD pl.isList ?_);refine⟨s.heap.objs.size,_,_,_,_,_,fun i=>bs.getD i false,rfl,Walks.list (A:=X.A.in1) hh _ p (dH gr) bq.toArray,⟨⟨_,eV _ rfl,rfl,rfl⟩,pl.isList.at fun o e=>keep p o e⟩,fun i v s' Q' E' hP hQ'=>?_,fun h' tk hk=>?_⟩;have hi:i<bq.length:=by
  have:bq[i]?=some v:=by simpa using hP
  exact(eL.mp this).1
 have hb:(bs.map V.bl)[i]?=some (.bl (bs.getD i false)):=by
  rw[di,dz (by lia)];have:i<bs.length:=by lia
  simp[this]
 refine aU (rv.get hb) fun u h1 h2=>?_;have h3:bq[i]?=some v:=by simpa using hP
 rw[h1]at h3;cases h3;cases(show v=Value.bool _ from h2);exact aC hQ';rw[all_range bs _ (by simp[hl])];exact⟨.bl (bs.all id),H,I.kept fun b o e=>hk b o (by simpa using dH (cu e)) (keep b o e),rfl,q⟩
def boolsOf:List D->Option (List Bool)
 | []=>some []
 | .bl b::ds=>(boolsOf ds).map (b :: ·)
 | _::_=>none
theorem yO:∀{ds:List D} {bs:List Bool},boolsOf ds=some bs->ds=bs.map D.bl
 | [],bs,h=>by cases h;rfl
 | .bl b::ds,bs,h=>by
  rw[boolsOf]at h;cases hb:boolsOf ds with
  | none=>rw[hb]at h;cases h
  | some cs=>rw[hb]at h;cases h;rw[bG,<- yO hb]
 | .dh::_,bs,h=>by cases h
 | .int _::_,bs,h=>by cases h
 | .str _::_,bs,h=>by cases h
 | .tup _::_,bs,h=>by cases h
 | .lst _::_,bs,h=>by cases h
 | .d8 _ _::_,bs,h=>by cases h
@[simp] theorem E8:∀bs:List Bool,boolsOf (bs.map D.bl)=some bs
 | []=>rfl
 | b::bs=>by rw[bG,boolsOf,E8 bs];rfl
def Hu:List D->R D:=fun ds=>match ds with | [.lst es]=>(match boolsOf es with|some bs=>.ok (.bl (bs.all id))|none=>.bad)|_=>.bad
theorem Xd:jU "all"=some (.builtin "all"):=by decide +kernel
theorem J1{K:Frag}{H:Hp}:∀{bs:List Bool} {xs:List V},aQ K C H (bs.map D.bl) xs->xs=bs.map V.bl
 | [],xs,h=>by rw[nI,aQ]at h;exact h
 | b::bs,xs,h=>by
  rw[bG,aQ] at h;refine bA h fun v r b8 q t=>?_;clear h;obtain rfl:=b8;rw[Rep] at q;subst q;rw[J1 t];rfl
theorem SN{K:Frag}:V1 K C (fun xs H Q=>∃(p:ay) (bs:List Bool),xs=[.ref p]/\lB K H p (bs.map V.bl)/\Q (.bl (bs.all id)) H) Hu .new:=fun G0 Γ E σ A st H ds xs Q r w q=>by
 unfold Hu at q;split at q;rename_i zz;split at zz;rename_i es;split at zz;rename_i bs hb;cases zz;refine aU (nj w) fun v je w1=>?_;obtain rfl:=je;refine bA w1.items fun p ys b8 s t=>?_;obtain rfl:=b8;rw[yO hb]at t;have:=J1 t;subst this;exact⟨p,bs,rfl,s,q _ H (.refl _) (.flat r (.refl _) (by rw[gJ] <;> simp) zI _)⟩;cases zz;cases zz;rename_i zz;split at zz;split at zz <;> cases zz;cases zz;exact q.elim
end
end Dm
end aE8
section aF0
namespace Dm
open PySem PySem.Spec PyProof.Rows L2
def cellsOf:List D->Option (List (Int×Int))
 | []=>some []
 | .tup [.int r,.int c]::ds=>(cellsOf ds).map ((r,c) :: ·)
 | _=>none
def intsOf:List D->Option (List Int)
 | []=>some []
 | .int i::ds=>(intsOf ds).map (i :: ·)
 | _=>none
section
variable {K:aE}{C:Cfg}{H:Hp}
theorem AH:∀{ds:List D} {cs:List Int},intsOf ds=some cs->ds=cs.map D.int
 | [],cs,h=>by cases h;rfl
 | .int r::ds,cs,h=>by
  rw[intsOf]at h;refine aU (Option.map_eq_some_iff.mp h) fun cs' h1 b8=>?_;obtain rfl:=b8;rw[AH h1];rfl
theorem AI:∀{ns:List Int} {vs:List V},aQ K C H (ns.map D.int) vs->vs=ns.map V.int
 | [],_,h=>by rw[nI,aQ]at h;exact h
 | n::ns,_,h=>by
  rw[bG,aQ] at h;refine bA h fun v r b8 q t=>?_;clear h;obtain rfl:=b8;rw[Rep] at q;subst q;rw[AI t];rfl
end
end Dm
namespace Dm
theorem Hv(h:u+64<c):u+2<c:=by lia
theorem Xe(h:u+64<c):u+1<c:=by lia
end Dm
end aF0
section al2
namespace Dm
open PySem PySem.Spec PyProof.Rows L2
def KL(K:aE)(H:Hp)(ps:List SP)(zK:List (List (List Int))):Prop:=zK.length=ps.length/\∀z∈ps.zip zK,mT K H z.2 z.1.2.1
section
theorem keys_eq(I:L2.Inv X ak σ H s):∀{ps:List SP} {zK:List (List (List Int))},(∀p∈ps,mT X.K H p.1 p.2.1)->KL X.K H ps zK->ps.map (·.1)=zK
 | [],[],_,_=>rfl
 | [],_::_,_,h=>by cases h.1
 | _::_,[],_,h=>by cases h.1
 | p::ps,k::zK,hk,h=>by
  rw[bG,keys_eq I (fun q m=>hk q (.tail _ m)) ⟨by simpa using h.1,fun z m=>h.2 z (.tail _ m)⟩];rw[(Hk.kH (intKind X.prog X.w)).inj (rM I (hk p (.head _))) (rM I (h.2 (p,k) (.head _)))]
def al3(K:aE)(neg:Bool):R2:=fun x y H Q=>∃a b ob ps ks zK,x = .ref b/\y = .ref a/\H a=some (.ext (DY a ob ps))/\(∀p∈ps,mT K H p.1 p.2.1)/\KL K H ps zK/\mT K H ks b/\(ps.map (·.1)=zK->Q (.bl (if neg then !(atKey ps ks).isSome else(atKey ps ks).isSome)) H)
theorem Kx(hu:X.A.units+2<cLine):rD X (iR .NotIn) (al3 X.K true):=by
 intro ak s σ H x y v u Q I rx ry h;obtain⟨a,b,ob,ps,ks,zK,rfl,rfl,ha,hk,hkl,hb,q⟩:=h;cases rx;cases ry;have q:=q (keys_eq I hk hkl);obtain⟨dd,hd,_⟩:=tQ I ha hk;exact wpAny_notIn_heap (show X.A.units+1+1<cLine from hu) (rM I hb) hd dd ⟨.bl (!(atKey ps ks).isSome),H,I.tok _,rfl,q⟩
def al4(K:aE):V->V->V->Hp->(Hp->Prop)->Prop:=fun o i v H Q=>∃a b ob ps ks zK,o = .ref a/\i = .ref b/\H a=some (.ext (DY a ob ps))/\(∀p∈ps,mT K H p.1 p.2.1)/\KL K H ps zK/\mT K H ks b/\ps.length<cU/\∀u Sb,RelV v u->ps.map (·.1)=zK->Q (upd H a (.ext (DY a Sb (storedH ps ks b u))))
theorem Hw{ps:List SP}{ks:List (List Int)}{b:ay}{u:av}:(storedH ps ks b u).length<=ps.length+1:=by
 unfold storedH;split;rw[br];exact xh _;rw[cG];exact bg _
theorem al5(hu:X.A.units+2<cLine):Zx X (al4 X.K):=by
 intro ak s σ H o i v ov iv u Q I ro ri rv h;obtain⟨a,b,ob,ps,ks,zK,rfl,rfl,ha,hk,hkl,hb,hl,q⟩:=h;cases ro;cases ri;obtain⟨dd,hd,hz⟩:=tQ I ha hk;refine wpAny_setItem_heap (hsz:=hz) (show X.A.units+1+1<cLine from hu) (rM I hb) dd fun h' dd' hs=>?_;have he:∃q,h'.get? a=some q:=let⟨q,_,_,hq,_⟩:=dd';⟨q,hq⟩;obtain⟨Sb,dy⟩:=DY.of hd (cI Hw hl) dd';exact⟨_,I.write (x:=a) (e:=a) (by rw[ha];trivial) (.inl rfl) (fun c w hc z=>(hs.2 c hc).trans z) he (E3 dy),q u _ rv (keys_eq I hk hkl)⟩
theorem Inv.al6(I:L2.Inv X ak σ H s):oJ<s.heap.objs.size:=
 Nat.lt_trans (by decide) (show dM<s.heap.objs.size from(I.mod.glob.keeps I.bk).lt)
def al7:TE:=fun σ H Q=>∀p o,H p=none->Q (.ref p) (upd H p (.ext (DY p o [])))
theorem Px{h:aY}(hb:(h.objs.size==oJ)=false):DY h.objs.size {cls:=.type "dict",data:=.dict #[]} [] (h.push {cls:=.type "dict",data:=.dict #[]}):=
 ⟨hb,i7 _,eV _ rfl,⟨rfl,rfl,rfl⟩,#[],0,rfl,fun _ _=>rfl,FG⟩
theorem SO:PE X (.Dict [] [] pos) al7:=fun ak s σ H Q I h=>
 wpAny_Dict_empty ⟨.ref s.heap.objs.size,_,I.laid (a:=s.heap.objs.size) (o:=.ext (DY s.heap.objs.size _ [])) (t':=s.toks) (fun _ _ q=>bU _ q) (bg _) (E3 (Px (aN1.mpr (eU (dH (Inv.al6 I)))))),rfl,h _ _ (I.fE.fresh (bg _))⟩
end
def E9:D->Option (List Int) | .tup ds=>intsOf ds|_=>none
def mU:List D->Option (List (List Int))
 | []=>some []
 | d::ds=>match E9 d,mU ds with|some a,some r=>some (a::r)|_,_=>none
def yP:D->Option (List (List Int)) | .tup ds=>mU ds|_=>none
def iy:List D->Option (List (List (List Int)×D×D))
 | []=>some []
 | k::v::r=>match yP k,iy r with|some a,some l=>some ((a,k,v)::l)|_,_=>none
 | _=>none
section
variable {K:aE}{C:Cfg}{H:Hp}
theorem Ea(h:E9 d=some a):d = .tup (a.map D.int):=by
 cases d with
 | tup ds=>rw[E9]at h;rw[AH h]
 | _=>cases h
theorem vN:∀{ds:List D} {ks:List (List Int)} {xs:List V},mU ds=some ks->aQ K C H ds xs->∃cs:List ay,xs=cs.map V.ref/\cs.length=ks.length/\∀z∈ks.zip cs,mZ K H z.2 (z.1.map V.int)
 | [],ks,xs,h,q=>by cases h;rw[aQ]at q;subst q;exact⟨[],rfl,rfl,fun z m=>nomatch m⟩
 | d::ds,ks,xs,h,q=>by
  rw[mU]at h;cases ha:E9 d with
  | none=>rw[ha]at h;cases h
  | some a=>
   cases hr:mU ds with
   | none=>rw[ha,hr]at h;cases h
   | some r=>
    rw[ha,hr] at h;cases h;rw[aQ] at q;obtain⟨v,vs,rfl,q1,q2⟩:=q;obtain⟨cs,rfl,hl,hz⟩:=vN hr q2;rw[Ea ha,Rep]at q1;obtain⟨c,ys,rfl,sq,rs⟩:=q1;have e:=AI rs;subst e;exact⟨c::cs,rfl,by simp[hl],fun z m=>by
     rcases bW.mp (show z∈(a,c)::r.zip cs from m)with rfl|m;exact sq;exact hz z m⟩
theorem qi(h:Rep K C H d v)(hk:yP d=some ks):∃b,v = .ref b/\mT K H ks b:=by
 cases d with
 | tup ds=>rw[Rep] at h;obtain⟨a,xs,rfl,sq,rs⟩:=h;obtain⟨cs,rfl,hl,hz⟩:=vN hk rs;exact⟨a,rfl,cs,sq,hl,hz⟩
 | _=>cases hk
theorem Ky(p:SP)(ps:List SP)(v:V)(vs:List V):nu (p::ps) (v::vs) = .ref p.2.1::v::nu ps vs:=rfl
theorem tT(h:Vals vs us):vs.length=us.length:=h.length
theorem pR:∀{ps:List SP} {vs:List V} {ds:List D} {l:List (List (List Int)×D×D)},vs.length=ps.length->aQ K C H ds (nu ps vs)->iy ds=some l->
  ds=l.flatMap (fun z=>[z.2.1,z.2.2])/\KL K H ps (l.map (·.1))/\aQ K C H (l.map (·.2.2)) vs/\aQ K C H (l.map (·.2.1)) (ps.map fun p=>.ref p.2.1)
 | [],[],ds,l,_,q,h=>by
  have:nu [] []=[]:=rfl;rw[this]at q;cases ds with
  | nil=>cases h;exact⟨rfl,⟨rfl,fun z m=>nomatch m⟩,by rw[nI,aQ],by rw[nI,aQ];rfl⟩
  | cons d ds=>rw[aQ]at q;obtain⟨_,_,z,_⟩:=q;cases z
 | [],_::_,_,_,e,_,_=>by cases e
 | _::_,[],_,_,e,_,_=>by cases e
 | p::ps,v::vs,ds,l,e,q,h=>by
  rw[Ky]at q;cases ds with
  | nil=>rw[aQ]at q;cases q
  | cons k ds=>
   cases ds with
   | nil=>rw[aQ]at q;obtain⟨_,_,z,_,q⟩:=q;cases z;rw[aQ]at q;cases q
   | cons w ds=>
    rw[iy]at h;cases ha:yP k with
    | none=>rw[ha]at h;cases h
    | some a=>
     cases hr:iy ds with
     | none=>rw[ha,hr]at h;cases h
     | some r=>rw[ha,hr] at h;cases h;rw[aQ] at q;obtain⟨_,_,z,q1,q⟩:=q;cases z;rw[aQ] at q;obtain⟨_,_,z,q2,q⟩:=q;cases z;obtain⟨i1,i2,i3,i4⟩:=pR (by simpa using e) q hr;obtain⟨b,z,hb⟩:=qi q1 ha;cases z;refine⟨by rw[r8,<- i1];rfl,⟨by simpa using i2.1,fun z m=>?_⟩,?_,?_⟩;rcases bW.mp (show z∈(p,a)::ps.zip (r.map (·.1))from m)with rfl|m;exact hb;exact i2.2 z m;rw[bG];exact .cons q2 i3;rw[bG,bG];exact .cons q1 i4
theorem pS(h:Rep K (dP Cb gl) H (.d8 2 ds) v)(hp:iy ds=some l):∃a o ps vs,v = .ref a/\Vals vs (ps.map (·.2.2))/\H a=some (.ext (DY a o ps))/\(∀p∈ps,mT K H p.1 p.2.1)/\(∀l,V.ref l∈vs->∃ys,H l=some (.lst ys))/\
  KL K H ps (l.map (·.1))/\aQ K (dP Cb gl) H (l.map (·.2.2)) vs/\aQ K (dP Cb gl) H (l.map (·.2.1)) (ps.map fun p=>.ref p.2.1):=by
 rw[Rep] at h;obtain⟨a,xs,rfl,ob,rs⟩:=h;rcases ob with(⟨z,_⟩|⟨c,z,_⟩)|⟨z,_⟩|⟨_,o,ps,vs,rfl,h2,h3,h4,h5⟩;cases z;unfold Sv at z;lia;cases z;obtain⟨_,i2,i3,i4⟩:=pR (by rw[tT h2,br]) rs hp;exact⟨a,o,ps,vs,rfl,h2,h3,h4,h5,i2,i3,i4⟩
end
theorem Py{ps:List SP}(h:ps.map (·.1)=zK)(ks:List (List Int)):(atKey ps ks).isSome=zK.any (fun k=>decide (k=ks)):=by
 subst h;unfold atKey;rw[Option.isSome_map];induction ps with
 | nil=>rfl
 | cons p ps ih=>
  rw[List.find?_cons,bG,xx];cases decide (p.1=ks)with
  | true=>rfl
  | false=>rw[FZ];exact ih
def wo(neg:Bool):D->D->R D:=fun a b=>match yP a,b with
 | some ks,.d8 2 ds=>(match iy ds with|some l=>.ok (.bl (if neg then !(l.map (·.1)).any (fun k=>decide (k=ks))else(l.map (·.1)).any (fun k=>decide (k=ks))))|none=>.bad)
 | _,_=>.bad
theorem SQ(h:wo neg a b = .ok d):∃ks ds l,yP a=some ks/\b = .d8 2 ds/\iy ds=some l/\d = .bl (if neg then !(l.map (·.1)).any (fun k=>decide (k=ks))else(l.map (·.1)).any (fun k=>decide (k=ks))):=by
 unfold wo at h;split at h;rename_i ks ds hk;split at h;rename_i l hl;cases h;exact⟨ks,ds,l,hk,rfl,hl,rfl⟩;cases h;cases h
theorem SR:wo neg a b≠ .ex c p:=by
 unfold wo;split;split <;> exact fun h=>(by cases h)
 exact fun h=>(by cases h)
section
variable {Cb:ay}{gl:GL}{G0:Hp}{Γ:List SK}{E:L2.St->XK}{a b:bF}
theorem SS{K:aE}{neg:Bool}:wj K (dP Cb gl) (al3 K neg) (wo neg) .new:=fun G0 Γ E σ A st H a b x y Q r qa qb q=>by
 cases hg:wo neg a b with
 | bad=>rw[hg]at q;exact q.elim
 | ex c p=>exact aN6 hg SR
 | ok d=>rw[hg] at q;obtain⟨ks,ds,l,hk,rfl,hl,rfl⟩:=SQ hg;obtain⟨p,o,ps,vs,rfl,h1,h2,h3,_,h4,_⟩:=pS (show Rep K (dP Cb gl) H (.d8 2 ds) y from qb) hl;obtain⟨b',rfl,hb⟩:=qi qa hk;refine⟨p,b',o,ps,ks,_,rfl,rfl,h2,h3,h4,hb,fun z=>?_⟩;rw[Py z];exact q _ H (.refl _) (.flat r (.refl _) (by rw[gJ] <;> simp) (by rw[Rep]) _)
end
def qw(f:DF)(F:DS):Nat->DS
 | 0,_=>.bad
 | n+1,st=>match f st with
  | .ok (.bl true)=>(match F st with
   | .nx st'=>qw f F n st'
   | .ct st'=>qw f F n st'
   | .bk st'=>.nx st'
   | o=>o)
  | .ok (.bl false)=>.nx st
  | .ok _=>.bad
  | .ex c p=>.ex c p st
  | .bad=>.bad
section
theorem Eb(n:Nat)(hp:PassesOwn (aD X.prog X.w) X.A X.env X.xe)(hc:PT X c (yw X.K C G0 Γ E f))(hb:vC X ss (oG X.K C G0 Γ E kG F)):PS X (.While c ss [] pos) (oG X.K C G0 Γ E kG (qw f F n)):=(NL hp hc hb).imp fun D σ H zz=>by
 refine dO zz fun A st r q=>?_;clear zz;refine⟨fun m NH H1=>∃A1 k8,RS X.K C G0 Γ NH H1 A1 k8/\aI (er H A) (er H1 A1)/\qw f F m k8=qw f F n st,⟨n,A,st,r,.refl _,rfl⟩,?_⟩;intro m NH H1 w1;refine bA w1 fun A1 k8 r1 e1 g1=>?_;clear w1;refine⟨A1,k8,r1,?_⟩;rw[<- g1]at q;cases m with
 | zero=>exact q.elim
 | succ m=>
  rw[qw]at q g1;cases hf:f k8 with
  | bad=>rw[hf]at q;exact q
  | ex cl p=>rw[hf]at q;exact fun H' e'=>q NH H' A1 (r1.mono e') (e1.trans (aL e'))
  | ok d=>
   rw[hf]at q g1;cases d with
   | bl b=>
    intro H2 e2;cases b with
    | false=>rw[aM5 jo];exact q NH H2 A1 (r1.mono e2) (e1.trans (aL e2))
    | true=>
     rw[aM4 rfl];refine⟨fun CV H3=>∃A3 By,RS X.K C G0 Γ CV H3 A3 By/\aI (er H A) (er H3 A3)/\qw f F m By=qw f F n st,fun CV H3 w=>⟨m,A9 m,w⟩,A1,k8,r1.mono e2,?_⟩;dsimp only at q g1;cases hF:F k8 with
     | nx mO=>rw[hF]at g1;exact fun Ly H4 A4 r4 e4=>⟨A4,mO,r4,(e1.trans (aL e2)).trans e4,g1⟩
     | ct mO=>rw[hF]at g1;exact fun Ly H4 A4 r4 e4=>⟨A4,mO,r4,(e1.trans (aL e2)).trans e4,g1⟩
     | bk mO=>rw[hF]at q;exact fun Ly H4 A4 r4 e4=>q Ly H4 A4 r4 ((e1.trans (aL e2)).trans e4)
     | rt d=>rw[hF]at q;exact q
     | ex cl p mO=>rw[hF]at q;exact fun Ly H4 A4 r4 e4=>q Ly H4 A4 r4 ((e1.trans (aL e2)).trans e4)
     | bad=>rw[hF]at q;exact q
   | _=>exact q.elim
end
section
variable {K:aE}{Cb:ay}{gl:GL}{G0:Hp}{Γ:List SK}{σ:L2.St}{H H':Hp}{A:List ay}{st:ir}{κ:Kd}
theorem Val.iJ(r:RS K (dP Cb gl) G0 Γ σ H A st)(e:aI H H'){ps:List SP}(h:H' p=none)(rel:Vals vs (ps.map (·.2.2)))(hk:∀q∈ps,mT K (κ.hp G0 A H H') q.1 q.2.1)
  (hl:∀l,V.ref l∈vs->∃ys,κ.hp G0 A H H' l=some (.lst ys)) (q:aQ K (dP Cb gl) (κ.hp G0 A H H') ds (nu ps vs)):Val K (dP Cb gl) κ G0 A H (upd H' p (.ext (DY p o ps))) (.d8 2 ds) (.ref p):=by
 have h0:H p=none:=e.free h;have S:aI (κ.hp G0 A H H') (er (κ.hp G0 A H (upd H' p (.ext (DY p o ps)))) [p]):=fun b u z=>by
  have nb:b≠p:=fun w=>by have:=Kd.v9 _ _ z;rw[w,h] at this;cases this
  rw[aV (by simpa using nb)];exact Kd.t9 (cX h) _ _ z
 have at_:κ.hp G0 A H (upd H' p (.ext (DY p o ps))) p=some (.ext (DY p o ps)):=DJ r e h;have own:mQ K (dP Cb gl) (er (κ.hp G0 A H (upd H' p (.ext (DY p o ps)))) [p]) (κ.hp G0 A H (upd H' p (.ext (DY p o ps)))) p (.d8 2 ds):=
  ⟨rfl,nu ps vs,⟨o,ps,vs,rfl,rel,at_,fun x m=>(hk x m).mono S,fun l m=>let⟨ys,z⟩:=hl l m;⟨ys,S _ _ z⟩⟩,q.same S _⟩
 have R:Rep K (dP Cb gl) (κ.hp G0 A H (upd H' p (.ext (DY p o ps)))) (.d8 2 ds) (.ref p):=own.rep (.refl _) rfl;have T:∀G,G p=none->lP K (dP Cb gl) G (κ.hp G0 A H (upd H' p (.ext (DY p o ps)))) (.d8 2 ds) (.ref p):=fun G g=>⟨fun _=>⟨p,rfl,g,own⟩,.not rfl⟩
 cases κ with
 | new=>exact⟨R,T _ h0⟩
 | vL=>exact⟨R,T _ h0⟩
 | loc=>exact⟨R,T _ (r.g0.free h0)⟩
 | old=>exact R
 | oF=>exact⟨R,T _ (r.g0.free h0)⟩
 | aZ=>exact R
end
section
theorem J2:PE X (.Dict [] [] pos) (tD X.K (dP Cb gl) G0 Γ E (dC (.d8 2 [])) .new):=SO.imp fun σ H Q zz=>by
 obtain ⟨A,st,r,q⟩:=zz;intro p o hp;exact q _ _ (cX hp) (Val.iJ (ps:=[]) (vs:=[]) r (.refl _) hp .nil (fun _ m=>nomatch m) (fun _ m=>nomatch m) (by rw[aQ];rfl))
def iz(o:Option (Option D)):Option (List D×List (List (List Int)×D×D)):=match o with
 | some (some (.d8 2 ds))=>(iy ds).map fun l=>(ds,l)
 | _=>none
theorem ny(h:iz o=some z):o=some (some (.d8 2 z.1))/\iy z.1=some z.2:=by
 unfold iz at h;split at h;rename_i ds;cases hp:iy ds with
 | none=>rw[hp]at h;cases h
 | some l=>rw[hp]at h;cases h;exact⟨rfl,hp⟩
 cases h
theorem yQ(h:o=some (some (.d8 2 ds)))(hp:iy ds=some l):iz o=some (ds,l):=by
 subst h;show(iy ds).map _=_;rw[hp];rfl
def okV:D->Bool
 | .lst _=>true
 | .int _=>true
 | _=>false
def SV(i:Nat)(st:ir)(z:List D×List (List (List Int)×D×D))(kd d:D):Out:=match yP kd with
 | some ks=>if z.2.length<=5000/\(z.2.map (·.1)).any (fun k=>decide (k=ks))=false/\okV d=true then .nx (st.set i (some (.d8 2 (z.1++[kd,d]))))else .bad
 | none=>.bad
def Hx(i:Nat)(fk f:DF):DS:=fun st=>match f st with
 | .ok d=>(match iz st[i]? with
  | some z=>(match fk st with
   | .ok kd=>SV i st z kd d
   | .ex c p=>.ex c p st
   | .bad=>.bad)
  | none=>.bad)
 | .ex c p=>.ex c p st
 | .bad=>.bad
theorem C9(h:yP kd=some ks):gJ kd=true:=by
 cases kd with
 | tup es=>
  rw[gJ];refine gy ?_;replace h:mU es=some ks:=h;induction es generalizing ks with
  | nil=>intro x m;cases m
  | cons y es ih=>
   intro x m;rw[mU]at h;cases h1:E9 y with
   | none=>rw[h1]at h;cases h
   | some a=>
    cases h2:mU es with
    | none=>rw[h1,h2]at h;cases h
    | some r=>
     rcases bW.mp m with rfl | m;rw[Ea h1,gJ];exact gy fun z hz=>by obtain⟨w,_,rfl⟩:=aO.mp hz;rw[gJ] <;> simp
     exact ih h2 x m
 | _=>cases h
theorem aQ.Kz{K:aE}{C:Cfg}{H:Hp}:∀{ds es:List D} {xs ys:List V},aQ K C H ds xs->aQ K C H es ys->aQ K C H (ds++es) (xs++ys)
 | [],es,xs,ys,h,h'=>by rw[aQ]at h;subst h;exact h'
 | d::ds,es,xs,ys,h,h'=>by
  rw[aQ]at h;obtain⟨v,r,rfl,q,t⟩:=h;exact .cons q (aQ.Kz t h')
theorem KA{ps:List SP}{vs:List V}(h:vs.length=ps.length):nu (ps++[p]) (vs++[v])=nu ps vs++[.ref p.2.1,v]:=by
 unfold nu;rw[MG h.symm,r9];rfl
theorem Vals.snoc:∀{vs:List V} {us:List av} {v:V} {u:av},Vals vs us->RelV v u->Vals (vs++[v]) (us++[u])
 | _,_,v,u,.nil,h=>.cons h .nil
 | _,_,v,u,.cons r t,h=>.cons r (Vals.snoc t h)
theorem Xf{i:Nat}{n:Bool}{x:Str}{p1 p2:Pos}{ix:bF}{fi:DF}(hu:X.A.units+2<cLine)(hx:PE X (.Name x p1) (oB i))(hi:PE X ix (tD X.K (dP Cb gl) G0 Γ E fi κ'))(he:PE X e (tD X.K (dP Cb gl) G0 Γ E f κ))(na:pK Γ=true)(hk:Γ[i]?=some (.own n):=by rfl)(hl:κ = .new:=by rfl)
  (ha:∀v,assign (.Subscript (.Name x p1) ix p2) X.env v=(do
   let ov <- holding [v] (eval (.Name x p1) X.env)
   let iv <- holding [v,ov] (eval ix X.env)
   standAt p2
   holding [v,ov,iv] (setItem ov iv v)
   release [v,ov,iv] []):=by intro _;rfl)
  (hs:swapsWithSole [G9 (.Name x p1) ix p2] e pos.line X.env=pure false:=by rfl) (hw:swappedStores [G9 (.Name x p1) ix p2] e X.env=pure none:=by rfl)
  (h1:(vq [G9 (.Name x p1) ix p2] X.env).map (·.2)=[assign (.Subscript (.Name x p1) ix p2) X.env]:=by rfl) :
  PS X (.Assign [.Subscript (.Name x p1) ix p2] e pos) (oG X.K (dP Cb gl) G0 Γ E kG (Hx i fi f)):=(NI he (VG hx hi (al5 hu) ha) hs hw h1).imp fun D σ H zz=>by
 subst hl;obtain ⟨A,st,r,q⟩:=zz;refine⟨A,st,r,?_⟩;unfold Hx at q;cases hf:f st with
 | bad=>rw[hf]at q;exact q
 | ex c p=>rw[hf]at q;exact fun H' e'=>q σ H' A (r.mono e') (aL e')
 | ok d=>
  rw[hf] at q;dsimp only at q;cases oE:iz st[i]? with
  | none=>rw[oE]at q;exact q.elim
  | some z=>
   obtain ⟨oE,Z4⟩:=ny oE;obtain ⟨ds,l⟩:=z;rw[yQ oE Z4]at q;dsimp only at q oE Z4;intro v H1 e1 w1;obtain ⟨p,h1,h2,h3,t2,xs,ow,h5⟩:=r.Hj hk oE rfl;refine⟨_,h1,A,st,r.mono e1,?_⟩;cases hi:fi st with
   | bad=>rw[hi]at q;exact q
   | ex c p=>rw[hi]at q;exact fun H' e'=>q σ H' A (r.mono (e1.trans e')) (aL (e1.trans e'))
   | ok kd=>
    rw[hi]at q;dsimp only at q;intro vi H2 e2 w2;unfold SV at q;cases LA:yP kd with
    | none=>rw[LA]at q;exact q.elim
    | some ks=>
     rw[LA] at q;dsimp only at q;by_cases hc:l.length<=5000/\(l.map (·.1)).any (fun k=>decide (k=ks))=false/\okV d=true;rw[aM4 hc] at q;have tE:=e1.trans e2;have r':=r.mono tE;have S:aI (eh n G0 A H) (eh n G0 A H2):=by unfold eh;cases n;exact aL tE;exact bO (aL tE)
     have S2:aI (eh n G0 A H2) H2:=by unfold eh;cases n;exact aJ _ _;exact(cz _ _).trans (aJ _ _)
     obtain ⟨ob,ps,vs,rfl,rel,hp,kp,pl⟩:=ow;have q5:aQ X.K (dP Cb gl) (eh n G0 A H2) ds (nu ps vs):=h5.same S _;have hlen:vs.length=ps.length:=by rw[tT rel,br]
     obtain ⟨_,i2,_,_⟩:=pR hlen q5 Z4;have kp2:∀x∈ps,mT X.K (eh n G0 A H2) x.1 x.2.1:=fun x m=>(kp x m).mono S;obtain⟨b,rfl,hb⟩:=qi w2.rep LA;have wk:Rep X.K (dP Cb gl) (eh n G0 A H2) kd (.ref b):=by unfold eh;cases n;exact Rep.part r'.DH _ (C9 LA) w2.rep;exact Rep.part r'.vK _ (C9 LA) w2.rep
     obtain⟨b2,YU,hbk⟩:=qi wk LA;cases YU;have w1':=w1.later e2;have wv:Rep X.K (dP Cb gl) (eh n G0 A H2) d v:=w1'.WW r tE (by cases n <;> rfl);have plv:∀l',v = .ref l'->∃ys,eh n G0 A H2 l'=some (.lst ys):=fun l' zl=>by
      cases d with
      | lst es=>
       obtain⟨p',z,h0,ys,hy,_⟩:=w1'.2.1 rfl;rw[zl] at z;cases z;have nA:l'∉A:=fun m=>by obtain⟨o,w,_⟩:=r.lists l' m;rw[h0]at w;cases w
       have hy2:H2 l'=some (.lst ys):=cz _ _ _ _ hy;refine⟨ys,?_⟩;unfold eh;cases n;show er H2 A l'=_;rw[aV nA];exact hy2;show nw G0 (er H2 A) l'=_;rw[lK (r.g0.free h0),aV nA];exact hy2
      | int k=>rw[Rep]at wv;rw[wv]at zl;cases zl
      | _=>cases hc.2.2
     have hlp:l.length=ps.length:=by have:=i2.1;rw[br]at this;exact this
     refine⟨p,b,ob,ps,ks,_,rfl,rfl,tE _ _ hp,fun x m=>(kp2 x m).mono S2,⟨i2.1,fun z m=>(i2.2 z m).mono S2⟩,hb,?_,fun u Sb ru zk=>?_⟩;rw[gG];have:=hc.1;lia;have hn:atKey ps ks=none:=by have:=Py zk ks;rw[hc.2.1]at this;exact Option.isSome_eq_false_iff.mp this |> Option.isNone_iff_eq_none.mp
     rw[F6 hn];have own:mQ X.K (dP Cb gl) (eh n G0 A H2) (upd H2 p (.ext (DY p Sb (ps++[(ks,b,u)])))) p (.d8 2 (ds++[kd,d])):=by refine⟨rfl,nu (ps++[(ks,b,u)]) (vs++[v]),⟨_,_,_,rfl,by rw[iN];exact Vals.snoc rel ru,bS,fun x m=>?_,fun l' m=>?_⟩,?_⟩;rcases gH.mp m with m | m;exact kp2 x m;obtain rfl:=eY.mp m;exact hbk;rcases gH.mp m with m | m;obtain ⟨ys,z⟩:=pl l' m;exact⟨ys,S _ _ z⟩;exact plv l' (eY.mp m).symm;rw[KA hlen];exact aQ.Kz q5 (.cons wk (.cons wv (by rw[aQ])))
     obtain ⟨r2,e3⟩:=r'.WV na hk oE h1 h2 h3 rfl rfl own;exact q _ _ A r2 ((aL tE).trans e3);rw[aM5 hc] at q;exact q.elim
end
section
theorem KC:lV X (.builtin "len") (fun xs H Q=>∃a o ps,xs=[V.ref a]/\H a=some (.ext (DY a o ps))/\Q (.int ps.length) H):=by
 intro ak s σ H xs us Q I r h;obtain⟨a,o,ps,rfl,ha,q⟩:=h;obtain⟨u,rfl,ru⟩:=vals1 r;cases ru;obtain⟨dy,_,_⟩:=(show gI X.prog X.w H s.heap a (.ext (DY a o ps))from I.fE a _ ha)
 obtain⟨hd,hz,ho,hx,es,ep,j9,he,hn⟩:=dy;have hT:s.TypeIs (.ref a) "dict":=⟨o,ho,hx.1⟩
 have hs:es.size=ps.length:=by rw[<- dN,he X.prog X.w,br]
 rw[gG]at hz;refine PySem.Calls.call_function_entry kind_len plain_len entry_len (args_len1 _) ?_;(unfold Builtin.«len»);(refine ah (m:=oneArg "len" _) (aC ?_));refine ah (m:=callSpecial? (.ref a) (lq "__len__")) (qQ (name:=lq "__len__") hT Ni (iK Ni hT PySem.F.entry_dict_len ?_ (PySem.F.args_dict_len_1 _)));(show aB _ _ (dictSize a>>=_) _ _ s);(unfold dictSize);(refine ah (ah (kj ho j9 (aC ?_))));(show aB _ _ (Builtin.Dict.pendingCount a>>=_) _ _ s);(refine ah (wpAny_pendingCount_other hd (wpAny_ret_mkInt ?_)));rw[Fo,hs];(refine ah (jh (aC ?_)));(refine ah (F7 ?_));(show aB _ _ (if((ps.length:Nat):Int)<0 then _ else _) _ _ _);(rw[aM5 (by lia)]);(show aB _ _ (if((ps.length:Nat):Int) ≥ 2 ^ 63 then _ else _) _ _ _);(rw[aM5 (by lia)]);exact ah (wpAny_mkInt (aC ⟨_,rfl,.int ps.length,H,(I.tok _).tok _,⟨_,rfl⟩,q⟩))
def qI:List D->R D:=fun ds=>match ds with
 | [.d8 2 xs]=>(match iy xs with|some l=>.ok (.int l.length)|none=>.bad)
 | _=>.bad
theorem Pz(h:qI ds = .ok d):∃xs l,ds=[.d8 2 xs]/\iy xs=some l/\d = .int l.length:=by
 unfold qI at h;split at h;rename_i xs;split at h;rename_i l hl;cases h;exact⟨xs,l,rfl,hl,rfl⟩;cases h;cases h
theorem PB:qI ds≠ .ex c p:=by
 unfold qI;split;split <;> exact fun h=>(by cases h)
 exact fun h=>(by cases h)
theorem PC{K:aE}:V1 K (dP Cb gl) (fun xs H Q=>∃a o ps,xs=[V.ref a]/\H a=some (.ext (DY a o ps))/\Q (.int ps.length) H) qI .new:=fun G0 Γ E σ A st H ds xs Q r w q=>by
 cases hg:qI ds with
 | bad=>rw[hg]at q;exact q.elim
 | ex c p=>exact aN6 hg PB
 | ok d=>rw[hg] at q;obtain⟨ys,l,rfl,hl,rfl⟩:=Pz hg;obtain⟨v,rfl,w1⟩:=nj w;obtain⟨p,o,ps,vs,rfl,_,h2,_,_,h4,_⟩:=pS w1 hl;refine⟨p,o,ps,rfl,h2,?_⟩;rw[show ps.length=l.length by rw[<- h4.1,br]];exact q _ H (.refl _) (.flat r (.refl _) (by rw[gJ] <;> simp) yy _)
end
end Dm
end al2
section aF3
namespace Hk
open PySem
section
variable {K:Type}[DecidableEq K]{knd:HeapKind prog w K}{s:aA}
theorem zL{Q:Unit->aA->Prop}(hu:knd.room A)(BB:knd.is s.heap k a)(hm:s.heap.DictOfH knd d xs)(hno:k∉xs.map (·.1))(hsz:xs.length<=cU)
  (hQ:∀h',h'.DictOfH knd d (xs++[(k,a,v)])->i6 d s.heap h'->Q () {s with heap:=h'}):aB (aD prog w) A (dictSetHashed d (.ref a) (knd.hash k) v) Q E s:=by
 obtain⟨od,es,ep,ho,hc,hd,he,his,hn⟩:=hm;(unfold dictSetHashed);(try with_reducible refine jh ?_);refine ah (wpAny_dictFind_heap hu BB ho hd he his hn (fun _=>?_) (fun j p hj=>?_));refine ah (wX (wpAny_updateDictKeys (hz:=by have e:=oM he;omega) ho hd (hQ _ ⟨_,_,ep+1,nH _ ho (N8 (Bo hd _)),hc.mapDictKeys _,Bo hd _,?_,?_,?_⟩ (fz ..))));simp[he,qx];intro x hx;rcases gH.mp hx with hx|hx;exact knd.keeps (his x hx) ho hd (fz ..);obtain rfl:=eY.mp hx;exact knd.keeps BB ho hd (fz ..);rw[iN,xy];exact⟨hn,by simp,fun x hx y hy z=>by
  have hy:y=k:=by simpa using hy
  rw[z,hy]at hx;exact hno hx⟩
 exact aN6 (aO.mpr ⟨(k,p),iM hj,rfl⟩) hno
theorem KG{Q:Array qT->aA->Prop}(ho:s.heap.DictOfH knd o ys)(lZ:ys.length<=1)(tp:∀y∈ys,s.TypeIs (.ref y.2.1) "tuple")(hQ:∀es:Array qT,es.toList=ys.map (qx knd)->Q es s):aB (aD prog w) A (Builtin.Dict.entriesForEmpty nm o) Q E s:=by
 obtain⟨oo,es,ep,h1,h2,h3,h4,h5,h6⟩:=ho;unfold Builtin.Dict.entriesForEmpty;refine ah (kj h1 h3 (ah ?_));rw[<- xD];refine mC _ (fun rest _ s'=>s'=s/\∀e∈rest,e∈es.toList) _ ?_ ?_ _ _ ⟨rfl,fun _ m=>m⟩;rintro e rest b s' ⟨rfl,n6⟩;have m:=n6 e (.head _);rw[h4]at m;obtain⟨y,hy,rfl⟩:=aO.mp m;have fs:∀p:qT->Bool,(es.filter p).size<=1:=fun p=>cI (Array.size_filter_le ..) (by rw[oM h4];exact lZ);(show aB _ _ (Builtin.Dict.quietEq (.ref y.2.1)>>=_) _ _ _);(unfold Builtin.Dict.quietEq);(refine ah (ah (qS (tp y hy) Bq.lookup (aC ?_))));rw[aM4 (by decide)];rw[aM5 (Fp.mpr (fs _))];first
  | exact aC ⟨rfl,fun u m=>n6 u (.tail _ m)⟩
  | exact ah (aC (aC ⟨rfl,fun u m=>n6 u (.tail _ m)⟩))
 rintro b s' ⟨rfl,_⟩;exact aC (hQ es h4)
theorem Hy{Q:Unit->aA->Prop}(hu:knd.room A)(hdo:d≠o)(hoS:(o==oJ)=false)(hd:s.heap.DictOfH knd d xs)(ho:s.heap.DictOfH knd o ys)(dis:∀y∈ys,y.1∉xs.map (·.1))(lZ:xs=[]->ys.length<=1)(tp:∀y∈ys,s.TypeIs (.ref y.2.1) "tuple")(hsz:xs.length+ys.length<=cU)
  (hQ:∀h',h'.DictOfH knd d (xs++ys)->i6 d s.heap h'->Q () {s with heap:=h'}):aB (aD prog w) A (Builtin.Dict.mergeDict nm d o) Q E s:=by
 obtain⟨od,esd,epd,hod,Gh,R4,hed,hkd,hnd⟩:=id hd;obtain⟨oo,LB,epo,hoo,hco,PD,Rl,hko,hno⟩:=id ho;have hlen:ys.length=LB.size:=(oM Rl).symm;(unfold Builtin.Dict.mergeDict);(rw[aM5 (by simpa using hdo)]);(unfold xK);(rw[aM5 (by rw[hoS];exact jo)]);refine ah (aC (ah (kj hoo PD ?_)));dsimp only;split
 case' isTrue=>
  refine ah (kj hod R4 ?_)
  split
 case' isTrue.isTrue=>
  rename_i aF4
  have h0:esd=#[]:=MY.mp aF4
  have hx:xs=[]:=by have:=oM hed;rw[h0]at this;exact oR.mp this.symm
  subst hx
  refine ah (KG ho (lZ rfl) tp fun es Dt=>?_)
  rw[gf]at hQ
  split
  ·have hto:es.size<=cU+1:=by rw[oM Dt];rw[qZ]at hsz;omega
   refine ah (wpAny_updateDictKeysTo hod R4 (aC (hQ _ ⟨_,_,epd+1,nH _ hod (N8 (Bo R4 _)),Gh.mapDictKeys _,Bo R4 _,Dt,fun y m=>knd.keeps (hko y m) hod R4 (fz ..),hno⟩ (fz ..))) hto)
  ·rename_i YW
   have h1:es=#[]:=MY.mp (by simpa using YW)
   have hy:ys=[]:=by have:=oM Dt;rw[h1]at this;exact oR.mp this.symm
   subst hy
   exact aC (hQ _ hd (Na _ _))
 all_goals
  (refine ah (oN hoo PD (ah (kj hoo PD (ah ?_)))))
  (rw[Vp]);(simp only[Std.Legacy.Range.size,Mc,B7,Nat.div_one])
  refine mC _ (fun rest _ s'=>∃h' i,s'={s with heap:=h'}/\rest=List.range' i (LB.size-i)/\i<=LB.size/\h'.DictOfH knd d (xs++ys.take i)/\i6 d s.heap h') _ ?_ ?_ _ _ ⟨s.heap,0,rfl,by simp,i7 _,by simpa using hd,Na _ _⟩
  ·rintro x rest b s' ⟨h',i,rfl,hr,hi,QX,CC⟩
   have gr:i<LB.size:=by
    rcases Me i LB.size with h | h
    ·exact h
    ·rw[Nat.sub_eq_zero_of_le h]at hr;cases hr
   have e1:LB.size - i=(LB.size - (i+1))+1:=by omega
   rw[e1,MH]at hr
   injection hr with hx Oh
   subst hx
   have am1:h'.get? o=some oo:=(CC.2 o (eU hdo)).trans hoo
   have hly:x<ys.length:=by rw[hlen];exact gr
   obtain⟨y,hy⟩:∃y,ys[x]?=some y:=⟨ys[x],dz hly⟩
   have hey:LB[x]?=some (qx knd y):=by rw[entry_at Rl,hy];rfl
   have my:y∈ys:=iM hy
   refine ah (kj (s:={s with heap:=h'}) am1 PD ?_)
   rw[hey]
   have aF5:y.1∉(xs++ys.take x).map (·.1):=fun z=>by
    rw[iN]at z
    rcases gH.mp z with z|z
    ·exact dis y my z
    ·obtain⟨u,Xg,e⟩:=aO.mp z
     obtain⟨j,hj⟩:=List.mem_iff_getElem?.mp Xg
     rw[FE]at hj
     split at hj
     ·rename_i hjx
      obtain⟨k,a,v⟩:=u
      obtain⟨k2,a2,v2⟩:=y
      dsimp only at e
      subst e
      have:=idxH_unique hno hj hy
      omega
     ·cases hj
   show aB _ _ (holding [eW y.2.1,y.2.2] (dictSetHashed d (.ref y.2.1) (knd.hash y.1) y.2.2)>>=_) _ _ _
   refine ah (jh (zL (s:={s with heap:=h'}) hu (knd.keeps (hko y my) hod R4 CC) QX aF5 (by rw[cG,l8];omega) fun Ca aF6 am2=>?_))
   have am3:Ca.get? o=some oo:=(am2.2 o (eU hdo)).trans am1
   refine ah (oN (s:={s with heap:=Ca}) am3 PD ?_)
   rw[aM5 (by simp)]
   exact aC ⟨Ca,x+1,rfl,Oh,gr,by
    rw[MD,hy,<- fP];exact aF6,CC.trans am2⟩
  ·rintro b s' ⟨h',i,rfl,hr,hi,QX,CC⟩
   have V5:i=LB.size:=by
    rcases Me i LB.size with h | h
    ·have e1:LB.size - i=(LB.size - (i+1))+1:=by omega
     rw[e1,MH]at hr;cases hr
    ·exact Mb hi h
   rw[V5,<- hlen,xr]at QX
   exact aC (hQ h' QX CC)
end
end Hk
end aF3
section am4
namespace Dm
open PySem PySem.Spec PyProof.Rows L2
section
def V6(K:aE):V->List V->Hp->VK->Prop:=fun x xs H Q=>∃a c oa oc ps qs zK lss,x = .ref a/\xs=[.ref c]/\a≠c/\H a=some (.ext (DY a oa ps))/\H c=some (.ext (DY c oc qs))/\(∀p∈ps,mT K H p.1 p.2.1)/\(∀p∈qs,mT K H p.1 p.2.1)/\KL K H ps zK/\KL K H qs lss/\
 (∀k∈lss,k∉zK)/\(ps=[]->qs.length<=1)/\ps.length+qs.length<=cU/\∀oa',ps.map (·.1)=zK->qs.map (·.1)=lss->Q .dh (upd H a (.ext (DY a oa' (ps++qs))))
theorem SW(hu:X.A.units+2<cLine):MtR X "dict.update" (V6 X.K):=by
 intro ak s σ H x xs v us Q I rx rv h;obtain⟨a,c,oa,oc,ps,qs,zK,lss,rfl,rfl,nac,ha,hc,hka,hkc,la,lc,dis,lZ,hz,q⟩:=h;cases rx;obtain⟨u,rfl,ru⟩:=vals1 rv;cases ru;obtain⟨da,za,_⟩:=tQ I ha hka;obtain⟨dc,zc,_⟩:=tQ I hc hkc;have ea:=keys_eq I hka la;have ec:=keys_eq I hkc lc;have hT:=da.typeIs;have hTc:=dc.typeIs;refine iK Nj hT PySem.F.entry_dict_update ?_ (PySem.F.args_dict_update_2 _ _);(unfold Builtin.«dict.update»);(refine ah ?_);(unfold Builtin.Dict.selfAndRest);(refine ah (F8 hT ?_));(show aB _ _ (pure (a,[eW c])) _ _ s);(refine aC ?_);(show aB _ _ (Builtin.Dict.updateFrom "dict.update" a (.ref c) [] .none) _ _ s);(unfold Builtin.Dict.updateFrom);(refine ah (B0 hTc ?_));(rw[aM5 (by decide)]);(refine ah ?_);(unfold Builtin.Dict.merge);(refine ah ?_);(unfold Builtin.Dict.readDirectly);(refine ah (qR hTc isSubtype_dict_dict ?_));(simp only[j6,dj,aN2]);(refine ah (qS hTc PySem.F.slot_dict_iter.lookup (aC ?_)));(simp only[aN5,aN3]);refine ah (aC (Hk.Hy (knd:=Hk.kH (intKind X.prog X.w)) (show X.A.units+1+1<cLine from hu) nac zc da dc (fun y m=>?_) lZ (fun y m=>?_) hz fun h' dd hs=>?_));rw[ea];exact dis _ (by rw[<- ec];exact aO.mpr ⟨y,m,rfl⟩);exact(rM I (hkc y m)).tuple;(show aB _ _ (Builtin.Dict.addKeywords a []>>=_) _ _ _);(refine ah (aC (aC ⟨.none,rfl,?_⟩)));have he:∃q,h'.get? a=some q:=let⟨q,_,_,hq,_⟩:=dd;⟨q,hq⟩;obtain⟨oa',dy⟩:=DY.of za (by rw[cG];exact hz) dd;exact⟨.dh,_,I.write (t':=s.toks) (x:=a) (e:=a) (by rw[ha];trivial) (.inl rfl) (fun b w hb z=>(hs.2 b hb).trans z) he (E3 dy),rfl,q _ ea ec⟩
def am5(r:V->List V->Hp->VK->Prop)(to:TE)(t:TA):TE:=fun σ H Q=>to σ H fun x H1=>(∃a o ps,x = .ref a/\H1 a=some (.ext (DY a o ps)))/\t σ H1 fun xs H2=>r x xs H2 Q
theorem Xh{to:TE}{t:TA}{name:Str}{apos jx:Pos}{id:String}{r:V->List V->Hp->VK->Prop}(slot:PySem.Slot "dict" name id)(hty:typeOf (.builtin id)=pure (.type "method_descriptor"))(hm:MtR X id r)(ho:PE X o to)(ha:PA X (e::es) t)
  (sG:s8 o name X.env (eval o X.env)=eval o X.env:=by rfl)
  (W6:((backTo jx (bN (e::es) X.env)).all (fun x=>!x.1)&&(backToKw jx (keywordEach [] X.env)).all (fun x=>x.1.isSome)
   && decide ((e::es).length+([]:List Keyword).length+(if([]:List Keyword).isEmpty then 0 else 1)<30))=true:=by rfl)
  (sH:(apos.endLine==jx.line)=true:=by rfl) (hs:bN (e::es) X.env=(false,eval e X.env)::bN es X.env:=by rfl) (y9:(backTo jx (bN es X.env)).any (·.1)=false:=by rfl) :
  PE X (.Call (.Attribute o name apos) (e::es) [] jx) (am5 r to t):=by
 intro ak s σ H Q I h;refine LL sG W6 sH rfl (gS (ho ak s σ H _ I h) fun v s1 zz=>?_);obtain⟨x,H1,I1,r1,⟨a,oo,ps,rfl,hx⟩,q1⟩:=zz;cases r1;obtain⟨⟨_,_,hg,sE,_⟩,_,_⟩:=(show gI X.prog X.w H1 s1.heap a (.ext (DY a oo ps))from I1.fE a _ hx)
 refine⟨"dict",id,Nk,slot,hty,⟨oo,hg,sE.1⟩,fun b e=>?_,?_⟩;cases e;exact⟨oo,hg,sE.2.1⟩;have hA:=ha jx ak s1 σ H1 _ I1 q1;rw[hs] at hA ⊢;refine Bg (by show (false || (backTo jx (bN es X.env)).any (·.1))=false;rw[y9] <;> rfl) (FP ?_);exact gS hA fun us s2 zz=>by obtain⟨vs,H2,I2,r2,q2⟩:=zz;exact hm ak s2 σ H2 (.ref a) vs (.ref a) us Q I2 rfl r2 q2
def KH(i:Nat)(f:DF):DS:=fun st=>match iz st[i]? with
 | some z=>(match f st with
  | .ok d=>(match iz (some (some d))with
   | some y=>if z.2.length+y.2.length<=5000/\(∀k∈y.2.map (·.1),k∉z.2.map (·.1))/\(z.2=[]->y.2.length<=1)then .nx (st.set i (some (.d8 2 (z.1++y.1))))else .bad
   | none=>.bad)
  | .ex c p=>.ex c p st
  | .bad=>.bad)
 | none=>.bad
theorem PF{ps:List SP}{vs:List V}(h:vs.length=ps.length):nu (ps++qs) (vs++ws)=nu ps vs++nu qs ws:=by
 unfold nu;rw[MG h.symm,r9]
theorem Vals.Kz:∀{vs ws:List V} {us ts:List av},Vals vs us->Vals ws ts->Vals (vs++ws) (us++ts)
 | _,_,_,_,.nil,h=>h
 | _,_,_,_,.cons r t,h=>.cons r (Vals.Kz t h)
theorem Xi(h:PE X e (am5 (V6 X.K) (oB i) (xZ (tD X.K (dP Cb gl) G0 Γ E f κ) Gv)))(na:pK Γ=true)(hk:Γ[i]?=some (.own n):=by rfl)(hl:κ.le (WW n)=true:=by rfl)(hs:swapsWith e none pos.line X.env=pure false:=by rfl) :
  PS X (.Expr e pos) (oG X.K (dP Cb gl) G0 Γ E kG (KH i f)):=(q8 h hs).imp fun D σ H zz=>by
 obtain ⟨A,st,r,q⟩:=zz;unfold KH at q;cases oE:iz st[i]? with
 | none=>rw[oE]at q;exact q.elim
 | some z=>
  rw[oE] at q;obtain ⟨oE,Z4⟩:=ny oE;obtain ⟨ds,l⟩:=z;dsimp only at q oE Z4;obtain ⟨p,h1,h2,h3,t2,xs,ow,h5⟩:=r.Hj hk oE rfl;obtain ⟨ob,ps,vs,rfl,rel,hp,kp,pl⟩:=ow;refine⟨_,h1,⟨p,ob,ps,rfl,hp⟩,A,st,r,?_⟩;cases hf:f st with
  | bad=>rw[hf]at q;exact q
  | ex c p=>rw[hf]at q;exact fun H' e'=>q σ H' A (r.mono e') (aL e')
  | ok d=>
   rw[hf] at q;dsimp only at q;intro v H1 e1 w1;cases hy:iz (some (some d))with
   | none=>rw[hy]at q;exact q.elim
   | some y=>
    rw[hy] at q;obtain ⟨hd,PJ⟩:=ny hy;obtain⟨vB,l2⟩:=y;cases hd;dsimp only at q PJ;by_cases hc:l.length+l2.length<=5000/\(∀k∈l2.map (·.1),k∉l.map (·.1))/\(l=[]->l2.length<=1);rw[aM4 hc] at q;have r':=r.mono e1;have S:aI (eh n G0 A H) (eh n G0 A H1):=by unfold eh;cases n;exact aL e1;exact bO (aL e1)
    have S2:aI (eh n G0 A H1) H1:=by unfold eh;cases n;exact aJ _ _;exact(cz _ _).trans (aJ _ _)
    have q5:aQ X.K (dP Cb gl) (eh n G0 A H1) ds (nu ps vs):=h5.same S _;have hlen:vs.length=ps.length:=by rw[tT rel,br]
    obtain ⟨_,i2,_,_⟩:=pR hlen q5 Z4;have kp2:∀x∈ps,mT X.K (eh n G0 A H1) x.1 x.2.1:=fun x m=>(kp x m).mono S;have wd:Rep X.K (dP Cb gl) (eh n G0 A H1) (.d8 2 vB) v:=w1.WW r e1 hl;have wd':=wd;obtain⟨c,oc,qs,ws,rfl,g1,g2,g3,g5,g4,g6,_⟩:=pS wd PJ;rw[Rep]at wd';have q6:∃oc' qs' ws',Vals ws' (qs'.map (·.2.2))/\eh n G0 A H1 c=some (.ext (DY c oc' qs'))/\(∀x∈qs',mT X.K (eh n G0 A H1) x.1 x.2.1)/\(∀l,V.ref l∈ws'->∃ys,eh n G0 A H1 l=some (.lst ys))/\aQ X.K (dP Cb gl) (eh n G0 A H1) vB (nu qs' ws'):=by obtain⟨c',ys,zc,Sb,rs⟩:=wd';cases zc;rcases Sb with(⟨z,_⟩|⟨c,z,_⟩)|⟨z,_⟩|⟨_,o',Ww,UZ,rfl,k2,k3,k4,k5⟩;cases z;unfold Sv at z;lia;cases z;exact⟨o',Ww,UZ,k2,k3,k4,k5,rs⟩
    clear g1 g2 g3 g5 g4 g6;obtain⟨oc,qs,ws,g1,g2,g3,g5,q6⟩:=q6;have am6:ws.length=qs.length:=by rw[tT g1,br]
    obtain⟨_,g4,_,_⟩:=pR am6 q6 PJ;have npc:p≠c:=fun z=>by
     subst z;unfold eh at g2;cases n with
     | true=>have:=cz _ _ _ _ g2;rw[dD h2]at this;cases this
     | false=>rw[aM5 (by decide),dD h2]at g2;cases g2
    have e1l:l.length=ps.length:=by have:=i2.1;rw[br]at this;exact this
    have e2l:l2.length=qs.length:=by have:=g4.1;rw[br]at this;exact this
    refine⟨p,c,ob,oc,ps,qs,_,_,rfl,rfl,npc,e1 _ _ hp,S2 _ _ g2,fun x m=>(kp2 x m).mono S2,fun x m=>(g3 x m).mono S2,⟨i2.1,fun z m=>(i2.2 z m).mono S2⟩,⟨g4.1,fun z m=>(g4.2 z m).mono S2⟩,hc.2.1,fun z=>?_,?_,fun oa' _ _=>?_⟩;rw[<- e2l];exact hc.2.2 (oR.mp (by rw[e1l,z];rfl));rw[gG];have:=hc.1;lia;have own:mQ X.K (dP Cb gl) (eh n G0 A H1) (upd H1 p (.ext (DY p oa' (ps++qs)))) p (.d8 2 (ds++vB)):=by refine⟨rfl,nu (ps++qs) (vs++ws),⟨_,_,_,rfl,by rw[iN];exact Vals.Kz rel g1,bS,fun x m=>?_,fun l' m=>?_⟩,?_⟩;rcases gH.mp m with m | m;exact kp2 x m;exact g3 x m;rcases gH.mp m with m | m;obtain ⟨ys,z⟩:=pl l' m;exact⟨ys,S _ _ z⟩;exact g5 l' m;rw[PF hlen];exact aQ.Kz q5 q6
    obtain ⟨r2,e3⟩:=r'.WV na hk oE h1 h2 h3 rfl rfl own;exact q _ _ A r2 ((aL e1).trans e3);rw[aM5 hc] at q;exact q.elim
end
end Dm
end am4
section aF7
namespace Hk
open PySem
section
theorem Hz{Q:av->aA->Prop}(ho:s.heap.get? d=some od)(hx:od.ExactDict)(hd:(d==oJ)=false)(hQ:Q (.ref s.heap.objs.size) {s with heap:=s.heap.push {cls:=.type "dict_items",data:=.fields #[.ref d]}}):aB (aD prog w) A (call (.builtin "dict.items") [.ref d]) Q E s:=by
 have hT:s.TypeIs (.ref d) "dict":=⟨od,ho,hx.1⟩
 refine iK F.slot_dict_items hT F.entry_dict_items ?_ (F.args_dict_items_1 _);(unfold Builtin.«dict.items»);(refine ah ?_);(unfold Builtin.Dict.noArgs);(refine ah (F8 hT ?_));(show aB _ _ (pure d) _ _ s);(refine aC ?_);(show aB _ _ (xK d>>=_) _ _ s);(unfold xK);(rw[aM5 (by rw[hd];exact jo)]);exact ah (aC (ah (ou (aC ⟨_,rfl,hQ⟩))))
theorem HA{Q:av->aA->Prop}(hv:s.heap.IsItemsView v d)(ho:s.heap.get? d=some od)(j9:od.data = .dict es ep)
  (hQ:Q (.ref s.heap.objs.size) {s with heap:=s.heap.push {cls:=.type "dict_itemiterator",data:=.fields #[.none,.bool false,.ref d,.int 0 0,.int es.size 0,.int ep 0,.none,.none]}}):aB (aD prog w) A (pyIter (.ref v)) Q E s:=by
 obtain⟨ov,hov,hcv,hdv⟩:=id hv;refine AZ hv.typeIs Nl (iK Nl hv.typeIs F.entry_dict_items_iter ?_ (F.args_dict_items_iter_1 _));(unfold Builtin.«dict_items.__iter__»);(refine ah (aC (ah ?_)));(unfold Builtin.Dict_items.dictOf);(refine ah (qO hov hdv (x:=.ref d) rfl (aC (ah ?_))));(unfold Builtin.Dict_items.newIterator);(refine ah (kj ho j9 (ah (oN ho j9 ?_))));(have own:xM "dict_itemiterator"=true:=by decide);(simp only[own,aN3]);refine ou (aC ⟨_,rfl,"dict_itemiterator",_,⟨_,eV _ rfl,rfl⟩,xH.lookup,by simpa[rawInt,Builtin.Dict_items.ownedTupleFields]using hQ⟩) (by
  simp only[sizeOk,Builtin.Dict_items.ownedTupleFields,dI,cG,dg,qZ,gG];omega)
theorem HB{Q:Option av->aA->Prop}(hit:IsItemIter s.heap it d i es.size ep ok ov)(ho:s.heap.get? d=some od)(j9:od.data = .dict es ep)(hx:es[i]?=some e)
  (hQ:∀h',IsItemIterOut h' it d (i+1) es.size ep e.key e.val s.heap.objs.size->h'.get? s.heap.objs.size=some {cls:=.type "tuple",data:=.seq #[e.key,e.val]}->h'.objs.size=s.heap.objs.size+1->
   (∀b o,b≠it->s.heap.get? b=some o->h'.get? b=some o)->Q (some (.ref s.heap.objs.size)) {s with heap:=h'}):aB (aD prog w) A (pyNext (.ref it)) Q E s:=by
 obtain⟨hp,g,dr,tk,os⟩:=s;have hT:Shared.TypeIs ⟨hp,g,dr,tk,os⟩ (.ref it) "dict_itemiterator":=⟨_,hit,rfl⟩
 have own:xM "dict_itemiterator"=true:=by decide
 have gr:i < es.size:=(oU.mp hx).1;have he:es[i]=e:=(oU.mp hx).2;unfold pyNext;refine ah (oK (qQ (name:=lq "__next__") hT xH (iK xH hT Nm ?_ (Nn _))));(refine ah (aC (ah (ah ?_))));(first|refine ah (B3 hT (aC ?_))|refine ah (B4 hT (aC ?_)));(refine ah (uq hit rfl ?_));(simp only[own,aN3]);(show aB _ _ (if(eW d==ez)=true then _ else _) _ _ _);(rw[aM5 (show ¬ ((eW d==ez)=true)from jo)]);(refine ah (aC (ah (kj ho j9 ?_))));(rw[aM5 (by simp)]);(refine ah (aC (ah (oN ho j9 ?_))));(rw[aM5 (by simp)]);(refine aC ?_);(simp only[show ¬ ((i:Int)<0)from by omega,aN2,kB,xC gr,he]);(refine ah ?_);(first|refine ah (B3 hT (aC ?_))|refine ah (B4 hT (aC ?_)));(refine ah (F9 hT ?_));(show aB _ _ (setField (.ref it) 3 (rawInt ((i:Int)+1))>>=_) _ _ ⟨hp,g,dr,tk,os⟩);(refine ah (x9 hit (by simp) fun h1 f1 s1=>?_));replace s1:i6 it hp h1:=s1;replace f1:IsItemIter h1 it d (i+1) es.size ep ok ov:=by
  have z:((i+1:Nat):Int)=(i:Int)+1:=by omega
  unfold IsItemIter;rw[z];simpa[rawInt]using f1
 have hT1:Shared.TypeIs ⟨h1,g,dr,tk,os⟩ (.ref it) "dict_itemiterator":=⟨_,f1,rfl⟩
 refine ah (jh (ah (F9 hT1 (ah (F9 hT1 ?_)))));(show aB _ _ (Builtin.Dict_items.pairFromOwner (.ref it) 6 e.key e.val) _ _ ⟨h1,g,dr,tk,os⟩);(unfold Builtin.Dict_items.pairFromOwner);(refine ah (EV ?_));have f2:IsItemIter (h1.push {cls:=.type "tuple",data:=.seq #[e.key,e.val]}) it d (i+1) es.size ep ok ov:=bU _ f1;have z1:h1.objs.size=hp.objs.size:=s1.1;have hil:hp.objs.size≠it:=CH (cu hit);have t2:(h1.push {cls:=.type "tuple",data:=.seq #[e.key,e.val]}).get? hp.objs.size=some {cls:=.type "tuple",data:=.seq #[e.key,e.val]}:=by rw[<- z1];exact eV _ rfl
 have z2:(h1.push {cls:=.type "tuple",data:=.seq #[e.key,e.val]}).objs.size=hp.objs.size+1:=by rw[A8,z1]
 have k2:∀b o,b≠it->hp.get? b=some o->(h1.push {cls:=.type "tuple",data:=.seq #[e.key,e.val]}).get? b=some o:=fun b o hb q=>bU _ (s1.extBut b o hb q);rw[z1];generalize h1.push {cls:=.type "tuple",data:=.seq #[e.key,e.val]}=h2 at f2 t2 z2 k2 ⊢;(show aB _ _ (Builtin.Dict_items.ownedTupleIsFree (.ref it)>>=_) _ _ ⟨h2,g,dr,tk,os⟩);(refine ah ?_);(unfold Builtin.Dict_items.ownedTupleIsFree);(refine ah (qO f2 rfl (x:=.none) rfl (aC ?_)));simp only[aN3];refine ah (qO f2 rfl (x:=ok) rfl (ah (qO f2 rfl (x:=ov) rfl (ah (x9 f2 (by simp) fun h3 f3 s3=>?_)))));replace s3:i6 it h2 h3:=s3;replace f3:IsItemIter h3 it d (i+1) es.size ep e.key ov:=f3;refine ah (x9 f3 (by simp) fun h4 f4 s4=>?_);replace s4:i6 it h3 h4:=s4;replace f4:IsItemIter h4 it d (i+1) es.size ep e.key e.val:=f4;refine ah (x9 f4 (by simp) fun h5 f5 s5=>?_);replace s5:i6 it h4 h5:=s5;replace f5:IsItemIterOut h5 it d (i+1) es.size ep e.key e.val hp.objs.size:=f5;refine ah (x9 f5 (by simp) fun h6 f6 s6=>?_);replace s6:i6 it h5 h6:=s6;replace f6:IsItemIterOut h6 it d (i+1) es.size ep e.key e.val hp.objs.size:=f6;have all:∀b o,b≠it->h2.get? b=some o->h6.get? b=some o:=fun b o hb q=>s6.extBut b o hb (s5.extBut b o hb (s4.extBut b o hb (s3.extBut b o hb q)));exact ah (F7 (aC (aC ⟨_,rfl,aC (hQ h6 f6 (all _ _ hil t2) (by show h6.objs.size=_;rw[s6.1,s5.1,s4.1,s3.1,z2]) fun b o hb q=>all b o hb (k2 b o hb q))⟩)))
theorem KI{Q:Option av->aA->Prop}(hh:A.handled=none)(hit:IsItemIter s.heap it d i es.size ep ok ov)(ho:s.heap.get? d=some od)(j9:od.data = .dict es ep)(hx:es.size<=i)
  (hQ:∀h',Heap.ExtBut it s.heap h'->Q none {s with heap:=h'}):aB (aD prog w) A (pyNext (.ref it)) Q E s:=by
 have hT:s.TypeIs (.ref it) "dict_itemiterator":=⟨_,hit,rfl⟩
 have own:xM "dict_itemiterator"=true:=by decide
 unfold pyNext;refine ah (oK (qQ (name:=lq "__next__") hT xH (iK xH hT Nm ?_ (Nn _))));(refine ah (aC (ah (ah ?_))));(first|refine ah (B3 hT (aC ?_))|refine ah (B4 hT (aC ?_)));(refine ah (uq hit rfl ?_));(simp only[own,aN3]);(show aB _ _ (if(eW d==ez)=true then _ else _) _ _ s);(rw[aM5 (show ¬ ((eW d==ez)=true)from jo)]);(refine ah (aC (ah (kj ho j9 ?_))));(rw[aM5 (by simp)]);(refine ah (aC (ah (oN ho j9 ?_))));(rw[aM5 (by simp)]);(refine aC ?_);(simp only[show ¬ ((i:Int)<0)from by omega,aN2,kB,rj hx]);(refine ah ?_);(first|refine ah (B3 hT (aC ?_))|refine ah (B4 hT (aC ?_)));(show aB _ _ (setField (.ref it) 2 .none>>=_) _ _ s);(refine ah (qP hit rfl (by simp) ?_));(show aB _ _ (newExc (.type "StopIteration") []>>=_) _ _ _);(refine ah ?_);(simp only[newExc,newTuple]);(refine ah (ou ?_ (by size_fits)));(refine ah (m:=ur _ _) (uo (a:=ez) (by first|rfl|(simp only[ur];rfl)) ?_));(refine ou ?_ (by size_fits));(simp only[raiseNew]);(refine ah (EX ?_));(rw[show A.in1.handled=none from hh]);(refine ah (aC (EY ?_)));(refine ah (qR (T:="StopIteration") (b:=true) ⟨_,eV _ rfl,rfl⟩ EZ ?_));exact aC (hQ _ (((fz ..).extBut.push _).push _))
end
end Hk
end aF7
section am7
namespace Dm
open PySem PySem.Spec PyProof.Rows L2
def ItY(a:ay)(o:Obj)(ps:List SP)(vs:List V):It:=
 ⟨fun i H=>H a=some (.ext (DY a o ps))/\i<ps.length,fun i H x H'=>∃T p y,ps[i]?=some p/\vs[i]?=some y/\H T=none/\H'=upd H T (.tup [.ref p.2.1,y])/\x = .ref T,fun i H=>H a=some (.ext (DY a o ps))/\ps.length<=i⟩
theorem HC:entryFor table "dict_itemiterator.__iter__" =some Builtin.«dict_keyiterator.__iter__» :=
 entryFor_alias (id':="dict_keyiterator.__iter__") (by kernel_rfl) (by first|rfl|decide +kernel) (by decide +kernel) (by kernel_rfl)
theorem Ec:∀{vs:List V} {us:List av} {i:Nat} {u:av},Vals vs us->us[i]?=some u->∃v,vs[i]?=some v/\RelV v u
 | _,_,_,_,.nil,h=>by cases h
 | _,_,0,_,.cons r t,h=>by cases h;exact⟨_,rfl,r⟩
 | _,_,i+1,_,.cons r t,h=>let⟨v,h1,h2⟩:=Ec t (i:=i) h;⟨v,h1,h2⟩
theorem Ed{P:dG}{w:bQ}{K:aE}{elts:List bF}{x1}{pos:Pos}{a it:ay}{o:Obj}{ps:List SP}{vs:List V}{es:Array qT}{ep:Nat}(j9:o.data = .dict es ep)(rel:Vals vs (ps.map (·.2.2)))(Dt:∀(P:dG) (w:bQ),es.toList=ps.map (qx (Hk.kH (intKind P w)))) :
  Turn P w K (.Tuple elts x1 pos) (ItY a o ps vs) [it] it (fun i h=>∃ok ov,IsItemIter h it a i es.size ep ok ov) where
 mem:=by simp
 obj:=fun i h st b hb=>by
  obtain ⟨ok,ov,he⟩:=st;obtain rfl:b=it:=by simpa using hb
  exact⟨_,he,fun v z=>by cases z⟩
 keep:=fun i h h' st k=>by
  obtain ⟨ok,ov,he⟩:=st;exact⟨ok,ov,k it (by simp) _ he⟩
 item:=by
  intro X hP hw hK hc i ak s σ H E I hf st hg;subst hP hw hK;obtain ⟨ok,ov,he⟩:=st;obtain ⟨ha,hi⟩:=hg;obtain ⟨⟨IP,hz,ho,hx,_⟩,_,_⟩:=(show gI X.prog X.w H s.heap a (.ext (DY a o ps)) from I.fE a _ ha)
  have Dt:=Dt X.prog X.w;obtain ⟨p,hp⟩:∃p,ps[i]?=some p:=⟨ps[i],dz hi⟩
  obtain⟨y,hy,ry⟩:=Ec rel (i:=i) (u:=p.2.2) (by rw[di,hp];rfl);have hen:es[i]?=some (qx (Hk.kH (intKind X.prog X.w)) p):=by rw[entry_at Dt,hp];rfl
  have fi:=hf it (by simp);have hn:H s.heap.objs.size=none:=I.fE.fresh (bg _);refine Hk.HB he ho j9 hen fun h' C8 hT hsz hk=>⟨_,rfl,?_⟩
  have kp:∀b o,b∉[it]->s.heap.get? b=some o->h'.get? b=some o:=fun b o hb q=>hk b o (fun z=>hb (by simp[z])) q;have lt:∀b o,s.heap.get? b=some o->b≠s.heap.objs.size:=fun b o q=>dH (cu q);have I1:L2.Inv X ak σ (upd H s.heap.objs.size (.tup [.ref p.2.1,y])) {s with heap:=h'}:=by
   refine Inv.CQ I (s':={s with heap:=h'}) (ch:=[it]) rfl ⟨fun b o q n nf nx=>kp b o nx q,fun b o q n nf nx=>⟨o.slots,kp b o nx q⟩,fun b o q n nx=>?_,fun b o q nx=>⟨o,kp b o nx q⟩,fun b ys q=>?_,fun b o u' q=>?_,fun b zp zr q=>?_⟩ (fun b o q=>?_) I.bare (fun b hb=>?_);rw[aW (lt b o q)];exact n;rw[aW (bf q hn)];exact q;rw[aW (bf q hn)];exact q;rw[aW (bf q hn)];exact q;by_cases hb:b=s.heap.objs.size;subst hb;rw[bS] at q;cases q;exact⟨by simp only[dg,qZ];rw[gG];decide,[.ref p.2.1,p.2.2],.cons rfl (.cons ry .nil),⟨_,hT,rfl,0,rfl⟩⟩;rw[aW hb] at q;refine(I.fE b o q).zA (fun c v w9 z=>kp c v ?_ z) (fun c z=>by rw[aW (bf z hn)];exact z) (fun c ys z=>by rw[aW (bf z hn)];exact z) fun c zo ys z=>by rw[aW (bf z hn)];exact z
   intro hm;obtain rfl:c=it:=by simpa using hm
   rcases w9 with rfl | w9;rw[fi.1] at q;cases q;rw[fi.1] at w9;cases w9;refine w6 (hf b hb) fun f0 f1 f2 f3 f4 f5=>?_;exact⟨f3,f1,f4,f5⟩
  have ni:it≠s.heap.objs.size:=lt it _ he;obtain⟨f0,f1,f2,f3,f4,f5⟩:=fi;refine wpAny_letOwnedTupleGo_items C8 fun h2 Rb VR=>?_;have I2:L2.Inv X ak σ (upd H s.heap.objs.size (.tup [.ref p.2.1,y])) {s with heap:=h2}:=I1.turned (t':=s.toks) (fun b o hb q=>(VR.2 b hb).trans q) (by rw[aW ni];exact f0) f1 f3 f4 f5;refine⟨.ref s.heap.objs.size,_,I2,rfl,⟨_,p,y,hp,hy,hn,rfl,rfl⟩,⟨_,_,Rb⟩,fun b hb=>?_⟩;obtain rfl:b=it:=by simpa using hb
  rw[aW ni];exact f0
 done:=by
  intro X hP hw hK hc i ak s σ H E I hf st hg;subst hP hw hK;obtain ⟨ok,ov,he⟩:=st;obtain ⟨ha,hi⟩:=hg;obtain ⟨⟨IP,hz,ho,hx,_⟩,_,_⟩:=(show gI X.prog X.w H s.heap a (.ext (DY a o ps)) from I.fE a _ ha)
  obtain ⟨f0,f1,f2,f3,f4,f5⟩:=hf it (by simp);exact Hk.KI (I.ok.hd hc) he ho j9 (by rw[oM (Dt X.prog X.w)];exact hi) fun h' eb=>⟨rfl,I.turned (t':=s.toks) (fun b o hb e=>eb b o hb e) f0 f1 f3 f4 f5⟩
 self:=fun A i s Q E st h=>by
  obtain ⟨ok,ov,he⟩:=st;have hT:s.TypeIs (.ref it) "dict_itemiterator":=⟨_,he,rfl⟩
  exact AZ hT Np (iK Np hT HC (by
   show aB _ _ (ret (.ref it)) _ _ s;exact aC ⟨_,rfl,"dict_itemiterator",_,hT,PySem.F.slot_dict_itemiterator_next.lookup,h⟩) (PySem.F.args_dict_itemiterator_iter_1 _))
def aF8(to:TE):TI:=fun σ H R=>to σ H fun x H1=>∃a o ps vs,x = .ref a/\H1 a=some (.ext (DY a o ps))/\Vals vs (ps.map (·.2.2))/\R (ItY a o ps vs) H1
section
theorem KJ{to:TE}{apos jx tp:Pos}(ho:PE X o to)(sG:s8 o "items" X.env (eval o X.env)=eval o X.env:=by rfl)(sH:(apos.endLine==jx.line)=true:=by rfl):PI X (.Tuple elts x1 tp) (.Call (.Attribute o "items" apos) [] [] jx) (aF8 to):=by
 intro ak s σ H R I h;refine LJ sG sH (gS (ho ak s σ H _ I h) fun v s1 zz=>?_);obtain⟨x,H1,I1,r1,a,oo,ps,vs,rfl,hx,rel,q1⟩:=zz;cases r1;obtain ⟨⟨IP,hz,hg,sE,es,ep,j9,Dt,hn⟩,_,_⟩:=(show gI X.prog X.w H1 s1.heap a (.ext (DY a oo ps)) from I1.fE a _ hx)
 refine⟨"dict","dict.items",Nk,PySem.F.slot_dict_items,PySem.F.type_dict_items,⟨oo,hg,sE.1⟩,fun b e=>?_,?_⟩;cases e;exact⟨oo,hg,sE.2.1⟩;refine Bg rfl (LK (Hk.Hz hg sE IP ?_));refine Hk.HA (d:=a) (od:=oo) (es:=es) (ep:=ep) ⟨_,eV _ rfl,rfl,rfl⟩ (bU _ hg) j9 ?_;have k2:∀b u,s1.heap.get? b=some u->((s1.heap.push {cls:=.type "dict_items",data:=.fields #[.ref a]}).push {cls:=.type "dict_itemiterator",data:=.fields #[.none,.bool false,.ref a,.int 0 0,.int es.size 0,.int ep 0,.none,.none]}).get? b=some u:=fun b u z=>bU _ (bU _ z);refine⟨_,[_],_,_,H1,rfl,I1.kept (t':=s1.toks) k2,Ed j9 rel Dt,⟨_,_,eV _ rfl⟩,fun b hb=>?_,q1⟩;have mW:s1.heap.objs.size<=b:=by
  obtain rfl:b=_:=by simpa using hb
  exact xh _
 exact I1.JB mW (I1.fE.fresh mW)
def KN(f:DF):DI:=fun st=>match f st with
 | .ok d=>(match iz (some (some d))with|some y=>.ok (y.2.map fun t=>.tup [t.2.1,t.2.2])|none=>.bad)
 | .ex c p=>.ex c p
 | .bad=>.bad
theorem PK{apos jx:Pos}(ha:PE X o (tD X.K (dP Cb gl) G0 Γ E f κ))(l:z=true->κ.le .old=true)(sG:s8 o "items" X.env (eval o X.env)=eval o X.env:=by rfl)(sH:(apos.endLine==jx.line)=true:=by rfl) :
  PI X (.Tuple elts x1 tp) (.Call (.Attribute o "items" apos) [] [] jx) (Lz X.K (dP Cb gl) G0 Γ E z (KN f)):=(KJ ha sG sH).imp fun σ H Q zz=>by
 obtain ⟨A,st,r,q⟩:=zz;refine⟨A,st,r,?_⟩;unfold KN at q;cases hf:f st with
 | bad=>rw[hf]at q;exact q
 | ex c p=>rw[hf]at q;exact q
 | ok d=>
  rw[hf] at q;dsimp only at q;intro v H1 e1 w;cases hy:iz (some (some d))with
  | none=>rw[hy]at q;exact q.elim
  | some y=>
   rw[hy] at q;obtain ⟨hd,PJ⟩:=ny hy;obtain ⟨ds,lp⟩:=y;cases hd;dsimp only at q PJ;have w':Rep X.K (dP Cb gl) (er H1 (zB z A)) (.d8 2 ds) v:=by
    unfold zB;cases z with
    | true=>exact w.le r e1 (κ':=.old) (l rfl)
    | false=>rw[aM5 (by decide),mS];exact w.rep
   obtain ⟨a,oo,ps,vs,rfl,g1,g2,g3,g5,g4,g6,g7⟩:=pS w' PJ;have BV:ps.length=lp.length:=by rw[<- g4.1,br]
   refine⟨a,oo,ps,vs,rfl,aJ _ _ _ _ g2,g1,q _ _ e1 fun i H3 A3 e3 nA=>⟨fun d hd=>?_,fun hd=>?_⟩⟩;rw[di] at hd;cases wm:lp[i]? with
   | none=>rw[wm]at hd;cases hd
   | some t=>
    rw[wm] at hd;cases hd;have hi:i < ps.length:=by rw[BV];exact(eL.mp wm).1
    have ga:H3 a=some (.ext (DY a oo ps)):=(e3.trans (aJ _ _)) _ _ g2;refine⟨⟨ga,hi⟩,fun x H' qq=>?_⟩;obtain⟨T,p,y,hp,Iq,hT,hH,ex⟩:=qq;subst hH ex;obtain⟨v1,hv1,rv1⟩:=g6.get' (show(lp.map (·.2.2))[i]?=some t.2.2 by rw[di,wm];rfl);rw[Iq]at hv1;cases hv1;obtain ⟨v2,hv2,rv2⟩:=g7.get' (show (lp.map (·.2.1))[i]?=some t.2.1 by rw[di,wm];rfl);rw[di,hp] at hv2;cases hv2;have nT:T∉A3:=fun m=>nA T m hT;refine⟨cX hT,?_⟩;have up:aI (er H3 A3) (er (upd H3 T (.tup [.ref p.2.1,y])) A3):=aL (cX hT);rw[Rep];refine⟨T,_,rfl,.inl (.inl (by rw[aV nT,bS])),?_⟩;rw[aQ];refine⟨_,[y],rfl,rv2.same (e3.trans up) _,?_⟩;rw[aQ];refine⟨y,[],rfl,rv1.same (e3.trans up) _,?_⟩;rw[aQ]
   rw[di] at hd;have hn:lp[i]?=none:=by cases wm:lp[i]? with | none=>rfl | some t=>rw[wm] at hd;cases hd
   exact⟨(e3.trans (aJ _ _)) _ _ g2,by rw[BV];exact nM.mp hn⟩
end
section
def aJ5(s:Str)(f:DF):DF:=fun st=>match f st with
 | .ok d=>(match d with | .lst ds=>.ok (.tup [.str s,.lst ds])|_=>.bad)
 | .ex c p=>.ex c p
 | .bad=>.bad
def am9(K:aE)(tk tv:TE):TE:=fun σ H Q=>∀p o,H p=none->tk σ (upd H p (.ext (DY p o []))) fun x H1=>tv σ H1 fun y H2=>H2 p=some (.ext (DY p o []))/\∃b ks,x = .ref b/\mT K H2 ks b/\∀u o',RelV y u->Q (.ref p) (upd H2 p (.ext (DY p o' [(ks,b,u)])))
theorem SX(hu:X.A.units+1<cLine)(hk:PE X k tk)(hv:PE X e tv):PE X (.Dict [some k] [e] pos) (am9 X.K tk tv):=by
 intro ak s σ H Q I q;have hn:=I.fE.fresh (bg s.heap.objs.size);have IP:(s.heap.objs.size==oJ)=false:=aN1.mpr (eU (dH (Inv.al6 I)));have I1:=I.laid (a:=s.heap.objs.size) (o:=.ext (DY s.heap.objs.size _ [])) (h':=s.heap.push {cls:=.type "dict",data:=.dict #[]}) (t':=s.toks) (fun _ _ q=>bU _ q) (bg _) (E3 (Px IP));refine wpAny_Dict_any rfl rfl (by simp) (by simp) (pairTrees_cons_walk (gS (hk ak _ σ _ _ I1 (q _ _ hn)) fun u s1 zz=>?_));obtain⟨x,H1,I2,rx,q1⟩:=zz;refine gS (hv ak s1 σ H1 _ I2 q1) fun w2 s2 zz=>?_;obtain⟨y,H2,I3,ry,hp,b,ks,rfl,hb,q2⟩:=zz;cases rx;refine pairTrees_nil_walk ?_;obtain⟨dd,_,hz⟩:=tQ I3 hp (fun _ m=>nomatch m);unfold storeAll;refine mC _ (fun rest _ s'=>(rest=[(eW b,w2)]/\s'=s2)\/(rest=[]/\∃o',L2.Inv X ak σ (upd H2 s.heap.objs.size (.ext (DY s.heap.objs.size o' [(ks,b,w2)]))) s')) _ ?_ ?_ _ _ (.inl ⟨rfl,rfl⟩);rintro z rest b0 s' (⟨hr,rfl⟩|⟨hr,_⟩);cases hr;refine ah (wpAny_dictSet_heap (hsz:=hz) (show X.A.units+1<cLine from hu) (rM I3 hb) dd fun h' dd' hs=>aC (.inr ⟨rfl,?_⟩));have he:∃q,h'.get? s.heap.objs.size=some q:=let⟨q,_,_,hq,_⟩:=dd';⟨q,hq⟩;obtain⟨o',dy⟩:=DY.of IP (by rw[F6 rfl];simp only[gf,B8];rw[gG];decide) dd';rw[F6 rfl,gf]at dy;exact⟨o',I3.write (x:=s.heap.objs.size) (e:=s.heap.objs.size) (by rw[hp];trivial) (.inl rfl) (fun c w hc z=>(hs.2 c hc).trans z) he (E3 dy)⟩;cases hr;rintro b0 s' (⟨hr,_⟩|⟨_,o',I4⟩);cases hr;exact⟨.ref s.heap.objs.size,_,I4,rfl,q2 w2 o' ry⟩
def Ef(fk f:DF):DF:=fun st=>match fk st with
 | .ok kd=>(match f st with
  | .ok d=>(match yP kd with|some _=>if okV d=true then .ok (.d8 2 [kd,d])else .bad|none=>.bad)
  | .ex c p=>.ex c p
  | .bad=>.bad)
 | .ex c p=>.ex c p
 | .bad=>.bad
theorem SY(hu:X.A.units+1<cLine)(hk:PE X k (tD X.K (dP Cb gl) G0 Γ E fk κk))(hv:PE X e (tD X.K (dP Cb gl) G0 Γ E f .new)):PE X (.Dict [some k] [e] pos) (tD X.K (dP Cb gl) G0 Γ E (Ef fk f) .new):=(SX hu hk hv).imp fun σ H Q zz=>by
 obtain ⟨A,st,r,q⟩:=zz;intro p o hp;have e0:aI H (upd H p (.ext (DY p o []))):=cX hp;refine⟨A,st,r.mono e0,?_⟩;unfold Ef at q;cases hfk:fk st with
 | bad=>rw[hfk]at q;exact q
 | ex c p'=>rw[hfk]at q;exact fun H' e'=>q H' (e0.trans e')
 | ok kd=>
  rw[hfk]at q;dsimp only at q;intro x H1 e1 w1;refine⟨A,st,(r.mono e0).mono e1,?_⟩;cases hf:f st with
  | bad=>rw[hf]at q;exact q
  | ex c p'=>rw[hf]at q;exact fun H' e'=>q H' ((e0.trans e1).trans e')
  | ok d=>
   rw[hf] at q;dsimp only at q;intro y H2 e2 w2;cases LA:yP kd with
   | none=>rw[LA]at q;exact q.elim
   | some ks=>
    rw[LA] at q;dsimp only at q;by_cases ho:okV d=true;rw[aM4 ho]at q;have tE:=e1.trans e2;have e02:=e0.trans tE;have Oe:H2 p=some (.ext (DY p o [])):=tE _ _ bS;have wk:=w1.rep.same e2 _;obtain⟨b,rfl,hb⟩:=qi wk LA;refine⟨Oe,b,ks,rfl,hb,fun u o' ru=>?_⟩;have nz:∀b' w,nw H (upd H2 p (.ext (DY p o' [(ks,b,u)]))) b'=some w->True:=fun _ _ _=>trivial;have S:aI (nw H1 H2) (er (nw H (upd H2 p (.ext (DY p o' [(ks,b,u)])))) [p]):=fun b' w z=>by
     unfold nw at z;split at z;rename_i kp;have nb:b'≠p:=fun w'=>by subst w';rw[e1 _ _ bS]at kp;cases kp
     rw[aV (by simpa using nb)];unfold nw;rw[aM4 (nU (e0.trans e1) kp),aW nb];exact z;cases z
    have wv:Rep X.K (dP Cb gl) (er (nw H (upd H2 p (.ext (DY p o' [(ks,b,u)])))) [p]) d y:=w2.1.same S _;have kt:kK H2 (er (nw H (upd H2 p (.ext (DY p o' [(ks,b,u)])))) [p]):=by
     refine⟨fun b' w z=>?_,fun a xs z=>?_⟩;by_cases nb:b'=p;rw[nb,dD (by simp)] at z;cases z;rw[aV (by simpa using nb)] at z;have:=cz _ _ _ _ z;rwa [aW nb]at this;have na:a≠p:=fun w=>by rcases z with z | ⟨u',z⟩;rw[w,Oe] at z;cases z;rw[w,Oe] at z;cases z
     have kn:vK (H a)=true:=by
      cases q':H a with
      | none=>rfl
      | some o''=>have:=e02 a o'' q';rcases z with z | ⟨u',z⟩;rw[z] at this;cases this;rfl;rw[z] at this;cases this;rfl
     unfold Rd;rw[aV (by simpa using na)];unfold nw;rw[aM4 kn,aW na];exact z
    have wk2:Rep X.K (dP Cb gl) (er (nw H (upd H2 p (.ext (DY p o' [(ks,b,u)])))) [p]) kd (.ref b):=Rep.part kt _ (C9 LA) wk;obtain⟨b2,YU,hbk⟩:=qi wk2 LA;cases YU;have at_:nw H (upd H2 p (.ext (DY p o' [(ks,b,u)]))) p=some (.ext (DY p o' [(ks,b,u)])):=by rw[lK hp];exact bS
    have plv:∀l',y = .ref l'->∃ys,er (nw H (upd H2 p (.ext (DY p o' [(ks,b,u)])))) [p] l'=some (.lst ys):=fun l' zl=>by
     cases d with
     | lst es=>obtain⟨p',z,h0,ys,hy,_⟩:=w2.2.1 rfl;rw[zl] at z;cases z;exact⟨ys,S _ _ hy⟩
     | int n=>have:=w2.1;rw[Rep]at this;rw[this]at zl;cases zl
     | _=>cases ho
    have own:mQ X.K (dP Cb gl) (er (nw H (upd H2 p (.ext (DY p o' [(ks,b,u)])))) [p]) (nw H (upd H2 p (.ext (DY p o' [(ks,b,u)])))) p (.d8 2 [kd,d]):=
     ⟨rfl,nu [(ks,b,u)] [y],⟨o',_,_,rfl,.cons ru .nil,at_,fun x m=>by obtain rfl:=eY.mp m;exact hbk,fun l' m=>plv l' (eY.mp m).symm⟩,.cons wk2 (.cons wv (by rw[aQ];rfl))⟩
    refine q _ _ (fun b' w z=>?_) ⟨own.rep (.refl _) rfl,fun _=>⟨p,rfl,hp,own⟩,.not rfl⟩;have nb:b'≠p:=fun w'=>by rw[w',hp]at z;cases z
    rw[aW nb];exact e02 _ _ z;rw[aM5 ho]at q;exact q.elim
end
end Dm
end am7
section aF9
namespace Hk
open PySem
section
theorem KP{Q:av->aA->Prop}(hd:(d==oJ)=false)(ho:s.heap.get? d=some od)(hx:od.ExactDict)(j9:od.data = .dict es ep)
  (hQ:Q (.ref s.heap.objs.size) {s with heap:=s.heap.push {cls:=.type "dict_keyiterator",data:=.fields #[.ref d,.int 0 0,.int es.size 0,.int ep 0]}}):aB (aD prog w) A (pyIter (.ref d)) Q E s:=by
 have hT:s.TypeIs (.ref d) "dict":=⟨od,ho,hx.1⟩
 refine AZ hT Nq (iK Nq hT F.entry_dict_iter ?_ (F.args_dict_iter_1 _));unfold Builtin.«dict.__iter__»;refine ah ?_;unfold Builtin.Dict.dictSlotNone;refine ah (F8 hT ?_);show aB _ _ (pure (eW d)) _ _ s;refine aC ?_;show aB _ _ (xK d>>=_) _ _ s;unfold xK;rw[aM5 (by rw[hd];exact jo)];refine ah (aC (ah (kj ho j9 (ah (oN ho j9 ?_)))));refine ah (ou (aC ⟨_,rfl,"dict_keyiterator",_,⟨_,eV _ rfl,rfl⟩,xJ.lookup,?_⟩));simpa[rawInt]using hQ
theorem KQ{Q:Option av->aA->Prop}(hit:s.heap.IsKeyIter it d i es.size ep)(ho:s.heap.get? d=some od)(j9:od.data = .dict es ep)(hx:es[i]?=some e)
  (hQ:∀h',h'.IsKeyIter it d (i+1) es.size ep->i6 it s.heap h'->Q (some e.key) {s with heap:=h'}):aB (aD prog w) A (pyNext (.ref it)) Q E s:=by
 obtain ⟨o,Z5,hc,hd⟩:=id hit;have gr:i < es.size:=(oU.mp hx).1;have he:es[i]=e:=(oU.mp hx).2;have Xj:xM "dict_keyiterator"=false:=by decide
 unfold pyNext;refine ah (oK (qQ (name:=lq "__next__") hit.typeIs xJ (iK xJ hit.typeIs Nr ?_ (Nt _))));refine ah (aC (ah (ah ?_)));first|refine ah (B5 hit.typeIs (aC ?_))|refine ah (B6 hit.typeIs (aC ?_))
 refine ah (uq Z5 hd ?_);simp only[Xj,dj,aN2];show aB _ _ (if(eW d==ez)=true then _ else _) _ _ s;rw[aM5 (show ¬ ((eW d==ez)=true) from jo)];refine ah (aC (ah (kj ho j9 ?_)));rw[aM5 (by simp)];refine ah (aC (ah (oN ho j9 ?_)));rw[aM5 (by simp)];refine aC ?_;simp only[show ¬ ((i:Int)<0)from by omega,aN2,kB,xC gr,he];refine ah ?_;first|refine ah (B5 hit.typeIs (aC ?_))|refine ah (B6 hit.typeIs (aC ?_))
 refine ah (LU hit.typeIs ?_);show aB _ _ (setField (.ref it) 1 (rawInt ((i:Int)+1))>>=_) _ _ s;refine ah (qP Z5 hd (by simp) ?_);have C8:(s.heap.update it (Obj.mapFields (·.setIfInBounds 1 (rawInt ((i:Int)+1))))).IsKeyIter it d (i+1) es.size ep:=
  ⟨_,nH _ Z5 (Bm (uK hd _)),(G1 ..).trans hc,by rw[uK hd];simp[rawInt]⟩
 refine ah (jh ?_);refine ah (LU (s:={s with heap:=s.heap.update it (Obj.mapFields (·.setIfInBounds 1 (rawInt ((i:Int)+1))))}) C8.typeIs ?_);show aB _ _ (pure e.key) _ _ _;exact aC (aC ⟨_,rfl,aC (hQ _ C8 (fz ..))⟩)
theorem PM{Q:Option av->aA->Prop}(hh:A.handled=none)(hit:s.heap.IsKeyIter it d i es.size ep)(ho:s.heap.get? d=some od)(j9:od.data = .dict es ep)(hx:es.size<=i)
  (hQ:∀h',Heap.ExtBut it s.heap h'->Q none {s with heap:=h'}):aB (aD prog w) A (pyNext (.ref it)) Q E s:=by
 obtain ⟨o,Z5,hc,hd⟩:=id hit;have Xj:xM "dict_keyiterator"=false:=by decide
 unfold pyNext;refine ah (oK (qQ (name:=lq "__next__") hit.typeIs xJ (iK xJ hit.typeIs Nr ?_ (Nt _))));refine ah (aC (ah (ah ?_)));first|refine ah (B5 hit.typeIs (aC ?_))|refine ah (B6 hit.typeIs (aC ?_))
 refine ah (uq Z5 hd ?_);simp only[Xj,dj,aN2];show aB _ _ (if(eW d==ez)=true then _ else _) _ _ s;rw[aM5 (show ¬ ((eW d==ez)=true) from jo)];refine ah (aC (ah (kj ho j9 ?_)));rw[aM5 (by simp)];refine ah (aC (ah (oN ho j9 ?_)));rw[aM5 (by simp)];refine aC ?_;simp only[show ¬ ((i:Int)<0)from by omega,aN2,kB,rj hx];refine ah ?_;first|refine ah (B5 hit.typeIs (aC ?_))|refine ah (B6 hit.typeIs (aC ?_))
 show aB _ _ (setField (.ref it) 0 .none>>=_) _ _ s;refine ah (qP Z5 hd (by simp) ?_);show aB _ _ (newExc (.type "StopIteration") []>>=_) _ _ _;refine ah ?_;simp only[newExc,newTuple];refine ah (ou ?_ (by size_fits));refine ah (m:=ur _ _) (uo (a:=ez) (by first | rfl | (simp only[ur];rfl)) ?_);refine ou ?_ (by size_fits);simp only[raiseNew];refine ah (EX ?_);rw[show A.in1.handled=none from hh];refine ah (aC (EY ?_));refine ah (qR (T:="StopIteration") (b:=true) ⟨_,eV _ rfl,rfl⟩ EZ ?_);exact aC (hQ _ (((fz ..).extBut.push _).push _))
end
end Hk
end aF9
section an0
namespace Dm
open PySem PySem.Spec PyProof.Rows L2
def ItK(a:ay)(o:Obj)(ps:List SP):It:=
 ⟨fun i H=>H a=some (.ext (DY a o ps))/\i<ps.length,fun i H x H'=>∃p,ps[i]?=some p/\H'=H/\x = .ref p.2.1,fun i H=>H a=some (.ext (DY a o ps))/\ps.length<=i⟩
theorem HE{P:dG}{w:bQ}{K:aE}{tg:bF}{a it:ay}{o:Obj}{ps:List SP}{es:Array qT}{ep:Nat}(j9:o.data = .dict es ep)(Dt:∀(P:dG) (w:bQ),es.toList=ps.map (qx (Hk.kH (intKind P w)))) :
  Turn P w K tg (ItK a o ps) [it] it (fun i h=>h.IsKeyIter it a i es.size ep) where
 mem:=by simp
 obj:=fun i h st b hb=>by
  obtain⟨oi,he,_,hd⟩:=st;obtain rfl:b=it:=by simpa using hb
  exact⟨_,he,fun v z=>by rw[hd]at z;cases z⟩
 keep:=fun i h h' st k=>st.at fun o e=>k it (by simp) o e
 item:=by
  intro X hP hw hK hc i ak s σ H E I hf st hg;subst hP hw hK;obtain ⟨ha,hi⟩:=hg;obtain ⟨⟨IP,hz,ho,hx,_⟩,_,_⟩:=(show gI X.prog X.w H s.heap a (.ext (DY a o ps)) from I.fE a _ ha)
  obtain ⟨p,hp⟩:∃p,ps[i]?=some p:=⟨ps[i],dz hi⟩
  have hen:es[i]?=some (qx (Hk.kH (intKind X.prog X.w)) p):=by rw[entry_at (Dt X.prog X.w),hp];rfl
  obtain ⟨f0,f1,f2,f3,f4,f5⟩:=hf it (by simp);refine Hk.KQ st ho j9 hen fun h' C8 hs=>⟨_,rfl,?_⟩
  obtain⟨oi,he,Am,hd⟩:=id C8;refine Ik he Am hd (by decide) ?_;exact⟨.ref p.2.1,H,I.turned (t':=s.toks) (fun b o hb q=>(hs.2 b hb).trans q) f0 f1 f3 f4 f5,rfl,⟨p,hp,rfl,rfl⟩,C8,fun b hb=>by
   obtain rfl:b=it:=by simpa using hb
   exact f0⟩
 done:=by
  intro X hP hw hK hc i ak s σ H E I hf st hg;subst hP hw hK;obtain ⟨ha,hi⟩:=hg;obtain ⟨⟨IP,hz,ho,hx,_⟩,_,_⟩:=(show gI X.prog X.w H s.heap a (.ext (DY a o ps)) from I.fE a _ ha)
  obtain ⟨f0,f1,f2,f3,f4,f5⟩:=hf it (by simp);exact Hk.PM (I.ok.hd hc) st ho j9 (by rw[oM (Dt X.prog X.w)];exact hi) fun h' eb=>⟨rfl,I.turned (t':=s.toks) (fun b o hb e=>eb b o hb e) f0 f1 f3 f4 f5⟩
 self:=fun A i s Q E st h=>wpAny_pyIter_keyiter st h
def aG0(to:TE):TI:=fun σ H R=>to σ H fun x H1=>∃a o ps,x = .ref a/\H1 a=some (.ext (DY a o ps))/\R (ItK a o ps) H1
section
theorem PN{to:TE}(ho:PE X o to):PI X tg o (aG0 to):=by
 intro ak s σ H R I h;refine gS (ho ak s σ H _ I h) fun v s1 zz=>?_;obtain⟨x,H1,I1,r1,a,oo,ps,rfl,hx,q1⟩:=zz;cases r1;obtain ⟨⟨IP,hz,hg,sE,es,ep,j9,Dt,hn⟩,_,_⟩:=(show gI X.prog X.w H1 s1.heap a (.ext (DY a oo ps)) from I1.fE a _ hx)
 refine Hk.KP IP hg sE j9 ?_;refine⟨_,[_],_,_,H1,rfl,I1.kept (t':=s1.toks) (fun b u z=>bU _ z),HE j9 Dt,⟨_,eV _ rfl,rfl,rfl⟩,fun b hb=>?_,q1⟩;have mW:s1.heap.objs.size<=b:=by
  obtain rfl:b=_:=by simpa using hb
  exact bg _
 exact I1.JB mW (I1.fE.fresh mW)
def T3(f:DF):DI:=fun st=>match f st with
 | .ok d=>(match iz (some (some d))with|some y=>.ok (y.2.map fun t=>t.2.1)|none=>.bad)
 | .ex c p=>.ex c p
 | .bad=>.bad
theorem T4(ha:PE X o (tD X.K (dP Cb gl) G0 Γ E f κ))(l:z=true->κ.le .old=true):PI X tg o (Lz X.K (dP Cb gl) G0 Γ E z (T3 f)):=(PN ha).imp fun σ H Q zz=>by
 obtain ⟨A,st,r,q⟩:=zz;refine⟨A,st,r,?_⟩;unfold T3 at q;cases hf:f st with
 | bad=>rw[hf]at q;exact q
 | ex c p=>rw[hf]at q;exact q
 | ok d=>
  rw[hf] at q;dsimp only at q;intro v H1 e1 w;cases hy:iz (some (some d))with
  | none=>rw[hy]at q;exact q.elim
  | some y=>
   rw[hy] at q;obtain ⟨hd,PJ⟩:=ny hy;obtain ⟨ds,lp⟩:=y;cases hd;dsimp only at q PJ;have w':Rep X.K (dP Cb gl) (er H1 (zB z A)) (.d8 2 ds) v:=by
    unfold zB;cases z with
    | true=>exact w.le r e1 (κ':=.old) (l rfl)
    | false=>rw[aM5 (by decide),mS];exact w.rep
   obtain ⟨a,oo,ps,vs,rfl,g1,g2,g3,g5,g4,g6,g7⟩:=pS w' PJ;have BV:ps.length=lp.length:=by rw[<- g4.1,br]
   refine⟨a,oo,ps,rfl,aJ _ _ _ _ g2,q _ _ e1 fun i H3 A3 e3 nA=>⟨fun d hd=>?_,fun hd=>?_⟩⟩;rw[di] at hd;cases wm:lp[i]? with
   | none=>rw[wm]at hd;cases hd
   | some t=>
    rw[wm] at hd;cases hd;have hi:i < ps.length:=by rw[BV];exact(eL.mp wm).1
    have ga:H3 a=some (.ext (DY a oo ps)):=(e3.trans (aJ _ _)) _ _ g2;refine⟨⟨ga,hi⟩,fun x H' qq=>?_⟩;obtain⟨p,hp,hH,ex⟩:=qq;subst hH ex;obtain ⟨v2,hv2,rv2⟩:=g7.get' (show (lp.map (·.2.1))[i]?=some t.2.1 by rw[di,wm];rfl);rw[di,hp] at hv2;cases hv2;exact⟨.refl _,rv2.same e3 _⟩
   rw[di] at hd;have hn:lp[i]?=none:=by cases wm:lp[i]? with | none=>rfl | some t=>rw[wm] at hd;cases hd
   exact⟨(e3.trans (aJ _ _)) _ _ g2,by rw[BV];exact nM.mp hn⟩
end
end Dm
end an0
section aG1
namespace Dm
open PySem PyProof.Rows L2 HT PySem.SeqAt
open PySem.AutoSeq1 (wpAny_loadPart')
open PySem.MeetsSeq PySem.MeetsSeq2 PySem.MeetsSeq3
abbrev lob(d:Option ay)(us:Array av)(m:Nat)(z:Array (Option av)):Obj:={cls:=.type "list",dict:=d,data:=.seq us m,slots:=z}
theorem J3{us vs:Array av}(same:us.size=vs.size):∀(f j:Nat) (xs ys:List D),us.size=j+f->
  Meets (Builtin.«list.__eq__.loop» ⟨[.ref p,.ref q,rawInt j,rawInt 0],[]⟩) (fun A R s=>s.heap.get? p=some (lob d us m z)/\s.heap.get? q=some (lob d' vs m' z')/\PL A.in1 s (us.toList.drop j) (vs.toList.drop j) xs ys/\R (.ok (.ret (.bool (lexLt (jF xs) (jF ys))))) s)
 | 0,j,xs,ys,e=>fun prog w A R s hh=>by
  obtain ⟨h0,g0,d0,t0,o0⟩:=s;obtain ⟨hp,hq,P,hR⟩:=hh;rw[FL (by rw[dN];lia),FL (by rw[dN];lia)]at P;cases P
  wp_walk using k9 hp,k9 hq
  rw[show us[((j:Nat):Int).toNat]?=none by rw[kB];exact rj (by lia),show vs[((j:Nat):Int).toNat]?=none by rw[kB];exact rj (by lia)]
  wp_walk using k9 hp,k9 hq
  rw[jF,iU]at hR;show R (.ok (.ret (.bool (decide (us.size<vs.size))))) _;rw[aM7 (by lia)];exact hR
 | f+1,j,xs,ys,e=>fun prog w A R s hh=>by
  obtain ⟨h0,g0,d0,t0,o0⟩:=s;obtain ⟨hp,hq,P,hR⟩:=hh;have ju:j<us.size:=by lia
  have jv:j<vs.size:=by lia
  have eu:us[((j:Nat):Int).toNat]?=some us[j]:=by rw[kB];exact xC ju
  have ev:vs[((j:Nat):Int).toNat]?=some vs[j]:=by rw[kB];exact xC jv
  rw[uA (show j<us.toList.length by rw[dN];exact ju),uA (show j<vs.toList.length by rw[dN];exact jv)]at P;cases P with
  | @cons _ _ x0 y0 _ _ rG ID q1 q2 q3 q4=>
   rw[MU]at q1 q2;rw[jF,jF,wI q3]at hR
   wp_walk using k9 hp,k9 hq
   rw[eu,ev];refine ah (q1 prog w _ _ ?_);by_cases c:fl x0=fl y0;rw[aM4 c] at hR;rw[aM6 c]
   wp_walk
   rw[show((j:Int)+1)=((j+1:Nat):Int)from rfl];refine⟨x8 plain_eq_loop _,mD entry_eq_loop ?_⟩;rw[rA plain_eq_loop _];exact J3 same f (j+1) rG ID (by lia) prog w A R _ ⟨hp,hq,q4,hR⟩;rw[aM5 c] at hR;rw[aM7 c]
   wp_walk using k9 hp,k9 hq
   rw[eu,ev];refine ah (q2 prog w _ _ ?_)
   wp_walk
   simpa using hR
theorem KR{us vs:Array av}(same:us.size=vs.size)(xs ys:List D) :
  Meets (Builtin.«list.__lt__» ⟨[.ref p,.ref q],[]⟩) (fun A R s=>s.heap.get? p=some (lob d us m z)/\s.heap.get? q=some (lob d' vs m' z')/\PL A.in1 s us.toList vs.toList xs ys/\R (.ok (.ret (.bool (lexLt (jF xs) (jF ys))))) s):=fun prog w A R s hh=>by
 obtain ⟨h0,g0,d0,t0,o0⟩:=s;obtain ⟨hp,hq,P,hR⟩:=hh;have sub:=AutoSeq1.sub_list_list
 wp_walk using k9 hp,k9 hq
 refine⟨x8 plain_eq_loop _,mD entry_eq_loop ?_⟩;rw[rA plain_eq_loop _];exact J3 same us.size 0 xs ys (mF _).symm prog w A R _ ⟨hp,hq,P,hR⟩
section
theorem Xk{A:cH}(sh:gk xs ys=true)(n:GP xs=true)(hu:fH s.heap (.lst xs) u)(hv:fH s.heap (.lst ys) v)(hr:A.units+kN xs+1<cLine):Wz A s u v (lexLt (jF xs) (jF ys)):=by
 rw[fH]at hu hv;refine bA hu fun a it b8 t1 p1=>?_;clear hu;obtain rfl:=b8;refine bA hv fun b UP b8 t2 p2=>?_;clear hv;obtain rfl:=b8;obtain⟨⟨cls,dd,data,sl⟩,n1,ho,hc,hd,he⟩:=id t1;obtain⟨⟨ah0,YS,data2,YT⟩,n2,UQ,Ls,hd2,Rb⟩:=id t2;simp only at hc hd he Ls hd2 Rb;subst hc hd he Ls hd2 Rb;have P:=RV xs ys (A:=A.in1) sh n p1 p2 (by show A.units+1+_<_;lia);intro prog w E Q hq;have BV:it.size=UP.size:=by simpa using P.len
 exact LM (op:=.Lt) ⟨_,ho,rfl⟩ ⟨_,UQ,rfl⟩ PySem.F.slot_list_lt PySem.F.entry_list_lt (PySem.F.args_list_lt_2 _ _) (KR BV xs ys)
  ⟨ho,UQ,P,show Value.bool (lexLt (jF xs) (jF ys))≠Value.notImplemented/\Q _ s from⟨(fun x=>nomatch x),hq⟩⟩ (by lia)
end
end Dm
end aG1
section an1
namespace Dm
open PySem PySem.W PyProof.Rows L2 HT PySem.SeqAt So
def Xl(ds:List D):Prop:=∀a∈ds,∀b∈ds,∃i j xs ys,a = .tup [.int i,.lst xs]/\b = .tup [.int j,.lst ys]/\GP xs=true/\cC xs=true/\kN xs<=50/\(i=j->gk xs ys=true)
theorem qj(i:Int)(xs:List D):fl (.tup [.int i,.lst xs])=i::jF xs:=by simp[fl,jF]
theorem T5(h:Xl ds)(ha:a∈ds)(hb:b∈ds)(e:fl a=fl b):a=b:=by
 obtain⟨i,j,xs,ys,rfl,rfl,_,_,_,sh⟩:=h a ha b hb;rw[qj,qj]at e;injection e with e1 e2;subst e1;rw[sS xs ys (sh rfl) e2]
section
theorem T6{C:Bool->aA->Prop}(k:Xl ds)(hu:A.units+60<cLine)(p:bI s.heap ds vs)(hi:i<ds.length)(hj:j<ds.length)(hc:C (decide (rk ds i<rk ds j)) s) :
  aB (aD prog w) A (keyLt' (tuples' true) (vs.getD i ez) (vs.getD j ez)) C (fun _ _=>False) s:=by
 rw[<- IE ds hi] at hc;obtain ⟨ai,mi⟩:=m6 p hi;obtain ⟨aj,mj⟩:=m6 p hj;generalize ds.getD i .dh=x at hc ai mi;generalize ds.getD j .dh=y at hc aj mj;obtain⟨m,n,xs,ys,rfl,rfl,nx,fx,dx,sh⟩:=k x mi y mj;obtain⟨_,_,_,_,e1,_,_,fy,_,_⟩:=k _ mj _ mj;injection e1 with e1;injection e1 with _ e1;injection e1 with e1;injection e1 with e1;subst e1;rw[qj,qj]at hc;rw[fH]at ai aj;refine bA ai fun a it e1 rE p1=>?_;clear ai;obtain ⟨o1,q1,_,n1,d1⟩:=rE;refine bA aj fun b' UP e2 rE p2=>?_;clear aj;obtain ⟨o2,q2,_,n2,d2⟩:=rE;rw[e1,e2];rw[bI] at p1 p2;obtain⟨v0,r0,er0,a0,p1⟩:=p1;obtain⟨v1,r1,er1,a1,p2⟩:=p2;rw[bI] at p1 p2;obtain⟨v2,r2,rfl,a2,p1⟩:=p1;obtain⟨v3,r3,rfl,a3,p2⟩:=p2;rw[bI] at p1 p2;subst p1;subst p2;rw[fH]at a0 a1;obtain⟨t,rfl⟩:=a0;obtain⟨t',rfl⟩:=a1;have sz:it.size=UP.size:=by rw[<- dN,er0,<- dN,er1];rfl
 refine kat_lt q1 d1 q2 d2 ?_;rw[er0,er1];have E0:EqAt A s (.int m t) (.int n t') (decide (m=n)):=by have:=pB (s:=s) (.int m) (.int n) (A:=A) (by rw[flat] <;> simp) (by rw[flat] <;> simp) (u:=.int m t) (v:=.int n t') (by rw[fH];exact⟨t,rfl⟩) (by rw[fH];exact⟨t',rfl⟩) (by simp[dep];lia);rw[j7]at this;exact this
 refine kat_cons (E0 prog w _ _ (kat_go (fun c=>kat_yes ?_) fun c=>kat_no ?_));have c:=aN0 c;subst c;rw[dQ,aM4 rfl]at hc;have sh:=sh rfl;have E1:EqAt A s v2 v3 (decide (jF xs=jF ys)):=by have:=pB (s:=s) (.lst xs) (.lst ys) (A:=A) (by rw[flat];exact fx) (by rw[flat];exact fy) a2 a3 (by rw[dep];lia);rwa [j7,wH xs ys sh]at this
 refine kat_cons (E1 prog w _ _ (kat_go (fun c=>kat_yes ?_) fun c=>kat_no ?_));have c:=aN0 c;rw[c,sU]at hc;show C (decide (it.size<UP.size)) s;rw[aM7 (by lia)];exact hc;refine kat_one _ _ (Xk sh nx a2 a3 (by lia) prog w _ _ (show PySem.W.BoolBack C (.bool (lexLt (jF xs) (jF ys))) s from hc));have c:=aN8 c;rw[dQ,aM5 c]at hc;exact oneLt_int hc
theorem sgT(sk:Xl es)(l:es.length<=cU)(hu:A.units+64<cLine):SG prog w A es (tuples' true) vs:=
 ⟨l,fun a ha b hb=>T5 sk ha hb,fun A' s e h2 p=>⟨fun E R hR=>Dk (.oY fun d hd=>let⟨i,_,xs,_,e,_⟩:=sk d hd d hd;⟨i,_,e⟩) h2 p hR,fun i j C=>T6 sk (by rw[e];lia) p⟩⟩
end
end Dm
end an1
section an2
namespace Dm
open PySem PyProof.Rows L2 PySem.SeqAt Ts
section
abbrev PU(K:aE)(C:Cfg):List V->Hp->VK->Prop:=OD K C Xl
theorem KU(h:Xl ds):cC ds=true:=ie fun d hd=>by
 obtain⟨i,_,xs,_,rfl,_,_,f,_⟩:=h d hd d hd;simp[flat,cC,f]
theorem Cc(hu:X.A.units+64<cLine):lV X (.builtin "sorted") (PU X.K C):=t8 fun ds S=>⟨KU S,_,fun l bq=>sgT S l hu⟩
def skB(ds:List D):Bool:=ds.all fun a=>ds.all fun b=>match a,b with
 | .tup [.int i,.lst xs],.tup [.int j,.lst ys]=>GP xs&&cC xs&&decide (kN xs<=50)&&(decide (i≠j) || gk xs ys)
 | _,_=>false
theorem PV(h:skB ds=true):Xl ds:=fun a ha b hb=>by
 unfold skB at h;have h:=f7.mp (f7.mp h a ha) b hb;split at h;rename_i i xs j ys;simp only[bR,lg,aM9]at h;refine⟨i,j,xs,ys,rfl,rfl,h.1.1.1,h.1.1.2,h.1.2,fun e=>?_⟩;rcases h.2 with z|z;exact aN6 e z;exact z;cases h
def pT:List D->R D:=fun ds=>match ds with
 | [.lst es]=>if skB es=true then .ok (.lst (eO es))else .bad
 | _=>.bad
theorem PX(h:PE X e (VX (PU X.K C) (ER X.K C G0 Γ E fs .old))):PE X e (tD X.K C G0 Γ E (cQ pT fs) .old):=h.imp fun σ H Q zz=>by
 refine dO zz fun A st r q=>?_;clear zz;refine⟨A,st,r,?_⟩;unfold cQ R.bind at q;cases hf:fs st with
 | bad=>rw[hf]at q;exact q
 | ex c p=>rw[hf]at q;exact q
 | ok ds=>
  rw[hf] at q;dsimp only at q;intro vs H1 e1 w1;cases hg:pT ds with
  | bad=>rw[hg]at q;exact q.elim
  | ex c p=>unfold pT at hg;split at hg <;> (try split at hg) <;> cases hg
  | ok d=>
   rw[hg] at q;unfold pT at hg;split at hg
   ·rename_i es;split at hg;case isFalse=>cases hg
    rename_i hb;cases hg;obtain⟨v,rfl,w2⟩:=nj w1;replace w2:Rep X.K C (er H1 A) (.lst es) v:=w2;rw[Rep]at w2;obtain⟨a,ws,rfl,sq,rs⟩:=w2;refine⟨a,ws,es,rfl,aI.seq (aJ _ _) sq,rs.same ((aJ _ _).trans (aJ _ _)) _,PV hb,fun p pm hp gr hs=>?_⟩;refine q _ _ (e1.trans (cX hp)) ?_;have nA:p∉A:=fun m=>by obtain⟨o,z,_⟩:=(r.mono e1).lists p m;rw[hp]at z;cases z
    show Rep X.K C (er (upd H1 p _) A) (.lst (eO es)) (.ref p);rw[Rep];refine⟨p,_,rfl,.of ((aV nA).trans bS),?_⟩;rw[hs];refine(t6 (rs.same (aJ _ _) _) pm gr).same (fun b u z=>?_) _;have nb:b≠p:=fun w=>by have:=aJ _ _ _ _ z;rw[w,hp]at this;cases this
    rw[aV (by simpa using nb)];exact aL (cX hp) b u z
   cases hg
end
end Dm
end an2
section an3
namespace Lm
open PySem PySem.Spec PySem.W PyProof.Rows PySem.Calls
abbrev body(x:Str)(p1 p2 p3 p4 p5 p6:Pos)(c1:Nat):bF:=.Tuple [.UnaryOp .USub (.Call (.Name "len" p1) [.Name x p2] [] p3) p4,.Name x p5] c1 p6
section
theorem PY{Q:av->aA->Prop}(ho:s.heap.get? f=some o)(hd:o.data = .func (kla_fn nm qual params (body x p1 p2 p3 p4 p5 p6 c1) scope [] pm cv KW))(Xm:s.heap.CodeRec cv qual)
  (hco:scope.isCoroutine=false) (aG2:scope.isGenerator=false) (hk:scope.kind = .function) (hx:scope.names.lookup x=some .local) (hln:scope.names.lookup ("len" : Str)=some .globalImplicit)
  (PZ:∀(s:aA) (u:av),BindsTo s (kla_fn nm qual params (body x p1 p2 p3 p4 p5 p6 c1) scope [] pm cv KW) ⟨[u],[]⟩ [(x,u)]) (Ai:(x==("__debug__" : Str))=false)
  (sZ:A.depth<recursionLimit) (lim:s.heap.NoLimit) (hg:s.heap.Ns dM mg) (hm:mg "len"=none) (hb:s.heap.Ns builtinsNs mb) (hmb:mb "len"=some (.builtin "len")) (hv:s.heap.IsList v items) (aG3:(items.size:Int)<2 ^ 63)
  (h:∀h' tk t z,(∀b o,s.heap.get? b=some o->h'.get? b=some o)->s.heap.objs.size<=t->h'.get? t=some (cJ "tuple" #[.int (-(items.size:Int)) z,.ref v] 0)->Q (.ref t) {s with heap:=h',toks:=tk}) :
  aB (aD prog w) A (call (.ref f) [.ref v]) Q E s:=by
 refine AX (kla_callFunE sZ ho hd hco aG2 rfl Xm (PZ s (.ref v) _ _ _ _ ?_));refine LG hk (fun y hy=>.inl ?_) fun env he s1 ic=>?_;rw[eY.mp hy];exact hx;have hke:env.scope.kind = .function:=by rw[he];exact hk
 have hxe:env.kindOf x=some .local:=by rw[he];exact hx
 have hle:env.kindOf "len"=some .globalImplicit:=by rw[he];exact hln
 have UT:env.globals=dM:=by rw[he];rfl
 have Rm:env.builtins=builtinsNs:=by rw[he];rfl
 obtain⟨h1,tk,rfl⟩:=ic.toInCall.same;have keep:=ic.toInCall.keep;have ns:=ic.toInCall.ns;have mx:bindL env.kindOf [(x,eW v)] (fun _=>none) x=some (.ref v):=by unfold bindL;rw[hxe];simp[bindL]
 have sz:s.heap.objs.size<=h1.objs.size:=cI ic.toInCall.fresh (ji ns.lt);refine⟨lim.keeps keep,kla_codeExpr ?_⟩;refine LF ?_;show aB _ _ (spliced ((false,eval (.UnaryOp .USub (.Call (.Name "len" p1) [.Name x p2] [] p3) p4) env)::backTo p6 (bN [.Name x p5] env))) _ _ _;refine xB (wpAny_UnaryOp (uh ?_));refine MS hke hle (Us (by rw[UT];exact hg.keeps keep) hm (by rw[Rm];exact hb.keeps keep) hmb ?_);refine N3 ?_ rfl rfl;show aB _ _ (spliced ((false,eval (.Name x p2) env)::backTo p3 (bN [] env))) _ _ _;refine xB (CG (LC hke hxe ns mx ?_) Ai);refine Bf ?_;refine MT (let⟨o,a,b⟩:=hv;⟨o,keep _ _ a,b⟩) aG3 ?_;refine neg_int ?_;show aB _ _ (spliced ((false,eval (.Name x p5) env)::backTo p6 (bN [] env))) _ _ _;refine xB (CG (LC hke hxe ns mx ?_) Ai);refine Bf ⟨by rw[gG];show 2<=_;decide,?_⟩;exact h _ _ _ _ (fun b o e=>bU _ (keep b o e)) sz (eV _ rfl)
end
end Lm
end an3
section an4
namespace So
open PySem PySem.W PyProof.Rows
def KS(KO:Nat->Obj->Prop)(h:aY)(ks:List av):Prop:=∀j k,ks[j]?=some k->∃t o,k = .ref t/\h.get? t=some o/\KO j o
section
variable {prog:dG}{w:bQ}{A:cH}{E:av->aA->Prop}{s:aA}{a q:ay}{vs:List av}{kd:iO}{r:Nat->Nat}{KO:Nat->Obj->Prop}
theorem zM{P:PySem.Fin->aA->Prop}(ho:s.heap.get? a=some (cJ "list" vs.toArray n))(hz:vs.length<=cU)
  (Pp:∀i x h' tk Q,vs[i]?=some x->Keeps a s.heap h'->(∀Ca T7 t o,(∀b o,h'.get? b=some o->Ca.get? b=some o)->h'.objs.size<=t->Ca.get? t=some o->KO i o->Q (.ref t) {s with heap:=Ca,toks:=T7})->aB (aD prog w) A (call (.ref q) [x]) Q (fun _ _=>False) {s with heap:=h',toks:=tk})
  (D0:∀ks h' tk Q,2<=vs.length->ks.length=vs.length->Keeps a s.heap h'->KS KO h' ks->Q kd {s with heap:=h',toks:=tk}->aB (aD prog w) A (keyKind' ks.toArray) Q E {s with heap:=h',toks:=tk})
  (gr:∀ks h' tk i j C,2<=vs.length->ks.length=vs.length->Keeps a s.heap h'->KS KO h' ks->i<vs.length->j<vs.length->C (decide (r i<r j)) {s with heap:=h',toks:=tk}->aB (aD prog w) A (keyLt' kd (ks.getD i ez) (ks.getD j ez)) C (fun _ _=>False) {s with heap:=h',toks:=tk})
  (h:∀h' tk n' (pm:List Nat),Keeps a s.heap h'->pm.Perm (dU vs.length)->pm.Pairwise (fun i j=>r i<=r j)->h'.get? a=some (cJ "list" (pm.map fun i=>vs.getD i ez).toArray n')->P (.done (.ret .none)) {s with heap:=h',toks:=tk}) :
  aB (aD prog w) A (Builtin.«list.sort» ⟨[.ref a],[(lq "key",.ref q)]⟩) P E s:=by
 have ha:a<s.heap.objs.size:=cu ho;have Lq:=fz s.heap a (dm fun _=>(#[]:Array av));obtain⟨e1,UO⟩:∃e1,(s.heap.update a (dm fun _=>(#[]:Array av))).get? a=some (cJ "list" #[] e1):=⟨_,xE ho fun _=>#[]⟩
 rw[ksk_t1];unfold ksk_tree;refine ah (FT ho rfl (ah (rq ho rfl (ah (xF UO rfl (ah (EV (ah (x6 (jh ?_) (i7 _))) (by show vs.length<=_;lia))))) (by rw[dI];lia) (i7 _))));generalize hG:((s.heap.update a (dm fun _=>(#[]:Array av))).push (cJ "tuple" vs.toArray 0)).push (cJ "list" #[] 0)=g;generalize hS:((s.heap.update a (dm fun _=>(#[]:Array av))).push (cJ "tuple" vs.toArray 0)).objs.size=S;have hSs:s.heap.objs.size<S:=by rw[<- hS,size_push',LY];lia
 have hSa:a≠S:=by lia
 have kg:Keeps a s.heap g:=fun b o hb e=>by rw[<- hG];exact bU _ (bU _ (by rw[Lq.2 b hb];exact e))
 have ag:g.get? a=some (cJ "list" #[] e1):=by rw[<- hG];exact bU _ (bU _ UO)
 have sg:g.get? S=some (cJ "list" #[] 0):=by rw[<- hG,<- hS];exact eV _ rfl
 clear hG hS UO Lq;show aB (aD prog w) A (ksk_rest a (.ref q) false vs.toArray e1 (.ref S)) P E {s with heap:=g};unfold ksk_rest;refine ah (wX ?_);rw[List.forIn_toArray];have upk:∀{g:aY} {F:Obj->Obj},Keeps a s.heap g->Keeps a s.heap (g.update S F):=fun {g F} k b o hb e=>by rw[Fi _ _ _ _ (by have:=cu e;lia)];exact k b o hb e
 refine ah (ksk_fold (fun i s'=>∃h' tk kA e,s'={s with heap:=h',toks:=tk}/\Keeps a s.heap h'/\h'.get? a=some (cJ "list" #[] e1)/\h'.get? S=some (cJ "list" kA e)/\kA.size=i/\
  ∀j k,kA.toList[j]?=some k->∃t o,k = .ref t/\t≠a/\t≠S/\h'.get? t=some o/\KO j o) vs 0 _ ⟨g,s.toks,#[],0,rfl,kg,ag,sg,rfl,fun j k e=>by simp at e⟩ ?step ?done)
 case step=>
  rintro j x s' hx ⟨h',tk,kA,e,rfl,k1,a1,s1,z1,f1⟩;simp only[mF]at z1 ⊢;have hj:j<vs.length:=(eL.mp hx).1;refine ah (oK (iI (Pp j x h' tk (fun v Ln=>∃Ca T7 t o,v = .ref t/\Ln={s with heap:=Ca,toks:=T7}/\(∀b o,h'.get? b=some o->Ca.get? b=some o)/\h'.objs.size<=t/\Ca.get? t=some o/\KO j o) hx k1 fun Ca T7 t o q1 q2 q3 q4=>⟨Ca,T7,t,o,rfl,rfl,q1,q2,q3,q4⟩) (fun v Ln he=>?_) fun _ _ hF=>hF.elim));obtain⟨h2,tk2,t,o,rfl,rfl,q1,q2,q3,q4⟩:=he;dsimp only;have s2:=q1 _ _ s1;have tS:t≠S:=by have:=cu s1;lia
  have ta:t≠a:=by have:=cu a1;lia
  have sb:=fz h2 S (dm (·.push (eW t)));obtain⟨c2,Ls⟩:∃c2,(h2.update S (dm (·.push (eW t)))).get? S=some (cJ "list" (kA.push (.ref t)) c2):=⟨_,xE s2 (·.push (eW t))⟩
  refine ah (rq s2 rfl ?_ (by lia) (cI (LZ (MZ ..)) (by lia)));refine aC ⟨rfl,_,_,kA.push (.ref t),c2,rfl,upk fun b o hb e=>q1 b o (k1 b o hb e),(sb.2 a hSa).trans (q1 _ _ a1),Ls,by rw[MZ,z1],fun i k ek=>?_⟩;rw[FQ,List.getElem?_append]at ek;split at ek;obtain⟨t',o',r1,r2,r3,r4,r5⟩:=f1 i k ek;exact⟨t',o',r1,r2,r3,(sb.2 t' r3).trans (q1 _ _ r4),r5⟩;rename_i hi;rw[dN,z1]at hi ek;have:i-j=0:=by rcases Ma (i-j)with z|z;exact z;rw[uE (by simp;lia)]at ek;cases ek
  have ij:i=j:=by lia
  subst ij;simp at ek;subst ek;exact⟨t,o,rfl,ta,tS,(sb.2 t tS).trans q3,q4⟩
 case done=>
  rintro s' ⟨h',tk,kA,e,rfl,k1,a1,s1,z1,f1⟩;simp only[mF]at z1;skip
  refine ah (FT s1 rfl ?_);have kl:kA.toList.length=vs.length:=by rw[dN];exact z1
  have ks:KS KO h' kA.toList:=fun j k e=>let⟨t,o,r1,_,_,r4,r5⟩:=f1 j k e;⟨t,o,r1,r4,r5⟩;have sb:=fz h' S (dm fun _=>(#[]:Array av));have a2:(h'.update S (dm fun _=>(#[]:Array av))).get? a=some (cJ "list" #[] e1):=(sb.2 a hSa).trans a1;have tail:∀(st:bJ) (pm:List Nat),failedOf st=none->(arrOf st).map (·.2)=(pm.map fun i=>vs.getD i ez).toArray->pm.Perm (dU vs.length)->pm.Pairwise (fun i j=>r i<=r j)->
    aB (aD prog w) A (ksk_tail a false e1 (.ref S) st) P E {s with heap:=h',toks:=tk}:=fun st pm hf ha hp hw=>by
   unfold ksk_tail
   dsimp only
   refine ah (rq s1 rfl ?_ (by lia) (i7 _))
   refine ah (F7 ?_)
   refine ah (xF a2 rfl ?_)
   rw[ha,hf]
   refine ah (rq a2 rfl ?_ (i7 _) (by
    rw[aM5 (by decide),dI,br,hp.length_eq,xu];lia))
   simp only[aN7,dj,aN2]
   have Lr:=fz (h'.update S (dm fun _=>(#[]:Array av))) a (dm fun _=>(pm.map fun i=>vs.getD i ez).toArray)
   exact aC (h _ _ _ pm (fun b o hb e=>by rw[Lr.2 b hb];exact upk k1 b o hb e) hp hw (xE a2 fun _=>_))
  unfold ksk_end;dsimp only;simp only[dj,aN2];have zp:kA.zip vs.toArray=((dU vs.length).map fun i=>(kA.toList.getD i ez,vs.getD i ez)).toArray:=by
   apply Bh.mp;rw[MW];refine Mt (by simp[z1]) fun i h1 h2=>?_;simp at h1 h2;have h3:i<kA.size:=by lia
   simp[h2,h3]
  by_cases h2:vs.toArray.size<2;rw[aM4 h2,aM4 h2];refine ah (aC ?_);rw[Nb];refine ah (aC ?_);dsimp only;refine tail _ (dU vs.length) rfl ?_ (.refl _) ?_;show(kA.zip vs.toArray).map (·.2)=_;rw[zp,FF,eZ];rfl;rw[dI] at h2;refine qX.mpr fun i j hi hj nD=>?_;rw[xu] at hj;lia;rw[aM5 h2,aM5 h2];rw[dI] at h2;have GN:2<=vs.length:=by lia
  refine ah (D0 kA.toList h' tk _ GN kl k1 ks ?_);have W:Sg.Wt kd (fun i=>(kA.toList.getD i ez,vs.getD i ez)) (dU vs.length) #[] (SortSt.mk' kd (kA.zip vs.toArray) #[] 7 none):=⟨rfl,zp,rfl,rfl⟩
  have run:=Sg.IC (prog:=prog) (w:=w) (A:=A) (E:=E) (s:={s with heap:=h',toks:=tk}) (n:=vs.length) (r:=r) (Q:=fun _ st'=>failedOf st'=none/\∃pm:List Nat,arrOf st'=Sg.arr (fun i=>(kA.toList.getD i ez,vs.getD i ez)) pm/\pm.Perm (dU vs.length)/\pm.Pairwise (fun i j=>r i<=r j))
   (fun i j C hi hj hc=>gr kA.toList h' tk i j C GN kl k1 ks hi hj hc) W (fun x hx=>l6.mp hx) fun p' st' q1 q2 q3 q4=>⟨q4,p',q3,q1,q2⟩
  refine ah (iI run ?_ fun _ _ e=>e);rintro ⟨⟨⟩,st'⟩ s' ⟨rfl,hf,pm,har,p1,p3⟩;dsimp only;refine tail st' pm hf ?_ p1 p3;rw[har,Sg.arr,FF,eZ];rfl
end
end So
end an4
section an5
namespace Dm
open PySem PySem.W PyProof.Rows L2 HT PySem.SeqAt So
def zN:D->D
 | .lst xs=>.tup [.int (-(xs.length:Int)),.lst xs]
 | d=>d
def SkK(ds:List D):Prop:=Xl (ds.map zN)/\∀d∈ds,∃xs,d = .lst xs
def KO(ds:List D)(bq:List av)(j:Nat)(o:Obj):Prop:=∃z xs v,ds[j]?=some (.lst xs)/\bq[j]?=some (.ref v)/\o=cJ "tuple" #[.int (-(xs.length:Int)) z,.ref v] 0
theorem J4:∀{ds:List D} {vs:List av},vs.length=ds.length->(∀(j:Nat) (d:D) (v:av),ds[j]?=some d->vs[j]?=some v->fH h d v)->bI h ds vs
 | [],vs,l,_=>by rw[bI];exact Mn l
 | d::ds,[],l,_=>by cases l
 | d::ds,v::vs,l,f=>by
  rw[bI];exact⟨v,vs,rfl,f 0 d v rfl rfl,J4 (by simpa using l) fun j d' v' h1 h2=>f (j+1) d' v' (by simpa using h1) (by simpa using h2)⟩
theorem KS.Dy{bq ks:List av}(l:ks.length=bq.length)(p:bI h ds bq)(k:KS (KO ds bq) h ks):bI h (ds.map zN) ks:=by
 refine J4 (by rw[br,l,p.len]) fun j d v h1 h2=>?_;obtain⟨t,o,rfl,g,z,xs,a,e1,e2,rfl⟩:=k j v h2;rw[di,e1]at h1;cases h1;have hj:j<bq.length:=(eL.mp e2).1;obtain⟨q,_⟩:=p.get j hj;have ed:ds.getD j .dh = .lst xs:=by rw[nK,e1];rfl
 have ev:bq[j] = .ref a:=(eL.mp e2).2;rw[ed,ev]at q;rw[zN,fH];refine⟨t,_,rfl,⟨_,g,rfl,_,rfl⟩,?_⟩;rw[bI];refine⟨_,_,rfl,?_,?_⟩;rw[fH];exact⟨z,rfl⟩;rw[bI];exact⟨_,_,rfl,q,by rw[bI]⟩
section
theorem Ce{bq:List av}{Q:av->aA->Prop}(hu:A.units+64<cLine)(sk:SkK ds)(hz:ds.length<=cU)(hl:s.heap.IsList l bq.toArray)(p:bI s.heap ds bq)
  (aG4:∀h' tk v k7 R,(∀b o,s.heap.get? b=some o->h'.get? b=some o)->h'.IsList v k7->(k7.size:Int)<2 ^ 63->(∀Ca T7 t z,(∀b o,h'.get? b=some o->Ca.get? b=some o)->h'.objs.size<=t->Ca.get? t=some (cJ "tuple" #[.int (-(k7.size:Int)) z,.ref v] 0)->R (.ref t) {s with heap:=Ca,toks:=T7})->
   aB (aD prog w) A.in1.in1 (call (.ref f) [.ref v]) R (fun _ _=>False) {s with heap:=h',toks:=tk})
  (IP:∀xs,D.lst xs∈ds->(xs.length:Int)<2 ^ 63)
  (h:∀h' tk L n (pm:List Nat),(∀b ob,s.heap.get? b=some ob->h'.get? b=some ob)->s.heap.objs.size<=L->(∀i∈pm,i<ds.length)->pm.Perm (dU ds.length)->eO (ds.map zN)=pm.map (fun i=>(ds.map zN).getD i .dh)->
   h'.get? L=some (cJ "list" (pm.map fun i=>bq.getD i ez).toArray n)->Q (.ref L) {s with heap:=h',toks:=tk}) :
  aB (aD prog w) A (call (.builtin "sorted") [.ref l] [(lq "key",.ref f)]) Q E s:=by
 have lv:bq.length=ds.length:=p.len;refine call_function_entry_kw kind_sorted plain_sorted entry_sorted (ksk_s1 _ _) ?_;unfold Builtin.«sorted»;refine ah (m:=checkCount "sorted" 1 1 _) (aC (ah (collect_list hl ?_ (by rw[lv];exact hz))));have k1:∀b o,s.heap.get? b=some o->((s.heap.push (cJ "list" #[] 0)).update s.heap.objs.size (dm (· ++ bq.toArray))).get? b=some o:=fun b o e=>by rw[Fi _ _ _ _ (dH (cu e))];exact bU _ e
 have z1:s.heap.objs.size<=((s.heap.push (cJ "list" #[] 0)).update s.heap.objs.size (dm (· ++ bq.toArray))).objs.size:=by rw[LY,size_push'];lia
 generalize ((s.heap.push (cJ "list" #[] 0)).update s.heap.objs.size (dm (· ++ bq.toArray)))=h1 at k1 z1 ⊢;refine ah (x6 ?_ (by lia));have oL:(h1.push (cJ "list" bq.toArray 0)).get? h1.objs.size=some (cJ "list" bq.toArray 0):=eV _ rfl;have nk:∀h',Keeps h1.objs.size (h1.push (cJ "list" bq.toArray 0)) h'->∀b ob,s.heap.get? b=some ob->h'.get? b=some ob:=fun h' kh b ob e=>kh b ob (dH (cu (k1 b ob e))) (bU _ (k1 b ob e));refine ah (jh (wpAny_call_entry_kw slot_list_sort ⟨_,oL,rfl⟩ entry_list_sort ?body (ksk_l1 _ _)));case body=>
  obtain⟨_,ij,sg⟩:=sgT (prog:=prog) (w:=w) (A:=A) (vs:=[]) sk.1 (by rw[br];exact hz) hu;refine zM (KO:=KO ds bq) (kd:=tuples' true) (r:=rk (ds.map zN)) (s:={s with heap:=h1.push (cJ "list" bq.toArray 0)}) oL (by lia) (fun i x h' tk R hx kh hR=>?_) (fun ks h' tk R h2 kl kh kk hR=>?_) (fun ks h' tk i j C h2 kl kh kk hi hj hC=>?_) fun h' tk n' pm kh hp Xg ho=>?_;have hi:i<bq.length:=(eL.mp hx).1;obtain⟨q,m⟩:=(p.keep (nk h' kh)).get i hi;obtain⟨xs,ex⟩:=sk.2 _ m;rw[ex,fH]at q;obtain⟨a,k7,e,pl,pd⟩:=q;have ev:x = .ref a:=by rw[<- e];exact((eL.mp hx).2).symm
  subst ev;have jl:k7.size=xs.length:=by rw[<- dN];exact pd.len
  refine aG4 h' tk a k7 R (nk h' kh) pl.isList (by rw[jl];exact IP xs (ex▸m)) fun Ca T7 t z q1 q2 q3=>hR Ca T7 t _ q1 q2 q3 ⟨z,xs,a,?_,hx,by rw[jl]⟩;have hd:i<ds.length:=by lia
  rw[<- ex,dz hd];simp[hd];obtain ⟨_,_,sg⟩:=sgT (prog:=prog) (w:=w) (A:=A) (vs:=ks) sk.1 (by rw[br];exact hz) hu;exact(sg _ _ rfl (by rw[br];lia) (KS.Dy kl (p.keep (nk h' kh)) kk)).1 _ R hR;obtain ⟨_,_,sg⟩:=sgT (prog:=prog) (w:=w) (A:=A) (vs:=ks) sk.1 (by rw[br];exact hz) hu;exact(sg _ _ rfl (by rw[br];lia) (KS.Dy kl (p.keep (nk h' kh)) kk)).2 i j C (by rw[br];lia) (by rw[br];lia) hC;rw[lv] at hp;have lt:∀i∈pm,i<ds.length:=fun i hi=>l6.mp (hp.mem_iff.mp hi);refine⟨_,rfl,aC ⟨_,rfl,h h' tk _ n' pm (nk h' kh) z1 lt hp ?_ ho⟩⟩;have pe:(pm.map fun i=>(ds.map zN).getD i D.dh).Perm (ds.map zN):=by have:=hp.map fun i=>(ds.map zN).getD i D.dh;rwa [show dU ds.length=dU (ds.map zN).length by rw[br],So.map_range]at this
  refine(Bp (le:=fun a b=>qC (fl a) (fl b)=true) (fun a b ha hb h1 h2=>ij a ((bZ _).mem_iff.mp ha) b (pe.mem_iff.mp hb) (sV _ _ h1 h2)) (jW _) ?_ ((bZ _).trans pe.symm));rw[Bc];refine Xg.imp_of_mem fun {i j} hi hj nD=>?_;unfold qC;rw[IE (ds.map zN) (by rw[br];exact lt j hj),aM7 (by lia)];rfl
end
end Dm
end an5
section an6
namespace L2
open PySem PySem.Spec PySem.W PyProof.Rows
section
theorem rZ.tab(ok:rZ P w H h)(hT:H T=some (.CL p q))(k:∀b u,b≠T->h.get? b=some u->h'.get? b=some u)(hc:h.objs.size<=c)(Vz:h'.get? c=some oc)(od:oc.data = .fields vs)(oq:vs[1]?=some (.str q t))
  (hT':h'.get? T=some (tabObj ps)) (tr:TriplesOk ps.toList) (hit:codeAmong p ps.toList=some (.ref c)):rZ P w (upd H c (.CK oc (.own c))) h':=fun b u e=>by
 have hn:=ok.fresh hc;have cT:T≠c:=fun z=>by rw[z,hn]at hT;cases hT
 by_cases hb:b=c;subst hb;rw[bS]at e;cases e;exact⟨Vz,_,Vz⟩;rw[aW hb] at e;by_cases bT:b=T;subst bT;rw[hT]at e;cases e;exact⟨ps,hT',tr,.inr ⟨c,oc,vs,t,hit,bS,od,oq⟩⟩;refine(ok b u e).zA (fun d v hd r=>k d v ?_ r) (fun d r=>by rw[aW (bf r hn)];exact r) (fun d xs r=>by rw[aW (bf r hn)];exact r) fun d o xs r=>by rw[aW (bf r hn)];exact r
 rcases hd with rfl|hd;exact bT;rintro rfl;rw[hT]at hd;cases hd
theorem Un.tab(hT:H T=some (.CL p q))(k:∀b u,b≠T->h.get? b=some u->h'.get? b=some u)(hn:H c=none)(hc:h.objs.size<=c)(hT':∃u,h'.get? T=some u):Un fs [] H (upd H c o) h h' where
 keep:=fun b u e n _ _=>k b u (fun z=>by rw[z,hT]at n;cases n) e
 slot:=fun b u e n _ _=>⟨u.slots,k b u (fun z=>by rw[z,hT]at n;cases n) e⟩
 free:=fun b u e n _=>by rw[aW (dH (iS (cu e) hc))];exact n
 there:=fun b u e _=>by
  by_cases bT:b=T;rw[bT];exact hT';exact⟨u,k b u bT e⟩
 oY:=fun b xs r=>by rw[aW (bf r hn)];exact r
 xQ:=fun b u xs r=>by rw[aW (bf r hn)];exact r
 xR:=fun b u xs r=>by rw[aW (bf r hn)];exact r
end
def vj(K:aE)(c T:ay):Bool:=match K.lookup c with
 | some ⟨.type "code",_,.fields vs,_⟩=>decide (vs[11]?=some (.ref T))&&(match vs.getD 18 .none,vs.getD 7 .none,vs.getD 9 .none,vs.getD 10 .none with | .str _ _,.int _ _,.bool _,.int _ _=>true|_,_,_,_=>false)&&decide (c≠T)
 | _=>false
theorem J5{K:aE}(X:K.In h)(e:vj K c T=true):CodeHd h c T:=by
 unfold vj at e;split at e;rename_i vs _ lk;simp only[bR,aM9]at e;obtain⟨⟨e1,e2⟩,e3⟩:=e;split at e2;rename_i h1 h2 h3 h4;exact⟨_,vs,_,_,_,_,_,_,_,X _ _ lk,rfl,rfl,e1,by rw[jm,e1];rfl,h1,h2,h3,h4,e3⟩;cases e2;cases e
def KY(K:aE)(b T:ay):Bool:=match K.lookup b with
 | some ⟨.type "module",some d,.plain,_⟩=>decide (d=builtinsNs)&&decide (b≠builtinsNs)&&decide (b≠dM)&&decide (b≠T)
 | _=>false
structure T8(X:Cx)(args:Arguments)(scope:iQ)(T:ay)(q:Str):Prop where
 code:∃c,X.env.code = .ref c/\vj X.K c T=true
 glob:X.env.globals=dM
 qual:X.env.qual ++ "<lambda>"=q
 blt:∃b,X.mg "__builtins__"=some (.ref b)/\KY X.K b T=true
 gT:dM≠T
 an7:closureFor scope X.env=pure []
 dfl:defaultsOf args X.env=([],[])
section
theorem Q0{Q:av->aA->Prop}(L:T8 X args scope T q)(I:Inv X ak σ H s)(hT:H T=some (.CL lp q))
  (h:∀f H1 h' tk o cv pm KW,aI H H1->(∀b,H b≠none->H1 b=H b)->Inv X ak σ H1 {s with heap:=h',toks:=tk}->h'.get? f=some o->o.data = .func (kla_fn "<lambda>" q args body scope [] pm cv KW)->h'.CodeRec cv q->Q (.ref f) {s with heap:=h',toks:=tk}) :
  aB (aD X.prog X.w) X.A (eval (.Lambda args body scope lp) X.env) Q X.xe s:=by
 rw[arm_eval_Lambda,L.dfl,L.qual];dsimp only;refine ah (aC (ah (jh (aC ?_))));obtain⟨ps,gT,tr,hh⟩:=I.fE T _ hT;obtain⟨c,hc,hd⟩:=L.code;obtain⟨bm,b1,b2⟩:=L.blt;have hb:s.heap.BuiltinsAt X.mg T:=by unfold KY at b2;split at b2;rename_i d _ lk;simp only[bR,aM9]at b2;obtain⟨⟨⟨rfl,b4⟩,b5⟩,b6⟩:=b2;exact⟨bm,_,b1,b4,b5,b6,I.Bt _ _ lk,rfl,rfl,rfl⟩;cases b2
 have hd:=J5 I.Bt hd;have hg:s.heap.Ns dM X.mg:=I.mod.glob.keeps I.bk;rcases hh with hn|⟨c',oc,vs,t,hf,hcc,od,oq⟩;refine kla_makeFunction L.an7 L.glob hg hc hd gT tr hn L.gT hb fun c' KW h' tk hx UT gr Xm hT'=>?_;obtain⟨c2,oc,vs,t,e2,Vz,od,oq⟩:=Xm;cases e2;have k:∀b u,b≠T->s.heap.get? b=some u->(h'.push (kla_obj "<lambda>" q args body scope [] ((X.mg "__name__").getD .none) c' KW)).get? b=some u:=fun b u hb e=>bU _ (hx b u hb e);have an8:=bU (kla_obj "<lambda>" q args body scope [] ((X.mg "__name__").getD .none) c' KW) Vz;have hT2:=bU (kla_obj "<lambda>" q args body scope [] ((X.mg "__name__").getD .none) c' KW) hT';have xT:H c'=none:=I.fE.fresh UT;have hl:(ps++#[rawInt lp.line,rawInt lp.col,eW c']).toList=ps.toList++[rawInt lp.line,rawInt lp.col,.ref c']:=by simp
 refine h _ (upd H c' (.CK oc (.own c'))) _ tk _ _ _ _ (fun b o e=>by rw[aW (bf e xT)];exact e) (fun b hb=>aW fun z=>hb (by rw[z];exact xT)) (I.un (Un.tab hT k xT UT ⟨_,hT2⟩) (I.fE.tab hT k UT an8 od oq hT2 (by rw[hl];exact TriplesOk_snoc _ _ _ _ tr) (by rw[hl];exact codeAmong_snoc _ tr hn))) (eV _ rfl) rfl ⟨c',oc,vs,t,rfl,an8,od,oq⟩;refine kla_makeFunctionHit L.an7 L.glob hg hc hd gT tr hf hb fun KW h' tk k hz=>?_;have k':∀b u,s.heap.get? b=some u->(h'.push {cls:=.type "function",data:=.func (kla_fn "<lambda>" q args body scope [] ((X.mg "__name__").getD .none) (.ref c') KW)}).get? b=some u:=fun b u e=>bU _ (k b u e);obtain⟨gc,_⟩:=I.fE c' _ hcc;exact h _ H _ tk _ _ _ _ (fun b o e=>e) (fun b _=>rfl) (I.kept k') (eV _ rfl) rfl ⟨c',oc,vs,t,rfl,k' _ _ gc,od,oq⟩
end
end L2
end an6
section an9
namespace Dm
open PySem PySem.Spec PySem.W PyProof.Rows L2 PySem.SeqAt Ts So
structure Xn(x:Str)(q:Str)(args:Arguments)(body:bF)(scope:iQ):Prop where
 co:scope.isCoroutine=false
 gen:scope.isGenerator=false
 kind:scope.kind = .function
 loc:scope.names.lookup x=some .local
 len:scope.names.lookup ("len" : Str)=some .globalImplicit
 bind:∀pm cv KW (s:aA) (u:av),BindsTo s (kla_fn "<lambda>" q args body scope [] pm cv KW) ⟨[u],[]⟩ [(x,u)]
 ndb:(x==("__debug__" : Str))=false
section
def tSK(K:aE)(C:Cfg)(T:ay)(lp:Pos)(q:Str)(te:TE):TE:=fun σ H Q=>te σ H fun v H1=>∃a ws ds,v = .ref a/\H1 T=some (.CL lp q)/\lB K H1 a ws/\aQ K C H1 ds ws/\SkK ds/\cC ds=true/\(∀xs,D.lst xs∈ds->(xs.length:Int)<2 ^ 63)/\
 ∀(H2:Hp) (p:ay) (pm:List Nat),aI H1 H2->H2 p=none->(∀i∈pm,i<ds.length)->pm.Perm (dU ds.length)->eO (ds.map zN)=pm.map (fun i=>(ds.map zN).getD i .dh)->Q (.ref p) (upd H2 p (.lst (pm.map fun i=>ws.getD i .dh)))
theorem Q2(he:PE X e te)(L:T8 X args scope T q)(LT:Xn x q args (Lm.body x p1 p2 p3 p4 p5 p6 c1) scope)(hg:Gl X "sorted")(hm:X.mg "sorted"=none)(hml:X.mg "len"=none)(hu:X.A.units+64<cLine)(sZ:X.A.depth<recursionLimit)
  (hs:bN [e] X.env=[(false,eval e X.env)]:=by rfl):PE X (.Call (.Name "sorted" p0) [e] [⟨some "key",.Lambda args (Lm.body x p1 p2 p3 p4 p5 p6 c1) scope lp,kp⟩] pos) (tSK X.K C T lp q te):=by
 intro ak s σ H Q I h;refine uh (uP I hg hm (show jU "sorted"=some (.builtin "sorted") by decide +kernel) ?_);have Rb:backTo pos (bN [e] X.env)=(false,eval e X.env)::backTo pos (bN [] X.env):=by rw[hs];rfl
 refine Vk ?_ Rb (by rw[Rb];rfl);rw[Rb];refine xB (gS (he ak s σ H _ I h) fun u s1 zz=>?_);obtain⟨v,H1,I1,r1,a,ws,ds,rfl,hT,hq,hr,sk,ff,sm,k⟩:=zz;obtain rfl:u = .ref a:=r1;refine Bf ?_;show aB _ _ (evalAll [do let v <- eval (.Lambda args (Lm.body x p1 p2 p3 p4 p5 p6 c1) scope lp) X.env;standAt pos;pure v]) _ _ s1;refine wpAny_evalAll_cons (ah (Q0 L I1 hT fun f H2 h' tk o cv pm KW sm2 _ I2 fo fd fr=>ah (A0 (aC (wpAny_evalAll_nil ?_)))));have hq2:lB X.K H2 a ws:=sm2.seq hq;have hr2:aQ X.K C H2 ds ws:=hr.same sm2 _;obtain⟨bq,rv,pl,hz⟩:=I2.list hq2;have lw:ws.length=ds.length:=hr2.len;obtain⟨mb,b1,b2⟩:=I2.mod.blt;show aB _ _ (call (.builtin "sorted") [.ref a] [(lq "key",.ref f)]) _ _ _;refine Ce hu sk (by rw[<- lw];exact hz) pl.isList (Inv.Dy I2 ds ff hr2 rv) (fun h3 tk3 v k7 R k3 hl hf hR=>?_) sm fun h3 tk3 l n pm' k3 hL gr hp CC ho=>?_;exact Lm.PY (k3 _ _ fo) fd (fr.keeps k3) LT.co LT.gen LT.kind LT.loc LT.len (LT.bind pm cv KW) LT.ndb sZ (I2.nolimit.keeps k3) (mg:=X.mg) ((I2.mod.glob.keeps I2.bk).keeps k3) hml ((b1.keeps I2.bk).keeps k3) ((b2 "len" (by decide)).trans (show jU "len"=some (.builtin "len") by decide +kernel)) hl hf hR;have lp:pm'.length=ds.length:=by rw[hp.length_eq,xu]
 exact yt I2 (h1:=h') (fun b ob e=>e) k3 hL ho (wJ rv pm' fun i hi=>by rw[lw];exact gr i hi) (by rw[br,lp,<- lw];exact hz) fun hn=>k H2 l pm' sm2 hn gr hp CC
end
def Xo:D->D
 | .tup [_,d]=>d
 | d=>d
def isL:D->Bool
 | .lst xs=>decide (xs.length<5000)
 | _=>false
def Q3(es:List D):Bool:=es.all isL&&skB (es.map zN)&&cC es
def rO:D->R D:=fun d=>match d with
 | .lst es=>if Q3 es=true then .ok (.lst ((eO (es.map zN)).map Xo))else .bad
 | _=>.bad
theorem Xp(h:isL d=true):∃xs,d = .lst xs/\xs.length<5000:=by
 cases d with
 | lst xs=>exact⟨xs,rfl,aN0 h⟩
 | _=>cases h
def V7(T:ay)(lp:Pos)(q:Str):GL:=⟨fun H=>H T=some (.CL lp q),fun e h=>e _ _ h⟩
section
variable {κ:Kd}
theorem KZ(he:PE X e (V2 X.K C G0 Γ E f))(hC:∀H,C.gl H->H T=some (.CL lp q))(L:T8 X args scope T q)(LT:Xn x q args (Lm.body x p1 p2 p3 p4 p5 p6 c1) scope)(hg:Gl X "sorted")(hm:X.mg "sorted"=none)(hml:X.mg "len"=none)(hu:X.A.units+64<cLine)(sZ:X.A.depth<recursionLimit)
  (hs:bN [e] X.env=[(false,eval e X.env)]:=by rfl):PE X (.Call (.Name "sorted" p0) [e] [⟨some "key",.Lambda args (Lm.body x p1 p2 p3 p4 p5 p6 c1) scope lp,kp⟩] pos) (V2 X.K C G0 Γ E (oz rO f)):=
 (Q2 (C:=C) he L LT hg hm hml hu sZ hs).imp fun σ H Q zz=>by
 refine dO zz fun A st r q=>?_;clear zz;refine⟨A,st,r,?_⟩;unfold oz R.bind at q;cases hf:f st with
 | bad=>rw[hf]at q;exact q
 | ex c p=>rw[hf]at q;exact q
 | ok d=>
  rw[hf] at q;dsimp only at q;intro v H1 e1 w1;cases hg:rO d with
  | bad=>rw[hg]at q;exact q.elim
  | ex c p=>unfold rO at hg;split at hg <;> (try split at hg) <;> cases hg
  | ok d'=>
   rw[hg] at q;unfold rO at hg;split at hg
   ·rename_i es;split at hg;case isFalse=>cases hg
    rename_i hb;cases hg;unfold Q3 at hb;simp only[bR]at hb;obtain⟨⟨b1,b2⟩,b3⟩:=hb;have il:=fun d hd=>Xp (f7.mp b1 d hd);obtain⟨w1,wd⟩:=w1;obtain⟨a,ws,rfl,at',tp,ds⟩:=wd es rfl;obtain⟨a',z,_,rG,ha,rs⟩:=w1.2.1 rfl;cases z;rw[at']at ha;cases ha;have RU:aQ X.K C (nw H H1) es ws:=rs.same (aJ _ _) _;refine⟨a,ws,es,rfl,hC H1 (C.glM (r.g0.trans e1) r.gl),aI.seq (cz _ _) (.inl (.of at')),RU.same (cz _ _) _,⟨PV b2,fun d hd=>(il d hd).imp fun _ z=>z.1⟩,b3,fun xs hx=>?_,fun H2 p pm tE hn gr hp hs=>?_⟩;obtain⟨ys,e,l⟩:=il _ hx;cases e;have:(5000:Int)<2 ^ 63:=by decide
    lia;refine q _ _ ((e1.trans tE).trans (cX hn)) ?_;have vB:(eO (es.map zN)).map Xo=pm.map fun i=>es.getD i .dh:=by rw[hs,eZ];refine uF fun i hi=>?_;have hi:=gr i hi;obtain⟨xs,ex,_⟩:=il es[i] (uG hi);show Xo ((es.map zN).getD i .dh)=_;simp[hi,ex,zN,Xo]
    rw[vB];refine⟨Val.lst (κ:=.new) r (e1.trans tE) hn (t6 (RU.same (bO tE) _) pm gr),fun ds z=>?_⟩;cases z;have np:=hp.nodup_iff.mpr List.nodup_range;have get:∀{j:Nat} {d:D},(pm.map fun i=>es.getD i .dh)[j]?=some d->∃i,pm[j]?=some i/\es[i]?=some d/\(pm.map fun i=>ws.getD i .dh)[j]?=ws[i]?:=fun {j d} h1=>by
     rw[di]at h1;rw[di];cases hj:pm[j]? with
     | none=>rw[hj]at h1;cases h1
     | some i=>
      rw[hj]at h1;have hi:=gr i (iM hj);have hw:i<ws.length:=by rw[RU.len];exact hi
      cases h1;exact⟨i,rfl,by simp[hi],by simp[hw]⟩
    refine⟨p,_,rfl,DJ (κ:=.new) r (e1.trans tE) hn,fun j d v h1 h2=>?_,fun j k d d' v jk h1 h2 o1 o2 v1 v2=>?_⟩;obtain ⟨i,hj,h1,e⟩:=get h1;rw[e]at h2;refine(tp i d v h1 h2).mono fun b o z=>?_;by_cases mb:b∈[a];rw[dD mb] at z;cases z;rw[aV mb] at z;have nb:b≠p:=fun w=>by have:=tE _ _ (cz _ _ _ _ z);rw[w,hn]at this;cases this
    rw[aV (by simpa using nb)];exact bO (tE.trans (cX hn)) _ _ z;obtain ⟨i,hj,h1,e⟩:=get h1;obtain⟨i',hk,h2,e'⟩:=get h2;rw[e]at v1;rw[e']at v2;refine ds i i' d d' v (fun z=>jk ?_) h1 h2 o1 o2 v1 v2;subst z;exact(List.getElem?_inj (eL.mp hj).1 np).mp (hj.trans hk.symm)
   cases hg
end
end Dm
end an9
section aG5
namespace L2
open PySem PySem.Spec PySem.W PyProof.Rows
section
variable {K:aE}{s:aA}{vs:List av}{ns:List Int}
theorem L0(KX:K.In s.heap)(hns:s.heap.Ns dM mg)(hb:s.heap.Ns builtinsNs mb)(hbb:∀x:Str,x≠ "__name__" ->mb x=jU x)(aG6:s.heap.NoLimit)(hg:s.gens=#[])
  (ha:s.heap.get? a=some {cls:=.type "list",data:=.seq vs.toArray}) (hi:IntsAre vs ns) (hl:ns.length<=cU) (hr:jf k callerA)
  (hT:s.heap.get? T=some (tabObj #[])) (hc:vj K c T=true) (kT:K.lookup T=none)
  (F:∀base:aY,K.In base->base.Ns dM mg->jV P w K mg base CX k fa fd [x] sp) (PZ:∀(s:aA) (u:av),BindsTo s fd ⟨[u],[]⟩ [(x,u)])
  (YG:∀H:Hp,H T=some (.CL lp q)->lB K H a (ns.map V.int)->sp [.ref a] H (fun v _=>v = .bl true) fun _ _ _=>False)
  (hCX:∀H e s',CX [] H s (fun _ _ _=>False) e s'->False) :
  codeAny (aD P w) callerA (.call (.ref fa) ⟨[.ref a],[]⟩) (fun r s'=>r = .ok (.ret (.bool true))/\OldK s.heap s'.heap/\s'.os=s.os/\AllBare s'.gens) s:=by
 have aT:a≠T:=fun z=>by rw[z,hT]at ha;cases ha
 have rv:=Al hi;have aG7:=hi.length;let oa:Obj:={cls:=.type "list",data:=.seq vs.toArray}
 let H:Hp:=fun b=>if b=T then some (.CL lp q)else if b=a then(match K.lookup a with|none=>some (.CK oa (.lst (ns.map V.int)))|some _=>none)else none
 have HT:H T=some (.CL lp q):=aM4 rfl;have Ha:H a=match K.lookup a with|none=>some (.CK oa (.lst (ns.map V.int)))|some _=>none:=(aM5 aT).trans (aM4 rfl)
 have Ho:∀b,b≠T->b≠a->H b=none:=fun b h1 h2=>(aM5 h1).trans (aM5 h2);have HK:∀b o,K.lookup b=some o->H b=none:=fun b o e=>by by_cases h1:b=T;rw[h1,kT]at e;cases e;by_cases h2:b=a;rw[h2,Ha,<- h2,e];exact Ho b h1 h2
 have HD:∀{b:ay} {o:Obj} {es:Array qT} {ep:Nat},s.heap.get? b=some o->o.data = .dict es ep->H b=none:=fun {b o es ep} e d=>by refine Ho b (fun z=>?_) fun z=>?_;rw[z,hT]at e;cases e;cases d;rw[z,ha]at e;cases e;cases d
 have fE:rZ P w H s.heap:=fun b u z=>by
  by_cases h1:b=T;subst h1;rw[HT]at z;cases z;exact⟨#[],hT,trivial,.inl rfl⟩;by_cases h2:b=a;subst h2;rw[Ha] at z;cases hk:K.lookup b with
  | none=>rw[hk] at z;cases z;exact⟨ha,by rw[br];exact hl,vs,_,rv,ha⟩
  | some o=>rw[hk]at z;cases z
  rw[Ho b h1 h2]at z;cases z
 have hS:lB K H a (ns.map V.int):=by
  cases hk:K.lookup a with
  | none=>exact .inl (.inr ⟨oa,by rw[Ha,hk]⟩)
  | some o=>have e:=KX a o hk;rw[ha] at e;cases e;exact .inr ⟨_,vs.toArray,_,hk,rfl,rfl,rfl,by rw[dI,aG7];exact hl,by simpa using rv⟩
 have nsK:∀{b:ay} {m:Str->Option av},s.heap.Ns b m->(CM s.heap H).Ns b m:=fun {b m} ⟨o,es,ep,e,d,r⟩=>⟨o,es,ep,CN e (HD e d),d,r⟩
 have hKb:K.In (CM s.heap H):=fun b o e=>CN (KX b o e) (HK b o e);have hM:Mod K mg (CM s.heap H):=⟨hKb,nsK hns,⟨mb,nsK hb,hbb⟩,let⟨mc,h1,h2⟩:=aG6;⟨mc,nsK h1,h2⟩⟩
 have e0:Gw P w K mg (CM s.heap H) callerA [] s H:=⟨rfl,hM,fun b o e=>Rn e,LZ (Jx _ _),trivial,fun b hb=>aN6 (show b∈([]:List ay)from hb) (by simp),fE,.of_eq hg⟩
 refine um ((F _ hKb (nsK hns)).run callerA [] s H ⟨[.ref a],[]⟩ [.ref a] [.ref a] _ _ hr e0 (PZ s (.ref a)) (.cons rfl .nil) (YG H HT hS)) fun r s' h=>?_;match r,h with
 | .error e,h=>exact(hCX H e s' h).elim
 | .ok (.ret u),h=>
  obtain⟨v,H',os,bare,un,ao1,r',q'⟩:=h;subst q';obtain rfl:u=Value.bool true:=r';have kp:∀b o,b≠T->s.heap.get? b=some o->s'.heap.get? b=some o:=fun b o hbT e=>by
   cases z:H b with
   | none=>exact un.keep b o e z (by intro z;exact aN6 (show b∈([]:List ay)from z) (by simp)) (by simp)
   | some u=>
    by_cases h2:b=a;subst h2;rw[ha] at e;cases e;rw[Ha] at z;cases hk:K.lookup b with
    | none=>rw[hk] at z;cases z;exact(ao1 b _ (un.xQ b oa (.lst (ns.map V.int)) (by rw[Ha,hk]))).1
    | some o=>rw[hk]at z;cases z
    rw[Ho b hbT h2]at z;cases z
  obtain⟨ps,gT,_⟩:=ao1 T _ (un.xR T lp q HT);have tab:=(J5 KX hc).tab hT;refine⟨rfl,⟨fun b o e=>?_,fun b o e=>?_⟩,os,bare⟩;by_cases h1:b=T;subst h1;rw[hT]at e;cases e;exact .inr (.inl ⟨tab.isCodeTable,rfl,#[],ps,rfl,by rw[gT];simp⟩);exact .inl (kp b o h1 e);by_cases h1:b=T;exact⟨_,h1▸gT⟩;exact⟨o,kp b o h1 e⟩
end
theorem Q4{l:PySem.W.OpenLaw}{YP:bQ->aY->Prop}{d:DefRec}{K:fY->aE}{CX:bQ->QZ}{sp:bQ->Sp}
  (hn:l.most=some n) (hn2:n<=cU) (W8:d.params.defaults=[]) (hr:jf k callerA)
  (hY:∀(w:bQ) (h:aY),YP w h->(K w.params).In h/\h.get? T=some (tabObj #[]))
  (hK:∀w:bQ,(K w.params).lookup T=none/\∃c,vj (K w.params) c T=true)
  (F:∀(w:bQ) (mg:Str->Option av) (fa:ay) (h:aY),(K w.params).In h->h.Ns dM mg->mg d.name=some (.ref fa)->
   ∃fd:gP,(∀(s:aA) (u:av),BindsTo s fd ⟨[u],[]⟩ [(x,u)])/\
    ∀base:aY,(K w.params).In base->base.Ns dM mg->jV l.prog w (K w.params) mg base (CX w) k fa fd [x] (sp w))
  (YG:∀(w:bQ) (H:Hp) (a:ay) (ns:List Int),ns.length<=n->H T=some (.CL lp y)->lB (K w.params) H a (ns.map V.int)->sp w [.ref a] H (fun v _=>v = .bl true) fun _ _ _=>False)
  (hCX:∀(w:bQ) (H:Hp) (s:aA) (e:av) (s':aA),CX w [] H s (fun _ _ _=>False) e s'->False) :
  PySem.W.WalkO q loose XP YP l.row.toRowW d [] (fun f vs=>PySem.call f vs):=by
 refine Att.D6 hn W8 fun w jr lC mg mb fa o pm cd doc a vs ns G Y ho hd Gh hmg W9 hints hlen hg=>?_;obtain⟨KX,gT⟩:=hY w _ Y;obtain⟨kT,c,hc⟩:=hK w;obtain⟨fd,hb,hF⟩:=F w mg fa _ KX G.T.g hmg;exact L0 KX G.T.g G.T.b G.T.builtins G.T.nolimit hg W9 hints (cI hlen hn2) hr gT hc kT hF hb (fun H hT hS=>YG w H a ns hlen hT hS) fun H e s'=>hCX w H lC e s'
end L2
end aG5
section ao2
namespace Dm
open PySem PySem.Spec PySem.W PyProof.Rows L2
def vO(st:bz):Pos:=match fG st with
 | [.Return (some (.Call _ _ [⟨_,.Lambda _ _ _ p,_⟩] _)) _]=>p
 | _=>⟨0,0,0,0⟩
theorem T9{X:Cx}(hC:∀(f:ay) (dW:av),X.mg x=some (.ref f)->(∃o fd,X.K.lookup f=some o/\o.data = .func fd/\fd.code=dW)->∃c,dW = .ref c/\vj X.K c T=true)
  (hB:∃b,X.mg "__builtins__"=some (.ref b)/\KY X.K b T=true) (hG:dM≠T) (hc:X.mg x=some (.ref f)/\∃o fd,X.K.lookup f=some o/\o.data = .func fd/\fd.code=dW) (e:X.env.code=dW:=by rfl) (g:X.env.globals=dM:=by rfl)
  (hq:X.env.qual=x ++ ".<locals>.":=by rfl) (hq2:x ++ ".<locals>." ++ "<lambda>"=q:=by decide +kernel) (cl:closureFor scope X.env=pure []:=by rfl) (dfl:defaultsOf args X.env=([],[]):=by rfl):T8 X args scope T q:=by
 obtain⟨c,rfl,h⟩:=hC f dW hc.1 hc.2;exact⟨⟨c,e,h⟩,g,by rw[hq];exact hq2,hB,hG,cl,dfl⟩
theorem Tc{K:Frag}(X:K.In h)(G:h.Ns dM mg)(ha:nsIn K dM x=some (some (.ref a)))(l:K.lookup a=some o)(d:o.data = .func fd)(hc:fd.code = .ref c)(ct:vj K c T=true)(f:ay)(dW:av)(hm:mg x=some (.ref f))(hl:∃o fd,K.lookup f=some o/\o.data = .func fd/\fd.code=dW):∃c,dW = .ref c/\vj K c T=true:=by
 have e:=mg_of X G ha;rw[hm]at e;cases e;obtain⟨o',fd',h1,h2,h3⟩:=hl;rw[l]at h1;cases h1;rw[d]at h2;cases h2;exact⟨c,h3.symm.trans hc,ct⟩
def Xq(st:bz):bF:=match fG st with
 | [.Return (some (.Call _ _ [⟨_,e,_⟩] _)) _]=>e
 | _=>.Constant .none 0 ⟨0,0,0,0⟩
def Td(st:bz):Arguments:=match Xq st with | .Lambda a _ _ _=>a|_=>⟨[],[],none,[],[],none,[]⟩
def Te(st:bz):bF:=match Xq st with | .Lambda _ b _ _=>b|e=>e
def Q5(st:bz):iQ:=match Xq st with | .Lambda _ _ s _=>s|_=>aR st
def Q6(T:ay):Frag->Frag
 | []=>[]
 | p::K=>if p.1=T then Q6 T K else p::Q6 T K
theorem tU:∀K:Frag,qz T (Q6 T K)=none
 | []=>rfl
 | (a,u)::K=>by
  by_cases e:a=T;rw[Q6,aM4 e];exact tU K;rw[Q6,aM5 e,uI,beq_false_of_ne (eU e)];exact tU K
theorem rP:∀(K:Frag) (b:ay) (o:Obj),b≠T->qz b (Q6 T K)=some o->qz b K=some o
 | [],_,_,_,h=>by cases h
 | (a,u)::K,b,o,n,h=>by
  by_cases e:a=T;rw[Q6,aM4 e]at h;rw[uI,beq_false_of_ne (fun c=>n (c.trans e))];exact rP K b o n h;rw[Q6,aM5 e,uI]at h;rw[uI];by_cases c:b=a;rw[c,aN5]at h ⊢;exact h;rw[beq_false_of_ne c]at h ⊢;exact rP K b o n h
theorem Xr{K:Frag}(X:K.In h):(Q6 T K).In h:=fun a o e=>by
 by_cases n:a=T;rw[n,tU]at e;cases e;exact X a o (rP K a o n e)
end Dm
end ao2
section aG8
namespace Dm
open PySem PySem.Spec PyProof.Rows L2 PySem.W
theorem wQ{K:Frag}{h:aY}{mg:Str->Option av}{x:Str}{st:bz}{ps:List Str}{f:ay}{oc:av}{od an:Option ay}{EN:Array (Option av)}{kV doc pm dW ct:av}(X:K.In h)(G:h.Ns dM mg)(a:nsIn K dM x=some (some (.ref f)):=by k_is)(l:K.lookup f=some ⟨oc,od,.func (fnOf x x (jy st) (fG st) (aR st) .none kV doc pm an dW ct),EN⟩:=by k_is)
  (c:codeIn K dW x=true:=by k_is) (k:keepIn K (.ref f)=true:=by k_is) (hb:∀(kV doc pm:av) (an:Option ay) (dW ct:av),Ku ps.length fun us=>bindArgs (fnOf x x (jy st) (fG st) (aR st) .none kV doc pm an dW ct) ⟨us,[]⟩=pure (ps.zip us):=by(repeat intro _);rfl):vg K mg x x st ps:=Xb X G a l c k hb
theorem Z6{K:Frag}(X:K.In h)(G:h.Ns dM mg)(e:nsIn K dM x=some (some v):=by k_is):mg x=some v:=mg_of X G e
theorem Rc{K:Frag}(X:K.In h)(G:h.Ns dM mg)(e:nsIn K dM x=some none:=by k_is):mg x=none:=mg_none_of X G e
theorem clS{K:Frag}{C:ay}(a:plainGet K C Str.empty=true:=by k_is)(b:hasDictIn K C=true:=by k_is)(c:plainOver K C=true:=by k_is)(d:findIn K (.ref C) "__setattr__"=some (some (.builtin "object.__setattr__")):=by k_is):Ll K C:=⟨a,b,c,d⟩
theorem naS{K:Frag}{C:ay}{x:Str}(a:findIn K (.ref C) x=some none:=by k_is):kC K C x:=a
theorem inS{K:Frag}{C a:ay}{st:bz}{x qual:Str}{ps:List Str}{oc:av}{od an:Option ay}{EN:Array (Option av)}{kV doc pm dW ct:av}(i:findIn K (.ref C) "__init__"=some (some (.ref a)):=by k_is)(l:K.lookup a=some ⟨oc,od,.func (fnOf x qual (jy st) (fG st) (aR st) .none kV doc pm an dW ct),EN⟩:=by k_is)
  (c:codeIn K dW qual=true:=by k_is) (k:keepIn K (.ref a)=true:=by k_is) (m:makesIn K C=true:=by k_is) (f:isFn K (.ref a)=true:=by k_is) (q:keepIn K (.ref C)=true:=by k_is) (hb:∀(kV doc pm:av) (an:Option ay) (dW ct:av),Ku ps.length fun us=>bindArgs (fnOf x qual (jy st) (fG st) (aR st) .none kV doc pm an dW ct) ⟨us,[]⟩=pure (ps.zip us):=by(repeat intro _);rfl) :
  ∃a fd,Lp K x qual st a fd/\Mk K C a/\Binds K fd ps []:=⟨a,_,BF (st:=st) l c k,⟨m,i,f,q⟩,AE (BF (st:=st) l c k) hb⟩
theorem aG9{K:Frag}(X:K.In h)(G:h.Ns dM mg)(ha:nsIn K dM x=some (some (.ref a)):=by k_is)(l:K.lookup a=some o:=by k_is)(d:o.data = .func fd:=by rfl)(hc:fd.code = .ref c:=by rfl)(ct:vj K c T=true:=by kernel_rfl):∀(f:ay) (dW:av),mg x=some (.ref f)->(∃o fd,K.lookup f=some o/\o.data = .func fd/\fd.code=dW)->∃c,dW = .ref c/\vj K c T=true:=Tc X G ha l d hc ct
theorem bmS{K:Frag}(X:K.In h)(G:h.Ns dM mg)(e:nsIn K dM "__builtins__"=some (some (.ref b)):=by k_is)(m:KY K b T=true:=by kernel_rfl):∃b,mg "__builtins__"=some (.ref b)/\KY K b T=true:=⟨b,mg_of X G e,m⟩
theorem wu{N P:List Str}{sc:iQ}(a:sc.kind = .function:=by rfl)(b:sc.isCoroutine=false:=by rfl)(c:sc.isGenerator=false:=by rfl)(d:N.Nodup:=by decide +kernel)(e:N.take P.length=P:=by rfl)(f:∀x∈P,sc.names.lookup x=some .local\/sc.names.lookup x=some .cell:=by decide +kernel)(g:∀y∈sc.names,y.2≠ .free:=by decide +kernel):bY N P sc:=⟨a,b,c,d,e,f,g⟩
theorem kU:∀{Γ:List SK} {n:Nat},Γ.take n=mG n .par->∀i,i<n->Γ[i]?=some .par:=fun {Γ n} h i hi=>by
 rw[<- Fv hi,h,List.getElem?_replicate_of_lt hi]
end Dm
end aG8
section ao4
namespace Dm
open PySem PySem.Spec PyProof.Rows L2
def Z7:D->Bool
 | .lst (.lst es::ds)=>dS es&&ds.all fun d=>match d with | .lst es=>dS es|_=>false
 | _=>false
theorem Xs:∀{d:D},Z7 d=true->∃es ds,d = .lst (.lst es::ds)/\dS es=true/\∀d∈ds,∃vB,d = .lst vB/\dS vB=true:=fun {d} h=>by
 unfold Z7 at h;split at h;rename_i es ds;rw[bR]at h;refine⟨es,ds,rfl,h.1,fun d m=>?_⟩;have:=f7.mp h.2 d m;split at this;exact⟨_,rfl,this⟩;cases this;cases h
theorem Eg{K:aE}{F:Hp}:∀{ds:List D} {vs:List V},vs.length=ds.length->(∀(j:Nat) (d:D) (v:V),ds[j]?=some d->vs[j]?=some v->Rep K C F d v)->aQ K C F ds vs
 | [],[],_,_=>.nil
 | d::ds,v::vs,l,h=>.cons (h 0 d v rfl rfl) (Eg (by simpa using l) fun j d v h1 h2=>h (j+1) d v h1 h2)
 | [],_::_,l,_=>by cases l
 | _::_,[],l,_=>by cases l
theorem RS.aH0{K:aE}{σ:L2.St}{H H':Hp}{A:List ay}{st:ir}{i:Nat}{d:D}{v:V}(r:RS K C G0 Γ σ H A st)(e:aI H H')(hk:Γ[i]?=some .ll)(hb:Z7 d=true)(q:Val K C .new G0 A H H' d v)(dp:wg K C H (nw H H') d v) :
  ∃A',RS K C G0 Γ (σ.set i (some v)) H' A' (st.set i (some d))/\aI (er H A) (er H' A')/\∀a∈A,a∈A':=by
 have r':=r.mono e;obtain⟨es,ds,rfl,ne,nd⟩:=Xs hb;obtain⟨p,xs,rfl,K8,tp,dst⟩:=dp _ rfl;obtain⟨p',z,h0,rG,ha,rs⟩:=q.2.1 rfl;cases z;rw[K8]at ha;cases ha;have len:=rs.len;cases xs with
 | nil=>cases len
 | cons v0 vs=>
  obtain⟨a,z,a0,ys,Iz,ra⟩:=(tp 0 _ _ rfl rfl).1 rfl;subst z;have pa:a≠p:=fun w=>by rw[w,dD (.head _)]at Iz;cases Iz
  have hp:H' p=some (.lst (.ref a::vs)):=cz _ _ _ _ K8;have ha:H' a=some (.lst ys):=cz _ _ _ _ (aJ _ _ _ _ Iz);have new:∀{b:ay},H b=none->b∉A:=fun hb m=>by obtain⟨ys,z,_⟩:=r.lists _ m;rw[hb]at z;cases z
  have ee:aI (er H A) (er H' (p::a::A)):=fun b u z=>by
   have z':=aJ _ _ _ _ z;have nb:b≠p:=fun w=>by rw[w,h0]at z';cases z'
   have nb':b≠a:=fun w=>by rw[w,a0]at z';cases z'
   by_cases mb:b∈A;rw[dD mb] at z;cases z;rw[aV (by simp[nb,nb',mb])];exact e _ _ z'
  have H8:∀m,aI (eh m G0 A H) (eh m G0 (p::a::A) H'):=fun m=>by unfold eh;cases m;exact ee;exact bO ee
  have lists:∀b∈p::a::A,∃o,H' b=some o/\R9 o=true:=fun b m=>by rcases bW.mp m with rfl | m;exact⟨_,hp,rfl⟩;rcases bW.mp m with rfl | m;exact⟨_,ha,rfl⟩;exact r'.lists b m
  have kp:kK H' (er H' (p::a::A)):=.er lists;have s0:aI (er (er (nw H H') [p]) [a]) H':=((aJ _ _).trans (aJ _ _)).trans (cz _ _);have R1:aQ K C (er H' (p::a::A)) es ys:=(ra.same s0 _).part kp _ ne;have R2:aQ K C (er H' (p::a::A)) ds vs:=Eg (by simpa using len) fun j d v h1 h2=>by
   obtain⟨vB,rfl,n'⟩:=nd d (iM h1);obtain⟨b,z,b0,zs,mW,rb⟩:=(tp (j+1) _ _ h1 h2).1 rfl;subst z;have bp:b≠p:=fun w=>by rw[w,dD (.head _)]at mW;cases mW
   have ba:b≠a:=fun w=>dst (j+1) 0 _ _ _ (by lia) h1 rfl rfl rfl h2 (by rw[w];rfl);rw[Rep];refine⟨b,zs,rfl,.of ?_,?_⟩;rw[aV (by simp[bp,ba,new b0])];exact cz _ _ _ _ (aJ _ _ _ _ mW);refine(rb.same (((aJ _ _).trans (aJ _ _)).trans (cz _ _)) _).part (kp.trans (.er fun c m=>?_)) _ n';rw[eY.mp m,aV (by simp[bp,ba,new b0])];exact⟨_,cz _ _ _ _ (aJ _ _ _ _ mW),rfl⟩
  refine⟨p::a::A,⟨r.base.trans ee,lists,by simp[r.len],fun j d' h=>?_,fun c b n' m' p' Hf vB sO g1 g2 s1 s2 o1 o2 w1 w2=>?_,r.gl⟩,ee,fun _ m=>.tail _ (.tail _ m)⟩;by_cases hj:i=j;subst hj;have gr:i<st.length:=by have:=(eL.mp h).1;simpa using this
  rw[kJ gr] at h;cases h;exact⟨.ll,.ref p,hk,kJ (by rw[r.len];exact gr),p,a,ys,es,ds,vs,rfl,rfl,.head _,.tail _ (.head _),eU pa,r.g0.free h0,r.g0.free a0,hp,ha,R1,R2⟩;rw[jH hj] at h ⊢;refine bA (r.slot j d' h) fun k' v' h1 h2 h3=>?_;refine⟨k',v',h1,h2,?_⟩;cases k' with
  | par=>exact Rep.same ee _ h3
  | loc=>exact⟨h3.1.same (bO ee) _,h3.2.mono (bO ee)⟩
  | any=>exact Rep.same e _ h3
  | ll=>obtain ⟨p1,a1,xs1,WO,WQ,vs1,h4,h5,h6,h7,h8,h9,K5,DG,K6,K7,Lw⟩:=h3;exact⟨p1,a1,xs1,WO,WQ,vs1,h4,h5,.tail _ (.tail _ h6),.tail _ (.tail _ h7),h8,h9,K5,e _ _ DG,e _ _ K6,K7.same ee _,Lw.same ee _⟩
  | pr=>rcases h3 with ⟨q2,p2,s2,ds2,xs2,a,b,c,f,g,hh,jj⟩ | ⟨a,b⟩;exact .inl ⟨q2,p2,s2,ds2,xs2,a,b,aI.tup ee c,.tail _ (.tail _ f),g,e _ _ hh,jj.same ee _⟩;exact .inr ⟨a,Rep.same ee _ b⟩
  | own m=>rcases h3 with ⟨p2,b,c,f,g⟩ | ⟨a,b⟩;exact .inl ⟨p2,b,.tail _ (.tail _ c),f,g.later (H8 m) e⟩;exact .inr ⟨a,b.1.mono (H8 m),b.2.same (H8 m) _⟩
  have ha:c≠i:=fun z=>by subst z;rw[hk]at g1;cases g1
  have hb:b≠i:=fun z=>by subst z;rw[hk] at g2;cases g2
  rw[jH (eU ha)] at s1 w1;rw[jH (eU hb)] at s2 w2;exact r.apart c b n' m' p' Hf vB sO g1 g2 s1 s2 o1 o2 w1 w2
def J6(i:Nat)(Γ:List SK):Bool:=(dU Γ.length).all fun j=>match Γ[j]? with
 | some .par=>true
 | some .loc=>true
 | some .ll=>j==i
 | _=>false
theorem Eh(h:J6 i Γ=true)(hk:Γ[j]?=some k):k = .par\/k = .loc\/(k = .ll/\j=i):=by
 have gr:=(eL.mp hk).1;have:=f7.mp h j (l6.mpr gr);rw[hk]at this;cases k with
 | par=>exact .inl rfl
 | loc=>exact .inr (.inl rfl)
 | ll=>exact .inr (.inr ⟨rfl,by simpa using this⟩)
 | pr=>cases this
 | own n=>cases this
 | any=>cases this
theorem RS.ao5{K:aE}{σ:L2.St}{H:Hp}{A:List ay}{st:ir}{i:Nat}{p:ay}{ob:HO}{x:Option D}(r:RS K C G0 Γ σ H A st)(hP:J6 i Γ=true)(gr:i<st.length)(pA:p∈A)(hM:R9 ob=true)
  (hs:er (upd H p ob) A=er H A->∀d,x=some d->∃v,Γ[i]?=some .ll/\σ[i]?=some (some v)/\Slot K C .ll G0 A (upd H p ob) d v):RS K C G0 Γ σ (upd H p ob) A (st.set i x)/\aI (er H A) (er (upd H p ob) A):=by
 have ee:er (upd H p ob) A=er H A:=by funext b;by_cases mb:b∈A;rw[dD mb,dD mb];rw[aV mb,aV mb,aW (fun z:b=p=>mb (by rw[z];exact pA))]
 refine⟨⟨by rw[ee];exact r.base,fun a m=>?_,by simp[r.len],fun j d' h=>?_,fun a b n' m' p' Hf vB sO g1 g2=>?_,r.gl⟩,by rw[ee];exact .refl _⟩;by_cases ha:a=p;subst ha;exact⟨_,bS,hM⟩;rw[aW ha];exact r.lists a m;by_cases hj:i=j;subst hj;rw[kJ gr] at h;obtain⟨v,h1,h2,h3⟩:=hs ee d' (fq h);exact⟨.ll,v,h1,h2,h3⟩;rw[jH hj] at h;obtain⟨k,v,h1,h2,h3⟩:=r.slot j d' h;refine⟨k,v,h1,h2,?_⟩;rcases Eh hP h1 with rfl|rfl|⟨_,z⟩;show Rep K C (er _ A) d' v;rw[ee];exact h3;show _/\_;rw[ee];exact h3;exact aN6 z.symm hj;rcases Eh hP g1 with z|z|⟨z,_⟩ <;> cases z
def L1(o:Option (Option D)):Option (List D×List D):=match o with
 | some (some (.lst (.lst es::ds)))=>some (es,ds)
 | _=>none
theorem J7(h:L1 o=some z):o=some (some (.lst (.lst z.1::z.2))):=by
 unfold L1 at h;split at h;cases h;rfl;cases h
def Ei(i:Nat)(f:DF):DS:=fun st=>match f st with
 | .ok d=>if Z7 d=true then .nx (st.set i (some d))else .bad
 | .ex c p=>.ex c p st
 | .bad=>.bad
def J8(i:Nat)(f:DF):DS:=fun st=>match L1 st[i]? with
 | some z=>(match f st with
  | .ok d=>if z.1.length<=5000/\gJ d=true then .nx (st.set i (some (.lst (.lst (z.1++[d])::z.2))))else .bad
  | .ex c p=>.ex c p st
  | .bad=>.bad)
 | none=>.bad
def J9(i:Nat):DS:=fun st=>match L1 st[i]? with
 | some _=>.nx (st.set i none)
 | none=>.bad
section
variable {X:Cx}{C:Cfg}{G0:Hp}{Γ:List SK}{E:L2.St->XK}{kG:Option Bool}{f:DF}{κ:Kd}{e:bF}{pos:Pos}{i:Nat}
theorem Tf(hN:X.N.Nodup)(he:PE X e (V2 X.K C G0 Γ E f))(hk:Γ[i]?=some .ll:=by rfl)(hi:X.N[i]?=some x:=by rfl)(hx:Loc X.env.scope x:=by first|exact cS rfl|exact gQ rfl)(hs:swapsWith e (some (.Name x pos')) pos.line X.env=pure false:=by rfl)
  (hf:X.fn x=true\/X.env.scope.names.lookup x=some .local:=by first|exact .inl rfl|exact .inr rfl|assumption):PS X (.Assign [.Name x pos'] e pos) (oG X.K C G0 Γ E kG (Ei i f)):=(NJ hN hi hx he hs hf).imp fun D σ H zz=>by
 obtain ⟨A,st,r,q⟩:=zz;refine⟨A,st,r,?_⟩;unfold Ei at q;cases hf:f st with
 | bad=>rw[hf]at q;exact q
 | ex c p=>rw[hf]at q;exact fun H' e'=>q σ H' A (r.mono e') (aL e')
 | ok d=>rw[hf] at q;dsimp only at q;intro v H' e' w;by_cases hb:Z7 d=true;rw[aM4 hb]at q;obtain⟨A',r',e2,_⟩:=r.aH0 e' hk hb w.1 w.2;exact q _ _ A' r' e2;rw[aM5 hb]at q;exact q.elim
theorem tV(h:PE X e (oB i))(hk:Γ[i]?=some .ll:=by rfl):PE X e (tD X.K C G0 Γ E (au i) .aZ):=C2 i h hk
theorem Tg(h:PE X e (tBM X.K "list" BE (YF (VY X.K) (oB i) (tC (.int 0))) (xZ (tD X.K C G0 Γ E f κ) Gv)))(hP:J6 i Γ=true)(hk:Γ[i]?=some .ll:=by rfl)(hs:swapsWith e none pos.line X.env=pure false:=by rfl) :
  PS X (.Expr e pos) (oG X.K C G0 Γ E kG (J8 i f)):=(q8 h hs).imp fun D σ H zz=>by
 obtain ⟨A,st,r,q⟩:=zz;unfold J8 at q;cases oE:L1 st[i]? with
 | none=>rw[oE]at q;exact q.elim
 | some z=>
  rw[oE] at q;obtain ⟨es,ds⟩:=z;have oE:=J7 oE;dsimp only at q oE;obtain ⟨k,v,h1,h2,h3⟩:=r.slot i _ oE;rw[hk] at h1;cases h1;obtain ⟨p,a,xs,vB,Hf,vs,z,rfl,h6,h7,h8,h9,K5,DG,K6,K7,Lw⟩:=h3;cases z;refine⟨_,h2,p,.ref a::vs,0,.ref a,rfl,rfl,.inl (.of DG),RD (j:=0) rfl,.inl ⟨rfl,xs,.of K6⟩,A,st,r,?_⟩;cases hf:f st with
  | bad=>rw[hf]at q;exact q
  | ex c p=>rw[hf]at q;exact fun H' e'=>q σ H' A (r.mono e') (aL e')
  | ok d=>
   rw[hf] at q;dsimp only at q;intro y H1 e1 w1;by_cases hc:es.length<=5000/\gJ d=true;rw[aM4 hc] at q;have r':=r.mono e1;refine⟨a,xs,y,rfl,rfl,e1 _ _ K6,by rw[K7.len];have:5001<=cU:=(by rw[gG];decide);lia,?_⟩;obtain⟨r2,e2⟩:=r'.ao5 (i:=i) (p:=a) (ob:=.lst (xs++[y])) (x:=some (.lst (.lst (es++[d])::ds))) hP (eL.mp oE).1 h7 rfl fun ee d' z=>by cases z;refine⟨.ref p,hk,h2,p,a,xs++[y],es++[d],ds,vs,rfl,rfl,h6,h7,h8,h9,K5,?_,bS,?_,?_⟩;rw[aW h8];exact e1 _ _ DG;rw[ee];exact(K7.same (aL e1) _).app (.cons (w1.rep.part r'.DH _ hc.2) .nil);rw[ee];exact Lw.same (aL e1) _
   exact q σ _ A r2 ((aL e1).trans e2);rw[aM5 hc] at q;exact q.elim
theorem Th(h:PE X e (ae9 X.K "list" af6 (oB i)))(hP:J6 i Γ=true)(hk:Γ[i]?=some .ll:=by rfl)(hs:swapsWith e none pos.line X.env=pure false:=by rfl) :
  PS X (.Expr e pos) (oG X.K C G0 Γ E kG (J9 i)):=(q8 h hs).imp fun D σ H zz=>by
 obtain ⟨A,st,r,q⟩:=zz;unfold J9 at q;cases oE:L1 st[i]? with
 | none=>rw[oE]at q;exact q.elim
 | some z=>
  rw[oE] at q;obtain ⟨es,ds⟩:=z;have oE:=J7 oE;dsimp only at q oE;obtain ⟨k,v,h1,h2,h3⟩:=r.slot i _ oE;rw[hk] at h1;cases h1;obtain ⟨p,a,xs,vB,Hf,vs,z,rfl,h6,h7,h8,h9,K5,DG,K6,K7,Lw⟩:=h3;obtain⟨r2,e2⟩:=r.ao5 (i:=i) (p:=p) (ob:=.lst (V.ref a::vs).dropLast) (x:=none) hP (eL.mp oE).1 h6 rfl fun ee d' z=>by cases z
  exact⟨_,h2,.inl ⟨rfl,_,.of DG⟩,p,.ref a::vs,(V.ref a::vs)[(V.ref a::vs).length-1]'(by simp),rfl,rfl,DG,dz _,q σ _ A r2 e2⟩
end
def L3(fa:DF)(lo hi:Option DF):DF:=fun st=>(fa st).bind fun a=>(mh lo st).bind fun l=>(mh hi st).bind fun h=>match a with
 | .lst ds=>.ok (.lst (cutD ds l h))
 | _=>.bad
theorem Q7{X:Cx}{C:Cfg}{G0:Hp}{Γ:List SK}{E:L2.St->XK}{e:bF}{fa:DF}{aN:Kd}{pos:Pos}{lo hi:Option bF}{fl fh:Option DF}{p2:Pos}(he:PE X e (tD X.K C G0 Γ E fa aN))(hl:PO X lo (Z0 X.K C G0 Γ E fl))(hu:PO X hi (Z0 X.K C G0 Γ E fh)):PE X (.Subscript e (.Slice lo hi none p2) pos) (tD X.K C G0 Γ E (L3 fa fl fh) .aZ):=(D3 Ip he hl hu).imp fun σ H Q zz=>by
 refine dO zz fun A st r q=>?_;clear zz;refine⟨A,st,r,?_⟩;unfold L3 R.bind at q;cases ha:fa st with
 | bad=>rw[ha]at q;exact q
 | ex c p=>rw[ha]at q;exact q
 | ok a=>
  rw[ha] at q;intro x H1 e1 w1;refine⟨A,st,r.mono e1,?_⟩;dsimp only at q;cases hb:mh fl st with
  | bad=>rw[hb]at q;exact q
  | ex c p=>rw[hb]at q;exact fun H' e'=>q H' (e1.trans e')
  | ok l=>
   rw[hb] at q;intro H2 e2;refine⟨A,st,r.mono (e1.trans e2),?_⟩;dsimp only at q;cases hc:mh fh st with
   | bad=>rw[hc]at q;exact q
   | ex c p=>rw[hc]at q;exact fun H' e'=>q H' ((e1.trans e2).trans e')
   | ok h=>
    rw[hc] at q;intro H3 e3;dsimp only at q;cases a with
    | lst ds=>dsimp only at q;refine bA ((w1.rep.same (e2.trans e3) _).items) fun p xs b8 h2 h3=>?_;obtain rfl:=b8;have C4:=(e1.trans e2).trans e3;exact⟨p,xs,rfl,h2,fun l' Dv=>q _ _ (C4.trans (cX Dv)) (Val.lst (κ:=.aZ) r C4 Dv (DN h3))⟩
    | _=>exact q.elim
end Dm
end ao4
section ao6
namespace Pk
open PySem PySem.Spec PyProof.Rows L2 PySem.W Dm
def top(i:Nat):bz:=PySem.Challenge.pw_pegleap_k08_reached.main.body.getD i (.Pass ⟨0,0,0,0⟩)
abbrev vP:bz:=top 7
abbrev AJ:bz:=top 8
abbrev qJ:bz:=top 9
abbrev Ja:bz:=inClass (top 10) 0
abbrev tW:bz:=top 11
abbrev vQ:bz:=top 12
abbrev AK:bz:=top 13
abbrev Jb:bz:=top 14
abbrev qK:bz:=top 16
abbrev qL:bz:=top 17
abbrev tX:bz:=top 19
abbrev vR:bz:=top 20
abbrev tY:bz:=top 21
abbrev dR:bz:=top 22
abbrev AL:bz:=top 23
abbrev pU:bz:=top 25
abbrev yR:bz:=top 26
abbrev oA:bz:=top 27
abbrev pV:bz:=top 28
abbrev pW:bz:=top 29
abbrev tZ:bz:=top 30
abbrev vS:bz:=top 31
abbrev qM:bz:=top 32
abbrev u0:bz:=top 33
abbrev V8:bz:=top 34
structure jY where
 HF:ay
 fT:ay
 fB:ay
 mw:ay
 tab:ay
 Xu:Tok
 Cf:Tok
structure Txt(K:Frag)(mg:Str->Option av)(t:jY):Prop where
 Ej:vg K mg "is_rising" "is_rising" vP ["cells"]
 L4:vg K mg "is_cell" "is_cell" AJ ["cell"]
 zO:vg K mg "check_cells" "check_cells" qJ ["cells"]
 Cg:vg K mg "check_pegs" "check_pegs" tW ["board","pegs"]
 Ek:vg K mg "two_apart" "two_apart" vQ ["cell"]
 L5:vg K mg "between" "between" AK ["cell","other"]
 Ti:vg K mg "leaps" "leaps" Jb ["board"]
 zP:vg K mg "can_be_done" "can_be_done" qK ["pegs","leap"]
 zQ:vg K mg "pegs_behind" "pegs_behind" qL ["pegs","leap"]
 Ci:vg K mg "steps_from" "steps_from" tX ["all_leaps","standing"]
 El:vg K mg "next_rows" "next_rows" vR ["all_leaps","layer"]
 Cj:vg K mg "first_rows" "first_rows" tY ["board","pegs"]
 HG:vg K mg "in_order" "in_order" dR ["standings"]
 L6:vg K mg "reached" "reached" AL ["board","pegs"]
 yS:vg K mg "_law_cell_at" "_law_cell_at" pU ["script","k"]
 HH:vg K mg "_law_mix" "_law_mix" yR ["cell","k","many"]
 wz:vg K mg "_law_cells_by" "_law_cells_by" oA ["script","most"]
 yT:vg K mg "_law_pegs_by" "_law_pegs_by" pV ["cell","cells"]
 yU:vg K mg "_law_between" "_law_between" pW ["leap"]
 Ck:vg K mg "_law_leaps" "_law_leaps" tZ ["cells"]
 Em:vg K mg "_law_open" "_law_open" vS ["cells","pegs"]
 zR:vg K mg "_law_behind" "_law_behind" qM ["pegs","leap"]
 Cn:vg K mg "_law_reach" "_law_reach" u0 ["cells","pegs"]
 V9:vg K mg "law" "law" V8 ["script"]
 Va:mg "abs"=none
 ao7:mg "all"=none
 En:mg "enumerate"=none
 u5:mg "isinstance"=none
 vU:mg "len"=none
 rQ:mg "list"=none
 Jc:mg "range"=none
 ao8:mg "set"=none
 lR:mg "sorted"=none
 Jd:mg "tuple"=none
 HJ:mg "LAST"=some (.int (7) t.Xu)
 u6:mg "MOST_CELLS"=some (.int (24) t.Cf)
 Xv:mg "PegError"=some (.ref t.HF)
 rR:mg "BadBoard"=some (.ref t.fT)
 AM:mg "BadPegs"=some (.ref t.fB)
 Tj:mg "Board"=some (.ref t.mw)
 rS:YJ K t.fT [.type "ValueError",.type "Exception",.type "BaseException",.type "object"] "ValueError.__new__"=true
 AN:YJ K t.fB [.type "ValueError",.type "Exception",.type "BaseException",.type "object"] "ValueError.__new__"=true
 aH1:∀(f:ay) (dW:av),mg "in_order"=some (.ref f)->(∃o fd,K.lookup f=some o/\o.data = .func fd/\fd.code=dW)->∃c,dW = .ref c/\vj K c t.tab=true
 aH2:∃b,mg "__builtins__"=some (.ref b)/\KY K b t.tab=true
 aH3:dM≠t.tab
 Z8:Ll K t.mw
 Z9:kC K t.mw "cells"
 iB:∃a fd,Lp K "__init__" "Board.__init__" Ja a fd/\Mk K t.mw a/\Binds K fd ["self","cells"] []
theorem Eo:ExcBaseFacts "ValueError" "ValueError.__new__" "ValueError.__init__" [.type "ValueError",.type "Exception",.type "BaseException",.type "object"] :=PySem.F.excBase_ValueError
theorem rT:jU "len"=some (.builtin "len"):=by decide +kernel
theorem u7:jU "list"=some (.type "list"):=by decide +kernel
def jZ:String->Option Bool:=fun x=>if x = "list"then some true else none
theorem vV{K:Frag}:∀x b,jZ x=some b->kitOne K (.type x) (.type "list")=some b:=fun x b h=>by
 unfold jZ at h;split at h;rename_i e;subst e;cases h;unfold kitOne;rw[aM4 (by decide)];cases h
def fM(t:jY):List D->R D:=cV 1 (gK (bw (nE false) (au 0) (oz lQ (au 0))))
def nB(t:jY):List D->R D:=cV 1 (gK (kR (nW V0 V0 (dC (.int 0)) (bw fS (au 0) (dC (.int 0))) (dC (.int (7)))) (nW V0 V0 (dC (.int 0)) (bw fS (au 0) (dC (.int 1))) (dC (.int (7))))))
def cR(t:jY):List D->R D:=cV 2 (cA (f9 (rL (nW V0 V0 (dC (.int 1)) (cQ pI (af (au 0) aH)) (dC (.int (24)))))
 (iZ t.fT)
 cZ)
 (cA (f9 (rL (cQ (fM t) (af (au 0) aH)))
 (iZ t.fT)
 cZ)
 (iw (gu (au 0)) (d7 1)
 (f9 (rL (cQ (nB t) (af (au 1) aH)))
 (iZ t.fT)
 cZ))))
def iE(t:jY):List D->R D:=cV 3 (cA (f9 (rL (cQ (fM t) (af (au 1) aH)))
 (iZ t.fB)
 cZ)
 (iw (gu (au 1)) (d7 2)
 (f9 (bw (mX true) (au 2) (oz fj (au 0)))
 (iZ t.fB)
 cZ)))
def jc(t:jY):List D->R D:=cV 3 (cA (eE 1 (bC (bw fS (au 0) (dC (.int 0)))))
 (cA (eE 2 (bC (bw fS (au 0) (dC (.int 1)))))
 (gK (dw 100 (af (cY 100 (af (bw n5 (au 1) (dC (.int 2))) (af (bC (au 2)) aH))) (af (cY 100 (af (bC (au 1)) (af (bw n5 (au 2) (dC (.int 2))) aH))) (af (cY 100 (af (bC (au 1)) (af (bw jX (au 2) (dC (.int 2))) aH))) (af (cY 100 (af (bw jX (au 1) (dC (.int 2))) (af (bC (au 2)) aH))) aH))))))))
def iF(t:jY):List D->R D:=cV 2 (gK (cY 100 (af (bw pH (bw jX (bw fS (au 0) (dC (.int 0))) (bw fS (au 1) (dC (.int 0)))) (dC (.int 2))) (af (bw pH (bw jX (bw fS (au 0) (dC (.int 1))) (bw fS (au 1) (dC (.int 1)))) (dC (.int 2))) aH))))
def wR(t:jY):List D->R D:=cV 4 (cA (eE 1 (dw 100 aH))
 (cA (iw (gu (oz fj (au 0))) (d7 2)
 (iw (gu (cQ (jc t) (af (au 2) aH))) (d7 3)
 (f9 (kR (bw (mX false) (au 3) (oz fj (au 0))) (bw (mX false) (cQ (iF t) (af (au 2) (af (au 3) aH))) (oz fj (au 0))))
 (mR 1 (cY 100 (af (bC (au 2)) (af (bC (au 3)) aH))))
 cZ)))
 (gK (au 1))))
def jS(t:jY):List D->R D:=cV 2 (gK (kR (bw (mX false) (bw fS (au 1) (dC (.int 0))) (au 0)) (kR (bw (mX true) (bw fS (au 1) (dC (.int 1))) (au 0)) (bw (mX false) (cQ (iF t) (af (bw fS (au 1) (dC (.int 0))) (af (bw fS (au 1) (dC (.int 1))) aH))) (au 0)))))
def jT(t:jY):List D->R D:=cV 3 (cA (eE 2 (cY 100 (af (bC (bw fS (au 1) (dC (.int 0)))) (af (cQ (iF t) (af (bw fS (au 1) (dC (.int 0))) (af (bw fS (au 1) (dC (.int 1))) aH))) aH))))
 (gK (cQ gD (af (bw qu (gq (iTp (au 0)) 1 [2] (d7 0) (bw (mX true) (au 0) (au 1)) (bC (au 0))) (dw 100 (af (bC (bw fS (au 1) (dC (.int 1)))) aH))) aH))))
def iG(t:jY):List D->R D:=cV 2 (gK (gq (gu (au 0)) 1 [1] (d7 0) (cQ (jS t) (af (au 1) (af (au 0) aH))) (cY 100 (af (bC (au 0)) (af (cQ pQ (af (cQ (jT t) (af (au 1) (af (au 0) aH))) aH)) aH)))))
def k6(t:jY):List D->R D:=cV 7 (cA (eE 2 (dC (.d8 2 [])))
 (cA (iw (KN (au 1)) (kL 3 4)
 (iw (gu (cQ (iG t) (af (au 0) (af (au 3) aH)))) (kL 5 6)
 (f9 (bw (wo true) (au 6) (au 2))
 (Hx 2 (au 6) (bw qu (au 4) (dw 100 (af (bC (au 5)) aH))))
 cZ)))
 (gK (au 2))))
def kW(t:jY):List D->R D:=cV 5 (cA (eE 2 (cQ (wR t) (af (au 0) aH)))
 (cA (eE 3 (dC (.d8 2 [])))
 (cA (eE 4 (Ef (cQ pQ (af (au 1) aH)) (dw 100 aH)))
 (cA (qw (bw WS (cQ qI (af (au 4) aH)) (dC (.int 0)))
 (cA (KH 3 (au 4))
 (eE 4 (cQ (k6 t) (af (au 2) (af (au 4) aH))))) 40)
 (gK (au 3))))))
def nX(t:jY):List D->R D:=cV 1 (gK (oz rO (gq (T3 (au 0)) 1 [] (d7 0) (dC (.bl true)) (cQ m9 (af (au 0) aH)))))
def l0(t:jY):List D->R D:=cV 2 (cA (DL (cQ (iE t) (af (au 0) (af (au 1) aH))))
 (gK (cQ (nX t) (af (cQ (kW t) (af (au 0) (af (au 1) aH))) aH))))
def bH(t:jY):List D->R D:=cV 2 (cA (f9 (bw gLt (au 1) (cQ pI (af (au 0) aH)))
 (gK (bC (bw fS (au 0) (au 1))))
 cZ)
 (gK (dC (.int 0))))
def bP(t:jY):List D->R D:=cV 5 (cA (eE 3 (dw 100 (af (dC (.int 48271)) (af (dC (.int 69621)) (af (dC (.int 16807)) (af (dC (.int 39373)) (af (dC (.int 30269)) (af (dC (.int 40014)) (af (dC (.int 40692)) (af (dC (.int 50021)) (af (dC (.int 61687)) (af (dC (.int 71993)) (af (dC (.int 83869)) (af (dC (.int 95561)) (af (dC (.int 30307)) aH)))))))))))))))
 (cA (eE 4 (bw tu (bw jX (bw jG (au 0) (dC (.int 2147483647))) (dC (.int 12345))) (bw fS (au 3) (bw jG (au 1) (dC (.int 13))))))
 (cA (eE 4 (bw jX (bw tu (au 4) (bw jX (bw tu (dC (.int 2)) (bw pH (au 1) (dC (.int 13)))) (dC (.int 1)))) (bw tu (dC (.int 977)) (au 1))))
 (gK (bw jG (bw pH (bw jG (au 4) (dC (.int 1000000007))) (dC (.int 7))) (au 2))))))
def fC(t:jY):List D->R D:=cV 9 (cA (eE 2 (cQ (bH t) (af (au 0) (af (dC (.int 0)) aH))))
 (cA (DT 3 4 (af (bw jX (dC (.int 1)) (cQ (bP t) (af (au 2) (af (dC (.int 1)) (af (dC (.int 4)) aH))))) (af (bw jX (dC (.int 1)) (cQ (bP t) (af (au 2) (af (dC (.int 2)) (af (dC (.int 6)) aH))))) aH)))
 (cA (f9 (bw (nE false) (bw jG (au 2) (dC (.int 4))) (dC (.int 1)))
 (AA (kL 3 4) (bC (bw fS (dw 100 (af (cY 100 (af (bw jX (dC (.int 1)) (bw jG (au 3) (dC (.int 3)))) (af (dC (.int 8)) aH))) (af (cY 100 (af (dC (.int 8)) (af (bw jX (dC (.int 1)) (bw jG (au 4) (dC (.int 3)))) aH))) aH))) (bw jG (bw pH (au 2) (dC (.int 4))) (dC (.int 2))))))
 cZ)
 (cA (DT 5 6 (af (cQ (bP t) (af (au 2) (af (dC (.int 3)) (af (bw n5 (dC (.int 9)) (au 3)) aH)))) (af (cQ (bP t) (af (au 2) (af (dC (.int 4)) (af (bw n5 (dC (.int 9)) (au 4)) aH)))) aH)))
 (cA (eE 7 (dw 100 aH))
 (cA (iw (yE (af (bw tu (au 3) (au 4)) aH)) (d7 8)
 (f9 (bw WS (cQ (bP t) (af (cQ (bH t) (af (au 0) (af (dC (.int 1)) aH))) (af (au 8) (af (dC (.int 7)) aH)))) (dC (.int 0)))
 (mR 7 (cY 100 (af (bw jX (au 5) (bw pH (au 8) (au 4))) (af (bw jX (au 6) (bw jG (au 8) (au 4))) aH))))
 cZ))
 (cA (f9 (bw (nE false) (cQ pI (af (au 7) aH)) (dC (.int 0)))
 (eE 7 (dw 100 (af (cY 100 (af (bC (au 5)) (af (bC (au 6)) aH))) aH)))
 cZ)
 (gK (Lx (au 7) none (some (au 1)))))))))))
def iA(t:jY):List D->R D:=cV 4 (cA (eE 2 (cQ (bP t) (af (au 0) (af (dC (.int 40)) (af (dC (.int 4)) aH)))))
 (cA (f9 (bw (nE false) (au 2) (dC (.int 0)))
 (cA (eE 3 (cQ (bP t) (af (au 0) (af (dC (.int 41)) (af (cQ pI (af (au 1) aH)) aH)))))
 (gK (bw qu (Lx (au 1) none (some (au 3))) (Lx (au 1) (some (bw jX (au 3) (dC (.int 1)))) none))))
 cZ)
 (gK (gq (SI (au 1)) 2 [0,2] (kL 0 1) (bw WS (cQ (bP t) (af (au 2) (af (au 0) (af (bw fS (dw 100 (af (dC (.int 0)) (af (dC (.int 2)) (af (dC (.int 3)) (af (dC (.int 4)) aH))))) (au 3)) aH)))) (dC (.int 0))) (bC (au 1))))))
def bV(t:jY):List D->R D:=cV 1 (gK (cY 100 (af (bw pH (bw jX (bw fS (bw fS (au 0) (dC (.int 0))) (dC (.int 0))) (bw fS (bw fS (au 0) (dC (.int 1))) (dC (.int 0)))) (dC (.int 2))) (af (bw pH (bw jX (bw fS (bw fS (au 0) (dC (.int 0))) (dC (.int 1))) (bw fS (bw fS (au 0) (dC (.int 1))) (dC (.int 1)))) (dC (.int 2))) aH))))
def jE(t:jY):List D->R D:=cV 5 (cA (eE 1 (dw 100 aH))
 (cA (iw (gu (au 0)) (d7 2)
 (iw (gu (au 0)) (d7 3)
 (cA (eE 4 (cQ gD (af (dw 100 (af (cQ vh (af (bw n5 (bw fS (au 2) (dC (.int 0))) (bw fS (au 3) (dC (.int 0)))) aH)) (af (cQ vh (af (bw n5 (bw fS (au 2) (dC (.int 1))) (bw fS (au 3) (dC (.int 1)))) aH)) aH))) aH)))
 (f9 (kR (bw (nE false) (au 4) (dw 100 (af (dC (.int 0)) (af (dC (.int 2)) aH)))) (bw (mX false) (cQ (bV t) (af (cY 100 (af (bC (au 2)) (af (bC (au 3)) aH))) aH)) (au 0)))
 (mR 1 (cY 100 (af (bC (au 2)) (af (bC (au 3)) aH))))
 cZ))))
 (gK (cQ gD (af (au 1) aH)))))
def jd(t:jY):List D->R D:=cV 5 (cA (eE 2 (dw 100 aH))
 (cA (iw (gu (cQ (jE t) (af (au 0) aH))) (kL 3 4)
 (f9 (kR (bw (mX false) (au 3) (au 1)) (kR (bw (mX false) (cQ (bV t) (af (cY 100 (af (bC (au 3)) (af (bC (au 4)) aH))) aH)) (au 1)) (bw (mX true) (au 4) (au 1))))
 (mR 2 (cY 100 (af (bC (au 3)) (af (bC (au 4)) aH))))
 cZ))
 (gK (au 2))))
def gO(t:jY):List D->R D:=cV 3 (cA (eE 2 (gq (gu (au 0)) 1 [1] (d7 0) (kR (bw (nE true) (au 0) (bw fS (au 1) (dC (.int 0)))) (bw (nE true) (au 0) (cQ (bV t) (af (au 1) aH)))) (bC (au 0))))
 (gK (cQ gD (af (bw qu (au 2) (dw 100 (af (bC (bw fS (au 1) (dC (.int 1)))) aH))) aH))))
def iH(t:jY):List D->R D:=cV 6 (cA (eE 2 (dw 100 (af (cQ m9 (af (au 1) aH)) aH)))
 (cA (eE 3 (dC (.int 0)))
 (cA (qw (bw gLt (au 3) (cQ pI (af (au 2) aH)))
 (cA (iw (gu (cQ (jd t) (af (au 0) (af (bw fS (au 2) (au 3)) aH)))) (d7 4)
 (cA (eE 5 (cQ (gO t) (af (bw fS (au 2) (au 3)) (af (au 4) aH))))
 (f9 (bw (mX true) (au 5) (au 2))
 (mR 2 (au 5))
 cZ)))
 (eE 3 (bw jX (au 3) (dC (.int 1))))) 5000)
 (gK (au 2)))))
def AO(t:jY):List D->R D:=cV 8 (cA (eE 1 (cQ (fC t) (af (au 0) (af (bw fS (dw 100 (af (dC (.int 9)) (af (dC (.int 9)) (af (dC (.int 9)) (af (dC (.int 12)) aH))))) (bw jG (cQ (bH t) (af (au 0) (af (dC (.int 3)) aH))) (dC (.int 4)))) aH))))
 (cA (eE 2 (cQ (rN (cR t)) (af (cQ m9 (af (au 1) aH)) aH)))
 (cA (eE 3 (cQ (iA t) (af (cQ (bH t) (af (au 0) (af (dC (.int 2)) aH))) (af (au 1) aH))))
 (cA (eE 4 (gq (gu (cQ pT (af (gq (gu (cQ (iH t) (af (au 1) (af (au 3) aH)))) 1 [] (d7 0) (dC (.bl true)) (cY 100 (af (oz P6 (cQ pI (af (au 0) aH))) (af (au 0) aH)))) aH))) 1 [] (d7 0) (dC (.bl true)) (bw fS (au 0) (dC (.int 1)))))
 (cA (iw (yE (af (dC (.int 2)) aH)) (d7 5)
 (cA (eE 6 (cQ m9 (af (au 3) aH)))
 (cA (Ei 7 (cQ (l0 t) (af (au 2) (af (au 6) aH))))
 (cA (f9 (Ra (rL (oz (E5 jZ) (au 7))) (rL (cQ Hu (af (gq (gu (au 7)) 1 [] (d7 0) (dC (.bl true)) (oz (E5 jZ) (au 0))) aH))))
 (gK (dC (.bl false)))
 cZ)
 (cA (f9 (Ra (bw (nE true) (au 7) (au 4)) (bw (nE true) (au 6) (au 3)))
 (gK (dC (.bl false)))
 cZ)
 (cA (J8 7 (cY 100 (af (dC (.int 9)) (af (dC (.int 9)) aH))))
 (cA (f9 (Ra (bw (nE true) (L3 (au 7) (some (dC (.int 1))) none) (L3 (au 4) (some (dC (.int 1))) none)) (bw (nE true) (au 6) (au 3)))
 (gK (dC (.bl false)))
 cZ)
 (J9 7))))))))
 (gK (bw (nE false) (oz fj (au 2)) (au 1))))))))
abbrev wA(t:jY):Cfg:=dP t.mw (V7 t.tab (vO dR) "in_order.<locals>.<lambda>")
section
variable {P:dG}{w:bQ}{K:Frag}{mg:Str->Option av}{base:aY}{t:jY}
theorem zS(t:jY):Xn "pegs" "in_order.<locals>.<lambda>" (Td dR) (Te dR) (Q5 dR):=⟨rfl,rfl,rfl,rfl,rfl,fun _ _ _ _ _=>.of_eq rfl,by decide⟩
theorem u9(T:Txt K mg t):FD P w K mg base (wA t) 1 "is_rising" ["cells"] 1 (fM t) (some true):=
 have hS:bY ["cells"] ["cells"] (aR vP):=wu;gW (Γ:=[.par]) T.Ej hS rfl (kU rfl) fun f dW hc A outer s H E hr=>
 by
 refine bh ?_;refine eT (κ:=.new) ?_;refine yx (aN:=.old) (d9:=.new) (v5 hr.units) kE ?_ ?_ (i9 _);exact ao 0 (pv 0);refine Hl (κ:=.old) hr.hd hr.units T.lR T.ao8 ?_;exact ao 0 (pv 0)
theorem HL(T:Txt K mg t):FD P w K mg base (wA t) 1 "is_cell" ["cell"] 1 (nB t) (some true):=
 have hS:bY ["cell"] ["cell"] (aR AJ):=wu;gW (Γ:=[.par]) T.L4 hS rfl (kU rfl) fun f dW hc A outer s H E hr=>
 by
 refine bh ?_;refine eT (κ:=.new) ?_;refine Hi (aN:=.new) ?_ ?_;refine DM (aN:=.new) (d9:=.old) (ES:=.new) Ad Ad vc vc ?_ ?_ ?_;exact aF;refine cK (aN:=.old) (d9:=.new) ?_ ?_ (fun _ _=>rfl);exact ao 0 (pv 0);exact aF;exact C3 rfl T.HJ;refine OR ?_;refine DM (aN:=.new) (d9:=.old) (ES:=.new) Ad Ad vc vc ?_ ?_ ?_;exact aF;refine cK (aN:=.old) (d9:=.new) ?_ ?_ (fun _ _=>rfl);exact ao 0 (pv 0);exact aF;exact C3 rfl T.HJ
theorem yV(T:Txt K mg t):FD P w K mg base (wA t) 2 "check_cells" ["cells"] 1 (cR t) (some true):=
 have hS:bY ["cells","cell"] ["cells"] (aR qJ):=wu;gW (Γ:=[.par,.par]) T.zO hS rfl (kU rfl) fun f dW hc A outer s H E hr=>
 by
 refine b7 ?_ ?_;refine jJ ?_   ?_   gR;refine vd ?_;refine P0 (aN:=.new) (d9:=.new) (ES:=.new) Ad Ad vc vc ?_ ?_ ?_;exact aF;refine iW (aN:=.aZ) qd ?_;refine dX iC rfl T.vU rT ?_;refine aq (κ:=.aZ) (aN:=.old) ?_ ?_;exact ao 0 (pv 0);exact aK (κ:=.aZ);exact C3 rfl T.u6;refine bh ?_;exact nv Eo hr.hd T.rR T.rS (E4 (all_cons (kZ (n:=500) (by decide +kernel)) (all_cons (DU (n:=500) T.u6 (by decide) (by decide +kernel)) (all_cons (kZ (n:=500) (by decide +kernel)) all_nil))) (by decide));refine b7 ?_ ?_;refine jJ ?_   ?_   gR;refine vd ?_;refine Ax (κ:=.new) ?_;refine bx (κ:=.aZ) (u9 T) hr (by decide) ?_ (aG bK);refine aq (κ:=.aZ) (aN:=.old) ?_ ?_;exact ao 0 (pv 0);exact aK (κ:=.aZ);refine bh ?_;exact nv Eo hr.hd T.rR T.rS (kZ (n:=500) (by decide +kernel));refine bh ?_;refine fL (κ:=.old) (bX ⟨rfl,rfl⟩) rfl ?_ rfl (cW (i:=1) (by exact hS.nd) rfl (cS rfl)) (fV (i:=1) (k:=.par)) ?_;exact ao 0 (pv 0);refine bh ?_;refine jJ ?_   ?_   gR;refine vd ?_;refine Ax (κ:=.new) ?_;refine bx (κ:=.aZ) (HL T) hr (by decide) ?_ (aG bK);refine aq (κ:=.aZ) (aN:=.old) ?_ ?_;exact ao 1 (pv 1);exact aK (κ:=.aZ);refine bh ?_;exact nv Eo hr.hd T.rR T.rS (E4 (all_cons (kZ (n:=500) (by decide +kernel)) (all_cons (DU (n:=500) T.HJ (by decide) (by decide +kernel)) all_nil)) (by decide))
theorem Q8(T:Txt K mg t){fi:ay}{fd:gP}(F:Lp K "__init__" "Board.__init__" Ja fi fd):jV P w K mg base (p9 P w) 3 fi fd ["self","cells"] (C7 K t.mw (V7 t.tab (vO dR) "in_order.<locals>.<lambda>") (cR t)):=
 SE (κ:=.new) F wu T.Z8 T.Z9 fun dW A outer s H E hr=>by
 refine CT ?_ ?_;refine q8 ?_;refine bx (κ:=.aZ) (yV T) hr (by decide) ?_ (aG bK);refine aq (κ:=.aZ) (aN:=.old) ?_ ?_;exact ao 1 (pv 1);exact aK (κ:=.aZ);refine Ij ?_;refine VT (pv 0) ?_ rfl;refine iW (aN:=.aZ) pJ ?_;refine ja jw rfl T.rQ u7 ?_;refine aq (κ:=.aZ) (aN:=.old) ?_ ?_;exact ao 1 (pv 1);exact aK (κ:=.aZ)
theorem zT(T:Txt K mg t):FD P w K mg base (wA t) 2 "check_pegs" ["board","pegs"] 2 (iE t) (some true):=
 have hS:bY ["board","pegs","cell"] ["board","pegs"] (aR tW):=wu;gW (Γ:=[.par,.par,.par]) T.Cg hS rfl (kU rfl) fun f dW hc A outer s H E hr=>
 by
 refine b7 ?_ ?_;refine jJ ?_   ?_   gR;refine vd ?_;refine Ax (κ:=.new) ?_;refine bx (κ:=.aZ) (u9 T) hr (by decide) ?_ (aG bK);refine aq (κ:=.aZ) (aN:=.old) ?_ ?_;exact ao 1 (pv 1);exact aK (κ:=.aZ);refine bh ?_;exact nv Eo hr.hd T.AM T.AN (kZ (n:=500) (by decide +kernel));refine bh ?_;refine fL (κ:=.old) (bX ⟨rfl,rfl⟩) rfl ?_ rfl (cW (i:=2) (by exact hS.nd) rfl (cS rfl)) (fV (i:=2) (k:=.par))   ?_;exact ao 1 (pv 1);refine bh ?_;refine jJ ?_   ?_   gR;refine eS (aN:=.old) (d9:=.old) (nh hr.units) kF ?_ ?_ (by with_unfolding_all rfl);exact ao 2 (pv 2);refine pN (aN:=.old) T.Z8 T.Z9 ?_;exact ao 0 (pv 0);refine bh ?_;exact nv Eo hr.hd T.AM T.AN (kZ (n:=500) (by decide +kernel))
theorem Co(T:Txt K mg t):FD P w K mg base (wA t) 1 "two_apart" ["cell"] 1 (jc t) (some true):=
 have hS:bY ["cell","row","column"] ["cell"] (aR vQ):=wu;gW (Γ:=[.par,.par,.par]) T.Ek hS rfl (kU rfl) fun f dW hc A outer s H E hr=>
 by
 refine b7 ?_ ?_;refine dJ (i:=1) (k:=.par) (κ:=.new) ?_ ?_;exact hS.nd;refine cN (κ:=.old) ?_;refine cK (aN:=.old) (d9:=.new) ?_ ?_ (fun _ _=>rfl);exact ao 0 (pv 0);exact aF;refine b7 ?_ ?_;refine dJ (i:=2) (k:=.par) (κ:=.new) ?_ ?_;exact hS.nd;refine cN (κ:=.old) ?_;refine cK (aN:=.old) (d9:=.new) ?_ ?_ (fun _ _=>rfl);exact ao 0 (pv 0);exact aF;refine bh ?_;refine eT (κ:=.new) ?_;refine iu ?_;refine aq (κ:=.new) (aN:=.new) ?_ ?_;refine gz ?_;refine aq (κ:=.new) (aN:=.new) ?_ ?_;refine cF (aN:=.old) (d9:=.new) uQ qc ?_ ?_;exact ao 1 (pv 1);exact aF;refine aq (κ:=.new) (aN:=.new) ?_ ?_;refine cN (κ:=.old) ?_;exact ao 2 (pv 2);exact aK (κ:=.new);refine aq (κ:=.new) (aN:=.new) ?_ ?_;refine gz ?_;refine aq (κ:=.new) (aN:=.new) ?_ ?_;refine cN (κ:=.old) ?_;exact ao 1 (pv 1);refine aq (κ:=.new) (aN:=.new) ?_ ?_;refine cF (aN:=.old) (d9:=.new) uQ qc ?_ ?_;exact ao 2 (pv 2);exact aF;exact aK (κ:=.new);refine aq (κ:=.new) (aN:=.new) ?_ ?_;refine gz ?_;refine aq (κ:=.new) (aN:=.new) ?_ ?_;refine cN (κ:=.old) ?_;exact ao 1 (pv 1);refine aq (κ:=.new) (aN:=.new) ?_ ?_;refine cF (aN:=.old) (d9:=.new) i8 fJ ?_ ?_;exact ao 2 (pv 2);exact aF;exact aK (κ:=.new);refine aq (κ:=.new) (aN:=.new) ?_ ?_;refine gz ?_;refine aq (κ:=.new) (aN:=.new) ?_ ?_;refine cF (aN:=.old) (d9:=.new) i8 fJ ?_ ?_;exact ao 1 (pv 1);exact aF;refine aq (κ:=.new) (aN:=.new) ?_ ?_;refine cN (κ:=.old) ?_;exact ao 2 (pv 2);exact aK (κ:=.new);exact aK (κ:=.new)
theorem rV(T:Txt K mg t):FD P w K mg base (wA t) 1 "between" ["cell","other"] 2 (iF t) (some true):=
 have hS:bY ["cell","other"] ["cell","other"] (aR AK):=wu;gW (Γ:=[.par,.par]) T.L5 hS rfl (kU rfl) fun f dW hc A outer s H E hr=>
 by
 refine bh ?_;refine eT (κ:=.new) ?_;refine gz ?_;refine aq (κ:=.new) (aN:=.new) ?_ ?_;refine cF (aN:=.new) (d9:=.new) lW m8 ?_ ?_;refine cF (aN:=.old) (d9:=.old) i8 fJ ?_ ?_;refine cK (aN:=.old) (d9:=.new) ?_ ?_ (fun _ _=>rfl);exact ao 0 (pv 0);exact aF;refine cK (aN:=.old) (d9:=.new) ?_ ?_ (fun _ _=>rfl);exact ao 1 (pv 1);exact aF;exact aF;refine aq (κ:=.new) (aN:=.new) ?_ ?_;refine cF (aN:=.new) (d9:=.new) lW m8 ?_ ?_;refine cF (aN:=.old) (d9:=.old) i8 fJ ?_ ?_;refine cK (aN:=.old) (d9:=.new) ?_ ?_ (fun _ _=>rfl);exact ao 0 (pv 0);exact aF;refine cK (aN:=.old) (d9:=.new) ?_ ?_ (fun _ _=>rfl);exact ao 1 (pv 1);exact aF;exact aF;exact aK (κ:=.new)
theorem Q9(T:Txt K mg t):FD P w K mg base (wA t) 2 "leaps" ["board"] 1 (wR t) (some true):=
 have hS:bY ["board","found","first","second"] ["board"] (aR Jb):=wu;gW (Γ:=[.par,.own true,.par,.par]) T.Ti hS rfl (kU rfl) fun f dW hc A outer s H E hr=>
 by
 refine b7 ?_ ?_;refine dJ (i:=1) (k:=(.own true)) (κ:=.new) ?_ ?_;exact hS.nd;refine iu ?_;exact aK (κ:=.new);refine b7 ?_ ?_;refine fL (κ:=.old) (bX ⟨rfl,rfl⟩) rfl ?_ rfl (cW (i:=2) (by exact hS.nd) rfl (cS rfl)) (fV (i:=2) (k:=.par))   ?_;refine pN (aN:=.old) T.Z8 T.Z9 ?_;exact ao 0 (pv 0);refine bh ?_;refine fL (κ:=.new) (bX ⟨rfl,rfl⟩) rfl ?_ rfl (cW (i:=3) (by exact hS.nd) rfl (cS rfl)) (fV (i:=3) (k:=.par)) ?_;refine bx (κ:=.aZ) (Co T) hr (by decide) ?_ (aG bK);refine aq (κ:=.aZ) (aN:=.old) ?_ ?_;exact ao 2 (pv 2);exact aK (κ:=.aZ);refine bh ?_;refine jJ ?_   ?_   gR;refine PW.pt ?_;refine yC ?_ ?_;refine eS (aN:=.old) (d9:=.old) (rK hr.units) kF ?_ ?_ (by with_unfolding_all rfl);exact ao 3 (pv 3);refine pN (aN:=.old) T.Z8 T.Z9 ?_;exact ao 0 (pv 0);refine wL ?_;refine eS (aN:=.new) (d9:=.old) (rK hr.units) kF ?_ ?_ (by with_unfolding_all rfl);refine bx (κ:=.aZ) (rV T) hr (by decide) ?_ (aG (aG bK));refine aq (κ:=.aZ) (aN:=.old) ?_ ?_;exact ao 2 (pv 2);refine aq (κ:=.aZ) (aN:=.old) ?_ ?_;exact ao 3 (pv 3);exact aK (κ:=.aZ);refine pN (aN:=.old) T.Z8 T.Z9 ?_;exact ao 0 (pv 0);refine bh ?_;refine yD (i:=1) (κ:=.new) (to:=oB 1) ?_ rfl;refine Ak rB uL uM jM (pv 1) ?_;refine gU ?_ jL;refine gz ?_;refine aq (κ:=.new) (aN:=.new) ?_ ?_;refine cN (κ:=.old) ?_;exact ao 2 (pv 2);refine aq (κ:=.new) (aN:=.new) ?_ ?_;refine cN (κ:=.old) ?_;exact ao 3 (pv 3);exact aK (κ:=.new);refine bh ?_;refine eT (κ:=.oF) ?_;exact iD 1 (pv 1)
theorem yW(T:Txt K mg t):FD P w K mg base (wA t) 2 "can_be_done" ["pegs","leap"] 2 (jS t) (some true):=
 have hS:bY ["pegs","leap"] ["pegs","leap"] (aR qK):=wu;gW (Γ:=[.par,.par]) T.zP hS rfl (kU rfl) fun f dW hc A outer s H E hr=>
 by
 refine bh ?_;refine eT (κ:=.new) ?_;refine Hi (aN:=.new) ?_ ?_;refine yx (aN:=.old) (d9:=.old) (rK hr.units) kF ?_ ?_ (by with_unfolding_all rfl);refine cK (aN:=.old) (d9:=.new) ?_ ?_ (fun _ _=>rfl);exact ao 1 (pv 1);exact aF;exact ao 0 (pv 0);refine Hi (aN:=.new) ?_ ?_;refine yx (aN:=.old) (d9:=.old) (nh hr.units) kF ?_ ?_ (by with_unfolding_all rfl);refine cK (aN:=.old) (d9:=.new) ?_ ?_ (fun _ _=>rfl);exact ao 1 (pv 1);exact aF;exact ao 0 (pv 0);refine OR ?_;refine yx (aN:=.new) (d9:=.old) (rK hr.units) kF ?_ ?_ (by with_unfolding_all rfl);refine bx (κ:=.aZ) (rV T) hr (by decide) ?_ (aG (aG bK));refine aq (κ:=.aZ) (aN:=.old) ?_ ?_;refine cK (aN:=.old) (d9:=.new) ?_ ?_ (fun _ _=>rfl);exact ao 1 (pv 1);exact aF;refine aq (κ:=.aZ) (aN:=.old) ?_ ?_;refine cK (aN:=.old) (d9:=.new) ?_ ?_ (fun _ _=>rfl);exact ao 1 (pv 1);exact aF;exact aK (κ:=.aZ);exact ao 0 (pv 0)
theorem yX(T:Txt K mg t):FD P w K mg base (wA t) 2 "pegs_behind" ["pegs","leap"] 2 (jT t) (some true):=
 have hS:bY ["pegs","leap","taken"] ["pegs","leap"] (aR qL):=wu;gW (Γ:=[.par,.par,.par]) T.zQ hS rfl (kU rfl) fun f dW hc A outer s H E hr=>
 by
 refine b7 ?_ ?_;refine dJ (i:=2) (k:=.par) (κ:=.new) ?_ ?_;exact hS.nd;refine gz ?_;refine aq (κ:=.new) (aN:=.new) ?_ ?_;refine cN (κ:=.old) ?_;refine cK (aN:=.old) (d9:=.new) ?_ ?_ (fun _ _=>rfl);exact ao 1 (pv 1);exact aF;refine aq (κ:=.new) (aN:=.new) ?_ ?_;refine bx (κ:=.aZ) (rV T) hr (by decide) ?_ (aG (aG bK));refine aq (κ:=.aZ) (aN:=.old) ?_ ?_;refine cK (aN:=.old) (d9:=.new) ?_ ?_ (fun _ _=>rfl);exact ao 1 (pv 1);exact aF;refine aq (κ:=.aZ) (aN:=.old) ?_ ?_;refine cK (aN:=.old) (d9:=.new) ?_ ?_ (fun _ _=>rfl);exact ao 1 (pv 1);exact aF;exact aK (κ:=.aZ);exact aK (κ:=.new);refine bh ?_;refine eT (κ:=.new) ?_;refine iW (aN:=.aZ) qh ?_;refine dX (kP hr.units) rfl T.lR kY ?_;refine aq (κ:=.aZ) (aN:=.new) ?_ ?_;refine cF (aN:=.new) (d9:=.new) wM wN ?_ ?_;refine pP (n:=true) (z:=true) (gM:=["cell"]) (caps:=[(2,"taken")]) ?_ (IZ.mk (tM:=.new) (n:=true) (z:=true) (gM:=["cell"]) (caps:=[(2,"taken")]) rfl rfl (by decide +kernel) ?_ ?_ (by with_unfolding_all rfl) (by decide +kernel) ?_ (fun _ p hp=>by simp only[bW,fQ,aN4]at hp;rcases hp with rfl <;> first|exact cS rfl|exact gQ rfl) (fV (i:=0) (k:=.par)) (fun fp s0 H0 L=>cW (i:=0) (by exact(show nN (["cell","taken"]:List Str)from by decide +kernel)) rfl (cS rfl) (gQ rfl)) (fun fp s0 H0 L=>qg ?_) (fun fp s0 H0 L=>?_) (fun _=>rfl) (fun h=>nomatch h));refine Xc (κ:=.old) ?_ (fun _=>rfl);exact ao 0 (pv 0);exact pO (by intro p hp;simp only[bW,fQ,aN4] at hp;rcases hp with rfl <;> rfl);exact mq (by rfl);exact⟨⟨rfl,rfl,rfl,rfl⟩,trivial⟩;refine eS (aN:=.old) (d9:=.old) (nh hr.units) kF ?_ ?_ (by with_unfolding_all rfl);exact ao 0 (pv 0);exact ao 1 (pv 1);refine cN (κ:=.old) ?_;exact ao 0 (pv 0);refine iu ?_;refine aq (κ:=.new) (aN:=.new) ?_ ?_;refine cN (κ:=.old) ?_;refine cK (aN:=.old) (d9:=.new) ?_ ?_ (fun _ _=>rfl);exact ao 1 (pv 1);exact aF;exact aK (κ:=.new);exact aK (κ:=.aZ)
theorem zU(T:Txt K mg t):FD P w K mg base (wA t) 3 "steps_from" ["all_leaps","standing"] 2 (iG t) (some true):=
 have hS:bY ["all_leaps","standing"] ["all_leaps","standing"] (aR tX):=wu;gW (Γ:=[.par,.par]) T.Ci hS rfl (kU rfl) fun f dW hc A outer s H E hr=>
 by
 refine bh ?_;refine eT (κ:=.new) ?_;refine pP (n:=true) (z:=true) (gM:=["leap"]) (caps:=[(1,"standing")]) ?_ (IZ.mk (tM:=.new) (n:=true) (z:=true) (gM:=["leap"]) (caps:=[(1,"standing")]) rfl rfl (by decide +kernel) ?_ ?_ (by with_unfolding_all rfl) (by decide +kernel) ?_ (fun _ p hp=>by simp only[bW,fQ,aN4]at hp;rcases hp with rfl <;> first|exact cS rfl|exact gQ rfl) (fV (i:=0) (k:=.par)) (fun fp s0 H0 L=>cW (i:=0) (by exact(show nN (["leap","standing"]:List Str)from by decide +kernel)) rfl (cS rfl) (gQ rfl)) (fun fp s0 H0 L=>qg ?_) (fun fp s0 H0 L=>?_) (fun _=>rfl) (fun h=>nomatch h));refine tN (κ:=.old) ?_ (fun _=>rfl);exact ao 0 (pv 0);exact pO (by intro p hp;simp only[bW,fQ,aN4] at hp;rcases hp with rfl <;> rfl);exact mq (by rfl);exact⟨⟨rfl,rfl,rfl,rfl⟩,trivial⟩;refine Ax (κ:=.new) ?_;refine bx (κ:=.aZ) (yW T) hr (by decide) ?_ (aG (aG bK));refine aq (κ:=.aZ) (aN:=.old) ?_ ?_;exact ao 1 (pv 1);refine aq (κ:=.aZ) (aN:=.old) ?_ ?_;exact ao 0 (pv 0);exact aK (κ:=.aZ);refine gz ?_;refine aq (κ:=.new) (aN:=.new) ?_ ?_;refine cN (κ:=.old) ?_;exact ao 0 (pv 0);refine aq (κ:=.new) (aN:=.new) ?_ ?_;refine iW (aN:=.aZ) AG ?_;refine ja qB rfl T.Jd E7 ?_;refine aq (κ:=.aZ) (aN:=.new) ?_ ?_;refine bx (κ:=.aZ) (yX T) hr (by decide) ?_ (aG (aG bK));refine aq (κ:=.aZ) (aN:=.old) ?_ ?_;exact ao 1 (pv 1);refine aq (κ:=.aZ) (aN:=.old) ?_ ?_;exact ao 0 (pv 0);exact aK (κ:=.aZ);exact aK (κ:=.aZ);exact aK (κ:=.new)
theorem Cp(T:Txt K mg t):FD P w K mg base (wA t) 4 "next_rows" ["all_leaps","layer"] 2 (k6 t) (some true):=
 have hS:bY ["all_leaps","layer","found","standing","row","leap","behind"] ["all_leaps","layer"] (aR vR):=wu;gW (Γ:=[.par,.par,.own true,.par,.par,.par,.par]) T.El hS rfl (kU rfl) fun f dW hc A outer s H E hr=>
 by
 refine b7 ?_ ?_;refine dJ (i:=2) (k:=(.own true)) (κ:=.new) ?_ ?_;exact hS.nd;exact J2;refine b7 ?_ ?_;refine SM (bX ⟨rfl,rfl⟩) rfl ?_ (xV rfl (iT (cW (i:=3) (by exact hS.nd) rfl (cS rfl)) (iT (cW (i:=4) (by exact hS.nd) rfl (cS rfl)) sD))) (tF (i:=3) (j:=4) (k:=.par) (k':=.par)) ?_;refine PK (κ:=.old) ?_ (fun _=>rfl);exact ao 1 (pv 1);refine bh ?_;refine fL (κ:=.new) (bX ⟨rfl,rfl⟩) rfl ?_ rfl (xV rfl (iT (cW (i:=5) (by exact hS.nd) rfl (cS rfl)) (iT (cW (i:=6) (by exact hS.nd) rfl (cS rfl)) sD))) (tF (i:=5) (j:=6) (k:=.par) (k':=.par)) ?_;refine bx (κ:=.aZ) (zU T) hr (by decide) ?_ (aG (aG bK));refine aq (κ:=.aZ) (aN:=.old) ?_ ?_;exact ao 0 (pv 0);refine aq (κ:=.aZ) (aN:=.old) ?_ ?_;exact ao 3 (pv 3);exact aK (κ:=.aZ);refine bh ?_;refine jJ ?_   ?_   gR;refine eS (aN:=.old) (d9:=.oF) (Kx (Hv hr.units)) SS ?_ ?_ (by with_unfolding_all rfl);exact ao 6 (pv 6);exact iD 2 (pv 2);refine bh ?_;refine Xf (i:=2) (κ:=.new) (κ':=.old) (Hv hr.units) (pv 2) ?_ ?_ rfl;exact ao 6 (pv 6);refine cF (aN:=.old) (d9:=.new) wM wN ?_ ?_;exact ao 4 (pv 4);refine iu ?_;refine aq (κ:=.new) (aN:=.new) ?_ ?_;refine cN (κ:=.old) ?_;exact ao 5 (pv 5);exact aK (κ:=.new);refine bh ?_;refine eT (κ:=.oF) ?_;exact iD 2 (pv 2)
theorem zV(T:Txt K mg t):FD P w K mg base (wA t) 5 "first_rows" ["board","pegs"] 2 (kW t) (some true):=
 have hS:bY ["board","pegs","all_leaps","found","layer"] ["board","pegs"] (aR tY):=wu;gW (Γ:=[.par,.par,.par,.own true,.loc]) T.Cj hS rfl (kU rfl) fun f dW hc A outer s H E hr=>
 by
 refine b7 ?_ ?_;refine dJ (i:=2) (k:=.par) (κ:=.new) ?_ ?_;exact hS.nd;refine bx (κ:=.aZ) (Q9 T) hr (by decide) ?_ (aG bK);refine aq (κ:=.aZ) (aN:=.old) ?_ ?_;exact ao 0 (pv 0);exact aK (κ:=.aZ);refine b7 ?_ ?_;refine dJ (i:=3) (k:=(.own true)) (κ:=.new) ?_ ?_;exact hS.nd;exact J2;refine b7 ?_ ?_;refine dJ (i:=4) (k:=.loc) (κ:=.new) ?_ ?_;exact hS.nd;refine SY (κk:=.new) (Xe hr.units) ?_ ?_;refine iW (aN:=.aZ) AG ?_;refine ja qB rfl T.Jd E7 ?_;refine aq (κ:=.aZ) (aN:=.old) ?_ ?_;exact ao 1 (pv 1);exact aK (κ:=.aZ);refine iu ?_;exact aK (κ:=.new);refine b7 ?_ ?_;refine Eb 40 (bX ⟨rfl,rfl⟩) ?_ ?_;refine eS (aN:=.new) (d9:=.new) NP Hg ?_ ?_ (i9 _);refine iW (aN:=.aZ) PC ?_;refine dX KC rfl T.vU rT ?_;refine aq (κ:=.aZ) (aN:=.loc) ?_ ?_;exact tR 4 (pv 4);exact aK (κ:=.aZ);exact aF;refine b7 ?_ ?_;refine Xi (i:=3) (κ:=.loc) ?_ rfl;refine Xh Nj PySem.F.type_dict_update (SW (Hv hr.units)) (pv 3) ?_;refine gU ?_ jL;exact tR 4 (pv 4);refine bh ?_;refine dJ (i:=4) (k:=.loc) (κ:=.new) ?_ ?_;exact hS.nd;refine bx (κ:=.aZ) (Cp T) hr (by decide) ?_ (aG (aG bK));refine aq (κ:=.aZ) (aN:=.old) ?_ ?_;exact ao 2 (pv 2);refine aq (κ:=.aZ) (aN:=.loc) ?_ ?_;exact tR 4 (pv 4);exact aK (κ:=.aZ);refine bh ?_;refine eT (κ:=.oF) ?_;exact iD 3 (pv 3)
theorem Ep(T:Txt K mg t):FD P w K mg base (wA t) 1 "in_order" ["standings"] 1 (nX t) none:=
 have hS:bY ["standings"] ["standings"] (aR dR):=wu;gW (Γ:=[.par]) T.HG hS rfl (kU rfl) fun f dW hc A outer s H E hr=>
 by
 refine bh ?_;refine IX ?_;refine KZ ?_ (fun H h=>h) (T9 T.aH1 T.aH2 T.aH3 hc) (zS t) rfl T.lR T.vU hr.units hr.depth;refine Pf (z:=true) (gM:=["standing"]) (caps:=[]) ?_ (IZ.mk (tM:=.new) (n:=true) (z:=true) (gM:=["standing"]) (caps:=[]) rfl rfl (by decide +kernel) ?_ ?_ (by with_unfolding_all rfl) (by decide +kernel) ?_ (fun _ p hp=>by cases hp) (fV (i:=0) (k:=.par)) (fun fp s0 H0 L=>cW (i:=0) (by exact(show nN (["standing"]:List Str)from by decide +kernel)) rfl (cS rfl) (gQ rfl)) (fun fp s0 H0 L=>qf (ft:=dC (.bl true))) (fun fp s0 H0 L=>?_) (fun _=>rfl) (fun h=>nomatch h));refine T4 (κ:=.old) ?_ (fun _=>rfl);exact ao 0 (pv 0);exact pO (by intro p hp;cases hp);exact mq (by rfl);exact trivial;refine iW (aN:=.aZ) pJ ?_;refine ja jw rfl T.rQ u7 ?_;refine aq (κ:=.aZ) (aN:=.old) ?_ ?_;exact ao 0 (pv 0);exact aK (κ:=.aZ)
theorem HM(T:Txt K mg t):FD P w K mg base (wA t) 6 "reached" ["board","pegs"] 2 (l0 t) none:=
 have hS:bY ["board","pegs"] ["board","pegs"] (aR AL):=wu;gW (Γ:=[.par,.par]) T.L6 hS rfl (kU rfl) fun f dW hc A outer s H E hr=>
 by
 refine b7 ?_ ?_;refine Si (κ:=.new) ?_;refine bx (κ:=.aZ) (zT T) hr (by decide) ?_ (aG (aG bK));refine aq (κ:=.aZ) (aN:=.old) ?_ ?_;exact ao 0 (pv 0);refine aq (κ:=.aZ) (aN:=.old) ?_ ?_;exact ao 1 (pv 1);exact aK (κ:=.aZ);refine bh ?_;refine IX ?_;refine AF (κ:=.aZ) (Ep T) hr (by decide) ?_ (aG bK);refine aq (κ:=.aZ) (aN:=.new) ?_ ?_;refine bx (κ:=.aZ) (zV T) hr (by decide) ?_ (aG (aG bK));refine aq (κ:=.aZ) (aN:=.old) ?_ ?_;exact ao 0 (pv 0);refine aq (κ:=.aZ) (aN:=.old) ?_ ?_;exact ao 1 (pv 1);exact aK (κ:=.aZ);exact aK (κ:=.aZ)
theorem j0(T:Txt K mg t):FD P w K mg base (wA t) 1 "_law_cell_at" ["script","k"] 2 (bH t) (some true):=
 have hS:bY ["script","k"] ["script","k"] (aR pU):=wu;gW (Γ:=[.par,.par]) T.yS hS rfl (kU rfl) fun f dW hc A outer s H E hr=>
 by
 refine b7 ?_ ?_;refine jJ ?_   ?_   gR;refine eS (aN:=.old) (d9:=.new) Ux OO ?_ ?_ (i9 _);exact ao 1 (pv 1);refine iW (aN:=.aZ) qd ?_;refine dX iC rfl T.vU rT ?_;refine aq (κ:=.aZ) (aN:=.old) ?_ ?_;exact ao 0 (pv 0);exact aK (κ:=.aZ);refine bh ?_;refine eT (κ:=.new) ?_;refine cN (κ:=.old) ?_;refine cK (aN:=.old) (d9:=.old) ?_ ?_ (fun _ _=>rfl);exact ao 0 (pv 0);exact ao 1 (pv 1);refine bh ?_;refine eT (κ:=.new) ?_;exact aF
theorem gw(T:Txt K mg t):FD P w K mg base (wA t) 1 "_law_mix" ["cell","k","many"] 3 (bP t) (some true):=
 have hS:bY ["cell","k","many","some","number"] ["cell","k","many"] (aR yR):=wu;gW (Γ:=[.par,.par,.par,.par,.par]) T.HH hS rfl (kU rfl) fun f dW hc A outer s H E hr=>
 by
 refine b7 ?_ ?_;refine dJ (i:=3) (k:=.par) (κ:=.new) ?_ ?_;exact hS.nd;refine iu ?_;refine aq (κ:=.new) (aN:=.new) ?_ ?_;exact aF;refine aq (κ:=.new) (aN:=.new) ?_ ?_;exact aF;refine aq (κ:=.new) (aN:=.new) ?_ ?_;exact aF;refine aq (κ:=.new) (aN:=.new) ?_ ?_;exact aF;refine aq (κ:=.new) (aN:=.new) ?_ ?_;exact aF;refine aq (κ:=.new) (aN:=.new) ?_ ?_;exact aF;refine aq (κ:=.new) (aN:=.new) ?_ ?_;exact aF;refine aq (κ:=.new) (aN:=.new) ?_ ?_;exact aF;refine aq (κ:=.new) (aN:=.new) ?_ ?_;exact aF;refine aq (κ:=.new) (aN:=.new) ?_ ?_;exact aF;refine aq (κ:=.new) (aN:=.new) ?_ ?_;exact aF;refine aq (κ:=.new) (aN:=.new) ?_ ?_;exact aF;refine aq (κ:=.new) (aN:=.new) ?_ ?_;exact aF;exact aK (κ:=.new);refine b7 ?_ ?_;refine dJ (i:=4) (k:=.par) (κ:=.new) ?_ ?_;exact hS.nd;refine cF (aN:=.new) (d9:=.old) xY tw ?_ ?_;refine cF (aN:=.new) (d9:=.new) i8 fJ ?_ ?_;refine cF (aN:=.old) (d9:=.new) mP jR ?_ ?_;exact ao 0 (pv 0);exact aF;exact aF;refine cK (aN:=.old) (d9:=.new) ?_ ?_ (fun _ _=>rfl);exact ao 3 (pv 3);refine cF (aN:=.old) (d9:=.new) mP jR ?_ ?_;exact ao 1 (pv 1);exact aF;refine b7 ?_ ?_;refine dJ (i:=4) (k:=.par) (κ:=.new) ?_ ?_;exact hS.nd;refine cF (aN:=.new) (d9:=.new) i8 fJ ?_ ?_;refine cF (aN:=.old) (d9:=.new) xY tw ?_ ?_;exact ao 4 (pv 4);refine cF (aN:=.new) (d9:=.new) i8 fJ ?_ ?_;refine cF (aN:=.new) (d9:=.new) xY tw ?_ ?_;exact aF;refine cF (aN:=.old) (d9:=.new) lW m8 ?_ ?_;exact ao 1 (pv 1);exact aF;exact aF;refine cF (aN:=.new) (d9:=.old) xY tw ?_ ?_;exact aF;exact ao 1 (pv 1);refine bh ?_;refine eT (κ:=.new) ?_;refine cF (aN:=.new) (d9:=.old) mP jR ?_ ?_;refine cF (aN:=.new) (d9:=.new) lW m8 ?_ ?_;refine cF (aN:=.old) (d9:=.new) mP jR ?_ ?_;exact ao 4 (pv 4);exact aF;exact aF;exact ao 2 (pv 2)
theorem vm(T:Txt K mg t):FD P w K mg base (wA t) 2 "_law_cells_by" ["script","most"] 2 (fC t) (some true):=
 have hS:bY ["script","most","cell","height","width","down","across","some","k"] ["script","most"] (aR oA):=wu;gW (Γ:=[.par,.par,.par,.par,.par,.par,.par,.own true,.par]) T.wz hS rfl (kU rfl) fun f dW hc A outer s H E hr=>
 by
 refine b7 ?_ ?_;refine dJ (i:=2) (k:=.par) (κ:=.new) ?_ ?_;exact hS.nd;refine bx (κ:=.aZ) (j0 T) hr (by decide) ?_ (aG (aG bK));refine aq (κ:=.aZ) (aN:=.old) ?_ ?_;exact ao 0 (pv 0);refine aq (κ:=.aZ) (aN:=.new) ?_ ?_;exact aF;exact aK (κ:=.aZ);refine b7 ?_ ?_;refine P9 (i:=3) (j:=4) (k:=.par) (k':=.par) rfl ?_ ?_ (by decide);exact hS.nd;refine aq (κ:=.new) (aN:=.new) ?_ ?_;refine cF (aN:=.new) (d9:=.new) i8 fJ ?_ ?_;exact aF;refine bx (κ:=.aZ) (gw T) hr (by decide) ?_ (aG (aG (aG bK)));refine aq (κ:=.aZ) (aN:=.old) ?_ ?_;exact ao 2 (pv 2);refine aq (κ:=.aZ) (aN:=.new) ?_ ?_;exact aF;refine aq (κ:=.aZ) (aN:=.new) ?_ ?_;exact aF;exact aK (κ:=.aZ);refine aq (κ:=.new) (aN:=.new) ?_ ?_;refine cF (aN:=.new) (d9:=.new) i8 fJ ?_ ?_;exact aF;refine bx (κ:=.aZ) (gw T) hr (by decide) ?_ (aG (aG (aG bK)));refine aq (κ:=.aZ) (aN:=.old) ?_ ?_;exact ao 2 (pv 2);refine aq (κ:=.aZ) (aN:=.new) ?_ ?_;exact aF;refine aq (κ:=.aZ) (aN:=.new) ?_ ?_;exact aF;exact aK (κ:=.aZ);exact aK (κ:=.new);refine b7 ?_ ?_;refine jJ ?_   ?_   gR;refine eS (aN:=.new) (d9:=.new) (v5 hr.units) kE ?_ ?_ (i9 _);refine cF (aN:=.old) (d9:=.new) mP jR ?_ ?_;exact ao 2 (pv 2);exact aF;exact aF;refine bh ?_;refine Su (κ:=.new) ?_ rfl (xV rfl (iT (cW (i:=3) (by exact hS.nd) rfl (cS rfl)) (iT (cW (i:=4) (by exact hS.nd) rfl (cS rfl)) sD))) (tF (i:=3) (j:=4) (k:=.par) (k':=.par));refine cN (κ:=.old) ?_;refine cK (aN:=.new) (d9:=.new) ?_ ?_ (fun _ _=>rfl);refine iu ?_;refine aq (κ:=.new) (aN:=.new) ?_ ?_;refine gz ?_;refine aq (κ:=.new) (aN:=.new) ?_ ?_;refine cF (aN:=.new) (d9:=.new) i8 fJ ?_ ?_;exact aF;refine cF (aN:=.old) (d9:=.new) mP jR ?_ ?_;exact ao 3 (pv 3);exact aF;refine aq (κ:=.new) (aN:=.new) ?_ ?_;exact aF;exact aK (κ:=.new);refine aq (κ:=.new) (aN:=.new) ?_ ?_;refine gz ?_;refine aq (κ:=.new) (aN:=.new) ?_ ?_;exact aF;refine aq (κ:=.new) (aN:=.new) ?_ ?_;refine cF (aN:=.new) (d9:=.new) i8 fJ ?_ ?_;exact aF;refine cF (aN:=.old) (d9:=.new) mP jR ?_ ?_;exact ao 4 (pv 4);exact aF;exact aK (κ:=.new);exact aK (κ:=.new);refine cF (aN:=.new) (d9:=.new) mP jR ?_ ?_;refine cF (aN:=.old) (d9:=.new) lW m8 ?_ ?_;exact ao 2 (pv 2);exact aF;exact aF;refine b7 ?_ ?_;refine P9 (i:=5) (j:=6) (k:=.par) (k':=.par) rfl ?_ ?_ (by decide);exact hS.nd;refine aq (κ:=.new) (aN:=.new) ?_ ?_;refine bx (κ:=.aZ) (gw T) hr (by decide) ?_ (aG (aG (aG bK)));refine aq (κ:=.aZ) (aN:=.old) ?_ ?_;exact ao 2 (pv 2);refine aq (κ:=.aZ) (aN:=.new) ?_ ?_;exact aF;refine aq (κ:=.aZ) (aN:=.new) ?_ ?_;refine cF (aN:=.new) (d9:=.old) uQ qc ?_ ?_;exact aF;exact ao 3 (pv 3);exact aK (κ:=.aZ);refine aq (κ:=.new) (aN:=.new) ?_ ?_;refine bx (κ:=.aZ) (gw T) hr (by decide) ?_ (aG (aG (aG bK)));refine aq (κ:=.aZ) (aN:=.old) ?_ ?_;exact ao 2 (pv 2);refine aq (κ:=.aZ) (aN:=.new) ?_ ?_;exact aF;refine aq (κ:=.aZ) (aN:=.new) ?_ ?_;refine cF (aN:=.new) (d9:=.old) uQ qc ?_ ?_;exact aF;exact ao 4 (pv 4);exact aK (κ:=.aZ);exact aK (κ:=.new);refine b7 ?_ ?_;refine dJ (i:=7) (k:=(.own true)) (κ:=.new) ?_ ?_;exact hS.nd;refine iu ?_;exact aK (κ:=.new);refine b7 ?_ ?_;refine tG (κ:=.aZ) (bX ⟨rfl,rfl⟩) rfl T.Jc ?_ (cW (i:=8) (by exact hS.nd) rfl (cS rfl)) (fV (i:=8) (k:=.par)) ?_;refine aq (κ:=.aZ) (aN:=.new) ?_ ?_;refine cF (aN:=.old) (d9:=.old) xY tw ?_ ?_;exact ao 3 (pv 3);exact ao 4 (pv 4);exact aK (κ:=.aZ);refine bh ?_;refine jJ ?_   ?_   gR;refine eS (aN:=.new) (d9:=.new) NP Hg ?_ ?_ (i9 _);refine bx (κ:=.aZ) (gw T) hr (by decide) ?_ (aG (aG (aG bK)));refine aq (κ:=.aZ) (aN:=.new) ?_ ?_;refine bx (κ:=.aZ) (j0 T) hr (by decide) ?_ (aG (aG bK));refine aq (κ:=.aZ) (aN:=.old) ?_ ?_;exact ao 0 (pv 0);refine aq (κ:=.aZ) (aN:=.new) ?_ ?_;exact aF;exact aK (κ:=.aZ);refine aq (κ:=.aZ) (aN:=.old) ?_ ?_;exact ao 8 (pv 8);refine aq (κ:=.aZ) (aN:=.new) ?_ ?_;exact aF;exact aK (κ:=.aZ);exact aF;refine bh ?_;refine yD (i:=7) (κ:=.new) (to:=oB 7) ?_ rfl;refine Ak rB uL uM jM (pv 7) ?_;refine gU ?_ jL;refine gz ?_;refine aq (κ:=.new) (aN:=.new) ?_ ?_;refine cF (aN:=.old) (d9:=.new) i8 fJ ?_ ?_;exact ao 5 (pv 5);refine cF (aN:=.old) (d9:=.old) lW m8 ?_ ?_;exact ao 8 (pv 8);exact ao 4 (pv 4);refine aq (κ:=.new) (aN:=.new) ?_ ?_;refine cF (aN:=.old) (d9:=.new) i8 fJ ?_ ?_;exact ao 6 (pv 6);refine cF (aN:=.old) (d9:=.old) mP jR ?_ ?_;exact ao 8 (pv 8);exact ao 4 (pv 4);exact aK (κ:=.new);refine b7 ?_ ?_;refine jJ ?_   ?_   gR;refine eS (aN:=.new) (d9:=.new) (v5 hr.units) kE ?_ ?_ (i9 _);refine iW (aN:=.aZ) qd ?_;refine dX iC rfl T.vU rT ?_;refine aq (κ:=.aZ) (aN:=.oF) ?_ ?_;exact iD 7 (pv 7);exact aK (κ:=.aZ);exact aF;refine bh ?_;refine dJ (i:=7) (k:=(.own true)) (κ:=.new) ?_ ?_;exact hS.nd;refine iu ?_;refine aq (κ:=.new) (aN:=.new) ?_ ?_;refine gz ?_;refine aq (κ:=.new) (aN:=.new) ?_ ?_;refine cN (κ:=.old) ?_;exact ao 5 (pv 5);refine aq (κ:=.new) (aN:=.new) ?_ ?_;refine cN (κ:=.old) ?_;exact ao 6 (pv 6);exact aK (κ:=.new);exact aK (κ:=.new);refine bh ?_;refine eT (κ:=.new) ?_;refine yF (aN:=.oF) ?_ tH ?_;exact iD 7 (pv 7);refine tK (κ:=.old) ?_;exact ao 1 (pv 1)
theorem wB(T:Txt K mg t):FD P w K mg base (wA t) 2 "_law_pegs_by" ["cell","cells"] 2 (iA t) (some true):=
 have hS:bY ["cell","cells","way","gone"] ["cell","cells"] (aR pV):=wu;gW (Γ:=[.par,.par,.par,.par]) T.yT hS rfl (kU rfl) fun f dW hc A outer s H E hr=>
 by
 refine b7 ?_ ?_;refine dJ (i:=2) (k:=.par) (κ:=.new) ?_ ?_;exact hS.nd;refine bx (κ:=.aZ) (gw T) hr (by decide) ?_ (aG (aG (aG bK)));refine aq (κ:=.aZ) (aN:=.old) ?_ ?_;exact ao 0 (pv 0);refine aq (κ:=.aZ) (aN:=.new) ?_ ?_;exact aF;refine aq (κ:=.aZ) (aN:=.new) ?_ ?_;exact aF;exact aK (κ:=.aZ);refine b7 ?_ ?_;refine jJ ?_   ?_   gR;refine eS (aN:=.old) (d9:=.new) (v5 hr.units) kE ?_ ?_ (i9 _);exact ao 2 (pv 2);exact aF;refine b7 ?_ ?_;refine dJ (i:=3) (k:=.par) (κ:=.new) ?_ ?_;exact hS.nd;refine bx (κ:=.aZ) (gw T) hr (by decide) ?_ (aG (aG (aG bK)));refine aq (κ:=.aZ) (aN:=.old) ?_ ?_;exact ao 0 (pv 0);refine aq (κ:=.aZ) (aN:=.new) ?_ ?_;exact aF;refine aq (κ:=.aZ) (aN:=.new) ?_ ?_;refine iW (aN:=.aZ) qd ?_;refine dX iC rfl T.vU rT ?_;refine aq (κ:=.aZ) (aN:=.old) ?_ ?_;exact ao 1 (pv 1);exact aK (κ:=.aZ);exact aK (κ:=.aZ);refine bh ?_;refine eT (κ:=.new) ?_;refine cF (aN:=.new) (d9:=.new) wM wN ?_ ?_;refine yF (aN:=.old) ?_ tH ?_;exact ao 1 (pv 1);refine tK (κ:=.old) ?_;exact ao 3 (pv 3);refine yF (aN:=.old) ?_ ?_ tH;exact ao 1 (pv 1);refine tK (κ:=.new) ?_;refine cF (aN:=.old) (d9:=.new) i8 fJ ?_ ?_;exact ao 3 (pv 3);exact aF;refine bh ?_;refine eT (κ:=.new) ?_;refine pP (n:=true) (z:=true) (gM:=["k","one"]) (caps:=[(0,"cell"),(2,"way")]) ?_ (IZ.mk (tM:=.new) (n:=true) (z:=true) (gM:=["k","one"]) (caps:=[(0,"cell"),(2,"way")]) rfl rfl (by decide +kernel) ?_ ?_ (by with_unfolding_all rfl) (by decide +kernel) ?_ (fun _ p hp=>by simp only[bW,fQ,aN4]at hp;rcases hp with rfl|rfl <;> first|exact cS rfl|exact gQ rfl) (tF (i:=0) (j:=1) (k:=.par) (k':=.par)) (fun fp s0 H0 L=>xV rfl (iT (cW (i:=0) (by exact(show nN (["k","one","cell","way"]:List Str)from by decide +kernel)) rfl (cS rfl) (gQ rfl)) (iT (cW (i:=1) (by exact(show nN (["k","one","cell","way"]:List Str)from by decide +kernel)) rfl (cS rfl) (gQ rfl)) sD))) (fun fp s0 H0 L=>qg ?_) (fun fp s0 H0 L=>?_) (fun _=>rfl) (fun h=>nomatch h));refine SJ (κ:=.old) T.En ?_ (fun _=>rfl);exact ao 1 (pv 1);exact pO (by intro p hp;simp only[bW,fQ,aN4]at hp;rcases hp with rfl|rfl <;> rfl);exact mq (by rfl);exact⟨⟨rfl,rfl,rfl,rfl⟩,⟨⟨rfl,rfl,rfl,rfl⟩,trivial⟩⟩;refine eS (aN:=.new) (d9:=.new) NP Hg ?_ ?_ (i9 _);refine bx (κ:=.aZ) (gw T) hr (by decide) ?_ (aG (aG (aG bK)));refine aq (κ:=.aZ) (aN:=.old) ?_ ?_;exact ao 2 (pv 2);refine aq (κ:=.aZ) (aN:=.old) ?_ ?_;exact ao 0 (pv 0);refine aq (κ:=.aZ) (aN:=.old) ?_ ?_;refine cK (aN:=.new) (d9:=.old) ?_ ?_ (fun _ _=>rfl);refine iu ?_;refine aq (κ:=.new) (aN:=.new) ?_ ?_;exact aF;refine aq (κ:=.new) (aN:=.new) ?_ ?_;exact aF;refine aq (κ:=.new) (aN:=.new) ?_ ?_;exact aF;refine aq (κ:=.new) (aN:=.new) ?_ ?_;exact aF;exact aK (κ:=.new);exact ao 3 (pv 3);exact aK (κ:=.aZ);exact aF;refine cN (κ:=.old) ?_;exact ao 1 (pv 1)
theorem kI(T:Txt K mg t):FD P w K mg base (wA t) 1 "_law_between" ["leap"] 1 (bV t) (some true):=
 have hS:bY ["leap"] ["leap"] (aR pW):=wu;gW (Γ:=[.par]) T.yU hS rfl (kU rfl) fun f dW hc A outer s H E hr=>
 by
 refine bh ?_;refine eT (κ:=.new) ?_;refine gz ?_;refine aq (κ:=.new) (aN:=.new) ?_ ?_;refine cF (aN:=.new) (d9:=.new) lW m8 ?_ ?_;refine cF (aN:=.old) (d9:=.old) i8 fJ ?_ ?_;refine cK (aN:=.old) (d9:=.new) ?_ ?_ (fun _ _=>rfl);refine cK (aN:=.old) (d9:=.new) ?_ ?_ (fun _ _=>rfl);exact ao 0 (pv 0);exact aF;exact aF;refine cK (aN:=.old) (d9:=.new) ?_ ?_ (fun _ _=>rfl);refine cK (aN:=.old) (d9:=.new) ?_ ?_ (fun _ _=>rfl);exact ao 0 (pv 0);exact aF;exact aF;exact aF;refine aq (κ:=.new) (aN:=.new) ?_ ?_;refine cF (aN:=.new) (d9:=.new) lW m8 ?_ ?_;refine cF (aN:=.old) (d9:=.old) i8 fJ ?_ ?_;refine cK (aN:=.old) (d9:=.new) ?_ ?_ (fun _ _=>rfl);refine cK (aN:=.old) (d9:=.new) ?_ ?_ (fun _ _=>rfl);exact ao 0 (pv 0);exact aF;exact aF;refine cK (aN:=.old) (d9:=.new) ?_ ?_ (fun _ _=>rfl);refine cK (aN:=.old) (d9:=.new) ?_ ?_ (fun _ _=>rfl);exact ao 0 (pv 0);exact aF;exact aF;exact aF;exact aK (κ:=.new)
theorem zW(T:Txt K mg t):FD P w K mg base (wA t) 2 "_law_leaps" ["cells"] 1 (jE t) (some true):=
 have hS:bY ["cells","found","one","two","apart"] ["cells"] (aR tZ):=wu;gW (Γ:=[.par,.own true,.par,.par,.par]) T.Ck hS rfl (kU rfl) fun f dW hc A outer s H E hr=>
 by
 refine b7 ?_ ?_;refine dJ (i:=1) (k:=(.own true)) (κ:=.new) ?_ ?_;exact hS.nd;refine iu ?_;exact aK (κ:=.new);refine b7 ?_ ?_;refine fL (κ:=.old) (bX ⟨rfl,rfl⟩) rfl ?_ rfl (cW (i:=2) (by exact hS.nd) rfl (cS rfl)) (fV (i:=2) (k:=.par))   ?_;exact ao 0 (pv 0);refine bh ?_;refine fL (κ:=.old) (bX ⟨rfl,rfl⟩) rfl ?_ rfl (cW (i:=3) (by exact hS.nd) rfl (cS rfl)) (fV (i:=3) (k:=.par)) ?_;exact ao 0 (pv 0);refine b7 ?_ ?_;refine dJ (i:=4) (k:=.par) (κ:=.new) ?_ ?_;exact hS.nd;refine iW (aN:=.aZ) qh ?_;refine dX (kP hr.units) rfl T.lR kY ?_;refine aq (κ:=.aZ) (aN:=.new) ?_ ?_;refine iu ?_;refine aq (κ:=.new) (aN:=.new) ?_ ?_;refine iW (aN:=.aZ) J0 ?_;refine dX CW rfl T.Va Pr ?_;refine aq (κ:=.aZ) (aN:=.new) ?_ ?_;refine cF (aN:=.old) (d9:=.old) uQ qc ?_ ?_;refine cK (aN:=.old) (d9:=.new) ?_ ?_ (fun _ _=>rfl);exact ao 2 (pv 2);exact aF;refine cK (aN:=.old) (d9:=.new) ?_ ?_ (fun _ _=>rfl);exact ao 3 (pv 3);exact aF;exact aK (κ:=.aZ);refine aq (κ:=.new) (aN:=.new) ?_ ?_;refine iW (aN:=.aZ) J0 ?_;refine dX CW rfl T.Va Pr ?_;refine aq (κ:=.aZ) (aN:=.new) ?_ ?_;refine cF (aN:=.old) (d9:=.old) uQ qc ?_ ?_;refine cK (aN:=.old) (d9:=.new) ?_ ?_ (fun _ _=>rfl);exact ao 2 (pv 2);exact aF;refine cK (aN:=.old) (d9:=.new) ?_ ?_ (fun _ _=>rfl);exact ao 3 (pv 3);exact aF;exact aK (κ:=.aZ);exact aK (κ:=.new);exact aK (κ:=.aZ);refine bh ?_;refine jJ ?_   ?_   gR;refine PW.pt ?_;refine yC ?_ ?_;refine eS (aN:=.old) (d9:=.new) (v5 hr.units) kE ?_ ?_ (i9 _);exact ao 4 (pv 4);refine iu ?_;refine aq (κ:=.new) (aN:=.new) ?_ ?_;exact aF;refine aq (κ:=.new) (aN:=.new) ?_ ?_;exact aF;exact aK (κ:=.new);refine wL ?_;refine eS (aN:=.new) (d9:=.old) (rK hr.units) kF ?_ ?_ (by with_unfolding_all rfl);refine bx (κ:=.aZ) (kI T) hr (by decide) ?_ (aG bK);refine aq (κ:=.aZ) (aN:=.new) ?_ ?_;refine gz ?_;refine aq (κ:=.new) (aN:=.new) ?_ ?_;refine cN (κ:=.old) ?_;exact ao 2 (pv 2);refine aq (κ:=.new) (aN:=.new) ?_ ?_;refine cN (κ:=.old) ?_;exact ao 3 (pv 3);exact aK (κ:=.new);exact aK (κ:=.aZ);exact ao 0 (pv 0);refine bh ?_;refine yD (i:=1) (κ:=.new) (to:=oB 1) ?_ rfl;refine Ak rB uL uM jM (pv 1) ?_;refine gU ?_ jL;refine gz ?_;refine aq (κ:=.new) (aN:=.new) ?_ ?_;refine cN (κ:=.old) ?_;exact ao 2 (pv 2);refine aq (κ:=.new) (aN:=.new) ?_ ?_;refine cN (κ:=.old) ?_;exact ao 3 (pv 3);exact aK (κ:=.new);refine bh ?_;refine eT (κ:=.new) ?_;refine iW (aN:=.aZ) qh ?_;refine dX (kP hr.units) rfl T.lR kY ?_;refine aq (κ:=.aZ) (aN:=.oF) ?_ ?_;exact iD 1 (pv 1);exact aK (κ:=.aZ)
theorem Cq(T:Txt K mg t):FD P w K mg base (wA t) 3 "_law_open" ["cells","pegs"] 2 (jd t) (some true):=
 have hS:bY ["cells","pegs","found","one","two"] ["cells","pegs"] (aR vS):=wu;gW (Γ:=[.par,.par,.own true,.par,.par]) T.Em hS rfl (kU rfl) fun f dW hc A outer s H E hr=>
 by
 refine b7 ?_ ?_;refine dJ (i:=2) (k:=(.own true)) (κ:=.new) ?_ ?_;exact hS.nd;refine iu ?_;exact aK (κ:=.new);refine b7 ?_ ?_;refine fL (κ:=.new) (bX ⟨rfl,rfl⟩) rfl ?_ rfl (xV rfl (iT (cW (i:=3) (by exact hS.nd) rfl (cS rfl)) (iT (cW (i:=4) (by exact hS.nd) rfl (cS rfl)) sD))) (tF (i:=3) (j:=4) (k:=.par) (k':=.par)) ?_;refine bx (κ:=.aZ) (zW T) hr (by decide) ?_ (aG bK);refine aq (κ:=.aZ) (aN:=.old) ?_ ?_;exact ao 0 (pv 0);exact aK (κ:=.aZ);refine bh ?_;refine jJ ?_   ?_   gR;refine PW.pt ?_;refine yC ?_ ?_;refine eS (aN:=.old) (d9:=.old) (rK hr.units) kF ?_ ?_ (by with_unfolding_all rfl);exact ao 3 (pv 3);exact ao 1 (pv 1);refine yC ?_ ?_;refine eS (aN:=.new) (d9:=.old) (rK hr.units) kF ?_ ?_ (by with_unfolding_all rfl);refine bx (κ:=.aZ) (kI T) hr (by decide) ?_ (aG bK);refine aq (κ:=.aZ) (aN:=.new) ?_ ?_;refine gz ?_;refine aq (κ:=.new) (aN:=.new) ?_ ?_;refine cN (κ:=.old) ?_;exact ao 3 (pv 3);refine aq (κ:=.new) (aN:=.new) ?_ ?_;refine cN (κ:=.old) ?_;exact ao 4 (pv 4);exact aK (κ:=.new);exact aK (κ:=.aZ);exact ao 1 (pv 1);refine wL ?_;refine eS (aN:=.old) (d9:=.old) (nh hr.units) kF ?_ ?_ (by with_unfolding_all rfl);exact ao 4 (pv 4);exact ao 1 (pv 1);refine bh ?_;refine yD (i:=2) (κ:=.new) (to:=oB 2) ?_ rfl;refine Ak rB uL uM jM (pv 2) ?_;refine gU ?_ jL;refine gz ?_;refine aq (κ:=.new) (aN:=.new) ?_ ?_;refine cN (κ:=.old) ?_;exact ao 3 (pv 3);refine aq (κ:=.new) (aN:=.new) ?_ ?_;refine cN (κ:=.old) ?_;exact ao 4 (pv 4);exact aK (κ:=.new);refine bh ?_;refine eT (κ:=.oF) ?_;exact iD 2 (pv 2)
theorem yY(T:Txt K mg t):FD P w K mg base (wA t) 2 "_law_behind" ["pegs","leap"] 2 (gO t) (some true):=
 have hS:bY ["pegs","leap","left"] ["pegs","leap"] (aR qM):=wu;gW (Γ:=[.par,.par,.par]) T.zR hS rfl (kU rfl) fun f dW hc A outer s H E hr=>
 by
 refine b7 ?_ ?_;refine E6 (i:=2) (k:=.par) (n:=true) (z:=true) (gM:=["one"]) (caps:=[(1,"leap")]) ?_ ?_ (IZ.mk (tM:=.new) (n:=true) (z:=true) (gM:=["one"]) (caps:=[(1,"leap")]) rfl rfl (by decide +kernel) ?_ ?_ (by with_unfolding_all rfl) (by decide +kernel) ?_ (fun _ p hp=>by simp only[bW,fQ,aN4]at hp;rcases hp with rfl <;> first|exact cS rfl|exact gQ rfl) (fV (i:=0) (k:=.par)) (fun fp s0 H0 L=>cW (i:=0) (by exact(show nN (["one","leap"]:List Str)from by decide +kernel)) rfl (cS rfl) (gQ rfl)) (fun fp s0 H0 L=>qg ?_) (fun fp s0 H0 L=>?_) (fun _=>rfl) (fun h=>nomatch h));exact hS.nd;refine tN (κ:=.old) ?_ (fun _=>rfl);exact ao 0 (pv 0);exact pO (by intro p hp;simp only[bW,fQ,aN4] at hp;rcases hp with rfl <;> rfl);exact mq (by rfl);exact⟨⟨rfl,rfl,rfl,rfl⟩,trivial⟩;refine PW.pt ?_;refine yC ?_ ?_;refine eS (aN:=.old) (d9:=.old) (v7 hr.units) kE ?_ ?_ (i9 _);exact ao 0 (pv 0);refine cK (aN:=.old) (d9:=.new) ?_ ?_ (fun _ _=>rfl);exact ao 1 (pv 1);exact aF;refine wL ?_;refine eS (aN:=.old) (d9:=.new) (v7 hr.units) kE ?_ ?_ (i9 _);exact ao 0 (pv 0);refine bx (κ:=.aZ) (kI T) hr (by decide) ?_ (aG bK);refine aq (κ:=.aZ) (aN:=.old) ?_ ?_;exact ao 1 (pv 1);exact aK (κ:=.aZ);refine cN (κ:=.old) ?_;exact ao 0 (pv 0);refine bh ?_;refine eT (κ:=.new) ?_;refine iW (aN:=.aZ) qh ?_;refine dX (kP hr.units) rfl T.lR kY ?_;refine aq (κ:=.aZ) (aN:=.new) ?_ ?_;refine cF (aN:=.old) (d9:=.new) wM wN ?_ ?_;exact ao 2 (pv 2);refine iu ?_;refine aq (κ:=.new) (aN:=.new) ?_ ?_;refine cN (κ:=.old) ?_;refine cK (aN:=.old) (d9:=.new) ?_ ?_ (fun _ _=>rfl);exact ao 1 (pv 1);exact aF;exact aK (κ:=.new);exact aK (κ:=.aZ)
theorem zZ(T:Txt K mg t):FD P w K mg base (wA t) 4 "_law_reach" ["cells","pegs"] 2 (iH t) (some true):=
 have hS:bY ["cells","pegs","found","at","leap","behind"] ["cells","pegs"] (aR u0):=wu;gW (Γ:=[.par,.par,.own true,.par,.par,.loc]) T.Cn hS rfl (kU rfl) fun f dW hc A outer s H E hr=>
 by
 refine b7 ?_ ?_;refine dJ (i:=2) (k:=(.own true)) (κ:=.new) ?_ ?_;exact hS.nd;refine iu ?_;refine aq (κ:=.new) (aN:=.new) ?_ ?_;refine iW (aN:=.aZ) pJ ?_;refine ja jw rfl T.rQ u7 ?_;refine aq (κ:=.aZ) (aN:=.old) ?_ ?_;exact ao 1 (pv 1);exact aK (κ:=.aZ);exact aK (κ:=.new);refine b7 ?_ ?_;refine dJ (i:=3) (k:=.par) (κ:=.new) ?_ ?_;exact hS.nd;exact aF;refine b7 ?_ ?_;refine Eb 5000 (bX ⟨rfl,rfl⟩) ?_ ?_;refine eS (aN:=.old) (d9:=.new) Ux OO ?_ ?_ (i9 _);exact ao 3 (pv 3);refine iW (aN:=.aZ) qd ?_;refine dX iC rfl T.vU rT ?_;refine aq (κ:=.aZ) (aN:=.oF) ?_ ?_;exact iD 2 (pv 2);exact aK (κ:=.aZ);refine b7 ?_ ?_;refine fL (κ:=.new) (bX ⟨rfl,rfl⟩) rfl ?_ rfl (cW (i:=4) (by exact hS.nd) rfl (cS rfl)) (fV (i:=4) (k:=.par)) ?_;refine bx (κ:=.aZ) (Cq T) hr (by decide) ?_ (aG (aG bK));refine aq (κ:=.aZ) (aN:=.old) ?_ ?_;exact ao 0 (pv 0);refine aq (κ:=.aZ) (aN:=.aZ) ?_ ?_;refine Pq (aN:=.oF) (d9:=.old) ?_ ?_ (fun _ _=>rfl);exact iD 2 (pv 2);exact ao 3 (pv 3);exact aK (κ:=.aZ);refine b7 ?_ ?_;refine dJ (i:=5) (k:=.loc) (κ:=.new) ?_ ?_;exact hS.nd;refine bx (κ:=.aZ) (yY T) hr (by decide) ?_ (aG (aG bK));refine aq (κ:=.aZ) (aN:=.aZ) ?_ ?_;refine Pq (aN:=.oF) (d9:=.old) ?_ ?_ (fun _ _=>rfl);exact iD 2 (pv 2);exact ao 3 (pv 3);refine aq (κ:=.aZ) (aN:=.old) ?_ ?_;exact ao 4 (pv 4);exact aK (κ:=.aZ);refine bh ?_;refine jJ ?_   ?_   gR;refine eS (aN:=.loc) (d9:=.oF) (nh hr.units) kF ?_ ?_ (by with_unfolding_all rfl);exact tR 5 (pv 5);exact iD 2 (pv 2);refine bh ?_;refine yD (i:=2) (κ:=.loc) (to:=oB 2) ?_ rfl;refine Ak rB uL uM jM (pv 2) ?_;refine gU ?_ jL;exact tR 5 (pv 5);refine bh ?_;refine dJ (i:=3) (k:=.par) (κ:=.new) ?_ ?_;exact hS.nd;refine cF (aN:=.old) (d9:=.new) i8 fJ ?_ ?_;exact ao 3 (pv 3);exact aF;refine bh ?_;refine eT (κ:=.oF) ?_;exact iD 2 (pv 2)
theorem Tn(T:Txt K mg t){fiB:ay}{fdB:gP}(mkB:Mk K t.mw fiB)(bB:Binds K fdB ["self","cells"] [])(To:jV P w K mg base (p9 P w) 3 fiB fdB ["self","cells"] (C7 K t.mw (V7 t.tab (vO dR) "in_order.<locals>.<lambda>") (cR t))):FD P w K mg base (wA t) 7 "law" ["script"] 1 (AO t) (some true):=
 have hS:bY ["script","cells","board","pegs","due","lap","handed","found"] ["script"] (aR V8):=wu;gW (Γ:=[.par,.par,.par,.par,.par,.par,.par,.ll]) T.V9 hS rfl (kU rfl) fun f dW hc A outer s H E hr=>
 by
 refine b7 ?_ ?_;refine dJ (i:=1) (k:=.par) (κ:=.new) ?_ ?_;exact hS.nd;refine bx (κ:=.aZ) (vm T) hr (by decide) ?_ (aG (aG bK));refine aq (κ:=.aZ) (aN:=.old) ?_ ?_;exact ao 0 (pv 0);refine aq (κ:=.aZ) (aN:=.old) ?_ ?_;refine cK (aN:=.new) (d9:=.new) ?_ ?_ (fun _ _=>rfl);refine iu ?_;refine aq (κ:=.new) (aN:=.new) ?_ ?_;exact aF;refine aq (κ:=.new) (aN:=.new) ?_ ?_;exact aF;refine aq (κ:=.new) (aN:=.new) ?_ ?_;exact aF;refine aq (κ:=.new) (aN:=.new) ?_ ?_;exact aF;exact aK (κ:=.new);refine cF (aN:=.new) (d9:=.new) mP jR ?_ ?_;refine bx (κ:=.aZ) (j0 T) hr (by decide) ?_ (aG (aG bK));refine aq (κ:=.aZ) (aN:=.old) ?_ ?_;exact ao 0 (pv 0);refine aq (κ:=.aZ) (aN:=.new) ?_ ?_;exact aF;exact aK (κ:=.aZ);exact aF;exact aK (κ:=.aZ);refine b7 ?_ ?_;refine dJ (i:=2) (k:=.par) (κ:=.new) ?_ ?_;exact hS.nd;refine Pn (κ:=.aZ) mkB To (hr.mono (by decide)) T.Tj bB ?_;refine aq (κ:=.aZ) (aN:=.new) ?_ ?_;refine iW (aN:=.aZ) pJ ?_;refine ja jw rfl T.rQ u7 ?_;refine aq (κ:=.aZ) (aN:=.old) ?_ ?_;exact ao 1 (pv 1);exact aK (κ:=.aZ);exact aK (κ:=.aZ);refine b7 ?_ ?_;refine dJ (i:=3) (k:=.par) (κ:=.new) ?_ ?_;exact hS.nd;refine bx (κ:=.aZ) (wB T) hr (by decide) ?_ (aG (aG bK));refine aq (κ:=.aZ) (aN:=.new) ?_ ?_;refine bx (κ:=.aZ) (j0 T) hr (by decide) ?_ (aG (aG bK));refine aq (κ:=.aZ) (aN:=.old) ?_ ?_;exact ao 0 (pv 0);refine aq (κ:=.aZ) (aN:=.new) ?_ ?_;exact aF;exact aK (κ:=.aZ);refine aq (κ:=.aZ) (aN:=.old) ?_ ?_;exact ao 1 (pv 1);exact aK (κ:=.aZ);refine b7 ?_ ?_;refine E6 (i:=4) (k:=.par) (n:=false) (z:=true) (gM:=["pair"]) (caps:=[]) ?_ ?_ (IZ.mk (tM:=.old) (n:=false) (z:=true) (gM:=["pair"]) (caps:=[]) rfl rfl (by decide +kernel) ?_ ?_ (by with_unfolding_all rfl) (by decide +kernel) ?_ (fun _ p hp=>by cases hp) (fV (i:=0) (k:=.par)) (fun fp s0 H0 L=>cW (i:=0) (by exact(show nN (["pair"]:List Str)from by decide +kernel)) rfl (cS rfl) (gQ rfl)) (fun fp s0 H0 L=>qf (ft:=dC (.bl true))) (fun fp s0 H0 L=>?_) (fun h=>nomatch h) (fun _=>rfl));exact hS.nd;refine tN (κ:=.old) ?_ (fun _=>rfl);refine PX ?_;refine dX (Cc hr.units) rfl T.lR kY ?_;refine aq (κ:=.old) (aN:=.vL) ?_ ?_;refine pP (n:=false) (z:=true) (gM:=["standing"]) (caps:=[]) ?_ (IZ.mk (tM:=.old) (n:=false) (z:=true) (gM:=["standing"]) (caps:=[]) rfl rfl (by decide +kernel) ?_ ?_ (by with_unfolding_all rfl) (by decide +kernel) ?_ (fun _ p hp=>by cases hp) (fV (i:=0) (k:=.par)) (fun fp s0 H0 L=>cW (i:=0) (by exact(show nN (["standing"]:List Str)from by decide +kernel)) rfl (cS rfl) (gQ rfl)) (fun fp s0 H0 L=>qf (ft:=dC (.bl true))) (fun fp s0 H0 L=>?_) (fun h=>nomatch h) (fun _=>rfl));refine tN (κ:=.new) ?_ (fun _=>rfl);refine bx (κ:=.aZ) (zZ T) hr (by decide) ?_ (aG (aG bK));refine aq (κ:=.aZ) (aN:=.old) ?_ ?_;exact ao 1 (pv 1);refine aq (κ:=.aZ) (aN:=.old) ?_ ?_;exact ao 3 (pv 3);exact aK (κ:=.aZ);exact pO (by intro p hp;cases hp);exact mq (by rfl);exact trivial;refine gz ?_;refine aq (κ:=.old) (aN:=.new) ?_ ?_;refine WY (aN:=.new) ?_;refine iW (aN:=.aZ) qd ?_;refine dX iC rfl T.vU rT ?_;refine aq (κ:=.aZ) (aN:=.old) ?_ ?_;exact ao 0 (pv 0);exact aK (κ:=.aZ);refine aq (κ:=.old) (aN:=.old) ?_ ?_;exact ao 0 (pv 0);exact aK (κ:=.old);exact aK (κ:=.old);exact pO (by intro p hp;cases hp);exact mq (by rfl);exact trivial;refine cK (aN:=.old) (d9:=.new) ?_ ?_ (fun _ _=>rfl);exact ao 0 (pv 0);exact aF;refine b7 ?_ ?_;refine tG (κ:=.aZ) (bX ⟨rfl,rfl⟩) rfl T.Jc ?_ (cW (i:=5) (by exact hS.nd) rfl (cS rfl)) (fV (i:=5) (k:=.par)) ?_;refine aq (κ:=.aZ) (aN:=.new) ?_ ?_;exact aF;exact aK (κ:=.aZ);refine b7 ?_ ?_;refine dJ (i:=6) (k:=.par) (κ:=.new) ?_ ?_;exact hS.nd;refine iW (aN:=.aZ) pJ ?_;refine ja jw rfl T.rQ u7 ?_;refine aq (κ:=.aZ) (aN:=.old) ?_ ?_;exact ao 3 (pv 3);exact aK (κ:=.aZ);refine b7 ?_ ?_;refine Tf (i:=7) ?_ ?_;exact hS.nd;refine AF (κ:=.aZ) (HM T) hr (by decide) ?_ (aG (aG bK));refine aq (κ:=.aZ) (aN:=.old) ?_ ?_;exact ao 2 (pv 2);refine aq (κ:=.aZ) (aN:=.old) ?_ ?_;exact ao 6 (pv 6);exact aK (κ:=.aZ);refine b7 ?_ ?_;refine jJ ?_   ?_   gR;refine PW.pt ?_;refine OQ ?_ ?_;refine vd ?_;refine Ax (κ:=.new) ?_;refine Po (aN:=.aZ) (T:="list") vV T.u5 T.rQ (by decide +kernel) ?_;exact tV (pv 7);refine Hh ?_;refine vd ?_;refine Ax (κ:=.new) ?_;refine iW (aN:=.aZ) SN ?_;refine dX (Pw hr.hd) rfl T.ao7 Xd ?_;refine aq (κ:=.aZ) (aN:=.new) ?_ ?_;refine pP (n:=true) (z:=false) (gM:=["one"]) (caps:=[]) ?_ (IZ.mk (tM:=.new) (n:=true) (z:=false) (gM:=["one"]) (caps:=[]) rfl rfl (by decide +kernel) ?_ ?_ (by with_unfolding_all rfl) (by decide +kernel) ?_ (fun h=>nomatch h) (fV (i:=0) (k:=.par)) (fun fp s0 H0 L=>cW (i:=0) (by exact(show nN (["one"]:List Str)from by decide +kernel)) rfl (cS rfl) (gQ rfl)) (fun fp s0 H0 L=>qf (ft:=dC (.bl true))) (fun fp s0 H0 L=>?_) (fun _=>rfl) (fun h=>nomatch h));refine tN (κ:=.aZ) (z:=false) ?_ (fun h=>nomatch h);exact tV (pv 7);exact pO (by intro p hp;cases hp);exact mq (by rfl);exact trivial;refine Po (aN:=.old) (T:="list") vV T.u5 T.rQ (by decide +kernel) ?_;exact ao 0 (pv 0);exact aK (κ:=.aZ);refine bh ?_;refine eT (κ:=.new) ?_;exact OL;refine b7 ?_ ?_;refine jJ ?_   ?_   gR;refine PW.pt ?_;refine OQ ?_ ?_;refine eS (aN:=.aZ) (d9:=.old) (v7 hr.units) kE ?_ ?_ (i9 _);exact tV (pv 7);exact ao 4 (pv 4);refine Hh ?_;refine eS (aN:=.old) (d9:=.old) (v7 hr.units) kE ?_ ?_ (i9 _);exact ao 6 (pv 6);exact ao 3 (pv 3);refine bh ?_;refine eT (κ:=.new) ?_;exact OL;refine b7 ?_ ?_;refine Tg (i:=7) (κ:=.new) ?_ rfl;refine Ak rB uL uM jM (UE Io (pv 7) ND (fun _ _=>rfl)) ?_;refine gU ?_ jL;refine gz ?_;refine aq (κ:=.new) (aN:=.new) ?_ ?_;exact aF;refine aq (κ:=.new) (aN:=.new) ?_ ?_;exact aF;exact aK (κ:=.new);refine b7 ?_ ?_;refine jJ ?_   ?_   gR;refine PW.pt ?_;refine OQ ?_ ?_;refine eS (aN:=.aZ) (d9:=.aZ) (v7 hr.units) kE ?_ ?_ (i9 _);refine Q7 (aN:=.aZ) ?_ ?_ tH;exact tV (pv 7);refine tK (κ:=.new) ?_;exact aF;refine Q7 (aN:=.old) ?_ ?_ tH;exact ao 4 (pv 4);refine tK (κ:=.new) ?_;exact aF;refine Hh ?_;refine eS (aN:=.old) (d9:=.old) (v7 hr.units) kE ?_ ?_ (i9 _);exact ao 6 (pv 6);exact ao 3 (pv 3);refine bh ?_;refine eT (κ:=.new) ?_;exact OL;refine bh ?_;exact Th (i:=7) (W0 rB PySem.F.slot_list_pop PySem.F.type_list_pop W7 (pv 7)) rfl;refine bh ?_;refine eT (κ:=.new) ?_;refine yx (aN:=.old) (d9:=.old) (v5 hr.units) kE ?_ ?_ (i9 _);refine pN (aN:=.old) T.Z8 T.Z9 ?_;exact ao 2 (pv 2);exact ao 1 (pv 1)
theorem Xw(T:Txt K mg t):FD P w K mg base (wA t) 7 "law" ["script"] 1 (AO t) (some true):=by
 obtain⟨fiB,fdB,FuB,mkB,bB⟩:=T.iB;exact Tn T mkB bB (Q8 T FuB)
def Er(K:Frag)(gl:GL):Sp:=fun vs H Q _=>∃(a:ay) (ns:List Int),vs=[.ref a]/\(lB K H a (ns.map V.int)/\gl.p H)/\ns.length<=63/\∀H',Q (.bl true) H'
theorem Xx(T:Txt K mg t)(Qa:∀ns:List Int,ns.length<=63->AO t [.lst (ns.map D.int)] = .ok (.bl true)):∃a fd,jV P w K mg base (p9 P w) 40 a fd ["script"] (Er K (V7 t.tab (vO dR) "in_order.<locals>.<lambda>"))/\mg "law"=some (.ref a)/\∃o,K.lookup a=some o/\o.data = .func fd:=by
 obtain⟨a,fd,h1,h2,_,_,h4⟩:=(Xw (P:=P) (w:=w) (base:=base) T).ex;refine⟨a,fd,(h1.mono (by decide)).imp fun vs H Q E kX=>?_,h2,h4⟩;obtain⟨p,ns,e,hs,hl,q⟩:=kX;subst e;refine⟨[.lst (ns.map D.int)],rfl,⟨.cons (by rw[Rep];exact⟨p,_,rfl,hs.1,aQ.ints ns⟩) .nil,hs.2⟩,?_⟩;rw[Qa ns hl];intro v H' _ r;have r':=r.1;rw[Rep]at r';subst r';exact q H'
end
theorem ao9{l:OpenLaw}{w:bQ}{K:Frag}{h:aY}{mg:Str->Option av}{fa T0:ay}(hfa:mg "law"=some (.ref fa))(T:∃t:jY,Txt K mg t/\t.tab=T0)(Qa:∀(t:jY) (ns:List Int),ns.length<=63->AO t [.lst (ns.map D.int)] = .ok (.bl true)) :
  ∃fd:gP,(∀(s:aA) (v:av),BindsTo s fd ⟨[v],[]⟩ [("script",v)])/\∀base:aY,K.In base->base.Ns dM mg->jV l.prog w K mg base (p9 l.prog w) 40 fa fd ["script"] (Er K (V7 T0 (vO dR) "in_order.<locals>.<lambda>")):=by
 obtain⟨t,T,rfl⟩:=T;obtain⟨a,fd,Fu,hm,hb⟩:=T.V9;obtain rfl:a=fa:=by rw[hm]at hfa;cases hfa;rfl
 refine⟨fd,fun s v=>?_,fun base hk hn=>?_⟩;obtain⟨oc,od,kV,doc,pm,an,dW,ct,EN,rfl,lk,Gh⟩:=Fu.ex;exact .of_eq rfl;obtain⟨a',fd',h1,h2,h3⟩:=Xx (P:=l.prog) (w:=w) (base:=base) T (Qa t);rw[hm]at h2;cases h2;obtain⟨o,l1,d1⟩:=h3;obtain⟨o',l2,d2⟩:=yN Fu;rw[l1]at l2;cases l2;rw[d1] at d2;cases d2;exact h1
theorem walk{l:OpenLaw}{q:dG}{loose:List Str}{XP:(Str->Option av)->aY->Prop}{d:DefRec}{K K1:fY->Frag}{T0:ay}(hn:l.most=some 63)(W8:d.params.defaults=[])(hT:∀P,(K P).lookup T0=some (tabObj #[]))(eK:∀P,Q6 T0 (K P)=K1 P)(hc:∀P,∃c,vj (K1 P) c T0=true)
  (F:∀(w:bQ) (mg:Str->Option av) (fa:ay) (h:aY),(K1 w.params).In h->h.Ns dM mg->mg d.name=some (.ref fa)->
   ∃fd:gP,(∀(s:aA) (u:av),BindsTo s fd ⟨[u],[]⟩ [("script",u)])/\∀base:aY,(K1 w.params).In base->base.Ns dM mg->jV l.prog w (K1 w.params) mg base (p9 l.prog w) 40 fa fd ["script"] (Er (K1 w.params) (V7 T0 (vO dR) "in_order.<locals>.<lambda>"))) :
  WalkO q loose XP (fun w h=>(K w.params).In h) l.row.toRowW d [] (fun f vs=>PySem.call f vs):=
 L2.Q4 (n:=63) (k:=40) (x:="script") (K:=K1) (CX:=fun w=>p9 l.prog w) (sp:=fun w=>Er (K1 w.params) (V7 T0 (vO dR) "in_order.<locals>.<lambda>")) hn (by decide) W8 ⟨rfl,by decide,by decide⟩ (fun w h X=>⟨eK _▸Xr X,X _ _ (hT w.params)⟩) (fun w=>⟨eK _▸tU _,hc w.params⟩) F (fun _ _ a ns hl hT hS=>⟨a,ns,rfl,⟨hS,hT⟩,hl,fun _=>rfl⟩) fun w H s e s' qq=>qq.elim fun _ uT=>uT.elim fun _ EO=>EO.elim fun _ GB=>GB.elim fun _ Ir=>Ir.elim fun _ Gi=>Gi.elim fun _ Ih=>Ih.elim fun _ Ii=>Ii.elim fun _ Bv=>Bv.elim fun _ GC=>GC.elim fun _ GD=>GD.elim fun _ GF=>GF.elim fun _ O3=>O3.elim fun z _=>z
theorem ap0{l:OpenLaw}{q:dG}{loose:List Str}{XP:(Str->Option av)->aY->Prop}{d:DefRec}{K K1:fY->Frag}{T0:ay}{as:List ay}(hn:l.most=some 63)(W8:d.params.defaults=[])(e:∀P,as=(K P).map (·.1))(hT:∀P,(K P).lookup T0=some (tabObj #[]))(eK:∀P,Q6 T0 (K P)=K1 P)(hc:∀P,∃c,vj (K1 P) c T0=true)
  (F:∀(w:bQ) (mg:Str->Option av) (fa:ay) (h:aY),(K1 w.params).In h->h.Ns dM mg->mg d.name=some (.ref fa)->
   ∃fd:gP,(∀(s:aA) (u:av),BindsTo s fd ⟨[u],[]⟩ [("script",u)])/\∀base:aY,(K1 w.params).In base->base.Ns dM mg->jV l.prog w (K1 w.params) mg base (p9 l.prog w) 40 fa fd ["script"] (Er (K1 w.params) (V7 T0 (vO dR) "in_order.<locals>.<lambda>"))) :
  WalkX q loose XP (fun s:aA=>as.map s.heap.get?) (fun w=>(K w.params).map fun p=>some p.2) l.row.toRowW d [] (fun f vs=>PySem.call f vs):=
 fun w jr lC mg mb G y a o pm cd doc dV kV h1 h2 h3 h4 h5 h6 args vals as' L h7 h8 h9 K5 DG=>walk hn W8 hT eK hc F w jr lC mg mb G (InK.keeps w jr.heap lC.heap (InK.of e w jr y) L.keeps) a o pm cd doc dV kV h1 h2 h3 h4 h5 h6 args vals as' h7 h8 h9 K5 DG
end Pk
end ao6
section ap1
namespace Dm
open L2 HT
section
@[simp] theorem as9 (a:α) (f:α->R β):R.bind (.ok a) f=f a:=rfl
@[simp] theorem ap2 (f:α->R β):R.bind (.bad:R α) f = .bad:=rfl
@[simp] theorem at0 (c:PySem.Addr) (p:Option Int) (f:α->R β):R.bind (.ex c p:R α) f = .ex c p:=rfl
@[simp] theorem aJ6 (st:ir):cA F G st=match F st with | .nx st'=>G st'|o=>o:=rfl
@[simp] theorem aH4 (st:ir):cZ st = .nx st:=rfl
@[simp] theorem aJ7 (st:ir):eE i f st=match f st with | .ok d=>.nx (st.set i (some d)) | .ex c p=>.ex c p st | .bad=>.bad:=rfl
@[simp] theorem aH5 (st:ir):DL f st=match f st with | .ok _=>.nx st | .ex c p=>.ex c p st | .bad=>.bad:=rfl
@[simp] theorem aJ8 (st:ir):gK f st=match f st with | .ok d=>.rt d | .ex c p=>.ex c p st | .bad=>.bad:=rfl
@[simp] theorem aJ9 (st:ir):Dm.f9 fc F G st=match fc st with | .ok (.bl true)=>F st | .ok (.bl false)=>G st | .ok _=>.bad | .ex c p=>.ex c p st | .bad=>.bad:=rfl
@[simp] theorem ap3 (st:ir):iZ c st = .ex c none st:=rfl
@[simp] theorem aK0 (st:ir):au i st=match st[i]? with|some (some d)=>.ok d|_=>.bad:=rfl
@[simp] theorem dC_ (st:ir):dC d st = .ok d:=rfl
@[simp] theorem aH6 (st:ir):bC f st=(f st).bind fun d=>if gJ d=true then .ok d else .bad:=rfl
@[simp] theorem aL7 {g:D->D->R D} (st:ir):bw g fa fb st=(fa st).bind fun a=>(fb st).bind fun b=>g a b:=rfl
@[simp] theorem aL8 {g:D->R D} (st:ir):oz g fa st=(fa st).bind g:=rfl
@[simp] theorem aK1 (st:ir):aH st = .ok []:=rfl
@[simp] theorem aH7 (st:ir):af f fs st=(f st).bind fun d=>(fs st).bind fun ds=>.ok (d::ds):=rfl
@[simp] theorem aH8 (i:Int) (ds:List D):qt (.tup (.int i::ds))=true:=rfl
@[simp] theorem aH9 (es ds:List D):qt (.tup (.tup es::ds))=true:=rfl
@[simp] theorem aI0 (es ds:List D):qt (.tup (.lst es::ds))=true:=rfl
@[simp] theorem aI1 (b:Bool) (ds:List D):qt (.tup (.bl b::ds))=true:=rfl
@[simp] theorem aK2 (st:ir):cY n fs st=(fs st).bind fun ds=>if ds.length<=n/\qt (.tup ds)=true then .ok (.tup ds)else .bad:=rfl
@[simp] theorem aK3 (st:ir):dw n fs st=(fs st).bind fun ds=>if ds.length<=n then .ok (.lst ds)else .bad:=rfl
@[simp] theorem aL9 {g:List D->R D} (st:ir):cQ g fs st=(fs st).bind g:=rfl
@[simp] theorem aK4 (st:ir):kR fa fb st=(fa st).bind fun a=>match a with | .bl true=>fb st | .bl false=>.ok (.bl false)|_=>.bad:=rfl
@[simp] theorem aM0 (st:ir):Ra fa fb st=(fa st).bind fun a=>match a with | .bl true=>.ok (.bl true) | .bl false=>fb st|_=>.bad:=rfl
@[simp] theorem aK5 (st:ir):rL fa st=(fa st).bind fun a=>match a with | .bl b=>.ok (.bl (!b))|_=>.bad:=rfl
@[simp] theorem at1 {g g':D->D->R D} (st:ir):nW g g' fa fb fc st=(fa st).bind fun a=>(fb st).bind fun b=>(g a b).bind fun z=>match z with
 | .bl true=>(fc st).bind fun c=>g' b c
 | .bl false=>.ok (.bl false)
 | _=>.bad:=rfl
@[simp] theorem aK6 (i j:Int):jX (.int i) (.int j) = .ok (.int (i+j)):=rfl
@[simp] theorem aK7 (i j:Int):n5 (.int i) (.int j) = .ok (.int (i-j)):=rfl
@[simp] theorem aI2 (i j:Int):gLt (.int i) (.int j) = .ok (.bl (decide (i<j))):=rfl
@[simp] theorem aM1 (i j:Int):V0 (.int i) (.int j) = .ok (.bl (decide (i<=j))):=rfl
@[simp] theorem aM2 (i j:Int):WS (.int i) (.int j) = .ok (.bl (decide (j<i))):=rfl
@[simp] theorem aK8 (i:Int):P6 (.int i) = .ok (.int (-i)):=rfl
@[simp] theorem Xy (ds:List D):pI [.lst ds] = .ok (.int ds.length):=rfl
@[simp] theorem aI3 (ds:List D):pI [.tup ds] = .ok (.int ds.length):=rfl
@[simp] theorem at3 (i:Int):gJ (.int i)=true:=by rw[gJ] <;> simp
@[simp] theorem aI4 (i:Bool):gJ (.bl i)=true:=by rw[gJ] <;> simp
@[simp] theorem Je {gi:DI} {bind:DB} (st:ir):iw gi bind F st=match gi st with | .ok ds=>fK bind F ds st | .ex c p=>.ex c p st | .bad=>.bad:=rfl
@[simp] theorem ap4 (st:ir):gu f st=match f st with | .ok (.lst ds)=>.ok ds | .ok _=>.bad | .ex c p=>.ex c p | .bad=>.bad:=rfl
theorem qN{j:Int}(h:0<j):jG (.int i) (.int j) = .ok (.int (i % j)):=by
 show(if decide (0<j)=true then _ else _)=_;rw[aM4 (aM6 h)]
theorem Es{j:Int}(h:0<j)(h2:j<1073741824):pH (.int i) (.int j) = .ok (.int (i / j)):=by
 show(if(decide (0<j)&&decide (j<1073741824))=true then _ else _)=_;rw[aM4 (by rw[aM6 h,aM6 h2];rfl)]
theorem yZ{i:Int}(h : -(2 ^ 64)<i/\i<2 ^ 64):tu (.int i) (.int j) = .ok (.int (i*j)):=by
 show(if(sm i || sm j)=true then _ else _)=_;rw[aM4];unfold sm;rw[aM6 h.1,aM6 h.2];rfl
end
abbrev Cell:=Int×Int
def cD(c:Cell):D:=.tup [.int c.1,.int c.2]
@[simp] theorem aI5 (c:Cell) (ds:List D):qt (.tup (cD c::ds))=true:=rfl
abbrev aX(l:List Cell):D:=.lst (l.map cD)
def row(c:Cell):List Int:=[c.1,c.2]
theorem Tp(h:row a=row b):a=b:=by
 obtain ⟨a1,a2⟩:=a;obtain ⟨b1,b2⟩:=b;simp[row]at h;simp[h]
@[simp] theorem Qc (c:Cell):gJ (cD c)=true:=by unfold cD;simp[gJ,dS]
@[simp] theorem Cr (l:List Cell):dS (l.map cD)=true:=gy fun d hd=>by obtain⟨c,_,rfl⟩:=aO.mp hd;exact Qc c
@[simp] theorem Tq (c:Cell):flat (cD c)=true:=by unfold cD;simp[flat,cC]
@[simp] theorem z4 (l:List Cell):cC (l.map cD)=true:=ie fun d hd=>by obtain⟨c,_,rfl⟩:=aO.mp hd;exact Tq c
@[simp] theorem Qd (c:Cell):dep (cD c)=1:=by unfold cD;simp[dep,kN]
theorem qk(l:List Cell):kN (l.map cD)<=1:=sN fun d hd=>by obtain⟨c,_,rfl⟩:=aO.mp hd;rw[Qd];exact bg _
@[simp] theorem HN (a b:Cell):j7 (cD a) (cD b)=decide (a=b):=by
 obtain ⟨a1,a2⟩:=a;obtain ⟨b1,b2⟩:=b;unfold cD;simp only[j7,fm,uJ];by_cases h:a1=b1 <;> by_cases h':a2=b2 <;> simp[h,h']
@[simp] theorem Tr:∀(a b:List Cell),fm (a.map cD) (b.map cD)=decide (a=b)
 | [],[]=>by simp[fm]
 | [],_::_=>by simp[fm]
 | _::_,[]=>by simp[fm]
 | x::a,y::b=>by
  rw[bG,bG,fm,HN,Tr a b];by_cases h:x=y <;> by_cases h':a=b <;> simp[h,h']
theorem Cs(neg:Bool)(a b:List Cell):nE neg (aX a) (aX b) = .ok (.bl (if neg then !decide (a=b)else decide (a=b))):=by
 unfold nE;have h:=qk a;rw[aM4];simp[j7];simp[flat,dep];lia
theorem nY(neg:Bool)(i j:Int):nE neg (.int i) (.int j) = .ok (.bl (if neg then !decide (i=j)else decide (i=j))):=by
 unfold nE;rw[aM4 (by simp[flat,dep])];have e:j7 (.int i) (.int j)=decide (i=j):=by rw[j7];by_cases h:i=j;simp[h];rw[aM7 h];exact aN1.mpr h
 rw[e]
theorem gE(neg:Bool)(c:Cell)(l:List Cell):mX neg (cD c) (aX l) = .ok (.bl (if neg then !decide (c∈l)else decide (c∈l))):=by
 unfold mX;have h:=qk l;dsimp only;rw[aM4 (by simp;lia)];have e:(l.map cD).any (fun e=>j7 e (cD c))=decide (c∈l):=by
  induction l with
  | nil=>rfl
  | cons x l ih=>rw[bG,xx,HN,ih (qk l)];by_cases hx:x=c;simp[hx];have:¬ c=x:=fun z=>hx z.symm;simp[hx,this]
 rw[e]
theorem Tt(c:Cell):Kf (cD c)=some (row c):=rfl
theorem Et:∀l:List Cell,Az (l.map cD)=some (l.map row)
 | []=>rfl
 | c::l=>by
  have ih:=Et l;unfold Az at ih ⊢;rw[bG,FI,Tt,ih];rfl
theorem Tu:∀l:List Cell,nt (l.map row)=true
 | []=>rfl
 | c::l=>by
  unfold nt;rw[bG];simp[row]
def vW(a b:Cell):Prop:=a.1<b.1\/(a.1=b.1/\a.2<b.2)
instance (a b:Cell):Decidable (vW a b):=inferInstanceAs (Decidable (_\/_))
def cj(l:List Cell):Prop:=l.Pairwise vW
theorem ap5(a b:Cell):lexLt (row a) (row b)=decide (vW a b):=by
 obtain ⟨a1,a2⟩:=a;obtain ⟨b1,b2⟩:=b;unfold row vW;rw[dQ];by_cases h2:a1=b1;subst h2;rw[aM4 rfl,dQ];by_cases h3:a2=b2;subst h3;rw[aM4 rfl];simp[sU];rw[aM5 h3];simp;rw[aM5 h2];simp[h2]
theorem z5(c:Cell):fl (cD c)=row c:=by unfold cD row;simp[fl,jF]
theorem Qe(a b:Cell):qC (fl (cD a)) (fl (cD b)) = !decide (vW b a):=by rw[z5,z5];unfold qC;rw[ap5]
theorem Jf(a b:Cell):vW a b\/a=b\/vW b a:=by
 obtain ⟨a1,a2⟩:=a;obtain ⟨b1,b2⟩:=b;unfold vW;by_cases h1:a1<b1;exact .inl (.inl h1);by_cases h2:b1<a1;exact .inr (.inr (.inl h2));have:a1=b1:=by lia
 subst this;by_cases h3:a2<b2;exact .inl (.inr ⟨rfl,h3⟩);by_cases h4:b2<a2;exact .inr (.inr (.inr ⟨rfl,h4⟩));have:a2=b2:=by lia
 subst this;exact .inr (.inl rfl)
theorem nZ(a:Cell):¬ vW a a:=by unfold vW;lia
theorem AQ(h:vW a b)(h':vW b c):vW a c:=by unfold vW at *;lia
theorem ua(h:vW a b):¬ vW b a:=fun h'=>nZ a (AQ h h')
theorem cj.nodup(h:cj l):l.Nodup:=h.imp fun {a b} sO e=>by subst e;exact nZ _ sO
def toC:D->Cell
 | .tup [.int a,.int b]=>(a,b)
 | _=>(0,0)
theorem toC_cD(c:Cell):toC (cD c)=c:=rfl
theorem Vb[DecidableEq α]:∀{l:List α},l.Nodup->dd l=l
 | [],_=>rfl
 | x::l,h=>by
  rw[l7]at h;rw[dd,aM5 h.1,Vb h.2]
theorem L7{l:List Cell}(h:l.Nodup):(l.map row).Nodup:=by
 rw[qY]at h ⊢;exact rz row (fun a b sO e=>sO (Tp e)) h
theorem Tv(h:cj l):eO (l.map cD)=l.map cD:=by
 symm;refine jB (fun a ha b hb=>?_) (.refl _) ?_;refine aU (aO.mp ha) fun x _ b8=>?_;obtain rfl:=b8;refine aU (aO.mp hb) fun y _ b8=>?_;obtain rfl:=b8;unfold cD;simp[gZ,gk];refine rz cD (fun a b sO=>?_) h;rw[Qe,aM7 (ua sO)];rfl
theorem Tw(l:List Cell):(l.map row).map qv=l.map cD:=by rw[eZ];rfl
theorem HP(l:List Cell)(hl:l.length<=50):∃m:List Cell,lQ (aX l) = .ok (aX m)/\(l=m↔cj l):=by
 let ys:=eO ((dd (l.map row)).map qv);have hp:ys.Perm ((dd (l.map row)).map qv):=bZ _;have hy:∀y∈ys,∃c∈l,y=cD c:=fun y h=>by refine aU (aO.mp (hp.mem_iff.mp h)) fun r hr b8=>?_;obtain rfl:=b8;refine aU (aO.mp (vf.mp hr)) fun c hc b8=>?_;obtain rfl:=b8;exact⟨c,hc,rfl⟩
 have hm:ys=(ys.map toC).map cD:=by
  rw[eZ];conv=>lhs;rw[<- Be ys]
  refine uF fun y h=>?_;refine aU (hy y h) fun c _ b8=>?_;obtain rfl:=b8;rfl
 refine⟨ys.map toC,?_,?_⟩;unfold lQ;dsimp only;rw[Et];dsimp only;rw[aM4 (by rw[Tu,Bl,br];exact aM6 hl)];show R.ok (D.lst ys)=_;exact congrArg (fun z=>R.ok (D.lst z)) hm;constructor;intro e;have PJ:ys=l.map cD:=by rw[hm,<- e]
 have hnd:ys.Nodup:=by
  refine hp.nodup_iff.mpr ?_;have:=tL (l.map row);rw[qY]at this ⊢;refine rz qv (fun a b sO e=>sO ?_) this;unfold qv at e;have e':a.map D.int=b.map D.int:=by injection e
  exact List.map_inj_right (fun x y h=>by injection h) |>.mp e'
 have hpw:=jW ((dd (l.map row)).map qv);change List.Pairwise _ ys at hpw;rw[PJ]at hnd hpw;rw[qY]at hnd;rw[Bc]at hnd hpw;refine(hnd.and hpw).imp fun {a b} kX=>?_;obtain ⟨h1,h2⟩:=kX;rw[Qe]at h2;rcases Jf a b with h | h | h;exact h;subst h;exact aN6 rfl h1;rw[aM6 h]at h2;cases h2;intro h;have e1:dd (l.map row)=l.map row:=Vb (L7 h.nodup);have e2:ys=l.map cD:=by show eO _=_;rw[e1,Tw,Tv h]
 rw[e2,eZ];conv=>lhs;rw[<- Be l]
 exact uF fun c _=>(toC_cD c).symm
theorem bM(h:F st = .nx st'):cA F G st=G st':=by simp[h]
theorem XA(h:F st = .rt d):cA F G st = .rt d:=by simp[h]
theorem XC(h:F st = .ex c p s):cA F G st = .ex c p s:=by simp[h]
theorem jO(h:f st = .ok d):eE i f st = .nx (st.set i (some d)):=by simp[h]
theorem jP(h:f st = .ok d):gK f st = .rt d:=by simp[h]
theorem Tz(h:f st = .ok d):DL f st = .nx st:=by simp[h]
theorem HQ(h:fc st = .ok (.bl true)):Dm.f9 fc F G st=F st:=by simp[h]
theorem uc(h:fc st = .ok (.bl false)):Dm.f9 fc F G st=G st:=by simp[h]
theorem gF{ds:List D}(st:ir)(h:F st = .rt d)(e:ds.map some++mG (n-ds.length) none=st:=by rfl):cV n F ds = .ok d:=by
 subst e;unfold cV;rw[h]
theorem Qf{g:List D->R D}(h1:f1 st = .ok a)(h:g [a]=r):cQ g (af f1 aH) st=r:=by simp[h1,h]
theorem Rf{g:List D->R D}(h1:f1 st = .ok a)(h2:f2 st = .ok b)(h:g [a,b]=r):cQ g (af f1 (af f2 aH)) st=r:=by simp[h1,h2,h]
theorem lT{g:D->D->R D}(h1:f1 st = .ok a)(h2:f2 st = .ok b)(h:g a b=r):bw g f1 f2 st=r:=by simp[h1,h2,h]
theorem un1{g:D->R D}(h1:f1 st = .ok a)(h:g a=r):oz g f1 st=r:=by simp[h1,h]
theorem mV(h:f st = .ok (.bl true))(h2:g st=r):kR f g st=r:=by simp[h,h2]
theorem z6(h:f st = .ok (.bl false)):kR f g st = .ok (.bl false):=by simp[h]
theorem Qg(h:f st = .ok (.bl false))(h2:g st=r):Ra f g st=r:=by simp[h,h2]
theorem Vc(h:f st = .ok (.bl b)):rL f st = .ok (.bl (!b)):=by simp[h]
theorem nC{α:Type}{bind:DB}{ft fe:DF}{f:α->D}{p:α->Bool}{g:α->D}{S:α->ir}{P:ir->Prop}:∀(xs:List α) (hS:∀x∈xs,P (S x)) (hb:∀x∈xs,∀st,P st->bind (f x) st=some (S x)) (ht:∀x∈xs,ft (S x) = .ok (.bl (p x))) (he:∀x∈xs,p x=true->fe (S x) = .ok (g x)) (st:ir),P st->j8 bind ft fe (xs.map f) st = .ok ((xs.filter p).map g)
 | [],_,_,_,_,_,_=>rfl
 | x::xs,hS,hb,ht,he,st,h=>by
  have ih:=nC xs (fun y hy=>hS y (.tail _ hy)) (fun y hy=>hb y (.tail _ hy)) (fun y hy=>ht y (.tail _ hy)) (fun y hy=>he y (.tail _ hy)) (S x) (hS x (.head _));rw[bG,j8,hb x (.head _) st h];dsimp only;rw[ht x (.head _)];cases hp:p x with
  | true=>dsimp only;rw[he x (.head _) hp,MJ hp,bG,ih]
  | false=>dsimp only;rw[MK (by rw[hp];exact jo),ih]
theorem mz{gi:DI}{k:Nat}{fr:List Nat}{bind:DB}{ft fe:DF}{st:ir}{ds es:List D}(h1:gi st = .ok ds)(hl:ds.length<=5000)(h2:j8 bind ft fe ds (pM k fr st) = .ok es):gq gi k fr bind ft fe st = .ok (.lst es):=by
 unfold gq;rw[h1];dsimp only;rw[aM4 hl,h2]
theorem oh{α:Type}{bind:DB}{F:DS}{f:α->D}{Q:List α->ir->Prop}:∀(xs pre:List α) (st:ir),(∀p x r,pre++xs=p++x::r->∀st,Q p st->∃k8 mO,bind (f x) st=some k8/\F k8 = .nx mO/\Q (p++[x]) mO)->Q pre st->∃st',fK bind F (xs.map f) st = .nx st'/\Q (pre++xs) st'
 | [],pre,st,_,q=>⟨st,rfl,by simpa using q⟩
 | x::xs,pre,st,h,q=>by
  refine bA (h pre x xs rfl st q) fun k8 mO h1 h2 q2=>?_;refine aU (oh xs (pre++[x]) mO (fun p y r e=>h p y r (by simpa using e)) q2) fun st' h3 q3=>?_;refine⟨st',?_,by simpa using q3⟩;rw[bG,fK,h1];dsimp only;rw[h2];exact h3
def Stop(o:Out):Prop:=match o with | .rt _=>True | .ex _ _ _=>True|_=>False
theorem Jg{α:Type}{bind:DB}{F:DS}{f:α->D}{Q:ir->Prop}{p:α->Prop}{S:Out->Prop}(hS:∀o,S o->Stop o):∀(xs:List α) (st:ir),(∀x∈xs,∀st,Q st->∃k8,bind (f x) st=some k8/\(p x->∃mO,F k8 = .nx mO/\Q mO)/\(¬ p x->S (F k8)))->Q st->
  ((∀x∈xs,p x)->∃st',fK bind F (xs.map f) st = .nx st'/\Q st')/\(¬ (∀x∈xs,p x)->S (fK bind F (xs.map f) st))
 | [],st,_,q=>⟨fun _=>⟨st,rfl,q⟩,fun h=>aN6 (fun x hx=>by cases hx) h⟩
 | x::xs,st,h,q=>by
  refine cM (h x (.head _) st q) fun k8 h1 h2 h3=>?_;rw[bG,fK,h1];dsimp only;by_cases hp:p x;refine aU (h2 hp) fun mO e2 q2=>?_;obtain⟨i1,i2⟩:=Jg hS xs mO (fun y hy=>h y (.tail _ hy)) q2;rw[e2];dsimp only;refine⟨fun z=>i1 fun y hy=>z y (.tail _ hy),fun z=>i2 fun z'=>z fun y hy=>?_⟩;rcases bW.mp hy with rfl|hy;exact hp;exact z' y hy;have s:=h3 hp;refine⟨fun z=>aN6 (z x (.head _)) hp,fun _=>?_⟩;cases hf:F k8 with
  | rt d=>rw[hf]at s;exact s
  | ex c p st=>rw[hf]at s;exact s
  | _=>rw[hf]at s;exact aN6 (hS _ s) (by simp[Stop])
theorem TF(f:α->D)(l:List α):enD (l.map f)=l.zipIdx.map fun p=>.tup [.int (p.2:Nat),f p.1]:=by
 unfold enD;refine Ba fun i=>?_;rw[FJ,di,di,List.getElem?_zipIdx];cases l[i]? <;> simp
theorem Ct{ds:List D}{n:Nat}(h:ds[n]?=some d):fS (.lst ds) (.int n) = .ok d:=by
 have hl:=(eL.mp h).1;have e:BC ds (n:Int)=some d:=by unfold BC Lo;rw[aM4 (Int.natCast_nonneg n),aM4 (by lia)];simpa using h
 unfold fS;dsimp only;rw[e]
theorem z7(ds:List D)(m:Nat):cutD ds none (some (m:Int))=ds.take m:=by
 unfold cutD HT.Aj;simp only[List.drop_zero,Mc];rw[aM5 (by lia)];simp only[kB];by_cases h:m<=ds.length;rw[Fq h];rw[Mf (by lia),xr,uB (by lia)]
theorem Eu(ds:List D)(m:Nat):cutD ds (some (m:Int)) none=ds.drop m:=by
 unfold cutD HT.Aj;dsimp only;rw[aM5 (by lia)];simp only[kB];by_cases h:m<=ds.length;rw[Fq h,uB (by simp)];rw[Mf (by lia),B9,FL (by lia)];simp
theorem ap6{f g:DF}{a:Nat}(h1:f st = .ok (aX l))(h2:g st = .ok (.int (a:Int))):Lx f none (some g) st = .ok (aX (l.take a)):=by
 simp[Lx,mh,h1,h2,z7]
theorem TH{f g:DF}{a:Nat}(h1:f st = .ok (aX l))(h2:g st = .ok (.int (a:Int))):Lx f (some g) none st = .ok (aX (l.drop a)):=by
 simp[Lx,mh,h1,h2,Eu]
theorem HR{l m:List Cell}(h:l.length+m.length<=5000):qu (aX l) (aX m) = .ok (aX (l++m)):=by
 unfold qu;dsimp only;rw[aM4 (by simp;lia)];simp
theorem HS(a b:Cell):gZ (cD a) (cD b)=true:=by unfold cD;simp[gZ,gk]
theorem Qh(a:Cell):nl (cD a)=true:=by unfold cD;simp[nl,GP]
theorem Qi{l:List Cell}(h:l.length<64):qH (l.map cD)=true:=by
 unfold qH;simp only[bR,lg,aM9,f7,br];refine⟨⟨⟨⟨h,Cr l⟩,fun d hd=>?_⟩,fun a ha b hb=>?_⟩,.inl (.inr fun d hd=>?_)⟩;refine aU (aO.mp hd) fun c _ b8=>?_;obtain rfl:=b8;exact⟨Qh c,by rw[Qd];decide⟩;refine aU (aO.mp ha) fun c _ b8=>?_;obtain rfl:=b8;refine aU (aO.mp hb) fun c' _ b8=>?_;obtain rfl:=b8;exact HS c c';refine aU (aO.mp hd) fun c _ b8=>?_;obtain rfl:=b8;rfl
theorem vn{m:List Cell}(hp:m.Perm l)(hs:m.Pairwise (fun a b=>¬ vW b a))(hn:l.Nodup):cj m:=by
 have xT:m.Nodup:=hp.nodup_iff.mpr hn;rw[qY]at xT;refine(xT.and hs).imp fun {a b} kX=>?_;obtain ⟨h1,h2⟩:=kX;rcases Jf a b with h | h | h;exact h;exact aN6 h h1;exact aN6 h h2
theorem HU(hl:cj l)(hm:cj m)(h:∀c,c∈l↔c∈m):l=m:=by
 have hp:l.Perm m:=(Bd hl.nodup hm.nodup).mpr h;exact hp.eq_of_pairwise (fun a b _ _ h1 h2=>aN6 h2 (ua h1)) hl hm
@[simp] theorem TJ (l:List Cell):fj (.d8 0 (l.map cD)) = .ok (aX l):=by simp[fj]
@[simp] theorem ap7 (l:List Cell):m9 [aX l] = .ok (aX l):=by simp[m9]
abbrev cB:=Cell×Cell
def lD(p:cB):D:=.tup [cD p.1,cD p.2]
abbrev fW(l:List cB):D:=.lst (l.map lD)
def mid(a b:Cell):Cell:=((a.1+b.1) / 2,(a.2+b.2) / 2)
def four(c:Cell):List Cell:=[(c.1-2,c.2),(c.1,c.2-2),(c.1,c.2+2),(c.1+2,c.2)]
def ET(aa:List Cell)(a:Cell):List Cell:=(four a).filter fun b=>decide (b∈aa)&&decide (mid a b∈aa)
def b9(aa:List Cell):List cB:=aa.flatMap fun a=>(ET aa a).map fun b=>(a,b)
theorem rW:p∈b9 aa↔p.1∈aa/\p.2∈four p.1/\p.2∈aa/\mid p.1 p.2∈aa:=by
 unfold b9 ET;simp only[ML,aO,vz,bR,aM9];constructor;rintro⟨a,h1,b,⟨h2,h3,h4⟩,rfl⟩;exact⟨h1,h2,h3,h4⟩;rintro⟨h1,h2,h3,h4⟩;exact⟨p.1,h1,p.2,⟨h2,h3,h4⟩,rfl⟩
@[simp] theorem XF (p:cB):gJ (lD p)=true:=by unfold lD;simp[gJ,dS]
@[simp] theorem TL (l:List cB):dS (l.map lD)=true:=gy fun d hd=>by obtain⟨c,_,rfl⟩:=aO.mp hd;exact XF c
@[simp] theorem TM (p:cB):flat (lD p)=true:=by unfold lD;simp[flat,cC]
@[simp] theorem ap8 (l:List cB):cC (l.map lD)=true:=ie fun d hd=>by obtain⟨c,_,rfl⟩:=aO.mp hd;exact TM c
@[simp] theorem XG (p:cB):dep (lD p)=2:=by unfold lD;simp[dep,kN]
@[simp] theorem XH (a b:cB):j7 (lD a) (lD b)=decide (a=b):=by
 obtain ⟨a1,a2⟩:=a;obtain ⟨b1,b2⟩:=b;unfold lD;simp only[j7,fm,uJ,HN];by_cases h:a1=b1 <;> by_cases h':a2=b2 <;> simp[h,h']
@[simp] theorem TN:∀(a b:List cB),fm (a.map lD) (b.map lD)=decide (a=b)
 | [],[]=>by simp[fm]
 | [],_::_=>by simp[fm]
 | _::_,[]=>by simp[fm]
 | x::a,y::b=>by
  rw[bG,bG,fm,XH,TN a b];by_cases h:x=y <;> by_cases h':a=b <;> simp[h,h']
@[simp] theorem lx0 (p:cB):fS (lD p) (.int 0) = .ok (cD p.1):=rfl
@[simp] theorem lx1 (p:cB):fS (lD p) (.int 1) = .ok (cD p.2):=rfl
def Vd(p q:cB):Prop:=vW p.1 q.1\/(p.1=q.1/\vW p.2 q.2)
theorem Ve(p:cB):fl (lD p)=row p.1++row p.2:=by unfold lD;simp[fl,jF,z5]
theorem Qj(a b:Cell)(u v:List Int):lexLt (row a++u) (row b++v)=if a=b then lexLt u v else decide (vW a b):=by
 obtain ⟨a1,a2⟩:=a;obtain ⟨b1,b2⟩:=b;unfold row vW;simp only[Bb,gf];rw[dQ];by_cases h2:a1=b1;subst h2;rw[aM4 rfl,dQ];by_cases h3:a2=b2;subst h3;rw[aM4 rfl,aM4 rfl];rw[aM5 h3,aM5 (by simpa using h3)];simp;rw[aM5 h2,aM5 (by simp[h2])];simp[h2]
theorem ap9(p q:cB):qC (fl (lD p)) (fl (lD q))=true↔¬ Vd q p:=by
 rw[Ve,Ve];unfold qC Vd;rw[Qj];by_cases h:q.1=p.1;rw[aM4 h,ap5];have:=nZ p.1;rw[h];simp[this];rw[aM5 h];simp[h]
theorem Ew(h:Vd p q):¬ Vd q p:=by
 unfold Vd at *;rintro(h'|⟨e,h'⟩);rcases h with h|⟨e,h⟩;exact ua h h';rw[e]at h';exact nZ _ h';rcases h with h|⟨e',h⟩;rw[e]at h;exact nZ _ h;exact ua h h'
theorem Qk(a b:cB):gZ (lD a) (lD b)=true:=by unfold lD;simp[gZ,gk,HS]
theorem aq0(a:cB):nl (lD a)=true:=by unfold lD;simp[nl,GP,Qh]
theorem TQ{l:List cB}(h:l.Pairwise Vd):eO (l.map lD)=l.map lD:=by
 symm;refine jB (fun a ha b hb=>?_) (.refl _) ?_;refine aU (aO.mp ha) fun x _ b8=>?_;obtain rfl:=b8;refine aU (aO.mp hb) fun y _ b8=>?_;obtain rfl:=b8;exact Qk x y;refine rz lD (fun a b sO=>?_) h;rw[ap9];exact Ew sO
theorem Ql{l:List cB}(h:l.length<64):qH (l.map lD)=true:=by
 unfold qH;simp only[bR,lg,aM9,f7,br];refine⟨⟨⟨⟨h,TL l⟩,fun d hd=>?_⟩,fun a ha b hb=>?_⟩,.inr fun d hd=>?_⟩;refine aU (aO.mp hd) fun c _ b8=>?_;obtain rfl:=b8;exact⟨aq0 c,by rw[XG];decide⟩;refine aU (aO.mp ha) fun c _ b8=>?_;obtain rfl:=b8;refine aU (aO.mp hb) fun c' _ b8=>?_;obtain rfl:=b8;exact Qk c c';refine aU (aO.mp hd) fun c _ b8=>?_;obtain rfl:=b8;rfl
theorem Qm{l:List cB}(h:l.Pairwise Vd)(hl:l.length<64):gD [fW l] = .ok (fW l):=by
 unfold gD;dsimp only;rw[aM4 (Ql hl),TQ h]
theorem vX(a:Cell):cj (four a):=by
 unfold four cj vW;simp only[xA,bW,fQ,aN4,List.Pairwise.nil,and_true];refine⟨?_,?_,?_,?_⟩ <;> intro b hb
 ·rcases hb with rfl|rfl|rfl <;> first|(simp;done)|(simp;lia)
 ·rcases hb with rfl|rfl <;> first|(simp;done)|(simp;lia)
 ·obtain rfl:=hb;first|(simp;done)|(simp;lia)
 exact hb.elim
theorem Ey(up:cj aa):(b9 aa).Pairwise Vd:=by
 unfold b9;rw[List.pairwise_flatMap];refine⟨fun a _=>?_,up.imp fun {a b} sO x hx y hy=>?_⟩;refine rz (R:=vW) _ (fun x y h=>.inr ⟨rfl,h⟩) ?_;exact(vX a).sublist rf;refine aU (aO.mp hx) fun _ _ b8=>?_;obtain rfl:=b8;refine aU (aO.mp hy) fun _ _ b8=>?_;obtain rfl:=b8;exact .inl sO
theorem Ez(up:cj aa):(b9 aa).Nodup:=(Ey up).imp fun {a b} h e=>by subst e;exact Ew h h
theorem AR[DecidableEq α]:∀{l m:List α},l.Nodup->(∀x∈l,x∈m)->l.length<=m.length
 | [],_,_,_=>i7 _
 | x::l,m,hn,h=>by
  rw[l7]at hn;have hx:=h x (.head _);have ih:=AR (m:=m.erase x) hn.2 fun y hy=>(MM (fun e=>hn.1 (by rw[<- e];exact hy))).mpr (h y (.tail _ hy));have:=MN hx;have:=MO hx;rw[dg];lia
def z8(h w:Nat):List Cell:=(dU (h*w)).map fun k=>(((k / w:Nat):Int),((k % w:Nat):Int))
theorem Qn{h w:Nat}{c:Cell}(h1:0<=c.1)(h2:c.1<h)(h3:0<=c.2)(h4:c.2<w):c∈z8 h w:=by
 obtain⟨a,ha⟩:=G5 h1;obtain⟨b,hb⟩:=G5 h3;have mW:b<w:=by lia
 have Iz:a<h:=by lia
 have hw:0<w:=by lia
 have e1:(a*w+b) / w=a:=by rw[Mg,Nat.add_mul_div_right _ _ hw,M8 mW];lia
 have e2:(a*w+b) % w=b:=by rw[Mg,Nat.add_mul_mod_self_right,Nat.mod_eq_of_lt mW]
 refine aO.mpr ⟨a*w+b,l6.mpr ?_,?_⟩;calc a*w+b<a*w+w:=by lia
  _=(a+1)*w:=by rw[Mh]
  _<=h*w:=Nat.mul_le_mul_right w Iz
 show((((a*w+b) / w:Nat):Int),(((a*w+b) % w:Nat):Int))=c;rw[e1,e2];exact mK ha.symm hb.symm
def Box(l:List Cell)(h w:Nat):Prop:=∃dn ac:Int,∀c∈l,dn<=c.1/\c.1<dn+h/\ac<=c.2/\c.2<ac+w
theorem TR(a b:Cell)(x y:Int)(h:b∈four a):(b.1-x,b.2-y)∈four (a.1-x,a.2-y):=by
 unfold four at *;simp only[bW,fQ,aN4]at *;rcases h with rfl|rfl|rfl|rfl;exact .inl (mK (by simp only;lia) rfl);exact .inr (.inl (mK rfl (by simp only;lia)));exact .inr (.inr (.inl (mK rfl (by simp only;lia))));exact .inr (.inr (.inr (mK (by simp only;lia) rfl)))
theorem L8(up:cj l)(b:Box l h w):(b9 l).length<=(b9 (z8 h w)).length:=by
 refine rC b fun dn ac hb=>?_;clear b;have key:∀c∈l,(c.1-dn,c.2-ac)∈z8 h w:=fun c hc=>by refine Ga (hb c hc) fun h1 h2 h3 h4=>?_;exact Qn (by simp only;lia) (by simp only;lia) (by simp only;lia) (by simp only;lia)
 have:=AR (l:=(b9 l).map fun p=>(((p.1.1-dn,p.1.2-ac),(p.2.1-dn,p.2.2-ac)):cB)) (m:=b9 (z8 h w)) (by
  have hn:=Ez up;rw[qY]at hn ⊢;refine rz _ (fun p q hpq e=>hpq ?_) hn;simp only[xN] at e;refine xO e fun zo0 e3 e4=>?_;clear e;obtain⟨e1,e2⟩:=zo0;exact mK (mK (by lia) (by lia)) (mK (by lia) (by lia))) (fun p hp=>by
  refine aU (aO.mp hp) fun q hq b8=>?_;obtain rfl:=b8;refine Ga (rW.mp hq) fun h1 h2 h3 h4=>?_;refine rW.mpr ⟨key _ h1,TR _ _ _ _ h2,key _ h3,?_⟩;have e:mid (q.1.1-dn,q.1.2-ac) (q.2.1-dn,q.2.2-ac)=((mid q.1 q.2).1-dn,(mid q.1 q.2).2-ac):=by unfold mid;exact mK (by simp only;lia) (by simp only;lia)
  show mid (q.1.1-dn,q.1.2-ac) (q.2.1-dn,q.2.2-ac)∈z8 h w;rw[e];exact key _ h4)
 rwa [br]at this
def small(h w:Nat):Prop:=(h<=4/\w<=6)\/(h<=3/\w=8)\/(h=8/\w<=3)
theorem z9:(∀h,h<=4->∀w,w<=6->(b9 (z8 h w)).length<=56)/\(∀h,h<=3->(b9 (z8 h 8)).length<=56)/\(∀w,w<=3->(b9 (z8 8 w)).length<=56):=by
 refine⟨fun h hh w hw=>?_,fun h hh=>?_,fun w hw=>?_⟩;have a:∀h:Fin 5,∀w:Fin 7,(b9 (z8 h.1 w.1)).length<=56:=by decide +kernel
 exact a ⟨h,by lia⟩ ⟨w,by lia⟩;have a:∀h:Fin 4,(b9 (z8 h.1 8)).length<=56:=by decide +kernel
 exact a ⟨h,by lia⟩;have a:∀w:Fin 4,(b9 (z8 8 w.1)).length<=56:=by decide +kernel
 exact a ⟨w,by lia⟩
theorem La(up:cj l)(b:Box l h w)(s:small h w):(b9 l).length<=56:=by
 refine cI (L8 up b) ?_;rcases s with⟨h1,h2⟩|⟨h1,rfl⟩|⟨rfl,h2⟩;exact z9.1 h h1 w h2;exact z9.2.1 h h1;exact z9.2.2 w h2
theorem Qo(x y:Int):∃u v:Int,gD [.lst [.int x,.int y]] = .ok (.lst [.int u,.int v])/\((u=0/\v=2)↔(x=0/\y=2\/x=2/\y=0)):=by
 have hb:qH [.int x,.int y]=true:=by unfold qH;simp[dS,nl,dep,gZ,isI]
 have g:gD [.lst [.int x,.int y]] = .ok (.lst (eO [.int x,.int y])):=by unfold gD;dsimp only;rw[if_pos hb]
 have fi:∀i:Int,fl (.int i)=[i]:=fun i=>by simp[fl]
 have le:∀i j:Int,i<=j->qC (fl (.int i)) (fl (.int j))=true:=fun i j h=>by rw[fi,fi];unfold qC;rw[BW];simp;lia
 by_cases h:x<=y;refine⟨x,y,?_,by lia⟩;rw[g];congr 2;symm;refine jB (fun a ha b hb=>?_) (.refl _) ?_;simp only[bW,fQ,aN4] at ha hb;rcases ha with rfl | rfl <;> rcases hb with rfl | rfl <;> simp[gZ];simp only[xA,bW,fQ,aN4,List.Pairwise.nil,and_true];exact⟨fun b hb=>by subst hb;exact le _ _ h,fun b hb=>hb.elim⟩;refine⟨y,x,?_,by lia⟩;rw[g];congr 2;symm;refine jB (fun a ha b hb=>?_) (.swap _ _ _) ?_;simp only[bW,fQ,aN4] at ha hb;rcases ha with rfl | rfl <;> rcases hb with rfl | rfl <;> simp[gZ];simp only[xA,bW,fQ,aN4,List.Pairwise.nil,and_true];exact⟨fun b hb=>by subst hb;exact le _ _ (by lia),fun b hb=>hb.elim⟩
def Qp(i:Int):Int:=if i<0 then -i else i
def ap(a b:Cell):Bool:=(decide (Qp (a.1-b.1)=0)&&decide (Qp (a.2-b.2)=2)) || (decide (Qp (a.1-b.1)=2)&&decide (Qp (a.2-b.2)=0))
theorem aI6:Qp i=0↔i=0:=by unfold Qp;split <;> lia
theorem aI7:Qp i=2↔i=2\/i = -2:=by unfold Qp;split <;> lia
theorem TU(a b:Cell):ap a b=true↔b∈four a:=by
 unfold ap four;obtain ⟨a1,a2⟩:=a;obtain ⟨b1,b2⟩:=b;simp only[lg,bR,aM9,bW,fQ,aN4,xN,aI6,aI7];constructor;rintro(⟨h1,h2|h2⟩|⟨h1|h1,h2⟩);exact .inr (.inl (by lia));exact .inr (.inr (.inl (by lia)));exact .inl (by lia);exact .inr (.inr (.inr (by lia)));rintro(⟨h1,h2⟩|⟨h1,h2⟩|⟨h1,h2⟩|⟨h1,h2⟩);exact .inr ⟨.inl (by lia),by lia⟩;exact .inl ⟨by lia,.inl (by lia)⟩;exact .inl ⟨by lia,.inr (by lia)⟩;exact .inr ⟨.inr (by lia),by lia⟩
theorem TV(up:cj aa)(a:Cell):(aa.filter fun b=>ap a b&&decide (mid a b∈aa))=ET aa a:=by
 unfold ET;refine HU (up.sublist rf) ((vX a).sublist rf) fun b=>?_;simp only[vz,bR,aM9,TU];constructor;rintro ⟨h1,h2,h3⟩;exact⟨h2,h1,h3⟩;rintro ⟨h1,h2,h3⟩;exact⟨h2,h1,h3⟩
def pX(az:List Cell)(p:cB):Bool:=decide (p.1∈az)&&(!decide (p.2∈az)&&decide (mid p.1 p.2∈az))
def EU(aa az:List Cell):List cB:=(b9 aa).filter (pX az)
end Dm
end ap1
section XI
namespace Pk
open L2 Dm
variable (t:jY)
theorem EA{l:List Cell}(hl:l.length<=50):(cj l->fM t [aX l] = .ok (.bl true))/\(¬ cj l->fM t [aX l] = .ok (.bl false)):=by
 obtain⟨m,h1,h2⟩:=HP l hl;constructor;intro h;have e:=h2.mpr h;subst e;simp[fM,cV,h1,Cs];intro h;have:¬ l=m:=fun z=>h (h2.mp z);simp[fM,cV,h1,Cs,this]
def inR(c:Cell):Prop:=0<=c.1/\c.1<=7/\0<=c.2/\c.2<=7
instance (c:Cell):Decidable (inR c):=inferInstanceAs (Decidable (_/\_))
@[simp] theorem ix0 (c:Cell):fS (cD c) (.int 0) = .ok (.int c.1):=rfl
@[simp] theorem ix1 (c:Cell):fS (cD c) (.int 1) = .ok (.int c.2):=rfl
theorem XJ(c:Cell):nB t [cD c] = .ok (.bl (decide (inR c))):=by
 unfold inR;by_cases h1:0<=c.1 <;> by_cases h2:c.1<=7 <;> by_cases h3:0<=c.2 <;> by_cases h4:c.2<=7 <;> simp[nB,cV,h1,h2,h3,h4]
def Valid(l:List Cell):Prop:=(1<=l.length/\l.length<=24)/\cj l/\∀c∈l,inR c
theorem zb{F:DS}(hF:∀(x:D) (c:Cell),F [some x,some (cD c)]=if inR c then .nx [some x,some (cD c)]else .ex t.fT none [some x,some (cD c)])(x:D):∀(l:List Cell) (y:Option D),((∀c∈l,inR c)->∃y',fK (d7 1) F (l.map cD) [some x,y] = .nx [some x,y'])/\(¬ (∀c∈l,inR c)->∃s,fK (d7 1) F (l.map cD) [some x,y] = .ex t.fT none s)
 | [],y=>⟨fun _=>⟨y,rfl⟩,fun h=>aN6 (fun c hc=>by cases hc) h⟩
 | c::l,y=>by
  obtain⟨i1,i2⟩:=zb hF x l (some (cD c));have e:d7 1 (cD c) [some x,y]=some [some x,some (cD c)]:=rfl;by_cases hc:inR c;constructor;intro h;obtain⟨y',h'⟩:=i1 fun d hd=>h d (.tail _ hd);refine⟨y',?_⟩;rw[bG,fK,e];dsimp only;rw[hF,aM4 hc];exact h';intro h;obtain⟨s,h'⟩:=i2 fun z=>h fun d hd=>by rcases bW.mp hd with rfl|hd;exact hc;exact z d hd
  refine⟨s,?_⟩;rw[bG,fK,e];dsimp only;rw[hF,aM4 hc];exact h';constructor;intro h;exact aN6 (h c (.head _)) hc;intro h;refine⟨[some x,some (cD c)],?_⟩;rw[bG,fK,e];dsimp only;rw[hF,aM5 hc]
theorem TX{l:List Cell}(hl:l.length<=50):(Valid l->cR t [aX l] = .ok .dh)/\(¬ Valid l->cR t [aX l] = .ex t.fT none):=by
 have hF:∀(x:D) (c:Cell),Dm.f9 (rL (cQ (nB t) (af (au 1) aH))) (iZ t.fT) cZ [some x,some (cD c)]=if inR c then .nx [some x,some (cD c)]else .ex t.fT none [some x,some (cD c)]:=fun x c=>by by_cases h:inR c <;> simp[XJ,h]
 obtain⟨i1,i2⟩:=zb t hF (aX l) l none;obtain ⟨r1,r2⟩:=EA t hl;have c1:((l.map cD).length:Int)=l.length:=by simp
 by_cases h0:1<=l.length;by_cases h1:l.length<=24;by_cases h2:cj l;by_cases h3:∀c∈l,inR c;obtain⟨y,h4⟩:=i1 h3;refine⟨fun _=>?_,fun h=>aN6 ⟨⟨h0,h1⟩,h2,h3⟩ h⟩;have a1:(1:Int)<=l.length:=by lia
 have a2:(l.length:Int)<=24:=by lia
 simp[cR,cV,a1,a2,r1 h2,h4];obtain⟨y,h4⟩:=i2 h3;refine⟨fun h=>aN6 h.2.2 h3,fun _=>?_⟩;have a1:(1:Int)<=l.length:=by lia
 have a2:(l.length:Int)<=24:=by lia
 simp[cR,cV,a1,a2,r1 h2,h4];refine⟨fun h=>aN6 h.2.1 h2,fun _=>?_⟩;have a1:(1:Int)<=l.length:=by lia
 have a2:(l.length:Int)<=24:=by lia
 simp[cR,cV,a1,a2,r2 h2];refine⟨fun h=>aN6 h.1.2 h1,fun _=>?_⟩;have a1:(1:Int)<=l.length:=by lia
 have a2:¬ (l.length:Int)<=24:=by lia
 simp[cR,cV,a1,a2];refine⟨fun h=>aN6 h.1.1 h0,fun _=>?_⟩;have a1:¬ (1:Int)<=l.length:=by lia
 simp[cR,cV,a1]
def Qq(ns:List Int)(n:Nat):Int:=(ns[n]?).getD 0
abbrev iL(ns:List Int):D:=.lst (ns.map D.int)
theorem TY(ns:List Int)(n:Nat):bH t [iL ns,.int n] = .ok (.int (Qq ns n)):=by
 unfold Qq;by_cases h:n<ns.length;have e:fS (iL ns) (.int n) = .ok (.int ((ns[n]?).getD 0)):=Ct (by rw[di,dz h];simp);have h':(n:Int)<ns.length:=by lia
 simp[bH,cV,h',e];have h':¬ (n:Int)<ns.length:=by lia
 rw[uE (mE h)];simp[bH,cV,h']
abbrev TZ:List Int:=[48271,69621,16807,39373,30269,40014,40692,50021,61687,71993,83869,95561,30307]
theorem XM(k:Int):∃v:Int,0<=v/\v<=95561/\fS (.lst [.int 48271,.int 69621,.int 16807,.int 39373,.int 30269,.int 40014,.int 40692,.int 50021,.int 61687,.int 71993,.int 83869,.int 95561,.int 30307]) (.int (k % 13)) = .ok (.int v):=by
 obtain⟨n,hn,e⟩:∃n:Nat,n<TZ.length/\k % 13=n:=⟨(k % 13).toNat,by show _<13;lia,by lia⟩
 rw[e];have hL:∀x∈TZ,0<=x/\x<=95561:=by decide
 exact⟨TZ[n],(hL _ (uG hn)).1,(hL _ (uG hn)).2,Ct (ds:=TZ.map D.int) (by rw[di,dz hn];rfl)⟩
theorem vY(c k m:Int)(hm:0<m):∃r:Int,0<=r/\r<m/\bP t [.int c,.int k,.int m] = .ok (.int r):=by
 obtain⟨v,v0,v1,hv⟩:=XM k;have e1:jG (.int c) (.int 2147483647) = .ok (.int (c % 2147483647)):=qN (by decide);have e2:jG (.int k) (.int 13) = .ok (.int (k % 13)):=qN (by decide);have e3:pH (.int k) (.int 13) = .ok (.int (k / 13)):=Es (by decide) (by decide);have b0:0<=c % 2147483647+12345:=by lia
 have b1:c % 2147483647+12345<=2147495991:=by lia
 have b2:0<=(c % 2147483647+12345)*v:=Nu b0 v0;have b3:(c % 2147483647+12345)*v<=2147495991*95561:=Nv b1 v1 v0 (by decide);have e4:tu (.int (c % 2147483647+12345)) (.int v) = .ok (.int ((c % 2147483647+12345)*v)):=yZ (by constructor <;> lia);have e5:tu (.int 2) (.int (k / 13)) = .ok (.int (2*(k / 13))):=yZ (by decide);have e6:tu (.int ((c % 2147483647+12345)*v)) (.int (2*(k / 13)+1)) = .ok (.int ((c % 2147483647+12345)*v*(2*(k / 13)+1))):=yZ (by constructor <;> lia);have e7:tu (.int 977) (.int k) = .ok (.int (977*k)):=yZ (by decide);have e8:∀x:Int,jG (.int x) (.int 1000000007) = .ok (.int (x % 1000000007)):=fun x=>qN (by decide);have e9:∀x:Int,pH (.int x) (.int 7) = .ok (.int (x / 7)):=fun x=>Es (by decide) (by decide);have e10:∀x:Int,jG (.int x) (.int m) = .ok (.int (x % m)):=fun x=>qN hm;refine⟨(((c % 2147483647+12345)*v*(2*(k / 13)+1)+977*k) % 1000000007 / 7) % m,G6 _ (by lia),G7 _ hm,?_⟩;simp[bP,cV,e1,e2,e3,hv,e4,e5,e6,e7,e8,e9,e10]
def pk(c:Int)(k:Nat):Bool:=match bP t [.int c,.int k,.int 7]with | .ok (.int r)=>decide (0<r)|_=>false
def vo(dn ac w:Int)(k:Nat):Cell:=(dn+k / w,ac+k % w)
abbrev Jh:DS:=Dm.f9 (bw WS (cQ (bP t) (af (cQ (bH t) (af (au 0) (af (dC (.int 1)) aH))) (af (au 8) (af (dC (.int 7)) aH)))) (dC (.int 0)))
 (mR 7 (cY 100 (af (bw jX (au 5) (bw pH (au 8) (au 4))) (af (bw jX (au 6) (bw jG (au 8) (au 4))) aH))))
 cZ
theorem rX(ns:List Int)(most c h w dn ac:Int)(hw:0<w)(hw2:w<100):∀(ks:List Nat) (acc:List Cell) (y:Option D),acc.length+ks.length<=5000->
  ∃y',fK (d7 8) (Jh t) (ks.map fun i=>.int (i:Nat)) [some (iL ns),some (.int most),some (.int c),some (.int h),some (.int w),some (.int dn),some (.int ac),some (aX acc),y]=
   .nx [some (iL ns),some (.int most),some (.int c),some (.int h),some (.int w),some (.int dn),some (.int ac),some (aX (acc++(ks.filter (pk t (Qq ns 1))).map (vo dn ac w))),y']
 | [],acc,y,_=>⟨y,by simp[fK]⟩
 | k::ks,acc,y,hl=>by
  obtain⟨r,r0,r1,hr⟩:=vY t (Qq ns 1) k 7 (by decide);have Za:=TY t ns 1;have hp:pk t (Qq ns 1) k=decide (0<r):=by unfold pk;rw[hr]
  have e1:pH (.int (k:Int)) (.int w) = .ok (.int ((k:Int) / w)):=Es hw (by lia);have e2:jG (.int (k:Int)) (.int w) = .ok (.int ((k:Int) % w)):=qN hw;have hb:d7 8 (.int (k:Int)) [some (iL ns),some (.int most),some (.int c),some (.int h),some (.int w),some (.int dn),some (.int ac),some (aX acc),y]=some [some (iL ns),some (.int most),some (.int c),some (.int h),some (.int w),some (.int dn),some (.int ac),some (aX acc),some (.int (k:Int))]:=rfl;rw[dg]at hl;rw[bG,fK,hb];dsimp only;by_cases hc:0<r;have hF:Jh t [some (iL ns),some (.int most),some (.int c),some (.int h),some (.int w),some (.int dn),some (.int ac),some (aX acc),some (.int (k:Int))] = .nx [some (iL ns),some (.int most),some (.int c),some (.int h),some (.int w),some (.int dn),some (.int ac),some (aX (acc++[vo dn ac w k])),some (.int (k:Int))]:=by
   have Hr:acc.length<=5000:=by lia
   have XN:bH t [iL ns,.int 1] = .ok (.int (Qq ns 1)):=Za;have OZ:bP t [.int (Qq ns 1),.int (k:Int),.int 7] = .ok (.int r):=hr;simp[XN,OZ,hc,mR,e1,e2,vo,cD,Hr]
  rw[hF];dsimp only;obtain⟨y',ih⟩:=rX ns most c h w dn ac hw hw2 ks (acc++[vo dn ac w k]) (some (.int (k:Int))) (by simp;lia);refine⟨y',ih.trans ?_⟩;rw[MJ (by rw[hp];exact aM6 hc),bG,fP];rfl;have hF:Jh t [some (iL ns),some (.int most),some (.int c),some (.int h),some (.int w),some (.int dn),some (.int ac),some (aX acc),some (.int (k:Int))] = .nx [some (iL ns),some (.int most),some (.int c),some (.int h),some (.int w),some (.int dn),some (.int ac),some (aX acc),some (.int (k:Int))]:=by have XN:bH t [iL ns,.int 1] = .ok (.int (Qq ns 1)):=Za;have OZ:bP t [.int (Qq ns 1),.int (k:Int),.int 7] = .ok (.int r):=hr;simp[XN,OZ,hc]
  rw[hF];dsimp only;obtain⟨y',ih⟩:=rX ns most c h w dn ac hw hw2 ks acc (some (.int (k:Int))) (by lia);refine⟨y',ih.trans ?_⟩;rw[MK (by rw[hp,aM7 hc];decide)]
theorem U0{dn ac w:Int}(hw:0<w){j k:Nat}(h:j<k):vW (vo dn ac w j) (vo dn ac w k):=by
 unfold vW vo;dsimp only;have h1:(j:Int) / w<=(k:Int) / w:=Int.ediv_le_ediv hw (by lia);rcases Int.lt_or_eq_of_le h1 with h2|h2;exact .inl (by lia);refine .inr ⟨by lia,?_⟩;have e1:=Nx (j:Int) w;have e2:=Nx (k:Int) w;rw[h2]at e1;lia
theorem U1{dn ac w h:Int}(hw:0<w)(hh:0<h)(d0:0<=dn)(d1:dn<=8-h)(a0:0<=ac)(a1:ac<=8-w){k:Nat}(hk:(k:Int)<h*w):inR (vo dn ac w k):=by
 unfold inR vo;dsimp only;have h1:0<=(k:Int) / w:=Ny (by lia) (by lia);have h2:(k:Int) / w<h:=Nz hw hk;have h3:0<=(k:Int) % w:=G6 _ (by lia);have h4:(k:Int) % w<w:=G7 _ hw;lia
theorem Cu{dn ac w:Int}(hw:0<w)(p:Nat->Bool)(n:Nat):cj (((dU n).filter p).map (vo dn ac w)):=by
 unfold cj;refine rz (R:=fun a b=>a<b) (vo dn ac w) (fun a b h=>U0 hw h) ?_;exact Vo rf Mz
structure Drawn(l:List Cell)(most:Nat):Prop where
 pos:1<=l.length
 le:l.length<=most
 up:cj l
 inr:∀c∈l,inR c
 box:∃h w,Box l h w/\small h w
theorem U3(ns:List Int)(most:Nat)(hm:1<=most):∃l,fC t [iL ns,.int most] = .ok (aX l)/\Drawn l most:=by
 obtain⟨c,Za⟩:∃c:Int,bH t [iL ns,.int 0] = .ok (.int c):=⟨_,TY t ns 0⟩
 obtain⟨r1,p1,q1,h1⟩:=vY t c 1 4 (by decide);obtain⟨r2,p2,q2,h2⟩:=vY t c 2 6 (by decide);have e4:jG (.int c) (.int 4) = .ok (.int (c % 4)):=qN (by decide);obtain⟨h,w,a1,a2,b1,b2,hw,sm,e3⟩:∃h w:Int,1<=h/\h<=8/\1<=w/\w<=8/\h*w<=64/\((h<=4/\w<=6)\/(h<=3/\w=8)\/(h=8/\w<=3))/\Dm.f9 (bw (nE false) (bw jG (au 2) (dC (.int 4))) (dC (.int 1)))
   (AA (kL 3 4) (bC (bw fS (dw 100 (af (cY 100 (af (bw jX (dC (.int 1)) (bw jG (au 3) (dC (.int 3)))) (af (dC (.int 8)) aH))) (af (cY 100 (af (dC (.int 8)) (af (bw jX (dC (.int 1)) (bw jG (au 4) (dC (.int 3)))) aH))) aH))) (bw jG (bw pH (au 2) (dC (.int 4))) (dC (.int 2))))))
   cZ [some (iL ns),some (.int most),some (.int c),some (.int (1+r1)),some (.int (1+r2)),none,none,none,none] = .nx [some (iL ns),some (.int most),some (.int c),some (.int h),some (.int w),none,none,none,none]:=by
  by_cases hc:c % 4=1
  ·have m1:jG (.int (1+r1)) (.int 3) = .ok (.int ((1+r1) % 3)):=qN (by decide)
   have m2:jG (.int (1+r2)) (.int 3) = .ok (.int ((1+r2) % 3)):=qN (by decide)
   have m3:pH (.int c) (.int 4) = .ok (.int (c / 4)):=Es (by decide) (by decide)
   have m4:jG (.int (c / 4)) (.int 2) = .ok (.int (c / 4 % 2)):=qN (by decide)
   have hz:c / 4 % 2=0\/c / 4 % 2=1:=by lia
   rcases hz with hz|hz
   ·refine⟨1+(1+r1) % 3,8,by lia,by lia,by lia,by lia,by lia,by lia,?_⟩
    have ix:fS (.lst [.tup [.int (1+(1+r1) % 3),.int 8],.tup [.int 8,.int (1+(1+r2) % 3)]]) (.int 0) = .ok (.tup [.int (1+(1+r1) % 3),.int 8]):=rfl
    simp[e4,nY,hc,m1,m2,m3,m4,hz,ix,AA,gJ,dS,kL]
   ·refine⟨8,1+(1+r2) % 3,by lia,by lia,by lia,by lia,by lia,by lia,?_⟩
    have ix:fS (.lst [.tup [.int (1+(1+r1) % 3),.int 8],.tup [.int 8,.int (1+(1+r2) % 3)]]) (.int 1) = .ok (.tup [.int 8,.int (1+(1+r2) % 3)]):=rfl
    simp[e4,nY,hc,m1,m2,m3,m4,hz,ix,AA,gJ,dS,kL]
  ·have hb:(1+r1)*(1+r2)<=4*6:=Nv (by lia) (by lia) (by lia) (by lia)
   refine⟨1+r1,1+r2,by lia,by lia,by lia,by lia,by lia,by lia,?_⟩
   simp[e4,nY,hc]
 obtain⟨dn,d0,d1,hd⟩:=vY t c 3 (9-h) (by lia);obtain⟨ac,s0,s1,hs⟩:=vY t c 4 (9-w) (by lia);have em:tu (.int h) (.int w) = .ok (.int (h*w)):=yZ (by constructor <;> lia);have hn0:0<=h*w:=Nu (by lia) (by lia);obtain⟨y',hl⟩:=rX t ns most c h w dn ac (by lia) (by lia) (dU (h*w).toNat) [] none (by simp;lia);rw[gf]at hl;have up:=Cu (dn:=dn) (ac:=ac) (w:=w) (by lia) (pk t (Qq ns 1)) (h*w).toNat
 have Zi:yE (af (bw tu (au 3) (au 4)) aH) [some (iL ns),some (.int most),some (.int c),some (.int h),some (.int w),some (.int dn),some (.int ac),some (.lst []),none] = .ok ((dU (h*w).toNat).map fun i=>.int (i:Nat)):=by unfold yE;simp[em];lia
 obtain⟨L,hLd⟩:∃L,L=((dU (h*w).toNat).filter (pk t (Qq ns 1))).map (vo dn ac w):=⟨_,rfl⟩
 rw[<- hLd]at hl up;have V5:∀x∈L,inR x:=fun x hx=>by rw[hLd] at hx;obtain ⟨k,hk,rfl⟩:=aO.mp hx;have:=l6.mp (vz.mp hk).1;exact U1 (h:=h) (by lia) (by lia) d0 (by lia) s0 (by lia) (by lia)
 have hbx:∀x∈L,dn<=x.1/\x.1<dn+(h.toNat:Int)/\ac<=x.2/\x.2<ac+(w.toNat:Int):=fun x hx=>by rw[hLd] at hx;obtain ⟨k,hk,rfl⟩:=aO.mp hx;have hk':=l6.mp (vz.mp hk).1;have q1:0<=(k:Int) / w:=Ny (by lia) (by lia);have q2:(k:Int) / w<h:=Nz (by lia) (by lia);have q3:0<=(k:Int) % w:=G6 _ (by lia);have q4:(k:Int) % w<w:=G7 _ (by lia);unfold vo;dsimp only;lia
 have sm':small h.toNat w.toNat:=by unfold small;lia
 have f1:eE 2 (cQ (bH t) (af (au 0) (af (dC (.int 0)) aH))) [some (iL ns),some (.int most),none,none,none,none,none,none,none] = .nx [some (iL ns),some (.int most),some (.int c),none,none,none,none,none,none]:=by simp[Za]
 have f2:DT 3 4 (af (bw jX (dC (.int 1)) (cQ (bP t) (af (au 2) (af (dC (.int 1)) (af (dC (.int 4)) aH))))) (af (bw jX (dC (.int 1)) (cQ (bP t) (af (au 2) (af (dC (.int 2)) (af (dC (.int 6)) aH))))) aH)) [some (iL ns),some (.int most),some (.int c),none,none,none,none,none,none] = .nx [some (iL ns),some (.int most),some (.int c),some (.int (1+r1)),some (.int (1+r2)),none,none,none,none]:=by simp[DT,h1,h2]
 have f4:DT 5 6 (af (cQ (bP t) (af (au 2) (af (dC (.int 3)) (af (bw n5 (dC (.int 9)) (au 3)) aH)))) (af (cQ (bP t) (af (au 2) (af (dC (.int 4)) (af (bw n5 (dC (.int 9)) (au 4)) aH)))) aH)) [some (iL ns),some (.int most),some (.int c),some (.int h),some (.int w),none,none,none,none] = .nx [some (iL ns),some (.int most),some (.int c),some (.int h),some (.int w),some (.int dn),some (.int ac),none,none]:=by simp[DT,hd,hs]
 have f5:eE 7 (dw 100 aH) [some (iL ns),some (.int most),some (.int c),some (.int h),some (.int w),some (.int dn),some (.int ac),none,none] = .nx [some (iL ns),some (.int most),some (.int c),some (.int h),some (.int w),some (.int dn),some (.int ac),some (.lst []),none]:=by simp
 have f6:iw (yE (af (bw tu (au 3) (au 4)) aH)) (d7 8) (Jh t) [some (iL ns),some (.int most),some (.int c),some (.int h),some (.int w),some (.int dn),some (.int ac),some (.lst []),none] = .nx [some (iL ns),some (.int most),some (.int c),some (.int h),some (.int w),some (.int dn),some (.int ac),some (aX L),y']:=by rw[Je,Zi];exact hl
 have fin:∀l:List Cell,Drawn l most->(cA (Dm.f9 (bw (nE false) (cQ pI (af (au 7) aH)) (dC (.int 0)))
   (eE 7 (dw 100 (af (cY 100 (af (bC (au 5)) (af (bC (au 6)) aH))) aH)))
   cZ)
   (gK (Lx (au 7) none (some (au 1))))) [some (iL ns),some (.int most),some (.int c),some (.int h),some (.int w),some (.int dn),some (.int ac),some (aX L),y'] = .rt (aX l)->∃l,fC t [iL ns,.int most] = .ok (aX l)/\Drawn l most:=fun l dl e=>by
  refine⟨l,?_,dl⟩
  have e0:fC t [iL ns,.int most]=match(.rt (aX l):Out)with | .rt d=>.ok d | .nx _=>.ok .dh | .ex c p _=>.ex c p|_=>.bad:=by
   unfold fC cV
   show(match(cA _ _ [some (iL ns),some (.int most),none,none,none,none,none,none,none])with | .rt d=>R.ok d | .nx _=>.ok .dh | .ex c p _=>.ex c p|_=>.bad)=_
   rw[bM f1,bM f2,bM e3,bM f4,bM f5,bM f6,e]
  rw[e0]
 by_cases hL:L=[]
 refine fin [(dn,ac)] ⟨by simp,by simpa using hm,by simp[cj],fun x hx=>?_,?_⟩ ?_;obtain rfl:x=(dn,ac):=by simpa using hx
 unfold inR;dsimp only;lia;refine⟨h.toNat,w.toNat,⟨dn,ac,fun x hx=>?_⟩,sm'⟩;obtain rfl:x=(dn,ac):=by simpa using hx
 dsimp only;lia;subst hL;have g1:Dm.f9 (bw (nE false) (cQ pI (af (au 7) aH)) (dC (.int 0)))
  (eE 7 (dw 100 (af (cY 100 (af (bC (au 5)) (af (bC (au 6)) aH))) aH)))
  cZ [some (iL ns),some (.int most),some (.int c),some (.int h),some (.int w),some (.int dn),some (.int ac),some (aX []),y'] = .nx [some (iL ns),some (.int most),some (.int c),some (.int h),some (.int w),some (.int dn),some (.int ac),some (aX [(dn,ac)]),y']:=by simp[nY,cD]
 rw[bM g1];have:(([(dn,ac)]:List Cell).map cD).take most=([(dn,ac)]:List Cell).map cD:=uB (by simpa using hm);simp[Lx,mh,z7,this];simp[cD,gJ,dS];exact this;refine fin (L.take most) ⟨?_,by simp;lia,up.sublist (Ml _ _),fun x hx=>V5 x (oQ hx),⟨h.toNat,w.toNat,⟨dn,ac,fun x hx=>hbx x (oQ hx)⟩,sm'⟩⟩ ?_;cases hc:L with
 | nil=>exact aN6 hc hL
 | cons x r=>simp;lia
 have hL0:¬ (L.length:Int)=0:=by intro z;exact hL (oR.mp (by lia))
 have g1:Dm.f9 (bw (nE false) (cQ pI (af (au 7) aH)) (dC (.int 0)))
  (eE 7 (dw 100 (af (cY 100 (af (bC (au 5)) (af (bC (au 6)) aH))) aH)))
  cZ [some (iL ns),some (.int most),some (.int c),some (.int h),some (.int w),some (.int dn),some (.int ac),some (aX L),y'] = .nx [some (iL ns),some (.int most),some (.int c),some (.int h),some (.int w),some (.int dn),some (.int ac),some (aX L),y']:=by simp[nY,hL]
 rw[bM g1];simp[Lx,mh,z7]
end Pk
end XI
section XO
namespace Pk
open L2 Dm
variable (t:jY)
def U4(c m:Int)(k:Nat):Bool:=match bP t [.int c,.int k,.int m]with | .ok (.int r)=>decide (0<r)|_=>false
theorem XQ(c:Int){l:List Cell}(h1:1<=l.length)(h2:l.length<=500):∃p,iA t [.int c,aX l] = .ok (aX p)/\p.Sublist l:=by
 obtain⟨r,r0,r1,hr⟩:=vY t c 40 4 (by decide);have f1:eE 2 (cQ (bP t) (af (au 0) (af (dC (.int 40)) (af (dC (.int 4)) aH)))) [some (.int c),some (aX l),none,none] = .nx [some (.int c),some (aX l),some (.int r),none]:=by simp[hr]
 by_cases hz:r=0;subst hz;obtain⟨g,g0,g1,hg⟩:=vY t c 41 l.length (by lia);obtain⟨n,rfl⟩:=G5 g0;have hn:n<l.length:=by lia
 refine⟨l.take n++l.drop (n+1),?_,by rw[<- MC];exact List.eraseIdx_sublist l n⟩;unfold iA;refine gF [some (.int c),some (aX l),none,none] ?_;rw[bM f1];refine XA ?_;rw[HQ (by simp[nY])];have f2:eE 3 (cQ (bP t) (af (au 0) (af (dC (.int 41)) (af (cQ pI (af (au 1) aH)) aH)))) [some (.int c),some (aX l),some (.int 0),none] = .nx [some (.int c),some (aX l),some (.int 0),some (.int (n:Int))]:=by simp[hg]
 rw[bM f2];refine jP (lT (a:=aX (l.take n)) (b:=aX (l.drop (n+1))) (ap6 rfl rfl) (TH rfl rfl) (HR ?_));simp;lia;obtain⟨m,hm,hix⟩:∃m:Int,0<m/\fS (.lst [.int 0,.int 2,.int 3,.int 4]) (.int r) = .ok (.int m):=by
  have:r=1\/r=2\/r=3:=by lia
  rcases this with rfl|rfl|rfl;exact⟨2,by decide,rfl⟩;exact⟨3,by decide,rfl⟩;exact⟨4,by decide,rfl⟩
 refine⟨(l.zipIdx.filter fun x=>U4 t c m x.2).map (·.1),?_,?_⟩;unfold iA;refine gF [some (.int c),some (aX l),none,none] ?_;rw[bM f1,bM (st':=[some (.int c),some (aX l),some (.int r),none]) (by rw[uc (by simp[nY,hz])];rfl)];refine jP ?_;show _=R.ok (D.lst (List.map cD (List.map _ _)));rw[eZ];refine mz (ds:=l.zipIdx.map fun p=>.tup [.int (p.2:Nat),cD p.1]) ?_ (by simp;lia) ?_;simp[SI,TF];refine nC (S:=fun x=>[some (.int (x.2:Nat)),some (cD x.1),some (.int c),some (.int r)]) (P:=fun st=>∃y z,st=[y,z,some (.int c),some (.int r)]) l.zipIdx (fun x _=>⟨_,_,rfl⟩) (fun x _ st ⟨y,z,e⟩=>by subst e;rfl) (fun x _=>?_) (fun x _ _=>by simp) _ ⟨none,none,rfl⟩;obtain⟨v,v0,v1,hv⟩:=vY t c x.2 m hm;have e:U4 t c m x.2=decide (0<v):=by unfold U4;rw[hv]
 simp[hix,hv,e];have:=(rf (p:=fun x:Cell×Nat=>U4 t c m x.2) (l:=l.zipIdx)).map Prod.fst;rwa [List.zipIdx_map_fst]at this
def fU(aa az:List Cell):Prop:=cj az/\∀c∈az,c∈aa
theorem Qs{aa az:List Cell}(hl:az.length<=50):(fU aa az->iE t [.d8 0 (aa.map cD),aX az] = .ok .dh)/\(¬ fU aa az->iE t [.d8 0 (aa.map cD),aX az] = .ex t.fB none):=by
 obtain ⟨r1,r2⟩:=EA t hl;have loop:=Jg (bind:=d7 2) (F:=Dm.f9 (bw (mX true) (au 2) (oz fj (au 0))) (iZ t.fB) cZ) (f:=cD) (Q:=fun st=>∃y,st=[some (.d8 0 (aa.map cD)),some (aX az),y]) (p:=fun c=>c∈aa) (S:=fun o=>∃s,o = .ex t.fB none s) (fun o ⟨s,e⟩=>by subst e;trivial) az [some (.d8 0 (aa.map cD)),some (aX az),none] (fun c _ st ⟨y,e⟩=>by
  subst e;refine⟨[some (.d8 0 (aa.map cD)),some (aX az),some (cD c)],rfl,fun h=>⟨_,?_,some (cD c),rfl⟩,fun h=>⟨[some (.d8 0 (aa.map cD)),some (aX az),some (cD c)],?_⟩⟩;rw[uc (by simp[gE,h])];rfl;rw[HQ (by simp[gE,h])];rfl) ⟨none,rfl⟩
 have key:∀o:Out,(cA (Dm.f9 (rL (cQ (fM t) (af (au 1) aH))) (iZ t.fB) cZ) (iw (gu (au 1)) (d7 2) (Dm.f9 (bw (mX true) (au 2) (oz fj (au 0))) (iZ t.fB) cZ))) [some (.d8 0 (aa.map cD)),some (aX az),none]=o->iE t [.d8 0 (aa.map cD),aX az]=match o with | .rt d=>.ok d | .nx _=>.ok .dh | .ex c p _=>.ex c p|_=>.bad:=fun o h=>by unfold iE cV;subst h;rfl
 by_cases hr:cj az;have s1:Dm.f9 (rL (cQ (fM t) (af (au 1) aH))) (iZ t.fB) cZ [some (.d8 0 (aa.map cD)),some (aX az),none] = .nx [some (.d8 0 (aa.map cD)),some (aX az),none]:=by simp[r1 hr]
 rw[bM s1]at key;refine⟨fun h=>?_,fun h=>?_⟩;obtain⟨st',h1,_⟩:=loop.1 h.2;exact key (.nx st') (by simp[h1]);obtain⟨s,h1⟩:=loop.2 fun z=>h ⟨hr,z⟩;exact key (.ex t.fB none s) (by simp[h1]);refine⟨fun h=>aN6 h.1 hr,fun _=>key (.ex t.fB none [some (.d8 0 (aa.map cD)),some (aX az),none]) (XC ?_)⟩;simp[r2 hr]
theorem fU.sub{aa az:List Cell}(h:cj aa)(hs:az.Sublist aa):fU aa az:=⟨h.sublist hs,fun c hc=>hs.subset hc⟩
theorem U5{l:List Cell}(d:Drawn l 24):rN (cR t) [aX l] = .ok (.d8 0 (l.map cD)):=by
 have h:=(TX t (l:=l) (by have:=d.le;lia)).1 ⟨⟨d.pos,d.le⟩,d.up,d.inr⟩;simp[rN,h]
theorem Drawn.mono{l:List Cell}{m n:Nat}(d:Drawn l m)(h:m<=n):Drawn l n:=⟨d.pos,cI d.le h,d.up,d.inr,d.box⟩
end Pk
end XO
section XR
namespace Pk
open L2 Dm
abbrev bB(aa:List Cell):D:=.d8 0 (aa.map cD)
variable (t:jY)
@[simp] theorem aM3 (x:Int):pH (.int x) (.int 2) = .ok (.int (x / 2)):=Es (by decide) (by decide)
theorem wU(f:Cell->List cB)(k:Nat):∀l:List Cell,(∀a∈l,(f a).length<=k)->(l.flatMap f).length<=l.length*k
 | [],_=>by simp
 | a::l,h=>by
  rw[r8,cG,dg,Mh];have:=wU f k l fun x hx=>h x (.tail _ hx);have:=h a (.head _);lia
theorem Qt{bind:DB}{F:DS}{S:List cB->Option D->ir}{a:Cell}{p:Cell->Bool}(xs:List Cell)(acc:List cB)(y:Option D)(hl:acc.length+xs.length<=5000)
  (hb:∀acc y b,bind (cD b) (S acc y)=some (S acc (some (cD b)))) (hF:∀acc b,b∈xs->acc.length<=5000->∃y,F (S acc (some (cD b))) = .nx (S (acc++if p b=true then [(a,b)]else []) y)) :
  ∃y',fK bind F (xs.map cD) (S acc y) = .nx (S (acc++(xs.filter p).map fun b=>(a,b)) y'):=by
 obtain⟨st',h1,y',h2,_⟩:=oh (bind:=bind) (F:=F) (f:=cD) (Q:=fun pre st=>∃y,st=S (acc++(pre.filter p).map fun b=>(a,b)) y/\pre.length<=xs.length) xs [] (S acc y) (fun q x r e st ⟨y,hy,hq⟩=>by
  subst hy;rw[gf] at e;have hlen:q.length+1<=xs.length:=by rw[e];simp
  have hf:(q.filter p).length<=q.length:=oS ..;obtain⟨y2,h2⟩:=hF (acc++(q.filter p).map fun b=>(a,b)) x (by rw[e];simp) (by simp;lia);refine⟨_,_,hb _ _ _,h2,y2,?_,by simpa using hlen⟩;rw[FN,iN,<- fP];cases hp:p x <;> simp[hp]) ⟨y,by simp,by simp⟩
 exact⟨y',by rw[h1,h2,gf]⟩
theorem HV(p:cB):bV t [lD p] = .ok (cD (mid p.1 p.2)):=by
 simp[bV,cV,mid,cD,lD,fS,BC,Lo]
theorem aq1(i:Int):vh [.int i] = .ok (.int (Qp i)):=rfl
theorem Qu{aa:List Cell}(up:cj aa)(hl:aa.length<=30)(lZ:(b9 aa).length<64):jE t [aX aa] = .ok (fW (b9 aa)):=by
 have inner:∀(acc:List cB) (a:Cell) (y z:Option D),acc.length<=900->∃y' z',(iw (gu (au 0)) (d7 3)
   (cA (eE 4 (cQ gD (af (dw 100 (af (cQ vh (af (bw n5 (bw fS (au 2) (dC (.int 0))) (bw fS (au 3) (dC (.int 0)))) aH)) (af (cQ vh (af (bw n5 (bw fS (au 2) (dC (.int 1))) (bw fS (au 3) (dC (.int 1)))) aH)) aH))) aH)))
   (Dm.f9 (kR (bw (nE false) (au 4) (dw 100 (af (dC (.int 0)) (af (dC (.int 2)) aH)))) (bw (mX false) (cQ (bV t) (af (cY 100 (af (bC (au 2)) (af (bC (au 3)) aH))) aH)) (au 0)))
   (mR 1 (cY 100 (af (bC (au 2)) (af (bC (au 3)) aH))))
   cZ))) [some (aX aa),some (fW acc),some (cD a),y,z] = .nx [some (aX aa),some (fW (acc++(ET aa a).map fun b=>(a,b))),some (cD a),y',z']:=fun acc a y z ha=>by
  obtain⟨st',h1,y',z',h2,_⟩:=oh (bind:=d7 3) (F:=cA (eE 4 (cQ gD (af (dw 100 (af (cQ vh (af (bw n5 (bw fS (au 2) (dC (.int 0))) (bw fS (au 3) (dC (.int 0)))) aH)) (af (cQ vh (af (bw n5 (bw fS (au 2) (dC (.int 1))) (bw fS (au 3) (dC (.int 1)))) aH)) aH))) aH)))
   (Dm.f9 (kR (bw (nE false) (au 4) (dw 100 (af (dC (.int 0)) (af (dC (.int 2)) aH)))) (bw (mX false) (cQ (bV t) (af (cY 100 (af (bC (au 2)) (af (bC (au 3)) aH))) aH)) (au 0)))
   (mR 1 (cY 100 (af (bC (au 2)) (af (bC (au 3)) aH))))
   cZ)) (f:=cD) (Q:=fun pre st=>∃y z,st=[some (aX aa),some (fW (acc++(pre.filter fun b=>ap a b&&decide (mid a b∈aa)).map fun b=>(a,b))),some (cD a),y,z]/\pre.length<=aa.length) aa [] [some (aX aa),some (fW acc),some (cD a),y,z] (fun q b r e st ⟨y,z,hy,hq⟩=>by
   subst hy
   rw[gf] at e
   have hlen:q.length+1<=aa.length:=by rw[e];simp
   have hf:(q.filter fun b=>ap a b&&decide (mid a b∈aa)).length<=q.length:=oS ..
   obtain⟨u,v,hs,huv⟩:=Qo (Qp (a.1-b.1)) (Qp (a.2-b.2))
   have hap:ap a b=decide (u=0/\v=2):=by
    unfold ap
    rw[oV]
    simp only[lg,bR,aM9]
    exact huv.symm
   generalize hA:acc++(q.filter fun b=>ap a b&&decide (mid a b∈aa)).map (fun b=>(a,b))=A
   have lA:A.length<=5000:=by rw[<- hA];simp;lia
   have s1:eE 4 (cQ gD (af (dw 100 (af (cQ vh (af (bw n5 (bw fS (au 2) (dC (.int 0))) (bw fS (au 3) (dC (.int 0)))) aH)) (af (cQ vh (af (bw n5 (bw fS (au 2) (dC (.int 1))) (bw fS (au 3) (dC (.int 1)))) aH)) aH))) aH)) [some (aX aa),some (fW A),some (cD a),some (cD b),z] = .nx [some (aX aa),some (fW A),some (cD a),some (cD b),some (.lst [.int u,.int v])]:=by
    simp[aq1,hs]
   have ge:nE false (.lst [.int u,.int v]) (.lst [.int 0,.int 2]) = .ok (.bl (decide (u=0/\v=2))):=by
    unfold nE
    rw[aM4 (by simp[flat,cC,dep,kN])]
    simp only[j7,fm,uJ,dj,aN2]
    by_cases h:u=0 <;> by_cases h':v=2 <;> simp[h,h']
   have gb:(cQ (bV t) (af (cY 100 (af (bC (au 2)) (af (bC (au 3)) aH))) aH)) [some (aX aa),some (fW A),some (cD a),some (cD b),some (.lst [.int u,.int v])] = .ok (cD (mid a b)):=by
    have:=HV t (a,b)
    unfold lD at this
    simp[this]
   refine⟨[some (aX aa),some (fW A),some (cD a),some (cD b),z],[some (aX aa),some (fW (A++if(ap a b&&decide (mid a b∈aa))=true then [(a,b)]else [])),some (cD a),some (cD b),some (.lst [.int u,.int v])],rfl,?_,some (cD b),some (.lst [.int u,.int v]),?_,by simpa using hlen⟩
   ·rw[bM s1]
    by_cases h1:u=0/\v=2
    ·by_cases h2:mid a b∈aa
     ·rw[HQ (mV (lT (a:=.lst [.int u,.int v]) (b:=.lst [.int 0,.int 2]) rfl (by simp) (by rw[ge];simp[h1])) (lT gb rfl (by rw[gE];simp[h2])))]
      rw[hap]
      simp[mR,lA,h1,h2,lD]
     ·rw[uc (mV (lT (a:=.lst [.int u,.int v]) (b:=.lst [.int 0,.int 2]) rfl (by simp) (by rw[ge];simp[h1])) (lT gb rfl (by rw[gE];simp[h2])))]
      simp[h2]
    ·rw[uc (z6 (lT (a:=.lst [.int u,.int v]) (b:=.lst [.int 0,.int 2]) rfl (by simp) (by rw[ge];simp[h1])))]
     rw[hap]
     simp[h1]
   ·rw[<- hA,FN,iN,<- fP]
    cases hp:(ap a b&&decide (mid a b∈aa)) <;> simp[hp]) ⟨y,z,by simp,by simp⟩
  refine⟨y',z',?_⟩
  rw[gf,TV up]at h2
  subst h2
  simp
  exact h1
 obtain⟨st',h1,y,z,x,h2⟩:=oh (bind:=d7 2) (F:=iw (gu (au 0)) (d7 3)
   (cA (eE 4 (cQ gD (af (dw 100 (af (cQ vh (af (bw n5 (bw fS (au 2) (dC (.int 0))) (bw fS (au 3) (dC (.int 0)))) aH)) (af (cQ vh (af (bw n5 (bw fS (au 2) (dC (.int 1))) (bw fS (au 3) (dC (.int 1)))) aH)) aH))) aH)))
   (Dm.f9 (kR (bw (nE false) (au 4) (dw 100 (af (dC (.int 0)) (af (dC (.int 2)) aH)))) (bw (mX false) (cQ (bV t) (af (cY 100 (af (bC (au 2)) (af (bC (au 3)) aH))) aH)) (au 0)))
   (mR 1 (cY 100 (af (bC (au 2)) (af (bC (au 3)) aH))))
   cZ))) (f:=cD) (Q:=fun pre st=>∃y z x,st=[some (aX aa),some (fW (pre.flatMap fun a=>(ET aa a).map fun b=>(a,b))),y,z,x]) aa [] [some (aX aa),some (fW []),none,none,none] (fun q a r e st ⟨y,z,x,hy⟩=>by
  subst hy
  rw[gf] at e
  have hq:q.length<=30:=by rw[e]at hl;simp at hl;lia
  have h4:∀a,((ET aa a).map fun b=>(a,b)).length<=4:=fun a=>by
   rw[br];exact cI (oS ..) (by simp[four])
  have:=wU (fun a=>(ET aa a).map fun b=>(a,b)) 4 q fun a _=>h4 a
  obtain⟨z',x',h⟩:=inner (q.flatMap fun a=>(ET aa a).map fun b=>(a,b)) a z x (by lia)
  exact⟨_,_,rfl,h,some (cD a),z',x',by rw[r9];simp⟩) ⟨none,none,none,rfl⟩
 subst h2;unfold jE;refine gF [some (aX aa),none,none,none,none] ?_;rw[bM (st':=[some (aX aa),some (fW []),none,none,none]) (by simp),bM (st':=[some (aX aa),some (fW (b9 aa)),y,z,x]) ?_];exact jP (Qf (a:=fW (b9 aa)) rfl (Qm (Ey up) lZ));rw[Je];have:gu (au 0) [some (aX aa),some (fW []),none,none,none] = .ok (aa.map cD):=by simp
 rw[this];exact h1
theorem Drawn.lZ{l:List Cell}{m:Nat}(d:Drawn l m):(b9 l).length<64:=by
 obtain⟨h,w,b,s⟩:=d.box;have:=La d.up b s;lia
end Pk
end XR
section XS
namespace Pk
open L2 Dm
variable (t:jY)
theorem aq2(c:Cell):jc t [cD c] = .ok (aX (four c)):=by
 simp[jc,cV,four,cD,fS,BC,Lo]
theorem Ji(a b:Cell):iF t [cD a,cD b] = .ok (cD (mid a b)):=by
 simp[iF,cV,mid,cD,fS,BC,Lo]
theorem U6{aa:List Cell}(hl:aa.length<=200):wR t [bB aa] = .ok (fW (b9 aa)):=by
 have inner:∀(acc:List cB) (a:Cell) (y:Option D),acc.length<=900->∃y',(iw (gu (cQ (jc t) (af (au 2) aH))) (d7 3)
   (Dm.f9 (kR (bw (mX false) (au 3) (oz fj (au 0))) (bw (mX false) (cQ (iF t) (af (au 2) (af (au 3) aH))) (oz fj (au 0))))
   (mR 1 (cY 100 (af (bC (au 2)) (af (bC (au 3)) aH))))
   cZ)) [some (bB aa),some (fW acc),some (cD a),y] = .nx [some (bB aa),some (fW (acc++(ET aa a).map fun b=>(a,b))),some (cD a),y']:=fun acc a y ha=>by
  obtain⟨y',h⟩:=Qt (bind:=d7 3) (F:=Dm.f9 (kR (bw (mX false) (au 3) (oz fj (au 0))) (bw (mX false) (cQ (iF t) (af (au 2) (af (au 3) aH))) (oz fj (au 0))))
   (mR 1 (cY 100 (af (bC (au 2)) (af (bC (au 3)) aH))))
   cZ) (S:=fun acc y=>[some (bB aa),some (fW acc),some (cD a),y]) (a:=a) (p:=fun b=>decide (b∈aa)&&decide (mid a b∈aa)) (four a) acc y (by simp[four];lia) (fun acc y b=>rfl) (fun acc b _ Hr=>⟨some (cD b),by
    by_cases h1:b∈aa
    ·by_cases h2:mid a b∈aa
     ·rw[HQ (mV (lT (a:=cD b) (b:=aX aa) rfl (by simp) (by rw[gE];simp[h1])) (lT (a:=cD (mid a b)) (b:=aX aa) (by simp[Ji]) (by simp) (by rw[gE];simp[h2])))]
      simp[mR,Hr,h1,h2,lD]
     ·rw[uc (mV (lT (a:=cD b) (b:=aX aa) rfl (by simp) (by rw[gE];simp[h1])) (lT (a:=cD (mid a b)) (b:=aX aa) (by simp[Ji]) (by simp) (by rw[gE];simp[h2])))]
      simp[h2]
    ·rw[uc (z6 (lT (a:=cD b) (b:=aX aa) rfl (by simp) (by rw[gE];simp[h1])))]
     simp[h1]⟩)
  exact⟨y',by simp[aq2];exact h⟩
 obtain⟨st',h1,y,z,h2⟩:=oh (bind:=d7 2) (F:=iw (gu (cQ (jc t) (af (au 2) aH))) (d7 3)
   (Dm.f9 (kR (bw (mX false) (au 3) (oz fj (au 0))) (bw (mX false) (cQ (iF t) (af (au 2) (af (au 3) aH))) (oz fj (au 0))))
   (mR 1 (cY 100 (af (bC (au 2)) (af (bC (au 3)) aH))))
   cZ)) (f:=cD) (Q:=fun pre st=>∃y z,st=[some (bB aa),some (fW (pre.flatMap fun a=>(ET aa a).map fun b=>(a,b))),y,z]) aa [] [some (bB aa),some (fW []),none,none] (fun q a r e st ⟨y,z,hy⟩=>by
  subst hy
  rw[gf] at e
  have hq:q.length<=200:=by rw[e]at hl;simp at hl;lia
  have h4:∀a,((ET aa a).map fun b=>(a,b)).length<=4:=fun a=>by
   rw[br];exact cI (oS ..) (by simp[four])
  have:=wU (fun a=>(ET aa a).map fun b=>(a,b)) 4 q fun a _=>h4 a
  obtain⟨z',h⟩:=inner (q.flatMap fun a=>(ET aa a).map fun b=>(a,b)) a z (by lia)
  exact⟨_,_,rfl,h,some (cD a),z',by rw[r9];simp⟩) ⟨none,none,rfl⟩
 subst h2;unfold wR;refine gF [some (bB aa),none,none,none] ?_;rw[bM (st':=[some (bB aa),some (fW []),none,none]) (by simp),bM (st':=[some (bB aa),some (fW (b9 aa)),y,z]) ?_];rfl;rw[Je];have:gu (oz fj (au 0)) [some (bB aa),some (fW []),none,none] = .ok (aa.map cD):=by simp
 rw[this];exact h1
end Pk
end XS
section XT
namespace Pk
open L2 Dm
variable (t:jY)
theorem U7{aa az:List Cell}(up:cj aa)(hl:aa.length<=30)(lZ:(b9 aa).length<64):jd t [aX aa,aX az] = .ok (fW (EU aa az)):=by
 have hL:=Qu t up hl lZ;obtain⟨st',h1,y,z,h2,_⟩:=oh (bind:=kL 3 4) (F:=Dm.f9 (kR (bw (mX false) (au 3) (au 1)) (kR (bw (mX false) (cQ (bV t) (af (cY 100 (af (bC (au 3)) (af (bC (au 4)) aH))) aH)) (au 1)) (bw (mX true) (au 4) (au 1))))
   (mR 2 (cY 100 (af (bC (au 3)) (af (bC (au 4)) aH))))
   cZ) (f:=lD) (Q:=fun pre st=>∃y z,st=[some (aX aa),some (aX az),some (fW (pre.filter (pX az))),y,z]/\pre.length<=64) (b9 aa) [] [some (aX aa),some (aX az),some (fW []),none,none] (fun q p r e st ⟨y,z,hy,hq⟩=>by
  subst hy
  rw[gf] at e
  have hlen:q.length+1<=64:=by rw[e]at lZ;simp at lZ;lia
  have hf:(q.filter (pX az)).length<=q.length:=oS ..
  generalize hA:q.filter (pX az)=A at hf
  have lA:A.length<=5000:=by lia
  have gb:(cQ (bV t) (af (cY 100 (af (bC (au 3)) (af (bC (au 4)) aH))) aH)) [some (aX aa),some (aX az),some (fW A),some (cD p.1),some (cD p.2)] = .ok (cD (mid p.1 p.2)):=by
   have:=HV t p
   unfold lD at this
   simp[this]
  refine⟨[some (aX aa),some (aX az),some (fW A),some (cD p.1),some (cD p.2)],[some (aX aa),some (aX az),some (fW (A++if pX az p=true then [p]else [])),some (cD p.1),some (cD p.2)],rfl,?_,some (cD p.1),some (cD p.2),?_,by simpa using hlen⟩
  ·unfold pX
   by_cases h1:p.1∈az
   ·by_cases h3:mid p.1 p.2∈az
    ·by_cases h2:p.2∈az
     ·rw[uc (mV (lT (a:=cD p.1) (b:=aX az) rfl rfl (by rw[gE];simp[h1])) (mV (lT gb rfl (by rw[gE];simp[h3])) (lT (a:=cD p.2) (b:=aX az) rfl rfl (by rw[gE];simp[h2]))))]
      simp[h2]
     ·rw[HQ (mV (lT (a:=cD p.1) (b:=aX az) rfl rfl (by rw[gE];simp[h1])) (mV (lT gb rfl (by rw[gE];simp[h3])) (lT (a:=cD p.2) (b:=aX az) rfl rfl (by rw[gE];simp[h2]))))]
      simp[mR,lA,h1,h2,h3,lD]
    ·rw[uc (mV (lT (a:=cD p.1) (b:=aX az) rfl rfl (by rw[gE];simp[h1])) (z6 (lT gb rfl (by rw[gE];simp[h3]))))]
     simp[h3]
   ·rw[uc (z6 (lT (a:=cD p.1) (b:=aX az) rfl rfl (by rw[gE];simp[h1])))]
    simp[h1]
  ·rw[<- hA,FN]
   cases hp:pX az p <;> simp[hp]) ⟨none,none,rfl,by simp⟩
 rw[gf]at h2;subst h2;unfold jd;refine gF [some (aX aa),some (aX az),none,none,none] ?_;rw[bM (st':=[some (aX aa),some (aX az),some (fW []),none,none]) (by simp),bM (st':=[some (aX aa),some (aX az),some (fW (EU aa az)),y,z]) ?_];rfl;rw[Je];have:gu (cQ (jE t) (af (au 0) aH)) [some (aX aa),some (aX az),some (fW []),none,none] = .ok ((b9 aa).map lD):=by simp[hL]
 rw[this];exact h1
end Pk
end XT
section XU
namespace Dm
open L2 HT
def zd(l:List Cell):List Cell:=(eO (l.map cD)).map toC
theorem EB(l:List Cell):eO (l.map cD)=(zd l).map cD:=by
 have hp:=bZ (l.map cD);unfold zd;rw[eZ];conv=>lhs;rw[<- Be (eO (l.map cD))]
 refine uF fun y hy=>?_;refine aU (aO.mp (hp.mem_iff.mp hy)) fun c _ b8=>?_;obtain rfl:=b8;rfl
theorem oj(l:List Cell):(zd l).Perm l:=by
 have:=(bZ (l.map cD)).map toC;rw[eZ]at this;have e:l.map (toC∘cD)=l:=by
  conv=>rhs;rw[<- Be l]
  exact uF fun c _=>toC_cD c
 rw[e] at this;exact this
theorem Qv(l:List Cell):(zd l).Pairwise (fun a b=>¬ vW b a):=by
 have pw:=jW (l.map cD);rw[EB,Bc]at pw;refine pw.imp fun {a b} h=>?_;rw[Qe]at h;simpa using h
theorem Jj{l:List Cell}(h:l.length<64):gD [aX l] = .ok (aX (zd l)):=by
 unfold gD;dsimp only;rw[aM4 (Qi h),EB]
theorem Qw(neg:Bool)(a b:Cell):nE neg (cD a) (cD b) = .ok (.bl (if neg then !decide (a=b)else decide (a=b))):=by
 unfold nE;rw[aM4 (by simp)];simp
theorem Qx{l:List Cell}(h:l.Nodup):cj (zd l):=vn (oj l) (Qv l) h
def left(az:List Cell)(p:cB):List Cell:=az.filter fun c=>!decide (c=p.1) && !decide (c=mid p.1 p.2)
def bL(az:List Cell)(p:cB):List Cell:=zd (left az p++[p.2])
theorem pY:c∈left az p↔c∈az/\c≠p.1/\c≠mid p.1 p.2:=by
 unfold left;simp
theorem HW:c∈bL az p↔(c∈az/\c≠p.1/\c≠mid p.1 p.2)\/c=p.2:=by
 unfold bL;rw[(oj _).mem_iff,gH,pY];simp
theorem EC:pX az p=true↔p.1∈az/\p.2∉az/\mid p.1 p.2∈az:=by
 unfold pX;simp
theorem Lb{p:cB}(up:cj az)(h:p.2∉az):cj (bL az p):=by
 refine Qx ?_;rw[xy];refine⟨up.nodup.sublist rf,by simp,fun a ha b hb e=>?_⟩;rw[eY]at hb;subst hb;subst e;exact h (pY.mp ha).1
theorem XW{p:cB}(h:p.2∈four p.1):mid p.1 p.2≠p.1:=by
 obtain ⟨⟨a1,a2⟩,b1,b2⟩:=p;unfold four at h;unfold mid;simp only[bW,fQ,aN4,xN]at h;intro e;simp only[xN] at e;lia
theorem ze{az:List Cell}(nd:az.Nodup)(h:pX az p=true)(hf:p.2∈four p.1):az.Perm (p.1::mid p.1 p.2::left az p):=by
 refine xO (EC.mp h) fun h1 h2 h3=>?_;have YW:=XW hf;refine(Bd nd ?_).mpr fun c=>?_;rw[l7,l7];refine⟨?_,?_,nd.sublist rf⟩;rw[bW,pY];rintro(e|e);exact YW e.symm;exact e.2.1 rfl;rw[pY];exact fun e=>e.2.2 rfl;rw[bW,bW,pY];by_cases e1:c=p.1;subst e1;simp[h1];by_cases e2:c=mid p.1 p.2;subst e2;simp[h3];simp[e1,e2]
theorem HX{az:List Cell}(nd:az.Nodup)(h:pX az p=true)(hf:p.2∈four p.1):(bL az p).length+1=az.length:=by
 have:=(ze nd h hf).length_eq;have:=(oj (left az p++[p.2])).length_eq;unfold bL;simp at *;lia
theorem U8(h:p∈EU aa az):p.1∈aa/\p.2∈four p.1/\p.2∈aa/\mid p.1 p.2∈aa/\pX az p=true:=by
 unfold EU at h;rw[vz,rW]at h;exact⟨h.1.1,h.1.2.1,h.1.2.2.1,h.1.2.2.2,h.2⟩
def vZ(aa:List Cell):List Cell->List cB->Prop
 | _,[]=>True
 | az,p::r=>p∈EU aa az/\vZ aa (bL az p) r
def kM(az:List Cell)(row:List cB):List Cell:=row.foldl bL az
theorem Lc(az:List Cell)(row:List cB)(p:cB):kM az (row++[p])=bL (kM az row) p:=by
 unfold kM;rw[MP];rfl
theorem Jk:∀{az:List Cell} {row:List cB} {p:cB},vZ aa az row->p∈EU aa (kM az row)->vZ aa az (row++[p])
 | az,[],p,_,h=>⟨h,trivial⟩
 | az,q::r,p,h,hp=>⟨h.1,Jk h.2 hp⟩
def kS(c:Cell):Int:=(c.1+c.2) % 3
def kD(c:Cell):Int:=(c.1-c.2) % 3
def par(f:Cell->Bool)(l:List Cell):Int:=((l.filter f).length:Int) % 2
def f1(c:Cell):Bool:=decide (kS c<2)
def f2(c:Cell):Bool:=decide (0<kS c)
def f3(c:Cell):Bool:=decide (kD c<2)
def f4(c:Cell):Bool:=decide (0<kD c)
def Qy(l:List Cell):List Int:=[par f1 l,par f2 l,par f3 l,par f4 l]
def bi(b:Bool):Nat:=if b then 1 else 0
theorem Jl(f:Cell->Bool)(l:List Cell):par f l=((l.countP f:Nat):Int) % 2:=by unfold par;rw[List.countP_eq_length_filter]
theorem om{f:Cell->Bool}{az:List Cell}(nd:az.Nodup)(h:pX az p=true)(hf:p.2∈four p.1)(he:(bi (f p.1)+bi (f (mid p.1 p.2))+bi (f p.2))=2):par f (bL az p)=par f az:=by
 have e1:=(ze nd h hf).countP_eq f;have e2:=(oj (left az p++[p.2])).countP_eq f;rw[Jl,Jl];unfold bL;simp only[e2,e1,List.countP_append,xw,List.countP_nil];unfold bi at he;lia
theorem U9(P:Prop)[Decidable P]:bi (decide P)=if P then 1 else 0:=by unfold bi;simp
theorem Qz(c:Cell):bi (f1 c)=if(c.1+c.2) % 3<2 then 1 else 0:=U9 _
theorem QA(c:Cell):bi (f2 c)=if 0<(c.1+c.2) % 3 then 1 else 0:=U9 _
theorem QB(c:Cell):bi (f3 c)=if(c.1-c.2) % 3<2 then 1 else 0:=U9 _
theorem QC(c:Cell):bi (f4 c)=if 0<(c.1-c.2) % 3 then 1 else 0:=U9 _
theorem QD(s e:Int)(h:e=1\/e = -1):(if s % 3<2 then 1 else 0)+(if(s+e) % 3<2 then 1 else 0)+(if(s+2*e) % 3<2 then 1 else 0)=2:=by
 have h3:s % 3=0\/s % 3=1\/s % 3=2:=by lia
 rcases h with rfl | rfl <;> rcases h3 with h | h | h;rw[h,aM4 (by decide),aM4 (by lia),aM5 (by lia)];rw[h,aM4 (by decide),aM5 (by lia),aM4 (by lia)];rw[h,aM5 (by decide),aM4 (by lia),aM4 (by lia)];rw[h,aM4 (by decide),aM5 (by lia),aM4 (by lia)];rw[h,aM4 (by decide),aM4 (by lia),aM5 (by lia)];rw[h,aM5 (by decide),aM4 (by lia),aM4 (by lia)]
theorem QE(s e:Int)(h:e=1\/e = -1):(if 0<s % 3 then 1 else 0)+(if 0<(s+e) % 3 then 1 else 0)+(if 0<(s+2*e) % 3 then 1 else 0)=2:=by
 have h3:s % 3=0\/s % 3=1\/s % 3=2:=by lia
 rcases h with rfl | rfl <;> rcases h3 with h | h | h;rw[h,aM5 (by decide),aM4 (by lia),aM4 (by lia)];rw[h,aM4 (by decide),aM4 (by lia),aM5 (by lia)];rw[h,aM4 (by decide),aM5 (by lia),aM4 (by lia)];rw[h,aM5 (by decide),aM4 (by lia),aM4 (by lia)];rw[h,aM4 (by decide),aM5 (by lia),aM4 (by lia)];rw[h,aM4 (by decide),aM4 (by lia),aM5 (by lia)]
theorem QF{p:cB}(hf:p.2∈four p.1):∃e f:Int,(e=1\/e = -1)/\(f=1\/f = -1)/\(mid p.1 p.2).1+(mid p.1 p.2).2=p.1.1+p.1.2+e/\p.2.1+p.2.2=p.1.1+p.1.2+2*e/\(mid p.1 p.2).1-(mid p.1 p.2).2=p.1.1-p.1.2+f/\p.2.1-p.2.2=p.1.1-p.1.2+2*f:=by
 obtain ⟨⟨a1,a2⟩,b1,b2⟩:=p;unfold four at hf;unfold mid;simp only[bW,fQ,aN4,xN]at hf ⊢;rcases hf with⟨rfl,rfl⟩|⟨rfl,rfl⟩|⟨rfl,rfl⟩|⟨rfl,rfl⟩;exact⟨-1,-1,.inr rfl,.inr rfl,by lia,by lia,by lia,by lia⟩;exact⟨-1,1,.inr rfl,.inl rfl,by lia,by lia,by lia,by lia⟩;exact⟨1,-1,.inl rfl,.inr rfl,by lia,by lia,by lia,by lia⟩;exact⟨1,1,.inl rfl,.inl rfl,by lia,by lia,by lia,by lia⟩
theorem HY{az:List Cell}(nd:az.Nodup)(h:pX az p=true)(hf:p.2∈four p.1):Qy (bL az p)=Qy az:=by
 refine Zf (QF hf) fun e f he hf' s1 s2 d1 d2=>?_;unfold Qy;rw[om nd h hf (f:=f1) (by rw[Qz,Qz,Qz,s1,s2];exact QD _ e he),om nd h hf (f:=f2) (by rw[QA,QA,QA,s1,s2];exact QE _ e he),
  om nd h hf (f:=f3) (by rw[QB,QB,QB,d1,d2];exact QD _ f hf'),om nd h hf (f:=f4) (by rw[QC,QC,QC,d1,d2];exact QE _ f hf')]
theorem pZ:∀{row:List cB} {az:List Cell},cj az->(∀c∈az,c∈aa)->vZ aa az row->cj (kM az row)/\(∀c∈kM az row,c∈aa)/\Qy (kM az row)=Qy az/\(kM az row).length+row.length=az.length
 | [],az,u,s,_=>⟨u,s,rfl,rfl⟩
 | p::r,az,u,s,h=>by
  refine Rh (U8 h.1) fun m1 m2 m3 m4 m5=>?_;have c1:=HY u.nodup m5 m2;have l1:=HX u.nodup m5 m2;obtain⟨i1,i2,i3,i4⟩:=pZ (row:=r) (az:=bL az p) (Lb u (EC.mp m5).2.1) (fun c hc=>by
   rcases HW.mp hc with h|h;exact s c h.1;rw[h];exact m3) h.2
  refine⟨i1,i2,i3.trans c1,?_⟩;rw[dg,<- l1,<- i4];show(kM (bL az p) r).length+(r.length+1)=(kM (bL az p) r).length+r.length+1;lia
theorem comp_map{α:Type}{bind:DB}{ft fe:DF}{f:α->D}{g:α->D}{S:α->ir}{P:ir->Prop}(xs:List α)(hS:∀x∈xs,P (S x))(hb:∀x∈xs,∀st,P st->bind (f x) st=some (S x))(ht:∀x∈xs,ft (S x) = .ok (.bl true))(he:∀x∈xs,fe (S x) = .ok (g x))(st:ir)(h:P st):j8 bind ft fe (xs.map f) st = .ok (xs.map g):=by
 have:=nC (p:=fun _=>true) xs hS hb ht (fun x hx _=>he x hx) st h;rw[List.filter_eq_self.mpr fun _ _=>rfl]at this;exact this
theorem XX{bind:DB}{F:DS}(h1:bind a st=some k8)(h2:F k8 = .nx mO)(h3:bind b mO=some By)(h4:F By = .nx R8):fK bind F [a,b] st = .nx R8:=by
 rw[fK,h1];dsimp only;rw[h2];dsimp only;rw[fK,h3];dsimp only;rw[h4];rfl
end Dm
end XU
section XY
namespace Pk
open L2 Dm
variable (t:jY)
theorem Ld{az:List Cell}(p:cB)(hl:az.length<=60):gO t [aX az,lD p] = .ok (aX (bL az p)):=by
 have hb:=HV t p;have g1:(gq (gu (au 0)) 1 [1] (d7 0) (kR (bw (nE true) (au 0) (bw fS (au 1) (dC (.int 0)))) (bw (nE true) (au 0) (cQ (bV t) (af (au 1) aH)))) (bC (au 0))) [some (aX az),some (lD p),none] = .ok (aX (left az p)):=by
  refine mz (ds:=az.map cD) (by simp) (by simp;lia) ?_;exact nC (S:=fun x=>[some (cD x),some (lD p)]) (P:=fun st=>∃y,st=[y,some (lD p)]) az (fun x _=>⟨_,rfl⟩) (fun x _ st ⟨y,e⟩=>by subst e;rfl) (fun x _=>by
   by_cases h1:x=p.1;exact(z6 (lT (a:=cD x) (b:=cD p.1) rfl (by simp) (by rw[Qw];simp[h1]))).trans (by simp[h1]);exact(mV (lT (a:=cD x) (b:=cD p.1) rfl (by simp) (by rw[Qw];simp[h1])) (lT (a:=cD x) (b:=cD (mid p.1 p.2)) rfl (by simp[hb]) (Qw ..))).trans (by simp[h1])) (fun x _ _=>by simp) _ ⟨none,rfl⟩
 have hle:(left az p).length<=az.length:=oS ..;unfold gO;refine gF [some (aX az),some (lD p),none] ?_;rw[bM (st':=[some (aX az),some (lD p),some (aX (left az p))]) (jO g1)];refine jP (Qf (a:=aX (left az p++[p.2])) (lT (a:=aX (left az p)) (b:=aX [p.2]) rfl (by simp) (HR (by simp;lia))) ?_);exact Jj (by simp;lia)
theorem fU.row{aa az:List Cell}{row:List cB}(S:fU aa az)(h:vZ aa az row):fU aa (kM az row):=by
 obtain⟨h1,h2,_⟩:=pZ S.1 S.2 h;exact⟨h1,h2⟩
end Pk
end XY
section XZ
namespace Dm
open L2 HT
theorem Ua(p q:α->Bool):∀l:List α,(l.filter p).length+(l.filter q).length<=l.length+(l.filter fun a=>p a&&q a).length
 | []=>by simp
 | a::l=>by
  have:=Ua p q l;simp only[List.filter_cons,dg];cases p a <;> cases q a <;> simp <;> lia
theorem zf:∀l:List α,boolsOf (l.map fun _=>D.bl true)=some (l.map fun _=>true)
 | []=>rfl
 | x::l=>by rw[bG,boolsOf,zf l];rfl
theorem all_true(l:List α):Hu [.lst (l.map fun _=>D.bl true)] = .ok (.bl true):=by
 unfold Hu;dsimp only;rw[zf];simp
end Dm
end XZ
section aI8
namespace Fr
variable {S L:Type}[BEq S][LawfulBEq S]
def ins(d:List (S×List L))(k:S)(v:List L):List (S×List L):=if d.any (·.1==k)then d else d++[(k,v)]
def gv(d:List (S×List L))(X:List (S×List L)):List (S×List L):=X.foldl (fun d p=>ins d p.1 p.2) d
def ext(step:S->List (L×S))(p:S×List L):List (S×List L):=(step p.1).map fun q=>(q.2,p.2++[q.1])
theorem Ub{t:S}:(ins d k v).any (·.1==t)=(d.any (·.1==t) || k==t):=by
 unfold ins;split;rename_i h;by_cases e:k=t;subst e;rw[h];rfl;simp[e];simp
theorem Cv:∀(X d:List (S×List L)) (t:S),(gv d X).any (·.1==t)=(d.any (·.1==t) || X.any (·.1==t))
 | [],d,t=>by simp[gv]
 | p::X,d,t=>by
  show(gv (ins d p.1 p.2) X).any _=_;rw[Cv X,Ub,xx,Bool.or_assoc]
theorem ud(d X Y:List (S×List L)):gv d (X++Y)=gv (gv d X) Y:=by unfold gv;rw[MP]
theorem ED:∀(X d:List (S×List L)),(∀p∈X,d.any (·.1==p.1)=true)->gv d X=d
 | [],d,_=>rfl
 | p::X,d,h=>by
  show gv (ins d p.1 p.2) X=d;rw[ins,aM4 (h p (.head _))];exact ED X d fun q m=>h q (.tail _ m)
theorem Cw:∀(X d e:List (S×List L)),(∀p∈d,(ext step p).all (fun q=>e.any (·.1==q.1))=true)->
  ∃d',gv d X=d++d'/\gv e (d'.flatMap (ext step))=gv e (X.flatMap (ext step))
 | [],d,e,_=>⟨[],by simp[gv],rfl⟩
 | p::X,d,e,h=>by
  show ∃d',gv (ins d p.1 p.2) X=d++d'/\_;rw[r8,ud];by_cases k:d.any (·.1==p.1)=true;rw[ins,aM4 k];obtain⟨q,m,hq⟩:=rg.mp k;have hq:=eq_of_beq hq;have hh:=h q m;rw[ED (ext step p) e];exact Cw X d e h;intro r mr;unfold ext at hh mr;rw[hq]at hh;rw[Mp]at hh;obtain⟨x,mx,rfl⟩:=aO.mp mr;exact(f7.mp hh) x mx;rw[ins,aM5 k];have h':∀q∈d++[(p.1,p.2)],(ext step q).all (fun r=>(gv e (ext step p)).any (·.1==r.1))=true:=by intro q m;rw[f7];intro r mr;rw[Cv];rcases gH.mp m with m | m;rw[(f7.mp (h q m)) r mr];rfl;obtain rfl:=eY.mp m;rw[lg];exact .inr (rg.mpr ⟨r,mr,aN5 _⟩)
  obtain⟨d',e1,e2⟩:=Cw X (d++[(p.1,p.2)]) (gv e (ext step p)) h';refine⟨(p.1,p.2)::d',by rw[e1,fP];rfl,?_⟩;rw[r8,ud];exact e2
theorem QG(X:List (S×List L)):gv [] ((gv [] X).flatMap (ext step))=gv [] (X.flatMap (ext step)):=by
 obtain⟨d',e1,e2⟩:=Cw X [] [] (step:=step) (fun _ m=>nomatch m);rw[e1];exact e2
def rows(step:S->List (L×S)):Nat->S->List (S×List L)
 | 0,s=>[(s,[])]
 | n+1,s=>(step s).flatMap fun q=>(rows step n q.2).map fun r=>(r.1,q.1::r.2)
def iter(step:S->List (L×S)):Nat->List (S×List L)->List (S×List L)
 | 0,X=>X
 | n+1,X=>iter step n (X.flatMap (ext step))
theorem EE:∀(n:Nat) (X Y:List (S×List L)),iter step n (X++Y)=iter step n X++iter step n Y
 | 0,_,_=>rfl
 | n+1,X,Y=>by rw[iter,iter,iter,r9,EE n]
theorem AS(n:Nat)(f:α->List (S×List L)):∀(l:List α),iter step n (l.flatMap f)=l.flatMap fun a=>iter step n (f a)
 | []=>by
  show iter step n []=[]
  induction n with
  | zero=>rfl
  | succ n ih=>rw[iter];exact ih
 | a::l=>by rw[r8,EE,AS n f l,r8]
theorem EF(f:α->β):∀(l:List α),l.map f=l.flatMap fun a=>[f a]
 | []=>rfl
 | a::l=>by rw[bG,r8,<- EF f l];rfl
theorem AU:∀(n:Nat) (s:S) (pre:List L),iter step n [(s,pre)]=(rows step n s).map fun r=>(r.1,pre++r.2)
 | 0,s,pre=>by simp[iter,rows]
 | n+1,s,pre=>by
  rw[iter,rows,MQ,ext];rw[EF,AS,List.map_flatMap];congr 1;funext q;rw[AU n];simp
def dY(step:S->List (L×S))(s:S):Nat->List (S×List L)
 | 0=>[(s,[])]
 | n+1=>gv [] ((dY step s n).flatMap (ext step))
theorem EG:∀(n:Nat) (X:List (S×List L)),iter step (n+1) X=(iter step n X).flatMap (ext step)
 | 0,X=>rfl
 | n+1,X=>by rw[iter,EG n];rfl
theorem zg(s:S):∀n,dY step s n=gv [] (rows step n s)
 | 0=>rfl
 | n+1=>by
  have e:∀m,rows step m s=iter step m [(s,[])]:=fun m=>by rw[AU];simp
  rw[dY,zg s n,QG,e n,<- EG,<- e]
theorem EH(step:S->List (L×S))(t:S)(n:Nat)(s:S):(rows step (n+1) s).any (·.1==t)=(step s).any fun q=>(rows step n q.2).any (·.1==t):=by
 rw[rows,List.any_flatMap];congr 1;funext q;rw[FO];rfl
end Fr
end aI8
section Y0
namespace Pk
open L2 Dm
variable (t:jY)
def tS(l:List Cell):D:=.tup (l.map cD)
theorem HZ(neg:Bool)(c:Cell)(l:List Cell):mX neg (cD c) (tS l) = .ok (.bl (if neg then !decide (c∈l)else decide (c∈l))):=by
 have h:=gE neg c l;unfold mX aX at h;unfold mX tS;exact h
theorem Y3(az:List Cell)(p:cB):jS t [tS az,lD p] = .ok (.bl (pX az p)):=by
 unfold jS pX;refine gF [some (tS az),some (lD p)] (jP ?_);have g1:=HZ false p.1 az;have g2:=HZ true p.2 az;have g3:=HZ false (mid p.1 p.2) az;by_cases h1:p.1∈az <;> by_cases h2:p.2∈az <;> simp[Ji,g1,g2,g3,h1,h2]
theorem QH(neg:Bool)(x a b:Cell):mX neg (cD x) (.tup [cD a,cD b]) = .ok (.bl (if neg then !(decide (a=x) || decide (b=x))else(decide (a=x) || decide (b=x)))):=by
 unfold mX;dsimp only;rw[aM4 (by simp[cC,kN])];simp
theorem Lf{az:List Cell}(p:cB)(hl:az.length<=60):jT t [tS az,lD p] = .ok (aX (bL az p)):=by
 have hb:=Ji t p.1 p.2;have g1:(gq (iTp (au 0)) 1 [2] (d7 0) (bw (mX true) (au 0) (au 1)) (bC (au 0))) [some (tS az),some (lD p),some (.tup [cD p.1,cD (mid p.1 p.2)])] = .ok (aX (left az p)):=by
  refine mz (ds:=az.map cD) rfl (by simp;lia) ?_;refine nC (S:=fun x=>[some (cD x),some (.tup [cD p.1,cD (mid p.1 p.2)])]) (P:=fun st=>∃y,st=[y,some (.tup [cD p.1,cD (mid p.1 p.2)])]) az (fun x _=>⟨_,rfl⟩) (fun x _ st ⟨y,e⟩=>by subst e;rfl) (fun x _=>?_) (fun x _ _=>by simp) _ ⟨none,rfl⟩;refine lT (a:=cD x) (b:=.tup [cD p.1,cD (mid p.1 p.2)]) rfl rfl ?_;rw[QH];have e1:decide (p.1=x)=decide (x=p.1):=by rw[oV];simp[eq_comm]
  have e2:decide (mid p.1 p.2=x)=decide (x=mid p.1 p.2):=by rw[oV];simp[eq_comm]
  rw[e1,e2];cases decide (x=p.1) <;> cases decide (x=mid p.1 p.2) <;> rfl
 have hle:(left az p).length<=az.length:=oS ..;unfold jT;refine gF [some (tS az),some (lD p),none] ?_;rw[bM (st':=[some (tS az),some (lD p),some (.tup [cD p.1,cD (mid p.1 p.2)])]) (by simp[hb])];refine jP (Qf (a:=aX (left az p++[p.2])) (lT (a:=aX (left az p)) (b:=aX [p.2]) g1 (by simp) (HR (by simp;lia))) ?_);exact Jj (by simp;lia)
def cy(aa:List Cell)(s:List Cell):List (cB×List Cell):=(EU aa s).map fun p=>(p,bL s p)
theorem QI(aa:List Cell):(b9 aa).length<=4*aa.length:=by
 have h4:∀a,((ET aa a).map fun b=>(a,b)).length<=4:=fun a=>by rw[br];exact cI (oS ..) (by simp[four])
 have:=wU (fun a=>(ET aa a).map fun b=>(a,b)) 4 aa fun a _=>h4 a;unfold b9;lia
theorem AV(l:List Cell):pQ [aX l] = .ok (tS l):=by
 unfold pQ aX tS;dsimp only;rw[aM4 (gy fun d hd=>by obtain ⟨c,_,rfl⟩:=aO.mp hd;unfold cD;simp[gJ,dS])]
theorem Uc{aa s:List Cell}(hl:aa.length<=200)(ls:s.length<=60):iG t [fW (b9 aa),tS s] = .ok (.lst ((cy aa s).map fun q=>.tup [lD q.1,tS q.2])):=by
 have e:(cy aa s).map (fun q=>D.tup [lD q.1,tS q.2])=((b9 aa).filter (pX s)).map fun p=>D.tup [lD p,tS (bL s p)]:=by unfold cy EU;rw[eZ];rfl
 rw[e];unfold iG;refine gF [some (fW (b9 aa)),some (tS s)] (jP (mz (ds:=(b9 aa).map lD) rfl ?_ ?_));rw[br];have:=QI aa;lia;exact nC (S:=fun x=>[some (lD x),some (tS s)]) (P:=fun st=>∃y,st=[y,some (tS s)]) (b9 aa) (fun x _=>⟨_,rfl⟩) (fun x _ st ⟨y,e⟩=>by subst e;rfl) (fun x _=>by simp[Y3]) (fun x _ _=>by
  have n1:gJ (lD x)=true:=by unfold lD cD;simp[gJ,dS]
  have n2:∀ds,qt (.tup (lD x::ds))=true:=fun _=>rfl;simp[Lf t x ls,AV,n1,n2]) _ ⟨none,rfl⟩
def kS(s:List Cell):List (List Int):=s.map fun c=>[c.1,c.2]
theorem I0:∀{a b:List Cell},kS a=kS b->a=b
 | [],[],_=>rfl
 | [],_::_,h=>by cases h
 | _::_,[],h=>by cases h
 | x::a,y::b,h=>by
  unfold kS at h;rw[bG,bG]at h;injection h with h1 h2;injection h1 with h3 h4;injection h4 with h5 _;rw[I0 (a:=a) (b:=b) h2];obtain ⟨x1,x2⟩:=x;obtain ⟨y1,y2⟩:=y;dsimp only at h3 h5;rw[h3,h5]
theorem EI:∀(s:List Cell),mU (s.map cD)=some (kS s)
 | []=>rfl
 | c::s=>by
  rw[bG,mU,EI s];rfl
theorem wV(s:List Cell):yP (tS s)=some (kS s):=EI s
def iJ(L:List (List Cell×List cB)):List D:=L.flatMap fun z=>[tS z.1,fW z.2]
def uf(L:List (List Cell×List cB)):List (List (List Int)×D×D):=L.map fun z=>(kS z.1,tS z.1,fW z.2)
theorem qm:∀(L:List (List Cell×List cB)),iy (iJ L)=some (uf L)
 | []=>rfl
 | z::L=>by
  show iy (tS z.1::fW z.2::iJ L)=_;rw[iy,wV,qm L];rfl
theorem EJ(L:List (List Cell×List cB))(b:List Cell):((uf L).map (·.1)).any (fun k=>decide (k=kS b))=L.any (·.1==b):=by
 unfold uf;rw[eZ,FO];congr 1;funext z;show decide (kS z.1=kS b)=(z.1==b)
 by_cases h:z.1=b;rw[h];simp;rw[aM7 fun e=>h (I0 e)];exact(aN1.mpr h).symm
theorem QJ(neg:Bool)(b:List Cell)(L:List (List Cell×List cB)):wo neg (tS b) (.d8 2 (iJ L)) = .ok (.bl (if neg then !L.any (·.1==b)else L.any (·.1==b))):=by
 simp only[wo,wV,qm,EJ]
theorem lS(L:List (List Cell×List cB)):iz (some (some (.d8 2 (iJ L))))=some (iJ L,uf L):=yQ rfl (qm L)
end Pk
end Y0
section Y4
namespace Pk
open L2 Dm
def QK(aa:List Cell)(L:List (List Cell×List cB)):Prop:=(L.map (·.1)).Nodup/\∀z∈L,fU aa z.1
def Bound(aa:List Cell):Prop:=∀L,QK aa L->L.length<=4096
theorem QK.ins{aa:List Cell}{L:List (List Cell×List cB)}(h:QK aa L){k:List Cell}{v:List cB}(S:fU aa k):QK aa (Fr.ins L k v):=by
 unfold Fr.ins;split;exact h;rename_i hn;refine⟨?_,fun z m=>?_⟩;rw[iN,xy];refine⟨h.1,by simp,fun a ha b hb e=>hn ?_⟩;have hb:b=k:=by simpa using hb
 obtain⟨z,hz,rfl⟩:=aO.mp ha;exact rg.mpr ⟨z,hz,by rw[e,hb];exact aN5 _⟩;rcases gH.mp m with m | m;exact h.2 z m;obtain rfl:=eY.mp m;exact S
theorem Y5{l m:List cB}(h:l.length+m.length<=5000):qu (fW l) (fW m) = .ok (fW (l++m)):=by
 have n:∀l:List cB,dS (l.map lD)=true:=fun l=>gy fun d hd=>by obtain⟨c,_,rfl⟩:=aO.mp hd;unfold lD cD;simp[gJ,dS]
 unfold qu fW;dsimp only;simp[n,h]
theorem Jm(L M:List (List Cell×List cB)):iJ (L++M)=iJ L++iJ M:=by unfold iJ;rw[r9]
theorem I8{aa:List Cell}(bd:Bound aa)(a b c:D){row:List cB}(X4:row.length<=900)(qs:List (cB×List Cell))(hq:∀q∈qs,fU aa q.2)(acc:List (List Cell×List cB))(ok:QK aa acc)(y z:Option D) :
  ∃y' z',fK (kL 5 6) (Dm.f9 (bw (wo true) (au 6) (au 2)) (Hx 2 (au 6) (bw qu (au 4) (dw 100 (af (bC (au 5)) aH)))) cZ) (qs.map fun q=>D.tup [lD q.1,tS q.2]) [some a,some b,some (.d8 2 (iJ acc)),some c,some (fW row),y,z]=
   .nx [some a,some b,some (.d8 2 (iJ (Fr.gv acc (qs.map fun q=>(q.2,row++[q.1]))))),some c,some (fW row),y',z']/\QK aa (Fr.gv acc (qs.map fun q=>(q.2,row++[q.1]))):=by
 obtain⟨st',h1,y',z',h2,h3⟩:=oh (bind:=kL 5 6) (F:=Dm.f9 (bw (wo true) (au 6) (au 2)) (Hx 2 (au 6) (bw qu (au 4) (dw 100 (af (bC (au 5)) aH)))) cZ) (f:=fun q:cB×List Cell=>D.tup [lD q.1,tS q.2])
  (Q:=fun pre st=>∃y z,st=[some a,some b,some (.d8 2 (iJ (Fr.gv acc (pre.map fun q=>(q.2,row++[q.1]))))),some c,some (fW row),y,z]/\QK aa (Fr.gv acc (pre.map fun q=>(q.2,row++[q.1])))) qs [] [some a,some b,some (.d8 2 (iJ acc)),some c,some (fW row),y,z] (fun p x r e st ⟨y,z,hy,hk⟩=>by
  subst hy
  rw[gf] at e
  have mx:x∈qs:=by rw[e];simp
  refine⟨[some a,some b,some (.d8 2 (iJ (Fr.gv acc (p.map fun q=>(q.2,row++[q.1]))))),some c,some (fW row),some (lD x.1),some (tS x.2)],?_⟩
  generalize hM:Fr.gv acc (p.map fun q=>(q.2,row++[q.1]))=M at hk ⊢
  have aq3:Fr.gv acc ((p++[x]).map fun q=>(q.2,row++[q.1]))=Fr.ins M x.2 (row++[x.1]):=by
   rw[iN,Fr.ud,hM];rfl
  rw[aq3]
  have g:=QJ true x.2 M
  have n1:gJ (lD x.1)=true:=by unfold lD cD;simp[gJ,dS]
  refine⟨[some a,some b,some (.d8 2 (iJ (Fr.ins M x.2 (row++[x.1])))),some c,some (fW row),some (lD x.1),some (tS x.2)],rfl,?_,_,_,rfl,hk.ins (hq x mx)⟩
  cases QL:M.any (·.1==x.2)with
  | true=>
   rw[QL]at g
   rw[uc (lT (a:=tS x.2) (b:=.d8 2 (iJ M)) rfl rfl g)]
   unfold Fr.ins
   rw[aM4 QL];rfl
  | false=>
   rw[QL]at g
   rw[HQ (lT (a:=tS x.2) (b:=.d8 2 (iJ M)) rfl rfl g)]
   have hv:(bw qu (au 4) (dw 100 (af (bC (au 5)) aH))) [some a,some b,some (.d8 2 (iJ M)),some c,some (fW row),some (lD x.1),some (tS x.2)] = .ok (fW (row++[x.1])):=
    lT (a:=fW row) (b:=fW [x.1]) rfl (by simp[n1]) (Y5 (by simp;lia))
   unfold Hx
   rw[hv]
   show(match iz (some (some (.d8 2 (iJ M))))with|some z=>_|none=>_)=_
   rw[lS]
   show SV 2 _ (iJ M,uf M) (tS x.2) (fW (row++[x.1]))=_
   unfold SV
   rw[wV]
   dsimp only
   rw[aM4 ⟨by unfold uf;rw[br];have:=bd M hk;lia,by rw[EJ];exact QL,rfl⟩]
   unfold Fr.ins
   rw[aM5 (by rw[QL];decide),Jm]
   rfl) ⟨y,z,rfl,ok⟩
 rw[gf] at h2 h3;subst h2;exact⟨y',z',h1,h3⟩
variable (t:jY)
theorem zh{aa s:List Cell}(S:fU aa s):∀q∈cy aa s,fU aa q.2:=fun q m=>by
 unfold cy at m;obtain⟨p,hp,rfl⟩:=aO.mp m;exact S.row (row:=[p]) ⟨hp,trivial⟩
theorem QM{aa:List Cell}(hl:aa.length<=60)(bd:Bound aa)(L:List (List Cell×List cB))(hS:∀z∈L,fU aa z.1)(h60:∀z∈L,z.1.length<=60)(hr:∀z∈L,z.2.length<=900) :
  k6 t [fW (b9 aa),.d8 2 (iJ L)] = .ok (.d8 2 (iJ (Fr.gv [] (L.flatMap (Fr.ext (cy aa))))))/\QK aa (Fr.gv [] (L.flatMap (Fr.ext (cy aa)))):=by
 obtain⟨st',h1,y,z,u,v,h2,h3⟩:=oh (bind:=kL 3 4) (F:=iw (gu (cQ (iG t) (af (au 0) (af (au 3) aH)))) (kL 5 6) (Dm.f9 (bw (wo true) (au 6) (au 2)) (Hx 2 (au 6) (bw qu (au 4) (dw 100 (af (bC (au 5)) aH)))) cZ)) (f:=fun z:List Cell×List cB=>D.tup [tS z.1,fW z.2])
  (Q:=fun pre st=>∃y z u v,st=[some (fW (b9 aa)),some (.d8 2 (iJ L)),some (.d8 2 (iJ (Fr.gv [] (pre.flatMap (Fr.ext (cy aa)))))),y,z,u,v]/\QK aa (Fr.gv [] (pre.flatMap (Fr.ext (cy aa))))) L [] [some (fW (b9 aa)),some (.d8 2 (iJ L)),some (.d8 2 (iJ [])),none,none,none,none] (fun p x r e st ⟨y,z,u,v,hy,hk⟩=>by
  subst hy
  rw[gf] at e
  have mx:x∈L:=by rw[e];simp
  refine⟨[some (fW (b9 aa)),some (.d8 2 (iJ L)),some (.d8 2 (iJ (Fr.gv [] (p.flatMap (Fr.ext (cy aa)))))),some (tS x.1),some (fW x.2),u,v],?_⟩
  have hs:=Uc t (aa:=aa) (s:=x.1) (by lia) (h60 x mx)
  obtain⟨y',z',g1,g2⟩:=I8 bd (fW (b9 aa)) (.d8 2 (iJ L)) (tS x.1) (hr x mx) (cy aa x.1) (zh (hS x mx)) _ hk u v
  have ee:Fr.gv [] ((p++[x]).flatMap (Fr.ext (cy aa)))=Fr.gv (Fr.gv [] (p.flatMap (Fr.ext (cy aa)))) ((cy aa x.1).map fun q=>(q.2,x.2++[q.1])):=by
   rw[r9,Fr.ud,MQ];rfl
  rw[ee]
  refine⟨_,rfl,?_,some (tS x.1),some (fW x.2),y',z',rfl,g2⟩
  have hi:gu (cQ (iG t) (af (au 0) (af (au 3) aH))) [some (fW (b9 aa)),some (.d8 2 (iJ L)),some (.d8 2 (iJ (Fr.gv [] (p.flatMap (Fr.ext (cy aa)))))),some (tS x.1),some (fW x.2),u,v] = .ok ((cy aa x.1).map fun q=>D.tup [lD q.1,tS q.2]):=by
   unfold gu
   rw[Rf (a:=fW (b9 aa)) (b:=tS x.1) rfl rfl hs]
  unfold iw
  rw[hi]
  exact g1) ⟨none,none,none,none,rfl,⟨FG,fun z m=>nomatch m⟩⟩
 rw[gf] at h2 h3;subst h2;refine⟨?_,h3⟩;unfold k6;refine gF [some (fW (b9 aa)),some (.d8 2 (iJ L)),none,none,none,none,none] ?_;rw[bM (st':=[some (fW (b9 aa)),some (.d8 2 (iJ L)),some (.d8 2 (iJ [])),none,none,none,none]) (jO rfl)];have hi:KN (au 1) [some (fW (b9 aa)),some (.d8 2 (iJ L)),some (.d8 2 (iJ [])),none,none,none,none] = .ok (L.map fun z=>D.tup [tS z.1,fW z.2]):=by unfold KN;show(match iz (some (some (.d8 2 (iJ L))))with|some y=>_|none=>_)=_;rw[lS];show R.ok ((uf L).map fun t=>D.tup [t.2.1,t.2.2])=_;unfold uf;rw[eZ];rfl
 rw[bM (F:=iw (KN (au 1)) (kL 3 4) _) (by unfold iw;rw[hi];exact h1)];exact jP rfl
end Pk
end Y4
section Y7
namespace Pk
open L2 Dm
theorem jQ:∀{aa s:List Cell},cj aa->cj s->(∀c∈s,c∈aa)->s.Sublist aa
 | _,[],_,_,_=>List.nil_sublist _
 | [],a::s,_,_,h=>by cases h a (.head _)
 | x::r,a::s,hc,hs,h=>by
  have w9:=xA.mp hc;have CC:=xA.mp hs;by_cases e:a=x;subst e;refine List.Sublist.cons_cons a (jQ w9.2 CC.2 fun c m=>?_);rcases bW.mp (h c (.tail _ m))with rfl|m';exact aN6 (CC.1 _ m) (nZ _);exact m';have ha:a∈r:=(bW.mp (h a (.head _))).resolve_left e;refine List.Sublist.cons x (jQ w9.2 hs fun c m=>?_);rcases bW.mp (h c m)with rfl|m';rcases bW.mp m with z|m2;exact aN6 z.symm e;exact aN6 (AQ (w9.1 _ ha) (CC.1 _ m2)) (nZ _);exact m'
def subs:List Cell->List (List Cell)
 | []=>[[]]
 | c::l=>(subs l).map (c :: ·)++subs l
theorem zj:∀l,(subs l).length=2 ^ l.length
 | []=>rfl
 | c::l=>by rw[subs,cG,br,zj l,dg,M7];lia
theorem ug:∀{l s:List Cell},s.Sublist l->s∈subs l
 | _,_,.slnil=>by simp[subs]
 | _,_,.cons c h=>by rw[subs];exact mY _ (ug h)
 | _,_,.cons_cons c h=>by rw[subs];exact Aa _ (aO.mpr ⟨_,ug h,rfl⟩)
theorem len_sub:∀{l m:List (List Cell)},l.Nodup->(∀x∈l,x∈m)->l.length<=m.length
 | [],_,_,_=>i7 _
 | a::l,m,hn,h=>by
  have xT:=l7.mp hn;have ha:a∈m:=h a (.head _);have:=len_sub (l:=l) (m:=m.erase a) xT.2 fun x hx=>(MM fun e=>xT.1 (by rw[<- e];exact hx)).mpr (h x (.tail _ hx));rw[MN ha]at this;have pos:0<m.length:=MO ha;rw[dg];lia
theorem zq{aa:List Cell}(up:cj aa)(hl:aa.length<=12):Bound aa:=fun L h=>by
 have aI9:∀s∈L.map (·.1),s∈subs aa:=fun s m=>by obtain⟨z,hz,rfl⟩:=aO.mp m;exact ug (jQ up (h.2 z hz).1 (h.2 z hz).2)
 have h1:=len_sub h.1 aI9;rw[br,zj]at h1;have h2:2 ^ aa.length<=2 ^ 12:=Mi (by decide) hl;have:(2:Nat) ^ 12=4096:=rfl;lia
variable (t:jY)
theorem Jo:∀{X d:List (List Cell×List cB)} {z:List Cell×List cB},z∈Fr.gv d X->z∈d\/z∈X
 | [],d,z,h=>.inl h
 | p::X,d,z,h=>by
  have h:z∈Fr.gv (Fr.ins d p.1 p.2) X:=h;rcases Jo h with h|h;unfold Fr.ins at h;split at h;exact .inl h;rcases gH.mp h with h|h;exact .inl h;obtain rfl:=eY.mp h;exact .inr (.head _);exact .inr (.tail _ h)
structure aJ0(aa az:List Cell)(n:Nat)(z:List Cell×List cB):Prop where
 st:fU aa z.1
 len:z.1.length+n=az.length
 row:z.2.length=n
theorem vp{aa az:List Cell}(S:fU aa az):∀n,∀z∈Fr.dY (cy aa) az n,aJ0 aa az n z
 | 0,z,m=>by
  obtain rfl:=eY.mp (show z∈[(az,[])]from m);exact⟨S,rfl,rfl⟩
 | n+1,z,m=>by
  rcases Jo (show z∈Fr.gv [] _ from m)with m|m;cases m;obtain⟨w,hw,m⟩:=ML.mp m;have cw:=vp S n w hw;unfold Fr.ext at m;obtain⟨q,hq,rfl⟩:=aO.mp m;have RL:=hq;unfold cy at RL;obtain⟨p,hp,rfl⟩:=aO.mp RL;obtain⟨_,_,_,o4⟩:=pZ (row:=[p]) cw.st.1 cw.st.2 ⟨hp,trivial⟩;have o4:(bL w.1 p).length+1=w.1.length:=by simpa[kM]using o4
  exact⟨zh cw.st _ hq,by show(bL w.1 p).length+(n+1)=_;have:=cw.len;lia,by show(w.2++[p]).length=_;rw[cG,cw.row];rfl⟩
theorem Lg(t:jY){aa az:List Cell}(hl:aa.length<=60)(bd:Bound aa)(S:fU aa az)(lp:az.length<=60):∀n,QK aa (Fr.dY (cy aa) az n)
 | 0=>⟨by simp[Fr.dY],fun z m=>(vp S 0 z m).st⟩
 | n+1=>(QM t hl bd (Fr.dY (cy aa) az n) (fun z m=>(vp S n z m).st) (fun z m=>by have:=(vp S n z m).len;lia) (fun z m=>by have:=(vp S n z m).len;have:=(vp S n z m).row;lia)).2
def jN(aa az:List Cell):Nat->List (List Cell×List cB)
 | 0=>[]
 | n+1=>jN aa az n++Fr.dY (cy aa) az n
theorem EK{aa az:List Cell}:∀{n:Nat} {z},z∈jN aa az n->∃k,k<n/\z∈Fr.dY (cy aa) az k
 | n+1,z,m=>by
  rcases gH.mp (show z∈jN aa az n++_ from m)with m|m;obtain⟨k,hk,h⟩:=EK m;exact⟨k,by lia,h⟩;exact⟨n,by lia,m⟩
theorem zu{aa az:List Cell}(S:fU aa az){n:Nat}:∀z∈Fr.dY (cy aa) az n,z.1∉(jN aa az n).map (·.1):=fun z m h=>by
 obtain⟨w,hw,e⟩:=aO.mp h;obtain⟨k,hk,hw⟩:=EK hw;have h1:=(vp S k w hw).len;have h2:=(vp S n z m).len;have e:w.1=z.1:=e;rw[e]at h1;lia
theorem Cy(t:jY){aa az:List Cell}(hl:aa.length<=60)(bd:Bound aa)(S:fU aa az)(lp:az.length<=60):∀n,QK aa (jN aa az n)
 | 0=>⟨by simp[jN],fun z m=>nomatch m⟩
 | n+1=>by
  have h1:=Cy t hl bd S lp n;have h2:=Lg t hl bd S lp n;refine⟨?_,fun z m=>?_⟩;show((jN aa az n++Fr.dY (cy aa) az n).map (·.1)).Nodup;rw[iN,xy];exact⟨h1.1,h2.1,fun a ha b hb e=>by
   obtain⟨z,hz,rfl⟩:=aO.mp hb;exact zu S z hz (by rw[<- e];exact ha)⟩
  rcases gH.mp (show z∈jN aa az n++Fr.dY (cy aa) az n from m)with m|m;exact h1.2 z m;exact h2.2 z m
end Pk
end Y7
section Y9
namespace Pk
open L2 Dm
variable (t:jY)
theorem Lh(L:List (List Cell×List cB)):qI [.d8 2 (iJ L)] = .ok (.int (L.length:Nat)):=by
 simp only[qI,qm,uf,br]
theorem Ud{L M:List (List Cell×List cB)}{st:ir}{i:Nat}{f:DF}(hi:st[i]?=some (some (.d8 2 (iJ L))))(hf:f st = .ok (.d8 2 (iJ M)))(hz:L.length+M.length<=5000)(dis:∀z∈M,z.1∉L.map (·.1))(lZ:L=[]->M.length<=1) :
  KH i f st = .nx (st.set i (some (.d8 2 (iJ (L++M))))):=by
 unfold KH;rw[hi,lS];dsimp only;rw[hf];dsimp only;rw[lS];dsimp only;rw[aM4,Jm];refine⟨by unfold uf;rw[br,br];exact hz,fun k mk hk=>?_,fun e=>?_⟩;unfold uf at mk hk;rw[eZ]at mk hk;obtain⟨z,hz,rfl⟩:=aO.mp mk;obtain⟨w,hw,e⟩:=aO.mp hk;exact dis z hz (aO.mpr ⟨w,hw,I0 e⟩);unfold uf at e ⊢;rw[br];exact lZ (MR.mp e)
theorem rY{aa az:List Cell}{n:Nat}(h:Fr.dY (cy aa) az n=[]):∀k,Fr.dY (cy aa) az (n+k)=[]
 | 0=>h
 | k+1=>by
  show Fr.dY (cy aa) az (n+k+1)=[]
  rw[Fr.dY,rY h k];rfl
theorem AW{aa az:List Cell}{n:Nat}(h:Fr.dY (cy aa) az n=[]):∀k,jN aa az (n+k)=jN aa az n
 | 0=>rfl
 | k+1=>by
  show jN aa az (n+k)++Fr.dY (cy aa) az (n+k)=_;rw[rY h k,ko,AW h k]
def QN:DF:=bw WS (cQ qI (af (au 4) aH)) (dC (.int 0))
def fBody(t:jY):DS:=cA (KH 3 (au 4)) (eE 4 (cQ (k6 t) (af (au 2) (af (au 4) aH))))
theorem zv(t:jY){aa az:List Cell}(hl:aa.length<=60)(bd:Bound aa)(S:fU aa az)(lp:az.length<=60)(a b:D):∀(k n fuel:Nat),n+k=az.length+1->k<fuel->
  qw QN (fBody t) fuel [some a,some b,some (fW (b9 aa)),some (.d8 2 (iJ (jN aa az n))),some (.d8 2 (iJ (Fr.dY (cy aa) az n)))]=
   .nx [some a,some b,some (fW (b9 aa)),some (.d8 2 (iJ (jN aa az (az.length+1)))),some (.d8 2 (iJ []))]
 | k,n,0,_,h=>by lia
 | k,n,fuel+1,e,h=>by
  have ht:QN [some a,some b,some (fW (b9 aa)),some (.d8 2 (iJ (jN aa az n))),some (.d8 2 (iJ (Fr.dY (cy aa) az n)))] = .ok (.bl (decide ((0:Int)<((Fr.dY (cy aa) az n).length:Nat)))):=
   lT (a:=.int ((Fr.dY (cy aa) az n).length:Nat)) (b:=.int 0) (Qf (a:=.d8 2 (iJ (Fr.dY (cy aa) az n))) rfl (Lh _)) rfl rfl
  rw[qw,ht];cases hL:Fr.dY (cy aa) az n with
  | nil=>have:=AW hL k;rw[e] at this;rw[this];rfl
  | cons z0 r0=>
   rw[<- hL];have aj9:decide ((0:Int)<((Fr.dY (cy aa) az n).length:Nat))=true:=by rw[hL];simp
   rw[aj9];dsimp only;have hn:n<=az.length:=by have:=(vp S n z0 (by rw[hL];exact .head _)).len;lia
   cases k with
   | zero=>lia
   | succ k=>
    have kb:=bd _ (Cy t hl bd S lp (n+1));have kb:(jN aa az n++Fr.dY (cy aa) az n).length<=4096:=kb;rw[cG]at kb;have hnx:=(QM t hl bd (Fr.dY (cy aa) az n) (fun z m=>(vp S n z m).st) (fun z m=>by have:=(vp S n z m).len;lia) (fun z m=>by have:=(vp S n z m).len;have:=(vp S n z m).row;lia)).1;have hb:fBody t [some a,some b,some (fW (b9 aa)),some (.d8 2 (iJ (jN aa az n))),some (.d8 2 (iJ (Fr.dY (cy aa) az n)))] = .nx [some a,some b,some (fW (b9 aa)),some (.d8 2 (iJ (jN aa az (n+1)))),some (.d8 2 (iJ (Fr.dY (cy aa) az (n+1))))]:=by
     unfold fBody;rw[bM (Ud (i:=3) (f:=au 4) rfl rfl (by lia) (zu S) (fun z=>by
      cases n with
      | zero=>simp[Fr.dY]
      | succ n=>
       exfalso;have hnn:Fr.dY (cy aa) az n=[]:=by have:jN aa az n++Fr.dY (cy aa) az n=[]:=z;exact(List.append_eq_nil_iff.mp this).2
       have:=rY hnn 1;rw[hL]at this;cases this))]
     exact jO (Rf (a:=fW (b9 aa)) (b:=.d8 2 (iJ (Fr.dY (cy aa) az n))) rfl rfl hnx)
    rw[hb];dsimp only;exact zv t hl bd S lp a b k (n+1) fuel (by lia) (by lia)
theorem QO{aa az:List Cell}(hl:aa.length<=60)(bd:Bound aa)(S:fU aa az)(lp:az.length<=30):kW t [bB aa,aX az] = .ok (.d8 2 (iJ (jN aa az (az.length+1)))):=by
 have h:=zv t hl bd S (by lia) (bB aa) (aX az) (az.length+1) 0 40 (by lia) (by lia);have h0:Ef (cQ pQ (af (au 1) aH)) (dw 100 aH) [some (bB aa),some (aX az),some (fW (b9 aa)),some (.d8 2 (iJ [])),none] = .ok (.d8 2 (iJ [(az,[])])):=by have h1:(cQ pQ (af (au 1) aH)) [some (bB aa),some (aX az),some (fW (b9 aa)),some (.d8 2 (iJ [])),none] = .ok (tS az):=Qf (a:=aX az) rfl (AV _);unfold Ef;rw[h1];dsimp only;rw[show(dw 100 aH) [some (bB aa),some (aX az),some (fW (b9 aa)),some (.d8 2 (iJ [])),none] = .ok (.lst [])from rfl];dsimp only;rw[wV];rfl
 unfold kW;refine gF [some (bB aa),some (aX az),none,none,none] ?_;rw[bM (st':=[some (bB aa),some (aX az),some (fW (b9 aa)),none,none]) (jO (Qf (a:=bB aa) rfl (U6 t (by lia)))),
  bM (st':=[some (bB aa),some (aX az),some (fW (b9 aa)),some (.d8 2 (iJ [])),none]) (jO rfl),
  bM (st':=[some (bB aa),some (aX az),some (fW (b9 aa)),some (.d8 2 (iJ [])),some (.d8 2 (iJ [(az,[])]))]) (jO h0)]
 show cA (qw QN (fBody t) 40) (gK (au 3)) [some (bB aa),some (aX az),some (fW (b9 aa)),some (.d8 2 (iJ (jN aa az 0))),some (.d8 2 (iJ (Fr.dY (cy aa) az 0)))]=_;rw[bM h];exact jP rfl
end Pk
end Y9
section Yb
namespace Pk
open L2 Dm
theorem zw:∀(a b:List Cell),fm (a.map cD) (b.map cD)=decide (a=b)
 | [],[]=>by simp[fm]
 | [],_::_=>by simp[fm]
 | _::_,[]=>by simp[fm]
 | x::a,y::b=>by
  rw[bG,bG,fm,zw a b];have:j7 (cD x) (cD y)=decide (x=y):=by obtain ⟨x1,x2⟩:=x;obtain ⟨y1,y2⟩:=y;unfold cD;simp only[j7,fm,uJ];rw[oV];simp
  rw[this,oV];simp
theorem Cz(a b:List Cell):j7 (aX a) (aX b)=decide (a=b):=by unfold aX;rw[j7];exact zw a b
def iP(F:List (List Cell)):D:=.lst (F.map aX)
theorem Ue(neg:Bool)(s:List Cell)(F:List (List Cell)):mX neg (aX s) (iP F) = .ok (.bl (if neg then !decide (s∈F)else decide (s∈F))):=by
 have fl:∀a:List Cell,flat (aX a)=true:=fun a=>by unfold aX;rw[flat];exact ie fun d hd=>by obtain⟨c,_,rfl⟩:=aO.mp hd;unfold cD;simp[flat,cC]
 have dp:∀a:List Cell,dep (aX a)<=2:=fun a=>by have:=qk a;unfold aX;rw[dep];lia
 unfold mX iP;dsimp only;rw[aM4 (by
  simp only[bR,aM9];refine⟨⟨fl s,ie fun d hd=>by obtain⟨c,_,rfl⟩:=aO.mp hd;exact fl c⟩,cI (sN (n:=2) fun d hd=>by obtain⟨c,_,rfl⟩:=aO.mp hd;exact dp c) (by decide)⟩)]
 have e:(F.map aX).any (fun e=>j7 e (aX s))=decide (s∈F):=by rw[FO,oV,rg,decide_eq_true_iff];constructor;rintro⟨x,hx,h⟩;have h:j7 (aX x) (aX s)=true:=h;rw[Cz,decide_eq_true_iff]at h;exact h▸hx;intro h;exact⟨s,h,by show j7 (aX s) (aX s)=true;rw[Cz];simp⟩
 rw[e]
variable (t:jY)
def QS(aa s u:List Cell):Prop:=∃row,vZ aa s row/\kM s row=u
theorem QS.nc{aa s u:List Cell}(S:fU aa s)(h:QS aa s u):fU aa u:=by
 obtain ⟨row,ok,e⟩:=h;rw[<- e];exact S.row ok
theorem QS.snoc{aa s u:List Cell}(h:QS aa s u){p:cB}(hp:p∈EU aa u):QS aa s (bL u p):=by
 obtain ⟨row,ok,e⟩:=h;subst e;exact⟨row++[p],Jk ok hp,Lc ..⟩
def aq4(aa:List Cell):Prop:=∀F:List (List Cell),F.Nodup->(∀s∈F,fU aa s)->F.length<=4096
theorem CA{aa:List Cell}(up:cj aa)(hl:aa.length<=12):aq4 aa:=fun F nd h=>by
 have h1:=len_sub nd fun s m=>ug (jQ up (h s m).1 (h s m).2);rw[zj]at h1;have h2:2 ^ aa.length<=2 ^ 12:=Mi (by decide) hl;have:(2:Nat) ^ 12=4096:=rfl;lia
structure Li(aa az:List Cell)(F:List (List Cell)):Prop where
 nd:F.Nodup
 Ug:∀s∈F,QS aa az s
 hd:az∈F
def EL(t:jY):DS:=(cA (eE 5 (cQ (gO t) (af (bw fS (au 2) (au 3)) (af (au 4) aH))))
 (Dm.f9 (bw (mX true) (au 5) (au 2))
 (mR 2 (au 5))
 cZ))
theorem Jp{F:List (List Cell)}{a:Nat}{s:List Cell}(h:F[a]?=some s):fS (iP F) (.int (a:Int)) = .ok (aX s):=Ct (by rw[di,h];rfl)
theorem EM{aa az s:List Cell}(mn:aq4 aa)(S:fU aa az)(ls:s.length<=60){a:Nat}(ps:List cB)(hp:∀p∈ps,p∈EU aa s){F:List (List Cell)}(hs:F[a]?=some s)(I:Li aa az F)(y z:Option D) :
  ∃F' y' z',fK (d7 4) (EL t) (ps.map lD) [some (aX aa),some (aX az),some (iP F),some (.int (a:Nat)),y,z]=
   .nx [some (aX aa),some (aX az),some (iP F'),some (.int (a:Nat)),y',z']/\Li aa az F'/\F <+: F'/\∀p∈ps,bL s p∈F':=by
 obtain⟨st',h1,F',y',z',h2,h3,h4,h5⟩:=oh (bind:=d7 4) (F:=EL t) (f:=lD)
  (Q:=fun pre st=>∃F' y z,st=[some (aX aa),some (aX az),some (iP F'),some (.int (a:Nat)),y,z]/\Li aa az F'/\F <+: F'/\∀p∈pre,bL s p∈F') ps [] [some (aX aa),some (aX az),some (iP F),some (.int (a:Nat)),y,z] (fun pre x r e st ⟨M,y,z,hy,hI,D5,n6⟩=>by
  subst hy
  rw[gf] at e
  have mx:x∈ps:=by rw[e];simp
  have hM:M[a]?=some s:=by
   obtain⟨T,rfl⟩:=D5
   rw[kr (eL.mp hs).1];exact hs
  have hb:(cQ (gO t) (af (bw fS (au 2) (au 3)) (af (au 4) aH))) [some (aX aa),some (aX az),some (iP M),some (.int (a:Nat)),some (lD x),z] = .ok (aX (bL s x)):=
   Rf (a:=aX s) (b:=lD x) (lT (a:=iP M) (b:=.int (a:Nat)) rfl rfl (Jp hM)) rfl (Ld t x ls)
  refine⟨[some (aX aa),some (aX az),some (iP M),some (.int (a:Nat)),some (lD x),z],?_⟩
  have g:=Ue true (bL s x) M
  by_cases V5:bL s x∈M
  ·refine⟨[some (aX aa),some (aX az),some (iP M),some (.int (a:Nat)),some (lD x),some (aX (bL s x))],rfl,?_,M,_,_,rfl,hI,D5,fun p m=>?_⟩
   ·unfold EL
    rw[bM (jO hb)]
    rw[aM6 V5]at g
    rw[uc (lT (a:=aX (bL s x)) (b:=iP M) rfl rfl g)]
    rfl
   ·rcases gH.mp m with m | m
    ·exact n6 p m
    ·obtain rfl:=eY.mp m;exact V5
  ·have CC:s∈M:=iM hM
   have hR:QS aa az (bL s x):=(hI.Ug s CC).snoc (hp x mx)
   refine⟨[some (aX aa),some (aX az),some (iP (M++[bL s x])),some (.int (a:Nat)),some (lD x),some (aX (bL s x))],rfl,?_,M++[bL s x],_,_,rfl,⟨?_,fun u m=>?_,Aa _ hI.hd⟩,?_,fun p m=>?_⟩
   ·unfold EL
    rw[bM (jO hb)]
    rw[aM7 V5]at g
    rw[HQ (lT (a:=aX (bL s x)) (b:=iP M) rfl rfl g)]
    have hlen:=mn M hI.nd fun u m=>(hI.Ug u m).nc S
    unfold mR iP
    show(if(M.map aX).length<=5000 then _ else _)=_
    rw[aM4 (by rw[br];lia),iN]
    rfl
   ·rw[xy]
    exact⟨hI.nd,by simp,fun u hu v hv e=>by obtain rfl:=eY.mp hv;subst e;exact V5 hu⟩
   ·rcases gH.mp m with m | m
    ·exact hI.Ug u m
    ·obtain rfl:=eY.mp m;exact hR
   ·exact D5.trans (List.prefix_append ..)
   ·rcases gH.mp m with m | m
    ·exact Aa _ (n6 p m)
    ·obtain rfl:=eY.mp m;exact mY _ (.head _)) ⟨F,y,z,rfl,I,List.prefix_refl _,fun p m=>nomatch m⟩
 rw[gf]at h5;subst h2;exact⟨F',y',z',h1,h3,h4,h5⟩
def QT:DF:=bw gLt (au 3) (cQ pI (af (au 2) aH))
def Uh(t:jY):DS:=(cA (iw (gu (cQ (jd t) (af (au 0) (af (bw fS (au 2) (au 3)) aH)))) (d7 4) (EL t)) (eE 3 (bw jX (au 3) (dC (.int 1)))))
theorem zx{aa az:List Cell}(up:cj aa)(hl:aa.length<=12)(lZ:(b9 aa).length<64)(S:fU aa az)(lp:az.length<=60):∀(fuel a:Nat) (F:List (List Cell)) (y z:Option D),Li aa az F->a<=F.length->4096<a+fuel->(∀j s,j<a->F[j]?=some s->∀p∈EU aa s,bL s p∈F)->
  ∃F' x y' z',qw QT (Uh t) fuel [some (aX aa),some (aX az),some (iP F),some (.int (a:Nat)),y,z] = .nx [some (aX aa),some (aX az),some (iP F'),x,y',z']/\Li aa az F'/\∀s∈F',∀p∈EU aa s,bL s p∈F'
 | 0,a,F,y,z,I,ha,hf,_=>by
  have:=CA up hl F I.nd fun u m=>(I.Ug u m).nc S;lia
 | fuel+1,a,F,y,z,I,ha,hf,hd=>by
  have ht:QT [some (aX aa),some (aX az),some (iP F),some (.int (a:Nat)),y,z] = .ok (.bl (decide (a<F.length))):=by
   refine(lT (a:=.int (a:Nat)) (b:=.int (F.length:Nat)) rfl (Qf (a:=iP F) rfl ?_) rfl).trans ?_;unfold iP;rw[Xy,br];have:decide (((a:Nat):Int)<((F.length:Nat):Int))=decide (a<F.length):=by rw[oV];simp
   rw[aI2,this]
  rw[qw,ht];by_cases gr:a<F.length;rw[aM6 gr];dsimp only;have hs:F[a]?=some F[a]:=dz gr;generalize F[a]=s at hs;have hR:QS aa az s:=I.Ug s (iM hs);have Ss:=hR.nc S;have ls:s.length<=60:=by obtain⟨row,ok,e⟩:=hR;have:=(pZ S.1 S.2 ok).2.2.2;rw[e] at this;lia
  obtain⟨F',y',z',h1,h2,h3,h4⟩:=EM t (CA up hl) S ls (EU aa s) (fun p m=>m) hs I y z;have hi:gu (cQ (jd t) (af (au 0) (af (bw fS (au 2) (au 3)) aH))) [some (aX aa),some (aX az),some (iP F),some (.int (a:Nat)),y,z] = .ok ((EU aa s).map lD):=by unfold gu;rw[Rf (a:=aX aa) (b:=aX s) rfl (lT (a:=iP F) (b:=.int (a:Nat)) rfl rfl (Jp hs)) (U7 t up (by lia) lZ)]
  have hb:Uh t [some (aX aa),some (aX az),some (iP F),some (.int (a:Nat)),y,z] = .nx [some (aX aa),some (aX az),some (iP F'),some (.int ((a+1:Nat))),y',z']:=by unfold Uh;rw[bM (F:=iw _ _ _) (by unfold iw;rw[hi];exact h1)];exact jO rfl
  rw[hb];dsimp only;have uS:=h3.length_le;refine zx up hl lZ S lp fuel (a+1) F' y' z' h2 (by lia) (by lia) fun j u hj hu p hp=>?_;have Xg:F[j]?=some u:=by obtain⟨T,rfl⟩:=h3;rw[kr (by lia)]at hu;exact hu
  by_cases e:j=a;subst e;rw[hs]at Xg;cases Xg;exact h4 p hp;exact h3.subset (hd j u (by lia) Xg p hp);rw[aM7 gr];refine⟨F,_,_,_,rfl,I,fun s m p hp=>?_⟩;obtain⟨j,hj,e⟩:=List.getElem_of_mem m;exact hd j s (by lia) (by rw[dz hj,e]) p hp
theorem Ui{aa az:List Cell}(up:cj aa)(hl:aa.length<=12)(lZ:(b9 aa).length<64)(S:fU aa az)(lp:az.length<=60):∃F,iH t [aX aa,aX az] = .ok (iP F)/\Li aa az F/\∀s∈F,∀p∈EU aa s,bL s p∈F:=by
 obtain⟨F,x,y,z,h1,h2,h3⟩:=zx t up hl lZ S lp 5000 0 [az] none none ⟨by simp,fun s m=>by obtain rfl:=eY.mp m;exact⟨[],trivial,rfl⟩,.head _⟩ (by simp) (by decide) (fun j s hj=>by lia);refine⟨F,?_,h2,h3⟩;unfold iH;refine gF [some (aX aa),some (aX az),none,none,none,none] ?_;rw[bM (st':=[some (aX aa),some (aX az),some (iP [az]),none,none,none]) (jO (by simp[iP])),
  bM (st':=[some (aX aa),some (aX az),some (iP [az]),some (.int (0:Nat)),none,none]) (jO rfl)]
 show cA (qw QT (Uh t) 5000) _ _=_;rw[bM h1];exact jP rfl
theorem zy{aa:List Cell}:∀{row:List cB} {az:List Cell},vZ aa az row->(Fr.rows (cy aa) row.length az).any (·.1==kM az row)=true
 | [],az,_=>by show([(az,[])]:List (List Cell×List cB)).any _=true;simp[kM]
 | p::row,az,h=>by
  rw[dg,Fr.EH,rg];refine⟨(p,bL az p),?_,?_⟩;unfold cy;exact aO.mpr ⟨p,h.1,rfl⟩;exact zy h.2
theorem w5{aa:List Cell}{u:List Cell}:∀{n:Nat} {s:List Cell},(Fr.rows (cy aa) n s).any (·.1==u)=true->QS aa s u
 | 0,s,h=>by
  have:s=u:=by simpa[Fr.rows]using h
  exact⟨[],trivial,this⟩
 | n+1,s,h=>by
  rw[Fr.EH,rg]at h;obtain⟨q,hq,h⟩:=h;unfold cy at hq;obtain⟨p,hp,rfl⟩:=aO.mp hq;obtain⟨row,ok,e⟩:=w5 h;exact⟨p::row,⟨hp,ok⟩,e⟩
end Pk
end Yb
section Yd
namespace Pk
open L2 Dm
theorem Jq:∀{a b:List Cell},a.length=b.length->gk (a.map cD) (b.map cD)=true
 | [],[],_=>rfl
 | [],_::_,h=>by cases h
 | _::_,[],h=>by cases h
 | a::l,b::m,h=>by rw[bG,bG,gk,HS,Jq (by simpa using h)];rfl
theorem QU:∀(l:List Cell),GP (l.map cD)=true
 | []=>rfl
 | a::l=>by rw[bG,GP,Qh,QU l];rfl
theorem Jr{F:List (List Cell)}(h:∀s∈F,s.length<=60):Q3 (F.map aX)=true:=by
 unfold Q3;rw[bR,bR];refine⟨⟨f7.mpr fun a ha=>?_,f7.mpr fun a ha=>f7.mpr fun b hb=>?_⟩,ie fun d hd=>?_⟩;obtain⟨x,hx,rfl⟩:=aO.mp ha;have:=h x hx;exact aM6 (by rw[br];lia);rw[eZ]at ha hb;obtain⟨x,_,rfl⟩:=aO.mp ha;obtain⟨y,_,rfl⟩:=aO.mp hb;have d:=qk x;show(GP (x.map cD)&&cC (x.map cD)&&decide (kN (x.map cD)<=50)&&(decide (-((x.map cD).length:Int)≠ -((y.map cD).length:Int)) || gk (x.map cD) (y.map cD)))=true;rw[QU,z4,aM6 (by lia:kN (x.map cD)<=50),br,br];by_cases e:x.length=y.length;rw[Jq e];simp;rw[aM6 (by lia : -((x.length:Nat):Int)≠ -((y.length:Nat):Int))];rfl;obtain⟨x,_,rfl⟩:=aO.mp hd;unfold aX;rw[flat];exact z4 x
theorem QV{l:List β}{m:List α}(h:l.Perm (m.map f)):∃k:List α,k.Perm m/\l=k.map f:=by
 generalize e:m.map f=n at h;induction h generalizing m with
 | nil=>exact⟨[],by rw[MR.mp e],rfl⟩
 | cons x _ ih=>
  cases m with
  | nil=>cases e
  | cons a m=>injection e with e1 e2;obtain⟨k,hk,rfl⟩:=ih e2;exact⟨a::k,hk.cons a,by rw[<- e1];rfl⟩
 | swap x y l=>
  match m,e with
  | a::b::m,e=>injection e with e1 e2;injection e2 with e2 e3;subst e1 e2 e3;exact⟨b::a::m,.swap a b m,rfl⟩
 | trans _ _ i1 i2=>obtain⟨k,hk,rfl⟩:=i2 e;obtain⟨j,hj,rfl⟩:=i1 rfl;exact⟨j,hj.trans hk,rfl⟩
theorem Js:∀N,(jN aa az N).any (·.1==u)=true↔∃n,n<N/\(Fr.rows (cy aa) n az).any (·.1==u)=true
 | 0=>⟨fun h=>(by cases h),fun qq=>by obtain⟨n,h,_⟩:=qq;lia⟩
 | N+1=>by
  show(jN aa az N++Fr.dY (cy aa) az N).any _=true↔_;rw[List.any_append,lg,Js N,Fr.zg,Fr.Cv];show _\/(false || _)=true↔_;rw[FZ];constructor;rintro(⟨n,h,e⟩|e);exact⟨n,by lia,e⟩;exact⟨N,by lia,e⟩;rintro⟨n,h,e⟩;by_cases c:n=N;exact .inr (c▸e);exact .inl ⟨n,by lia,e⟩
theorem Uj(S:fU aa az):(jN aa az (az.length+1)).any (·.1==u)=true↔QS aa az u:=by
 rw[Js];refine⟨fun uT=>uT.elim fun n EO=>EO.elim fun _ h=>w5 h,fun GB=>GB.elim fun row Ir=>Ir.elim fun ok e=>⟨row.length,?_,by rw[<- e];exact zy ok⟩⟩;have:=(pZ S.1 S.2 ok).2.2.2;lia
variable (t:jY)
def CF(s:List Cell):D:=.tup [.int (-(s.length:Int)),aX s]
theorem Vf(s:List Cell):zN (aX s)=CF s:=by
 show D.tup [.int (-((s.map cD).length:Int)),.lst (s.map cD)]=_;rw[br];rfl
theorem Jt:∀{a b:List Cell},jF (a.map cD)=jF (b.map cD)->a=b
 | [],[],_=>rfl
 | [],b::_,h=>by rw[bG,jF,z5]at h;cases h
 | a::_,[],h=>by rw[bG,jF,z5]at h;cases h
 | a::l,b::m,h=>by
  rw[bG,bG,jF,jF,z5,z5]at h;unfold row at h;injection h with h1 h;injection h with h2 h;rw[Jt h];exact congrArg (· :: m) (mK h1 h2)
theorem Lj{F F':List (List Cell)}(h:F.Perm F'):eO (F.map CF)=eO (F'.map CF):=by
 refine Bp (le:=fun a b=>qC (fl a) (fl b)=true) (fun a b ha hb h1 h2=>?_) (jW _) (jW _) (((bZ _).trans (h.map CF)).trans (bZ _).symm);obtain⟨x,_,rfl⟩:=aO.mp ((bZ _).mem_iff.mp ha);obtain⟨y,_,rfl⟩:=aO.mp ((bZ _).mem_iff.mp hb);have:=sV _ _ h1 h2;unfold CF aX at this;rw[qj,qj]at this;injection this with _ e;rw[Jt e]
theorem aq6(G:List (List Cell)):(G.map CF).map Xo=G.map aX:=by rw[eZ];rfl
theorem Uk{L:List (List Cell×List cB)}(hl:L.length<=5000)(h:∀z∈L,z.1.length<=60):nX t [.d8 2 (iJ L)] = .ok (.lst ((eO ((L.map (·.1)).map CF)).map Xo)):=by
 have e:rO (iP (L.map (·.1))) = .ok (.lst ((eO ((L.map (·.1)).map CF)).map Xo)):=by unfold rO iP;dsimp only;rw[aM4 (Jr fun s m=>by obtain⟨z,hz,rfl⟩:=aO.mp m;exact h z hz),eZ (f:=aX),show zN∘aX=CF from funext Vf]
 unfold nX;refine gF [some (.d8 2 (iJ L))] (jP (un1 (a:=iP (L.map (·.1))) ?_ e));unfold iP;rw[eZ];refine mz (ds:=L.map fun z=>tS z.1) ?_ (by rw[br];exact hl) ?_;unfold T3;show(match iz (some (some (.d8 2 (iJ L))))with|some y=>_|none=>_)=_;rw[lS];show R.ok ((uf L).map fun t=>t.2.1)=_;unfold uf;rw[eZ];rfl;exact comp_map (S:=fun z=>[some (tS z.1)]) (P:=fun st=>∃y,st=[y]) L (fun x _=>⟨_,rfl⟩) (fun x _ st kX=>by obtain⟨y,e⟩:=kX;subst e;rfl) (fun x _=>rfl) (fun x _=>Qf (a:=tS x.1) rfl (by
  unfold m9 tS;dsimp only;rw[aM4 (gy fun d hd=>by obtain ⟨c,_,rfl⟩:=aO.mp hd;unfold cD;simp[gJ,dS])];rfl)) _ ⟨none,rfl⟩
theorem closed{aa:List Cell}{F:List (List Cell)}(cl:∀s∈F,∀p∈EU aa s,bL s p∈F):∀(row:List cB) (s:List Cell),s∈F->vZ aa s row->kM s row∈F
 | [],_,h,_=>h
 | p::r,s,h,ok=>closed cl r _ (cl s h p ok.1) ok.2
theorem Vg{f:DF}(h:f st = .ok (.lst ds)):gu f st = .ok ds:=by rw[ap4,h]
theorem aq7{aa az:List Cell}(up:cj aa)(hl:aa.length<=12)(lZ:(b9 aa).length<64)(S:fU aa az)(st:ir)(h1:st[1]?=some (some (aX aa)))(h3:st[3]?=some (some (aX az))) :
  ∃G:List (List Cell),G≠[]/\G.length<=4096/\(∀s∈G,s.length<=12)/\l0 t [bB aa,aX az] = .ok (iP G)/\
   (gq (gu (cQ pT (af (gq (gu (cQ (iH t) (af (au 1) (af (au 3) aH)))) 1 [] (d7 0) (dC (.bl true)) (cY 100 (af (oz P6 (cQ pI (af (au 0) aH))) (af (au 0) aH)))) aH))) 1 [] (d7 0) (dC (.bl true)) (bw fS (au 0) (dC (.int 1)))) st = .ok (iP G):=by
 have lp:=(jQ up S.1 S.2).length_le;obtain⟨F,hF,I,cl⟩:=Ui t up hl lZ S (by lia);have k:=Cy t (by lia) (zq up hl) S (by lia) (az.length+1);have kb:=zq up hl _ k;have lF:=CA up hl F I.nd fun u m=>(I.Ug u m).nc S;have hP:F.Perm ((jN aa az (az.length+1)).map (·.1)):=(Bd I.nd k.1).mpr fun s=>by
  have hr:s∈F↔QS aa az s:=⟨I.Ug s,fun zz=>by obtain⟨row,ok,e⟩:=zz;rw[<- e];exact closed cl row _ I.hd ok⟩
  rw[hr,<- Uj S,rg,aO];exact⟨fun zz=>by obtain⟨z,m,e⟩:=zz;exact⟨z,m,eq_of_beq e⟩,fun zz=>by obtain⟨z,m,e⟩:=zz;exact⟨z,m,by rw[<- e];exact aN5 _⟩⟩
 obtain⟨G,hG,eG⟩:=QV (bZ (F.map CF));have lG:=hG.length_eq;have hS:∀s∈F,s.length<=12:=fun s m=>by have:=(jQ up ((I.Ug s m).nc S).1 ((I.Ug s m).nc S).2).length_le;lia
 refine⟨G,fun z=>?_,by lia,fun s m=>hS s (hG.mem_iff.mp m),?_,?_⟩;have:=hG.mem_iff.mpr I.hd;rw[z]at this;cases this;have c1:=(Qs t (aa:=aa) (az:=az) (by lia)).1 S;have hf:=QO t (by lia) (zq up hl) S (by lia);have ho:=Uk t (L:=jN aa az (az.length+1)) (by lia) fun z m=>by have:=(jQ up (k.2 z m).1 (k.2 z m).2).length_le;lia
 rw[<- Lj hP,eG,aq6]at ho;unfold l0;refine gF [some (bB aa),some (aX az)] ?_;rw[bM (Tz (Rf (a:=bB aa) (b:=aX az) rfl rfl c1))];exact jP (Qf (Rf (a:=bB aa) (b:=aX az) rfl rfl hf) ho);have hC:(gq (gu (cQ (iH t) (af (au 1) (af (au 3) aH)))) 1 [] (d7 0) (dC (.bl true)) (cY 100 (af (oz P6 (cQ pI (af (au 0) aH))) (af (au 0) aH)))) st = .ok (.lst (F.map CF)):=by refine mz (ds:=F.map aX) ?_ (by rw[br];lia) ?_;exact Vg (Rf (a:=aX aa) (b:=aX az) (by simp[h1]) (by simp[h3]) hF);exact comp_map (S:=fun s=>[some (aX s)]) (P:=fun st=>∃y,st=[y]) F (fun x _=>⟨_,rfl⟩) (fun x _ st kX=>by obtain⟨y,e⟩:=kX;subst e;rfl) (fun x _=>rfl) (fun x _=>by simp[CF,aX]) _ ⟨none,rfl⟩
 have hT:pT [.lst (F.map CF)] = .ok (.lst (G.map CF)):=by
  have hk:=Jr (F:=F) fun s m=>by have:=hS s m;lia
  unfold Q3 at hk;rw[bR,bR,eZ,show zN∘aX=CF from funext Vf]at hk;unfold pT;dsimp only;rw[aM4 hk.1.2,eG]
 unfold iP;refine mz (ds:=G.map CF) ?_ (by rw[br];lia) ?_;exact Vg (Qf hC hT);exact comp_map (S:=fun s=>[some (CF s)]) (P:=fun st=>∃y,st=[y]) G (fun x _=>⟨_,rfl⟩) (fun x _ st kX=>by obtain⟨y,e⟩:=kX;subst e;rfl) (fun x _=>rfl) (fun x _=>lT (a:=CF x) (b:=.int 1) rfl rfl rfl) _ ⟨none,rfl⟩
theorem Ju:∀F:List (List Cell),fm (F.map aX) (F.map aX)=true
 | []=>by simp[fm]
 | a::F=>by rw[bG,fm,Cz,aM6 rfl,Bl];exact Ju F
theorem Jv(neg:Bool)(F:List (List Cell)):nE neg (iP F) (iP F) = .ok (.bl (!neg)):=by
 have fl:∀a:List Cell,flat (aX a)=true:=fun a=>by unfold aX;rw[flat];exact z4 a
 have dp:∀a:List Cell,dep (aX a)<=2:=fun a=>by have:=qk a;unfold aX;rw[dep];lia
 have fF:flat (iP F)=true:=by unfold iP;rw[flat];exact ie fun d hd=>by obtain⟨c,_,rfl⟩:=aO.mp hd;exact fl c
 have dF:dep (iP F)<=60:=by
  have:=sN (n:=2) (ds:=F.map aX) fun d hd=>by obtain⟨c,_,rfl⟩:=aO.mp hd;exact dp c
  unfold iP;rw[dep];lia
 have eF:j7 (iP F) (iP F)=true:=by unfold iP;rw[j7];exact Ju F
 unfold nE;rw[fF,aM4 (by simp[dF]),eF];cases neg <;> rfl
theorem Ye(c:Int)(st:ir)(f:DF)(h:f st = .ok (.int c)):∃m:Nat,(m=9\/m=12)/\(bw fS (dw 100 (af (dC (.int 9)) (af (dC (.int 9)) (af (dC (.int 9)) (af (dC (.int 12)) aH))))) (bw jG f (dC (.int 4)))) st = .ok (.int (m:Nat)):=by
 have e1:(bw jG f (dC (.int 4))) st = .ok (.int (c % 4)):=lT (a:=.int c) (b:=.int 4) h rfl (qN (by decide));have e2:(dw 100 (af (dC (.int 9)) (af (dC (.int 9)) (af (dC (.int 9)) (af (dC (.int 12)) aH))))) st = .ok (.lst [.int 9,.int 9,.int 9,.int 12]):=rfl;have h0:0<=c % 4:=by lia
 have h4:c % 4<4:=by lia
 generalize c % 4=j at e1 h0 h4;have:j=0\/j=1\/j=2\/j=3:=by lia
 rcases this with rfl|rfl|rfl|rfl;exact⟨9,.inl rfl,lT e2 e1 rfl⟩;exact⟨9,.inl rfl,lT e2 e1 rfl⟩;exact⟨9,.inl rfl,lT e2 e1 rfl⟩;exact⟨12,.inr rfl,lT e2 e1 rfl⟩
def Yg(t:jY):DS:=(cA (eE 6 (cQ m9 (af (au 3) aH)))
 (cA (Ei 7 (cQ (l0 t) (af (au 2) (af (au 6) aH))))
 (cA (Dm.f9 (Ra (rL (oz (E5 jZ) (au 7))) (rL (cQ Hu (af (gq (gu (au 7)) 1 [] (d7 0) (dC (.bl true)) (oz (E5 jZ) (au 0))) aH))))
 (gK (dC (.bl false)))
 cZ)
 (cA (Dm.f9 (Ra (bw (nE true) (au 7) (au 4)) (bw (nE true) (au 6) (au 3)))
 (gK (dC (.bl false)))
 cZ)
 (cA (J8 7 (cY 100 (af (dC (.int 9)) (af (dC (.int 9)) aH))))
 (cA (Dm.f9 (Ra (bw (nE true) (L3 (au 7) (some (dC (.int 1))) none) (L3 (au 4) (some (dC (.int 1))) none)) (bw (nE true) (au 6) (au 3)))
 (gK (dC (.bl false)))
 cZ)
 (J9 7)))))))
theorem aq8{ns:List Int}{l g:List Cell}{s:List Cell}{G:List (List Cell)}(hR:l0 t [bB l,aX g] = .ok (iP (s::G)))(lG:G.length<=4096)(ls:s.length<=12)(k y z:Option D) :
  Yg t [some (iL ns),some (aX l),some (bB l),some (aX g),some (iP (s::G)),k,y,z] = .nx [some (iL ns),some (aX l),some (bB l),some (aX g),some (iP (s::G)),k,some (aX g),none]:=by
 have eg:nE true (aX g) (aX g) = .ok (.bl false):=by rw[Cs];simp
 have b:Z7 (iP (s::G))=true:=by show(dS (s.map cD)&&(G.map aX).all _)=true;rw[Cr,Bl];refine f7.mpr fun d m=>?_;obtain⟨c,_,rfl⟩:=aO.mp m;exact Cr c
 have sl:∀(a:D) (D':List D),cutD (a::D') (some 1) none=D':=fun a D'=>Eu (a::D') 1;unfold Yg;rw[bM (st':=[some (iL ns),some (aX l),some (bB l),some (aX g),some (iP (s::G)),k,some (aX g),z]) (by simp),
  bM (st':=[some (iL ns),some (aX l),some (bB l),some (aX g),some (iP (s::G)),k,some (aX g),some (iP (s::G))]) (by
   unfold Ei
   rw[Rf (a:=bB l) (b:=aX g) rfl rfl hR]
   dsimp only
   rw[aM4 b];rfl)]
 have i1:(oz (E5 jZ) (au 7)) [some (iL ns),some (aX l),some (bB l),some (aX g),some (iP (s::G)),k,some (aX g),some (iP (s::G))] = .ok (.bl true):=rfl;have i2:(cQ Hu (af (gq (gu (au 7)) 1 [] (d7 0) (dC (.bl true)) (oz (E5 jZ) (au 0))) aH)) [some (iL ns),some (aX l),some (bB l),some (aX g),some (iP (s::G)),k,some (aX g),some (iP (s::G))] = .ok (.bl true):=by refine Qf (mz (ds:=(s::G).map aX) rfl (by rw[br,dg];lia) ?_) (all_true (s::G));exact comp_map (S:=fun s=>[some (aX s)]) (P:=fun st=>∃y,st=[y]) (s::G) (fun x _=>⟨_,rfl⟩) (fun x _ st kX=>by obtain⟨y,e⟩:=kX;subst e;rfl) (fun x _=>rfl) (fun x _=>rfl) _ ⟨none,rfl⟩
 rw[bM (st':=[some (iL ns),some (aX l),some (bB l),some (aX g),some (iP (s::G)),k,some (aX g),some (iP (s::G))]) (by
   rw[uc (Qg (Vc i1) (Vc i2))];rfl),
  bM (st':=[some (iL ns),some (aX l),some (bB l),some (aX g),some (iP (s::G)),k,some (aX g),some (iP (s::G))]) (by
   rw[uc (Qg (lT (a:=iP (s::G)) (b:=iP (s::G)) rfl rfl (Jv ..)) (lT (a:=aX g) (b:=aX g) rfl rfl eg))];rfl),
  bM (st':=[some (iL ns),some (aX l),some (bB l),some (aX g),some (iP (s::G)),k,some (aX g),some (.lst (.lst (s.map cD++[cD (9,9)])::G.map aX))]) (by
   show(if(s.map cD).length<=5000/\gJ (cD (9,9))=true then _ else _)=_
   rw[aM4 ⟨by rw[br];lia,Qc _⟩];rfl),
  bM (st':=[some (iL ns),some (aX l),some (bB l),some (aX g),some (iP (s::G)),k,some (aX g),some (.lst (.lst (s.map cD++[cD (9,9)])::G.map aX))]) (by
   rw[uc (Qg (lT (a:=iP G) (b:=iP G) (by
    show R.ok (D.lst (cutD (_::G.map aX) (some 1) none))=_
    rw[sl];rfl) (by
    show R.ok (D.lst (cutD (aX s::G.map aX) (some 1) none))=_
    rw[sl];rfl) (Jv ..)) (lT (a:=aX g) (b:=aX g) rfl rfl eg))];rfl)]
 rfl
theorem aq9(ns:List Int):AO t [iL ns] = .ok (.bl true):=by
 obtain⟨c,Za⟩:∃c:Int,bH t [iL ns,.int 2] = .ok (.int c):=⟨_,TY t ns 2⟩
 obtain⟨c3,aJ1⟩:∃c:Int,bH t [iL ns,.int 3] = .ok (.int c):=⟨_,TY t ns 3⟩
 obtain⟨m,hm,e0⟩:=Ye c3 [some (iL ns),none,none,none,none,none,none,none] (cQ (bH t) (af (au 0) (af (dC (.int 3)) aH))) (Rf (a:=iL ns) (b:=.int 3) rfl rfl aJ1);obtain⟨l,hl,dl⟩:=U3 t ns m (by lia);have ll:=dl.le;obtain⟨g,hg,sub⟩:=XQ t c (l:=l) dl.pos (by lia);have hB:=U5 t (dl.mono (by lia:m<=24));obtain⟨G,nG,lG,hs,hR,hD⟩:=aq7 t dl.up (by lia:l.length<=12) dl.lZ (.sub dl.up sub) [some (iL ns),some (aX l),some (bB l),some (aX g),none,none,none,none] rfl rfl;unfold AO;refine gF [some (iL ns),none,none,none,none,none,none,none] ?_;rw[bM (st':=[some (iL ns),some (aX l),none,none,none,none,none,none]) (jO (Rf (a:=iL ns) (b:=.int (m:Nat)) rfl e0 hl)),
  bM (st':=[some (iL ns),some (aX l),some (bB l),none,none,none,none,none]) (by simp[hB]),
  bM (st':=[some (iL ns),some (aX l),some (bB l),some (aX g),none,none,none,none]) (by simp[Za,hg]),
  bM (st':=[some (iL ns),some (aX l),some (bB l),some (aX g),some (iP G),none,none,none]) (jO hD)]
 cases G with
 | nil=>exact aN6 rfl nG
 | cons s G=>have lap:=fun k y z=>aq8 t (ns:=ns) (l:=l) (g:=g) hR (by rw[dg]at lG;lia) (hs s (.head _)) k y z;have hi:yE (af (dC (.int 2)) aH) [some (iL ns),some (aX l),some (bB l),some (aX g),some (iP (s::G)),none,none,none] = .ok [.int 0,.int 1]:=rfl;show cA (iw (yE (af (dC (.int 2)) aH)) (d7 5) (Yg t)) _ _=_;rw[bM (F:=iw _ _ _) (by unfold iw;rw[hi];exact XX rfl (lap _ _ _) rfl (lap _ _ _))];refine jP (lT (a:=aX l) (b:=aX l) (un1 (a:=bB l) rfl (TJ l)) rfl ?_);rw[Cs];simp
end Pk
end Yd
section Yh
noncomputable section
namespace Hd
open PySem PySem.W PySem.Calls PyProof.Rows
abbrev pq:dG:=PySem.Challenge.pw_pegleap_k08_reached
def nth:List bz → Nat → bz
  | [],_=> .Pass ⟨0,0,0,0⟩
  | s::_,0=>s
  | _::r,n+1=>nth r n
def tk:Nat → List bz → List bz
  | 0,_=>[]
  | _,[]=>[]
  | n+1,s::r=>s::tk n r
def dr:Nat → List bz → List bz
  | 0,l=>l
  | _,[]=>[]
  | n+1,_::r=>dr n r
def st(i:Nat):bz:=nth pq.main.body i
def sc(i j:Nat):bz:=match st i with | .ClassDef _ _ _ b _ _ _ _ _ _ _=>nth b j|s=>s
def fN:bz → Str | .FunctionDef n _ _ _ _ _ _ _ _ _=>n|_=>default
def fX(s:bz)(q:Str)(g:ay)(cl:List (Str×ay))(dv kv doc pm:av)(an:Option ay)(cd ct:av)(bi:ay):PySem.Data:=match s with | .FunctionDef n a b _ _ _ sc _ _ _=> .func ⟨n,q,a,.stmts b,sc,g,cl,dv,kv,doc,pm,an,cd,ct,bi⟩|_=> .plain
def en(P:fY)(x:Str)(t:Tok)(v:av):qT:=⟨PyData.keyHash P x,.str x t,v⟩
theorem Ul{tb:String → Option Builtin}{p:dG}{w:bQ}{n:Nat}{a:Option av}{N:Nat}{s r:aA}{env:Env}{c:Code}{pos:Pos}{B:List Frame}{b b':List bz}(e:b=b')(k:topRun tb p w n a N s (restOf b' env c pos B)=some r):topRun tb p w n a N s (restOf b env c pos B)=some r:=e▸k
noncomputable def tO (vs:Array av):Obj:=⟨.type "tuple",none,.seq vs 0,#[]⟩
noncomputable def cO (n q:Str) (t:Tok) (L a k:Int) (r:ay) (b:Bool) (c:ay) (x y z:av) (u:Nat):Obj:=⟨.type "code",none,.fields #[.str n t,.str q (t+1),.str "/claim/cut.py" (t+2),.int L 0,.int a 0,.int 0 0,.int 0 0,.int k 0,.ref r,.bool b,.int 181 0,.ref c,.none,x,y,z,.int u 0,.int L 0,.str "/claim/cut.py" (u+1)],#[]⟩
noncomputable def fO (s:bz) (g:ay) (m:Str) (t:Tok) (c:ay):Obj:=⟨.type "function",none,fX s (fN s) g [] .none .none .none (.str m t) none (.ref c) .none 0,#[]⟩
noncomputable def fZ (s:bz):Obj:=⟨.none,none,fX s (fN s) 0 [] .none .none .none .none none .none .none 0,#[]⟩
abbrev nd(o:Obj)(l r:BT):BT:= .node o l r
abbrev ly(o:Obj):BT:= .node o .nil .nil
def o0:Obj:=tO #[]
def o1:Obj:=⟨.none,none,(.fields #[]),#[]⟩
def o2:Obj:=cO "<module>" "<module>" 182 1 0 0 11 false 12 .none .none .none 185
def o3:Obj:=⟨.type "frame",none,.plain,#[(some (.ref 13)),(some (.ref 3)),(some (.ref 3)),none,(some (.str "__main__" 164)),none,(some (.ref 0))]⟩
def lf0:Life:={}
def Ha(P:fY):aY:=⟨⟨[boot_o_0 P,boot_o_1 P,boot_o_2 P,boot_o_3 P,boot_o_4 P,boot_o_5 P,boot_o_6 P,boot_o_7 P,boot_o_8 P,boot_o_9 P,boot_o_10 P,o0,o1,o2,o3]⟩,lf0⟩
def T0(P:fY):BT:=(nd (boot_o_0 P) (nd (boot_o_1 P) (nd (boot_o_3 P) (ly (boot_o_7 P)) (ly o0)) (nd (boot_o_5 P) (ly (boot_o_9 P)) (ly o2))) (nd (boot_o_2 P) (nd (boot_o_4 P) (ly (boot_o_8 P)) (ly o1)) (nd (boot_o_6 P) (ly (boot_o_10 P)) (ly o3))))
def S0(w:bQ)(os:OsState):SharedT:=⟨T0 w.params,15,lf0,#[],⟨0,0,0,0⟩,187,os⟩
def o4(P:fY):Obj:=⟨.type "dict",none,(.dict #[en P "__name__" 165 (.str "pegleap.boards" 239),en P "__doc__" 166 .none,en P "__package__" 167 .none,en P "__loader__" 168 (.builtin "__main__.__loader__#opaque"),en P "__spec__" 169 .none,en P "__annotations__" 170 (.ref 6),en P "__builtins__" 171 (.ref 4),en P "__file__" 173 (.str "/claim/cut.py" 172),en P "__cached__" 174 .none,en P "PegError" 206 (.ref 24),en P "BadBoard" 222 (.ref 37),en P "BadPegs" 238 (.ref 49),en P "LAST" 242 (.int 7 241),en P "MOST_CELLS" 244 (.int 24 243),en P "is_rising" 251 (.ref 58),en P "is_cell" 258 (.ref 65),en P "check_cells" 266 (.ref 72)] 17),#[]⟩
def o5:Obj:=⟨.none,none,(.fields #[.int 2 0,.int 0 0,.ref 20,.int 4 0,.int 0 0,.ref 33,.int 6 0,.int 0 0,.ref 45,.int 11 0,.int 0 0,.ref 57,.int 13 0,.int 0 0,.ref 64,.int 15 0,.int 0 0,.ref 71]),#[]⟩
def o6:Obj:=tO #[.type "ValueError"]
def o7:Obj:=⟨.type "builtin_function_or_method",none,(.fields #[.builtin "type.__prepare__",.type "type"]),#[]⟩
def o8(P:fY):Obj:=⟨.type "dict",none,(.dict #[en P "__module__" 196 (.str "pegleap.errors" 187),en P "__qualname__" 198 (.str "PegError" 197),en P "__firstlineno__" 200 (.int 2 199),en P "__static_attributes__" 201 (.ref 22)] 4),#[]⟩
def o9:Obj:=cO "PegError" "PegError" 191 2 0 0 18 false 19 .none .none .none 194
def o10:Obj:=⟨.type "frame",none,.plain,#[(some (.ref 20)),(some (.ref 3)),(some (.ref 17)),none,(some (.str "pegleap.errors" 187)),none,(some (.ref 0))]⟩
def o11(P:fY):Obj:=⟨.type "dict",none,(.dict #[en P "__module__" 196 (.str "pegleap.errors" 187),en P "__firstlineno__" 200 (.int 2 199),en P "__static_attributes__" 201 (.ref 22),en P "__weakref__" 203 (.ref 25),en P "__doc__" 204 .none] 3),#[]⟩
def o12:Obj:=⟨.type "type",none,(.cls ⟨"PegError",[.type "ValueError"],[.ref 24,.type "ValueError",.type "Exception",.type "BaseException",.type "object"],23,"PegError",true,[],[.ref 37,.ref 49],false,none,false⟩),#[(some (.ref 15)),none,(some (.str "PegError" 189)),(some (.str "PegError" 197)),(some (.builtin "ValueError.__new__")),(some (.bool true))]⟩
def o13:Obj:=⟨.type "getset_descriptor",none,(.fields #[.str "__weakref__" 202,.ref 24,.builtin "ExceptionGroup.__weakref__",.none]),#[]⟩
def o14:Obj:=⟨.type "super",none,(.fields #[.ref 24,.ref 24,.ref 24]),#[]⟩
def o15:Obj:=⟨.type "builtin_function_or_method",none,(.fields #[.builtin "object.__init_subclass__",.ref 24]),#[]⟩
def Zb:Obj:=tO #[.ref 24]
def o17(P:fY):Obj:=⟨.type "dict",none,(.dict #[en P "__module__" 214 (.str "pegleap.errors" 187),en P "__qualname__" 216 (.str "BadBoard" 215),en P "__firstlineno__" 218 (.int 4 217),en P "__static_attributes__" 219 (.ref 35)] 4),#[]⟩
def o18:Obj:=cO "BadBoard" "BadBoard" 209 4 0 0 31 false 32 .none .none .none 212
def o19:Obj:=⟨.type "frame",none,.plain,#[(some (.ref 33)),(some (.ref 3)),(some (.ref 30)),none,(some (.str "pegleap.errors" 187)),none,(some (.ref 0))]⟩
def o20(P:fY):Obj:=⟨.type "dict",none,(.dict #[en P "__module__" 214 (.str "pegleap.errors" 187),en P "__firstlineno__" 218 (.int 4 217),en P "__static_attributes__" 219 (.ref 35),en P "__doc__" 220 .none] 2),#[]⟩
def o21:Obj:=⟨.type "type",none,(.cls ⟨"BadBoard",[.ref 24],[.ref 37,.ref 24,.type "ValueError",.type "Exception",.type "BaseException",.type "object"],36,"BadBoard",true,[],[],false,none,false⟩),#[(some (.ref 28)),none,(some (.str "BadBoard" 207)),(some (.str "BadBoard" 215)),(some (.builtin "ValueError.__new__")),(some (.bool true))]⟩
def o22:Obj:=⟨.type "super",none,(.fields #[.ref 37,.ref 37,.ref 37]),#[]⟩
def o23:Obj:=⟨.type "builtin_function_or_method",none,(.fields #[.builtin "object.__init_subclass__",.ref 37]),#[]⟩
def o24(P:fY):Obj:=⟨.type "dict",none,(.dict #[en P "__module__" 230 (.str "pegleap.errors" 187),en P "__qualname__" 232 (.str "BadPegs" 231),en P "__firstlineno__" 234 (.int 6 233),en P "__static_attributes__" 235 (.ref 47)] 4),#[]⟩
def o25:Obj:=cO "BadPegs" "BadPegs" 225 6 0 0 43 false 44 .none .none .none 228
def o26:Obj:=⟨.type "frame",none,.plain,#[(some (.ref 45)),(some (.ref 3)),(some (.ref 42)),none,(some (.str "pegleap.errors" 187)),none,(some (.ref 0))]⟩
def o27(P:fY):Obj:=⟨.type "dict",none,(.dict #[en P "__module__" 230 (.str "pegleap.errors" 187),en P "__firstlineno__" 234 (.int 6 233),en P "__static_attributes__" 235 (.ref 47),en P "__doc__" 236 .none] 2),#[]⟩
def o28:Obj:=⟨.type "type",none,(.cls ⟨"BadPegs",[.ref 24],[.ref 49,.ref 24,.type "ValueError",.type "Exception",.type "BaseException",.type "object"],48,"BadPegs",true,[],[],false,none,false⟩),#[(some (.ref 40)),none,(some (.str "BadPegs" 223)),(some (.str "BadPegs" 231)),(some (.builtin "ValueError.__new__")),(some (.bool true))]⟩
def o29:Obj:=⟨.type "super",none,(.fields #[.ref 49,.ref 49,.ref 49]),#[]⟩
def o30:Obj:=⟨.type "builtin_function_or_method",none,(.fields #[.builtin "object.__init_subclass__",.ref 49]),#[]⟩
def o31:Obj:=tO #[.str "cells" 248]
def o32:Obj:=fZ (st 7)
def o33:Obj:=cO "is_rising" "is_rising" 245 11 1 3 52 true 53 (.ref 54) (.ref 55) (.ref 56) 249
def o34:Obj:=fO (st 7) 3 "pegleap.boards" 239 57
def o35:Obj:=tO #[.str "cell" 255]
def o36:Obj:=fZ (st 8)
def o37:Obj:=cO "is_cell" "is_cell" 252 13 1 3 59 true 60 (.ref 61) (.ref 62) (.ref 63) 256
def o38:Obj:=fO (st 8) 3 "pegleap.boards" 239 64
def o39:Obj:=tO #[.str "cells" 262,.str "cell" 263]
def o40:Obj:=fZ (st 9)
def o41:Obj:=cO "check_cells" "check_cells" 259 15 1 3 66 true 67 (.ref 68) (.ref 69) (.ref 70) 264
def o42:Obj:=fO (st 9) 3 "pegleap.boards" 239 71
def T1(P:fY):BT:=(nd (boot_o_0 P) (nd (boot_o_1 P) (nd (o4 P) (nd (boot_o_7 P) (nd o6 (nd o0 (ly o36) .nil) (ly o0)) (nd (o11 P) (nd o23 (ly o41) .nil) (ly o0))) (nd o0 (nd o1 (nd o0 (ly o1) .nil) (ly o30)) (nd o15 (ly o0) (ly o0)))) (nd (boot_o_5 P) (nd (boot_o_9 P) (nd (o8 P) (nd o18 (ly o38) .nil) (ly o28)) (nd o13 (ly o7) (ly o33))) (nd o2 (nd o10 (nd o21 (ly o0) .nil) (ly o1)) (nd o7 (ly o25) (ly o35))))) (nd (boot_o_2 P) (nd (boot_o_4 P) (nd (boot_o_8 P) (nd o7 (nd o1 (ly o37) .nil) (ly (o27 P))) (nd o12 (nd Zb (ly o42) .nil) (ly o32))) (nd o5 (nd o9 (nd (o20 P) (ly o39) .nil) (ly o0)) (nd Zb (ly o1) (ly o1)))) (nd (boot_o_6 P) (nd (boot_o_10 P) (nd o0 (nd o19 (ly o0) .nil) (ly o29)) (nd o14 (ly (o24 P)) (ly o34))) (nd o3 (nd o0 (nd o22 (ly o40) .nil) (ly o31)) (nd (o17 P) (ly o26) (ly o0))))))
def S1(w:bQ)(os:OsState):SharedT:=⟨T1 w.params,73,lf0,#[],⟨0,0,0,0⟩,267,os⟩
def o43(P:fY):Obj:=⟨.type "dict",none,(.dict #[en P "__name__" 165 (.str "law_pegleap_k08_reached" 394),en P "__doc__" 166 .none,en P "__package__" 167 .none,en P "__loader__" 168 (.builtin "__main__.__loader__#opaque"),en P "__spec__" 169 .none,en P "__annotations__" 170 (.ref 6),en P "__builtins__" 171 (.ref 4),en P "__file__" 173 (.str "/claim/cut.py" 172),en P "__cached__" 174 .none,en P "PegError" 206 (.ref 24),en P "BadBoard" 222 (.ref 37),en P "BadPegs" 238 (.ref 49),en P "LAST" 242 (.int 7 241),en P "MOST_CELLS" 244 (.int 24 243),en P "is_rising" 251 (.ref 58),en P "is_cell" 258 (.ref 65),en P "check_cells" 266 (.ref 72),en P "Board" 295 (.ref 89),en P "check_pegs" 304 (.ref 100),en P "two_apart" 313 (.ref 107),en P "between" 321 (.ref 114),en P "leaps" 331 (.ref 121),en P "can_be_done" 341 (.ref 128),en P "pegs_behind" 347 (.ref 133),en P "steps_from" 355 (.ref 138),en P "next_rows" 368 (.ref 145),en P "first_rows" 379 (.ref 152),en P "in_order" 385 (.ref 157),en P "reached" 393 (.ref 164),en P "_law_cell_at" 403 (.ref 171),en P "_law_mix" 414 (.ref 178),en P "_law_cells_by" 429 (.ref 185),en P "_law_pegs_by" 435 (.ref 190),en P "_law_between" 442 (.ref 197),en P "_law_leaps" 453 (.ref 204),en P "_law_open" 464 (.ref 211),en P "_law_behind" 470 (.ref 216),en P "_law_reach" 482 (.ref 223),en P "law" 488 (.ref 228)] 39),#[]⟩
def o44:Obj:=⟨.none,none,(.fields #[.int 2 0,.int 0 0,.ref 20,.int 4 0,.int 0 0,.ref 33,.int 6 0,.int 0 0,.ref 45,.int 11 0,.int 0 0,.ref 57,.int 13 0,.int 0 0,.ref 64,.int 15 0,.int 0 0,.ref 71,.int 23 0,.int 0 0,.ref 78,.int 28 0,.int 0 0,.ref 99,.int 34 0,.int 0 0,.ref 106,.int 38 0,.int 0 0,.ref 113,.int 40 0,.int 0 0,.ref 120,.int 48 0,.int 0 0,.ref 127,.int 50 0,.int 0 0,.ref 132,.int 54 0,.int 0 0,.ref 137,.int 56 0,.int 0 0,.ref 144,.int 63 0,.int 0 0,.ref 151,.int 71 0,.int 0 0,.ref 156,.int 73 0,.int 0 0,.ref 163,.int 77 0,.int 0 0,.ref 170,.int 81 0,.int 0 0,.ref 177,.int 86 0,.int 0 0,.ref 184,.int 99 0,.int 0 0,.ref 189,.int 105 0,.int 0 0,.ref 196,.int 107 0,.int 0 0,.ref 203,.int 115 0,.int 0 0,.ref 210,.int 121 0,.int 0 0,.ref 215,.int 124 0,.int 0 0,.ref 222,.int 134 0,.int 0 0,.ref 227]),#[]⟩
def o45(P:fY):Obj:=⟨.type "dict",none,(.dict #[en P "__module__" 274 (.str "pegleap.boards" 239),en P "__qualname__" 276 (.str "Board" 275),en P "__firstlineno__" 278 (.int 23 277),en P "__init__" 286 (.ref 86),en P "__static_attributes__" 288 (.ref 87)] 5),#[]⟩
def o46:Obj:=⟨.none,none,(.fields #[.int 25 0,.int 4 0,.ref 85]),#[]⟩
def o47:Obj:=cO "Board" "Board" 269 23 0 0 76 false 77 .none .none .none 272
def o48:Obj:=⟨.type "frame",none,.plain,#[(some (.ref 78)),(some (.ref 3)),(some (.ref 75)),none,(some (.str "pegleap.boards" 239)),none,(some (.ref 0))]⟩
def o49:Obj:=tO #[.str "self" 282,.str "cells" 283]
def o50:Obj:=⟨.none,none,(fX (sc 10 0) "Board.__init__" 0 [] .none .none .none .none none .none .none 0),#[]⟩
def o51:Obj:=cO "__init__" "Board.__init__" 279 25 2 3 80 true 81 (.ref 82) (.ref 83) (.ref 84) 284
def o52:Obj:=⟨.type "function",none,(fX (sc 10 0) "Board.__init__" 3 [] .none .none .none (.str "pegleap.boards" 239) none (.ref 85) .none 0),#[]⟩
def o53:Obj:=tO #[.str "cells" 287]
def o54(P:fY):Obj:=⟨.type "dict",none,(.dict #[en P "__module__" 274 (.str "pegleap.boards" 239),en P "__firstlineno__" 278 (.int 23 277),en P "__init__" 286 (.ref 86),en P "__static_attributes__" 288 (.ref 87),en P "__dict__" 290 (.ref 90),en P "__weakref__" 292 (.ref 91),en P "__doc__" 293 .none] 4),#[]⟩
def o55:Obj:=⟨.type "type",none,(.cls ⟨"Board",[.type "object"],[.ref 89,.type "object"],88,"Board",true,[],[],false,none,false⟩),#[none,none,(some (.str "Board" 267)),(some (.str "Board" 275)),(some (.builtin "object.__new__")),(some (.bool true))]⟩
def o56:Obj:=⟨.type "getset_descriptor",none,(.fields #[.str "__dict__" 289,.ref 89,.builtin "function.__dict__",.builtin "function.__dict__#set"]),#[]⟩
def o57:Obj:=⟨.type "getset_descriptor",none,(.fields #[.str "__weakref__" 291,.ref 89,.builtin "ExceptionGroup.__weakref__",.none]),#[]⟩
def o58:Obj:=⟨.type "super",none,(.fields #[.ref 89,.ref 89,.ref 89]),#[]⟩
def o59:Obj:=⟨.type "builtin_function_or_method",none,(.fields #[.builtin "object.__init_subclass__",.ref 89]),#[]⟩
def o60:Obj:=tO #[.str "board" 299,.str "pegs" 300,.str "cell" 301]
def o61:Obj:=fZ (st 11)
def o62:Obj:=cO "check_pegs" "check_pegs" 296 28 2 3 94 true 95 (.ref 96) (.ref 97) (.ref 98) 302
def o63:Obj:=fO (st 11) 3 "pegleap.boards" 239 99
def o64:Obj:=tO #[.str "cell" 308,.str "row" 309,.str "column" 310]
def o65:Obj:=fZ (st 12)
def o66:Obj:=cO "two_apart" "two_apart" 305 34 1 3 101 true 102 (.ref 103) (.ref 104) (.ref 105) 311
def o67:Obj:=fO (st 12) 3 "pegleap.boards" 239 106
def o68:Obj:=tO #[.str "cell" 317,.str "other" 318]
def o69:Obj:=fZ (st 13)
def o70:Obj:=cO "between" "between" 314 38 2 3 108 true 109 (.ref 110) (.ref 111) (.ref 112) 319
def o71:Obj:=fO (st 13) 3 "pegleap.boards" 239 113
def o72:Obj:=tO #[.str "board" 325,.str "found" 326,.str "first" 327,.str "second" 328]
def o73:Obj:=fZ (st 14)
def o74:Obj:=cO "leaps" "leaps" 322 40 1 3 115 true 116 (.ref 117) (.ref 118) (.ref 119) 329
def o75:Obj:=fO (st 14) 3 "pegleap.boards" 239 120
def o76:Obj:=tO #[.str "pegs" 337,.str "leap" 338]
def o77:Obj:=fZ (st 16)
def o78:Obj:=cO "can_be_done" "can_be_done" 334 48 2 3 122 true 123 (.ref 124) (.ref 125) (.ref 126) 339
def o79:Obj:=fO (st 16) 3 "pegleap.standings" 332 127
def o80:Obj:=fZ (st 17)
def o81:Obj:=cO "pegs_behind" "pegs_behind" 342 50 2 3 129 true 130 .none .none (.ref 131) 345
def o82:Obj:=fO (st 17) 3 "pegleap.standings" 332 132
def o83:Obj:=fZ (st 19)
def o84:Obj:=cO "steps_from" "steps_from" 350 54 2 3 134 true 135 .none .none (.ref 136) 353
def o85:Obj:=fO (st 19) 3 "pegleap.search" 348 137
def o86:Obj:=tO #[.str "all_leaps" 359,.str "layer" 360,.str "found" 361,.str "standing" 362,.str "row" 363,.str "leap" 364,.str "behind" 365]
def o87:Obj:=fZ (st 20)
def o88:Obj:=cO "next_rows" "next_rows" 356 56 2 3 139 true 140 (.ref 141) (.ref 142) (.ref 143) 366
def o89:Obj:=fO (st 20) 3 "pegleap.search" 348 144
def o90:Obj:=tO #[.str "board" 372,.str "pegs" 373,.str "all_leaps" 374,.str "found" 375,.str "layer" 376]
def o91:Obj:=fZ (st 21)
def o92:Obj:=cO "first_rows" "first_rows" 369 63 2 3 146 true 147 (.ref 148) (.ref 149) (.ref 150) 377
def o93:Obj:=fO (st 21) 3 "pegleap.search" 348 151
def o94:Obj:=fZ (st 22)
def o95:Obj:=cO "in_order" "in_order" 380 71 1 3 153 true 154 .none .none (.ref 155) 383
def o96:Obj:=fO (st 22) 3 "pegleap.search" 348 156
def o97:Obj:=tO #[.str "board" 389,.str "pegs" 390]
def o98:Obj:=fZ (st 23)
def o99:Obj:=cO "reached" "reached" 386 73 2 3 158 true 159 (.ref 160) (.ref 161) (.ref 162) 391
def Yi:Obj:=fO (st 23) 3 "pegleap.search" 348 163
def ar0:Obj:=tO #[.str "script" 399,.str "k" 400]
def ar1:Obj:=fZ (st 25)
def Yj:Obj:=cO "_law_cell_at" "_law_cell_at" 396 77 2 3 165 true 166 (.ref 167) (.ref 168) (.ref 169) 401
def Yk:Obj:=fO (st 25) 3 "law_pegleap_k08_reached" 394 170
def ar2:Obj:=tO #[.str "cell" 407,.str "k" 408,.str "many" 409,.str "some" 410,.str "number" 411]
def ar3:Obj:=fZ (st 26)
def Yl:Obj:=cO "_law_mix" "_law_mix" 404 81 3 3 172 true 173 (.ref 174) (.ref 175) (.ref 176) 412
def Ym:Obj:=fO (st 26) 3 "law_pegleap_k08_reached" 394 177
def ar4:Obj:=tO #[.str "script" 418,.str "most" 419,.str "cell" 420,.str "height" 421,.str "width" 422,.str "down" 423,.str "across" 424,.str "some" 425,.str "k" 426]
def ar5:Obj:=fZ (st 27)
def Yn:Obj:=cO "_law_cells_by" "_law_cells_by" 415 86 2 3 179 true 180 (.ref 181) (.ref 182) (.ref 183) 427
def Yo:Obj:=fO (st 27) 3 "law_pegleap_k08_reached" 394 184
def ar6:Obj:=fZ (st 28)
def Yp:Obj:=cO "_law_pegs_by" "_law_pegs_by" 430 99 2 3 186 true 187 .none .none (.ref 188) 433
def Yq:Obj:=fO (st 28) 3 "law_pegleap_k08_reached" 394 189
def ar7:Obj:=tO #[.str "leap" 439]
def ar8:Obj:=fZ (st 29)
def Yr:Obj:=cO "_law_between" "_law_between" 436 105 1 3 191 true 192 (.ref 193) (.ref 194) (.ref 195) 440
def Ys:Obj:=fO (st 29) 3 "law_pegleap_k08_reached" 394 196
def ar9:Obj:=tO #[.str "cells" 446,.str "found" 447,.str "one" 448,.str "two" 449,.str "apart" 450]
def as1:Obj:=fZ (st 30)
def Yt:Obj:=cO "_law_leaps" "_law_leaps" 443 107 1 3 198 true 199 (.ref 200) (.ref 201) (.ref 202) 451
def Yu:Obj:=fO (st 30) 3 "law_pegleap_k08_reached" 394 203
def as2:Obj:=tO #[.str "cells" 457,.str "pegs" 458,.str "found" 459,.str "one" 460,.str "two" 461]
def as3:Obj:=fZ (st 31)
def Yv:Obj:=cO "_law_open" "_law_open" 454 115 2 3 205 true 206 (.ref 207) (.ref 208) (.ref 209) 462
def Yw:Obj:=fO (st 31) 3 "law_pegleap_k08_reached" 394 210
def as4:Obj:=fZ (st 32)
def Yx:Obj:=cO "_law_behind" "_law_behind" 465 121 2 3 212 true 213 .none .none (.ref 214) 468
def Yy:Obj:=fO (st 32) 3 "law_pegleap_k08_reached" 394 215
def as5:Obj:=tO #[.str "cells" 474,.str "pegs" 475,.str "found" 476,.str "at" 477,.str "leap" 478,.str "behind" 479]
def as6:Obj:=fZ (st 33)
def Yz:Obj:=cO "_law_reach" "_law_reach" 471 124 2 3 217 true 218 (.ref 219) (.ref 220) (.ref 221) 480
def YA:Obj:=fO (st 33) 3 "law_pegleap_k08_reached" 394 222
def as7:Obj:=fZ (st 34)
def YB:Obj:=cO "law" "law" 483 134 1 3 224 true 225 .none .none (.ref 226) 486
def YC:Obj:=fO (st 34) 3 "law_pegleap_k08_reached" 394 227
def T2(P:fY):BT:=(nd (boot_o_0 P) (nd (boot_o_1 P) (nd (o43 P) (nd (boot_o_7 P) (nd o6 (nd o0 (nd o36 (ly o78) (ly o0)) (nd o1 (ly o1) (ly YA))) (nd o0 (nd o48 (ly o87) (ly as2)) (nd o0 (ly o0) .nil))) (nd (o11 P) (nd o23 (nd o41 (ly o1) (ly o1)) (nd o64 (ly ar0) .nil)) (nd o0 (nd o53 (ly o92) (ly Yx)) (nd o73 (ly ar5) .nil)))) (nd o0 (nd o1 (nd o0 (nd o1 (ly o80) (ly ar8)) (nd o62 (ly o99) (ly YB))) (nd o30 (nd o0 (ly o1) (ly Yw)) (nd o0 (ly o0) .nil))) (nd o15 (nd o0 (nd (o45 P) (ly o0) (ly Yt)) (nd o67 (ly Yk) .nil)) (nd o0 (nd o57 (ly o94) (ly as5)) (nd o1 (ly o1) .nil))))) (nd (boot_o_5 P) (nd (boot_o_9 P) (nd (o8 P) (nd o18 (nd o38 (ly o0) (ly ar7)) (nd o0 (ly o0) (ly o1))) (nd o28 (nd o1 (ly o89) (ly as3)) (nd o70 (ly Yl) .nil))) (nd o13 (nd o7 (nd o0 (ly o84) (ly o0)) (nd o65 (ly ar1) .nil)) (nd o33 (nd o55 (ly o0) (ly o0)) (nd o75 (ly Yo) .nil)))) (nd o2 (nd o10 (nd o21 (nd o0 (ly o82) (ly Ys)) (nd o0 (ly o0) .nil)) (nd o1 (nd o51 (ly o0) (ly o1)) (nd o72 (ly ar4) .nil))) (nd o7 (nd o25 (nd o46 (ly o86) (ly o0)) (nd o1 (ly o1) .nil)) (nd o35 (nd o59 (ly o96) (ly as6)) (nd o0 (ly Yp) .nil)))))) (nd (boot_o_2 P) (nd (boot_o_4 P) (nd (boot_o_8 P) (nd o7 (nd o1 (nd o37 (ly o79) (ly o1)) (nd o60 (ly o97) (ly o0))) (nd (o27 P) (nd o0 (ly o88) (ly o0)) (nd o69 (ly ar3) .nil))) (nd o12 (nd Zb (nd o42 (ly o83) (ly ar9)) (nd o0 (ly o0) .nil)) (nd o32 (nd (o54 P) (ly o93) (ly Yy)) (nd o74 (ly Yn) .nil)))) (nd o44 (nd o9 (nd (o20 P) (nd o39 (ly o81) (ly Yr)) (nd o63 (ly Yi) (ly YC))) (nd o0 (nd o50 (ly o90) (ly o0)) (nd o1 (ly o1) .nil))) (nd Zb (nd o1 (nd o0 (ly o1) (ly Yu)) (nd o0 (ly o0) .nil)) (nd o1 (nd o58 (ly o95) (ly o0)) (nd o76 (ly ar6) .nil))))) (nd (boot_o_6 P) (nd (boot_o_10 P) (nd o0 (nd o19 (nd o0 (ly o1) (ly o0)) (nd o61 (ly o98) (ly as7))) (nd o29 (nd o49 (ly o0) (ly Yv)) (nd o71 (ly Ym) .nil))) (nd o14 (nd (o24 P) (nd o7 (ly o85) (ly as1)) (nd o66 (ly Yj) .nil)) (nd o34 (nd o56 (ly o1) (ly o1)) (nd o0 (ly o0) .nil)))) (nd o3 (nd o0 (nd o22 (nd o40 (ly o0) (ly o0)) (nd o1 (ly o1) .nil)) (nd o31 (nd o52 (ly o91) (ly as4)) (nd o0 (ly o0) .nil))) (nd (o17 P) (nd o26 (nd o47 (ly o0) (ly o1)) (nd o68 (ly ar2) .nil)) (nd o0 (nd o0 (ly o0) (ly Yz)) (nd o77 (ly Yq) .nil)))))))
def S2(w:bQ)(os:OsState):SharedT:=⟨T2 w.params,229,lf0,#[],⟨0,0,0,0⟩,489,os⟩
def H1(P:fY):aY:=⟨⟨[boot_o_0 P,boot_o_1 P,boot_o_2 P,o43 P,boot_o_4 P,boot_o_5 P,boot_o_6 P,boot_o_7 P,boot_o_8 P,boot_o_9 P,boot_o_10 P,o0,o44,o2,o3,o6,o7,o8 P,o0,o1,o9,o10,o0,o11 P,o12,o13,o14,o15,Zb,o7,o17 P,o0,o1,o18,o19,o0,o20 P,o21,o22,o23,Zb,o7,o24 P,o0,o1,o25,o26,o0,o27 P,o28,o29,o30,o0,o1,o31,o0,o32,o33,o34,o0,o1,o35,o0,o36,o37,o38,o0,o1,o39,o0,o40,o41,o42,o0,o7,o45 P,o0,o46,o47,o48,o0,o1,o49,o0,o50,o51,o52,o53,o54 P,o55,o56,o57,o58,o59,o0,o1,o60,o0,o61,o62,o63,o0,o1,o64,o0,o65,o66,o67,o0,o1,o68,o0,o69,o70,o71,o0,o1,o72,o0,o73,o74,o75,o0,o1,o76,o0,o77,o78,o79,o0,o1,o80,o81,o82,o0,o1,o83,o84,o85,o0,o1,o86,o0,o87,o88,o89,o0,o1,o90,o0,o91,o92,o93,o0,o1,o94,o95,o96,o0,o1,o97,o0,o98,o99,Yi,o0,o1,ar0,o0,ar1,Yj,Yk,o0,o1,ar2,o0,ar3,Yl,Ym,o0,o1,ar4,o0,ar5,Yn,Yo,o0,o1,ar6,Yp,Yq,o0,o1,ar7,o0,ar8,Yr,Ys,o0,o1,ar9,o0,as1,Yt,Yu,o0,o1,as2,o0,as3,Yv,Yw,o0,o1,as4,Yx,Yy,o0,o1,as5,o0,as6,Yz,YA,o0,o1,as7,YB,YC]⟩,lf0⟩
def env:Env:={scope:=pq.main.scope,locals:=mainNs,globals:=mainNs,cells:=[],code:=(.ref 13),frame:=some 14}
abbrev bE:List bz:=behindTheImports pq
def cE:Code:= .body bE env
abbrev fp:Pos:=⟨0,0,0,0⟩
abbrev B:List Frame:=[topFrame fp]
theorem pre(w:bQ)(os:OsState):topGo treeTable pq w 11 (some (.ref 6)) 12 ⟨boot_heap w.params,#[],boot_drawn,boot_toks,os⟩ (topStub pq)=some (⟨Ha w.params,#[],⟨0,0,0,0⟩,187,os⟩,⟨denote treeTable cE,cE,⟨0,0,0,0⟩,B⟩):=by kernel_rfl
theorem block(w:bQ)(os:OsState):segRun treeTable pq w 11 (some (.ref 6)) 1 1 ⟨Ha w.params,#[],⟨0,0,0,0⟩,187,os⟩ (blockOf bE env cE ⟨0,0,0,0⟩ B)=some (.next,(S0 w os).abs,cE,⟨0,0,0,0⟩):=by kernel_rfl
def g0:List bz:=tk 10 (dr 0 bE)
theorem r0(w:bQ)(os:OsState):segRunT treeTable pq w 11 (some (.ref 6)) 1 737 (S0 w os) (piecesOf g0 env cE ⟨0,0,0,0⟩ B)=some (.next,S1 w os,cE,⟨15,0,22,67⟩):=by kernel_rfl
def g1:List bz:=tk 25 (dr 10 bE)
theorem r1(w:bQ)(os:OsState):segRunT treeTable pq w 11 (some (.ref 6)) 1 887 (S1 w os) (piecesOf g1 env cE ⟨15,0,22,67⟩ B)=some (.next,S2 w os,cE,⟨134,0,150,31⟩):=by kernel_rfl
theorem fin(w:bQ)(os:OsState):topRun treeTable pq w 11 (some (.ref 6)) 2 (S2 w os).abs ⟨doneF .next,cE,⟨134,0,150,31⟩,B⟩=some ⟨H1 w.params,#[],⟨0,0,0,0⟩,489,os⟩:=by kernel_rfl
theorem hb:bE=(g0++(g1++[])):=by kernel_rfl
theorem run(w:bQ)(os:OsState):topRun treeTable pq w 11 (some (.ref 6)) (12+(1+(737+(887+2)))) ⟨boot_heap w.params,#[],boot_drawn,boot_toks,os⟩ (topStub pq)=some ⟨H1 w.params,#[],⟨0,0,0,0⟩,489,os⟩:=
  go_top (pre w os) (piece_block (block w os) (Ul hb (piece_app (segRun_of (r0 w os)) (piece_app (segRun_of (r1 w os)) (piece_nil (fin w os))))))
def K(P:fY):Frag:=(nat_lit 0,boot_o_0 P)::(nat_lit 1,boot_o_1 P)::(nat_lit 2,boot_o_2 P)::(nat_lit 3,o43 P)::(nat_lit 4,boot_o_4 P)::(nat_lit 5,boot_o_5 P)::(nat_lit 6,boot_o_6 P)::(nat_lit 7,boot_o_7 P)::(nat_lit 8,boot_o_8 P)::(nat_lit 9,boot_o_9 P)::(nat_lit 10,boot_o_10 P)::(nat_lit 13,o2)::(nat_lit 23,o11 P)::(nat_lit 24,o12)::(nat_lit 36,o20 P)::(nat_lit 37,o21)::(nat_lit 48,o27 P)::(nat_lit 49,o28)::(nat_lit 57,o33)::(nat_lit 58,o34)::(nat_lit 64,o37)::(nat_lit 65,o38)::(nat_lit 71,o41)::(nat_lit 72,o42)::(nat_lit 85,o51)::(nat_lit 86,o52)::(nat_lit 88,o54 P)::(nat_lit 89,o55)::(nat_lit 99,o62)::(nat_lit 100,o63)::(nat_lit 106,o66)::(nat_lit 107,o67)::(nat_lit 113,o70)::(nat_lit 114,o71)::(nat_lit 120,o74)::(nat_lit 121,o75)::(nat_lit 127,o78)::(nat_lit 128,o79)::(nat_lit 132,o81)::(nat_lit 133,o82)::(nat_lit 137,o84)::(nat_lit 138,o85)::(nat_lit 144,o88)::(nat_lit 145,o89)::(nat_lit 151,o92)::(nat_lit 152,o93)::(nat_lit 156,o95)::(nat_lit 157,o96)::(nat_lit 163,o99)::(nat_lit 164,Yi)::(nat_lit 170,Yj)::(nat_lit 171,Yk)::(nat_lit 177,Yl)::(nat_lit 178,Ym)::(nat_lit 184,Yn)::(nat_lit 185,Yo)::(nat_lit 189,Yp)::(nat_lit 190,Yq)::(nat_lit 196,Yr)::(nat_lit 197,Ys)::(nat_lit 203,Yt)::(nat_lit 204,Yu)::(nat_lit 210,Yv)::(nat_lit 211,Yw)::(nat_lit 215,Yx)::(nat_lit 216,Yy)::(nat_lit 222,Yz)::(nat_lit 223,YA)::(nat_lit 227,YB)::(nat_lit 228,YC)::[]
abbrev as:List ay:=[154,0,1,2,3,4,5,6,7,8,9,10,13,23,24,36,37,48,49,57,58,64,65,71,72,85,86,88,89,99,100,106,107,113,114,120,121,127,128,132,133,137,138,144,145,151,152,156,157,163,164,170,171,177,178,184,185,189,190,196,197,203,204,210,211,215,216,222,223,227,228]
abbrev q:dG:=view PySem.Challenge.pw_pegleap_k08_reached [1,2,3,5,6,7,8,9,10,11,12,13,14,16,17,19,20,21,22,23,25,26,27,28,29,30,31,32,33,34]
abbrev loose:List Str:=[]
abbrev lv:List (Str×WData):=[]
def dL:DefRec:=match st 34 with | .FunctionDef n a b _ _ _ sc _ _ ps=>⟨n,a,b,sc,ps⟩|_=>⟨default,default,[],default,⟨0,0,0,0⟩⟩
theorem ws:PySem.Challenge.rw_pegleap_k08_reached.wellSaid=true:=by kernel_rfl
theorem size(w:bQ):((boot_heap w.params).isNs dM&&(#[]:Array GenState).size==0,(boot_heap w.params).objs.size,(boot_heap w.params).nsMap dM "__annotations__")=(true,11,(some (.ref 6))):=by kernel_rfl
theorem as8(w:bQ):(fun os=>((staticsOk (importedModules pq.main.body) (boot_heap w.params) (H1 w.params)&&namesBound pq (H1 w.params)&&gensDone ⟨H1 w.params,#[],⟨0,0,0,0⟩,489,os⟩&&laidKept (boot_heap w.params) (H1 w.params)),openSeen q loose (importedModules pq.main.body) (fun s=>xlAt q lv s&&recOk (RowW.records (OpenRow.toRowW (OpenLaw.row PySem.Challenge.rw_pegleap_k08_reached))) s) true ⟨H1 w.params,#[],⟨0,0,0,0⟩,489,os⟩,(fun s:aA=>as.map s.heap.get?) ⟨H1 w.params,#[],⟨0,0,0,0⟩,489,os⟩))=fun _=>(true,openGood q loose,(fun w:bQ=>(((nat_lit 154,o1)::K w.params)).map fun p=>some p.2) w):=by kernel_rfl
theorem hl:LeftO pq q loose (fun s=>xlAt q lv s&&recOk (RowW.records (OpenRow.toRowW (OpenLaw.row PySem.Challenge.rw_pegleap_k08_reached))) s) (fun s:aA=>as.map s.heap.get?) (fun w:bQ=>(((nat_lit 154,o1)::K w.params)).map fun p=>some p.2) 3370:=
  LeftO.of_pieces (boot_open (by kernel_rfl) (by kernel_rfl) (fun s=>by kernel_rfl)) size run (by kernel_rfl) as8
end Hd
end
open PySem PySem.W PyProof.Rows
set_option maxRecDepth 100000 in
set_option maxHeartbeats 0 in
theorem PySem.Challenge.cw_pegleap_k08_reached_holds : PySem.Challenge.rw_pegleap_k08_reached.Holds := by
  refine holds_law Hd.ws fun aJ2=> ?_
  refine holds_openX (r:=OpenLaw.row PySem.Challenge.rw_pegleap_k08_reached) (d:=Hd.dL) (kwd:=[]) Hd.hl (fun s e=>xl_of s (Bool.and_eq_true_iff.mp e).1) XL.keeps (by kernel_rfl) (by kernel_rfl) (by kernel_rfl) (fun s e=>recFacts_of (Bool.and_eq_true_iff.mp e).2) (by kernel_rfl) aJ2 (by kernel_rfl) ⟨rfl,rfl,rfl,rfl,rfl,by kernel_rfl⟩ ?hw ?hc
  (case hw=>w_on;w_witness2)
  k_fill
  refine Pk.ap0 (l:=PySem.Challenge.rw_pegleap_k08_reached) (K:=fun P=>(nat_lit 154,Hd.o1)::Hd.K P) (K1:=Hd.K) (T0:=154) (by kernel_rfl) (by kernel_rfl) (fun _=>by kernel_rfl) (fun _=>by kernel_rfl) (fun _=>by kernel_rfl) (fun _=>⟨156,by kernel_rfl⟩) ?F
  case F=>
    intro w mg fa h KX G hmg
    exact Pk.ao9 (h:=h) hmg ⟨⟨_,_,_,_,154,_,_⟩,⟨Dm.wQ KX G,Dm.wQ KX G,Dm.wQ KX G,Dm.wQ KX G,Dm.wQ KX G,Dm.wQ KX G,Dm.wQ KX G,Dm.wQ KX G,Dm.wQ KX G,Dm.wQ KX G,Dm.wQ KX G,Dm.wQ KX G,Dm.wQ KX G,Dm.wQ KX G,Dm.wQ KX G,Dm.wQ KX G,Dm.wQ KX G,Dm.wQ KX G,Dm.wQ KX G,Dm.wQ KX G,Dm.wQ KX G,Dm.wQ KX G,Dm.wQ KX G,Dm.wQ KX G,Dm.Rc KX G,Dm.Rc KX G,Dm.Rc KX G,Dm.Rc KX G,Dm.Rc KX G,Dm.Rc KX G,Dm.Rc KX G,Dm.Rc KX G,Dm.Rc KX G,Dm.Rc KX G,Dm.Z6 KX G,Dm.Z6 KX G,Dm.Z6 KX G,Dm.Z6 KX G,Dm.Z6 KX G,Dm.Z6 KX G,by kernel_rfl,by kernel_rfl,Dm.aG9 KX G,Dm.bmS KX G,by decide,Dm.clS,Dm.naS,Dm.inS⟩,rfl⟩ (fun t ns hl=>Pk.aq9 t ns)
end Yh
