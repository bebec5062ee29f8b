import PyProof.Rows.All
import Wide.All
import OpenK.AllK
import Wide.FinOn
import PySem.Challenge.RW_pegleap_k14_whole_reached_and_answered
import Lean
import PyProof.EqAt
import PyProof.EqKinds
import PyProof.TupleCall
import KE.KIsAll
import PyProof.ExcAttrAll.ValueError
import OpenK.KDescr
import PyProof.NeKinds
import PySem.SetOps
import PyProof.ZipIter
import KE.KDictOf
import PyProof.AttrMissHeap
import PyProof.FactsAll.zip_1
import PyProof.DictRoadsH
import PyProof.TupleKey
import PyProof.EnumMake
import PyProof.ConsumeWalk
import PyProof.FactsAll.list_3
import PyProof.SumWalkG
import PyProof.WalkInts
import PyProof.SeqI3
import PyProof.DictUpdate
import PyProof.DictItems
import PyProof.Rows.TupDisplay
import PyProof.DictIter
import PyProof.DictWalks
import PyProof.Conv_int_bool
import KE.KLam
import KE.KSortKey
import Open.Pieces
set_option Elab.async false
set_option linter.all false
set_option maxRecDepth 100000
set_option maxHeartbeats 4000000
set_option hygiene false in
local macro_rules|`(tactic|walk_at $s:str)=>do
  let mut t:=#[]
  for c in s.getString.toList do
    t:=t.push (<-match c with
    |'!'=>`(tactic|exact aE)
    |'$'=>`(tactic|obtain rfl:=bx)
    |'%'=>`(tactic|refine af (κ:=.aO) (aK:=.old) ?_ ?_)
    |'&'=>`(tactic|exact aF (κ:=.aO))
    |'\''=>`(tactic|refine af (κ:=.new) (aK:=.new) ?_ ?_)
    |'('=>`(tactic|exact ak 0 (pv 0))
    |')'=>`(tactic|refine aU ?_ ?_)
    |'*'=>`(tactic|dsimp only at q)
    |'+'=>`(tactic|refine bq ?_)
    |','=>`(tactic|exact ak 1 (pv 1))
    |'-'=>`(tactic|refine af (κ:=.aO) (aK:=.new) ?_ ?_)
    |'.'=>`(tactic|refine⟨A,st,r,?_⟩)
    |'/'=>`(tactic|refine dS zz fun A st r q=>?_)
    |'0'=>`(tactic|exact ak 2 (pv 2))
    |'1'=>`(tactic|exact aF (κ:=.new))
    |'2'=>`(tactic|refine d9 (κ:=.new) ?_)
    |'3'=>`(tactic|refine dO (aK:=.old) (cW:=.new) ?_ ?_ (fun _ _=>rfl))
    |'4'=>`(tactic|intro X hP hw hK hc i pins s σ H E I hf st hg)
    |'5'=>`(tactic|refine aN (κ:=.aO) (dP T) hr (by decide) ?_ (au (au (au aW))))
    |_=>Lean.Macro.throwUnsupported)
  `(tactic|($[$t];*))
noncomputable section
section
open PySem PySem.Spec PySem.W PyProof.Rows
abbrev aH2:=@if_pos
abbrev aH3:=@if_neg
abbrev aH4:=@decide_eq_true
abbrev aH5:=@decide_eq_false
abbrev aH6:=@beq_iff_eq
abbrev aH7:=@decide_eq_true_eq
abbrev aH8:=@of_decide_eq_true
abbrev aH9:=@beq_eq_false_iff_ne
abbrev aI0:=@if_false
abbrev aI1:=@if_true
abbrev aI2:=@or_false
abbrev aI3:=@beq_self_eq_true
abbrev aI4:=@absurd
abbrev aI5:=@bne_self_eq_false
abbrev aI6:=@of_decide_eq_false
end
open PySem.W (Frag)
open PySem renaming Value->aq,World->bN,Program->dh,Addr->av,Heap->aX,sizeLine->cK,sysModules->oz,entryOfKey->qm,mainGlobals->dz,bootBuiltins->lE,Around->bY,Shared->az,Scope->iI,wpAny->aB,Expr->bH,model->aC,starEach->bL,Stmt->bw,wpAny_mono->iy,wpAny_Name->Cu,wpAny_loadName_local->L3,wpAny_truthy_bool->wH,wpAny_execs_nil->Hw,wpAny_execs_cons->TJ,assignEach->rT,wpAny_assign_Name->TL,wpAny_bind->ah,wpAny_holding->je,wpAny_standAt->zF,wpAny_pure->aA,wpAny_newObj_type->nV,wpAny_rule->wI,wpAny_passesOwn->wJ,wpAny_pyNext_list_item->TM,wpAny_pyNext_list_end->TN,wpAny_pyIter_list->L4,foldedSetIterable->vh,compareOp->iz,sizeLine_eq->gn,attributeBase->nc,wpAny_Tuple_spliced->L5,FuncData->gH,mem_of_lookup->wK,wpAny_newFunctionEnv_cells->L6,wpAny_Call_Name_kw->tY,slot_list_getitem->L7,wpAny_Call_method_late->L8,codeAny_mono->tZ,wpAny_field->qJ,wpAny_setField->qK,wpAny_call->AG,wpAny_attempt->oA,wpAny_newTuple->EH,wpAny_newList->wL,wpAny_loadPart'->jQ,wpAny_forIn_list->lR,richCompare_meets_room->La,wpAny_call_entry->gV,SetTable->gW,wpAny_setState_of->Lb,putSet_of->AH,wpAny_of_eq->u0,wpAny_storeSet_of->Lc,codeAny_builtin->lS,plainId_quiet->wM,wpAny_askSetting->EI,entryFor_of_tree->Ld,wpAny_pyIter_slot->AI,wpAny_callSpecial?_slot->qL,wpAny_fieldsOf->u5,firstArgMember->u6,wpAny_handled->EJ,wpAny_throw->EK,wpAny_isInstance->qM,isSubtype_stop->EL,wpAny_specialOf->oB,wpAny_typeOf->AJ,wpAny_seqItems->EM,wpAny_comprehension_free->Lf,wpAny_tupleItemsOf->EN,isSubtype_tuple_tuple->Lg,wpAny_pyIter_enum->Lh,storedH_new->AK,wpAny_dictEntries->jR,wpAny_letGo->EO,size_of_entries->oE,DictEntry->qN,wpAny_dictEpoch->oF,wpAny_notOrdered_dict->ER,wpAny_typeNameOfWhole_itemiter->AL,wpAny_typeNameOf_itemiter->AM,wpAny_isOneOf_itemiter->ES,wpAny_setField_rec->wN,wpAny_typeNameOfWhole_keyiter->AN,wpAny_typeNameOf_keyiter->AO,wpAny_isOneOf_keyiter->Li,Params->fQ
open PySem.Value renaming int->J5,str->UP,isInt_shape->YL,none->dY,ref->eW,type->vj
open PySem.W renaming instObj->vm,hideAll->zG,hideAll_get->Lj,of_hideAll->Hx,hideAll_none->TQ,Frag->aD,findIn->wO,emptyDict->rU,keepIn->u7,cellsFrom_some->Lk,fnOf->ng,callWith_K->Ll,kas_item_eq->ET
open PySem.Heap renaming lt_size->bX,SameBut->gZ,get?_push_of_some->bQ,get?_push_size->eN,size_push->zH,get?_update_other->EU,get?_update_self->nh,get?_update_ne->EV,size_update->Ln
open Nat renaming lt_of_lt_of_le->iJ,lt_irrefl->rV,ne_of_lt->di,le_trans->cC,le_of_lt->jf,ne_of_gt->Cv,le_refl->bf,le_of_eq->Lo,lt_succ_self->zI,zero_le->iA,le_of_not_lt->qO,le_succ->wQ,not_lt_zero->jE,min_self->Lp,lt_of_le_of_lt->qP,le_add_right->EW,lt_of_succ_lt->u9,lt_of_le_of_ne->Lq,zero_add->kK,pos_of_ne_zero->EX,add_zero->EY,add_sub_cancel->AQ,add_assoc->wR,not_lt->EZ,pow_succ->Lr,mod_lt->qQ,succ_pos->ua,lt_or_eq_of_le->Ls,lt_trichotomy->uc,min_eq_left->F0,lt_succ_of_lt->wU,eq_zero_or_pos->Lu,le_antisymm->Lv,sub_zero->Lw,lt_or_ge->Lx,min_eq_right->Ly,pow_le_pow_right->Lz
open List renaming range->dj,mem_filter->wV,mem_range->mD,filterMap_cons->LA,mem_cons_self->vn,mem_cons_of_mem->oG,mem_cons->bP,mem_append->gy,mem_append_left->Hy,getElem?_eq_some_iff->gz,getElem?_set_self->mE,getElem?_set_ne->lF,mem_filterMap->Cw,mem_append_right->nW,length_cons->cS,lookup->qp,map_cons->aZ,length_map->bh,append_nil->jS,nodup_cons->jF,of_mem_zip->F5,replicate->lT,length_take->kL,getElem?_append_right->nj,getElem?_replicate->ud,getElem?_append_left->qR,getElem?_map->dm,getElem?_take_of_lt->F6,take_sublist->LB,mem_of_getElem?->kM,length_append->bU,length_replicate->F7,length_drop->wW,size_toArray->dJ,length_singleton->LC,map_nil->lU,filterMap_cons_some->LD,exists_cons_of_length_eq_add_one->uf,eq_nil_of_length_eq_zero->LF,all_map->LG,extract_eq_take_drop->gr,map_take->F8,map_drop->F9,pairwise_append->wX,append_assoc->fR,pairwise_iff_getElem->qS,drop_eq_getElem_cons->ug,mem_iff_getElem->j0,take_append_drop->nt,take_of_length_le->uh,drop_length->AR,mem_of_mem_drop->um,mem_singleton->fJ,not_mem_nil->eS,reverse_append->LH,mem_reverse->uo,reverse_perm->Fe,pairwise_reverse->Ff,mem_of_mem_take->oH,take_length->wY,nil_append->i0,getD_eq_getElem?_getD->nu,length_eq_zero_iff->oJ,foldl_cons->LJ,getElem?_take->Fg,getElem?_drop->LK,map_append->iC,ext_getElem?->AS,getElem?_eq_none->uq,ext_getElem->LL,length_range->ur,map_toArray->Fi,map_map->dD,map_congr_left->uu,append_inj->LM,cons_append->AU,zip_cons_cons->LN,countP_cons->wZ,pairwise_map->AV,all_eq_true->gI,getElem?_cons_succ->LO,getElem?_eq_getElem->dF,pairwise_lt_range->LP,getElem?_range->LQ,getElem_mem->qT,mem_map->aS,perm_middle->LR,nodup_iff_pairwise_ne->uv,getElem_map->uw,nodup_nil->ux,eraseIdx_eq_take_drop_succ->LS,isEmpty_nil->Fj,length_nil->oK,take_succ->LU,take_succ_cons->LV,drop_succ_cons->LW,any_cons->qU,getElem?_eq_none_iff->nv,mapM_cons->Fl,perm_ext_iff_of_nodup->LX,lookup_cons->oM,getElem?_mapIdx->Fo,flatMap_cons->qV,find?_cons->x6,zip_append->LY,flatMap_append->qW,nodup_append->x8,range'_succ->LZ,any_map->x9,any_eq_true->kN,find?_eq_none->M1,drop_of_length_le->Fp,Nodup->kO,map_id->AW,filter_cons_of_pos->M6,filter_cons_of_neg->M7,mem_flatMap->M8,filter_sublist->xg,zipIdx_map_fst->M9,length_filter_le->AX,foldl_append->AY,flatMap_singleton->Ma,pairwise_cons->Mb,length_pos_of_mem->Mc,map_eq_nil_iff->Me,sum_cons->Mf
open Ne renaming symm->eX
open Option.some renaming inj->eY
open PySem.Calls renaming Constant_str->TR,Name_function_global->Mg,loadGlobal_builtin->TU,spliced_nil->AZ,spliced_cons->xh,call_len_list->Mh,callWith_builtin->Fq,evalArgs_plain->Ft
open Array renaming length_toList->dB,mem_toList_iff->zJ,getElem?_eq_some_iff->oN,getElem_toList->Mi,getD_eq_getD_getElem?->jg,perm_iff_toList_perm->Mj,getElem?_toList->lV,toList_push->Fv,toList_inj->B0,toList_zip->Ml,getElem?_eq_none->qX,getElem?_eq_none_iff->Mm,getElem?_eq_getElem->xj,any_toList->B3,forIn_toList->xm,isEmpty_iff->Mn,size_push->Mp
open PyProof.Rows renaming assignInOrder_nil->TV,assignInOrder_cons->Mq,callWith_type1->Mr,callWith_builtin1->Ms,lt_int->UQ,subscriptTail_builtinR->Mt,SortSt->bI,SortKind->iD,wpS_bind->aJ,wpS_get->lW,wpS_pure->aP,wpS_modify->qY,wpS_forRange->j4,wpS_mono->jT,seqObj->cj,get?_update_seq->xo,listItems_at->Fw,listUpdate_at->qZ,seqEpoch_at->xq,seqObj->f7,listUpdate_at->Fx,get?_update_seq->Fy,entry_proto_collect'->UR,entry_list_iadd'->US,callWith_kw->UT
open Bool renaming false_ne_true->iK,and_eq_true->cu,and_true->xr,and_false->Fz,eq_false_iff->uy,not_true->j5,false_eq_true->cZ,not_false->B4,or_eq_true->oO,true_and->Mu,not_eq_true->Mv,false_or->B5,eq_iff_iff->jU
open PySem.W.Looks renaming here->YM
open PySem.Within renaming cons->YN
open Option renaming isSome_iff_exists->Mw,getD_none->Mz
open False renaming elim->ny
open PySem.Heap.IsSliceOf renaming new->UU
open PySem.Obj renaming mapSeq->cX,isFreed_of_fields->B6,data_mapFields->uz,cls_mapFields->FA,isFreed_of_dict->MA,data_mapDictKeys->B7
open Or renaming inl->cy,inr->f9
open PySem.Heap.UpToSlots renaming of_keeps->UW
open Nat.succ renaming inj->fK
open List.Perm renaming append_left->MB,eq_of_pairwise->FE
open PySem.Heap.SameBut renaming update->fj,refl->MC
open StateT renaming run_pure->MD
open List.cons renaming inj->ME
open PySem.SetTable renaming insertAt->jh
open List.Pairwise renaming filterMap->UX,map->B8,sublist->UY
open PyProof.Rows.F renaming entry_set_update_loop->MF,plain_set_update_loop->FF
open PySem.Around renaming under_plainId->r8
open PySem.F renaming plain_set_new->MG,called_set->oQ,slot_set_iter->MH,slot_tuple_hash->MJ,slot_tuple_eq->B9,slot_dict_len->MK,slot_dict_update->ML,plainAttrs_dict->MM,slot_dict_items_iter->MN,slot_dict_itemiterator_next->xu,entry_dict_itemiterator_next->MO,args_dict_itemiterator_next_1->MP,slot_dict_itemiterator_iter->MQ,slot_dict_get->MR,slot_dict_iter->MS,slot_dict_keyiterator_next->xw,entry_dict_keyiterator_next->MT,args_dict_keyiterator_next_1->MU,plainAttrs_list->MV,slot_list_append->MW,type_list_append->MX
open PySem.Code renaming quiet_builtin->FG
open PySem.Str renaming ofString->kP
open Int renaming toNat_natCast->jV,zero_add->MY,mul_nonneg->MZ,mul_le_mul->N1,emod_nonneg->FH,emod_lt_of_pos->FI,mul_ediv_add_emod->N2,ediv_nonneg->N3,ediv_lt_of_lt_mul->N4,eq_ofNat_of_zero_le->N5
open Decidable renaming byContradiction->FJ
open ForInStep renaming yield->lZ
open PySem.Builtin.Tuple renaming tupleHashOf->Ba
open PySem.Expr renaming Subscript->uA
open PySem.Builtin.Dict renaming showsAll->xx
open Std.Legacy.Range renaming forIn_eq_forIn_range'->UZ
open PySem.Builtin.Dict_items renaming ownsTuple->xy
open Prod.mk renaming injEq->FL
section ao5
theorem z7{p0 p1 p2:Prop}{G:Prop}(h:p0/\p1/\p2)(f:p0->p1->p2->G):G:=f h.1 h.2.1 h.2.2
theorem aY{m6:Sort _}{p0 p1:m6->Prop}{G:Prop}(h:∃a0,p0 a0/\p1 a0)(f:∀a0,p0 a0->p1 a0->G):G:=h.elim fun a0 h=>f a0 h.1 h.2
theorem rW{m6 oR:Sort _}{p0:m6->oR->Prop}{G:Prop}(h:∃a0 a1,p0 a0 a1)(f:∀a0 a1,p0 a0 a1->G):G:=h.elim fun a0 h=>h.elim fun a1 h=>f a0 a1 h
theorem N6{p0 p1 p2 p3:Prop}{G:Prop}(h:p0/\p1/\p2/\p3)(f:p0->p1->p2->p3->G):G:=f h.1 h.2.1 h.2.2.1 h.2.2.2
theorem cI{m6:Sort _}{p0 p1 p2:m6->Prop}{G:Prop}(h:∃a0,p0 a0/\p1 a0/\p2 a0)(f:∀a0,p0 a0->p1 a0->p2 a0->G):G:=h.elim fun a0 h=>f a0 h.1 h.2.1 h.2.2
theorem dS{m6 oR:Sort _}{p0 p1:m6->oR->Prop}{G:Prop}(h:∃a0 a1,p0 a0 a1/\p1 a0 a1)(f:∀a0 a1,p0 a0 a1->p1 a0 a1->G):G:=h.elim fun a0 h=>h.elim fun a1 h=>f a0 a1 h.1 h.2
theorem QD{p0 p1 p2 p3 p4:Prop}{G:Prop}(h:p0/\p1/\p2/\p3/\p4)(f:p0->p1->p2->p3->p4->G):G:=f h.1 h.2.1 h.2.2.1 h.2.2.2.1 h.2.2.2.2
theorem ao6{m6:Sort _}{p0 p1 p2 p3:m6->Prop}{G:Prop}(h:∃a0,p0 a0/\p1 a0/\p2 a0/\p3 a0)(f:∀a0,p0 a0->p1 a0->p2 a0->p3 a0->G):G:=h.elim fun a0 h=>f a0 h.1 h.2.1 h.2.2.1 h.2.2.2
theorem bF{m6 oR:Sort _}{p0 p1 p2:m6->oR->Prop}{G:Prop}(h:∃a0 a1,p0 a0 a1/\p1 a0 a1/\p2 a0 a1)(f:∀a0 a1,p0 a0 a1->p1 a0 a1->p2 a0 a1->G):G:=h.elim fun a0 h=>h.elim fun a1 h=>f a0 a1 h.1 h.2.1 h.2.2
theorem QE{m6 oR xA:Sort _}{p0 p1:m6->oR->xA->Prop}{G:Prop}(h:∃a0 a1 a2,p0 a0 a1 a2/\p1 a0 a1 a2)(f:∀a0 a1 a2,p0 a0 a1 a2->p1 a0 a1 a2->G):G:=h.elim fun a0 h=>h.elim fun a1 h=>h.elim fun a2 h=>f a0 a1 a2 h.1 h.2
theorem vO{p0 p1 p2 p3 p4 p5:Prop}{G:Prop}(h:p0/\p1/\p2/\p3/\p4/\p5)(f:p0->p1->p2->p3->p4->p5->G):G:=f h.1 h.2.1 h.2.2.1 h.2.2.2.1 h.2.2.2.2.1 h.2.2.2.2.2
theorem QF{m6:Sort _}{p0 p1 p2 p3 p4:m6->Prop}{G:Prop}(h:∃a0,p0 a0/\p1 a0/\p2 a0/\p3 a0/\p4 a0)(f:∀a0,p0 a0->p1 a0->p2 a0->p3 a0->p4 a0->G):G:=h.elim fun a0 h=>f a0 h.1 h.2.1 h.2.2.1 h.2.2.2.1 h.2.2.2.2
theorem vP{m6 oR:Sort _}{p0 p1 p2 p3:m6->oR->Prop}{G:Prop}(h:∃a0 a1,p0 a0 a1/\p1 a0 a1/\p2 a0 a1/\p3 a0 a1)(f:∀a0 a1,p0 a0 a1->p1 a0 a1->p2 a0 a1->p3 a0 a1->G):G:=h.elim fun a0 h=>h.elim fun a1 h=>f a0 a1 h.1 h.2.1 h.2.2.1 h.2.2.2
theorem V0{m6 oR xA:Sort _}{p0 p1 p2:m6->oR->xA->Prop}{G:Prop}(h:∃a0 a1 a2,p0 a0 a1 a2/\p1 a0 a1 a2/\p2 a0 a1 a2)(f:∀a0 a1 a2,p0 a0 a1 a2->p1 a0 a1 a2->p2 a0 a1 a2->G):G:=h.elim fun a0 h=>h.elim fun a1 h=>h.elim fun a2 h=>f a0 a1 a2 h.1 h.2.1 h.2.2
theorem ao7{m6 oR xA J6:Sort _}{p0 p1:m6->oR->xA->J6->Prop}{G:Prop}(h:∃a0 a1 a2 a3,p0 a0 a1 a2 a3/\p1 a0 a1 a2 a3)(f:∀a0 a1 a2 a3,p0 a0 a1 a2 a3->p1 a0 a1 a2 a3->G):G:=h.elim fun a0 h=>h.elim fun a1 h=>h.elim fun a2 h=>h.elim fun a3 h=>f a0 a1 a2 a3 h.1 h.2
theorem ao8{m6 oR xA J6 α4:Sort _}{p0:m6->oR->xA->J6->α4->Prop}{G:Prop}(h:∃a0 a1 a2 a3 a4,p0 a0 a1 a2 a3 a4)(f:∀a0 a1 a2 a3 a4,p0 a0 a1 a2 a3 a4->G):G:=h.elim fun a0 h=>h.elim fun a1 h=>h.elim fun a2 h=>h.elim fun a3 h=>h.elim fun a4 h=>f a0 a1 a2 a3 a4 h
theorem J7{m6 oR:Sort _}{p0 p1 p2 p3 p4:m6->oR->Prop}{G:Prop}(h:∃a0 a1,p0 a0 a1/\p1 a0 a1/\p2 a0 a1/\p3 a0 a1/\p4 a0 a1)(f:∀a0 a1,p0 a0 a1->p1 a0 a1->p2 a0 a1->p3 a0 a1->p4 a0 a1->G):G:=h.elim fun a0 h=>h.elim fun a1 h=>f a0 a1 h.1 h.2.1 h.2.2.1 h.2.2.2.1 h.2.2.2.2
theorem QG{m6 oR xA:Sort _}{p0 p1 p2 p3:m6->oR->xA->Prop}{G:Prop}(h:∃a0 a1 a2,p0 a0 a1 a2/\p1 a0 a1 a2/\p2 a0 a1 a2/\p3 a0 a1 a2)(f:∀a0 a1 a2,p0 a0 a1 a2->p1 a0 a1 a2->p2 a0 a1 a2->p3 a0 a1 a2->G):G:=h.elim fun a0 h=>h.elim fun a1 h=>h.elim fun a2 h=>f a0 a1 a2 h.1 h.2.1 h.2.2.1 h.2.2.2
theorem ao9{m6 oR xA J6:Sort _}{p0 p1 p2:m6->oR->xA->J6->Prop}{G:Prop}(h:∃a0 a1 a2 a3,p0 a0 a1 a2 a3/\p1 a0 a1 a2 a3/\p2 a0 a1 a2 a3)(f:∀a0 a1 a2 a3,p0 a0 a1 a2 a3->p1 a0 a1 a2 a3->p2 a0 a1 a2 a3->G):G:=h.elim fun a0 h=>h.elim fun a1 h=>h.elim fun a2 h=>h.elim fun a3 h=>f a0 a1 a2 a3 h.1 h.2.1 h.2.2
theorem YO{m6 oR:Sort _}{p0 p1 p2 p3 p4 p5:m6->oR->Prop}{G:Prop}(h:∃a0 a1,p0 a0 a1/\p1 a0 a1/\p2 a0 a1/\p3 a0 a1/\p4 a0 a1/\p5 a0 a1)(f:∀a0 a1,p0 a0 a1->p1 a0 a1->p2 a0 a1->p3 a0 a1->p4 a0 a1->p5 a0 a1->G):G:=h.elim fun a0 h=>h.elim fun a1 h=>f a0 a1 h.1 h.2.1 h.2.2.1 h.2.2.2.1 h.2.2.2.2.1 h.2.2.2.2.2
theorem Cy{m6 oR xA:Sort _}{p0 p1 p2 p3 p4:m6->oR->xA->Prop}{G:Prop}(h:∃a0 a1 a2,p0 a0 a1 a2/\p1 a0 a1 a2/\p2 a0 a1 a2/\p3 a0 a1 a2/\p4 a0 a1 a2)(f:∀a0 a1 a2,p0 a0 a1 a2->p1 a0 a1 a2->p2 a0 a1 a2->p3 a0 a1 a2->p4 a0 a1 a2->G):G:=h.elim fun a0 h=>h.elim fun a1 h=>h.elim fun a2 h=>f a0 a1 a2 h.1 h.2.1 h.2.2.1 h.2.2.2.1 h.2.2.2.2
theorem YQ{m6 oR xA J6:Sort _}{p0 p1 p2 p3:m6->oR->xA->J6->Prop}{G:Prop}(h:∃a0 a1 a2 a3,p0 a0 a1 a2 a3/\p1 a0 a1 a2 a3/\p2 a0 a1 a2 a3/\p3 a0 a1 a2 a3)(f:∀a0 a1 a2 a3,p0 a0 a1 a2 a3->p1 a0 a1 a2 a3->p2 a0 a1 a2 a3->p3 a0 a1 a2 a3->G):G:=h.elim fun a0 h=>h.elim fun a1 h=>h.elim fun a2 h=>h.elim fun a3 h=>f a0 a1 a2 a3 h.1 h.2.1 h.2.2.1 h.2.2.2
theorem ap0{m6 oR xA:Sort _}{p0 p1 p2 p3 p4 p5:m6->oR->xA->Prop}{G:Prop}(h:∃a0 a1 a2,p0 a0 a1 a2/\p1 a0 a1 a2/\p2 a0 a1 a2/\p3 a0 a1 a2/\p4 a0 a1 a2/\p5 a0 a1 a2)(f:∀a0 a1 a2,p0 a0 a1 a2->p1 a0 a1 a2->p2 a0 a1 a2->p3 a0 a1 a2->p4 a0 a1 a2->p5 a0 a1 a2->G):G:=h.elim fun a0 h=>h.elim fun a1 h=>h.elim fun a2 h=>f a0 a1 a2 h.1 h.2.1 h.2.2.1 h.2.2.2.1 h.2.2.2.2.1 h.2.2.2.2.2
theorem YR{m6 oR xA J6:Sort _}{p0 p1 p2 p3 p4:m6->oR->xA->J6->Prop}{G:Prop}(h:∃a0 a1 a2 a3,p0 a0 a1 a2 a3/\p1 a0 a1 a2 a3/\p2 a0 a1 a2 a3/\p3 a0 a1 a2 a3/\p4 a0 a1 a2 a3)(f:∀a0 a1 a2 a3,p0 a0 a1 a2 a3->p1 a0 a1 a2 a3->p2 a0 a1 a2 a3->p3 a0 a1 a2 a3->p4 a0 a1 a2 a3->G):G:=h.elim fun a0 h=>h.elim fun a1 h=>h.elim fun a2 h=>h.elim fun a3 h=>f a0 a1 a2 a3 h.1 h.2.1 h.2.2.1 h.2.2.2.1 h.2.2.2.2
theorem ap1{m6 oR xA J6:Sort _}{p0 p1 p2 p3 p4 p5:m6->oR->xA->J6->Prop}{G:Prop}(h:∃a0 a1 a2 a3,p0 a0 a1 a2 a3/\p1 a0 a1 a2 a3/\p2 a0 a1 a2 a3/\p3 a0 a1 a2 a3/\p4 a0 a1 a2 a3/\p5 a0 a1 a2 a3)(f:∀a0 a1 a2 a3,p0 a0 a1 a2 a3->p1 a0 a1 a2 a3->p2 a0 a1 a2 a3->p3 a0 a1 a2 a3->p4 a0 a1 a2 a3->p5 a0 a1 a2 a3->G):G:=h.elim fun a0 h=>h.elim fun a1 h=>h.elim fun a2 h=>h.elim fun a3 h=>f a0 a1 a2 a3 h.1 h.2.1 h.2.2.1 h.2.2.2.1 h.2.2.2.2.1 h.2.2.2.2.2
theorem V1{m6 oR xA J6 α4 α5 α6 α7 α8:Sort _}{p0 p1 p2:m6->oR->xA->J6->α4->α5->α6->α7->α8->Prop}{G:Prop}(h:∃a0 a1 a2 a3 a4 a5 a6 a7 a8,p0 a0 a1 a2 a3 a4 a5 a6 a7 a8/\p1 a0 a1 a2 a3 a4 a5 a6 a7 a8/\p2 a0 a1 a2 a3 a4 a5 a6 a7 a8)(f:∀a0 a1 a2 a3 a4 a5 a6 a7 a8,p0 a0 a1 a2 a3 a4 a5 a6 a7 a8->p1 a0 a1 a2 a3 a4 a5 a6 a7 a8->p2 a0 a1 a2 a3 a4 a5 a6 a7 a8->G):G:=h.elim fun a0 h=>h.elim fun a1 h=>h.elim fun a2 h=>h.elim fun a3 h=>h.elim fun a4 h=>h.elim fun a5 h=>h.elim fun a6 h=>h.elim fun a7 h=>h.elim fun a8 h=>f a0 a1 a2 a3 a4 a5 a6 a7 a8 h.1 h.2.1 h.2.2
end ao5
section YS
namespace L2
open PySem PySem.Spec PyProof.Rows
abbrev Key:=Sum Int Str
def TX:Key->aq->Bool
 | .inl k,v=>Value.isInt k v
 | .inr x,v=>Value.isStrOf x v
def ap2(w:bN):Key->Int
 | .inl k=>hashInt k
 | .inr x=>hashStr w x
theorem fz:∀{k:Key} {v:aq},TX k v=true->(∃i t,k=Sum.inl i/\v=J5 i t)\/(∃x t,k=Sum.inr x/\v=UP x t)
 | .inl i,v,h=>by
  obtain ⟨t,e⟩:=YL (k:=i) (v:=v) h
  exact .inl ⟨i,t,rfl,e⟩
 | .inr x,v,h=>by
  obtain ⟨t,e⟩:=Value.isStrOf_shape (x:=x) (v:=v) h
  exact .inr ⟨x,t,rfl,e⟩
theorem V2(a b:Int):decide ((Sum.inl a:Key)=Sum.inl b)=(a==b):=by
 by_cases e:a=b
 ·subst e;simp
 ·have h:¬ (Sum.inl a:Key)=Sum.inl b:=fun q=>e (Sum.inl.inj q)
  rw[aH5 h]
  exact(aH9.mpr e).symm
theorem V3(a b:Str):decide ((Sum.inr a:Key)=Sum.inr b)=decide (a=b):=by
 by_cases e:a=b
 ·subst e;simp
 ·have h:¬ (Sum.inr a:Key)=Sum.inr b:=fun q=>e (Sum.inr.inj q)
  rw[aH5 h,aH5 e]
theorem V4(a:Int)(b:Str):decide ((Sum.inl a:Key)=Sum.inr b)=false:=aH5 (fun q=>nomatch q)
theorem V5(a:Str)(b:Int):decide ((Sum.inr a:Key)=Sum.inl b)=false:=aH5 (fun q=>nomatch q)
def Hz(prog:dh)(w:bN):PySem.KeyKind prog w Key where
 is:=TX
 hash:=ap2 w
 inj:=fun v a b ha hb=>by
  rcases fz ha with ⟨i,t,rfl,rfl⟩ | ⟨x,t,rfl,rfl⟩
  ·rcases fz hb with ⟨j,u,rfl,e⟩ | ⟨y,u,rfl,e⟩
   ·injection e with e1 _;rw[e1]
   ·exact nomatch e
  ·rcases fz hb with ⟨j,u,rfl,e⟩ | ⟨y,u,rfl,e⟩
   ·exact nomatch e
   ·injection e with e1 _;rw[e1]
 byValue:=fun k v h=>by
  rcases fz h with ⟨i,t,rfl,rfl⟩ | ⟨x,t,rfl,rfl⟩ <;> rfl
 pyHash:=fun hv h=>by
  rcases fz hv with ⟨i,t,rfl,rfl⟩ | ⟨x,t,rfl,rfl⟩
  ·exact wpAny_pyHash_int h
  ·exact wpAny_pyHash_str h
 eqBool:=fun hu hv h=>by
  rcases fz hu with ⟨i,t,rfl,rfl⟩ | ⟨x,t,rfl,rfl⟩
  ·rcases fz hv with ⟨j,u,rfl,rfl⟩ | ⟨y,u,rfl,rfl⟩
   ·rw[V2] at h;exact wpAny_eqBool_int h
   ·rw[V4] at h;exact SeqAt.EqAt.int_str i t y u _ _ _ _ h
  ·rcases fz hv with ⟨j,u,rfl,rfl⟩ | ⟨y,u,rfl,rfl⟩
   ·rw[V5] at h;exact SeqAt.EqAt.str_int x t j u _ _ _ _ h
   ·rw[V3] at h;exact wpAny_eqBool_str h
 «strs»:=fun k x t v h=>by
  rcases fz h with ⟨i,u,rfl,e⟩ | ⟨y,u,rfl,e⟩
  ·exact nomatch e
  ·injection e with e1 _
   subst e1
   cases v <;> rfl
inductive V where
 | cY | bl (b:Bool) | int (i:Int) | str (x:Str) | byt (b:Array UInt8) | flt (b:UInt64) | ref (a:av) | ty (n:String)
 deriving DecidableEq
def RelV:V->aq->Prop
 | .cY,u=>u=dY
 | .bl b,u=>u=Value.bool b
 | .int i,u=>∃t,u=J5 i t
 | .str x,u=>∃t,u=UP x t
 | .byt b,u=>∃t,u=Value.bytes b t
 | .flt b,u=>∃t,u=Value.float b t
 | .ref a,u=>u=eW a
 | .ty n,u=>u=vj n
abbrev Vals:List V->List aq->Prop:=Paired RelV
theorem Vals.length(r:Vals xs us):xs.length=us.length:=Paired.length r
theorem Vals.get:∀{xs:List V} {us:List aq} {i:Nat} {x:V},Vals xs us->xs[i]?=some x->∃u,us[i]?=some u/\RelV x u
 | _,_,_,_,.nil,e=>by simp at e
 | _,_,0,_,.cons r _,e=>by simp at e;subst e;exact⟨_,rfl,r⟩
 | _,_,i+1,x,.cons _ t,e=>by
  refine aY (Vals.get (i:=i) (x:=x) t (by simpa using e)) fun u h1 h2=>?_
  exact⟨u,by simpa using h1,h2⟩
theorem Vals.append(h:Vals xs us)(s:Vals ys ws):Vals (xs++ys) (us++ws):=by
 induction h with
 | nil=>exact s
 | cons r t ih=>exact .cons r ih
theorem Vals.take:∀{xs:List V} {us:List aq} (n:Nat),Vals xs us->Vals (xs.take n) (us.take n)
 | _,_,0,_=>.nil
 | _,_,_+1,.nil=>.nil
 | _,_,n+1,.cons r t=>.cons r (Vals.take n t)
theorem Vals.drop:∀{xs:List V} {us:List aq} (n:Nat),Vals xs us->Vals (xs.drop n) (us.drop n)
 | _,_,0,r=>r
 | _,_,_+1,.nil=>.nil
 | _,_,n+1,.cons _ t=>Vals.drop n t
def FN:Option V->Option aq->Prop
 | some v,some u=>RelV v u
 | none,none=>True
 | _,_=>False
def KV{κ:Type}:List (κ×V)->List (κ×aq)->Prop:=Paired fun (p:κ×V) (q:κ×aq)=>p.1=q.1/\RelV p.2 q.2
def kV:Key->V
 | .inl i=>.int i
 | .inr x=>.str x
inductive HO where
 | lst (xs:List V)
 | tup (xs:List V)
 | dK (Cz:List (Key×V)) | dT (Cz:List (List Key×V))
 | set (S:Int->Bool) (n:Nat)
 | ins (C dx:av) (fs:List (Str×V))
 | own (x:av)
 | xd (fs:List (Str×V))
 | met (f x:av)
 | YT (lo hi:Int)
 | CA (o:Obj) (u:HO)
 | CB (p:PySem.Pos) (q:Str)
 | ext (φ:aX->Prop)
abbrev Hp:=av->Option HO
def upd(H:Hp)(a:av)(o:HO):Hp:=fun b=>if b=a then some o else H b
theorem bS:upd H a o a=some o:=by unfold upd;rw[aH2 rfl]
theorem aV(h:b≠a):upd H a o b=H b:=by unfold upd;rw[aH3 h]
theorem b8{H:Hp}(h:H a=some o)(h':H b=none):a≠b:=by
 intro e;subst e;rw[h] at h';cases h'
section
variable (P:dh)(w:bN)
def gC(H:Hp)(h:aX)(a:av):HO->Prop
 | .lst xs=>xs.length<=cK/\∃(bA:List aq) (n:Nat),Vals xs bA/\h.get? a=some { cls:=.type "list",data:=.seq bA.toArray n }
 | .tup xs=>xs.length<=cK/\∃bA:List aq,Vals xs bA/\IsTup h a bA.toArray
 | .dK Cz=>Cz.length<=cK/\(a==oz)=false/\∃vs,KV Cz vs/\h.DictOf (Hz P w) a vs
 | .dT Cz=>Cz.length<=cK/\(a==oz)=false/\∃xs:List (List Key×av×aq),
   Paired (fun (p:List Key×V) (q:List Key×av×aq)=>p.1=q.1/\H q.2.1=some (.tup (p.1.map kV))/\RelV p.2 q.2.2) Cz xs/\
   ∃o es ep,h.get? a=some o/\o.ExactDict/\o.data = .dict es ep/\es.toList=xs.map (qm (tupleKind (Hz P w)))/\(xs.map (·.1)).Nodup
 | .set S n=>h.SetOf (intKind P w) a S n
 | .ins C dx fs=>H dx=some (.own a)/\fs.length<=1000/\dx≠a/\h.get? a=some (vm C dx)/\
   ∃mA,h.Ns1 dx mA/\(∀f,FN (fs.lookup f) (mA f))/\PySem.Within mA (fs.map (·.1))
 | .own _=>∃o,h.get? a=some o
 | .xd fs=>∃mA,h.Ns1 a mA/\∀f,FN (fs.lookup f) (mA f)
 | .YT lo hi=>∃t u v,h.get? a=some { cls:=.type "range",data:=.fields #[.int lo t,.int hi u,.int 1 v] }
 | .CA o u=>h.get? a=some o/\gC H h a u
 | .CB p q=>∃ps:Array aq,h.get? a=some { cls:=.none,data:=.fields ps }/\TriplesOk ps.toList/\(codeAmong p ps.toList=none\/∃c oc vs t,codeAmong p ps.toList=some (.ref c)/\H c=some (.CA oc (.own c))/\oc.data = .fields vs/\vs[1]?=some (.str q t))
 | .met f x=>h.get? a=some (PySem.W.methodObj (.ref f) (.ref x))
 | .ext φ=>φ h/\(∃o,h.get? a=some o)/\∀h1 h2:aX,φ h1->(∀o,h1.get? a=some o->h2.get? a=some o)->φ h2
def rQ(H:Hp)(h:aX):Prop:=∀a o,H a=some o->gC P w H h a o
end
section
theorem gC.lt(x:gC P w H h a o):a < h.objs.size:=by
 cases o with
 | lst xs=>obtain ⟨_,_,_,_,e⟩:=x;exact bX e
 | tup xs=>obtain ⟨_,_,_,p⟩:=x;exact p.lt
 | dK Cz=>obtain ⟨_,_,_,_,o,_,_,e,_⟩:=x;exact bX e
 | dT Cz=>obtain ⟨_,_,_,_,o,_,_,e,_⟩:=x;exact bX e
 | set S n=>obtain ⟨o,_,_,_,e,_⟩:=x;exact bX e
 | ins C dx fs=>obtain ⟨_,_,_,e,_⟩:=x;exact bX e
 | own y=>obtain ⟨_,e⟩:=x;exact bX e
 | xd fs=>obtain ⟨_,⟨_,_,_,e,_⟩,_⟩:=x;exact bX e
 | YT lo hi=>obtain ⟨_,_,_,e⟩:=x;exact bX e
 | CA ob u=>obtain ⟨e,_⟩:=x;exact bX e
 | CB p q=>obtain ⟨_,e,_⟩:=x;exact bX e
 | met f y=>exact bX (show h.get? a=some _ from x)
 | ext φ=>obtain ⟨_,⟨_,e⟩,_⟩:=x;exact bX e
theorem Paired.ap3{G:α->β->Prop}(h:Paired F ap4 ap5)(f:∀a b,F a b->G a b):Paired G ap4 ap5:=by
 induction h with
 | nil=>exact .nil
 | cons r t ih=>exact .cons (f _ _ r) ih
theorem gC.z8(x:gC P w H h a o)(k:∀b u,(b=a\/H b=some (.own a))->h.get? b=some u->h'.get? b=some u)
  (ho:∀b,H b=some (.own a)->H' b=some (.own a)) (ht:∀b xs,H b=some (.tup xs)->H' b=some (.tup xs)) (hf:∀b o u,H b=some (.CA o u)->H' b=some (.CA o u)):gC P w H' h' a o:=by
 induction o with
 | lst xs=>obtain ⟨z,bA,n,r,e⟩:=x;exact⟨z,bA,n,r,k _ _ (.inl rfl) e⟩
 | tup xs=>obtain ⟨z,bA,r,ob,e,c⟩:=x;exact⟨z,bA,r,ob,k _ _ (.inl rfl) e,c⟩
 | dK Cz=>obtain ⟨z,y,vs,r,ob,es,ep,e,c⟩:=x;exact⟨z,y,vs,r,ob,es,ep,k _ _ (.inl rfl) e,c⟩
 | dT Cz=>
  obtain ⟨z,y,xs,r,ob,es,ep,e,c⟩:=x
  exact⟨z,y,xs,Paired.ap3 r fun p q z=>⟨z.1,ht _ _ z.2.1,z.2.2⟩,ob,es,ep,k _ _ (.inl rfl) e,c⟩
 | set S n=>obtain ⟨ob,es,ep,t,e,c⟩:=x;exact⟨ob,es,ep,t,k _ _ (.inl rfl) e,c⟩
 | ins C dx fs=>
  obtain ⟨d,z,ne,e,mA,⟨od,es,ep,e2,c⟩,r⟩:=x
  exact⟨ho _ d,z,ne,k _ _ (.inl rfl) e,mA,⟨od,es,ep,k _ _ (.inr d) e2,c⟩,r⟩
 | own y=>obtain ⟨ob,e⟩:=x;exact⟨ob,k _ _ (.inl rfl) e⟩
 | xd fs=>obtain ⟨mA,⟨od,es,ep,e,c⟩,r⟩:=x;exact⟨mA,⟨od,es,ep,k _ _ (.inl rfl) e,c⟩,r⟩
 | YT lo hi=>obtain ⟨t,u,v,e⟩:=x;exact⟨t,u,v,k _ _ (.inl rfl) e⟩
 | CA ob u ih=>obtain ⟨e,q⟩:=x;exact⟨k _ _ (.inl rfl) e,ih q⟩
 | CB p q=>
  obtain ⟨ps,e,t,z⟩:=x
  exact⟨ps,k a _ (.inl rfl) e,t,z.imp id fun ⟨c,oc,vs,u,a,b,d⟩=>⟨c,oc,vs,u,a,hf _ _ _ b,d⟩⟩
 | met f y=>
  have e:h.get? a=some (PySem.W.methodObj (.ref f) (.ref y)):=x
  show h'.get? a=some (PySem.W.methodObj (.ref f) (.ref y))
  exact k a _ (.inl rfl) e
 | ext φ=>obtain ⟨p,⟨o,e⟩,st⟩:=x;exact⟨st _ _ p fun o q=>k _ _ (.inl rfl) q,⟨o,k _ _ (.inl rfl) e⟩,st⟩
theorem rQ.lt(x:rQ P w H h)(e:H a=some o):a < h.objs.size:=(x a o e).lt
theorem rQ.fresh(x:rQ P w H h)(e:h.objs.size<=a):H a=none:=by
 cases q:H a with
 | none=>rfl
 | some u=>exact aI4 (iJ (x.lt q) e) (rV _)
theorem rQ.kept(x:rQ P w H h)(k:∀b u,h.get? b=some u->h'.get? b=some u):rQ P w H h':=fun a o e=>
 (x a o e).z8 (fun b u _ q=>k b u q) (fun _ q=>q) (fun _ _ q=>q) fun _ zo _ q=>q
theorem rQ.laid(x:rQ P w H h)(k:∀b u,h.get? b=some u->h'.get? b=some u)(hp:h.objs.size<=a)(new:gC P w (upd H a o) h' a o):rQ P w (upd H a o) h':=fun b u e=>by
 have hn:=x.fresh hp
 by_cases hb:b=a
 ·subst hb;rw[bS] at e;cases e;exact new
 ·rw[aV hb] at e
  exact(x b u e).z8 (fun c v _ q=>k c v q) (fun c q=>by rw[aV (b8 q hn)];exact q) (fun c xs q=>by rw[aV (b8 q hn)];exact q) fun c zo xs q=>by rw[aV (b8 q hn)];exact q
end
def Rd(H:Hp)(a:av)(u:HO):Prop:=H a=some u\/∃o,H a=some (.CA o u)
theorem Rd.ok(r:Rd H a u)(x:rQ P w H h):gC P w H h a u:=by
 rcases r with r | ⟨o,r⟩
 ·exact x a u r
 ·obtain ⟨_,q⟩:=x a _ r
  exact q
def Mut:Option HO->Prop
 | some (.lst _)=>True
 | some (.dK _)=>True
 | some (.dT _)=>True
 | some (.set _ _)=>True
 | some (.ins _ _ _)=>True
 | some (.ext _)=>True
 | _=>False
section
theorem rQ.write(ok:rQ P w H h)(mu:Mut (H x))(he:e=x\/H e=some (.own x))(k:∀b u,b≠e->h.get? b=some u->h'.get? b=some u)(QH:∃u,h'.get? e=some u)
  (new:gC P w (upd H x o') h' x o'):rQ P w (upd H x o') h':=fun b u q=>by
 have YU:∀c y,H c=some (.own y)->c≠x:=fun c y r z=>by subst z;rw[r] at mu;exact mu
 have nfz:∀c o u,H c=some (.CA o u)->c≠x:=fun c o u r z=>by subst z;rw[r] at mu;exact mu
 have ap6:∀c xs,H c=some (.tup xs)->c≠x:=fun c xs r z=>by subst z;rw[r] at mu;exact mu
 by_cases hb:b=x
 ·subst hb;rw[bS] at q;cases q;exact new
 ·rw[aV hb] at q
  by_cases QI:b=e
  ·have q':H b=some (.own x):=by
    rcases he with z | z
    ·exact aI4 (QI.trans z) hb
    ·rw[QI];exact z
   rw[q] at q';cases q'
   obtain ⟨v,hv⟩:=QH
   exact⟨v,by rw[QI];exact hv⟩
  ·refine(ok b u q).z8 (fun c v hc r=>k c v ?_ r) (fun c r=>by rw[aV (YU c b r)];exact r) (fun c xs r=>by rw[aV (ap6 c xs r)];exact r) fun c zo xs r=>by rw[aV (nfz c zo xs r)];exact r
   rcases hc with rfl | hc
   ·exact QI
   ·rintro rfl
    rcases he with z | z
    ·exact YU c b hc z
    ·rw[hc] at z;cases z;exact hb rfl
end
structure Un(fs ex:List av)(H H':Hp)(h h':aX):Prop where
 keep:∀b o,h.get? b=some o->H b=none->b∉fs->b∉ex->h'.get? b=some o
 slot:∀b o,h.get? b=some o->H b=none->b∈fs->b∉ex->∃sl,h'.get? b=some { o with slots:=sl }
 free:∀b o,h.get? b=some o->H b=none->b∉ex->H' b=none
 there:∀b o,h.get? b=some o->b∉ex->∃o',h'.get? b=some o'
 oS:∀b xs,H b=some (.tup xs)->H' b=some (.tup xs)
 xB:∀b o u,H b=some (.CA o u)->H' b=some (.CA o u)
 xC:∀b p q,H b=some (.CB p q)->H' b=some (.CB p q)
section
theorem Un.any(u:Un fs ex H H1 h h1)(q:h.get? b=some ob)(n:H b=none)(hx:b∉ex):∃sl,h1.get? b=some { ob with slots:=sl }:=by
 by_cases hb:b∈fs
 ·exact u.slot b ob q n hb hx
 ·exact⟨ob.slots,u.keep b ob q n hb hx⟩
theorem Un.kept(k:∀b u,h.get? b=some u->h'.get? b=some u):Un fs ex H H h h':=
 ⟨fun b ob q _ _ _=>k b ob q,fun b ob q _ _ _=>⟨ob.slots,k b ob q⟩,fun _ _ _ n _=>n,fun b ob q _=>⟨ob,k b ob q⟩,fun _ _ q=>q,fun _ _ _ q=>q,fun _ _ _ q=>q⟩
theorem Un.refl:Un fs ex H H h h:=Un.kept fun _ _ q=>q
theorem Un.laid(k:∀b u,h.get? b=some u->h'.get? b=some u)(hp:h.objs.size<=a)(hn:H a=none):Un fs ex H (upd H a o) h h' where
 keep:=fun b u q _ _ _=>k b u q
 slot:=fun b u q _ _ _=>⟨u.slots,k b u q⟩
 free:=fun b u q n _=>by rw[aV (di (iJ (bX q) hp))];exact n
 there:=fun b u q _=>⟨u,k b u q⟩
 oS:=fun b xs q=>by rw[aV (b8 q hn)];exact q
 xB:=fun b u xs q=>by rw[aV (b8 q hn)];exact q
 xC:=fun b p r q=>by rw[aV (b8 q hn)];exact q
theorem Un.write(mu:Mut (H x))(he:e=x\/H e=some (.own x))(k:∀b u,b≠e->h.get? b=some u->h'.get? b=some u)(QH:∃u,h'.get? e=some u):Un fs ex H (upd H x o) h h':=by
 have hx:∀b,H b=none->b≠x:=fun b n z=>by subst z;rw[n] at mu;exact mu
 have hb:∀b,H b=none->b≠e:=fun b n z=>by
  subst z
  rcases he with r | r
  ·exact hx b n r
  ·rw[n] at r;cases r
 have hm:∀b u,H b=some u->¬ Mut (some u)->b≠x:=fun b u q nm z=>by subst z;rw[q] at mu;exact nm mu
 refine⟨fun b u q n _ _=>k b u (hb b n) q,fun b u q n _ _=>⟨u.slots,k b u (hb b n) q⟩,fun b u q n _=>by rw[aV (hx b n)];exact n,fun b u q _=>?_,
  fun b xs q=>by rw[aV (hm b _ q fun z=>z)];exact q,fun b u xs q=>by rw[aV (hm b _ q fun z=>z)];exact q,fun b p r q=>by rw[aV (hm b _ q fun z=>z)];exact q⟩
 by_cases QI:b=e
 ·subst QI;exact QH
 ·exact⟨u,k b u QI q⟩
end
def trk(h:aX)(H:Hp):List av:=(dj h.objs.size).filter fun a=>(H a).isSome
def CC(h:aX)(H:Hp):aX:=zG h (trk h H)
theorem J8(h:aX)(H:Hp):(CC h H).objs.size=h.objs.size:=PySem.W.hideAll_size _ _
theorem CD{h:aX}(e:h.get? b=some o)(n:H b=none):(CC h H).get? b=some o:=
 Lj _ e fun hm=>by
  have q:(H b).isSome=true:=(wV.mp hm).2
  rw[n] at q;simp at q
theorem QJ(e:(CC h H).get? b=some o):h.get? b=some o/\H b=none:=by
 have e':h.get? b=some o:=Hx (trk h H) e
 refine⟨e',?_⟩
 cases q:H b with
 | none=>rfl
 | some x=>
  have hm:b∈trk h H:=wV.mpr ⟨mD.mpr (bX e'),by simp[q]⟩
  have z:(CC h H).get? b=none:=TQ (trk h H) hm
  rw[z] at e;cases e
structure Mod(K:aD)(mg:Str->Option aq)(base:aX):Prop where
 YV:K.In base
 glob:base.Ns dz mg
 blt:∃mb,base.Ns builtinsNs mb/\∀x:Str,x≠ "__name__" ->mb x=lE x
 nolimit:base.NoLimit
structure Cx where
 prog:dh
 w:bN
 K:aD
 mg:Str->Option aq
 base:aX
 A:bY
 N:List Str
 ji:az
 N7:Hp
 env:Env
 outer:List Env
 stack:List Env
 ex:List av
 fn:Str->Bool
 calm:Bool
 pn:List (av×Obj)
 xe:aq->az->Prop
def xD(l:List Env):List av:=l.filterMap (·.frame)
abbrev Cx.fs(X:Cx):List av:=xD X.outer
def Vis(sc:iI)(x:Str):Prop:=sc.names.lookup x=some .local\/sc.names.lookup x=some .cell\/sc.names.lookup x=some .free
def Loc(sc:iI)(x:Str):Prop:=sc.names.lookup x=some .local\/sc.names.lookup x=some .cell
def Look(env:Env)(h:aX)(m:Str->Option aq)(x:Str)(u:aq):Prop:=
 (env.kindOf x=some .local/\m x=some u)\/((env.kindOf x=some .cell\/env.kindOf x=some .free)/\∃c,env.cells.lookup x=some c/\h.IsCell c (some u))
structure Cx.Ok(X:Cx):Prop where
 mod:Mod X.K X.mg X.base
 kind:X.env.scope.kind = .function
 glob:X.env.globals=dz
 blt:X.env.builtins=builtinsNs
 above:X.ji.heap.objs.size<=X.env.locals
 inj:∀x y c,X.env.cells.lookup x=some c->X.env.cells.lookup y=some c->x=y
 has:∀x,(X.env.kindOf x=some .cell\/X.env.kindOf x=some .free)->∃c,X.env.cells.lookup x=some c
 Yn:∀x c,X.fn x=true->X.env.cells.lookup x=some c->X.ji.heap.objs.size<=c
 hd:X.calm=true->X.A.handled=none
 frames:X.A.frames=some X.stack
 N8:X.stack=X.outer\/(X.stack=X.env::X.outer/\X.env.frame=some X.env.locals)
 YW:∀b∈X.ex,b≠X.env.locals/\∀x c,X.env.cells.lookup x=some c->c≠b
 bs:∀b o,X.base.get? b=some o->X.ji.heap.get? b=some o/\X.N7 b=none
 Qq:X.base.objs.size<=X.ji.heap.objs.size
 J9:∀b o,X.base.get? b=some o->b∉X.ex
 Ja:∀b∈X.ex,b∉X.fs
 uB:X.ji.heap.FunFrames X.base X.outer
 TY:∀b∈X.fs,X.N7 b=none
structure Inv(X:Cx)(pins:List (av×Obj))(σ:List (Option V))(H:Hp)(s:az):Prop where
 ok:X.Ok
 os:s.os=X.ji.os
 bare:AllBare s.gens
 base:Un X.fs X.ex X.N7 H X.ji.heap s.heap
 loc:∃m,s.heap.Ns X.env.locals m/\∀(i:Nat) (x:Str) (v:V),X.N[i]?=some x->σ[i]?=some (some v)->Vis X.env.scope x->∃u,RelV v u/\Look X.env s.heap m x u
 cell:∀x c,X.env.cells.lookup x=some c->∃v,s.heap.IsCell c v
 free:H X.env.locals=none
 qq:∀x c,X.env.cells.lookup x=some c->H c=none
 pin:∀p∈X.pn++pins,s.heap.get? p.1=some p.2/\H p.1=none/\p.1≠X.env.locals/\p.1∉X.fs/\∀v,p.2.data≠ .cell v
 fB:rQ X.prog X.w H s.heap
 len:σ.length=X.N.length
section
variable {X:Cx}{s:az}
theorem Cx.Ok.ap7(ok:X.Ok)(e:X.base.get? b=some o):b∉X.fs:=fun hb=>by
 have:=(ok.uB.mem hb).1
 rw[e] at this;cases this
theorem Inv.bs(I:Inv X pins σ H s):∀b o,X.base.get? b=some o->s.heap.get? b=some o/\H b=none:=fun b o e=>
 ⟨I.base.keep b o (I.ok.bs b o e).1 (I.ok.bs b o e).2 (I.ok.ap7 e) (I.ok.J9 b o e),I.base.free b o (I.ok.bs b o e).1 (I.ok.bs b o e).2 (I.ok.J9 b o e)⟩
theorem Inv.bk(I:Inv X pins σ H s):∀b o,X.base.get? b=some o->s.heap.get? b=some o:=fun b o e=>(I.bs b o e).1
theorem Inv.mod(I:Inv X pins σ H s):Mod X.K X.mg X.base:=I.ok.mod
theorem Inv.Jb(I:Inv X pins σ H s):X.K.In s.heap:=I.ok.mod.YV.keeps I.bk
theorem Inv.nolimit(I:Inv X pins σ H s):s.heap.NoLimit:=I.ok.mod.nolimit.keeps I.bk
theorem Inv.lt(I:Inv X pins σ H s):X.env.locals < s.heap.objs.size:=let ⟨_,hn,_⟩:=I.loc;hn.lt
theorem Inv.sz(I:Inv X pins σ H s):X.ji.heap.objs.size<=s.heap.objs.size:=cC I.ok.above (jf I.lt)
theorem Inv.ap8(I:Inv X pins σ H s)(h:s.heap.objs.size<=a):a∉X.fs:=fun hb=>by
 obtain ⟨_,o,ho,_⟩:=I.ok.uB.mem hb
 exact aI4 (iJ (bX ho) (cC I.sz h)) (rV _)
theorem Inv.V6(I:Inv X pins σ H s):∀x c,X.env.cells.lookup x=some c->c≠X.env.locals:=fun x c e z=>by
 refine dS (I.cell x c e) fun v o ho hd=>?_
 refine aY I.loc fun m jx _=>?_
 obtain ⟨o',es,ep,CF,Qs,_⟩:=jx
 rw[z,CF] at ho;cases ho;rw[Qs] at hd;cases hd
theorem Inv.uB(I:Inv X pins σ H s):s.heap.FunFrames X.base X.outer:=by
 have all:∀(l:List Env),(∀b∈xD l,b∈X.fs)->X.ji.heap.FunFrames X.base l->s.heap.FunFrames X.base l:=by
  intro l
  induction l with
  | nil=>intro _ _;trivial
  | cons env r ih=>
   intro hs hl
   refine z7 hl fun hk jx hr=>?_
   clear hl
   obtain ⟨L,o,hf,hn,ho,hd⟩:=jx
   have hL:L∈X.fs:=hs L (by unfold xD;rw[LA,hf];exact vn)
   obtain ⟨sl,e⟩:=I.base.slot L o ho (I.ok.TY L hL) hL fun z=>I.ok.Ja L z hL
   exact⟨hk,⟨L,_,hf,hn,e,hd⟩,ih (fun b hb=>hs b (by unfold xD;rw[LA,hf];exact oG _ hb)) hr⟩
 exact all X.outer (fun _ hb=>hb) I.ok.uB
theorem Inv.stack(I:Inv X pins σ H s):s.heap.FunFrames X.base X.stack:=by
 rcases I.ok.N8 with e | ⟨e,hf⟩
 ·rw[e];exact I.uB
 ·rw[e]
  refine aY I.loc fun m hn _=>?_
  refine .cons (by rw[I.ok.kind];decide) hf hn ?_ I.uB
  exact Heap.get?_none_of_le (cC I.ok.Qq I.ok.above)
theorem Inv.FO(I:Inv X pins σ H s):∀b∈xD X.stack,b∈X.env.locals::X.fs:=fun b hb=>by
 rcases I.ok.N8 with e | ⟨e,hf⟩
 ·rw[e] at hb;exact oG _ hb
 ·rw[e] at hb
  unfold xD at hb
  rw[LA,hf] at hb
  exact hb
theorem Inv.HA(I:Inv X pins σ H s):∀b∈xD X.stack,H b=none:=fun b hb=>by
 rcases bP.mp (I.FO b hb) with e | hb
 ·rw[e];exact I.free
 ·obtain ⟨_,o,ho,_⟩:=I.ok.uB.mem hb
  exact I.base.free b o ho (I.ok.TY b hb) fun z=>I.ok.Ja b z hb
theorem Inv.step{t':Nat}{d':Drawn}{ch:List av}(I:Inv X pins σ H s)
  (Qt:∀b∈ch,(b∈X.ex\/X.ji.heap.objs.size<=b)/\b≠X.env.locals/\(∀x c,X.env.cells.lookup x=some c->c≠b)/\∀p∈X.pn++pins,p.1≠b)
  (keep:∀b o,b≠X.env.locals->b∉X.fs->b∉ch->s.heap.get? b=some o->H b=none->h'.get? b=some o)
  (slot:∀b o,b≠X.env.locals->b∈X.fs->b∉ch->s.heap.get? b=some o->H b=none->∃sl,h'.get? b=some { o with slots:=sl }) (free:∀b o,b∉ch->s.heap.get? b=some o->H b=none->H' b=none)
  (there:∀b o,b∉ch->s.heap.get? b=some o->∃o',h'.get? b=some o')
  (oS:∀b xs,H b=some (.tup xs)->H' b=some (.tup xs)) (xB:∀b o u,H b=some (.CA o u)->H' b=some (.CA o u)) (xC:∀b p q,H b=some (.CB p q)->H' b=some (.CB p q))
  (ns:∀m,s.heap.Ns X.env.locals m->h'.Ns X.env.locals m) (fB:rQ X.prog X.w H' h') (hg:AllBare g') :
  Inv X pins σ H' { s with heap:=h',gens:=g',drawn:=d',toks:=t' }:=by
 have neL:∀b o,X.ji.heap.get? b=some o->b≠X.env.locals:=fun b o e=>di (iJ (bX e) I.ok.above)
 have neC:∀b o,X.ji.heap.get? b=some o->b∉X.ex->b∉ch:=fun b o e hx hb=>by
  rcases (Qt b hb).1 with z | z
  ·exact hx z
  ·exact aI4 (iJ (bX e) z) (rV _)
 have cellK:∀x c,X.env.cells.lookup x=some c->∀v,s.heap.IsCell c v->h'.IsCell c v:=fun x c e v jd=>by
  refine aY jd fun o ho hd=>?_
  clear jd
  have YX:c∉ch:=fun z=>(Qt c z).2.2.1 x c e rfl
  by_cases hc:c∈X.fs
  ·obtain ⟨sl,q⟩:=slot c o (I.V6 x c e) hc YX ho (I.qq x c e)
   exact⟨_,q,hd⟩
  ·exact⟨o,keep c o (I.V6 x c e) hc YX ho (I.qq x c e),hd⟩
 refine⟨I.ok,I.os,hg,⟨fun b o e n hb hx=>?_,fun b o e n hb hx=>?_,fun b o e n hx=>?_,fun b o e hx=>?_,fun b xs e=>oS b xs (I.base.oS b xs e),fun b o xs e=>xB b o xs (I.base.xB b o xs e),fun b p q e=>xC b p q (I.base.xC b p q e)⟩,?_,fun x c e=>?_,?_,fun x c e=>?_,fun p hp=>?_,fB,I.len⟩
 ·exact keep b o (neL b o e) hb (neC b o e hx) (I.base.keep b o e n hb hx) (I.base.free b o e n hx)
 ·obtain ⟨sl,e1⟩:=I.base.slot b o e n hb hx
  obtain ⟨sl',e2⟩:=slot b _ (neL b o e) hb (neC b o e hx) e1 (I.base.free b o e n hx)
  exact⟨sl',e2⟩
 ·obtain ⟨o',e1⟩:=I.base.there b o e hx
  exact free b o' (neC b o e hx) e1 (I.base.free b o e n hx)
 ·obtain ⟨o',e1⟩:=I.base.there b o e hx
  exact there b o' (neC b o e hx) e1
 ·refine aY I.loc fun m hn hl=>?_
  refine⟨m,ns m hn,fun i x v e1 e2 e3=>?_⟩
  refine aY (hl i x v e1 e2 e3) fun u r l=>?_
  refine⟨u,r,?_⟩
  rcases l with l | ⟨k,c,e,z⟩
  ·exact .inl l
  ·exact .inr ⟨k,c,e,cellK x c e _ z⟩
 ·obtain ⟨v,z⟩:=I.cell x c e
  exact⟨v,cellK x c e v z⟩
 ·refine aY I.loc fun m jx _=>?_
  obtain ⟨o,_,_,ho,_⟩:=jx
  exact free _ o (fun z=>(Qt _ z).2.1 rfl) ho I.free
 ·refine dS (I.cell x c e) fun v o ho hd=>?_
  exact free c o (fun z=>(Qt c z).2.2.1 x c e rfl) ho (I.qq x c e)
 ·refine QD (I.pin p hp) fun e n ne nf d=>?_
  have YX:p.1∉ch:=fun z=>(Qt p.1 z).2.2.2 p hp rfl
  exact⟨keep p.1 p.2 ne nf YX e n,free p.1 p.2 YX e n,ne,nf,d⟩
theorem Inv.un{t':Nat}(I:Inv X pins σ H s)(u:Un X.fs [] H H' s.heap h')(fB:rQ X.prog X.w H' h'):Inv X pins σ H' { s with heap:=h',toks:=t' }:=by
 refine aY (id I.loc) fun m jx _=>?_
 obtain ⟨o,es,ep,ho,r⟩:=jx
 obtain ⟨sl,hL⟩:=u.any ho I.free (by simp)
 exact I.step (g':=s.gens) (d':=s.drawn) (ch:=[]) (fun _ z=>nomatch z) (fun b o _ hb _ e n=>u.keep b o e n hb (by simp)) (fun b o _ hb _ e n=>u.slot b o e n hb (by simp)) (fun b o _ e n=>u.free b o e n (by simp)) (fun b o _ e=>u.there b o e (by simp)) u.oS u.xB u.xC (fun m' hm=>by
  refine QE hm fun o' CG Bb CF r'=>?_
  clear hm
  rw[ho] at CF;cases CF
  exact⟨_,CG,Bb,hL,r'⟩) fB I.bare
theorem Inv.call{t':Nat}{d':Drawn}(I:Inv X pins σ H s)(u:Un (xD X.stack) ch H H' s.heap h')(fB:rQ X.prog X.w H' h')(hg:AllBare g')
  (Qt:∀b∈ch,(b∈X.ex\/X.ji.heap.objs.size<=b)/\b≠X.env.locals/\(∀x c,X.env.cells.lookup x=some c->c≠b)/\∀p∈X.pn++pins,p.1≠b) :
  Inv X pins σ H' { s with heap:=h',gens:=g',drawn:=d',toks:=t' }:=by
 refine aY (id I.loc) fun m jx _=>?_
 obtain ⟨o,es,ep,ho,r⟩:=jx
 obtain ⟨sl,hL⟩:=u.any ho I.free fun z=>(Qt _ z).2.1 rfl
 exact I.step (ch:=ch) Qt (fun b o hL hb hc e n=>u.keep b o e n (fun z=>(bP.mp (I.FO b z)).elim hL hb) hc) (fun b o _ _ hc e n=>u.any e n hc) (fun b o hc e n=>u.free b o e n hc) (fun b o hc e=>u.there b o e hc) u.oS u.xB u.xC (fun m' hm=>by
  refine QE hm fun o' CG Bb CF r'=>?_
  clear hm
  rw[ho] at CF;cases CF
  exact⟨_,CG,Bb,hL,r'⟩) fB hg
theorem Inv.turned{t':Nat}{it:av}(I:Inv X pins σ H s)(k:∀b o,b≠it->s.heap.get? b=some o->h'.get? b=some o)(hn:H it=none)(hL:it≠X.env.locals)
  (h1:it∈X.ex\/X.ji.heap.objs.size<=it) (h2:∀x c,X.env.cells.lookup x=some c->c≠it) (h3:∀p∈X.pn++pins,p.1≠it):Inv X pins σ H { s with heap:=h',toks:=t' }:=by
 have nit:∀b u,H b=some u->b≠it:=fun b u e z=>by rw[z,hn] at e;cases e
 refine I.step (g':=s.gens) (d':=s.drawn) (ch:=[it]) (fun b hb=>?_) (fun b o _ _ hc e _=>k b o (fun z=>hc (by simp[z])) e) (fun b o _ _ hc e _=>⟨o.slots,k b o (fun z=>hc (by simp[z])) e⟩) (fun _ _ _ _ n=>n)
  (fun b o hc e=>⟨o,k b o (fun z=>hc (by simp[z])) e⟩) (fun _ _ e=>e) (fun _ _ _ e=>e) (fun _ _ _ e=>e) (fun m hm=>?_) (fun b u e=>?_) I.bare
 ·have e:b=it:=by simpa using hb
  subst e
  exact⟨h1,hL,h2,h3⟩
 ·refine QE hm fun o es ep ho r=>?_
  clear hm
  exact⟨o,es,ep,k _ o (eX hL) ho,r⟩
 ·refine(I.fB b u e).z8 (fun c v hc q=>k c v ?_ q) (fun _ q=>q) (fun _ _ q=>q) fun _ zo _ q=>q
  rcases hc with z | z
  ·rw[z];exact nit b u e
  ·exact nit c _ z
theorem Inv.tok(I:Inv X pins σ H s)(t:Nat):Inv X pins σ H { s with toks:=t }:=I.un (h':=s.heap) (t':=t) Un.refl I.fB
theorem Inv.kept(I:Inv X pins σ H s)(k:∀b u,s.heap.get? b=some u->h'.get? b=some u):Inv X pins σ H { s with heap:=h',toks:=t' }:=I.un (Un.kept k) (I.fB.kept k)
theorem Inv.laid(I:Inv X pins σ H s)(k:∀b u,s.heap.get? b=some u->h'.get? b=some u)(hp:s.heap.objs.size<=a)(new:gC X.prog X.w (upd H a o) h' a o) :
  Inv X pins σ (upd H a o) { s with heap:=h',toks:=t' }:=I.un (Un.laid k hp (I.fB.fresh hp)) (I.fB.laid k hp new)
theorem Inv.write(I:Inv X pins σ H s)(mu:Mut (H x))(he:e=x\/H e=some (.own x))(k:∀b u,b≠e->s.heap.get? b=some u->h'.get? b=some u)(QH:∃u,h'.get? e=some u)
  (new:gC X.prog X.w (upd H x o) h' x o):Inv X pins σ (upd H x o) { s with heap:=h',toks:=t' }:=I.un (Un.write mu he k QH) (I.fB.write mu he k QH new)
theorem Inv.rX(I:Inv X pins σ H s)(h:∀p∈YY,s.heap.get? p.1=some p.2/\H p.1=none/\p.1≠X.env.locals/\p.1∉X.fs/\∀v,p.2.data≠ .cell v):Inv X YY σ H s:=
 ⟨I.ok,I.os,I.bare,I.base,I.loc,I.cell,I.free,I.qq,fun p hp=>(gy.mp hp).elim (fun z=>I.pin p (Hy _ z)) (h p),I.fB,I.len⟩
theorem CH{N:List Str}(hN:N.Nodup){i j:Nat}(a:N[i]?=some x)(b:N[j]?=some x):i=j:=by
 obtain ⟨h1,e1⟩:=gz.mp a
 obtain ⟨h2,e2⟩:=gz.mp b
 exact(List.getElem_inj hN).mp (e1.trans e2.symm)
theorem zK{Q:Unit->az->Prop}(I:Inv X pins σ H s)(hN:X.N.Nodup)(hi:X.N[i]?=some x)(hx:Loc X.env.scope x)(r:RelV v u)
  (h:∀s',Inv X pins (σ.set i (some v)) H s'->(∃a,gZ a s.heap s'.heap/\(a=X.env.locals\/X.env.cells.lookup x=some a))->Q () s') (hf:X.fn x=true\/X.env.scope.names.lookup x=some .local:=by first | exact .inl rfl | exact .inr rfl | assumption):aB M A (storeName X.env x u) Q E s:=by
 refine aY (id I.loc) fun m hn hl=>?_
 have ap9:(X.env.scope.kind == .class || (X.env.scope.kind == .module&&X.env.locals !=X.env.globals))=false:=by rw[I.ok.kind];rfl
 have YZ:i < σ.length:=by rw[I.len];exact(gz.mp hi).1
 have V6:=I.V6
 have tracked:∀{a:av} {h':aX},(∃o,s.heap.get? a=some o/\H a=none)->gZ a s.heap h'->rQ X.prog X.w H h':=fun {a h'} ha hs b ob e=>by
  refine aY ha fun _ _ HB=>?_
  clear ha
  refine(I.fB b ob e).z8 (fun c w' hc q=>(hs.2 c ?_).trans q) (fun _ q=>q) (fun _ _ q=>q) fun _ zo _ q=>q
  rintro rfl
  rcases hc with rfl | hc
  ·rw[HB] at e;cases e
  ·rw[HB] at hc;cases hc
 rcases hx with hk | hk
 ·refine wpAny_storeName_local hk hn (fun h' xE hs=>?_) ap9
  refine QE (id hn) fun oL _ _ hoL _=>?_
  refine h _ ⟨I.ok,I.os,I.bare,⟨fun b o e n hb hx=>?_,fun b o e n hb hx=>?_,I.base.free,fun b o e hx=>?_,I.base.oS,I.base.xB,I.base.xC⟩,⟨_,xE,fun j y v' e1 e2 e3=>?_⟩,fun y c e=>?_,I.free,I.qq,fun p hp=>?_,tracked ⟨oL,hoL,I.free⟩ hs,by simpa using I.len⟩ ⟨_,hs,.inl rfl⟩
  ·exact(hs.2 b (di (iJ (bX e) I.ok.above))).trans (I.base.keep b o e n hb hx)
  ·obtain ⟨sl,e1⟩:=I.base.slot b o e n hb hx
   exact⟨sl,(hs.2 b (di (iJ (bX e) I.ok.above))).trans e1⟩
  ·obtain ⟨o',e1⟩:=I.base.there b o e hx
   exact⟨o',(hs.2 b (di (iJ (bX e) I.ok.above))).trans e1⟩
  ·by_cases hj:j=i
   ·subst hj
    rw[hi] at e1;cases e1
    rw[mE YZ] at e2
    cases e2
    exact⟨u,r,.inl ⟨hk,by simp⟩⟩
   ·rw[lF (eX hj)] at e2
    refine aY (hl j y v' e1 e2 e3) fun u' r' q=>?_
    refine⟨u',r',?_⟩
    rcases q with ⟨k,e⟩ | ⟨k,c,e,z⟩
    ·refine .inl ⟨k,?_⟩
     have:y≠x:=fun e=>hj (CH hN e1 (e▸hi))
     simp[this,e]
    ·exact .inr ⟨k,c,e,z.sameBut hs (V6 y c e)⟩
  ·obtain ⟨w',z⟩:=I.cell y c e
   exact⟨w',z.sameBut hs (V6 y c e)⟩
  ·refine QD (I.pin p hp) fun e n ne nf d=>?_
   exact⟨(hs.2 p.1 ne).trans e,n,ne,nf,d⟩
 ·have Yo:X.fn x=true:=by
   rcases hf with z | z
   ·exact z
   ·rw[z] at hk;cases hk
  obtain ⟨c,hc⟩:=I.ok.has x (.inl hk)
  obtain ⟨w',z⟩:=I.cell x c hc
  refine wpAny_storeName_cell I.ok.kind hk hc z (fun h' vQ hs=>?_)
  refine aY (id z) fun oc V7 aq0=>?_
  refine h { s with heap:=h' } ⟨I.ok,I.os,I.bare,⟨fun b o e n hb hx=>?_,fun b o e n hb hx=>?_,I.base.free,fun b o e hx=>?_,I.base.oS,I.base.xB,I.base.xC⟩,⟨m,hn.sameBut hs (eX (V6 x c hc)),fun j y v' e1 e2 e3=>?_⟩,fun y c' e=>?_,I.free,I.qq,fun p hp=>?_,tracked ⟨oc,V7,I.qq x c hc⟩ hs,by simpa using I.len⟩ ⟨c,hs,.inr hc⟩
  ·exact(hs.2 b (di (iJ (bX e) (I.ok.Yn x c Yo hc)))).trans (I.base.keep b o e n hb hx)
  ·obtain ⟨sl,e1⟩:=I.base.slot b o e n hb hx
   exact⟨sl,(hs.2 b (di (iJ (bX e) (I.ok.Yn x c Yo hc)))).trans e1⟩
  ·obtain ⟨o',e1⟩:=I.base.there b o e hx
   exact⟨o',(hs.2 b (di (iJ (bX e) (I.ok.Yn x c Yo hc)))).trans e1⟩
  ·by_cases hj:j=i
   ·subst hj
    rw[hi] at e1;cases e1
    rw[mE YZ] at e2
    cases e2
    exact⟨u,r,.inr ⟨.inl hk,c,hc,vQ⟩⟩
   ·rw[lF (eX hj)] at e2
    refine aY (hl j y v' e1 e2 e3) fun u' r' q=>?_
    refine⟨u',r',?_⟩
    rcases q with q | ⟨k,c',e,z'⟩
    ·exact .inl q
    ·refine .inr ⟨k,c',e,z'.sameBut hs ?_⟩
     rintro rfl
     exact hj (CH hN e1 (I.ok.inj _ _ _ e hc▸hi))
  ·by_cases hcc:c'=c
   ·subst hcc;exact⟨_,vQ⟩
   ·obtain ⟨w2,z2⟩:=I.cell y c' e
    exact⟨w2,z2.sameBut hs hcc⟩
  ·refine QD (I.pin p hp) fun e n ne nf d=>?_
   refine⟨(hs.2 p.1 ?_).trans e,n,ne,nf,d⟩
   intro q
   rw[q,V7] at e
   have q':oc=p.2:=eY e
   exact d w' (by rw[<- q'];exact aq0)
theorem rY{Q:Unit->az->Prop}(I:Inv X pins σ H s)(hN:X.N.Nodup)(hi:X.N[i]?=some x)(hx:Loc X.env.scope x)(r:RelV v u)
  (h:∀s',Inv X pins (σ.set i (some v)) H s'->Q () s') (hf:X.fn x=true\/X.env.scope.names.lookup x=some .local:=by first | exact .inl rfl | exact .inr rfl | assumption):aB M A (storeName X.env x u) Q E s:=
 zK I hN hi hx r (fun s' I' _=>h s' I') hf
theorem Inv.CI{s':az}(I:Inv X pins σ H s)(ho:s'.os=s.os)(u:Un (xD X.stack) ch H H' s.heap s'.heap)(fB:rQ X.prog X.w H' s'.heap)(hg:AllBare s'.gens)
  (Qt:∀b∈ch,(b∈X.ex\/X.ji.heap.objs.size<=b)/\b≠X.env.locals/\(∀x c,X.env.cells.lookup x=some c->c≠b)/\∀p∈X.pn++pins,p.1≠b):Inv X pins σ H' s':=by
 obtain ⟨h',g',d',t',o'⟩:=s'
 have e:o'=s.os:=ho
 subst e
 exact I.call (g':=g') (t':=t') (d':=d') u fB hg Qt
end
abbrev XK:=aq->Option av->Hp->Prop
abbrev St:=List (Option V)
abbrev VK:=V->Hp->Prop
abbrev TE:=St->Hp->VK->Prop
abbrev TT:=St->Hp->(Bool->Hp->Prop)->Prop
abbrev TA:=St->Hp->(List V->Hp->Prop)->Prop
structure Ends where
 nx:St->Hp->Prop
 rt:VK
 bk:St->Hp->Prop:=fun _ _=>False
 ct:St->Hp->Prop:=fun _ _=>False
abbrev TS:=Ends->St->Hp->Prop
def EP(X:Cx)(pins:List (av×Obj))(σ:St)(Q:VK)(u:aq)(s':az):Prop:=∃v H',Inv X pins σ H' s'/\RelV v u/\Q v H'
def TP(X:Cx)(pins:List (av×Obj))(σ:St)(Q:Bool->Hp->Prop)(b:Bool)(s':az):Prop:=∃H',Inv X pins σ H' s'/\Q b H'
def AP(X:Cx)(pins:List (av×Obj))(σ:St)(Q:List V->Hp->Prop)(us:List aq)(s':az):Prop:=∃vs H',Inv X pins σ H' s'/\Vals vs us/\Q vs H'
def SP(X:Cx)(pins:List (av×Obj))(D:Ends)(f:Flow)(s':az):Prop:=
 match f with
 | .next=>∃dR H',Inv X pins dR H' s'/\D.nx dR H'
 | .brk=>∃dR H',Inv X pins dR H' s'/\D.bk dR H'
 | .cont=>∃dR H',Inv X pins dR H' s'/\D.ct dR H'
 | .ret u=>∃v dR H',Inv X pins dR H' s'/\RelV v u/\D.rt v H'
def PE(X:Cx)(e:bH)(t:TE):Prop:=
 ∀(pins:List (av×Obj)) (s:az) (σ:St) (H:Hp) (Q:VK),Inv X pins σ H s->t σ H Q->aB (aC X.prog X.w) X.A (eval e X.env) (EP X pins σ Q) X.xe s
def PT(X:Cx)(e:bH)(t:TT):Prop:=
 ∀(pins:List (av×Obj)) (s:az) (σ:St) (H:Hp) (Q:Bool->Hp->Prop),Inv X pins σ H s->t σ H Q->aB (aC X.prog X.w) X.A (isTrue e X.env (eval e X.env)) (TP X pins σ Q) X.xe s
def PW(X:Cx)(e:bH)(t:TT):Prop:=
 ∀(whole:Sem aq) (pins:List (av×Obj)) (s:az) (σ:St) (H:Hp) (Q:Bool->Hp->Prop),Inv X pins σ H s->t σ H Q->aB (aC X.prog X.w) X.A (isTrue e X.env whole) (TP X pins σ Q) X.xe s
theorem PW.pt(h:PW X e t):PT X e t:=h _
def PA(X:Cx)(es:List bH)(t:TA):Prop:=
 ∀(pos:Pos) (pins:List (av×Obj)) (s:az) (σ:St) (H:Hp) (Q:List V->Hp->Prop),Inv X pins σ H s->t σ H Q->aB (aC X.prog X.w) X.A (spliced (backTo pos (bL es X.env))) (AP X pins σ Q) X.xe s
def PS(X:Cx)(st:bw)(t:TS):Prop:=
 ∀(pins:List (av×Obj)) (s:az) (σ:St) (H:Hp) (D:Ends),Inv X pins σ H s->t D σ H->aB (aC X.prog X.w) X.A (exec st X.env) (SP X pins D) X.xe s
def vo(X:Cx)(st:List bw)(t:TS):Prop:=
 ∀(pins:List (av×Obj)) (s:az) (σ:St) (H:Hp) (D:Ends),Inv X pins σ H s->t D σ H->aB (aC X.prog X.w) X.A (execs st X.env) (SP X pins D) X.xe s
theorem gS{Q':α->az->Prop}(h:aB M A t Q E s)(hQ:∀a s,Q a s->Q' a s):aB M A t Q' E s:=iy h hQ fun _ _ x=>x
section
variable {X:Cx}
def uC(i:Nat):TE:=fun σ H Q=>∃v,σ[i]?=some (some v)/\Q v H
def tC(v:V):TE:=fun _ H Q=>Q v H
theorem V8(hN:X.N[i]?=some x)(hv:Vis X.env.scope x)(hd:(x==("__debug__" : Str))=false:=by decide)(FP:(x==("__classdict__" : Str))=false:=by decide):PE X (.Name x pos) (uC i):=by
 intro pins s σ H Q I h
 obtain ⟨v,e,h⟩:=h
 obtain ⟨m,hn,hl⟩:=I.loc
 obtain ⟨u,r,l⟩:=hl i x v hN e hv
 have fin:EP X pins σ Q u s:=⟨v,H,I,r,h⟩
 rcases l with ⟨hk,hm⟩ | ⟨hk,c,hc,xF⟩
 ·exact Cu (L3 I.ok.kind hk hn hm fin) hd
 ·rcases hk with hk | hk
  ·exact Cu (wpAny_loadName_cell I.ok.kind hk hc xF fin) hd
  ·exact Cu (wpAny_loadName_free I.ok.kind hk hc xF fin FP) hd
theorem V9{i j pos}:PE X (.Constant (.int i) j pos) (tC (.int i)):=fun _ _ _ H _ I h=>wpAny_Constant_int ⟨.int i,H,I.tok _,⟨_,rfl⟩,h⟩
theorem Z0{b j pos}:PE X (.Constant (.bool b) j pos) (tC (.bl b)):=fun _ _ _ H _ I h=>Constant_bool ⟨.bl b,H,I,rfl,h⟩
theorem Va{x j pos}:PE X (.Constant (.str x) j pos) (tC (.str x)):=fun _ _ _ H _ I h=>TR ⟨.str x,H,I.tok _,⟨_,rfl⟩,h⟩
def Gl(X:Cx)(x:Str):Prop:=X.env.kindOf x=some .globalImplicit
theorem rZ{Q:aq->az->Prop}(I:Inv X pins σ H s)(hg:Gl X x)(hm:X.mg x=some u)(h:Q u s)
  (hd:(x==("__debug__" : Str))=false:=by decide):aB (aC X.prog X.w) X.A (eval (.Name x pos) X.env) Q E s:=
 Mg I.ok.kind hg (Calls.loadGlobal_global (by rw[I.ok.glob];exact I.mod.glob.keeps I.bk) hm h) hd
theorem xG{Q:aq->az->Prop}(I:Inv X pins σ H s)(hg:Gl X x)(hm:X.mg x=none)(hv:lE x=some u)(h:Q u s)
  (hn:x≠ "__name__":=by decide) (hd:(x==("__debug__" : Str))=false:=by decide):aB (aC X.prog X.w) X.A (eval (.Name x pos) X.env) Q E s:=by
 refine aY I.mod.blt fun mb h1 h2=>?_
 exact Mg I.ok.kind hg (TU (by rw[I.ok.glob];exact I.mod.glob.keeps I.bk) hm (by rw[I.ok.blt];exact h1.keeps I.bk) ((h2 x hn).trans hv) h) hd
theorem QK(hg:Gl X x)(hm:X.mg x=some u)(r:RelV v u)(hd:(x==("__debug__" : Str))=false:=by decide):PE X (.Name x pos) (tC v):=
 fun _ _ _ H _ I h=>rZ I hg hm ⟨v,H,I,r,h⟩ hd
variable {a b:bH}{ta tb:TE}{pos:Pos}
def tB(t:TE):TT:=fun σ H Q=>t σ H fun x H1=>∃c,x = .bl c/\Q c H1
theorem Vb(h:PE X e t)(he:∀whole,isTrue e X.env whole=(do let v <- whole;standAt e.pos;holding [v] (truthy v)):=by intro _;rfl):PT X e (tB t):=by
 intro pins s σ H Q I hw
 refine isTrue_plain (gS (h pins s σ H _ I hw) fun v s1 CJ=>?_) (he _)
 refine bF CJ fun x H1 I1 r1 q1=>?_
 clear CJ
 refine aY q1 fun d jx q=>?_
 clear q1
 obtain rfl:=jx
 cases r1
 exact wH ⟨H1,I1,q⟩
variable {tA tB':TT}{rest:List bH}
def aq1(t u:TT):TT:=fun σ H Q=>t σ H fun c H1=>if c=true then u σ H1 Q else Q false H1
def tOr(t u:TT):TT:=fun σ H Q=>t σ H fun c H1=>if c=true then Q true H1 else u σ H1 Q
def aq2(t:TT):TT:=fun σ H Q=>t σ H fun c H1=>Q (!c) H1
theorem pw_and1(ha:PT X a tA):PW X (.BoolOp .And [a] pos) tA:=by
 intro wh pins s σ H Q I h
 refine isTrue_and (gS (ha pins s σ H Q I h) fun c s1 e=>?_)
 cases c with
 | true=>exact isTrue_and_nil e
 | false=>exact e
theorem pw_or1(ha:PT X a tA):PW X (.BoolOp .Or [a] pos) tA:=by
 intro wh pins s σ H Q I h
 refine isTrue_or (gS (ha pins s σ H Q I h) fun c s1 e=>?_)
 cases c with
 | false=>exact isTrue_or_nil e
 | true=>exact e
theorem pw_and(ha:PT X a tA)(hb:PW X (.BoolOp .And (b::rest) pos) tB'):PW X (.BoolOp .And (a::b::rest) pos) (aq1 tA tB'):=by
 intro wh pins s σ H Q I h
 refine isTrue_and (gS (ha pins s σ H _ I h) fun c s1 Ew=>?_)
 refine aY Ew fun H1 I1 q1=>?_
 clear Ew
 cases c with
 | true=>exact hb wh pins s1 σ H1 Q I1 q1
 | false=>exact⟨H1,I1,q1⟩
theorem pw_or(ha:PT X a tA)(hb:PW X (.BoolOp .Or (b::rest) pos) tB'):PW X (.BoolOp .Or (a::b::rest) pos) (tOr tA tB'):=by
 intro wh pins s σ H Q I h
 refine isTrue_or (gS (ha pins s σ H _ I h) fun c s1 Ey=>?_)
 refine aY Ey fun H1 I1 q1=>?_
 clear Ey
 cases c with
 | true=>exact⟨H1,I1,q1⟩
 | false=>exact hb wh pins s1 σ H1 Q I1 q1
theorem Vc(ha:PT X a tA):PT X (.UnaryOp .Not a pos) (aq2 tA):=by
 intro pins s σ H Q I h
 exact isTrue_not (ha pins s σ H (fun c H1=>Q (!c) H1) I h)
def Z1(ta tb:TE):TE:=fun σ H Q=>ta σ H fun x H1=>∃c,x = .bl c/\if c=true then tb σ H1 Q else Q (.bl false) H1
theorem Vd{op}(h:PE X a t):PE X (.BoolOp op [a] pos) t:=fun pins s σ H Q I hw=>BoolOp_one (h pins s σ H Q I hw)
theorem Ve(ha:PE X a ta)(hb:PE X (.BoolOp .And (b::rest) pos) tb):PE X (.BoolOp .And (a::b::rest) pos) (Z1 ta tb):=by
 intro pins s σ H Q I h
 refine BoolOp_and (gS (ha pins s σ H _ I h) fun v s1 xH=>?_)
 obtain ⟨x,H1,I1,r1,q1⟩:=xH
 obtain ⟨c,rfl,q1⟩:=q1
 cases r1
 refine wH ?_
 cases c with
 | true=>exact hb pins s1 σ H1 Q I1 q1
 | false=>exact⟨.bl false,H1,I1,rfl,q1⟩
end
def ko(K:aD)(H:Hp)(a:av)(xs:List V):Prop:=
 Rd H a (.lst xs)\/
  ∃(o:Obj) (bA:Array aq) (n:Nat),K.lookup a=some o/\o.cls = .type "list" /\o.dict=none/\o.data = .seq bA n/\bA.size<=cK/\Vals xs bA.toList
def mF(K:aD)(H:Hp)(a:av)(xs:List V):Prop:=
 Rd H a (.tup xs)\/
  ∃(o:Obj) (bA:Array aq) (n:Nat),K.lookup a=some o/\o.cls = .type "tuple" /\o.data = .seq bA n/\bA.size<=cK/\Vals xs bA.toList
def aq3:aq->Option V
 | .none=>some .cY
 | .bool b=>some (.bl b)
 | .int i _=>some (.int i)
 | .str x _=>some (.str x)
 | .bytes b _=>some (.byt b)
 | .float b _=>some (.flt b)
 | .ref a=>some (.ref a)
 | .type n=>some (.ty n)
 | _=>none
theorem RelV.abs(r:RelV x u):aq3 u=some x:=by
 cases x with
 | cY=>cases r;rfl
 | bl _=>cases r;rfl
 | int _=>obtain ⟨t,rfl⟩:=r;rfl
 | str _=>obtain ⟨t,rfl⟩:=r;rfl
 | byt _=>obtain ⟨t,rfl⟩:=r;rfl
 | flt _=>obtain ⟨t,rfl⟩:=r;rfl
 | ref _=>cases r;rfl
 | ty _=>cases r;rfl
theorem RelV.inj(r:RelV x u)(q:RelV y u):x=y:=eY (r.abs.symm.trans q.abs)
theorem Vals.inj(h:Vals xs us)(h':Vals ys us):xs=ys:=by
 induction h generalizing ys with
 | nil=>cases h';rfl
 | cons r t ih=>
  cases h' with
  | cons r' t'=>rw[r.inj r',ih t']
section
theorem ko.of{K:aD}(h:H a=some (.lst xs)):ko K H a xs:=.inl (.inl h)
theorem mF.of{K:aD}(h:H a=some (.tup xs)):mF K H a xs:=.inl (.inl h)
theorem Inv.list(I:Inv X pins σ H s)(h:ko X.K H a xs):∃bA:List aq,Vals xs bA/\PlainL s.heap a bA.toArray/\xs.length<=cK:=by
 rcases h with h | ⟨o,bA,n,hk,hc,hd,hs,hz,r⟩
 ·obtain ⟨z,bA,n,r,e⟩:=h.ok I.fB
  exact⟨bA,r,⟨_,n,e,rfl,rfl,rfl⟩,z⟩
 ·refine⟨bA.toList,r,⟨o,n,I.Jb a o hk,hc,hd,by simpa using hs⟩,?_⟩
  have e:=r.length
  simp only[dB] at e
  lia
theorem Inv.tuple(I:Inv X pins σ H s)(h:mF X.K H a xs):∃bA:List aq,Vals xs bA/\IsTup s.heap a bA.toArray/\xs.length<=cK:=by
 rcases h with h | ⟨o,bA,n,hk,hc,hs,hz,r⟩
 ·obtain ⟨z,bA,r,p⟩:=h.ok I.fB
  exact⟨bA,r,p,z⟩
 ·refine⟨bA.toList,r,⟨o,I.Jb a o hk,hc,n,by simpa using hs⟩,?_⟩
  have e:=r.length
  simp only[dB] at e
  lia
theorem Inv.xJ(I:Inv X pins σ H s)(h:ko X.K H a xs)(h':ko X.K H a ys):xs=ys:=by
 refine cI (I.list h) fun bA r bx _=>?_
 obtain ⟨o,n,e,_,_,d⟩:=bx
 refine cI (I.list h') fun its' r' bx _=>?_
 obtain ⟨o',n',e',_,_,d'⟩:=bx
 rw[e] at e';cases e'
 rw[d] at d'
 injection d' with d1 _
 have:bA=its':=by simpa using congrArg Array.toList d1
 subst this
 exact r.inj r'
theorem Inv.Jc(I:Inv X pins σ H s)(h:mF X.K H a xs)(h':mF X.K H a ys):xs=ys:=by
 refine cI (I.tuple h) fun bA r bx _=>?_
 obtain ⟨o,e,_,n,d⟩:=bx
 refine cI (I.tuple h') fun its' r' bx _=>?_
 obtain ⟨o',e',_,n',d'⟩:=bx
 rw[e] at e';cases e'
 rw[d] at d'
 injection d' with d1 _
 have:bA=its':=by simpa using congrArg Array.toList d1
 subst this
 exact r.inj r'
end
abbrev Cx.fC(X:Cx)(E:aq->az->Prop):Cx:={ X with xe:=E }
theorem Cx.Ok.fC{X:Cx}(ok:X.Ok)(E:aq->az->Prop):(X.fC E).Ok:=
 ⟨ok.mod,ok.kind,ok.glob,ok.blt,ok.above,ok.inj,ok.has,ok.Yn,ok.hd,ok.frames,ok.N8,ok.YW,ok.bs,ok.Qq,ok.J9,ok.Ja,ok.uB,ok.TY⟩
theorem Cx.Ok.jk{X:Cx}(ok:(X.fC E).Ok):X.Ok:=
 ⟨ok.mod,ok.kind,ok.glob,ok.blt,ok.above,ok.inj,ok.has,ok.Yn,ok.hd,ok.frames,ok.N8,ok.YW,ok.bs,ok.Qq,ok.J9,ok.Ja,ok.uB,ok.TY⟩
section
theorem Inv.fC(I:Inv X pins σ H s)(E:aq->az->Prop):Inv (X.fC E) pins σ H s:=⟨I.ok.fC E,I.os,I.bare,I.base,I.loc,I.cell,I.free,I.qq,I.pin,I.fB,I.len⟩
theorem Inv.jk(I:Inv (X.fC E) pins σ H s):Inv X pins σ H s:=⟨I.ok.jk,I.os,I.bare,I.base,I.loc,I.cell,I.free,I.qq,I.pin,I.fB,I.len⟩
theorem SP.jk(h:SP (X.fC E) pins D f s'):SP X pins D f s':=by
 cases f with
 | next=>obtain ⟨dR,H',I,q⟩:=h;exact⟨dR,H',I.jk,q⟩
 | brk=>obtain ⟨dR,H',I,q⟩:=h;exact⟨dR,H',I.jk,q⟩
 | cont=>obtain ⟨dR,H',I,q⟩:=h;exact⟨dR,H',I.jk,q⟩
 | ret u=>obtain ⟨v,dR,H',I,r,q⟩:=h;exact⟨v,dR,H',I.jk,r,q⟩
end
section
variable {X:Cx}{st:bw}{rest:List bw}{t u:TS}
def Z2:TS:=fun D σ H=>D.nx σ H
def Z3(t u:TS):TS:=fun D σ H=>t { D with nx:=u D } σ H
theorem QL:vo X [] Z2:=fun _ _ σ H _ I h=>Hw ⟨σ,H,I,h⟩
theorem CK(h1:PS X st t)(h2:vo X rest u):vo X (st::rest) (Z3 t u):=by
 intro pins s σ H D I h
 refine TJ (gS (h1 pins s σ H { D with nx:=u D } I h) fun f s1 q=>?_)
 cases f with
 | next=>
  obtain ⟨dR,H',I',q⟩:=q
  exact h2 pins s1 dR H' D I' q
 | ret v=>exact q
 | brk=>exact q
 | cont=>exact q
theorem HC(h1:PS X st t):vo X [st] t:=by
 intro pins s σ H D I h
 refine TJ (gS (h1 pins s σ H D I h) fun f s1 q=>?_)
 cases f with
 | next=>exact Hw q
 | ret v=>exact q
 | brk=>exact q
 | cont=>exact q
theorem Inv.quiet(I:Inv X pins σ H s):interactive X.env=false:=by simp[interactive,I.ok.kind]
def TZ(te:TE):TS:=fun D σ H=>te σ H fun _ H1=>D.nx σ H1
theorem vZ(he:PE X e te)(hs:swapsWith e none pos.line X.env=pure false:=by rfl):PS X (.Expr e pos) (TZ te):=by
 intro pins s σ H D I h
 exact wpAny_Expr_any (gS (he pins s σ H _ I h) fun v s1 N9=>N9.elim fun x Vf=>Vf.elim fun H1 aq4=>aq4.elim fun I1 aq5=>aq5.elim fun r1 q1=>⟨σ,H1,I1,q1⟩) I.quiet hs
def aq6(te:TE):TS:=fun D σ H=>te σ H D.rt
theorem Vg(he:PE X e te):PS X (.Return (some e) pos) (aq6 te):=by
 intro pins s σ H D I h
 exact wpAny_Return_some (gS (he pins s σ H _ I h) fun v s1 aq7=>aq7.elim fun x aq8=>aq8.elim fun H1 aq9=>aq9.elim fun I1 ar0=>ar0.elim fun r1 q1=>⟨x,σ,H1,I1,r1,q1⟩)
def ar1(c:TT)(t u:TS):TS:=fun D σ H=>c σ H fun b H1=>if b=true then t D σ H1 else u D σ H1
theorem Z4(hc:PT X c tc)(ha:vo X a t)(hb:vo X b u):PS X (.If c a b pos) (ar1 tc t u):=by
 intro pins s σ H D I h
 refine wpAny_If (gS (hc pins s σ H _ I h) fun d s1 Z5=>?_)
 refine aY Z5 fun H1 I1 q1=>?_
 clear Z5
 cases d with
 | true=>exact ha pins s1 σ H1 D I1 q1
 | false=>exact hb pins s1 σ H1 D I1 q1
end
abbrev TG:=V->St->Hp->(St->Hp->Prop)->Prop
abbrev Z6:=List V->St->Hp->(St->Hp->Prop)->Prop
def PG(X:Cx)(target:bH)(t:TG):Prop:=
 ∀(pins:List (av×Obj)) (s:az) (σ:St) (H:Hp) (v:V) (u:aq) (Q:St->Hp->Prop),Inv X pins σ H s->RelV v u->t v σ H Q->
  aB (aC X.prog X.w) X.A (assign target X.env u) (fun _ s'=>∃dR H',Inv X pins dR H' s'/\Q dR H') X.xe s
def PGs(X:Cx)(ts:List bH)(t:Z6):Prop:=
 ∀(pins:List (av×Obj)) (s:az) (σ:St) (H:Hp) (vs:List V) (us:List aq) (Q:St->Hp->Prop),Inv X pins σ H s->Vals vs us->t vs σ H Q->
  aB (aC X.prog X.w) X.A (assignInOrder ((rT ts X.env).map (·.2)) us) (fun _ s'=>∃dR H',Inv X pins dR H' s'/\Q dR H') X.xe s
abbrev Z7:=V->V->V->Hp->(Hp->Prop)->Prop
def Z8(X:Cx)(t:Z7):Prop:=
 ∀(pins:List (av×Obj)) (s:az) (σ:St) (H:Hp) (o i v:V) (ov iv u:aq) (Q:Hp->Prop),Inv X pins σ H s->RelV o ov->RelV i iv->RelV v u->t o i v H Q->
  aB (aC X.prog X.w) X.A (setItem ov iv u) (fun _ s'=>∃H',Inv X pins σ H' s'/\Q H') X.xe s
section
def CL(i:Nat):TG:=fun v σ H Q=>Q (σ.set i (some v)) H
theorem cB(hN:X.N.Nodup)(hi:X.N[i]?=some x)(hx:Loc X.env.scope x)(hf:X.fn x=true\/X.env.scope.names.lookup x=some .local:=by first | exact .inl rfl | exact .inr rfl | assumption):PG X (.Name x pos) (CL i):=by
 intro pins s σ H v u Q I r h
 exact TL (rY I hN hi hx r (fun s' I'=>⟨_,H,I',h⟩) hf)
def Z9:Z6:=fun vs σ H Q=>vs=[]/\Q σ H
def Na(t:TG)(u:Z6):Z6:=fun vs σ H Q=>∃v r,vs=v::r/\t v σ H fun dR H'=>u r dR H' Q
theorem nB:PGs X [] Z9:=by
 intro pins s σ H vs us Q I r h
 obtain ⟨e,h⟩:=h
 subst e
 cases r
 exact TV ⟨σ,H,I,h⟩
theorem fD(h1:PG X e t)(h2:PGs X es u)
  (hs:(rT (e::es) X.env).map (·.2)=assign e X.env::(rT es X.env).map (·.2):=by rfl):PGs X (e::es) (Na t u):=by
 intro pins s σ H vs us Q I r h
 obtain ⟨v,vr,e1,h⟩:=h
 subst e1
 cases r with
 | cons r rr=>
  rw[hs]
  refine Mq (gS (h1 pins s σ H _ _ _ I r h) fun _ s1 Za=>?_)
  refine dS Za fun Nb H1 I1 q1=>?_
  clear Za
  exact h2 pins s1 Nb H1 _ _ Q I1 rr q1
def Zb(K:aD)(n:Nat)(t:Z6):TG:=fun v σ H Q=>∃a xs,v = .ref a/\mF K H a xs/\xs.length=n/\t xs σ H Q
theorem r9(hc:X.calm=true)(h:PGs X es t)
  (hn:(rT es X.env).length=n:=by rfl) (nZ:(rT es X.env).findIdx? (·.1)=none:=by rfl):PG X (.Tuple es k pos) (Zb X.K n t):=by
 intro pins s σ H v u Q I r hw
 obtain ⟨a,xs,e1,hq,hl,hw⟩:=hw
 subst e1
 cases r
 obtain ⟨bA,rv,ht,hz⟩:=I.tuple hq
 refine assign_Tuple_tuple (I.ok.hd hc) ht (by simp[hn,<- hl,rv.length]) nZ fun h' hx=>?_
 have I1:Inv X pins σ H { s with heap:=h' }:=I.kept (t':=s.toks) fun b o e=>hx b o (di (bX e)) e
 exact h pins _ σ H xs _ Q I1 (by simpa using rv) hw
def s8(to ti:TE)(t:Z7):TG:=fun v σ H Q=>to σ H fun o H1=>ti σ H1 fun i H2=>t o i v H2 fun H3=>Q σ H3
theorem Nc(ho:PE X o to)(hi:PE X i ti)(hs:Z8 X t)
  (ha:∀v,assign (.Subscript o i pos) X.env v=(do
   let ov <- holding [v] (eval o X.env)
   let iv <- holding [v,ov] (eval i X.env)
   standAt pos
   holding [v,ov,iv] (setItem ov iv v)
   release [v,ov,iv] []):=by intro _;rfl):PG X (.Subscript o i pos) (s8 to ti t):=by
 intro pins s σ H v u Q I r h
 rw[ha]
 refine ah (je (gS (ho pins s σ H _ I h) fun ov s1 Zc=>?_))
 refine bF Zc fun x H1 I1 r1 q1=>?_
 clear Zc
 refine ah (je (gS (hi pins s1 σ H1 _ I1 q1) fun iv s2 Zd=>?_))
 refine bF Zd fun y H2 I2 r2 q2=>?_
 clear Zd
 refine ah (zF (ah (je (gS (hs pins s2 σ H2 x y v ov iv u _ I2 r1 r2 r q2) fun _ s3 Ze=>?_))))
 refine aY Ze fun H3 I3 q3=>?_
 clear Ze
 exact wpAny_release ⟨σ,H3,I3,q3⟩
def Zf(te:TE)(g:TG):TS:=fun D σ H=>te σ H fun x H1=>g x σ H1 D.nx
theorem FQ(he:PE X e te)(hg:PG X tg g)(hs:swapsWithSole [tg] e pos.line X.env=pure false:=by rfl)(hw:swappedStores [tg] e X.env=pure none:=by rfl)
  (h1:(rT [tg] X.env).map (·.2)=[assign tg X.env]:=by rfl):PS X (.Assign [tg] e pos) (Zf te g):=by
 intro pins s σ H D I h
 refine wpAny_Assign_stores (gS (he pins s σ H _ I h) fun v s1 Zg=>?_) hs hw
 refine bF Zg fun x H1 I1 r1 q1=>?_
 clear Zg
 rw[h1]
 exact gS (hg pins s1 σ H1 x v _ I1 r1 q1) fun _ s2 q=>q
theorem Vh(hN:X.N.Nodup)(hi:X.N[i]?=some x)(hx:Loc X.env.scope x)(he:PE X e te)(hs:swapsWith e (some (.Name x pos')) pos.line X.env=pure false:=by rfl)(hf:X.fn x=true\/X.env.scope.names.lookup x=some .local:=by first | exact .inl rfl | exact .inr rfl | assumption) :
  PS X (.Assign [.Name x pos'] e pos) (Zf te (CL i)):=by
 intro pins s σ H D I h
 refine wpAny_Assign_Name (gS (he pins s σ H _ I h) fun v s1 Zh=>?_) hs
 refine bF Zh fun y H1 I1 r1 q1=>?_
 clear Zh
 exact rY I1 hN hi hx r1 (fun s2 I2=>⟨_,H1,I2,q1⟩) hf
def ar2(i j:Nat)(ta:TA):TS:=fun D σ H=>ta σ H fun vs H1=>∃v w,vs=[v,w]/\D.nx ((σ.set i (some v)).set j (some w)) H1
theorem Vi{kt k2 Vj}(hc:X.calm=true)(hN:X.N.Nodup)(hi:X.N[i]?=some x)(hj:X.N[j]?=some y)(n6:i≠j)
  (hx:X.env.scope.names.lookup x=some .local) (hy:X.env.scope.names.lookup y=some .local) (ha:PA X [a,b] ta)
  (hw:swappedStores [.Tuple [.Name x px,.Name y py] kt pt] (.Tuple [a,b] k2 Vj) X.env=pure (some [x,y]))
  (hs:swapsWithSole [.Tuple [.Name x px,.Name y py] kt pt] (.Tuple [a,b] k2 Vj) pos.line X.env=pure false:=by rfl) :
  PS X (.Assign [.Tuple [.Name x px,.Name y py] kt pt] (.Tuple [a,b] k2 Vj) pos) (ar2 i j ta):=by
 intro pins s σ H D I h
 rw[exec_Assign_arm]
 refine ah (zF ?_)
 rw[hs]
 refine ah (aA ?_)
 rw[aH3 (by decide)]
 refine ah (Tuple_ (gS (ha _ pins s σ H _ I h) fun us s1 Zi=>?_))
 refine bF Zi fun vs H1 I1 r1 q1=>?_
 clear Zi
 obtain ⟨v,w,e1,q1⟩:=q1
 subst e1
 obtain ⟨u1,u2,rfl,rv,QM⟩:∃u1 u2,us=[u1,u2]/\RelV v u1/\RelV w u2:=by
  cases r1 with
  | cons p q=>
   cases q with
   | cons p' q'=>
    cases q'
    exact⟨_,_,rfl,p,p'⟩
 refine nV ?_ (by show 2<=cK;decide)
 have I2:Inv X pins σ H1 { s1 with heap:=s1.heap.push { cls:=.type "tuple",data:=.seq [u1,u2].toArray } }:=I1.kept (t':=s1.toks) fun b o e=>bQ _ e
 rw[hw]
 refine ah (aA ?_)
 show aB (aC X.prog X.w) X.A (do rule "assign.swapped-stores";let items <- unpackItems (.ref s1.heap.objs.size) 2 none;assignInOrder [fun v=>bindName X.env y v,fun v=>bindName X.env x v] items.reverse;pure Flow.next) _ _ _
 refine ah (wI (ah (unpackItems_tuple (items:=#[u1,u2]) (I.ok.hd hc) (IsTup.new s1.heap _) fun h' sd=>?_)))
 have I3:=I2.kept (h':=h') (t':=s1.toks) fun b o e=>sd b o (di (bX e)) e
 show aB _ _ (assignInOrder [fun v=>bindName X.env y v,fun v=>bindName X.env x v] [u2,u1]>>=fun _=>pure Flow.next) _ _ _
 refine ah (Mq (wpAny_bindName (rY I3 hN hj (.inl hy) QM (fun s2 I4=>?_) (.inr hy))))
 refine Mq (wpAny_bindName (rY I4 hN hi (.inl hx) rv (fun s3 I5=>TV (aA ?_)) (.inr hx)))
 rw[List.set_comm _ _ (eX n6)] at I5
 exact⟨_,H1,I5,q1⟩
end
section
def Vk(c:TT)(tb:TS):TS:=fun D σ H=>∃W:Nat->St->Hp->Prop,(∃m,W m σ H)/\∀m σ H,W m σ H->
 c σ H fun b H1=>if b=true then ∃N:St->Hp->Prop,(∀dR H',N dR H'->∃m',m' < m/\W m' dR H')/\tb { D with nx:=N,ct:=N,bk:=D.nx } σ H1 else D.nx σ H1
theorem Nd(hp:PassesOwn (aC X.prog X.w) X.A X.env X.xe)(hc:PT X c tc)(hb:vo X body tb):PS X (.While c body [] pos) (Vk tc tb):=by
 intro pins s σ H D I h
 refine aY h fun W jx turn=>?_
 clear h
 obtain ⟨m0,w0⟩:=jx
 refine wpAny_While (codeAny_whileLoop (fun n s'=>∃dR H',Inv X pins dR H' s'/\W n dR H') ?_ m0 ⟨σ,H,I,w0⟩)
 rintro n s1 ⟨Nb,H1,I1,w1⟩
 refine wJ hp (gS (hc pins s1 Nb H1 _ I1 (turn n Nb H1 w1)) fun b s2 Zj=>?_)
 refine aY Zj fun H2 I2 q2=>?_
 clear Zj
 cases b with
 | true=>
  obtain ⟨N,hN,q2⟩:=q2
  rw[aH2 rfl]
  refine wJ hp (gS (hb pins s2 Nb H2 _ I2 q2) fun f s3 q3=>?_)
  cases f with
  | next=>
   refine dS q3 fun CM H3 I3 n3=>?_
   clear q3
   refine aY (hN CM H3 n3) fun m' hm w3=>?_
   exact⟨m',hm,CM,H3,I3,w3⟩
  | cont=>
   refine dS q3 fun CM H3 I3 n3=>?_
   clear q3
   refine aY (hN CM H3 n3) fun m' hm w3=>?_
   exact⟨m',hm,CM,H3,I3,w3⟩
  | brk=>exact q3
  | ret v=>exact q3
 | false=>
  rw[aH3 iK]
  exact Hw ⟨Nb,H2,I2,q2⟩
end
structure It where
 go:Nat->Hp->Prop
 yld:Nat->Hp->V->Hp->Prop
 stop:Nat->Hp->Prop
def Bc(X:Cx)(pins:List (av×Obj))(H:Hp)(b:av):Prop:=
 H b=none/\b≠X.env.locals/\b∉X.fs/\(b∈X.ex\/X.ji.heap.objs.size<=b)/\(∀x c,X.env.cells.lookup x=some c->c≠b)/\∀p∈X.pn++pins,p.1≠b
theorem Inv.Jd(I:Inv X pins σ H s)(hb:s.heap.objs.size<=b)(hn:H' b=none):Bc X pins H' b:=by
 refine⟨hn,Cv (iJ I.lt hb),I.ap8 hb,.inr (cC I.sz hb),fun x c e z=>?_,fun p hp z=>?_⟩
 ·obtain ⟨v,q⟩:=I.cell x c e
  exact aI4 (iJ q.lt (by rw[z];exact hb)) (rV _)
 ·exact aI4 (iJ (bX (I.pin p hp).1) (by rw[z];exact hb)) (rV _)
structure Turn(P:dh)(w:bN)(K:aD)(tg:bH)(J:It)(fp:List av)(it:av)(tn:Nat->aX->Prop):Prop where
 mem:it∈fp
 obj:∀i h,tn i h->∀b∈fp,∃o,h.get? b=some o/\∀v,o.data≠ .cell v
 keep:∀i h h',tn i h->(∀b∈fp,∀o,h.get? b=some o->h'.get? b=some o)->tn i h'
 item:∀(X:Cx),X.prog=P->X.w=w->X.K=K->X.calm=true->∀(i:Nat) (pins:List (av×Obj)) (s:az) (σ:St) (H:Hp) (E:aq->az->Prop),Inv X pins σ H s->(∀b∈fp,Bc X pins H b)->tn i s.heap->J.go i H->
  aB (aC P w) X.A (pyNext (.ref it)) (fun r s1=>∃u,r=some u/\
   aB (aC P w) X.A (letOwnedTupleGo tg (.ref it) u) (fun _ s2=>∃x H',Inv X pins σ H' s2/\RelV x u/\J.yld i H x H'/\tn (i+1) s2.heap/\∀b∈fp,H' b=none) E s1) E s
 done:∀(X:Cx),X.prog=P->X.w=w->X.K=K->X.calm=true->∀(i:Nat) (pins:List (av×Obj)) (s:az) (σ:St) (H:Hp) (E:aq->az->Prop),Inv X pins σ H s->(∀b∈fp,Bc X pins H b)->tn i s.heap->J.stop i H->
  aB (aC P w) X.A (pyNext (.ref it)) (fun r s1=>r=none/\Inv X pins σ H s1) E s
 self:∀(A:bY) (i:Nat) (s:az) (Q:aq->az->Prop) (E:aq->az->Prop),tn i s.heap->Q (.ref it) s->aB (aC P w) A (pyIter (.ref it)) Q E s
abbrev TI:=St->Hp->(It->Hp->Prop)->Prop
def PIE(X:Cx)(pins:List (av×Obj))(σ:St)(tg:bH)(R:It->Hp->Prop)(itv:aq)(s2:az):Prop:=
 ∃(it:av) (fp:List av) (tn:Nat->aX->Prop) (J:It) (H':Hp),itv = .ref it/\Inv X pins σ H' s2/\Turn X.prog X.w X.K tg J fp it tn/\tn 0 s2.heap/\(∀b∈fp,Bc X pins H' b)/\R J H'
def PI(X:Cx)(tg iter:bH)(wi:TI):Prop:=
 ∀(pins:List (av×Obj)) (s:az) (σ:St) (H:Hp) (R:It->Hp->Prop),Inv X pins σ H s->wi σ H R->
  aB (aC X.prog X.w) X.A (eval iter X.env) (fun v s1=>aB (aC X.prog X.w) X.A (pyIter v) (PIE X pins σ tg R) X.xe s1) X.xe s
theorem HE{s:az}{Q:Unit->az->Prop}(ho:s.heap.get? it=some o)(hc:o.cls = .type n)(hd:o.data = .fields vs)
    (hn:["enumerate","zip","dict_itemiterator","dict_reverseitemiterator","odict_iterator","itertools.zip_longest","itertools.pairwise"].contains n=false) (hQ:Q () s):aB M A (letOwnedTupleGo tg (.ref it) u) Q E s:=by
  unfold letOwnedTupleGo
  cases tg <;> first
    | exact aA hQ
    | (cases u <;> first
        | exact aA hQ
        | (refine ah (wpAny_load ho ?_)
           rw[hc,hd]
           show aB M A (if (["enumerate","zip","dict_itemiterator","dict_reverseitemiterator","odict_iterator","itertools.zip_longest","itertools.pairwise"].contains n&&vs[0]?==some (rawInt _))=true then _ else _) Q E s
           rw[aH3 (by intro h;rw[hn,Bool.false_and] at h;cases h)]
           exact aA hQ))
def Itl(K:aD)(a:av):It:=
 ⟨fun i H=>∃xs x,ko K H a xs/\xs[i]?=some x,fun i H x H'=>H'=H/\∀xs,ko K H a xs->xs[i]?=some x,fun i H=>∃xs,ko K H a xs/\xs.length<=i⟩
def Itt(K:aD)(a:av):It:=
 ⟨fun i H=>∃xs x,mF K H a xs/\xs[i]?=some x,fun i H x H'=>H'=H/\∀xs,mF K H a xs->xs[i]?=some x,fun i H=>∃xs,mF K H a xs/\xs.length<=i⟩
def Itr(lo:Int)(n:Nat):It:=⟨fun i _=>i < n,fun i H x H'=>H'=H/\x = .int (lo+i),fun i _=>n<=i⟩
theorem Je{P:dh}{w:bN}{K:aD}{tg:bH}(a it:av):Turn P w K tg (Itl K a) [it] it (fun i h=>h.IsListIter it a i) where
 mem:=by simp
 obj:=fun i h st b hb=>by
  have e:b=it:=by simpa using hb
  subst e
  refine cI st fun o e c d=>?_
  clear st
  exact⟨o,e,fun v z=>by rw[d] at z;cases z⟩
 keep:=fun i h h' st k=>st.at fun o e=>k it (by simp) o e
 item:=by
  walk_at"4"
  subst hP hw hK
  refine dS hg fun xs x hq hx=>?_
  clear hg
  refine cI (I.list hq) fun bA rv p hz=>?_
  refine aY (rv.get hx) fun u hu ru=>?_
  refine vO (hf it (by simp)) fun f0 f1 f2 f3 f4 f5=>?_
  refine TM st p.isList (x:=u) (by simpa using hu) fun h' st' sb=>?_
  have I1:Inv X pins σ H { s with heap:=h' }:=I.turned (t':=s.toks) (fun b o hb e=>(sb.2 b hb).trans e) f0 f1 f3 f4 f5
  refine cI (id st') fun o e c d=>?_
  exact⟨u,rfl,HE (s:={ s with heap:=h' }) e c d (by decide) ⟨x,H,I1,ru,⟨rfl,fun ys hy=>by rw[I.xJ hy hq];exact hx⟩,st',fun b hb=>(hf b hb).1⟩⟩
 done:=by
  walk_at"4"
  subst hP hw hK
  refine aY hg fun xs hq hx=>?_
  clear hg
  refine cI (I.list hq) fun bA rv p hz=>?_
  refine vO (hf it (by simp)) fun f0 f1 f2 f3 f4 f5=>?_
  have hl:=rv.length
  exact TN (I.ok.hd hc) st p.isList (by simp;lia) fun h' eb=>⟨rfl,I.turned (t':=s.toks) (fun b o hb e=>eb b o hb e) f0 f1 f3 f4 f5⟩
 self:=fun _ _ _ _ _ st h=>wpAny_pyIter_listiter st h
theorem FT{P:dh}{w:bN}{K:aD}{tg:bH}(a it:av):Turn P w K tg (Itt K a) [it] it (fun i h=>h.IsTupleIter it a i) where
 mem:=by simp
 obj:=fun i h st b hb=>by
  have e:b=it:=by simpa using hb
  subst e
  refine cI st fun o e c d=>?_
  clear st
  exact⟨o,e,fun v z=>by rw[d] at z;cases z⟩
 keep:=fun i h h' st k=>st.at fun o e=>k it (by simp) o e
 item:=by
  walk_at"4"
  subst hP hw hK
  refine dS hg fun xs x hq hx=>?_
  clear hg
  refine cI (I.tuple hq) fun bA rv p hz=>?_
  refine aY (rv.get hx) fun u hu ru=>?_
  refine vO (hf it (by simp)) fun f0 f1 f2 f3 f4 f5=>?_
  refine wpAny_pyNext_tuple_item st (show s.heap.IsTuple a bA.toArray from p) (x:=u) (by simpa using hu) fun h' st' sb=>?_
  have I1:Inv X pins σ H { s with heap:=h' }:=I.turned (t':=s.toks) (fun b o hb e=>(sb.2 b hb).trans e) f0 f1 f3 f4 f5
  refine cI (id st') fun o e c d=>?_
  exact⟨u,rfl,HE (s:={ s with heap:=h' }) e c d (by decide) ⟨x,H,I1,ru,⟨rfl,fun ys hy=>by rw[I.Jc hy hq];exact hx⟩,st',fun b hb=>(hf b hb).1⟩⟩
 done:=by
  walk_at"4"
  subst hP hw hK
  refine aY hg fun xs hq hx=>?_
  clear hg
  refine cI (I.tuple hq) fun bA rv p hz=>?_
  refine vO (hf it (by simp)) fun f0 f1 f2 f3 f4 f5=>?_
  have hl:=rv.length
  exact wpAny_pyNext_tuple_end (I.ok.hd hc) st (show s.heap.IsTuple a bA.toArray from p) (by simp;lia) fun h' eb=>⟨rfl,I.turned (t':=s.toks) (fun b o hb e=>eb b o hb e) f0 f1 f3 f4 f5⟩
 self:=fun _ _ _ _ _ st h=>wpAny_pyIter_tupleiter st h
theorem FU{P:dh}{w:bN}{K:aD}{tg:bH}(it:av)(lo:Int)(n:Nat):Turn P w K tg (Itr lo n) [it] it (fun i h=>IsRangeIter h it (lo+(i:Nat) * 1) ((n:Int) - (i:Nat)) 1) where
 mem:=by simp
 obj:=fun i h st b hb=>by
  have e:b=it:=by simpa using hb
  subst e
  exact⟨_,st,fun v z=>by
   have z':Data.fields _=Data.cell v:=z
   cases z'⟩
 keep:=fun i h h' st k=>k it (by simp) _ st
 item:=by
  walk_at"4"
  subst hP hw hK
  refine vO (hf it (by simp)) fun f0 f1 f2 f3 f4 f5=>?_
  have W:=Walks.range (prog:=X.prog) (w:=X.w) (I.ok.hd hc) it lo 1 n
  refine W.item i s _ _ hg st fun v h' tk hv st' kk=>?_
  obtain ⟨t,rfl⟩:=hv
  have I1:Inv X pins σ H { s with heap:=h',toks:=tk }:=I.turned (fun b o hb e=>kk b o (by simpa using hb) e) f0 f1 f3 f4 f5
  refine⟨_,rfl,HE (s:={ s with heap:=h',toks:=tk }) (n:="range_iterator") st' rfl rfl (by decide) ⟨.int (lo+i),H,I1,⟨t,?_⟩,⟨rfl,rfl⟩,st',fun b hb=>(hf b hb).1⟩⟩
  rw[Int.mul_one]
 done:=by
  walk_at"4"
  subst hP hw hK
  refine vO (hf it (by simp)) fun f0 f1 f2 f3 f4 f5=>?_
  exact wpAny_pyNext_range_end (I.ok.hd hc) st (by have:n<=i:=hg;lia) fun h' eb=>⟨rfl,I.turned (t':=s.toks) (fun b o hb e=>eb b o hb e) f0 f1 f3 f4 f5⟩
 self:=fun _ _ _ _ _ st h=>wpAny_pyIter_rangeiter st h
section
def Zk(K:aD)(tl:TE):TI:=fun σ H R=>tl σ H fun x H1=>∃a,x = .ref a/\(∃xs,ko K H1 a xs)/\R (Itl K a) H1
def ar3(K:aD)(tl:TE):TI:=fun σ H R=>tl σ H fun x H1=>∃a,x = .ref a/\(∃xs,mF K H1 a xs)/\R (Itt K a) H1
theorem HF{l:bH}{tl:TE}(hl:PE X l tl):PI X tg l (Zk X.K tl):=by
 intro pins s σ H R I h
 refine gS (hl pins s σ H _ I h) fun v s1 Zl=>?_
 refine bF Zl fun x H1 I1 r1 q1=>?_
 clear Zl
 refine cI q1 fun a e bx q=>?_
 clear q1
 obtain ⟨xs,hq⟩:=bx
 subst e
 cases r1
 refine cI (I1.list hq) fun bA rv p hz=>?_
 refine L4 p.isList ?_
 refine⟨s1.heap.objs.size,[s1.heap.objs.size],_,_,H1,rfl,I1.kept (t':=s1.toks) fun b o e=>bQ _ e,Je a _,⟨_,eN _ rfl,rfl,rfl⟩,fun b hb=>?_,q⟩
 have e:b=s1.heap.objs.size:=by simpa using hb
 subst e
 exact I1.Jd (bf _) (I1.fB.fresh (bf _))
theorem Vl{l:bH}{tl:TE}(hl:PE X l tl):PI X tg l (ar3 X.K tl):=by
 intro pins s σ H R I h
 refine gS (hl pins s σ H _ I h) fun v s1 Zm=>?_
 refine bF Zm fun x H1 I1 r1 q1=>?_
 clear Zm
 refine cI q1 fun a e bx q=>?_
 clear q1
 obtain ⟨xs,hq⟩:=bx
 subst e
 cases r1
 refine cI (I1.tuple hq) fun bA rv p hz=>?_
 refine wpAny_pyIter_tuple (show s1.heap.IsTuple a bA.toArray from p) ?_
 refine⟨s1.heap.objs.size,[s1.heap.objs.size],_,_,H1,rfl,I1.kept (t':=s1.toks) fun b o e=>bQ _ e,FT a _,⟨_,eN _ rfl,rfl,rfl⟩,fun b hb=>?_,q⟩
 have e:b=s1.heap.objs.size:=by simpa using hb
 subst e
 exact I1.Jd (bf _) (I1.fB.fresh (bf _))
theorem Nf{R:It->Hp->Prop}{lo hi:Int}{tk:Nat}(I:Inv X pins σ H s)(h1 : -(2 ^ 62)<=lo)(h2:lo < 2 ^ 62)(h3 : -(2 ^ 62)<=hi)(h4:hi < 2 ^ 62)
  (q:R (Itr lo (hi - lo).toNat) H):aB (aC X.prog X.w) X.A (pyIter (.ref s.heap.objs.size)) (PIE X pins σ tg R) E { s with heap:=s.heap.push { cls:=.type "range",data:=.fields #[.int lo t,.int hi u,.int 1 v] },toks:=tk }:=by
 refine wpAny_pyIter_range (IsRange.new ..) (small_one h1 h2 h3 h4) ?_
 have I1:Inv X pins σ H { s with heap:=s.heap.push { cls:=.type "range",data:=.fields #[.int lo t,.int hi u,.int 1 v] },toks:=tk }:=I.kept fun b o e=>bQ _ e
 refine⟨(s.heap.push { cls:=.type "range",data:=.fields #[.int lo t,.int hi u,.int 1 v] }).objs.size,[(s.heap.push { cls:=.type "range",data:=.fields #[.int lo t,.int hi u,.int 1 v] }).objs.size],_,_,H,rfl,
  I1.kept (t':=tk) fun b o e=>bQ _ e,FU _ lo (hi - lo).toNat,?_,fun b hb=>?_,q⟩
 ·have e1:lo+((0:Nat):Int) * 1=lo:=by simp
  have e2:(((hi - lo).toNat:Nat):Int) - ((0:Nat):Int)=Builtin.Range.rangeSize lo hi 1:=by rw[rangeSize_one];split <;> lia
  show IsRangeIter _ _ (lo+((0:Nat):Int) * 1) ((((hi - lo).toNat:Nat):Int) - ((0:Nat):Int)) 1
  rw[e1,e2]
  exact eN _ rfl
 ·have e:b=(s.heap.push { cls:=.type "range",data:=.fields #[.int lo t,.int hi u,.int 1 v] }).objs.size:=by simpa using hb
  subst e
  exact I1.Jd (bf _) (I1.fB.fresh (bf _))
def Zn(ta:TA):TI:=fun σ H R=>ta σ H fun vs H1=>∃j:Int,vs=[.int j]/\ -(2 ^ 62)<=j/\j < 2 ^ 62/\R (Itr 0 j.toNat) H1
theorem Jf{a:bH}{p:Pos}(hg:Gl X "range")(hm:X.mg "range" =none)(ha:PA X [a] ta)(hs:bL [a] X.env=[(false,eval a X.env)]:=by rfl):PI X tg (.Call (.Name "range" p) [a] [] pos) (Zn ta):=by
 intro pins s σ H R I h
 refine Call_ (xG I hg hm boot_range (Mr (gS (ha pos pins s σ H _ I h) fun us s1 Zo=>?_) hs rfl))
 refine bF Zo fun vs H1 I1 r1 q1=>?_
 clear Zo
 obtain ⟨j,e,q1,q2,q⟩:=q1
 subst e
 cases r1 with
 | cons r rr=>
  cases rr
  obtain ⟨t,rfl⟩:=r
  exact call_range_1 (Nf I1 (by lia) (by lia) q1 q2 (by simpa using q))
def ar4(wi:TI)(g:TG)(tb:TS):TS:=fun D σ H=>wi σ H fun J H1=>∃W:Nat->Nat->St->Hp->Prop,(∃m,W 0 m σ H1)/\∀i m σ H,W i m σ H->
 (J.stop i H/\D.nx σ H)\/(J.go i H/\∃N:St->Hp->Prop,(∀dR H',N dR H'->∃m',m' < m/\W (i+1) m' dR H')/\∀x H',J.yld i H x H'->g x σ H' fun Bd H2=>tb { D with nx:=N,ct:=N,bk:=D.nx } Bd H2)
def xK(fp:List av)(h:aX):List (av×Obj):=fp.filterMap fun b=>(h.get? b).map fun o=>(b,o)
theorem nC{h:aX}(hb:b∈fp)(e:h.get? b=some o):(b,o)∈xK fp h:=Cw.mpr ⟨b,hb,by rw[e];rfl⟩
theorem Jg(hp:p∈xK fp h):p.1∈fp/\h.get? p.1=some p.2:=by
 refine aY (Cw.mp hp) fun b hb e=>?_
 cases q:h.get? b with
 | none=>rw[q] at e;cases e
 | some o=>
  rw[q] at e
  have e':(b,o)=p:=eY e
  subst e'
  exact⟨hb,q⟩
theorem Inv.pinned(I:Inv X pins σ H s)(hf:∀b∈fp,Bc X pins H b)(ho:∀b∈fp,∃o,s.heap.get? b=some o/\∀v,o.data≠ .cell v):Inv X (pins++xK fp s.heap) σ H s:=
 I.rX fun p hp=>(gy.mp hp).elim (fun z=>I.pin p (nW _ z)) fun z=>by
  obtain ⟨hb,e⟩:=Jg z
  refine N6 (hf p.1 hb) fun f0 f1 f2 _=>?_
  refine aY (ho p.1 hb) fun o e' d=>?_
  rw[e] at e';cases e'
  exact⟨e,f0,f1,f2,d⟩
theorem Inv.xM(I:Inv X (pins++pl) σ H s):Inv X pins σ H s:=I.rX fun p hp=>I.pin p (nW _ (Hy _ hp))
theorem FW(hp:PassesOwn (aC X.prog X.w) X.A X.env X.xe)(hc:X.calm=true)(hi:PI X tg iter wi)(hg:PG X tg g)(hb:vo X body tb)
  (hs:∀x,vh iter X.env x=pure x:=by intro _;rfl):PS X (.For tg iter body [] pos) (ar4 wi g tb):=by
 intro pins s σ H D I h
 refine wpAny_For (gS (hi pins s σ H _ I h) fun v s1 h1=>gS h1 fun itv s2 h2=>?_) hs
 obtain ⟨it,fp,tn,J,H2,e,I2,T,mG,f2,W,⟨m0,w0⟩,turn⟩:=h2
 subst e
 have Vm:∀{H':Hp},(∀b∈fp,H' b=none)->∀b∈fp,Bc X pins H' b:=fun hn b hb=>⟨hn b hb,(f2 b hb).2⟩
 refine codeAny_forLoop_any (fun n s'=>∃i dR H',Inv X pins dR H' s'/\tn i s'.heap/\(∀b∈fp,H' b=none)/\W i n dR H') ?_ m0 ⟨0,σ,H2,I2,mG,fun b hb=>(f2 b hb).1,w0⟩
 rintro n s3 ⟨i,CM,H3,I3,CN,fr3,w3⟩
 rcases turn i n CM H3 w3 with ⟨stop,qn⟩ | ⟨go,N,hN,step⟩
 ·refine wJ hp (gS (T.done X rfl rfl rfl hc i pins s3 CM H3 X.xe I3 (Vm fr3) CN stop) fun r s4 ar5=>?_)
  obtain ⟨hr,I4⟩:=ar5
  subst hr
  exact Hw ⟨CM,H3,I4,qn⟩
 ·refine wJ hp (gS (T.item X rfl rfl rfl hc i pins s3 CM H3 X.xe I3 (Vm fr3) CN go) fun r s4 Zp=>?_)
  refine aY Zp fun u hr h4=>?_
  clear Zp
  subst hr
  refine wJ hp (gS h4 fun _ s5 Zq=>?_)
  refine J7 Zq fun x H5 I5 r5 y5 Be fr5=>?_
  clear Zq
  have I5':=I5.pinned (Vm fr5) (T.obj _ _ Be)
  refine wJ hp (gS (hg _ s5 CM H5 x u _ I5' r5 (step x H5 y5)) fun _ s6 Zr=>?_)
  refine dS Zr fun Vn H6 I6 q6=>?_
  clear Zr
  refine wJ hp (gS (hb _ s6 Vn H6 _ I6 q6) fun f s7 q7=>?_)
  have again:∀{Ng:St} {H7:Hp},Inv X (pins++xK fp s5.heap) Ng H7 s7->N Ng H7->∃m,m < n/\∃i dR H',Inv X pins dR H' s7/\tn i s7.heap/\(∀b∈fp,H' b=none)/\W i m dR H':=fun {Ng H7} I7 n7=>by
   refine aY (hN Ng H7 n7) fun m' hm w7=>?_
   refine⟨m',hm,i+1,Ng,H7,I7.xM,T.keep _ _ _ Be fun b hb o e=>(I7.pin (b,o) (nW _ (nW _ (nC hb e)))).1,fun b hb=>?_,w7⟩
   refine aY (T.obj _ _ Be b hb) fun o e d=>?_
   exact(I7.pin (b,o) (nW _ (nW _ (nC hb e)))).2.1
  cases f with
  | next=>obtain ⟨Ng,H7,I7,n7⟩:=q7;exact again I7 n7
  | cont=>obtain ⟨Ng,H7,I7,n7⟩:=q7;exact again I7 n7
  | brk=>obtain ⟨Ng,H7,I7,q7⟩:=q7;exact⟨Ng,H7,I7.xM,q7⟩
  | ret v=>obtain ⟨x7,Ng,H7,I7,r7,q7⟩:=q7;exact⟨x7,Ng,H7,I7.xM,r7,q7⟩
end
abbrev R2:=V->V->Hp->VK->Prop
def qt(X:Cx)(f:aq->aq->Sem aq)(r:R2):Prop:=
 ∀(pins:List (av×Obj)) (s:az) (σ:St) (H:Hp) (x y:V) (v u:aq) (Q:VK),Inv X pins σ H s->RelV x v->RelV y u->r x y H Q->
  aB (aC X.prog X.w) X.A (f v u) (EP X pins σ Q) X.xe s
def oU(X:Cx)(f:aq)(r:List V->Hp->VK->Prop):Prop:=
 ∀(pins:List (av×Obj)) (s:az) (σ:St) (H:Hp) (xs:List V) (us:List aq) (Q:VK),Inv X pins σ H s->Vals xs us->r xs H Q->
  aB (aC X.prog X.w) X.A (call f us) (EP X pins σ Q) X.xe s
def Zs(r:R2)(ta tb:TE):TE:=fun σ H Q=>ta σ H fun x H1=>tb σ H1 fun y H2=>r x y H2 Q
def rI(C:Int->Int->Prop)(g:Int->Int->V):R2:=fun x y H Q=>∃i j,x = .int i/\y = .int j/\C i j/\Q (g i j) H
def KA(g:Int->Int->V):R2:=fun x y H Q=>∃i j,x = .int i/\y = .int j/\Q (g i j) H
section
theorem Vo(ha:PE X a ta)(hb:PE X b tb){R:V->V->Hp->Prop}(I:Inv X pins σ H s)
  (h:ta σ H fun x H1=>tb σ H1 fun y H2=>R x y H2) {f:aq->aq->Sem aq}
  (hf:∀v u s2 x y H2,Inv X pins σ H2 s2->RelV x v->RelV y u->R x y H2->aB (aC X.prog X.w) X.A (f v u) Q X.xe s2) :
  aB (aC X.prog X.w) X.A (eval a X.env) (fun v kQ=>aB (aC X.prog X.w) X.A (eval b X.env) (fun u QN=>aB (aC X.prog X.w) X.A (f v u) Q X.xe QN) X.xe kQ) X.xe s:=by
 refine gS (ha pins s σ H _ I h) fun v s1 Zt=>?_
 refine bF Zt fun x H1 I1 r1 q1=>?_
 clear Zt
 refine gS (hb pins s1 σ H1 _ I1 q1) fun u s2 Zu=>?_
 refine bF Zu fun y H2 I2 r2 q2=>?_
 clear Zu
 exact hf v u s2 x y H2 I2 r1 r2 q2
theorem Zv(ho:qt X (binaryOp op) r)(ha:PE X a ta)(hb:PE X b tb):PE X (.BinOp a op b pos) (Zs r ta tb):=by
 intro pins s σ H Q I h
 exact wpAny_BinOp (Vo ha hb I h fun v u s2 x y H2 I2 rx ry q=>ho pins s2 σ H2 x y v u Q I2 rx ry q)
theorem opI{f:aq->aq->Sem aq}{C:Int->Int->Prop}{g:Int->Int->Int}
  (rule:∀(i j:Int) (t u:Tok) (s:az) (Q:aq->az->Prop) (E:aq->az->Prop),C i j->Q (.int (g i j) s.toks) { s with toks:=s.toks+1 }->aB (aC X.prog X.w) X.A (f (.int i t) (.int j u)) Q E s) :
  qt X f (rI C fun i j=>.int (g i j)):=by
 intro pins s σ H x y v u Q I rx ry h
 refine vP h fun i j bx sf hc q=>?_
 clear h
 walk_at"$"
 obtain rfl:=sf
 obtain ⟨t,rfl⟩:=rx
 obtain ⟨t',rfl⟩:=ry
 exact rule i j t t' s _ _ hc ⟨.int (g i j),H,I.tok _,⟨_,rfl⟩,q⟩
theorem Zw{f:aq->aq->Sem aq}{g:Int->Int->Int}
  (rule:∀(i j:Int) (t u:Tok) (s:az) (Q:aq->az->Prop) (E:aq->az->Prop),Q (.int (g i j) s.toks) { s with toks:=s.toks+1 }->aB (aC X.prog X.w) X.A (f (.int i t) (.int j u)) Q E s) :
  qt X f (KA fun i j=>.int (g i j)):=by
 intro pins s σ H x y v u Q I rx ry h
 refine bF h fun i j bx sf q=>?_
 clear h
 walk_at"$"
 obtain rfl:=sf
 obtain ⟨t,rfl⟩:=rx
 obtain ⟨t',rfl⟩:=ry
 exact rule i j t t' s _ _ ⟨.int (g i j),H,I.tok _,⟨_,rfl⟩,q⟩
theorem Vp{f:aq->aq->Sem aq}{g:Int->Int->Bool}
  (rule:∀(i j:Int) (t u:Tok) (s:az) (Q:aq->az->Prop) (E:aq->az->Prop),Q (.bool (g i j)) s->aB (aC X.prog X.w) X.A (f (.int i t) (.int j u)) Q E s) :
  qt X f (KA fun i j=>.bl (g i j)):=by
 intro pins s σ H x y v u Q I rx ry h
 refine bF h fun i j bx sf q=>?_
 clear h
 walk_at"$"
 obtain rfl:=sf
 obtain ⟨t,rfl⟩:=rx
 obtain ⟨t',rfl⟩:=ry
 exact rule i j t t' s _ _ ⟨.bl (g i j),H,I,rfl,q⟩
def Zx(i j:Int):Prop:=0 < j/\j < 1073741824
def QO(i j:Int):Prop:=(-(2 ^ 64) < i/\i < 2 ^ 64)\/(-(2 ^ 64) < j/\j < 2 ^ 64)
theorem QO.ok(h:QO i j):IntMulOk i j:=by
 rcases h with ⟨h1,h2⟩ | ⟨h1,h2⟩
 ·exact .of_left (intBits_le_64 h1 h2)
 ·exact .of_right (intBits_le_64 h1 h2)
theorem gu:qt X (binaryOp .Add) (KA fun i j=>.int (i+j)):=Zw fun _ _ _ _ _ _ _ q=>add_int q
theorem uD:qt X (binaryOp .Sub) (KA fun i j=>.int (i - j)):=Zw fun _ _ _ _ _ _ _ q=>sub_int q
theorem uE:qt X (binaryOp .Mult) (rI QO fun i j=>.int (i * j)):=opI fun _ _ _ _ _ _ _ hc q=>mul_int q hc.ok
theorem pT:qt X (binaryOp .FloorDiv) (rI Zx fun i j=>.int (i / j)):=opI fun i j _ _ _ _ _ hc q=>by
 have h1:(0:Int) < j:=hc.1
 have h2:j < 1073741824:=hc.2
 exact floordiv_int (by lia) (by rw[Int.fdiv_eq_ediv_of_nonneg i (by lia)];exact q) (.inl (PyProof.noPylong_small (by lia)))
theorem jW:qt X (binaryOp .Mod) (rI (fun _ j=>0 < j) fun i j=>.int (i % j)):=opI fun i j _ _ _ _ _ hc q=>by
 have h1:(0:Int) < j:=hc
 exact mod_int' (by lia) (by rw[Int.fmod_eq_emod_of_nonneg i (by lia)];exact q)
end
section
theorem Zy:qt X (iz .Lt) (KA fun i j=>.bl (decide (i < j))):=Vp fun _ _ _ _ _ _ _ q=>lt_int q
theorem zL:qt X (iz .LtE) (KA fun i j=>.bl (decide (i<=j))):=Vp fun _ _ _ _ _ _ _ q=>le_int q
theorem HG:qt X (iz .Gt) (KA fun i j=>.bl (decide (j < i))):=Vp fun _ _ _ _ _ _ _ q=>gt_int q
theorem iE(b:bH)(h:op≠ .In:=by decide)(h2:op≠ .NotIn:=by decide):behindInMarks op b=false:=by
 have e1:(op==CmpOp.In)=false:=by cases op <;> first | rfl | exact aI4 rfl h
 have e2:(op==CmpOp.NotIn)=false:=by cases op <;> first | rfl | exact aI4 rfl h2
 cases b <;> simp[behindInMarks,e1,e2]
theorem QS(ho:qt X (iz op) r)(ha:PE X a ta)(hb:PE X b tb)(hm:behindInMarks op b=false):PE X (.Compare a [op] [b] pos) (Zs r ta tb):=by
 intro pins s σ H Q I h
 exact wpAny_Compare1 (Vo ha hb I h fun v u s2 x y H2 I2 rx ry q=>ho pins s2 σ H2 x y v u Q I2 rx ry q) hm
def U0(t:TE):TT:=fun σ H Q=>t σ H fun x H'=>∃k,x = .bl k/\Q k H'
theorem QT(ho:qt X (iz op) r)(ha:PE X a ta)(hb:PE X b tb)(hm:behindInMarks op b=false):PT X (.Compare a [op] [b] pos) (U0 (Zs r ta tb)):=by
 intro pins s σ H Q I h
 refine wpAny_isTrue_Compare1 (gS (ha pins s σ H _ I h) fun v s1 ar6=>ar6.elim fun x ar7=>ar7.elim fun H1 ar8=>ar8.elim fun I1 ar9=>ar9.elim fun r1 q1=>gS (hb pins s1 σ H1 _ I1 q1) fun u s2 as1=>as1.elim fun y as2=>as2.elim fun H2 as3=>as3.elim fun I2 as4=>as4.elim fun r2 q2=>
  gS (ho pins s2 σ H2 x y v u _ I2 r1 r2 q2) fun c s3 as5=>as5.elim fun z as6=>as6.elim fun H3 as7=>as7.elim fun I3 as8=>as8.elim fun r3 as9=>as9.elim fun k at0=>at0.elim fun e q3=>?_) hm
 subst e
 cases r3
 exact wH ⟨H3,I3,q3⟩
def FY(r r':R2)(ta tb tc:TE):TE:=fun σ H Q=>ta σ H fun x H1=>tb σ H1 fun y H2=>r x y H2 fun z H3=>∃k,z = .bl k/\
 (if k=true then tc σ H3 fun w' H4=>r' y w' H4 Q else Q (.bl false) H3)
theorem Nh(ho:qt X (iz op) r)(CF:qt X (iz Ni) r')(ha:PE X a ta)(hb:PE X b tb)(hc:PE X c tc)
  (hm:lastMarks [op,Ni] [b,c]=false:=by with_unfolding_all rfl):PE X (.Compare a [op,Ni] [b,c] pos) (FY r r' ta tb tc):=by
 intro pins s σ H Q I h
 refine Compare_chain (gS (ha pins s σ H _ I h) fun v s1 at1=>at1.elim fun x at3=>at3.elim fun H1 at4=>at4.elim fun I1 at5=>at5.elim fun r1 q1=>chain_link (gS (hb pins s1 σ H1 _ I1 q1) fun u s2 at6=>at6.elim fun y at7=>at7.elim fun H2 at8=>at8.elim fun I2 at9=>at9.elim fun r2 q2=>
  gS (ho pins s2 σ H2 x y v u _ I2 r1 r2 q2) fun d s3 au0=>au0.elim fun z au1=>au1.elim fun H3 au2=>au2.elim fun I3 au3=>au3.elim fun r3 au4=>au4.elim fun k au5=>au5.elim fun e q3=>?_)) hm
 subst e
 cases r3
 refine wH ?_
 cases k with
 | false=>exact ite_ff ⟨.bl false,H3,I3,rfl,q3⟩
 | true=>exact ite_tt (chain_last (gS (hc pins s3 σ H3 _ I3 q3) fun w' s4 au6=>au6.elim fun z' au7=>au7.elim fun H4 au8=>au8.elim fun I4 au9=>au9.elim fun r4 q4=>CF pins s4 σ H4 y z' u w' Q I4 r2 r4 q4))
theorem Nj(ho:qt X (iz op) r)(CF:qt X (iz Ni) r')(ha:PE X a ta)(hb:PE X b tb)(hc:PE X c tc)
  (hm:lastMarks [op,Ni] [b,c]=false:=by with_unfolding_all rfl):PT X (.Compare a [op,Ni] [b,c] pos) (U0 (FY r r' ta tb tc)):=by
 intro pins s σ H Q I h
 refine isTrue_chain (gS (ha pins s σ H _ I h) fun v s1 av0=>av0.elim fun x av1=>av1.elim fun H1 av2=>av2.elim fun I1 av3=>av3.elim fun r1 q1=>test_link (gS (hb pins s1 σ H1 _ I1 q1) fun u s2 av4=>av4.elim fun y av5=>av5.elim fun H2 av6=>av6.elim fun I2 Zz=>Zz.elim fun r2 q2=>
  gS (ho pins s2 σ H2 x y v u _ I2 r1 r2 q2) fun d s3 ZA=>ZA.elim fun z ZC=>ZC.elim fun H3 ZD=>ZD.elim fun I3 ZE=>ZE.elim fun r3 ZF=>ZF.elim fun k ZG=>ZG.elim fun e q3=>?_)) hm
 subst e
 cases r3
 refine wH ?_
 cases k with
 | false=>
  refine aY q3 fun k' e' q'=>?_
  clear q3
  cases e'
  exact ite_ff ⟨H3,I3,q'⟩
 | true=>
  refine ite_tt (test_last (gS (hc pins s3 σ H3 _ I3 q3) fun w' s4 ZH=>ZH.elim fun z' ZI=>ZI.elim fun H4 ZJ=>ZJ.elim fun I4 ZK=>ZK.elim fun r4 q4=>gS (CF pins s4 σ H4 y z' u w' _ I4 r2 r4 q4) fun d' s5 ZL=>?_))
  obtain ⟨z2,H5,I5,r5,k2,e2,q5⟩:=ZL
  subst e2
  cases r5
  exact wH ⟨H5,I5,q5⟩
theorem FZ:(cK:Nat) < 2 ^ 63:=by rw[gn];decide
theorem vals1(r:Vals [x] us):∃u,us=[u]/\RelV x u:=by
 cases r with
 | cons r1 r2=>cases r2;exact⟨_,rfl,r1⟩
end
structure Jh(h:aX)(x dx C:av)(mA:Str->Option aq):Prop where
 obj:h.get? x=some (vm C dx)
 ns:h.Ns1 dx mA
 ne:dx≠x
theorem Ji{h:aX}(n:h.Ns1 dx mA):∃od,h.get? dx=some od/\∀name,PySem.W.lookIn name od=some (mA name):=by
 refine Cy n fun o es ep ho hd hk _ hm=>?_
 clear n
 refine⟨o,ho,fun name=>?_⟩
 have e:=hm name
 unfold nsFind findBy at e
 rw[<- Array.find?_toList] at e
 unfold PySem.W.lookIn
 rw[hd]
 dsimp only
 split
 ·rename_i y q
  rw[q] at e
  exact congrArg some e
 ·rename_i q
  rw[q] at e
  have a:es.toList.any (·.refKey)=false:=by
   rw[List.any_eq_false]
   intro y hy
   refine rW (hk y (zJ.mp hy)) fun z t Bf=>?_
   simp[DictEntry.refKey,Bf]
  have a':¬ es.toList.any (·.refKey)=true:=by rw[a];exact iK
  rw[aH3 a']
  exact congrArg some e
theorem Jh.look(I:Jh h x dx C mA):∃od,PySem.W.InstAt h x (vm C dx) C (some od)/\∀name,PySem.W.lookIn name od=some (mA name):=
 let ⟨od,ho,hl⟩:=Ji I.ns
 ⟨od,⟨I.obj,rfl,rfl,ho⟩,hl⟩
section
variable {prog:dh}{w:bN}{A:bY}{E:aq->az->Prop}{s:az}{K:aD}{x dx C f:av}{mA:Str->Option aq}{name:Str}{v:aq}
theorem get_map{Q:aq->az->Prop}(X:K.In s.heap)(I:Jh s.heap x dx C mA)(hg:PySem.W.plainGet K C name=true)(hh:PySem.W.hasDictIn K C=true)
  (ha:wO K (.ref C) name=some none) (hv:mA name=some v) (hv':PySem.W.handedIn v=true) (h:Q v { s with toks:=s.toks+1 }) :
  aB (aC prog w) A (getAttr (.ref x) name expr) Q E s:=by
 refine aY I.look fun od J hl=>?_
 exact PySem.W.get_value X J (PySem.W.plainGet_of hg).1 (PySem.W.findObj_own hh ha rfl (by rw[hl,hv])) hv' h
theorem QU{Q:Unit->az->Prop}(X:K.In s.heap)(I:Jh s.heap x dx C mA)
  (hs:wO K (.ref C) "__setattr__" =some (some (.builtin "object.__setattr__"))) (hp:PySem.W.plainOver K C=true) (ht:PySem.W.takerIn K C name=some none) (hh:PySem.W.hasDictIn K C=true)
  (hw:PySem.Within mA ns) (hsz:ns.length<=cK)
  (h:∀h',Jh h' x dx C (fun y=>if y=name then some v else mA y)->gZ dx s.heap h'->Q () { s with heap:=h',toks:=s.toks+2 }) :
  aB (aC prog w) A (setAttr (.ref x) name v) Q E s:=by
 refine aY I.look fun od J hl=>?_
 refine PySem.W.set_plain X J hs (PySem.W.osa_open (s:={ s with toks:=s.toks+1 }) (r:=none) X J hp ht fun b=>?_)
 refine aY (PySem.W.any_some hh) fun cd hc Qs=>?_
 have hx:s.heap.get? x=some ⟨.ref C,some dx,.plain,#[]⟩:=I.obj
 refine ah (aA (ah (ah (wpAny_loadPart hx (ah (YM (s:={ s with toks:=s.toks+1 }) (PySem.W.looks_clsIn X hc) ?_))))))
 rw[Qs]
 refine aA (a:=some dx) (ah (aA (ah ?_)))
 refine wpAny_nsSet1 (s:={ s with toks:=s.toks+1 }) I.ns fun h' hn2 Vq=>?_
 refine V0 (hn2.count (YN name v hw)) fun oD esD epD hoD hdD hcD=>?_
 refine ah (wpAny_lookBehind hoD (by rw[hdD];exact pastItsLine_dict (cC hcD (by rw[cS];lia))) ?_)
 exact aA (h _ ⟨(Vq.2 _ (eX I.ne)).trans I.obj,hn2,I.ne⟩ Vq)
theorem Nk(X:K.In s.heap)(hm:PySem.W.makesIn K C=true)
  (hi:wO K (.ref C) "__init__" =some (some (.ref f))) (hf:PySem.W.typeIn K (.ref f)=some (.type "function"))
  (h:codeAny (aC prog w) (A.under (.builtin "type.__call__" ⟨.ref C::vs,kw⟩)) (.call (.ref f) ⟨.ref (s.heap.objs.size+1)::vs,kw⟩) (PySem.W.InitBack (s.heap.objs.size+1) R)
   { s with heap:=(s.heap.push rU).push (vm C s.heap.objs.size) }) :
  codeAny (aC prog w) A (.call (.ref C) ⟨vs,kw⟩) R s:=by
 obtain ⟨hh,g,d,t,os⟩:=s
 exact PySem.W.make_core (PySem.W.makes_of X hm) (PySem.W.looks_findIn X hi) (fun self=>PySem.W.bind_fn X self hf) (.inl rfl) h
end
def oV(f:Str)(v:V):List (Str×V)->List (Str×V)
 | []=>[(f,v)]
 | (g,x)::r=>if g=f then (g,v)::r else (g,x)::oV f v r
theorem vp(f g:Str)(v:V):∀fs:List (Str×V),(oV f v fs).lookup g=if g=f then some v else fs.lookup g
 | []=>by
  show qp g [(f,v)]=_
  by_cases h:g=f
  ·have hb:(g==f)=true:=aH6.mpr h
   simp only[qp,hb,aH2 h]
  ·have hb:(g==f)=false:=aH9.mpr h
   simp only[qp,hb,aH3 h]
 | (k,x)::r=>by
  have ih:=vp f g v r
  rw[show oV f v ((k,x)::r)=(if k=f then (k,v)::r else (k,x)::oV f v r) from rfl]
  by_cases hk:k=f
  ·rw[aH2 hk]
   by_cases h:g=k
   ·have hb:(g==k)=true:=aH6.mpr h
    simp only[qp,hb,aH2 (h.trans hk)]
   ·have hb:(g==k)=false:=aH9.mpr h
    simp only[qp,hb,aH3 (fun e:g=f=>h (e.trans hk.symm))]
  ·rw[aH3 hk]
   by_cases h:g=k
   ·have hb:(g==k)=true:=aH6.mpr h
    simp only[qp,hb,aH3 (fun e:g=f=>hk (h.symm.trans e))]
   ·have hb:(g==k)=false:=aH9.mpr h
    simp only[qp,hb]
    exact ih
theorem uF(f:Str)(v:V):∀fs:List (Str×V),f∈(oV f v fs).map (·.1)/\∀g,g∈fs.map (·.1)->g∈(oV f v fs).map (·.1)
 | []=>⟨by simp[oV],fun g h=>by simp at h⟩
 | (k,x)::r=>by
  obtain ⟨i1,i2⟩:=uF f v r
  rw[show oV f v ((k,x)::r)=(if k=f then (k,v)::r else (k,x)::oV f v r) from rfl]
  by_cases hk:k=f
  ·rw[aH2 hk]
   subst hk
   exact⟨by simp,fun g h=>by simpa using h⟩
  ·rw[aH3 hk]
   refine⟨?_,fun g h=>?_⟩
   ·rw[aZ]
    exact oG _ i1
   ·rw[aZ] at h ⊢
    rcases bP.mp h with e | e
    ·exact bP.mpr (.inl e)
    ·exact oG _ (i2 g e)
theorem vq(f:Str)(v:V):∀fs:List (Str×V),(oV f v fs).length<=fs.length+1
 | []=>by simp[oV]
 | (k,x)::r=>by
  have ih:=vq f v r
  rw[show oV f v ((k,x)::r)=(if k=f then (k,v)::r else (k,x)::oV f v r) from rfl]
  by_cases hk:k=f
  ·rw[aH2 hk,cS,cS];lia
  ·rw[aH3 hk,cS,cS];lia
theorem FN.some_of(r:FN (some v) o):∃u,o=some u/\RelV v u:=by
 cases o with
 | none=>exact(show False from r).elim
 | some u=>exact⟨u,rfl,r⟩
theorem Jj(r:RelV v u):PySem.W.handedIn u=true:=by
 cases v with
 | cY=>cases (show u=dY from r);rfl
 | bl b=>cases (show u=Value.bool b from r);rfl
 | int i=>obtain ⟨t,e⟩:=(show ∃t,u=J5 i t from r);cases e;rfl
 | str x=>obtain ⟨t,e⟩:=(show ∃t,u=UP x t from r);cases e;rfl
 | byt b=>obtain ⟨t,e⟩:=(show ∃t,u=Value.bytes b t from r);cases e;rfl
 | flt b=>obtain ⟨t,e⟩:=(show ∃t,u=Value.float b t from r);cases e;rfl
 | ref a=>cases (show u=eW a from r);rfl
 | ty n=>cases (show u=vj n from r);rfl
section
theorem sj(fB:rQ P w H h)(e:H a=some (.ins C dx fs)):∃mA,Jh h a dx C mA/\(∀f,FN (fs.lookup f) (mA f))/\PySem.Within mA (fs.map (·.1))/\fs.length<=1000/\H dx=some (.own a):=by
 obtain ⟨d,z,ne,ob,mA,n,r,q⟩:=(show gC P w H h a (.ins C dx fs) from fB a _ e)
 exact⟨mA,⟨ob,n,ne⟩,r,q,z,d⟩
end
structure KC(K:aD)(C:av):Prop where
 pg:PySem.W.plainGet K C Str.empty=true
 hd:PySem.W.hasDictIn K C=true
 po:PySem.W.plainOver K C=true
 sa:wO K (.ref C) "__setattr__" =some (some (.builtin "object.__setattr__"))
theorem KC.get{K:aD}{C:av}(c:KC K C)(f:Str):PySem.W.plainGet K C f=true:=c.pg
def jX(K:aD)(C:av)(f:Str):Prop:=wO K (.ref C) f=some none
theorem jX.ZM{K:aD}{C:av}{f:Str}(n:jX K C f):PySem.W.takerIn K C f=some none:=by
 unfold PySem.W.takerIn
 rw[show wO K (.ref C) f=some none from n]
 rfl
section
theorem G1{Q:aq->az->Prop}(I:Inv X pins σ H s)(e:H a=some (.ins C dx fs))(c:KC X.K C)(n:jX X.K C f)(l:fs.lookup f=some v)
  (h:∀u s',Inv X pins σ H s'->RelV v u->Q u s'):aB (aC X.prog X.w) A (getAttr (.ref a) f b) Q E s:=by
 refine QF (sj I.fB e) fun mA O r _ _ _=>?_
 obtain ⟨u,hu,ru⟩:=FN.some_of (v:=v) (o:=mA f) (by rw[<- l];exact r f)
 exact get_map I.Jb O (c.get f) c.hd n hu (Jj ru) (h u _ (I.tok _) ru)
theorem G3{Q:Unit->az->Prop}(I:Inv X pins σ H s)(e:H a=some (.ins C dx fs))(c:KC X.K C)(n:jX X.K C f)(hl:fs.length < 1000)(ry:RelV y u)
  (h:∀s',Inv X pins σ (upd H a (.ins C dx (oV f y fs))) s'->Q () s'):aB (aC X.prog X.w) A (setAttr (.ref a) f u) Q E s:=by
 refine QF (sj I.fB e) fun mA O r wi _ ho=>?_
 have hz:(fs.map (·.1)).length<=cK:=by rw[bh,gn];lia
 refine QU I.Jb O c.sa c.po n.ZM c.hd wi hz fun h' O' sb=>h _ ?_
 have hd:∃o,h'.get? dx=some o:=let ⟨o,_,_,e',_⟩:=O'.ns;⟨o,e'⟩
 refine I.write (x:=a) (e:=dx) (by rw[e];exact True.intro) (.inr ho) (fun b q hb z=>(sb.2 b hb).trans z) hd ?_
 refine⟨by rw[aV O.ne];exact ho,?_,O.ne,O'.obj,_,O'.ns,fun g=>?_,fun g hg=>?_⟩
 ·have:=vq f y fs;lia
 ·show FN ((oV f y fs).lookup g) (if g=f then some u else mA g)
  rw[vp]
  by_cases q:g=f
  ·rw[aH2 q,aH2 q];exact ry
  ·rw[aH3 q,aH3 q];exact r g
 ·by_cases q:g=f
  ·rw[q];exact(uF f y fs).1
  ·refine(uF f y fs).2 g (wi g fun z=>hg ?_)
   show (if g=f then some u else mA g)=none
   rw[aH3 q];exact z
theorem Inv.made(I:Inv X pins σ H s):Inv X pins σ (upd (upd H s.heap.objs.size (.own (s.heap.objs.size+1))) (s.heap.objs.size+1) (.ins C s.heap.objs.size []))
  { s with heap:=(s.heap.push rU).push (vm C s.heap.objs.size) }:=by
 have e1:(s.heap.push rU).get? s.heap.objs.size=some rU:=eN s.heap rfl
 have e2:((s.heap.push rU).push (vm C s.heap.objs.size)).get? (s.heap.objs.size+1)=some (vm C s.heap.objs.size):=by
  have:=eN (s.heap.push rU) (o:=vm C s.heap.objs.size) rfl
  rwa [zH] at this
 have e3:(s.heap.push rU).Ns s.heap.objs.size (fun _=>none):=⟨rU,#[],_,e1,rfl,(fun e he=>aI4 he (by simp)),fun _=>rfl⟩
 have I1:=I.laid (a:=s.heap.objs.size) (o:=.own (s.heap.objs.size+1)) (h':=s.heap.push rU) (t':=s.toks) (fun b u q=>bQ _ q) (bf _) ⟨_,e1⟩
 refine I1.laid (a:=s.heap.objs.size+1) (o:=.ins C s.heap.objs.size []) (t':=s.toks) (fun b u q=>bQ _ q) (Lo (zH _ _)) ?_
 have ne:s.heap.objs.size≠s.heap.objs.size+1:=di (zI _)
 refine⟨by rw[aV ne,bS],iA _,ne,e2,fun _=>none,(Heap.Ns1.of_empty e3).at fun o q=>bQ _ q,fun _=>True.intro,fun y hy=>aI4 rfl hy⟩
theorem QV(hb:nc e f env (eval e env)=eval e env)
  (h:aB (aC prog w) A (eval e env) (fun o kQ=>aB (aC prog w) A (getAttr o f true) Q E kQ) E s):aB (aC prog w) A (eval (.Attribute e f pos) env) Q E s:=
 Attribute_any_ h (by rw[arm_eval_Attribute,hb])
end
def av7(K:aD)(ta:TE)(f:Str):TE:=fun σ H Q=>ta σ H fun x H1=>∃a C dx fs v,x = .ref a/\H1 a=some (.ins C dx fs)/\KC K C/\jX K C f/\fs.lookup f=some v/\Q v H1
def ZN(K:aD)(ta tv:TE)(f:Str):TS:=fun D σ H=>tv σ H fun y H1=>ta σ H1 fun x H2=>∃a C dx fs,x = .ref a/\H2 a=some (.ins C dx fs)/\KC K C/\jX K C f/\fs.length < 1000/\
 D.nx σ (upd H2 a (.ins C dx (oV f y fs)))
section
theorem Vr(he:PE X e ta)(hb:nc e f X.env (eval e X.env)=eval e X.env):PE X (.Attribute e f pos) (av7 X.K ta f):=by
 intro pins s σ H Q I h
 refine QV hb (gS (he pins s σ H _ I h) fun u s1 ZO=>?_)
 obtain ⟨x,H1,I1,rx,a,C,dx,fs,v,ex,ea,c,n,l,q⟩:=ZO
 subst ex
 obtain rfl:u=eW a:=rx
 exact G1 I1 ea c n l fun u' s2 I2 ru=>⟨v,H1,I2,ru,q⟩
theorem Vs(ha:PE X o ta)(hv:PE X value tv)(hs:swapsWith value (some (.Attribute o f pos')) pos.line X.env=pure false):PS X (.Assign [.Attribute o f pos'] value pos) (ZN X.K ta tv f):=by
 intro pins s σ H D I h
 refine plainObj_wpAny_Assign_Attribute (gS (hv pins s σ H _ I h) fun u s1 ZP=>ZP.elim fun y ZQ=>ZQ.elim fun H1 ZR=>ZR.elim fun I1 ZS=>ZS.elim fun ry q=>gS (ha pins s1 σ H1 _ I1 q) fun ov s2 ZT=>?_) hs
 obtain ⟨x,H2,I2,rx,a,C,dx,fs,ex,ea,c,n,l,q2⟩:=ZT
 subst ex
 obtain rfl:ov=eW a:=rx
 exact G3 I2 ea c n l ry fun s3 I3=>⟨σ,_,I3,q2⟩
end
structure jy(k:Nat)(A:bY):Prop where
 hd:A.handled=none
 dp:A.depth+3 * k+5 < recursionLimit
 un:A.units+16 * k+200 < cLine
theorem jy.mono(r:jy k A)(h:j<=k):jy j A:=⟨r.hd,by have:=r.dp;lia,by have:=r.un;lia⟩
theorem jy.deeper(r:jy (k+1) A)(env:Env):jy k (A.deeper env):=
 ⟨r.hd,by have:=r.dp;show A.depth+1+3 * k+5 < _;lia,by have:=r.un;show A.units+3+16 * k+200 < _;lia⟩
theorem G4{A:bY}:(A.under (.builtin "type.__call__" ⟨.ref C::us,kw⟩)).depth=A.depth+1:=by
 first | rfl | simp[Around.under,Code.weight,Code.isCreation,Code.isGuard,Code.isCaller,Code.frames,Code.isFrame,guardIds]
theorem G5{A:bY}:(A.under (.builtin "type.__call__" ⟨.ref C::us,kw⟩)).units=A.units+1:=by
 first | rfl | simp[Around.under,Code.cUnits,Code.frames,Code.isFrame]
theorem jy.make(r:jy (k+1) A)(C:av)(us:List aq)(kw:List (Str×aq)):jy k (A.under (.builtin "type.__call__" ⟨.ref C::us,kw⟩)):=
 ⟨r.hd,by have:=r.dp;rw[G4];lia,by have:=r.un;rw[G5];lia⟩
theorem jy.depth(r:jy k A):A.depth < recursionLimit:=by have:=r.dp;lia
theorem jy.units(r:jy k A):A.units+64 < cLine:=by have:=r.un;lia
def Jk:TA:=fun _ H Q=>Q [] H
def zM(ta:TE)(tr:TA):TA:=fun σ H Q=>ta σ H fun x H1=>tr σ H1 fun xs H2=>Q (x::xs) H2
section
theorem m7:PA X [] Jk:=fun _ _ _ _ H Q I h=>AZ ⟨[],H,I,.nil,h⟩
theorem iU(ha:PE X e te)(hr:PA X es t)(hs:bL (e::es) X.env=(false,eval e X.env)::bL es X.env:=by rfl):PA X (e::es) (zM te t):=by
 intro pos pins s σ H Q I h
 rw[hs]
 show aB _ _ (spliced ((false,eval e X.env)::backTo pos (bL es X.env))) _ _ s
 refine xh (gS (ha pins s σ H _ I h) fun u s1 U1=>?_)
 refine bF U1 fun x H1 I1 r1 q1=>?_
 clear U1
 exact gS (hr pos pins s1 σ H1 _ I1 q1) fun us s2 ZU=>ZU.elim fun xs ZV=>ZV.elim fun H2 ZW=>ZW.elim fun I2 ZX=>ZX.elim fun r2 q2=>⟨x::xs,H2,I2,.cons r1 r2,q2⟩
def av8(t:TA):TE:=fun σ H Q=>t σ H fun xs H1=>xs.length<=cK/\∀p,H1 p=none->Q (.ref p) (upd H1 p (.tup xs))
def av9(t:TA):TE:=fun σ H Q=>t σ H fun xs H1=>xs.length<=cK/\∀p,H1 p=none->Q (.ref p) (upd H1 p (.lst xs))
theorem Nl{x1}(h:PA X es t):PE X (.Tuple es x1 pos) (av8 t):=by
 intro pins s σ H Q I hq
 refine L5 (gS (h pos pins s σ H _ I hq) fun us s1 ZY=>ZY.elim fun xs ZZ=>ZZ.elim fun H1 aa0=>aa0.elim fun I1 aa1=>aa1.elim fun r aa2=>aa2.elim fun z q=>⟨by rw[<- r.length];exact z,?_⟩)
 have hf:H1 s1.heap.objs.size=none:=I1.fB.fresh (bf _)
 refine⟨.ref s1.heap.objs.size,upd H1 s1.heap.objs.size (.tup xs),I1.laid (t':=s1.toks) (fun b u e=>bQ _ e) (bf _) ?_,rfl,q _ hf⟩
 exact⟨z,us,r,⟨_,eN _ rfl,rfl,_,rfl⟩⟩
theorem Vt(h:PA X es t):PE X (.List es pos) (av9 t):=by
 intro pins s σ H Q I hq
 refine wpAny_List_spliced (gS (h pos pins s σ H _ I hq) fun us s1 aa3=>aa3.elim fun xs aa4=>aa4.elim fun H1 aa5=>aa5.elim fun I1 aa6=>aa6.elim fun r aa7=>aa7.elim fun z q=>⟨by rw[<- r.length];exact z,?_⟩)
 have hf:H1 s1.heap.objs.size=none:=I1.fB.fresh (bf _)
 refine⟨.ref s1.heap.objs.size,upd H1 s1.heap.objs.size (.lst xs),I1.laid (t':=s1.toks) (fun b u e=>bQ _ e) (bf _) ?_,rfl,q _ hf⟩
 exact⟨z,us,0,r,eN _ rfl⟩
end
abbrev Sp:=List V->Hp->VK->XK->Prop
abbrev Qu:=List Env->Hp->az->XK->aq->az->Prop
structure G6(P:dh)(w:bN)(K:aD)(mg:Str->Option aq)(base:aX)(A:bY)(outer:List Env)(s:az)(H:Hp):Prop where
 frames:A.frames=some outer
 mod:Mod K mg base
 bs:∀b o,base.get? b=some o->s.heap.get? b=some o/\H b=none
 Qq:base.objs.size<=s.heap.objs.size
 uB:s.heap.FunFrames base outer
 TY:∀b∈xD outer,H b=none
 fB:rQ P w H s.heap
 bare:AllBare s.gens
def CE(outer:List Env)(P:dh)(w:bN)(H:Hp)(s:az)(Q:VK)(u:aq)(s':az):Prop:=
 ∃v H',s'.os=s.os/\AllBare s'.gens/\Un (xD outer) [] H H' s.heap s'.heap/\rQ P w H' s'.heap/\RelV v u/\Q v H'
def CR(CX:Qu)(outer:List Env)(P:dh)(w:bN)(H:Hp)(s:az)(Q:VK)(E:XK)(r:Result)(s':az):Prop:=
 match r with
 | .ok (.ret u)=>CE outer P w H s Q u s'
 | .ok _=>False
 | .error e=>CX outer H s E e s'
structure jY(P:dh)(w:bN)(K:aD)(mg:Str->Option aq)(base:aX)(CX:Qu)(k:Nat)(f:av)(fd:gH)(ps:List Str)(sp:Sp):Prop where
 len:∀vs H Q E,sp vs H Q E->vs.length=ps.length
 run:∀(A:bY) (outer:List Env) (s:az) (H:Hp) (args:Args) (us:List aq) (vs:List V) (Q:VK) (E:XK),jy k A->G6 P w K mg base A outer s H->BindsTo s fd args (ps.zip us)->Vals vs us->sp vs H Q E->
  codeAny (aC P w) A (.call (.ref f) args) (CR CX outer P w H s Q E) s
theorem jY.mono{P:dh}{w:bN}{K:aD}{mg:Str->Option aq}{base:aX}{CX:Qu}{j k:Nat}{f:av}{fd:gH}{ps:List Str}{sp:Sp}(F:jY P w K mg base CX j f fd ps sp)(h:j<=k) :
  jY P w K mg base CX k f fd ps sp:=⟨F.len,fun A outer s H args us vs Q E hr=>F.run A outer s H args us vs Q E (hr.mono h)⟩
theorem jY.imp{P:dh}{w:bN}{K:aD}{mg:Str->Option aq}{base:aX}{CX:Qu}{k:Nat}{f:av}{fd:gH}{ps:List Str}{sp sp':Sp}(F:jY P w K mg base CX k f fd ps sp)
  (h:∀vs H Q E,sp' vs H Q E->sp vs H Q E):jY P w K mg base CX k f fd ps sp':=
 ⟨fun vs H Q E q=>F.len vs H Q E (h _ _ _ _ q),fun A outer s H args us vs Q E hr he hb hv hs=>F.run A outer s H args us vs Q E hr he hb hv (h _ _ _ _ hs)⟩
theorem G6.make{P:dh}{w:bN}{K:aD}{mg:Str->Option aq}{base:aX}{A:bY}{outer:List Env}{s:az}{H:Hp}(e:G6 P w K mg base A outer s H)(C:av)(us:List aq)(kw:List (Str×aq)) :
  G6 P w K mg base (A.under (.builtin "type.__call__" ⟨.ref C::us,kw⟩)) outer s H:=⟨by first | exact e.frames | (simpa[Around.under,Code.envs,Code.isFrame,pushEnvs] using e.frames),e.mod,e.bs,e.Qq,e.uB,e.TY,e.fB,e.bare⟩
section
theorem Inv.aa8(I:Inv X pins σ H s):G6 X.prog X.w X.K X.mg X.base X.A X.stack s H:=
 ⟨I.ok.frames,I.ok.mod,I.bs,cC I.ok.Qq I.sz,I.stack,I.HA,I.fB,I.bare⟩
theorem Inv.after(I:Inv X pins σ H s)(h:CE X.stack X.prog X.w H s Q u s'):EP X pins σ Q u s':=by
 refine YO h fun v H' os bare un fB r q=>?_
 clear h
 obtain ⟨hh,g,d,t,os'⟩:=s'
 obtain rfl:os'=s.os:=os
 exact⟨v,H',I.call (h':=hh) (g':=g) (d':=d) (t':=t) (ch:=[]) un fB bare (fun b z=>aI4 z (by simp)),r,q⟩
end
def Binds(K:aD)(fd:gH)(ps:List Str)(ds:List aq):Prop:=
 ∀(s:az) (us:List aq),K.In s.heap->(us++ds).length=ps.length->BindsTo s fd ⟨us,[]⟩ (ps.zip (us++ds))
theorem Binds.all{K:aD}{fd:gH}{ps:List Str}(h:∀us:List aq,us.length=ps.length->bindArgs fd ⟨us,[]⟩=pure (ps.zip us)):Binds K fd ps []:=fun s us _ hl=>by
 rw[jS] at hl ⊢
 exact .of_eq (h us hl)
section
structure Mk(K:aD)(C f:av):Prop where
 makes:PySem.W.makesIn K C=true
 init:wO K (.ref C) "__init__" =some (some (.ref f))
 fn:PySem.W.isFn K (.ref f)=true
 kp:u7 K (.ref C)=true
end
structure bV(N P:List Str)(sc:iI):Prop where
 kind:sc.kind = .function
 co:sc.isCoroutine=false
 gen:sc.isGenerator=false
 nd:N.Nodup
 pre:N.take P.length=P
 par:∀x∈P,sc.names.lookup x=some .local\/sc.names.lookup x=some .cell
 Vu:∀y∈sc.names,y.2≠ .free
theorem zN{kindOf:Str->Option NameKind}{x:Str}:∀{binds:List (Str×aq)} {m:Str->Option aq},(∀v,(x,v)∉binds)->bindL kindOf binds m x=m x
 | [],_,_=>rfl
 | (n,v)::r,m,h=>by
  unfold bindL
  rw[zN fun w hw=>h w (oG _ hw)]
  split
  ·have:x≠n:=by rintro rfl;exact h v vn
   simp[this]
  ·rfl
theorem zO{kindOf:Str->Option NameKind}{x:Str}:∀{binds:List (Str×aq)} {m:Str->Option aq},(∀v,(x,v)∉binds)->bindC kindOf binds m x=m x
 | [],_,_=>rfl
 | (n,v)::r,m,h=>by
  unfold bindC
  rw[zO fun w hw=>h w (oG _ hw)]
  split
  ·rfl
  ·have:x≠n:=by rintro rfl;exact h v vn
   simp[this]
theorem zP{kindOf:Str->Option NameKind}:∀{P:List Str} {vs:List aq} {i:Nat} {m:Str->Option aq},P.Nodup->P[i]?=some x->vs[i]?=some v->kindOf x=some .local->
  bindL kindOf (P.zip vs) m x=some v
 | [],_,_,_,_,h,_,_=>by simp at h
 | _::_,[],_,_,_,_,h,_=>by simp at h
 | p::P,w::vs,0,m,nd,h1,h2,hk=>by
  simp at h1 h2;subst h1;subst h2
  show bindL kindOf ((p,w)::P.zip vs) m p=_
  unfold bindL
  rw[zN fun v hv=>(jF.mp nd).1 (F5 hv).1,aH2 hk]
  simp
 | p::P,w::vs,i+1,m,nd,h1,h2,hk=>by
  show bindL kindOf ((p,w)::P.zip vs) m x=_
  unfold bindL
  exact zP (i:=i) (jF.mp nd).2 (by simpa using h1) (by simpa using h2) hk
theorem zQ{kindOf:Str->Option NameKind}:∀{P:List Str} {vs:List aq} {i:Nat} {m:Str->Option aq},P.Nodup->P[i]?=some x->vs[i]?=some v->kindOf x≠some .local->
  bindC kindOf (P.zip vs) m x=some v
 | [],_,_,_,_,h,_,_=>by simp at h
 | _::_,[],_,_,_,_,h,_=>by simp at h
 | p::P,w::vs,0,m,nd,h1,h2,hk=>by
  simp at h1 h2;subst h1;subst h2
  show bindC kindOf ((p,w)::P.zip vs) m p=_
  unfold bindC
  rw[zO fun v hv=>(jF.mp nd).1 (F5 hv).1,aH3 hk]
  simp
 | p::P,w::vs,i+1,m,nd,h1,h2,hk=>by
  show bindC kindOf ((p,w)::P.zip vs) m x=_
  unfold bindC
  exact zQ (i:=i) (jF.mp nd).2 (by simpa using h1) (by simpa using h2) hk
def start(N:List Str)(vs:List V):St:=vs.map some++lT (N.length - vs.length) none
def qf(CX:Qu)(P:dh)(w:bN)(K:aD)(mg:Str->Option aq)(base:aX)(N:List Str)(qual:Str)(scope:iI)(f:av)(cd:aq)(A:bY)(outer:List Env)(s:az)(H:Hp)(E:XK):Cx where
 prog:=P
 w:=w
 K:=K
 mg:=mg
 base:=base
 A:=A.deeper (envOfC qual scope s.heap.objs.size f cd)
 N:=N
 ji:=s
 N7:=H
 env:=envOfC qual scope s.heap.objs.size f cd
 outer:=outer
 stack:=envOfC qual scope s.heap.objs.size f cd::outer
 ex:=[]
 calm:=true
 fn:=fun _=>true
 pn:=[]
 xe:=fun e s'=>aB (aC P w) (A.deeper (envOfC qual scope s.heap.objs.size f cd)) (leaving (envOfC qual scope s.heap.objs.size f cd) e) (fun _ KG=>CX outer H s E e KG) (fun e' KG=>CX outer H s E e' KG) s'
theorem CO{sc:iI}(h:sc.names.lookup x=some .cell):∃c,(cellsFrom n sc.names []).lookup x=some c:=by
 have q:=Lk sc.names n [] (.inl h)
 exact Mw.mp q
theorem Jl{CX:Qu}{P:dh}{w:bN}{K:aD}{mg:Str->Option aq}{base:aX}{N ps:List Str}{qual:Str}{scope:iI}{f:av}{cd:aq}{A:bY}{outer:List Env}{s s1:az}{H:Hp}{E:XK}{us:List aq}{vs:List V}
  (S:bV N ps scope) (hd:A.handled=none) (e0:G6 P w K mg base A outer s H) (hl:vs.length=ps.length) (r:Vals vs us)
  (x:InCallC s s.heap.objs.size (bindL (envOfC qual scope s.heap.objs.size f cd).kindOf (ps.zip us) fun _=>none) (cellsFrom (s.heap.objs.size+1) scope.names []) (bindC (envOfC qual scope s.heap.objs.size f cd).kindOf (ps.zip us) fun _=>none) s1) :
  Inv (qf CX P w K mg base N qual scope f cd A outer s H E) [] (start N vs) H s1:=by
 have z5:ps.length<=N.length:=by have:=congrArg List.length S.pre;rw[kL] at this;lia
 refine dS x.done fun h1 tk bx hk=>?_
 walk_at"$"
 have noA:∀b:av,b∉(qf CX P w K mg base N qual scope f cd A outer s H E).ex:=fun b z=>aI4 (show b∈([]:List av) from z) (by simp)
 refine⟨⟨e0.mod,S.kind,rfl,rfl,bf _,fun y z c h1 h2=>?_,fun y hy=>?_,fun y c _ h=>?_,fun _=>hd,Around.frames_deeper e0.frames,.inr ⟨rfl,rfl⟩,fun b z=>aI4 z (noA b),e0.bs,e0.Qq,fun b _ _=>noA b,fun b z=>aI4 z (noA b),e0.uB,e0.TY⟩,
  rfl,e0.bare,Un.kept hk,⟨_,x.toInCall.ns,fun i y v h1 h2 h3=>?_⟩,fun y c h=>⟨_,x.cell y c h⟩,e0.fB.fresh (bf _),fun y c h=>?_,fun p hp=>aI4 (show p∈([]:List (av×Obj)) from hp) (by simp),e0.fB.kept hk,?_⟩
 ·exact name_of_addr x.apart (wK h1) (wK h2)
 ·have hy:scope.names.lookup y=some .cell\/scope.names.lookup y=some .free:=hy
  rcases hy with hy | hy
  ·exact CO hy
  ·exact aI4 rfl (S.Vu _ (wK hy))
 ·exact jf (x.above y c (wK h))
 ·have hi:i < vs.length:=by
   unfold start at h2
   by_cases hi:i < vs.length
   ·exact hi
   ·rw[nj (by simpa using hi)] at h2
    rw[ud] at h2
    split at h2 <;> cases h2
  have ha:vs[i]?=some v:=by
   unfold start at h2
   rw[qR (by simpa using hi),dm] at h2
   cases e:vs[i]? with
   | none=>rw[e] at h2;cases h2
   | some a=>rw[e] at h2;cases h2;rfl
  refine aY (r.get ha) fun u hu rv=>?_
  have hp:ps[i]?=some y:=by
   rw[<- S.pre,F6 (by lia)];exact h1
  have ndP:ps.Nodup:=by rw[<- S.pre];exact S.nd.sublist (LB _ _)
  refine⟨u,rv,?_⟩
  rcases S.par y (kM hp) with k | k
  ·exact .inl ⟨k,zP ndP hp hu k⟩
  ·obtain ⟨c,e⟩:=CO (n:=s.heap.objs.size+1) k
   refine .inr ⟨.inl k,c,e,?_⟩
   have q:=x.cell y c e
   rw[zQ ndP hp hu (by show scope.names.lookup y≠_;rw[k];decide)] at q
   exact q
 ·exact e0.fB.fresh (jf (x.above y c (wK h)))
 ·unfold start
  show _=N.length
  rw[bU,bh,F7]
  lia
theorem aa9{CX:Qu}{P:dh}{w:bN}{K:aD}{mg:Str->Option aq}{base:aX}{k:Nat}{f:av}{name qual:Str}{params:Arguments}{body:List bw}{scope:iI}{dV kV doc pm dM ct oc:aq}{an od:Option av}
  {Ez:Array (Option aq)} {N ps:List Str} {sp:Sp} (lk:K.lookup f=some ⟨oc,od,.func (ng name qual params body scope dV kV doc pm an dM ct),Ez⟩) (FP:PySem.W.codeIn K dM qual=true) (S:bV N ps scope)
  (len:∀vs H Q E,sp vs H Q E->vs.length=ps.length)
  (CP:∀(A:bY) (outer:List Env) (s:az) (H:Hp) (vs:List V) (Q:VK) (E:XK),jy k (A.deeper (envOfC qual scope s.heap.objs.size f dM))->sp vs H Q E->
   ∃t,vo (qf CX P w K mg base N qual scope f dM A outer s H E) body t/\t { nx:=fun _ H'=>Q .cY H',rt:=Q } (start N vs) H) :
  jY P w K mg base CX (k+1) f (ng name qual params body scope dV kV doc pm an dM ct) ps sp:=by
 refine⟨len,fun A outer s H args us vs Q E hr e0 hb r Yp=>?_⟩
 have hl:=len _ _ _ _ Yp
 have KX:K.In s.heap:=e0.mod.YV.keeps fun b o e=>(e0.bs b o e).1
 have lim:s.heap.NoLimit:=e0.mod.nolimit.keeps fun b o e=>(e0.bs b o e).1
 have CQ:∀y∈ps.zip us,scope.names.lookup y.1=some .local\/(scope.names.lookup y.1=some .cell/\((cellsFrom (s.heap.objs.size+1) scope.names []).lookup y.1).isSome=true):=fun ab0 hy=>by
  obtain ⟨n,v⟩:=ab0
  rcases S.par n (F5 hy).1 with q | q
  ·exact .inl q
  ·exact .inr ⟨q,Lk _ _ _ (.inl q)⟩
 refine codeAny_call_function hr.depth (KX _ _ lk) rfl S.co S.gen rfl (PySem.W.codeRec_of KX FP) (hb _ _ _ _ ?_)
 refine L6 S.kind CQ fun env he s1 x=>?_
 subst he
 refine⟨lim.keeps x.toInCall.keep,codeAny_func ?_⟩
 refine aY (CP A outer s H vs Q E (hr.deeper _) Yp) fun t ht hq=>?_
 have I:Inv (qf CX P w K mg base N qual scope f dM A outer s H E) [] (start N vs) H s1:=Jl S hr.hd e0 hl r x
 refine iy (ht [] s1 (start N vs) H _ I hq) (fun fl s' hs=>?_) fun e s' hs=>hs
 have fin:∀{dR:St} {H':Hp} {v:V} {u:aq},Inv (qf CX P w K mg base N qual scope f dM A outer s H E) [] dR H' s'->RelV v u->Q v H'->CE outer P w H s Q u s':=
  fun {dR H' v u} J rv q=>⟨v,H',J.os,J.bare,J.base,J.fB,rv,q⟩
 cases fl with
 | ret u=>
  refine V0 hs fun v dR H' J rv q=>?_
  clear hs
  exact fin J rv q
 | next=>
  refine dS hs fun dR H' J q=>?_
  clear hs
  exact fin (v:=V.cY) (u:=dY) J rfl q
 | brk=>
  refine dS hs fun _ _ _ q=>?_
  clear hs
  exact ny q
 | cont=>
  refine dS hs fun _ _ _ q=>?_
  clear hs
  exact ny q
section
variable {X:Cx}{x:Str}{p pos:Pos}{e:bH}{es:List bH}{t:TA}{id:String}{r:List V->Hp->VK->Prop}
def Yq(r:List V->Hp->VK->Prop)(t:TA):TE:=fun σ H Q=>t σ H fun vs H1=>r vs H1 Q
theorem gD(hc:oU X (.builtin id) r)(hg:Gl X x)(hm:X.mg x=none)(hv:lE x=some (.builtin id))(ha:PA X (e::es) t)(hn:x≠ "__name__":=by decide)(EA:(x==("__debug__" : Str))=false:=by decide)
  (he:bL (e::es) X.env=(false,eval e X.env)::bL es X.env:=by rfl) (z5:(backTo pos (bL es X.env)).any (·.1)=false:=by rfl):PE X (.Call (.Name x p) (e::es) [] pos) (Yq r t):=by
 intro pins s σ H Q I h
 refine tY (xG I hg hm hv ?_ hn EA)
 exact Ms (gS (ha pos pins s σ H _ I h) fun us s1 ab1=>ab1.elim fun vs ab2=>ab2.elim fun H1 ab3=>ab3.elim fun I1 ab4=>ab4.elim fun r1 q1=>hc pins s1 σ H1 vs us Q I1 r1 q1) he z5
theorem fS(hc:oU X (.type T) r)(hg:Gl X x)(hm:X.mg x=none)(hv:lE x=some (.type T))(ha:PA X (e::es) t)(hn:x≠ "__name__":=by decide)(EA:(x==("__debug__" : Str))=false:=by decide)
  (he:bL (e::es) X.env=(false,eval e X.env)::bL es X.env:=by rfl) (z5:(backTo pos (bL es X.env)).any (·.1)=false:=by rfl):PE X (.Call (.Name x p) (e::es) [] pos) (Yq r t):=by
 intro pins s σ H Q I h
 refine tY (xG I hg hm hv ?_ hn EA)
 exact Mr (gS (ha pos pins s σ H _ I h) fun us s1 ab5=>ab5.elim fun vs ab6=>ab6.elim fun H1 ab7=>ab7.elim fun I1 ab8=>ab8.elim fun r1 q1=>hc pins s1 σ H1 vs us Q I1 r1 q1) he z5
end
end L2
namespace HT
open PySem PyProof.Rows
def lexLt:List Int->List Int->Bool
 | [],[]=>false
 | [],_::_=>true
 | _::_,[]=>false
 | x::xs,y::ys=>if x=y then lexLt xs ys else decide (x < y)
theorem eT(x y:Int)(xs ys:List Int):lexLt (x::xs) (y::ys)=if x=y then lexLt xs ys else decide (x < y):=rfl
theorem iM:lexLt [] []=false:=rfl
theorem oW(y:Int)(ys:List Int):lexLt [] (y::ys)=true:=rfl
theorem kR(x:Int)(xs:List Int):lexLt (x::xs) []=false:=rfl
theorem Nm(A:bY)(s:az)(a:Int)(t:Tok)(c:Int)(u:Tok)(prog:dh)(w:bN)(E:aq->az->Prop)(Q:aq->az->Prop)(h:Q (.bool (decide (a < c))) s) :
  aB (aC prog w) A (richCompare .Lt (.int a t) (.int c u)) Q E s:=
 (UQ h:aB (aC prog w) A (iz .Lt (.int a t) (.int c u)) Q E s)
section
open PySem.SeqAt
open PySem.AutoSeq1 (wpAny_loadPart')
open PySem.MeetsSeq PySem.MeetsSeq2 PySem.MeetsSeq3
end
section
def zR(n d:Nat):Option Int->Nat
 | none=>d
 | some v=>if v < 0 then (v+(n:Int)).toNat else min v.toNat n
end
end HT
namespace L2
open PySem PySem.Spec PyProof.Rows
abbrev TO:=St->Hp->(Option Int->Hp->Prop)->Prop
def PO(X:Cx)(e:Option bH)(t:TO):Prop:=
 ∀(pins:List (av×Obj)) (s:az) (σ:St) (H:Hp) (Q:Option Int->Hp->Prop),Inv X pins σ H s->t σ H Q->
  aB (aC X.prog X.w) X.A (evalPart e X.env) (fun u s'=>∃o H',Inv X pins σ H' s'/\IsPart u o/\Q o H') X.xe s
def QW:TO:=fun _ H Q=>Q none H
def ab9(t:TE):TO:=fun σ H Q=>t σ H fun x H1=>∃i,x = .int i/\Q (some i) H1
section
variable {X:Cx}{e:bH}{te:TE}{lo hi:Option bH}{tl th:TO}{pos p2:Pos}
theorem QX:PO X none QW:=by
 intro pins s σ H Q I h
 rw[evalPart_none]
 exact aA ⟨none,H,I,.none,h⟩
theorem QY(h:PE X e te):PO X (some e) (ab9 te):=by
 intro pins s σ H Q I hw
 rw[evalPart_some]
 refine gS (h pins s σ H _ I hw) fun u s1 U3=>?_
 refine bF U3 fun x H1 I1 r1 q1=>?_
 clear U3
 refine aY q1 fun i jx q=>?_
 clear q1
 obtain rfl:=jx
 obtain ⟨t,rfl⟩:=r1
 exact⟨some i,H1,I1,.int i t,q⟩
def SlR(X:Cx)(r:V->Option Int->Option Int->Hp->VK->Prop):Prop:=
 ∀(pins:List (av×Obj)) (s:az) (σ:St) (H:Hp) (x:V) (v vl vu:aq) (lo hi:Option Int) (sl:av) (Q:VK),Inv X pins σ H s->RelV x v->s.heap.IsSliceOf sl vl vu .none->IsPart vl lo->IsPart vu hi->r x lo hi H Q->
  ∃T id,typeLookup (.type T) "__getitem__" =pure (some (.builtin id))/\s.TypeIs v T/\aB (aC X.prog X.w) X.A (getItem v (.ref sl)) (EP X pins σ Q) X.xe s
def tSl(r:V->Option Int->Option Int->Hp->VK->Prop)(te:TE)(tl th:TO):TE:=fun σ H Q=>te σ H fun x H1=>tl σ H1 fun l H2=>th σ H2 fun u H3=>r x l u H3 Q
theorem Nn(hr:SlR X r)(he:PE X e te)(hl:PO X lo tl)(hu:PO X hi th):PE X (.Subscript e (.Slice lo hi none p2) pos) (tSl r te tl th):=by
 intro pins s σ H Q I h
 refine Subscript_ (gS (he pins s σ H _ I h) fun v s1 U4=>?_)
 refine bF U4 fun x H1 I1 r1 q1=>?_
 clear U4
 refine wpAny_Slice (gS (hl pins s1 σ H1 _ I1 q1) fun vl s2 ac0=>ac0.elim fun l ac1=>ac1.elim fun H2 ac2=>ac2.elim fun I2 ac3=>ac3.elim fun pl q2=>gS (hu pins s2 σ H2 _ I2 q2) fun vu s3 U5=>?_)
 refine bF U5 fun u H3 I3 pu q3=>?_
 clear U5
 rw[evalPart_none]
 refine aA ?_
 have I4:Inv X pins σ H3 { s3 with heap:=s3.heap.push { cls:=.type "slice",data:=.fields #[vl,vu,.none] } }:=I3.kept (t':=s3.toks) fun b ob q=>bQ _ q
 refine bF (hr pins { s3 with heap:=s3.heap.push { cls:=.type "slice",data:=.fields #[vl,vu,.none] } } σ H3 x v vl vu l u s3.heap.objs.size Q I4 r1 (UU ..) pl pu q3) fun T id hT ht hg=>?_
 show aB (aC X.prog X.w) X.A (subscriptTail e (.Slice lo hi none p2) v (.ref s3.heap.objs.size)) (EP X pins σ Q) X.xe { s3 with heap:=s3.heap.push { cls:=.type "slice",data:=.fields #[vl,vu,.none] } }
 exact tail_any (ops:=[.ref s3.heap.objs.size,v]) ht hT hg (by with_unfolding_all rfl)
def Jm(xs:List V)(lo hi:Option Int):List V:=(xs.drop (HT.zR xs.length 0 lo)).take (HT.zR xs.length xs.length hi - HT.zR xs.length 0 lo)
theorem CS(xs:List V)(lo hi:Option Int):(Jm xs lo hi).length<=xs.length:=by
 unfold Jm
 rw[kL,wW]
 lia
end
def QZ(n:Nat)(i:Int):Option Nat:=if 0<=i then (if i < n then some i.toNat else none) else if -(n:Int)<=i then some (i+n).toNat else none
def EB{α:Type}(xs:List α)(i:Int):Option α:=(QZ xs.length i).bind fun j=>xs[j]?
theorem R4(h:QZ n i=some j):seqIndex? i n=some j/\j < n/\ -(n:Int)<=i/\i < n:=by
 unfold QZ at h
 by_cases h0:0<=i
 ·rw[aH2 h0] at h
  by_cases h1:i < n
  ·rw[aH2 h1] at h
   have e:i.toNat=j:=eY h
   exact⟨by rw[seqIndex_of h0 h1,e],by lia,by lia,h1⟩
  ·rw[aH3 h1] at h;cases h
 ·rw[aH3 h0] at h
  by_cases h1 : -(n:Int)<=i
  ·rw[aH2 h1] at h
   have e:(i+n).toNat=j:=eY h
   exact⟨by rw[seqIndex_neg (by lia) h1,e],by lia,h1,by lia⟩
  ·rw[aH3 h1] at h;cases h
theorem HH(h:EB xs i=some v):∃j,seqIndex? i xs.length=some j/\xs[j]?=some v/\j < xs.length/\ -(xs.length:Int)<=i/\i < xs.length:=by
 unfold EB at h
 cases e:QZ xs.length i with
 | none=>rw[e] at h;cases h
 | some j=>
  rw[e] at h
  refine N6 (R4 e) fun h1 h2 h3 h4=>?_
  exact⟨j,h1,h,h2,h3,h4⟩
def w5(b:bH):Prop:=∀o i,subscripted b false o i=operate [o,i] (getItem o i)
def R5(X:Cx)(r:R2):Prop:=
 ∀(value slice:bH) (pins:List (av×Obj)) (s:az) (σ:St) (H:Hp) (x y:V) (v u:aq) (Q:VK),Inv X pins σ H s->RelV x v->RelV y u->r x y H Q->
  subscripted slice false v u=operate [v,u] (getItem v u)->aB (aC X.prog X.w) X.A (subscriptTail value slice v u) (EP X pins σ Q) X.xe s
def MtR(X:Cx)(id:String)(r:V->List V->Hp->VK->Prop):Prop:=
 ∀(pins:List (av×Obj)) (s:az) (σ:St) (H:Hp) (x:V) (xs:List V) (v:aq) (us:List aq) (Q:VK),Inv X pins σ H s->RelV x v->Vals xs us->r x xs H Q->
  aB (aC X.prog X.w) X.A (call (.builtin id) (v::us)) (EP X pins σ Q) X.xe s
section
variable {X:Cx}
theorem R5.or(h:R5 X r)(h':R5 X r'):R5 X (fun x y H Q=>r x y H Q\/r' x y H Q):=by
 intro value slice pins s σ H x y v u Q I rx ry q hs
 rcases q with q | q
 ·exact h value slice pins s σ H x y v u Q I rx ry q hs
 ·exact h' value slice pins s σ H x y v u Q I rx ry q hs
theorem U6(hr:R5 X r)(ha:PE X a ta)(hb:PE X b tb)(hs:w5 b):PE X (.Subscript a b pos) (Zs r ta tb):=by
 intro pins s σ H Q I h
 exact Subscript_ (Vo ha hb I h fun v u s2 x y H2 I2 rx ry q=>hr a b pins s2 σ H2 x y v u Q I2 rx ry q (hs _ _))
def ac4(K:aD):R2:=fun x y H Q=>∃p xs i v,x = .ref p/\y = .int i/\ko K H p xs/\EB xs i=some v/\Q v H
def ac5(K:aD):R2:=fun x y H Q=>∃p xs i v,x = .ref p/\y = .int i/\mF K H p xs/\EB xs i=some v/\Q v H
theorem R6:R5 X (ac4 X.K):=by
 intro value slice pins s σ H x y v u Q I rx ry h hs
 refine YR h fun p xs i z Np R7 hq he q=>?_
 clear h
 obtain rfl:=Np
 obtain rfl:=R7
 cases rx
 obtain ⟨t,rfl⟩:=ry
 refine cI (I.list hq) fun bA r pl hz=>?_
 refine QF (HH he) fun j h1 h2 h3 h4 h5=>?_
 refine aY (r.get h2) fun w ew QM=>?_
 have hl:=r.length
 have hn:=FZ
 have fin:EP X pins σ Q w s:=⟨z,H,I,QM,q⟩
 by_cases h0:0<=i
 ·have hj:i.toNat=j:=by
   rw[seqIndex_of h0 h5] at h1
   exact eY h1
  exact item_listR pl.isList h0 (by lia) (by rw[hj];simpa using ew) fin hs
 ·have hj:(i+(bA.toArray.size:Int)).toNat=j:=by
   rw[seqIndex_neg (by lia) h4] at h1
   rw[dJ,<- hl]
   exact eY h1
  exact Mt (x:=w) pl.isList.typeIs L7.lookup
   (wpAny_getItem_list_neg (Q:=fun r s'=>r=w/\EP X pins σ Q r s') pl.isList (by lia) (by rw[dJ] <;> lia) (by lia) (by rw[hj];simpa using ew) ⟨rfl,fin⟩) hs
theorem Vv:R5 X (ac5 X.K):=by
 intro value slice pins s σ H x y v u Q I rx ry h hs
 refine YR h fun p xs i z Np R7 hq he q=>?_
 clear h
 obtain rfl:=Np
 obtain rfl:=R7
 cases rx
 obtain ⟨t,rfl⟩:=ry
 refine cI (I.tuple hq) fun bA r pl hz=>?_
 refine QF (HH he) fun j h1 h2 h3 h4 h5=>?_
 refine aY (r.get h2) fun w ew QM=>?_
 have hl:=r.length
 have hn:=FZ
 have fin:EP X pins σ Q w s:=⟨z,H,I,QM,q⟩
 exact Mt (x:=w) pl.typeIs slot_tuple_getitem.lookup
  (getItem_tuple (j:=j) (Q:=fun r s'=>r=w/\EP X pins σ Q r s') pl (by lia) (by lia) (by rw[dJ,<- hl];exact h1) (by simpa using ew) ⟨rfl,fin⟩) hs
theorem Bg(lo hi:Option Int)(n:Nat):(sliceBounds lo hi none n).1=((HT.zR n 0 lo:Nat):Int)/\(sliceBounds lo hi none n).2.1=((HT.zR n n hi:Nat):Int)/\(sliceBounds lo hi none n).2.2=1:=by
 refine⟨?_,?_,rfl⟩
 ·cases lo with
  | none=>simp[sliceBounds,HT.zR]
  | some i=>
   simp only[sliceBounds,HT.zR,Mz,show (1:Int) > 0 by decide,aI1]
   by_cases h:i < 0
   ·simp only[h,aI1] <;> lia
   ·simp only[h,aI0] <;> lia
 ·cases hi with
  | none=>simp[sliceBounds,HT.zR]
  | some i=>
   simp only[sliceBounds,HT.zR,Mz,show (1:Int) > 0 by decide,aI1]
   by_cases h:i < 0
   ·simp only[h,aI1] <;> lia
   ·simp only[h,aI0] <;> lia
theorem z9(bA:List aq)(lo hi:Option Int):slicePick bA.toArray lo hi none=((bA.drop (HT.zR bA.length 0 lo)).take (HT.zR bA.length bA.length hi - HT.zR bA.length 0 lo)).toArray:=by
 refine z7 (Bg lo hi bA.toArray.size) fun h1 h2 h3=>?_
 unfold slicePick
 rw[h1,h2,h3]
 simp only[sliceRange_one,pick_run,dJ] <;> rfl
def aw0(K:aD):V->Option Int->Option Int->Hp->VK->Prop:=fun x lo hi H Q=>∃a xs,x = .ref a/\ko K H a xs/\∀p,H p=none->Q (.ref p) (upd H p (.lst (Jm xs lo hi)))
theorem R8:SlR X (aw0 X.K):=by
 intro pins s σ H x v vl vu lo hi sl Q I rx hs pl pu h
 refine bF h fun a xs bx hx q=>?_
 clear h
 walk_at"$"
 cases rx
 refine cI (I.list hx) fun bA r ht hz=>?_
 have hlen:=r.length
 refine⟨"list",_,L7.lookup,ht.isList.typeIs,?_⟩
 refine wpAny_getItem_list_slice ht.isList hs pl pu .none (by simp) ?_ (by rw[dJ] <;> lia)
 rw[z9,<- hlen]
 refine⟨.ref s.heap.objs.size,_,I.laid (t':=s.toks) (o:=.lst (Jm xs lo hi)) (fun b ob q=>bQ _ q) (bf _) ?_,rfl,q _ (I.fB.fresh (bf _))⟩
 exact⟨cC (CS xs lo hi) hz,_,0,(r.drop (HT.zR xs.length 0 lo)).take (HT.zR xs.length xs.length hi - HT.zR xs.length 0 lo),eN _ rfl⟩
theorem fE:oU X (.builtin "len") (fun xs H Q=>∃p ys,xs=[.ref p]/\(ko X.K H p ys\/mF X.K H p ys)/\Q (.int ys.length) H):=by
 intro pins s σ H xs us Q I r h
 refine bF h fun p ys bx hq q=>?_
 clear h
 walk_at"$"
 refine aY (vals1 r) fun u jx rx=>?_
 obtain rfl:=jx
 cases rx
 have hn:=FZ
 rcases hq with hq | hq
 ·refine cI (I.list hq) fun bA r' pl hz=>?_
  have hlen:=r'.length
  exact Mh pl.isList (by simp only[dJ] <;> lia) ⟨.int ys.length,H,I.tok _,⟨s.toks+1,by rw[dJ,hlen]⟩,q⟩
 ·refine cI (I.tuple hq) fun bA r' pl hz=>?_
  have hlen:=r'.length
  exact len_tuple pl (by simp only[dJ] <;> lia) ⟨.int ys.length,H,I.tok _,⟨s.toks+1,by rw[dJ,hlen]⟩,q⟩
theorem kq:oU X (.type "list") (fun xs H Q=>∃p ys,xs=[.ref p]/\(ko X.K H p ys\/mF X.K H p ys)/\∀l,H l=none->Q (.ref l) (upd H l (.lst ys))):=by
 intro pins s σ H xs us Q I r h
 refine bF h fun p ys bx hq q=>?_
 clear h
 walk_at"$"
 refine aY (vals1 r) fun u jx rx=>?_
 obtain rfl:=jx
 cases rx
 have fin:∀(bA:List aq),Vals ys bA->ys.length<=cK->∀(h':aX) (c':Nat),(∀b o',s.heap.get? b=some o'->h'.get? b=some o')->
   h'.get? s.heap.objs.size=some { cls:=.type "list",dict:=none,data:=.seq bA.toArray c',slots:=#[] }->EP X pins σ Q (.ref s.heap.objs.size) { s with heap:=h' }:=fun bA r' hz h' c' kp e=>
  ⟨.ref s.heap.objs.size,_,I.laid (t':=s.toks) kp (bf _) (show gC X.prog X.w _ h' _ (.lst ys) from ⟨hz,bA,c',r',e⟩),rfl,q _ (I.fB.fresh (bf _))⟩
 rcases hq with hq | hq
 ·refine cI (I.list hq) fun bA r' pl hz=>?_
  have hlen:=r'.length
  obtain ⟨o,ho,hc,n,hd⟩:=pl.isList
  exact call_list_seq p (.inl rfl) ho hc hd (fun h' c' kp e=>fin bA r' hz h' c' kp e) (by simp only[dJ] <;> lia)
 ·refine cI (I.tuple hq) fun bA r' pl hz=>?_
  have hlen:=r'.length
  obtain ⟨o,ho,hc,n,hd⟩:=pl
  exact call_list_seq p (.inr rfl) ho hc hd (fun h' c' kp e=>fin bA r' hz h' c' kp e) (by simp only[dJ] <;> lia)
theorem gE:oU X (.type "tuple") (fun xs H Q=>∃p ys,xs=[.ref p]/\((ko X.K H p ys/\∀l,H l=none->Q (.ref l) (upd H l (.tup ys)))\/(mF X.K H p ys/\Q (.ref p) H))):=by
 intro pins s σ H xs us Q I r h
 obtain ⟨p,ys,rfl,h⟩:=h
 obtain ⟨u,rfl,rx⟩:=vals1 r
 cases rx
 rcases h with ⟨hq,q⟩ | ⟨hq,q⟩
 ·obtain ⟨bA,r',pl,hz⟩:=I.list hq
  have hlen:=r'.length
  refine call_tuple_list pl.isList (fun h' kp=>?_) (by simp only[dJ] <;> lia)
  have I1:Inv X pins σ H { s with heap:=h' }:=I.kept (t':=s.toks) kp
  have I2:Inv X pins σ (upd H h'.objs.size (.tup ys)) { s with heap:=h'.push { cls:=.type "tuple",data:=.seq bA.toArray } }:=
   I1.laid (t':=s.toks) (fun b o e=>bQ _ e) (bf _) (show gC X.prog X.w _ _ _ (.tup ys) from ⟨hz,bA,r',IsTup.new _ _⟩)
  exact⟨.ref h'.objs.size,_,I2,rfl,q _ (I1.fB.fresh (bf _))⟩
 ·obtain ⟨bA,r',pl,hz⟩:=I.tuple hq
  exact call_tuple_same pl ⟨.ref p,H,I,rfl,q⟩
def tyV(K:aD)(T:String)(x:V)(H:Hp):Prop:=match x with
 | .str _=>T = "str"
 | .int _=>T = "int"
 | .ref p=>(T = "list" /\∃xs,ko K H p xs)\/(T = "tuple" /\∃o,K.lookup p=some o/\o.cls = .type "tuple" /\o.dict=none)\/
   (T = "dict" /\((∃Cz,H p=some (.dK Cz))\/∃Cz,H p=some (.dT Cz)))\/(T = "set" /\∃S n,H p=some (.set S n))
 | _=>False
theorem Vx(I:Inv X pins σ H s)(r:RelV x v)(ty:tyV X.K T x H) :
  s.TypeIs v T/\∀a,v = .ref a->∃ob,s.heap.get? a=some ob/\ob.dict=none:=by
 cases x with
 | str z=>
  obtain ⟨t,rfl⟩:=r
  cases (show T = "str" from ty)
  exact⟨typeIs_str s z t,fun _ e=>nomatch e⟩
 | int i=>
  obtain ⟨t,rfl⟩:=r
  cases (show T = "int" from ty)
  exact⟨typeIs_int s i t,fun _ e=>nomatch e⟩
 | ref p=>
  cases r
  rcases ty with ⟨rfl,xs,hq⟩ | ⟨rfl,o,hk,hc,hd⟩ | ⟨rfl,hk⟩ | ⟨rfl,S,n,hk⟩
  ·refine cI (I.list hq) fun bA _ pl _=>?_
   refine⟨pl.isList.typeIs,fun a e=>?_⟩
   cases e
   refine vP pl fun o n e c hd _=>?_
   clear pl
   exact⟨o,e,hd⟩
  ·refine⟨⟨o,I.Jb p o hk,hc⟩,fun a e=>?_⟩
   cases e
   exact⟨o,I.Jb _ o hk,hd⟩
  ·have z:∃o,s.heap.get? p=some o/\o.ExactDict:=by
    rcases hk with ⟨Cz,hk⟩ | ⟨Cz,hk⟩
    ·obtain ⟨_,_,_,_,o,_,_,e,ex,_⟩:=I.fB p _ hk
     exact⟨o,e,ex⟩
    ·obtain ⟨_,_,_,_,o,_,_,e,ex,_⟩:=I.fB p _ hk
     exact⟨o,e,ex⟩
   refine aY z fun o e ex=>?_
   clear z
   refine⟨⟨o,e,ex.1⟩,fun a e2=>?_⟩
   cases e2
   exact⟨o,e,ex.2.1⟩
  ·refine ao9 (I.fB p _ hk) fun o _ _ _ e ex _=>?_
   refine⟨⟨o,e,ex.1⟩,fun a e2=>?_⟩
   cases e2
   exact⟨o,e,ex.2.1⟩
 | _=>exact ny ty
def tBM(K:aD)(T:String)(r:V->List V->Hp->VK->Prop)(to:TE)(t:TA):TE:=fun σ H Q=>to σ H fun x H1=>tyV K T x H1/\t σ H1 fun xs H2=>r x xs H2 Q
variable {o e:bH}{es:List bH}{to:TE}{t:TA}{name:Str}{apos iN:Pos}{T id:String}{r:V->List V->Hp->VK->Prop}
theorem U7(pa:PlainAttrs T)(slot:Slot T name id)(hty:typeOf (.builtin id)=pure (.type "method_descriptor"))(hm:MtR X id r)(ho:PE X o to)(ha:PA X (e::es) t)
  (su:nc o name X.env (eval o X.env)=eval o X.env:=by rfl)
  (Nq:((backTo iN (bL (e::es) X.env)).all (fun x=>!x.1)&&(backToKw iN (keywordEach [] X.env)).all (fun x=>x.1.isSome)
   && decide ((e::es).length+([]:List Keyword).length+(if ([]:List Keyword).isEmpty then 0 else 1) < 30))=true:=by rfl)
  (sA:(apos.endLine==iN.line)=true:=by rfl) (hs:bL (e::es) X.env=(false,eval e X.env)::bL es X.env:=by rfl) (rf:(backTo iN (bL es X.env)).any (·.1)=false:=by rfl) :
  PE X (.Call (.Attribute o name apos) (e::es) [] iN) (tBM X.K T r to t):=by
 intro pins s σ H Q I h
 refine L8 su Nq sA rfl (gS (ho pins s σ H _ I h) fun v s1 U8=>?_)
 refine vP U8 fun x H1 I1 r1 ty q1=>?_
 clear U8
 obtain ⟨h1,h2⟩:=Vx I1 r1 ty
 refine⟨T,id,pa,slot,hty,h1,h2,?_⟩
 have hA:=ha iN pins s1 σ H1 _ I1 q1
 rw[hs] at hA ⊢
 refine Fq (by show (false || (backTo iN (bL es X.env)).any (·.1))=false;rw[rf] <;> rfl) (Ft ?_)
 exact gS hA fun us s2 ac6=>ac6.elim fun vs ac7=>ac7.elim fun H2 ac8=>ac8.elim fun I2 ac9=>ac9.elim fun r2 q2=>hm pins s2 σ H2 x vs v us Q I2 r1 r2 q2
end
def MtM(X:Cx)(id:String)(r:V->List V->Hp->VK->Prop):Prop:=
 ∀(pins:List (av×Obj)) (s:az) (σ:St) (H:Hp) (x:V) (xs:List V) (v:aq) (us:List aq) (Q:VK),Inv X pins σ H s->RelV x v->Vals xs us->r x xs H Q->
  aB (aC X.prog X.w) X.A (call (.builtin id) (v::us)) (EP X pins σ Q) X.xe s
theorem Vals.inv(h:Vals (x::xs) us):∃u vs,us=u::vs/\RelV x u/\Vals xs vs:=by
 cases h with
 | cons r t=>exact⟨_,_,rfl,r,t⟩
theorem Vals.zero(h:Vals [] us):us=[]:=by
 cases h
 rfl
theorem Vals.one(h:Vals [x] us):∃u,us=[u]/\RelV x u:=by
 refine bF h.inv fun u vs bx r t=>?_
 walk_at"$"
 obtain rfl:=t.zero
 exact⟨u,rfl,r⟩
theorem Vals.two(h:Vals [x,y] us):∃u v,us=[u,v]/\RelV x u/\RelV y v:=by
 refine bF h.inv fun u vs bx r t=>?_
 walk_at"$"
 refine aY t.one fun v jx q=>?_
 obtain rfl:=jx
 exact⟨u,v,rfl,r,q⟩
section
theorem Inv.aw1{bA its':List aq}{f:Array aq->Array aq}(I:Inv X pins σ H s)(hH:H l=some (.lst xs))
  (e:s.heap.get? l=some { cls:=.type "list",data:=.seq bA.toArray n }) (hf:f bA.toArray=its'.toArray) (hv:Vals ys its') (hz:ys.length<=cK) :
  Inv X pins σ (upd H l (.lst ys)) { s with heap:=s.heap.update l (cX f),toks:=t' }:=by
 have q:=PySem.IsL.update e f
 rw[hf] at q
 refine I.write (x:=l) (e:=l) (by rw[hH];exact trivial) (.inl rfl) (fun b' u hb hu=>(EU s.heap (cX f) (eX hb)).trans hu) ⟨_,q⟩ ?_
 exact⟨hz,its',_,hv,q⟩
theorem Inv.aw2(I:Inv X pins σ H s)(hv:Vals ys bA)(hz:ys.length<=cK) :
  Inv X pins σ (upd H s.heap.objs.size (.lst ys)) { s with heap:=s.heap.push { cls:=.type "list",data:=.seq bA.toArray },toks:=t' }:=
 I.laid (fun _ _ q=>bQ _ q) (bf _) ⟨hz,bA,0,hv,eN _ rfl⟩
theorem Inv.fresh(I:Inv X pins σ H s):H s.heap.objs.size=none:=I.fB.fresh (bf _)
theorem Inv.aw3(I:Inv X pins σ H s)(hH:H l=some (.lst xs)):xs.length<=cK/\∃(bA:List aq) (n:Nat),Vals xs bA/\xs.length=bA.length/\s.heap.get? l=some { cls:=.type "list",data:=.seq bA.toArray n }:=by
 obtain ⟨z,bA,n,r,e⟩:=I.fB l _ hH
 exact⟨z,bA,n,r,r.length,e⟩
end
section
def HJ:V->List V->Hp->VK->Prop:=fun x vs H Q=>∃l xs y,x = .ref l/\vs=[y]/\H l=some (.lst xs)/\xs.length < cK/\Q .cY (upd H l (.lst (xs++[y])))
theorem uG:MtM X "list.append" HJ:=by
 intro pins s σ H x vs v us Q I rx rv h
 refine Cy h fun l xs y sf Np hH hz q=>?_
 clear h
 obtain rfl:=sf
 obtain rfl:=Np
 cases rx
 refine aY rv.one fun u jx ru=>?_
 obtain rfl:=jx
 obtain ⟨z,bA,n,r,hl,e⟩:=I.aw3 hH
 refine call_meets F.slot_list_append ⟨_,e,rfl⟩ F.entry_list_append (F.args_list_append_2 _ _) (PySem.list_append l bA.toArray n u (by rw[dJ];lia)) ⟨e,?_⟩
 refine⟨.cY,_,I.aw1 (its':=bA++[u]) hH e (by simp) (r.append (.cons ru .nil)) ?_,rfl,q⟩
 rw[bU,LC]
 lia
end
end L2
namespace Att
open PySem PySem.W PySem.Calls PyProof.Rows
theorem vR:∀(ns:List Int) (vs:List aq),WellAll P h vs (ns.map WData.int)->IntsAre vs ns:=by
 intro ns
 induction ns with
 | nil=>
  intro vs w
  rw[lU] at w
  cases w
  exact .nil
 | cons n ns ih=>
  intro vs w
  rw[aZ] at w
  cases w with
  | cons a b=>
   cases a
   exact .cons _ _ (ih _ b)
theorem Jo{l:OpenLaw}(hn:l.most=some n)
  (R9:l.row.toRowW.claim.pre args=true) (hwl:WellAll P h vals args) :
  ∃a vs ns,vals=[eW a]/\args=[WData.list (ns.map WData.int)]/\h.get? a=some { cls:=.type "list",data:=.seq vs.toArray }/\IntsAre vs ns/\ns.length<=n:=by
 have hsh:WShape.hasAll [] args [.list .int]=true:=(pre_splitW R9).1
 have hc:l.pre.holds [] { args:=args }=true:=(pre_splitW R9).2
 refine bF (hasAllW_cons hsh) fun d r bx h1 h2=>?_
 walk_at"$"
 obtain rfl:=hasAllW_nil h2
 refine aY (hasW_list h1) fun xs jx h3=>?_
 obtain rfl:=jx
 obtain ⟨ns,rfl⟩:=items_int h3
 have hlen:ns.length<=n:=by
  unfold OpenLaw.pre at hc
  have h4:(WTm.not (.lt (.lit (.int (n:Int))) (.len (.arg 0)))).holds [] { args:=[.list (ns.map .int)] }=true:=by
   have h4:=(holds_andW hc).1
   rw[hn] at h4
   exact h4
  have h5:=condW_of h4 (w_not (w_lt w_lit (w_len_list (w_arg rfl))))
  rw[bh] at h5
  refine qO fun q=>?_
  have q':(n:Int) < ((ns.length:Nat):Int):=by lia
  first
   | (rw[aH4 q'] at h5;exact aI4 h5 (by decide))
   | (simp at h5;lia)
 cases hwl with
 | cons w1 w2=>
  cases w2
  cases w1 with
  | list ho oX=>exact⟨_,_,ns,rfl,rfl,ho,vR ns _ oX,hlen⟩
theorem Jp(l:OpenLaw)(args:List WData):l.row.toRowW.claim.post args (.bool true) args=true:=
 postW_of (r:=l.row.toRowW) (X:=(true==true))
  (show WShape.has [] (.bool true) .bool=true by first | rfl | decide | simp[WShape.has,WShape.arms,WShape.armsAll])
  (show (WTm.eq .res (.lit (.bool true))).value [] { args:=args,res:=some (.bool true),after:=args }=some (.bool (true==true)) from w_eq_bool (w_res rfl) w_lit) rfl
theorem CT{l:OpenLaw}{YP:bN->aX->Prop}{d:DefRec}
  (hn:l.most=some n) (Vy:d.params.defaults=[])
  (call:∀(w:bN) (ji kQ:az) (mg mb:Str->Option aq) (fa:av) (o:Obj) (pm cd doc:aq) (a:av) (vs:List aq) (ns:List Int),
   Ground q loose [] XP w ji mg mb kQ.heap->YP w kQ.heap->
   kQ.heap.get? fa=some o->o.data = .func (docDef d.name d.params d.body d.scope pm cd doc)->kQ.heap.CodeRec cd d.name->mg d.name=some (.ref fa)->
   kQ.heap.get? a=some { cls:=.type "list",data:=.seq vs.toArray }->IntsAre vs ns->ns.length<=n->kQ.gens=#[]->
   codeAny (aC l.prog w) callerA (.call (.ref fa) ⟨[.ref a],[]⟩) (fun r s'=>r = .ok (.ret (.bool true))/\OldK kQ.heap s'.heap/\s'.os=kQ.os/\AllBare s'.gens) kQ) :
  WalkO q loose XP YP l.row.toRowW d [] (fun f vs=>PySem.call f vs):=by
 intro w ji kQ mg mb G Y fa o pm cd doc dV kV ho hd FP hD hmg hg args vals as R9 aF6 hrd hwl hlo
 obtain rfl:dV = .none:=Dflts.none hD Vy
 obtain rfl:kV = .none:=Dflts.noKw hD
 refine Cy (Jo hn R9 hwl) fun a vs ns sf Np Vz hints hlen=>?_
 obtain rfl:=sf
 obtain rfl:=Np
 refine enter_call (tZ (call w ji kQ mg mb fa o pm cd doc a vs ns G Y ho (fd_plain hd) FP hmg Vz hints hlen hg) fun r s' hq=>?_)
 refine N6 hq fun zo0 h2 h3 h4=>?_
 clear hq
 obtain rfl:=zo0
 exact⟨.inl ⟨.bool true,.bool true,[],rfl,fun _=>rfl,.bool true,Jp l _,fun _=>⟨List.Pairwise.nil,fun _ hm=>(nomatch hm)⟩⟩,h2,h3,h4⟩
end Att
namespace L2
open PySem PySem.Spec PyProof.Rows
theorem zS:∀{vs:List aq} {ns:List Int},IntsAre vs ns->Vals (ns.map V.int) vs
 | _,_,.nil=>.nil
 | _,_,.cons n t h=>.cons ⟨t,rfl⟩ (zS h)
def inClass(s:bw)(j:Nat):bw:=match s with
 | .ClassDef _ _ _ body _ _ _ _ _ _ _=>body.getD j (.Pass ⟨0,0,0,0⟩)
 | _=>.Pass ⟨0,0,0,0⟩
def jm(s:bw):Arguments:=match s with
 | .FunctionDef _ a _ _ _ _ _ _ _ _=>a
 | _=>{ posonlyargs:=[],args:=[],vararg:=none,kwonlyargs:=[],kw_defaults:=[],kwarg:=none,defaults:=[] }
def fF(s:bw):List bw:=match s with
 | .FunctionDef _ _ b _ _ _ _ _ _ _=>b
 | _=>[]
def aQ(s:bw):iI:=match s with
 | .FunctionDef _ _ _ _ _ _ sc _ _ _=>sc
 | _=>{ kind:=.function,names:=[],isGenerator:=false,isCoroutine:=false }
structure KH(K:aD)(x qual:Str)(st:bw)(f:av)(fd:gH):Prop where
 ex:∃(oc:aq) (od:Option av) (kV doc pm:aq) (an:Option av) (dM ct:aq) (Ez:Array (Option aq)),
  fd=ng x qual (jm st) (fF st) (aQ st) .none kV doc pm an dM ct/\K.lookup f=some ⟨oc,od,.func fd,Ez⟩/\PySem.W.codeIn K dM qual=true
 kp:u7 K (.ref f)=true
section
variable {K:aD}
theorem KH.binds{x qual:Str}{st:bw}{f:av}{fd:gH}{ps:List Str}(F:KH K x qual st f fd)
  (h:∀(kV doc pm:aq) (an:Option av) (dM ct:aq) (us:List aq),us.length=ps.length->bindArgs (ng x qual (jm st) (fF st) (aQ st) .none kV doc pm an dM ct) ⟨us,[]⟩=pure (ps.zip us)):Binds K fd ps []:=by
 refine V1 F.ex fun oc od kV doc pm an dM ct Ez zo9 lk FP=>?_
 obtain rfl:=zo9
 exact .all (h kV doc pm an dM ct)
theorem Bh{x qual:Str}{st:bw}{f:av}{oc:aq}{od an:Option av}{Ez:Array (Option aq)}{kV doc pm dM ct:aq}(l:K.lookup f=some ⟨oc,od,.func (ng x qual (jm st) (fF st) (aQ st) .none kV doc pm an dM ct),Ez⟩)
  (c:PySem.W.codeIn K dM qual=true) (k:u7 K (.ref f)=true):KH K x qual st f (ng x qual (jm st) (fF st) (aQ st) .none kV doc pm an dM ct):=⟨⟨oc,od,kV,doc,pm,an,dM,ct,Ez,rfl,l,c⟩,k⟩
end
section
theorem pv(i:Nat)(hN:X.N[i]?=some x:=by rfl)(hv:Vis X.env.scope x:=by first | exact cy rfl | exact f9 (cy rfl) | exact f9 (f9 rfl))(hd:(x==("__debug__" : Str))=false:=by decide)
  (FP:(x==("__classdict__" : Str))=false:=by decide):PE X (.Name x pos) (uC i):=V8 hN hv hd FP
end
def aH(H H':Hp):Prop:=∀b o,H b=some o->H' b=some o
theorem aH.refl(H:Hp):aH H H:=fun _ _ h=>h
theorem aH.trans(a:aH H H1)(b:aH H1 H2):aH H H2:=fun c o h=>b c o (a c o h)
theorem aH.free(e:aH H H')(h:H' l=Option.none):H l=Option.none:=by
 cases q:H l with
 | none=>rfl
 | some o=>
  rw[e l o q] at h
  cases h
theorem aH.seq{K:aD}{H H':Hp}{a:av}{xs:List V}(e:aH H H')(h:ko K H a xs):ko K H' a xs:=by
 rcases h with (h | ⟨o,h⟩) | h
 ·exact .inl (.inl (e _ _ h))
 ·exact .inl (.inr ⟨o,e _ _ h⟩)
 ·exact .inr h
end L2
end YS
section aw4
namespace Dm
open PySem PySem.Spec PyProof.Rows L2
def XD(dx:Option av)(a:av)(h:aX):Prop:=∀d,dx=some d->∃o,h.get? a=some o/\o.dict=some d
theorem XD.no:XD none a h:=fun _ z=>nomatch z
theorem XD.keeps{h':aX}(x:XD dx a h)(k:∀o,h.get? a=some o->∃o',h'.get? a=some o'/\o'.dict=o.dict):XD dx a h':=fun d z=>by
 obtain ⟨o,e,ed⟩:=x d z
 obtain ⟨o',e',ed'⟩:=k o e
 exact⟨o',e',ed'.trans ed⟩
def G7(f:Obj->Obj):Prop:=∀o,(f o).dict=o.dict/\(o.isFreed=false->(f o).isFreed=false)
inductive KD{α:Type}:Sem α->Prop
 | ret (a:α):KD (.pure a)
 | exc (e:aq):KD (.raise e)
 | no (w:String):KD (.unsupported w)
 | load {a:av} {pt:Option aq} {k:Obj->Sem α} (h:∀o,KD (k o)):KD (.load a pt k)
 | upd {a:av} {pt:Option aq} {f:Obj->Obj} {k:Unit->Sem α} (hf:G7 f) (h:KD (k ())):KD (.update a pt f k)
 | alloc {o:Obj} {k:av->Sem α} (h:∀a,KD (k a)):KD (.alloc o k)
 | stack {k:List (Code×Pos)->Sem α} (h:∀l,KD (k l)):KD (.stack k)
theorem KD.bind{f:α->Sem β}(hm:KD m)(hf:∀a,KD (f a)):KD (m>>=f):=by
 show KD (Sem.bind m f)
 induction hm with
 | ret a=>exact hf a
 | exc e=>exact .exc e
 | no w=>exact .no w
 | load _ ih=>exact .load ih
 | upd z _ ih=>exact .upd z ih
 | alloc _ ih=>exact .alloc ih
 | stack _ ih=>exact .stack ih
theorem XD.upd(x:XD dx a h)(hf:G7 f):XD dx a (h.update b f):=x.keeps fun o e=>by
 by_cases z:b=a
 ·subst z
  exact⟨f o,nh f e ((hf o).2 (Heap.get?_some_iff.mp e).2),(hf o).1⟩
 ·exact⟨o,(EU h f z).trans e,rfl⟩
theorem ad0(k:KD t) :
  ∀{p:Pos} {s:az},Sem.wp M Γ t Q E p s->XD dx a s.heap->Sem.wp M Γ t (fun x p s=>Q x p s/\XD dx a s.heap) (fun x p s=>E x p s/\XD dx a s.heap) p s:=by
 induction k with
 | ret x=>exact fun h z=>⟨h,z⟩
 | exc e=>exact fun h z=>⟨h,z⟩
 | no w=>exact fun h z=>h
 | load _ ih=>
  intro p s h z
  rw[Sem.wp_load] at h ⊢
  obtain ⟨o,e,h⟩:=h
  exact⟨o,e,ih o h z⟩
 | upd hf _ ih=>
  intro p s h z
  rw[Sem.wp_update] at h ⊢
  exact⟨h.1,ih h.2 (z.upd hf)⟩
 | alloc _ ih=>
  intro p s h z
  rw[Sem.wp_alloc] at h ⊢
  exact ih _ h (z.keeps fun o e=>⟨o,bQ _ e,rfl⟩)
 | stack _ ih=>
  intro p s h z
  exact ih _ h z
theorem CU(k:KD t)(h:aB M A t Q E s)(z:XD dx a s.heap) :
  aB M A t (fun x s'=>Q x s'/\XD dx a s'.heap) (fun x s'=>E x s'/\XD dx a s'.heap) s:=fun Γ p CV=>ad0 k (h Γ p CV) z
theorem Bj(a:av):KD (load a):=.load fun o=>.ret o
theorem xN:KD stack:=.stack fun l=>.ret l
theorem sC(f:Array aq->Array aq):G7 (Obj.mapFields f):=fun o=>by
 obtain ⟨c,d,dt,sl⟩:=o
 cases dt <;> exact⟨rfl,fun h=>h⟩
theorem CW(v:aq):KD (fieldsOf v):=by
 unfold fieldsOf
 cases v with
 | ref a=>
  refine .bind (Bj a) fun o=>?_
  split
  ·exact .ret _
  ·exact .no _
 | _=>exact .no _
theorem sD(v:aq)(i:Nat):KD (field v i):=by
 unfold field
 refine .bind (CW v) fun vs=>?_
 split
 ·exact .ret _
 ·exact .no _
theorem xO(a:av)(i:Nat)(x:aq):KD (updateField a i x):=by
 unfold updateField
 refine .bind (Bj a) fun o=>?_
 split
 ·split
  ·exact .upd (sC _) (.ret _)
  ·exact .no _
 ·exact .no _
theorem oY(v:aq)(i:Nat)(x:aq):KD (setField v i x):=by
 unfold setField
 cases v with
 | ref a=>exact xO a i x
 | _=>exact .no _
theorem Bk(e:aq)(f:Option av):KD (setFlight e f):=by
 unfold setFlight
 refine .bind (sD e 1) fun tb=>?_
 split
 ·exact oY _ _ _
 ·exact .ret _
theorem Jq(env:Env)(outer:List Env):KD (behindIsImport env outer):=by
 unfold behindIsImport
 split
 ·exact .ret _
 ·split
  ·exact .ret _
  ·exact .bind (sD _ _) fun _=>.ret _
theorem Ra(env:Env)(i:Bool)(outer:List Env):KD (keptBack env i outer):=by
 unfold keptBack
 split
 ·split
  ·exact .ret _
  ·unfold underTheClaimsCaller
   exact .bind (.bind xN fun _=>.ret _) fun _=>.ret _
 ·exact .ret _
theorem Nr:∀l:List Env,KD (readyFrames l):=fun l=>by
 induction l with
 | nil=>exact .ret _
 | cons env outer ih=>
  unfold readyFrames
  split
  ·refine .bind (Bj _) fun o=>?_
   split
   ·exact .ret _
   ·refine .bind (Jq env outer) fun i=>.bind (Ra env i outer) fun b=>.bind (.upd (fun o=>⟨rfl,fun h=>by obtain ⟨_,_,d,_⟩:=o;cases d <;> exact h⟩) (.ret _)) fun _=>ih
  ·exact .no _
theorem G8(env:Env):KD (PySem.frameOf env):=by
 unfold PySem.frameOf frameEnvs
 refine .bind (.bind xN fun _=>.ret _) fun l=>.bind ?_ fun o=>?_
 ·unfold frameObject
  split
  ·exact .ret _
  ·exact .bind (Nr _) fun _=>.ret _
 ·split
  ·exact .ret _
  ·exact .no _
theorem Nt(f:av)(b:Bool):KD (entryPlaceOf f b):=by
 unfold entryPlaceOf
 refine .bind xN fun l=>?_
 split
 ·exact .ret _
 ·exact .ret _
theorem Nu(head:aq)(fr:aq)(l f x:aq)(pl:List aq):KD (EntryCells.newEntry head fr l f x pl):=by
 have fin:∀d,KD (newObjAsIs (.type "traceback") d):=fun d=>by
  unfold newObjAsIs
  exact .bind (.alloc fun a=>.ret a) fun _=>.ret _
 unfold EntryCells.newEntry newFields
 generalize ([head,fr,l,f,x]++if pl.isEmpty=true then lT 6 dY else pl).toArray=vs
 unfold newObj
 dsimp only
 split
 ·exact .bind (.no _) fun _=>fin _
 ·exact fin _
theorem Rb(e:aq)(env:Env):KD (noteFrame e env):=by
 unfold noteFrame
 split
 ·refine .bind (sD e 1) fun head=>?_
  have fin:=fun (f:av)=>KD.bind (G8 env) fun a=>KD.bind (Nt f (head != .none)) fun pl=>KD.bind (Nu head a .none (rawInt f) .none pl) fun b=>oY e 1 b
  dsimp only
  split
  ·refine .bind (sD head 3) fun x=>?_
   split
   ·exact .ret _
   ·exact .bind (oY _ _ _) fun _=>fin _
  ·exact fin _
 ·exact .no _
def Cov(l:List Env)(B h:aX):Prop:=∀b o,h.get? b=some o->b∉xD l->B.get? b=some o
def pU(P:dh)(w:bN):Qu:=fun outer H s E e s'=>∃a cls dx a0 H' h B,e = .ref a/\Heap.FlyingW B outer a cls a0 s'.heap/\XD dx a s'.heap/\Cov outer B h/\h.UpToSlots s'.heap/\E cls dx H'/\s'.os=s.os/\AllBare s'.gens/\
 Un (xD outer) [] H H' s.heap h/\rQ P w H' h
structure Made(h h':aX)(a:av)(cls:aq):Prop where
 keeps:∀b o,h.get? b=some o->h'.get? b=some o
 new:h.get? a=none
 there:∃o a0,h'.get? a=some o/\o.cls=cls/\o.data = .fields #[a0,.none,.none,.none,.bool false,.none]
theorem Made.of(x:Heap.MadeExcOf h h' a cls vs):Made h h' a cls:=by
 refine cI x.there fun t he _ _=>?_
 exact⟨x.keeps,x.new,_,_,he,rfl,rfl⟩
def m8(X:Cx)(E:L2.St->XK)(e:aq)(s':az):Prop:=∃a cls dx σ H h,e = .ref a/\L2.Inv X [] σ H { s' with heap:=h }/\E σ cls dx H/\XD dx a s'.heap/\
 (Made h s'.heap a cls\/(∃a0 B,Cov X.stack B h/\h.UpToSlots s'.heap/\(Heap.FlyingW B X.stack a cls a0 s'.heap\/Heap.HeldW B X.stack a cls a0 X.env.locals s'.heap)))
theorem xP(I:L2.Inv X pins σ H s):L2.Inv X [] σ H s:=I.rX fun p hp=>by cases hp
section
variable {X:Cx}
theorem Rc(I:L2.Inv X pins σ H s)(hx:Made s.heap h' a cls)(q:E σ cls none H):m8 X E (.ref a) { s with heap:=h' }:=
 ⟨a,cls,none,σ,H,s.heap,rfl,xP I,q,.no,.inl hx⟩
theorem CY(I:L2.Inv X pins σ H s)(c:pU X.prog X.w X.stack H s (E σ) e s'):m8 X E e s':=by
 obtain ⟨a,cls,dx,a0,H',h,B,rfl,f,xd,cv,up,q,os,bare,un,fB⟩:=c
 have I':L2.Inv X pins σ H' { s' with heap:=h }:=Inv.CI I (s':={ s' with heap:=h }) os un fB bare (fun b z=>aI4 z (by simp))
 exact⟨a,cls,dx,σ,H',h,rfl,xP I',q,xd,.inr ⟨a0,B,cv,up,.inl f⟩⟩
theorem Rf{h:aX}(f:h.FunFrames base l):∃B:aX,Cov l B h/\B.StaysIn h/\h.FunFrames B l/\∀b,h.get? b=none->B.get? b=none:=by
 have st:(zG h (xD l)).StaysIn h:=fun b o e=>Hx _ e
 refine⟨zG h (xD l),fun b o e n=>Lj _ e n,st,PySem.W.funFrames_hide f fun env he a ha=>Cw.mpr ⟨env,he,ha⟩,fun b hb=>?_⟩
 cases hq:(zG h (xD l)).get? b with
 | none=>rfl
 | some o'=>have:=st b o' hq;rw[hb] at this;cases this
structure VA(X:Cx):Prop where
 N8:X.stack=X.env::X.outer
 fr:X.env.frame=some X.env.locals
theorem CZ{Q:Unit->az->Prop}(O:VA X)(f:m8 X E e s')
  (hq:∀(a:av) cls dx a0 σ H h B h',e = .ref a->L2.Inv X [] σ H { s' with heap:=h }->E σ cls dx H->XD dx a h'->Cov X.stack B h->h.UpToSlots h'->Heap.HeldW B X.stack a cls a0 X.env.locals h'->Q () { s' with heap:=h' }) :
  aB (aC X.prog X.w) X.A (noteFrame e X.env) Q E' s':=by
 obtain ⟨a,cls,dx,σ,H,h,rfl,I,q,xd,f⟩:=f
 have fr:X.A.frames=some (X.env::X.outer):=by rw[I.ok.frames,O.N8]
 refine iy (CU (Q:=fun u s1=>XD dx a s1.heap->Q u s1) (E:=E') (Rb _ _) ?_ xd) (fun u s1 h=>h.1 h.2) fun _ _ h=>h.1
 rcases f with hx | ⟨a0,B,cv,up,f | f⟩
 ·obtain ⟨oe,a0,he,zT,hdt⟩:=hx.there
  subst zT
  obtain ⟨B,b1,b2,b3,b4⟩:=Rf I.stack
  have ff:s'.heap.FunFrames B X.stack:=b3.of_keeps fun b o hb _=>⟨o,hx.keeps b o hb,rfl⟩
  rw[O.N8] at ff
  unfold noteFrame
  simp only[O.fr]
  refine ah (qJ he (vs:=#[a0,.none,.none,.none,.bool false,.none]) hdt (x:=.none) rfl ?_)
  rw[aH3 (by decide)]
  refine wpAny_entryW (a0:=a0) fr ff O.fr he (fun b o hb=>hx.keeps b o (b2 b o hb)) (b4 a hx.new) hdt (by simp) rfl fun h' hN=>?_
  obtain ⟨k1,k2,k3,k4⟩:=hN
  refine fun xd=>hq a _ dx a0 σ H h B h' rfl I q xd b1 ((UW hx.keeps).trans k4) ⟨k1,b4 a hx.new,?_,k3⟩
  rw[O.N8];exact k2
 ·rw[O.N8] at f
  refine wpAny_looks_onW fr O.fr f fun h' hh us=>?_
  exact fun xd=>hq a cls dx a0 σ H h B h' rfl I q xd cv (up.trans us) (by rw[O.N8];exact hh)
 ·refine wpAny_noteFrame_againW O.fr f.2.2.2 ?_
  exact fun xd=>hq a cls dx a0 σ H h B s'.heap rfl I q xd cv up f
theorem cG(O:VA X):PassesOwn (aC X.prog X.w) X.A X.env (m8 X E):=by
 intro e s' f
 refine CZ O f fun a cls dx a0 σ H h B h' ea I q xd cv up hd=>?_
 subst ea
 unfold cameBackBy
 obtain ⟨k1,k2,k3,oe,vs,T,oT,ts,he,hc,Qv,h1,hnT,hTe,hT,hdT,h3⟩:=hd
 refine ah (qJ he Qv h1 ?_)
 rw[aH3 (by simp)]
 unfold setFlight
 refine ah (qJ he Qv h1 ?_)
 rw[aH2 (show (eW T !=dY)=true from by simp)]
 have h3s:3 < ts.size:=(oN.mp h3).1
 rw[O.fr]
 refine qK hT hdT h3s ?_
 have other:∀b,b≠T->(h'.update T (Obj.mapFields (·.setIfInBounds 3 (rawInt X.env.locals)))).get? b=h'.get? b:=fun b hb=>EU _ _ (eX hb)
 have U9:∀b o,h'.get? b=some o->(∀vs,o.data≠ .fields vs)->b≠T:=fun b o hb hnf z=>by
  rw[z,hT] at hb;injection hb with hb;subst hb;exact hnf ts hdT
 refine⟨a,cls,dx,σ,H,h,rfl,I,q,xd.upd (sC _),.inr ⟨a0,B,cv,fun b o hb hn=>?_,.inr ⟨fun b o hb=>?_,k2,k3.of_keeps fun b o hb hnf=>⟨o,(other b (U9 b o hb hnf)).trans hb,rfl⟩,?_⟩⟩⟩
 ·obtain ⟨sl,e1⟩:=up b o hb hn
  exact⟨sl,(other b (U9 b _ e1 fun vs z=>hn vs z)).trans e1⟩
 ·refine(other b fun z=>?_).trans (k1 b o hb)
  rw[z,hnT] at hb;cases hb
 ·refine⟨oe,vs,T,_,_,(other a (eX hTe)).trans he,hc,Qv,h1,hnT,hTe,nh _ hT (B6 (uz hdT _)),uz hdT _,?_⟩
  simp[h3s]
end
section
variable {P:dh}{w:bN}{K:aD}{mg:Str->Option aq}{base:aX}{N:List Str}{qual:Str}{scope:iI}{f:av}{cd:aq}{A:bY}{outer:List Env}{s:az}{H:Hp}{E:XK}
theorem Jr(fl:m8 (qf (pU P w) P w K mg base N qual scope f cd A outer s H E) (fun _=>E) e s'):(qf (pU P w) P w K mg base N qual scope f cd A outer s H E).xe e s':=by
 let X:=qf (pU P w) P w K mg base N qual scope f cd A outer s H E
 have O:VA X:=⟨rfl,rfl⟩
 show aB (aC P w) X.A (leaving X.env e) (fun _ KG=>pU P w outer H s E e KG) (fun e' KG=>pU P w outer H s E e' KG) s'
 unfold leaving
 refine ah (CZ O fl fun a cls dx a0 σ H' h B h' ea I q xd cv up hd=>?_)
 subst ea
 refine iy (CU (Q:=fun _ s1=>XD dx a s1.heap->pU P w outer H s E (.ref a) s1) (E:=fun e' s1=>pU P w outer H s E e' s1) (Bk _ _) ?_ xd) (fun u s1 h=>h.1 h.2) fun _ _ h=>h.1
 refine wpAny_landsW hd fun h2 fl2 us xd=>?_
 refine N6 fl2 fun k1 k2 bx k4=>?_
 clear fl2
 obtain ⟨_,⟨L',o',e1,e2,e3,e4⟩,k3⟩:=bx
 obtain rfl:X.env.locals=L':=eY e1
 have hL:H' X.env.locals=none:=I.free
 have fr:∀b,b∈xD X.stack↔b=X.env.locals\/b∈xD outer:=fun b=>by
  show b∈xD (X.env::outer)↔_
  unfold xD
  rw[LD (show X.env.frame=some X.env.locals from rfl),bP]
 have get:∀b o,b≠X.env.locals->h.get? b=some o->(zG h [X.env.locals]).get? b=some o:=fun b o n e=>Lj _ e (by simpa using n)
 refine⟨a,cls,dx,a0,H',zG h [X.env.locals],B,rfl,⟨k1,k2,k3,k4⟩,xd,fun b o e nb=>?_,fun b o e hn=>?_,q,I.os,I.bare,?_,?_⟩
 ·have nl:b≠X.env.locals:=fun z=>by
   have z':=TQ [X.env.locals] (h:=h) (b:=b) (by simp[z])
   rw[e] at z'
   cases z'
  exact cv b o (Hx _ e) fun z=>by
   rcases (fr b).mp z with z | z
   ·exact nl z
   ·exact nb z
 ·exact(up.trans us) b o (Hx _ e) hn
 ·have u:Un (xD outer) [] H H' s.heap h:=I.base
  have ne:∀b o,s.heap.get? b=some o->b≠X.env.locals:=fun b o e=>di (iJ (bX e) I.ok.above)
  refine⟨fun b o e n nf nx=>get b o (ne b o e) (u.keep b o e n nf nx),fun b o e n nf nx=>?_,u.free,fun b o e nx=>?_,u.oS,u.xB,u.xC⟩
  ·obtain ⟨sl,e1⟩:=u.slot b o e n nf nx
   exact⟨sl,get b _ (ne b o e) e1⟩
  ·obtain ⟨o',e1⟩:=u.there b o e nx
   exact⟨o',get b _ (ne b o e) e1⟩
 ·intro b u e
  refine(I.fB b u e).z8 (fun c v hc q'=>get c v ?_ q') (fun _ z=>z) (fun _ _ z=>z) fun _ zo _ z=>z
  rcases hc with z | z
  ·rintro rfl;rw[<- z,hL] at e;cases e
  ·rintro rfl;rw[hL] at z;cases z
end
end Dm
end aw4
section ad1
namespace Dm
open PySem PySem.Spec PyProof.Rows L2 PySem.W
def exD(K:Frag)(C:av)(Yr:List aq)(newId:String)(o:Obj):Bool:=match o.data with
 | .cls cd=>!cd.hasDel&&cd.mro.head?==some (.ref C)&&tailIn K Yr cd.mro.tail&&nsOkIn K cd.ns&&nsIn K cd.ns "__init__" ==some none&&o.cls == .type "type" && o.slots.toList[4]?==some (some (.builtin newId))&&o.slots.toList.length==6
 | _=>false
def Ys(K:Frag)(C:av)(Yr:List aq)(newId:String):Bool:=(K.lookup C).any (exD K C Yr newId)
theorem six{l:List (Option aq)}(h:l.length=6)(e:l[4]?=some a):∃k0 k1 k2 k3 k5,l=[k0,k1,k2,k3,a,k5]:=by
 refine rW (uf h) fun k0 l bx=>?_
 walk_at"$"
 refine rW (uf (fK h)) fun k1 l bx=>?_
 walk_at"$"
 refine rW (uf (fK (fK h))) fun k2 l bx=>?_
 walk_at"$"
 refine rW (uf (fK (fK (fK h)))) fun k3 l bx=>?_
 walk_at"$"
 refine rW (uf (fK (fK (fK (fK h))))) fun k4 l bx=>?_
 walk_at"$"
 refine rW (uf (fK (fK (fK (fK (fK h)))))) fun k5 l bx=>?_
 walk_at"$"
 obtain rfl:=LF (fK (fK (fK (fK (fK (fK h))))))
 cases e
 exact⟨k0,k1,k2,k3,k5,rfl⟩
theorem VB{K:Frag}{mg:Str->Option aq}(X:K.In h)(hb:mg x=some (.ref C))(q:Ys K C Yr newId=true):OwnCls x C Yr newId mg h:=by
 refine⟨hb,?_⟩
 unfold Ys at q
 cases ho:K.lookup C with
 | none=>rw[ho] at q;cases q
 | some o=>
  rw[ho] at q
  replace q:exD K C Yr newId o=true:=q
  obtain ⟨oc,dd,dt,sl⟩:=o
  cases dt with
  | cls cd=>
   obtain ⟨nm,bs,mro,ns,qn,hd,sn,sub,ab,col,del⟩:=cd
   obtain ⟨l⟩:=sl
   unfold exD at q
   simp only[cu,aH6,Bool.not_eq_true'] at q
   obtain ⟨⟨⟨⟨⟨⟨⟨rfl,q1⟩,q2⟩,q3⟩,q4⟩,rfl⟩,q5⟩,q6⟩:=q
   cases mro with
   | nil=>cases q1
   | cons m bm=>
    cases q1
    refine ao8 (six q6 q5) fun k0 k1 k2 k3 k5 R7=>?_
    obtain rfl:=R7
    exact⟨bm,ns,nm,qn,bs,hd,sn,sub,ab,col,dd,k0,k1,k2,k3,k5,_,X _ _ ho,.of_isNs (isNs_of_in X q3),nsMap_none_of_in X q3 q4,tail_of_in X q2⟩
  | _=>exact nomatch q
section
variable {X:Cx}{E:L2.St->XK}{x:Str}{C:av}{B newId Nv:String}{bm:List aq}{np iN pos:Pos}{Bl:bH}{rest:List bH}{ta:TA}
def VC(E:L2.St->XK)(cls:aq)(ta:TA):TS:=fun _ σ H=>ta σ H fun vs H1=>vs.length<=cK/\E σ cls none H1
theorem Nx(FB:ExcBaseFacts B newId Nv bm)(hh:X.A.handled=none)(hm:X.mg x=some (.ref C))(hc:Ys X.K C bm newId=true)(hg:Gl X x)(ha:PA (X.fC (m8 X E)) (Bl::rest) ta)
  (he:bL (Bl::rest) X.env=(false,eval Bl X.env)::bL rest X.env:=by rfl) (rf:(backTo iN (bL rest X.env)).any (·.1)=false:=by rfl) (hd:(x==("__debug__" : Str))=false:=by decide) :
  PS (X.fC (m8 X E)) (.Raise (some (.Call (.Name x np) (Bl::rest) [] iN)) none pos) (VC E (.ref C) ta):=by
 intro pins s σ H D I h
 have O:OwnCls x C bm newId X.mg X.base:=VB I.ok.mod.YV hm hc
 obtain ⟨tl,N,nm,q,bs,hdct,sn,sub,ab,col,dd,k0,k1,k2,k3,k5,mN,hC,hN,hni,T⟩:=O.obj
 refine wpAny_Raise_call_subT (C:=C) (nm:=nm) (q:=q) (N:=N) (bs:=bs) (bm:=tl) (hdct:=hdct) (sn:=sn) (sub:=sub) (ab:=ab) (col:=col) (dd:=dd) (k0:=k0) (k1:=k1) (k2:=k2) (k3:=k3) (k5:=k5)
  FB (mN:=mN) (T.hasType FB.hasBase) hh (by rw[he];show (false || (backTo iN (bL rest X.env)).any (·.1))=false;rw[rf];rfl) hni (rZ I hg hm ⟨rfl,?_⟩ hd)
 have hp:=ha iN pins s σ H _ I h
 rw[he] at hp ⊢
 refine Ft (iy hp (fun us s2 jd=>?_) fun _ _ y=>y)
 refine vP jd fun vs H1 I1 r z w=>?_
 clear jd
 exact⟨rfl,by rw[<- r.length];exact z,I1.bk _ _ hC,hN.keeps I1.bk,T.keeps I1.bk,fun h' e hx=>Rc I1.jk (.of hx) w⟩
def Ny(sp:Sp)(E:L2.St->XK)(t:TA):TE:=fun σ H Q=>t σ H fun vs H1=>sp vs H1 Q (E σ)
theorem Rg{CX:Qu}(F:jY X.prog X.w X.K X.mg X.base (pU X.prog X.w) k f fd ps sp)(hr:jy k X.A)(hb:Binds X.K fd ps [])
  (I:L2.Inv X pins σ H s) (r:Vals vs us) (h:sp vs H Q (E σ)):aB (aC X.prog X.w) X.A (call (.ref f) us) (EP X pins σ Q) (m8 X E) s:=by
 have hl:(us++[]).length=ps.length:=by rw[jS,<- r.length];exact F.len _ _ _ _ h
 have hbd:=hb s us I.Jb hl
 rw[jS] at hbd
 refine AG (tZ (F.run X.A X.stack s H ⟨us,[]⟩ us vs Q (E σ) hr I.aa8 hbd r h) fun r s' hq=>?_)
 cases r with
 | error e=>exact CY I hq
 | ok fl=>
  cases fl with
  | ret u=>exact I.after hq
  | next=>exact ny hq
  | brk=>exact ny hq
  | cont=>exact ny hq
theorem Nz(F:jY X.prog X.w X.K X.mg X.base (pU X.prog X.w) k f fd ps sp)(hr:jy k X.A)(hg:Gl X x)(hm:X.mg x=some (.ref f))(hk:u7 X.K (.ref f)=true)(hb:Binds X.K fd ps [])
  (ha:PA (X.fC (m8 X E)) (e::es) t) (EA:(x==("__debug__" : Str))=false:=by decide) (he:bL (e::es) X.env=(false,eval e X.env)::bL es X.env:=by rfl) (z5:(backTo pos (bL es X.env)).any (·.1)=false:=by rfl) :
  PE (X.fC (m8 X E)) (.Call (.Name x p) (e::es) [] pos) (Ny sp E t):=by
 intro pins s σ H Q I h
 refine tY (rZ I hg hm ?_ EA)
 refine Ll (h₀:=X.base) I.ok.mod.YV hk (gS (ha pos pins s σ H _ I h) fun us s1 n8=>n8.elim fun vs rR=>rR.elim fun H1 EC=>EC.elim fun I1 G9=>G9.elim fun r q=>⟨I1.Jb,?_⟩) he z5
 refine gS (Rg (CX:=pU X.prog X.w) F hr hb I1.jk r q) fun u s2 ED=>ED.elim fun v CJ=>CJ.elim fun H2 Ew=>Ew.elim fun I2 Ey=>Ey.elim fun r2 q2=>⟨v,H2,I2.fC _,r2,q2⟩
def VD(C:av)(sp:Sp)(E:L2.St->XK)(t:TA):TE:=fun σ H Q=>t σ H fun vs H1=>∀x dx,H1 x=none->H1 dx=none->dx≠x->
 sp (.ref x::vs) (upd (upd H1 dx (.own x)) x (.ins C dx [])) (fun v H2=>v = .cY/\Q (.ref x) H2) (E σ)
theorem Js(M:Mk X.K C f)(F:jY X.prog X.w X.K X.mg X.base (pU X.prog X.w) k f fd ps sp)(hr:jy (k+1) X.A)(hb:Binds X.K fd ps [])
  (I:L2.Inv X pins σ H s) (r:Vals vs us) (h:∀x dx,H x=none->H dx=none->dx≠x->sp (.ref x::vs) (upd (upd H dx (.own x)) x (.ins C dx [])) (fun v H2=>v = .cY/\Q (.ref x) H2) (E σ)) :
  aB (aC X.prog X.w) X.A (call (.ref C) us) (EP X pins σ Q) (m8 X E) s:=by
 have hq:=h (s.heap.objs.size+1) s.heap.objs.size (I.fB.fresh (wQ _)) (I.fB.fresh (bf _)) (di (zI _))
 have I2:=Inv.made (C:=C) I
 have r2:Vals (V.ref (s.heap.objs.size+1)::vs) (eW (s.heap.objs.size+1)::us):=.cons rfl r
 have hl:(eW (s.heap.objs.size+1)::us++[]).length=ps.length:=by
  rw[jS,<- r2.length];exact F.len _ _ _ _ hq
 have hbd:=hb _ (eW (s.heap.objs.size+1)::us) I2.Jb hl
 rw[jS] at hbd
 refine AG (Nk (f:=f) I.Jb M.makes M.init (aH6.mp M.fn) (tZ (F.run _ X.stack _ _ ⟨eW (s.heap.objs.size+1)::us,[]⟩ (eW (s.heap.objs.size+1)::us) _ _ (E σ) (hr.make C us [])
  (I2.aa8.make C us []) hbd r2 hq) fun r s' Rh=>?_))
 cases r with
 | error e=>exact CY I2 Rh
 | ok fl=>
  cases fl with
  | ret u=>
   refine vP (I2.after Rh) fun v H' I3 rv ev q3=>?_
   subst ev
   exact⟨rv,⟨V.ref (s.heap.objs.size+1),H',I3,rfl,q3⟩⟩
  | next=>exact ny Rh
  | brk=>exact ny Rh
  | cont=>exact ny Rh
theorem NB(M:Mk X.K C f)(F:jY X.prog X.w X.K X.mg X.base (pU X.prog X.w) k f fd ps sp)(hr:jy (k+1) X.A)(hg:Gl X x)(hm:X.mg x=some (.ref C))(hb:Binds X.K fd ps [])
  (ha:PA (X.fC (m8 X E)) (e::es) t) (EA:(x==("__debug__" : Str))=false:=by decide) (he:bL (e::es) X.env=(false,eval e X.env)::bL es X.env:=by rfl) (z5:(backTo pos (bL es X.env)).any (·.1)=false:=by rfl) :
  PE (X.fC (m8 X E)) (.Call (.Name x p) (e::es) [] pos) (VD C sp E t):=by
 intro pins s σ H Q I h
 refine tY (rZ I hg hm ?_ EA)
 refine Ll (h₀:=X.base) I.ok.mod.YV M.kp (gS (ha pos pins s σ H _ I h) fun us s1 xH=>xH.elim fun vs Bm=>Bm.elim fun H1 Bo=>Bo.elim fun I1 Bp=>Bp.elim fun r q=>⟨I1.Jb,?_⟩) he z5
 refine gS (Js M F hr hb I1.jk r q) fun u s2 Ga=>Ga.elim fun v NC=>NC.elim fun H2 ND=>ND.elim fun I2 NF=>NF.elim fun r2 q2=>⟨v,H2,I2.fC _,r2,q2⟩
theorem zU{P:dh}{w:bN}{K:aD}{mg:Str->Option aq}{base:aX}{x qual:Str}{st:bw}{f:av}{fd:gH}{N ps:List Str}{k:Nat}{sp:Sp}(F:KH K x qual st f fd)(S:bV N ps (aQ st))(len:∀vs H Q E,sp vs H Q E->vs.length=ps.length)
  (CP:∀(dM:aq),fd.code=dM->∀(A:bY) (outer:List Env) (s:az) (H:Hp) (vs:List V) (Q:VK) (E:XK),jy k (A.deeper (envOfC qual (aQ st) s.heap.objs.size f dM))->sp vs H Q E->
   ∃t,vo ((qf (pU P w) P w K mg base N qual (aQ st) f dM A outer s H E).fC (m8 (qf (pU P w) P w K mg base N qual (aQ st) f dM A outer s H E) fun _=>E)) (fF st) t/\t { nx:=fun _ H'=>Q .cY H',rt:=Q } (start N vs) H) :
  jY P w K mg base (pU P w) (k+1) f fd ps sp:=by
 refine V1 F.ex fun oc od kV doc pm an dM ct Ez zo9 lk FP=>?_
 obtain rfl:=zo9
 refine aa9 lk FP S len fun A outer s H vs Q E hr h=>?_
 refine aY (CP dM rfl A outer s H vs Q E hr h) fun t ht q=>?_
 refine⟨t,fun pins s' σ H' D I hw=>?_,q⟩
 exact iy (ht pins s' σ H' D (I.fC _) hw) (fun fl KG hs=>SP.jk hs) fun e KG hs=>Jr hs
end
section
variable {e:av}
def ClsAt(e:av)(cls:aq)(h:aX):Prop:=∃o,h.get? e=some o/\o.cls=cls
end
end Dm
end ad1
section aw6
namespace Dm
open PySem PySem.Spec PyProof.Rows L2 PySem.W PySem.Calls PySem.Builtin PySem.Builtin.ObjectAttr PySem.Builtin.Getset_descriptor
def VE(e C dx:av)(h:aX):Prop:=∃o,h.get? e=some o/\o.cls = .ref C/\o.dict=some dx/\∃vs,o.data = .fields vs
theorem VE.at_(p:VE e C dx h):ClsAt e (.ref C) h:=by
 obtain ⟨o,h1,h2,_⟩:=p
 exact⟨o,h1,h2⟩
end Dm
end aw6
section aw7
namespace Dm
open PySem PyProof.Rows L2
inductive D where
 | cY | bl (b:Bool) | int (i:Int) | str (x:Str) | tup (ds:List D) | lst (ds:List D) | bM (t:Nat) (ds:List D)
mutual
def dep:D->Nat
 | .tup ds=>kr ds+1
 | .lst ds=>kr ds+1
 | .bM tb ds=>kr ds+2
 | _=>0
def kr:List D->Nat
 | []=>0
 | d::ds=>max (dep d) (kr ds)
end
theorem iV:∀{ds:List D} {d:D},d∈ds->dep d<=kr ds
 | _::_,_,.head _=>Nat.le_max_left _ _
 | _::ds,_,.tail _ h=>cC (iV h) (Nat.le_max_right _ _)
theorem sE:∀{ds:List D},(∀d∈ds,dep d<=n)->kr ds<=n
 | [],_=>iA _
 | d::ds,h=>Nat.max_le.mpr ⟨h d (.head _),sE fun x hx=>h x (.tail _ hx)⟩
mutual
def iO:D->D->Bool
 | .cY,.cY=>true
 | .bl a,.bl b=>a==b
 | .bl a,.int j=>(if a then 1 else 0)==j
 | .int i,.bl b=>i==(if b then 1 else 0)
 | .int i,.int j=>i==j
 | .str x,.str y=>x==y
 | .tup xs,.tup ys=>eU xs ys
 | .lst xs,.lst ys=>eU xs ys
 | _,_=>false
def eU:List D->List D->Bool
 | [],[]=>true
 | x::xs,y::ys=>iO x y&&eU xs ys
 | _,_=>false
end
theorem D0:∀{xs ys:List D},eU xs ys=true->xs.length=ys.length
 | [],[],_=>rfl
 | [],_::_,h=>by simp[eU] at h
 | _::_,[],h=>by simp[eU] at h
 | x::xs,y::ys,h=>by
  rw[eU,cu] at h
  rw[cS,cS,D0 h.2]
theorem D3:∀{xs ys:List D},xs.length=ys.length->eU xs ys=(dj xs.length).all fun j=>iO (xs.getD j .cY) (ys.getD j .cY)
 | [],[],_=>rfl
 | x::xs,y::ys,h=>by
  rw[eU,D3 (xs:=xs) (ys:=ys) (by simpa using h),cS,List.range_succ_eq_map,List.all_cons,LG]
  rfl
mutual
def flat:D->Bool
 | .tup ds=>cz ds
 | .lst ds=>cz ds
 | .bM _ _=>false
 | _=>true
def cz:List D->Bool
 | []=>true
 | d::ds=>flat d&&cz ds
end
theorem dW:∀{ds:List D} {d:D},cz ds=true->d∈ds->flat d=true
 | _::_,_,h,.head _=>by rw[cz,cu] at h;exact h.1
 | _::ds,_,h,.tail _ m=>by rw[cz,cu] at h;exact dW h.2 m
theorem iP:∀{ds:List D},(∀d∈ds,flat d=true)->cz ds=true
 | [],_=>rfl
 | d::ds,h=>by rw[cz,cu];exact⟨h d (.head _),iP fun x hx=>h x (.tail _ hx)⟩
mutual
def fG(h:aX):D->aq->Prop
 | .cY,v=>v = .none
 | .bl b,v=>v = .bool b
 | .int i,v=>∃t,v = .int i t
 | .str x,v=>∃t,v = .str x t
 | .tup ds,v=>∃a items,v = .ref a/\IsTup h a items/\bG h ds items.toList
 | .lst ds,v=>∃a items,v = .ref a/\PlainL h a items/\bG h ds items.toList
 | .bM _ _,_=>False
def bG(h:aX):List D->List aq->Prop
 | [],vs=>vs=[]
 | d::ds,vs=>∃v r,vs=v::r/\fG h d v/\bG h ds r
end
theorem bG.len:∀{ds:List D} {vs:List aq},bG h ds vs->vs.length=ds.length
 | [],_,e=>by rw[bG] at e;subst e;rfl
 | d::ds,_,e=>by
  rw[bG] at e
  obtain ⟨v,r,rfl,_,q⟩:=e
  rw[cS,cS,q.len]
theorem bG.get:∀{ds:List D} {vs:List aq} (j:Nat) (hj:j < vs.length),bG h ds vs->fG h (ds.getD j .cY) vs[j]/\ds.getD j .cY∈ds
 | [],_,j,hj,e=>by rw[bG] at e;subst e;exact aI4 hj (jE _)
 | d::ds,_,j,hj,e=>by
  rw[bG] at e
  obtain ⟨v,r,rfl,q1,q⟩:=e
  cases j with
  | zero=>exact⟨q1,.head _⟩
  | succ j=>
   obtain ⟨a,b⟩:=q.get j (by simpa using hj)
   exact⟨by simpa using a,by simpa using .inr b⟩
mutual
theorem NG:∀d:D,flat d=true->iO d d=true
 | .cY,_=>by rw[iO]
 | .bl b,_=>by rw[iO];exact aI3 b
 | .int i,_=>by rw[iO];exact aI3 i
 | .str x,_=>by rw[iO];exact aI3 x
 | .tup xs,h=>by rw[iO];rw[flat] at h;exact mH xs h
 | .lst xs,h=>by rw[iO];rw[flat] at h;exact mH xs h
 | .bM tb xs,h=>by rw[flat] at h;cases h
theorem mH:∀ds:List D,cz ds=true->eU ds ds=true
 | [],_=>by rw[eU]
 | d::ds,h=>by
  rw[cz,cu] at h
  rw[eU,NG d h.1,mH ds h.2];rfl
end
inductive Vw(h:aX):D->aq->Prop
 | cY:Vw h .cY .none
 | bl (b:Bool):Vw h (.bl b) (.bool b)
 | int (i:Int) (t:Tok):Vw h (.int i) (.int i t)
 | str (x:Str) (t:Tok):Vw h (.str x) (.str x t)
 | tup {ds:List D} {a:av} {bA:Array aq} (q:IsTup h a bA) (p:bG h ds bA.toList):Vw h (.tup ds) (.ref a)
 | lst {ds:List D} {a:av} {bA:Array aq} (q:PlainL h a bA) (p:bG h ds bA.toList):Vw h (.lst ds) (.ref a)
theorem vw(x:fG h d u):Vw h d u:=by
 cases d with
 | cY=>rw[fG] at x;subst x;exact .cY
 | bl b=>rw[fG] at x;subst x;exact .bl b
 | int i=>rw[fG] at x;obtain ⟨t,rfl⟩:=x;exact .int i t
 | str y=>rw[fG] at x;obtain ⟨t,rfl⟩:=x;exact .str y t
 | tup ds=>rw[fG] at x;obtain ⟨a,bA,rfl,q,p⟩:=x;exact .tup q p
 | lst ds=>rw[fG] at x;obtain ⟨a,bA,rfl,q,p⟩:=x;exact .lst q p
 | bM _ _=>rw[fG] at x;exact x.elim
theorem bG.inj(H:∀d∈ds,∀(e:D) (v:aq),fG h d v->fG h e v->d=e)(x:bG h ds vs)(y:bG h es vs):ds=es:=by
 induction ds generalizing es vs with
 | nil=>
  rw[bG] at x
  subst x
  cases es with
  | nil=>rfl
  | cons e es=>rw[bG] at y;obtain ⟨_,_,z,_⟩:=y;cases z
 | cons d ds ih=>
  rw[bG] at x
  obtain ⟨v,r,rfl,p1,p2⟩:=x
  cases es with
  | nil=>rw[bG] at y;cases y
  | cons e es=>
   rw[bG] at y
   obtain ⟨v',r',z,q1,q2⟩:=y
   cases z
   rw[H d (.head _) e v p1 q1,ih (fun d hd=>H d (.tail _ hd)) p2 q2]
theorem fG.inj(d e:D)(hu:fG h d v)(hv:fG h e v):d=e:=by
 generalize hn:dep d=n
 induction n using Nat.strongRecOn generalizing d e v with
 | ind n ih=>
 have x:=vw hu
 have y:=vw hv
 clear hu hv
 cases x with
 | cY=>cases y;rfl
 | bl b=>cases y;rfl
 | int i t=>cases y;rfl
 | str s t=>cases y;rfl
 | tup q p=>
  rw[dep] at hn
  cases y with
  | tup q' p'=>
   obtain ⟨o1,q1,_,n1,d1⟩:=q
   obtain ⟨o2,q2,_,n2,d2⟩:=q'
   obtain rfl:=eY (q1.symm.trans q2)
   rw[d1] at d2
   cases d2
   rw[bG.inj (fun d hd e v a b=>ih _ (by have:=iV hd;lia) d e a b rfl) p p']
  | lst q' p'=>
   obtain ⟨o1,q1,c1,_⟩:=q
   obtain ⟨o2,n2,q2,c2,_⟩:=q'
   obtain rfl:=eY (q1.symm.trans q2)
   rw[c1] at c2
   exact aI4 c2 (by decide)
 | lst q p=>
  rw[dep] at hn
  cases y with
  | tup q' p'=>
   obtain ⟨o2,n2,q2,c2,_⟩:=q
   obtain ⟨o1,q1,c1,_⟩:=q'
   obtain rfl:=eY (q1.symm.trans q2)
   rw[c1] at c2
   exact aI4 c2 (by decide)
  | lst q' p'=>
   obtain ⟨o1,n1,q1,_,_,d1⟩:=q
   obtain ⟨o2,n2,q2,_,_,d2⟩:=q'
   obtain rfl:=eY (q1.symm.trans q2)
   rw[d1] at d2
   cases d2
   rw[bG.inj (fun d hd e v a b=>ih _ (by have:=iV hd;lia) d e a b rfl) p p']
open PySem.SeqAt
section
variable {s:az}
theorem aR(x:IsTup h a items):h.IsTuple a items:=by
 obtain ⟨o,h1,h2,n,h3⟩:=x
 exact⟨o,h1,h2,n,h3⟩
theorem mJ{bA jO:Array aq}(pu:bG s.heap xs bA.toList)(pv:bG s.heap ys jO.toList)(h:∀(x y:D) (u v:aq),x∈xs->y∈ys->fG s.heap x u->fG s.heap y v->EqAt A s u v (iO x y)):∀j (h1:j < bA.size) (h2:j < jO.size),EqAt A s bA[j] jO[j] (iO (xs.getD j .cY) (ys.getD j .cY)):=fun j h1 h2=>by
 obtain ⟨g1,m1⟩:=pu.get j (by rw[dB];exact h1)
 obtain ⟨g2,m2⟩:=pv.get j (by rw[dB];exact h2)
 rw[Mi] at g1 g2
 exact h _ _ _ _ m1 m2 g1 g2
theorem xQ{bA jO:Array aq}(pu:bG s.heap xs bA.toList)(pv:bG s.heap ys jO.toList):((dj (min bA.size jO.size)).all (fun j=>iO (xs.getD j .cY) (ys.getD j .cY))&&(bA.size==jO.size))=eU xs ys:=by
 have lu:bA.size=xs.length:=by rw[<- dB];exact pu.len
 have lv:jO.size=ys.length:=by rw[<- dB];exact pv.len
 by_cases hl:bA.size=jO.size
 ·rw[<- hl,Lp,aI3,xr,lu,<- D3 (lu.symm.trans (hl.trans lv))]
 ·rw[aH9.mpr hl,Fz]
  exact(uy.mpr fun z=>hl (by rw[lu,lv];exact D0 z)).symm
theorem Gb{bA jO:Array aq}(pu:bG s.heap xs bA.toList)(pv:bG s.heap ys jO.toList)(hl:bA.size=jO.size):(dj bA.size).all (fun j=>iO (xs.getD j .cY) (ys.getD j .cY))=eU xs ys:=by
 rw[<- xQ pu pv,<- hl,Lp,aI3,xr]
theorem Gf{bA jO:Array aq}(pu:bG s.heap xs bA.toList)(pv:bG s.heap ys jO.toList)(hl:¬ bA.size=jO.size):false=eU xs ys:=by
 rw[<- xQ pu pv,aH9.mpr hl,Fz]
theorem Ri{A:bY}(x:Vw s.heap d u)(y:Vw s.heap e v)(i6:A.units < cLine)(hn:dep d=n)(fx:flat d=true)(fy:flat e=true)
  (ht:∀{xs ys:List D} {a b:av} {bA jO:Array aq},dep (.tup xs)=n->cz xs=true->cz ys=true->IsTup s.heap a bA->bG s.heap xs bA.toList->IsTup s.heap b jO->bG s.heap ys jO.toList->EqAt A s (.ref a) (.ref b) (eU xs ys))
  (hl:∀{xs ys:List D} {a b:av} {bA jO:Array aq},dep (.lst xs)=n->cz xs=true->cz ys=true->PlainL s.heap a bA->bG s.heap xs bA.toList->PlainL s.heap b jO->bG s.heap ys jO.toList->EqAt A s (.ref a) (.ref b) (eU xs ys)):EqAt A s u v (iO d e):=by
 cases x with
 | cY=>
  cases y with
  | cY=>exact EqAt.same _
  | bl c=>exact EqAt.none_bool c
  | int j r=>exact EqAt.none_int j r
  | str y r=>exact EqAt.none_str y r
  | tup q' p'=>exact EqAt.none_tuple (aR q') i6
  | lst q' p'=>exact EqAt.none_list q'.isList i6
 | bl b=>
  cases y with
  | cY=>exact EqAt.bool_none b
  | bl c=>exact EqAt.bool_bool b c
  | int j r=>exact EqAt.bool_int b j r
  | str y r=>exact EqAt.bool_str b y r
  | tup q' p'=>exact EqAt.bool_tuple b (aR q') i6
  | lst q' p'=>exact EqAt.bool_list b q'.isList i6
 | int i t=>
  cases y with
  | cY=>exact EqAt.int_none i t
  | bl c=>exact EqAt.int_bool i t c
  | int j r=>exact EqAt.int_int i t j r
  | str y r=>exact EqAt.int_str i t y r
  | tup q' p'=>exact EqAt.int_tuple i t (aR q') i6
  | lst q' p'=>exact EqAt.int_list i t q'.isList i6
 | str x t=>
  cases y with
  | cY=>exact EqAt.str_none x t
  | bl c=>exact EqAt.str_bool x t c
  | int j r=>exact EqAt.str_int x t j r
  | str y r=>exact EqAt.str_str x t y r
  | tup q' p'=>exact EqAt.str_tuple x t (aR q') i6
  | lst q' p'=>exact EqAt.str_list x t q'.isList i6
 | tup q p=>
  cases y with
  | cY=>exact EqAt.tuple_none (aR q) i6
  | bl c=>exact EqAt.tuple_bool c (aR q) i6
  | int j r=>exact EqAt.tuple_int j r (aR q) i6
  | str y r=>exact EqAt.tuple_str y r (aR q) i6
  | tup q' p'=>exact ht hn (by rw[flat] at fx;exact fx) (by rw[flat] at fy;exact fy) q p q' p'
  | lst q' p'=>exact EqAt.tuple_list (aR q) q'.isList i6
 | lst q p=>
  cases y with
  | cY=>exact EqAt.list_none q.isList i6
  | bl c=>exact EqAt.list_bool c q.isList i6
  | int j r=>exact EqAt.list_int j r q.isList i6
  | str y r=>exact EqAt.list_str y r q.isList i6
  | tup q' p'=>exact EqAt.list_tuple q.isList (aR q') i6
  | lst q' p'=>exact hl hn (by rw[flat] at fx;exact fx) (by rw[flat] at fy;exact fy) q p q' p'
theorem oZ(d e:D){A:bY}(fx:flat d=true)(fy:flat e=true)(hu:fG s.heap d u)(hv:fG s.heap e v)(hr:A.units+dep d < cLine):EqAt A s u v (iO d e):=by
 generalize hn:dep d=n at hr
 induction n using Nat.strongRecOn generalizing d e A u v with
 | ind n ih=>
 have i6:A.units < cLine:=qP (EW _ _) hr
 refine Ri (vw hu) (vw hv) i6 hn fx fy (fun {xs ys a b bA jO} hn fx fy q p q' p'=>?_) (fun {xs ys a b bA jO} hn fx fy q p q' p'=>?_)
 ·by_cases z6:a=b
  ·subst z6
   have e:D.tup xs=D.tup ys:=fG.inj (h:=s.heap) _ _ (v:=.ref a) (by rw[fG];exact⟨a,bA,rfl,q,p⟩) (by rw[fG];exact⟨a,jO,rfl,q',p'⟩)
   obtain rfl:xs=ys:=by injection e
   rw[mH xs fx]
   exact EqAt.same _
  ·rw[<- xQ p p']
   exact EqAt.of_refs z6 (RcAt.tuples (aR q) (aR q') i6 (mJ p p' fun x y u v m1 m2 g1 g2=>ih _ (by rw[<- hn,dep];have:=iV m1;lia) _ _ (dW fx m1) (dW fy m2) g1 g2 rfl (by show A.units+1+_ < _;rw[<- hn,dep] at hr;have:=iV m1;lia)))
 ·by_cases z6:a=b
  ·subst z6
   have e:D.lst xs=D.lst ys:=fG.inj (h:=s.heap) _ _ (v:=.ref a) (by rw[fG];exact⟨a,bA,rfl,q,p⟩) (by rw[fG];exact⟨a,jO,rfl,q',p'⟩)
   obtain rfl:xs=ys:=by injection e
   rw[mH xs fx]
   exact EqAt.same _
  ·refine EqAt.of_refs z6 ?_
   by_cases hl:bA.size=jO.size
   ·rw[<- Gb p p' hl]
    exact RcAt.lists q.isList q'.isList hl i6 (mJ p p' fun x y u v m1 m2 g1 g2=>ih _ (by rw[<- hn,dep];have:=iV m1;lia) _ _ (dW fx m1) (dW fy m2) g1 g2 rfl (by show A.units+1+_ < _;rw[<- hn,dep] at hr;have:=iV m1;lia))
   ·rw[<- Gf p p' hl]
    exact RcAt.lists_lengths q.isList q'.isList (by simpa using hl) i6
end
end Dm
end aw7
section ad3
namespace Sg
open PySem PySem.W PyProof.Rows
noncomputable section
def gal:Bool->Keyed->Array Keyed->Nat->Nat->Nat->StateT bI Sem (Option Nat):=sortPriv% PySem.Builtin.gallop
def mlo:Array Keyed->Array Keyed->StateT bI Sem (Array Keyed):=sortPriv% PySem.Builtin.mergeLo
def mhi:Array Keyed->Array Keyed->StateT bI Sem (Array Keyed):=sortPriv% PySem.Builtin.mergeHi
def smg:Nat->StateT bI Sem Unit:=sortPriv% PySem.Builtin.setMinGallop
def Cm(prog:dh)(w:bN)(A:bY)(s:az)(kd:iD)(f:Nat->Keyed)(n:Nat)(r:Nat->Nat):Prop:=
 ∀i j C,i < n->j < n->C (decide (r i < r j)) s->aB (aC prog w) A (keyLt' kd (f i).1 (f j).1) C (fun _ _=>False) s
section
variable {prog:dh}{w:bN}{A:bY}{E:aq->az->Prop}{s:az}{kd:iD}{st:bI}
theorem D4{Q:Option Bool->bI->Prop}(hc:Cm prog w A s kd f n r)(hk:kindOf st=kd)(hi:i < n)(hj:j < n)(h:Q (some (decide (r i < r j))) st):wpS (aC prog w) A E s (lt' (f i) (f j)) Q st:=by
 rw[lt'_eq]
 refine aJ (lW ?_)
 rw[hk]
 refine aJ (wpS_lift (oA (iy (hc i j (fun c s'=>s'=s/\c=decide (r i < r j)) hi hj ⟨rfl,rfl⟩) (fun c s' z=>?_) fun _ _ z=>z.elim)))
 obtain ⟨rfl,rfl⟩:=z
 exact⟨rfl,aP h⟩
def arr(f:Nat->Keyed)(X:List Nat):Array Keyed:=(X.map f).toArray
theorem cF(X:List Nat):(arr f X).size=X.length:=by simp[arr]
theorem gK(X:List Nat)(i j:Nat):(arr f X).extract i j=arr f (X.extract i j):=by simp[arr,gr,F8,F9]
theorem fT(X:List Nat)(x:Nat):(arr f X).push (f x)=arr f (X++[x]):=by simp[arr]
theorem iW(X Y:List Nat):arr f X++arr f Y=arr f (X++Y):=by simp[arr]
theorem w6(X:List Nat):(arr f X).reverse=arr f X.reverse:=by simp[arr]
theorem d7{X:List Nat}{Q:Keyed->bI->Prop}(hi:X[i]?=some x)(h:Q (f x) st):wpS (aC prog w) A E s (elem' (arr f X) i) Q st:=by
 rw[elem'_eq]
 have:(arr f X)[i]?=some (f x):=by simp[arr,hi]
 rw[this]
 exact aP h
theorem Bq{Q:Unit->bI->Prop}(h:Q () (SortSt.mk' (kindOf st) (arrOf st) (pendingOf st) g (failedOf st))):wpS (aC prog w) A E s (smg g) Q st:=qY h
def bey(left:Bool)(key:Keyed)(a:Array Keyed)(b i:Nat):StateT bI Sem (Option Bool):=
 elem' a (b+i)>>=fun x=>ite (left=true) (lt' x key) (lt' key x>>=fun c=>pure (c.map not))
def lk(r:Nat->Nat)(left:Bool)(key x:Nat):Bool:=if left then decide (r x < r key) else !decide (r key < r x)
theorem VF{Q:Option Bool->bI->Prop}(hc:Cm prog w A s kd f n r)(hk:kindOf st=kd)(hX:∀x∈X,x < n)(Bf:key < n)(hi:X[b+i]?=some x)(h:Q (some (lk r left key x)) st) :
  wpS (aC prog w) A E s (bey left (f key) (arr f X) b i) Q st:=by
 unfold bey
 have hx:x < n:=hX x (kM hi)
 refine aJ (d7 hi ?_)
 cases left with
 | true=>rw[aH2 rfl];exact D4 hc hk hx Bf (by simpa[lk] using h)
 | false=>rw[aH3 (by simp)];exact aJ (D4 hc hk Bf hx (aP (by simpa[lk] using h)))
section
variable {B:Nat->Bool}{m:Nat}{Q:Option (Option Nat)×Nat×Nat->bI->Prop}{g:Nat->Option (Option Nat)×Nat×Nat->StateT bI Sem (ForInStep (Option (Option Nat)×Nat×Nat))}
theorem Ua(mono:∀i j,i<=j->j < m->B j=true->B i=true){lo hi:Nat}
  (hg:∀x lo hi (Q:_->bI->Prop),lo<=hi->hi<=m->(lo ≥ hi->Q (.done (none,lo,hi)) st)->(lo < hi->B (lo+(hi - lo) / 2)=true->Q (.yield (none,lo+(hi - lo) / 2+1,hi)) st)->(lo < hi->B (lo+(hi - lo) / 2)=false->Q (.yield (none,lo,lo+(hi - lo) / 2)) st)->wpS (aC prog w) A E s (g x (none,lo,hi)) Q st)
  (h1:lo<=hi) (h2:hi<=m) (hlo:∀i,i < lo->B i=true) (hhi:∀i,hi<=i->i < m->B i=false)
  (h:∀k,k<=m->(∀i,i < k->B i=true)->(∀i,k<=i->i < m->B i=false)->Q (none,k,k) st):wpS (aC prog w) A E s (forIn [0:m] (none,lo,hi) g) Q st:=by
 refine j4 (I:=fun x c st'=>st'=st/\∃lo hi,c=(none,lo,hi)/\lo<=hi/\hi<=m/\hi - lo<=m - x/\(∀i,i < lo->B i=true)/\(∀i,hi<=i->i < m->B i=false)) ?step ?fin ⟨rfl,lo,hi,rfl,h1,h2,by lia,hlo,hhi⟩
 case fin=>
  rintro c st' ⟨rfl,lo,hi,rfl,a1,a2,a3,a4,a5⟩
  have:lo=hi:=by lia
  subst this
  exact h lo a2 a4 a5
 case step=>
  rintro x c st' _ hx ⟨rfl,lo,hi,rfl,a1,a2,a3,a4,a5⟩
  refine hg x lo hi _ a1 a2 (fun z=>?_) (fun z b=>?_) fun z b=>?_
  ·have:lo=hi:=by lia
   subst this
   exact h lo a2 a4 a5
  ·exact⟨rfl,_,_,rfl,by lia,a2,by lia,fun i VG=>mono i _ (by lia) (by lia) b,a5⟩
  ·refine⟨rfl,_,_,rfl,by lia,by lia,by lia,a4,fun i h1 h2=>?_⟩
   cases q:B i with
   | false=>rfl
   | true=>rw[mono _ i h1 h2 q] at b;cases b
theorem Ub{D:Nat->Bool}(hmx:mx<=m)
  (hg:∀x l o (Q:_->bI->Prop),1<=o->(o ≥ mx->Q (.done (none,l,o)) st)->(o < mx->D o=false->Q (.done (none,l,o)) st)->(o < mx->D o=true->Q (.yield (none,o,2 * o+1)) st)->wpS (aC prog w) A E s (g x (none,l,o)) Q st)
  (h0:D 0=true) (hm:0 < mx)
  (h:∀l o,l < o->l < mx->D l=true->(o ≥ mx\/D o=false)->Q (none,l,o) st):wpS (aC prog w) A E s (forIn [0:m] (none,0,1) g) Q st:=by
 refine j4 (I:=fun x c st'=>st'=st/\∃l o,c=(none,l,o)/\l < o/\x+1<=o/\l < mx/\D l=true) ?step ?fin ⟨rfl,0,1,rfl,by lia,by lia,hm,h0⟩
 case fin=>
  rintro c st' ⟨rfl,l,o,rfl,a1,a2,a3,a4⟩
  exact h l o a1 a3 a4 (.inl (by lia))
 case step=>
  rintro x c st' _ hx ⟨rfl,l,o,rfl,a1,a2,a3,a4⟩
  refine hg x l o _ (by lia) (fun z=>h l o a1 a3 a4 (.inl z)) (fun z b=>h l o a1 a3 a4 (.inr b)) fun z b=>⟨rfl,o,2 * o+1,rfl,by lia,by lia,z,b⟩
end
theorem uH{left:Bool}{key:Nat}{X:List Nat}{b m hint:Nat}{Q:Option Nat->bI->Prop}(hc:Cm prog w A s kd f n r)(hk:kindOf st=kd)(hX:∀x∈X,x < n)(Bf:key < n)(hm:b+m<=X.length)(hh:hint < m)
  (mono:∀i j,i<=j->j < m->lk r left key (X.getD (b+j) 0)=true->lk r left key (X.getD (b+i) 0)=true)
  (h:∀k,k<=m->(∀i,i < k->lk r left key (X.getD (b+i) 0)=true)->(∀i,k<=i->i < m->lk r left key (X.getD (b+i) 0)=false)->Q (some k) st) :
  wpS (aC prog w) A E s (gal left (f key) (arr f X) b m hint) Q st:=by
 have look:∀{i:Nat} {Q:Option Bool->bI->Prop},i < m->Q (some (lk r left key (X.getD (b+i) 0))) st->wpS (aC prog w) A E s (bey left (f key) (arr f X) b i) Q st:=fun {i Q} hi q=>by
  have e:X[b+i]?=some (X.getD (b+i) 0):=by
   have:b+i < X.length:=by lia
   simp[this]
  exact VF hc hk hX Bf e q
 generalize hB:(fun i=>lk r left key (X.getD (b+i) 0))=B at *
 have hB':∀i,lk r left key (X.getD (b+i) 0)=B i:=fun i=>by rw[<- hB]
 simp only[hB'] at mono h look
 have step:∀{Q:Option (Option Nat)×Nat×Nat->bI->Prop} {g:Nat->Option (Option Nat)×Nat×Nat->StateT bI Sem (ForInStep (Option (Option Nat)×Nat×Nat))},True:=fun {_ _}=>trivial
 refine aJ (look hh ?_)
 cases hr:B hint with
 | true=>
  dsimp only
  rw[aH2 rfl]
  refine aJ (Ub (m:=m) (D:=fun o=>B (hint+o)) (mx:=m - hint) (by lia) (fun x l o Q ho q1 q2 q3=>?_) hr (by lia) fun l o a1 a2 a3 a4=>?_)
  ·dsimp only
   by_cases z:o ≥ m - hint
   ·rw[aH2 z];exact aP (q1 z)
   ·rw[aH3 z]
    refine aJ (look (i:=hint+o) (by lia) ?_)
    cases q:B (hint+o) with
    | true=>simp only[j5,cZ,aI0];exact aP (q3 (by lia) q)
    | false=>simp only[B4,aI1];exact aP (q2 (by lia) q)
  ·dsimp only
   refine aJ (Ua (m:=m) mono (fun x lo hi Q g1 g2 q1 q2 q3=>?_) (by lia) (by lia) (fun i hi=>mono i (hint+l) (by lia) (by lia) a3) (fun i h1 h2=>?_) fun k k1 k2 k3=>aP (h k k1 k2 k3))
   ·dsimp only
    by_cases z:lo ≥ hi
    ·rw[aH2 z];exact aP (q1 z)
    ·rw[aH3 z]
     refine aJ (look (i:=lo+(hi - lo) / 2) (by lia) ?_)
     cases q:B (lo+(hi - lo) / 2) with
     | true=>dsimp only;rw[if_pos rfl];exact aP (q2 (by lia) q)
     | false=>dsimp only;rw[if_neg (by simp)];exact aP (q3 (by lia) q)
   ·rcases a4 with a4 | a4
    ·lia
    ·cases q:B i with
     | false=>rfl
     | true=>rw[mono (hint+o) i (by lia) h2 q] at a4;cases a4
 | false=>
  dsimp only
  rw[aH3 (by simp)]
  refine aJ (Ub (m:=m) (D:=fun o=>!B (hint - o)) (mx:=hint+1) (by lia) (fun x l o Q ho q1 q2 q3=>?_) (by simp[hr]) (by lia) fun l o a1 a2 a3 a4=>?_)
  ·dsimp only
   by_cases z:o ≥ hint+1
   ·rw[aH2 z];exact aP (q1 z)
   ·rw[aH3 z]
    refine aJ (look (i:=hint - o) (by lia) ?_)
    cases q:B (hint - o) with
    | true=>dsimp only;rw[if_pos rfl];exact aP (q2 (by lia) (by simp[q]))
    | false=>dsimp only;rw[if_neg (by simp)];exact aP (q3 (by lia) (by simp[q]))
  ·dsimp only
   have a3:B (hint - l)=false:=by simpa using a3
   refine aJ (Ua (m:=m) mono (fun x lo hi Q g1 g2 q1 q2 q3=>?_) (by lia) (by lia) (fun i hi=>?_) (fun i h1 h2=>?_) fun k k1 k2 k3=>aP (h k k1 k2 k3))
   ·dsimp only
    by_cases z:lo ≥ hi
    ·rw[aH2 z];exact aP (q1 z)
    ·rw[aH3 z]
     refine aJ (look (i:=lo+(hi - lo) / 2) (by lia) ?_)
     cases q:B (lo+(hi - lo) / 2) with
     | true=>dsimp only;rw[if_pos rfl];exact aP (q2 (by lia) q)
     | false=>dsimp only;rw[if_neg (by simp)];exact aP (q3 (by lia) q)
   ·rcases a4 with a4 | a4
    ·lia
    ·have a4:B (hint - o)=true:=by simpa using a4
     by_cases z:o<=hint
     ·exact mono i (hint - o) (by lia) (by lia) a4
     ·lia
   ·cases q:B i with
    | false=>rfl
    | true=>rw[mono (hint - l) i h1 h2 q] at a3;cases a3
end
end
noncomputable section
structure MI(le:Nat->Nat->Prop)(T O xs ys:List Nat):Prop where
 pm:(O++(xs++ys)).Perm T
 so:O.Pairwise le
 sx:xs.Pairwise le
 sy:ys.Pairwise le
 ox:∀o∈O,∀x∈xs,le o x
 oy:∀o∈O,∀y∈ys,le o y
def Dn(le:Nat->Nat->Prop)(T Z:List Nat):Prop:=Z.Perm T/\Z.Pairwise le
section
theorem MI.tx(h:MI le T O (u++xs) ys)(hu:∀x∈u,∀y∈ys,le x y):MI le T (O++u) xs ys:=by
 have sx:=wX.mp h.sx
 refine⟨by have:=h.pm;simpa[fR] using this,wX.mpr ⟨h.so,sx.1,fun o ho x hx=>h.ox o ho x (Hy _ hx)⟩,sx.2.1,h.sy,fun o ho x hx=>?_,fun o ho y hy=>?_⟩
 ·rcases gy.mp ho with ho | ho
  ·exact h.ox o ho x (nW _ hx)
  ·exact sx.2.2 o ho x hx
 ·rcases gy.mp ho with ho | ho
  ·exact h.oy o ho y hy
  ·exact hu o ho y hy
theorem MI.swap(h:MI le T O xs ys):MI le T O ys xs:=⟨(MB O List.perm_append_comm).trans h.pm,h.so,h.sy,h.sx,h.oy,h.ox⟩
theorem MI.ty(h:MI le T O xs (u++ys))(hu:∀y∈u,∀x∈xs,le y x):MI le T (O++u) xs ys:=(h.swap.tx hu).swap
theorem MI.fin(h:MI le T O xs ys)(hu:∀x∈xs,∀y∈ys,le x y):Dn le T (O++xs++ys):=
 ⟨by rw[fR];exact h.pm,wX.mpr ⟨wX.mpr ⟨h.so,h.sx,h.ox⟩,h.sy,fun o ho y hy=>by
  rcases gy.mp ho with ho | ho
  ·exact h.oy o ho y hy
  ·exact hu o ho y hy⟩⟩
theorem MI.ad5(h:MI le T O xs ys)(hu:∀y∈ys,∀x∈xs,le y x):Dn le T (O++ys++xs):=h.swap.fin hu
end
section
abbrev Le(r:Nat->Nat):Nat->Nat->Prop:=fun a b=>r a<=r b
theorem jo{X:List Nat}(h:X.Pairwise (Le r))(n6:i<=j)(hj:j < X.length):r (X.getD i 0)<=r (X.getD j 0):=by
 have e:∀k (hk:k < X.length),X.getD k 0=X[k]:=fun k hk=>by simp[hk]
 rw[e i (by lia),e j hj]
 by_cases c:i=j
 ·subst c;exact bf _
 ·exact qS.mp h i j (by lia) hj (by lia)
theorem HL{X:List Nat}(h:i < X.length):X.drop i=X.getD i 0::X.drop (i+1):=by
 rw[ug h];simp[h]
theorem jq{X:List Nat}(h:x∈X.drop i):∃j,i<=j/\j < X.length/\x=X.getD j 0:=by
 obtain ⟨k,hk,e⟩:=j0.mp h
 rw[wW] at hk
 exact⟨i+k,by lia,by lia,by rw[<- e];simp[show i+k < X.length by lia]⟩
theorem HM{X:List Nat}(hk:i+k<=X.length)(h:x∈X.extract i (i+k)):∃j,j < k/\x=X.getD (i+j) 0:=by
 obtain ⟨q,hq,e⟩:=j0.mp h
 have:q < k:=by simp[gr] at hq;lia
 refine⟨q,this,?_⟩
 rw[<- e]
 simp[gr,show i+q < X.length by lia]
theorem xR{X:List Nat}:X.drop i=X.extract i (i+k)++X.drop (i+k):=by
 rw[gr,show i+k - i=k by lia,<- List.drop_drop,nt]
theorem w9{X:List Nat}:X.extract i X.length=X.drop i:=by
 rw[gr,uh (by simp)]
theorem get_some{X:List Nat}(h:i < X.length):X[i]?=some (X.getD i 0):=by simp[h]
theorem get_mem{X:List Nat}(h:i < X.length):X.getD i 0∈X:=kM (get_some h)
structure LI(r:Nat->Nat)(X Y O:List Nat)(ia ib:Nat):Prop where
 a:ia+1 < X.length
 b:ib < Y.length
 l:O.length=ia+ib
 m:MI (Le r) (X++Y) O (X.drop ia) (Y.drop ib)
end
def aH(st st':bI):Prop:=∃g,st'=SortSt.mk' (kindOf st) (arrOf st) (pendingOf st) g (failedOf st)
theorem aH.refl(st:bI):aH st st:=⟨gallopOf st,rfl⟩
theorem aH.kd{st st':bI}(h:aH st st'):kindOf st'=kindOf st:=by obtain ⟨g,rfl⟩:=h;rfl
theorem aH.mg{st st':bI}(h:aH st st')(g:Nat):aH st (SortSt.mk' (kindOf st') (arrOf st') (pendingOf st') g (failedOf st')):=by obtain ⟨g',rfl⟩:=h;exact⟨g,rfl⟩
section
variable {kd:iD}{st:bI}
theorem bC[Decidable c](h1:c->wpS (aC prog w) A E s a Q st)(h2:¬ c->wpS (aC prog w) A E s b Q st):wpS (aC prog w) A E s (if c then a else b) Q st:=by
 by_cases h:c
 ·rw[aH2 h];exact h1 h
 ·rw[aH3 h];exact h2 h
theorem Qw:lk r false key x=true↔r x<=r key:=by simp[lk]
theorem VH:lk r false key x=false↔r key < r x:=by simp[lk]
theorem Rj:lk r true key x=true↔r x < r key:=by simp[lk]
theorem Rk:lk r true key x=false↔r key<=r x:=by simp[lk]
theorem Qx(e:o=arr f O):o.push (f y)=arr f (O++[y]):=by rw[e,fT]
theorem pV{Q:Unit->bI->Prop}(h:Q () st):wpS (aC prog w) A E s (liftM (rule x)) Q st:=wpS_lift (wI ⟨rfl,h⟩)
theorem VI{Q:Array Keyed->bI->Prop}(hc:Cm prog w A s kd f n r)(hk:kindOf st=kd)(hX:∀x∈X,x < n)(hY:∀y∈Y,y < n)(sX:X.Pairwise (Le r))(sY:Y.Pairwise (Le r))(lX:0 < X.length)(lY:0 < Y.length)
  (h0:∀x∈X,r (Y.getD 0 0)<=r x) (hl:∀y∈Y,r y<=r (X.getD (X.length - 1) 0)) (h:∀Z st',aH st st'->Dn (Le r) (X++Y) Z->Q (arr f Z) st') :
  wpS (aC prog w) A E s (mlo (arr f X) (arr f Y)) Q st:=by
 have zX:∀{i:Nat},(i==(arr f X).size)=true->i=X.length:=fun z=>by rw[<- cF (f:=f) X];exact aH6.mp z
 have zY:∀{i:Nat},(i==(arr f Y).size)=true->i=Y.length:=fun z=>by rw[<- cF (f:=f) Y];exact aH6.mp z
 have zX':∀{i:Nat},¬ (i==(arr f X).size)=true->i≠X.length:=fun z e=>z (by rw[cF];exact aH6.mpr e)
 have zY':∀{i:Nat},¬ (i==(arr f Y).size)=true->i≠Y.length:=fun z e=>z (by rw[cF];exact aH6.mpr e)
 let Gd:Array Keyed->Prop:=fun res=>∃Z,res=arr f Z/\Dn (Le r) (X++Y) Z
 have xS:∀{O ia ib o},o=arr f O->MI (Le r) (X++Y) O (X.drop ia) (Y.drop ib)->(ia=X.length\/ib=Y.length)->Gd (o++(arr f X).extract ia (arr f X).size++(arr f Y).extract ib (arr f Y).size):=fun {O ia ib o} e m q=>by
  refine⟨O++X.drop ia++Y.drop ib,?_,m.fin fun x hx y hy=>?_⟩
  ·rw[e,gK,gK,cF,cF,w9,w9,iW,iW]
  ·rcases q with q | q
   ·rw[q,AR] at hx;cases hx
   ·rw[q,AR] at hy;cases hy
 have Br:∀{O ia ib o},o=arr f O->MI (Le r) (X++Y) O (X.drop ia) (Y.drop ib)->ia+1=X.length->Gd (o++(arr f Y).extract ib (arr f Y).size++(arr f X).extract ia (arr f X).size):=fun {O ia ib o} e m q=>by
  refine⟨O++Y.drop ib++X.drop ia,?_,m.ad5 fun y hy x hx=>?_⟩
  ·rw[e,gK,gK,cF,cF,w9,w9,iW,iW]
  ·obtain ⟨j,j1,j2,rfl⟩:=jq hx
   rw[show j=X.length - 1 by lia]
   exact hl y (um hy)
 have gX:∀i,i < X.length->X.getD i 0 < n:=fun i hi=>hX _ (get_mem hi)
 have gY:∀i,i < Y.length->Y.getD i 0 < n:=fun i hi=>hY _ (get_mem hi)
 have Yt:∀{O ia ib},ia < X.length->MI (Le r) (X++Y) O (X.drop ia) (Y.drop ib)->(∀y∈Y.drop ib,r (X.getD ia 0)<=r y)->MI (Le r) (X++Y) (O++[X.getD ia 0]) (X.drop (ia+1)) (Y.drop ib):=fun {O ia ib} hi m q=>by
  rw[HL hi] at m
  exact MI.tx (u:=[X.getD ia 0]) m fun x hx y hy=>by rw[fJ.mp hx];exact q y hy
 have Yu:∀{O ia ib},ib < Y.length->MI (Le r) (X++Y) O (X.drop ia) (Y.drop ib)->(∀x∈X.drop ia,r (Y.getD ib 0)<=r x)->MI (Le r) (X++Y) (O++[Y.getD ib 0]) (X.drop ia) (Y.drop (ib+1)):=fun {O ia ib} hi m q=>by
  rw[HL hi] at m
  exact MI.ty (u:=[Y.getD ib 0]) m fun x hx y hy=>by rw[fJ.mp hx];exact q y hy
 have M0:MI (Le r) (X++Y) [Y.getD 0 0] (X.drop 0) (Y.drop 1):=
  Yu (O:=[]) lY ⟨by simp,.nil,sX,sY,fun o ho=>aI4 ho eS,fun o ho=>aI4 ho eS⟩ fun x hx=>h0 x hx
 refine aJ (pV (aJ (d7 (get_some lY) (bC (fun z=>?_) fun z1=>bC (fun z=>?_) fun z2=>aJ (lW (aJ ?_))))))
 ·obtain ⟨Z,e,d⟩:=xS (o:=#[f (Y.getD 0 0)]) rfl M0 (.inr (zY z))
  have q:=h Z st (.refl _) d
  rw[<- e] at q
  exact aP q
 ·obtain ⟨Z,e,d⟩:=Br (o:=#[f (Y.getD 0 0)]) rfl M0 (zX z)
  have q:=h Z st (.refl _) d
  rw[<- e] at q
  exact aP q
 have z1:=zY' z1
 have z2:=zX' z2
 refine jT (j4 (I:=fun x c st'=>aH st st'/\c.1=none/\∃O,c.2.1=arr f O/\LI r X Y O c.2.2.1 c.2.2.2.1/\x+1<=O.length) (Q:=fun c st'=>aH st st'/\∃res,c.1=some res/\Gd res) ?step ?fin ⟨.refl _,rfl,[Y.getD 0 0],rfl,⟨by show 0+1 < _;lia,by show 1 < _;lia,rfl,M0⟩,bf _⟩) ?post
 case post=>
  rintro ⟨_,c⟩ st' ⟨S,_,rfl,Z,rfl,d⟩
  exact aP (h Z st' S d)
 case fin=>
  rintro ⟨_,_,ia,ib,mg⟩ st' ⟨_,rfl,O,rfl,L,hO⟩
  have:=L.a
  have:=L.b
  have:=L.l
  rw[cF,cF] at hO
  dsimp only at *
  lia
 case step=>
  rintro x ⟨_,_,ia,ib,mg⟩ kj _ hx ⟨S1,rfl,O,rfl,L,hO⟩
  refine aJ (jT (j4 (I:=fun z c st'=>aH st st'/\c.1=none/\∃O',c.2.1=arr f O'/\LI r X Y O' c.2.2.1 c.2.2.2.1/\O.length+z<=O'.length)
   (Q:=fun c st'=>aH st st'/\((∃res,c.1=some res/\Gd res)\/c.1=none/\∃O',c.2.1=arr f O'/\LI r X Y O' c.2.2.1 c.2.2.2.1/\O.length+1<=O'.length)) ?s1 ?f1 ⟨S1,rfl,O,rfl,L,bf _⟩) ?p1)
  case f1=>
   rintro ⟨_,_,ia,ib,ac,bc⟩ st' ⟨S2,rfl,O',rfl,L',Rl⟩
   exact⟨S2,.inr ⟨rfl,O',rfl,L',by rw[cF,cF] at Rl;lia⟩⟩
  case s1=>
   rintro z ⟨_,_,ia,ib,ac,bc⟩ mG _ hz ⟨S2,rfl,O',rfl,L',Rl⟩
   have la:ia+1 < X.length:=L'.a
   have lb:ib < Y.length:=L'.b
   have ll:O'.length=ia+ib:=L'.l
   have lm:MI (Le r) (X++Y) O' (X.drop ia) (Y.drop ib):=L'.m
   refine aJ (d7 (get_some lb) (aJ (d7 (get_some (show ia < X.length by lia)) (aJ (D4 hc (S2.kd.trans hk) (gY ib lb) (gX ia (by lia)) (bC (fun cw=>?_) fun cw=>?_))))))
   ·have cw:r (Y.getD ib 0) < r (X.getD ia 0):=aH8 cw
    have M2:=Yu lb lm fun x hx=>by obtain ⟨j,j1,j2,rfl⟩:=jq hx;have:=jo sX j1 j2;lia
    refine aJ (d7 (get_some lb) (bC (fun c3=>aP ⟨S2,.inl ⟨_,rfl,xS (fT _ _) M2 (.inr (zY c3))⟩⟩) fun c3=>?_))
    have c3:ib+1≠Y.length:=zY' c3
    have L2:LI r X Y (O'++[Y.getD ib 0]) ia (ib+1):=⟨la,by lia,by rw[bU,ll];simp;lia,M2⟩
    refine bC (fun c4=>aP ⟨S2,.inr ⟨rfl,_,fT _ _,L2,?_⟩⟩) fun c4=>aP ⟨S2,rfl,_,fT _ _,L2,?_⟩ <;> (rw[bU];simp;lia)
   ·have cw:¬ r (Y.getD ib 0) < r (X.getD ia 0):=fun z=>cw (aH4 z)
    have M2:=Yt (show ia < X.length by lia) lm fun y hy=>by obtain ⟨j,j1,j2,rfl⟩:=jq hy;have:=jo sY j1 j2;lia
    refine aJ (d7 (get_some (show ia < X.length by lia)) (bC (fun c3=>aP ⟨S2,.inl ⟨_,rfl,Br (fT _ _) M2 (zX c3)⟩⟩) fun c3=>?_))
    have c3:ia+1+1≠X.length:=zX' c3
    have L2:LI r X Y (O'++[X.getD ia 0]) (ia+1) ib:=⟨by lia,lb,by rw[bU,ll];simp;lia,M2⟩
    refine bC (fun c4=>aP ⟨S2,.inr ⟨rfl,_,fT _ _,L2,?_⟩⟩) fun c4=>aP ⟨S2,rfl,_,fT _ _,L2,?_⟩ <;> (rw[bU];simp;lia)
  case p1=>
   rintro ⟨_,_,ia,ib,ac,bc⟩ mG ⟨S2,⟨res,rfl,d⟩ | ⟨rfl,O',rfl,L',Rl⟩⟩
   ·exact aP ⟨S2,res,rfl,d⟩
   refine aJ (pV (aJ (jT (j4 (I:=fun z c st'=>aH st st'/\c.1=none/\∃lB,c.2.1=arr f lB/\LI r X Y lB c.2.2.1 c.2.2.2.1/\O.length+1<=lB.length)
    (Q:=fun c st'=>aH st st'/\((∃res,c.1=some res/\Gd res)\/c.1=none/\∃lB,c.2.1=arr f lB/\LI r X Y lB c.2.2.1 c.2.2.2.1/\O.length+1<=lB.length)) ?s2 ?f2 ⟨S2,rfl,O',rfl,L',Rl⟩) ?p2)))
   case f2=>
    rintro ⟨_,_,ia,ib,mg,ac,bc⟩ st' ⟨S3,rfl,lB,rfl,Bs,Gg⟩
    exact⟨S3,.inr ⟨rfl,lB,rfl,Bs,Gg⟩⟩
   case p2=>
    rintro ⟨_,_,ia,ib,mg,ac,bc⟩ CN ⟨S3,⟨res,rfl,d⟩ | ⟨rfl,lB,rfl,Bs,Gg⟩⟩
    ·exact aP ⟨S3,res,rfl,d⟩
    exact aJ (Bq (aP ⟨S3.mg _,rfl,lB,rfl,Bs,by lia⟩))
   case s2=>
    rintro z ⟨_,_,ia,ib,mg',ac,bc⟩ CN _ hz ⟨S3,rfl,lB,rfl,Bs,Gg⟩
    have la:ia+1 < X.length:=Bs.a
    have lb:ib < Y.length:=Bs.b
    have ll:lB.length=ia+ib:=Bs.l
    have lm:MI (Le r) (X++Y) lB (X.drop ia) (Y.drop ib):=Bs.m
    refine bC (fun cg=>?_) fun cg=>?_
    all_goals
     refine aJ (Bq (aJ (d7 (get_some lb) (aJ (uH (b:=ia) (key:=Y.getD ib 0) (m:=(arr f X).size - ia) hc ((S3.mg _).kd.trans hk) hX (gY ib lb) (by rw[cF];lia) (by rw[cF];lia) (fun i j n6 hj q=>?_) fun k k1 k2 k3=>?_)))))
     ·rw[cF] at hj
      exact Qw.mpr (cC (jo sX (show ia+i<=ia+j by lia) (by lia)) (Qw.mp q))
     rw[cF] at k1 k3
     have M2:MI (Le r) (X++Y) (lB++X.extract ia (ia+k)) (X.drop (ia+k)) (Y.drop ib):=by
      have m:=lm
      rw[xR (i:=ia) (k:=k)] at m
      refine m.tx fun x hx y hy=>?_
      obtain ⟨j,j1,rfl⟩:=HM (by lia) hx
      obtain ⟨j',j2,j3,rfl⟩:=jq hy
      exact cC (Qw.mp (k2 j j1)) (jo sY j2 j3)
     have Mx:∀x∈X.drop (ia+k),r (Y.getD ib 0)<=r x:=fun x hx=>by
      obtain ⟨j,j1,j2,rfl⟩:=jq hx
      have:=k3 (j - ia) (by lia) (by lia)
      rw[show ia+(j - ia)=j by lia] at this
      exact jf (VH.mp this)
     have l1:(lB++X.extract ia (ia+k)).length=ia+k+ib:=by rw[bU,ll];simp[gr];lia
     have l2:O.length+1<=(lB++X.extract ia (ia+k)).length:=by lia
     have e2:arr f lB++(arr f X).extract ia (ia+k)=arr f (lB++X.extract ia (ia+k)):=by rw[gK,iW]
     have e0:k=0->arr f lB=arr f (lB++X.extract ia (ia+k)):=fun z=>by rw[z];simp[gr]
     generalize lB++X.extract ia (ia+k)=O1 at *
     have M3:=Yu lb M2 Mx
     have gB:∀x∈X.drop (ia+k),r (X.getD (ia+k) 0)<=r x:=fun x hx=>by obtain ⟨j,j1,j2,rfl⟩:=jq hx;exact jo sX j1 j2
     refine bC (fun ck=>bC (fun c3=>aP ⟨S3.mg _,.inl ⟨_,rfl,Br e2 M2 (zX c3)⟩⟩) fun c3=>bC (fun c4=>aP ⟨S3.mg _,.inl ⟨_,rfl,xS e2 M2 (.inl (zX c4))⟩⟩) fun c4=>?_) fun ck=>?_
     have NH:ia+k+1 < X.length:=by
      have c3:ia+k+1≠X.length:=zX' c3
      have c4:ia+k≠X.length:=zX' c4
      lia
     have eo:=e2
     rotate_left
     obtain rfl:k=0:=by
      have:¬ k > 0:=ck
      lia
     have NH:ia+0+1 < X.length:=la
     have eo:=e0 rfl
     all_goals
      refine aJ (d7 (get_some lb) (bC (fun c5=>aP ⟨S3.mg _,.inl ⟨_,rfl,xS (Qx eo) M3 (.inr (zY c5))⟩⟩) fun c5=>?_))
      have c5:ib+1≠Y.length:=zY' c5
      refine aJ (d7 (get_some (u9 NH)) (aJ (uH (b:=ib+1) (m:=(arr f Y).size - (ib+1)) hc ((S3.mg _).kd.trans hk) hY (gX _ (u9 NH)) (by rw[cF];lia) (by rw[cF];lia) (fun i j n6 hj q=>?_) fun k' Yv Yw Uc=>?_)))
      ·rw[cF] at hj
       exact Rj.mpr (qP (jo sY (show ib+1+i<=ib+1+j by lia) (by lia)) (Rj.mp q))
      rw[cF] at Yv Uc
      have l3:(O1++[Y.getD ib 0]++Y.extract (ib+1) (ib+1+k')).length=O1.length+1+k':=by simp[gr];lia
      have M4:=xR (X:=Y) (i:=ib+1) (k:=k')▸M3
      have M4:=M4.ty fun y hy x hx=>by
       obtain ⟨j,j1,rfl⟩:=HM (by lia) hy
       exact cC (jf (Rj.mp (Yw j j1))) (gB x hx)
      have My:=fun y (hy:y∈Y.drop (ib+1+k'))=>show r (X.getD _ 0)<=r y by
       obtain ⟨j,j1,j2,rfl⟩:=jq hy
       have q:=Uc (j - (ib+1)) (by lia) (by lia)
       rw[show ib+1+(j - (ib+1))=j by lia] at q
       exact Rk.mp q
      have M5:=Yt (u9 NH) M4 My
      have e4:(arr f (O1++[Y.getD ib 0]))++(arr f Y).extract (ib+1) (ib+1+k')=arr f (O1++[Y.getD ib 0]++Y.extract (ib+1) (ib+1+k')):=by rw[gK,iW]
      have e5:k'=0->arr f (O1++[Y.getD ib 0])=arr f (O1++[Y.getD ib 0]++Y.extract (ib+1) (ib+1+k')):=fun z=>by rw[z];simp[gr]
      generalize O1++[Y.getD ib 0]++Y.extract (ib+1) (ib+1+k')=O4 at *
      rw[<- Qx eo] at e4 e5
      refine bC (fun ck=>bC (fun c6=>aP ⟨S3.mg _,.inl ⟨_,rfl,xS e4 M4 (.inr (zY c6))⟩⟩) fun c6=>?_) fun ck=>?_
      have VJ:ib+1+k' < Y.length:=by
       have c6:ib+1+k'≠Y.length:=zY' c6
       lia
      have eo:=e4
      rotate_left
      obtain rfl:k'=0:=by
       have:¬ k' > 0:=ck
       lia
      have VJ:ib+1+0 < Y.length:=by lia
      have eo:=e5 rfl
      all_goals
       refine aJ (d7 (get_some (u9 NH)) (bC (fun c7=>aP ⟨S3.mg _,.inl ⟨_,rfl,Br (Qx eo) M5 (zX c7)⟩⟩) fun c7=>?_))
       have c7:=zX' c7
       refine bC (fun _=>aP ⟨S3.mg _,.inr ⟨rfl,_,Qx eo,⟨Lq NH c7,VJ,?_,M5⟩,?_⟩⟩) fun _=>aP ⟨S3.mg _,rfl,_,Qx eo,⟨Lq NH c7,VJ,?_,M5⟩,?_⟩ <;> (rw[bU,l3,l1];simp;lia)
end
end
noncomputable section
section
abbrev Ge(r:Nat->Nat):Nat->Nat->Prop:=fun a b=>r b<=r a
abbrev tr(X:List Nat)(i:Nat):List Nat:=(X.take i).reverse
theorem Ud{X:List Nat}(h0:0 < i)(h:i<=X.length):tr X i=X.getD (i - 1) 0::tr X (i - 1):=by
 obtain ⟨j,rfl⟩:∃j,i=j+1:=⟨i - 1,by lia⟩
 rw[tr,List.take_succ_eq_append_getElem (by lia),LH]
 simp[show j < X.length by lia]
theorem D5(h:k<=i):tr X i=(X.extract k i).reverse++tr X k:=by
 rw[tr,tr,<- LH,gr,<- List.take_add,show k+(i - k)=i by lia]
theorem rg(h:x∈tr X i):∃j,j < i/\j < X.length/\x=X.getD j 0:=by
 obtain ⟨k,hk,e⟩:=j0.mp (uo.mp h)
 rw[kL] at hk
 exact⟨k,by lia,by lia,by rw[<- e];simp[show k < X.length by lia]⟩
theorem NI{X:List Nat}(hi:i<=X.length)(h:x∈(X.extract k i).reverse):∃j,k<=j/\j < i/\x=X.getD j 0:=by
 obtain ⟨q,hq,e⟩:=j0.mp (uo.mp h)
 have Rh:q < i - k:=by simp[gr] at hq;lia
 refine⟨k+q,by lia,by lia,?_⟩
 rw[<- e]
 simp[gr,show k+q < X.length by lia]
theorem sF{X:List Nat}:X.extract 0 i=X.take i:=by simp[gr]
structure HI(r:Nat->Nat)(X Y O:List Nat)(na nb:Nat):Prop where
 a:0 < na
 a':na<=X.length
 b:1 < nb
 b':nb<=Y.length
 l:O.length+na+nb=X.length+Y.length
 m:MI (Ge r) (X++Y) O (tr X na) (tr Y nb)
end
section
variable {kd:iD}{st:bI}
theorem VL{Q:Array Keyed->bI->Prop}(hc:Cm prog w A s kd f n r)(hk:kindOf st=kd)(hX:∀x∈X,x < n)(hY:∀y∈Y,y < n)(sX:X.Pairwise (Le r))(sY:Y.Pairwise (Le r))(lX:0 < X.length)(lY:0 < Y.length)
  (h0:∀x∈X,r (Y.getD 0 0)<=r x) (hl:∀y∈Y,r y<=r (X.getD (X.length - 1) 0)) (h:∀Z st',aH st st'->Dn (Le r) (X++Y) Z->Q (arr f Z) st') :
  wpS (aC prog w) A E s (mhi (arr f X) (arr f Y)) Q st:=by
 let Gd:Array Keyed->Prop:=fun res=>∃Z,res=arr f Z/\Dn (Le r) (X++Y) Z
 have rv:∀{Z},Dn (Ge r) (X++Y) Z->Dn (Le r) (X++Y) Z.reverse:=fun d=>⟨(Fe _).trans d.1,Ff.mpr d.2⟩
 have xS:∀{O na nb o},o=arr f O->MI (Ge r) (X++Y) O (tr X na) (tr Y nb)->(na=0\/nb=0)->Gd ((arr f X).extract 0 na++(arr f Y).extract 0 nb++o.reverse):=fun {O na nb o} e m q=>by
  refine⟨(O++tr Y nb++tr X na).reverse,?_,rv (m.ad5 fun y hy x hx=>?_)⟩
  ·rw[e,gK,gK,w6,sF,sF,iW,iW];simp[tr]
  ·rcases q with q | q
   ·rw[q] at hx;simp[tr] at hx
   ·rw[q] at hy;simp[tr] at hy
 have Br:∀{O na nb o},o=arr f O->MI (Ge r) (X++Y) O (tr X na) (tr Y nb)->nb=1->Gd ((arr f Y).extract 0 nb++(arr f X).extract 0 na++o.reverse):=fun {O na nb o} e m q=>by
  refine⟨(O++tr X na++tr Y nb).reverse,?_,rv (m.fin fun x hx y hy=>?_)⟩
  ·rw[e,gK,gK,w6,sF,sF,iW,iW];simp[tr]
  ·obtain ⟨j,j1,j2,rfl⟩:=rg hy
   rw[show j=0 by lia]
   exact h0 x (oH (uo.mp hx))
 have gX:∀i,i < X.length->X.getD i 0 < n:=fun i hi=>hX _ (get_mem hi)
 have gY:∀i,i < Y.length->Y.getD i 0 < n:=fun i hi=>hY _ (get_mem hi)
 have Yt:∀{O na nb},0 < na->na<=X.length->MI (Ge r) (X++Y) O (tr X na) (tr Y nb)->(∀y∈tr Y nb,r y<=r (X.getD (na - 1) 0))->MI (Ge r) (X++Y) (O++[X.getD (na - 1) 0]) (tr X (na - 1)) (tr Y nb):=fun {O na nb} hi VG m q=>by
  rw[Ud hi VG] at m
  exact MI.tx (u:=[X.getD (na - 1) 0]) m fun x hx y hy=>by rw[fJ.mp hx];exact q y hy
 have Yu:∀{O na nb},0 < nb->nb<=Y.length->MI (Ge r) (X++Y) O (tr X na) (tr Y nb)->(∀x∈tr X na,r x<=r (Y.getD (nb - 1) 0))->MI (Ge r) (X++Y) (O++[Y.getD (nb - 1) 0]) (tr X na) (tr Y (nb - 1)):=fun {O na nb} hi VG m q=>by
  rw[Ud hi VG] at m
  exact MI.ty (u:=[Y.getD (nb - 1) 0]) m fun x hx y hy=>by rw[fJ.mp hx];exact q y hy
 have upX:∀{na x},na<=X.length->x∈tr X na->r x<=r (X.getD (na - 1) 0):=fun {na x} hi hx=>by obtain ⟨j,j1,j2,rfl⟩:=rg hx;exact jo sX (by lia) (by lia)
 have upY:∀{nb y},nb<=Y.length->y∈tr Y nb->r y<=r (Y.getD (nb - 1) 0):=fun {nb y} hi hy=>by obtain ⟨j,j1,j2,rfl⟩:=rg hy;exact jo sY (by lia) (by lia)
 have M0:MI (Ge r) (X++Y) [X.getD (X.length - 1) 0] (tr X (X.length - 1)) (tr Y Y.length):=
  Yt (O:=[]) lX (bf _) ⟨by simp only[tr,wY,i0];exact(Fe _).append (Fe _),.nil,by simpa only[tr,wY] using Ff.mpr sX,by simpa only[tr,wY] using Ff.mpr sY,fun o ho=>aI4 ho eS,fun o ho=>aI4 ho eS⟩ fun y hy=>hl y (oH (uo.mp hy))
 have sx:=cF (f:=f) X
 have sy:=cF (f:=f) Y
 refine aJ (pV (aJ (d7 (i:=(arr f X).size - 1) (by rw[sx];exact get_some (by lia)) (bC (fun z=>?_) fun z1=>bC (fun z=>?_) fun z2=>aJ (lW (aJ ?_))))))
 ·obtain ⟨Z,e,d⟩:=xS (o:=#[f (X.getD (X.length - 1) 0)]) rfl M0 (.inl (by rw[<- sx];exact aH6.mp z))
  have q:=h Z st (.refl _) d
  rw[<- e] at q
  exact aP (by rw[sx,sy];exact q)
 ·obtain ⟨Z,e,d⟩:=Br (o:=#[f (X.getD (X.length - 1) 0)]) rfl M0 (by rw[<- sy];exact aH6.mp z)
  have q:=h Z st (.refl _) d
  rw[<- e] at q
  exact aP (by rw[sx,sy];exact q)
 have z1:X.length - 1≠0:=fun e=>z1 (by show ((arr f X).size - 1==0)=true;rw[sx];exact aH6.mpr e)
 have z2:Y.length≠1:=fun e=>z2 (by rw[sy];exact aH6.mpr e)
 refine jT (j4 (I:=fun x c st'=>aH st st'/\c.1=none/\∃O,c.2.2.2.1=arr f O/\HI r X Y O c.2.1 c.2.2.1/\x+1<=O.length) (Q:=fun c st'=>aH st st'/\∃res,c.1=some res/\Gd res) ?step ?fin ?init) ?post
 case init=>exact⟨.refl _,rfl,[X.getD (X.length - 1) 0],rfl,by
  show HI r X Y _ ((arr f X).size - 1) (arr f Y).size
  rw[sx,sy]
  exact⟨by lia,by lia,by lia,bf _,by simp;lia,M0⟩,bf _⟩
 case post=>
  rintro ⟨_,c⟩ st' ⟨S,_,rfl,Z,rfl,d⟩
  exact aP (h Z st' S d)
 case fin=>
  rintro ⟨_,na,nb,_,mg⟩ st' ⟨_,rfl,O,rfl,L,hO⟩
  have:=L.a
  have:=L.b
  have:=L.l
  rw[sx,sy] at hO
  dsimp only at *
  lia
 case step=>
  rintro x ⟨_,na,nb,_,mg⟩ kj _ hx ⟨S1,rfl,O,rfl,L,hO⟩
  refine aJ (jT (j4 (I:=fun z c st'=>aH st st'/\c.1=none/\∃O',c.2.2.2.1=arr f O'/\HI r X Y O' c.2.1 c.2.2.1/\O.length+z<=O'.length)
   (Q:=fun c st'=>aH st st'/\((∃res,c.1=some res/\Gd res)\/c.1=none/\∃O',c.2.2.2.1=arr f O'/\HI r X Y O' c.2.1 c.2.2.1/\O.length+1<=O'.length)) ?s1 ?f1 ⟨S1,rfl,O,rfl,L,bf _⟩) ?p1)
  case f1=>
   rintro ⟨_,na,nb,_,ac,bc⟩ st' ⟨S2,rfl,O',rfl,L',Rl⟩
   exact⟨S2,.inr ⟨rfl,O',rfl,L',by rw[sx,sy] at Rl;lia⟩⟩
  case s1=>
   rintro z ⟨_,na,nb,_,ac,bc⟩ mG _ hz ⟨S2,rfl,O',rfl,L',Rl⟩
   have la:0 < na:=L'.a
   have Qy:na<=X.length:=L'.a'
   have lb:1 < nb:=L'.b
   have Yx:nb<=Y.length:=L'.b'
   have ll:O'.length+na+nb=X.length+Y.length:=L'.l
   have lm:MI (Ge r) (X++Y) O' (tr X na) (tr Y nb):=L'.m
   have ga:na - 1 < X.length:=by lia
   have gb:nb - 1 < Y.length:=by lia
   refine aJ (d7 (get_some gb) (aJ (d7 (get_some ga) (aJ (D4 hc (S2.kd.trans hk) (gY (nb - 1) gb) (gX (na - 1) ga) (bC (fun cw=>?_) fun cw=>?_))))))
   ·have cw:r (Y.getD (nb - 1) 0) < r (X.getD (na - 1) 0):=aH8 cw
    have M2:=Yt la Qy lm fun y hy=>cC (upY Yx hy) (jf cw)
    refine aJ (d7 (get_some ga) (bC (fun c3=>aP ⟨S2,.inl ⟨_,rfl,xS (fT _ _) M2 (.inl (aH6.mp c3))⟩⟩) fun c3=>?_))
    have c3:na - 1≠0:=fun e=>c3 (aH6.mpr e)
    have L2:HI r X Y (O'++[X.getD (na - 1) 0]) (na - 1) nb:=⟨by lia,by lia,lb,Yx,by rw[bU];simp;lia,M2⟩
    refine bC (fun c4=>aP ⟨S2,.inr ⟨rfl,_,fT _ _,L2,?_⟩⟩) fun c4=>aP ⟨S2,rfl,_,fT _ _,L2,?_⟩ <;> (rw[bU];simp;lia)
   ·have cw:¬ r (Y.getD (nb - 1) 0) < r (X.getD (na - 1) 0):=fun z=>cw (aH4 z)
    have M2:=Yu (by lia) Yx lm fun x hx=>cC (upX Qy hx) (qO cw)
    refine aJ (d7 (get_some gb) (bC (fun c3=>aP ⟨S2,.inl ⟨_,rfl,Br (fT _ _) M2 (aH6.mp c3)⟩⟩) fun c3=>?_))
    have c3:nb - 1≠1:=fun e=>c3 (aH6.mpr e)
    have L2:HI r X Y (O'++[Y.getD (nb - 1) 0]) na (nb - 1):=⟨la,Qy,by lia,by lia,by rw[bU];simp;lia,M2⟩
    refine bC (fun c4=>aP ⟨S2,.inr ⟨rfl,_,fT _ _,L2,?_⟩⟩) fun c4=>aP ⟨S2,rfl,_,fT _ _,L2,?_⟩ <;> (rw[bU];simp;lia)
  case p1=>
   rintro ⟨_,na,nb,_,ac,bc⟩ mG ⟨S2,⟨res,rfl,d⟩ | ⟨rfl,O',rfl,L',Rl⟩⟩
   ·exact aP ⟨S2,res,rfl,d⟩
   refine aJ (pV (aJ (jT (j4 (I:=fun z c st'=>aH st st'/\c.1=none/\∃lB,c.2.2.2.1=arr f lB/\HI r X Y lB c.2.1 c.2.2.1/\O.length+1<=lB.length)
    (Q:=fun c st'=>aH st st'/\((∃res,c.1=some res/\Gd res)\/c.1=none/\∃lB,c.2.2.2.1=arr f lB/\HI r X Y lB c.2.1 c.2.2.1/\O.length+1<=lB.length)) ?s2 ?f2 ⟨S2,rfl,O',rfl,L',Rl⟩) ?p2)))
   case f2=>
    rintro ⟨_,na,nb,_,mg,ac,bc⟩ st' ⟨S3,rfl,lB,rfl,Bs,Gg⟩
    exact⟨S3,.inr ⟨rfl,lB,rfl,Bs,Gg⟩⟩
   case p2=>
    rintro ⟨_,na,nb,_,mg,ac,bc⟩ CN ⟨S3,⟨res,rfl,d⟩ | ⟨rfl,lB,rfl,Bs,Gg⟩⟩
    ·exact aP ⟨S3,res,rfl,d⟩
    exact aJ (Bq (aP ⟨S3.mg _,rfl,lB,rfl,Bs,by lia⟩))
   case s2=>
    rintro z ⟨_,na,nb,_,mg',ac,bc⟩ CN _ hz ⟨S3,rfl,lB,rfl,Bs,Gg⟩
    have la:0 < na:=Bs.a
    have Qy:na<=X.length:=Bs.a'
    have lb:1 < nb:=Bs.b
    have Yx:nb<=Y.length:=Bs.b'
    have ll:lB.length+na+nb=X.length+Y.length:=Bs.l
    have lm:MI (Ge r) (X++Y) lB (tr X na) (tr Y nb):=Bs.m
    have gb:nb - 1 < Y.length:=by lia
    refine bC (fun cg=>?_) fun cg=>?_
    all_goals
     refine aJ (Bq (aJ (d7 (get_some gb) (aJ (uH (b:=0) (key:=Y.getD (nb - 1) 0) (m:=na) (hint:=na - 1) hc ((S3.mg _).kd.trans hk) hX (gY (nb - 1) gb) (by lia) (by lia) (fun i j n6 hj q=>?_) fun k k1 k2 k3=>?_)))))
     ·exact Qw.mpr (cC (jo sX (show 0+i<=0+j by lia) (by lia)) (Qw.mp q))
     simp only[kK] at k2 k3
     have M2:MI (Ge r) (X++Y) (lB++(X.extract k na).reverse) (tr X k) (tr Y nb):=by
      have m:=lm
      rw[D5 k1] at m
      refine m.tx fun x hx y hy=>?_
      obtain ⟨j,j1,j2,rfl⟩:=NI Qy hx
      exact cC (upY Yx hy) (jf (VH.mp (k3 j j1 j2)))
     have Mx:∀x∈tr X k,r x<=r (Y.getD (nb - 1) 0):=fun x hx=>by
      obtain ⟨j,j1,j2,rfl⟩:=rg hx
      exact Qw.mp (k2 j j1)
     have l1:(lB++(X.extract k na).reverse).length+k+nb=X.length+Y.length:=by rw[bU,List.length_reverse];simp[gr];lia
     have l2:O.length+1<=(lB++(X.extract k na).reverse).length:=by lia
     have e2:arr f lB++((arr f X).extract k na).reverse=arr f (lB++(X.extract k na).reverse):=by rw[gK,w6,iW]
     have e0:na=k->arr f lB=arr f (lB++(X.extract k na).reverse):=fun z=>by rw[z];simp[gr]
     generalize lB++(X.extract k na).reverse=O1 at *
     have M3:=Yu (by lia) Yx M2 Mx
     refine bC (fun ck=>bC (fun c3=>aP ⟨S3.mg _,.inl ⟨_,rfl,xS e2 M2 (.inl (aH6.mp c3))⟩⟩) fun c3=>?_) fun ck=>?_
     have NH:0 < k:=by
      have c3:k≠0:=fun e=>c3 (aH6.mpr e)
      lia
     have eo:=e2
     rotate_left
     obtain rfl:na=k:=by
      have:¬ na - k > 0:=ck
      lia
     have NH:=la
     have eo:=e0 rfl
     all_goals
      refine aJ (d7 (get_some gb) (bC (fun c5=>aP ⟨S3.mg _,.inl ⟨_,rfl,Br (Qx eo) M3 (aH6.mp c5)⟩⟩) fun c5=>?_))
      have c5:nb - 1≠1:=fun e=>c5 (aH6.mpr e)
      have ga:=iJ (Nat.sub_lt NH Nat.zero_lt_one) (cC k1 Qy)
      refine aJ (d7 (get_some ga) (aJ (uH (b:=0) (m:=nb - 1) (hint:=nb - 1 - 1) hc ((S3.mg _).kd.trans hk) hY (gX _ ga) (by lia) (by lia) (fun i j n6 hj q=>?_) fun k' Yv Yw Uc=>?_)))
      ·exact Rj.mpr (qP (jo sY (show 0+i<=0+j by lia) (by lia)) (Rj.mp q))
      simp only[kK] at Yw Uc
      have l3:(O1++[Y.getD (nb - 1) 0]++(Y.extract k' (nb - 1)).reverse).length=O1.length+1+(nb - 1 - k'):=by simp[gr];lia
      have M4:=D5 (X:=Y) Yv▸M3
      have M4:=M4.ty fun y hy x hx=>by
       obtain ⟨j,j1,j2,rfl⟩:=NI (by lia) hy
       exact cC (upX (cC k1 Qy) hx) (Rk.mp (Uc j j1 j2))
      have My:=fun y (hy:y∈tr Y k')=>show r y<=r (X.getD _ 0) by
       obtain ⟨j,j1,j2,rfl⟩:=rg hy
       exact jf (Rj.mp (Yw j j1))
      have M5:=Yt NH (cC k1 Qy) M4 My
      have e4:arr f (O1++[Y.getD (nb - 1) 0])++((arr f Y).extract k' (nb - 1)).reverse=arr f (O1++[Y.getD (nb - 1) 0]++(Y.extract k' (nb - 1)).reverse):=by rw[gK,w6,iW]
      have e5:nb - 1=k'->arr f (O1++[Y.getD (nb - 1) 0])=arr f (O1++[Y.getD (nb - 1) 0]++(Y.extract k' (nb - 1)).reverse):=fun z=>by rw[<- z];simp[gr]
      generalize O1++[Y.getD (nb - 1) 0]++(Y.extract k' (nb - 1)).reverse=O4 at *
      rw[<- Qx eo] at e4 e5
      refine bC (fun ck=>bC (fun c6=>aP ⟨S3.mg _,.inl ⟨_,rfl,Br e4 M4 (aH6.mp c6)⟩⟩) fun c6=>bC (fun c7=>aP ⟨S3.mg _,.inl ⟨_,rfl,xS e4 M4 (.inr (aH6.mp c7))⟩⟩) fun c7=>?_) fun ck=>?_
      have VJ:1 < k':=by
       have c6:k'≠1:=fun e=>c6 (aH6.mpr e)
       have c7:k'≠0:=fun e=>c7 (aH6.mpr e)
       lia
      have eo:=e4
      rotate_left
      obtain rfl:nb - 1=k':=by
       have:¬ nb - 1 - k' > 0:=ck
       lia
      have VJ:1 < nb - 1:=by lia
      have eo:=e5 rfl
      all_goals
       refine aJ (d7 (get_some ga) (bC (fun c8=>aP ⟨S3.mg _,.inl ⟨_,rfl,xS (Qx eo) M5 (.inl (aH6.mp c8))⟩⟩) fun c8=>?_))
       have c8:=fun e=>c8 (aH6.mpr e)
       refine bC (fun _=>aP ⟨S3.mg _,.inr ⟨rfl,_,Qx eo,⟨EX c8,cC (Nat.sub_le _ _) (cC k1 Qy),VJ,cC Yv (by lia),?_,M5⟩,?_⟩⟩) fun _=>aP ⟨S3.mg _,rfl,_,Qx eo,⟨EX c8,cC (Nat.sub_le _ _) (cC k1 Qy),VJ,cC Yv (by lia),?_,M5⟩,?_⟩ <;> (rw[bU,l3];simp;lia)
end
end
noncomputable section
theorem NJ{B:List Nat}(h:i < B.length):(P++(B++R)).getD (P.length+i) 0=B.getD i 0:=by
 simp[nu,nj,qR,h]
theorem HN{P B:List Nat}(hi:i=P.length)(hj:j=P.length+B.length):(P++(B++R)).extract i j=B:=by
 subst hi;subst hj
 simp[gr]
theorem NK:∀(L U V R:List Keyed) (k:Nat),U.length=sa+k->V.length=L.length->(L.zipIdx k).foldl (fun a (q:Keyed×Nat)=>a.setIfInBounds (sa+q.2) q.1) (U++(V++R)).toArray=(U++(L++R)).toArray
 | [],U,V,R,k,_,hv=>by
  have:V=[]:=oJ.mp hv
  subst this;rfl
 | l::L,U,[],R,k,_,hv=>by simp at hv
 | l::L,U,v::V,R,k,hu,hv=>by
  rw[List.zipIdx_cons,LJ]
  have e:(U++(v::V++R)).toArray.setIfInBounds (sa+k) l=((U++[l])++(V++R)).toArray:=by
   rw[<- hu]
   simp[List.set_append]
  show List.foldl _ ((U++(v::V++R)).toArray.setIfInBounds (sa+k) l) _=_
  rw[e,NK L (U++[l]) V R (k+1) (by simp;lia) (by simpa using hv)]
  simp
theorem uI{X Y:List Nat}:(X++Y).Pairwise le↔X.Pairwise le/\Y.Pairwise le/\∀a∈X,∀b∈Y,le a b:=wX
theorem Bt{X:List Nat}{x:Nat}(h:x∈X):∃j,j < X.length/\x=X.getD j 0:=by
 obtain ⟨j,hj,e⟩:=j0.mp h
 exact⟨j,hj,by rw[<- e];simp[hj]⟩
section
variable {kd:iD}
theorem VM{st st':bI}{Q:PUnit->bI->Prop}(h:Q ⟨⟩ st'):wpS (aC prog w) A E s (set st':StateT bI Sem PUnit) Q st:=by
 unfold wpS;rw[StateT.run_set];exact aA ⟨rfl,h⟩
structure Wt(kd:iD)(f:Nat->Keyed)(p:List Nat)(pe:Array (Nat×Nat×Nat))(st:bI):Prop where
 k:kindOf st=kd
 a:arrOf st=arr f p
 p:pendingOf st=pe
 e:failedOf st=none
theorem VN{i sa na nb pw Yy:Nat}{P1 B1 B2 P2:List Nat}{pe:Array (Nat×Nat×Nat)}{st:bI}{Q:Bool->bI->Prop}(hc:Cm prog w A s kd f n r)(W:Wt kd f (P1++(B1++(B2++P2))) pe st)(hp:∀x∈P1++(B1++(B2++P2)),x < n)
  (e1:pe[i]?=some (sa,na,pw)) (e2:pe[i+1]?=some (sa+na,nb,Yy)) (hs:P1.length=sa) (ha:B1.length=na) (hb:B2.length=nb) (h1:0 < na) (h2:0 < nb) (s1:B1.Pairwise (Le r)) (s2:B2.Pairwise (Le r))
  (h:∀M st',M.Perm (B1++B2)->M.Pairwise (Le r)->Wt kd f (P1++(M++P2)) ((pe.setIfInBounds i (sa,na+nb,pw)).eraseIdxIfInBounds (i+1)) st'->Q true st'):wpS (aC prog w) A E s (mergeAt' i) Q st:=by
 obtain ⟨Ue,a',p',g,e'⟩:=st
 obtain rfl:Ue=kd:=W.k
 obtain rfl:a'=arr f (P1++(B1++(B2++P2))):=W.a
 obtain rfl:p'=pe:=W.p
 obtain rfl:e'=none:=W.e
 refine aJ (lW ?_)
 dsimp only
 rw[e1,e2]
 refine aJ (VM ?_)
 generalize hpe:(p'.setIfInBounds i (sa,na+nb,pw)).eraseIdxIfInBounds (i+1)=pe2 at *
 have W2:∀{p g},Wt Ue f p pe2 (SortSt.mk' Ue (arr f p) pe2 g none):=⟨rfl,rfl,rfl,rfl⟩
 have gA:∀i,i < na->(P1++(B1++(B2++P2))).getD (sa+i) 0=B1.getD i 0:=fun i hi=>by rw[<- hs];exact NJ (by lia)
 have gB:∀i,i < nb->(P1++(B1++(B2++P2))).getD (sa+na+i) 0=B2.getD i 0:=fun i hi=>by
  rw[<- fR,<- hs,<- ha,<- bU];exact NJ (by lia)
 have gB0:=gB 0 h2
 rw[EY] at gB0
 have lp:(P1++(B1++(B2++P2))).length=sa+na+nb+P2.length:=by simp;lia
 have hk:B2.getD 0 0 < n:=by rw[<- gB0];exact hp _ (get_mem (by lia))
 refine aJ (d7 (x:=B2.getD 0 0) (by rw[get_some (by lia),gB0]) (aJ (uH (b:=sa) (m:=na) (hint:=0) hc rfl hp hk (by lia) h1 (fun i j n6 hj q=>?_) fun k k1 k2 k3=>?_)))
 ·rw[gA i (by lia)]
  rw[gA j hj] at q
  exact Qw.mpr (cC (jo s1 n6 (by lia)) (Qw.mp q))
 have low:∀b∈B2,r (B2.getD 0 0)<=r b:=fun b pW=>by obtain ⟨j,j1,rfl⟩:=Bt pW;exact jo s2 (iA _) j1
 refine bC (fun z=>aP (h (B1++B2) _ (.refl _) (uI.mpr ⟨s1,s2,fun a Ug b pW=>?_⟩) (by rw[fR];exact W2))) fun z=>?_
 ·have z:na - k=0:=aH6.mp z
  obtain ⟨j,j1,rfl⟩:=Bt Ug
  have:=k2 j (by lia)
  rw[gA j (by lia)] at this
  exact cC (Qw.mp this) (low b pW)
 have z:na - k≠0:=fun e=>z (aH6.mpr e)
 have gl:(P1++(B1++(B2++P2))).getD (sa+k+(na - k) - 1) 0=B1.getD (na - 1) 0:=by rw[show sa+k+(na - k) - 1=sa+(na - 1) by lia];exact gA _ (by lia)
 have hk2:B1.getD (na - 1) 0 < n:=by rw[<- gl];exact hp _ (get_mem (by lia))
 refine aJ (d7 (x:=B1.getD (na - 1) 0) (by rw[get_some (by lia),gl]) (aJ (uH (b:=sa+na) (m:=nb) (hint:=nb - 1) hc rfl hp hk2 (by lia) (by lia) (fun i j n6 hj q=>?_) fun k' Yv Yw Uc=>?_)))
 ·rw[gB i (by lia)]
  rw[gB j hj] at q
  exact Rj.mpr (qP (jo s2 n6 (by lia)) (Rj.mp q))
 have top:∀a∈B1,r a<=r (B1.getD (na - 1) 0):=fun a Ug=>by obtain ⟨j,j1,rfl⟩:=Bt Ug;exact jo s1 (by lia) (by lia)
 refine bC (fun z=>aP (h (B1++B2) _ (.refl _) (uI.mpr ⟨s1,s2,fun a Ug b pW=>?_⟩) (by rw[fR];exact W2))) fun z'=>?_
 ·have z:k'=0:=aH6.mp z
  obtain ⟨j,j1,rfl⟩:=Bt pW
  have:=Uc j (by lia) (by lia)
  rw[gB j (by lia)] at this
  exact cC (top a Ug) (Rk.mp this)
 have z':k'≠0:=fun e=>z' (aH6.mpr e)
 have sp1:B1.take k++B1.drop k=B1:=nt _ _
 have sp2:B2.take k'++B2.drop k'=B2:=nt _ _
 have e3:(P1++(B1++(B2++P2)))=(P1++B1.take k)++(B1.drop k++(B2++P2)):=by rw[fR,<- fR (B1.take k),sp1]
 have e4:(P1++(B1++(B2++P2)))=(P1++B1)++(B2.take k'++(B2.drop k'++P2)):=by rw[<- fR (B2.take k'),sp2,fR]
 have x1:(arr f (P1++(B1++(B2++P2)))).extract (sa+k) (sa+na)=arr f (B1.drop k):=by rw[gK,e3,HN (by simp;lia) (by simp;lia)]
 have x2:(arr f (P1++(B1++(B2++P2)))).extract (sa+na) (sa+na+k')=arr f (B2.take k'):=by rw[gK,e4,HN (by simp;lia) (by simp;lia)]
 have t1:=uI.mp (sp1.symm▸s1)
 have t2:=uI.mp (sp2.symm▸s2)
 have m1:∀x∈B1.drop k,r (B2.getD 0 0) < r x:=fun x hx=>by
  obtain ⟨j,j1,j2,rfl⟩:=jq hx
  have:=k3 j j1 (by lia)
  rw[gA j (by lia)] at this
  exact VH.mp this
 have m2:∀y∈B2.take k',r y < r (B1.getD (na - 1) 0):=fun y hy=>by
  obtain ⟨j,j1,j2,rfl⟩:=rg (uo.mpr hy)
  have:=Yw j j1
  rw[gB j (by lia)] at this
  exact Rj.mp this
 have m3:∀y∈B2.drop k',r (B1.getD (na - 1) 0)<=r y:=fun y hy=>by
  obtain ⟨j,j1,j2,rfl⟩:=jq hy
  have:=Uc j j1 (by lia)
  rw[gB j (by lia)] at this
  exact Rk.mp this
 have m0:∀x∈B1.take k,r x<=r (B2.getD 0 0):=fun x hx=>by
  obtain ⟨j,j1,j2,rfl⟩:=rg (uo.mpr hx)
  have:=k2 j j1
  rw[gA j (by lia)] at this
  exact Qw.mp this
 have q0:(B2.take k').getD 0 0=B2.getD 0 0:=by simp[nu,Fg,EX z']
 have ql:(B1.drop k).getD ((B1.drop k).length - 1) 0=B1.getD (na - 1) 0:=by
  simp only[nu,LK,wW,ha]
  rw[show k+(na - k - 1)=na - 1 by lia]
 have fin:∀Z st',aH (SortSt.mk' Ue (arr f (P1++(B1++(B2++P2)))) pe2 g none) st'->Dn (Le r) (B1.drop k++B2.take k') Z->wpS (aC prog w) A E s
   (modify (fun st=>setArr st ((arr f Z).toList.zipIdx.foldl (fun a (q:Keyed×Nat)=>a.setIfInBounds (sa+k+q.2) q.1) (arrOf st)))>>=fun _=>get>>=fun st=>pure (failedOf st).isNone) Q st':=fun Z st' S d=>by
  obtain ⟨g',rfl⟩:=S
  refine aJ (qY (aJ (lW (aP (h (B1.take k++(Z++B2.drop k')) _ ?_ ?_ ?_)))))
  ·have:(B1.take k++(Z++B2.drop k')).Perm (B1.take k++((B1.drop k++B2.take k')++B2.drop k')):=(d.1.append_right _).append_left _
   refine this.trans ?_
   rw[fR,sp2,<- fR,sp1]
  ·have inZ:∀z∈Z,r (B2.getD 0 0)<=r z/\r z<=r (B1.getD (na - 1) 0):=fun z hz=>by
    rcases gy.mp (d.1.mem_iff.mp hz) with hz | hz
    ·exact⟨jf (m1 z hz),top z (um hz)⟩
    ·exact⟨low z (oH hz),jf (m2 z hz)⟩
   refine uI.mpr ⟨t1.1,uI.mpr ⟨d.2,t2.2.1,fun z hz b pW=>cC (inZ z hz).2 (m3 b pW)⟩,fun a Ug b pW=>?_⟩
   rcases gy.mp pW with pW | pW
   ·exact cC (m0 a Ug) (inZ b pW).1
   ·exact cC (m0 a Ug) (low b (um pW))
  ·have lz:Z.length=(B1.drop k++B2.take k').length:=d.1.length_eq
   have:=NK (sa:=sa+k) (Z.map f) ((P1++B1.take k).map f) ((B1.drop k++B2.take k').map f) ((B2.drop k'++P2).map f) 0 (by simp;lia) (by simp[lz])
   have e5:(P1++B1.take k).map f++((B1.drop k++B2.take k').map f++(B2.drop k'++P2).map f)=(P1++(B1++(B2++P2))).map f:=by
    rw[<- iC,<- iC,e3,fR (B1.drop k),<- fR (B2.take k'),sp2]
   rw[e5] at this
   refine⟨rfl,?_,rfl,rfl⟩
   show (arr f Z).toList.zipIdx.foldl _ (arr f (P1++(B1++(B2++P2))))=_
   unfold arr
   rw[this,<- iC,<- iC]
   simp only[fR]
 rw[x1,x2]
 refine bC (fun _=>aJ ?_) fun _=>aJ ?_
 ·exact VI hc rfl (fun x hx=>hp x (by simp[um hx])) (fun x hx=>hp x (by simp[oH hx])) t1.2.1 t2.1 (by simp;lia) (by simp;lia) (fun x hx=>by rw[q0];exact jf (m1 x hx)) (fun y hy=>by rw[ql];exact jf (m2 y hy)) fin
 ·exact VL hc rfl (fun x hx=>hp x (by simp[um hx])) (fun x hx=>hp x (by simp[oH hx])) t1.2.1 t2.1 (by simp;lia) (by simp;lia) (fun x hx=>by rw[q0];exact jf (m1 x hx)) (fun y hy=>by rw[ql];exact jf (m2 y hy)) fin
end
end
end Sg
end ad3
section aw8
namespace So
open PySem PySem.W PyProof.Rows
section
theorem rev_getD{p:Array Nat}(hj:j<=p.size)(k:Nat):(kas_rev p i j).getD k 0=if i<=k/\k < j then p.getD (i+j - 1 - k) 0 else p.getD k 0:=by
 rw[jg]
 unfold kas_rev
 rw[getElem?_mirror_all hj]
 split <;> rw[jg]
theorem NL(p:Array Nat)(i j:Nat):(kas_rev p i j).Perm p:=mirror_perm _ _ _ _
end
end So
end aw8
section ad8
namespace Sg
open PySem PySem.W PyProof.Rows
noncomputable section
def HP(p:List Nat)(i j:Nat):List Nat:=(kas_rev p.toArray i j).toList
def VO(p:List Nat)(k d:Nat):List Nat:=(bubble p.toArray k d).toList
theorem Bu(p:List Nat)(k:Nat):p.toArray.getD k 0=p.getD k 0:=by simp[nu,jg]
theorem vt(p:Array Nat)(k:Nat):p.toList.getD k 0=p.getD k 0:=by simp[nu,jg]
theorem Bv{p:List Nat}(h:j<=p.length)(k:Nat):(HP p i j).getD k 0=if i<=k/\k < j then p.getD (i+j - 1 - k) 0 else p.getD k 0:=by
 rw[HP,vt,So.rev_getD (by simpa using h)]
 split <;> rw[Bu]
theorem Rm(p:List Nat)(i j:Nat):(HP p i j).Perm p:=by
 have:=Mj.mp (So.NL p.toArray i j)
 simpa[HP] using this
theorem Rn(p:List Nat)(k d:Nat):(VO p k d).Perm p:=by
 have:=Mj.mp (bubble_perm p.toArray k d)
 simpa[VO] using this
theorem Gh{p:List Nat}(hk:k < p.length)(hl:l<=k)(j:Nat):(VO p k (k - l)).getD j 0=if j=l then p.getD k 0 else if l < j/\j<=k then p.getD (j - 1) 0 else p.getD j 0:=by
 rw[VO,vt,jg,getElem?_bubble (by simpa using hk) (k - l) (by lia),show k - (k - l)=l by lia]
 repeat' split
 all_goals simp[nu]
structure Fix(lo:Nat)(p p':List Nat):Prop where
 pm:p'.Perm p
 eq:∀k,k < lo->p'.getD k 0=p.getD k 0
theorem Fix.refl(lo:Nat)(p:List Nat):Fix lo p p:=⟨.refl _,fun _ _=>rfl⟩
theorem Fix.trans{lo:Nat}{p p' p'':List Nat}(a:Fix lo p p')(b:Fix lo p' p''):Fix lo p p'':=⟨b.pm.trans a.pm,fun k hk=>(b.eq k hk).trans (a.eq k hk)⟩
theorem Fix.rv{lo:Nat}{p:List Nat}{i j:Nat}(h:j<=p.length)(hi:lo<=i):Fix lo p (HP p i j):=⟨Rm _ _ _,fun k hk=>by rw[Bv h,aH3 (by lia)]⟩
theorem Fix.bu{lo:Nat}{p:List Nat}{k l:Nat}(hk:k < p.length)(hl:l<=k)(hi:lo<=l):Fix lo p (VO p k (k - l)):=⟨Rn _ _ _,fun j hj=>by rw[Gh hk hl,aH3 (by lia),aH3 (by lia)]⟩
theorem Fix.len{lo:Nat}{p p':List Nat}(a:Fix lo p p'):p'.length=p.length:=a.pm.length_eq
theorem Fix.all{lo n:Nat}{p p':List Nat}(a:Fix lo p p')(h:∀x∈p,x < n):∀x∈p',x < n:=fun x hx=>h x (a.pm.mem_iff.mp hx)
abbrev vv(r:Nat->Nat)(p:List Nat)(lo i:Nat):Nat:=r (p.getD (lo+i) 0)
def Gi(v:Nat->Nat)(a:Nat):Prop:=∀i j,i<=j->j < a->v i<=v j
def NN(v:Nat->Nat)(a:Nat):Prop:=∀i j,i<=j->j < a->v j<=v i
theorem Gi.one(v:Nat->Nat):Gi v 1:=fun i j n6 hj=>by
 have:i=j:=by lia
 subst this;exact bf _
theorem Gi.succ(h:Gi v a)(h1:1<=a)(q:¬ v a < v (a - 1)):Gi v (a+1):=fun i j n6 hj=>by
 by_cases Yz:j < a
 ·exact h i j n6 Yz
 ·have e:j=a:=by lia
  subst e
  by_cases hi:i=j
  ·subst hi;exact bf _
  ·have:=h i (j - 1) (by lia) (by lia)
   lia
theorem NN.succ(h:NN v a)(h1:1<=a)(q:v a<=v (a - 1)):NN v (a+1):=fun i j n6 hj=>by
 by_cases Yz:j < a
 ·exact h i j n6 Yz
 ·have e:j=a:=by lia
  subst e
  by_cases hi:i=j
  ·subst hi;exact bf _
  ·have:=h i (j - 1) (by lia) (by lia)
   lia
section
variable {kd:iD}{st:bI}
theorem sG{Q:Option Bool->bI->Prop}(hc:Cm prog w A s kd f n r)(W:Wt kd f p pe st)(hp:∀x∈p,x < n)(hi:i < p.length)(hj:j < p.length)(h:Q (some (decide (r (p.getD i 0) < r (p.getD j 0)))) st):wpS (aC prog w) A E s (ltAt' i j) Q st:=by
 rw[ltAt'_eq]
 refine aJ (lW ?_)
 show wpS _ _ _ _ (elem' (arrOf st) i>>=fun x=>elem' (arrOf st) j>>=fun y=>lt' x y) Q st
 rw[W.a]
 exact aJ (d7 (get_some hi) (aJ (d7 (get_some hj) (D4 hc W.k (hp _ (get_mem hi)) (hp _ (get_mem hj)) h))))
theorem sH(p:List Nat):arr f p=p.toArray.map f:=by simp[arr]
theorem Bw{Q:Unit->bI->Prop}(W:Wt kd f p pe st)(h:∀st',Wt kd f (HP p i j) pe st'->Q () st'):wpS (aC prog w) A E s (reverseSlice' i j) Q st:=by
 rw[reverseSlice'_eq]
 refine qY (h _ ⟨W.k,?_,W.p,W.e⟩)
 show mirror (arrOf st) i j ((j - i) / 2)=_
 rw[W.a,sH,sH,HP]
 exact kas_swaps_map f (fun k=>i+k) (fun k=>j - 1 - k) _ p.toArray
theorem VP{Q:Unit->bI->Prop}(W:Wt kd f p pe st)(h:∀st',Wt kd f (VO p k (k - l)) pe st'->Q () st'):wpS (aC prog w) A E s (moveDown' k l) Q st:=by
 rw[moveDown'_eq]
 refine qY (h _ ⟨W.k,?_,W.p,W.e⟩)
 show bubble (arrOf st) k (k - l)=_
 rw[W.a,sH,sH,VO]
 exact kas_swaps_map f (fun i=>k - i) (fun i=>k - i - 1) _ p.toArray
theorem ad9{v:Nat->Nat}{Q:Option (Option Nat)×Nat->bI->Prop}{g:Nat->Option (Option Nat)×Nat->StateT bI Sem (ForInStep (Option (Option Nat)×Nat))}
  (hg:∀x m (Q:_->bI->Prop),1<=m->m < nrem->(v m < v (m - 1)->Q (.done (none,m)) st)->(¬ v m < v (m - 1)->Q (.yield (none,m+1)) st)->wpS (aC prog w) A E s (g x (none,m)) Q st)
  (h1:1<=a) (h2:a<=nrem) (hu:Gi v a) (h:∀m,a<=m->m<=nrem->Gi v m->(m=nrem\/v m < v (m - 1))->Q (none,m) st):wpS (aC prog w) A E s (forIn [a:nrem] (none,a) g) Q st:=by
 refine j4 (I:=fun x c st'=>st'=st/\c=(none,x)/\Gi v x) ?step ?fin ⟨rfl,rfl,hu⟩
 case fin=>
  rintro c st' ⟨rfl,rfl,hs⟩
  rw[show max a nrem=nrem by lia] at hs ⊢
  exact h nrem h2 (bf _) hs (.inl rfl)
 case step=>
  rintro x c st' hx hn ⟨rfl,rfl,hs⟩
  exact hg x x _ (by lia) hn (fun q=>h x hx (by lia) hs (.inr q)) fun q=>⟨rfl,rfl,hs.succ (by lia) q⟩
theorem VQ{lo nrem:Nat}{Q:Option Nat->bI->Prop}(hc:Cm prog w A s kd f n r)(W:Wt kd f p pe st)(hp:∀x∈p,x < n)(hl:lo+nrem<=p.length)(h1:1<=nrem)
  (h:∀m p' st',1<=m->m<=nrem->Fix lo p p'->Gi (vv r p' lo) m->Wt kd f p' pe st'->Q (some m) st'):wpS (aC prog w) A E s (countRun' lo nrem) Q st:=by
 have asc:∀{p' st' m} {Q:ForInStep (Option (Option Nat)×Nat)->bI->Prop},Wt kd f p' pe st'->Fix lo p p'->1<=m->m < nrem->(vv r p' lo m < vv r p' lo (m - 1)->Q (.done (none,m)) st')->(¬ vv r p' lo m < vv r p' lo (m - 1)->Q (.yield (none,m+1)) st')->
   wpS (aC prog w) A E s (ltAt' (lo+m) (lo+m - 1)>>=fun z=>match z with | some q=>if q=true then pure (.done (none,m)) else pure (.yield (none,m+1)) | _=>pure (.done (some none,m))) Q st':=fun {p' st' m Q} W F hm hn q1 q2=>by
  have:=F.len
  refine aJ (sG hc W (F.all hp) (by lia) (by lia) (bC (fun z=>aP (q1 ?_)) fun z=>aP (q2 fun y=>z (aH4 ?_))))
  ·have:=aH8 z
   rw[show lo+m - 1=lo+(m - 1) by lia] at this
   exact this
  ·rw[show lo+m - 1=lo+(m - 1) by lia]
   exact y
 have eqv:∀{p' x q},lo+x<=p'.length->q+1<=x->(∀i,x - (q+1)<=i->i < x->vv r p' lo i=vv r p' lo (x - 1))->∀i,vv r (HP p' (lo+x - (q+1)) (lo+x)) lo i=vv r p' lo i:=fun {p' x q} hx hq he i=>by
  unfold vv
  rw[Bv hx]
  split
  ·rename_i hi
   have a:=he i (by lia) (by lia)
   have b:=he (x - (q+1)+x - 1 - i) (by lia) (by lia)
   rw[show lo+x - (q+1)+(lo+x) - 1 - (lo+i)=lo+(x - (q+1)+x - 1 - i) by lia]
   exact b.trans a.symm
  ·rfl
 refine aJ (ad9 (v:=vv r p lo) (fun x m Q hm hn q1 q2=>asc W (.refl _ _) hm hn q1 q2) (bf 1) h1 (Gi.one _) fun m a1 a2 a3 a4=>bC (fun z=>aP (h m p st a1 a2 (.refl _ _) a3 W)) fun z=>?_)
 have z:m≠nrem:=fun e=>z (aH6.mpr e)
 have a4:vv r p lo m < vv r p lo (m - 1):=by
  rcases a4 with a4 | a4
  ·exact aI4 a4 z
  ·exact a4
 refine bC (fun z2=>aJ (sG hc W hp (show lo < p.length by lia) (show lo+m - 1 < p.length by lia) (bC (fun z3=>aP (h m p st a1 a2 (.refl _ _) a3 W)) fun z3=>aJ (Bw W fun mG W2=>?_)))) fun z2=>?_
 have z3:¬ vv r p lo 0 < vv r p lo (m - 1):=fun q=>z3 (aH4 (by rw[show lo+m - 1=lo+(m - 1) by lia];exact q))
 have F2:Fix lo p (HP p lo (lo+m)):=.rv (by lia) (bf _)
 have d2:NN (vv r (HP p lo (lo+m)) lo) (m+1):=by
  have al:∀k,k < m->vv r p lo k=vv r p lo (m - 1):=fun k hk=>by
   have b1:=a3 0 k (by lia) hk
   have b2:=a3 k (m - 1) (by lia) (by lia)
   lia
  have ev:∀i,vv r (HP p lo (lo+m)) lo i=vv r p lo i:=fun i=>by
   have:=eqv (p':=p) (x:=m) (q:=m - 1) (by lia) (by lia) (fun i _ hi=>al i hi) i
   rw[show lo+m - (m - 1+1)=lo by lia] at this
   exact this
  refine NN.succ (fun i j n6 hj=>?_) a1 (by rw[ev,ev];lia)
  rw[ev,ev,al i (by lia),al j hj]
  exact bf _
 rotate_left
 have W2:=W
 have F2:=Fix.refl lo p
 have d2:NN (vv r p lo) (m+1):=by
  have:m=1:=by
   have:¬ m > 1:=z2
   lia
  subst this
  refine NN.succ (fun i j n6 hj=>?_) (bf _) (by lia)
  have:i=j:=by lia
  subst this;exact bf _
 all_goals
  refine aJ (pV (aJ (jT (j4 (I:=fun x c st'=>∃p3 q,c=(none,x,q)/\Wt kd f p3 pe st'/\Fix lo p p3/\NN (vv r p3 lo) x/\q+1<=x/\∀i,x - (q+1)<=i->i < x->vv r p3 lo i=vv r p3 lo (x - 1))
   (Q:=fun c st'=>∃p3 q x,c=(none,x,q)/\1<=x/\x<=nrem/\Wt kd f p3 pe st'/\Fix lo p p3/\NN (vv r p3 lo) x/\q+1<=x/\∀i,x - (q+1)<=i->i < x->vv r p3 lo i=vv r p3 lo (x - 1)) ?_ ?_ ⟨_,0,rfl,W2,F2,d2,by lia,fun i h1 h2=>by congr 1;lia⟩) ?_)))
  ·rintro x c CN hx hn ⟨p3,q,rfl,W3,F3,d3,q3,e3⟩
   have fl:=F3.len
   have l1:lo+x - 1=lo+(x - 1):=by lia
   refine aJ (sG hc W3 (F3.all hp) (show lo+x < _ by lia) (show lo+x - 1 < _ by lia) (bC (fun y=>?_) fun y=>aJ (sG hc W3 (F3.all hp) (show lo+x - 1 < _ by lia) (show lo+x < _ by lia) (bC (fun y2=>aP ⟨p3,q,x,rfl,by lia,by lia,W3,F3,d3,q3,e3⟩) fun y2=>aP ⟨p3,q+1,rfl,W3,F3,?_,by lia,fun i i1 i2=>?_⟩))))
   ·have y:vv r p3 lo x < vv r p3 lo (x - 1):=by have:=aH8 y;rw[l1] at this;exact this
    have ev:=eqv (p':=p3) (by lia) q3 e3
    refine bC (fun _=>aJ (Bw (i:=lo+x - (q+1)) (j:=lo+x) W3 fun Uh W4=>aP ⟨_,0,rfl,W4,F3.trans (.rv (i:=lo+x - (q+1)) (j:=lo+x) (by lia) (by lia)),NN.succ (fun i j n6 hj=>by rw[ev,ev];exact d3 i j n6 hj) (by lia) (by rw[ev,ev];lia),by lia,fun i i1 i2=>by congr 1;lia⟩)) fun _=>aP ⟨p3,0,rfl,W3,F3,d3.succ (by lia) (by lia),by lia,fun i i1 i2=>by congr 1;lia⟩
   ·have y:¬ vv r p3 lo x < vv r p3 lo (x - 1):=fun q=>y (aH4 (by rw[l1];exact q))
    have y2:¬ vv r p3 lo (x - 1) < vv r p3 lo x:=fun q=>y2 (aH4 (by rw[l1];exact q))
    exact d3.succ (by lia) (by lia)
   ·have y:¬ vv r p3 lo x < vv r p3 lo (x - 1):=fun q=>y (aH4 (by rw[l1];exact q))
    have y2:¬ vv r p3 lo (x - 1) < vv r p3 lo x:=fun q=>y2 (aH4 (by rw[l1];exact q))
    show vv r p3 lo i=vv r p3 lo (x+1 - 1)
    rw[AQ]
    by_cases hi:i=x
    ·subst hi;rfl
    ·rw[e3 i (by lia) (by lia)];lia
  ·rintro c CN ⟨p3,q,rfl,W3,F3,d3,q3,e3⟩
   rw[show max (m+1) nrem=nrem by lia] at *
   exact⟨p3,q,nrem,rfl,h1,bf _,W3,F3,d3,q3,e3⟩
  ·rintro c CN ⟨p3,q,x,rfl,x1,x2,W3,F3,d3,q3,e3⟩
   have fl:=F3.len
   have ev:=eqv (p':=p3) (by lia) q3 e3
   refine bC (fun _=>aJ (Bw (i:=lo+x - (q+1)) (j:=lo+x) W3 fun Uh W4=>?_)) fun _=>?_
   have F4:Fix lo p _:=F3.trans (.rv (i:=lo+x - (q+1)) (j:=lo+x) (by lia) (by lia))
   have d4:NN (vv r (HP p3 (lo+x - (q+1)) (lo+x)) lo) x:=fun i j n6 hj=>by rw[ev,ev];exact d3 i j n6 hj
   generalize HP p3 (lo+x - (q+1)) (lo+x)=p4 at W4 F4 d4
   rotate_left
   have W4:=W3
   have F4:=F3
   have d4:=d3
   all_goals
    have fl:=F4.len
    refine aJ (Bw (i:=lo) (j:=lo+x) W4 fun Be W5=>aJ (ad9 (a:=x) (v:=vv r (HP _ lo (lo+x)) lo) (fun x' m' Q Cr hn q1 q2=>asc W5 (F4.trans (.rv (by lia) (bf _))) Cr hn q1 q2) x1 x2 (fun i j n6 hj=>?_) fun m' a1 a2 a3 _=>aP (h m' _ _ (by lia) a2 (F4.trans (.rv (by lia) (bf _))) a3 W5)))
    unfold vv
    rw[Bv (by lia),Bv (by lia),aH2 (by lia),aH2 (by lia),show lo+(lo+x) - 1 - (lo+i)=lo+(x - 1 - i) by lia,show lo+(lo+x) - 1 - (lo+j)=lo+(x - 1 - j) by lia]
    exact d4 _ _ (by lia) (by lia)
theorem VR{lo m ok:Nat}{Q:Bool->bI->Prop}(hc:Cm prog w A s kd f n r)(W:Wt kd f p pe st)(hp:∀x∈p,x < n)(hl:lo+m<=p.length)(hk:1<=ok)(hm:ok<=m)(hu:Gi (vv r p lo) ok)
  (h:∀p' st',Fix lo p p'->Gi (vv r p' lo) m->Wt kd f p' pe st'->Q true st'):wpS (aC prog w) A E s (binarySort' lo m ok) Q st:=by
 refine aJ (jT (j4 (I:=fun k c st'=>∃p',c=(none,())/\Wt kd f p' pe st'/\Fix lo p p'/\Gi (vv r p' lo) k) (Q:=fun c st'=>∃p',c=(none,())/\Wt kd f p' pe st'/\Fix lo p p'/\Gi (vv r p' lo) m) ?_ ?_ ⟨p,rfl,W,.refl _ _,by rw[Nat.max_eq_left hk];exact hu⟩) ?_)
 ·rintro k c kj k1 k2 ⟨p1,rfl,W1,F1,u1⟩
  have fl:=F1.len
  refine aJ (jT (j4 (I:=fun x c st'=>st'=kj/\∃l q,c=(none,l,q)/\l<=q/\q<=k/\q - l<=k - x/\(∀i,i < l->vv r p1 lo i<=vv r p1 lo k)/\∀i,q<=i->i < k->vv r p1 lo k < vv r p1 lo i)
   (Q:=fun c st'=>st'=kj/\∃l q,c=(none,l,q)/\l<=k/\(∀i,i < l->vv r p1 lo i<=vv r p1 lo k)/\∀i,l<=i->i < k->vv r p1 lo k < vv r p1 lo i) ?_ ?_ ⟨rfl,0,k,rfl,iA _,bf _,bf _,fun i hi=>by lia,fun i h1 h2=>by lia⟩) ?_)
  ·rintro x c mG _ hx ⟨rfl,l,q,rfl,b1,b2,b3,b4,b5⟩
   refine bC (fun z=>?_) fun z=>aJ (sG hc W1 (F1.all hp) (show lo+k < _ by lia) (show lo+(l+q) / 2 < _ by have:¬ l ≥ q:=z;lia) (bC (fun y=>aP ⟨rfl,l,(l+q) / 2,rfl,by lia,by lia,?_,b4,fun i i1 i2=>?_⟩) fun y=>aP ⟨rfl,(l+q) / 2+1,q,rfl,?_,b2,?_,fun i i1=>?_,b5⟩))
   ·have:l ≥ q:=z
    have:l=q:=by lia
    subst this
    exact aP ⟨rfl,l,l,rfl,b2,b4,b5⟩
   ·have:¬ l ≥ q:=z
    lia
   ·have y:vv r p1 lo k < vv r p1 lo ((l+q) / 2):=aH8 y
    exact iJ y (u1 _ _ i1 i2)
   ·have:¬ l ≥ q:=z
    lia
   ·have:¬ l ≥ q:=z
    lia
   ·have y:¬ vv r p1 lo k < vv r p1 lo ((l+q) / 2):=fun e=>y (aH4 e)
    have:¬ l ≥ q:=z
    exact cC (u1 i ((l+q) / 2) (by lia) (by lia)) (qO y)
  ·rintro c mG ⟨rfl,l,q,rfl,b1,b2,b3,b4,b5⟩
   have:l=q:=by lia
   subst this
   exact⟨rfl,l,l,rfl,b2,b4,b5⟩
  ·rintro c mG ⟨rfl,l,q,rfl,b1,b2,b3⟩
   refine aJ (VP (k:=lo+k) (l:=lo+l) W1 fun CN W3=>aP ⟨_,rfl,W3,F1.trans (.bu (by lia) (by lia) (by lia)),fun i j n6 hj=>?_⟩)
   unfold vv
   rw[Gh (by lia) (by lia),Gh (by lia) (by lia)]
   have g:∀i j,i<=j->j < k->r (p1.getD (lo+i) 0)<=r (p1.getD (lo+j) 0):=u1
   repeat' split
   all_goals first
    | (exfalso;lia)
    | exact bf _
    | exact b2 _ (by lia)
    | (rw[show lo+j - 1=lo+(j - 1) by lia];exact jf (b3 _ (by lia) (by lia)))
    | (rw[show lo+i - 1=lo+(i - 1) by lia,show lo+j - 1=lo+(j - 1) by lia];exact g _ _ (by lia) (by lia))
    | (rw[show lo+j - 1=lo+(j - 1) by lia];exact g _ _ (by lia) (by lia))
    | exact g _ _ (by lia) (by lia)
 ·rintro c kj ⟨p1,rfl,W1,F1,u1⟩
  rw[show max (max ok 1) m=m by lia] at u1
  exact⟨p1,rfl,W1,F1,u1⟩
 ·rintro c kj ⟨p1,rfl,W1,F1,u1⟩
  exact aP (h p1 kj F1 u1 W1)
end
end
noncomputable section
def PR(r:Nat->Nat):Nat->List (Nat×Nat×Nat)->List (List Nat)->Prop
 | _,[],[]=>True
 | s,q::ps,b::rs=>q.1=s/\q.2.1=b.length/\0 < b.length/\b.Pairwise (Le r)/\PR r (s+b.length) ps rs
 | _,_,_=>False
section
theorem PR.len:∀{s:Nat} {ps:List (Nat×Nat×Nat)} {rs:List (List Nat)},PR r s ps rs->ps.length=rs.length/\rs.length<=rs.flatten.length
 | _,[],[],_=>⟨rfl,bf _⟩
 | s,q::ps,b::rs,h=>by
  rw[PR] at h
  have:=PR.len h.2.2.2.2
  rw[List.flatten_cons,bU,cS,cS]
  lia
 | _,[],_::_,h=>by simp[PR] at h
 | _,_::_,[],h=>by simp[PR] at h
theorem PR.snoc{q:Nat×Nat×Nat}{b:List Nat}(h2:q.2.1=b.length)(h3:0 < b.length)(h4:b.Pairwise (Le r)):∀{s:Nat} {ps:List (Nat×Nat×Nat)} {rs:List (List Nat)},PR r s ps rs->q.1=s+rs.flatten.length->PR r s (ps++[q]) (rs++[b])
 | s,[],[],_,h1=>by
  show PR r s [q] [b]
  rw[PR]
  exact⟨by simpa using h1,h2,h3,h4,trivial⟩
 | s,q'::ps,b'::rs,h,h1=>by
  rw[PR] at h
  show PR r s (q'::(ps++[q])) (b'::(rs++[b]))
  rw[PR]
  exact⟨h.1,h.2.1,h.2.2.1,h.2.2.2.1,PR.snoc h2 h3 h4 h.2.2.2.2 (by rw[h1];simp;lia)⟩
 | _,[],_::_,h,_=>by simp[PR] at h
 | _,_::_,[],h,_=>by simp[PR] at h
theorem PR.pw:∀{s:Nat} {ps Jt:List (Nat×Nat×Nat)} {rs:List (List Nat)},PR r s ps rs->Jt.map (fun q=>(q.1,q.2.1))=ps.map (fun q=>(q.1,q.2.1))->PR r s Jt rs
 | _,[],Jt,[],_,e=>by
  have:Jt=[]:=by simpa using e
  rw[this];trivial
 | s,q::ps,[],b::rs,h,e=>by simp at e
 | s,q::ps,q'::Jt,b::rs,h,e=>by
  rw[PR] at h ⊢
  rw[aZ,aZ] at e
  injection e with e1 e2
  injection e1 with e3 e4
  exact⟨e3.trans h.1,e4.trans h.2.1,h.2.2.1,h.2.2.2.1,PR.pw h.2.2.2.2 e2⟩
 | _,[],_,_::_,h,_=>by simp[PR] at h
 | _,_::_,_,[],h,_=>by simp[PR] at h
theorem PR.one:∀{s:Nat} {ps:List (Nat×Nat×Nat)} {b:List Nat},PR r s ps [b]->b.Pairwise (Le r)
 | _,[],_,h=>by simp[PR] at h
 | _,_::_,_,h=>by rw[PR] at h;exact h.2.2.2.1
theorem PR.two:∀{i s:Nat} {ps:List (Nat×Nat×Nat)} {rs:List (List Nat)},PR r s ps rs->i+1 < ps.length->∃R1 b1 b2 R2 pw Yy,rs=R1++b1::b2::R2/\ps[i]?=some (s+R1.flatten.length,b1.length,pw)/\ps[i+1]?=some (s+R1.flatten.length+b1.length,b2.length,Yy)/\
  0 < b1.length/\0 < b2.length/\b1.Pairwise (Le r)/\b2.Pairwise (Le r)/\∀M:List Nat,M.length=b1.length+b2.length->M.Pairwise (Le r)->PR r s ((ps.set i (s+R1.flatten.length,b1.length+b2.length,pw)).eraseIdx (i+1)) (R1++M::R2)
 | 0,s,q::q'::ps,b::b'::rs,h,_=>by
  rw[PR,PR] at h
  obtain ⟨h1,h2,h3,h4,h5,h6,h7,h8,h9⟩:=h
  obtain ⟨a,c,d⟩:=q
  obtain ⟨a',c',d'⟩:=q'
  simp only at h1 h2 h5 h6
  subst h1 h2 h5 h6
  refine⟨[],b,b',rs,d,d',rfl,rfl,rfl,h3,h7,h4,h8,fun M hM sM=>?_⟩
  show PR r a ((a+0,b.length+b'.length,d)::ps) (M::rs)
  rw[PR]
  exact⟨rfl,hM.symm,by lia,sM,by rw[hM,<- wR];exact h9⟩
 | i+1,s,q::ps,b::rs,h,hl=>by
  rw[PR] at h
  obtain ⟨R1,b1,b2,R2,pw,Yy,e1,e2,e3,x1,x2,x3,x4,x5⟩:=PR.two (i:=i) h.2.2.2.2 (by simpa using hl)
  have ee:s+(b::R1).flatten.length=s+b.length+R1.flatten.length:=by simp;lia
  refine⟨b::R1,b1,b2,R2,pw,Yy,by rw[e1];rfl,by rw[ee];exact e2,by rw[ee];exact e3,x1,x2,x3,x4,fun M hM sM=>?_⟩
  rw[ee]
  show PR r s (q::((ps.set i (s+b.length+R1.flatten.length,b1.length+b2.length,pw)).eraseIdx (i+1))) (b::(R1++M::R2))
  rw[PR]
  exact⟨h.1,h.2.1,h.2.2.1,h.2.2.2.1,x5 M hM sM⟩
 | _,_,[],[],_,hl=>by simp at hl
 | _,_,[],_::_,h,_=>by simp[PR] at h
 | _,_,_::_,[],h,_=>by simp[PR] at h
 | 0,_,[_],[_],_,hl=>by simp at hl
 | 0,_,[_],_::_::_,h,_=>by simp[PR] at h
 | 0,_,_::_::_,[_],h,_=>by simp[PR] at h
end
theorem NO(a:Array (Nat×Nat×Nat))(i pw:Nat):(a.modify i fun x=>(x.1,x.2.1,pw)).toList.map (fun q=>(q.1,q.2.1))=a.toList.map fun q=>(q.1,q.2.1):=by
 refine AS fun k=>?_
 simp only[dm,lV,Array.getElem?_modify]
 split
 ·cases a[k]? <;> rfl
 ·rfl
theorem Fix.tail{F:List Nat}(h:Fix F.length (F++R) p'):∃R',p'=F++R'/\R'.Perm R:=by
 have hl:=h.len
 have e:p'.take F.length=F:=by
  refine AS fun k=>?_
  rw[Fg]
  split
  ·rename_i hk
   have q:=h.eq k hk
   have a:k < p'.length:=by rw[hl,bU];lia
   rw[get_some a,q]
   simp[nu,hk,qR]
  ·rename_i hk
   rw[uq (by lia)]
 refine⟨p'.drop F.length,?_,?_⟩
 ·conv=>lhs;rw[<- nt F.length p',e]
 ·have:=h.pm
  rw[show p'=F++p'.drop F.length by conv=>lhs;rw[<- nt F.length p',e]] at this
  exact(List.perm_append_left_iff F).mp this
theorem HQ(h:Gi (vv r (F++R) F.length) m)(hm:m<=R.length):(R.take m).Pairwise (Le r):=by
 rw[qS]
 intro i j hi hj n6
 rw[kL] at hi hj
 have:=h i j (by lia) (by lia)
 simp[vv,nu,nj] at this
 simp[show i < R.length by lia,show j < R.length by lia] at this ⊢
 exact this
section
variable {kd:iD}{st:bI}
theorem NP{rs:List (List Nat)}{Q:Bool->bI->Prop}(hc:Cm prog w A s kd f n r)(W:Wt kd f (rs.flatten++R) pe st)(hp:∀x∈rs.flatten++R,x < n)(hr:PR r 0 pe.toList rs)(hi:i+1 < pe.size)
  (h:∀vz zb st',vz.flatten.Perm rs.flatten->PR r 0 zb.toList vz->zb.size+1=pe.size->Wt kd f (vz.flatten++R) zb st'->Q true st'):wpS (aC prog w) A E s (mergeAt' i) Q st:=by
 obtain ⟨R1,b1,b2,R2,pw,Yy,rfl,e2,e3,x1,x2,x3,x4,x5⟩:=hr.two (i:=i) (by simpa using hi)
 rw[lV] at e2 e3
 have ef:(R1++b1::b2::R2).flatten++R=R1.flatten++(b1++(b2++(R2.flatten++R))):=by simp
 rw[ef] at W hp
 refine VN hc W hp e2 e3 (by lia) rfl rfl x1 x2 x3 x4 fun M st' pm sm W'=>?_
 have lM:M.length=b1.length+b2.length:=by rw[pm.length_eq,bU]
 have P':=x5 M lM sm
 refine h (R1++M::R2) _ st' ?_ ?_ ?_ (by rw[show (R1++M::R2).flatten++R=R1.flatten++(M++(R2.flatten++R)) by simp];exact W')
 ·have:(R1++M::R2).flatten=R1.flatten++(M++R2.flatten):=by simp
  rw[this,show (R1++b1::b2::R2).flatten=R1.flatten++((b1++b2)++R2.flatten) by simp]
  exact(pm.append_right _).append_left _
 ·have:((pe.setIfInBounds i (0+R1.flatten.length,b1.length+b2.length,pw)).eraseIdxIfInBounds (i+1)).toList=(pe.toList.set i (0+R1.flatten.length,b1.length+b2.length,pw)).eraseIdx (i+1):=by simp
  rw[this]
  exact P'
 ·rw[Array.eraseIdxIfInBounds,dif_pos (by simp;lia)]
  simp
  lia
theorem HR{Q:Unit->bI->Prop}(hc:Cm prog w A s kd f n r)(W:Wt kd f p #[] st)(hp:∀x∈p,x < n)(h:∀p' st',p'.Perm p->p'.Pairwise (Le r)->arrOf st'=arr f p'->failedOf st'=none->Q () st') :
  wpS (aC prog w) A E s sortRuns' Q st:=by
 have sz:(arrOf st).size=p.length:=by rw[W.a,cF]
 refine aJ (lW (aJ (jT (j4 (I:=fun x c st'=>∃(rs:List (List Nat)) (R:List Nat) (pe:Array (Nat×Nat×Nat)),c=(none,rs.flatten.length)/\Wt kd f (rs.flatten++R) pe st'/\(rs.flatten++R).Perm p/\PR r 0 pe.toList rs/\x<=rs.flatten.length)
  (Q:=fun c st'=>∃(rs:List (List Nat)) (pe:Array (Nat×Nat×Nat)),c=(none,rs.flatten.length)/\Wt kd f rs.flatten pe st'/\rs.flatten.Perm p/\PR r 0 pe.toList rs) ?step ?fin ⟨[],p,#[],rfl,W,.refl _,trivial,iA _⟩) ?post)))
 case fin=>
  rintro c st' ⟨rs,R,pe,rfl,W1,P1,r1,x1⟩
  have l1:=P1.length_eq
  rw[bU] at l1
  have:R=[]:=oJ.mp (by rw[sz] at x1;lia)
  subst this
  rw[jS] at W1 P1
  exact⟨rs,pe,rfl,W1,P1,r1⟩
 case post=>
  rintro c kj ⟨rs,pe,rfl,W1,P1,r1⟩
  refine aJ (jT (j4 (I:=fun x c st'=>∃(rs:List (List Nat)) (pe:Array (Nat×Nat×Nat)),c=(none,())/\Wt kd f rs.flatten pe st'/\rs.flatten.Perm p/\PR r 0 pe.toList rs/\pe.size+x<=p.length+1)
   (Q:=fun c st'=>∃(rs:List (List Nat)) (pe:Array (Nat×Nat×Nat)),c=(none,())/\Wt kd f rs.flatten pe st'/\rs.flatten.Perm p/\PR r 0 pe.toList rs/\pe.size<=1) ?_ ?_ ⟨rs,pe,rfl,W1,P1,r1,?_⟩) ?_)
  ·rintro x c mG _ hx ⟨rs,pe,rfl,W2,P2,r2,x2⟩
   have W2':Wt kd f (rs.flatten++[]) pe mG:=by rw[jS];exact W2
   have NQ:∀x∈rs.flatten++[],x < n:=fun x hx=>hp x (P2.mem_iff.mp (by simpa using hx))
   refine aJ (lW (bC (fun z=>aP ⟨rs,pe,rfl,W2,P2,r2,by rw[<- W2.p];exact z⟩) fun z=>aJ (NP hc W2' NQ r2 ?_ fun VS VT Be P5 r5 l5 W5=>bC (fun z=>aI4 z (by simp)) fun _=>aP ⟨VS,VT,rfl,by rw[jS] at W5;exact W5,P5.trans P2,r5,by lia⟩)))
   have z:¬ (pendingOf mG).size<=1:=z
   have e:(sortPriv% PySem.Builtin.SortState.pending) mG=pe:=W2.p
   rw[W2.p] at z
   rw[e]
   (repeat' split) <;> lia
  ·rintro c mG ⟨rs,pe,rfl,W2,P2,r2,x2⟩
   exact⟨rs,pe,rfl,W2,P2,r2,by rw[sz] at x2;lia⟩
  ·have:=r1.len
   have:=P1.length_eq
   have:pe.size=rs.length:=by rw[<- dB];exact r1.len.1
   lia
  ·rintro c mG ⟨rs,pe,rfl,W2,P2,r2,x2⟩
   have l2:=r2.len
   rw[dB] at l2
   refine aP (h rs.flatten mG P2 ?_ W2.a W2.e)
   match rs,l2,r2 with
   | [],_,_=>exact .nil
   | [b],_,r2=>
    simpa using r2.one
   | _::_::_,l2,_=>simp at l2;lia
 case step=>
  rintro x c kj _ hx ⟨rs,R,pe,rfl,W1,P1,r1,x1⟩
  have l1:=P1.length_eq
  rw[bU] at l1
  have hp1:∀x∈rs.flatten++R,x < n:=fun x hx=>hp x (P1.mem_iff.mp hx)
  refine bC (fun z=>aP ?_) fun z=>aJ (VQ hc W1 hp1 (lo:=rs.flatten.length) (nrem:=(arrOf st).size - rs.flatten.length) (by rw[sz,bU];lia) (by have z:¬ rs.flatten.length ≥ (arrOf st).size:=z;lia) fun m p2 mG m1 m2 F2 u2 W2=>?_)
  ·have z:rs.flatten.length ≥ (arrOf st).size:=z
   have:R=[]:=oJ.mp (by rw[sz] at z;lia)
   subst this
   rw[jS] at W1 P1
   exact⟨rs,pe,rfl,W1,P1,r1⟩
  obtain ⟨R2,rfl,pm2⟩:=F2.tail
  have l2:=pm2.length_eq
  rw[sz] at m2
  have NQ:∀x∈rs.flatten++R2,x < n:=F2.all hp1
  have P2:(rs.flatten++R2).Perm p:=(pm2.append_left _).trans P1
  have push:∀{R3:List Nat} {m:Nat} {vz:List (List Nat)} {zb:Array (Nat×Nat×Nat)} {Be:bI},1<=m/\m<=R3.length->(R3.take m).Pairwise (Le r)->(rs.flatten++R3).Perm p->vz.flatten.Perm rs.flatten->PR r 0 zb.toList vz->kindOf Be=kd->arrOf Be=arr f (vz.flatten++R3)->pendingOf Be=zb.push (rs.flatten.length,m,0)->failedOf Be=none->
    ∃(Ui:List (List Nat)) (R:List Nat) (pe:Array (Nat×Nat×Nat)),((none,rs.flatten.length+m):Option Unit×Nat)=(none,Ui.flatten.length)/\Wt kd f (Ui.flatten++R) pe Be/\(Ui.flatten++R).Perm p/\PR r 0 pe.toList Ui/\x+1<=Ui.flatten.length:=fun {R3 m vz zb Be} hm s3 P3 P4 r4 w1 w2 w3 w4=>by
   have lf:vz.flatten.length=rs.flatten.length:=P4.length_eq
   have e:(vz++[R3.take m]).flatten=vz.flatten++R3.take m:=by simp
   have lt:(R3.take m).length=m:=by rw[kL];lia
   have e2:(vz++[R3.take m]).flatten++R3.drop m=vz.flatten++R3:=by rw[e,fR,nt]
   refine⟨vz++[R3.take m],R3.drop m,zb.push (rs.flatten.length,m,0),?_,⟨w1,by rw[e2];exact w2,w3,w4⟩,by rw[e2];exact(P4.append_right _).trans P3,?_,?_⟩
   ·rw[e,bU,lf,lt]
   ·rw[Fv]
    exact r4.snoc (by rw[lt]) (by lia) s3 (by show rs.flatten.length=0+_;lia)
   ·rw[e,bU,lf,lt];lia
  refine bC (fun zm=>aJ (pV (aJ (VR hc W2 NQ (lo:=rs.flatten.length) (m:=min ((arrOf st).size - rs.flatten.length) (minRun' (arrOf st).size (arrOf st).size 0)) (by rw[sz,bU];lia) m1 (by have zm:m < minRun' (arrOf st).size (arrOf st).size 0:=zm;lia) u2 fun p3 CN F3 u3 W3=>bC (fun z=>aI4 z (by simp)) fun _=>?_)))) fun _=>?_
  obtain ⟨R3,rfl,pm3⟩:=F3.tail
  have l3:=pm3.length_eq
  have P3:(rs.flatten++R3).Perm p:=(pm3.append_left _).trans P2
  have hm3:1<=min ((arrOf st).size - rs.flatten.length) (minRun' (arrOf st).size (arrOf st).size 0)/\min ((arrOf st).size - rs.flatten.length) (minRun' (arrOf st).size (arrOf st).size 0)<=R3.length:=by
   have zm:m < minRun' (arrOf st).size (arrOf st).size 0:=zm
   lia
  have s3:=HQ u3 hm3.2
  rotate_left
  have W3:=W2
  have P3:=P2
  have hm3:1<=m/\m<=R2.length:=by lia
  have s3:=HQ u2 hm3.2
  generalize hR:R2=R3 at *
  all_goals
   have hp3:∀x∈rs.flatten++R3,x < n:=fun x hx=>hp x (P3.mem_iff.mp hx)
   refine aJ (lW ?_)
   dsimp only
   split
   ·refine aJ (jT (j4 (I:=fun y c st'=>∃(vz:List (List Nat)) (zb:Array (Nat×Nat×Nat)),c=(none,())/\Wt kd f (vz.flatten++R3) zb st'/\vz.flatten.Perm rs.flatten/\PR r 0 zb.toList vz)
     (Q:=fun c st'=>∃(vz:List (List Nat)) (zb:Array (Nat×Nat×Nat)),c=(none,())/\Wt kd f (vz.flatten++R3) zb st'/\vz.flatten.Perm rs.flatten/\PR r 0 zb.toList vz) ?_ (fun _ _ z=>z) ⟨rs,pe,rfl,W3,.refl _,r1⟩) ?_)
    ·rintro y c Uh _ _ ⟨vz,zb,rfl,W4,P4,r4⟩
     refine aJ (lW ?_)
     split
     ·rename_i a b o hq
      refine bC (fun _=>aP ⟨vz,zb,rfl,W4,P4,r4⟩) fun _=>aJ (NP hc W4 (fun x hx=>hp3 x (((P4.append_right _).mem_iff).mp hx)) r4 ?_ fun VS VT Be P5 r5 _ W5=>bC (fun z=>aI4 z (by simp)) fun _=>aP ⟨VS,VT,rfl,W5,P5.trans P4,r5⟩)
      have e:(sortPriv% PySem.Builtin.SortState.pending) Uh=zb:=W4.p
      rw[e] at hq ⊢
      split at hq
      ·lia
      ·cases hq
     ·exact aP ⟨vz,zb,rfl,W4,P4,r4⟩
    ·rintro c Uh ⟨vz,zb,rfl,W4,P4,r4⟩
     obtain rfl:=W4.p
     exact aJ (qY (aJ (qY (aP (push hm3 s3 P3 P4 (r4.pw (NO _ _ _)) W4.k W4.a rfl W4.e)))))
   ·obtain rfl:=W3.p
    exact aJ (qY (aP (push hm3 s3 P3 (.refl _) r1 W3.k W3.a rfl W3.e)))
end
end
end Sg
end ad8
section ae1
namespace So
open PySem PySem.W PyProof.Rows
def Keeps(a:av)(h h':aX):Prop:=∀b o,b≠a->h.get? b=some o->h'.get? b=some o
section
variable {prog:dh}{w:bN}{A:bY}{E:aq->az->Prop}{s:az}{a:av}{vs:List aq}{kd:iD}{r:Nat->Nat}
theorem map_range(ds:List α)(z:α):(dj ds.length).map (fun i=>ds.getD i z)=ds:=by
 refine LL (by simp) fun i h1 h2=>?_
 simp at h1
 simp[h1]
theorem ze{P:PySem.Fin->az->Prop}(ho:s.heap.get? a=some (cj "list" vs.toArray n))(hz:vs.length<=cK)
  (CQ:2<=vs.length->∀h' Q,Keeps a s.heap h'->Q kd { s with heap:=h' }->aB (aC prog w) A (keyKind' vs.toArray) Q E { s with heap:=h' })
  (iF:2<=vs.length->∀h' i j C,Keeps a s.heap h'->i < vs.length->j < vs.length->C (decide (r i < r j)) { s with heap:=h' }->aB (aC prog w) A (keyLt' kd (vs.getD i dY) (vs.getD j dY)) C (fun _ _=>False) { s with heap:=h' })
  (h:∀h' n' (pm:List Nat),Keeps a s.heap h'->pm.Perm (dj vs.length)->pm.Pairwise (fun i j=>r i<=r j)->h'.get? a=some (cj "list" (pm.map fun i=>vs.getD i dY).toArray n')->P (.done (.ret .none)) { s with heap:=h' }) :
  aB (aC prog w) A (Builtin.«list.sort» ⟨[.ref a],[]⟩) P E s:=by
 have KI:=fj s.heap a (cX fun _=>(#[]:Array aq))
 obtain ⟨e1,Uj⟩:∃e1,(s.heap.update a (cX fun _=>(#[]:Array aq))).get? a=some (cj "list" #[] e1):=⟨_,xo ho fun _=>#[]⟩
 rw[list_sort_plain]
 refine ah (Fw ho rfl (ah (qZ ho rfl (ah (xq Uj rfl (ah (EH (ah (wL (je ?_) (iA _))) (by show vs.length<=_;lia))))) (by rw[dJ];lia) (iA _))))
 generalize hG:((s.heap.update a (cX fun _=>(#[]:Array aq))).push (cj "tuple" vs.toArray 0)).push (cj "list" #[] 0)=g
 have kg:Keeps a s.heap g:=fun b o hb e=>by
  rw[<- hG]
  exact bQ _ (bQ _ (by rw[KI.2 b hb];exact e))
 have ag:g.get? a=some (cj "list" #[] e1):=by rw[<- hG];exact bQ _ (bQ _ Uj)
 show aB (aC prog w) A _ P E { s with heap:=g }
 dsimp only
 have fin:∀(pm:List Nat),pm.Perm (dj vs.length)->pm.Pairwise (fun i j=>r i<=r j)->P (.done (.ret .none)) { s with heap:=g.update a (cX fun _=>(pm.map fun i=>vs.getD i dY).toArray) }:=fun pm h1 h2=>by
  have KJ:=fj g a (cX fun _=>(pm.map fun i=>vs.getD i dY).toArray)
  exact h _ _ pm (fun b o hb e=>by rw[KJ.2 b hb];exact kg b o hb e) h1 h2 (xo ag fun _=>_)
 have psz:∀(pm:List Nat),pm.Perm (dj vs.length)->(pm.map fun i=>vs.getD i dY).toArray.size<=cK+1:=fun pm hp=>by
  rw[dJ,bh,hp.length_eq,ur];lia
 by_cases h2:vs.toArray.size < 2
 ·rw[aH2 h2,aH2 h2]
  refine ah (aA ?_)
  rw[MD]
  refine ah (aA ?_)
  dsimp only
  have out:(arrOf (SortSt.mk' general' (vs.toArray.zip vs.toArray) #[] 7 none)).map (·.2)=((dj vs.length).map fun i=>vs.getD i dY).toArray:=by
   rw[map_range]
   apply B0.mp
   rw[Array.toList_map,Ml]
   exact List.map_snd_zip (bf _)
  rw[out]
  refine ah (xq ag rfl (ah (qZ ag rfl ?_ (iA _) (psz _ (.refl _)))))
  simp only[aI5,cZ,aI0]
  refine aA (fin _ (.refl _) ?_)
  rw[dJ] at h2
  refine qS.mpr fun i j hi hj n6=>?_
  rw[ur] at hj
  lia
 ·rw[aH3 h2,aH3 h2]
  rw[dJ] at h2
  have Gj:2<=vs.length:=by lia
  refine ah (CQ Gj g _ kg ?_)
  have W:Sg.Wt kd (kas_item (pairsOf vs)) (dj vs.length) #[] (SortSt.mk' kd (vs.toArray.zip vs.toArray) #[] 7 none):=⟨rfl,by
   have e:=kas_range (pairsOf vs)
   rw[pairsOf_size] at e
   rw[Sg.sH,e]
   rfl,rfl,rfl⟩
  have run:=Sg.HR (prog:=prog) (w:=w) (A:=A) (E:=E) (s:={ s with heap:=g }) (n:=vs.length) (r:=r) (Q:=fun _ st'=>failedOf st'=none/\∃pm:List Nat,arrOf st'=Sg.arr (kas_item (pairsOf vs)) pm/\pm.Perm (dj vs.length)/\pm.Pairwise (fun i j=>r i<=r j))
   (fun i j C hi hj hc=>by rw[ET,ET];exact iF Gj g i j C kg hi hj hc) W (fun x hx=>mD.mp hx) fun p' st' q1 q2 q3 q4=>⟨q4,p',q3,q1,q2⟩
  refine ah (iy run ?_ fun _ _ e=>e)
  rintro ⟨⟨⟩,st'⟩ s' ⟨rfl,hf,pm,har,p1,p3⟩
  dsimp only
  have out:(arrOf st').map (·.2)=(pm.map fun i=>vs.getD i dY).toArray:=by
   rw[har,Sg.arr,Fi,dD]
   congr 1
   refine uu fun i _=>?_
   show (kas_item (pairsOf vs) i).2=_
   rw[ET]
  rw[out]
  refine ah (xq ag rfl (ah (qZ ag rfl ?_ (iA _) (psz _ p1))))
  rw[hf]
  simp only[aI5,cZ,aI0]
  exact aA (fin pm p1 p3)
end
end So
end ae1
section aw9
namespace Dm
open PySem PyProof.Rows L2 HT
mutual
def fl:D->List Int
 | .int i=>[i]
 | .tup ds=>jZ ds
 | .lst ds=>jZ ds
 | _=>[]
def jZ:List D->List Int
 | []=>[]
 | d::ds=>fl d++jZ ds
end
mutual
def iG:D->D->Bool
 | .int _,.int _=>true
 | .tup xs,.tup ys=>gk xs ys
 | .lst xs,.lst ys=>gk xs ys
 | _,_=>false
def gk:List D->List D->Bool
 | [],[]=>true
 | x::xs,y::ys=>iG x y&&gk xs ys
 | _,_=>false
end
mutual
theorem we:∀(x y:D),iG x y=true->(fl x).length=(fl y).length
 | .int _,.int _,_=>rfl
 | .tup xs,.tup ys,h=>by rw[fl,fl];exact xT xs ys (by rw[iG] at h;exact h)
 | .lst xs,.lst ys,h=>by rw[fl,fl];exact xT xs ys (by rw[iG] at h;exact h)
 | .cY,y,h=>by cases y <;> simp[iG] at h
 | .bl _,y,h=>by cases y <;> simp[iG] at h
 | .str _,y,h=>by cases y <;> simp[iG] at h
 | .bM _ _,y,h=>by cases y <;> simp[iG] at h
 | .int _,.cY,h=>by simp[iG] at h
 | .int _,.bl _,h=>by simp[iG] at h
 | .int _,.str _,h=>by simp[iG] at h
 | .int _,.tup _,h=>by simp[iG] at h
 | .int _,.lst _,h=>by simp[iG] at h
 | .int _,.bM _ _,h=>by simp[iG] at h
 | .tup _,.cY,h=>by simp[iG] at h
 | .tup _,.bl _,h=>by simp[iG] at h
 | .tup _,.str _,h=>by simp[iG] at h
 | .tup _,.int _,h=>by simp[iG] at h
 | .tup _,.lst _,h=>by simp[iG] at h
 | .tup _,.bM _ _,h=>by simp[iG] at h
 | .lst _,.cY,h=>by simp[iG] at h
 | .lst _,.bl _,h=>by simp[iG] at h
 | .lst _,.str _,h=>by simp[iG] at h
 | .lst _,.int _,h=>by simp[iG] at h
 | .lst _,.tup _,h=>by simp[iG] at h
 | .lst _,.bM _ _,h=>by simp[iG] at h
theorem xT:∀(xs ys:List D),gk xs ys=true->(jZ xs).length=(jZ ys).length
 | [],[],_=>rfl
 | [],_::_,h=>by simp[gk] at h
 | _::_,[],h=>by simp[gk] at h
 | x::xs,y::ys,h=>by
  rw[gk,cu] at h
  rw[jZ,jZ,bU,bU,we x y h.1,xT xs ys h.2]
end
theorem fU(h:iG x y=true):(∃i j,x = .int i/\y = .int j)\/(∃xs ys,x = .tup xs/\y = .tup ys/\gk xs ys=true)\/(∃xs ys,x = .lst xs/\y = .lst ys/\gk xs ys=true):=by
 cases x <;> cases y <;> simp[iG] at h
 ·exact .inl ⟨_,_,rfl,rfl⟩
 ·exact .inr (.inl ⟨_,_,rfl,rfl,h⟩)
 ·exact .inr (.inr ⟨_,_,rfl,rfl,h⟩)
mutual
theorem Bx:∀(x y:D),iG x y=true->fl x=fl y->x=y
 | .int i,y,h,e=>by
  rcases fU h with ⟨i',j,e1,rfl⟩ | ⟨_,_,e1,_⟩ | ⟨_,_,e1,_⟩
  ·rw[fl,fl] at e;injection e with e;rw[e]
  ·cases e1
  ·cases e1
 | .tup xs,y,h,e=>by
  rcases fU h with ⟨_,_,e1,_⟩ | ⟨sI,ys,e1,rfl,q⟩ | ⟨_,_,e1,_⟩
  ·cases e1
  ·obtain rfl:xs=sI:=by injection e1
   rw[fl,fl] at e
   rw[sJ xs ys q e]
  ·cases e1
 | .lst xs,y,h,e=>by
  rcases fU h with ⟨_,_,e1,_⟩ | ⟨_,_,e1,_⟩ | ⟨sI,ys,e1,rfl,q⟩
  ·cases e1
  ·cases e1
  ·obtain rfl:xs=sI:=by injection e1
   rw[fl,fl] at e
   rw[sJ xs ys q e]
 | .cY,y,h,_=>by cases y <;> simp[iG] at h
 | .bl _,y,h,_=>by cases y <;> simp[iG] at h
 | .str _,y,h,_=>by cases y <;> simp[iG] at h
 | .bM _ _,y,h,_=>by cases y <;> simp[iG] at h
theorem sJ:∀(xs ys:List D),gk xs ys=true->jZ xs=jZ ys->xs=ys
 | [],[],_,_=>rfl
 | [],_::_,h,_=>by simp[gk] at h
 | _::_,[],h,_=>by simp[gk] at h
 | x::xs,y::ys,h,e=>by
  rw[gk,cu] at h
  rw[jZ,jZ] at e
  obtain ⟨e1,e2⟩:=LM e (we x y h.1)
  rw[Bx x y h.1 e1,sJ xs ys h.2 e2]
end
mutual
theorem xU:∀(x y:D),iG x y=true->flat x=true/\flat y=true
 | .int i,y,h=>by
  rcases fU h with ⟨_,j,_,rfl⟩ | ⟨_,_,e1,_⟩ | ⟨_,_,e1,_⟩
  ·exact⟨by rw[flat] <;> simp,by rw[flat] <;> simp⟩
  ·cases e1
  ·cases e1
 | .tup xs,y,h=>by
  rcases fU h with ⟨_,_,e1,_⟩ | ⟨sI,ys,e1,rfl,q⟩ | ⟨_,_,e1,_⟩
  ·cases e1
  ·obtain rfl:xs=sI:=by injection e1
   rw[flat,flat];exact uJ xs ys q
  ·cases e1
 | .lst xs,y,h=>by
  rcases fU h with ⟨_,_,e1,_⟩ | ⟨_,_,e1,_⟩ | ⟨sI,ys,e1,rfl,q⟩
  ·cases e1
  ·cases e1
  ·obtain rfl:xs=sI:=by injection e1
   rw[flat,flat];exact uJ xs ys q
 | .cY,y,h=>by cases y <;> simp[iG] at h
 | .bl _,y,h=>by cases y <;> simp[iG] at h
 | .str _,y,h=>by cases y <;> simp[iG] at h
 | .bM _ _,y,h=>by cases y <;> simp[iG] at h
theorem uJ:∀(xs ys:List D),gk xs ys=true->cz xs=true/\cz ys=true
 | [],[],_=>⟨by rw[cz],by rw[cz]⟩
 | [],_::_,h=>by simp[gk] at h
 | _::_,[],h=>by simp[gk] at h
 | x::xs,y::ys,h=>by
  rw[gk,cu] at h
  obtain ⟨a,b⟩:=xU x y h.1
  obtain ⟨c,d⟩:=uJ xs ys h.2
  rw[cz,cz,a,b,c,d];exact⟨rfl,rfl⟩
end
mutual
theorem NR:∀(x y:D),iG x y=true->iO x y=decide (fl x=fl y)
 | .int i,y,h=>by
  rcases fU h with ⟨_,j,_,rfl⟩ | ⟨_,_,e1,_⟩ | ⟨_,_,e1,_⟩
  ·rw[iO,fl,fl]
   by_cases c:i=j
   ·subst c;simp
   ·simp[c]
  ·cases e1
  ·cases e1
 | .tup xs,y,h=>by
  rcases fU h with ⟨_,_,e1,_⟩ | ⟨sI,ys,e1,rfl,q⟩ | ⟨_,_,e1,_⟩
  ·cases e1
  ·obtain rfl:xs=sI:=by injection e1
   rw[iO,fl,fl];exact wg xs ys q
  ·cases e1
 | .lst xs,y,h=>by
  rcases fU h with ⟨_,_,e1,_⟩ | ⟨_,_,e1,_⟩ | ⟨sI,ys,e1,rfl,q⟩
  ·cases e1
  ·cases e1
  ·obtain rfl:xs=sI:=by injection e1
   rw[iO,fl,fl];exact wg xs ys q
 | .cY,y,h=>by cases y <;> simp[iG] at h
 | .bl _,y,h=>by cases y <;> simp[iG] at h
 | .str _,y,h=>by cases y <;> simp[iG] at h
 | .bM _ _,y,h=>by cases y <;> simp[iG] at h
theorem wg:∀(xs ys:List D),gk xs ys=true->eU xs ys=decide (jZ xs=jZ ys)
 | [],[],_=>by rw[eU];simp[jZ]
 | [],_::_,h=>by simp[gk] at h
 | _::_,[],h=>by simp[gk] at h
 | x::xs,y::ys,h=>by
  rw[gk,cu] at h
  rw[eU,NR x y h.1,wg xs ys h.2,jZ,jZ]
  have l:=we x y h.1
  by_cases c1:fl x=fl y
  ·rw[c1]
   by_cases c2:jZ xs=jZ ys
   ·rw[c2];simp
   ·simp[c2]
  ·have:¬ (fl x++jZ xs=fl y++jZ ys):=fun z=>c1 (LM z l).1
   simp[c1,this]
end
theorem wj:∀{a c b d:List Int},a.length=c.length->lexLt (a++b) (c++d)=if a=c then lexLt b d else lexLt a c
 | [],[],b,d,_=>by simp
 | x::a,y::c,b,d,h=>by
  rw[AU,AU,eT,eT,wj (a:=a) (c:=c) (by simpa using h)]
  by_cases e:x=y
  ·subst e
   by_cases e2:a=c
   ·subst e2;simp
   ·simp[e2]
  ·simp[e]
theorem sN:∀a:List Int,lexLt a a=false
 | []=>rfl
 | x::a=>by rw[eT,aH2 rfl];exact sN a
theorem By:∀a b:List Int,lexLt a b=false->lexLt b a=false->a=b
 | [],[],_,_=>rfl
 | [],_::_,h,_=>by rw[oW] at h;cases h
 | _::_,[],_,h=>by rw[oW] at h;cases h
 | x::a,y::b,h1,h2=>by
  rw[eT] at h1 h2
  by_cases e:x=y
  ·subst e
   rw[aH2 rfl] at h1 h2
   rw[By a b h1 h2]
  ·rw[aH3 e] at h1
   rw[aH3 (fun z=>e z.symm)] at h2
   have:=aI6 h1
   have:=aI6 h2
   lia
theorem lex_trans:∀a b c:List Int,lexLt a b=true->lexLt b c=true->lexLt a c=true
 | [],[],_,h,_=>by rw[iM] at h;cases h
 | [],_::_,[],_,h=>by rw[kR] at h;cases h
 | [],_::_,_::_,_,_=>rfl
 | _::_,[],_,h,_=>by rw[kR] at h;cases h
 | _::_,_::_,[],_,h=>by rw[kR] at h;cases h
 | x::a,y::b,z::c,h1,h2=>by
  rw[eT] at h1 h2 ⊢
  by_cases e1:x=y
  ·subst e1
   rw[aH2 rfl] at h1
   by_cases e2:x=z
   ·subst e2
    rw[aH2 rfl] at h2 ⊢
    exact lex_trans a b c h1 h2
   ·rw[aH3 e2] at h2 ⊢;exact h2
  ·rw[aH3 e1] at h1
   have k1:=aH8 h1
   by_cases e2:y=z
   ·subst e2
    rw[aH3 e1];exact h1
   ·rw[aH3 e2] at h2
    have k2:=aH8 h2
    rw[aH3 (by lia)]
    exact aH4 (by lia)
theorem NS(a b:List Int)(h:lexLt a b=true):lexLt b a=false:=by
 cases q:lexLt b a with
 | false=>rfl
 | true=>have:=lex_trans a b a h q;rw[sN] at this;cases this
def uK(a b:List Int):Bool:=!lexLt b a
theorem Ju(a b:List Int):(uK a b || uK b a)=true:=by
 unfold uK
 cases q:lexLt b a with
 | false=>rfl
 | true=>rw[NS b a q];rfl
theorem zV(a b c:List Int)(h1:uK a b=true)(h2:uK b c=true):uK a c=true:=by
 unfold uK at h1 h2 ⊢
 have h1:lexLt b a=false:=by simpa using h1
 have h2:lexLt c b=false:=by simpa using h2
 cases q:lexLt c a with
 | false=>rfl
 | true=>
  by_cases e:a=b
  ·subst e;rw[h2] at q;cases q
  ·have:lexLt a b=true:=by
    cases z:lexLt a b with
    | true=>rfl
    | false=>exact aI4 (By a b z h1) e
   have:=lex_trans c a b q this
   rw[h2] at this;cases this
theorem xV(a b:List Int)(h1:uK a b=true)(h2:uK b a=true):a=b:=By a b (by simpa[uK] using h2) (by simpa[uK] using h1)
def gq(ds:List D):List D:=ds.mergeSort fun a b=>uK (fl a) (fl b)
theorem cR(ds:List D):(gq ds).Perm ds:=List.mergeSort_perm _ _
theorem mK(ds:List D):(gq ds).Pairwise fun a b=>uK (fl a) (fl b)=true:=
 List.pairwise_mergeSort (le:=fun a b=>uK (fl a) (fl b)) (fun a b c=>zV (fl a) (fl b) (fl c)) (fun a b=>Ju (fl a) (fl b)) ds
theorem sO{es:List D}(hs:∀a∈ds,∀b∈ds,iG a b=true)(hp:es.Perm ds)(hw:es.Pairwise fun a b=>uK (fl a) (fl b)=true):es=gq ds:=by
 refine FE (le:=fun a b=>uK (fl a) (fl b)=true) (fun a b ha hb h1 h2=>?_) hw (mK ds) (hp.trans (cR ds).symm)
 exact Bx a b (hs a (hp.mem_iff.mp ha) b ((cR ds).mem_iff.mp hb)) (xV _ _ h1 h2)
end Dm
end aw9
section ae2
namespace Dm
open PySem PyProof.Rows L2 HT PySem.SeqAt
def VU(A:bY)(s:az)(u v:aq)(b:Bool):Prop:=
 ∀(prog:dh) (w:bN) (E:aq->az->Prop) (Q:aq->az->Prop),Q (.bool b) s->aB (aC prog w) A (richCompare .Lt u v) Q E s
inductive PL(A:bY)(s:az):List aq->List aq->List D->List D->Prop
 | nil:PL A s [] [] [] []
 | cons {v w:aq} {x y:D} {vs ws:List aq} {xs ys:List D}:EqAt A s v w (decide (fl x=fl y))->VU A s v w (lexLt (fl x) (fl y))->(fl x).length=(fl y).length->PL A s vs ws xs ys->PL A s (v::vs) (w::ws) (x::xs) (y::ys)
theorem PL.len(h:PL A s vs ws xs ys):vs.length=ws.length:=by
 induction h with
 | nil=>rfl
 | cons _ _ _ _ ih=>rw[cS,cS,ih]
section
open PySem.AutoSeq1 (wpAny_loadPart')
open PySem.MeetsSeq PySem.MeetsSeq2 PySem.MeetsSeq3
theorem Gk(l b:av)(items BA:Array aq)(n n2:Nat)(dd YA:Option av)(sl YB:Array (Option aq))(xs ys:List D) :
  Meets (Builtin.«tuple.__lt__» ⟨[.ref l,.ref b],[]⟩) (fun A R s=>
   s.heap.get? l=some { cls:=.type "tuple",dict:=dd,data:=.seq items n,slots:=sl }/\
   s.heap.get? b=some { cls:=.type "tuple",dict:=YA,data:=.seq BA n2,slots:=YB }/\
   PL A.in1 s items.toList BA.toList xs ys/\R (.ok (.ret (.bool (lexLt (jZ xs) (jZ ys))))) s):=
 .of_wp fun prog w A R s h=>by
  obtain ⟨hp,g,d,tk,os⟩:=s
  obtain ⟨hl,hb,hP,h⟩:=h
  have f2:=AutoSeq1.sub_tuple_tuple
  have BB:items.size=BA.size:=by simpa using hP.len
  wp_walk using jQ hl,jQ hb,lR _ (fun rest b s'=>b.1=none/\s'=⟨hp,g,d,tk,os⟩/\∃(vs ws:List aq) (sI HS:List D),rest=vs.zip ws/\
   PL A.in1 ⟨hp,g,d,tk,os⟩ vs ws sI HS/\R (.ok (.ret (.bool (lexLt (jZ sI) (jZ HS))))) ⟨hp,g,d,tk,os⟩) _
  case turn=>
   rintro ⟨y,x⟩ rest b s' ⟨pW,rfl,vs,ws,sI,HS,hz,hP',hR⟩
   cases hP' with
   | nil=>cases hz
   | @cons v0 w0 x0 y0 _ _ _ _ he iF hfl ax0=>
    rw[LN] at hz
    injection hz with hyx NT
    injection hyx with hy hx
    subst hy hx
    rw[jZ,jZ,wj hfl] at hR
    refine ah (he prog w _ _ ?_)
    by_cases c:fl x0=fl y0
    ·rw[aH2 c] at hR
     rw[aH4 c]
     wp_walk
     exact⟨rfl,rfl,_,_,_,_,NT,ax0,hR⟩
    ·rw[aH3 c] at hR
     rw[aH5 c]
     have hri:=iF prog w
     wp_walk using hri
     exact⟨_,rfl,by simpa using hR⟩
  case fin=>
   rintro ⟨b1,b2⟩ s' ⟨pW,rfl,vs,ws,sI,HS,hz,hP',hR⟩
   simp only at pW
   subst pW
   cases hP' with
   | cons _ _ _ _=>cases hz
   | nil=>
    wp_walk
    refine⟨_,rfl,?_⟩
    simpa[Builtin.Tuple.tupleCompareSizes,BB,jZ,iM] using hR
  case h=>exact⟨rfl,rfl,items.toList,BA.toList,xs,ys,rfl,hP,h⟩
end
mutual
def nl:D->Bool
 | .lst _=>false
 | .tup ds=>HU ds
 | _=>true
def HU:List D->Bool
 | []=>true
 | d::ds=>nl d&&HU ds
end
section
mutual
theorem VV:∀(x y:D) {A:bY} {u v:aq},iG x y=true->nl x=true->fG s.heap x u->fG s.heap y v->A.units+dep x < cLine->VU A s u v (lexLt (fl x) (fl y))
 | .int i,y,A,u,v,h,_,hu,hv,_=>by
  rcases fU h with ⟨_,j,_,rfl⟩ | ⟨_,_,e1,_⟩ | ⟨_,_,e1,_⟩
  ·rw[fG] at hu
   rw[fG] at hv
   obtain ⟨t,rfl⟩:=hu
   obtain ⟨t',rfl⟩:=hv
   intro prog w E Q hq
   refine Nm A s i t j t' prog w E Q ?_
   rw[fl,fl,eT,iM] at hq
   by_cases c:i=j
   ·rw[aH2 c] at hq
    rw[aH5 (by lia)];exact hq
   ·rw[aH3 c] at hq;exact hq
  ·cases e1
  ·cases e1
 | .tup xs,y,A,u,v,h,hn,hu,hv,hr=>by
  rcases fU h with ⟨_,_,e1,_⟩ | ⟨sI,ys,e1,rfl,q⟩ | ⟨_,_,e1,_⟩
  ·cases e1
  ·obtain rfl:xs=sI:=by injection e1
   rw[fG] at hu
   rw[fG] at hv
   refine bF hu fun a it bx t1 p1=>?_
   clear hu
   walk_at"$"
   refine bF hv fun b Uk bx t2 p2=>?_
   clear hv
   walk_at"$"
   rw[dep] at hr
   rw[nl] at hn
   obtain ⟨⟨cls,dd,data,sl⟩,ho,hc,n,hd⟩:=id t1
   obtain ⟨⟨ae3,YA,data2,YB⟩,Ul,KP,n2,hd2⟩:=id t2
   simp only at hc hd KP hd2
   subst hc hd KP hd2
   intro prog w E Q hq
   rw[fl,fl] at hq
   exact La (op:=.Lt) ⟨_,ho,rfl⟩ ⟨_,Ul,rfl⟩ PySem.F.slot_tuple_lt PySem.F.entry_tuple_lt (PySem.F.args_tuple_lt_2 _ _) (Gk a b it Uk n n2 dd YA sl YB xs ys)
    ⟨ho,Ul,Ro xs ys q hn p1 p2 (A:=A.in1) (by show A.units+1+_ < _;lia),show Value.bool (lexLt (jZ xs) (jZ ys))≠Value.notImplemented/\Q _ s from ⟨(fun x=>nomatch x),hq⟩⟩ (by lia)
  ·cases e1
 | .lst xs,y,A,u,v,h,hn,_,_,_=>by rw[nl] at hn;cases hn
 | .cY,y,_,_,_,h,_,_,_,_=>by cases y <;> simp[iG] at h
 | .bl _,y,_,_,_,h,_,_,_,_=>by cases y <;> simp[iG] at h
 | .str _,y,_,_,_,h,_,_,_,_=>by cases y <;> simp[iG] at h
 | .bM _ _,y,_,_,_,h,_,_,_,_=>by cases y <;> simp[iG] at h
theorem Ro:∀(xs ys:List D) {A:bY} {vs ws:List aq},gk xs ys=true->HU xs=true->bG s.heap xs vs->bG s.heap ys ws->A.units+kr xs < cLine->PL A s vs ws xs ys
 | [],[],A,vs,ws,_,_,h1,h2,_=>by rw[bG] at h1 h2;subst h1;subst h2;exact .nil
 | [],_::_,_,_,_,h,_,_,_,_=>by simp[gk] at h
 | _::_,[],_,_,_,h,_,_,_,_=>by simp[gk] at h
 | x::xs,y::ys,A,vs,ws,h,hn,h1,h2,hr=>by
  rw[bG] at h1
  rw[bG] at h2
  refine bF h1 fun v r bx a1 a2=>?_
  clear h1
  walk_at"$"
  refine bF h2 fun v' r' bx b1 b2=>?_
  clear h2
  walk_at"$"
  rw[gk,cu] at h
  rw[HU,cu] at hn
  rw[kr] at hr
  obtain ⟨f1,f2⟩:=xU x y h.1
  refine .cons ?_ (VV x y h.1 hn.1 a1 b1 (by lia)) (we x y h.1) (Ro xs ys h.2 hn.2 a2 b2 (by lia))
  rw[<- NR x y h.1]
  exact oZ x y f1 f2 a1 b1 (by lia)
end
end
end Dm
end ae2
section ae4
namespace Dm
open PySem PySem.W PyProof.Rows L2 HT PySem.SeqAt So
mutual
theorem fG.keep{h h':aX}(k:∀b o,h.get? b=some o->h'.get? b=some o):∀(d:D) {v:aq},fG h d v->fG h' d v
 | .cY,v,q=>by rw[fG] at q ⊢;exact q
 | .bl b,v,q=>by rw[fG] at q ⊢;exact q
 | .int i,v,q=>by rw[fG] at q ⊢;exact q
 | .str x,v,q=>by rw[fG] at q ⊢;exact q
 | .tup ds,v,q=>by
  rw[fG] at q ⊢
  refine bF q fun a it e t p=>?_
  clear q
  exact⟨a,it,e,t.keeps k,bG.keep k ds p⟩
 | .lst ds,v,q=>by
  rw[fG] at q ⊢
  refine bF q fun a it e t p=>?_
  clear q
  exact⟨a,it,e,t.keeps k,bG.keep k ds p⟩
 | .bM tb ds,v,q=>by rw[fG] at q;exact q.elim
theorem bG.keep{h h':aX}(k:∀b o,h.get? b=some o->h'.get? b=some o):∀(ds:List D) {vs:List aq},bG h ds vs->bG h' ds vs
 | [],_,q=>by rw[bG] at q ⊢;exact q
 | d::ds,_,q=>by
  rw[bG] at q ⊢
  refine bF q fun v r e a b=>?_
  clear q
  exact⟨v,r,e,fG.keep k d a,bG.keep k ds b⟩
end
theorem bG.of_map(f:α->D)(g:α->aq):∀(l:List α),(∀x∈l,fG h (f x) (g x))->bG h (l.map f) (l.map g)
 | [],_=>by rw[lU,bG];rfl
 | x::l,hx=>by
  rw[aZ,aZ,bG]
  exact⟨_,_,rfl,hx x (.head _),bG.of_map f g l fun y hy=>hx y (.tail _ hy)⟩
theorem Gm{p q:α->Bool}:∀(l:List α),(∀x∈l,p x=true->q x=true)->l.countP p<=l.countP q
 | [],_=>bf _
 | x::l,h=>by
  rw[wZ,wZ]
  have ih:=Gm l fun y hy=>h y (.tail _ hy)
  by_cases c:p x=true
  ·rw[aH2 c,aH2 (h x (.head _) c)];lia
  ·rw[aH3 c];lia
theorem NU{p q:α->Bool}:∀(l:List α),(∀x∈l,p x=true->q x=true)->∀z∈l,q z=true->p z=false->l.countP p < l.countP q
 | x::l,h,z,hz,hq,hp=>by
  rw[wZ,wZ]
  rcases bP.mp hz with e | e
  ·subst e
   rw[aH3 (by rw[hp];exact iK),aH2 hq]
   have:=Gm l fun y hy=>h y (.tail _ hy)
   lia
  ·have ih:=NU l (fun y hy=>h y (.tail _ hy)) z e hq hp
   by_cases c:p x=true
   ·rw[aH2 c,aH2 (h x (.head _) c)];lia
   ·rw[aH3 c];lia
def rk(ds:List D)(i:Nat):Nat:=(dj ds.length).countP fun j=>lexLt (fl (ds.getD j .cY)) (fl (ds.getD i .cY))
theorem HV(ds:List D)(hi:i < ds.length):lexLt (fl (ds.getD i .cY)) (fl (ds.getD j .cY))=decide (rk ds i < rk ds j):=by
 cases q:lexLt (fl (ds.getD i .cY)) (fl (ds.getD j .cY)) with
 | true=>
  refine(aH4 ?_).symm
  exact NU _ (fun k _ hk=>lex_trans _ _ _ hk q) i (mD.mpr hi) q (sN _)
 | false=>
  refine(aH5 (EZ.mpr ?_)).symm
  refine Gm _ fun k _ hk=>?_
  cases z:lexLt (fl (ds.getD k .cY)) (fl (ds.getD i .cY)) with
  | true=>rfl
  | false=>
   have a:uK (fl (ds.getD i .cY)) (fl (ds.getD k .cY))=true:=by unfold uK;rw[z];rfl
   have b:uK (fl (ds.getD j .cY)) (fl (ds.getD i .cY))=true:=by unfold uK;rw[q];rfl
   have c:=zV _ _ _ b a
   unfold uK at c
   rw[hk] at c
   cases c
inductive Sk:List D->iD->Prop
 | sP {ds:List D} {kd:iD}:ds.length < 2->Sk ds kd
 | nums {ds:List D}:(∀d∈ds,∃i,d = .int i)->Sk ds oneType'
 | oS {ds:List D}:(∀d∈ds,∃i xs,d = .tup (.int i::xs))->Sk ds (tuples' true)
 | VW {ds:List D}:(∀d∈ds,∃ys xs,d = .tup (.tup ys::xs))->Sk ds (tuples' false)
section
theorem HW(i j:Int):lexLt [i] [j]=decide (i < j):=by
 rw[eT,iM]
 by_cases c:i=j
 ·rw[aH2 c,aH5 (by lia)]
 ·rw[aH3 c]
theorem D6{Q:Bool->az->Prop}:∀(xs ys:List D) (vs ws:List aq) (i:Nat),(b=true->i=0->∃m n sI HS,xs = .int m::sI/\ys = .int n::HS)->gk xs ys=true->PL A s vs ws xs ys->bG s.heap xs vs->bG s.heap ys ws->fin=false->Q (lexLt (jZ xs) (jZ ys)) s->
  KatLex prog w A b fin Q (vs.zip ws) i s
 | [],[],vs,ws,i,_,_,hP,h1,h2,hf,hq=>by
  rw[bG] at h1 h2
  subst h1;subst h2
  show Q fin s
  rw[hf]
  exact hq
 | [],_::_,_,_,_,_,h,_,_,_,_,_=>by simp[gk] at h
 | _::_,[],_,_,_,_,h,_,_,_,_,_=>by simp[gk] at h
 | x::xs,y::ys,vs,ws,i,hb,h,hP,h1,h2,hf,hq=>by
  rw[bG] at h1
  rw[bG] at h2
  refine bF h1 fun v r bx a1 a2=>?_
  clear h1
  walk_at"$"
  refine bF h2 fun v' r' bx b1 b2=>?_
  clear h2
  walk_at"$"
  rw[gk,cu] at h
  cases hP with
  | cons he hl hfl hP'=>
   rw[jZ,jZ,wj hfl] at hq
   refine kat_cons (he prog w _ _ (kat_go (fun c=>kat_yes ?_) (fun c=>kat_no ?_)))
   ·have c:=aH8 c
    rw[aH2 c] at hq
    exact D6 xs ys r r' (i+1) (fun _ z=>aI4 z (Nat.succ_ne_zero _)) h.2 hP' a2 b2 hf hq
   ·have c:=aI6 c
    rw[aH3 c] at hq
    by_cases pW:b=true/\i=0
    ·obtain ⟨hb1,Um⟩:=pW
     refine ao7 (hb hb1 Um) fun m n _ _ e1 e2=>?_
     obtain ⟨rfl,_⟩:x = .int m/\_:=ME e1
     obtain ⟨rfl,_⟩:y = .int n/\_:=ME e2
     rw[fG] at a1
     rw[fG] at b1
     obtain ⟨t,rfl⟩:=a1
     obtain ⟨t',rfl⟩:=b1
     rw[hb1,Um]
     refine oneLt_int ?_
     rw[fl,fl,HW] at hq
     exact hq
    ·have:(b&&i==0)=false:=by
      cases b with
      | false=>rfl
      | true=>
       have:i≠0:=fun z=>pW ⟨rfl,z⟩
       simp[this]
     rw[this]
     exact kat_one _ _ (hl prog w _ _ (show PySem.W.BoolBack Q (.bool (lexLt (fl x) (fl y))) s from hq))
theorem lG(p:bG h ds vs)(hi:i < ds.length):fG h (ds.getD i .cY) (vs.getD i dY)/\ds.getD i .cY∈ds:=by
 have hv:i < vs.length:=by rw[p.len];exact hi
 obtain ⟨a,b⟩:=p.get i hv
 have e:vs.getD i dY=vs[i]:=by simp[hv]
 rw[e]
 exact⟨a,b⟩
theorem VX{C:Bool->az->Prop}(k:Sk ds kd)(h2:2<=ds.length)(hs:∀a∈ds,∀b∈ds,iG a b=true)(hn:∀a∈ds,nl a=true)(hd:∀a∈ds,A.units+dep a < cLine)(p:bG s.heap ds vs)
  (hi:i < ds.length) (hj:j < ds.length) (hc:C (decide (rk ds i < rk ds j)) s):aB (aC prog w) A (keyLt' kd (vs.getD i dY) (vs.getD j dY)) C (fun _ _=>False) s:=by
 rw[<- HV ds hi] at hc
 obtain ⟨ai,mi⟩:=lG p hi
 obtain ⟨aj,mj⟩:=lG p hj
 generalize ds.getD i .cY=x at hc ai mi
 generalize ds.getD j .cY=y at hc aj mj
 have tup:∀{b:Bool} {xs ys:List D},x = .tup xs->y = .tup ys->(b=true->∃m n sI HS,xs = .int m::sI/\ys = .int n::HS)->aB (aC prog w) A (keyLt' (tuples' b) (vs.getD i dY) (vs.getD j dY)) C (fun _ _=>False) s:=by
  intro b xs ys ex ey hb
  have sh:=hs x mi y mj
  have nx:=hn x mi
  have dx:=hd x mi
  subst ex;subst ey
  rw[iG] at sh
  rw[nl] at nx
  rw[dep] at dx
  rw[fG] at ai
  rw[fG] at aj
  refine bF ai fun a it e1 sf p1=>?_
  clear ai
  obtain ⟨o1,q1,_,n1,d1⟩:=sf
  refine bF aj fun b' Uk e2 sf p2=>?_
  clear aj
  obtain ⟨o2,q2,_,n2,d2⟩:=sf
  rw[e1,e2]
  have P:=Ro xs ys (A:=A) sh nx p1 p2 (by lia)
  refine kat_lt q1 d1 q2 d2 (D6 xs ys _ _ 0 (fun h _=>hb h) sh P p1 p2 (aH5 ?_) ?_)
  ·have:it.toList.length=Uk.toList.length:=P.len
   simp at this
   lia
  ·rw[fl,fl] at hc
   exact hc
 cases k with
 | sP h=>lia
 | nums h=>
  obtain ⟨m,rfl⟩:=h x mi
  obtain ⟨n,rfl⟩:=h y mj
  rw[fG] at ai
  rw[fG] at aj
  obtain ⟨t,e1⟩:=ai
  obtain ⟨t',e2⟩:=aj
  rw[e1,e2,keyLt'_oneType]
  refine oneLt_int ?_
  rw[fl,fl,HW] at hc
  exact hc
 | oS h=>
  refine rW (h x mi) fun m xs e1=>?_
  refine rW (h y mj) fun n ys e2=>?_
  exact tup e1 e2 fun _=>⟨m,n,xs,ys,rfl,rfl⟩
 | VW h=>
  refine rW (h x mi) fun m xs e1=>?_
  refine rW (h y mj) fun n ys e2=>?_
  exact tup e1 e2 fun z=>nomatch z
theorem BC:∀{ds:List D} {vs:List aq} (f:D->Prop),(∀d∈ds,∃x xs,d = .tup (x::xs)/\f x)->bG h ds vs->∃fs:List aq,fs.length=ds.length/\KatTups h vs fs/\∀v∈fs,∃x,f x/\fG h x v
 | [],vs,f,_,p=>by
  rw[bG] at p;subst p
  exact⟨[],rfl,.nil,fun v hv=>aI4 hv (by simp)⟩
 | d::ds,vs,f,hd,p=>by
  rw[bG] at p
  refine bF p fun v r bx a b=>?_
  clear p
  walk_at"$"
  refine cI (BC f (fun d Qs=>hd d (.tail _ Qs)) b) fun fs l k e=>?_
  refine dS (hd d (.head _)) fun x xs bx fx=>?_
  walk_at"$"
  rw[fG] at a
  refine bF a fun ad it bx sf p1=>?_
  clear a
  walk_at"$"
  obtain ⟨o1,q1,c1,n1,d1⟩:=sf
  rw[bG] at p1
  refine bF p1 fun y r' e1 a1 _=>?_
  clear p1
  refine⟨y::fs,by rw[cS,cS,l],.cons q1 c1 d1 ?_ k,fun z hz=>?_⟩
  ·rw[<- lV,e1];rfl
  ·rcases bP.mp hz with rfl | hz
   ·exact⟨x,fx,a1⟩
   ·exact e z hz
theorem D7{Q:iD->az->Prop}(k:Sk ds kd)(h2:2<=ds.length)(p:bG s.heap ds vs)(hq:Q kd s):aB (aC prog w) A (keyKind' vs.toArray) Q E s:=by
 cases k with
 | sP h=>lia
 | nums h=>
  refine kas_kind (T:=.type "int") (by rw[p.len];exact h2) (fun v hv=>?_) (by decide) (by decide) hq
  obtain ⟨i,hi,e⟩:=j0.mp hv
  obtain ⟨a,b⟩:=p.get i hi
  obtain ⟨m,em⟩:=h _ b
  rw[em,fG] at a
  obtain ⟨t,et⟩:=a
  rw[<- e,et]
  exact Looks.now
 | oS h=>
  obtain ⟨fs,l,kt,e⟩:=BC (fun x=>∃i,x = .int i) (fun d hd=>by obtain ⟨i,xs,e⟩:=h d hd;exact⟨_,xs,e,i,rfl⟩) p
  refine kat_kind (T:=.type "int") kt (by lia) (fun v hv=>?_) (by decide) hq
  refine aY (e v hv) fun x jx q=>?_
  obtain ⟨i,rfl⟩:=jx
  rw[fG] at q
  obtain ⟨t,rfl⟩:=q
  exact Looks.now
 | VW h=>
  obtain ⟨fs,l,kt,e⟩:=BC (fun x=>∃ys,x = .tup ys) (fun d hd=>by obtain ⟨ys,xs,e⟩:=h d hd;exact⟨_,xs,e,ys,rfl⟩) p
  refine kat_kind (T:=.type "tuple") kt (by lia) (fun v hv=>?_) (by decide) hq
  refine aY (e v hv) fun x jx q=>?_
  obtain ⟨ys,rfl⟩:=jx
  rw[fG] at q
  refine bF q fun a it bx sf _=>?_
  clear q
  walk_at"$"
  obtain ⟨o1,q1,c1,_⟩:=sf
  have lk:Looks (aC prog w) s.heap (typeOf (.ref a)) o1.cls:=(Looks.ld q1).andThen .now
  rw[c1] at lk
  exact lk
def SG(prog:dh)(w:bN)(A:bY)(es:List D)(kd:iD)(vs:List aq):Prop:=es.length<=cK/\(∀a∈es,∀b∈es,fl a=fl b->a=b)/\∀(A':bY) (s:az),A'.units=A.units+2->2<=es.length->bG s.heap es vs->
 (∀E (R:iD->az->Prop),R kd s->aB (aC prog w) A' (keyKind' vs.toArray) R E s)/\∀i j C,i < es.length->j < es.length->C (decide (rk es i < rk es j)) s->aB (aC prog w) A' (keyLt' kd (vs.getD i dY) (vs.getD j dY)) C (fun _ _=>False) s
theorem vA{Pd:List D->iD->List aq->Prop}{Q:aq->az->Prop}(hk:∀es kd vs,Pd es kd vs->SG prog w A es kd vs)
  (ax1:∀R:List aq->az->Prop,(∀h' tk es kd vs,(∀b ob,s.heap.get? b=some ob->h'.get? b=some ob)->Pd es kd vs->bG h' es vs->R vs { s with heap:=h',toks:=tk })->aB (aC prog w) A.in1 (collect v) R E s)
  (h:∀(h1 h':aX) tk es kd vs L n (pm:List Nat),(∀b ob,s.heap.get? b=some ob->h1.get? b=some ob)->(∀b ob,h1.get? b=some ob->h'.get? b=some ob)->Pd es kd vs->bG h1 es vs->h1.objs.size<=L->(∀i∈pm,i < es.length)->gq es=pm.map (fun i=>es.getD i .cY)->
   h'.get? L=some (cj "list" (pm.map fun i=>vs.getD i dY).toArray n)->Q (.ref L) { s with heap:=h',toks:=tk }) :
  aB (aC prog w) A (call (.builtin "sorted") [v]) Q E s:=by
 refine Calls.call_function_entry kind_sorted plain_sorted entry_sorted (args_sorted1 _) ?_
 unfold Builtin.«sorted»
 refine ah (m:=checkCount "sorted" 1 1 _) (aA (ah (ax1 _ fun h1 tk es kd vs k1 pd p=>?_)))
 obtain ⟨lz,ij,sk⟩:=hk es kd vs pd
 have lv:vs.length=es.length:=p.len
 refine ah (wL ?_ (by lia))
 have oL:(h1.push (cj "list" vs.toArray 0)).get? h1.objs.size=some (cj "list" vs.toArray 0):=eN _ rfl
 have nk:∀h',Keeps h1.objs.size (h1.push (cj "list" vs.toArray 0)) h'->∀b ob,h1.get? b=some ob->h'.get? b=some ob:=fun h' kh b ob e=>kh b ob (di (bX e)) (bQ _ e)
 refine ah (je (gV slot_list_sort ⟨_,oL,rfl⟩ entry_list_sort ?body (args_list_sort _)))
 case body=>
  refine ze (kd:=kd) (r:=rk es) (s:={ s with heap:=h1.push (cj "list" vs.toArray 0),toks:=tk }) oL (by lia) (fun h2 h' R kh hR=>(sk _ _ rfl (by lia) (p.keep (nk h' kh))).1 _ R hR) (fun h2 h' i j C kh hi hj hC=>(sk _ _ rfl (by lia) (p.keep (nk h' kh))).2 i j C (by lia) (by lia) hC) fun h' n' pm kh hp hu ho=>?_
  rw[lv] at hp
  have lt:∀i∈pm,i < es.length:=fun i hi=>mD.mp (hp.mem_iff.mp hi)
  refine⟨_,rfl,aA ⟨_,rfl,h h1 h' tk es kd vs _ n' pm k1 (nk h' kh) pd p (bf _) lt ?_ ho⟩⟩
  have pe:(pm.map fun i=>es.getD i D.cY).Perm es:=by
   have:=hp.map fun i=>es.getD i D.cY
   rwa [So.map_range] at this
  refine(FE (le:=fun a b=>uK (fl a) (fl b)=true) (fun a b ha hb h1 h2=>ij a ((cR es).mem_iff.mp ha) b (pe.mem_iff.mp hb) (xV _ _ h1 h2)) (mK es) ?_ ((cR es).trans pe.symm))
  rw[AV]
  refine hu.imp_of_mem fun {i j} hi hj n6=>?_
  unfold uK
  rw[HV es (lt j hj),aH5 (by lia)]
  rfl
theorem sgS(sk:Sk es kd)(l:es.length < 64)(hs:∀a∈es,∀b∈es,iG a b=true)(hn:∀a∈es,nl a=true)(hd:∀a∈es,A.units+2+dep a < cLine):SG prog w A es kd vs:=
 ⟨cC (jf l) (by rw[gn];decide),fun a ha b hb=>Bx a b (hs a ha b hb),fun A' s e h2 p=>⟨fun E R hR=>D7 sk h2 p hR,fun i j C=>VX sk h2 hs hn (fun a ha=>by rw[e];exact hd a ha) p⟩⟩
end
end Dm
end ae4
section ax2
namespace Dm
open PySem PyProof.Rows L2 PySem.SeqAt
section
theorem Rp{A:bY}(x:Vw s.heap d u)(y:Vw s.heap e v)(i6:A.units < cLine)(hn:dep d=n)(fx:flat d=true)(fy:flat e=true)
  (ht:∀{xs ys:List D} {a b:av} {bA jO:Array aq},dep (.tup xs)=n->cz xs=true->cz ys=true->IsTup s.heap a bA->bG s.heap xs bA.toList->IsTup s.heap b jO->bG s.heap ys jO.toList->RcAt A s (.ref a) (.ref b) (eU xs ys))
  (hl:∀{xs ys:List D} {a b:av} {bA jO:Array aq},dep (.lst xs)=n->cz xs=true->cz ys=true->PlainL s.heap a bA->bG s.heap xs bA.toList->PlainL s.heap b jO->bG s.heap ys jO.toList->RcAt A s (.ref a) (.ref b) (eU xs ys)):RcAt A s u v (iO d e):=by
 cases x with
 | cY=>
  cases y with
  | cY=>exact RcAt.none_none
  | bl c=>exact RcAt.none_bool c
  | int j r=>exact RcAt.none_int j r
  | str y r=>exact RcAt.none_str y r
  | tup q' p'=>exact RcAt.none_tuple (aR q') i6
  | lst q' p'=>exact RcAt.none_list q'.isList i6
 | bl b=>
  cases y with
  | cY=>exact RcAt.bool_none b
  | bl c=>exact RcAt.bool_bool b c
  | int j r=>exact RcAt.bool_int b j r
  | str y r=>exact RcAt.bool_str b y r
  | tup q' p'=>exact RcAt.bool_tuple b (aR q') i6
  | lst q' p'=>exact RcAt.bool_list b q'.isList i6
 | int i t=>
  cases y with
  | cY=>exact RcAt.int_none i t
  | bl c=>exact RcAt.int_bool i t c
  | int j r=>exact RcAt.int_int i t j r
  | str y r=>exact RcAt.int_str i t y r
  | tup q' p'=>exact RcAt.int_tuple i t (aR q') i6
  | lst q' p'=>exact RcAt.int_list i t q'.isList i6
 | str x t=>
  cases y with
  | cY=>exact RcAt.str_none x t
  | bl c=>exact RcAt.str_bool x t c
  | int j r=>exact RcAt.str_int x t j r
  | str y r=>exact RcAt.str_str x t y r
  | tup q' p'=>exact RcAt.str_tuple x t (aR q') i6
  | lst q' p'=>exact RcAt.str_list x t q'.isList i6
 | tup q p=>
  cases y with
  | cY=>exact RcAt.tuple_none (aR q) i6
  | bl c=>exact RcAt.tuple_bool c (aR q) i6
  | int j r=>exact RcAt.tuple_int j r (aR q) i6
  | str y r=>exact RcAt.tuple_str y r (aR q) i6
  | tup q' p'=>exact ht hn (by rw[flat] at fx;exact fx) (by rw[flat] at fy;exact fy) q p q' p'
  | lst q' p'=>exact RcAt.tuple_list (aR q) q'.isList i6
 | lst q p=>
  cases y with
  | cY=>exact RcAt.list_none q.isList i6
  | bl c=>exact RcAt.list_bool c q.isList i6
  | int j r=>exact RcAt.list_int j r q.isList i6
  | str y r=>exact RcAt.list_str y r q.isList i6
  | tup q' p'=>exact RcAt.list_tuple q.isList (aR q') i6
  | lst q' p'=>exact hl hn (by rw[flat] at fx;exact fx) (by rw[flat] at fy;exact fy) q p q' p'
theorem VY(d e:D){A:bY}(fx:flat d=true)(fy:flat e=true)(hu:fG s.heap d u)(hv:fG s.heap e v)(hr:A.units+dep d < cLine):RcAt A s u v (iO d e):=by
 have i6:A.units < cLine:=qP (EW _ _) hr
 refine Rp (vw hu) (vw hv) i6 rfl fx fy (fun {xs ys a b bA jO} hn fx fy q p q' p'=>?_) (fun {xs ys a b bA jO} hn fx fy q p q' p'=>?_)
 ·rw[<- xQ p p']
  exact RcAt.tuples (aR q) (aR q') i6 (mJ p p' fun x y u v m1 m2 g1 g2=>oZ _ _ (dW fx m1) (dW fy m2) g1 g2 (by show A.units+1+_ < _;rw[<- hn,dep] at hr;have:=iV m1;lia))
 ·by_cases hl:bA.size=jO.size
  ·rw[<- Gb p p' hl]
   exact RcAt.lists q.isList q'.isList hl i6 (mJ p p' fun x y u v m1 m2 g1 g2=>oZ _ _ (dW fx m1) (dW fy m2) g1 g2 (by show A.units+1+_ < _;rw[<- hn,dep] at hr;have:=iV m1;lia))
  ·rw[<- Gf p p' hl]
   exact RcAt.lists_lengths q.isList q'.isList (by simpa using hl) i6
theorem Jv{A:bY}(x:Vw s.heap d u)(y:Vw s.heap e v)(i6:A.units < cLine)(hn:dep d=n)(fx:flat d=true)(fy:flat e=true)
  (ht:∀{xs ys:List D} {a b:av} {bA jO:Array aq},dep (.tup xs)=n->cz xs=true->cz ys=true->IsTup s.heap a bA->bG s.heap xs bA.toList->IsTup s.heap b jO->bG s.heap ys jO.toList->RcNeAt A s (.ref a) (.ref b) (!eU xs ys))
  (hl:∀{xs ys:List D} {a b:av} {bA jO:Array aq},dep (.lst xs)=n->cz xs=true->cz ys=true->PlainL s.heap a bA->bG s.heap xs bA.toList->PlainL s.heap b jO->bG s.heap ys jO.toList->RcNeAt A s (.ref a) (.ref b) (!eU xs ys)):RcNeAt A s u v (!iO d e):=by
 cases x with
 | cY=>
  cases y with
  | cY=>exact RcNeAt.none_none
  | bl c=>exact RcNeAt.none_bool c
  | int j r=>exact RcNeAt.none_int j r
  | str y r=>exact RcNeAt.none_str y r
  | tup q' p'=>exact RcNeAt.none_tuple (aR q') i6
  | lst q' p'=>exact RcNeAt.none_list q'.isList i6
 | bl b=>
  cases y with
  | cY=>exact RcNeAt.bool_none b
  | bl c=>exact RcNeAt.bool_bool b c
  | int j r=>exact RcNeAt.bool_int b j r
  | str y r=>exact RcNeAt.bool_str b y r
  | tup q' p'=>exact RcNeAt.bool_tuple b (aR q') i6
  | lst q' p'=>exact RcNeAt.bool_list b q'.isList i6
 | int i t=>
  cases y with
  | cY=>exact RcNeAt.int_none i t
  | bl c=>exact RcNeAt.int_bool i t c
  | int j r=>exact RcNeAt.int_int i t j r
  | str y r=>exact RcNeAt.int_str i t y r
  | tup q' p'=>exact RcNeAt.int_tuple i t (aR q') i6
  | lst q' p'=>exact RcNeAt.int_list i t q'.isList i6
 | str x t=>
  cases y with
  | cY=>exact RcNeAt.str_none x t
  | bl c=>exact RcNeAt.str_bool x t c
  | int j r=>exact RcNeAt.str_int x t j r
  | str y r=>exact RcNeAt.str_str x t y r
  | tup q' p'=>exact RcNeAt.str_tuple x t (aR q') i6
  | lst q' p'=>exact RcNeAt.str_list x t q'.isList i6
 | tup q p=>
  cases y with
  | cY=>exact RcNeAt.tuple_none (aR q) i6
  | bl c=>exact RcNeAt.tuple_bool c (aR q) i6
  | int j r=>exact RcNeAt.tuple_int j r (aR q) i6
  | str y r=>exact RcNeAt.tuple_str y r (aR q) i6
  | tup q' p'=>exact ht hn (by rw[flat] at fx;exact fx) (by rw[flat] at fy;exact fy) q p q' p'
  | lst q' p'=>exact RcNeAt.tuple_list (aR q) q'.isList i6
 | lst q p=>
  cases y with
  | cY=>exact RcNeAt.list_none q.isList i6
  | bl c=>exact RcNeAt.list_bool c q.isList i6
  | int j r=>exact RcNeAt.list_int j r q.isList i6
  | str y r=>exact RcNeAt.list_str y r q.isList i6
  | tup q' p'=>exact RcNeAt.list_tuple q.isList (aR q') i6
  | lst q' p'=>exact hl hn (by rw[flat] at fx;exact fx) (by rw[flat] at fy;exact fy) q p q' p'
theorem NV(d e:D){A:bY}(fx:flat d=true)(fy:flat e=true)(hu:fG s.heap d u)(hv:fG s.heap e v)(hr:A.units+dep d < cLine):RcNeAt A s u v (!iO d e):=by
 have i6:A.units < cLine:=qP (EW _ _) hr
 refine Jv (vw hu) (vw hv) i6 rfl fx fy (fun {xs ys a b bA jO} hn fx fy q p q' p'=>?_) (fun {xs ys a b bA jO} hn fx fy q p q' p'=>?_)
 ·rw[<- xQ p p']
  exact RcNeAt.tuples (aR q) (aR q') i6 (mJ p p' fun x y u v m1 m2 g1 g2=>oZ _ _ (dW fx m1) (dW fy m2) g1 g2 (by show A.units+1+_ < _;rw[<- hn,dep] at hr;have:=iV m1;lia))
 ·by_cases hl:bA.size=jO.size
  ·rw[<- Gb p p' hl]
   exact RcNeAt.lists q.isList q'.isList hl i6 (mJ p p' fun x y u v m1 m2 g1 g2=>oZ _ _ (dW fx m1) (dW fy m2) g1 g2 (by show A.units+1+_ < _;rw[<- hn,dep] at hr;have:=iV m1;lia))
  ·rw[<- Gf p p' hl]
   exact RcNeAt.lists_lengths q.isList q'.isList (by simpa using hl) i6
end
end Dm
end ax2
section ax3
namespace Tb
open PySem PySem.SetTable
def kU(mask:Nat)(p:Probe):Probe:=
 if p.more > 0 then { p with j:=p.j+1,more:=p.more - 1 } else
  { p with j:=(leap mask p.i p.perturb).1,more:=runEnd mask (leap mask p.i p.perturb).1 - (leap mask p.i p.perturb).1,i:=(leap mask p.i p.perturb).1,perturb:=(leap mask p.i p.perturb).2 }
theorem xW(t:gW)(p:Probe):t.advance p=kU t.mask p:=by
 unfold SetTable.advance kU;rfl
def KQ(mask i kW:Nat):Probe:={ j:=i,more:=runEnd mask i - i,i:=i,perturb:=kW,dummy:=none }
theorem xX(t:gW)(h:Int):t.probeStart h=KQ t.mask (bits h % (t.mask+1)) (bits h):=rfl
def W(mask:Nat):Probe->Nat->Probe
 | p,0=>p
 | p,k+1=>W mask (kU mask p) k
theorem p7(mask:Nat):∀(a b:Nat) (p:Probe),W mask p (a+b)=W mask (W mask p a) b
 | 0,b,p=>by rw[kK];rfl
 | a+1,b,p=>by
  rw[show a+1+b=(a+b)+1 by lia]
  show W mask (kU mask p) (a+b)=_
  rw[p7 mask a b];rfl
theorem VZ(mask:Nat)(p:Probe)(k:Nat):W mask p (k+1)=kU mask (W mask p k):=by
 rw[p7 mask k 1 p];rfl
theorem xY(mask:Nat)(p:Probe)(h:p.dummy=none):(kU mask p).dummy=none:=by
 unfold kU;split <;> exact h
theorem HX(mask:Nat):∀(k:Nat) (p:Probe),p.dummy=none->(W mask p k).dummy=none
 | 0,_,h=>h
 | k+1,p,h=>HX mask k _ (xY mask p h)
theorem NW(mask:Nat):∀(k:Nat) (p:Probe),k<=p.more->W mask p k={ p with j:=p.j+k,more:=p.more - k }
 | 0,p,_=>rfl
 | k+1,p,h=>by
  show W mask (kU mask p) k=_
  have e:kU mask p={ p with j:=p.j+1,more:=p.more - 1 }:=by unfold kU;rw[aH2 (by lia)]
  rw[e,NW mask k _ (by show k<=p.more - 1;lia)]
  simp only[Probe.mk.injEq,and_true,true_and]
  lia
theorem Gn(mask i kW:Nat):W mask (KQ mask i kW) (runEnd mask i - i+1)=KQ mask (leap mask i kW).1 (leap mask i kW).2:=by
 rw[VZ,NW mask (runEnd mask i - i) (KQ mask i kW) (bf _)]
 unfold kU
 rw[aH3 (by show ¬ (runEnd mask i - i - (runEnd mask i - i) > 0);lia)]
 rfl
theorem W0(mask i:Nat):runEnd mask i - i<=9:=by unfold runEnd;split <;> lia
def G(mask:Nat):Nat->Nat->Nat->Nat×Nat
 | 0,i,kW=>(i,kW)
 | n+1,i,kW=>G mask n (leap mask i kW).1 (leap mask i kW).2
theorem D8(mask:Nat):∀(n i kW:Nat),∃k,k<=10 * n/\W mask (KQ mask i kW) k=KQ mask (G mask n i kW).1 (G mask n i kW).2
 | 0,i,kW=>⟨0,by lia,rfl⟩
 | n+1,i,kW=>by
  refine aY (D8 mask n (leap mask i kW).1 (leap mask i kW).2) fun k hk e=>?_
  refine⟨runEnd mask i - i+1+k,by have:=W0 mask i;lia,?_⟩
  rw[p7,Gn,e];rfl
theorem Uo(mask:Nat):∀(n i kW:Nat),(G mask n i kW).2=kW / 32 ^ n
 | 0,i,kW=>by simp[G]
 | n+1,i,kW=>by
  show (G mask n (leap mask i kW).1 (leap mask i kW).2).2=_
  rw[Uo mask n,show (leap mask i kW).2=kW / 32 from rfl,Nat.div_div_eq_div_mul,Lr,Nat.mul_comm]
theorem Up(mask:Nat):∀(a b i kW:Nat),G mask (a+b) i kW=G mask b (G mask a i kW).1 (G mask a i kW).2
 | 0,b,i,kW=>by rw[kK];rfl
 | a+1,b,i,kW=>by
  rw[show a+1+b=(a+b)+1 by lia]
  show G mask (a+b) _ _=_
  rw[Up mask a b];rfl
theorem ae5(mask:Nat):∀(n i kW:Nat),i < mask+1->(G mask n i kW).1 < mask+1
 | 0,_,_,h=>h
 | n+1,i,kW,_=>ae5 mask n _ _ (qQ _ (ua _))
def seen(mask:Nat):Nat->Nat->Nat->Nat
 | 0,_,acc=>acc
 | n+1,i,acc=>seen mask n ((i * 5+1) % (mask+1)) (acc ||| (1 <<< i))
theorem D9(mask e:Nat):∀(n i acc:Nat),(seen mask n i acc).testBit e=true->acc.testBit e=true\/∃m,m < n/\(G mask m i 0).1=e
 | 0,i,acc,h=>.inl h
 | n+1,i,acc,h=>by
  rcases D9 mask e n _ _ h with h | ⟨m,hm,e'⟩
  ·rw[Nat.testBit_or,oO] at h
   rcases h with h | h
   ·exact .inl h
   ·refine .inr ⟨0,by lia,?_⟩
    rw[Nat.one_shiftLeft,Nat.testBit_two_pow] at h
    exact aH8 h
  ·exact .inr ⟨m+1,by lia,e'⟩
def p8(mask:Nat):Bool:=(dj (mask+1)).all fun i=>seen mask (mask+1) i 0==2 ^ (mask+1) - 1
theorem ae6:p8 7=true:=by decide +kernel
theorem W6:p8 31=true:=by decide +kernel
theorem Rq:p8 127=true:=by decide +kernel
def KR(mask:Nat):Prop:=mask=7\/mask=31\/mask=127
theorem KR.full{mask:Nat}(h:KR mask):p8 mask=true:=by
 rcases h with rfl | rfl | rfl
 ·exact ae6
 ·exact W6
 ·exact Rq
theorem cover{mask:Nat}(hm:KR mask){i e:Nat}(hi:i < mask+1)(he:e < mask+1):∃m,m < mask+1/\(G mask m i 0).1=e:=by
 have h:=hm.full
 unfold p8 at h
 rw[gI] at h
 have q:=aH6.mp (h i (mD.mpr hi))
 have b:(seen mask (mask+1) i 0).testBit e=true:=by
  rw[q,Nat.testBit_two_pow_sub_one];exact aH4 he
 rcases D9 mask e _ _ _ b with h0 | h0
 ·rw[Nat.zero_testBit] at h0;cases h0
 ·exact h0
theorem Rt(h:Int):bits h < 2 ^ 64:=by
 unfold bits;lia
theorem HY{mask:Nat}(hm:KR mask)(h:Int){e:Nat}(he:e < mask+1):∃n,n<=mask+13/\(G mask n (bits h % (mask+1)) (bits h)).1=e:=by
 have p0:(G mask 13 (bits h % (mask+1)) (bits h)).2=0:=by
  rw[Uo];exact Nat.div_eq_of_lt (iJ (Rt h) (by decide))
 obtain ⟨m,Cr,e'⟩:=cover hm (ae5 mask 13 _ (bits h) (qQ _ (ua _))) he
 refine⟨13+m,by lia,?_⟩
 rw[Up,p0];exact e'
theorem reach{mask:Nat}(hm:KR mask)(h:Int){e:Nat}(he:e < mask+1):∃k,k<=10 * (mask+13)/\(W mask (KQ mask (bits h % (mask+1)) (bits h)) k).j=e:=by
 refine aY (HY hm h he) fun n hn e'=>?_
 refine aY (D8 mask n (bits h % (mask+1)) (bits h)) fun k hk ek=>?_
 refine⟨k,by lia,?_⟩
 rw[ek];exact e'
def vB(xs:Array Nat):Prop:=∀i j,i < j->j < xs.size->xs.getD i 0 < xs.getD j 0
theorem vB.le(h:vB xs)(n6:i<=j)(hj:j < xs.size):xs.getD i 0<=xs.getD j 0:=by
 rcases Ls n6 with h' | rfl
 ·exact jf (h i j h' hj)
 ·exact bf _
theorem NX(xs:Array Nat)(h:i < xs.size):xs.getD i a=xs.getD i b:=by simp[Array.getD,h]
theorem xZ(hr:vB xs)(j:Nat):∀(fuel lo hi:Nat),hi<=xs.size->lo<=hi->hi - lo<=fuel->(∀i,i < lo->xs.getD i 0 < j)->(∀i,hi<=i->i < xs.size->j<=xs.getD i 0)->
  lo<=below.go xs j fuel lo hi/\below.go xs j fuel lo hi<=xs.size/\(∀i,i < below.go xs j fuel lo hi->xs.getD i 0 < j)/\∀i,below.go xs j fuel lo hi<=i->i < xs.size->j<=xs.getD i 0
 | 0,lo,hi,h1,h2,h3,a,b=>by
  have:hi=lo:=by lia
  subst this
  exact⟨bf _,h1,a,b⟩
 | fuel+1,lo,hi,h1,h2,h3,a,b=>by
  unfold below.go
  by_cases iF:lo < hi
  ·rw[aH2 iF]
   dsimp only
   have hm:(lo+hi) / 2 < xs.size:=by lia
   rw[NX xs (b:=0) hm]
   by_cases hc:xs.getD ((lo+hi) / 2) 0 < j
   ·rw[aH2 hc]
    have q:=xZ hr j fuel ((lo+hi) / 2+1) hi h1 (by lia) (by lia) (fun i VG=>qP (hr.le (by lia) hm) hc) b
    exact⟨by lia,q.2⟩
   ·rw[aH3 hc]
    have q:=xZ hr j fuel lo ((lo+hi) / 2) (by lia) (by lia) (by lia) a (fun i VG hs=>cC (qO hc) (hr.le VG hs))
    exact⟨by lia,q.2⟩
  ·rw[aH3 iF]
   have:hi=lo:=by lia
   subst this
   exact⟨bf _,h1,a,b⟩
theorem nD(hr:vB xs)(j:Nat):below xs j<=xs.size/\(∀i,i < below xs j->xs.getD i 0 < j)/\∀i,below xs j<=i->i < xs.size->j<=xs.getD i 0:=
 (xZ hr j xs.size 0 xs.size (bf _) (iA _) (bf _) (fun i h=>aI4 h (jE _)) (fun i h h'=>aI4 h' (EZ.mpr h))).2
theorem below_at(hr:vB xs)(hi:i < xs.size):below xs (xs.getD i 0)=i:=by
 refine z7 (nD hr (xs.getD i 0)) fun a b c=>?_
 rcases uc (below xs (xs.getD i 0)) i with h | h | h
 ·have:=c _ (bf _) (by lia)
  have:=hr _ _ h hi
  lia
 ·exact h
 ·have:=b i h
  lia
structure Good(t:gW)(n:Nat):Prop where
 size:t.place.size=n
 rise:vB t.place
 le:∀i,i < n->t.place.getD i 0<=t.mask
 dum:t.dummies=#[]
 YC:KR t.mask
 sP:n < t.mask
theorem HZ(j:Nat):has #[] j=false:=by simp[has]
theorem zW(g:Good t n)(hi:i < n):t.slot (t.place.getD i 0) = .live i:=by
 have hs:i < t.place.size:=by rw[g.size];exact hi
 unfold SetTable.slot
 dsimp only
 rw[below_at g.rise hs,aH2 (by simp[Array.getD,hs])]
theorem y9(g:Good t n)(j:Nat):(∃i,i < n/\t.place.getD i 0=j/\t.slot j = .live i)\/((∀i,i < n->t.place.getD i 0≠j)/\t.slot j = .empty):=by
 by_cases h:∃i,i < n/\t.place.getD i 0=j
 ·refine aY h fun i hi e=>?_
  clear h
  exact .inl ⟨i,hi,e,by rw[<- e];exact zW g hi⟩
 ·refine .inr ⟨fun i hi e=>h ⟨i,hi,e⟩,?_⟩
  unfold SetTable.slot
  dsimp only
  rw[aH3,g.dum,HZ]
  ·rfl
  ·intro q
   have q:=aH6.mp q
   obtain ⟨hs,e⟩:=oN.mp q
   exact h ⟨below t.place j,by rw[<- g.size];exact hs,by simp[Array.getD,hs,e]⟩
theorem fV(g:Good t n)(j:Nat):t.slot j = .empty↔∀i,i < n->t.place.getD i 0≠j:=by
 rcases y9 g j with ⟨i,hi,e,q⟩ | ⟨a,q⟩
 ·rw[q];exact⟨fun h=>(nomatch h),fun h=>aI4 e (h i hi)⟩
 ·exact⟨fun _=>a,fun _=>q⟩
theorem I0(h:vB xs):∀i,i < xs.size->i<=xs.getD i 0
 | 0,_=>iA _
 | i+1,hi=>by
  have a:=I0 h i (by lia)
  have b:=h i (i+1) (by lia) hi
  lia
theorem Gp(g:Good t n):∃e,e < t.mask+1/\t.slot e = .empty:=by
 by_cases h:∀i,i < n->t.place.getD i 0=i
 ·refine⟨n,by have:=g.sP;lia,(fV g n).mpr fun i hi e=>?_⟩
  rw[h i hi] at e;lia
 ·have:∃i,i < n/\t.place.getD i 0≠i/\∀k,k < i->t.place.getD k 0=k:=by
   have aux:∀m,m<=n->(∀k,k < m->t.place.getD k 0=k)\/∃i,i < n/\t.place.getD i 0≠i/\∀k,k < i->t.place.getD k 0=k:=by
    intro m
    induction m with
    | zero=>intro _;exact .inl fun k hk=>aI4 hk (jE _)
    | succ m ih=>
     intro hm
     rcases ih (by lia) with a | a
     ·by_cases e:t.place.getD m 0=m
      ·refine .inl fun k hk=>?_
       rcases Ls (Nat.le_of_lt_succ hk) with h' | rfl
       ·exact a k h'
       ·exact e
      ·exact .inr ⟨m,by lia,e,a⟩
     ·exact .inr a
   rcases aux n (bf _) with a | a
   ·exact aI4 a h
   ·exact a
  refine cI this fun i hi ne before=>?_
  clear this
  have hs:i < t.place.size:=by rw[g.size];exact hi
  have ge:=I0 g.rise i hs
  refine⟨i,by have:=g.le i hi;lia,(fV g i).mpr fun k hk e=>?_⟩
  rcases uc k i with h' | rfl | h'
  ·rw[before k h'] at e;lia
  ·exact ne e
  ·have:=g.rise i k h' (by rw[g.size];exact hk)
   lia
theorem toList_ins(xs:Array α)(p:Nat)(x:α):(jh xs p x).toList=xs.toList.take p++x::xs.toList.drop p:=by
 simp[jh,gr,uh]
theorem NY(xs:Array α)(p:Nat)(x:α)(hp:p<=xs.size):(jh xs p x).size=xs.size+1:=by
 rw[<- dB,toList_ins,bU,cS,kL,wW,dB];lia
theorem sj(xs:Array α)(p:Nat)(x:α)(hp:p<=xs.size)(i:Nat):(jh xs p x)[i]?=if i < p then xs[i]? else if i=p then some x else xs[i - 1]?:=by
 rw[<- lV,toList_ins]
 by_cases h1:i < p
 ·rw[aH2 h1,qR (by rw[kL,dB];lia),F6 h1,lV]
 ·rw[aH3 h1,nj (by rw[kL,dB];lia),kL,dB,F0 hp]
  by_cases h2:i=p
  ·subst h2;simp
  ·rw[aH3 h2]
   obtain ⟨m,hm⟩:∃m,i - p=m+1:=⟨i - p - 1,by lia⟩
   rw[hm,LO,LK,lV]
   congr 1;lia
theorem Dc(xs:Array Nat)(p x:Nat)(hp:p<=xs.size)(i:Nat):(jh xs p x).getD i 0=if i < p then xs.getD i 0 else if i=p then x else xs.getD (i - 1) 0:=by
 have e:∀ys:Array Nat,∀k,ys.getD k 0=(ys[k]?).getD 0:=fun ys k=>by simp[jg]
 rw[e,sj xs p x hp i]
 split
 ·rw[e]
 ·split
  ·rfl
  ·rw[e]
theorem Gq(g:Good t n):t.put j=({ t with place:=jh t.place (below t.place j) j },below t.place j):=by
 unfold SetTable.put
 dsimp only
 rw[g.dum,HZ]
 simp only[cZ,aI0]
theorem Dd(g:Good t n)(hj:j<=t.mask)(he:t.slot j = .empty)(hf:n+1 < t.mask):Good (t.put j).1 (n+1)/\(t.put j).2=below t.place j/\below t.place j<=n/\(t.put j).1.mask=t.mask/\
  (∀k,(t.put j).1.slot k = .empty↔(t.slot k = .empty/\k≠j))/\(t.put j).1.place=jh t.place (below t.place j) j:=by
 refine z7 (nD g.rise j) fun b1 b2 b3=>?_
 rw[g.size] at b1 b3
 have hb1:below t.place j<=t.place.size:=by rw[g.size];exact b1
 have YD:=(fV g j).mp he
 have gt:∀i,below t.place j<=i->i < n->j < t.place.getD i 0:=fun i h1 h2=>by
  have:=b3 i h1 h2
  have:=YD i h2
  lia
 rw[Gq g]
 have gd:=Dc t.place (below t.place j) j hb1
 have sz:(jh t.place (below t.place j) j).size=n+1:=by rw[NY _ _ _ hb1,g.size]
 have gg:Good { t with place:=jh t.place (below t.place j) j } (n+1):=by
  refine⟨sz,fun i k hik hk=>?_,fun i hi=>?_,g.dum,g.YC,hf⟩
  ·have hk:k < n+1:=by rw[<- sz];exact hk
   show (jh t.place (below t.place j) j).getD i 0 < (jh t.place (below t.place j) j).getD k 0
   rw[gd i,gd k]
   by_cases h1:k < below t.place j
   ·rw[aH2 h1,aH2 (by lia)]
    exact g.rise i k hik (by rw[g.size];lia)
   ·rw[aH3 h1]
    by_cases h2:k=below t.place j
    ·rw[aH2 h2,aH2 (by lia)]
     exact b2 i (by lia)
    ·rw[aH3 h2]
     by_cases h3:i < below t.place j
     ·rw[aH2 h3]
      exact g.rise i (k - 1) (by lia) (by rw[g.size];lia)
     ·rw[aH3 h3]
      by_cases h4:i=below t.place j
      ·rw[aH2 h4]
       exact gt (k - 1) (by lia) (by lia)
      ·rw[aH3 h4]
       exact g.rise (i - 1) (k - 1) (by lia) (by rw[g.size];lia)
  ·show (jh t.place (below t.place j) j).getD i 0<=t.mask
   rw[gd i]
   by_cases h1:i < below t.place j
   ·rw[aH2 h1];exact g.le i (by lia)
   ·rw[aH3 h1]
    by_cases h2:i=below t.place j
    ·rw[aH2 h2];exact hj
    ·rw[aH3 h2];exact g.le (i - 1) (by lia)
 refine⟨gg,rfl,b1,rfl,fun k=>?_,rfl⟩
 rw[fV gg,fV g]
 show (∀i,i < n+1->(jh t.place (below t.place j) j).getD i 0≠k)↔_
 constructor
 ·intro h
  refine⟨fun i hi e=>?_,fun e=>?_⟩
  ·by_cases h1:i < below t.place j
   ·exact h i (by lia) (by rw[gd i,aH2 h1];exact e)
   ·exact h (i+1) (by lia) (by rw[gd (i+1),aH3 (by lia),aH3 (by lia)];exact e)
  ·exact h (below t.place j) (by lia) (by rw[gd,aH3 (by lia),aH2 rfl];exact e.symm)
 ·rintro ⟨h,ax4⟩ i hi e
  rw[gd i] at e
  by_cases h1:i < below t.place j
  ·rw[aH2 h1] at e;exact h i (by lia) e
  ·rw[aH3 h1] at e
   by_cases h2:i=below t.place j
   ·rw[aH2 h2] at e;exact ax4 e.symm
   ·rw[aH3 h2] at e;exact h (i - 1) (by lia) e
def uL(t:gW)(h:Int)(j:Nat):Prop:=∃k,(W t.mask (t.probeStart h) k).j=j/\∀m,m < k->t.slot (W t.mask (t.probeStart h) m).j≠ .empty
def Paths(t:gW)(hs:Nat->Int)(n:Nat):Prop:=∀i,i < n->uL t (hs i) (t.place.getD i 0)
theorem least{p:Nat->Prop}[DecidablePred p]{k:Nat}(h:p k):∃d,d<=k/\p d/\∀m,m < d->¬ p m:=by
 induction k using Nat.strongRecOn with
 | _ k ih=>
  by_cases q:∃m,m < k/\p m
  ·refine aY q fun m hm pm=>?_
   clear q
   refine cI (ih m hm pm) fun d hd a b=>?_
   exact⟨d,by lia,a,b⟩
  ·exact⟨k,bf _,h,fun m hm pm=>q ⟨m,hm,pm⟩⟩
theorem dist{t:gW}{n:Nat}(g:Good t n)(h:Int):∃d,d<=10 * (t.mask+13)/\t.slot (W t.mask (t.probeStart h) d).j = .empty/\∀m,m < d->t.slot (W t.mask (t.probeStart h) m).j≠ .empty:=by
 refine aY (Gp g) fun e he se=>?_
 refine aY (reach g.YC h he) fun k hk ek=>?_
 obtain ⟨d,hd,a,b⟩:=least (p:=fun m=>t.slot (W t.mask (t.probeStart h) m).j = .empty) (k:=k) (by rw[xX,ek];exact se)
 exact⟨d,by lia,a,b⟩
theorem I8(g:Good t n)(hashAt:Nat->Int)(h:Int):∀(d:Nat) (p:Probe) (fuel:Nat),p.dummy=none->d < fuel->t.slot (W t.mask p d).j = .empty->(∀m,m < d->t.slot (W t.mask p m).j≠ .empty)->
  (∃m i,m < d/\i < n/\t.slot (W t.mask p m).j = .live i/\hashAt i=h/\(∀m',m' < m->∀i',t.slot (W t.mask p m').j = .live i'->hashAt i'≠h)/\probe.go t hashAt h fuel p=some (.candidate (W t.mask p m).j i (W t.mask p (m+1))))\/
  ((∀m,m < d->∀i,t.slot (W t.mask p m).j = .live i->hashAt i≠h)/\probe.go t hashAt h fuel p=some (.empty (W t.mask p d).j none))
 | 0,p,fuel+1,hd,_,he,_=>by
  refine .inr ⟨fun m hm=>aI4 hm (jE _),?_⟩
  unfold probe.go
  have Ru:t.slot p.j = .empty:=he
  rw[Ru,hd];rfl
 | d+1,p,fuel+1,hd,hf,he,hb=>by
  have h0:t.slot p.j≠ .empty:=hb 0 (by lia)
  rcases y9 g p.j with ⟨i,hi,_,q⟩ | ⟨_,q⟩
  ·by_cases hh:hashAt i=h
   ·refine .inl ⟨0,i,by lia,hi,q,hh,fun m hm=>aI4 hm (jE _),?_⟩
    unfold probe.go
    rw[q]
    dsimp only
    rw[aH2 (aH6.mpr hh),xW];rfl
   ·have e:probe.go t hashAt h (fuel+1) p=probe.go t hashAt h fuel (kU t.mask p):=by
     conv=>lhs;unfold probe.go
     rw[q]
     dsimp only
     rw[aH3 (fun z=>hh (aH6.mp z)),xW]
    rw[e]
    rcases I8 g hashAt h d (kU t.mask p) fuel (xY _ _ hd) (by lia) he (fun m hm=>hb (m+1) (by lia)) with ⟨m,i',a1,a2,a3,a4,a5,a6⟩ | ⟨a1,a2⟩
    ·refine .inl ⟨m+1,i',by lia,a2,a3,a4,fun m' Cr i'' q'=>?_,a6⟩
     cases m' with
     | zero=>
      have q2:t.slot p.j = .live i'':=q'
      rw[q] at q2;cases q2;exact hh
     | succ m'=>exact a5 m' (by lia) i'' q'
    ·refine .inr ⟨fun m hm i'' q'=>?_,a2⟩
     cases m with
     | zero=>
      have q2:t.slot p.j = .live i'':=q'
      rw[q] at q2;cases q2;exact hh
     | succ m=>exact a1 m (by lia) i'' q'
  ·exact aI4 q h0
theorem Jw(g:Good t n)(hj:j<=t.mask)(he:t.slot j = .empty)(hf:n+1 < t.mask){EE:Nat->Int}(P:Paths t hs n)
  (hh:∀i,i < n+1->EE i=if i < below t.place j then hs i else if i=below t.place j then h else hs (i - 1)) (hp:uL t h j):Paths (t.put j).1 EE (n+1):=by
 refine vO (Dd g hj he hf) fun gg _ hb hm hsl z5=>?_
 have keep:∀{h':Int} {k:Nat},uL t h' k->uL (t.put j).1 h' k:=by
  rintro h' k ⟨s,e,b⟩
  have es:(t.put j).1.probeStart h'=t.probeStart h':=by rw[xX,xX,hm]
  refine⟨s,by rw[hm,es];exact e,fun m Cr z=>?_⟩
  rw[hm,es] at z
  exact b m Cr ((hsl _).mp z).1
 intro i hi
 rw[z5,Dc _ _ _ (by rw[g.size];exact hb),hh i hi]
 by_cases h1:i < below t.place j
 ·rw[aH2 h1,aH2 h1];exact keep (P i (by lia))
 ·rw[aH3 h1,aH3 h1]
  by_cases h2:i=below t.place j
  ·rw[aH2 h2,aH2 h2];exact keep hp
  ·rw[aH3 h2,aH3 h2];exact keep (P (i - 1) (by lia))
def Cs(owner:Array (Option Nat))(j:Nat):Bool:=(owner.getD j (some 0)).isSome
def st(mask:Nat)(h:Int):Probe:=KQ mask (bits h % (mask+1)) (bits h)
theorem zZ{mask:Nat}(owner:Array (Option Nat))(hz:owner.size=mask+1):∀(fuel i kW n:Nat),i < mask+1->n < fuel->Cs owner (G mask n i kW).1=false->
  ∃k j,layClean.free mask owner fuel i kW=some j/\(W mask (KQ mask i kW) k).j=j/\j < mask+1/\Cs owner j=false/\∀m,m < k->Cs owner (W mask (KQ mask i kW) m).j=true
 | fuel+1,i,kW,n,hi,hn,he=>by
  have aF7:runEnd mask i<=mask:=by unfold runEnd;split <;> lia
  have Uq:i<=runEnd mask i:=by unfold runEnd;split <;> lia
  have hW:∀m,m<=runEnd mask i - i->(W mask (KQ mask i kW) m).j=i+m:=fun m hm=>by rw[NW mask m (KQ mask i kW) hm];rfl
  unfold layClean.free
  cases hf:(dj (runEnd mask i+1 - i)).find? (fun k=>(owner.getD (i+k) (some 0)).isNone) with
  | some k=>
   dsimp only
   rw[List.find?_range_eq_some] at hf
   refine z7 hf fun a b c=>?_
   clear hf
   have hk:k < runEnd mask i+1 - i:=mD.mp b
   refine⟨k,i+k,rfl,hW k (by lia),by lia,?_,fun m hm=>?_⟩
   ·unfold Cs
    cases q:owner.getD (i+k) (some 0) with
    | none=>rfl
    | some z=>rw[q] at a;cases a
   ·rw[hW m (by lia)]
    have q:=c m hm
    unfold Cs
    cases q2:owner.getD (i+m) (some 0) with
    | none=>rw[q2] at q;cases q
    | some z=>rfl
  | none=>
   dsimp only
   rw[List.find?_range_eq_none] at hf
   have oX:∀m,m < runEnd mask i+1 - i->Cs owner (i+m)=true:=fun m hm=>by
    have q:=hf m hm
    unfold Cs
    cases q2:owner.getD (i+m) (some 0) with
    | none=>rw[q2] at q;cases q
    | some z=>rfl
   cases n with
   | zero=>
    have:Cs owner i=true:=by have:=oX 0 (by lia);rwa [EY] at this
    have Ru:Cs owner i=false:=he
    rw[this] at Ru;cases Ru
   | succ n=>
    refine J7 (zZ owner hz fuel (leap mask i kW).1 (leap mask i kW).2 n (qQ _ (ua _)) (by lia) he) fun k j e1 e2 e3 e4 e5=>?_
    refine⟨runEnd mask i - i+1+k,j,e1,by rw[p7,Gn];exact e2,e3,e4,fun m hm=>?_⟩
    by_cases hm1:m < runEnd mask i - i+1
    ·rw[hW m (by lia)];exact oX m (by lia)
    ·obtain ⟨r,rfl⟩:∃r,m=runEnd mask i - i+1+r:=⟨m - (runEnd mask i - i+1),by lia⟩
     rw[p7,Gn]
     exact e5 r (by lia)
theorem ae9{mask:Nat}:∀(k:Nat) (p:Probe),p.j+p.more<=mask->(W mask p k).j<=mask
 | 0,p,h=>by show p.j<=mask;lia
 | k+1,p,h=>by
  refine ae9 k (kU mask p) ?_
  unfold kU
  split
  ·show p.j+1+(p.more - 1)<=mask;lia
  ·show (leap mask p.i p.perturb).1+(runEnd mask (leap mask p.i p.perturb).1 - (leap mask p.i p.perturb).1)<=mask
   have:(leap mask p.i p.perturb).1 < mask+1:=qQ _ (ua _)
   unfold runEnd;split <;> lia
theorem Ur(mask:Nat)(h:Int)(k:Nat):(W mask (st mask h) k).j<=mask:=by
 refine ae9 k _ ?_
 show bits h % (mask+1)+(runEnd mask (bits h % (mask+1)) - bits h % (mask+1))<=mask
 have:bits h % (mask+1) < mask+1:=qQ _ (ua _)
 unfold runEnd;split <;> lia
structure Own(mask:Nat)(hs:Nat->Int)(owner:Array (Option Nat))(q:Nat):Prop where
 size:owner.size=mask+1
 lt:∀(j a:Nat),owner[j]?=some (some a)->a < q
 at':∀(a:Nat),a < q->∃j,owner[j]?=some (some a)/\∃k,(W mask (st mask (hs a)) k).j=j/\∀m,m < k->Cs owner (W mask (st mask (hs a)) m).j=true
 uniq:∀(a j j':Nat),owner[j]?=some (some a)->owner[j']?=some (some a)->j=j'
 cnt:owner.toList.countP Option.isNone=mask+1 - q
theorem Jx(mask:Nat)(hs:Nat->Int):Own mask hs (Array.replicate (mask+1) none) 0:=by
 have no:∀(j a:Nat),(Array.replicate (mask+1) (none:Option Nat))[j]?≠some (some a):=fun j a h=>by
  rw[Array.getElem?_replicate] at h
  split at h <;> cases h
 refine⟨by simp,fun j a h=>aI4 h (no j a),fun a h=>aI4 h (jE _),fun a j _ h=>aI4 h (no j a),?_⟩
 rw[Array.toList_replicate,List.countP_replicate];rfl
theorem occ_none(h:Cs owner j=false):owner[j]?=some none:=by
 unfold Cs at h
 rw[jg] at h
 cases q:owner[j]? with
 | none=>rw[q] at h;cases h
 | some z=>cases z with
  | none=>rfl
  | some _=>rw[q] at h;cases h
theorem De{owner:Array (Option Nat)}(h:owner[j]?=some none):Cs owner j=false:=by
 unfold Cs
 rw[jg,h];rfl
theorem Rv{owner:Array (Option Nat)}(hj:j < owner.size)(i:Nat):(owner.setIfInBounds j (some q))[i]?=if i=j then some (some q) else owner[i]?:=by
 rw[Array.getElem?_setIfInBounds]
 by_cases e:i=j
 ·subst e;simp[hj]
 ·rw[aH3 (fun z=>e z.symm),aH3 e]
theorem NZ{mask:Nat}(hm:KR mask){hs:Nat->Int}{owner:Array (Option Nat)}{q:Nat}(o:Own mask hs owner q)(hq:q < mask+1) :
  ∃j,layClean.free mask owner (turns mask) (bits (hs q) % (mask+1)) (bits (hs q))=some j/\Own mask hs (owner.setIfInBounds j (some q)) (q+1):=by
 have hc:0 < owner.toList.countP Option.isNone:=by rw[o.cnt];lia
 refine aY (List.countP_pos_iff.mp hc) fun x hx hn=>?_
 obtain ⟨e,he,ex⟩:=j0.mp hx
 have Df:e < owner.size:=by rw[<- dB];exact he
 have e0:owner[e]?=some none:=by
  rw[<- lV,dF he,ex]
  cases x with
  | none=>rfl
  | some _=>cases hn
 obtain ⟨n,xE,en⟩:=HY hm (hs q) (e:=e) (by rw[<- o.size];exact Df)
 obtain ⟨k,j,f1,f2,f3,f4,f5⟩:=zZ owner o.size (turns mask) (bits (hs q) % (mask+1)) (bits (hs q)) n (qQ _ (ua _)) (by unfold turns;lia) (by rw[en];exact De e0)
 refine⟨j,f1,?_⟩
 have hj:j < owner.size:=by rw[o.size];exact f3
 have g:=Rv (q:=q) hj
 have jn:owner[j]?=some none:=occ_none f4
 have up:∀i,Cs owner i=true->Cs (owner.setIfInBounds j (some q)) i=true:=fun i h=>by
  unfold Cs at h ⊢
  rw[jg] at h ⊢
  rw[g i]
  by_cases z:i=j
  ·rw[aH2 z];rfl
  ·rw[aH3 z];exact h
 refine⟨by rw[Array.size_setIfInBounds];exact o.size,fun i a h=>?_,fun a ha=>?_,fun a i i' h h'=>?_,?_⟩
 ·rw[g i] at h
  by_cases z:i=j
  ·rw[aH2 z] at h;cases h;lia
  ·rw[aH3 z] at h;have:=o.lt i a h;lia
 ·by_cases z:a=q
  ·subst z
   exact⟨j,by rw[g,aH2 rfl],k,f2,fun m Cr=>up _ (f5 m Cr)⟩
  ·obtain ⟨i,b1,k',b2,b3⟩:=o.at' a (by lia)
   refine⟨i,?_,k',b2,fun m Cr=>up _ (b3 m Cr)⟩
   rw[g,aH3,b1]
   rintro rfl
   rw[jn] at b1;cases b1
 ·rw[g i] at h;rw[g i'] at h'
  by_cases z:i=j
  ·by_cases z':i'=j
   ·rw[z,z']
   ·rw[aH2 z] at h;rw[aH3 z'] at h';cases h
    exact aI4 (o.lt _ _ h') (rV _)
  ·by_cases z':i'=j
   ·rw[aH3 z] at h;rw[aH2 z'] at h';cases h'
    exact aI4 (o.lt _ _ h) (rV _)
   ·rw[aH3 z] at h;rw[aH3 z'] at h';exact o.uniq a i i' h h'
 ·rw[Array.toList_setIfInBounds]
  have Yz:j < owner.toList.length:=by rw[dB];exact hj
  rw[List.countP_set Yz,o.cnt]
  have ej:owner.toList[j]=none:=by
   have q1:owner.toList[j]?=some none:=by rw[lV];exact jn
   rw[dF Yz] at q1
   exact eY q1
  rw[ej]
  simp
  lia
theorem Dg{mask:Nat}(hm:KR mask){hs:Nat->Int}:∀(l:List Int) (owner:Array (Option Nat)) (q:Nat),Own mask hs owner q->q+l.length<=mask->(∀i,i < l.length->l[i]?=some (hs (q+i)))->
  ∃BD,l.foldl (init:=some (owner,q)) (fun acc h=>do
   let (owner,k) <- acc
   let j <- layClean.free mask owner (turns mask) (bits h % (mask+1)) (bits h)
   pure (owner.setIfInBounds j (some k),k+1))=some (BD,q+l.length)/\Own mask hs BD (q+l.length)
 | [],owner,q,o,_,_=>⟨owner,rfl,o⟩
 | h::r,owner,q,o,hl,hh=>by
  have e0:h=hs q:=by have:=hh 0 (by simp);simpa using this
  obtain ⟨j,f1,o1⟩:=NZ hm o (by simp only[cS] at hl;lia)
  obtain ⟨BD,e,o2⟩:=Dg hm r (owner.setIfInBounds j (some q)) (q+1) o1 (by simp only[cS] at hl;lia) (fun i hi=>by
   have:=hh (i+1) (by simp;lia)
   simp only[LO] at this
   rw[this,show q+(i+1)=q+1+i by lia])
  refine⟨BD,?_,by rw[cS,show q+(r.length+1)=q+1+r.length by lia];exact o2⟩
  rw[LJ]
  have e1:(do
   let (owner,k) <- (some (owner,q):Option (Array (Option Nat)×Nat))
   let j <- layClean.free mask owner (turns mask) (bits h % (mask+1)) (bits h)
   pure (owner.setIfInBounds j (some k),k+1))=some (owner.setIfInBounds j (some q),q+1):=by
   show (do
    let j <- layClean.free mask owner (turns mask) (bits h % (mask+1)) (bits h)
    pure (owner.setIfInBounds j (some q),q+1))=_
   rw[e0,f1];rfl
  rw[e1,e,cS,show q+(r.length+1)=q+1+r.length by lia]
theorem Gr{mask:Nat}(hm:KR mask)(hashes:Array Int)(hn:hashes.size<=mask):∃owner,layClean mask hashes=some owner/\Own mask (fun i=>hashes.getD i 0) owner hashes.size:=by
 obtain ⟨owner,e,o⟩:=Dg hm (hs:=fun i=>hashes.getD i 0) hashes.toList (Array.replicate (mask+1) none) 0 (Jx mask _) (by rw[dB];lia) (fun i hi=>by
  rw[dB] at hi
  rw[lV,kK]
  simp[Array.getD,hi])
 rw[dB,kK] at e o
 refine⟨owner,?_,o⟩
 unfold layClean
 rw[<- Array.foldl_toList,e];rfl
def live(mask:Nat)(owner:Array (Option Nat)):List (Nat×Nat):=(dj (mask+1)).filterMap fun j=>(owner.getD j none).map (j,·)
theorem ya{mask:Nat}{owner:Array (Option Nat)}(hz:owner.size=mask+1){j a:Nat}:(j,a)∈live mask owner↔owner[j]?=some (some a):=by
 unfold live
 rw[Cw]
 constructor
 ·rintro ⟨x,hx,e⟩
  cases q:owner.getD x none with
  | none=>rw[q] at e;cases e
  | some b=>
   rw[q] at e
   cases e
   rw[jg] at q
   cases q2:owner[j]? with
   | none=>rw[q2] at q;cases q
   | some z=>rw[q2] at q;have q:z=some a:=q;rw[q]
 ·intro h
  have hj:j < owner.size:=(oN.mp h).1
  exact⟨j,mD.mpr (by lia),by rw[jg,h];rfl⟩
theorem Jy(mask:Nat)(owner:Array (Option Nat)):(live mask owner).Pairwise fun x y=>x.1 < y.1:=by
 unfold live
 refine UX _ ?_ LP
 intro a a' haa b hb b' pW
 cases q:owner.getD a none with
 | none=>rw[q] at hb;cases hb
 | some z=>
  cases q':owner.getD a' none with
  | none=>rw[q'] at pW;cases pW
  | some z'=>
   rw[q] at hb;rw[q'] at pW
   cases hb;cases pW
   exact haa
theorem BE{owner:Array (Option Nat)}(hz:owner.size=n):owner.toList=(dj n).map fun j=>owner.getD j none:=by
 refine AS fun i=>?_
 rw[lV,dm]
 by_cases h:i < n
 ·rw[LQ h]
  have h':i < owner.size:=by lia
  simp[Array.getD,h']
 ·rw[qX (by lia),uq (by simp;lia)];rfl
theorem O0{mask:Nat}{hs:Nat->Int}{owner:Array (Option Nat)}{n:Nat}(o:Own mask hs owner n)(hn:n<=mask+1):(live mask owner).length=n:=by
 unfold live
 rw[List.length_filterMap_eq_countP]
 have e1:List.countP (fun j=>((owner.getD j none).map fun x=>(j,x)).isSome) (dj (mask+1))=owner.toList.countP Option.isSome:=by
  rw[BE o.size,List.countP_map]
  congr 1
  funext j
  simp
 rw[e1]
 have e2:=List.length_eq_countP_add_countP (p:=Option.isNone) (l:=owner.toList)
 rw[o.cnt,dB,o.size] at e2
 have e3:owner.toList.countP Option.isSome=List.countP (fun a=>decide ¬ (Option.isNone a=true)) owner.toList:=by
  congr 1
  funext a
  cases a <;> rfl
 lia
theorem Jz{mask n:Nat}(hm:KR mask)(hashes:Array Int)(hz:hashes.size=n)(hn:n < mask)(finger moves:Nat)(led plain:Bool) :
  ∃t' order,laid mask finger moves led plain hashes=some (t',order)/\Good t' n/\t'.mask=mask/\t'.led=led/\t'.plain=plain/\order.size=n/\(∀m,m < n->order.getD m 0 < n)/\
   (∀m m',m < n->m' < n->order.getD m 0=order.getD m' 0->m=m')/\(∀a,a < n->∃m,m < n/\order.getD m 0=a)/\Paths t' (fun m=>hashes.getD (order.getD m 0) 0) n:=by
 refine aY (Gr hm hashes (by lia)) fun owner e o=>?_
 rw[hz] at o
 have ll:=O0 o (by lia)
 refine⟨{ mask,place:=((live mask owner).map (·.1)).toArray,dummies:=#[],finger,led,moves,plain },((live mask owner).map (·.2)).toArray,?_,?_⟩
 ·unfold laid
  rw[e];rfl
 have gp:∀m,m < n->∃j a,(live mask owner)[m]?=some (j,a)/\(((live mask owner).map (·.1)).toArray).getD m 0=j/\(((live mask owner).map (·.2)).toArray).getD m 0=a/\owner[j]?=some (some a):=fun m h=>by
  have h':m < (live mask owner).length:=by lia
  refine⟨((live mask owner)[m]).1,((live mask owner)[m]).2,dF h',?_,?_,(ya o.size).mp (qT h')⟩
  ·simp[Array.getD,h']
  ·simp[Array.getD,h']
 have pw:=qS.mp (Jy mask owner)
 have rise:vB (((live mask owner).map (·.1)).toArray):=fun i j n6 hj=>by
  have hj:j < (live mask owner).length:=by simpa using hj
  have hi:i < (live mask owner).length:=by lia
  have:=pw i j hi hj n6
  simpa[Array.getD,hi,hj] using this
 have good:Good { mask,place:=((live mask owner).map (·.1)).toArray,dummies:=#[],finger,led,moves,plain } n:=by
  refine⟨by simp[ll],rise,fun i hi=>?_,rfl,hm,hn⟩
  refine vP (gp i hi) fun j a _ e2 _ e4=>?_
  show (((live mask owner).map (·.1)).toArray).getD i 0<=mask
  rw[e2]
  have:=(oN.mp e4).1
  have:=o.size
  lia
 refine⟨good,rfl,rfl,rfl,by simp[ll],fun m h=>?_,fun m m' h h' q=>?_,fun a h=>?_,fun m h=>?_⟩
 ·refine vP (gp m h) fun j a _ _ e3 e4=>?_
  rw[e3];exact o.lt j a e4
 ·refine vP (gp m h) fun j a _ e2 e3 e4=>?_
  refine vP (gp m' h') fun j' a' _ e2' e3' e4'=>?_
  rw[e3,e3'] at q
  subst q
  have ej:=o.uniq a j j' e4 e4'
  rcases uc m m' with z | z | z
  ·have:=rise m m' z (by simp[ll];exact h');lia
  ·exact z
  ·have:=rise m' m z (by simp[ll];exact h);lia
 ·refine aY (o.at' a h) fun j b _=>?_
  obtain ⟨m,Cr,em⟩:=j0.mp ((ya (mask:=mask) o.size).mpr b)
  refine⟨m,by lia,?_⟩
  simp[Array.getD,Cr,em]
 ·refine vP (gp m h) fun j a _ e2 e3 e4=>?_
  obtain ⟨j',b1,k,b2,b3⟩:=o.at' a (o.lt j a e4)
  have ej:=o.uniq a j j' e4 b1
  subst ej
  dsimp only
  rw[e2,e3]
  refine⟨k,b2,fun m' Cr z=>?_⟩
  have z:=(fV good _).mp z
  have oc:=b3 m' Cr
  have inr:(W mask (st mask (hashes.getD a 0)) m').j<=mask:=Ur mask _ m'
  unfold Cs at oc
  rw[jg] at oc
  cases q:owner[(W mask (st mask (hashes.getD a 0)) m').j]? with
  | none=>
   have:=Mm.mp q
   have:=o.size
   lia
  | some x=>
   cases x with
   | none=>rw[q] at oc;cases oc
   | some b=>
    obtain ⟨r,hr,er⟩:=j0.mp ((ya (mask:=mask) o.size).mpr q)
    refine z r (by lia) ?_
    dsimp only
    simp[Array.getD,hr,er]
    rfl
end Tb
end ax3
section ax5
namespace Ts
open PySem PySem.SetTable Tb
structure p9(prog:dh)(w:bN)(K:Type)[DecidableEq K] extends HeapKind prog w K where
 O2:∀{A:bY} {E:aq->az->Prop} {s:az} {k:K} {a:av} {Q:Bool->az->Prop},is s.heap k a->Q false s->aB (aC prog w) A (ofAClassStatement 8 (.ref a)) Q E s
 Us:∀{A:bY} {E:aq->az->Prop} {s:az} {k:K} {a:av} {Q:Bool->az->Prop},is s.heap k a->Q true s->aB (aC prog w) A (hashByValue 8 (.ref a)) Q E s
 mono:∀{h h':aX} {k:K} {a:av},is h k a->(∀b o,h.get? b=some o->o.cls = .type "tuple" ->h'.get? b=some o)->is h' k a
section
variable {prog:dh}{w:bN}{K:Type}[DecidableEq K]{κ:p9 prog w K}
theorem stays(κ:p9 prog w K)(x:κ.is h k a)(ho:h.get? d=some o)(hc:o.cls = .type "set")(sb:gZ d h h'):κ.is h' k a:=
 κ.mono x fun b ob e hb=>by
  rw[sb.2 b ?_]
  ·exact e
  ·rintro rfl
   obtain rfl:=eY (e.symm.trans ho)
   rw[hc] at hb
   exact aI4 hb (by decide)
def entry(κ:p9 prog w K)(x:K×av):Int×aq:=(κ.hash x.1,.ref x.2)
structure jc(κ:p9 prog w K)(h:aX)(a:av)(led:Bool)(xs:List (K×av))(o:Obj)(ep:Nat)(t:gW):Prop where
 obj:h.get? a=some o
 nE:o.ExactSet
 data:o.data = .set (xs.map (entry κ)).toArray ep t
 good:Good t xs.length
 Ia:Paths t (fun i=>((xs.map (entry κ)).toArray[i]?.map (·.1)).getD 0) xs.length
 JA:t.led=led
 plain:t.plain=true
 sP:xs.length * 5 < t.mask * 3
 keys:(xs.map (·.1)).Nodup
 each:∀x∈xs,κ.is h x.1 x.2
theorem fits_of(g:Good t n):t.fits n=true:=by
 unfold SetTable.fits SetTable.fill
 rw[g.dum,g.size]
 have:=g.sP
 simp
 lia
variable {A:bY}{E:aq->az->Prop}{s:az}{a b:av}{led:Bool}{xs:List (K×av)}{o:Obj}{ep:Nat}{t:gW}{k:K}
theorem jr{Q:(Array (Int×aq)×Nat×gW)->az->Prop}(S:jc κ s.heap a led xs o ep t)(h:Q ((xs.map (entry κ)).toArray,ep,t) s):aB (aC prog w) A (setState a) Q E s:=
 Lb S.obj S.data (by simpa using fits_of S.good) h
theorem Rw{Q:Bool->az->Prop}{l:List (K×av)}(hx:κ.is s.heap k b)(hl:∀x∈l,κ.is s.heap x.1 x.2)(h:Q false s) :
  aB (aC prog w) A (searchCouldBeSeen (.ref b) (l.map fun x=>eW x.2)) Q E s:=by
 unfold searchCouldBeSeen
 refine ah (lR _ (fun rest r s'=>r.1=none/\s'=s/\∃(l':List (K×av)),rest=l'.map (fun x:K×av=>eW x.2)/\∀x∈l',κ.is s.heap x.1 x.2) _ ?_ ?_ _ _ ⟨rfl,rfl,l,rfl,hl⟩)
 ·rintro v rest r s' ⟨hr,rfl,l',Ib,hk⟩
  cases l' with
  | nil=>cases Ib
  | cons x l'=>
   rw[aZ] at Ib
   injection Ib with e1 e2
   subst e1
   have nx:r.1=none/\s'=s'/\∃(l'':List (K×av)),rest=l''.map (fun x:K×av=>eW x.2)/\∀x∈l'',κ.is s'.heap x.1 x.2:=⟨hr,rfl,l',e2,fun y hy=>hk y (oG _ hy)⟩
   have Ic:=hk x vn
   dsimp only
   split
   ·exact aA ⟨rfl,rfl,nx.2.2⟩
   ·refine ah (κ.quiet hx ?_)
    simp only[j5,cZ,aI0]
    refine ah (κ.quiet Ic ?_)
    simp only[j5,cZ,aI0]
    refine ah (κ.O2 hx ?_)
    simp only[cZ,aI0]
    refine ah (κ.O2 Ic ?_)
    simp only[cZ,aI0]
    exact aA ⟨rfl,rfl,nx.2.2⟩
 ·rintro ⟨r1,r2⟩ s' ⟨hr,rfl,_⟩
  simp only at hr
  subst hr
  exact aA h
theorem ku(xs:List (K×av))(i:Nat):(xs.map (entry κ)).toArray[i]?=xs[i]?.map (entry κ):=by simp
theorem JB{Q:SetFound->az->Prop}(S:jc κ s.heap a led xs o ep t)(hr:κ.room A)(hx:κ.is s.heap k b)
  (hT:k∈xs.map (·.1)->Q (.there none) s)
  (hF:k∉xs.map (·.1)->∀j,j<=t.mask->t.slot j = .empty->uL t (κ.hash k) j->Q (.free j false) s)
  {D:Nat} (hD:D<=10 * (t.mask+13)) (hE:t.slot (W t.mask (t.probeStart (κ.hash k)) D).j = .empty) (hB:∀m,m < D->t.slot (W t.mask (t.probeStart (κ.hash k)) m).j≠ .empty) :
  ∀(r m0 fuel:Nat),m0+r=D->r < fuel->(∀m i,m < m0->t.slot (W t.mask (t.probeStart (κ.hash k)) m).j = .live i->∀x,xs[i]?=some x->x.1≠k)->
   ∀vC:Option Probe,vC.getD (t.probeStart (κ.hash k))=W t.mask (t.probeStart (κ.hash k)) m0->
   aB (aC prog w) A (setSearchFrom a (.ref b) (κ.hash k) true fuel vC) Q E s:=by
 intro r
 induction r using Nat.strongRecOn with
 | _ r ih=>
  intro m0 fuel hm hf hv vC nZ
  obtain ⟨fuel,rfl⟩:∃f,fuel=f+1:=⟨fuel - 1,by lia⟩
  unfold setSearchFrom
  refine ah (jr S ?_)
  dsimp only
  have hgw:t.gaveWay=false:=by
   unfold SetTable.gaveWay
   rcases S.good.YC with e | e | e <;> rw[e] <;> rfl
  rw[hgw]
  simp only[cZ,aI0]
  have sp:=I8 S.good (fun i=>((xs.map (entry κ)).toArray[i]?.map (·.1)).getD 0) (κ.hash k) r (W t.mask (t.probeStart (κ.hash k)) m0) (10 * turns t.mask) (HX _ _ _ rfl) (by unfold turns;lia)
   (by rw[<- p7,hm];exact hE) (fun m Cr=>by rw[<- p7];exact hB _ (by lia))
  have hpr:t.probe (fun i=>((xs.map (entry κ)).toArray[i]?.map (·.1)).getD 0) (κ.hash k) (vC.getD (t.probeStart (κ.hash k)))=probe.go t (fun i=>((xs.map (entry κ)).toArray[i]?.map (·.1)).getD 0) (κ.hash k) (10 * turns t.mask) (W t.mask (t.probeStart (κ.hash k)) m0):=by
   rw[nZ];rfl
  rcases sp with ⟨m,i,h1,h2,h3,h4,h5,h6⟩ | ⟨h1,h2⟩
  ·have NQ:=hpr.trans h6
   generalize hpq:t.probe _ (κ.hash k) (vC.getD (t.probeStart (κ.hash k)))=pr
   obtain rfl:=hpq.symm.trans NQ
   dsimp only
   obtain ⟨x,W7⟩:∃x,xs[i]?=some x:=⟨xs[i],dF h2⟩
   have hxm:x∈xs:=kM W7
   have rest:aB (aC prog w) A (do
     let some (_,y):=(xs.map (entry κ)).toArray[i]? | unsupported "internal:set-entry"
     let equal <- holding [y] (eqBool y (.ref b))
     let (CG,_,t') <- setState a
     if true&&equal then return .there none
     let some same:=t'.sameMemory t.moves t.mask | unsupported "set.changed-during-lookup:is-the-new-block-at-the-old-address"
     let af0 <- match (if same then t'.slot (W t.mask (W t.mask (t.probeStart (κ.hash k)) m0) m).j else .empty) with
      | .live i'=>match CG[i']? with
       | some (_,y')=>do pure (if <- isSame y' y then some i' else none)
       | none=>pure none
      | _=>pure none
     match af0 with
     | none=>rule "set.search.anew";setSearchFrom a (.ref b) (κ.hash k) true fuel none
     | some i'=>if equal then return .there (some i') else setSearchFrom a (.ref b) (κ.hash k) true fuel (some (W t.mask (W t.mask (t.probeStart (κ.hash k)) m0) (m+1)))) Q E s:=by
    rw[ku,W7]
    dsimp only[Option.map,entry]
    refine ah (je (κ.eqBool hr (S.each x hxm) hx ?_))
    refine ah (jr S ?_)
    dsimp only
    by_cases hk:x.1=k
    ·rw[aH4 hk]
     simp only[Bool.and_self,aI1]
     exact aA (hT (aS.mpr ⟨x,hxm,hk⟩))
    ·rw[aH5 hk]
     simp only[Fz,cZ,aI0]
     have Ie:t.sameMemory t.moves t.mask=some true:=by unfold SetTable.sameMemory;rw[aH2 (by simp)]
     rw[Ie]
     dsimp only
     rw[aH2 rfl,h3]
     dsimp only
     rw[ku,W7]
     dsimp only[Option.map,entry]
     refine ah (wpAny_isSame_ref_self (ah (aA ?_)))
     simp only[aI1]
     refine ih (r - (m+1)) (by lia) (m0+(m+1)) fuel (by lia) (by lia) (fun m' i' Cr hl y hy=>?_) _ (by rw[<- p7];rfl)
     by_cases c1:m' < m0
     ·exact hv m' i' c1 hl y hy
     ·obtain ⟨q,rfl⟩:∃q,m'=m0+q:=⟨m' - m0,by lia⟩
      rw[p7] at hl
      by_cases c2:q < m
      ·intro e
       refine h5 q c2 i' hl ?_
       show ((xs.map (entry κ)).toArray[i']?.map (·.1)).getD 0=κ.hash k
       rw[ku,hy]
       show κ.hash y.1=κ.hash k
       rw[e]
      ·have:q=m:=by lia
       subst this
       rw[h3] at hl
       cases hl
       rw[W7] at hy
       cases hy
       exact hk
   by_cases hl:led=true
   ·have Ib:t.led=true:=S.JA.trans hl
    rw[Ib]
    simp only[j5,cZ,aI0]
    exact rest
   ·have Ib:t.led=false:=S.JA.trans (uy.mpr hl)
    rw[Ib]
    simp only[B4,aI1]
    have el:((((xs.map (entry κ)).toArray.filter (·.1==κ.hash k))).toList.map (·.2))=(xs.filter fun y=>κ.hash y.1==κ.hash k).map fun y=>eW y.2:=by
     rw[Array.toList_filter,List.filter_map,dD]
     rfl
    rw[el]
    refine ah (Rw hx (fun y hy=>S.each y (wV.mp hy).1) ?_)
    simp only[cZ,aI0]
    exact rest
  ·have NQ:=hpr.trans h2
   generalize hpq:t.probe _ (κ.hash k) (vC.getD (t.probeStart (κ.hash k)))=pr
   obtain rfl:=hpq.symm.trans NQ
   dsimp only
   have ej:(W t.mask (W t.mask (t.probeStart (κ.hash k)) m0) r).j=(W t.mask (t.probeStart (κ.hash k)) D).j:=by rw[<- p7,hm]
   rw[ej]
   refine aA (hF (fun Gs=>?_) _ (Ur t.mask _ D) hE ⟨D,rfl,hB⟩)
   refine aY (aS.mp Gs) fun x hxm ek=>?_
   obtain ⟨i,hi,ei⟩:=j0.mp hxm
   have W7:xs[i]?=some x:=by rw[dF hi,ei]
   refine aY (S.Ia i hi) fun ki p1 p2=>?_
   have hh:(fun i=>((xs.map (entry κ)).toArray[i]?.map (·.1)).getD 0) i=κ.hash k:=by
    show ((xs.map (entry κ)).toArray[i]?.map (·.1)).getD 0=κ.hash k
    rw[ku,W7]
    show κ.hash x.1=κ.hash k
    rw[ek]
   rw[hh] at p1 p2
   have sl:t.slot (W t.mask (t.probeStart (κ.hash k)) ki).j = .live i:=by rw[p1];exact zW S.good hi
   have c1:ki < D:=by
    rcases uc ki D with c | c | c
    ·exact c
    ·subst c;rw[sl] at hE;cases hE
    ·exact aI4 hE (p2 D c)
   by_cases c2:ki < m0
   ·exact hv ki i c2 sl x W7 ek
   ·obtain ⟨q,rfl⟩:∃q,ki=m0+q:=⟨ki - m0,by lia⟩
    rw[p7] at sl
    exact h1 q (by lia) i sl hh
end
section
variable {prog:dh}{w:bN}{K:Type}[DecidableEq K]{κ:p9 prog w K}
variable {A:bY}{E:aq->az->Prop}{s:az}{a b:av}{led:Bool}{xs:List (K×av)}{o:Obj}{ep:Nat}{t:gW}{k:K}
theorem jc.store(S:jc κ s.heap a led xs o ep t){ys:List (K×av)}(hg:Good t' ys.length)(hp:Paths t' (fun i=>((ys.map (entry κ)).toArray[i]?.map (·.1)).getD 0) ys.length)(hl:t'.led=led)(z5:t'.plain=true)
  (hk:(ys.map (·.1)).Nodup) (he:∀x∈ys,κ.is s.heap x.1 x.2) :
  let h':=s.heap.update a (Obj.putSet (ys.map (entry κ)).toArray t')
  gZ a s.heap h'/\h'.get? a=some { o with data:=.set (ys.map (entry κ)).toArray (ep+1) t' }/\(∀x∈ys,κ.is h' x.1 x.2)/\
   (ys.length * 5 < t'.mask * 3->jc κ h' a led ys { o with data:=.set (ys.map (entry κ)).toArray (ep+1) t' } (ep+1) t'):=by
 intro h'
 have sb:gZ a s.heap h':=fj ..
 have O3:h'.get? a=some { o with data:=.set (ys.map (entry κ)).toArray (ep+1) t' }:=by
  have:=nh (Obj.putSet (ys.map (entry κ)).toArray t') S.obj (by rw[AH _ t' S.data];rfl)
  rw[AH _ t' S.data] at this;exact this
 have hi:∀x∈ys,κ.is h' x.1 x.2:=fun x hx=>stays κ (he x hx) S.obj S.nE.1 sb
 exact⟨sb,O3,hi,fun hf=>⟨O3,S.nE,rfl,hg,hp,hl,z5,hf,hk,hi⟩⟩
theorem sQ(h:(M=32/\16<=n/\n < 32)\/(M=128/\64<=n/\n < 128)):sizeAbove n=M:=by
 unfold sizeAbove
 rcases h with ⟨rfl,h1,h2⟩ | ⟨rfl,h1,h2⟩
 ·unfold sizeAbove.go;rw[aH2 (by lia)]
  unfold sizeAbove.go;rw[aH2 (by lia)]
  unfold sizeAbove.go;rw[aH3 (by lia)]
 ·unfold sizeAbove.go;rw[aH2 (by lia)]
  unfold sizeAbove.go;rw[aH2 (by lia)]
  unfold sizeAbove.go;rw[aH2 (by lia)]
  unfold sizeAbove.go;rw[aH2 (by lia)]
  unfold sizeAbove.go;rw[aH3 (by lia)]
theorem zf(l:List α)(p:Nat)(x y:α):y∈l.take p++x::l.drop p↔y=x\/y∈l:=by
 rw[gy,bP]
 have:y∈l↔y∈l.take p\/y∈l.drop p:=by rw[<- gy,nt]
 rw[this]
 constructor
 ·rintro (h | h | h)
  ·exact .inr (.inl h)
  ·exact .inl h
  ·exact .inr (.inr h)
 ·rintro (h | h | h)
  ·exact .inr (.inl h)
  ·exact .inl h
  ·exact .inr (.inr h)
theorem JC{l:List α}(p:Nat)(h:l.Nodup)(hx:x∉l):(l.take p++x::l.drop p).Nodup:=by
 have e:(l.take p++x::l.drop p).Perm (x::l):=by
  refine LR.trans ?_
  rw[nt]
 exact e.nodup_iff.mpr (jF.mpr ⟨hx,h⟩)
theorem reorder(l:List α)(order:Array Nat)(hl:l.length=n)(ho:order.size=n)(iF:∀m,m < n->order.getD m 0 < n) :
  (order.toList.filterMap (fun i=>l[i]?)).length=n/\∀m,m < n->(order.toList.filterMap (fun i=>l[i]?))[m]?=l[order.getD m 0]?:=by
 have key:∀(q:List Nat),(∀i∈q,i < l.length)->(q.filterMap (fun i=>l[i]?)).length=q.length/\∀m,m < q.length->(q.filterMap (fun i=>l[i]?))[m]?=l[q.getD m 0]?:=by
  intro q
  induction q with
  | nil=>intro _;exact⟨rfl,fun m h=>aI4 h (jE _)⟩
  | cons i q ih=>
   intro h
   have hi:=h i vn
   obtain ⟨a1,a2⟩:=ih fun j hj=>h j (oG _ hj)
   rw[LD (b:=l[i]) (dF hi)]
   refine⟨by rw[cS,cS,a1],fun m hm=>?_⟩
   cases m with
   | zero=>simp[dF hi]
   | succ m=>simpa using a2 m (by simpa using hm)
 have hm:∀i∈order.toList,i < l.length:=fun i hi=>by
  obtain ⟨m,h1,h2⟩:=j0.mp hi
  have hz:m < order.size:=by rw[<- dB];exact h1
  have:=iF m (by lia)
  have e:order.getD m 0=i:=by simp[Array.getD,hz];rw[<- h2];simp
  lia
 obtain ⟨b1,b2⟩:=key order.toList hm
 refine⟨by rw[b1,dB,ho],fun m h=>?_⟩
 rw[b2 m (by rw[dB];lia)]
 congr 1
 have hz:m < order.size:=by lia
 simp[Array.getD,List.getD,hz]
theorem O5{Q:Unit->az->Prop}(ho:s.heap.get? a=some o)(hx:o.ExactSet)(hd:o.data = .set (xs.map (entry κ)).toArray ep t)(hg:Good t xs.length)(hl:t.led=led)(z5:t.plain=true)(hk:(xs.map (·.1)).Nodup)(he:∀x∈xs,κ.is s.heap x.1 x.2)
  (hM:KR M) (hw:sizeAbove wanted=M+1) (hn:xs.length * 5 < M * 3)
  (h:∀h' o' Bb t' ys,gZ a s.heap h'->jc κ h' a led ys o' Bb t'->(∀x,x∈ys↔x∈xs)->ys.length=xs.length->Q () { s with heap:=h' }):aB (aC prog w) A (setRelay a wanted) Q E s:=by
 unfold setRelay
 refine ah (Lb ho hd (by simpa using fits_of hg) ?_)
 dsimp only
 have hM':M < 200:=by rcases hM with e | e | e <;> lia
 rw[aH3 (by rw[hw,gn];lia)]
 obtain ⟨t',order,e1,g1,e2,e3,e4,e5,e6,e7,e8,e9⟩:=Jz (n:=xs.length) hM (((xs.map (entry κ)).toArray).map (·.1)) (by simp) (by lia) t.finger (t.movedTo M) t.led t.plain
 have hrl:t.relaid (((xs.map (entry κ)).toArray).map (·.1)) wanted=some (t',order):=by
  unfold SetTable.relaid
  rw[hw,AQ]
  exact e1
 rw[hrl]
 obtain ⟨r1,r2⟩:=reorder xs order rfl e5 e6
 have ent:order.filterMap (fun i=>((xs.map (entry κ)).toArray)[i]?)=((order.toList.filterMap (fun i=>xs[i]?)).map (entry κ)).toArray:=by
  apply B0.mp
  rw[Array.toList_filterMap,List.map_filterMap]
  congr 1
  funext i
  rw[ku]
 refine ah (u0 (a:=(((order.toList.filterMap (fun i=>xs[i]?)).map (entry κ)).toArray,t')) ?_ ?_)
 ·show (do
   if (order.filterMap (fun i=>((xs.map (entry κ)).toArray)[i]?)).size !=((xs.map (entry κ)).toArray).size then unsupported "internal:set-table-lost-an-element"
   pure (order.filterMap (fun i=>((xs.map (entry κ)).toArray)[i]?),t'):Sem (Array (Int×aq)×gW))=_
  rw[ent,aH3 (by simp[r1])]
  first | done | rfl
 dsimp only
 have len:(order.toList.filterMap (fun i=>xs[i]?)).length=xs.length:=r1
 have mem:∀x,x∈order.toList.filterMap (fun i=>xs[i]?)↔x∈xs:=fun x=>by
  rw[Cw]
  constructor
  ·rintro ⟨i,_,e⟩;exact kM e
  ·intro sd
   obtain ⟨i,hi,ei⟩:=j0.mp sd
   refine aY (e8 i hi) fun m hm em=>?_
   have hz:m < order.size:=by lia
   refine⟨i,?_,by rw[dF hi,ei]⟩
   have:order[m]=i:=by rw[<- em];simp[Array.getD,hz]
   rw[<- this]
   exact zJ.mpr (Array.getElem_mem hz)
 have nd:((order.toList.filterMap (fun i=>xs[i]?)).map (·.1)).Nodup:=by
  rw[uv,qS]
  intro i j hi hj n6 e
  rw[bh,len] at hi hj
  have gi:=r2 i hi
  have gj:=r2 j hj
  rw[dF (by lia),dF (e6 i hi)] at gi
  rw[dF (by lia),dF (e6 j hj)] at gj
  rw[uw,uw,eY gi,eY gj] at e
  have pw:=qS.mp (uv.mp hk)
  have a1:order.getD i 0 < (xs.map (·.1)).length:=by rw[bh];exact e6 i hi
  have a2:order.getD j 0 < (xs.map (·.1)).length:=by rw[bh];exact e6 j hj
  rcases uc (order.getD i 0) (order.getD j 0) with c | c | c
  ·exact pw _ _ a1 a2 c (by rw[uw,uw];exact e)
  ·have:=e7 i j hi hj c;lia
  ·exact pw _ _ a2 a1 c (by rw[uw,uw];exact e.symm)
 have pth:Paths t' (fun i=>(((order.toList.filterMap (fun i=>xs[i]?)).map (entry κ)).toArray[i]?.map (·.1)).getD 0) (order.toList.filterMap (fun i=>xs[i]?)).length:=by
  rw[len]
  intro i hi
  have q:=e9 i hi
  have ee:(((order.toList.filterMap (fun i=>xs[i]?)).map (entry κ)).toArray[i]?.map (·.1)).getD 0=(((xs.map (entry κ)).toArray).map (·.1)).getD (order.getD i 0) 0:=by
   rw[ku,r2 i hi]
   generalize order.getD i 0=z
   rw[jg,Array.getElem?_map,ku]
  show uL t' ((((order.toList.filterMap (fun i=>xs[i]?)).map (entry κ)).toArray[i]?.map (·.1)).getD 0) (t'.place.getD i 0)
  rw[ee]
  exact q
 have sb:gZ a s.heap (s.heap.update a (Obj.putSet ((order.toList.filterMap (fun i=>xs[i]?)).map (entry κ)).toArray t')):=fj ..
 have O3:=nh (Obj.putSet ((order.toList.filterMap (fun i=>xs[i]?)).map (entry κ)).toArray t') ho (by rw[AH _ t' hd];rfl)
 rw[AH _ t' hd] at O3
 refine Lc ho hd (h _ _ (ep+1) t' (order.toList.filterMap (fun i=>xs[i]?)) sb ⟨O3,hx,rfl,by rw[len];exact g1,pth,e3.trans hl,e4.trans z5,by rw[len,e2];exact hn,nd,fun x sd=>stays κ (he x ((mem x).mp sd)) ho hx.1 sb⟩ mem len) ?_
 rw[dJ,bh,len,gn]
 lia
theorem W8{Q:Bool->az->Prop}(S:jc κ s.heap a led xs o ep t)(hr:κ.room A)(hx:κ.is s.heap k b)(hn:xs.length < 60)
  (h:∀c h' o' Bb t' ys,gZ a s.heap h'->jc κ h' a led ys o' Bb t'->(∀x∈ys,x∈xs\/x=(k,b))->(∀x∈xs,x∈ys)->k∈ys.map (·.1)->ys.length<=xs.length+1->Q c { s with heap:=h',toks:=s.toks+κ.draws k }) :
  aB (aC prog w) A (setAdd a (.ref b)) Q E s:=by
 unfold setAdd
 refine je (ah (κ.pyHash hr hx ?_))
 have S':jc κ ({ s with toks:=s.toks+κ.draws k }:az).heap a led xs o ep t:=S
 have sd:κ.is ({ s with toks:=s.toks+κ.draws k }:az).heap k b:=hx
 refine cI (dist S.good (κ.hash k)) fun D d1 d2 d3=>?_
 have hm:t.mask<=127:=by rcases S.good.YC with e | e | e <;> lia
 unfold setAddHashed setAddHashedIn
 refine je (ah (jr S' ?_))
 dsimp only
 have hsc:byScan (.ref b) (xs.map (entry κ)).toArray=false:=by simp[byScan,Value.scannable]
 rw[hsc]
 simp only[cZ,aI0]
 unfold setSearch
 refine ah (JB S' hr sd (fun Gs=>?_) (fun Gs j hj he hp=>?_) d1 d2 d3 D 0 100000 (by lia) (by lia) (fun m i h0=>aI4 h0 (jE _)) none rfl)
 ·dsimp only
  refine aA (h false s.heap o ep t xs (.refl ..) S (fun x hx=>.inl hx) (fun x hx=>hx) Gs (by lia))
 dsimp only
 refine ah (jr S' ?_)
 dsimp only
 have hf1:xs.length+1 < t.mask:=by
  have:=S.sP
  rcases S.good.YC with e | e | e <;> rw[e] at this ⊢ <;> lia
 refine vO (Dd S.good hj he hf1) fun g1 p1 p2 p3 p4 p5=>?_
 have z5:(t.put j).1.plain=true:=by rw[Gq S.good];exact S.plain
 have hld:(t.put j).1.led=led:=by rw[Gq S.good];exact S.JA
 rw[z5]
 simp only[aI1]
 refine ah (κ.Us sd ?_)
 simp only[aI1]
 have ent:jh (xs.map (entry κ)).toArray (t.put j).2 (κ.hash k,eW b)=((xs.take (below t.place j)++(k,b)::xs.drop (below t.place j)).map (entry κ)).toArray:=by
  apply B0.mp
  rw[toList_ins,p1,iC,aZ,F8,F9]
  rfl
 rw[ent]
 have len:(xs.take (below t.place j)++(k,b)::xs.drop (below t.place j)).length=xs.length+1:=by
  rw[bU,cS,kL,wW];lia
 have nd:((xs.take (below t.place j)++(k,b)::xs.drop (below t.place j)).map (·.1)).Nodup:=by
  rw[iC,aZ,F8,F9]
  exact JC _ S.keys Gs
 have mem:∀x,x∈(xs.take (below t.place j)++(k,b)::xs.drop (below t.place j))↔x=(k,b)\/x∈xs:=fun x=>zf _ _ _ _
 have is':∀x∈(xs.take (below t.place j)++(k,b)::xs.drop (below t.place j)),κ.is s.heap x.1 x.2:=fun x Ic=>by
  rcases (mem x).mp Ic with e | e
  ·rw[e];exact hx
  ·exact S.each x e
 have pth:Paths (t.put j).1 (fun i=>(((xs.take (below t.place j)++(k,b)::xs.drop (below t.place j)).map (entry κ)).toArray[i]?.map (·.1)).getD 0) (xs.length+1):=by
  refine Jw S.good hj he hf1 S.Ia (h:=κ.hash k) (fun i hi=>?_) hp
  rw[<- ent,p1,sj _ _ _ (by simp;exact p2)]
  by_cases c1:i < below t.place j
  ·rw[aH2 c1,aH2 c1]
  ·rw[aH3 c1,aH3 c1]
   by_cases c2:i=below t.place j
   ·rw[aH2 c2,aH2 c2];rfl
   ·rw[aH3 c2,aH3 c2]
 obtain ⟨sb,O3,is2,S2⟩:=jc.store (s:={ s with toks:=s.toks+κ.draws k }) S' (t':=(t.put j).1) (by rw[len];exact g1) (by rw[len];exact pth) hld z5 nd is'
 refine ah (Lc S.obj S.data ?_ (by rw[dJ,bh,len,gn];lia))
 have af2:∀h' o' Bb t' ys,gZ a s.heap h'->jc κ h' a led ys o' Bb t'->(∀x,x∈ys↔x∈(xs.take (below t.place j)++(k,b)::xs.drop (below t.place j)))->ys.length=xs.length+1->Q true { s with heap:=h',toks:=s.toks+κ.draws k }:=
  fun h' o' Bb t' ys q1 q2 q3 q4=>h true h' o' Bb t' ys q1 q2 (fun x Ic=>((mem x).mp ((q3 x).mp Ic)).symm) (fun x Ic=>(q3 x).mpr ((mem x).mpr (.inr Ic))) (aS.mpr ⟨(k,b),(q3 _).mpr ((mem _).mpr (.inl rfl)),rfl⟩) (by lia)
 have tf:(t.put j).1.tooFull=decide ((xs.length+1) * 5 ≥ t.mask * 3):=by
  unfold SetTable.tooFull SetTable.fill
  rw[g1.dum,g1.size,p3]
  simp
 rw[tf]
 simp only[B4,Mu]
 by_cases full:(xs.length+1) * 5 ≥ t.mask * 3
 ·rw[aH2 (aH4 full)]
  have sP:=S.sP
  have hM:∃M,KR M/\sizeAbove (SetTable.grown ((xs.map (entry κ)).toArray.size+1))=M+1/\(xs.length+1) * 5 < M * 3:=by
   have eg:SetTable.grown ((xs.map (entry κ)).toArray.size+1)=(xs.length+1) * 4:=by
    unfold SetTable.grown
    rw[dJ,bh,aH3 (by lia)]
   rw[eg]
   rcases S.good.YC with e | e | e
   ·rw[e] at full sP
    exact⟨31,.inr (.inl rfl),sQ (.inl ⟨rfl,by lia,by lia⟩),by lia⟩
   ·rw[e] at full sP
    exact⟨127,.inr (.inr rfl),sQ (.inr ⟨rfl,by lia,by lia⟩),by lia⟩
   ·rw[e] at full;lia
  refine cI hM fun M hM1 hM2 hM3=>?_
  clear hM
  refine ah (O5 (κ:=κ) (M:=M) (led:=led) (s:={ s with heap:=_,toks:=_ }) O3 S.nE rfl (by rw[len];exact g1) hld z5 nd is2 hM1 hM2 (by rw[len];exact hM3) fun h' o' Bb t' ys q1 q2 q3 q4=>?_)
  exact aA (af2 h' o' Bb t' ys (sb.trans q1) q2 q3 (q4.trans len))
 ·rw[aH3 (by simp;lia)]
  refine aA (af2 _ _ _ _ _ sb (S2 (by rw[len,p3];lia)) (fun x=>Iff.rfl) len)
end
section
variable {prog:dh}{w:bN}{K:Type}[DecidableEq K]{κ:p9 prog w K}
variable {A:bY}{R:Result->az->Prop}{s:az}{a b:av}{led:Bool}{xs:List (K×av)}{o:Obj}{ep:Nat}{t:gW}
theorem jc.keep{h':aX}(S:jc κ h a led xs o ep t)(e:∀b o,h.get? b=some o->(b=a\/o.cls = .type "tuple")->h'.get? b=some o):jc κ h' a led xs o ep t:=
 ⟨e _ _ S.obj (.inl rfl),S.nE,S.data,S.good,S.Ia,S.JA,S.plain,S.sP,S.keys,fun x hx=>κ.mono (S.each x hx) fun b o q c=>e b o q (.inr c)⟩
theorem Rx{ys:List (K×av)}(hh:A.handled=none)(sR:κ.room A.in1)(hSI:S≠I)(hSl:S≠l)(hlI:l≠I)(hn:ys.length<=50) :
  ∀(r i:Nat) (s:az) (xs:List (K×av)) (o:Obj) (ep:Nat) (t:gW),i+r=ys.length->s.heap.IsListIter I l i->s.heap.IsList l (ys.map fun y=>eW y.2).toArray->jc κ s.heap S led xs o ep t->
   (∀y∈ys,κ.is s.heap y.1 y.2)->(∀x∈xs,x∈ys)->(∀j y,j < i->ys[j]?=some y->y.1∈xs.map (·.1))->xs.length<=i->
   (∀h' tk o' Bb t' zs,(∀b ob,b≠S->b≠I->s.heap.get? b=some ob->h'.get? b=some ob)->jc κ h' S led zs o' Bb t'->(∀x∈zs,x∈ys)->(∀y∈ys,y.1∈zs.map (·.1))->R (.ok (.ret .none)) { s with heap:=h',toks:=tk })->
   codeAny (aC prog w) A (.builtin "set.update.loop" ⟨[.ref S,.ref I],[]⟩) R s:=by
 intro r
 induction r with
 | zero=>
  intro i s xs o ep t hi hit hl hS hk hx hd hz hR
  refine lS MF ?_
  rw[r8 FF _]
  refine ah (m:=pyNext (.ref I)) (TN hh hit hl (by simp;lia) fun h' he=>?_)
  refine aA (hR h' s.toks o ep t xs (fun b ob _ h2 e=>he b ob h2 e) (hS.keep fun b ob e c=>he b ob ?_ e) hx fun y hy=>?_)
  ·rintro rfl
   rcases c with c | c
   ·exact hSI c.symm
   ·refine cI hit fun oi h1 h2 _=>?_
    clear hit
    obtain rfl:=eY (e.symm.trans h1)
    rw[h2] at c;exact aI4 c (by decide)
  ·obtain ⟨j,hj,ej⟩:=j0.mp hy
   exact hd j y (by lia) (by rw[dF hj,ej])
 | succ r ih=>
  intro i s xs o ep t hi hit hl hS hk hx hd hz hR
  have hil:i < ys.length:=by lia
  refine lS MF ?_
  rw[r8 FF _]
  refine ah (m:=pyNext (.ref I)) (TM hit hl (x:=.ref (ys[i]).2) (by simp[hil]) fun h1 Ry KI=>?_)
  have tupI:∀b ob,s.heap.get? b=some ob->ob.cls = .type "tuple" ->b≠I:=fun b ob e c z=>by
   subst z
   refine cI hit fun oi q1 q2 _=>?_
   clear hit
   obtain rfl:=eY (e.symm.trans q1)
   rw[q2] at c;exact aI4 c (by decide)
  have Ut:∀b ob,s.heap.get? b=some ob->(b=S\/ob.cls = .type "tuple")->h1.get? b=some ob:=fun b ob e c=>by
   rw[KI.2 b ?_]
   ·exact e
   ·rcases c with c | c
    ·rw[c];exact hSI
    ·exact tupI b ob e c
  have S1:jc κ ({ s with heap:=h1 }:az).heap S led xs o ep t:=hS.keep Ut
  have hk1:∀y∈ys,κ.is h1 y.1 y.2:=fun y hy=>κ.mono (hk y hy) fun b ob e c=>Ut b ob e (.inr c)
  have hm:ys[i]∈ys:=qT hil
  dsimp only
  refine ah (je (W8 S1 sR (hk1 _ hm) (by lia) fun c h2 o2 ep2 t2 zs KJ S2 m1 m2 m3 m4=>?_))
  refine aA ⟨wM FF _,?_⟩
  have tupS:∀b ob,h1.get? b=some ob->ob.cls = .type "tuple" ->b≠S:=fun b ob e c z=>by
   subst z
   obtain rfl:=eY (e.symm.trans S1.obj)
   rw[S1.nE.1] at c;exact aI4 c (by decide)
  refine ih (i+1) _ zs o2 ep2 t2 (by lia) (Ry.at fun ob e=>by rw[KJ.2 _ (eX hSI)];exact e) ?_ S2 (fun y hy=>κ.mono (hk1 y hy) fun b ob e c=>by rw[KJ.2 b (tupS b ob e c)];exact e)
   (fun x sd=>?_) (fun j y hj hy=>?_) (by lia) fun h' tk o' Bb t' ws q1 q2 q3 q4=>?_
  ·refine hl.at fun ob e=>?_
   show h2.get? l=_
   rw[KJ.2 _ (eX hSl),KI.2 _ hlI];exact e
  ·rcases m1 x sd with e | e
   ·exact hx x e
   ·rw[e];exact hm
  ·by_cases c:j < i
   ·refine aY (aS.mp (hd j y c hy)) fun x hx1 Ic=>?_
    exact aS.mpr ⟨x,m2 x hx1,Ic⟩
   ·have:j=i:=by lia
    subst this
    rw[dF hil] at hy
    obtain rfl:=eY hy
    exact m3
  ·refine hR h' tk o' Bb t' ws (fun b ob h1' Gj e=>q1 b ob h1' Gj ?_) q2 q3 q4
   show h2.get? b=_
   rw[KJ.2 b h1',KI.2 b Gj];exact e
end
section
variable {w:bN}{K:Type}[DecidableEq K]{κ:p9 prog w K}
variable {A:bY}{s:az}
def j9(w:bN):Bool:=!(w.params.followText "set-order")
def jt(w:bN):Obj:={ cls:=.type "set",dict:=none,data:=.set #[] 0 (.fresh 0 0 (j9 w)) }
theorem Gu(w:bN):Good (SetTable.fresh 0 0 (j9 w)) 0:=⟨rfl,fun i j _ h=>aI4 h (jE _),fun i h=>aI4 h (jE _),rfl,.inl rfl,(by show 0 < 7;decide)⟩
theorem Gv{h:aX}(e:h.get? a=some (jt w)):jc κ h a (j9 w) [] (jt w) 0 (.fresh 0 0 (j9 w)):=
 ⟨e,⟨rfl,rfl,rfl⟩,rfl,Gu w,fun i h=>aI4 h (jE _),rfl,rfl,(by show 0 * 5 < 7 * 3;decide),ux,fun x h=>aI4 h (by simp)⟩
theorem O6(v:aq){Q₁:aq->az->Prop}(h:Q₁ (.ref s.heap.objs.size) { s with heap:=s.heap.push (jt w) }) :
  codeAny (aC prog w) A (.call (.builtin "set.__new__") ⟨[.type "set",v],[]⟩) (wants Q₁ E) s:=by
 refine codeAny_of_tree ?_
 show aB _ A.in1 (checkBuiltinCall "set.__new__" ⟨[.type "set",v],[]⟩>>=fun _=>again (.builtin "set.__new__" ⟨[.type "set",v],[]⟩)) _ _ s
 refine ah (u0 (F.newCall_set_1 v) (aA ⟨wM MG _,lS F.entry_set_new ?_⟩))
 rw[r8 MG _]
 unfold Builtin.«set.__new__» Builtin.Frozenset.newClass
 have own:=sub_set_self
 obtain ⟨hp,g,d,tk,os⟩:=s
 dsimp only
 wp_walk
 refine EI (aA ?_)
 dsimp only
 simp only[newObj]
 exact ah (wpAny_alloc (aA (aA h)))
theorem O7{ys:List (K×av)}{Q:aq->az->Prop}(hh:A.handled=none)(sR:κ.room A.in1.in1.in1)(hl:s.heap.IsList l (ys.map fun y=>eW y.2).toArray)(hn:ys.length<=50)(hk:∀y∈ys,κ.is s.heap y.1 y.2)
  (h:∀h' tk o ep t zs,(∀b ob,s.heap.get? b=some ob->h'.get? b=some ob)->jc κ h' s.heap.objs.size (j9 w) zs o ep t->(∀x∈zs,x∈ys)->(∀y∈ys,y.1∈zs.map (·.1))->Q (.ref s.heap.objs.size) { s with heap:=h',toks:=tk }) :
  aB (aC prog w) A (call (.type "set") [.ref l]) Q E s:=by
 refine rW oQ.mro fun c tl aF8=>?_
 have made:=oQ.made
 have sub:=oQ.sub
 have n1:=oQ.notType
 have n2:=oQ.canCreate
 have ct:=F.typeCall_set_1 (.ref l)
 refine AG (codeAny_of_tree ?_)
 show aB _ _ (callAny (.type "set") _) _ _ _
 refine aA ⟨FG _ (by decide +kernel),lS F.entry_type_call ?_⟩
 rw[Around.under_plain (weight_type_call_type "set" [.ref l] []) rfl]
 repeat any_goals first | assumption | wp_step
 refine tZ (O6 (.ref l) (E:=E) (Q₁:=fun obj kQ=>obj = .ref s.heap.objs.size/\kQ={ s with heap:=s.heap.push (jt w) }) ⟨rfl,rfl⟩) fun r kQ hr=>?_
 cases r with
 | error e=>exact hr
 | ok fl=>
  cases fl with
  | ret obj=>
   obtain ⟨rfl,rfl⟩:=hr
   have got:(s.heap.push (jt w)).get? s.heap.objs.size=some (jt w):=eN _ rfl
   have ty:Shared.TypeIs { s with heap:=s.heap.push (jt w) } (.ref s.heap.objs.size) "set":=⟨_,got,rfl⟩
   have li:=oQ.init.lookup
   have bi:=oQ.init.bind (.ref s.heap.objs.size)
   repeat any_goals first | assumption | wp_step
   refine tZ (codeAny_call_builtin (R:=wants (fun r QN=>r = .none/\∃h' tk o ep t zs,QN={ s with heap:=h',toks:=tk }/\(∀b ob,s.heap.get? b=some ob->h'.get? b=some ob)/\jc κ h' s.heap.objs.size (j9 w) zs o ep t/\(∀x∈zs,x∈ys)/\(∀y∈ys,y.1∈zs.map (·.1))) E)
    oQ.init.plain F.entry_set_init (check_set_init_1 ty ?_)) fun ax6 QN O8=>?_
   ·obtain ⟨ol,hol,zT,nl,hdl⟩:=hl
    obtain ⟨aF9,af5,aE1,W9⟩:=ol
    simp only at zT hdl
    subst zT;subst hdl
    have ax7:(s.heap.push (jt w)).get? l=some { cls:=.type "list",dict:=af5,data:=.seq (ys.map fun y=>eW y.2).toArray nl,slots:=W9 }:=bQ _ hol
    have s1:=F.sub_list_set
    have s2:=F.sub_list_frozenset
    have s3:(vj "list" ==vj "dict")=false:=by decide
    have hl1:(s.heap.push (jt w)).IsList l (ys.map fun y=>eW y.2).toArray:=⟨_,ax7,rfl,nl,rfl⟩
    have aG0:(s.heap.push (jt w)).get? s.heap.objs.size=some { cls:=.type "set",dict:=none,data:=.set #[] 0 (.fresh 0 0 (j9 w)) }:=got
    unfold Builtin.«set.__init__» noKeywords Builtin.Frozenset.updateFrom
    generalize hPI:pyIter=PI
    wp_walk
    subst hPI
    refine L4 hl1 ?_
    refine ah (wpAny_runValue ?_)
    have lt:l < s.heap.objs.size:=bX hol
    have sz:(s.heap.push (jt w)).objs.size=s.heap.objs.size+1:=by rw[zH]
    have d1:s.heap.objs.size≠(s.heap.push (jt w)).objs.size:=by rw[sz];exact di (zI _)
    have d2:s.heap.objs.size≠l:=Cv lt
    have d3:l≠(s.heap.push (jt w)).objs.size:=by rw[sz];exact di (wU lt)
    refine Rx (κ:=κ) (led:=j9 w) (ys:=ys) (by simp[hh]) sR d1 d2 d3 hn ys.length 0 _ [] (jt w) 0 (.fresh 0 0 (j9 w)) (by lia)
     ?h1 ?h2 ?h3 ?hk (fun x hx=>aI4 hx (by simp)) (fun j y hj=>aI4 hj (jE _)) (bf _) fun h' tk o ep t zs q1 q2 q3 q4=>?_
    case h1=>exact⟨_,eN _ rfl,rfl,rfl⟩
    case h2=>exact hl1.push _
    case h3=>exact Gv (bQ _ got)
    case hk=>exact fun y hy=>κ.mono (hk y hy) fun b ob e _=>bQ _ (bQ _ e)
    refine aA (aA ⟨rfl,h',tk,o,ep,t,zs,rfl,fun b ob e=>?_,q2,q3,q4⟩)
    have lb:=bX e
    exact q1 b ob (di lb) (by rw[sz];exact di (wU lb)) (bQ _ (bQ _ e))
   ·cases ax6 with
    | error e=>exact O8
    | ok af6=>
     cases af6 with
     | ret r=>
      obtain ⟨rfl,h',tk,o,ep,t,zs,rfl,q1,q2,q3,q4⟩:=O8
      repeat any_goals first | assumption | wp_step
      exact h h' tk o ep t zs q1 q2 q3 q4
     | _=>exact O8.elim
  | _=>exact hr.elim
end
theorem iQ:Slot "set_iterator" "__next__" "set_iterator.__next__" :=
 .of (owner:="set_iterator") (n:="__next__") (by rw[typeLookup_type,builtinLookup_eq_fast];kernel_rfl) (by decide +kernel)
  (by decide +kernel) (by decide +kernel) (by first | exact .inl (by decide +kernel) | exact .inr (by decide +kernel))
  (by rw[isSubtype_type];kernel_rfl)
theorem pB:entryFor table "set_iterator.__next__" =some Builtin.«set_iterator.__next__»:=Ld (by kernel_rfl)
theorem qu(a:aq):argsOk "set_iterator.__next__" ⟨[a],[]⟩:=by unfold argsOk;kernel_rfl
theorem yb:entryFor table "set.__iter__" =some Builtin.«frozenset.__iter__» :=
 entryFor_alias (id':="frozenset.__iter__") (by kernel_rfl) rfl (by decide +kernel) (by kernel_rfl)
theorem Ig(next:Nat->Nat):∀(fuel k:Nat) (left:List α) (out:Array α),fuel=left.length->(pickOrder.go next fuel k left out).toList.Perm (out.toList++left)
 | 0,k,left,out,h=>by
  have:left=[]:=oJ.mp h.symm
  subst this
  unfold pickOrder.go
  simp
 | fuel+1,k,left,out,h=>by
  unfold pickOrder.go
  have iF:next k % left.length < left.length:=qQ _ (by lia)
  rw[dF iF]
  dsimp only
  refine(Ig next fuel (k+1) _ _ (by rw[List.length_eraseIdx_of_lt iF];lia)).trans ?_
  rw[Fv,fR]
  refine MB _ ?_
  have e1:left=left.take (next k % left.length)++left[next k % left.length]::left.drop (next k % left.length+1):=by
   rw[<- ug iF,nt]
  have e2:left.eraseIdx (next k % left.length)=left.take (next k % left.length)++left.drop (next k % left.length+1):=LS _ _
  rw[e2]
  refine List.Perm.trans ?_ (List.Perm.of_eq e1.symm)
  rw[List.singleton_append]
  exact LR.symm
theorem A0(next:Nat->Nat)(xs:Array α):(pickOrder next xs).toList.Perm xs.toList:=by
 have:=Ig next xs.size 0 xs.toList #[] (by simp)
 simpa[pickOrder] using this
section
variable {prog:dh}{w:bN}{K:Type}[DecidableEq K]{κ:p9 prog w K}
variable {A:bY}{E:aq->az->Prop}{s:az}{a:av}{xs:List (K×av)}{o:Obj}{ep:Nat}{t:gW}
def jC(w:bN)(a:av)(ep:Nat)(es:Array (Int×aq)):Array (Int×aq):=if w.params.followText "set-order" then pickOrder (w.params.setOrder a ep) es else es
theorem uM(w:bN)(a:av)(ep:Nat)(es:Array (Int×aq)):(jC w a ep es).toList.Perm es.toList:=by
 unfold jC;split
 ·exact A0 _ _
 ·exact .refl _
def slotAt(w:bN)(t:gW)(m:Nat):Nat:=if w.params.followText "set-order" then 0 else if m=0 then 0 else t.place.getD (m - 1) 0+1
def A7(h:aX)(I a:av)(n ep slot m:Nat):Prop:=∃ob,h.get? I=some ob/\ob.cls = .type "set_iterator" /\ob.data = .fields #[rawInt slot,rawInt m,.ref a,rawInt n,rawInt ep]
theorem A7.typeIs{n ep slot m:Nat}(x:A7 s.heap I a n ep slot m):s.TypeIs (.ref I) "set_iterator":=let ⟨ob,h1,h2,_⟩:=x;⟨ob,h1,h2⟩
theorem uN{Q:Bool->az->Prop}(h:Q (w.params.followText "set-order") s):aB (aC prog w) A setsByText Q E s:=by
 unfold setsByText
 exact ah (EI (aA h))
theorem Ih{Q:Option (aq×Nat)->az->Prop}(S:jc κ s.heap a (j9 w) xs o ep t)(hm:m<=xs.length)
  (h1:∀e,(jC w a ep (xs.map (entry κ)).toArray)[m]?=some e->Q (some (e.2,slotAt w t (m+1))) s) (h2:m=xs.length->Q none s) :
  aB (aC prog w) A (setNext a (slotAt w t m) m ep) Q E s:=by
 unfold setNext
 refine ah (jr S ?_)
 dsimp only
 refine ah (uN ?_)
 by_cases hb:w.params.followText "set-order" =true
 ·rw[aH2 hb]
  simp only[aI5,cZ,aI0]
  unfold setWalk
  refine ah (ah (jr S ?_))
  dsimp only
  refine ah (uN ?_)
  rw[aH2 hb]
  refine ah (EI (aA ?_))
  have ew:jC w a ep (xs.map (entry κ)).toArray=pickOrder (w.params.setOrder a ep) (xs.map (entry κ)).toArray:=by unfold jC;rw[aH2 hb]
  have es:∀q,slotAt w t q=0:=fun q=>by unfold slotAt;rw[aH2 hb]
  have sz:(pickOrder (w.params.setOrder a ep) (xs.map (entry κ)).toArray).size=xs.length:=by
   rw[<- dB,(A0 _ _).length_eq];simp
  refine aA ?_
  show Q ((pickOrder (w.params.setOrder a ep) (xs.map (entry κ)).toArray)[m]?.map fun e=>(e.2,slotAt w t m)) s
  cases q:(pickOrder (w.params.setOrder a ep) (xs.map (entry κ)).toArray)[m]? with
  | none=>
   have:=Mm.mp q
   exact h2 (by lia)
  | some e=>
   have:=h1 e (by rw[ew];exact q)
   rw[es] at this ⊢
   exact this
 ·rw[aH3 hb]
  have ew:jC w a ep (xs.map (entry κ)).toArray=(xs.map (entry κ)).toArray:=by unfold jC;rw[aH3 hb]
  have ld:t.led=true:=by rw[S.JA];unfold j9;rw[uy.mpr hb];rfl
  have bl:below t.place (slotAt w t m)=m:=by
   unfold slotAt
   rw[aH3 hb]
   by_cases c:m=0
   ·rw[aH2 c,c]
    refine z7 (nD S.good.rise 0) fun b1 b2 b3=>?_
    rcases Lu (below t.place 0) with z | z
    ·exact z
    ·exact aI4 (b2 0 z) (jE _)
   ·rw[aH3 c]
    refine z7 (nD S.good.rise (t.place.getD (m - 1) 0+1)) fun b1 b2 b3=>?_
    rw[S.good.size] at b1 b3
    rcases uc (below t.place (t.place.getD (m - 1) 0+1)) m with z | z | z
    ·have:=b3 (m - 1) (by lia) (by lia)
     lia
    ·exact z
    ·have q1:=b2 m z
     have q2:=S.good.rise (m - 1) m (by lia) (by rw[S.good.size];lia)
     lia
  refine wpAny_ite ?_
  split
  ·rename_i hd
   exfalso
   have:(!t.plain&&decide ((xs.map (entry κ)).toArray.size > 1))=true:=hd
   rw[S.plain] at this
   cases this
  ·refine ah (u0 (a:=()) ?_ ?_)
   ·show (if (!t.led && !((xs.map (entry κ)).toArray).isEmpty)=true then (unsupported "set:maker-not-led" : Sem Unit) else pure ())=pure ()
    rw[ld];rfl
   refine aA ?_
   show Q (match ((xs.map (entry κ)).toArray)[below t.place (slotAt w t m)]?,t.place[below t.place (slotAt w t m)]? with
    | some (_,x),some j=>some (x,j+1)
    | _,_=>none) s
   rw[bl]
   by_cases c:m < xs.length
   ·have e1:((xs.map (entry κ)).toArray)[m]?=some (entry κ xs[m]):=by rw[ku,dF c];rfl
    have hs:m < t.place.size:=by rw[S.good.size];exact c
    have e2:t.place[m]?=some (t.place.getD m 0):=by simp[Array.getD,hs]
    rw[e1,e2]
    have:=h1 (entry κ xs[m]) (by rw[ew];exact e1)
    unfold slotAt at this
    rw[aH3 hb,aH3 (by lia),AQ] at this
    exact this
   ·have em:m=xs.length:=by lia
    have e1:((xs.map (entry κ)).toArray)[m]?=none:=by rw[ku,uq (by lia)];rfl
    rw[e1]
    exact h2 em
end
section
variable {prog:dh}{w:bN}{K:Type}[DecidableEq K]{κ:p9 prog w K}
variable {A:bY}{E:aq->az->Prop}{s:az}{a I:av}{xs:List (K×av)}{o:Obj}{ep:Nat}{t:gW}
theorem rj{Q:Array (Int×aq)->az->Prop}{led:Bool}(S:jc κ s.heap a led xs o ep t)(h:Q (xs.map (entry κ)).toArray s):aB (aC prog w) A (setEntries a) Q E s:=by
 unfold setEntries
 exact ah (jr S (aA h))
theorem Rz{Q:aq->az->Prop}(S:jc κ s.heap a (j9 w) xs o ep t)(hn:xs.length<=50)
  (h:Q (.ref s.heap.objs.size) { s with heap:=s.heap.push { cls:=.type "set_iterator",data:=.fields #[rawInt (slotAt w t 0),rawInt ((0:Nat):Int),.ref a,rawInt xs.length,rawInt ep] } }):aB (aC prog w) A (pyIter (.ref a)) Q E s:=by
 have ty:s.TypeIs (.ref a) "set":=⟨o,S.obj,S.nE.1⟩
 refine AI ty MH (gV MH ty yb ?_ (F.args_set_iter_1 _))
 unfold Builtin.«frozenset.__iter__» Builtin.Frozenset.slot0 slotArgs
 simp only[Fj,j5,cZ,aI0,bind_assoc,oK,aI5]
 unfold Builtin.Frozenset.addrOf Builtin.Frozenset.sizeOf
 refine ah (aA ?_)
 try dsimp only
 refine ah (aA ?_)
 refine ah (ah (rj S (aA ?_)))
 refine ah ?_
 unfold setDrawn
 refine ah (jr S ?_)
 dsimp only
 refine ah (uN (aA ?_))
 rw[aH3 (by
  intro z
  have z:(!(w.params.followText "set-order")&&(!t.plain&&decide ((xs.map (entry κ)).toArray.size > 1)))=true:=z
  rw[S.plain] at z
  simp at z)]
 refine ah (aA ?_)
 have z0:slotAt w t 0=0:=by unfold slotAt;split <;> rfl
 rw[z0] at h
 refine ah ?_
 unfold setEpoch
 refine ah (jr S (aA ?_))
 dsimp only
 unfold newFields
 refine ah (nV (aA ⟨_,rfl,"set_iterator",_,⟨_,eN _ rfl,rfl⟩,iQ.lookup,?_⟩))
 simpa using h
theorem O9{Q:Option aq->az->Prop}(S:jc κ s.heap a (j9 w) xs o ep t)(hit:A7 s.heap I a xs.length ep (slotAt w t m) m)(he:(jC w a ep (xs.map (entry κ)).toArray)[m]?=some e)
  (hm:m < xs.length) (hQ:∀h',A7 h' I a xs.length ep (slotAt w t (m+1)) (m+1)->gZ I s.heap h'->Q (some e.2) { s with heap:=h' }):aB (aC prog w) A (pyNext (.ref I)) Q E s:=by
 refine cI (id hit) fun ob ho hc hd=>?_
 unfold pyNext
 refine ah (oA (qL (name:=kP "__next__") hit.typeIs iQ (gV iQ hit.typeIs pB ?_ (qu _))))
 unfold Builtin.«set_iterator.__next__» slotArgs
 simp only[Fj,j5,cZ,aI0,bind_assoc,oK,aI5]
 refine ah (aA ?_)
 dsimp only
 refine ah (u5 ho hd ?_)
 dsimp only[rawInt]
 refine ah (rj S ?_)
 rw[aH3 (by simp)]
 simp only[jV]
 refine ah (Ih S (jf hm) (fun e' Ru=>?_) (fun z=>aI4 z (di hm)))
 obtain rfl:e=e':=eY (he.symm.trans Ru)
 dsimp only
 refine ah (qK ho hd (by simp) ?_)
 have d1:=uz hd (·.setIfInBounds 0 (rawInt (slotAt w t (m+1):Nat)))
 have g1:=nh (Obj.mapFields (·.setIfInBounds 0 (rawInt (slotAt w t (m+1):Nat)))) ho (B6 d1)
 refine ah (qK g1 d1 (by simp) ?_)
 have d2:=uz d1 (·.setIfInBounds 1 (rawInt ((m:Int)+1)))
 have g2:=nh (Obj.mapFields (·.setIfInBounds 1 (rawInt ((m:Int)+1)))) g1 (B6 d2)
 refine aA ⟨_,rfl,aA (hQ _ ⟨_,g2,?_,?_⟩ ((fj ..).trans (fj ..)))⟩
 ·rw[FA,FA];exact hc
 ·rw[d2];simp[rawInt]
theorem RA{Q:Option aq->az->Prop}(hh:A.handled=none)(S:jc κ s.heap a (j9 w) xs o ep t)(hit:A7 s.heap I a xs.length ep (slotAt w t xs.length) xs.length)
  (hQ:∀h',Heap.ExtBut I s.heap h'->Q none { s with heap:=h' }):aB (aC prog w) A (pyNext (.ref I)) Q E s:=by
 refine cI (id hit) fun ob ho hc hd=>?_
 unfold pyNext
 refine ah (oA (qL (name:=kP "__next__") hit.typeIs iQ (gV iQ hit.typeIs pB ?_ (qu _))))
 unfold Builtin.«set_iterator.__next__» slotArgs
 simp only[Fj,j5,cZ,aI0,bind_assoc,oK,aI5]
 refine ah (aA ?_)
 dsimp only
 refine ah (u5 ho hd ?_)
 dsimp only[rawInt]
 refine ah (rj S ?_)
 rw[aH3 (by simp)]
 simp only[jV]
 have sz:(jC w a ep (xs.map (entry κ)).toArray).size=xs.length:=by rw[<- dB,(uM _ _ _ _).length_eq];simp
 refine ah (Ih S (bf _) (fun e' Ru=>?_) (fun z=>?_))
 ·rw[qX (by lia)] at Ru;cases Ru
 dsimp only
 refine ah (qK ho hd (by simp) ?_)
 refine ah ?_
 simp only[newExc,newTuple]
 refine ah (nV ?_ (by size_fits))
 refine ah (m:=u6 _ _) (u0 (a:=dY) (by first | rfl | (simp only[u6];rfl)) ?_)
 refine nV ?_ (by size_fits)
 simp only[raiseNew]
 refine ah (EJ ?_)
 have hh1:A.in1.handled=none:=hh
 rw[hh1]
 refine ah (aA (EK ?_))
 refine ah (qM (T:="StopIteration") (b:=true) ⟨_,eN _ rfl,rfl⟩ EL ?_)
 exact aA (hQ _ (((fj ..).extBut.push _).push _))
theorem JD(hh:A.handled=none)(hLI:L≠I)(hLa:L≠a)(hIa:a≠I)(hn:xs.length<=50) :
  ∀(r m:Nat) (s:az),m+r=xs.length->jc κ s.heap a (j9 w) xs o ep t->A7 s.heap I a xs.length ep (slotAt w t m) m->
   (∃n,s.heap.get? L=some (f7 "list" (((jC w a ep (xs.map (entry κ)).toArray).toList.take m).map (·.2)).toArray n))->
   (∀h' n,(∀b ob,b≠L->b≠I->s.heap.get? b=some ob->h'.get? b=some ob)->h'.get? L=some (f7 "list" ((jC w a ep (xs.map (entry κ)).toArray).toList.map (·.2)).toArray n)->R (.ok (.ret res)) { s with heap:=h' })->
   codeAny (aC prog w) A (.builtin "list.extend.loop" ⟨[.ref L,.ref I,res],[]⟩) R s:=by
 have sz:(jC w a ep (xs.map (entry κ)).toArray).size=xs.length:=by rw[<- dB,(uM _ _ _ _).length_eq];simp
 have yc:entryFor table "list.extend.loop" =some Builtin.«list.extend.loop»:=Ld (by kernel_rfl)
 have rm:plainId "list.extend.loop" =true:=by decide +kernel
 intro r
 induction r with
 | zero=>
  intro m s hm S hit ⟨n,hL⟩ hR
  have em:m=xs.length:=by lia
  subst em
  refine lS yc ?_
  rw[r8 rm _]
  refine ah (m:=pyNext (.ref I)) (RA hh S hit fun h' he=>?_)
  refine aA (hR h' n (fun b ob _ h2 e=>he b ob h2 e) ?_)
  have:=he L _ hLI hL
  rw[uh (by rw[dB];lia)] at this
  exact this
 | succ r ih=>
  intro m s hm S hit ⟨n,hL⟩ hR
  have hml:m < xs.length:=by lia
  have af9:m < (jC w a ep (xs.map (entry κ)).toArray).size:=by lia
  refine lS yc ?_
  rw[r8 rm _]
  refine ah (m:=pyNext (.ref I)) (O9 S hit (xj af9) hml fun h1 Ry KI=>?_)
  have hL1:h1.get? L=some (f7 "list" (((jC w a ep (xs.map (entry κ)).toArray).toList.take m).map (·.2)).toArray n):=by rw[KI.2 L hLI];exact hL
  refine ah (Fx hL1 rfl ?_ (by simp;rw[gn];lia) (by simp;rw[gn];lia))
  refine aA ⟨wM rm _,?_⟩
  have KJ:=fj h1 L (cX fun x=>x.push ((jC w a ep (xs.map (entry κ)).toArray)[m]).2)
  have tup:∀b ob,s.heap.get? b=some ob->(b=a\/ob.cls = .type "tuple")->b≠I/\b≠L:=fun b ob e c=>by
   constructor
   ·rintro rfl
    rcases c with c | c
    ·exact hIa c.symm
    ·refine cI hit fun q q1 q2 _=>?_
     clear hit
     obtain rfl:=eY (e.symm.trans q1)
     rw[q2] at c;exact aI4 c (by decide)
   ·rintro rfl
    rcases c with c | c
    ·exact hLa c
    ·obtain rfl:=eY (e.symm.trans hL)
     exact aI4 (show vj "list" =vj "tuple" from c) (by decide)
  refine ih (m+1) _ (by lia) (S.keep fun b ob e c=>?_) ?_ ?_ fun h' n' q1 q2=>?_
  ·obtain ⟨c1,c2⟩:=tup b ob e c
   show (h1.update L _).get? b=_
   rw[KJ.2 b c2,KI.2 b c1];exact e
  ·refine aY Ry fun q q1 q2=>?_
   clear Ry
   exact⟨q,(by show (h1.update L _).get? I=_;rw[KJ.2 I (eX hLI)];exact q1),q2⟩
  ·obtain ⟨n',xE⟩:∃n',(h1.update L (cX fun x=>x.push ((jC w a ep (xs.map (entry κ)).toArray)[m]).2)).get? L=some (f7 "list" ((((jC w a ep (xs.map (entry κ)).toArray).toList.take m).map (·.2)).toArray.push ((jC w a ep (xs.map (entry κ)).toArray)[m]).2) n'):=⟨_,Fy hL1 _⟩
   refine⟨n',xE.trans ?_⟩
   congr 2
   rw[LU,dF (by rw[dB];exact af9)]
   simp
  ·refine hR h' n' (fun b ob h1' Gj e=>q1 b ob h1' Gj ?_) q2
   show (h1.update L _).get? b=_
   rw[KJ.2 b h1',KI.2 b Gj];exact e
end
section
variable {prog:dh}{w:bN}{K:Type}[DecidableEq K]{κ:p9 prog w K}
variable {A:bY}{E:aq->az->Prop}{s:az}{a:av}{xs:List (K×av)}{o:Obj}{ep:Nat}{t:gW}
theorem RB{Q:Bool->az->Prop}(hT:s.TypeIs (.ref a) "set")(h:∀c tk,Q c { s with toks:=tk }):aB (aC prog w) A (Builtin.List.listLengthHint (.ref a)) Q E s:=by
 unfold Builtin.List.listLengthHint
 refine ah (oB hT F.slot_set_len.lookup ?_)
 have sp:splitId "set.__len__" =some ("set","__len__"):=by kernel_rfl
 dsimp only
 rw[sp]
 dsimp only
 refine ah (qM hT sub_set_self ?_)
 rw[j5,aH3 iK]
 rw[aH2 (by decide +kernel)]
 refine ah (AJ hT ?_)
 exact aA (h false s.toks)
theorem Dh{Q:List aq->az->Prop}(hh:A.handled=none)(S:jc κ s.heap a (j9 w) xs o ep t)(hn:xs.length<=50)
  (h:∀h' tk vs,(∀b ob,s.heap.get? b=some ob->h'.get? b=some ob)->vs.Perm (xs.map fun x=>eW x.2)->Q vs { s with heap:=h',toks:=tk }):aB (aC prog w) A (collect (.ref a)) Q E s:=by
 unfold collect
 refine ah (wpAny_runValue (lS UR ?_))
 refine ah (m:=newList []) (wL (aA ⟨FG _ (by decide +kernel),lS US ?_⟩))
 show aB _ _ (Builtin.List.listExtendWith (.ref s.heap.objs.size) (.ref a) (.ref s.heap.objs.size)) _ _ { s with heap:=s.heap.push (f7 "list" #[] 0) }
 unfold Builtin.List.listExtendWith
 have al:a < s.heap.objs.size:=bX S.obj
 have S1:jc κ ({ s with heap:=s.heap.push (f7 "list" #[] 0) }:az).heap a (j9 w) xs o ep t:=S.keep fun b ob e _=>bQ _ e
 have ty1:Shared.TypeIs { s with heap:=s.heap.push (f7 "list" #[] 0) } (.ref a) "set":=⟨o,S1.obj,S1.nE.1⟩
 refine ah (AJ ty1 ?_)
 have sr:Builtin.List.listSameRef (.ref s.heap.objs.size) (.ref a)=false:=by
  show (s.heap.objs.size==a)=false
  exact aH9.mpr (Cv al)
 rw[sr,aH3 (by decide)]
 refine ah (Rz S1 hn ?_)
 have sz1:(s.heap.push (f7 "list" #[] 0)).objs.size=s.heap.objs.size+1:=by rw[zH]
 generalize hO:({ cls:=.type "set_iterator",data:=.fields #[rawInt (slotAt w t 0),rawInt ((0:Nat):Int),.ref a,rawInt xs.length,rawInt ep] }:Obj)=ob
 have hI:((s.heap.push (f7 "list" #[] 0)).push ob).get? (s.heap.push (f7 "list" #[] 0)).objs.size=some ob:=eN _ (by rw[<- hO];rfl)
 have Wa:((s.heap.push (f7 "list" #[] 0)).push ob).get? s.heap.objs.size=some (f7 "list" #[] 0):=bQ _ (eN _ rfl)
 have S2:jc κ ((s.heap.push (f7 "list" #[] 0)).push ob) a (j9 w) xs o ep t:=S1.keep fun b ob e _=>bQ _ e
 refine ah (je (RB (s:={ s with heap:=(s.heap.push (f7 "list" #[] 0)).push ob }) ⟨o,S2.obj,S2.nE.1⟩ fun c tk=>?_))
 refine wpAny_ite ?_
 split
 ·refine ah (wI ?_)
  unfold Builtin.List.listTouch
  refine ah (ah (Fx Wa rfl ?_ (by simp) (by simp)))
  obtain ⟨n1,g1⟩:∃n1,(((s.heap.push (f7 "list" #[] 0)).push ob).update s.heap.objs.size (cX (·.push .none))).get? s.heap.objs.size=some (f7 "list" (#[].push .none) n1):=⟨_,Fy Wa _⟩
  refine Fx g1 rfl ?_ (by simp;rw[gn];decide) (by simp)
  obtain ⟨n2,g2⟩:∃n2,((((s.heap.push (f7 "list" #[] 0)).push ob).update s.heap.objs.size (cX (·.push .none))).update s.heap.objs.size (cX (·.pop))).get? s.heap.objs.size=some (f7 "list" (#[].push .none).pop n2):=⟨_,Fy g1 _⟩
  have sb:=(fj ((s.heap.push (f7 "list" #[] 0)).push ob) s.heap.objs.size (cX (·.push .none))).trans (fj _ s.heap.objs.size (cX (·.pop)))
  generalize ((((s.heap.push (f7 "list" #[] 0)).push ob).update s.heap.objs.size (cX (·.push .none))).update s.heap.objs.size (cX (·.pop)))=g at g2 sb ⊢
  have ne1:s.heap.objs.size≠(s.heap.push (f7 "list" #[] 0)).objs.size:=by rw[sz1];exact di (zI _)
  have ne2:s.heap.objs.size≠a:=Cv al
  have ne3:a≠(s.heap.push (f7 "list" #[] 0)).objs.size:=by rw[sz1];exact di (wU al)
  refine aA ⟨FG _ (by decide +kernel),?_⟩
  refine JD (κ:=κ) (a:=a) (xs:=xs) (o:=o) (ep:=ep) (t:=t) (by simp[hh]) ne1 ne2 ne3 hn xs.length 0 _ (by lia) ?h1 ?h2 ⟨n2,g2⟩ fun h' n' q1 q2=>?_
  case h1=>
   refine S2.keep fun b Oa e c=>?_
   show g.get? b=_
   rw[sb.2 b ?_]
   ·exact e
   ·rintro rfl
    rcases c with c | c
    ·exact ne2 c
    ·obtain rfl:=eY (e.symm.trans Wa)
     exact aI4 (show vj "list" =vj "tuple" from c) (by decide)
  case h2=>exact⟨ob,(by show g.get? _=_;rw[sb.2 _ (eX ne1)];exact hI),by rw[<- hO],by rw[<- hO]⟩
  have pm:=(uM w a ep (xs.map (entry κ)).toArray).map (·.2)
  have em:(xs.map (entry κ)).toArray.toList.map (·.2)=xs.map fun x=>eW x.2:=by simp[entry]
  rw[em] at pm
  show aB _ _ (load s.heap.objs.size>>=fun ob=>match ob.data with | .seq xs _=>pure xs.toList | _=>unsupported "internal:collect") _ _ _
  refine ah (wpAny_load q2 ?_)
  refine aA (h h' tk _ (fun b Oa e=>q1 b Oa (di (bX e)) (by rw[sz1];exact di (wU (bX e))) ?_) (by simpa using pm))
  show g.get? b=_
  rw[sb.2 b (di (bX e))]
  exact bQ _ (bQ _ e)
 ·rename_i hs
  refine aI4 ?_ hs
  rw[oO]
  exact .inr (by decide +kernel)
end
end Ts
end ax5
section ax8
namespace Dm
open PySem PyProof.Rows L2 PySem.SeqAt
theorem aH.tup{K:aD}{H H':Hp}{a:av}{xs:List V}(e:aH H H')(h:mF K H a xs):mF K H' a xs:=by
 rcases h with (h | ⟨o,h⟩) | h
 ·exact .inl (.inl (e _ _ h))
 ·exact .inl (.inr ⟨o,e _ _ h⟩)
 ·exact .inr h
def er(H:Hp)(A:List av):Hp:=fun a=>if a∈A then none else H a
theorem eZ(h:a∈A):er H A a=none:=aH2 h
theorem b9(h:a∉A):er H A a=H a:=aH3 h
theorem aL(H:Hp)(A:List av):aH (er H A) H:=fun b o h=>by
 by_cases q:b∈A
 ·rw[eZ q] at h;cases h
 ·rwa [b9 q] at h
theorem aI(e:aH H H'):aH (er H A) (er H' A):=fun b o h=>by
 by_cases q:b∈A
 ·rw[eZ q] at h;cases h
 ·rw[b9 q] at h ⊢;exact e b o h
structure Cfg where
 ob:Nat->aD->Hp->av->List V->Prop
 mono:∀{t:Nat} {K:aD} {H H':Hp} {a:av} {vs:List V},aH H H'->ob t K H a vs->ob t K H' a vs
 own:aD->Hp->Hp->av->List V->Prop
 Ii:∀{K:aD} {F F' H H':Hp} {a:av} {vs:List V},aH F F'->H' a=H a->own K F H a vs->own K F' H' a vs
 Uu:∀{K:aD} {F G H:Hp} {a:av} {vs:List V},own K F H a vs->aH F G->G a=H a->ob 2 K G a vs
 ag1:∀{K:aD} {F H:Hp} {a:av} {vs:List V},own K F H a vs->∃φ,H a=some (.ext φ)
 gl:Hp->Prop
 glM:∀{H H':Hp},aH H H'->gl H->gl H'
structure GL where
 p:Hp->Prop
 m:∀{H H':Hp},aH H H'->p H->p H'
def ag2:Cfg:=⟨fun _ _ _ _ _=>False,fun _ h=>h,fun _ _ _ _ _=>False,fun _ _ h=>h,fun h _ _=>h,fun h=>h.elim,fun _=>True,fun _ h=>h⟩
mutual
def Rep(K:aD)(C:Cfg):Hp->D->V->Prop
 | _,.cY,v=>v = .cY
 | _,.bl b,v=>v = .bl b
 | _,.int i,v=>v = .int i
 | _,.str x,v=>v = .str x
 | H,.tup ds,v=>∃a xs,v = .ref a/\mF K H a xs/\aM K C H ds xs
 | H,.lst ds,v=>∃a xs,v = .ref a/\ko K H a xs/\aM K C (er H [a]) ds xs
 | H,.bM t ds,v=>∃a xs,v = .ref a/\C.ob t K H a xs/\aM K C H ds xs
def aM(K:aD)(C:Cfg):Hp->List D->List V->Prop
 | _,[],vs=>vs=[]
 | H,d::ds,vs=>∃v r,vs=v::r/\Rep K C H d v/\aM K C H ds r
end
section
variable {K:aD}{C:Cfg}
mutual
theorem Rep.same:∀{H H':Hp} (e:aH H H') (d:D) {v:V},Rep K C H d v->Rep K C H' d v
 | _,_,e,.cY,v,q=>by rw[Rep] at q ⊢;exact q
 | _,_,e,.bl b,v,q=>by rw[Rep] at q ⊢;exact q
 | _,_,e,.int i,v,q=>by rw[Rep] at q ⊢;exact q
 | _,_,e,.str x,v,q=>by rw[Rep] at q ⊢;exact q
 | _,_,e,.tup ds,v,q=>by
  rw[Rep] at q ⊢
  refine bF q fun a xs h1 h2 h3=>?_
  clear q
  exact⟨a,xs,h1,aH.tup e h2,aM.same e ds h3⟩
 | _,_,e,.lst ds,v,q=>by
  rw[Rep] at q ⊢
  refine bF q fun a xs h1 h2 h3=>?_
  clear q
  exact⟨a,xs,h1,e.seq h2,aM.same (aI e) ds h3⟩
 | _,_,e,.bM t ds,v,q=>by
  rw[Rep] at q ⊢
  refine bF q fun a xs h1 h2 h3=>?_
  clear q
  exact⟨a,xs,h1,C.mono e h2,aM.same e ds h3⟩
theorem aM.same:∀{H H':Hp} (e:aH H H') (ds:List D) {vs:List V},aM K C H ds vs->aM K C H' ds vs
 | _,_,e,[],_,q=>by rw[aM] at q ⊢;exact q
 | _,_,e,d::ds,_,q=>by
  rw[aM] at q ⊢
  refine bF q fun v r e1 a b=>?_
  clear q
  exact⟨v,r,e1,Rep.same e d a,aM.same e ds b⟩
end
variable {H:Hp}
theorem Rep.items(q:Rep K C H (.lst ds) v):∃a xs,v = .ref a/\ko K H a xs/\aM K C H ds xs:=by
 rw[Rep] at q
 refine bF q fun a xs h1 h2 h3=>?_
 clear q
 exact⟨a,xs,h1,h2,h3.same (aL _ _) _⟩
theorem aM.len:∀{ds:List D} {vs:List V},aM K C H ds vs->vs.length=ds.length
 | [],_,e=>by rw[aM] at e;subst e;rfl
 | d::ds,_,e=>by
  rw[aM] at e
  refine bF e fun v r bx _ q=>?_
  clear e
  walk_at"$"
  rw[cS,cS,q.len]
theorem aM.get':∀{ds:List D} {vs:List V} {j:Nat} {d:D},aM K C H ds vs->ds[j]?=some d->∃v,vs[j]?=some v/\Rep K C H d v
 | [],_,j,v,e,h=>by cases h
 | d::ds,_,j,v,e,h=>by
  rw[aM] at e
  refine bF e fun u r bx a q=>?_
  clear e
  walk_at"$"
  cases j with
  | zero=>cases h;exact⟨u,rfl,a⟩
  | succ j=>
   refine aY (q.get' (j:=j) (by simpa using h)) fun z h1 h2=>?_
   exact⟨z,by simpa using h1,h2⟩
theorem aM.nil:aM K C H [] []:=by rw[aM]
theorem aM.cons(a:Rep K C H d v)(b:aM K C H ds vs):aM K C H (d::ds) (v::vs):=by rw[aM];exact⟨v,vs,rfl,a,b⟩
theorem aM.app:∀{ds es:List D} {vs ws:List V},aM K C H ds vs->aM K C H es ws->aM K C H (ds++es) (vs++ws)
 | [],_,_,_,a,b=>by rw[aM] at a;subst a;exact b
 | d::ds,_,_,_,a,b=>by
  rw[aM] at a
  refine bF a fun v r bx a1 a2=>?_
  clear a
  walk_at"$"
  exact .cons a1 (a2.app b)
theorem aM.take:∀{ds:List D} {vs:List V} (n:Nat),aM K C H ds vs->aM K C H (ds.take n) (vs.take n)
 | [],_,n,a=>by rw[aM] at a;subst a;simp[aM]
 | d::ds,_,0,a=>by simp[aM]
 | d::ds,_,n+1,a=>by
  rw[aM] at a
  refine bF a fun v r bx a1 a2=>?_
  clear a
  walk_at"$"
  rw[LV,LV]
  exact .cons a1 (a2.take n)
theorem aM.drop:∀{ds:List D} {vs:List V} (n:Nat),aM K C H ds vs->aM K C H (ds.drop n) (vs.drop n)
 | [],_,n,a=>by rw[aM] at a;subst a;simp[aM]
 | d::ds,_,0,a=>a
 | d::ds,_,n+1,a=>by
  rw[aM] at a
  refine bF a fun v r bx a1 a2=>?_
  clear a
  walk_at"$"
  rw[LW,LW]
  exact a2.drop n
theorem aM.ints:∀ns:List Int,aM K C H (ns.map D.int) (ns.map V.int)
 | []=>.nil
 | n::ns=>.cons (by rw[Rep]) (aM.ints ns)
end
section
variable {s:az}
mutual
theorem Inv.dat(I:Inv X pins σ H s):∀(d:D) {v:V} {u:aq},flat d=true->Rep X.K C H d v->RelV v u->fG s.heap d u
 | .cY,v,u,_,q,r=>by rw[Rep] at q;subst q;rw[fG];exact r
 | .bl b,v,u,_,q,r=>by rw[Rep] at q;subst q;rw[fG];exact r
 | .int i,v,u,_,q,r=>by rw[Rep] at q;subst q;rw[fG];exact r
 | .str x,v,u,_,q,r=>by rw[Rep] at q;subst q;rw[fG];exact r
 | .tup ds,v,u,f,q,r=>by
  rw[Rep] at q
  rw[flat] at f
  refine bF q fun a xs bx h2 h3=>?_
  clear q
  walk_at"$"
  obtain rfl:u = .ref a:=r
  refine cI (I.tuple h2) fun bA r1 t _=>?_
  rw[fG]
  exact⟨a,bA.toArray,rfl,t,Inv.Di I ds f h3 r1⟩
 | .lst ds,v,u,f,q,r=>by
  have q:=q.items
  rw[flat] at f
  refine bF q fun a xs bx h2 h3=>?_
  clear q
  walk_at"$"
  obtain rfl:u = .ref a:=r
  refine cI (I.list h2) fun bA r1 t _=>?_
  rw[fG]
  exact⟨a,bA.toArray,rfl,t,Inv.Di I ds f h3 r1⟩
 | .bM tb ds,v,u,f,q,r=>by rw[flat] at f;cases f
theorem Inv.Di(I:Inv X pins σ H s):∀(ds:List D) {vs:List V} {us:List aq},cz ds=true->aM X.K C H ds vs->Vals vs us->bG s.heap ds us
 | [],_,_,_,q,r=>by rw[aM] at q;subst q;cases r;rw[bG]
 | d::ds,_,_,f,q,r=>by
  rw[aM] at q
  refine bF q fun v vs' bx a b=>?_
  clear q
  walk_at"$"
  rw[cz,cu] at f
  cases r with
  | cons r1 r2=>
   rw[bG]
   exact⟨_,_,rfl,Inv.dat I d f.1 a r1,Inv.Di I ds f.2 b r2⟩
end
def Wb(K:aD)(C:Cfg)(neg:Bool):R2:=fun x y H Q=>∃d e,Rep K C H d x/\Rep K C H e y/\flat d=true/\flat e=true/\dep d<=60/\Q (.bl (if neg then !iO d e else iO d e)) H
theorem rq(hu:X.A.units+64 < cLine):qt X (iz .Eq) (Wb X.K C false):=by
 intro pins s σ H x y v u Q I rx ry ⟨d,e,h1,h2,f1,f2,h3,q⟩
 exact VY d e f1 f2 (Inv.dat I d f1 h1 rx) (Inv.dat I e f2 h2 ry) (by lia) _ _ _ _ ⟨.bl (iO d e),H,I,rfl,q⟩
theorem BF(hu:X.A.units+64 < cLine):qt X (iz .NotEq) (Wb X.K C true):=by
 intro pins s σ H x y v u Q I rx ry ⟨d,e,h1,h2,f1,f2,h3,q⟩
 exact NV d e f1 f2 (Inv.dat I d f1 h1 rx) (Inv.dat I e f2 h2 ry) (by lia) _ _ _ _ ⟨.bl (!iO d e),H,I,rfl,q⟩
def Wc(K:aD)(C:Cfg)(neg:Bool):R2:=fun x y H Q=>∃d es,Rep K C H d x/\(Rep K C H (.lst es) y\/Rep K C H (.tup es) y)/\flat d=true/\cz es=true/\kr es<=60/\Q (.bl (if neg then !(es.any fun e=>iO e d) else es.any fun e=>iO e d)) H
def vD(h:aX)(d:D)(y:aq):Bool:=@decide (∃e,fG h e y/\iO e d=true) (Classical.propDecidable _)
theorem Dj(q:fG h e y):vD h d y=iO e d:=by
 unfold vD
 cases z:iO e d with
 | true=>exact @aH4 _ (Classical.propDecidable _) ⟨e,q,z⟩
 | false=>
  refine @aH5 _ (Classical.propDecidable _) ?_
  rintro ⟨e',q',z'⟩
  rw[fG.inj e e' q q'] at z
  rw[z] at z';cases z'
theorem mL:∀(es:List D) {ys:List aq},bG h es ys->ys.any (vD h d)=es.any fun e=>iO e d
 | [],_,q=>by rw[bG] at q;subst q;rfl
 | e::es,_,q=>by
  rw[bG] at q
  refine bF q fun v r bx a b=>?_
  clear q
  walk_at"$"
  rw[qU,qU,Dj a,mL es b]
theorem nF{A:bY}(fd:flat d=true)(hx:fG s.heap d x)(f:cz es=true)(q:bG s.heap es ys)(hu:A.units+kr es < cLine):∀y∈ys,EqAt A s y x (vD s.heap d y):=fun y hy=>by
 obtain ⟨j,hj,e⟩:=j0.mp hy
 obtain ⟨a,b⟩:=q.get j hj
 rw[e] at a
 rw[Dj a]
 have:=iV b
 exact oZ _ _ (dW f b) fd a hx (by lia)
theorem rA(hu:X.A.units+64 < cLine):qt X (iz .In) (Wc X.K C false):=by
 intro pins s σ H x y v u Q I rx ry ⟨d,es,h1,h2,f1,f2,h3,q⟩
 have hd:=Inv.dat I d f1 h1 rx
 rcases h2 with h2 | h2
 ·have he:=Inv.dat I (.lst es) (by rw[flat];exact f2) h2 ry
  rw[fG] at he
  refine bF he fun a it bx t p=>?_
  clear he
  walk_at"$"
  refine in_listAt (vD s.heap d) t.isList (fun y hy=>nF f1 hd f2 p (by show X.A.units+1+_ < _;lia) y (zJ.mpr hy)) ?_
  rw[<- B3,mL es p]
  exact⟨.bl (es.any fun e=>iO e d),H,I,rfl,q⟩
 ·have he:=Inv.dat I (.tup es) (by rw[flat];exact f2) h2 ry
  rw[fG] at he
  refine bF he fun a it bx t p=>?_
  clear he
  walk_at"$"
  refine in_tupleAt (vD s.heap d) (aR t) (fun y hy=>nF f1 hd f2 p (by show X.A.units+1+_ < _;lia) y (zJ.mpr hy)) ?_
  rw[<- B3,mL es p]
  exact⟨.bl (es.any fun e=>iO e d),H,I,rfl,q⟩
theorem uO(hu:X.A.units+64 < cLine):qt X (iz .NotIn) (Wc X.K C true):=by
 intro pins s σ H x y v u Q I rx ry ⟨d,es,h1,h2,f1,f2,h3,q⟩
 have hd:=Inv.dat I d f1 h1 rx
 rcases h2 with h2 | h2
 ·have he:=Inv.dat I (.lst es) (by rw[flat];exact f2) h2 ry
  rw[fG] at he
  refine bF he fun a it bx t p=>?_
  clear he
  walk_at"$"
  refine notIn_listAt (vD s.heap d) t.isList (fun y hy=>nF f1 hd f2 p (by show X.A.units+1+_ < _;lia) y (zJ.mpr hy)) ?_
  rw[<- B3,mL es p]
  exact⟨.bl (!es.any fun e=>iO e d),H,I,rfl,q⟩
 ·have he:=Inv.dat I (.tup es) (by rw[flat];exact f2) h2 ry
  rw[fG] at he
  refine bF he fun a it bx t p=>?_
  clear he
  walk_at"$"
  refine notIn_tupleAt (vD s.heap d) (aR t) (fun y hy=>nF f1 hd f2 p (by show X.A.units+1+_ < _;lia) y (zJ.mpr hy)) ?_
  rw[<- B3,mL es p]
  exact⟨.bl (!es.any fun e=>iO e d),H,I,rfl,q⟩
end
end Dm
end ax8
section ax9
namespace Dm
open PySem PyProof.Rows L2 PySem.SeqAt Ts
section
theorem wm(r:Vals ws vs):∀(pm:List Nat),(∀i∈pm,i < ws.length)->Vals (pm.map fun i=>ws.getD i .cY) (pm.map fun i=>vs.getD i dY)
 | [],_=>.nil
 | i::pm,h=>by
  refine .cons ?_ (wm r pm fun j hj=>h j (.tail _ hj))
  have hi:=h i (.head _)
  refine aY (r.get (dF hi)) fun u h1 h2=>?_
  have e1:ws.getD i .cY=ws[i]:=by simp[hi]
  have e2:vs.getD i dY=u:=by simp[h1]
  show RelV (ws.getD i .cY) (vs.getD i dY)
  rw[e1,e2];exact h2
theorem wo{K:aD}{H:Hp}{ws:List V}{ds:List D}(r:aM K C H ds ws):∀(pm:List Nat),(∀i∈pm,i < ds.length)->aM K C H (pm.map fun i=>ds.getD i .cY) (pm.map fun i=>ws.getD i .cY)
 | [],_=>.nil
 | i::pm,h=>by
  refine .cons ?_ (wo r pm fun j hj=>h j (.tail _ hj))
  have hi:=h i (.head _)
  refine aY (r.get' (dF hi)) fun u h1 h2=>?_
  have e1:ds.getD i .cY=ds[i]:=by simp[hi]
  have e2:ws.getD i .cY=u:=by simp[h1]
  show Rep K C H (ds.getD i .cY) (ws.getD i .cY)
  rw[e1,e2];exact h2
structure sS(ds:List D):Prop where
 kd:∃kd,Sk ds kd
 sP:ds.length < 64
 iG:∀a∈ds,∀b∈ds,iG a b=true
 nl:∀a∈ds,nl a=true
 dep:∀a∈ds,dep a<=50
theorem zg(h:∀a∈ds,∀b∈ds,iG a b=true):cz ds=true:=iP fun d hd=>(xU d d (h d hd d hd)).1
def Ob(K:aD)(C:Cfg):List V->Hp->VK->Prop:=fun xs H Q=>∃v ds,xs=[v]/\Rep K C H (.lst ds) v/\sS ds/\∀p ws,H p=none->aM K C H (gq ds) ws->Q (.ref p) (upd H p (.lst ws))
theorem yd{h1 h':aX}{vs:List aq}(I:L2.Inv X pins σ H s)(k1:∀b ob,s.heap.get? b=some ob->h1.get? b=some ob)(k2:∀b ob,h1.get? b=some ob->h'.get? b=some ob)
  (hL:h1.objs.size<=L) (ho:h'.get? L=some (cj "list" vs.toArray n)) (r:Vals ws vs) (hz:ws.length<=cK) (q:H L=none->Q (.ref L) (upd H L (.lst ws))):EP X pins σ Q (.ref L) { s with heap:=h',toks:=tk }:=by
 have I1:L2.Inv X pins σ H { s with heap:=h1,toks:=tk }:=I.kept k1
 have hn:H L=none:=I1.fB.fresh hL
 refine⟨.ref L,upd H L (.lst ws),I1.laid (t':=tk) k2 hL ⟨hz,vs,n,r,ho⟩,rfl,q hn⟩
def Wd(K:aD)(C:Cfg)(G:List D->Prop):List V->Hp->VK->Prop:=fun xs H Q=>∃a ws ds,xs=[.ref a]/\ko K H a ws/\aM K C H ds ws/\G ds/\∀(p:av) (pm:List Nat),H p=none->(∀i∈pm,i < ds.length)->gq ds=pm.map (fun i=>ds.getD i .cY)->Q (.ref p) (upd H p (.lst (pm.map fun i=>ws.getD i .cY)))
theorem BG{G:List D->Prop}(hG:∀ds,G ds->cz ds=true/\∃kd,ds.length<=cK->∀bA,SG X.prog X.w X.A ds kd bA):oU X (.builtin "sorted") (Wd X.K C G):=by
 intro pins s σ H xs us Q I r ⟨a,ws,ds,e,h2,h3,S,q⟩
 subst e
 refine aY (vals1 r) fun u jx rv=>?_
 obtain rfl:=jx
 obtain rfl:u = .ref a:=rv
 refine cI (I.list h2) fun bA r1 pl hz=>?_
 obtain ⟨ff,kd,sg⟩:=hG ds S
 have ld:bA.length=ds.length:=by rw[<- r1.length,h3.len]
 have lw:ws.length=ds.length:=h3.len
 refine vA (Pd:=fun es Ue vs=>es=ds/\Ue=kd/\vs=bA) (fun es Ue vs hp=>?_) (fun R hR=>?_) fun h1 h' tk es Ue vs L n pm k1 k2 hp hd hL iF hs ho=>?_
 ·obtain ⟨rfl,rfl,rfl⟩:=hp
  exact sg (by rw[<- lw];exact hz) _
 ·refine collect_list (vs:=bA) (s:=s) pl.isList ?_ (by rw[<- r1.length];exact hz)
  have keep:∀b ob,s.heap.get? b=some ob->((s.heap.push (cj "list" #[] 0)).update s.heap.objs.size (cX (· ++ bA.toArray))).get? b=some ob:=fun b ob e=>by
   rw[EV _ _ _ _ (di (bX e))]
   exact bQ _ e
  exact hR _ s.toks ds kd bA keep ⟨rfl,rfl,rfl⟩ ((Inv.Di I ds ff h3 r1).keep keep)
 ·obtain ⟨rfl,rfl,rfl⟩:=hp
  have lp:pm.length=es.length:=by
   have:=congrArg List.length hs
   rw[bh,(cR es).length_eq] at this
   exact this.symm
  exact yd I k1 k2 hL ho (wm r1 pm fun i hi=>by rw[lw];exact iF i hi) (by rw[bh,lp,<- lw];exact hz) fun hn=>q L pm hn iF hs
theorem BH(hu:X.A.units+64 < cLine):oU X (.builtin "sorted") (Ob X.K C):=by
 intro pins s σ H xs us Q I r ⟨v,ds,e,h1,S,q⟩
 subst e
 obtain ⟨a,ws,rfl,h2,h3⟩:=h1.items
 exact BG (G:=sS) (fun ds S=>⟨zg S.iG,S.kd.imp fun kd sk _ bA=>sgS sk S.sP S.iG S.nl fun a ha=>by have:=S.dep a ha;lia⟩) pins s σ H _ us Q I r ⟨a,ws,ds,rfl,h2,h3,S,fun p pm hn iF hs=>q p _ hn (by rw[hs];exact wo h3 pm iF)⟩
end
end Dm
end ax9
section ay0
namespace Dm
open PySem PyProof.Rows L2 PySem.SeqAt Ts Tb
theorem ye(h:ItemsAre (intKind prog w) ks vs):∀v∈vs,∃i t,v=J5 i t:=by
 induction h with
 | nil=>intro v hv;cases hv
 | cons h1 _ ih=>
  intro v hv
  rcases bP.mp hv with rfl | hv
  ·obtain ⟨t,e⟩:=YL h1
   exact⟨_,t,e⟩
  ·exact ih v hv
def tupS(prog:dh)(w:bN):p9 prog w (List Int) where
 toHeapKind:=tupleKind (intKind prog w)
 O2:=fun {A E s k a Q} hk h=>by
  have hT:=hk.typeIs
  refine QG hk fun o items n ho _ hd hi=>?_
  clear hk
  unfold ofAClassStatement
  refine ah (AJ hT ?_)
  dsimp only
  rw[aH2 (by decide)]
  refine ah (aA ?_)
  simp only[j5,cZ,aI0]
  refine ah (EM ho hd ?_)
  dsimp only
  refine ah ?_
  rw[<- xm]
  refine lR _ (fun rest r s'=>r.1=none/\s'=s/\∀v∈rest,∃i t,v=J5 i t) _ ?_ ?_ _ _ ⟨rfl,rfl,ye hi⟩
  ·rintro v rest r s' ⟨hr,rfl,oX⟩
   refine rW (oX v vn) fun i t bx=>?_
   walk_at"$"
   unfold ofAClassStatement
   refine ah (aA ?_)
   simp only[cZ,aI0]
   exact aA ⟨rfl,rfl,fun u hu=>oX u (oG _ hu)⟩
  ·rintro ⟨r1,r2⟩ s' ⟨hr,rfl,_⟩
   simp only at hr
   subst hr
   exact aA h
 Us:=fun {A E s k a Q} hk h=>by
  have hT:=hk.typeIs
  refine QG hk fun o items n ho _ hd hi=>?_
  clear hk
  unfold hashByValue
  refine ah (oB hT MJ.lookup ?_)
  dsimp only
  refine ah (EM ho hd ?_)
  dsimp only[Option.getD]
  refine ah ?_
  rw[<- xm]
  refine lR _ (fun rest r s'=>r.1=none/\s'=s/\∀v∈rest,∃i t,v=J5 i t) _ ?_ ?_ _ _ ⟨rfl,rfl,ye hi⟩
  ·rintro v rest r s' ⟨hr,rfl,oX⟩
   refine rW (oX v vn) fun i t bx=>?_
   walk_at"$"
   unfold hashByValue
   refine ah (aA ?_)
   simp only[j5,cZ,aI0]
   exact aA ⟨rfl,rfl,fun u hu=>oX u (oG _ hu)⟩
  ·rintro ⟨r1,r2⟩ s' ⟨hr,rfl,_⟩
   simp only at hr
   subst hr
   exact aA h
 mono:=fun hk e=>by
  refine QG hk fun o items n ho hc hd hi=>?_
  clear hk
  exact⟨o,items,n,e _ _ ho hc,hc,hd,hi⟩
theorem Dk:∀{ns:List Int} {vs:List aq},bG h (ns.map D.int) vs->ItemsAre (intKind prog w) ns vs
 | [],_,q=>by rw[lU,bG] at q;subst q;exact .nil
 | n::ns,_,q=>by
  rw[aZ,bG] at q
  refine bF q fun v r bx a b=>?_
  clear q
  walk_at"$"
  rw[fG] at a
  obtain ⟨t,rfl⟩:=a
  exact .cons (by show Value.isInt n (.int n t)=true;simp[Value.isInt]) (Dk b)
theorem ag3{ns:List Int}(q:fG h (.tup (ns.map D.int)) (.ref a)):(tupS prog w).is h ns a:=by
 rw[fG] at q
 refine bF q fun b it e sf p=>?_
 clear q
 obtain ⟨o,h1,h2,n,h3⟩:=sf
 obtain rfl:a=b:=by injection e
 exact⟨o,it,n,h1,h2,h3,Dk p⟩
def Oc(prog:dh)(w:bN)(a:av)(zs:List (List Int×av))(h:aX):Prop:=
 ∃o ep t,h.get? a=some o/\o.ExactSet/\o.data = .set (zs.map (entry (tupS prog w))).toArray ep t/\Good t zs.length/\Paths t (fun i=>((zs.map (entry (tupS prog w))).toArray[i]?.map (·.1)).getD 0) zs.length/\
  t.led=j9 w/\t.plain=true/\zs.length * 5 < t.mask * 3/\(zs.map (·.1)).Nodup
section
def Members(K:aD)(H:Hp)(zs:List (List Int×av)):Prop:=∀z∈zs,mF K H z.2 (z.1.map V.int)
def Ij(X:Cx)(C:Cfg):List V->Hp->VK->Prop:=fun xs H Q=>∃(v:V) (kB:List (List Int)),xs=[v]/\Rep X.K C H (.lst (kB.map fun ns=>.tup (ns.map D.int))) v/\kB.length<=50/\
 ∀p zs,H p=none->Members X.K H zs->(zs.map (·.1)).Nodup->(∀ns,ns∈zs.map (·.1)↔ns∈kB)->Q (.ref p) (upd H p (.ext (Oc X.prog X.w p zs)))
theorem A8{K:aD}{H:Hp}:∀{kB:List (List Int)} {ws:List V},aM K C H (kB.map fun ns=>.tup (ns.map D.int)) ws->∃ys:List (List Int×av),ys.map (·.1)=kB/\ws=(ys.map fun y=>V.ref y.2)/\Members K H ys
 | [],_,q=>by rw[lU,aM] at q;subst q;exact⟨[],rfl,rfl,fun z hz=>by cases hz⟩
 | ns::kB,_,q=>by
  rw[aZ,aM] at q
  refine bF q fun v r bx a b=>?_
  clear q
  walk_at"$"
  refine cI (A8 b) fun ys e1 e2 m=>?_
  rw[Rep] at a
  refine bF a fun ad xs bx t p=>?_
  clear a
  walk_at"$"
  have exs:xs=ns.map V.int:=by
   clear t
   induction ns generalizing xs with
   | nil=>rw[lU,aM] at p;exact p
   | cons n ns ih=>
    rw[aZ,aM] at p
    refine bF p fun v r' bx a1 a2=>?_
    clear p
    walk_at"$"
    rw[Rep] at a1
    rw[a1,ih _ a2];rfl
  subst exs
  refine⟨(ns,ad)::ys,by rw[aZ,e1],by rw[aZ,e2],fun z hz=>?_⟩
  rcases bP.mp hz with rfl | hz
  ·exact t
  ·exact m z hz
theorem Od(I:L2.Inv X pins σ H s){z:List Int×av}(h:mF X.K H z.2 (z.1.map V.int)):(tupS X.prog X.w).is s.heap z.1 z.2:=by
 refine ag3 ?_
 refine Inv.dat (C:=ag2) I _ (v:=V.ref z.2) ?_ ?_ rfl
 ·rw[flat]
  exact iP fun d hd=>by
   refine aY (aS.mp hd) fun n _ bx=>?_
   walk_at"$"
   rw[flat] <;> simp
 ·rw[Rep]
  exact⟨z.2,_,rfl,h,aM.ints z.1⟩
theorem A9:∀{ys:List (List Int×av)},Vals (ys.map fun y=>V.ref y.2) vs->vs=ys.map fun y=>eW y.2
 | [],r=>by cases r;rfl
 | y::ys,r=>by
  cases r with
  | cons r1 r2=>
   rw[aZ,A9 r2]
   congr 1
theorem JE(hh:X.A.handled=none)(hu:X.A.units+64 < cLine):oU X (.type "set") (Ij X C):=by
 intro pins s σ H xs us Q I r ⟨v,kB,e,h1,hn,q⟩
 subst e
 refine aY (vals1 r) fun u jx rv=>?_
 obtain rfl:=jx
 have h1:=h1.items
 refine bF h1 fun a ws bx h2 h3=>?_
 clear h1
 walk_at"$"
 obtain rfl:u = .ref a:=rv
 refine cI (I.list h2) fun bA r1 pl hz=>?_
 refine cI (A8 h3) fun ys e1 e2 m=>?_
 subst e2
 obtain rfl:=A9 r1
 have ly:ys.length=kB.length:=by rw[<- e1,bh]
 refine O7 (κ:=tupS X.prog X.w) (ys:=ys) hh (by show X.A.units+1+1+1 < cLine;lia) pl.isList (by lia) (fun y hy=>Od I (m y hy)) fun h' tk o ep t zs k S m1 m2=>?_
 have hf:H s.heap.objs.size=none:=I.fB.fresh (bf _)
 refine⟨.ref s.heap.objs.size,upd H s.heap.objs.size (.ext (Oc X.prog X.w s.heap.objs.size zs)),I.laid (t':=tk) k (bf _) ?_,rfl,q _ zs hf (fun z hz=>m z (m1 z hz)) S.keys fun ns=>?_⟩
 ·refine⟨⟨o,ep,t,S.obj,S.nE,S.data,S.good,S.Ia,S.JA,S.plain,S.sP,S.keys⟩,⟨o,S.obj⟩,?_⟩
  rintro h1 h2 ⟨o',Bb,t',q1,q2⟩ ke
  exact⟨o',Bb,t',ke _ q1,q2⟩
 ·constructor
  ·intro hm
   refine aY (aS.mp hm) fun z hz bx=>?_
   walk_at"$"
   rw[<- e1]
   exact aS.mpr ⟨z,m1 z hz,rfl⟩
  ·intro hm
   rw[<- e1] at hm
   refine aY (aS.mp hm) fun y hy bx=>?_
   walk_at"$"
   exact m2 y hy
def Rows(kB:List (List Int)):Prop:=∃n,∀ns∈kB,ns.length=n+1
theorem uP:∀{a b:List Int},a.length=b.length->gk (a.map D.int) (b.map D.int)=true
 | [],[],_=>by simp[gk]
 | x::a,y::b,h=>by
  rw[aZ,aZ,gk,uP (by simpa using h)]
  simp[iG]
theorem Dl:∀a:List Int,HU (a.map D.int)=true
 | []=>by simp[HU]
 | x::a=>by rw[aZ,HU,Dl a];simp[nl]
theorem JF(a:List Int):kr (a.map D.int)=0:=by
 have:kr (a.map D.int)<=0:=sE fun d hd=>by
  refine aY (aS.mp hd) fun n _ bx=>?_
  walk_at"$"
  rw[dep] <;> simp
 lia
theorem zh(h:Rows kB)(sP:kB.length < 64):sS (kB.map fun ns=>.tup (ns.map D.int)):=by
 obtain ⟨n,hn⟩:=h
 have mem:∀d∈kB.map (fun ns=>D.tup (ns.map D.int)),∃ns∈kB,d = .tup (ns.map D.int):=fun d hd=>by
  refine aY (aS.mp hd) fun ns h1 h2=>?_
  exact⟨ns,h1,h2.symm⟩
 refine⟨⟨_,.oS fun d hd=>?_⟩,by rw[bh];exact sP,fun a ha b hb=>?_,fun a ha=>?_,fun a ha=>?_⟩
 ·refine aY (mem d hd) fun ns h1 bx=>?_
  walk_at"$"
  have:=hn ns h1
  match ns,this with
  | i::r,_=>exact⟨i,r.map D.int,rfl⟩
 ·refine aY (mem a ha) fun ns h1 bx=>?_
  walk_at"$"
  refine aY (mem b hb) fun ms h2 bx=>?_
  walk_at"$"
  rw[iG]
  exact uP (by rw[hn ns h1,hn ms h2])
 ·refine aY (mem a ha) fun ns h1 bx=>?_
  walk_at"$"
  rw[nl];exact Dl ns
 ·refine aY (mem a ha) fun ns h1 bx=>?_
  walk_at"$"
  rw[dep,JF];decide
def Gw(X:Cx)(C:Cfg):List V->Hp->VK->Prop:=fun xs H Q=>∃a zs,xs=[.ref a]/\H a=some (.ext (Oc X.prog X.w a zs))/\Members X.K H zs/\zs.length<=50/\Rows (zs.map (·.1))/\
 ∀p ws (es:List (List Int)),H p=none->es.Perm (zs.map (·.1))->aM X.K C H (gq (es.map fun ns=>.tup (ns.map D.int))) ws->Q (.ref p) (upd H p (.lst ws))
theorem JG:∀{l:List α} {m:List β},m.Perm (l.map f)->∃l':List α,l'.Perm l/\m=l'.map f:=by
 intro l m h
 generalize e:l.map f=k at h
 induction h generalizing l with
 | nil=>
  exact⟨l,.refl _,e.symm⟩
 | cons x _ ih=>
  match l,e with
  | a::l,e=>
   rw[aZ] at e
   injection e with e1 e2
   refine aY (ih e2) fun l' p q=>?_
   exact⟨a::l',p.cons a,by rw[aZ,e1,q]⟩
 | swap x y k=>
  match l,e with
  | a::b::l,e=>
   rw[aZ,aZ] at e
   injection e with e1 e2
   injection e2 with e2 e3
   exact⟨b::a::l,.swap a b l,by rw[aZ,aZ,e1,e2,e3]⟩
 | trans _ _ ih1 ih2=>
  refine aY (ih2 e) fun l1 p1 q1=>?_
  refine aY (ih1 q1.symm) fun l2 p2 q2=>?_
  exact⟨l2,p2.trans p1,q2⟩
theorem BI(hh:X.A.handled=none)(hu:X.A.units+64 < cLine):oU X (.builtin "sorted") (Gw X C):=by
 intro pins s σ H xs us Q I r ⟨a,zs,e,h1,hm,hn,hr,q⟩
 subst e
 refine aY (vals1 r) fun u jx rv=>?_
 obtain rfl:=jx
 obtain rfl:u = .ref a:=rv
 refine z7 (I.fB a _ h1) fun zo0 _ _=>?_
 obtain ⟨o,ep,t,g1,g2,g3,g4,g5,g6,g7,g8,g9⟩:=zo0
 have S:jc (tupS X.prog X.w) s.heap a (j9 X.w) zs o ep t:=⟨g1,g2,g3,g4,g5,g6,g7,g8,g9,fun x hx=>Od I (hm x hx)⟩
 refine vA (Pd:=fun es kd vs=>kd=tuples' true/\∃l:List (List Int×av),l.Perm zs/\es=(l.map fun y=>.tup (y.1.map D.int))/\vs=l.map fun y=>eW y.2) (fun es kd vs hp=>?_) (fun R hR=>?_) fun h1 h' tk es kd vs L n pm k1 k2 hp hd hL iF hs ho=>?_
 ·obtain ⟨rfl,l,p,rfl,rfl⟩:=hp
  obtain ⟨m,Cr⟩:=hr
  have rows:Rows (l.map (·.1)):=⟨m,fun ns hns=>Cr ns ((p.map _).mem_iff.mp hns)⟩
  have so:=zh rows (by rw[bh,p.length_eq];lia)
  rw[dD] at so
  refine sgS (.oS fun d hd=>?_) so.sP so.iG so.nl fun a ha=>by have:=so.dep a ha;lia
  refine aY (aS.mp hd) fun y hy bx=>?_
  walk_at"$"
  have:=Cr y.1 (aS.mpr ⟨y,p.mem_iff.mp hy,rfl⟩)
  match h:y.1,this with
  | i::r,_=>exact⟨i,r.map D.int,rfl⟩
 ·refine Dh (κ:=tupS X.prog X.w) hh S hn fun h' tk vs k pv=>?_
  refine aY (JG pv) fun l p bx=>?_
  walk_at"$"
  refine hR h' tk _ _ _ k ⟨rfl,l,p,rfl,rfl⟩ (bG.of_map _ _ l fun y hy=>fG.keep k _ ?_)
  have t:=hm y (p.mem_iff.mp hy)
  refine Inv.dat (C:=ag2) I _ (v:=V.ref y.2) ?_ ?_ rfl
  ·rw[flat]
   exact iP fun d hd=>by
    refine aY (aS.mp hd) fun n _ bx=>?_
    walk_at"$"
    rw[flat] <;> simp
  ·rw[Rep]
   exact⟨y.2,_,rfl,t,aM.ints y.1⟩
 ·obtain ⟨rfl,l,p,rfl,rfl⟩:=hp
  have ll:l.length<=50:=by rw[p.length_eq];exact hn
  have lp:pm.length=l.length:=by
   have:=congrArg List.length hs
   rw[bh,(cR _).length_eq,bh] at this
   exact this.symm
  have rv:∀l:List (List Int×av),Vals (l.map fun y=>V.ref y.2) (l.map fun y=>eW y.2):=fun l=>by
   induction l with
   | nil=>exact .nil
   | cons y l ih=>exact .cons rfl ih
  have lt':∀i∈pm,i < l.length:=fun i hi=>by have:=iF i hi;rwa [bh] at this
  have rp:aM X.K C H (l.map fun y=>.tup (y.1.map D.int)) (l.map fun y=>V.ref y.2):=by
   have hm2:∀y∈l,mF X.K H y.2 (y.1.map V.int):=fun y hy=>hm y (p.mem_iff.mp hy)
   clear hs iF lt' lp hd ho p ll
   induction l with
   | nil=>exact .nil
   | cons y l ih=>
    refine .cons ?_ (ih fun z hz=>hm2 z (oG _ hz))
    rw[Rep]
    exact⟨y.2,_,rfl,hm2 y vn,aM.ints y.1⟩
  have big:64<=cK:=by rw[gn];decide
  refine yd I k1 k2 hL ho (wm (rv l) pm fun i hi=>by rw[bh];exact lt' i hi) (by rw[bh,lp];lia) fun xE=>q L _ (l.map (·.1)) xE (p.map _) ?_
  rw[dD]
  show aM X.K C H (gq (l.map fun y=>.tup (y.1.map D.int))) _
  rw[hs]
  exact wo rp pm iF
end
end Dm
end ay0
section ay1
namespace Dm
open PySem PySem.Spec PyProof.Rows L2
inductive R(α:Type) where
 | ok (a:α) | ex (c:av) (p:Option Int) | bad
def R.bind{α β:Type}(r:R α)(f:α->R β):R β:=match r with | .ok a=>f a | .ex c p=>.ex c p | .bad=>.bad
abbrev ig:=List (Option D)
abbrev DF:=ig->R D
abbrev DA:=ig->R (List D)
inductive Out where
 | nx (st:ig) | rt (d:D) | bk (st:ig) | ct (st:ig) | ex (c:av) (p:Option Int) (st:ig) | bad
abbrev DS:=ig->Out
def KU(E:XK)(c:av)(p:Option Int)(H:Hp):Prop:=match p with
 | none=>E (.ref c) none H
 | some n=>∀dx,H dx=some (.xd [("at",.int n)])->E (.ref c) (some dx) H
def sU:Option HO->Bool
 | none=>true
 | some (.tup _)=>true
 | some (.CA _ (.tup _))=>true
 | _=>false
def nw(G H:Hp):Hp:=fun a=>if sU (G a)=true then H a else none
theorem dw(G H:Hp):aH (nw G H) H:=fun b o h=>by
 unfold nw at h;split at h
 ·exact h
 ·cases h
theorem bO(e:aH H H'):aH (nw G H) (nw G H'):=fun b o h=>by
 unfold nw at h ⊢;split at h
 ·rename_i q;rw[aH2 q];exact e b o h
 ·cases h
theorem nG(e:aH G G')(h:sU (G' a)=true):sU (G a)=true:=by
 cases q:G a with
 | none=>rfl
 | some o=>rw[e a o q] at h;exact h
theorem wu(e:aH G G'):aH (nw G' H) (nw G H):=fun b o h=>by
 unfold nw at h ⊢;split at h
 ·rename_i q;rw[aH2 (nG e q)];exact h
 ·cases h
theorem kX(h:G a=none):nw G H a=H a:=by unfold nw;rw[h];rfl
def kY(H G:Hp):Prop:=aH G H/\∀a xs,Rd H a (.tup xs)->Rd G a (.tup xs)
theorem kY.trans(a:kY H G)(b:kY G F):kY H F:=⟨b.1.trans a.1,fun x xs h=>b.2 x xs (a.2 x xs h)⟩
theorem kY.nw(e:aH G H):kY H (nw G H):=⟨dw _ _,fun a xs h=>by
 have k:sU (G a)=true:=by
  cases q:G a with
  | none=>rfl
  | some o=>
   have:=e a o q
   rcases h with h | ⟨u,h⟩
   ·rw[h] at this;cases this;rfl
   ·rw[h] at this;cases this;rfl
 unfold Rd Dm.nw
 rw[aH2 k];exact h⟩
def We:HO->Bool
 | .lst _=>true
 | .ext _=>true
 | _=>false
theorem kY.er(h:∀a∈A,∃o,H a=some o/\We o=true):kY H (er H A):=⟨aL _ _,fun a xs r=>by
 have k:a∉A:=fun m=>by
  obtain ⟨o,q,z⟩:=h a m
  rcases r with r | ⟨u,r⟩
  ·rw[q] at r;cases r;cases z
  ·rw[q] at r;cases r;cases z
 unfold Rd
 rw[b9 k];exact r⟩
mutual
def gM:D->Bool
 | .tup ds=>ez ds
 | .lst _=>false
 | .bM _ _=>false
 | _=>true
def ez:List D->Bool
 | []=>true
 | d::ds=>gM d&&ez ds
end
theorem kZ:∀{ds:List D} {d:D},ez ds=true->d∈ds->gM d=true
 | _::_,_,h,.head _=>by rw[ez,cu] at h;exact h.1
 | _::ds,_,h,.tail _ m=>by rw[ez,cu] at h;exact kZ h.2 m
theorem fM:∀{ds:List D},(∀d∈ds,gM d=true)->ez ds=true
 | [],_=>rfl
 | d::ds,h=>by rw[ez,cu];exact⟨h d (.head _),fM fun x hx=>h x (.tail _ hx)⟩
section
variable {K:aD}{C:Cfg}{H G:Hp}
theorem kY.sq(k:kY H G)(h:mF K H a xs):mF K G a xs:=by
 rcases h with h | h
 ·exact .inl (k.2 a xs h)
 ·exact .inr h
mutual
theorem Rep.part(k:kY H G):∀(d:D) {v:V},gM d=true->Rep K C H d v->Rep K C G d v
 | .cY,v,_,q=>by rw[Rep] at q ⊢;exact q
 | .bl b,v,_,q=>by rw[Rep] at q ⊢;exact q
 | .int i,v,_,q=>by rw[Rep] at q ⊢;exact q
 | .str x,v,_,q=>by rw[Rep] at q ⊢;exact q
 | .tup ds,v,n,q=>by
  rw[Rep] at q ⊢
  rw[gM] at n
  refine bF q fun a xs h1 h2 h3=>?_
  clear q
  exact⟨a,xs,h1,k.sq h2,aM.part k ds n h3⟩
 | .lst ds,v,n,q=>by rw[gM] at n;cases n
 | .bM t ds,v,n,q=>by rw[gM] at n;cases n
theorem aM.part(k:kY H G):∀(ds:List D) {vs:List V},ez ds=true->aM K C H ds vs->aM K C G ds vs
 | [],_,_,q=>by rw[aM] at q ⊢;exact q
 | d::ds,_,n,q=>by
  rw[aM] at q ⊢
  rw[ez,cu] at n
  refine bF q fun v r e1 a b=>?_
  clear q
  exact⟨v,r,e1,Rep.part k d n.1 a,aM.part k ds n.2 b⟩
end
end
inductive Kd where
 | new | uQ | loc | old | qg | aO
inductive SK where
 | par | loc | own (n:Bool) | any | pr
def nH:D->Bool
 | .lst _=>true
 | .bM t _=>t==2
 | _=>false
def lC(K:aD)(C:Cfg)(F H:Hp)(p:av):D->Prop
 | .lst ds=>∃xs,H p=some (.lst xs)/\aM K C F ds xs
 | .bM t ds=>t=2/\∃xs,C.own K F H p xs/\aM K C F ds xs
 | _=>False
section
variable {K:aD}{C:Cfg}{F F' H H':Hp}{p:av}
theorem lC.We:∀{d:D},lC K C F H p d->∃o,H p=some o/\Dm.We o=true
 | .lst _,h=>let ⟨_,e,_⟩:=h;⟨_,e,rfl⟩
 | .bM _ _,h=>let ⟨_,_,e,_⟩:=h;let ⟨_,q⟩:=C.ag1 e;⟨_,q,rfl⟩
theorem lC.nH:∀{d:D},lC K C F H p d->Dm.nH d=true
 | .lst _,_=>rfl
 | .bM _ _,h=>by rw[Dm.nH,h.1];rfl
theorem lC.mono(f:aH F F')(e:H' p=H p):∀{d:D},lC K C F H p d->lC K C F' H' p d
 | .lst _,h=>let ⟨xs,a,b⟩:=h;⟨xs,e.trans a,b.same f _⟩
 | .bM _ _,h=>let ⟨t,xs,a,b⟩:=h;⟨t,xs,C.Ii f e a,b.same f _⟩
theorem lC.later(f:aH F F')(e:aH H H')(h:lC K C F H p d):lC K C F' H' p d:=by
 obtain ⟨o,q,_⟩:=h.We
 exact h.mono f ((e _ _ q).trans q.symm)
theorem lC.rep(f:aH F (er G [p]))(e:G p=H p):∀{d:D},lC K C F H p d->Rep K C G d (.ref p)
 | .lst _,h=>by obtain ⟨xs,a,b⟩:=h;rw[Rep];exact⟨p,xs,rfl,.of (e.trans a),b.same f _⟩
 | .bM _ _,h=>by obtain ⟨rfl,xs,a,b⟩:=h;rw[Rep];exact⟨p,xs,rfl,C.Uu a (f.trans (aL _ _)) e,b.same (f.trans (aL _ _)) _⟩
end
def pC(K:aD)(C:Cfg)(G F:Hp)(d:D)(v:V):Prop:=∀s ds,d = .tup [.str s,.lst ds]->∃q p xs,v = .ref q/\mF K F q [.str s,.ref p]/\G p=none/\F p=some (.lst xs)/\aM K C (er F [p]) ds xs
def qh:D->Bool
 | .tup [.str _,.lst _]=>false
 | _=>true
theorem pC.not{K:aD}{C:Cfg}{G F:Hp}{d:D}{v:V}(n:qh d=true):pC K C G F d v:=fun s ds z=>by subst z;cases n
theorem pC.mono{K:aD}{C:Cfg}{G F F':Hp}{d:D}{v:V}(f:aH F F')(t:pC K C G F d v):pC K C G F' d v:=fun s ds h=>by
 refine Cy (t s ds h) fun q p xs a b c e g=>?_
 exact⟨q,p,xs,a,aH.tup f b,c,f _ _ e,g.same (aI f) _⟩
theorem pC.early{K:aD}{C:Cfg}{G G' F:Hp}{d:D}{v:V}(e:aH G G')(t:pC K C G' F d v):pC K C G F d v:=fun s ds h=>by
 refine V0 (t s ds h) fun q p xs a b c=>?_
 exact⟨q,p,xs,a,b,e.free c.1,c.2⟩
def nI(K:aD)(C:Cfg)(G F:Hp)(d:D)(v:V):Prop:=(nH d=true->∃p,v = .ref p/\G p=none/\lC K C (er F [p]) F p d)/\pC K C G F d v
section
variable (K:aD)(C:Cfg)
def Val(κ:Kd)(G0:Hp)(A:List av)(H H':Hp)(d:D)(v:V):Prop:=match κ with
 | .new=>Rep K C (nw H H') d v/\nI K C H (nw H H') d v
 | .uQ=>Rep K C (er H' A) d v/\nI K C H (er H' A) d v
 | .loc=>Rep K C (nw G0 (er H' A)) d v/\nI K C G0 (nw G0 (er H' A)) d v
 | .old=>Rep K C (er H' A) d v
 | .qg=>Rep K C (nw G0 H') d v/\nI K C G0 (nw G0 H') d v
 | .aO=>Rep K C H' d v
def eh(n:Bool)(G0:Hp)(A:List av)(H:Hp):Hp:=if n=true then nw G0 (er H A) else er H A
def Slot(k:SK)(G0:Hp)(A:List av)(H:Hp)(d:D)(v:V):Prop:=match k with
 | .par=>Rep K C (er H A) d v
 | .loc=>Rep K C (nw G0 (er H A)) d v/\nI K C G0 (nw G0 (er H A)) d v
 | .own n=>(∃p,v = .ref p/\p∈A/\G0 p=none/\lC K C (eh n G0 A H) H p d)\/(nH d=false/\pC K C G0 (eh n G0 A H) d v/\Rep K C (eh n G0 A H) d v)
 | .any=>Rep K C H d v
 | .pr=>(∃q p s ds xs,d = .tup [.str s,.lst ds]/\v = .ref q/\mF K (er H A) q [.str s,.ref p]/\p∈A/\G0 p=none/\H p=some (.lst xs)/\aM K C (er H A) ds xs)\/(qh d=true/\Rep K C (er H A) d v)
structure RS(G0:Hp)(Γ:List SK)(σ:L2.St)(H:Hp)(A:List av)(st:ig):Prop where
 base:aH G0 (er H A)
 lists:∀a∈A,∃o,H a=some o/\We o=true
 len:σ.length=st.length
 slot:∀(i:Nat) (d:D),st[i]?=some (some d)->∃k v,Γ[i]?=some k/\σ[i]?=some (some v)/\Slot K C k G0 A H d v
 apart:∀(i j:Nat) (n m:Bool) (p:av) (d e:D),i≠j->Γ[i]?=some (.own n)->Γ[j]?=some (.own m)->st[i]?=some (some d)->st[j]?=some (some e)->nH d=true->nH e=true->σ[i]?=some (some (.ref p))->σ[j]?≠some (some (.ref p))
 gl:C.gl G0
end
section
variable {K:aD}{C:Cfg}{G0:Hp}{Γ:List SK}{σ:L2.St}{H H' YE H1:Hp}{A:List av}{st:ig}{κ:Kd}{d:D}{v:V}
theorem nI.mono(f:aH F F')(t:nI K C G F d v):nI K C G F' d v:=⟨fun h=>by
 refine cI (t.1 h) fun p a b c=>?_
 exact⟨p,a,b,c.later (aI f) f⟩,t.2.mono f⟩
theorem nI.early(e:aH G G')(t:nI K C G' F d v):nI K C G F d v:=⟨fun h=>by
 refine cI (t.1 h) fun p a b c=>?_
 exact⟨p,a,e.free b,c⟩,t.2.early e⟩
theorem Oe:∀{d:D},gM d=true->nH d=false
 | .lst _,h=>by rw[gM] at h;cases h
 | .bM _ _,h=>by rw[gM] at h;cases h
 | .cY,_=>rfl
 | .bl _,_=>rfl
 | .int _,_=>rfl
 | .str _,_=>rfl
 | .tup _,_=>rfl
theorem nI.not(n:nH d=false)(m:qh d=true):nI K C G F d v:=⟨fun h=>(by rw[n] at h;cases h),.not m⟩
theorem nI.gM(n:gM d=true):nI K C G F d v:=⟨fun h=>(by rw[Oe n] at h;cases h),fun s ds z=>by subst z;simp[Dm.gM,ez] at n⟩
theorem Val.later(e:aH H' YE)(q:Val K C κ G0 A H H' d v):Val K C κ G0 A H YE d v:=by
 cases κ with
 | new=>exact⟨q.1.same (bO e) _,q.2.mono (bO e)⟩
 | uQ=>exact⟨q.1.same (aI e) _,q.2.mono (aI e)⟩
 | loc=>exact⟨q.1.same (bO (aI e)) _,q.2.mono (bO (aI e))⟩
 | old=>exact Rep.same (aI e) _ q
 | qg=>exact⟨q.1.same (bO e) _,q.2.mono (bO e)⟩
 | aO=>exact Rep.same e _ q
theorem Val.early(e:aH H H1)(q:Val K C κ G0 A H1 H' d v):Val K C κ G0 A H H' d v:=by
 cases κ with
 | new=>exact⟨q.1.same (wu e) _,(q.2.early e).mono (wu e)⟩
 | uQ=>exact⟨q.1,q.2.early e⟩
 | loc=>exact q
 | old=>exact q
 | qg=>exact q
 | aO=>exact q
theorem Val.rep(q:Val K C κ G0 A H H' d v):Rep K C H' d v:=by
 cases κ with
 | new=>exact q.1.same (dw _ _) _
 | uQ=>exact q.1.same (aL _ _) _
 | loc=>exact q.1.same ((dw _ _).trans (aL _ _)) _
 | old=>exact Rep.same (aL _ _) _ q
 | qg=>exact q.1.same (dw _ _) _
 | aO=>exact q
theorem RS.mono(r:RS K C G0 Γ σ H A st)(e:aH H H'):RS K C G0 Γ σ H' A st where
 base:=r.base.trans (aI e)
 lists:=fun a m=>let ⟨o,h,z⟩:=r.lists a m;⟨o,e _ _ h,z⟩
 len:=r.len
 slot:=fun i d h=>by
  refine bF (r.slot i d h) fun k v h1 h2 h3=>?_
  refine⟨k,v,h1,h2,?_⟩
  have ee:∀n,aH (eh n G0 A H) (eh n G0 A H'):=fun n=>by
   unfold eh;cases n
   ·exact aI e
   ·exact bO (aI e)
  cases k with
  | par=>exact Rep.same (aI e) _ h3
  | loc=>exact⟨h3.1.same (bO (aI e)) _,h3.2.mono (bO (aI e))⟩
  | own n=>
   rcases h3 with ⟨p,b,c,f,g⟩ | ⟨a,b⟩
   ·exact .inl ⟨p,b,c,f,g.later (ee n) e⟩
   ·exact .inr ⟨a,b.1.mono (ee n),b.2.same (ee n) _⟩
  | pr=>
   rcases h3 with ⟨q,p,s,ds,xs,a,b,c,f,g,h,j⟩ | ⟨a,b⟩
   ·exact .inl ⟨q,p,s,ds,xs,a,b,aH.tup (aI e) c,f,g,e _ _ h,j.same (aI e) _⟩
   ·exact .inr ⟨a,Rep.same (aI e) _ b⟩
  | any=>exact Rep.same e _ h3
 apart:=r.apart
 gl:=r.gl
theorem RS.g0(r:RS K C G0 Γ σ H A st):aH G0 H:=r.base.trans (aL _ _)
theorem RS.Dp(r:RS K C G0 Γ σ H A st):kY H (er H A):=.er r.lists
theorem RS.sU(r:RS K C G0 Γ σ H A st):kY H (nw G0 (er H A)):=r.Dp.trans (.nw r.base)
theorem Val.flat(r:RS K C G0 Γ σ H A st)(e:aH H H')(n:gM d=true)(q:Rep K C H' d v)(κ:Kd):Val K C κ G0 A H H' d v:=by
 have r':=r.mono e
 cases κ with
 | new=>exact⟨q.part (.nw e) _ n,.gM n⟩
 | uQ=>exact⟨q.part r'.Dp _ n,.gM n⟩
 | loc=>exact⟨q.part r'.sU _ n,.gM n⟩
 | old=>exact Rep.part r'.Dp _ n q
 | qg=>exact⟨q.part (.nw r'.g0) _ n,.gM n⟩
 | aO=>exact q
theorem RS.yf(r:RS K C G0 Γ σ H A st)(e:aH H H'):aH (nw H H') (er H' A):=fun b o h=>by
 unfold nw at h;split at h
 ·rename_i q
  have:b∉A:=fun m=>by
   obtain ⟨o,hx,z⟩:=r.lists b m
   rw[hx] at q
   cases o with
   | lst _=>cases q
   | ext _=>cases q
   | _=>cases z
  rw[b9 this];exact h
 ·cases h
theorem RS.RC(r:RS K C G0 Γ σ H A st)(e:aH H H'):aH (nw H H') (nw G0 (er H' A)):=fun b o h=>by
 have h1:=r.yf e b o h
 unfold nw at h;split at h
 ·rename_i q
  unfold nw
  rw[aH2 (nG r.g0 q)];exact h1
 ·cases h
def Kd.le:Kd->Kd->Bool
 | .new,_=>true
 | .uQ,.uQ=>true | .uQ,.old=>true | .uQ,.aO=>true
 | .loc,.loc=>true | .loc,.old=>true | .loc,.qg=>true | .loc,.aO=>true
 | .old,.old=>true | .old,.aO=>true
 | .qg,.qg=>true | .qg,.aO=>true
 | .aO,.aO=>true
 | _,_=>false
theorem Val.le(r:RS K C G0 Γ σ H A st)(e:aH H H'){κ:Kd}(l:κ.le κ'=true)(q:Val K C κ G0 A H H' d v):Val K C κ' G0 A H H' d v:=by
 have ne:=r.yf e
 have nl:=r.RC e
 cases κ <;> cases κ' <;> first
  | exact q
  | (cases l;done)
  | exact q.rep
  | exact⟨q.1.same ne _,q.2.mono ne⟩
  | exact⟨q.1.same nl _,(q.2.early r.g0).mono nl⟩
  | exact q.1.same ne _
  | exact⟨q.1.same (nl.trans (bO (aL _ _))) _,(q.2.early r.g0).mono (nl.trans (bO (aL _ _)))⟩
  | exact q.1
  | exact q.1.same (dw _ _) _
  | exact⟨q.1.same (bO (aL _ _)) _,q.2.mono (bO (aL _ _))⟩
end
def Kd.hp(κ:Kd)(G0:Hp)(A:List av)(H H':Hp):Hp:=match κ with
 | .new=>nw H H' | .uQ=>er H' A | .loc=>nw G0 (er H' A) | .old=>er H' A | .qg=>nw G0 H' | .aO=>H'
def SK.kd:SK->Kd
 | .par=>.old | .loc=>.loc | .own true=>.qg | .own false=>.aO | .any=>.aO | .pr=>.aO
def SK.takes:SK->Kd->Bool
 | .par,κ=>κ.le .old
 | .loc,κ=>κ.le .loc
 | .own true,κ=>κ.le .new
 | .own false,κ=>κ.le .uQ
 | .any,_=>true
 | .pr,κ=>κ.le .new
theorem Kd.Of:∀{κ:Kd},κ.le .new=true->κ = .new
 | .new,_=>rfl
section
variable {K:aD}{C:Cfg}{G0:Hp}{Γ:List SK}{σ:L2.St}{H H':Hp}{A:List av}{st:ig}{κ:Kd}{d:D}{v:V}
theorem Val.hp(q:Val K C κ G0 A H H' d v):Rep K C (κ.hp G0 A H H') d v:=by
 cases κ with
 | new=>exact q.1
 | uQ=>exact q.1
 | loc=>exact q.1
 | old=>exact q
 | qg=>exact q.1
 | aO=>exact q
theorem Kd.sV(e:aH H' YE):aH (κ.hp G0 A H H') (κ.hp G0 A H YE):=by
 cases κ with
 | new=>exact bO e
 | uQ=>exact aI e
 | loc=>exact bO (aI e)
 | old=>exact aI e
 | qg=>exact bO e
 | aO=>exact e
theorem Kd.Og(e:aH H H1):aH (κ.hp G0 A H1 H') (κ.hp G0 A H H'):=by
 cases κ with
 | new=>exact wu e
 | uQ=>exact .refl _
 | loc=>exact .refl _
 | old=>exact .refl _
 | qg=>exact .refl _
 | aO=>exact .refl _
theorem Kd.rB:aH (κ.hp G0 A H H') H':=by
 cases κ with
 | new=>exact dw _ _
 | uQ=>exact aL _ _
 | loc=>exact(dw _ _).trans (aL _ _)
 | old=>exact aL _ _
 | qg=>exact dw _ _
 | aO=>exact .refl _
theorem cV(h:H p=none):aH H (upd H p o):=fun b u q=>by rw[aV (b8 q h)];exact q
theorem Dq(r:RS K C G0 Γ σ H A st)(e:aH H H')(h:H' p=none):κ.hp G0 A H (upd H' p o) p=some o:=by
 have h0:H p=none:=e.free h
 have g0:G0 p=none:=r.g0.free h0
 have nA:p∉A:=fun m=>by obtain ⟨xs,q,_⟩:=r.lists p m;rw[h0] at q;cases q
 have u:upd H' p o p=some o:=bS
 cases κ with
 | new=>show nw H _ p=_;rw[kX h0];exact u
 | uQ=>show er _ A p=_;rw[b9 nA];exact u
 | loc=>show nw G0 _ p=_;rw[kX g0,b9 nA];exact u
 | old=>show er _ A p=_;rw[b9 nA];exact u
 | qg=>show nw G0 _ p=_;rw[kX g0];exact u
 | aO=>exact u
theorem Val.tup(r:RS K C G0 Γ σ H A st)(e:aH H H')(h:H' p=none)(np:qh (.tup ds)=true)(q:aM K C (κ.hp G0 A H H') ds xs):Val K C κ G0 A H (upd H' p (.tup xs)) (.tup ds) (.ref p):=by
 have R:Rep K C (κ.hp G0 A H (upd H' p (.tup xs))) (.tup ds) (.ref p):=by
  rw[Rep]
  exact⟨p,xs,rfl,.of (Dq r e h),q.same (Kd.sV (cV h)) _⟩
 have T:∀G F,nI K C G F (.tup ds) (.ref p):=fun G F=>.not rfl np
 cases κ with
 | new=>exact⟨R,T _ _⟩
 | uQ=>exact⟨R,T _ _⟩
 | loc=>exact⟨R,T _ _⟩
 | old=>exact R
 | qg=>exact⟨R,T _ _⟩
 | aO=>exact R
theorem Val.lst(r:RS K C G0 Γ σ H A st)(e:aH H H')(h:H' p=none)(q:aM K C (κ.hp G0 A H H') ds xs):Val K C κ G0 A H (upd H' p (.lst xs)) (.lst ds) (.ref p):=by
 have h0:H p=none:=e.free h
 have R0:aM K C (er (κ.hp G0 A H (upd H' p (.lst xs))) [p]) ds xs:=by
  refine q.same (fun b u z=>?_) _
  have nb:b≠p:=fun w=>by
   have:=Kd.rB _ _ z
   rw[w,h] at this;cases this
  rw[b9 (by simpa using nb)]
  exact Kd.sV (cV h) _ _ z
 have R:Rep K C (κ.hp G0 A H (upd H' p (.lst xs))) (.lst ds) (.ref p):=by
  rw[Rep]
  exact⟨p,xs,rfl,.of (Dq r e h),R0⟩
 have T:∀G,G p=none->nI K C G (κ.hp G0 A H (upd H' p (.lst xs))) (.lst ds) (.ref p):=fun G g=>⟨fun _=>⟨p,rfl,g,xs,Dq r e h,R0⟩,.not rfl⟩
 cases κ with
 | new=>exact⟨R,T _ h0⟩
 | uQ=>exact⟨R,T _ h0⟩
 | loc=>exact⟨R,T _ (r.g0.free h0)⟩
 | old=>exact R
 | qg=>exact⟨R,T _ (r.g0.free h0)⟩
 | aO=>exact R
theorem RD(h:qh d=false):∃s ds,d = .tup [.str s,.lst ds]:=by
 unfold qh at h
 split at h
 ·exact⟨_,_,rfl⟩
 ·cases h
theorem Oh:∀{d:D},nH d=true->qh d=true
 | .lst _,_=>rfl
 | .bM _ _,_=>rfl
 | .tup _,h=>by cases h
theorem RS.read(r:RS K C G0 Γ σ H A st){i:Nat}(hk:Γ[i]?=some k)(h:st[i]?=some (some d)):∃v,σ[i]?=some (some v)/\Val K C k.kd G0 A H H d v:=by
 refine bF (r.slot i d h) fun k' v h1 h2 h3=>?_
 rw[hk] at h1;cases h1
 refine⟨v,h2,?_⟩
 cases k with
 | par=>exact h3
 | loc=>exact h3
 | any=>exact h3
 | pr=>
  show Rep K C H d v
  rcases h3 with ⟨q,p,s,ds,xs,rfl,rfl,c,f,g,h,j⟩ | ⟨_,b⟩
  ·have S:aH (er H A) (er H [p]):=fun b u w=>by
    have nb:b≠p:=fun z=>by rw[z,eZ f] at w;cases w
    rw[b9 (by simpa using nb)]
    exact aL _ _ _ _ w
   rw[Rep]
   refine⟨q,_,rfl,aH.tup (aL _ _) c,.cons (by rw[Rep]) (.cons ?_ (by rw[aM]))⟩
   rw[Rep]
   exact⟨p,xs,rfl,.of h,j.same S _⟩
  ·exact b.same (aL _ _) _
 | own n=>
  rcases h3 with ⟨p,rfl,c,f,g⟩ | ⟨a,b⟩
  ·have np:∀b u,eh n G0 A H b=some u->b≠p:=fun b u w w'=>by
    subst w'
    unfold eh at w
    cases n with
    | true=>have:=dw _ _ _ _ w;rw[eZ c] at this;cases this
    | false=>rw[aH3 (by decide),eZ c] at w;cases w
   have S:∀F:Hp,aH (eh n G0 A H) F->aH (eh n G0 A H) (er F [p]):=fun F e b u w=>by
    rw[b9 (by simpa using np b u w)];exact e _ _ w
   cases n with
   | true=>
    have e1:aH (eh true G0 A H) (nw G0 H):=by unfold eh;exact bO (aL _ _)
    have e2:nw G0 H p=H p:=kX f
    exact⟨g.rep (S _ e1) e2,fun _=>⟨p,rfl,f,g.mono (S _ e1) e2⟩,.not (Oh g.nH)⟩
   | false=>
    have e1:aH (eh false G0 A H) H:=by unfold eh;exact aL _ _
    exact g.rep (S _ e1) rfl
  ·cases n with
   | true=>exact⟨b.2.same (by unfold eh;exact bO (aL _ _)) _,fun h=>(by rw[a] at h;cases h),b.1.mono (by unfold eh;exact bO (aL _ _))⟩
   | false=>exact b.2.same (by unfold eh;exact aL _ _) _
theorem RS.set(r:RS K C G0 Γ σ H A st)(e:aH H H')(hk:Γ[i]?=some k)(l:k.takes κ=true)(q:Val K C κ G0 A H H' d v) :
  ∃A',RS K C G0 Γ (σ.set i (some v)) H' A' (st.set i (some d))/\aH (er H A) (er H' A')/\∀a∈A,a∈A':=by
 have r':=r.mono e
 have same:(∀n,k = .own n->nH d=false)->Slot K C k G0 A H' d v->∃A',RS K C G0 Γ (σ.set i (some v)) H' A' (st.set i (some d))/\aH (er H A) (er H' A')/\∀a∈A,a∈A':=fun nl s=>by
  refine⟨A,⟨r'.base,r'.lists,by simp[r.len],fun j d' h=>?_,fun a b n m p ds es z6 g1 g2 s1 s2 o1 o2 w1 w2=>?_,r.gl⟩,aI e,fun _ m=>m⟩
  ·by_cases hj:i=j
   ·subst hj
    have iF:i < st.length:=by
     have:=(gz.mp h).1
     simpa using this
    rw[mE iF] at h
    cases h
    exact⟨k,v,hk,mE (by rw[r.len];exact iF),s⟩
   ·rw[lF hj] at h ⊢
    exact r'.slot j d' h
  ·have ha:a≠i:=fun z=>by
    subst z
    have iF:a < st.length:=by
     have:=(gz.mp s1).1
     simpa using this
    rw[mE iF] at s1
    rw[hk] at g1
    cases s1
    rw[nl n (eY g1)] at o1;cases o1
   have hb:b≠i:=fun z=>by
    subst z
    have iF:b < st.length:=by
     have:=(gz.mp s2).1
     simpa using this
    rw[mE iF] at s2
    rw[hk] at g2
    cases s2
    rw[nl m (eY g2)] at o2;cases o2
   rw[lF (eX ha)] at s1 w1
   rw[lF (eX hb)] at s2 w2
   exact r.apart a b n m p ds es z6 g1 g2 s1 s2 o1 o2 w1 w2
 cases k with
 | par=>exact same (fun _ z=>by cases z) (Val.le r e (κ':=.old) l q)
 | loc=>exact same (fun _ z=>by cases z) (Val.le r e (κ':=.loc) l q)
 | any=>exact same (fun _ z=>by cases z) q.rep
 | pr=>
  obtain rfl:=Kd.Of (κ:=κ) l
  have qo:Rep K C (er H' A) d v:=Val.le r e (κ:=.new) (κ':=.old) rfl q
  by_cases hd:qh d=true
  ·exact same (fun _ z=>by cases z) (.inr ⟨hd,qo⟩)
  ·obtain ⟨s,ds,rfl⟩:∃s ds,d = .tup [.str s,.lst ds]:=RD (uy.mpr hd)
   obtain ⟨tq,p,xs,rfl,sq,h0,EF,i1⟩:=q.2.2 s ds rfl
   have hp:H' p=some (.lst xs):=dw _ _ _ _ EF
   have pA:p∉A:=fun m=>by obtain ⟨ys,z,_⟩:=r.lists p m;rw[h0] at z;cases z
   have g0:G0 p=none:=r.g0.free h0
   have ee:aH (er H A) (er H' (p::A)):=fun b u z=>by
    have nb:b≠p:=fun w=>by have:=aL _ _ _ _ z;rw[w,h0] at this;cases this
    by_cases mb:b∈A
    ·rw[eZ mb] at z;cases z
    ·rw[b9 (by simp[nb,mb])]
     rw[b9 mb] at z
     exact e _ _ z
   have Oi:∀m,aH (eh m G0 A H) (eh m G0 (p::A) H'):=fun m=>by
    unfold eh;cases m
    ·exact ee
    ·exact bO ee
   have en:aH (er (nw H H') [p]) (er H' (p::A)):=fun b u z=>by
    by_cases nb:b=p
    ·rw[nb,eZ (by simp)] at z;cases z
    ·rw[b9 (by simpa using nb)] at z
     have:=r.yf e _ _ z
     by_cases mb:b∈A
     ·rw[eZ mb] at this;cases this
     ·rw[b9 mb] at this
      rw[b9 (by simp[nb,mb])];exact this
   have sq':mF K (er H' (p::A)) tq [.str s,.ref p]:=by
    rcases sq with sq | sq
    ·refine .inl ?_
     have nq:tq≠p:=fun w=>by
      rcases sq with sq | ⟨u,sq⟩
      ·rw[w,EF] at sq;cases sq
      ·rw[w,EF] at sq;cases sq
     have up:nw H H' tq=er H' (p::A) tq\/nw H H' tq=none:=by
      cases hz:nw H H' tq with
      | none=>exact .inr rfl
      | some u=>
       refine .inl ?_
       have:=en tq u (by rw[b9 (by simpa using nq)];exact hz)
       rw[this]
     rcases sq with sq | ⟨u,sq⟩
     ·rcases up with up | up
      ·exact .inl (by rw[<- up];exact sq)
      ·rw[up] at sq;cases sq
     ·rcases up with up | up
      ·exact .inr ⟨u,by rw[<- up];exact sq⟩
      ·rw[up] at sq;cases sq
    ·exact .inr sq
   refine⟨p::A,⟨r.base.trans ee,fun a m=>?_,by simp[r.len],fun j d' h=>?_,fun a b n' m' p' Gx CG z6 g1 g2 s1 s2 o1 o2 w1 w2=>?_,r.gl⟩,ee,fun _ m=>.tail _ m⟩
   ·rcases bP.mp m with rfl | m
    ·exact⟨_,hp,rfl⟩
    ·exact r'.lists a m
   ·by_cases hj:i=j
    ·subst hj
     have iF:i < st.length:=by
      have:=(gz.mp h).1
      simpa using this
     rw[mE iF] at h
     cases h
     exact⟨.pr,.ref tq,hk,mE (by rw[r.len];exact iF),.inl ⟨tq,p,s,ds,xs,rfl,rfl,sq',.head _,g0,hp,i1.same en _⟩⟩
    ·rw[lF hj] at h ⊢
     refine bF (r.slot j d' h) fun k' v' h1 h2 h3=>?_
     refine⟨k',v',h1,h2,?_⟩
     cases k' with
     | par=>exact Rep.same ee _ h3
     | loc=>exact⟨h3.1.same (bO ee) _,h3.2.mono (bO ee)⟩
     | any=>exact Rep.same e _ h3
     | pr=>
      rcases h3 with ⟨q2,p2,s2,ds2,xs2,a,b,c,f,g,hh,jj⟩ | ⟨a,b⟩
      ·exact .inl ⟨q2,p2,s2,ds2,xs2,a,b,aH.tup ee c,.tail _ f,g,e _ _ hh,jj.same ee _⟩
      ·exact .inr ⟨a,Rep.same ee _ b⟩
     | own m=>
      rcases h3 with ⟨p2,b,c,f,g⟩ | ⟨a,b⟩
      ·exact .inl ⟨p2,b,.tail _ c,f,g.later (Oi m) e⟩
      ·exact .inr ⟨a,b.1.mono (Oi m),b.2.same (Oi m) _⟩
   ·have ha:a≠i:=fun z=>by subst z;rw[hk] at g1;cases g1
    have hb:b≠i:=fun z=>by subst z;rw[hk] at g2;cases g2
    rw[lF (eX ha)] at s1 w1
    rw[lF (eX hb)] at s2 w2
    exact r.apart a b n' m' p' Gx CG z6 g1 g2 s1 s2 o1 o2 w1 w2
 | own n=>
  have q1:Val K C .uQ G0 A H H' d v:=Val.le r e (κ':=.uQ) (by cases n <;> cases κ <;> first | rfl | cases l) q
  have q2:n=true->Val K C .loc G0 A H H' d v:=fun z=>by
   subst z
   obtain rfl:=Kd.Of (κ:=κ) l
   exact Val.le r e rfl q
  by_cases hd:nH d=true
  ·refine cI (q1.2.1 hd) fun p bx h0 i1=>?_
   walk_at"$"
   refine aY i1.We fun o EF hM=>?_
   have hp:H' p=some o:=aL _ _ _ _ EF
   have pA:p∉A:=fun m=>by obtain ⟨ys,z,_⟩:=r.lists p m;rw[h0] at z;cases z
   have g0:G0 p=none:=r.g0.free h0
   have ee:aH (er H A) (er H' (p::A)):=fun b u z=>by
    have nb:b≠p:=fun w=>by have:=aL _ _ _ _ z;rw[w,h0] at this;cases this
    by_cases mb:b∈A
    ·rw[eZ mb] at z;cases z
    ·rw[b9 (by simp[nb,mb])]
     rw[b9 mb] at z
     exact e _ _ z
   have Oi:∀m,aH (eh m G0 A H) (eh m G0 (p::A) H'):=fun m=>by
    unfold eh;cases m
    ·exact ee
    ·exact bO ee
   have items:lC K C (eh n G0 (p::A) H') H' p d:=by
    cases n with
    | false=>exact i1.mono (fun b u z=>by
      by_cases mb:b∈[p]
      ·rw[eZ mb] at z;cases z
      ·rw[b9 mb] at z
       by_cases ma:b∈A
       ·rw[eZ ma] at z;cases z
       ·rw[b9 ma] at z
        show er H' (p::A) b=_
        rw[b9 (by simpa[ma] using mb)];exact z) (hp.trans EF.symm)
    | true=>
     refine cI ((q2 rfl).2.1 hd) fun p' e1 _ i2=>?_
     cases e1
     exact i2.mono (fun b u z=>by
      by_cases mb:b∈[p]
      ·rw[eZ mb] at z;cases z
      ·rw[b9 mb] at z
       show nw G0 (er H' (p::A)) b=_
       unfold nw at z ⊢
       split at z
       ·rename_i kk
        rw[aH2 kk]
        by_cases ma:b∈A
        ·rw[eZ ma] at z;cases z
        ·rw[b9 ma] at z
         rw[b9 (by simpa[ma] using mb)];exact z
       ·cases z) (by rw[kX g0];exact hp.trans EF.symm)
   refine⟨p::A,⟨r.base.trans ee,fun a m=>?_,by simp[r.len],fun j d' h=>?_,fun a b n' m' p' Gx CG z6 g1 g2 s1 s2 o1 o2 w1 w2=>?_,r.gl⟩,ee,fun _ m=>.tail _ m⟩
   ·rcases bP.mp m with rfl | m
    ·exact⟨o,hp,hM⟩
    ·exact r'.lists a m
   ·by_cases hj:i=j
    ·subst hj
     have iF:i < st.length:=by
      have:=(gz.mp h).1
      simpa using this
     rw[mE iF] at h
     cases h
     exact⟨.own n,.ref p,hk,mE (by rw[r.len];exact iF),.inl ⟨p,rfl,.head _,g0,items⟩⟩
    ·rw[lF hj] at h ⊢
     refine bF (r.slot j d' h) fun k' v' h1 h2 h3=>?_
     refine⟨k',v',h1,h2,?_⟩
     cases k' with
     | par=>exact Rep.same ee _ h3
     | loc=>exact⟨h3.1.same (bO ee) _,h3.2.mono (bO ee)⟩
     | any=>exact Rep.same e _ h3
     | pr=>
      rcases h3 with ⟨q2,p2,s2,ds2,xs2,a,b,c,f,g,hh,jj⟩ | ⟨a,b⟩
      ·exact .inl ⟨q2,p2,s2,ds2,xs2,a,b,aH.tup ee c,.tail _ f,g,e _ _ hh,jj.same ee _⟩
      ·exact .inr ⟨a,Rep.same ee _ b⟩
     | own m=>
      rcases h3 with ⟨p2,b,c,f,g⟩ | ⟨a,b⟩
      ·exact .inl ⟨p2,b,.tail _ c,f,g.later (Oi m) e⟩
      ·exact .inr ⟨a,b.1.mono (Oi m),b.2.same (Oi m) _⟩
   ·
    have old:∀{c:Nat} {nn:Bool} {cd:D},c≠i->Γ[c]?=some (.own nn)->(st.set i (some d))[c]?=some (some cd)->nH cd=true->(σ.set i (some (.ref p)))[c]?≠some (some (.ref p)):=fun {c nn cd} hc gc sc oc wc=>by
     rw[lF (eX hc)] at sc wc
     refine bF (r.slot c _ sc) fun k' v' h1 h2 h3=>?_
     rw[gc] at h1;cases h1
     rw[wc] at h2;cases h2
     rcases h3 with ⟨p2,b,c',_⟩ | ⟨a,_⟩
     ·cases b;exact pA c'
     ·rw[oc] at a;cases a
    by_cases ha:a=i
    ·subst ha
     have iF:a < st.length:=by
      have:=(gz.mp s1).1
      simpa using this
     rw[mE (by rw[r.len];exact iF)] at w1
     cases w1
     exact old (eX z6) g2 s2 o2 w2
    ·by_cases hb:b=i
     ·subst hb
      have iF:b < st.length:=by
       have:=(gz.mp s2).1
       simpa using this
      rw[mE (by rw[r.len];exact iF)] at w2
      cases w2
      exact old ha g1 s1 o1 w1
     ·rw[lF (eX ha)] at s1 w1
      rw[lF (eX hb)] at s2 w2
      exact r.apart a b n' m' p' Gx CG z6 g1 g2 s1 s2 o1 o2 w1 w2
  ·have hd:=uy.mpr hd
   refine same (fun _ _=>hd) (.inr ⟨hd,?_⟩)
   cases n with
   | false=>exact⟨q1.2.2.early r.g0,q1.1⟩
   | true=>exact⟨(q2 rfl).2.2,(q2 rfl).1⟩
end
section
variable (K:aD)(C:Cfg)(G0:Hp)(Γ:List SK)(E:L2.St->XK)
def tD(f:DF)(κ:Kd):TE:=fun σ H Q=>∃A st,RS K C G0 Γ σ H A st/\match f st with
 | .ok d=>∀v H',aH H H'->Val K C κ G0 A H H' d v->Q v H'
 | .ex c p=>∀H',aH H H'->KU (E σ) c p H'
 | .bad=>False
def KW(f:DA)(κ:Kd):TA:=fun σ H Q=>∃A st,RS K C G0 Γ σ H A st/\match f st with
 | .ok ds=>∀vs H',aH H H'->aM K C (κ.hp G0 A H H') ds vs->Q vs H'
 | .ex c p=>∀H',aH H H'->KU (E σ) c p H'
 | .bad=>False
def yg(f:DF):TT:=fun σ H Q=>∃A st,RS K C G0 Γ σ H A st/\match f st with
 | .ok (.bl b)=>∀H',aH H H'->Q b H'
 | .ex c p=>∀H',aH H H'->KU (E σ) c p H'
 | _=>False
end
theorem _root_.L2.PE.imp(h:PE X e t)(i:∀σ H Q,t' σ H Q->t σ H Q):PE X e t':=fun pins s σ H Q I q=>h pins s σ H Q I (i σ H Q q)
theorem _root_.L2.PT.imp(h:PT X e t)(i:∀σ H Q,t' σ H Q->t σ H Q):PT X e t':=fun pins s σ H Q I q=>h pins s σ H Q I (i σ H Q q)
theorem _root_.L2.PW.imp(h:PW X e t)(i:∀σ H Q,t' σ H Q->t σ H Q):PW X e t':=fun w pins s σ H Q I q=>h w pins s σ H Q I (i σ H Q q)
theorem _root_.L2.PA.imp(h:PA X e t)(i:∀σ H Q,t' σ H Q->t σ H Q):PA X e t':=fun p pins s σ H Q I q=>h p pins s σ H Q I (i σ H Q q)
theorem _root_.L2.PS.imp(h:PS X e t)(i:∀D σ H,t' D σ H->t D σ H):PS X e t':=fun pins s σ H D I q=>h pins s σ H D I (i D σ H q)
theorem _root_.L2.vo.imp(h:vo X e t)(i:∀D σ H,t' D σ H->t D σ H):vo X e t':=fun pins s σ H D I q=>h pins s σ H D I (i D σ H q)
def ao(i:Nat):DF:=fun st=>match st[i]? with | some (some d)=>.ok d | _=>.bad
def dC(d:D):DF:=fun _=>.ok d
def cN(f:DF):DF:=fun st=>(f st).bind fun d=>if gM d=true then .ok d else .bad
def bK(g:D->D->R D)(fa fb:DF):DF:=fun st=>(fa st).bind fun a=>(fb st).bind fun b=>g a b
def wz(g:D->R D)(fa:DF):DF:=fun st=>(fa st).bind g
def aG:DA:=fun _=>.ok []
def aa(f:DF)(g:DA):DA:=fun st=>(f st).bind fun d=>(g st).bind fun ds=>.ok (d::ds)
def bZ(g:List D->R D)(f:DA):DF:=fun st=>(f st).bind g
def oh(fa fb:DF):DF:=fun st=>(fa st).bind fun a=>match a with | .bl true=>fb st | .bl false=>.ok (.bl false) | _=>.bad
def YF(fa fb:DF):DF:=fun st=>(fa st).bind fun a=>match a with | .bl true=>.ok (.bl true) | .bl false=>fb st | _=>.bad
def uR(fa:DF):DF:=fun st=>(fa st).bind fun a=>match a with | .bl b=>.ok (.bl (!b)) | _=>.bad
section
variable {X:Cx}{C:Cfg}{G0:Hp}{Γ:List SK}{E:L2.St->XK}{a b c:bH}{fa fb:DF}{κ aK cW:Kd}
theorem Gy(i:Nat)(h:PE X e (uC i))(hk:Γ[i]?=some k:=by rfl):PE X e (tD X.K C G0 Γ E (ao i) k.kd):=h.imp fun σ H Q zz=>by
 walk_at"/"
 clear zz
 unfold ao at q
 cases hs:st[i]? with
 | none=>rw[hs] at q;exact q.elim
 | some o=>
  cases o with
  | none=>rw[hs] at q;exact q.elim
  | some d=>
   rw[hs] at q
   refine aY (r.read hk hs) fun v h1 h2=>?_
   exact⟨v,h1,q v H (.refl _) h2⟩
theorem RE(h:PE X e (tC v))(n:gM d=true)(q:∀H,Rep X.K C H d v):PE X e (tD X.K C G0 Γ E (dC d) .new):=h.imp fun σ H Q jd=>jd.elim fun A n8=>n8.elim fun st rR=>rR.elim fun r k=>k v H (.refl _) (.flat r (.refl _) n (q H) _)
theorem aE{j}:PE X (.Constant (.int i) j pos) (tD X.K C G0 Γ E (dC (.int i)) .new):=RE V9 (by rw[gM] <;> simp) fun H=>by rw[Rep]
theorem Ik{j}:PE X (.Constant (.bool i) j pos) (tD X.K C G0 Γ E (dC (.bl i)) .new):=RE Z0 (by rw[gM] <;> simp) fun H=>by rw[Rep]
theorem uS{j}:PE X (.Constant (.str i) j pos) (tD X.K C G0 Γ E (dC (.str i)) .new):=RE Va (by rw[gM] <;> simp) fun H=>by rw[Rep]
theorem sW(hg:Gl X x)(hm:X.mg x=some (.int i t))(hd:(x==("__debug__" : Str))=false:=by decide):PE X (.Name x pos) (tD X.K C G0 Γ E (dC (.int i)) .new):=RE (QK hg hm (v:=.int i) ⟨t,rfl⟩ hd) (by rw[gM] <;> simp) fun H=>by rw[Rep]
theorem ag6(l:κ.le κ'=true)(h:PE X e (tD X.K C G0 Γ E f κ)):PE X e (tD X.K C G0 Γ E f κ'):=h.imp fun σ H Q EC=>EC.elim fun A G9=>G9.elim fun st ED=>ED.elim fun r q=>⟨A,st,r,by
 split at q
 ·exact fun v H' e w=>q v H' e (w.le r e l)
 ·exact q
 ·exact q⟩
theorem dX(h:PE X e (tD X.K C G0 Γ E f κ)):PE X e (tD X.K C G0 Γ E (cN f) .new):=h.imp fun σ H Q CJ=>CJ.elim fun A Ew=>Ew.elim fun st Ey=>Ey.elim fun r q=>⟨A,st,r,by
 unfold cN R.bind at q
 cases hf:f st with
 | ok d=>
  rw[hf] at q
  dsimp only at q ⊢
  by_cases n:gM d=true
  ·rw[aH2 n] at q
   exact fun v H' e w=>q v H' e (.flat r e n w.rep _)
  ·rw[aH3 n] at q;exact q.elim
 | ex c p=>rw[hf] at q;exact q
 | bad=>rw[hf] at q;exact q⟩
def vS(K:aD)(C:Cfg)(r2:R2)(g:D->D->R D)(κ:Kd):Prop:=∀(G0:Hp) (Γ:List SK) (E:XK) (σ:L2.St) (A:List av) (st:ig) (H:Hp) (a b:D) (x y:V) (Q:VK),RS K C G0 Γ σ H A st->Rep K C H a x->Rep K C H b y->
 (match g a b with | .ok d=>∀v H',aH H H'->Val K C κ G0 A H H' d v->Q v H' | .ex c p=>∀H',aH H H'->KU E c p H' | .bad=>False)->r2 x y H Q
theorem two(ho:vS X.K C r2 g κ):∀σ H Q,tD X.K C G0 Γ E (bK g fa fb) κ σ H Q->Zs r2 (tD X.K C G0 Γ E fa aK) (tD X.K C G0 Γ E fb cW) σ H Q:=fun σ H Q zz=>by
 walk_at"/"
 clear zz
 walk_at"."
 unfold bK R.bind at q
 cases ha:fa st with
 | bad=>rw[ha] at q;exact q
 | ex c p=>rw[ha] at q;exact q
 | ok a=>
  rw[ha] at q
  intro x H1 e1 w1
  refine⟨A,st,r.mono e1,?_⟩
  walk_at"*"
  cases hb:fb st with
  | bad=>rw[hb] at q;exact q
  | ex c p=>rw[hb] at q;exact fun H' e'=>q H' (e1.trans e')
  | ok b=>
   rw[hb] at q
   intro y H2 e2 w2
   refine ho G0 Γ (E σ) σ A st H2 a b x y Q ((r.mono e1).mono e2) (w1.rep.same e2 _) w2.rep ?_
   walk_at"*"
   cases hg:g a b with
   | bad=>rw[hg] at q;exact q
   | ex c p=>rw[hg] at q;exact fun H' e'=>q H' ((e1.trans e2).trans e')
   | ok d=>rw[hg] at q;exact fun v H' e' w=>q v H' ((e1.trans e2).trans e') (w.early (e1.trans e2))
theorem bW(hr:qt X (binaryOp op) r2)(ho:vS X.K C r2 g κ)(ha:PE X a (tD X.K C G0 Γ E fa aK))(hb:PE X b (tD X.K C G0 Γ E fb cW)):PE X (.BinOp a op b pos) (tD X.K C G0 Γ E (bK g fa fb) κ):=(Zv hr ha hb).imp (two ho)
theorem pD(hr:qt X (iz op) r2)(ho:vS X.K C r2 g κ)(ha:PE X a (tD X.K C G0 Γ E fa aK))(hb:PE X b (tD X.K C G0 Γ E fb cW))(hm:behindInMarks op b=false):PE X (.Compare a [op] [b] pos) (tD X.K C G0 Γ E (bK g fa fb) κ):=(QS hr ha hb hm).imp (two ho)
theorem vS.flat{K:aD}{r2:R2}{g:D->D->R D}(h:∀(H:Hp) (a b:D) (x y:V) (Q:VK),Rep K C H a x->Rep K C H b y->(match g a b with | .ok d=>gM d=true/\∀v,Rep K C H d v->Q v H | _=>False)->r2 x y H Q)(hg:∀a b,(∀c p,g a b≠ .ex c p)/\∀d,g a b = .ok d->gM d=true):vS K C r2 g κ:=fun G0 Γ E σ A st H a b x y Q r qa qb q=>h H a b x y Q qa qb (by
 cases hz:g a b with
 | bad=>rw[hz] at q;exact q
 | ex c p=>exact aI4 hz ((hg a b).1 c p)
 | ok d=>rw[hz] at q;exact⟨(hg a b).2 d hz,fun v w=>q v H (.refl _) (.flat r (.refl _) ((hg a b).2 d hz) w _)⟩)
def Il(Cd:Int->Int->Bool)(g:Int->Int->D):D->D->R D:=fun a b=>match a,b with | .int i,.int j=>if Cd i j=true then .ok (g i j) else .bad | _,_=>.bad
theorem Oj{Cd:Int->Int->Bool}{g:Int->Int->D}{a b d:D}(h:Il Cd g a b = .ok d):∃i j,a = .int i/\b = .int j/\Cd i j=true/\d=g i j:=by
 unfold Il at h
 split at h
 ·split at h
  ·rename_i q;cases h;exact⟨_,_,rfl,rfl,q,rfl⟩
  ·cases h
 ·cases h
theorem Ol{Cd:Int->Int->Bool}{g:Int->Int->D}{a b:D}{c:av}{p:Option Int}:Il Cd g a b≠ .ex c p:=by
 unfold Il
 split
 ·split <;> exact fun h=>by cases h
 ·exact fun h=>by cases h
theorem lH{K:aD}{r2:R2}{Cd:Int->Int->Bool}{g:Int->Int->D}(h:∀(H:Hp) (i j:Int) (Q:VK),Cd i j=true->(∀v,Rep K C H (g i j) v->Q v H)->r2 (.int i) (.int j) H Q)(n:∀i j,gM (g i j)=true):vS K C r2 (Il Cd g) κ:=.flat (fun H a b x y Q qa qb q=>by
  cases hz:Il Cd g a b with
  | bad=>rw[hz] at q;exact q.elim
  | ex c p=>exact aI4 hz Ol
  | ok d=>
   rw[hz] at q
   refine vP (Oj hz) fun i j bx sf hc R7=>?_
   walk_at"$"
   obtain rfl:=sf
   obtain rfl:=R7
   rw[Rep] at qa qb;subst qa;subst qb
   exact h H i j Q hc q.2) fun a b=>⟨fun c p=>Ol,fun d hd=>by obtain ⟨i,j,_,_,_,rfl⟩:=Oj hd;exact n i j⟩
def i7:=Il (fun _ _=>true) fun i j=>.int (i+j)
def s8:=Il (fun _ _=>true) fun i j=>.int (i - j)
def sm(i:Int):Bool:=decide (-(2 ^ 64) < i)&&decide (i < 2 ^ 64)
def pF:=Il (fun i j=>sm i || sm j) fun i j=>.int (i * j)
def rC:=Il (fun _ j=>decide (0 < j)&&decide (j < 1073741824)) fun i j=>.int (i / j)
def jz:=Il (fun _ j=>decide (0 < j)) fun i j=>.int (i % j)
def gLt:=Il (fun _ _=>true) fun i j=>.bl (decide (i < j))
def Uv:=Il (fun _ _=>true) fun i j=>.bl (decide (i<=j))
def Qz:=Il (fun _ _=>true) fun i j=>.bl (decide (j < i))
theorem BJ{K:aD}{H:Hp}{i:Int}:Rep K C H (.int i) (.int i):=by rw[Rep]
theorem BK{K:aD}{H:Hp}{i:Bool}:Rep K C H (.bl i) (.bl i):=by rw[Rep]
theorem eE{K:aD}:vS K C (KA fun i j=>.int (i+j)) i7 .new:=lH (fun H i j Q _ q=>⟨i,j,rfl,rfl,q _ BJ⟩) fun i j=>by rw[gM] <;> simp
theorem pX{K:aD}:vS K C (KA fun i j=>.int (i - j)) s8 .new:=lH (fun H i j Q _ q=>⟨i,j,rfl,rfl,q _ BJ⟩) fun i j=>by rw[gM] <;> simp
theorem pY{K:aD}:vS K C (rI QO fun i j=>.int (i * j)) pF .new:=lH (fun H i j Q c q=>⟨i,j,rfl,rfl,by
 rcases oO _ _ |>.mp c with c | c
 ·simp[sm] at c;exact .inl ⟨by lia,by lia⟩
 ·simp[sm] at c;exact .inr ⟨by lia,by lia⟩,q _ BJ⟩) fun i j=>by rw[gM] <;> simp
theorem pZ{K:aD}:vS K C (rI Zx fun i j=>.int (i / j)) rC .new:=lH (fun H i j Q c q=>⟨i,j,rfl,rfl,by simp at c;exact⟨c.1,c.2⟩,q _ BJ⟩) fun i j=>by rw[gM] <;> simp
theorem iX{K:aD}:vS K C (rI (fun _ j=>0 < j) fun i j=>.int (i % j)) jz .new:=lH (fun H i j Q c q=>⟨i,j,rfl,rfl,by simpa using c,q _ BJ⟩) fun i j=>by rw[gM] <;> simp
theorem Wf{K:aD}:vS K C (KA fun i j=>.bl (decide (i < j))) gLt .new:=lH (fun H i j Q _ q=>⟨i,j,rfl,rfl,q _ BK⟩) fun i j=>by rw[gM] <;> simp
theorem uT{K:aD}:vS K C (KA fun i j=>.bl (decide (i<=j))) Uv .new:=lH (fun H i j Q _ q=>⟨i,j,rfl,rfl,q _ BK⟩) fun i j=>by rw[gM] <;> simp
theorem BL{K:aD}:vS K C (KA fun i j=>.bl (decide (j < i))) Qz .new:=lH (fun H i j Q _ q=>⟨i,j,rfl,rfl,q _ BK⟩) fun i j=>by rw[gM] <;> simp
def n9(neg:Bool):D->D->R D:=fun a b=>if (Dm.flat a&&Dm.flat b&&decide (dep a<=60))=true then .ok (.bl (if neg then !iO a b else iO a b)) else .bad
theorem l0{K:aD}{neg:Bool}:vS K C (Wb K C neg) (n9 neg) .new:=.flat (fun H a b x y Q qa qb q=>by
  unfold n9 at q
  split at q
  ·rename_i c
   split at c
   ·rename_i c'
    cases c
    simp only[cu,aH7] at c'
    exact⟨a,b,qa,qb,c'.1.1,c'.1.2,c'.2,q.2 _ BK⟩
   ·cases c
  ·exact q.elim) fun a b=>⟨fun c p=>(by unfold n9;split <;> exact fun h=>(by cases h)),fun d h=>by unfold n9 at h;split at h <;> cases h;rw[gM] <;> simp⟩
def oj(neg:Bool):D->D->R D:=fun a b=>match b with
 | .lst es=>if (Dm.flat a&&cz es&&decide (kr es<=60))=true then .ok (.bl (if neg then !(es.any fun e=>iO e a) else es.any fun e=>iO e a)) else .bad
 | .tup es=>if (Dm.flat a&&cz es&&decide (kr es<=60))=true then .ok (.bl (if neg then !(es.any fun e=>iO e a) else es.any fun e=>iO e a)) else .bad
 | _=>.bad
theorem m9{K:aD}{neg:Bool}:vS K C (Wc K C neg) (oj neg) .new:=.flat (fun H a b x y Q qa qb q=>by
  cases b with
  | lst es=>
   unfold oj at q
   walk_at"*"
   split at q
   ·rename_i c
    split at c
    ·rename_i c'
     cases c
     simp only[cu,aH7] at c'
     exact⟨a,es,qa,.inl qb,c'.1.1,c'.1.2,c'.2,q.2 _ BK⟩
    ·cases c
   ·exact q.elim
  | tup es=>
   unfold oj at q
   walk_at"*"
   split at q
   ·rename_i c
    split at c
    ·rename_i c'
     cases c
     simp only[cu,aH7] at c'
     exact⟨a,es,qa,.inr qb,c'.1.1,c'.1.2,c'.2,q.2 _ BK⟩
    ·cases c
   ·exact q.elim
  | _=>exact q.elim) fun a b=>⟨fun c p=>(by unfold oj;split <;> (try split) <;> exact fun h=>(by cases h)),fun d h=>by unfold oj at h;split at h <;> (try split at h) <;> cases h <;> (rw[gM] <;> simp)⟩
def jP:D->D->R D:=fun a b=>match a,b with
 | .lst ds,.int i=>match EB ds i with | some d=>.ok d | none=>.bad
 | .tup ds,.int i=>match EB ds i with | some d=>.ok d | none=>.bad
 | _,_=>.bad
theorem Dr{K:aD}{H:Hp}{ds:List D}{xs:List V}{i:Int}{d:D}(q:aM K C H ds xs)(h:EB ds i=some d):∃v,EB xs i=some v/\Rep K C H d v:=by
 unfold EB at h ⊢
 rw[q.len]
 cases hj:QZ ds.length i with
 | none=>rw[hj] at h;cases h
 | some j=>
  rw[hj] at h
  exact q.get' h
end
section
variable {X:Cx}{C:Cfg}{G0:Hp}{Γ:List SK}{E:L2.St->XK}{a b c:bH}{fa fb:DF}{κ aK:Kd}{rest:List bH}{pos:Pos}
theorem Wg{K:aD}{H:Hp}{a d:D}{x:V}{i:Int}(qa:Rep K C H a x)(h:jP a (.int i) = .ok d):(∃p xs v,x = .ref p/\(ko K H p xs\/mF K H p xs)/\EB xs i=some v/\Rep K C H d v):=by
 cases a with
 | lst ds=>
  unfold jP at h
  dsimp only at h
  cases hz:EB ds i with
  | none=>rw[hz] at h;cases h
  | some d'=>
   rw[hz] at h;cases h
   refine bF qa.items fun p xs bx h2 h3=>?_
   walk_at"$"
   refine aY (Dr h3 hz) fun v h4 h5=>?_
   exact⟨p,xs,v,rfl,.inl h2,h4,h5⟩
 | tup ds=>
  unfold jP at h
  dsimp only at h
  cases hz:EB ds i with
  | none=>rw[hz] at h;cases h
  | some d'=>
   rw[hz] at h;cases h
   rw[Rep] at qa
   refine bF qa fun p xs bx h2 h3=>?_
   clear qa
   walk_at"$"
   refine aY (Dr h3 hz) fun v h4 h5=>?_
   exact⟨p,xs,v,rfl,.inr h2,h4,h5⟩
 | _=>cases h
def ag8(K:aD):R2:=fun x y H Q=>ac4 K x y H Q\/ac5 K x y H Q
theorem ay2:R5 X (ag8 X.K):=R6.or Vv
theorem ko.part{K:aD}{G H:Hp}(e:aH G H){p:av}{xs:List V}(h:ko K G p xs\/mF K G p xs):ko K H p xs\/mF K H p xs:=h.imp (fun h=>e.seq h) fun h=>aH.tup e h
def Kd.item:Kd->Kd
 | .uQ=>.old
 | .new=>.old
 | .loc=>.old
 | .old=>.old
 | _=>.aO
theorem RG{a b d:D}(h:jP a b = .ok d):∃i,b = .int i:=by
 cases b with
 | int i=>exact⟨i,rfl⟩
 | _=>cases a <;> cases h
theorem Wh{a b:D}{c:av}{p:Option Int}:jP a b≠ .ex c p:=by
 unfold jP
 split
 ·split <;> exact fun h=>(by cases h)
 ·split <;> exact fun h=>(by cases h)
 ·exact fun h=>(by cases h)
theorem Wi(ha:PE X a (tD X.K C G0 Γ E fa aK))(hb:PE X b (tD X.K C G0 Γ E fb cW))(hs:w5 b):PE X (.Subscript a b pos) (tD X.K C G0 Γ E (bK jP fa fb) aK.item):=(U6 ay2 ha hb hs).imp fun σ H Q zz=>by
 walk_at"/"
 clear zz
 walk_at"."
 unfold bK R.bind at q
 cases ha:fa st with
 | bad=>rw[ha] at q;exact q
 | ex c p=>rw[ha] at q;exact q
 | ok a=>
  rw[ha] at q
  intro x H1 e1 w1
  refine⟨A,st,r.mono e1,?_⟩
  walk_at"*"
  cases hb:fb st with
  | bad=>rw[hb] at q;exact q
  | ex c p=>rw[hb] at q;exact fun H' e'=>q H' (e1.trans e')
  | ok b=>
   rw[hb] at q
   intro y H2 e2 w2
   walk_at"*"
   cases hg:jP a b with
   | bad=>rw[hg] at q;exact q.elim
   | ex c p=>exact aI4 hg Wh
   | ok d=>
    rw[hg] at q
    obtain ⟨i,rfl⟩:=RG hg
    have nJ:=e1.trans e2
    have w:=w1.later e2
    obtain rfl:y = .int i:=by have:=w2.rep;rw[Rep] at this;exact this
    have fin:∀G:Hp,aH G H2->Rep X.K C G a x->(∀v,Rep X.K C G d v->Val X.K C aK.item G0 A H H2 d v)->ag8 X.K x (.int i) H2 Q:=fun G e qa k=>by
     refine QG (Wg qa hg) fun p xs v sf s at' rv=>?_
     obtain rfl:=sf
     rcases ko.part e s with s | s
     ·exact .inl ⟨p,xs,i,v,rfl,rfl,s,at',q v H2 nJ (k v rv)⟩
     ·exact .inr ⟨p,xs,i,v,rfl,rfl,s,at',q v H2 nJ (k v rv)⟩
    cases aK with
    | new=>exact fin _ (aL _ _) (w.le r nJ (κ':=.old) rfl) fun v z=>z
    | uQ=>exact fin _ (aL _ _) (w.le r nJ (κ':=.old) rfl) fun v z=>z
    | loc=>exact fin _ (aL _ _) (w.le r nJ (κ':=.old) rfl) fun v z=>z
    | old=>exact fin _ (aL _ _) w fun v z=>z
    | qg=>exact fin _ (.refl _) w.rep fun v z=>z
    | aO=>exact fin _ (.refl _) w fun v z=>z
theorem aF:PA X [] (KW X.K C G0 Γ E aG κ):=m7.imp fun σ H Q jd=>jd.elim fun A n8=>n8.elim fun st rR=>rR.elim fun r q=>q [] H (.refl _) .nil
theorem af(ha:PE X e (tD X.K C G0 Γ E f aK))(hr:PA X es (KW X.K C G0 Γ E fs κ))(l:aK.le κ=true:=by rfl)(hs:bL (e::es) X.env=(false,eval e X.env)::bL es X.env:=by rfl):PA X (e::es) (KW X.K C G0 Γ E (aa f fs) κ):=(iU ha hr hs).imp fun σ H Q zz=>by
 walk_at"/"
 clear zz
 walk_at"."
 unfold aa R.bind at q
 cases hf:f st with
 | bad=>rw[hf] at q;exact q
 | ex c p=>rw[hf] at q;exact q
 | ok a=>
  rw[hf] at q
  intro x H1 e1 w1
  refine⟨A,st,r.mono e1,?_⟩
  walk_at"*"
  cases hb:fs st with
  | bad=>rw[hb] at q;exact q
  | ex c p=>rw[hb] at q;exact fun H' e'=>q H' (e1.trans e')
  | ok b=>
   rw[hb] at q
   intro y H2 e2 w2
   exact q (x::y) H2 (e1.trans e2) (.cons ((w1.le r e1 l).hp.same (Kd.sV e2) _) (w2.same (Kd.Og e1) _))
theorem yh{l:List α}(h:l.length<=100):l.length<=cK:=cC h (by rw[gn];decide)
def dI(n:Nat)(f:DA):DF:=fun st=>(f st).bind fun ds=>if ds.length<=n/\qh (.tup ds)=true then .ok (.tup ds) else .bad
theorem fW{x1}(h:PA X es (KW X.K C G0 Γ E fs κ)):PE X (.Tuple es x1 pos) (tD X.K C G0 Γ E (dI 100 fs) κ):=(Nl h).imp fun σ H Q zz=>by
 walk_at"/"
 clear zz
 walk_at"."
 unfold dI R.bind at q
 cases hf:fs st with
 | bad=>rw[hf] at q;exact q
 | ex c p=>rw[hf] at q;exact q
 | ok ds=>
  rw[hf] at q
  walk_at"*"
  split at q
  ·rename_i d hz
   split at hz
   ·rename_i hl
    cases hz
    exact fun vs H1 e1 w1=>⟨yh (by rw[w1.len];exact hl.1),fun p hp=>q _ _ (e1.trans (cV hp)) (.tup r e1 hp hl.2 w1)⟩
   ·cases hz
  ·rename_i hz;split at hz <;> cases hz
  ·exact q.elim
def gO(n:Nat)(f:DA):DF:=fun st=>(f st).bind fun ds=>if ds.length<=n then .ok (.lst ds) else .bad
theorem mh(h:PA X es (KW X.K C G0 Γ E fs κ)):PE X (.List es pos) (tD X.K C G0 Γ E (gO 100 fs) κ):=(Vt h).imp fun σ H Q zz=>by
 walk_at"/"
 clear zz
 walk_at"."
 unfold gO R.bind at q
 cases hf:fs st with
 | bad=>rw[hf] at q;exact q
 | ex c p=>rw[hf] at q;exact q
 | ok ds=>
  rw[hf] at q
  walk_at"*"
  split at q
  ·rename_i d hz
   split at hz
   ·rename_i hl
    cases hz
    exact fun vs H1 e1 w1=>⟨yh (by rw[w1.len];exact hl),fun p hp=>q _ _ (e1.trans (cV hp)) (.lst r e1 hp w1)⟩
   ·cases hz
  ·rename_i hz;split at hz <;> cases hz
  ·exact q.elim
def Wj(K:aD)(C:Cfg)(r1:List V->Hp->VK->Prop)(g:List D->R D)(κ:Kd):Prop:=∀(G0:Hp) (Γ:List SK) (E:XK) (σ:L2.St) (A:List av) (st:ig) (H:Hp) (ds:List D) (xs:List V) (Q:VK),RS K C G0 Γ σ H A st->aM K C H ds xs->
 (match g ds with | .ok d=>∀v H',aH H H'->Val K C κ G0 A H H' d v->Q v H' | .ex c p=>∀H',aH H H'->KU E c p H' | .bad=>False)->r1 xs H Q
theorem iR(ho:Wj X.K C r1 g κ)(h:PE X e (Yq r1 (KW X.K C G0 Γ E fs aK))):PE X e (tD X.K C G0 Γ E (bZ g fs) κ):=h.imp fun σ H Q zz=>by
 walk_at"/"
 clear zz
 walk_at"."
 unfold bZ R.bind at q
 cases hf:fs st with
 | bad=>rw[hf] at q;exact q
 | ex c p=>rw[hf] at q;exact q
 | ok ds=>
  rw[hf] at q
  walk_at"*"
  intro vs H1 e1 w1
  refine ho G0 Γ (E σ) σ A st H1 ds vs Q (r.mono e1) (w1.same Kd.rB _) ?_
  cases hg:g ds with
  | bad=>rw[hg] at q;exact q
  | ex c p=>rw[hg] at q;exact fun H' e'=>q H' (e1.trans e')
  | ok d=>rw[hg] at q;exact fun v H' e' w=>q v H' (e1.trans e') (w.early e1)
theorem pG{K:aD}{H:Hp}{d:D}{xs:List V}(h:aM K C H [d] xs):∃v,xs=[v]/\Rep K C H d v:=by
 rw[aM] at h
 refine bF h fun v r bx q z=>?_
 clear h
 walk_at"$"
 rw[aM] at z;subst z
 exact⟨v,rfl,q⟩
def mq:List D->R D:=fun ds=>match ds with | [.lst xs]=>.ok (.int xs.length) | [.tup xs]=>.ok (.int xs.length) | _=>.bad
theorem lI{K:aD}:Wj K C (fun xs H Q=>∃p ys,xs=[.ref p]/\(ko K H p ys\/mF K H p ys)/\Q (.int ys.length) H) mq .new:=fun G0 Γ E σ A st H ds xs Q r w q=>by
 unfold mq at q
 split at q
 ·rename_i z
  split at z
  ·cases z
   refine aY (pG w) fun v jx w1=>?_
   obtain rfl:=jx
   refine bF w1.items fun p ys bx s t=>?_
   walk_at"$"
   exact⟨p,ys,rfl,.inl s,q _ H (.refl _) (.flat r (.refl _) (by rw[gM] <;> simp) (by rw[t.len];exact BJ) _)⟩
  ·cases z
   refine aY (pG w) fun v jx w1=>?_
   obtain rfl:=jx
   rw[Rep] at w1
   refine bF w1 fun p ys bx s t=>?_
   clear w1
   walk_at"$"
   exact⟨p,ys,rfl,.inr s,q _ H (.refl _) (.flat r (.refl _) (by rw[gM] <;> simp) (by rw[t.len];exact BJ) _)⟩
  ·cases z
 ·rename_i z;split at z <;> cases z
 ·exact q.elim
def lJ:List D->R D:=fun ds=>match ds with | [.lst xs]=>if ez xs=true then .ok (.lst xs) else .bad | [.tup xs]=>if ez xs=true then .ok (.lst xs) else .bad | _=>.bad
theorem sZ{K:aD}:Wj K C (fun xs H Q=>∃p ys,xs=[.ref p]/\(ko K H p ys\/mF K H p ys)/\∀l,H l=none->Q (.ref l) (upd H l (.lst ys))) lJ .new:=fun G0 Γ E σ A st H ds xs Q r w q=>by
 have fin:∀(es:List D) (p:av) (ys:List V),(ko K H p ys\/mF K H p ys)->aM K C H es ys->ez es=true->(∀v H',aH H H'->Val K C .new G0 A H H' (.lst es) v->Q v H')->∃p' HS,[V.ref p]=[.ref p']/\(ko K H p' HS\/mF K H p' HS)/\∀l,H l=none->Q (.ref l) (upd H l (.lst HS)):=fun es p ys s t n q=>
  ⟨p,ys,rfl,s,fun l hl=>q _ _ (cV hl) (.lst r (.refl _) hl (t.part (.nw (.refl _)) _ n))⟩
 unfold lJ at q
 split at q
 ·rename_i z
  split at z
  ·split at z
   ·rename_i n
    cases z
    refine aY (pG w) fun v jx w1=>?_
    obtain rfl:=jx
    refine bF w1.items fun p ys bx s t=>?_
    walk_at"$"
    exact fin _ _ _ (.inl s) t n q
   ·cases z
  ·split at z
   ·rename_i n
    cases z
    refine aY (pG w) fun v jx w1=>?_
    obtain rfl:=jx
    rw[Rep] at w1
    refine bF w1 fun p ys bx s t=>?_
    clear w1
    walk_at"$"
    exact fin _ _ _ (.inr s) t n q
   ·cases z
  ·cases z
 ·rename_i z;split at z <;> (try split at z) <;> cases z
 ·exact q.elim
theorem yi(h:PE X e (tD X.K C G0 Γ E f κ))(he:∀whole,isTrue e X.env whole=(do let v <- whole;standAt e.pos;holding [v] (truthy v)):=by intro _;rfl):PT X e (yg X.K C G0 Γ E f):=(Vb h he).imp fun σ H Q zz=>by
 walk_at"/"
 clear zz
 walk_at"."
 cases hf:f st with
 | bad=>rw[hf] at q;exact q
 | ex c p=>rw[hf] at q;exact q
 | ok d=>
  rw[hf] at q
  cases d with
  | bl b=>exact fun v H' e' w=>⟨b,by have:=w.rep;rw[Rep] at this;exact this,q H' e'⟩
  | _=>exact q.elim
theorem fY(hr:qt X (iz op) r2)(ho:vS X.K C r2 g .new)(ha:PE X a (tD X.K C G0 Γ E fa aK))(hb:PE X b (tD X.K C G0 Γ E fb cW))(hm:behindInMarks op b=false):PT X (.Compare a [op] [b] pos) (yg X.K C G0 Γ E (bK g fa fb)):=(QT hr ha hb hm).imp fun σ H Q zz=>by
 walk_at"/"
 clear zz
 refine two (κ:=.new) ho σ H _ ⟨A,st,r,?_⟩
 cases hf:bK g fa fb st with
 | bad=>rw[hf] at q;exact q
 | ex c p=>rw[hf] at q;exact q
 | ok d=>
  rw[hf] at q
  cases d with
  | bl b=>exact fun v H' e' w=>⟨b,by have:=w.rep;rw[Rep] at this;exact this,q H' e'⟩
  | _=>exact q.elim
theorem yj(h:PT X a (yg X.K C G0 Γ E fa)):PT X (.UnaryOp .Not a pos) (yg X.K C G0 Γ E (uR fa)):=(Vc h).imp fun σ H Q zz=>by
 walk_at"/"
 clear zz
 walk_at"."
 unfold uR R.bind at q
 cases hf:fa st with
 | bad=>rw[hf] at q;exact q
 | ex c p=>rw[hf] at q;exact q
 | ok d=>
  rw[hf] at q
  cases d with
  | bl b=>exact q
  | _=>exact q.elim
theorem BN(ha:PT X a (yg X.K C G0 Γ E fa)):PW X (.BoolOp .And [a] pos) (yg X.K C G0 Γ E fa):=pw_and1 ha
theorem Wk(ha:PT X a (yg X.K C G0 Γ E fa)):PW X (.BoolOp .Or [a] pos) (yg X.K C G0 Γ E fa):=pw_or1 ha
theorem Gz(ha:PT X a (yg X.K C G0 Γ E fa))(hb:PW X (.BoolOp .And (b::rest) pos) (yg X.K C G0 Γ E fb)):PW X (.BoolOp .And (a::b::rest) pos) (yg X.K C G0 Γ E (oh fa fb)):=(pw_and ha hb).imp fun σ H Q zz=>by
 walk_at"/"
 clear zz
 walk_at"."
 unfold oh R.bind at q
 cases hf:fa st with
 | bad=>rw[hf] at q;exact q
 | ex c p=>rw[hf] at q;exact q
 | ok d=>
  rw[hf] at q
  cases d with
  | bl b=>
   intro H1 e1
   cases b with
   | false=>rw[aH3 iK];exact q H1 e1
   | true=>
    rw[aH2 rfl]
    refine⟨A,st,r.mono e1,?_⟩
    walk_at"*"
    cases hb:fb st with
    | bad=>rw[hb] at q;exact q
    | ex c p=>rw[hb] at q;exact fun H' e'=>q H' (e1.trans e')
    | ok d=>
     rw[hb] at q
     cases d with
     | bl b=>exact fun H' e'=>q H' (e1.trans e')
     | _=>exact q.elim
  | _=>exact q.elim
theorem ag9(ha:PT X a (yg X.K C G0 Γ E fa))(hb:PW X (.BoolOp .Or (b::rest) pos) (yg X.K C G0 Γ E fb)):PW X (.BoolOp .Or (a::b::rest) pos) (yg X.K C G0 Γ E (YF fa fb)):=(pw_or ha hb).imp fun σ H Q zz=>by
 walk_at"/"
 clear zz
 walk_at"."
 unfold YF R.bind at q
 cases hf:fa st with
 | bad=>rw[hf] at q;exact q
 | ex c p=>rw[hf] at q;exact q
 | ok d=>
  rw[hf] at q
  cases d with
  | bl b=>
   intro H1 e1
   cases b with
   | true=>rw[aH2 rfl];exact q H1 e1
   | false=>
    rw[aH3 iK]
    refine⟨A,st,r.mono e1,?_⟩
    walk_at"*"
    cases hb:fb st with
    | bad=>rw[hb] at q;exact q
    | ex c p=>rw[hb] at q;exact fun H' e'=>q H' (e1.trans e')
    | ok d=>
     rw[hb] at q
     cases d with
     | bl b=>exact fun H' e'=>q H' (e1.trans e')
     | _=>exact q.elim
  | _=>exact q.elim
theorem Om{op}(ha:PE X a (tD X.K C G0 Γ E fa κ)):PE X (.BoolOp op [a] pos) (tD X.K C G0 Γ E fa κ):=Vd ha
theorem vbl{K:aD}{A:List av}{H H':Hp}{b:Bool}{v:V}(w:Val K C κ G0 A H H' (.bl b) v):v = .bl b:=by have:=w.rep;rw[Rep] at this;exact this
theorem GA(ha:PE X a (tD X.K C G0 Γ E fa aK))(hb:PE X (.BoolOp .And (b::rest) pos) (tD X.K C G0 Γ E fb κ)):PE X (.BoolOp .And (a::b::rest) pos) (tD X.K C G0 Γ E (oh fa fb) κ):=(Ve ha hb).imp fun σ H Q zz=>by
 walk_at"/"
 clear zz
 walk_at"."
 unfold oh R.bind at q
 cases hf:fa st with
 | bad=>rw[hf] at q;exact q
 | ex c p=>rw[hf] at q;exact q
 | ok d=>
  rw[hf] at q
  cases d with
  | bl b=>
   intro v H1 e1 w1
   refine⟨b,vbl w1,?_⟩
   cases b with
   | false=>rw[aH3 iK];exact q _ H1 e1 (.flat r e1 (by rw[gM] <;> simp) BK _)
   | true=>
    rw[aH2 rfl]
    refine⟨A,st,r.mono e1,?_⟩
    walk_at"*"
    cases hb:fb st with
    | bad=>rw[hb] at q;exact q
    | ex c p=>rw[hb] at q;exact fun H' e'=>q H' (e1.trans e')
    | ok d=>rw[hb] at q;exact fun v H' e' w=>q v H' (e1.trans e') (w.early e1)
  | _=>exact q.elim
end
def RH(K:aD)(C:Cfg)(k6:Bool)(G0 H':Hp)(d:D)(v:V):Prop:=match k6 with
 | true=>Rep K C (nw G0 H') d v/\nI K C G0 (nw G0 H') d v
 | false=>Rep K C H' d v
section
variable (K:aD)(C:Cfg)(G0:Hp)(Γ:List SK)(E:L2.St->XK)(k6:Bool)
def qi(F:DS):TS:=fun D σ H=>∃A st,RS K C G0 Γ σ H A st/\match F st with
 | .nx st'=>∀dR H' A',RS K C G0 Γ dR H' A' st'->aH (er H A) (er H' A')->D.nx dR H'
 | .bk st'=>∀dR H' A',RS K C G0 Γ dR H' A' st'->aH (er H A) (er H' A')->D.bk dR H'
 | .ct st'=>∀dR H' A',RS K C G0 Γ dR H' A' st'->aH (er H A) (er H' A')->D.ct dR H'
 | .rt d=>∀v H',aH G0 H'->RH K C k6 G0 H' d v->D.rt v H'
 | .ex c p st'=>∀dR H' A',RS K C G0 Γ dR H' A' st'->aH (er H A) (er H' A')->KU (E dR) c p H'
 | .bad=>False
end
def bR(F G:DS):DS:=fun st=>match F st with | .nx st'=>G st' | o=>o
def cP:DS:=fun st=>.nx st
def dU(i:Nat)(f:DF):DS:=fun st=>match f st with | .ok d=>.nx (st.set i (some d)) | .ex c p=>.ex c p st | .bad=>.bad
def qv(f:DF):DS:=fun st=>match f st with | .ok _=>.nx st | .ex c p=>.ex c p st | .bad=>.bad
def gf(f:DF):DS:=fun st=>match f st with | .ok d=>.rt d | .ex c p=>.ex c p st | .bad=>.bad
def fm(fc:DF)(F G:DS):DS:=fun st=>match fc st with | .ok (.bl true)=>F st | .ok (.bl false)=>G st | .ok _=>.bad | .ex c p=>.ex c p st | .bad=>.bad
section
variable {X:Cx}{C:Cfg}{G0:Hp}{Γ:List SK}{E:L2.St->XK}{k6:Bool}{c:bH}{κ:Kd}{pos:Pos}
theorem gJ:vo X [] (qi X.K C G0 Γ E k6 cP):=QL.imp fun D σ H jd=>jd.elim fun A n8=>n8.elim fun st rR=>rR.elim fun r q=>q σ H A r (.refl _)
theorem aU(h1:PS X s (qi X.K C G0 Γ E k6 F))(h2:vo X ss (qi X.K C G0 Γ E k6 G)):vo X (s::ss) (qi X.K C G0 Γ E k6 (bR F G)):=(CK h1 h2).imp fun D σ H zz=>by
 walk_at"/"
 clear zz
 walk_at"."
 unfold bR at q
 cases hf:F st with
 | nx st'=>
  rw[hf] at q
  intro dR H' A' r' e'
  refine⟨A',st',r',?_⟩
  walk_at"*"
  cases hg:G st' with
  | nx mG=>rw[hg] at q;exact fun Bd H2 A2 r2 e2=>q Bd H2 A2 r2 (e'.trans e2)
  | bk mG=>rw[hg] at q;exact fun Bd H2 A2 r2 e2=>q Bd H2 A2 r2 (e'.trans e2)
  | ct mG=>rw[hg] at q;exact fun Bd H2 A2 r2 e2=>q Bd H2 A2 r2 (e'.trans e2)
  | rt d=>rw[hg] at q;exact q
  | ex c p mG=>rw[hg] at q;exact fun Bd H2 A2 r2 e2=>q Bd H2 A2 r2 (e'.trans e2)
  | bad=>rw[hg] at q;exact q
 | bk st'=>rw[hf] at q;exact q
 | ct st'=>rw[hf] at q;exact q
 | rt d=>rw[hf] at q;exact q
 | ex c p st'=>rw[hf] at q;exact q
 | bad=>rw[hf] at q;exact q
theorem bq(h1:PS X s (qi X.K C G0 Γ E k6 F)):vo X [s] (qi X.K C G0 Γ E k6 F):=HC h1
theorem d8(hN:X.N.Nodup)(he:PE X e (tD X.K C G0 Γ E f κ))(hk:Γ[i]?=some k:=by rfl)(hl:k.takes κ=true:=by rfl)(hi:X.N[i]?=some x:=by rfl)(hx:Loc X.env.scope x:=by first | exact cy rfl | exact f9 rfl)(hs:swapsWith e (some (.Name x pos')) pos.line X.env=pure false:=by rfl)
  (hf:X.fn x=true\/X.env.scope.names.lookup x=some .local:=by first | exact .inl rfl | exact .inr rfl | assumption):PS X (.Assign [.Name x pos'] e pos) (qi X.K C G0 Γ E k6 (dU i f)):=(Vh hN hi hx he hs hf).imp fun D σ H zz=>by
 walk_at"/"
 clear zz
 walk_at"."
 unfold dU at q
 cases hf:f st with
 | bad=>rw[hf] at q;exact q
 | ex c p=>rw[hf] at q;exact fun H' e'=>q σ H' A (r.mono e') (aI e')
 | ok d=>
  rw[hf] at q
  intro v H' e' w
  refine cI (r.set e' hk hl w) fun A' r' e2 _=>?_
  exact q _ _ A' r' e2
theorem q8(he:PE X e (tD X.K C G0 Γ E f κ))(hs:swapsWith e none pos.line X.env=pure false:=by rfl):PS X (.Expr e pos) (qi X.K C G0 Γ E k6 (qv f)):=(vZ he hs).imp fun D σ H zz=>by
 walk_at"/"
 clear zz
 walk_at"."
 unfold qv at q
 cases hf:f st with
 | bad=>rw[hf] at q;exact q
 | ex c p=>rw[hf] at q;exact fun H' e'=>q σ H' A (r.mono e') (aI e')
 | ok d=>rw[hf] at q;exact fun v H' e' w=>q σ H' A (r.mono e') (aI e')
def ay3:Bool->Kd | true=>.qg | false=>.aO
theorem d9(he:PE X e (tD X.K C G0 Γ E f κ))(l:κ.le (ay3 k6)=true:=by rfl):PS X (.Return (some e) pos) (qi X.K C G0 Γ E k6 (gf f)):=(Vg he).imp fun D σ H zz=>by
 walk_at"/"
 clear zz
 walk_at"."
 unfold gf at q
 cases hf:f st with
 | bad=>rw[hf] at q;exact q
 | ex c p=>rw[hf] at q;exact fun H' e'=>q σ H' A (r.mono e') (aI e')
 | ok d=>
  rw[hf] at q
  intro v H' e' w
  have w':=w.le r e' l
  refine q v H' (r.g0.trans e') ?_
  cases k6 with
  | true=>exact w'
  | false=>exact w'
theorem jD(hc:PT X c (yg X.K C G0 Γ E fc))(ha:vo X ss (qi X.K C G0 Γ E k6 F))(hb:vo X ss' (qi X.K C G0 Γ E k6 G)):PS X (.If c ss ss' pos) (qi X.K C G0 Γ E k6 (Dm.fm fc F G)):=(Z4 hc ha hb).imp fun D σ H zz=>by
 walk_at"/"
 clear zz
 walk_at"."
 unfold Dm.fm at q
 have sub:∀{H1:Hp} (e1:aH H H1) {G:DS},(match G st with
   | .nx st'=>∀dR H' A',RS X.K C G0 Γ dR H' A' st'->aH (er H A) (er H' A')->D.nx dR H'
   | .bk st'=>∀dR H' A',RS X.K C G0 Γ dR H' A' st'->aH (er H A) (er H' A')->D.bk dR H'
   | .ct st'=>∀dR H' A',RS X.K C G0 Γ dR H' A' st'->aH (er H A) (er H' A')->D.ct dR H'
   | .rt d=>∀v H',aH G0 H'->RH X.K C k6 G0 H' d v->D.rt v H'
   | .ex c p st'=>∀dR H' A',RS X.K C G0 Γ dR H' A' st'->aH (er H A) (er H' A')->KU (E dR) c p H'
   | .bad=>False)->qi X.K C G0 Γ E k6 G D σ H1:=fun {H1} e1 {G} q=>by
  refine⟨A,st,r.mono e1,?_⟩
  cases hg:G st with
  | nx mG=>rw[hg] at q;exact fun Bd H2 A2 r2 e2=>q Bd H2 A2 r2 ((aI e1).trans e2)
  | bk mG=>rw[hg] at q;exact fun Bd H2 A2 r2 e2=>q Bd H2 A2 r2 ((aI e1).trans e2)
  | ct mG=>rw[hg] at q;exact fun Bd H2 A2 r2 e2=>q Bd H2 A2 r2 ((aI e1).trans e2)
  | rt d=>rw[hg] at q;exact q
  | ex c p mG=>rw[hg] at q;exact fun Bd H2 A2 r2 e2=>q Bd H2 A2 r2 ((aI e1).trans e2)
  | bad=>rw[hg] at q;exact q
 cases hf:fc st with
 | bad=>rw[hf] at q;exact q
 | ex c p=>rw[hf] at q;exact fun H' e'=>q σ H' A (r.mono e') (aI e')
 | ok d=>
  rw[hf] at q
  cases d with
  | bl b=>
   intro H1 e1
   cases b with
   | true=>rw[aH2 rfl];exact sub e1 q
   | false=>rw[aH3 iK];exact sub e1 q
  | _=>exact q.elim
def qw:List SK->Bool:=fun Γ=>Γ.all fun k=>match k with | .any=>false | .pr=>false | _=>true
theorem Oo(h:qw Γ=true){i:Nat}:Γ[i]?≠some .any:=fun z=>by
 unfold qw at h
 have:=gI.mp h _ (kM z)
 cases this
theorem Oq(h:qw Γ=true){i:Nat}:Γ[i]?≠some .pr:=fun z=>by
 unfold qw at h
 have:=gI.mp h _ (kM z)
 cases this
theorem RS.RI{K:aD}{σ:L2.St}{H:Hp}{A:List av}{st:ig}(r:RS K C G0 Γ σ H A st)(na:qw Γ=true){i:Nat}{n:Bool}{p:av}{ob:HO}{d' d0:D}(hk:Γ[i]?=some (.own n))(hs:st[i]?=some (some d0))(hv:σ[i]?=some (some (.ref p)))(hp:p∈A)(g0:G0 p=none)
  (tV:nH d0=true) (hM:We ob=true) (q:lC K C (eh n G0 A H) (upd H p ob) p d'):RS K C G0 Γ σ (upd H p ob) A (st.set i (some d'))/\aH (er H A) (er (upd H p ob) A):=by
 have ee:er (upd H p ob) A=er H A:=by
  funext b
  by_cases mb:b∈A
  ·rw[eZ mb,eZ mb]
  ·rw[b9 mb,b9 mb,aV (fun z:b=p=>mb (by rw[z];exact hp))]
 have Oi:∀m,eh m G0 A (upd H p ob)=eh m G0 A H:=fun m=>by unfold eh;rw[ee]
 refine⟨⟨by rw[ee];exact r.base,fun a m=>?_,by simp[r.len],fun j d h=>?_,fun a b n' m' p' ds es z6 g1 g2 s1 s2 o1 o2 w1 w2=>?_,r.gl⟩,by rw[ee];exact .refl _⟩
 ·by_cases ha:a=p
  ·subst ha;exact⟨ob,bS,hM⟩
  ·rw[aV ha];exact r.lists a m
 ·by_cases hj:i=j
  ·subst hj
   rw[mE (gz.mp hs).1] at h
   cases h
   exact⟨_,_,hk,hv,.inl ⟨p,rfl,hp,g0,by rw[Oi];exact q⟩⟩
  ·rw[lF hj] at h
   refine bF (r.slot j d h) fun k v h1 h2 h3=>?_
   refine⟨k,v,h1,h2,?_⟩
   cases k with
   | par=>show Rep K C (er _ A) d v;rw[ee];exact h3
   | loc=>show _/\_;rw[ee];exact h3
   | any=>exact aI4 h1 (Oo na)
   | pr=>exact aI4 h1 (Oq na)
   | own m=>
    rcases h3 with ⟨p2,b,c,f,q2⟩ | ⟨a,b⟩
    ·subst b
     have np:p2≠p:=fun z=>by
      subst z
      exact r.apart i j n m p2 d0 d hj hk h1 hs h tV q2.nH hv h2
     exact .inl ⟨p2,rfl,c,f,by rw[Oi];exact q2.mono (.refl _) (aV np)⟩
    ·exact .inr ⟨a,by rw[Oi];exact b⟩
 ·have back:∀{c:Nat} {x:D},(st.set i (some d'))[c]?=some (some x)->nH x=true->∃y,st[c]?=some (some y)/\nH y=true:=fun {c x} h ho=>by
   by_cases hc:i=c
   ·subst hc
    exact⟨d0,hs,tV⟩
   ·rw[lF hc] at h;exact⟨_,h,ho⟩
  obtain ⟨ds1,s1,o1⟩:=back s1 o1
  obtain ⟨es1,s2,o2⟩:=back s2 o2
  exact r.apart a b n' m' p' ds1 es1 z6 g1 g2 s1 s2 o1 o2 w1 w2
theorem RS.mut{K:aD}{σ:L2.St}{H:Hp}{A:List av}{st:ig}(r:RS K C G0 Γ σ H A st)(na:qw Γ=true){i:Nat}{n:Bool}{p:av}{Gx:List D}{sI:List V}{d0:D}(hk:Γ[i]?=some (.own n))(hs:st[i]?=some (some d0))(hv:σ[i]?=some (some (.ref p)))(hp:p∈A)(g0:G0 p=none)
  (tV:∃ds,d0 = .lst ds) (q:aM K C (eh n G0 A H) Gx sI):RS K C G0 Γ σ (upd H p (.lst sI)) A (st.set i (some (.lst Gx)))/\aH (er H A) (er (upd H p (.lst sI)) A):=by
 obtain ⟨ds,rfl⟩:=tV
 exact r.RI na hk hs hv hp g0 rfl rfl ⟨sI,bS,q⟩
theorem RS.BO{K:aD}{σ:L2.St}{H:Hp}{A:List av}{st:ig}(r:RS K C G0 Γ σ H A st){i:Nat}{n:Bool}{d:D}(hk:Γ[i]?=some (.own n))(hs:st[i]?=some (some d))(hd:nH d=true) :
  ∃p,σ[i]?=some (some (.ref p))/\p∈A/\G0 p=none/\lC K C (eh n G0 A H) H p d:=by
 refine bF (r.slot i _ hs) fun k v h1 h2 h3=>?_
 rw[hk] at h1;cases h1
 rcases h3 with ⟨p2,b,c,f,q2⟩ | ⟨a,b⟩
 ·cases b
  exact⟨p2,h2,c,f,q2⟩
 ·rw[hd] at a;cases a
theorem RS.owned{K:aD}{σ:L2.St}{H:Hp}{A:List av}{st:ig}(r:RS K C G0 Γ σ H A st){i:Nat}{n:Bool}{ds:List D}(hk:Γ[i]?=some (.own n))(hs:st[i]?=some (some (.lst ds))) :
  ∃p xs,σ[i]?=some (some (.ref p))/\p∈A/\G0 p=none/\H p=some (.lst xs)/\aM K C (eh n G0 A H) ds xs:=by
 refine ao6 (r.BO hk hs rfl) fun p a b c q=>?_
 exact aY q fun xs e w=>⟨p,xs,a,b,c,e,w⟩
def Uw:Bool->Kd | true=>.loc | false=>.old
theorem Val.Uw{K:aD}{σ:L2.St}{H H':Hp}{A:List av}{st:ig}{n:Bool}{d:D}{v:V}(r:RS K C G0 Γ σ H A st)(e:aH H H')(l:κ.le (Uw n)=true)(w:Val K C κ G0 A H H' d v):Rep K C (eh n G0 A H') d v:=by
 have:=w.le r e l
 cases n with
 | true=>exact this.1
 | false=>exact this
def zj(i:Nat)(f:DF):DS:=fun st=>match st[i]? with
 | some (some (.lst ds))=>match f st with
  | .ok d=>if ds.length<=5000 then .nx (st.set i (some (.lst (ds++[d])))) else .bad
  | .ex c p=>.ex c p st
  | .bad=>.bad
 | _=>.bad
theorem Ot{i:Nat}{n:Bool}{to:TE}(h:PE X e (tBM X.K "list" HJ (uC i) (zM (tD X.K C G0 Γ E f κ) Jk)))(na:qw Γ=true)(hk:Γ[i]?=some (.own n):=by rfl)(hl:κ.le (Uw n)=true:=by rfl)(hs:swapsWith e none pos.line X.env=pure false:=by rfl):PS X (.Expr e pos) (qi X.K C G0 Γ E k6 (zj i f)):=(vZ h hs).imp fun D σ H zz=>by
 walk_at"/"
 clear zz
 unfold zj at q
 split at q
 all_goals first
  | (rename_i z;split at z <;> (try split at z) <;> (try split at z) <;> cases z;done)
  | skip
 ·rename_i st' z
  split at z
  ·rename_i ds hs
   cases hf:f st with
   | bad=>rw[hf] at z;cases z
   | ex c p=>rw[hf] at z;cases z
   | ok d=>
    rw[hf] at z
    dsimp only at z
    split at z
    ·rename_i hlen
     cases z
     refine J7 (r.owned hk hs) fun p xs h1 h2 h3 h4 h5=>?_
     refine⟨_,h1,.inl ⟨rfl,xs,.of h4⟩,A,st,r,?_⟩
     rw[hf]
     intro v H' e' w
     have r':=r.mono e'
     have q5:aM X.K C (eh n G0 A H') ds xs:=h5.same (by
      unfold eh;cases n
      ·exact aI e'
      ·exact bO (aI e')) _
     refine⟨p,xs,v,rfl,rfl,e' _ _ h4,?_,?_⟩
     ·rw[h5.len]
      have:5001<=cK:=by rw[gn];decide
      lia
     ·obtain ⟨r2,e2⟩:=r'.mut na hk hs h1 h2 h3 ⟨ds,rfl⟩ (q5.app (.cons (w.Uw r e' hl) .nil))
      exact q _ _ A r2 ((aI e').trans e2)
    ·cases z
  ·cases z
 ·rename_i c p st' z
  split at z
  ·rename_i ds hs
   cases hf:f st with
   | bad=>rw[hf] at z;cases z
   | ok d=>rw[hf] at z;dsimp only at z;split at z <;> cases z
   | ex c p=>
    rw[hf] at z
    cases z
    refine J7 (r.owned hk hs) fun p' xs h1 h2 h3 h4 h5=>?_
    refine⟨_,h1,.inl ⟨rfl,xs,.of h4⟩,A,st,r,?_⟩
    rw[hf]
    exact fun H' e'=>q σ H' A (r.mono e') (aI e')
  ·cases z
 ·exact q.elim
end
def spD(K:aD)(C:Cfg)(n:Nat)(F:List D->R D)(k6:Bool):Sp:=fun vs H Q E=>∃ds,ds.length=n/\(aM K C H ds vs/\C.gl H)/\match F ds with
 | .ok d=>∀v H',aH H H'->RH K C k6 H H' d v->Q v H'
 | .ex c p=>∀H',aH H H'->KU E c p H'
 | .bad=>False
def cM(m:Nat)(Fb:DS):List D->R D:=fun ds=>match Fb (ds.map some++lT (m - ds.length) none) with
 | .rt d=>.ok d | .nx _=>.ok .cY | .ex c p _=>.ex c p | _=>.bad
section
variable {K:aD}{C:Cfg}{Γ:List SK}{H:Hp}
theorem mw:er H []=H:=by funext a;exact b9 (by simp)
theorem Ou{ds:List D}(hn:ds.length=n)(CV:∀i,i < n->Γ[i]?=some .par)(q:aM K C H ds vs)(hgl:C.gl H):RS K C H Γ (L2.start N vs) H [] (ds.map some++lT (N.length - ds.length) none) where
 base:=by rw[mw];exact .refl _
 lists:=fun a m=>by cases m
 len:=by unfold L2.start;simp[q.len]
 slot:=fun i d h=>by
  have hi:i < ds.length:=by
   apply FJ
   intro iF
   rw[nj (by simp;lia)] at h
   simp at h
   rw[ud] at h
   split at h <;> cases h
  rw[qR (by simpa using hi),dm] at h
  cases hd:ds[i]? with
  | none=>rw[hd] at h;cases h
  | some d'=>
   rw[hd] at h;cases h
   refine aY (q.get' hd) fun v h1 h2=>?_
   refine⟨.par,v,CV i (by lia),?_,?_⟩
   ·unfold L2.start
    rw[qR (by rw[bh,q.len];exact hi),dm,h1];rfl
   ·show Rep K C (er H []) d v
    rw[mw];exact h2
 gl:=hgl
 apart:=fun i j a b p Gx es n6 g1 g2 s1 s2 w1 w2=>by
  have hi:i < ds.length:=by
   apply FJ
   intro iF
   rw[nj (by simp;lia)] at s1
   simp at s1
   rw[ud] at s1
   split at s1 <;> cases s1
  rw[CV i (by lia)] at g1;cases g1
theorem Wl{P:dh}{w:bN}{mg:Str->Option aq}{base:aX}{x qual:Str}{st:bw}{f:av}{fd:gH}{N ps:List Str}{k n:Nat}{k6:Bool}{Fb:DS}(F:KH K x qual st f fd)(S:bV N ps (aQ st))(hn:ps.length=n)(CV:∀i,i < n->Γ[i]?=some .par)
  (body:∀(dM:aq),fd.code=dM->∀(A:bY) (outer:List Env) (s:az) (H:Hp) (E:XK),jy k (A.deeper (envOfC qual (aQ st) s.heap.objs.size f dM))->
   vo ((qf (pU P w) P w K mg base N qual (aQ st) f dM A outer s H E).fC (m8 (qf (pU P w) P w K mg base N qual (aQ st) f dM A outer s H E) fun _=>E)) (fF st) (qi K C H Γ (fun _=>E) k6 Fb)) :
  jY P w K mg base (pU P w) (k+1) f fd ps (spD K C n (cM N.length Fb) k6):=by
 refine zU F S (fun vs H Q E jd=>by obtain ⟨ds,h1,h2,_⟩:=jd;rw[h2.1.len,h1,hn]) fun dM hc A outer s H vs Q E hr n8=>?_
 refine cI n8 fun ds h1 h2 q=>?_
 clear n8
 refine⟨_,body dM hc A outer s H E hr,[],_,Ou h1 CV h2.1 h2.2,?_⟩
 unfold cM at q
 cases hf:Fb (ds.map some++lT (N.length - ds.length) none) with
 | nx st'=>
  rw[hf] at q
  intro dR H' A' r' e'
  refine q .cY H' (r'.g0) ?_
  have R:∀H:Hp,Rep K C H .cY .cY:=fun H=>by rw[Rep]
  cases k6 with
  | true=>exact⟨R (nw H H'),.not rfl rfl⟩
  | false=>exact R H'
 | bk st'=>rw[hf] at q;exact q.elim
 | ct st'=>rw[hf] at q;exact q.elim
 | rt d=>rw[hf] at q;exact q
 | ex c p st'=>rw[hf] at q;exact fun dR H' A' r' e'=>q H' r'.g0
 | bad=>rw[hf] at q;exact q.elim
end
section
def Ov:Bool->Kd | true=>.new | false=>.aO
theorem Ow{n:Nat}{Fd:List D->R D}{EG:Bool}{K:aD}:∀σ H Q,tD K C G0 Γ E (bZ Fd fs) (Ov EG) σ H Q->(∀st ds,fs st = .ok ds->ds.length=n)->Ny (spD K C n Fd EG) E (KW K C G0 Γ E fs κ) σ H Q:=fun σ H Q rR hlen=>by
 refine dS rR fun A st r q=>?_
 clear rR
 walk_at"."
 unfold bZ R.bind at q
 cases hf:fs st with
 | bad=>rw[hf] at q;exact q
 | ex c p=>rw[hf] at q;exact q
 | ok ds=>
  rw[hf] at q
  walk_at"*"
  intro vs H1 e1 w1
  refine⟨ds,hlen st ds hf,⟨w1.same Kd.rB _,C.glM (r.g0.trans e1) r.gl⟩,?_⟩
  cases hg:Fd ds with
  | bad=>rw[hg] at q;exact q
  | ex c p=>rw[hg] at q;exact fun H' e'=>q H' (e1.trans e')
  | ok d=>
   rw[hg] at q
   refine fun v H' e' w=>q v H' (e1.trans e') ?_
   cases EG with
   | true=>
    have w':Val K C .new G0 A H1 H' d v:=w
    exact w'.early e1
   | false=>exact w
theorem aW:∀st ds,aG st = .ok ds->ds.length=0:=fun st ds h=>by cases h;rfl
theorem au(h:∀st ds,fs st = .ok ds->ds.length=n):∀st ds,aa f fs st = .ok ds->ds.length=n+1:=fun st ds q=>by
 unfold aa R.bind at q
 cases hf:f st with
 | bad=>rw[hf] at q;cases q
 | ex c p=>rw[hf] at q;cases q
 | ok d=>
  rw[hf] at q
  walk_at"*"
  cases hg:fs st with
  | bad=>rw[hg] at q;cases q
  | ex c p=>rw[hg] at q;cases q
  | ok Gx=>
   rw[hg] at q;cases q
   rw[cS,h st _ hg]
theorem RJ{X:Cx}(Fn:jY X.prog X.w X.K X.mg X.base (pU X.prog X.w) k ff fd ps (spD X.K C n Fd EG))(hr:jy k X.A)(hm:X.mg x=some (.ref ff))(hk:u7 X.K (.ref ff)=true)(hb:Binds X.K fd ps [])
  (ha:PA (X.fC (m8 X E)) (e::es) (KW X.K C G0 Γ E fs κ)) (hlen:∀st ds,fs st = .ok ds->ds.length=n) (hg:Gl X x:=by rfl) (EA:(x==("__debug__" : Str))=false:=by decide) (he:bL (e::es) X.env=(false,eval e X.env)::bL es X.env:=by rfl) (z5:(backTo pos (bL es X.env)).any (·.1)=false:=by rfl) :
  PE (X.fC (m8 X E)) (.Call (.Name x p) (e::es) [] pos) (tD X.K C G0 Γ E (bZ Fd fs) (Ov EG)):=(Nz Fn hr hg hm hk hb ha EA he z5).imp fun σ H Q q=>Ow σ H Q q hlen
abbrev DB:=D->ig->Option ig
def gh(bind:DB)(F:DS):List D->ig->Out
 | [],st=>.nx st
 | d::ds,st=>match bind d st with
  | none=>.bad
  | some kj=>match F kj with
   | .nx st'=>gh bind F ds st'
   | .ct st'=>gh bind F ds st'
   | .bk st'=>.nx st'
   | o=>o
abbrev DI:=ig->R (List D)
def ir(g:DI)(bind:DB)(F:DS):DS:=fun st=>match g st with | .ok ds=>gh bind F ds st | .ex c p=>.ex c p st | .bad=>.bad
def qx(K:aD)(C:Cfg)(G0:Hp)(Γ:List SK)(t:TG)(bind:DB):Prop:=∀(σ:L2.St) (H:Hp) (A:List av) (st kj:ig) (d:D) (v:V) (Q:L2.St->Hp->Prop),RS K C G0 Γ σ H A st->Rep K C (er H A) d v->bind d st=some kj->
 (∀dR A',RS K C G0 Γ dR H A' kj->aH (er H A) (er H A')->(∀a∈A,a∈A')->Q dR H)->t v σ H Q
def eO(i:Nat):DB:=fun d st=>some (st.set i (some d))
def gP(i j:Nat):DB:=fun d st=>match d with | .tup [a,b]=>some ((st.set i (some a)).set j (some b)) | _=>none
theorem gQ{K:aD}{i:Nat}{k:SK}(hk:Γ[i]?=some k:=by rfl)(l:k.takes .old=true:=by rfl):qx K C G0 Γ (CL i) (eO i):=fun σ H A st kj d v Q r w hb q=>by
 cases hb
 refine cI (r.set (.refl _) hk l (κ:=.old) w) fun A' r' e' sb=>?_
 exact q _ A' r' e' sb
theorem nK{K:aD}{i j:Nat}{k k':SK}(hk:Γ[i]?=some k:=by rfl)(hj:Γ[j]?=some k':=by rfl)(l:k.takes .old=true:=by rfl)(l':k'.takes .old=true:=by rfl):qx K C G0 Γ (Zb K 2 (Na (CL i) (Na (CL j) Z9))) (gP i j):=fun σ H A st kj d v Q r w hb q=>by
 unfold gP at hb
 split at hb
 ·rename_i a b
  cases hb
  rw[Rep] at w
  refine bF w fun p xs bx h2 h3=>?_
  clear w
  walk_at"$"
  have Gj:=aH.tup (aL _ _) h2
  rw[aM] at h3
  obtain ⟨x,r1,rfl,wx,h3⟩:=h3
  rw[aM] at h3
  obtain ⟨y,r2,rfl,wy,h3⟩:=h3
  rw[aM] at h3
  subst h3
  refine⟨p,_,rfl,Gj,rfl,x,[y],rfl,y,[],rfl,rfl,?_⟩
  refine cI (r.set (.refl _) hk l (κ:=.old) wx) fun A1 s1 e1 b1=>?_
  refine cI (s1.set (.refl _) hj l' (κ:=.old) (wy.same e1 _)) fun A2 s2 e2 b2=>?_
  exact q _ A2 s2 (e1.trans e2) fun a m=>b2 a (b1 a m)
 ·cases hb
def JH(K:aD)(C:Cfg)(A:List av)(H1:Hp)(J:It)(ds:List D):Prop:=∀(i:Nat) (H:Hp) (A':List av),aH (er H1 A) (er H A')->(∀a∈A',H a≠none)->
 (∀d,ds[i]?=some d->J.go i H/\∀x H',J.yld i H x H'->aH H H'/\Rep K C (er H' A') d x)/\(ds[i]?=none->J.stop i H)
theorem uU{K:aD}{J:It}{ds:List D}{bind:DB}{g:TG}{A:List av}{H H1:Hp}{σ:L2.St}{st:ig}{D:Ends}(hB:qx K C G0 Γ g bind)(hJ:JH K C A H1 J ds)(r:RS K C G0 Γ σ H A st)(e1:aH H H1)(q:match gh bind F ds st with
   | .nx st'=>∀dR H' A',RS K C G0 Γ dR H' A' st'->aH (er H A) (er H' A')->D.nx dR H'
   | .bk st'=>∀dR H' A',RS K C G0 Γ dR H' A' st'->aH (er H A) (er H' A')->D.bk dR H'
   | .ct st'=>∀dR H' A',RS K C G0 Γ dR H' A' st'->aH (er H A) (er H' A')->D.ct dR H'
   | .rt d=>∀v H',aH G0 H'->RH K C k6 G0 H' d v->D.rt v H'
   | .ex c p st'=>∀dR H' A',RS K C G0 Γ dR H' A' st'->aH (er H A) (er H' A')->KU (E dR) c p H'
   | .bad=>False) :
  ∃W:Nat->Nat->L2.St->Hp->Prop,(∃m,W 0 m σ H1)/\∀i m σ H,W i m σ H->
   (J.stop i H/\D.nx σ H)\/(J.go i H/\∃N:L2.St->Hp->Prop,(∀dR H',N dR H'->∃m',m' < m/\W (i+1) m' dR H')/\∀x H',J.yld i H x H'->g x σ H' fun Bd H2=>qi K C G0 Γ E k6 F { D with nx:=N,ct:=N,bk:=D.nx } Bd H2):=by
 refine⟨fun i m dR H'=>m=ds.length - i/\i<=ds.length/\∃A' st',RS K C G0 Γ dR H' A' st'/\aH (er H1 A) (er H' A')/\gh bind F (ds.drop i) st'=gh bind F ds st,⟨ds.length,rfl,iA _,A,st,r.mono e1,.refl _,rfl⟩,?_⟩
 rintro i m CM H3 ⟨rfl,hi,A3,CN,r3,e3,g3⟩
 obtain ⟨ou,nZ⟩:=hJ i H3 A3 e3 (fun a m=>by obtain ⟨xs,q,_⟩:=r3.lists a m;rw[q];simp)
 cases hd:ds[i]? with
 | none=>
  have:ds.drop i=[]:=List.drop_eq_nil_iff.mpr (nv.mp hd)
  rw[this] at g3
  rw[<- g3] at q
  exact .inl ⟨nZ hd,q CM H3 A3 r3 ((aI e1).trans e3)⟩
 | some d=>
  obtain ⟨go,yl⟩:=ou d hd
  have iF:i < ds.length:=(gz.mp hd).1
  have hdr:ds.drop i=d::ds.drop (i+1):=by
   rw[ug iF]
   congr 1
   exact(gz.mp hd).2
  refine .inr ⟨go,fun dR H'=>∃A' st',RS K C G0 Γ dR H' A' st'/\aH (er H1 A) (er H' A')/\gh bind F (ds.drop (i+1)) st'=gh bind F ds st,fun dR H' EC=>EC.elim fun A' G9=>G9.elim fun st' ED=>ED.elim fun h1 CJ=>CJ.elim fun h2 h3=>⟨ds.length - (i+1),by lia,rfl,iF,A',st',h1,h2,h3⟩,fun x H' hy=>?_⟩
  obtain ⟨e4,wx⟩:=yl x H' hy
  rw[hdr,gh] at g3
  cases hb:bind d CN with
  | none=>rw[hb] at g3;rw[<- g3] at q;exact q.elim
  | some Uh=>
   rw[hb] at g3
   dsimp only at g3
   refine hB CM H' A3 CN Uh d x _ (r3.mono e4) wx hb fun σ5 A5 r5 e5 _=>⟨A5,Uh,r5,?_⟩
   have RK:aH (er H1 A) (er H' A5):=(e3.trans (aI e4)).trans e5
   cases hf:F Uh with
   | nx Be=>rw[hf] at g3;exact fun Vn H6 A6 r6 e6=>⟨A6,Be,r6,RK.trans e6,g3⟩
   | ct Be=>rw[hf] at g3;exact fun Vn H6 A6 r6 e6=>⟨A6,Be,r6,RK.trans e6,g3⟩
   | bk Be=>rw[hf] at g3;rw[<- g3] at q;exact fun Vn H6 A6 r6 e6=>q Vn H6 A6 r6 (((aI e1).trans RK).trans e6)
   | rt d=>rw[hf] at g3;rw[<- g3] at q;exact q
   | ex c p Be=>rw[hf] at g3;rw[<- g3] at q;exact fun Vn H6 A6 r6 e6=>q Vn H6 A6 r6 (((aI e1).trans RK).trans e6)
   | bad=>rw[hf] at g3;rw[<- g3] at q;exact q.elim
def jA(f:DF):DI:=fun st=>match f st with | .ok (.lst ds)=>.ok ds | .ok _=>.bad | .ex c p=>.ex c p | .bad=>.bad
theorem ja{tg iter:bH}{bind:DB}{g:TG}(hp:PassesOwn (aC X.prog X.w) X.A X.env X.xe)(hc:X.calm=true)(he:PE X iter (tD X.K C G0 Γ E f κ))(l:κ.le .old=true)(hg:PG X tg g)(hB:qx X.K C G0 Γ g bind)(hb:vo X ss (qi X.K C G0 Γ E k6 F))(hs:∀x,vh iter X.env x=pure x:=by intro _;rfl) :
  PS X (.For tg iter ss [] pos) (qi X.K C G0 Γ E k6 (ir (jA f) bind F)):=(FW hp hc (HF he) hg hb hs).imp fun D σ H zz=>by
 walk_at"/"
 clear zz
 walk_at"."
 unfold ir jA at q
 cases hf:f st with
 | bad=>rw[hf] at q;exact q.elim
 | ex c p=>rw[hf] at q;exact fun H' e'=>q σ H' A (r.mono e') (aI e')
 | ok d=>
  rw[hf] at q
  cases d with
  | lst ds=>
   walk_at"*"
   intro v H1 e1 w
   have w':Rep X.K C (er H1 A) (.lst ds) v:=w.le r e1 (κ':=.old) l
   rw[Rep] at w'
   refine bF w' fun a xs bx h2 h3=>?_
   clear w'
   walk_at"$"
   refine⟨a,rfl,⟨xs,(aL _ _).seq h2⟩,?_⟩
   refine uU hB (fun i H3 A3 e3 _=>⟨fun d hd=>?_,fun hd=>?_⟩) r e1 q
   ·refine aY (h3.get' hd) fun v hv rv=>?_
    have s3:ko X.K H3 a xs:=(e3.trans (aL _ _)).seq h2
    refine⟨⟨xs,v,s3,hv⟩,fun x H' Ew=>?_⟩
    obtain ⟨hH,hx⟩:=Ew
    subst hH
    have:=hx xs s3
    rw[hv] at this;cases this
    exact⟨.refl _,rv.same ((aL _ _).trans e3) _⟩
   ·exact⟨xs,(e3.trans (aL _ _)).seq h2,by rw[h3.len];exact nv.mp hd⟩
  | _=>exact q.elim
def uV(fs:DA):DI:=fun st=>match fs st with | .ok [.int j]=>if (decide (-(2 ^ 62)<=j)&&decide (j < 2 ^ 62))=true then .ok ((dj j.toNat).map fun i=>.int (i:Nat)) else .bad | .ok _=>.bad | .ex c p=>.ex c p | .bad=>.bad
theorem nM{tg:bH}{bind:DB}{g:TG}{p:Pos}(hp:PassesOwn (aC X.prog X.w) X.A X.env X.xe)(hc:X.calm=true)(hm:X.mg "range" =none)(ha:PA X [a] (KW X.K C G0 Γ E fs κ))(hg:PG X tg g)(hB:qx X.K C G0 Γ g bind)(hb:vo X ss (qi X.K C G0 Γ E k6 F))(hgl:Gl X "range":=by rfl)
  (hs1:bL [a] X.env=[(false,eval a X.env)]:=by rfl) (hs:∀x,vh (.Call (.Name "range" p) [a] [] pos) X.env x=pure x:=by intro _;rfl) {pos':Pos} :
  PS X (.For tg (.Call (.Name "range" p) [a] [] pos) ss [] pos') (qi X.K C G0 Γ E k6 (ir (uV fs) bind F)):=(FW hp hc (Jf hgl hm ha hs1) hg hb hs).imp fun D σ H zz=>by
 walk_at"/"
 clear zz
 walk_at"."
 unfold ir at q
 cases hg:uV fs st with
 | bad=>rw[hg] at q;exact q.elim
 | ex c p=>
  rw[hg] at q
  have hf:fs st = .ex c p:=by
   unfold uV at hg
   split at hg
   ·split at hg <;> cases hg
   ·cases hg
   ·rename_i z;rw[z];cases hg;rfl
   ·cases hg
  rw[hf]
  exact fun H' e'=>q σ H' A (r.mono e') (aI e')
 | ok Gx=>
  rw[hg] at q
  unfold uV at hg
  split at hg
  ·rename_i j hf
   rw[hf]
   split at hg
   ·rename_i hc
    cases hg
    simp only[cu,aH7] at hc
    intro vs H1 e1 w1
    refine aY (pG w1) fun v jx wv=>?_
    obtain rfl:=jx
    obtain rfl:v = .int j:=by rw[Rep] at wv;exact wv
    refine⟨j,rfl,hc.1,hc.2,?_⟩
    refine uU hB (fun i H3 A3 e3 _=>⟨fun d hd=>?_,fun hd=>?_⟩) r e1 q
    ·rw[dm] at hd
     have hi:i < j.toNat:=by
      apply FJ
      intro iF
      rw[uq (by simpa using iF)] at hd
      cases hd
     rw[LQ hi] at hd
     cases hd
     refine⟨hi,fun x H' Ey=>?_⟩
     obtain ⟨hH,hx⟩:=Ey
     subst hH;subst hx
     refine⟨.refl _,?_⟩
     rw[Rep,MY]
    ·show j.toNat<=i
     have:=nv.mp hd
     simpa using this
   ·cases hg
  ·cases hg
  ·cases hg
  ·cases hg
end
section
def nN(g g':D->D->R D)(fa fb fc:DF):DF:=fun st=>(fa st).bind fun a=>(fb st).bind fun b=>(g a b).bind fun z=>match z with
 | .bl true=>(fc st).bind fun c=>g' b c
 | .bl false=>.ok (.bl false)
 | _=>.bad
theorem Aa{K:aD}{r2 YG:R2}{g g':D->D->R D}(ho:vS K C r2 g .new)(CF:vS K C YG g' .new):∀σ H Q,tD K C G0 Γ E (nN g g' fa fb fc) .new σ H Q->FY r2 YG (tD K C G0 Γ E fa aK) (tD K C G0 Γ E fb cW) (tD K C G0 Γ E fc EG) σ H Q:=fun σ H Q zz=>by
 walk_at"/"
 clear zz
 walk_at"."
 unfold nN R.bind at q
 cases ha:fa st with
 | bad=>rw[ha] at q;exact q
 | ex c p=>rw[ha] at q;exact q
 | ok a=>
  rw[ha] at q
  intro x H1 e1 w1
  refine⟨A,st,r.mono e1,?_⟩
  walk_at"*"
  cases hb:fb st with
  | bad=>rw[hb] at q;exact q
  | ex c p=>rw[hb] at q;exact fun H' e'=>q H' (e1.trans e')
  | ok b=>
   rw[hb] at q
   intro y H2 e2 w2
   walk_at"*"
   have nJ:=e1.trans e2
   refine ho G0 Γ (E σ) σ A st H2 a b x y _ (r.mono nJ) (w1.rep.same e2 _) w2.rep ?_
   cases hg:g a b with
   | bad=>rw[hg] at q;exact q
   | ex c p=>rw[hg] at q;exact fun H' e'=>q H' (nJ.trans e')
   | ok z=>
    rw[hg] at q
    cases z with
    | bl k=>
     intro v H3 e3 w3
     refine⟨k,vbl w3,?_⟩
     have yk:=nJ.trans e3
     cases k with
     | false=>rw[aH3 iK];exact q _ H3 yk (.flat r yk (by rw[gM] <;> simp) BK _)
     | true=>
      rw[aH2 rfl]
      refine⟨A,st,r.mono yk,?_⟩
      walk_at"*"
      cases hc:fc st with
      | bad=>rw[hc] at q;exact q
      | ex c p=>rw[hc] at q;exact fun H' e'=>q H' (yk.trans e')
      | ok c=>
       rw[hc] at q
       intro w' H4 e4 w4
       walk_at"*"
       refine CF G0 Γ (E σ) σ A st H4 b c y w' Q (r.mono (yk.trans e4)) (w2.rep.same (e3.trans e4) _) w4.rep ?_
       cases O3:g' b c with
       | bad=>rw[O3] at q;exact q
       | ex c p=>rw[O3] at q;exact fun H' e'=>q H' ((yk.trans e4).trans e')
       | ok d=>rw[O3] at q;exact fun v H' e' w=>q v H' ((yk.trans e4).trans e') (w.early (yk.trans e4))
    | _=>exact q.elim
theorem Ds(hr:qt X (iz op) r2)(Ox:qt X (iz Ni) YG)(ho:vS X.K C r2 g .new)(CF:vS X.K C YG g' .new)(ha:PE X a (tD X.K C G0 Γ E fa aK))(hb:PE X b (tD X.K C G0 Γ E fb cW))(hc:PE X c (tD X.K C G0 Γ E fc EG))
  (hm:lastMarks [op,Ni] [b,c]=false:=by with_unfolding_all rfl):PE X (.Compare a [op,Ni] [b,c] pos) (tD X.K C G0 Γ E (nN g g' fa fb fc) .new):=(Nh hr Ox ha hb hc hm).imp (Aa ho CF)
theorem Oz(hr:qt X (iz op) r2)(Ox:qt X (iz Ni) YG)(ho:vS X.K C r2 g .new)(CF:vS X.K C YG g' .new)(ha:PE X a (tD X.K C G0 Γ E fa aK))(hb:PE X b (tD X.K C G0 Γ E fb cW))(hc:PE X c (tD X.K C G0 Γ E fc EG))
  (hm:lastMarks [op,Ni] [b,c]=false:=by with_unfolding_all rfl):PT X (.Compare a [op,Ni] [b,c] pos) (yg X.K C G0 Γ E (nN g g' fa fb fc)):=(Nj hr Ox ha hb hc hm).imp fun σ H Q zz=>by
 walk_at"/"
 clear zz
 refine Aa ho CF σ H _ ⟨A,st,r,?_⟩
 cases hf:nN g g' fa fb fc st with
 | bad=>rw[hf] at q;exact q
 | ex c p=>rw[hf] at q;exact q
 | ok d=>
  rw[hf] at q
  cases d with
  | bl b=>exact fun v H' e' w=>⟨b,vbl w,q H' e'⟩
  | _=>exact q.elim
def ay4:D->R D:=fun a=>match a with | .int i=>.ok (.int (-i)) | _=>.bad
def cutD(ds:List D)(lo hi:Option Int):List D:=(ds.drop (HT.zR ds.length 0 lo)).take (HT.zR ds.length ds.length hi - HT.zR ds.length 0 lo)
def qy(o:Option DF):ig->R (Option Int):=fun st=>match o with
 | none=>.ok none
 | some f=>(f st).bind fun d=>match d with | .int i=>.ok (some i) | _=>.bad
def KY(fa:DF)(lo hi:Option DF):DF:=fun st=>(fa st).bind fun a=>(qy lo st).bind fun l=>(qy hi st).bind fun h=>match a with
 | .lst ds=>if ez ds=true then .ok (.lst (cutD ds l h)) else .bad
 | _=>.bad
def tDO(K:aD)(C:Cfg)(G0:Hp)(Γ:List SK)(E:L2.St->XK)(o:Option DF):TO:=fun σ H Q=>∃A st,RS K C G0 Γ σ H A st/\match qy o st with
 | .ok i=>∀H',aH H H'->Q i H'
 | .ex c p=>∀H',aH H H'->KU (E σ) c p H'
 | .bad=>False
theorem BP:PO X none (tDO X.K C G0 Γ E none):=fun pins s σ H Q I jd=>jd.elim fun A n8=>n8.elim fun st rR=>rR.elim fun r q=>QX pins s σ H Q I (q H (.refl _))
theorem BQ(h:PE X e (tD X.K C G0 Γ E f κ)):PO X (some e) (tDO X.K C G0 Γ E (some f)):=fun pins s σ H Q I EC=>EC.elim fun A G9=>G9.elim fun st ED=>ED.elim fun r q=>QY h pins s σ H Q I ⟨A,st,r,by
 unfold qy R.bind at q
 cases hf:f st with
 | bad=>simp only[hf] at q
 | ex c p=>simp only[hf] at q;exact q
 | ok d=>
  simp only[hf] at q
  cases d with
  | int i=>exact fun v H' e' w=>⟨i,by have:=w.rep;rw[Rep] at this;exact this,q H' e'⟩
  | _=>exact q.elim⟩
theorem OA{K:aD}{H:Hp}{ds:List D}{xs:List V}{lo hi:Option Int}(q:aM K C H ds xs):aM K C H (cutD ds lo hi) (Jm xs lo hi):=by
 unfold cutD Jm
 rw[q.len]
 exact(q.drop _).take _
theorem JI:∀{ds:List D} (n:Nat),ez ds=true->ez (ds.take n)=true:=fun n h=>fM fun d hd=>kZ h (oH hd)
theorem JJ:∀{ds:List D} (n:Nat),ez ds=true->ez (ds.drop n)=true:=fun n h=>fM fun d hd=>kZ h (um hd)
theorem OB{ds es:List D}(h:ez ds=true)(h':ez es=true):ez (ds++es)=true:=fM fun d hd=>(gy.mp hd).elim (kZ h) (kZ h')
theorem yo{lo hi:Option bH}{fl fh:Option DF}{p2:Pos}(he:PE X e (tD X.K C G0 Γ E fa aK))(hl:PO X lo (tDO X.K C G0 Γ E fl))(hu:PO X hi (tDO X.K C G0 Γ E fh)):PE X (.Subscript e (.Slice lo hi none p2) pos) (tD X.K C G0 Γ E (KY fa fl fh) .new):=(Nn R8 he hl hu).imp fun σ H Q zz=>by
 walk_at"/"
 clear zz
 walk_at"."
 unfold KY R.bind at q
 cases ha:fa st with
 | bad=>rw[ha] at q;exact q
 | ex c p=>rw[ha] at q;exact q
 | ok a=>
  rw[ha] at q
  intro x H1 e1 w1
  refine⟨A,st,r.mono e1,?_⟩
  walk_at"*"
  cases hb:qy fl st with
  | bad=>rw[hb] at q;exact q
  | ex c p=>rw[hb] at q;exact fun H' e'=>q H' (e1.trans e')
  | ok l=>
   rw[hb] at q
   intro H2 e2
   refine⟨A,st,r.mono (e1.trans e2),?_⟩
   walk_at"*"
   cases hc:qy fh st with
   | bad=>rw[hc] at q;exact q
   | ex c p=>rw[hc] at q;exact fun H' e'=>q H' ((e1.trans e2).trans e')
   | ok h=>
    rw[hc] at q
    intro H3 e3
    walk_at"*"
    cases a with
    | lst ds=>
     walk_at"*"
     by_cases n:ez ds=true
     ·rw[aH2 n] at q
      refine bF ((w1.rep.same (e2.trans e3) _).items) fun p xs bx h2 h3=>?_
      walk_at"$"
      have yk:=(e1.trans e2).trans e3
      refine⟨p,xs,rfl,h2,fun l' Ib=>q _ _ (yk.trans (cV Ib)) (.lst r yk Ib ?_)⟩
      exact(OA h3).part (.nw yk) _ (JI _ (JJ _ n))
     ·rw[aH3 n] at q;exact q.elim
    | _=>exact q.elim
def Ux(K:aD):R2:=fun x y H Q=>∃l b xs zs,x = .ref l/\y = .ref b/\ko K H l xs/\ko K H b zs/\xs.length+zs.length<=cK/\∀p,H p=none->Q (.ref p) (upd H p (.lst (xs++zs)))
theorem BR:qt X (binaryOp .Add) (Ux X.K):=by
 intro pins s σ H x y v u Q I rx ry h
 refine ap1 h fun l b xs zs Np R7 hH hB hz q=>?_
 clear h
 obtain rfl:=Np
 obtain rfl:=R7
 cases rx
 cases ry
 refine cI (I.list hH) fun bA r p1 _=>?_
 refine cI (I.list hB) fun Wm r2 p2 _=>?_
 obtain ⟨⟨cls,dd,data,sl⟩,ho,hc,n,hd⟩:=id p1.isList
 obtain ⟨⟨ae3,YA,data2,YB⟩,Ul,KP,n2,hd2⟩:=id p2.isList
 simp only at hc hd KP hd2
 subst hc hd KP hd2
 have l1:=r.length
 have l2:=r2.length
 refine concat_meets ⟨_,ho,rfl⟩ ⟨_,Ul,rfl⟩ noFill_list_add seq_list_add PySem.F.slot_list_add PySem.F.entry_list_add (PySem.F.args_list_add_2 _ _) (list_addW l b bA.toArray Wm.toArray n n2 dd YA sl YB (by simp;lia)) ⟨ho,Ul,?_⟩
 have ea:bA.toArray++Wm.toArray=(bA++Wm).toArray:=by simp
 rw[ea]
 exact⟨.ref _,_,I.aw2 (t':=s.toks) (r.append r2) (by rw[bU];lia),rfl,q _ I.fresh⟩
def rD:D->D->R D:=fun a b=>match a,b with
 | .lst ds,.lst es=>if (ez ds&&ez es&&decide (ds.length+es.length<=5000))=true then .ok (.lst (ds++es)) else .bad
 | _,_=>.bad
theorem BS{K:aD}:vS K C (Ux K) rD .new:=fun G0 Γ E σ A st H a b x y Q r qa qb q=>by
 cases hg:rD a b with
 | bad=>rw[hg] at q;exact q.elim
 | ex c p=>unfold rD at hg;split at hg <;> (try split at hg) <;> cases hg
 | ok d=>
  rw[hg] at q
  unfold rD at hg
  split at hg
  ·rename_i ds es
   split at hg
   ·rename_i hc
    cases hg
    simp only[cu,aH7] at hc
    refine bF qa.items fun p xs bx h2 h3=>?_
    walk_at"$"
    refine bF qb.items fun p' ys bx Gj h3'=>?_
    walk_at"$"
    refine⟨p,p',xs,ys,rfl,rfl,h2,Gj,?_,fun l hl=>q _ _ (cV hl) (.lst r (.refl _) hl ?_)⟩
    ·rw[h3.len,h3'.len]
     have:5000<=cK:=by rw[gn];decide
     lia
    ·exact(h3.app h3').part (.nw (.refl _)) _ (OB hc.1.1 hc.1.2)
   ·cases hg
  ·cases hg
def JK:D->Option (List Int)
 | .tup ds=>ds.mapM fun d=>match d with | .int i=>some i | _=>none
 | _=>none
theorem RL:∀{d:D} {ns:List Int},JK d=some ns->d = .tup (ns.map D.int)
 | .tup ds,ns,h=>by
  rw[JK] at h
  congr 1
  revert ns
  induction ds with
  | nil=>intro ns h;simp at h;subst h;rfl
  | cons d ds ih=>
   intro ns h
   rw[Fl] at h
   cases d with
   | int i=>
    dsimp only at h
    cases hm:ds.mapM fun d=>match d with | .int i=>some i | _=>(none:Option Int) with
    | none=>rw[hm] at h;cases h
    | some ms=>
     rw[hm] at h
     have h':i::ms=ns:=eY h
     subst h'
     rw[aZ,<- ih ms hm]
   | _=>cases h
def Ab(ds:List D):Option (List (List Int)):=ds.mapM JK
theorem Dt:∀{ds:List D} {kB:List (List Int)},Ab ds=some kB->ds=kB.map fun ns=>.tup (ns.map D.int)
 | [],kB,h=>by
  have h':some []=some kB:=h
  cases h';rfl
 | d::ds,kB,h=>by
  unfold Ab at h
  rw[Fl] at h
  cases hd:JK d with
  | none=>rw[hd] at h;cases h
  | some ns=>
   rw[hd] at h
   cases hm:ds.mapM JK with
   | none=>rw[hm] at h;cases h
   | some ms=>
    rw[hm] at h
    have h':ns::ms=kB:=eY h
    subst h'
    rw[aZ,<- Dt (ds:=ds) hm,RL hd]
def mO(kB:List (List Int)):Bool:=match kB with | []=>true | ns::_=>decide (ns.length≠0)&&kB.all fun ms=>decide (ms.length=ns.length)
theorem Du(h:mO kB=true):Rows kB:=by
 cases kB with
 | nil=>exact⟨0,fun ns hm=>by cases hm⟩
 | cons ns kB=>
  unfold mO at h
  rw[cu] at h
  have h1:ns.length≠0:=by simpa using h.1
  refine⟨ns.length - 1,fun ms hm=>?_⟩
  have:=gI.mp h.2 ms hm
  have:ms.length=ns.length:=by simpa using this
  lia
def qj(ns:List Int):D:=.tup (ns.map D.int)
theorem RM(ns:List Int):gM (qj ns)=true:=by
 unfold qj
 rw[gM]
 exact fM fun d hd=>by
  refine aY (aS.mp hd) fun n _ bx=>?_
  walk_at"$"
  rw[gM] <;> simp
theorem JL(kB:List (List Int)):ez (kB.map qj)=true:=fM fun d hd=>by
 refine aY (aS.mp hd) fun n _ bx=>?_
 walk_at"$"
 exact RM n
def aE2:List D->R D:=fun ds=>match ds with
 | [.lst es]=>match Ab es with
  | some kB=>if (mO kB&&decide (kB.length < 64))=true then .ok (.lst (gq es)) else .bad
  | none=>.bad
 | _=>.bad
def dd{α:Type}[DecidableEq α]:List α->List α
 | []=>[]
 | x::xs=>if x∈xs then dd xs else x::dd xs
theorem uW[DecidableEq α]:∀{xs:List α},x∈dd xs↔x∈xs
 | []=>Iff.rfl
 | y::ys=>by
  rw[dd]
  split
  ·rename_i h
   rw[uW,bP]
   constructor
   ·exact .inr
   ·rintro (rfl | q)
    ·exact h
    ·exact q
  ·rw[bP,bP,uW]
theorem t6[DecidableEq α]:∀(xs:List α),(dd xs).Nodup
 | []=>.nil
 | y::ys=>by
  rw[dd]
  split
  ·exact t6 ys
  ·rename_i h
   exact jF.mpr ⟨fun q=>h (uW.mp q),t6 ys⟩
def l6:D->R D:=fun a=>match a with
 | .lst es=>match Ab es with
  | some kB=>if (mO kB&&decide (kB.length<=50))=true then .ok (.lst (gq ((dd kB).map qj))) else .bad
  | none=>.bad
 | _=>.bad
theorem Dv{es:List D}(hs:∀a∈ds,∀b∈ds,iG a b=true)(hp:es.Perm ds):gq es=gq ds:=sO hs ((cR es).trans hp) (mK es)
end
section
theorem Wn:lE "set" =some (.type "set"):=by decide +kernel
theorem Ac:lE "sorted" =some (.builtin "sorted"):=by decide +kernel
theorem OC(h:Rows kB):∀a∈kB.map qj,∀b∈kB.map qj,iG a b=true:=fun a ha b hb=>by
 obtain ⟨n,hn⟩:=h
 refine aY (aS.mp ha) fun x hx bx=>?_
 walk_at"$"
 refine aY (aS.mp hb) fun y hy bx=>?_
 walk_at"$"
 unfold qj
 rw[iG]
 exact uP (by rw[hn x hx,hn y hy])
theorem Wo(l:List (List Int)):(dd l).length<=l.length:=by
 induction l with
 | nil=>exact bf _
 | cons x l ih=>
  rw[dd]
  split
  ·exact Nat.le_succ_of_le ih
  ·rw[cS,cS];lia
theorem GB(hh:X.A.handled=none)(hu:X.A.units+64 < cLine)(hm:X.mg "sorted" =none)(hm2:X.mg "set" =none)(he:PE X e (tD X.K C G0 Γ E f κ))(hg:Gl X "sorted":=by rfl)(hg2:Gl X "set":=by rfl)
  (h1:bL [Expr.Call (.Name "set" p2) [e] [] RN] X.env=[(false,eval (.Call (.Name "set" p2) [e] [] RN) X.env)]:=by rfl) (h2:bL [e] X.env=[(false,eval e X.env)]:=by rfl) :
  PE X (.Call (.Name "sorted" p1) [.Call (.Name "set" p2) [e] [] RN] [] pos) (tD X.K C G0 Γ E (wz l6 f) .new):=by
 have P1:PE X (.Call (.Name "set" p2) [e] [] RN) (Yq (Ij X C) (zM (tD X.K C G0 Γ E f κ) Jk)):=fS (JE hh hu) hg2 hm2 Wn (iU he m7 h2) (by decide) (by decide) h2
 have P2:PE X (.Call (.Name "sorted" p1) [.Call (.Name "set" p2) [e] [] RN] [] pos) (Yq (Gw X C) (zM (Yq (Ij X C) (zM (tD X.K C G0 Γ E f κ) Jk)) Jk)):=gD (BI hh hu) hg hm Ac (iU P1 m7 h1) (by decide) (by decide) h1
 refine P2.imp fun σ H Q jd=>jd.elim fun A n8=>n8.elim fun st rR=>rR.elim fun r q=>⟨A,st,r,?_⟩
 unfold wz R.bind at q
 cases hf:f st with
 | bad=>rw[hf] at q;exact q
 | ex c p=>rw[hf] at q;exact q
 | ok d=>
  rw[hf] at q
  walk_at"*"
  intro v H1 e1 w1
  show Ij X C [v] H1 (fun x H2=>Gw X C [x] H2 Q)
  cases hg:l6 d with
  | bad=>rw[hg] at q;exact q.elim
  | ex c p=>unfold l6 at hg;split at hg <;> (try split at hg) <;> (try split at hg) <;> cases hg
  | ok d'=>
   rw[hg] at q
   unfold l6 at hg
   split at hg
   ·rename_i es
    split at hg
    ·rename_i kB hr
     split at hg
     ·rename_i hc
      cases hg
      simp only[cu,aH7] at hc
      have he:=Dt hr
      have Wq:=Du hc.1
      refine⟨v,kB,rfl,by rw[<- he];exact w1.rep,hc.2,fun p zs hp Gs nod mm=>?_⟩
      have pz:(zs.map (·.1)).Perm (dd kB):=(LX nod (t6 kB)).mpr fun ns=>by rw[mm ns,uW]
      have hl:zs.length<=50:=by
       have h1:=pz.length_eq
       rw[bh] at h1
       have:=Wo kB
       lia
      have hR:Rows (zs.map (·.1)):=by
       obtain ⟨n,hn⟩:=Wq
       exact⟨n,fun ns h=>hn ns ((mm ns).mp h)⟩
      have e2:aH H1 (upd H1 p (.ext (Oc X.prog X.w p zs))):=cV hp
      refine⟨p,zs,rfl,bS,fun z hz=>aH.tup e2 (Gs z hz),hl,hR,fun p' ws CG EF zb QM=>?_⟩
      have yk:=e1.trans e2
      refine q _ _ (yk.trans (cV EF)) (.lst r yk EF ?_)
      have hs:gq (CG.map qj)=gq ((dd kB).map qj):=Dv (OC (by obtain ⟨n,hn⟩:=Wq;exact⟨n,fun ns h=>hn ns (uW.mp h)⟩)) ((zb.trans pz).map _)
      have rw2:aM X.K C (upd H1 p (.ext (Oc X.prog X.w p zs))) (gq ((dd kB).map qj)) ws:=by rw[<- hs];exact QM
      exact rw2.part (.nw yk) _ (fM fun d hd=>kZ (JL _) ((cR _).mem_iff.mp hd))
     ·cases hg
    ·cases hg
   ·cases hg
def aG1(i:Nat)(fi f:DF):DS:=fun st=>match f st with
 | .ok d=>match st[i]? with
  | some (some (.lst ds))=>match fi st with
   | .ok (.int k)=>match QZ ds.length k with
    | some j=>.nx (st.set i (some (.lst (ds.set j d))))
    | none=>.bad
   | .ok _=>.bad
   | .ex c p=>.ex c p st
   | .bad=>.bad
  | _=>.bad
 | .ex c p=>.ex c p st
 | .bad=>.bad
def Dw(i j:Nat)(fs:DA):DS:=fun st=>match fs st with | .ok [a,b]=>.nx ((st.set i (some a)).set j (some b)) | .ok _=>.bad | .ex c p=>.ex c p st | .bad=>.bad
theorem OD{kt k2 Vj}(hc:X.calm=true)(hN:X.N.Nodup)(ha:PA X [a,b] (KW X.K C G0 Γ E fs .new))(n6:i≠j)(hk:Γ[i]?=some k:=by rfl)(hk':Γ[j]?=some k':=by rfl)
  (hl:k.takes .old=true:=by rfl) (Ib:k'.takes .old=true:=by rfl) (hi:X.N[i]?=some x:=by rfl) (hj:X.N[j]?=some y:=by rfl) (hx:X.env.scope.names.lookup x=some .local:=by rfl) (hy:X.env.scope.names.lookup y=some .local:=by rfl)
  (hw:swappedStores [.Tuple [.Name x px,.Name y py] kt pt] (.Tuple [a,b] k2 Vj) X.env=pure (some [x,y]):=by rfl)
  (hs:swapsWithSole [.Tuple [.Name x px,.Name y py] kt pt] (.Tuple [a,b] k2 Vj) pos.line X.env=pure false:=by rfl) :
  PS X (.Assign [.Tuple [.Name x px,.Name y py] kt pt] (.Tuple [a,b] k2 Vj) pos) (qi X.K C G0 Γ E k6 (Dw i j fs)):=(Vi hc hN hi hj n6 hx hy ha hw hs).imp fun D σ H zz=>by
 walk_at"/"
 clear zz
 walk_at"."
 unfold Dw at q
 cases hf:fs st with
 | bad=>rw[hf] at q;exact q
 | ex c p=>rw[hf] at q;exact fun H' e'=>q σ H' A (r.mono e') (aI e')
 | ok ds=>
  rw[hf] at q
  match ds,q with
  | [a,b],q=>
   intro vs H1 e1 w
   rw[aM] at w
   obtain ⟨v,r1,rfl,wa,w⟩:=w
   obtain ⟨v',rfl,wb⟩:=pG w
   refine⟨v,v',rfl,?_⟩
   have wa':Rep X.K C (er H1 A) a v:=wa.same (r.yf e1) _
   have wb':Rep X.K C (er H1 A) b v':=wb.same (r.yf e1) _
   refine cI ((r.mono e1).set (.refl _) hk hl (κ:=.old) wa') fun A1 s1 ee1 _=>?_
   refine cI (s1.set (.refl _) hk' Ib (κ:=.old) (wb'.same ee1 _)) fun A2 s2 ee2 _=>?_
   exact q _ _ A2 s2 (((aI e1).trans ee1).trans ee2)
  | [],q=>exact q.elim
  | [_],q=>exact q.elim
  | _::_::_::_,q=>exact q.elim
def Ad(bind:DB)(f:DF):DS:=fun st=>match f st with | .ok d=>(match bind d st with | some st'=>.nx st' | none=>.bad) | .ex c p=>.ex c p st | .bad=>.bad
theorem RO{tg:bH}{g:TG}{bind:DB}(he:PE X e (tD X.K C G0 Γ E f κ))(l:κ.le .old=true)(hg:PG X tg g)(hB:qx X.K C G0 Γ g bind)(hs:swapsWithSole [tg] e pos.line X.env=pure false:=by rfl)(hw:swappedStores [tg] e X.env=pure none:=by rfl)
  (h1:(rT [tg] X.env).map (·.2)=[assign tg X.env]:=by rfl):PS X (.Assign [tg] e pos) (qi X.K C G0 Γ E k6 (Ad bind f)):=(FQ he hg hs hw h1).imp fun D σ H zz=>by
 walk_at"/"
 clear zz
 walk_at"."
 unfold Ad at q
 cases hf:f st with
 | bad=>rw[hf] at q;exact q
 | ex c p=>rw[hf] at q;exact fun H' e'=>q σ H' A (r.mono e') (aI e')
 | ok d=>
  rw[hf] at q
  walk_at"*"
  intro v H1 e1 w
  cases hb:bind d st with
  | none=>rw[hb] at q;exact q.elim
  | some st'=>
   rw[hb] at q
   exact hB σ H1 A st st' d v _ (r.mono e1) (w.le r e1 (κ':=.old) l) hb fun dR A' r' e' _=>q dR H1 A' r' ((aI e1).trans e')
def zq(X:Cx)(P:L2.St->Prop)(n:Nat)(e:bH):Prop:=∀(pins:List (av×Obj)) (s:az) (σ:L2.St) (H:Hp) (Q:aq->az->Prop) (Ex:aq->az->Prop),L2.Inv X pins σ H s->P σ->(∀x t s',L2.Inv X pins σ H s'->x.length<=n->Q (.str x t) s')->aB (aC X.prog X.w) X.A (eval e X.env) Q Ex s
theorem kH{x:Str}{j}(h:x.length<=n:=by decide):zq X P n (.Constant (.str x) j pos):=fun pins s σ H Q Ex I p q=>TR (q _ _ _ (I.tok _) h)
theorem Dy(hm:X.mg x=some (.int i t))(hs:i.natAbs.log2 < 1920)(hl:(toString i:Str).length<=n)(hg:Gl X x:=by rfl)(hd:(x==("__debug__" : Str))=false:=by decide):zq X P n (.FormattedValue (.Name x p) (-1) none pos):=fun pins s σ H Q Ex I pp q=>
 FormattedValue_plain (rZ I hg hm (formatField_int_small hs (q _ _ _ (I.tok _) hl)) hd)
end
end Dm
end ay1
section ay5
namespace Dm
open PySem PySem.Spec PyProof.Rows L2 PySem.W
def RP(c:av):Nat:=c+3
end Dm
end ay5
section ay6
namespace Dm
open PySem PySem.Spec PyProof.Rows L2
abbrev yp(X:Cx)(scope:iI)(cl:List (Str×av))(N':List Str)(fp:List av)(s:az)(H:Hp)(L:av):Cx:=
 { X with N:=N',ji:=s,N7:=H,env:=compEnvC scope cl L X.env,outer:=X.stack,ex:=fp,fn:=fun _=>false,pn:=[],xe:=fun _ _=>False }
def YH(X:Cx)(scope:iI)(cl:List (Str×av)):List (Nat×Str)->Prop
 | []=>True
 | (i,x)::r=>(X.N[i]?=some x/\X.env.kindOf x=some .cell/\cl.lookup x=X.env.cells.lookup x/\(relabel scope X.env).names.lookup x=some .cell)/\YH X scope cl r
theorem YH.get:∀{l:List (Nat×Str)} {p:Nat×Str},YH X scope cl l->p∈l->X.N[p.1]?=some p.2/\X.env.kindOf p.2=some .cell/\cl.lookup p.2=X.env.cells.lookup p.2/\(relabel scope X.env).names.lookup p.2=some .cell
 | _::_,_,h,.head _=>h.1
 | _::_,_,h,.tail _ m=>h.2.get m
section
theorem Wr(I:L2.Inv X pins σ H s)(hk:scope.kind = .function)(hL:s.heap.objs.size<=L)(zT:∀x c,cl.lookup x=some c->X.env.cells.lookup x=some c)(JM:∀x,((relabel scope X.env).names.lookup x=some .cell\/(relabel scope X.env).names.lookup x=some .free)->∃c,cl.lookup x=some c)
  (hf:∀b∈fp,Bc X pins H b) (hfs:∀b∈fp,b < s.heap.objs.size):(yp X scope cl N' fp s H L).Ok where
 mod:=I.ok.mod
 kind:=hk
 glob:=I.ok.glob
 blt:=I.ok.blt
 above:=hL
 inj:=fun x y c h1 h2=>I.ok.inj x y c (zT _ _ h1) (zT _ _ h2)
 has:=JM
 Yn:=fun x c z=>(nomatch z)
 hd:=I.ok.hd
 frames:=I.ok.frames
 N8:=.inl rfl
 YW:=fun b hb=>⟨di (iJ (hfs b hb) hL),fun x c h=>(hf b hb).2.2.2.2.1 x c (zT _ _ h)⟩
 bs:=I.bs
 Qq:=cC I.ok.Qq I.sz
 J9:=fun b o e hb=>by
  rcases (hf b hb).2.2.2.1 with z | z
  ·exact I.ok.J9 b o e z
  ·exact aI4 (iJ (bX e) (cC I.ok.Qq z)) (rV _)
 Ja:=fun b hb z=>by
  rcases bP.mp (I.FO b z) with e | e
  ·exact(hf b hb).2.1 e
  ·exact(hf b hb).2.2.1 e
 uB:=I.stack
 TY:=I.HA
def pH{α:Type}(k:Nat)(fr:List Nat)(σ:List (Option α)):List (Option α):=lT k none++fr.map fun i=>(σ[i]?).join
theorem Dz(h:(pH k fr σ)[j]?=some (some v)):∃i,k<=j/\fr[j - k]?=some i/\σ[i]?=some (some v):=by
 unfold pH at h
 by_cases hj:j < k
 ·rw[qR (by simpa using hj),ud,aH2 hj] at h;cases h
 ·rw[nj (by simpa using qO hj),F7,dm] at h
  cases hi:fr[j - k]? with
  | none=>rw[hi] at h;cases h
  | some i=>
   rw[hi] at h
   have h':(σ[i]?).join=some v:=eY h
   refine⟨i,qO hj,rfl,?_⟩
   cases hs:σ[i]? with
   | none=>rw[hs] at h';cases h'
   | some o=>rw[hs] at h';rw[show o=some v from h']
theorem OE{fr:List Nat}{σ:List (Option α)}(hj:k<=j)(hi:fr[j - k]?=some i)(h:σ[i]?=some (some v)):(pH k fr σ)[j]?=some (some v):=by
 unfold pH
 rw[nj (by simpa using hj),F7,dm,hi]
 show some ((σ[i]?).join)=_
 rw[h];rfl
theorem RQ{s1:az}{caps:List (Nat×Str)}(I:L2.Inv X pins σ H s)(ok:(yp X scope cl (gU++caps.map (·.2)) fp s H L).Ok)(JN:YH X scope cl caps)(zT:∀x c,cl.lookup x=some c->X.env.cells.lookup x=some c)
  (ho:s1.os=s.os) (hb:AllBare s1.gens) (un:Un (xD X.stack) fp H H1 s.heap s1.heap) (kc:∀b o,s.heap.get? b=some o->s1.heap.get? b=some o) (hn:s1.heap.Ns L m) (hL:H1 L=none) (HB:∀x c,cl.lookup x=some c->H1 c=none) (fB:rQ X.prog X.w H1 s1.heap) :
  L2.Inv (yp X scope cl (gU++caps.map (·.2)) fp s H L) [] (pH gU.length (caps.map (·.1)) σ) H1 s1:=by
 refine⟨ok,ho,hb,un,⟨m,hn,fun j x v h1 h2 h3=>?_⟩,fun x c h=>?_,hL,HB,fun p hp=>(by cases hp),fB,(by unfold pH;simp)⟩
 ·refine cI (Dz h2) fun i hj hi hs=>?_
  rw[nj hj,dm] at h1
  rw[dm] at hi
  cases hc:caps[j - gU.length]? with
  | none=>rw[hc] at h1;cases h1
  | some p=>
   rw[hc] at h1 hi
   cases h1;cases hi
   refine N6 (JN.get (kM hc)) fun c1 c2 c3 c4=>?_
   refine aY I.loc fun m0 hn0 Wa=>?_
   refine aY (Wa p.1 p.2 v c1 hs (.inr (.inl c2))) fun u ru lk=>?_
   refine⟨u,ru,.inr ⟨.inl c4,?_⟩⟩
   rcases lk with ⟨z,_⟩ | ⟨_,c,e1,e2⟩
   ·rw[c2] at z;cases z
   ·refine aY e2 fun o e3 e4=>?_
    clear e2
    exact⟨c,c3.trans e1,o,kc _ _ e3,e4⟩
 ·obtain ⟨v,q⟩:=I.cell x c (zT _ _ h)
  refine aY q fun o e3 e4=>?_
  clear q
  exact⟨v,o,kc _ _ e3,e4⟩
end
abbrev yq:L2.St->XK:=fun _ _ _ _=>False
theorem wA(h:m8 X yq e s):False:=by
 obtain ⟨_,_,_,_,_,_,_,_,q,_⟩:=h
 exact q
def j6(bind:DB)(test elt:DF):List D->ig->R (List D)
 | [],_=>.ok []
 | d::ds,st=>match bind d st with
  | none=>.bad
  | some kj=>match test kj with
   | .ok (.bl true)=>(match elt kj with
    | .ok e=>(match j6 bind test elt ds kj with | .ok r=>.ok (e::r) | _=>.bad)
    | _=>.bad)
   | .ok (.bl false)=>j6 bind test elt ds kj
   | _=>.bad
def BU(Γ:List SK):Prop:=∀(i:Nat) (k:SK),Γ[i]?=some k->k=SK.par
section
variable {K:aD}{C:Cfg}{G0:Hp}{Γ:List SK}{σ:L2.St}{H:Hp}{A B:List av}{st:ig}
theorem GC(h:∀a∈B,a∈A):aH (er H A) (er H B):=fun b o e=>by
 by_cases ha:b∈A
 ·rw[eZ ha] at e;cases e
 ·rw[b9 ha] at e
  rw[b9 fun z=>ha (h b z)];exact e
theorem RS.ah6(r:RS K C G0 Γ σ H A st)(CV:BU Γ)(sub:∀a∈B,a∈A):RS K C G0 Γ σ H B st where
 base:=r.base.trans (GC sub)
 lists:=fun a m=>r.lists a (sub a m)
 len:=r.len
 slot:=fun i d h=>by
  refine bF (r.slot i d h) fun k v h1 h2 h3=>?_
  obtain rfl:=CV i k h1
  exact⟨.par,v,h1,h2,Rep.same (GC sub) _ h3⟩
 apart:=fun i j n m p ds es n6 g1=>by have:=CV i _ g1;cases this
 gl:=r.gl
theorem RS.Ws(r:RS K C G0 Γ σ H A st)(CV:BU Γ)(ha:a∈A):RS K C G0 Γ σ (upd H a (.lst ys)) A st:=by
 have ee:er (upd H a (.lst ys)) A=er H A:=by
  funext b
  by_cases mb:b∈A
  ·rw[eZ mb,eZ mb]
  ·rw[b9 mb,b9 mb,aV (fun z:b=a=>mb (by rw[z];exact ha))]
 refine⟨by rw[ee];exact r.base,fun b m=>?_,r.len,fun i d h=>?_,fun i j n m p ds es n6 g1=>(by have:=CV i _ g1;cases this),r.gl⟩
 ·by_cases hb:b=a
  ·subst hb;exact⟨_,bS,rfl⟩
  ·rw[aV hb];exact r.lists b m
 ·refine bF (r.slot i d h) fun k v h1 h2 h3=>?_
  obtain rfl:=CV i k h1
  exact⟨.par,v,h1,h2,by show Rep K C (er _ A) d v;rw[ee];exact h3⟩
end
def part(n:Bool)(H2:Hp)(acc:av)(B:List av)(H:Hp):Hp:=if n=true then nw H2 (er H [acc]) else er H (acc::B)
theorem Ae(e:aH H H'):aH (part n H2 acc B H) (part n H2 acc B H'):=by
 unfold part;cases n
 ·exact aI e
 ·exact bO (aI e)
theorem OF:part n H2 acc B (upd H acc o)=part n H2 acc B H:=by
 have e:∀A:List av,acc∈A->er (upd H acc o) A=er H A:=fun A m=>by
  funext b
  by_cases mb:b∈A
  ·rw[eZ mb,eZ mb]
  ·rw[b9 mb,b9 mb,aV (fun z:b=acc=>mb (by rw[z];exact m))]
 unfold part
 rw[e [acc] (.head _),e (acc::B) (.head _)]
theorem q9{ft:DF}:∀(pins:List (av×Obj)) (s:az) (σ:L2.St) (H:Hp) (Q:Bool->Hp->Prop),L2.Inv X pins σ H s->yg X.K C G0 Γ E (dC (.bl true)) σ H Q->
  aB (aC X.prog X.w) X.A (forIn ([]:List bH) true fun c r=>if r=true then do let ok <- isTrue c X.env (eval c X.env);pure (lZ ok) else pure (lZ r)) (TP X pins σ Q) X.xe s:=fun pins s σ H Q I jd=>jd.elim fun A n8=>n8.elim fun st rR=>rR.elim fun r q=>wpAny_tests_nil ⟨H,I,q H (.refl _)⟩
theorem mP(h:PT X c (yg X.K C G0 Γ E ft)):∀(pins:List (av×Obj)) (s:az) (σ:L2.St) (H:Hp) (Q:Bool->Hp->Prop),L2.Inv X pins σ H s->yg X.K C G0 Γ E ft σ H Q->
  aB (aC X.prog X.w) X.A (forIn [c] true fun c r=>if r=true then do let ok <- isTrue c X.env (eval c X.env);pure (lZ ok) else pure (lZ r)) (TP X pins σ Q) X.xe s:=fun pins s σ H Q I q=>wpAny_tests_one (h pins s σ H Q I q)
section
variable {X:Cx}{C:Cfg}{G0:Hp}{Γ:List SK}{tg iter elt:bH}{ifs:List bH}{scope:iI}{pos:Pos}{fp:List av}{it acc:av}{tn:Nat->aX->Prop}{J:It}{g:TG}{bind:DB}{ft fe:DF}{tX:Kd}{n:Bool}{H2:Hp}{B:List av}{ds total:List D}{R:Result->az->Prop}
def yr(X:Cx)(C:Cfg)(G0:Hp)(Γ:List SK)(acc:av)(bind:DB)(ft fe:DF)(n:Bool)(H2:Hp)(B:List av)(ds total:List D)(i:Nat)(s:az)(σ:L2.St)(H:Hp):Prop:=
 ∃st ys es,L2.Inv X [] σ H s/\H acc=some (.lst ys)/\RS X.K C G0 Γ σ H (acc::B) st/\aH H2 (er H [acc])/\aM X.K C (part n H2 acc B H) es ys/\es.length<=i/\
  ∃rest,j6 bind ft fe (ds.drop i) st = .ok rest/\es++rest=total
theorem JO(T:Turn X.prog X.w X.K tg J fp it tn)(Im:X.calm=true)(hfp:∀b∈fp,b∈X.ex/\b≠X.env.locals/\b∉X.fs/\(∀x c,X.env.cells.lookup x=some c->c≠b))(hpn:X.pn=[])(CV:BU Γ)(hJ:JH X.K C B H2 J ds)(hB:qx X.K C G0 Γ g bind)(hG:PG (X.fC (m8 X yq)) tg g)
  (hT:∀(pins:List (av×Obj)) (s:az) (σ:L2.St) (H:Hp) (Q:Bool->Hp->Prop),L2.Inv (X.fC (m8 X yq)) pins σ H s->yg X.K C G0 Γ yq ft σ H Q->
   aB (aC X.prog X.w) X.A (forIn ifs true fun c r=>if r=true then do let ok <- isTrue c X.env (eval c X.env);pure (lZ ok) else pure (lZ r)) (TP (X.fC (m8 X yq)) pins σ Q) (m8 X yq) s)
  (hE:PE (X.fC (m8 X yq)) elt (tD X.K C G0 Γ yq fe tX)) (hn:n=true->tX = .new) (xE:n=false->tX.le .old=true) (GD:H2 acc=none) (sP:ds.length<=5000)
  (fin:∀s σ H,yr X C G0 Γ acc bind ft fe n H2 B ds total ds.length s σ H->R (.ok .next) s) :
  ∀s σ H,yr X C G0 Γ acc bind ft fe n H2 B ds total 0 s σ H->tn 0 s.heap->(∀b∈fp,H b=none)->codeAny (aC X.prog X.w) X.A (.compLoop (.ListComp elt [⟨tg,iter,ifs,0⟩] scope pos) 0 (.ref it) (.ref acc) X.env) R s:=fun s0 σ0 H0 h0 t0 f0=>by
 refine codeAny_loop rfl (fun m s=>∃i σ H,m=ds.length - i/\i<=ds.length/\yr X C G0 Γ acc bind ft fe n H2 B ds total i s σ H/\tn i s.heap/\∀b∈fp,H b=none) (fun m s EC=>?_) ds.length ⟨0,σ0,H0,rfl,iA _,h0,t0,f0⟩
 refine Cy EC fun i σ H hm hi iv YI Yo=>?_
 clear EC
 subst hm
 show aB _ X.A ((compTurn (.ListComp elt [⟨tg,iter,ifs,0⟩] scope pos) 0 (.ref it) (.ref acc) X.env).onRaise (fun x=>do noteFrame x X.env;theTreesLotGoes x)) _ _ s
 refine wpAny_noted ?_
 rw[compTurn_list]
 obtain ⟨st,ys,es,I,hH,r,e2,rp,hl,rest,ou,Wu⟩:=id iv
 have Wv:∀{H':Hp},(∀b∈fp,H' b=none)->∀b∈fp,Bc X [] H' b:=fun hn b hb=>⟨hn b hb,(hfp b hb).2.1,(hfp b hb).2.2.1,.inl (hfp b hb).1,(hfp b hb).2.2.2,fun p hp=>by rw[hpn] at hp;cases hp⟩
 have hJi:=hJ i H (acc::B) (fun b o e=>by
  by_cases hb:b∈B
  ·rw[eZ hb] at e;cases e
  ·rw[b9 hb] at e
   have z:=e2 b o e
   by_cases ha:b=acc
   ·subst ha;rw[GD] at e;cases e
   ·rw[b9 (by simpa using ha)] at z
    rw[b9 (by simp[ha,hb])];exact z) (fun a m=>by obtain ⟨xs,q,_⟩:=r.lists a m;rw[q];simp)
 cases hd:ds[i]? with
 | none=>
  have Uq:=nv.mp hd
  obtain rfl:i=ds.length:=Lv hi Uq
  refine ah (zF (ah (iy (T.done X rfl rfl rfl Im _ [] s σ H _ I (Wv Yo) YI (hJi.2 hd)) (fun rr s1 G9=>?_) fun _ _ h=>h)))
  obtain ⟨hr,I1⟩:=G9
  subst hr
  exact aA (fin s1 σ H ⟨st,ys,es,I1,hH,r,e2,rp,hl,rest,ou,Wu⟩)
 | some d=>
  have iF:i < ds.length:=(gz.mp hd).1
  have hdr:ds.drop i=d::ds.drop (i+1):=by
   rw[ug iF]
   congr 1
   exact(gz.mp hd).2
  rw[hdr,j6] at ou
  obtain ⟨go,yl⟩:=hJi.1 d hd
  refine ah (zF (ah (iy (T.item X rfl rfl rfl Im i [] s σ H _ I (Wv Yo) YI go) (fun rr s1 ED=>?_) fun _ _ h=>h)))
  refine aY ED fun u hr h1=>?_
  clear ED
  subst hr
  refine ah (iy h1 (fun _ s3 CJ=>?_) fun _ _ h=>h)
  refine J7 CJ fun x H3 I3 rx hy tn3 Ww=>?_
  clear CJ
  obtain ⟨e3,wx⟩:=yl x H3 hy
  have I3p:=I3.pinned (Wv Ww) (T.obj _ _ tn3)
  cases hb:bind d st with
  | none=>rw[hb] at ou;cases ou
  | some kj=>
   rw[hb] at ou
   dsimp only at ou
   have r3:=r.mono e3
   refine ah (iy (hG _ s3 σ H3 x u (fun KZ H4=>H4=H3/\∃A4,RS X.K C G0 Γ KZ H3 A4 kj/\∀a∈acc::B,a∈A4) (I3p.fC _) rx (hB σ H3 (acc::B) st kj d x _ r3 wx hb fun KZ A4 r4 _ sb=>⟨rfl,A4,r4,sb⟩)) (fun _ s4 Ew=>?_) fun _ _ h=>(wA h).elim)
   obtain ⟨KZ,H4,I4,hH4,A4,r4,sb⟩:=Ew
   subst hH4
   have r4':=r4.ah6 CV sb
   have hH3:H4 acc=some (.lst ys):=e3 _ _ hH
   have again:∀{s9:az} {σ9:L2.St} {H9:Hp},L2.Inv X ([]++xK fp s3.heap) σ9 H9 s9->yr X C G0 Γ acc bind ft fe n H2 B ds total (i+1) s9 σ9 H9->∃m,m < ds.length - i/\∃i' dR H',m=ds.length - i'/\i'<=ds.length/\yr X C G0 Γ acc bind ft fe n H2 B ds total i' s9 dR H'/\tn i' s9.heap/\∀b∈fp,H' b=none:=fun {s9 σ9 H9} I9 c9=>by
    refine⟨ds.length - (i+1),by lia,i+1,σ9,H9,rfl,iF,c9,T.keep _ _ _ tn3 fun b hb o e=>(I9.pin (b,o) (nW _ (nW _ (nC hb e)))).1,fun b hb=>?_⟩
    refine aY (T.obj _ _ tn3 b hb) fun o e _=>?_
    exact(I9.pin (b,o) (nW _ (nW _ (nC hb e)))).2.1
   have ep:aH H2 (er H4 [acc]):=e2.trans (aI e3)
   refine ah (iy (hT _ s4 KZ H4 (fun b H5=>aH H4 H5/\ft kj = .ok (.bl b)) I4 ⟨acc::B,kj,r4',?_⟩) (fun ok s5 Ey=>Ey.elim fun H5 xH=>xH.elim fun I5 Bm=>Bm.elim fun e5 fB=>?_) fun _ _ h=>(wA h).elim)
   ·cases hf:ft kj with
    | bad=>rw[hf] at ou;cases ou
    | ex c p=>rw[hf] at ou;cases ou
    | ok t=>
     rw[hf] at ou
     cases t with
     | bl b=>exact fun H' e'=>⟨e',rfl⟩
     | _=>cases ou
   ·rw[fB] at ou
    have ep5:=ep.trans (aI e5)
    cases ok with
    | false=>
     dsimp only at ou
     exact aA ⟨rfl,again I5.jk ⟨kj,ys,es,(I5.jk).rX (fun p hp=>by cases hp),e5 _ _ hH3,r4'.mono e5,ep5,rp.same (Ae (e3.trans e5)) _,by lia,rest,ou,Wu⟩⟩
    | true=>
     dsimp only at ou
     cases hfe:fe kj with
     | bad=>rw[hfe] at ou;cases ou
     | ex c p=>rw[hfe] at ou;cases ou
     | ok de=>
      rw[hfe] at ou
      dsimp only at ou
      refine ah (ah (iy (hE _ s5 KZ H5 (fun v H6=>aH H5 H6/\Val X.K C tX G0 (acc::B) H5 H6 de v) I5 ⟨acc::B,kj,r4'.mono e5,?_⟩) (fun ue s6 Bo=>Bo.elim fun v Bp=>Bp.elim fun H6 Ga=>Ga.elim fun I6 NC=>NC.elim fun rv ND=>ND.elim fun e6 wv=>?_) fun _ _ h=>(wA h).elim))
      ·rw[hfe];exact fun v H' e' w=>⟨e',w⟩
      ·have e56:=e5.trans e6
       have hH6:H6 acc=some (.lst ys):=e56 _ _ hH3
       have wp:Rep X.K C (part n H2 acc B H6) de v:=by
        cases n with
        | true=>
         obtain rfl:=hn rfl
         refine wv.1.same (fun b o z=>?_) _
         unfold nw at z
         split at z
         ·rename_i kk
          have hb:b≠acc:=fun w=>by subst w;rw[e5 _ _ hH3] at kk;cases kk
          show nw H2 (er H6 [acc]) b=_
          unfold nw
          rw[aH2 (nG (ep5.trans (aL _ _)) kk),b9 (by simpa using hb)]
          exact z
         ·cases z
        | false=>exact Val.le (r4'.mono e5) e6 (κ':=.old) (xE rfl) wv
       refine ah (iy (uG (X:=X.fC (m8 X yq)) _ s6 KZ H6 (.ref acc) [v] (.ref acc) [ue] (fun z H7=>H7=upd H6 acc (.lst (ys++[v]))) I6 rfl (.cons rv .nil) ⟨acc,ys,v,rfl,rfl,hH6,?_,rfl⟩) (fun _ s7 NF=>NF.elim fun z Wx=>Wx.elim fun H7 Wy=>Wy.elim fun I7w N9=>N9.elim fun _ hH7=>?_) fun _ _ h=>(wA h).elim)
       ·rw[rp.len]
        have:5001<=cK:=by rw[gn];decide
        lia
       ·subst hH7
        have I7:=I7w.jk
        refine aA (aA ⟨rfl,again I7 ?_⟩)
        cases hgr:j6 bind ft fe (ds.drop (i+1)) kj with
        | bad=>rw[hgr] at ou;cases ou
        | ex c p=>rw[hgr] at ou;cases ou
        | ok ah7=>
         rw[hgr] at ou
         cases ou
         refine⟨kj,ys++[v],es++[de],I7.rX (fun p hp=>by cases hp),bS,((r4'.mono e56)).Ws CV (.head _),?_,?_,by simp;lia,ah7,hgr,by simpa using Wu⟩
         ·have:er (upd H6 acc (.lst (ys++[v]))) [acc]=er H6 [acc]:=by
           funext b
           by_cases mb:b∈[acc]
           ·rw[eZ mb,eZ mb]
           ·rw[b9 mb,b9 mb,aV (by simpa using mb)]
          rw[this]
          exact ep.trans (aI e56)
         ·rw[OF]
          exact(rp.same (Ae (e3.trans e56)) _).app (.cons wp .nil)
end
def zB(z:Bool)(A:List av):List av:=if z=true then A else []
def QA(K:aD)(C:Cfg)(G0:Hp)(Γ:List SK)(E:L2.St->XK)(z:Bool)(gi:DI):TI:=fun σ H Rr=>∃A st,RS K C G0 Γ σ H A st/\match gi st with
 | .ok ds=>∀J H',aH H H'->JH K C (zB z A) H' J ds->Rr J H'
 | .ex c p=>∀H',aH H H'->KU (E σ) c p H'
 | .bad=>False
theorem _root_.L2.PI.imp(h:PI X tg e t)(i:∀σ H Q,t' σ H Q->t σ H Q):PI X tg e t':=fun pins s σ H Q I q=>h pins s σ H Q I (i σ H Q q)
section
theorem OG:∀a∈zB z A,a∈A:=fun a h=>by unfold zB at h;cases z with | true=>exact h | false=>cases h
theorem t7(he:PE X iter (tD X.K C G0 Γ E f κ))(l:z=true->κ.le .old=true):PI X tg iter (QA X.K C G0 Γ E z (jA f)):=(HF he).imp fun σ H Q zz=>by
 walk_at"/"
 clear zz
 walk_at"."
 unfold jA at q
 cases hf:f st with
 | bad=>rw[hf] at q;exact q
 | ex c p=>rw[hf] at q;exact q
 | ok d=>
  rw[hf] at q
  cases d with
  | lst ds=>
   walk_at"*"
   intro v H1 e1 w
   have w':Rep X.K C (er H1 (zB z A)) (.lst ds) v:=by
    unfold zB
    cases z with
    | true=>exact w.le r e1 (κ':=.old) (l rfl)
    | false=>rw[aH3 (by decide),mw];exact w.rep
   rw[Rep] at w'
   refine bF w' fun a xs bx h2 h3=>?_
   clear w'
   walk_at"$"
   refine⟨a,rfl,⟨xs,(aL _ _).seq h2⟩,q _ _ e1 fun i H3 A3 e3 _=>⟨fun d hd=>?_,fun hd=>?_⟩⟩
   ·refine aY (h3.get' hd) fun v hv rv=>?_
    have s3:ko X.K H3 a xs:=(e3.trans (aL _ _)).seq h2
    refine⟨⟨xs,v,s3,hv⟩,fun x H' jd=>?_⟩
    obtain ⟨hH,hx⟩:=jd
    subst hH
    have:=hx xs s3
    rw[hv] at this;cases this
    exact⟨.refl _,rv.same ((aL _ _).trans e3) _⟩
   ·exact⟨xs,(e3.trans (aL _ _)).seq h2,by rw[h3.len];exact nv.mp hd⟩
  | _=>exact q.elim
theorem DC(I:L2.Inv X pins σ H s)(hH:H L=none)(hL:L≠X.env.locals)(hS:X.ji.heap.objs.size<=L)(hc:∀x c,X.env.cells.lookup x=some c->c≠L)(hp:∀p∈X.pn++pins,p.1≠L)(hs:gZ L s.heap h'):L2.Inv X pins σ H { s with heap:=h' }:=by
 have kp:∀b o,b≠L->s.heap.get? b=some o->h'.get? b=some o:=fun b o hb e=>(hs.2 b hb).trans e
 refine Inv.CI I (s':={ s with heap:=h' }) (ch:=[L]) rfl ⟨fun b o e n nf nx=>kp b o (by simpa using nx) e,fun b o e n nf nx=>⟨o.slots,kp b o (by simpa using nx) e⟩,fun b o e n nx=>n,fun b o e nx=>⟨o,kp b o (by simpa using nx) e⟩,fun b xs q=>q,fun b o u q=>q,fun _ _ _ e=>e⟩ (fun b u e=>?_) I.bare (fun b hb=>?_)
 ·refine(I.fB b u e).z8 (fun c v vQ q=>kp c v ?_ q) (fun _ q=>q) (fun _ _ q=>q) fun _ zo _ q=>q
  rintro rfl
  rcases vQ with rfl | vQ
  ·rw[hH] at e;cases e
  ·rw[hH] at vQ;cases vQ
 ·obtain rfl:b=L:=by simpa using hb
  exact⟨.inr hS,hL,hc,hp⟩
end
section
variable {X:Cx}{C:Cfg}{G0:Hp}{Γ:List SK}{E0:aq->az->Prop}{pins:List (av×Obj)}{σ:L2.St}{H2:Hp}{s2:az}{A:List av}{st:ig}{tg iter elt:bH}{ifs:List bH}{scope:iI}{cl:List (Str×av)}{pos:Pos}{fp:List av}{it:av}{tn:Nat->aX->Prop}{J:It}{g:TG}{bind:DB}{ft fe:DF}{tX:Kd}{n z:Bool}{ds total:List D}{gU:List Str}{caps:List (Nat×Str)}{RR:aq->av->Result->az->Prop}
def qz(m:Nat):List SK:=lT m .par
theorem Af(m:Nat):BU (qz m):=fun i k h=>by unfold qz at h;rw[ud] at h;split at h <;> cases h;rfl
structure yt(X:Cx)(C:Cfg)(pins:List (av×Obj))(σ:L2.St)(n:Bool)(H2:Hp)(B:List av)(total:List D)(acc L:av)(s':az)(H':Hp)(ys:List V):Prop where
 inv:L2.Inv X pins σ H' s'
 ns:∃m,s'.heap.Ns L m
 hL:H' L=none
 lL:L≠X.env.locals
 sL:X.ji.heap.objs.size<=L
 cL:∀x c,X.env.cells.lookup x=some c->c≠L
 pL:∀p∈X.pn++pins,p.1≠L
 new:H2 acc=none
 at':H' acc=some (.lst ys)
 same:aH H2 (er H' [acc])
 ay7:aM X.K C (part n H2 acc B H') total ys
theorem yu(I2:L2.Inv X pins σ H2 s2)(Im:X.calm=true)(r2:RS X.K C G0 Γ σ H2 A st)(T:Turn X.prog X.w X.K tg J fp it tn)(YI:tn 0 s2.heap)(hf:∀b∈fp,Bc X pins H2 b)(hJ:JH X.K C (zB z A) H2 J ds)(hz:z=true->∀p∈caps,Γ[p.1]?=some .par\/Γ[p.1]?=some .loc)
  (ou:j6 bind ft fe ds (pH gU.length (caps.map (·.1)) st) = .ok total) (sP:ds.length<=5000) (hk:scope.kind = .function) (xF:∀y∈scope.names,y.2≠ .cell) (zT:∀x c,cl.lookup x=some c->X.env.cells.lookup x=some c)
  (JM:∀x,((relabel scope X.env).names.lookup x=some .cell\/(relabel scope X.env).names.lookup x=some .free)->∃c,cl.lookup x=some c) (JN:YH X scope cl caps)
  (hB:qx X.K C G0 (qz (gU.length+caps.length)) g bind)
  (hG:∀s H L,PG ((yp X scope cl (gU++caps.map (·.2)) fp s H L).fC (m8 (yp X scope cl (gU++caps.map (·.2)) fp s H L) yq)) tg g)
  (hT:∀s0 H0 L (pins:List (av×Obj)) (s:az) (σ:L2.St) (H:Hp) (Q:Bool->Hp->Prop),L2.Inv ((yp X scope cl (gU++caps.map (·.2)) fp s0 H0 L).fC (m8 (yp X scope cl (gU++caps.map (·.2)) fp s0 H0 L) yq)) pins σ H s->yg X.K C G0 (qz (gU.length+caps.length)) yq ft σ H Q->
   aB (aC X.prog X.w) X.A (forIn ifs true fun c r=>if r=true then do let ok <- isTrue c (compEnvC scope cl L X.env) (eval c (compEnvC scope cl L X.env));pure (lZ ok) else pure (lZ r)) (TP ((yp X scope cl (gU++caps.map (·.2)) fp s0 H0 L).fC (m8 (yp X scope cl (gU++caps.map (·.2)) fp s0 H0 L) yq)) pins σ Q) (m8 (yp X scope cl (gU++caps.map (·.2)) fp s0 H0 L) yq) s)
  (hE:∀s H L,PE ((yp X scope cl (gU++caps.map (·.2)) fp s H L).fC (m8 (yp X scope cl (gU++caps.map (·.2)) fp s H L) yq)) elt (tD X.K C G0 (qz (gU.length+caps.length)) yq fe tX)) (hn:n=true->tX = .new) (xE:n=false->tX.le .old=true)
  (hRR:∀acc L s' H' ys,yt X C pins σ n H2 (zB z A) total acc L s' H' ys->RR (.ref acc) L (.ok .next) s') :
  aB (aC X.prog X.w) X.A (newList []) (fun acc Wz=>aB (aC X.prog X.w) X.A (newFunctionEnv scope X.env.globals cl [] X.env.qual none .none (some X.env)) (fun ah9 ay8=>
   codeAny (aC X.prog X.w) X.A (.compStart (.ListComp elt [⟨tg,iter,ifs,0⟩] scope pos) 0 (.ref it) acc { ah9 with scope:=relabel scope X.env }) (RR acc ah9.locals) ay8) E0 Wz) E0 s2:=by
 refine nV (wpAny_newFunctionEnv xF (by intro y hy;simp at hy) (fun JP GF BV=>?_) hk)
 dsimp only at GF BV ⊢
 generalize hH2:s2.heap.push { cls:=.type "list",dict:=none,data:=.seq ([]:List aq).toArray }=G2 at GF BV ⊢
 have hC:G2.objs.size=s2.heap.objs.size+1:=by rw[<- hH2,zH]
 have hDC:s2.heap.objs.size≠G2.objs.size:=by rw[hC];exact di (zI _)
 have below:∀b,b < s2.heap.objs.size->b≠G2.objs.size/\b≠s2.heap.objs.size:=fun b hb=>⟨by rw[hC];exact di (wU hb),di hb⟩
 have old:∀b o,s2.heap.get? b=some o->JP.get? b=some o:=fun b o e=>BV.extBut b o (below b (bX e)).1 (bQ _ (hH2▸bQ _ e))
 have GD:JP.get? s2.heap.objs.size=some { cls:=.type "list",data:=.seq ([]:List aq).toArray 0 }:=BV.extBut _ _ hDC (bQ _ (hH2▸eN _ rfl))
 have JQ:H2 s2.heap.objs.size=none:=I2.fB.fresh (bf _)
 have WA:s2.heap.objs.size<=G2.objs.size:=by rw[hC];exact wQ _
 have nL:H2 G2.objs.size=none:=I2.fB.fresh WA
 have hfs:∀b∈fp,b < s2.heap.objs.size:=fun b hb=>by obtain ⟨o,e,_⟩:=T.obj _ _ YI b hb;exact bX e
 have ok:=Wr (N':=gU++caps.map (·.2)) (L:=G2.objs.size) I2 hk WA zT JM hf hfs
 have un:Un (xD X.stack) fp H2 (upd H2 s2.heap.objs.size (.lst [])) s2.heap JP:=Un.laid old (bf _) JQ
 have fB:rQ X.prog X.w (upd H2 s2.heap.objs.size (.lst [])) JP:=I2.fB.laid old (bf _) ⟨iA _,[],0,.nil,GD⟩
 have inn:L2.Inv (yp X scope cl (gU++caps.map (·.2)) fp s2 H2 G2.objs.size) [] (pH gU.length (caps.map (·.1)) σ) (upd H2 s2.heap.objs.size (.lst [])) { s2 with heap:=JP,toks:=s2.toks+([]:List (Str×aq)).length }:=by
  refine RQ I2 ok JN zT rfl I2.bare un old GF (by rw[aV (eX hDC)];exact nL) (fun x c h=>?_) fB
  have hc:=I2.qq x c (zT _ _ h)
  have KP:c≠s2.heap.objs.size:=fun w=>by
   obtain ⟨v,q⟩:=I2.cell x c (zT _ _ h)
   exact aI4 q.lt (by rw[w];exact rV _)
  rw[aV KP];exact hc
 have e2:aH H2 (upd H2 s2.heap.objs.size (.lst [])):=cV JQ
 have ee:aH H2 (er (upd H2 s2.heap.objs.size (.lst [])) [s2.heap.objs.size]):=fun b o e=>by
  have:b≠s2.heap.objs.size:=fun w=>by rw[w,JQ] at e;cases e
  rw[b9 (by simpa using this)];exact e2 b o e
 have eB:aH (er H2 (zB z A)) (er (upd H2 s2.heap.objs.size (.lst [])) (s2.heap.objs.size::zB z A)):=fun b o e=>by
  by_cases mb:b∈zB z A
  ·rw[eZ mb] at e;cases e
  ·rw[b9 mb] at e
   have:b≠s2.heap.objs.size:=fun w=>by rw[w,JQ] at e;cases e
   rw[b9 (by simp[this,mb])];exact e2 b o e
 have rin:RS X.K C G0 (qz (gU.length+caps.length)) (pH gU.length (caps.map (·.1)) σ) (upd H2 s2.heap.objs.size (.lst [])) (s2.heap.objs.size::zB z A) (pH gU.length (caps.map (·.1)) st):=by
  refine⟨(r2.base.trans (GC OG)).trans eB,fun a m=>?_,by unfold pH;simp,fun j d h=>?_,fun i j n' m' p Gx es n6 g1=>(by have:=Af _ i _ g1;cases this),r2.gl⟩
  ·rcases bP.mp m with rfl | m
   ·exact⟨_,bS,rfl⟩
   ·obtain ⟨o,q,hM⟩:=r2.lists a (OG a m)
    exact⟨o,e2 _ _ q,hM⟩
  ·refine cI (Dz h) fun i hj hi hs=>?_
   refine bF (r2.slot i d hs) fun k v h1 h2 h3=>?_
   have iF:j - gU.length < caps.length:=by have:=(gz.mp hi).1;simpa using this
   refine⟨.par,v,?_,OE hj hi h2,?_⟩
   ·unfold qz;rw[ud,aH2 (by lia)]
   ·refine Rep.same eB _ ?_
    refine aY (r2.read h1 hs) fun v' w1 w2=>?_
    rw[h2] at w1;cases w1
    unfold zB
    cases z with
    | false=>rw[aH3 (by decide),mw];exact w2.rep
    | true=>
     rw[dm] at hi
     cases hc:caps[j - gU.length]? with
     | none=>rw[hc] at hi;cases hi
     | some p=>
      rw[hc] at hi;cases hi
      rcases hz rfl p (kM hc) with q | q
      ·rw[h1] at q;cases q;exact h3
      ·rw[h1] at q;cases q;exact h3.1.same (dw _ _) _
 have loop:∀s3:az,s3={ s2 with heap:=JP,toks:=s2.toks+([]:List (Str×aq)).length }->
   codeAny (aC X.prog X.w) X.A (.compLoop (.ListComp elt [⟨tg,iter,ifs,0⟩] scope pos) 0 (.ref it) (.ref s2.heap.objs.size) (compEnvC scope cl G2.objs.size X.env)) (RR (.ref s2.heap.objs.size) G2.objs.size) s3:=by
  rintro s3 rfl
  refine JO (X:=yp X scope cl (gU++caps.map (·.2)) fp s2 H2 G2.objs.size) (C:=C) (G0:=G0) (B:=zB z A) (H2:=H2) (total:=total) T Im (fun b hb=>⟨hb,(ok.YW b hb).1,ok.Ja b hb,(ok.YW b hb).2⟩) rfl (Af _) hJ hB (hG _ _ _) (hT _ _ _) (hE _ _ _) hn xE JQ sP
   (fun s' dR H' rR=>rR.elim fun st' EC=>EC.elim fun ys G9=>G9.elim fun es ED=>ED.elim fun I' CJ=>CJ.elim fun hy Ew=>Ew.elim fun r' Ey=>Ey.elim fun e' xH=>xH.elim fun rp Bm=>Bm.elim fun hl Bo=>Bo.elim fun rest Bp=>Bp.elim fun hg ht=>?_) _ _ _ ⟨_,[],[],inn,bS,rin,ee,.nil,iA _,total,by simpa using ou,rfl⟩ (T.keep _ _ _ YI fun b hb o e=>old b o e) (fun b hb=>by rw[aV (below b (hfs b hb)).2];exact(hf b hb).1)
  have hr:rest=[]:=by
   rw[AR] at hg
   exact(R.ok.inj hg).symm
  subst hr
  rw[jS] at ht
  subst ht
  have ay9:L2.Inv X pins σ H' s':=Inv.CI I2 I'.os I'.base I'.fB I'.bare fun b hb=>⟨(hf b hb).2.2.2.1,(hf b hb).2.1,(hf b hb).2.2.2.2.1,(hf b hb).2.2.2.2.2⟩
  refine hRR _ _ s' H' ys ⟨ay9,I'.loc.imp fun m h=>h.1,I'.free,?_,cC I2.sz WA,fun x c h w=>?_,fun p hp w=>?_,JQ,hy,e',rp⟩
  ·exact eX (below _ I2.lt).1
  ·obtain ⟨v,q⟩:=I2.cell x c h
   exact(below _ q.lt).1 w
  ·exact(below _ (bX (I2.pin p hp).1)).1 w
 exact codeAny_compStart_list (loop _ rfl) (T.self X.A 0 _ _ _ (T.keep _ _ _ YI fun b hb o e=>old b o e) (loop _ rfl))
end
def yv(z n:Bool):Kd:=if n=true then .new else if z=true then .uQ else .aO
def iS(gi:DI)(k:Nat)(fr:List Nat)(bind:DB)(ft fe:DF):DF:=fun st=>match gi st with
 | .ok ds=>if ds.length<=5000 then (match j6 bind ft fe ds (pH k fr st) with | .ok es=>.ok (.lst es) | _=>.bad) else .bad
 | .ex c p=>.ex c p
 | .bad=>.bad
section
variable {X:Cx}{C:Cfg}{G0:Hp}{Γ:List SK}{E:L2.St->XK}{k6:Bool}{tg iter elt:bH}{ifs:List bH}{scope:iI}{cl:List (Str×av)}{pos:Pos}{g:TG}{bind:DB}{gi:DI}{ft fe:DF}{tX:Kd}{n z:Bool}{gU:List Str}{caps:List (Nat×Str)}
theorem yt.val{pins:List (av×Obj)}{σ:L2.St}{H H2:Hp}{A:List av}{total:List D}{acc L:av}{s':az}{H':Hp}{ys:List V}{st:ig}(b:yt X C pins σ n H2 (zB z A) total acc L s' H' ys)(r:RS X.K C G0 Γ σ H A st)(e:aH H H2):aH H H'/\Val X.K C (yv z n) G0 A H H' (.lst total) (.ref acc):=by
 have e2:aH H2 H':=b.same.trans (aL _ _)
 have eH:=e.trans e2
 refine⟨eH,?_⟩
 have h0:H acc=none:=e.free b.new
 have rp:=b.ay7
 unfold yv
 cases n with
 | true=>
  rw[aH2 rfl]
  have R0:aM X.K C (er (nw H H') [acc]) total ys:=rp.same (fun c o z=>by
   unfold part at z
   rw[aH2 rfl] at z
   by_cases hc:c=acc
   ·subst hc
    have:=dw _ _ _ _ z
    rw[eZ (.head _)] at this;cases this
   ·rw[b9 (by simpa using hc)]
    exact wu e _ _ (bO (aL _ _) _ _ z)) _
  have ha:nw H H' acc=some (.lst ys):=by rw[kX h0];exact b.at'
  exact⟨by rw[Rep];exact⟨acc,ys,rfl,.of ha,R0⟩,⟨fun _=>⟨acc,rfl,h0,ys,ha,R0⟩,.not rfl⟩⟩
 | false=>
  rw[aH3 (by decide)]
  cases z with
  | true=>
   rw[aH2 rfl]
   have hA:acc∉A:=fun m=>by obtain ⟨xs,q,_⟩:=r.lists acc m;rw[h0] at q;cases q
   have R0:aM X.K C (er (er H' A) [acc]) total ys:=rp.same (fun c o z=>by
    unfold part zB at z
    rw[aH3 (by decide),aH2 rfl] at z
    by_cases hc:c∈acc::A
    ·rw[eZ hc] at z;cases z
    ·rw[b9 hc] at z
     have h1:c≠acc:=fun w=>hc (by rw[w];exact .head _)
     have h2:c∉A:=fun w=>hc (.tail _ w)
     rw[b9 (by simpa using h1),b9 h2];exact z) _
   have ha:er H' A acc=some (.lst ys):=by rw[b9 hA];exact b.at'
   exact⟨by rw[Rep];exact⟨acc,ys,rfl,.of ha,R0⟩,⟨fun _=>⟨acc,rfl,h0,ys,ha,R0⟩,.not rfl⟩⟩
  | false=>
   rw[aH3 (by decide)]
   show Rep X.K C H' _ _
   rw[Rep]
   refine⟨acc,ys,rfl,.of b.at',rp.same (fun c o z=>?_) _⟩
   unfold part zB at z
   rw[aH3 (by decide),aH3 (by decide)] at z
   exact z
structure JR(X:Cx)(C:Cfg)(G0:Hp)(Γ:List SK)(tg elt:bH)(ifs:List bH)(scope:iI)(cl:List (Str×av))(g:TG)(bind:DB)(ft fe:DF)(tX:Kd)(n z:Bool)(gU:List Str)(caps:List (Nat×Str)):Prop where
 calm:X.calm=true
 hk:scope.kind = .function
 xF:∀y∈scope.names,y.2≠ .cell
 zT:∀x c,cl.lookup x=some c->X.env.cells.lookup x=some c
 JM:∀x,((relabel scope X.env).names.lookup x=some .cell\/(relabel scope X.env).names.lookup x=some .free)->∃c,cl.lookup x=some c
 Uy:closureFor scope X.env=pure cl
 OH:∀y∈scope.names,y.2 = .local->scope.names.lookup y.1=some .local
 JN:YH X scope cl caps
 hz:z=true->∀p∈caps,Γ[p.1]?=some .par\/Γ[p.1]?=some .loc
 hB:qx X.K C G0 (qz (gU.length+caps.length)) g bind
 hG:∀fp s H L,PG ((yp X scope cl (gU++caps.map (·.2)) fp s H L).fC (m8 (yp X scope cl (gU++caps.map (·.2)) fp s H L) yq)) tg g
 hT:∀fp s0 H0 L (pins:List (av×Obj)) (s:az) (σ:L2.St) (H:Hp) (Q:Bool->Hp->Prop),L2.Inv ((yp X scope cl (gU++caps.map (·.2)) fp s0 H0 L).fC (m8 (yp X scope cl (gU++caps.map (·.2)) fp s0 H0 L) yq)) pins σ H s->yg X.K C G0 (qz (gU.length+caps.length)) yq ft σ H Q->
   aB (aC X.prog X.w) X.A (forIn ifs true fun c r=>if r=true then do let ok <- isTrue c (compEnvC scope cl L X.env) (eval c (compEnvC scope cl L X.env));pure (lZ ok) else pure (lZ r)) (TP ((yp X scope cl (gU++caps.map (·.2)) fp s0 H0 L).fC (m8 (yp X scope cl (gU++caps.map (·.2)) fp s0 H0 L) yq)) pins σ Q) (m8 (yp X scope cl (gU++caps.map (·.2)) fp s0 H0 L) yq) s
 hE:∀fp s H L,PE ((yp X scope cl (gU++caps.map (·.2)) fp s H L).fC (m8 (yp X scope cl (gU++caps.map (·.2)) fp s H L) yq)) elt (tD X.K C G0 (qz (gU.length+caps.length)) yq fe tX)
 hn:n=true->tX = .new
 xE:n=false->tX.le .old=true
theorem RT(GG:PI X tg iter (QA X.K C G0 Γ E z gi))(b:JR X C G0 Γ tg elt ifs scope cl g bind ft fe tX n z gU caps)(hs:∀x,vh iter X.env x=pure x:=by intro _;rfl) :
  PE X (.ListComp elt [⟨tg,iter,ifs,0⟩] scope pos) (tD X.K C G0 Γ E (iS gi gU.length (caps.map (·.1)) bind ft fe) (yv z n)):=fun pins s σ H Q I zz=>by
 walk_at"/"
 clear zz
 rw[eval_ListComp]
 unfold iS at q
 refine Lf (use:=none) rfl hs b.Uy b.hk b.OH (iy (GG pins s σ H (fun J H'=>∃ds total,aH H H'/\JH X.K C (zB z A) H' J ds/\ds.length<=5000/\j6 bind ft fe ds (pH gU.length (caps.map (·.1)) st) = .ok total/\∀v H',aH H H'->Val X.K C (yv z n) G0 A H H' (.lst total) v->Q v H') I ⟨A,st,r,?_⟩) (fun xv s1 h1=>iy h1 (fun itv s2 h2=>?_) fun _ _ e=>e) fun _ _ e=>e)
 ·cases hg:gi st with
  | bad=>rw[hg] at q;exact q
  | ex c p=>rw[hg] at q;exact q
  | ok ds=>
   rw[hg] at q
   walk_at"*"
   by_cases hl:ds.length<=5000
   ·rw[aH2 hl] at q
    cases hc:j6 bind ft fe ds (pH gU.length (caps.map (·.1)) st) with
    | bad=>rw[hc] at q;exact q.elim
    | ex c p=>rw[hc] at q;exact q.elim
    | ok total=>rw[hc] at q;exact fun J H' e' hJ=>⟨ds,total,e',hJ,hl,hc,q⟩
   ·rw[aH3 hl] at q;exact q.elim
 ·obtain ⟨it,fp,tn,J,H2,rfl,I2,T,t0,f0,ds,total,e2,hJ,hl,ou,hq⟩:=h2
  refine yu (RR:=fun acc L=>compPost (aC X.prog X.w) X.A X.xe none (EP X pins σ Q) acc L) I2 b.calm (r.mono e2) T t0 f0 hJ b.hz ou hl b.hk b.xF b.zT b.JM b.JN b.hB (b.hG fp) (b.hT fp) (b.hE fp) b.hn b.xE fun acc L s' H' ys be=>?_
  obtain ⟨e',w⟩:=be.val r e2
  obtain ⟨m,hm⟩:=be.ns
  exact⟨m,hm,fun h' hsb=>⟨.ref acc,H',DC be.inv be.hL be.lL be.sL be.cL be.pL hsb,rfl,hq _ _ e' w⟩⟩
theorem RU{OI:Pos}(hN:X.N.Nodup)(GG:PI X tg iter (QA X.K C G0 Γ E z gi))(b:JR X C G0 Γ tg elt ifs scope cl g bind ft fe tX n z gU caps)(hk:Γ[i]?=some k:=by rfl)(hl:k.takes (yv z n)=true:=by rfl)(hi:X.N[i]?=some x:=by rfl)(hx:X.env.scope.names.lookup x=some .local:=by rfl)
  (hsw:swapsWith (.ListComp elt [⟨tg,iter,ifs,0⟩] scope pos) (some (.Name x pos')) OI.line X.env=pure true:=by rfl) (hs:∀x,vh iter X.env x=pure x:=by intro _;rfl) :
  PS X (.Assign [.Name x pos'] (.ListComp elt [⟨tg,iter,ifs,0⟩] scope pos) OI) (qi X.K C G0 Γ E k6 (dU i (iS gi gU.length (caps.map (·.1)) bind ft fe))):=fun pins s σ H D I zz=>by
 walk_at"/"
 clear zz
 rw[exec_Assign_Name_used _ _ _ _ hsw]
 refine ah (zF (ah ?_))
 show aB _ X.A (do let _ <- comprehension (.ListComp elt [⟨tg,iter,ifs,0⟩] scope pos) scope X.env _ (newList []) false (eval iter X.env) (some (assign (.Name x pos') X.env))) _ _ s
 unfold dU iS at q
 refine ah (iy (Lf (use:=some (assign (.Name x pos') X.env)) (Q:=fun _ s'=>SP X pins D .next s') rfl hs b.Uy b.hk b.OH (iy (GG pins s σ H (fun J H'=>∃ds total,aH H H'/\JH X.K C (zB z A) H' J ds/\ds.length<=5000/\j6 bind ft fe ds (pH gU.length (caps.map (·.1)) st) = .ok total/\∀dR H' A',RS X.K C G0 Γ dR H' A' (st.set i (some (.lst total)))->aH (er H A) (er H' A')->D.nx dR H') I ⟨A,st,r,?_⟩) (fun xv s1 h1=>iy h1 (fun itv s2 h2=>?_) fun _ _ e=>e) fun _ _ e=>e))
  (fun _ s' hq=>aA (aA hq)) fun _ _ e=>e)
 ·cases hg:gi st with
  | bad=>rw[hg] at q;exact q
  | ex c p=>rw[hg] at q;exact fun H' e'=>q σ H' A (r.mono e') (aI e')
  | ok ds=>
   rw[hg] at q
   walk_at"*"
   by_cases hl:ds.length<=5000
   ·rw[aH2 hl] at q
    cases hc:j6 bind ft fe ds (pH gU.length (caps.map (·.1)) st) with
    | bad=>rw[hc] at q;exact q.elim
    | ex c p=>rw[hc] at q;exact q.elim
    | ok total=>rw[hc] at q;exact fun J H' e' hJ=>⟨ds,total,e',hJ,hl,hc,q⟩
   ·rw[aH3 hl] at q;exact q.elim
 ·obtain ⟨it,fp,tn,J,H2,rfl,I2,T,t0,f0,ds,total,e2,hJ,hlen,ou,hq⟩:=h2
  refine yu (RR:=fun acc L=>compPost (aC X.prog X.w) X.A X.xe (some (assign (.Name x pos') X.env)) (fun _ s'=>SP X pins D .next s') acc L) I2 b.calm (r.mono e2) T t0 f0 hJ b.hz ou hlen b.hk b.xF b.zT b.JM b.JN b.hB (b.hG fp) (b.hT fp) (b.hE fp) b.hn b.xE fun acc L s' H' ys be=>?_
  obtain ⟨e',w⟩:=be.val r e2
  obtain ⟨m,hm⟩:=be.ns
  refine cI (r.set e' hk hl w) fun A' r' ea _=>?_
  refine TL (zK be.inv hN hi (.inl hx) (v:=.ref acc) rfl (fun s3 I3 jd=>?_) (.inr hx))
  refine aY jd fun c hsb hc=>?_
  clear jd
  have hcL:L≠c:=by
   rcases hc with rfl | hc
   ·exact be.lL
   ·exact fun z=>be.cL x c hc z.symm
  exact⟨m,hm.sameBut hsb hcL,fun h' EE=>⟨_,H',DC I3 be.hL be.lL be.sL be.cL be.pL EE,hq _ _ A' r' ea⟩⟩
end
abbrev DP:=(Int×Int)×av×Int×Tok
def dxs(ps:List DP):List (List Int×av×aq):=ps.map fun p=>([p.1.1,p.1.2],p.2.1,.int p.2.2.1 p.2.2.2)
def DX(a:av)(ps:List DP)(h:aX):Prop:=∃o es ep,h.get? a=some o/\o.ExactDict/\o.data = .dict es ep/\(∀(P:dh) (w:bN),es.toList=(dxs ps).map (qm (tupleKind (intKind P w))))/\((dxs ps).map (·.1)).Nodup
def dvs(ps:List DP):List V:=ps.flatMap fun p=>[.int p.1.1,.int p.1.2,.int p.2.2.1]
def RV(K:aD)(H:Hp)(a:av)(vs:List V):Prop:=∃ps,vs=dvs ps/\H a=some (.ext (DX a ps))/\∀p∈ps,mF K H p.2.1 [.int p.1.1,.int p.1.2]
theorem RV.mono{K:aD}{H H':Hp}{a:av}{vs:List V}(e:aH H H')(h:RV K H a vs):RV K H' a vs:=by
 refine cI h fun ps h1 h2 h3=>?_
 clear h
 exact⟨ps,h1,e _ _ h2,fun p hp=>aH.tup e (h3 p hp)⟩
end Dm
end ay6
section az0
namespace Hk
open PySem
section
variable {K:Type}[DecidableEq K](kh:HeapKind prog w K)
def Refs(h:aX):List K->List aq->Prop
 | [],vs=>vs=[]
 | k::ks,vs=>∃a r,vs = .ref a::r/\kh.is h k a/\Refs h ks r
def t8(h:aX)(ks:List K)(a:av):Prop:=∃o bA n,h.get? a=some o/\o.cls = .type "tuple" /\o.data = .seq bA n/\Refs kh h ks bA.toList
def GH(ks:List K):Int:=reduceHash (Ba (ks.map kh.hash))
def gv:List K->Nat
 | []=>0
 | k::ks=>kh.draws k+gv ks
variable {kh}
theorem Refs.inj:∀{x y:List K} {vs:List aq},Refs kh h x vs->Refs kh h y vs->x=y
 | [],[],_,_,_=>rfl
 | [],_::_,_,e,⟨_,_,z,_⟩=>by rw[Refs] at e;rw[e] at z;cases z
 | _::_,[],_,⟨_,_,z,_⟩,e=>by rw[Refs] at e;rw[e] at z;cases z
 | _::_,_::_,_,⟨_,_,z,p,r⟩,⟨_,_,z',p',r'⟩=>by rw[z] at z';cases z';rw[kh.inj p p',r.inj r']
theorem Refs.keeps{h:aX}{es ep}(ho:h.get? d=some o)(hd:o.data = .dict es ep)(hs:gZ d h h'):∀{x:List K} {vs:List aq},Refs kh h x vs->Refs kh h' x vs
 | [],_,e=>e
 | _::_,_,⟨a,r,z,p,q⟩=>⟨a,r,z,kh.keeps p ho hd hs,q.keeps ho hd hs⟩
theorem Ag:∀(x y:List K),gv kh (x++y)=gv kh x+gv kh y
 | [],y=>by rw[gv,kK];rfl
 | k::x,y=>by rw[AU,gv,gv,Ag x y,wR]
theorem t8.tuple{s:az}(x:t8 kh s.heap ks a):s.TypeIs (.ref a) "tuple":=x.elim fun o z=>z.elim fun _ z=>z.elim fun _ z=>⟨o,z.1,z.2.1⟩
theorem t8.inj(hx:t8 kh h x a)(hy:t8 kh h y a):x=y:=by
 obtain ⟨o,bA,n,e,_,d,r⟩:=hx
 obtain ⟨o',its',n',e',_,d',r'⟩:=hy
 rw[e] at e';cases e'
 rw[d] at d';cases d'
 exact r.inj r'
theorem t8.keeps{es ep}(x:t8 kh h ks a)(ho:h.get? d=some o)(hd:o.data = .dict es ep)(hs:gZ d h h'):t8 kh h' ks a:=by
 obtain ⟨u,bA,n,e,c,q,r⟩:=x
 refine⟨u,bA,n,(hs.2 a fun z=>?_).trans e,c,q,r.keeps ho hd hs⟩
 rw[z,ho] at e;cases e
 rw[hd] at q;cases q
theorem RW{Q:Int->az->Prop}(hu:A.units < cLine)(hr:kh.room A.in1)(hk:t8 kh s.heap ks a)(h:Q (GH kh ks) { s with toks:=s.toks+(gv kh ks+1) }):aB (aC prog w) A (pyHash (.ref a)) Q E s:=by
 have hT:=hk.tuple
 have sl:=MJ
 obtain ⟨o,bA,n,ho,_,hd,hi⟩:=hk
 (unfold pyHash);(first | unfold pyHashByItsType | skip);(first | refine ah (wpAny_cRoomFor_or (.inr hu) ?_) | skip)
 (refine ah (oB hT sl.lookup ?_));(show aB _ _ (if (some (Value.builtin "tuple.__hash__")==some dY)=true then _ else _) Q E s)
 (rw[aH3 (by rw[beq_builtin_none];exact iK)]);(refine ah (oB hT sl.lookup ?_));(show aB _ _ (callSpecialIfBoundUnlessNone? (.ref a) "__hash__" _>>=_) Q E s)
 refine ah (wpAny_callSpecialIfBoundUnlessNone?_slot hT sl (gV sl hT F.entry_tuple_hash ?_ (F.args_tuple_hash_1 _)))
 (show aB _ _ (Builtin.Tuple.tupleItemsOf (.ref a)>>=_) _ _ s);(refine ah (EN ho hd (ah ?_)));(rw[<- xm])
 refine lR _ (fun rest (b:Array Int) s'=>∃x y,ks=x++y/\Refs kh s.heap y rest/\b.toList=x.map kh.hash/\s'={ s with toks:=s.toks+gv kh x }) _ ?_ ?_ _ _ ⟨[],ks,rfl,hi,rfl,rfl⟩
 ·rintro v rest b s' ⟨x,y,rfl,hl,hb,rfl⟩
  cases y with
  | nil=>rw[Refs] at hl;cases hl
  | cons k y=>
   obtain ⟨c,r,z,p,q⟩:=hl
   cases z
   have e:gv kh (x++[k])=gv kh x+kh.draws k:=by rw[Ag];rfl
   have nx:∃x' y',x++k::y=x'++y'/\Refs kh s.heap y' rest/\(b.push (kh.hash k)).toList=x'.map kh.hash/\({ s with toks:=s.toks+gv kh x+kh.draws k }:az)={ s with toks:=s.toks+gv kh x' }:=⟨x++[k],y,by simp,q,by simp[hb],by rw[e,wR]⟩
   refine ah (kh.pyHash (s:={ s with toks:=s.toks+gv kh x }) hr p ?_)
   first
    | exact aA nx
    | exact ah (aA (aA nx))
 ·rintro b s' ⟨x,y,rfl,hl,hb,rfl⟩
  cases y with
  | cons k y=>obtain ⟨_,_,z,_⟩:=hl;cases z
  | nil=>
   rw[jS] at h
   (show aB _ _ (retInt (Ba b.toList)) _ _ _);(rw[hb]);(refine wpAny_ret_mkInt ?_)
   show aB _ _ (if (decide (-(2:Int) ^ 63<=Ba (x.map kh.hash))&&decide (Ba (x.map kh.hash) < 2 ^ 63))=true then _ else _) Q E _
   unfold GH reduceHash at h
   split
   ·rename_i c
    rw[aH2 c] at h
    exact aA (by simpa[wR] using h)
   ·rename_i c
    rw[aH3 c] at h
    exact ah (wI (aA (by simpa[wR] using h)))
theorem ai2{P:Fin->az->Prop}(hr:kh.room A)(hx:t8 kh s.heap x a)(hy:t8 kh s.heap y b)(h:P (.done (.ret (.bool (decide (x=y))))) s):aB (aC prog w) A (Builtin.«tuple.__eq__» ⟨[.ref a,.ref b],[]⟩) P E s:=by
 have hT:=hy.tuple
 obtain ⟨oa,us,na,ea,_,da,ra⟩:=hx
 obtain ⟨ob,vs,nb,eb,_,db,rb⟩:=hy
 (show aB _ _ (isInstance (.ref b) (.type "tuple")>>=_) _ _ s);(refine ah (qM hT Lg ?_));(simp only[j5,cZ,aI0])
 refine ah (EN ea da (ah (EN eb db (ah ?_))))
 refine lR _ (fun rest r s'=>r.1=none/\s'=s/\∃x' y' us' vs',rest=List.zip us' vs'/\Refs kh s.heap x' us'/\Refs kh s.heap y' vs'/\decide (x'=y')=decide (x=y)/\(us'.length==vs'.length)=(us.size==vs.size)) _ ?_ ?_ _ _ ⟨rfl,rfl,x,y,us.toList,vs.toList,rfl,ra,rb,rfl,by simp⟩
 ·rintro ⟨u,v⟩ rest r s' ⟨Ox,rfl,x',y',us',vs',hz,sd,L0,RX,hlen⟩
  cases x' with
  | nil=>rw[Refs] at sd;subst sd;simp at hz
  | cons k1 x1=>
   obtain ⟨c1,r1,z1,p1,q1⟩:=sd
   subst z1
   cases y' with
   | nil=>rw[Refs] at L0;subst L0;simp at hz
   | cons k2 y1=>
    obtain ⟨c2,r2,z2,p2,q2⟩:=L0
    subst z2
    rw[LN] at hz
    cases hz
    refine ah (kh.eqBool (x:=k1) (y:=k2) hr p1 p2 ?_)
    by_cases hk:k1=k2
    ·subst hk
     (rw[aH4 rfl]);(simp only[j5,cZ,aI0])
     exact aA ⟨rfl,rfl,x1,y1,r1,r2,rfl,q1,q2,by rw[<- RX];simp,by simpa using hlen⟩
    ·(rw[aH5 hk]);(simp only[B4,aI1])
     rw[show decide (x=y)=false by rw[<- RX];simp[hk]] at h
     exact ah (aA (aA (aA h)))
 ·rintro ⟨r1,r2⟩ s' ⟨Ox,rfl,x',y',us',vs',hz,sd,L0,RX,hlen⟩
  dsimp only at Ox
  subst Ox
  refine aA ?_
  have e:(us.size==vs.size)=decide (x=y):=by
   rw[<- RX,<- hlen]
   cases x' with
   | nil=>
    rw[Refs] at sd;subst sd
    cases y' with
    | nil=>rw[Refs] at L0;subst L0;rfl
    | cons k2 y1=>obtain ⟨c2,r2,rfl,_⟩:=L0;simp
   | cons k1 x1=>
    obtain ⟨c1,r1,rfl,_⟩:=sd
    cases y' with
    | nil=>rw[Refs] at L0;subst L0;simp
    | cons k2 y1=>obtain ⟨c2,r2,rfl,_⟩:=L0;simp at hz
  show P (.done (.ret (.bool (us.size==vs.size)))) s'
  rw[e];exact h
theorem JS{Q:Bool->az->Prop}(hu:A.units < cLine)(hr:kh.room A.in1)(hx:t8 kh s.heap x a)(hy:t8 kh s.heap y b)(h:Q (decide (x=y)) s):aB (aC prog w) A (eqBool (.ref a) (.ref b)) Q E s:=by
 (unfold eqBool);(try with_reducible refine je ?_);(show aB _ _ (if (eW a==eW b)=true then _ else _) Q E s)
 by_cases c:(eW a==eW b)=true
 ·rw[aH2 c]
  cases eq_of_beq c
  obtain rfl:=hx.inj hy
  exact ah (wI (aA (by simpa using h)))
 ·(rw[aH3 c]);(refine ah (wpAny_richCompare_same_room (op:=.Eq) hx.tuple hy.tuple B9 (gV B9 hx.tuple F.entry_tuple_eq (ai2 hr hx hy ⟨_,rfl,(fun e=>nomatch e),wH h⟩) (F.args_tuple_eq_2 _ _)) hu))
theorem DE{Q:Bool->az->Prop}(ho:s.heap.get? a=some o)(hc:o.cls = .type "tuple")(hd:o.data = .seq bA m)(q:∀v∈bA.toList,∀{A:bY} {R:Bool->az->Prop},R true s->aB (aC prog w) A (eqIsQuiet n v) R E s)(h:Q true s):aB (aC prog w) A (eqIsQuiet (n+1) (.ref a)) Q E s:=by
 have hT:s.TypeIs (.ref a) "tuple":=⟨o,ho,hc⟩
 (unfold eqIsQuiet);(refine ah (oB hT B9.lookup ?_));(show aB _ _ (isInstance (.ref a) (.type "tuple")>>=_) _ _ s)
 (refine ah (qM hT Lg ?_));(simp only[j5,cZ,aI0]);(refine ah (EM ho hd (ah ?_)))
 (show aB _ _ (forIn bA _ _) _ _ s);(rw[<- xm])
 refine lR _ (fun rest r s'=>r.1=none/\s'=s/\∀v∈rest,v∈bA.toList) _ ?_ ?_ _ _ ⟨rfl,rfl,fun _ m=>m⟩
 ·rintro v rest r s' ⟨hr,rfl,oX⟩
  (refine ah (q v (oX v (.head _)) ?_));(simp only[j5,cZ,aI0])
  exact aA ⟨rfl,rfl,fun u m=>oX u (.tail _ m)⟩
 ·rintro ⟨r1,r2⟩ s' ⟨hr,rfl,_⟩
  dsimp only at hr
  subst hr
  exact aA h
end
theorem Refs.mem{prog:dh}{w:bN}{K:Type}[DecidableEq K]{kh:HeapKind prog w K}{h:aX}:∀{ks:List K} {vs:List aq} {v:aq},Refs kh h ks vs->v∈vs->∃k a,v = .ref a/\kh.is h k a
 | [],_,_,e,m=>by rw[Refs] at e;rw[e] at m;cases m
 | k::ks,_,v,⟨a,r,z,p,q⟩,m=>by
  rw[z] at m
  rcases bP.mp m with rfl | m
  ·exact⟨k,a,rfl,p⟩
  ·exact q.mem m
def k7{prog:dh}{w:bN}{K:Type}[DecidableEq K](knd:KeyKind prog w K):HeapKind prog w (List (List K)) where
 is:=t8 (tupleKind knd)
 hash:=GH (tupleKind knd)
 draws:=fun ks=>gv (tupleKind knd) ks+1
 room:=fun A=>A.units+1 < cLine
 inj:=fun hx hy=>hx.inj hy
 keeps:=fun x ho hd hs=>x.keeps ho hd hs
 pyHash:=fun hu hk h=>RW (u9 hu) hu hk h
 eqBool:=fun hu hx hy h=>JS (u9 hu) hu hx hy h
 quiet:=fun {A E s k a Q} hk h=>by
  obtain ⟨o,bA,n,ho,hc,hd,hi⟩:=hk
  refine DE (n:=7) ho hc hd (fun v m A' R hR=>?_) h
  obtain ⟨k1,c,rfl,o1,aG2,n1,Uj,hc1,hd1,hi1⟩:=hi.mem m
  refine DE (n:=6) Uj hc1 hd1 (fun v m A'' R' hR'=>?_) hR
  rw[eqIsQuiet_byValue _ (hi1.byValue v m)]
  exact aA hR'
end Hk
end az0
section ai3
namespace Dm
open PySem PySem.Spec PyProof.Rows L2
abbrev SP:=List (List Int)×av×aq
def DY(a:av)(o:Obj)(ps:List SP)(h:aX):Prop:=(a==oz)=false/\ps.length<=cK/\h.get? a=some o/\o.ExactDict/\∃es ep,o.data = .dict es ep/\(∀(P:dh) (w:bN),es.toList=ps.map (qm (Hk.k7 (intKind P w))))/\(ps.map (·.1)).Nodup
def jG(K:aD)(H:Hp)(ks:List (List Int))(a:av):Prop:=∃cs:List av,mF K H a (cs.map V.ref)/\cs.length=ks.length/\∀z∈ks.zip cs,mF K H z.2 (z.1.map V.int)
def k8(ps:List SP)(vs:List V):List V:=(ps.zip vs).flatMap fun z=>[.ref z.1.2.1,z.2]
def DYo(K:aD)(F H:Hp)(a:av)(xs:List V):Prop:=∃o ps vs,xs=k8 ps vs/\Vals vs (ps.map (·.2.2))/\H a=some (.ext (DY a o ps))/\(∀p∈ps,jG K F p.1 p.2.1)/\∀l,V.ref l∈vs->∃ys,F l=some (.lst ys)
theorem jG.mono{K:aD}{H H':Hp}{ks:List (List Int)}{a:av}(e:aH H H')(h:jG K H ks a):jG K H' ks a:=by
 refine cI h fun cs h1 h2 h3=>?_
 exact⟨cs,aH.tup e h1,h2,fun z m=>aH.tup e (h3 z m)⟩
theorem DYo.mono{K:aD}{F F' H H':Hp}{a:av}{xs:List V}(f:aH F F')(e:H' a=H a)(h:DYo K F H a xs):DYo K F' H' a xs:=by
 refine Cy h fun o ps vs h1 h2 h3 h4 h5=>?_
 exact⟨o,ps,vs,h1,h2,e.trans h3,fun p m=>(h4 p m).mono f,fun l m=>let ⟨ys,q⟩:=h5 l m;⟨ys,f _ _ q⟩⟩
theorem DY.of{ps:List SP}{h:aX}(z:(a==oz)=false)(hl:ps.length<=cK)(q:h.DictOfH (Hk.k7 (intKind P w)) a ps):∃o,DY a o ps h:=by
 refine ap0 q fun o es ep h1 h2 h3 h4 _ h6=>?_
 exact⟨o,z,hl,h1,h2,es,ep,h3,fun P' w'=>h4,h6⟩
theorem DY.dict(q:DY a o ps h)(k:∀p∈ps,(Hk.k7 (intKind P w)).is h p.1 p.2.1):h.DictOfH (Hk.k7 (intKind P w)) a ps:=by
 obtain ⟨_,_,h1,h2,es,ep,h3,h4,h6⟩:=q
 exact⟨o,es,ep,h1,h2,h3,h4 P w,k,h6⟩
theorem DY.keep{h':aX}(q:DY a o ps h)(e:∀o,h.get? a=some o->h'.get? a=some o):DY a o ps h':=⟨q.1,q.2.1,e o q.2.2.1,q.2.2.2⟩
theorem DG(q:DY a o ps h):gC P w H h a (.ext (DY a o ps)):=⟨q,⟨o,q.2.2.1⟩,fun h1 h2 z e=>z.keep e⟩
section
theorem OJ(I:L2.Inv X pins σ H s){ns:List Int}(h:mF X.K H a (ns.map V.int)):(tupleKind (intKind X.prog X.w)).is s.heap ns a:=by
 refine cI (I.tuple h) fun bA rv bx hsz=>?_
 clear hsz
 obtain ⟨o,e,hc,n,hd⟩:=bx
 refine⟨o,bA.toArray,n,e,hc,hd,?_⟩
 show ItemsAre _ ns bA
 clear h e hd
 induction ns generalizing bA with
 | nil=>cases rv;exact .nil
 | cons i ns ih=>
  cases rv with
  | cons r1 t1=>
   obtain ⟨t,rfl⟩:=r1
   exact .cons (by simp[intKind,Value.isInt]) (ih _ t1)
theorem mz(I:L2.Inv X pins σ H s)(h:jG X.K H ks a):(Hk.k7 (intKind X.prog X.w)).is s.heap ks a:=by
 refine cI h fun cs h1 h2 h3=>?_
 refine cI (I.tuple h1) fun bA rv bx hsz=>?_
 clear hsz
 obtain ⟨o,e,hc,n,hd⟩:=bx
 refine⟨o,bA.toArray,n,e,hc,hd,?_⟩
 show Hk.Refs _ s.heap ks bA
 clear h h1 e hd
 induction ks generalizing cs bA with
 | nil=>
  cases cs with
  | nil=>cases rv;exact rfl
  | cons c cs=>cases h2
 | cons k ks ih=>
  cases cs with
  | nil=>cases h2
  | cons c cs=>
   cases rv with
   | cons r1 t1=>
    cases r1
    exact⟨c,_,rfl,OJ I (h3 (k,c) (.head _)),ih cs (by simpa using h2) (fun z m=>h3 z (.tail _ m)) _ t1⟩
theorem lK(I:L2.Inv X pins σ H s)(ha:H a=some (.ext (DY a o ps)))(hk:∀p∈ps,jG X.K H p.1 p.2.1):s.heap.DictOfH (Hk.k7 (intKind X.prog X.w)) a ps/\(a==oz)=false/\ps.length<=cK:=by
 refine z7 ((show gC X.prog X.w H s.heap a (.ext (DY a o ps)) from I.fB a _ ha)) fun dx _ _=>?_
 exact⟨dx.dict fun p m=>mz I (hk p m),dx.1,dx.2.1⟩
end
end Dm
end ai3
section az1
namespace Dm
open PySem PySem.Spec PyProof.Rows L2 PySem.W
def cA(Cb:av)(gl:GL):Cfg where
 gl:=gl.p
 glM:=gl.m
 ob:=fun t K H a vs=>((t=0/\∃dx fs l,H a=some (.ins Cb dx fs)/\fs.lookup ("cells" : Str)=some (.ref l)/\H l=some (.lst vs))\/(∃c,t=RP c/\((vs=[]/\H a=some (.ext (ClsAt a (.ref c))))\/∃n dx,vs=[.int n]/\H a=some (.ext (VE a c dx))/\H dx=some (.xd [("at",.int n)]))))\/(t=1/\RV K H a vs)\/(t=2/\DYo K H H a vs)
 mono:=fun {t K H H' a vs} e h=>by
  rcases h with (⟨h0,dx,fs,l,h1,h2,h3⟩ | ⟨c,h0,⟨h1,h2⟩ | ⟨n,dx,h1,h2,h3⟩⟩) | ⟨h0,h1⟩ | ⟨h0,h1⟩
  ·exact .inl (.inl ⟨h0,dx,fs,l,e _ _ h1,h2,e _ _ h3⟩)
  ·exact .inl (.inr ⟨c,h0,.inl ⟨h1,e _ _ h2⟩⟩)
  ·exact .inl (.inr ⟨c,h0,.inr ⟨n,dx,h1,e _ _ h2,e _ _ h3⟩⟩)
  ·exact .inr (.inl ⟨h0,h1.mono e⟩)
  ·exact .inr (.inr ⟨h0,h1.mono e (by
    refine Cy h1 fun o ps vs _ _ z _ _=>?_
    exact(e _ _ z).trans z.symm)⟩)
 own:=DYo
 Ii:=fun f e h=>h.mono f e
 Uu:=fun h f e=>.inr (.inr ⟨rfl,h.mono f e⟩)
 ag1:=fun h=>by
  refine Cy h fun o ps vs _ _ z _ _=>?_
  exact⟨_,z⟩
section
def fq:D->R D:=fun a=>match a with | .bM 0 ds=>if ez ds=true then .ok (.lst ds) else .bad | _=>.bad
theorem JT{a d:D}(h:fq a = .ok d):∃ds,a = .bM 0 ds/\ez ds=true/\d = .lst ds:=by
 unfold fq at h
 split at h
 ·split at h
  ·rename_i n;cases h;exact⟨_,rfl,n,rfl⟩
  ·cases h
 ·cases h
theorem JU{a:D}{c:av}{p:Option Int}:fq a≠ .ex c p:=by
 unfold fq
 split
 ·split <;> exact fun h=>(by cases h)
 ·exact fun h=>(by cases h)
theorem JV{K:Frag}{H:Hp}{ds:List D}{x:V}(n:ez ds=true)(q:Rep K (cA Cb gl) H (.bM 0 ds) x):∃a dx fs l,x = .ref a/\H a=some (.ins Cb dx fs)/\fs.lookup ("cells" : Str)=some (.ref l)/\Rep K (cA Cb gl) H (.lst ds) (.ref l):=by
 rw[Rep] at q
 refine bF q fun a xs bx h2 h3=>?_
 clear q
 walk_at"$"
 rcases h2 with (⟨_,dx,fs,l,h4,h5,h6⟩ | ⟨c,z,_⟩) | ⟨z,_⟩ | ⟨z,_⟩
 ·refine⟨a,dx,fs,l,rfl,h4,h5,?_⟩
  rw[Rep]
  exact⟨l,xs,rfl,.of h6,h3.part (.er fun b m=>by rw[fJ.mp m];exact⟨_,h6,rfl⟩) _ n⟩
 ·unfold RP at z;lia
 ·cases z
 ·cases z
theorem OL(hC:KC X.K Cb)(hA:jX X.K Cb "cells")(ha:PE X a (tD X.K (cA Cb gl) G0 Γ E fa aK))(hb:nc a ("cells" : Str) X.env (eval a X.env)=eval a X.env:=by rfl):PE X (.Attribute a "cells" pos) (tD X.K (cA Cb gl) G0 Γ E (wz fq fa) aK.item):=(Vr ha hb).imp fun σ H Q zz=>by
 walk_at"/"
 clear zz
 walk_at"."
 unfold wz R.bind at q
 cases ha:fa st with
 | bad=>rw[ha] at q;exact q
 | ex c p=>rw[ha] at q;exact q
 | ok a=>
  rw[ha] at q
  walk_at"*"
  intro x H1 e1 w1
  cases hg:fq a with
  | bad=>rw[hg] at q;exact q.elim
  | ex c p=>exact aI4 hg JU
  | ok d=>
   rw[hg] at q
   refine cI (JT hg) fun ds jx n sf=>?_
   obtain rfl:=jx
   obtain rfl:=sf
   have fin:∀G:Hp,aH G H1->Rep X.K (cA Cb gl) G (.bM 0 ds) x->(∀v,Rep X.K (cA Cb gl) G (.lst ds) v->Val X.K (cA Cb gl) aK.item G0 A H H1 (.lst ds) v)->∃a C dx fs v,x = .ref a/\H1 a=some (.ins C dx fs)/\KC X.K C/\jX X.K C "cells" /\fs.lookup ("cells" : Str)=some v/\Q v H1:=fun G e qa k=>by
    refine YQ (JV n qa) fun a dx fs l Np h1 h2 h3=>?_
    obtain rfl:=Np
    exact⟨a,Cb,dx,fs,.ref l,rfl,e _ _ h1,hC,hA,h2,q _ _ e1 (k _ h3)⟩
   cases aK with
   | new=>exact fin _ (aL _ _) (w1.le r e1 (κ':=.old) rfl) fun v z=>z
   | uQ=>exact fin _ (aL _ _) (w1.le r e1 (κ':=.old) rfl) fun v z=>z
   | loc=>exact fin _ (aL _ _) (w1.le r e1 (κ':=.old) rfl) fun v z=>z
   | old=>exact fin _ (aL _ _) w1 fun v z=>z
   | qg=>exact fin _ (.refl _) w1.rep fun v z=>z
   | aO=>exact fin _ (.refl _) w1 fun v z=>z
def BW(K:Frag)(Cb:av)(gl:GL)(Fc:List D->R D):Sp:=fun vs H Q E=>∃x dx ds v,vs=[.ref x,v]/\H x=some (.ins Cb dx [])/\(Rep K (cA Cb gl) H (.lst ds) v/\gl.p H)/\match Fc [.lst ds] with
 | .ok _=>ez ds=true/\∀l H' ys,H l=none->(∀b o,b≠x->H b=some o->H' b=some o)->H' x=some (.ins Cb dx [("cells",.ref l)])->H' l=some (.lst ys)->aM K (cA Cb gl) H' ds ys->Q .cY H'
 | .ex c p=>∀H',aH H H'->KU E c p H'
 | .bad=>False
theorem RY{P:dh}{w:bN}{K:Frag}{mg:Str->Option aq}{base:aX}{x qual:Str}{st:bw}{f:av}{fd:gH}{k:Nat}{Fc:List D->R D}(F:KH K x qual st f fd)(S:bV ["self","cells"] ["self","cells"] (aQ st))(hC:KC K Cb)(hA:jX K Cb "cells")
  (CP:∀(dM:aq) (A:bY) (outer:List Env) (s:az) (H:Hp) (E:XK),jy k (A.deeper (envOfC qual (aQ st) s.heap.objs.size f dM))->
   vo ((qf (pU P w) P w K mg base ["self","cells"] qual (aQ st) f dM A outer s H E).fC (m8 (qf (pU P w) P w K mg base ["self","cells"] qual (aQ st) f dM A outer s H E) fun _=>E)) (fF st)
    (Z3 (TZ (tD K (cA Cb gl) H [.par,.par] (fun _=>E) (bZ Fc (aa (ao 1) aG)) κ)) (ZN K (uC 0) (tD K (cA Cb gl) H [.par,.par] (fun _=>E) (bZ lJ (aa (ao 1) aG)) .new) "cells"))) :
  jY P w K mg base (pU P w) (k+1) f fd ["self","cells"] (BW K Cb gl Fc):=by
 refine zU F S (fun vs H Q E jd=>by obtain ⟨x,dx,ds,v,h,_⟩:=jd;rw[h];rfl) fun dM _ A outer s H vs Q E hr n8=>?_
 refine YQ n8 fun x dx ds v hvs hx hd q=>?_
 clear n8
 subst hvs
 have r0:RS K (cA Cb gl) H [.par,.par] [some (.ref x),some v] H [] [none,some (.lst ds)]:=⟨by rw[mw];exact .refl _,fun a m=>(by cases m),rfl,fun i d h=>(by
  match i,h with
  | 1,h=>
   cases h
   exact⟨.par,v,rfl,rfl,by show Rep _ _ (er H []) _ _;rw[mw];exact hd.1⟩),fun i j n m p ds es n6 g1=>(by
  match i,g1 with
  | 0,g1=>cases g1
  | 1,g1=>cases g1),hd.2⟩
 refine⟨_,CP dM A outer s H E hr,[],[none,some (.lst ds)],r0,?_⟩
 have hf:bZ Fc (aa (ao 1) aG) [none,some (.lst ds)]=Fc [.lst ds]:=rfl
 rw[hf]
 cases hF:Fc [.lst ds] with
 | bad=>rw[hF] at q;exact q
 | ex c p=>rw[hF] at q;exact q
 | ok d0=>
  rw[hF] at q
  obtain ⟨n,q⟩:=q
  intro v1 H1 e1 w1
  refine⟨[],[none,some (.lst ds)],r0.mono e1,?_⟩
  have hg:bZ lJ (aa (ao 1) aG) [none,some (.lst ds)] = .ok (.lst ds):=by
   show lJ [.lst ds]=_
   unfold lJ
   dsimp only
   rw[aH2 n]
  rw[hg]
  intro y H2 e2 w2
  refine cI (w2.2.1 rfl) fun l bx nl ow=>?_
  refine aY ow fun ys hl rl=>?_
  walk_at"$"
  have hl2:H2 l=some (.lst ys):=dw _ _ _ _ hl
  have nJ:=e1.trans e2
  have Ic:H2 x=some (.ins Cb dx []):=nJ _ _ hx
  have nlx:l≠x:=fun z=>by rw[z,e1 _ _ hx] at nl;cases nl
  refine⟨.ref x,rfl,x,Cb,dx,[],rfl,Ic,hC,hA,by show 0 < 1000;decide,?_⟩
  have keep:aH (er H2 [x]) (upd H2 x (.ins Cb dx (oV "cells" (.ref l) []))):=fun b o z=>by
   by_cases hb:b=x
   ·rw[hb,eZ (.head _)] at z;cases z
   ·rw[aV hb]
    rw[b9 (by simpa using hb)] at z;exact z
  refine q l _ ys (e1.free nl) (fun b o hb z=>by rw[aV hb];exact nJ _ _ z) bS (by rw[aV nlx];exact hl2) ?_
  have rl2:aM K (cA Cb gl) H2 ds ys:=rl.same ((aL _ _).trans (dw _ _)) _
  refine aM.same keep _ (rl2.part ⟨aL _ _,fun b xs z=>?_⟩ _ n)
  unfold Rd
  have:b≠x:=fun w=>by
   subst w
   rcases z with z | ⟨o,z⟩
   ·rw[Ic] at z;cases z
   ·rw[Ic] at z;cases z
  rw[b9 (by simpa using this)];exact z
def rE(Fc:List D->R D):List D->R D:=fun ds=>match ds with
 | [.lst es]=>(match Fc [.lst es] with | .ok _=>if ez es=true then .ok (.bM 0 es) else .bad | .ex c p=>.ex c p | .bad=>.bad)
 | _=>.bad
theorem OM{X:Cx}(M:Mk X.K Cb fi)(Fn:jY X.prog X.w X.K X.mg X.base (pU X.prog X.w) k fi fd ["self","cells"] (BW X.K Cb gl Fc))(hr:jy (k+1) X.A)(hm:X.mg x=some (.ref Cb))(hb:Binds X.K fd ["self","cells"] [])
  (ha:PA (X.fC (m8 X E)) [e] (KW X.K (cA Cb gl) G0 Γ E fs κ)) (hg:Gl X x:=by rfl) (EA:(x==("__debug__" : Str))=false:=by decide) (he:bL [e] X.env=[(false,eval e X.env)]:=by rfl) :
  PE (X.fC (m8 X E)) (.Call (.Name x p) [e] [] pos) (tD X.K (cA Cb gl) G0 Γ E (bZ (rE Fc) fs) .new):=(NB M Fn hr hg hm hb ha EA he).imp fun σ H Q zz=>by
 walk_at"/"
 clear zz
 walk_at"."
 unfold bZ R.bind at q
 cases hf:fs st with
 | bad=>rw[hf] at q;exact q
 | ex c p=>rw[hf] at q;exact q
 | ok ds=>
  rw[hf] at q
  walk_at"*"
  intro vs H1 e1 w1 y dx hy hdx YD
  have s0:aH H1 (upd (upd H1 dx (.own y)) y (.ins Cb dx [])):=fun b o z=>by
   rw[aV (b8 z hy),aV (b8 z hdx)];exact z
  match ds,q,w1 with
  | [.lst es],q,w1=>
   refine aY (pG w1) fun v jx wv=>?_
   obtain rfl:=jx
   refine⟨y,dx,es,v,rfl,bS,⟨(wv.same Kd.rB _).same s0 _,gl.m ((r.g0.trans e1).trans s0) r.gl⟩,?_⟩
   unfold rE at q
   walk_at"*"
   cases hF:Fc [.lst es] with
   | bad=>rw[hF] at q;exact q
   | ex c p=>rw[hF] at q;exact fun H' e'=>q H' ((e1.trans s0).trans e')
   | ok d0=>
    rw[hF] at q
    walk_at"*"
    by_cases n:ez es=true
    ·rw[aH2 n] at q
     refine⟨n,fun l H' ys nl kp sd Ib rp=>⟨rfl,?_⟩⟩
     have e':aH H1 H':=fun b o z=>kp b o (b8 z hy) (s0 b o z)
     have eH:=e1.trans e'
     have hy0:H y=none:=e1.free hy
     have Wa:H l=none:=e1.free (s0.free nl)
     refine q _ _ eH ⟨?_,.not rfl rfl⟩
     rw[Rep]
     refine⟨y,ys,rfl,.inl (.inl ⟨rfl,dx,_,l,by rw[kX hy0];exact sd,rfl,by rw[kX Wa];exact Ib⟩),rp.part (.nw eH) _ n⟩
    ·rw[aH3 n] at q;exact q.elim
  | [],q,_=>exact q.elim
  | [.cY],q,_=>exact q.elim
  | [.bl _],q,_=>exact q.elim
  | [.int _],q,_=>exact q.elim
  | [.str _],q,_=>exact q.elim
  | [.tup _],q,_=>exact q.elim
  | [.bM _ _],q,_=>exact q.elim
  | d1::d2::dr,q,_=>
   have:rE Fc (d1::d2::dr) = .bad:=by unfold rE;cases d1 <;> rfl
   rw[this] at q;exact q.elim
end
section
variable {X:Cx}{e:bH}{rest:List bH}{pos:Pos}{s:bw}
theorem yw:∀(es:List bH) (out:Str) (m:Nat),(∀e∈es,zq X P n e)->out.length+es.length * n<=m->m<=100000->∀(pins:List (av×Obj)) (s:az) (σ:L2.St) (H:Hp) (Q:aq->az->Prop) (Ex:aq->az->Prop),L2.Inv X pins σ H s->P σ->(∀x t s',L2.Inv X pins σ H s'->x.length<=m->Q (.str x t) s')->aB (aC X.prog X.w) X.A (joinParts out (evalEach es X.env)) Q Ex s
 | [],out,m,_,hl,hm,pins,s,σ,H,Q,Ex,I,p,q=>joinParts_nil (q _ _ _ (I.tok _) (by simp at hl;lia)) (by rw[gn];simp at hl;lia)
 | e::es,out,m,h,hl,hm,pins,s,σ,H,Q,Ex,I,p,q=>by
  show aB _ _ (joinParts out (eval e X.env::evalEach es X.env)) Q Ex s
  refine joinParts_cons (h e (.head _) pins s σ H _ Ex I p fun x t s' I' hx=>?_)
  have hlen:(out++x).length=out.length+x.length:=strLen_append out x
  rw[cS,Nat.add_mul,Nat.one_mul] at hl
  refine⟨by rw[hlen,gn];lia,?_⟩
  exact yw es (out++x) m (fun e' m'=>h e' (.tail _ m')) (by rw[hlen];lia) hm pins s' σ H Q Ex I' p q
theorem DH(h:∀e∈v1::v2::rest,zq X P n e)(hm:(v1::v2::rest).length * n<=100000):zq X P ((v1::v2::rest).length * n) (.JoinedStr (v1::v2::rest) pos):=fun pins s σ H Q Ex I p q=>
 JoinedStr_many (yw (v1::v2::rest) Str.empty _ h (by show 0+_<=_;lia) hm pins s σ H Q Ex I p q)
theorem all_nil:∀e∈([]:List bH),zq X P n e:=fun e h=>by cases h
theorem all_cons(h:zq X P n e)(t:∀e∈es,zq X P n e):∀e'∈e::es,zq X P n e':=fun e' m=>by
 rcases bP.mp m with rfl | m
 ·exact h
 ·exact t e' m
def iY(c:av):DS:=fun st=>.ex c none st
theorem mQ{X:Cx}(FB:ExcBaseFacts B newId Nv bm)(hh:X.A.handled=none)(hm:X.mg x=some (.ref K0))(hc:Ys X.K K0 bm newId=true)(ha:zq (X.fC (m8 X E)) (fun _=>True) n Bl)(hg:Gl X x:=by rfl)
  (he:bL [Bl] X.env=[(false,eval Bl X.env)]:=by rfl) (hd:(x==("__debug__" : Str))=false:=by decide) :
  PS (X.fC (m8 X E)) (.Raise (some (.Call (.Name x np) [Bl] [] iN)) none pos) (qi X.K C G0 Γ E k6 (iY K0)):=by
 have P1:PE (X.fC (m8 X E)) Bl (fun σ H Q=>∀x:Str,Q (.str x) H):=fun pins s σ H Q I q=>ha pins s σ H _ _ I trivial fun x t s' I' _=>⟨.str x,H,I',⟨t,rfl⟩,q x⟩
 refine(Nx FB hh hm hc hg (iU P1 m7 he) he rfl hd).imp fun D σ H jd=>?_
 refine dS jd fun A st r q=>?_
 clear jd
 intro x
 exact⟨yh (by show 1<=100;decide),q σ H A r (.refl _)⟩
end
theorem ak{Γ:List SK}(i:Nat)(h:PE X e (uC i))(hk:Γ[i]?=some .par:=by rfl):PE X e (tD X.K C G0 Γ E (ao i) .old):=Gy i h hk
theorem jw{Γ:List SK}(i:Nat)(h:PE X e (uC i))(hk:Γ[i]?=some .loc:=by rfl):PE X e (tD X.K C G0 Γ E (ao i) .loc):=Gy i h hk
theorem lN{Γ:List SK}(i:Nat)(h:PE X e (uC i))(hk:Γ[i]?=some (.own true):=by rfl):PE X e (tD X.K C G0 Γ E (ao i) .qg):=Gy i h hk
theorem dO(ha:PE X a (tD X.K C G0 Γ E fa aK))(hb:PE X b (tD X.K C G0 Γ E fb cW))(hs:w5 b)(hk:aK.item = .old:=by rfl):PE X (.Subscript a b pos) (tD X.K C G0 Γ E (bK jP fa fb) .old):=hk▸Wi ha hb hs
theorem t9{X:Cx}(hC:KC X.K Cb)(hA:jX X.K Cb "cells")(ha:PE X a (tD X.K (cA Cb gl) G0 Γ E fa aK))(hb:nc a ("cells" : Str) X.env (eval a X.env)=eval a X.env:=by rfl)(hk:aK.item = .old:=by rfl):PE X (.Attribute a "cells" pos) (tD X.K (cA Cb gl) G0 Γ E (wz fq fa) .old):=hk▸OL hC hA ha hb
def uX(K:Frag)(mg:Str->Option aq)(x qual:Str)(st:bw)(ps:List Str):Prop:=∃a fd,KH K x qual st a fd/\mg x=some (.ref a)/\Binds K fd ps []
def JW(n:Nat)(P:List aq->Prop):Prop:=match n with | 0=>P [] | n+1=>∀u,JW n fun us=>P (u::us)
theorem jB(h:JW n P){us:List aq}(hl:us.length=n):P us:=by
 subst hl
 induction us generalizing P with
 | nil=>exact h
 | cons u us ih=>exact ih (h u)
theorem Ah{K:Frag}{x qual:Str}{st:bw}{f:av}{fd:gH}{ps:List Str}(F:KH K x qual st f fd)(h:∀(kV doc pm:aq) (an:Option av) (dM ct:aq),JW ps.length fun us=>bindArgs (ng x qual (jm st) (fF st) (aQ st) .none kV doc pm an dM ct) ⟨us,[]⟩=pure (ps.zip us)):Binds K fd ps []:=F.binds fun kV doc pm an dM ct us hl=>jB (h kV doc pm an dM ct) hl
theorem WB{K:Frag}{h:aX}{mg:Str->Option aq}{x:Str}{st:bw}{ps:List Str}{f:av}{oc:aq}{od an:Option av}{Ez:Array (Option aq)}{kV doc pm dM ct:aq}(X:K.In h)(G:h.Ns dz mg)(a:nsIn K dz x=some (some (.ref f)))(l:K.lookup f=some ⟨oc,od,.func (ng x x (jm st) (fF st) (aQ st) .none kV doc pm an dM ct),Ez⟩)
  (c:PySem.W.codeIn K dM x=true) (k:u7 K (.ref f)=true) (hb:∀(kV doc pm:aq) (an:Option av) (dM ct:aq),JW ps.length fun us=>bindArgs (ng x x (jm st) (fF st) (aQ st) .none kV doc pm an dM ct) ⟨us,[]⟩=pure (ps.zip us)):uX K mg x x st ps:=
 ⟨_,_,Bh (st:=st) l c k,mg_of X G a,Ah (Bh (st:=st) l c k) hb⟩
structure FD(P:dh)(w:bN)(K:Frag)(mg:Str->Option aq)(base:aX)(C:Cfg)(k:Nat)(x:Str)(ps:List Str)(n:Nat)(F:List D->R D)(κ:Bool):Prop where
 ex:∃a fd,jY P w K mg base (pU P w) k a fd ps (spD K C n F κ)/\mg x=some (.ref a)/\keepIn K (.ref a)=true/\Binds K fd ps []/\∃o,K.lookup a=some o/\o.data = .func fd
theorem yx{K:Frag}{x qual:Str}{st:bw}{a:av}{fd:gH}(F:KH K x qual st a fd):∃o,K.lookup a=some o/\o.data = .func fd:=by
 refine V1 F.ex fun oc od kV doc pm an dM ct Ez e lk FP=>?_
 exact⟨_,lk,rfl⟩
theorem gR{P:dh}{w:bN}{K:Frag}{mg:Str->Option aq}{base:aX}{C:Cfg}{x qual:Str}{st:bw}{N ps:List Str}{Γ:List SK}{k n:Nat}{k6:Bool}{Fb:DS}(T:uX K mg x qual st ps)(S:bV N ps (aQ st))(hn:ps.length=n)(CV:∀i,i < n->Γ[i]?=some .par)
  (body:∀(f:av) (dM:aq),(mg x=some (.ref f)/\∃o fd,K.lookup f=some o/\o.data = .func fd/\fd.code=dM)->∀(A:bY) (outer:List Env) (s:az) (H:Hp) (E:XK),jy k (A.deeper (envOfC qual (aQ st) s.heap.objs.size f dM))->
   vo ((qf (pU P w) P w K mg base N qual (aQ st) f dM A outer s H E).fC (m8 (qf (pU P w) P w K mg base N qual (aQ st) f dM A outer s H E) fun _=>E)) (fF st) (qi K C H Γ (fun _=>E) k6 Fb)) :
  FD P w K mg base C (k+1) x ps n (cM N.length Fb) k6:=by
 refine bF T fun a fd Fu hm hb=>?_
 clear T
 exact⟨a,fd,Wl Fu S hn CV (fun dM hc=>body a dM ⟨hm,let ⟨o,h1,h2⟩:=yx Fu;⟨o,fd,h1,h2,hc⟩⟩),hm,Fu.kp,hb,yx Fu⟩
theorem aN{X:Cx}(Fn:FD X.prog X.w X.K X.mg X.base C k x ps n F EG)(hr:jy j X.A)(hj:k<=j)
  (ha:PA (X.fC (m8 X E)) (e::es) (KW X.K C G0 Γ E fs κ)) (hlen:∀st ds,fs st = .ok ds->ds.length=n) (hkc:Ov EG=az4:=by rfl) (hg:Gl X x:=by rfl) (EA:(x==("__debug__" : Str))=false:=by decide) (he:bL (e::es) X.env=(false,eval e X.env)::bL es X.env:=by rfl) (z5:(backTo pos (bL es X.env)).any (·.1)=false:=by rfl) :
  PE (X.fC (m8 X E)) (.Call (.Name x p) (e::es) [] pos) (tD X.K C G0 Γ E (bZ F fs) az4):=by
 refine J7 Fn.ex fun a fd h1 h2 h3 h4 _=>?_
 subst hkc
 exact RJ h1 (hr.mono hj) h2 h3 h4 ha hlen hg EA he z5
theorem nO{cl cs:List (Str×av)}(h:∀p∈cl,cs.lookup p.1=some p.2):∀x c,cl.lookup x=some c->cs.lookup x=some c:=fun x c e=>by
 induction cl with
 | nil=>cases e
 | cons p cl ih=>
  obtain ⟨n,a⟩:=p
  rw[oM] at e
  by_cases hx:(x==n)=true
  ·rw[hx] at e
   cases e
   rw[aH6.mp hx]
   exact h (n,c) (.head _)
  ·rw[Mv] at hx
   rw[hx] at e
   exact ih (fun q m=>h q (.tail _ m)) e
theorem lookup_mem:∀{names:List (Str×β)},names.lookup x=some k->(x,k)∈names
 | [],e=>by cases e
 | (n,k')::ns,e=>by
  rw[oM] at e
  by_cases hx:(x==n)=true
  ·rw[hx] at e
   cases e
   rw[aH6.mp hx];exact .head _
  ·rw[Mv] at hx
   rw[hx] at e
   exact .tail _ (lookup_mem e)
theorem kC{names:List (Str×NameKind)}{cl:List (Str×av)}(h:(names.all fun p=>(p.2 != .cell&&p.2 != .free) || (cl.lookup p.1).isSome)=true):∀x,(names.lookup x=some .cell\/names.lookup x=some .free)->∃c,cl.lookup x=some c:=fun x e=>by
 have go:∀{k:NameKind},names.lookup x=some k->(k != .cell&&k != .free)=false->∃c,cl.lookup x=some c:=fun {k} e hk=>by
  have:=gI.mp h _ (lookup_mem e)
  dsimp only at this
  rw[hk,B5] at this
  exact Mw.mp this
 rcases e with e | e
 ·exact go e rfl
 ·exact go e rfl
theorem mR{X:Cx}{C:Cfg}{G0:Hp}{Γ:List SK}{E:L2.St->XK}{tg iter elt:bH}{ifs:List bH}{scope:iI}{cl:List (Str×av)}{pos:Pos}{g:TG}{bind:DB}{gi:DI}{ft fe:DF}{tX EG:Kd}{n z:Bool}{gU:List Str}{caps:List (Nat×Str)}{kk:Nat}{fr:List Nat}
  (GG:PI X tg iter (QA X.K C G0 Γ E z gi)) (b:JR X C G0 Γ tg elt ifs scope cl g bind ft fe tX n z gU caps) (hs:∀x,vh iter X.env x=pure x:=by intro _;rfl) (hk:yv z n=EG:=by rfl) (h1:gU.length=kk:=by rfl) (h2:caps.map (·.1)=fr:=by rfl) :
  PE X (.ListComp elt [⟨tg,iter,ifs,0⟩] scope pos) (tD X.K C G0 Γ E (iS gi kk fr bind ft fe) EG):=by
 subst hk;subst h1;subst h2
 exact RT GG b hs
theorem yy{X:Cx}{C:Cfg}{G0:Hp}{Γ:List SK}{E:L2.St->XK}{k6:Bool}{tg iter elt:bH}{ifs:List bH}{scope:iI}{cl:List (Str×av)}{pos:Pos}{g:TG}{bind:DB}{gi:DI}{ft fe:DF}{tX:Kd}{n z:Bool}{gU:List Str}{caps:List (Nat×Str)}{kk:Nat}{fr:List Nat}
  {i:Nat} {k:SK} {x:Str} {pos' OI:Pos} (hN:X.N.Nodup) (GG:PI X tg iter (QA X.K C G0 Γ E z gi)) (b:JR X C G0 Γ tg elt ifs scope cl g bind ft fe tX n z gU caps) (hk:Γ[i]?=some k:=by rfl) (hl:k.takes (yv z n)=true:=by rfl) (hi:X.N[i]?=some x:=by rfl) (hx:X.env.scope.names.lookup x=some .local:=by rfl)
  (hsw:swapsWith (.ListComp elt [⟨tg,iter,ifs,0⟩] scope pos) (some (.Name x pos')) OI.line X.env=pure true:=by rfl) (hs:∀x,vh iter X.env x=pure x:=by intro _;rfl) (h1:gU.length=kk:=by rfl) (h2:caps.map (·.1)=fr:=by rfl) :
  PS X (.Assign [.Name x pos'] (.ListComp elt [⟨tg,iter,ifs,0⟩] scope pos) OI) (qi X.K C G0 Γ E k6 (dU i (iS gi kk fr bind ft fe))):=by
 subst h1;subst h2
 exact RU hN GG b hk hl hi hx hsw hs
end Dm
end az1
section az5
namespace Dm
open PySem PySem.Spec PyProof.Rows L2
def Ite(K:aD)(a:av):It:=
 ⟨fun i H=>∃xs x,ko K H a xs/\xs[i]?=some x,fun i H x H'=>∃T y,H T=none/\H'=upd H T (.tup [.int i,y])/\x = .ref T/\∀xs,ko K H a xs->xs[i]?=some y,fun i H=>∃xs,ko K H a xs/\xs.length<=i⟩
theorem JX{P:dh}{w:bN}{K:aD}{elts:List bH}{x1}{pos:Pos}(a e it:av)(hei:e≠it):Turn P w K (.Tuple elts x1 pos) (Ite K a) [e,it] e (fun i h=>(∃old,IsEnum h e it i old)/\h.IsListIter it a i) where
 mem:=by simp
 obj:=fun i h st b hb=>by
  obtain ⟨⟨old,he⟩,o,ho,c,d⟩:=st
  rcases bP.mp hb with rfl | hb
  ·exact⟨_,he,fun v z=>by cases z⟩
  ·obtain rfl:b=it:=by simpa using hb
   exact⟨o,ho,fun v z=>by rw[d] at z;cases z⟩
 keep:=fun i h h' st k=>⟨st.1.imp fun old he=>k e (by simp) _ he,st.2.at fun o z=>k it (by simp) o z⟩
 item:=by
  walk_at"4"
  subst hP hw hK
  obtain ⟨⟨old,he⟩,hit⟩:=st
  refine dS hg fun xs x hq hx=>?_
  clear hg
  refine cI (I.list hq) fun bA rv p hz=>?_
  refine aY (rv.get hx) fun u hu ru=>?_
  have fe:=hf e (by simp)
  have fi:=hf it (by simp)
  have hn:H s.heap.objs.size=none:=I.fB.fresh (bf _)
  refine wpAny_pyNext_enum_item he hit p.isList (x:=u) (by simpa using hu) hei fun h' ho BX hT hsz hk=>⟨_,rfl,?_⟩
  have kp:∀b o,b∉[e,it]->s.heap.get? b=some o->h'.get? b=some o:=fun b o hb q=>hk b o (fun z=>hb (by simp[z])) (fun z=>hb (by simp[z])) q
  have lt:∀b o,s.heap.get? b=some o->b≠s.heap.objs.size:=fun b o q=>di (bX q)
  have I1:L2.Inv X pins σ (upd H s.heap.objs.size (.tup [.int i,x])) { s with heap:=h',toks:=s.toks+1 }:=by
   refine Inv.CI I (s':={ s with heap:=h',toks:=s.toks+1 }) (ch:=[e,it]) rfl ⟨fun b o q n nf nx=>kp b o nx q,fun b o q n nf nx=>⟨o.slots,kp b o nx q⟩,fun b o q n nx=>?_,fun b o q nx=>⟨o,kp b o nx q⟩,fun b ys q=>?_,fun b o u' q=>?_,fun b zp zr q=>?_⟩ (fun b o q=>?_) I.bare (fun b hb=>?_)
   ·rw[aV (lt b o q)];exact n
   ·rw[aV (b8 q hn)];exact q
   ·rw[aV (b8 q hn)];exact q
   ·rw[aV (b8 q hn)];exact q
   ·by_cases hb:b=s.heap.objs.size
    ·subst hb
     rw[bS] at q;cases q
     exact⟨by simp only[cS,oK];rw[gn];decide,[.int i s.toks,u],.cons ⟨_,rfl⟩ (.cons ru .nil),⟨_,hT,rfl,0,rfl⟩⟩
    ·rw[aV hb] at q
     refine(I.fB b o q).z8 (fun c v vQ z=>kp c v ?_ z) (fun c z=>by rw[aV (b8 z hn)];exact z) (fun c ys z=>by rw[aV (b8 z hn)];exact z) fun c zo ys z=>by rw[aV (b8 z hn)];exact z
     intro hm
     rcases bP.mp hm with rfl | hm
     ·rcases vQ with rfl | vQ
      ·rw[fe.1] at q;cases q
      ·rw[fe.1] at vQ;cases vQ
     ·obtain rfl:c=it:=by simpa using hm
      rcases vQ with rfl | vQ
      ·rw[fi.1] at q;cases q
      ·rw[fi.1] at vQ;cases vQ
   ·refine vO (hf b hb) fun f0 f1 f2 f3 f4 f5=>?_
    exact⟨f3,f1,f4,f5⟩
  have ne:e≠s.heap.objs.size:=lt e _ he
  have ni:it≠s.heap.objs.size:=by obtain ⟨o,z,_⟩:=hit;exact lt it _ z
  refine vO fe fun f0 f1 f2 f3 f4 f5=>?_
  clear fe
  refine wpAny_letOwnedTupleGo_enum ho fun h2 QB Vq=>?_
  have I2:L2.Inv X pins σ (upd H s.heap.objs.size (.tup [.int i,x])) { s with heap:=h2,toks:=s.toks+1 }:=I1.turned (t':=s.toks+1) (fun b o hb q=>(Vq.2 b hb).trans q) (by rw[aV ne];exact f0) f1 f3 f4 f5
  refine⟨.ref s.heap.objs.size,_,I2,rfl,⟨_,x,hn,rfl,rfl,fun ys hy=>by rw[I.xJ hy hq];exact hx⟩,⟨⟨u,by simpa using QB⟩,BX.at fun o z=>(Vq.2 it (eX hei)).trans z⟩,fun b hb=>?_⟩
  rcases bP.mp hb with rfl | hb
  ·rw[aV ne];exact f0
  ·obtain rfl:b=it:=by simpa using hb
   rw[aV ni];exact fi.1
 done:=by
  walk_at"4"
  subst hP hw hK
  obtain ⟨⟨old,he⟩,hit⟩:=st
  refine aY hg fun xs hq hx=>?_
  clear hg
  refine cI (I.list hq) fun bA rv p hz=>?_
  refine vO (hf it (by simp)) fun f0 f1 f2 f3 f4 f5=>?_
  have hl:=rv.length
  exact wpAny_pyNext_enum_end (I.ok.hd hc) he hit p.isList (qX (by simp;lia)) fun h' eb=>⟨rfl,I.turned (t':=s.toks) (fun b o hb e=>eb b o hb e) f0 f1 f3 f4 f5⟩
 self:=fun _ _ _ _ _ st h=>by
  obtain ⟨⟨old,he⟩,_⟩:=st
  exact Lh he h
def iEn(K:aD)(ta:TA):TI:=fun σ H R=>ta σ H fun vs H1=>∃a,vs=[.ref a]/\(∃xs,ko K H1 a xs)/\R (Ite K a) H1
theorem JY:lE "enumerate" =some (.type "enumerate"):=by decide +kernel
section
theorem RZ{p pos tp:Pos}{ta:TA}(hg:Gl X "enumerate")(hm:X.mg "enumerate" =none)(ha:PA X [a] ta)(hs:bL [a] X.env=[(false,eval a X.env)]:=by rfl):PI X (.Tuple elts x1 tp) (.Call (.Name "enumerate" p) [a] [] pos) (iEn X.K ta):=by
 intro pins s σ H R I h
 refine Call_ (xG I hg hm JY (Mr (gS (ha pos pins s σ H _ I h) fun us s1 jd=>?_) hs rfl))
 refine bF jd fun vs H1 I1 r1 q1=>?_
 clear jd
 refine cI q1 fun a e bx q=>?_
 clear q1
 obtain ⟨xs,hq⟩:=bx
 subst e
 cases r1 with
 | cons r rr=>
  cases rr
  cases r
  refine cI (I1.list hq) fun bA rv p hz=>?_
  refine call_enumerate_list p.isList fun h' he hit hsz hk=>Lh he ?_
  have I2:L2.Inv X pins σ H1 { s1 with heap:=h' }:=I1.kept (t':=s1.toks) hk
  refine⟨s1.heap.objs.size+1,[s1.heap.objs.size+1,s1.heap.objs.size],_,_,H1,rfl,I2,JX a _ _ (Nat.succ_ne_self _),⟨⟨.none,he⟩,hit⟩,fun b hb=>?_,q⟩
  have pW:s1.heap.objs.size<=b:=by
   rcases bP.mp hb with rfl | hb
   ·exact wQ _
   ·obtain rfl:b=s1.heap.objs.size:=by simpa using hb
    exact bf _
  exact I1.Jd pW (I1.fB.fresh pW)
def enD(ds:List D):List D:=ds.mapIdx fun i d=>.tup [.int i,d]
def DJ(f:DF):DI:=fun st=>match f st with | .ok (.lst ds)=>.ok (enD ds) | .ok _=>.bad | .ex c p=>.ex c p | .bad=>.bad
theorem Io(hm:X.mg "enumerate" =none)(ha:PE X a (tD X.K C G0 Γ E f κ))(l:z=true->κ.le .old=true)(hgl:Gl X "enumerate":=by rfl)(hs1:bL [a] X.env=[(false,eval a X.env)]:=by rfl):PI X (.Tuple elts x1 tp) (.Call (.Name "enumerate" p) [a] [] pos) (QA X.K C G0 Γ E z (DJ f)):=(RZ hgl hm (iU ha m7 hs1) hs1).imp fun σ H Q zz=>by
 walk_at"/"
 clear zz
 walk_at"."
 unfold DJ at q
 cases hf:f st with
 | bad=>rw[hf] at q;exact q
 | ex c p=>rw[hf] at q;exact q
 | ok d=>
  rw[hf] at q
  cases d with
  | lst ds=>
   walk_at"*"
   intro v H1 e1 w
   have w':Rep X.K C (er H1 (zB z A)) (.lst ds) v:=by
    unfold zB
    cases z with
    | true=>exact w.le r e1 (κ':=.old) (l rfl)
    | false=>rw[aH3 (by decide),mw];exact w.rep
   rw[Rep] at w'
   refine bF w' fun a xs bx h2 h3=>?_
   clear w'
   walk_at"$"
   refine⟨a,rfl,⟨xs,(aL _ _).seq h2⟩,q _ _ e1 fun i H3 A3 e3 nA=>⟨fun d hd=>?_,fun hd=>?_⟩⟩
   ·unfold enD at hd
    rw[Fo] at hd
    cases tV:ds[i]? with
    | none=>rw[tV] at hd;cases hd
    | some d0=>
     rw[tV] at hd;cases hd
     refine aY (h3.get' tV) fun v hv rv=>?_
     have s3:ko X.K H3 a xs:=(e3.trans (aL _ _)).seq h2
     refine⟨⟨xs,v,s3,hv⟩,fun x H' n8=>?_⟩
     refine vP n8 fun T y hT hH ex hx=>?_
     clear n8
     subst hH ex
     have:=hx xs s3
     rw[hv] at this;cases this
     have nT:T∉A3:=fun m=>nA T m hT
     refine⟨cV hT,?_⟩
     have up:aH (er H3 A3) (er (upd H3 T (.tup [.int i,v])) A3):=aI (cV hT)
     rw[Rep]
     refine⟨T,_,rfl,.inl (.inl (by rw[b9 nT,bS])),?_⟩
     rw[aM]
     refine⟨.int i,[v],rfl,BJ,?_⟩
     rw[aM]
     refine⟨v,[],rfl,rv.same ((aL _ _).trans (e3.trans up)) _,?_⟩
     rw[aM]
   ·unfold enD at hd
    rw[Fo] at hd
    refine⟨xs,(e3.trans (aL _ _)).seq h2,by rw[h3.len];exact nv.mp (by cases tV:ds[i]? with | none=>rfl | some d=>rw[tV] at hd;cases hd)⟩
  | _=>exact q.elim
theorem Ip{bind:DB}{g:TG}{gi:DI}(hp:PassesOwn (aC X.prog X.w) X.A X.env X.xe)(hc:X.calm=true)(hI:PI X tg iter (QA X.K C G0 Γ E true gi))(hg:PG X tg g)(hB:qx X.K C G0 Γ g bind)(hb:vo X ss (qi X.K C G0 Γ E k6 F))(hs:∀x,vh iter X.env x=pure x:=by intro _;rfl) :
  PS X (.For tg iter ss [] pos) (qi X.K C G0 Γ E k6 (ir gi bind F)):=(FW hp hc hI hg hb hs).imp fun D σ H zz=>by
 walk_at"/"
 clear zz
 walk_at"."
 unfold ir at q
 cases hg:gi st with
 | bad=>rw[hg] at q;exact q.elim
 | ex c p=>rw[hg] at q;exact fun H' e'=>q σ H' A (r.mono e') (aI e')
 | ok ds=>
  rw[hg] at q
  intro J H1 e1 hJ
  exact uU hB hJ r e1 q
end
end Dm
end az5
section az6
namespace Dm
open PySem PySem.Spec PyProof.Rows L2 PySem.W
section
def aG3:D->D->R D:=fun a b=>match a,b with
 | .lst ds,.int k=>if (ez ds&&decide (0<=k)&&decide (k < 5000)&&decide (ds.length * k.toNat<=5000))=true then .ok (.lst (lT k.toNat ds).flatten) else .bad
 | _,_=>.bad
def aG4:List D->R D:=fun ds=>match ds with | [.int i]=>.ok (.int (if i < 0 then -i else i)) | _=>.bad
theorem mS:lE "tuple" =some (.type "tuple"):=by decide +kernel
def isI:D->Bool | .int _=>true | _=>false
def ai4:D->Bool | .tup (.int _::_)=>true | _=>false
def ai5:D->Bool | .tup (.tup _::_)=>true | _=>false
def Ai(ds:List D):Bool:=decide (ds.length < 64)&&ez ds&&ds.all (fun d=>nl d&&decide (dep d<=50))&&ds.all (fun a=>ds.all fun b=>iG a b)&&(ds.all isI || ds.all ai4 || ds.all ai5)
theorem ON(h:Ai ds=true):sS ds:=by
 unfold Ai at h
 simp only[cu,oO,aH7,gI] at h
 obtain ⟨⟨⟨⟨h1,h2⟩,h3⟩,h4⟩,h5⟩:=h
 refine⟨?_,h1,fun a ha b hb=>h4 a ha b hb,fun a ha=>(h3 a ha).1,fun a ha=>(h3 a ha).2⟩
 rcases h5 with (h5 | h5) | h5
 ·exact⟨_,.nums fun d hd=>by have:=h5 d hd;unfold isI at this;split at this;exact⟨_,rfl⟩;cases this⟩
 ·exact⟨_,.oS fun d hd=>by have:=h5 d hd;unfold ai4 at this;split at this;exact⟨_,_,rfl⟩;cases this⟩
 ·exact⟨_,.VW fun d hd=>by have:=h5 d hd;unfold ai5 at this;split at this;exact⟨_,_,rfl⟩;cases this⟩
def rF:List D->R D:=fun ds=>match ds with
 | [.lst es]=>if Ai es=true then .ok (.lst (gq es)) else .bad
 | _=>.bad
theorem JZ{K:Frag}:Wj K C (Ob K C) rF .new:=fun G0 Γ E σ A st H ds xs Q r w q=>by
 cases hg:rF ds with
 | bad=>rw[hg] at q;exact q.elim
 | ex c p=>unfold rF at hg;split at hg <;> (try split at hg) <;> cases hg
 | ok d=>
  rw[hg] at q
  unfold rF at hg
  split at hg
  ·rename_i es
   split at hg
   ·rename_i hc
    cases hg
    refine aY (pG w) fun v jx w1=>?_
    obtain rfl:=jx
    have n:ez es=true:=by unfold Ai at hc;simp only[cu] at hc;exact hc.1.1.1.2
    refine⟨v,es,rfl,w1,ON hc,fun p ws hp QM=>q _ _ (cV hp) (.lst r (.refl _) hp (QM.part (.nw (.refl _)) _ ?_))⟩
    exact fM fun d hd=>kZ n ((cR es).mem_iff.mp hd)
   ·cases hg
  ·cases hg
end
section
def j7:List D->R D:=fun ds=>match ds with | [.lst es]=>if ez es=true then .ok (.tup es) else .bad | _=>.bad
theorem kI{K:Frag}:Wj K C (fun xs H Q=>∃p ys,xs=[.ref p]/\((ko K H p ys/\∀l,H l=none->Q (.ref l) (upd H l (.tup ys)))\/(mF K H p ys/\Q (.ref p) H))) j7 .new:=fun G0 Γ E σ A st H ds xs Q r w q=>by
 unfold j7 at q
 split at q
 ·rename_i zz
  split at zz
  ·rename_i es
   split at zz
   ·rename_i n
    cases zz
    refine aY (pG w) fun v jx w1=>?_
    obtain rfl:=jx
    refine bF w1.items fun p ys bx s t=>?_
    walk_at"$"
    refine⟨p,ys,rfl,.inl ⟨s,fun l hl=>q _ _ (cV hl) (.flat r (cV hl) (by rw[gM];exact n) ?_ _)⟩⟩
    rw[Rep]
    exact⟨l,ys,rfl,.inl (.inl bS),t.same (cV hl) _⟩
   ·cases zz
  ·cases zz
 ·rename_i zz
  split at zz
  ·split at zz <;> cases zz
  ·cases zz
 ·exact q.elim
def iTp(f:DF):DI:=fun st=>match f st with | .ok (.tup ds)=>.ok ds | .ok _=>.bad | .ex c p=>.ex c p | .bad=>.bad
theorem WC(he:PE X iter (tD X.K C G0 Γ E f κ))(l:z=true->κ.le .old=true):PI X tg iter (QA X.K C G0 Γ E z (iTp f)):=(Vl he).imp fun σ H Q zz=>by
 walk_at"/"
 clear zz
 walk_at"."
 unfold iTp at q
 cases hf:f st with
 | bad=>rw[hf] at q;exact q
 | ex c p=>rw[hf] at q;exact q
 | ok d=>
  rw[hf] at q
  cases d with
  | tup ds=>
   walk_at"*"
   intro v H1 e1 w
   have w':Rep X.K C (er H1 (zB z A)) (.tup ds) v:=by
    unfold zB
    cases z with
    | true=>exact w.le r e1 (κ':=.old) (l rfl)
    | false=>rw[aH3 (by decide),mw];exact w.rep
   rw[Rep] at w'
   refine bF w' fun a xs bx h2 h3=>?_
   clear w'
   walk_at"$"
   have sq:∀{F F':Hp},aH F F'->mF X.K F a xs->mF X.K F' a xs:=fun e h=>aH.tup e h
   refine⟨a,rfl,⟨xs,sq (aL _ _) h2⟩,q _ _ e1 fun i H3 A3 e3 _=>⟨fun d hd=>?_,fun hd=>?_⟩⟩
   ·refine aY (h3.get' hd) fun v hv rv=>?_
    have s3:mF X.K H3 a xs:=sq (e3.trans (aL _ _)) h2
    refine⟨⟨xs,v,s3,hv⟩,fun x H' jd=>?_⟩
    obtain ⟨hH,hx⟩:=jd
    subst hH
    have:=hx xs s3
    rw[hv] at this;cases this
    exact⟨.refl _,rv.same e3 _⟩
   ·exact⟨xs,sq (e3.trans (aL _ _)) h2,by rw[h3.len];exact nv.mp hd⟩
  | _=>exact q.elim
theorem all_range(bs:List Bool)(n:Nat)(hn:n=bs.length):(dj n).all (fun i=>bs.getD i false)=bs.all id:=by
 subst hn
 rw[jU,gI,gI]
 constructor
 ·intro h b hb
  obtain ⟨i,hi,rfl⟩:=j0.mp hb
  have:=h i (mD.mpr hi)
  simpa[hi] using this
 ·intro h i hi
  have hi:=mD.mp hi
  have:=h bs[i] (qT hi)
  simpa[hi] using this
theorem OO(hh:X.A.handled=none):oU X (.builtin "all") (fun xs H Q=>∃(p:av) (bs:List Bool),xs=[.ref p]/\ko X.K H p (bs.map V.bl)/\Q (.bl (bs.all id)) H):=by
 intro pins s σ H xs us Q I r ⟨p,bs,e,hq,q⟩
 subst e
 refine aY (vals1 r) fun u jx rx=>?_
 obtain rfl:=jx
 cases rx
 refine cI (I.list hq) fun bA rv pl hz=>?_
 have hl:bA.length=bs.length:=by rw[<- rv.length,bh]
 have iF:p < s.heap.objs.size:=by obtain ⟨o,h1,_⟩:=pl.isList;exact bX h1
 have keep:∀b o,s.heap.get? b=some o->(s.heap.push { cls:=.type "list_iterator",data:=.fields #[.ref p,.int 0 0] }).get? b=some o:=fun b o e=>bQ _ e
 refine call_all_walk (L4 pl.isList ?_)
 refine⟨s.heap.objs.size,_,_,_,_,_,fun i=>bs.getD i false,rfl,Walks.list (A:=X.A.in1) hh _ p (di iF) bA.toArray,⟨⟨_,eN _ rfl,rfl,rfl⟩,pl.isList.at fun o e=>keep p o e⟩,fun i v s' Q' E' hP hQ'=>?_,fun h' tk hk=>?_⟩
 ·have hi:i < bA.length:=by
   have:bA[i]?=some v:=by simpa using hP
   exact(gz.mp this).1
  have hb:(bs.map V.bl)[i]?=some (.bl (bs.getD i false)):=by
   rw[dm,dF (by lia)]
   have:i < bs.length:=by lia
   simp[this]
  refine aY (rv.get hb) fun u h1 h2=>?_
  have h3:bA[i]?=some v:=by simpa using hP
  rw[h1] at h3
  cases h3
  cases (show v=Value.bool _ from h2)
  exact aA hQ'
 ·rw[all_range bs _ (by simp[hl])]
  exact⟨.bl (bs.all id),H,I.kept fun b o e=>hk b o (by simpa using di (bX e)) (keep b o e),rfl,q⟩
def boolsOf:List D->Option (List Bool)
 | []=>some []
 | .bl b::ds=>(boolsOf ds).map (b :: ·)
 | _::_=>none
theorem yz:∀{ds:List D} {bs:List Bool},boolsOf ds=some bs->ds=bs.map D.bl
 | [],bs,h=>by cases h;rfl
 | .bl b::ds,bs,h=>by
  rw[boolsOf] at h
  cases hb:boolsOf ds with
  | none=>rw[hb] at h;cases h
  | some cs=>
   rw[hb] at h
   cases h
   rw[aZ,<- yz hb]
 | .cY::_,bs,h=>by cases h
 | .int _::_,bs,h=>by cases h
 | .str _::_,bs,h=>by cases h
 | .tup _::_,bs,h=>by cases h
 | .lst _::_,bs,h=>by cases h
 | .bM _ _::_,bs,h=>by cases h
@[simp] theorem DK:∀bs:List Bool,boolsOf (bs.map D.bl)=some bs
 | []=>rfl
 | b::bs=>by rw[aZ,boolsOf,DK bs];rfl
def K2:List D->R D:=fun ds=>match ds with | [.lst es]=>(match boolsOf es with | some bs=>.ok (.bl (bs.all id)) | none=>.bad) | _=>.bad
theorem WD:lE "all" =some (.builtin "all"):=by decide +kernel
theorem Iq{K:Frag}{H:Hp}:∀{bs:List Bool} {xs:List V},aM K C H (bs.map D.bl) xs->xs=bs.map V.bl
 | [],xs,h=>by rw[lU,aM] at h;exact h
 | b::bs,xs,h=>by
  rw[aZ,aM] at h
  refine bF h fun v r bx q t=>?_
  clear h
  walk_at"$"
  rw[Rep] at q
  subst q
  rw[Iq t];rfl
theorem S4{K:Frag}:Wj K C (fun xs H Q=>∃(p:av) (bs:List Bool),xs=[.ref p]/\ko K H p (bs.map V.bl)/\Q (.bl (bs.all id)) H) K2 .new:=fun G0 Γ E σ A st H ds xs Q r w q=>by
 unfold K2 at q
 split at q
 ·rename_i zz
  split at zz
  ·rename_i es
   split at zz
   ·rename_i bs hb
    cases zz
    refine aY (pG w) fun v jx w1=>?_
    obtain rfl:=jx
    refine bF w1.items fun p ys bx s t=>?_
    walk_at"$"
    rw[yz hb] at t
    have:=Iq t
    subst this
    exact⟨p,bs,rfl,s,q _ H (.refl _) (.flat r (.refl _) (by rw[gM] <;> simp) BK _)⟩
   ·cases zz
  ·cases zz
 ·rename_i zz
  split at zz
  ·split at zz <;> cases zz
  ·cases zz
 ·exact q.elim
end
end Dm
end az6
section az8
namespace Dm
open PySem PySem.Spec PyProof.Rows L2
def cellsOf:List D->Option (List (Int×Int))
 | []=>some []
 | .tup [.int r,.int c]::ds=>(cellsOf ds).map ((r,c) :: ·)
 | _=>none
def intsOf:List D->Option (List Int)
 | []=>some []
 | .int i::ds=>(intsOf ds).map (i :: ·)
 | _=>none
section
variable {K:aD}{C:Cfg}{H:Hp}
theorem Aj:∀{ds:List D} {cs:List Int},intsOf ds=some cs->ds=cs.map D.int
 | [],cs,h=>by cases h;rfl
 | .int r::ds,cs,h=>by
  rw[intsOf] at h
  refine aY (Option.map_eq_some_iff.mp h) fun cs' h1 bx=>?_
  walk_at"$"
  rw[Aj h1];rfl
theorem Ak:∀{ns:List Int} {vs:List V},aM K C H (ns.map D.int) vs->vs=ns.map V.int
 | [],_,h=>by rw[lU,aM] at h;exact h
 | n::ns,_,h=>by
  rw[aZ,aM] at h
  refine bF h fun v r bx q t=>?_
  clear h
  walk_at"$"
  rw[Rep] at q
  subst q
  rw[Ak t];rfl
end
end Dm
namespace Dm
theorem pI(h:u+64 < c):u+2 < c:=by lia
theorem OP(h:u+64 < c):u+1 < c:=by lia
end Dm
end az8
section ai6
namespace Dm
open PySem PySem.Spec PyProof.Rows L2
def KL(K:aD)(H:Hp)(ps:List SP)(rS:List (List (List Int))):Prop:=rS.length=ps.length/\∀z∈ps.zip rS,jG K H z.2 z.1.2.1
section
theorem keys_eq(I:L2.Inv X pins σ H s):∀{ps:List SP} {rS:List (List (List Int))},(∀p∈ps,jG X.K H p.1 p.2.1)->KL X.K H ps rS->ps.map (·.1)=rS
 | [],[],_,_=>rfl
 | [],_::_,_,h=>by cases h.1
 | _::_,[],_,h=>by cases h.1
 | p::ps,k::rS,hk,h=>by
  rw[aZ,keys_eq I (fun q m=>hk q (.tail _ m)) ⟨by simpa using h.1,fun z m=>h.2 z (.tail _ m)⟩]
  rw[(Hk.k7 (intKind X.prog X.w)).inj (mz I (hk p (.head _))) (mz I (h.2 (p,k) (.head _)))]
def WE(K:aD)(neg:Bool):R2:=fun x y H Q=>∃a b ob ps ks rS,x = .ref b/\y = .ref a/\H a=some (.ext (DY a ob ps))/\(∀p∈ps,jG K H p.1 p.2.1)/\KL K H ps rS/\jG K H ks b/\(ps.map (·.1)=rS->Q (.bl (if neg then !(atKey ps ks).isSome else (atKey ps ks).isSome)) H)
theorem WG(hu:X.A.units+2 < cLine):qt X (iz .In) (WE X.K false):=by
 intro pins s σ H x y v u Q I rx ry h
 obtain ⟨a,b,ob,ps,ks,rS,rfl,rfl,ha,hk,S5,hb,q⟩:=h
 cases rx;cases ry
 have q:=q (keys_eq I hk S5)
 obtain ⟨dd,hd,_⟩:=lK I ha hk
 exact wpAny_in_heap (show X.A.units+1+1 < cLine from hu) (mz I hb) hd dd ⟨.bl (atKey ps ks).isSome,H,I.tok _,rfl,q⟩
theorem K3(hu:X.A.units+2 < cLine):qt X (iz .NotIn) (WE X.K true):=by
 intro pins s σ H x y v u Q I rx ry h
 obtain ⟨a,b,ob,ps,ks,rS,rfl,rfl,ha,hk,S5,hb,q⟩:=h
 cases rx;cases ry
 have q:=q (keys_eq I hk S5)
 obtain ⟨dd,hd,_⟩:=lK I ha hk
 exact wpAny_notIn_heap (show X.A.units+1+1 < cLine from hu) (mz I hb) hd dd ⟨.bl (!(atKey ps ks).isSome),H,I.tok _,rfl,q⟩
def ai7(K:aD):R2:=fun x y H Q=>∃a b ob ps ks rS,x = .ref a/\y = .ref b/\H a=some (.ext (DY a ob ps))/\(∀p∈ps,jG K H p.1 p.2.1)/\KL K H ps rS/\jG K H ks b/\(ps.map (·.1)=rS->(∀l ys xs,ko K H l ys->ko K H l xs->ys=xs)->∃p v,atKey ps ks=some p/\RelV v p.2/\Q v H)
theorem aA0(hu:X.A.units+2 < cLine):R5 X (ai7 X.K):=by
 intro value slice pins s σ H x y v u Q I rx ry h hs
 obtain ⟨a,b,ob,ps,ks,rS,rfl,rfl,ha,hk,S5,hb,q⟩:=h
 cases rx;cases ry
 obtain ⟨p,z,hp,rz,q⟩:=q (keys_eq I hk S5) fun l ys xs h1 h2=>I.xJ h1 h2
 obtain ⟨dd,hd,_⟩:=lK I ha hk
 have hT:s.TypeIs (.ref a) "dict":=dd.typeIs
 unfold subscriptTail
 refine ah ?_
 rw[getitemInPython_of_ne hT.not_modules]
 refine ah (oB hT PySem.F.slot_dict_getitem.lookup ?_)
 have fin:aB (aC X.prog X.w) X.A (subscripted slice false (.ref a) (.ref b)) (fun r Wz=>aB (aC X.prog X.w) X.A (letTemporaryGo value (.ref a) r>>=fun _=>pure r) (EP X pins σ Q) X.xe Wz) X.xe s:=by
  rw[hs]
  refine wpAny_operating (wpAny_getItem_heap (show X.A.units+1+1 < cLine from hu) (mz I hb) dd hp ?_)
  exact ah (wpAny_letTemporaryGo (aA ⟨z,H,I.tok _,rz,q⟩))
 first
  | exact aA (ah fin)
  | exact ah (aA (ah fin))
  | exact ah fin
def ai8(K:aD):V->V->V->Hp->(Hp->Prop)->Prop:=fun o i v H Q=>∃a b ob ps ks rS,o = .ref a/\i = .ref b/\H a=some (.ext (DY a ob ps))/\(∀p∈ps,jG K H p.1 p.2.1)/\KL K H ps rS/\jG K H ks b/\ps.length < cK/\∀u Oa,RelV v u->ps.map (·.1)=rS->Q (upd H a (.ext (DY a Oa (storedH ps ks b u))))
theorem GI{ps:List SP}{ks:List (List Int)}{b:av}{u:aq}:(storedH ps ks b u).length<=ps.length+1:=by
 unfold storedH
 split
 ·rw[bh];exact wQ _
 ·rw[bU];exact bf _
theorem Uz(hu:X.A.units+2 < cLine):Z8 X (ai8 X.K):=by
 intro pins s σ H o i v ov iv u Q I ro ri rv h
 obtain ⟨a,b,ob,ps,ks,rS,rfl,rfl,ha,hk,S5,hb,hl,q⟩:=h
 cases ro;cases ri
 obtain ⟨dd,hd,hz⟩:=lK I ha hk
 refine wpAny_setItem_heap (hsz:=hz) (show X.A.units+1+1 < cLine from hu) (mz I hb) dd fun h' dd' hs=>?_
 have he:∃q,h'.get? a=some q:=let ⟨q,_,_,hq,_⟩:=dd';⟨q,hq⟩
 obtain ⟨Oa,dy⟩:=DY.of hd (cC GI hl) dd'
 exact⟨_,I.write (x:=a) (e:=a) (by rw[ha];trivial) (.inl rfl) (fun c w hc z=>(hs.2 c hc).trans z) he (DG dy),q u _ rv (keys_eq I hk S5)⟩
theorem Inv.ai9(I:L2.Inv X pins σ H s):oz < s.heap.objs.size:=
 Nat.lt_trans (by decide) (show dz < s.heap.objs.size from (I.mod.glob.keeps I.bk).lt)
def aj0:TE:=fun σ H Q=>∀p o,H p=none->Q (.ref p) (upd H p (.ext (DY p o [])))
theorem OQ{h:aX}(hb:(h.objs.size==oz)=false):DY h.objs.size { cls:=.type "dict",data:=.dict #[] } [] (h.push { cls:=.type "dict",data:=.dict #[] }):=
 ⟨hb,iA _,eN _ rfl,⟨rfl,rfl,rfl⟩,#[],0,rfl,fun _ _=>rfl,ux⟩
theorem S6:PE X (.Dict [] [] pos) aj0:=fun pins s σ H Q I h=>
 wpAny_Dict_empty ⟨.ref s.heap.objs.size,_,I.laid (a:=s.heap.objs.size) (o:=.ext (DY s.heap.objs.size _ [])) (t':=s.toks) (fun _ _ q=>bQ _ q) (bf _) (DG (OQ (aH9.mpr (eX (di (Inv.ai9 I)))))),rfl,h _ _ (I.fB.fresh (bf _))⟩
end
def DL:D->Option (List Int) | .tup ds=>intsOf ds | _=>none
def mC:List D->Option (List (List Int))
 | []=>some []
 | d::ds=>match DL d,mC ds with | some a,some r=>some (a::r) | _,_=>none
def mT:D->Option (List (List Int)) | .tup ds=>mC ds | _=>none
def eF:List D->Option (List (List (List Int)×D×D))
 | []=>some []
 | k::v::r=>match mT k,eF r with | some a,some l=>some ((a,k,v)::l) | _,_=>none
 | _=>none
section
variable {K:aD}{C:Cfg}{H:Hp}
theorem DM(h:DL d=some a):d = .tup (a.map D.int):=by
 cases d with
 | tup ds=>rw[DL] at h;rw[Aj h]
 | _=>cases h
theorem vE:∀{ds:List D} {ks:List (List Int)} {xs:List V},mC ds=some ks->aM K C H ds xs->∃cs:List av,xs=cs.map V.ref/\cs.length=ks.length/\∀z∈ks.zip cs,mF K H z.2 (z.1.map V.int)
 | [],ks,xs,h,q=>by cases h;rw[aM] at q;subst q;exact⟨[],rfl,rfl,fun z m=>nomatch m⟩
 | d::ds,ks,xs,h,q=>by
  rw[mC] at h
  cases ha:DL d with
  | none=>rw[ha] at h;cases h
  | some a=>
   cases hr:mC ds with
   | none=>rw[ha,hr] at h;cases h
   | some r=>
    rw[ha,hr] at h
    cases h
    rw[aM] at q
    obtain ⟨v,vs,rfl,q1,q2⟩:=q
    obtain ⟨cs,rfl,hl,hz⟩:=vE hr q2
    rw[DM ha,Rep] at q1
    obtain ⟨c,ys,rfl,sq,rs⟩:=q1
    have e:=Ak rs
    subst e
    exact⟨c::cs,rfl,by simp[hl],fun z m=>by
     rcases bP.mp (show z∈(a,c)::r.zip cs from m) with rfl | m
     ·exact sq
     ·exact hz z m⟩
theorem jI(h:Rep K C H d v)(hk:mT d=some ks):∃b,v = .ref b/\jG K H ks b:=by
 cases d with
 | tup ds=>
  rw[Rep] at h
  obtain ⟨a,xs,rfl,sq,rs⟩:=h
  obtain ⟨cs,rfl,hl,hz⟩:=vE hk rs
  exact⟨a,rfl,cs,sq,hl,hz⟩
 | _=>cases hk
theorem Al(p:SP)(ps:List SP)(v:V)(vs:List V):k8 (p::ps) (v::vs) = .ref p.2.1::v::k8 ps vs:=rfl
theorem pJ(h:Vals vs us):vs.length=us.length:=h.length
theorem mU:∀{ps:List SP} {vs:List V} {ds:List D} {l:List (List (List Int)×D×D)},vs.length=ps.length->aM K C H ds (k8 ps vs)->eF ds=some l->
  ds=l.flatMap (fun z=>[z.2.1,z.2.2])/\KL K H ps (l.map (·.1))/\aM K C H (l.map (·.2.2)) vs/\aM K C H (l.map (·.2.1)) (ps.map fun p=>.ref p.2.1)
 | [],[],ds,l,_,q,h=>by
  have:k8 [] []=[]:=rfl
  rw[this] at q
  cases ds with
  | nil=>cases h;exact⟨rfl,⟨rfl,fun z m=>nomatch m⟩,by rw[lU,aM],by rw[lU,aM];rfl⟩
  | cons d ds=>rw[aM] at q;obtain ⟨_,_,z,_⟩:=q;cases z
 | [],_::_,_,_,e,_,_=>by cases e
 | _::_,[],_,_,e,_,_=>by cases e
 | p::ps,v::vs,ds,l,e,q,h=>by
  rw[Al] at q
  cases ds with
  | nil=>rw[aM] at q;cases q
  | cons k ds=>
   cases ds with
   | nil=>rw[aM] at q;obtain ⟨_,_,z,_,q⟩:=q;cases z;rw[aM] at q;cases q
   | cons w ds=>
    rw[eF] at h
    cases ha:mT k with
    | none=>rw[ha] at h;cases h
    | some a=>
     cases hr:eF ds with
     | none=>rw[ha,hr] at h;cases h
     | some r=>
      rw[ha,hr] at h
      cases h
      rw[aM] at q
      obtain ⟨_,_,z,q1,q⟩:=q
      cases z
      rw[aM] at q
      obtain ⟨_,_,z,q2,q⟩:=q
      cases z
      obtain ⟨i1,i2,i3,i4⟩:=mU (by simpa using e) q hr
      obtain ⟨b,z,hb⟩:=jI q1 ha
      cases z
      refine⟨by rw[qV,<- i1];rfl,⟨by simpa using i2.1,fun z m=>?_⟩,?_,?_⟩
      ·rcases bP.mp (show z∈(p,a)::ps.zip (r.map (·.1)) from m) with rfl | m
       ·exact hb
       ·exact i2.2 z m
      ·rw[aZ];exact .cons q2 i3
      ·rw[aZ,aZ];exact .cons q1 i4
theorem l7(h:Rep K (cA Cb gl) H (.bM 2 ds) v)(hp:eF ds=some l):∃a o ps vs,v = .ref a/\Vals vs (ps.map (·.2.2))/\H a=some (.ext (DY a o ps))/\(∀p∈ps,jG K H p.1 p.2.1)/\(∀l,V.ref l∈vs->∃ys,H l=some (.lst ys))/\
  KL K H ps (l.map (·.1))/\aM K (cA Cb gl) H (l.map (·.2.2)) vs/\aM K (cA Cb gl) H (l.map (·.2.1)) (ps.map fun p=>.ref p.2.1):=by
 rw[Rep] at h
 obtain ⟨a,xs,rfl,ob,rs⟩:=h
 rcases ob with (⟨z,_⟩ | ⟨c,z,_⟩) | ⟨z,_⟩ | ⟨_,o,ps,vs,rfl,h2,h3,h4,h5⟩
 ·cases z
 ·unfold RP at z;lia
 ·cases z
 ·obtain ⟨_,i2,i3,i4⟩:=mU (by rw[pJ h2,bh]) rs hp
  exact⟨a,o,ps,vs,rfl,h2,h3,h4,h5,i2,i3,i4⟩
end
theorem yC{ps:List SP}(h:ps.map (·.1)=rS)(ks:List (List Int)):(atKey ps ks).isSome=rS.any (fun k=>decide (k=ks)):=by
 subst h
 unfold atKey
 rw[Option.isSome_map]
 induction ps with
 | nil=>rfl
 | cons p ps ih=>
  rw[x6,aZ,qU]
  cases decide (p.1=ks) with
  | true=>rfl
  | false=>rw[B5];exact ih
def tu(neg:Bool):D->D->R D:=fun a b=>match mT a,b with
 | some ks,.bM 2 ds=>(match eF ds with | some l=>.ok (.bl (if neg then !(l.map (·.1)).any (fun k=>decide (k=ks)) else (l.map (·.1)).any (fun k=>decide (k=ks)))) | none=>.bad)
 | _,_=>.bad
theorem S7(h:tu neg a b = .ok d):∃ks ds l,mT a=some ks/\b = .bM 2 ds/\eF ds=some l/\d = .bl (if neg then !(l.map (·.1)).any (fun k=>decide (k=ks)) else (l.map (·.1)).any (fun k=>decide (k=ks))):=by
 unfold tu at h
 split at h
 ·rename_i ks ds hk
  split at h
  ·rename_i l hl;cases h;exact⟨ks,ds,l,hk,rfl,hl,rfl⟩
  ·cases h
 ·cases h
theorem S8:tu neg a b≠ .ex c p:=by
 unfold tu
 split
 ·split <;> exact fun h=>(by cases h)
 ·exact fun h=>(by cases h)
section
variable {Cb:av}{gl:GL}{G0:Hp}{Γ:List SK}{E:L2.St->XK}{a b:bH}
theorem Ir{K:aD}{neg:Bool}:vS K (cA Cb gl) (WE K neg) (tu neg) .new:=fun G0 Γ E σ A st H a b x y Q r qa qb q=>by
 cases hg:tu neg a b with
 | bad=>rw[hg] at q;exact q.elim
 | ex c p=>exact aI4 hg S8
 | ok d=>
  rw[hg] at q
  obtain ⟨ks,ds,l,hk,rfl,hl,rfl⟩:=S7 hg
  obtain ⟨p,o,ps,vs,rfl,h1,h2,h3,_,h4,_⟩:=l7 (show Rep K (cA Cb gl) H (.bM 2 ds) y from qb) hl
  obtain ⟨b',rfl,hb⟩:=jI qa hk
  refine⟨p,b',o,ps,ks,_,rfl,rfl,h2,h3,h4,hb,fun z=>?_⟩
  rw[yC z]
  exact q _ H (.refl _) (.flat r (.refl _) (by rw[gM] <;> simp) (by rw[Rep]) _)
end
def vU(f:DF)(F:DS):Nat->DS
 | 0,_=>.bad
 | n+1,st=>match f st with
  | .ok (.bl true)=>(match F st with
   | .nx st'=>vU f F n st'
   | .ct st'=>vU f F n st'
   | .bk st'=>.nx st'
   | o=>o)
  | .ok (.bl false)=>.nx st
  | .ok _=>.bad
  | .ex c p=>.ex c p st
  | .bad=>.bad
section
theorem OR(n:Nat)(hp:PassesOwn (aC X.prog X.w) X.A X.env X.xe)(hc:PT X c (yg X.K C G0 Γ E f))(hb:vo X ss (qi X.K C G0 Γ E k6 F)):PS X (.While c ss [] pos) (qi X.K C G0 Γ E k6 (vU f F n)):=(Nd hp hc hb).imp fun D σ H zz=>by
 walk_at"/"
 clear zz
 refine⟨fun m Nb H1=>∃A1 kj,RS X.K C G0 Γ Nb H1 A1 kj/\aH (er H A) (er H1 A1)/\vU f F m kj=vU f F n st,⟨n,A,st,r,.refl _,rfl⟩,?_⟩
 intro m Nb H1 w1
 refine bF w1 fun A1 kj r1 e1 g1=>?_
 clear w1
 refine⟨A1,kj,r1,?_⟩
 rw[<- g1] at q
 cases m with
 | zero=>exact q.elim
 | succ m=>
  rw[vU] at q g1
  cases hf:f kj with
  | bad=>rw[hf] at q;exact q
  | ex cl p=>rw[hf] at q;exact fun H' e'=>q Nb H' A1 (r1.mono e') (e1.trans (aI e'))
  | ok d=>
   rw[hf] at q g1
   cases d with
   | bl b=>
    intro H2 e2
    cases b with
    | false=>rw[aH3 iK];exact q Nb H2 A1 (r1.mono e2) (e1.trans (aI e2))
    | true=>
     rw[aH2 rfl]
     refine⟨fun CM H3=>∃A3 CN,RS X.K C G0 Γ CM H3 A3 CN/\aH (er H A) (er H3 A3)/\vU f F m CN=vU f F n st,fun CM H3 w=>⟨m,zI m,w⟩,A1,kj,r1.mono e2,?_⟩
     dsimp only at q g1
     cases hF:F kj with
     | nx mG=>rw[hF] at g1;exact fun KZ H4 A4 r4 e4=>⟨A4,mG,r4,(e1.trans (aI e2)).trans e4,g1⟩
     | ct mG=>rw[hF] at g1;exact fun KZ H4 A4 r4 e4=>⟨A4,mG,r4,(e1.trans (aI e2)).trans e4,g1⟩
     | bk mG=>rw[hF] at q;exact fun KZ H4 A4 r4 e4=>q KZ H4 A4 r4 ((e1.trans (aI e2)).trans e4)
     | rt d=>rw[hF] at q;exact q
     | ex cl p mG=>rw[hF] at q;exact fun KZ H4 A4 r4 e4=>q KZ H4 A4 r4 ((e1.trans (aI e2)).trans e4)
     | bad=>rw[hF] at q;exact q
   | _=>exact q.elim
end
section
variable {K:aD}{Cb:av}{gl:GL}{G0:Hp}{Γ:List SK}{σ:L2.St}{H H':Hp}{A:List av}{st:ig}{κ:Kd}
theorem Val.gx(r:RS K (cA Cb gl) G0 Γ σ H A st)(e:aH H H'){ps:List SP}(h:H' p=none)(rel:Vals vs (ps.map (·.2.2)))(hk:∀q∈ps,jG K (κ.hp G0 A H H') q.1 q.2.1)
  (hl:∀l,V.ref l∈vs->∃ys,κ.hp G0 A H H' l=some (.lst ys)) (q:aM K (cA Cb gl) (κ.hp G0 A H H') ds (k8 ps vs)):Val K (cA Cb gl) κ G0 A H (upd H' p (.ext (DY p o ps))) (.bM 2 ds) (.ref p):=by
 have h0:H p=none:=e.free h
 have S:aH (κ.hp G0 A H H') (er (κ.hp G0 A H (upd H' p (.ext (DY p o ps)))) [p]):=fun b u z=>by
  have nb:b≠p:=fun w=>by
   have:=Kd.rB _ _ z
   rw[w,h] at this;cases this
  rw[b9 (by simpa using nb)]
  exact Kd.sV (cV h) _ _ z
 have at_:κ.hp G0 A H (upd H' p (.ext (DY p o ps))) p=some (.ext (DY p o ps)):=Dq r e h
 have own:lC K (cA Cb gl) (er (κ.hp G0 A H (upd H' p (.ext (DY p o ps)))) [p]) (κ.hp G0 A H (upd H' p (.ext (DY p o ps)))) p (.bM 2 ds):=
  ⟨rfl,k8 ps vs,⟨o,ps,vs,rfl,rel,at_,fun x m=>(hk x m).mono S,fun l m=>let ⟨ys,z⟩:=hl l m;⟨ys,S _ _ z⟩⟩,q.same S _⟩
 have R:Rep K (cA Cb gl) (κ.hp G0 A H (upd H' p (.ext (DY p o ps)))) (.bM 2 ds) (.ref p):=own.rep (.refl _) rfl
 have T:∀G,G p=none->nI K (cA Cb gl) G (κ.hp G0 A H (upd H' p (.ext (DY p o ps)))) (.bM 2 ds) (.ref p):=fun G g=>⟨fun _=>⟨p,rfl,g,own⟩,.not rfl⟩
 cases κ with
 | new=>exact⟨R,T _ h0⟩
 | uQ=>exact⟨R,T _ h0⟩
 | loc=>exact⟨R,T _ (r.g0.free h0)⟩
 | old=>exact R
 | qg=>exact⟨R,T _ (r.g0.free h0)⟩
 | aO=>exact R
end
section
theorem BY:PE X (.Dict [] [] pos) (tD X.K (cA Cb gl) G0 Γ E (dC (.bM 2 [])) .new):=S6.imp fun σ H Q zz=>by
 obtain ⟨A,st,r,q⟩:=zz
 intro p o hp
 exact q _ _ (cV hp) (Val.gx (ps:=[]) (vs:=[]) r (.refl _) hp .nil (fun _ m=>nomatch m) (fun _ m=>nomatch m) (by rw[aM];rfl))
def eV(o:Option (Option D)):Option (List D×List (List (List Int)×D×D)):=match o with
 | some (some (.bM 2 ds))=>(eF ds).map fun l=>(ds,l)
 | _=>none
theorem jH(h:eV o=some z):o=some (some (.bM 2 z.1))/\eF z.1=some z.2:=by
 unfold eV at h
 split at h
 ·rename_i ds
  cases hp:eF ds with
  | none=>rw[hp] at h;cases h
  | some l=>rw[hp] at h;cases h;exact⟨rfl,hp⟩
 ·cases h
theorem nP(h:o=some (some (.bM 2 ds)))(hp:eF ds=some l):eV o=some (ds,l):=by
 subst h;show (eF ds).map _=_;rw[hp];rfl
def UA:D->Bool
 | .lst _=>true
 | .int _=>true
 | _=>false
def S9(i:Nat)(st:ig)(z:List D×List (List (List Int)×D×D))(kd d:D):Out:=match mT kd with
 | some ks=>if z.2.length<=5000/\(z.2.map (·.1)).any (fun k=>decide (k=ks))=false/\UA d=true then .nx (st.set i (some (.bM 2 (z.1++[kd,d])))) else .bad
 | none=>.bad
def GJ(i:Nat)(fk f:DF):DS:=fun st=>match f st with
 | .ok d=>(match eV st[i]? with
  | some z=>(match fk st with
   | .ok kd=>S9 i st z kd d
   | .ex c p=>.ex c p st
   | .bad=>.bad)
  | none=>.bad)
 | .ex c p=>.ex c p st
 | .bad=>.bad
theorem tw(h:mT kd=some ks):gM kd=true:=by
 cases kd with
 | tup es=>
  rw[gM]
  refine fM ?_
  replace h:mC es=some ks:=h
  induction es generalizing ks with
  | nil=>intro x m;cases m
  | cons y es ih=>
   intro x m
   rw[mC] at h
   cases h1:DL y with
   | none=>rw[h1] at h;cases h
   | some a=>
    cases h2:mC es with
    | none=>rw[h1,h2] at h;cases h
    | some r=>
     rcases bP.mp m with rfl | m
     ·rw[DM h1,gM]
      exact fM fun z hz=>by obtain ⟨w,_,rfl⟩:=aS.mp hz;rw[gM] <;> simp
     ·exact ih h2 x m
 | _=>cases h
theorem aM.GK{K:aD}{C:Cfg}{H:Hp}:∀{ds es:List D} {xs ys:List V},aM K C H ds xs->aM K C H es ys->aM K C H (ds++es) (xs++ys)
 | [],es,xs,ys,h,h'=>by rw[aM] at h;subst h;exact h'
 | d::ds,es,xs,ys,h,h'=>by
  rw[aM] at h
  obtain ⟨v,r,rfl,q,t⟩:=h
  exact .cons q (aM.GK t h')
theorem Am{ps:List SP}{vs:List V}(h:vs.length=ps.length):k8 (ps++[p]) (vs++[v])=k8 ps vs++[.ref p.2.1,v]:=by
 unfold k8
 rw[LY h.symm,qW]
 rfl
theorem Vals.snoc:∀{vs:List V} {us:List aq} {v:V} {u:aq},Vals vs us->RelV v u->Vals (vs++[v]) (us++[u])
 | _,_,v,u,.nil,h=>.cons h .nil
 | _,_,v,u,.cons r t,h=>.cons r (Vals.snoc t h)
theorem WH{i:Nat}{n:Bool}{x:Str}{p1 p2:Pos}{ix:bH}{fi:DF}(hu:X.A.units+2 < cLine)(hx:PE X (.Name x p1) (uC i))(hi:PE X ix (tD X.K (cA Cb gl) G0 Γ E fi κ'))(he:PE X e (tD X.K (cA Cb gl) G0 Γ E f κ))(na:qw Γ=true)(hk:Γ[i]?=some (.own n):=by rfl)(hl:κ = .new:=by rfl)
  (ha:∀v,assign (.Subscript (.Name x p1) ix p2) X.env v=(do
   let ov <- holding [v] (eval (.Name x p1) X.env)
   let iv <- holding [v,ov] (eval ix X.env)
   standAt p2
   holding [v,ov,iv] (setItem ov iv v)
   release [v,ov,iv] []):=by intro _;rfl)
  (hs:swapsWithSole [uA (.Name x p1) ix p2] e pos.line X.env=pure false:=by rfl) (hw:swappedStores [uA (.Name x p1) ix p2] e X.env=pure none:=by rfl)
  (h1:(rT [uA (.Name x p1) ix p2] X.env).map (·.2)=[assign (.Subscript (.Name x p1) ix p2) X.env]:=by rfl) :
  PS X (.Assign [.Subscript (.Name x p1) ix p2] e pos) (qi X.K (cA Cb gl) G0 Γ E k6 (GJ i fi f)):=(FQ he (Nc hx hi (Uz hu) ha) hs hw h1).imp fun D σ H zz=>by
 subst hl
 obtain ⟨A,st,r,q⟩:=zz
 walk_at"."
 unfold GJ at q
 cases hf:f st with
 | bad=>rw[hf] at q;exact q
 | ex c p=>rw[hf] at q;exact fun H' e'=>q σ H' A (r.mono e') (aI e')
 | ok d=>
  rw[hf] at q
  walk_at"*"
  cases nZ:eV st[i]? with
  | none=>rw[nZ] at q;exact q.elim
  | some z=>
   obtain ⟨nZ,OS⟩:=jH nZ
   obtain ⟨ds,l⟩:=z
   rw[nP nZ OS] at q
   dsimp only at q nZ OS
   intro v H1 e1 w1
   obtain ⟨p,h1,h2,h3,t2,xs,ow,h5⟩:=r.BO hk nZ rfl
   refine⟨_,h1,A,st,r.mono e1,?_⟩
   cases hi:fi st with
   | bad=>rw[hi] at q;exact q
   | ex c p=>rw[hi] at q;exact fun H' e'=>q σ H' A (r.mono (e1.trans e')) (aI (e1.trans e'))
   | ok kd=>
    rw[hi] at q
    walk_at"*"
    intro vi H2 e2 w2
    unfold S9 at q
    cases BZ:mT kd with
    | none=>rw[BZ] at q;exact q.elim
    | some ks=>
     rw[BZ] at q
     walk_at"*"
     by_cases hc:l.length<=5000/\(l.map (·.1)).any (fun k=>decide (k=ks))=false/\UA d=true
     ·rw[aH2 hc] at q
      have nJ:=e1.trans e2
      have r':=r.mono nJ
      have S:aH (eh n G0 A H) (eh n G0 A H2):=by
       unfold eh;cases n
       ·exact aI nJ
       ·exact bO (aI nJ)
      have S2:aH (eh n G0 A H2) H2:=by
       unfold eh;cases n
       ·exact aL _ _
       ·exact(dw _ _).trans (aL _ _)
      obtain ⟨ob,ps,vs,rfl,rel,hp,kp,pl⟩:=ow
      have q5:aM X.K (cA Cb gl) (eh n G0 A H2) ds (k8 ps vs):=h5.same S _
      have hlen:vs.length=ps.length:=by rw[pJ rel,bh]
      obtain ⟨_,i2,_,_⟩:=mU hlen q5 OS
      have QC:∀x∈ps,jG X.K (eh n G0 A H2) x.1 x.2.1:=fun x m=>(kp x m).mono S
      obtain ⟨b,rfl,hb⟩:=jI w2.rep BZ
      have wk:Rep X.K (cA Cb gl) (eh n G0 A H2) kd (.ref b):=by
       unfold eh;cases n
       ·exact Rep.part r'.Dp _ (tw BZ) w2.rep
       ·exact Rep.part r'.sU _ (tw BZ) w2.rep
      obtain ⟨b2,Um,hbk⟩:=jI wk BZ
      cases Um
      have WI:=w1.later e2
      have wv:Rep X.K (cA Cb gl) (eh n G0 A H2) d v:=WI.Uw r nJ (by cases n <;> rfl)
      have plv:∀l',v = .ref l'->∃ys,eh n G0 A H2 l'=some (.lst ys):=fun l' zl=>by
       cases d with
       | lst es=>
        obtain ⟨p',z,h0,ys,hy,_⟩:=WI.2.1 rfl
        rw[zl] at z;cases z
        have nA:l'∉A:=fun m=>by obtain ⟨o,w,_⟩:=r.lists l' m;rw[h0] at w;cases w
        have hy2:H2 l'=some (.lst ys):=dw _ _ _ _ hy
        refine⟨ys,?_⟩
        unfold eh;cases n
        ·show er H2 A l'=_;rw[b9 nA];exact hy2
        ·show nw G0 (er H2 A) l'=_;rw[kX (r.g0.free h0),b9 nA];exact hy2
       | int k=>rw[Rep] at wv;rw[wv] at zl;cases zl
       | _=>cases hc.2.2
      have hlp:l.length=ps.length:=by have:=i2.1;rw[bh] at this;exact this
      refine⟨p,b,ob,ps,ks,_,rfl,rfl,nJ _ _ hp,fun x m=>(QC x m).mono S2,⟨i2.1,fun z m=>(i2.2 z m).mono S2⟩,hb,?_,fun u Oa ru zk=>?_⟩
      ·rw[gn];have:=hc.1;lia
      ·have hn:atKey ps ks=none:=by
        have:=yC zk ks
        rw[hc.2.1] at this
        exact Option.isSome_eq_false_iff.mp this |> Option.isNone_iff_eq_none.mp
       rw[AK hn]
       have own:lC X.K (cA Cb gl) (eh n G0 A H2) (upd H2 p (.ext (DY p Oa (ps++[(ks,b,u)])))) p (.bM 2 (ds++[kd,d])):=by
        refine⟨rfl,k8 (ps++[(ks,b,u)]) (vs++[v]),⟨_,_,_,rfl,by rw[iC];exact Vals.snoc rel ru,bS,fun x m=>?_,fun l' m=>?_⟩,?_⟩
        ·rcases gy.mp m with m | m
         ·exact QC x m
         ·obtain rfl:=fJ.mp m;exact hbk
        ·rcases gy.mp m with m | m
         ·obtain ⟨ys,z⟩:=pl l' m;exact⟨ys,S _ _ z⟩
         ·exact plv l' (fJ.mp m).symm
        ·rw[Am hlen]
         exact aM.GK q5 (.cons wk (.cons wv (by rw[aM])))
       obtain ⟨r2,e3⟩:=r'.RI na hk nZ h1 h2 h3 rfl rfl own
       exact q _ _ A r2 ((aI nJ).trans e3)
     ·rw[aH3 hc] at q;exact q.elim
end
section
theorem K4:oU X (.builtin "len") (fun xs H Q=>∃a o ps,xs=[V.ref a]/\H a=some (.ext (DY a o ps))/\Q (.int ps.length) H):=by
 intro pins s σ H xs us Q I r h
 obtain ⟨a,o,ps,rfl,ha,q⟩:=h
 obtain ⟨u,rfl,ru⟩:=vals1 r
 cases ru
 obtain ⟨dy,_,_⟩:=(show gC X.prog X.w H s.heap a (.ext (DY a o ps)) from I.fB a _ ha)
 obtain ⟨hd,hz,ho,hx,es,ep,j8,he,hn⟩:=dy
 have hT:s.TypeIs (.ref a) "dict":=⟨o,ho,hx.1⟩
 have hs:es.size=ps.length:=by rw[<- dB,he X.prog X.w,bh]
 rw[gn] at hz
 refine PySem.Calls.call_function_entry kind_len plain_len entry_len (args_len1 _) ?_
 (unfold Builtin.«len»);(refine ah (m:=oneArg "len" _) (aA ?_))
 refine ah (m:=callSpecial? (.ref a) (kP "__len__")) (qL (name:=kP "__len__") hT MK (gV MK hT PySem.F.entry_dict_len ?_ (PySem.F.args_dict_len_1 _)))
 (show aB _ _ (dictSize a>>=_) _ _ s);(unfold dictSize);(refine ah (ah (jR ho j8 (aA ?_))))
 (show aB _ _ (Builtin.Dict.pendingCount a>>=_) _ _ s);(refine ah (wpAny_pendingCount_other hd (wpAny_ret_mkInt ?_)))
 rw[EY,hs]
 (refine ah (je (aA ?_)));(refine ah (EO ?_))
 (show aB _ _ (if ((ps.length:Nat):Int) < 0 then _ else _) _ _ _);(rw[aH3 (by lia)])
 (show aB _ _ (if ((ps.length:Nat):Int) ≥ 2 ^ 63 then _ else _) _ _ _);(rw[aH3 (by lia)])
 exact ah (wpAny_mkInt (aA ⟨_,rfl,.int ps.length,H,(I.tok _).tok _,⟨_,rfl⟩,q⟩))
def qA:List D->R D:=fun ds=>match ds with
 | [.bM 2 xs]=>(match eF xs with | some l=>.ok (.int l.length) | none=>.bad)
 | _=>.bad
theorem OT(h:qA ds = .ok d):∃xs l,ds=[.bM 2 xs]/\eF xs=some l/\d = .int l.length:=by
 unfold qA at h
 split at h
 ·rename_i xs
  split at h
  ·rename_i l hl;cases h;exact⟨xs,l,rfl,hl,rfl⟩
  ·cases h
 ·cases h
theorem OU:qA ds≠ .ex c p:=by
 unfold qA
 split
 ·split <;> exact fun h=>(by cases h)
 ·exact fun h=>(by cases h)
theorem OV{K:aD}:Wj K (cA Cb gl) (fun xs H Q=>∃a o ps,xs=[V.ref a]/\H a=some (.ext (DY a o ps))/\Q (.int ps.length) H) qA .new:=fun G0 Γ E σ A st H ds xs Q r w q=>by
 cases hg:qA ds with
 | bad=>rw[hg] at q;exact q.elim
 | ex c p=>exact aI4 hg OU
 | ok d=>
  rw[hg] at q
  obtain ⟨ys,l,rfl,hl,rfl⟩:=OT hg
  obtain ⟨v,rfl,w1⟩:=pG w
  obtain ⟨p,o,ps,vs,rfl,_,h2,_,_,h4,_⟩:=l7 w1 hl
  refine⟨p,o,ps,rfl,h2,?_⟩
  rw[show ps.length=l.length by rw[<- h4.1,bh]]
  exact q _ H (.refl _) (.flat r (.refl _) (by rw[gM] <;> simp) BJ _)
def qB:D->D->R D:=fun a b=>match a,mT b with
 | .bM 2 ds,some ks=>(match eF ds with
  | some l=>(match l.find? (fun z=>decide (z.1=ks)) with | some z=>if UA z.2.2=true then .ok z.2.2 else .bad | none=>.bad)
  | none=>.bad)
 | _,_=>.bad
theorem OW{a b d:D}(h:qB a b = .ok d):∃ds ks l z,a = .bM 2 ds/\mT b=some ks/\eF ds=some l/\l.find? (fun z=>decide (z.1=ks))=some z/\UA z.2.2=true/\d=z.2.2:=by
 unfold qB at h
 split at h
 ·rename_i ds ks hk
  split at h
  ·rename_i l hl
   split at h
   ·rename_i z hz
    split at h
    ·rename_i ho;cases h;exact⟨ds,ks,l,z,rfl,hk,hl,hz,ho,rfl⟩
    ·cases h
   ·cases h
  ·cases h
 ·cases h
theorem OX{a b:D}{c:av}{p:Option Int}:qB a b≠ .ex c p:=by
 unfold qB
 split
 ·split
  ·split
   ·split <;> exact fun h=>(by cases h)
   ·exact fun h=>(by cases h)
  ·exact fun h=>(by cases h)
 ·exact fun h=>(by cases h)
theorem C0:∀{ps:List SP} {vs:List V} {l:List (List (List Int)×D×D)} {K:aD} {C:Cfg} {H:Hp} {ks:List (List Int)} {z:List (List Int)×D×D},ps.map (·.1)=l.map (·.1)->Vals vs (ps.map (·.2.2))->aM K C H (l.map (·.2.2)) vs->l.find? (fun z=>decide (z.1=ks))=some z->
  ∃p v,atKey ps ks=some p/\RelV v p.2/\Rep K C H z.2.2 v/\v∈vs
 | [],_,[],_,_,_,_,_,_,_,_,h=>by cases h
 | [],_,_::_,_,_,_,_,_,h,_,_,_=>by cases h
 | _::_,_,[],_,_,_,_,_,h,_,_,_=>by cases h
 | p::ps,vs,y::l,K,C,H,ks,z,h,rel,rs,hf=>by
  rw[aZ,aZ] at h
  injection h with h1 h2
  rw[aZ] at rel
  rw[aZ,aM] at rs
  obtain ⟨v,r,rfl,q1,q2⟩:=rs
  cases rel with
  | cons r1 t1=>
   rw[x6] at hf
   unfold atKey
   rw[x6,h1]
   cases hd:decide (y.1=ks) with
   | true=>
    rw[hd] at hf
    cases hf
    exact⟨p.2,v,rfl,r1,q1,.head _⟩
   | false=>
    rw[hd] at hf
    obtain ⟨p',v',e1,e2,e3,e4⟩:=C0 h2 t1 q2 hf
    exact⟨p',v',e1,e2,e3,.tail _ e4⟩
theorem Sa(hu:X.A.units+2 < cLine)(ha:PE X a (tD X.K (cA Cb gl) G0 Γ E fa .loc))(hb:PE X b (tD X.K (cA Cb gl) G0 Γ E fb cW))(hs:w5 b):PE X (.Subscript a b pos) (tD X.K (cA Cb gl) G0 Γ E (bK qB fa fb) .loc):=(U6 (aA0 hu) ha hb hs).imp fun σ H Q zz=>by
 obtain ⟨A,st,r,q⟩:=zz
 walk_at"."
 unfold bK R.bind at q
 cases h1:fa st with
 | bad=>rw[h1] at q;exact q
 | ex c p=>rw[h1] at q;exact q
 | ok da=>
  rw[h1] at q
  intro x H1 e1 w1
  refine⟨A,st,r.mono e1,?_⟩
  walk_at"*"
  cases h2:fb st with
  | bad=>rw[h2] at q;exact q
  | ex c p=>rw[h2] at q;exact fun H' e'=>q H' (e1.trans e')
  | ok db=>
   rw[h2] at q
   intro y H2 e2 w2
   walk_at"*"
   cases hg:qB da db with
   | bad=>rw[hg] at q;exact q.elim
   | ex c p=>exact aI4 hg OX
   | ok d=>
    rw[hg] at q
    obtain ⟨ds,ks,l,z,rfl,hk,hl,hz,ho,rfl⟩:=OW hg
    have nJ:=e1.trans e2
    have WI:=w1.later e2
    obtain ⟨p,o,ps,vs,rfl,h1,h2,h3,h5,h4,h6,_⟩:=l7 WI.1 hl
    obtain ⟨b',rfl,hb⟩:=jI w2.rep hk
    have S:aH (nw G0 (er H2 A)) H2:=(dw _ _).trans (aL _ _)
    refine⟨p,b',o,ps,ks,_,rfl,rfl,S _ _ h2,fun x m=>(h3 x m).mono S,⟨h4.1,fun z m=>(h4.2 z m).mono S⟩,hb,fun zk lu=>?_⟩
    obtain ⟨pv,v,g1,g2,g3,g4⟩:=C0 zk h1 h6 hz
    refine⟨pv,v,g1,g2,q v H2 nJ ⟨g3,?_,?_⟩⟩
    ·intro K5
     cases hd:z.2.2 with
     | lst es=>
      rw[hd,Rep] at g3
      obtain ⟨l',xs,rfl,sq,rs⟩:=g3
      obtain ⟨ys,hy⟩:=h5 l' g4
      have g0:G0 l'=none:=by
       unfold nw at hy
       split at hy
       ·rename_i kp
        cases hg0:G0 l' with
        | none=>rfl
        | some u=>
         rw[hg0] at kp
         have:=(r.mono nJ).base _ _ hg0
         rw[hy] at this
         cases this
         cases kp
       ·cases hy
      refine⟨l',rfl,g0,ys,hy,?_⟩
      have:ys=xs:=lu l' ys xs (.of (S _ _ hy)) (aH.seq S sq)
      rw[this];exact rs
     | int k=>rw[hd] at K5;cases K5
     | _=>rw[hd] at ho;cases ho
    ·refine pC.not ?_
     cases hd:z.2.2 with
     | tup es=>rw[hd] at ho;cases ho
     | _=>rfl
end
end Dm
end ai6
section aA2
namespace Hk
open PySem
section
variable {K:Type}[DecidableEq K]{knd:HeapKind prog w K}{s:az}
theorem zu{Q:Unit->az->Prop}(hu:knd.room A)(Bf:knd.is s.heap k a)(hm:s.heap.DictOfH knd d xs)(hno:k∉xs.map (·.1))(hsz:xs.length<=cK)
  (hQ:∀h',h'.DictOfH knd d (xs++[(k,a,v)])->gZ d s.heap h'->Q () { s with heap:=h' }):aB (aC prog w) A (dictSetHashed d (.ref a) (knd.hash k) v) Q E s:=by
 obtain ⟨od,es,ep,ho,hc,hd,he,his,hn⟩:=hm
 (unfold dictSetHashed);(try with_reducible refine je ?_)
 refine ah (wpAny_dictFind_heap hu Bf ho hd he his hn (fun _=>?_) (fun j p hj=>?_))
 ·refine ah (wI (wpAny_updateDictKeys (hz:=by have e:=oE he;omega) ho hd (hQ _ ⟨_,_,ep+1,nh _ ho (MA (B7 hd _)),hc.mapDictKeys _,B7 hd _,?_,?_,?_⟩ (fj ..))))
  ·simp[he,qm]
  ·intro x hx
   rcases gy.mp hx with hx | hx
   ·exact knd.keeps (his x hx) ho hd (fj ..)
   ·obtain rfl:=fJ.mp hx;exact knd.keeps Bf ho hd (fj ..)
  ·rw[iC,x8]
   exact⟨hn,by simp,fun x hx y hy z=>by
    have hy:y=k:=by simpa using hy
    rw[z,hy] at hx;exact hno hx⟩
 ·exact aI4 (aS.mpr ⟨(k,p),kM hj,rfl⟩) hno
theorem K6{Q:Array qN->az->Prop}(ho:s.heap.DictOfH knd o ys)(sP:ys.length<=1)(tp:∀y∈ys,s.TypeIs (.ref y.2.1) "tuple")(hQ:∀es:Array qN,es.toList=ys.map (qm knd)->Q es s):aB (aC prog w) A (Builtin.Dict.entriesForEmpty nm o) Q E s:=by
 obtain ⟨oo,es,ep,h1,h2,h3,h4,h5,h6⟩:=ho
 unfold Builtin.Dict.entriesForEmpty
 refine ah (jR h1 h3 (ah ?_))
 rw[<- xm]
 refine lR _ (fun rest _ s'=>s'=s/\∀e∈rest,e∈es.toList) _ ?_ ?_ _ _ ⟨rfl,fun _ m=>m⟩
 ·rintro e rest b s' ⟨rfl,oX⟩
  have m:=oX e (.head _)
  rw[h4] at m
  obtain ⟨y,hy,rfl⟩:=aS.mp m
  have fs:∀p:qN->Bool,(es.filter p).size<=1:=fun p=>cC (Array.size_filter_le ..) (by rw[oE h4];exact sP)
  (show aB _ _ (Builtin.Dict.quietEq (.ref y.2.1)>>=_) _ _ _);(unfold Builtin.Dict.quietEq);(refine ah (ah (oB (tp y hy) B9.lookup (aA ?_))))
  rw[aH2 (by decide)]
  rw[aH3 (EZ.mpr (fs _))]
  first
   | exact aA ⟨rfl,fun u m=>oX u (.tail _ m)⟩
   | exact ah (aA (aA ⟨rfl,fun u m=>oX u (.tail _ m)⟩))
 ·rintro b s' ⟨rfl,_⟩
  exact aA (hQ es h4)
theorem GN{Q:Unit->az->Prop}(hu:knd.room A)(hdo:d≠o)(hoS:(o==oz)=false)(hd:s.heap.DictOfH knd d xs)(ho:s.heap.DictOfH knd o ys)(dis:∀y∈ys,y.1∉xs.map (·.1))(sP:xs=[]->ys.length<=1)(tp:∀y∈ys,s.TypeIs (.ref y.2.1) "tuple")(hsz:xs.length+ys.length<=cK)
  (hQ:∀h',h'.DictOfH knd d (xs++ys)->gZ d s.heap h'->Q () { s with heap:=h' }):aB (aC prog w) A (Builtin.Dict.mergeDict nm d o) Q E s:=by
 obtain ⟨od,esd,epd,hod,FP,Qv,hed,hkd,hnd⟩:=id hd
 obtain ⟨oo,L1,epo,hoo,hco,OY,QH,hko,hno⟩:=id ho
 have hlen:ys.length=L1.size:=(oE QH).symm
 (unfold Builtin.Dict.mergeDict);(rw[aH3 (by simpa using hdo)]);(unfold xx);(rw[aH3 (by rw[hoS];exact iK)])
 refine ah (aA (ah (jR hoo OY ?_)))
 dsimp only
 split
 case' isTrue=>
  refine ah (jR hod Qv ?_)
  split
 case' isTrue.isTrue=>
  rename_i aA3
  have h0:esd=#[]:=Mn.mp aA3
  have hx:xs=[]:=by have:=oE hed;rw[h0] at this;exact oJ.mp this.symm
  subst hx
  refine ah (K6 ho (sP rfl) tp fun es Df=>?_)
  rw[i0] at hQ
  split
  ·have hto:es.size<=cK+1:=by rw[oE Df];rw[oK] at hsz;omega
   refine ah (wpAny_updateDictKeysTo hod Qv (aA (hQ _ ⟨_,_,epd+1,nh _ hod (MA (B7 Qv _)),FP.mapDictKeys _,B7 Qv _,Df,fun y m=>knd.keeps (hko y m) hod Qv (fj ..),hno⟩ (fj ..))) hto)
  ·rename_i YD
   have h1:es=#[]:=Mn.mp (by simpa using YD)
   have hy:ys=[]:=by have:=oE Df;rw[h1] at this;exact oJ.mp this.symm
   subst hy
   exact aA (hQ _ hd (MC _ _))
 all_goals
  (refine ah (oF hoo OY (ah (jR hoo OY (ah ?_)))))
  (rw[UZ]);(simp only[Std.Legacy.Range.size,Lw,AQ,Nat.div_one])
  refine lR _ (fun rest _ s'=>∃h' i,s'={ s with heap:=h' }/\rest=List.range' i (L1.size - i)/\i<=L1.size/\h'.DictOfH knd d (xs++ys.take i)/\gZ d s.heap h') _ ?_ ?_ _ _ ⟨s.heap,0,rfl,by simp,iA _,by simpa using hd,MC _ _⟩
  ·rintro x rest b s' ⟨h',i,rfl,hr,hi,Qs,EE⟩
   have iF:i < L1.size:=by
    rcases Lx i L1.size with h | h
    ·exact h
    ·rw[Nat.sub_eq_zero_of_le h] at hr;cases hr
   have e1:L1.size - i=(L1.size - (i+1))+1:=by omega
   rw[e1,LZ] at hr
   injection hr with hx NT
   subst hx
   have aj4:h'.get? o=some oo:=(EE.2 o (eX hdo)).trans hoo
   have hly:x < ys.length:=by rw[hlen];exact iF
   obtain ⟨y,hy⟩:∃y,ys[x]?=some y:=⟨ys[x],dF hly⟩
   have hey:L1[x]?=some (qm knd y):=by rw[entry_at QH,hy];rfl
   have my:y∈ys:=kM hy
   refine ah (jR (s:={ s with heap:=h' }) aj4 OY ?_)
   rw[hey]
   have aA4:y.1∉(xs++ys.take x).map (·.1):=fun z=>by
    rw[iC] at z
    rcases gy.mp z with z | z
    ·exact dis y my z
    ·obtain ⟨u,hu',e⟩:=aS.mp z
     obtain ⟨j,hj⟩:=List.mem_iff_getElem?.mp hu'
     rw[Fg] at hj
     split at hj
     ·rename_i hjx
      obtain ⟨k,a,v⟩:=u
      obtain ⟨k2,a2,v2⟩:=y
      dsimp only at e
      subst e
      have:=idxH_unique hno hj hy
      omega
     ·cases hj
   show aB _ _ (holding [eW y.2.1,y.2.2] (dictSetHashed d (.ref y.2.1) (knd.hash y.1) y.2.2)>>=_) _ _ _
   refine ah (je (zu (s:={ s with heap:=h' }) hu (knd.keeps (hko y my) hod Qv EE) Qs aA4 (by rw[bU,kL];omega) fun C1 aA5 aj5=>?_))
   have aj6:C1.get? o=some oo:=(aj5.2 o (eX hdo)).trans aj4
   refine ah (oF (s:={ s with heap:=C1 }) aj6 OY ?_)
   rw[aH3 (by simp)]
   exact aA ⟨C1,x+1,rfl,NT,iF,by
    rw[LU,hy,<- fR];exact aA5,EE.trans aj5⟩
  ·rintro b s' ⟨h',i,rfl,hr,hi,Qs,EE⟩
   have UB:i=L1.size:=by
    rcases Lx i L1.size with h | h
    ·have e1:L1.size - i=(L1.size - (i+1))+1:=by omega
     rw[e1,LZ] at hr;cases hr
    ·exact Lv hi h
   rw[UB,<- hlen,wY] at Qs
   exact aA (hQ h' Qs EE)
end
end Hk
end aA2
section aj7
namespace Dm
open PySem PySem.Spec PyProof.Rows L2
section
def UC(K:aD):V->List V->Hp->VK->Prop:=fun x xs H Q=>∃a c oa oc ps qs rS lss,x = .ref a/\xs=[.ref c]/\a≠c/\H a=some (.ext (DY a oa ps))/\H c=some (.ext (DY c oc qs))/\(∀p∈ps,jG K H p.1 p.2.1)/\(∀p∈qs,jG K H p.1 p.2.1)/\KL K H ps rS/\KL K H qs lss/\
 (∀k∈lss,k∉rS)/\(ps=[]->qs.length<=1)/\ps.length+qs.length<=cK/\∀oa',ps.map (·.1)=rS->qs.map (·.1)=lss->Q .cY (upd H a (.ext (DY a oa' (ps++qs))))
theorem Sb(hu:X.A.units+2 < cLine):MtR X "dict.update" (UC X.K):=by
 intro pins s σ H x xs v us Q I rx rv h
 obtain ⟨a,c,oa,oc,ps,qs,rS,lss,rfl,rfl,nac,ha,hc,hka,hkc,la,lc,dis,sP,hz,q⟩:=h
 cases rx
 obtain ⟨u,rfl,ru⟩:=vals1 rv
 cases ru
 obtain ⟨da,za,_⟩:=lK I ha hka
 obtain ⟨dc,zc,_⟩:=lK I hc hkc
 have ea:=keys_eq I hka la
 have ec:=keys_eq I hkc lc
 have hT:=da.typeIs
 have hTc:=dc.typeIs
 refine gV ML hT PySem.F.entry_dict_update ?_ (PySem.F.args_dict_update_2 _ _)
 (unfold Builtin.«dict.update»);(refine ah ?_);(unfold Builtin.Dict.selfAndRest);(refine ah (ER hT ?_));(show aB _ _ (pure (a,[eW c])) _ _ s);(refine aA ?_)
 (show aB _ _ (Builtin.Dict.updateFrom "dict.update" a (.ref c) [] .none) _ _ s);(unfold Builtin.Dict.updateFrom);(refine ah (AJ hTc ?_));(rw[aH3 (by decide)]);(refine ah ?_);(unfold Builtin.Dict.merge);(refine ah ?_)
 (unfold Builtin.Dict.readDirectly);(refine ah (qM hTc isSubtype_dict_dict ?_));(simp only[j5,cZ,aI0]);(refine ah (oB hTc PySem.F.slot_dict_iter.lookup (aA ?_)));(simp only[aI3,aI1])
 refine ah (aA (Hk.GN (knd:=Hk.k7 (intKind X.prog X.w)) (show X.A.units+1+1 < cLine from hu) nac zc da dc (fun y m=>?_) sP (fun y m=>?_) hz fun h' dd hs=>?_))
 ·rw[ea];exact dis _ (by rw[<- ec];exact aS.mpr ⟨y,m,rfl⟩)
 ·exact(mz I (hkc y m)).tuple
 ·(show aB _ _ (Builtin.Dict.addKeywords a []>>=_) _ _ _);(refine ah (aA (aA ⟨.none,rfl,?_⟩)))
  have he:∃q,h'.get? a=some q:=let ⟨q,_,_,hq,_⟩:=dd;⟨q,hq⟩
  obtain ⟨oa',dy⟩:=DY.of za (by rw[bU];exact hz) dd
  exact⟨.cY,_,I.write (t':=s.toks) (x:=a) (e:=a) (by rw[ha];trivial) (.inl rfl) (fun b w hb z=>(hs.2 b hb).trans z) he (DG dy),rfl,q _ ea ec⟩
def aj8(r:V->List V->Hp->VK->Prop)(to:TE)(t:TA):TE:=fun σ H Q=>to σ H fun x H1=>(∃a o ps,x = .ref a/\H1 a=some (.ext (DY a o ps)))/\t σ H1 fun xs H2=>r x xs H2 Q
theorem OZ{to:TE}{t:TA}{name:Str}{apos iN:Pos}{id:String}{r:V->List V->Hp->VK->Prop}(slot:PySem.Slot "dict" name id)(hty:typeOf (.builtin id)=pure (.type "method_descriptor"))(hm:MtR X id r)(ho:PE X o to)(ha:PA X (e::es) t)
  (su:nc o name X.env (eval o X.env)=eval o X.env:=by rfl)
  (Nq:((backTo iN (bL (e::es) X.env)).all (fun x=>!x.1)&&(backToKw iN (keywordEach [] X.env)).all (fun x=>x.1.isSome)
   && decide ((e::es).length+([]:List Keyword).length+(if ([]:List Keyword).isEmpty then 0 else 1) < 30))=true:=by rfl)
  (sA:(apos.endLine==iN.line)=true:=by rfl) (hs:bL (e::es) X.env=(false,eval e X.env)::bL es X.env:=by rfl) (rf:(backTo iN (bL es X.env)).any (·.1)=false:=by rfl) :
  PE X (.Call (.Attribute o name apos) (e::es) [] iN) (aj8 r to t):=by
 intro pins s σ H Q I h
 refine L8 su Nq sA rfl (gS (ho pins s σ H _ I h) fun v s1 zz=>?_)
 obtain ⟨x,H1,I1,r1,⟨a,oo,ps,rfl,hx⟩,q1⟩:=zz
 cases r1
 obtain ⟨⟨_,_,hg,sd,_⟩,_,_⟩:=(show gC X.prog X.w H1 s1.heap a (.ext (DY a oo ps)) from I1.fB a _ hx)
 refine⟨"dict",id,MM,slot,hty,⟨oo,hg,sd.1⟩,fun b e=>?_,?_⟩
 ·cases e;exact⟨oo,hg,sd.2.1⟩
 have hA:=ha iN pins s1 σ H1 _ I1 q1
 rw[hs] at hA ⊢
 refine Fq (by show (false || (backTo iN (bL es X.env)).any (·.1))=false;rw[rf] <;> rfl) (Ft ?_)
 exact gS hA fun us s2 zz=>by
  obtain ⟨vs,H2,I2,r2,q2⟩:=zz
  exact hm pins s2 σ H2 (.ref a) vs (.ref a) us Q I2 rfl r2 q2
def K7(i:Nat)(f:DF):DS:=fun st=>match eV st[i]? with
 | some z=>(match f st with
  | .ok d=>(match eV (some (some d)) with
   | some y=>if z.2.length+y.2.length<=5000/\(∀k∈y.2.map (·.1),k∉z.2.map (·.1))/\(z.2=[]->y.2.length<=1) then .nx (st.set i (some (.bM 2 (z.1++y.1)))) else .bad
   | none=>.bad)
  | .ex c p=>.ex c p st
  | .bad=>.bad)
 | none=>.bad
theorem P0{ps:List SP}{vs:List V}(h:vs.length=ps.length):k8 (ps++qs) (vs++ws)=k8 ps vs++k8 qs ws:=by
 unfold k8
 rw[LY h.symm,qW]
theorem Vals.GK:∀{vs ws:List V} {us ts:List aq},Vals vs us->Vals ws ts->Vals (vs++ws) (us++ts)
 | _,_,_,_,.nil,h=>h
 | _,_,_,_,.cons r t,h=>.cons r (Vals.GK t h)
theorem WJ(h:PE X e (aj8 (UC X.K) (uC i) (zM (tD X.K (cA Cb gl) G0 Γ E f κ) Jk)))(na:qw Γ=true)(hk:Γ[i]?=some (.own n):=by rfl)(hl:κ.le (Uw n)=true:=by rfl)(hs:swapsWith e none pos.line X.env=pure false:=by rfl) :
  PS X (.Expr e pos) (qi X.K (cA Cb gl) G0 Γ E k6 (K7 i f)):=(vZ h hs).imp fun D σ H zz=>by
 obtain ⟨A,st,r,q⟩:=zz
 unfold K7 at q
 cases nZ:eV st[i]? with
 | none=>rw[nZ] at q;exact q.elim
 | some z=>
  rw[nZ] at q
  obtain ⟨nZ,OS⟩:=jH nZ
  obtain ⟨ds,l⟩:=z
  dsimp only at q nZ OS
  obtain ⟨p,h1,h2,h3,t2,xs,ow,h5⟩:=r.BO hk nZ rfl
  obtain ⟨ob,ps,vs,rfl,rel,hp,kp,pl⟩:=ow
  refine⟨_,h1,⟨p,ob,ps,rfl,hp⟩,A,st,r,?_⟩
  cases hf:f st with
  | bad=>rw[hf] at q;exact q
  | ex c p=>rw[hf] at q;exact fun H' e'=>q σ H' A (r.mono e') (aI e')
  | ok d=>
   rw[hf] at q
   walk_at"*"
   intro v H1 e1 w1
   cases hy:eV (some (some d)) with
   | none=>rw[hy] at q;exact q.elim
   | some y=>
    rw[hy] at q
    obtain ⟨hd,P6⟩:=jH hy
    obtain ⟨CG,l2⟩:=y
    cases hd
    dsimp only at q P6
    by_cases hc:l.length+l2.length<=5000/\(∀k∈l2.map (·.1),k∉l.map (·.1))/\(l=[]->l2.length<=1)
    ·rw[aH2 hc] at q
     have r':=r.mono e1
     have S:aH (eh n G0 A H) (eh n G0 A H1):=by
      unfold eh;cases n
      ·exact aI e1
      ·exact bO (aI e1)
     have S2:aH (eh n G0 A H1) H1:=by
      unfold eh;cases n
      ·exact aL _ _
      ·exact(dw _ _).trans (aL _ _)
     have q5:aM X.K (cA Cb gl) (eh n G0 A H1) ds (k8 ps vs):=h5.same S _
     have hlen:vs.length=ps.length:=by rw[pJ rel,bh]
     obtain ⟨_,i2,_,_⟩:=mU hlen q5 OS
     have QC:∀x∈ps,jG X.K (eh n G0 A H1) x.1 x.2.1:=fun x m=>(kp x m).mono S
     have wd:Rep X.K (cA Cb gl) (eh n G0 A H1) (.bM 2 CG) v:=w1.Uw r e1 hl
     have wd':=wd
     obtain ⟨c,oc,qs,ws,rfl,g1,g2,g3,g5,g4,g6,_⟩:=l7 wd P6
     rw[Rep] at wd'
     have q6:∃oc' qs' ws',Vals ws' (qs'.map (·.2.2))/\eh n G0 A H1 c=some (.ext (DY c oc' qs'))/\(∀x∈qs',jG X.K (eh n G0 A H1) x.1 x.2.1)/\(∀l,V.ref l∈ws'->∃ys,eh n G0 A H1 l=some (.lst ys))/\aM X.K (cA Cb gl) (eh n G0 A H1) CG (k8 qs' ws'):=by
      obtain ⟨c',ys,zc,Oa,rs⟩:=wd'
      cases zc
      rcases Oa with (⟨z,_⟩ | ⟨c,z,_⟩) | ⟨z,_⟩ | ⟨_,o',Jt,vs',rfl,k2,k3,k4,k5⟩
      ·cases z
      ·unfold RP at z;lia
      ·cases z
      ·exact⟨o',Jt,vs',k2,k3,k4,k5,rs⟩
     clear g1 g2 g3 g5 g4 g6
     obtain ⟨oc,qs,ws,g1,g2,g3,g5,q6⟩:=q6
     have aj9:ws.length=qs.length:=by rw[pJ g1,bh]
     obtain ⟨_,g4,_,_⟩:=mU aj9 q6 P6
     have npc:p≠c:=fun z=>by
      subst z
      unfold eh at g2
      cases n with
      | true=>have:=dw _ _ _ _ g2;rw[eZ h2] at this;cases this
      | false=>rw[aH3 (by decide),eZ h2] at g2;cases g2
     have e1l:l.length=ps.length:=by have:=i2.1;rw[bh] at this;exact this
     have e2l:l2.length=qs.length:=by have:=g4.1;rw[bh] at this;exact this
     refine⟨p,c,ob,oc,ps,qs,_,_,rfl,rfl,npc,e1 _ _ hp,S2 _ _ g2,fun x m=>(QC x m).mono S2,fun x m=>(g3 x m).mono S2,⟨i2.1,fun z m=>(i2.2 z m).mono S2⟩,⟨g4.1,fun z m=>(g4.2 z m).mono S2⟩,hc.2.1,fun z=>?_,?_,fun oa' _ _=>?_⟩
     ·rw[<- e2l];exact hc.2.2 (oJ.mp (by rw[e1l,z];rfl))
     ·rw[gn];have:=hc.1;lia
     ·have own:lC X.K (cA Cb gl) (eh n G0 A H1) (upd H1 p (.ext (DY p oa' (ps++qs)))) p (.bM 2 (ds++CG)):=by
       refine⟨rfl,k8 (ps++qs) (vs++ws),⟨_,_,_,rfl,by rw[iC];exact Vals.GK rel g1,bS,fun x m=>?_,fun l' m=>?_⟩,?_⟩
       ·rcases gy.mp m with m | m
        ·exact QC x m
        ·exact g3 x m
       ·rcases gy.mp m with m | m
        ·obtain ⟨ys,z⟩:=pl l' m;exact⟨ys,S _ _ z⟩
        ·exact g5 l' m
       ·rw[P0 hlen]
        exact aM.GK q5 q6
      obtain ⟨r2,e3⟩:=r'.RI na hk nZ h1 h2 h3 rfl rfl own
      exact q _ _ A r2 ((aI e1).trans e3)
    ·rw[aH3 hc] at q;exact q.elim
end
end Dm
end aj7
section aA6
namespace Hk
open PySem
section
theorem GO{Q:aq->az->Prop}(ho:s.heap.get? d=some od)(hx:od.ExactDict)(hd:(d==oz)=false)(hQ:Q (.ref s.heap.objs.size) { s with heap:=s.heap.push { cls:=.type "dict_items",data:=.fields #[.ref d] } }):aB (aC prog w) A (call (.builtin "dict.items") [.ref d]) Q E s:=by
 have hT:s.TypeIs (.ref d) "dict":=⟨od,ho,hx.1⟩
 refine gV F.slot_dict_items hT F.entry_dict_items ?_ (F.args_dict_items_1 _)
 (unfold Builtin.«dict.items»);(refine ah ?_);(unfold Builtin.Dict.noArgs);(refine ah (ER hT ?_));(show aB _ _ (pure d) _ _ s);(refine aA ?_)
 (show aB _ _ (xx d>>=_) _ _ s);(unfold xx);(rw[aH3 (by rw[hd];exact iK)])
 exact ah (aA (ah (nV (aA ⟨_,rfl,hQ⟩))))
theorem GP{Q:aq->az->Prop}(hv:s.heap.IsItemsView v d)(ho:s.heap.get? d=some od)(j8:od.data = .dict es ep)
  (hQ:Q (.ref s.heap.objs.size) { s with heap:=s.heap.push { cls:=.type "dict_itemiterator",data:=.fields #[.none,.bool false,.ref d,.int 0 0,.int es.size 0,.int ep 0,.none,.none] } }):aB (aC prog w) A (pyIter (.ref v)) Q E s:=by
 obtain ⟨ov,hov,hcv,hdv⟩:=id hv
 refine AI hv.typeIs MN (gV MN hv.typeIs F.entry_dict_items_iter ?_ (F.args_dict_items_iter_1 _))
 (unfold Builtin.«dict_items.__iter__»);(refine ah (aA (ah ?_)));(unfold Builtin.Dict_items.dictOf);(refine ah (qJ hov hdv (x:=.ref d) rfl (aA (ah ?_))))
 (unfold Builtin.Dict_items.newIterator);(refine ah (jR ho j8 (ah (oF ho j8 ?_))))
 (have own:xy "dict_itemiterator" =true:=by decide);(simp only[own,aI1])
 refine nV (aA ⟨_,rfl,"dict_itemiterator",_,⟨_,eN _ rfl,rfl⟩,xu.lookup,by simpa[rawInt,Builtin.Dict_items.ownedTupleFields] using hQ⟩) (by
  simp only[sizeOk,Builtin.Dict_items.ownedTupleFields,dJ,bU,cS,oK,gn];omega)
theorem GQ{Q:Option aq->az->Prop}(hit:IsItemIter s.heap it d i es.size ep ok ov)(ho:s.heap.get? d=some od)(j8:od.data = .dict es ep)(hx:es[i]?=some e)
  (hQ:∀h',IsItemIterOut h' it d (i+1) es.size ep e.key e.val s.heap.objs.size->h'.get? s.heap.objs.size=some { cls:=.type "tuple",data:=.seq #[e.key,e.val] }->h'.objs.size=s.heap.objs.size+1->
   (∀b o,b≠it->s.heap.get? b=some o->h'.get? b=some o)->Q (some (.ref s.heap.objs.size)) { s with heap:=h' }):aB (aC prog w) A (pyNext (.ref it)) Q E s:=by
 obtain ⟨hp,g,dr,tk,os⟩:=s
 have hT:Shared.TypeIs ⟨hp,g,dr,tk,os⟩ (.ref it) "dict_itemiterator":=⟨_,hit,rfl⟩
 have own:xy "dict_itemiterator" =true:=by decide
 have iF:i < es.size:=(oN.mp hx).1
 have he:es[i]=e:=(oN.mp hx).2
 unfold pyNext
 refine ah (oA (qL (name:=kP "__next__") hT xu (gV xu hT MO ?_ (MP _))))
 (refine ah (aA (ah (ah ?_))));(first | refine ah (AL hT (aA ?_)) | refine ah (AM hT (aA ?_)))
 (refine ah (u5 hit rfl ?_));(simp only[own,aI1]);(show aB _ _ (if (eW d==dY)=true then _ else _) _ _ _);(rw[aH3 (show ¬ ((eW d==dY)=true) from iK)])
 (refine ah (aA (ah (jR ho j8 ?_))));(rw[aH3 (by simp)]);(refine ah (aA (ah (oF ho j8 ?_))));(rw[aH3 (by simp)]);(refine aA ?_)
 (simp only[show ¬ ((i:Int) < 0) from by omega,aI0,jV,xj iF,he]);(refine ah ?_)
 (first | refine ah (AL hT (aA ?_)) | refine ah (AM hT (aA ?_)));(refine ah (ES hT ?_))
 (show aB _ _ (setField (.ref it) 3 (rawInt ((i:Int)+1))>>=_) _ _ ⟨hp,g,dr,tk,os⟩);(refine ah (wN hit (by simp) fun h1 f1 s1=>?_))
 replace s1:gZ it hp h1:=s1
 replace f1:IsItemIter h1 it d (i+1) es.size ep ok ov:=by
  have z:((i+1:Nat):Int)=(i:Int)+1:=by omega
  unfold IsItemIter;rw[z];simpa[rawInt] using f1
 have hT1:Shared.TypeIs ⟨h1,g,dr,tk,os⟩ (.ref it) "dict_itemiterator":=⟨_,f1,rfl⟩
 refine ah (je (ah (ES hT1 (ah (ES hT1 ?_)))))
 (show aB _ _ (Builtin.Dict_items.pairFromOwner (.ref it) 6 e.key e.val) _ _ ⟨h1,g,dr,tk,os⟩);(unfold Builtin.Dict_items.pairFromOwner);(refine ah (EH ?_))
 have f2:IsItemIter (h1.push { cls:=.type "tuple",data:=.seq #[e.key,e.val] }) it d (i+1) es.size ep ok ov:=bQ _ f1
 have z1:h1.objs.size=hp.objs.size:=s1.1
 have hil:hp.objs.size≠it:=Cv (bX hit)
 have t2:(h1.push { cls:=.type "tuple",data:=.seq #[e.key,e.val] }).get? hp.objs.size=some { cls:=.type "tuple",data:=.seq #[e.key,e.val] }:=by rw[<- z1];exact eN _ rfl
 have z2:(h1.push { cls:=.type "tuple",data:=.seq #[e.key,e.val] }).objs.size=hp.objs.size+1:=by rw[zH,z1]
 have k2:∀b o,b≠it->hp.get? b=some o->(h1.push { cls:=.type "tuple",data:=.seq #[e.key,e.val] }).get? b=some o:=fun b o hb q=>bQ _ (s1.extBut b o hb q)
 rw[z1]
 generalize h1.push { cls:=.type "tuple",data:=.seq #[e.key,e.val] }=h2 at f2 t2 z2 k2 ⊢
 (show aB _ _ (Builtin.Dict_items.ownedTupleIsFree (.ref it)>>=_) _ _ ⟨h2,g,dr,tk,os⟩);(refine ah ?_);(unfold Builtin.Dict_items.ownedTupleIsFree);(refine ah (qJ f2 rfl (x:=.none) rfl (aA ?_)))
 simp only[aI1]
 refine ah (qJ f2 rfl (x:=ok) rfl (ah (qJ f2 rfl (x:=ov) rfl (ah (wN f2 (by simp) fun h3 f3 s3=>?_)))))
 replace s3:gZ it h2 h3:=s3
 replace f3:IsItemIter h3 it d (i+1) es.size ep e.key ov:=f3
 refine ah (wN f3 (by simp) fun h4 f4 s4=>?_)
 replace s4:gZ it h3 h4:=s4
 replace f4:IsItemIter h4 it d (i+1) es.size ep e.key e.val:=f4
 refine ah (wN f4 (by simp) fun h5 f5 s5=>?_)
 replace s5:gZ it h4 h5:=s5
 replace f5:IsItemIterOut h5 it d (i+1) es.size ep e.key e.val hp.objs.size:=f5
 refine ah (wN f5 (by simp) fun h6 f6 s6=>?_)
 replace s6:gZ it h5 h6:=s6
 replace f6:IsItemIterOut h6 it d (i+1) es.size ep e.key e.val hp.objs.size:=f6
 have all:∀b o,b≠it->h2.get? b=some o->h6.get? b=some o:=fun b o hb q=>s6.extBut b o hb (s5.extBut b o hb (s4.extBut b o hb (s3.extBut b o hb q)))
 exact ah (EO (aA (aA ⟨_,rfl,aA (hQ h6 f6 (all _ _ hil t2) (by show h6.objs.size=_;rw[s6.1,s5.1,s4.1,s3.1,z2]) fun b o hb q=>all b o hb (k2 b o hb q))⟩)))
theorem K8{Q:Option aq->az->Prop}(hh:A.handled=none)(hit:IsItemIter s.heap it d i es.size ep ok ov)(ho:s.heap.get? d=some od)(j8:od.data = .dict es ep)(hx:es.size<=i)
  (hQ:∀h',Heap.ExtBut it s.heap h'->Q none { s with heap:=h' }):aB (aC prog w) A (pyNext (.ref it)) Q E s:=by
 have hT:s.TypeIs (.ref it) "dict_itemiterator":=⟨_,hit,rfl⟩
 have own:xy "dict_itemiterator" =true:=by decide
 unfold pyNext
 refine ah (oA (qL (name:=kP "__next__") hT xu (gV xu hT MO ?_ (MP _))))
 (refine ah (aA (ah (ah ?_))));(first | refine ah (AL hT (aA ?_)) | refine ah (AM hT (aA ?_)))
 (refine ah (u5 hit rfl ?_));(simp only[own,aI1]);(show aB _ _ (if (eW d==dY)=true then _ else _) _ _ s);(rw[aH3 (show ¬ ((eW d==dY)=true) from iK)])
 (refine ah (aA (ah (jR ho j8 ?_))));(rw[aH3 (by simp)]);(refine ah (aA (ah (oF ho j8 ?_))));(rw[aH3 (by simp)]);(refine aA ?_)
 (simp only[show ¬ ((i:Int) < 0) from by omega,aI0,jV,qX hx]);(refine ah ?_)
 (first | refine ah (AL hT (aA ?_)) | refine ah (AM hT (aA ?_)))
 (show aB _ _ (setField (.ref it) 2 .none>>=_) _ _ s);(refine ah (qK hit rfl (by simp) ?_));(show aB _ _ (newExc (.type "StopIteration") []>>=_) _ _ _);(refine ah ?_)
 (simp only[newExc,newTuple]);(refine ah (nV ?_ (by size_fits)));(refine ah (m:=u6 _ _) (u0 (a:=dY) (by first | rfl | (simp only[u6];rfl)) ?_))
 (refine nV ?_ (by size_fits));(simp only[raiseNew]);(refine ah (EJ ?_));(rw[show A.in1.handled=none from hh])
 (refine ah (aA (EK ?_)));(refine ah (qM (T:="StopIteration") (b:=true) ⟨_,eN _ rfl,rfl⟩ EL ?_))
 exact aA (hQ _ (((fj ..).extBut.push _).push _))
end
end Hk
end aA6
section ak0
namespace Dm
open PySem PySem.Spec PyProof.Rows L2
def ItY(a:av)(o:Obj)(ps:List SP)(vs:List V):It:=
 ⟨fun i H=>H a=some (.ext (DY a o ps))/\i < ps.length,fun i H x H'=>∃T p y,ps[i]?=some p/\vs[i]?=some y/\H T=none/\H'=upd H T (.tup [.ref p.2.1,y])/\x = .ref T,fun i H=>H a=some (.ext (DY a o ps))/\ps.length<=i⟩
theorem GR:entryFor table "dict_itemiterator.__iter__" =some Builtin.«dict_keyiterator.__iter__» :=
 entryFor_alias (id':="dict_keyiterator.__iter__") (by kernel_rfl) (by first | rfl | decide +kernel) (by decide +kernel) (by kernel_rfl)
theorem DN:∀{vs:List V} {us:List aq} {i:Nat} {u:aq},Vals vs us->us[i]?=some u->∃v,vs[i]?=some v/\RelV v u
 | _,_,_,_,.nil,h=>by cases h
 | _,_,0,_,.cons r t,h=>by cases h;exact⟨_,rfl,r⟩
 | _,_,i+1,_,.cons r t,h=>let ⟨v,h1,h2⟩:=DN t (i:=i) h;⟨v,h1,h2⟩
theorem DO{P:dh}{w:bN}{K:aD}{elts:List bH}{x1}{pos:Pos}{a it:av}{o:Obj}{ps:List SP}{vs:List V}{es:Array qN}{ep:Nat}(j8:o.data = .dict es ep)(rel:Vals vs (ps.map (·.2.2)))(Df:∀(P:dh) (w:bN),es.toList=ps.map (qm (Hk.k7 (intKind P w)))) :
  Turn P w K (.Tuple elts x1 pos) (ItY a o ps vs) [it] it (fun i h=>∃ok ov,IsItemIter h it a i es.size ep ok ov) where
 mem:=by simp
 obj:=fun i h st b hb=>by
  obtain ⟨ok,ov,he⟩:=st
  obtain rfl:b=it:=by simpa using hb
  exact⟨_,he,fun v z=>by cases z⟩
 keep:=fun i h h' st k=>by
  obtain ⟨ok,ov,he⟩:=st
  exact⟨ok,ov,k it (by simp) _ he⟩
 item:=by
  walk_at"4"
  subst hP hw hK
  obtain ⟨ok,ov,he⟩:=st
  obtain ⟨ha,hi⟩:=hg
  obtain ⟨⟨Ie,hz,ho,hx,_⟩,_,_⟩:=(show gC X.prog X.w H s.heap a (.ext (DY a o ps)) from I.fB a _ ha)
  have Df:=Df X.prog X.w
  obtain ⟨p,hp⟩:∃p,ps[i]?=some p:=⟨ps[i],dF hi⟩
  obtain ⟨y,hy,ry⟩:=DN rel (i:=i) (u:=p.2.2) (by rw[dm,hp];rfl)
  have hen:es[i]?=some (qm (Hk.k7 (intKind X.prog X.w)) p):=by rw[entry_at Df,hp];rfl
  have fi:=hf it (by simp)
  have hn:H s.heap.objs.size=none:=I.fB.fresh (bf _)
  refine Hk.GQ he ho j8 hen fun h' BX hT hsz hk=>⟨_,rfl,?_⟩
  have kp:∀b o,b∉[it]->s.heap.get? b=some o->h'.get? b=some o:=fun b o hb q=>hk b o (fun z=>hb (by simp[z])) q
  have lt:∀b o,s.heap.get? b=some o->b≠s.heap.objs.size:=fun b o q=>di (bX q)
  have I1:L2.Inv X pins σ (upd H s.heap.objs.size (.tup [.ref p.2.1,y])) { s with heap:=h' }:=by
   refine Inv.CI I (s':={ s with heap:=h' }) (ch:=[it]) rfl ⟨fun b o q n nf nx=>kp b o nx q,fun b o q n nf nx=>⟨o.slots,kp b o nx q⟩,fun b o q n nx=>?_,fun b o q nx=>⟨o,kp b o nx q⟩,fun b ys q=>?_,fun b o u' q=>?_,fun b zp zr q=>?_⟩ (fun b o q=>?_) I.bare (fun b hb=>?_)
   ·rw[aV (lt b o q)];exact n
   ·rw[aV (b8 q hn)];exact q
   ·rw[aV (b8 q hn)];exact q
   ·rw[aV (b8 q hn)];exact q
   ·by_cases hb:b=s.heap.objs.size
    ·subst hb
     rw[bS] at q;cases q
     exact⟨by simp only[cS,oK];rw[gn];decide,[.ref p.2.1,p.2.2],.cons rfl (.cons ry .nil),⟨_,hT,rfl,0,rfl⟩⟩
    ·rw[aV hb] at q
     refine(I.fB b o q).z8 (fun c v vQ z=>kp c v ?_ z) (fun c z=>by rw[aV (b8 z hn)];exact z) (fun c ys z=>by rw[aV (b8 z hn)];exact z) fun c zo ys z=>by rw[aV (b8 z hn)];exact z
     intro hm
     obtain rfl:c=it:=by simpa using hm
     rcases vQ with rfl | vQ
     ·rw[fi.1] at q;cases q
     ·rw[fi.1] at vQ;cases vQ
   ·refine vO (hf b hb) fun f0 f1 f2 f3 f4 f5=>?_
    exact⟨f3,f1,f4,f5⟩
  have ni:it≠s.heap.objs.size:=lt it _ he
  obtain ⟨f0,f1,f2,f3,f4,f5⟩:=fi
  refine wpAny_letOwnedTupleGo_items BX fun h2 QB Vq=>?_
  have I2:L2.Inv X pins σ (upd H s.heap.objs.size (.tup [.ref p.2.1,y])) { s with heap:=h2 }:=I1.turned (t':=s.toks) (fun b o hb q=>(Vq.2 b hb).trans q) (by rw[aV ni];exact f0) f1 f3 f4 f5
  refine⟨.ref s.heap.objs.size,_,I2,rfl,⟨_,p,y,hp,hy,hn,rfl,rfl⟩,⟨_,_,QB⟩,fun b hb=>?_⟩
  obtain rfl:b=it:=by simpa using hb
  rw[aV ni];exact f0
 done:=by
  walk_at"4"
  subst hP hw hK
  obtain ⟨ok,ov,he⟩:=st
  obtain ⟨ha,hi⟩:=hg
  obtain ⟨⟨Ie,hz,ho,hx,_⟩,_,_⟩:=(show gC X.prog X.w H s.heap a (.ext (DY a o ps)) from I.fB a _ ha)
  obtain ⟨f0,f1,f2,f3,f4,f5⟩:=hf it (by simp)
  exact Hk.K8 (I.ok.hd hc) he ho j8 (by rw[oE (Df X.prog X.w)];exact hi) fun h' eb=>⟨rfl,I.turned (t':=s.toks) (fun b o hb e=>eb b o hb e) f0 f1 f3 f4 f5⟩
 self:=fun A i s Q E st h=>by
  obtain ⟨ok,ov,he⟩:=st
  have hT:s.TypeIs (.ref it) "dict_itemiterator":=⟨_,he,rfl⟩
  exact AI hT MQ (gV MQ hT GR (by
   show aB _ _ (ret (.ref it)) _ _ s
   exact aA ⟨_,rfl,"dict_itemiterator",_,hT,PySem.F.slot_dict_itemiterator_next.lookup,h⟩) (PySem.F.args_dict_itemiterator_iter_1 _))
def aA7(to:TE):TI:=fun σ H R=>to σ H fun x H1=>∃a o ps vs,x = .ref a/\H1 a=some (.ext (DY a o ps))/\Vals vs (ps.map (·.2.2))/\R (ItY a o ps vs) H1
section
theorem K9{to:TE}{apos iN tp:Pos}(ho:PE X o to)(su:nc o "items" X.env (eval o X.env)=eval o X.env:=by rfl)(sA:(apos.endLine==iN.line)=true:=by rfl):PI X (.Tuple elts x1 tp) (.Call (.Attribute o "items" apos) [] [] iN) (aA7 to):=by
 intro pins s σ H R I h
 refine wpAny_Call_method0_late su sA (gS (ho pins s σ H _ I h) fun v s1 zz=>?_)
 obtain ⟨x,H1,I1,r1,a,oo,ps,vs,rfl,hx,rel,q1⟩:=zz
 cases r1
 obtain ⟨⟨Ie,hz,hg,sd,es,ep,j8,Df,hn⟩,_,_⟩:=(show gC X.prog X.w H1 s1.heap a (.ext (DY a oo ps)) from I1.fB a _ hx)
 refine⟨"dict","dict.items",MM,PySem.F.slot_dict_items,PySem.F.type_dict_items,⟨oo,hg,sd.1⟩,fun b e=>?_,?_⟩
 ·cases e;exact⟨oo,hg,sd.2.1⟩
 refine Fq rfl (PySem.evalArgs_none (Hk.GO hg sd Ie ?_))
 refine Hk.GP (d:=a) (od:=oo) (es:=es) (ep:=ep) ⟨_,eN _ rfl,rfl,rfl⟩ (bQ _ hg) j8 ?_
 have k2:∀b u,s1.heap.get? b=some u->((s1.heap.push { cls:=.type "dict_items",data:=.fields #[.ref a] }).push { cls:=.type "dict_itemiterator",data:=.fields #[.none,.bool false,.ref a,.int 0 0,.int es.size 0,.int ep 0,.none,.none] }).get? b=some u:=fun b u z=>bQ _ (bQ _ z)
 refine⟨_,[_],_,_,H1,rfl,I1.kept (t':=s1.toks) k2,DO j8 rel Df,⟨_,_,eN _ rfl⟩,fun b hb=>?_,q1⟩
 have pW:s1.heap.objs.size<=b:=by
  obtain rfl:b=_:=by simpa using hb
  exact wQ _
 exact I1.Jd pW (I1.fB.fresh pW)
def zv(f:DF):DI:=fun st=>match f st with
 | .ok d=>(match eV (some (some d)) with | some y=>.ok (y.2.map fun t=>.tup [t.2.1,t.2.2]) | none=>.bad)
 | .ex c p=>.ex c p
 | .bad=>.bad
theorem DQ{apos iN:Pos}(ha:PE X o (tD X.K (cA Cb gl) G0 Γ E f κ))(l:z=true->κ.le .old=true)(su:nc o "items" X.env (eval o X.env)=eval o X.env:=by rfl)(sA:(apos.endLine==iN.line)=true:=by rfl) :
  PI X (.Tuple elts x1 tp) (.Call (.Attribute o "items" apos) [] [] iN) (QA X.K (cA Cb gl) G0 Γ E z (zv f)):=(K9 ha su sA).imp fun σ H Q zz=>by
 obtain ⟨A,st,r,q⟩:=zz
 walk_at"."
 unfold zv at q
 cases hf:f st with
 | bad=>rw[hf] at q;exact q
 | ex c p=>rw[hf] at q;exact q
 | ok d=>
  rw[hf] at q
  walk_at"*"
  intro v H1 e1 w
  cases hy:eV (some (some d)) with
  | none=>rw[hy] at q;exact q.elim
  | some y=>
   rw[hy] at q
   obtain ⟨hd,P6⟩:=jH hy
   obtain ⟨ds,lp⟩:=y
   cases hd
   dsimp only at q P6
   have w':Rep X.K (cA Cb gl) (er H1 (zB z A)) (.bM 2 ds) v:=by
    unfold zB
    cases z with
    | true=>exact w.le r e1 (κ':=.old) (l rfl)
    | false=>rw[aH3 (by decide),mw];exact w.rep
   obtain ⟨a,oo,ps,vs,rfl,g1,g2,g3,g5,g4,g6,g7⟩:=l7 w' P6
   have BB:ps.length=lp.length:=by rw[<- g4.1,bh]
   refine⟨a,oo,ps,vs,rfl,aL _ _ _ _ g2,g1,q _ _ e1 fun i H3 A3 e3 nA=>⟨fun d hd=>?_,fun hd=>?_⟩⟩
   ·rw[dm] at hd
    cases tV:lp[i]? with
    | none=>rw[tV] at hd;cases hd
    | some t=>
     rw[tV] at hd;cases hd
     have hi:i < ps.length:=by rw[BB];exact(gz.mp tV).1
     have ga:H3 a=some (.ext (DY a oo ps)):=(e3.trans (aL _ _)) _ _ g2
     refine⟨⟨ga,hi⟩,fun x H' n8=>?_⟩
     obtain ⟨T,p,y,hp,L0,hT,hH,ex⟩:=n8
     subst hH ex
     obtain ⟨v1,hv1,rv1⟩:=g6.get' (show (lp.map (·.2.2))[i]?=some t.2.2 by rw[dm,tV];rfl)
     rw[L0] at hv1;cases hv1
     obtain ⟨v2,hv2,rv2⟩:=g7.get' (show (lp.map (·.2.1))[i]?=some t.2.1 by rw[dm,tV];rfl)
     rw[dm,hp] at hv2;cases hv2
     have nT:T∉A3:=fun m=>nA T m hT
     refine⟨cV hT,?_⟩
     have up:aH (er H3 A3) (er (upd H3 T (.tup [.ref p.2.1,y])) A3):=aI (cV hT)
     rw[Rep]
     refine⟨T,_,rfl,.inl (.inl (by rw[b9 nT,bS])),?_⟩
     rw[aM]
     refine⟨_,[y],rfl,rv2.same (e3.trans up) _,?_⟩
     rw[aM]
     refine⟨y,[],rfl,rv1.same (e3.trans up) _,?_⟩
     rw[aM]
   ·rw[dm] at hd
    have hn:lp[i]?=none:=by cases tV:lp[i]? with | none=>rfl | some t=>rw[tV] at hd;cases hd
    exact⟨(e3.trans (aL _ _)) _ _ g2,by rw[BB];exact nv.mp hn⟩
end
section
def tE(s:Str)(f:DF):DF:=fun st=>match f st with
 | .ok d=>(match d with | .lst ds=>.ok (.tup [.str s,.lst ds]) | _=>.bad)
 | .ex c p=>.ex c p
 | .bad=>.bad
theorem Iu(hc:PE X c (tD X.K C G0 Γ E (dC (.str s)) .new))(he:PE X e (tD X.K C G0 Γ E f .loc))(h1:bL [c,e] X.env=[(false,eval c X.env),(false,eval e X.env)]:=by rfl)(h2:bL [e] X.env=[(false,eval e X.env)]:=by rfl) :
  PE X (.Tuple [c,e] x1 pos) (tD X.K C G0 Γ E (tE s f) .loc):=(Nl (iU hc (iU he m7 h2) (by rw[h1,h2]))).imp fun σ H Q zz=>by
 obtain ⟨A,st,r,q⟩:=zz
 walk_at"."
 intro v1 H1 e1 w1
 refine⟨A,st,r.mono e1,?_⟩
 unfold tE at q
 cases hf:f st with
 | bad=>rw[hf] at q;exact q
 | ex c p=>rw[hf] at q;exact fun H' e'=>q H' (e1.trans e')
 | ok d=>
  rw[hf] at q
  cases d with
  | lst ds=>
   walk_at"*"
   intro v2 H2 e2 w2
   have nJ:=e1.trans e2
   refine⟨by simp only[cS,oK];rw[gn];decide,fun p hp=>q _ _ (nJ.trans (cV hp)) ?_⟩
   have hv1:=w1.rep
   rw[Rep] at hv1
   subst hv1
   have up:aH (nw G0 (er H2 A)) (nw G0 (er (upd H2 p (.tup [.str s,v2])) A)):=bO (aI (cV hp))
   have at_:nw G0 (er (upd H2 p (.tup [.str s,v2])) A) p=some (.tup [.str s,v2]):=Dq (κ:=.loc) r nJ hp
   obtain ⟨p',rfl,g0,xs,hx,rx⟩:=w2.2.1 rfl
   refine⟨?_,fun z=>(by cases z),fun s' Gx z=>?_⟩
   ·rw[Rep]
    exact⟨p,_,rfl,.of at_,.cons (by rw[Rep]) (.cons (w2.1.same up _) (by rw[aM]))⟩
   ·cases z
    exact⟨p,p',xs,rfl,.of at_,g0,up _ _ hx,rx.same (aI up) _⟩
  | _=>exact q.elim
def ak2(K:aD)(tk tv:TE):TE:=fun σ H Q=>∀p o,H p=none->tk σ (upd H p (.ext (DY p o []))) fun x H1=>tv σ H1 fun y H2=>H2 p=some (.ext (DY p o []))/\∃b ks,x = .ref b/\jG K H2 ks b/\∀u o',RelV y u->Q (.ref p) (upd H2 p (.ext (DY p o' [(ks,b,u)])))
theorem Sd(hu:X.A.units+1 < cLine)(hk:PE X k tk)(hv:PE X e tv):PE X (.Dict [some k] [e] pos) (ak2 X.K tk tv):=by
 intro pins s σ H Q I q
 have hn:=I.fB.fresh (bf s.heap.objs.size)
 have Ie:(s.heap.objs.size==oz)=false:=aH9.mpr (eX (di (Inv.ai9 I)))
 have I1:=I.laid (a:=s.heap.objs.size) (o:=.ext (DY s.heap.objs.size _ [])) (h':=s.heap.push { cls:=.type "dict",data:=.dict #[] }) (t':=s.toks) (fun _ _ q=>bQ _ q) (bf _) (DG (OQ Ie))
 refine wpAny_Dict_any rfl rfl (by simp) (by simp) (pairTrees_cons_walk (gS (hk pins _ σ _ _ I1 (q _ _ hn)) fun u s1 zz=>?_))
 obtain ⟨x,H1,I2,rx,q1⟩:=zz
 refine gS (hv pins s1 σ H1 _ I2 q1) fun w2 s2 zz=>?_
 obtain ⟨y,H2,I3,ry,hp,b,ks,rfl,hb,q2⟩:=zz
 cases rx
 refine pairTrees_nil_walk ?_
 obtain ⟨dd,_,hz⟩:=lK I3 hp (fun _ m=>nomatch m)
 unfold storeAll
 refine lR _ (fun rest _ s'=>(rest=[(eW b,w2)]/\s'=s2)\/(rest=[]/\∃o',L2.Inv X pins σ (upd H2 s.heap.objs.size (.ext (DY s.heap.objs.size o' [(ks,b,w2)]))) s')) _ ?_ ?_ _ _ (.inl ⟨rfl,rfl⟩)
 ·rintro z rest b0 s' (⟨hr,rfl⟩ | ⟨hr,_⟩)
  ·cases hr
   refine ah (wpAny_dictSet_heap (hsz:=hz) (show X.A.units+1 < cLine from hu) (mz I3 hb) dd fun h' dd' hs=>aA (.inr ⟨rfl,?_⟩))
   have he:∃q,h'.get? s.heap.objs.size=some q:=let ⟨q,_,_,hq,_⟩:=dd';⟨q,hq⟩
   obtain ⟨o',dy⟩:=DY.of Ie (by rw[AK rfl];simp only[i0,LC];rw[gn];decide) dd'
   rw[AK rfl,i0] at dy
   exact⟨o',I3.write (x:=s.heap.objs.size) (e:=s.heap.objs.size) (by rw[hp];trivial) (.inl rfl) (fun c w hc z=>(hs.2 c hc).trans z) he (DG dy)⟩
  ·cases hr
 ·rintro b0 s' (⟨hr,_⟩ | ⟨_,o',I4⟩)
  ·cases hr
  ·exact⟨.ref s.heap.objs.size,_,I4,rfl,q2 w2 o' ry⟩
def yD(fk f:DF):DF:=fun st=>match fk st with
 | .ok kd=>(match f st with
  | .ok d=>(match mT kd with | some _=>if UA d=true then .ok (.bM 2 [kd,d]) else .bad | none=>.bad)
  | .ex c p=>.ex c p
  | .bad=>.bad)
 | .ex c p=>.ex c p
 | .bad=>.bad
theorem Iv(hu:X.A.units+1 < cLine)(hk:PE X k (tD X.K (cA Cb gl) G0 Γ E fk κk))(hv:PE X e (tD X.K (cA Cb gl) G0 Γ E f .new)):PE X (.Dict [some k] [e] pos) (tD X.K (cA Cb gl) G0 Γ E (yD fk f) .new):=(Sd hu hk hv).imp fun σ H Q zz=>by
 obtain ⟨A,st,r,q⟩:=zz
 intro p o hp
 have e0:aH H (upd H p (.ext (DY p o []))):=cV hp
 refine⟨A,st,r.mono e0,?_⟩
 unfold yD at q
 cases hfk:fk st with
 | bad=>rw[hfk] at q;exact q
 | ex c p'=>rw[hfk] at q;exact fun H' e'=>q H' (e0.trans e')
 | ok kd=>
  rw[hfk] at q
  walk_at"*"
  intro x H1 e1 w1
  refine⟨A,st,(r.mono e0).mono e1,?_⟩
  cases hf:f st with
  | bad=>rw[hf] at q;exact q
  | ex c p'=>rw[hf] at q;exact fun H' e'=>q H' ((e0.trans e1).trans e')
  | ok d=>
   rw[hf] at q
   walk_at"*"
   intro y H2 e2 w2
   cases BZ:mT kd with
   | none=>rw[BZ] at q;exact q.elim
   | some ks=>
    rw[BZ] at q
    walk_at"*"
    by_cases ho:UA d=true
    ·rw[aH2 ho] at q
     have nJ:=e1.trans e2
     have e02:=e0.trans nJ
     have NQ:H2 p=some (.ext (DY p o [])):=nJ _ _ bS
     have wk:=w1.rep.same e2 _
     obtain ⟨b,rfl,hb⟩:=jI wk BZ
     refine⟨NQ,b,ks,rfl,hb,fun u o' ru=>?_⟩
     have nz:∀b' w,nw H (upd H2 p (.ext (DY p o' [(ks,b,u)]))) b'=some w->True:=fun _ _ _=>trivial
     have S:aH (nw H1 H2) (er (nw H (upd H2 p (.ext (DY p o' [(ks,b,u)])))) [p]):=fun b' w z=>by
      unfold nw at z
      split at z
      ·rename_i kp
       have nb:b'≠p:=fun w'=>by
        subst w'
        rw[e1 _ _ bS] at kp;cases kp
       rw[b9 (by simpa using nb)]
       unfold nw
       rw[aH2 (nG (e0.trans e1) kp),aV nb]
       exact z
      ·cases z
     have wv:Rep X.K (cA Cb gl) (er (nw H (upd H2 p (.ext (DY p o' [(ks,b,u)])))) [p]) d y:=w2.1.same S _
     have kt:kY H2 (er (nw H (upd H2 p (.ext (DY p o' [(ks,b,u)])))) [p]):=by
      refine⟨fun b' w z=>?_,fun a xs z=>?_⟩
      ·by_cases nb:b'=p
       ·rw[nb,eZ (by simp)] at z;cases z
       ·rw[b9 (by simpa using nb)] at z
        have:=dw _ _ _ _ z
        rwa [aV nb] at this
      ·have na:a≠p:=fun w=>by
        rcases z with z | ⟨u',z⟩
        ·rw[w,NQ] at z;cases z
        ·rw[w,NQ] at z;cases z
       have kn:sU (H a)=true:=by
        cases q':H a with
        | none=>rfl
        | some o''=>
         have:=e02 a o'' q'
         rcases z with z | ⟨u',z⟩
         ·rw[z] at this;cases this;rfl
         ·rw[z] at this;cases this;rfl
       unfold Rd
       rw[b9 (by simpa using na)]
       unfold nw
       rw[aH2 kn,aV na]
       exact z
     have wk2:Rep X.K (cA Cb gl) (er (nw H (upd H2 p (.ext (DY p o' [(ks,b,u)])))) [p]) kd (.ref b):=Rep.part kt _ (tw BZ) wk
     obtain ⟨b2,Um,hbk⟩:=jI wk2 BZ
     cases Um
     have at_:nw H (upd H2 p (.ext (DY p o' [(ks,b,u)]))) p=some (.ext (DY p o' [(ks,b,u)])):=by rw[kX hp];exact bS
     have plv:∀l',y = .ref l'->∃ys,er (nw H (upd H2 p (.ext (DY p o' [(ks,b,u)])))) [p] l'=some (.lst ys):=fun l' zl=>by
      cases d with
      | lst es=>
       obtain ⟨p',z,h0,ys,hy,_⟩:=w2.2.1 rfl
       rw[zl] at z;cases z
       exact⟨ys,S _ _ hy⟩
      | int n=>have:=w2.1;rw[Rep] at this;rw[this] at zl;cases zl
      | _=>cases ho
     have own:lC X.K (cA Cb gl) (er (nw H (upd H2 p (.ext (DY p o' [(ks,b,u)])))) [p]) (nw H (upd H2 p (.ext (DY p o' [(ks,b,u)])))) p (.bM 2 [kd,d]):=
      ⟨rfl,k8 [(ks,b,u)] [y],⟨o',_,_,rfl,.cons ru .nil,at_,fun x m=>by obtain rfl:=fJ.mp m;exact hbk,fun l' m=>plv l' (fJ.mp m).symm⟩,.cons wk2 (.cons wv (by rw[aM];rfl))⟩
     refine q _ _ (fun b' w z=>?_) ⟨own.rep (.refl _) rfl,fun _=>⟨p,rfl,hp,own⟩,.not rfl⟩
     have nb:b'≠p:=fun w'=>by rw[w',hp] at z;cases z
     rw[aV nb];exact e02 _ _ z
    ·rw[aH3 ho] at q;exact q.elim
end
section
def WK(K:aD):V->List V->Hp->VK->Prop:=fun x xs H Q=>∃a b ob ps ks rS dv,x = .ref a/\xs=[.ref b,dv]/\H a=some (.ext (DY a ob ps))/\(∀p∈ps,jG K H p.1 p.2.1)/\KL K H ps rS/\jG K H ks b/\
 (ps.map (·.1)=rS->∃v,(∀p,atKey ps ks=some p->RelV v p.2)/\(atKey ps ks=none->v=dv)/\Q v H)
theorem Se(hu:X.A.units+2 < cLine):MtR X "dict.get" (WK X.K):=by
 intro pins s σ H x xs v us Q I rx rv h
 obtain ⟨a,b,ob,ps,ks,rS,dv,rfl,rfl,ha,hk,S5,hb,q⟩:=h
 cases rx
 obtain ⟨u1,u2,rfl,r1,r2⟩:=rv.two
 cases r1
 obtain ⟨z,q1,q2,q0⟩:=q (keys_eq I hk S5)
 obtain ⟨dd,hd,_⟩:=lK I ha hk
 refine gV MR dd.typeIs PySem.F.entry_dict_get ?_ (PySem.F.args_dict_get_3 _ _ _)
 (show aB _ _ (dictGet a (.ref b)>>=_) _ _ s);(refine ah (wpAny_dictGet_heap (show X.A.units+1+1 < cLine from hu) (mz I hb) dd ?_))
 cases hf:atKey ps ks with
 | some p=>exact aA ⟨p.2,rfl,z,H,I.tok _,q1 p hf,q0⟩
 | none=>
  obtain rfl:=q2 hf
  (show aB _ _ (Builtin.Dict.missed a (.ref b)>>=_) _ _ _);exact ah (wpAny_missed_other hd (aA ⟨u2,rfl,z,H,I.tok _,r2,q0⟩))
def isN:D->Bool | .int _=>true | _=>false
def Sf(l:List (List (List Int)×D×D))(ks:List (List Int))(d:D):D:=match l.find? (fun z=>decide (z.1=ks)) with | some z=>z.2.2 | none=>d
def yE(l:List (List (List Int)×D×D))(k d:D):R D:=match mT k with
 | some ks=>if isN (Sf l ks d)=true then .ok (Sf l ks d) else .bad
 | none=>.bad
theorem P7(h:yE l k d = .ok x):∃ks,mT k=some ks/\isN (Sf l ks d)=true/\x=Sf l ks d:=by
 unfold yE at h
 split at h
 ·rename_i ks hk
  split at h
  ·rename_i hn;cases h;exact⟨ks,hk,hn,rfl⟩
  ·cases h
 ·cases h
theorem P8:yE l k d≠ .ex c p:=by
 unfold yE
 split
 ·split <;> exact fun h=>(by cases h)
 ·exact fun h=>(by cases h)
def tF(fo fa fb:DF):DF:=fun st=>match fo st with
 | .ok o=>(match eV (some (some o)) with
  | some z=>(match fa st with
   | .ok k=>(match fb st with
    | .ok d=>yE z.2 k d
    | .ex c p=>.ex c p
    | .bad=>.bad)
   | .ex c p=>.ex c p
   | .bad=>.bad)
  | none=>.bad)
 | .ex c p=>.ex c p
 | .bad=>.bad
theorem find_none{ps:List SP}{l:List (List (List Int)×D×D)}(h:ps.map (·.1)=l.map (·.1))(hf:l.find? (fun z=>decide (z.1=ks))=none):atKey ps ks=none:=by
 have e:=yC h ks
 cases hq:atKey ps ks with
 | none=>rfl
 | some p=>
  rw[hq,x9] at e
  obtain ⟨z,zm,zd⟩:=kN.mp e.symm
  have:=M1.mp hf z zm
  exact aI4 zd this
theorem ak4(h:isN d=true):gM d=true:=by cases d <;> first | (cases h;done) | rfl
theorem Iw{apos:Pos}(hu:X.A.units+2 < cLine)(ho:PE X o (tD X.K (cA Cb gl) G0 Γ E fo κo))(ha:PE X a (tD X.K (cA Cb gl) G0 Γ E fa aK))(hb:PE X b (tD X.K (cA Cb gl) G0 Γ E fb cW))
  (su:nc o "get" X.env (eval o X.env)=eval o X.env:=by rfl)
  (Nq:((backTo iN (bL [a,b] X.env)).all (fun x=>!x.1)&&(backToKw iN (keywordEach [] X.env)).all (fun x=>x.1.isSome)&&decide ([a,b].length+([]:List Keyword).length+(if ([]:List Keyword).isEmpty then 0 else 1) < 30))=true:=by rfl)
  (sA:(apos.endLine==iN.line)=true:=by rfl) (h1:bL [a,b] X.env=(false,eval a X.env)::bL [b] X.env:=by rfl) (h2:bL [b] X.env=(false,eval b X.env)::bL [] X.env:=by rfl) (rf:(backTo iN (bL [b] X.env)).any (·.1)=false:=by rfl) :
  PE X (.Call (.Attribute o "get" apos) [a,b] [] iN) (tD X.K (cA Cb gl) G0 Γ E (tF fo fa fb) .new):=(OZ MR rfl (Se hu) ho (iU ha (iU hb m7 h2) h1) su Nq sA h1 rf).imp fun σ H Q zz=>by
 obtain ⟨A,st,r,q⟩:=zz
 walk_at"."
 unfold tF at q
 cases ho:fo st with
 | bad=>rw[ho] at q;exact q
 | ex c p=>rw[ho] at q;exact q
 | ok d0=>
  rw[ho] at q
  walk_at"*"
  cases hz:eV (some (some d0)) with
  | none=>rw[hz] at q;exact q.elim
  | some zz=>
  rw[hz] at q
  obtain ⟨tV,hl⟩:=jH hz
  obtain ⟨ds,l⟩:=zz
  dsimp only at q hl tV
  cases tV
  intro x H1 e1 w1
  obtain ⟨p0,oo,ps,vs,rfl,g1,g2,g3,g5,g4,g6,_⟩:=l7 w1.rep hl
  refine⟨⟨p0,oo,ps,rfl,g2⟩,A,st,r.mono e1,?_⟩
  cases h1:fa st with
  | bad=>rw[h1] at q;exact q
  | ex c p=>rw[h1] at q;exact fun H' e'=>q H' (e1.trans e')
  | ok k=>
   rw[h1] at q
   walk_at"*"
   intro y H2 e2 w2
   refine⟨A,st,r.mono (e1.trans e2),?_⟩
   cases h2:fb st with
   | bad=>rw[h2] at q;exact q
   | ex c p=>rw[h2] at q;exact fun H' e'=>q H' ((e1.trans e2).trans e')
   | ok d=>
    rw[h2] at q
    walk_at"*"
    intro z H3 e3 w3
    cases hg:yE l k d with
    | bad=>rw[hg] at q;exact q.elim
    | ex c p=>exact aI4 hg P8
    | ok x=>
    rw[hg] at q
    obtain ⟨ks,hk,hn,rfl⟩:=P7 hg
    have yk:=e2.trans e3
    obtain ⟨b',rfl,hb⟩:=jI (w2.later e3).rep hk
    refine⟨p0,b',oo,ps,ks,_,z,rfl,rfl,yk _ _ g2,fun p m=>(g3 p m).mono yk,⟨g4.1,fun w m=>(g4.2 w m).mono yk⟩,hb,fun zk=>?_⟩
    have fin:∀v,Rep X.K (cA Cb gl) H3 (Sf l ks d) v->Q v H3:=fun v rv=>q v H3 (e1.trans yk) (.flat r (e1.trans yk) (ak4 hn) rv _)
    cases hf:l.find? (fun z=>decide (z.1=ks)) with
    | some w=>
     obtain ⟨p,v,f1,f2,f3,_⟩:=C0 zk g1 g6 hf
     refine⟨v,fun p' EF=>?_,fun hx=>?_,fin v ?_⟩
     ·rw[f1] at EF;cases EF;exact f2
     ·rw[f1] at hx;cases hx
     ·unfold Sf;rw[hf];exact f3.same yk _
    | none=>
     have hx:=find_none zk hf
     refine⟨z,fun p' EF=>?_,fun _=>rfl,fin z ?_⟩
     ·rw[hx] at EF;cases EF
     ·unfold Sf;rw[hf];exact w3.rep
end
def Ka(ks:List (List Int))(d:D):List D->List D
 | k::v::r=>k::(if mT k=some ks then d else v)::Ka ks d r
 | l=>l
def putD(ds:List D)(l:List (List (List Int)×D×D))(ks:List (List Int))(kd d:D):List D:=if (l.map (·.1)).any (fun k=>decide (k=ks))=true then Ka ks d ds else ds++[kd,d]
def P9(i:Nat)(st:ig)(z:List D×List (List (List Int)×D×D))(kd d:D):Out:=match mT kd with
 | some ks=>if z.2.length<=5000/\UA d=true then .nx (st.set i (some (.bM 2 (putD z.1 z.2 ks kd d)))) else .bad
 | none=>.bad
def vF(i:Nat)(fk f:DF):DS:=fun st=>match f st with
 | .ok d=>(match eV st[i]? with
  | some z=>(match fk st with
   | .ok kd=>P9 i st z kd d
   | .ex c p=>.ex c p st
   | .bad=>.bad)
  | none=>.bad)
 | .ex c p=>.ex c p st
 | .bad=>.bad
def pv(ks:List (List Int))(v:V):List SP->List V->List V
 | p::ps,w::vs=>(if p.1=ks then v else w)::pv ks v ps vs
 | _,_=>[]
theorem Iz{K:aD}{C:Cfg}{H:Hp}{ks:List (List Int)}{d:D}{v:V}{u:aq}(wv:Rep K C H d v)(ru:RelV v u):∀{ps:List SP} {vs:List V} {ds:List D} {l:List (List (List Int)×D×D)},Vals vs (ps.map (·.2.2))->aM K C H ds (k8 ps vs)->eF ds=some l->ps.map (·.1)=l.map (·.1)->
  Vals (pv ks v ps vs) ((ps.map (putAt ks u)).map (·.2.2))/\aM K C H (Ka ks d ds) (k8 (ps.map (putAt ks u)) (pv ks v ps vs))/\∀w∈pv ks v ps vs,w=v\/w∈vs
 | [],_,ds,l,rel,q,h,e=>by
  cases rel
  have:l=[]:=by simpa using e.symm
  subst this
  rw[show k8 [] []=[] from rfl] at q
  cases ds with
  | nil=>exact⟨.nil,q,fun w m=>nomatch m⟩
  | cons k ds=>rw[aM] at q;obtain ⟨_,_,z,_⟩:=q;cases z
 | p::ps,vs,ds,l,rel,q,h,e=>by
  rw[aZ] at rel
  cases rel with
  | @cons w _ vs _ r1 t1=>
   rw[Al] at q
   cases ds with
   | nil=>rw[aM] at q;cases q
   | cons k ds=>
    cases ds with
    | nil=>rw[aM] at q;obtain ⟨_,_,z,_,q⟩:=q;cases z;rw[aM] at q;cases q
    | cons x ds=>
     rw[eF] at h
     cases ha:mT k with
     | none=>rw[ha] at h;cases h
     | some a=>
      cases hr:eF ds with
      | none=>rw[ha,hr] at h;cases h
      | some rr=>
       rw[ha,hr] at h
       cases h
       rw[aZ,aZ] at e
       injection e with e1 e2
       rw[aM] at q
       obtain ⟨_,_,z,q1,q⟩:=q
       cases z
       rw[aM] at q
       obtain ⟨_,_,z,q2,q⟩:=q
       cases z
       obtain ⟨i1,i2,i3⟩:=Iz wv ru t1 q hr e2
       have e1:p.1=a:=e1
       rw[Ka,ha,pv,aZ,aZ]
       by_cases c:p.1=ks
       ·have c':some a=some ks:=by rw[<- e1,c]
        rw[aH2 c,aH2 c',show putAt ks u p=(p.1,p.2.1,u) by unfold putAt;rw[aH2 c]]
        exact⟨.cons ru i1,.cons q1 (.cons wv i2),fun y m=>(bP.mp m).elim .inl fun m=>(i3 y m).imp id (.tail _)⟩
       ·have c':¬ some a=some ks:=fun z=>c (by rw[e1];injection z)
        rw[aH3 c,aH3 c',show putAt ks u p=p by unfold putAt;rw[aH3 c]]
        exact⟨.cons r1 i1,.cons q1 (.cons q2 i2),fun y m=>(bP.mp m).elim (fun z=>.inr (z ▸ .head _)) fun m=>(i3 y m).imp id (.tail _)⟩
section
theorem Sh{i:Nat}{n:Bool}{x:Str}{p1 p2:Pos}{ix:bH}{fi:DF}(hu:X.A.units+2 < cLine)(hx:PE X (.Name x p1) (uC i))(hi:PE X ix (tD X.K (cA Cb gl) G0 Γ E fi κ'))(he:PE X e (tD X.K (cA Cb gl) G0 Γ E f κ))(na:qw Γ=true)(hk:Γ[i]?=some (.own n):=by rfl)(hl:κ = .new:=by rfl)
  (ha:∀v,assign (.Subscript (.Name x p1) ix p2) X.env v=(do
   let ov <- holding [v] (eval (.Name x p1) X.env)
   let iv <- holding [v,ov] (eval ix X.env)
   standAt p2
   holding [v,ov,iv] (setItem ov iv v)
   release [v,ov,iv] []):=by intro _;rfl)
  (hs:swapsWithSole [uA (.Name x p1) ix p2] e pos.line X.env=pure false:=by rfl) (hw:swappedStores [uA (.Name x p1) ix p2] e X.env=pure none:=by rfl)
  (h1:(rT [uA (.Name x p1) ix p2] X.env).map (·.2)=[assign (.Subscript (.Name x p1) ix p2) X.env]:=by rfl) :
  PS X (.Assign [.Subscript (.Name x p1) ix p2] e pos) (qi X.K (cA Cb gl) G0 Γ E k6 (vF i fi f)):=(FQ he (Nc hx hi (Uz hu) ha) hs hw h1).imp fun D σ H zz=>by
 subst hl
 obtain ⟨A,st,r,q⟩:=zz
 walk_at"."
 unfold vF at q
 cases hf:f st with
 | bad=>rw[hf] at q;exact q
 | ex c p=>rw[hf] at q;exact fun H' e'=>q σ H' A (r.mono e') (aI e')
 | ok d=>
  rw[hf] at q
  walk_at"*"
  cases nZ:eV st[i]? with
  | none=>rw[nZ] at q;exact q.elim
  | some z=>
   obtain ⟨nZ,OS⟩:=jH nZ
   obtain ⟨ds,l⟩:=z
   rw[nP nZ OS] at q
   dsimp only at q nZ OS
   intro v H1 e1 w1
   obtain ⟨p,h1,h2,h3,t2,xs,ow,h5⟩:=r.BO hk nZ rfl
   refine⟨_,h1,A,st,r.mono e1,?_⟩
   cases hi:fi st with
   | bad=>rw[hi] at q;exact q
   | ex c p=>rw[hi] at q;exact fun H' e'=>q σ H' A (r.mono (e1.trans e')) (aI (e1.trans e'))
   | ok kd=>
    rw[hi] at q
    walk_at"*"
    intro vi H2 e2 w2
    unfold P9 at q
    cases BZ:mT kd with
    | none=>rw[BZ] at q;exact q.elim
    | some ks=>
     rw[BZ] at q
     walk_at"*"
     by_cases hc:l.length<=5000/\UA d=true
     ·rw[aH2 hc] at q
      have nJ:=e1.trans e2
      have r':=r.mono nJ
      have S:aH (eh n G0 A H) (eh n G0 A H2):=by
       unfold eh;cases n
       ·exact aI nJ
       ·exact bO (aI nJ)
      have S2:aH (eh n G0 A H2) H2:=by
       unfold eh;cases n
       ·exact aL _ _
       ·exact(dw _ _).trans (aL _ _)
      obtain ⟨ob,ps,vs,rfl,rel,hp,kp,pl⟩:=ow
      have q5:aM X.K (cA Cb gl) (eh n G0 A H2) ds (k8 ps vs):=h5.same S _
      have hlen:vs.length=ps.length:=by rw[pJ rel,bh]
      obtain ⟨_,i2,_,_⟩:=mU hlen q5 OS
      have QC:∀x∈ps,jG X.K (eh n G0 A H2) x.1 x.2.1:=fun x m=>(kp x m).mono S
      obtain ⟨b,rfl,hb⟩:=jI w2.rep BZ
      have wk:Rep X.K (cA Cb gl) (eh n G0 A H2) kd (.ref b):=by
       unfold eh;cases n
       ·exact Rep.part r'.Dp _ (tw BZ) w2.rep
       ·exact Rep.part r'.sU _ (tw BZ) w2.rep
      obtain ⟨b2,Um,hbk⟩:=jI wk BZ
      cases Um
      have WI:=w1.later e2
      have wv:Rep X.K (cA Cb gl) (eh n G0 A H2) d v:=WI.Uw r nJ (by cases n <;> rfl)
      have plv:∀l',v = .ref l'->∃ys,eh n G0 A H2 l'=some (.lst ys):=fun l' zl=>by
       cases d with
       | lst es=>
        obtain ⟨p',z,h0,ys,hy,_⟩:=WI.2.1 rfl
        rw[zl] at z;cases z
        have nA:l'∉A:=fun m=>by obtain ⟨o,w,_⟩:=r.lists l' m;rw[h0] at w;cases w
        have hy2:H2 l'=some (.lst ys):=dw _ _ _ _ hy
        refine⟨ys,?_⟩
        unfold eh;cases n
        ·show er H2 A l'=_;rw[b9 nA];exact hy2
        ·show nw G0 (er H2 A) l'=_;rw[kX (r.g0.free h0),b9 nA];exact hy2
       | int k=>rw[Rep] at wv;rw[wv] at zl;cases zl
       | _=>cases hc.2
      have hlp:l.length=ps.length:=by have:=i2.1;rw[bh] at this;exact this
      refine⟨p,b,ob,ps,ks,_,rfl,rfl,nJ _ _ hp,fun x m=>(QC x m).mono S2,⟨i2.1,fun z m=>(i2.2 z m).mono S2⟩,hb,?_,fun u Oa ru zk=>?_⟩
      ·rw[gn];have:=hc.1;lia
      ·have fin:∀{Gx Jt vs'},putD ds l ks kd d=Gx->storedH ps ks b u=Jt->Vals vs' (Jt.map (·.2.2))->(∀x∈Jt,jG X.K (eh n G0 A H2) x.1 x.2.1)->(∀w∈vs',w=v\/w∈vs)->aM X.K (cA Cb gl) (eh n G0 A H2) Gx (k8 Jt vs')->D.nx _ _:=fun {Gx Jt vs'} z1 z2 w1 w2 w3 w4=>by
        subst z1;subst z2
        have own:lC X.K (cA Cb gl) (eh n G0 A H2) (upd H2 p (.ext (DY p Oa (storedH ps ks b u)))) p (.bM 2 (putD ds l ks kd d)):=by
         refine⟨rfl,_,⟨_,_,vs',rfl,w1,bS,w2,fun l' m=>?_⟩,w4⟩
         rcases w3 _ m with e | m
         ·exact plv l' e.symm
         ·obtain ⟨ys,z⟩:=pl l' m;exact⟨ys,S _ _ z⟩
        obtain ⟨r2,e3⟩:=r'.RI na hk nZ h1 h2 h3 rfl rfl own
        exact q _ _ A r2 ((aI nJ).trans e3)
       cases hn:atKey ps ks with
       | none=>
        refine fin (aH3 fun z=>by rw[<- yC zk,hn] at z;cases z) (AK hn b u) (vs':=vs++[v]) (by rw[iC];exact Vals.snoc rel ru) (fun x m=>?_) (fun w m=>?_) (by rw[Am hlen];exact aM.GK q5 (.cons wk (.cons wv (by rw[aM]))))
        ·rcases gy.mp m with m | m
         ·exact QC x m
         ·obtain rfl:=fJ.mp m;exact hbk
        ·rcases gy.mp m with m | m
         ·exact .inr m
         ·exact .inl (fJ.mp m)
       | some p0=>
        obtain ⟨y1,y2,y3⟩:=Iz (ks:=ks) wv ru rel q5 OS zk
        refine fin (aH2 (by rw[<- yC zk,hn];rfl)) (storedH_old hn b u) y1 (fun x m=>?_) y3 y2
        obtain ⟨y,ym,rfl⟩:=aS.mp m
        unfold putAt
        split
        ·exact QC y ym
        ·exact QC y ym
     ·rw[aH3 hc] at q;exact q.elim
end
end Dm
end ak0
section aA8
namespace Hk
open PySem
section
theorem Kc{Q:aq->az->Prop}(hd:(d==oz)=false)(ho:s.heap.get? d=some od)(hx:od.ExactDict)(j8:od.data = .dict es ep)
  (hQ:Q (.ref s.heap.objs.size) { s with heap:=s.heap.push { cls:=.type "dict_keyiterator",data:=.fields #[.ref d,.int 0 0,.int es.size 0,.int ep 0] } }):aB (aC prog w) A (pyIter (.ref d)) Q E s:=by
 have hT:s.TypeIs (.ref d) "dict":=⟨od,ho,hx.1⟩
 refine AI hT MS (gV MS hT F.entry_dict_iter ?_ (F.args_dict_iter_1 _))
 unfold Builtin.«dict.__iter__»
 refine ah ?_
 unfold Builtin.Dict.dictSlotNone
 refine ah (ER hT ?_)
 show aB _ _ (pure (eW d)) _ _ s
 refine aA ?_
 show aB _ _ (xx d>>=_) _ _ s
 unfold xx
 rw[aH3 (by rw[hd];exact iK)]
 refine ah (aA (ah (jR ho j8 (ah (oF ho j8 ?_)))))
 refine ah (nV (aA ⟨_,rfl,"dict_keyiterator",_,⟨_,eN _ rfl,rfl⟩,xw.lookup,?_⟩))
 simpa[rawInt] using hQ
theorem Ke{Q:Option aq->az->Prop}(hit:s.heap.IsKeyIter it d i es.size ep)(ho:s.heap.get? d=some od)(j8:od.data = .dict es ep)(hx:es[i]?=some e)
  (hQ:∀h',h'.IsKeyIter it d (i+1) es.size ep->gZ it s.heap h'->Q (some e.key) { s with heap:=h' }):aB (aC prog w) A (pyNext (.ref it)) Q E s:=by
 obtain ⟨o,YJ,hc,hd⟩:=id hit
 have iF:i < es.size:=(oN.mp hx).1
 have he:es[i]=e:=(oN.mp hx).2
 have K5:xy "dict_keyiterator" =false:=by decide
 unfold pyNext
 refine ah (oA (qL (name:=kP "__next__") hit.typeIs xw (gV xw hit.typeIs MT ?_ (MU _))))
 refine ah (aA (ah (ah ?_)))
 first | refine ah (AN hit.typeIs (aA ?_)) | refine ah (AO hit.typeIs (aA ?_))
 refine ah (u5 YJ hd ?_)
 simp only[K5,cZ,aI0]
 show aB _ _ (if (eW d==dY)=true then _ else _) _ _ s
 rw[aH3 (show ¬ ((eW d==dY)=true) from iK)]
 refine ah (aA (ah (jR ho j8 ?_)))
 rw[aH3 (by simp)]
 refine ah (aA (ah (oF ho j8 ?_)))
 rw[aH3 (by simp)]
 refine aA ?_
 simp only[show ¬ ((i:Int) < 0) from by omega,aI0,jV,xj iF,he]
 refine ah ?_
 first | refine ah (AN hit.typeIs (aA ?_)) | refine ah (AO hit.typeIs (aA ?_))
 refine ah (Li hit.typeIs ?_)
 show aB _ _ (setField (.ref it) 1 (rawInt ((i:Int)+1))>>=_) _ _ s
 refine ah (qK YJ hd (by simp) ?_)
 have BX:(s.heap.update it (Obj.mapFields (·.setIfInBounds 1 (rawInt ((i:Int)+1))))).IsKeyIter it d (i+1) es.size ep:=
  ⟨_,nh _ YJ (B6 (uz hd _)),(FA ..).trans hc,by rw[uz hd];simp[rawInt]⟩
 refine ah (je ?_)
 refine ah (Li (s:={ s with heap:=s.heap.update it (Obj.mapFields (·.setIfInBounds 1 (rawInt ((i:Int)+1)))) }) BX.typeIs ?_)
 show aB _ _ (pure e.key) _ _ _
 exact aA (aA ⟨_,rfl,aA (hQ _ BX (fj ..))⟩)
theorem Pa{Q:Option aq->az->Prop}(hh:A.handled=none)(hit:s.heap.IsKeyIter it d i es.size ep)(ho:s.heap.get? d=some od)(j8:od.data = .dict es ep)(hx:es.size<=i)
  (hQ:∀h',Heap.ExtBut it s.heap h'->Q none { s with heap:=h' }):aB (aC prog w) A (pyNext (.ref it)) Q E s:=by
 obtain ⟨o,YJ,hc,hd⟩:=id hit
 have K5:xy "dict_keyiterator" =false:=by decide
 unfold pyNext
 refine ah (oA (qL (name:=kP "__next__") hit.typeIs xw (gV xw hit.typeIs MT ?_ (MU _))))
 refine ah (aA (ah (ah ?_)))
 first | refine ah (AN hit.typeIs (aA ?_)) | refine ah (AO hit.typeIs (aA ?_))
 refine ah (u5 YJ hd ?_)
 simp only[K5,cZ,aI0]
 show aB _ _ (if (eW d==dY)=true then _ else _) _ _ s
 rw[aH3 (show ¬ ((eW d==dY)=true) from iK)]
 refine ah (aA (ah (jR ho j8 ?_)))
 rw[aH3 (by simp)]
 refine ah (aA (ah (oF ho j8 ?_)))
 rw[aH3 (by simp)]
 refine aA ?_
 simp only[show ¬ ((i:Int) < 0) from by omega,aI0,jV,qX hx]
 refine ah ?_
 first | refine ah (AN hit.typeIs (aA ?_)) | refine ah (AO hit.typeIs (aA ?_))
 show aB _ _ (setField (.ref it) 0 .none>>=_) _ _ s
 refine ah (qK YJ hd (by simp) ?_)
 show aB _ _ (newExc (.type "StopIteration") []>>=_) _ _ _
 refine ah ?_
 simp only[newExc,newTuple]
 refine ah (nV ?_ (by size_fits))
 refine ah (m:=u6 _ _) (u0 (a:=dY) (by first | rfl | (simp only[u6];rfl)) ?_)
 refine nV ?_ (by size_fits)
 simp only[raiseNew]
 refine ah (EJ ?_)
 rw[show A.in1.handled=none from hh]
 refine ah (aA (EK ?_))
 refine ah (qM (T:="StopIteration") (b:=true) ⟨_,eN _ rfl,rfl⟩ EL ?_)
 exact aA (hQ _ (((fj ..).extBut.push _).push _))
end
end Hk
end aA8
section ak6
namespace Dm
open PySem PySem.Spec PyProof.Rows L2
def ItK(a:av)(o:Obj)(ps:List SP):It:=
 ⟨fun i H=>H a=some (.ext (DY a o ps))/\i < ps.length,fun i H x H'=>∃p,ps[i]?=some p/\H'=H/\x = .ref p.2.1,fun i H=>H a=some (.ext (DY a o ps))/\ps.length<=i⟩
theorem GS{P:dh}{w:bN}{K:aD}{tg:bH}{a it:av}{o:Obj}{ps:List SP}{es:Array qN}{ep:Nat}(j8:o.data = .dict es ep)(Df:∀(P:dh) (w:bN),es.toList=ps.map (qm (Hk.k7 (intKind P w)))) :
  Turn P w K tg (ItK a o ps) [it] it (fun i h=>h.IsKeyIter it a i es.size ep) where
 mem:=by simp
 obj:=fun i h st b hb=>by
  obtain ⟨oi,he,_,hd⟩:=st
  obtain rfl:b=it:=by simpa using hb
  exact⟨_,he,fun v z=>by rw[hd] at z;cases z⟩
 keep:=fun i h h' st k=>st.at fun o e=>k it (by simp) o e
 item:=by
  walk_at"4"
  subst hP hw hK
  obtain ⟨ha,hi⟩:=hg
  obtain ⟨⟨Ie,hz,ho,hx,_⟩,_,_⟩:=(show gC X.prog X.w H s.heap a (.ext (DY a o ps)) from I.fB a _ ha)
  obtain ⟨p,hp⟩:∃p,ps[i]?=some p:=⟨ps[i],dF hi⟩
  have hen:es[i]?=some (qm (Hk.k7 (intKind X.prog X.w)) p):=by rw[entry_at (Df X.prog X.w),hp];rfl
  obtain ⟨f0,f1,f2,f3,f4,f5⟩:=hf it (by simp)
  refine Hk.Ke st ho j8 hen fun h' BX hs=>⟨_,rfl,?_⟩
  obtain ⟨oi,he,zT,hd⟩:=id BX
  refine HE he zT hd (by decide) ?_
  exact⟨.ref p.2.1,H,I.turned (t':=s.toks) (fun b o hb q=>(hs.2 b hb).trans q) f0 f1 f3 f4 f5,rfl,⟨p,hp,rfl,rfl⟩,BX,fun b hb=>by
   obtain rfl:b=it:=by simpa using hb
   exact f0⟩
 done:=by
  walk_at"4"
  subst hP hw hK
  obtain ⟨ha,hi⟩:=hg
  obtain ⟨⟨Ie,hz,ho,hx,_⟩,_,_⟩:=(show gC X.prog X.w H s.heap a (.ext (DY a o ps)) from I.fB a _ ha)
  obtain ⟨f0,f1,f2,f3,f4,f5⟩:=hf it (by simp)
  exact Hk.Pa (I.ok.hd hc) st ho j8 (by rw[oE (Df X.prog X.w)];exact hi) fun h' eb=>⟨rfl,I.turned (t':=s.toks) (fun b o hb e=>eb b o hb e) f0 f1 f3 f4 f5⟩
 self:=fun A i s Q E st h=>wpAny_pyIter_keyiter st h
def aA9(to:TE):TI:=fun σ H R=>to σ H fun x H1=>∃a o ps,x = .ref a/\H1 a=some (.ext (DY a o ps))/\R (ItK a o ps) H1
section
theorem Pb{to:TE}(ho:PE X o to):PI X tg o (aA9 to):=by
 intro pins s σ H R I h
 refine gS (ho pins s σ H _ I h) fun v s1 zz=>?_
 obtain ⟨x,H1,I1,r1,a,oo,ps,rfl,hx,q1⟩:=zz
 cases r1
 obtain ⟨⟨Ie,hz,hg,sd,es,ep,j8,Df,hn⟩,_,_⟩:=(show gC X.prog X.w H1 s1.heap a (.ext (DY a oo ps)) from I1.fB a _ hx)
 refine Hk.Kc Ie hg sd j8 ?_
 refine⟨_,[_],_,_,H1,rfl,I1.kept (t':=s1.toks) (fun b u z=>bQ _ z),GS j8 Df,⟨_,eN _ rfl,rfl,rfl⟩,fun b hb=>?_,q1⟩
 have pW:s1.heap.objs.size<=b:=by
  obtain rfl:b=_:=by simpa using hb
  exact bf _
 exact I1.Jd pW (I1.fB.fresh pW)
def Si(f:DF):DI:=fun st=>match f st with
 | .ok d=>(match eV (some (some d)) with | some y=>.ok (y.2.map fun t=>t.2.1) | none=>.bad)
 | .ex c p=>.ex c p
 | .bad=>.bad
theorem Sj(ha:PE X o (tD X.K (cA Cb gl) G0 Γ E f κ))(l:z=true->κ.le .old=true):PI X tg o (QA X.K (cA Cb gl) G0 Γ E z (Si f)):=(Pb ha).imp fun σ H Q zz=>by
 obtain ⟨A,st,r,q⟩:=zz
 walk_at"."
 unfold Si at q
 cases hf:f st with
 | bad=>rw[hf] at q;exact q
 | ex c p=>rw[hf] at q;exact q
 | ok d=>
  rw[hf] at q
  walk_at"*"
  intro v H1 e1 w
  cases hy:eV (some (some d)) with
  | none=>rw[hy] at q;exact q.elim
  | some y=>
   rw[hy] at q
   obtain ⟨hd,P6⟩:=jH hy
   obtain ⟨ds,lp⟩:=y
   cases hd
   dsimp only at q P6
   have w':Rep X.K (cA Cb gl) (er H1 (zB z A)) (.bM 2 ds) v:=by
    unfold zB
    cases z with
    | true=>exact w.le r e1 (κ':=.old) (l rfl)
    | false=>rw[aH3 (by decide),mw];exact w.rep
   obtain ⟨a,oo,ps,vs,rfl,g1,g2,g3,g5,g4,g6,g7⟩:=l7 w' P6
   have BB:ps.length=lp.length:=by rw[<- g4.1,bh]
   refine⟨a,oo,ps,rfl,aL _ _ _ _ g2,q _ _ e1 fun i H3 A3 e3 nA=>⟨fun d hd=>?_,fun hd=>?_⟩⟩
   ·rw[dm] at hd
    cases tV:lp[i]? with
    | none=>rw[tV] at hd;cases hd
    | some t=>
     rw[tV] at hd;cases hd
     have hi:i < ps.length:=by rw[BB];exact(gz.mp tV).1
     have ga:H3 a=some (.ext (DY a oo ps)):=(e3.trans (aL _ _)) _ _ g2
     refine⟨⟨ga,hi⟩,fun x H' n8=>?_⟩
     obtain ⟨p,hp,hH,ex⟩:=n8
     subst hH ex
     obtain ⟨v2,hv2,rv2⟩:=g7.get' (show (lp.map (·.2.1))[i]?=some t.2.1 by rw[dm,tV];rfl)
     rw[dm,hp] at hv2;cases hv2
     exact⟨.refl _,rv2.same e3 _⟩
   ·rw[dm] at hd
    have hn:lp[i]?=none:=by cases tV:lp[i]? with | none=>rfl | some t=>rw[tV] at hd;cases hd
    exact⟨(e3.trans (aL _ _)) _ _ g2,by rw[BB];exact nv.mp hn⟩
end
end Dm
end ak6
section aB0
namespace Dm
open PySem PyProof.Rows L2 HT PySem.SeqAt
open PySem.AutoSeq1 (wpAny_loadPart')
open PySem.MeetsSeq PySem.MeetsSeq2 PySem.MeetsSeq3
abbrev lob(d:Option av)(us:Array aq)(m:Nat)(z:Array (Option aq)):Obj:={ cls:=.type "list",dict:=d,data:=.seq us m,slots:=z }
theorem IA{us vs:Array aq}(same:us.size=vs.size):∀(f j:Nat) (xs ys:List D),us.size=j+f->
  Meets (Builtin.«list.__eq__.loop» ⟨[.ref p,.ref q,rawInt j,rawInt 0],[]⟩) (fun A R s=>s.heap.get? p=some (lob d us m z)/\s.heap.get? q=some (lob d' vs m' z')/\PL A.in1 s (us.toList.drop j) (vs.toList.drop j) xs ys/\R (.ok (.ret (.bool (lexLt (jZ xs) (jZ ys))))) s)
 | 0,j,xs,ys,e=>fun prog w A R s hh=>by
  obtain ⟨h0,g0,d0,t0,o0⟩:=s
  obtain ⟨hp,hq,P,hR⟩:=hh
  rw[Fp (by rw[dB];lia),Fp (by rw[dB];lia)] at P
  cases P
  wp_walk using jQ hp,jQ hq
  rw[show us[((j:Nat):Int).toNat]?=none by rw[jV];exact qX (by lia),show vs[((j:Nat):Int).toNat]?=none by rw[jV];exact qX (by lia)]
  wp_walk using jQ hp,jQ hq
  rw[jZ,iM] at hR
  show R (.ok (.ret (.bool (decide (us.size < vs.size))))) _
  rw[aH5 (by lia)]
  exact hR
 | f+1,j,xs,ys,e=>fun prog w A R s hh=>by
  obtain ⟨h0,g0,d0,t0,o0⟩:=s
  obtain ⟨hp,hq,P,hR⟩:=hh
  have ju:j < us.size:=by lia
  have jv:j < vs.size:=by lia
  have eu:us[((j:Nat):Int).toNat]?=some us[j]:=by rw[jV];exact xj ju
  have ev:vs[((j:Nat):Int).toNat]?=some vs[j]:=by rw[jV];exact xj jv
  rw[ug (show j < us.toList.length by rw[dB];exact ju),ug (show j < vs.toList.length by rw[dB];exact jv)] at P
  cases P with
  | @cons _ _ x0 y0 _ _ sI HS q1 q2 q3 q4=>
   rw[Mi] at q1 q2
   rw[jZ,jZ,wj q3] at hR
   wp_walk using jQ hp,jQ hq
   rw[eu,ev]
   refine ah (q1 prog w _ _ ?_)
   by_cases c:fl x0=fl y0
   ·rw[aH2 c] at hR
    rw[aH4 c]
    wp_walk
    rw[show ((j:Int)+1)=((j+1:Nat):Int) from rfl]
    refine⟨wM plain_eq_loop _,lS entry_eq_loop ?_⟩
    rw[r8 plain_eq_loop _]
    exact IA same f (j+1) sI HS (by lia) prog w A R _ ⟨hp,hq,q4,hR⟩
   ·rw[aH3 c] at hR
    rw[aH5 c]
    wp_walk using jQ hp,jQ hq
    rw[eu,ev]
    refine ah (q2 prog w _ _ ?_)
    wp_walk
    simpa using hR
theorem Kf{us vs:Array aq}(same:us.size=vs.size)(xs ys:List D) :
  Meets (Builtin.«list.__lt__» ⟨[.ref p,.ref q],[]⟩) (fun A R s=>s.heap.get? p=some (lob d us m z)/\s.heap.get? q=some (lob d' vs m' z')/\PL A.in1 s us.toList vs.toList xs ys/\R (.ok (.ret (.bool (lexLt (jZ xs) (jZ ys))))) s):=fun prog w A R s hh=>by
 obtain ⟨h0,g0,d0,t0,o0⟩:=s
 obtain ⟨hp,hq,P,hR⟩:=hh
 have sub:=AutoSeq1.sub_list_list
 wp_walk using jQ hp,jQ hq
 refine⟨wM plain_eq_loop _,lS entry_eq_loop ?_⟩
 rw[r8 plain_eq_loop _]
 exact IA same us.size 0 xs ys (kK _).symm prog w A R _ ⟨hp,hq,P,hR⟩
section
theorem WL{A:bY}(sh:gk xs ys=true)(n:HU xs=true)(hu:fG s.heap (.lst xs) u)(hv:fG s.heap (.lst ys) v)(hr:A.units+kr xs+1 < cLine):VU A s u v (lexLt (jZ xs) (jZ ys)):=by
 rw[fG] at hu hv
 refine bF hu fun a it bx t1 p1=>?_
 clear hu
 walk_at"$"
 refine bF hv fun b Uk bx t2 p2=>?_
 clear hv
 walk_at"$"
 obtain ⟨⟨cls,dd,data,sl⟩,n1,ho,hc,hd,he⟩:=id t1
 obtain ⟨⟨ae3,YA,data2,YB⟩,n2,Ul,KP,hd2,QB⟩:=id t2
 simp only at hc hd he KP hd2 QB
 subst hc hd he KP hd2 QB
 have P:=Ro xs ys (A:=A.in1) sh n p1 p2 (by show A.units+1+_ < _;lia)
 intro prog w E Q hq
 have BB:it.size=Uk.size:=by simpa using P.len
 exact La (op:=.Lt) ⟨_,ho,rfl⟩ ⟨_,Ul,rfl⟩ PySem.F.slot_list_lt PySem.F.entry_list_lt (PySem.F.args_list_lt_2 _ _) (Kf BB xs ys)
  ⟨ho,Ul,P,show Value.bool (lexLt (jZ xs) (jZ ys))≠Value.notImplemented/\Q _ s from ⟨(fun x=>nomatch x),hq⟩⟩ (by lia)
end
end Dm
end aB0
section ak7
namespace Dm
open PySem PySem.W PyProof.Rows L2 HT PySem.SeqAt So
def SkT(ds:List D):Prop:=∀a∈ds,∀b∈ds,∃i j xs ys,a = .tup [.int i,.lst xs]/\b = .tup [.int j,.lst ys]/\HU xs=true/\cz xs=true/\kr xs<=50/\(i=j->gk xs ys=true)
theorem wB(i:Int)(xs:List D):fl (.tup [.int i,.lst xs])=i::jZ xs:=by simp[fl,jZ]
theorem Sl(h:SkT ds)(ha:a∈ds)(hb:b∈ds)(e:fl a=fl b):a=b:=by
 obtain ⟨i,j,xs,ys,rfl,rfl,_,_,_,sh⟩:=h a ha b hb
 rw[wB,wB] at e
 injection e with e1 e2
 subst e1
 rw[sJ xs ys (sh rfl) e2]
section
theorem Sm{C:Bool->az->Prop}(k:SkT ds)(hu:A.units+60 < cLine)(p:bG s.heap ds vs)(hi:i < ds.length)(hj:j < ds.length)(hc:C (decide (rk ds i < rk ds j)) s) :
  aB (aC prog w) A (keyLt' (tuples' true) (vs.getD i dY) (vs.getD j dY)) C (fun _ _=>False) s:=by
 rw[<- HV ds hi] at hc
 obtain ⟨ai,mi⟩:=lG p hi
 obtain ⟨aj,mj⟩:=lG p hj
 generalize ds.getD i .cY=x at hc ai mi
 generalize ds.getD j .cY=y at hc aj mj
 obtain ⟨m,n,xs,ys,rfl,rfl,nx,fx,dx,sh⟩:=k x mi y mj
 obtain ⟨_,_,_,_,e1,_,_,fy,_,_⟩:=k _ mj _ mj
 injection e1 with e1
 injection e1 with _ e1
 injection e1 with e1
 injection e1 with e1
 subst e1
 rw[wB,wB] at hc
 rw[fG] at ai aj
 refine bF ai fun a it e1 sf p1=>?_
 clear ai
 obtain ⟨o1,q1,_,n1,d1⟩:=sf
 refine bF aj fun b' Uk e2 sf p2=>?_
 clear aj
 obtain ⟨o2,q2,_,n2,d2⟩:=sf
 rw[e1,e2]
 rw[bG] at p1 p2
 obtain ⟨v0,r0,er0,a0,p1⟩:=p1
 obtain ⟨v1,r1,er1,a1,p2⟩:=p2
 rw[bG] at p1 p2
 obtain ⟨v2,r2,rfl,a2,p1⟩:=p1
 obtain ⟨v3,r3,rfl,a3,p2⟩:=p2
 rw[bG] at p1 p2
 subst p1;subst p2
 rw[fG] at a0 a1
 obtain ⟨t,rfl⟩:=a0
 obtain ⟨t',rfl⟩:=a1
 have sz:it.size=Uk.size:=by rw[<- dB,er0,<- dB,er1];rfl
 refine kat_lt q1 d1 q2 d2 ?_
 rw[er0,er1]
 have E0:EqAt A s (.int m t) (.int n t') (decide (m=n)):=by
  have:=oZ (s:=s) (.int m) (.int n) (A:=A) (by rw[flat] <;> simp) (by rw[flat] <;> simp) (u:=.int m t) (v:=.int n t') (by rw[fG];exact⟨t,rfl⟩) (by rw[fG];exact⟨t',rfl⟩) (by simp[dep];lia)
  rw[iO] at this
  exact this
 refine kat_cons (E0 prog w _ _ (kat_go (fun c=>kat_yes ?_) fun c=>kat_no ?_))
 ·have c:=aH8 c
  subst c
  rw[eT,aH2 rfl] at hc
  have sh:=sh rfl
  have E1:EqAt A s v2 v3 (decide (jZ xs=jZ ys)):=by
   have:=oZ (s:=s) (.lst xs) (.lst ys) (A:=A) (by rw[flat];exact fx) (by rw[flat];exact fy) a2 a3 (by rw[dep];lia)
   rwa [iO,wg xs ys sh] at this
  refine kat_cons (E1 prog w _ _ (kat_go (fun c=>kat_yes ?_) fun c=>kat_no ?_))
  ·have c:=aH8 c
   rw[c,sN] at hc
   show C (decide (it.size < Uk.size)) s
   rw[aH5 (by lia)]
   exact hc
  ·refine kat_one _ _ (WL sh nx a2 a3 (by lia) prog w _ _ (show PySem.W.BoolBack C (.bool (lexLt (jZ xs) (jZ ys))) s from hc))
 ·have c:=aI6 c
  rw[eT,aH3 c] at hc
  exact oneLt_int hc
theorem sgT(sk:SkT es)(l:es.length<=cK)(hu:A.units+64 < cLine):SG prog w A es (tuples' true) vs:=
 ⟨l,fun a ha b hb=>Sl sk ha hb,fun A' s e h2 p=>⟨fun E R hR=>D7 (.oS fun d hd=>let ⟨i,_,xs,_,e,_⟩:=sk d hd d hd;⟨i,_,e⟩) h2 p hR,fun i j C=>Sm sk (by rw[e];lia) p⟩⟩
end
end Dm
end ak7
section ak8
namespace Dm
open PySem PyProof.Rows L2 PySem.SeqAt Ts
section
def skB(ds:List D):Bool:=ds.all fun a=>ds.all fun b=>match a,b with
 | .tup [.int i,.lst xs],.tup [.int j,.lst ys]=>HU xs&&cz xs&&decide (kr xs<=50)&&(decide (i≠j) || gk xs ys)
 | _,_=>false
theorem WM(h:skB ds=true):SkT ds:=fun a ha b hb=>by
 unfold skB at h
 have h:=gI.mp (gI.mp h a ha) b hb
 split at h
 ·rename_i i xs j ys
  simp only[cu,oO,aH7] at h
  refine⟨i,j,xs,ys,rfl,rfl,h.1.1.1,h.1.1.2,h.1.2,fun e=>?_⟩
  rcases h.2 with z | z
  ·exact aI4 e z
  ·exact z
 ·cases h
end
end Dm
end ak8
section ak9
namespace Lm
open PySem PySem.Spec PySem.W PyProof.Rows PySem.Calls
abbrev body(x:Str)(p1 p2 p3 p4 p5 p6:Pos)(c1:Nat):bH:=.Tuple [.UnaryOp .USub (.Call (.Name "len" p1) [.Name x p2] [] p3) p4,.Name x p5] c1 p6
section
theorem Pc{Q:aq->az->Prop}(ho:s.heap.get? f=some o)(hd:o.data = .func (kla_fn nm qual params (body x p1 p2 p3 p4 p5 p6 c1) scope [] pm cv Kg))(WN:s.heap.CodeRec cv qual)
  (hco:scope.isCoroutine=false) (aB1:scope.isGenerator=false) (hk:scope.kind = .function) (hx:scope.names.lookup x=some .local) (hln:scope.names.lookup ("len" : Str)=some .globalImplicit)
  (Pe:∀(s:az) (u:aq),BindsTo s (kla_fn nm qual params (body x p1 p2 p3 p4 p5 p6 c1) scope [] pm cv Kg) ⟨[u],[]⟩ [(x,u)]) (EA:(x==("__debug__" : Str))=false)
  (sR:A.depth < recursionLimit) (lim:s.heap.NoLimit) (hg:s.heap.Ns dz mg) (hm:mg "len" =none) (hb:s.heap.Ns builtinsNs mb) (hmb:mb "len" =some (.builtin "len")) (hv:s.heap.IsList v items) (aB2:(items.size:Int) < 2 ^ 63)
  (h:∀h' tk t z,(∀b o,s.heap.get? b=some o->h'.get? b=some o)->s.heap.objs.size<=t->h'.get? t=some (cj "tuple" #[.int (-(items.size:Int)) z,.ref v] 0)->Q (.ref t) { s with heap:=h',toks:=tk }) :
  aB (aC prog w) A (call (.ref f) [.ref v]) Q E s:=by
 refine AG (kla_callFunE sR ho hd hco aB1 rfl WN (Pe s (.ref v) _ _ _ _ ?_))
 refine L6 hk (fun y hy=>.inl ?_) fun env he s1 ic=>?_
 ·rw[fJ.mp hy];exact hx
 have hke:env.scope.kind = .function:=by rw[he];exact hk
 have hxe:env.kindOf x=some .local:=by rw[he];exact hx
 have hle:env.kindOf "len" =some .globalImplicit:=by rw[he];exact hln
 have Uq:env.globals=dz:=by rw[he];rfl
 have QI:env.builtins=builtinsNs:=by rw[he];rfl
 obtain ⟨h1,tk,rfl⟩:=ic.toInCall.same
 have keep:=ic.toInCall.keep
 have ns:=ic.toInCall.ns
 have mx:bindL env.kindOf [(x,eW v)] (fun _=>none) x=some (.ref v):=by
  unfold bindL;rw[hxe];simp[bindL]
 have sz:s.heap.objs.size<=h1.objs.size:=cC ic.toInCall.fresh (jf ns.lt)
 refine⟨lim.keeps keep,kla_codeExpr ?_⟩
 refine L5 ?_
 show aB _ _ (spliced ((false,eval (.UnaryOp .USub (.Call (.Name "len" p1) [.Name x p2] [] p3) p4) env)::backTo p6 (bL [.Name x p5] env))) _ _ _
 refine xh (wpAny_UnaryOp (tY ?_))
 refine Mg hke hle (TU (by rw[Uq];exact hg.keeps keep) hm (by rw[QI];exact hb.keeps keep) hmb ?_)
 refine Ms ?_ rfl rfl
 show aB _ _ (spliced ((false,eval (.Name x p2) env)::backTo p3 (bL [] env))) _ _ _
 refine xh (Cu (L3 hke hxe ns mx ?_) EA)
 refine AZ ?_
 refine Mh (let ⟨o,a,b⟩:=hv;⟨o,keep _ _ a,b⟩) aB2 ?_
 refine neg_int ?_
 show aB _ _ (spliced ((false,eval (.Name x p5) env)::backTo p6 (bL [] env))) _ _ _
 refine xh (Cu (L3 hke hxe ns mx ?_) EA)
 refine AZ ⟨by rw[gn];show 2<=_;decide,?_⟩
 exact h _ _ _ _ (fun b o e=>bQ _ (keep b o e)) sz (eN _ rfl)
end
end Lm
end ak9
section al0
namespace So
open PySem PySem.W PyProof.Rows
def KS(KO:Nat->Obj->Prop)(h:aX)(ks:List aq):Prop:=∀j k,ks[j]?=some k->∃t o,k = .ref t/\h.get? t=some o/\KO j o
section
variable {prog:dh}{w:bN}{A:bY}{E:aq->az->Prop}{s:az}{a q:av}{vs:List aq}{kd:iD}{r:Nat->Nat}{KO:Nat->Obj->Prop}
theorem zw{P:PySem.Fin->az->Prop}(ho:s.heap.get? a=some (cj "list" vs.toArray n))(hz:vs.length<=cK)
  (al1:∀i x h' tk Q,vs[i]?=some x->Keeps a s.heap h'->(∀C1 Sn t o,(∀b o,h'.get? b=some o->C1.get? b=some o)->h'.objs.size<=t->C1.get? t=some o->KO i o->Q (.ref t) { s with heap:=C1,toks:=Sn })->aB (aC prog w) A (call (.ref q) [x]) Q (fun _ _=>False) { s with heap:=h',toks:=tk })
  (CQ:∀ks h' tk Q,2<=vs.length->ks.length=vs.length->Keeps a s.heap h'->KS KO h' ks->Q kd { s with heap:=h',toks:=tk }->aB (aC prog w) A (keyKind' ks.toArray) Q E { s with heap:=h',toks:=tk })
  (iF:∀ks h' tk i j C,2<=vs.length->ks.length=vs.length->Keeps a s.heap h'->KS KO h' ks->i < vs.length->j < vs.length->C (decide (r i < r j)) { s with heap:=h',toks:=tk }->aB (aC prog w) A (keyLt' kd (ks.getD i dY) (ks.getD j dY)) C (fun _ _=>False) { s with heap:=h',toks:=tk })
  (h:∀h' tk n' (pm:List Nat),Keeps a s.heap h'->pm.Perm (dj vs.length)->pm.Pairwise (fun i j=>r i<=r j)->h'.get? a=some (cj "list" (pm.map fun i=>vs.getD i dY).toArray n')->P (.done (.ret .none)) { s with heap:=h',toks:=tk }) :
  aB (aC prog w) A (Builtin.«list.sort» ⟨[.ref a],[(kP "key",.ref q)]⟩) P E s:=by
 have ha:a < s.heap.objs.size:=bX ho
 have KI:=fj s.heap a (cX fun _=>(#[]:Array aq))
 obtain ⟨e1,Uj⟩:∃e1,(s.heap.update a (cX fun _=>(#[]:Array aq))).get? a=some (cj "list" #[] e1):=⟨_,xo ho fun _=>#[]⟩
 rw[ksk_t1]
 unfold ksk_tree
 refine ah (Fw ho rfl (ah (qZ ho rfl (ah (xq Uj rfl (ah (EH (ah (wL (je ?_) (iA _))) (by show vs.length<=_;lia))))) (by rw[dJ];lia) (iA _))))
 generalize hG:((s.heap.update a (cX fun _=>(#[]:Array aq))).push (cj "tuple" vs.toArray 0)).push (cj "list" #[] 0)=g
 generalize hS:((s.heap.update a (cX fun _=>(#[]:Array aq))).push (cj "tuple" vs.toArray 0)).objs.size=S
 have hSs:s.heap.objs.size < S:=by rw[<- hS,size_push',Ln];lia
 have hSa:a≠S:=by lia
 have kg:Keeps a s.heap g:=fun b o hb e=>by
  rw[<- hG]
  exact bQ _ (bQ _ (by rw[KI.2 b hb];exact e))
 have ag:g.get? a=some (cj "list" #[] e1):=by rw[<- hG];exact bQ _ (bQ _ Uj)
 have sg:g.get? S=some (cj "list" #[] 0):=by rw[<- hG,<- hS];exact eN _ rfl
 clear hG hS Uj KI
 show aB (aC prog w) A (ksk_rest a (.ref q) false vs.toArray e1 (.ref S)) P E { s with heap:=g }
 unfold ksk_rest
 refine ah (wI ?_)
 rw[List.forIn_toArray]
 have upk:∀{g:aX} {F:Obj->Obj},Keeps a s.heap g->Keeps a s.heap (g.update S F):=fun {g F} k b o hb e=>by
  rw[EV _ _ _ _ (by have:=bX e;lia)];exact k b o hb e
 refine ah (ksk_fold (fun i s'=>∃h' tk kA e,s'={ s with heap:=h',toks:=tk }/\Keeps a s.heap h'/\h'.get? a=some (cj "list" #[] e1)/\h'.get? S=some (cj "list" kA e)/\kA.size=i/\
  ∀j k,kA.toList[j]?=some k->∃t o,k = .ref t/\t≠a/\t≠S/\h'.get? t=some o/\KO j o) vs 0 _ ⟨g,s.toks,#[],0,rfl,kg,ag,sg,rfl,fun j k e=>by simp at e⟩ ?step ?done)
 case step=>
  rintro j x s' hx ⟨h',tk,kA,e,rfl,k1,a1,s1,z1,f1⟩
  simp only[kK] at z1 ⊢
  have hj:j < vs.length:=(gz.mp hx).1
  refine ah (oA (iy (al1 j x h' tk (fun v KG=>∃C1 Sn t o,v = .ref t/\KG={ s with heap:=C1,toks:=Sn }/\(∀b o,h'.get? b=some o->C1.get? b=some o)/\h'.objs.size<=t/\C1.get? t=some o/\KO j o) hx k1 fun C1 Sn t o q1 q2 q3 q4=>⟨C1,Sn,t,o,rfl,rfl,q1,q2,q3,q4⟩) (fun v KG he=>?_) fun _ _ hF=>hF.elim))
  obtain ⟨h2,tk2,t,o,rfl,rfl,q1,q2,q3,q4⟩:=he
  dsimp only
  have s2:=q1 _ _ s1
  have tS:t≠S:=by have:=bX s1;lia
  have ta:t≠a:=by have:=bX a1;lia
  have sb:=fj h2 S (cX (·.push (eW t)))
  obtain ⟨c2,KP⟩:∃c2,(h2.update S (cX (·.push (eW t)))).get? S=some (cj "list" (kA.push (.ref t)) c2):=⟨_,xo s2 (·.push (eW t))⟩
  refine ah (qZ s2 rfl ?_ (by lia) (cC (Lo (Mp ..)) (by lia)))
  refine aA ⟨rfl,_,_,kA.push (.ref t),c2,rfl,upk fun b o hb e=>q1 b o (k1 b o hb e),(sb.2 a hSa).trans (q1 _ _ a1),KP,by rw[Mp,z1],fun i k ek=>?_⟩
  rw[Fv,List.getElem?_append] at ek
  split at ek
  ·obtain ⟨t',o',r1,r2,r3,r4,r5⟩:=f1 i k ek
   exact⟨t',o',r1,r2,r3,(sb.2 t' r3).trans (q1 _ _ r4),r5⟩
  ·rename_i hi
   rw[dB,z1] at hi ek
   have:i - j=0:=by
    rcases Lu (i - j) with z | z
    ·exact z
    ·rw[uq (by simp;lia)] at ek;cases ek
   have ij:i=j:=by lia
   subst ij
   simp at ek
   subst ek
   exact⟨t,o,rfl,ta,tS,(sb.2 t tS).trans q3,q4⟩
 case done=>
  rintro s' ⟨h',tk,kA,e,rfl,k1,a1,s1,z1,f1⟩
  simp only[kK] at z1
  skip
  refine ah (Fw s1 rfl ?_)
  have kl:kA.toList.length=vs.length:=by rw[dB];exact z1
  have ks:KS KO h' kA.toList:=fun j k e=>let ⟨t,o,r1,_,_,r4,r5⟩:=f1 j k e;⟨t,o,r1,r4,r5⟩
  have sb:=fj h' S (cX fun _=>(#[]:Array aq))
  have a2:(h'.update S (cX fun _=>(#[]:Array aq))).get? a=some (cj "list" #[] e1):=(sb.2 a hSa).trans a1
  have tail:∀(st:bI) (pm:List Nat),failedOf st=none->(arrOf st).map (·.2)=(pm.map fun i=>vs.getD i dY).toArray->pm.Perm (dj vs.length)->pm.Pairwise (fun i j=>r i<=r j)->
    aB (aC prog w) A (ksk_tail a false e1 (.ref S) st) P E { s with heap:=h',toks:=tk }:=fun st pm hf ha hp hw=>by
   unfold ksk_tail
   dsimp only
   refine ah (qZ s1 rfl ?_ (by lia) (iA _))
   refine ah (EO ?_)
   refine ah (xq a2 rfl ?_)
   rw[ha,hf]
   refine ah (qZ a2 rfl ?_ (iA _) (by
    rw[aH3 (by decide),dJ,bh,hp.length_eq,ur];lia))
   simp only[aI5,cZ,aI0]
   have KJ:=fj (h'.update S (cX fun _=>(#[]:Array aq))) a (cX fun _=>(pm.map fun i=>vs.getD i dY).toArray)
   exact aA (h _ _ _ pm (fun b o hb e=>by rw[KJ.2 b hb];exact upk k1 b o hb e) hp hw (xo a2 fun _=>_))
  unfold ksk_end
  dsimp only
  simp only[cZ,aI0]
  have zp:kA.zip vs.toArray=((dj vs.length).map fun i=>(kA.toList.getD i dY,vs.getD i dY)).toArray:=by
   apply B0.mp
   rw[Ml]
   refine LL (by simp[z1]) fun i h1 h2=>?_
   simp at h1 h2
   have h3:i < kA.size:=by lia
   simp[h2,h3]
  by_cases h2:vs.toArray.size < 2
  ·rw[aH2 h2,aH2 h2]
   refine ah (aA ?_)
   rw[MD]
   refine ah (aA ?_)
   dsimp only
   refine tail _ (dj vs.length) rfl ?_ (.refl _) ?_
   ·show (kA.zip vs.toArray).map (·.2)=_
    rw[zp,Fi,dD]
    rfl
   ·rw[dJ] at h2
    refine qS.mpr fun i j hi hj n6=>?_
    rw[ur] at hj
    lia
  ·rw[aH3 h2,aH3 h2]
   rw[dJ] at h2
   have Gj:2<=vs.length:=by lia
   refine ah (CQ kA.toList h' tk _ Gj kl k1 ks ?_)
   have W:Sg.Wt kd (fun i=>(kA.toList.getD i dY,vs.getD i dY)) (dj vs.length) #[] (SortSt.mk' kd (kA.zip vs.toArray) #[] 7 none):=⟨rfl,zp,rfl,rfl⟩
   have run:=Sg.HR (prog:=prog) (w:=w) (A:=A) (E:=E) (s:={ s with heap:=h',toks:=tk }) (n:=vs.length) (r:=r) (Q:=fun _ st'=>failedOf st'=none/\∃pm:List Nat,arrOf st'=Sg.arr (fun i=>(kA.toList.getD i dY,vs.getD i dY)) pm/\pm.Perm (dj vs.length)/\pm.Pairwise (fun i j=>r i<=r j))
    (fun i j C hi hj hc=>iF kA.toList h' tk i j C Gj kl k1 ks hi hj hc) W (fun x hx=>mD.mp hx) fun p' st' q1 q2 q3 q4=>⟨q4,p',q3,q1,q2⟩
   refine ah (iy run ?_ fun _ _ e=>e)
   rintro ⟨⟨⟩,st'⟩ s' ⟨rfl,hf,pm,har,p1,p3⟩
   dsimp only
   refine tail st' pm hf ?_ p1 p3
   rw[har,Sg.arr,Fi,dD]
   rfl
end
end So
end al0
section al2
namespace Dm
open PySem PySem.W PyProof.Rows L2 HT PySem.SeqAt So
def C2:D->D
 | .lst xs=>.tup [.int (-(xs.length:Int)),.lst xs]
 | d=>d
def SkK(ds:List D):Prop:=SkT (ds.map C2)/\∀d∈ds,∃xs,d = .lst xs
def KO(ds:List D)(bA:List aq)(j:Nat)(o:Obj):Prop:=∃z xs v,ds[j]?=some (.lst xs)/\bA[j]?=some (.ref v)/\o=cj "tuple" #[.int (-(xs.length:Int)) z,.ref v] 0
theorem IB:∀{ds:List D} {vs:List aq},vs.length=ds.length->(∀(j:Nat) (d:D) (v:aq),ds[j]?=some d->vs[j]?=some v->fG h d v)->bG h ds vs
 | [],vs,l,_=>by rw[bG];exact LF l
 | d::ds,[],l,_=>by cases l
 | d::ds,v::vs,l,f=>by
  rw[bG]
  exact⟨v,vs,rfl,f 0 d v rfl rfl,IB (by simpa using l) fun j d' v' h1 h2=>f (j+1) d' v' (by simpa using h1) (by simpa using h2)⟩
theorem KS.Di{bA ks:List aq}(l:ks.length=bA.length)(p:bG h ds bA)(k:KS (KO ds bA) h ks):bG h (ds.map C2) ks:=by
 refine IB (by rw[bh,l,p.len]) fun j d v h1 h2=>?_
 obtain ⟨t,o,rfl,g,z,xs,a,e1,e2,rfl⟩:=k j v h2
 rw[dm,e1] at h1
 cases h1
 have hj:j < bA.length:=(gz.mp e2).1
 obtain ⟨q,_⟩:=p.get j hj
 have ed:ds.getD j .cY = .lst xs:=by rw[nu,e1];rfl
 have ev:bA[j] = .ref a:=(gz.mp e2).2
 rw[ed,ev] at q
 rw[C2,fG]
 refine⟨t,_,rfl,⟨_,g,rfl,_,rfl⟩,?_⟩
 rw[bG]
 refine⟨_,_,rfl,?_,?_⟩
 ·rw[fG];exact⟨z,rfl⟩
 ·rw[bG]
  exact⟨_,_,rfl,q,by rw[bG]⟩
section
theorem C3{bA:List aq}{Q:aq->az->Prop}(hu:A.units+64 < cLine)(sk:SkK ds)(hz:ds.length<=cK)(hl:s.heap.IsList l bA.toArray)(p:bG s.heap ds bA)
  (aB3:∀h' tk v jO R,(∀b o,s.heap.get? b=some o->h'.get? b=some o)->h'.IsList v jO->(jO.size:Int) < 2 ^ 63->(∀C1 Sn t z,(∀b o,h'.get? b=some o->C1.get? b=some o)->h'.objs.size<=t->C1.get? t=some (cj "tuple" #[.int (-(jO.size:Int)) z,.ref v] 0)->R (.ref t) { s with heap:=C1,toks:=Sn })->
   aB (aC prog w) A.in1.in1 (call (.ref f) [.ref v]) R (fun _ _=>False) { s with heap:=h',toks:=tk })
  (Ie:∀xs,D.lst xs∈ds->(xs.length:Int) < 2 ^ 63)
  (h:∀h' tk L n (pm:List Nat),(∀b ob,s.heap.get? b=some ob->h'.get? b=some ob)->s.heap.objs.size<=L->(∀i∈pm,i < ds.length)->pm.Perm (dj ds.length)->gq (ds.map C2)=pm.map (fun i=>(ds.map C2).getD i .cY)->
   h'.get? L=some (cj "list" (pm.map fun i=>bA.getD i dY).toArray n)->Q (.ref L) { s with heap:=h',toks:=tk }) :
  aB (aC prog w) A (call (.builtin "sorted") [.ref l] [(kP "key",.ref f)]) Q E s:=by
 have lv:bA.length=ds.length:=p.len
 refine call_function_entry_kw kind_sorted plain_sorted entry_sorted (ksk_s1 _ _) ?_
 unfold Builtin.«sorted»
 refine ah (m:=checkCount "sorted" 1 1 _) (aA (ah (collect_list hl ?_ (by rw[lv];exact hz))))
 have k1:∀b o,s.heap.get? b=some o->((s.heap.push (cj "list" #[] 0)).update s.heap.objs.size (cX (· ++ bA.toArray))).get? b=some o:=fun b o e=>by
  rw[EV _ _ _ _ (di (bX e))]
  exact bQ _ e
 have z1:s.heap.objs.size<=((s.heap.push (cj "list" #[] 0)).update s.heap.objs.size (cX (· ++ bA.toArray))).objs.size:=by rw[Ln,size_push'];lia
 generalize ((s.heap.push (cj "list" #[] 0)).update s.heap.objs.size (cX (· ++ bA.toArray)))=h1 at k1 z1 ⊢
 refine ah (wL ?_ (by lia))
 have oL:(h1.push (cj "list" bA.toArray 0)).get? h1.objs.size=some (cj "list" bA.toArray 0):=eN _ rfl
 have nk:∀h',Keeps h1.objs.size (h1.push (cj "list" bA.toArray 0)) h'->∀b ob,s.heap.get? b=some ob->h'.get? b=some ob:=fun h' kh b ob e=>kh b ob (di (bX (k1 b ob e))) (bQ _ (k1 b ob e))
 refine ah (je (wpAny_call_entry_kw slot_list_sort ⟨_,oL,rfl⟩ entry_list_sort ?body (ksk_l1 _ _)))
 case body=>
  obtain ⟨_,ij,sg⟩:=sgT (prog:=prog) (w:=w) (A:=A) (vs:=[]) sk.1 (by rw[bh];exact hz) hu
  refine zw (KO:=KO ds bA) (kd:=tuples' true) (r:=rk (ds.map C2)) (s:={ s with heap:=h1.push (cj "list" bA.toArray 0) }) oL (by lia) (fun i x h' tk R hx kh hR=>?_) (fun ks h' tk R h2 kl kh kk hR=>?_) (fun ks h' tk i j C h2 kl kh kk hi hj hC=>?_) fun h' tk n' pm kh hp hu' ho=>?_
  ·have hi:i < bA.length:=(gz.mp hx).1
   obtain ⟨q,m⟩:=(p.keep (nk h' kh)).get i hi
   obtain ⟨xs,ex⟩:=sk.2 _ m
   rw[ex,fG] at q
   obtain ⟨a,jO,e,pl,pd⟩:=q
   have ev:x = .ref a:=by rw[<- e];exact((gz.mp hx).2).symm
   subst ev
   have jl:jO.size=xs.length:=by rw[<- dB];exact pd.len
   refine aB3 h' tk a jO R (nk h' kh) pl.isList (by rw[jl];exact Ie xs (ex▸m)) fun C1 Sn t z q1 q2 q3=>hR C1 Sn t _ q1 q2 q3 ⟨z,xs,a,?_,hx,by rw[jl]⟩
   have hd:i < ds.length:=by lia
   rw[<- ex,dF hd];simp[hd]
  ·obtain ⟨_,_,sg⟩:=sgT (prog:=prog) (w:=w) (A:=A) (vs:=ks) sk.1 (by rw[bh];exact hz) hu
   exact(sg _ _ rfl (by rw[bh];lia) (KS.Di kl (p.keep (nk h' kh)) kk)).1 _ R hR
  ·obtain ⟨_,_,sg⟩:=sgT (prog:=prog) (w:=w) (A:=A) (vs:=ks) sk.1 (by rw[bh];exact hz) hu
   exact(sg _ _ rfl (by rw[bh];lia) (KS.Di kl (p.keep (nk h' kh)) kk)).2 i j C (by rw[bh];lia) (by rw[bh];lia) hC
  ·rw[lv] at hp
   have lt:∀i∈pm,i < ds.length:=fun i hi=>mD.mp (hp.mem_iff.mp hi)
   refine⟨_,rfl,aA ⟨_,rfl,h h' tk _ n' pm (nk h' kh) z1 lt hp ?_ ho⟩⟩
   have pe:(pm.map fun i=>(ds.map C2).getD i D.cY).Perm (ds.map C2):=by
    have:=hp.map fun i=>(ds.map C2).getD i D.cY
    rwa [show dj ds.length=dj (ds.map C2).length by rw[bh],So.map_range] at this
   refine(FE (le:=fun a b=>uK (fl a) (fl b)=true) (fun a b ha hb h1 h2=>ij a ((cR _).mem_iff.mp ha) b (pe.mem_iff.mp hb) (xV _ _ h1 h2)) (mK _) ?_ ((cR _).trans pe.symm))
   rw[AV]
   refine hu'.imp_of_mem fun {i j} hi hj n6=>?_
   unfold uK
   rw[HV (ds.map C2) (by rw[bh];exact lt j hj),aH5 (by lia)]
   rfl
end
end Dm
end al2
section al3
namespace L2
open PySem PySem.Spec PySem.W PyProof.Rows
section
theorem rQ.tab(ok:rQ P w H h)(hT:H T=some (.CB p q))(k:∀b u,b≠T->h.get? b=some u->h'.get? b=some u)(hc:h.objs.size<=c)(V7:h'.get? c=some oc)(od:oc.data = .fields vs)(oq:vs[1]?=some (.str q t))
  (hT':h'.get? T=some (tabObj ps)) (tr:TriplesOk ps.toList) (hit:codeAmong p ps.toList=some (.ref c)):rQ P w (upd H c (.CA oc (.own c))) h':=fun b u e=>by
 have hn:=ok.fresh hc
 have cT:T≠c:=fun z=>by rw[z,hn] at hT;cases hT
 by_cases hb:b=c
 ·subst hb;rw[bS] at e;cases e;exact⟨V7,_,V7⟩
 ·rw[aV hb] at e
  by_cases bT:b=T
  ·subst bT;rw[hT] at e;cases e
   exact⟨ps,hT',tr,.inr ⟨c,oc,vs,t,hit,bS,od,oq⟩⟩
  ·refine(ok b u e).z8 (fun d v hd r=>k d v ?_ r) (fun d r=>by rw[aV (b8 r hn)];exact r) (fun d xs r=>by rw[aV (b8 r hn)];exact r) fun d o xs r=>by rw[aV (b8 r hn)];exact r
   rcases hd with rfl | hd
   ·exact bT
   ·rintro rfl;rw[hT] at hd;cases hd
theorem Un.tab(hT:H T=some (.CB p q))(k:∀b u,b≠T->h.get? b=some u->h'.get? b=some u)(hn:H c=none)(hc:h.objs.size<=c)(hT':∃u,h'.get? T=some u):Un fs [] H (upd H c o) h h' where
 keep:=fun b u e n _ _=>k b u (fun z=>by rw[z,hT] at n;cases n) e
 slot:=fun b u e n _ _=>⟨u.slots,k b u (fun z=>by rw[z,hT] at n;cases n) e⟩
 free:=fun b u e n _=>by rw[aV (di (iJ (bX e) hc))];exact n
 there:=fun b u e _=>by
  by_cases bT:b=T
  ·rw[bT];exact hT'
  ·exact⟨u,k b u bT e⟩
 oS:=fun b xs r=>by rw[aV (b8 r hn)];exact r
 xB:=fun b u xs r=>by rw[aV (b8 r hn)];exact r
 xC:=fun b u xs r=>by rw[aV (b8 r hn)];exact r
end
def uY(K:aD)(c T:av):Bool:=match K.lookup c with
 | some ⟨.type "code",_,.fields vs,_⟩=>decide (vs[11]?=some (.ref T))&&(match vs.getD 18 .none,vs.getD 7 .none,vs.getD 9 .none,vs.getD 10 .none with | .str _ _,.int _ _,.bool _,.int _ _=>true | _,_,_,_=>false)&&decide (c≠T)
 | _=>false
theorem IC{K:aD}(X:K.In h)(e:uY K c T=true):CodeHd h c T:=by
 unfold uY at e
 split at e
 ·rename_i vs _ lk
  simp only[cu,aH7] at e
  obtain ⟨⟨e1,e2⟩,e3⟩:=e
  split at e2
  ·rename_i h1 h2 h3 h4
   exact⟨_,vs,_,_,_,_,_,_,_,X _ _ lk,rfl,rfl,e1,by rw[jg,e1];rfl,h1,h2,h3,h4,e3⟩
  ·cases e2
 ·cases e
def Kh(K:aD)(b T:av):Bool:=match K.lookup b with
 | some ⟨.type "module",some d,.plain,_⟩=>decide (d=builtinsNs)&&decide (b≠builtinsNs)&&decide (b≠dz)&&decide (b≠T)
 | _=>false
structure Sq(X:Cx)(args:Arguments)(scope:iI)(T:av)(q:Str):Prop where
 code:∃c,X.env.code = .ref c/\uY X.K c T=true
 glob:X.env.globals=dz
 qual:X.env.qual ++ "<lambda>" =q
 blt:∃b,X.mg "__builtins__" =some (.ref b)/\Kh X.K b T=true
 gT:dz≠T
 al4:closureFor scope X.env=pure []
 dfl:defaultsOf args X.env=([],[])
section
theorem Pf{Q:aq->az->Prop}(L:Sq X args scope T q)(I:Inv X pins σ H s)(hT:H T=some (.CB lp q))
  (h:∀f H1 h' tk o cv pm Kg,aH H H1->(∀b,H b≠none->H1 b=H b)->Inv X pins σ H1 { s with heap:=h',toks:=tk }->h'.get? f=some o->o.data = .func (kla_fn "<lambda>" q args body scope [] pm cv Kg)->h'.CodeRec cv q->Q (.ref f) { s with heap:=h',toks:=tk }) :
  aB (aC X.prog X.w) X.A (eval (.Lambda args body scope lp) X.env) Q X.xe s:=by
 rw[arm_eval_Lambda,L.dfl,L.qual]
 dsimp only
 refine ah (aA (ah (je (aA ?_))))
 obtain ⟨ps,gT,tr,hh⟩:=I.fB T _ hT
 obtain ⟨c,hc,hd⟩:=L.code
 obtain ⟨bm,b1,b2⟩:=L.blt
 have hb:s.heap.BuiltinsAt X.mg T:=by
  unfold Kh at b2
  split at b2
  ·rename_i d _ lk
   simp only[cu,aH7] at b2
   obtain ⟨⟨⟨rfl,b4⟩,b5⟩,b6⟩:=b2
   exact⟨bm,_,b1,b4,b5,b6,I.Jb _ _ lk,rfl,rfl,rfl⟩
  ·cases b2
 have hd:=IC I.Jb hd
 have hg:s.heap.Ns dz X.mg:=I.mod.glob.keeps I.bk
 rcases hh with hn | ⟨c',oc,vs,t,hf,hcc,od,oq⟩
 ·refine kla_makeFunction L.al4 L.glob hg hc hd gT tr hn L.gT hb fun c' Kg h' tk hx Uq iF WN hT'=>?_
  obtain ⟨c2,oc,vs,t,e2,V7,od,oq⟩:=WN
  cases e2
  have k:∀b u,b≠T->s.heap.get? b=some u->(h'.push (kla_obj "<lambda>" q args body scope [] ((X.mg "__name__").getD .none) c' Kg)).get? b=some u:=fun b u hb e=>bQ _ (hx b u hb e)
  have al5:=bQ (kla_obj "<lambda>" q args body scope [] ((X.mg "__name__").getD .none) c' Kg) V7
  have hT2:=bQ (kla_obj "<lambda>" q args body scope [] ((X.mg "__name__").getD .none) c' Kg) hT'
  have xE:H c'=none:=I.fB.fresh Uq
  have hl:(ps++#[rawInt lp.line,rawInt lp.col,eW c']).toList=ps.toList++[rawInt lp.line,rawInt lp.col,.ref c']:=by simp
  refine h _ (upd H c' (.CA oc (.own c'))) _ tk _ _ _ _ (fun b o e=>by rw[aV (b8 e xE)];exact e) (fun b hb=>aV fun z=>hb (by rw[z];exact xE)) (I.un (Un.tab hT k xE Uq ⟨_,hT2⟩) (I.fB.tab hT k Uq al5 od oq hT2 (by rw[hl];exact TriplesOk_snoc _ _ _ _ tr) (by rw[hl];exact codeAmong_snoc _ tr hn))) (eN _ rfl) rfl ⟨c',oc,vs,t,rfl,al5,od,oq⟩
 ·refine kla_makeFunctionHit L.al4 L.glob hg hc hd gT tr hf hb fun Kg h' tk k hz=>?_
  have k':∀b u,s.heap.get? b=some u->(h'.push { cls:=.type "function",data:=.func (kla_fn "<lambda>" q args body scope [] ((X.mg "__name__").getD .none) (.ref c') Kg) }).get? b=some u:=fun b u e=>bQ _ (k b u e)
  obtain ⟨gc,_⟩:=I.fB c' _ hcc
  exact h _ H _ tk _ _ _ _ (fun b o e=>e) (fun b _=>rfl) (I.kept k') (eN _ rfl) rfl ⟨c',oc,vs,t,rfl,k' _ _ gc,od,oq⟩
end
end L2
end al3
section al6
namespace Dm
open PySem PySem.Spec PySem.W PyProof.Rows L2 PySem.SeqAt Ts So
structure WO(x:Str)(q:Str)(args:Arguments)(body:bH)(scope:iI):Prop where
 co:scope.isCoroutine=false
 gen:scope.isGenerator=false
 kind:scope.kind = .function
 loc:scope.names.lookup x=some .local
 len:scope.names.lookup ("len" : Str)=some .globalImplicit
 bind:∀pm cv Kg (s:az) (u:aq),BindsTo s (kla_fn "<lambda>" q args body scope [] pm cv Kg) ⟨[u],[]⟩ [(x,u)]
 ndb:(x==("__debug__" : Str))=false
section
def tSK(K:aD)(C:Cfg)(T:av)(lp:Pos)(q:Str)(te:TE):TE:=fun σ H Q=>te σ H fun v H1=>∃a ws ds,v = .ref a/\H1 T=some (.CB lp q)/\ko K H1 a ws/\aM K C H1 ds ws/\SkK ds/\cz ds=true/\(∀xs,D.lst xs∈ds->(xs.length:Int) < 2 ^ 63)/\
 ∀(H2:Hp) (p:av) (pm:List Nat),aH H1 H2->H2 p=none->(∀i∈pm,i < ds.length)->pm.Perm (dj ds.length)->gq (ds.map C2)=pm.map (fun i=>(ds.map C2).getD i .cY)->Q (.ref p) (upd H2 p (.lst (pm.map fun i=>ws.getD i .cY)))
theorem Pg(he:PE X e te)(L:Sq X args scope T q)(LT:WO x q args (Lm.body x p1 p2 p3 p4 p5 p6 c1) scope)(hg:Gl X "sorted")(hm:X.mg "sorted" =none)(hml:X.mg "len" =none)(hu:X.A.units+64 < cLine)(sR:X.A.depth < recursionLimit)
  (hs:bL [e] X.env=[(false,eval e X.env)]:=by rfl):PE X (.Call (.Name "sorted" p0) [e] [⟨some "key",.Lambda args (Lm.body x p1 p2 p3 p4 p5 p6 c1) scope lp,kp⟩] pos) (tSK X.K C T lp q te):=by
 intro pins s σ H Q I h
 refine tY (xG I hg hm (show lE "sorted" =some (.builtin "sorted") by decide +kernel) ?_)
 have QB:backTo pos (bL [e] X.env)=(false,eval e X.env)::backTo pos (bL [] X.env):=by rw[hs];rfl
 refine UT ?_ QB (by rw[QB];rfl)
 rw[QB]
 refine xh (gS (he pins s σ H _ I h) fun u s1 zz=>?_)
 obtain ⟨v,H1,I1,r1,a,ws,ds,rfl,hT,hq,hr,sk,ff,sm,k⟩:=zz
 obtain rfl:u = .ref a:=r1
 refine AZ ?_
 show aB _ _ (evalAll [do let v <- eval (.Lambda args (Lm.body x p1 p2 p3 p4 p5 p6 c1) scope lp) X.env;standAt pos;pure v]) _ _ s1
 refine wpAny_evalAll_cons (ah (Pf L I1 hT fun f H2 h' tk o cv pm Kg sm2 _ I2 fo fd fr=>ah (zF (aA (wpAny_evalAll_nil ?_)))))
 have hq2:ko X.K H2 a ws:=sm2.seq hq
 have hr2:aM X.K C H2 ds ws:=hr.same sm2 _
 obtain ⟨bA,rv,pl,hz⟩:=I2.list hq2
 have lw:ws.length=ds.length:=hr2.len
 obtain ⟨mb,b1,b2⟩:=I2.mod.blt
 show aB _ _ (call (.builtin "sorted") [.ref a] [(kP "key",.ref f)]) _ _ _
 refine C3 hu sk (by rw[<- lw];exact hz) pl.isList (Inv.Di I2 ds ff hr2 rv) (fun h3 tk3 v jO R k3 hl hf hR=>?_) sm fun h3 tk3 l n pm' k3 hL iF hp EE ho=>?_
 ·exact Lm.Pc (k3 _ _ fo) fd (fr.keeps k3) LT.co LT.gen LT.kind LT.loc LT.len (LT.bind pm cv Kg) LT.ndb sR (I2.nolimit.keeps k3) (mg:=X.mg) ((I2.mod.glob.keeps I2.bk).keeps k3) hml ((b1.keeps I2.bk).keeps k3) ((b2 "len" (by decide)).trans (show lE "len" =some (.builtin "len") by decide +kernel)) hl hf hR
 ·have lp:pm'.length=ds.length:=by rw[hp.length_eq,ur]
  exact yd I2 (h1:=h') (fun b ob e=>e) k3 hL ho (wm rv pm' fun i hi=>by rw[lw];exact iF i hi) (by rw[bh,lp,<- lw];exact hz) fun hn=>k H2 l pm' sm2 hn iF hp EE
end
def unK:D->D
 | .tup [_,d]=>d
 | d=>d
def isL:D->Bool
 | .lst xs=>decide (xs.length < 5000)
 | _=>false
def Ss(es:List D):Bool:=es.all isL&&skB (es.map C2)&&cz es
def rG:D->R D:=fun d=>match d with
 | .lst es=>if Ss es=true then .ok (.lst ((gq (es.map C2)).map unK)) else .bad
 | _=>.bad
theorem WQ(h:isL d=true):∃xs,d = .lst xs/\xs.length < 5000:=by
 cases d with
 | lst xs=>exact⟨xs,rfl,aH8 h⟩
 | _=>cases h
def UD(T:av)(lp:Pos)(q:Str):GL:=⟨fun H=>H T=some (.CB lp q),fun e h=>e _ _ h⟩
section
variable {κ:Kd}
theorem Val.at{K:aD}{A:List av}{H H':Hp}{d:D}{v:V}(w:Val K C κ G0 A H H' d v):Rep K C (κ.hp G0 A H H') d v:=by
 cases κ with
 | new=>exact w.1
 | uQ=>exact w.1
 | loc=>exact w.1
 | old=>exact w
 | qg=>exact w.1
 | aO=>exact w
theorem Sv(e:aH H' YE):aH (κ.hp G0 A H H') (κ.hp G0 A H YE):=by
 cases κ with
 | new=>exact bO e
 | uQ=>exact aI e
 | loc=>exact bO (aI e)
 | old=>exact aI e
 | qg=>exact bO e
 | aO=>exact e
theorem Ph(he:PE X e (tD X.K C G0 Γ E f κ))(hC:∀H,C.gl H->H T=some (.CB lp q))(L:Sq X args scope T q)(LT:WO x q args (Lm.body x p1 p2 p3 p4 p5 p6 c1) scope)(hg:Gl X "sorted")(hm:X.mg "sorted" =none)(hml:X.mg "len" =none)(hu:X.A.units+64 < cLine)(sR:X.A.depth < recursionLimit)
  (hs:bL [e] X.env=[(false,eval e X.env)]:=by rfl):PE X (.Call (.Name "sorted" p0) [e] [⟨some "key",.Lambda args (Lm.body x p1 p2 p3 p4 p5 p6 c1) scope lp,kp⟩] pos) (tD X.K C G0 Γ E (wz rG f) κ):=
 (Pg (C:=C) he L LT hg hm hml hu sR hs).imp fun σ H Q zz=>by
 walk_at"/"
 clear zz
 walk_at"."
 unfold wz R.bind at q
 cases hf:f st with
 | bad=>rw[hf] at q;exact q
 | ex c p=>rw[hf] at q;exact q
 | ok d=>
  rw[hf] at q
  walk_at"*"
  intro v H1 e1 w1
  cases hg:rG d with
  | bad=>rw[hg] at q;exact q.elim
  | ex c p=>unfold rG at hg;split at hg <;> (try split at hg) <;> cases hg
  | ok d'=>
   rw[hg] at q
   unfold rG at hg
   split at hg
   ·rename_i es
    split at hg
    case isFalse=>cases hg
    rename_i hb
    cases hg
    unfold Ss at hb
    simp only[cu] at hb
    obtain ⟨⟨b1,b2⟩,b3⟩:=hb
    have il:=fun d hd=>WQ (gI.mp b1 d hd)
    have rp:=w1.at
    rw[Rep] at rp
    obtain ⟨a,ws,rfl,sq,rs⟩:=rp
    have Ui:aM X.K C (κ.hp G0 A H H1) es ws:=rs.same (aL _ _) _
    refine⟨a,ws,es,rfl,hC H1 (C.glM (r.g0.trans e1) r.gl),aH.seq Kd.rB sq,Ui.same Kd.rB _,⟨WM b2,fun d hd=>(il d hd).imp fun _ z=>z.1⟩,b3,fun xs hx=>?_,fun H2 p pm nJ hn iF hp hs=>?_⟩
    ·obtain ⟨ys,e,l⟩:=il _ hx
     cases e
     have:(5000:Int) < 2 ^ 63:=by decide
     lia
    ·refine q _ _ ((e1.trans nJ).trans (cV hn)) ?_
     have CG:(gq (es.map C2)).map unK=pm.map fun i=>es.getD i .cY:=by
      rw[hs,dD]
      refine uu fun i hi=>?_
      have hi:=iF i hi
      obtain ⟨xs,ex,_⟩:=il es[i] (qT hi)
      show unK ((es.map C2).getD i .cY)=_
      simp[hi,ex,C2,unK]
     rw[CG]
     exact Val.lst r (e1.trans nJ) hn (wo (Ui.same (Sv nJ) _) pm iF)
   ·cases hg
end
end Dm
end al6
section aB4
namespace L2
open PySem PySem.Spec PySem.W PyProof.Rows
section
variable {K:aD}{s:az}{vs:List aq}{ns:List Int}
theorem Kl(KX:K.In s.heap)(hns:s.heap.Ns dz mg)(hb:s.heap.Ns builtinsNs mb)(hbb:∀x:Str,x≠ "__name__" ->mb x=lE x)(aB5:s.heap.NoLimit)(hg:s.gens=#[])
  (ha:s.heap.get? a=some { cls:=.type "list",data:=.seq vs.toArray }) (hi:IntsAre vs ns) (hl:ns.length<=cK) (hr:jy k callerA)
  (hT:s.heap.get? T=some (tabObj #[])) (hc:uY K c T=true) (kT:K.lookup T=none)
  (F:∀base:aX,K.In base->base.Ns dz mg->jY P w K mg base CX k fa fd [x] sp) (Pe:∀(s:az) (u:aq),BindsTo s fd ⟨[u],[]⟩ [(x,u)])
  (Yp:∀H:Hp,H T=some (.CB lp q)->ko K H a (ns.map V.int)->sp [.ref a] H (fun v _=>v = .bl true) fun _ _ _=>False)
  (hCX:∀H e s',CX [] H s (fun _ _ _=>False) e s'->False) :
  codeAny (aC P w) callerA (.call (.ref fa) ⟨[.ref a],[]⟩) (fun r s'=>r = .ok (.ret (.bool true))/\OldK s.heap s'.heap/\s'.os=s.os/\AllBare s'.gens) s:=by
 have aT:a≠T:=fun z=>by rw[z,hT] at ha;cases ha
 have rv:=zS hi
 have aB6:=hi.length
 let oa:Obj:={ cls:=.type "list",data:=.seq vs.toArray }
 let H:Hp:=fun b=>if b=T then some (.CB lp q) else if b=a then (match K.lookup a with | none=>some (.CA oa (.lst (ns.map V.int))) | some _=>none) else none
 have HT:H T=some (.CB lp q):=aH2 rfl
 have Ha:H a=match K.lookup a with | none=>some (.CA oa (.lst (ns.map V.int))) | some _=>none:=(aH3 aT).trans (aH2 rfl)
 have Ho:∀b,b≠T->b≠a->H b=none:=fun b h1 h2=>(aH3 h1).trans (aH3 h2)
 have HK:∀b o,K.lookup b=some o->H b=none:=fun b o e=>by
  by_cases h1:b=T
  ·rw[h1,kT] at e;cases e
  ·by_cases h2:b=a
   ·rw[h2,Ha,<- h2,e]
   ·exact Ho b h1 h2
 have HD:∀{b:av} {o:Obj} {es:Array qN} {ep:Nat},s.heap.get? b=some o->o.data = .dict es ep->H b=none:=fun {b o es ep} e d=>by
  refine Ho b (fun z=>?_) fun z=>?_
  ·rw[z,hT] at e;cases e;cases d
  ·rw[z,ha] at e;cases e;cases d
 have fB:rQ P w H s.heap:=fun b u z=>by
  by_cases h1:b=T
  ·subst h1;rw[HT] at z;cases z
   exact⟨#[],hT,trivial,.inl rfl⟩
  ·by_cases h2:b=a
   ·subst h2
    rw[Ha] at z
    cases hk:K.lookup b with
    | none=>
     rw[hk] at z;cases z
     exact⟨ha,by rw[bh];exact hl,vs,_,rv,ha⟩
    | some o=>rw[hk] at z;cases z
   ·rw[Ho b h1 h2] at z;cases z
 have hS:ko K H a (ns.map V.int):=by
  cases hk:K.lookup a with
  | none=>exact .inl (.inr ⟨oa,by rw[Ha,hk]⟩)
  | some o=>
   have e:=KX a o hk
   rw[ha] at e;cases e
   exact .inr ⟨_,vs.toArray,_,hk,rfl,rfl,rfl,by rw[dJ,aB6];exact hl,by simpa using rv⟩
 have nsK:∀{b:av} {m:Str->Option aq},s.heap.Ns b m->(CC s.heap H).Ns b m:=fun {b m} ⟨o,es,ep,e,d,r⟩=>⟨o,es,ep,CD e (HD e d),d,r⟩
 have hKb:K.In (CC s.heap H):=fun b o e=>CD (KX b o e) (HK b o e)
 have hM:Mod K mg (CC s.heap H):=⟨hKb,nsK hns,⟨mb,nsK hb,hbb⟩,let ⟨mc,h1,h2⟩:=aB5;⟨mc,nsK h1,h2⟩⟩
 have e0:G6 P w K mg (CC s.heap H) callerA [] s H:=⟨rfl,hM,fun b o e=>QJ e,Lo (J8 _ _),trivial,fun b hb=>aI4 (show b∈([]:List av) from hb) (by simp),fB,.of_eq hg⟩
 refine tZ ((F _ hKb (nsK hns)).run callerA [] s H ⟨[.ref a],[]⟩ [.ref a] [.ref a] _ _ hr e0 (Pe s (.ref a)) (.cons rfl .nil) (Yp H HT hS)) fun r s' h=>?_
 match r,h with
 | .error e,h=>exact(hCX H e s' h).elim
 | .ok (.ret u),h=>
  obtain ⟨v,H',os,bare,un,al8,r',q'⟩:=h
  subst q'
  obtain rfl:u=Value.bool true:=r'
  have kp:∀b o,b≠T->s.heap.get? b=some o->s'.heap.get? b=some o:=fun b o hbT e=>by
   cases z:H b with
   | none=>exact un.keep b o e z (by intro z;exact aI4 (show b∈([]:List av) from z) (by simp)) (by simp)
   | some u=>
    by_cases h2:b=a
    ·subst h2
     rw[ha] at e;cases e
     rw[Ha] at z
     cases hk:K.lookup b with
     | none=>
      rw[hk] at z;cases z
      exact(al8 b _ (un.xB b oa (.lst (ns.map V.int)) (by rw[Ha,hk]))).1
     | some o=>rw[hk] at z;cases z
    ·rw[Ho b hbT h2] at z;cases z
  obtain ⟨ps,gT,_⟩:=al8 T _ (un.xC T lp q HT)
  have tab:=(IC KX hc).tab hT
  refine⟨rfl,⟨fun b o e=>?_,fun b o e=>?_⟩,os,bare⟩
  ·by_cases h1:b=T
   ·subst h1
    rw[hT] at e;cases e
    exact .inr (.inl ⟨tab.isCodeTable,rfl,#[],ps,rfl,by rw[gT];simp⟩)
   ·exact .inl (kp b o h1 e)
  ·by_cases h1:b=T
   ·exact⟨_,h1▸gT⟩
   ·exact⟨o,kp b o h1 e⟩
end
theorem Pj{l:PySem.W.OpenLaw}{YP:bN->aX->Prop}{d:DefRec}{K:fQ->aD}{CX:bN->Qu}{sp:bN->Sp}
  (hn:l.most=some n) (hn2:n<=cK) (Vy:d.params.defaults=[]) (hr:jy k callerA)
  (hY:∀(w:bN) (h:aX),YP w h->(K w.params).In h/\h.get? T=some (tabObj #[]))
  (hK:∀w:bN,(K w.params).lookup T=none/\∃c,uY (K w.params) c T=true)
  (F:∀(w:bN) (mg:Str->Option aq) (fa:av) (h:aX),(K w.params).In h->h.Ns dz mg->mg d.name=some (.ref fa)->
   ∃fd:gH,(∀(s:az) (u:aq),BindsTo s fd ⟨[u],[]⟩ [(x,u)])/\
    ∀base:aX,(K w.params).In base->base.Ns dz mg->jY l.prog w (K w.params) mg base (CX w) k fa fd [x] (sp w))
  (Yp:∀(w:bN) (H:Hp) (a:av) (ns:List Int),ns.length<=n->H T=some (.CB lp y)->ko (K w.params) H a (ns.map V.int)->sp w [.ref a] H (fun v _=>v = .bl true) fun _ _ _=>False)
  (hCX:∀(w:bN) (H:Hp) (s:az) (e:aq) (s':az),CX w [] H s (fun _ _ _=>False) e s'->False) :
  PySem.W.WalkO q loose XP YP l.row.toRowW d [] (fun f vs=>PySem.call f vs):=by
 refine Att.CT hn Vy fun w ji kQ mg mb fa o pm cd doc a vs ns G Y ho hd FP hmg Vz hints hlen hg=>?_
 obtain ⟨KX,gT⟩:=hY w _ Y
 obtain ⟨kT,c,hc⟩:=hK w
 obtain ⟨fd,hb,hF⟩:=F w mg fa _ KX G.T.g hmg
 exact Kl KX G.T.g G.T.b G.T.builtins G.T.nolimit hg Vz hints (cC hlen hn2) hr gT hc kT hF hb (fun H hT hS=>Yp w H a ns hlen hT hS) fun H e s'=>hCX w H kQ e s'
end L2
end aB4
section al9
namespace Dm
open PySem PySem.Spec PySem.W PyProof.Rows L2
def vG(st:bw):Pos:=match fF st with
 | [.Return (some (.Call _ _ [⟨_,.Lambda _ _ _ p,_⟩] _)) _]=>p
 | _=>⟨0,0,0,0⟩
theorem Sw{X:Cx}(hC:∀(f:av) (dM:aq),X.mg x=some (.ref f)->(∃o fd,X.K.lookup f=some o/\o.data = .func fd/\fd.code=dM)->∃c,dM = .ref c/\uY X.K c T=true)
  (hB:∃b,X.mg "__builtins__" =some (.ref b)/\Kh X.K b T=true) (hG:dz≠T) (hc:X.mg x=some (.ref f)/\∃o fd,X.K.lookup f=some o/\o.data = .func fd/\fd.code=dM) (e:X.env.code=dM:=by rfl) (g:X.env.globals=dz:=by rfl)
  (hq:X.env.qual=x ++ ".<locals>.":=by rfl) (hq2:x ++ ".<locals>." ++ "<lambda>" =q:=by decide +kernel) (cl:closureFor scope X.env=pure []:=by rfl) (dfl:defaultsOf args X.env=([],[]):=by rfl):Sq X args scope T q:=by
 obtain ⟨c,rfl,h⟩:=hC f dM hc.1 hc.2
 exact⟨⟨c,e,h⟩,g,by rw[hq];exact hq2,hB,hG,cl,dfl⟩
theorem Sy{K:Frag}(X:K.In h)(G:h.Ns dz mg)(ha:nsIn K dz x=some (some (.ref a)))(l:K.lookup a=some o)(d:o.data = .func fd)(hc:fd.code = .ref c)(ct:uY K c T=true)(f:av)(dM:aq)(hm:mg x=some (.ref f))(hl:∃o fd,K.lookup f=some o/\o.data = .func fd/\fd.code=dM):∃c,dM = .ref c/\uY K c T=true:=by
 have e:=mg_of X G ha
 rw[hm] at e;cases e
 obtain ⟨o',fd',h1,h2,h3⟩:=hl
 rw[l] at h1;cases h1
 rw[d] at h2;cases h2
 exact⟨c,h3.symm.trans hc,ct⟩
def WR(st:bw):bH:=match fF st with
 | [.Return (some (.Call _ _ [⟨_,e,_⟩] _)) _]=>e
 | _=>.Constant .none 0 ⟨0,0,0,0⟩
def Sz(st:bw):Arguments:=match WR st with | .Lambda a _ _ _=>a | _=>⟨[],[],none,[],[],none,[]⟩
def SA(st:bw):bH:=match WR st with | .Lambda _ b _ _=>b | e=>e
def Pn(st:bw):iI:=match WR st with | .Lambda _ _ s _=>s | _=>aQ st
def Po(T:av):Frag->Frag
 | []=>[]
 | p::K=>if p.1=T then Po T K else p::Po T K
theorem tG:∀K:Frag,qp T (Po T K)=none
 | []=>rfl
 | (a,u)::K=>by
  by_cases e:a=T
  ·rw[Po,aH2 e];exact tG K
  ·rw[Po,aH3 e,oM,beq_false_of_ne (eX e)];exact tG K
theorem rH:∀(K:Frag) (b:av) (o:Obj),b≠T->qp b (Po T K)=some o->qp b K=some o
 | [],_,_,_,h=>by cases h
 | (a,u)::K,b,o,n,h=>by
  by_cases e:a=T
  ·rw[Po,aH2 e] at h
   rw[oM,beq_false_of_ne (fun c=>n (c.trans e))]
   exact rH K b o n h
  ·rw[Po,aH3 e,oM] at h
   rw[oM]
   by_cases c:b=a
   ·rw[c,aI3] at h ⊢;exact h
   ·rw[beq_false_of_ne c] at h ⊢;exact rH K b o n h
theorem WS{K:Frag}(X:K.In h):(Po T K).In h:=fun a o e=>by
 by_cases n:a=T
 ·rw[n,tG] at e;cases e
 ·exact X a o (rH K a o n e)
end Dm
end al9
section aB7
namespace Dm
open PySem PySem.Spec PyProof.Rows L2 PySem.W
theorem wC{K:Frag}{h:aX}{mg:Str->Option aq}{x:Str}{st:bw}{ps:List Str}{f:av}{oc:aq}{od an:Option av}{Ez:Array (Option aq)}{kV doc pm dM ct:aq}(X:K.In h)(G:h.Ns dz mg)(a:nsIn K dz x=some (some (.ref f)):=by k_is)(l:K.lookup f=some ⟨oc,od,.func (fnOf x x (jm st) (fF st) (aQ st) .none kV doc pm an dM ct),Ez⟩:=by k_is)
  (c:codeIn K dM x=true:=by k_is) (k:keepIn K (.ref f)=true:=by k_is) (hb:∀(kV doc pm:aq) (an:Option av) (dM ct:aq),JW ps.length fun us=>bindArgs (fnOf x x (jm st) (fF st) (aQ st) .none kV doc pm an dM ct) ⟨us,[]⟩=pure (ps.zip us):=by (repeat intro _);rfl):uX K mg x x st ps:=WB X G a l c k hb
theorem WT{K:Frag}(X:K.In h)(G:h.Ns dz mg)(e:nsIn K dz x=some (some v):=by k_is):mg x=some v:=mg_of X G e
theorem UE{K:Frag}(X:K.In h)(G:h.Ns dz mg)(e:nsIn K dz x=some none:=by k_is):mg x=none:=mg_none_of X G e
theorem clS{K:Frag}{C:av}(a:plainGet K C Str.empty=true:=by k_is)(b:hasDictIn K C=true:=by k_is)(c:plainOver K C=true:=by k_is)(d:findIn K (.ref C) "__setattr__" =some (some (.builtin "object.__setattr__")):=by k_is):KC K C:=⟨a,b,c,d⟩
theorem naS{K:Frag}{C:av}{x:Str}(a:findIn K (.ref C) x=some none:=by k_is):jX K C x:=a
theorem inS{K:Frag}{C a:av}{st:bw}{x qual:Str}{ps:List Str}{oc:aq}{od an:Option av}{Ez:Array (Option aq)}{kV doc pm dM ct:aq}(i:findIn K (.ref C) "__init__" =some (some (.ref a)):=by k_is)(l:K.lookup a=some ⟨oc,od,.func (fnOf x qual (jm st) (fF st) (aQ st) .none kV doc pm an dM ct),Ez⟩:=by k_is)
  (c:codeIn K dM qual=true:=by k_is) (k:keepIn K (.ref a)=true:=by k_is) (m:makesIn K C=true:=by k_is) (f:isFn K (.ref a)=true:=by k_is) (q:keepIn K (.ref C)=true:=by k_is) (hb:∀(kV doc pm:aq) (an:Option av) (dM ct:aq),JW ps.length fun us=>bindArgs (fnOf x qual (jm st) (fF st) (aQ st) .none kV doc pm an dM ct) ⟨us,[]⟩=pure (ps.zip us):=by (repeat intro _);rfl) :
  ∃a fd,KH K x qual st a fd/\Mk K C a/\Binds K fd ps []:=⟨a,_,Bh (st:=st) l c k,⟨m,i,f,q⟩,Ah (Bh (st:=st) l c k) hb⟩
theorem aB8{K:Frag}(X:K.In h)(G:h.Ns dz mg)(ha:nsIn K dz x=some (some (.ref a)):=by k_is)(l:K.lookup a=some o:=by k_is)(d:o.data = .func fd:=by rfl)(hc:fd.code = .ref c:=by rfl)(ct:uY K c T=true:=by kernel_rfl):∀(f:av) (dM:aq),mg x=some (.ref f)->(∃o fd,K.lookup f=some o/\o.data = .func fd/\fd.code=dM)->∃c,dM = .ref c/\uY K c T=true:=Sy X G ha l d hc ct
theorem bmS{K:Frag}(X:K.In h)(G:h.Ns dz mg)(e:nsIn K dz "__builtins__" =some (some (.ref b)):=by k_is)(m:Kh K b T=true:=by kernel_rfl):∃b,mg "__builtins__" =some (.ref b)/\Kh K b T=true:=⟨b,mg_of X G e,m⟩
theorem vV{N P:List Str}{sc:iI}(a:sc.kind = .function:=by rfl)(b:sc.isCoroutine=false:=by rfl)(c:sc.isGenerator=false:=by rfl)(d:N.Nodup:=by decide +kernel)(e:N.take P.length=P:=by rfl)(f:∀x∈P,sc.names.lookup x=some .local\/sc.names.lookup x=some .cell:=by decide +kernel)(g:∀y∈sc.names,y.2≠ .free:=by decide +kernel):bV N P sc:=⟨a,b,c,d,e,f,g⟩
theorem kE:∀{Γ:List SK} {n:Nat},Γ.take n=lT n .par->∀i,i < n->Γ[i]?=some .par:=fun {Γ n} h i hi=>by
 rw[<- F6 hi,h,List.getElem?_replicate_of_lt hi]
end Dm
end aB7
section am1
namespace Pk
open PySem PySem.Spec PyProof.Rows L2 PySem.W Dm
def top(i:Nat):bw:=PySem.Challenge.pw_pegleap_k14_whole_reached_and_answered.main.body.getD i (.Pass ⟨0,0,0,0⟩)
abbrev vH:bw:=top 7
abbrev An:bw:=top 8
abbrev qC:bw:=top 9
abbrev ID:bw:=inClass (top 10) 0
abbrev tH:bw:=top 11
abbrev vI:bw:=top 12
abbrev Ao:bw:=top 13
abbrev IE:bw:=top 14
abbrev qD:bw:=top 17
abbrev qE:bw:=top 18
abbrev DR:bw:=top 19
abbrev yF:bw:=top 20
abbrev tK:bw:=top 22
abbrev vJ:bw:=top 23
abbrev qF:bw:=top 24
abbrev tL:bw:=top 25
abbrev dG:bw:=top 26
abbrev Aq:bw:=top 27
abbrev DT:bw:=top 28
abbrev vK:bw:=top 29
abbrev pK:bw:=top 31
abbrev yG:bw:=top 32
abbrev nX:bw:=top 33
abbrev pM:bw:=top 34
abbrev UG:bw:=top 35
structure k9 where
 GU:av
 fL:av
 fu:av
 lO:av
 tab:av
 WU:Tok
 C4:Tok
 Km:Tok
structure Txt(K:Frag)(mg:Str->Option aq)(t:k9):Prop where
 DU:uX K mg "is_rising" "is_rising" vH ["cells"]
 Kn:uX K mg "is_cell" "is_cell" An ["cell"]
 zx:uX K mg "check_cells" "check_cells" qC ["cells"]
 C5:uX K mg "check_pegs" "check_pegs" tH ["board","pegs"]
 DV:uX K mg "two_apart" "two_apart" vI ["cell"]
 Ko:uX K mg "between" "between" Ao ["cell","other"]
 SD:uX K mg "leaps" "leaps" IE ["board"]
 zy:uX K mg "can_be_done" "can_be_done" qD ["pegs","leap"]
 zA:uX K mg "pegs_behind" "pegs_behind" qE ["pegs","leap"]
 Pp:uX K mg "odd_on" "odd_on" DR ["colours","two"]
 GV:uX K mg "class_of" "class_of" yF ["board","pegs"]
 C6:uX K mg "steps_from" "steps_from" tK ["all_leaps","standing"]
 DW:uX K mg "next_rows" "next_rows" vJ ["all_leaps","layer"]
 zC:uX K mg "next_counts" "next_counts" qF ["all_leaps","layer"]
 C7:uX K mg "first_rows" "first_rows" tL ["board","pegs"]
 GW:uX K mg "in_order" "in_order" dG ["standings"]
 Kp:uX K mg "reached" "reached" Aq ["board","pegs"]
 Pq:uX K mg "answer" "answer" DT ["board","pegs","others"]
 DZ:uX K mg "row_count" "row_count" vK ["board","pegs","others"]
 yH:uX K mg "_law_cell_at" "_law_cell_at" pK ["script","k"]
 GX:uX K mg "_law_mix" "_law_mix" yG ["cell","k","many"]
 vW:uX K mg "_law_cells_by" "_law_cells_by" nX ["script","most"]
 yI:uX K mg "_law_pegs_by" "_law_pegs_by" pM ["cell","cells"]
 UH:uX K mg "law" "law" UG ["script"]
 am2:mg "all" =none
 vL:mg "enumerate" =none
 qG:mg "len" =none
 C8:mg "list" =none
 C9:mg "range" =none
 am3:mg "set" =none
 yJ:mg "sorted" =none
 qc:mg "tuple" =none
 Ar:mg "COLOURS" =some (.int (3) t.Km)
 GY:mg "LAST" =some (.int (7) t.WU)
 tM:mg "MOST_CELLS" =some (.int (24) t.C4)
 WV:mg "PegError" =some (.ref t.GU)
 rJ:mg "BadBoard" =some (.ref t.fL)
 As:mg "BadPegs" =some (.ref t.fu)
 SE:mg "Board" =some (.ref t.lO)
 rK:Ys K t.fL [.type "ValueError",.type "Exception",.type "BaseException",.type "object"] "ValueError.__new__" =true
 Au:Ys K t.fu [.type "ValueError",.type "Exception",.type "BaseException",.type "object"] "ValueError.__new__" =true
 aB9:∀(f:av) (dM:aq),mg "in_order" =some (.ref f)->(∃o fd,K.lookup f=some o/\o.data = .func fd/\fd.code=dM)->∃c,dM = .ref c/\uY K c t.tab=true
 aC0:∃b,mg "__builtins__" =some (.ref b)/\Kh K b t.tab=true
 aC1:dz≠t.tab
 clB:KC K t.lO
 naB:jX K t.lO "cells"
 iB:∃a fd,KH K "__init__" "Board.__init__" ID a fd/\Mk K t.lO a/\Binds K fd ["self","cells"] []
theorem E2:ExcBaseFacts "ValueError" "ValueError.__new__" "ValueError.__init__" [.type "ValueError",.type "Exception",.type "BaseException",.type "object"]  :=PySem.F.excBase_ValueError
theorem nQ:lE "len" =some (.builtin "len"):=by decide +kernel
theorem wD:lE "list" =some (.type "list"):=by decide +kernel
def fH(t:k9):List D->R D:=cM 1 (gf (bK (n9 false) (ao 0) (wz l6 (ao 0))))
def mV(t:k9):List D->R D:=cM 1 (gf (oh (nN Uv Uv (dC (.int 0)) (bK jP (ao 0) (dC (.int 0))) (dC (.int (7)))) (nN Uv Uv (dC (.int 0)) (bK jP (ao 0) (dC (.int 1))) (dC (.int (7))))))
def cH(t:k9):List D->R D:=cM 2 (bR (fm (uR (nN Uv Uv (dC (.int 1)) (bZ mq (aa (ao 0) aG)) (dC (.int (24)))))
 (iY t.fL)
 cP)
 (bR (fm (uR (bZ (fH t) (aa (ao 0) aG)))
 (iY t.fL)
 cP)
 (ir (jA (ao 0)) (eO 1)
 (fm (uR (bZ (mV t) (aa (ao 1) aG)))
 (iY t.fL)
 cP))))
def dg(t:k9):List D->R D:=cM 3 (bR (fm (uR (bZ (fH t) (aa (ao 1) aG)))
 (iY t.fu)
 cP)
 (ir (jA (ao 1)) (eO 2)
 (fm (bK (oj true) (ao 2) (wz fq (ao 0)))
 (iY t.fu)
 cP)))
def jb(t:k9):List D->R D:=cM 3 (bR (dU 1 (cN (bK jP (ao 0) (dC (.int 0)))))
 (bR (dU 2 (cN (bK jP (ao 0) (dC (.int 1)))))
 (gf (gO 100 (aa (dI 100 (aa (bK s8 (ao 1) (dC (.int 2))) (aa (cN (ao 2)) aG))) (aa (dI 100 (aa (cN (ao 1)) (aa (bK s8 (ao 2) (dC (.int 2))) aG))) (aa (dI 100 (aa (cN (ao 1)) (aa (bK i7 (ao 2) (dC (.int 2))) aG))) (aa (dI 100 (aa (bK i7 (ao 1) (dC (.int 2))) (aa (cN (ao 2)) aG))) aG))))))))
def iu(t:k9):List D->R D:=cM 2 (gf (dI 100 (aa (bK rC (bK i7 (bK jP (ao 0) (dC (.int 0))) (bK jP (ao 1) (dC (.int 0)))) (dC (.int 2))) (aa (bK rC (bK i7 (bK jP (ao 0) (dC (.int 1))) (bK jP (ao 1) (dC (.int 1)))) (dC (.int 2))) aG))))
def tN(t:k9):List D->R D:=cM 4 (bR (dU 1 (gO 100 aG))
 (bR (ir (jA (wz fq (ao 0))) (eO 2)
 (ir (jA (bZ (jb t) (aa (ao 2) aG))) (eO 3)
 (fm (oh (bK (oj false) (ao 3) (wz fq (ao 0))) (bK (oj false) (bZ (iu t) (aa (ao 2) (aa (ao 3) aG))) (wz fq (ao 0))))
 (zj 1 (dI 100 (aa (cN (ao 2)) (aa (cN (ao 3)) aG))))
 cP)))
 (gf (ao 1))))
def jJ(t:k9):List D->R D:=cM 2 (gf (oh (bK (oj false) (bK jP (ao 1) (dC (.int 0))) (ao 0)) (oh (bK (oj true) (bK jP (ao 1) (dC (.int 1))) (ao 0)) (bK (oj false) (bZ (iu t) (aa (bK jP (ao 1) (dC (.int 0))) (aa (bK jP (ao 1) (dC (.int 1))) aG))) (ao 0)))))
def jK(t:k9):List D->R D:=cM 3 (bR (dU 2 (dI 100 (aa (cN (bK jP (ao 1) (dC (.int 0)))) (aa (bZ (iu t) (aa (bK jP (ao 1) (dC (.int 0))) (aa (bK jP (ao 1) (dC (.int 1))) aG))) aG))))
 (gf (bZ rF (aa (bK rD (iS (iTp (ao 0)) 1 [2] (eO 0) (bK (oj true) (ao 0) (ao 1)) (cN (ao 0))) (gO 100 (aa (cN (bK jP (ao 1) (dC (.int 1)))) aG))) aG))))
def l8(t:k9):List D->R D:=cM 2 (gf (bK jz (bZ mq (aa (iS (jA (ao 0)) 1 [1] (eO 0) (bK (oj false) (ao 0) (ao 1)) (cN (ao 0))) aG)) (dC (.int 2))))
def dH(t:k9):List D->R D:=cM 4 (bR (qv (bZ (dg t) (aa (ao 0) (aa (ao 1) aG))))
 (bR (dU 2 (iS (jA (ao 1)) 1 [] (eO 0) (dC (.bl true)) (bK jz (bK i7 (bK jP (ao 0) (dC (.int 0))) (bK jP (ao 0) (dC (.int 1)))) (dC (.int (3))))))
 (bR (dU 3 (iS (jA (ao 1)) 1 [] (eO 0) (dC (.bl true)) (bK jz (bK s8 (bK jP (ao 0) (dC (.int 0))) (bK jP (ao 0) (dC (.int 1)))) (dC (.int (3))))))
 (gf (dI 100 (aa (bZ (l8 t) (aa (ao 2) (aa (dI 100 (aa (dC (.int 0)) (aa (dC (.int 1)) aG))) aG))) (aa (bZ (l8 t) (aa (ao 2) (aa (dI 100 (aa (dC (.int 1)) (aa (dC (.int 2)) aG))) aG))) (aa (bZ (l8 t) (aa (ao 3) (aa (dI 100 (aa (dC (.int 0)) (aa (dC (.int 1)) aG))) aG))) (aa (bZ (l8 t) (aa (ao 3) (aa (dI 100 (aa (dC (.int 1)) (aa (dC (.int 2)) aG))) aG))) aG)))))))))
def eG(t:k9):List D->R D:=cM 2 (gf (iS (jA (ao 0)) 1 [1] (eO 0) (bZ (jJ t) (aa (ao 1) (aa (ao 0) aG))) (dI 100 (aa (cN (ao 0)) (aa (bZ j7 (aa (bZ (jK t) (aa (ao 1) (aa (ao 0) aG))) aG)) aG)))))
def jM(t:k9):List D->R D:=cM 7 (bR (dU 2 (dC (.bM 2 [])))
 (bR (ir (zv (ao 1)) (gP 3 4)
 (ir (jA (bZ (eG t) (aa (ao 0) (aa (ao 3) aG)))) (gP 5 6)
 (fm (bK (tu true) (ao 6) (ao 2))
 (GJ 2 (ao 6) (bK rD (ao 4) (gO 100 (aa (cN (ao 5)) aG))))
 cP)))
 (gf (ao 2))))
def iT(t:k9):List D->R D:=cM 7 (bR (dU 2 (dC (.bM 2 [])))
 (bR (ir (zv (ao 1)) (gP 3 4)
 (ir (jA (bZ (eG t) (aa (ao 0) (aa (ao 3) aG)))) (gP 5 6)
 (vF 2 (ao 6) (bK i7 (tF (ao 2) (ao 6) (dC (.int 0))) (ao 4)))))
 (gf (ao 2))))
def iw(t:k9):List D->R D:=cM 5 (bR (dU 2 (bZ (tN t) (aa (ao 0) aG)))
 (bR (dU 3 (dC (.bM 2 [])))
 (bR (dU 4 (yD (bZ j7 (aa (ao 1) aG)) (gO 100 aG)))
 (bR (vU (bK Qz (bZ qA (aa (ao 4) aG)) (dC (.int 0)))
 (bR (K7 3 (ao 4))
 (dU 4 (bZ (jM t) (aa (ao 2) (aa (ao 4) aG))))) 40)
 (gf (ao 3))))))
def i8(t:k9):List D->R D:=cM 1 (gf (wz rG (iS (Si (ao 0)) 1 [] (eO 0) (dC (.bl true)) (bZ lJ (aa (ao 0) aG)))))
def kJ(t:k9):List D->R D:=cM 2 (bR (qv (bZ (dg t) (aa (ao 0) (aa (ao 1) aG))))
 (gf (bZ (i8 t) (aa (bZ (iw t) (aa (ao 0) (aa (ao 1) aG))) aG))))
def pN(t:k9):List D->R D:=cM 4 (bR (qv (bZ (dg t) (aa (ao 0) (aa (ao 1) aG))))
 (bR (qv (bZ (dg t) (aa (ao 0) (aa (ao 2) aG))))
 (bR (fm (bK (n9 true) (bZ (dH t) (aa (ao 0) (aa (ao 1) aG))) (bZ (dH t) (aa (ao 0) (aa (ao 2) aG))))
 (gf (dI 100 (aa (dC (.str "never")) (aa (dI 100 (aa (dC (.str "class")) aG)) aG))))
 cP)
 (bR (dU 3 (bZ (iw t) (aa (ao 0) (aa (ao 1) aG))))
 (bR (fm (bK (tu false) (bZ j7 (aa (ao 2) aG)) (ao 3))
 (gf (tE "leaps" (bK qB (ao 3) (bZ j7 (aa (ao 2) aG)))))
 cP)
 (gf (dI 100 (aa (dC (.str "never")) (aa (tE "closed" (bZ (i8 t) (aa (ao 3) aG))) aG)))))))))
def jN(t:k9):List D->R D:=cM 6 (bR (qv (bZ (dg t) (aa (ao 0) (aa (ao 1) aG))))
 (bR (qv (bZ (dg t) (aa (ao 0) (aa (ao 2) aG))))
 (bR (dU 3 (bZ (tN t) (aa (ao 0) aG)))
 (bR (dU 4 (yD (bZ j7 (aa (ao 1) aG)) (dC (.int 1))))
 (bR (ir (uV (aa (bK s8 (bZ mq (aa (ao 1) aG)) (bZ mq (aa (ao 2) aG))) aG)) (eO 5)
 (dU 4 (bZ (iT t) (aa (ao 3) (aa (ao 4) aG)))))
 (gf (tF (ao 4) (bZ j7 (aa (ao 2) aG)) (dC (.int 0)))))))))
def bJ(t:k9):List D->R D:=cM 2 (bR (fm (bK gLt (ao 1) (bZ mq (aa (ao 0) aG)))
 (gf (cN (bK jP (ao 0) (ao 1))))
 cP)
 (gf (dC (.int 0))))
def b7(t:k9):List D->R D:=cM 5 (bR (dU 3 (gO 100 (aa (dC (.int 48271)) (aa (dC (.int 69621)) (aa (dC (.int 16807)) (aa (dC (.int 39373)) (aa (dC (.int 30269)) (aa (dC (.int 40014)) (aa (dC (.int 40692)) (aa (dC (.int 50021)) (aa (dC (.int 61687)) (aa (dC (.int 71993)) (aa (dC (.int 83869)) (aa (dC (.int 95561)) (aa (dC (.int 30307)) aG)))))))))))))))
 (bR (dU 4 (bK pF (bK i7 (bK jz (ao 0) (dC (.int 2147483647))) (dC (.int 12345))) (bK jP (ao 3) (bK jz (ao 1) (dC (.int 13))))))
 (bR (dU 4 (bK i7 (bK pF (ao 4) (bK i7 (bK pF (dC (.int 2)) (bK rC (ao 1) (dC (.int 13)))) (dC (.int 1)))) (bK pF (dC (.int 977)) (ao 1))))
 (gf (bK jz (bK rC (bK jz (ao 4) (dC (.int 1000000007))) (dC (.int 7))) (ao 2))))))
def dZ(t:k9):List D->R D:=cM 9 (bR (dU 2 (bZ (bJ t) (aa (ao 0) (aa (dC (.int 0)) aG))))
 (bR (Dw 3 4 (aa (bK i7 (dC (.int 1)) (bZ (b7 t) (aa (ao 2) (aa (dC (.int 1)) (aa (dC (.int 4)) aG))))) (aa (bK i7 (dC (.int 1)) (bZ (b7 t) (aa (ao 2) (aa (dC (.int 2)) (aa (dC (.int 6)) aG))))) aG)))
 (bR (fm (bK (n9 false) (bK jz (ao 2) (dC (.int 4))) (dC (.int 1)))
 (Ad (gP 3 4) (cN (bK jP (gO 100 (aa (dI 100 (aa (bK i7 (dC (.int 1)) (bK jz (ao 3) (dC (.int 3)))) (aa (dC (.int 8)) aG))) (aa (dI 100 (aa (dC (.int 8)) (aa (bK i7 (dC (.int 1)) (bK jz (ao 4) (dC (.int 3)))) aG))) aG))) (bK jz (bK rC (ao 2) (dC (.int 4))) (dC (.int 2))))))
 cP)
 (bR (Dw 5 6 (aa (bZ (b7 t) (aa (ao 2) (aa (dC (.int 3)) (aa (bK s8 (dC (.int 9)) (ao 3)) aG)))) (aa (bZ (b7 t) (aa (ao 2) (aa (dC (.int 4)) (aa (bK s8 (dC (.int 9)) (ao 4)) aG)))) aG)))
 (bR (dU 7 (gO 100 aG))
 (bR (ir (uV (aa (bK pF (ao 3) (ao 4)) aG)) (eO 8)
 (fm (bK Qz (bZ (b7 t) (aa (bZ (bJ t) (aa (ao 0) (aa (dC (.int 1)) aG))) (aa (ao 8) (aa (dC (.int 7)) aG)))) (dC (.int 0)))
 (zj 7 (dI 100 (aa (bK i7 (ao 5) (bK rC (ao 8) (ao 4))) (aa (bK i7 (ao 6) (bK jz (ao 8) (ao 4))) aG))))
 cP))
 (bR (fm (bK (n9 false) (bZ mq (aa (ao 7) aG)) (dC (.int 0)))
 (dU 7 (gO 100 (aa (dI 100 (aa (cN (ao 5)) (aa (cN (ao 6)) aG))) aG)))
 cP)
 (gf (KY (ao 7) none (some (ao 1)))))))))))
def i9(t:k9):List D->R D:=cM 4 (bR (dU 2 (bZ (b7 t) (aa (ao 0) (aa (dC (.int 40)) (aa (dC (.int 4)) aG)))))
 (bR (fm (bK (n9 false) (ao 2) (dC (.int 0)))
 (bR (dU 3 (bZ (b7 t) (aa (ao 0) (aa (dC (.int 41)) (aa (bZ mq (aa (ao 1) aG)) aG)))))
 (gf (bK rD (KY (ao 1) none (some (ao 3))) (KY (ao 1) (some (bK i7 (ao 3) (dC (.int 1)))) none))))
 cP)
 (gf (iS (DJ (ao 1)) 2 [0,2] (gP 0 1) (bK Qz (bZ (b7 t) (aa (ao 2) (aa (ao 0) (aa (bK jP (gO 100 (aa (dC (.int 0)) (aa (dC (.int 2)) (aa (dC (.int 3)) (aa (dC (.int 4)) aG))))) (ao 3)) aG)))) (dC (.int 0))) (cN (ao 1))))))
def Av(t:k9):List D->R D:=cM 9 (bR (dU 1 (bZ (dZ t) (aa (ao 0) (aa (dC (.int 8)) aG))))
 (bR (dU 2 (bZ (rE (cH t)) (aa (bZ lJ (aa (ao 1) aG)) aG)))
 (bR (dU 3 (bZ (i9 t) (aa (bZ (bJ t) (aa (ao 0) (aa (dC (.int 2)) aG))) (aa (ao 1) aG))))
 (bR (dU 4 (bZ (kJ t) (aa (ao 2) (aa (ao 3) aG))))
 (bR (dU 5 (bZ (bJ t) (aa (ao 0) (aa (dC (.int 3)) aG))))
 (bR (ir (uV (aa (dC (.int 6)) aG)) (eO 6)
 (bR (dU 7 (iS (DJ (ao 1)) 2 [5,6] (gP 0 1) (bK (n9 false) (bZ (b7 t) (aa (ao 2) (aa (bK i7 (bK pF (dC (.int 10)) (ao 3)) (ao 0)) (aa (dC (.int 2)) aG)))) (dC (.int 0))) (cN (ao 1))))
 (bR (fm (bK (n9 false) (bZ (b7 t) (aa (ao 5) (aa (bK i7 (dC (.int 100)) (ao 6)) (aa (dC (.int 2)) aG)))) (dC (.int 0)))
 (dU 7 (bZ lJ (aa (bK jP (ao 4) (bZ (b7 t) (aa (ao 5) (aa (bK i7 (dC (.int 110)) (ao 6)) (aa (bZ mq (aa (ao 4) aG)) aG))))) aG)))
 cP)
 (bR (dU 8 (bK (oj false) (ao 7) (ao 4)))
 (bR (fm (YF (bK (n9 true) (bK (n9 false) (bK jP (bZ (pN t) (aa (ao 2) (aa (ao 3) (aa (ao 7) aG)))) (dC (.int 0))) (dC (.str "leaps"))) (ao 8)) (bK (n9 true) (bK Qz (bZ (jN t) (aa (ao 2) (aa (ao 3) (aa (ao 7) aG)))) (dC (.int 0))) (ao 8)))
 (gf (dC (.bl false)))
 cP)
 (bR (fm (oh (ao 8) (bK (n9 true) (bZ (dH t) (aa (ao 2) (aa (ao 7) aG))) (bZ (dH t) (aa (ao 2) (aa (ao 3) aG)))))
 (gf (dC (.bl false)))
 cP)
 (fm (oh (ao 8) (uR (bZ K2 (aa (iS (jA (bZ (kJ t) (aa (ao 2) (aa (ao 7) aG)))) 1 [4] (eO 0) (dC (.bl true)) (bK (oj false) (ao 0) (ao 1))) aG))))
 (gf (dC (.bl false)))
 cP)))))))
 (gf (dC (.bl true)))))))))
abbrev vX(t:k9):Cfg:=cA t.lO (UD t.tab (vG dG) "in_order.<locals>.<lambda>")
section
variable {P:dh}{w:bN}{K:Frag}{mg:Str->Option aq}{base:aX}{t:k9}
theorem zD(t:k9):WO "pegs" "in_order.<locals>.<lambda>" (Sz dG) (SA dG) (Pn dG):=⟨rfl,rfl,rfl,rfl,rfl,fun _ _ _ _ _=>.of_eq rfl,by decide⟩
theorem tO(T:Txt K mg t):FD P w K mg base (vX t) 1 "is_rising" ["cells"] 1 (fH t) true:=
 have hS:bV ["cells"] ["cells"] (aQ vH):=vV;gR (Γ:=[.par]) T.DU hS rfl (kE rfl) fun f dM hc A outer s H E hr=>
 by
 walk_at"+2"
 refine pD (aK:=.old) (cW:=.new) (rq hr.units) l0 ?_ ?_ (iE _)
 walk_at"("
 refine GB (κ:=.old) hr.hd hr.units T.yJ T.am3 ?_
 walk_at"("
theorem GZ(T:Txt K mg t):FD P w K mg base (vX t) 1 "is_cell" ["cell"] 1 (mV t) true:=
 have hS:bV ["cell"] ["cell"] (aQ An):=vV;gR (Γ:=[.par]) T.Kn hS rfl (kE rfl) fun f dM hc A outer s H E hr=>
 by
 walk_at"+2"
 refine GA (aK:=.new) ?_ ?_
 refine Ds (aK:=.new) (cW:=.old) (EG:=.new) zL zL uT uT ?_ ?_ ?_
 walk_at"!3(!"
 exact sW rfl T.GY
 refine Om ?_
 refine Ds (aK:=.new) (cW:=.old) (EG:=.new) zL zL uT uT ?_ ?_ ?_
 walk_at"!3(!"
 exact sW rfl T.GY
theorem yK(T:Txt K mg t):FD P w K mg base (vX t) 2 "check_cells" ["cells"] 1 (cH t) true:=
 have hS:bV ["cells","cell"] ["cells"] (aQ qC):=vV;gR (Γ:=[.par,.par]) T.zx hS rfl (kE rfl) fun f dM hc A outer s H E hr=>
 by
 walk_at")"
 refine jD ?_   ?_   gJ
 refine yj ?_
 refine Oz (aK:=.new) (cW:=.new) (EG:=.new) zL zL uT uT ?_ ?_ ?_
 exact aE
 refine iR (aK:=.aO) lI ?_
 refine gD fE rfl T.qG nQ ?_
 walk_at"%(&"
 exact sW rfl T.tM
 walk_at"+"
 exact mQ E2 hr.hd T.rJ T.rK (DH (all_cons (kH (n:=500) (by decide +kernel)) (all_cons (Dy (n:=500) T.tM (by decide) (by decide +kernel)) (all_cons (kH (n:=500) (by decide +kernel)) all_nil))) (by decide))
 walk_at")"
 refine jD ?_   ?_   gJ
 refine yj ?_
 refine yi (κ:=.new) ?_
 refine aN (κ:=.aO) (tO T) hr (by decide) ?_ (au aW)
 walk_at"%(&+"
 exact mQ E2 hr.hd T.rJ T.rK (kH (n:=500) (by decide +kernel))
 walk_at"+"
 refine ja (κ:=.old) (cG ⟨rfl,rfl⟩) rfl ?_ rfl (cB (i:=1) (by exact hS.nd) rfl (cy rfl)) (gQ (i:=1) (k:=.par))   ?_
 walk_at"(+"
 refine jD ?_   ?_   gJ
 refine yj ?_
 refine yi (κ:=.new) ?_
 refine aN (κ:=.aO) (GZ T) hr (by decide) ?_ (au aW)
 walk_at"%,&+"
 exact mQ E2 hr.hd T.rJ T.rK (DH (all_cons (kH (n:=500) (by decide +kernel)) (all_cons (Dy (n:=500) T.GY (by decide) (by decide +kernel)) all_nil)) (by decide))
theorem Pr(T:Txt K mg t){fi:av}{fd:gH}(F:KH K "__init__" "Board.__init__" ID fi fd):jY P w K mg base (pU P w) 3 fi fd ["self","cells"] (BW K t.lO (UD t.tab (vG dG) "in_order.<locals>.<lambda>") (cH t)):=
 RY (κ:=.new) F vV T.clB T.naB fun dM A outer s H E hr=>by
 refine CK ?_ ?_
 ·refine vZ ?_
  refine aN (κ:=.aO) (yK T) hr (by decide) ?_ (au aW)
  walk_at"%"
  ·walk_at","
  ·walk_at"&"
 ·refine HC ?_
  refine Vs (pv 0) ?_ rfl
  refine iR (aK:=.aO) sZ ?_
  refine fS kq rfl T.C8 wD ?_
  walk_at"%"
  ·walk_at","
  ·walk_at"&"
theorem gF(T:Txt K mg t):FD P w K mg base (vX t) 2 "check_pegs" ["board","pegs"] 2 (dg t) true:=
 have hS:bV ["board","pegs","cell"] ["board","pegs"] (aQ tH):=vV;gR (Γ:=[.par,.par,.par]) T.C5 hS rfl (kE rfl) fun f dM hc A outer s H E hr=>
 by
 walk_at")"
 refine jD ?_   ?_   gJ
 refine yj ?_
 refine yi (κ:=.new) ?_
 refine aN (κ:=.aO) (tO T) hr (by decide) ?_ (au aW)
 walk_at"%,&+"
 exact mQ E2 hr.hd T.As T.Au (kH (n:=500) (by decide +kernel))
 walk_at"+"
 refine ja (κ:=.old) (cG ⟨rfl,rfl⟩) rfl ?_ rfl (cB (i:=2) (by exact hS.nd) rfl (cy rfl)) (gQ (i:=2) (k:=.par))   ?_
 walk_at",+"
 refine jD ?_   ?_   gJ
 refine fY (aK:=.old) (cW:=.old) (uO hr.units) m9 ?_ ?_ (by with_unfolding_all rfl)
 walk_at"0"
 refine t9 (aK:=.old) T.clB T.naB ?_
 walk_at"(+"
 exact mQ E2 hr.hd T.As T.Au (kH (n:=500) (by decide +kernel))
theorem Ca(T:Txt K mg t):FD P w K mg base (vX t) 1 "two_apart" ["cell"] 1 (jb t) true:=
 have hS:bV ["cell","row","column"] ["cell"] (aQ vI):=vV;gR (Γ:=[.par,.par,.par]) T.DV hS rfl (kE rfl) fun f dM hc A outer s H E hr=>
 by
 walk_at")"
 refine d8 (i:=1) (k:=.par) (κ:=.new) ?_ ?_
 exact hS.nd
 refine dX (κ:=.old) ?_
 walk_at"3(!)"
 refine d8 (i:=2) (k:=.par) (κ:=.new) ?_ ?_
 exact hS.nd
 refine dX (κ:=.old) ?_
 walk_at"3(!+2"
 refine mh ?_
 walk_at"'"
 refine fW ?_
 walk_at"'"
 refine bW (aK:=.old) (cW:=.new) uD pX ?_ ?_
 walk_at",!'"
 refine dX (κ:=.old) ?_
 walk_at"01'"
 refine fW ?_
 walk_at"'"
 refine dX (κ:=.old) ?_
 walk_at",'"
 refine bW (aK:=.old) (cW:=.new) uD pX ?_ ?_
 walk_at"0!1'"
 refine fW ?_
 walk_at"'"
 refine dX (κ:=.old) ?_
 walk_at",'"
 refine bW (aK:=.old) (cW:=.new) gu eE ?_ ?_
 walk_at"0!1'"
 refine fW ?_
 walk_at"'"
 refine bW (aK:=.old) (cW:=.new) gu eE ?_ ?_
 walk_at",!'"
 refine dX (κ:=.old) ?_
 walk_at"011"
theorem rL(T:Txt K mg t):FD P w K mg base (vX t) 1 "between" ["cell","other"] 2 (iu t) true:=
 have hS:bV ["cell","other"] ["cell","other"] (aQ Ao):=vV;gR (Γ:=[.par,.par]) T.Ko hS rfl (kE rfl) fun f dM hc A outer s H E hr=>
 by
 walk_at"+2"
 refine fW ?_
 walk_at"'"
 refine bW (aK:=.new) (cW:=.new) pT pZ ?_ ?_
 refine bW (aK:=.old) (cW:=.old) gu eE ?_ ?_
 walk_at"3(!3,!!'"
 refine bW (aK:=.new) (cW:=.new) pT pZ ?_ ?_
 refine bW (aK:=.old) (cW:=.old) gu eE ?_ ?_
 walk_at"3(!3,!!1"
theorem E3(T:Txt K mg t):FD P w K mg base (vX t) 2 "leaps" ["board"] 1 (tN t) true:=
 have hS:bV ["board","found","first","second"] ["board"] (aQ IE):=vV;gR (Γ:=[.par,.own true,.par,.par]) T.SD hS rfl (kE rfl) fun f dM hc A outer s H E hr=>
 by
 walk_at")"
 refine d8 (i:=1) (k:=(.own true)) (κ:=.new) ?_ ?_
 exact hS.nd
 refine mh ?_
 walk_at"1)"
 refine ja (κ:=.old) (cG ⟨rfl,rfl⟩) rfl ?_ rfl (cB (i:=2) (by exact hS.nd) rfl (cy rfl)) (gQ (i:=2) (k:=.par))   ?_
 refine t9 (aK:=.old) T.clB T.naB ?_
 walk_at"(+"
 refine ja (κ:=.new) (cG ⟨rfl,rfl⟩) rfl ?_ rfl (cB (i:=3) (by exact hS.nd) rfl (cy rfl)) (gQ (i:=3) (k:=.par))   ?_
 refine aN (κ:=.aO) (Ca T) hr (by decide) ?_ (au aW)
 walk_at"%0&+"
 refine jD ?_   ?_   gJ
 refine PW.pt ?_
 refine Gz ?_ ?_
 refine fY (aK:=.old) (cW:=.old) (rA hr.units) m9 ?_ ?_ (by with_unfolding_all rfl)
 exact ak 3 (pv 3)
 refine t9 (aK:=.old) T.clB T.naB ?_
 walk_at"("
 refine BN ?_
 refine fY (aK:=.new) (cW:=.old) (rA hr.units) m9 ?_ ?_ (by with_unfolding_all rfl)
 refine aN (κ:=.aO) (rL T) hr (by decide) ?_ (au (au aW))
 walk_at"%0%"
 exact ak 3 (pv 3)
 walk_at"&"
 refine t9 (aK:=.old) T.clB T.naB ?_
 walk_at"(+"
 refine Ot (i:=1) (κ:=.new) (to:=uC 1) ?_ rfl
 refine U7 MV MW MX uG (pv 1) ?_
 refine iU ?_ m7
 refine fW ?_
 walk_at"'"
 refine dX (κ:=.old) ?_
 walk_at"0'"
 refine dX (κ:=.old) ?_
 exact ak 3 (pv 3)
 walk_at"1+"
 refine d9 (κ:=.qg) ?_
 exact lN 1 (pv 1)
theorem yL(T:Txt K mg t):FD P w K mg base (vX t) 2 "can_be_done" ["pegs","leap"] 2 (jJ t) true:=
 have hS:bV ["pegs","leap"] ["pegs","leap"] (aQ qD):=vV;gR (Γ:=[.par,.par]) T.zy hS rfl (kE rfl) fun f dM hc A outer s H E hr=>
 by
 walk_at"+2"
 refine GA (aK:=.new) ?_ ?_
 refine pD (aK:=.old) (cW:=.old) (rA hr.units) m9 ?_ ?_ (by with_unfolding_all rfl)
 walk_at"3,!("
 refine GA (aK:=.new) ?_ ?_
 refine pD (aK:=.old) (cW:=.old) (uO hr.units) m9 ?_ ?_ (by with_unfolding_all rfl)
 walk_at"3,!("
 refine Om ?_
 refine pD (aK:=.new) (cW:=.old) (rA hr.units) m9 ?_ ?_ (by with_unfolding_all rfl)
 refine aN (κ:=.aO) (rL T) hr (by decide) ?_ (au (au aW))
 walk_at"%3,!%3,!&("
theorem yM(T:Txt K mg t):FD P w K mg base (vX t) 2 "pegs_behind" ["pegs","leap"] 2 (jK t) true:=
 have hS:bV ["pegs","leap","taken"] ["pegs","leap"] (aQ qE):=vV;gR (Γ:=[.par,.par,.par]) T.zA hS rfl (kE rfl) fun f dM hc A outer s H E hr=>
 by
 walk_at")"
 refine d8 (i:=2) (k:=.par) (κ:=.new) ?_ ?_
 exact hS.nd
 refine fW ?_
 walk_at"'"
 refine dX (κ:=.old) ?_
 walk_at"3,!'"
 refine aN (κ:=.aO) (rL T) hr (by decide) ?_ (au (au aW))
 walk_at"%3,!%3,!&1+2"
 refine iR (aK:=.aO) JZ ?_
 refine gD (BH hr.units) rfl T.yJ Ac ?_
 walk_at"-"
 refine bW (aK:=.new) (cW:=.new) BR BS ?_ ?_
 refine mR (n:=true) (z:=true) (gU:=["cell"]) (caps:=[(2,"taken")]) ?_ (JR.mk (tX:=.new) (n:=true) (z:=true) (gU:=["cell"]) (caps:=[(2,"taken")]) rfl rfl (by decide +kernel) ?_ ?_ (by with_unfolding_all rfl) (by decide +kernel) ?_ (fun _ p hp=>by simp only[bP,eS,aI2] at hp;rcases hp with rfl <;> first | exact cy rfl | exact f9 rfl) (gQ (i:=0) (k:=.par)) (fun fp s0 H0 L=>cB (i:=0) (by exact(show kO (["cell","taken"]:List Str) from by decide +kernel)) rfl (cy rfl) (f9 rfl)) (fun fp s0 H0 L=>mP ?_) (fun fp s0 H0 L=>?_) (fun _=>rfl) (fun h=>nomatch h))
 refine WC (κ:=.old) ?_ (fun _=>rfl)
 walk_at"("
 exact nO (by intro p hp;simp only[bP,eS,aI2] at hp;rcases hp with rfl <;> rfl)
 exact kC (by rfl)
 exact⟨⟨rfl,rfl,rfl,rfl⟩,trivial⟩
 refine fY (aK:=.old) (cW:=.old) (uO hr.units) m9 ?_ ?_ (by with_unfolding_all rfl)
 walk_at"(,"
 refine dX (κ:=.old) ?_
 walk_at"("
 refine mh ?_
 walk_at"'"
 refine dX (κ:=.old) ?_
 walk_at"3,!1&"
theorem qd(T:Txt K mg t):FD P w K mg base (vX t) 1 "odd_on" ["colours","two"] 2 (l8 t) true:=
 have hS:bV ["colours","two"] ["colours","two"] (aQ DR):=vV;gR (Γ:=[.par,.par]) T.Pp hS rfl (kE rfl) fun f dM hc A outer s H E hr=>
 by
 walk_at"+2"
 refine bW (aK:=.new) (cW:=.new) jW iX ?_ ?_
 refine iR (aK:=.aO) lI ?_
 refine gD fE rfl T.qG nQ ?_
 walk_at"-"
 refine mR (n:=true) (z:=true) (gU:=["colour"]) (caps:=[(1,"two")]) ?_ (JR.mk (tX:=.new) (n:=true) (z:=true) (gU:=["colour"]) (caps:=[(1,"two")]) rfl rfl (by decide +kernel) ?_ ?_ (by with_unfolding_all rfl) (by decide +kernel) ?_ (fun _ p hp=>by simp only[bP,eS,aI2] at hp;rcases hp with rfl <;> first | exact cy rfl | exact f9 rfl) (gQ (i:=0) (k:=.par)) (fun fp s0 H0 L=>cB (i:=0) (by exact(show kO (["colour","two"]:List Str) from by decide +kernel)) rfl (cy rfl) (f9 rfl)) (fun fp s0 H0 L=>mP ?_) (fun fp s0 H0 L=>?_) (fun _=>rfl) (fun h=>nomatch h))
 refine t7 (κ:=.old) ?_ (fun _=>rfl)
 walk_at"("
 exact nO (by intro p hp;simp only[bP,eS,aI2] at hp;rcases hp with rfl <;> rfl)
 exact kC (by rfl)
 exact⟨⟨rfl,rfl,rfl,rfl⟩,trivial⟩
 refine fY (aK:=.old) (cW:=.old) (rA hr.units) m9 ?_ ?_ (by with_unfolding_all rfl)
 walk_at"(,"
 refine dX (κ:=.old) ?_
 walk_at"(&!"
theorem lP(T:Txt K mg t):FD P w K mg base (vX t) 3 "class_of" ["board","pegs"] 2 (dH t) true:=
 have hS:bV ["board","pegs","by_sum","by_difference"] ["board","pegs"] (aQ yF):=vV;gR (Γ:=[.par,.par,.par,.par]) T.GV hS rfl (kE rfl) fun f dM hc A outer s H E hr=>
 by
 walk_at")"
 refine q8 (κ:=.new) ?_
 refine aN (κ:=.aO) (gF T) hr (by decide) ?_ (au (au aW))
 walk_at"%(%,&)"
 refine yy (i:=2) (k:=.par) (n:=true) (z:=true) (gU:=["cell"]) (caps:=[]) ?_ ?_ (JR.mk (tX:=.new) (n:=true) (z:=true) (gU:=["cell"]) (caps:=[]) rfl rfl (by decide +kernel) ?_ ?_ (by with_unfolding_all rfl) (by decide +kernel) ?_ (fun _ p hp=>by cases hp) (gQ (i:=0) (k:=.par)) (fun fp s0 H0 L=>cB (i:=0) (by exact(show kO (["cell"]:List Str) from by decide +kernel)) rfl (cy rfl) (f9 rfl)) (fun fp s0 H0 L=>q9 (ft:=dC (.bl true))) (fun fp s0 H0 L=>?_) (fun _=>rfl) (fun h=>nomatch h))
 exact hS.nd
 refine t7 (κ:=.old) ?_ (fun _=>rfl)
 walk_at","
 exact nO (by intro p hp;cases hp)
 exact kC (by rfl)
 exact trivial
 refine bW (aK:=.new) (cW:=.new) jW iX ?_ ?_
 refine bW (aK:=.old) (cW:=.old) gu eE ?_ ?_
 walk_at"3(!3(!"
 exact sW rfl T.Ar
 walk_at")"
 refine yy (i:=3) (k:=.par) (n:=true) (z:=true) (gU:=["cell"]) (caps:=[]) ?_ ?_ (JR.mk (tX:=.new) (n:=true) (z:=true) (gU:=["cell"]) (caps:=[]) rfl rfl (by decide +kernel) ?_ ?_ (by with_unfolding_all rfl) (by decide +kernel) ?_ (fun _ p hp=>by cases hp) (gQ (i:=0) (k:=.par)) (fun fp s0 H0 L=>cB (i:=0) (by exact(show kO (["cell"]:List Str) from by decide +kernel)) rfl (cy rfl) (f9 rfl)) (fun fp s0 H0 L=>q9 (ft:=dC (.bl true))) (fun fp s0 H0 L=>?_) (fun _=>rfl) (fun h=>nomatch h))
 exact hS.nd
 refine t7 (κ:=.old) ?_ (fun _=>rfl)
 walk_at","
 exact nO (by intro p hp;cases hp)
 exact kC (by rfl)
 exact trivial
 refine bW (aK:=.new) (cW:=.new) jW iX ?_ ?_
 refine bW (aK:=.old) (cW:=.old) uD pX ?_ ?_
 walk_at"3(!3(!"
 exact sW rfl T.Ar
 walk_at"+2"
 refine fW ?_
 walk_at"'"
 refine aN (κ:=.aO) (qd T) hr (by decide) ?_ (au (au aW))
 walk_at"%0-"
 refine fW ?_
 walk_at"'!'!1&'"
 refine aN (κ:=.aO) (qd T) hr (by decide) ?_ (au (au aW))
 walk_at"%0-"
 refine fW ?_
 walk_at"'!'!1&'"
 refine aN (κ:=.aO) (qd T) hr (by decide) ?_ (au (au aW))
 walk_at"%"
 exact ak 3 (pv 3)
 walk_at"-"
 refine fW ?_
 walk_at"'!'!1&'"
 refine aN (κ:=.aO) (qd T) hr (by decide) ?_ (au (au aW))
 walk_at"%"
 exact ak 3 (pv 3)
 walk_at"-"
 refine fW ?_
 walk_at"'!'!1&1"
theorem qH(T:Txt K mg t):FD P w K mg base (vX t) 3 "steps_from" ["all_leaps","standing"] 2 (eG t) true:=
 have hS:bV ["all_leaps","standing"] ["all_leaps","standing"] (aQ tK):=vV;gR (Γ:=[.par,.par]) T.C6 hS rfl (kE rfl) fun f dM hc A outer s H E hr=>
 by
 walk_at"+2"
 refine mR (n:=true) (z:=true) (gU:=["leap"]) (caps:=[(1,"standing")]) ?_ (JR.mk (tX:=.new) (n:=true) (z:=true) (gU:=["leap"]) (caps:=[(1,"standing")]) rfl rfl (by decide +kernel) ?_ ?_ (by with_unfolding_all rfl) (by decide +kernel) ?_ (fun _ p hp=>by simp only[bP,eS,aI2] at hp;rcases hp with rfl <;> first | exact cy rfl | exact f9 rfl) (gQ (i:=0) (k:=.par)) (fun fp s0 H0 L=>cB (i:=0) (by exact(show kO (["leap","standing"]:List Str) from by decide +kernel)) rfl (cy rfl) (f9 rfl)) (fun fp s0 H0 L=>mP ?_) (fun fp s0 H0 L=>?_) (fun _=>rfl) (fun h=>nomatch h))
 refine t7 (κ:=.old) ?_ (fun _=>rfl)
 walk_at"("
 exact nO (by intro p hp;simp only[bP,eS,aI2] at hp;rcases hp with rfl <;> rfl)
 exact kC (by rfl)
 exact⟨⟨rfl,rfl,rfl,rfl⟩,trivial⟩
 refine yi (κ:=.new) ?_
 refine aN (κ:=.aO) (yL T) hr (by decide) ?_ (au (au aW))
 walk_at"%,%(&"
 refine fW ?_
 walk_at"'"
 refine dX (κ:=.old) ?_
 walk_at"('"
 refine iR (aK:=.aO) kI ?_
 refine fS gE rfl T.qc mS ?_
 walk_at"-"
 refine aN (κ:=.aO) (yM T) hr (by decide) ?_ (au (au aW))
 walk_at"%,%(&&1"
theorem Cc(T:Txt K mg t):FD P w K mg base (vX t) 4 "next_rows" ["all_leaps","layer"] 2 (jM t) true:=
 have hS:bV ["all_leaps","layer","found","standing","row","leap","behind"] ["all_leaps","layer"] (aQ vJ):=vV;gR (Γ:=[.par,.par,.own true,.par,.par,.par,.par]) T.DW hS rfl (kE rfl) fun f dM hc A outer s H E hr=>
 by
 walk_at")"
 refine d8 (i:=2) (k:=(.own true)) (κ:=.new) ?_ ?_
 exact hS.nd
 exact BY
 walk_at")"
 refine Ip (cG ⟨rfl,rfl⟩) rfl ?_ (r9 rfl (fD (cB (i:=3) (by exact hS.nd) rfl (cy rfl)) (fD (cB (i:=4) (by exact hS.nd) rfl (cy rfl)) nB))) (nK (i:=3) (j:=4) (k:=.par) (k':=.par))   ?_
 refine DQ (κ:=.old) ?_ (fun _=>rfl)
 walk_at",+"
 refine ja (κ:=.new) (cG ⟨rfl,rfl⟩) rfl ?_ rfl (r9 rfl (fD (cB (i:=5) (by exact hS.nd) rfl (cy rfl)) (fD (cB (i:=6) (by exact hS.nd) rfl (cy rfl)) nB))) (nK (i:=5) (j:=6) (k:=.par) (k':=.par))   ?_
 refine aN (κ:=.aO) (qH T) hr (by decide) ?_ (au (au aW))
 walk_at"%(%"
 exact ak 3 (pv 3)
 walk_at"&+"
 refine jD ?_   ?_   gJ
 refine fY (aK:=.old) (cW:=.qg) (K3 (pI hr.units)) Ir ?_ ?_ (by with_unfolding_all rfl)
 exact ak 6 (pv 6)
 exact lN 2 (pv 2)
 walk_at"+"
 refine WH (i:=2) (κ:=.new) (κ':=.old) (pI hr.units) (pv 2) ?_ ?_ rfl
 exact ak 6 (pv 6)
 refine bW (aK:=.old) (cW:=.new) BR BS ?_ ?_
 exact ak 4 (pv 4)
 refine mh ?_
 walk_at"'"
 refine dX (κ:=.old) ?_
 exact ak 5 (pv 5)
 walk_at"1+"
 refine d9 (κ:=.qg) ?_
 exact lN 2 (pv 2)
theorem yN(T:Txt K mg t):FD P w K mg base (vX t) 4 "next_counts" ["all_leaps","layer"] 2 (iT t) true:=
 have hS:bV ["all_leaps","layer","found","standing","count","leap","behind"] ["all_leaps","layer"] (aQ qF):=vV;gR (Γ:=[.par,.par,.own true,.par,.par,.par,.par]) T.zC hS rfl (kE rfl) fun f dM hc A outer s H E hr=>
 by
 walk_at")"
 refine d8 (i:=2) (k:=(.own true)) (κ:=.new) ?_ ?_
 exact hS.nd
 exact BY
 walk_at")"
 refine Ip (cG ⟨rfl,rfl⟩) rfl ?_ (r9 rfl (fD (cB (i:=3) (by exact hS.nd) rfl (cy rfl)) (fD (cB (i:=4) (by exact hS.nd) rfl (cy rfl)) nB))) (nK (i:=3) (j:=4) (k:=.par) (k':=.par))   ?_
 refine DQ (κ:=.old) ?_ (fun _=>rfl)
 walk_at",+"
 refine ja (κ:=.new) (cG ⟨rfl,rfl⟩) rfl ?_ rfl (r9 rfl (fD (cB (i:=5) (by exact hS.nd) rfl (cy rfl)) (fD (cB (i:=6) (by exact hS.nd) rfl (cy rfl)) nB))) (nK (i:=5) (j:=6) (k:=.par) (k':=.par))   ?_
 refine aN (κ:=.aO) (qH T) hr (by decide) ?_ (au (au aW))
 walk_at"%(%"
 exact ak 3 (pv 3)
 walk_at"&+"
 refine Sh (i:=2) (κ:=.new) (κ':=.old) (pI hr.units) (pv 2) ?_ ?_ rfl
 exact ak 6 (pv 6)
 refine bW (aK:=.new) (cW:=.old) gu eE ?_ ?_
 refine Iw (κo:=.qg) (aK:=.old) (cW:=.new) (pI hr.units) ?_ ?_ ?_
 exact lN 2 (pv 2)
 exact ak 6 (pv 6)
 exact aE
 exact ak 4 (pv 4)
 walk_at"+"
 refine d9 (κ:=.qg) ?_
 exact lN 2 (pv 2)
theorem qI(T:Txt K mg t):FD P w K mg base (vX t) 5 "first_rows" ["board","pegs"] 2 (iw t) true:=
 have hS:bV ["board","pegs","all_leaps","found","layer"] ["board","pegs"] (aQ tL):=vV;gR (Γ:=[.par,.par,.par,.own true,.loc]) T.C7 hS rfl (kE rfl) fun f dM hc A outer s H E hr=>
 by
 walk_at")"
 refine d8 (i:=2) (k:=.par) (κ:=.new) ?_ ?_
 exact hS.nd
 refine aN (κ:=.aO) (E3 T) hr (by decide) ?_ (au aW)
 walk_at"%(&)"
 refine d8 (i:=3) (k:=(.own true)) (κ:=.new) ?_ ?_
 exact hS.nd
 exact BY
 walk_at")"
 refine d8 (i:=4) (k:=.loc) (κ:=.new) ?_ ?_
 exact hS.nd
 refine Iv (κk:=.new) (OP hr.units) ?_ ?_
 refine iR (aK:=.aO) kI ?_
 refine fS gE rfl T.qc mS ?_
 walk_at"%,&"
 refine mh ?_
 walk_at"1)"
 refine OR 40 (cG ⟨rfl,rfl⟩) ?_   ?_
 refine fY (aK:=.new) (cW:=.new) HG BL ?_ ?_ (iE _)
 refine iR (aK:=.aO) OV ?_
 refine gD K4 rfl T.qG nQ ?_
 refine af (κ:=.aO) (aK:=.loc) ?_ ?_
 exact jw 4 (pv 4)
 walk_at"&!)"
 refine WJ (i:=3) (κ:=.loc) ?_ rfl
 refine OZ ML PySem.F.type_dict_update (Sb (pI hr.units)) (pv 3) ?_
 refine iU ?_ m7
 exact jw 4 (pv 4)
 walk_at"+"
 refine d8 (i:=4) (k:=.loc) (κ:=.new) ?_ ?_
 exact hS.nd
 refine aN (κ:=.aO) (Cc T) hr (by decide) ?_ (au (au aW))
 walk_at"%0"
 refine af (κ:=.aO) (aK:=.loc) ?_ ?_
 exact jw 4 (pv 4)
 walk_at"&+"
 refine d9 (κ:=.qg) ?_
 exact lN 3 (pv 3)
theorem vM(T:Txt K mg t):FD P w K mg base (vX t) 1 "in_order" ["standings"] 1 (i8 t) true:=
 have hS:bV ["standings"] ["standings"] (aQ dG):=vV;gR (Γ:=[.par]) T.GW hS rfl (kE rfl) fun f dM hc A outer s H E hr=>
 by
 walk_at"+2"
 refine Ph (κ:=.new) ?_ (fun H h=>h) (Sw T.aB9 T.aC0 T.aC1 hc) (zD t) rfl T.yJ T.qG hr.units hr.depth
 refine mR (n:=true) (z:=true) (gU:=["standing"]) (caps:=[]) ?_ (JR.mk (tX:=.new) (n:=true) (z:=true) (gU:=["standing"]) (caps:=[]) rfl rfl (by decide +kernel) ?_ ?_ (by with_unfolding_all rfl) (by decide +kernel) ?_ (fun _ p hp=>by cases hp) (gQ (i:=0) (k:=.par)) (fun fp s0 H0 L=>cB (i:=0) (by exact(show kO (["standing"]:List Str) from by decide +kernel)) rfl (cy rfl) (f9 rfl)) (fun fp s0 H0 L=>q9 (ft:=dC (.bl true))) (fun fp s0 H0 L=>?_) (fun _=>rfl) (fun h=>nomatch h))
 refine Sj (κ:=.old) ?_ (fun _=>rfl)
 walk_at"("
 exact nO (by intro p hp;cases hp)
 exact kC (by rfl)
 exact trivial
 refine iR (aK:=.aO) sZ ?_
 refine fS kq rfl T.C8 wD ?_
 walk_at"%(&"
theorem yO(T:Txt K mg t):FD P w K mg base (vX t) 6 "reached" ["board","pegs"] 2 (kJ t) true:=
 have hS:bV ["board","pegs"] ["board","pegs"] (aQ Aq):=vV;gR (Γ:=[.par,.par]) T.Kp hS rfl (kE rfl) fun f dM hc A outer s H E hr=>
 by
 walk_at")"
 refine q8 (κ:=.new) ?_
 refine aN (κ:=.aO) (gF T) hr (by decide) ?_ (au (au aW))
 walk_at"%(%,&+2"
 refine aN (κ:=.aO) (vM T) hr (by decide) ?_ (au aW)
 walk_at"-"
 refine aN (κ:=.aO) (qI T) hr (by decide) ?_ (au (au aW))
 walk_at"%(%,&&"
theorem Kq(T:Txt K mg t):FD P w K mg base (vX t) 6 "answer" ["board","pegs","others"] 3 (pN t) true:=
 have hS:bV ["board","pegs","others","rows"] ["board","pegs","others"] (aQ DT):=vV;gR (Γ:=[.par,.par,.par,.loc]) T.Pq hS rfl (kE rfl) fun f dM hc A outer s H E hr=>
 by
 walk_at")"
 refine q8 (κ:=.new) ?_
 refine aN (κ:=.aO) (gF T) hr (by decide) ?_ (au (au aW))
 walk_at"%(%,&)"
 refine q8 (κ:=.new) ?_
 refine aN (κ:=.aO) (gF T) hr (by decide) ?_ (au (au aW))
 walk_at"%(%0&)"
 refine jD ?_   ?_   gJ
 refine fY (aK:=.new) (cW:=.new) (BF hr.units) l0 ?_ ?_ (iE _)
 refine aN (κ:=.aO) (lP T) hr (by decide) ?_ (au (au aW))
 walk_at"%(%,&"
 refine aN (κ:=.aO) (lP T) hr (by decide) ?_ (au (au aW))
 walk_at"%(%0&+2"
 refine fW ?_
 walk_at"'"
 exact uS
 walk_at"'"
 refine fW ?_
 walk_at"'"
 exact uS
 walk_at"11)"
 refine d8 (i:=3) (k:=.loc) (κ:=.new) ?_ ?_
 exact hS.nd
 refine aN (κ:=.aO) (qI T) hr (by decide) ?_ (au (au aW))
 walk_at"%(%,&)"
 refine jD ?_   ?_   gJ
 refine fY (aK:=.new) (cW:=.loc) (WG (pI hr.units)) Ir ?_ ?_ (by with_unfolding_all rfl)
 refine iR (aK:=.aO) kI ?_
 refine fS gE rfl T.qc mS ?_
 walk_at"%0&"
 exact jw 3 (pv 3)
 walk_at"+"
 refine d9 (κ:=.loc) ?_
 refine Iu ?_ ?_
 exact uS
 refine Sa (cW:=.new) (pI hr.units) ?_ ?_ (fun _ _=>rfl)
 exact jw 3 (pv 3)
 refine iR (aK:=.aO) kI ?_
 refine fS gE rfl T.qc mS ?_
 walk_at"%0&+"
 refine d9 (κ:=.loc) ?_
 refine fW ?_
 refine af (κ:=.loc) (aK:=.new) ?_ ?_
 exact uS
 refine af (κ:=.loc) (aK:=.loc) ?_ ?_
 refine Iu ?_ (ag6 (κ:=.new) (κ':=.loc) rfl ?_)
 exact uS
 refine aN (κ:=.aO) (vM T) hr (by decide) ?_ (au aW)
 refine af (κ:=.aO) (aK:=.loc) ?_ ?_
 exact jw 3 (pv 3)
 walk_at"&"
 exact aF (κ:=.loc)
theorem Ce(T:Txt K mg t):FD P w K mg base (vX t) 5 "row_count" ["board","pegs","others"] 3 (jN t) true:=
 have hS:bV ["board","pegs","others","all_leaps","layer","leaps_done"] ["board","pegs","others"] (aQ vK):=vV;gR (Γ:=[.par,.par,.par,.par,.loc,.par]) T.DZ hS rfl (kE rfl) fun f dM hc A outer s H E hr=>
 by
 walk_at")"
 refine q8 (κ:=.new) ?_
 refine aN (κ:=.aO) (gF T) hr (by decide) ?_ (au (au aW))
 walk_at"%(%,&)"
 refine q8 (κ:=.new) ?_
 refine aN (κ:=.aO) (gF T) hr (by decide) ?_ (au (au aW))
 walk_at"%(%0&)"
 refine d8 (i:=3) (k:=.par) (κ:=.new) ?_ ?_
 exact hS.nd
 refine aN (κ:=.aO) (E3 T) hr (by decide) ?_ (au aW)
 walk_at"%(&)"
 refine d8 (i:=4) (k:=.loc) (κ:=.new) ?_ ?_
 exact hS.nd
 refine Iv (κk:=.new) (OP hr.units) ?_ ?_
 refine iR (aK:=.aO) kI ?_
 refine fS gE rfl T.qc mS ?_
 walk_at"%,&!)"
 refine nM (κ:=.aO) (cG ⟨rfl,rfl⟩) rfl T.C9 ?_ (cB (i:=5) (by exact hS.nd) rfl (cy rfl)) (gQ (i:=5) (k:=.par))   ?_
 walk_at"-"
 refine bW (aK:=.new) (cW:=.new) uD pX ?_ ?_
 refine iR (aK:=.aO) lI ?_
 refine gD fE rfl T.qG nQ ?_
 walk_at"%,&"
 refine iR (aK:=.aO) lI ?_
 refine gD fE rfl T.qG nQ ?_
 walk_at"%0&&+"
 refine d8 (i:=4) (k:=.loc) (κ:=.new) ?_ ?_
 exact hS.nd
 refine aN (κ:=.aO) (yN T) hr (by decide) ?_ (au (au aW))
 walk_at"%"
 exact ak 3 (pv 3)
 refine af (κ:=.aO) (aK:=.loc) ?_ ?_
 exact jw 4 (pv 4)
 walk_at"&+2"
 refine Iw (κo:=.loc) (aK:=.new) (cW:=.new) (pI hr.units) ?_ ?_ ?_
 exact jw 4 (pv 4)
 refine iR (aK:=.aO) kI ?_
 refine fS gE rfl T.qc mS ?_
 walk_at"%0&!"
theorem iZ(T:Txt K mg t):FD P w K mg base (vX t) 1 "_law_cell_at" ["script","k"] 2 (bJ t) true:=
 have hS:bV ["script","k"] ["script","k"] (aQ pK):=vV;gR (Γ:=[.par,.par]) T.yH hS rfl (kE rfl) fun f dM hc A outer s H E hr=>
 by
 walk_at")"
 refine jD ?_   ?_   gJ
 refine fY (aK:=.old) (cW:=.new) Zy Wf ?_ ?_ (iE _)
 walk_at","
 refine iR (aK:=.aO) lI ?_
 refine gD fE rfl T.qG nQ ?_
 walk_at"%(&+2"
 refine dX (κ:=.old) ?_
 refine dO (aK:=.old) (cW:=.old) ?_ ?_ (fun _ _=>rfl)
 walk_at"(,+2!"
theorem dP(T:Txt K mg t):FD P w K mg base (vX t) 1 "_law_mix" ["cell","k","many"] 3 (b7 t) true:=
 have hS:bV ["cell","k","many","some","number"] ["cell","k","many"] (aQ yG):=vV;gR (Γ:=[.par,.par,.par,.par,.par]) T.GX hS rfl (kE rfl) fun f dM hc A outer s H E hr=>
 by
 walk_at")"
 refine d8 (i:=3) (k:=.par) (κ:=.new) ?_ ?_
 exact hS.nd
 refine mh ?_
 walk_at"'!'!'!'!'!'!'!'!'!'!'!'!'!1)"
 refine d8 (i:=4) (k:=.par) (κ:=.new) ?_ ?_
 exact hS.nd
 refine bW (aK:=.new) (cW:=.old) uE pY ?_ ?_
 refine bW (aK:=.new) (cW:=.new) gu eE ?_ ?_
 refine bW (aK:=.old) (cW:=.new) jW iX ?_ ?_
 walk_at"(!!3"
 exact ak 3 (pv 3)
 refine bW (aK:=.old) (cW:=.new) jW iX ?_ ?_
 walk_at",!)"
 refine d8 (i:=4) (k:=.par) (κ:=.new) ?_ ?_
 exact hS.nd
 refine bW (aK:=.new) (cW:=.new) gu eE ?_ ?_
 refine bW (aK:=.old) (cW:=.new) uE pY ?_ ?_
 exact ak 4 (pv 4)
 refine bW (aK:=.new) (cW:=.new) gu eE ?_ ?_
 refine bW (aK:=.new) (cW:=.new) uE pY ?_ ?_
 exact aE
 refine bW (aK:=.old) (cW:=.new) pT pZ ?_ ?_
 walk_at",!!"
 refine bW (aK:=.new) (cW:=.old) uE pY ?_ ?_
 walk_at"!,+2"
 refine bW (aK:=.new) (cW:=.old) jW iX ?_ ?_
 refine bW (aK:=.new) (cW:=.new) pT pZ ?_ ?_
 refine bW (aK:=.old) (cW:=.new) jW iX ?_ ?_
 exact ak 4 (pv 4)
 walk_at"!!0"
theorem uZ(T:Txt K mg t):FD P w K mg base (vX t) 2 "_law_cells_by" ["script","most"] 2 (dZ t) true:=
 have hS:bV ["script","most","cell","height","width","down","across","some","k"] ["script","most"] (aQ nX):=vV;gR (Γ:=[.par,.par,.par,.par,.par,.par,.par,.own true,.par]) T.vW hS rfl (kE rfl) fun f dM hc A outer s H E hr=>
 by
 walk_at")"
 refine d8 (i:=2) (k:=.par) (κ:=.new) ?_ ?_
 exact hS.nd
 refine aN (κ:=.aO) (iZ T) hr (by decide) ?_ (au (au aW))
 walk_at"%(-!&)"
 refine OD (i:=3) (j:=4) (k:=.par) (k':=.par) rfl ?_ ?_ (by decide)
 exact hS.nd
 walk_at"'"
 refine bW (aK:=.new) (cW:=.new) gu eE ?_ ?_
 walk_at"!5%0-!-!&'"
 refine bW (aK:=.new) (cW:=.new) gu eE ?_ ?_
 walk_at"!5%0-!-!&1)"
 refine jD ?_   ?_   gJ
 refine fY (aK:=.new) (cW:=.new) (rq hr.units) l0 ?_ ?_ (iE _)
 refine bW (aK:=.old) (cW:=.new) jW iX ?_ ?_
 walk_at"0!!+"
 refine RO (κ:=.new) ?_ rfl (r9 rfl (fD (cB (i:=3) (by exact hS.nd) rfl (cy rfl)) (fD (cB (i:=4) (by exact hS.nd) rfl (cy rfl)) nB))) (nK (i:=3) (j:=4) (k:=.par) (k':=.par))
 refine dX (κ:=.old) ?_
 refine dO (aK:=.new) (cW:=.new) ?_ ?_ (fun _ _=>rfl)
 refine mh ?_
 walk_at"'"
 refine fW ?_
 walk_at"'"
 refine bW (aK:=.new) (cW:=.new) gu eE ?_ ?_
 exact aE
 refine bW (aK:=.old) (cW:=.new) jW iX ?_ ?_
 exact ak 3 (pv 3)
 walk_at"!'!1'"
 refine fW ?_
 walk_at"'!'"
 refine bW (aK:=.new) (cW:=.new) gu eE ?_ ?_
 exact aE
 refine bW (aK:=.old) (cW:=.new) jW iX ?_ ?_
 exact ak 4 (pv 4)
 walk_at"!11"
 refine bW (aK:=.new) (cW:=.new) jW iX ?_ ?_
 refine bW (aK:=.old) (cW:=.new) pT pZ ?_ ?_
 walk_at"0!!)"
 refine OD (i:=5) (j:=6) (k:=.par) (k':=.par) rfl ?_ ?_ (by decide)
 exact hS.nd
 walk_at"'5%0-!-"
 refine bW (aK:=.new) (cW:=.old) uD pX ?_ ?_
 exact aE
 exact ak 3 (pv 3)
 walk_at"&'5%0-!-"
 refine bW (aK:=.new) (cW:=.old) uD pX ?_ ?_
 exact aE
 exact ak 4 (pv 4)
 walk_at"&1)"
 refine d8 (i:=7) (k:=(.own true)) (κ:=.new) ?_ ?_
 exact hS.nd
 refine mh ?_
 walk_at"1)"
 refine nM (κ:=.aO) (cG ⟨rfl,rfl⟩) rfl T.C9 ?_ (cB (i:=8) (by exact hS.nd) rfl (cy rfl)) (gQ (i:=8) (k:=.par))   ?_
 walk_at"-"
 refine bW (aK:=.old) (cW:=.old) uE pY ?_ ?_
 exact ak 3 (pv 3)
 exact ak 4 (pv 4)
 walk_at"&+"
 refine jD ?_   ?_   gJ
 refine fY (aK:=.new) (cW:=.new) HG BL ?_ ?_ (iE _)
 walk_at"5-"
 refine aN (κ:=.aO) (iZ T) hr (by decide) ?_ (au (au aW))
 walk_at"%(-!&%"
 exact ak 8 (pv 8)
 walk_at"-!&!+"
 refine Ot (i:=7) (κ:=.new) (to:=uC 7) ?_ rfl
 refine U7 MV MW MX uG (pv 7) ?_
 refine iU ?_ m7
 refine fW ?_
 walk_at"'"
 refine bW (aK:=.old) (cW:=.new) gu eE ?_ ?_
 exact ak 5 (pv 5)
 refine bW (aK:=.old) (cW:=.old) pT pZ ?_ ?_
 exact ak 8 (pv 8)
 exact ak 4 (pv 4)
 walk_at"'"
 refine bW (aK:=.old) (cW:=.new) gu eE ?_ ?_
 exact ak 6 (pv 6)
 refine bW (aK:=.old) (cW:=.old) jW iX ?_ ?_
 exact ak 8 (pv 8)
 exact ak 4 (pv 4)
 walk_at"1)"
 refine jD ?_   ?_   gJ
 refine fY (aK:=.new) (cW:=.new) (rq hr.units) l0 ?_ ?_ (iE _)
 refine iR (aK:=.aO) lI ?_
 refine gD fE rfl T.qG nQ ?_
 refine af (κ:=.aO) (aK:=.qg) ?_ ?_
 exact lN 7 (pv 7)
 walk_at"&!+"
 refine d8 (i:=7) (k:=(.own true)) (κ:=.new) ?_ ?_
 exact hS.nd
 refine mh ?_
 walk_at"'"
 refine fW ?_
 walk_at"'"
 refine dX (κ:=.old) ?_
 exact ak 5 (pv 5)
 walk_at"'"
 refine dX (κ:=.old) ?_
 exact ak 6 (pv 6)
 walk_at"11+2"
 refine yo (aK:=.qg) ?_ BP ?_
 exact lN 7 (pv 7)
 refine BQ (κ:=.old) ?_
 walk_at","
theorem vY(T:Txt K mg t):FD P w K mg base (vX t) 2 "_law_pegs_by" ["cell","cells"] 2 (i9 t) true:=
 have hS:bV ["cell","cells","way","gone"] ["cell","cells"] (aQ pM):=vV;gR (Γ:=[.par,.par,.par,.par]) T.yI hS rfl (kE rfl) fun f dM hc A outer s H E hr=>
 by
 walk_at")"
 refine d8 (i:=2) (k:=.par) (κ:=.new) ?_ ?_
 exact hS.nd
 walk_at"5%(-!-!&)"
 refine jD ?_   ?_   gJ
 refine fY (aK:=.old) (cW:=.new) (rq hr.units) l0 ?_ ?_ (iE _)
 walk_at"0!)"
 refine d8 (i:=3) (k:=.par) (κ:=.new) ?_ ?_
 exact hS.nd
 walk_at"5%(-!-"
 refine iR (aK:=.aO) lI ?_
 refine gD fE rfl T.qG nQ ?_
 walk_at"%,&&+2"
 refine bW (aK:=.new) (cW:=.new) BR BS ?_ ?_
 refine yo (aK:=.old) ?_ BP ?_
 walk_at","
 refine BQ (κ:=.old) ?_
 exact ak 3 (pv 3)
 refine yo (aK:=.old) ?_ ?_ BP
 walk_at","
 refine BQ (κ:=.new) ?_
 refine bW (aK:=.old) (cW:=.new) gu eE ?_ ?_
 exact ak 3 (pv 3)
 walk_at"!+2"
 refine mR (n:=true) (z:=true) (gU:=["k","one"]) (caps:=[(0,"cell"),(2,"way")]) ?_ (JR.mk (tX:=.new) (n:=true) (z:=true) (gU:=["k","one"]) (caps:=[(0,"cell"),(2,"way")]) rfl rfl (by decide +kernel) ?_ ?_ (by with_unfolding_all rfl) (by decide +kernel) ?_ (fun _ p hp=>by simp only[bP,eS,aI2] at hp;rcases hp with rfl | rfl <;> first | exact cy rfl | exact f9 rfl) (nK (i:=0) (j:=1) (k:=.par) (k':=.par)) (fun fp s0 H0 L=>r9 rfl (fD (cB (i:=0) (by exact(show kO (["k","one","cell","way"]:List Str) from by decide +kernel)) rfl (cy rfl) (f9 rfl)) (fD (cB (i:=1) (by exact(show kO (["k","one","cell","way"]:List Str) from by decide +kernel)) rfl (cy rfl) (f9 rfl)) nB))) (fun fp s0 H0 L=>mP ?_) (fun fp s0 H0 L=>?_) (fun _=>rfl) (fun h=>nomatch h))
 refine Io (κ:=.old) T.vL ?_ (fun _=>rfl)
 walk_at","
 exact nO (by intro p hp;simp only[bP,eS,aI2] at hp;rcases hp with rfl | rfl <;> rfl)
 exact kC (by rfl)
 exact⟨⟨rfl,rfl,rfl,rfl⟩,⟨⟨rfl,rfl,rfl,rfl⟩,trivial⟩⟩
 refine fY (aK:=.new) (cW:=.new) HG BL ?_ ?_ (iE _)
 walk_at"5%0%(%"
 refine dO (aK:=.new) (cW:=.old) ?_ ?_ (fun _ _=>rfl)
 refine mh ?_
 walk_at"'!'!'!'!1"
 exact ak 3 (pv 3)
 walk_at"&!"
 refine dX (κ:=.old) ?_
 walk_at","
theorem SH(T:Txt K mg t){fiB:av}{fdB:gH}(mkB:Mk K t.lO fiB)(bB:Binds K fdB ["self","cells"] [])(SI:jY P w K mg base (pU P w) 3 fiB fdB ["self","cells"] (BW K t.lO (UD t.tab (vG dG) "in_order.<locals>.<lambda>") (cH t))):FD P w K mg base (vX t) 7 "law" ["script"] 1 (Av t) true:=
 have hS:bV ["script","cells","board","pegs","known","cell","k","others","come"] ["script"] (aQ UG):=vV;gR (Γ:=[.par,.par,.par,.par,.loc,.par,.par,.par,.par]) T.UH hS rfl (kE rfl) fun f dM hc A outer s H E hr=>
 by
 walk_at")"
 refine d8 (i:=1) (k:=.par) (κ:=.new) ?_ ?_
 exact hS.nd
 refine aN (κ:=.aO) (uZ T) hr (by decide) ?_ (au (au aW))
 walk_at"%(-!&)"
 refine d8 (i:=2) (k:=.par) (κ:=.new) ?_ ?_
 exact hS.nd
 refine OM (κ:=.aO) mkB SI (hr.mono (by decide)) T.SE bB ?_
 walk_at"-"
 refine iR (aK:=.aO) sZ ?_
 refine fS kq rfl T.C8 wD ?_
 walk_at"%,&&)"
 refine d8 (i:=3) (k:=.par) (κ:=.new) ?_ ?_
 exact hS.nd
 refine aN (κ:=.aO) (vY T) hr (by decide) ?_ (au (au aW))
 walk_at"-"
 refine aN (κ:=.aO) (iZ T) hr (by decide) ?_ (au (au aW))
 walk_at"%(-!&%,&)"
 refine d8 (i:=4) (k:=.loc) (κ:=.new) ?_ ?_
 exact hS.nd
 refine aN (κ:=.aO) (yO T) hr (by decide) ?_ (au (au aW))
 walk_at"%0%"
 exact ak 3 (pv 3)
 walk_at"&)"
 refine d8 (i:=5) (k:=.par) (κ:=.new) ?_ ?_
 exact hS.nd
 refine aN (κ:=.aO) (iZ T) hr (by decide) ?_ (au (au aW))
 walk_at"%(-!&)"
 refine nM (κ:=.aO) (cG ⟨rfl,rfl⟩) rfl T.C9 ?_ (cB (i:=6) (by exact hS.nd) rfl (f9 rfl)) (gQ (i:=6) (k:=.par))   ?_
 walk_at"-!&)"
 refine yy (i:=7) (k:=.par) (n:=true) (z:=true) (gU:=["j","one"]) (caps:=[(5,"cell"),(6,"k")]) ?_ ?_ (JR.mk (tX:=.new) (n:=true) (z:=true) (gU:=["j","one"]) (caps:=[(5,"cell"),(6,"k")]) rfl rfl (by decide +kernel) ?_ ?_ (by with_unfolding_all rfl) (by decide +kernel) ?_ (fun _ p hp=>by simp only[bP,eS,aI2] at hp;rcases hp with rfl | rfl <;> first | exact cy rfl | exact f9 rfl) (nK (i:=0) (j:=1) (k:=.par) (k':=.par)) (fun fp s0 H0 L=>r9 rfl (fD (cB (i:=0) (by exact(show kO (["j","one","cell","k"]:List Str) from by decide +kernel)) rfl (cy rfl) (f9 rfl)) (fD (cB (i:=1) (by exact(show kO (["j","one","cell","k"]:List Str) from by decide +kernel)) rfl (cy rfl) (f9 rfl)) nB))) (fun fp s0 H0 L=>mP ?_) (fun fp s0 H0 L=>?_) (fun _=>rfl) (fun h=>nomatch h))
 exact hS.nd
 refine Io (κ:=.old) T.vL ?_ (fun _=>rfl)
 walk_at","
 exact nO (by intro p hp;simp only[bP,eS,aI2] at hp;rcases hp with rfl | rfl <;> rfl)
 exact kC (by rfl)
 exact⟨⟨rfl,rfl,rfl,rfl⟩,⟨⟨rfl,rfl,rfl,rfl⟩,trivial⟩⟩
 refine fY (aK:=.new) (cW:=.new) (rq hr.units) l0 ?_ ?_ (iE _)
 walk_at"5%0-"
 refine bW (aK:=.new) (cW:=.old) gu eE ?_ ?_
 refine bW (aK:=.new) (cW:=.old) uE pY ?_ ?_
 exact aE
 exact ak 3 (pv 3)
 walk_at"(-!&!"
 refine dX (κ:=.old) ?_
 walk_at",)"
 refine jD ?_   ?_   gJ
 refine fY (aK:=.new) (cW:=.new) (rq hr.units) l0 ?_ ?_ (iE _)
 walk_at"5%"
 exact ak 5 (pv 5)
 walk_at"-"
 refine bW (aK:=.new) (cW:=.old) gu eE ?_ ?_
 exact aE
 exact ak 6 (pv 6)
 walk_at"-!&!+"
 refine d8 (i:=7) (k:=.par) (κ:=.new) ?_ ?_
 exact hS.nd
 refine iR (aK:=.aO) sZ ?_
 refine fS kq rfl T.C8 wD ?_
 walk_at"%"
 refine dO (aK:=.loc) (cW:=.new) ?_ ?_ (fun _ _=>rfl)
 exact jw 4 (pv 4)
 walk_at"5%"
 exact ak 5 (pv 5)
 walk_at"-"
 refine bW (aK:=.new) (cW:=.old) gu eE ?_ ?_
 exact aE
 exact ak 6 (pv 6)
 walk_at"-"
 refine iR (aK:=.aO) lI ?_
 refine gD fE rfl T.qG nQ ?_
 refine af (κ:=.aO) (aK:=.loc) ?_ ?_
 exact jw 4 (pv 4)
 walk_at"&&&)"
 refine d8 (i:=8) (k:=.par) (κ:=.new) ?_ ?_
 exact hS.nd
 refine pD (aK:=.old) (cW:=.loc) (rA hr.units) m9 ?_ ?_ (by with_unfolding_all rfl)
 exact ak 7 (pv 7)
 exact jw 4 (pv 4)
 walk_at")"
 refine jD ?_   ?_   gJ
 refine PW.pt ?_
 refine ag9 ?_ ?_
 refine fY (aK:=.new) (cW:=.old) (BF hr.units) l0 ?_ ?_ (iE _)
 refine pD (aK:=.old) (cW:=.new) (rq hr.units) l0 ?_ ?_ (iE _)
 refine dO (aK:=.new) (cW:=.new) ?_ ?_ (fun _ _=>rfl)
 refine aN (κ:=.aO) (Kq T) hr (by decide) ?_ (au (au (au aW)))
 walk_at"%0%"
 exact ak 3 (pv 3)
 walk_at"%"
 exact ak 7 (pv 7)
 walk_at"&!"
 exact uS
 exact ak 8 (pv 8)
 refine Wk ?_
 refine fY (aK:=.new) (cW:=.old) (BF hr.units) l0 ?_ ?_ (iE _)
 refine pD (aK:=.new) (cW:=.new) HG BL ?_ ?_ (iE _)
 refine aN (κ:=.aO) (Ce T) hr (by decide) ?_ (au (au (au aW)))
 walk_at"%0%"
 exact ak 3 (pv 3)
 walk_at"%"
 exact ak 7 (pv 7)
 walk_at"&!"
 exact ak 8 (pv 8)
 walk_at"+2"
 exact Ik
 walk_at")"
 refine jD ?_   ?_   gJ
 refine PW.pt ?_
 refine Gz ?_ ?_
 refine yi (κ:=.old) ?_
 exact ak 8 (pv 8)
 refine BN ?_
 refine fY (aK:=.new) (cW:=.new) (BF hr.units) l0 ?_ ?_ (iE _)
 refine aN (κ:=.aO) (lP T) hr (by decide) ?_ (au (au aW))
 walk_at"%0%"
 exact ak 7 (pv 7)
 walk_at"&"
 refine aN (κ:=.aO) (lP T) hr (by decide) ?_ (au (au aW))
 walk_at"%0%"
 exact ak 3 (pv 3)
 walk_at"&+2"
 exact Ik
 walk_at"+"
 refine jD ?_   ?_   gJ
 refine PW.pt ?_
 refine Gz ?_ ?_
 refine yi (κ:=.old) ?_
 exact ak 8 (pv 8)
 refine BN ?_
 refine yj ?_
 refine yi (κ:=.new) ?_
 refine iR (aK:=.aO) S4 ?_
 refine gD (OO hr.hd) rfl T.am2 WD ?_
 walk_at"-"
 refine mR (n:=true) (z:=true) (gU:=["standing"]) (caps:=[(4,"known")]) ?_ (JR.mk (tX:=.new) (n:=true) (z:=true) (gU:=["standing"]) (caps:=[(4,"known")]) rfl rfl (by decide +kernel) ?_ ?_ (by with_unfolding_all rfl) (by decide +kernel) ?_ (fun _ p hp=>by simp only[bP,eS,aI2] at hp;rcases hp with rfl <;> first | exact cy rfl | exact f9 rfl) (gQ (i:=0) (k:=.par)) (fun fp s0 H0 L=>cB (i:=0) (by exact(show kO (["standing","known"]:List Str) from by decide +kernel)) rfl (cy rfl) (f9 rfl)) (fun fp s0 H0 L=>q9 (ft:=dC (.bl true))) (fun fp s0 H0 L=>?_) (fun _=>rfl) (fun h=>nomatch h))
 refine t7 (κ:=.new) ?_ (fun _=>rfl)
 refine aN (κ:=.aO) (yO T) hr (by decide) ?_ (au (au aW))
 walk_at"%0%"
 exact ak 7 (pv 7)
 walk_at"&"
 exact nO (by intro p hp;simp only[bP,eS,aI2] at hp;rcases hp with rfl <;> rfl)
 exact kC (by rfl)
 exact⟨⟨rfl,rfl,rfl,rfl⟩,trivial⟩
 refine pD (aK:=.old) (cW:=.old) (rA hr.units) m9 ?_ ?_ (by with_unfolding_all rfl)
 walk_at"(,&+2"
 exact Ik
 walk_at"+2"
 exact Ik
theorem WW(T:Txt K mg t):FD P w K mg base (vX t) 7 "law" ["script"] 1 (Av t) true:=by
 obtain ⟨fiB,fdB,FuB,mkB,bB⟩:=T.iB
 exact SH T mkB bB (Pr T FuB)
def E4(K:Frag)(gl:GL):Sp:=fun vs H Q _=>∃(a:av) (ns:List Int),vs=[.ref a]/\(ko K H a (ns.map V.int)/\gl.p H)/\ns.length<=63/\∀H',Q (.bl true) H'
theorem WX(T:Txt K mg t)(Pu:∀ns:List Int,ns.length<=63->Av t [.lst (ns.map D.int)] = .ok (.bl true)):∃a fd,jY P w K mg base (pU P w) 40 a fd ["script"] (E4 K (UD t.tab (vG dG) "in_order.<locals>.<lambda>"))/\mg "law" =some (.ref a)/\∃o,K.lookup a=some o/\o.data = .func fd:=by
 obtain ⟨a,fd,h1,h2,_,_,h4⟩:=(WW (P:=P) (w:=w) (base:=base) T).ex
 refine⟨a,fd,(h1.mono (by decide)).imp fun vs H Q E jd=>?_,h2,h4⟩
 obtain ⟨p,ns,e,hs,hl,q⟩:=jd
 subst e
 refine⟨[.lst (ns.map D.int)],rfl,⟨.cons (by rw[Rep];exact⟨p,_,rfl,hs.1,aM.ints ns⟩) .nil,hs.2⟩,?_⟩
 rw[Pu ns hl]
 intro v H' _ r
 have r':=r.1
 rw[Rep] at r'
 subst r'
 exact q H'
end
theorem am4{l:OpenLaw}{w:bN}{K:Frag}{h:aX}{mg:Str->Option aq}{fa T0:av}(hfa:mg "law" =some (.ref fa))(T:∃t:k9,Txt K mg t/\t.tab=T0)(Pu:∀(t:k9) (ns:List Int),ns.length<=63->Av t [.lst (ns.map D.int)] = .ok (.bl true)) :
  ∃fd:gH,(∀(s:az) (v:aq),BindsTo s fd ⟨[v],[]⟩ [("script",v)])/\∀base:aX,K.In base->base.Ns dz mg->jY l.prog w K mg base (pU l.prog w) 40 fa fd ["script"] (E4 K (UD T0 (vG dG) "in_order.<locals>.<lambda>")):=by
 obtain ⟨t,T,rfl⟩:=T
 obtain ⟨a,fd,Fu,hm,hb⟩:=T.UH
 obtain rfl:a=fa:=by rw[hm] at hfa;cases hfa;rfl
 refine⟨fd,fun s v=>?_,fun base hk hn=>?_⟩
 ·obtain ⟨oc,od,kV,doc,pm,an,dM,ct,Ez,rfl,lk,FP⟩:=Fu.ex
  exact .of_eq rfl
 ·obtain ⟨a',fd',h1,h2,h3⟩:=WX (P:=l.prog) (w:=w) (base:=base) T (Pu t)
  rw[hm] at h2
  cases h2
  obtain ⟨o,l1,d1⟩:=h3
  obtain ⟨o',l2,d2⟩:=yx Fu
  rw[l1] at l2
  cases l2
  rw[d1] at d2
  cases d2
  exact h1
theorem walk{l:OpenLaw}{q:dh}{loose:List Str}{XP:(Str->Option aq)->aX->Prop}{d:DefRec}{K K1:fQ->Frag}{T0:av}(hn:l.most=some 63)(Vy:d.params.defaults=[])(hT:∀P,(K P).lookup T0=some (tabObj #[]))(eK:∀P,Po T0 (K P)=K1 P)(hc:∀P,∃c,uY (K1 P) c T0=true)
  (F:∀(w:bN) (mg:Str->Option aq) (fa:av) (h:aX),(K1 w.params).In h->h.Ns dz mg->mg d.name=some (.ref fa)->
   ∃fd:gH,(∀(s:az) (u:aq),BindsTo s fd ⟨[u],[]⟩ [("script",u)])/\∀base:aX,(K1 w.params).In base->base.Ns dz mg->jY l.prog w (K1 w.params) mg base (pU l.prog w) 40 fa fd ["script"] (E4 (K1 w.params) (UD T0 (vG dG) "in_order.<locals>.<lambda>"))) :
  WalkO q loose XP (fun w h=>(K w.params).In h) l.row.toRowW d [] (fun f vs=>PySem.call f vs):=
 L2.Pj (n:=63) (k:=40) (x:="script") (K:=K1) (CX:=fun w=>pU l.prog w) (sp:=fun w=>E4 (K1 w.params) (UD T0 (vG dG) "in_order.<locals>.<lambda>")) hn (by decide) Vy ⟨rfl,by decide,by decide⟩ (fun w h X=>⟨eK _▸WS X,X _ _ (hT w.params)⟩) (fun w=>⟨eK _▸tG _,hc w.params⟩) F (fun _ _ a ns hl hT hS=>⟨a,ns,rfl,⟨hS,hT⟩,hl,fun _=>rfl⟩) fun w H s e s' n8=>n8.elim fun _ rR=>rR.elim fun _ EC=>EC.elim fun _ G9=>G9.elim fun _ ED=>ED.elim fun _ CJ=>CJ.elim fun _ Ew=>Ew.elim fun _ Ey=>Ey.elim fun _ xH=>xH.elim fun _ Bm=>Bm.elim fun _ Bo=>Bo.elim fun _ Bp=>Bp.elim fun _ Ga=>Ga.elim fun z _=>z
theorem am5{l:OpenLaw}{q:dh}{loose:List Str}{XP:(Str->Option aq)->aX->Prop}{d:DefRec}{K K1:fQ->Frag}{T0:av}{as:List av}(hn:l.most=some 63)(Vy:d.params.defaults=[])(e:∀P,as=(K P).map (·.1))(hT:∀P,(K P).lookup T0=some (tabObj #[]))(eK:∀P,Po T0 (K P)=K1 P)(hc:∀P,∃c,uY (K1 P) c T0=true)
  (F:∀(w:bN) (mg:Str->Option aq) (fa:av) (h:aX),(K1 w.params).In h->h.Ns dz mg->mg d.name=some (.ref fa)->
   ∃fd:gH,(∀(s:az) (u:aq),BindsTo s fd ⟨[u],[]⟩ [("script",u)])/\∀base:aX,(K1 w.params).In base->base.Ns dz mg->jY l.prog w (K1 w.params) mg base (pU l.prog w) 40 fa fd ["script"] (E4 (K1 w.params) (UD T0 (vG dG) "in_order.<locals>.<lambda>"))) :
  WalkX q loose XP (fun s:az=>as.map s.heap.get?) (fun w=>(K w.params).map fun p=>some p.2) l.row.toRowW d [] (fun f vs=>PySem.call f vs):=
 fun w ji kQ mg mb G y a o pm cd doc dV kV h1 h2 h3 h4 h5 h6 args vals as' L h7 h8 h9 h10 h11=>walk hn Vy hT eK hc F w ji kQ mg mb G (InK.keeps w ji.heap kQ.heap (InK.of e w ji y) L.keeps) a o pm cd doc dV kV h1 h2 h3 h4 h5 h6 args vals as' h7 h8 h9 h10 h11
end Pk
end am1
section am6
namespace Dm
open L2 HT
section
@[simp] theorem an9 (a:α) (f:α->R β):R.bind (.ok a) f=f a:=rfl
@[simp] theorem am7 (f:α->R β):R.bind (.bad:R α) f = .bad:=rfl
@[simp] theorem ao0 (c:PySem.Addr) (p:Option Int) (f:α->R β):R.bind (.ex c p:R α) f = .ex c p:=rfl
@[simp] theorem aE3 (st:ig):bR F G st=match F st with | .nx st'=>G st' | o=>o:=rfl
@[simp] theorem aC2 (st:ig):cP st = .nx st:=rfl
@[simp] theorem aE4 (st:ig):dU i f st=match f st with | .ok d=>.nx (st.set i (some d)) | .ex c p=>.ex c p st | .bad=>.bad:=rfl
@[simp] theorem aC3 (st:ig):qv f st=match f st with | .ok _=>.nx st | .ex c p=>.ex c p st | .bad=>.bad:=rfl
@[simp] theorem aE5 (st:ig):gf f st=match f st with | .ok d=>.rt d | .ex c p=>.ex c p st | .bad=>.bad:=rfl
@[simp] theorem aE6 (st:ig):Dm.fm fc F G st=match fc st with | .ok (.bl true)=>F st | .ok (.bl false)=>G st | .ok _=>.bad | .ex c p=>.ex c p st | .bad=>.bad:=rfl
@[simp] theorem am8 (st:ig):iY c st = .ex c none st:=rfl
@[simp] theorem aE7 (st:ig):ao i st=match st[i]? with | some (some d)=>.ok d | _=>.bad:=rfl
@[simp] theorem dC_ (st:ig):dC d st = .ok d:=rfl
@[simp] theorem aC4 (st:ig):cN f st=(f st).bind fun d=>if gM d=true then .ok d else .bad:=rfl
@[simp] theorem aG5 {g:D->D->R D} (st:ig):bK g fa fb st=(fa st).bind fun a=>(fb st).bind fun b=>g a b:=rfl
@[simp] theorem aG6 {g:D->R D} (st:ig):wz g fa st=(fa st).bind g:=rfl
@[simp] theorem UI (st:ig):aG st = .ok []:=rfl
@[simp] theorem Pw (st:ig):aa f fs st=(f st).bind fun d=>(fs st).bind fun ds=>.ok (d::ds):=rfl
@[simp] theorem aC5 (i:Int) (ds:List D):qh (.tup (.int i::ds))=true:=rfl
@[simp] theorem aC6 (es ds:List D):qh (.tup (.tup es::ds))=true:=rfl
@[simp] theorem aC7 (es ds:List D):qh (.tup (.lst es::ds))=true:=rfl
@[simp] theorem aC8 (b:Bool) (ds:List D):qh (.tup (.bl b::ds))=true:=rfl
@[simp] theorem aE8 (st:ig):dI n fs st=(fs st).bind fun ds=>if ds.length<=n/\qh (.tup ds)=true then .ok (.tup ds) else .bad:=rfl
@[simp] theorem aE9 (st:ig):gO n fs st=(fs st).bind fun ds=>if ds.length<=n then .ok (.lst ds) else .bad:=rfl
@[simp] theorem aG7 {g:List D->R D} (st:ig):bZ g fs st=(fs st).bind g:=rfl
@[simp] theorem aF0 (st:ig):oh fa fb st=(fa st).bind fun a=>match a with | .bl true=>fb st | .bl false=>.ok (.bl false) | _=>.bad:=rfl
@[simp] theorem aG8 (st:ig):YF fa fb st=(fa st).bind fun a=>match a with | .bl true=>.ok (.bl true) | .bl false=>fb st | _=>.bad:=rfl
@[simp] theorem aF1 (st:ig):uR fa st=(fa st).bind fun a=>match a with | .bl b=>.ok (.bl (!b)) | _=>.bad:=rfl
@[simp] theorem ao1 {g g':D->D->R D} (st:ig):nN g g' fa fb fc st=(fa st).bind fun a=>(fb st).bind fun b=>(g a b).bind fun z=>match z with
 | .bl true=>(fc st).bind fun c=>g' b c
 | .bl false=>.ok (.bl false)
 | _=>.bad:=rfl
@[simp] theorem aF2 (i j:Int):i7 (.int i) (.int j) = .ok (.int (i+j)):=rfl
@[simp] theorem aF3 (i j:Int):s8 (.int i) (.int j) = .ok (.int (i - j)):=rfl
@[simp] theorem aG9 (i j:Int):gLt (.int i) (.int j) = .ok (.bl (decide (i < j))):=rfl
@[simp] theorem aH0 (i j:Int):Uv (.int i) (.int j) = .ok (.bl (decide (i<=j))):=rfl
@[simp] theorem aC9 (i j:Int):Qz (.int i) (.int j) = .ok (.bl (decide (j < i))):=rfl
@[simp] theorem aF4 (i:Int):ay4 (.int i) = .ok (.int (-i)):=rfl
@[simp] theorem H8 (ds:List D):mq [.lst ds] = .ok (.int ds.length):=rfl
@[simp] theorem aD0 (ds:List D):mq [.tup ds] = .ok (.int ds.length):=rfl
@[simp] theorem ao2 (i:Int):gM (.int i)=true:=by rw[gM] <;> simp
@[simp] theorem aD1 (i:Bool):gM (.bl i)=true:=by rw[gM] <;> simp
@[simp] theorem UJ {gi:DI} {bind:DB} (st:ig):ir gi bind F st=match gi st with | .ok ds=>gh bind F ds st | .ex c p=>.ex c p st | .bad=>.bad:=rfl
@[simp] theorem aF5 (st:ig):jA f st=match f st with | .ok (.lst ds)=>.ok ds | .ok _=>.bad | .ex c p=>.ex c p | .bad=>.bad:=rfl
theorem nY{j:Int}(h:0 < j):jz (.int i) (.int j) = .ok (.int (i % j)):=by
 show (if decide (0 < j)=true then _ else _)=_
 rw[aH2 (aH4 h)]
theorem E5{j:Int}(h:0 < j)(h2:j < 1073741824):rC (.int i) (.int j) = .ok (.int (i / j)):=by
 show (if (decide (0 < j)&&decide (j < 1073741824))=true then _ else _)=_
 rw[aH2 (by rw[aH4 h,aH4 h2];rfl)]
theorem v5{i:Int}(h : -(2 ^ 64) < i/\i < 2 ^ 64):pF (.int i) (.int j) = .ok (.int (i * j)):=by
 show (if (sm i || sm j)=true then _ else _)=_
 rw[aH2]
 unfold sm
 rw[aH4 h.1,aH4 h.2];rfl
end
abbrev Cell:=Int×Int
def cD(c:Cell):D:=.tup [.int c.1,.int c.2]
@[simp] theorem aD2 (c:Cell) (ds:List D):qh (.tup (cD c::ds))=true:=rfl
abbrev br(l:List Cell):D:=.lst (l.map cD)
def row(c:Cell):List Int:=[c.1,c.2]
theorem SJ(h:row a=row b):a=b:=by
 obtain ⟨a1,a2⟩:=a;obtain ⟨b1,b2⟩:=b
 simp[row] at h;simp[h]
@[simp] theorem WY (c:Cell):gM (cD c)=true:=by unfold cD;simp[gM,ez]
@[simp] theorem SM (l:List Cell):ez (l.map cD)=true:=fM fun d hd=>by obtain ⟨c,_,rfl⟩:=aS.mp hd;exact WY c
@[simp] theorem SN (c:Cell):flat (cD c)=true:=by unfold cD;simp[flat,cz]
@[simp] theorem E6 (l:List Cell):cz (l.map cD)=true:=iP fun d hd=>by obtain ⟨c,_,rfl⟩:=aS.mp hd;exact SN c
@[simp] theorem Px (c:Cell):dep (cD c)=1:=by unfold cD;simp[dep,kr]
theorem tP(l:List Cell):kr (l.map cD)<=1:=sE fun d hd=>by obtain ⟨c,_,rfl⟩:=aS.mp hd;rw[Px];exact bf _
@[simp] theorem Hf (a b:Cell):iO (cD a) (cD b)=decide (a=b):=by
 obtain ⟨a1,a2⟩:=a;obtain ⟨b1,b2⟩:=b
 unfold cD
 simp only[iO,eU,xr]
 by_cases h:a1=b1 <;> by_cases h':a2=b2 <;> simp[h,h']
@[simp] theorem SO:∀(a b:List Cell),eU (a.map cD) (b.map cD)=decide (a=b)
 | [],[]=>by simp[eU]
 | [],_::_=>by simp[eU]
 | _::_,[]=>by simp[eU]
 | x::a,y::b=>by
  rw[aZ,aZ,eU,Hf,SO a b]
  by_cases h:x=y <;> by_cases h':a=b <;> simp[h,h']
theorem Py(neg:Bool)(a b:List Cell):n9 neg (br a) (br b) = .ok (.bl (if neg then !decide (a=b) else decide (a=b))):=by
 unfold n9
 have h:=tP a
 rw[aH2]
 ·simp[iO]
 ·simp[flat,dep];lia
theorem kF(neg:Bool)(i j:Int):n9 neg (.int i) (.int j) = .ok (.bl (if neg then !decide (i=j) else decide (i=j))):=by
 unfold n9
 rw[aH2 (by simp[flat,dep])]
 have e:iO (.int i) (.int j)=decide (i=j):=by
  rw[iO]
  by_cases h:i=j
  ·simp[h]
  ·rw[aH5 h];exact aH9.mpr h
 rw[e]
theorem pO(neg:Bool)(c:Cell)(l:List Cell):oj neg (cD c) (br l) = .ok (.bl (if neg then !decide (c∈l) else decide (c∈l))):=by
 unfold oj
 have h:=tP l
 dsimp only
 rw[aH2 (by simp;lia)]
 have e:(l.map cD).any (fun e=>iO e (cD c))=decide (c∈l):=by
  induction l with
  | nil=>rfl
  | cons x l ih=>
   rw[aZ,qU,Hf,ih (tP l)]
   by_cases hx:x=c
   ·simp[hx]
   ·have:¬ c=x:=fun z=>hx z.symm
    simp[hx,this]
 rw[e]
theorem SQ(c:Cell):JK (cD c)=some (row c):=rfl
theorem E7:∀l:List Cell,Ab (l.map cD)=some (l.map row)
 | []=>rfl
 | c::l=>by
  have ih:=E7 l
  unfold Ab at ih ⊢
  rw[aZ,Fl,SQ,ih]
  rfl
theorem SR:∀l:List Cell,mO (l.map row)=true
 | []=>rfl
 | c::l=>by
  unfold mO
  rw[aZ]
  simp[row]
def Aw(a b:Cell):Prop:=a.1 < b.1\/(a.1=b.1/\a.2 < b.2)
instance (a b:Cell):Decidable (Aw a b):=inferInstanceAs (Decidable (_\/_))
def cJ(l:List Cell):Prop:=l.Pairwise Aw
theorem aD3(a b:Cell):lexLt (row a) (row b)=decide (Aw a b):=by
 obtain ⟨a1,a2⟩:=a;obtain ⟨b1,b2⟩:=b
 unfold row Aw
 rw[eT]
 by_cases h2:a1=b1
 ·subst h2
  rw[aH2 rfl,eT]
  by_cases h3:a2=b2
  ·subst h3;rw[aH2 rfl];simp[sN]
  ·rw[aH3 h3];simp
 ·rw[aH3 h2];simp[h2]
theorem UK(c:Cell):fl (cD c)=row c:=by unfold cD row;simp[fl,jZ]
theorem Pz(a b:Cell):uK (fl (cD a)) (fl (cD b)) = !decide (Aw b a):=by rw[UK,UK];unfold uK;rw[aD3]
theorem IF(a b:Cell):Aw a b\/a=b\/Aw b a:=by
 obtain ⟨a1,a2⟩:=a;obtain ⟨b1,b2⟩:=b
 unfold Aw
 by_cases h1:a1 < b1
 ·exact .inl (.inl h1)
 ·by_cases h2:b1 < a1
  ·exact .inr (.inr (.inl h2))
  ·have:a1=b1:=by lia
   subst this
   by_cases h3:a2 < b2
   ·exact .inl (.inr ⟨rfl,h3⟩)
   ·by_cases h4:b2 < a2
    ·exact .inr (.inr (.inr ⟨rfl,h4⟩))
    ·have:a2=b2:=by lia
     subst this;exact .inr (.inl rfl)
theorem wF(a:Cell):¬ Aw a a:=by unfold Aw;lia
theorem Ax(h:Aw a b)(h':Aw b c):Aw a c:=by unfold Aw at *;lia
theorem PB(h:Aw a b):¬ Aw b a:=fun h'=>wF a (Ax h h')
theorem cJ.nodup(h:cJ l):l.Nodup:=h.imp fun {a b} z6 e=>by subst e;exact wF _ z6
def toC:D->Cell
 | .tup [.int a,.int b]=>(a,b)
 | _=>(0,0)
theorem toC_cD(c:Cell):toC (cD c)=c:=rfl
theorem UL[DecidableEq α]:∀{l:List α},l.Nodup->dd l=l
 | [],_=>rfl
 | x::l,h=>by
  rw[jF] at h
  rw[dd,aH3 h.1,UL h.2]
theorem Kr{l:List Cell}(h:l.Nodup):(l.map row).Nodup:=by
 rw[uv] at h ⊢
 exact B8 row (fun a b z6 e=>z6 (SJ e)) h
theorem SS(h:cJ l):gq (l.map cD)=l.map cD:=by
 symm
 refine sO (fun a ha b hb=>?_) (.refl _) ?_
 ·refine aY (aS.mp ha) fun x _ bx=>?_
  walk_at"$"
  refine aY (aS.mp hb) fun y _ bx=>?_
  walk_at"$"
  unfold cD;simp[iG,gk]
 ·refine B8 cD (fun a b z6=>?_) h
  rw[Pz,aH5 (PB z6)];rfl
theorem SV(l:List Cell):(l.map row).map qj=l.map cD:=by rw[dD];rfl
theorem Hg(l:List Cell)(hl:l.length<=50):∃m:List Cell,l6 (br l) = .ok (br m)/\(l=m↔cJ l):=by
 let ys:=gq ((dd (l.map row)).map qj)
 have hp:ys.Perm ((dd (l.map row)).map qj):=cR _
 have hy:∀y∈ys,∃c∈l,y=cD c:=fun y h=>by
  refine aY (aS.mp (hp.mem_iff.mp h)) fun r hr bx=>?_
  walk_at"$"
  refine aY (aS.mp (uW.mp hr)) fun c hc bx=>?_
  walk_at"$"
  exact⟨c,hc,rfl⟩
 have hm:ys=(ys.map toC).map cD:=by
  rw[dD]
  conv=>lhs;rw[<- AW ys]
  refine uu fun y h=>?_
  refine aY (hy y h) fun c _ bx=>?_
  walk_at"$"
  rfl
 refine⟨ys.map toC,?_,?_⟩
 ·unfold l6
  dsimp only
  rw[E7]
  dsimp only
  rw[aH2 (by rw[SR,Mu,bh];exact aH4 hl)]
  show R.ok (D.lst ys)=_
  exact congrArg (fun z=>R.ok (D.lst z)) hm
 ·constructor
  ·intro e
   have P6:ys=l.map cD:=by rw[hm,<- e]
   have hnd:ys.Nodup:=by
    refine hp.nodup_iff.mpr ?_
    have:=t6 (l.map row)
    rw[uv] at this ⊢
    refine B8 qj (fun a b z6 e=>z6 ?_) this
    unfold qj at e
    have e':a.map D.int=b.map D.int:=by injection e
    exact List.map_inj_right (fun x y h=>by injection h) |>.mp e'
   have hpw:=mK ((dd (l.map row)).map qj)
   change List.Pairwise _ ys at hpw
   rw[P6] at hnd hpw
   rw[uv] at hnd
   rw[AV] at hnd hpw
   refine(hnd.and hpw).imp fun {a b} jd=>?_
   obtain ⟨h1,h2⟩:=jd
   rw[Pz] at h2
   rcases IF a b with h | h | h
   ·exact h
   ·subst h;exact aI4 rfl h1
   ·rw[aH4 h] at h2;cases h2
  ·intro h
   have e1:dd (l.map row)=l.map row:=UL (Kr h.nodup)
   have e2:ys=l.map cD:=by
    show gq _=_
    rw[e1,SV,SS h]
   rw[e2,dD]
   conv=>lhs;rw[<- AW l]
   exact uu fun c _=>(toC_cD c).symm
theorem bD(h:F st = .nx st'):bR F G st=G st':=by simp[h]
theorem Hh(h:F st = .rt d):bR F G st = .rt d:=by simp[h]
theorem X0(h:F st = .ex c p s):bR F G st = .ex c p s:=by simp[h]
theorem ie(h:f st = .ok d):dU i f st = .nx (st.set i (some d)):=by simp[h]
theorem iH(h:f st = .ok d):gf f st = .rt d:=by simp[h]
theorem tQ(h:f st = .ok d):qv f st = .nx st:=by simp[h]
theorem Hi(h:fc st = .ok (.bl true)):Dm.fm fc F G st=F st:=by simp[h]
theorem v9(h:fc st = .ok (.bl false)):Dm.fm fc F G st=G st:=by simp[h]
theorem fP{ds:List D}(st:ig)(h:F st = .rt d)(e:ds.map some++lT (n - ds.length) none=st:=by rfl):cM n F ds = .ok d:=by
 subst e;unfold cM;rw[h]
theorem E8{g:List D->R D}(h1:f1 st = .ok a)(h:g [a]=r):bZ g (aa f1 aG) st=r:=by simp[h1,h]
theorem E9{g:List D->R D}(h1:f1 st = .ok a)(h2:f2 st = .ok b)(h:g [a,b]=r):bZ g (aa f1 (aa f2 aG)) st=r:=by simp[h1,h2,h]
theorem Ww{g:List D->R D}(h1:f1 st = .ok a)(h2:f2 st = .ok b)(h3:f3 st = .ok c)(h:g [a,b,c]=r):bZ g (aa f1 (aa f2 (aa f3 aG))) st=r:=by simp[h1,h2,h3,h]
theorem om{g:D->D->R D}(h1:f1 st = .ok a)(h2:f2 st = .ok b)(h:g a b=r):bK g f1 f2 st=r:=by simp[h1,h2,h]
theorem un1{g:D->R D}(h1:f1 st = .ok a)(h:g a=r):wz g f1 st=r:=by simp[h1,h]
theorem Cf(h:f st = .ok (.bl true))(h2:g st=r):oh f g st=r:=by simp[h,h2]
theorem Hj(h:f st = .ok (.bl false)):oh f g st = .ok (.bl false):=by simp[h]
theorem am9(h:f st = .ok (.bl false))(h2:g st=r):YF f g st=r:=by simp[h,h2]
theorem an0(h:f st = .ok (.bl b)):uR f st = .ok (.bl (!b)):=by simp[h]
theorem l9{α:Type}{bind:DB}{ft fe:DF}{f:α->D}{p:α->Bool}{g:α->D}{S:α->ig}{P:ig->Prop}:∀(xs:List α) (hS:∀x∈xs,P (S x)) (hb:∀x∈xs,∀st,P st->bind (f x) st=some (S x)) (ht:∀x∈xs,ft (S x) = .ok (.bl (p x))) (he:∀x∈xs,p x=true->fe (S x) = .ok (g x)) (st:ig),P st->j6 bind ft fe (xs.map f) st = .ok ((xs.filter p).map g)
 | [],_,_,_,_,_,_=>rfl
 | x::xs,hS,hb,ht,he,st,h=>by
  have ih:=l9 xs (fun y hy=>hS y (.tail _ hy)) (fun y hy=>hb y (.tail _ hy)) (fun y hy=>ht y (.tail _ hy)) (fun y hy=>he y (.tail _ hy)) (S x) (hS x (.head _))
  rw[aZ,j6,hb x (.head _) st h]
  dsimp only
  rw[ht x (.head _)]
  cases hp:p x with
  | true=>
   dsimp only
   rw[he x (.head _) hp,M6 hp,aZ,ih]
  | false=>
   dsimp only
   rw[M7 (by rw[hp];exact iK),ih]
theorem kG{gi:DI}{k:Nat}{fr:List Nat}{bind:DB}{ft fe:DF}{st:ig}{ds es:List D}(h1:gi st = .ok ds)(hl:ds.length<=5000)(h2:j6 bind ft fe ds (pH k fr st) = .ok es):iS gi k fr bind ft fe st = .ok (.lst es):=by
 unfold iS
 rw[h1]
 dsimp only
 rw[aH2 hl,h2]
theorem nR{α:Type}{bind:DB}{F:DS}{f:α->D}{Q:List α->ig->Prop}:∀(xs pre:List α) (st:ig),(∀p x r,pre++xs=p++x::r->∀st,Q p st->∃kj mG,bind (f x) st=some kj/\F kj = .nx mG/\Q (p++[x]) mG)->Q pre st->∃st',gh bind F (xs.map f) st = .nx st'/\Q (pre++xs) st'
 | [],pre,st,_,q=>⟨st,rfl,by simpa using q⟩
 | x::xs,pre,st,h,q=>by
  refine bF (h pre x xs rfl st q) fun kj mG h1 h2 q2=>?_
  refine aY (nR xs (pre++[x]) mG (fun p y r e=>h p y r (by simpa using e)) q2) fun st' h3 q3=>?_
  refine⟨st',?_,by simpa using q3⟩
  rw[aZ,gh,h1]
  dsimp only
  rw[h2]
  exact h3
def Stop(o:Out):Prop:=match o with | .rt _=>True | .ex _ _ _=>True | _=>False
theorem IG{α:Type}{bind:DB}{F:DS}{f:α->D}{Q:ig->Prop}{p:α->Prop}{S:Out->Prop}(hS:∀o,S o->Stop o):∀(xs:List α) (st:ig),(∀x∈xs,∀st,Q st->∃kj,bind (f x) st=some kj/\(p x->∃mG,F kj = .nx mG/\Q mG)/\(¬ p x->S (F kj)))->Q st->
  ((∀x∈xs,p x)->∃st',gh bind F (xs.map f) st = .nx st'/\Q st')/\(¬ (∀x∈xs,p x)->S (gh bind F (xs.map f) st))
 | [],st,_,q=>⟨fun _=>⟨st,rfl,q⟩,fun h=>aI4 (fun x hx=>by cases hx) h⟩
 | x::xs,st,h,q=>by
  refine cI (h x (.head _) st q) fun kj h1 h2 h3=>?_
  rw[aZ,gh,h1]
  dsimp only
  by_cases hp:p x
  ·refine aY (h2 hp) fun mG e2 q2=>?_
   obtain ⟨i1,i2⟩:=IG hS xs mG (fun y hy=>h y (.tail _ hy)) q2
   rw[e2]
   dsimp only
   refine⟨fun z=>i1 fun y hy=>z y (.tail _ hy),fun z=>i2 fun z'=>z fun y hy=>?_⟩
   rcases bP.mp hy with rfl | hy
   ·exact hp
   ·exact z' y hy
  ·have s:=h3 hp
   refine⟨fun z=>aI4 (z x (.head _)) hp,fun _=>?_⟩
   cases hf:F kj with
   | rt d=>rw[hf] at s;exact s
   | ex c p st=>rw[hf] at s;exact s
   | _=>rw[hf] at s;exact aI4 (hS _ s) (by simp[Stop])
theorem II(f:α->D)(l:List α):enD (l.map f)=l.zipIdx.map fun p=>.tup [.int (p.2:Nat),f p.1]:=by
 unfold enD
 refine AS fun i=>?_
 rw[Fo,dm,dm,List.getElem?_zipIdx]
 cases l[i]? <;> simp
theorem Cg{ds:List D}{n:Nat}(h:ds[n]?=some d):jP (.lst ds) (.int n) = .ok d:=by
 have hl:=(gz.mp h).1
 have e:EB ds (n:Int)=some d:=by
  unfold EB QZ
  rw[aH2 (Int.natCast_nonneg n),aH2 (by lia)]
  simpa using h
 unfold jP
 dsimp only
 rw[e]
theorem yP(ds:List D)(m:Nat):cutD ds none (some (m:Int))=ds.take m:=by
 unfold cutD HT.zR
 simp only[List.drop_zero,Lw]
 rw[aH3 (by lia)]
 simp only[jV]
 by_cases h:m<=ds.length
 ·rw[F0 h]
 ·rw[Ly (by lia),wY,uh (by lia)]
theorem PC(ds:List D)(m:Nat):cutD ds (some (m:Int)) none=ds.drop m:=by
 unfold cutD HT.zR
 dsimp only
 rw[aH3 (by lia)]
 simp only[jV]
 by_cases h:m<=ds.length
 ·rw[F0 h,uh (by simp)]
 ·rw[Ly (by lia),AR,Fp (by lia)];simp
theorem an1{f g:DF}{a:Nat}(h1:f st = .ok (br l))(h2:g st = .ok (.int (a:Int))):KY f none (some g) st = .ok (br (l.take a)):=by
 simp[KY,qy,h1,h2,yP]
theorem SW{f g:DF}{a:Nat}(h1:f st = .ok (br l))(h2:g st = .ok (.int (a:Int))):KY f (some g) none st = .ok (br (l.drop a)):=by
 simp[KY,qy,h1,h2,PC]
theorem PD{l m:List Cell}(h:l.length+m.length<=5000):rD (br l) (br m) = .ok (br (l++m)):=by
 unfold rD
 dsimp only
 rw[aH2 (by simp;lia)]
 simp
theorem PF(a b:Cell):iG (cD a) (cD b)=true:=by unfold cD;simp[iG,gk]
theorem UM(a:Cell):nl (cD a)=true:=by unfold cD;simp[nl,HU]
theorem PJ{l:List Cell}(h:l.length < 64):Ai (l.map cD)=true:=by
 unfold Ai
 simp only[cu,oO,aH7,gI,bh]
 refine⟨⟨⟨⟨h,SM l⟩,fun d hd=>?_⟩,fun a ha b hb=>?_⟩,.inl (.inr fun d hd=>?_)⟩
 ·refine aY (aS.mp hd) fun c _ bx=>?_
  walk_at"$"
  exact⟨UM c,by rw[Px];decide⟩
 ·refine aY (aS.mp ha) fun c _ bx=>?_
  walk_at"$"
  refine aY (aS.mp hb) fun c' _ bx=>?_
  walk_at"$"
  exact PF c c'
 ·refine aY (aS.mp hd) fun c _ bx=>?_
  walk_at"$"
  rfl
theorem vc{m:List Cell}(hp:m.Perm l)(hs:m.Pairwise (fun a b=>¬ Aw b a))(hn:l.Nodup):cJ m:=by
 have xE:m.Nodup:=hp.nodup_iff.mpr hn
 rw[uv] at xE
 refine(xE.and hs).imp fun {a b} jd=>?_
 obtain ⟨h1,h2⟩:=jd
 rcases IF a b with h | h | h
 ·exact h
 ·exact aI4 h h1
 ·exact aI4 h h2
@[simp] theorem ao3 (l:List Cell):fq (.bM 0 (l.map cD)) = .ok (br l):=by simp[fq]
@[simp] theorem an2 (l:List Cell):lJ [br l] = .ok (br l):=by simp[lJ]
abbrev cU:=Cell×Cell
def lD(p:cU):D:=.tup [cD p.1,cD p.2]
abbrev gw(l:List cU):D:=.lst (l.map lD)
def mid(a b:Cell):Cell:=((a.1+b.1) / 2,(a.2+b.2) / 2)
def four(c:Cell):List Cell:=[(c.1 - 2,c.2),(c.1,c.2 - 2),(c.1,c.2+2),(c.1+2,c.2)]
def SX(cells:List Cell)(a:Cell):List Cell:=(four a).filter fun b=>decide (b∈cells)&&decide (mid a b∈cells)
def bz(cells:List Cell):List cU:=cells.flatMap fun a=>(SX cells a).map fun b=>(a,b)
theorem Hl:p∈bz cells↔p.1∈cells/\p.2∈four p.1/\p.2∈cells/\mid p.1 p.2∈cells:=by
 unfold bz SX
 simp only[M8,aS,wV,cu,aH7]
 constructor
 ·rintro ⟨a,h1,b,⟨h2,h3,h4⟩,rfl⟩;exact⟨h1,h2,h3,h4⟩
 ·rintro ⟨h1,h2,h3,h4⟩;exact⟨p.1,h1,p.2,⟨h2,h3,h4⟩,rfl⟩
@[simp] theorem X4 (p:cU):gM (lD p)=true:=by unfold lD;simp[gM,ez]
@[simp] theorem ao4 (l:List cU):ez (l.map lD)=true:=fM fun d hd=>by obtain ⟨c,_,rfl⟩:=aS.mp hd;exact X4 c
@[simp] theorem SY (p:cU):flat (lD p)=true:=by unfold lD;simp[flat,cz]
@[simp] theorem an3 (l:List cU):cz (l.map lD)=true:=iP fun d hd=>by obtain ⟨c,_,rfl⟩:=aS.mp hd;exact SY c
@[simp] theorem aD4 (p:cU):dep (lD p)=2:=by unfold lD;simp[dep,kr]
@[simp] theorem X5 (a b:cU):iO (lD a) (lD b)=decide (a=b):=by
 obtain ⟨a1,a2⟩:=a;obtain ⟨b1,b2⟩:=b
 unfold lD
 simp only[iO,eU,xr,Hf]
 by_cases h:a1=b1 <;> by_cases h':a2=b2 <;> simp[h,h']
@[simp] theorem T3:∀(a b:List cU),eU (a.map lD) (b.map lD)=decide (a=b)
 | [],[]=>by simp[eU]
 | [],_::_=>by simp[eU]
 | _::_,[]=>by simp[eU]
 | x::a,y::b=>by
  rw[aZ,aZ,eU,X5,T3 a b]
  by_cases h:x=y <;> by_cases h':a=b <;> simp[h,h']
@[simp] theorem lx0 (p:cU):jP (lD p) (.int 0) = .ok (cD p.1):=rfl
@[simp] theorem lx1 (p:cU):jP (lD p) (.int 1) = .ok (cD p.2):=rfl
def Box(l:List Cell)(h w:Nat):Prop:=∃dn ac:Int,∀c∈l,dn<=c.1/\c.1 < dn+h/\ac<=c.2/\c.2 < ac+w
def small(h w:Nat):Prop:=(h<=4/\w<=6)\/(h<=3/\w=8)\/(h=8/\w<=3)
def yQ(ay:List Cell)(p:cU):Bool:=decide (p.1∈ay)&&(!decide (p.2∈ay)&&decide (mid p.1 p.2∈ay))
def opn(cells ay:List Cell):List cU:=(bz cells).filter (yQ ay)
end Dm
end am6
section X6
namespace Pk
open L2 Dm
variable (t:k9)
theorem Ea{l:List Cell}(hl:l.length<=50):(cJ l->fH t [br l] = .ok (.bl true))/\(¬ cJ l->fH t [br l] = .ok (.bl false)):=by
 obtain ⟨m,h1,h2⟩:=Hg l hl
 constructor
 ·intro h
  have e:=h2.mpr h
  subst e
  simp[fH,cM,h1,Py]
 ·intro h
  have:¬ l=m:=fun z=>h (h2.mp z)
  simp[fH,cM,h1,Py,this]
def inR(c:Cell):Prop:=0<=c.1/\c.1<=7/\0<=c.2/\c.2<=7
instance (c:Cell):Decidable (inR c):=inferInstanceAs (Decidable (_/\_))
@[simp] theorem ix0 (c:Cell):jP (cD c) (.int 0) = .ok (.int c.1):=rfl
@[simp] theorem ix1 (c:Cell):jP (cD c) (.int 1) = .ok (.int c.2):=rfl
theorem X7(c:Cell):mV t [cD c] = .ok (.bl (decide (inR c))):=by
 unfold inR
 by_cases h1:0<=c.1 <;> by_cases h2:c.1<=7 <;> by_cases h3:0<=c.2 <;> by_cases h4:c.2<=7 <;> simp[mV,cM,h1,h2,h3,h4]
def Valid(l:List Cell):Prop:=(1<=l.length/\l.length<=24)/\cJ l/\∀c∈l,inR c
theorem yR(hF:∀(x:D) (c:Cell),F [some x,some (cD c)]=if inR c then .nx [some x,some (cD c)] else .ex t.fL none [some x,some (cD c)])(x:D):∀(l:List Cell) (y:Option D),((∀c∈l,inR c)->∃y',gh (eO 1) F (l.map cD) [some x,y] = .nx [some x,y'])/\(¬ (∀c∈l,inR c)->∃s,gh (eO 1) F (l.map cD) [some x,y] = .ex t.fL none s)
 | [],y=>⟨fun _=>⟨y,rfl⟩,fun h=>aI4 (fun c hc=>by cases hc) h⟩
 | c::l,y=>by
  obtain ⟨i1,i2⟩:=yR hF x l (some (cD c))
  have e:eO 1 (cD c) [some x,y]=some [some x,some (cD c)]:=rfl
  by_cases hc:inR c
  ·constructor
   ·intro h
    obtain ⟨y',h'⟩:=i1 fun d hd=>h d (.tail _ hd)
    refine⟨y',?_⟩
    rw[aZ,gh,e]
    dsimp only
    rw[hF,aH2 hc]
    exact h'
   ·intro h
    obtain ⟨s,h'⟩:=i2 fun z=>h fun d hd=>by
     rcases bP.mp hd with rfl | hd
     ·exact hc
     ·exact z d hd
    refine⟨s,?_⟩
    rw[aZ,gh,e]
    dsimp only
    rw[hF,aH2 hc]
    exact h'
  ·constructor
   ·intro h;exact aI4 (h c (.head _)) hc
   ·intro h
    refine⟨[some x,some (cD c)],?_⟩
    rw[aZ,gh,e]
    dsimp only
    rw[hF,aH3 hc]
theorem T4{l:List Cell}(hl:l.length<=50):(Valid l->cH t [br l] = .ok .cY)/\(¬ Valid l->cH t [br l] = .ex t.fL none):=by
 have hF:∀(x:D) (c:Cell),Dm.fm (uR (bZ (mV t) (aa (ao 1) aG))) (iY t.fL) cP [some x,some (cD c)]=if inR c then .nx [some x,some (cD c)] else .ex t.fL none [some x,some (cD c)]:=fun x c=>by
  by_cases h:inR c <;> simp[X7,h]
 obtain ⟨i1,i2⟩:=yR t hF (br l) l none
 obtain ⟨r1,r2⟩:=Ea t hl
 have c1:((l.map cD).length:Int)=l.length:=by simp
 by_cases h0:1<=l.length
 ·by_cases h1:l.length<=24
  ·by_cases h2:cJ l
   ·by_cases h3:∀c∈l,inR c
    ·obtain ⟨y,h4⟩:=i1 h3
     refine⟨fun _=>?_,fun h=>aI4 ⟨⟨h0,h1⟩,h2,h3⟩ h⟩
     have a1:(1:Int)<=l.length:=by lia
     have a2:(l.length:Int)<=24:=by lia
     simp[cH,cM,a1,a2,r1 h2,h4]
    ·obtain ⟨y,h4⟩:=i2 h3
     refine⟨fun h=>aI4 h.2.2 h3,fun _=>?_⟩
     have a1:(1:Int)<=l.length:=by lia
     have a2:(l.length:Int)<=24:=by lia
     simp[cH,cM,a1,a2,r1 h2,h4]
   ·refine⟨fun h=>aI4 h.2.1 h2,fun _=>?_⟩
    have a1:(1:Int)<=l.length:=by lia
    have a2:(l.length:Int)<=24:=by lia
    simp[cH,cM,a1,a2,r2 h2]
  ·refine⟨fun h=>aI4 h.1.2 h1,fun _=>?_⟩
   have a1:(1:Int)<=l.length:=by lia
   have a2:¬ (l.length:Int)<=24:=by lia
   simp[cH,cM,a1,a2]
 ·refine⟨fun h=>aI4 h.1.1 h0,fun _=>?_⟩
  have a1:¬ (1:Int)<=l.length:=by lia
  simp[cH,cM,a1]
def PK(ns:List Int)(n:Nat):Int:=(ns[n]?).getD 0
abbrev iL(ns:List Int):D:=.lst (ns.map D.int)
theorem T5(ns:List Int)(n:Nat):bJ t [iL ns,.int n] = .ok (.int (PK ns n)):=by
 unfold PK
 by_cases h:n < ns.length
 ·have e:jP (iL ns) (.int n) = .ok (.int ((ns[n]?).getD 0)):=Cg (by rw[dm,dF h];simp)
  have h':(n:Int) < ns.length:=by lia
  simp[bJ,cM,h',e]
 ·have h':¬ (n:Int) < ns.length:=by lia
  rw[uq (qO h)]
  simp[bJ,cM,h']
abbrev T6:List Int:=[48271,69621,16807,39373,30269,40014,40692,50021,61687,71993,83869,95561,30307]
theorem X8(k:Int):∃v:Int,0<=v/\v<=95561/\jP (.lst [.int 48271,.int 69621,.int 16807,.int 39373,.int 30269,.int 40014,.int 40692,.int 50021,.int 61687,.int 71993,.int 83869,.int 95561,.int 30307]) (.int (k % 13)) = .ok (.int v):=by
 obtain ⟨n,hn,e⟩:∃n:Nat,n < T6.length/\k % 13=n:=⟨(k % 13).toNat,by show _ < 13;lia,by lia⟩
 rw[e]
 have hL:∀x∈T6,0<=x/\x<=95561:=by decide
 exact⟨T6[n],(hL _ (qT hn)).1,(hL _ (qT hn)).2,Cg (ds:=T6.map D.int) (by rw[dm,dF hn];rfl)⟩
theorem pP(c k m:Int)(hm:0 < m):∃r:Int,0<=r/\r < m/\b7 t [.int c,.int k,.int m] = .ok (.int r):=by
 obtain ⟨v,v0,v1,hv⟩:=X8 k
 have e1:jz (.int c) (.int 2147483647) = .ok (.int (c % 2147483647)):=nY (by decide)
 have e2:jz (.int k) (.int 13) = .ok (.int (k % 13)):=nY (by decide)
 have e3:rC (.int k) (.int 13) = .ok (.int (k / 13)):=E5 (by decide) (by decide)
 have b0:0<=c % 2147483647+12345:=by lia
 have b1:c % 2147483647+12345<=2147495991:=by lia
 have b2:0<=(c % 2147483647+12345) * v:=MZ b0 v0
 have b3:(c % 2147483647+12345) * v<=2147495991 * 95561:=N1 b1 v1 v0 (by decide)
 have e4:pF (.int (c % 2147483647+12345)) (.int v) = .ok (.int ((c % 2147483647+12345) * v)):=v5 (by constructor <;> lia)
 have e5:pF (.int 2) (.int (k / 13)) = .ok (.int (2 * (k / 13))):=v5 (by decide)
 have e6:pF (.int ((c % 2147483647+12345) * v)) (.int (2 * (k / 13)+1)) = .ok (.int ((c % 2147483647+12345) * v * (2 * (k / 13)+1))):=v5 (by constructor <;> lia)
 have e7:pF (.int 977) (.int k) = .ok (.int (977 * k)):=v5 (by decide)
 have e8:∀x:Int,jz (.int x) (.int 1000000007) = .ok (.int (x % 1000000007)):=fun x=>nY (by decide)
 have e9:∀x:Int,rC (.int x) (.int 7) = .ok (.int (x / 7)):=fun x=>E5 (by decide) (by decide)
 have e10:∀x:Int,jz (.int x) (.int m) = .ok (.int (x % m)):=fun x=>nY hm
 refine⟨(((c % 2147483647+12345) * v * (2 * (k / 13)+1)+977 * k) % 1000000007 / 7) % m,FH _ (by lia),FI _ hm,?_⟩
 simp[b7,cM,e1,e2,e3,hv,e4,e5,e6,e7,e8,e9,e10]
def pk(c:Int)(k:Nat):Bool:=match b7 t [.int c,.int k,.int 7] with | .ok (.int r)=>decide (0 < r) | _=>false
def vd(dn ac w:Int)(k:Nat):Cell:=(dn+k / w,ac+k % w)
abbrev IJ:DS:=Dm.fm (bK Qz (bZ (b7 t) (aa (bZ (bJ t) (aa (ao 0) (aa (dC (.int 1)) aG))) (aa (ao 8) (aa (dC (.int 7)) aG)))) (dC (.int 0)))
 (zj 7 (dI 100 (aa (bK i7 (ao 5) (bK rC (ao 8) (ao 4))) (aa (bK i7 (ao 6) (bK jz (ao 8) (ao 4))) aG))))
 cP
theorem rM(ns:List Int)(most c h w dn ac:Int)(hw:0 < w)(hw2:w < 100):∀(ks:List Nat) (acc:List Cell) (y:Option D),acc.length+ks.length<=5000->
  ∃y',gh (eO 8) (IJ t) (ks.map fun i=>.int (i:Nat)) [some (iL ns),some (.int most),some (.int c),some (.int h),some (.int w),some (.int dn),some (.int ac),some (br acc),y]=
   .nx [some (iL ns),some (.int most),some (.int c),some (.int h),some (.int w),some (.int dn),some (.int ac),some (br (acc++(ks.filter (pk t (PK ns 1))).map (vd dn ac w))),y']
 | [],acc,y,_=>⟨y,by simp[gh]⟩
 | k::ks,acc,y,hl=>by
  obtain ⟨r,r0,r1,hr⟩:=pP t (PK ns 1) k 7 (by decide)
  have YK:=T5 t ns 1
  have hp:pk t (PK ns 1) k=decide (0 < r):=by unfold pk;rw[hr]
  have e1:rC (.int (k:Int)) (.int w) = .ok (.int ((k:Int) / w)):=E5 hw (by lia)
  have e2:jz (.int (k:Int)) (.int w) = .ok (.int ((k:Int) % w)):=nY hw
  have hb:eO 8 (.int (k:Int)) [some (iL ns),some (.int most),some (.int c),some (.int h),some (.int w),some (.int dn),some (.int ac),some (br acc),y]=some [some (iL ns),some (.int most),some (.int c),some (.int h),some (.int w),some (.int dn),some (.int ac),some (br acc),some (.int (k:Int))]:=rfl
  rw[cS] at hl
  rw[aZ,gh,hb]
  dsimp only
  by_cases hc:0 < r
  ·have hF:IJ t [some (iL ns),some (.int most),some (.int c),some (.int h),some (.int w),some (.int dn),some (.int ac),some (br acc),some (.int (k:Int))] = .nx [some (iL ns),some (.int most),some (.int c),some (.int h),some (.int w),some (.int dn),some (.int ac),some (br (acc++[vd dn ac w k])),some (.int (k:Int))]:=by
    have GD:acc.length<=5000:=by lia
    have X9:bJ t [iL ns,.int 1] = .ok (.int (PK ns 1)):=YK
    have Ox:b7 t [.int (PK ns 1),.int (k:Int),.int 7] = .ok (.int r):=hr
    simp[X9,Ox,hc,zj,e1,e2,vd,cD,GD]
   rw[hF]
   dsimp only
   obtain ⟨y',ih⟩:=rM ns most c h w dn ac hw hw2 ks (acc++[vd dn ac w k]) (some (.int (k:Int))) (by simp;lia)
   refine⟨y',ih.trans ?_⟩
   rw[M6 (by rw[hp];exact aH4 hc),aZ,fR]
   rfl
  ·have hF:IJ t [some (iL ns),some (.int most),some (.int c),some (.int h),some (.int w),some (.int dn),some (.int ac),some (br acc),some (.int (k:Int))] = .nx [some (iL ns),some (.int most),some (.int c),some (.int h),some (.int w),some (.int dn),some (.int ac),some (br acc),some (.int (k:Int))]:=by
    have X9:bJ t [iL ns,.int 1] = .ok (.int (PK ns 1)):=YK
    have Ox:b7 t [.int (PK ns 1),.int (k:Int),.int 7] = .ok (.int r):=hr
    simp[X9,Ox,hc]
   rw[hF]
   dsimp only
   obtain ⟨y',ih⟩:=rM ns most c h w dn ac hw hw2 ks acc (some (.int (k:Int))) (by lia)
   refine⟨y',ih.trans ?_⟩
   rw[M7 (by rw[hp,aH5 hc];decide)]
theorem T7(hw:0 < w)(h:j < k):Aw (vd dn ac w j) (vd dn ac w k):=by
 unfold Aw vd
 dsimp only
 have h1:(j:Int) / w<=(k:Int) / w:=Int.ediv_le_ediv hw (by lia)
 rcases Int.lt_or_eq_of_le h1 with h2 | h2
 ·exact .inl (by lia)
 ·refine .inr ⟨by lia,?_⟩
  have e1:=N2 (j:Int) w
  have e2:=N2 (k:Int) w
  rw[h2] at e1
  lia
theorem T8{dn ac w h:Int}(hw:0 < w)(hh:0 < h)(d0:0<=dn)(d1:dn<=8 - h)(a0:0<=ac)(a1:ac<=8 - w){k:Nat}(hk:(k:Int) < h * w):inR (vd dn ac w k):=by
 unfold inR vd
 dsimp only
 have h1:0<=(k:Int) / w:=N3 (by lia) (by lia)
 have h2:(k:Int) / w < h:=N4 hw hk
 have h3:0<=(k:Int) % w:=FH _ (by lia)
 have h4:(k:Int) % w < w:=FI _ hw
 lia
theorem Ci(hw:0 < w)(p:Nat->Bool)(n:Nat):cJ (((dj n).filter p).map (vd dn ac w)):=by
 unfold cJ
 refine B8 (R:=fun a b=>a < b) (vd dn ac w) (fun a b h=>T7 hw h) ?_
 exact UY xg LP
structure Drawn(l:List Cell)(most:Nat):Prop where
 pos:1<=l.length
 le:l.length<=most
 up:cJ l
 inr:∀c∈l,inR c
 box:∃h w,Box l h w/\small h w
theorem T9(ns:List Int)(most:Nat)(hm:1<=most):∃l,dZ t [iL ns,.int most] = .ok (br l)/\Drawn l most:=by
 obtain ⟨c,YK⟩:∃c:Int,bJ t [iL ns,.int 0] = .ok (.int c):=⟨_,T5 t ns 0⟩
 obtain ⟨r1,p1,q1,h1⟩:=pP t c 1 4 (by decide)
 obtain ⟨r2,p2,q2,h2⟩:=pP t c 2 6 (by decide)
 have e4:jz (.int c) (.int 4) = .ok (.int (c % 4)):=nY (by decide)
 obtain ⟨h,w,a1,a2,b1,b2,hw,sm,e3⟩:∃h w:Int,1<=h/\h<=8/\1<=w/\w<=8/\h * w<=64/\((h<=4/\w<=6)\/(h<=3/\w=8)\/(h=8/\w<=3))/\Dm.fm (bK (n9 false) (bK jz (ao 2) (dC (.int 4))) (dC (.int 1)))
   (Ad (gP 3 4) (cN (bK jP (gO 100 (aa (dI 100 (aa (bK i7 (dC (.int 1)) (bK jz (ao 3) (dC (.int 3)))) (aa (dC (.int 8)) aG))) (aa (dI 100 (aa (dC (.int 8)) (aa (bK i7 (dC (.int 1)) (bK jz (ao 4) (dC (.int 3)))) aG))) aG))) (bK jz (bK rC (ao 2) (dC (.int 4))) (dC (.int 2))))))
   cP [some (iL ns),some (.int most),some (.int c),some (.int (1+r1)),some (.int (1+r2)),none,none,none,none] = .nx [some (iL ns),some (.int most),some (.int c),some (.int h),some (.int w),none,none,none,none]:=by
  by_cases hc:c % 4=1
  ·have m1:jz (.int (1+r1)) (.int 3) = .ok (.int ((1+r1) % 3)):=nY (by decide)
   have m2:jz (.int (1+r2)) (.int 3) = .ok (.int ((1+r2) % 3)):=nY (by decide)
   have m3:rC (.int c) (.int 4) = .ok (.int (c / 4)):=E5 (by decide) (by decide)
   have m4:jz (.int (c / 4)) (.int 2) = .ok (.int (c / 4 % 2)):=nY (by decide)
   have hz:c / 4 % 2=0\/c / 4 % 2=1:=by lia
   rcases hz with hz | hz
   ·refine⟨1+(1+r1) % 3,8,by lia,by lia,by lia,by lia,by lia,by lia,?_⟩
    have ix:jP (.lst [.tup [.int (1+(1+r1) % 3),.int 8],.tup [.int 8,.int (1+(1+r2) % 3)]]) (.int 0) = .ok (.tup [.int (1+(1+r1) % 3),.int 8]):=rfl
    simp[e4,kF,hc,m1,m2,m3,m4,hz,ix,Ad,gM,ez,gP]
   ·refine⟨8,1+(1+r2) % 3,by lia,by lia,by lia,by lia,by lia,by lia,?_⟩
    have ix:jP (.lst [.tup [.int (1+(1+r1) % 3),.int 8],.tup [.int 8,.int (1+(1+r2) % 3)]]) (.int 1) = .ok (.tup [.int 8,.int (1+(1+r2) % 3)]):=rfl
    simp[e4,kF,hc,m1,m2,m3,m4,hz,ix,Ad,gM,ez,gP]
  ·have hb:(1+r1) * (1+r2)<=4 * 6:=N1 (by lia) (by lia) (by lia) (by lia)
   refine⟨1+r1,1+r2,by lia,by lia,by lia,by lia,by lia,by lia,?_⟩
   simp[e4,kF,hc]
 obtain ⟨dn,d0,d1,hd⟩:=pP t c 3 (9 - h) (by lia)
 obtain ⟨ac,s0,s1,hs⟩:=pP t c 4 (9 - w) (by lia)
 have em:pF (.int h) (.int w) = .ok (.int (h * w)):=v5 (by constructor <;> lia)
 have hn0:0<=h * w:=MZ (by lia) (by lia)
 obtain ⟨y',hl⟩:=rM t ns most c h w dn ac (by lia) (by lia) (dj (h * w).toNat) [] none (by simp;lia)
 rw[i0] at hl
 have up:=Ci (dn:=dn) (ac:=ac) (w:=w) (by lia) (pk t (PK ns 1)) (h * w).toNat
 have YT:uV (aa (bK pF (ao 3) (ao 4)) aG) [some (iL ns),some (.int most),some (.int c),some (.int h),some (.int w),some (.int dn),some (.int ac),some (.lst []),none] = .ok ((dj (h * w).toNat).map fun i=>.int (i:Nat)):=by
  unfold uV
  simp[em]
  lia
 obtain ⟨L,hLd⟩:∃L,L=((dj (h * w).toNat).filter (pk t (PK ns 1))).map (vd dn ac w):=⟨_,rfl⟩
 rw[<- hLd] at hl up
 have UB:∀x∈L,inR x:=fun x hx=>by
  rw[hLd] at hx
  obtain ⟨k,hk,rfl⟩:=aS.mp hx
  have:=mD.mp (wV.mp hk).1
  exact T8 (h:=h) (by lia) (by lia) d0 (by lia) s0 (by lia) (by lia)
 have hbx:∀x∈L,dn<=x.1/\x.1 < dn+(h.toNat:Int)/\ac<=x.2/\x.2 < ac+(w.toNat:Int):=fun x hx=>by
  rw[hLd] at hx
  obtain ⟨k,hk,rfl⟩:=aS.mp hx
  have hk':=mD.mp (wV.mp hk).1
  have q1:0<=(k:Int) / w:=N3 (by lia) (by lia)
  have q2:(k:Int) / w < h:=N4 (by lia) (by lia)
  have q3:0<=(k:Int) % w:=FH _ (by lia)
  have q4:(k:Int) % w < w:=FI _ (by lia)
  unfold vd
  dsimp only
  lia
 have sm':small h.toNat w.toNat:=by unfold small;lia
 have f1:dU 2 (bZ (bJ t) (aa (ao 0) (aa (dC (.int 0)) aG))) [some (iL ns),some (.int most),none,none,none,none,none,none,none] = .nx [some (iL ns),some (.int most),some (.int c),none,none,none,none,none,none]:=by simp[YK]
 have f2:Dw 3 4 (aa (bK i7 (dC (.int 1)) (bZ (b7 t) (aa (ao 2) (aa (dC (.int 1)) (aa (dC (.int 4)) aG))))) (aa (bK i7 (dC (.int 1)) (bZ (b7 t) (aa (ao 2) (aa (dC (.int 2)) (aa (dC (.int 6)) aG))))) aG)) [some (iL ns),some (.int most),some (.int c),none,none,none,none,none,none] = .nx [some (iL ns),some (.int most),some (.int c),some (.int (1+r1)),some (.int (1+r2)),none,none,none,none]:=by simp[Dw,h1,h2]
 have f4:Dw 5 6 (aa (bZ (b7 t) (aa (ao 2) (aa (dC (.int 3)) (aa (bK s8 (dC (.int 9)) (ao 3)) aG)))) (aa (bZ (b7 t) (aa (ao 2) (aa (dC (.int 4)) (aa (bK s8 (dC (.int 9)) (ao 4)) aG)))) aG)) [some (iL ns),some (.int most),some (.int c),some (.int h),some (.int w),none,none,none,none] = .nx [some (iL ns),some (.int most),some (.int c),some (.int h),some (.int w),some (.int dn),some (.int ac),none,none]:=by simp[Dw,hd,hs]
 have f5:dU 7 (gO 100 aG) [some (iL ns),some (.int most),some (.int c),some (.int h),some (.int w),some (.int dn),some (.int ac),none,none] = .nx [some (iL ns),some (.int most),some (.int c),some (.int h),some (.int w),some (.int dn),some (.int ac),some (.lst []),none]:=by simp
 have f6:ir (uV (aa (bK pF (ao 3) (ao 4)) aG)) (eO 8) (IJ t) [some (iL ns),some (.int most),some (.int c),some (.int h),some (.int w),some (.int dn),some (.int ac),some (.lst []),none] = .nx [some (iL ns),some (.int most),some (.int c),some (.int h),some (.int w),some (.int dn),some (.int ac),some (br L),y']:=by
  rw[UJ,YT]
  exact hl
 have fin:∀l:List Cell,Drawn l most->(bR (Dm.fm (bK (n9 false) (bZ mq (aa (ao 7) aG)) (dC (.int 0)))
   (dU 7 (gO 100 (aa (dI 100 (aa (cN (ao 5)) (aa (cN (ao 6)) aG))) aG)))
   cP)
   (gf (KY (ao 7) none (some (ao 1))))) [some (iL ns),some (.int most),some (.int c),some (.int h),some (.int w),some (.int dn),some (.int ac),some (br L),y'] = .rt (br l)->∃l,dZ t [iL ns,.int most] = .ok (br l)/\Drawn l most:=fun l dl e=>by
  refine⟨l,?_,dl⟩
  have e0:dZ t [iL ns,.int most]=match (.rt (br l):Out) with | .rt d=>.ok d | .nx _=>.ok .cY | .ex c p _=>.ex c p | _=>.bad:=by
   unfold dZ cM
   show (match (bR _ _ [some (iL ns),some (.int most),none,none,none,none,none,none,none]) with | .rt d=>R.ok d | .nx _=>.ok .cY | .ex c p _=>.ex c p | _=>.bad)=_
   rw[bD f1,bD f2,bD e3,bD f4,bD f5,bD f6,e]
  rw[e0]
 by_cases hL:L=[]
 ·refine fin [(dn,ac)] ⟨by simp,by simpa using hm,by simp[cJ],fun x hx=>?_,?_⟩ ?_
  ·obtain rfl:x=(dn,ac):=by simpa using hx
   unfold inR;dsimp only;lia
  ·refine⟨h.toNat,w.toNat,⟨dn,ac,fun x hx=>?_⟩,sm'⟩
   obtain rfl:x=(dn,ac):=by simpa using hx
   dsimp only
   lia
  ·subst hL
   have g1:Dm.fm (bK (n9 false) (bZ mq (aa (ao 7) aG)) (dC (.int 0)))
    (dU 7 (gO 100 (aa (dI 100 (aa (cN (ao 5)) (aa (cN (ao 6)) aG))) aG)))
    cP [some (iL ns),some (.int most),some (.int c),some (.int h),some (.int w),some (.int dn),some (.int ac),some (br []),y'] = .nx [some (iL ns),some (.int most),some (.int c),some (.int h),some (.int w),some (.int dn),some (.int ac),some (br [(dn,ac)]),y']:=by simp[kF,cD]
   rw[bD g1]
   have:(([(dn,ac)]:List Cell).map cD).take most=([(dn,ac)]:List Cell).map cD:=uh (by simpa using hm)
   simp[KY,qy,yP,this]
   simp[cD,gM,ez]
   exact this
 ·refine fin (L.take most) ⟨?_,by simp;lia,up.sublist (LB _ _),fun x hx=>UB x (oH hx),⟨h.toNat,w.toNat,⟨dn,ac,fun x hx=>hbx x (oH hx)⟩,sm'⟩⟩ ?_
  ·cases hc:L with
   | nil=>exact aI4 hc hL
   | cons x r=>simp;lia
  ·have hL0:¬ (L.length:Int)=0:=by
    intro z
    exact hL (oJ.mp (by lia))
   have g1:Dm.fm (bK (n9 false) (bZ mq (aa (ao 7) aG)) (dC (.int 0)))
    (dU 7 (gO 100 (aa (dI 100 (aa (cN (ao 5)) (aa (cN (ao 6)) aG))) aG)))
    cP [some (iL ns),some (.int most),some (.int c),some (.int h),some (.int w),some (.int dn),some (.int ac),some (br L),y'] = .nx [some (iL ns),some (.int most),some (.int c),some (.int h),some (.int w),some (.int dn),some (.int ac),some (br L),y']:=by simp[kF,hL]
   rw[bD g1]
   simp[KY,qy,yP]
end Pk
end X6
section Xa
namespace Pk
open L2 Dm
variable (t:k9)
def zE(c m:Int)(k:Nat):Bool:=match b7 t [.int c,.int k,.int m] with | .ok (.int r)=>decide (0 < r) | _=>false
theorem Xb(c:Int){l:List Cell}(h1:1<=l.length)(h2:l.length<=500):∃p,i9 t [.int c,br l] = .ok (br p)/\p.Sublist l:=by
 obtain ⟨r,r0,r1,hr⟩:=pP t c 40 4 (by decide)
 have f1:dU 2 (bZ (b7 t) (aa (ao 0) (aa (dC (.int 40)) (aa (dC (.int 4)) aG)))) [some (.int c),some (br l),none,none] = .nx [some (.int c),some (br l),some (.int r),none]:=by simp[hr]
 by_cases hz:r=0
 ·subst hz
  obtain ⟨g,g0,g1,hg⟩:=pP t c 41 l.length (by lia)
  obtain ⟨n,rfl⟩:=N5 g0
  have hn:n < l.length:=by lia
  refine⟨l.take n++l.drop (n+1),?_,by rw[<- LS];exact List.eraseIdx_sublist l n⟩
  unfold i9
  refine fP [some (.int c),some (br l),none,none] ?_
  rw[bD f1]
  refine Hh ?_
  rw[Hi (by simp[kF])]
  have f2:dU 3 (bZ (b7 t) (aa (ao 0) (aa (dC (.int 41)) (aa (bZ mq (aa (ao 1) aG)) aG)))) [some (.int c),some (br l),some (.int 0),none] = .nx [some (.int c),some (br l),some (.int 0),some (.int (n:Int))]:=by simp[hg]
  rw[bD f2]
  refine iH (om (a:=br (l.take n)) (b:=br (l.drop (n+1))) (an1 rfl rfl) (SW rfl rfl) (PD ?_))
  simp;lia
 ·obtain ⟨m,hm,hix⟩:∃m:Int,0 < m/\jP (.lst [.int 0,.int 2,.int 3,.int 4]) (.int r) = .ok (.int m):=by
   have:r=1\/r=2\/r=3:=by lia
   rcases this with rfl | rfl | rfl
   ·exact⟨2,by decide,rfl⟩
   ·exact⟨3,by decide,rfl⟩
   ·exact⟨4,by decide,rfl⟩
  refine⟨(l.zipIdx.filter fun x=>zE t c m x.2).map (·.1),?_,?_⟩
  ·unfold i9
   refine fP [some (.int c),some (br l),none,none] ?_
   rw[bD f1,bD (st':=[some (.int c),some (br l),some (.int r),none]) (by rw[v9 (by simp[kF,hz])];rfl)]
   refine iH ?_
   show _=R.ok (D.lst (List.map cD (List.map _ _)))
   rw[dD]
   refine kG (ds:=l.zipIdx.map fun p=>.tup [.int (p.2:Nat),cD p.1]) ?_ (by simp;lia) ?_
   ·simp[DJ,II]
   ·refine l9 (S:=fun x=>[some (.int (x.2:Nat)),some (cD x.1),some (.int c),some (.int r)]) (P:=fun st=>∃y z,st=[y,z,some (.int c),some (.int r)]) l.zipIdx (fun x _=>⟨_,_,rfl⟩) (fun x _ st jd=>by obtain ⟨y,z,e⟩:=jd;subst e;rfl) (fun x _=>?_) (fun x _ _=>by simp) _ ⟨none,none,rfl⟩
    obtain ⟨v,v0,v1,hv⟩:=pP t c x.2 m hm
    have e:zE t c m x.2=decide (0 < v):=by unfold zE;rw[hv]
    simp[hix,hv,e]
  ·have:=(xg (p:=fun x:Cell×Nat=>zE t c m x.2) (l:=l.zipIdx)).map Prod.fst
   rwa [M9] at this
def cQ(cells ay:List Cell):Prop:=cJ ay/\∀c∈ay,c∈cells
theorem mW{ay:List Cell}(hl:ay.length<=50):(cQ cells ay->dg t [.bM 0 (cells.map cD),br ay] = .ok .cY)/\(¬ cQ cells ay->dg t [.bM 0 (cells.map cD),br ay] = .ex t.fu none):=by
 obtain ⟨r1,r2⟩:=Ea t hl
 have loop:=IG (bind:=eO 2) (F:=Dm.fm (bK (oj true) (ao 2) (wz fq (ao 0))) (iY t.fu) cP) (f:=cD) (Q:=fun st=>∃y,st=[some (.bM 0 (cells.map cD)),some (br ay),y]) (p:=fun c=>c∈cells) (S:=fun o=>∃s,o = .ex t.fu none s) (fun o n8=>by obtain ⟨s,e⟩:=n8;subst e;trivial) ay [some (.bM 0 (cells.map cD)),some (br ay),none] (fun c _ st rR=>by
  obtain ⟨y,e⟩:=rR
  subst e
  refine⟨[some (.bM 0 (cells.map cD)),some (br ay),some (cD c)],rfl,fun h=>⟨_,?_,some (cD c),rfl⟩,fun h=>⟨[some (.bM 0 (cells.map cD)),some (br ay),some (cD c)],?_⟩⟩
  ·rw[v9 (by simp[pO,h])];rfl
  ·rw[Hi (by simp[pO,h])];rfl) ⟨none,rfl⟩
 have key:∀o:Out,(bR (Dm.fm (uR (bZ (fH t) (aa (ao 1) aG))) (iY t.fu) cP) (ir (jA (ao 1)) (eO 2) (Dm.fm (bK (oj true) (ao 2) (wz fq (ao 0))) (iY t.fu) cP))) [some (.bM 0 (cells.map cD)),some (br ay),none]=o->dg t [.bM 0 (cells.map cD),br ay]=match o with | .rt d=>.ok d | .nx _=>.ok .cY | .ex c p _=>.ex c p | _=>.bad:=fun o h=>by
  unfold dg cM
  subst h;rfl
 by_cases hr:cJ ay
 ·have s1:Dm.fm (uR (bZ (fH t) (aa (ao 1) aG))) (iY t.fu) cP [some (.bM 0 (cells.map cD)),some (br ay),none] = .nx [some (.bM 0 (cells.map cD)),some (br ay),none]:=by simp[r1 hr]
  rw[bD s1] at key
  refine⟨fun h=>?_,fun h=>?_⟩
  ·obtain ⟨st',h1,_⟩:=loop.1 h.2
   exact key (.nx st') (by simp[h1])
  ·obtain ⟨s,h1⟩:=loop.2 fun z=>h ⟨hr,z⟩
   exact key (.ex t.fu none s) (by simp[h1])
 ·refine⟨fun h=>aI4 h.1 hr,fun _=>key (.ex t.fu none [some (.bM 0 (cells.map cD)),some (br ay),none]) (X0 ?_)⟩
  simp[r2 hr]
theorem cQ.sub{ay:List Cell}(h:cJ cells)(hs:ay.Sublist cells):cQ cells ay:=⟨h.sublist hs,fun c hc=>hs.subset hc⟩
theorem Tc(d:Drawn l 24):rE (cH t) [br l] = .ok (.bM 0 (l.map cD)):=by
 have h:=(T4 t (l:=l) (by have:=d.le;lia)).1 ⟨⟨d.pos,d.le⟩,d.up,d.inr⟩
 simp[rE,h]
theorem Drawn.mono(d:Drawn l m)(h:m<=n):Drawn l n:=⟨d.pos,cC d.le h,d.up,d.inr,d.box⟩
end Pk
end Xa
section Xc
namespace Pk
open L2 Dm
abbrev bB(cells:List Cell):D:=.bM 0 (cells.map cD)
@[simp] theorem aH1 (x:Int):rC (.int x) (.int 2) = .ok (.int (x / 2)):=E5 (by decide) (by decide)
theorem Cj(f:Cell->List cU)(k:Nat):∀l:List Cell,(∀a∈l,(f a).length<=k)->(l.flatMap f).length<=l.length * k
 | [],_=>by simp
 | a::l,h=>by
  rw[qV,bU,cS,Nat.succ_mul]
  have:=Cj f k l fun x hx=>h x (.tail _ hx)
  have:=h a (.head _)
  lia
theorem PM{bind:DB}{F:DS}{S:List cU->Option D->ig}{a:Cell}(xs:List Cell)(acc:List cU)(y:Option D)(hl:acc.length+xs.length<=5000)
  (hb:∀acc y b,bind (cD b) (S acc y)=some (S acc (some (cD b)))) (hF:∀acc b,b∈xs->acc.length<=5000->∃y,F (S acc (some (cD b))) = .nx (S (acc++if p b=true then [(a,b)] else []) y)) :
  ∃y',gh bind F (xs.map cD) (S acc y) = .nx (S (acc++(xs.filter p).map fun b=>(a,b)) y'):=by
 obtain ⟨st',h1,y',h2,_⟩:=nR (bind:=bind) (F:=F) (f:=cD) (Q:=fun pre st=>∃y,st=S (acc++(pre.filter p).map fun b=>(a,b)) y/\pre.length<=xs.length) xs [] (S acc y) (fun q x r e st jd=>by
  obtain ⟨y,hy,hq⟩:=jd
  subst hy
  rw[i0] at e
  have hlen:q.length+1<=xs.length:=by rw[e];simp
  have hf:(q.filter p).length<=q.length:=AX ..
  obtain ⟨y2,h2⟩:=hF (acc++(q.filter p).map fun b=>(a,b)) x (by rw[e];simp) (by simp;lia)
  refine⟨_,_,hb _ _ _,h2,y2,?_,by simpa using hlen⟩
  rw[List.filter_append,iC,<- fR]
  cases hp:p x <;> simp[hp]) ⟨y,by simp,by simp⟩
 exact⟨y',by rw[h1,h2,i0]⟩
variable (t:k9)
theorem an4(c:Cell):jb t [cD c] = .ok (br (four c)):=by
 simp[jb,cM,four,cD,jP,EB,QZ]
theorem IK(a b:Cell):iu t [cD a,cD b] = .ok (cD (mid a b)):=by
 simp[iu,cM,mid,cD,jP,EB,QZ]
theorem IL{cells:List Cell}(hl:cells.length<=200):tN t [bB cells] = .ok (gw (bz cells)):=by
 have inner:∀(acc:List cU) (a:Cell) (y:Option D),acc.length<=900->∃y',(ir (jA (bZ (jb t) (aa (ao 2) aG))) (eO 3)
   (Dm.fm (oh (bK (oj false) (ao 3) (wz fq (ao 0))) (bK (oj false) (bZ (iu t) (aa (ao 2) (aa (ao 3) aG))) (wz fq (ao 0))))
   (zj 1 (dI 100 (aa (cN (ao 2)) (aa (cN (ao 3)) aG))))
   cP)) [some (bB cells),some (gw acc),some (cD a),y] = .nx [some (bB cells),some (gw (acc++(SX cells a).map fun b=>(a,b))),some (cD a),y']:=fun acc a y ha=>by
  obtain ⟨y',h⟩:=PM (bind:=eO 3) (F:=Dm.fm (oh (bK (oj false) (ao 3) (wz fq (ao 0))) (bK (oj false) (bZ (iu t) (aa (ao 2) (aa (ao 3) aG))) (wz fq (ao 0))))
   (zj 1 (dI 100 (aa (cN (ao 2)) (aa (cN (ao 3)) aG))))
   cP) (S:=fun acc y=>[some (bB cells),some (gw acc),some (cD a),y]) (a:=a) (p:=fun b=>decide (b∈cells)&&decide (mid a b∈cells)) (four a) acc y (by simp[four];lia) (fun acc y b=>rfl) (fun acc b _ GD=>⟨some (cD b),by
    by_cases h1:b∈cells
    ·by_cases h2:mid a b∈cells
     ·rw[Hi (Cf (om (a:=cD b) (b:=br cells) rfl (by simp) (by rw[pO];simp[h1])) (om (a:=cD (mid a b)) (b:=br cells) (by simp[IK]) (by simp) (by rw[pO];simp[h2])))]
      simp[zj,GD,h1,h2,lD]
     ·rw[v9 (Cf (om (a:=cD b) (b:=br cells) rfl (by simp) (by rw[pO];simp[h1])) (om (a:=cD (mid a b)) (b:=br cells) (by simp[IK]) (by simp) (by rw[pO];simp[h2])))]
      simp[h2]
    ·rw[v9 (Hj (om (a:=cD b) (b:=br cells) rfl (by simp) (by rw[pO];simp[h1])))]
     simp[h1]⟩)
  exact⟨y',by simp[an4];exact h⟩
 obtain ⟨st',h1,y,z,h2⟩:=nR (bind:=eO 2) (F:=ir (jA (bZ (jb t) (aa (ao 2) aG))) (eO 3)
   (Dm.fm (oh (bK (oj false) (ao 3) (wz fq (ao 0))) (bK (oj false) (bZ (iu t) (aa (ao 2) (aa (ao 3) aG))) (wz fq (ao 0))))
   (zj 1 (dI 100 (aa (cN (ao 2)) (aa (cN (ao 3)) aG))))
   cP)) (f:=cD) (Q:=fun pre st=>∃y z,st=[some (bB cells),some (gw (pre.flatMap fun a=>(SX cells a).map fun b=>(a,b))),y,z]) cells [] [some (bB cells),some (gw []),none,none] (fun q a r e st jd=>by
  obtain ⟨y,z,hy⟩:=jd
  subst hy
  rw[i0] at e
  have hq:q.length<=200:=by rw[e] at hl;simp at hl;lia
  have h4:∀a,((SX cells a).map fun b=>(a,b)).length<=4:=fun a=>by
   rw[bh];exact cC (AX ..) (by simp[four])
  have:=Cj (fun a=>(SX cells a).map fun b=>(a,b)) 4 q fun a _=>h4 a
  obtain ⟨z',h⟩:=inner (q.flatMap fun a=>(SX cells a).map fun b=>(a,b)) a z (by lia)
  exact⟨_,_,rfl,h,some (cD a),z',by rw[qW];simp⟩) ⟨none,none,rfl⟩
 subst h2
 unfold tN
 refine fP [some (bB cells),none,none,none] ?_
 rw[bD (st':=[some (bB cells),some (gw []),none,none]) (by simp),bD (st':=[some (bB cells),some (gw (bz cells)),y,z]) ?_]
 ·rfl
 ·rw[UJ]
  have:jA (wz fq (ao 0)) [some (bB cells),some (gw []),none,none] = .ok (cells.map cD):=by simp
  rw[this]
  exact h1
end Pk
end Xc
section Xe
namespace Dm
open L2 HT
def yS(l:List Cell):List Cell:=(gq (l.map cD)).map toC
theorem Eb(l:List Cell):gq (l.map cD)=(yS l).map cD:=by
 have hp:=cR (l.map cD)
 unfold yS
 rw[dD]
 conv=>lhs;rw[<- AW (gq (l.map cD))]
 refine uu fun y hy=>?_
 refine aY (aS.mp (hp.mem_iff.mp hy)) fun c _ bx=>?_
 walk_at"$"
 rfl
theorem nS(l:List Cell):(yS l).Perm l:=by
 have:=(cR (l.map cD)).map toC
 rw[dD] at this
 have e:l.map (toC∘cD)=l:=by
  conv=>rhs;rw[<- AW l]
  exact uu fun c _=>toC_cD c
 rw[e] at this
 exact this
theorem PN(l:List Cell):(yS l).Pairwise (fun a b=>¬ Aw b a):=by
 have pw:=mK (l.map cD)
 rw[Eb,AV] at pw
 refine pw.imp fun {a b} h=>?_
 rw[Pz] at h
 simpa using h
theorem Td{l:List Cell}(h:l.length < 64):rF [br l] = .ok (br (yS l)):=by
 unfold rF
 dsimp only
 rw[aH2 (PJ h),Eb]
theorem PU{l:List Cell}(h:l.Nodup):cJ (yS l):=vc (nS l) (PN l) h
def left(ay:List Cell)(p:cU):List Cell:=ay.filter fun c=>!decide (c=p.1) && !decide (c=mid p.1 p.2)
def eL(ay:List Cell)(p:cU):List Cell:=yS (left ay p++[p.2])
theorem pQ:c∈left ay p↔c∈ay/\c≠p.1/\c≠mid p.1 p.2:=by
 unfold left;simp
theorem Hq:c∈eL ay p↔(c∈ay/\c≠p.1/\c≠mid p.1 p.2)\/c=p.2:=by
 unfold eL
 rw[(nS _).mem_iff,gy,pQ];simp
theorem Ec:yQ ay p=true↔p.1∈ay/\p.2∉ay/\mid p.1 p.2∈ay:=by
 unfold yQ;simp
theorem Ks{p:cU}(up:cJ ay)(h:p.2∉ay):cJ (eL ay p):=by
 refine PU ?_
 rw[x8]
 refine⟨up.nodup.sublist xg,by simp,fun a ha b hb e=>?_⟩
 rw[fJ] at hb
 subst hb;subst e
 exact h (pQ.mp ha).1
theorem Xf{p:cU}(h:p.2∈four p.1):mid p.1 p.2≠p.1:=by
 obtain ⟨⟨a1,a2⟩,b1,b2⟩:=p
 unfold four at h;unfold mid
 simp only[bP,eS,aI2,FL] at h
 intro e
 simp only[FL] at e
 lia
theorem yT{ay:List Cell}(nd:ay.Nodup)(h:yQ ay p=true)(hf:p.2∈four p.1):ay.Perm (p.1::mid p.1 p.2::left ay p):=by
 refine z7 (Ec.mp h) fun h1 h2 h3=>?_
 have YD:=Xf hf
 refine(LX nd ?_).mpr fun c=>?_
 ·rw[jF,jF]
  refine⟨?_,?_,nd.sublist xg⟩
  ·rw[bP,pQ]
   rintro (e | e)
   ·exact YD e.symm
   ·exact e.2.1 rfl
  ·rw[pQ];exact fun e=>e.2.2 rfl
 ·rw[bP,bP,pQ]
  by_cases e1:c=p.1
  ·subst e1;simp[h1]
  ·by_cases e2:c=mid p.1 p.2
   ·subst e2;simp[h3]
   ·simp[e1,e2]
theorem Hr{ay:List Cell}(nd:ay.Nodup)(h:yQ ay p=true)(hf:p.2∈four p.1):(eL ay p).length+1=ay.length:=by
 have:=(yT nd h hf).length_eq
 have:=(nS (left ay p++[p.2])).length_eq
 unfold eL
 simp at *
 lia
theorem Te(h:p∈opn cells ay):p.1∈cells/\p.2∈four p.1/\p.2∈cells/\mid p.1 p.2∈cells/\yQ ay p=true:=by
 unfold opn at h
 rw[wV,Hl] at h
 exact⟨h.1.1,h.1.2.1,h.1.2.2.1,h.1.2.2.2,h.2⟩
def vN(cells:List Cell):List Cell->List cU->Prop
 | _,[]=>True
 | ay,p::r=>p∈opn cells ay/\vN cells (eL ay p) r
def mX(ay:List Cell)(row:List cU):List Cell:=row.foldl eL ay
def kS(c:Cell):Int:=(c.1+c.2) % 3
def kD(c:Cell):Int:=(c.1 - c.2) % 3
def par(f:Cell->Bool)(l:List Cell):Int:=((l.filter f).length:Int) % 2
def f1(c:Cell):Bool:=decide (kS c < 2)
def f2(c:Cell):Bool:=decide (0 < kS c)
def f3(c:Cell):Bool:=decide (kD c < 2)
def f4(c:Cell):Bool:=decide (0 < kD c)
def pR(l:List Cell):List Int:=[par f1 l,par f2 l,par f3 l,par f4 l]
def bi(b:Bool):Nat:=if b then 1 else 0
theorem IM(f:Cell->Bool)(l:List Cell):par f l=((l.countP f:Nat):Int) % 2:=by unfold par;rw[List.countP_eq_length_filter]
theorem nU{f:Cell->Bool}{ay:List Cell}(nd:ay.Nodup)(h:yQ ay p=true)(hf:p.2∈four p.1)(he:(bi (f p.1)+bi (f (mid p.1 p.2))+bi (f p.2))=2):par f (eL ay p)=par f ay:=by
 have e1:=(yT nd h hf).countP_eq f
 have e2:=(nS (left ay p++[p.2])).countP_eq f
 rw[IM,IM]
 unfold eL
 simp only[e2,e1,List.countP_append,wZ,List.countP_nil]
 unfold bi at he
 lia
theorem Tf(P:Prop)[Decidable P]:bi (decide P)=if P then 1 else 0:=by unfold bi;simp
theorem PV(c:Cell):bi (f1 c)=if (c.1+c.2) % 3 < 2 then 1 else 0:=Tf _
theorem PX(c:Cell):bi (f2 c)=if 0 < (c.1+c.2) % 3 then 1 else 0:=Tf _
theorem PY(c:Cell):bi (f3 c)=if (c.1 - c.2) % 3 < 2 then 1 else 0:=Tf _
theorem PZ(c:Cell):bi (f4 c)=if 0 < (c.1 - c.2) % 3 then 1 else 0:=Tf _
theorem Q0(s e:Int)(h:e=1\/e = -1):(if s % 3 < 2 then 1 else 0)+(if (s+e) % 3 < 2 then 1 else 0)+(if (s+2 * e) % 3 < 2 then 1 else 0)=2:=by
 have h3:s % 3=0\/s % 3=1\/s % 3=2:=by lia
 rcases h with rfl | rfl <;> rcases h3 with h | h | h
 ·rw[h,aH2 (by decide),aH2 (by lia),aH3 (by lia)]
 ·rw[h,aH2 (by decide),aH3 (by lia),aH2 (by lia)]
 ·rw[h,aH3 (by decide),aH2 (by lia),aH2 (by lia)]
 ·rw[h,aH2 (by decide),aH3 (by lia),aH2 (by lia)]
 ·rw[h,aH2 (by decide),aH2 (by lia),aH3 (by lia)]
 ·rw[h,aH3 (by decide),aH2 (by lia),aH2 (by lia)]
theorem Q2(s e:Int)(h:e=1\/e = -1):(if 0 < s % 3 then 1 else 0)+(if 0 < (s+e) % 3 then 1 else 0)+(if 0 < (s+2 * e) % 3 then 1 else 0)=2:=by
 have h3:s % 3=0\/s % 3=1\/s % 3=2:=by lia
 rcases h with rfl | rfl <;> rcases h3 with h | h | h
 ·rw[h,aH3 (by decide),aH2 (by lia),aH2 (by lia)]
 ·rw[h,aH2 (by decide),aH2 (by lia),aH3 (by lia)]
 ·rw[h,aH2 (by decide),aH3 (by lia),aH2 (by lia)]
 ·rw[h,aH3 (by decide),aH2 (by lia),aH2 (by lia)]
 ·rw[h,aH2 (by decide),aH3 (by lia),aH2 (by lia)]
 ·rw[h,aH2 (by decide),aH2 (by lia),aH3 (by lia)]
theorem Q3{p:cU}(hf:p.2∈four p.1):∃e f:Int,(e=1\/e = -1)/\(f=1\/f = -1)/\(mid p.1 p.2).1+(mid p.1 p.2).2=p.1.1+p.1.2+e/\p.2.1+p.2.2=p.1.1+p.1.2+2 * e/\(mid p.1 p.2).1 - (mid p.1 p.2).2=p.1.1 - p.1.2+f/\p.2.1 - p.2.2=p.1.1 - p.1.2+2 * f:=by
 obtain ⟨⟨a1,a2⟩,b1,b2⟩:=p
 unfold four at hf;unfold mid
 simp only[bP,eS,aI2,FL] at hf ⊢
 rcases hf with ⟨rfl,rfl⟩ | ⟨rfl,rfl⟩ | ⟨rfl,rfl⟩ | ⟨rfl,rfl⟩
 ·exact⟨-1,-1,.inr rfl,.inr rfl,by lia,by lia,by lia,by lia⟩
 ·exact⟨-1,1,.inr rfl,.inl rfl,by lia,by lia,by lia,by lia⟩
 ·exact⟨1,-1,.inl rfl,.inr rfl,by lia,by lia,by lia,by lia⟩
 ·exact⟨1,1,.inl rfl,.inl rfl,by lia,by lia,by lia,by lia⟩
theorem Hs{ay:List Cell}(nd:ay.Nodup)(h:yQ ay p=true)(hf:p.2∈four p.1):pR (eL ay p)=pR ay:=by
 refine YO (Q3 hf) fun e f he hf' s1 s2 d1 d2=>?_
 unfold pR
 rw[nU nd h hf (f:=f1) (by rw[PV,PV,PV,s1,s2];exact Q0 _ e he),nU nd h hf (f:=f2) (by rw[PX,PX,PX,s1,s2];exact Q2 _ e he),
  nU nd h hf (f:=f3) (by rw[PY,PY,PY,d1,d2];exact Q0 _ f hf'),nU nd h hf (f:=f4) (by rw[PZ,PZ,PZ,d1,d2];exact Q2 _ f hf')]
theorem lq:∀{row:List cU} {ay:List Cell},cJ ay->(∀c∈ay,c∈cells)->vN cells ay row->cJ (mX ay row)/\(∀c∈mX ay row,c∈cells)/\pR (mX ay row)=pR ay/\(mX ay row).length+row.length=ay.length
 | [],ay,u,s,_=>⟨u,s,rfl,rfl⟩
 | p::r,ay,u,s,h=>by
  refine QD (Te h.1) fun m1 m2 m3 m4 m5=>?_
  have c1:=Hs u.nodup m5 m2
  have l1:=Hr u.nodup m5 m2
  obtain ⟨i1,i2,i3,i4⟩:=lq (row:=r) (ay:=eL ay p) (Ks u (Ec.mp m5).2.1) (fun c hc=>by
   rcases Hq.mp hc with h | h
   ·exact s c h.1
   ·rw[h];exact m3) h.2
  refine⟨i1,i2,i3.trans c1,?_⟩
  rw[cS,<- l1,<- i4]
  show (mX (eL ay p) r).length+(r.length+1)=(mX (eL ay p) r).length+r.length+1
  lia
def tI(l:List Int):D:=.tup (l.map D.int)
def Ku(l:List Cell):D:=tI (pR l)
theorem Ed:∀a b:List Int,eU (a.map D.int) (b.map D.int)=decide (a=b)
 | [],[]=>by simp[eU]
 | [],_::_=>by simp[eU]
 | _::_,[]=>by simp[eU]
 | x::a,y::b=>by
  rw[aZ,aZ,eU,Ed a b,iO]
  by_cases h:x=y <;> by_cases h':a=b <;> simp[h,h']
theorem Ay:∀a:List Int,cz (a.map D.int)=true:=fun a=>iP fun d hd=>by obtain ⟨c,_,rfl⟩:=aS.mp hd;simp[flat]
theorem Ef:∀a:List Int,kr (a.map D.int)<=0:=fun a=>sE fun d hd=>by obtain ⟨c,_,rfl⟩:=aS.mp hd;simp[dep]
theorem Xg(neg:Bool)(a b:List Int):n9 neg (tI a) (tI b) = .ok (.bl (if neg then !decide (a=b) else decide (a=b))):=by
 unfold n9 tI
 have h:=Ef a
 rw[aH2]
 ·simp[iO,Ed]
 ·simp[flat,dep,Ay];lia
theorem Xh(neg:Bool)(x:Int)(l:List Int):oj neg (.int x) (tI l) = .ok (.bl (if neg then !decide (x∈l) else decide (x∈l))):=by
 unfold oj tI
 have h:=Ef l
 dsimp only
 rw[aH2 (by simp[flat,Ay];lia)]
 have e:(l.map D.int).any (fun e=>iO e (.int x))=decide (x∈l):=by
  clear h
  induction l with
  | nil=>rfl
  | cons y l ih=>
   rw[aZ,qU,ih,iO]
   by_cases hx:y=x
   ·simp[hx]
   ·have:¬ x=y:=fun z=>hx z.symm
    simp[hx,this]
 rw[e]
theorem Eg(neg:Bool)(a b:List Cell):n9 neg (Ku a) (Ku b) = .ok (.bl (if neg then !decide (pR a=pR b) else decide (pR a=pR b))):=Xg neg _ _
theorem comp_map{α:Type}{bind:DB}{ft fe:DF}{f:α->D}{g:α->D}{S:α->ig}{P:ig->Prop}(xs:List α)(hS:∀x∈xs,P (S x))(hb:∀x∈xs,∀st,P st->bind (f x) st=some (S x))(ht:∀x∈xs,ft (S x) = .ok (.bl true))(he:∀x∈xs,fe (S x) = .ok (g x))(st:ig)(h:P st):j6 bind ft fe (xs.map f) st = .ok (xs.map g):=by
 have:=l9 (p:=fun _=>true) xs hS hb ht (fun x hx _=>he x hx) st h
 rw[List.filter_eq_self.mpr fun _ _=>rfl] at this
 exact this
end Dm
end Xe
section Xi
namespace Pk
open L2 Dm
variable (t:k9)
theorem IP(ay:List Cell)(k:Cell->Int)(two:List Int)(f:Cell->Bool)(h:∀c,decide (k c∈two)=f c)(hl:ay.length<=5000):l8 t [.lst (ay.map fun c=>.int (k c)),tI two] = .ok (.int (par f ay)):=by
 unfold l8
 refine fP [some (.lst (ay.map fun c=>.int (k c))),some (tI two)] (iH (om (a:=.int ((ay.filter f).length:Nat)) (b:=.int 2) ?_ rfl (by unfold par;exact nY (by decide))))
 refine E8 (a:=.lst ((ay.filter f).map fun c=>.int (k c))) (kG (ds:=ay.map fun c=>.int (k c)) rfl (by simpa using hl) (l9 (S:=fun x=>[some (.int (k x)),some (tI two)]) (P:=fun st=>∃y,st=[y,some (tI two)]) ay (fun x _=>⟨_,rfl⟩) (fun x _ st jd=>by obtain ⟨y,e⟩:=jd;subst e;rfl) (fun x _=>?_) (fun x _ _=>by simp) _ ⟨none,rfl⟩)) (by simp)
 rw[<- h x];exact om (a:=.int (k x)) (b:=tI two) rfl rfl (by rw[Xh];simp)
theorem wG{ay:List Cell}(lp:ay.length<=50)(S:cQ cells ay):dH t [bB cells,br ay] = .ok (Ku ay):=by
 have hc:=(mW t (cells:=cells) lp).1 S
 have o1:=IP t ay kS [0,1] f1 (fun c=>by unfold f1 kS;rw[jU];simp only[bP,eS,aI2,aH7];lia) (by lia)
 have o2:=IP t ay kS [1,2] f2 (fun c=>by unfold f2 kS;rw[jU];simp only[bP,eS,aI2,aH7];lia) (by lia)
 have o3:=IP t ay kD [0,1] f3 (fun c=>by unfold f3 kD;rw[jU];simp only[bP,eS,aI2,aH7];lia) (by lia)
 have o4:=IP t ay kD [1,2] f4 (fun c=>by unfold f4 kD;rw[jU];simp only[bP,eS,aI2,aH7];lia) (by lia)
 unfold dH
 refine fP [some (bB cells),some (br ay),none,none] ?_
 rw[bD (st':=[some (bB cells),some (br ay),none,none]) (by simp[hc])]
 rw[bD (st':=[some (bB cells),some (br ay),some (.lst (ay.map fun c=>.int (kS c))),none]) (ie (kG (ds:=ay.map cD) rfl (by simp;lia) (comp_map (S:=fun x=>[some (cD x)]) (P:=fun st=>∃y,st=[y]) ay (fun x _=>⟨_,rfl⟩) (fun x _ st n8=>by obtain ⟨y,e⟩:=n8;subst e;rfl) (fun x _=>rfl) (fun x _=>om (a:=.int (x.1+x.2)) (b:=.int 3) (om (a:=.int x.1) (b:=.int x.2) rfl rfl rfl) rfl (nY (by decide))) _ ⟨none,rfl⟩)))]
 rw[bD (st':=[some (bB cells),some (br ay),some (.lst (ay.map fun c=>.int (kS c))),some (.lst (ay.map fun c=>.int (kD c)))]) (ie (kG (ds:=ay.map cD) rfl (by simp;lia) (comp_map (S:=fun x=>[some (cD x)]) (P:=fun st=>∃y,st=[y]) ay (fun x _=>⟨_,rfl⟩) (fun x _ st rR=>by obtain ⟨y,e⟩:=rR;subst e;rfl) (fun x _=>rfl) (fun x _=>om (a:=.int (x.1 - x.2)) (b:=.int 3) (om (a:=.int x.1) (b:=.int x.2) rfl rfl rfl) rfl (nY (by decide))) _ ⟨none,rfl⟩)))]
 refine iH ?_
 simp[tI] at o1 o2 o3 o4
 simp[o1,o2,o3,o4,Ku,tI,pR]
theorem cQ.row{cells ay:List Cell}{row:List cU}(S:cQ cells ay)(h:vN cells ay row):cQ cells (mX ay row):=by
 obtain ⟨h1,h2,_⟩:=lq S.1 S.2 h
 exact⟨h1,h2⟩
end Pk
end Xi
section aD5
namespace Fr
variable {S L:Type}[BEq S][LawfulBEq S]
def ins(d:List (S×List L))(k:S)(v:List L):List (S×List L):=if d.any (·.1==k) then d else d++[(k,v)]
def gm(d:List (S×List L))(X:List (S×List L)):List (S×List L):=X.foldl (fun d p=>ins d p.1 p.2) d
def ext(step:S->List (L×S))(p:S×List L):List (S×List L):=(step p.1).map fun q=>(q.2,p.2++[q.1])
theorem Tg{t:S}:(ins d k v).any (·.1==t)=(d.any (·.1==t) || k==t):=by
 unfold ins
 split
 ·rename_i h
  by_cases e:k=t
  ·subst e;rw[h];rfl
  ·simp[e]
 ·simp
theorem Ck:∀(X d:List (S×List L)) (t:S),(gm d X).any (·.1==t)=(d.any (·.1==t) || X.any (·.1==t))
 | [],d,t=>by simp[gm]
 | p::X,d,t=>by
  show (gm (ins d p.1 p.2) X).any _=_
  rw[Ck X,Tg,qU,Bool.or_assoc]
theorem tR(d X Y:List (S×List L)):gm d (X++Y)=gm (gm d X) Y:=by unfold gm;rw[AY]
theorem Eh:∀(X d:List (S×List L)),(∀p∈X,d.any (·.1==p.1)=true)->gm d X=d
 | [],d,_=>rfl
 | p::X,d,h=>by
  show gm (ins d p.1 p.2) X=d
  rw[ins,aH2 (h p (.head _))]
  exact Eh X d fun q m=>h q (.tail _ m)
theorem Co:∀(X d e:List (S×List L)),(∀p∈d,(ext step p).all (fun q=>e.any (·.1==q.1))=true)->
  ∃d',gm d X=d++d'/\gm e (d'.flatMap (ext step))=gm e (X.flatMap (ext step))
 | [],d,e,_=>⟨[],by simp[gm],rfl⟩
 | p::X,d,e,h=>by
  show ∃d',gm (ins d p.1 p.2) X=d++d'/\_
  rw[qV,tR]
  by_cases k:d.any (·.1==p.1)=true
  ·rw[ins,aH2 k]
   obtain ⟨q,m,hq⟩:=kN.mp k
   have hq:=eq_of_beq hq
   have hh:=h q m
   rw[Eh (ext step p) e]
   ·exact Co X d e h
   ·intro r mr
    unfold ext at hh mr
    rw[hq] at hh
    rw[LG] at hh
    obtain ⟨x,mx,rfl⟩:=aS.mp mr
    exact(gI.mp hh) x mx
  ·rw[ins,aH3 k]
   have h':∀q∈d++[(p.1,p.2)],(ext step q).all (fun r=>(gm e (ext step p)).any (·.1==r.1))=true:=by
    intro q m
    rw[gI]
    intro r mr
    rw[Ck]
    rcases gy.mp m with m | m
    ·rw[(gI.mp (h q m)) r mr];rfl
    ·obtain rfl:=fJ.mp m
     rw[oO]
     exact .inr (kN.mpr ⟨r,mr,aI3 _⟩)
   obtain ⟨d',e1,e2⟩:=Co X (d++[(p.1,p.2)]) (gm e (ext step p)) h'
   refine⟨(p.1,p.2)::d',by rw[e1,fR];rfl,?_⟩
   rw[qV,tR]
   exact e2
theorem Q4(X:List (S×List L)):gm [] ((gm [] X).flatMap (ext step))=gm [] (X.flatMap (ext step)):=by
 obtain ⟨d',e1,e2⟩:=Co X [] [] (step:=step) (fun _ m=>nomatch m)
 rw[e1];exact e2
def rows(step:S->List (L×S)):Nat->S->List (S×List L)
 | 0,s=>[(s,[])]
 | n+1,s=>(step s).flatMap fun q=>(rows step n q.2).map fun r=>(r.1,q.1::r.2)
def iter(step:S->List (L×S)):Nat->List (S×List L)->List (S×List L)
 | 0,X=>X
 | n+1,X=>iter step n (X.flatMap (ext step))
theorem Ei:∀(n:Nat) (X Y:List (S×List L)),iter step n (X++Y)=iter step n X++iter step n Y
 | 0,_,_=>rfl
 | n+1,X,Y=>by rw[iter,iter,iter,qW,Ei n]
theorem Az(n:Nat)(f:α->List (S×List L)):∀(l:List α),iter step n (l.flatMap f)=l.flatMap fun a=>iter step n (f a)
 | []=>by
  show iter step n []=[]
  induction n with
  | zero=>rfl
  | succ n ih=>rw[iter];exact ih
 | a::l=>by rw[qV,Ei,Az n f l,qV]
theorem Ej(f:α->β):∀(l:List α),l.map f=l.flatMap fun a=>[f a]
 | []=>rfl
 | a::l=>by rw[aZ,qV,<- Ej f l];rfl
theorem AA:∀(n:Nat) (s:S) (pre:List L),iter step n [(s,pre)]=(rows step n s).map fun r=>(r.1,pre++r.2)
 | 0,s,pre=>by simp[iter,rows]
 | n+1,s,pre=>by
  rw[iter,rows,Ma,ext]
  rw[Ej,Az,List.map_flatMap]
  congr 1
  funext q
  rw[AA n]
  simp
def dQ(step:S->List (L×S))(s:S):Nat->List (S×List L)
 | 0=>[(s,[])]
 | n+1=>gm [] ((dQ step s n).flatMap (ext step))
theorem Ek:∀(n:Nat) (X:List (S×List L)),iter step (n+1) X=(iter step n X).flatMap (ext step)
 | 0,X=>rfl
 | n+1,X=>by rw[iter,Ek n];rfl
theorem yU(s:S):∀n,dQ step s n=gm [] (rows step n s)
 | 0=>rfl
 | n+1=>by
  have e:∀m,rows step m s=iter step m [(s,[])]:=fun m=>by rw[AA];simp
  rw[dQ,yU s n,Q4,e n,<- Ek,<- e]
theorem AB(t:S):∀(X:List (S×List L)),X.any (·.1==t)=true->∃r,X.lookup t=some r
 | p::X,h=>by
  rw[oM]
  by_cases e:t=p.1
  ·subst e;rw[aI3];exact⟨_,rfl⟩
  ·rw[show (t==p.1)=false by simpa using e]
   rw[qU,show (p.1==t)=false by simpa using eX e,B5] at h
   exact AB t X h
theorem yV(step:S->List (L×S))(t:S)(n:Nat)(s:S):(rows step (n+1) s).any (·.1==t)=(step s).any fun q=>(rows step n q.2).any (·.1==t):=by
 rw[rows,List.any_flatMap]
 congr 1
 funext q
 rw[x9];rfl
end Fr
end aD5
section Xj
namespace Pk
open L2 Dm
variable (t:k9)
def tS(l:List Cell):D:=.tup (l.map cD)
theorem Ht(neg:Bool)(c:Cell)(l:List Cell):oj neg (cD c) (tS l) = .ok (.bl (if neg then !decide (c∈l) else decide (c∈l))):=by
 have h:=pO neg c l
 unfold oj br at h
 unfold oj tS
 exact h
theorem Xk(ay:List Cell)(p:cU):jJ t [tS ay,lD p] = .ok (.bl (yQ ay p)):=by
 unfold jJ yQ
 refine fP [some (tS ay),some (lD p)] (iH ?_)
 have g1:=Ht false p.1 ay
 have g2:=Ht true p.2 ay
 have g3:=Ht false (mid p.1 p.2) ay
 by_cases h1:p.1∈ay <;> by_cases h2:p.2∈ay <;> simp[IK,g1,g2,g3,h1,h2]
theorem Q5(neg:Bool)(x a b:Cell):oj neg (cD x) (.tup [cD a,cD b]) = .ok (.bl (if neg then !(decide (a=x) || decide (b=x)) else (decide (a=x) || decide (b=x)))):=by
 unfold oj
 dsimp only
 rw[aH2 (by simp[cz,kr])]
 simp
theorem Kv{ay:List Cell}(p:cU)(hl:ay.length<=60):jK t [tS ay,lD p] = .ok (br (eL ay p)):=by
 have hb:=IK t p.1 p.2
 have g1:(iS (iTp (ao 0)) 1 [2] (eO 0) (bK (oj true) (ao 0) (ao 1)) (cN (ao 0))) [some (tS ay),some (lD p),some (.tup [cD p.1,cD (mid p.1 p.2)])] = .ok (br (left ay p)):=by
  refine kG (ds:=ay.map cD) rfl (by simp;lia) ?_
  refine l9 (S:=fun x=>[some (cD x),some (.tup [cD p.1,cD (mid p.1 p.2)])]) (P:=fun st=>∃y,st=[y,some (.tup [cD p.1,cD (mid p.1 p.2)])]) ay (fun x _=>⟨_,rfl⟩) (fun x _ st jd=>by obtain ⟨y,e⟩:=jd;subst e;rfl) (fun x _=>?_) (fun x _ _=>by simp) _ ⟨none,rfl⟩
  refine om (a:=cD x) (b:=.tup [cD p.1,cD (mid p.1 p.2)]) rfl rfl ?_
  rw[Q5]
  have e1:decide (p.1=x)=decide (x=p.1):=by rw[jU];simp[eq_comm]
  have e2:decide (mid p.1 p.2=x)=decide (x=mid p.1 p.2):=by rw[jU];simp[eq_comm]
  rw[e1,e2]
  cases decide (x=p.1) <;> cases decide (x=mid p.1 p.2) <;> rfl
 have hle:(left ay p).length<=ay.length:=AX ..
 unfold jK
 refine fP [some (tS ay),some (lD p),none] ?_
 rw[bD (st':=[some (tS ay),some (lD p),some (.tup [cD p.1,cD (mid p.1 p.2)])]) (by simp[hb])]
 refine iH (E8 (a:=br (left ay p++[p.2])) (om (a:=br (left ay p)) (b:=br [p.2]) g1 (by simp) (PD (by simp;lia))) ?_)
 exact Td (by simp;lia)
def bg(cells:List Cell)(s:List Cell):List (cU×List Cell):=(opn cells s).map fun p=>(p,eL s p)
theorem Q6(cells:List Cell):(bz cells).length<=4 * cells.length:=by
 have h4:∀a,((SX cells a).map fun b=>(a,b)).length<=4:=fun a=>by
  rw[bh];exact cC (AX ..) (by simp[four])
 have:=Cj (fun a=>(SX cells a).map fun b=>(a,b)) 4 cells fun a _=>h4 a
 unfold bz
 lia
theorem mY(l:List Cell):j7 [br l] = .ok (tS l):=by
 unfold j7 br tS
 dsimp only
 rw[aH2 (fM fun d hd=>by obtain ⟨c,_,rfl⟩:=aS.mp hd;unfold cD;simp[gM,ez])]
theorem IQ{cells s:List Cell}(hl:cells.length<=200)(ls:s.length<=60):eG t [gw (bz cells),tS s] = .ok (.lst ((bg cells s).map fun q=>.tup [lD q.1,tS q.2])):=by
 have e:(bg cells s).map (fun q=>D.tup [lD q.1,tS q.2])=((bz cells).filter (yQ s)).map fun p=>D.tup [lD p,tS (eL s p)]:=by
  unfold bg opn
  rw[dD];rfl
 rw[e]
 unfold eG
 refine fP [some (gw (bz cells)),some (tS s)] (iH (kG (ds:=(bz cells).map lD) rfl ?_ ?_))
 ·rw[bh];have:=Q6 cells;lia
 ·exact l9 (S:=fun x=>[some (lD x),some (tS s)]) (P:=fun st=>∃y,st=[y,some (tS s)]) (bz cells) (fun x _=>⟨_,rfl⟩) (fun x _ st n8=>by obtain ⟨y,e⟩:=n8;subst e;rfl) (fun x _=>by simp[Xk]) (fun x _ _=>by
   have n1:gM (lD x)=true:=by unfold lD cD;simp[gM,ez]
   have n2:∀ds,qh (.tup (lD x::ds))=true:=fun _=>rfl
   simp[Kv t x ls,mY,n1,n2]) _ ⟨none,rfl⟩
def kS(s:List Cell):List (List Int):=s.map fun c=>[c.1,c.2]
theorem ve:∀{a b:List Cell},kS a=kS b->a=b
 | [],[],_=>rfl
 | [],_::_,h=>by cases h
 | _::_,[],h=>by cases h
 | x::a,y::b,h=>by
  unfold kS at h
  rw[aZ,aZ] at h
  injection h with h1 h2
  injection h1 with h3 h4
  injection h4 with h5 _
  rw[ve (a:=a) (b:=b) h2]
  obtain ⟨x1,x2⟩:=x
  obtain ⟨y1,y2⟩:=y
  dsimp only at h3 h5
  rw[h3,h5]
theorem El:∀(s:List Cell),mC (s.map cD)=some (kS s)
 | []=>rfl
 | c::s=>by
  rw[aZ,mC,El s]
  rfl
theorem jL(s:List Cell):mT (tS s)=some (kS s):=El s
def gx(L:List (List Cell×List cU)):List D:=L.flatMap fun z=>[tS z.1,gw z.2]
def qk(L:List (List Cell×List cU)):List (List (List Int)×D×D):=L.map fun z=>(kS z.1,tS z.1,gw z.2)
theorem mZ:∀(L:List (List Cell×List cU)),eF (gx L)=some (qk L)
 | []=>rfl
 | z::L=>by
  show eF (tS z.1::gw z.2::gx L)=_
  rw[eF,jL,mZ L]
  rfl
theorem Em(L:List (List Cell×List cU))(b:List Cell):((qk L).map (·.1)).any (fun k=>decide (k=kS b))=L.any (·.1==b):=by
 unfold qk
 rw[dD,x9]
 congr 1
 funext z
 show decide (kS z.1=kS b)=(z.1==b)
 by_cases h:z.1=b
 ·rw[h];simp
 ·rw[aH5 fun e=>h (ve e)]
  exact(aH9.mpr h).symm
theorem En(neg:Bool)(b:List Cell)(L:List (List Cell×List cU)):tu neg (tS b) (.bM 2 (gx L)) = .ok (.bl (if neg then !L.any (·.1==b) else L.any (·.1==b))):=by
 simp only[tu,jL,mZ,Em]
theorem lA(L:List (List Cell×List cU)):eV (some (some (.bM 2 (gx L))))=some (gx L,qk L):=nP rfl (mZ L)
end Pk
end Xj
section Xl
namespace Pk
open L2 Dm
def Q7(cells:List Cell)(L:List (List Cell×List cU)):Prop:=(L.map (·.1)).Nodup/\∀z∈L,cQ cells z.1
def Bound(cells:List Cell):Prop:=∀L,Q7 cells L->L.length<=900
theorem Q7.ins(h:Q7 cells L)(S:cQ cells k):Q7 cells (Fr.ins L k v):=by
 unfold Fr.ins
 split
 ·exact h
 ·rename_i hn
  refine⟨?_,fun z m=>?_⟩
  ·rw[iC,x8]
   refine⟨h.1,by simp,fun a ha b hb e=>hn ?_⟩
   have hb:b=k:=by simpa using hb
   obtain ⟨z,hz,rfl⟩:=aS.mp ha
   exact kN.mpr ⟨z,hz,by rw[e,hb];exact aI3 _⟩
  ·rcases gy.mp m with m | m
   ·exact h.2 z m
   ·obtain rfl:=fJ.mp m;exact S
theorem Xm{l m:List cU}(h:l.length+m.length<=5000):rD (gw l) (gw m) = .ok (gw (l++m)):=by
 have n:∀l:List cU,ez (l.map lD)=true:=fun l=>fM fun d hd=>by obtain ⟨c,_,rfl⟩:=aS.mp hd;unfold lD cD;simp[gM,ez]
 unfold rD gw
 dsimp only
 simp[n,h]
theorem IS(L M:List (List Cell×List cU)):gx (L++M)=gx L++gx M:=by unfold gx;rw[qW]
theorem Hu(bd:Bound cells)(a b c:D){row:List cU}(Wq:row.length<=900)(qs:List (cU×List Cell))(hq:∀q∈qs,cQ cells q.2)(acc:List (List Cell×List cU))(ok:Q7 cells acc)(y z:Option D) :
  ∃y' z',gh (gP 5 6) (Dm.fm (bK (tu true) (ao 6) (ao 2)) (GJ 2 (ao 6) (bK rD (ao 4) (gO 100 (aa (cN (ao 5)) aG)))) cP) (qs.map fun q=>D.tup [lD q.1,tS q.2]) [some a,some b,some (.bM 2 (gx acc)),some c,some (gw row),y,z]=
   .nx [some a,some b,some (.bM 2 (gx (Fr.gm acc (qs.map fun q=>(q.2,row++[q.1]))))),some c,some (gw row),y',z']/\Q7 cells (Fr.gm acc (qs.map fun q=>(q.2,row++[q.1]))):=by
 obtain ⟨st',h1,y',z',h2,h3⟩:=nR (bind:=gP 5 6) (F:=Dm.fm (bK (tu true) (ao 6) (ao 2)) (GJ 2 (ao 6) (bK rD (ao 4) (gO 100 (aa (cN (ao 5)) aG)))) cP) (f:=fun q:cU×List Cell=>D.tup [lD q.1,tS q.2])
  (Q:=fun pre st=>∃y z,st=[some a,some b,some (.bM 2 (gx (Fr.gm acc (pre.map fun q=>(q.2,row++[q.1]))))),some c,some (gw row),y,z]/\Q7 cells (Fr.gm acc (pre.map fun q=>(q.2,row++[q.1])))) qs [] [some a,some b,some (.bM 2 (gx acc)),some c,some (gw row),y,z] (fun p x r e st jd=>by
  obtain ⟨y,z,hy,hk⟩:=jd
  subst hy
  rw[i0] at e
  have mx:x∈qs:=by rw[e];simp
  refine⟨[some a,some b,some (.bM 2 (gx (Fr.gm acc (p.map fun q=>(q.2,row++[q.1]))))),some c,some (gw row),some (lD x.1),some (tS x.2)],?_⟩
  generalize hM:Fr.gm acc (p.map fun q=>(q.2,row++[q.1]))=M at hk ⊢
  have Q8:Fr.gm acc ((p++[x]).map fun q=>(q.2,row++[q.1]))=Fr.ins M x.2 (row++[x.1]):=by
   rw[iC,Fr.tR,hM];rfl
  rw[Q8]
  have g:=En true x.2 M
  have n1:gM (lD x.1)=true:=by unfold lD cD;simp[gM,ez]
  refine⟨[some a,some b,some (.bM 2 (gx (Fr.ins M x.2 (row++[x.1])))),some c,some (gw row),some (lD x.1),some (tS x.2)],rfl,?_,_,_,rfl,hk.ins (hq x mx)⟩
  cases Q9:M.any (·.1==x.2) with
  | true=>
   rw[Q9] at g
   rw[v9 (om (a:=tS x.2) (b:=.bM 2 (gx M)) rfl rfl g)]
   unfold Fr.ins
   rw[aH2 Q9];rfl
  | false=>
   rw[Q9] at g
   rw[Hi (om (a:=tS x.2) (b:=.bM 2 (gx M)) rfl rfl g)]
   have hv:(bK rD (ao 4) (gO 100 (aa (cN (ao 5)) aG))) [some a,some b,some (.bM 2 (gx M)),some c,some (gw row),some (lD x.1),some (tS x.2)] = .ok (gw (row++[x.1])):=
    om (a:=gw row) (b:=gw [x.1]) rfl (by simp[n1]) (Xm (by simp;lia))
   unfold GJ
   rw[hv]
   show (match eV (some (some (.bM 2 (gx M)))) with | some z=>_ | none=>_)=_
   rw[lA]
   show S9 2 _ (gx M,qk M) (tS x.2) (gw (row++[x.1]))=_
   unfold S9
   rw[jL]
   dsimp only
   rw[aH2 ⟨by unfold qk;rw[bh];have:=bd M hk;lia,by rw[Em];exact Q9,rfl⟩]
   unfold Fr.ins
   rw[aH3 (by rw[Q9];decide),IS]
   rfl) ⟨y,z,rfl,ok⟩
 rw[i0] at h2 h3
 subst h2
 exact⟨y',z',h1,h3⟩
variable (t:k9)
theorem rN(S:cQ cells s):∀q∈bg cells s,cQ cells q.2:=fun q m=>by
 unfold bg at m
 obtain ⟨p,hp,rfl⟩:=aS.mp m
 exact S.row (row:=[p]) ⟨hp,trivial⟩
theorem Qa{cells:List Cell}(hl:cells.length<=60)(bd:Bound cells)(L:List (List Cell×List cU))(hS:∀z∈L,cQ cells z.1)(h60:∀z∈L,z.1.length<=60)(hr:∀z∈L,z.2.length<=900) :
  jM t [gw (bz cells),.bM 2 (gx L)] = .ok (.bM 2 (gx (Fr.gm [] (L.flatMap (Fr.ext (bg cells))))))/\Q7 cells (Fr.gm [] (L.flatMap (Fr.ext (bg cells)))):=by
 obtain ⟨st',h1,y,z,u,v,h2,h3⟩:=nR (bind:=gP 3 4) (F:=ir (jA (bZ (eG t) (aa (ao 0) (aa (ao 3) aG)))) (gP 5 6) (Dm.fm (bK (tu true) (ao 6) (ao 2)) (GJ 2 (ao 6) (bK rD (ao 4) (gO 100 (aa (cN (ao 5)) aG)))) cP)) (f:=fun z:List Cell×List cU=>D.tup [tS z.1,gw z.2])
  (Q:=fun pre st=>∃y z u v,st=[some (gw (bz cells)),some (.bM 2 (gx L)),some (.bM 2 (gx (Fr.gm [] (pre.flatMap (Fr.ext (bg cells)))))),y,z,u,v]/\Q7 cells (Fr.gm [] (pre.flatMap (Fr.ext (bg cells))))) L [] [some (gw (bz cells)),some (.bM 2 (gx L)),some (.bM 2 (gx [])),none,none,none,none] (fun p x r e st jd=>by
  obtain ⟨y,z,u,v,hy,hk⟩:=jd
  subst hy
  rw[i0] at e
  have mx:x∈L:=by rw[e];simp
  refine⟨[some (gw (bz cells)),some (.bM 2 (gx L)),some (.bM 2 (gx (Fr.gm [] (p.flatMap (Fr.ext (bg cells)))))),some (tS x.1),some (gw x.2),u,v],?_⟩
  have hs:=IQ t (cells:=cells) (s:=x.1) (by lia) (h60 x mx)
  obtain ⟨y',z',g1,g2⟩:=Hu bd (gw (bz cells)) (.bM 2 (gx L)) (tS x.1) (hr x mx) (bg cells x.1) (rN (hS x mx)) _ hk u v
  have ee:Fr.gm [] ((p++[x]).flatMap (Fr.ext (bg cells)))=Fr.gm (Fr.gm [] (p.flatMap (Fr.ext (bg cells)))) ((bg cells x.1).map fun q=>(q.2,x.2++[q.1])):=by
   rw[qW,Fr.tR,Ma];rfl
  rw[ee]
  refine⟨_,rfl,?_,some (tS x.1),some (gw x.2),y',z',rfl,g2⟩
  have hi:jA (bZ (eG t) (aa (ao 0) (aa (ao 3) aG))) [some (gw (bz cells)),some (.bM 2 (gx L)),some (.bM 2 (gx (Fr.gm [] (p.flatMap (Fr.ext (bg cells)))))),some (tS x.1),some (gw x.2),u,v] = .ok ((bg cells x.1).map fun q=>D.tup [lD q.1,tS q.2]):=by
   unfold jA
   rw[E9 (a:=gw (bz cells)) (b:=tS x.1) rfl rfl hs]
  unfold ir
  rw[hi]
  exact g1) ⟨none,none,none,none,rfl,⟨ux,fun z m=>nomatch m⟩⟩
 rw[i0] at h2 h3
 subst h2
 refine⟨?_,h3⟩
 unfold jM
 refine fP [some (gw (bz cells)),some (.bM 2 (gx L)),none,none,none,none,none] ?_
 rw[bD (st':=[some (gw (bz cells)),some (.bM 2 (gx L)),some (.bM 2 (gx [])),none,none,none,none]) (ie rfl)]
 have hi:zv (ao 1) [some (gw (bz cells)),some (.bM 2 (gx L)),some (.bM 2 (gx [])),none,none,none,none] = .ok (L.map fun z=>D.tup [tS z.1,gw z.2]):=by
  unfold zv
  show (match eV (some (some (.bM 2 (gx L)))) with | some y=>_ | none=>_)=_
  rw[lA]
  show R.ok ((qk L).map fun t=>D.tup [t.2.1,t.2.2])=_
  unfold qk
  rw[dD];rfl
 rw[bD (F:=ir (zv (ao 1)) (gP 3 4) _) (by unfold ir;rw[hi];exact h1)]
 exact iH rfl
end Pk
end Xl
section Xo
namespace Pk
open L2 Dm
theorem n5:∀{cells s:List Cell},cJ cells->cJ s->(∀c∈s,c∈cells)->s.Sublist cells
 | _,[],_,_,_=>List.nil_sublist _
 | [],a::s,_,_,h=>by cases h a (.head _)
 | x::r,a::s,hc,hs,h=>by
  have vQ:=Mb.mp hc
  have EE:=Mb.mp hs
  by_cases e:a=x
  ·subst e
   refine List.Sublist.cons_cons a (n5 vQ.2 EE.2 fun c m=>?_)
   rcases bP.mp (h c (.tail _ m)) with rfl | m'
   ·exact aI4 (EE.1 _ m) (wF _)
   ·exact m'
  ·have ha:a∈r:=(bP.mp (h a (.head _))).resolve_left e
   refine List.Sublist.cons x (n5 vQ.2 hs fun c m=>?_)
   rcases bP.mp (h c m) with rfl | m'
   ·rcases bP.mp m with z | m2
    ·exact aI4 z.symm e
    ·exact aI4 (Ax (vQ.1 _ ha) (EE.1 _ m2)) (wF _)
   ·exact m'
def subs:List Cell->List (List Cell)
 | []=>[[]]
 | c::l=>(subs l).map (c :: ·)++subs l
theorem yW:∀l,(subs l).length=2 ^ l.length
 | []=>rfl
 | c::l=>by rw[subs,bU,bh,yW l,cS,Lr];lia
theorem tT:∀{l s:List Cell},s.Sublist l->s∈subs l
 | _,_,.slnil=>by simp[subs]
 | _,_,.cons c h=>by rw[subs];exact nW _ (tT h)
 | _,_,.cons_cons c h=>by rw[subs];exact Hy _ (aS.mpr ⟨_,tT h,rfl⟩)
theorem len_sub:∀{l m:List (List Cell)},l.Nodup->(∀x∈l,x∈m)->l.length<=m.length
 | [],_,_,_=>iA _
 | a::l,m,hn,h=>by
  have xE:=jF.mp hn
  have ha:a∈m:=h a (.head _)
  have:=len_sub (l:=l) (m:=m.erase a) xE.2 fun x hx=>(List.mem_erase_of_ne fun e=>xE.1 (by rw[<- e];exact hx)).mpr (h x (.tail _ hx))
  rw[List.length_erase_of_mem ha] at this
  have pos:0 < m.length:=Mc ha
  rw[cS]
  lia
theorem tU(up:cJ cells)(hl:cells.length<=8):Bound cells:=fun L h=>by
 have aD6:∀s∈L.map (·.1),s∈subs cells:=fun s m=>by
  obtain ⟨z,hz,rfl⟩:=aS.mp m
  exact tT (n5 up (h.2 z hz).1 (h.2 z hz).2)
 have h1:=len_sub h.1 aD6
 rw[bh,yW] at h1
 have h2:2 ^ cells.length<=2 ^ 8:=Lz (by decide) hl
 have:(2:Nat) ^ 8=256:=rfl
 lia
variable (t:k9)
theorem IT:∀{X d:List (List Cell×List cU)} {z:List Cell×List cU},z∈Fr.gm d X->z∈d\/z∈X
 | [],d,z,h=>.inl h
 | p::X,d,z,h=>by
  have h:z∈Fr.gm (Fr.ins d p.1 p.2) X:=h
  rcases IT h with h | h
  ·unfold Fr.ins at h
   split at h
   ·exact .inl h
   ·rcases gy.mp h with h | h
    ·exact .inl h
    ·obtain rfl:=fJ.mp h;exact .inr (.head _)
  ·exact .inr (.tail _ h)
structure aD7(cells ay:List Cell)(n:Nat)(z:List Cell×List cU):Prop where
 st:cQ cells z.1
 len:z.1.length+n=ay.length
 row:z.2.length=n
theorem vf(S:cQ cells ay):∀n,∀z∈Fr.dQ (bg cells) ay n,aD7 cells ay n z
 | 0,z,m=>by
  obtain rfl:=fJ.mp (show z∈[(ay,[])] from m)
  exact⟨S,rfl,rfl⟩
 | n+1,z,m=>by
  rcases IT (show z∈Fr.gm [] _ from m) with m | m
  ·cases m
  ·obtain ⟨w,hw,m⟩:=M8.mp m
   have cw:=vf S n w hw
   unfold Fr.ext at m
   obtain ⟨q,hq,rfl⟩:=aS.mp m
   have Rh:=hq
   unfold bg at Rh
   obtain ⟨p,hp,rfl⟩:=aS.mp Rh
   obtain ⟨_,_,_,o4⟩:=lq (row:=[p]) cw.st.1 cw.st.2 ⟨hp,trivial⟩
   have o4:(eL w.1 p).length+1=w.1.length:=by simpa[mX] using o4
   exact⟨rN cw.st _ hq,by show (eL w.1 p).length+(n+1)=_;have:=cw.len;lia,by show (w.2++[p]).length=_;rw[bU,cw.row];rfl⟩
theorem Kw(t:k9){cells:List Cell}(hl:cells.length<=60)(bd:Bound cells)(S:cQ cells ay)(lp:ay.length<=60):∀n,Q7 cells (Fr.dQ (bg cells) ay n)
 | 0=>⟨by simp[Fr.dQ],fun z m=>(vf S 0 z m).st⟩
 | n+1=>(Qa t hl bd (Fr.dQ (bg cells) ay n) (fun z m=>(vf S n z m).st) (fun z m=>by have:=(vf S n z m).len;lia) (fun z m=>by have:=(vf S n z m).len;have:=(vf S n z m).row;lia)).2
def jB(cells ay:List Cell):Nat->List (List Cell×List cU)
 | 0=>[]
 | n+1=>jB cells ay n++Fr.dQ (bg cells) ay n
theorem Eo:∀{n:Nat} {z},z∈jB cells ay n->∃k,k < n/\z∈Fr.dQ (bg cells) ay k
 | n+1,z,m=>by
  rcases gy.mp (show z∈jB cells ay n++_ from m) with m | m
  ·obtain ⟨k,hk,h⟩:=Eo m;exact⟨k,by lia,h⟩
  ·exact⟨n,by lia,m⟩
theorem yX(S:cQ cells ay):∀z∈Fr.dQ (bg cells) ay n,z.1∉(jB cells ay n).map (·.1):=fun z m h=>by
 obtain ⟨w,hw,e⟩:=aS.mp h
 obtain ⟨k,hk,hw⟩:=Eo hw
 have h1:=(vf S k w hw).len
 have h2:=(vf S n z m).len
 have e:w.1=z.1:=e
 rw[e] at h1
 lia
theorem Cp(t:k9){cells:List Cell}(hl:cells.length<=60)(bd:Bound cells)(S:cQ cells ay)(lp:ay.length<=60):∀n,Q7 cells (jB cells ay n)
 | 0=>⟨by simp[jB],fun z m=>nomatch m⟩
 | n+1=>by
  have h1:=Cp t hl bd S lp n
  have h2:=Kw t hl bd S lp n
  refine⟨?_,fun z m=>?_⟩
  ·show ((jB cells ay n++Fr.dQ (bg cells) ay n).map (·.1)).Nodup
   rw[iC,x8]
   exact⟨h1.1,h2.1,fun a ha b hb e=>by
    obtain ⟨z,hz,rfl⟩:=aS.mp hb
    exact yX S z hz (by rw[<- e];exact ha)⟩
  ·rcases gy.mp (show z∈jB cells ay n++Fr.dQ (bg cells) ay n from m) with m | m
   ·exact h1.2 z m
   ·exact h2.2 z m
end Pk
end Xo
section Xq
namespace Pk
open L2 Dm
variable (t:k9)
theorem Kx(L:List (List Cell×List cU)):qA [.bM 2 (gx L)] = .ok (.int (L.length:Nat)):=by
 simp only[qA,mZ,qk,bh]
theorem Th{st:ig}(hi:st[i]?=some (some (.bM 2 (gx L))))(hf:f st = .ok (.bM 2 (gx M)))(hz:L.length+M.length<=5000)(dis:∀z∈M,z.1∉L.map (·.1))(sP:L=[]->M.length<=1) :
  K7 i f st = .nx (st.set i (some (.bM 2 (gx (L++M))))):=by
 unfold K7
 rw[hi,lA]
 dsimp only
 rw[hf]
 dsimp only
 rw[lA]
 dsimp only
 rw[aH2,IS]
 refine⟨by unfold qk;rw[bh,bh];exact hz,fun k mk hk=>?_,fun e=>?_⟩
 ·unfold qk at mk hk
  rw[dD] at mk hk
  obtain ⟨z,hz,rfl⟩:=aS.mp mk
  obtain ⟨w,hw,e⟩:=aS.mp hk
  exact dis z hz (aS.mpr ⟨w,hw,ve e⟩)
 ·unfold qk at e ⊢
  rw[bh]
  exact sP (Me.mp e)
theorem rO(h:Fr.dQ (bg cells) ay n=[]):∀k,Fr.dQ (bg cells) ay (n+k)=[]
 | 0=>h
 | k+1=>by
  show Fr.dQ (bg cells) ay (n+k+1)=[]
  rw[Fr.dQ,rO h k];rfl
theorem AD(h:Fr.dQ (bg cells) ay n=[]):∀k,jB cells ay (n+k)=jB cells ay n
 | 0=>rfl
 | k+1=>by
  show jB cells ay (n+k)++Fr.dQ (bg cells) ay (n+k)=_
  rw[rO h k,jS,AD h k]
def Qc:DF:=bK Qz (bZ qA (aa (ao 4) aG)) (dC (.int 0))
def fBody(t:k9):DS:=bR (K7 3 (ao 4)) (dU 4 (bZ (jM t) (aa (ao 2) (aa (ao 4) aG))))
theorem yY(t:k9){cells:List Cell}(hl:cells.length<=60)(bd:Bound cells)(S:cQ cells ay)(lp:ay.length<=60)(a b:D):∀(k n fuel:Nat),n+k=ay.length+1->k < fuel->
  vU Qc (fBody t) fuel [some a,some b,some (gw (bz cells)),some (.bM 2 (gx (jB cells ay n))),some (.bM 2 (gx (Fr.dQ (bg cells) ay n)))]=
   .nx [some a,some b,some (gw (bz cells)),some (.bM 2 (gx (jB cells ay (ay.length+1)))),some (.bM 2 (gx []))]
 | k,n,0,_,h=>by lia
 | k,n,fuel+1,e,h=>by
  have ht:Qc [some a,some b,some (gw (bz cells)),some (.bM 2 (gx (jB cells ay n))),some (.bM 2 (gx (Fr.dQ (bg cells) ay n)))] = .ok (.bl (decide ((0:Int) < ((Fr.dQ (bg cells) ay n).length:Nat)))):=
   om (a:=.int ((Fr.dQ (bg cells) ay n).length:Nat)) (b:=.int 0) (E8 (a:=.bM 2 (gx (Fr.dQ (bg cells) ay n))) rfl (Kx _)) rfl rfl
  rw[vU,ht]
  cases hL:Fr.dQ (bg cells) ay n with
  | nil=>
   have:=AD hL k
   rw[e] at this
   rw[this]
   rfl
  | cons z0 r0=>
   rw[<- hL]
   have ah4:decide ((0:Int) < ((Fr.dQ (bg cells) ay n).length:Nat))=true:=by rw[hL];simp
   rw[ah4]
   dsimp only
   have hn:n<=ay.length:=by
    have:=(vf S n z0 (by rw[hL];exact .head _)).len
    lia
   cases k with
   | zero=>lia
   | succ k=>
    have kb:=bd _ (Cp t hl bd S lp (n+1))
    have kb:(jB cells ay n++Fr.dQ (bg cells) ay n).length<=900:=kb
    rw[bU] at kb
    have hnx:=(Qa t hl bd (Fr.dQ (bg cells) ay n) (fun z m=>(vf S n z m).st) (fun z m=>by have:=(vf S n z m).len;lia) (fun z m=>by have:=(vf S n z m).len;have:=(vf S n z m).row;lia)).1
    have hb:fBody t [some a,some b,some (gw (bz cells)),some (.bM 2 (gx (jB cells ay n))),some (.bM 2 (gx (Fr.dQ (bg cells) ay n)))] = .nx [some a,some b,some (gw (bz cells)),some (.bM 2 (gx (jB cells ay (n+1)))),some (.bM 2 (gx (Fr.dQ (bg cells) ay (n+1))))]:=by
     unfold fBody
     rw[bD (Th (i:=3) (f:=ao 4) rfl rfl (by lia) (yX S) (fun z=>by
      cases n with
      | zero=>simp[Fr.dQ]
      | succ n=>
       exfalso
       have hnn:Fr.dQ (bg cells) ay n=[]:=by
        have:jB cells ay n++Fr.dQ (bg cells) ay n=[]:=z
        exact(List.append_eq_nil_iff.mp this).2
       have:=rO hnn 1
       rw[hL] at this;cases this))]
     exact ie (E9 (a:=gw (bz cells)) (b:=.bM 2 (gx (Fr.dQ (bg cells) ay n))) rfl rfl hnx)
    rw[hb]
    dsimp only
    exact yY t hl bd S lp a b k (n+1) fuel (by lia) (by lia)
theorem Ep{cells:List Cell}(hl:cells.length<=60)(bd:Bound cells)(S:cQ cells ay)(lp:ay.length<=30):iw t [bB cells,br ay] = .ok (.bM 2 (gx (jB cells ay (ay.length+1)))):=by
 have h:=yY t hl bd S (by lia) (bB cells) (br ay) (ay.length+1) 0 40 (by lia) (by lia)
 have h0:yD (bZ j7 (aa (ao 1) aG)) (gO 100 aG) [some (bB cells),some (br ay),some (gw (bz cells)),some (.bM 2 (gx [])),none] = .ok (.bM 2 (gx [(ay,[])])):=by
  have h1:(bZ j7 (aa (ao 1) aG)) [some (bB cells),some (br ay),some (gw (bz cells)),some (.bM 2 (gx [])),none] = .ok (tS ay):=E8 (a:=br ay) rfl (mY _)
  unfold yD
  rw[h1]
  dsimp only
  rw[show (gO 100 aG) [some (bB cells),some (br ay),some (gw (bz cells)),some (.bM 2 (gx [])),none] = .ok (.lst []) from rfl]
  dsimp only
  rw[jL]
  rfl
 unfold iw
 refine fP [some (bB cells),some (br ay),none,none,none] ?_
 rw[bD (st':=[some (bB cells),some (br ay),some (gw (bz cells)),none,none]) (ie (E8 (a:=bB cells) rfl (IL t (by lia)))),
  bD (st':=[some (bB cells),some (br ay),some (gw (bz cells)),some (.bM 2 (gx [])),none]) (ie rfl),
  bD (st':=[some (bB cells),some (br ay),some (gw (bz cells)),some (.bM 2 (gx [])),some (.bM 2 (gx [(ay,[])]))]) (ie h0)]
 show bR (vU Qc (fBody t) 40) (gf (ao 3)) [some (bB cells),some (br ay),some (gw (bz cells)),some (.bM 2 (gx (jB cells ay 0))),some (.bM 2 (gx (Fr.dQ (bg cells) ay 0)))]=_
 rw[bD h]
 exact iH rfl
end Pk
end Xq
section aD8
namespace Cn
variable {S L:Type}[DecidableEq S]
def N(step:S->List (L×S))(u:S):Nat->S->Int
 | 0,s=>if s=u then 1 else 0
 | n+1,s=>((step s).map fun q=>N step u n q.2).sum
def val(d:List (S×Int))(k:S):Int:=match d.find? (fun z=>decide (z.1=k)) with | some z=>z.2 | none=>0
def ups(d:List (S×Int))(k:S)(v:Int):List (S×Int):=if d.any (fun z=>decide (z.1=k))=true then d.map (fun z=>(z.1,if z.1=k then v else z.2)) else d++[(k,v)]
def add(d:List (S×Int))(k:S)(c:Int):List (S×Int):=ups d k (val d k+c)
def PS(f:S->Int)(d:List (S×Int)):Int:=(d.map fun z=>z.2 * f z.1).sum
theorem lQ(f:S->Int)(z:S×Int)(d:List (S×Int)):PS f (z::d)=z.2 * f z.1+PS f d:=by simp[PS]
theorem Er:∀{d:List (S×Int)},(∀z∈d,z.1≠k)->d.map (fun z=>(z.1,if z.1=k then v else z.2))=d
 | [],_=>rfl
 | z::d,h=>by rw[aZ,Er fun y m=>h y (.tail _ m),aH3 (h z (.head _))]
theorem IU{d:List (S×Int)}:d.any (fun z=>decide (z.1=k))=true↔k∈d.map (·.1):=
 ⟨fun h=>let ⟨z,m,e⟩:=kN.mp h;aS.mpr ⟨z,m,aH8 e⟩,fun h=>let ⟨z,m,e⟩:=aS.mp h;kN.mpr ⟨z,m,aH4 e⟩⟩
theorem Qd{d:List (S×Int)}(h:k∉d.map (·.1)):val d k=0:=by
 unfold val
 rw[M1.mpr fun z m e=>h (aS.mpr ⟨z,m,aH8 e⟩)]
theorem Qe(f:S->Int)(k:S)(v:Int):∀{d:List (S×Int)},(d.map (·.1)).Nodup->PS f (ups d k v)=PS f d+(v - val d k) * f k
 | [],_=>by simp[ups,PS,val]
 | z::d,nd=>by
  rw[aZ,jF] at nd
  have ih:=Qe f k v nd.2
  unfold ups at ih ⊢
  by_cases e:z.1=k
  ·have hn:∀y∈d,y.1≠k:=fun y m c=>nd.1 (by rw[e,<- c];exact aS.mpr ⟨y,m,rfl⟩)
   have hv:val (z::d) k=z.2:=by simp[val,e]
   rw[aH2 (by simp[e]),aZ,Er hn,aH2 e,lQ,lQ,hv,e]
   simp only[Int.sub_mul];omega
  ·have hv:val (z::d) k=val d k:=by simp[val,e]
   rw[hv]
   by_cases c:d.any (fun z=>decide (z.1=k))=true
   ·rw[aH2 c] at ih
    rw[aH2 (by simp[e];simpa using c),aZ,aH3 e,lQ,lQ,ih]
    simp only;omega
   ·rw[aH3 c] at ih
    rw[aH3 (by simp[e];simpa using c),AU,lQ,lQ,ih]
    omega
theorem Xr(f:S->Int)(k:S)(c:Int){d:List (S×Int)}(nd:(d.map (·.1)).Nodup):PS f (add d k c)=PS f d+c * f k:=by
 unfold add
 rw[Qe f k _ nd,show val d k+c - val d k=c by omega]
theorem Es(d:List (S×Int))(k:S)(v:Int):(ups d k v).map (·.1)=if k∈d.map (·.1) then d.map (·.1) else d.map (·.1)++[k]:=by
 unfold ups
 by_cases c:k∈d.map (·.1)
 ·rw[aH2 (IU.mpr c),aH2 c,dD];rfl
 ·rw[aH3 (fun z=>c (IU.mp z)),aH3 c,iC];rfl
theorem Qf{d:List (S×Int)}(nd:(d.map (·.1)).Nodup):((ups d k v).map (·.1)).Nodup:=by
 rw[Es]
 split
 ·exact nd
 ·rename_i c
  rw[x8]
  exact⟨nd,by simp,fun a ha b hb e=>by obtain rfl:=fJ.mp hb;subst e;exact c ha⟩
theorem Ti{s:S}(h:s∈(ups d k v).map (·.1)):s∈d.map (·.1)\/s=k:=by
 rw[Es] at h
 split at h
 ·exact .inl h
 ·rcases gy.mp h with h | h
  ·exact .inl h
  ·exact .inr (fJ.mp h)
theorem Qg:∀{d:List (S×Int)},(d.map (·.1)).Nodup->PS (fun s=>if s=u then 1 else 0) d=val d u
 | [],_=>rfl
 | z::d,nd=>by
  rw[aZ,jF] at nd
  rw[lQ,Qg nd.2]
  by_cases e:z.1=u
  ·rw[aH2 e,Qd (fun m=>nd.1 (by rw[e];exact m))]
   simp[val,e]
  ·rw[aH3 e]
   simp[val,e]
def more(c:Int)(acc:List (S×Int))(qs:List (L×S)):List (S×Int):=qs.foldl (fun a q=>add a q.2 c) acc
def next(step:S->List (L×S))(acc d:List (S×Int)):List (S×Int):=d.foldl (fun a z=>more z.2 a (step z.1)) acc
theorem IV(f:S->Int)(c:Int):∀(qs:List (L×S)) {acc:List (S×Int)},(acc.map (·.1)).Nodup->((more c acc qs).map (·.1)).Nodup/\PS f (more c acc qs)=PS f acc+c * (qs.map fun q=>f q.2).sum
 | [],acc,nd=>⟨nd,by simp[more]⟩
 | q::qs,acc,nd=>by
  obtain ⟨h1,h2⟩:=IV f c qs (acc:=add acc q.2 c) (Qf nd)
  refine⟨h1,?_⟩
  show PS f (more c (add acc q.2 c) qs)=_
  rw[h2,Xr f _ _ nd,aZ,Mf,Int.mul_add]
  omega
theorem IW(step:S->List (L×S))(f:S->Int):∀(d:List (S×Int)) {acc:List (S×Int)},(acc.map (·.1)).Nodup->((next step acc d).map (·.1)).Nodup/\PS f (next step acc d)=PS f acc+PS (fun s=>((step s).map fun q=>f q.2).sum) d
 | [],acc,nd=>⟨nd,by simp[next,PS]⟩
 | z::d,acc,nd=>by
  obtain ⟨h1,h2⟩:=IV f z.2 (step z.1) nd
  obtain ⟨h3,h4⟩:=IW step f d h1
  refine⟨h3,?_⟩
  show PS f (next step (more z.2 acc (step z.1)) d)=_
  rw[h4,h2,lQ]
  omega
def lay(step:S->List (L×S))(d:List (S×Int)):Nat->List (S×Int)
 | 0=>d
 | n+1=>next step [] (lay step d n)
theorem Qh(step:S->List (L×S))(u:S){d:List (S×Int)}(nd:(d.map (·.1)).Nodup):∀n k,((lay step d n).map (·.1)).Nodup/\PS (N step u k) (lay step d n)=PS (N step u (k+n)) d
 | 0,k=>⟨nd,rfl⟩
 | n+1,k=>by
  have h:=IW step (N step u k) (lay step d n) (acc:=[]) ux
  refine⟨h.1,?_⟩
  show PS (N step u k) (next step [] (lay step d n))=_
  rw[h.2,show k+(n+1)=k+1+n by omega,<- (Qh step u nd n (k+1)).2]
  simp only[PS,lU,List.sum_nil,MY]
  rfl
theorem Tj(step:S->List (L×S))(s u:S)(n:Nat):val (lay step [(s,1)] n) u=N step u n s:=by
 have h:=Qh step u (d:=[(s,(1:Int))]) (by simp) n 0
 rw[<- Qg h.1]
 have e:(fun s=>if s=u then (1:Int) else 0)=N step u 0:=by funext x;rfl
 rw[e,h.2,kK]
 simp[PS]
end Cn
end aD8
section Xs
namespace Pk
open L2 Dm
variable (t:k9)
def dN(L:List (List Cell×Int)):List D:=L.flatMap fun z=>[tS z.1,.int z.2]
def Qi(L:List (List Cell×Int)):List (List (List Int)×D×D):=L.map fun z=>(kS z.1,tS z.1,.int z.2)
theorem Cq(z:List Cell×Int)(L:List (List Cell×Int)):dN (z::L)=tS z.1 :: .int z.2::dN L:=rfl
theorem Et:∀(L:List (List Cell×Int)),eF (dN L)=some (Qi L)
 | []=>rfl
 | z::L=>by rw[Cq,eF,jL,Et L];rfl
theorem Hv:kS a=kS b↔a=b:=⟨ve,fun e=>by rw[e]⟩
theorem Tn(L:List (List Cell×Int))(b:List Cell):((Qi L).map (·.1)).any (fun k=>decide (k=kS b))=L.any (fun z=>decide (z.1=b)):=by
 unfold Qi
 rw[dD,x9]
 congr 1
 funext z
 simp[Hv]
theorem vg(L:List (List Cell×Int)):eV (some (some (.bM 2 (dN L))))=some (dN L,Qi L):=nP rfl (Et L)
theorem Eu(b:List Cell):∀(L:List (List Cell×Int)),(Qi L).find? (fun z=>decide (z.1=kS b))=(L.find? (fun z=>decide (z.1=b))).map fun z=>(kS z.1,tS z.1,.int z.2)
 | []=>rfl
 | z::L=>by
  show ((kS z.1,tS z.1,D.int z.2)::Qi L).find? _=_
  rw[x6,x6]
  by_cases e:z.1=b
  ·rw[aH4 (Hv.mpr e),aH4 e];rfl
  ·rw[aH5 (fun c=>e (Hv.mp c)),aH5 e];exact Eu b L
theorem Xu(L:List (List Cell×Int))(b:List Cell):Sf (Qi L) (kS b) (.int 0) = .int (Cn.val L b):=by
 unfold Sf Cn.val
 rw[Eu]
 cases L.find? (fun z=>decide (z.1=b)) <;> rfl
theorem Qj{f1 f2 f3:DF}(h1:f1 st = .ok (.bM 2 (dN L)))(h2:f2 st = .ok (tS b))(h3:f3 st = .ok (.int 0)):tF f1 f2 f3 st = .ok (.int (Cn.val L b)):=by
 unfold tF
 rw[h1,h2,h3]
 dsimp only
 rw[vg]
 dsimp only
 unfold yE
 rw[jL]
 dsimp only
 rw[Xu]
 rfl
theorem Qk(b:List Cell)(v:Int):∀(L:List (List Cell×Int)),Ka (kS b) (.int v) (dN L)=dN (L.map fun z=>(z.1,if z.1=b then v else z.2))
 | []=>rfl
 | z::L=>by
  rw[Cq,Ka,Qk b v L,jL,aZ,Cq]
  by_cases e:z.1=b
  ·rw[aH2 (by rw[e]),aH2 e]
  ·rw[aH3 (fun c=>e (ve (eY c))),aH3 e]
theorem Xv(L:List (List Cell×Int))(b:List Cell)(v:Int):putD (dN L) (Qi L) (kS b) (tS b) (.int v)=dN (Cn.ups L b v):=by
 unfold putD Cn.ups
 rw[Tn]
 split
 ·exact Qk b v L
 ·unfold dN;rw[qW];rfl
theorem To{st:ig}(hi:st[i]?=some (some (.bM 2 (dN L))))(hk:fk st = .ok (tS b))(hf:f st = .ok (.int v))(hl:L.length<=5000):vF i fk f st = .nx (st.set i (some (.bM 2 (dN (Cn.ups L b v))))):=by
 unfold vF
 rw[hf,hi]
 dsimp only
 rw[vg,hk]
 dsimp only
 unfold P9
 rw[jL]
 dsimp only
 rw[aH2 ⟨by unfold Qi;rw[bh];exact hl,rfl⟩,Xv]
def KN(cells:List Cell)(L:List (List Cell×Int)):Prop:=(L.map (·.1)).Nodup/\∀s∈L.map (·.1),cQ cells s
theorem KN.len(up:cJ cells)(hl:cells.length<=8)(h:KN cells L):L.length<=4096:=by
 have h1:=len_sub h.1 fun s m=>tT (n5 up (h.2 s m).1 (h.2 s m).2)
 rw[bh,yW] at h1
 have h2:2 ^ cells.length<=2 ^ 8:=Lz (by decide) hl
 have:(2:Nat) ^ 8=256:=rfl
 lia
theorem KN.ups(h:KN cells L)(S:cQ cells k):KN cells (Cn.ups L k v):=
 ⟨Cn.Qf h.1,fun s m=>by
  rcases Cn.Ti m with m | rfl
  ·exact h.2 s m
  ·exact S⟩
theorem Ky(up:cJ cells)(hl:cells.length<=8)(a b c:D)(qs:List (cU×List Cell))(hq:∀q∈qs,cQ cells q.2)(acc:List (List Cell×Int))(ok:KN cells acc)(y z:Option D) :
  ∃y' z',gh (gP 5 6) (vF 2 (ao 6) (bK i7 (tF (ao 2) (ao 6) (dC (.int 0))) (ao 4))) (qs.map fun q=>D.tup [lD q.1,tS q.2]) [some a,some b,some (.bM 2 (dN acc)),some c,some (.int n),y,z]=
   .nx [some a,some b,some (.bM 2 (dN (Cn.more n acc qs))),some c,some (.int n),y',z']/\KN cells (Cn.more n acc qs):=by
 obtain ⟨st',h1,y',z',h2,h3⟩:=nR (bind:=gP 5 6) (F:=vF 2 (ao 6) (bK i7 (tF (ao 2) (ao 6) (dC (.int 0))) (ao 4))) (f:=fun q:cU×List Cell=>D.tup [lD q.1,tS q.2])
  (Q:=fun pre st=>∃y z,st=[some a,some b,some (.bM 2 (dN (Cn.more n acc pre))),some c,some (.int n),y,z]/\KN cells (Cn.more n acc pre)) qs [] [some a,some b,some (.bM 2 (dN acc)),some c,some (.int n),y,z] (fun p x r e st jd=>by
  obtain ⟨y,z,hy,hk⟩:=jd
  subst hy
  rw[i0] at e
  have mx:x∈qs:=by rw[e];simp
  have Q8:Cn.more n acc (p++[x])=Cn.add (Cn.more n acc p) x.2 n:=by unfold Cn.more;rw[AY];rfl
  rw[Q8]
  generalize Cn.more n acc p=M at hk ⊢
  have lM:=hk.len up hl
  refine⟨[some a,some b,some (.bM 2 (dN M)),some c,some (.int n),some (lD x.1),some (tS x.2)],[some a,some b,some (.bM 2 (dN (Cn.add M x.2 n))),some c,some (.int n),some (lD x.1),some (tS x.2)],rfl,?_,_,_,rfl,hk.ups (hq x mx)⟩
  rw[To (L:=M) (b:=x.2) (v:=Cn.val M x.2+n) rfl rfl (om (a:=.int (Cn.val M x.2)) (b:=.int n) (Qj (L:=M) (b:=x.2) rfl rfl rfl) rfl rfl) (by lia)]
  rfl) ⟨y,z,rfl,ok⟩
 rw[i0] at h2 h3
 subst h2
 exact⟨y',z',h1,h3⟩
theorem gG(up:cJ cells)(S:cQ cells s):s.length<=cells.length:=(n5 up S.1 S.2).length_le
theorem Tp(up:cJ cells)(hl:cells.length<=8)(hS:KN cells L) :
  iT t [gw (bz cells),.bM 2 (dN L)] = .ok (.bM 2 (dN (Cn.next (bg cells) [] L)))/\KN cells (Cn.next (bg cells) [] L):=by
 obtain ⟨st',h1,y,z,u,v,h2,h3⟩:=nR (bind:=gP 3 4) (F:=ir (jA (bZ (eG t) (aa (ao 0) (aa (ao 3) aG)))) (gP 5 6) (vF 2 (ao 6) (bK i7 (tF (ao 2) (ao 6) (dC (.int 0))) (ao 4)))) (f:=fun z:List Cell×Int=>D.tup [tS z.1,.int z.2])
  (Q:=fun pre st=>∃y z u v,st=[some (gw (bz cells)),some (.bM 2 (dN L)),some (.bM 2 (dN (Cn.next (bg cells) [] pre))),y,z,u,v]/\KN cells (Cn.next (bg cells) [] pre)) L [] [some (gw (bz cells)),some (.bM 2 (dN L)),some (.bM 2 (dN [])),none,none,none,none] (fun p x r e st n8=>by
  obtain ⟨y,z,u,v,hy,hk⟩:=n8
  subst hy
  rw[i0] at e
  have Sx:cQ cells x.1:=hS.2 _ (aS.mpr ⟨x,by rw[e];simp,rfl⟩)
  have lx:=gG up Sx
  have hs:=IQ t (cells:=cells) (s:=x.1) (by lia) (by lia)
  obtain ⟨y',z',g1,g2⟩:=Ky up hl (gw (bz cells)) (.bM 2 (dN L)) (tS x.1) (n:=x.2) (bg cells x.1) (rN Sx) _ hk u v
  have ee:Cn.next (bg cells) [] (p++[x])=Cn.more x.2 (Cn.next (bg cells) [] p) (bg cells x.1):=by unfold Cn.next;rw[AY];rfl
  rw[ee]
  refine⟨[some (gw (bz cells)),some (.bM 2 (dN L)),some (.bM 2 (dN (Cn.next (bg cells) [] p))),some (tS x.1),some (.int x.2),u,v],_,rfl,?_,some (tS x.1),some (.int x.2),y',z',rfl,g2⟩
  have hi:jA (bZ (eG t) (aa (ao 0) (aa (ao 3) aG))) [some (gw (bz cells)),some (.bM 2 (dN L)),some (.bM 2 (dN (Cn.next (bg cells) [] p))),some (tS x.1),some (.int x.2),u,v] = .ok ((bg cells x.1).map fun q=>D.tup [lD q.1,tS q.2]):=by
   unfold jA
   rw[E9 (a:=gw (bz cells)) (b:=tS x.1) rfl rfl hs]
  unfold ir
  rw[hi]
  exact g1) ⟨none,none,none,none,rfl,⟨ux,fun z m=>nomatch m⟩⟩
 rw[i0] at h2 h3
 subst h2
 refine⟨?_,h3⟩
 unfold iT
 refine fP [some (gw (bz cells)),some (.bM 2 (dN L)),none,none,none,none,none] ?_
 rw[bD (st':=[some (gw (bz cells)),some (.bM 2 (dN L)),some (.bM 2 (dN [])),none,none,none,none]) (ie rfl)]
 have hi:zv (ao 1) [some (gw (bz cells)),some (.bM 2 (dN L)),some (.bM 2 (dN [])),none,none,none,none] = .ok (L.map fun z=>D.tup [tS z.1,.int z.2]):=by
  unfold zv
  show (match eV (some (some (.bM 2 (dN L)))) with | some y=>_ | none=>_)=_
  rw[vg]
  show R.ok ((Qi L).map fun t=>D.tup [t.2.1,t.2.2])=_
  unfold Qi
  rw[dD];rfl
 rw[bD (F:=ir (zv (ao 1)) (gP 3 4) _) (by unfold ir;rw[hi];exact h1)]
 exact iH rfl
theorem Tq(up:cJ cells)(hl:cells.length<=8)(S:cQ cells ay)(So:cQ cells others) :
  jN t [bB cells,br ay,br others] = .ok (.int (Cn.N (bg cells) others (ay.length - others.length) ay)):=by
 have lp:=gG up S
 have lo:=gG up So
 have k1:=(mW t (cells:=cells) (ay:=ay) (by lia)).1 S
 have k2:=(mW t (cells:=cells) (ay:=others) (by lia)).1 So
 have kl:=IL t (cells:=cells) (by lia)
 unfold jN
 refine fP [some (bB cells),some (br ay),some (br others),none,none,none] ?_
 rw[bD (st':=[some (bB cells),some (br ay),some (br others),none,none,none]) (tQ (E9 (a:=bB cells) (b:=br ay) rfl rfl k1)),
  bD (st':=[some (bB cells),some (br ay),some (br others),none,none,none]) (tQ (E9 (a:=bB cells) (b:=br others) rfl rfl k2)),
  bD (st':=[some (bB cells),some (br ay),some (br others),some (gw (bz cells)),none,none]) (ie (E8 (a:=bB cells) rfl kl)),
  bD (st':=[some (bB cells),some (br ay),some (br others),some (gw (bz cells)),some (.bM 2 (dN [(ay,1)])),none]) (ie (by
   unfold yD
   rw[E8 (a:=br ay) (r:=.ok (tS ay)) rfl (mY ay)]
   show (match mT (tS ay) with | some _=>_ | none=>_)=_
   rw[jL];rfl))]
 obtain ⟨st',h1,y,h2,h3⟩:=nR (bind:=eO 5) (F:=dU 4 (bZ (iT t) (aa (ao 3) (aa (ao 4) aG)))) (f:=fun i:Nat=>D.int (i:Nat))
  (Q:=fun pre st=>∃y,st=[some (bB cells),some (br ay),some (br others),some (gw (bz cells)),some (.bM 2 (dN (Cn.lay (bg cells) [(ay,1)] pre.length))),y]/\KN cells (Cn.lay (bg cells) [(ay,1)] pre.length)) (dj (ay.length - others.length)) [] [some (bB cells),some (br ay),some (br others),some (gw (bz cells)),some (.bM 2 (dN [(ay,1)])),none] (fun p x r e st rR=>by
  obtain ⟨y,hy,hk⟩:=rR
  subst hy
  obtain ⟨g1,g2⟩:=Tp t up hl hk
  refine⟨[some (bB cells),some (br ay),some (br others),some (gw (bz cells)),some (.bM 2 (dN (Cn.lay (bg cells) [(ay,1)] p.length))),some (.int (x:Nat))],_,rfl,ie (E9 (a:=gw (bz cells)) (b:=.bM 2 (dN (Cn.lay (bg cells) [(ay,1)] p.length))) rfl rfl g1),some (.int (x:Nat)),?_,?_⟩
  ·rw[bU];rfl
  ·rw[bU];exact g2) ⟨none,rfl,jF.mpr ⟨eS,ux⟩,fun s m=>by obtain rfl:=fJ.mp m;exact S⟩
 rw[i0,ur] at h2
 subst h2
 have hi:uV (aa (bK s8 (bZ mq (aa (ao 1) aG)) (bZ mq (aa (ao 2) aG))) aG) [some (bB cells),some (br ay),some (br others),some (gw (bz cells)),some (.bM 2 (dN [(ay,1)])),none] = .ok ((dj (ay.length - others.length)).map fun i:Nat=>D.int (i:Nat)):=by
  have e:(bK s8 (bZ mq (aa (ao 1) aG)) (bZ mq (aa (ao 2) aG))) [some (bB cells),some (br ay),some (br others),some (gw (bz cells)),some (.bM 2 (dN [(ay,1)])),none] = .ok (.int ((ay.length:Int) - others.length)):=
   om (a:=.int ay.length) (b:=.int others.length) (E8 (a:=br ay) rfl (by unfold br;rw[H8,bh])) (E8 (a:=br others) rfl (by unfold br;rw[H8,bh])) rfl
  unfold uV
  simp only[Pw,UI,e,R.bind]
  rw[aH2 (by simp;lia),show ((ay.length:Int) - others.length).toNat=ay.length - others.length by lia]
 rw[bD (F:=ir _ _ _) (by unfold ir;rw[hi];exact h1)]
 refine iH ?_
 rw[Qj (L:=Cn.lay (bg cells) [(ay,1)] (ay.length - others.length)) (b:=others) rfl (E8 (a:=br others) rfl (mY others)) rfl,Cn.Tj]
end Pk
end Xs
section Xw
namespace Pk
open L2 Dm
theorem yZ:∀(a b:List Cell),eU (a.map cD) (b.map cD)=decide (a=b)
 | [],[]=>by simp[eU]
 | [],_::_=>by simp[eU]
 | _::_,[]=>by simp[eU]
 | x::a,y::b=>by
  rw[aZ,aZ,eU,yZ a b]
  have:iO (cD x) (cD y)=decide (x=y):=by
   obtain ⟨x1,x2⟩:=x
   obtain ⟨y1,y2⟩:=y
   unfold cD
   simp only[iO,eU,xr]
   rw[jU]
   simp
  rw[this,jU]
  simp
theorem IX(a b:List Cell):iO (br a) (br b)=decide (a=b):=by unfold br;rw[iO];exact yZ a b
def qe(F:List (List Cell)):D:=.lst (F.map br)
theorem IY(neg:Bool)(s:List Cell)(F:List (List Cell)):oj neg (br s) (qe F) = .ok (.bl (if neg then !decide (s∈F) else decide (s∈F))):=by
 have fl:∀a:List Cell,flat (br a)=true:=fun a=>by
  unfold br;rw[flat]
  exact iP fun d hd=>by obtain ⟨c,_,rfl⟩:=aS.mp hd;unfold cD;simp[flat,cz]
 have dp:∀a:List Cell,dep (br a)<=2:=fun a=>by
  have:=tP a
  unfold br;rw[dep];lia
 unfold oj qe
 dsimp only
 rw[aH2 (by
  simp only[cu,aH7]
  refine⟨⟨fl s,iP fun d hd=>by obtain ⟨c,_,rfl⟩:=aS.mp hd;exact fl c⟩,cC (sE (n:=2) fun d hd=>by obtain ⟨c,_,rfl⟩:=aS.mp hd;exact dp c) (by decide)⟩)]
 have e:(F.map br).any (fun e=>iO e (br s))=decide (s∈F):=by
  rw[x9,jU,kN,decide_eq_true_iff]
  constructor
  ·rintro ⟨x,hx,h⟩
   have h:iO (br x) (br s)=true:=h
   rw[IX,decide_eq_true_iff] at h
   exact h▸hx
  ·intro h
   exact⟨s,h,by show iO (br s) (br s)=true;rw[IX];simp⟩
 rw[e]
def Ct(cells s u:List Cell):Prop:=∃row,vN cells s row/\mX s row=u
theorem Ct.vC(S:cQ cells s)(h:Ct cells s u):cQ cells u:=by
 obtain ⟨row,ok,e⟩:=h
 rw[<- e];exact S.row ok
theorem rP:∀{row:List cU} {ay:List Cell},vN cells ay row->(Fr.rows (bg cells) row.length ay).any (·.1==mX ay row)=true
 | [],ay,_=>by show ([(ay,[])]:List (List Cell×List cU)).any _=true;simp[mX]
 | p::row,ay,h=>by
  rw[cS,Fr.yV,kN]
  refine⟨(p,eL ay p),?_,?_⟩
  ·unfold bg;exact aS.mpr ⟨p,h.1,rfl⟩
  ·exact rP h.2
theorem AE:∀{L:List (List Cell×List cU)} {s:List Cell} {r:List cU},L.lookup s=some r->(qk L).find? (fun z=>decide (z.1=kS s))=some (kS s,tS s,gw r)
 | z::L,s,r,h=>by
  rw[oM] at h
  show List.find? _ ((kS z.1,tS z.1,gw z.2)::qk L)=_
  by_cases e:s=z.1
  ·subst e
   rw[aI3] at h
   cases h
   rw[List.find?_cons_of_pos (by simp)]
  ·rw[show (s==z.1)=false by simpa using e] at h
   rw[List.find?_cons_of_neg (by simp;exact fun w=>e (ve w).symm)]
   exact AE h
theorem Tr{L:List (List Cell×List cU)}(h:L.lookup s=some r):qB (.bM 2 (gx L)) (tS s) = .ok (gw r):=by
 simp only[qB,jL,mZ,AE h]
 rfl
theorem pS:∀{n:Nat} {s:List Cell},(Fr.rows (bg cells) n s).any (·.1==u)=true->Ct cells s u
 | 0,s,h=>by
  have:s=u:=by simpa[Fr.rows] using h
  exact⟨[],trivial,this⟩
 | n+1,s,h=>by
  rw[Fr.yV,kN] at h
  obtain ⟨q,hq,h⟩:=h
  unfold bg at hq
  obtain ⟨p,hp,rfl⟩:=aS.mp hq
  obtain ⟨row,ok,e⟩:=pS h
  exact⟨p::row,⟨hp,ok⟩,e⟩
theorem Tt{F:List (List Cell)}{a:Nat}(h:F[a]?=some s):jP (qe F) (.int (a:Int)) = .ok (br s):=Cg (by rw[dm,h];rfl)
variable (t:k9)
theorem IZ:∀{a b:List Cell},a.length=b.length->gk (a.map cD) (b.map cD)=true
 | [],[],_=>rfl
 | [],_::_,h=>by cases h
 | _::_,[],h=>by cases h
 | a::l,b::m,h=>by rw[aZ,aZ,gk,PF,IZ (by simpa using h)];rfl
theorem Ql:∀(l:List Cell),HU (l.map cD)=true
 | []=>rfl
 | a::l=>by rw[aZ,HU,UM,Ql l];rfl
theorem Tu{F:List (List Cell)}(h:∀s∈F,s.length<=60):Ss (F.map br)=true:=by
 unfold Ss
 rw[cu,cu]
 refine⟨⟨gI.mpr fun a ha=>?_,gI.mpr fun a ha=>gI.mpr fun b hb=>?_⟩,iP fun d hd=>?_⟩
 ·obtain ⟨x,hx,rfl⟩:=aS.mp ha
  have:=h x hx
  exact aH4 (by rw[bh];lia)
 ·rw[dD] at ha hb
  obtain ⟨x,_,rfl⟩:=aS.mp ha
  obtain ⟨y,_,rfl⟩:=aS.mp hb
  have d:=tP x
  show (HU (x.map cD)&&cz (x.map cD)&&decide (kr (x.map cD)<=50)&&(decide (-((x.map cD).length:Int)≠ -((y.map cD).length:Int)) || gk (x.map cD) (y.map cD)))=true
  rw[Ql,E6,aH4 (by lia:kr (x.map cD)<=50),bh,bh]
  by_cases e:x.length=y.length
  ·rw[IZ e];simp
  ·rw[aH4 (by lia : -((x.length:Nat):Int)≠ -((y.length:Nat):Int))];rfl
 ·obtain ⟨x,_,rfl⟩:=aS.mp hd
  unfold br;rw[flat];exact E6 x
theorem Qm{l:List β}{m:List α}(h:l.Perm (m.map f)):∃k:List α,k.Perm m/\l=k.map f:=by
 generalize e:m.map f=n at h
 induction h generalizing m with
 | nil=>exact⟨[],by rw[Me.mp e],rfl⟩
 | cons x _ ih=>
  cases m with
  | nil=>cases e
  | cons a m=>
   injection e with e1 e2
   obtain ⟨k,hk,rfl⟩:=ih e2
   exact⟨a::k,hk.cons a,by rw[<- e1];rfl⟩
 | swap x y l=>
  match m,e with
  | a::b::m,e=>
   injection e with e1 e2
   injection e2 with e2 e3
   subst e1 e2 e3
   exact⟨b::a::m,.swap a b m,rfl⟩
 | trans _ _ i1 i2=>
  obtain ⟨k,hk,rfl⟩:=i2 e
  obtain ⟨j,hj,rfl⟩:=i1 rfl
  exact⟨j,hj.trans hk,rfl⟩
theorem Kz{F:List (List Cell)}(h:∀s∈F,s.length<=60):∃G,G.Perm F/\rG (qe F) = .ok (qe G):=by
 have p:=cR ((F.map br).map C2)
 rw[dD] at p
 obtain ⟨k,hk,e⟩:=Qm p
 refine⟨k,hk,?_⟩
 unfold rG qe
 dsimp only
 rw[aH2 (Tu h),dD,e,dD]
 rfl
theorem Tv{L:List (List Cell×List cU)}(hl:L.length<=5000)(h:∀z∈L,z.1.length<=60):∃G,G.Perm (L.map (·.1))/\i8 t [.bM 2 (gx L)] = .ok (qe G):=by
 obtain ⟨G,hG,e⟩:=Kz (F:=L.map (·.1)) (fun s m=>by obtain ⟨z,hz,rfl⟩:=aS.mp m;exact h z hz)
 refine⟨G,hG,?_⟩
 unfold i8
 refine fP [some (.bM 2 (gx L))] (iH (un1 (a:=qe (L.map (·.1))) ?_ e))
 unfold qe
 rw[dD]
 refine kG (ds:=L.map fun z=>tS z.1) ?_ (by rw[bh];exact hl) ?_
 ·unfold Si
  show (match eV (some (some (.bM 2 (gx L)))) with | some y=>_ | none=>_)=_
  rw[lA]
  show R.ok ((qk L).map fun t=>t.2.1)=_
  unfold qk
  rw[dD];rfl
 ·exact comp_map (S:=fun z=>[some (tS z.1)]) (P:=fun st=>∃y,st=[y]) L (fun x _=>⟨_,rfl⟩) (fun x _ st jd=>by obtain ⟨y,e⟩:=jd;subst e;rfl) (fun x _=>rfl) (fun x _=>E8 (a:=tS x.1) rfl (by
   unfold lJ tS
   dsimp only
   rw[aH2 (fM fun d hd=>by obtain ⟨c,_,rfl⟩:=aS.mp hd;unfold cD;simp[gM,ez])]
   rfl)) _ ⟨none,rfl⟩
theorem J0:∀N,(jB cells ay N).any (·.1==u)=true↔∃n,n < N/\(Fr.rows (bg cells) n ay).any (·.1==u)=true
 | 0=>⟨fun h=>(by cases h),fun n8=>by obtain ⟨n,h,_⟩:=n8;lia⟩
 | N+1=>by
  show (jB cells ay N++Fr.dQ (bg cells) ay N).any _=true↔_
  rw[List.any_append,oO,J0 N,Fr.yU,Fr.Ck]
  show _\/(false || _)=true↔_
  rw[B5]
  constructor
  ·rintro (⟨n,h,e⟩ | e)
   ·exact⟨n,by lia,e⟩
   ·exact⟨N,by lia,e⟩
  ·rintro ⟨n,h,e⟩
   by_cases c:n=N
   ·exact .inr (c▸e)
   ·exact .inl ⟨n,by lia,e⟩
theorem J1(S:cQ cells ay):(jB cells ay (ay.length+1)).any (·.1==u)=true↔Ct cells ay u:=by
 rw[J0]
 refine⟨fun rR=>rR.elim fun n EC=>EC.elim fun _ h=>pS h,fun G9=>G9.elim fun row ED=>ED.elim fun ok e=>⟨row.length,?_,by rw[<- e];exact rP ok⟩⟩
 have:=(lq S.1 S.2 ok).2.2.2
 lia
theorem Qn:∀{a b:List cU} {s:List Cell},vN cells s a->vN cells (mX s a) b->vN cells s (a++b)
 | [],_,_,_,h=>h
 | p::a,b,s,h1,h2=>⟨h1.1,Qn h1.2 h2⟩
theorem Ct.trans(h1:Ct cells a b)(h2:Ct cells b c):Ct cells a c:=by
 obtain ⟨r1,o1,e1⟩:=h1
 obtain ⟨r2,o2,e2⟩:=h2
 subst e1
 refine⟨r1++r2,Qn o1 o2,?_⟩
 rw[<- e2]
 unfold mX
 rw[AY]
theorem J2(f:α->Int):∀(l:List α),(∀x∈l,0<=f x)->0<=(l.map f).sum/\(0 < (l.map f).sum↔∃x∈l,0 < f x)
 | [],_=>⟨Int.le_refl _,fun h=>(by simp at h),fun CJ=>CJ.elim fun x Ew=>Ew.elim fun m _=>nomatch m⟩
 | x::l,h=>by
  obtain ⟨h1,h2⟩:=J2 f l fun y m=>h y (.tail _ m)
  have h0:=h x (.head _)
  rw[aZ,Mf]
  refine⟨by lia,fun z=>?_,fun Ey=>Ey.elim fun y xH=>xH.elim fun m z=>?_⟩
  ·by_cases c:0 < f x
   ·exact⟨x,.head _,c⟩
   ·obtain ⟨y,m,z⟩:=h2.mp (by lia)
    exact⟨y,.tail _ m,z⟩
  ·rcases bP.mp m with rfl | m
   ·lia
   ·have:=h2.mpr ⟨y,m,z⟩
    lia
theorem J3:∀(n:Nat) (s:List Cell),0<=Cn.N (bg cells) u n s/\(0 < Cn.N (bg cells) u n s↔(Fr.rows (bg cells) n s).any (·.1==u)=true)
 | 0,s=>by
  show 0<=(if s=u then (1:Int) else 0)/\(0 < (if s=u then (1:Int) else 0)↔([(s,[])]:List (List Cell×List cU)).any _=true)
  by_cases e:s=u <;> simp[e]
 | n+1,s=>by
  obtain ⟨h1,h2⟩:=J2 (fun q:cU×List Cell=>Cn.N (bg cells) u n q.2) (bg cells s) fun q _=>(J3 n q.2).1
  refine⟨h1,h2.trans ?_⟩
  rw[Fr.yV,kN]
  exact⟨fun Bm=>Bm.elim fun q Bo=>Bo.elim fun m z=>⟨q,m,(J3 n q.2).2.mp z⟩,fun Bp=>Bp.elim fun q Ga=>Ga.elim fun m z=>⟨q,m,(J3 n q.2).2.mpr z⟩⟩
theorem an5(S:cQ cells s):0 < Cn.N (bg cells) u (s.length - u.length) s↔Ct cells s u:=by
 rw[(J3 _ _).2]
 refine⟨pS,fun NC=>?_⟩
 obtain ⟨row,ok,e⟩:=NC
 have:=(lq S.1 S.2 ok).2.2.2
 rw[e] at this
 rw[show s.length - u.length=row.length by lia,<- e]
 exact rP ok
theorem J4(up:cJ cells)(hl:cells.length<=8)(S:cQ cells ay):∃G,(∀s,s∈G↔Ct cells ay s)/\G.length<=900/\i8 t [.bM 2 (gx (jB cells ay (ay.length+1)))] = .ok (qe G):=by
 have lp:=gG up S
 have k:=Cp t (by lia) (tU up hl) S (by lia) (ay.length+1)
 have kb:=tU up hl _ k
 obtain ⟨G,hG,e⟩:=Tv t (L:=jB cells ay (ay.length+1)) (by lia) fun z m=>by
  have:=gG up (k.2 z m)
  lia
 refine⟨G,fun s=>?_,by rw[hG.length_eq,bh];exact kb,e⟩
 rw[hG.mem_iff,<- J1 S,kN,aS]
 exact⟨fun ND=>ND.elim fun z NF=>NF.elim fun m e=>⟨z,m,by rw[<- e];exact aI3 _⟩,fun Wx=>Wx.elim fun z Wy=>Wy.elim fun m e=>⟨z,m,eq_of_beq e⟩⟩
theorem AF(up:cJ cells)(hl:cells.length<=8)(S:cQ cells ay):∃G,(∀s,s∈G↔Ct cells ay s)/\G.length<=900/\kJ t [bB cells,br ay] = .ok (qe G):=by
 have lp:=gG up S
 obtain ⟨G,h1,h0,h2⟩:=J4 t up hl S
 refine⟨G,h1,h0,?_⟩
 have c1:=(mW t (cells:=cells) (ay:=ay) (by lia)).1 S
 have hf:=Ep t (by lia) (tU up hl) S (by lia)
 unfold kJ
 refine fP [some (bB cells),some (br ay)] ?_
 rw[bD (tQ (E9 (a:=bB cells) (b:=br ay) rfl rfl c1))]
 exact iH (E8 (E9 (a:=bB cells) (b:=br ay) rfl rfl hf) h2)
theorem Qo(up:cJ cells)(hl:cells.length<=8)(S:cQ cells ay)(Su:cQ cells u) :
  ∃(b:Bool) (d:D),(b=true↔Ct cells ay u)/\pN t [bB cells,br ay,br u] = .ok (.tup [.str (if b=true then "leaps" else "never"),d]):=by
 have lp:=gG up S
 have lu:=gG up Su
 have c1:=(mW t (cells:=cells) (ay:=ay) (by lia)).1 S
 have c2:=(mW t (cells:=cells) (ay:=u) (by lia)).1 Su
 have k1:=wG t (cells:=cells) (ay:=ay) (by lia) S
 have k2:=wG t (cells:=cells) (ay:=u) (by lia) Su
 have hf:=Ep t (by lia) (tU up hl) S (by lia)
 have kc:∀st,st=[some (bB cells),some (br ay),some (br u),none]->(bK (n9 true) (bZ (dH t) (aa (ao 0) (aa (ao 1) aG))) (bZ (dH t) (aa (ao 0) (aa (ao 2) aG)))) st = .ok (.bl (!decide (pR ay=pR u))):=fun st e=>by
  subst e
  exact om (a:=Ku ay) (b:=Ku u) (E9 (a:=bB cells) (b:=br ay) rfl rfl k1) (E9 (a:=bB cells) (b:=br u) rfl rfl k2) (by rw[Eg];rfl)
 have kc:=kc _ rfl
 suffices h:∃(b:Bool) (d:D),(b=true↔Ct cells ay u)/\(bR (Dm.fm (bK (n9 true) (bZ (dH t) (aa (ao 0) (aa (ao 1) aG))) (bZ (dH t) (aa (ao 0) (aa (ao 2) aG))))
 (gf (dI 100 (aa (dC (.str "never")) (aa (dI 100 (aa (dC (.str "class")) aG)) aG))))
 cP)
 (bR (dU 3 (bZ (iw t) (aa (ao 0) (aa (ao 1) aG))))
 (bR (Dm.fm (bK (tu false) (bZ j7 (aa (ao 2) aG)) (ao 3))
 (gf (tE "leaps" (bK qB (ao 3) (bZ j7 (aa (ao 2) aG)))))
 cP)
 (gf (dI 100 (aa (dC (.str "never")) (aa (tE "closed" (bZ (i8 t) (aa (ao 3) aG))) aG))))))) [some (bB cells),some (br ay),some (br u),none] = .rt (.tup [.str (if b=true then "leaps" else "never"),d]) by
  obtain ⟨b,d,h0,h⟩:=h
  refine⟨b,d,h0,?_⟩
  unfold pN
  refine fP [some (bB cells),some (br ay),some (br u),none] ?_
  rw[bD (tQ (E9 (a:=bB cells) (b:=br ay) rfl rfl c1)),bD (tQ (E9 (a:=bB cells) (b:=br u) rfl rfl c2))]
  exact h
 by_cases ec:pR ay=pR u
 ·rw[aH4 ec] at kc
  rw[bD (st':=[some (bB cells),some (br ay),some (br u),none]) (by rw[v9 kc];rfl)]
  generalize hL:jB cells ay (ay.length+1)=L at hf
  rw[bD (st':=[some (bB cells),some (br ay),some (br u),some (.bM 2 (gx L))]) (ie (E9 (a:=bB cells) (b:=br ay) rfl rfl hf))]
  have tW:(bZ j7 (aa (ao 2) aG)) [some (bB cells),some (br ay),some (br u),some (.bM 2 (gx L))] = .ok (tS u):=E8 (a:=br u) rfl (mY _)
  have hg:=En false u L
  have ar:=J1 (u:=u) S
  rw[hL] at ar
  by_cases c:Ct cells ay u
  ·have UB:=ar.mpr c
   obtain ⟨r,hr⟩:=Fr.AB u L UB
   rw[UB] at hg
   refine⟨true,gw r,⟨fun _=>c,fun _=>rfl⟩,Hh ?_⟩
   rw[Hi (om (a:=tS u) (b:=.bM 2 (gx L)) tW rfl hg),aH2 rfl]
   refine iH ?_
   unfold tE
   rw[om (a:=.bM 2 (gx L)) (b:=tS u) rfl tW (Tr hr)]
  ·have UB:L.any (·.1==u)=false:=uy.mpr fun z=>c (ar.mp z)
   rw[UB] at hg
   rw[bD (st':=[some (bB cells),some (br ay),some (br u),some (.bM 2 (gx L))]) (by rw[v9 (om (a:=tS u) (b:=.bM 2 (gx L)) tW rfl hg)];rfl)]
   obtain ⟨G,_,_,h2⟩:=J4 t up hl S
   rw[hL] at h2
   have hp:(tE "closed" (bZ (i8 t) (aa (ao 3) aG))) [some (bB cells),some (br ay),some (br u),some (.bM 2 (gx L))] = .ok (.tup [.str "closed",qe G]):=by
    unfold tE
    rw[E8 (a:=.bM 2 (gx L)) rfl h2]
    rfl
   refine⟨false,.tup [.str "closed",qe G],⟨fun z=>(by cases z),fun z=>aI4 z c⟩,iH ?_⟩
   unfold dI
   simp only[Pw,UI,hp,R.bind]
   rfl
 ·rw[aH5 ec] at kc
  have c:¬ Ct cells ay u:=fun N9=>N9.elim fun row Vf=>Vf.elim fun ok e=>ec (by have:=(lq S.1 S.2 ok).2.2.1;rw[e] at this;exact this.symm)
  refine⟨false,.tup [.str "class"],⟨fun z=>(by cases z),fun z=>aI4 z c⟩,Hh ?_⟩
  rw[Hi kc]
  rfl
end Pk
end Xw
section Xy
namespace Dm
open L2 HT
theorem Tw(p q:α->Bool):∀l:List α,(l.filter p).length+(l.filter q).length<=l.length+(l.filter fun a=>p a&&q a).length
 | []=>by simp
 | a::l=>by
  have:=Tw p q l
  simp only[List.filter_cons,cS]
  cases p a <;> cases q a <;> simp <;> lia
theorem z4:∀l:List α,boolsOf (l.map fun _=>D.bl true)=some (l.map fun _=>true)
 | []=>rfl
 | x::l=>by rw[aZ,boolsOf,z4 l];rfl
theorem all_true(l:List α):K2 [.lst (l.map fun _=>D.bl true)] = .ok (.bl true):=by
 unfold K2
 dsimp only
 rw[z4]
 simp
end Dm
end Xy
section an6
namespace Pk
open L2 Dm
variable (t:k9)
def Tz(t:k9):DS:=(bR (dU 7 (iS (DJ (ao 1)) 2 [5,6] (gP 0 1) (bK (n9 false) (bZ (b7 t) (aa (ao 2) (aa (bK i7 (bK pF (dC (.int 10)) (ao 3)) (ao 0)) (aa (dC (.int 2)) aG)))) (dC (.int 0))) (cN (ao 1))))
 (Dm.fm (bK (n9 false) (bZ (b7 t) (aa (ao 5) (aa (bK i7 (dC (.int 100)) (ao 6)) (aa (dC (.int 2)) aG)))) (dC (.int 0)))
 (dU 7 (bZ lJ (aa (bK jP (ao 4) (bZ (b7 t) (aa (ao 5) (aa (bK i7 (dC (.int 110)) (ao 6)) (aa (bZ mq (aa (ao 4) aG)) aG))))) aG)))
 cP))
def TF(t:k9):DS:=(bR (dU 8 (bK (oj false) (ao 7) (ao 4)))
 (bR (Dm.fm (YF (bK (n9 true) (bK (n9 false) (bK jP (bZ (pN t) (aa (ao 2) (aa (ao 3) (aa (ao 7) aG)))) (dC (.int 0))) (dC (.str "leaps"))) (ao 8)) (bK (n9 true) (bK Qz (bZ (jN t) (aa (ao 2) (aa (ao 3) (aa (ao 7) aG)))) (dC (.int 0))) (ao 8)))
 (gf (dC (.bl false)))
 cP)
 (bR (Dm.fm (oh (ao 8) (bK (n9 true) (bZ (dH t) (aa (ao 2) (aa (ao 7) aG))) (bZ (dH t) (aa (ao 2) (aa (ao 3) aG)))))
 (gf (dC (.bl false)))
 cP)
 (Dm.fm (oh (ao 8) (uR (bZ K2 (aa (iS (jA (bZ (kJ t) (aa (ao 2) (aa (ao 7) aG)))) 1 [4] (eO 0) (dC (.bl true)) (bK (oj false) (ao 0) (ao 1))) aG))))
 (gf (dC (.bl false)))
 cP))))
theorem Qp(a:Bool):n9 true (.bl a) (.bl a) = .ok (.bl false):=by simp[n9,flat,dep,iO]
theorem Xz(up:cJ l)(hl:l.length<=8)(S:cQ l g)(Su:cQ l u)(hG:∀s,s∈G↔Ct l g s)(k z:Option D) :
  ∃z',TF t [some (iL ns),some (br l),some (bB l),some (br g),some (qe G),some (.int c),k,some (br u),z] = .nx [some (iL ns),some (br l),some (bB l),some (br g),some (qe G),some (.int c),k,some (br u),z']:=by
 have lg:=gG up S
 have lu:=gG up Su
 obtain ⟨b,d,hb,hA⟩:=Qo t up hl S Su
 have hC:=Tq t up hl S Su
 have k1:=wG t (cells:=l) (ay:=g) (by lia) S
 have k2:=wG t (cells:=l) (ay:=u) (by lia) Su
 obtain ⟨G',hG',lG',hR⟩:=AF t up hl Su
 have gi:=IY false u G
 have UN:decide (u∈G)=b:=by rw[jU,decide_eq_true_iff,hb];exact hG u
 rw[aH3 iK,UN] at gi
 have hN:=an5 (u:=u) S
 generalize Cn.N (bg l) u (g.length - u.length) g=n at hC hN
 generalize nZ:[some (iL ns),some (br l),some (bB l),some (br g),some (qe G),some (.int c),k,some (br u),some (.bl (b))]=st
 refine⟨some (.bl (b)),?_⟩
 unfold TF
 rw[bD (ie (om (a:=br u) (b:=qe G) rfl rfl gi))]
 show _=Out.nx _
 rw[show ([some (iL ns),some (br l),some (bB l),some (br g),some (qe G),some (.int c),k,some (br u),z].set 8 (some (.bl (b))))=st from nZ,nZ]
 have v2:ao 2 st = .ok (bB l):=by rw[<- nZ];rfl
 have v3:ao 3 st = .ok (br g):=by rw[<- nZ];rfl
 have v7:ao 7 st = .ok (br u):=by rw[<- nZ];rfl
 have v8:ao 8 st = .ok (.bl (b)):=by rw[<- nZ];rfl
 have e1:n9 false (.str (if b=true then "leaps" else "never")) (.str "leaps") = .ok (.bl (b)):=by
  cases b <;> rfl
 have e2:Qz (.int n) (.int 0) = .ok (.bl (b)):=by
  rw[aC9]
  congr 2
  rw[jU,decide_eq_true_iff,hb];exact hN
 rw[bD (st':=st) (by
  rw[v9 (am9 (om (om (om (Ww v2 v3 v7 hA) rfl rfl) rfl e1) v8 (Qp _)) (om (om (Ww v2 v3 v7 hC) rfl e2) v8 (Qp _)))]
  rfl)]
 clear hA UN gi e1 e2
 cases b with
 | true=>
  have h:=hb.mp rfl
  have hc:pR u=pR g:=by
   obtain ⟨row,ok,e⟩:=h
   have:=(lq S.1 S.2 ok).2.2.1
   rw[e] at this;exact this
  rw[bD (st':=st) (by
   rw[v9 (Cf v8 (om (E9 v2 v7 k2) (E9 v2 v3 k1) (by rw[Eg,aH4 hc];rfl)))]
   rfl)]
  rw[v9 (Cf v8 (an0 (b:=true) (E8 (a:=.lst (G'.map fun _=>D.bl true)) (kG (ds:=G'.map br) (by unfold jA;rw[E9 v2 v7 hR];rfl) (by rw[bh];lia) (comp_map (S:=fun s=>[some (br s),some (qe G)]) (P:=fun st=>∃y,st=[y,some (qe G)]) G' (fun x _=>⟨_,rfl⟩) (fun x _ st jd=>by obtain ⟨y,e⟩:=jd;subst e;rfl) (fun x _=>rfl) (fun x m=>om (a:=br x) (b:=qe G) rfl rfl (by rw[IY,aH3 iK,aH4 ((hG x).mpr (h.trans ((hG' x).mp m)))])) _ ⟨none,by rw[<- nZ];rfl⟩)) (all_true G'))))]
  rfl
 | false=>
  rw[bD (st':=st) (by rw[v9 (Hj v8)];rfl),v9 (Hj v8)]
  rfl
theorem XA(up:cJ l)(hl:l.length<=8)(S:cQ l g)(hG:∀s,s∈G↔Ct l g s)(k:Nat)(y z:Option D) :
  ∃u,cQ l u/\Tz t [some (iL ns),some (br l),some (bB l),some (br g),some (qe G),some (.int c),some (.int (k:Nat)),y,z] = .nx [some (iL ns),some (br l),some (bB l),some (br g),some (qe G),some (.int c),some (.int (k:Nat)),some (br u),z]:=by
 obtain ⟨v,v0,v1,hv⟩:=pP t c (100+(k:Nat)) 2 (by decide)
 have hG0:0 < G.length:=Mc ((hG g).mpr ⟨[],trivial,rfl⟩)
 obtain ⟨w,w0,w1,hw⟩:=pP t c (110+(k:Nat)) G.length (by lia)
 obtain ⟨w,rfl⟩:=N5 w0
 have hw':w < G.length:=by lia
 have e1:(iS (DJ (ao 1)) 2 [5,6] (gP 0 1) (bK (n9 false) (bZ (b7 t) (aa (ao 2) (aa (bK i7 (bK pF (dC (.int 10)) (ao 3)) (ao 0)) (aa (dC (.int 2)) aG)))) (dC (.int 0))) (cN (ao 1))) [some (iL ns),some (br l),some (bB l),some (br g),some (qe G),some (.int c),some (.int (k:Nat)),y,z] = .ok (br ((l.zipIdx.filter fun x=>!zE t c 2 (10 * k+x.2)).map (·.1))):=by
  show _=R.ok (D.lst (List.map cD (List.map _ _)))
  rw[dD]
  refine kG (ds:=l.zipIdx.map fun p=>.tup [.int (p.2:Nat),cD p.1]) ?_ (by simp;lia) ?_
  ·simp[DJ,II]
  ·refine l9 (S:=fun x=>[some (.int (x.2:Nat)),some (cD x.1),some (.int c),some (.int (k:Nat))]) (P:=fun st=>∃y z,st=[y,z,some (.int c),some (.int (k:Nat))]) l.zipIdx (fun x _=>⟨_,_,rfl⟩) (fun x _ st n8=>by obtain ⟨y,z,e⟩:=n8;subst e;rfl) (fun x _=>?_) (fun x _ _=>by simp) _ ⟨none,none,rfl⟩
   obtain ⟨v,v0,v1,hv⟩:=pP t c ((10 * k+x.2:Nat):Int) 2 (by decide)
   have e:zE t c 2 (10 * k+x.2)=decide (0 < v):=by unfold zE;rw[hv]
   refine om (a:=.int v) (b:=.int 0) (Ww (a:=.int c) (b:=.int ((10 * k+x.2:Nat):Int)) (c:=.int 2) rfl (om (a:=.int (10 * (k:Int))) (b:=.int (x.2:Nat)) (om (a:=.int 10) (b:=.int (k:Nat)) rfl rfl (v5 (by decide))) rfl ?_) rfl hv) rfl ?_
   ·rfl
   ·rw[kF,e]
    by_cases h:v=0
    ·simp[h]
    ·have:0 < v:=by lia
     simp[h,this]
 have s1:cQ l ((l.zipIdx.filter fun x=>!zE t c 2 (10 * k+x.2)).map (·.1)):=.sub up (by
  have:=(xg (p:=fun x:Cell×Nat=>!zE t c 2 (10 * k+x.2)) (l:=l.zipIdx)).map Prod.fst
  rwa [M9] at this)
 generalize (l.zipIdx.filter fun x=>!zE t c 2 (10 * k+x.2)).map (·.1)=u at e1 s1
 have e2:n9 false (.int v) (.int 0) = .ok (.bl (decide (v=0))):=by rw[kF];rfl
 have e3:(bK (n9 false) (bZ (b7 t) (aa (ao 5) (aa (bK i7 (dC (.int 100)) (ao 6)) (aa (dC (.int 2)) aG)))) (dC (.int 0))) [some (iL ns),some (br l),some (bB l),some (br g),some (qe G),some (.int c),some (.int (k:Nat)),some (br u),z] = .ok (.bl (decide (v=0))):=
  om (a:=.int v) (b:=.int 0) (Ww (a:=.int c) (b:=.int (100+(k:Nat))) (c:=.int 2) rfl rfl rfl hv) rfl e2
 unfold Tz
 by_cases h:v=0
 ·rw[aH4 h] at e3
  have hR:Ct l g G[w]:=(hG _).mp (qT hw')
  refine⟨G[w],hR.vC S,?_⟩
  rw[bD (ie e1)]
  refine(Hi e3).trans (ie (E8 (a:=br G[w]) (om (a:=qe G) (b:=.int (w:Nat)) rfl (Ww (a:=.int c) (b:=.int (110+(k:Nat))) (c:=.int (G.length:Nat)) rfl rfl (E8 (a:=qe G) rfl (by unfold qe;rw[H8,bh])) hw) (Tt (dF hw'))) ?_))
  unfold lJ br
  dsimp only
  rw[aH2 (fM fun d hd=>by obtain ⟨c,_,rfl⟩:=aS.mp hd;unfold cD;simp[gM,ez])]
 ·rw[aH5 h] at e3
  refine⟨u,s1,?_⟩
  rw[bD (ie e1)]
  exact(v9 e3).trans rfl
theorem an7(ns:List Int):Av t [iL ns] = .ok (.bl true):=by
 obtain ⟨l,hl,dl⟩:=T9 t ns 8 (by decide)
 have hl:dZ t [iL ns,.int 8] = .ok (br l):=hl
 obtain ⟨c,YK⟩:∃c:Int,bJ t [iL ns,.int 2] = .ok (.int c):=⟨_,T5 t ns 2⟩
 obtain ⟨c3,aD9⟩:∃c:Int,bJ t [iL ns,.int 3] = .ok (.int c):=⟨_,T5 t ns 3⟩
 have ll:=dl.le
 obtain ⟨g,hg,sub⟩:=Xb t c (l:=l) dl.pos (by lia)
 have Sg:cQ l g:=.sub dl.up sub
 have hB:=Tc t (dl.mono (by decide:8<=24))
 obtain ⟨G,hG,_,hR⟩:=AF t dl.up ll Sg
 unfold Av
 refine fP [some (iL ns),none,none,none,none,none,none,none,none] ?_
 rw[bD (st':=[some (iL ns),some (br l),none,none,none,none,none,none,none]) (by simp[hl]),
  bD (st':=[some (iL ns),some (br l),some (bB l),none,none,none,none,none,none]) (by simp[hB]),
  bD (st':=[some (iL ns),some (br l),some (bB l),some (br g),none,none,none,none,none]) (by simp[YK,hg]),
  bD (st':=[some (iL ns),some (br l),some (bB l),some (br g),some (qe G),none,none,none,none]) (ie (E9 (a:=bB l) (b:=br g) rfl rfl hR)),
  bD (st':=[some (iL ns),some (br l),some (bB l),some (br g),some (qe G),some (.int c3),none,none,none]) (by simp[aD9])]
 obtain ⟨st',h1,x,y,z,h2⟩:=nR (bind:=eO 6) (F:=bR (Tz t) (TF t)) (f:=fun i:Nat=>D.int (i:Nat)) (Q:=fun _ st=>∃x y z,st=[some (iL ns),some (br l),some (bB l),some (br g),some (qe G),some (.int c3),x,y,z]) (dj 6) [] [some (iL ns),some (br l),some (bB l),some (br g),some (qe G),some (.int c3),none,none,none] (fun p k r e st rR=>by
  obtain ⟨x,y,z,hy⟩:=rR
  subst hy
  obtain ⟨u,Su,h1⟩:=XA t (ns:=ns) (c:=c3) dl.up ll Sg hG k y z
  obtain ⟨z',h2⟩:=Xz t (ns:=ns) (c:=c3) dl.up ll Sg Su hG (some (.int (k:Nat))) z
  exact⟨_,_,rfl,(bD h1).trans h2,_,_,_,rfl⟩) ⟨none,none,none,rfl⟩
 subst h2
 have assoc:∀(A B C:DS) (st:ig),bR A (bR B C) st=bR (bR A B) C st:=fun A B C st=>by
  unfold bR
  cases A st <;> rfl
 have hi:uV (aa (dC (.int 6)) aG) [some (iL ns),some (br l),some (bB l),some (br g),some (qe G),some (.int c3),none,none,none] = .ok ((dj 6).map fun i:Nat=>D.int (i:Nat)):=rfl
 rw[bD (F:=ir _ _ _) (st':=[some (iL ns),some (br l),some (bB l),some (br g),some (qe G),some (.int c3),x,y,z]) (by
  unfold ir
  rw[hi]
  refine Eq.trans (congrArg (fun F=>gh (eO 6) F ((dj 6).map fun i:Nat=>D.int (i:Nat)) _) (?_:_=bR (Tz t) (TF t))) h1
  funext st
  exact assoc _ _ _ st)]
 exact iH rfl
end Pk
end an6
section XC
noncomputable section
namespace Hd
open PySem PySem.W PySem.Calls PyProof.Rows
abbrev pq:dh:=PySem.Challenge.pw_pegleap_k14_whole_reached_and_answered
def nth:List bw → Nat → bw
  | [],_=> .Pass ⟨0,0,0,0⟩
  | s::_,0=>s
  | _::r,n+1=>nth r n
def tk:Nat → List bw → List bw
  | 0,_=>[]
  | _,[]=>[]
  | n+1,s::r=>s::tk n r
def dr:Nat → List bw → List bw
  | 0,l=>l
  | _,[]=>[]
  | n+1,_::r=>dr n r
def st(i:Nat):bw:=nth pq.main.body i
def sc(i j:Nat):bw:=match st i with | .ClassDef _ _ _ b _ _ _ _ _ _ _=>nth b j | s=>s
def fN:bw → Str | .FunctionDef n _ _ _ _ _ _ _ _ _=>n | _=>default
def fX(s:bw)(q:Str)(g:av)(cl:List (Str×av))(dv kv doc pm:aq)(an:Option av)(cd ct:aq)(bi:av):PySem.Data:=match s with | .FunctionDef n a b _ _ _ sc _ _ _=> .func ⟨n,q,a,.stmts b,sc,g,cl,dv,kv,doc,pm,an,cd,ct,bi⟩ | _=> .plain
def en(P:fQ)(x:Str)(t:Tok)(v:aq):qN:=⟨PyData.keyHash P x,.str x t,v⟩
theorem TH{tb:String → Option Builtin}{p:dh}{w:bN}{n:Nat}{a:Option aq}{N:Nat}{s r:az}{env:Env}{c:Code}{pos:Pos}{B:List Frame}{b b':List bw}(e:b=b')(k:topRun tb p w n a N s (restOf b' env c pos B)=some r):topRun tb p w n a N s (restOf b env c pos B)=some r:=e▸k
def cO(n q:Str)(t:Tok)(L a k:Int)(r:av)(b:Bool)(c:av)(x y z:aq)(u:Nat):Obj:=⟨.type "code",none,.fields #[.str n t,.str q (t+1),.str "/claim/cut.py" (t+2),.int L 0,.int a 0,.int 0 0,.int 0 0,.int k 0,.ref r,.bool b,.int 181 0,.ref c,.none,x,y,z,.int u 0,.int L 0,.str "/claim/cut.py" (u+1)],#[]⟩
def fO(s:bw)(g:av)(m:Str)(t:Tok)(c:av):Obj:=⟨.type "function",none,fX s (fN s) g [] .none .none .none (.str m t) none (.ref c) .none 0,#[]⟩
def fZ(s:bw):Obj:=⟨.none,none,fX s (fN s) 0 [] .none .none .none .none none .none .none 0,#[]⟩
abbrev nd(o:Obj)(l r:BT):BT:= .node o l r
abbrev ly(o:Obj):BT:= .node o .nil .nil
def o0:Obj:=⟨.type "tuple",none,(.seq #[] 0),#[]⟩
def o1:Obj:=⟨.none,none,(.fields #[]),#[]⟩
def o2:Obj:=cO "<module>" "<module>" 182 1 0 0 11 false 12 .none .none .none 185
def o3:Obj:=⟨.type "frame",none,.plain,#[(some (.ref 13)),(some (.ref 3)),(some (.ref 3)),none,(some (.str "__main__" 164)),none,(some (.ref 0))]⟩
def lf0:Life:={ }
def Ha(P:fQ):aX:=⟨⟨[boot_o_0 P,boot_o_1 P,boot_o_2 P,boot_o_3 P,boot_o_4 P,boot_o_5 P,boot_o_6 P,boot_o_7 P,boot_o_8 P,boot_o_9 P,boot_o_10 P,o0,o1,o2,o3]⟩,lf0⟩
def T0(P:fQ):BT:=(nd (boot_o_0 P) (nd (boot_o_1 P) (nd (boot_o_3 P) (ly (boot_o_7 P)) (ly o0)) (nd (boot_o_5 P) (ly (boot_o_9 P)) (ly o2))) (nd (boot_o_2 P) (nd (boot_o_4 P) (ly (boot_o_8 P)) (ly o1)) (nd (boot_o_6 P) (ly (boot_o_10 P)) (ly o3))))
def S0(w:bN)(os:OsState):SharedT:=⟨T0 w.params,15,lf0,#[],⟨0,0,0,0⟩,187,os⟩
def o4(P:fQ):Obj:=⟨.type "dict",none,(.dict #[en P "__name__" 165 (.str "pegleap.boards" 239),en P "__doc__" 166 .none,en P "__package__" 167 .none,en P "__loader__" 168 (.builtin "__main__.__loader__#opaque"),en P "__spec__" 169 .none,en P "__annotations__" 170 (.ref 6),en P "__builtins__" 171 (.ref 4),en P "__file__" 173 (.str "/claim/cut.py" 172),en P "__cached__" 174 .none,en P "PegError" 206 (.ref 24),en P "BadBoard" 222 (.ref 37),en P "BadPegs" 238 (.ref 49),en P "LAST" 242 (.int 7 241),en P "MOST_CELLS" 244 (.int 24 243),en P "is_rising" 251 (.ref 58),en P "is_cell" 258 (.ref 65),en P "check_cells" 266 (.ref 72)] 17),#[]⟩
def o5:Obj:=⟨.none,none,(.fields #[.int 2 0,.int 0 0,.ref 20,.int 4 0,.int 0 0,.ref 33,.int 6 0,.int 0 0,.ref 45,.int 11 0,.int 0 0,.ref 57,.int 13 0,.int 0 0,.ref 64,.int 15 0,.int 0 0,.ref 71]),#[]⟩
def o6:Obj:=⟨.type "tuple",none,(.seq #[.type "ValueError"] 0),#[]⟩
def o7:Obj:=⟨.type "builtin_function_or_method",none,(.fields #[.builtin "type.__prepare__",.type "type"]),#[]⟩
def o8(P:fQ):Obj:=⟨.type "dict",none,(.dict #[en P "__module__" 196 (.str "pegleap.errors" 187),en P "__qualname__" 198 (.str "PegError" 197),en P "__firstlineno__" 200 (.int 2 199),en P "__static_attributes__" 201 (.ref 22)] 4),#[]⟩
def o9:Obj:=cO "PegError" "PegError" 191 2 0 0 18 false 19 .none .none .none 194
def o10:Obj:=⟨.type "frame",none,.plain,#[(some (.ref 20)),(some (.ref 3)),(some (.ref 17)),none,(some (.str "pegleap.errors" 187)),none,(some (.ref 0))]⟩
def o11(P:fQ):Obj:=⟨.type "dict",none,(.dict #[en P "__module__" 196 (.str "pegleap.errors" 187),en P "__firstlineno__" 200 (.int 2 199),en P "__static_attributes__" 201 (.ref 22),en P "__weakref__" 203 (.ref 25),en P "__doc__" 204 .none] 3),#[]⟩
def o12:Obj:=⟨.type "type",none,(.cls ⟨"PegError",[.type "ValueError"],[.ref 24,.type "ValueError",.type "Exception",.type "BaseException",.type "object"],23,"PegError",true,[],[.ref 37,.ref 49],false,none,false⟩),#[(some (.ref 15)),none,(some (.str "PegError" 189)),(some (.str "PegError" 197)),(some (.builtin "ValueError.__new__")),(some (.bool true))]⟩
def o13:Obj:=⟨.type "getset_descriptor",none,(.fields #[.str "__weakref__" 202,.ref 24,.builtin "ExceptionGroup.__weakref__",.none]),#[]⟩
def o14:Obj:=⟨.type "super",none,(.fields #[.ref 24,.ref 24,.ref 24]),#[]⟩
def o15:Obj:=⟨.type "builtin_function_or_method",none,(.fields #[.builtin "object.__init_subclass__",.ref 24]),#[]⟩
def UO:Obj:=⟨.type "tuple",none,(.seq #[.ref 24] 0),#[]⟩
def o17(P:fQ):Obj:=⟨.type "dict",none,(.dict #[en P "__module__" 214 (.str "pegleap.errors" 187),en P "__qualname__" 216 (.str "BadBoard" 215),en P "__firstlineno__" 218 (.int 4 217),en P "__static_attributes__" 219 (.ref 35)] 4),#[]⟩
def o18:Obj:=cO "BadBoard" "BadBoard" 209 4 0 0 31 false 32 .none .none .none 212
def o19:Obj:=⟨.type "frame",none,.plain,#[(some (.ref 33)),(some (.ref 3)),(some (.ref 30)),none,(some (.str "pegleap.errors" 187)),none,(some (.ref 0))]⟩
def o20(P:fQ):Obj:=⟨.type "dict",none,(.dict #[en P "__module__" 214 (.str "pegleap.errors" 187),en P "__firstlineno__" 218 (.int 4 217),en P "__static_attributes__" 219 (.ref 35),en P "__doc__" 220 .none] 2),#[]⟩
def o21:Obj:=⟨.type "type",none,(.cls ⟨"BadBoard",[.ref 24],[.ref 37,.ref 24,.type "ValueError",.type "Exception",.type "BaseException",.type "object"],36,"BadBoard",true,[],[],false,none,false⟩),#[(some (.ref 28)),none,(some (.str "BadBoard" 207)),(some (.str "BadBoard" 215)),(some (.builtin "ValueError.__new__")),(some (.bool true))]⟩
def o22:Obj:=⟨.type "super",none,(.fields #[.ref 37,.ref 37,.ref 37]),#[]⟩
def o23:Obj:=⟨.type "builtin_function_or_method",none,(.fields #[.builtin "object.__init_subclass__",.ref 37]),#[]⟩
def o24(P:fQ):Obj:=⟨.type "dict",none,(.dict #[en P "__module__" 230 (.str "pegleap.errors" 187),en P "__qualname__" 232 (.str "BadPegs" 231),en P "__firstlineno__" 234 (.int 6 233),en P "__static_attributes__" 235 (.ref 47)] 4),#[]⟩
def o25:Obj:=cO "BadPegs" "BadPegs" 225 6 0 0 43 false 44 .none .none .none 228
def o26:Obj:=⟨.type "frame",none,.plain,#[(some (.ref 45)),(some (.ref 3)),(some (.ref 42)),none,(some (.str "pegleap.errors" 187)),none,(some (.ref 0))]⟩
def o27(P:fQ):Obj:=⟨.type "dict",none,(.dict #[en P "__module__" 230 (.str "pegleap.errors" 187),en P "__firstlineno__" 234 (.int 6 233),en P "__static_attributes__" 235 (.ref 47),en P "__doc__" 236 .none] 2),#[]⟩
def o28:Obj:=⟨.type "type",none,(.cls ⟨"BadPegs",[.ref 24],[.ref 49,.ref 24,.type "ValueError",.type "Exception",.type "BaseException",.type "object"],48,"BadPegs",true,[],[],false,none,false⟩),#[(some (.ref 40)),none,(some (.str "BadPegs" 223)),(some (.str "BadPegs" 231)),(some (.builtin "ValueError.__new__")),(some (.bool true))]⟩
def o29:Obj:=⟨.type "super",none,(.fields #[.ref 49,.ref 49,.ref 49]),#[]⟩
def o30:Obj:=⟨.type "builtin_function_or_method",none,(.fields #[.builtin "object.__init_subclass__",.ref 49]),#[]⟩
def o31:Obj:=⟨.type "tuple",none,(.seq #[.str "cells" 248] 0),#[]⟩
def o32:Obj:=fZ (st 7)
def o33:Obj:=cO "is_rising" "is_rising" 245 11 1 3 52 true 53 (.ref 54) (.ref 55) (.ref 56) 249
def o34:Obj:=fO (st 7) 3 "pegleap.boards" 239 57
def o35:Obj:=⟨.type "tuple",none,(.seq #[.str "cell" 255] 0),#[]⟩
def o36:Obj:=fZ (st 8)
def o37:Obj:=cO "is_cell" "is_cell" 252 13 1 3 59 true 60 (.ref 61) (.ref 62) (.ref 63) 256
def o38:Obj:=fO (st 8) 3 "pegleap.boards" 239 64
def o39:Obj:=⟨.type "tuple",none,(.seq #[.str "cells" 262,.str "cell" 263] 0),#[]⟩
def o40:Obj:=fZ (st 9)
def o41:Obj:=cO "check_cells" "check_cells" 259 15 1 3 66 true 67 (.ref 68) (.ref 69) (.ref 70) 264
def o42:Obj:=fO (st 9) 3 "pegleap.boards" 239 71
def T1(P:fQ):BT:=(nd (boot_o_0 P) (nd (boot_o_1 P) (nd (o4 P) (nd (boot_o_7 P) (nd o6 (nd o0 (ly o36) .nil) (ly o0)) (nd (o11 P) (nd o23 (ly o41) .nil) (ly o0))) (nd o0 (nd o1 (nd o0 (ly o1) .nil) (ly o30)) (nd o15 (ly o0) (ly o0)))) (nd (boot_o_5 P) (nd (boot_o_9 P) (nd (o8 P) (nd o18 (ly o38) .nil) (ly o28)) (nd o13 (ly o7) (ly o33))) (nd o2 (nd o10 (nd o21 (ly o0) .nil) (ly o1)) (nd o7 (ly o25) (ly o35))))) (nd (boot_o_2 P) (nd (boot_o_4 P) (nd (boot_o_8 P) (nd o7 (nd o1 (ly o37) .nil) (ly (o27 P))) (nd o12 (nd UO (ly o42) .nil) (ly o32))) (nd o5 (nd o9 (nd (o20 P) (ly o39) .nil) (ly o0)) (nd UO (ly o1) (ly o1)))) (nd (boot_o_6 P) (nd (boot_o_10 P) (nd o0 (nd o19 (ly o0) .nil) (ly o29)) (nd o14 (ly (o24 P)) (ly o34))) (nd o3 (nd o0 (nd o22 (ly o40) .nil) (ly o31)) (nd (o17 P) (ly o26) (ly o0))))))
def S1(w:bN)(os:OsState):SharedT:=⟨T1 w.params,73,lf0,#[],⟨0,0,0,0⟩,267,os⟩
def o43(P:fQ):Obj:=⟨.type "dict",none,(.dict #[en P "__name__" 165 (.str "law_pegleap_k14_whole_reached_and_answered" 443),en P "__doc__" 166 .none,en P "__package__" 167 .none,en P "__loader__" 168 (.builtin "__main__.__loader__#opaque"),en P "__spec__" 169 .none,en P "__annotations__" 170 (.ref 6),en P "__builtins__" 171 (.ref 4),en P "__file__" 173 (.str "/claim/cut.py" 172),en P "__cached__" 174 .none,en P "PegError" 206 (.ref 24),en P "BadBoard" 222 (.ref 37),en P "BadPegs" 238 (.ref 49),en P "LAST" 242 (.int 7 241),en P "MOST_CELLS" 244 (.int 24 243),en P "is_rising" 251 (.ref 58),en P "is_cell" 258 (.ref 65),en P "check_cells" 266 (.ref 72),en P "Board" 295 (.ref 89),en P "check_pegs" 304 (.ref 100),en P "two_apart" 313 (.ref 107),en P "between" 321 (.ref 114),en P "leaps" 331 (.ref 121),en P "COLOURS" 335 (.int 3 334),en P "can_be_done" 343 (.ref 128),en P "pegs_behind" 349 (.ref 133),en P "odd_on" 355 (.ref 138),en P "class_of" 361 (.ref 143),en P "steps_from" 369 (.ref 148),en P "next_rows" 382 (.ref 155),en P "next_counts" 395 (.ref 162),en P "first_rows" 406 (.ref 169),en P "in_order" 412 (.ref 174),en P "reached" 420 (.ref 181),en P "answer" 430 (.ref 188),en P "row_count" 442 (.ref 195),en P "_law_cell_at" 452 (.ref 202),en P "_law_mix" 463 (.ref 209),en P "_law_cells_by" 478 (.ref 216),en P "_law_pegs_by" 484 (.ref 221),en P "law" 490 (.ref 226)] 40),#[]⟩
def o44:Obj:=⟨.none,none,(.fields #[.int 2 0,.int 0 0,.ref 20,.int 4 0,.int 0 0,.ref 33,.int 6 0,.int 0 0,.ref 45,.int 11 0,.int 0 0,.ref 57,.int 13 0,.int 0 0,.ref 64,.int 15 0,.int 0 0,.ref 71,.int 23 0,.int 0 0,.ref 78,.int 28 0,.int 0 0,.ref 99,.int 34 0,.int 0 0,.ref 106,.int 38 0,.int 0 0,.ref 113,.int 40 0,.int 0 0,.ref 120,.int 49 0,.int 0 0,.ref 127,.int 51 0,.int 0 0,.ref 132,.int 54 0,.int 0 0,.ref 137,.int 56 0,.int 0 0,.ref 142,.int 62 0,.int 0 0,.ref 147,.int 64 0,.int 0 0,.ref 154,.int 71 0,.int 0 0,.ref 161,.int 77 0,.int 0 0,.ref 168,.int 85 0,.int 0 0,.ref 173,.int 87 0,.int 0 0,.ref 180,.int 90 0,.int 0 0,.ref 187,.int 99 0,.int 0 0,.ref 194,.int 108 0,.int 0 0,.ref 201,.int 112 0,.int 0 0,.ref 208,.int 117 0,.int 0 0,.ref 215,.int 130 0,.int 0 0,.ref 220,.int 136 0,.int 0 0,.ref 225]),#[]⟩
def o45(P:fQ):Obj:=⟨.type "dict",none,(.dict #[en P "__module__" 274 (.str "pegleap.boards" 239),en P "__qualname__" 276 (.str "Board" 275),en P "__firstlineno__" 278 (.int 23 277),en P "__init__" 286 (.ref 86),en P "__static_attributes__" 288 (.ref 87)] 5),#[]⟩
def o46:Obj:=⟨.none,none,(.fields #[.int 25 0,.int 4 0,.ref 85]),#[]⟩
def o47:Obj:=cO "Board" "Board" 269 23 0 0 76 false 77 .none .none .none 272
def o48:Obj:=⟨.type "frame",none,.plain,#[(some (.ref 78)),(some (.ref 3)),(some (.ref 75)),none,(some (.str "pegleap.boards" 239)),none,(some (.ref 0))]⟩
def o49:Obj:=⟨.type "tuple",none,(.seq #[.str "self" 282,.str "cells" 283] 0),#[]⟩
def o50:Obj:=⟨.none,none,(fX (sc 10 0) "Board.__init__" 0 [] .none .none .none .none none .none .none 0),#[]⟩
def o51:Obj:=cO "__init__" "Board.__init__" 279 25 2 3 80 true 81 (.ref 82) (.ref 83) (.ref 84) 284
def o52:Obj:=⟨.type "function",none,(fX (sc 10 0) "Board.__init__" 3 [] .none .none .none (.str "pegleap.boards" 239) none (.ref 85) .none 0),#[]⟩
def o53:Obj:=⟨.type "tuple",none,(.seq #[.str "cells" 287] 0),#[]⟩
def o54(P:fQ):Obj:=⟨.type "dict",none,(.dict #[en P "__module__" 274 (.str "pegleap.boards" 239),en P "__firstlineno__" 278 (.int 23 277),en P "__init__" 286 (.ref 86),en P "__static_attributes__" 288 (.ref 87),en P "__dict__" 290 (.ref 90),en P "__weakref__" 292 (.ref 91),en P "__doc__" 293 .none] 4),#[]⟩
def o55:Obj:=⟨.type "type",none,(.cls ⟨"Board",[.type "object"],[.ref 89,.type "object"],88,"Board",true,[],[],false,none,false⟩),#[none,none,(some (.str "Board" 267)),(some (.str "Board" 275)),(some (.builtin "object.__new__")),(some (.bool true))]⟩
def o56:Obj:=⟨.type "getset_descriptor",none,(.fields #[.str "__dict__" 289,.ref 89,.builtin "function.__dict__",.builtin "function.__dict__#set"]),#[]⟩
def o57:Obj:=⟨.type "getset_descriptor",none,(.fields #[.str "__weakref__" 291,.ref 89,.builtin "ExceptionGroup.__weakref__",.none]),#[]⟩
def o58:Obj:=⟨.type "super",none,(.fields #[.ref 89,.ref 89,.ref 89]),#[]⟩
def o59:Obj:=⟨.type "builtin_function_or_method",none,(.fields #[.builtin "object.__init_subclass__",.ref 89]),#[]⟩
def o60:Obj:=⟨.type "tuple",none,(.seq #[.str "board" 299,.str "pegs" 300,.str "cell" 301] 0),#[]⟩
def o61:Obj:=fZ (st 11)
def o62:Obj:=cO "check_pegs" "check_pegs" 296 28 2 3 94 true 95 (.ref 96) (.ref 97) (.ref 98) 302
def o63:Obj:=fO (st 11) 3 "pegleap.boards" 239 99
def o64:Obj:=⟨.type "tuple",none,(.seq #[.str "cell" 308,.str "row" 309,.str "column" 310] 0),#[]⟩
def o65:Obj:=fZ (st 12)
def o66:Obj:=cO "two_apart" "two_apart" 305 34 1 3 101 true 102 (.ref 103) (.ref 104) (.ref 105) 311
def o67:Obj:=fO (st 12) 3 "pegleap.boards" 239 106
def o68:Obj:=⟨.type "tuple",none,(.seq #[.str "cell" 317,.str "other" 318] 0),#[]⟩
def o69:Obj:=fZ (st 13)
def o70:Obj:=cO "between" "between" 314 38 2 3 108 true 109 (.ref 110) (.ref 111) (.ref 112) 319
def o71:Obj:=fO (st 13) 3 "pegleap.boards" 239 113
def o72:Obj:=⟨.type "tuple",none,(.seq #[.str "board" 325,.str "found" 326,.str "first" 327,.str "second" 328] 0),#[]⟩
def o73:Obj:=fZ (st 14)
def o74:Obj:=cO "leaps" "leaps" 322 40 1 3 115 true 116 (.ref 117) (.ref 118) (.ref 119) 329
def o75:Obj:=fO (st 14) 3 "pegleap.boards" 239 120
def o76:Obj:=⟨.type "tuple",none,(.seq #[.str "pegs" 339,.str "leap" 340] 0),#[]⟩
def o77:Obj:=fZ (st 17)
def o78:Obj:=cO "can_be_done" "can_be_done" 336 49 2 3 122 true 123 (.ref 124) (.ref 125) (.ref 126) 341
def o79:Obj:=fO (st 17) 3 "pegleap.standings" 332 127
def o80:Obj:=fZ (st 18)
def o81:Obj:=cO "pegs_behind" "pegs_behind" 344 51 2 3 129 true 130 .none .none (.ref 131) 347
def o82:Obj:=fO (st 18) 3 "pegleap.standings" 332 132
def o83:Obj:=fZ (st 19)
def o84:Obj:=cO "odd_on" "odd_on" 350 54 2 3 134 true 135 .none .none (.ref 136) 353
def o85:Obj:=fO (st 19) 3 "pegleap.standings" 332 137
def o86:Obj:=fZ (st 20)
def o87:Obj:=cO "class_of" "class_of" 356 56 2 3 139 true 140 .none .none (.ref 141) 359
def o88:Obj:=fO (st 20) 3 "pegleap.standings" 332 142
def o89:Obj:=fZ (st 22)
def o90:Obj:=cO "steps_from" "steps_from" 364 62 2 3 144 true 145 .none .none (.ref 146) 367
def o91:Obj:=fO (st 22) 3 "pegleap.search" 362 147
def o92:Obj:=⟨.type "tuple",none,(.seq #[.str "all_leaps" 373,.str "layer" 374,.str "found" 375,.str "standing" 376,.str "row" 377,.str "leap" 378,.str "behind" 379] 0),#[]⟩
def o93:Obj:=fZ (st 23)
def o94:Obj:=cO "next_rows" "next_rows" 370 64 2 3 149 true 150 (.ref 151) (.ref 152) (.ref 153) 380
def o95:Obj:=fO (st 23) 3 "pegleap.search" 362 154
def o96:Obj:=⟨.type "tuple",none,(.seq #[.str "all_leaps" 386,.str "layer" 387,.str "found" 388,.str "standing" 389,.str "count" 390,.str "leap" 391,.str "behind" 392] 0),#[]⟩
def o97:Obj:=fZ (st 24)
def o98:Obj:=cO "next_counts" "next_counts" 383 71 2 3 156 true 157 (.ref 158) (.ref 159) (.ref 160) 393
def o99:Obj:=fO (st 24) 3 "pegleap.search" 362 161
def XE:Obj:=⟨.type "tuple",none,(.seq #[.str "board" 399,.str "pegs" 400,.str "all_leaps" 401,.str "found" 402,.str "layer" 403] 0),#[]⟩
def XF:Obj:=fZ (st 25)
def XG:Obj:=cO "first_rows" "first_rows" 396 77 2 3 163 true 164 (.ref 165) (.ref 166) (.ref 167) 404
def XH:Obj:=fO (st 25) 3 "pegleap.search" 362 168
def XI:Obj:=fZ (st 26)
def XJ:Obj:=cO "in_order" "in_order" 407 85 1 3 170 true 171 .none .none (.ref 172) 410
def XM:Obj:=fO (st 26) 3 "pegleap.search" 362 173
def XN:Obj:=⟨.type "tuple",none,(.seq #[.str "board" 416,.str "pegs" 417] 0),#[]⟩
def XO:Obj:=fZ (st 27)
def XQ:Obj:=cO "reached" "reached" 413 87 2 3 175 true 176 (.ref 177) (.ref 178) (.ref 179) 418
def XR:Obj:=fO (st 27) 3 "pegleap.search" 362 180
def XS:Obj:=⟨.type "tuple",none,(.seq #[.str "board" 424,.str "pegs" 425,.str "others" 426,.str "rows" 427] 0),#[]⟩
def XT:Obj:=fZ (st 28)
def XU:Obj:=cO "answer" "answer" 421 90 3 3 182 true 183 (.ref 184) (.ref 185) (.ref 186) 428
def XW:Obj:=fO (st 28) 3 "pegleap.search" 362 187
def XX:Obj:=⟨.type "tuple",none,(.seq #[.str "board" 434,.str "pegs" 435,.str "others" 436,.str "all_leaps" 437,.str "layer" 438,.str "leaps_done" 439] 0),#[]⟩
def XY:Obj:=fZ (st 29)
def XZ:Obj:=cO "row_count" "row_count" 431 99 3 3 189 true 190 (.ref 191) (.ref 192) (.ref 193) 440
def Y0:Obj:=fO (st 29) 3 "pegleap.search" 362 194
def Y3:Obj:=⟨.type "tuple",none,(.seq #[.str "script" 448,.str "k" 449] 0),#[]⟩
def Y4:Obj:=fZ (st 31)
def Y5:Obj:=cO "_law_cell_at" "_law_cell_at" 445 108 2 3 196 true 197 (.ref 198) (.ref 199) (.ref 200) 450
def Y6:Obj:=fO (st 31) 3 "law_pegleap_k14_whole_reached_and_answered" 443 201
def Y7:Obj:=⟨.type "tuple",none,(.seq #[.str "cell" 456,.str "k" 457,.str "many" 458,.str "some" 459,.str "number" 460] 0),#[]⟩
def Y8:Obj:=fZ (st 32)
def Y9:Obj:=cO "_law_mix" "_law_mix" 453 112 3 3 203 true 204 (.ref 205) (.ref 206) (.ref 207) 461
def Yb:Obj:=fO (st 32) 3 "law_pegleap_k14_whole_reached_and_answered" 443 208
def Yc:Obj:=⟨.type "tuple",none,(.seq #[.str "script" 467,.str "most" 468,.str "cell" 469,.str "height" 470,.str "width" 471,.str "down" 472,.str "across" 473,.str "some" 474,.str "k" 475] 0),#[]⟩
def Yd:Obj:=fZ (st 33)
def Ye:Obj:=cO "_law_cells_by" "_law_cells_by" 464 117 2 3 210 true 211 (.ref 212) (.ref 213) (.ref 214) 476
def Yg:Obj:=fO (st 33) 3 "law_pegleap_k14_whole_reached_and_answered" 443 215
def Yh:Obj:=fZ (st 34)
def Yi:Obj:=cO "_law_pegs_by" "_law_pegs_by" 479 130 2 3 217 true 218 .none .none (.ref 219) 482
def Yj:Obj:=fO (st 34) 3 "law_pegleap_k14_whole_reached_and_answered" 443 220
def Yk:Obj:=fZ (st 35)
def Yl:Obj:=cO "law" "law" 485 136 1 3 222 true 223 .none .none (.ref 224) 488
def Ym:Obj:=fO (st 35) 3 "law_pegleap_k14_whole_reached_and_answered" 443 225
def T2(P:fQ):BT:=(nd (boot_o_0 P) (nd (boot_o_1 P) (nd (o43 P) (nd (boot_o_7 P) (nd o6 (nd o0 (nd o36 (ly o78) (ly XX)) (nd o1 (ly o0) (ly o1))) (nd o0 (nd o48 (ly o88) (ly Y8)) (nd o0 (ly o0) .nil))) (nd (o11 P) (nd o23 (nd o41 (ly o1) (ly o0)) (nd o64 (ly XF) .nil)) (nd o0 (nd o53 (ly o92) (ly Ye)) (nd o73 (ly o1) .nil)))) (nd o0 (nd o1 (nd o0 (nd o1 (ly o80) (ly Y0)) (nd o62 (ly o0) .nil)) (nd o30 (nd o0 (ly o90) (ly o1)) (nd o0 (ly XO) .nil))) (nd o15 (nd o0 (nd (o45 P) (ly o0) (ly o0)) (nd o67 (ly o1) .nil)) (nd o0 (nd o57 (ly o95) (ly Yh)) (nd o1 (ly XU) .nil))))) (nd (boot_o_5 P) (nd (boot_o_9 P) (nd (o8 P) (nd o18 (nd o38 (ly o0) (ly XY)) (nd o0 (ly o98) (ly Yl))) (nd o28 (nd o1 (ly o1) (ly Yb)) (nd o70 (ly XN) .nil))) (nd o13 (nd o7 (nd o0 (ly o84) (ly Y5)) (nd o65 (ly XH) .nil)) (nd o33 (nd o55 (ly o93) (ly o0)) (nd o75 (ly o0) .nil)))) (nd o2 (nd o10 (nd o21 (nd o0 (ly o82) (ly o1)) (nd o0 (ly XE) .nil)) (nd o1 (nd o51 (ly o0) (ly o0)) (nd o72 (ly XR) .nil))) (nd o7 (nd o25 (nd o46 (ly o86) (ly Y7)) (nd o1 (ly XJ) .nil)) (nd o35 (nd o59 (ly o1) (ly Yj)) (nd o0 (ly o0) .nil)))))) (nd (boot_o_2 P) (nd (boot_o_4 P) (nd (boot_o_8 P) (nd o7 (nd o1 (nd o37 (ly o79) (ly o0)) (nd o60 (ly o97) (ly Yk))) (nd (o27 P) (nd o0 (ly o0) (ly Y9)) (nd o69 (ly o1) .nil))) (nd o12 (nd UO (nd o42 (ly o83) (ly Y4)) (nd o0 (ly XG) .nil)) (nd o32 (nd (o54 P) (ly o0) (ly Yg)) (nd o74 (ly XS) .nil)))) (nd o44 (nd o9 (nd (o20 P) (nd o39 (ly o81) (ly o0)) (nd o63 (ly o1) .nil)) (nd o0 (nd o50 (ly o91) (ly Yc)) (nd o1 (ly XQ) .nil))) (nd UO (nd o1 (nd o0 (ly o1) (ly o1)) (nd o0 (ly XI) .nil)) (nd o1 (nd o58 (ly o0) (ly Yi)) (nd o76 (ly XW) .nil))))) (nd (boot_o_6 P) (nd (boot_o_10 P) (nd o0 (nd o19 (nd o0 (ly o1) (ly XZ)) (nd o61 (ly o99) (ly Ym))) (nd o29 (nd o49 (ly o89) (ly o0)) (nd o71 (ly o0) .nil))) (nd o14 (nd (o24 P) (nd o7 (ly o85) (ly Y6)) (nd o66 (ly o0) .nil)) (nd o34 (nd o56 (ly o94) (ly o1)) (nd o0 (ly XT) .nil)))) (nd o3 (nd o0 (nd o22 (nd o40 (ly o0) (ly Y3)) (nd o1 (ly o0) .nil)) (nd o31 (nd o52 (ly o1) (ly Yd)) (nd o0 (ly o0) .nil))) (nd (o17 P) (nd o26 (nd o47 (ly o87) (ly o0)) (nd o68 (ly XM) .nil)) (nd o0 (nd o0 (ly o96) (ly o0)) (nd o77 (ly o1) .nil)))))))
def S2(w:bN)(os:OsState):SharedT:=⟨T2 w.params,227,lf0,#[],⟨0,0,0,0⟩,491,os⟩
def H1(P:fQ):aX:=⟨⟨[boot_o_0 P,boot_o_1 P,boot_o_2 P,o43 P,boot_o_4 P,boot_o_5 P,boot_o_6 P,boot_o_7 P,boot_o_8 P,boot_o_9 P,boot_o_10 P,o0,o44,o2,o3,o6,o7,o8 P,o0,o1,o9,o10,o0,o11 P,o12,o13,o14,o15,UO,o7,o17 P,o0,o1,o18,o19,o0,o20 P,o21,o22,o23,UO,o7,o24 P,o0,o1,o25,o26,o0,o27 P,o28,o29,o30,o0,o1,o31,o0,o32,o33,o34,o0,o1,o35,o0,o36,o37,o38,o0,o1,o39,o0,o40,o41,o42,o0,o7,o45 P,o0,o46,o47,o48,o0,o1,o49,o0,o50,o51,o52,o53,o54 P,o55,o56,o57,o58,o59,o0,o1,o60,o0,o61,o62,o63,o0,o1,o64,o0,o65,o66,o67,o0,o1,o68,o0,o69,o70,o71,o0,o1,o72,o0,o73,o74,o75,o0,o1,o76,o0,o77,o78,o79,o0,o1,o80,o81,o82,o0,o1,o83,o84,o85,o0,o1,o86,o87,o88,o0,o1,o89,o90,o91,o0,o1,o92,o0,o93,o94,o95,o0,o1,o96,o0,o97,o98,o99,o0,o1,XE,o0,XF,XG,XH,o0,o1,XI,XJ,XM,o0,o1,XN,o0,XO,XQ,XR,o0,o1,XS,o0,XT,XU,XW,o0,o1,XX,o0,XY,XZ,Y0,o0,o1,Y3,o0,Y4,Y5,Y6,o0,o1,Y7,o0,Y8,Y9,Yb,o0,o1,Yc,o0,Yd,Ye,Yg,o0,o1,Yh,Yi,Yj,o0,o1,Yk,Yl,Ym]⟩,lf0⟩
def env:Env:={ scope:=pq.main.scope,locals:=mainNs,globals:=mainNs,cells:=[],code:=(.ref 13),frame:=some 14 }
abbrev bE:List bw:=behindTheImports pq
def cE:Code:= .body bE env
abbrev fp:Pos:=⟨0,0,0,0⟩
abbrev B:List Frame:=[topFrame fp]
theorem pre(w:bN)(os:OsState):topGo treeTable pq w 11 (some (.ref 6)) 12 ⟨boot_heap w.params,#[],boot_drawn,boot_toks,os⟩ (topStub pq)=some (⟨Ha w.params,#[],⟨0,0,0,0⟩,187,os⟩,⟨denote treeTable cE,cE,⟨0,0,0,0⟩,B⟩):=by kernel_rfl
theorem block(w:bN)(os:OsState):segRun treeTable pq w 11 (some (.ref 6)) 1 1 ⟨Ha w.params,#[],⟨0,0,0,0⟩,187,os⟩ (blockOf bE env cE ⟨0,0,0,0⟩ B)=some (.next,(S0 w os).abs,cE,⟨0,0,0,0⟩):=by kernel_rfl
def g0:List bw:=tk 10 (dr 0 bE)
theorem r0(w:bN)(os:OsState):segRunT treeTable pq w 11 (some (.ref 6)) 1 737 (S0 w os) (piecesOf g0 env cE ⟨0,0,0,0⟩ B)=some (.next,S1 w os,cE,⟨15,0,22,67⟩):=by kernel_rfl
def g1:List bw:=tk 26 (dr 10 bE)
theorem r1(w:bN)(os:OsState):segRunT treeTable pq w 11 (some (.ref 6)) 1 894 (S1 w os) (piecesOf g1 env cE ⟨15,0,22,67⟩ B)=some (.next,S2 w os,cE,⟨136,0,153,15⟩):=by kernel_rfl
theorem fin(w:bN)(os:OsState):topRun treeTable pq w 11 (some (.ref 6)) 2 (S2 w os).abs ⟨doneF .next,cE,⟨136,0,153,15⟩,B⟩=some ⟨H1 w.params,#[],⟨0,0,0,0⟩,491,os⟩:=by kernel_rfl
theorem hb:bE=(g0++(g1++[])):=by kernel_rfl
theorem run(w:bN)(os:OsState):topRun treeTable pq w 11 (some (.ref 6)) (12+(1+(737+(894+2)))) ⟨boot_heap w.params,#[],boot_drawn,boot_toks,os⟩ (topStub pq)=some ⟨H1 w.params,#[],⟨0,0,0,0⟩,491,os⟩:=
  go_top (pre w os) (piece_block (block w os) (TH hb (piece_app (segRun_of (r0 w os)) (piece_app (segRun_of (r1 w os)) (piece_nil (fin w os))))))
def K(P:fQ):Frag:=(nat_lit 0,boot_o_0 P)::(nat_lit 1,boot_o_1 P)::(nat_lit 2,boot_o_2 P)::(nat_lit 3,o43 P)::(nat_lit 4,boot_o_4 P)::(nat_lit 5,boot_o_5 P)::(nat_lit 6,boot_o_6 P)::(nat_lit 7,boot_o_7 P)::(nat_lit 8,boot_o_8 P)::(nat_lit 9,boot_o_9 P)::(nat_lit 10,boot_o_10 P)::(nat_lit 11,o0)::(nat_lit 12,o44)::(nat_lit 13,o2)::(nat_lit 14,o3)::(nat_lit 15,o6)::(nat_lit 22,o0)::(nat_lit 23,o11 P)::(nat_lit 24,o12)::(nat_lit 25,o13)::(nat_lit 28,UO)::(nat_lit 35,o0)::(nat_lit 36,o20 P)::(nat_lit 37,o21)::(nat_lit 40,UO)::(nat_lit 47,o0)::(nat_lit 48,o27 P)::(nat_lit 49,o28)::(nat_lit 52,o0)::(nat_lit 53,o1)::(nat_lit 54,o31)::(nat_lit 55,o0)::(nat_lit 56,o32)::(nat_lit 57,o33)::(nat_lit 58,o34)::(nat_lit 59,o0)::(nat_lit 60,o1)::(nat_lit 61,o35)::(nat_lit 62,o0)::(nat_lit 63,o36)::(nat_lit 64,o37)::(nat_lit 65,o38)::(nat_lit 66,o0)::(nat_lit 67,o1)::(nat_lit 68,o39)::(nat_lit 69,o0)::(nat_lit 70,o40)::(nat_lit 71,o41)::(nat_lit 72,o42)::(nat_lit 80,o0)::(nat_lit 81,o1)::(nat_lit 82,o49)::(nat_lit 83,o0)::(nat_lit 84,o50)::(nat_lit 85,o51)::(nat_lit 86,o52)::(nat_lit 87,o53)::(nat_lit 88,o54 P)::(nat_lit 89,o55)::(nat_lit 90,o56)::(nat_lit 91,o57)::(nat_lit 94,o0)::(nat_lit 95,o1)::(nat_lit 96,o60)::(nat_lit 97,o0)::(nat_lit 98,o61)::(nat_lit 99,o62)::(nat_lit 100,o63)::(nat_lit 101,o0)::(nat_lit 102,o1)::(nat_lit 103,o64)::(nat_lit 104,o0)::(nat_lit 105,o65)::(nat_lit 106,o66)::(nat_lit 107,o67)::(nat_lit 108,o0)::(nat_lit 109,o1)::(nat_lit 110,o68)::(nat_lit 111,o0)::(nat_lit 112,o69)::(nat_lit 113,o70)::(nat_lit 114,o71)::(nat_lit 115,o0)::(nat_lit 116,o1)::(nat_lit 117,o72)::(nat_lit 118,o0)::(nat_lit 119,o73)::(nat_lit 120,o74)::(nat_lit 121,o75)::(nat_lit 122,o0)::(nat_lit 123,o1)::(nat_lit 124,o76)::(nat_lit 125,o0)::(nat_lit 126,o77)::(nat_lit 127,o78)::(nat_lit 128,o79)::(nat_lit 129,o0)::(nat_lit 130,o1)::(nat_lit 131,o80)::(nat_lit 132,o81)::(nat_lit 133,o82)::(nat_lit 134,o0)::(nat_lit 135,o1)::(nat_lit 136,o83)::(nat_lit 137,o84)::(nat_lit 138,o85)::(nat_lit 139,o0)::(nat_lit 140,o1)::(nat_lit 141,o86)::(nat_lit 142,o87)::(nat_lit 143,o88)::(nat_lit 144,o0)::(nat_lit 145,o1)::(nat_lit 146,o89)::(nat_lit 147,o90)::(nat_lit 148,o91)::(nat_lit 149,o0)::(nat_lit 150,o1)::(nat_lit 151,o92)::(nat_lit 152,o0)::(nat_lit 153,o93)::(nat_lit 154,o94)::(nat_lit 155,o95)::(nat_lit 156,o0)::(nat_lit 157,o1)::(nat_lit 158,o96)::(nat_lit 159,o0)::(nat_lit 160,o97)::(nat_lit 161,o98)::(nat_lit 162,o99)::(nat_lit 163,o0)::(nat_lit 164,o1)::(nat_lit 165,XE)::(nat_lit 166,o0)::(nat_lit 167,XF)::(nat_lit 168,XG)::(nat_lit 169,XH)::(nat_lit 170,o0)::(nat_lit 172,XI)::(nat_lit 173,XJ)::(nat_lit 174,XM)::(nat_lit 175,o0)::(nat_lit 176,o1)::(nat_lit 177,XN)::(nat_lit 178,o0)::(nat_lit 179,XO)::(nat_lit 180,XQ)::(nat_lit 181,XR)::(nat_lit 182,o0)::(nat_lit 183,o1)::(nat_lit 184,XS)::(nat_lit 185,o0)::(nat_lit 186,XT)::(nat_lit 187,XU)::(nat_lit 188,XW)::(nat_lit 189,o0)::(nat_lit 190,o1)::(nat_lit 191,XX)::(nat_lit 192,o0)::(nat_lit 193,XY)::(nat_lit 194,XZ)::(nat_lit 195,Y0)::(nat_lit 196,o0)::(nat_lit 197,o1)::(nat_lit 198,Y3)::(nat_lit 199,o0)::(nat_lit 200,Y4)::(nat_lit 201,Y5)::(nat_lit 202,Y6)::(nat_lit 203,o0)::(nat_lit 204,o1)::(nat_lit 205,Y7)::(nat_lit 206,o0)::(nat_lit 207,Y8)::(nat_lit 208,Y9)::(nat_lit 209,Yb)::(nat_lit 210,o0)::(nat_lit 211,o1)::(nat_lit 212,Yc)::(nat_lit 213,o0)::(nat_lit 214,Yd)::(nat_lit 215,Ye)::(nat_lit 216,Yg)::(nat_lit 217,o0)::(nat_lit 218,o1)::(nat_lit 219,Yh)::(nat_lit 220,Yi)::(nat_lit 221,Yj)::(nat_lit 222,o0)::(nat_lit 223,o1)::(nat_lit 224,Yk)::(nat_lit 225,Yl)::(nat_lit 226,Ym)::[]
abbrev as:List av:=[171,0,1,2,3,4,5,6,7,8,9,10,11,12,13,14,15,22,23,24,25,28,35,36,37,40,47,48,49,52,53,54,55,56,57,58,59,60,61,62,63,64,65,66,67,68,69,70,71,72,80,81,82,83,84,85,86,87,88,89,90,91,94,95,96,97,98,99,100,101,102,103,104,105,106,107,108,109,110,111,112,113,114,115,116,117,118,119,120,121,122,123,124,125,126,127,128,129,130,131,132,133,134,135,136,137,138,139,140,141,142,143,144,145,146,147,148,149,150,151,152,153,154,155,156,157,158,159,160,161,162,163,164,165,166,167,168,169,170,172,173,174,175,176,177,178,179,180,181,182,183,184,185,186,187,188,189,190,191,192,193,194,195,196,197,198,199,200,201,202,203,204,205,206,207,208,209,210,211,212,213,214,215,216,217,218,219,220,221,222,223,224,225,226]
abbrev q:dh:=view PySem.Challenge.pw_pegleap_k14_whole_reached_and_answered [1,2,3,5,6,7,8,9,10,11,12,13,14,16,17,18,19,20,22,23,24,25,26,27,28,29,31,32,33,34,35]
abbrev loose:List Str:=[]
abbrev lv:List (Str×WData):=[]
def dL:DefRec:=match st 35 with | .FunctionDef n a b _ _ _ sc _ _ ps=>⟨n,a,b,sc,ps⟩ | _=>⟨default,default,[],default,⟨0,0,0,0⟩⟩
theorem ws:PySem.Challenge.rw_pegleap_k14_whole_reached_and_answered.wellSaid=true:=by kernel_rfl
theorem size(w:bN):((boot_heap w.params).isNs dz&&(#[]:Array GenState).size==0,(boot_heap w.params).objs.size,(boot_heap w.params).nsMap dz "__annotations__")=(true,11,(some (.ref 6))):=by kernel_rfl
theorem an8(w:bN):(fun os=>((staticsOk (importedModules pq.main.body) (boot_heap w.params) (H1 w.params)&&namesBound pq (H1 w.params)&&gensDone ⟨H1 w.params,#[],⟨0,0,0,0⟩,491,os⟩&&laidKept (boot_heap w.params) (H1 w.params)),openSeen q loose (importedModules pq.main.body) (fun s=>xlAt q lv s&&recOk (RowW.records (OpenRow.toRowW (OpenLaw.row PySem.Challenge.rw_pegleap_k14_whole_reached_and_answered))) s) true ⟨H1 w.params,#[],⟨0,0,0,0⟩,491,os⟩,(fun s:az=>as.map s.heap.get?) ⟨H1 w.params,#[],⟨0,0,0,0⟩,491,os⟩))=fun _=>(true,openGood q loose,(fun w:bN=>(((nat_lit 171,o1)::K w.params)).map fun p=>some p.2) w):=by kernel_rfl
theorem hl:LeftO pq q loose (fun s=>xlAt q lv s&&recOk (RowW.records (OpenRow.toRowW (OpenLaw.row PySem.Challenge.rw_pegleap_k14_whole_reached_and_answered))) s) (fun s:az=>as.map s.heap.get?) (fun w:bN=>(((nat_lit 171,o1)::K w.params)).map fun p=>some p.2) 3384:=
  LeftO.of_pieces (boot_open (by kernel_rfl) (by kernel_rfl) (fun s=>by kernel_rfl)) size run (by kernel_rfl) an8
end Hd
end
open PySem PySem.W PyProof.Rows
set_option maxRecDepth 100000 in
set_option maxHeartbeats 0 in
theorem PySem.Challenge.cw_pegleap_k14_whole_reached_and_answered_holds : PySem.Challenge.rw_pegleap_k14_whole_reached_and_answered.Holds := by
  refine holds_law Hd.ws fun aE0=> ?_
  refine holds_openX (r:=OpenLaw.row PySem.Challenge.rw_pegleap_k14_whole_reached_and_answered) (d:=Hd.dL) (kwd:=[]) Hd.hl (fun s e=>xl_of s (Bool.and_eq_true_iff.mp e).1) XL.keeps (by kernel_rfl) (by kernel_rfl) (by kernel_rfl) (fun s e=>recFacts_of (Bool.and_eq_true_iff.mp e).2) (by kernel_rfl) aE0 (by kernel_rfl) ⟨rfl,rfl,rfl,rfl,rfl,by kernel_rfl⟩ ?hw ?hc
  (case hw=>w_on;w_witness2)
  k_fill
  refine Pk.am5 (l:=PySem.Challenge.rw_pegleap_k14_whole_reached_and_answered) (K:=fun P=>(nat_lit 171,Hd.o1)::Hd.K P) (K1:=Hd.K) (T0:=171) (by kernel_rfl) (by kernel_rfl) (fun _=>by kernel_rfl) (fun _=>by kernel_rfl) (fun _=>by kernel_rfl) (fun _=>⟨173,by kernel_rfl⟩) ?F
  case F=>
    intro w mg fa h KX G hmg
    exact Pk.am4 (h:=h) hmg ⟨⟨_,_,_,_,171,_,_,_⟩,⟨Dm.wC KX G,Dm.wC KX G,Dm.wC KX G,Dm.wC KX G,Dm.wC KX G,Dm.wC KX G,Dm.wC KX G,Dm.wC KX G,Dm.wC KX G,Dm.wC KX G,Dm.wC KX G,Dm.wC KX G,Dm.wC KX G,Dm.wC KX G,Dm.wC KX G,Dm.wC KX G,Dm.wC KX G,Dm.wC KX G,Dm.wC KX G,Dm.wC KX G,Dm.wC KX G,Dm.wC KX G,Dm.wC KX G,Dm.wC KX G,Dm.UE KX G,Dm.UE KX G,Dm.UE KX G,Dm.UE KX G,Dm.UE KX G,Dm.UE KX G,Dm.UE KX G,Dm.UE KX G,Dm.WT KX G,Dm.WT KX G,Dm.WT KX G,Dm.WT KX G,Dm.WT KX G,Dm.WT KX G,Dm.WT KX G,by kernel_rfl,by kernel_rfl,Dm.aB8 KX G,Dm.bmS KX G,by decide,Dm.clS,Dm.naS,Dm.inS⟩,rfl⟩ (fun t ns hl=>Pk.an7 t ns)
end XC
