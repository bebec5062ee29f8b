import PyProof.Rows.All
import Wide.All
import OpenK.AllK
import Wide.FinOn
import PySem.Challenge.RW_pegleap_k11_papers_looked_at
import Lean
import PyProof.EqAt
import PyProof.EqKinds
import PyProof.TupleCall
import KE.KIsAll
import PyProof.ExcAttrAll.ValueError
import OpenK.KDescr
import PyProof.NeKinds
import PySem.SetOps
import PyProof.ZipIter
import KE.KDictOf
import PyProof.AttrMissHeap
import PyProof.FactsAll.zip_1
import PyProof.DictRoadsH
import PyProof.TupleKey
import PyProof.EnumMake
import PyProof.ConsumeWalk
import PyProof.FactsAll.list_3
import PyProof.SumWalkG
import PyProof.WalkInts
import PyProof.SeqI3
import PyProof.DictUpdate
import PyProof.DictItems
import PyProof.Rows.TupDisplay
import PyProof.DictIter
import PyProof.DictWalks
import PyProof.Conv_int_bool
import PyProof.ReprReads
import PyProof.ReprNest
import PyProof.ReprLen
import Open.Pieces
set_option hygiene false
set_option compiler.extract_closed false
set_option Elab.async false
set_option linter.all false
set_option maxRecDepth 100000
set_option maxHeartbeats 4000000
local macro_rules|`(tactic|walk_at"a")=>`(tactic|(refine cj zz fun A st r q=>?_;clear zz;refine⟨A,st,r,?_⟩))
local macro_rules|`(tactic|walk_at"b")=>`(tactic|(rw[hf]at q;exact q))
local macro_rules|`(tactic|walk_at"c")=>`(tactic|(obtain rfl:=aT))
local macro_rules|`(tactic|walk_at"d")=>`(tactic|(exact fun H' e'=>q σ H' A (r.mono e') (aK e')))
local macro_rules|`(tactic|walk_at"e")=>`(tactic|(intro X hP hw hK hc i ak s σ H E I hf st hg;subst hP hw hK))
local macro_rules|`(tactic|walk_at"f")=>`(tactic|(intro x H1 e1 w1;refine⟨A,st,r.mono e1,?_⟩;dsimp only at q))
local macro_rules|`(tactic|walk_at"g")=>`(tactic|(exact fun H' e'=>q H' (e1.trans e')))
local macro_rules|`(tactic|walk_at"h")=>`(tactic|(refine aL (iY w) fun v fW w1=>?_;obtain rfl:=fW;refine b7 w1.items fun p ys aT s t=>?_))
local macro_rules|`(tactic|walk_at"i")=>`(tactic|(rw[hg]at q;exact fun sU H2 A2 r2 e2=>q sU H2 A2 r2 (e'.trans e2)))
noncomputable section
section
open PySem PySem.Spec PySem.W PyProof.Rows
abbrev aU3:=@if_pos
abbrev aU4:=@if_neg
abbrev aU5:=@decide_eq_true
abbrev aU6:=@decide_eq_false
abbrev aU7:=@beq_iff_eq
abbrev aU8:=@decide_eq_true_eq
abbrev aU9:=@of_decide_eq_true
abbrev aV0:=@beq_eq_false_iff_ne
abbrev aV1:=@if_false
abbrev aV2:=@if_true
abbrev aV3:=@or_false
abbrev aV4:=@beq_self_eq_true
abbrev aV5:=@absurd
abbrev aV6:=@bne_self_eq_false
abbrev aV7:=@of_decide_eq_false
end
open PySem.W (Frag)
open PySem renaming Value->au,World->bF,Program->cP,Addr->av,Heap->aN,sizeLine->bO,sysModules->tX,entryOfKey->Cg,mainGlobals->gU,bootBuiltins->gY,Around->bP,Shared->ay,Scope->iV,wpAny->aC,Expr->bf,model->aF,starEach->bJ,Stmt->aW,wpAny_mono->gv,wpAny_Name->Lr,wpAny_truthy_bool->vc,wpAny_execs_nil->Ci,wpAny_execs_cons->Ls,assignEach->qB,wpAny_assign_Name->Vf,wpAny_bind->aq,wpAny_holding->jg,wpAny_standAt->yL,wpAny_pure->aG,wpAny_newObj_type->qC,wpAny_rule->yM,wpAny_bindName->Cj,wpAny_passesOwn->vd,wpAny_pyNext_list_item->Vg,wpAny_pyNext_list_end->Vh,wpAny_pyIter_list->Ck,foldedSetIterable->qD,compareOp->gZ,sizeLine_eq->gC,attributeBase->rW,FuncData->eZ,mem_of_lookup->ve,codeAny_call_function->Lu,wpAny_newFunctionEnv_cells->Lv,wpAny_Call_Name_kw->rX,evalPart_none->EL,seqIndex_of->EM,seqIndex_neg->EN,slot_list_getitem->EO,wpAny_getItem_list_slice->Lw,typeIs_int->ER,call_meets->vf,codeAny_mono->rY,Params->dI,wpAny_field->lW,wpAny_setField->rZ,wpAny_call->ES,wpAny_loadPart_at->Lx,wpAny_newList->ET,wpAny_forIn_list->q8,wpAny_call_entry->jM,SetTable->gD,wpAny_setState_of->Ly,putSet_of->zZ,wpAny_of_eq->vg,wpAny_storeSet_of->Lz,codeAny_builtin->kO,plainId_quiet->EU,wpAny_askSetting->EV,typeLookup_type->EW,builtinLookup_eq_fast->EX,entryFor_of_tree->EY,wpAny_pyIter_slot->LA,wpAny_attempt->s8,wpAny_callSpecial?_slot->sd,wpAny_fieldsOf->A0,firstArgMember->A7,wpAny_isInstance->sf,isSubtype_stop->EZ,wpAny_specialOf->sj,wpAny_typeOf->vh,wpAny_seqItems->su,wpAny_comprehension_free->LB,wpAny_nextOf_list_item->LC,wpAny_notOrdered_dict->LD,wpAny_tupleItemsOf->F0,isSubtype_tuple_tuple->LF,wpAny_pyIter_enum->LG,wpAny_dictEntries->F1,wpAny_dictEpoch->F2,wpAny_typeNameOfWhole_keyiter->A8,wpAny_typeNameOf_keyiter->A9,wpAny_isOneOf_keyiter->LH,tupleText_len_le->LI
open PySem.Value renaming int->uy,str->R6,isInt_shape->ab5,none->gR,ref->f7,type->l8
open PySem.W renaming instObj->tY,hideAll->yN,hideAll_get->LJ,of_hideAll->HW,hideAll_none->Vi,Frag->aD,findIn->vj,emptyDict->qE,keepIn->sy,cellsFrom_some->F3,fnOf->lY,codeRec_of->LK,callWith_K->LL,kia_one->sA
open PySem.Heap renaming lt_size->bQ,SameBut->jh,get?_push_of_some->bV,get?_push_size->fJ,size_push->qF,get?_update_self->nt,get?_update_other->Aa
open Nat renaming lt_of_lt_of_le->gV,lt_irrefl->qG,ne_of_lt->cu,le_trans->f9,le_of_lt->pR,ne_of_gt->HX,le_refl->b9,le_of_eq->Vj,lt_succ_self->mS,zero_le->ie,succ_mul->F4,add_comm->F5,mul_comm->LM,le_of_not_lt->nu,le_succ->Ab,not_lt_zero->iE,min_self->F6,lt_of_le_of_lt->Ac,le_add_right->nv,zero_add->vm,pow_succ->LN,mod_lt->q9,succ_pos->sC,div_eq_of_lt->LO,lt_or_eq_of_le->LP,lt_trichotomy->sD,min_eq_left->F7,add_sub_cancel->LQ,lt_succ_of_lt->ny,add_assoc->vn,lt_of_succ_lt->LR,add_mul->F8,lt_trans->LS,min_eq_right->LU,mul_le_mul_right->LV,pow_le_pow_right->LW,mul_le_mul_left->F9
open List renaming range->cY,mem_filter->pS,mem_range->nB,filterMap_cons->HY,mem_cons_self->tZ,mem_cons_of_mem->nC,mem_cons->bD,mem_append->gW,mem_append_left->Cm,getElem?_eq_some_iff->fV,getElem?_set_self->l9,getElem?_set_ne->kF,mem_filterMap->Cn,mem_append_right->mT,length_cons->cI,lookup->vo,map_cons->bh,length_map->bL,append_nil->qc,nodup_cons->jN,of_mem_zip->vp,replicate->cg,length_take->kP,getElem?_append_right->kQ,getElem?_replicate->qd,getElem?_append_left->kR,getElem?_map->cG,getElem?_take_of_lt->Ad,take_sublist->LX,mem_of_getElem?->jO,length_append->fj,length_replicate->Fe,length_drop->Ff,size_toArray->d7,reverse_cons->Ae,replicate_succ->qe,flatten_cons->sE,append_assoc->vq,foldl_cons->LY,length_singleton->vt,nil_append->gF,map_nil->jq,filterMap_cons_some->LZ,exists_cons_of_length_eq_add_one->sF,pairwise_iff_getElem->vv,length_range->M0,map_congr_left->vz,append_inj->M1,cons_append->Af,zip_cons_cons->sG,countP_cons->vA,mem_iff_getElem->jP,pairwise_map->Fg,all_eq_true->iZ,take_of_length_le->qf,getElem?_cons_succ->Fi,getElem?_eq_getElem->c7,pairwise_lt_range->M3,ext_getElem?->Fj,getElem?_range->Ag,getElem?_eq_none->nD,getElem_mem->jQ,mem_map->aX,map_map->cU,take_append_drop->Fl,perm_middle->M4,nodup_iff_pairwise_ne->nE,getElem_map->sH,map_append->qg,map_take->Fo,map_drop->Fp,nodup_nil->Fq,length_eq_zero_iff->M5,drop_eq_getElem_cons->Ft,eraseIdx_eq_take_drop_succ->M6,isEmpty_nil->Fv,length_nil->Ah,take_succ_cons->M7,drop_succ_cons->M8,any_cons->vB,mem_singleton->eG,getElem?_eq_none_iff->lZ,mem_of_mem_take->sI,mem_of_mem_drop->Fw,mapM_cons->Fx,perm_ext_iff_of_nodup->Ai,drop_length->M9,not_mem_nil->eK,forIn_cons->Ma,forIn_nil->Mb,map_fst_zip->Mc,getElem?_toArray->Me,lookup_cons->Mf,getElem?_mapIdx->Fy,mem_flatten->Mg,map_flatMap->Mh,flatMap_map->Mi,findIdx?_cons->Fz,length_pos_iff->Aj,flatMap_cons->FA,flatMap_append->Ak,length_reverse->Mj,mem_reverse->Ml,getD_eq_getElem?_getD->Mm,map_id->Al,filter_cons_of_pos->Mn,filter_cons_of_neg->Mp,pairwise_cons->vC,filter_sublist->kT,mem_erase_of_ne->Mq,length_erase_of_mem->Mr,length_pos_of_mem->FE,zipIdx_map_fst->Ms,length_filter_le->m6,filter_append->FF,nodup_append->FG,idxOf_lt_length_of_mem->FH,map_set->Mt,mem_or_eq_of_mem_set->FI,any_map->Mu,any_eq_true->Mv,map_replicate->Mw
open Ne renaming symm->fm
open Option.some renaming inj->dN
open PySem.Calls renaming Constant_str->Vk,Name_function_global->Vl,spliced_nil->Mx,spliced_cons->My,evalArgs_plain->Mz
open Array renaming length_toList->fK,mem_toList_iff->vD,getElem?_eq_some_iff->sJ,getD_eq_getD_getElem?->ig,toList_inj->Am,toList_map->MA,getElem?_toList->nF,getElem?_eq_none->An,getElem?_eq_none_iff->MB,getElem?_eq_getElem->MC,any_toList->Ao,forIn_toList->sM
open PyProof.Rows renaming assignInOrder_nil->MD,assignInOrder_cons->yO,unpackItems_tuple->Vm,callWith_type1->Co,callWith_builtin1->W7,lt_int->W8,Subscript_->FJ,subscriptTail_builtinR->ME,SortKind->qh,seqObj->j0,listUpdate_at->FL,seqEpoch_at->FN,seqObj->dR,listUpdate_at->FO,get?_update_seq->FP,entry_proto_collect'->W9,entry_list_iadd'->Wa
open PyProof.Rows.IsTup renaming new->MF
open Bool renaming false_ne_true->iW,and_eq_true->bM,not_eq_true'->Aq,and_true->sN,and_false->FQ,eq_false_iff->qi,false_eq_true->cJ,or_eq_true->nG,not_true->j3,not_false->FT,true_and->Ar,not_eq_true->As,false_or->MG,eq_iff_iff->jr,not_eq_false'->MH
open PySem.W.Looks renaming here->ab6
open PySem.Within renaming cons->ab7
open Option renaming isSome_iff_exists->MI,getD_none->MJ,map_eq_some_iff->MK
open False renaming elim->iu
open PySem.Heap.IsSliceOf renaming new->ML
open PySem.Obj renaming mapSeq->fq,isFreed_of_fields->Au,data_mapFields->sO,cls_mapFields->FU
open PySem.F renaming slot_int_rmul->MM,plain_set_new->MN,called_set->nI,slot_set_iter->MO,slot_tuple_hash->MP,slot_zip_next->Av,entry_zip_next->MQ,args_zip_next_1->MR,slot_zip_getattribute->FW,slot_tuple_eq->FY,slot_list_index->MS,plainAttrs_list->MT,slot_dict_iter->MU,slot_dict_keyiterator_next->vE,entry_dict_keyiterator_next->MV,args_dict_keyiterator_next_1->MW
open Or renaming inl->fu,inr->fz
open PySem.Heap.UpToSlots renaming of_keeps->Wb
open Nat.succ renaming inj->eO
open PySem.Heap.SameBut renaming update->jt
open List.Perm renaming eq_of_pairwise->FZ
open List.cons renaming inj->MX
open PySem.SetTable renaming insertAt->iF
open List.Pairwise renaming filterMap->Wc,map->nJ,sublist->Wd
open PyProof.Rows.F renaming entry_set_update_loop->MY,plain_set_update_loop->G5
open PySem.Around renaming under_plainId->qj
open PySem.Code renaming quiet_builtin->vF
open PySem.Str renaming ofString->sP
open Int renaming toNat_natCast->qk,zero_add->MZ,eq_ofNat_of_zero_le->G6,mul_nonneg->N1,mul_le_mul->N2,emod_nonneg->vG,emod_lt_of_pos->Aw,mul_ediv_add_emod->N3,ediv_nonneg->N4,ediv_lt_of_lt_mul->N5
open Decidable renaming byContradiction->Ax
open PySem.Expr renaming Subscript->sQ
open ForInStep renaming yield->kU
open PySem.Heap.DictOfH renaming new->We
open Prod renaming ext->ju
open PySem.Builtin.Tuple renaming tupleHashOf->Ay
open PySem.Walks renaming list->G7
open PySem.Builtin.Dict renaming showsAll->N6
open PySem.Builtin.Dict_items renaming ownsTuple->N7
open Prod.mk renaming injEq->vH
section aB6
def qH{p0 p1 p2:Prop}{G:Prop}(h:p0/\p1/\p2)(f:p0->p1->p2->G):G:=f h.1 h.2.1 h.2.2
def aL{jG:Sort _}{p0 p1:jG->Prop}{G:Prop}(h:∃a0,p0 a0/\p1 a0)(f:∀a0,p0 a0->p1 a0->G):G:=h.elim fun a0 h=>f a0 h.1 h.2
def pJ{jG lB:Sort _}{p0:jG->lB->Prop}{G:Prop}(h:∃a0 a1,p0 a0 a1)(f:∀a0 a1,p0 a0 a1->G):G:=h.elim fun a0 h=>h.elim fun a1 h=>f a0 a1 h
def Az{p0 p1 p2 p3:Prop}{G:Prop}(h:p0/\p1/\p2/\p3)(f:p0->p1->p2->p3->G):G:=f h.1 h.2.1 h.2.2.1 h.2.2.2
def bK{jG:Sort _}{p0 p1 p2:jG->Prop}{G:Prop}(h:∃a0,p0 a0/\p1 a0/\p2 a0)(f:∀a0,p0 a0->p1 a0->p2 a0->G):G:=h.elim fun a0 h=>f a0 h.1 h.2.1 h.2.2
def cj{jG lB:Sort _}{p0 p1:jG->lB->Prop}{G:Prop}(h:∃a0 a1,p0 a0 a1/\p1 a0 a1)(f:∀a0 a1,p0 a0 a1->p1 a0 a1->G):G:=h.elim fun a0 h=>h.elim fun a1 h=>f a0 a1 h.1 h.2
def AA{p0 p1 p2 p3 p4:Prop}{G:Prop}(h:p0/\p1/\p2/\p3/\p4)(f:p0->p1->p2->p3->p4->G):G:=f h.1 h.2.1 h.2.2.1 h.2.2.2.1 h.2.2.2.2
def ab8{jG:Sort _}{p0 p1 p2 p3:jG->Prop}{G:Prop}(h:∃a0,p0 a0/\p1 a0/\p2 a0/\p3 a0)(f:∀a0,p0 a0->p1 a0->p2 a0->p3 a0->G):G:=h.elim fun a0 h=>f a0 h.1 h.2.1 h.2.2.1 h.2.2.2
def b7{jG lB:Sort _}{p0 p1 p2:jG->lB->Prop}{G:Prop}(h:∃a0 a1,p0 a0 a1/\p1 a0 a1/\p2 a0 a1)(f:∀a0 a1,p0 a0 a1->p1 a0 a1->p2 a0 a1->G):G:=h.elim fun a0 h=>h.elim fun a1 h=>f a0 a1 h.1 h.2.1 h.2.2
def Cp{jG lB qI:Sort _}{p0 p1:jG->lB->qI->Prop}{G:Prop}(h:∃a0 a1 a2,p0 a0 a1 a2/\p1 a0 a1 a2)(f:∀a0 a1 a2,p0 a0 a1 a2->p1 a0 a1 a2->G):G:=h.elim fun a0 h=>h.elim fun a1 h=>h.elim fun a2 h=>f a0 a1 a2 h.1 h.2
def vI{p0 p1 p2 p3 p4 p5:Prop}{G:Prop}(h:p0/\p1/\p2/\p3/\p4/\p5)(f:p0->p1->p2->p3->p4->p5->G):G:=f h.1 h.2.1 h.2.2.1 h.2.2.2.1 h.2.2.2.2.1 h.2.2.2.2.2
def R7{jG:Sort _}{p0 p1 p2 p3 p4:jG->Prop}{G:Prop}(h:∃a0,p0 a0/\p1 a0/\p2 a0/\p3 a0/\p4 a0)(f:∀a0,p0 a0->p1 a0->p2 a0->p3 a0->p4 a0->G):G:=h.elim fun a0 h=>f a0 h.1 h.2.1 h.2.2.1 h.2.2.2.1 h.2.2.2.2
def qJ{jG lB:Sort _}{p0 p1 p2 p3:jG->lB->Prop}{G:Prop}(h:∃a0 a1,p0 a0 a1/\p1 a0 a1/\p2 a0 a1/\p3 a0 a1)(f:∀a0 a1,p0 a0 a1->p1 a0 a1->p2 a0 a1->p3 a0 a1->G):G:=h.elim fun a0 h=>h.elim fun a1 h=>f a0 a1 h.1 h.2.1 h.2.2.1 h.2.2.2
def R8{jG lB qI:Sort _}{p0 p1 p2:jG->lB->qI->Prop}{G:Prop}(h:∃a0 a1 a2,p0 a0 a1 a2/\p1 a0 a1 a2/\p2 a0 a1 a2)(f:∀a0 a1 a2,p0 a0 a1 a2->p1 a0 a1 a2->p2 a0 a1 a2->G):G:=h.elim fun a0 h=>h.elim fun a1 h=>h.elim fun a2 h=>f a0 a1 a2 h.1 h.2.1 h.2.2
def aB7{jG lB qI Cq:Sort _}{p0 p1:jG->lB->qI->Cq->Prop}{G:Prop}(h:∃a0 a1 a2 a3,p0 a0 a1 a2 a3/\p1 a0 a1 a2 a3)(f:∀a0 a1 a2 a3,p0 a0 a1 a2 a3->p1 a0 a1 a2 a3->G):G:=h.elim fun a0 h=>h.elim fun a1 h=>h.elim fun a2 h=>h.elim fun a3 h=>f a0 a1 a2 a3 h.1 h.2
def aB8{jG lB qI Cq α4:Sort _}{p0:jG->lB->qI->Cq->α4->Prop}{G:Prop}(h:∃a0 a1 a2 a3 a4,p0 a0 a1 a2 a3 a4)(f:∀a0 a1 a2 a3 a4,p0 a0 a1 a2 a3 a4->G):G:=h.elim fun a0 h=>h.elim fun a1 h=>h.elim fun a2 h=>h.elim fun a3 h=>h.elim fun a4 h=>f a0 a1 a2 a3 a4 h
def aB9{p0 p1 p2 p3 p4 p5 p6:Prop}{G:Prop}(h:p0/\p1/\p2/\p3/\p4/\p5/\p6)(f:p0->p1->p2->p3->p4->p5->p6->G):G:=f h.1 h.2.1 h.2.2.1 h.2.2.2.1 h.2.2.2.2.1 h.2.2.2.2.2.1 h.2.2.2.2.2.2
def G8{jG lB:Sort _}{p0 p1 p2 p3 p4:jG->lB->Prop}{G:Prop}(h:∃a0 a1,p0 a0 a1/\p1 a0 a1/\p2 a0 a1/\p3 a0 a1/\p4 a0 a1)(f:∀a0 a1,p0 a0 a1->p1 a0 a1->p2 a0 a1->p3 a0 a1->p4 a0 a1->G):G:=h.elim fun a0 h=>h.elim fun a1 h=>f a0 a1 h.1 h.2.1 h.2.2.1 h.2.2.2.1 h.2.2.2.2
def R9{jG lB qI:Sort _}{p0 p1 p2 p3:jG->lB->qI->Prop}{G:Prop}(h:∃a0 a1 a2,p0 a0 a1 a2/\p1 a0 a1 a2/\p2 a0 a1 a2/\p3 a0 a1 a2)(f:∀a0 a1 a2,p0 a0 a1 a2->p1 a0 a1 a2->p2 a0 a1 a2->p3 a0 a1 a2->G):G:=h.elim fun a0 h=>h.elim fun a1 h=>h.elim fun a2 h=>f a0 a1 a2 h.1 h.2.1 h.2.2.1 h.2.2.2
def aC0{jG lB qI Cq:Sort _}{p0 p1 p2:jG->lB->qI->Cq->Prop}{G:Prop}(h:∃a0 a1 a2 a3,p0 a0 a1 a2 a3/\p1 a0 a1 a2 a3/\p2 a0 a1 a2 a3)(f:∀a0 a1 a2 a3,p0 a0 a1 a2 a3->p1 a0 a1 a2 a3->p2 a0 a1 a2 a3->G):G:=h.elim fun a0 h=>h.elim fun a1 h=>h.elim fun a2 h=>h.elim fun a3 h=>f a0 a1 a2 a3 h.1 h.2.1 h.2.2
def Ra{jG lB:Sort _}{p0 p1 p2 p3 p4 p5:jG->lB->Prop}{G:Prop}(h:∃a0 a1,p0 a0 a1/\p1 a0 a1/\p2 a0 a1/\p3 a0 a1/\p4 a0 a1/\p5 a0 a1)(f:∀a0 a1,p0 a0 a1->p1 a0 a1->p2 a0 a1->p3 a0 a1->p4 a0 a1->p5 a0 a1->G):G:=h.elim fun a0 h=>h.elim fun a1 h=>f a0 a1 h.1 h.2.1 h.2.2.1 h.2.2.2.1 h.2.2.2.2.1 h.2.2.2.2.2
def AB{jG lB qI:Sort _}{p0 p1 p2 p3 p4:jG->lB->qI->Prop}{G:Prop}(h:∃a0 a1 a2,p0 a0 a1 a2/\p1 a0 a1 a2/\p2 a0 a1 a2/\p3 a0 a1 a2/\p4 a0 a1 a2)(f:∀a0 a1 a2,p0 a0 a1 a2->p1 a0 a1 a2->p2 a0 a1 a2->p3 a0 a1 a2->p4 a0 a1 a2->G):G:=h.elim fun a0 h=>h.elim fun a1 h=>h.elim fun a2 h=>f a0 a1 a2 h.1 h.2.1 h.2.2.1 h.2.2.2.1 h.2.2.2.2
def Wf{jG lB qI Cq:Sort _}{p0 p1 p2 p3:jG->lB->qI->Cq->Prop}{G:Prop}(h:∃a0 a1 a2 a3,p0 a0 a1 a2 a3/\p1 a0 a1 a2 a3/\p2 a0 a1 a2 a3/\p3 a0 a1 a2 a3)(f:∀a0 a1 a2 a3,p0 a0 a1 a2 a3->p1 a0 a1 a2 a3->p2 a0 a1 a2 a3->p3 a0 a1 a2 a3->G):G:=h.elim fun a0 h=>h.elim fun a1 h=>h.elim fun a2 h=>h.elim fun a3 h=>f a0 a1 a2 a3 h.1 h.2.1 h.2.2.1 h.2.2.2
def Rb{jG lB qI:Sort _}{p0 p1 p2 p3 p4 p5:jG->lB->qI->Prop}{G:Prop}(h:∃a0 a1 a2,p0 a0 a1 a2/\p1 a0 a1 a2/\p2 a0 a1 a2/\p3 a0 a1 a2/\p4 a0 a1 a2/\p5 a0 a1 a2)(f:∀a0 a1 a2,p0 a0 a1 a2->p1 a0 a1 a2->p2 a0 a1 a2->p3 a0 a1 a2->p4 a0 a1 a2->p5 a0 a1 a2->G):G:=h.elim fun a0 h=>h.elim fun a1 h=>h.elim fun a2 h=>f a0 a1 a2 h.1 h.2.1 h.2.2.1 h.2.2.2.1 h.2.2.2.2.1 h.2.2.2.2.2
def Rc{jG lB qI Cq:Sort _}{p0 p1 p2 p3 p4:jG->lB->qI->Cq->Prop}{G:Prop}(h:∃a0 a1 a2 a3,p0 a0 a1 a2 a3/\p1 a0 a1 a2 a3/\p2 a0 a1 a2 a3/\p3 a0 a1 a2 a3/\p4 a0 a1 a2 a3)(f:∀a0 a1 a2 a3,p0 a0 a1 a2 a3->p1 a0 a1 a2 a3->p2 a0 a1 a2 a3->p3 a0 a1 a2 a3->p4 a0 a1 a2 a3->G):G:=h.elim fun a0 h=>h.elim fun a1 h=>h.elim fun a2 h=>h.elim fun a3 h=>f a0 a1 a2 a3 h.1 h.2.1 h.2.2.1 h.2.2.2.1 h.2.2.2.2
def aC1{jG lB qI:Sort _}{p0 p1 p2 p3 p4 p5 p6:jG->lB->qI->Prop}{G:Prop}(h:∃a0 a1 a2,p0 a0 a1 a2/\p1 a0 a1 a2/\p2 a0 a1 a2/\p3 a0 a1 a2/\p4 a0 a1 a2/\p5 a0 a1 a2/\p6 a0 a1 a2)(f:∀a0 a1 a2,p0 a0 a1 a2->p1 a0 a1 a2->p2 a0 a1 a2->p3 a0 a1 a2->p4 a0 a1 a2->p5 a0 a1 a2->p6 a0 a1 a2->G):G:=h.elim fun a0 h=>h.elim fun a1 h=>h.elim fun a2 h=>f a0 a1 a2 h.1 h.2.1 h.2.2.1 h.2.2.2.1 h.2.2.2.2.1 h.2.2.2.2.2.1 h.2.2.2.2.2.2
def aC2{jG lB qI Cq:Sort _}{p0 p1 p2 p3 p4 p5:jG->lB->qI->Cq->Prop}{G:Prop}(h:∃a0 a1 a2 a3,p0 a0 a1 a2 a3/\p1 a0 a1 a2 a3/\p2 a0 a1 a2 a3/\p3 a0 a1 a2 a3/\p4 a0 a1 a2 a3/\p5 a0 a1 a2 a3)(f:∀a0 a1 a2 a3,p0 a0 a1 a2 a3->p1 a0 a1 a2 a3->p2 a0 a1 a2 a3->p3 a0 a1 a2 a3->p4 a0 a1 a2 a3->p5 a0 a1 a2 a3->G):G:=h.elim fun a0 h=>h.elim fun a1 h=>h.elim fun a2 h=>h.elim fun a3 h=>f a0 a1 a2 a3 h.1 h.2.1 h.2.2.1 h.2.2.2.1 h.2.2.2.2.1 h.2.2.2.2.2
def aC3{jG lB qI Cq:Sort _}{p0 p1 p2 p3 p4 p5 p6 p7:jG->lB->qI->Cq->Prop}{G:Prop}(h:∃a0 a1 a2 a3,p0 a0 a1 a2 a3/\p1 a0 a1 a2 a3/\p2 a0 a1 a2 a3/\p3 a0 a1 a2 a3/\p4 a0 a1 a2 a3/\p5 a0 a1 a2 a3/\p6 a0 a1 a2 a3/\p7 a0 a1 a2 a3)(f:∀a0 a1 a2 a3,p0 a0 a1 a2 a3->p1 a0 a1 a2 a3->p2 a0 a1 a2 a3->p3 a0 a1 a2 a3->p4 a0 a1 a2 a3->p5 a0 a1 a2 a3->p6 a0 a1 a2 a3->p7 a0 a1 a2 a3->G):G:=h.elim fun a0 h=>h.elim fun a1 h=>h.elim fun a2 h=>h.elim fun a3 h=>f a0 a1 a2 a3 h.1 h.2.1 h.2.2.1 h.2.2.2.1 h.2.2.2.2.1 h.2.2.2.2.2.1 h.2.2.2.2.2.2.1 h.2.2.2.2.2.2.2
def Rf{jG lB qI Cq α4 α5 α6 α7 α8:Sort _}{p0 p1 p2:jG->lB->qI->Cq->α4->α5->α6->α7->α8->Prop}{G:Prop}(h:∃a0 a1 a2 a3 a4 a5 a6 a7 a8,p0 a0 a1 a2 a3 a4 a5 a6 a7 a8/\p1 a0 a1 a2 a3 a4 a5 a6 a7 a8/\p2 a0 a1 a2 a3 a4 a5 a6 a7 a8)(f:∀a0 a1 a2 a3 a4 a5 a6 a7 a8,p0 a0 a1 a2 a3 a4 a5 a6 a7 a8->p1 a0 a1 a2 a3 a4 a5 a6 a7 a8->p2 a0 a1 a2 a3 a4 a5 a6 a7 a8->G):G:=h.elim fun a0 h=>h.elim fun a1 h=>h.elim fun a2 h=>h.elim fun a3 h=>h.elim fun a4 h=>h.elim fun a5 h=>h.elim fun a6 h=>h.elim fun a7 h=>h.elim fun a8 h=>f a0 a1 a2 a3 a4 a5 a6 a7 a8 h.1 h.2.1 h.2.2
def aC4{jG lB qI Cq α4 α5:Sort _}{p0 p1 p2 p3 p4 p5 p6 p7:jG->lB->qI->Cq->α4->α5->Prop}{G:Prop}(h:∃a0 a1 a2 a3 a4 a5,p0 a0 a1 a2 a3 a4 a5/\p1 a0 a1 a2 a3 a4 a5/\p2 a0 a1 a2 a3 a4 a5/\p3 a0 a1 a2 a3 a4 a5/\p4 a0 a1 a2 a3 a4 a5/\p5 a0 a1 a2 a3 a4 a5/\p6 a0 a1 a2 a3 a4 a5/\p7 a0 a1 a2 a3 a4 a5)(f:∀a0 a1 a2 a3 a4 a5,p0 a0 a1 a2 a3 a4 a5->p1 a0 a1 a2 a3 a4 a5->p2 a0 a1 a2 a3 a4 a5->p3 a0 a1 a2 a3 a4 a5->p4 a0 a1 a2 a3 a4 a5->p5 a0 a1 a2 a3 a4 a5->p6 a0 a1 a2 a3 a4 a5->p7 a0 a1 a2 a3 a4 a5->G):G:=h.elim fun a0 h=>h.elim fun a1 h=>h.elim fun a2 h=>h.elim fun a3 h=>h.elim fun a4 h=>h.elim fun a5 h=>f a0 a1 a2 a3 a4 a5 h.1 h.2.1 h.2.2.1 h.2.2.2.1 h.2.2.2.2.1 h.2.2.2.2.2.1 h.2.2.2.2.2.2.1 h.2.2.2.2.2.2.2
end aB6
section ab9
namespace L2
open PySem PySem.Spec PyProof.Rows
abbrev Key:=Sum Int Str
def Vn:Key->au->Bool
 | .inl k,v=>Value.isInt k v
 | .inr x,v=>Value.isStrOf x v
def aC5(w:bF):Key->Int
 | .inl k=>hashInt k
 | .inr x=>hashStr w x
theorem dW:∀{k:Key} {v:au},Vn k v=true->(∃i t,k=Sum.inl i/\v=uy i t)\/(∃x t,k=Sum.inr x/\v=R6 x t)
 | .inl i,v,h=>by
  obtain⟨t,e⟩:=ab5 (k:=i) (v:=v) h;exact .inl ⟨i,t,rfl,e⟩
 | .inr x,v,h=>by
  obtain⟨t,e⟩:=Value.isStrOf_shape (x:=x) (v:=v) h;exact .inr ⟨x,t,rfl,e⟩
def Wg(a b:Int):decide ((Sum.inl a:Key)=Sum.inl b)=(a==b):=by
 by_cases e:a=b;subst e;simp;have h:¬ (Sum.inl a:Key)=Sum.inl b:=fun q=>e (Sum.inl.inj q);rw[aU6 h];exact(aV0.mpr e).symm
def Wh(a b:Str):decide ((Sum.inr a:Key)=Sum.inr b)=decide (a=b):=by
 by_cases e:a=b;subst e;simp;have h:¬ (Sum.inr a:Key)=Sum.inr b:=fun q=>e (Sum.inr.inj q);rw[aU6 h,aU6 e]
def Wi(a:Int)(b:Str):decide ((Sum.inl a:Key)=Sum.inr b)=false:=aU6 (fun q=>nomatch q)
def Wj(a:Str)(b:Int):decide ((Sum.inr a:Key)=Sum.inl b)=false:=aU6 (fun q=>nomatch q)
def HZ(prog:cP)(w:bF):PySem.KeyKind prog w Key where
 is:=Vn
 hash:=aC5 w
 inj:=fun v a b ha hb=>by
  rcases dW ha with⟨i,t,rfl,rfl⟩|⟨x,t,rfl,rfl⟩;rcases dW hb with⟨j,u,rfl,e⟩|⟨y,u,rfl,e⟩;injection e with e1 _;rw[e1];exact nomatch e;rcases dW hb with⟨j,u,rfl,e⟩|⟨y,u,rfl,e⟩;exact nomatch e;injection e with e1 _;rw[e1]
 byValue:=fun k v h=>by
  rcases dW h with⟨i,t,rfl,rfl⟩|⟨x,t,rfl,rfl⟩ <;> rfl
 pyHash:=fun hv h=>by
  rcases dW hv with⟨i,t,rfl,rfl⟩|⟨x,t,rfl,rfl⟩;exact wpAny_pyHash_int h;exact wpAny_pyHash_str h
 eqBool:=fun hu hv h=>by
  rcases dW hu with⟨i,t,rfl,rfl⟩|⟨x,t,rfl,rfl⟩;rcases dW hv with⟨j,u,rfl,rfl⟩|⟨y,u,rfl,rfl⟩;rw[Wg]at h;exact wpAny_eqBool_int h;rw[Wi]at h;exact SeqAt.EqAt.int_str i t y u _ _ _ _ h;rcases dW hv with⟨j,u,rfl,rfl⟩|⟨y,u,rfl,rfl⟩;rw[Wj]at h;exact SeqAt.EqAt.str_int x t j u _ _ _ _ h;rw[Wh]at h;exact wpAny_eqBool_str h
 «strs»:=fun k x t v h=>by
  rcases dW h with⟨i,u,rfl,e⟩|⟨y,u,rfl,e⟩;exact nomatch e;injection e with e1 _;subst e1;cases v <;> rfl
inductive V where
 | cH|bl (b:Bool)|int (i:Int)|str (x:Str)|byt (b:Array UInt8)|flt (b:UInt64)|ref (a:av)|ty (n:String)
 deriving DecidableEq
def RelV:V->au->Prop
 | .cH,u=>u=gR
 | .bl b,u=>u=Value.bool b
 | .int i,u=>∃t,u=uy i t
 | .str x,u=>∃t,u=R6 x t
 | .byt b,u=>∃t,u=Value.bytes b t
 | .flt b,u=>∃t,u=Value.float b t
 | .ref a,u=>u=f7 a
 | .ty n,u=>u=l8 n
abbrev Vals:List V->List au->Prop:=Paired RelV
theorem Vals.length(r:Vals xs us):xs.length=us.length:=Paired.length r
theorem Vals.get:∀{xs:List V} {us:List au} {i:Nat} {x:V},Vals xs us->xs[i]?=some x->∃u,us[i]?=some u/\RelV x u
 | _,_,_,_,.nil,e=>by simp at e
 | _,_,0,_,.cons r _,e=>by simp at e;subst e;exact⟨_,rfl,r⟩
 | _,_,i+1,x,.cons _ t,e=>by
  refine aL (Vals.get (i:=i) (x:=x) t (by simpa using e)) fun u h1 h2=>?_;exact⟨u,by simpa using h1,h2⟩
theorem Vals.set(r:RelV x u):∀{xs:List V} {us:List au} (i:Nat),Vals xs us->Vals (xs.set i x) (us.set i u)
 | _,_,_,.nil=>.nil
 | _,_,0,.cons _ t=>.cons r t
 | _,_,i+1,.cons q t=>.cons q (Vals.set r i t)
def Vals.append(h:Vals xs us)(s:Vals ys ws):Vals (xs++ys) (us++ws):=by
 induction h with
 | nil=>exact s
 | cons r t ih=>exact .cons r ih
theorem Vals.take:∀{xs:List V} {us:List au} (n:Nat),Vals xs us->Vals (xs.take n) (us.take n)
 | _,_,0,_=>.nil
 | _,_,_+1,.nil=>.nil
 | _,_,n+1,.cons r t=>.cons r (Vals.take n t)
theorem Vals.drop:∀{xs:List V} {us:List au} (n:Nat),Vals xs us->Vals (xs.drop n) (us.drop n)
 | _,_,0,r=>r
 | _,_,_+1,.nil=>.nil
 | _,_,n+1,.cons _ t=>Vals.drop n t
def G9:Option V->Option au->Prop
 | some v,some u=>RelV v u
 | none,none=>True
 | _,_=>False
def KV{κ:Type}:List (κ×V)->List (κ×au)->Prop:=Paired fun(p:κ×V) (q:κ×au)=>p.1=q.1/\RelV p.2 q.2
def kV:Key->V
 | .inl i=>.int i
 | .inr x=>.str x
inductive HO where
 | lst (xs:List V)
 | tup (xs:List V)
 | dK (AD:List (Key×V))|dT (AD:List (List Key×V))
 | set (S:Int->Bool) (n:Nat)
 | ins (C dx:av) (fs:List (Str×V))
 | own (x:av)
 | xd (fs:List (Str×V))
 | met (f x:av)
 | Vo (lo hi:Int)
 | EF (o:Obj) (u:HO)
 | Vp (p:PySem.Pos) (q:Str)
 | ext (φ:aN->Prop)
abbrev Hp:=av->Option HO
def upd(H:Hp)(a:av)(o:HO):Hp:=fun b=>if b=a then some o else H b
def cA:upd H a o a=some o:=by unfold upd;rw[aU3 rfl]
def bq(h:b≠a):upd H a o b=H b:=by unfold upd;rw[aU4 h]
def bG{H:Hp}(h:H a=some o)(h':H b=none):a≠b:=by
 intro e;subst e;rw[h]at h';cases h'
section
variable (P:cP)(w:bF)
def i0(H:Hp)(h:aN)(a:av):HO->Prop
 | .lst xs=>xs.length<=bO/\∃(b6:List au) (n:Nat),Vals xs b6/\h.get? a=some {cls:=.type "list",data:=.seq b6.toArray n}
 | .tup xs=>xs.length<=bO/\∃b6:List au,Vals xs b6/\IsTup h a b6.toArray
 | .dK AD=>AD.length<=bO/\(a==tX)=false/\∃vs,KV AD vs/\h.DictOf (HZ P w) a vs
 | .dT AD=>AD.length<=bO/\(a==tX)=false/\∃xs:List (List Key×av×au),
   Paired (fun(p:List Key×V) (q:List Key×av×au)=>p.1=q.1/\H q.2.1=some (.tup (p.1.map kV))/\RelV p.2 q.2.2) AD xs/\
   ∃o es ep,h.get? a=some o/\o.ExactDict/\o.data = .dict es ep/\es.toList=xs.map (Cg (tupleKind (HZ P w)))/\(xs.map (·.1)).Nodup
 | .set S n=>h.SetOf (intKind P w) a S n
 | .ins C dx fs=>H dx=some (.own a)/\fs.length<=1000/\dx≠a/\h.get? a=some (tY C dx)/\
   ∃mA,h.Ns1 dx mA/\(∀f,G9 (fs.lookup f) (mA f))/\PySem.Within mA (fs.map (·.1))
 | .own _=>∃o,h.get? a=some o
 | .xd fs=>∃mA,h.Ns1 a mA/\∀f,G9 (fs.lookup f) (mA f)
 | .Vo lo hi=>∃t u v,h.get? a=some {cls:=.type "range",data:=.fields #[.int lo t,.int hi u,.int 1 v]}
 | .EF o u=>h.get? a=some o/\i0 H h a u
 | .Vp p q=>∃ps:Array au,h.get? a=some {cls:=.none,data:=.fields ps}/\TriplesOk ps.toList/\(codeAmong p ps.toList=none\/∃c oc vs t,codeAmong p ps.toList=some (.ref c)/\H c=some (.EF oc (.own c))/\oc.data = .fields vs/\vs[1]?=some (.str q t))
 | .met f x=>h.get? a=some (PySem.W.methodObj (.ref f) (.ref x))
 | .ext φ=>φ h/\(∃o,h.get? a=some o)/\∀h1 h2:aN,φ h1->(∀o,h1.get? a=some o->h2.get? a=some o)->φ h2
def rQ(H:Hp)(h:aN):Prop:=∀a o,H a=some o->i0 P w H h a o
end
section
theorem i0.lt(x:i0 P w H h a o):a<h.objs.size:=by
 cases o with
 | lst xs=>obtain⟨_,_,_,_,e⟩:=x;exact bQ e
 | tup xs=>obtain⟨_,_,_,p⟩:=x;exact p.lt
 | dK AD=>obtain⟨_,_,_,_,o,_,_,e,_⟩:=x;exact bQ e
 | dT AD=>obtain⟨_,_,_,_,o,_,_,e,_⟩:=x;exact bQ e
 | set S n=>obtain⟨o,_,_,_,e,_⟩:=x;exact bQ e
 | ins C dx fs=>obtain⟨_,_,_,e,_⟩:=x;exact bQ e
 | own y=>obtain⟨_,e⟩:=x;exact bQ e
 | xd fs=>obtain⟨_,⟨_,_,_,e,_⟩,_⟩:=x;exact bQ e
 | Vo lo hi=>obtain⟨_,_,_,e⟩:=x;exact bQ e
 | EF ob u=>obtain⟨e,_⟩:=x;exact bQ e
 | Vp p q=>obtain⟨_,e,_⟩:=x;exact bQ e
 | met f y=>exact bQ (show h.get? a=some _ from x)
 | ext φ=>obtain⟨_,⟨_,e⟩,_⟩:=x;exact bQ e
def Paired.aC6{G:α->β->Prop}(h:Paired F aC7 aC8)(f:∀a b,F a b->G a b):Paired G aC7 aC8:=by
 induction h with
 | nil=>exact .nil
 | cons r t ih=>exact .cons (f _ _ r) ih
def i0.AE(x:i0 P w H h a o)(k:∀b u,(b=a\/H b=some (.own a))->h.get? b=some u->h'.get? b=some u)
  (ho:∀b,H b=some (.own a)->H' b=some (.own a)) (ht:∀b xs,H b=some (.tup xs)->H' b=some (.tup xs)) (hf:∀b o u,H b=some (.EF o u)->H' b=some (.EF o u)):i0 P w H' h' a o:=by
 induction o with
 | lst xs=>obtain⟨z,b6,n,r,e⟩:=x;exact⟨z,b6,n,r,k _ _ (.inl rfl) e⟩
 | tup xs=>obtain⟨z,b6,r,ob,e,c⟩:=x;exact⟨z,b6,r,ob,k _ _ (.inl rfl) e,c⟩
 | dK AD=>obtain⟨z,y,vs,r,ob,es,ep,e,c⟩:=x;exact⟨z,y,vs,r,ob,es,ep,k _ _ (.inl rfl) e,c⟩
 | dT AD=>obtain⟨z,y,xs,r,ob,es,ep,e,c⟩:=x;exact⟨z,y,xs,Paired.aC6 r fun p q z=>⟨z.1,ht _ _ z.2.1,z.2.2⟩,ob,es,ep,k _ _ (.inl rfl) e,c⟩
 | set S n=>obtain⟨ob,es,ep,t,e,c⟩:=x;exact⟨ob,es,ep,t,k _ _ (.inl rfl) e,c⟩
 | ins C dx fs=>obtain⟨d,z,ne,e,mA,⟨od,es,ep,e2,c⟩,r⟩:=x;exact⟨ho _ d,z,ne,k _ _ (.inl rfl) e,mA,⟨od,es,ep,k _ _ (.inr d) e2,c⟩,r⟩
 | own y=>obtain⟨ob,e⟩:=x;exact⟨ob,k _ _ (.inl rfl) e⟩
 | xd fs=>obtain⟨mA,⟨od,es,ep,e,c⟩,r⟩:=x;exact⟨mA,⟨od,es,ep,k _ _ (.inl rfl) e,c⟩,r⟩
 | Vo lo hi=>obtain⟨t,u,v,e⟩:=x;exact⟨t,u,v,k _ _ (.inl rfl) e⟩
 | EF ob u ih=>obtain⟨e,q⟩:=x;exact⟨k _ _ (.inl rfl) e,ih q⟩
 | Vp p q=>obtain⟨ps,e,t,z⟩:=x;exact⟨ps,k a _ (.inl rfl) e,t,z.imp id fun⟨c,oc,vs,u,a,b,d⟩=>⟨c,oc,vs,u,a,hf _ _ _ b,d⟩⟩
 | met f y=>have e:h.get? a=some (PySem.W.methodObj (.ref f) (.ref y)):=x;show h'.get? a=some (PySem.W.methodObj (.ref f) (.ref y));exact k a _ (.inl rfl) e
 | ext φ=>obtain⟨p,⟨o,e⟩,st⟩:=x;exact⟨st _ _ p fun o q=>k _ _ (.inl rfl) q,⟨o,k _ _ (.inl rfl) e⟩,st⟩
theorem rQ.lt(x:rQ P w H h)(e:H a=some o):a<h.objs.size:=(x a o e).lt
def rQ.fresh(x:rQ P w H h)(e:h.objs.size<=a):H a=none:=by
 cases q:H a with
 | none=>rfl
 | some u=>exact aV5 (gV (x.lt q) e) (qG _)
def rQ.kept(x:rQ P w H h)(k:∀b u,h.get? b=some u->h'.get? b=some u):rQ P w H h':=fun a o e=>
 (x a o e).AE (fun b u _ q=>k b u q) (fun _ q=>q) (fun _ _ q=>q) fun _ zo _ q=>q
def rQ.laid(x:rQ P w H h)(k:∀b u,h.get? b=some u->h'.get? b=some u)(hp:h.objs.size<=a)(new:i0 P w (upd H a o) h' a o):rQ P w (upd H a o) h':=fun b u e=>by
 have hn:=x.fresh hp;by_cases hb:b=a;subst hb;rw[cA]at e;cases e;exact new;rw[bq hb]at e;exact(x b u e).AE (fun c v _ q=>k c v q) (fun c q=>by rw[bq (bG q hn)];exact q) (fun c xs q=>by rw[bq (bG q hn)];exact q) fun c zo xs q=>by rw[bq (bG q hn)];exact q
end
def Rd(H:Hp)(a:av)(u:HO):Prop:=H a=some u\/∃o,H a=some (.EF o u)
def Rd.of(h:H a=some u):Rd H a u:=.inl h
def Rd.ok(r:Rd H a u)(x:rQ P w H h):i0 P w H h a u:=by
 rcases r with r|⟨o,r⟩;exact x a u r;obtain⟨_,q⟩:=x a _ r;exact q
def Mut:Option HO->Prop
 | some (.lst _)=>True
 | some (.dK _)=>True
 | some (.dT _)=>True
 | some (.set _ _)=>True
 | some (.ins _ _ _)=>True
 | some (.ext _)=>True
 | _=>False
section
def rQ.write(ok:rQ P w H h)(mu:Mut (H x))(he:e=x\/H e=some (.own x))(k:∀b u,b≠e->h.get? b=some u->h'.get? b=some u)(heo:∃u,h'.get? e=some u)
  (new:i0 P w (upd H x o') h' x o'):rQ P w (upd H x o') h':=fun b u q=>by
 have ac0:∀c y,H c=some (.own y)->c≠x:=fun c y r z=>by subst z;rw[r]at mu;exact mu
 have nfz:∀c o u,H c=some (.EF o u)->c≠x:=fun c o u r z=>by subst z;rw[r]at mu;exact mu
 have aC9:∀c xs,H c=some (.tup xs)->c≠x:=fun c xs r z=>by subst z;rw[r]at mu;exact mu
 by_cases hb:b=x;subst hb;rw[cA]at q;cases q;exact new;rw[bq hb]at q;by_cases Wk:b=e;have q':H b=some (.own x):=by rcases he with z|z;exact aV5 (Wk.trans z) hb;rw[Wk];exact z
 rw[q]at q';cases q';obtain⟨v,hv⟩:=heo;exact⟨v,by rw[Wk];exact hv⟩;refine(ok b u q).AE (fun c v hc r=>k c v ?_ r) (fun c r=>by rw[bq (ac0 c b r)];exact r) (fun c xs r=>by rw[bq (aC9 c xs r)];exact r) fun c zo xs r=>by rw[bq (nfz c zo xs r)];exact r
 rcases hc with rfl|hc;exact Wk;rintro rfl;rcases he with z|z;exact ac0 c b hc z;rw[hc]at z;cases z;exact hb rfl
end
structure Un(fs ex:List av)(H H':Hp)(h h':aN):Prop where
 keep:∀b o,h.get? b=some o->H b=none->b∉fs->b∉ex->h'.get? b=some o
 slot:∀b o,h.get? b=some o->H b=none->b∈fs->b∉ex->∃sl,h'.get? b=some {o with slots:=sl}
 free:∀b o,h.get? b=some o->H b=none->b∉ex->H' b=none
 there:∀b o,h.get? b=some o->b∉ex->∃o',h'.get? b=some o'
 ql:∀b xs,H b=some (.tup xs)->H' b=some (.tup xs)
 ya:∀b o u,H b=some (.EF o u)->H' b=some (.EF o u)
 AF:∀b p q,H b=some (.Vp p q)->H' b=some (.Vp p q)
section
def Un.any(u:Un fs ex H H1 h h1)(q:h.get? b=some ob)(n:H b=none)(hx:b∉ex):∃sl,h1.get? b=some {ob with slots:=sl}:=by
 by_cases hb:b∈fs;exact u.slot b ob q n hb hx;exact⟨ob.slots,u.keep b ob q n hb hx⟩
def Un.kept(k:∀b u,h.get? b=some u->h'.get? b=some u):Un fs ex H H h h':=
 ⟨fun b ob q _ _ _=>k b ob q,fun b ob q _ _ _=>⟨ob.slots,k b ob q⟩,fun _ _ _ n _=>n,fun b ob q _=>⟨ob,k b ob q⟩,fun _ _ q=>q,fun _ _ _ q=>q,fun _ _ _ q=>q⟩
def Un.refl:Un fs ex H H h h:=Un.kept fun _ _ q=>q
def Un.laid(k:∀b u,h.get? b=some u->h'.get? b=some u)(hp:h.objs.size<=a)(hn:H a=none):Un fs ex H (upd H a o) h h' where
 keep:=fun b u q _ _ _=>k b u q
 slot:=fun b u q _ _ _=>⟨u.slots,k b u q⟩
 free:=fun b u q n _=>by rw[bq (cu (gV (bQ q) hp))];exact n
 there:=fun b u q _=>⟨u,k b u q⟩
 ql:=fun b xs q=>by rw[bq (bG q hn)];exact q
 ya:=fun b u xs q=>by rw[bq (bG q hn)];exact q
 AF:=fun b p r q=>by rw[bq (bG q hn)];exact q
def Un.write(mu:Mut (H x))(he:e=x\/H e=some (.own x))(k:∀b u,b≠e->h.get? b=some u->h'.get? b=some u)(heo:∃u,h'.get? e=some u):Un fs ex H (upd H x o) h h':=by
 have hx:∀b,H b=none->b≠x:=fun b n z=>by subst z;rw[n]at mu;exact mu
 have hb:∀b,H b=none->b≠e:=fun b n z=>by subst z;rcases he with r|r;exact hx b n r;rw[n]at r;cases r
 have hm:∀b u,H b=some u->¬ Mut (some u)->b≠x:=fun b u q nm z=>by subst z;rw[q]at mu;exact nm mu
 refine⟨fun b u q n _ _=>k b u (hb b n) q,fun b u q n _ _=>⟨u.slots,k b u (hb b n) q⟩,fun b u q n _=>by rw[bq (hx b n)];exact n,fun b u q _=>?_,
  fun b xs q=>by rw[bq (hm b _ q fun z=>z)];exact q,fun b u xs q=>by rw[bq (hm b _ q fun z=>z)];exact q,fun b p r q=>by rw[bq (hm b _ q fun z=>z)];exact q⟩
 by_cases Wk:b=e;subst Wk;exact heo;exact⟨u,k b u Wk q⟩
end
def trk(h:aN)(H:Hp):List av:=(cY h.objs.size).filter fun a=>(H a).isSome
def AG(h:aN)(H:Hp):aN:=yN h (trk h H)
def Ju(h:aN)(H:Hp):(AG h H).objs.size=h.objs.size:=PySem.W.hideAll_size _ _
def N8{h:aN}(e:h.get? b=some o)(n:H b=none):(AG h H).get? b=some o:=
 LJ _ e fun hm=>by
  have q:(H b).isSome=true:=(pS.mp hm).2;rw[n]at q;simp at q
def Rg(e:(AG h H).get? b=some o):h.get? b=some o/\H b=none:=by
 have e':h.get? b=some o:=HW (trk h H) e;refine⟨e',?_⟩;cases q:H b with
 | none=>rfl
 | some x=>have hm:b∈trk h H:=pS.mpr ⟨nB.mpr (bQ e'),by simp[q]⟩;have z:(AG h H).get? b=none:=Vi (trk h H) hm;rw[z]at e;cases e
structure Mod(K:aD)(mg:Str->Option au)(base:aN):Prop where
 QM:K.In base
 glob:base.Ns gU mg
 blt:∃mb,base.Ns builtinsNs mb/\∀x:Str,x≠ "__name__" ->mb x=gY x
 nolimit:base.NoLimit
structure Cx where
 prog:cP
 w:bF
 K:aD
 mg:Str->Option au
 base:aN
 A:bP
 N:List Str
 iG:ay
 N9:Hp
 env:Env
 outer:List Env
 stack:List Env
 ex:List av
 fn:Str->Bool
 calm:Bool
 pn:List (av×Obj)
 xe:au->ay->Prop
def rR(l:List Env):List av:=l.filterMap (·.frame)
abbrev Cx.fs(X:Cx):List av:=rR X.outer
def Vis(sc:iV)(x:Str):Prop:=sc.names.lookup x=some .local\/sc.names.lookup x=some .cell\/sc.names.lookup x=some .free
def Loc(sc:iV)(x:Str):Prop:=sc.names.lookup x=some .local\/sc.names.lookup x=some .cell
def Look(env:Env)(h:aN)(m:Str->Option au)(x:Str)(u:au):Prop:=
 (env.kindOf x=some .local/\m x=some u)\/((env.kindOf x=some .cell\/env.kindOf x=some .free)/\∃c,env.cells.lookup x=some c/\h.IsCell c (some u))
structure Cx.Ok(X:Cx):Prop where
 mod:Mod X.K X.mg X.base
 kind:X.env.scope.kind = .function
 glob:X.env.globals=gU
 blt:X.env.builtins=builtinsNs
 above:X.iG.heap.objs.size<=X.env.locals
 inj:∀x y c,X.env.cells.lookup x=some c->X.env.cells.lookup y=some c->x=y
 has:∀x,(X.env.kindOf x=some .cell\/X.env.kindOf x=some .free)->∃c,X.env.cells.lookup x=some c
 Wl:∀x c,X.fn x=true->X.env.cells.lookup x=some c->X.iG.heap.objs.size<=c
 hd:X.calm=true->X.A.handled=none
 frames:X.A.frames=some X.stack
 Le:X.stack=X.outer\/(X.stack=X.env::X.outer/\X.env.frame=some X.env.locals)
 exf:∀b∈X.ex,b≠X.env.locals/\∀x c,X.env.cells.lookup x=some c->c≠b
 bs:∀b o,X.base.get? b=some o->X.iG.heap.get? b=some o/\X.N9 b=none
 Na:X.base.objs.size<=X.iG.heap.objs.size
 Ga:∀b o,X.base.get? b=some o->b∉X.ex
 Gb:∀b∈X.ex,b∉X.fs
 qK:X.iG.heap.FunFrames X.base X.outer
 Rh:∀b∈X.fs,X.N9 b=none
structure Inv(X:Cx)(ak:List (av×Obj))(σ:List (Option V))(H:Hp)(s:ay):Prop where
 ok:X.Ok
 os:s.os=X.iG.os
 bare:AllBare s.gens
 base:Un X.fs X.ex X.N9 H X.iG.heap s.heap
 loc:∃m,s.heap.Ns X.env.locals m/\∀(i:Nat) (x:Str) (v:V),X.N[i]?=some x->σ[i]?=some (some v)->Vis X.env.scope x->∃u,RelV v u/\Look X.env s.heap m x u
 cell:∀x c,X.env.cells.lookup x=some c->∃v,s.heap.IsCell c v
 free:H X.env.locals=none
 mU:∀x c,X.env.cells.lookup x=some c->H c=none
 pin:∀p∈X.pn++ak,s.heap.get? p.1=some p.2/\H p.1=none/\p.1≠X.env.locals/\p.1∉X.fs/\∀v,p.2.data≠ .cell v
 dX:rQ X.prog X.w H s.heap
 len:σ.length=X.N.length
section
variable {X:Cx}{s:ay}
def Cx.Ok.aD0(ok:X.Ok)(e:X.base.get? b=some o):b∉X.fs:=fun hb=>by
 have:=(ok.qK.mem hb).1;rw[e]at this;cases this
theorem Inv.bs(I:Inv X ak σ H s):∀b o,X.base.get? b=some o->s.heap.get? b=some o/\H b=none:=fun b o e=>
 ⟨I.base.keep b o (I.ok.bs b o e).1 (I.ok.bs b o e).2 (I.ok.aD0 e) (I.ok.Ga b o e),I.base.free b o (I.ok.bs b o e).1 (I.ok.bs b o e).2 (I.ok.Ga b o e)⟩
def Inv.bk(I:Inv X ak σ H s):∀b o,X.base.get? b=some o->s.heap.get? b=some o:=fun b o e=>(I.bs b o e).1
theorem Inv.mod(I:Inv X ak σ H s):Mod X.K X.mg X.base:=I.ok.mod
def Inv.Ce(I:Inv X ak σ H s):X.K.In s.heap:=I.ok.mod.QM.keeps I.bk
theorem Inv.lt(I:Inv X ak σ H s):X.env.locals<s.heap.objs.size:=let⟨_,hn,_⟩:=I.loc;hn.lt
def Inv.sz(I:Inv X ak σ H s):X.iG.heap.objs.size<=s.heap.objs.size:=f9 I.ok.above (pR I.lt)
def Inv.aD1(I:Inv X ak σ H s)(h:s.heap.objs.size<=a):a∉X.fs:=fun hb=>by
 obtain⟨_,o,ho,_⟩:=I.ok.qK.mem hb;exact aV5 (gV (bQ ho) (f9 I.sz h)) (qG _)
def Inv.Wm(I:Inv X ak σ H s):∀x c,X.env.cells.lookup x=some c->c≠X.env.locals:=fun x c e z=>by
 refine cj (I.cell x c e) fun v o ho hd=>?_;refine aL I.loc fun m fW _=>?_;obtain⟨o',es,ep,sR,QN,_⟩:=fW;rw[z,sR]at ho;cases ho;rw[QN]at hd;cases hd
theorem Inv.qK(I:Inv X ak σ H s):s.heap.FunFrames X.base X.outer:=by
 have all:∀(l:List Env),(∀b∈rR l,b∈X.fs)->X.iG.heap.FunFrames X.base l->s.heap.FunFrames X.base l:=by
  intro l;induction l with
  | nil=>intro _ _;trivial
  | cons env r ih=>intro hs hl;refine qH hl fun hk fW hr=>?_;clear hl;obtain⟨L,o,hf,hn,ho,hd⟩:=fW;have hL:L∈X.fs:=hs L (by unfold rR;rw[HY,hf];exact tZ);obtain⟨sl,e⟩:=I.base.slot L o ho (I.ok.Rh L hL) hL fun z=>I.ok.Gb L z hL;exact⟨hk,⟨L,_,hf,hn,e,hd⟩,ih (fun b hb=>hs b (by unfold rR;rw[HY,hf];exact nC _ hb)) hr⟩
 exact all X.outer (fun _ hb=>hb) I.ok.qK
theorem Inv.stack(I:Inv X ak σ H s):s.heap.FunFrames X.base X.stack:=by
 rcases I.ok.Le with e|⟨e,hf⟩;rw[e];exact I.qK;rw[e];refine aL I.loc fun m hn _=>?_;refine .cons (by rw[I.ok.kind];decide) hf hn ?_ I.qK;exact Heap.get?_none_of_le (f9 I.ok.Na I.ok.above)
def Inv.Gd(I:Inv X ak σ H s):∀b∈rR X.stack,b∈X.env.locals::X.fs:=fun b hb=>by
 rcases I.ok.Le with e|⟨e,hf⟩;rw[e]at hb;exact nC _ hb;rw[e]at hb;unfold rR at hb;rw[HY,hf]at hb;exact hb
def Inv.AH(I:Inv X ak σ H s):∀b∈rR X.stack,H b=none:=fun b hb=>by
 rcases bD.mp (I.Gd b hb)with e|hb;rw[e];exact I.free;obtain⟨_,o,ho,_⟩:=I.ok.qK.mem hb;exact I.base.free b o ho (I.ok.Rh b hb) fun z=>I.ok.Gb b z hb
def Inv.step{t':Nat}{d':Drawn}{ch:List av}(I:Inv X ak σ H s)
  (QO:∀b∈ch,(b∈X.ex\/X.iG.heap.objs.size<=b)/\b≠X.env.locals/\(∀x c,X.env.cells.lookup x=some c->c≠b)/\∀p∈X.pn++ak,p.1≠b)
  (keep:∀b o,b≠X.env.locals->b∉X.fs->b∉ch->s.heap.get? b=some o->H b=none->h'.get? b=some o)
  (slot:∀b o,b≠X.env.locals->b∈X.fs->b∉ch->s.heap.get? b=some o->H b=none->∃sl,h'.get? b=some {o with slots:=sl}) (free:∀b o,b∉ch->s.heap.get? b=some o->H b=none->H' b=none)
  (there:∀b o,b∉ch->s.heap.get? b=some o->∃o',h'.get? b=some o')
  (ql:∀b xs,H b=some (.tup xs)->H' b=some (.tup xs)) (ya:∀b o u,H b=some (.EF o u)->H' b=some (.EF o u)) (AF:∀b p q,H b=some (.Vp p q)->H' b=some (.Vp p q))
  (ns:∀m,s.heap.Ns X.env.locals m->h'.Ns X.env.locals m) (dX:rQ X.prog X.w H' h') (hg:AllBare g') :
  Inv X ak σ H' {s with heap:=h',gens:=g',drawn:=d',toks:=t'}:=by
 have neL:∀b o,X.iG.heap.get? b=some o->b≠X.env.locals:=fun b o e=>cu (gV (bQ e) I.ok.above);have neC:∀b o,X.iG.heap.get? b=some o->b∉X.ex->b∉ch:=fun b o e hx hb=>by rcases(QO b hb).1 with z|z;exact hx z;exact aV5 (gV (bQ e) z) (qG _)
 have cellK:∀x c,X.env.cells.lookup x=some c->∀v,s.heap.IsCell c v->h'.IsCell c v:=fun x c e v jz=>by refine aL jz fun o ho hd=>?_;clear jz;have nch:c∉ch:=fun z=>(QO c z).2.2.1 x c e rfl;by_cases hc:c∈X.fs;obtain⟨sl,q⟩:=slot c o (I.Wm x c e) hc nch ho (I.mU x c e);exact⟨_,q,hd⟩;exact⟨o,keep c o (I.Wm x c e) hc nch ho (I.mU x c e),hd⟩
 refine⟨I.ok,I.os,hg,⟨fun b o e n hb hx=>?_,fun b o e n hb hx=>?_,fun b o e n hx=>?_,fun b o e hx=>?_,fun b xs e=>ql b xs (I.base.ql b xs e),fun b o xs e=>ya b o xs (I.base.ya b o xs e),fun b p q e=>AF b p q (I.base.AF b p q e)⟩,?_,fun x c e=>?_,?_,fun x c e=>?_,fun p hp=>?_,dX,I.len⟩;exact keep b o (neL b o e) hb (neC b o e hx) (I.base.keep b o e n hb hx) (I.base.free b o e n hx);obtain⟨sl,e1⟩:=I.base.slot b o e n hb hx;obtain⟨sl',e2⟩:=slot b _ (neL b o e) hb (neC b o e hx) e1 (I.base.free b o e n hx);exact⟨sl',e2⟩;obtain⟨o',e1⟩:=I.base.there b o e hx;exact free b o' (neC b o e hx) e1 (I.base.free b o e n hx);obtain⟨o',e1⟩:=I.base.there b o e hx;exact there b o' (neC b o e hx) e1;refine aL I.loc fun m hn hl=>?_;refine⟨m,ns m hn,fun i x v e1 e2 e3=>?_⟩;refine aL (hl i x v e1 e2 e3) fun u r l=>?_;refine⟨u,r,?_⟩;rcases l with l|⟨k,c,e,z⟩;exact .inl l;exact .inr ⟨k,c,e,cellK x c e _ z⟩;obtain⟨v,z⟩:=I.cell x c e;exact⟨v,cellK x c e v z⟩;refine aL I.loc fun m fW _=>?_;obtain⟨o,_,_,ho,_⟩:=fW;exact free _ o (fun z=>(QO _ z).2.1 rfl) ho I.free;refine cj (I.cell x c e) fun v o ho hd=>?_;exact free c o (fun z=>(QO c z).2.2.1 x c e rfl) ho (I.mU x c e);refine AA (I.pin p hp) fun e n ne nf d=>?_;have nch:p.1∉ch:=fun z=>(QO p.1 z).2.2.2 p hp rfl;exact⟨keep p.1 p.2 ne nf nch e n,free p.1 p.2 nch e n,ne,nf,d⟩
def Inv.un{t':Nat}(I:Inv X ak σ H s)(u:Un X.fs [] H H' s.heap h')(dX:rQ X.prog X.w H' h'):Inv X ak σ H' {s with heap:=h',toks:=t'}:=by
 refine aL (id I.loc) fun m fW _=>?_;obtain⟨o,es,ep,ho,r⟩:=fW;obtain⟨sl,hL⟩:=u.any ho I.free (by simp);exact I.step (g':=s.gens) (d':=s.drawn) (ch:=[]) (fun _ z=>nomatch z) (fun b o _ hb _ e n=>u.keep b o e n hb (by simp)) (fun b o _ hb _ e n=>u.slot b o e n hb (by simp)) (fun b o _ e n=>u.free b o e n (by simp)) (fun b o _ e=>u.there b o e (by simp)) u.ql u.ya u.AF (fun m' hm=>by
  refine Cp hm fun o' Lf AI sR r'=>?_;clear hm;rw[ho]at sR;cases sR;exact⟨_,Lf,AI,hL,r'⟩) dX I.bare
def Inv.call{t':Nat}{d':Drawn}(I:Inv X ak σ H s)(u:Un (rR X.stack) ch H H' s.heap h')(dX:rQ X.prog X.w H' h')(hg:AllBare g')
  (QO:∀b∈ch,(b∈X.ex\/X.iG.heap.objs.size<=b)/\b≠X.env.locals/\(∀x c,X.env.cells.lookup x=some c->c≠b)/\∀p∈X.pn++ak,p.1≠b) :
  Inv X ak σ H' {s with heap:=h',gens:=g',drawn:=d',toks:=t'}:=by
 refine aL (id I.loc) fun m fW _=>?_;obtain⟨o,es,ep,ho,r⟩:=fW;obtain⟨sl,hL⟩:=u.any ho I.free fun z=>(QO _ z).2.1 rfl;exact I.step (ch:=ch) QO (fun b o hL hb hc e n=>u.keep b o e n (fun z=>(bD.mp (I.Gd b z)).elim hL hb) hc) (fun b o _ _ hc e n=>u.any e n hc) (fun b o hc e n=>u.free b o e n hc) (fun b o hc e=>u.there b o e hc) u.ql u.ya u.AF (fun m' hm=>by
  refine Cp hm fun o' Lf AI sR r'=>?_;clear hm;rw[ho]at sR;cases sR;exact⟨_,Lf,AI,hL,r'⟩) dX hg
def Inv.turned{t':Nat}{it:av}(I:Inv X ak σ H s)(k:∀b o,b≠it->s.heap.get? b=some o->h'.get? b=some o)(hn:H it=none)(hL:it≠X.env.locals)
  (h1:it∈X.ex\/X.iG.heap.objs.size<=it) (h2:∀x c,X.env.cells.lookup x=some c->c≠it) (h3:∀p∈X.pn++ak,p.1≠it):Inv X ak σ H {s with heap:=h',toks:=t'}:=by
 have nit:∀b u,H b=some u->b≠it:=fun b u e z=>by rw[z,hn]at e;cases e
 refine I.step (g':=s.gens) (d':=s.drawn) (ch:=[it]) (fun b hb=>?_) (fun b o _ _ hc e _=>k b o (fun z=>hc (by simp[z])) e) (fun b o _ _ hc e _=>⟨o.slots,k b o (fun z=>hc (by simp[z])) e⟩) (fun _ _ _ _ n=>n)
  (fun b o hc e=>⟨o,k b o (fun z=>hc (by simp[z])) e⟩) (fun _ _ e=>e) (fun _ _ _ e=>e) (fun _ _ _ e=>e) (fun m hm=>?_) (fun b u e=>?_) I.bare
 have e:b=it:=by simpa using hb
 subst e;exact⟨h1,hL,h2,h3⟩;refine Cp hm fun o es ep ho r=>?_;clear hm;exact⟨o,es,ep,k _ o (fm hL) ho,r⟩;refine(I.dX b u e).AE (fun c v hc q=>k c v ?_ q) (fun _ q=>q) (fun _ _ q=>q) fun _ zo _ q=>q;rcases hc with z|z;rw[z];exact nit b u e;exact nit c _ z
def Inv.tok(I:Inv X ak σ H s)(t:Nat):Inv X ak σ H {s with toks:=t}:=I.un (h':=s.heap) (t':=t) Un.refl I.dX
theorem Inv.kept(I:Inv X ak σ H s)(k:∀b u,s.heap.get? b=some u->h'.get? b=some u):Inv X ak σ H {s with heap:=h',toks:=t'}:=I.un (Un.kept k) (I.dX.kept k)
theorem Inv.laid(I:Inv X ak σ H s)(k:∀b u,s.heap.get? b=some u->h'.get? b=some u)(hp:s.heap.objs.size<=a)(new:i0 X.prog X.w (upd H a o) h' a o) :
  Inv X ak σ (upd H a o) {s with heap:=h',toks:=t'}:=I.un (Un.laid k hp (I.dX.fresh hp)) (I.dX.laid k hp new)
theorem Inv.write(I:Inv X ak σ H s)(mu:Mut (H x))(he:e=x\/H e=some (.own x))(k:∀b u,b≠e->s.heap.get? b=some u->h'.get? b=some u)(heo:∃u,h'.get? e=some u)
  (new:i0 X.prog X.w (upd H x o) h' x o):Inv X ak σ (upd H x o) {s with heap:=h',toks:=t'}:=I.un (Un.write mu he k heo) (I.dX.write mu he k heo new)
def Inv.qL(I:Inv X ak σ H s)(h:∀p∈ac1,s.heap.get? p.1=some p.2/\H p.1=none/\p.1≠X.env.locals/\p.1∉X.fs/\∀v,p.2.data≠ .cell v):Inv X ac1 σ H s:=
 ⟨I.ok,I.os,I.bare,I.base,I.loc,I.cell,I.free,I.mU,fun p hp=>(gW.mp hp).elim (fun z=>I.pin p (Cm _ z)) (h p),I.dX,I.len⟩
def Cr{N:List Str}(hN:N.Nodup){i j:Nat}(a:N[i]?=some x)(b:N[j]?=some x):i=j:=by
 obtain⟨h1,e1⟩:=fV.mp a;obtain⟨h2,e2⟩:=fV.mp b;exact(List.getElem_inj hN).mp (e1.trans e2.symm)
def yP{Q:Unit->ay->Prop}(I:Inv X ak σ H s)(hN:X.N.Nodup)(hi:X.N[i]?=some x)(hx:Loc X.env.scope x)(r:RelV v u)
  (h:∀s',Inv X ak (σ.set i (some v)) H s'->(∃a,jh a s.heap s'.heap/\(a=X.env.locals\/X.env.cells.lookup x=some a))->Q () s') (hf:X.fn x=true\/X.env.scope.names.lookup x=some .local:=by first|exact .inl rfl|exact .inr rfl|assumption):aC M A (storeName X.env x u) Q E s:=by
 refine aL (id I.loc) fun m hn hl=>?_;have aD2:(X.env.scope.kind == .class || (X.env.scope.kind == .module&&X.env.locals !=X.env.globals))=false:=by rw[I.ok.kind];rfl
 have ac2:i<σ.length:=by rw[I.len];exact(fV.mp hi).1
 have Wm:=I.Wm;have tracked:∀{a:av} {h':aN},(∃o,s.heap.get? a=some o/\H a=none)->jh a s.heap h'->rQ X.prog X.w H h':=fun {a h'} ha hs b ob e=>by refine aL ha fun _ _ I0=>?_;clear ha;refine(I.dX b ob e).AE (fun c w' hc q=>(hs.2 c ?_).trans q) (fun _ q=>q) (fun _ _ q=>q) fun _ zo _ q=>q;rintro rfl;rcases hc with rfl|hc;rw[I0]at e;cases e;rw[I0]at hc;cases hc
 rcases hx with hk|hk;refine wpAny_storeName_local hk hn (fun h' AJ hs=>?_) aD2;refine Cp (id hn) fun oL _ _ hoL _=>?_;refine h _ ⟨I.ok,I.os,I.bare,⟨fun b o e n hb hx=>?_,fun b o e n hb hx=>?_,I.base.free,fun b o e hx=>?_,I.base.ql,I.base.ya,I.base.AF⟩,⟨_,AJ,fun j y v' e1 e2 e3=>?_⟩,fun y c e=>?_,I.free,I.mU,fun p hp=>?_,tracked ⟨oL,hoL,I.free⟩ hs,by simpa using I.len⟩ ⟨_,hs,.inl rfl⟩;exact(hs.2 b (cu (gV (bQ e) I.ok.above))).trans (I.base.keep b o e n hb hx);obtain⟨sl,e1⟩:=I.base.slot b o e n hb hx;exact⟨sl,(hs.2 b (cu (gV (bQ e) I.ok.above))).trans e1⟩;obtain⟨o',e1⟩:=I.base.there b o e hx;exact⟨o',(hs.2 b (cu (gV (bQ e) I.ok.above))).trans e1⟩;by_cases hj:j=i;subst hj;rw[hi]at e1;cases e1;rw[l9 ac2]at e2;cases e2;exact⟨u,r,.inl ⟨hk,by simp⟩⟩;rw[kF (fm hj)]at e2;refine aL (hl j y v' e1 e2 e3) fun u' r' q=>?_;refine⟨u',r',?_⟩;rcases q with⟨k,e⟩|⟨k,c,e,z⟩;refine .inl ⟨k,?_⟩;have:y≠x:=fun e=>hj (Cr hN e1 (e▸hi));simp[this,e];exact .inr ⟨k,c,e,z.sameBut hs (Wm y c e)⟩;obtain⟨w',z⟩:=I.cell y c e;exact⟨w',z.sameBut hs (Wm y c e)⟩;refine AA (I.pin p hp) fun e n ne nf d=>?_;exact⟨(hs.2 p.1 ne).trans e,n,ne,nf,d⟩;have hfn:X.fn x=true:=by rcases hf with z|z;exact z;rw[z]at hk;cases hk
 obtain⟨c,hc⟩:=I.ok.has x (.inl hk);obtain⟨w',z⟩:=I.cell x c hc;refine wpAny_storeName_cell I.ok.kind hk hc z (fun h' rS hs=>?_);refine aL (id z) fun oc hoc aD3=>?_;refine h {s with heap:=h'} ⟨I.ok,I.os,I.bare,⟨fun b o e n hb hx=>?_,fun b o e n hb hx=>?_,I.base.free,fun b o e hx=>?_,I.base.ql,I.base.ya,I.base.AF⟩,⟨m,hn.sameBut hs (fm (Wm x c hc)),fun j y v' e1 e2 e3=>?_⟩,fun y c' e=>?_,I.free,I.mU,fun p hp=>?_,tracked ⟨oc,hoc,I.mU x c hc⟩ hs,by simpa using I.len⟩ ⟨c,hs,.inr hc⟩;exact(hs.2 b (cu (gV (bQ e) (I.ok.Wl x c hfn hc)))).trans (I.base.keep b o e n hb hx);obtain⟨sl,e1⟩:=I.base.slot b o e n hb hx;exact⟨sl,(hs.2 b (cu (gV (bQ e) (I.ok.Wl x c hfn hc)))).trans e1⟩;obtain⟨o',e1⟩:=I.base.there b o e hx;exact⟨o',(hs.2 b (cu (gV (bQ e) (I.ok.Wl x c hfn hc)))).trans e1⟩;by_cases hj:j=i;subst hj;rw[hi]at e1;cases e1;rw[l9 ac2]at e2;cases e2;exact⟨u,r,.inr ⟨.inl hk,c,hc,rS⟩⟩;rw[kF (fm hj)]at e2;refine aL (hl j y v' e1 e2 e3) fun u' r' q=>?_;refine⟨u',r',?_⟩;rcases q with q|⟨k,c',e,z'⟩;exact .inl q;refine .inr ⟨k,c',e,z'.sameBut hs ?_⟩;rintro rfl;exact hj (Cr hN e1 (I.ok.inj _ _ _ e hc▸hi));by_cases hcc:c'=c;subst hcc;exact⟨_,rS⟩;obtain⟨w2,z2⟩:=I.cell y c' e;exact⟨w2,z2.sameBut hs hcc⟩;refine AA (I.pin p hp) fun e n ne nf d=>?_;refine⟨(hs.2 p.1 ?_).trans e,n,ne,nf,d⟩;intro q;rw[q,hoc]at e;have q':oc=p.2:=dN e;exact d w' (by rw[<- q'];exact aD3)
def jR{Q:Unit->ay->Prop}(I:Inv X ak σ H s)(hN:X.N.Nodup)(hi:X.N[i]?=some x)(hx:Loc X.env.scope x)(r:RelV v u)
  (h:∀s',Inv X ak (σ.set i (some v)) H s'->Q () s') (hf:X.fn x=true\/X.env.scope.names.lookup x=some .local:=by first|exact .inl rfl|exact .inr rfl|assumption):aC M A (storeName X.env x u) Q E s:=
 yP I hN hi hx r (fun s' I' _=>h s' I') hf
def Inv.Cs{s':ay}(I:Inv X ak σ H s)(ho:s'.os=s.os)(u:Un (rR X.stack) ch H H' s.heap s'.heap)(dX:rQ X.prog X.w H' s'.heap)(hg:AllBare s'.gens)
  (QO:∀b∈ch,(b∈X.ex\/X.iG.heap.objs.size<=b)/\b≠X.env.locals/\(∀x c,X.env.cells.lookup x=some c->c≠b)/\∀p∈X.pn++ak,p.1≠b):Inv X ak σ H' s':=by
 obtain⟨h',g',d',t',o'⟩:=s';have e:o'=s.os:=ho;subst e;exact I.call (g':=g') (t':=t') (d':=d') u dX hg QO
end
abbrev XK:=au->Option av->Hp->Prop
abbrev St:=List (Option V)
abbrev VK:=V->Hp->Prop
abbrev TE:=St->Hp->VK->Prop
abbrev TT:=St->Hp->(Bool->Hp->Prop)->Prop
abbrev TA:=St->Hp->(List V->Hp->Prop)->Prop
structure Ends where
 nx:St->Hp->Prop
 rt:VK
 bk:St->Hp->Prop:=fun _ _=>False
 ct:St->Hp->Prop:=fun _ _=>False
abbrev TS:=Ends->St->Hp->Prop
def EP(X:Cx)(ak:List (av×Obj))(σ:St)(Q:VK)(u:au)(s':ay):Prop:=∃v H',Inv X ak σ H' s'/\RelV v u/\Q v H'
def TP(X:Cx)(ak:List (av×Obj))(σ:St)(Q:Bool->Hp->Prop)(b:Bool)(s':ay):Prop:=∃H',Inv X ak σ H' s'/\Q b H'
def AP(X:Cx)(ak:List (av×Obj))(σ:St)(Q:List V->Hp->Prop)(us:List au)(s':ay):Prop:=∃vs H',Inv X ak σ H' s'/\Vals vs us/\Q vs H'
def SP(X:Cx)(ak:List (av×Obj))(D:Ends)(f:Flow)(s':ay):Prop:=
 match f with
 | .next=>∃cz H',Inv X ak cz H' s'/\D.nx cz H'
 | .brk=>∃cz H',Inv X ak cz H' s'/\D.bk cz H'
 | .cont=>∃cz H',Inv X ak cz H' s'/\D.ct cz H'
 | .ret u=>∃v cz H',Inv X ak cz H' s'/\RelV v u/\D.rt v H'
def PE(X:Cx)(e:bf)(t:TE):Prop:=
 ∀(ak:List (av×Obj)) (s:ay) (σ:St) (H:Hp) (Q:VK),Inv X ak σ H s->t σ H Q->aC (aF X.prog X.w) X.A (eval e X.env) (EP X ak σ Q) X.xe s
def PT(X:Cx)(e:bf)(t:TT):Prop:=
 ∀(ak:List (av×Obj)) (s:ay) (σ:St) (H:Hp) (Q:Bool->Hp->Prop),Inv X ak σ H s->t σ H Q->aC (aF X.prog X.w) X.A (isTrue e X.env (eval e X.env)) (TP X ak σ Q) X.xe s
def PW(X:Cx)(e:bf)(t:TT):Prop:=
 ∀(whole:Sem au) (ak:List (av×Obj)) (s:ay) (σ:St) (H:Hp) (Q:Bool->Hp->Prop),Inv X ak σ H s->t σ H Q->aC (aF X.prog X.w) X.A (isTrue e X.env whole) (TP X ak σ Q) X.xe s
def PW.pt(h:PW X e t):PT X e t:=h _
def PA(X:Cx)(es:List bf)(t:TA):Prop:=
 ∀(pos:Pos) (ak:List (av×Obj)) (s:ay) (σ:St) (H:Hp) (Q:List V->Hp->Prop),Inv X ak σ H s->t σ H Q->aC (aF X.prog X.w) X.A (spliced (backTo pos (bJ es X.env))) (AP X ak σ Q) X.xe s
def PS(X:Cx)(st:aW)(t:TS):Prop:=
 ∀(ak:List (av×Obj)) (s:ay) (σ:St) (H:Hp) (D:Ends),Inv X ak σ H s->t D σ H->aC (aF X.prog X.w) X.A (exec st X.env) (SP X ak D) X.xe s
def mZ(X:Cx)(st:List aW)(t:TS):Prop:=
 ∀(ak:List (av×Obj)) (s:ay) (σ:St) (H:Hp) (D:Ends),Inv X ak σ H s->t D σ H->aC (aF X.prog X.w) X.A (execs st X.env) (SP X ak D) X.xe s
def gA{Q':α->ay->Prop}(h:aC M A t Q E s)(hQ:∀a s,Q a s->Q' a s):aC M A t Q' E s:=gv h hQ fun _ _ x=>x
section
variable {X:Cx}
def qM(i:Nat):TE:=fun σ H Q=>∃v,σ[i]?=some (some v)/\Q v H
def tC(v:V):TE:=fun _ H Q=>Q v H
def Wn(hN:X.N[i]?=some x)(hv:Vis X.env.scope x)(hd:(x==("__debug__" : Str))=false:=by decide)(Ge:(x==("__classdict__" : Str))=false:=by decide):PE X (.Name x pos) (qM i):=by
 intro ak s σ H Q I h;obtain⟨v,e,h⟩:=h;obtain⟨m,hn,hl⟩:=I.loc;obtain⟨u,r,l⟩:=hl i x v hN e hv;have fin:EP X ak σ Q u s:=⟨v,H,I,r,h⟩
 rcases l with⟨hk,hm⟩|⟨hk,c,hc,vJ⟩;exact Lr (wpAny_loadName_local I.ok.kind hk hn hm fin) hd;rcases hk with hk|hk;exact Lr (wpAny_loadName_cell I.ok.kind hk hc vJ fin) hd;exact Lr (wpAny_loadName_free I.ok.kind hk hc vJ fin Ge) hd
def Wo{i j pos}:PE X (.Constant (.int i) j pos) (tC (.int i)):=fun _ _ _ H _ I h=>wpAny_Constant_int ⟨.int i,H,I.tok _,⟨_,rfl⟩,h⟩
def ac3{b j pos}:PE X (.Constant (.bool b) j pos) (tC (.bl b)):=fun _ _ _ H _ I h=>Constant_bool ⟨.bl b,H,I,rfl,h⟩
def Wq{x j pos}:PE X (.Constant (.str x) j pos) (tC (.str x)):=fun _ _ _ H _ I h=>Vk ⟨.str x,H,I.tok _,⟨_,rfl⟩,h⟩
def Gl(X:Cx)(x:Str):Prop:=X.env.kindOf x=some .globalImplicit
def p9{Q:au->ay->Prop}(I:Inv X ak σ H s)(hg:Gl X x)(hm:X.mg x=some u)(h:Q u s)
  (hd:(x==("__debug__" : Str))=false:=by decide):aC (aF X.prog X.w) X.A (eval (.Name x pos) X.env) Q E s:=
 Vl I.ok.kind hg (Calls.loadGlobal_global (by rw[I.ok.glob];exact I.mod.glob.keeps I.bk) hm h) hd
def qm{Q:au->ay->Prop}(I:Inv X ak σ H s)(hg:Gl X x)(hm:X.mg x=none)(hv:gY x=some u)(h:Q u s)
  (hn:x≠ "__name__":=by decide) (hd:(x==("__debug__" : Str))=false:=by decide):aC (aF X.prog X.w) X.A (eval (.Name x pos) X.env) Q E s:=by
 refine aL I.mod.blt fun mb h1 h2=>?_;exact Vl I.ok.kind hg (Calls.loadGlobal_builtin (by rw[I.ok.glob];exact I.mod.glob.keeps I.bk) hm (by rw[I.ok.blt];exact h1.keeps I.bk) ((h2 x hn).trans hv) h) hd
def Ri(hg:Gl X x)(hm:X.mg x=some u)(r:RelV v u)(hd:(x==("__debug__" : Str))=false:=by decide):PE X (.Name x pos) (tC v):=
 fun _ _ _ H _ I h=>p9 I hg hm ⟨v,H,I,r,h⟩ hd
def Rj(hg:Gl X x)(hm:X.mg x=none)(hv:gY x=some u)(r:RelV v u)(hn:x≠ "__name__":=by decide)(hd:(x==("__debug__" : Str))=false:=by decide):PE X (.Name x pos) (tC v):=
 fun _ _ _ H _ I h=>qm I hg hm hv ⟨v,H,I,r,h⟩ hn hd
variable {a b:bf}{ta tb:TE}{pos:Pos}
def tB(t:TE):TT:=fun σ H Q=>t σ H fun x H1=>∃c,x = .bl c/\Q c H1
def Wr(h:PE X e t)(he:∀whole,isTrue e X.env whole=(do let v <- whole;standAt e.pos;holding [v] (truthy v)):=by intro _;rfl):PT X e (tB t):=by
 intro ak s σ H Q I hw;refine isTrue_plain (gA (h ak s σ H _ I hw) fun v s1 Gf=>?_) (he _);refine b7 Gf fun x H1 I1 r1 q1=>?_;clear Gf;refine aL q1 fun d fW q=>?_;clear q1;obtain rfl:=fW;cases r1;exact vc ⟨H1,I1,q⟩
variable {tA tB':TT}{rest:List bf}
def aD4(t u:TT):TT:=fun σ H Q=>t σ H fun c H1=>if c=true then u σ H1 Q else Q false H1
def tOr(t u:TT):TT:=fun σ H Q=>t σ H fun c H1=>if c=true then Q true H1 else u σ H1 Q
def aD5(t:TT):TT:=fun σ H Q=>t σ H fun c H1=>Q (!c) H1
def pw_and1(ha:PT X a tA):PW X (.BoolOp .And [a] pos) tA:=by
 intro wh ak s σ H Q I h;refine isTrue_and (gA (ha ak s σ H Q I h) fun c s1 e=>?_);cases c with
 | true=>exact isTrue_and_nil e
 | false=>exact e
def pw_or1(ha:PT X a tA):PW X (.BoolOp .Or [a] pos) tA:=by
 intro wh ak s σ H Q I h;refine isTrue_or (gA (ha ak s σ H Q I h) fun c s1 e=>?_);cases c with
 | false=>exact isTrue_or_nil e
 | true=>exact e
def pw_and(ha:PT X a tA)(hb:PW X (.BoolOp .And (b::rest) pos) tB'):PW X (.BoolOp .And (a::b::rest) pos) (aD4 tA tB'):=by
 intro wh ak s σ H Q I h;refine isTrue_and (gA (ha ak s σ H _ I h) fun c s1 I8=>?_);refine aL I8 fun H1 I1 q1=>?_;clear I8;cases c with
 | true=>exact hb wh ak s1 σ H1 Q I1 q1
 | false=>exact⟨H1,I1,q1⟩
def pw_or(ha:PT X a tA)(hb:PW X (.BoolOp .Or (b::rest) pos) tB'):PW X (.BoolOp .Or (a::b::rest) pos) (tOr tA tB'):=by
 intro wh ak s σ H Q I h;refine isTrue_or (gA (ha ak s σ H _ I h) fun c s1 Ia=>?_);refine aL Ia fun H1 I1 q1=>?_;clear Ia;cases c with
 | true=>exact⟨H1,I1,q1⟩
 | false=>exact hb wh ak s1 σ H1 Q I1 q1
def Ws(ha:PT X a tA):PT X (.UnaryOp .Not a pos) (aD5 tA):=by
 intro ak s σ H Q I h;exact isTrue_not (ha ak s σ H (fun c H1=>Q (!c) H1) I h)
def ac4(ta tb:TE):TE:=fun σ H Q=>ta σ H fun x H1=>∃c,x = .bl c/\if c=true then tb σ H1 Q else Q (.bl false) H1
def Wt{op}(h:PE X a t):PE X (.BoolOp op [a] pos) t:=fun ak s σ H Q I hw=>BoolOp_one (h ak s σ H Q I hw)
def Wu(ha:PE X a ta)(hb:PE X (.BoolOp .And (b::rest) pos) tb):PE X (.BoolOp .And (a::b::rest) pos) (ac4 ta tb):=by
 intro ak s σ H Q I h;refine BoolOp_and (gA (ha ak s σ H _ I h) fun v s1 AK=>?_);obtain⟨x,H1,I1,r1,q1⟩:=AK;obtain⟨c,rfl,q1⟩:=q1;cases r1;refine vc ?_;cases c with
 | true=>exact hb ak s1 σ H1 Q I1 q1
 | false=>exact⟨.bl false,H1,I1,rfl,q1⟩
end
def ja(K:aD)(H:Hp)(a:av)(xs:List V):Prop:=
 Rd H a (.lst xs)\/
  ∃(o:Obj) (b6:Array au) (n:Nat),K.lookup a=some o/\o.cls = .type "list" /\o.dict=none/\o.data = .seq b6 n/\b6.size<=bO/\Vals xs b6.toList
def jA(K:aD)(H:Hp)(a:av)(xs:List V):Prop:=
 Rd H a (.tup xs)\/
  ∃(o:Obj) (b6:Array au) (n:Nat),K.lookup a=some o/\o.cls = .type "tuple" /\o.data = .seq b6 n/\b6.size<=bO/\Vals xs b6.toList
def aD6:au->Option V
 | .none=>some .cH
 | .bool b=>some (.bl b)
 | .int i _=>some (.int i)
 | .str x _=>some (.str x)
 | .bytes b _=>some (.byt b)
 | .float b _=>some (.flt b)
 | .ref a=>some (.ref a)
 | .type n=>some (.ty n)
 | _=>none
def RelV.abs(r:RelV x u):aD6 u=some x:=by
 cases x with
 | cH=>cases r;rfl
 | bl _=>cases r;rfl
 | int _=>obtain⟨t,rfl⟩:=r;rfl
 | str _=>obtain⟨t,rfl⟩:=r;rfl
 | byt _=>obtain⟨t,rfl⟩:=r;rfl
 | flt _=>obtain⟨t,rfl⟩:=r;rfl
 | ref _=>cases r;rfl
 | ty _=>cases r;rfl
def RelV.inj(r:RelV x u)(q:RelV y u):x=y:=dN (r.abs.symm.trans q.abs)
theorem Vals.inj(h:Vals xs us)(h':Vals ys us):xs=ys:=by
 induction h generalizing ys with
 | nil=>cases h';rfl
 | cons r t ih=>
  cases h' with
  | cons r' t'=>rw[r.inj r',ih t']
section
def ja.of{K:aD}(h:H a=some (.lst xs)):ja K H a xs:=.inl (.inl h)
def jA.of{K:aD}(h:H a=some (.tup xs)):jA K H a xs:=.inl (.inl h)
def Inv.list(I:Inv X ak σ H s)(h:ja X.K H a xs):∃b6:List au,Vals xs b6/\PlainL s.heap a b6.toArray/\xs.length<=bO:=by
 rcases h with h|⟨o,b6,n,hk,hc,hd,hs,hz,r⟩;obtain⟨z,b6,n,r,e⟩:=h.ok I.dX;exact⟨b6,r,⟨_,n,e,rfl,rfl,rfl⟩,z⟩;refine⟨b6.toList,r,⟨o,n,I.Ce a o hk,hc,hd,by simpa using hs⟩,?_⟩;have e:=r.length;simp only[fK]at e;lia
def Inv.tuple(I:Inv X ak σ H s)(h:jA X.K H a xs):∃b6:List au,Vals xs b6/\IsTup s.heap a b6.toArray/\xs.length<=bO:=by
 rcases h with h|⟨o,b6,n,hk,hc,hs,hz,r⟩;obtain⟨z,b6,r,p⟩:=h.ok I.dX;exact⟨b6,r,p,z⟩;refine⟨b6.toList,r,⟨o,I.Ce a o hk,hc,n,by simpa using hs⟩,?_⟩;have e:=r.length;simp only[fK]at e;lia
def Inv.Ct(I:Inv X ak σ H s)(h:ja X.K H a xs)(h':ja X.K H a ys):xs=ys:=by
 refine bK (I.list h) fun b6 r aT _=>?_;obtain⟨o,n,e,_,_,d⟩:=aT;refine bK (I.list h') fun its' r' aT _=>?_;obtain⟨o',n',e',_,_,d'⟩:=aT;rw[e]at e';cases e';rw[d]at d';injection d' with d1 _;have:b6=its':=by simpa using congrArg Array.toList d1
 subst this;exact r.inj r'
def Inv.Jv(I:Inv X ak σ H s)(h:jA X.K H a xs)(h':jA X.K H a ys):xs=ys:=by
 refine bK (I.tuple h) fun b6 r aT _=>?_;obtain⟨o,e,_,n,d⟩:=aT;refine bK (I.tuple h') fun its' r' aT _=>?_;obtain⟨o',e',_,n',d'⟩:=aT;rw[e]at e';cases e';rw[d]at d';injection d' with d1 _;have:b6=its':=by simpa using congrArg Array.toList d1
 subst this;exact r.inj r'
end
abbrev Cx.cK(X:Cx)(E:au->ay->Prop):Cx:={X with xe:=E}
theorem Cx.Ok.cK{X:Cx}(ok:X.Ok)(E:au->ay->Prop):(X.cK E).Ok:=
 ⟨ok.mod,ok.kind,ok.glob,ok.blt,ok.above,ok.inj,ok.has,ok.Wl,ok.hd,ok.frames,ok.Le,ok.exf,ok.bs,ok.Na,ok.Ga,ok.Gb,ok.qK,ok.Rh⟩
def Cx.Ok.gn{X:Cx}(ok:(X.cK E).Ok):X.Ok:=
 ⟨ok.mod,ok.kind,ok.glob,ok.blt,ok.above,ok.inj,ok.has,ok.Wl,ok.hd,ok.frames,ok.Le,ok.exf,ok.bs,ok.Na,ok.Ga,ok.Gb,ok.qK,ok.Rh⟩
section
theorem Inv.cK(I:Inv X ak σ H s)(E:au->ay->Prop):Inv (X.cK E) ak σ H s:=⟨I.ok.cK E,I.os,I.bare,I.base,I.loc,I.cell,I.free,I.mU,I.pin,I.dX,I.len⟩
theorem Inv.gn(I:Inv (X.cK E) ak σ H s):Inv X ak σ H s:=⟨I.ok.gn,I.os,I.bare,I.base,I.loc,I.cell,I.free,I.mU,I.pin,I.dX,I.len⟩
theorem SP.gn(h:SP (X.cK E) ak D f s'):SP X ak D f s':=by
 cases f with
 | next=>obtain⟨cz,H',I,q⟩:=h;exact⟨cz,H',I.gn,q⟩
 | brk=>obtain⟨cz,H',I,q⟩:=h;exact⟨cz,H',I.gn,q⟩
 | cont=>obtain⟨cz,H',I,q⟩:=h;exact⟨cz,H',I.gn,q⟩
 | ret u=>obtain⟨v,cz,H',I,r,q⟩:=h;exact⟨v,cz,H',I.gn,r,q⟩
end
section
variable {X:Cx}{st:aW}{rest:List aW}{t u:TS}
def ac5:TS:=fun D σ H=>D.nx σ H
def ac6(t u:TS):TS:=fun D σ H=>t {D with nx:=u D} σ H
def Rk:mZ X [] ac5:=fun _ _ σ H _ I h=>Ci ⟨σ,H,I,h⟩
def Cu(h1:PS X st t)(h2:mZ X rest u):mZ X (st::rest) (ac6 t u):=by
 intro ak s σ H D I h;refine Ls (gA (h1 ak s σ H {D with nx:=u D} I h) fun f s1 q=>?_);cases f with
 | next=>obtain⟨cz,H',I',q⟩:=q;exact h2 ak s1 cz H' D I' q
 | ret v=>exact q
 | brk=>exact q
 | cont=>exact q
def Ib(h1:PS X st t):mZ X [st] t:=by
 intro ak s σ H D I h;refine Ls (gA (h1 ak s σ H D I h) fun f s1 q=>?_);cases f with
 | next=>exact Ci q
 | ret v=>exact q
 | brk=>exact q
 | cont=>exact q
def Inv.quiet(I:Inv X ak σ H s):interactive X.env=false:=by simp[interactive,I.ok.kind]
def Vq(te:TE):TS:=fun D σ H=>te σ H fun _ H1=>D.nx σ H1
def AL(he:PE X e te)(hs:swapsWith e none pos.line X.env=pure false:=by rfl):PS X (.Expr e pos) (Vq te):=by
 intro ak s σ H D I h;exact wpAny_Expr_any (gA (he ak s σ H _ I h) fun v s1 Wv=>Wv.elim fun x aD7=>aD7.elim fun H1 aD8=>aD8.elim fun I1 aD9=>aD9.elim fun r1 q1=>⟨σ,H1,I1,q1⟩) I.quiet hs
def aE0(te:TE):TS:=fun D σ H=>te σ H D.rt
def Ww(he:PE X e te):PS X (.Return (some e) pos) (aE0 te):=by
 intro ak s σ H D I h;exact wpAny_Return_some (gA (he ak s σ H _ I h) fun v s1 aE1=>aE1.elim fun x aE2=>aE2.elim fun H1 aE3=>aE3.elim fun I1 aE4=>aE4.elim fun r1 q1=>⟨x,σ,H1,I1,r1,q1⟩)
def aE5(c:TT)(t u:TS):TS:=fun D σ H=>c σ H fun b H1=>if b=true then t D σ H1 else u D σ H1
def ac7(hc:PT X c tc)(ha:mZ X a t)(hb:mZ X b u):PS X (.If c a b pos) (aE5 tc t u):=by
 intro ak s σ H D I h;refine wpAny_If (gA (hc ak s σ H _ I h) fun d s1 ac8=>?_);refine aL ac8 fun H1 I1 q1=>?_;clear ac8;cases d with
 | true=>exact ha ak s1 σ H1 D I1 q1
 | false=>exact hb ak s1 σ H1 D I1 q1
end
abbrev TG:=V->St->Hp->(St->Hp->Prop)->Prop
abbrev TGs:=List V->St->Hp->(St->Hp->Prop)->Prop
def PG(X:Cx)(target:bf)(t:TG):Prop:=
 ∀(ak:List (av×Obj)) (s:ay) (σ:St) (H:Hp) (v:V) (u:au) (Q:St->Hp->Prop),Inv X ak σ H s->RelV v u->t v σ H Q->
  aC (aF X.prog X.w) X.A (assign target X.env u) (fun _ s'=>∃cz H',Inv X ak cz H' s'/\Q cz H') X.xe s
def PGs(X:Cx)(ts:List bf)(t:TGs):Prop:=
 ∀(ak:List (av×Obj)) (s:ay) (σ:St) (H:Hp) (vs:List V) (us:List au) (Q:St->Hp->Prop),Inv X ak σ H s->Vals vs us->t vs σ H Q->
  aC (aF X.prog X.w) X.A (assignInOrder ((qB ts X.env).map (·.2)) us) (fun _ s'=>∃cz H',Inv X ak cz H' s'/\Q cz H') X.xe s
abbrev ac9:=V->V->V->Hp->(Hp->Prop)->Prop
def Wx(X:Cx)(t:ac9):Prop:=
 ∀(ak:List (av×Obj)) (s:ay) (σ:St) (H:Hp) (o i v:V) (ov iv u:au) (Q:Hp->Prop),Inv X ak σ H s->RelV o ov->RelV i iv->RelV v u->t o i v H Q->
  aC (aF X.prog X.w) X.A (setItem ov iv u) (fun _ s'=>∃H',Inv X ak σ H' s'/\Q H') X.xe s
section
def Cv(i:Nat):TG:=fun v σ H Q=>Q (σ.set i (some v)) H
def cS(hN:X.N.Nodup)(hi:X.N[i]?=some x)(hx:Loc X.env.scope x)(hf:X.fn x=true\/X.env.scope.names.lookup x=some .local:=by first|exact .inl rfl|exact .inr rfl|assumption):PG X (.Name x pos) (Cv i):=by
 intro ak s σ H v u Q I r h;exact Vf (jR I hN hi hx r (fun s' I'=>⟨_,H,I',h⟩) hf)
def ad0:TGs:=fun vs σ H Q=>vs=[]/\Q σ H
def Nb(t:TG)(u:TGs):TGs:=fun vs σ H Q=>∃v r,vs=v::r/\t v σ H fun cz H'=>u r cz H' Q
def qN:PGs X [] ad0:=by
 intro ak s σ H vs us Q I r h;obtain⟨e,h⟩:=h;subst e;cases r;exact MD ⟨σ,H,I,h⟩
def i6(h1:PG X e t)(h2:PGs X es u)
  (hs:(qB (e::es) X.env).map (·.2)=assign e X.env::(qB es X.env).map (·.2):=by rfl):PGs X (e::es) (Nb t u):=by
 intro ak s σ H vs us Q I r h;obtain⟨v,vr,e1,h⟩:=h;subst e1;cases r with
 | cons r rr=>rw[hs];refine yO (gA (h1 ak s σ H _ _ _ I r h) fun _ s1 ad1=>?_);refine cj ad1 fun EG H1 I1 q1=>?_;clear ad1;exact h2 ak s1 EG H1 _ _ Q I1 rr q1
def ad2(K:aD)(n:Nat)(t:TGs):TG:=fun v σ H Q=>∃a xs,v = .ref a/\jA K H a xs/\xs.length=n/\t xs σ H Q
def vK(hc:X.calm=true)(h:PGs X es t)
  (hn:(qB es X.env).length=n:=by rfl) (pK:(qB es X.env).findIdx? (·.1)=none:=by rfl):PG X (.Tuple es k pos) (ad2 X.K n t):=by
 intro ak s σ H v u Q I r hw;obtain⟨a,xs,e1,hq,hl,hw⟩:=hw;subst e1;cases r;obtain⟨b6,rv,ht,hz⟩:=I.tuple hq;refine assign_Tuple_tuple (I.ok.hd hc) ht (by simp[hn,<- hl,rv.length]) pK fun h' hx=>?_;have I1:Inv X ak σ H {s with heap:=h'}:=I.kept (t':=s.toks) fun b o e=>hx b o (cu (bQ e)) e;exact h ak _ σ H xs _ Q I1 (by simpa using rv) hw
def kE(to ti:TE)(t:ac9):TG:=fun v σ H Q=>to σ H fun o H1=>ti σ H1 fun i H2=>t o i v H2 fun H3=>Q σ H3
def Nc(ho:PE X o to)(hi:PE X i ti)(hs:Wx X t)
  (ha:∀v,assign (.Subscript o i pos) X.env v=(do
   let ov <- holding [v] (eval o X.env)
   let iv <- holding [v,ov] (eval i X.env)
   standAt pos
   holding [v,ov,iv] (setItem ov iv v)
   release [v,ov,iv] []):=by intro _;rfl):PG X (.Subscript o i pos) (kE to ti t):=by
 intro ak s σ H v u Q I r h;rw[ha];refine aq (jg (gA (ho ak s σ H _ I h) fun ov s1 ad3=>?_));refine b7 ad3 fun x H1 I1 r1 q1=>?_;clear ad3;refine aq (jg (gA (hi ak s1 σ H1 _ I1 q1) fun iv s2 ad4=>?_));refine b7 ad4 fun y H2 I2 r2 q2=>?_;clear ad4;refine aq (yL (aq (jg (gA (hs ak s2 σ H2 x y v ov iv u _ I2 r1 r2 r q2) fun _ s3 ad5=>?_))));refine aL ad5 fun H3 I3 q3=>?_;clear ad5;exact wpAny_release ⟨σ,H3,I3,q3⟩
def ad6(te:TE)(g:TG):TS:=fun D σ H=>te σ H fun x H1=>g x σ H1 D.nx
def Gg(he:PE X e te)(hg:PG X tg g)(hs:swapsWithSole [tg] e pos.line X.env=pure false:=by rfl)(hw:swappedStores [tg] e X.env=pure none:=by rfl)
  (h1:(qB [tg] X.env).map (·.2)=[assign tg X.env]:=by rfl):PS X (.Assign [tg] e pos) (ad6 te g):=by
 intro ak s σ H D I h;refine wpAny_Assign_stores (gA (he ak s σ H _ I h) fun v s1 ad7=>?_) hs hw;refine b7 ad7 fun x H1 I1 r1 q1=>?_;clear ad7;rw[h1];exact gA (hg ak s1 σ H1 x v _ I1 r1 q1) fun _ s2 q=>q
def Nd(hN:X.N.Nodup)(hi:X.N[i]?=some x)(hx:Loc X.env.scope x)(he:PE X e te)(hs:swapsWith e (some (.Name x pos')) pos.line X.env=pure false:=by rfl)(hf:X.fn x=true\/X.env.scope.names.lookup x=some .local:=by first|exact .inl rfl|exact .inr rfl|assumption) :
  PS X (.Assign [.Name x pos'] e pos) (ad6 te (Cv i)):=by
 intro ak s σ H D I h;refine wpAny_Assign_Name (gA (he ak s σ H _ I h) fun v s1 ad8=>?_) hs;refine b7 ad8 fun y H1 I1 r1 q1=>?_;clear ad8;exact jR I1 hN hi hx r1 (fun s2 I2=>⟨_,H1,I2,q1⟩) hf
def aE6(i j:Nat)(ta:TA):TS:=fun D σ H=>ta σ H fun vs H1=>∃v w,vs=[v,w]/\D.nx ((σ.set i (some v)).set j (some w)) H1
def Wy{kt k2 Gh}(hc:X.calm=true)(hN:X.N.Nodup)(hi:X.N[i]?=some x)(hj:X.N[j]?=some y)(pM:i≠j)
  (hx:X.env.scope.names.lookup x=some .local) (hy:X.env.scope.names.lookup y=some .local) (ha:PA X [a,b] ta)
  (hw:swappedStores [.Tuple [.Name x px,.Name y py] kt pt] (.Tuple [a,b] k2 Gh) X.env=pure (some [x,y]))
  (hs:swapsWithSole [.Tuple [.Name x px,.Name y py] kt pt] (.Tuple [a,b] k2 Gh) pos.line X.env=pure false:=by rfl) :
  PS X (.Assign [.Tuple [.Name x px,.Name y py] kt pt] (.Tuple [a,b] k2 Gh) pos) (aE6 i j ta):=by
 intro ak s σ H D I h;rw[exec_Assign_arm];refine aq (yL ?_);rw[hs];refine aq (aG ?_);rw[aU4 (by decide)];refine aq (Tuple_ (gA (ha _ ak s σ H _ I h) fun us s1 ad9=>?_));refine b7 ad9 fun vs H1 I1 r1 q1=>?_;clear ad9;obtain⟨v,w,e1,q1⟩:=q1;subst e1;obtain⟨u1,u2,rfl,rv,Jw⟩:∃u1 u2,us=[u1,u2]/\RelV v u1/\RelV w u2:=by
  cases r1 with
  | cons p q=>
   cases q with
   | cons p' q'=>cases q';exact⟨_,_,rfl,p,p'⟩
 refine qC ?_ (by show 2<=bO;decide);have I2:Inv X ak σ H1 {s1 with heap:=s1.heap.push {cls:=.type "tuple",data:=.seq [u1,u2].toArray}}:=I1.kept (t':=s1.toks) fun b o e=>bV _ e;rw[hw];refine aq (aG ?_);show aC (aF X.prog X.w) X.A (do rule "assign.swapped-stores";let items <- unpackItems (.ref s1.heap.objs.size) 2 none;assignInOrder [fun v=>bindName X.env y v,fun v=>bindName X.env x v] items.reverse;pure Flow.next) _ _ _;refine aq (yM (aq (Vm (items:=#[u1,u2]) (I.ok.hd hc) (MF s1.heap _) fun h' qO=>?_)));have I3:=I2.kept (h':=h') (t':=s1.toks) fun b o e=>qO b o (cu (bQ e)) e;show aC _ _ (assignInOrder [fun v=>bindName X.env y v,fun v=>bindName X.env x v] [u2,u1]>>=fun _=>pure Flow.next) _ _ _;refine aq (yO (Cj (jR I3 hN hj (.inl hy) Jw (fun s2 I4=>?_) (.inr hy))));refine yO (Cj (jR I4 hN hi (.inl hx) rv (fun s3 I5=>MD (aG ?_)) (.inr hx)));rw[List.set_comm _ _ (fm pM)]at I5;exact⟨_,H1,I5,q1⟩
end
section
def Wz(c:TT)(tb:TS):TS:=fun D σ H=>∃W:Nat->St->Hp->Prop,(∃m,W m σ H)/\∀m σ H,W m σ H->
 c σ H fun b H1=>if b=true then ∃N:St->Hp->Prop,(∀cz H',N cz H'->∃m',m'<m/\W m' cz H')/\tb {D with nx:=N,ct:=N,bk:=D.nx} σ H1 else D.nx σ H1
def Nf(hp:PassesOwn (aF X.prog X.w) X.A X.env X.xe)(hc:PT X c tc)(hb:mZ X body tb):PS X (.While c body [] pos) (Wz tc tb):=by
 intro ak s σ H D I h;refine aL h fun W fW turn=>?_;clear h;obtain⟨m0,w0⟩:=fW;refine wpAny_While (codeAny_whileLoop (fun n s'=>∃cz H',Inv X ak cz H' s'/\W n cz H') ?_ m0 ⟨σ,H,I,w0⟩);rintro n s1 ⟨EG,H1,I1,w1⟩;refine vd hp (gA (hc ak s1 EG H1 _ I1 (turn n EG H1 w1)) fun b s2 ae0=>?_);refine aL ae0 fun H2 I2 q2=>?_;clear ae0;cases b with
 | true=>
  obtain⟨N,hN,q2⟩:=q2;rw[aU3 rfl];refine vd hp (gA (hb ak s2 EG H2 _ I2 q2) fun f s3 q3=>?_);cases f with
  | next=>refine cj q3 fun Cw H3 I3 n3=>?_;clear q3;refine aL (hN Cw H3 n3) fun m' hm w3=>?_;exact⟨m',hm,Cw,H3,I3,w3⟩
  | cont=>refine cj q3 fun Cw H3 I3 n3=>?_;clear q3;refine aL (hN Cw H3 n3) fun m' hm w3=>?_;exact⟨m',hm,Cw,H3,I3,w3⟩
  | brk=>exact q3
  | ret v=>exact q3
 | false=>rw[aU4 iW];exact Ci ⟨EG,H2,I2,q2⟩
end
structure It where
 go:Nat->Hp->Prop
 yld:Nat->Hp->V->Hp->Prop
 stop:Nat->Hp->Prop
def AM(X:Cx)(ak:List (av×Obj))(H:Hp)(b:av):Prop:=
 H b=none/\b≠X.env.locals/\b∉X.fs/\(b∈X.ex\/X.iG.heap.objs.size<=b)/\(∀x c,X.env.cells.lookup x=some c->c≠b)/\∀p∈X.pn++ak,p.1≠b
def Inv.Ng(I:Inv X ak σ H s)(hb:s.heap.objs.size<=b)(hn:H' b=none):AM X ak H' b:=by
 refine⟨hn,HX (gV I.lt hb),I.aD1 hb,.inr (f9 I.sz hb),fun x c e z=>?_,fun p hp z=>?_⟩;obtain⟨v,q⟩:=I.cell x c e;exact aV5 (gV q.lt (by rw[z];exact hb)) (qG _);exact aV5 (gV (bQ (I.pin p hp).1) (by rw[z];exact hb)) (qG _)
structure Turn(P:cP)(w:bF)(K:aD)(tg:bf)(J:It)(fp:List av)(it:av)(tn:Nat->aN->Prop):Prop where
 mem:it∈fp
 obj:∀i h,tn i h->∀b∈fp,∃o,h.get? b=some o/\∀v,o.data≠ .cell v
 keep:∀i h h',tn i h->(∀b∈fp,∀o,h.get? b=some o->h'.get? b=some o)->tn i h'
 item:∀(X:Cx),X.prog=P->X.w=w->X.K=K->X.calm=true->∀(i:Nat) (ak:List (av×Obj)) (s:ay) (σ:St) (H:Hp) (E:au->ay->Prop),Inv X ak σ H s->(∀b∈fp,AM X ak H b)->tn i s.heap->J.go i H->
  aC (aF P w) X.A (pyNext (.ref it)) (fun r s1=>∃u,r=some u/\
   aC (aF P w) X.A (letOwnedTupleGo tg (.ref it) u) (fun _ s2=>∃x H',Inv X ak σ H' s2/\RelV x u/\J.yld i H x H'/\tn (i+1) s2.heap/\∀b∈fp,H' b=none) E s1) E s
 done:∀(X:Cx),X.prog=P->X.w=w->X.K=K->X.calm=true->∀(i:Nat) (ak:List (av×Obj)) (s:ay) (σ:St) (H:Hp) (E:au->ay->Prop),Inv X ak σ H s->(∀b∈fp,AM X ak H b)->tn i s.heap->J.stop i H->
  aC (aF P w) X.A (pyNext (.ref it)) (fun r s1=>r=none/\Inv X ak σ H s1) E s
 self:∀(A:bP) (i:Nat) (s:ay) (Q:au->ay->Prop) (E:au->ay->Prop),tn i s.heap->Q (.ref it) s->aC (aF P w) A (pyIter (.ref it)) Q E s
abbrev TI:=St->Hp->(It->Hp->Prop)->Prop
def PIE(X:Cx)(ak:List (av×Obj))(σ:St)(tg:bf)(R:It->Hp->Prop)(itv:au)(s2:ay):Prop:=
 ∃(it:av) (fp:List av) (tn:Nat->aN->Prop) (J:It) (H':Hp),itv = .ref it/\Inv X ak σ H' s2/\Turn X.prog X.w X.K tg J fp it tn/\tn 0 s2.heap/\(∀b∈fp,AM X ak H' b)/\R J H'
def PI(X:Cx)(tg iter:bf)(wi:TI):Prop:=
 ∀(ak:List (av×Obj)) (s:ay) (σ:St) (H:Hp) (R:It->Hp->Prop),Inv X ak σ H s->wi σ H R->
  aC (aF X.prog X.w) X.A (eval iter X.env) (fun v s1=>aC (aF X.prog X.w) X.A (pyIter v) (PIE X ak σ tg R) X.xe s1) X.xe s
def Ic{s:ay}{Q:Unit->ay->Prop}(ho:s.heap.get? it=some o)(hc:o.cls = .type n)(hd:o.data = .fields vs)
    (hn:["enumerate","zip","dict_itemiterator","dict_reverseitemiterator","odict_iterator","itertools.zip_longest","itertools.pairwise"].contains n=false) (hQ:Q () s):aC M A (letOwnedTupleGo tg (.ref it) u) Q E s:=by
  unfold letOwnedTupleGo;cases tg <;> first
    | exact aG hQ
    | (cases u <;> first
        | exact aG hQ
        | (refine aq (wpAny_load ho ?_)
           rw[hc,hd]
           show aC M A (if(["enumerate","zip","dict_itemiterator","dict_reverseitemiterator","odict_iterator","itertools.zip_longest","itertools.pairwise"].contains n&&vs[0]?==some (rawInt _))=true then _ else _) Q E s
           rw[aU4 (by intro h;rw[hn,Bool.false_and]at h;cases h)]
           exact aG hQ))
def Itl(K:aD)(a:av):It:=
 ⟨fun i H=>∃xs x,ja K H a xs/\xs[i]?=some x,fun i H x H'=>H'=H/\∀xs,ja K H a xs->xs[i]?=some x,fun i H=>∃xs,ja K H a xs/\xs.length<=i⟩
def Itt(K:aD)(a:av):It:=
 ⟨fun i H=>∃xs x,jA K H a xs/\xs[i]?=some x,fun i H x H'=>H'=H/\∀xs,jA K H a xs->xs[i]?=some x,fun i H=>∃xs,jA K H a xs/\xs.length<=i⟩
def Itr(lo:Int)(n:Nat):It:=⟨fun i _=>i<n,fun i H x H'=>H'=H/\x = .int (lo+i),fun i _=>n<=i⟩
def Jx{P:cP}{w:bF}{K:aD}{tg:bf}(a it:av):Turn P w K tg (Itl K a) [it] it (fun i h=>h.IsListIter it a i) where
 mem:=by simp
 obj:=fun i h st b hb=>by
  have e:b=it:=by simpa using hb
  subst e;refine bK st fun o e c d=>?_;clear st;exact⟨o,e,fun v z=>by rw[d]at z;cases z⟩
 keep:=fun i h h' st k=>st.at fun o e=>k it (by simp) o e
 item:=by
  walk_at"e";refine cj hg fun xs x hq hx=>?_;clear hg;refine bK (I.list hq) fun b6 rv p hz=>?_;refine aL (rv.get hx) fun u hu ru=>?_;refine vI (hf it (by simp)) fun f0 f1 f2 f3 f4 f5=>?_;refine Vg st p.isList (x:=u) (by simpa using hu) fun h' st' sb=>?_;have I1:Inv X ak σ H {s with heap:=h'}:=I.turned (t':=s.toks) (fun b o hb e=>(sb.2 b hb).trans e) f0 f1 f3 f4 f5;refine bK (id st') fun o e c d=>?_;exact⟨u,rfl,Ic (s:={s with heap:=h'}) e c d (by decide) ⟨x,H,I1,ru,⟨rfl,fun ys hy=>by rw[I.Ct hy hq];exact hx⟩,st',fun b hb=>(hf b hb).1⟩⟩
 done:=by
  walk_at"e";refine aL hg fun xs hq hx=>?_;clear hg;refine bK (I.list hq) fun b6 rv p hz=>?_;refine vI (hf it (by simp)) fun f0 f1 f2 f3 f4 f5=>?_;have hl:=rv.length;exact Vh (I.ok.hd hc) st p.isList (by simp;lia) fun h' eb=>⟨rfl,I.turned (t':=s.toks) (fun b o hb e=>eb b o hb e) f0 f1 f3 f4 f5⟩
 self:=fun _ _ _ _ _ st h=>wpAny_pyIter_listiter st h
def Gi{P:cP}{w:bF}{K:aD}{tg:bf}(a it:av):Turn P w K tg (Itt K a) [it] it (fun i h=>h.IsTupleIter it a i) where
 mem:=by simp
 obj:=fun i h st b hb=>by
  have e:b=it:=by simpa using hb
  subst e;refine bK st fun o e c d=>?_;clear st;exact⟨o,e,fun v z=>by rw[d]at z;cases z⟩
 keep:=fun i h h' st k=>st.at fun o e=>k it (by simp) o e
 item:=by
  walk_at"e";refine cj hg fun xs x hq hx=>?_;clear hg;refine bK (I.tuple hq) fun b6 rv p hz=>?_;refine aL (rv.get hx) fun u hu ru=>?_;refine vI (hf it (by simp)) fun f0 f1 f2 f3 f4 f5=>?_;refine wpAny_pyNext_tuple_item st (show s.heap.IsTuple a b6.toArray from p) (x:=u) (by simpa using hu) fun h' st' sb=>?_;have I1:Inv X ak σ H {s with heap:=h'}:=I.turned (t':=s.toks) (fun b o hb e=>(sb.2 b hb).trans e) f0 f1 f3 f4 f5;refine bK (id st') fun o e c d=>?_;exact⟨u,rfl,Ic (s:={s with heap:=h'}) e c d (by decide) ⟨x,H,I1,ru,⟨rfl,fun ys hy=>by rw[I.Jv hy hq];exact hx⟩,st',fun b hb=>(hf b hb).1⟩⟩
 done:=by
  walk_at"e";refine aL hg fun xs hq hx=>?_;clear hg;refine bK (I.tuple hq) fun b6 rv p hz=>?_;refine vI (hf it (by simp)) fun f0 f1 f2 f3 f4 f5=>?_;have hl:=rv.length;exact wpAny_pyNext_tuple_end (I.ok.hd hc) st (show s.heap.IsTuple a b6.toArray from p) (by simp;lia) fun h' eb=>⟨rfl,I.turned (t':=s.toks) (fun b o hb e=>eb b o hb e) f0 f1 f3 f4 f5⟩
 self:=fun _ _ _ _ _ st h=>wpAny_pyIter_tupleiter st h
def Gj{P:cP}{w:bF}{K:aD}{tg:bf}(it:av)(lo:Int)(n:Nat):Turn P w K tg (Itr lo n) [it] it (fun i h=>IsRangeIter h it (lo+(i:Nat)*1) ((n:Int)-(i:Nat)) 1) where
 mem:=by simp
 obj:=fun i h st b hb=>by
  have e:b=it:=by simpa using hb
  subst e;exact⟨_,st,fun v z=>by
   have z':Data.fields _=Data.cell v:=z;cases z'⟩
 keep:=fun i h h' st k=>k it (by simp) _ st
 item:=by
  walk_at"e";refine vI (hf it (by simp)) fun f0 f1 f2 f3 f4 f5=>?_;have W:=Walks.range (prog:=X.prog) (w:=X.w) (I.ok.hd hc) it lo 1 n;refine W.item i s _ _ hg st fun v h' tk hv st' kk=>?_;obtain⟨t,rfl⟩:=hv;have I1:Inv X ak σ H {s with heap:=h',toks:=tk}:=I.turned (fun b o hb e=>kk b o (by simpa using hb) e) f0 f1 f3 f4 f5;refine⟨_,rfl,Ic (s:={s with heap:=h',toks:=tk}) (n:="range_iterator") st' rfl rfl (by decide) ⟨.int (lo+i),H,I1,⟨t,?_⟩,⟨rfl,rfl⟩,st',fun b hb=>(hf b hb).1⟩⟩;rw[Int.mul_one]
 done:=by
  walk_at"e";refine vI (hf it (by simp)) fun f0 f1 f2 f3 f4 f5=>?_;exact wpAny_pyNext_range_end (I.ok.hd hc) st (by have:n<=i:=hg;lia) fun h' eb=>⟨rfl,I.turned (t':=s.toks) (fun b o hb e=>eb b o hb e) f0 f1 f3 f4 f5⟩
 self:=fun _ _ _ _ _ st h=>wpAny_pyIter_rangeiter st h
section
def ae1(K:aD)(tl:TE):TI:=fun σ H R=>tl σ H fun x H1=>∃a,x = .ref a/\(∃xs,ja K H1 a xs)/\R (Itl K a) H1
def aE7(K:aD)(tl:TE):TI:=fun σ H R=>tl σ H fun x H1=>∃a,x = .ref a/\(∃xs,jA K H1 a xs)/\R (Itt K a) H1
def Ie{l:bf}{tl:TE}(hl:PE X l tl):PI X tg l (ae1 X.K tl):=by
 intro ak s σ H R I h;refine gA (hl ak s σ H _ I h) fun v s1 ae2=>?_;refine b7 ae2 fun x H1 I1 r1 q1=>?_;clear ae2;refine bK q1 fun a e aT q=>?_;clear q1;obtain⟨xs,hq⟩:=aT;subst e;cases r1;refine bK (I1.list hq) fun b6 rv p hz=>?_;refine Ck p.isList ?_;refine⟨s1.heap.objs.size,[s1.heap.objs.size],_,_,H1,rfl,I1.kept (t':=s1.toks) fun b o e=>bV _ e,Jx a _,⟨_,fJ _ rfl,rfl,rfl⟩,fun b hb=>?_,q⟩;have e:b=s1.heap.objs.size:=by simpa using hb
 subst e;exact I1.Ng (b9 _) (I1.dX.fresh (b9 _))
def WA{l:bf}{tl:TE}(hl:PE X l tl):PI X tg l (aE7 X.K tl):=by
 intro ak s σ H R I h;refine gA (hl ak s σ H _ I h) fun v s1 ae3=>?_;refine b7 ae3 fun x H1 I1 r1 q1=>?_;clear ae3;refine bK q1 fun a e aT q=>?_;clear q1;obtain⟨xs,hq⟩:=aT;subst e;cases r1;refine bK (I1.tuple hq) fun b6 rv p hz=>?_;refine wpAny_pyIter_tuple (show s1.heap.IsTuple a b6.toArray from p) ?_;refine⟨s1.heap.objs.size,[s1.heap.objs.size],_,_,H1,rfl,I1.kept (t':=s1.toks) fun b o e=>bV _ e,Gi a _,⟨_,fJ _ rfl,rfl,rfl⟩,fun b hb=>?_,q⟩;have e:b=s1.heap.objs.size:=by simpa using hb
 subst e;exact I1.Ng (b9 _) (I1.dX.fresh (b9 _))
def Nh{R:It->Hp->Prop}{lo hi:Int}{tk:Nat}(I:Inv X ak σ H s)(h1 : -(2 ^ 62)<=lo)(h2:lo<2 ^ 62)(h3 : -(2 ^ 62)<=hi)(h4:hi<2 ^ 62)
  (q:R (Itr lo (hi-lo).toNat) H):aC (aF X.prog X.w) X.A (pyIter (.ref s.heap.objs.size)) (PIE X ak σ tg R) E {s with heap:=s.heap.push {cls:=.type "range",data:=.fields #[.int lo t,.int hi u,.int 1 v]},toks:=tk}:=by
 refine wpAny_pyIter_range (IsRange.new ..) (small_one h1 h2 h3 h4) ?_;have I1:Inv X ak σ H {s with heap:=s.heap.push {cls:=.type "range",data:=.fields #[.int lo t,.int hi u,.int 1 v]},toks:=tk}:=I.kept fun b o e=>bV _ e;refine⟨(s.heap.push {cls:=.type "range",data:=.fields #[.int lo t,.int hi u,.int 1 v]}).objs.size,[(s.heap.push {cls:=.type "range",data:=.fields #[.int lo t,.int hi u,.int 1 v]}).objs.size],_,_,H,rfl,
  I1.kept (t':=tk) fun b o e=>bV _ e,Gj _ lo (hi-lo).toNat,?_,fun b hb=>?_,q⟩
 have e1:lo+((0:Nat):Int)*1=lo:=by simp
 have e2:(((hi-lo).toNat:Nat):Int)-((0:Nat):Int)=Builtin.Range.rangeSize lo hi 1:=by rw[rangeSize_one];split <;> lia
 show IsRangeIter _ _ (lo+((0:Nat):Int)*1) ((((hi-lo).toNat:Nat):Int)-((0:Nat):Int)) 1;rw[e1,e2];exact fJ _ rfl;have e:b=(s.heap.push {cls:=.type "range",data:=.fields #[.int lo t,.int hi u,.int 1 v]}).objs.size:=by simpa using hb
 subst e;exact I1.Ng (b9 _) (I1.dX.fresh (b9 _))
def ae4(ta:TA):TI:=fun σ H R=>ta σ H fun vs H1=>∃j:Int,vs=[.int j]/\ -(2 ^ 62)<=j/\j<2 ^ 62/\R (Itr 0 j.toNat) H1
def yQ{a:bf}{p:Pos}(hg:Gl X "range")(hm:X.mg "range"=none)(ha:PA X [a] ta)(hs:bJ [a] X.env=[(false,eval a X.env)]:=by rfl):PI X tg (.Call (.Name "range" p) [a] [] pos) (ae4 ta):=by
 intro ak s σ H R I h;refine Call_ (qm I hg hm boot_range (Co (gA (ha pos ak s σ H _ I h) fun us s1 ae5=>?_) hs rfl));refine b7 ae5 fun vs H1 I1 r1 q1=>?_;clear ae5;obtain⟨j,e,q1,q2,q⟩:=q1;subst e;cases r1 with
 | cons r rr=>cases rr;obtain⟨t,rfl⟩:=r;exact call_range_1 (Nh I1 (by lia) (by lia) q1 q2 (by simpa using q))
def aE8(wi:TI)(g:TG)(tb:TS):TS:=fun D σ H=>wi σ H fun J H1=>∃W:Nat->Nat->St->Hp->Prop,(∃m,W 0 m σ H1)/\∀i m σ H,W i m σ H->
 (J.stop i H/\D.nx σ H)\/(J.go i H/\∃N:St->Hp->Prop,(∀cz H',N cz H'->∃m',m'<m/\W (i+1) m' cz H')/\∀x H',J.yld i H x H'->g x σ H' fun sU H2=>tb {D with nx:=N,ct:=N,bk:=D.nx} sU H2)
def vL(fp:List av)(h:aN):List (av×Obj):=fp.filterMap fun b=>(h.get? b).map fun o=>(b,o)
def m7{h:aN}(hb:b∈fp)(e:h.get? b=some o):(b,o)∈vL fp h:=Cn.mpr ⟨b,hb,by rw[e];rfl⟩
def Jy(hp:p∈vL fp h):p.1∈fp/\h.get? p.1=some p.2:=by
 refine aL (Cn.mp hp) fun b hb e=>?_;cases q:h.get? b with
 | none=>rw[q]at e;cases e
 | some o=>rw[q]at e;have e':(b,o)=p:=dN e;subst e';exact⟨hb,q⟩
def Inv.pinned(I:Inv X ak σ H s)(hf:∀b∈fp,AM X ak H b)(ho:∀b∈fp,∃o,s.heap.get? b=some o/\∀v,o.data≠ .cell v):Inv X (ak++vL fp s.heap) σ H s:=
 I.qL fun p hp=>(gW.mp hp).elim (fun z=>I.pin p (mT _ z)) fun z=>by
  obtain⟨hb,e⟩:=Jy z;refine Az (hf p.1 hb) fun f0 f1 f2 _=>?_;refine aL (ho p.1 hb) fun o e' d=>?_;rw[e]at e';cases e';exact⟨e,f0,f1,f2,d⟩
def Inv.vM(I:Inv X (ak++pl) σ H s):Inv X ak σ H s:=I.qL fun p hp=>I.pin p (mT _ (Cm _ hp))
def Gk(hp:PassesOwn (aF X.prog X.w) X.A X.env X.xe)(hc:X.calm=true)(hi:PI X tg iter wi)(hg:PG X tg g)(hb:mZ X body tb)
  (hs:∀x,qD iter X.env x=pure x:=by intro _;rfl):PS X (.For tg iter body [] pos) (aE8 wi g tb):=by
 intro ak s σ H D I h;refine wpAny_For (gA (hi ak s σ H _ I h) fun v s1 h1=>gA h1 fun itv s2 h2=>?_) hs;obtain⟨it,fp,tn,J,H2,e,I2,T,qp,f2,W,⟨m0,w0⟩,turn⟩:=h2;subst e;have WB:∀{H':Hp},(∀b∈fp,H' b=none)->∀b∈fp,AM X ak H' b:=fun hn b hb=>⟨hn b hb,(f2 b hb).2⟩
 refine codeAny_forLoop_any (fun n s'=>∃i cz H',Inv X ak cz H' s'/\tn i s'.heap/\(∀b∈fp,H' b=none)/\W i n cz H') ?_ m0 ⟨0,σ,H2,I2,qp,fun b hb=>(f2 b hb).1,w0⟩;rintro n s3 ⟨i,Cw,H3,I3,Gm,fr3,w3⟩;rcases turn i n Cw H3 w3 with⟨stop,qn⟩|⟨go,N,hN,step⟩;refine vd hp (gA (T.done X rfl rfl rfl hc i ak s3 Cw H3 X.xe I3 (WB fr3) Gm stop) fun r s4 aE9=>?_);obtain⟨hr,I4⟩:=aE9;subst hr;exact Ci ⟨Cw,H3,I4,qn⟩;refine vd hp (gA (T.item X rfl rfl rfl hc i ak s3 Cw H3 X.xe I3 (WB fr3) Gm go) fun r s4 ae6=>?_);refine aL ae6 fun u hr h4=>?_;clear ae6;subst hr;refine vd hp (gA h4 fun _ s5 ae7=>?_);refine G8 ae7 fun x H5 I5 r5 y5 Jz fr5=>?_;clear ae7;have I5':=I5.pinned (WB fr5) (T.obj _ _ Jz);refine vd hp (gA (hg _ s5 Cw H5 x u _ I5' r5 (step x H5 y5)) fun _ s6 ae8=>?_);refine cj ae8 fun WC H6 I6 q6=>?_;clear ae8;refine vd hp (gA (hb _ s6 WC H6 _ I6 q6) fun f s7 q7=>?_);have again:∀{Ni:St} {H7:Hp},Inv X (ak++vL fp s5.heap) Ni H7 s7->N Ni H7->∃m,m<n/\∃i cz H',Inv X ak cz H' s7/\tn i s7.heap/\(∀b∈fp,H' b=none)/\W i m cz H':=fun {Ni H7} I7 n7=>by refine aL (hN Ni H7 n7) fun m' hm w7=>?_;refine⟨m',hm,i+1,Ni,H7,I7.vM,T.keep _ _ _ Jz fun b hb o e=>(I7.pin (b,o) (mT _ (mT _ (m7 hb e)))).1,fun b hb=>?_,w7⟩;refine aL (T.obj _ _ Jz b hb) fun o e d=>?_;exact(I7.pin (b,o) (mT _ (mT _ (m7 hb e)))).2.1
 cases f with
 | next=>obtain⟨Ni,H7,I7,n7⟩:=q7;exact again I7 n7
 | cont=>obtain⟨Ni,H7,I7,n7⟩:=q7;exact again I7 n7
 | brk=>obtain⟨Ni,H7,I7,q7⟩:=q7;exact⟨Ni,H7,I7.vM,q7⟩
 | ret v=>obtain⟨x7,Ni,H7,I7,r7,q7⟩:=q7;exact⟨x7,Ni,H7,I7.vM,r7,q7⟩
end
abbrev R2:=V->V->Hp->VK->Prop
def pT(X:Cx)(f:au->au->Sem au)(r:R2):Prop:=
 ∀(ak:List (av×Obj)) (s:ay) (σ:St) (H:Hp) (x y:V) (v u:au) (Q:VK),Inv X ak σ H s->RelV x v->RelV y u->r x y H Q->
  aC (aF X.prog X.w) X.A (f v u) (EP X ak σ Q) X.xe s
def UnR(X:Cx)(f:au->Sem au)(r:V->Hp->VK->Prop):Prop:=
 ∀(ak:List (av×Obj)) (s:ay) (σ:St) (H:Hp) (x:V) (v:au) (Q:VK),Inv X ak σ H s->RelV x v->r x H Q->
  aC (aF X.prog X.w) X.A (f v) (EP X ak σ Q) X.xe s
def jB(X:Cx)(f:au)(r:List V->Hp->VK->Prop):Prop:=
 ∀(ak:List (av×Obj)) (s:ay) (σ:St) (H:Hp) (xs:List V) (us:List au) (Q:VK),Inv X ak σ H s->Vals xs us->r xs H Q->
  aC (aF X.prog X.w) X.A (call f us) (EP X ak σ Q) X.xe s
def tOp(r:R2)(ta tb:TE):TE:=fun σ H Q=>ta σ H fun x H1=>tb σ H1 fun y H2=>r x y H2 Q
def tUn(r:V->Hp->VK->Prop)(ta:TE):TE:=fun σ H Q=>ta σ H fun x H1=>r x H1 Q
def rI(C:Int->Int->Prop)(g:Int->Int->V):R2:=fun x y H Q=>∃i j,x = .int i/\y = .int j/\C i j/\Q (g i j) H
def Lg(g:Int->Int->V):R2:=fun x y H Q=>∃i j,x = .int i/\y = .int j/\Q (g i j) H
def rU(g:Int->V):V->Hp->VK->Prop:=fun x H Q=>∃i,x = .int i/\Q (g i) H
section
def WD(ha:PE X a ta)(hb:PE X b tb){R:V->V->Hp->Prop}(I:Inv X ak σ H s)
  (h:ta σ H fun x H1=>tb σ H1 fun y H2=>R x y H2) {f:au->au->Sem au}
  (hf:∀v u s2 x y H2,Inv X ak σ H2 s2->RelV x v->RelV y u->R x y H2->aC (aF X.prog X.w) X.A (f v u) Q X.xe s2) :
  aC (aF X.prog X.w) X.A (eval a X.env) (fun v dg=>aC (aF X.prog X.w) X.A (eval b X.env) (fun u Rl=>aC (aF X.prog X.w) X.A (f v u) Q X.xe Rl) X.xe dg) X.xe s:=by
 refine gA (ha ak s σ H _ I h) fun v s1 ae9=>?_;refine b7 ae9 fun x H1 I1 r1 q1=>?_;clear ae9;refine gA (hb ak s1 σ H1 _ I1 q1) fun u s2 af0=>?_;refine b7 af0 fun y H2 I2 r2 q2=>?_;clear af0;exact hf v u s2 x y H2 I2 r1 r2 q2
def Ig(ho:pT X (binaryOp op) r)(ha:PE X a ta)(hb:PE X b tb):PE X (.BinOp a op b pos) (tOp r ta tb):=by
 intro ak s σ H Q I h;exact wpAny_BinOp (WD ha hb I h fun v u s2 x y H2 I2 rx ry q=>ho ak s2 σ H2 x y v u Q I2 rx ry q)
def af1(ho:UnR X (unaryOp op) r)(ha:PE X a ta):PE X (.UnaryOp op a pos) (tUn r ta):=by
 intro ak s σ H Q I h;exact UnaryOp_ (gA (ha ak s σ H _ I h) fun v s1 aF0=>aF0.elim fun x aF1=>aF1.elim fun H1 aF2=>aF2.elim fun I1 aF3=>aF3.elim fun r1 q1=>ho ak s1 σ H1 x v Q I1 r1 q1)
def opI{f:au->au->Sem au}{C:Int->Int->Prop}{g:Int->Int->Int}
  (rule:∀(i j:Int) (t u:Tok) (s:ay) (Q:au->ay->Prop) (E:au->ay->Prop),C i j->Q (.int (g i j) s.toks) {s with toks:=s.toks+1}->aC (aF X.prog X.w) X.A (f (.int i t) (.int j u)) Q E s) :
  pT X f (rI C fun i j=>.int (g i j)):=by
 intro ak s σ H x y v u Q I rx ry h;refine qJ h fun i j aT nM hc q=>?_;clear h;walk_at"c";obtain rfl:=nM;obtain⟨t,rfl⟩:=rx;obtain⟨t',rfl⟩:=ry;exact rule i j t t' s _ _ hc ⟨.int (g i j),H,I.tok _,⟨_,rfl⟩,q⟩
def af2{f:au->au->Sem au}{g:Int->Int->Int}
  (rule:∀(i j:Int) (t u:Tok) (s:ay) (Q:au->ay->Prop) (E:au->ay->Prop),Q (.int (g i j) s.toks) {s with toks:=s.toks+1}->aC (aF X.prog X.w) X.A (f (.int i t) (.int j u)) Q E s) :
  pT X f (Lg fun i j=>.int (g i j)):=by
 intro ak s σ H x y v u Q I rx ry h;refine b7 h fun i j aT nM q=>?_;clear h;walk_at"c";obtain rfl:=nM;obtain⟨t,rfl⟩:=rx;obtain⟨t',rfl⟩:=ry;exact rule i j t t' s _ _ ⟨.int (g i j),H,I.tok _,⟨_,rfl⟩,q⟩
def WE{f:au->au->Sem au}{g:Int->Int->Bool}
  (rule:∀(i j:Int) (t u:Tok) (s:ay) (Q:au->ay->Prop) (E:au->ay->Prop),Q (.bool (g i j)) s->aC (aF X.prog X.w) X.A (f (.int i t) (.int j u)) Q E s) :
  pT X f (Lg fun i j=>.bl (g i j)):=by
 intro ak s σ H x y v u Q I rx ry h;refine b7 h fun i j aT nM q=>?_;clear h;walk_at"c";obtain rfl:=nM;obtain⟨t,rfl⟩:=rx;obtain⟨t',rfl⟩:=ry;exact rule i j t t' s _ _ ⟨.bl (g i j),H,I,rfl,q⟩
def af3(i j:Int):Prop:=0<j/\j<1073741824
def Rm(i j:Int):Prop:=(-(2 ^ 64)<i/\i<2 ^ 64)\/(-(2 ^ 64)<j/\j<2 ^ 64)
def Rm.ok(h:Rm i j):IntMulOk i j:=by
 rcases h with⟨h1,h2⟩|⟨h1,h2⟩;exact .of_left (intBits_le_64 h1 h2);exact .of_right (intBits_le_64 h1 h2)
def WG:pT X (binaryOp .Add) (Lg fun i j=>.int (i+j)):=af2 fun _ _ _ _ _ _ _ q=>add_int q
def WH:pT X (binaryOp .Sub) (Lg fun i j=>.int (i-j)):=af2 fun _ _ _ _ _ _ _ q=>sub_int q
def WI:pT X (binaryOp .Mult) (rI Rm fun i j=>.int (i*j)):=opI fun _ _ _ _ _ _ _ hc q=>mul_int q hc.ok
def Ro:pT X (binaryOp .FloorDiv) (rI af3 fun i j=>.int (i / j)):=opI fun i j _ _ _ _ _ hc q=>by
 have h1:(0:Int)<j:=hc.1;have h2:j<1073741824:=hc.2;exact floordiv_int (by lia) (by rw[Int.fdiv_eq_ediv_of_nonneg i (by lia)];exact q) (.inl (PyProof.noPylong_small (by lia)))
def WJ:pT X (binaryOp .Mod) (rI (fun _ j=>0<j) fun i j=>.int (i % j)):=opI fun i j _ _ _ _ _ hc q=>by
 have h1:(0:Int)<j:=hc;exact mod_int' (by lia) (by rw[Int.fmod_eq_emod_of_nonneg i (by lia)];exact q)
def unI{f:au->Sem au}{g:Int->Int}
  (rule:∀(i:Int) (t:Tok) (s:ay) (Q:au->ay->Prop) (E:au->ay->Prop),Q (.int (g i) s.toks) {s with toks:=s.toks+1}->aC (aF X.prog X.w) X.A (f (.int i t)) Q E s) :
  UnR X f (rU fun i=>.int (g i)):=by
 intro ak s σ H x v Q I rx h;refine aL h fun i fW q=>?_;clear h;obtain rfl:=fW;obtain⟨t,rfl⟩:=rx;exact rule i t s _ _ ⟨.int (g i),H,I.tok _,⟨_,rfl⟩,q⟩
def WK:UnR X (unaryOp .USub) (rU fun i=>.int (-i)):=unI fun _ _ _ _ _ q=>neg_int q
end
section
def Nj:pT X (gZ .Lt) (Lg fun i j=>.bl (decide (i<j))):=WE fun _ _ _ _ _ _ _ q=>lt_int q
def u5:pT X (gZ .LtE) (Lg fun i j=>.bl (decide (i<=j))):=WE fun _ _ _ _ _ _ _ q=>le_int q
def af4:pT X (gZ .Gt) (Lg fun i j=>.bl (decide (j<i))):=WE fun _ _ _ _ _ _ _ q=>gt_int q
def nN(b:bf)(h:op≠ .In:=by decide)(h2:op≠ .NotIn:=by decide):behindInMarks op b=false:=by
 have e1:(op==CmpOp.In)=false:=by cases op <;> first|rfl|exact aV5 rfl h
 have e2:(op==CmpOp.NotIn)=false:=by cases op <;> first|rfl|exact aV5 rfl h2
 cases b <;> simp[behindInMarks,e1,e2]
def Rq(ho:pT X (gZ op) r)(ha:PE X a ta)(hb:PE X b tb)(hm:behindInMarks op b=false):PE X (.Compare a [op] [b] pos) (tOp r ta tb):=by
 intro ak s σ H Q I h;exact wpAny_Compare1 (WD ha hb I h fun v u s2 x y H2 I2 rx ry q=>ho ak s2 σ H2 x y v u Q I2 rx ry q) hm
def Vr(t:TE):TT:=fun σ H Q=>t σ H fun x H'=>∃k,x = .bl k/\Q k H'
def Rt(ho:pT X (gZ op) r)(ha:PE X a ta)(hb:PE X b tb)(hm:behindInMarks op b=false):PT X (.Compare a [op] [b] pos) (Vr (tOp r ta tb)):=by
 intro ak s σ H Q I h;refine wpAny_isTrue_Compare1 (gA (ha ak s σ H _ I h) fun v s1 aF4=>aF4.elim fun x aF5=>aF5.elim fun H1 aF6=>aF6.elim fun I1 aF7=>aF7.elim fun r1 q1=>gA (hb ak s1 σ H1 _ I1 q1) fun u s2 aF8=>aF8.elim fun y aF9=>aF9.elim fun H2 aG0=>aG0.elim fun I2 aG1=>aG1.elim fun r2 q2=>
  gA (ho ak s2 σ H2 x y v u _ I2 r1 r2 q2) fun c s3 aG2=>aG2.elim fun z aG3=>aG3.elim fun H3 aG4=>aG4.elim fun I3 aG5=>aG5.elim fun r3 aG6=>aG6.elim fun k aG7=>aG7.elim fun e q3=>?_) hm
 subst e;cases r3;exact vc ⟨H3,I3,q3⟩
def Gn(r r':R2)(ta tb tc:TE):TE:=fun σ H Q=>ta σ H fun x H1=>tb σ H1 fun y H2=>r x y H2 fun z H3=>∃k,z = .bl k/\
 (if k=true then tc σ H3 fun w' H4=>r' y w' H4 Q else Q (.bl false) H3)
def Nk(ho:pT X (gZ op) r)(sR:pT X (gZ Nl) r')(ha:PE X a ta)(hb:PE X b tb)(hc:PE X c tc)
  (hm:lastMarks [op,Nl] [b,c]=false:=by with_unfolding_all rfl):PE X (.Compare a [op,Nl] [b,c] pos) (Gn r r' ta tb tc):=by
 intro ak s σ H Q I h;refine Compare_chain (gA (ha ak s σ H _ I h) fun v s1 aG8=>aG8.elim fun x aG9=>aG9.elim fun H1 aH0=>aH0.elim fun I1 aH1=>aH1.elim fun r1 q1=>chain_link (gA (hb ak s1 σ H1 _ I1 q1) fun u s2 aH2=>aH2.elim fun y aH3=>aH3.elim fun H2 aH4=>aH4.elim fun I2 aH5=>aH5.elim fun r2 q2=>
  gA (ho ak s2 σ H2 x y v u _ I2 r1 r2 q2) fun d s3 aH6=>aH6.elim fun z aH7=>aH7.elim fun H3 aH8=>aH8.elim fun I3 aH9=>aH9.elim fun r3 aI0=>aI0.elim fun k aI1=>aI1.elim fun e q3=>?_)) hm
 subst e;cases r3;refine vc ?_;cases k with
 | false=>exact ite_ff ⟨.bl false,H3,I3,rfl,q3⟩
 | true=>exact ite_tt (chain_last (gA (hc ak s3 σ H3 _ I3 q3) fun w' s4 aI2=>aI2.elim fun z' aI3=>aI3.elim fun H4 aI4=>aI4.elim fun I4 aI5=>aI5.elim fun r4 q4=>sR ak s4 σ H4 y z' u w' Q I4 r2 r4 q4))
def Nm(ho:pT X (gZ op) r)(sR:pT X (gZ Nl) r')(ha:PE X a ta)(hb:PE X b tb)(hc:PE X c tc)
  (hm:lastMarks [op,Nl] [b,c]=false:=by with_unfolding_all rfl):PT X (.Compare a [op,Nl] [b,c] pos) (Vr (Gn r r' ta tb tc)):=by
 intro ak s σ H Q I h;refine isTrue_chain (gA (ha ak s σ H _ I h) fun v s1 aI6=>aI6.elim fun x aI7=>aI7.elim fun H1 aI8=>aI8.elim fun I1 aI9=>aI9.elim fun r1 q1=>test_link (gA (hb ak s1 σ H1 _ I1 q1) fun u s2 aJ0=>aJ0.elim fun y aJ1=>aJ1.elim fun H2 aJ2=>aJ2.elim fun I2 af5=>af5.elim fun r2 q2=>
  gA (ho ak s2 σ H2 x y v u _ I2 r1 r2 q2) fun d s3 af6=>af6.elim fun z af7=>af7.elim fun H3 af8=>af8.elim fun I3 af9=>af9.elim fun r3 ag0=>ag0.elim fun k ag1=>ag1.elim fun e q3=>?_)) hm
 subst e;cases r3;refine vc ?_;cases k with
 | false=>refine aL q3 fun k' e' q'=>?_;clear q3;cases e';exact ite_ff ⟨H3,I3,q'⟩
 | true=>refine ite_tt (test_last (gA (hc ak s3 σ H3 _ I3 q3) fun w' s4 ag2=>ag2.elim fun z' ag3=>ag3.elim fun H4 ag4=>ag4.elim fun I4 ag5=>ag5.elim fun r4 q4=>gA (sR ak s4 σ H4 y z' u w' _ I4 r2 r4 q4) fun d' s5 ag6=>?_));obtain⟨z2,H5,I5,r5,k2,e2,q5⟩:=ag6;subst e2;cases r5;exact vc ⟨H5,I5,q5⟩
def AN:(bO:Nat)<2 ^ 63:=by rw[gC];decide
def vals1(r:Vals [x] us):∃u,us=[u]/\RelV x u:=by
 cases r with
 | cons r1 r2=>cases r2;exact⟨_,rfl,r1⟩
def vals2(r:Vals [x,y] us):∃u w',us=[u,w']/\RelV x u/\RelV y w':=by
 cases r with
 | cons r1 r2=>
  cases r2 with
  | cons r3 r4=>cases r4;exact⟨_,_,rfl,r1,r3⟩
def Nn:jB X (.builtin "abs") (fun xs H Q=>∃i,xs=[.int i]/\Q (.int (if i<0 then -i else i)) H):=by
 intro ak s σ H xs us Q I r h;refine aL h fun i fW q=>?_;clear h;obtain rfl:=fW;obtain⟨u,rfl,t,rfl⟩:=vals1 r;exact call_abs_int fun u tk=>⟨.int (if i<0 then -i else i),H,I.tok _,⟨_,rfl⟩,q⟩
end
structure JA(h:aN)(x dx C:av)(mA:Str->Option au):Prop where
 obj:h.get? x=some (tY C dx)
 ns:h.Ns1 dx mA
 ne:dx≠x
def JB{h:aN}(n:h.Ns1 dx mA):∃od,h.get? dx=some od/\∀name,PySem.W.lookIn name od=some (mA name):=by
 refine AB n fun o es ep ho hd hk _ hm=>?_;clear n;refine⟨o,ho,fun name=>?_⟩;have e:=hm name;unfold nsFind findBy at e;rw[<- Array.find?_toList]at e;unfold PySem.W.lookIn;rw[hd];dsimp only;split;rename_i y q;rw[q]at e;exact congrArg some e;rename_i q;rw[q]at e;have a:es.toList.any (·.refKey)=false:=by rw[List.any_eq_false];intro y hy;refine pJ (hk y (vD.mp hy)) fun z t aJ3=>?_;simp[DictEntry.refKey,aJ3]
 have a':¬ es.toList.any (·.refKey)=true:=by rw[a];exact iW
 rw[aU4 a'];exact congrArg some e
def JA.look(I:JA h x dx C mA):∃od,PySem.W.InstAt h x (tY C dx) C (some od)/\∀name,PySem.W.lookIn name od=some (mA name):=
 let⟨od,ho,hl⟩:=JB I.ns
 ⟨od,⟨I.obj,rfl,rfl,ho⟩,hl⟩
section
variable {prog:cP}{w:bF}{A:bP}{E:au->ay->Prop}{s:ay}{K:aD}{x dx C f:av}{mA:Str->Option au}{name:Str}{v:au}
def get_map{Q:au->ay->Prop}(X:K.In s.heap)(I:JA s.heap x dx C mA)(hg:PySem.W.plainGet K C name=true)(hh:PySem.W.hasDictIn K C=true)
  (ha:vj K (.ref C) name=some none) (hv:mA name=some v) (hv':PySem.W.handedIn v=true) (h:Q v {s with toks:=s.toks+1}) :
  aC (aF prog w) A (getAttr (.ref x) name expr) Q E s:=by
 refine aL I.look fun od J hl=>?_;exact PySem.W.get_value X J (PySem.W.plainGet_of hg).1 (PySem.W.findObj_own hh ha rfl (by rw[hl,hv])) hv' h
def Ru{Q:Unit->ay->Prop}(X:K.In s.heap)(I:JA s.heap x dx C mA)
  (hs:vj K (.ref C) "__setattr__"=some (some (.builtin "object.__setattr__"))) (hp:PySem.W.plainOver K C=true) (ht:PySem.W.takerIn K C name=some none) (hh:PySem.W.hasDictIn K C=true)
  (hw:PySem.Within mA ns) (hsz:ns.length<=bO)
  (h:∀h',JA h' x dx C (fun y=>if y=name then some v else mA y)->jh dx s.heap h'->Q () {s with heap:=h',toks:=s.toks+2}) :
  aC (aF prog w) A (setAttr (.ref x) name v) Q E s:=by
 refine aL I.look fun od J hl=>?_;refine PySem.W.set_plain X J hs (PySem.W.osa_open (s:={s with toks:=s.toks+1}) (r:=none) X J hp ht fun b=>?_);refine aL (PySem.W.any_some hh) fun cd hc QN=>?_;have hx:s.heap.get? x=some ⟨.ref C,some dx,.plain,#[]⟩:=I.obj;refine aq (aG (aq (aq (wpAny_loadPart hx (aq (ab6 (s:={s with toks:=s.toks+1}) (PySem.W.looks_clsIn X hc) ?_))))));rw[QN];refine aG (a:=some dx) (aq (aG (aq ?_)));refine wpAny_nsSet1 (s:={s with toks:=s.toks+1}) I.ns fun h' hn2 QS=>?_;refine R8 (hn2.count (ab7 name v hw)) fun oD esD epD hoD hdD hcD=>?_;refine aq (wpAny_lookBehind hoD (by rw[hdD];exact pastItsLine_dict (f9 hcD (by rw[cI];lia))) ?_);exact aG (h _ ⟨(QS.2 _ (fm I.ne)).trans I.obj,hn2,I.ne⟩ QS)
def Np(X:K.In s.heap)(hm:PySem.W.makesIn K C=true)
  (hi:vj K (.ref C) "__init__"=some (some (.ref f))) (hf:PySem.W.typeIn K (.ref f)=some (.type "function"))
  (h:codeAny (aF prog w) (A.under (.builtin "type.__call__" ⟨.ref C::vs,kw⟩)) (.call (.ref f) ⟨.ref (s.heap.objs.size+1)::vs,kw⟩) (PySem.W.InitBack (s.heap.objs.size+1) R)
   {s with heap:=(s.heap.push qE).push (tY C s.heap.objs.size)}) :
  codeAny (aF prog w) A (.call (.ref C) ⟨vs,kw⟩) R s:=by
 obtain⟨hh,g,d,t,os⟩:=s;exact PySem.W.make_core (PySem.W.makes_of X hm) (PySem.W.looks_findIn X hi) (fun self=>PySem.W.bind_fn X self hf) (.inl rfl) h
end
def nO(f:Str)(v:V):List (Str×V)->List (Str×V)
 | []=>[(f,v)]
 | (g,x)::r=>if g=f then(g,v)::r else(g,x)::nO f v r
theorem u6(f g:Str)(v:V):∀fs:List (Str×V),(nO f v fs).lookup g=if g=f then some v else fs.lookup g
 | []=>by
  show vo g [(f,v)]=_;by_cases h:g=f;have hb:(g==f)=true:=aU7.mpr h;simp only[vo,hb,aU3 h];have hb:(g==f)=false:=aV0.mpr h;simp only[vo,hb,aU4 h]
 | (k,x)::r=>by
  have ih:=u6 f g v r;rw[show nO f v ((k,x)::r)=(if k=f then(k,v)::r else(k,x)::nO f v r)from rfl];by_cases hk:k=f;rw[aU3 hk];by_cases h:g=k;have hb:(g==k)=true:=aU7.mpr h;simp only[vo,hb,aU3 (h.trans hk)];have hb:(g==k)=false:=aV0.mpr h;simp only[vo,hb,aU4 (fun e:g=f=>h (e.trans hk.symm))];rw[aU4 hk];by_cases h:g=k;have hb:(g==k)=true:=aU7.mpr h;simp only[vo,hb,aU4 (fun e:g=f=>hk (h.symm.trans e))];have hb:(g==k)=false:=aV0.mpr h;simp only[vo,hb];exact ih
theorem sV(f:Str)(v:V):∀fs:List (Str×V),f∈(nO f v fs).map (·.1)/\∀g,g∈fs.map (·.1)->g∈(nO f v fs).map (·.1)
 | []=>⟨by simp[nO],fun g h=>by simp at h⟩
 | (k,x)::r=>by
  obtain⟨i1,i2⟩:=sV f v r;rw[show nO f v ((k,x)::r)=(if k=f then(k,v)::r else(k,x)::nO f v r)from rfl];by_cases hk:k=f;rw[aU3 hk];subst hk;exact⟨by simp,fun g h=>by simpa using h⟩;rw[aU4 hk];refine⟨?_,fun g h=>?_⟩;rw[bh];exact nC _ i1;rw[bh]at h ⊢;rcases bD.mp h with e|e;exact bD.mpr (.inl e);exact nC _ (i2 g e)
theorem u7(f:Str)(v:V):∀fs:List (Str×V),(nO f v fs).length<=fs.length+1
 | []=>by simp[nO]
 | (k,x)::r=>by
  have ih:=u7 f v r;rw[show nO f v ((k,x)::r)=(if k=f then(k,v)::r else(k,x)::nO f v r)from rfl];by_cases hk:k=f;rw[aU3 hk,cI,cI];lia;rw[aU4 hk,cI,cI];lia
def G9.some_of(r:G9 (some v) o):∃u,o=some u/\RelV v u:=by
 cases o with
 | none=>exact(show False from r).elim
 | some u=>exact⟨u,rfl,r⟩
def JC(r:RelV v u):PySem.W.handedIn u=true:=by
 cases v with
 | cH=>cases(show u=gR from r);rfl
 | bl b=>cases(show u=Value.bool b from r);rfl
 | int i=>obtain⟨t,e⟩:=(show ∃t,u=uy i t from r);cases e;rfl
 | str x=>obtain⟨t,e⟩:=(show ∃t,u=R6 x t from r);cases e;rfl
 | byt b=>obtain⟨t,e⟩:=(show ∃t,u=Value.bytes b t from r);cases e;rfl
 | flt b=>obtain⟨t,e⟩:=(show ∃t,u=Value.float b t from r);cases e;rfl
 | ref a=>cases(show u=f7 a from r);rfl
 | ty n=>cases(show u=l8 n from r);rfl
section
def qP(dX:rQ P w H h)(e:H a=some (.ins C dx fs)):∃mA,JA h a dx C mA/\(∀f,G9 (fs.lookup f) (mA f))/\PySem.Within mA (fs.map (·.1))/\fs.length<=1000/\H dx=some (.own a):=by
 obtain⟨d,z,ne,ob,mA,n,r,q⟩:=(show i0 P w H h a (.ins C dx fs)from dX a _ e)
 exact⟨mA,⟨ob,n,ne⟩,r,q,z,d⟩
end
structure Lh(K:aD)(C:av):Prop where
 pg:PySem.W.plainGet K C Str.empty=true
 hd:PySem.W.hasDictIn K C=true
 po:PySem.W.plainOver K C=true
 sa:vj K (.ref C) "__setattr__"=some (some (.builtin "object.__setattr__"))
def Lh.get{K:aD}{C:av}(c:Lh K C)(f:Str):PySem.W.plainGet K C f=true:=c.pg
def jv(K:aD)(C:av)(f:Str):Prop:=vj K (.ref C) f=some none
def jv.ag7{K:aD}{C:av}{f:Str}(n:jv K C f):PySem.W.takerIn K C f=some none:=by
 unfold PySem.W.takerIn;rw[show vj K (.ref C) f=some none from n];rfl
section
def Gp{Q:au->ay->Prop}(I:Inv X ak σ H s)(e:H a=some (.ins C dx fs))(c:Lh X.K C)(n:jv X.K C f)(l:fs.lookup f=some v)
  (h:∀u s',Inv X ak σ H s'->RelV v u->Q u s'):aC (aF X.prog X.w) A (getAttr (.ref a) f b) Q E s:=by
 refine R7 (qP I.dX e) fun mA O r _ _ _=>?_;obtain⟨u,hu,ru⟩:=G9.some_of (v:=v) (o:=mA f) (by rw[<- l];exact r f);exact get_map I.Ce O (c.get f) c.hd n hu (JC ru) (h u _ (I.tok _) ru)
def Gq{Q:Unit->ay->Prop}(I:Inv X ak σ H s)(e:H a=some (.ins C dx fs))(c:Lh X.K C)(n:jv X.K C f)(hl:fs.length<1000)(ry:RelV y u)
  (h:∀s',Inv X ak σ (upd H a (.ins C dx (nO f y fs))) s'->Q () s'):aC (aF X.prog X.w) A (setAttr (.ref a) f u) Q E s:=by
 refine R7 (qP I.dX e) fun mA O r wi _ ho=>?_;have hz:(fs.map (·.1)).length<=bO:=by rw[bL,gC];lia
 refine Ru I.Ce O c.sa c.po n.ag7 c.hd wi hz fun h' O' sb=>h _ ?_;have hd:∃o,h'.get? dx=some o:=let⟨o,_,_,e',_⟩:=O'.ns;⟨o,e'⟩;refine I.write (x:=a) (e:=dx) (by rw[e];exact True.intro) (.inr ho) (fun b q hb z=>(sb.2 b hb).trans z) hd ?_;refine⟨by rw[bq O.ne];exact ho,?_,O.ne,O'.obj,_,O'.ns,fun g=>?_,fun g hg=>?_⟩;have:=u7 f y fs;lia;show G9 ((nO f y fs).lookup g) (if g=f then some u else mA g);rw[u6];by_cases q:g=f;rw[aU3 q,aU3 q];exact ry;rw[aU4 q,aU4 q];exact r g;by_cases q:g=f;rw[q];exact(sV f y fs).1;refine(sV f y fs).2 g (wi g fun z=>hg ?_);show(if g=f then some u else mA g)=none;rw[aU4 q];exact z
def Inv.made(I:Inv X ak σ H s):Inv X ak σ (upd (upd H s.heap.objs.size (.own (s.heap.objs.size+1))) (s.heap.objs.size+1) (.ins C s.heap.objs.size []))
  {s with heap:=(s.heap.push qE).push (tY C s.heap.objs.size)}:=by
 have e1:(s.heap.push qE).get? s.heap.objs.size=some qE:=fJ s.heap rfl;have e2:((s.heap.push qE).push (tY C s.heap.objs.size)).get? (s.heap.objs.size+1)=some (tY C s.heap.objs.size):=by have:=fJ (s.heap.push qE) (o:=tY C s.heap.objs.size) rfl;rwa [qF]at this
 have e3:(s.heap.push qE).Ns s.heap.objs.size (fun _=>none):=⟨qE,#[],_,e1,rfl,(fun e he=>aV5 he (by simp)),fun _=>rfl⟩
 have I1:=I.laid (a:=s.heap.objs.size) (o:=.own (s.heap.objs.size+1)) (h':=s.heap.push qE) (t':=s.toks) (fun b u q=>bV _ q) (b9 _) ⟨_,e1⟩;refine I1.laid (a:=s.heap.objs.size+1) (o:=.ins C s.heap.objs.size []) (t':=s.toks) (fun b u q=>bV _ q) (Vj (qF _ _)) ?_;have ne:s.heap.objs.size≠s.heap.objs.size+1:=cu (mS _);refine⟨by rw[bq ne,cA],ie _,ne,e2,fun _=>none,(Heap.Ns1.of_empty e3).at fun o q=>bV _ q,fun _=>True.intro,fun y hy=>aV5 rfl hy⟩
def Rv(hb:rW e f env (eval e env)=eval e env)
  (h:aC (aF prog w) A (eval e env) (fun o dg=>aC (aF prog w) A (getAttr o f true) Q E dg) E s):aC (aF prog w) A (eval (.Attribute e f pos) env) Q E s:=
 Attribute_any_ h (by rw[arm_eval_Attribute,hb])
end
def aJ4(K:aD)(ta:TE)(f:Str):TE:=fun σ H Q=>ta σ H fun x H1=>∃a C dx fs v,x = .ref a/\H1 a=some (.ins C dx fs)/\Lh K C/\jv K C f/\fs.lookup f=some v/\Q v H1
def ag8(K:aD)(ta tv:TE)(f:Str):TS:=fun D σ H=>tv σ H fun y H1=>ta σ H1 fun x H2=>∃a C dx fs,x = .ref a/\H2 a=some (.ins C dx fs)/\Lh K C/\jv K C f/\fs.length<1000/\
 D.nx σ (upd H2 a (.ins C dx (nO f y fs)))
section
def WL(he:PE X e ta)(hb:rW e f X.env (eval e X.env)=eval e X.env):PE X (.Attribute e f pos) (aJ4 X.K ta f):=by
 intro ak s σ H Q I h;refine Rv hb (gA (he ak s σ H _ I h) fun u s1 ag9=>?_);obtain⟨x,H1,I1,rx,a,C,dx,fs,v,ex,ea,c,n,l,q⟩:=ag9;subst ex;obtain rfl:u=f7 a:=rx;exact Gp I1 ea c n l fun u' s2 I2 ru=>⟨v,H1,I2,ru,q⟩
def WM(ha:PE X o ta)(hv:PE X value tv)(hs:swapsWith value (some (.Attribute o f pos')) pos.line X.env=pure false):PS X (.Assign [.Attribute o f pos'] value pos) (ag8 X.K ta tv f):=by
 intro ak s σ H D I h;refine plainObj_wpAny_Assign_Attribute (gA (hv ak s σ H _ I h) fun u s1 ah0=>ah0.elim fun y ah1=>ah1.elim fun H1 ah2=>ah2.elim fun I1 ah3=>ah3.elim fun ry q=>gA (ha ak s1 σ H1 _ I1 q) fun ov s2 ah4=>?_) hs;obtain⟨x,H2,I2,rx,a,C,dx,fs,ex,ea,c,n,l,q2⟩:=ah4;subst ex;obtain rfl:ov=f7 a:=rx;exact Gq I2 ea c n l ry fun s3 I3=>⟨σ,_,I3,q2⟩
end
structure i7(k:Nat)(A:bP):Prop where
 hd:A.handled=none
 dp:A.depth+3*k+5<recursionLimit
 un:A.units+16*k+200<cLine
 gd:A.guards=some []
def i7.mono(r:i7 k A)(h:j<=k):i7 j A:=⟨r.hd,by have:=r.dp;lia,by have:=r.un;lia,r.gd⟩
theorem i7.deeper(r:i7 (k+1) A)(env:Env):i7 k (A.deeper env):=
 ⟨r.hd,by have:=r.dp;show A.depth+1+3*k+5<_;lia,by have:=r.un;show A.units+3+16*k+200<_;lia,r.gd⟩
def Gr{A:bP}:(A.under (.builtin "type.__call__" ⟨.ref C::us,kw⟩)).depth=A.depth+1:=by
 first|rfl|simp[Around.under,Code.weight,Code.isCreation,Code.isGuard,Code.isCaller,Code.frames,Code.isFrame,guardIds]
def Gs{A:bP}:(A.under (.builtin "type.__call__" ⟨.ref C::us,kw⟩)).units=A.units+1:=by
 first|rfl|simp[Around.under,Code.cUnits,Code.frames,Code.isFrame]
def Rw{A:bP}:(A.under (.builtin "type.__call__" ⟨.ref C::us,kw⟩)).guards=A.guards:=by
 first|rfl|(cases h:A.guards <;> simp[Around.under,Code.guards,Code.isGuard,guardIds,pushGuards,h])
def i7.make(r:i7 (k+1) A)(C:av)(us:List au)(kw:List (Str×au)):i7 k (A.under (.builtin "type.__call__" ⟨.ref C::us,kw⟩)):=
 ⟨r.hd,by have:=r.dp;rw[Gr];lia,by have:=r.un;rw[Gs];lia,by rw[Rw];exact r.gd⟩
theorem i7.depth(r:i7 k A):A.depth<recursionLimit:=by have:=r.dp;lia
theorem i7.units(r:i7 k A):A.units+64<cLine:=by have:=r.un;lia
def Nq:TA:=fun _ H Q=>Q [] H
def yR(ta:TE)(tr:TA):TA:=fun σ H Q=>ta σ H fun x H1=>tr σ H1 fun xs H2=>Q (x::xs) H2
section
def m8:PA X [] Nq:=fun _ _ _ _ H Q I h=>Mx ⟨[],H,I,.nil,h⟩
def jb(ha:PE X e te)(hr:PA X es t)(hs:bJ (e::es) X.env=(false,eval e X.env)::bJ es X.env:=by rfl):PA X (e::es) (yR te t):=by
 intro pos ak s σ H Q I h;rw[hs];show aC _ _ (spliced ((false,eval e X.env)::backTo pos (bJ es X.env))) _ _ s;refine My (gA (ha ak s σ H _ I h) fun u s1 Vs=>?_);refine b7 Vs fun x H1 I1 r1 q1=>?_;clear Vs;exact gA (hr pos ak s1 σ H1 _ I1 q1) fun us s2 ah5=>ah5.elim fun xs ah6=>ah6.elim fun H2 ah7=>ah7.elim fun I2 ah8=>ah8.elim fun r2 q2=>⟨x::xs,H2,I2,.cons r1 r2,q2⟩
def aJ5(t:TA):TE:=fun σ H Q=>t σ H fun xs H1=>xs.length<=bO/\∀p,H1 p=none->Q (.ref p) (upd H1 p (.tup xs))
def aJ6(t:TA):TE:=fun σ H Q=>t σ H fun xs H1=>xs.length<=bO/\∀p,H1 p=none->Q (.ref p) (upd H1 p (.lst xs))
def Nr{x1}(h:PA X es t):PE X (.Tuple es x1 pos) (aJ5 t):=by
 intro ak s σ H Q I hq;refine wpAny_Tuple_spliced (gA (h pos ak s σ H _ I hq) fun us s1 ah9=>ah9.elim fun xs ai0=>ai0.elim fun H1 ai1=>ai1.elim fun I1 ai2=>ai2.elim fun r ai3=>ai3.elim fun z q=>⟨by rw[<- r.length];exact z,?_⟩);have hf:H1 s1.heap.objs.size=none:=I1.dX.fresh (b9 _);refine⟨.ref s1.heap.objs.size,upd H1 s1.heap.objs.size (.tup xs),I1.laid (t':=s1.toks) (fun b u e=>bV _ e) (b9 _) ?_,rfl,q _ hf⟩;exact⟨z,us,r,⟨_,fJ _ rfl,rfl,_,rfl⟩⟩
def Nt(h:PA X es t):PE X (.List es pos) (aJ6 t):=by
 intro ak s σ H Q I hq;refine wpAny_List_spliced (gA (h pos ak s σ H _ I hq) fun us s1 ai4=>ai4.elim fun xs ai5=>ai5.elim fun H1 ai6=>ai6.elim fun I1 ai7=>ai7.elim fun r ai8=>ai8.elim fun z q=>⟨by rw[<- r.length];exact z,?_⟩);have hf:H1 s1.heap.objs.size=none:=I1.dX.fresh (b9 _);refine⟨.ref s1.heap.objs.size,upd H1 s1.heap.objs.size (.lst xs),I1.laid (t':=s1.toks) (fun b u e=>bV _ e) (b9 _) ?_,rfl,q _ hf⟩;exact⟨z,us,0,r,fJ _ rfl⟩
end
abbrev Sp:=List V->Hp->VK->XK->Prop
abbrev QT:=List Env->Hp->ay->XK->au->ay->Prop
structure Gu(P:cP)(w:bF)(K:aD)(mg:Str->Option au)(base:aN)(A:bP)(outer:List Env)(s:ay)(H:Hp):Prop where
 frames:A.frames=some outer
 mod:Mod K mg base
 bs:∀b o,base.get? b=some o->s.heap.get? b=some o/\H b=none
 Na:base.objs.size<=s.heap.objs.size
 qK:s.heap.FunFrames base outer
 Rh:∀b∈rR outer,H b=none
 dX:rQ P w H s.heap
 bare:AllBare s.gens
def CE(outer:List Env)(P:cP)(w:bF)(H:Hp)(s:ay)(Q:VK)(u:au)(s':ay):Prop:=
 ∃v H',s'.os=s.os/\AllBare s'.gens/\Un (rR outer) [] H H' s.heap s'.heap/\rQ P w H' s'.heap/\RelV v u/\Q v H'
def CR(CX:QT)(outer:List Env)(P:cP)(w:bF)(H:Hp)(s:ay)(Q:VK)(E:XK)(r:Result)(s':ay):Prop:=
 match r with
 | .ok (.ret u)=>CE outer P w H s Q u s'
 | .ok _=>False
 | .error e=>CX outer H s E e s'
structure j4(P:cP)(w:bF)(K:aD)(mg:Str->Option au)(base:aN)(CX:QT)(k:Nat)(f:av)(fd:eZ)(ps:List Str)(sp:Sp):Prop where
 len:∀vs H Q E,sp vs H Q E->vs.length=ps.length
 run:∀(A:bP) (outer:List Env) (s:ay) (H:Hp) (args:Args) (us:List au) (vs:List V) (Q:VK) (E:XK),i7 k A->Gu P w K mg base A outer s H->BindsTo s fd args (ps.zip us)->Vals vs us->sp vs H Q E->
  codeAny (aF P w) A (.call (.ref f) args) (CR CX outer P w H s Q E) s
theorem j4.mono{P:cP}{w:bF}{K:aD}{mg:Str->Option au}{base:aN}{CX:QT}{j k:Nat}{f:av}{fd:eZ}{ps:List Str}{sp:Sp}(F:j4 P w K mg base CX j f fd ps sp)(h:j<=k) :
  j4 P w K mg base CX k f fd ps sp:=⟨F.len,fun A outer s H args us vs Q E hr=>F.run A outer s H args us vs Q E (hr.mono h)⟩
def j4.imp{P:cP}{w:bF}{K:aD}{mg:Str->Option au}{base:aN}{CX:QT}{k:Nat}{f:av}{fd:eZ}{ps:List Str}{sp sp':Sp}(F:j4 P w K mg base CX k f fd ps sp)
  (h:∀vs H Q E,sp' vs H Q E->sp vs H Q E):j4 P w K mg base CX k f fd ps sp':=
 ⟨fun vs H Q E q=>F.len vs H Q E (h _ _ _ _ q),fun A outer s H args us vs Q E hr he hb hv hs=>F.run A outer s H args us vs Q E hr he hb hv (h _ _ _ _ hs)⟩
def Gu.make{P:cP}{w:bF}{K:aD}{mg:Str->Option au}{base:aN}{A:bP}{outer:List Env}{s:ay}{H:Hp}(e:Gu P w K mg base A outer s H)(C:av)(us:List au)(kw:List (Str×au)) :
  Gu P w K mg base (A.under (.builtin "type.__call__" ⟨.ref C::us,kw⟩)) outer s H:=⟨by first|exact e.frames|(simpa[Around.under,Code.envs,Code.isFrame,pushEnvs]using e.frames),e.mod,e.bs,e.Na,e.qK,e.Rh,e.dX,e.bare⟩
section
def Inv.ai9(I:Inv X ak σ H s):Gu X.prog X.w X.K X.mg X.base X.A X.stack s H:=
 ⟨I.ok.frames,I.ok.mod,I.bs,f9 I.ok.Na I.sz,I.stack,I.AH,I.dX,I.bare⟩
def Inv.after(I:Inv X ak σ H s)(h:CE X.stack X.prog X.w H s Q u s'):EP X ak σ Q u s':=by
 refine Ra h fun v H' os bare un dX r q=>?_;clear h;obtain⟨hh,g,d,t,os'⟩:=s';obtain rfl:os'=s.os:=os;exact⟨v,H',I.call (h':=hh) (g':=g) (d':=d) (t':=t) (ch:=[]) un dX bare (fun b z=>aV5 z (by simp)),r,q⟩
end
def Binds(K:aD)(fd:eZ)(ps:List Str)(ds:List au):Prop:=
 ∀(s:ay) (us:List au),K.In s.heap->(us++ds).length=ps.length->BindsTo s fd ⟨us,[]⟩ (ps.zip (us++ds))
def Binds.all{K:aD}{fd:eZ}{ps:List Str}(h:∀us:List au,us.length=ps.length->bindArgs fd ⟨us,[]⟩=pure (ps.zip us)):Binds K fd ps []:=fun s us _ hl=>by
 rw[qc]at hl ⊢;exact .of_eq (h us hl)
section
structure Mk(K:aD)(C f:av):Prop where
 makes:PySem.W.makesIn K C=true
 init:vj K (.ref C) "__init__"=some (some (.ref f))
 fn:PySem.W.isFn K (.ref f)=true
 kp:sy K (.ref C)=true
end
structure gx(N P:List Str)(sc:iV):Prop where
 kind:sc.kind = .function
 co:sc.isCoroutine=false
 gen:sc.isGenerator=false
 nd:N.Nodup
 pre:N.take P.length=P
 par:∀x∈P,sc.names.lookup x=some .local\/sc.names.lookup x=some .cell
 WN:∀y∈sc.names,y.2≠ .free
theorem yS{kindOf:Str->Option NameKind}{x:Str}:∀{binds:List (Str×au)} {m:Str->Option au},(∀v,(x,v)∉binds)->bindL kindOf binds m x=m x
 | [],_,_=>rfl
 | (n,v)::r,m,h=>by
  unfold bindL;rw[yS fun w hw=>h w (nC _ hw)];split;have:x≠n:=by rintro rfl;exact h v tZ
  simp[this];rfl
theorem yT{kindOf:Str->Option NameKind}{x:Str}:∀{binds:List (Str×au)} {m:Str->Option au},(∀v,(x,v)∉binds)->bindC kindOf binds m x=m x
 | [],_,_=>rfl
 | (n,v)::r,m,h=>by
  unfold bindC;rw[yT fun w hw=>h w (nC _ hw)];split;rfl;have:x≠n:=by rintro rfl;exact h v tZ
  simp[this]
theorem yU{kindOf:Str->Option NameKind}:∀{P:List Str} {vs:List au} {i:Nat} {m:Str->Option au},P.Nodup->P[i]?=some x->vs[i]?=some v->kindOf x=some .local->
  bindL kindOf (P.zip vs) m x=some v
 | [],_,_,_,_,h,_,_=>by simp at h
 | _::_,[],_,_,_,_,h,_=>by simp at h
 | p::P,w::vs,0,m,nd,h1,h2,hk=>by
  simp at h1 h2;subst h1;subst h2;show bindL kindOf ((p,w)::P.zip vs) m p=_;unfold bindL;rw[yS fun v hv=>(jN.mp nd).1 (vp hv).1,aU3 hk];simp
 | p::P,w::vs,i+1,m,nd,h1,h2,hk=>by
  show bindL kindOf ((p,w)::P.zip vs) m x=_;unfold bindL;exact yU (i:=i) (jN.mp nd).2 (by simpa using h1) (by simpa using h2) hk
theorem yV{kindOf:Str->Option NameKind}:∀{P:List Str} {vs:List au} {i:Nat} {m:Str->Option au},P.Nodup->P[i]?=some x->vs[i]?=some v->kindOf x≠some .local->
  bindC kindOf (P.zip vs) m x=some v
 | [],_,_,_,_,h,_,_=>by simp at h
 | _::_,[],_,_,_,_,h,_=>by simp at h
 | p::P,w::vs,0,m,nd,h1,h2,hk=>by
  simp at h1 h2;subst h1;subst h2;show bindC kindOf ((p,w)::P.zip vs) m p=_;unfold bindC;rw[yT fun v hv=>(jN.mp nd).1 (vp hv).1,aU4 hk];simp
 | p::P,w::vs,i+1,m,nd,h1,h2,hk=>by
  show bindC kindOf ((p,w)::P.zip vs) m x=_;unfold bindC;exact yV (i:=i) (jN.mp nd).2 (by simpa using h1) (by simpa using h2) hk
def start(N:List Str)(vs:List V):St:=vs.map some++cg (N.length-vs.length) none
def ji(CX:QT)(P:cP)(w:bF)(K:aD)(mg:Str->Option au)(base:aN)(N:List Str)(qual:Str)(scope:iV)(f:av)(cd:au)(A:bP)(outer:List Env)(s:ay)(H:Hp)(E:XK):Cx where
 prog:=P
 w:=w
 K:=K
 mg:=mg
 base:=base
 A:=A.deeper (envOfC qual scope s.heap.objs.size f cd)
 N:=N
 iG:=s
 N9:=H
 env:=envOfC qual scope s.heap.objs.size f cd
 outer:=outer
 stack:=envOfC qual scope s.heap.objs.size f cd::outer
 ex:=[]
 calm:=true
 fn:=fun _=>true
 pn:=[]
 xe:=fun e s'=>aC (aF P w) (A.deeper (envOfC qual scope s.heap.objs.size f cd)) (leaving (envOfC qual scope s.heap.objs.size f cd) e) (fun _ Rx=>CX outer H s E e Rx) (fun e' Rx=>CX outer H s E e' Rx) s'
def Cy{sc:iV}(h:sc.names.lookup x=some .cell):∃c,(cellsFrom n sc.names []).lookup x=some c:=by
 have q:=F3 sc.names n [] (.inl h);exact MI.mp q
def yW{CX:QT}{P:cP}{w:bF}{K:aD}{mg:Str->Option au}{base:aN}{N ps:List Str}{qual:Str}{scope:iV}{f:av}{cd:au}{A:bP}{outer:List Env}{s s1:ay}{H:Hp}{E:XK}{us:List au}{vs:List V}
  (S:gx N ps scope) (hd:A.handled=none) (e0:Gu P w K mg base A outer s H) (hl:vs.length=ps.length) (r:Vals vs us)
  (x:InCallC s s.heap.objs.size (bindL (envOfC qual scope s.heap.objs.size f cd).kindOf (ps.zip us) fun _=>none) (cellsFrom (s.heap.objs.size+1) scope.names []) (bindC (envOfC qual scope s.heap.objs.size f cd).kindOf (ps.zip us) fun _=>none) s1) :
  Inv (ji CX P w K mg base N qual scope f cd A outer s H E) [] (start N vs) H s1:=by
 have sW:ps.length<=N.length:=by have:=congrArg List.length S.pre;rw[kP]at this;lia
 refine cj x.done fun h1 tk aT hk=>?_;walk_at"c";have noA:∀b:av,b∉(ji CX P w K mg base N qual scope f cd A outer s H E).ex:=fun b z=>aV5 (show b∈([]:List av)from z) (by simp);refine⟨⟨e0.mod,S.kind,rfl,rfl,b9 _,fun y z c h1 h2=>?_,fun y hy=>?_,fun y c _ h=>?_,fun _=>hd,Around.frames_deeper e0.frames,.inr ⟨rfl,rfl⟩,fun b z=>aV5 z (noA b),e0.bs,e0.Na,fun b _ _=>noA b,fun b z=>aV5 z (noA b),e0.qK,e0.Rh⟩,
  rfl,e0.bare,Un.kept hk,⟨_,x.toInCall.ns,fun i y v h1 h2 h3=>?_⟩,fun y c h=>⟨_,x.cell y c h⟩,e0.dX.fresh (b9 _),fun y c h=>?_,fun p hp=>aV5 (show p∈([]:List (av×Obj))from hp) (by simp),e0.dX.kept hk,?_⟩
 exact name_of_addr x.apart (ve h1) (ve h2);have hy:scope.names.lookup y=some .cell\/scope.names.lookup y=some .free:=hy;rcases hy with hy|hy;exact Cy hy;exact aV5 rfl (S.WN _ (ve hy));exact pR (x.above y c (ve h));have hi:i<vs.length:=by unfold start at h2;by_cases hi:i<vs.length;exact hi;rw[kQ (by simpa using hi)]at h2;rw[qd]at h2;split at h2 <;> cases h2
 have ha:vs[i]?=some v:=by
  unfold start at h2;rw[kR (by simpa using hi),cG]at h2;cases e:vs[i]? with
  | none=>rw[e]at h2;cases h2
  | some a=>rw[e]at h2;cases h2;rfl
 refine aL (r.get ha) fun u hu rv=>?_;have hp:ps[i]?=some y:=by rw[<- S.pre,Ad (by lia)];exact h1
 have ndP:ps.Nodup:=by rw[<- S.pre];exact S.nd.sublist (LX _ _)
 refine⟨u,rv,?_⟩;rcases S.par y (jO hp)with k|k;exact .inl ⟨k,yU ndP hp hu k⟩;obtain⟨c,e⟩:=Cy (n:=s.heap.objs.size+1) k;refine .inr ⟨.inl k,c,e,?_⟩;have q:=x.cell y c e;rw[yV ndP hp hu (by show scope.names.lookup y≠_;rw[k];decide)]at q;exact q;exact e0.dX.fresh (pR (x.above y c (ve h)));unfold start;show _=N.length;rw[fj,bL,Fe];lia
def aj0{CX:QT}{P:cP}{w:bF}{K:aD}{mg:Str->Option au}{base:aN}{k:Nat}{f:av}{name qual:Str}{params:Arguments}{body:List aW}{scope:iV}{dV kV doc pm ck ct oc:au}{an od:Option av}
  {Cz:Array (Option au)} {N ps:List Str} {sp:Sp} (lk:K.lookup f=some ⟨oc,od,.func (lY name qual params body scope dV kV doc pm an ck ct),Cz⟩) (Ge:PySem.W.codeIn K ck qual=true) (S:gx N ps scope)
  (len:∀vs H Q E,sp vs H Q E->vs.length=ps.length)
  (qQ:∀(A:bP) (outer:List Env) (s:ay) (H:Hp) (vs:List V) (Q:VK) (E:XK),i7 k (A.deeper (envOfC qual scope s.heap.objs.size f ck))->sp vs H Q E->
   ∃t,mZ (ji CX P w K mg base N qual scope f ck A outer s H E) body t/\t {nx:=fun _ H'=>Q .cH H',rt:=Q} (start N vs) H) :
  j4 P w K mg base CX (k+1) f (lY name qual params body scope dV kV doc pm an ck ct) ps sp:=by
 refine⟨len,fun A outer s H args us vs Q E hr e0 hb r Ry=>?_⟩;have hl:=len _ _ _ _ Ry;have KX:K.In s.heap:=e0.mod.QM.keeps fun b o e=>(e0.bs b o e).1;have lim:s.heap.NoLimit:=e0.mod.nolimit.keeps fun b o e=>(e0.bs b o e).1;have CA:∀y∈ps.zip us,scope.names.lookup y.1=some .local\/(scope.names.lookup y.1=some .cell/\((cellsFrom (s.heap.objs.size+1) scope.names []).lookup y.1).isSome=true):=fun aj1 hy=>by obtain⟨n,v⟩:=aj1;rcases S.par n (vp hy).1 with q|q;exact .inl q;exact .inr ⟨q,F3 _ _ _ (.inl q)⟩
 refine Lu hr.depth (KX _ _ lk) rfl S.co S.gen rfl (LK KX Ge) (hb _ _ _ _ ?_);refine Lv S.kind CA fun env he s1 x=>?_;subst he;refine⟨lim.keeps x.toInCall.keep,codeAny_func ?_⟩;refine aL (qQ A outer s H vs Q E (hr.deeper _) Ry) fun t ht hq=>?_;have I:Inv (ji CX P w K mg base N qual scope f ck A outer s H E) [] (start N vs) H s1:=yW S hr.hd e0 hl r x;refine gv (ht [] s1 (start N vs) H _ I hq) (fun fl s' hs=>?_) fun e s' hs=>hs;have fin:∀{cz:St} {H':Hp} {v:V} {u:au},Inv (ji CX P w K mg base N qual scope f ck A outer s H E) [] cz H' s'->RelV v u->Q v H'->CE outer P w H s Q u s':=
  fun {cz H' v u} J rv q=>⟨v,H',J.os,J.bare,J.base,J.dX,rv,q⟩
 cases fl with
 | ret u=>refine R8 hs fun v cz H' J rv q=>?_;clear hs;exact fin J rv q
 | next=>refine cj hs fun cz H' J q=>?_;clear hs;exact fin (v:=V.cH) (u:=gR) J rfl q
 | brk=>refine cj hs fun _ _ _ q=>?_;clear hs;exact iu q
 | cont=>refine cj hs fun _ _ _ q=>?_;clear hs;exact iu q
section
variable {X:Cx}{x:Str}{p pos:Pos}{e:bf}{es:List bf}{t:TA}{id:String}{r:List V->Hp->VK->Prop}
def tCB(r:List V->Hp->VK->Prop)(t:TA):TE:=fun σ H Q=>t σ H fun vs H1=>r vs H1 Q
def iH(hc:jB X (.builtin id) r)(hg:Gl X x)(hm:X.mg x=none)(hv:gY x=some (.builtin id))(ha:PA X (e::es) t)(hn:x≠ "__name__":=by decide)(Gv:(x==("__debug__" : Str))=false:=by decide)
  (he:bJ (e::es) X.env=(false,eval e X.env)::bJ es X.env:=by rfl) (sW:(backTo pos (bJ es X.env)).any (·.1)=false:=by rfl):PE X (.Call (.Name x p) (e::es) [] pos) (tCB r t):=by
 intro ak s σ H Q I h;refine rX (qm I hg hm hv ?_ hn Gv);exact W7 (gA (ha pos ak s σ H _ I h) fun us s1 aj2=>aj2.elim fun vs aj3=>aj3.elim fun H1 aj4=>aj4.elim fun I1 aj5=>aj5.elim fun r1 q1=>hc ak s1 σ H1 vs us Q I1 r1 q1) he sW
def lC(hc:jB X (.type T) r)(hg:Gl X x)(hm:X.mg x=none)(hv:gY x=some (.type T))(ha:PA X (e::es) t)(hn:x≠ "__name__":=by decide)(Gv:(x==("__debug__" : Str))=false:=by decide)
  (he:bJ (e::es) X.env=(false,eval e X.env)::bJ es X.env:=by rfl) (sW:(backTo pos (bJ es X.env)).any (·.1)=false:=by rfl):PE X (.Call (.Name x p) (e::es) [] pos) (tCB r t):=by
 intro ak s σ H Q I h;refine rX (qm I hg hm hv ?_ hn Gv);exact Co (gA (ha pos ak s σ H _ I h) fun us s1 aj6=>aj6.elim fun vs aj7=>aj7.elim fun H1 aj8=>aj8.elim fun I1 aj9=>aj9.elim fun r1 q1=>hc ak s1 σ H1 vs us Q I1 r1 q1) he sW
end
end L2
namespace HT
open PySem PyProof.Rows
def lexLt:List Int->List Int->Bool
 | [],[]=>false
 | [],_::_=>true
 | _::_,[]=>false
 | x::xs,y::ys=>if x=y then lexLt xs ys else decide (x<y)
def dO(x y:Int)(xs ys:List Int):lexLt (x::xs) (y::ys)=if x=y then lexLt xs ys else decide (x<y):=rfl
def jc:lexLt [] []=false:=rfl
def nP(y:Int)(ys:List Int):lexLt [] (y::ys)=true:=rfl
def jS(x:Int)(xs:List Int):lexLt (x::xs) []=false:=rfl
def Nu(A:bP)(s:ay)(a:Int)(t:Tok)(c:Int)(u:Tok)(prog:cP)(w:bF)(E:au->ay->Prop)(Q:au->ay->Prop)(h:Q (.bool (decide (a<c))) s) :
  aC (aF prog w) A (richCompare .Lt (.int a t) (.int c u)) Q E s:=
 (W8 h:aC (aF prog w) A (gZ .Lt (.int a t) (.int c u)) Q E s)
section
open PySem.SeqAt
open PySem.AutoSeq1 (wpAny_loadPart')
open PySem.MeetsSeq PySem.MeetsSeq2 PySem.MeetsSeq3
end
section
def yX(n d:Nat):Option Int->Nat
 | none=>d
 | some v=>if v<0 then(v+(n:Int)).toNat else min v.toNat n
end
end HT
namespace L2
open PySem PySem.Spec PyProof.Rows
abbrev TO:=St->Hp->(Option Int->Hp->Prop)->Prop
def PO(X:Cx)(e:Option bf)(t:TO):Prop:=
 ∀(ak:List (av×Obj)) (s:ay) (σ:St) (H:Hp) (Q:Option Int->Hp->Prop),Inv X ak σ H s->t σ H Q->
  aC (aF X.prog X.w) X.A (evalPart e X.env) (fun u s'=>∃o H',Inv X ak σ H' s'/\IsPart u o/\Q o H') X.xe s
def Rz:TO:=fun _ H Q=>Q none H
def ak0(t:TE):TO:=fun σ H Q=>t σ H fun x H1=>∃i,x = .int i/\Q (some i) H1
section
variable {X:Cx}{e:bf}{te:TE}{lo hi:Option bf}{tl th:TO}{pos p2:Pos}
def RA:PO X none Rz:=by
 intro ak s σ H Q I h;rw[EL];exact aG ⟨none,H,I,.none,h⟩
def RB(h:PE X e te):PO X (some e) (ak0 te):=by
 intro ak s σ H Q I hw;rw[evalPart_some];refine gA (h ak s σ H _ I hw) fun u s1 Vt=>?_;refine b7 Vt fun x H1 I1 r1 q1=>?_;clear Vt;refine aL q1 fun i fW q=>?_;clear q1;obtain rfl:=fW;obtain⟨t,rfl⟩:=r1;exact⟨some i,H1,I1,.int i t,q⟩
def SlR(X:Cx)(r:V->Option Int->Option Int->Hp->VK->Prop):Prop:=
 ∀(ak:List (av×Obj)) (s:ay) (σ:St) (H:Hp) (x:V) (v vl vu:au) (lo hi:Option Int) (sl:av) (Q:VK),Inv X ak σ H s->RelV x v->s.heap.IsSliceOf sl vl vu .none->IsPart vl lo->IsPart vu hi->r x lo hi H Q->
  ∃T id,typeLookup (.type T) "__getitem__"=pure (some (.builtin id))/\s.TypeIs v T/\aC (aF X.prog X.w) X.A (getItem v (.ref sl)) (EP X ak σ Q) X.xe s
def tSl(r:V->Option Int->Option Int->Hp->VK->Prop)(te:TE)(tl th:TO):TE:=fun σ H Q=>te σ H fun x H1=>tl σ H1 fun l H2=>th σ H2 fun u H3=>r x l u H3 Q
def CB(hr:SlR X r)(he:PE X e te)(hl:PO X lo tl)(hu:PO X hi th):PE X (.Subscript e (.Slice lo hi none p2) pos) (tSl r te tl th):=by
 intro ak s σ H Q I h;refine FJ (gA (he ak s σ H _ I h) fun v s1 CC=>?_);refine b7 CC fun x H1 I1 r1 q1=>?_;clear CC;refine wpAny_Slice (gA (hl ak s1 σ H1 _ I1 q1) fun vl s2 Nv=>Nv.elim fun l ak1=>ak1.elim fun H2 ak2=>ak2.elim fun I2 ak3=>ak3.elim fun pl q2=>gA (hu ak s2 σ H2 _ I2 q2) fun vu s3 Vu=>?_);refine b7 Vu fun u H3 I3 pu q3=>?_;clear Vu;rw[EL];refine aG ?_;have I4:Inv X ak σ H3 {s3 with heap:=s3.heap.push {cls:=.type "slice",data:=.fields #[vl,vu,.none]}}:=I3.kept (t':=s3.toks) fun b ob q=>bV _ q;refine b7 (hr ak {s3 with heap:=s3.heap.push {cls:=.type "slice",data:=.fields #[vl,vu,.none]}} σ H3 x v vl vu l u s3.heap.objs.size Q I4 r1 (ML ..) pl pu q3) fun T id hT ht hg=>?_;show aC (aF X.prog X.w) X.A (subscriptTail e (.Slice lo hi none p2) v (.ref s3.heap.objs.size)) (EP X ak σ Q) X.xe {s3 with heap:=s3.heap.push {cls:=.type "slice",data:=.fields #[vl,vu,.none]}};exact tail_any (ops:=[.ref s3.heap.objs.size,v]) ht hT hg (by with_unfolding_all rfl)
def JD(xs:List V)(lo hi:Option Int):List V:=(xs.drop (HT.yX xs.length 0 lo)).take (HT.yX xs.length xs.length hi-HT.yX xs.length 0 lo)
def CD(xs:List V)(lo hi:Option Int):(JD xs lo hi).length<=xs.length:=by
 unfold JD;rw[kP,Ff];lia
end
def AO(n:Nat)(i:Int):Option Nat:=if 0<=i then(if i<n then some i.toNat else none)else if -(n:Int)<=i then some (i+n).toNat else none
def xZ{α:Type}(xs:List α)(i:Int):Option α:=(AO xs.length i).bind fun j=>xs[j]?
def Ii(h:AO n i=some j):seqIndex? i n=some j/\j<n/\ -(n:Int)<=i/\i<n:=by
 unfold AO at h;by_cases h0:0<=i;rw[aU3 h0]at h;by_cases h1:i<n;rw[aU3 h1]at h;have e:i.toNat=j:=dN h;exact⟨by rw[EM h0 h1,e],by lia,by lia,h1⟩;rw[aU4 h1]at h;cases h;rw[aU4 h0]at h;by_cases h1 : -(n:Int)<=i;rw[aU3 h1]at h;have e:(i+n).toNat=j:=dN h;exact⟨by rw[EN (by lia) h1,e],by lia,h1,by lia⟩;rw[aU4 h1]at h;cases h
def Ij(h:xZ xs i=some v):∃j,seqIndex? i xs.length=some j/\xs[j]?=some v/\j<xs.length/\ -(xs.length:Int)<=i/\i<xs.length:=by
 unfold xZ at h;cases e:AO xs.length i with
 | none=>rw[e]at h;cases h
 | some j=>rw[e]at h;refine Az (Ii e) fun h1 h2 h3 h4=>?_;exact⟨j,h1,h,h2,h3,h4⟩
def kG(b:bf):Prop:=∀o i,subscripted b false o i=operate [o,i] (getItem o i)
def QU(X:Cx)(r:R2):Prop:=
 ∀(value slice:bf) (ak:List (av×Obj)) (s:ay) (σ:St) (H:Hp) (x y:V) (v u:au) (Q:VK),Inv X ak σ H s->RelV x v->RelV y u->r x y H Q->
  subscripted slice false v u=operate [v,u] (getItem v u)->aC (aF X.prog X.w) X.A (subscriptTail value slice v u) (EP X ak σ Q) X.xe s
def MtR(X:Cx)(id:String)(r:V->List V->Hp->VK->Prop):Prop:=
 ∀(ak:List (av×Obj)) (s:ay) (σ:St) (H:Hp) (x:V) (xs:List V) (v:au) (us:List au) (Q:VK),Inv X ak σ H s->RelV x v->Vals xs us->r x xs H Q->
  aC (aF X.prog X.w) X.A (call (.builtin id) (v::us)) (EP X ak σ Q) X.xe s
section
variable {X:Cx}
def QU.or(h:QU X r)(h':QU X r'):QU X (fun x y H Q=>r x y H Q\/r' x y H Q):=by
 intro value slice ak s σ H x y v u Q I rx ry q hs;rcases q with q|q;exact h value slice ak s σ H x y v u Q I rx ry q hs;exact h' value slice ak s σ H x y v u Q I rx ry q hs
def Nx(hr:QU X r)(ha:PE X a ta)(hb:PE X b tb)(hs:kG b):PE X (.Subscript a b pos) (tOp r ta tb):=by
 intro ak s σ H Q I h;exact FJ (WD ha hb I h fun v u s2 x y H2 I2 rx ry q=>hr a b ak s2 σ H2 x y v u Q I2 rx ry q (hs _ _))
def ak4(K:aD):R2:=fun x y H Q=>∃p xs i v,x = .ref p/\y = .int i/\ja K H p xs/\xZ xs i=some v/\Q v H
def ak5(K:aD):R2:=fun x y H Q=>∃p xs i v,x = .ref p/\y = .int i/\jA K H p xs/\xZ xs i=some v/\Q v H
def RC:QU X (ak4 X.K):=by
 intro value slice ak s σ H x y v u Q I rx ry h hs;refine Rc h fun p xs i z yb JE hq he q=>?_;clear h;obtain rfl:=yb;obtain rfl:=JE;cases rx;obtain⟨t,rfl⟩:=ry;refine bK (I.list hq) fun b6 r pl hz=>?_;refine R7 (Ij he) fun j h1 h2 h3 h4 h5=>?_;refine aL (r.get h2) fun w ew Jw=>?_;have hl:=r.length;have hn:=AN;have fin:EP X ak σ Q w s:=⟨z,H,I,Jw,q⟩
 by_cases h0:0<=i;have hj:i.toNat=j:=by rw[EM h0 h5]at h1;exact dN h1
 exact item_listR pl.isList h0 (by lia) (by rw[hj];simpa using ew) fin hs;have hj:(i+(b6.toArray.size:Int)).toNat=j:=by rw[EN (by lia) h4]at h1;rw[d7,<- hl];exact dN h1
 exact ME (x:=w) pl.isList.typeIs EO.lookup
  (wpAny_getItem_list_neg (Q:=fun r s'=>r=w/\EP X ak σ Q r s') pl.isList (by lia) (by rw[d7] <;> lia) (by lia) (by rw[hj];simpa using ew) ⟨rfl,fin⟩) hs
def WO:QU X (ak5 X.K):=by
 intro value slice ak s σ H x y v u Q I rx ry h hs;refine Rc h fun p xs i z yb JE hq he q=>?_;clear h;obtain rfl:=yb;obtain rfl:=JE;cases rx;obtain⟨t,rfl⟩:=ry;refine bK (I.tuple hq) fun b6 r pl hz=>?_;refine R7 (Ij he) fun j h1 h2 h3 h4 h5=>?_;refine aL (r.get h2) fun w ew Jw=>?_;have hl:=r.length;have hn:=AN;have fin:EP X ak σ Q w s:=⟨z,H,I,Jw,q⟩
 exact ME (x:=w) pl.typeIs slot_tuple_getitem.lookup
  (getItem_tuple (j:=j) (Q:=fun r s'=>r=w/\EP X ak σ Q r s') pl (by lia) (by lia) (by rw[d7,<- hl];exact h1) (by simpa using ew) ⟨rfl,fin⟩) hs
def Gw(b6:List au)(n j:Nat)(u:au):fq (·.setIfInBounds j u) {cls:=.type "list",data:=.seq b6.toArray n}={cls:=.type "list",data:=.seq (b6.set j u).toArray n}:=by
 simp[fq]
theorem Inv.lst(I:Inv X ak σ H s)(h:H p=some (.lst xs)) :
  ∃(b6:List au) (n:Nat),Vals xs b6/\s.heap.get? p=some {cls:=.type "list",data:=.seq b6.toArray n}/\xs.length<=bO:=by
 obtain⟨z,b6,n,r,e⟩:=I.dX p _ h;exact⟨b6,n,r,e,z⟩
def Inv.WQ{b6 its':List au}{f:Obj->Obj}(I:Inv X ak σ H s)(h:H p=some (.lst xs))
  (ho:s.heap.get? p=some {cls:=.type "list",data:=.seq b6.toArray n}) (hf:f {cls:=.type "list",data:=.seq b6.toArray n}={cls:=.type "list",data:=.seq its'.toArray n'}) (r:Vals ys its') (hz:ys.length<=bO) (t:Nat) :
  Inv X ak σ (upd H p (.lst ys)) {s with heap:=s.heap.update p f,toks:=t}:=by
 have e:(s.heap.update p f).get? p=some {cls:=.type "list",data:=.seq its'.toArray n'}:=by rw[nt f ho (by rw[hf] <;> rfl),hf]
 refine I.write (x:=p) (e:=p) (by rw[h];trivial) (.inl rfl) (fun b u hb q=>(Aa _ _ (fm hb)).trans q) ⟨_,e⟩ ?_;exact⟨hz,its',n',r,e⟩
def ak6:V->V->V->Hp->(Hp->Prop)->Prop:=fun o i v H Q=>∃p xs k j,o = .ref p/\i = .int k/\H p=some (.lst xs)/\AO xs.length k=some j/\Q (upd H p (.lst (xs.set j v)))
def set_list:Wx X ak6:=by
 intro ak s σ H o i v ov iv u Q I ro ri rv h;refine Rc h fun p xs k j yb JE hp hj q=>?_;clear h;obtain rfl:=yb;obtain rfl:=JE;cases ro;obtain⟨t,rfl⟩:=ri;refine b7 (I.lst hp) fun b6 n r ho hz=>?_;refine Az (Ii hj) fun h1 h2 h3 h4=>?_;have hl:=r.length;have hn:=AN;have I':Inv X ak σ (upd H p (.lst (xs.set j v))) {s with heap:=s.heap.update p (fq (·.setIfInBounds j u))}:=
  I.WQ hp ho (Gw b6 n j u) (r.set rv j) (by rw[List.length_set];exact hz) s.toks
 by_cases h0:0<=k;have hk:k.toNat=j:=by rw[EM h0 h4]at h1;exact dN h1
 exact PySem.W.ki_setAt ho h0 (by lia) (by rw[d7,<- hl];exact h4) (by rw[hk];exact⟨_,I',q⟩);have hk:(k+(b6.toArray.size:Int)).toNat=j:=by rw[EN (by lia) h3]at h1;rw[d7,<- hl];exact dN h1
 exact PySem.W.ki_setBack ho (by lia) (by rw[d7,<- hl];exact h3) (by lia) (by rw[hk];exact⟨_,I',q⟩)
def AQ(lo hi:Option Int)(n:Nat):(sliceBounds lo hi none n).1=((HT.yX n 0 lo:Nat):Int)/\(sliceBounds lo hi none n).2.1=((HT.yX n n hi:Nat):Int)/\(sliceBounds lo hi none n).2.2=1:=by
 refine⟨?_,?_,rfl⟩;cases lo with
 | none=>simp[sliceBounds,HT.yX]
 | some i=>simp only[sliceBounds,HT.yX,MJ,show(1:Int) > 0 by decide,aV2];by_cases h:i<0;simp only[h,aV2] <;> lia;simp only[h,aV1] <;> lia
 cases hi with
 | none=>simp[sliceBounds,HT.yX]
 | some i=>simp only[sliceBounds,HT.yX,MJ,show(1:Int) > 0 by decide,aV2];by_cases h:i<0;simp only[h,aV2] <;> lia;simp only[h,aV1] <;> lia
def yc(b6:List au)(lo hi:Option Int):slicePick b6.toArray lo hi none=((b6.drop (HT.yX b6.length 0 lo)).take (HT.yX b6.length b6.length hi-HT.yX b6.length 0 lo)).toArray:=by
 refine qH (AQ lo hi b6.toArray.size) fun h1 h2 h3=>?_;unfold slicePick;rw[h1,h2,h3];simp only[sliceRange_one,pick_run,d7] <;> rfl
def aJ7(K:aD):V->Option Int->Option Int->Hp->VK->Prop:=fun x lo hi H Q=>∃a xs,x = .ref a/\ja K H a xs/\∀p,H p=none->Q (.ref p) (upd H p (.lst (JD xs lo hi)))
def Ik:SlR X (aJ7 X.K):=by
 intro ak s σ H x v vl vu lo hi sl Q I rx hs pl pu h;refine b7 h fun a xs aT hx q=>?_;clear h;walk_at"c";cases rx;refine bK (I.list hx) fun b6 r ht hz=>?_;have hlen:=r.length;refine⟨"list",_,EO.lookup,ht.isList.typeIs,?_⟩;refine Lw ht.isList hs pl pu .none (by simp) ?_ (by rw[d7] <;> lia);rw[yc,<- hlen];refine⟨.ref s.heap.objs.size,_,I.laid (t':=s.toks) (o:=.lst (JD xs lo hi)) (fun b ob q=>bV _ q) (b9 _) ?_,rfl,q _ (I.dX.fresh (b9 _))⟩;exact⟨f9 (CD xs lo hi) hz,_,0,(r.drop (HT.yX xs.length 0 lo)).take (HT.yX xs.length xs.length hi-HT.yX xs.length 0 lo),fJ _ rfl⟩
def AR:jB X (.builtin "len") (fun xs H Q=>∃p ys,xs=[.ref p]/\(ja X.K H p ys\/jA X.K H p ys)/\Q (.int ys.length) H):=by
 intro ak s σ H xs us Q I r h;refine b7 h fun p ys aT hq q=>?_;clear h;walk_at"c";refine aL (vals1 r) fun u fW rx=>?_;obtain rfl:=fW;cases rx;have hn:=AN;rcases hq with hq|hq;refine bK (I.list hq) fun b6 r' pl hz=>?_;have hlen:=r'.length;exact Calls.call_len_list pl.isList (by simp only[d7] <;> lia) ⟨.int ys.length,H,I.tok _,⟨s.toks+1,by rw[d7,hlen]⟩,q⟩;refine bK (I.tuple hq) fun b6 r' pl hz=>?_;have hlen:=r'.length;exact len_tuple pl (by simp only[d7] <;> lia) ⟨.int ys.length,H,I.tok _,⟨s.toks+1,by rw[d7,hlen]⟩,q⟩
def qR:jB X (.type "list") (fun xs H Q=>∃p ys,xs=[.ref p]/\(ja X.K H p ys\/jA X.K H p ys)/\∀l,H l=none->Q (.ref l) (upd H l (.lst ys))):=by
 intro ak s σ H xs us Q I r h;refine b7 h fun p ys aT hq q=>?_;clear h;walk_at"c";refine aL (vals1 r) fun u fW rx=>?_;obtain rfl:=fW;cases rx;have fin:∀(b6:List au),Vals ys b6->ys.length<=bO->∀(h':aN) (c':Nat),(∀b o',s.heap.get? b=some o'->h'.get? b=some o')->
   h'.get? s.heap.objs.size=some {cls:=.type "list",dict:=none,data:=.seq b6.toArray c',slots:=#[]}->EP X ak σ Q (.ref s.heap.objs.size) {s with heap:=h'}:=fun b6 r' hz h' c' kp e=>
  ⟨.ref s.heap.objs.size,_,I.laid (t':=s.toks) kp (b9 _) (show i0 X.prog X.w _ h' _ (.lst ys)from⟨hz,b6,c',r',e⟩),rfl,q _ (I.dX.fresh (b9 _))⟩
 rcases hq with hq|hq;refine bK (I.list hq) fun b6 r' pl hz=>?_;have hlen:=r'.length;obtain⟨o,ho,hc,n,hd⟩:=pl.isList;exact call_list_seq p (.inl rfl) ho hc hd (fun h' c' kp e=>fin b6 r' hz h' c' kp e) (by simp only[d7] <;> lia);refine bK (I.tuple hq) fun b6 r' pl hz=>?_;have hlen:=r'.length;obtain⟨o,ho,hc,n,hd⟩:=pl;exact call_list_seq p (.inr rfl) ho hc hd (fun h' c' kp e=>fin b6 r' hz h' c' kp e) (by simp only[d7] <;> lia)
def yd:jB X (.type "tuple") (fun xs H Q=>∃p ys,xs=[.ref p]/\((ja X.K H p ys/\∀l,H l=none->Q (.ref l) (upd H l (.tup ys)))\/(jA X.K H p ys/\Q (.ref p) H))):=by
 intro ak s σ H xs us Q I r h;obtain⟨p,ys,rfl,h⟩:=h;obtain⟨u,rfl,rx⟩:=vals1 r;cases rx;rcases h with⟨hq,q⟩|⟨hq,q⟩;obtain⟨b6,r',pl,hz⟩:=I.list hq;have hlen:=r'.length;refine call_tuple_list pl.isList (fun h' kp=>?_) (by simp only[d7] <;> lia);have I1:Inv X ak σ H {s with heap:=h'}:=I.kept (t':=s.toks) kp;have I2:Inv X ak σ (upd H h'.objs.size (.tup ys)) {s with heap:=h'.push {cls:=.type "tuple",data:=.seq b6.toArray}}:=
  I1.laid (t':=s.toks) (fun b o e=>bV _ e) (b9 _) (show i0 X.prog X.w _ _ _ (.tup ys)from⟨hz,b6,r',MF _ _⟩)
 exact⟨.ref h'.objs.size,_,I2,rfl,q _ (I1.dX.fresh (b9 _))⟩;obtain⟨b6,r',pl,hz⟩:=I.tuple hq;exact call_tuple_same pl ⟨.ref p,H,I,rfl,q⟩
def tyV(K:aD)(T:String)(x:V)(H:Hp):Prop:=match x with
 | .str _=>T = "str"
 | .int _=>T = "int"
 | .ref p=>(T = "list" /\∃xs,ja K H p xs)\/(T = "tuple" /\∃o,K.lookup p=some o/\o.cls = .type "tuple" /\o.dict=none)\/
   (T = "dict" /\((∃AD,H p=some (.dK AD))\/∃AD,H p=some (.dT AD)))\/(T = "set" /\∃S n,H p=some (.set S n))
 | _=>False
def WR(I:Inv X ak σ H s)(r:RelV x v)(ty:tyV X.K T x H) :
  s.TypeIs v T/\∀a,v = .ref a->∃ob,s.heap.get? a=some ob/\ob.dict=none:=by
 cases x with
 | str z=>obtain⟨t,rfl⟩:=r;cases(show T = "str"from ty);exact⟨typeIs_str s z t,fun _ e=>nomatch e⟩
 | int i=>obtain⟨t,rfl⟩:=r;cases(show T = "int"from ty);exact⟨ER s i t,fun _ e=>nomatch e⟩
 | ref p=>
  cases r;rcases ty with⟨rfl,xs,hq⟩|⟨rfl,o,hk,hc,hd⟩|⟨rfl,hk⟩|⟨rfl,S,n,hk⟩;refine bK (I.list hq) fun b6 _ pl _=>?_;refine⟨pl.isList.typeIs,fun a e=>?_⟩;cases e;refine qJ pl fun o n e c hd _=>?_;clear pl;exact⟨o,e,hd⟩;refine⟨⟨o,I.Ce p o hk,hc⟩,fun a e=>?_⟩;cases e;exact⟨o,I.Ce _ o hk,hd⟩;have z:∃o,s.heap.get? p=some o/\o.ExactDict:=by rcases hk with⟨AD,hk⟩|⟨AD,hk⟩;obtain⟨_,_,_,_,o,_,_,e,ex,_⟩:=I.dX p _ hk;exact⟨o,e,ex⟩;obtain⟨_,_,_,_,o,_,_,e,ex,_⟩:=I.dX p _ hk;exact⟨o,e,ex⟩
  refine aL z fun o e ex=>?_;clear z;refine⟨⟨o,e,ex.1⟩,fun a e2=>?_⟩;cases e2;exact⟨o,e,ex.2.1⟩;refine aC0 (I.dX p _ hk) fun o _ _ _ e ex _=>?_;refine⟨⟨o,e,ex.1⟩,fun a e2=>?_⟩;cases e2;exact⟨o,e,ex.2.1⟩
 | _=>exact iu ty
def tBM(K:aD)(T:String)(r:V->List V->Hp->VK->Prop)(to:TE)(t:TA):TE:=fun σ H Q=>to σ H fun x H1=>tyV K T x H1/\t σ H1 fun xs H2=>r x xs H2 Q
variable {o e:bf}{es:List bf}{to:TE}{t:TA}{name:Str}{apos nQ:Pos}{T id:String}{r:V->List V->Hp->VK->Prop}
def Vv(pa:PlainAttrs T)(slot:Slot T name id)(hty:typeOf (.builtin id)=pure (.type "method_descriptor"))(hm:MtR X id r)(ho:PE X o to)(ha:PA X (e::es) t)
  (Ny:rW o name X.env (eval o X.env)=eval o X.env:=by rfl)
  (WS:((backTo nQ (bJ (e::es) X.env)).all (fun x=>!x.1)&&(backToKw nQ (keywordEach [] X.env)).all (fun x=>x.1.isSome)
   && decide ((e::es).length+([]:List Keyword).length+(if([]:List Keyword).isEmpty then 0 else 1)<30))=true:=by rfl)
  (Nz:(apos.endLine==nQ.line)=true:=by rfl) (hs:bJ (e::es) X.env=(false,eval e X.env)::bJ es X.env:=by rfl) (Gx:(backTo nQ (bJ es X.env)).any (·.1)=false:=by rfl) :
  PE X (.Call (.Attribute o name apos) (e::es) [] nQ) (tBM X.K T r to t):=by
 intro ak s σ H Q I h;refine wpAny_Call_method_late Ny WS Nz rfl (gA (ho ak s σ H _ I h) fun v s1 Vx=>?_);refine qJ Vx fun x H1 I1 r1 ty q1=>?_;clear Vx;obtain⟨h1,h2⟩:=WR I1 r1 ty;refine⟨T,id,pa,slot,hty,h1,h2,?_⟩;have hA:=ha nQ ak s1 σ H1 _ I1 q1;rw[hs]at hA ⊢;refine Calls.callWith_builtin (by show(false || (backTo nQ (bJ es X.env)).any (·.1))=false;rw[Gx] <;> rfl) (Mz ?_);exact gA hA fun us s2 ak7=>ak7.elim fun vs ak8=>ak8.elim fun H2 ak9=>ak9.elim fun I2 al0=>al0.elim fun r2 q2=>hm ak s2 σ H2 x vs v us Q I2 r1 r2 q2
end
def MtM(X:Cx)(id:String)(r:V->List V->Hp->VK->Prop):Prop:=
 ∀(ak:List (av×Obj)) (s:ay) (σ:St) (H:Hp) (x:V) (xs:List V) (v:au) (us:List au) (Q:VK),Inv X ak σ H s->RelV x v->Vals xs us->r x xs H Q->
  aC (aF X.prog X.w) X.A (call (.builtin id) (v::us)) (EP X ak σ Q) X.xe s
def Vals.inv(h:Vals (x::xs) us):∃u vs,us=u::vs/\RelV x u/\Vals xs vs:=by
 cases h with
 | cons r t=>exact⟨_,_,rfl,r,t⟩
def Vals.zero(h:Vals [] us):us=[]:=by
 cases h;rfl
def Vals.one(h:Vals [x] us):∃u,us=[u]/\RelV x u:=by
 refine b7 h.inv fun u vs aT r t=>?_;walk_at"c";obtain rfl:=t.zero;exact⟨u,rfl,r⟩
theorem Vals.reverse(h:Vals xs us):Vals xs.reverse us.reverse:=by
 induction h with
 | nil=>exact .nil
 | cons r t ih=>rw[Ae,Ae];exact Vals.append ih (.cons r .nil)
theorem Vals.rep(h:Vals xs us):∀k:Nat,Vals (cg k xs).flatten (cg k us).flatten
 | 0=>.nil
 | k+1=>by
  rw[qe,qe,sE,sE];exact Vals.append h (Vals.rep h k)
theorem foldl_rep(b6:List au):∀(k:Nat) (acc:List au),
  List.foldl (fun x1 x2=>x1++x2) acc.toArray (cg k b6.toArray)=(acc++(cg k b6).flatten).toArray
 | 0,acc=>by simp
 | k+1,acc=>by
  have e:acc.toArray++b6.toArray=(acc++b6).toArray:=by simp
  have e2:(acc++b6)++(cg k b6).flatten=acc++(cg (k+1) b6).flatten:=by rw[qe,sE,vq]
  rw[<- e2,<- foldl_rep b6 k (acc++b6),<- e,qe,LY]
section
def Inv.aJ8{b6 its':List au}{f:Array au->Array au}(I:Inv X ak σ H s)(hH:H l=some (.lst xs))
  (e:s.heap.get? l=some {cls:=.type "list",data:=.seq b6.toArray n}) (hf:f b6.toArray=its'.toArray) (hv:Vals ys its') (hz:ys.length<=bO) :
  Inv X ak σ (upd H l (.lst ys)) {s with heap:=s.heap.update l (fq f),toks:=t'}:=by
 have q:=PySem.IsL.update e f;rw[hf]at q;refine I.write (x:=l) (e:=l) (by rw[hH];exact trivial) (.inl rfl) (fun b' u hb hu=>(Aa s.heap (fq f) (fm hb)).trans hu) ⟨_,q⟩ ?_;exact⟨hz,its',_,hv,q⟩
def Inv.al1(I:Inv X ak σ H s)(hv:Vals ys b6)(hz:ys.length<=bO) :
  Inv X ak σ (upd H s.heap.objs.size (.lst ys)) {s with heap:=s.heap.push {cls:=.type "list",data:=.seq b6.toArray},toks:=t'}:=
 I.laid (fun _ _ q=>bV _ q) (b9 _) ⟨hz,b6,0,hv,fJ _ rfl⟩
theorem Inv.fresh(I:Inv X ak σ H s):H s.heap.objs.size=none:=I.dX.fresh (b9 _)
def Inv.al2(I:Inv X ak σ H s)(hH:H l=some (.lst xs)):xs.length<=bO/\∃(b6:List au) (n:Nat),Vals xs b6/\xs.length=b6.length/\s.heap.get? l=some {cls:=.type "list",data:=.seq b6.toArray n}:=by
 obtain⟨z,b6,n,r,e⟩:=I.dX l _ hH;exact⟨z,b6,n,r,r.length,e⟩
def NB(h:n<=bO):Builtin.List.listTooLong n=false:=by
 unfold Builtin.List.listTooLong;exact aU6 (by lia)
end
section
def Il:V->List V->Hp->VK->Prop:=fun x vs H Q=>∃l xs y,x = .ref l/\vs=[y]/\H l=some (.lst xs)/\xs.length<bO/\Q .cH (upd H l (.lst (xs++[y])))
def yY:MtM X "list.append" Il:=by
 intro ak s σ H x vs v us Q I rx rv h;refine AB h fun l xs y nM yb hH hz q=>?_;clear h;obtain rfl:=nM;obtain rfl:=yb;cases rx;refine aL rv.one fun u fW ru=>?_;obtain rfl:=fW;obtain⟨z,b6,n,r,hl,e⟩:=I.al2 hH;refine vf F.slot_list_append ⟨_,e,rfl⟩ F.entry_list_append (F.args_list_append_2 _ _) (PySem.list_append l b6.toArray n u (by rw[d7];lia)) ⟨e,?_⟩;refine⟨.cH,_,I.aJ8 (its':=b6++[u]) hH e (by simp) (r.append (.cons ru .nil)) ?_,rfl,q⟩;rw[fj,vt];lia
def aJ9:R2:=fun x y H Q=>∃l k xs,x = .ref l/\y = .int k/\H l=some (.lst xs)/\ -(2 ^ 63)<=k/\k<2 ^ 63/\xs.length*k.toNat<=bO/\
 ∀p,H p=none->Q (.ref p) (upd H p (.lst (cg k.toNat xs).flatten))
def len_rep(xs:List α)(k:Nat):(cg k xs).flatten.length=k*xs.length:=by
 induction k with
 | zero=>simp
 | succ k ih=>rw[qe,sE,fj,ih,F4,F5]
def WT:pT X (binaryOp .Mult) aJ9:=by
 intro ak s σ H x y v u Q I rx ry h;refine aC1 h fun l k xs nM yb hH h1 h2 hz q=>?_;clear h;obtain rfl:=nM;obtain rfl:=yb;cases rx;obtain⟨t,rfl⟩:=ry;obtain⟨z,b6,n,r,hl,e⟩:=I.al2 hH;have hlen:b6.toArray.size*k.toNat<=bO:=by rw[d7,<- hl];exact hz
 have CF:¬ b6.toArray.size*k.toNat > (2 ^ 63-1) / 8:=by
  have:(bO:Nat)<=(2 ^ 63-1) / 8:=by decide
  lia
 have aK0:¬ (!Builtin.List.listFitsIndex k)=true:=by rw[fitsIndex_both h1 h2];exact iW
 have al3:¬ Builtin.List.listTooLong (b6.toArray.size*k.toNat)=true:=by rw[NB hlen];exact iW
 have NC:List.foldl (fun x1 x2=>x1++x2) #[] (cg (if b6.toArray.isEmpty=true then 0 else k.toNat) b6.toArray)=(cg k.toNat b6).flatten.toArray:=by
  have f0:∀m:Nat,List.foldl (fun x1 x2=>x1++x2) #[] (cg m b6.toArray)=(cg m b6).flatten.toArray:=fun m=>by have:=foldl_rep b6 m [];rw[gF]at this;exact this
  rw[f0];cases b6 with
  | nil=>simp
  | cons a r'=>rw[aU4 (by simp)]
 refine wpAny_binaryOp_repeat_ref (T:="list") (U:="int") (by decide) ⟨_,e,rfl⟩ (fun s'=>ER s' k t) noFill_list_mul F.fills_int_mul MM repeat_list F.slot_int_index.lookup
  (vf MM (ER s k t) F.entry_int_rmul (F.args_int_rmul_2 _ _) (int___rmul___int_list k t l b6.toArray n)
   ⟨e,rfl,⟨_,e,rfl⟩,vf F.slot_list_mul ⟨_,e,rfl⟩ F.entry_list_mul (F.args_list_mul_2 _ _) (AutoListH.list___mul___list_int_3 l b6.toArray n k t aK0 CF al3) ⟨e,?_⟩⟩)
 rw[NC];exact⟨.ref _,_,I.al1 (t':=s.toks) (r.rep k.toNat) (by rw[len_rep,LM];exact hz),rfl,q _ I.fresh⟩
end
end L2
namespace Att
open PySem PySem.W PySem.Calls PyProof.Rows
def uz:∀(ns:List Int) (vs:List au),WellAll P h vs (ns.map WData.int)->IntsAre vs ns:=by
 intro ns;induction ns with
 | nil=>intro vs w;rw[jq]at w;cases w;exact .nil
 | cons n ns ih=>
  intro vs w;rw[bh]at w;cases w with
  | cons a b=>cases a;exact .cons _ _ (ih _ b)
def JF{l:OpenLaw}(hn:l.most=some n)
  (CG:l.row.toRowW.claim.pre args=true) (hwl:WellAll P h vals args) :
  ∃a vs ns,vals=[f7 a]/\args=[WData.list (ns.map WData.int)]/\h.get? a=some {cls:=.type "list",data:=.seq vs.toArray}/\IntsAre vs ns/\ns.length<=n:=by
 have hsh:WShape.hasAll [] args [.list .int]=true:=(pre_splitW CG).1;have hc:l.pre.holds [] {args:=args}=true:=(pre_splitW CG).2;refine b7 (hasAllW_cons hsh) fun d r aT h1 h2=>?_;walk_at"c";obtain rfl:=hasAllW_nil h2;refine aL (hasW_list h1) fun xs fW h3=>?_;obtain rfl:=fW;obtain⟨ns,rfl⟩:=items_int h3;have hlen:ns.length<=n:=by
  unfold OpenLaw.pre at hc;have h4:(WTm.not (.lt (.lit (.int (n:Int))) (.len (.arg 0)))).holds [] {args:=[.list (ns.map .int)]}=true:=by have h4:=(holds_andW hc).1;rw[hn]at h4;exact h4
  have h5:=condW_of h4 (w_not (w_lt w_lit (w_len_list (w_arg rfl))));rw[bL]at h5;refine nu fun q=>?_;have q':(n:Int)<((ns.length:Nat):Int):=by lia
  first
   | (rw[aU5 q']at h5;exact aV5 h5 (by decide))
   | (simp at h5;lia)
 cases hwl with
 | cons w1 w2=>
  cases w2;cases w1 with
  | list ho pN=>exact⟨_,_,ns,rfl,rfl,ho,uz ns _ pN,hlen⟩
def JG(l:OpenLaw)(args:List WData):l.row.toRowW.claim.post args (.bool true) args=true:=
 postW_of (r:=l.row.toRowW) (X:=(true==true))
  (show WShape.has [] (.bool true) .bool=true by first|rfl|decide|simp[WShape.has,WShape.arms,WShape.armsAll])
  (show(WTm.eq .res (.lit (.bool true))).value [] {args:=args,res:=some (.bool true),after:=args}=some (.bool (true==true))from w_eq_bool (w_res rfl) w_lit) rfl
def CH{l:OpenLaw}{YP:bF->aN->Prop}{d:DefRec}
  (hn:l.most=some n) (WU:d.params.defaults=[])
  (call:∀(w:bF) (iG dg:ay) (mg mb:Str->Option au) (fa:av) (o:Obj) (pm cd doc:au) (a:av) (vs:List au) (ns:List Int),
   Ground q loose [] XP w iG mg mb dg.heap->YP w dg.heap->
   dg.heap.get? fa=some o->o.data = .func (docDef d.name d.params d.body d.scope pm cd doc)->dg.heap.CodeRec cd d.name->mg d.name=some (.ref fa)->
   dg.heap.get? a=some {cls:=.type "list",data:=.seq vs.toArray}->IntsAre vs ns->ns.length<=n->dg.gens=#[]->
   codeAny (aF l.prog w) callerA (.call (.ref fa) ⟨[.ref a],[]⟩) (fun r s'=>r = .ok (.ret (.bool true))/\OldK dg.heap s'.heap/\s'.os=dg.os/\AllBare s'.gens) dg) :
  WalkO q loose XP YP l.row.toRowW d [] (fun f vs=>PySem.call f vs):=by
 intro w iG dg mg mb G Y fa o pm cd doc dV kV ho hd Ge hD hmg hg args vals as CG aT1 hrd hwl hlo;obtain rfl:dV = .none:=Dflts.none hD WU;obtain rfl:kV = .none:=Dflts.noKw hD;refine AB (JF hn CG hwl) fun a vs ns nM yb WV hints hlen=>?_;obtain rfl:=nM;obtain rfl:=yb;refine enter_call (rY (call w iG dg mg mb fa o pm cd doc a vs ns G Y ho (fd_plain hd) Ge hmg WV hints hlen hg) fun r s' hq=>?_);refine Az hq fun zo0 h2 h3 h4=>?_;clear hq;obtain rfl:=zo0;exact⟨.inl ⟨.bool true,.bool true,[],rfl,fun _=>rfl,.bool true,JG l _,fun _=>⟨List.Pairwise.nil,fun _ hm=>(nomatch hm)⟩⟩,h2,h3,h4⟩
end Att
namespace L2
open PySem PySem.Spec PyProof.Rows
theorem yZ:∀{vs:List au} {ns:List Int},IntsAre vs ns->Vals (ns.map V.int) vs
 | _,_,.nil=>.nil
 | _,_,.cons n t h=>.cons ⟨t,rfl⟩ (yZ h)
def WW(H:Hp):Prop:=∀b,H b=none\/∃o xs,H b=some (.EF o (.lst xs))
def ND{K:aD}{dg:ay}{vs:List au}
  (KX:K.In dg.heap) (hns:dg.heap.Ns gU mg) (hb:dg.heap.Ns builtinsNs mb) (hbb:∀x:Str,x≠ "__name__" ->mb x=gY x) (aK1:dg.heap.NoLimit) (hg:dg.gens=#[])
  (ha:dg.heap.get? a=some {cls:=.type "list",data:=.seq vs.toArray}) (hi:IntsAre vs ns) (hl:ns.length<=bO) (hr:i7 k callerA)
  (F:∀base:aN,K.In base->base.Ns gU mg->j4 P w K mg base CX k fa fd [x] sp) (al4:∀(s:ay) (u:au),BindsTo s fd ⟨[u],[]⟩ [(x,u)])
  (Ry:∀H:Hp,WW H->ja K H a (ns.map V.int)->sp [.ref a] H (fun v _=>v = .bl true) fun _ _ _=>False)
  (hCX:∀H e s',CX [] H dg (fun _ _ _=>False) e s'->False) :
  codeAny (aF P w) callerA (.call (.ref fa) ⟨[.ref a],[]⟩) (fun r s'=>r = .ok (.ret (.bool true))/\OldK dg.heap s'.heap/\s'.os=dg.os/\AllBare s'.gens) dg:=by
 have rv:=yZ hi;have aK2:=hi.length;have core:∀H:Hp,WW H->ja K H a (ns.map V.int)->rQ P w H dg.heap->(∀b,H b≠none->b=a)->(H a≠none->K.lookup a=none)->
   codeAny (aF P w) callerA (.call (.ref fa) ⟨[.ref a],[]⟩) (fun r s'=>r = .ok (.ret (.bool true))/\OldK dg.heap s'.heap/\s'.os=dg.os/\AllBare s'.gens) dg:=by
  intro H hO hS dX hA hK
  have uP:∀{b:av} {o:Obj},dg.heap.get? b=some o->H b=none->(AG dg.heap H).get? b=some o:=fun e n=>N8 e n
  have noA:∀{b:av} {o:Obj} {es:Array DictEntry} {ep:Nat},dg.heap.get? b=some o->o.data = .dict es ep->H b=none:=fun {b o es ep} e d=>by
   cases q:H b with
   | none=>rfl
   | some u=>
    have e':b=a:=hA b (by rw[q];simp)
    subst e'
    rw[ha]at e;cases e
    have d':Data.seq vs.toArray _=Data.dict es ep:=d
    cases d'
  have nsK:∀{b:av} {m:Str->Option au},dg.heap.Ns b m->(AG dg.heap H).Ns b m:=fun {b m} al5=>al5.elim fun o al6=>al6.elim fun es al7=>al7.elim fun ep al8=>al8.elim fun e al9=>al9.elim fun d r=>⟨o,es,ep,uP e (noA e d),d,r⟩
  have hKb:K.In (AG dg.heap H):=fun b o e=>uP (KX b o e) (by
   cases q:H b with
   | none=>rfl
   | some u=>
    have e':b=a:=hA b (by rw[q];simp)
    subst e'
    rw[hK (by rw[q];simp)]at e;cases e)
  have hM:Mod K mg (AG dg.heap H):=⟨hKb,nsK hns,⟨mb,nsK hb,hbb⟩,let⟨mc,h1,h2⟩:=aK1;⟨mc,nsK h1,h2⟩⟩
  have e0:Gu P w K mg (AG dg.heap H) callerA [] dg H:=⟨rfl,hM,fun b o e=>Rg e,Vj (Ju _ _),trivial,fun b hb=>aV5 (show b∈([]:List av)from hb) (by simp),dX,.of_eq hg⟩
  refine rY ((F _ hKb (nsK hns)).run callerA [] dg H ⟨[.ref a],[]⟩ [.ref a] [.ref a] _ _ hr e0 (al4 dg (.ref a)) (.cons rfl .nil) (Ry H hO hS)) fun r s' h=>?_
  cases r with
  | error e=>exact(hCX H e s' h).elim
  | ok fl=>
   cases fl with
   | next=>exact iu h
   | brk=>exact iu h
   | cont=>exact iu h
   | ret u=>
    refine Ra h fun v H' os bare un aK3 r' q=>?_
    clear h
    have q':v = .bl true:=q
    subst q'
    obtain rfl:u=Value.bool true:=r'
    refine⟨rfl,OldK.of_keep fun b o e=>?_,os,bare⟩
    cases q:H b with
    | none=>exact un.keep b o e q (by intro z;exact aV5 (show b∈([]:List av)from z) (by simp)) (by simp)
    | some u=>
     rcases hO b with z|⟨ob,xs,z⟩
     ·rw[q]at z;cases z
     ·have z2:=un.ya b ob _ z
      obtain⟨e1,_⟩:=dX b _ z
      obtain⟨e2,_⟩:=aK3 b _ z2
      rw[e]at e1;cases e1
      exact e2
 cases hk:K.lookup a with
 | some o=>have e:=KX a o hk;rw[ha]at e;cases e;refine core (fun _=>none) (fun _=>.inl rfl) (.inr ⟨_,vs.toArray,_,hk,rfl,rfl,rfl,by rw[d7,aK2];exact hl,by simpa using rv⟩) (fun b u z=>by have z':(none:Option HO)=some u:=z;cases z') (fun b z=>aV5 rfl z) fun z=>aV5 rfl z
 | none=>refine core (fun b=>if b=a then some (.EF {cls:=.type "list",data:=.seq vs.toArray} (.lst (ns.map V.int)))else none) (fun b=>?_) (.inl (.inr ⟨{cls:=.type "list",data:=.seq vs.toArray},aU3 rfl⟩)) (fun b u z=>?_) (fun b z=>?_) fun _=>hk;by_cases hb:b=a;exact .inr ⟨_,_,aU3 hb⟩;exact .inl (aU4 hb);by_cases hb:b=a;have z':=(aU3 hb).symm.trans z;cases z';subst hb;exact⟨ha,by rw[bL];exact hl,vs,_,rv,ha⟩;have z':=(aU4 hb).symm.trans z;cases z';by_cases hb:b=a;exact hb;exact aV5 (aU4 hb) z
def RD{l:PySem.W.OpenLaw}{YP:bF->aN->Prop}{d:DefRec}{K:dI->aD}{CX:bF->QT}{sp:bF->Sp}
  (hn:l.most=some n) (hn2:n<=bO) (WU:d.params.defaults=[]) (hr:i7 k callerA)
  (hY:∀(w:bF) (h:aN),YP w h->(K w.params).In h)
  (F:∀(w:bF) (mg:Str->Option au) (fa:av) (h:aN),(K w.params).In h->h.Ns gU mg->mg d.name=some (.ref fa)->
   ∃fd:eZ,(∀(s:ay) (u:au),BindsTo s fd ⟨[u],[]⟩ [(x,u)])/\
    ∀base:aN,(K w.params).In base->base.Ns gU mg->j4 l.prog w (K w.params) mg base (CX w) k fa fd [x] (sp w))
  (Ry:∀(w:bF) (H:Hp) (a:av) (ns:List Int),ns.length<=n->WW H->ja (K w.params) H a (ns.map V.int)->sp w [.ref a] H (fun v _=>v = .bl true) fun _ _ _=>False)
  (hCX:∀(w:bF) (H:Hp) (s:ay) (e:au) (s':ay),CX w [] H s (fun _ _ _=>False) e s'->False) :
  PySem.W.WalkO q loose XP YP l.row.toRowW d [] (fun f vs=>PySem.call f vs):=by
 refine Att.CH hn WU fun w iG dg mg mb fa o pm cd doc a vs ns G Y ho hd Ge hmg WV hints hlen hg=>?_;have KX:=hY w _ Y;refine aL (F w mg fa _ KX G.T.g hmg) fun fd hb hF=>?_;exact ND KX G.T.g G.T.b G.T.builtins G.T.nolimit hg WV hints (f9 hlen hn2) hr hF hb (fun H hO hS=>Ry w H a ns hlen hO hS) fun H e s'=>hCX w H dg e s'
def inClass(s:aW)(j:Nat):aW:=match s with
 | .ClassDef _ _ _ body _ _ _ _ _ _ _=>body.getD j (.Pass ⟨0,0,0,0⟩)
 | _=>.Pass ⟨0,0,0,0⟩
def iI(s:aW):Arguments:=match s with
 | .FunctionDef _ a _ _ _ _ _ _ _ _=>a
 | _=>{posonlyargs:=[],args:=[],vararg:=none,kwonlyargs:=[],kw_defaults:=[],kwarg:=none,defaults:=[]}
def dJ(s:aW):List aW:=match s with
 | .FunctionDef _ _ b _ _ _ _ _ _ _=>b
 | _=>[]
def aO(s:aW):iV:=match s with
 | .FunctionDef _ _ _ _ _ _ sc _ _ _=>sc
 | _=>{kind:=.function,names:=[],isGenerator:=false,isCoroutine:=false}
structure Im(K:aD)(x qual:Str)(st:aW)(f:av)(fd:eZ):Prop where
 ex:∃(oc:au) (od:Option av) (kV doc pm:au) (an:Option av) (ck ct:au) (Cz:Array (Option au)),
  fd=lY x qual (iI st) (dJ st) (aO st) .none kV doc pm an ck ct/\K.lookup f=some ⟨oc,od,.func fd,Cz⟩/\PySem.W.codeIn K ck qual=true
 kp:sy K (.ref f)=true
section
variable {K:aD}
def Im.binds{x qual:Str}{st:aW}{f:av}{fd:eZ}{ps:List Str}(F:Im K x qual st f fd)
  (h:∀(kV doc pm:au) (an:Option av) (ck ct:au) (us:List au),us.length=ps.length->bindArgs (lY x qual (iI st) (dJ st) (aO st) .none kV doc pm an ck ct) ⟨us,[]⟩=pure (ps.zip us)):Binds K fd ps []:=by
 refine Rf F.ex fun oc od kV doc pm an ck ct Cz zo9 lk Ge=>?_;obtain rfl:=zo9;exact .all (h kV doc pm an ck ct)
def AS{x qual:Str}{st:aW}{f:av}{oc:au}{od an:Option av}{Cz:Array (Option au)}{kV doc pm ck ct:au}(l:K.lookup f=some ⟨oc,od,.func (lY x qual (iI st) (dJ st) (aO st) .none kV doc pm an ck ct),Cz⟩)
  (c:PySem.W.codeIn K ck qual=true) (k:sy K (.ref f)=true):Im K x qual st f (lY x qual (iI st) (dJ st) (aO st) .none kV doc pm an ck ct):=⟨⟨oc,od,kV,doc,pm,an,ck,ct,Cz,rfl,l,c⟩,k⟩
end
section
def pv(i:Nat)(hN:X.N[i]?=some x:=by rfl)(hv:Vis X.env.scope x:=by first|exact fu rfl|exact fz (fu rfl)|exact fz (fz rfl))(hd:(x==("__debug__" : Str))=false:=by decide)
  (Ge:(x==("__classdict__" : Str))=false:=by decide):PE X (.Name x pos) (qM i):=Wn hN hv hd Ge
end
def aI(H H':Hp):Prop:=∀b o,H b=some o->H' b=some o
def aI.refl(H:Hp):aI H H:=fun _ _ h=>h
def aI.trans(a:aI H H1)(b:aI H1 H2):aI H H2:=fun c o h=>b c o (a c o h)
def aI.free(e:aI H H')(h:H' l=Option.none):H l=Option.none:=by
 cases q:H l with
 | none=>rfl
 | some o=>rw[e l o q]at h;cases h
def aI.seq{K:aD}{H H':Hp}{a:av}{xs:List V}(e:aI H H')(h:ja K H a xs):ja K H' a xs:=by
 rcases h with(h|⟨o,h⟩)|h;exact .inl (.inl (e _ _ h));exact .inl (.inr ⟨o,e _ _ h⟩);exact .inr h
end L2
end ab9
section aK4
namespace Dm
open PySem PySem.Spec PyProof.Rows L2
def XD(dx:Option av)(a:av)(h:aN):Prop:=∀d,dx=some d->∃o,h.get? a=some o/\o.dict=some d
def XD.no:XD none a h:=fun _ z=>nomatch z
def XD.keeps{h':aN}(x:XD dx a h)(k:∀o,h.get? a=some o->∃o',h'.get? a=some o'/\o'.dict=o.dict):XD dx a h':=fun d z=>by
 obtain⟨o,e,ed⟩:=x d z;obtain⟨o',e',ed'⟩:=k o e;exact⟨o',e',ed'.trans ed⟩
def Gy(f:Obj->Obj):Prop:=∀o,(f o).dict=o.dict/\(o.isFreed=false->(f o).isFreed=false)
inductive KD{α:Type}:Sem α->Prop
 | ret (a:α):KD (.pure a)
 | exc (e:au):KD (.raise e)
 | no (w:String):KD (.unsupported w)
 | load {a:av} {pt:Option au} {k:Obj->Sem α} (h:∀o,KD (k o)):KD (.load a pt k)
 | upd {a:av} {pt:Option au} {f:Obj->Obj} {k:Unit->Sem α} (hf:Gy f) (h:KD (k ())):KD (.update a pt f k)
 | alloc {o:Obj} {k:av->Sem α} (h:∀a,KD (k a)):KD (.alloc o k)
 | stack {k:List (Code×Pos)->Sem α} (h:∀l,KD (k l)):KD (.stack k)
theorem KD.bind{f:α->Sem β}(hm:KD m)(hf:∀a,KD (f a)):KD (m>>=f):=by
 show KD (Sem.bind m f);induction hm with
 | ret a=>exact hf a
 | exc e=>exact .exc e
 | no w=>exact .no w
 | load _ ih=>exact .load ih
 | upd z _ ih=>exact .upd z ih
 | alloc _ ih=>exact .alloc ih
 | stack _ ih=>exact .stack ih
def XD.upd(x:XD dx a h)(hf:Gy f):XD dx a (h.update b f):=x.keeps fun o e=>by
 by_cases z:b=a;subst z;exact⟨f o,nt f e ((hf o).2 (Heap.get?_some_iff.mp e).2),(hf o).1⟩;exact⟨o,(Aa h f z).trans e,rfl⟩
def am0(k:KD t) :
  ∀{p:Pos} {s:ay},Sem.wp M Γ t Q E p s->XD dx a s.heap->Sem.wp M Γ t (fun x p s=>Q x p s/\XD dx a s.heap) (fun x p s=>E x p s/\XD dx a s.heap) p s:=by
 induction k with
 | ret x=>exact fun h z=>⟨h,z⟩
 | exc e=>exact fun h z=>⟨h,z⟩
 | no w=>exact fun h z=>h
 | load _ ih=>intro p s h z;rw[Sem.wp_load]at h ⊢;obtain⟨o,e,h⟩:=h;exact⟨o,e,ih o h z⟩
 | upd hf _ ih=>intro p s h z;rw[Sem.wp_update]at h ⊢;exact⟨h.1,ih h.2 (z.upd hf)⟩
 | alloc _ ih=>intro p s h z;rw[Sem.wp_alloc]at h ⊢;exact ih _ h (z.keeps fun o e=>⟨o,bV _ e,rfl⟩)
 | stack _ ih=>intro p s h z;exact ih _ h z
def qS(k:KD t)(h:aC M A t Q E s)(z:XD dx a s.heap) :
  aC M A t (fun x s'=>Q x s'/\XD dx a s'.heap) (fun x s'=>E x s'/\XD dx a s'.heap) s:=fun Γ p uQ=>am0 k (h Γ p uQ) z
def AU(a:av):KD (load a):=.load fun o=>.ret o
def vN:KD stack:=.stack fun l=>.ret l
def qT(f:Array au->Array au):Gy (Obj.mapFields f):=fun o=>by
 obtain⟨c,d,dt,sl⟩:=o;cases dt <;> exact⟨rfl,fun h=>h⟩
def CI(v:au):KD (fieldsOf v):=by
 unfold fieldsOf;cases v with
 | ref a=>refine .bind (AU a) fun o=>?_;split;exact .ret _;exact .no _
 | _=>exact .no _
def qU(v:au)(i:Nat):KD (field v i):=by
 unfold field;refine .bind (CI v) fun vs=>?_;split;exact .ret _;exact .no _
def vO(a:av)(i:Nat)(x:au):KD (updateField a i x):=by
 unfold updateField;refine .bind (AU a) fun o=>?_;split;split;exact .upd (qT _) (.ret _);exact .no _;exact .no _
def nR(v:au)(i:Nat)(x:au):KD (setField v i x):=by
 unfold setField;cases v with
 | ref a=>exact vO a i x
 | _=>exact .no _
def m9(e:au)(f:Option av):KD (setFlight e f):=by
 unfold setFlight;refine .bind (qU e 1) fun tb=>?_;split;exact nR _ _ _;exact .ret _
def JH(env:Env)(outer:List Env):KD (behindIsImport env outer):=by
 unfold behindIsImport;split;exact .ret _;split;exact .ret _;exact .bind (qU _ _) fun _=>.ret _
def RE(env:Env)(i:Bool)(outer:List Env):KD (keptBack env i outer):=by
 unfold keptBack;split;split;exact .ret _;unfold underTheClaimsCaller;exact .bind (.bind vN fun _=>.ret _) fun _=>.ret _;exact .ret _
def NF:∀l:List Env,KD (readyFrames l):=fun l=>by
 induction l with
 | nil=>exact .ret _
 | cons env outer ih=>unfold readyFrames;split;refine .bind (AU _) fun o=>?_;split;exact .ret _;refine .bind (JH env outer) fun i=>.bind (RE env i outer) fun b=>.bind (.upd (fun o=>⟨rfl,fun h=>by obtain⟨_,_,d,_⟩:=o;cases d <;> exact h⟩) (.ret _)) fun _=>ih;exact .no _
def Gz(env:Env):KD (PySem.frameOf env):=by
 unfold PySem.frameOf frameEnvs;refine .bind (.bind vN fun _=>.ret _) fun l=>.bind ?_ fun o=>?_;unfold frameObject;split;exact .ret _;exact .bind (NF _) fun _=>.ret _;split;exact .ret _;exact .no _
def NG(f:av)(b:Bool):KD (entryPlaceOf f b):=by
 unfold entryPlaceOf;refine .bind vN fun l=>?_;split;exact .ret _;exact .ret _
def NH(head:au)(fr:au)(l f x:au)(pl:List au):KD (EntryCells.newEntry head fr l f x pl):=by
 have fin:∀d,KD (newObjAsIs (.type "traceback") d):=fun d=>by unfold newObjAsIs;exact .bind (.alloc fun a=>.ret a) fun _=>.ret _
 unfold EntryCells.newEntry newFields;generalize ([head,fr,l,f,x]++if pl.isEmpty=true then cg 6 gR else pl).toArray=vs;unfold newObj;dsimp only;split;exact .bind (.no _) fun _=>fin _;exact fin _
def RG(e:au)(env:Env):KD (noteFrame e env):=by
 unfold noteFrame;split;refine .bind (qU e 1) fun head=>?_;have fin:=fun(f:av)=>KD.bind (Gz env) fun a=>KD.bind (NG f (head != .none)) fun pl=>KD.bind (NH head a .none (rawInt f) .none pl) fun b=>nR e 1 b;dsimp only;split;refine .bind (qU head 3) fun x=>?_;split;exact .ret _;exact .bind (nR _ _ _) fun _=>fin _;exact fin _;exact .no _
def Cov(l:List Env)(B h:aN):Prop:=∀b o,h.get? b=some o->b∉rR l->B.get? b=some o
def kC(P:cP)(w:bF):QT:=fun outer H s E e s'=>∃a cls dx a0 H' h B,e = .ref a/\Heap.FlyingW B outer a cls a0 s'.heap/\XD dx a s'.heap/\Cov outer B h/\h.UpToSlots s'.heap/\E cls dx H'/\s'.os=s.os/\AllBare s'.gens/\
 Un (rR outer) [] H H' s.heap h/\rQ P w H' h
structure Made(h h':aN)(a:av)(cls:au):Prop where
 keeps:∀b o,h.get? b=some o->h'.get? b=some o
 new:h.get? a=none
 there:∃o a0,h'.get? a=some o/\o.cls=cls/\o.data = .fields #[a0,.none,.none,.none,.bool false,.none]
def Made.of(x:Heap.MadeExcOf h h' a cls vs):Made h h' a cls:=by
 refine bK x.there fun t he _ _=>?_;exact⟨x.keeps,x.new,_,_,he,rfl,rfl⟩
def jw(X:Cx)(E:L2.St->XK)(e:au)(s':ay):Prop:=∃a cls dx σ H h,e = .ref a/\L2.Inv X [] σ H {s' with heap:=h}/\E σ cls dx H/\XD dx a s'.heap/\
 (Made h s'.heap a cls\/(∃a0 B,Cov X.stack B h/\h.UpToSlots s'.heap/\(Heap.FlyingW B X.stack a cls a0 s'.heap\/Heap.HeldW B X.stack a cls a0 X.env.locals s'.heap)))
def vP(I:L2.Inv X ak σ H s):L2.Inv X [] σ H s:=I.qL fun p hp=>by cases hp
section
variable {X:Cx}
def RH(I:L2.Inv X ak σ H s)(hx:Made s.heap h' a cls)(q:E σ cls none H):jw X E (.ref a) {s with heap:=h'}:=
 ⟨a,cls,none,σ,H,s.heap,rfl,vP I,q,.no,.inl hx⟩
def CJ(I:L2.Inv X ak σ H s)(c:kC X.prog X.w X.stack H s (E σ) e s'):jw X E e s':=by
 obtain⟨a,cls,dx,a0,H',h,B,rfl,f,xd,cv,up,q,os,bare,un,dX⟩:=c;have I':L2.Inv X ak σ H' {s' with heap:=h}:=Inv.Cs I (s':={s' with heap:=h}) os un dX bare (fun b z=>aV5 z (by simp));exact⟨a,cls,dx,σ,H',h,rfl,vP I',q,xd,.inr ⟨a0,B,cv,up,.inl f⟩⟩
def uP{h:aN}(f:h.FunFrames base l):∃B:aN,Cov l B h/\B.StaysIn h/\h.FunFrames B l/\∀b,h.get? b=none->B.get? b=none:=by
 have st:(yN h (rR l)).StaysIn h:=fun b o e=>HW _ e;refine⟨yN h (rR l),fun b o e n=>LJ _ e n,st,PySem.W.funFrames_hide f fun env he a ha=>Cn.mpr ⟨env,he,ha⟩,fun b hb=>?_⟩;cases hq:(yN h (rR l)).get? b with
 | none=>rfl
 | some o'=>have:=st b o' hq;rw[hb]at this;cases this
structure RI(X:Cx):Prop where
 Le:X.stack=X.env::X.outer
 fr:X.env.frame=some X.env.locals
def vQ{Q:Unit->ay->Prop}(O:RI X)(f:jw X E e s')
  (hq:∀(a:av) cls dx a0 σ H h B h',e = .ref a->L2.Inv X [] σ H {s' with heap:=h}->E σ cls dx H->XD dx a h'->Cov X.stack B h->h.UpToSlots h'->Heap.HeldW B X.stack a cls a0 X.env.locals h'->Q () {s' with heap:=h'}) :
  aC (aF X.prog X.w) X.A (noteFrame e X.env) Q E' s':=by
 obtain⟨a,cls,dx,σ,H,h,rfl,I,q,xd,f⟩:=f;have fr:X.A.frames=some (X.env::X.outer):=by rw[I.ok.frames,O.Le]
 refine gv (qS (Q:=fun u s1=>XD dx a s1.heap->Q u s1) (E:=E') (RG _ _) ?_ xd) (fun u s1 h=>h.1 h.2) fun _ _ h=>h.1;rcases f with hx|⟨a0,B,cv,up,f|f⟩;obtain⟨oe,a0,he,z8,hdt⟩:=hx.there;subst z8;obtain⟨B,b1,b2,b3,b4⟩:=uP I.stack;have ff:s'.heap.FunFrames B X.stack:=b3.of_keeps fun b o hb _=>⟨o,hx.keeps b o hb,rfl⟩
 rw[O.Le]at ff;unfold noteFrame;simp only[O.fr];refine aq (lW he (vs:=#[a0,.none,.none,.none,.bool false,.none]) hdt (x:=.none) rfl ?_);rw[aU4 (by decide)];refine wpAny_entryW (a0:=a0) fr ff O.fr he (fun b o hb=>hx.keeps b o (b2 b o hb)) (b4 a hx.new) hdt (by simp) rfl fun h' hN=>?_;obtain⟨k1,k2,k3,k4⟩:=hN;refine fun xd=>hq a _ dx a0 σ H h B h' rfl I q xd b1 ((Wb hx.keeps).trans k4) ⟨k1,b4 a hx.new,?_,k3⟩;rw[O.Le];exact k2;rw[O.Le]at f;refine wpAny_looks_onW fr O.fr f fun h' hh us=>?_;exact fun xd=>hq a cls dx a0 σ H h B h' rfl I q xd cv (up.trans us) (by rw[O.Le];exact hh);refine wpAny_noteFrame_againW O.fr f.2.2.2 ?_;exact fun xd=>hq a cls dx a0 σ H h B s'.heap rfl I q xd cv up f
def eS(O:RI X):PassesOwn (aF X.prog X.w) X.A X.env (jw X E):=by
 intro e s' f;refine vQ O f fun a cls dx a0 σ H h B h' ea I q xd cv up hd=>?_;subst ea;unfold cameBackBy;obtain⟨k1,k2,k3,oe,vs,T,oT,ts,he,hc,hdd,h1,hnT,hTe,hT,hdT,h3⟩:=hd;refine aq (lW he hdd h1 ?_);rw[aU4 (by simp)];unfold setFlight;refine aq (lW he hdd h1 ?_);rw[aU3 (show(f7 T !=gR)=true from by simp)];have h3s:3<ts.size:=(sJ.mp h3).1;rw[O.fr];refine rZ hT hdT h3s ?_;have other:∀b,b≠T->(h'.update T (Obj.mapFields (·.setIfInBounds 3 (rawInt X.env.locals)))).get? b=h'.get? b:=fun b hb=>Aa _ _ (fm hb);have Vy:∀b o,h'.get? b=some o->(∀vs,o.data≠ .fields vs)->b≠T:=fun b o hb hnf z=>by rw[z,hT]at hb;injection hb with hb;subst hb;exact hnf ts hdT
 refine⟨a,cls,dx,σ,H,h,rfl,I,q,xd.upd (qT _),.inr ⟨a0,B,cv,fun b o hb hn=>?_,.inr ⟨fun b o hb=>?_,k2,k3.of_keeps fun b o hb hnf=>⟨o,(other b (Vy b o hb hnf)).trans hb,rfl⟩,?_⟩⟩⟩;obtain⟨sl,e1⟩:=up b o hb hn;exact⟨sl,(other b (Vy b _ e1 fun vs z=>hn vs z)).trans e1⟩;refine(other b fun z=>?_).trans (k1 b o hb);rw[z,hnT]at hb;cases hb;refine⟨oe,vs,T,_,_,(other a (fm hTe)).trans he,hc,hdd,h1,hnT,hTe,nt _ hT (Au (sO hdT _)),sO hdT _,?_⟩;simp[h3s]
end
section
variable {P:cP}{w:bF}{K:aD}{mg:Str->Option au}{base:aN}{N:List Str}{qual:Str}{scope:iV}{f:av}{cd:au}{A:bP}{outer:List Env}{s:ay}{H:Hp}{E:XK}
def z9(fl:jw (ji (kC P w) P w K mg base N qual scope f cd A outer s H E) (fun _=>E) e s'):(ji (kC P w) P w K mg base N qual scope f cd A outer s H E).xe e s':=by
 let X:=ji (kC P w) P w K mg base N qual scope f cd A outer s H E;have O:RI X:=⟨rfl,rfl⟩
 show aC (aF P w) X.A (leaving X.env e) (fun _ Rx=>kC P w outer H s E e Rx) (fun e' Rx=>kC P w outer H s E e' Rx) s';unfold leaving;refine aq (vQ O fl fun a cls dx a0 σ H' h B h' ea I q xd cv up hd=>?_);subst ea;refine gv (qS (Q:=fun _ s1=>XD dx a s1.heap->kC P w outer H s E (.ref a) s1) (E:=fun e' s1=>kC P w outer H s E e' s1) (m9 _ _) ?_ xd) (fun u s1 h=>h.1 h.2) fun _ _ h=>h.1;refine wpAny_landsW hd fun h2 WX us xd=>?_;refine Az WX fun k1 k2 aT k4=>?_;clear WX;obtain⟨_,⟨L',o',e1,e2,e3,e4⟩,k3⟩:=aT;obtain rfl:X.env.locals=L':=dN e1;have hL:H' X.env.locals=none:=I.free;have fr:∀b,b∈rR X.stack↔b=X.env.locals\/b∈rR outer:=fun b=>by show b∈rR (X.env::outer)↔_;unfold rR;rw[LZ (show X.env.frame=some X.env.locals from rfl),bD]
 have get:∀b o,b≠X.env.locals->h.get? b=some o->(yN h [X.env.locals]).get? b=some o:=fun b o n e=>LJ _ e (by simpa using n);refine⟨a,cls,dx,a0,H',yN h [X.env.locals],B,rfl,⟨k1,k2,k3,k4⟩,xd,fun b o e nb=>?_,fun b o e hn=>?_,q,I.os,I.bare,?_,?_⟩;have nl:b≠X.env.locals:=fun z=>by have z':=Vi [X.env.locals] (h:=h) (b:=b) (by simp[z]);rw[e]at z';cases z'
 exact cv b o (HW _ e) fun z=>by rcases(fr b).mp z with z|z;exact nl z;exact nb z
 exact(up.trans us) b o (HW _ e) hn;have u:Un (rR outer) [] H H' s.heap h:=I.base;have ne:∀b o,s.heap.get? b=some o->b≠X.env.locals:=fun b o e=>cu (gV (bQ e) I.ok.above);refine⟨fun b o e n nf nx=>get b o (ne b o e) (u.keep b o e n nf nx),fun b o e n nf nx=>?_,u.free,fun b o e nx=>?_,u.ql,u.ya,u.AF⟩;obtain⟨sl,e1⟩:=u.slot b o e n nf nx;exact⟨sl,get b _ (ne b o e) e1⟩;obtain⟨o',e1⟩:=u.there b o e nx;exact⟨o',get b _ (ne b o e) e1⟩;intro b u e;refine(I.dX b u e).AE (fun c v hc q'=>get c v ?_ q') (fun _ z=>z) (fun _ _ z=>z) fun _ zo _ z=>z;rcases hc with z|z;rintro rfl;rw[<- z,hL]at e;cases e;rintro rfl;rw[hL]at z;cases z
end
end Dm
end aK4
section am1
namespace Dm
open PySem PySem.Spec PyProof.Rows L2 PySem.W
def exD(K:Frag)(C:av)(bmB:List au)(newId:String)(o:Obj):Bool:=match o.data with
 | .cls cd=>!cd.hasDel&&cd.mro.head?==some (.ref C)&&tailIn K bmB cd.mro.tail&&nsOkIn K cd.ns&&nsIn K cd.ns "__init__"==some none&&o.cls == .type "type" && o.slots.toList[4]?==some (some (.builtin newId))&&o.slots.toList.length==6
 | _=>false
def Vz(K:Frag)(C:av)(bmB:List au)(newId:String):Bool:=(K.lookup C).any (exD K C bmB newId)
def six{l:List (Option au)}(h:l.length=6)(e:l[4]?=some a):∃k0 k1 k2 k3 k5,l=[k0,k1,k2,k3,a,k5]:=by
 refine pJ (sF h) fun k0 l aT=>?_;walk_at"c";refine pJ (sF (eO h)) fun k1 l aT=>?_;walk_at"c";refine pJ (sF (eO (eO h))) fun k2 l aT=>?_;walk_at"c";refine pJ (sF (eO (eO (eO h)))) fun k3 l aT=>?_;walk_at"c";refine pJ (sF (eO (eO (eO (eO h))))) fun k4 l aT=>?_;walk_at"c";refine pJ (sF (eO (eO (eO (eO (eO h)))))) fun k5 l aT=>?_;walk_at"c";obtain rfl:=List.eq_nil_of_length_eq_zero (eO (eO (eO (eO (eO (eO h))))));cases e;exact⟨k0,k1,k2,k3,k5,rfl⟩
def NI{K:Frag}{mg:Str->Option au}(X:K.In h)(hb:mg x=some (.ref C))(q:Vz K C bmB newId=true):OwnCls x C bmB newId mg h:=by
 refine⟨hb,?_⟩;unfold Vz at q;cases ho:K.lookup C with
 | none=>rw[ho]at q;cases q
 | some o=>
  rw[ho]at q;replace q:exD K C bmB newId o=true:=q;obtain⟨oc,dd,dt,sl⟩:=o;cases dt with
  | cls cd=>
   obtain⟨nm,bs,mro,ns,qn,hd,sn,sub,ab,col,del⟩:=cd;obtain⟨l⟩:=sl;unfold exD at q;simp only[bM,aU7,Aq]at q;obtain⟨⟨⟨⟨⟨⟨⟨rfl,q1⟩,q2⟩,q3⟩,q4⟩,rfl⟩,q5⟩,q6⟩:=q;cases mro with
   | nil=>cases q1
   | cons m bm=>cases q1;refine aB8 (six q6 q5) fun k0 k1 k2 k3 k5 JE=>?_;obtain rfl:=JE;exact⟨bm,ns,nm,qn,bs,hd,sn,sub,ab,col,dd,k0,k1,k2,k3,k5,_,X _ _ ho,.of_isNs (isNs_of_in X q3),nsMap_none_of_in X q3 q4,tail_of_in X q2⟩
  | _=>exact nomatch q
section
variable {X:Cx}{E:L2.St->XK}{x:Str}{C:av}{B newId AV:String}{bm:List au}{np nQ pos:Pos}{AW:bf}{rest:List bf}{ta:TA}
def WY(E:L2.St->XK)(cls:au)(ta:TA):TS:=fun _ σ H=>ta σ H fun vs H1=>vs.length<=bO/\E σ cls none H1
def NJ(FB:ExcBaseFacts B newId AV bm)(hh:X.A.handled=none)(hm:X.mg x=some (.ref C))(hc:Vz X.K C bm newId=true)(hg:Gl X x)(ha:PA (X.cK (jw X E)) (AW::rest) ta)
  (he:bJ (AW::rest) X.env=(false,eval AW X.env)::bJ rest X.env:=by rfl) (Gx:(backTo nQ (bJ rest X.env)).any (·.1)=false:=by rfl) (hd:(x==("__debug__" : Str))=false:=by decide) :
  PS (X.cK (jw X E)) (.Raise (some (.Call (.Name x np) (AW::rest) [] nQ)) none pos) (WY E (.ref C) ta):=by
 intro ak s σ H D I h;have O:OwnCls x C bm newId X.mg X.base:=NI I.ok.mod.QM hm hc;obtain⟨tl,N,nm,q,bs,hdct,sn,sub,ab,col,dd,k0,k1,k2,k3,k5,mN,hC,hN,hni,T⟩:=O.obj;refine wpAny_Raise_call_subT (C:=C) (nm:=nm) (q:=q) (N:=N) (bs:=bs) (bm:=tl) (hdct:=hdct) (sn:=sn) (sub:=sub) (ab:=ab) (col:=col) (dd:=dd) (k0:=k0) (k1:=k1) (k2:=k2) (k3:=k3) (k5:=k5)
  FB (mN:=mN) (T.hasType FB.hasBase) hh (by rw[he];show(false || (backTo nQ (bJ rest X.env)).any (·.1))=false;rw[Gx];rfl) hni (p9 I hg hm ⟨rfl,?_⟩ hd)
 have hp:=ha nQ ak s σ H _ I h;rw[he]at hp ⊢;refine Mz (gv hp (fun us s2 jz=>?_) fun _ _ y=>y);refine qJ jz fun vs H1 I1 r z w=>?_;clear jz;exact⟨rfl,by rw[<- r.length];exact z,I1.bk _ _ hC,hN.keeps I1.bk,T.keeps I1.bk,fun h' e hx=>RH I1.gn (.of hx) w⟩
def NK(sp:Sp)(E:L2.St->XK)(t:TA):TE:=fun σ H Q=>t σ H fun vs H1=>sp vs H1 Q (E σ)
def RJ{CX:QT}(F:j4 X.prog X.w X.K X.mg X.base (kC X.prog X.w) k f fd ps sp)(hr:i7 k X.A)(hb:Binds X.K fd ps [])
  (I:L2.Inv X ak σ H s) (r:Vals vs us) (h:sp vs H Q (E σ)):aC (aF X.prog X.w) X.A (call (.ref f) us) (EP X ak σ Q) (jw X E) s:=by
 have hl:(us++[]).length=ps.length:=by rw[qc,<- r.length];exact F.len _ _ _ _ h
 have hbd:=hb s us I.Ce hl;rw[qc]at hbd;refine ES (rY (F.run X.A X.stack s H ⟨us,[]⟩ us vs Q (E σ) hr I.ai9 hbd r h) fun r s' hq=>?_);cases r with
 | error e=>exact CJ I hq
 | ok fl=>
  cases fl with
  | ret u=>exact I.after hq
  | next=>exact iu hq
  | brk=>exact iu hq
  | cont=>exact iu hq
def NL(F:j4 X.prog X.w X.K X.mg X.base (kC X.prog X.w) k f fd ps sp)(hr:i7 k X.A)(hg:Gl X x)(hm:X.mg x=some (.ref f))(hk:sy X.K (.ref f)=true)(hb:Binds X.K fd ps [])
  (ha:PA (X.cK (jw X E)) (e::es) t) (Gv:(x==("__debug__" : Str))=false:=by decide) (he:bJ (e::es) X.env=(false,eval e X.env)::bJ es X.env:=by rfl) (sW:(backTo pos (bJ es X.env)).any (·.1)=false:=by rfl) :
  PE (X.cK (jw X E)) (.Call (.Name x p) (e::es) [] pos) (NK sp E t):=by
 intro ak s σ H Q I h;refine rX (p9 I hg hm ?_ Gv);refine LL (h₀:=X.base) I.ok.mod.QM hk (gA (ha pos ak s σ H _ I h) fun us s1 n8=>n8.elim fun vs sX=>sX.elim fun H1 Io=>Io.elim fun I1 JI=>JI.elim fun r q=>⟨I1.Ce,?_⟩) he sW;refine gA (RJ (CX:=kC X.prog X.w) F hr hb I1.gn r q) fun u s2 Li=>Li.elim fun v Gf=>Gf.elim fun H2 I8=>I8.elim fun I2 Ia=>Ia.elim fun r2 q2=>⟨v,H2,I2.cK _,r2,q2⟩
def WZ(C:av)(sp:Sp)(E:L2.St->XK)(t:TA):TE:=fun σ H Q=>t σ H fun vs H1=>∀x dx,H1 x=none->H1 dx=none->dx≠x->
 sp (.ref x::vs) (upd (upd H1 dx (.own x)) x (.ins C dx [])) (fun v H2=>v = .cH/\Q (.ref x) H2) (E σ)
def JJ(M:Mk X.K C f)(F:j4 X.prog X.w X.K X.mg X.base (kC X.prog X.w) k f fd ps sp)(hr:i7 (k+1) X.A)(hb:Binds X.K fd ps [])
  (I:L2.Inv X ak σ H s) (r:Vals vs us) (h:∀x dx,H x=none->H dx=none->dx≠x->sp (.ref x::vs) (upd (upd H dx (.own x)) x (.ins C dx [])) (fun v H2=>v = .cH/\Q (.ref x) H2) (E σ)) :
  aC (aF X.prog X.w) X.A (call (.ref C) us) (EP X ak σ Q) (jw X E) s:=by
 have hq:=h (s.heap.objs.size+1) s.heap.objs.size (I.dX.fresh (Ab _)) (I.dX.fresh (b9 _)) (cu (mS _));have I2:=Inv.made (C:=C) I;have r2:Vals (V.ref (s.heap.objs.size+1)::vs) (f7 (s.heap.objs.size+1)::us):=.cons rfl r;have hl:(f7 (s.heap.objs.size+1)::us++[]).length=ps.length:=by rw[qc,<- r2.length];exact F.len _ _ _ _ hq
 have hbd:=hb _ (f7 (s.heap.objs.size+1)::us) I2.Ce hl;rw[qc]at hbd;refine ES (Np (f:=f) I.Ce M.makes M.init (aU7.mp M.fn) (rY (F.run _ X.stack _ _ ⟨f7 (s.heap.objs.size+1)::us,[]⟩ (f7 (s.heap.objs.size+1)::us) _ _ (E σ) (hr.make C us [])
  (I2.ai9.make C us []) hbd r2 hq) fun r s' hq'=>?_))
 cases r with
 | error e=>exact CJ I2 hq'
 | ok fl=>
  cases fl with
  | ret u=>refine qJ (I2.after hq') fun v H' I3 rv ev q3=>?_;subst ev;exact⟨rv,⟨V.ref (s.heap.objs.size+1),H',I3,rfl,q3⟩⟩
  | next=>exact iu hq'
  | brk=>exact iu hq'
  | cont=>exact iu hq'
def NN(M:Mk X.K C f)(F:j4 X.prog X.w X.K X.mg X.base (kC X.prog X.w) k f fd ps sp)(hr:i7 (k+1) X.A)(hg:Gl X x)(hm:X.mg x=some (.ref C))(hb:Binds X.K fd ps [])
  (ha:PA (X.cK (jw X E)) (e::es) t) (Gv:(x==("__debug__" : Str))=false:=by decide) (he:bJ (e::es) X.env=(false,eval e X.env)::bJ es X.env:=by rfl) (sW:(backTo pos (bJ es X.env)).any (·.1)=false:=by rfl) :
  PE (X.cK (jw X E)) (.Call (.Name x p) (e::es) [] pos) (WZ C sp E t):=by
 intro ak s σ H Q I h;refine rX (p9 I hg hm ?_ Gv);refine LL (h₀:=X.base) I.ok.mod.QM M.kp (gA (ha pos ak s σ H _ I h) fun us s1 AK=>AK.elim fun vs GA=>GA.elim fun H1 GB=>GB.elim fun I1 GC=>GC.elim fun r q=>⟨I1.Ce,?_⟩) he sW;refine gA (JJ M F hr hb I1.gn r q) fun u s2 NO=>NO.elim fun v X0=>X0.elim fun H2 X3=>X3.elim fun I2 X4=>X4.elim fun r2 q2=>⟨v,H2,I2.cK _,r2,q2⟩
def za{P:cP}{w:bF}{K:aD}{mg:Str->Option au}{base:aN}{x qual:Str}{st:aW}{f:av}{fd:eZ}{N ps:List Str}{k:Nat}{sp:Sp}(F:Im K x qual st f fd)(S:gx N ps (aO st))(len:∀vs H Q E,sp vs H Q E->vs.length=ps.length)
  (qQ:∀(ck:au),fd.code=ck->∀(A:bP) (outer:List Env) (s:ay) (H:Hp) (vs:List V) (Q:VK) (E:XK),i7 k (A.deeper (envOfC qual (aO st) s.heap.objs.size f ck))->sp vs H Q E->
   ∃t,mZ ((ji (kC P w) P w K mg base N qual (aO st) f ck A outer s H E).cK (jw (ji (kC P w) P w K mg base N qual (aO st) f ck A outer s H E) fun _=>E)) (dJ st) t/\t {nx:=fun _ H'=>Q .cH H',rt:=Q} (start N vs) H) :
  j4 P w K mg base (kC P w) (k+1) f fd ps sp:=by
 refine Rf F.ex fun oc od kV doc pm an ck ct Cz zo9 lk Ge=>?_;obtain rfl:=zo9;refine aj0 lk Ge S len fun A outer s H vs Q E hr h=>?_;refine aL (qQ ck rfl A outer s H vs Q E hr h) fun t ht q=>?_;refine⟨t,fun ak s' σ H' D I hw=>?_,q⟩;exact gv (ht ak s' σ H' D (I.cK _) hw) (fun fl Rx hs=>SP.gn hs) fun e Rx hs=>z9 hs
end
section
variable {M:Model}{A:bP}{E:au->ay->Prop}{K:Frag}{h:aN}{g:Array GenState}{d:Drawn}{t:Nat}{os:OsState}{e:av}{oe:Obj}
variable {nm q:Str}{C N:av}{bs bm:List au}{hdct:Bool}{sn:List Str}{sub:List au}{ab:Bool}{col:Option Bool}{dd:Option av}{k0 k1 k2 k3 k5:Option au}{newId:String}
def vR{Q:Bool->ay->Prop}(X:K.In h)(hC:h.get? C=some (excClassObj nm q C N bs bm hdct sn sub ab col dd k0 k1 k2 k3 k5 newId))(hb:bm.contains (.type "BaseException")=true)
  (he:h.get? e=some oe) (hc:oe.cls = .ref C0) (e1:kitCls K (.ref C0) (.ref C)=some true) (hq:Q true ⟨h,g,d,t,os⟩):aC M A (excMatches (.ref e) (.ref C)) Q E ⟨h,g,d,t,os⟩:=by
 refine qH (kit_cls (M:=M) X e1) fun a1 a2 a3=>?_;have hcB:(f7 C::bm).contains (.type "BaseException")=true:=by rw[List.contains_cons,hb,Bool.or_true]
 have f:=tc_notTuple;unfold excMatches;repeat (first|(with_reducible refine Lx he ?_;rw[hc])|with_reducible refine Lx hC ?_|(with_reducible refine wpAny_isSubtype_exc hC ?_;rw[hcB])|with_reducible refine a3.at ?_|wp_step)
 exact hq
end
section
variable {e:av}
def ClsAt(e:av)(cls:au)(h:aN):Prop:=∃o,h.get? e=some o/\o.cls=cls
end
end Dm
end am1
section aK6
namespace Dm
open PySem PySem.Spec PyProof.Rows L2 PySem.W PySem.Calls PySem.Builtin PySem.Builtin.ObjectAttr PySem.Builtin.Getset_descriptor
def NP(e C dx:av)(h:aN):Prop:=∃o,h.get? e=some o/\o.cls = .ref C/\o.dict=some dx/\∃vs,o.data = .fields vs
def NP.at_(p:NP e C dx h):ClsAt e (.ref C) h:=by
 obtain⟨o,h1,h2,_⟩:=p;exact⟨o,h1,h2⟩
end Dm
end aK6
section aK7
namespace Dm
open PySem PyProof.Rows L2
inductive D where
 | cH|bl (b:Bool)|int (i:Int)|str (x:Str)|tup (ds:List D)|lst (ds:List D)|dH (t:Nat) (ds:List D)
mutual
def dep:D->Nat
 | .tup ds=>jT ds+1
 | .lst ds=>jT ds+1
 | .dH tb ds=>jT ds+2
 | _=>0
def jT:List D->Nat
 | []=>0
 | d::ds=>max (dep d) (jT ds)
end
theorem ic:∀{ds:List D} {d:D},d∈ds->dep d<=jT ds
 | _::_,_,.head _=>Nat.le_max_left _ _
 | _::ds,_,.tail _ h=>f9 (ic h) (Nat.le_max_right _ _)
theorem qV:∀{ds:List D},(∀d∈ds,dep d<=n)->jT ds<=n
 | [],_=>ie _
 | d::ds,h=>Nat.max_le.mpr ⟨h d (.head _),qV fun x hx=>h x (.tail _ hx)⟩
mutual
def gP:D->D->Bool
 | .cH,.cH=>true
 | .bl a,.bl b=>a==b
 | .bl a,.int j=>(if a then 1 else 0)==j
 | .int i,.bl b=>i==(if b then 1 else 0)
 | .int i,.int j=>i==j
 | .str x,.str y=>x==y
 | .tup xs,.tup ys=>dM xs ys
 | .lst xs,.lst ys=>dM xs ys
 | _,_=>false
def dM:List D->List D->Bool
 | [],[]=>true
 | x::xs,y::ys=>gP x y&&dM xs ys
 | _,_=>false
end
theorem CK:∀{xs ys:List D},dM xs ys=true->xs.length=ys.length
 | [],[],_=>rfl
 | [],_::_,h=>by simp[dM]at h
 | _::_,[],h=>by simp[dM]at h
 | x::xs,y::ys,h=>by
  rw[dM,bM]at h;rw[cI,cI,CK h.2]
theorem CL:∀{xs ys:List D},xs.length=ys.length->dM xs ys=(cY xs.length).all fun j=>gP (xs.getD j .cH) (ys.getD j .cH)
 | [],[],_=>rfl
 | x::xs,y::ys,h=>by
  rw[dM,CL (xs:=xs) (ys:=ys) (by simpa using h),cI,List.range_succ_eq_map,List.all_cons,List.all_map];rfl
mutual
def flat:D->Bool
 | .tup ds=>bW ds
 | .lst ds=>bW ds
 | .dH _ _=>false
 | _=>true
def bW:List D->Bool
 | []=>true
 | d::ds=>flat d&&bW ds
end
theorem dh:∀{ds:List D} {d:D},bW ds=true->d∈ds->flat d=true
 | _::_,_,h,.head _=>by rw[bW,bM]at h;exact h.1
 | _::ds,_,h,.tail _ m=>by rw[bW,bM]at h;exact dh h.2 m
theorem iJ:∀{ds:List D},(∀d∈ds,flat d=true)->bW ds=true
 | [],_=>rfl
 | d::ds,h=>by rw[bW,bM];exact⟨h d (.head _),iJ fun x hx=>h x (.tail _ hx)⟩
mutual
def fM(h:aN):D->au->Prop
 | .cH,v=>v = .none
 | .bl b,v=>v = .bool b
 | .int i,v=>∃t,v = .int i t
 | .str x,v=>∃t,v = .str x t
 | .tup ds,v=>∃a items,v = .ref a/\IsTup h a items/\bI h ds items.toList
 | .lst ds,v=>∃a items,v = .ref a/\PlainL h a items/\bI h ds items.toList
 | .dH _ _,_=>False
def bI(h:aN):List D->List au->Prop
 | [],vs=>vs=[]
 | d::ds,vs=>∃v r,vs=v::r/\fM h d v/\bI h ds r
end
theorem bI.len:∀{ds:List D} {vs:List au},bI h ds vs->vs.length=ds.length
 | [],_,e=>by rw[bI]at e;subst e;rfl
 | d::ds,_,e=>by
  rw[bI]at e;obtain⟨v,r,rfl,_,q⟩:=e;rw[cI,cI,q.len]
theorem bI.get:∀{ds:List D} {vs:List au} (j:Nat) (hj:j<vs.length),bI h ds vs->fM h (ds.getD j .cH) vs[j]/\ds.getD j .cH∈ds
 | [],_,j,hj,e=>by rw[bI]at e;subst e;exact aV5 hj (iE _)
 | d::ds,_,j,hj,e=>by
  rw[bI]at e;obtain⟨v,r,rfl,q1,q⟩:=e;cases j with
  | zero=>exact⟨q1,.head _⟩
  | succ j=>obtain⟨a,b⟩:=q.get j (by simpa using hj);exact⟨by simpa using a,by simpa using .inr b⟩
mutual
theorem NQ:∀d:D,flat d=true->gP d d=true
 | .cH,_=>by rw[gP]
 | .bl b,_=>by rw[gP];exact aV4 b
 | .int i,_=>by rw[gP];exact aV4 i
 | .str x,_=>by rw[gP];exact aV4 x
 | .tup xs,h=>by rw[gP];rw[flat]at h;exact lE xs h
 | .lst xs,h=>by rw[gP];rw[flat]at h;exact lE xs h
 | .dH tb xs,h=>by rw[flat]at h;cases h
theorem lE:∀ds:List D,bW ds=true->dM ds ds=true
 | [],_=>by rw[dM]
 | d::ds,h=>by
  rw[bW,bM]at h;rw[dM,NQ d h.1,lE ds h.2];rfl
end
inductive Vw(h:aN):D->au->Prop
 | cH:Vw h .cH .none
 | bl (b:Bool):Vw h (.bl b) (.bool b)
 | int (i:Int) (t:Tok):Vw h (.int i) (.int i t)
 | str (x:Str) (t:Tok):Vw h (.str x) (.str x t)
 | tup {ds:List D} {a:av} {b6:Array au} (q:IsTup h a b6) (p:bI h ds b6.toList):Vw h (.tup ds) (.ref a)
 | lst {ds:List D} {a:av} {b6:Array au} (q:PlainL h a b6) (p:bI h ds b6.toList):Vw h (.lst ds) (.ref a)
def vw(x:fM h d u):Vw h d u:=by
 cases d with
 | cH=>rw[fM]at x;subst x;exact .cH
 | bl b=>rw[fM]at x;subst x;exact .bl b
 | int i=>rw[fM]at x;obtain⟨t,rfl⟩:=x;exact .int i t
 | str y=>rw[fM]at x;obtain⟨t,rfl⟩:=x;exact .str y t
 | tup ds=>rw[fM]at x;obtain⟨a,b6,rfl,q,p⟩:=x;exact .tup q p
 | lst ds=>rw[fM]at x;obtain⟨a,b6,rfl,q,p⟩:=x;exact .lst q p
 | dH _ _=>rw[fM]at x;exact x.elim
def bI.inj(H:∀d∈ds,∀(e:D) (v:au),fM h d v->fM h e v->d=e)(x:bI h ds vs)(y:bI h es vs):ds=es:=by
 induction ds generalizing es vs with
 | nil=>
  rw[bI]at x;subst x;cases es with
  | nil=>rfl
  | cons e es=>rw[bI]at y;obtain⟨_,_,z,_⟩:=y;cases z
 | cons d ds ih=>
  rw[bI]at x;obtain⟨v,r,rfl,p1,p2⟩:=x;cases es with
  | nil=>rw[bI]at y;cases y
  | cons e es=>rw[bI]at y;obtain⟨v',r',z,q1,q2⟩:=y;cases z;rw[H d (.head _) e v p1 q1,ih (fun d hd=>H d (.tail _ hd)) p2 q2]
theorem fM.inj(d e:D)(hu:fM h d v)(hv:fM h e v):d=e:=by
 generalize hn:dep d=n;induction n using Nat.strongRecOn generalizing d e v with
 | ind n ih=>
 have x:=vw hu;have y:=vw hv;clear hu hv;cases x with
 | cH=>cases y;rfl
 | bl b=>cases y;rfl
 | int i t=>cases y;rfl
 | str s t=>cases y;rfl
 | tup q p=>
  rw[dep]at hn;cases y with
  | tup q' p'=>obtain⟨o1,q1,_,n1,d1⟩:=q;obtain⟨o2,q2,_,n2,d2⟩:=q';obtain rfl:=dN (q1.symm.trans q2);rw[d1]at d2;cases d2;rw[bI.inj (fun d hd e v a b=>ih _ (by have:=ic hd;lia) d e a b rfl) p p']
  | lst q' p'=>obtain⟨o1,q1,c1,_⟩:=q;obtain⟨o2,n2,q2,c2,_⟩:=q';obtain rfl:=dN (q1.symm.trans q2);rw[c1]at c2;exact aV5 c2 (by decide)
 | lst q p=>
  rw[dep]at hn;cases y with
  | tup q' p'=>obtain⟨o2,n2,q2,c2,_⟩:=q;obtain⟨o1,q1,c1,_⟩:=q';obtain rfl:=dN (q1.symm.trans q2);rw[c1]at c2;exact aV5 c2 (by decide)
  | lst q' p'=>obtain⟨o1,n1,q1,_,_,d1⟩:=q;obtain⟨o2,n2,q2,_,_,d2⟩:=q';obtain rfl:=dN (q1.symm.trans q2);rw[d1]at d2;cases d2;rw[bI.inj (fun d hd e v a b=>ih _ (by have:=ic hd;lia) d e a b rfl) p p']
open PySem.SeqAt
section
variable {s:ay}
def aP(x:IsTup h a items):h.IsTuple a items:=by
 obtain⟨o,h1,h2,n,h3⟩:=x;exact⟨o,h1,h2,n,h3⟩
def lH{b6 kH:Array au}(pu:bI s.heap xs b6.toList)(pv:bI s.heap ys kH.toList)(h:∀(x y:D) (u v:au),x∈xs->y∈ys->fM s.heap x u->fM s.heap y v->EqAt A s u v (gP x y)):∀j (h1:j<b6.size) (h2:j<kH.size),EqAt A s b6[j] kH[j] (gP (xs.getD j .cH) (ys.getD j .cH)):=fun j h1 h2=>by
 obtain⟨g1,m1⟩:=pu.get j (by rw[fK];exact h1);obtain⟨g2,m2⟩:=pv.get j (by rw[fK];exact h2);rw[Array.getElem_toList]at g1 g2;exact h _ _ _ _ m1 m2 g1 g2
def vS{b6 kH:Array au}(pu:bI s.heap xs b6.toList)(pv:bI s.heap ys kH.toList):((cY (min b6.size kH.size)).all (fun j=>gP (xs.getD j .cH) (ys.getD j .cH))&&(b6.size==kH.size))=dM xs ys:=by
 have lu:b6.size=xs.length:=by rw[<- fK];exact pu.len
 have lv:kH.size=ys.length:=by rw[<- fK];exact pv.len
 by_cases hl:b6.size=kH.size;rw[<- hl,F6,aV4,sN,lu,<- CL (lu.symm.trans (hl.trans lv))];rw[aV0.mpr hl,FQ];exact(qi.mpr fun z=>hl (by rw[lu,lv];exact CK z)).symm
def GD{b6 kH:Array au}(pu:bI s.heap xs b6.toList)(pv:bI s.heap ys kH.toList)(hl:b6.size=kH.size):(cY b6.size).all (fun j=>gP (xs.getD j .cH) (ys.getD j .cH))=dM xs ys:=by
 rw[<- vS pu pv,<- hl,F6,aV4,sN]
def GF{b6 kH:Array au}(pu:bI s.heap xs b6.toList)(pv:bI s.heap ys kH.toList)(hl:¬ b6.size=kH.size):false=dM xs ys:=by
 rw[<- vS pu pv,aV0.mpr hl,FQ]
def RK{A:bP}(x:Vw s.heap d u)(y:Vw s.heap e v)(gG:A.units<cLine)(hn:dep d=n)(fx:flat d=true)(fy:flat e=true)
  (ht:∀{xs ys:List D} {a b:av} {b6 kH:Array au},dep (.tup xs)=n->bW xs=true->bW ys=true->IsTup s.heap a b6->bI s.heap xs b6.toList->IsTup s.heap b kH->bI s.heap ys kH.toList->EqAt A s (.ref a) (.ref b) (dM xs ys))
  (hl:∀{xs ys:List D} {a b:av} {b6 kH:Array au},dep (.lst xs)=n->bW xs=true->bW ys=true->PlainL s.heap a b6->bI s.heap xs b6.toList->PlainL s.heap b kH->bI s.heap ys kH.toList->EqAt A s (.ref a) (.ref b) (dM xs ys)):EqAt A s u v (gP d e):=by
 cases x with
 | cH=>
  cases y with
  | cH=>exact EqAt.same _
  | bl c=>exact EqAt.none_bool c
  | int j r=>exact EqAt.none_int j r
  | str y r=>exact EqAt.none_str y r
  | tup q' p'=>exact EqAt.none_tuple (aP q') gG
  | lst q' p'=>exact EqAt.none_list q'.isList gG
 | bl b=>
  cases y with
  | cH=>exact EqAt.bool_none b
  | bl c=>exact EqAt.bool_bool b c
  | int j r=>exact EqAt.bool_int b j r
  | str y r=>exact EqAt.bool_str b y r
  | tup q' p'=>exact EqAt.bool_tuple b (aP q') gG
  | lst q' p'=>exact EqAt.bool_list b q'.isList gG
 | int i t=>
  cases y with
  | cH=>exact EqAt.int_none i t
  | bl c=>exact EqAt.int_bool i t c
  | int j r=>exact EqAt.int_int i t j r
  | str y r=>exact EqAt.int_str i t y r
  | tup q' p'=>exact EqAt.int_tuple i t (aP q') gG
  | lst q' p'=>exact EqAt.int_list i t q'.isList gG
 | str x t=>
  cases y with
  | cH=>exact EqAt.str_none x t
  | bl c=>exact EqAt.str_bool x t c
  | int j r=>exact EqAt.str_int x t j r
  | str y r=>exact EqAt.str_str x t y r
  | tup q' p'=>exact EqAt.str_tuple x t (aP q') gG
  | lst q' p'=>exact EqAt.str_list x t q'.isList gG
 | tup q p=>
  cases y with
  | cH=>exact EqAt.tuple_none (aP q) gG
  | bl c=>exact EqAt.tuple_bool c (aP q) gG
  | int j r=>exact EqAt.tuple_int j r (aP q) gG
  | str y r=>exact EqAt.tuple_str y r (aP q) gG
  | tup q' p'=>exact ht hn (by rw[flat]at fx;exact fx) (by rw[flat]at fy;exact fy) q p q' p'
  | lst q' p'=>exact EqAt.tuple_list (aP q) q'.isList gG
 | lst q p=>
  cases y with
  | cH=>exact EqAt.list_none q.isList gG
  | bl c=>exact EqAt.list_bool c q.isList gG
  | int j r=>exact EqAt.list_int j r q.isList gG
  | str y r=>exact EqAt.list_str y r q.isList gG
  | tup q' p'=>exact EqAt.list_tuple q.isList (aP q') gG
  | lst q' p'=>exact hl hn (by rw[flat]at fx;exact fx) (by rw[flat]at fy;exact fy) q p q' p'
def sY(d e:D){A:bP}(fx:flat d=true)(fy:flat e=true)(hu:fM s.heap d u)(hv:fM s.heap e v)(hr:A.units+dep d<cLine):EqAt A s u v (gP d e):=by
 generalize hn:dep d=n at hr;induction n using Nat.strongRecOn generalizing d e A u v with
 | ind n ih=>
 have gG:A.units<cLine:=Ac (nv _ _) hr;refine RK (vw hu) (vw hv) gG hn fx fy (fun {xs ys a b b6 kH} hn fx fy q p q' p'=>?_) (fun {xs ys a b b6 kH} hn fx fy q p q' p'=>?_);by_cases rT:a=b;subst rT;have e:D.tup xs=D.tup ys:=fM.inj (h:=s.heap) _ _ (v:=.ref a) (by rw[fM];exact⟨a,b6,rfl,q,p⟩) (by rw[fM];exact⟨a,kH,rfl,q',p'⟩);obtain rfl:xs=ys:=by injection e
 rw[lE xs fx];exact EqAt.same _;rw[<- vS p p'];exact EqAt.of_refs rT (RcAt.tuples (aP q) (aP q') gG (lH p p' fun x y u v m1 m2 g1 g2=>ih _ (by rw[<- hn,dep];have:=ic m1;lia) _ _ (dh fx m1) (dh fy m2) g1 g2 rfl (by show A.units+1+_<_;rw[<- hn,dep]at hr;have:=ic m1;lia)));by_cases rT:a=b;subst rT;have e:D.lst xs=D.lst ys:=fM.inj (h:=s.heap) _ _ (v:=.ref a) (by rw[fM];exact⟨a,b6,rfl,q,p⟩) (by rw[fM];exact⟨a,kH,rfl,q',p'⟩);obtain rfl:xs=ys:=by injection e
 rw[lE xs fx];exact EqAt.same _;refine EqAt.of_refs rT ?_;by_cases hl:b6.size=kH.size;rw[<- GD p p' hl];exact RcAt.lists q.isList q'.isList hl gG (lH p p' fun x y u v m1 m2 g1 g2=>ih _ (by rw[<- hn,dep];have:=ic m1;lia) _ _ (dh fx m1) (dh fy m2) g1 g2 rfl (by show A.units+1+_<_;rw[<- hn,dep]at hr;have:=ic m1;lia));rw[<- GF p p' hl];exact RcAt.lists_lengths q.isList q'.isList (by simpa using hl) gG
end
end Dm
end aK7
section aK8
namespace So
open PySem PySem.W PyProof.Rows
def Rn(r:Nat->Nat)(n:Nat){α:Type}:KasT α->(α->Prop)->Prop
 | .ret a,P=>P a
 | .ask i j k,P=>i<n/\j<n/\Rn r n (k (decide (r i<r j))) P
theorem Rn.mono{r:Nat->Nat}{n:Nat}{α:Type}{P P':α->Prop}(h:∀a,P a->P' a):∀(t:KasT α),Rn r n t P->Rn r n t P'
 | .ret a,q=>h a q
 | .ask i j k,q=>⟨q.1,q.2.1,Rn.mono h _ q.2.2⟩
theorem Rn.bind{r:Nat->Nat}{n:Nat}{α β:Type}{f:α->KasT β}{P:β->Prop}:∀(t:KasT α),Rn r n t (fun a=>Rn r n (f a) P)->Rn r n (t.bind f) P
 | .ret a,q=>q
 | .ask i j k,q=>⟨q.1,q.2.1,Rn.bind (k _) q.2.2⟩
section
variable {r:Nat->Nat}{n:Nat}
def vl(r:Nat->Nat)(p:Array Nat)(k:Nat):Nat:=r (p.getD k 0)
def Up(r:Nat->Nat)(p:Array Nat)(a:Nat):Prop:=∀i j,i<=j->j<a->vl r p i<=vl r p j
def Dn(r:Nat->Nat)(p:Array Nat)(a:Nat):Prop:=∀i j,i<=j->j<a->vl r p j<=vl r p i
def Lt(n:Nat)(p:Array Nat):Prop:=∀k,p.getD k 0<n
def VA{p:Array Nat}(hn:0<n)(h:∀x∈p,x<n):Lt n p:=fun k=>by
 rw[ig];cases q:p[k]? with
 | none=>exact hn
 | some x=>exact h x (Array.mem_of_getElem? q)
def Lt.perm{p p':Array Nat}(hn:0<n)(h:Lt n p)(e:p'.Perm p):Lt n p':=VA hn fun x hx=>by
 have hx:=e.mem_iff.mp hx;obtain⟨i,hi,ei⟩:=Array.mem_iff_getElem.mp hx;have:=h i;simp[Array.getD,hi,ei]at this;exact this
def rev_getD{p:Array Nat}{i j:Nat}(hj:j<=p.size)(k:Nat):(kas_rev p i j).getD k 0=if i<=k/\k<j then p.getD (i+j-1-k) 0 else p.getD k 0:=by
 rw[ig];unfold kas_rev;rw[getElem?_mirror_all hj];split <;> rw[ig]
def sZ{p:Array Nat}{i j:Nat}(hj:j<=p.size)(k:Nat):vl r (kas_rev p i j) k=if i<=k/\k<j then vl r p (i+j-1-k)else vl r p k:=by
 unfold vl;rw[rev_getD hj];split <;> rfl
def jj(p:Array Nat)(i j:Nat):(kas_rev p i j).Perm p:=mirror_perm _ _ _ _
def jU(p:Array Nat)(i j:Nat):(kas_rev p i j).size=p.size:=mirror_size _ _ _ _
theorem GG{p:Array Nat}(hp:Lt n p):∀(f a:Nat),1<=a->Up r p a->Rn r n (kas_asc p f a) fun m=>a<=m/\m<=a+f/\Up r p m/\(m=a+f\/vl r p m<vl r p (m-1))
 | 0,a,_,hu=>⟨b9 _,by lia,hu,.inl rfl⟩
 | f+1,a,ha,hu=>by
  refine⟨hp _,hp _,?_⟩;dsimp only;by_cases c:r (p.getD a 0)<r (p.getD (a-1) 0);rw[aU5 c,aU3 rfl];exact⟨b9 _,by lia,hu,.inr c⟩;rw[aU6 c,aU4 (by simp)];refine Rn.mono (fun m h=>⟨by lia,by lia,h.2.2.1,?_⟩) _ (GG hp f (a+1) (by lia) fun i j pM hj=>?_);rcases h.2.2.2 with h|h;left;lia;exact .inr h;by_cases RL:j<a;exact hu i j pM RL;have e:j=a:=by lia
  subst e;by_cases hi:i=j;subst hi;exact b9 _;have q:=hu i (j-1) (by lia) (by lia);unfold vl at q ⊢;lia
theorem uR(hn:0<n):∀(f:Nat) (p:Array Nat) (a q:Nat),Lt n p->1<=a->a+f<=p.size->Dn r p a->q+1<=a->(∀i,a-(q+1)<=i->i<a->vl r p i=vl r p (a-1))->
  Rn r n (kas_desc f p a q) fun z=>z.1.Perm p/\z.1.size=p.size/\a<=z.2.1/\z.2.1<=a+f/\Dn r z.1 z.2.1/\z.2.2+1<=z.2.1/\(∀i,z.2.1-(z.2.2+1)<=i->i<z.2.1->vl r z.1 i=vl r z.1 (z.2.1-1))
 | 0,p,a,q,_,_,_,hd,hq,he=>⟨.refl _,rfl,b9 _,nv _ _,hd,hq,he⟩
 | f+1,p,a,q,hp,ha,hz,hd,hq,he=>by
  refine⟨hp _,hp _,?_⟩;dsimp only;by_cases c:r (p.getD a 0)<r (p.getD (a-1) 0);rw[aU5 c,aU3 rfl];have step:∀p':Array Nat,(∀k,vl r p' k=vl r p k)->Dn r p' (a+1):=fun p' hv i j pM hj=>by
   rw[hv,hv];by_cases RL:j<a;exact hd i j pM RL;have e:j=a:=by lia
   subst e;by_cases hi:i=j;subst hi;exact b9 _;have:=hd i (j-1) (by lia) (by lia);unfold vl at this ⊢;lia
  by_cases hq0:q > 0;rw[aU3 hq0];have hv:∀k,vl r (kas_rev p (a-(q+1)) a) k=vl r p k:=fun k=>by rw[sZ (by lia)];split;rename_i hk;rw[he _ (by lia) (by lia),he k hk.1 hk.2];rfl
  refine Rn.mono (fun z h=>⟨h.1.trans (jj _ _ _),h.2.1.trans (jU _ _ _),by lia,by lia,h.2.2.2.2⟩) _
   (uR hn f (kas_rev p (a-(q+1)) a) (a+1) 0 (hp.perm hn (jj _ _ _)) (by lia) (by rw[jU];lia) (step _ hv) (by lia) fun i h1 h2=>?_)
  have:i=a:=by lia
  subst this;rfl;rw[aU4 hq0];refine Rn.mono (fun z h=>⟨h.1,h.2.1,by lia,by lia,h.2.2.2.2⟩) _ (uR hn f p (a+1) 0 hp (by lia) (by lia) (step p fun _=>rfl) (by lia) fun i h1 h2=>?_);have:i=a:=by lia
  subst this;rfl;rw[aU6 c,aU4 (by simp)];refine⟨hp _,hp _,?_⟩;dsimp only;by_cases d:r (p.getD (a-1) 0)<r (p.getD a 0);rw[aU5 d,aU3 rfl];exact⟨.refl _,rfl,b9 _,nv _ _,hd,hq,he⟩;rw[aU6 d,aU4 (by simp)];have eq:vl r p a=vl r p (a-1):=by unfold vl;lia
  refine Rn.mono (fun z h=>⟨h.1,h.2.1,by lia,by lia,h.2.2.2.2⟩) _ (uR hn f p (a+1) (q+1) hp (by lia) (by lia) (fun i j pM hj=>?_) (by lia) fun i h1 h2=>?_);by_cases RL:j<a;exact hd i j pM RL;have e:j=a:=by lia
  subst e;by_cases hi:i=j;subst hi;exact b9 _;rw[eq];exact hd i (j-1) (by lia) (by lia);show vl r p i=vl r p a;by_cases hi:i=a;subst hi;rfl;rw[eq];exact he i (by lia) (by lia)
def Out(r:Nat->Nat)(am3:Array Nat)(jV:Nat)(z:Nat×Array Nat):Prop:=z.2.Perm am3/\z.2.size=am3.size/\1<=z.1/\z.1<=jV/\Up r z.2 z.1
def CM(hn:0<n){p:Array Nat}{a jV:Nat}(hp:Lt n p)(h1:1<=a)(h2:a<=jV)(hz:jV<=p.size)(hd:Dn r p a):Rn r n (kas_tail3 a jV p) (Out r p jV):=by
 unfold kas_tail3;refine Rn.bind _ (Rn.mono (fun m h=>?_) _ (GG (r:=r) (hp.perm hn (jj p 0 a)) (jV-a) a h1 fun i j pM hj=>?_));exact⟨jj _ _ _,jU _ _ _,by show 1<=m;lia,by show m<=jV;lia,h.2.2.1⟩;rw[sZ (by lia),sZ (by lia),aU3 (by lia),aU3 (by lia)];exact hd _ _ (by lia) (by lia)
def u9(hn:0<n){p:Array Nat}{a jV:Nat}(hp:Lt n p)(h2:a+1<=jV)(hz:jV<=p.size)(hd:Dn r p (a+1)):Rn r n (kas_descPart a jV p) (Out r p jV):=by
 unfold kas_descPart;refine Rn.bind _ (Rn.mono (fun z h=>?_) _ (uR (r:=r) hn (jV-(a+1)) p (a+1) 0 hp (by lia) (by lia) hd (by lia) fun i h1 h2=>by
  have:i=a:=by lia
  subst this;rfl))
 refine aB9 h fun z1 z2 z3 z4 z5 z6 z7=>?_;clear h;split;have hv:∀k,vl r (kas_rev z.1 (z.2.1-(z.2.2+1)) z.2.1) k=vl r z.1 k:=fun k=>by rw[sZ (by lia)];split;rename_i hk;rw[z7 _ (by lia) (by lia),z7 k hk.1 hk.2];rfl
 refine Rn.mono (fun y h=>?_) _ (CM hn ((hp.perm hn z1).perm hn (jj _ _ _)) (by lia) (by lia) (by rw[jU];lia) fun i j pM hj=>by rw[hv,hv];exact z5 i j pM hj);exact⟨h.1.trans ((jj _ _ _).trans z1),h.2.1.trans ((jU _ _ _).trans z2),h.2.2⟩;refine Rn.mono (fun y h=>?_) _ (CM hn (hp.perm hn z1) (by lia) (by lia) (by lia) z5);exact⟨h.1.trans z1,h.2.1.trans z2,h.2.2⟩
def NR(hn:0<n){p:Array Nat}{jV:Nat}(hp:Lt n p)(h1:1<=jV)(hz:jV<=p.size):Rn r n (kas_count jV p) (Out r p jV):=by
 unfold kas_count;refine Rn.bind _ (Rn.mono (fun m h=>?_) _ (GG (r:=r) hp (jV-1) 1 (b9 _) fun i j pM hj=>by
  have:i=j:=by lia
  subst this;exact b9 _))
 refine Az h fun a1 a2 a3 a4=>?_;clear h;by_cases e:m=jV;rw[aU3 (aU7.mpr e)];exact⟨.refl _,rfl,a1,by show m<=jV;lia,a3⟩;rw[aU4 (fun z=>e (aU7.mp z))];have gh:vl r p m<vl r p (m-1):=by rcases a4 with a4|a4;lia;exact a4
 by_cases g:m > 1;rw[aU3 g];refine⟨hp _,hp _,?_⟩;dsimp only;by_cases c:r (p.getD 0 0)<r (p.getD (m-1) 0);rw[aU5 c,aU3 rfl];exact⟨.refl _,rfl,a1,by show m<=jV;lia,a3⟩;rw[aU6 c,aU4 (by simp)];have all:∀k,k<m->vl r p k=vl r p (m-1):=fun k hk=>by have b1:=a3 0 k (by lia) hk;have b2:=a3 k (m-1) (by lia) (by lia);unfold vl at b1 b2 ⊢;lia
 refine Rn.mono (fun y h=>⟨h.1.trans (jj _ _ _),h.2.1.trans (jU _ _ _),h.2.2⟩) _ (u9 hn (hp.perm hn (jj p 0 m)) (by lia) (by rw[jU];lia) fun i j pM hj=>?_);rw[sZ (by lia),sZ (by lia)];by_cases RL:j<m;rw[aU3 (by lia),aU3 (by lia),all _ (by lia),all (0+m-1-i) (by lia)];exact b9 _;have ej:j=m:=by lia
 subst ej;rw[aU4 (show ¬ (0<=j/\j<j) by lia)];by_cases hi:i<j;rw[aU3 (show 0<=i/\i<j by lia),all (0+j-1-i) (by lia)];exact pR gh;have:i=j:=by lia
 subst this;rw[aU4 (show ¬ (0<=i/\i<i) by lia)];exact b9 _;rw[aU4 g];have em:m=1:=by lia
 subst em;refine u9 hn hp (by lia) hz fun i j pM hj=>?_;by_cases hi:i=j;subst hi;exact b9 _;have e1:i=0:=by lia
 have e2:j=1:=by lia
 subst e1;subst e2;exact pR gh
theorem vU{p:Array Nat}{k:Nat}(hp:Lt n p)(hu:Up r p k):∀(f l q:Nat),q<=k->q-l<=f->l<=q->(∀i,i<l->vl r p i<=vl r p k)->(∀i,q<=i->i<k->vl r p k<vl r p i)->
  Rn r n (kas_place p k f l q) fun m=>m<=k/\(∀i,i<m->vl r p i<=vl r p k)/\(∀i,m<=i->i<k->vl r p k<vl r p i)
 | 0,l,q,h1,h2,h3,a,b=>by
  have:q=l:=by lia
  subst this;exact⟨h1,a,b⟩
 | f+1,l,q,h1,h2,h3,a,b=>by
  unfold kas_place;by_cases hc:l ≥ q;rw[aU3 hc];have:q=l:=by lia
  subst this;exact⟨h1,a,b⟩;rw[aU4 hc];refine⟨hp _,hp _,?_⟩;dsimp only;by_cases c:r (p.getD k 0)<r (p.getD ((l+q) / 2) 0);rw[aU5 c,aU3 rfl];refine vU hp hu f l ((l+q) / 2) (by lia) (by lia) (by lia) a fun i hi hk=>?_;have:=hu ((l+q) / 2) i hi hk;unfold vl at this ⊢;lia;rw[aU6 c,aU4 (by simp)];refine vU hp hu f ((l+q) / 2+1) q h1 (by lia) (by lia) (fun i hi=>?_) b;have:=hu i ((l+q) / 2) (by lia) (by lia);unfold vl at this ⊢;lia
def X5{p:Array Nat}{k l:Nat}(hk:k<p.size)(hl:l<=k)(j:Nat):vl r (bubble p k (k-l)) j=if j=l then vl r p k else if l<j/\j<=k then vl r p (j-1)else vl r p j:=by
 unfold vl;have e:(bubble p k (k-l)).getD j 0=if j=l then p.getD k 0 else if l<j/\j<=k then p.getD (j-1) 0 else p.getD j 0:=by rw[ig,getElem?_bubble hk (k-l) (by lia),show k-(k-l)=l by lia];by_cases c1:j=l;rw[aU3 c1,aU3 c1,ig];rw[aU4 c1,aU4 c1];by_cases c2:l<j/\j<=k;rw[aU3 c2,aU3 c2,ig];rw[aU4 c2,aU4 c2,ig]
 rw[e];by_cases c1:j=l;rw[aU3 c1,aU3 c1];rw[aU4 c1,aU4 c1];by_cases c2:l<j/\j<=k;rw[aU3 c2,aU3 c2];rw[aU4 c2,aU4 c2]
theorem NS(hn:0<n):∀(f:Nat) (p:Array Nat) (k:Nat),Lt n p->k+f<=p.size->Up r p k->Rn r n (kas_bin f p k) fun z=>z.Perm p/\z.size=p.size/\Up r z (k+f)
 | 0,p,k,_,_,hu=>⟨.refl _,rfl,hu⟩
 | f+1,p,k,hp,hz,hu=>by
  unfold kas_bin;refine Rn.bind _ (Rn.mono (fun l h=>?_) _ (vU hp hu k 0 k (b9 _) (by lia) (by lia) (fun i hi=>aV5 hi (iE _)) (fun i h1 h2=>by lia)));refine qH h fun h1 h2 h3=>?_;clear h;have bv:=X5 (r:=r) (p:=p) (k:=k) (l:=l) (by lia) h1;have up:Up r (bubble p k (k-l)) (k+1):=fun i j pM hj=>by
   have eq1:∀x,x=l->vl r (bubble p k (k-l)) x=vl r p k:=fun x hx=>by rw[bv x,aU3 hx]
   have eq2:∀x,l<x->x<=k->vl r (bubble p k (k-l)) x=vl r p (x-1):=fun x hx qO=>by rw[bv x,aU4 (show ¬ x=l by lia),aU3 ⟨hx,qO⟩]
   have eq3:∀x,x<l->vl r (bubble p k (k-l)) x=vl r p x:=fun x hx=>by rw[bv x,aU4 (show ¬ x=l by lia),aU4 (show ¬ (l<x/\x<=k) by lia)]
   by_cases c1:j=l;rw[eq1 j c1];by_cases c2:i=l;rw[eq1 i c2];exact b9 _;rw[eq3 i (by lia)];exact h2 i (by lia);by_cases c2:l<j;rw[eq2 j c2 (by lia)];by_cases c3:i=l;rw[eq1 i c3];exact pR (h3 (j-1) (by lia) (by lia));by_cases c4:l<i;rw[eq2 i c4 (by lia)];exact hu (i-1) (j-1) (by lia) (by lia);rw[eq3 i (by lia)];exact hu i (j-1) (by lia) (by lia);rw[eq3 j (by lia),eq3 i (by lia)];exact hu i j pM (by lia)
  refine Rn.mono (fun z h=>⟨h.1.trans (bubble_perm _ _ _),h.2.1.trans (bubble_size _ _ _),by rw[show k+(f+1)=k+1+f by lia];exact h.2.2⟩) _
   (NS hn f (bubble p k (k-l)) (k+1) (hp.perm hn (bubble_perm _ _ _)) (by rw[bubble_size];lia) up)
def RM{n:Nat}(r:Nat->Nat)(h:0<n):Rn r n (kas_sort n) fun z=>z.Perm (cY n).toArray/\z.size=n/\Up r z n:=by
 unfold kas_sort;have hl:Lt n (cY n).toArray:=VA h fun x hx=>by simpa using hx
 refine Rn.bind _ (Rn.mono (fun z q=>?_) _ (NR (r:=r) h hl (by lia) (by simp)));refine AA q fun q1 q2 q3 q4 q5=>?_;clear q;have sz:z.2.size=n:=by rw[q2];simp
 split;rw[Nat.max_eq_left q3];refine Rn.mono (fun y u=>⟨u.1.trans q1,u.2.1.trans sz,?_⟩) _ (NS (r:=r) h (n-z.1) z.2 z.1 (hl.perm h q1) (by lia) q5);have:=u.2.2;rw[show z.1+(n-z.1)=n by lia]at this;exact this;refine⟨q1,sz,?_⟩;have:z.1=n:=by lia
 rw[this]at q5;exact q5
end
def Keeps(a:av)(h h':aN):Prop:=∀b o,b≠a->h.get? b=some o->h'.get? b=some o
section
variable {prog:cP}{w:bF}{A:bP}{E:au->ay->Prop}{s:ay}{a:av}{vs:List au}{kd:qh}{r:Nat->Nat}
def map_range(ds:List α)(z:α):(cY ds.length).map (fun i=>ds.getD i z)=ds:=by
 refine List.ext_getElem (by simp) fun i h1 h2=>?_;simp at h1;simp[h1]
theorem VB{n:Nat}{α:Type}{cmp:Nat->Nat->(Bool->ay->Prop)->ay->Prop}{Q:α->ay->Prop}{P:α->Prop}(hc:∀i j C,i<n->j<n->C (decide (r i<r j)) s->cmp i j C s)(hq:∀x,P x->Q x s) :
  ∀t:KasT α,Rn r n t P->t.kasWp cmp Q s
 | .ret x,h=>hq x h
 | .ask i j k,h=>hc i j _ h.1 h.2.1 (VB hc hq _ h.2.2)
def am5{p:Array Nat}(h:Up r p p.size):p.toList.Pairwise (fun i j=>r i<=r j):=by
 refine vv.mpr fun i j hi hj pM=>?_;rw[fK]at hi hj;have:=h i j (pR pM) hj;simpa[vl,Array.getD,hi,hj]using this
def ye{P:PySem.Fin->ay->Prop}(ho:s.heap.get? a=some (j0 "list" vs.toArray n))(h64:vs.length<64)
  (CA:2<=vs.length->∀h' Q,Keeps a s.heap h'->Q kd {s with heap:=h'}->aC (aF prog w) A (keyKind' vs.toArray) Q E {s with heap:=h'})
  (gh:2<=vs.length->∀h' i j C,Keeps a s.heap h'->i<vs.length->j<vs.length->C (decide (r i<r j)) {s with heap:=h'}->aC (aF prog w) A (keyLt' kd (vs.getD i gR) (vs.getD j gR)) C (fun _ _=>False) {s with heap:=h'})
  (h:∀h' n' (pm:List Nat),Keeps a s.heap h'->pm.Perm (cY vs.length)->pm.Pairwise (fun i j=>r i<=r j)->h'.get? a=some (j0 "list" (pm.map fun i=>vs.getD i gR).toArray n')->P (.done (.ret .none)) {s with heap:=h'}) :
  aC (aF prog w) A (Builtin.«list.sort» ⟨[.ref a],[]⟩) P E s:=by
 have hz:vs.length<=bO:=f9 (pR h64) (by rw[gC];decide);have RN:=jt s.heap a (fq fun _=>(#[]:Array au));obtain⟨e1,ho1⟩:∃e1,(s.heap.update a (fq fun _=>(#[]:Array au))).get? a=some (j0 "list" #[] e1):=⟨_,get?_update_seq ho fun _=>#[]⟩
 rw[list_sort_plain];refine aq (listItems_at ho rfl (aq (FL ho rfl (aq (FN ho1 rfl (aq (wpAny_newTuple (aq (ET (jg ?_) (ie _))) (by show vs.length<=_;lia))))) (by rw[d7];lia) (ie _))));generalize hG:((s.heap.update a (fq fun _=>(#[]:Array au))).push (j0 "tuple" vs.toArray 0)).push (j0 "list" #[] 0)=g;have kg:Keeps a s.heap g:=fun b o hb e=>by rw[<- hG];exact bV _ (bV _ (by rw[RN.2 b hb];exact e))
 have ag:g.get? a=some (j0 "list" #[] e1):=by rw[<- hG];exact bV _ (bV _ ho1)
 show aC (aF prog w) A _ P E {s with heap:=g};dsimp only;have fin:∀(pm:List Nat),pm.Perm (cY vs.length)->pm.Pairwise (fun i j=>r i<=r j)->P (.done (.ret .none)) {s with heap:=g.update a (fq fun _=>(pm.map fun i=>vs.getD i gR).toArray)}:=fun pm h1 h2=>by have QV:=jt g a (fq fun _=>(pm.map fun i=>vs.getD i gR).toArray);exact h _ _ pm (fun b o hb e=>by rw[QV.2 b hb];exact kg b o hb e) h1 h2 (get?_update_seq ag fun _=>_)
 have psz:∀(pm:List Nat),pm.Perm (cY vs.length)->(pm.map fun i=>vs.getD i gR).toArray.size<=bO+1:=fun pm hp=>by rw[d7,bL,hp.length_eq,M0];lia
 by_cases h2:vs.toArray.size<2;rw[aU3 h2,aU3 h2];refine aq (aG ?_);rw[StateT.run_pure];refine aq (aG ?_);dsimp only;have out:(arrOf (SortSt.mk' general' (vs.toArray.zip vs.toArray) #[] 7 none)).map (·.2)=((cY vs.length).map fun i=>vs.getD i gR).toArray:=by rw[map_range];apply Am.mp;rw[MA,Array.toList_zip];exact List.map_snd_zip (b9 _)
 rw[out];refine aq (FN ag rfl (aq (FL ag rfl ?_ (ie _) (psz _ (.refl _)))));simp only[aV6,cJ,aV1];refine aG (fin _ (.refl _) ?_);rw[d7]at h2;refine vv.mpr fun i j hi hj pM=>?_;rw[M0]at hj;lia;rw[aU4 h2,aU4 h2];rw[d7]at h2;have zb:2<=vs.length:=by lia
 refine aq (CA zb g _ kg ?_);have est:SortSt.mk' kd (vs.toArray.zip vs.toArray) #[] 7 none=kas_st kd (pairsOf vs) (List.toArray (cY vs.length)):=by have e:=kas_range (pairsOf vs);rw[pairsOf_size]at e;show SortSt.mk' kd (pairsOf vs) #[] 7 none=SortSt.mk' kd _ #[] 7 none;rw[e]
 have ask:=VB (s:={s with heap:=g}) (cmp:=kas_ask prog w A kd vs) (Q:=fun(p:Array Nat) s'=>s'={s with heap:=g}/\p.Perm (cY vs.length).toArray/\p.size=vs.length/\Up r p vs.length)
  (fun i j C hi hj hc=>gh zb g i j C kg hi hj hc) (fun x hx=>⟨rfl,hx⟩) (kas_sort vs.length) (RM r (by lia))
 rw[kas_ask_eq]at ask;have run:=kas_runs (E:=E) (Q:=fun _ st' s'=>s'={s with heap:=g}/\failedOf st'=none/\∃p:Array Nat,arrOf st'=p.map (kas_item (pairsOf vs))/\p.Perm (cY vs.length).toArray/\p.size=vs.length/\Up r p vs.length)
  zb h64 (fun p' st' s' a1 a2 a3 a4=>⟨a4.1,a3,p',a2,a4.2⟩) ask
 rw[<- est]at run;refine aq (gv run ?_ fun _ _ e=>e);rintro⟨⟨⟩,st'⟩ s' ⟨rfl,hf,p,har,p1,p2,p3⟩;dsimp only;have p1:p.toList.Perm (cY vs.length):=Array.perm_iff_toList_perm.mp p1;have p3:=am5 (p2▸p3);generalize hpm:p.toList=pm at p1 p3;have out:(arrOf st').map (·.2)=(pm.map fun i=>vs.getD i gR).toArray:=by subst hpm;apply Am.mp;rw[har,Array.map_map,MA];refine vz fun i _=>?_;show(kas_item (pairsOf vs) i).2=_;rw[kas_item_eq]
 rw[out];refine aq (FN ag rfl (aq (FL ag rfl ?_ (ie _) (psz _ p1))));rw[hf];simp only[aV6,cJ,aV1];exact aG (fin pm p1 p3)
end
end So
end aK8
section aK9
namespace Dm
open PySem PyProof.Rows L2 HT
mutual
def fl:D->List Int
 | .int i=>[i]
 | .tup ds=>nS ds
 | .lst ds=>nS ds
 | _=>[]
def nS:List D->List Int
 | []=>[]
 | d::ds=>fl d++nS ds
end
mutual
def gB:D->D->Bool
 | .int _,.int _=>true
 | .tup xs,.tup ys=>gH xs ys
 | .lst xs,.lst ys=>gH xs ys
 | _,_=>false
def gH:List D->List D->Bool
 | [],[]=>true
 | x::xs,y::ys=>gB x y&&gH xs ys
 | _,_=>false
end
mutual
theorem uS:∀(x y:D),gB x y=true->(fl x).length=(fl y).length
 | .int _,.int _,_=>rfl
 | .tup xs,.tup ys,h=>by rw[fl,fl];exact vV xs ys (by rw[gB]at h;exact h)
 | .lst xs,.lst ys,h=>by rw[fl,fl];exact vV xs ys (by rw[gB]at h;exact h)
 | .cH,y,h=>by cases y <;> simp[gB]at h
 | .bl _,y,h=>by cases y <;> simp[gB]at h
 | .str _,y,h=>by cases y <;> simp[gB]at h
 | .dH _ _,y,h=>by cases y <;> simp[gB]at h
 | .int _,.cH,h=>by simp[gB]at h
 | .int _,.bl _,h=>by simp[gB]at h
 | .int _,.str _,h=>by simp[gB]at h
 | .int _,.tup _,h=>by simp[gB]at h
 | .int _,.lst _,h=>by simp[gB]at h
 | .int _,.dH _ _,h=>by simp[gB]at h
 | .tup _,.cH,h=>by simp[gB]at h
 | .tup _,.bl _,h=>by simp[gB]at h
 | .tup _,.str _,h=>by simp[gB]at h
 | .tup _,.int _,h=>by simp[gB]at h
 | .tup _,.lst _,h=>by simp[gB]at h
 | .tup _,.dH _ _,h=>by simp[gB]at h
 | .lst _,.cH,h=>by simp[gB]at h
 | .lst _,.bl _,h=>by simp[gB]at h
 | .lst _,.str _,h=>by simp[gB]at h
 | .lst _,.int _,h=>by simp[gB]at h
 | .lst _,.tup _,h=>by simp[gB]at h
 | .lst _,.dH _ _,h=>by simp[gB]at h
theorem vV:∀(xs ys:List D),gH xs ys=true->(nS xs).length=(nS ys).length
 | [],[],_=>rfl
 | [],_::_,h=>by simp[gH]at h
 | _::_,[],h=>by simp[gH]at h
 | x::xs,y::ys,h=>by
  rw[gH,bM]at h;rw[nS,nS,fj,fj,uS x y h.1,vV xs ys h.2]
end
def fB(h:gB x y=true):(∃i j,x = .int i/\y = .int j)\/(∃xs ys,x = .tup xs/\y = .tup ys/\gH xs ys=true)\/(∃xs ys,x = .lst xs/\y = .lst ys/\gH xs ys=true):=by
 cases x <;> cases y <;> simp[gB]at h;exact .inl ⟨_,_,rfl,rfl⟩;exact .inr (.inl ⟨_,_,rfl,rfl,h⟩);exact .inr (.inr ⟨_,_,rfl,rfl,h⟩)
mutual
theorem AX:∀(x y:D),gB x y=true->fl x=fl y->x=y
 | .int i,y,h,e=>by
  rcases fB h with⟨i',j,e1,rfl⟩|⟨_,_,e1,_⟩|⟨_,_,e1,_⟩;rw[fl,fl]at e;injection e with e;rw[e];cases e1;cases e1
 | .tup xs,y,h,e=>by
  rcases fB h with⟨_,_,e1,_⟩|⟨t6,ys,e1,rfl,q⟩|⟨_,_,e1,_⟩;cases e1;obtain rfl:xs=t6:=by injection e1
  rw[fl,fl]at e;rw[vW xs ys q e];cases e1
 | .lst xs,y,h,e=>by
  rcases fB h with⟨_,_,e1,_⟩|⟨_,_,e1,_⟩|⟨t6,ys,e1,rfl,q⟩;cases e1;cases e1;obtain rfl:xs=t6:=by injection e1
  rw[fl,fl]at e;rw[vW xs ys q e]
 | .cH,y,h,_=>by cases y <;> simp[gB]at h
 | .bl _,y,h,_=>by cases y <;> simp[gB]at h
 | .str _,y,h,_=>by cases y <;> simp[gB]at h
 | .dH _ _,y,h,_=>by cases y <;> simp[gB]at h
theorem vW:∀(xs ys:List D),gH xs ys=true->nS xs=nS ys->xs=ys
 | [],[],_,_=>rfl
 | [],_::_,h,_=>by simp[gH]at h
 | _::_,[],h,_=>by simp[gH]at h
 | x::xs,y::ys,h,e=>by
  rw[gH,bM]at h;rw[nS,nS]at e;obtain⟨e1,e2⟩:=M1 e (uS x y h.1);rw[AX x y h.1 e1,vW xs ys h.2 e2]
end
mutual
theorem vX:∀(x y:D),gB x y=true->flat x=true/\flat y=true
 | .int i,y,h=>by
  rcases fB h with⟨_,j,_,rfl⟩|⟨_,_,e1,_⟩|⟨_,_,e1,_⟩;exact⟨by rw[flat] <;> simp,by rw[flat] <;> simp⟩;cases e1;cases e1
 | .tup xs,y,h=>by
  rcases fB h with⟨_,_,e1,_⟩|⟨t6,ys,e1,rfl,q⟩|⟨_,_,e1,_⟩;cases e1;obtain rfl:xs=t6:=by injection e1
  rw[flat,flat];exact t7 xs ys q;cases e1
 | .lst xs,y,h=>by
  rcases fB h with⟨_,_,e1,_⟩|⟨_,_,e1,_⟩|⟨t6,ys,e1,rfl,q⟩;cases e1;cases e1;obtain rfl:xs=t6:=by injection e1
  rw[flat,flat];exact t7 xs ys q
 | .cH,y,h=>by cases y <;> simp[gB]at h
 | .bl _,y,h=>by cases y <;> simp[gB]at h
 | .str _,y,h=>by cases y <;> simp[gB]at h
 | .dH _ _,y,h=>by cases y <;> simp[gB]at h
theorem t7:∀(xs ys:List D),gH xs ys=true->bW xs=true/\bW ys=true
 | [],[],_=>⟨by rw[bW],by rw[bW]⟩
 | [],_::_,h=>by simp[gH]at h
 | _::_,[],h=>by simp[gH]at h
 | x::xs,y::ys,h=>by
  rw[gH,bM]at h;obtain⟨a,b⟩:=vX x y h.1;obtain⟨c,d⟩:=t7 xs ys h.2;rw[bW,bW,a,b,c,d];exact⟨rfl,rfl⟩
end
mutual
theorem NT:∀(x y:D),gB x y=true->gP x y=decide (fl x=fl y)
 | .int i,y,h=>by
  rcases fB h with⟨_,j,_,rfl⟩|⟨_,_,e1,_⟩|⟨_,_,e1,_⟩;rw[gP,fl,fl];by_cases c:i=j;subst c;simp;simp[c];cases e1;cases e1
 | .tup xs,y,h=>by
  rcases fB h with⟨_,_,e1,_⟩|⟨t6,ys,e1,rfl,q⟩|⟨_,_,e1,_⟩;cases e1;obtain rfl:xs=t6:=by injection e1
  rw[gP,fl,fl];exact AY xs ys q;cases e1
 | .lst xs,y,h=>by
  rcases fB h with⟨_,_,e1,_⟩|⟨_,_,e1,_⟩|⟨t6,ys,e1,rfl,q⟩;cases e1;cases e1;obtain rfl:xs=t6:=by injection e1
  rw[gP,fl,fl];exact AY xs ys q
 | .cH,y,h=>by cases y <;> simp[gB]at h
 | .bl _,y,h=>by cases y <;> simp[gB]at h
 | .str _,y,h=>by cases y <;> simp[gB]at h
 | .dH _ _,y,h=>by cases y <;> simp[gB]at h
theorem AY:∀(xs ys:List D),gH xs ys=true->dM xs ys=decide (nS xs=nS ys)
 | [],[],_=>by rw[dM];simp[nS]
 | [],_::_,h=>by simp[gH]at h
 | _::_,[],h=>by simp[gH]at h
 | x::xs,y::ys,h=>by
  rw[gH,bM]at h;rw[dM,NT x y h.1,AY xs ys h.2,nS,nS];have l:=uS x y h.1;by_cases c1:fl x=fl y;rw[c1];by_cases c2:nS xs=nS ys;rw[c2];simp;simp[c2];have:¬ (fl x++nS xs=fl y++nS ys):=fun z=>c1 (M1 z l).1;simp[c1,this]
end
theorem AZ:∀{a c b d:List Int},a.length=c.length->lexLt (a++b) (c++d)=if a=c then lexLt b d else lexLt a c
 | [],[],b,d,_=>by simp
 | x::a,y::c,b,d,h=>by
  rw[Af,Af,dO,dO,AZ (a:=a) (c:=c) (by simpa using h)];by_cases e:x=y;subst e;by_cases e2:a=c;subst e2;simp;simp[e2];simp[e]
theorem uT:∀a:List Int,lexLt a a=false
 | []=>rfl
 | x::a=>by rw[dO,aU3 rfl];exact uT a
theorem B0:∀a b:List Int,lexLt a b=false->lexLt b a=false->a=b
 | [],[],_,_=>rfl
 | [],_::_,h,_=>by rw[nP]at h;cases h
 | _::_,[],_,h=>by rw[nP]at h;cases h
 | x::a,y::b,h1,h2=>by
  rw[dO]at h1 h2;by_cases e:x=y;subst e;rw[aU3 rfl]at h1 h2;rw[B0 a b h1 h2];rw[aU4 e]at h1;rw[aU4 (fun z=>e z.symm)]at h2;have:=aV7 h1;have:=aV7 h2;lia
theorem lex_trans:∀a b c:List Int,lexLt a b=true->lexLt b c=true->lexLt a c=true
 | [],[],_,h,_=>by rw[jc]at h;cases h
 | [],_::_,[],_,h=>by rw[jS]at h;cases h
 | [],_::_,_::_,_,_=>rfl
 | _::_,[],_,h,_=>by rw[jS]at h;cases h
 | _::_,_::_,[],_,h=>by rw[jS]at h;cases h
 | x::a,y::b,z::c,h1,h2=>by
  rw[dO]at h1 h2 ⊢;by_cases e1:x=y;subst e1;rw[aU3 rfl]at h1;by_cases e2:x=z;subst e2;rw[aU3 rfl]at h2 ⊢;exact lex_trans a b c h1 h2;rw[aU4 e2]at h2 ⊢;exact h2;rw[aU4 e1]at h1;have k1:=aU9 h1;by_cases e2:y=z;subst e2;rw[aU4 e1];exact h1;rw[aU4 e2]at h2;have k2:=aU9 h2;rw[aU4 (by lia)];exact aU5 (by lia)
def NU(a b:List Int)(h:lexLt a b=true):lexLt b a=false:=by
 cases q:lexLt b a with
 | false=>rfl
 | true=>have:=lex_trans a b a h q;rw[uT]at this;cases this
def qW(a b:List Int):Bool:=!lexLt b a
def JK(a b:List Int):(qW a b || qW b a)=true:=by
 unfold qW;cases q:lexLt b a with
 | false=>rfl
 | true=>rw[NU b a q];rfl
def zc(a b c:List Int)(h1:qW a b=true)(h2:qW b c=true):qW a c=true:=by
 unfold qW at h1 h2 ⊢;have h1:lexLt b a=false:=by simpa using h1
 have h2:lexLt c b=false:=by simpa using h2
 cases q:lexLt c a with
 | false=>rfl
 | true=>
  by_cases e:a=b;subst e;rw[h2]at q;cases q;have:lexLt a b=true:=by
   cases z:lexLt a b with
   | true=>rfl
   | false=>exact aV5 (B0 a b z h1) e
  have:=lex_trans c a b q this;rw[h2]at this;cases this
def CN(a b:List Int)(h1:qW a b=true)(h2:qW b a=true):a=b:=B0 a b (by simpa[qW]using h2) (by simpa[qW]using h1)
def gy(ds:List D):List D:=ds.mergeSort fun a b=>qW (fl a) (fl b)
def dm(ds:List D):(gy ds).Perm ds:=List.mergeSort_perm _ _
def nU(ds:List D):(gy ds).Pairwise fun a b=>qW (fl a) (fl b)=true:=
 List.pairwise_mergeSort (le:=fun a b=>qW (fl a) (fl b)) (fun a b c=>zc (fl a) (fl b) (fl c)) (fun a b=>JK (fl a) (fl b)) ds
def iK{es:List D}(hs:∀a∈ds,∀b∈ds,gB a b=true)(hp:es.Perm ds)(hw:es.Pairwise fun a b=>qW (fl a) (fl b)=true):es=gy ds:=by
 refine FZ (le:=fun a b=>qW (fl a) (fl b)=true) (fun a b ha hb h1 h2=>?_) hw (nU ds) (hp.trans (dm ds).symm);exact AX a b (hs a (hp.mem_iff.mp ha) b ((dm ds).mem_iff.mp hb)) (CN _ _ h1 h2)
end Dm
end aK9
section am6
namespace Dm
open PySem PyProof.Rows L2 HT PySem.SeqAt
def am7(A:bP)(s:ay)(u v:au)(b:Bool):Prop:=
 ∀(prog:cP) (w:bF) (E:au->ay->Prop) (Q:au->ay->Prop),Q (.bool b) s->aC (aF prog w) A (richCompare .Lt u v) Q E s
inductive PL(A:bP)(s:ay):List au->List au->List D->List D->Prop
 | nil:PL A s [] [] [] []
 | cons {v w:au} {x y:D} {vs ws:List au} {xs ys:List D}:EqAt A s v w (decide (fl x=fl y))->am7 A s v w (lexLt (fl x) (fl y))->(fl x).length=(fl y).length->PL A s vs ws xs ys->PL A s (v::vs) (w::ws) (x::xs) (y::ys)
def PL.len(h:PL A s vs ws xs ys):vs.length=ws.length:=by
 induction h with
 | nil=>rfl
 | cons _ _ _ _ ih=>rw[cI,cI,ih]
section
open PySem.AutoSeq1 (wpAny_loadPart')
open PySem.MeetsSeq PySem.MeetsSeq2 PySem.MeetsSeq3
def GH(l b:av)(items B3:Array au)(n n2:Nat)(dd RO:Option av)(sl sl2:Array (Option au))(xs ys:List D) :
  Meets (Builtin.«tuple.__lt__» ⟨[.ref l,.ref b],[]⟩) (fun A R s=>
   s.heap.get? l=some {cls:=.type "tuple",dict:=dd,data:=.seq items n,slots:=sl}/\
   s.heap.get? b=some {cls:=.type "tuple",dict:=RO,data:=.seq B3 n2,slots:=sl2}/\
   PL A.in1 s items.toList B3.toList xs ys/\R (.ok (.ret (.bool (lexLt (nS xs) (nS ys))))) s):=
 .of_wp fun prog w A R s h=>by
  obtain⟨hp,g,d,tk,os⟩:=s;obtain⟨hl,hb,hP,h⟩:=h;have f2:=AutoSeq1.sub_tuple_tuple;have RP:items.size=B3.size:=by simpa using hP.len
  wp_walk using wpAny_loadPart' hl,wpAny_loadPart' hb,q8 _ (fun rest b s'=>b.1=none/\s'=⟨hp,g,d,tk,os⟩/\∃(vs ws:List au) (t6 Lj:List D),rest=vs.zip ws/\
   PL A.in1 ⟨hp,g,d,tk,os⟩ vs ws t6 Lj/\R (.ok (.ret (.bool (lexLt (nS t6) (nS Lj))))) ⟨hp,g,d,tk,os⟩) _
  case turn=>
   rintro⟨y,x⟩ rest b s' ⟨zd,rfl,vs,ws,t6,Lj,hz,hP',hR⟩;cases hP' with
   | nil=>cases hz
   | @cons v0 w0 x0 y0 _ _ _ _ he gh hfl aL0=>
    rw[sG]at hz;injection hz with hyx am8;injection hyx with hy hx;subst hy hx;rw[nS,nS,AZ hfl]at hR;refine aq (he prog w _ _ ?_);by_cases c:fl x0=fl y0;rw[aU3 c]at hR;rw[aU5 c]
    wp_walk
    exact⟨rfl,rfl,_,_,_,_,am8,aL0,hR⟩;rw[aU4 c]at hR;rw[aU6 c];have hri:=gh prog w
    wp_walk using hri
    exact⟨_,rfl,by simpa using hR⟩
  case fin=>
   rintro⟨b1,b2⟩ s' ⟨zd,rfl,vs,ws,t6,Lj,hz,hP',hR⟩;simp only at zd;subst zd;cases hP' with
   | cons _ _ _ _=>cases hz
   | nil=>
    wp_walk
    refine⟨_,rfl,?_⟩;simpa[Builtin.Tuple.tupleCompareSizes,RP,nS,jc]using hR
  case h=>exact⟨rfl,rfl,items.toList,B3.toList,xs,ys,rfl,hP,h⟩
end
mutual
def nl:D->Bool
 | .lst _=>false
 | .tup ds=>RQ ds
 | _=>true
def RQ:List D->Bool
 | []=>true
 | d::ds=>nl d&&RQ ds
end
section
mutual
theorem X6:∀(x y:D) {A:bP} {u v:au},gB x y=true->nl x=true->fM s.heap x u->fM s.heap y v->A.units+dep x<cLine->am7 A s u v (lexLt (fl x) (fl y))
 | .int i,y,A,u,v,h,_,hu,hv,_=>by
  rcases fB h with⟨_,j,_,rfl⟩|⟨_,_,e1,_⟩|⟨_,_,e1,_⟩;rw[fM]at hu;rw[fM]at hv;obtain⟨t,rfl⟩:=hu;obtain⟨t',rfl⟩:=hv;intro prog w E Q hq;refine Nu A s i t j t' prog w E Q ?_;rw[fl,fl,dO,jc]at hq;by_cases c:i=j;rw[aU3 c]at hq;rw[aU6 (by lia)];exact hq;rw[aU4 c]at hq;exact hq;cases e1;cases e1
 | .tup xs,y,A,u,v,h,hn,hu,hv,hr=>by
  rcases fB h with⟨_,_,e1,_⟩|⟨t6,ys,e1,rfl,q⟩|⟨_,_,e1,_⟩;cases e1;obtain rfl:xs=t6:=by injection e1
  rw[fM]at hu;rw[fM]at hv;refine b7 hu fun a it aT t1 p1=>?_;clear hu;walk_at"c";refine b7 hv fun b EH aT t2 p2=>?_;clear hv;walk_at"c";rw[dep]at hr;rw[nl]at hn;obtain⟨⟨cls,dd,data,sl⟩,ho,hc,n,hd⟩:=id t1;obtain⟨⟨aL1,RO,data2,sl2⟩,ho2,X7,n2,hd2⟩:=id t2;simp only at hc hd X7 hd2;subst hc hd X7 hd2;intro prog w E Q hq;rw[fl,fl]at hq;exact richCompare_meets_room (op:=.Lt) ⟨_,ho,rfl⟩ ⟨_,ho2,rfl⟩ PySem.F.slot_tuple_lt PySem.F.entry_tuple_lt (PySem.F.args_tuple_lt_2 _ _) (GH a b it EH n n2 dd RO sl sl2 xs ys)
   ⟨ho,ho2,X8 xs ys q hn p1 p2 (A:=A.in1) (by show A.units+1+_<_;lia),show Value.bool (lexLt (nS xs) (nS ys))≠Value.notImplemented/\Q _ s from⟨(fun x=>nomatch x),hq⟩⟩ (by lia)
  cases e1
 | .lst xs,y,A,u,v,h,hn,_,_,_=>by rw[nl]at hn;cases hn
 | .cH,y,_,_,_,h,_,_,_,_=>by cases y <;> simp[gB]at h
 | .bl _,y,_,_,_,h,_,_,_,_=>by cases y <;> simp[gB]at h
 | .str _,y,_,_,_,h,_,_,_,_=>by cases y <;> simp[gB]at h
 | .dH _ _,y,_,_,_,h,_,_,_,_=>by cases y <;> simp[gB]at h
theorem X8:∀(xs ys:List D) {A:bP} {vs ws:List au},gH xs ys=true->RQ xs=true->bI s.heap xs vs->bI s.heap ys ws->A.units+jT xs<cLine->PL A s vs ws xs ys
 | [],[],A,vs,ws,_,_,h1,h2,_=>by rw[bI]at h1 h2;subst h1;subst h2;exact .nil
 | [],_::_,_,_,_,h,_,_,_,_=>by simp[gH]at h
 | _::_,[],_,_,_,h,_,_,_,_=>by simp[gH]at h
 | x::xs,y::ys,A,vs,ws,h,hn,h1,h2,hr=>by
  rw[bI]at h1;rw[bI]at h2;refine b7 h1 fun v r aT a1 a2=>?_;clear h1;walk_at"c";refine b7 h2 fun v' r' aT b1 b2=>?_;clear h2;walk_at"c";rw[gH,bM]at h;rw[RQ,bM]at hn;rw[jT]at hr;obtain⟨f1,f2⟩:=vX x y h.1;refine .cons ?_ (X6 x y h.1 hn.1 a1 b1 (by lia)) (uS x y h.1) (X8 xs ys h.2 hn.2 a2 b2 (by lia));rw[<- NT x y h.1];exact sY x y f1 f2 a1 b1 (by lia)
end
end
end Dm
end am6
section am9
namespace Dm
open PySem PySem.W PyProof.Rows L2 HT PySem.SeqAt So
mutual
theorem fM.keep{h h':aN}(k:∀b o,h.get? b=some o->h'.get? b=some o):∀(d:D) {v:au},fM h d v->fM h' d v
 | .cH,v,q=>by rw[fM]at q ⊢;exact q
 | .bl b,v,q=>by rw[fM]at q ⊢;exact q
 | .int i,v,q=>by rw[fM]at q ⊢;exact q
 | .str x,v,q=>by rw[fM]at q ⊢;exact q
 | .tup ds,v,q=>by
  rw[fM]at q ⊢;refine b7 q fun a it e t p=>?_;clear q;exact⟨a,it,e,t.keeps k,bI.keep k ds p⟩
 | .lst ds,v,q=>by
  rw[fM]at q ⊢;refine b7 q fun a it e t p=>?_;clear q;exact⟨a,it,e,t.keeps k,bI.keep k ds p⟩
 | .dH tb ds,v,q=>by rw[fM]at q;exact q.elim
theorem bI.keep{h h':aN}(k:∀b o,h.get? b=some o->h'.get? b=some o):∀(ds:List D) {vs:List au},bI h ds vs->bI h' ds vs
 | [],_,q=>by rw[bI]at q ⊢;exact q
 | d::ds,_,q=>by
  rw[bI]at q ⊢;refine b7 q fun v r e a b=>?_;clear q;exact⟨v,r,e,fM.keep k d a,bI.keep k ds b⟩
end
theorem bI.of_map(f:α->D)(g:α->au):∀(l:List α),(∀x∈l,fM h (f x) (g x))->bI h (l.map f) (l.map g)
 | [],_=>by rw[jq,bI];rfl
 | x::l,hx=>by
  rw[bh,bh,bI];exact⟨_,_,rfl,hx x (.head _),bI.of_map f g l fun y hy=>hx y (.tail _ hy)⟩
theorem GI{p q:α->Bool}:∀(l:List α),(∀x∈l,p x=true->q x=true)->l.countP p<=l.countP q
 | [],_=>b9 _
 | x::l,h=>by
  rw[vA,vA];have ih:=GI l fun y hy=>h y (.tail _ hy);by_cases c:p x=true;rw[aU3 c,aU3 (h x (.head _) c)];lia;rw[aU4 c];lia
theorem NV{p q:α->Bool}:∀(l:List α),(∀x∈l,p x=true->q x=true)->∀z∈l,q z=true->p z=false->l.countP p<l.countP q
 | x::l,h,z,hz,hq,hp=>by
  rw[vA,vA];rcases bD.mp hz with e|e;subst e;rw[aU4 (by rw[hp];exact iW),aU3 hq];have:=GI l fun y hy=>h y (.tail _ hy);lia;have ih:=NV l (fun y hy=>h y (.tail _ hy)) z e hq hp;by_cases c:p x=true;rw[aU3 c,aU3 (h x (.head _) c)];lia;rw[aU4 c];lia
def rk(ds:List D)(i:Nat):Nat:=(cY ds.length).countP fun j=>lexLt (fl (ds.getD j .cH)) (fl (ds.getD i .cH))
def VC(ds:List D)(hi:i<ds.length):lexLt (fl (ds.getD i .cH)) (fl (ds.getD j .cH))=decide (rk ds i<rk ds j):=by
 cases q:lexLt (fl (ds.getD i .cH)) (fl (ds.getD j .cH))with
 | true=>refine(aU5 ?_).symm;exact NV _ (fun k _ hk=>lex_trans _ _ _ hk q) i (nB.mpr hi) q (uT _)
 | false=>
  refine(aU6 (Nat.not_lt.mpr ?_)).symm;refine GI _ fun k _ hk=>?_;cases z:lexLt (fl (ds.getD k .cH)) (fl (ds.getD i .cH))with
  | true=>rfl
  | false=>
   have a:qW (fl (ds.getD i .cH)) (fl (ds.getD k .cH))=true:=by unfold qW;rw[z];rfl
   have b:qW (fl (ds.getD j .cH)) (fl (ds.getD i .cH))=true:=by unfold qW;rw[q];rfl
   have c:=zc _ _ _ b a;unfold qW at c;rw[hk]at c;cases c
inductive Sk:List D->qh->Prop
 | jJ {ds:List D} {kd:qh}:ds.length<2->Sk ds kd
 | nums {ds:List D}:(∀d∈ds,∃i,d = .int i)->Sk ds oneType'
 | ql {ds:List D}:(∀d∈ds,∃i xs,d = .tup (.int i::xs))->Sk ds (tuples' true)
 | X9 {ds:List D}:(∀d∈ds,∃ys xs,d = .tup (.tup ys::xs))->Sk ds (tuples' false)
section
def B4(i j:Int):lexLt [i] [j]=decide (i<j):=by
 rw[dO,jc];by_cases c:i=j;rw[aU3 c,aU6 (by lia)];rw[aU4 c]
theorem CO{Q:Bool->ay->Prop}:∀(xs ys:List D) (vs ws:List au) (i:Nat),(b=true->i=0->∃m n t6 Lj,xs = .int m::t6/\ys = .int n::Lj)->gH xs ys=true->PL A s vs ws xs ys->bI s.heap xs vs->bI s.heap ys ws->fin=false->Q (lexLt (nS xs) (nS ys)) s->
  KatLex prog w A b fin Q (vs.zip ws) i s
 | [],[],vs,ws,i,_,_,hP,h1,h2,hf,hq=>by
  rw[bI]at h1 h2;subst h1;subst h2;show Q fin s;rw[hf];exact hq
 | [],_::_,_,_,_,_,h,_,_,_,_,_=>by simp[gH]at h
 | _::_,[],_,_,_,_,h,_,_,_,_,_=>by simp[gH]at h
 | x::xs,y::ys,vs,ws,i,hb,h,hP,h1,h2,hf,hq=>by
  rw[bI]at h1;rw[bI]at h2;refine b7 h1 fun v r aT a1 a2=>?_;clear h1;walk_at"c";refine b7 h2 fun v' r' aT b1 b2=>?_;clear h2;walk_at"c";rw[gH,bM]at h;cases hP with
  | cons he hl hfl hP'=>
   rw[nS,nS,AZ hfl]at hq;refine kat_cons (he prog w _ _ (kat_go (fun c=>kat_yes ?_) (fun c=>kat_no ?_)));have c:=aU9 c;rw[aU3 c]at hq;exact CO xs ys r r' (i+1) (fun _ z=>aV5 z (Nat.succ_ne_zero _)) h.2 hP' a2 b2 hf hq;have c:=aV7 c;rw[aU4 c]at hq;by_cases zd:b=true/\i=0;obtain⟨hb1,hb2⟩:=zd;refine aB7 (hb hb1 hb2) fun m n _ _ e1 e2=>?_;obtain⟨rfl,_⟩:x = .int m/\_:=MX e1;obtain⟨rfl,_⟩:y = .int n/\_:=MX e2;rw[fM]at a1;rw[fM]at b1;obtain⟨t,rfl⟩:=a1;obtain⟨t',rfl⟩:=b1;rw[hb1,hb2];refine oneLt_int ?_;rw[fl,fl,B4]at hq;exact hq;have:(b&&i==0)=false:=by
    cases b with
    | false=>rfl
    | true=>have:i≠0:=fun z=>zd ⟨rfl,z⟩;simp[this]
   rw[this];exact kat_one _ _ (hl prog w _ _ (show PySem.W.BoolBack Q (.bool (lexLt (fl x) (fl y))) s from hq))
def ua(p:bI h ds vs)(hi:i<ds.length):fM h (ds.getD i .cH) (vs.getD i gR)/\ds.getD i .cH∈ds:=by
 have hv:i<vs.length:=by rw[p.len];exact hi
 obtain⟨a,b⟩:=p.get i hv;have e:vs.getD i gR=vs[i]:=by simp[hv]
 rw[e];exact⟨a,b⟩
def Xa{C:Bool->ay->Prop}(k:Sk ds kd)(h2:2<=ds.length)(hs:∀a∈ds,∀b∈ds,gB a b=true)(hn:∀a∈ds,nl a=true)(hd:∀a∈ds,A.units+dep a<cLine)(p:bI s.heap ds vs)
  (hi:i<ds.length) (hj:j<ds.length) (hc:C (decide (rk ds i<rk ds j)) s):aC (aF prog w) A (keyLt' kd (vs.getD i gR) (vs.getD j gR)) C (fun _ _=>False) s:=by
 rw[<- VC ds hi]at hc;obtain⟨ai,mi⟩:=ua p hi;obtain⟨aj,mj⟩:=ua p hj;generalize ds.getD i .cH=x at hc ai mi;generalize ds.getD j .cH=y at hc aj mj;have tup:∀{b:Bool} {xs ys:List D},x = .tup xs->y = .tup ys->(b=true->∃m n t6 Lj,xs = .int m::t6/\ys = .int n::Lj)->aC (aF prog w) A (keyLt' (tuples' b) (vs.getD i gR) (vs.getD j gR)) C (fun _ _=>False) s:=by intro b xs ys ex ey hb;have sh:=hs x mi y mj;have nx:=hn x mi;have dx:=hd x mi;subst ex;subst ey;rw[gB]at sh;rw[nl]at nx;rw[dep]at dx;rw[fM]at ai;rw[fM]at aj;refine b7 ai fun a it e1 nM p1=>?_;clear ai;obtain⟨o1,q1,_,n1,d1⟩:=nM;refine b7 aj fun b' EH e2 nM p2=>?_;clear aj;obtain⟨o2,q2,_,n2,d2⟩:=nM;rw[e1,e2];have P:=X8 xs ys (A:=A) sh nx p1 p2 (by lia);refine kat_lt q1 d1 q2 d2 (CO xs ys _ _ 0 (fun h _=>hb h) sh P p1 p2 (aU6 ?_) ?_);have:it.toList.length=EH.toList.length:=P.len;simp at this;lia;rw[fl,fl]at hc;exact hc
 cases k with
 | jJ h=>lia
 | nums h=>obtain⟨m,rfl⟩:=h x mi;obtain⟨n,rfl⟩:=h y mj;rw[fM]at ai;rw[fM]at aj;obtain⟨t,e1⟩:=ai;obtain⟨t',e2⟩:=aj;rw[e1,e2,keyLt'_oneType];refine oneLt_int ?_;rw[fl,fl,B4]at hc;exact hc
 | ql h=>refine pJ (h x mi) fun m xs e1=>?_;refine pJ (h y mj) fun n ys e2=>?_;exact tup e1 e2 fun _=>⟨m,n,xs,ys,rfl,rfl⟩
 | X9 h=>refine pJ (h x mi) fun m xs e1=>?_;refine pJ (h y mj) fun n ys e2=>?_;exact tup e1 e2 fun z=>nomatch z
theorem B5:∀{ds:List D} {vs:List au} (f:D->Prop),(∀d∈ds,∃x xs,d = .tup (x::xs)/\f x)->bI h ds vs->∃fs:List au,fs.length=ds.length/\KatTups h vs fs/\∀v∈fs,∃x,f x/\fM h x v
 | [],vs,f,_,p=>by
  rw[bI]at p;subst p;exact⟨[],rfl,.nil,fun v hv=>aV5 hv (by simp)⟩
 | d::ds,vs,f,hd,p=>by
  rw[bI]at p;refine b7 p fun v r aT a b=>?_;clear p;walk_at"c";refine bK (B5 f (fun d QN=>hd d (.tail _ QN)) b) fun fs l k e=>?_;refine cj (hd d (.head _)) fun x xs aT fx=>?_;walk_at"c";rw[fM]at a;refine b7 a fun ad it aT nM p1=>?_;clear a;walk_at"c";obtain⟨o1,q1,c1,n1,d1⟩:=nM;rw[bI]at p1;refine b7 p1 fun y r' e1 a1 _=>?_;clear p1;refine⟨y::fs,by rw[cI,cI,l],.cons q1 c1 d1 ?_ k,fun z hz=>?_⟩;rw[<- nF,e1];rfl;rcases bD.mp hz with rfl|hz;exact⟨x,fx,a1⟩;exact e z hz
def NW{Q:qh->ay->Prop}(k:Sk ds kd)(h2:2<=ds.length)(p:bI s.heap ds vs)(hq:Q kd s):aC (aF prog w) A (keyKind' vs.toArray) Q E s:=by
 cases k with
 | jJ h=>lia
 | nums h=>refine kas_kind (T:=.type "int") (by rw[p.len];exact h2) (fun v hv=>?_) (by decide) (by decide) hq;obtain⟨i,hi,e⟩:=jP.mp hv;obtain⟨a,b⟩:=p.get i hi;obtain⟨m,em⟩:=h _ b;rw[em,fM]at a;obtain⟨t,et⟩:=a;rw[<- e,et];exact Looks.now
 | ql h=>obtain⟨fs,l,kt,e⟩:=B5 (fun x=>∃i,x = .int i) (fun d hd=>by obtain⟨i,xs,e⟩:=h d hd;exact⟨_,xs,e,i,rfl⟩) p;refine kat_kind (T:=.type "int") kt (by lia) (fun v hv=>?_) (by decide) hq;refine aL (e v hv) fun x fW q=>?_;obtain⟨i,rfl⟩:=fW;rw[fM]at q;obtain⟨t,rfl⟩:=q;exact Looks.now
 | X9 h=>obtain⟨fs,l,kt,e⟩:=B5 (fun x=>∃ys,x = .tup ys) (fun d hd=>by obtain⟨ys,xs,e⟩:=h d hd;exact⟨_,xs,e,ys,rfl⟩) p;refine kat_kind (T:=.type "tuple") kt (by lia) (fun v hv=>?_) (by decide) hq;refine aL (e v hv) fun x fW q=>?_;obtain⟨ys,rfl⟩:=fW;rw[fM]at q;refine b7 q fun a it aT nM _=>?_;clear q;walk_at"c";obtain⟨o1,q1,c1,_⟩:=nM;have lk:Looks (aF prog w) s.heap (typeOf (.ref a)) o1.cls:=(Looks.ld q1).andThen .now;rw[c1]at lk;exact lk
def SG(prog:cP)(w:bF)(A:bP)(es:List D)(kd:qh)(vs:List au):Prop:=es.length<64/\(∀a∈es,∀b∈es,fl a=fl b->a=b)/\∀(A':bP) (s:ay),A'.units=A.units+2->2<=es.length->bI s.heap es vs->
 (∀E (R:qh->ay->Prop),R kd s->aC (aF prog w) A' (keyKind' vs.toArray) R E s)/\∀i j C,i<es.length->j<es.length->C (decide (rk es i<rk es j)) s->aC (aF prog w) A' (keyLt' kd (vs.getD i gR) (vs.getD j gR)) C (fun _ _=>False) s
def uc{Pd:List D->qh->List au->Prop}{Q:au->ay->Prop}(hk:∀es kd vs,Pd es kd vs->SG prog w A es kd vs)
  (aL2:∀R:List au->ay->Prop,(∀h' tk es kd vs,(∀b ob,s.heap.get? b=some ob->h'.get? b=some ob)->Pd es kd vs->bI h' es vs->R vs {s with heap:=h',toks:=tk})->aC (aF prog w) A.in1 (collect v) R E s)
  (h:∀(h1 h':aN) tk es kd vs L n (pm:List Nat),(∀b ob,s.heap.get? b=some ob->h1.get? b=some ob)->(∀b ob,h1.get? b=some ob->h'.get? b=some ob)->Pd es kd vs->bI h1 es vs->h1.objs.size<=L->(∀i∈pm,i<es.length)->gy es=pm.map (fun i=>es.getD i .cH)->
   h'.get? L=some (j0 "list" (pm.map fun i=>vs.getD i gR).toArray n)->Q (.ref L) {s with heap:=h',toks:=tk}) :
  aC (aF prog w) A (call (.builtin "sorted") [v]) Q E s:=by
 refine Calls.call_function_entry kind_sorted plain_sorted entry_sorted (args_sorted1 _) ?_;unfold Builtin.«sorted»;refine aq (m:=checkCount "sorted" 1 1 _) (aG (aq (aL2 _ fun h1 tk es kd vs k1 pd p=>?_)));obtain ⟨lz,ij,sk⟩:=hk es kd vs pd;have lv:vs.length=es.length:=p.len;have big:64<=bO:=by rw[gC];decide
 refine aq (ET ?_ (by lia));have oL:(h1.push (j0 "list" vs.toArray 0)).get? h1.objs.size=some (j0 "list" vs.toArray 0):=fJ _ rfl;have nk:∀h',Keeps h1.objs.size (h1.push (j0 "list" vs.toArray 0)) h'->∀b ob,h1.get? b=some ob->h'.get? b=some ob:=fun h' kh b ob e=>kh b ob (cu (bQ e)) (bV _ e);refine aq (jg (jM slot_list_sort ⟨_,oL,rfl⟩ entry_list_sort ?body (args_list_sort _)));case body=>
  refine ye (kd:=kd) (r:=rk es) (s:={s with heap:=h1.push (j0 "list" vs.toArray 0),toks:=tk}) oL (by lia) (fun h2 h' R kh hR=>(sk _ _ rfl (by lia) (p.keep (nk h' kh))).1 _ R hR) (fun h2 h' i j C kh hi hj hC=>(sk _ _ rfl (by lia) (p.keep (nk h' kh))).2 i j C (by lia) (by lia) hC) fun h' n' pm kh hp hu ho=>?_;rw[lv]at hp;have lt:∀i∈pm,i<es.length:=fun i hi=>nB.mp (hp.mem_iff.mp hi);refine⟨_,rfl,aG ⟨_,rfl,h h1 h' tk es kd vs _ n' pm k1 (nk h' kh) pd p (b9 _) lt ?_ ho⟩⟩;have pe:(pm.map fun i=>es.getD i D.cH).Perm es:=by have:=hp.map fun i=>es.getD i D.cH;rwa [So.map_range]at this
  refine(FZ (le:=fun a b=>qW (fl a) (fl b)=true) (fun a b ha hb h1 h2=>ij a ((dm es).mem_iff.mp ha) b (pe.mem_iff.mp hb) (CN _ _ h1 h2)) (nU es) ?_ ((dm es).trans pe.symm));rw[Fg];refine hu.imp_of_mem fun {i j} hi hj pM=>?_;unfold qW;rw[VC es (lt j hj),aU6 (by lia)];rfl
def sgS(sk:Sk es kd)(l:es.length<64)(hs:∀a∈es,∀b∈es,gB a b=true)(hn:∀a∈es,nl a=true)(hd:∀a∈es,A.units+2+dep a<cLine):SG prog w A es kd vs:=
 ⟨l,fun a ha b hb=>AX a b (hs a ha b hb),fun A' s e h2 p=>⟨fun E R hR=>NW sk h2 p hR,fun i j C=>Xa sk h2 hs hn (fun a ha=>by rw[e];exact hd a ha) p⟩⟩
end
end Dm
end am9
section aL3
namespace Dm
open PySem PyProof.Rows L2 PySem.SeqAt
section
def RT{A:bP}(x:Vw s.heap d u)(y:Vw s.heap e v)(gG:A.units<cLine)(hn:dep d=n)(fx:flat d=true)(fy:flat e=true)
  (ht:∀{xs ys:List D} {a b:av} {b6 kH:Array au},dep (.tup xs)=n->bW xs=true->bW ys=true->IsTup s.heap a b6->bI s.heap xs b6.toList->IsTup s.heap b kH->bI s.heap ys kH.toList->RcAt A s (.ref a) (.ref b) (dM xs ys))
  (hl:∀{xs ys:List D} {a b:av} {b6 kH:Array au},dep (.lst xs)=n->bW xs=true->bW ys=true->PlainL s.heap a b6->bI s.heap xs b6.toList->PlainL s.heap b kH->bI s.heap ys kH.toList->RcAt A s (.ref a) (.ref b) (dM xs ys)):RcAt A s u v (gP d e):=by
 cases x with
 | cH=>
  cases y with
  | cH=>exact RcAt.none_none
  | bl c=>exact RcAt.none_bool c
  | int j r=>exact RcAt.none_int j r
  | str y r=>exact RcAt.none_str y r
  | tup q' p'=>exact RcAt.none_tuple (aP q') gG
  | lst q' p'=>exact RcAt.none_list q'.isList gG
 | bl b=>
  cases y with
  | cH=>exact RcAt.bool_none b
  | bl c=>exact RcAt.bool_bool b c
  | int j r=>exact RcAt.bool_int b j r
  | str y r=>exact RcAt.bool_str b y r
  | tup q' p'=>exact RcAt.bool_tuple b (aP q') gG
  | lst q' p'=>exact RcAt.bool_list b q'.isList gG
 | int i t=>
  cases y with
  | cH=>exact RcAt.int_none i t
  | bl c=>exact RcAt.int_bool i t c
  | int j r=>exact RcAt.int_int i t j r
  | str y r=>exact RcAt.int_str i t y r
  | tup q' p'=>exact RcAt.int_tuple i t (aP q') gG
  | lst q' p'=>exact RcAt.int_list i t q'.isList gG
 | str x t=>
  cases y with
  | cH=>exact RcAt.str_none x t
  | bl c=>exact RcAt.str_bool x t c
  | int j r=>exact RcAt.str_int x t j r
  | str y r=>exact RcAt.str_str x t y r
  | tup q' p'=>exact RcAt.str_tuple x t (aP q') gG
  | lst q' p'=>exact RcAt.str_list x t q'.isList gG
 | tup q p=>
  cases y with
  | cH=>exact RcAt.tuple_none (aP q) gG
  | bl c=>exact RcAt.tuple_bool c (aP q) gG
  | int j r=>exact RcAt.tuple_int j r (aP q) gG
  | str y r=>exact RcAt.tuple_str y r (aP q) gG
  | tup q' p'=>exact ht hn (by rw[flat]at fx;exact fx) (by rw[flat]at fy;exact fy) q p q' p'
  | lst q' p'=>exact RcAt.tuple_list (aP q) q'.isList gG
 | lst q p=>
  cases y with
  | cH=>exact RcAt.list_none q.isList gG
  | bl c=>exact RcAt.list_bool c q.isList gG
  | int j r=>exact RcAt.list_int j r q.isList gG
  | str y r=>exact RcAt.list_str y r q.isList gG
  | tup q' p'=>exact RcAt.list_tuple q.isList (aP q') gG
  | lst q' p'=>exact hl hn (by rw[flat]at fx;exact fx) (by rw[flat]at fy;exact fy) q p q' p'
def Xb(d e:D){A:bP}(fx:flat d=true)(fy:flat e=true)(hu:fM s.heap d u)(hv:fM s.heap e v)(hr:A.units+dep d<cLine):RcAt A s u v (gP d e):=by
 have gG:A.units<cLine:=Ac (nv _ _) hr;refine RT (vw hu) (vw hv) gG rfl fx fy (fun {xs ys a b b6 kH} hn fx fy q p q' p'=>?_) (fun {xs ys a b b6 kH} hn fx fy q p q' p'=>?_);rw[<- vS p p'];exact RcAt.tuples (aP q) (aP q') gG (lH p p' fun x y u v m1 m2 g1 g2=>sY _ _ (dh fx m1) (dh fy m2) g1 g2 (by show A.units+1+_<_;rw[<- hn,dep]at hr;have:=ic m1;lia));by_cases hl:b6.size=kH.size;rw[<- GD p p' hl];exact RcAt.lists q.isList q'.isList hl gG (lH p p' fun x y u v m1 m2 g1 g2=>sY _ _ (dh fx m1) (dh fy m2) g1 g2 (by show A.units+1+_<_;rw[<- hn,dep]at hr;have:=ic m1;lia));rw[<- GF p p' hl];exact RcAt.lists_lengths q.isList q'.isList (by simpa using hl) gG
def JL{A:bP}(x:Vw s.heap d u)(y:Vw s.heap e v)(gG:A.units<cLine)(hn:dep d=n)(fx:flat d=true)(fy:flat e=true)
  (ht:∀{xs ys:List D} {a b:av} {b6 kH:Array au},dep (.tup xs)=n->bW xs=true->bW ys=true->IsTup s.heap a b6->bI s.heap xs b6.toList->IsTup s.heap b kH->bI s.heap ys kH.toList->RcNeAt A s (.ref a) (.ref b) (!dM xs ys))
  (hl:∀{xs ys:List D} {a b:av} {b6 kH:Array au},dep (.lst xs)=n->bW xs=true->bW ys=true->PlainL s.heap a b6->bI s.heap xs b6.toList->PlainL s.heap b kH->bI s.heap ys kH.toList->RcNeAt A s (.ref a) (.ref b) (!dM xs ys)):RcNeAt A s u v (!gP d e):=by
 cases x with
 | cH=>
  cases y with
  | cH=>exact RcNeAt.none_none
  | bl c=>exact RcNeAt.none_bool c
  | int j r=>exact RcNeAt.none_int j r
  | str y r=>exact RcNeAt.none_str y r
  | tup q' p'=>exact RcNeAt.none_tuple (aP q') gG
  | lst q' p'=>exact RcNeAt.none_list q'.isList gG
 | bl b=>
  cases y with
  | cH=>exact RcNeAt.bool_none b
  | bl c=>exact RcNeAt.bool_bool b c
  | int j r=>exact RcNeAt.bool_int b j r
  | str y r=>exact RcNeAt.bool_str b y r
  | tup q' p'=>exact RcNeAt.bool_tuple b (aP q') gG
  | lst q' p'=>exact RcNeAt.bool_list b q'.isList gG
 | int i t=>
  cases y with
  | cH=>exact RcNeAt.int_none i t
  | bl c=>exact RcNeAt.int_bool i t c
  | int j r=>exact RcNeAt.int_int i t j r
  | str y r=>exact RcNeAt.int_str i t y r
  | tup q' p'=>exact RcNeAt.int_tuple i t (aP q') gG
  | lst q' p'=>exact RcNeAt.int_list i t q'.isList gG
 | str x t=>
  cases y with
  | cH=>exact RcNeAt.str_none x t
  | bl c=>exact RcNeAt.str_bool x t c
  | int j r=>exact RcNeAt.str_int x t j r
  | str y r=>exact RcNeAt.str_str x t y r
  | tup q' p'=>exact RcNeAt.str_tuple x t (aP q') gG
  | lst q' p'=>exact RcNeAt.str_list x t q'.isList gG
 | tup q p=>
  cases y with
  | cH=>exact RcNeAt.tuple_none (aP q) gG
  | bl c=>exact RcNeAt.tuple_bool c (aP q) gG
  | int j r=>exact RcNeAt.tuple_int j r (aP q) gG
  | str y r=>exact RcNeAt.tuple_str y r (aP q) gG
  | tup q' p'=>exact ht hn (by rw[flat]at fx;exact fx) (by rw[flat]at fy;exact fy) q p q' p'
  | lst q' p'=>exact RcNeAt.tuple_list (aP q) q'.isList gG
 | lst q p=>
  cases y with
  | cH=>exact RcNeAt.list_none q.isList gG
  | bl c=>exact RcNeAt.list_bool c q.isList gG
  | int j r=>exact RcNeAt.list_int j r q.isList gG
  | str y r=>exact RcNeAt.list_str y r q.isList gG
  | tup q' p'=>exact RcNeAt.list_tuple q.isList (aP q') gG
  | lst q' p'=>exact hl hn (by rw[flat]at fx;exact fx) (by rw[flat]at fy;exact fy) q p q' p'
def NX(d e:D){A:bP}(fx:flat d=true)(fy:flat e=true)(hu:fM s.heap d u)(hv:fM s.heap e v)(hr:A.units+dep d<cLine):RcNeAt A s u v (!gP d e):=by
 have gG:A.units<cLine:=Ac (nv _ _) hr;refine JL (vw hu) (vw hv) gG rfl fx fy (fun {xs ys a b b6 kH} hn fx fy q p q' p'=>?_) (fun {xs ys a b b6 kH} hn fx fy q p q' p'=>?_);rw[<- vS p p'];exact RcNeAt.tuples (aP q) (aP q') gG (lH p p' fun x y u v m1 m2 g1 g2=>sY _ _ (dh fx m1) (dh fy m2) g1 g2 (by show A.units+1+_<_;rw[<- hn,dep]at hr;have:=ic m1;lia));by_cases hl:b6.size=kH.size;rw[<- GD p p' hl];exact RcNeAt.lists q.isList q'.isList hl gG (lH p p' fun x y u v m1 m2 g1 g2=>sY _ _ (dh fx m1) (dh fy m2) g1 g2 (by show A.units+1+_<_;rw[<- hn,dep]at hr;have:=ic m1;lia));rw[<- GF p p' hl];exact RcNeAt.lists_lengths q.isList q'.isList (by simpa using hl) gG
end
end Dm
end aL3
section aL4
namespace Tb
open PySem PySem.SetTable
def jW(mask:Nat)(p:Probe):Probe:=
 if p.more > 0 then {p with j:=p.j+1,more:=p.more-1}else
  {p with j:=(leap mask p.i p.perturb).1,more:=runEnd mask (leap mask p.i p.perturb).1-(leap mask p.i p.perturb).1,i:=(leap mask p.i p.perturb).1,perturb:=(leap mask p.i p.perturb).2}
def vY(t:gD)(p:Probe):t.advance p=jW t.mask p:=by
 unfold SetTable.advance jW;rfl
def Lk(mask i jX:Nat):Probe:={j:=i,more:=runEnd mask i-i,i:=i,perturb:=jX,dummy:=none}
def vZ(t:gD)(h:Int):t.probeStart h=Lk t.mask (bits h % (t.mask+1)) (bits h):=rfl
def W(mask:Nat):Probe->Nat->Probe
 | p,0=>p
 | p,k+1=>W mask (jW mask p) k
theorem nV(mask:Nat):∀(a b:Nat) (p:Probe),W mask p (a+b)=W mask (W mask p a) b
 | 0,b,p=>by rw[vm];rfl
 | a+1,b,p=>by
  rw[show a+1+b=(a+b)+1 by lia];show W mask (jW mask p) (a+b)=_;rw[nV mask a b];rfl
def Xc(mask:Nat)(p:Probe)(k:Nat):W mask p (k+1)=jW mask (W mask p k):=by
 rw[nV mask k 1 p];rfl
def w5(mask:Nat)(p:Probe)(h:p.dummy=none):(jW mask p).dummy=none:=by
 unfold jW;split <;> exact h
theorem Ip(mask:Nat):∀(k:Nat) (p:Probe),p.dummy=none->(W mask p k).dummy=none
 | 0,_,h=>h
 | k+1,p,h=>Ip mask k _ (w5 mask p h)
theorem NY(mask:Nat):∀(k:Nat) (p:Probe),k<=p.more->W mask p k={p with j:=p.j+k,more:=p.more-k}
 | 0,p,_=>rfl
 | k+1,p,h=>by
  show W mask (jW mask p) k=_;have e:jW mask p={p with j:=p.j+1,more:=p.more-1}:=by unfold jW;rw[aU3 (by lia)]
  rw[e,NY mask k _ (by show k<=p.more-1;lia)];simp only[Probe.mk.injEq,and_true,true_and];lia
def GJ(mask i jX:Nat):W mask (Lk mask i jX) (runEnd mask i-i+1)=Lk mask (leap mask i jX).1 (leap mask i jX).2:=by
 rw[Xc,NY mask (runEnd mask i-i) (Lk mask i jX) (b9 _)];unfold jW;rw[aU4 (by show ¬ (runEnd mask i-i-(runEnd mask i-i) > 0);lia)];rfl
def Xd(mask i:Nat):runEnd mask i-i<=9:=by unfold runEnd;split <;> lia
def G(mask:Nat):Nat->Nat->Nat->Nat×Nat
 | 0,i,jX=>(i,jX)
 | n+1,i,jX=>G mask n (leap mask i jX).1 (leap mask i jX).2
theorem CP(mask:Nat):∀(n i jX:Nat),∃k,k<=10*n/\W mask (Lk mask i jX) k=Lk mask (G mask n i jX).1 (G mask n i jX).2
 | 0,i,jX=>⟨0,by lia,rfl⟩
 | n+1,i,jX=>by
  refine aL (CP mask n (leap mask i jX).1 (leap mask i jX).2) fun k hk e=>?_;refine⟨runEnd mask i-i+1+k,by have:=Xd mask i;lia,?_⟩;rw[nV,GJ,e];rfl
theorem VD(mask:Nat):∀(n i jX:Nat),(G mask n i jX).2=jX / 32 ^ n
 | 0,i,jX=>by simp[G]
 | n+1,i,jX=>by
  show(G mask n (leap mask i jX).1 (leap mask i jX).2).2=_;rw[VD mask n,show(leap mask i jX).2=jX / 32 from rfl,Nat.div_div_eq_div_mul,LN,LM]
theorem VE(mask:Nat):∀(a b i jX:Nat),G mask (a+b) i jX=G mask b (G mask a i jX).1 (G mask a i jX).2
 | 0,b,i,jX=>by rw[vm];rfl
 | a+1,b,i,jX=>by
  rw[show a+1+b=(a+b)+1 by lia];show G mask (a+b) _ _=_;rw[VE mask a b];rfl
theorem an0(mask:Nat):∀(n i jX:Nat),i<mask+1->(G mask n i jX).1<mask+1
 | 0,_,_,h=>h
 | n+1,i,jX,_=>an0 mask n _ _ (q9 _ (sC _))
def seen(mask:Nat):Nat->Nat->Nat->Nat
 | 0,_,acc=>acc
 | n+1,i,acc=>seen mask n ((i*5+1) % (mask+1)) (acc ||| (1 <<< i))
theorem CQ(mask e:Nat):∀(n i acc:Nat),(seen mask n i acc).testBit e=true->acc.testBit e=true\/∃m,m<n/\(G mask m i 0).1=e
 | 0,i,acc,h=>.inl h
 | n+1,i,acc,h=>by
  rcases CQ mask e n _ _ h with h|⟨m,hm,e'⟩;rw[Nat.testBit_or,nG]at h;rcases h with h|h;exact .inl h;refine .inr ⟨0,by lia,?_⟩;rw[Nat.one_shiftLeft,Nat.testBit_two_pow]at h;exact aU9 h;exact .inr ⟨m+1,by lia,e'⟩
def nW(mask:Nat):Bool:=(cY (mask+1)).all fun i=>seen mask (mask+1) i 0==2 ^ (mask+1)-1
def an1:nW 7=true:=by decide +kernel
def Xe:nW 31=true:=by decide +kernel
def RU:nW 127=true:=by decide +kernel
def Ll(mask:Nat):Prop:=mask=7\/mask=31\/mask=127
def Ll.full{mask:Nat}(h:Ll mask):nW mask=true:=by
 rcases h with rfl|rfl|rfl;exact an1;exact Xe;exact RU
def cover{mask:Nat}(hm:Ll mask){i e:Nat}(hi:i<mask+1)(he:e<mask+1):∃m,m<mask+1/\(G mask m i 0).1=e:=by
 have h:=hm.full;unfold nW at h;rw[iZ]at h;have q:=aU7.mp (h i (nB.mpr hi));have b:(seen mask (mask+1) i 0).testBit e=true:=by rw[q,Nat.testBit_two_pow_sub_one];exact aU5 he
 rcases CQ mask e _ _ _ b with h0|h0;rw[Nat.zero_testBit]at h0;cases h0;exact h0
def RV(h:Int):bits h<2 ^ 64:=by
 unfold bits;lia
def Iq{mask:Nat}(hm:Ll mask)(h:Int){e:Nat}(he:e<mask+1):∃n,n<=mask+13/\(G mask n (bits h % (mask+1)) (bits h)).1=e:=by
 have p0:(G mask 13 (bits h % (mask+1)) (bits h)).2=0:=by rw[VD];exact LO (gV (RV h) (by decide))
 obtain⟨m,EI,e'⟩:=cover hm (an0 mask 13 _ (bits h) (q9 _ (sC _))) he;refine⟨13+m,by lia,?_⟩;rw[VE,p0];exact e'
def reach{mask:Nat}(hm:Ll mask)(h:Int){e:Nat}(he:e<mask+1):∃k,k<=10*(mask+13)/\(W mask (Lk mask (bits h % (mask+1)) (bits h)) k).j=e:=by
 refine aL (Iq hm h he) fun n hn e'=>?_;refine aL (CP mask n (bits h % (mask+1)) (bits h)) fun k hk ek=>?_;refine⟨k,by lia,?_⟩;rw[ek];exact e'
def ud(xs:Array Nat):Prop:=∀i j,i<j->j<xs.size->xs.getD i 0<xs.getD j 0
def ud.le(h:ud xs)(pM:i<=j)(hj:j<xs.size):xs.getD i 0<=xs.getD j 0:=by
 rcases LP pM with h'|rfl;exact pR (h i j h' hj);exact b9 _
def NZ(xs:Array Nat)(h:i<xs.size):xs.getD i a=xs.getD i b:=by simp[Array.getD,h]
theorem w6(hr:ud xs)(j:Nat):∀(fuel lo hi:Nat),hi<=xs.size->lo<=hi->hi-lo<=fuel->(∀i,i<lo->xs.getD i 0<j)->(∀i,hi<=i->i<xs.size->j<=xs.getD i 0)->
  lo<=below.go xs j fuel lo hi/\below.go xs j fuel lo hi<=xs.size/\(∀i,i<below.go xs j fuel lo hi->xs.getD i 0<j)/\∀i,below.go xs j fuel lo hi<=i->i<xs.size->j<=xs.getD i 0
 | 0,lo,hi,h1,h2,h3,a,b=>by
  have:hi=lo:=by lia
  subst this;exact⟨b9 _,h1,a,b⟩
 | fuel+1,lo,hi,h1,h2,h3,a,b=>by
  unfold below.go;by_cases gh:lo<hi;rw[aU3 gh];dsimp only;have hm:(lo+hi) / 2<xs.size:=by lia
  rw[NZ xs (b:=0) hm];by_cases hc:xs.getD ((lo+hi) / 2) 0<j;rw[aU3 hc];have q:=w6 hr j fuel ((lo+hi) / 2+1) hi h1 (by lia) (by lia) (fun i hi'=>Ac (hr.le (by lia) hm) hc) b;exact⟨by lia,q.2⟩;rw[aU4 hc];have q:=w6 hr j fuel lo ((lo+hi) / 2) (by lia) (by lia) (by lia) a (fun i hi' hs=>f9 (nu hc) (hr.le hi' hs));exact⟨by lia,q.2⟩;rw[aU4 gh];have:hi=lo:=by lia
  subst this;exact⟨b9 _,h1,a,b⟩
def mh(hr:ud xs)(j:Nat):below xs j<=xs.size/\(∀i,i<below xs j->xs.getD i 0<j)/\∀i,below xs j<=i->i<xs.size->j<=xs.getD i 0:=
 (w6 hr j xs.size 0 xs.size (b9 _) (ie _) (b9 _) (fun i h=>aV5 h (iE _)) (fun i h h'=>aV5 h' (Nat.not_lt.mpr h))).2
def below_at(hr:ud xs)(hi:i<xs.size):below xs (xs.getD i 0)=i:=by
 refine qH (mh hr (xs.getD i 0)) fun a b c=>?_;rcases sD (below xs (xs.getD i 0)) i with h|h|h;have:=c _ (b9 _) (by lia);have:=hr _ _ h hi;lia;exact h;have:=b i h;lia
structure Good(t:gD)(n:Nat):Prop where
 size:t.place.size=n
 rise:ud t.place
 le:∀i,i<n->t.place.getD i 0<=t.mask
 dum:t.dummies=#[]
 msk:Ll t.mask
 jJ:n<t.mask
def Ir(j:Nat):has #[] j=false:=by simp[has]
def ze(g:Good t n)(hi:i<n):t.slot (t.place.getD i 0) = .live i:=by
 have hs:i<t.place.size:=by rw[g.size];exact hi
 unfold SetTable.slot;dsimp only;rw[below_at g.rise hs,aU3 (by simp[Array.getD,hs])]
def we(g:Good t n)(j:Nat):(∃i,i<n/\t.place.getD i 0=j/\t.slot j = .live i)\/((∀i,i<n->t.place.getD i 0≠j)/\t.slot j = .empty):=by
 by_cases h:∃i,i<n/\t.place.getD i 0=j;refine aL h fun i hi e=>?_;clear h;exact .inl ⟨i,hi,e,by rw[<- e];exact ze g hi⟩;refine .inr ⟨fun i hi e=>h ⟨i,hi,e⟩,?_⟩;unfold SetTable.slot;dsimp only;rw[aU4,g.dum,Ir];rfl;intro q;have q:=aU7.mp q;obtain⟨hs,e⟩:=sJ.mp q;exact h ⟨below t.place j,by rw[<- g.size];exact hs,by simp[Array.getD,hs,e]⟩
def fC(g:Good t n)(j:Nat):t.slot j = .empty↔∀i,i<n->t.place.getD i 0≠j:=by
 rcases we g j with⟨i,hi,e,q⟩|⟨a,q⟩;rw[q];exact⟨fun h=>(nomatch h),fun h=>aV5 e (h i hi)⟩;exact⟨fun _=>a,fun _=>q⟩
theorem Iu(h:ud xs):∀i,i<xs.size->i<=xs.getD i 0
 | 0,_=>ie _
 | i+1,hi=>by
  have a:=Iu h i (by lia);have b:=h i (i+1) (by lia) hi;lia
def GK(g:Good t n):∃e,e<t.mask+1/\t.slot e = .empty:=by
 by_cases h:∀i,i<n->t.place.getD i 0=i;refine⟨n,by have:=g.jJ;lia,(fC g n).mpr fun i hi e=>?_⟩;rw[h i hi]at e;lia;have:∃i,i<n/\t.place.getD i 0≠i/\∀k,k<i->t.place.getD k 0=k:=by
  have aux:∀m,m<=n->(∀k,k<m->t.place.getD k 0=k)\/∃i,i<n/\t.place.getD i 0≠i/\∀k,k<i->t.place.getD k 0=k:=by
   intro m;induction m with
   | zero=>intro _;exact .inl fun k hk=>aV5 hk (iE _)
   | succ m ih=>intro hm;rcases ih (by lia)with a|a;by_cases e:t.place.getD m 0=m;refine .inl fun k hk=>?_;rcases LP (Nat.le_of_lt_succ hk)with h'|rfl;exact a k h';exact e;exact .inr ⟨m,by lia,e,a⟩;exact .inr a
  rcases aux n (b9 _)with a|a;exact aV5 a h;exact a
 refine bK this fun i hi ne before=>?_;clear this;have hs:i<t.place.size:=by rw[g.size];exact hi
 have ge:=Iu g.rise i hs;refine⟨i,by have:=g.le i hi;lia,(fC g i).mpr fun k hk e=>?_⟩;rcases sD k i with h'|rfl|h';rw[before k h']at e;lia;exact ne e;have:=g.rise i k h' (by rw[g.size];exact hk);lia
def toList_ins(xs:Array α)(p:Nat)(x:α):(iF xs p x).toList=xs.toList.take p++x::xs.toList.drop p:=by
 simp[iF,List.extract_eq_take_drop,qf]
def O0(xs:Array α)(p:Nat)(x:α)(hp:p<=xs.size):(iF xs p x).size=xs.size+1:=by
 rw[<- fK,toList_ins,fj,cI,kP,Ff,fK];lia
def qP(xs:Array α)(p:Nat)(x:α)(hp:p<=xs.size)(i:Nat):(iF xs p x)[i]?=if i<p then xs[i]? else if i=p then some x else xs[i-1]?:=by
 rw[<- nF,toList_ins];by_cases h1:i<p;rw[aU3 h1,kR (by rw[kP,fK];lia),Ad h1,nF];rw[aU4 h1,kQ (by rw[kP,fK];lia),kP,fK,F7 hp];by_cases h2:i=p;subst h2;simp;rw[aU4 h2];obtain⟨m,hm⟩:∃m,i-p=m+1:=⟨i-p-1,by lia⟩
 rw[hm,Fi,List.getElem?_drop,nF];congr 1;lia
def CS(xs:Array Nat)(p x:Nat)(hp:p<=xs.size)(i:Nat):(iF xs p x).getD i 0=if i<p then xs.getD i 0 else if i=p then x else xs.getD (i-1) 0:=by
 have e:∀ys:Array Nat,∀k,ys.getD k 0=(ys[k]?).getD 0:=fun ys k=>by simp[ig]
 rw[e,qP xs p x hp i];split;rw[e];split;rfl;rw[e]
def GN(g:Good t n):t.put j=({t with place:=iF t.place (below t.place j) j},below t.place j):=by
 unfold SetTable.put;dsimp only;rw[g.dum,Ir];simp only[cJ,aV1]
def CT(g:Good t n)(hj:j<=t.mask)(he:t.slot j = .empty)(hf:n+1<t.mask):Good (t.put j).1 (n+1)/\(t.put j).2=below t.place j/\below t.place j<=n/\(t.put j).1.mask=t.mask/\
  (∀k,(t.put j).1.slot k = .empty↔(t.slot k = .empty/\k≠j))/\(t.put j).1.place=iF t.place (below t.place j) j:=by
 refine qH (mh g.rise j) fun b1 b2 b3=>?_;rw[g.size]at b1 b3;have hb1:below t.place j<=t.place.size:=by rw[g.size];exact b1
 have Lm:=(fC g j).mp he;have gt:∀i,below t.place j<=i->i<n->j<t.place.getD i 0:=fun i h1 h2=>by have:=b3 i h1 h2;have:=Lm i h2;lia
 rw[GN g];have gd:=CS t.place (below t.place j) j hb1;have sz:(iF t.place (below t.place j) j).size=n+1:=by rw[O0 _ _ _ hb1,g.size]
 have gg:Good {t with place:=iF t.place (below t.place j) j} (n+1):=by
  refine⟨sz,fun i k hik hk=>?_,fun i hi=>?_,g.dum,g.msk,hf⟩;have hk:k<n+1:=by rw[<- sz];exact hk
  show(iF t.place (below t.place j) j).getD i 0<(iF t.place (below t.place j) j).getD k 0;rw[gd i,gd k];by_cases h1:k<below t.place j;rw[aU3 h1,aU3 (by lia)];exact g.rise i k hik (by rw[g.size];lia);rw[aU4 h1];by_cases h2:k=below t.place j;rw[aU3 h2,aU3 (by lia)];exact b2 i (by lia);rw[aU4 h2];by_cases h3:i<below t.place j;rw[aU3 h3];exact g.rise i (k-1) (by lia) (by rw[g.size];lia);rw[aU4 h3];by_cases h4:i=below t.place j;rw[aU3 h4];exact gt (k-1) (by lia) (by lia);rw[aU4 h4];exact g.rise (i-1) (k-1) (by lia) (by rw[g.size];lia);show(iF t.place (below t.place j) j).getD i 0<=t.mask;rw[gd i];by_cases h1:i<below t.place j;rw[aU3 h1];exact g.le i (by lia);rw[aU4 h1];by_cases h2:i=below t.place j;rw[aU3 h2];exact hj;rw[aU4 h2];exact g.le (i-1) (by lia)
 refine⟨gg,rfl,b1,rfl,fun k=>?_,rfl⟩;rw[fC gg,fC g];show(∀i,i<n+1->(iF t.place (below t.place j) j).getD i 0≠k)↔_;constructor;intro h;refine⟨fun i hi e=>?_,fun e=>?_⟩;by_cases h1:i<below t.place j;exact h i (by lia) (by rw[gd i,aU3 h1];exact e);exact h (i+1) (by lia) (by rw[gd (i+1),aU4 (by lia),aU4 (by lia)];exact e);exact h (below t.place j) (by lia) (by rw[gd,aU4 (by lia),aU3 rfl];exact e.symm);rintro⟨h,aL5⟩ i hi e;rw[gd i]at e;by_cases h1:i<below t.place j;rw[aU3 h1]at e;exact h i (by lia) e;rw[aU4 h1]at e;by_cases h2:i=below t.place j;rw[aU3 h2]at e;exact aL5 e.symm;rw[aU4 h2]at e;exact h (i-1) (by lia) e
def t8(t:gD)(h:Int)(j:Nat):Prop:=∃k,(W t.mask (t.probeStart h) k).j=j/\∀m,m<k->t.slot (W t.mask (t.probeStart h) m).j≠ .empty
def Paths(t:gD)(hs:Nat->Int)(n:Nat):Prop:=∀i,i<n->t8 t (hs i) (t.place.getD i 0)
def least{p:Nat->Prop}[DecidablePred p]{k:Nat}(h:p k):∃d,d<=k/\p d/\∀m,m<d->¬ p m:=by
 induction k using Nat.strongRecOn with
 | _ k ih=>by_cases q:∃m,m<k/\p m;refine aL q fun m hm pm=>?_;clear q;refine bK (ih m hm pm) fun d hd a b=>?_;exact⟨d,by lia,a,b⟩;exact⟨k,b9 _,h,fun m hm pm=>q ⟨m,hm,pm⟩⟩
def dist{t:gD}{n:Nat}(g:Good t n)(h:Int):∃d,d<=10*(t.mask+13)/\t.slot (W t.mask (t.probeStart h) d).j = .empty/\∀m,m<d->t.slot (W t.mask (t.probeStart h) m).j≠ .empty:=by
 refine aL (GK g) fun e he se=>?_;refine aL (reach g.msk h he) fun k hk ek=>?_;obtain⟨d,hd,a,b⟩:=least (p:=fun m=>t.slot (W t.mask (t.probeStart h) m).j = .empty) (k:=k) (by rw[vZ,ek];exact se);exact⟨d,by lia,a,b⟩
theorem Iv(g:Good t n)(hashAt:Nat->Int)(h:Int):∀(d:Nat) (p:Probe) (fuel:Nat),p.dummy=none->d<fuel->t.slot (W t.mask p d).j = .empty->(∀m,m<d->t.slot (W t.mask p m).j≠ .empty)->
  (∃m i,m<d/\i<n/\t.slot (W t.mask p m).j = .live i/\hashAt i=h/\(∀m',m'<m->∀i',t.slot (W t.mask p m').j = .live i'->hashAt i'≠h)/\probe.go t hashAt h fuel p=some (.candidate (W t.mask p m).j i (W t.mask p (m+1))))\/
  ((∀m,m<d->∀i,t.slot (W t.mask p m).j = .live i->hashAt i≠h)/\probe.go t hashAt h fuel p=some (.empty (W t.mask p d).j none))
 | 0,p,fuel+1,hd,_,he,_=>by
  refine .inr ⟨fun m hm=>aV5 hm (iE _),?_⟩;unfold probe.go;have O1:t.slot p.j = .empty:=he;rw[O1,hd];rfl
 | d+1,p,fuel+1,hd,hf,he,hb=>by
  have h0:t.slot p.j≠ .empty:=hb 0 (by lia);rcases we g p.j with⟨i,hi,_,q⟩|⟨_,q⟩;by_cases hh:hashAt i=h;refine .inl ⟨0,i,by lia,hi,q,hh,fun m hm=>aV5 hm (iE _),?_⟩;unfold probe.go;rw[q];dsimp only;rw[aU3 (aU7.mpr hh),vY];rfl;have e:probe.go t hashAt h (fuel+1) p=probe.go t hashAt h fuel (jW t.mask p):=by
   conv=>lhs;unfold probe.go
   rw[q];dsimp only;rw[aU4 (fun z=>hh (aU7.mp z)),vY]
  rw[e];rcases Iv g hashAt h d (jW t.mask p) fuel (w5 _ _ hd) (by lia) he (fun m hm=>hb (m+1) (by lia))with⟨m,i',a1,a2,a3,a4,a5,a6⟩|⟨a1,a2⟩;refine .inl ⟨m+1,i',by lia,a2,a3,a4,fun m' EI i'' q'=>?_,a6⟩;cases m' with
  | zero=>have q2:t.slot p.j = .live i'':=q';rw[q]at q2;cases q2;exact hh
  | succ m'=>exact a5 m' (by lia) i'' q'
  refine .inr ⟨fun m hm i'' q'=>?_,a2⟩;cases m with
  | zero=>have q2:t.slot p.j = .live i'':=q';rw[q]at q2;cases q2;exact hh
  | succ m=>exact a1 m (by lia) i'' q'
  exact aV5 q h0
def JM(g:Good t n)(hj:j<=t.mask)(he:t.slot j = .empty)(hf:n+1<t.mask){JN:Nat->Int}(P:Paths t hs n)
  (hh:∀i,i<n+1->JN i=if i<below t.place j then hs i else if i=below t.place j then h else hs (i-1)) (hp:t8 t h j):Paths (t.put j).1 JN (n+1):=by
 refine vI (CT g hj he hf) fun gg _ hb hm hsl sW=>?_;have keep:∀{h':Int} {k:Nat},t8 t h' k->t8 (t.put j).1 h' k:=by
  rintro h' k ⟨s,e,b⟩;have es:(t.put j).1.probeStart h'=t.probeStart h':=by rw[vZ,vZ,hm]
  refine⟨s,by rw[hm,es];exact e,fun m EI z=>?_⟩;rw[hm,es]at z;exact b m EI ((hsl _).mp z).1
 intro i hi;rw[sW,CS _ _ _ (by rw[g.size];exact hb),hh i hi];by_cases h1:i<below t.place j;rw[aU3 h1,aU3 h1];exact keep (P i (by lia));rw[aU4 h1,aU4 h1];by_cases h2:i=below t.place j;rw[aU3 h2,aU3 h2];exact keep hp;rw[aU4 h2,aU4 h2];exact keep (P (i-1) (by lia))
def Cf(owner:Array (Option Nat))(j:Nat):Bool:=(owner.getD j (some 0)).isSome
def st(mask:Nat)(h:Int):Probe:=Lk mask (bits h % (mask+1)) (bits h)
theorem zf{mask:Nat}(owner:Array (Option Nat))(hz:owner.size=mask+1):∀(fuel i jX n:Nat),i<mask+1->n<fuel->Cf owner (G mask n i jX).1=false->
  ∃k j,layClean.free mask owner fuel i jX=some j/\(W mask (Lk mask i jX) k).j=j/\j<mask+1/\Cf owner j=false/\∀m,m<k->Cf owner (W mask (Lk mask i jX) m).j=true
 | fuel+1,i,jX,n,hi,hn,he=>by
  have aT2:runEnd mask i<=mask:=by unfold runEnd;split <;> lia
  have hge:i<=runEnd mask i:=by unfold runEnd;split <;> lia
  have hW:∀m,m<=runEnd mask i-i->(W mask (Lk mask i jX) m).j=i+m:=fun m hm=>by rw[NY mask m (Lk mask i jX) hm];rfl
  unfold layClean.free;cases hf:(cY (runEnd mask i+1-i)).find? (fun k=>(owner.getD (i+k) (some 0)).isNone)with
  | some k=>
   dsimp only;rw[List.find?_range_eq_some]at hf;refine qH hf fun a b c=>?_;clear hf;have hk:k<runEnd mask i+1-i:=nB.mp b;refine⟨k,i+k,rfl,hW k (by lia),by lia,?_,fun m hm=>?_⟩;unfold Cf;cases q:owner.getD (i+k) (some 0)with
   | none=>rfl
   | some z=>rw[q]at a;cases a
   rw[hW m (by lia)];have q:=c m hm;unfold Cf;cases q2:owner.getD (i+m) (some 0)with
   | none=>rw[q2]at q;cases q
   | some z=>rfl
  | none=>
   dsimp only;rw[List.find?_range_eq_none]at hf;have pN:∀m,m<runEnd mask i+1-i->Cf owner (i+m)=true:=fun m hm=>by
    have q:=hf m hm;unfold Cf;cases q2:owner.getD (i+m) (some 0)with
    | none=>rw[q2]at q;cases q
    | some z=>rfl
   cases n with
   | zero=>
    have:Cf owner i=true:=by have:=pN 0 (by lia);rwa [Nat.add_zero]at this
    have O1:Cf owner i=false:=he;rw[this]at O1;cases O1
   | succ n=>
    refine G8 (zf owner hz fuel (leap mask i jX).1 (leap mask i jX).2 n (q9 _ (sC _)) (by lia) he) fun k j e1 e2 e3 e4 e5=>?_;refine⟨runEnd mask i-i+1+k,j,e1,by rw[nV,GJ];exact e2,e3,e4,fun m hm=>?_⟩;by_cases hm1:m<runEnd mask i-i+1;rw[hW m (by lia)];exact pN m (by lia);obtain⟨r,rfl⟩:∃r,m=runEnd mask i-i+1+r:=⟨m-(runEnd mask i-i+1),by lia⟩
    rw[nV,GJ];exact e5 r (by lia)
theorem an4{mask:Nat}:∀(k:Nat) (p:Probe),p.j+p.more<=mask->(W mask p k).j<=mask
 | 0,p,h=>by show p.j<=mask;lia
 | k+1,p,h=>by
  refine an4 k (jW mask p) ?_;unfold jW;split;show p.j+1+(p.more-1)<=mask;lia;show(leap mask p.i p.perturb).1+(runEnd mask (leap mask p.i p.perturb).1-(leap mask p.i p.perturb).1)<=mask;have:(leap mask p.i p.perturb).1<mask+1:=q9 _ (sC _);unfold runEnd;split <;> lia
def VF(mask:Nat)(h:Int)(k:Nat):(W mask (st mask h) k).j<=mask:=by
 refine an4 k _ ?_;show bits h % (mask+1)+(runEnd mask (bits h % (mask+1))-bits h % (mask+1))<=mask;have:bits h % (mask+1)<mask+1:=q9 _ (sC _);unfold runEnd;split <;> lia
structure Own(mask:Nat)(hs:Nat->Int)(owner:Array (Option Nat))(q:Nat):Prop where
 size:owner.size=mask+1
 lt:∀(j a:Nat),owner[j]?=some (some a)->a<q
 at':∀(a:Nat),a<q->∃j,owner[j]?=some (some a)/\∃k,(W mask (st mask (hs a)) k).j=j/\∀m,m<k->Cf owner (W mask (st mask (hs a)) m).j=true
 uniq:∀(a j j':Nat),owner[j]?=some (some a)->owner[j']?=some (some a)->j=j'
 cnt:owner.toList.countP Option.isNone=mask+1-q
def JO(mask:Nat)(hs:Nat->Int):Own mask hs (Array.replicate (mask+1) none) 0:=by
 have no:∀(j a:Nat),(Array.replicate (mask+1) (none:Option Nat))[j]?≠some (some a):=fun j a h=>by rw[Array.getElem?_replicate]at h;split at h <;> cases h
 refine⟨by simp,fun j a h=>aV5 h (no j a),fun a h=>aV5 h (iE _),fun a j _ h=>aV5 h (no j a),?_⟩;rw[Array.toList_replicate,List.countP_replicate];rfl
def occ_none(h:Cf owner j=false):owner[j]?=some none:=by
 unfold Cf at h;rw[ig]at h;cases q:owner[j]? with
 | none=>rw[q]at h;cases h
 | some z=>cases z with
  | none=>rfl
  | some _=>rw[q]at h;cases h
def CU{owner:Array (Option Nat)}(h:owner[j]?=some none):Cf owner j=false:=by
 unfold Cf;rw[ig,h];rfl
def RW{owner:Array (Option Nat)}(hj:j<owner.size)(i:Nat):(owner.setIfInBounds j (some q))[i]?=if i=j then some (some q)else owner[i]?:=by
 rw[Array.getElem?_setIfInBounds];by_cases e:i=j;subst e;simp[hj];rw[aU4 (fun z=>e z.symm),aU4 e]
def O2{mask:Nat}(hm:Ll mask){hs:Nat->Int}{owner:Array (Option Nat)}{q:Nat}(o:Own mask hs owner q)(hq:q<mask+1) :
  ∃j,layClean.free mask owner (turns mask) (bits (hs q) % (mask+1)) (bits (hs q))=some j/\Own mask hs (owner.setIfInBounds j (some q)) (q+1):=by
 have hc:0<owner.toList.countP Option.isNone:=by rw[o.cnt];lia
 refine aL (List.countP_pos_iff.mp hc) fun x hx hn=>?_;obtain⟨e,he,ex⟩:=jP.mp hx;have hes:e<owner.size:=by rw[<- fK];exact he
 have e0:owner[e]?=some none:=by
  rw[<- nF,c7 he,ex];cases x with
  | none=>rfl
  | some _=>cases hn
 obtain⟨n,AJ,en⟩:=Iq hm (hs q) (e:=e) (by rw[<- o.size];exact hes);obtain⟨k,j,f1,f2,f3,f4,f5⟩:=zf owner o.size (turns mask) (bits (hs q) % (mask+1)) (bits (hs q)) n (q9 _ (sC _)) (by unfold turns;lia) (by rw[en];exact CU e0);refine⟨j,f1,?_⟩;have hj:j<owner.size:=by rw[o.size];exact f3
 have g:=RW (q:=q) hj;have jn:owner[j]?=some none:=occ_none f4;have up:∀i,Cf owner i=true->Cf (owner.setIfInBounds j (some q)) i=true:=fun i h=>by unfold Cf at h ⊢;rw[ig]at h ⊢;rw[g i];by_cases z:i=j;rw[aU3 z];rfl;rw[aU4 z];exact h
 refine⟨by rw[Array.size_setIfInBounds];exact o.size,fun i a h=>?_,fun a ha=>?_,fun a i i' h h'=>?_,?_⟩;rw[g i]at h;by_cases z:i=j;rw[aU3 z]at h;cases h;lia;rw[aU4 z]at h;have:=o.lt i a h;lia;by_cases z:a=q;subst z;exact⟨j,by rw[g,aU3 rfl],k,f2,fun m EI=>up _ (f5 m EI)⟩;obtain⟨i,b1,k',b2,b3⟩:=o.at' a (by lia);refine⟨i,?_,k',b2,fun m EI=>up _ (b3 m EI)⟩;rw[g,aU4,b1];rintro rfl;rw[jn]at b1;cases b1;rw[g i]at h;rw[g i']at h';by_cases z:i=j;by_cases z':i'=j;rw[z,z'];rw[aU3 z]at h;rw[aU4 z']at h';cases h;exact aV5 (o.lt _ _ h') (qG _);by_cases z':i'=j;rw[aU4 z]at h;rw[aU3 z']at h';cases h';exact aV5 (o.lt _ _ h) (qG _);rw[aU4 z]at h;rw[aU4 z']at h';exact o.uniq a i i' h h';rw[Array.toList_setIfInBounds];have RL:j<owner.toList.length:=by rw[fK];exact hj
 rw[List.countP_set RL,o.cnt];have ej:owner.toList[j]=none:=by
  have q1:owner.toList[j]?=some none:=by rw[nF];exact jn
  rw[c7 RL]at q1;exact dN q1
 rw[ej];simp;lia
theorem CV{mask:Nat}(hm:Ll mask){hs:Nat->Int}:∀(l:List Int) (owner:Array (Option Nat)) (q:Nat),Own mask hs owner q->q+l.length<=mask->(∀i,i<l.length->l[i]?=some (hs (q+i)))->
  ∃B6,l.foldl (init:=some (owner,q)) (fun acc h=>do
   let(owner,k) <- acc
   let j <- layClean.free mask owner (turns mask) (bits h % (mask+1)) (bits h)
   pure (owner.setIfInBounds j (some k),k+1))=some (B6,q+l.length)/\Own mask hs B6 (q+l.length)
 | [],owner,q,o,_,_=>⟨owner,rfl,o⟩
 | h::r,owner,q,o,hl,hh=>by
  have e0:h=hs q:=by have:=hh 0 (by simp);simpa using this
  obtain⟨j,f1,o1⟩:=O2 hm o (by simp only[cI]at hl;lia);obtain⟨B6,e,o2⟩:=CV hm r (owner.setIfInBounds j (some q)) (q+1) o1 (by simp only[cI]at hl;lia) (fun i hi=>by
   have:=hh (i+1) (by simp;lia);simp only[Fi]at this;rw[this,show q+(i+1)=q+1+i by lia])
  refine⟨B6,?_,by rw[cI,show q+(r.length+1)=q+1+r.length by lia];exact o2⟩;rw[LY];have e1:(do
   let(owner,k) <- (some (owner,q):Option (Array (Option Nat)×Nat))
   let j <- layClean.free mask owner (turns mask) (bits h % (mask+1)) (bits h)
   pure (owner.setIfInBounds j (some k),k+1))=some (owner.setIfInBounds j (some q),q+1):=by
   show(do
    let j <- layClean.free mask owner (turns mask) (bits h % (mask+1)) (bits h)
    pure (owner.setIfInBounds j (some q),q+1))=_
   rw[e0,f1];rfl
  rw[e1,e,cI,show q+(r.length+1)=q+1+r.length by lia]
def GO{mask:Nat}(hm:Ll mask)(hashes:Array Int)(hn:hashes.size<=mask):∃owner,layClean mask hashes=some owner/\Own mask (fun i=>hashes.getD i 0) owner hashes.size:=by
 obtain⟨owner,e,o⟩:=CV hm (hs:=fun i=>hashes.getD i 0) hashes.toList (Array.replicate (mask+1) none) 0 (JO mask _) (by rw[fK];lia) (fun i hi=>by
  rw[fK]at hi;rw[nF,vm];simp[Array.getD,hi])
 rw[fK,vm]at e o;refine⟨owner,?_,o⟩;unfold layClean;rw[<- Array.foldl_toList,e];rfl
def live(mask:Nat)(owner:Array (Option Nat)):List (Nat×Nat):=(cY (mask+1)).filterMap fun j=>(owner.getD j none).map (j,·)
def wg{mask:Nat}{owner:Array (Option Nat)}(hz:owner.size=mask+1){j a:Nat}:(j,a)∈live mask owner↔owner[j]?=some (some a):=by
 unfold live;rw[Cn];constructor;rintro⟨x,hx,e⟩;cases q:owner.getD x none with
 | none=>rw[q]at e;cases e
 | some b=>
  rw[q]at e;cases e;rw[ig]at q;cases q2:owner[j]? with
  | none=>rw[q2]at q;cases q
  | some z=>rw[q2]at q;have q:z=some a:=q;rw[q]
 intro h;have hj:j<owner.size:=(sJ.mp h).1;exact⟨j,nB.mpr (by lia),by rw[ig,h];rfl⟩
def JP(mask:Nat)(owner:Array (Option Nat)):(live mask owner).Pairwise fun x y=>x.1<y.1:=by
 unfold live;refine Wc _ ?_ M3;intro a a' haa b hb b' zd;cases q:owner.getD a none with
 | none=>rw[q]at hb;cases hb
 | some z=>
  cases q':owner.getD a' none with
  | none=>rw[q']at zd;cases zd
  | some z'=>rw[q]at hb;rw[q']at zd;cases hb;cases zd;exact haa
def B7{owner:Array (Option Nat)}(hz:owner.size=n):owner.toList=(cY n).map fun j=>owner.getD j none:=by
 refine Fj fun i=>?_;rw[nF,cG];by_cases h:i<n;rw[Ag h];have h':i<owner.size:=by lia
 simp[Array.getD,h'];rw[An (by lia),nD (by simp;lia)];rfl
def O3{mask:Nat}{hs:Nat->Int}{owner:Array (Option Nat)}{n:Nat}(o:Own mask hs owner n)(hn:n<=mask+1):(live mask owner).length=n:=by
 unfold live;rw[List.length_filterMap_eq_countP];have e1:List.countP (fun j=>((owner.getD j none).map fun x=>(j,x)).isSome) (cY (mask+1))=owner.toList.countP Option.isSome:=by rw[B7 o.size,List.countP_map];congr 1;funext j;simp
 rw[e1];have e2:=List.length_eq_countP_add_countP (p:=Option.isNone) (l:=owner.toList);rw[o.cnt,fK,o.size]at e2;have e3:owner.toList.countP Option.isSome=List.countP (fun a=>decide ¬ (Option.isNone a=true)) owner.toList:=by congr 1;funext a;cases a <;> rfl
 lia
def JQ{mask n:Nat}(hm:Ll mask)(hashes:Array Int)(hz:hashes.size=n)(hn:n<mask)(finger moves:Nat)(led plain:Bool) :
  ∃t' order,laid mask finger moves led plain hashes=some (t',order)/\Good t' n/\t'.mask=mask/\t'.led=led/\t'.plain=plain/\order.size=n/\(∀m,m<n->order.getD m 0<n)/\
   (∀m m',m<n->m'<n->order.getD m 0=order.getD m' 0->m=m')/\(∀a,a<n->∃m,m<n/\order.getD m 0=a)/\Paths t' (fun m=>hashes.getD (order.getD m 0) 0) n:=by
 refine aL (GO hm hashes (by lia)) fun owner e o=>?_;rw[hz]at o;have ll:=O3 o (by lia);refine⟨{mask,place:=((live mask owner).map (·.1)).toArray,dummies:=#[],finger,led,moves,plain},((live mask owner).map (·.2)).toArray,?_,?_⟩;unfold laid;rw[e];rfl;have gp:∀m,m<n->∃j a,(live mask owner)[m]?=some (j,a)/\(((live mask owner).map (·.1)).toArray).getD m 0=j/\(((live mask owner).map (·.2)).toArray).getD m 0=a/\owner[j]?=some (some a):=fun m h=>by
  have h':m<(live mask owner).length:=by lia
  refine⟨((live mask owner)[m]).1,((live mask owner)[m]).2,c7 h',?_,?_,(wg o.size).mp (jQ h')⟩;simp[Array.getD,h'];simp[Array.getD,h']
 have pw:=vv.mp (JP mask owner);have rise:ud (((live mask owner).map (·.1)).toArray):=fun i j pM hj=>by
  have hj:j<(live mask owner).length:=by simpa using hj
  have hi:i<(live mask owner).length:=by lia
  have:=pw i j hi hj pM;simpa[Array.getD,hi,hj]using this
 have good:Good {mask,place:=((live mask owner).map (·.1)).toArray,dummies:=#[],finger,led,moves,plain} n:=by refine⟨by simp[ll],rise,fun i hi=>?_,rfl,hm,hn⟩;refine qJ (gp i hi) fun j a _ e2 _ e4=>?_;show(((live mask owner).map (·.1)).toArray).getD i 0<=mask;rw[e2];have:=(sJ.mp e4).1;have:=o.size;lia
 refine⟨good,rfl,rfl,rfl,by simp[ll],fun m h=>?_,fun m m' h h' q=>?_,fun a h=>?_,fun m h=>?_⟩;refine qJ (gp m h) fun j a _ _ e3 e4=>?_;rw[e3];exact o.lt j a e4;refine qJ (gp m h) fun j a _ e2 e3 e4=>?_;refine qJ (gp m' h') fun j' a' _ e2' e3' e4'=>?_;rw[e3,e3']at q;subst q;have ej:=o.uniq a j j' e4 e4';rcases sD m m' with z|z|z;have:=rise m m' z (by simp[ll];exact h');lia;exact z;have:=rise m' m z (by simp[ll];exact h);lia;refine aL (o.at' a h) fun j b _=>?_;obtain⟨m,EI,em⟩:=jP.mp ((wg (mask:=mask) o.size).mpr b);refine⟨m,by lia,?_⟩;simp[Array.getD,EI,em];refine qJ (gp m h) fun j a _ e2 e3 e4=>?_;obtain⟨j',b1,k,b2,b3⟩:=o.at' a (o.lt j a e4);have ej:=o.uniq a j j' e4 b1;subst ej;dsimp only;rw[e2,e3];refine⟨k,b2,fun m' EI z=>?_⟩;have z:=(fC good _).mp z;have oc:=b3 m' EI;have inr:(W mask (st mask (hashes.getD a 0)) m').j<=mask:=VF mask _ m';unfold Cf at oc;rw[ig]at oc;cases q:owner[(W mask (st mask (hashes.getD a 0)) m').j]? with
 | none=>have:=MB.mp q;have:=o.size;lia
 | some x=>
  cases x with
  | none=>rw[q]at oc;cases oc
  | some b=>obtain⟨r,hr,er⟩:=jP.mp ((wg (mask:=mask) o.size).mpr q);refine z r (by lia) ?_;dsimp only;simp[Array.getD,hr,er];rfl
end Tb
end aL4
section aL6
namespace Ts
open PySem PySem.SetTable Tb
structure nX(prog:cP)(w:bF)(K:Type)[DecidableEq K] extends HeapKind prog w K where
 O4:∀{A:bP} {E:au->ay->Prop} {s:ay} {k:K} {a:av} {Q:Bool->ay->Prop},is s.heap k a->Q false s->aC (aF prog w) A (ofAClassStatement 8 (.ref a)) Q E s
 VG:∀{A:bP} {E:au->ay->Prop} {s:ay} {k:K} {a:av} {Q:Bool->ay->Prop},is s.heap k a->Q true s->aC (aF prog w) A (hashByValue 8 (.ref a)) Q E s
 mono:∀{h h':aN} {k:K} {a:av},is h k a->(∀b o,h.get? b=some o->o.cls = .type "tuple" ->h'.get? b=some o)->is h' k a
section
variable {prog:cP}{w:bF}{K:Type}[DecidableEq K]{κ:nX prog w K}
def stays(κ:nX prog w K)(x:κ.is h k a)(ho:h.get? d=some o)(hc:o.cls = .type "set")(sb:jh d h h'):κ.is h' k a:=
 κ.mono x fun b ob e hb=>by
  rw[sb.2 b ?_];exact e;rintro rfl;obtain rfl:=dN (e.symm.trans ho);rw[hc]at hb;exact aV5 hb (by decide)
def entry(κ:nX prog w K)(x:K×av):Int×au:=(κ.hash x.1,.ref x.2)
structure iC(κ:nX prog w K)(h:aN)(a:av)(led:Bool)(xs:List (K×av))(o:Obj)(ep:Nat)(t:gD):Prop where
 obj:h.get? a=some o
 mw:o.ExactSet
 data:o.data = .set (xs.map (entry κ)).toArray ep t
 good:Good t xs.length
 Iw:Paths t (fun i=>((xs.map (entry κ)).toArray[i]?.map (·.1)).getD 0) xs.length
 JR:t.led=led
 plain:t.plain=true
 jJ:xs.length*5<t.mask*3
 keys:(xs.map (·.1)).Nodup
 each:∀x∈xs,κ.is h x.1 x.2
def fits_of(g:Good t n):t.fits n=true:=by
 unfold SetTable.fits SetTable.fill;rw[g.dum,g.size];have:=g.jJ;simp;lia
variable {A:bP}{E:au->ay->Prop}{s:ay}{a b:av}{led:Bool}{xs:List (K×av)}{o:Obj}{ep:Nat}{t:gD}{k:K}
def iM{Q:(Array (Int×au)×Nat×gD)->ay->Prop}(S:iC κ s.heap a led xs o ep t)(h:Q ((xs.map (entry κ)).toArray,ep,t) s):aC (aF prog w) A (setState a) Q E s:=
 Ly S.obj S.data (by simpa using fits_of S.good) h
def RX{Q:Bool->ay->Prop}{l:List (K×av)}(hx:κ.is s.heap k b)(hl:∀x∈l,κ.is s.heap x.1 x.2)(h:Q false s) :
  aC (aF prog w) A (searchCouldBeSeen (.ref b) (l.map fun x=>f7 x.2)) Q E s:=by
 unfold searchCouldBeSeen;refine aq (q8 _ (fun rest r s'=>r.1=none/\s'=s/\∃(l':List (K×av)),rest=l'.map (fun x:K×av=>f7 x.2)/\∀x∈l',κ.is s.heap x.1 x.2) _ ?_ ?_ _ _ ⟨rfl,rfl,l,rfl,hl⟩);rintro v rest r s' ⟨hr,rfl,l',y9,hk⟩;cases l' with
 | nil=>cases y9
 | cons x l'=>
  rw[bh]at y9;injection y9 with e1 e2;subst e1;have nx:r.1=none/\s'=s'/\∃(l'':List (K×av)),rest=l''.map (fun x:K×av=>f7 x.2)/\∀x∈l'',κ.is s'.heap x.1 x.2:=⟨hr,rfl,l',e2,fun y hy=>hk y (nC _ hy)⟩
  have Iz:=hk x tZ;dsimp only;split;exact aG ⟨rfl,rfl,nx.2.2⟩;refine aq (κ.quiet hx ?_);simp only[j3,cJ,aV1];refine aq (κ.quiet Iz ?_);simp only[j3,cJ,aV1];refine aq (κ.O4 hx ?_);simp only[cJ,aV1];refine aq (κ.O4 Iz ?_);simp only[cJ,aV1];exact aG ⟨rfl,rfl,nx.2.2⟩
 rintro⟨r1,r2⟩ s' ⟨hr,rfl,_⟩;simp only at hr;subst hr;exact aG h
def jH(xs:List (K×av))(i:Nat):(xs.map (entry κ)).toArray[i]?=xs[i]?.map (entry κ):=by simp
def JS{Q:SetFound->ay->Prop}(S:iC κ s.heap a led xs o ep t)(hr:κ.room A)(hx:κ.is s.heap k b)
  (hT:k∈xs.map (·.1)->Q (.there none) s)
  (hF:k∉xs.map (·.1)->∀j,j<=t.mask->t.slot j = .empty->t8 t (κ.hash k) j->Q (.free j false) s)
  {D:Nat} (hD:D<=10*(t.mask+13)) (hE:t.slot (W t.mask (t.probeStart (κ.hash k)) D).j = .empty) (hB:∀m,m<D->t.slot (W t.mask (t.probeStart (κ.hash k)) m).j≠ .empty) :
  ∀(r m0 fuel:Nat),m0+r=D->r<fuel->(∀m i,m<m0->t.slot (W t.mask (t.probeStart (κ.hash k)) m).j = .live i->∀x,xs[i]?=some x->x.1≠k)->
   ∀kI:Option Probe,kI.getD (t.probeStart (κ.hash k))=W t.mask (t.probeStart (κ.hash k)) m0->
   aC (aF prog w) A (setSearchFrom a (.ref b) (κ.hash k) true fuel kI) Q E s:=by
 intro r;induction r using Nat.strongRecOn with
 | _ r ih=>
  intro m0 fuel hm hf hv kI pK;obtain⟨fuel,rfl⟩:∃f,fuel=f+1:=⟨fuel-1,by lia⟩
  unfold setSearchFrom;refine aq (iM S ?_);dsimp only;have hgw:t.gaveWay=false:=by unfold SetTable.gaveWay;rcases S.good.msk with e|e|e <;> rw[e] <;> rfl
  rw[hgw];simp only[cJ,aV1];have sp:=Iv S.good (fun i=>((xs.map (entry κ)).toArray[i]?.map (·.1)).getD 0) (κ.hash k) r (W t.mask (t.probeStart (κ.hash k)) m0) (10*turns t.mask) (Ip _ _ _ rfl) (by unfold turns;lia)
   (by rw[<- nV,hm];exact hE) (fun m EI=>by rw[<- nV];exact hB _ (by lia))
  have hpr:t.probe (fun i=>((xs.map (entry κ)).toArray[i]?.map (·.1)).getD 0) (κ.hash k) (kI.getD (t.probeStart (κ.hash k)))=probe.go t (fun i=>((xs.map (entry κ)).toArray[i]?.map (·.1)).getD 0) (κ.hash k) (10*turns t.mask) (W t.mask (t.probeStart (κ.hash k)) m0):=by rw[pK];rfl
  rcases sp with⟨m,i,h1,h2,h3,h4,h5,h6⟩|⟨h1,h2⟩;have Xf:=hpr.trans h6;generalize hpq:t.probe _ (κ.hash k) (kI.getD (t.probeStart (κ.hash k)))=pr;obtain rfl:=hpq.symm.trans Xf;dsimp only;obtain⟨x,Xg⟩:∃x,xs[i]?=some x:=⟨xs[i],c7 h2⟩
  have hxm:x∈xs:=jO Xg;have rest:aC (aF prog w) A (do
    let some (_,y):=(xs.map (entry κ)).toArray[i]?|unsupported "internal:set-entry"
    let equal <- holding [y] (eqBool y (.ref b))
    let(Lf,_,t') <- setState a
    if true&&equal then return .there none
    let some same:=t'.sameMemory t.moves t.mask|unsupported "set.changed-during-lookup:is-the-new-block-at-the-old-address"
    let an5 <- match(if same then t'.slot (W t.mask (W t.mask (t.probeStart (κ.hash k)) m0) m).j else .empty)with
     | .live i'=>match Lf[i']? with
      | some (_,y')=>do pure (if <- isSame y' y then some i' else none)
      | none=>pure none
     | _=>pure none
    match an5 with
    | none=>rule "set.search.anew";setSearchFrom a (.ref b) (κ.hash k) true fuel none
    | some i'=>if equal then return .there (some i')else setSearchFrom a (.ref b) (κ.hash k) true fuel (some (W t.mask (W t.mask (t.probeStart (κ.hash k)) m0) (m+1)))) Q E s:=by
   rw[jH,Xg]
   dsimp only[Option.map,entry]
   refine aq (jg (κ.eqBool hr (S.each x hxm) hx ?_))
   refine aq (iM S ?_)
   dsimp only
   by_cases hk:x.1=k
   ·rw[aU5 hk]
    simp only[Bool.and_self,aV2]
    exact aG (hT (aX.mpr ⟨x,hxm,hk⟩))
   ·rw[aU6 hk]
    simp only[FQ,cJ,aV1]
    have hsm:t.sameMemory t.moves t.mask=some true:=by unfold SetTable.sameMemory;rw[aU3 (by simp)]
    rw[hsm]
    dsimp only
    rw[aU3 rfl,h3]
    dsimp only
    rw[jH,Xg]
    dsimp only[Option.map,entry]
    refine aq (wpAny_isSame_ref_self (aq (aG ?_)))
    simp only[aV2]
    refine ih (r-(m+1)) (by lia) (m0+(m+1)) fuel (by lia) (by lia) (fun m' i' EI hl y hy=>?_) _ (by rw[<- nV];rfl)
    by_cases c1:m'<m0
    ·exact hv m' i' c1 hl y hy
    ·obtain⟨q,rfl⟩:∃q,m'=m0+q:=⟨m'-m0,by lia⟩
     rw[nV]at hl
     by_cases c2:q<m
     ·intro e
      refine h5 q c2 i' hl ?_
      show((xs.map (entry κ)).toArray[i']?.map (·.1)).getD 0=κ.hash k
      rw[jH,hy]
      show κ.hash y.1=κ.hash k
      rw[e]
     ·have:q=m:=by lia
      subst this
      rw[h3]at hl
      cases hl
      rw[Xg]at hy
      cases hy
      exact hk
  by_cases hl:led=true;have y9:t.led=true:=S.JR.trans hl;rw[y9];simp only[j3,cJ,aV1];exact rest;have y9:t.led=false:=S.JR.trans (qi.mpr hl);rw[y9];simp only[FT,aV2];have el:((((xs.map (entry κ)).toArray.filter (·.1==κ.hash k))).toList.map (·.2))=(xs.filter fun y=>κ.hash y.1==κ.hash k).map fun y=>f7 y.2:=by rw[Array.toList_filter,List.filter_map,cU];rfl
  rw[el];refine aq (RX hx (fun y hy=>S.each y (pS.mp hy).1) ?_);simp only[cJ,aV1];exact rest;have Xf:=hpr.trans h2;generalize hpq:t.probe _ (κ.hash k) (kI.getD (t.probeStart (κ.hash k)))=pr;obtain rfl:=hpq.symm.trans Xf;dsimp only;have ej:(W t.mask (W t.mask (t.probeStart (κ.hash k)) m0) r).j=(W t.mask (t.probeStart (κ.hash k)) D).j:=by rw[<- nV,hm]
  rw[ej];refine aG (hF (fun GP=>?_) _ (VF t.mask _ D) hE ⟨D,rfl,hB⟩);refine aL (aX.mp GP) fun x hxm ek=>?_;obtain⟨i,hi,ei⟩:=jP.mp hxm;have Xg:xs[i]?=some x:=by rw[c7 hi,ei]
  refine aL (S.Iw i hi) fun ki p1 p2=>?_;have hh:(fun i=>((xs.map (entry κ)).toArray[i]?.map (·.1)).getD 0) i=κ.hash k:=by show((xs.map (entry κ)).toArray[i]?.map (·.1)).getD 0=κ.hash k;rw[jH,Xg];show κ.hash x.1=κ.hash k;rw[ek]
  rw[hh]at p1 p2;have sl:t.slot (W t.mask (t.probeStart (κ.hash k)) ki).j = .live i:=by rw[p1];exact ze S.good hi
  have c1:ki<D:=by rcases sD ki D with c|c|c;exact c;subst c;rw[sl]at hE;cases hE;exact aV5 hE (p2 D c)
  by_cases c2:ki<m0;exact hv ki i c2 sl x Xg ek;obtain⟨q,rfl⟩:∃q,ki=m0+q:=⟨ki-m0,by lia⟩
  rw[nV]at sl;exact h1 q (by lia) i sl hh
end
section
variable {prog:cP}{w:bF}{K:Type}[DecidableEq K]{κ:nX prog w K}
variable {A:bP}{E:au->ay->Prop}{s:ay}{a b:av}{led:Bool}{xs:List (K×av)}{o:Obj}{ep:Nat}{t:gD}{k:K}
def iC.store(S:iC κ s.heap a led xs o ep t){ys:List (K×av)}(hg:Good t' ys.length)(hp:Paths t' (fun i=>((ys.map (entry κ)).toArray[i]?.map (·.1)).getD 0) ys.length)(hl:t'.led=led)(sW:t'.plain=true)
  (hk:(ys.map (·.1)).Nodup) (he:∀x∈ys,κ.is s.heap x.1 x.2) :
  let h':=s.heap.update a (Obj.putSet (ys.map (entry κ)).toArray t')
  jh a s.heap h'/\h'.get? a=some {o with data:=.set (ys.map (entry κ)).toArray (ep+1) t'}/\(∀x∈ys,κ.is h' x.1 x.2)/\
   (ys.length*5<t'.mask*3->iC κ h' a led ys {o with data:=.set (ys.map (entry κ)).toArray (ep+1) t'} (ep+1) t'):=by
 intro h';have sb:jh a s.heap h':=jt ..;have O5:h'.get? a=some {o with data:=.set (ys.map (entry κ)).toArray (ep+1) t'}:=by have:=nt (Obj.putSet (ys.map (entry κ)).toArray t') S.obj (by rw[zZ _ t' S.data];rfl);rw[zZ _ t' S.data]at this;exact this
 have hi:∀x∈ys,κ.is h' x.1 x.2:=fun x hx=>stays κ (he x hx) S.obj S.mw.1 sb;exact⟨sb,O5,hi,fun hf=>⟨O5,S.mw,rfl,hg,hp,hl,sW,hf,hk,hi⟩⟩
def qX(h:(M=32/\16<=n/\n<32)\/(M=128/\64<=n/\n<128)):sizeAbove n=M:=by
 unfold sizeAbove;rcases h with⟨rfl,h1,h2⟩|⟨rfl,h1,h2⟩;unfold sizeAbove.go;rw[aU3 (by lia)];unfold sizeAbove.go;rw[aU3 (by lia)];unfold sizeAbove.go;rw[aU4 (by lia)];unfold sizeAbove.go;rw[aU3 (by lia)];unfold sizeAbove.go;rw[aU3 (by lia)];unfold sizeAbove.go;rw[aU3 (by lia)];unfold sizeAbove.go;rw[aU3 (by lia)];unfold sizeAbove.go;rw[aU4 (by lia)]
def yf(l:List α)(p:Nat)(x y:α):y∈l.take p++x::l.drop p↔y=x\/y∈l:=by
 rw[gW,bD];have:y∈l↔y∈l.take p\/y∈l.drop p:=by rw[<- gW,Fl]
 rw[this];constructor;rintro(h|h|h);exact .inr (.inl h);exact .inl h;exact .inr (.inr h);rintro(h|h|h);exact .inr (.inl h);exact .inl h;exact .inr (.inr h)
def JT{l:List α}(p:Nat)(h:l.Nodup)(hx:x∉l):(l.take p++x::l.drop p).Nodup:=by
 have e:(l.take p++x::l.drop p).Perm (x::l):=by refine M4.trans ?_;rw[Fl]
 exact e.nodup_iff.mpr (jN.mpr ⟨hx,h⟩)
def reorder(l:List α)(order:Array Nat)(hl:l.length=n)(ho:order.size=n)(gh:∀m,m<n->order.getD m 0<n) :
  (order.toList.filterMap (fun i=>l[i]?)).length=n/\∀m,m<n->(order.toList.filterMap (fun i=>l[i]?))[m]?=l[order.getD m 0]?:=by
 have key:∀(q:List Nat),(∀i∈q,i<l.length)->(q.filterMap (fun i=>l[i]?)).length=q.length/\∀m,m<q.length->(q.filterMap (fun i=>l[i]?))[m]?=l[q.getD m 0]?:=by
  intro q;induction q with
  | nil=>intro _;exact⟨rfl,fun m h=>aV5 h (iE _)⟩
  | cons i q ih=>
   intro h;have hi:=h i tZ;obtain⟨a1,a2⟩:=ih fun j hj=>h j (nC _ hj);rw[LZ (b:=l[i]) (c7 hi)];refine⟨by rw[cI,cI,a1],fun m hm=>?_⟩;cases m with
   | zero=>simp[c7 hi]
   | succ m=>simpa using a2 m (by simpa using hm)
 have hm:∀i∈order.toList,i<l.length:=fun i hi=>by
  obtain⟨m,h1,h2⟩:=jP.mp hi;have hz:m<order.size:=by rw[<- fK];exact h1
  have:=gh m (by lia);have e:order.getD m 0=i:=by simp[Array.getD,hz];rw[<- h2];simp
  lia
 obtain⟨b1,b2⟩:=key order.toList hm;refine⟨by rw[b1,fK,ho],fun m h=>?_⟩;rw[b2 m (by rw[fK];lia)];congr 1;have hz:m<order.size:=by lia
 simp[Array.getD,List.getD,hz]
def O6{Q:Unit->ay->Prop}(ho:s.heap.get? a=some o)(hx:o.ExactSet)(hd:o.data = .set (xs.map (entry κ)).toArray ep t)(hg:Good t xs.length)(hl:t.led=led)(sW:t.plain=true)(hk:(xs.map (·.1)).Nodup)(he:∀x∈xs,κ.is s.heap x.1 x.2)
  (hM:Ll M) (hw:sizeAbove wanted=M+1) (hn:xs.length*5<M*3)
  (h:∀h' o' AI t' ys,jh a s.heap h'->iC κ h' a led ys o' AI t'->(∀x,x∈ys↔x∈xs)->ys.length=xs.length->Q () {s with heap:=h'}):aC (aF prog w) A (setRelay a wanted) Q E s:=by
 unfold setRelay;refine aq (Ly ho hd (by simpa using fits_of hg) ?_);dsimp only;have hM':M<200:=by rcases hM with e|e|e <;> lia
 rw[aU4 (by rw[hw,gC];lia)];obtain⟨t',order,e1,g1,e2,e3,e4,e5,e6,e7,e8,e9⟩:=JQ (n:=xs.length) hM (((xs.map (entry κ)).toArray).map (·.1)) (by simp) (by lia) t.finger (t.movedTo M) t.led t.plain;have hrl:t.relaid (((xs.map (entry κ)).toArray).map (·.1)) wanted=some (t',order):=by unfold SetTable.relaid;rw[hw,LQ];exact e1
 rw[hrl];obtain⟨r1,r2⟩:=reorder xs order rfl e5 e6;have ent:order.filterMap (fun i=>((xs.map (entry κ)).toArray)[i]?)=((order.toList.filterMap (fun i=>xs[i]?)).map (entry κ)).toArray:=by apply Am.mp;rw[Array.toList_filterMap,List.map_filterMap];congr 1;funext i;rw[jH]
 refine aq (vg (a:=(((order.toList.filterMap (fun i=>xs[i]?)).map (entry κ)).toArray,t')) ?_ ?_)
 ·show(do
   if(order.filterMap (fun i=>((xs.map (entry κ)).toArray)[i]?)).size !=((xs.map (entry κ)).toArray).size then unsupported "internal:set-table-lost-an-element"
   pure (order.filterMap (fun i=>((xs.map (entry κ)).toArray)[i]?),t'):Sem (Array (Int×au)×gD))=_
  rw[ent,aU4 (by simp[r1])];first|done|rfl
 dsimp only;have len:(order.toList.filterMap (fun i=>xs[i]?)).length=xs.length:=r1;have mem:∀x,x∈order.toList.filterMap (fun i=>xs[i]?)↔x∈xs:=fun x=>by
  rw[Cn];constructor;rintro⟨i,_,e⟩;exact jO e;intro qO;obtain⟨i,hi,ei⟩:=jP.mp qO;refine aL (e8 i hi) fun m hm em=>?_;have hz:m<order.size:=by lia
  refine⟨i,?_,by rw[c7 hi,ei]⟩;have:order[m]=i:=by rw[<- em];simp[Array.getD,hz]
  rw[<- this];exact vD.mpr (Array.getElem_mem hz)
 have nd:((order.toList.filterMap (fun i=>xs[i]?)).map (·.1)).Nodup:=by
  rw[nE,vv];intro i j hi hj pM e;rw[bL,len]at hi hj;have gi:=r2 i hi;have gj:=r2 j hj;rw[c7 (by lia),c7 (e6 i hi)]at gi;rw[c7 (by lia),c7 (e6 j hj)]at gj;rw[sH,sH,dN gi,dN gj]at e;have pw:=vv.mp (nE.mp hk);have a1:order.getD i 0<(xs.map (·.1)).length:=by rw[bL];exact e6 i hi
  have a2:order.getD j 0<(xs.map (·.1)).length:=by rw[bL];exact e6 j hj
  rcases sD (order.getD i 0) (order.getD j 0)with c|c|c;exact pw _ _ a1 a2 c (by rw[sH,sH];exact e);have:=e7 i j hi hj c;lia;exact pw _ _ a2 a1 c (by rw[sH,sH];exact e.symm)
 have pth:Paths t' (fun i=>(((order.toList.filterMap (fun i=>xs[i]?)).map (entry κ)).toArray[i]?.map (·.1)).getD 0) (order.toList.filterMap (fun i=>xs[i]?)).length:=by
  rw[len];intro i hi;have q:=e9 i hi;have ee:(((order.toList.filterMap (fun i=>xs[i]?)).map (entry κ)).toArray[i]?.map (·.1)).getD 0=(((xs.map (entry κ)).toArray).map (·.1)).getD (order.getD i 0) 0:=by rw[jH,r2 i hi];generalize order.getD i 0=z;rw[ig,Array.getElem?_map,jH]
  show t8 t' ((((order.toList.filterMap (fun i=>xs[i]?)).map (entry κ)).toArray[i]?.map (·.1)).getD 0) (t'.place.getD i 0);rw[ee];exact q
 have sb:jh a s.heap (s.heap.update a (Obj.putSet ((order.toList.filterMap (fun i=>xs[i]?)).map (entry κ)).toArray t')):=jt ..;have O5:=nt (Obj.putSet ((order.toList.filterMap (fun i=>xs[i]?)).map (entry κ)).toArray t') ho (by rw[zZ _ t' hd];rfl);rw[zZ _ t' hd]at O5;refine Lz ho hd (h _ _ (ep+1) t' (order.toList.filterMap (fun i=>xs[i]?)) sb ⟨O5,hx,rfl,by rw[len];exact g1,pth,e3.trans hl,e4.trans sW,by rw[len,e2];exact hn,nd,fun x qO=>stays κ (he x ((mem x).mp qO)) ho hx.1 sb⟩ mem len) ?_;rw[d7,bL,len,gC];lia
def Xh{Q:Bool->ay->Prop}(S:iC κ s.heap a led xs o ep t)(hr:κ.room A)(hx:κ.is s.heap k b)(hn:xs.length<60)
  (h:∀c h' o' AI t' ys,jh a s.heap h'->iC κ h' a led ys o' AI t'->(∀x∈ys,x∈xs\/x=(k,b))->(∀x∈xs,x∈ys)->k∈ys.map (·.1)->ys.length<=xs.length+1->Q c {s with heap:=h',toks:=s.toks+κ.draws k}) :
  aC (aF prog w) A (setAdd a (.ref b)) Q E s:=by
 unfold setAdd;refine jg (aq (κ.pyHash hr hx ?_));have S':iC κ ({s with toks:=s.toks+κ.draws k}:ay).heap a led xs o ep t:=S;have qO:κ.is ({s with toks:=s.toks+κ.draws k}:ay).heap k b:=hx;refine bK (dist S.good (κ.hash k)) fun D d1 d2 d3=>?_;have hm:t.mask<=127:=by rcases S.good.msk with e|e|e <;> lia
 unfold setAddHashed setAddHashedIn;refine jg (aq (iM S' ?_));dsimp only;have hsc:byScan (.ref b) (xs.map (entry κ)).toArray=false:=by simp[byScan,Value.scannable]
 rw[hsc];simp only[cJ,aV1];unfold setSearch;refine aq (JS S' hr qO (fun GP=>?_) (fun GP j hj he hp=>?_) d1 d2 d3 D 0 100000 (by lia) (by lia) (fun m i h0=>aV5 h0 (iE _)) none rfl);dsimp only;refine aG (h false s.heap o ep t xs (.refl ..) S (fun x hx=>.inl hx) (fun x hx=>hx) GP (by lia));dsimp only;refine aq (iM S' ?_);dsimp only;have hf1:xs.length+1<t.mask:=by have:=S.jJ;rcases S.good.msk with e|e|e <;> rw[e]at this ⊢ <;> lia
 refine vI (CT S.good hj he hf1) fun g1 p1 p2 p3 p4 p5=>?_;have sW:(t.put j).1.plain=true:=by rw[GN S.good];exact S.plain
 have hld:(t.put j).1.led=led:=by rw[GN S.good];exact S.JR
 rw[sW];simp only[aV2];refine aq (κ.VG qO ?_);simp only[aV2];have ent:iF (xs.map (entry κ)).toArray (t.put j).2 (κ.hash k,f7 b)=((xs.take (below t.place j)++(k,b)::xs.drop (below t.place j)).map (entry κ)).toArray:=by apply Am.mp;rw[toList_ins,p1,qg,bh,Fo,Fp];rfl
 rw[ent];have len:(xs.take (below t.place j)++(k,b)::xs.drop (below t.place j)).length=xs.length+1:=by rw[fj,cI,kP,Ff];lia
 have nd:((xs.take (below t.place j)++(k,b)::xs.drop (below t.place j)).map (·.1)).Nodup:=by rw[qg,bh,Fo,Fp];exact JT _ S.keys GP
 have mem:∀x,x∈(xs.take (below t.place j)++(k,b)::xs.drop (below t.place j))↔x=(k,b)\/x∈xs:=fun x=>yf _ _ _ _;have is':∀x∈(xs.take (below t.place j)++(k,b)::xs.drop (below t.place j)),κ.is s.heap x.1 x.2:=fun x Iz=>by rcases(mem x).mp Iz with e|e;rw[e];exact hx;exact S.each x e
 have pth:Paths (t.put j).1 (fun i=>(((xs.take (below t.place j)++(k,b)::xs.drop (below t.place j)).map (entry κ)).toArray[i]?.map (·.1)).getD 0) (xs.length+1):=by refine JM S.good hj he hf1 S.Iw (h:=κ.hash k) (fun i hi=>?_) hp;rw[<- ent,p1,qP _ _ _ (by simp;exact p2)];by_cases c1:i<below t.place j;rw[aU3 c1,aU3 c1];rw[aU4 c1,aU4 c1];by_cases c2:i=below t.place j;rw[aU3 c2,aU3 c2];rfl;rw[aU4 c2,aU4 c2]
 obtain⟨sb,O5,is2,S2⟩:=iC.store (s:={s with toks:=s.toks+κ.draws k}) S' (t':=(t.put j).1) (by rw[len];exact g1) (by rw[len];exact pth) hld sW nd is';refine aq (Lz S.obj S.data ?_ (by rw[d7,bL,len,gC];lia));have B8:∀h' o' AI t' ys,jh a s.heap h'->iC κ h' a led ys o' AI t'->(∀x,x∈ys↔x∈(xs.take (below t.place j)++(k,b)::xs.drop (below t.place j)))->ys.length=xs.length+1->Q true {s with heap:=h',toks:=s.toks+κ.draws k}:=
  fun h' o' AI t' ys q1 q2 q3 q4=>h true h' o' AI t' ys q1 q2 (fun x Iz=>((mem x).mp ((q3 x).mp Iz)).symm) (fun x Iz=>(q3 x).mpr ((mem x).mpr (.inr Iz))) (aX.mpr ⟨(k,b),(q3 _).mpr ((mem _).mpr (.inl rfl)),rfl⟩) (by lia)
 have tf:(t.put j).1.tooFull=decide ((xs.length+1)*5 ≥ t.mask*3):=by unfold SetTable.tooFull SetTable.fill;rw[g1.dum,g1.size,p3];simp
 rw[tf];simp only[FT,Ar];by_cases full:(xs.length+1)*5 ≥ t.mask*3;rw[aU3 (aU5 full)];have jJ:=S.jJ;have hM:∃M,Ll M/\sizeAbove (SetTable.grown ((xs.map (entry κ)).toArray.size+1))=M+1/\(xs.length+1)*5<M*3:=by
  have eg:SetTable.grown ((xs.map (entry κ)).toArray.size+1)=(xs.length+1)*4:=by unfold SetTable.grown;rw[d7,bL,aU4 (by lia)]
  rw[eg];rcases S.good.msk with e|e|e;rw[e]at full jJ;exact⟨31,.inr (.inl rfl),qX (.inl ⟨rfl,by lia,by lia⟩),by lia⟩;rw[e]at full jJ;exact⟨127,.inr (.inr rfl),qX (.inr ⟨rfl,by lia,by lia⟩),by lia⟩;rw[e]at full;lia
 refine bK hM fun M hM1 hM2 hM3=>?_;clear hM;refine aq (O6 (κ:=κ) (M:=M) (led:=led) (s:={s with heap:=_,toks:=_}) O5 S.mw rfl (by rw[len];exact g1) hld sW nd is2 hM1 hM2 (by rw[len];exact hM3) fun h' o' AI t' ys q1 q2 q3 q4=>?_);exact aG (B8 h' o' AI t' ys (sb.trans q1) q2 q3 (q4.trans len));rw[aU4 (by simp;lia)];refine aG (B8 _ _ _ _ _ sb (S2 (by rw[len,p3];lia)) (fun x=>Iff.rfl) len)
end
section
variable {prog:cP}{w:bF}{K:Type}[DecidableEq K]{κ:nX prog w K}
variable {A:bP}{R:Result->ay->Prop}{s:ay}{a b:av}{led:Bool}{xs:List (K×av)}{o:Obj}{ep:Nat}{t:gD}
def iC.keep{h':aN}(S:iC κ h a led xs o ep t)(e:∀b o,h.get? b=some o->(b=a\/o.cls = .type "tuple")->h'.get? b=some o):iC κ h' a led xs o ep t:=
 ⟨e _ _ S.obj (.inl rfl),S.mw,S.data,S.good,S.Iw,S.JR,S.plain,S.jJ,S.keys,fun x hx=>κ.mono (S.each x hx) fun b o q c=>e b o q (.inr c)⟩
def RY{ys:List (K×av)}(hh:A.handled=none)(O7:κ.room A.in1)(hSI:S≠I)(hSl:S≠l)(hlI:l≠I)(hn:ys.length<=50) :
  ∀(r i:Nat) (s:ay) (xs:List (K×av)) (o:Obj) (ep:Nat) (t:gD),i+r=ys.length->s.heap.IsListIter I l i->s.heap.IsList l (ys.map fun y=>f7 y.2).toArray->iC κ s.heap S led xs o ep t->
   (∀y∈ys,κ.is s.heap y.1 y.2)->(∀x∈xs,x∈ys)->(∀j y,j<i->ys[j]?=some y->y.1∈xs.map (·.1))->xs.length<=i->
   (∀h' tk o' AI t' zs,(∀b ob,b≠S->b≠I->s.heap.get? b=some ob->h'.get? b=some ob)->iC κ h' S led zs o' AI t'->(∀x∈zs,x∈ys)->(∀y∈ys,y.1∈zs.map (·.1))->R (.ok (.ret .none)) {s with heap:=h',toks:=tk})->
   codeAny (aF prog w) A (.builtin "set.update.loop" ⟨[.ref S,.ref I],[]⟩) R s:=by
 intro r;induction r with
 | zero=>intro i s xs o ep t hi hit hl hS hk hx hd hz hR;refine kO MY ?_;rw[qj G5 _];refine aq (m:=pyNext (.ref I)) (Vh hh hit hl (by simp;lia) fun h' he=>?_);refine aG (hR h' s.toks o ep t xs (fun b ob _ h2 e=>he b ob h2 e) (hS.keep fun b ob e c=>he b ob ?_ e) hx fun y hy=>?_);rintro rfl;rcases c with c|c;exact hSI c.symm;refine bK hit fun oi h1 h2 _=>?_;clear hit;obtain rfl:=dN (e.symm.trans h1);rw[h2]at c;exact aV5 c (by decide);obtain⟨j,hj,ej⟩:=jP.mp hy;exact hd j y (by lia) (by rw[c7 hj,ej])
 | succ r ih=>
  intro i s xs o ep t hi hit hl hS hk hx hd hz hR;have hil:i<ys.length:=by lia
  refine kO MY ?_;rw[qj G5 _];refine aq (m:=pyNext (.ref I)) (Vg hit hl (x:=.ref (ys[i]).2) (by simp[hil]) fun h1 RZ RN=>?_);have tupI:∀b ob,s.heap.get? b=some ob->ob.cls = .type "tuple" ->b≠I:=fun b ob e c z=>by subst z;refine bK hit fun oi q1 q2 _=>?_;clear hit;obtain rfl:=dN (e.symm.trans q1);rw[q2]at c;exact aV5 c (by decide)
  have VH:∀b ob,s.heap.get? b=some ob->(b=S\/ob.cls = .type "tuple")->h1.get? b=some ob:=fun b ob e c=>by rw[RN.2 b ?_];exact e;rcases c with c|c;rw[c];exact hSI;exact tupI b ob e c
  have S1:iC κ ({s with heap:=h1}:ay).heap S led xs o ep t:=hS.keep VH;have hk1:∀y∈ys,κ.is h1 y.1 y.2:=fun y hy=>κ.mono (hk y hy) fun b ob e c=>VH b ob e (.inr c);have hm:ys[i]∈ys:=jQ hil;dsimp only;refine aq (jg (Xh S1 O7 (hk1 _ hm) (by lia) fun c h2 o2 ep2 t2 zs QV S2 m1 m2 m3 m4=>?_));refine aG ⟨EU G5 _,?_⟩;have tupS:∀b ob,h1.get? b=some ob->ob.cls = .type "tuple" ->b≠S:=fun b ob e c z=>by subst z;obtain rfl:=dN (e.symm.trans S1.obj);rw[S1.mw.1]at c;exact aV5 c (by decide)
  refine ih (i+1) _ zs o2 ep2 t2 (by lia) (RZ.at fun ob e=>by rw[QV.2 _ (fm hSI)];exact e) ?_ S2 (fun y hy=>κ.mono (hk1 y hy) fun b ob e c=>by rw[QV.2 b (tupS b ob e c)];exact e)
   (fun x qO=>?_) (fun j y hj hy=>?_) (by lia) fun h' tk o' AI t' ws q1 q2 q3 q4=>?_
  refine hl.at fun ob e=>?_;show h2.get? l=_;rw[QV.2 _ (fm hSl),RN.2 _ hlI];exact e;rcases m1 x qO with e|e;exact hx x e;rw[e];exact hm;by_cases c:j<i;refine aL (aX.mp (hd j y c hy)) fun x hx1 Iz=>?_;exact aX.mpr ⟨x,m2 x hx1,Iz⟩;have:j=i:=by lia
  subst this;rw[c7 hil]at hy;obtain rfl:=dN hy;exact m3;refine hR h' tk o' AI t' ws (fun b ob h1' zb e=>q1 b ob h1' zb ?_) q2 q3 q4;show h2.get? b=_;rw[QV.2 b h1',RN.2 b zb];exact e
end
section
variable {w:bF}{K:Type}[DecidableEq K]{κ:nX prog w K}
variable {A:bP}{s:ay}
def iy(w:bF):Bool:=!(w.params.followText "set-order")
def iN(w:bF):Obj:={cls:=.type "set",dict:=none,data:=.set #[] 0 (.fresh 0 0 (iy w))}
def GQ(w:bF):Good (SetTable.fresh 0 0 (iy w)) 0:=⟨rfl,fun i j _ h=>aV5 h (iE _),fun i h=>aV5 h (iE _),rfl,.inl rfl,(by show 0<7;decide)⟩
def GR{h:aN}(e:h.get? a=some (iN w)):iC κ h a (iy w) [] (iN w) 0 (.fresh 0 0 (iy w)):=
 ⟨e,⟨rfl,rfl,rfl⟩,rfl,GQ w,fun i h=>aV5 h (iE _),rfl,rfl,(by show 0*5<7*3;decide),Fq,fun x h=>aV5 h (by simp)⟩
def O8(v:au){Q₁:au->ay->Prop}(h:Q₁ (.ref s.heap.objs.size) {s with heap:=s.heap.push (iN w)}) :
  codeAny (aF prog w) A (.call (.builtin "set.__new__") ⟨[.type "set",v],[]⟩) (wants Q₁ E) s:=by
 refine codeAny_of_tree ?_;show aC _ A.in1 (checkBuiltinCall "set.__new__" ⟨[.type "set",v],[]⟩>>=fun _=>again (.builtin "set.__new__" ⟨[.type "set",v],[]⟩)) _ _ s;refine aq (vg (F.newCall_set_1 v) (aG ⟨EU MN _,kO F.entry_set_new ?_⟩));rw[qj MN _];unfold Builtin.«set.__new__» Builtin.Frozenset.newClass;have own:=sub_set_self;obtain ⟨hp,g,d,tk,os⟩:=s;dsimp only
 wp_walk
 refine EV (aG ?_);dsimp only;simp only[newObj];exact aq (wpAny_alloc (aG (aG h)))
def O9{ys:List (K×av)}{Q:au->ay->Prop}(hh:A.handled=none)(O7:κ.room A.in1.in1.in1)(hl:s.heap.IsList l (ys.map fun y=>f7 y.2).toArray)(hn:ys.length<=50)(hk:∀y∈ys,κ.is s.heap y.1 y.2)
  (h:∀h' tk o ep t zs,(∀b ob,s.heap.get? b=some ob->h'.get? b=some ob)->iC κ h' s.heap.objs.size (iy w) zs o ep t->(∀x∈zs,x∈ys)->(∀y∈ys,y.1∈zs.map (·.1))->Q (.ref s.heap.objs.size) {s with heap:=h',toks:=tk}) :
  aC (aF prog w) A (call (.type "set") [.ref l]) Q E s:=by
 refine pJ nI.mro fun c tl aT3=>?_;have made:=nI.made;have sub:=nI.sub;have n1:=nI.notType;have n2:=nI.canCreate;have ct:=F.typeCall_set_1 (.ref l);refine ES (codeAny_of_tree ?_);show aC _ _ (callAny (.type "set") _) _ _ _;refine aG ⟨vF _ (by decide +kernel),kO F.entry_type_call ?_⟩;rw[Around.under_plain (weight_type_call_type "set" [.ref l] []) rfl];repeat any_goals first|assumption|wp_step
 refine rY (O8 (.ref l) (E:=E) (Q₁:=fun obj dg=>obj = .ref s.heap.objs.size/\dg={s with heap:=s.heap.push (iN w)}) ⟨rfl,rfl⟩) fun r dg hr=>?_;cases r with
 | error e=>exact hr
 | ok fl=>
  cases fl with
  | ret obj=>
   obtain⟨rfl,rfl⟩:=hr;have got:(s.heap.push (iN w)).get? s.heap.objs.size=some (iN w):=fJ _ rfl;have ty:Shared.TypeIs {s with heap:=s.heap.push (iN w)} (.ref s.heap.objs.size) "set":=⟨_,got,rfl⟩
   have li:=nI.init.lookup;have bi:=nI.init.bind (.ref s.heap.objs.size);repeat any_goals first|assumption|wp_step
   refine rY (codeAny_call_builtin (R:=wants (fun r Rl=>r = .none/\∃h' tk o ep t zs,Rl={s with heap:=h',toks:=tk}/\(∀b ob,s.heap.get? b=some ob->h'.get? b=some ob)/\iC κ h' s.heap.objs.size (iy w) zs o ep t/\(∀x∈zs,x∈ys)/\(∀y∈ys,y.1∈zs.map (·.1))) E)
    nI.init.plain F.entry_set_init (check_set_init_1 ty ?_)) fun aL7 Rl Oa=>?_
   ·obtain⟨ol,hol,z8,nl,hdl⟩:=hl;obtain⟨aT4,an9,aR6,Xi⟩:=ol;simp only at z8 hdl;subst z8;subst hdl;have aL8:(s.heap.push (iN w)).get? l=some {cls:=.type "list",dict:=an9,data:=.seq (ys.map fun y=>f7 y.2).toArray nl,slots:=Xi}:=bV _ hol;have s1:=F.sub_list_set;have s2:=F.sub_list_frozenset;have s3:(l8 "list"==l8 "dict")=false:=by decide
    have Ln:(s.heap.push (iN w)).IsList l (ys.map fun y=>f7 y.2).toArray:=⟨_,aL8,rfl,nl,rfl⟩
    have aT5:(s.heap.push (iN w)).get? s.heap.objs.size=some { cls:=.type "set",dict:=none,data:=.set #[] 0 (.fresh 0 0 (iy w)) }:=got;unfold Builtin.«set.__init__» noKeywords Builtin.Frozenset.updateFrom;generalize hPI:pyIter=PI
    wp_walk
    subst hPI;refine Ck Ln ?_;refine aq (wpAny_runValue ?_);have lt:l<s.heap.objs.size:=bQ hol;have sz:(s.heap.push (iN w)).objs.size=s.heap.objs.size+1:=by rw[qF]
    have d1:s.heap.objs.size≠(s.heap.push (iN w)).objs.size:=by rw[sz];exact cu (mS _)
    have d2:s.heap.objs.size≠l:=HX lt;have d3:l≠(s.heap.push (iN w)).objs.size:=by rw[sz];exact cu (ny lt)
    refine RY (κ:=κ) (led:=iy w) (ys:=ys) (by simp[hh]) O7 d1 d2 d3 hn ys.length 0 _ [] (iN w) 0 (.fresh 0 0 (iy w)) (by lia)
     ?h1 ?h2 ?h3 ?hk (fun x hx=>aV5 hx (by simp)) (fun j y hj=>aV5 hj (iE _)) (b9 _) fun h' tk o ep t zs q1 q2 q3 q4=>?_
    case h1=>exact⟨_,fJ _ rfl,rfl,rfl⟩
    case h2=>exact Ln.push _
    case h3=>exact GR (bV _ got)
    case hk=>exact fun y hy=>κ.mono (hk y hy) fun b ob e _=>bV _ (bV _ e)
    refine aG (aG ⟨rfl,h',tk,o,ep,t,zs,rfl,fun b ob e=>?_,q2,q3,q4⟩);have lb:=bQ e;exact q1 b ob (cu lb) (by rw[sz];exact cu (ny lb)) (bV _ (bV _ e))
   cases aL7 with
   | error e=>exact Oa
   | ok ao0=>
    cases ao0 with
    | ret r=>
     obtain⟨rfl,h',tk,o,ep,t,zs,rfl,q1,q2,q3,q4⟩:=Oa;repeat any_goals first|assumption|wp_step
     exact h h' tk o ep t zs q1 q2 q3 q4
    | _=>exact Oa.elim
  | _=>exact hr.elim
end
def i8:Slot "set_iterator" "__next__" "set_iterator.__next__" :=
 .of (owner:="set_iterator") (n:="__next__") (by rw[EW,EX];kernel_rfl) (by decide +kernel)
  (by decide +kernel) (by decide +kernel) (by first|exact .inl (by decide +kernel)|exact .inr (by decide +kernel))
  (by rw[isSubtype_type];kernel_rfl)
def nY:entryFor table "set_iterator.__next__" =some Builtin.«set_iterator.__next__»:=EY (by kernel_rfl)
def pU(a:au):argsOk "set_iterator.__next__" ⟨[a],[]⟩:=by unfold argsOk;kernel_rfl
def wj:entryFor table "set.__iter__" =some Builtin.«frozenset.__iter__» :=
 entryFor_alias (id':="frozenset.__iter__") (by kernel_rfl) rfl (by decide +kernel) (by kernel_rfl)
theorem IA(next:Nat->Nat):∀(fuel k:Nat) (left:List α) (out:Array α),fuel=left.length->(pickOrder.go next fuel k left out).toList.Perm (out.toList++left)
 | 0,k,left,out,h=>by
  have:left=[]:=M5.mp h.symm;subst this;unfold pickOrder.go;simp
 | fuel+1,k,left,out,h=>by
  unfold pickOrder.go;have gh:next k % left.length<left.length:=q9 _ (by lia)
  rw[c7 gh];dsimp only;refine(IA next fuel (k+1) _ _ (by rw[List.length_eraseIdx_of_lt gh];lia)).trans ?_;rw[Array.toList_push,vq];refine List.Perm.append_left _ ?_;have e1:left=left.take (next k % left.length)++left[next k % left.length]::left.drop (next k % left.length+1):=by rw[<- Ft gh,Fl]
  have e2:left.eraseIdx (next k % left.length)=left.take (next k % left.length)++left.drop (next k % left.length+1):=M6 _ _;rw[e2];refine List.Perm.trans ?_ (List.Perm.of_eq e1.symm);rw[List.singleton_append];exact M4.symm
def zg(next:Nat->Nat)(xs:Array α):(pickOrder next xs).toList.Perm xs.toList:=by
 have:=IA next xs.size 0 xs.toList #[] (by simp)
 simpa[pickOrder]using this
section
variable {prog:cP}{w:bF}{K:Type}[DecidableEq K]{κ:nX prog w K}
variable {A:bP}{E:au->ay->Prop}{s:ay}{a:av}{xs:List (K×av)}{o:Obj}{ep:Nat}{t:gD}
def iX(w:bF)(a:av)(ep:Nat)(es:Array (Int×au)):Array (Int×au):=if w.params.followText "set-order"then pickOrder (w.params.setOrder a ep) es else es
def t9(w:bF)(a:av)(ep:Nat)(es:Array (Int×au)):(iX w a ep es).toList.Perm es.toList:=by
 unfold iX;split;exact zg _ _;exact .refl _
def slotAt(w:bF)(t:gD)(m:Nat):Nat:=if w.params.followText "set-order"then 0 else if m=0 then 0 else t.place.getD (m-1) 0+1
def zh(h:aN)(I a:av)(n ep slot m:Nat):Prop:=∃ob,h.get? I=some ob/\ob.cls = .type "set_iterator" /\ob.data = .fields #[rawInt slot,rawInt m,.ref a,rawInt n,rawInt ep]
def zh.typeIs{n ep slot m:Nat}(x:zh s.heap I a n ep slot m):s.TypeIs (.ref I) "set_iterator":=let⟨ob,h1,h2,_⟩:=x;⟨ob,h1,h2⟩
def tu{Q:Bool->ay->Prop}(h:Q (w.params.followText "set-order") s):aC (aF prog w) A setsByText Q E s:=by
 unfold setsByText;exact aq (EV (aG h))
def IB{Q:Option (au×Nat)->ay->Prop}(S:iC κ s.heap a (iy w) xs o ep t)(hm:m<=xs.length)
  (h1:∀e,(iX w a ep (xs.map (entry κ)).toArray)[m]?=some e->Q (some (e.2,slotAt w t (m+1))) s) (h2:m=xs.length->Q none s) :
  aC (aF prog w) A (setNext a (slotAt w t m) m ep) Q E s:=by
 unfold setNext;refine aq (iM S ?_);dsimp only;refine aq (tu ?_);by_cases hb:w.params.followText "set-order"=true;rw[aU3 hb];simp only[aV6,cJ,aV1];unfold setWalk;refine aq (aq (iM S ?_));dsimp only;refine aq (tu ?_);rw[aU3 hb];refine aq (EV (aG ?_));have ew:iX w a ep (xs.map (entry κ)).toArray=pickOrder (w.params.setOrder a ep) (xs.map (entry κ)).toArray:=by unfold iX;rw[aU3 hb]
 have es:∀q,slotAt w t q=0:=fun q=>by unfold slotAt;rw[aU3 hb]
 have sz:(pickOrder (w.params.setOrder a ep) (xs.map (entry κ)).toArray).size=xs.length:=by rw[<- fK,(zg _ _).length_eq];simp
 refine aG ?_;show Q ((pickOrder (w.params.setOrder a ep) (xs.map (entry κ)).toArray)[m]?.map fun e=>(e.2,slotAt w t m)) s;cases q:(pickOrder (w.params.setOrder a ep) (xs.map (entry κ)).toArray)[m]? with
 | none=>have:=MB.mp q;exact h2 (by lia)
 | some e=>have:=h1 e (by rw[ew];exact q);rw[es]at this ⊢;exact this
 rw[aU4 hb];have ew:iX w a ep (xs.map (entry κ)).toArray=(xs.map (entry κ)).toArray:=by unfold iX;rw[aU4 hb]
 have ld:t.led=true:=by rw[S.JR];unfold iy;rw[qi.mpr hb];rfl
 have bl:below t.place (slotAt w t m)=m:=by unfold slotAt;rw[aU4 hb];by_cases c:m=0;rw[aU3 c,c];refine qH (mh S.good.rise 0) fun b1 b2 b3=>?_;rcases Nat.eq_zero_or_pos (below t.place 0)with z|z;exact z;exact aV5 (b2 0 z) (iE _);rw[aU4 c];refine qH (mh S.good.rise (t.place.getD (m-1) 0+1)) fun b1 b2 b3=>?_;rw[S.good.size]at b1 b3;rcases sD (below t.place (t.place.getD (m-1) 0+1)) m with z|z|z;have:=b3 (m-1) (by lia) (by lia);lia;exact z;have q1:=b2 m z;have q2:=S.good.rise (m-1) m (by lia) (by rw[S.good.size];lia);lia
 refine wpAny_ite ?_;split;rename_i hd;exfalso;have:(!t.plain&&decide ((xs.map (entry κ)).toArray.size > 1))=true:=hd;rw[S.plain]at this;cases this;refine aq (vg (a:=()) ?_ ?_);show(if(!t.led && !((xs.map (entry κ)).toArray).isEmpty)=true then(unsupported "set:maker-not-led" : Sem Unit)else pure ())=pure ();rw[ld];rfl;refine aG ?_;show Q (match((xs.map (entry κ)).toArray)[below t.place (slotAt w t m)]?,t.place[below t.place (slotAt w t m)]? with
  | some (_,x),some j=>some (x,j+1)
  | _,_=>none) s
 rw[bl];by_cases c:m<xs.length;have e1:((xs.map (entry κ)).toArray)[m]?=some (entry κ xs[m]):=by rw[jH,c7 c];rfl
 have hs:m<t.place.size:=by rw[S.good.size];exact c
 have e2:t.place[m]?=some (t.place.getD m 0):=by simp[Array.getD,hs]
 rw[e1,e2];have:=h1 (entry κ xs[m]) (by rw[ew];exact e1);unfold slotAt at this;rw[aU4 hb,aU4 (by lia),LQ]at this;exact this;have em:m=xs.length:=by lia
 have e1:((xs.map (entry κ)).toArray)[m]?=none:=by rw[jH,nD (by lia)];rfl
 rw[e1];exact h2 em
end
section
variable {prog:cP}{w:bF}{K:Type}[DecidableEq K]{κ:nX prog w K}
variable {A:bP}{E:au->ay->Prop}{s:ay}{a I:av}{xs:List (K×av)}{o:Obj}{ep:Nat}{t:gD}
def qq{Q:Array (Int×au)->ay->Prop}{led:Bool}(S:iC κ s.heap a led xs o ep t)(h:Q (xs.map (entry κ)).toArray s):aC (aF prog w) A (setEntries a) Q E s:=by
 unfold setEntries;exact aq (iM S (aG h))
def S4{Q:au->ay->Prop}(S:iC κ s.heap a (iy w) xs o ep t)(hn:xs.length<=50)
  (h:Q (.ref s.heap.objs.size) {s with heap:=s.heap.push {cls:=.type "set_iterator",data:=.fields #[rawInt (slotAt w t 0),rawInt ((0:Nat):Int),.ref a,rawInt xs.length,rawInt ep]}}):aC (aF prog w) A (pyIter (.ref a)) Q E s:=by
 have ty:s.TypeIs (.ref a) "set":=⟨o,S.obj,S.mw.1⟩
 refine LA ty MO (jM MO ty wj ?_ (F.args_set_iter_1 _));unfold Builtin.«frozenset.__iter__» Builtin.Frozenset.slot0 slotArgs;simp only[Fv,j3,cJ,aV1,bind_assoc,Ah,aV6];unfold Builtin.Frozenset.addrOf Builtin.Frozenset.sizeOf;refine aq (aG ?_);try dsimp only
 refine aq (aG ?_);refine aq (aq (qq S (aG ?_)));refine aq ?_;unfold setDrawn;refine aq (iM S ?_);dsimp only;refine aq (tu (aG ?_));rw[aU4 (by
  intro z;have z:(!(w.params.followText "set-order")&&(!t.plain&&decide ((xs.map (entry κ)).toArray.size > 1)))=true:=z;rw[S.plain]at z;simp at z)]
 refine aq (aG ?_);have z0:slotAt w t 0=0:=by unfold slotAt;split <;> rfl
 rw[z0]at h;refine aq ?_;unfold setEpoch;refine aq (iM S (aG ?_));dsimp only;unfold newFields;refine aq (qC (aG ⟨_,rfl,"set_iterator",_,⟨_,fJ _ rfl,rfl⟩,i8.lookup,?_⟩));simpa using h
def Ob{Q:Option au->ay->Prop}(S:iC κ s.heap a (iy w) xs o ep t)(hit:zh s.heap I a xs.length ep (slotAt w t m) m)(he:(iX w a ep (xs.map (entry κ)).toArray)[m]?=some e)
  (hm:m<xs.length) (hQ:∀h',zh h' I a xs.length ep (slotAt w t (m+1)) (m+1)->jh I s.heap h'->Q (some e.2) {s with heap:=h'}):aC (aF prog w) A (pyNext (.ref I)) Q E s:=by
 refine bK (id hit) fun ob ho hc hd=>?_;unfold pyNext;refine aq (s8 (sd (name:=sP "__next__") hit.typeIs i8 (jM i8 hit.typeIs nY ?_ (pU _))));unfold Builtin.«set_iterator.__next__» slotArgs;simp only[Fv,j3,cJ,aV1,bind_assoc,Ah,aV6];refine aq (aG ?_);dsimp only;refine aq (A0 ho hd ?_);dsimp only[rawInt];refine aq (qq S ?_);rw[aU4 (by simp)];simp only[qk];refine aq (IB S (pR hm) (fun e' O1=>?_) (fun z=>aV5 z (cu hm)));obtain rfl:e=e':=dN (he.symm.trans O1);dsimp only;refine aq (rZ ho hd (by simp) ?_);have d1:=sO hd (·.setIfInBounds 0 (rawInt (slotAt w t (m+1):Nat)));have g1:=nt (Obj.mapFields (·.setIfInBounds 0 (rawInt (slotAt w t (m+1):Nat)))) ho (Au d1);refine aq (rZ g1 d1 (by simp) ?_);have d2:=sO d1 (·.setIfInBounds 1 (rawInt ((m:Int)+1)));have g2:=nt (Obj.mapFields (·.setIfInBounds 1 (rawInt ((m:Int)+1)))) g1 (Au d2);refine aG ⟨_,rfl,aG (hQ _ ⟨_,g2,?_,?_⟩ ((jt ..).trans (jt ..)))⟩;rw[FU,FU];exact hc;rw[d2];simp[rawInt]
def S5{Q:Option au->ay->Prop}(hh:A.handled=none)(S:iC κ s.heap a (iy w) xs o ep t)(hit:zh s.heap I a xs.length ep (slotAt w t xs.length) xs.length)
  (hQ:∀h',Heap.ExtBut I s.heap h'->Q none {s with heap:=h'}):aC (aF prog w) A (pyNext (.ref I)) Q E s:=by
 refine bK (id hit) fun ob ho hc hd=>?_;unfold pyNext;refine aq (s8 (sd (name:=sP "__next__") hit.typeIs i8 (jM i8 hit.typeIs nY ?_ (pU _))));unfold Builtin.«set_iterator.__next__» slotArgs;simp only[Fv,j3,cJ,aV1,bind_assoc,Ah,aV6];refine aq (aG ?_);dsimp only;refine aq (A0 ho hd ?_);dsimp only[rawInt];refine aq (qq S ?_);rw[aU4 (by simp)];simp only[qk];have sz:(iX w a ep (xs.map (entry κ)).toArray).size=xs.length:=by rw[<- fK,(t9 _ _ _ _).length_eq];simp
 refine aq (IB S (b9 _) (fun e' O1=>?_) (fun z=>?_));rw[An (by lia)]at O1;cases O1;dsimp only;refine aq (rZ ho hd (by simp) ?_);refine aq ?_;simp only[newExc,newTuple];refine aq (qC ?_ (by size_fits));refine aq (m:=A7 _ _) (vg (a:=gR) (by first|rfl|(simp only[A7];rfl)) ?_);refine qC ?_ (by size_fits);simp only[raiseNew];refine aq (wpAny_handled ?_);have hh1:A.in1.handled=none:=hh;rw[hh1];refine aq (aG (wpAny_throw ?_));refine aq (sf (T:="StopIteration") (b:=true) ⟨_,fJ _ rfl,rfl⟩ EZ ?_);exact aG (hQ _ (((jt ..).extBut.push _).push _))
def JU(hh:A.handled=none)(hLI:L≠I)(hLa:L≠a)(hIa:a≠I)(hn:xs.length<=50) :
  ∀(r m:Nat) (s:ay),m+r=xs.length->iC κ s.heap a (iy w) xs o ep t->zh s.heap I a xs.length ep (slotAt w t m) m->
   (∃n,s.heap.get? L=some (dR "list" (((iX w a ep (xs.map (entry κ)).toArray).toList.take m).map (·.2)).toArray n))->
   (∀h' n,(∀b ob,b≠L->b≠I->s.heap.get? b=some ob->h'.get? b=some ob)->h'.get? L=some (dR "list" ((iX w a ep (xs.map (entry κ)).toArray).toList.map (·.2)).toArray n)->R (.ok (.ret res)) {s with heap:=h'})->
   codeAny (aF prog w) A (.builtin "list.extend.loop" ⟨[.ref L,.ref I,res],[]⟩) R s:=by
 have sz:(iX w a ep (xs.map (entry κ)).toArray).size=xs.length:=by rw[<- fK,(t9 _ _ _ _).length_eq];simp
 have jY:entryFor table "list.extend.loop" =some Builtin.«list.extend.loop»:=EY (by kernel_rfl);have j5:plainId "list.extend.loop" =true:=by decide +kernel
 intro r;induction r with
 | zero=>
  intro m s hm S hit ⟨n,hL⟩ hR;have em:m=xs.length:=by lia
  subst em;refine kO jY ?_;rw[qj j5 _];refine aq (m:=pyNext (.ref I)) (S5 hh S hit fun h' he=>?_);refine aG (hR h' n (fun b ob _ h2 e=>he b ob h2 e) ?_);have:=he L _ hLI hL;rw[qf (by rw[fK];lia)]at this;exact this
 | succ r ih=>
  intro m s hm S hit ⟨n,hL⟩ hR;have hml:m<xs.length:=by lia
  have ao3:m<(iX w a ep (xs.map (entry κ)).toArray).size:=by lia
  refine kO jY ?_;rw[qj j5 _];refine aq (m:=pyNext (.ref I)) (Ob S hit (MC ao3) hml fun h1 RZ RN=>?_);have hL1:h1.get? L=some (dR "list" (((iX w a ep (xs.map (entry κ)).toArray).toList.take m).map (·.2)).toArray n):=by rw[RN.2 L hLI];exact hL
  refine aq (FO hL1 rfl ?_ (by simp;rw[gC];lia) (by simp;rw[gC];lia));refine aG ⟨EU j5 _,?_⟩;have QV:=jt h1 L (fq fun x=>x.push ((iX w a ep (xs.map (entry κ)).toArray)[m]).2);have tup:∀b ob,s.heap.get? b=some ob->(b=a\/ob.cls = .type "tuple")->b≠I/\b≠L:=fun b ob e c=>by constructor;rintro rfl;rcases c with c|c;exact hIa c.symm;refine bK hit fun q q1 q2 _=>?_;clear hit;obtain rfl:=dN (e.symm.trans q1);rw[q2]at c;exact aV5 c (by decide);rintro rfl;rcases c with c|c;exact hLa c;obtain rfl:=dN (e.symm.trans hL);exact aV5 (show l8 "list"=l8 "tuple"from c) (by decide)
  refine ih (m+1) _ (by lia) (S.keep fun b ob e c=>?_) ?_ ?_ fun h' n' q1 q2=>?_;obtain⟨c1,c2⟩:=tup b ob e c;show(h1.update L _).get? b=_;rw[QV.2 b c2,RN.2 b c1];exact e;refine aL RZ fun q q1 q2=>?_;clear RZ;exact⟨q,(by show(h1.update L _).get? I=_;rw[QV.2 I (fm hLI)];exact q1),q2⟩;obtain⟨n',AJ⟩:∃n',(h1.update L (fq fun x=>x.push ((iX w a ep (xs.map (entry κ)).toArray)[m]).2)).get? L=some (dR "list" ((((iX w a ep (xs.map (entry κ)).toArray).toList.take m).map (·.2)).toArray.push ((iX w a ep (xs.map (entry κ)).toArray)[m]).2) n'):=⟨_,FP hL1 _⟩
  refine⟨n',AJ.trans ?_⟩;congr 2;rw[List.take_succ,c7 (by rw[fK];exact ao3)];simp;refine hR h' n' (fun b ob h1' zb e=>q1 b ob h1' zb ?_) q2;show(h1.update L _).get? b=_;rw[QV.2 b h1',RN.2 b zb];exact e
end
section
variable {prog:cP}{w:bF}{K:Type}[DecidableEq K]{κ:nX prog w K}
variable {A:bP}{E:au->ay->Prop}{s:ay}{a:av}{xs:List (K×av)}{o:Obj}{ep:Nat}{t:gD}
def S6{Q:Bool->ay->Prop}(hT:s.TypeIs (.ref a) "set")(h:∀c tk,Q c {s with toks:=tk}):aC (aF prog w) A (Builtin.List.listLengthHint (.ref a)) Q E s:=by
 unfold Builtin.List.listLengthHint;refine aq (sj hT F.slot_set_len.lookup ?_);have sp:splitId "set.__len__"=some ("set","__len__"):=by kernel_rfl
 dsimp only;rw[sp];dsimp only;refine aq (sf hT sub_set_self ?_);rw[j3,aU4 iW];rw[aU3 (by decide +kernel)];refine aq (vh hT ?_);exact aG (h false s.toks)
def CW{Q:List au->ay->Prop}(hh:A.handled=none)(S:iC κ s.heap a (iy w) xs o ep t)(hn:xs.length<=50)
  (h:∀h' tk vs,(∀b ob,s.heap.get? b=some ob->h'.get? b=some ob)->vs.Perm (xs.map fun x=>f7 x.2)->Q vs {s with heap:=h',toks:=tk}):aC (aF prog w) A (collect (.ref a)) Q E s:=by
 unfold collect;refine aq (wpAny_runValue (kO W9 ?_));refine aq (m:=newList []) (ET (aG ⟨vF _ (by decide +kernel),kO Wa ?_⟩));show aC _ _ (Builtin.List.listExtendWith (.ref s.heap.objs.size) (.ref a) (.ref s.heap.objs.size)) _ _ {s with heap:=s.heap.push (dR "list" #[] 0)};unfold Builtin.List.listExtendWith;have al:a<s.heap.objs.size:=bQ S.obj;have S1:iC κ ({s with heap:=s.heap.push (dR "list" #[] 0)}:ay).heap a (iy w) xs o ep t:=S.keep fun b ob e _=>bV _ e;have ty1:Shared.TypeIs {s with heap:=s.heap.push (dR "list" #[] 0)} (.ref a) "set":=⟨o,S1.obj,S1.mw.1⟩
 refine aq (vh ty1 ?_);have sr:Builtin.List.listSameRef (.ref s.heap.objs.size) (.ref a)=false:=by show(s.heap.objs.size==a)=false;exact aV0.mpr (HX al)
 rw[sr,aU4 (by decide)];refine aq (S4 S1 hn ?_);have sz1:(s.heap.push (dR "list" #[] 0)).objs.size=s.heap.objs.size+1:=by rw[qF]
 generalize hO:({cls:=.type "set_iterator",data:=.fields #[rawInt (slotAt w t 0),rawInt ((0:Nat):Int),.ref a,rawInt xs.length,rawInt ep]}:Obj)=ob;have hI:((s.heap.push (dR "list" #[] 0)).push ob).get? (s.heap.push (dR "list" #[] 0)).objs.size=some ob:=fJ _ (by rw[<- hO];rfl);have Xj:((s.heap.push (dR "list" #[] 0)).push ob).get? s.heap.objs.size=some (dR "list" #[] 0):=bV _ (fJ _ rfl);have S2:iC κ ((s.heap.push (dR "list" #[] 0)).push ob) a (iy w) xs o ep t:=S1.keep fun b ob e _=>bV _ e;refine aq (jg (S6 (s:={s with heap:=(s.heap.push (dR "list" #[] 0)).push ob}) ⟨o,S2.obj,S2.mw.1⟩ fun c tk=>?_));refine wpAny_ite ?_;split
 ·refine aq (yM ?_);unfold Builtin.List.listTouch;refine aq (aq (FO Xj rfl ?_ (by simp) (by simp)));obtain⟨n1,g1⟩:∃n1,(((s.heap.push (dR "list" #[] 0)).push ob).update s.heap.objs.size (fq (·.push .none))).get? s.heap.objs.size=some (dR "list" (#[].push .none) n1):=⟨_,FP Xj _⟩
  refine FO g1 rfl ?_ (by simp;rw[gC];decide) (by simp);obtain⟨n2,g2⟩:∃n2,((((s.heap.push (dR "list" #[] 0)).push ob).update s.heap.objs.size (fq (·.push .none))).update s.heap.objs.size (fq (·.pop))).get? s.heap.objs.size=some (dR "list" (#[].push .none).pop n2):=⟨_,FP g1 _⟩
  have sb:=(jt ((s.heap.push (dR "list" #[] 0)).push ob) s.heap.objs.size (fq (·.push .none))).trans (jt _ s.heap.objs.size (fq (·.pop)));generalize ((((s.heap.push (dR "list" #[] 0)).push ob).update s.heap.objs.size (fq (·.push .none))).update s.heap.objs.size (fq (·.pop)))=g at g2 sb ⊢;have ne1:s.heap.objs.size≠(s.heap.push (dR "list" #[] 0)).objs.size:=by rw[sz1];exact cu (mS _)
  have ne2:s.heap.objs.size≠a:=HX al;have ne3:a≠(s.heap.push (dR "list" #[] 0)).objs.size:=by rw[sz1];exact cu (ny al)
  refine aG ⟨vF _ (by decide +kernel),?_⟩;refine JU (κ:=κ) (a:=a) (xs:=xs) (o:=o) (ep:=ep) (t:=t) (by simp[hh]) ne1 ne2 ne3 hn xs.length 0 _ (by lia) ?h1 ?h2 ⟨n2,g2⟩ fun h' n' q1 q2=>?_;case h1=>refine S2.keep fun b Xk e c=>?_;show g.get? b=_;rw[sb.2 b ?_];exact e;rintro rfl;rcases c with c|c;exact ne2 c;obtain rfl:=dN (e.symm.trans Xj);exact aV5 (show l8 "list"=l8 "tuple"from c) (by decide)
  case h2=>exact⟨ob,(by show g.get? _=_;rw[sb.2 _ (fm ne1)];exact hI),by rw[<- hO],by rw[<- hO]⟩
  have pm:=(t9 w a ep (xs.map (entry κ)).toArray).map (·.2);have em:(xs.map (entry κ)).toArray.toList.map (·.2)=xs.map fun x=>f7 x.2:=by simp[entry]
  rw[em]at pm;show aC _ _ (load s.heap.objs.size>>=fun ob=>match ob.data with | .seq xs _=>pure xs.toList|_=>unsupported "internal:collect") _ _ _;refine aq (wpAny_load q2 ?_);refine aG (h h' tk _ (fun b Xk e=>q1 b Xk (cu (bQ e)) (by rw[sz1];exact cu (ny (bQ e))) ?_) (by simpa using pm));show g.get? b=_;rw[sb.2 b (cu (bQ e))];exact bV _ (bV _ e)
 rename_i hs;refine aV5 ?_ hs;rw[nG];exact .inr (by decide +kernel)
end
end Ts
end aL6
section aL9
namespace Dm
open PySem PyProof.Rows L2 PySem.SeqAt
def aI.tup{K:aD}{H H':Hp}{a:av}{xs:List V}(e:aI H H')(h:jA K H a xs):jA K H' a xs:=by
 rcases h with(h|⟨o,h⟩)|h;exact .inl (.inl (e _ _ h));exact .inl (.inr ⟨o,e _ _ h⟩);exact .inr h
def er(H:Hp)(A:List av):Hp:=fun a=>if a∈A then none else H a
def dP(h:a∈A):er H A a=none:=aU3 h
def aZ(h:a∉A):er H A a=H a:=aU4 h
def aJ(H:Hp)(A:List av):aI (er H A) H:=fun b o h=>by
 by_cases q:b∈A;rw[dP q]at h;cases h;rwa [aZ q]at h
def aK(e:aI H H'):aI (er H A) (er H' A):=fun b o h=>by
 by_cases q:b∈A;rw[dP q]at h;cases h;rw[aZ q]at h ⊢;exact e b o h
structure Cfg where
 ob:Nat->aD->Hp->av->List V->Prop
 mono:∀{t:Nat} {K:aD} {H H':Hp} {a:av} {vs:List V},aI H H'->ob t K H a vs->ob t K H' a vs
 own:aD->Hp->Hp->av->List V->Prop
 IC:∀{K:aD} {F F' H H':Hp} {a:av} {vs:List V},aI F F'->H' a=H a->own K F H a vs->own K F' H' a vs
 VI:∀{K:aD} {F G H:Hp} {a:av} {vs:List V},own K F H a vs->aI F G->G a=H a->ob 2 K G a vs
 ao5:∀{K:aD} {F H:Hp} {a:av} {vs:List V},own K F H a vs->∃φ,H a=some (.ext φ)
 gl:Hp->Prop
 glM:∀{H H':Hp},aI H H'->gl H->gl H'
structure GL where
 p:Hp->Prop
 m:∀{H H':Hp},aI H H'->p H->p H'
def VJ:GL:=⟨fun _=>True,fun _ h=>h⟩
def ao6:Cfg:=⟨fun _ _ _ _ _=>False,fun _ h=>h,fun _ _ _ _ _=>False,fun _ _ h=>h,fun h _ _=>h,fun h=>h.elim,fun _=>True,fun _ h=>h⟩
mutual
def Rep(K:aD)(C:Cfg):Hp->D->V->Prop
 | _,.cH,v=>v = .cH
 | _,.bl b,v=>v = .bl b
 | _,.int i,v=>v = .int i
 | _,.str x,v=>v = .str x
 | H,.tup ds,v=>∃a xs,v = .ref a/\jA K H a xs/\aH K C H ds xs
 | H,.lst ds,v=>∃a xs,v = .ref a/\ja K H a xs/\aH K C (er H [a]) ds xs
 | H,.dH t ds,v=>∃a xs,v = .ref a/\C.ob t K H a xs/\aH K C H ds xs
def aH(K:aD)(C:Cfg):Hp->List D->List V->Prop
 | _,[],vs=>vs=[]
 | H,d::ds,vs=>∃v r,vs=v::r/\Rep K C H d v/\aH K C H ds r
end
section
variable {K:aD}{C:Cfg}
mutual
theorem Rep.same:∀{H H':Hp} (e:aI H H') (d:D) {v:V},Rep K C H d v->Rep K C H' d v
 | _,_,e,.cH,v,q=>by rw[Rep]at q ⊢;exact q
 | _,_,e,.bl b,v,q=>by rw[Rep]at q ⊢;exact q
 | _,_,e,.int i,v,q=>by rw[Rep]at q ⊢;exact q
 | _,_,e,.str x,v,q=>by rw[Rep]at q ⊢;exact q
 | _,_,e,.tup ds,v,q=>by
  rw[Rep]at q ⊢;refine b7 q fun a xs h1 h2 h3=>?_;clear q;exact⟨a,xs,h1,aI.tup e h2,aH.same e ds h3⟩
 | _,_,e,.lst ds,v,q=>by
  rw[Rep]at q ⊢;refine b7 q fun a xs h1 h2 h3=>?_;clear q;exact⟨a,xs,h1,e.seq h2,aH.same (aK e) ds h3⟩
 | _,_,e,.dH t ds,v,q=>by
  rw[Rep]at q ⊢;refine b7 q fun a xs h1 h2 h3=>?_;clear q;exact⟨a,xs,h1,C.mono e h2,aH.same e ds h3⟩
theorem aH.same:∀{H H':Hp} (e:aI H H') (ds:List D) {vs:List V},aH K C H ds vs->aH K C H' ds vs
 | _,_,e,[],_,q=>by rw[aH]at q ⊢;exact q
 | _,_,e,d::ds,_,q=>by
  rw[aH]at q ⊢;refine b7 q fun v r e1 a b=>?_;clear q;exact⟨v,r,e1,Rep.same e d a,aH.same e ds b⟩
end
variable {H:Hp}
def Rep.items(q:Rep K C H (.lst ds) v):∃a xs,v = .ref a/\ja K H a xs/\aH K C H ds xs:=by
 rw[Rep]at q;refine b7 q fun a xs h1 h2 h3=>?_;clear q;exact⟨a,xs,h1,h2,h3.same (aJ _ _) _⟩
theorem aH.len:∀{ds:List D} {vs:List V},aH K C H ds vs->vs.length=ds.length
 | [],_,e=>by rw[aH]at e;subst e;rfl
 | d::ds,_,e=>by
  rw[aH]at e;refine b7 e fun v r aT _ q=>?_;clear e;walk_at"c";rw[cI,cI,q.len]
theorem aH.get':∀{ds:List D} {vs:List V} {j:Nat} {d:D},aH K C H ds vs->ds[j]?=some d->∃v,vs[j]?=some v/\Rep K C H d v
 | [],_,j,v,e,h=>by cases h
 | d::ds,_,j,v,e,h=>by
  rw[aH]at e;refine b7 e fun u r aT a q=>?_;clear e;walk_at"c";cases j with
  | zero=>cases h;exact⟨u,rfl,a⟩
  | succ j=>refine aL (q.get' (j:=j) (by simpa using h)) fun z h1 h2=>?_;exact⟨z,by simpa using h1,h2⟩
def aH.nil:aH K C H [] []:=by rw[aH]
def aH.cons(a:Rep K C H d v)(b:aH K C H ds vs):aH K C H (d::ds) (v::vs):=by rw[aH];exact⟨v,vs,rfl,a,b⟩
theorem aH.app:∀{ds es:List D} {vs ws:List V},aH K C H ds vs->aH K C H es ws->aH K C H (ds++es) (vs++ws)
 | [],_,_,_,a,b=>by rw[aH]at a;subst a;exact b
 | d::ds,_,_,_,a,b=>by
  rw[aH]at a;refine b7 a fun v r aT a1 a2=>?_;clear a;walk_at"c";exact .cons a1 (a2.app b)
theorem aH.take:∀{ds:List D} {vs:List V} (n:Nat),aH K C H ds vs->aH K C H (ds.take n) (vs.take n)
 | [],_,n,a=>by rw[aH]at a;subst a;simp[aH]
 | d::ds,_,0,a=>by simp[aH]
 | d::ds,_,n+1,a=>by
  rw[aH]at a;refine b7 a fun v r aT a1 a2=>?_;clear a;walk_at"c";rw[M7,M7];exact .cons a1 (a2.take n)
theorem aH.drop:∀{ds:List D} {vs:List V} (n:Nat),aH K C H ds vs->aH K C H (ds.drop n) (vs.drop n)
 | [],_,n,a=>by rw[aH]at a;subst a;simp[aH]
 | d::ds,_,0,a=>a
 | d::ds,_,n+1,a=>by
  rw[aH]at a;refine b7 a fun v r aT a1 a2=>?_;clear a;walk_at"c";rw[M8,M8];exact a2.drop n
theorem aH.ints:∀ns:List Int,aH K C H (ns.map D.int) (ns.map V.int)
 | []=>.nil
 | n::ns=>.cons (by rw[Rep]) (aH.ints ns)
end
section
variable {s:ay}
mutual
theorem Inv.dat(I:Inv X ak σ H s):∀(d:D) {v:V} {u:au},flat d=true->Rep X.K C H d v->RelV v u->fM s.heap d u
 | .cH,v,u,_,q,r=>by rw[Rep]at q;subst q;rw[fM];exact r
 | .bl b,v,u,_,q,r=>by rw[Rep]at q;subst q;rw[fM];exact r
 | .int i,v,u,_,q,r=>by rw[Rep]at q;subst q;rw[fM];exact r
 | .str x,v,u,_,q,r=>by rw[Rep]at q;subst q;rw[fM];exact r
 | .tup ds,v,u,f,q,r=>by
  rw[Rep]at q;rw[flat]at f;refine b7 q fun a xs aT h2 h3=>?_;clear q;walk_at"c";obtain rfl:u = .ref a:=r;refine bK (I.tuple h2) fun b6 r1 t _=>?_;rw[fM];exact⟨a,b6.toArray,rfl,t,Inv.S7 I ds f h3 r1⟩
 | .lst ds,v,u,f,q,r=>by
  have q:=q.items;rw[flat]at f;refine b7 q fun a xs aT h2 h3=>?_;clear q;walk_at"c";obtain rfl:u = .ref a:=r;refine bK (I.list h2) fun b6 r1 t _=>?_;rw[fM];exact⟨a,b6.toArray,rfl,t,Inv.S7 I ds f h3 r1⟩
 | .dH tb ds,v,u,f,q,r=>by rw[flat]at f;cases f
theorem Inv.S7(I:Inv X ak σ H s):∀(ds:List D) {vs:List V} {us:List au},bW ds=true->aH X.K C H ds vs->Vals vs us->bI s.heap ds us
 | [],_,_,_,q,r=>by rw[aH]at q;subst q;cases r;rw[bI]
 | d::ds,_,_,f,q,r=>by
  rw[aH]at q;refine b7 q fun v vs' aT a b=>?_;clear q;walk_at"c";rw[bW,bM]at f;cases r with
  | cons r1 r2=>rw[bI];exact⟨_,_,rfl,Inv.dat I d f.1 a r1,Inv.S7 I ds f.2 b r2⟩
end
def Xl(K:aD)(C:Cfg)(neg:Bool):R2:=fun x y H Q=>∃d e,Rep K C H d x/\Rep K C H e y/\flat d=true/\flat e=true/\dep d<=60/\Q (.bl (if neg then !gP d e else gP d e)) H
def Oc(hu:X.A.units+64<cLine):pT X (gZ .Eq) (Xl X.K C false):=by
 intro ak s σ H x y v u Q I rx ry ⟨d,e,h1,h2,f1,f2,h3,q⟩;exact Xb d e f1 f2 (Inv.dat I d f1 h1 rx) (Inv.dat I e f2 h2 ry) (by lia) _ _ _ _ ⟨.bl (gP d e),H,I,rfl,q⟩
def Od(hu:X.A.units+64<cLine):pT X (gZ .NotEq) (Xl X.K C true):=by
 intro ak s σ H x y v u Q I rx ry ⟨d,e,h1,h2,f1,f2,h3,q⟩;exact NX d e f1 f2 (Inv.dat I d f1 h1 rx) (Inv.dat I e f2 h2 ry) (by lia) _ _ _ _ ⟨.bl (!gP d e),H,I,rfl,q⟩
def Xm(K:aD)(C:Cfg)(neg:Bool):R2:=fun x y H Q=>∃d es,Rep K C H d x/\(Rep K C H (.lst es) y\/Rep K C H (.tup es) y)/\flat d=true/\bW es=true/\jT es<=60/\Q (.bl (if neg then !(es.any fun e=>gP e d)else es.any fun e=>gP e d)) H
def pV(h:aN)(d:D)(y:au):Bool:=@decide (∃e,fM h e y/\gP e d=true) (Classical.propDecidable _)
def wm(q:fM h e y):pV h d y=gP e d:=by
 unfold pV;cases z:gP e d with
 | true=>exact @aU5 _ (Classical.propDecidable _) ⟨e,q,z⟩
 | false=>refine @aU6 _ (Classical.propDecidable _) ?_;rintro⟨e',q',z'⟩;rw[fM.inj e e' q q']at z;rw[z]at z';cases z'
theorem lJ:∀(es:List D) {ys:List au},bI h es ys->ys.any (pV h d)=es.any fun e=>gP e d
 | [],_,q=>by rw[bI]at q;subst q;rfl
 | e::es,_,q=>by
  rw[bI]at q;refine b7 q fun v r aT a b=>?_;clear q;walk_at"c";rw[vB,vB,wm a,lJ es b]
def jZ{A:bP}(fd:flat d=true)(hx:fM s.heap d x)(f:bW es=true)(q:bI s.heap es ys)(hu:A.units+jT es<cLine):∀y∈ys,EqAt A s y x (pV s.heap d y):=fun y hy=>by
 obtain⟨j,hj,e⟩:=jP.mp hy;obtain⟨a,b⟩:=q.get j hj;rw[e]at a;rw[wm a];have:=ic b;exact sY _ _ (dh f b) fd a hx (by lia)
def Oe(hu:X.A.units+64<cLine):pT X (gZ .In) (Xm X.K C false):=by
 intro ak s σ H x y v u Q I rx ry ⟨d,es,h1,h2,f1,f2,h3,q⟩;have hd:=Inv.dat I d f1 h1 rx;rcases h2 with h2|h2;have he:=Inv.dat I (.lst es) (by rw[flat];exact f2) h2 ry;rw[fM]at he;refine b7 he fun a it aT t p=>?_;clear he;walk_at"c";refine in_listAt (pV s.heap d) t.isList (fun y hy=>jZ f1 hd f2 p (by show X.A.units+1+_<_;lia) y (vD.mpr hy)) ?_;rw[<- Ao,lJ es p];exact⟨.bl (es.any fun e=>gP e d),H,I,rfl,q⟩;have he:=Inv.dat I (.tup es) (by rw[flat];exact f2) h2 ry;rw[fM]at he;refine b7 he fun a it aT t p=>?_;clear he;walk_at"c";refine in_tupleAt (pV s.heap d) (aP t) (fun y hy=>jZ f1 hd f2 p (by show X.A.units+1+_<_;lia) y (vD.mpr hy)) ?_;rw[<- Ao,lJ es p];exact⟨.bl (es.any fun e=>gP e d),H,I,rfl,q⟩
def zj(hu:X.A.units+64<cLine):pT X (gZ .NotIn) (Xm X.K C true):=by
 intro ak s σ H x y v u Q I rx ry ⟨d,es,h1,h2,f1,f2,h3,q⟩;have hd:=Inv.dat I d f1 h1 rx;rcases h2 with h2|h2;have he:=Inv.dat I (.lst es) (by rw[flat];exact f2) h2 ry;rw[fM]at he;refine b7 he fun a it aT t p=>?_;clear he;walk_at"c";refine notIn_listAt (pV s.heap d) t.isList (fun y hy=>jZ f1 hd f2 p (by show X.A.units+1+_<_;lia) y (vD.mpr hy)) ?_;rw[<- Ao,lJ es p];exact⟨.bl (!es.any fun e=>gP e d),H,I,rfl,q⟩;have he:=Inv.dat I (.tup es) (by rw[flat];exact f2) h2 ry;rw[fM]at he;refine b7 he fun a it aT t p=>?_;clear he;walk_at"c";refine notIn_tupleAt (pV s.heap d) (aP t) (fun y hy=>jZ f1 hd f2 p (by show X.A.units+1+_<_;lia) y (vD.mpr hy)) ?_;rw[<- Ao,lJ es p];exact⟨.bl (!es.any fun e=>gP e d),H,I,rfl,q⟩
end
end Dm
end aL9
section aM0
namespace Dm
open PySem PyProof.Rows L2 PySem.SeqAt Ts
section
theorem B9(r:Vals ws vs):∀(pm:List Nat),(∀i∈pm,i<ws.length)->Vals (pm.map fun i=>ws.getD i .cH) (pm.map fun i=>vs.getD i gR)
 | [],_=>.nil
 | i::pm,h=>by
  refine .cons ?_ (B9 r pm fun j hj=>h j (.tail _ hj));have hi:=h i (.head _);refine aL (r.get (c7 hi)) fun u h1 h2=>?_;have e1:ws.getD i .cH=ws[i]:=by simp[hi]
  have e2:vs.getD i gR=u:=by simp[h1]
  show RelV (ws.getD i .cH) (vs.getD i gR);rw[e1,e2];exact h2
theorem Ba{K:aD}{H:Hp}{ws:List V}{ds:List D}(r:aH K C H ds ws):∀(pm:List Nat),(∀i∈pm,i<ds.length)->aH K C H (pm.map fun i=>ds.getD i .cH) (pm.map fun i=>ws.getD i .cH)
 | [],_=>.nil
 | i::pm,h=>by
  refine .cons ?_ (Ba r pm fun j hj=>h j (.tail _ hj));have hi:=h i (.head _);refine aL (r.get' (c7 hi)) fun u h1 h2=>?_;have e1:ds.getD i .cH=ds[i]:=by simp[hi]
  have e2:ws.getD i .cH=u:=by simp[h1]
  show Rep K C H (ds.getD i .cH) (ws.getD i .cH);rw[e1,e2];exact h2
structure qY(ds:List D):Prop where
 kd:∃kd,Sk ds kd
 jJ:ds.length<64
 gB:∀a∈ds,∀b∈ds,gB a b=true
 nl:∀a∈ds,nl a=true
 dep:∀a∈ds,dep a<=50
def yg(h:∀a∈ds,∀b∈ds,gB a b=true):bW ds=true:=iJ fun d hd=>(vX d d (h d hd d hd)).1
def Of(K:aD)(C:Cfg):List V->Hp->VK->Prop:=fun xs H Q=>∃v ds,xs=[v]/\Rep K C H (.lst ds) v/\qY ds/\∀p ws,H p=none->aH K C H (gy ds) ws->Q (.ref p) (upd H p (.lst ws))
def CY{h1 h':aN}{vs:List au}(I:L2.Inv X ak σ H s)(k1:∀b ob,s.heap.get? b=some ob->h1.get? b=some ob)(k2:∀b ob,h1.get? b=some ob->h'.get? b=some ob)
  (hL:h1.objs.size<=L) (ho:h'.get? L=some (j0 "list" vs.toArray n)) (r:Vals ws vs) (hz:ws.length<=bO) (q:H L=none->Q (.ref L) (upd H L (.lst ws))):EP X ak σ Q (.ref L) {s with heap:=h',toks:=tk}:=by
 have I1:L2.Inv X ak σ H {s with heap:=h1,toks:=tk}:=I.kept k1;have hn:H L=none:=I1.dX.fresh hL;refine⟨.ref L,upd H L (.lst ws),I1.laid (t':=tk) k2 hL ⟨hz,vs,n,r,ho⟩,rfl,q hn⟩
def Xn(K:aD)(C:Cfg)(G:List D->Prop):List V->Hp->VK->Prop:=fun xs H Q=>∃a ws ds,xs=[.ref a]/\ja K H a ws/\aH K C H ds ws/\G ds/\∀(p:av) (pm:List Nat),H p=none->(∀i∈pm,i<ds.length)->gy ds=pm.map (fun i=>ds.getD i .cH)->Q (.ref p) (upd H p (.lst (pm.map fun i=>ws.getD i .cH)))
def Bb{G:List D->Prop}(hG:∀ds,G ds->bW ds=true/\∃kd,ds.length<=bO->∀b6,SG X.prog X.w X.A ds kd b6):jB X (.builtin "sorted") (Xn X.K C G):=by
 intro ak s σ H xs us Q I r ⟨a,ws,ds,e,h2,h3,S,q⟩;subst e;refine aL (vals1 r) fun u fW rv=>?_;obtain rfl:=fW;obtain rfl:u = .ref a:=rv;refine bK (I.list h2) fun b6 r1 pl hz=>?_;obtain⟨ff,kd,sg⟩:=hG ds S;have ld:b6.length=ds.length:=by rw[<- r1.length,h3.len]
 have lw:ws.length=ds.length:=h3.len;refine uc (Pd:=fun es kd' vs=>es=ds/\kd'=kd/\vs=b6) (fun es kd' vs hp=>?_) (fun R hR=>?_) fun h1 h' tk es kd' vs L n pm k1 k2 hp hd hL gh hs ho=>?_;obtain⟨rfl,rfl,rfl⟩:=hp;exact sg (by rw[<- lw];exact hz) _;refine collect_list (vs:=b6) (s:=s) pl.isList ?_ (by rw[<- r1.length];exact hz);have keep:∀b ob,s.heap.get? b=some ob->((s.heap.push (j0 "list" #[] 0)).update s.heap.objs.size (fq (· ++ b6.toArray))).get? b=some ob:=fun b ob e=>by rw[Heap.get?_update_ne _ _ _ _ (cu (bQ e))];exact bV _ e
 exact hR _ s.toks ds kd b6 keep ⟨rfl,rfl,rfl⟩ ((Inv.S7 I ds ff h3 r1).keep keep);obtain⟨rfl,rfl,rfl⟩:=hp;have lp:pm.length=es.length:=by have:=congrArg List.length hs;rw[bL,(dm es).length_eq]at this;exact this.symm
 exact CY I k1 k2 hL ho (B9 r1 pm fun i hi=>by rw[lw];exact gh i hi) (by rw[bL,lp,<- lw];exact hz) fun hn=>q L pm hn gh hs
def Bc(hu:X.A.units+64<cLine):jB X (.builtin "sorted") (Of X.K C):=by
 intro ak s σ H xs us Q I r ⟨v,ds,e,h1,S,q⟩;subst e;obtain⟨a,ws,rfl,h2,h3⟩:=h1.items;exact Bb (G:=qY) (fun ds S=>⟨yg S.gB,S.kd.imp fun kd sk _ b6=>sgS sk S.jJ S.gB S.nl fun a ha=>by have:=S.dep a ha;lia⟩) ak s σ H _ us Q I r ⟨a,ws,ds,rfl,h2,h3,S,fun p pm hn gh hs=>q p _ hn (by rw[hs];exact Ba h3 pm gh)⟩
end
end Dm
end aM0
section aM1
namespace Dm
open PySem PyProof.Rows L2 PySem.SeqAt Ts Tb
def wo(h:ItemsAre (intKind prog w) ks vs):∀v∈vs,∃i t,v=uy i t:=by
 induction h with
 | nil=>intro v hv;cases hv
 | cons h1 _ ih=>intro v hv;rcases bD.mp hv with rfl|hv;obtain⟨t,e⟩:=ab5 h1;exact⟨_,t,e⟩;exact ih v hv
def tupS(prog:cP)(w:bF):nX prog w (List Int) where
 toHeapKind:=tupleKind (intKind prog w)
 O4:=fun {A E s k a Q} hk h=>by
  have hT:=hk.typeIs;refine R9 hk fun o items n ho _ hd hi=>?_;clear hk;unfold ofAClassStatement;refine aq (vh hT ?_);dsimp only;rw[aU3 (by decide)];refine aq (aG ?_);simp only[j3,cJ,aV1];refine aq (su ho hd ?_);dsimp only;refine aq ?_;rw[<- sM];refine q8 _ (fun rest r s'=>r.1=none/\s'=s/\∀v∈rest,∃i t,v=uy i t) _ ?_ ?_ _ _ ⟨rfl,rfl,wo hi⟩;rintro v rest r s' ⟨hr,rfl,pN⟩;refine pJ (pN v tZ) fun i t aT=>?_;walk_at"c";unfold ofAClassStatement;refine aq (aG ?_);simp only[cJ,aV1];exact aG ⟨rfl,rfl,fun u hu=>pN u (nC _ hu)⟩;rintro⟨r1,r2⟩ s' ⟨hr,rfl,_⟩;simp only at hr;subst hr;exact aG h
 VG:=fun {A E s k a Q} hk h=>by
  have hT:=hk.typeIs;refine R9 hk fun o items n ho _ hd hi=>?_;clear hk;unfold hashByValue;refine aq (sj hT MP.lookup ?_);dsimp only;refine aq (su ho hd ?_);dsimp only[Option.getD];refine aq ?_;rw[<- sM];refine q8 _ (fun rest r s'=>r.1=none/\s'=s/\∀v∈rest,∃i t,v=uy i t) _ ?_ ?_ _ _ ⟨rfl,rfl,wo hi⟩;rintro v rest r s' ⟨hr,rfl,pN⟩;refine pJ (pN v tZ) fun i t aT=>?_;walk_at"c";unfold hashByValue;refine aq (aG ?_);simp only[j3,cJ,aV1];exact aG ⟨rfl,rfl,fun u hu=>pN u (nC _ hu)⟩;rintro⟨r1,r2⟩ s' ⟨hr,rfl,_⟩;simp only at hr;subst hr;exact aG h
 mono:=fun hk e=>by
  refine R9 hk fun o items n ho hc hd hi=>?_;clear hk;exact⟨o,items,n,e _ _ ho hc,hc,hd,hi⟩
theorem CZ:∀{ns:List Int} {vs:List au},bI h (ns.map D.int) vs->ItemsAre (intKind prog w) ns vs
 | [],_,q=>by rw[jq,bI]at q;subst q;exact .nil
 | n::ns,_,q=>by
  rw[bh,bI]at q;refine b7 q fun v r aT a b=>?_;clear q;walk_at"c";rw[fM]at a;obtain⟨t,rfl⟩:=a;exact .cons (by show Value.isInt n (.int n t)=true;simp[Value.isInt]) (CZ b)
def ao7{ns:List Int}(q:fM h (.tup (ns.map D.int)) (.ref a)):(tupS prog w).is h ns a:=by
 rw[fM]at q;refine b7 q fun b it e nM p=>?_;clear q;obtain⟨o,h1,h2,n,h3⟩:=nM;obtain rfl:a=b:=by injection e
 exact⟨o,it,n,h1,h2,h3,CZ p⟩
def Og(prog:cP)(w:bF)(a:av)(zs:List (List Int×av))(h:aN):Prop:=
 ∃o ep t,h.get? a=some o/\o.ExactSet/\o.data = .set (zs.map (entry (tupS prog w))).toArray ep t/\Good t zs.length/\Paths t (fun i=>((zs.map (entry (tupS prog w))).toArray[i]?.map (·.1)).getD 0) zs.length/\
  t.led=iy w/\t.plain=true/\zs.length*5<t.mask*3/\(zs.map (·.1)).Nodup
section
def Members(K:aD)(H:Hp)(zs:List (List Int×av)):Prop:=∀z∈zs,jA K H z.2 (z.1.map V.int)
def ID(X:Cx)(C:Cfg):List V->Hp->VK->Prop:=fun xs H Q=>∃(v:V) (jI:List (List Int)),xs=[v]/\Rep X.K C H (.lst (jI.map fun ns=>.tup (ns.map D.int))) v/\jI.length<=50/\
 ∀p zs,H p=none->Members X.K H zs->(zs.map (·.1)).Nodup->(∀ns,ns∈zs.map (·.1)↔ns∈jI)->Q (.ref p) (upd H p (.ext (Og X.prog X.w p zs)))
theorem zm{K:aD}{H:Hp}:∀{jI:List (List Int)} {ws:List V},aH K C H (jI.map fun ns=>.tup (ns.map D.int)) ws->∃ys:List (List Int×av),ys.map (·.1)=jI/\ws=(ys.map fun y=>V.ref y.2)/\Members K H ys
 | [],_,q=>by rw[jq,aH]at q;subst q;exact⟨[],rfl,rfl,fun z hz=>by cases hz⟩
 | ns::jI,_,q=>by
  rw[bh,aH]at q;refine b7 q fun v r aT a b=>?_;clear q;walk_at"c";refine bK (zm b) fun ys e1 e2 m=>?_;rw[Rep]at a;refine b7 a fun ad xs aT t p=>?_;clear a;walk_at"c";have exs:xs=ns.map V.int:=by
   clear t;induction ns generalizing xs with
   | nil=>rw[jq,aH]at p;exact p
   | cons n ns ih=>rw[bh,aH]at p;refine b7 p fun v r' aT a1 a2=>?_;clear p;walk_at"c";rw[Rep]at a1;rw[a1,ih _ a2];rfl
  subst exs;refine⟨(ns,ad)::ys,by rw[bh,e1],by rw[bh,e2],fun z hz=>?_⟩;rcases bD.mp hz with rfl|hz;exact t;exact m z hz
def Oh(I:L2.Inv X ak σ H s){z:List Int×av}(h:jA X.K H z.2 (z.1.map V.int)):(tupS X.prog X.w).is s.heap z.1 z.2:=by
 refine ao7 ?_;refine Inv.dat (C:=ao6) I _ (v:=V.ref z.2) ?_ ?_ rfl;rw[flat];exact iJ fun d hd=>by refine aL (aX.mp hd) fun n _ aT=>?_;walk_at"c";rw[flat] <;> simp
 rw[Rep];exact⟨z.2,_,rfl,h,aH.ints z.1⟩
theorem zq:∀{ys:List (List Int×av)},Vals (ys.map fun y=>V.ref y.2) vs->vs=ys.map fun y=>f7 y.2
 | [],r=>by cases r;rfl
 | y::ys,r=>by
  cases r with
  | cons r1 r2=>rw[bh,zq r2];congr 1
def JV(hh:X.A.handled=none)(hu:X.A.units+64<cLine):jB X (.type "set") (ID X C):=by
 intro ak s σ H xs us Q I r ⟨v,jI,e,h1,hn,q⟩;subst e;refine aL (vals1 r) fun u fW rv=>?_;obtain rfl:=fW;have h1:=h1.items;refine b7 h1 fun a ws aT h2 h3=>?_;clear h1;walk_at"c";obtain rfl:u = .ref a:=rv;refine bK (I.list h2) fun b6 r1 pl hz=>?_;refine bK (zm h3) fun ys e1 e2 m=>?_;subst e2;obtain rfl:=zq r1;have ly:ys.length=jI.length:=by rw[<- e1,bL]
 refine O9 (κ:=tupS X.prog X.w) (ys:=ys) hh (by show X.A.units+1+1+1<cLine;lia) pl.isList (by lia) (fun y hy=>Oh I (m y hy)) fun h' tk o ep t zs k S m1 m2=>?_;have hf:H s.heap.objs.size=none:=I.dX.fresh (b9 _);refine⟨.ref s.heap.objs.size,upd H s.heap.objs.size (.ext (Og X.prog X.w s.heap.objs.size zs)),I.laid (t':=tk) k (b9 _) ?_,rfl,q _ zs hf (fun z hz=>m z (m1 z hz)) S.keys fun ns=>?_⟩;refine⟨⟨o,ep,t,S.obj,S.mw,S.data,S.good,S.Iw,S.JR,S.plain,S.jJ,S.keys⟩,⟨o,S.obj⟩,?_⟩;rintro h1 h2 ⟨o',AI,t',q1,q2⟩ ke;exact⟨o',AI,t',ke _ q1,q2⟩;constructor;intro hm;refine aL (aX.mp hm) fun z hz aT=>?_;walk_at"c";rw[<- e1];exact aX.mpr ⟨z,m1 z hz,rfl⟩;intro hm;rw[<- e1]at hm;refine aL (aX.mp hm) fun y hy aT=>?_;walk_at"c";exact m2 y hy
def Rows(jI:List (List Int)):Prop:=∃n,∀ns∈jI,ns.length=n+1
theorem tw:∀{a b:List Int},a.length=b.length->gH (a.map D.int) (b.map D.int)=true
 | [],[],_=>by simp[gH]
 | x::a,y::b,h=>by
  rw[bh,bh,gH,tw (by simpa using h)];simp[gB]
theorem D0:∀a:List Int,RQ (a.map D.int)=true
 | []=>by simp[RQ]
 | x::a=>by rw[bh,RQ,D0 a];simp[nl]
def JW(a:List Int):jT (a.map D.int)=0:=by
 have:jT (a.map D.int)<=0:=qV fun d hd=>by refine aL (aX.mp hd) fun n _ aT=>?_;walk_at"c";rw[dep] <;> simp
 lia
def yh(h:Rows jI)(jJ:jI.length<64):qY (jI.map fun ns=>.tup (ns.map D.int)):=by
 obtain⟨n,hn⟩:=h;have mem:∀d∈jI.map (fun ns=>D.tup (ns.map D.int)),∃ns∈jI,d = .tup (ns.map D.int):=fun d hd=>by refine aL (aX.mp hd) fun ns h1 h2=>?_;exact⟨ns,h1,h2.symm⟩
 refine⟨⟨_,.ql fun d hd=>?_⟩,by rw[bL];exact jJ,fun a ha b hb=>?_,fun a ha=>?_,fun a ha=>?_⟩;refine aL (mem d hd) fun ns h1 aT=>?_;walk_at"c";have:=hn ns h1;match ns,this with
 | i::r,_=>exact⟨i,r.map D.int,rfl⟩
 refine aL (mem a ha) fun ns h1 aT=>?_;walk_at"c";refine aL (mem b hb) fun ms h2 aT=>?_;walk_at"c";rw[gB];exact tw (by rw[hn ns h1,hn ms h2]);refine aL (mem a ha) fun ns h1 aT=>?_;walk_at"c";rw[nl];exact D0 ns;refine aL (mem a ha) fun ns h1 aT=>?_;walk_at"c";rw[dep,JW];decide
def GS(X:Cx)(C:Cfg):List V->Hp->VK->Prop:=fun xs H Q=>∃a zs,xs=[.ref a]/\H a=some (.ext (Og X.prog X.w a zs))/\Members X.K H zs/\zs.length<=50/\Rows (zs.map (·.1))/\
 ∀p ws (es:List (List Int)),H p=none->es.Perm (zs.map (·.1))->aH X.K C H (gy (es.map fun ns=>.tup (ns.map D.int))) ws->Q (.ref p) (upd H p (.lst ws))
def JX:∀{l:List α} {m:List β},m.Perm (l.map f)->∃l':List α,l'.Perm l/\m=l'.map f:=by
 intro l m h;generalize e:l.map f=k at h;induction h generalizing l with
 | nil=>exact⟨l,.refl _,e.symm⟩
 | cons x _ ih=>
  match l,e with
  | a::l,e=>rw[bh]at e;injection e with e1 e2;refine aL (ih e2) fun l' p q=>?_;exact⟨a::l',p.cons a,by rw[bh,e1,q]⟩
 | swap x y k=>
  match l,e with
  | a::b::l,e=>rw[bh,bh]at e;injection e with e1 e2;injection e2 with e2 e3;exact⟨b::a::l,.swap a b l,by rw[bh,bh,e1,e2,e3]⟩
 | trans _ _ ih1 ih2=>refine aL (ih2 e) fun l1 p1 q1=>?_;refine aL (ih1 q1.symm) fun l2 p2 q2=>?_;exact⟨l2,p2.trans p1,q2⟩
def Bd(hh:X.A.handled=none)(hu:X.A.units+64<cLine):jB X (.builtin "sorted") (GS X C):=by
 intro ak s σ H xs us Q I r ⟨a,zs,e,h1,hm,hn,hr,q⟩;subst e;refine aL (vals1 r) fun u fW rv=>?_;obtain rfl:=fW;obtain rfl:u = .ref a:=rv;refine qH (I.dX a _ h1) fun zo0 _ _=>?_;obtain⟨o,ep,t,g1,g2,g3,g4,g5,g6,g7,g8,g9⟩:=zo0;have S:iC (tupS X.prog X.w) s.heap a (iy X.w) zs o ep t:=⟨g1,g2,g3,g4,g5,g6,g7,g8,g9,fun x hx=>Oh I (hm x hx)⟩
 refine uc (Pd:=fun es kd vs=>kd=tuples' true/\∃l:List (List Int×av),l.Perm zs/\es=(l.map fun y=>.tup (y.1.map D.int))/\vs=l.map fun y=>f7 y.2) (fun es kd vs hp=>?_) (fun R hR=>?_) fun h1 h' tk es kd vs L n pm k1 k2 hp hd hL gh hs ho=>?_;obtain⟨rfl,l,p,rfl,rfl⟩:=hp;obtain⟨m,EI⟩:=hr;have rows:Rows (l.map (·.1)):=⟨m,fun ns hns=>EI ns ((p.map _).mem_iff.mp hns)⟩
 have so:=yh rows (by rw[bL,p.length_eq];lia);rw[cU]at so;refine sgS (.ql fun d hd=>?_) so.jJ so.gB so.nl fun a ha=>by have:=so.dep a ha;lia
 refine aL (aX.mp hd) fun y hy aT=>?_;walk_at"c";have:=EI y.1 (aX.mpr ⟨y,p.mem_iff.mp hy,rfl⟩);match h:y.1,this with
 | i::r,_=>exact⟨i,r.map D.int,rfl⟩
 refine CW (κ:=tupS X.prog X.w) hh S hn fun h' tk vs k pv=>?_;refine aL (JX pv) fun l p aT=>?_;walk_at"c";refine hR h' tk _ _ _ k ⟨rfl,l,p,rfl,rfl⟩ (bI.of_map _ _ l fun y hy=>fM.keep k _ ?_);have t:=hm y (p.mem_iff.mp hy);refine Inv.dat (C:=ao6) I _ (v:=V.ref y.2) ?_ ?_ rfl;rw[flat];exact iJ fun d hd=>by refine aL (aX.mp hd) fun n _ aT=>?_;walk_at"c";rw[flat] <;> simp
 rw[Rep];exact⟨y.2,_,rfl,t,aH.ints y.1⟩;obtain⟨rfl,l,p,rfl,rfl⟩:=hp;have ll:l.length<=50:=by rw[p.length_eq];exact hn
 have lp:pm.length=l.length:=by have:=congrArg List.length hs;rw[bL,(dm _).length_eq,bL]at this;exact this.symm
 have rv:∀l:List (List Int×av),Vals (l.map fun y=>V.ref y.2) (l.map fun y=>f7 y.2):=fun l=>by
  induction l with
  | nil=>exact .nil
  | cons y l ih=>exact .cons rfl ih
 have lt':∀i∈pm,i<l.length:=fun i hi=>by have:=gh i hi;rwa [bL]at this
 have rp:aH X.K C H (l.map fun y=>.tup (y.1.map D.int)) (l.map fun y=>V.ref y.2):=by
  have hm2:∀y∈l,jA X.K H y.2 (y.1.map V.int):=fun y hy=>hm y (p.mem_iff.mp hy);clear hs gh lt' lp hd ho p ll;induction l with
  | nil=>exact .nil
  | cons y l ih=>refine .cons ?_ (ih fun z hz=>hm2 z (nC _ hz));rw[Rep];exact⟨y.2,_,rfl,hm2 y tZ,aH.ints y.1⟩
 have big:64<=bO:=by rw[gC];decide
 refine CY I k1 k2 hL ho (B9 (rv l) pm fun i hi=>by rw[bL];exact lt' i hi) (by rw[bL,lp];lia) fun AJ=>q L _ (l.map (·.1)) AJ (p.map _) ?_;rw[cU];show aH X.K C H (gy (l.map fun y=>.tup (y.1.map D.int))) _;rw[hs];exact Ba rp pm gh
end
end Dm
end aM1
section aM2
namespace Dm
open PySem PySem.Spec PyProof.Rows L2
inductive R(α:Type) where
 | ok (a:α)|ex (c:av) (p:Option Int)|bad
def R.bind{α β:Type}(r:R α)(f:α->R β):R β:=match r with | .ok a=>f a | .ex c p=>.ex c p | .bad=>.bad
abbrev eY:=List (Option D)
abbrev DF:=eY->R D
abbrev DA:=eY->R (List D)
inductive Out where
 | nx (st:eY)|rt (d:D)|bk (st:eY)|ct (st:eY)|ex (c:av) (p:Option Int) (st:eY)|bad
abbrev DS:=eY->Out
def IE(E:XK)(c:av)(p:Option Int)(H:Hp):Prop:=match p with
 | none=>E (.ref c) none H
 | some n=>∀dx,H dx=some (.xd [("at",.int n)])->E (.ref c) (some dx) H
def wu:Option HO->Bool
 | none=>true
 | some (.tup _)=>true
 | some (.EF _ (.tup _))=>true
 | _=>false
def nw(G H:Hp):Hp:=fun a=>if wu (G a)=true then H a else none
def cT(G H:Hp):aI (nw G H) H:=fun b o h=>by
 unfold nw at h;split at h;exact h;cases h
def bS(e:aI H H'):aI (nw G H) (nw G H'):=fun b o h=>by
 unfold nw at h ⊢;split at h;rename_i q;rw[aU3 q];exact e b o h;cases h
def qs(e:aI G G')(h:wu (G' a)=true):wu (G a)=true:=by
 cases q:G a with
 | none=>rfl
 | some o=>rw[e a o q]at h;exact h
def qZ(e:aI G G'):aI (nw G' H) (nw G H):=fun b o h=>by
 unfold nw at h ⊢;split at h;rename_i q;rw[aU3 (qs e q)];exact h;cases h
def k7(h:G a=none):nw G H a=H a:=by unfold nw;rw[h];rfl
def jC(H G:Hp):Prop:=aI G H/\∀a xs,Rd H a (.tup xs)->Rd G a (.tup xs)
theorem jC.trans(a:jC H G)(b:jC G F):jC H F:=⟨b.1.trans a.1,fun x xs h=>b.2 x xs (a.2 x xs h)⟩
theorem jC.nw(e:aI G H):jC H (nw G H):=⟨cT _ _,fun a xs h=>by
 have k:wu (G a)=true:=by
  cases q:G a with
  | none=>rfl
  | some o=>have:=e a o q;rcases h with h|⟨u,h⟩;rw[h]at this;cases this;rfl;rw[h]at this;cases this;rfl
 unfold Rd Dm.nw;rw[aU3 k];exact h⟩
def VL:HO->Bool
 | .lst _=>true
 | .ext _=>true
 | _=>false
theorem jC.er(h:∀a∈A,∃o,H a=some o/\VL o=true):jC H (er H A):=⟨aJ _ _,fun a xs r=>by
 have k:a∉A:=fun m=>by obtain⟨o,q,z⟩:=h a m;rcases r with r|⟨u,r⟩;rw[q]at r;cases r;cases z;rw[q]at r;cases r;cases z
 unfold Rd;rw[aZ k];exact r⟩
mutual
def fU:D->Bool
 | .tup ds=>cV ds
 | .lst _=>false
 | .dH _ _=>false
 | _=>true
def cV:List D->Bool
 | []=>true
 | d::ds=>fU d&&cV ds
end
theorem iO:∀{ds:List D} {d:D},cV ds=true->d∈ds->fU d=true
 | _::_,_,h,.head _=>by rw[cV,bM]at h;exact h.1
 | _::ds,_,h,.tail _ m=>by rw[cV,bM]at h;exact iO h.2 m
theorem dY:∀{ds:List D},(∀d∈ds,fU d=true)->cV ds=true
 | [],_=>rfl
 | d::ds,h=>by rw[cV,bM];exact⟨h d (.head _),dY fun x hx=>h x (.tail _ hx)⟩
section
variable {K:aD}{C:Cfg}{H G:Hp}
def jC.sq(k:jC H G)(h:jA K H a xs):jA K G a xs:=by
 rcases h with h|h;exact .inl (k.2 a xs h);exact .inr h
mutual
theorem Rep.part(k:jC H G):∀(d:D) {v:V},fU d=true->Rep K C H d v->Rep K C G d v
 | .cH,v,_,q=>by rw[Rep]at q ⊢;exact q
 | .bl b,v,_,q=>by rw[Rep]at q ⊢;exact q
 | .int i,v,_,q=>by rw[Rep]at q ⊢;exact q
 | .str x,v,_,q=>by rw[Rep]at q ⊢;exact q
 | .tup ds,v,n,q=>by
  rw[Rep]at q ⊢;rw[fU]at n;refine b7 q fun a xs h1 h2 h3=>?_;clear q;exact⟨a,xs,h1,k.sq h2,aH.part k ds n h3⟩
 | .lst ds,v,n,q=>by rw[fU]at n;cases n
 | .dH t ds,v,n,q=>by rw[fU]at n;cases n
theorem aH.part(k:jC H G):∀(ds:List D) {vs:List V},cV ds=true->aH K C H ds vs->aH K C G ds vs
 | [],_,_,q=>by rw[aH]at q ⊢;exact q
 | d::ds,_,n,q=>by
  rw[aH]at q ⊢;rw[cV,bM]at n;refine b7 q fun v r e1 a b=>?_;clear q;exact⟨v,r,e1,Rep.part k d n.1 a,aH.part k ds n.2 b⟩
end
end
inductive Kd where
 | new|pB|loc|old|uU|fD
inductive SK where
 | par|loc|own (n:Bool)|any|pr|ll|dp
def k9:D->Bool
 | .lst _=>true
 | .dH t _=>t==2
 | _=>false
def mz(K:aD)(C:Cfg)(F H:Hp)(p:av):D->Prop
 | .lst ds=>∃xs,H p=some (.lst xs)/\aH K C F ds xs
 | .dH t ds=>t=2/\∃xs,C.own K F H p xs/\aH K C F ds xs
 | _=>False
section
variable {K:aD}{C:Cfg}{F F' H H':Hp}{p:av}
theorem mz.VL:∀{d:D},mz K C F H p d->∃o,H p=some o/\Dm.VL o=true
 | .lst _,h=>let⟨_,e,_⟩:=h;⟨_,e,rfl⟩
 | .dH _ _,h=>let⟨_,_,e,_⟩:=h;let⟨_,q⟩:=C.ao5 e;⟨_,q,rfl⟩
theorem mz.k9:∀{d:D},mz K C F H p d->Dm.k9 d=true
 | .lst _,_=>rfl
 | .dH _ _,h=>by rw[Dm.k9,h.1];rfl
theorem mz.mono(f:aI F F')(e:H' p=H p):∀{d:D},mz K C F H p d->mz K C F' H' p d
 | .lst _,h=>let⟨xs,a,b⟩:=h;⟨xs,e.trans a,b.same f _⟩
 | .dH _ _,h=>let⟨t,xs,a,b⟩:=h;⟨t,xs,C.IC f e a,b.same f _⟩
def mz.later(f:aI F F')(e:aI H H')(h:mz K C F H p d):mz K C F' H' p d:=by
 obtain⟨o,q,_⟩:=h.VL;exact h.mono f ((e _ _ q).trans q.symm)
theorem mz.rep(f:aI F (er G [p]))(e:G p=H p):∀{d:D},mz K C F H p d->Rep K C G d (.ref p)
 | .lst _,h=>by obtain⟨xs,a,b⟩:=h;rw[Rep];exact⟨p,xs,rfl,.of (e.trans a),b.same f _⟩
 | .dH _ _,h=>by obtain⟨rfl,xs,a,b⟩:=h;rw[Rep];exact⟨p,xs,rfl,C.VI a (f.trans (aJ _ _)) e,b.same (f.trans (aJ _ _)) _⟩
end
def pW(K:aD)(C:Cfg)(G F:Hp)(d:D)(v:V):Prop:=∀s ds,d = .tup [.str s,.lst ds]->∃q p xs,v = .ref q/\jA K F q [.str s,.ref p]/\G p=none/\F p=some (.lst xs)/\aH K C (er F [p]) ds xs
def pO:D->Bool
 | .tup [.str _,.lst _]=>false
 | _=>true
def pW.not{K:aD}{C:Cfg}{G F:Hp}{d:D}{v:V}(n:pO d=true):pW K C G F d v:=fun s ds z=>by subst z;cases n
def pW.mono{K:aD}{C:Cfg}{G F F':Hp}{d:D}{v:V}(f:aI F F')(t:pW K C G F d v):pW K C G F' d v:=fun s ds h=>by
 refine AB (t s ds h) fun q p xs a b c e g=>?_;exact⟨q,p,xs,a,aI.tup f b,c,f _ _ e,g.same (aK f) _⟩
def pW.early{K:aD}{C:Cfg}{G G' F:Hp}{d:D}{v:V}(e:aI G G')(t:pW K C G' F d v):pW K C G F d v:=fun s ds h=>by
 refine R8 (t s ds h) fun q p xs a b c=>?_;exact⟨q,p,xs,a,b,e.free c.1,c.2⟩
def kj(K:aD)(C:Cfg)(G F:Hp)(d:D)(v:V):Prop:=(k9 d=true->∃p,v = .ref p/\G p=none/\mz K C (er F [p]) F p d)/\pW K C G F d v
def ao8:List α->Option (α×α)
 | []=>none
 | a::l=>match l with
  | []=>none
  | b::l=>match l with
   | []=>some (a,b)
   | _::_=>none
def wz:D->Option (List D)
 | .tup ds=>some ds
 | .cH | .bl _ | .int _ | .str _ | .lst _ | .dH _ _=>none
def VM:D->Option Str
 | .str s=>some s
 | .cH | .bl _ | .int _ | .tup _ | .lst _ | .dH _ _=>none
def uf:D->Option (List D)
 | .lst s=>some s
 | .cH | .bl _ | .int _ | .tup _ | .str _ | .dH _ _=>none
def Oi{d:D}(h:wz d=some z):d = .tup z:=by cases d <;> cases h;rfl
def D3{d:D}(h:uf d=some z):d = .lst z:=by cases d <;> cases h;rfl
def Be(d:D):Option (Str×Str×List D):=((wz d).bind ao8).bind fun p=>(VM p.1).bind fun s=>((wz p.2).bind ao8).bind fun q=>(VM q.1).bind fun s'=>(uf q.2).map fun ds=>(s,s',ds)
theorem D4{K:aD}{F:Hp}:∀{ds:List D} {vs:List V},vs.length=ds.length->(∀(j:Nat) (d:D) (v:V),ds[j]?=some d->vs[j]?=some v->Rep K C F d v)->aH K C F ds vs
 | [],[],_,_=>.nil
 | d::ds,v::vs,l,h=>.cons (h 0 d v rfl rfl) (D4 (by simpa using l) fun j d v h1 h2=>h (j+1) d v h1 h2)
 | [],_::_,l,_=>by cases l
 | _::_,[],l,_=>by cases l
def Lns(K:aD)(C:Cfg)(A:List av)(H:Hp)(ds:List D)(xs:List V):Prop:=xs.length=ds.length/\∀(j:Nat) (d:D) (v:V),ds[j]?=some d->xs[j]?=some v->∃a ys es,d = .lst es/\v = .ref a/\a∈A/\H a=some (.lst ys)/\cV es=true/\aH K C (er H A) es ys
section
variable (K:aD)(C:Cfg)
def Val(κ:Kd)(G0:Hp)(A:List av)(H H':Hp)(d:D)(v:V):Prop:=match κ with
 | .new=>Rep K C (nw H H') d v/\kj K C H (nw H H') d v
 | .pB=>Rep K C (er H' A) d v/\kj K C H (er H' A) d v
 | .loc=>Rep K C (nw G0 (er H' A)) d v/\kj K C G0 (nw G0 (er H' A)) d v
 | .old=>Rep K C (er H' A) d v
 | .uU=>Rep K C (nw G0 H') d v/\kj K C G0 (nw G0 H') d v
 | .fD=>Rep K C H' d v
def eh(n:Bool)(G0:Hp)(A:List av)(H:Hp):Hp:=if n=true then nw G0 (er H A)else er H A
def Slot(k:SK)(G0:Hp)(A:List av)(H:Hp)(d:D)(v:V):Prop:=match k with
 | .par=>Rep K C (er H A) d v
 | .loc=>Rep K C (nw G0 (er H A)) d v/\kj K C G0 (nw G0 (er H A)) d v
 | .own n=>(∃p,v = .ref p/\p∈A/\G0 p=none/\mz K C (eh n G0 A H) H p d)\/(k9 d=false/\pW K C G0 (eh n G0 A H) d v/\Rep K C (eh n G0 A H) d v)
 | .any=>Rep K C H d v
 | .pr=>(∃q p s ds xs,d = .tup [.str s,.lst ds]/\v = .ref q/\jA K (er H A) q [.str s,.ref p]/\p∈A/\G0 p=none/\H p=some (.lst xs)/\aH K C (er H A) ds xs)\/(pO d=true/\Rep K C (er H A) d v)
 | .ll=>∃p a xs es ds vs,d = .lst (.lst es::ds)/\v = .ref p/\p∈A/\a∈A/\p≠a/\G0 p=none/\G0 a=none/\H p=some (.lst (.ref a::vs))/\H a=some (.lst xs)/\aH K C (er H A) es xs/\aH K C (er H A) ds vs
 | .dp=>(∃q r p s s' ds xs,d = .tup [.str s,.tup [.str s',.lst ds]]/\v = .ref q/\jA K (er H A) q [.str s,.ref r]/\jA K (er H A) r [.str s',.ref p]/\er H A p=some (.lst xs)/\Lns K C A H ds xs)\/(Be d=none/\Rep K C (er H A) d v)
structure RS(G0:Hp)(Γ:List SK)(σ:L2.St)(H:Hp)(A:List av)(st:eY):Prop where
 base:aI G0 (er H A)
 lists:∀a∈A,∃o,H a=some o/\VL o=true
 len:σ.length=st.length
 slot:∀(i:Nat) (d:D),st[i]?=some (some d)->∃k v,Γ[i]?=some k/\σ[i]?=some (some v)/\Slot K C k G0 A H d v
 apart:∀(i j:Nat) (n m:Bool) (p:av) (d e:D),i≠j->Γ[i]?=some (.own n)->Γ[j]?=some (.own m)->st[i]?=some (some d)->st[j]?=some (some e)->k9 d=true->k9 e=true->σ[i]?=some (some (.ref p))->σ[j]?≠some (some (.ref p))
 gl:C.gl G0
end
section
variable {K:aD}{C:Cfg}{G0:Hp}{Γ:List SK}{σ:L2.St}{H H' H'' H1:Hp}{A:List av}{st:eY}{κ:Kd}{d:D}{v:V}
theorem kj.mono(f:aI F F')(t:kj K C G F d v):kj K C G F' d v:=⟨fun h=>by
 refine bK (t.1 h) fun p a b c=>?_;exact⟨p,a,b,c.later (aK f) f⟩,t.2.mono f⟩
theorem kj.early(e:aI G G')(t:kj K C G' F d v):kj K C G F d v:=⟨fun h=>by
 refine bK (t.1 h) fun p a b c=>?_;exact⟨p,a,e.free b,c⟩,t.2.early e⟩
def Bf(K:aD)(C:Cfg)(G F:Hp)(ds:List D)(vs:List V):Prop:=∀(j:Nat) (d:D) (v:V),ds[j]?=some d->vs[j]?=some v->kj K C G F d v
theorem Bf.mono{K:aD}(f:aI F F')(t:Bf K C G F ds vs):Bf K C G F' ds vs:=fun j d v h1 h2=>(t j d v h1 h2).mono f
def Bf.snoc{K:aD}(l:vs.length=ds.length)(t:Bf K C G F ds vs)(h:kj K C G F d v):Bf K C G F (ds++[d]) (vs++[v]):=fun j d' v' h1 h2=>by
 by_cases hj:j<ds.length;rw[kR hj]at h1;rw[kR (by rw[l];exact hj)]at h2;exact t j d' v' h1 h2;rw[kQ (nu hj)]at h1;rw[kQ (by rw[l];exact nu hj),l]at h2;have e:j-ds.length=0:=by have:=(fV.mp h1).1;rw[vt]at this;lia
 rw[e]at h1 h2;cases h1;cases h2;exact h
def Dst(ds:List D)(vs:List V):Prop:=∀(j k:Nat) (d d':D) (v:V),j≠k->ds[j]?=some d->ds[k]?=some d'->k9 d=true->k9 d'=true->vs[j]?=some v->vs[k]?≠some v
def uV{α:Type}{l:List α}{x y:α}{j:Nat}(h:(l++[x])[j]?=some y):(j<l.length/\l[j]?=some y)\/(j=l.length/\y=x):=by
 by_cases hj:j<l.length;rw[kR hj]at h;exact .inl ⟨hj,h⟩;rw[kQ (nu hj)]at h;have e:j-l.length=0:=by have:=(fV.mp h).1;rw[vt]at this;lia
 rw[e]at h;cases h;exact .inr ⟨by lia,rfl⟩
def Dst.snoc(l:vs.length=ds.length)(t:Dst ds vs)(h:k9 d=true->∀(j:Nat) (d':D),ds[j]?=some d'->k9 d'=true->vs[j]?≠some v):Dst (ds++[d]) (vs++[v]):=fun j k d1 d2 u jk h1 h2 o1 o2 v1 v2=>by
 rcases uV h1 with⟨j1,g1⟩|⟨j1,g1⟩ <;> rcases uV h2 with⟨k1,g2⟩|⟨k1,g2⟩ <;> rcases uV v1 with⟨j2,w1⟩|⟨j2,w1⟩ <;> rcases uV v2 with⟨k2,w2⟩|⟨k2,w2⟩ <;> first
  | exact t j k d1 d2 u jk g1 g2 o1 o2 w1 w2
  | exact h (g2▸o2) j d1 g1 o1 (w2▸w1)
  | exact h (g1▸o1) k d2 g2 o2 (w1▸w2)
  | lia
def D5(K:aD)(C:Cfg)(G F:Hp)(d:D)(v:V):Prop:=∀ds,d = .lst ds->∃p xs,v = .ref p/\F p=some (.lst xs)/\Bf K C G (er F [p]) ds xs/\Dst ds xs
def GU(K:aD)(C:Cfg)(G F:Hp)(d:D)(v:V):Prop:=D5 K C G F d v/\∀z,Be d=some z->∃q r p xs,v = .ref q/\jA K F q [.str z.1,.ref r]/\jA K F r [.str z.2.1,.ref p]/\D5 K C G F (.lst z.2.2) (.ref p)/\G p=none/\F p=some (.lst xs)/\aH K C (er F [p]) z.2.2 xs
def GU.not(h:∀ds,d≠ .lst ds)(h':Be d=none):GU K C G F d v:=⟨fun ds z=>(h ds z).elim,fun z w=>by rw[h']at w;cases w⟩
def D5.deep{K:aD}{ds:List D}(t:D5 K C G F (.lst ds) v):GU K C G F (.lst ds) v:=⟨t,fun z w=>by cases w⟩
theorem Oj:∀{d:D},fU d=true->k9 d=false
 | .lst _,h=>by rw[fU]at h;cases h
 | .dH _ _,h=>by rw[fU]at h;cases h
 | .cH,_=>rfl
 | .bl _,_=>rfl
 | .int _,_=>rfl
 | .str _,_=>rfl
 | .tup _,_=>rfl
theorem kj.not(n:k9 d=false)(m:pO d=true):kj K C G F d v:=⟨fun h=>(by rw[n]at h;cases h),.not m⟩
theorem kj.fU(n:fU d=true):kj K C G F d v:=⟨fun h=>(by rw[Oj n]at h;cases h),fun s ds z=>by subst z;simp[Dm.fU,cV]at n⟩
def Val.later(e:aI H' H'')(q:Val K C κ G0 A H H' d v):Val K C κ G0 A H H'' d v:=by
 cases κ with
 | new=>exact⟨q.1.same (bS e) _,q.2.mono (bS e)⟩
 | pB=>exact⟨q.1.same (aK e) _,q.2.mono (aK e)⟩
 | loc=>exact⟨q.1.same (bS (aK e)) _,q.2.mono (bS (aK e))⟩
 | old=>exact Rep.same (aK e) _ q
 | uU=>exact⟨q.1.same (bS e) _,q.2.mono (bS e)⟩
 | fD=>exact Rep.same e _ q
theorem Val.early(e:aI H H1)(q:Val K C κ G0 A H1 H' d v):Val K C κ G0 A H H' d v:=by
 cases κ with
 | new=>exact⟨q.1.same (qZ e) _,(q.2.early e).mono (qZ e)⟩
 | pB=>exact⟨q.1,q.2.early e⟩
 | loc=>exact q
 | old=>exact q
 | uU=>exact q
 | fD=>exact q
def Val.rep(q:Val K C κ G0 A H H' d v):Rep K C H' d v:=by
 cases κ with
 | new=>exact q.1.same (cT _ _) _
 | pB=>exact q.1.same (aJ _ _) _
 | loc=>exact q.1.same ((cT _ _).trans (aJ _ _)) _
 | old=>exact Rep.same (aJ _ _) _ q
 | uU=>exact q.1.same (cT _ _) _
 | fD=>exact q
def Slot.move{k:SK}(e:aI H H')(ee:aI (er H A) (er H' A'))(sb:∀a∈A,a∈A')(h3:Slot K C k G0 A H d v):Slot K C k G0 A' H' d v:=by
 have S8:∀n,aI (eh n G0 A H) (eh n G0 A' H'):=fun n=>by unfold eh;cases n;exact ee;exact bS ee
 cases k with
 | par=>exact Rep.same ee _ h3
 | loc=>exact⟨h3.1.same (bS ee) _,h3.2.mono (bS ee)⟩
 | own n=>rcases h3 with⟨p,b,c,f,g⟩|⟨a,b⟩;exact .inl ⟨p,b,sb _ c,f,g.later (S8 n) e⟩;exact .inr ⟨a,b.1.mono (S8 n),b.2.same (S8 n) _⟩
 | pr=>rcases h3 with⟨q,p,s,ds,xs,a,b,c,f,g,h,j⟩|⟨a,b⟩;exact .inl ⟨q,p,s,ds,xs,a,b,aI.tup ee c,sb _ f,g,e _ _ h,j.same ee _⟩;exact .inr ⟨a,Rep.same ee _ b⟩
 | ll=>obtain⟨p,a,xs,es,ds,vs,h4,h5,h6,h7,h8,h9,h10,h11,h12,h13,h14⟩:=h3;exact⟨p,a,xs,es,ds,vs,h4,h5,sb _ h6,sb _ h7,h8,h9,h10,e _ _ h11,e _ _ h12,h13.same ee _,h14.same ee _⟩
 | dp=>
  rcases h3 with⟨q,r,p,s,s',ds,xs,h4,h5,h6,h7,h8,h9⟩|⟨a,b⟩;exact .inl ⟨q,r,p,s,s',ds,xs,h4,h5,aI.tup ee h6,aI.tup ee h7,ee _ _ h8,h9.1,fun j d v g1 g2=>by
   obtain⟨a,ys,es,k1,k2,k3,k4,k5,k6⟩:=h9.2 j d v g1 g2;exact⟨a,ys,es,k1,k2,sb _ k3,e _ _ k4,k5,k6.same ee _⟩⟩
  exact .inr ⟨a,Rep.same ee _ b⟩
 | any=>exact Rep.same e _ h3
def RS.mono(r:RS K C G0 Γ σ H A st)(e:aI H H'):RS K C G0 Γ σ H' A st where
 base:=r.base.trans (aK e)
 lists:=fun a m=>let⟨o,h,z⟩:=r.lists a m;⟨o,e _ _ h,z⟩
 len:=r.len
 slot:=fun i d h=>b7 (r.slot i d h) fun k v h1 h2 h3=>⟨k,v,h1,h2,h3.move e (aK e) fun _ m=>m⟩
 apart:=r.apart
 gl:=r.gl
def RS.g0(r:RS K C G0 Γ σ H A st):aI G0 H:=r.base.trans (aJ _ _)
def RS.IF(r:RS K C G0 Γ σ H A st):jC H (er H A):=.er r.lists
def RS.wu(r:RS K C G0 Γ σ H A st):jC H (nw G0 (er H A)):=r.IF.trans (.nw r.base)
def Val.flat(r:RS K C G0 Γ σ H A st)(e:aI H H')(n:fU d=true)(q:Rep K C H' d v)(κ:Kd):Val K C κ G0 A H H' d v:=by
 have r':=r.mono e;cases κ with
 | new=>exact⟨q.part (.nw e) _ n,.fU n⟩
 | pB=>exact⟨q.part r'.IF _ n,.fU n⟩
 | loc=>exact⟨q.part r'.wu _ n,.fU n⟩
 | old=>exact Rep.part r'.IF _ n q
 | uU=>exact⟨q.part (.nw r'.g0) _ n,.fU n⟩
 | fD=>exact q
def RS.nZ(r:RS K C G0 Γ σ H A st)(e:aI H H'):aI (nw H H') (er H' A):=fun b o h=>by
 unfold nw at h;split at h;rename_i q;have:b∉A:=fun m=>by
  obtain⟨o,hx,z⟩:=r.lists b m;rw[hx]at q;cases o with
  | lst _=>cases q
  | ext _=>cases q
  | _=>cases z
 rw[aZ this];exact h;cases h
def RS.S9(r:RS K C G0 Γ σ H A st)(e:aI H H'):aI (nw H H') (nw G0 (er H' A)):=fun b o h=>by
 have h1:=r.nZ e b o h;unfold nw at h;split at h;rename_i q;unfold nw;rw[aU3 (qs r.g0 q)];exact h1;cases h
def Kd.le:Kd->Kd->Bool
 | .new,_=>true
 | .pB,.pB=>true | .pB,.old=>true | .pB,.fD=>true
 | .loc,.loc=>true | .loc,.old=>true | .loc,.uU=>true | .loc,.fD=>true
 | .old,.old=>true | .old,.fD=>true
 | .uU,.uU=>true | .uU,.fD=>true
 | .fD,.fD=>true
 | _,_=>false
theorem Val.le(r:RS K C G0 Γ σ H A st)(e:aI H H'){κ:Kd}(l:κ.le κ'=true)(q:Val K C κ G0 A H H' d v):Val K C κ' G0 A H H' d v:=by
 have ne:=r.nZ e;have nl:=r.S9 e;cases κ <;> cases κ' <;> first
  | exact q
  | (cases l;done)
  | exact q.rep
  | exact⟨q.1.same ne _,q.2.mono ne⟩
  | exact⟨q.1.same nl _,(q.2.early r.g0).mono nl⟩
  | exact q.1.same ne _
  | exact⟨q.1.same (nl.trans (bS (aJ _ _))) _,(q.2.early r.g0).mono (nl.trans (bS (aJ _ _)))⟩
  | exact q.1
  | exact q.1.same (cT _ _) _
  | exact⟨q.1.same (bS (aJ _ _)) _,q.2.mono (bS (aJ _ _))⟩
end
def Kd.hp(κ:Kd)(G0:Hp)(A:List av)(H H':Hp):Hp:=match κ with
 | .new=>nw H H' | .pB=>er H' A | .loc=>nw G0 (er H' A) | .old=>er H' A | .uU=>nw G0 H' | .fD=>H'
def SK.kd:SK->Kd
 | .par=>.old | .loc=>.loc | .own true=>.uU | .own false=>.fD | .any=>.fD | .pr=>.fD | .ll=>.fD | .dp=>.fD
def SK.takes:SK->Kd->Bool
 | .par,κ=>κ.le .old
 | .loc,κ=>κ.le .loc
 | .own true,κ=>κ.le .new
 | .own false,κ=>κ.le .pB
 | .any,_=>true
 | .pr,κ=>κ.le .new
 | .ll,_=>false
 | .dp,_=>false
theorem Kd.Ol:∀{κ:Kd},κ.le .new=true->κ = .new
 | .new,_=>rfl
section
variable {K:aD}{C:Cfg}{G0:Hp}{Γ:List SK}{σ:L2.St}{H H':Hp}{A:List av}{st:eY}{κ:Kd}{d:D}{v:V}
theorem Val.hp(q:Val K C κ G0 A H H' d v):Rep K C (κ.hp G0 A H H') d v:=by
 cases κ with
 | new=>exact q.1
 | pB=>exact q.1
 | loc=>exact q.1
 | old=>exact q
 | uU=>exact q.1
 | fD=>exact q
def Kd.oh(e:aI H' H''):aI (κ.hp G0 A H H') (κ.hp G0 A H H''):=by
 cases κ with
 | new=>exact bS e
 | pB=>exact aK e
 | loc=>exact bS (aK e)
 | old=>exact aK e
 | uU=>exact bS e
 | fD=>exact e
def Kd.Om(e:aI H H1):aI (κ.hp G0 A H1 H') (κ.hp G0 A H H'):=by
 cases κ with
 | new=>exact qZ e
 | pB=>exact .refl _
 | loc=>exact .refl _
 | old=>exact .refl _
 | uU=>exact .refl _
 | fD=>exact .refl _
def Kd.wA:aI (κ.hp G0 A H H') H':=by
 cases κ with
 | new=>exact cT _ _
 | pB=>exact aJ _ _
 | loc=>exact(cT _ _).trans (aJ _ _)
 | old=>exact aJ _ _
 | uU=>exact cT _ _
 | fD=>exact .refl _
def bT(h:H p=none):aI H (upd H p o):=fun b u q=>by rw[bq (bG q h)];exact q
def D6(r:RS K C G0 Γ σ H A st)(e:aI H H')(h:H' p=none):κ.hp G0 A H (upd H' p o) p=some o:=by
 have h0:H p=none:=e.free h;have g0:G0 p=none:=r.g0.free h0;have nA:p∉A:=fun m=>by obtain⟨xs,q,_⟩:=r.lists p m;rw[h0]at q;cases q
 have u:upd H' p o p=some o:=cA;cases κ with
 | new=>show nw H _ p=_;rw[k7 h0];exact u
 | pB=>show er _ A p=_;rw[aZ nA];exact u
 | loc=>show nw G0 _ p=_;rw[k7 g0,aZ nA];exact u
 | old=>show er _ A p=_;rw[aZ nA];exact u
 | uU=>show nw G0 _ p=_;rw[k7 g0];exact u
 | fD=>exact u
theorem Val.tup(r:RS K C G0 Γ σ H A st)(e:aI H H')(h:H' p=none)(np:pO (.tup ds)=true)(q:aH K C (κ.hp G0 A H H') ds xs):Val K C κ G0 A H (upd H' p (.tup xs)) (.tup ds) (.ref p):=by
 have R:Rep K C (κ.hp G0 A H (upd H' p (.tup xs))) (.tup ds) (.ref p):=by rw[Rep];exact⟨p,xs,rfl,.of (D6 r e h),q.same (Kd.oh (bT h)) _⟩
 have T:∀G F,kj K C G F (.tup ds) (.ref p):=fun G F=>.not rfl np;cases κ with
 | new=>exact⟨R,T _ _⟩
 | pB=>exact⟨R,T _ _⟩
 | loc=>exact⟨R,T _ _⟩
 | old=>exact R
 | uU=>exact⟨R,T _ _⟩
 | fD=>exact R
theorem Val.lst(r:RS K C G0 Γ σ H A st)(e:aI H H')(h:H' p=none)(q:aH K C (κ.hp G0 A H H') ds xs):Val K C κ G0 A H (upd H' p (.lst xs)) (.lst ds) (.ref p):=by
 have h0:H p=none:=e.free h;have R0:aH K C (er (κ.hp G0 A H (upd H' p (.lst xs))) [p]) ds xs:=by
  refine q.same (fun b u z=>?_) _;have nb:b≠p:=fun w=>by have:=Kd.wA _ _ z;rw[w,h]at this;cases this
  rw[aZ (by simpa using nb)];exact Kd.oh (bT h) _ _ z
 have R:Rep K C (κ.hp G0 A H (upd H' p (.lst xs))) (.lst ds) (.ref p):=by rw[Rep];exact⟨p,xs,rfl,.of (D6 r e h),R0⟩
 have T:∀G,G p=none->kj K C G (κ.hp G0 A H (upd H' p (.lst xs))) (.lst ds) (.ref p):=fun G g=>⟨fun _=>⟨p,rfl,g,xs,D6 r e h,R0⟩,.not rfl⟩
 cases κ with
 | new=>exact⟨R,T _ h0⟩
 | pB=>exact⟨R,T _ h0⟩
 | loc=>exact⟨R,T _ (r.g0.free h0)⟩
 | old=>exact R
 | uU=>exact⟨R,T _ (r.g0.free h0)⟩
 | fD=>exact R
def Sa(h:pO d=false):∃s ds,d = .tup [.str s,.lst ds]:=by
 unfold pO at h;split at h;exact⟨_,_,rfl⟩;cases h
theorem Oo:∀{d:D},k9 d=true->pO d=true
 | .lst _,_=>rfl
 | .dH _ _,_=>rfl
 | .tup _,h=>by cases h
def RS.read(r:RS K C G0 Γ σ H A st){i:Nat}(hk:Γ[i]?=some k)(h:st[i]?=some (some d)):∃v,σ[i]?=some (some v)/\Val K C k.kd G0 A H H d v:=by
 refine b7 (r.slot i d h) fun k' v h1 h2 h3=>?_;rw[hk]at h1;cases h1;refine⟨v,h2,?_⟩;cases k with
 | par=>exact h3
 | loc=>exact h3
 | any=>exact h3
 | pr=>
  show Rep K C H d v;rcases h3 with⟨q,p,s,ds,xs,rfl,rfl,c,f,g,h,j⟩|⟨_,b⟩;have S:aI (er H A) (er H [p]):=fun b u w=>by
   have nb:b≠p:=fun z=>by rw[z,dP f]at w;cases w
   rw[aZ (by simpa using nb)];exact aJ _ _ _ _ w
  rw[Rep];refine⟨q,_,rfl,aI.tup (aJ _ _) c,.cons (by rw[Rep]) (.cons ?_ (by rw[aH]))⟩;rw[Rep];exact⟨p,xs,rfl,.of h,j.same S _⟩;exact b.same (aJ _ _) _
 | ll=>
  obtain⟨p,a,xs,es,ds,vs,rfl,rfl,h6,h7,h8,h9,h10,h11,h12,h13,h14⟩:=h3;show Rep K C H _ _;have S:∀{B:List av},(∀b∈B,b∈A)->aI (er H A) (er H B):=fun sb b u w=>by by_cases mb:b∈A;rw[dP mb]at w;cases w;rw[aZ (fun z=>mb (sb b z))];rw[aZ mb]at w;exact w
  have S1:aI (er H A) (er H [p]):=S fun b m=>by rw[eG.mp m];exact h6
  rw[Rep];refine⟨p,_,rfl,.of h11,.cons ?_ (h14.same S1 _)⟩;rw[Rep];refine⟨a,xs,rfl,.of (by rw[aZ (by simpa using fm h8)];exact h12),h13.same (fun b u w=>?_) _⟩;have mb:b∉A:=fun m=>by rw[dP m]at w;cases w
  rw[aZ mb]at w;rw[aZ (by simp;exact fun z=>mb (z▸h7)),aZ (by simp;exact fun z=>mb (z▸h6))];exact w
 | dp=>
  rcases h3 with⟨q,t,p,s,s',ds,xs,rfl,rfl,h6,h7,h8,h9⟩|⟨_,b⟩;show Rep K C H _ _;have np:p∉A:=fun m=>by rw[dP m]at h8;cases h8
  have hp:=aJ _ _ _ _ h8;rw[Rep];refine⟨q,_,rfl,aI.tup (aJ _ _) h6,.cons (by rw[Rep]) (.cons ?_ (by rw[aH]))⟩;rw[Rep];refine⟨t,_,rfl,aI.tup (aJ _ _) h7,.cons (by rw[Rep]) (.cons ?_ (by rw[aH]))⟩;rw[Rep];refine⟨p,xs,rfl,.of hp,D4 h9.1 fun j d v g1 g2=>?_⟩;obtain⟨a,ys,es,rfl,rfl,k3,k4,k5,k6⟩:=h9.2 j d v g1 g2;have ap:a≠p:=fun z=>np (z▸k3);rw[Rep];refine⟨a,ys,rfl,.of (by rw[aZ (by simpa using ap)];exact k4),?_⟩;refine(k6.same (aJ _ _) _).part ((jC.er fun b m=>?_).trans (.er fun b m=>?_)) _ k5;rw[eG.mp m];exact⟨_,hp,rfl⟩;rw[eG.mp m,aZ (by simpa using ap)];exact⟨_,k4,rfl⟩;exact b.same (aJ _ _) _
 | own n=>
  rcases h3 with⟨p,rfl,c,f,g⟩|⟨a,b⟩;have np:∀b u,eh n G0 A H b=some u->b≠p:=fun b u w w'=>by
   subst w';unfold eh at w;cases n with
   | true=>have:=cT _ _ _ _ w;rw[dP c]at this;cases this
   | false=>rw[aU4 (by decide),dP c]at w;cases w
  have S:∀F:Hp,aI (eh n G0 A H) F->aI (eh n G0 A H) (er F [p]):=fun F e b u w=>by rw[aZ (by simpa using np b u w)];exact e _ _ w
  cases n with
  | true=>
   have e1:aI (eh true G0 A H) (nw G0 H):=by unfold eh;exact bS (aJ _ _)
   have e2:nw G0 H p=H p:=k7 f;exact⟨g.rep (S _ e1) e2,fun _=>⟨p,rfl,f,g.mono (S _ e1) e2⟩,.not (Oo g.k9)⟩
  | false=>
   have e1:aI (eh false G0 A H) H:=by unfold eh;exact aJ _ _
   exact g.rep (S _ e1) rfl
  cases n with
  | true=>exact⟨b.2.same (by unfold eh;exact bS (aJ _ _)) _,fun h=>(by rw[a]at h;cases h),b.1.mono (by unfold eh;exact bS (aJ _ _))⟩
  | false=>exact b.2.same (by unfold eh;exact aJ _ _) _
theorem RS.set(r:RS K C G0 Γ σ H A st)(e:aI H H')(hk:Γ[i]?=some k)(l:k.takes κ=true)(q:Val K C κ G0 A H H' d v) :
  ∃A',RS K C G0 Γ (σ.set i (some v)) H' A' (st.set i (some d))/\aI (er H A) (er H' A')/\∀a∈A,a∈A':=by
 have r':=r.mono e;have same:(∀n,k = .own n->k9 d=false)->Slot K C k G0 A H' d v->∃A',RS K C G0 Γ (σ.set i (some v)) H' A' (st.set i (some d))/\aI (er H A) (er H' A')/\∀a∈A,a∈A':=fun nl s=>by
  refine⟨A,⟨r'.base,r'.lists,by simp[r.len],fun j d' h=>?_,fun a b n m p ds es rT g1 g2 s1 s2 o1 o2 w1 w2=>?_,r.gl⟩,aK e,fun _ m=>m⟩;by_cases hj:i=j;subst hj;have gh:i<st.length:=by have:=(fV.mp h).1;simpa using this
  rw[l9 gh]at h;cases h;exact⟨k,v,hk,l9 (by rw[r.len];exact gh),s⟩;rw[kF hj]at h ⊢;exact r'.slot j d' h;have ha:a≠i:=fun z=>by
   subst z;have gh:a<st.length:=by have:=(fV.mp s1).1;simpa using this
   rw[l9 gh]at s1;rw[hk]at g1;cases s1;rw[nl n (dN g1)]at o1;cases o1
  have hb:b≠i:=fun z=>by
   subst z;have gh:b<st.length:=by have:=(fV.mp s2).1;simpa using this
   rw[l9 gh]at s2;rw[hk]at g2;cases s2;rw[nl m (dN g2)]at o2;cases o2
  rw[kF (fm ha)]at s1 w1;rw[kF (fm hb)]at s2 w2;exact r.apart a b n m p ds es rT g1 g2 s1 s2 o1 o2 w1 w2
 cases k with
 | par=>exact same (fun _ z=>by cases z) (Val.le r e (κ':=.old) l q)
 | loc=>exact same (fun _ z=>by cases z) (Val.le r e (κ':=.loc) l q)
 | any=>exact same (fun _ z=>by cases z) q.rep
 | ll=>cases l
 | dp=>cases l
 | pr=>
  obtain rfl:=Kd.Ol (κ:=κ) l;have qo:Rep K C (er H' A) d v:=Val.le r e (κ:=.new) (κ':=.old) rfl q;by_cases hd:pO d=true;exact same (fun _ z=>by cases z) (.inr ⟨hd,qo⟩);obtain⟨s,ds,rfl⟩:∃s ds,d = .tup [.str s,.lst ds]:=Sa (qi.mpr hd);obtain⟨tq,p,xs,rfl,sq,h0,QW,i1⟩:=q.2.2 s ds rfl;have hp:H' p=some (.lst xs):=cT _ _ _ _ QW;have pA:p∉A:=fun m=>by obtain⟨ys,z,_⟩:=r.lists p m;rw[h0]at z;cases z
  have g0:G0 p=none:=r.g0.free h0;have ee:aI (er H A) (er H' (p::A)):=fun b u z=>by
   have nb:b≠p:=fun w=>by have:=aJ _ _ _ _ z;rw[w,h0]at this;cases this
   by_cases mb:b∈A;rw[dP mb]at z;cases z;rw[aZ (by simp[nb,mb])];rw[aZ mb]at z;exact e _ _ z
  have S8:∀m,aI (eh m G0 A H) (eh m G0 (p::A) H'):=fun m=>by unfold eh;cases m;exact ee;exact bS ee
  have en:aI (er (nw H H') [p]) (er H' (p::A)):=fun b u z=>by by_cases nb:b=p;rw[nb,dP (by simp)]at z;cases z;rw[aZ (by simpa using nb)]at z;have:=r.nZ e _ _ z;by_cases mb:b∈A;rw[dP mb]at this;cases this;rw[aZ mb]at this;rw[aZ (by simp[nb,mb])];exact this
  have sq':jA K (er H' (p::A)) tq [.str s,.ref p]:=by
   rcases sq with sq|sq;refine .inl ?_;have nq:tq≠p:=fun w=>by rcases sq with sq|⟨u,sq⟩;rw[w,QW]at sq;cases sq;rw[w,QW]at sq;cases sq
   have up:nw H H' tq=er H' (p::A) tq\/nw H H' tq=none:=by
    cases hz:nw H H' tq with
    | none=>exact .inr rfl
    | some u=>refine .inl ?_;have:=en tq u (by rw[aZ (by simpa using nq)];exact hz);rw[this]
   rcases sq with sq|⟨u,sq⟩;rcases up with up|up;exact .inl (by rw[<- up];exact sq);rw[up]at sq;cases sq;rcases up with up|up;exact .inr ⟨u,by rw[<- up];exact sq⟩;rw[up]at sq;cases sq;exact .inr sq
  refine⟨p::A,⟨r.base.trans ee,fun a m=>?_,by simp[r.len],fun j d' h=>?_,fun a b n' m' p' IG Lf rT g1 g2 s1 s2 o1 o2 w1 w2=>?_,r.gl⟩,ee,fun _ m=>.tail _ m⟩;rcases bD.mp m with rfl|m;exact⟨_,hp,rfl⟩;exact r'.lists a m;by_cases hj:i=j;subst hj;have gh:i<st.length:=by have:=(fV.mp h).1;simpa using this
  rw[l9 gh]at h;cases h;exact⟨.pr,.ref tq,hk,l9 (by rw[r.len];exact gh),.inl ⟨tq,p,s,ds,xs,rfl,rfl,sq',.head _,g0,hp,i1.same en _⟩⟩;rw[kF hj]at h ⊢;exact b7 (r.slot j d' h) fun k' v' h1 h2 h3=>⟨k',v',h1,h2,h3.move e ee fun _ m=>.tail _ m⟩
  have ha:a≠i:=fun z=>by subst z;rw[hk]at g1;cases g1
  have hb:b≠i:=fun z=>by subst z;rw[hk]at g2;cases g2
  rw[kF (fm ha)]at s1 w1;rw[kF (fm hb)]at s2 w2;exact r.apart a b n' m' p' IG Lf rT g1 g2 s1 s2 o1 o2 w1 w2
 | own n=>
  have q1:Val K C .pB G0 A H H' d v:=Val.le r e (κ':=.pB) (by cases n <;> cases κ <;> first|rfl|cases l) q;have q2:n=true->Val K C .loc G0 A H H' d v:=fun z=>by subst z;obtain rfl:=Kd.Ol (κ:=κ) l;exact Val.le r e rfl q
  by_cases hd:k9 d=true;refine bK (q1.2.1 hd) fun p aT h0 i1=>?_;walk_at"c";refine aL i1.VL fun o QW hM=>?_;have hp:H' p=some o:=aJ _ _ _ _ QW;have pA:p∉A:=fun m=>by obtain⟨ys,z,_⟩:=r.lists p m;rw[h0]at z;cases z
  have g0:G0 p=none:=r.g0.free h0;have ee:aI (er H A) (er H' (p::A)):=fun b u z=>by
   have nb:b≠p:=fun w=>by have:=aJ _ _ _ _ z;rw[w,h0]at this;cases this
   by_cases mb:b∈A;rw[dP mb]at z;cases z;rw[aZ (by simp[nb,mb])];rw[aZ mb]at z;exact e _ _ z
  have S8:∀m,aI (eh m G0 A H) (eh m G0 (p::A) H'):=fun m=>by unfold eh;cases m;exact ee;exact bS ee
  have items:mz K C (eh n G0 (p::A) H') H' p d:=by
   cases n with
   | false=>exact i1.mono (fun b u z=>by
     by_cases mb:b∈[p]
     ·rw[dP mb]at z;cases z
     ·rw[aZ mb]at z
      by_cases ma:b∈A
      ·rw[dP ma]at z;cases z
      ·rw[aZ ma]at z
       show er H' (p::A) b=_
       rw[aZ (by simpa[ma]using mb)];exact z) (hp.trans QW.symm)
   | true=>
    refine bK ((q2 rfl).2.1 hd) fun p' e1 _ i2=>?_;cases e1;exact i2.mono (fun b u z=>by
     by_cases mb:b∈[p];rw[dP mb]at z;cases z;rw[aZ mb]at z;show nw G0 (er H' (p::A)) b=_;unfold nw at z ⊢;split at z;rename_i kk;rw[aU3 kk];by_cases ma:b∈A;rw[dP ma]at z;cases z;rw[aZ ma]at z;rw[aZ (by simpa[ma]using mb)];exact z;cases z) (by rw[k7 g0];exact hp.trans QW.symm)
  refine⟨p::A,⟨r.base.trans ee,fun a m=>?_,by simp[r.len],fun j d' h=>?_,fun a b n' m' p' IG Lf rT g1 g2 s1 s2 o1 o2 w1 w2=>?_,r.gl⟩,ee,fun _ m=>.tail _ m⟩;rcases bD.mp m with rfl|m;exact⟨o,hp,hM⟩;exact r'.lists a m;by_cases hj:i=j;subst hj;have gh:i<st.length:=by have:=(fV.mp h).1;simpa using this
  rw[l9 gh]at h;cases h;exact⟨.own n,.ref p,hk,l9 (by rw[r.len];exact gh),.inl ⟨p,rfl,.head _,g0,items⟩⟩;rw[kF hj]at h ⊢;exact b7 (r.slot j d' h) fun k' v' h1 h2 h3=>⟨k',v',h1,h2,h3.move e ee fun _ m=>.tail _ m⟩
  
  have old:∀{c:Nat} {nn:Bool} {cd:D},c≠i->Γ[c]?=some (.own nn)->(st.set i (some d))[c]?=some (some cd)->k9 cd=true->(σ.set i (some (.ref p)))[c]?≠some (some (.ref p)):=fun {c nn cd} hc gc sc oc wc=>by rw[kF (fm hc)]at sc wc;refine b7 (r.slot c _ sc) fun k' v' h1 h2 h3=>?_;rw[gc]at h1;cases h1;rw[wc]at h2;cases h2;rcases h3 with⟨p2,b,c',_⟩|⟨a,_⟩;cases b;exact pA c';rw[oc]at a;cases a
  by_cases ha:a=i;subst ha;have gh:a<st.length:=by have:=(fV.mp s1).1;simpa using this
  rw[l9 (by rw[r.len];exact gh)]at w1;cases w1;exact old (fm rT) g2 s2 o2 w2;by_cases hb:b=i;subst hb;have gh:b<st.length:=by have:=(fV.mp s2).1;simpa using this
  rw[l9 (by rw[r.len];exact gh)]at w2;cases w2;exact old ha g1 s1 o1 w1;rw[kF (fm ha)]at s1 w1;rw[kF (fm hb)]at s2 w2;exact r.apart a b n' m' p' IG Lf rT g1 g2 s1 s2 o1 o2 w1 w2;have hd:=qi.mpr hd;refine same (fun _ _=>hd) (.inr ⟨hd,?_⟩);cases n with
  | false=>exact⟨q1.2.2.early r.g0,q1.1⟩
  | true=>exact⟨(q2 rfl).2.2,(q2 rfl).1⟩
end
section
variable (K:aD)(C:Cfg)(G0:Hp)(Γ:List SK)(E:L2.St->XK)
def tD(f:DF)(κ:Kd):TE:=fun σ H Q=>∃A st,RS K C G0 Γ σ H A st/\match f st with
 | .ok d=>∀v H',aI H H'->Val K C κ G0 A H H' d v->Q v H'
 | .ex c p=>∀H',aI H H'->IE (E σ) c p H'
 | .bad=>False
def Bg(f:DA)(κ:Kd):TA:=fun σ H Q=>∃A st,RS K C G0 Γ σ H A st/\match f st with
 | .ok ds=>∀vs H',aI H H'->aH K C (κ.hp G0 A H H') ds vs->Q vs H'
 | .ex c p=>∀H',aI H H'->IE (E σ) c p H'
 | .bad=>False
def uW(f:DF):TT:=fun σ H Q=>∃A st,RS K C G0 Γ σ H A st/\match f st with
 | .ok (.bl b)=>∀H',aI H H'->Q b H'
 | .ex c p=>∀H',aI H H'->IE (E σ) c p H'
 | _=>False
end
def _root_.L2.PE.imp(h:PE X e t)(i:∀σ H Q,t' σ H Q->t σ H Q):PE X e t':=fun ak s σ H Q I q=>h ak s σ H Q I (i σ H Q q)
def _root_.L2.PT.imp(h:PT X e t)(i:∀σ H Q,t' σ H Q->t σ H Q):PT X e t':=fun ak s σ H Q I q=>h ak s σ H Q I (i σ H Q q)
def _root_.L2.PW.imp(h:PW X e t)(i:∀σ H Q,t' σ H Q->t σ H Q):PW X e t':=fun w ak s σ H Q I q=>h w ak s σ H Q I (i σ H Q q)
def _root_.L2.PA.imp(h:PA X e t)(i:∀σ H Q,t' σ H Q->t σ H Q):PA X e t':=fun p ak s σ H Q I q=>h p ak s σ H Q I (i σ H Q q)
def _root_.L2.PS.imp(h:PS X e t)(i:∀D σ H,t' D σ H->t D σ H):PS X e t':=fun ak s σ H D I q=>h ak s σ H D I (i D σ H q)
def _root_.L2.mZ.imp(h:mZ X e t)(i:∀D σ H,t' D σ H->t D σ H):mZ X e t':=fun ak s σ H D I q=>h ak s σ H D I (i D σ H q)
def ah(i:Nat):DF:=fun st=>match st[i]? with|some (some d)=>.ok d|_=>.bad
def dC(d:D):DF:=fun _=>.ok d
def aQ(f:DF):DF:=fun st=>(f st).bind fun d=>if fU d=true then .ok d else .bad
def aB(g:D->D->R D)(fa fb:DF):DF:=fun st=>(fa st).bind fun a=>(fb st).bind fun b=>g a b
def lV(g:D->R D)(fa:DF):DF:=fun st=>(fa st).bind g
def ao:DA:=fun _=>.ok []
def aa(f:DF)(g:DA):DA:=fun st=>(f st).bind fun d=>(g st).bind fun ds=>.ok (d::ds)
def aY(g:List D->R D)(f:DA):DF:=fun st=>(f st).bind g
def j6(fa fb:DF):DF:=fun st=>(fa st).bind fun a=>match a with | .bl true=>fb st | .bl false=>.ok (.bl false)|_=>.bad
def GV(fa fb:DF):DF:=fun st=>(fa st).bind fun a=>match a with | .bl true=>.ok (.bl true) | .bl false=>fb st|_=>.bad
def n9(fa:DF):DF:=fun st=>(fa st).bind fun a=>match a with | .bl b=>.ok (.bl (!b))|_=>.bad
section
variable {X:Cx}{C:Cfg}{G0:Hp}{Γ:List SK}{E:L2.St->XK}{a b c:bf}{fa fb:DF}{κ fL mC:Kd}
def Bh(i:Nat)(h:PE X e (qM i))(hk:Γ[i]?=some k:=by rfl):PE X e (tD X.K C G0 Γ E (ah i) k.kd):=h.imp fun σ H Q zz=>by
 refine cj zz fun A st r q=>?_;clear zz;unfold ah at q;cases hs:st[i]? with
 | none=>rw[hs]at q;exact q.elim
 | some o=>
  cases o with
  | none=>rw[hs]at q;exact q.elim
  | some d=>rw[hs]at q;refine aL (r.read hk hs) fun v h1 h2=>?_;exact⟨v,h1,q v H (.refl _) h2⟩
def Sb(h:PE X e (tC v))(n:fU d=true)(q:∀H,Rep X.K C H d v):PE X e (tD X.K C G0 Γ E (dC d) .new):=h.imp fun σ H Q jz=>jz.elim fun A n8=>n8.elim fun st sX=>sX.elim fun r k=>k v H (.refl _) (.flat r (.refl _) n (q H) _)
def Xo{j}:PE X (.Constant (.int i) j pos) (tD X.K C G0 Γ E (dC (.int i)) .new):=Sb Wo (by rw[fU] <;> simp) fun H=>by rw[Rep]
def II{j}:PE X (.Constant (.bool i) j pos) (tD X.K C G0 Γ E (dC (.bl i)) .new):=Sb ac3 (by rw[fU] <;> simp) fun H=>by rw[Rep]
def Xp{j}:PE X (.Constant (.str i) j pos) (tD X.K C G0 Γ E (dC (.str i)) .new):=Sb Wq (by rw[fU] <;> simp) fun H=>by rw[Rep]
def r8(hg:Gl X x)(hm:X.mg x=some (.int i t))(hd:(x==("__debug__" : Str))=false:=by decide):PE X (.Name x pos) (tD X.K C G0 Γ E (dC (.int i)) .new):=Sb (Ri hg hm (v:=.int i) ⟨t,rfl⟩ hd) (by rw[fU] <;> simp) fun H=>by rw[Rep]
def IJ(h:PE X e (tD X.K C G0 Γ E f κ)):PE X e (tD X.K C G0 Γ E (aQ f) .new):=h.imp fun σ H Q Gf=>Gf.elim fun A I8=>I8.elim fun st Ia=>Ia.elim fun r q=>⟨A,st,r,by
 unfold aQ R.bind at q;cases hf:f st with
 | ok d=>rw[hf]at q;dsimp only at q ⊢;by_cases n:fU d=true;rw[aU3 n]at q;exact fun v H' e w=>q v H' e (.flat r e n w.rep _);rw[aU4 n]at q;exact q.elim
 | ex c p=>walk_at"b"
 | bad=>rw[hf]at q;exact q⟩
def tE(K:aD)(C:Cfg)(r2:R2)(g:D->D->R D)(κ:Kd):Prop:=∀(G0:Hp) (Γ:List SK) (E:XK) (σ:L2.St) (A:List av) (st:eY) (H:Hp) (a b:D) (x y:V) (Q:VK),RS K C G0 Γ σ H A st->Rep K C H a x->Rep K C H b y->
 (match g a b with | .ok d=>∀v H',aI H H'->Val K C κ G0 A H H' d v->Q v H' | .ex c p=>∀H',aI H H'->IE E c p H' | .bad=>False)->r2 x y H Q
def two(ho:tE X.K C r2 g κ):∀σ H Q,tD X.K C G0 Γ E (aB g fa fb) κ σ H Q->tOp r2 (tD X.K C G0 Γ E fa fL) (tD X.K C G0 Γ E fb mC) σ H Q:=fun σ H Q zz=>by
 walk_at"a";unfold aB R.bind at q;cases ha:fa st with
 | bad=>rw[ha]at q;exact q
 | ex c p=>rw[ha]at q;exact q
 | ok a=>
  rw[ha]at q;walk_at"f";cases hb:fb st with
  | bad=>rw[hb]at q;exact q
  | ex c p=>rw[hb]at q;walk_at"g"
  | ok b=>
   rw[hb]at q;intro y H2 e2 w2;refine ho G0 Γ (E σ) σ A st H2 a b x y Q ((r.mono e1).mono e2) (w1.rep.same e2 _) w2.rep ?_;dsimp only at q;cases hg:g a b with
   | bad=>rw[hg]at q;exact q
   | ex c p=>rw[hg]at q;exact fun H' e'=>q H' ((e1.trans e2).trans e')
   | ok d=>rw[hg]at q;exact fun v H' e' w=>q v H' ((e1.trans e2).trans e') (w.early (e1.trans e2))
def zu(hr:pT X (binaryOp op) r2)(ho:tE X.K C r2 g κ)(ha:PE X a (tD X.K C G0 Γ E fa fL))(hb:PE X b (tD X.K C G0 Γ E fb mC)):PE X (.BinOp a op b pos) (tD X.K C G0 Γ E (aB g fa fb) κ):=(Ig hr ha hb).imp (two ho)
def tF(hr:pT X (gZ op) r2)(ho:tE X.K C r2 g κ)(ha:PE X a (tD X.K C G0 Γ E fa fL))(hb:PE X b (tD X.K C G0 Γ E fb mC))(hm:behindInMarks op b=false):PE X (.Compare a [op] [b] pos) (tD X.K C G0 Γ E (aB g fa fb) κ):=(Rq hr ha hb hm).imp (two ho)
def ap1(hr:QU X r2)(ho:tE X.K C r2 g κ)(ha:PE X a (tD X.K C G0 Γ E fa fL))(hb:PE X b (tD X.K C G0 Γ E fb mC))(hs:kG b):PE X (.Subscript a b pos) (tD X.K C G0 Γ E (aB g fa fb) κ):=(Nx hr ha hb hs).imp (two ho)
theorem tE.flat{K:aD}{r2:R2}{g:D->D->R D}(h:∀(H:Hp) (a b:D) (x y:V) (Q:VK),Rep K C H a x->Rep K C H b y->(match g a b with | .ok d=>fU d=true/\∀v,Rep K C H d v->Q v H|_=>False)->r2 x y H Q)(hg:∀a b,(∀c p,g a b≠ .ex c p)/\∀d,g a b = .ok d->fU d=true):tE K C r2 g κ:=fun G0 Γ E σ A st H a b x y Q r qa qb q=>h H a b x y Q qa qb (by
 cases hz:g a b with
 | bad=>rw[hz]at q;exact q
 | ex c p=>exact aV5 hz ((hg a b).1 c p)
 | ok d=>rw[hz]at q;exact⟨(hg a b).2 d hz,fun v w=>q v H (.refl _) (.flat r (.refl _) ((hg a b).2 d hz) w _)⟩)
def IK(Cd:Int->Int->Bool)(g:Int->Int->D):D->D->R D:=fun a b=>match a,b with | .int i,.int j=>if Cd i j=true then .ok (g i j)else .bad|_,_=>.bad
def Oq{Cd:Int->Int->Bool}{g:Int->Int->D}{a b d:D}(h:IK Cd g a b = .ok d):∃i j,a = .int i/\b = .int j/\Cd i j=true/\d=g i j:=by
 unfold IK at h;split at h;split at h;rename_i q;cases h;exact⟨_,_,rfl,rfl,q,rfl⟩;cases h;cases h
def Ot{Cd:Int->Int->Bool}{g:Int->Int->D}{a b:D}{c:av}{p:Option Int}:IK Cd g a b≠ .ex c p:=by
 unfold IK;split;split <;> exact fun h=>by cases h
 exact fun h=>by cases h
def kJ{K:aD}{r2:R2}{Cd:Int->Int->Bool}{g:Int->Int->D}(h:∀(H:Hp) (i j:Int) (Q:VK),Cd i j=true->(∀v,Rep K C H (g i j) v->Q v H)->r2 (.int i) (.int j) H Q)(n:∀i j,fU (g i j)=true):tE K C r2 (IK Cd g) κ:=.flat (fun H a b x y Q qa qb q=>by
  cases hz:IK Cd g a b with
  | bad=>rw[hz]at q;exact q.elim
  | ex c p=>exact aV5 hz Ot
  | ok d=>rw[hz]at q;refine qJ (Oq hz) fun i j aT nM hc JE=>?_;obtain rfl:=aT;obtain rfl:=nM;obtain rfl:=JE;rw[Rep]at qa qb;subst qa;subst qb;exact h H i j Q hc q.2) fun a b=>⟨fun c p=>Ot,fun d hd=>by obtain⟨i,j,_,_,_,rfl⟩:=Oq hd;exact n i j⟩
def cW:=IK (fun _ _=>true) fun i j=>.int (i+j)
def kE:=IK (fun _ _=>true) fun i j=>.int (i-j)
def sm(i:Int):Bool:=decide (-(2 ^ 64)<i)&&decide (i<2 ^ 64)
def oj:=IK (fun i j=>sm i || sm j) fun i j=>.int (i*j)
def fP:=IK (fun _ j=>decide (0<j)&&decide (j<1073741824)) fun i j=>.int (i / j)
def cB:=IK (fun _ j=>decide (0<j)) fun i j=>.int (i % j)
def rV:=IK (fun _ _=>true) fun i j=>.bl (decide (i<j))
def Lo:=IK (fun _ _=>true) fun i j=>.bl (decide (i<=j))
def GW:=IK (fun _ _=>true) fun i j=>.bl (decide (j<i))
def pP{K:aD}{H:Hp}{i:Int}:Rep K C H (.int i) (.int i):=by rw[Rep]
def Bj{K:aD}{H:Hp}{i:Bool}:Rep K C H (.bl i) (.bl i):=by rw[Rep]
def Sd{K:aD}:tE K C (Lg fun i j=>.int (i+j)) cW .new:=kJ (fun H i j Q _ q=>⟨i,j,rfl,rfl,q _ pP⟩) fun i j=>by rw[fU] <;> simp
def Se{K:aD}:tE K C (Lg fun i j=>.int (i-j)) kE .new:=kJ (fun H i j Q _ q=>⟨i,j,rfl,rfl,q _ pP⟩) fun i j=>by rw[fU] <;> simp
def Sf{K:aD}:tE K C (rI Rm fun i j=>.int (i*j)) oj .new:=kJ (fun H i j Q c q=>⟨i,j,rfl,rfl,by
 rcases nG _ _ |>.mp c with c|c;simp[sm]at c;exact .inl ⟨by lia,by lia⟩;simp[sm]at c;exact .inr ⟨by lia,by lia⟩,q _ pP⟩) fun i j=>by rw[fU] <;> simp
def Sg{K:aD}:tE K C (rI af3 fun i j=>.int (i / j)) fP .new:=kJ (fun H i j Q c q=>⟨i,j,rfl,rfl,by simp at c;exact⟨c.1,c.2⟩,q _ pP⟩) fun i j=>by rw[fU] <;> simp
def Sh{K:aD}:tE K C (rI (fun _ j=>0<j) fun i j=>.int (i % j)) cB .new:=kJ (fun H i j Q c q=>⟨i,j,rfl,rfl,by simpa using c,q _ pP⟩) fun i j=>by rw[fU] <;> simp
def GX{K:aD}:tE K C (Lg fun i j=>.bl (decide (i<j))) rV .new:=kJ (fun H i j Q _ q=>⟨i,j,rfl,rfl,q _ Bj⟩) fun i j=>by rw[fU] <;> simp
def om{K:aD}:tE K C (Lg fun i j=>.bl (decide (i<=j))) Lo .new:=kJ (fun H i j Q _ q=>⟨i,j,rfl,rfl,q _ Bj⟩) fun i j=>by rw[fU] <;> simp
def Xq{K:aD}:tE K C (Lg fun i j=>.bl (decide (j<i))) GW .new:=kJ (fun H i j Q _ q=>⟨i,j,rfl,rfl,q _ Bj⟩) fun i j=>by rw[fU] <;> simp
def eW(neg:Bool):D->D->R D:=fun a b=>if(Dm.flat a&&Dm.flat b&&decide (dep a<=60))=true then .ok (.bl (if neg then !gP a b else gP a b))else .bad
def Bk{K:aD}{neg:Bool}:tE K C (Xl K C neg) (eW neg) .new:=.flat (fun H a b x y Q qa qb q=>by
  unfold eW at q;split at q;rename_i c;split at c;rename_i c';cases c;simp only[bM,aU8]at c';exact⟨a,b,qa,qb,c'.1.1,c'.1.2,c'.2,q.2 _ Bj⟩;cases c;exact q.elim) fun a b=>⟨fun c p=>(by unfold eW;split <;> exact fun h=>(by cases h)),fun d h=>by unfold eW at h;split at h <;> cases h;rw[fU] <;> simp⟩
def gI(neg:Bool):D->D->R D:=fun a b=>match b with
 | .lst es=>if(Dm.flat a&&bW es&&decide (jT es<=60))=true then .ok (.bl (if neg then !(es.any fun e=>gP e a)else es.any fun e=>gP e a))else .bad
 | .tup es=>if(Dm.flat a&&bW es&&decide (jT es<=60))=true then .ok (.bl (if neg then !(es.any fun e=>gP e a)else es.any fun e=>gP e a))else .bad
 | _=>.bad
def Bl{K:aD}{neg:Bool}:tE K C (Xm K C neg) (gI neg) .new:=.flat (fun H a b x y Q qa qb q=>by
  cases b with
  | lst es=>unfold gI at q;dsimp only at q;split at q;rename_i c;split at c;rename_i c';cases c;simp only[bM,aU8]at c';exact⟨a,es,qa,.inl qb,c'.1.1,c'.1.2,c'.2,q.2 _ Bj⟩;cases c;exact q.elim
  | tup es=>unfold gI at q;dsimp only at q;split at q;rename_i c;split at c;rename_i c';cases c;simp only[bM,aU8]at c';exact⟨a,es,qa,.inr qb,c'.1.1,c'.1.2,c'.2,q.2 _ Bj⟩;cases c;exact q.elim
  | _=>exact q.elim) fun a b=>⟨fun c p=>(by unfold gI;split <;> (try split) <;> exact fun h=>(by cases h)),fun d h=>by unfold gI at h;split at h <;> (try split at h) <;> cases h <;> (rw[fU] <;> simp)⟩
def bH:D->D->R D:=fun a b=>match a,b with
 | .lst ds,.int i=>match xZ ds i with|some d=>.ok d|none=>.bad
 | .tup ds,.int i=>match xZ ds i with|some d=>.ok d|none=>.bad
 | _,_=>.bad
def D7{K:aD}{H:Hp}{ds:List D}{xs:List V}{i:Int}{d:D}(q:aH K C H ds xs)(h:xZ ds i=some d):∃v,xZ xs i=some v/\Rep K C H d v:=by
 unfold xZ at h ⊢;rw[q.len];cases hj:AO ds.length i with
 | none=>rw[hj]at h;cases h
 | some j=>rw[hj]at h;exact q.get' h
end
section
variable {X:Cx}{C:Cfg}{G0:Hp}{Γ:List SK}{E:L2.St->XK}{a b c:bf}{fa fb:DF}{κ fL:Kd}{rest:List bf}{pos:Pos}
def Xr{K:aD}{H:Hp}{a d:D}{x:V}{i:Int}(qa:Rep K C H a x)(h:bH a (.int i) = .ok d):(∃p xs v,x = .ref p/\(ja K H p xs\/jA K H p xs)/\xZ xs i=some v/\Rep K C H d v):=by
 cases a with
 | lst ds=>
  unfold bH at h;dsimp only at h;cases hz:xZ ds i with
  | none=>rw[hz]at h;cases h
  | some d'=>rw[hz]at h;cases h;refine b7 qa.items fun p xs aT h2 h3=>?_;walk_at"c";refine aL (D7 h3 hz) fun v h4 h5=>?_;exact⟨p,xs,v,rfl,.inl h2,h4,h5⟩
 | tup ds=>
  unfold bH at h;dsimp only at h;cases hz:xZ ds i with
  | none=>rw[hz]at h;cases h
  | some d'=>rw[hz]at h;cases h;rw[Rep]at qa;refine b7 qa fun p xs aT h2 h3=>?_;clear qa;walk_at"c";refine aL (D7 h3 hz) fun v h4 h5=>?_;exact⟨p,xs,v,rfl,.inr h2,h4,h5⟩
 | _=>cases h
def ap3(K:aD):R2:=fun x y H Q=>ak4 K x y H Q\/ak5 K x y H Q
def ap4:QU X (ap3 X.K):=RC.or WO
def ja.part{K:aD}{G H:Hp}(e:aI G H){p:av}{xs:List V}(h:ja K G p xs\/jA K G p xs):ja K H p xs\/jA K H p xs:=h.imp (fun h=>e.seq h) fun h=>aI.tup e h
def Kd.item:Kd->Kd
 | .pB=>.old
 | .new=>.old
 | .loc=>.old
 | .old=>.old
 | _=>.fD
def IL{a b d:D}(h:bH a b = .ok d):∃i,b = .int i:=by
 cases b with
 | int i=>exact⟨i,rfl⟩
 | _=>cases a <;> cases h
def Ou{a b:D}{c:av}{p:Option Int}:bH a b≠ .ex c p:=by
 unfold bH;split;split <;> exact fun h=>(by cases h)
 split <;> exact fun h=>(by cases h)
 exact fun h=>(by cases h)
def Bm(ha:PE X a (tD X.K C G0 Γ E fa fL))(hb:PE X b (tD X.K C G0 Γ E fb mC))(hs:kG b):PE X (.Subscript a b pos) (tD X.K C G0 Γ E (aB bH fa fb) fL.item):=(Nx ap4 ha hb hs).imp fun σ H Q zz=>by
 walk_at"a";unfold aB R.bind at q;cases ha:fa st with
 | bad=>rw[ha]at q;exact q
 | ex c p=>rw[ha]at q;exact q
 | ok a=>
  rw[ha]at q;walk_at"f";cases hb:fb st with
  | bad=>rw[hb]at q;exact q
  | ex c p=>rw[hb]at q;walk_at"g"
  | ok b=>
   rw[hb]at q;intro y H2 e2 w2;dsimp only at q;cases hg:bH a b with
   | bad=>rw[hg]at q;exact q.elim
   | ex c p=>exact aV5 hg Ou
   | ok d=>
    rw[hg]at q;obtain⟨i,rfl⟩:=IL hg;have ug:=e1.trans e2;have w:=w1.later e2;obtain rfl:y = .int i:=by have:=w2.rep;rw[Rep]at this;exact this
    have fin:∀G:Hp,aI G H2->Rep X.K C G a x->(∀v,Rep X.K C G d v->Val X.K C fL.item G0 A H H2 d v)->ap3 X.K x (.int i) H2 Q:=fun G e qa k=>by refine R9 (Xr qa hg) fun p xs v nM s at' rv=>?_;obtain rfl:=nM;rcases ja.part e s with s|s;exact .inl ⟨p,xs,i,v,rfl,rfl,s,at',q v H2 ug (k v rv)⟩;exact .inr ⟨p,xs,i,v,rfl,rfl,s,at',q v H2 ug (k v rv)⟩
    cases fL with
    | new=>exact fin _ (aJ _ _) (w.le r ug (κ':=.old) rfl) fun v z=>z
    | pB=>exact fin _ (aJ _ _) (w.le r ug (κ':=.old) rfl) fun v z=>z
    | loc=>exact fin _ (aJ _ _) (w.le r ug (κ':=.old) rfl) fun v z=>z
    | old=>exact fin _ (aJ _ _) w fun v z=>z
    | uU=>exact fin _ (.refl _) w.rep fun v z=>z
    | fD=>exact fin _ (.refl _) w fun v z=>z
def mD:PA X [] (Bg X.K C G0 Γ E ao κ):=m8.imp fun σ H Q jz=>jz.elim fun A n8=>n8.elim fun st sX=>sX.elim fun r q=>q [] H (.refl _) .nil
def dZ(ha:PE X e (tD X.K C G0 Γ E f fL))(hr:PA X es (Bg X.K C G0 Γ E fs κ))(l:fL.le κ=true:=by rfl)(hs:bJ (e::es) X.env=(false,eval e X.env)::bJ es X.env:=by rfl):PA X (e::es) (Bg X.K C G0 Γ E (aa f fs) κ):=(jb ha hr hs).imp fun σ H Q zz=>by
 walk_at"a";unfold aa R.bind at q;cases hf:f st with
 | bad=>walk_at"b"
 | ex c p=>walk_at"b"
 | ok a=>
  rw[hf]at q;walk_at"f";cases hb:fs st with
  | bad=>rw[hb]at q;exact q
  | ex c p=>rw[hb]at q;walk_at"g"
  | ok b=>rw[hb]at q;intro y H2 e2 w2;exact q (x::y) H2 (e1.trans e2) (.cons ((w1.le r e1 l).hp.same (Kd.oh e2) _) (w2.same (Kd.Om e1) _))
def oq{l:List α}(h:l.length<=100):l.length<=bO:=f9 h (by rw[gC];decide)
def bu(n:Nat)(f:DA):DF:=fun st=>(f st).bind fun ds=>if ds.length<=n/\pO (.tup ds)=true then .ok (.tup ds)else .bad
def Bo{x1}(h:PA X es (Bg X.K C G0 Γ E fs κ)):PE X (.Tuple es x1 pos) (tD X.K C G0 Γ E (bu 100 fs) κ):=(Nr h).imp fun σ H Q zz=>by
 walk_at"a";unfold bu R.bind at q;cases hf:fs st with
 | bad=>walk_at"b"
 | ex c p=>walk_at"b"
 | ok ds=>
  rw[hf]at q;dsimp only at q;split at q;rename_i d hz;split at hz;rename_i hl;cases hz;exact fun vs H1 e1 w1=>⟨oq (by rw[w1.len];exact hl.1),fun p hp=>q _ _ (e1.trans (bT hp)) (.tup r e1 hp hl.2 w1)⟩
  cases hz;rename_i hz;split at hz <;> cases hz;exact q.elim
def br(n:Nat)(f:DA):DF:=fun st=>(f st).bind fun ds=>if ds.length<=n then .ok (.lst ds)else .bad
def Ov(h:PA X es (Bg X.K C G0 Γ E fs κ)):PE X (.List es pos) (tD X.K C G0 Γ E (br 100 fs) κ):=(Nt h).imp fun σ H Q zz=>by
 walk_at"a";unfold br R.bind at q;cases hf:fs st with
 | bad=>walk_at"b"
 | ex c p=>walk_at"b"
 | ok ds=>
  rw[hf]at q;dsimp only at q;split at q;rename_i d hz;split at hz;rename_i hl;cases hz;exact fun vs H1 e1 w1=>⟨oq (by rw[w1.len];exact hl),fun p hp=>q _ _ (e1.trans (bT hp)) (.lst r e1 hp w1)⟩
  cases hz;rename_i hz;split at hz <;> cases hz;exact q.elim
def Ow(K:aD)(C:Cfg)(r1:List V->Hp->VK->Prop)(g:List D->R D)(κ:Kd):Prop:=∀(G0:Hp) (Γ:List SK) (E:XK) (σ:L2.St) (A:List av) (st:eY) (H:Hp) (ds:List D) (xs:List V) (Q:VK),RS K C G0 Γ σ H A st->aH K C H ds xs->
 (match g ds with | .ok d=>∀v H',aI H H'->Val K C κ G0 A H H' d v->Q v H' | .ex c p=>∀H',aI H H'->IE E c p H' | .bad=>False)->r1 xs H Q
def oz(ho:Ow X.K C r1 g κ)(h:PE X e (tCB r1 (Bg X.K C G0 Γ E fs fL))):PE X e (tD X.K C G0 Γ E (aY g fs) κ):=h.imp fun σ H Q zz=>by
 walk_at"a";unfold aY R.bind at q;cases hf:fs st with
 | bad=>walk_at"b"
 | ex c p=>walk_at"b"
 | ok ds=>
  rw[hf]at q;dsimp only at q;intro vs H1 e1 w1;refine ho G0 Γ (E σ) σ A st H1 ds vs Q (r.mono e1) (w1.same Kd.wA _) ?_;cases hg:g ds with
  | bad=>rw[hg]at q;exact q
  | ex c p=>rw[hg]at q;walk_at"g"
  | ok d=>rw[hg]at q;exact fun v H' e' w=>q v H' (e1.trans e') (w.early e1)
def iY{K:aD}{H:Hp}{d:D}{xs:List V}(h:aH K C H [d] xs):∃v,xs=[v]/\Rep K C H d v:=by
 rw[aH]at h;refine b7 h fun v r aT q z=>?_;clear h;walk_at"c";rw[aH]at z;subst z;exact⟨v,rfl,q⟩
def dQ:List D->R D:=fun ds=>match ds with | [.lst xs]=>.ok (.int xs.length) | [.tup xs]=>.ok (.int xs.length)|_=>.bad
def Si{K:aD}:Ow K C (fun xs H Q=>∃p ys,xs=[.ref p]/\(ja K H p ys\/jA K H p ys)/\Q (.int ys.length) H) dQ .new:=fun G0 Γ E σ A st H ds xs Q r w q=>by
 unfold dQ at q;split at q;rename_i z;split at z;cases z;walk_at"h";walk_at"c";exact⟨p,ys,rfl,.inl s,q _ H (.refl _) (.flat r (.refl _) (by rw[fU] <;> simp) (by rw[t.len];exact pP) _)⟩;cases z;refine aL (iY w) fun v fW w1=>?_;obtain rfl:=fW;rw[Rep]at w1;refine b7 w1 fun p ys aT s t=>?_;clear w1;walk_at"c";exact⟨p,ys,rfl,.inr s,q _ H (.refl _) (.flat r (.refl _) (by rw[fU] <;> simp) (by rw[t.len];exact pP) _)⟩;cases z;rename_i z;split at z <;> cases z;exact q.elim
def jl:List D->R D:=fun ds=>match ds with | [.lst xs]=>if cV xs=true then .ok (.lst xs)else .bad | [.tup xs]=>if cV xs=true then .ok (.lst xs)else .bad|_=>.bad
def D8{K:aD}:Ow K C (fun xs H Q=>∃p ys,xs=[.ref p]/\(ja K H p ys\/jA K H p ys)/\∀l,H l=none->Q (.ref l) (upd H l (.lst ys))) jl .new:=fun G0 Γ E σ A st H ds xs Q r w q=>by
 have fin:∀(es:List D) (p:av) (ys:List V),(ja K H p ys\/jA K H p ys)->aH K C H es ys->cV es=true->(∀v H',aI H H'->Val K C .new G0 A H H' (.lst es) v->Q v H')->∃p' Lj,[V.ref p]=[.ref p']/\(ja K H p' Lj\/jA K H p' Lj)/\∀l,H l=none->Q (.ref l) (upd H l (.lst Lj)):=fun es p ys s t n q=>
  ⟨p,ys,rfl,s,fun l hl=>q _ _ (bT hl) (.lst r (.refl _) hl (t.part (.nw (.refl _)) _ n))⟩
 unfold jl at q;split at q;rename_i z;split at z;split at z;rename_i n;cases z;walk_at"h";walk_at"c";exact fin _ _ _ (.inl s) t n q;cases z;split at z;rename_i n;cases z;refine aL (iY w) fun v fW w1=>?_;obtain rfl:=fW;rw[Rep]at w1;refine b7 w1 fun p ys aT s t=>?_;clear w1;walk_at"c";exact fin _ _ _ (.inr s) t n q;cases z;cases z
 ·rename_i z;split at z <;> (try split at z) <;> cases z
 exact q.elim
def VN(h:PE X e (tD X.K C G0 Γ E f κ))(he:∀whole,isTrue e X.env whole=(do let v <- whole;standAt e.pos;holding [v] (truthy v)):=by intro _;rfl):PT X e (uW X.K C G0 Γ E f):=(Wr h he).imp fun σ H Q zz=>by
 walk_at"a";cases hf:f st with
 | bad=>walk_at"b"
 | ex c p=>walk_at"b"
 | ok d=>
  rw[hf]at q;cases d with
  | bl b=>exact fun v H' e' w=>⟨b,by have:=w.rep;rw[Rep]at this;exact this,q H' e'⟩
  | _=>exact q.elim
def qt(hr:pT X (gZ op) r2)(ho:tE X.K C r2 g .new)(ha:PE X a (tD X.K C G0 Γ E fa fL))(hb:PE X b (tD X.K C G0 Γ E fb mC))(hm:behindInMarks op b=false):PT X (.Compare a [op] [b] pos) (uW X.K C G0 Γ E (aB g fa fb)):=(Rt hr ha hb hm).imp fun σ H Q zz=>by
 refine cj zz fun A st r q=>?_;clear zz;refine two (κ:=.new) ho σ H _ ⟨A,st,r,?_⟩;cases hf:aB g fa fb st with
 | bad=>walk_at"b"
 | ex c p=>walk_at"b"
 | ok d=>
  rw[hf]at q;cases d with
  | bl b=>exact fun v H' e' w=>⟨b,by have:=w.rep;rw[Rep]at this;exact this,q H' e'⟩
  | _=>exact q.elim
def Xs(h:PT X a (uW X.K C G0 Γ E fa)):PT X (.UnaryOp .Not a pos) (uW X.K C G0 Γ E (n9 fa)):=(Ws h).imp fun σ H Q zz=>by
 walk_at"a";unfold n9 R.bind at q;cases hf:fa st with
 | bad=>walk_at"b"
 | ex c p=>walk_at"b"
 | ok d=>
  rw[hf]at q;cases d with
  | bl b=>exact q
  | _=>exact q.elim
def Sj(ha:PT X a (uW X.K C G0 Γ E fa)):PW X (.BoolOp .And [a] pos) (uW X.K C G0 Γ E fa):=pw_and1 ha
def Xu(ha:PT X a (uW X.K C G0 Γ E fa)):PW X (.BoolOp .Or [a] pos) (uW X.K C G0 Γ E fa):=pw_or1 ha
def Xv(ha:PT X a (uW X.K C G0 Γ E fa))(hb:PW X (.BoolOp .And (b::rest) pos) (uW X.K C G0 Γ E fb)):PW X (.BoolOp .And (a::b::rest) pos) (uW X.K C G0 Γ E (j6 fa fb)):=(pw_and ha hb).imp fun σ H Q zz=>by
 walk_at"a";unfold j6 R.bind at q;cases hf:fa st with
 | bad=>walk_at"b"
 | ex c p=>walk_at"b"
 | ok d=>
  rw[hf]at q;cases d with
  | bl b=>
   intro H1 e1;cases b with
   | false=>rw[aU4 iW];exact q H1 e1
   | true=>
    rw[aU3 rfl];refine⟨A,st,r.mono e1,?_⟩;dsimp only at q;cases hb:fb st with
    | bad=>rw[hb]at q;exact q
    | ex c p=>rw[hb]at q;walk_at"g"
    | ok d=>
     rw[hb]at q;cases d with
     | bl b=>walk_at"g"
     | _=>exact q.elim
  | _=>exact q.elim
def ap5(ha:PT X a (uW X.K C G0 Γ E fa))(hb:PW X (.BoolOp .Or (b::rest) pos) (uW X.K C G0 Γ E fb)):PW X (.BoolOp .Or (a::b::rest) pos) (uW X.K C G0 Γ E (GV fa fb)):=(pw_or ha hb).imp fun σ H Q zz=>by
 walk_at"a";unfold GV R.bind at q;cases hf:fa st with
 | bad=>walk_at"b"
 | ex c p=>walk_at"b"
 | ok d=>
  rw[hf]at q;cases d with
  | bl b=>
   intro H1 e1;cases b with
   | true=>rw[aU3 rfl];exact q H1 e1
   | false=>
    rw[aU4 iW];refine⟨A,st,r.mono e1,?_⟩;dsimp only at q;cases hb:fb st with
    | bad=>rw[hb]at q;exact q
    | ex c p=>rw[hb]at q;walk_at"g"
    | ok d=>
     rw[hb]at q;cases d with
     | bl b=>walk_at"g"
     | _=>exact q.elim
  | _=>exact q.elim
def Ox{op}(ha:PE X a (tD X.K C G0 Γ E fa κ)):PE X (.BoolOp op [a] pos) (tD X.K C G0 Γ E fa κ):=Wt ha
def vbl{K:aD}{A:List av}{H H':Hp}{b:Bool}{v:V}(w:Val K C κ G0 A H H' (.bl b) v):v = .bl b:=by have:=w.rep;rw[Rep]at this;exact this
def Oz(ha:PE X a (tD X.K C G0 Γ E fa fL))(hb:PE X (.BoolOp .And (b::rest) pos) (tD X.K C G0 Γ E fb κ)):PE X (.BoolOp .And (a::b::rest) pos) (tD X.K C G0 Γ E (j6 fa fb) κ):=(Wu ha hb).imp fun σ H Q zz=>by
 walk_at"a";unfold j6 R.bind at q;cases hf:fa st with
 | bad=>walk_at"b"
 | ex c p=>walk_at"b"
 | ok d=>
  rw[hf]at q;cases d with
  | bl b=>
   intro v H1 e1 w1;refine⟨b,vbl w1,?_⟩;cases b with
   | false=>rw[aU4 iW];exact q _ H1 e1 (.flat r e1 (by rw[fU] <;> simp) Bj _)
   | true=>
    rw[aU3 rfl];refine⟨A,st,r.mono e1,?_⟩;dsimp only at q;cases hb:fb st with
    | bad=>rw[hb]at q;exact q
    | ex c p=>rw[hb]at q;walk_at"g"
    | ok d=>rw[hb]at q;exact fun v H' e' w=>q v H' (e1.trans e') (w.early e1)
  | _=>exact q.elim
end
def Sl(K:aD)(C:Cfg)(gq:Option Bool)(G0 H':Hp)(d:D)(v:V):Prop:=match gq with
 | some true=>Rep K C (nw G0 H') d v/\kj K C G0 (nw G0 H') d v
 | some false=>Rep K C H' d v
 | none=>(Rep K C (nw G0 H') d v/\kj K C G0 (nw G0 H') d v)/\GU K C G0 (nw G0 H') d v
section
variable (K:aD)(C:Cfg)(G0:Hp)(Γ:List SK)(E:L2.St->XK)(gq:Option Bool)
def jD(F:DS):TS:=fun D σ H=>∃A st,RS K C G0 Γ σ H A st/\match F st with
 | .nx st'=>∀cz H' A',RS K C G0 Γ cz H' A' st'->aI (er H A) (er H' A')->D.nx cz H'
 | .bk st'=>∀cz H' A',RS K C G0 Γ cz H' A' st'->aI (er H A) (er H' A')->D.bk cz H'
 | .ct st'=>∀cz H' A',RS K C G0 Γ cz H' A' st'->aI (er H A) (er H' A')->D.ct cz H'
 | .rt d=>∀v H',aI G0 H'->Sl K C gq G0 H' d v->D.rt v H'
 | .ex c p st'=>∀cz H' A',RS K C G0 Γ cz H' A' st'->aI (er H A) (er H' A')->IE (E cz) c p H'
 | .bad=>False
end
def aU(F G:DS):DS:=fun st=>match F st with | .nx st'=>G st'|o=>o
def aR:DS:=fun st=>.nx st
def bC(i:Nat)(f:DF):DS:=fun st=>match f st with | .ok d=>.nx (st.set i (some d)) | .ex c p=>.ex c p st | .bad=>.bad
def jE(f:DF):DS:=fun st=>match f st with | .ok _=>.nx st | .ex c p=>.ex c p st | .bad=>.bad
def bN(f:DF):DS:=fun st=>match f st with | .ok d=>.rt d | .ex c p=>.ex c p st | .bad=>.bad
def bz(fc:DF)(F G:DS):DS:=fun st=>match fc st with | .ok (.bl true)=>F st | .ok (.bl false)=>G st | .ok _=>.bad | .ex c p=>.ex c p st | .bad=>.bad
section
variable {X:Cx}{C:Cfg}{G0:Hp}{Γ:List SK}{E:L2.St->XK}{gq:Option Bool}{c:bf}{κ:Kd}{pos:Pos}
def Xw:mZ X [] (jD X.K C G0 Γ E gq aR):=Rk.imp fun D σ H jz=>jz.elim fun A n8=>n8.elim fun st sX=>sX.elim fun r q=>q σ H A r (.refl _)
def Sm(h1:PS X s (jD X.K C G0 Γ E gq F))(h2:mZ X ss (jD X.K C G0 Γ E gq G)):mZ X (s::ss) (jD X.K C G0 Γ E gq (aU F G)):=(Cu h1 h2).imp fun D σ H zz=>by
 walk_at"a";unfold aU at q;cases hf:F st with
 | nx st'=>
  rw[hf]at q;intro cz H' A' r' e';refine⟨A',st',r',?_⟩;dsimp only at q;cases hg:G st' with
  | nx qp=>walk_at"i"
  | bk qp=>walk_at"i"
  | ct qp=>walk_at"i"
  | rt d=>rw[hg]at q;exact q
  | ex c p qp=>walk_at"i"
  | bad=>rw[hg]at q;exact q
 | bk st'=>walk_at"b"
 | ct st'=>walk_at"b"
 | rt d=>walk_at"b"
 | ex c p st'=>walk_at"b"
 | bad=>walk_at"b"
def oA(h1:PS X s (jD X.K C G0 Γ E gq F)):mZ X [s] (jD X.K C G0 Γ E gq F):=Ib h1
def OA(hN:X.N.Nodup)(he:PE X e (tD X.K C G0 Γ E f κ))(hk:Γ[i]?=some k:=by rfl)(hl:k.takes κ=true:=by rfl)(hi:X.N[i]?=some x:=by rfl)(hx:Loc X.env.scope x:=by first|exact fu rfl|exact fz rfl)(hs:swapsWith e (some (.Name x pos')) pos.line X.env=pure false:=by rfl)
  (hf:X.fn x=true\/X.env.scope.names.lookup x=some .local:=by first|exact .inl rfl|exact .inr rfl|assumption):PS X (.Assign [.Name x pos'] e pos) (jD X.K C G0 Γ E gq (bC i f)):=(Nd hN hi hx he hs hf).imp fun D σ H zz=>by
 walk_at"a";unfold bC at q;cases hf:f st with
 | bad=>walk_at"b"
 | ex c p=>rw[hf]at q;walk_at"d"
 | ok d=>rw[hf]at q;intro v H' e' w;refine bK (r.set e' hk hl w) fun A' r' e2 _=>?_;exact q _ _ A' r' e2
def IM(he:PE X e (tD X.K C G0 Γ E f κ))(hs:swapsWith e none pos.line X.env=pure false:=by rfl):PS X (.Expr e pos) (jD X.K C G0 Γ E gq (jE f)):=(AL he hs).imp fun D σ H zz=>by
 walk_at"a";unfold jE at q;cases hf:f st with
 | bad=>walk_at"b"
 | ex c p=>rw[hf]at q;walk_at"d"
 | ok d=>rw[hf]at q;exact fun v H' e' w=>q σ H' A (r.mono e') (aK e')
def aM3:Bool->Kd|true=>.uU|false=>.fD
def wB(he:PE X e (tD X.K C G0 Γ E f κ))(l:κ.le (aM3 b)=true:=by rfl):PS X (.Return (some e) pos) (jD X.K C G0 Γ E (some b) (bN f)):=(Ww he).imp fun D σ H zz=>by
 walk_at"a";unfold bN at q;cases hf:f st with
 | bad=>walk_at"b"
 | ex c p=>rw[hf]at q;walk_at"d"
 | ok d=>
  rw[hf]at q;intro v H' e' w;have w':=w.le r e' l;refine q v H' (r.g0.trans e') ?_;cases b with
  | true=>exact w'
  | false=>exact w'
def aR7(d:D):Bool:=match d with | .lst _=>false|d=>(Be d).isNone
def ap7(hc:PT X c (uW X.K C G0 Γ E fc))(ha:mZ X ss (jD X.K C G0 Γ E gq F))(hb:mZ X ss' (jD X.K C G0 Γ E gq G)):PS X (.If c ss ss' pos) (jD X.K C G0 Γ E gq (Dm.bz fc F G)):=(ac7 hc ha hb).imp fun D σ H zz=>by
 walk_at"a";unfold Dm.bz at q;have sub:∀{H1:Hp} (e1:aI H H1) {G:DS},(match G st with
   | .nx st'=>∀cz H' A',RS X.K C G0 Γ cz H' A' st'->aI (er H A) (er H' A')->D.nx cz H'
   | .bk st'=>∀cz H' A',RS X.K C G0 Γ cz H' A' st'->aI (er H A) (er H' A')->D.bk cz H'
   | .ct st'=>∀cz H' A',RS X.K C G0 Γ cz H' A' st'->aI (er H A) (er H' A')->D.ct cz H'
   | .rt d=>∀v H',aI G0 H'->Sl X.K C gq G0 H' d v->D.rt v H'
   | .ex c p st'=>∀cz H' A',RS X.K C G0 Γ cz H' A' st'->aI (er H A) (er H' A')->IE (E cz) c p H'
   | .bad=>False)->jD X.K C G0 Γ E gq G D σ H1:=fun {H1} e1 {G} q=>by
  refine⟨A,st,r.mono e1,?_⟩
  cases hg:G st with
  | nx qp=>rw[hg]at q;exact fun sU H2 A2 r2 e2=>q sU H2 A2 r2 ((aK e1).trans e2)
  | bk qp=>rw[hg]at q;exact fun sU H2 A2 r2 e2=>q sU H2 A2 r2 ((aK e1).trans e2)
  | ct qp=>rw[hg]at q;exact fun sU H2 A2 r2 e2=>q sU H2 A2 r2 ((aK e1).trans e2)
  | rt d=>rw[hg]at q;exact q
  | ex c p qp=>rw[hg]at q;exact fun sU H2 A2 r2 e2=>q sU H2 A2 r2 ((aK e1).trans e2)
  | bad=>rw[hg]at q;exact q
 cases hf:fc st with
 | bad=>walk_at"b"
 | ex c p=>rw[hf]at q;walk_at"d"
 | ok d=>
  rw[hf]at q;cases d with
  | bl b=>
   intro H1 e1;cases b with
   | true=>rw[aU3 rfl];exact sub e1 q
   | false=>rw[aU4 iW];exact sub e1 q
  | _=>exact q.elim
def lM:List SK->Bool:=fun Γ=>Γ.all fun k=>match k with | .any=>false | .pr=>false | .ll=>false | .dp=>false|_=>true
def OB(h:lM Γ=true){i:Nat}:Γ[i]?≠some .any:=fun z=>by
 unfold lM at h;have:=iZ.mp h _ (jO z);cases this
def OC(h:lM Γ=true){i:Nat}:Γ[i]?≠some .pr:=fun z=>by
 unfold lM at h;have:=iZ.mp h _ (jO z);cases this
def OD(h:lM Γ=true){i:Nat}:Γ[i]?≠some .ll:=fun z=>by
 unfold lM at h;have:=iZ.mp h _ (jO z);cases this
def OE(h:lM Γ=true){i:Nat}:Γ[i]?≠some .dp:=fun z=>by
 unfold lM at h;have:=iZ.mp h _ (jO z);cases this
def RS.ap8{K:aD}{σ:L2.St}{H:Hp}{A:List av}{st:eY}(r:RS K C G0 Γ σ H A st)(na:lM Γ=true){i:Nat}{n:Bool}{p:av}{ob:HO}{d' d0:D}(hk:Γ[i]?=some (.own n))(hs:st[i]?=some (some d0))(hv:σ[i]?=some (some (.ref p)))(hp:p∈A)(g0:G0 p=none)
  (Bp:k9 d0=true) (hM:VL ob=true) (q:mz K C (eh n G0 A H) (upd H p ob) p d'):RS K C G0 Γ σ (upd H p ob) A (st.set i (some d'))/\aI (er H A) (er (upd H p ob) A):=by
 have ee:er (upd H p ob) A=er H A:=by funext b;by_cases mb:b∈A;rw[dP mb,dP mb];rw[aZ mb,aZ mb,bq (fun z:b=p=>mb (by rw[z];exact hp))]
 have S8:∀m,eh m G0 A (upd H p ob)=eh m G0 A H:=fun m=>by unfold eh;rw[ee]
 refine⟨⟨by rw[ee];exact r.base,fun a m=>?_,by simp[r.len],fun j d h=>?_,fun a b n' m' p' ds es rT g1 g2 s1 s2 o1 o2 w1 w2=>?_,r.gl⟩,by rw[ee];exact .refl _⟩;by_cases ha:a=p;subst ha;exact⟨ob,cA,hM⟩;rw[bq ha];exact r.lists a m;by_cases hj:i=j;subst hj;rw[l9 (fV.mp hs).1]at h;cases h;exact⟨_,_,hk,hv,.inl ⟨p,rfl,hp,g0,by rw[S8];exact q⟩⟩;rw[kF hj]at h;refine b7 (r.slot j d h) fun k v h1 h2 h3=>?_;refine⟨k,v,h1,h2,?_⟩;cases k with
 | par=>show Rep K C (er _ A) d v;rw[ee];exact h3
 | loc=>show _/\_;rw[ee];exact h3
 | any=>exact aV5 h1 (OB na)
 | pr=>exact aV5 h1 (OC na)
 | ll=>exact aV5 h1 (OD na)
 | dp=>exact aV5 h1 (OE na)
 | own m=>
  rcases h3 with⟨p2,b,c,f,q2⟩|⟨a,b⟩;subst b;have np:p2≠p:=fun z=>by subst z;exact r.apart i j n m p2 d0 d hj hk h1 hs h Bp q2.k9 hv h2
  exact .inl ⟨p2,rfl,c,f,by rw[S8];exact q2.mono (.refl _) (bq np)⟩;exact .inr ⟨a,by rw[S8];exact b⟩
 have back:∀{c:Nat} {x:D},(st.set i (some d'))[c]?=some (some x)->k9 x=true->∃y,st[c]?=some (some y)/\k9 y=true:=fun {c x} h ho=>by by_cases hc:i=c;subst hc;exact⟨d0,hs,Bp⟩;rw[kF hc]at h;exact⟨_,h,ho⟩
 obtain⟨ds1,s1,o1⟩:=back s1 o1;obtain⟨es1,s2,o2⟩:=back s2 o2;exact r.apart a b n' m' p' ds1 es1 rT g1 g2 s1 s2 o1 o2 w1 w2
def RS.mut{K:aD}{σ:L2.St}{H:Hp}{A:List av}{st:eY}(r:RS K C G0 Γ σ H A st)(na:lM Γ=true){i:Nat}{n:Bool}{p:av}{IG:List D}{t6:List V}{d0:D}(hk:Γ[i]?=some (.own n))(hs:st[i]?=some (some d0))(hv:σ[i]?=some (some (.ref p)))(hp:p∈A)(g0:G0 p=none)
  (Bp:∃ds,d0 = .lst ds) (q:aH K C (eh n G0 A H) IG t6):RS K C G0 Γ σ (upd H p (.lst t6)) A (st.set i (some (.lst IG)))/\aI (er H A) (er (upd H p (.lst t6)) A):=by
 obtain⟨ds,rfl⟩:=Bp;exact r.ap8 na hk hs hv hp g0 rfl rfl ⟨t6,cA,q⟩
def RS.OF{K:aD}{σ:L2.St}{H:Hp}{A:List av}{st:eY}(r:RS K C G0 Γ σ H A st){i:Nat}{n:Bool}{d:D}(hk:Γ[i]?=some (.own n))(hs:st[i]?=some (some d))(hd:k9 d=true) :
  ∃p,σ[i]?=some (some (.ref p))/\p∈A/\G0 p=none/\mz K C (eh n G0 A H) H p d:=by
 refine b7 (r.slot i _ hs) fun k v h1 h2 h3=>?_;rw[hk]at h1;cases h1;rcases h3 with⟨p2,b,c,f,q2⟩|⟨a,b⟩;cases b;exact⟨p2,h2,c,f,q2⟩;rw[hd]at a;cases a
def RS.owned{K:aD}{σ:L2.St}{H:Hp}{A:List av}{st:eY}(r:RS K C G0 Γ σ H A st){i:Nat}{n:Bool}{ds:List D}(hk:Γ[i]?=some (.own n))(hs:st[i]?=some (some (.lst ds))) :
  ∃p xs,σ[i]?=some (some (.ref p))/\p∈A/\G0 p=none/\H p=some (.lst xs)/\aH K C (eh n G0 A H) ds xs:=by
 refine ab8 (r.OF hk hs rfl) fun p a b c q=>?_;exact aL q fun xs e w=>⟨p,xs,a,b,c,e,w⟩
def Xx:Bool->Kd|true=>.loc|false=>.old
theorem Val.Xx{K:aD}{σ:L2.St}{H H':Hp}{A:List av}{st:eY}{n:Bool}{d:D}{v:V}(r:RS K C G0 Γ σ H A st)(e:aI H H')(l:κ.le (Xx n)=true)(w:Val K C κ G0 A H H' d v):Rep K C (eh n G0 A H') d v:=by
 have:=w.le r e l;cases n with
 | true=>exact this.1
 | false=>exact this
def iT(i:Nat)(f:DF):DS:=fun st=>match st[i]? with
 | some (some (.lst ds))=>match f st with
  | .ok d=>if ds.length<=5000 then .nx (st.set i (some (.lst (ds++[d]))))else .bad
  | .ex c p=>.ex c p st
  | .bad=>.bad
 | _=>.bad
def Xy{i:Nat}{n:Bool}{to:TE}(h:PE X e (tBM X.K "list" Il (qM i) (yR (tD X.K C G0 Γ E f κ) Nq)))(na:lM Γ=true)(hk:Γ[i]?=some (.own n):=by rfl)(hl:κ.le (Xx n)=true:=by rfl)(hs:swapsWith e none pos.line X.env=pure false:=by rfl):PS X (.Expr e pos) (jD X.K C G0 Γ E gq (iT i f)):=(AL h hs).imp fun D σ H zz=>by
 refine cj zz fun A st r q=>?_;clear zz;unfold iT at q;split at q;all_goals first
  | (rename_i z;split at z <;> (try split at z) <;> (try split at z) <;> cases z;done)
  | skip
 rename_i st' z;split at z;rename_i ds hs;cases hf:f st with
 | bad=>rw[hf]at z;cases z
 | ex c p=>rw[hf]at z;cases z
 | ok d=>
  rw[hf]at z;dsimp only at z;split at z;rename_i hlen;cases z;refine G8 (r.owned hk hs) fun p xs h1 h2 h3 h4 h5=>?_;refine⟨_,h1,.inl ⟨rfl,xs,.of h4⟩,A,st,r,?_⟩;rw[hf];intro v H' e' w;have r':=r.mono e';have q5:aH X.K C (eh n G0 A H') ds xs:=h5.same (by
   unfold eh;cases n;exact aK e';exact bS (aK e')) _
  refine⟨p,xs,v,rfl,rfl,e' _ _ h4,?_,?_⟩;rw[h5.len];have:5001<=bO:=by rw[gC];decide
  lia;obtain⟨r2,e2⟩:=r'.mut na hk hs h1 h2 h3 ⟨ds,rfl⟩ (q5.app (.cons (w.Xx r e' hl) .nil));exact q _ _ A r2 ((aK e').trans e2);cases z
 cases z;rename_i c p st' z;split at z;rename_i ds hs;cases hf:f st with
 | bad=>rw[hf]at z;cases z
 | ok d=>rw[hf]at z;dsimp only at z;split at z <;> cases z
 | ex c p=>rw[hf]at z;cases z;refine G8 (r.owned hk hs) fun p' xs h1 h2 h3 h4 h5=>?_;refine⟨_,h1,.inl ⟨rfl,xs,.of h4⟩,A,st,r,?_⟩;rw[hf];walk_at"d"
 cases z;exact q.elim
end
def spD(K:aD)(C:Cfg)(n:Nat)(F:List D->R D)(gq:Option Bool):Sp:=fun vs H Q E=>∃ds,ds.length=n/\(aH K C H ds vs/\C.gl H)/\match F ds with
 | .ok d=>∀v H',aI H H'->Sl K C gq H H' d v->Q v H'
 | .ex c p=>∀H',aI H H'->IE E c p H'
 | .bad=>False
noncomputable def bx (m:Nat) (Fb:DS):List D->R D:=fun ds=>match Fb (ds.map some++cg (m - ds.length) none) with
 | .rt d=>.ok d | .nx _=>.ok .cH | .ex c p _=>.ex c p|_=>.bad
section
variable {K:aD}{C:Cfg}{Γ:List SK}{H:Hp}
def jx:er H []=H:=by funext a;exact aZ (by simp)
def D9{ds:List D}(hn:ds.length=n)(uQ:∀i,i<n->Γ[i]?=some .par)(q:aH K C H ds vs)(Xz:C.gl H):RS K C H Γ (L2.start N vs) H [] (ds.map some++cg (N.length-ds.length) none) where
 base:=by rw[jx];exact .refl _
 lists:=fun a m=>by cases m
 len:=by unfold L2.start;simp[q.len]
 slot:=fun i d h=>by
  have hi:i<ds.length:=by apply Ax;intro gh;rw[kQ (by simp;lia)]at h;simp at h;rw[qd]at h;split at h <;> cases h
  rw[kR (by simpa using hi),cG]at h;cases hd:ds[i]? with
  | none=>rw[hd]at h;cases h
  | some d'=>rw[hd]at h;cases h;refine aL (q.get' hd) fun v h1 h2=>?_;refine⟨.par,v,uQ i (by lia),?_,?_⟩;unfold L2.start;rw[kR (by rw[bL,q.len];exact hi),cG,h1];rfl;show Rep K C (er H []) d v;rw[jx];exact h2
 gl:=Xz
 apart:=fun i j a b p IG es pM g1 g2 s1 s2 w1 w2=>by
  have hi:i<ds.length:=by apply Ax;intro gh;rw[kQ (by simp;lia)]at s1;simp at s1;rw[qd]at s1;split at s1 <;> cases s1
  rw[uQ i (by lia)]at g1;cases g1
def XA{P:cP}{w:bF}{mg:Str->Option au}{base:aN}{x qual:Str}{st:aW}{f:av}{fd:eZ}{N ps:List Str}{k n:Nat}{gq:Option Bool}{Fb:DS}(F:Im K x qual st f fd)(S:gx N ps (aO st))(hn:ps.length=n)(uQ:∀i,i<n->Γ[i]?=some .par)
  (body:∀(ck:au),fd.code=ck->∀(A:bP) (outer:List Env) (s:ay) (H:Hp) (E:XK),i7 k (A.deeper (envOfC qual (aO st) s.heap.objs.size f ck))->
   mZ ((ji (kC P w) P w K mg base N qual (aO st) f ck A outer s H E).cK (jw (ji (kC P w) P w K mg base N qual (aO st) f ck A outer s H E) fun _=>E)) (dJ st) (jD K C H Γ (fun _=>E) gq Fb)) :
  j4 P w K mg base (kC P w) (k+1) f fd ps (spD K C n (bx N.length Fb) gq):=by
 refine za F S (fun vs H Q E jz=>by obtain⟨ds,h1,h2,_⟩:=jz;rw[h2.1.len,h1,hn]) fun ck hc A outer s H vs Q E hr n8=>?_;refine bK n8 fun ds h1 h2 q=>?_;clear n8;refine⟨_,body ck hc A outer s H E hr,[],_,D9 h1 uQ h2.1 h2.2,?_⟩;unfold bx at q;cases hf:Fb (ds.map some++cg (N.length-ds.length) none)with
 | nx st'=>
  rw[hf]at q;intro cz H' A' r' e';refine q .cH H' (r'.g0) ?_;have R:∀H:Hp,Rep K C H .cH .cH:=fun H=>by rw[Rep]
  match gq with
  | none=>exact⟨⟨R (nw H H'),.not rfl rfl⟩,.not (fun ds z=>by cases z) rfl⟩
  | some true=>exact⟨R (nw H H'),.not rfl rfl⟩
  | some false=>exact R H'
 | bk st'=>rw[hf]at q;exact q.elim
 | ct st'=>rw[hf]at q;exact q.elim
 | rt d=>walk_at"b"
 | ex c p st'=>rw[hf]at q;exact fun cz H' A' r' e'=>q H' r'.g0
 | bad=>rw[hf]at q;exact q.elim
end
section
def OG:Bool->Kd|true=>.new|false=>.fD
def OH{n:Nat}{Fd:List D->R D}{Dc:Bool}{K:aD}:∀σ H Q,tD K C G0 Γ E (aY Fd fs) (OG Dc) σ H Q->(∀st ds,fs st = .ok ds->ds.length=n)->NK (spD K C n Fd (some Dc)) E (Bg K C G0 Γ E fs κ) σ H Q:=fun σ H Q sX hlen=>by
 refine cj sX fun A st r q=>?_;clear sX;refine⟨A,st,r,?_⟩;unfold aY R.bind at q;cases hf:fs st with
 | bad=>walk_at"b"
 | ex c p=>walk_at"b"
 | ok ds=>
  rw[hf]at q;dsimp only at q;intro vs H1 e1 w1;refine⟨ds,hlen st ds hf,⟨w1.same Kd.wA _,C.glM (r.g0.trans e1) r.gl⟩,?_⟩;cases hg:Fd ds with
  | bad=>rw[hg]at q;exact q
  | ex c p=>rw[hg]at q;walk_at"g"
  | ok d=>
   rw[hg]at q;refine fun v H' e' w=>q v H' (e1.trans e') ?_;cases Dc with
   | true=>have w':Val K C .new G0 A H1 H' d v:=w;exact w'.early e1
   | false=>exact w
def pC:∀st ds,ao st = .ok ds->ds.length=0:=fun st ds h=>by cases h;rfl
def fY(h:∀st ds,fs st = .ok ds->ds.length=n):∀st ds,aa f fs st = .ok ds->ds.length=n+1:=fun st ds q=>by
 unfold aa R.bind at q;cases hf:f st with
 | bad=>rw[hf]at q;cases q
 | ex c p=>rw[hf]at q;cases q
 | ok d=>
  rw[hf]at q;dsimp only at q;cases hg:fs st with
  | bad=>rw[hg]at q;cases q
  | ex c p=>rw[hg]at q;cases q
  | ok IG=>rw[hg]at q;cases q;rw[cI,h st _ hg]
def Sn{X:Cx}(Fn:j4 X.prog X.w X.K X.mg X.base (kC X.prog X.w) k ff fd ps (spD X.K C n Fd (some Dc)))(hr:i7 k X.A)(hm:X.mg x=some (.ref ff))(hk:sy X.K (.ref ff)=true)(hb:Binds X.K fd ps [])
  (ha:PA (X.cK (jw X E)) (e::es) (Bg X.K C G0 Γ E fs κ)) (hlen:∀st ds,fs st = .ok ds->ds.length=n) (hg:Gl X x:=by rfl) (Gv:(x==("__debug__" : Str))=false:=by decide) (he:bJ (e::es) X.env=(false,eval e X.env)::bJ es X.env:=by rfl) (sW:(backTo pos (bJ es X.env)).any (·.1)=false:=by rfl) :
  PE (X.cK (jw X E)) (.Call (.Name x p) (e::es) [] pos) (tD X.K C G0 Γ E (aY Fd fs) (OG Dc)):=(NL Fn hr hg hm hk hb ha Gv he sW).imp fun σ H Q q=>OH σ H Q q hlen
abbrev DB:=D->eY->Option eY
def dG(bind:DB)(F:DS):List D->eY->Out
 | [],st=>.nx st
 | d::ds,st=>match bind d st with
  | none=>.bad
  | some l7=>match F l7 with
   | .nx st'=>dG bind F ds st'
   | .ct st'=>dG bind F ds st'
   | .bk st'=>.nx st'
   | o=>o
abbrev DI:=eY->R (List D)
def cy(g:DI)(bind:DB)(F:DS):DS:=fun st=>match g st with | .ok ds=>dG bind F ds st | .ex c p=>.ex c p st | .bad=>.bad
def pX(K:aD)(C:Cfg)(G0:Hp)(Γ:List SK)(t:TG)(bind:DB):Prop:=∀(σ:L2.St) (H:Hp) (A:List av) (st l7:eY) (d:D) (v:V) (Q:L2.St->Hp->Prop),RS K C G0 Γ σ H A st->Rep K C (er H A) d v->bind d st=some l7->
 (∀cz A',RS K C G0 Γ cz H A' l7->aI (er H A) (er H A')->(∀a∈A,a∈A')->Q cz H)->t v σ H Q
def b5(i:Nat):DB:=fun d st=>some (st.set i (some d))
def ef(i j:Nat):DB:=fun d st=>match d with | .tup [a,b]=>some ((st.set i (some a)).set j (some b))|_=>none
def r9{K:aD}{i:Nat}{k:SK}(hk:Γ[i]?=some k:=by rfl)(l:k.takes .old=true:=by rfl):pX K C G0 Γ (Cv i) (b5 i):=fun σ H A st l7 d v Q r w hb q=>by
 cases hb;refine bK (r.set (.refl _) hk l (κ:=.old) w) fun A' r' e' sb=>?_;exact q _ A' r' e' sb
def rf{K:aD}{i j:Nat}{k k':SK}(hk:Γ[i]?=some k:=by rfl)(hj:Γ[j]?=some k':=by rfl)(l:k.takes .old=true:=by rfl)(l':k'.takes .old=true:=by rfl):pX K C G0 Γ (ad2 K 2 (Nb (Cv i) (Nb (Cv j) ad0))) (ef i j):=fun σ H A st l7 d v Q r w hb q=>by
 unfold ef at hb;split at hb;rename_i a b;cases hb;rw[Rep]at w;refine b7 w fun p xs aT h2 h3=>?_;clear w;walk_at"c";have zb:=aI.tup (aJ _ _) h2;rw[aH]at h3;obtain⟨x,r1,rfl,wx,h3⟩:=h3;rw[aH]at h3;obtain⟨y,r2,rfl,wy,h3⟩:=h3;rw[aH]at h3;subst h3;refine⟨p,_,rfl,zb,rfl,x,[y],rfl,y,[],rfl,rfl,?_⟩;refine bK (r.set (.refl _) hk l (κ:=.old) wx) fun A1 s1 e1 b1=>?_;refine bK (s1.set (.refl _) hj l' (κ:=.old) (wy.same e1 _)) fun A2 s2 e2 b2=>?_;exact q _ A2 s2 (e1.trans e2) fun a m=>b2 a (b1 a m);cases hb
def JY(K:aD)(C:Cfg)(A:List av)(H1:Hp)(J:It)(ds:List D):Prop:=∀(i:Nat) (H:Hp) (A':List av),aI (er H1 A) (er H A')->(∀a∈A',H a≠none)->
 (∀d,ds[i]?=some d->J.go i H/\∀x H',J.yld i H x H'->aI H H'/\Rep K C (er H' A') d x)/\(ds[i]?=none->J.stop i H)
def tG{K:aD}{J:It}{ds:List D}{bind:DB}{g:TG}{A:List av}{H H1:Hp}{σ:L2.St}{st:eY}{D:Ends}(hB:pX K C G0 Γ g bind)(hJ:JY K C A H1 J ds)(r:RS K C G0 Γ σ H A st)(e1:aI H H1)(q:match dG bind F ds st with
   | .nx st'=>∀cz H' A',RS K C G0 Γ cz H' A' st'->aI (er H A) (er H' A')->D.nx cz H'
   | .bk st'=>∀cz H' A',RS K C G0 Γ cz H' A' st'->aI (er H A) (er H' A')->D.bk cz H'
   | .ct st'=>∀cz H' A',RS K C G0 Γ cz H' A' st'->aI (er H A) (er H' A')->D.ct cz H'
   | .rt d=>∀v H',aI G0 H'->Sl K C gq G0 H' d v->D.rt v H'
   | .ex c p st'=>∀cz H' A',RS K C G0 Γ cz H' A' st'->aI (er H A) (er H' A')->IE (E cz) c p H'
   | .bad=>False) :
  ∃W:Nat->Nat->L2.St->Hp->Prop,(∃m,W 0 m σ H1)/\∀i m σ H,W i m σ H->
   (J.stop i H/\D.nx σ H)\/(J.go i H/\∃N:L2.St->Hp->Prop,(∀cz H',N cz H'->∃m',m'<m/\W (i+1) m' cz H')/\∀x H',J.yld i H x H'->g x σ H' fun sU H2=>jD K C G0 Γ E gq F {D with nx:=N,ct:=N,bk:=D.nx} sU H2):=by
 refine⟨fun i m cz H'=>m=ds.length-i/\i<=ds.length/\∃A' st',RS K C G0 Γ cz H' A' st'/\aI (er H1 A) (er H' A')/\dG bind F (ds.drop i) st'=dG bind F ds st,⟨ds.length,rfl,ie _,A,st,r.mono e1,.refl _,rfl⟩,?_⟩;rintro i m Cw H3 ⟨rfl,hi,A3,Gm,r3,e3,g3⟩;obtain⟨nc,pK⟩:=hJ i H3 A3 e3 (fun a m=>by obtain⟨xs,q,_⟩:=r3.lists a m;rw[q];simp);cases hd:ds[i]? with
 | none=>have:ds.drop i=[]:=List.drop_eq_nil_iff.mpr (lZ.mp hd);rw[this]at g3;rw[<- g3]at q;exact .inl ⟨pK hd,q Cw H3 A3 r3 ((aK e1).trans e3)⟩
 | some d=>
  obtain⟨go,yl⟩:=nc d hd;have gh:i<ds.length:=(fV.mp hd).1;have hdr:ds.drop i=d::ds.drop (i+1):=by rw[Ft gh];congr 1;exact(fV.mp hd).2
  refine .inr ⟨go,fun cz H'=>∃A' st',RS K C G0 Γ cz H' A' st'/\aI (er H1 A) (er H' A')/\dG bind F (ds.drop (i+1)) st'=dG bind F ds st,fun cz H' Io=>Io.elim fun A' JI=>JI.elim fun st' Li=>Li.elim fun h1 Gf=>Gf.elim fun h2 h3=>⟨ds.length-(i+1),by lia,rfl,gh,A',st',h1,h2,h3⟩,fun x H' hy=>?_⟩;obtain⟨e4,wx⟩:=yl x H' hy;rw[hdr,dG]at g3;cases hb:bind d Gm with
  | none=>rw[hb]at g3;rw[<- g3]at q;exact q.elim
  | some st4=>
   rw[hb]at g3;dsimp only at g3;refine hB Cw H' A3 Gm st4 d x _ (r3.mono e4) wx hb fun σ5 A5 r5 e5 _=>⟨A5,st4,r5,?_⟩
   have Sq:aI (er H1 A) (er H' A5):=(e3.trans (aK e4)).trans e5;cases hf:F st4 with
   | nx Jz=>rw[hf]at g3;exact fun WC H6 A6 r6 e6=>⟨A6,Jz,r6,Sq.trans e6,g3⟩
   | ct Jz=>rw[hf]at g3;exact fun WC H6 A6 r6 e6=>⟨A6,Jz,r6,Sq.trans e6,g3⟩
   | bk Jz=>rw[hf]at g3;rw[<- g3]at q;exact fun WC H6 A6 r6 e6=>q WC H6 A6 r6 (((aK e1).trans Sq).trans e6)
   | rt d=>rw[hf]at g3;rw[<- g3]at q;exact q
   | ex c p Jz=>rw[hf]at g3;rw[<- g3]at q;exact fun WC H6 A6 r6 e6=>q WC H6 A6 r6 (((aK e1).trans Sq).trans e6)
   | bad=>rw[hf]at g3;rw[<- g3]at q;exact q.elim
def bU(f:DF):DI:=fun st=>match f st with | .ok (.lst ds)=>.ok ds | .ok _=>.bad | .ex c p=>.ex c p | .bad=>.bad
def oB{tg iter:bf}{bind:DB}{g:TG}(hp:PassesOwn (aF X.prog X.w) X.A X.env X.xe)(hc:X.calm=true)(he:PE X iter (tD X.K C G0 Γ E f κ))(l:κ.le .old=true)(hg:PG X tg g)(hB:pX X.K C G0 Γ g bind)(hb:mZ X ss (jD X.K C G0 Γ E gq F))(hs:∀x,qD iter X.env x=pure x:=by intro _;rfl) :
  PS X (.For tg iter ss [] pos) (jD X.K C G0 Γ E gq (cy (bU f) bind F)):=(Gk hp hc (Ie he) hg hb hs).imp fun D σ H zz=>by
 walk_at"a";unfold cy bU at q;cases hf:f st with
 | bad=>rw[hf]at q;exact q.elim
 | ex c p=>rw[hf]at q;walk_at"d"
 | ok d=>
  rw[hf]at q;cases d with
  | lst ds=>dsimp only at q;intro v H1 e1 w;have w':Rep X.K C (er H1 A) (.lst ds) v:=w.le r e1 (κ':=.old) l;rw[Rep]at w';refine b7 w' fun a xs aT h2 h3=>?_;clear w';walk_at"c";refine⟨a,rfl,⟨xs,(aJ _ _).seq h2⟩,?_⟩;refine tG hB (fun i H3 A3 e3 _=>⟨fun d hd=>?_,fun hd=>?_⟩) r e1 q;refine aL (h3.get' hd) fun v hv rv=>?_;have s3:ja X.K H3 a xs:=(e3.trans (aJ _ _)).seq h2;refine⟨⟨xs,v,s3,hv⟩,fun x H' I8=>?_⟩;obtain⟨hH,hx⟩:=I8;subst hH;have:=hx xs s3;rw[hv]at this;cases this;exact⟨.refl _,rv.same ((aJ _ _).trans e3) _⟩;exact⟨xs,(e3.trans (aJ _ _)).seq h2,by rw[h3.len];exact lZ.mp hd⟩
  | _=>exact q.elim
def kW(fs:DA):DI:=fun st=>match fs st with | .ok [.int j]=>if(decide (-(2 ^ 62)<=j)&&decide (j<2 ^ 62))=true then .ok ((cY j.toNat).map fun i=>.int (i:Nat))else .bad | .ok _=>.bad | .ex c p=>.ex c p | .bad=>.bad
def Bq{tg:bf}{bind:DB}{g:TG}{p:Pos}(hp:PassesOwn (aF X.prog X.w) X.A X.env X.xe)(hc:X.calm=true)(hm:X.mg "range"=none)(ha:PA X [a] (Bg X.K C G0 Γ E fs κ))(hg:PG X tg g)(hB:pX X.K C G0 Γ g bind)(hb:mZ X ss (jD X.K C G0 Γ E gq F))(Xz:Gl X "range":=by rfl)
  (OI:bJ [a] X.env=[(false,eval a X.env)]:=by rfl) (hs:∀x,qD (.Call (.Name "range" p) [a] [] pos) X.env x=pure x:=by intro _;rfl) {pos':Pos} :
  PS X (.For tg (.Call (.Name "range" p) [a] [] pos) ss [] pos') (jD X.K C G0 Γ E gq (cy (kW fs) bind F)):=(Gk hp hc (yQ Xz hm ha OI) hg hb hs).imp fun D σ H zz=>by
 walk_at"a";unfold cy at q;cases hg:kW fs st with
 | bad=>rw[hg]at q;exact q.elim
 | ex c p=>
  rw[hg]at q;have hf:fs st = .ex c p:=by unfold kW at hg;split at hg;split at hg <;> cases hg;cases hg;rename_i z;rw[z];cases hg;rfl;cases hg
  rw[hf];walk_at"d"
 | ok IG=>
  rw[hg]at q;unfold kW at hg;split at hg;rename_i j hf;rw[hf];split at hg;rename_i hc;cases hg;simp only[bM,aU8]at hc;intro vs H1 e1 w1;refine aL (iY w1) fun v fW wv=>?_;obtain rfl:=fW;obtain rfl:v = .int j:=by rw[Rep]at wv;exact wv
  refine⟨j,rfl,hc.1,hc.2,?_⟩;refine tG hB (fun i H3 A3 e3 _=>⟨fun d hd=>?_,fun hd=>?_⟩) r e1 q;rw[cG]at hd;have hi:i<j.toNat:=by apply Ax;intro gh;rw[nD (by simpa using gh)]at hd;cases hd
  rw[Ag hi]at hd;cases hd;refine⟨hi,fun x H' Ia=>?_⟩;obtain⟨hH,hx⟩:=Ia;subst hH;subst hx;refine⟨.refl _,?_⟩;rw[Rep,MZ];show j.toNat<=i;have:=lZ.mp hd;simpa using this;cases hg;cases hg;cases hg;cases hg
end
section
def ko(g g':D->D->R D)(fa fb fc:DF):DF:=fun st=>(fa st).bind fun a=>(fb st).bind fun b=>(g a b).bind fun z=>match z with
 | .bl true=>(fc st).bind fun c=>g' b c
 | .bl false=>.ok (.bl false)
 | _=>.bad
def zv{K:aD}{r2 r2':R2}{g g':D->D->R D}(ho:tE K C r2 g .new)(sR:tE K C r2' g' .new):∀σ H Q,tD K C G0 Γ E (ko g g' fa fb fc) .new σ H Q->Gn r2 r2' (tD K C G0 Γ E fa fL) (tD K C G0 Γ E fb mC) (tD K C G0 Γ E fc Dc) σ H Q:=fun σ H Q zz=>by
 walk_at"a";unfold ko R.bind at q;cases ha:fa st with
 | bad=>rw[ha]at q;exact q
 | ex c p=>rw[ha]at q;exact q
 | ok a=>
  rw[ha]at q;walk_at"f";cases hb:fb st with
  | bad=>rw[hb]at q;exact q
  | ex c p=>rw[hb]at q;walk_at"g"
  | ok b=>
   rw[hb]at q;intro y H2 e2 w2;dsimp only at q;have ug:=e1.trans e2;refine ho G0 Γ (E σ) σ A st H2 a b x y _ (r.mono ug) (w1.rep.same e2 _) w2.rep ?_;cases hg:g a b with
   | bad=>rw[hg]at q;exact q
   | ex c p=>rw[hg]at q;exact fun H' e'=>q H' (ug.trans e')
   | ok z=>
    rw[hg]at q;cases z with
    | bl k=>
     intro v H3 e3 w3;refine⟨k,vbl w3,?_⟩;have zw:=ug.trans e3;cases k with
     | false=>rw[aU4 iW];exact q _ H3 zw (.flat r zw (by rw[fU] <;> simp) Bj _)
     | true=>
      rw[aU3 rfl];refine⟨A,st,r.mono zw,?_⟩;dsimp only at q;cases hc:fc st with
      | bad=>rw[hc]at q;exact q
      | ex c p=>rw[hc]at q;exact fun H' e'=>q H' (zw.trans e')
      | ok c=>
       rw[hc]at q;intro w' H4 e4 w4;dsimp only at q;refine sR G0 Γ (E σ) σ A st H4 b c y w' Q (r.mono (zw.trans e4)) (w2.rep.same (e3.trans e4) _) w4.rep ?_;cases O5:g' b c with
       | bad=>rw[O5]at q;exact q
       | ex c p=>rw[O5]at q;exact fun H' e'=>q H' ((zw.trans e4).trans e')
       | ok d=>rw[O5]at q;exact fun v H' e' w=>q v H' ((zw.trans e4).trans e') (w.early (zw.trans e4))
    | _=>exact q.elim
def Dd(hr:pT X (gZ op) r2)(OJ:pT X (gZ Nl) r2')(ho:tE X.K C r2 g .new)(sR:tE X.K C r2' g' .new)(ha:PE X a (tD X.K C G0 Γ E fa fL))(hb:PE X b (tD X.K C G0 Γ E fb mC))(hc:PE X c (tD X.K C G0 Γ E fc Dc))
  (hm:lastMarks [op,Nl] [b,c]=false:=by with_unfolding_all rfl):PE X (.Compare a [op,Nl] [b,c] pos) (tD X.K C G0 Γ E (ko g g' fa fb fc) .new):=(Nk hr OJ ha hb hc hm).imp (zv ho sR)
def De(hr:pT X (gZ op) r2)(OJ:pT X (gZ Nl) r2')(ho:tE X.K C r2 g .new)(sR:tE X.K C r2' g' .new)(ha:PE X a (tD X.K C G0 Γ E fa fL))(hb:PE X b (tD X.K C G0 Γ E fb mC))(hc:PE X c (tD X.K C G0 Γ E fc Dc))
  (hm:lastMarks [op,Nl] [b,c]=false:=by with_unfolding_all rfl):PT X (.Compare a [op,Nl] [b,c] pos) (uW X.K C G0 Γ E (ko g g' fa fb fc)):=(Nm hr OJ ha hb hc hm).imp fun σ H Q zz=>by
 refine cj zz fun A st r q=>?_;clear zz;refine zv ho sR σ H _ ⟨A,st,r,?_⟩;cases hf:ko g g' fa fb fc st with
 | bad=>walk_at"b"
 | ex c p=>walk_at"b"
 | ok d=>
  rw[hf]at q;cases d with
  | bl b=>exact fun v H' e' w=>⟨b,vbl w,q H' e'⟩
  | _=>exact q.elim
def yi:D->R D:=fun a=>match a with | .int i=>.ok (.int (-i))|_=>.bad
def XC(ha:PE X a (tD X.K C G0 Γ E fa fL)):PE X (.UnaryOp .USub a pos) (tD X.K C G0 Γ E (lV yi fa) .new):=(af1 WK ha).imp fun σ H Q zz=>by
 walk_at"a";unfold lV R.bind at q;cases ha:fa st with
 | bad=>rw[ha]at q;exact q
 | ex c p=>rw[ha]at q;exact q
 | ok a=>
  rw[ha]at q;intro x H1 e1 w1;cases a with
  | int i=>have:=w1.rep;rw[Rep]at this;exact⟨i,this,q _ H1 e1 (.flat r e1 (by rw[fU] <;> simp) pP _)⟩
  | _=>exact q.elim
def cutD(ds:List D)(lo hi:Option Int):List D:=(ds.drop (HT.yX ds.length 0 lo)).take (HT.yX ds.length ds.length hi-HT.yX ds.length 0 lo)
def iP(o:Option DF):eY->R (Option Int):=fun st=>match o with
 | none=>.ok none
 | some f=>(f st).bind fun d=>match d with | .int i=>.ok (some i)|_=>.bad
def rg(fa:DF)(lo hi:Option DF):DF:=fun st=>(fa st).bind fun a=>(iP lo st).bind fun l=>(iP hi st).bind fun h=>match a with
 | .lst ds=>if cV ds=true then .ok (.lst (cutD ds l h))else .bad
 | _=>.bad
def tDO(K:aD)(C:Cfg)(G0:Hp)(Γ:List SK)(E:L2.St->XK)(o:Option DF):TO:=fun σ H Q=>∃A st,RS K C G0 Γ σ H A st/\match iP o st with
 | .ok i=>∀H',aI H H'->Q i H'
 | .ex c p=>∀H',aI H H'->IE (E σ) c p H'
 | .bad=>False
def Br:PO X none (tDO X.K C G0 Γ E none):=fun ak s σ H Q I jz=>jz.elim fun A n8=>n8.elim fun st sX=>sX.elim fun r q=>RA ak s σ H Q I (q H (.refl _))
def IP(h:PE X e (tD X.K C G0 Γ E f κ)):PO X (some e) (tDO X.K C G0 Γ E (some f)):=fun ak s σ H Q I Io=>Io.elim fun A JI=>JI.elim fun st Li=>Li.elim fun r q=>RB h ak s σ H Q I ⟨A,st,r,by
 unfold iP R.bind at q;cases hf:f st with
 | bad=>simp only[hf]at q
 | ex c p=>simp only[hf]at q;exact q
 | ok d=>
  simp only[hf]at q;cases d with
  | int i=>exact fun v H' e' w=>⟨i,by have:=w.rep;rw[Rep]at this;exact this,q H' e'⟩
  | _=>exact q.elim⟩
def Df{K:aD}{H:Hp}{ds:List D}{xs:List V}{lo hi:Option Int}(q:aH K C H ds xs):aH K C H (cutD ds lo hi) (JD xs lo hi):=by
 unfold cutD JD;rw[q.len];exact(q.drop _).take _
def JZ:∀{ds:List D} (n:Nat),cV ds=true->cV (ds.take n)=true:=fun n h=>dY fun d hd=>iO h (sI hd)
def K1:∀{ds:List D} (n:Nat),cV ds=true->cV (ds.drop n)=true:=fun n h=>dY fun d hd=>iO h (Fw hd)
def OL{ds es:List D}(h:cV ds=true)(h':cV es=true):cV (ds++es)=true:=dY fun d hd=>(gW.mp hd).elim (iO h) (iO h')
def OM{lo hi:Option bf}{fl fh:Option DF}{p2:Pos}(he:PE X e (tD X.K C G0 Γ E fa fL))(hl:PO X lo (tDO X.K C G0 Γ E fl))(hu:PO X hi (tDO X.K C G0 Γ E fh)):PE X (.Subscript e (.Slice lo hi none p2) pos) (tD X.K C G0 Γ E (rg fa fl fh) .new):=(CB Ik he hl hu).imp fun σ H Q zz=>by
 walk_at"a";unfold rg R.bind at q;cases ha:fa st with
 | bad=>rw[ha]at q;exact q
 | ex c p=>rw[ha]at q;exact q
 | ok a=>
  rw[ha]at q;walk_at"f";cases hb:iP fl st with
  | bad=>rw[hb]at q;exact q
  | ex c p=>rw[hb]at q;walk_at"g"
  | ok l=>
   rw[hb]at q;intro H2 e2;refine⟨A,st,r.mono (e1.trans e2),?_⟩;dsimp only at q;cases hc:iP fh st with
   | bad=>rw[hc]at q;exact q
   | ex c p=>rw[hc]at q;exact fun H' e'=>q H' ((e1.trans e2).trans e')
   | ok h=>
    rw[hc]at q;intro H3 e3;dsimp only at q;cases a with
    | lst ds=>dsimp only at q;by_cases n:cV ds=true;rw[aU3 n]at q;refine b7 ((w1.rep.same (e2.trans e3) _).items) fun p xs aT h2 h3=>?_;walk_at"c";have zw:=(e1.trans e2).trans e3;refine⟨p,xs,rfl,h2,fun l' y9=>q _ _ (zw.trans (bT y9)) (.lst r zw y9 ?_)⟩;exact(Df h3).part (.nw zw) _ (JZ _ (K1 _ n));rw[aU4 n]at q;exact q.elim
    | _=>exact q.elim
def ON(K:aD):R2:=fun x y H Q=>∃l b xs zs,x = .ref l/\y = .ref b/\ja K H l xs/\ja K H b zs/\xs.length+zs.length<=bO/\∀p,H p=none->Q (.ref p) (upd H p (.lst (xs++zs)))
def Bt:pT X (binaryOp .Add) (ON X.K):=by
 intro ak s σ H x y v u Q I rx ry h;refine aC2 h fun l b xs zs yb JE hH hB hz q=>?_;clear h;obtain rfl:=yb;obtain rfl:=JE;cases rx;cases ry;refine bK (I.list hH) fun b6 r p1 _=>?_;refine bK (I.list hB) fun Sv r2 p2 _=>?_;obtain⟨⟨cls,dd,data,sl⟩,ho,hc,n,hd⟩:=id p1.isList;obtain⟨⟨aL1,RO,data2,sl2⟩,ho2,X7,n2,hd2⟩:=id p2.isList;simp only at hc hd X7 hd2;subst hc hd X7 hd2;have l1:=r.length;have l2:=r2.length;refine concat_meets ⟨_,ho,rfl⟩ ⟨_,ho2,rfl⟩ noFill_list_add seq_list_add PySem.F.slot_list_add PySem.F.entry_list_add (PySem.F.args_list_add_2 _ _) (list_addW l b b6.toArray Sv.toArray n n2 dd RO sl sl2 (by simp;lia)) ⟨ho,ho2,?_⟩;have ea:b6.toArray++Sv.toArray=(b6++Sv).toArray:=by simp
 rw[ea];exact⟨.ref _,_,I.al1 (t':=s.toks) (r.append r2) (by rw[fj];lia),rfl,q _ I.fresh⟩
def iU:D->D->R D:=fun a b=>match a,b with
 | .lst ds,.lst es=>if(cV ds&&cV es&&decide (ds.length+es.length<=5000))=true then .ok (.lst (ds++es))else .bad
 | _,_=>.bad
def Sw{K:aD}:tE K C (ON K) iU .new:=fun G0 Γ E σ A st H a b x y Q r qa qb q=>by
 cases hg:iU a b with
 | bad=>rw[hg]at q;exact q.elim
 | ex c p=>unfold iU at hg;split at hg <;> (try split at hg) <;> cases hg
 | ok d=>
  rw[hg]at q;unfold iU at hg;split at hg;rename_i ds es;split at hg;rename_i hc;cases hg;simp only[bM,aU8]at hc;refine b7 qa.items fun p xs aT h2 h3=>?_;walk_at"c";refine b7 qb.items fun p' ys aT zb h3'=>?_;walk_at"c";refine⟨p,p',xs,ys,rfl,rfl,h2,zb,?_,fun l hl=>q _ _ (bT hl) (.lst r (.refl _) hl ?_)⟩;rw[h3.len,h3'.len];have:5000<=bO:=by rw[gC];decide
  lia;exact(h3.app h3').part (.nw (.refl _)) _ (OL hc.1.1 hc.1.2);cases hg;cases hg
def K2:D->Option (List Int)
 | .tup ds=>ds.mapM fun d=>match d with | .int i=>some i|_=>none
 | _=>none
theorem Sy:∀{d:D} {ns:List Int},K2 d=some ns->d = .tup (ns.map D.int)
 | .tup ds,ns,h=>by
  rw[K2]at h;congr 1;revert ns;induction ds with
  | nil=>intro ns h;simp at h;subst h;rfl
  | cons d ds ih=>
   intro ns h;rw[Fx]at h;cases d with
   | int i=>
    dsimp only at h;cases hm:ds.mapM fun d=>match d with | .int i=>some i|_=>(none:Option Int)with
    | none=>rw[hm]at h;cases h
    | some ms=>rw[hm]at h;have h':i::ms=ns:=dN h;subst h';rw[bh,<- ih ms hm]
   | _=>cases h
def zx(ds:List D):Option (List (List Int)):=ds.mapM K2
theorem Dg:∀{ds:List D} {jI:List (List Int)},zx ds=some jI->ds=jI.map fun ns=>.tup (ns.map D.int)
 | [],jI,h=>by
  have h':some []=some jI:=h;cases h';rfl
 | d::ds,jI,h=>by
  unfold zx at h;rw[Fx]at h;cases hd:K2 d with
  | none=>rw[hd]at h;cases h
  | some ns=>
   rw[hd]at h;cases hm:ds.mapM K2 with
   | none=>rw[hm]at h;cases h
   | some ms=>rw[hm]at h;have h':ns::ms=jI:=dN h;subst h';rw[bh,<- Dg (ds:=ds) hm,Sy hd]
def lN(jI:List (List Int)):Bool:=match jI with | []=>true|ns::_=>decide (ns.length≠0)&&jI.all fun ms=>decide (ms.length=ns.length)
def Dh(h:lN jI=true):Rows jI:=by
 cases jI with
 | nil=>exact⟨0,fun ns hm=>by cases hm⟩
 | cons ns jI=>
  unfold lN at h;rw[bM]at h;have h1:ns.length≠0:=by simpa using h.1
  refine⟨ns.length-1,fun ms hm=>?_⟩;have:=iZ.mp h.2 ms hm;have:ms.length=ns.length:=by simpa using this
  lia
def pQ(ns:List Int):D:=.tup (ns.map D.int)
def Sz(ns:List Int):fU (pQ ns)=true:=by
 unfold pQ;rw[fU];exact dY fun d hd=>by refine aL (aX.mp hd) fun n _ aT=>?_;walk_at"c";rw[fU] <;> simp
def K3(jI:List (List Int)):cV (jI.map pQ)=true:=dY fun d hd=>by
 refine aL (aX.mp hd) fun n _ aT=>?_;walk_at"c";exact Sz n
def aR8:List D->R D:=fun ds=>match ds with
 | [.lst es]=>match zx es with
  | some jI=>if(lN jI&&decide (jI.length<64))=true then .ok (.lst (gy es))else .bad
  | none=>.bad
 | _=>.bad
def dd{α:Type}[DecidableEq α]:List α->List α
 | []=>[]
 | x::xs=>if x∈xs then dd xs else x::dd xs
theorem tH[DecidableEq α]:∀{xs:List α},x∈dd xs↔x∈xs
 | []=>Iff.rfl
 | y::ys=>by
  rw[dd];split;rename_i h;rw[tH,bD];constructor;exact .inr;rintro(rfl|q);exact h;exact q;rw[bD,bD,tH]
theorem rj[DecidableEq α]:∀(xs:List α),(dd xs).Nodup
 | []=>.nil
 | y::ys=>by
  rw[dd];split;exact rj ys;rename_i h;exact jN.mpr ⟨fun q=>h (tH.mp q),rj ys⟩
def kq:D->R D:=fun a=>match a with
 | .lst es=>match zx es with
  | some jI=>if(lN jI&&decide (jI.length<=50))=true then .ok (.lst (gy ((dd jI).map pQ)))else .bad
  | none=>.bad
 | _=>.bad
def Di{es:List D}(hs:∀a∈ds,∀b∈ds,gB a b=true)(hp:es.Perm ds):gy es=gy ds:=iK hs ((dm es).trans hp) (nU es)
end
section
def XE:gY "set"=some (.type "set"):=by decide +kernel
def zy:gY "sorted"=some (.builtin "sorted"):=by decide +kernel
def OO(h:Rows jI):∀a∈jI.map pQ,∀b∈jI.map pQ,gB a b=true:=fun a ha b hb=>by
 obtain⟨n,hn⟩:=h;refine aL (aX.mp ha) fun x hx aT=>?_;walk_at"c";refine aL (aX.mp hb) fun y hy aT=>?_;walk_at"c";unfold pQ;rw[gB];exact tw (by rw[hn x hx,hn y hy])
def XF(l:List (List Int)):(dd l).length<=l.length:=by
 induction l with
 | nil=>exact b9 _
 | cons x l ih=>rw[dd];split;exact Nat.le_succ_of_le ih;rw[cI,cI];lia
def GY(hh:X.A.handled=none)(hu:X.A.units+64<cLine)(hm:X.mg "sorted"=none)(hm2:X.mg "set"=none)(he:PE X e (tD X.K C G0 Γ E f κ))(hg:Gl X "sorted":=by rfl)(hg2:Gl X "set":=by rfl)
  (h1:bJ [Expr.Call (.Name "set" p2) [e] [] SA] X.env=[(false,eval (.Call (.Name "set" p2) [e] [] SA) X.env)]:=by rfl) (h2:bJ [e] X.env=[(false,eval e X.env)]:=by rfl) :
  PE X (.Call (.Name "sorted" p1) [.Call (.Name "set" p2) [e] [] SA] [] pos) (tD X.K C G0 Γ E (lV kq f) .new):=by
 have P1:PE X (.Call (.Name "set" p2) [e] [] SA) (tCB (ID X C) (yR (tD X.K C G0 Γ E f κ) Nq)):=lC (JV hh hu) hg2 hm2 XE (jb he m8 h2) (by decide) (by decide) h2;have P2:PE X (.Call (.Name "sorted" p1) [.Call (.Name "set" p2) [e] [] SA] [] pos) (tCB (GS X C) (yR (tCB (ID X C) (yR (tD X.K C G0 Γ E f κ) Nq)) Nq)):=iH (Bd hh hu) hg hm zy (jb P1 m8 h1) (by decide) (by decide) h1;refine P2.imp fun σ H Q jz=>jz.elim fun A n8=>n8.elim fun st sX=>sX.elim fun r q=>⟨A,st,r,?_⟩
 unfold lV R.bind at q;cases hf:f st with
 | bad=>walk_at"b"
 | ex c p=>walk_at"b"
 | ok d=>
  rw[hf]at q;dsimp only at q;intro v H1 e1 w1;show ID X C [v] H1 (fun x H2=>GS X C [x] H2 Q);cases hg:kq d with
  | bad=>rw[hg]at q;exact q.elim
  | ex c p=>unfold kq at hg;split at hg <;> (try split at hg) <;> (try split at hg) <;> cases hg
  | ok d'=>
   rw[hg]at q;unfold kq at hg;split at hg;rename_i es;split at hg;rename_i jI hr;split at hg;rename_i hc;cases hg;simp only[bM,aU8]at hc;have he:=Dg hr;have aq2:=Dh hc.1;refine⟨v,jI,rfl,by rw[<- he];exact w1.rep,hc.2,fun p zs hp GP nod mm=>?_⟩;have pz:(zs.map (·.1)).Perm (dd jI):=(Ai nod (rj jI)).mpr fun ns=>by rw[mm ns,tH]
   have hl:zs.length<=50:=by have h1:=pz.length_eq;rw[bL]at h1;have:=XF jI;lia
   have hR:Rows (zs.map (·.1)):=by obtain⟨n,hn⟩:=aq2;exact⟨n,fun ns h=>hn ns ((mm ns).mp h)⟩
   have e2:aI H1 (upd H1 p (.ext (Og X.prog X.w p zs))):=bT hp;refine⟨p,zs,rfl,cA,fun z hz=>aI.tup e2 (GP z hz),hl,hR,fun p' ws Lf QW pe' Jw=>?_⟩;have zw:=e1.trans e2;refine q _ _ (zw.trans (bT QW)) (.lst r zw QW ?_);have hs:gy (Lf.map pQ)=gy ((dd jI).map pQ):=Di (OO (by obtain⟨n,hn⟩:=aq2;exact⟨n,fun ns h=>hn ns (tH.mp h)⟩)) ((pe'.trans pz).map _);have rw2:aH X.K C (upd H1 p (.ext (Og X.prog X.w p zs))) (gy ((dd jI).map pQ)) ws:=by rw[<- hs];exact Jw
   exact rw2.part (.nw zw) _ (dY fun d hd=>iO (K3 _) ((dm _).mem_iff.mp hd));cases hg;cases hg;cases hg
def qu(i:Nat)(fi f:DF):DS:=fun st=>match f st with
 | .ok d=>match st[i]? with
  | some (some (.lst ds))=>match fi st with
   | .ok (.int k)=>match AO ds.length k with
    | some j=>.nx (st.set i (some (.lst (ds.set j d))))
    | none=>.bad
   | .ok _=>.bad
   | .ex c p=>.ex c p st
   | .bad=>.bad
  | _=>.bad
 | .ex c p=>.ex c p st
 | .bad=>.bad
theorem aH.set{K:aD}{H:Hp}{d:D}{v:V}(w:Rep K C H d v):∀{ds:List D} {xs:List V} (j:Nat),aH K C H ds xs->aH K C H (ds.set j d) (xs.set j v)
 | [],_,j,q=>by rw[aH]at q;subst q;simp[aH]
 | d'::ds,_,0,q=>by
  rw[aH]at q;refine b7 q fun v' r aT h1 h2=>?_;clear q;walk_at"c";exact .cons w h2
 | d'::ds,_,j+1,q=>by
  rw[aH]at q;refine b7 q fun v' r aT h1 h2=>?_;clear q;walk_at"c";exact .cons h1 (aH.set w j h2)
def GZ(hx:PE X (.Name x p1) (qM i))(hi:PE X ix (tD X.K C G0 Γ E fi κ'))(he:PE X e (tD X.K C G0 Γ E f κ))(na:lM Γ=true)(hk:Γ[i]?=some (.own n):=by rfl)(hl:κ.le (Xx n)=true:=by rfl)
  (ha:∀v,assign (.Subscript (.Name x p1) ix p2) X.env v=(do
   let ov <- holding [v] (eval (.Name x p1) X.env)
   let iv <- holding [v,ov] (eval ix X.env)
   standAt p2
   holding [v,ov,iv] (setItem ov iv v)
   release [v,ov,iv] []):=by intro _;rfl)
  (hs:swapsWithSole [sQ (.Name x p1) ix p2] e pos.line X.env=pure false:=by rfl) (hw:swappedStores [sQ (.Name x p1) ix p2] e X.env=pure none:=by rfl)
  (h1:(qB [sQ (.Name x p1) ix p2] X.env).map (·.2)=[assign (.Subscript (.Name x p1) ix p2) X.env]:=by rfl) :
  PS X (.Assign [.Subscript (.Name x p1) ix p2] e pos) (jD X.K C G0 Γ E gq (qu i fi f)):=(Gg he (Nc hx hi set_list ha) hs hw h1).imp fun D σ H zz=>by
 walk_at"a";unfold qu at q;cases hf:f st with
 | bad=>walk_at"b"
 | ex c p=>rw[hf]at q;walk_at"d"
 | ok d=>
  rw[hf]at q;dsimp only at q;cases pK:st[i]? with
  | none=>rw[pK]at q;exact q.elim
  | some o=>
   cases o with
   | none=>rw[pK]at q;exact q.elim
   | some d0=>
    cases d0 with
    | lst ds=>
     rw[pK]at q;dsimp only at q;intro v H1 e1 w1;refine G8 (r.owned hk pK) fun p xs h1 h2 h3 h4 h5=>?_;refine⟨_,h1,A,st,r.mono e1,?_⟩;cases hi:fi st with
     | bad=>rw[hi]at q;exact q
     | ex c p=>rw[hi]at q;exact fun H' e'=>q σ H' A (r.mono (e1.trans e')) (aK (e1.trans e'))
     | ok di=>
      rw[hi]at q;cases di with
      | int k=>
       dsimp only at q;intro vi H2 e2 w2;have ug:=e1.trans e2;have r':=r.mono ug;have q5:aH X.K C (eh n G0 A H2) ds xs:=h5.same (by
        unfold eh;cases n;exact aK ug;exact bS (aK ug)) _
       cases hj:AO ds.length k with
       | none=>rw[hj]at q;exact q.elim
       | some j=>rw[hj]at q;refine⟨p,xs,k,j,rfl,by have:=w2.rep;rw[Rep]at this;exact this,ug _ _ h4,by rw[h5.len];exact hj,?_⟩;obtain⟨r2,e3⟩:=r'.mut na hk pK h1 h2 h3 ⟨ds,rfl⟩ (aH.set ((w1.later e2).Xx r ug hl) j q5);exact q _ _ A r2 ((aK ug).trans e3)
      | _=>exact q.elim
    | _=>rw[pK]at q;exact q.elim
def Dj(i j:Nat)(fs:DA):DS:=fun st=>match fs st with | .ok [a,b]=>.nx ((st.set i (some a)).set j (some b)) | .ok _=>.bad | .ex c p=>.ex c p st | .bad=>.bad
def OP{kt k2 Gh}(hc:X.calm=true)(hN:X.N.Nodup)(ha:PA X [a,b] (Bg X.K C G0 Γ E fs .new))(pM:i≠j)(hk:Γ[i]?=some k:=by rfl)(QX:Γ[j]?=some k':=by rfl)
  (hl:k.takes .old=true:=by rfl) (y9:k'.takes .old=true:=by rfl) (hi:X.N[i]?=some x:=by rfl) (hj:X.N[j]?=some y:=by rfl) (hx:X.env.scope.names.lookup x=some .local:=by rfl) (hy:X.env.scope.names.lookup y=some .local:=by rfl)
  (hw:swappedStores [.Tuple [.Name x px,.Name y py] kt pt] (.Tuple [a,b] k2 Gh) X.env=pure (some [x,y]):=by rfl)
  (hs:swapsWithSole [.Tuple [.Name x px,.Name y py] kt pt] (.Tuple [a,b] k2 Gh) pos.line X.env=pure false:=by rfl) :
  PS X (.Assign [.Tuple [.Name x px,.Name y py] kt pt] (.Tuple [a,b] k2 Gh) pos) (jD X.K C G0 Γ E gq (Dj i j fs)):=(Wy hc hN hi hj pM hx hy ha hw hs).imp fun D σ H zz=>by
 walk_at"a";unfold Dj at q;cases hf:fs st with
 | bad=>walk_at"b"
 | ex c p=>rw[hf]at q;walk_at"d"
 | ok ds=>
  rw[hf]at q;match ds,q with
  | [a,b],q=>intro vs H1 e1 w;rw[aH]at w;obtain⟨v,r1,rfl,wa,w⟩:=w;obtain⟨v',rfl,wb⟩:=iY w;refine⟨v,v',rfl,?_⟩;have wa':Rep X.K C (er H1 A) a v:=wa.same (r.nZ e1) _;have wb':Rep X.K C (er H1 A) b v':=wb.same (r.nZ e1) _;refine bK ((r.mono e1).set (.refl _) hk hl (κ:=.old) wa') fun A1 s1 ee1 _=>?_;refine bK (s1.set (.refl _) QX y9 (κ:=.old) (wb'.same ee1 _)) fun A2 s2 ee2 _=>?_;exact q _ _ A2 s2 (((aK e1).trans ee1).trans ee2)
  | [],q=>exact q.elim
  | [_],q=>exact q.elim
  | _::_::_::_,q=>exact q.elim
def uh(bind:DB)(f:DF):DS:=fun st=>match f st with | .ok d=>(match bind d st with|some st'=>.nx st'|none=>.bad) | .ex c p=>.ex c p st | .bad=>.bad
def IQ{tg:bf}{g:TG}{bind:DB}(he:PE X e (tD X.K C G0 Γ E f κ))(l:κ.le .old=true)(hg:PG X tg g)(hB:pX X.K C G0 Γ g bind)(hs:swapsWithSole [tg] e pos.line X.env=pure false:=by rfl)(hw:swappedStores [tg] e X.env=pure none:=by rfl)
  (h1:(qB [tg] X.env).map (·.2)=[assign tg X.env]:=by rfl):PS X (.Assign [tg] e pos) (jD X.K C G0 Γ E gq (uh bind f)):=(Gg he hg hs hw h1).imp fun D σ H zz=>by
 walk_at"a";unfold uh at q;cases hf:f st with
 | bad=>walk_at"b"
 | ex c p=>rw[hf]at q;walk_at"d"
 | ok d=>
  rw[hf]at q;dsimp only at q;intro v H1 e1 w;cases hb:bind d st with
  | none=>rw[hb]at q;exact q.elim
  | some st'=>rw[hb]at q;exact hB σ H1 A st st' d v _ (r.mono e1) (w.le r e1 (κ':=.old) l) hb fun cz A' r' e' _=>q cz H1 A' r' ((aK e1).trans e')
def yj(X:Cx)(P:L2.St->Prop)(n:Nat)(e:bf):Prop:=∀(ak:List (av×Obj)) (s:ay) (σ:L2.St) (H:Hp) (Q:au->ay->Prop) (Ex:au->ay->Prop),L2.Inv X ak σ H s->P σ->(∀x t s',L2.Inv X ak σ H s'->x.length<=n->Q (.str x t) s')->aC (aF X.prog X.w) X.A (eval e X.env) Q Ex s
def zA{x:Str}{j}(h:x.length<=n:=by decide):yj X P n (.Constant (.str x) j pos):=fun ak s σ H Q Ex I p q=>Vk (q _ _ _ (I.tok _) h)
def oE(hm:X.mg x=some (.int i t))(hs:i.natAbs.log2<1920)(hl:(toString i:Str).length<=n)(hg:Gl X x:=by rfl)(hd:(x==("__debug__" : Str))=false:=by decide):yj X P n (.FormattedValue (.Name x p) (-1) none pos):=fun ak s σ H Q Ex I pp q=>
 FormattedValue_plain (p9 I hg hm (formatField_int_small hs (q _ _ _ (I.tok _) hl)) hd)
end
end Dm
end aM2
section aM4
namespace Dm
open PySem PySem.Spec PyProof.Rows L2 PySem.W
def PS0(X:Cx)(st:aW)(t:TS):Prop:=∀(s:ay) (σ:L2.St) (H:Hp) (D:Ends),L2.Inv X [] σ H s->t D σ H->aC (aF X.prog X.w) X.A (exec st X.env) (SP X [] D) X.xe s
def K4(X:Cx)(st:List aW)(t:TS):Prop:=∀(s:ay) (σ:L2.St) (H:Hp) (D:Ends),L2.Inv X [] σ H s->t D σ H->aC (aF X.prog X.w) X.A (execs st X.env) (SP X [] D) X.xe s
def _root_.L2.mZ.zero{X:Cx}{st:List aW}{t:TS}(h:mZ X st t):K4 X st t:=fun s σ H D I q=>h [] s σ H D I q
abbrev inH(X:Cx)(e:au):Cx:={X with A:=X.A.mark (some e),calm:=false,xe:=fun _ _=>False}
section
def XG(ok:X.Ok):(inH X e).Ok:=⟨ok.mod,ok.kind,ok.glob,ok.blt,ok.above,ok.inj,ok.has,ok.Wl,fun z=>(nomatch z),ok.frames,ok.Le,ok.exf,ok.bs,ok.Na,ok.Ga,ok.Gb,ok.qK,ok.Rh⟩
def IS(I:L2.Inv X ak σ H s):L2.Inv (inH X e) ak σ H s:=⟨XG I.ok,I.os,I.bare,I.base,I.loc,I.cell,I.free,I.mU,I.pin,I.dX,I.len⟩
def OQ(ok:X.Ok)(I:L2.Inv (inH X e) ak σ H s):L2.Inv X ak σ H s:=⟨ok,I.os,I.bare,I.base,I.loc,I.cell,I.free,I.mU,I.pin,I.dX,I.len⟩
def OR{h:aN}{s':ay}(I:L2.Inv X [] σ H {s' with heap:=h})(cv:Cov X.stack B h)(up:h.UpToSlots h2){φ:aN->Prop}(fl:Heap.FlyingW B X.stack a cls a0 h2)(hφ:φ h2)(pK:∀h1 h2,φ h1->(∀o,h1.get? a=some o->h2.get? a=some o)->φ h2) :
  H a=none/\L2.Inv X [] σ (upd H a (.ext φ)) {s' with heap:=h2}:=by
 refine qJ fl.first fun oe vs he hc hd _=>?_;have fr:∀b,b∈rR X.stack->∃o,h.get? b=some o/\∀vs,o.data≠ .fields vs:=fun b hb=>(I.stack.mem hb).2;have nh:h.get? a=none:=by
  cases hq:h.get? a with
  | none=>rfl
  | some o=>by_cases hf:a∈rR X.stack;refine aL (fr a hf) fun o' sR hn=>?_;obtain⟨sl,e2⟩:=up a o' sR hn;rw[he]at e2;cases e2;exact aV5 hd (hn vs);have:=cv a o hq hf;rw[fl.2.1]at this;cases this
 have nH:H a=none:=by
  cases hq:H a with
  | none=>rfl
  | some o=>
   have:=I.dX.lt hq;have O1:(∃o,h.get? a=some o):=by
    have z:=(I.dX a o hq)
    cases o with
    | lst xs=>obtain⟨_,_,_,_,e⟩:=z;exact⟨_,e⟩
    | tup xs=>obtain⟨_,_,_,o,e,_⟩:=z;exact⟨_,e⟩
    | dK AD=>obtain⟨_,_,_,_,o,_,_,e,_⟩:=z;exact⟨_,e⟩
    | dT AD=>obtain⟨_,_,_,_,o,_,_,e,_⟩:=z;exact⟨_,e⟩
    | set S n=>obtain⟨o,_,_,_,e,_⟩:=z;exact⟨_,e⟩
    | ins C dx fs=>obtain⟨_,_,_,e,_⟩:=z;exact⟨_,e⟩
    | own y=>obtain⟨_,e⟩:=z;exact⟨_,e⟩
    | xd fs=>obtain⟨_,⟨_,_,_,e,_⟩,_⟩:=z;exact⟨_,e⟩
    | Vo lo hi=>obtain⟨_,_,_,e⟩:=z;exact⟨_,e⟩
    | EF ob u=>obtain⟨e,_⟩:=z;exact⟨_,e⟩
    | Vp p q=>exact⟨_,z.choose_spec.1⟩
    | met f y=>exact⟨_,z⟩
    | ext φ=>obtain⟨_,⟨_,e⟩,_⟩:=z;exact⟨_,e⟩
   obtain⟨o',sR⟩:=O1;rw[nh]at sR;cases sR
 have keep:∀b o,h.get? b=some o->b∉rR X.stack->h2.get? b=some o:=fun b o e nf=>fl.1 b o (cv b o e nf);have nfr:∀b o,H b=some o->b∉rR X.stack:=fun b o e hb=>by rw[I.AH b hb]at e;cases e
 have dX:rQ X.prog X.w (upd H a (.ext φ)) h2:=fun b u e=>by
  by_cases hb:b=a;subst hb;rw[cA]at e;cases e;exact⟨hφ,⟨oe,he⟩,pK⟩;rw[bq hb]at e;refine(I.dX b u e).AE (fun c v rS q=>keep c v q ?_) (fun c q=>by rw[bq (bG q nH)];exact q) (fun c xs q=>by rw[bq (bG q nH)];exact q) fun c zo xs q=>by rw[bq (bG q nH)];exact q
  rcases rS with rfl|rS;exact nfr _ _ e;exact nfr _ _ rS
 refine⟨nH,Inv.Cs I (s':={s' with heap:=h2}) (ch:=[]) rfl ⟨fun b o e n nf nx=>keep b o e nf,fun b o e n hf nx=>?_,fun b o e n nx=>?_,fun b o e nx=>?_,fun b xs q=>by rw[bq (bG q nH)];exact q,fun b o u q=>by rw[bq (bG q nH)];exact q,fun b p r q=>by rw[bq (bG q nH)];exact q⟩ dX I.bare (fun b z=>aV5 z (by simp))⟩;refine aL (fr b hf) fun o' sR hn=>?_;have e':h.get? b=some o:=e;rw[sR]at e';cases e';exact up b _ sR hn;have:b≠a:=fun z=>by subst z;have e':h.get? b=some o:=e;rw[nh]at e';cases e'
 rw[bq this];exact n;by_cases hf:b∈rR X.stack;refine aL (fr b hf) fun o' sR hn=>?_;obtain⟨sl,e2⟩:=up b o' sR hn;exact⟨_,e2⟩;exact⟨o,keep b o e hf⟩
end
def OS(c:av):Nat:=c+3
def pay(p:Option Int):List D:=match p with|none=>[]|some n=>[.int n]
def ObX(c:av)(p:Option Int)(H:Hp)(a:av):Prop:=match p with
 | none=>H a=some (.ext (ClsAt a (.ref c)))
 | some n=>∃dx,H a=some (.ext (NP a c dx))/\H dx=some (.xd [("at",.int n)])
def wC(F:DS)(hit:av->Bool)(j:Option Nat)(G:DS):DS:=fun st=>match F st with
 | .ex c p st'=>if hit c=true then(match G (match j with|some j=>st'.set j (some (.dH (OS c) (pay p)))|none=>st')with | .rt d=>.rt d|_=>.bad)else .bad
 | o=>o
def IsX(h:aN)(Ch:av):Prop:=∃nm q N bs bm hdct sn sub ab col dd k0 k1 k2 k3 k5 newId,h.get? Ch=some (excClassObj nm q Ch N bs bm hdct sn sub ab col dd k0 k1 k2 k3 k5 newId)/\bm.contains (.type "BaseException")=true
def OT{K:aD}{Ch:av}{Bs newId AV:String}{bm:List au}(FB:ExcBaseFacts Bs newId AV bm)(hE:Vz K Ch bm newId=true)(h:aN)(Y:K.In h):IsX h Ch:=by
 obtain⟨tl,N,nm,qn,bs,hdct,sn,sub,ab,col,dd,k0,k1,k2,k3,k5,mN,hC,hNn,hni,T⟩:=(NI (mg:=fun _=>some (.ref Ch)) (x:="") Y rfl hE).obj;exact⟨nm,qn,N,bs,tl,hdct,sn,sub,ab,col,dd,k0,k1,k2,k3,k5,newId,hC,T.hasType FB.hasBase⟩
def SD{s:ay}{Q:Unit->ay->Prop}(hd:Heap.HeldW B l a cls a0 L s.heap)(xd:XD dx a s.heap)
  (hQ:∀h',Heap.FlyingW B l a cls a0 h'->s.heap.UpToSlots h'->XD dx a h'->Q () {s with heap:=h'}):aC M A (setFlight (.ref a) none) Q E s:=
 gv (qS (Q:=fun u s1=>XD dx a s1.heap->Q u s1) (E:=E) (m9 _ _) (wpAny_landsW hd fun h' f u x=>hQ h' f u x) xd) (fun _ _ h=>h.1 h.2) fun _ _ h=>h.1
def SE{s:ay}{Q:Unit->ay->Prop}(hd:Heap.FlyingW B l a cls a0 s.heap)(xd:XD dx a s.heap)
  (hQ:∀h',Heap.FlyingW B l a cls a0 h'->s.heap.UpToSlots h'->XD dx a h'->Q () {s with heap:=h'}):aC M A (setFlight (.ref a) none) Q E s:=
 gv (qS (Q:=fun u s1=>XD dx a s1.heap->Q u s1) (E:=E) (m9 _ _) (lands_againW hd fun h' f u x=>hQ h' f u x) xd) (fun _ _ h=>h.1 h.2) fun _ _ h=>h.1
section
variable {X:Cx}{C:Cfg}{G0:Hp}{Γ:List SK}{E:L2.St->XK}{gq:Option Bool}{F G:DS}
def zC(h1:PS0 X s (jD X.K C G0 Γ E gq F))(h2:K4 X ss (jD X.K C G0 Γ E gq G)):K4 X (s::ss) (jD X.K C G0 Γ E gq (aU F G)):=fun s0 σ H D I zz=>by
 refine cj zz fun A st r q=>?_;clear zz;refine Ls (gA (h1 s0 σ H {D with nx:=jD X.K C G0 Γ E gq G D} I ⟨A,st,r,?_⟩) fun f s1 q1=>?_);unfold aU at q;cases hf:F st with
 | nx st'=>
  rw[hf]at q;intro cz H' A' r' e';refine⟨A',st',r',?_⟩;dsimp only at q;cases hg:G st' with
  | nx qp=>walk_at"i"
  | bk qp=>walk_at"i"
  | ct qp=>walk_at"i"
  | rt d=>rw[hg]at q;exact q
  | ex c p qp=>walk_at"i"
  | bad=>rw[hg]at q;exact q
 | bk st'=>walk_at"b"
 | ct st'=>walk_at"b"
 | rt d=>walk_at"b"
 | ex c p st'=>walk_at"b"
 | bad=>walk_at"b"
 cases f with
 | next=>refine cj q1 fun cz H' I' q=>?_;clear q1;exact h2 s1 cz H' D I' q
 | ret v=>exact q1
 | brk=>exact q1
 | cont=>exact q1
end
end Dm
end aM4
section aM5
namespace Dm
open PySem PySem.Spec PyProof.Rows L2
abbrev wD(X:Cx)(scope:iV)(cl:List (Str×av))(N':List Str)(fp:List av)(s:ay)(H:Hp)(L:av):Cx:=
 {X with N:=N',iG:=s,N9:=H,env:=compEnvC scope cl L X.env,outer:=X.stack,ex:=fp,fn:=fun _=>false,pn:=[],xe:=fun _ _=>False}
def Cap(X:Cx)(scope:iV)(cl:List (Str×av)):List (Nat×Str)->Prop
 | []=>True
 | (i,x)::r=>(X.N[i]?=some x/\X.env.kindOf x=some .cell/\cl.lookup x=X.env.cells.lookup x/\(relabel scope X.env).names.lookup x=some .cell)/\Cap X scope cl r
theorem Cap.get:∀{l:List (Nat×Str)} {p:Nat×Str},Cap X scope cl l->p∈l->X.N[p.1]?=some p.2/\X.env.kindOf p.2=some .cell/\cl.lookup p.2=X.env.cells.lookup p.2/\(relabel scope X.env).names.lookup p.2=some .cell
 | _::_,_,h,.head _=>h.1
 | _::_,_,h,.tail _ m=>h.2.get m
section
def XH(I:L2.Inv X ak σ H s)(hk:scope.kind = .function)(hL:s.heap.objs.size<=L)(z8:∀x c,cl.lookup x=some c->X.env.cells.lookup x=some c)(K5:∀x,((relabel scope X.env).names.lookup x=some .cell\/(relabel scope X.env).names.lookup x=some .free)->∃c,cl.lookup x=some c)
  (hf:∀b∈fp,AM X ak H b) (hfs:∀b∈fp,b<s.heap.objs.size):(wD X scope cl N' fp s H L).Ok where
 mod:=I.ok.mod
 kind:=hk
 glob:=I.ok.glob
 blt:=I.ok.blt
 above:=hL
 inj:=fun x y c h1 h2=>I.ok.inj x y c (z8 _ _ h1) (z8 _ _ h2)
 has:=K5
 Wl:=fun x c z=>(nomatch z)
 hd:=I.ok.hd
 frames:=I.ok.frames
 Le:=.inl rfl
 exf:=fun b hb=>⟨cu (gV (hfs b hb) hL),fun x c h=>(hf b hb).2.2.2.2.1 x c (z8 _ _ h)⟩
 bs:=I.bs
 Na:=f9 I.ok.Na I.sz
 Ga:=fun b o e hb=>by
  rcases(hf b hb).2.2.2.1 with z|z;exact I.ok.Ga b o e z;exact aV5 (gV (bQ e) (f9 I.ok.Na z)) (qG _)
 Gb:=fun b hb z=>by
  rcases bD.mp (I.Gd b z)with e|e;exact(hf b hb).2.1 e;exact(hf b hb).2.2.1 e
 qK:=I.stack
 Rh:=I.AH
def oH{α:Type}(k:Nat)(fr:List Nat)(σ:List (Option α)):List (Option α):=cg k none++fr.map fun i=>(σ[i]?).join
def Dk(h:(oH k fr σ)[j]?=some (some v)):∃i,k<=j/\fr[j-k]?=some i/\σ[i]?=some (some v):=by
 unfold oH at h;by_cases hj:j<k;rw[kR (by simpa using hj),qd,aU3 hj]at h;cases h;rw[kQ (by simpa using nu hj),Fe,cG]at h;cases hi:fr[j-k]? with
 | none=>rw[hi]at h;cases h
 | some i=>
  rw[hi]at h;have h':(σ[i]?).join=some v:=dN h;refine⟨i,nu hj,rfl,?_⟩;cases hs:σ[i]? with
  | none=>rw[hs]at h';cases h'
  | some o=>rw[hs]at h';rw[show o=some v from h']
def OU{fr:List Nat}{σ:List (Option α)}(hj:k<=j)(hi:fr[j-k]?=some i)(h:σ[i]?=some (some v)):(oH k fr σ)[j]?=some (some v):=by
 unfold oH;rw[kQ (by simpa using hj),Fe,cG,hi];show some ((σ[i]?).join)=_;rw[h];rfl
def SI{s1:ay}{caps:List (Nat×Str)}(I:L2.Inv X ak σ H s)(ok:(wD X scope cl (gz++caps.map (·.2)) fp s H L).Ok)(CF:Cap X scope cl caps)(z8:∀x c,cl.lookup x=some c->X.env.cells.lookup x=some c)
  (ho:s1.os=s.os) (hb:AllBare s1.gens) (un:Un (rR X.stack) fp H H1 s.heap s1.heap) (kc:∀b o,s.heap.get? b=some o->s1.heap.get? b=some o) (hn:s1.heap.Ns L m) (hL:H1 L=none) (I0:∀x c,cl.lookup x=some c->H1 c=none) (dX:rQ X.prog X.w H1 s1.heap) :
  L2.Inv (wD X scope cl (gz++caps.map (·.2)) fp s H L) [] (oH gz.length (caps.map (·.1)) σ) H1 s1:=by
 refine⟨ok,ho,hb,un,⟨m,hn,fun j x v h1 h2 h3=>?_⟩,fun x c h=>?_,hL,I0,fun p hp=>(by cases hp),dX,(by unfold oH;simp)⟩;refine bK (Dk h2) fun i hj hi hs=>?_;rw[kQ hj,cG]at h1;rw[cG]at hi;cases hc:caps[j-gz.length]? with
 | none=>rw[hc]at h1;cases h1
 | some p=>rw[hc]at h1 hi;cases h1;cases hi;refine Az (CF.get (jO hc)) fun c1 c2 c3 c4=>?_;refine aL I.loc fun m0 hn0 Xj=>?_;refine aL (Xj p.1 p.2 v c1 hs (.inr (.inl c2))) fun u ru lk=>?_;refine⟨u,ru,.inr ⟨.inl c4,?_⟩⟩;rcases lk with⟨z,_⟩|⟨_,c,e1,e2⟩;rw[c2]at z;cases z;refine aL e2 fun o e3 e4=>?_;clear e2;exact⟨c,c3.trans e1,o,kc _ _ e3,e4⟩
 obtain⟨v,q⟩:=I.cell x c (z8 _ _ h);refine aL q fun o e3 e4=>?_;clear q;exact⟨v,o,kc _ _ e3,e4⟩
end
abbrev wF:L2.St->XK:=fun _ _ _ _=>False
def uX(h:jw X wF e s):False:=by
 obtain⟨_,_,_,_,_,_,_,_,q,_⟩:=h;exact q
def iw(bind:DB)(test elt:DF):List D->eY->R (List D)
 | [],_=>.ok []
 | d::ds,st=>match bind d st with
  | none=>.bad
  | some l7=>match test l7 with
   | .ok (.bl true)=>(match elt l7 with
    | .ok e=>(match iw bind test elt ds l7 with | .ok r=>.ok (e::r)|_=>.bad)
    | _=>.bad)
   | .ok (.bl false)=>iw bind test elt ds l7
   | _=>.bad
def Bu(Γ:List SK):Prop:=∀(i:Nat) (k:SK),Γ[i]?=some k->k=SK.par
section
variable {K:aD}{C:Cfg}{G0:Hp}{Γ:List SK}{σ:L2.St}{H:Hp}{A B:List av}{st:eY}
def H8(h:∀a∈B,a∈A):aI (er H A) (er H B):=fun b o e=>by
 by_cases ha:b∈A;rw[dP ha]at e;cases e;rw[aZ ha]at e;rw[aZ fun z=>ha (h b z)];exact e
def RS.aq4(r:RS K C G0 Γ σ H A st)(uQ:Bu Γ)(sub:∀a∈B,a∈A):RS K C G0 Γ σ H B st where
 base:=r.base.trans (H8 sub)
 lists:=fun a m=>r.lists a (sub a m)
 len:=r.len
 slot:=fun i d h=>by
  refine b7 (r.slot i d h) fun k v h1 h2 h3=>?_;obtain rfl:=uQ i k h1;exact⟨.par,v,h1,h2,Rep.same (H8 sub) _ h3⟩
 apart:=fun i j n m p ds es pM g1=>by have:=uQ i _ g1;cases this
 gl:=r.gl
def RS.XI(r:RS K C G0 Γ σ H A st)(uQ:Bu Γ)(ha:a∈A):RS K C G0 Γ σ (upd H a (.lst ys)) A st:=by
 have ee:er (upd H a (.lst ys)) A=er H A:=by funext b;by_cases mb:b∈A;rw[dP mb,dP mb];rw[aZ mb,aZ mb,bq (fun z:b=a=>mb (by rw[z];exact ha))]
 refine⟨by rw[ee];exact r.base,fun b m=>?_,r.len,fun i d h=>?_,fun i j n m p ds es pM g1=>(by have:=uQ i _ g1;cases this),r.gl⟩;by_cases hb:b=a;subst hb;exact⟨_,cA,rfl⟩;rw[bq hb];exact r.lists b m;refine b7 (r.slot i d h) fun k v h1 h2 h3=>?_;obtain rfl:=uQ i k h1;exact⟨.par,v,h1,h2,by show Rep K C (er _ A) d v;rw[ee];exact h3⟩
end
def part(n:Bool)(H2:Hp)(acc:av)(B:List av)(H:Hp):Hp:=if n=true then nw H2 (er H [acc])else er H (acc::B)
def pD(e:aI H H'):aI (part n H2 acc B H) (part n H2 acc B H'):=by
 unfold part;cases n;exact aK e;exact bS (aK e)
def OV:part n H2 acc B (upd H acc o)=part n H2 acc B H:=by
 have e:∀A:List av,acc∈A->er (upd H acc o) A=er H A:=fun A m=>by funext b;by_cases mb:b∈A;rw[dP mb,dP mb];rw[aZ mb,aZ mb,bq (fun z:b=acc=>mb (by rw[z];exact m))]
 unfold part;rw[e [acc] (.head _),e (acc::B) (.head _)]
def K6{ft:DF}:∀(ak:List (av×Obj)) (s:ay) (σ:L2.St) (H:Hp) (Q:Bool->Hp->Prop),L2.Inv X ak σ H s->uW X.K C G0 Γ E (dC (.bl true)) σ H Q->
  aC (aF X.prog X.w) X.A (forIn ([]:List bf) true fun c r=>if r=true then do let ok <- isTrue c X.env (eval c X.env);pure (kU ok)else pure (kU r)) (TP X ak σ Q) X.xe s:=fun ak s σ H Q I jz=>jz.elim fun A n8=>n8.elim fun st sX=>sX.elim fun r q=>wpAny_tests_nil ⟨H,I,q H (.refl _)⟩
def gk(h:PT X c (uW X.K C G0 Γ E ft)):∀(ak:List (av×Obj)) (s:ay) (σ:L2.St) (H:Hp) (Q:Bool->Hp->Prop),L2.Inv X ak σ H s->uW X.K C G0 Γ E ft σ H Q->
  aC (aF X.prog X.w) X.A (forIn [c] true fun c r=>if r=true then do let ok <- isTrue c X.env (eval c X.env);pure (kU ok)else pure (kU r)) (TP X ak σ Q) X.xe s:=fun ak s σ H Q I q=>wpAny_tests_one (h ak s σ H Q I q)
section
variable {X:Cx}{C:Cfg}{G0:Hp}{Γ:List SK}{tg iter elt:bf}{ifs:List bf}{scope:iV}{pos:Pos}{fp:List av}{it acc:av}{tn:Nat->aN->Prop}{J:It}{g:TG}{bind:DB}{ft fe:DF}{ng:Kd}{n:Bool}{H2:Hp}{B:List av}{ds total:List D}{R:Result->ay->Prop}
def wG(X:Cx)(C:Cfg)(G0:Hp)(Γ:List SK)(acc:av)(bind:DB)(ft fe:DF)(n:Bool)(H2:Hp)(B:List av)(ds total:List D)(i:Nat)(s:ay)(σ:L2.St)(H:Hp):Prop:=
 ∃st ys es,L2.Inv X [] σ H s/\H acc=some (.lst ys)/\RS X.K C G0 Γ σ H (acc::B) st/\aI H2 (er H [acc])/\(aH X.K C (part n H2 acc B H) es ys/\(n=true->Bf X.K C H2 (part n H2 acc B H) es ys/\Dst es ys))/\es.length<=i/\
  ∃rest,iw bind ft fe (ds.drop i) st = .ok rest/\es++rest=total
def K7(T:Turn X.prog X.w X.K tg J fp it tn)(Dl:X.calm=true)(XJ:∀b∈fp,b∈X.ex/\b≠X.env.locals/\b∉X.fs/\(∀x c,X.env.cells.lookup x=some c->c≠b))(hpn:X.pn=[])(uQ:Bu Γ)(hJ:JY X.K C B H2 J ds)(hB:pX X.K C G0 Γ g bind)(hG:PG (X.cK (jw X wF)) tg g)
  (hT:∀(ak:List (av×Obj)) (s:ay) (σ:L2.St) (H:Hp) (Q:Bool->Hp->Prop),L2.Inv (X.cK (jw X wF)) ak σ H s->uW X.K C G0 Γ wF ft σ H Q->
   aC (aF X.prog X.w) X.A (forIn ifs true fun c r=>if r=true then do let ok <- isTrue c X.env (eval c X.env);pure (kU ok)else pure (kU r)) (TP (X.cK (jw X wF)) ak σ Q) (jw X wF) s)
  (hE:PE (X.cK (jw X wF)) elt (tD X.K C G0 Γ wF fe ng)) (hn:n=true->ng = .new) (AJ:n=false->ng.le .old=true) (Hf:H2 acc=none) (jJ:ds.length<=5000)
  (fin:∀s σ H,wG X C G0 Γ acc bind ft fe n H2 B ds total ds.length s σ H->R (.ok .next) s) :
  ∀s σ H,wG X C G0 Γ acc bind ft fe n H2 B ds total 0 s σ H->tn 0 s.heap->(∀b∈fp,H b=none)->codeAny (aF X.prog X.w) X.A (.compLoop (.ListComp elt [⟨tg,iter,ifs,0⟩] scope pos) 0 (.ref it) (.ref acc) X.env) R s:=fun s0 σ0 H0 h0 t0 f0=>by
 refine codeAny_loop rfl (fun m s=>∃i σ H,m=ds.length-i/\i<=ds.length/\wG X C G0 Γ acc bind ft fe n H2 B ds total i s σ H/\tn i s.heap/\∀b∈fp,H b=none) (fun m s Io=>?_) ds.length ⟨0,σ0,H0,rfl,ie _,h0,t0,f0⟩;refine AB Io fun i σ H hm hi iv htn hfn=>?_;clear Io;subst hm;show aC _ X.A ((compTurn (.ListComp elt [⟨tg,iter,ifs,0⟩] scope pos) 0 (.ref it) (.ref acc) X.env).onRaise (fun x=>do noteFrame x X.env;theTreesLotGoes x)) _ _ s;refine wpAny_noted ?_;rw[compTurn_list];obtain⟨st,ys,es,I,hH,r,e2,rp,hl,rest,nc,XM⟩:=id iv;have XN:∀{H':Hp},(∀b∈fp,H' b=none)->∀b∈fp,AM X [] H' b:=fun hn b hb=>⟨hn b hb,(XJ b hb).2.1,(XJ b hb).2.2.1,.inl (XJ b hb).1,(XJ b hb).2.2.2,fun p hp=>by rw[hpn]at hp;cases hp⟩
 have hJi:=hJ i H (acc::B) (fun b o e=>by
  by_cases hb:b∈B;rw[dP hb]at e;cases e;rw[aZ hb]at e;have z:=e2 b o e;by_cases ha:b=acc;subst ha;rw[Hf]at e;cases e;rw[aZ (by simpa using ha)]at z;rw[aZ (by simp[ha,hb])];exact z) (fun a m=>by obtain⟨xs,q,_⟩:=r.lists a m;rw[q];simp)
 cases hd:ds[i]? with
 | none=>have hge:=lZ.mp hd;obtain rfl:i=ds.length:=Nat.le_antisymm hi hge;refine aq (yL (aq (gv (T.done X rfl rfl rfl Dl _ [] s σ H _ I (XN hfn) htn (hJi.2 hd)) (fun rr s1 JI=>?_) fun _ _ h=>h)));obtain⟨hr,I1⟩:=JI;subst hr;exact aG (fin s1 σ H ⟨st,ys,es,I1,hH,r,e2,rp,hl,rest,nc,XM⟩)
 | some d=>
  have gh:i<ds.length:=(fV.mp hd).1;have hdr:ds.drop i=d::ds.drop (i+1):=by rw[Ft gh];congr 1;exact(fV.mp hd).2
  rw[hdr,iw]at nc;obtain⟨go,yl⟩:=hJi.1 d hd;refine aq (yL (aq (gv (T.item X rfl rfl rfl Dl i [] s σ H _ I (XN hfn) htn go) (fun rr s1 Li=>?_) fun _ _ h=>h)));refine aL Li fun u hr h1=>?_;clear Li;subst hr;refine aq (gv h1 (fun _ s3 Gf=>?_) fun _ _ h=>h);refine G8 Gf fun x H3 I3 rx hy tn3 SJ=>?_;clear Gf;obtain⟨e3,wx⟩:=yl x H3 hy;have I3p:=I3.pinned (XN SJ) (T.obj _ _ tn3);cases hb:bind d st with
  | none=>rw[hb]at nc;cases nc
  | some l7=>
   rw[hb]at nc;dsimp only at nc;have r3:=r.mono e3;refine aq (gv (hG _ s3 σ H3 x u (fun Lp H4=>H4=H3/\∃A4,RS X.K C G0 Γ Lp H3 A4 l7/\∀a∈acc::B,a∈A4) (I3p.cK _) rx (hB σ H3 (acc::B) st l7 d x _ r3 wx hb fun Lp A4 r4 _ sb=>⟨rfl,A4,r4,sb⟩)) (fun _ s4 I8=>?_) fun _ _ h=>(uX h).elim);obtain⟨Lp,H4,I4,hH4,A4,r4,sb⟩:=I8;subst hH4;have r4':=r4.aq4 uQ sb;have hH3:H4 acc=some (.lst ys):=e3 _ _ hH;have again:∀{s9:ay} {σ9:L2.St} {H9:Hp},L2.Inv X ([]++vL fp s3.heap) σ9 H9 s9->wG X C G0 Γ acc bind ft fe n H2 B ds total (i+1) s9 σ9 H9->∃m,m<ds.length-i/\∃i' cz H',m=ds.length-i'/\i'<=ds.length/\wG X C G0 Γ acc bind ft fe n H2 B ds total i' s9 cz H'/\tn i' s9.heap/\∀b∈fp,H' b=none:=fun {s9 σ9 H9} I9 c9=>by refine⟨ds.length-(i+1),by lia,i+1,σ9,H9,rfl,gh,c9,T.keep _ _ _ tn3 fun b hb o e=>(I9.pin (b,o) (mT _ (mT _ (m7 hb e)))).1,fun b hb=>?_⟩;refine aL (T.obj _ _ tn3 b hb) fun o e _=>?_;exact(I9.pin (b,o) (mT _ (mT _ (m7 hb e)))).2.1
   have ep:aI H2 (er H4 [acc]):=e2.trans (aK e3);refine aq (gv (hT _ s4 Lp H4 (fun b H5=>aI H4 H5/\ft l7 = .ok (.bl b)) I4 ⟨acc::B,l7,r4',?_⟩) (fun ok s5 Ia=>Ia.elim fun H5 AK=>AK.elim fun I5 GA=>GA.elim fun e5 dX=>?_) fun _ _ h=>(uX h).elim);cases hf:ft l7 with
   | bad=>rw[hf]at nc;cases nc
   | ex c p=>rw[hf]at nc;cases nc
   | ok t=>
    rw[hf]at nc;cases t with
    | bl b=>exact fun H' e'=>⟨e',rfl⟩
    | _=>cases nc
   rw[dX]at nc;have ep5:=ep.trans (aK e5);cases ok with
   | false=>dsimp only at nc;exact aG ⟨rfl,again I5.gn ⟨l7,ys,es,(I5.gn).qL (fun p hp=>by cases hp),e5 _ _ hH3,r4'.mono e5,ep5,⟨rp.1.same (pD (e3.trans e5)) _,fun z=>⟨(rp.2 z).1.mono (pD (e3.trans e5)),(rp.2 z).2⟩⟩,by lia,rest,nc,XM⟩⟩
   | true=>
    dsimp only at nc;cases hfe:fe l7 with
    | bad=>rw[hfe]at nc;cases nc
    | ex c p=>rw[hfe]at nc;cases nc
    | ok de=>
     rw[hfe]at nc;dsimp only at nc;refine aq (aq (gv (hE _ s5 Lp H5 (fun v H6=>aI H5 H6/\Val X.K C ng G0 (acc::B) H5 H6 de v) I5 ⟨acc::B,l7,r4'.mono e5,?_⟩) (fun ue s6 GB=>GB.elim fun v GC=>GC.elim fun H6 NO=>NO.elim fun I6 X0=>X0.elim fun rv X3=>X3.elim fun e6 wv=>?_) fun _ _ h=>(uX h).elim));rw[hfe];exact fun v H' e' w=>⟨e',w⟩
     have e56:=e5.trans e6;have hH6:H6 acc=some (.lst ys):=e56 _ _ hH3;have sn:aI (nw H5 H6) (nw H2 (er H6 [acc])):=fun b o z=>by
      unfold nw at z;split at z;rename_i kk;have hb:b≠acc:=fun w=>by subst w;rw[e5 _ _ hH3]at kk;cases kk
      show nw H2 (er H6 [acc]) b=_;unfold nw;rw[aU3 (qs (ep5.trans (aJ _ _)) kk),aZ (by simpa using hb)];exact z;cases z
     have wp:Rep X.K C (part n H2 acc B H6) de v/\(n=true->kj X.K C H2 (part n H2 acc B H6) de v):=by
      cases n with
      | true=>obtain rfl:=hn rfl;exact⟨wv.1.same sn _,fun _=>(wv.2.early (ep5.trans (aJ _ _))).mono sn⟩
      | false=>exact⟨Val.le (r4'.mono e5) e6 (κ':=.old) (AJ rfl) wv,fun z=>by cases z⟩
     refine aq (gv (yY (X:=X.cK (jw X wF)) _ s6 Lp H6 (.ref acc) [v] (.ref acc) [ue] (fun z H7=>H7=upd H6 acc (.lst (ys++[v]))) I6 rfl (.cons rv .nil) ⟨acc,ys,v,rfl,rfl,hH6,?_,rfl⟩) (fun _ s7 X4=>X4.elim fun z aM6=>aM6.elim fun H7 aM7=>aM7.elim fun I7w Wv=>Wv.elim fun _ hH7=>?_) fun _ _ h=>(uX h).elim);rw[rp.1.len];have:5001<=bO:=by rw[gC];decide
     lia;subst hH7;have I7:=I7w.gn;refine aG (aG ⟨rfl,again I7 ?_⟩);cases hgr:iw bind ft fe (ds.drop (i+1)) l7 with
     | bad=>rw[hgr]at nc;cases nc
     | ex c p=>rw[hgr]at nc;cases nc
     | ok aq5=>
      rw[hgr]at nc;cases nc;refine⟨l7,ys++[v],es++[de],I7.qL (fun p hp=>by cases hp),cA,((r4'.mono e56)).XI uQ (.head _),?_,?_,by simp;lia,aq5,hgr,by simpa using XM⟩;have:er (upd H6 acc (.lst (ys++[v]))) [acc]=er H6 [acc]:=by funext b;by_cases mb:b∈[acc];rw[dP mb,dP mb];rw[aZ mb,aZ mb,bq (by simpa using mb)]
      rw[this];exact ep.trans (aK e56);rw[OV];exact⟨(rp.1.same (pD (e3.trans e56)) _).app (.cons wp.1 .nil),fun z=>⟨((rp.2 z).1.mono (pD (e3.trans e56))).snoc rp.1.len (wp.2 z),(rp.2 z).2.snoc rp.1.len fun od j d' hj od' hv=>by
       subst z;obtain rfl:=hn rfl;obtain⟨a,ra,ga,_⟩:=wv.2.1 od;subst ra;obtain⟨b,rb,_,ob⟩:=((rp.2 rfl).1 j d' _ hj hv).1 od';cases rb;obtain⟨o,q,_⟩:=ob.VL;have q:nw H2 (er H [acc]) a=some o:=q;have:=(e3.trans e5) _ _ (aJ _ _ _ _ (cT _ _ _ _ q));rw[ga]at this;cases this⟩⟩
end
def zB(z:Bool)(A:List av):List av:=if z=true then A else []
def IT(K:aD)(C:Cfg)(G0:Hp)(Γ:List SK)(E:L2.St->XK)(z:Bool)(gi:DI):TI:=fun σ H Rr=>∃A st,RS K C G0 Γ σ H A st/\match gi st with
 | .ok ds=>∀J H',aI H H'->JY K C (zB z A) H' J ds->Rr J H'
 | .ex c p=>∀H',aI H H'->IE (E σ) c p H'
 | .bad=>False
def _root_.L2.PI.imp(h:PI X tg e t)(i:∀σ H Q,t' σ H Q->t σ H Q):PI X tg e t':=fun ak s σ H Q I q=>h ak s σ H Q I (i σ H Q q)
section
def OW:∀a∈zB z A,a∈A:=fun a h=>by unfold zB at h;cases z with|true=>exact h|false=>cases h
def SM(he:PE X iter (tD X.K C G0 Γ E f κ))(l:z=true->κ.le .old=true):PI X tg iter (IT X.K C G0 Γ E z (bU f)):=(Ie he).imp fun σ H Q zz=>by
 walk_at"a";unfold bU at q;cases hf:f st with
 | bad=>walk_at"b"
 | ex c p=>walk_at"b"
 | ok d=>
  rw[hf]at q;cases d with
  | lst ds=>
   dsimp only at q;intro v H1 e1 w;have w':Rep X.K C (er H1 (zB z A)) (.lst ds) v:=by
    unfold zB;cases z with
    | true=>exact w.le r e1 (κ':=.old) (l rfl)
    | false=>rw[aU4 (by decide),jx];exact w.rep
   rw[Rep]at w';refine b7 w' fun a xs aT h2 h3=>?_;clear w';walk_at"c";refine⟨a,rfl,⟨xs,(aJ _ _).seq h2⟩,q _ _ e1 fun i H3 A3 e3 _=>⟨fun d hd=>?_,fun hd=>?_⟩⟩;refine aL (h3.get' hd) fun v hv rv=>?_;have s3:ja X.K H3 a xs:=(e3.trans (aJ _ _)).seq h2;refine⟨⟨xs,v,s3,hv⟩,fun x H' jz=>?_⟩;obtain⟨hH,hx⟩:=jz;subst hH;have:=hx xs s3;rw[hv]at this;cases this;exact⟨.refl _,rv.same ((aJ _ _).trans e3) _⟩;exact⟨xs,(e3.trans (aJ _ _)).seq h2,by rw[h3.len];exact lZ.mp hd⟩
  | _=>exact q.elim
def SN{st:eY}{ds:List D}(h:kW fs st = .ok ds):∃j:Int,fs st = .ok [.int j]/\ -(2 ^ 62)<=j/\j<2 ^ 62/\ds=(cY j.toNat).map fun i=>.int (i:Nat):=by
 unfold kW at h;split at h;rename_i j hf;split at h;rename_i hc;cases h;simp only[bM,aU8]at hc;exact⟨j,hf,hc.1,hc.2,rfl⟩;cases h;cases h;cases h;cases h
def SO{st:eY}{c:av}{p:Option Int}(h:kW fs st = .ex c p):fs st = .ex c p:=by
 unfold kW at h;split at h;split at h <;> cases h;cases h;rename_i z;rw[z];cases h;rfl;cases h
def OX(hm:X.mg "range"=none)(ha:PA X [a] (Bg X.K C G0 Γ E fs κ))(Xz:Gl X "range":=by rfl)(OI:bJ [a] X.env=[(false,eval a X.env)]:=by rfl):PI X tg (.Call (.Name "range" p) [a] [] pos) (IT X.K C G0 Γ E z (kW fs)):=(yQ Xz hm ha OI).imp fun σ H Q zz=>by
 walk_at"a";cases hg:kW fs st with
 | bad=>rw[hg]at q;exact q.elim
 | ex c p=>rw[hg]at q;rw[SO hg];exact q
 | ok ds=>
  rw[hg]at q;refine ab8 (SN hg) fun j hf h1 h2 yb=>?_;obtain rfl:=yb;rw[hf];intro vs H1 e1 w1;refine aL (iY w1) fun v fW wv=>?_;obtain rfl:=fW;obtain rfl:v = .int j:=by rw[Rep]at wv;exact wv
  refine⟨j,rfl,h1,h2,q _ _ e1 fun i H3 A3 e3 _=>⟨fun d hd=>?_,fun hd=>?_⟩⟩;rw[cG]at hd;have hi:i<j.toNat:=by apply Ax;intro gh;rw[nD (by simpa using gh)]at hd;cases hd
  rw[Ag hi]at hd;cases hd;refine⟨hi,fun x H' n8=>?_⟩;obtain⟨hH,hx⟩:=n8;subst hH;subst hx;refine⟨.refl _,?_⟩;rw[Rep,MZ];show j.toNat<=i;have:=lZ.mp hd;simpa using this
def Dp(I:L2.Inv X ak σ H s)(hH:H L=none)(hL:L≠X.env.locals)(hS:X.iG.heap.objs.size<=L)(hc:∀x c,X.env.cells.lookup x=some c->c≠L)(hp:∀p∈X.pn++ak,p.1≠L)(hs:jh L s.heap h'):L2.Inv X ak σ H {s with heap:=h'}:=by
 have kp:∀b o,b≠L->s.heap.get? b=some o->h'.get? b=some o:=fun b o hb e=>(hs.2 b hb).trans e;refine Inv.Cs I (s':={s with heap:=h'}) (ch:=[L]) rfl ⟨fun b o e n nf nx=>kp b o (by simpa using nx) e,fun b o e n nf nx=>⟨o.slots,kp b o (by simpa using nx) e⟩,fun b o e n nx=>n,fun b o e nx=>⟨o,kp b o (by simpa using nx) e⟩,fun b xs q=>q,fun b o u q=>q,fun _ _ _ e=>e⟩ (fun b u e=>?_) I.bare (fun b hb=>?_);refine(I.dX b u e).AE (fun c v rS q=>kp c v ?_ q) (fun _ q=>q) (fun _ _ q=>q) fun _ zo _ q=>q;rintro rfl;rcases rS with rfl|rS;rw[hH]at e;cases e;rw[hH]at rS;cases rS;obtain rfl:b=L:=by simpa using hb
 exact⟨.inr hS,hL,hc,hp⟩
end
section
variable {X:Cx}{C:Cfg}{G0:Hp}{Γ:List SK}{E0:au->ay->Prop}{ak:List (av×Obj)}{σ:L2.St}{H2:Hp}{s2:ay}{A:List av}{st:eY}{tg iter elt:bf}{ifs:List bf}{scope:iV}{cl:List (Str×av)}{pos:Pos}{fp:List av}{it:av}{tn:Nat->aN->Prop}{J:It}{g:TG}{bind:DB}{ft fe:DF}{ng:Kd}{n z:Bool}{ds total:List D}{gz:List Str}{caps:List (Nat×Str)}{RR:au->av->Result->ay->Prop}
def lO(m:Nat):List SK:=cg m .par
def tK(m:Nat):Bu (lO m):=fun i k h=>by unfold lO at h;rw[qd]at h;split at h <;> cases h;rfl
structure wH(X:Cx)(C:Cfg)(ak:List (av×Obj))(σ:L2.St)(n:Bool)(H2:Hp)(B:List av)(total:List D)(acc L:av)(s':ay)(H':Hp)(ys:List V):Prop where
 inv:L2.Inv X ak σ H' s'
 ns:∃m,s'.heap.Ns L m
 hL:H' L=none
 lL:L≠X.env.locals
 sL:X.iG.heap.objs.size<=L
 cL:∀x c,X.env.cells.lookup x=some c->c≠L
 pL:∀p∈X.pn++ak,p.1≠L
 new:H2 acc=none
 at':H' acc=some (.lst ys)
 same:aI H2 (er H' [acc])
 XO:aH X.K C (part n H2 acc B H') total ys/\(n=true->Bf X.K C H2 (part n H2 acc B H') total ys/\Dst total ys)
def wI(I2:L2.Inv X ak σ H2 s2)(Dl:X.calm=true)(r2:RS X.K C G0 Γ σ H2 A st)(T:Turn X.prog X.w X.K tg J fp it tn)(htn:tn 0 s2.heap)(hf:∀b∈fp,AM X ak H2 b)(hJ:JY X.K C (zB z A) H2 J ds)(hz:z=true->∀p∈caps,Γ[p.1]?=some .par\/Γ[p.1]?=some .loc)
  (nc:iw bind ft fe ds (oH gz.length (caps.map (·.1)) st) = .ok total) (jJ:ds.length<=5000) (hk:scope.kind = .function) (vJ:∀y∈scope.names,y.2≠ .cell) (z8:∀x c,cl.lookup x=some c->X.env.cells.lookup x=some c)
  (K5:∀x,((relabel scope X.env).names.lookup x=some .cell\/(relabel scope X.env).names.lookup x=some .free)->∃c,cl.lookup x=some c) (CF:Cap X scope cl caps)
  (hB:pX X.K C G0 (lO (gz.length+caps.length)) g bind)
  (hG:∀s H L,PG ((wD X scope cl (gz++caps.map (·.2)) fp s H L).cK (jw (wD X scope cl (gz++caps.map (·.2)) fp s H L) wF)) tg g)
  (hT:∀s0 H0 L (ak:List (av×Obj)) (s:ay) (σ:L2.St) (H:Hp) (Q:Bool->Hp->Prop),L2.Inv ((wD X scope cl (gz++caps.map (·.2)) fp s0 H0 L).cK (jw (wD X scope cl (gz++caps.map (·.2)) fp s0 H0 L) wF)) ak σ H s->uW X.K C G0 (lO (gz.length+caps.length)) wF ft σ H Q->
   aC (aF X.prog X.w) X.A (forIn ifs true fun c r=>if r=true then do let ok <- isTrue c (compEnvC scope cl L X.env) (eval c (compEnvC scope cl L X.env));pure (kU ok)else pure (kU r)) (TP ((wD X scope cl (gz++caps.map (·.2)) fp s0 H0 L).cK (jw (wD X scope cl (gz++caps.map (·.2)) fp s0 H0 L) wF)) ak σ Q) (jw (wD X scope cl (gz++caps.map (·.2)) fp s0 H0 L) wF) s)
  (hE:∀s H L,PE ((wD X scope cl (gz++caps.map (·.2)) fp s H L).cK (jw (wD X scope cl (gz++caps.map (·.2)) fp s H L) wF)) elt (tD X.K C G0 (lO (gz.length+caps.length)) wF fe ng)) (hn:n=true->ng = .new) (AJ:n=false->ng.le .old=true)
  (hRR:∀acc L s' H' ys,wH X C ak σ n H2 (zB z A) total acc L s' H' ys->RR (.ref acc) L (.ok .next) s') :
  aC (aF X.prog X.w) X.A (newList []) (fun acc XQ=>aC (aF X.prog X.w) X.A (newFunctionEnv scope X.env.globals cl [] X.env.qual none .none (some X.env)) (fun aq7 aM8=>
   codeAny (aF X.prog X.w) X.A (.compStart (.ListComp elt [⟨tg,iter,ifs,0⟩] scope pos) 0 (.ref it) acc {aq7 with scope:=relabel scope X.env}) (RR acc aq7.locals) aM8) E0 XQ) E0 s2:=by
 refine qC (wpAny_newFunctionEnv vJ (by intro y hy;simp at hy) (fun yk Hg Bv=>?_) hk);dsimp only at Hg Bv ⊢;generalize hH2:s2.heap.push {cls:=.type "list",dict:=none,data:=.seq ([]:List au).toArray}=G2 at Hg Bv ⊢;have hC:G2.objs.size=s2.heap.objs.size+1:=by rw[<- hH2,qF]
 have hDC:s2.heap.objs.size≠G2.objs.size:=by rw[hC];exact cu (mS _)
 have below:∀b,b<s2.heap.objs.size->b≠G2.objs.size/\b≠s2.heap.objs.size:=fun b hb=>⟨by rw[hC];exact cu (ny hb),cu hb⟩
 have old:∀b o,s2.heap.get? b=some o->yk.get? b=some o:=fun b o e=>Bv.extBut b o (below b (bQ e)).1 (bV _ (hH2▸bV _ e));have Hf:yk.get? s2.heap.objs.size=some {cls:=.type "list",data:=.seq ([]:List au).toArray 0}:=Bv.extBut _ _ hDC (bV _ (hH2▸fJ _ rfl));have K8:H2 s2.heap.objs.size=none:=I2.dX.fresh (b9 _);have XR:s2.heap.objs.size<=G2.objs.size:=by rw[hC];exact Ab _
 have nL:H2 G2.objs.size=none:=I2.dX.fresh XR;have hfs:∀b∈fp,b<s2.heap.objs.size:=fun b hb=>by obtain⟨o,e,_⟩:=T.obj _ _ htn b hb;exact bQ e
 have ok:=XH (N':=gz++caps.map (·.2)) (L:=G2.objs.size) I2 hk XR z8 K5 hf hfs;have un:Un (rR X.stack) fp H2 (upd H2 s2.heap.objs.size (.lst [])) s2.heap yk:=Un.laid old (b9 _) K8;have dX:rQ X.prog X.w (upd H2 s2.heap.objs.size (.lst [])) yk:=I2.dX.laid old (b9 _) ⟨ie _,[],0,.nil,Hf⟩;have inn:L2.Inv (wD X scope cl (gz++caps.map (·.2)) fp s2 H2 G2.objs.size) [] (oH gz.length (caps.map (·.1)) σ) (upd H2 s2.heap.objs.size (.lst [])) {s2 with heap:=yk,toks:=s2.toks+([]:List (Str×au)).length}:=by
  refine SI I2 ok CF z8 rfl I2.bare un old Hg (by rw[bq (fm hDC)];exact nL) (fun x c h=>?_) dX;have hc:=I2.mU x c (z8 _ _ h);have X7:c≠s2.heap.objs.size:=fun w=>by obtain⟨v,q⟩:=I2.cell x c (z8 _ _ h);exact aV5 q.lt (by rw[w];exact qG _)
  rw[bq X7];exact hc
 have e2:aI H2 (upd H2 s2.heap.objs.size (.lst [])):=bT K8;have ee:aI H2 (er (upd H2 s2.heap.objs.size (.lst [])) [s2.heap.objs.size]):=fun b o e=>by
  have:b≠s2.heap.objs.size:=fun w=>by rw[w,K8]at e;cases e
  rw[aZ (by simpa using this)];exact e2 b o e
 have eB:aI (er H2 (zB z A)) (er (upd H2 s2.heap.objs.size (.lst [])) (s2.heap.objs.size::zB z A)):=fun b o e=>by
  by_cases mb:b∈zB z A;rw[dP mb]at e;cases e;rw[aZ mb]at e;have:b≠s2.heap.objs.size:=fun w=>by rw[w,K8]at e;cases e
  rw[aZ (by simp[this,mb])];exact e2 b o e
 have rin:RS X.K C G0 (lO (gz.length+caps.length)) (oH gz.length (caps.map (·.1)) σ) (upd H2 s2.heap.objs.size (.lst [])) (s2.heap.objs.size::zB z A) (oH gz.length (caps.map (·.1)) st):=by
  refine⟨(r2.base.trans (H8 OW)).trans eB,fun a m=>?_,by unfold oH;simp,fun j d h=>?_,fun i j n' m' p IG es pM g1=>(by have:=tK _ i _ g1;cases this),r2.gl⟩;rcases bD.mp m with rfl|m;exact⟨_,cA,rfl⟩;obtain⟨o,q,hM⟩:=r2.lists a (OW a m);exact⟨o,e2 _ _ q,hM⟩;refine bK (Dk h) fun i hj hi hs=>?_;refine b7 (r2.slot i d hs) fun k v h1 h2 h3=>?_;have gh:j-gz.length<caps.length:=by have:=(fV.mp hi).1;simpa using this
  refine⟨.par,v,?_,OU hj hi h2,?_⟩;unfold lO;rw[qd,aU3 (by lia)];refine Rep.same eB _ ?_;refine aL (r2.read h1 hs) fun v' w1 w2=>?_;rw[h2]at w1;cases w1;unfold zB;cases z with
  | false=>rw[aU4 (by decide),jx];exact w2.rep
  | true=>
   rw[cG]at hi;cases hc:caps[j-gz.length]? with
   | none=>rw[hc]at hi;cases hi
   | some p=>rw[hc]at hi;cases hi;rcases hz rfl p (jO hc)with q|q;rw[h1]at q;cases q;exact h3;rw[h1]at q;cases q;exact h3.1.same (cT _ _) _
 have loop:∀s3:ay,s3={s2 with heap:=yk,toks:=s2.toks+([]:List (Str×au)).length}->
   codeAny (aF X.prog X.w) X.A (.compLoop (.ListComp elt [⟨tg,iter,ifs,0⟩] scope pos) 0 (.ref it) (.ref s2.heap.objs.size) (compEnvC scope cl G2.objs.size X.env)) (RR (.ref s2.heap.objs.size) G2.objs.size) s3:=by
  rintro s3 rfl
  refine K7 (X:=wD X scope cl (gz++caps.map (·.2)) fp s2 H2 G2.objs.size) (C:=C) (G0:=G0) (B:=zB z A) (H2:=H2) (total:=total) T Dl (fun b hb=>⟨hb,(ok.exf b hb).1,ok.Gb b hb,(ok.exf b hb).2⟩) rfl (tK _) hJ hB (hG _ _ _) (hT _ _ _) (hE _ _ _) hn AJ K8 jJ
   (fun s' cz H' sX=>sX.elim fun st' Io=>Io.elim fun ys JI=>JI.elim fun es Li=>Li.elim fun I' Gf=>Gf.elim fun hy I8=>I8.elim fun r' Ia=>Ia.elim fun e' AK=>AK.elim fun rp GA=>GA.elim fun hl GB=>GB.elim fun rest GC=>GC.elim fun hg ht=>?_) _ _ _ ⟨_,[],[],inn,cA,rin,ee,⟨.nil,fun _=>⟨fun j d v h=>(by cases h),fun j k d d' v _ h=>(by cases h)⟩⟩,ie _,total,by simpa using nc,rfl⟩ (T.keep _ _ _ htn fun b hb o e=>old b o e) (fun b hb=>by rw[bq (below b (hfs b hb)).2];exact(hf b hb).1)
  have hr:rest=[]:=by
   rw[M9]at hg
   exact(R.ok.inj hg).symm
  subst hr
  rw[qc]at ht
  subst ht
  have aM9:L2.Inv X ak σ H' s':=Inv.Cs I2 I'.os I'.base I'.dX I'.bare fun b hb=>⟨(hf b hb).2.2.2.1,(hf b hb).2.1,(hf b hb).2.2.2.2.1,(hf b hb).2.2.2.2.2⟩
  refine hRR _ _ s' H' ys ⟨aM9,I'.loc.imp fun m h=>h.1,I'.free,?_,f9 I2.sz XR,fun x c h w=>?_,fun p hp w=>?_,K8,hy,e',rp⟩
  ·exact fm (below _ I2.lt).1
  ·obtain⟨v,q⟩:=I2.cell x c h
   exact(below _ q.lt).1 w
  ·exact(below _ (bQ (I2.pin p hp).1)).1 w
 exact codeAny_compStart_list (loop _ rfl) (T.self X.A 0 _ _ _ (T.keep _ _ _ htn fun b hb o e=>old b o e) (loop _ rfl))
end
def um(z n:Bool):Kd:=if n=true then .new else if z=true then .pB else .fD
def cC(gi:DI)(k:Nat)(fr:List Nat)(bind:DB)(ft fe:DF):DF:=fun st=>match gi st with
 | .ok ds=>if ds.length<=5000 then(match iw bind ft fe ds (oH k fr st)with | .ok es=>.ok (.lst es)|_=>.bad)else .bad
 | .ex c p=>.ex c p
 | .bad=>.bad
section
variable {X:Cx}{C:Cfg}{G0:Hp}{Γ:List SK}{E:L2.St->XK}{gq:Option Bool}{tg iter elt:bf}{ifs:List bf}{scope:iV}{cl:List (Str×av)}{pos:Pos}{g:TG}{bind:DB}{gi:DI}{ft fe:DF}{ng:Kd}{n z:Bool}{gz:List Str}{caps:List (Nat×Str)}
def wH.val{ak:List (av×Obj)}{σ:L2.St}{H H2:Hp}{A:List av}{total:List D}{acc L:av}{s':ay}{H':Hp}{ys:List V}{st:eY}(b:wH X C ak σ n H2 (zB z A) total acc L s' H' ys)(r:RS X.K C G0 Γ σ H A st)(e:aI H H2):aI H H'/\Val X.K C (um z n) G0 A H H' (.lst total) (.ref acc)/\(n=true->GU X.K C H (nw H H') (.lst total) (.ref acc)):=by
 have e2:aI H2 H':=b.same.trans (aJ _ _);have eH:=e.trans e2;refine⟨eH,?_,fun z=>D5.deep fun ds w=>?_⟩;rotate_left;subst z;cases w;refine⟨acc,ys,rfl,by rw[k7 (e.free b.new)];exact b.at',fun j d v h1 h2=>(((b.XO.2 rfl).1 j d v h1 h2).early e).mono fun c o z=>?_,(b.XO.2 rfl).2⟩;unfold part at z;rw[aU3 rfl]at z;by_cases hc:c=acc;subst hc;have:=cT _ _ _ _ z;rw[dP (.head _)]at this;cases this;rw[aZ (by simpa using hc)];exact qZ e _ _ (bS (aJ _ _) _ _ z);have h0:H acc=none:=e.free b.new;have rp:=b.XO.1;unfold um;cases n with
 | true=>
  rw[aU3 rfl];have R0:aH X.K C (er (nw H H') [acc]) total ys:=rp.same (fun c o z=>by
   unfold part at z;rw[aU3 rfl]at z;by_cases hc:c=acc;subst hc;have:=cT _ _ _ _ z;rw[dP (.head _)]at this;cases this;rw[aZ (by simpa using hc)];exact qZ e _ _ (bS (aJ _ _) _ _ z)) _
  have ha:nw H H' acc=some (.lst ys):=by rw[k7 h0];exact b.at'
  exact⟨by rw[Rep];exact⟨acc,ys,rfl,.of ha,R0⟩,⟨fun _=>⟨acc,rfl,h0,ys,ha,R0⟩,.not rfl⟩⟩
 | false=>
  rw[aU4 (by decide)];cases z with
  | true=>
   rw[aU3 rfl];have hA:acc∉A:=fun m=>by obtain⟨xs,q,_⟩:=r.lists acc m;rw[h0]at q;cases q
   have R0:aH X.K C (er (er H' A) [acc]) total ys:=rp.same (fun c o z=>by
    unfold part zB at z;rw[aU4 (by decide),aU3 rfl]at z;by_cases hc:c∈acc::A;rw[dP hc]at z;cases z;rw[aZ hc]at z;have h1:c≠acc:=fun w=>hc (by rw[w];exact .head _);have h2:c∉A:=fun w=>hc (.tail _ w);rw[aZ (by simpa using h1),aZ h2];exact z) _
   have ha:er H' A acc=some (.lst ys):=by rw[aZ hA];exact b.at'
   exact⟨by rw[Rep];exact⟨acc,ys,rfl,.of ha,R0⟩,⟨fun _=>⟨acc,rfl,h0,ys,ha,R0⟩,.not rfl⟩⟩
  | false=>rw[aU4 (by decide)];show Rep X.K C H' _ _;rw[Rep];refine⟨acc,ys,rfl,.of b.at',rp.same (fun c o z=>?_) _⟩;unfold part zB at z;rw[aU4 (by decide),aU4 (by decide)]at z;exact z
structure Blk(X:Cx)(C:Cfg)(G0:Hp)(Γ:List SK)(tg elt:bf)(ifs:List bf)(scope:iV)(cl:List (Str×av))(g:TG)(bind:DB)(ft fe:DF)(ng:Kd)(n z:Bool)(gz:List Str)(caps:List (Nat×Str)):Prop where
 calm:X.calm=true:=by rfl
 hk:scope.kind = .function:=by rfl
 vJ:∀y∈scope.names,y.2≠ .cell:=by decide +kernel
 VO:closureFor scope X.env=pure cl:=by with_unfolding_all rfl
 z8:∀x c,cl.lookup x=some c->X.env.cells.lookup x=some c:=by exact XS (by intro p hp;first|(cases hp;done)|(simp only[bD,eK,aV3]at hp;first|(rcases hp with rfl <;> rfl)|(rcases hp with rfl|rfl <;> rfl)|(rcases hp with rfl|rfl|rfl <;> rfl)))
 K5:∀x,((relabel scope X.env).names.lookup x=some .cell\/(relabel scope X.env).names.lookup x=some .free)->∃c,cl.lookup x=some c:=by exact SQ (by rfl)
 OY:∀y∈scope.names,y.2 = .local->scope.names.lookup y.1=some .local:=by decide +kernel
 CF:Cap X scope cl caps:=by repeat' first|exact trivial|refine⟨⟨rfl,rfl,rfl,rfl⟩,?_⟩
 hz:z=true->∀p∈caps,Γ[p.1]?=some .par\/Γ[p.1]?=some .loc:=by intro _ p hp;first|(cases hp;done)|(simp only[bD,eK,aV3]at hp;first|(rcases hp with rfl <;> first|exact fu rfl|exact fz rfl)|(rcases hp with rfl|rfl <;> first|exact fu rfl|exact fz rfl)|(rcases hp with rfl|rfl|rfl <;> first|exact fu rfl|exact fz rfl))
 hB:pX X.K C G0 (lO (gz.length+caps.length)) g bind:=by first|exact r9 (i:=0) (k:=.par)|exact rf (i:=0) (j:=1) (k:=.par) (k':=.par)
 hG:∀fp s H L,PG ((wD X scope cl (gz++caps.map (·.2)) fp s H L).cK (jw (wD X scope cl (gz++caps.map (·.2)) fp s H L) wF)) tg g:=by intro _ _ _ _;first|exact cS (i:=0) (aU9 (by kernel_rfl)) rfl (fu rfl) (fz rfl)|exact vK rfl (i6 (cS (i:=0) (aU9 (by kernel_rfl)) rfl (fu rfl) (fz rfl)) (i6 (cS (i:=1) (aU9 (by kernel_rfl)) rfl (fu rfl) (fz rfl)) qN))
 hT:∀fp s0 H0 L (ak:List (av×Obj)) (s:ay) (σ:L2.St) (H:Hp) (Q:Bool->Hp->Prop),L2.Inv ((wD X scope cl (gz++caps.map (·.2)) fp s0 H0 L).cK (jw (wD X scope cl (gz++caps.map (·.2)) fp s0 H0 L) wF)) ak σ H s->uW X.K C G0 (lO (gz.length+caps.length)) wF ft σ H Q->
   aC (aF X.prog X.w) X.A (forIn ifs true fun c r=>if r=true then do let ok <- isTrue c (compEnvC scope cl L X.env) (eval c (compEnvC scope cl L X.env));pure (kU ok)else pure (kU r)) (TP ((wD X scope cl (gz++caps.map (·.2)) fp s0 H0 L).cK (jw (wD X scope cl (gz++caps.map (·.2)) fp s0 H0 L) wF)) ak σ Q) (jw (wD X scope cl (gz++caps.map (·.2)) fp s0 H0 L) wF) s:=by exact fun _ _ _ _=>K6 (ft:=dC (.bl true))
 hE:∀fp s H L,PE ((wD X scope cl (gz++caps.map (·.2)) fp s H L).cK (jw (wD X scope cl (gz++caps.map (·.2)) fp s H L) wF)) elt (tD X.K C G0 (lO (gz.length+caps.length)) wF fe ng)
 hn:n=true->ng = .new:=by first|exact fun _=>rfl|exact fun h=>nomatch h
 AJ:n=false->ng.le .old=true:=by first|exact fun _=>rfl|exact fun h=>nomatch h
def tDc(K:aD)(C:Cfg)(G0:Hp)(Γ:List SK)(E:L2.St->XK)(f:DF)(z n:Bool):TE:=fun σ H Q=>∃A st,RS K C G0 Γ σ H A st/\match f st with
 | .ok d=>∀v H',aI H H'->Val K C (um z n) G0 A H H' d v/\(n=true->GU K C H (nw H H') d v)->Q v H'
 | .ex c p=>∀H',aI H H'->IE (E σ) c p H'
 | .bad=>False
def OZ(Bw:PI X tg iter (IT X.K C G0 Γ E z gi))(b:Blk X C G0 Γ tg elt ifs scope cl g bind ft fe ng n z gz caps)(hs:∀x,qD iter X.env x=pure x:=by intro _;rfl) :
  PE X (.ListComp elt [⟨tg,iter,ifs,0⟩] scope pos) (tDc X.K C G0 Γ E (cC gi gz.length (caps.map (·.1)) bind ft fe) z n):=fun ak s σ H Q I zz=>by
 refine cj zz fun A st r q=>?_;clear zz;rw[eval_ListComp];unfold cC at q;refine LB (use:=none) rfl hs b.VO b.hk b.OY (gv (Bw ak s σ H (fun J H'=>∃ds total,aI H H'/\JY X.K C (zB z A) H' J ds/\ds.length<=5000/\iw bind ft fe ds (oH gz.length (caps.map (·.1)) st) = .ok total/\∀v H',aI H H'->Val X.K C (um z n) G0 A H H' (.lst total) v/\(n=true->GU X.K C H (nw H H') (.lst total) v)->Q v H') I ⟨A,st,r,?_⟩) (fun xv s1 h1=>gv h1 (fun itv s2 h2=>?_) fun _ _ e=>e) fun _ _ e=>e);cases hg:gi st with
 | bad=>rw[hg]at q;exact q
 | ex c p=>rw[hg]at q;exact q
 | ok ds=>
  rw[hg]at q;dsimp only at q;by_cases hl:ds.length<=5000;rw[aU3 hl]at q;cases hc:iw bind ft fe ds (oH gz.length (caps.map (·.1)) st)with
  | bad=>rw[hc]at q;exact q.elim
  | ex c p=>rw[hc]at q;exact q.elim
  | ok total=>rw[hc]at q;exact fun J H' e' hJ=>⟨ds,total,e',hJ,hl,hc,q⟩
  rw[aU4 hl]at q;exact q.elim
 obtain⟨it,fp,tn,J,H2,rfl,I2,T,t0,f0,ds,total,e2,hJ,hl,nc,hq⟩:=h2;refine wI (RR:=fun acc L=>compPost (aF X.prog X.w) X.A X.xe none (EP X ak σ Q) acc L) I2 b.calm (r.mono e2) T t0 f0 hJ b.hz nc hl b.hk b.vJ b.z8 b.K5 b.CF b.hB (b.hG fp) (b.hT fp) (b.hE fp) b.hn b.AJ fun acc L s' H' ys be=>?_;obtain⟨e',w⟩:=be.val r e2;obtain⟨m,hm⟩:=be.ns;exact⟨m,hm,fun h' hsb=>⟨.ref acc,H',Dp be.inv be.hL be.lL be.sL be.cL be.pL hsb,rfl,hq _ _ e' w⟩⟩
def SR(Bw:PI X tg iter (IT X.K C G0 Γ E z gi))(b:Blk X C G0 Γ tg elt ifs scope cl g bind ft fe ng n z gz caps)(hs:∀x,qD iter X.env x=pure x:=by intro _;rfl) :
  PE X (.ListComp elt [⟨tg,iter,ifs,0⟩] scope pos) (tD X.K C G0 Γ E (cC gi gz.length (caps.map (·.1)) bind ft fe) (um z n)):=(OZ Bw b hs).imp fun σ H Q zz=>by
 obtain⟨A,st,r,q⟩:=zz;refine⟨A,st,r,?_⟩;cases hf:cC gi gz.length (caps.map (·.1)) bind ft fe st with
 | bad=>walk_at"b"
 | ex c p=>walk_at"b"
 | ok d=>rw[hf]at q;exact fun v H' e w=>q v H' e w.1
def SS{P0:Pos}(hN:X.N.Nodup)(Bw:PI X tg iter (IT X.K C G0 Γ E z gi))(b:Blk X C G0 Γ tg elt ifs scope cl g bind ft fe ng n z gz caps)(hk:Γ[i]?=some k:=by rfl)(hl:k.takes (um z n)=true:=by rfl)(hi:X.N[i]?=some x:=by rfl)(hx:X.env.scope.names.lookup x=some .local:=by rfl)
  (hsw:swapsWith (.ListComp elt [⟨tg,iter,ifs,0⟩] scope pos) (some (.Name x pos')) P0.line X.env=pure true:=by rfl) (hs:∀x,qD iter X.env x=pure x:=by intro _;rfl) :
  PS X (.Assign [.Name x pos'] (.ListComp elt [⟨tg,iter,ifs,0⟩] scope pos) P0) (jD X.K C G0 Γ E gq (bC i (cC gi gz.length (caps.map (·.1)) bind ft fe))):=fun ak s σ H D I zz=>by
 refine cj zz fun A st r q=>?_;clear zz;rw[exec_Assign_Name_used _ _ _ _ hsw];refine aq (yL (aq ?_));show aC _ X.A (do let _ <- comprehension (.ListComp elt [⟨tg,iter,ifs,0⟩] scope pos) scope X.env _ (newList []) false (eval iter X.env) (some (assign (.Name x pos') X.env))) _ _ s;unfold bC cC at q;refine aq (gv (LB (use:=some (assign (.Name x pos') X.env)) (Q:=fun _ s'=>SP X ak D .next s') rfl hs b.VO b.hk b.OY (gv (Bw ak s σ H (fun J H'=>∃ds total,aI H H'/\JY X.K C (zB z A) H' J ds/\ds.length<=5000/\iw bind ft fe ds (oH gz.length (caps.map (·.1)) st) = .ok total/\∀cz H' A',RS X.K C G0 Γ cz H' A' (st.set i (some (.lst total)))->aI (er H A) (er H' A')->D.nx cz H') I ⟨A,st,r,?_⟩) (fun xv s1 h1=>gv h1 (fun itv s2 h2=>?_) fun _ _ e=>e) fun _ _ e=>e))
  (fun _ s' hq=>aG (aG hq)) fun _ _ e=>e)
 cases hg:gi st with
 | bad=>rw[hg]at q;exact q
 | ex c p=>rw[hg]at q;walk_at"d"
 | ok ds=>
  rw[hg]at q;dsimp only at q;by_cases hl:ds.length<=5000;rw[aU3 hl]at q;cases hc:iw bind ft fe ds (oH gz.length (caps.map (·.1)) st)with
  | bad=>rw[hc]at q;exact q.elim
  | ex c p=>rw[hc]at q;exact q.elim
  | ok total=>rw[hc]at q;exact fun J H' e' hJ=>⟨ds,total,e',hJ,hl,hc,q⟩
  rw[aU4 hl]at q;exact q.elim
 obtain⟨it,fp,tn,J,H2,rfl,I2,T,t0,f0,ds,total,e2,hJ,hlen,nc,hq⟩:=h2;refine wI (RR:=fun acc L=>compPost (aF X.prog X.w) X.A X.xe (some (assign (.Name x pos') X.env)) (fun _ s'=>SP X ak D .next s') acc L) I2 b.calm (r.mono e2) T t0 f0 hJ b.hz nc hlen b.hk b.vJ b.z8 b.K5 b.CF b.hB (b.hG fp) (b.hT fp) (b.hE fp) b.hn b.AJ fun acc L s' H' ys be=>?_;obtain⟨e',w,_⟩:=be.val r e2;obtain⟨m,hm⟩:=be.ns;refine bK (r.set e' hk hl w) fun A' r' ea _=>?_;refine Vf (yP be.inv hN hi (.inl hx) (v:=.ref acc) rfl (fun s3 I3 jz=>?_) (.inr hx));refine aL jz fun c hsb hc=>?_;clear jz;have hcL:L≠c:=by rcases hc with rfl|hc;exact be.lL;exact fun z=>be.cL x c hc z.symm
 exact⟨m,hm.sameBut hsb hcL,fun h' JN=>⟨_,H',Dp I3 be.hL be.lL be.sL be.cL be.pL JN,hq _ _ A' r' ea⟩⟩
end
end Dm
end aM5
section aN0
namespace Dz
open PySem PyProof.Rows
abbrev kX(h:aN)(z TI TO T:av)(b:Bool):Prop:=
 h.get? z=some {cls:=.type "zip",dict:=none,data:=.fields #[rawInt T,.bool b,.bool false,.ref TI,.ref TO],slots:=#[]}
section
def XT{Q:Option Obj->ay->Prop}(h:Q (s.heap.get? a) s):aC (aF prog w) A (loadIfAlive a) Q E s:=fun Γ p uQ=>by
 unfold loadIfAlive;rw[Sem.wp_loadIfAlive,Sem.wp_pure];exact h
def IU{Q:Bool->ay->Prop}(hz:kX s.heap z TI TO T b)(hT:s.heap.get? T=some oT)
  (hQ:∀h',kX h' z TI TO T true->jh z s.heap h'->Q false {s with heap:=h'}):aC (aF prog w) A (Builtin.SmallTypes.ownedTupleIsFree (.ref z)) Q E s:=by
 unfold Builtin.SmallTypes.ownedTupleIsFree;refine aq (lW hz rfl (x:=rawInt T) rfl ?_);show aC _ _ (loadIfAlive (T:Int).toNat>>=_) _ _ _;refine aq (XT ?_);rw[qk,hT];simp only[Option.isNone_some,cJ,aV1];refine aq (lW hz rfl (x:=.bool b) rfl ?_);cases b with
 | true=>rw[aU4 (by decide)];exact aG (hQ s.heap hz ⟨rfl,fun _ _=>rfl⟩)
 | false=>rw[aU3 (by decide)];refine aq (wpAny_setField_rec hz (by simp) fun yk IV mV=>aG ?_);exact hQ yk IV mV
def K9{Q:au->ay->Prop}(D:ZipApart z TI TO i1 i2 l1 l2)
  (hz:kX s.heap z TI TO T b) (hT:s.heap.get? T=some oT) (SV:IsPair s.heap TI (.ref i1) (.ref i2))
  (h1:s.heap.IsListIter i1 l1 k1) (h2:s.heap.IsListIter i2 l2 k2) (Ln:s.heap.IsList l1 xs) (XU:s.heap.IsList l2 ys) (hx:xs[k1]?=some x) (hy:ys[k2]?=some y)
  (hQ:∀h',kX h' z TI TO T true->h'.IsListIter i1 l1 (k1+1)->h'.IsListIter i2 l2 (k2+1)->IsPair h' s.heap.objs.size x y->h'.objs.size=s.heap.objs.size+1->
   (∀c o,c≠z->c≠i1->c≠i2->s.heap.get? c=some o->h'.get? c=some o)->Q (.ref s.heap.objs.size) {s with heap:=h'}) :
  aC (aF prog w) A (Builtin.«zip.__next__» ⟨[.ref z],[]⟩) (fun fin s'=>∃v,fin = .done (.ret v)/\Q v s') E s:=by
 show aC _ _ (field (.ref z) 2>>=_) _ _ _;refine aq (lW hz rfl (x:=.bool false) rfl ?_);show aC _ _ (field (.ref z) 3>>=_) _ _ _;refine aq (lW hz rfl (x:=.ref TI) rfl ?_);refine aq (su SV rfl ?_);show aC _ _ (Builtin.SmallTypes.ownedTupleIsFree (.ref z)>>=_) _ _ _;refine aq (IU hz hT fun yk IV mV=>?_);simp only[cJ,aV1];simp only[sM.symm,Ma,Mb];refine aq (aq (aq (jg ?_)));show aC _ _ (Builtin.SmallTypes.nextOf (.ref i1)>>=_) _ _ _;refine aq (LC (h1.extBut mV.extBut D.i1z) (Ln.extBut mV.extBut D.l1z) hx fun aq9 ar0 wJ=>aG (aG ?_));refine aq (aq (jg ?_));show aC _ _ (Builtin.SmallTypes.nextOf (.ref i2)>>=_) _ _ _;refine aq (LC ((h2.extBut mV.extBut D.i2z).extBut wJ.extBut D.i12.symm) ((XU.extBut mV.extBut D.l2z).extBut wJ.extBut D.l2i1) hy fun Ka ar1 IW=>aG (aG (aG ?_)));show aC _ _ (newTuple [x,y]>>=_) _ _ _;refine aq (wpAny_newTuple ?_);have hsz:Ka.objs.size=s.heap.objs.size:=by rw[IW.1,wJ.1,mV.1]
 have ar2:kX Ka z TI TO T true:=IW.extBut _ _ D.i2z.symm (wJ.extBut _ _ D.i1z.symm IV);have hk:∀c o,c≠z->c≠i1->c≠i2->s.heap.get? c=some o->Ka.get? c=some o:=fun c o c1 c3 c4 e=>IW.extBut _ _ c4 (wJ.extBut _ _ c3 (mV.extBut _ _ c1 e));have ar3:Ka.IsListIter i1 l1 (k1+1):=ar0.extBut IW.extBut D.i12;refine aG ⟨_,rfl,?_⟩;show Q (.ref Ka.objs.size) _;rw[hsz];refine hQ (Ka.push {cls:=.type "tuple",data:=.seq #[x,y]}) (bV _ ar2) (ar3.at fun o e=>bV _ e) (ar1.at fun o e=>bV _ e) ?_ (by rw[qF,hsz]) fun c o c1 c3 c4 e=>bV _ (hk c o c1 c3 c4 e);rw[<- hsz];exact fJ _ rfl
def P4{k2:Nat}{ys:Array au}(hh:A.handled=none)(D:ZipApart z TI TO i1 i2 l1 l2)
  (hz:kX s.heap z TI TO T b) (hT:s.heap.get? T=some oT) (SV:IsPair s.heap TI (.ref i1) (.ref i2))
  (h1:s.heap.IsListIter i1 l1 k1) (Ln:s.heap.IsList l1 xs) (B8:xs[k1]?=none)
  (hE:∀h' e,(∀c o,c≠z->c≠i1->s.heap.get? c=some o->h'.get? c=some o)->(∃o,h'.get? e=some o/\o.cls = .type "StopIteration")->E (.ref e) {s with heap:=h'}) :
  aC (aF prog w) A (Builtin.«zip.__next__» ⟨[.ref z],[]⟩) Q E s:=by
 show aC _ _ (field (.ref z) 2>>=_) _ _ _;refine aq (lW hz rfl (x:=.bool false) rfl ?_);show aC _ _ (field (.ref z) 3>>=_) _ _ _;refine aq (lW hz rfl (x:=.ref TI) rfl ?_);refine aq (su SV rfl ?_);show aC _ _ (Builtin.SmallTypes.ownedTupleIsFree (.ref z)>>=_) _ _ _;refine aq (IU hz hT fun yk IV mV=>?_);simp only[cJ,aV1];simp only[sM.symm,Ma,Mb];refine aq (aq (aq (jg ?_)));show aC _ _ (Builtin.SmallTypes.nextOf (.ref i1)>>=_) _ _ _;refine aq (wpAny_nextOf_list_end hh (h1.extBut mV.extBut D.i1z) (Ln.extBut mV.extBut D.l1z) B8 fun aq9 e wJ he=>?_);exact hE aq9 e (fun c o c1 c3 x=>wJ _ _ c3 (mV.extBut _ _ c1 x)) he
def Dq{Q:Option au->ay->Prop}(D:ZipApart z TI TO i1 i2 l1 l2)
  (hz:kX s.heap z TI TO T b) (hT:s.heap.get? T=some oT) (SV:IsPair s.heap TI (.ref i1) (.ref i2))
  (h1:s.heap.IsListIter i1 l1 k1) (h2:s.heap.IsListIter i2 l2 k2) (Ln:s.heap.IsList l1 xs) (XU:s.heap.IsList l2 ys) (hx:xs[k1]?=some x) (hy:ys[k2]?=some y)
  (hQ:∀h',kX h' z TI TO T true->h'.IsListIter i1 l1 (k1+1)->h'.IsListIter i2 l2 (k2+1)->IsPair h' s.heap.objs.size x y->h'.objs.size=s.heap.objs.size+1->
   (∀c o,c≠z->c≠i1->c≠i2->s.heap.get? c=some o->h'.get? c=some o)->Q (some (.ref s.heap.objs.size)) {s with heap:=h'}) :
  aC (aF prog w) A (pyNext (.ref z)) Q E s:=by
 have hT':s.TypeIs (.ref z) "zip":=⟨_,hz,rfl⟩
 unfold pyNext;exact aq (s8 (sd (name:=sP "__next__") hT' Av
  (jM Av hT' MQ
   (K9 D hz hT SV h1 h2 Ln XU hx hy fun h' a1 a3 a4 a5 a6 a7=>aG (hQ h' a1 a3 a4 a5 a6 a7)) (MR _))))
def Hh{k2:Nat}{ys:Array au}{Q:Option au->ay->Prop}(hh:A.handled=none)(D:ZipApart z TI TO i1 i2 l1 l2)
  (hz:kX s.heap z TI TO T b) (hT:s.heap.get? T=some oT) (SV:IsPair s.heap TI (.ref i1) (.ref i2))
  (h1:s.heap.IsListIter i1 l1 k1) (Ln:s.heap.IsList l1 xs) (B8:xs[k1]?=none)
  (hQ:∀h',(∀c o,c≠z->c≠i1->s.heap.get? c=some o->h'.get? c=some o)->Q none {s with heap:=h'}):aC (aF prog w) A (pyNext (.ref z)) Q E s:=by
 have hT':s.TypeIs (.ref z) "zip":=⟨_,hz,rfl⟩
 unfold pyNext;refine aq (s8 (sd (name:=sP "__next__") hT' Av
  (jM Av hT' MQ (P4 (ys:=ys) (k2:=k2) hh D hz hT SV h1 Ln B8 fun h' e hk he=>?_) (MR _))))
 refine aL he fun o ho hc=>?_;clear he;refine aq (sf (T:="StopIteration") (b:=true) ⟨o,ho,hc⟩ EZ ?_);exact aG (hQ _ hk)
end
def Bx:entryFor table "zip.__getattribute__" =some Builtin.«object.__getattribute__» :=
 entryFor_alias (id':="object.__getattribute__") (by kernel_rfl) (by first|rfl|decide +kernel) (by decide +kernel) (by kernel_rfl)
def Dr:typeLookup (.type "zip") "keys"=pure none:=by rw[EW,EX];kernel_rfl
def wK:typeLookup (.type "zip") "__getattr__"=pure none:=by rw[EW,EX];kernel_rfl
def Hi(a:av)(fs:Array au)(u:Tok) :
  Meets (Builtin.«object.__getattribute__» ⟨[.ref a,.str "keys" u],[]⟩) (fun A R s=>s.heap.get? a=some { cls:=.type "zip",dict:=none,data:=.fields fs,slots:=#[] }/\raisesAttr (.ref a) "keys" A R s):=
 Meets.of_wp fun prog w A R s hs=>by
  obtain⟨hp,g,d,tk,os⟩:=s;obtain⟨hx,hs⟩:=hs;have hT:(⟨hp,g,d,tk,os⟩:ay).TypeIs (.ref a) "zip":=⟨_,hx,rfl⟩
  have f4:=Dr;repeat (any_goals (first|assumption|wp_step))
  exact wpAny_raiseAttrError hs.1 hs.2 (attrMsg_fits (by decide +kernel) (by size_fits))
def Kc{A:bP}{s:ay}{Q:Option au->ay->Prop}(hx:s.heap.get? a=some {cls:=.type "zip",dict:=none,data:=.fields fs,slots:=#[]})(hA:A.handled=none)
  (h:∀h' tk,(∀b o,s.heap.get? b=some o->h'.get? b=some o)->Q none {s with heap:=h',toks:=tk}):aC (aF prog w) A (getAttr? (.ref a) "keys") Q E s:=by
 obtain⟨hp,g,d,tk,os⟩:=s;have hT:∀tk',(⟨hp,g,d,tk',os⟩:ay).TypeIs (.ref a) "zip":=fun _=>⟨_,hx,rfl⟩
 have f1:=sub_AttributeError;have f3:=FW.lookup;have f4:=FW.bind (.ref a);have f5:=wK;unfold getAttr? getAttrBy? getAttrBy;repeat (any_goals (first|assumption|exact hT _|((with_reducible show aC _ _ (call (Value.builtin "zip.__getattribute__") _ _) _ _ _);refine vf FW (hT _) Bx (F.args_zip_getattribute_2 _ _) (Hi a fs _) ⟨hx,hA,fun h' tk' e qO=>?_⟩)|wp_step))
 refine pJ qO.there fun t' u' he=>?_;show aC _ _ (getattributeRaised _ _ _ _ _ _ _) _ _ _;unfold getattributeRaised;repeat (any_goals (first|assumption|wp_step))
 exact h _ _ qO.keeps
structure VP(z TI TO i1 i2 l1 l2:av)(xs ys:Array au)(k:Nat)(h:aN):Prop where
 ti:IsPair h TI (.ref i1) (.ref i2)
 Ke:h.IsListIter i1 l1 k
 EH:h.IsListIter i2 l2 k
 Kf:h.IsList l1 xs
 gJ:h.IsList l2 ys
 zp:(IsZip h z TI TO .none/\∃a b,IsPair h TO a b)\/∃T b oT,kX h z TI TO T b/\h.get? T=some oT
section
def P5{Q:Option au->ay->Prop}(D:ZipApart z TI TO i1 i2 l1 l2)(st:VP z TI TO i1 i2 l1 l2 xs ys k s.heap)(hx:xs[k]?=some x)(hy:ys[k]?=some y)
  (hQ:∀h',VP z TI TO i1 i2 l1 l2 xs ys (k+1) h'->IsPair h' s.heap.objs.size x y->h'.objs.size=s.heap.objs.size+1->
   (∀c o,c≠z->c≠TO->c≠i1->c≠i2->s.heap.get? c=some o->h'.get? c=some o)->Q (some (.ref s.heap.objs.size)) {s with heap:=h'}) :
  aC (aF prog w) A (pyNext (.ref z)) Q E s:=by
 obtain⟨ti,Ke,EH,Kf,gJ,zp⟩:=st;rcases zp with⟨hz,a,b,QY⟩|⟨T,b,oT,hz,hT⟩;refine wpAny_pyNext_zip_item D hz ti QY Ke EH Kf gJ hx hy fun h' a1 a2 a3 a4 a5 a6 a7=>hQ h' ⟨a7 _ _ D.TIz D.TITO D.TIi1 D.TIi2 ti,a3,a4,Kf.at fun o e=>a7 _ _ D.l1z D.l1TO D.l1i1 D.l1i2 e,gJ.at fun o e=>a7 _ _ D.l2z D.l2TO D.l2i1 D.l2i2 e,.inr ⟨_,false,_,a1,a5⟩⟩ a5 a6 a7;refine Dq D hz hT ti Ke EH Kf gJ hx hy fun h' a1 a3 a4 a5 a6 a7=>hQ h' ⟨a7 _ _ D.TIz D.TIi1 D.TIi2 ti,a3,a4,Kf.at fun o e=>a7 _ _ D.l1z D.l1i1 D.l1i2 e,gJ.at fun o e=>a7 _ _ D.l2z D.l2i1 D.l2i2 e,.inr ?_⟩ a5 a6 fun c o c1 _ c3 c4 e=>a7 c o c1 c3 c4 e;by_cases q1:T=z;exact⟨T,true,_,a1,by rw[q1];exact a1⟩;by_cases q2:T=i1;obtain⟨o,e,_⟩:=a3;exact⟨T,true,o,a1,by rw[q2];exact e⟩;by_cases q3:T=i2;obtain⟨o,e,_⟩:=a4;exact⟨T,true,o,a1,by rw[q3];exact e⟩;exact⟨T,true,oT,a1,a7 _ _ q1 q2 q3 hT⟩
def SW{Q:Option au->ay->Prop}(hh:A.handled=none)(D:ZipApart z TI TO i1 i2 l1 l2)(st:VP z TI TO i1 i2 l1 l2 xs ys k s.heap)(B8:xs[k]?=none)
  (hQ:∀h',(∀c o,c≠z->c≠TO->c≠i1->c≠i2->s.heap.get? c=some o->h'.get? c=some o)->Q none {s with heap:=h'}) :
  aC (aF prog w) A (pyNext (.ref z)) Q E s:=by
 obtain⟨ti,Ke,EH,Kf,gJ,zp⟩:=st;rcases zp with⟨hz,a,b,QY⟩|⟨T,b,oT,hz,hT⟩;exact wpAny_pyNext_zip_end hh D hz ti QY Ke EH Kf gJ (.inl B8) hQ;exact Hh (ys:=ys) (k2:=k) hh D hz hT ti Ke Kf B8 fun h' a=>hQ h' fun c o c1 _ c3 _ e=>a c o c1 c3 e
end
def jY:entryFor table "dict.update.loop" =some Builtin.«dict.update.loop»:=EY (by kernel_rfl)
def j5:plainId "dict.update.loop"=true:=by decide +kernel
section
variable {K:Type}[DecidableEq K]{kd:KeyKind prog w K}{A:bP}{s:ay}{d:av}{xs ys:Array au}
def IX{h':aN}(q:(tupleKind kd).is h k a)(e:∀o,h.get? a=some o->h'.get? a=some o):(tupleKind kd).is h' k a:=by
 refine Cp q fun o b6 n h1 h2=>?_;clear q;exact⟨o,b6,n,e o h1,h2⟩
def tL{h h':aN}(q:h.DictOfH (tupleKind kd) d ps)(e:∀o,h.get? d=some o->h'.get? d=some o)(ek:∀p∈ps,∀o,h.get? p.2.1=some o->h'.get? p.2.1=some o):h'.DictOfH (tupleKind kd) d ps:=by
 refine Rb q fun o es ep h1 h2 h3 h4 h5 h6=>?_;clear q;exact⟨o,es,ep,e o h1,h2,h3,h4,fun p hp=>IX (h5 p hp) (ek p hp),h6⟩
def VP.same(st:VP z TI TO i1 i2 l1 l2 xs ys k h)(hs:jh d h h')(hd:∃o,h'.get? d=some o)(n1:z≠d)(n2:TI≠d)(n3:TO≠d)(n4:i1≠d)(n5:i2≠d)(n6:l1≠d)(n7:l2≠d):VP z TI TO i1 i2 l1 l2 xs ys k h':=by
 obtain⟨ti,Ke,EH,Kf,gJ,zp⟩:=st;have kp:∀b o,b≠d->h.get? b=some o->h'.get? b=some o:=fun b o nb e=>(hs.2 b nb).trans e;refine⟨kp _ _ n2 ti,Ke.at fun o e=>kp _ _ n4 e,EH.at fun o e=>kp _ _ n5 e,Kf.at fun o e=>kp _ _ n6 e,gJ.at fun o e=>kp _ _ n7 e,?_⟩;rcases zp with⟨hz,a,b,QY⟩|⟨T,b,oT,hz,hT⟩;exact .inl ⟨kp _ _ n1 hz,a,b,kp _ _ n3 QY⟩;by_cases q:T=d;obtain⟨o,e⟩:=hd;exact .inr ⟨T,b,o,kp _ _ n1 hz,by rw[q];exact e⟩;exact .inr ⟨T,b,oT,kp _ _ n1 hz,kp _ _ q hT⟩
def pairUp(j7:List (List K×av))(vs:List au):List (List K×av×au):=(j7.zip vs).map fun p=>(p.1.1,p.1.2,p.2)
def SY(hh:A.handled=none)(D:ZipApart z TI TO i1 i2 l1 l2)(room:A.units+1<cLine){j7:List (List K×av)}{vs:List au}
  (hx:∀i:Nat,xs[i]?=(j7[i]?).map fun p=>f7 p.2) (hy:∀i:Nat,ys[i]?=vs[i]?) (hlen:vs.length=j7.length) (hsz:j7.length<=bO) (hk:∀p∈j7,(tupleKind kd).is h0 p.1 p.2) (nd:(j7.map (·.1)).Nodup)
  (ap:∀b o,h0.get? b=some o->b≠z/\b≠TO/\b≠i1/\b≠i2/\b≠d) (n1:z≠d) (n2:TI≠d) (n3:TO≠d) (n4:i1≠d) (n5:i2≠d) (n6:l1≠d) (n7:l2≠d)
  {R:Result->ay->Prop}:∀(j k:Nat) (s:ay),j7.length-k=j->k<=j7.length->VP z TI TO i1 i2 l1 l2 xs ys k s.heap->(∀b o,h0.get? b=some o->s.heap.get? b=some o)->
   s.heap.DictOfH (tupleKind kd) d ((pairUp j7 vs).take k)->
   (∀h' tk,(∀b o,h0.get? b=some o->h'.get? b=some o)->h'.DictOfH (tupleKind kd) d (pairUp j7 vs)->R (.ok (.ret .none)) {s with heap:=h',toks:=tk})->
   codeAny (aF prog w) A (.builtin "dict.update.loop" ⟨[.ref d,.ref z,rawInt k,.none],[]⟩) R s:=by
 have pl:(pairUp j7 vs).length=j7.length:=by unfold pairUp;rw[bL,List.length_zip,hlen,F6]
 have pk:∀p∈pairUp j7 vs,(p.1,p.2.1)∈j7:=fun p hp=>by unfold pairUp at hp;refine aL (aX.mp hp) fun q hq aT=>?_;walk_at"c";obtain⟨⟨q1,q2⟩,q3⟩:=q;exact(vp hq).1
 have QM:∀p∈pairUp j7 vs,∃o,h0.get? p.2.1=some o:=fun p hp=>by refine Cp (hk _ (pk p hp)) fun o _ _ e _=>?_;exact⟨o,e⟩
 intro j;induction j with
 | zero=>
  intro k s hj hkl st kp dd hR;have hkn:k=j7.length:=by lia
  refine kO jY ?_;rw[qj j5 _];unfold Builtin.«dict.update.loop»;refine aq (SW (A:=A.in1) hh D st (by rw[hx,nD (by lia)];rfl) fun h' QX=>?_);have keep:∀b o,h0.get? b=some o->h'.get? b=some o:=fun b o e=>by refine AA (ap b o e) fun a1 a2 a3 a4 _=>?_;exact QX b o a1 a2 a3 a4 (kp b o e)
  have VQ:h'.DictOfH (tupleKind kd) d (pairUp j7 vs):=by rw[qf (by lia)]at dd;refine tL dd (fun o e=>QX d o n1.symm n3.symm n4.symm n5.symm e) fun p hp o e=>?_;obtain⟨o',e'⟩:=QM p hp;have e2:=kp _ _ e';rw[e]at e2;cases e2;exact keep _ _ e'
  exact aq (aG (aG (hR h' s.toks keep VQ)))
 | succ j ih=>
  intro k s hj hkl st kp dd hR;have hkn:k<j7.length:=by lia
  have hka:j7[k]?=some j7[k]:=c7 hkn;have hva:vs[k]?=some (vs[k]'(by lia)):=c7 (by lia);refine kO jY ?_;rw[qj j5 _];unfold Builtin.«dict.update.loop»;refine aq (P5 (A:=A.in1) D st (x:=.ref j7[k].2) (y:=vs[k]'(by lia)) (by rw[hx,hka];rfl) (by rw[hy,hva]) fun h' st' hT aT6 QX=>?_);have keep:∀b o,h0.get? b=some o->h'.get? b=some o:=fun b o e=>by refine AA (ap b o e) fun a1 a2 a3 a4 _=>?_;exact QX b o a1 a2 a3 a4 (kp b o e)
  have VQ:h'.DictOfH (tupleKind kd) d ((pairUp j7 vs).take k):=by refine tL dd (fun o e=>QX d o n1.symm n3.symm n4.symm n5.symm e) fun p hp o e=>?_;obtain⟨o',e'⟩:=QM p (sI hp);have e2:=kp _ _ e';rw[e]at e2;cases e2;exact keep _ _ e'
  dsimp only;refine aq (jg (aq (wpAny_tryCatch ?_)));unfold Builtin.Dict.pairItems;refine aq (vh (T:="tuple") ⟨_,hT,rfl⟩ ?_);rw[aU3 (by decide)];refine aq (su hT rfl (aG ?_));show aC _ _ (holding [.ref j7[k].2,vs[k]'(by lia)] (dictSet d (.ref j7[k].2) (vs[k]'(by lia)))) _ _ _;have pn:(pairUp j7 vs)[k]?=some (j7[k].1,j7[k].2,vs[k]'(by lia)):=by unfold pairUp;rw[cG,(List.getElem?_zip_eq_some (z:=(j7[k],vs[k]'(by lia)))).mpr ⟨hka,hva⟩];rfl
  have pnd:((pairUp j7 vs).map (·.1)).Nodup:=by
   have:(pairUp j7 vs).map (·.1)=j7.map (·.1):=by
    unfold pairUp;rw[cU];have:(j7.zip vs).map (fun p=>p.1)=j7:=Mc (by lia);conv=>rhs;rw[<- this]
    rw[cU];rfl
   rw[this];exact nd
  have ar6:atKey ((pairUp j7 vs).take k) j7[k].1=none:=by
   refine atKey_none_of_get fun i p hi=>?_;have hik:i<k:=by have:=(fV.mp hi).1;simp at this;lia
   rw[Ad hik]at hi;have e1:((pairUp j7 vs).map (·.1))[i]?=some j7[k].1:=by rw[cG,hi];rfl
   have e2:((pairUp j7 vs).map (·.1))[k]?=some j7[k].1:=by rw[cG,pn];rfl
   have:=(List.getElem?_inj (by rw[bL,pl];lia) pnd).mp (e1.trans e2.symm);lia
  have ar7:(tupleKind kd).is h' j7[k].1 j7[k].2:=IX (hk _ (jQ hkn)) fun o e=>keep _ _ e;refine jg (wpAny_dictSet_heap (hsz:=by rw[kP];lia) (show A.in1.units<cLine from room) ar7 VQ fun h2 RO QS=>?_);refine aG ⟨vF _ (by decide +kernel),?_⟩;rw[storedH_new ar6]at RO;have tk:(pairUp j7 vs).take (k+1)=(pairUp j7 vs).take k++[(j7[k].1,j7[k].2,vs[k]'(by lia))]:=by rw[List.take_add_one,pn];rfl
  refine ih (k+1) _ (by lia) (by lia) (st'.same QS (by obtain⟨o,_,_,e,_⟩:=RO;exact⟨o,e⟩) n1 n2 n3 n4 n5 n6 n7) (fun b o e=>(QS.2 b (ap b o e).2.2.2.2).trans (keep b o e)) (by rw[tk];exact RO) hR
end
section
variable {prog:cP}{w:bF}{K:Type}[DecidableEq K]{kd:KeyKind prog w K}{A:bP}{E:au->ay->Prop}{s:ay}{z TI TO i1 i2 l1 l2:av}{xs ys:Array au}
def Kg(hh:A.handled=none)(D:ZipApart z TI TO i1 i2 l1 l2)(room:A.units+2<cLine){j7:List (List K×av)}{vs:List au}
  (hx:∀i:Nat,xs[i]?=(j7[i]?).map fun p=>f7 p.2) (hy:∀i:Nat,ys[i]?=vs[i]?) (hlen:vs.length=j7.length) (hsz:j7.length<=bO) (hk:∀p∈j7,(tupleKind kd).is h0 p.1 p.2) (nd:(j7.map (·.1)).Nodup)
  (ap:∀b o,h0.get? b=some o->b≠z/\b≠TO/\b≠i1/\b≠i2) (hz:IsZip s.heap z TI TO .none) (st:VP z TI TO i1 i2 l1 l2 xs ys 0 s.heap) (kp:∀b o,h0.get? b=some o->s.heap.get? b=some o) {Q:au->ay->Prop}
  (hQ:∀h' tk,(∀b o,h0.get? b=some o->h'.get? b=some o)->h'.DictOfH (tupleKind kd) s.heap.objs.size (pairUp j7 vs)->Q (.ref s.heap.objs.size) {s with heap:=h',toks:=tk}) :
  aC (aF prog w) A (call (.type "dict") [.ref z]) Q E s:=by
 refine callType_codes (Q₁:=fun obj dg=>obj = .ref s.heap.objs.size/\dg={ s with heap:=s.heap.push { cls:=.type "dict",data:=.dict #[] } }) F.kt_called_dict (F.kt_typeCall_dict_1 _) F.entry_dict_init (kt_code_dict_new _ ⟨rfl,rfl⟩) ?_;rintro obj dg ⟨rfl,rfl⟩;have NC:(s.heap.push { cls:=.type "dict",data:=.dict #[] }).DictOfH (tupleKind kd) s.heap.objs.size []:=We s.heap;have up:∀b o,s.heap.get? b=some o->(s.heap.push { cls:=.type "dict",data:=.dict #[] }).get? b=some o:=fun b o e=>bV _ e;have lt:∀b o,s.heap.get? b=some o->b≠s.heap.objs.size:=fun b o e=>cu (bQ e);refine⟨NC.typeIs,F.args_dict_init_2 _ _,?_⟩;unfold Builtin.«dict.__init__»;refine aq ?_;unfold Builtin.Dict.selfAndRest;refine aq (LD NC.typeIs ?_);show aC _ _ (pure (s.heap.objs.size,[f7 z])) _ _ _;refine aG ?_;show aC _ _ (Builtin.Dict.updateFrom "dict.__init__" s.heap.objs.size (.ref z) [] .none) _ _ _;unfold Builtin.Dict.updateFrom;refine aq (vh (T:="zip") ⟨_,up _ _ hz,rfl⟩ ?_);rw[aU3 (by decide)];refine aq (Kc (up _ _ hz) hh fun h1 tk1 kp1=>?_);simp only[Option.isNone_none,aV2];refine aq (yM ?_);refine aq (wpAny_pyIter_zip (kp1 _ _ (up _ _ hz)) ?_);obtain ⟨ti,Ke,EH,Kf,gJ,zp⟩:=st;obtain ⟨_,a,b,QY⟩ | ⟨T,b,oT,hz',_⟩:=zp;refine aG ⟨vF _ (by decide +kernel),?_⟩;have n4:i1≠s.heap.objs.size:=by obtain ⟨o,e,_⟩:=Ke;exact lt _ _ e
 have n5:i2≠s.heap.objs.size:=by obtain⟨o,e,_⟩:=EH;exact lt _ _ e
 have n6:l1≠s.heap.objs.size:=by obtain⟨o,e,_⟩:=Kf;exact lt _ _ e
 have n7:l2≠s.heap.objs.size:=by obtain⟨o,e,_⟩:=gJ;exact lt _ _ e
 have up1:∀b o,s.heap.get? b=some o->h1.get? b=some o:=fun b o e=>kp1 _ _ (up b o e);refine SY (A:=A.in1) (h0:=h0) hh D (show A.in1.units+1<cLine from room) hx hy hlen hsz hk nd (fun b o e=>⟨(ap b o e).1,(ap b o e).2.1,(ap b o e).2.2.1,(ap b o e).2.2.2,lt b o (kp b o e)⟩) (lt _ _ hz) (lt _ _ ti) (lt _ _ QY) n4 n5 n6 n7 j7.length 0 ⟨h1,s.gens,s.drawn,tk1,s.os⟩ (by lia) (by lia)
  ⟨up1 _ _ ti,Ke.at fun o e=>up1 _ _ e,EH.at fun o e=>up1 _ _ e,Kf.at fun o e=>up1 _ _ e,gJ.at fun o e=>up1 _ _ e,.inl ⟨up1 _ _ hz,a,b,up1 _ _ QY⟩⟩ (fun b o e=>up1 b o (kp b o e)) ?_ fun h' tk k' VQ=>⟨rfl,hQ h' tk k' VQ⟩
 rw[List.take_zero];exact tL NC (fun o e=>kp1 _ _ e) fun p hp=>by cases hp
 exfalso;have e:=hz.symm.trans hz';simp[rawInt]at e
end
end Dz
end aN0
section ar9
namespace Dm
open PySem PySem.Spec PyProof.Rows L2
abbrev DP:=(Int×Int)×av×Int×Tok
def P6(ps:List DP):List (List Int×av×au):=ps.map fun p=>([p.1.1,p.1.2],p.2.1,.int p.2.2.1 p.2.2.2)
def DX(a:av)(ps:List DP)(h:aN):Prop:=∃o es ep,h.get? a=some o/\o.ExactDict/\o.data = .dict es ep/\(∀(P:cP) (w:bF),es.toList=(P6 ps).map (Cg (tupleKind (intKind P w))))/\((P6 ps).map (·.1)).Nodup
def XW(ps:List DP):List V:=ps.flatMap fun p=>[.int p.1.1,.int p.1.2,.int p.2.2.1]
def T4(K:aD)(H:Hp)(a:av)(vs:List V):Prop:=∃ps,vs=XW ps/\H a=some (.ext (DX a ps))/\∀p∈ps,jA K H p.2.1 [.int p.1.1,.int p.1.2]
def T4.mono{K:aD}{H H':Hp}{a:av}{vs:List V}(e:aI H H')(h:T4 K H a vs):T4 K H' a vs:=by
 refine bK h fun ps h1 h2 h3=>?_;clear h;exact⟨ps,h1,e _ _ h2,fun p hp=>aI.tup e (h3 p hp)⟩
def DX.of{h:aN}(q:h.DictOfH (tupleKind (intKind P w)) a (P6 ps)):DX a ps h:=by
 refine Rb q fun o es ep h1 h2 h3 h4 _ h6=>?_;clear q;exact⟨o,es,ep,h1,h2,h3,fun P' w'=>h4,h6⟩
def DX.dict(q:DX a ps h)(k:∀p∈ps,(tupleKind (intKind P w)).is h [p.1.1,p.1.2] p.2.1):h.DictOfH (tupleKind (intKind P w)) a (P6 ps):=by
 refine AB q fun o es ep h1 h2 h3 h4 h6=>?_;clear q;refine⟨o,es,ep,h1,h2,h3,h4 P w,fun x hx=>?_,h6⟩;refine aL (aX.mp hx) fun p hp aT=>?_;walk_at"c";exact k p hp
def DX.keep{h':aN}(q:DX a ps h)(e:∀o,h.get? a=some o->h'.get? a=some o):DX a ps h':=by
 refine Cp q fun o es ep h1 h2=>?_;clear q;exact⟨o,es,ep,e o h1,h2⟩
section
def wL(I:L2.Inv X ak σ H s)(h:jA X.K H a [.int r,.int c]):(tupleKind (intKind X.prog X.w)).is s.heap [r,c] a:=by
 refine bK (I.tuple h) fun b6 rv aT _=>?_;obtain⟨o,e,hc,n,hd⟩:=aT;refine⟨o,b6.toArray,n,e,hc,hd,?_⟩;cases rv with
 | cons r1 t1=>
  cases t1 with
  | cons r2 t2=>cases t2;obtain⟨t,rfl⟩:=r1;obtain⟨u,rfl⟩:=r2;exact .cons (by simp[intKind,Value.isInt]) (.cons (by simp[intKind,Value.isInt]) .nil)
def boot_dict:gY "dict"=some (.type "dict"):=by decide +kernel
def boot_zip:gY "zip"=some (.type "zip"):=by decide +kernel
end
def tDZ(K:aD)(ta:TA):TE:=fun σ H Q=>ta σ H fun vs H1=>∃(p q:av) (l:List ((Int×Int)×av×Int)),vs=[.ref p,.ref q]/\ja K H1 p (l.map fun z=>.ref z.2.1)/\ja K H1 q (l.map fun z=>.int z.2.2)/\
 (∀z∈l,jA K H1 z.2.1 [.int z.1.1,.int z.1.2])/\(l.map (·.1)).Nodup/\∀(d:av) (ps:List DP),H1 d=none->ps.map (fun p=>(p.1,p.2.1,p.2.2.1))=l->Q (.ref d) (upd H1 d (.ext (DX d ps)))
theorem Ds:∀{ns:List Int} {us:List au},Vals (ns.map V.int) us->∃ts:List Tok,ts.length=ns.length/\us=(ns.zip ts).map fun p=>uy p.1 p.2
 | [],_,r=>by rw[jq]at r;cases r;exact⟨[],rfl,rfl⟩
 | n::ns,_,r=>by
  rw[bh]at r;cases r with
  | cons h t=>obtain⟨t1,rfl⟩:=h;refine aL (Ds t) fun ts hl aT=>?_;walk_at"c";exact⟨t1::ts,by simp[hl],rfl⟩
theorem Dt:∀{l:List av} {us:List au},Vals (l.map V.ref) us->us=l.map f7
 | [],_,r=>by rw[jq]at r;cases r;rfl
 | n::ns,_,r=>by
  rw[bh]at r;cases r with
  | cons h t=>cases h;rw[Dt t];rfl
section
def Hj(hc:X.calm=true)(hu:X.A.units+2<cLine)(hgd:Gl X "dict")(hgz:Gl X "zip")(hmd:X.mg "dict"=none)(hmz:X.mg "zip"=none)(ha:PA X [a,b] ta)
  (hs:bJ [a,b] X.env=(false,eval a X.env)::bJ [b] X.env:=by rfl) (sW:(backTo By (bJ [b] X.env)).any (·.1)=false:=by rfl)
  (OI:bJ [Expr.Call (.Name "zip" p2) [a,b] [] By] X.env=[(false,eval (.Call (.Name "zip" p2) [a,b] [] By) X.env)]:=by rfl) :
  PE X (.Call (.Name "dict" p1) [.Call (.Name "zip" p2) [a,b] [] By] [] pos) (tDZ X.K ta):=by
 intro ak s σ H Q I h;refine rX (qm I hgd hmd boot_dict ?_);refine Co ?_ OI rfl;rw[OI];show aC _ _ (spliced ((false,eval (.Call (.Name "zip" p2) [a,b] [] By) X.env)::[])) _ _ s;refine My ?_;refine rX (qm I hgz hmz boot_zip ?_);refine Co (gA (ha By ak s σ H _ I h) fun us s1 jz=>?_) hs sW;refine b7 jz fun vs H1 I1 r1 q1=>?_;clear jz;refine Rb q1 fun p q l nM hp hq ht nd fin=>?_;clear q1;obtain rfl:=nM;cases r1 with
 | cons rp t1=>
  cases t1 with
  | cons rq t2=>
   cases t2;cases rp;cases rq;refine bK (I1.list hp) fun aN1 rv1 pl1 hz1=>?_;refine bK (I1.list hq) fun Sv rv2 pl2 hz2=>?_;rw[show(l.map fun z=>V.ref z.2.1)=(l.map fun z=>z.2.1).map V.ref by rw[cU];rfl]at rv1;rw[show(l.map fun z=>V.int z.2.2)=(l.map fun z=>z.2.2).map V.int by rw[cU];rfl]at rv2;have e1:=Dt rv1;refine aL (Ds rv2) fun ts hts e2=>?_;subst e1 e2;have lt1:p<s1.heap.objs.size:=by obtain⟨o,e,_⟩:=pl1.isList;exact bQ e
   have lt2:q<s1.heap.objs.size:=by obtain⟨o,e,_⟩:=pl2.isList;exact bQ e
   refine call_zip_2 pl1.isList pl2.isList fun h' hz SV QY Ke EH hsz hk=>?_;refine Mx ?_;have lt:∀b o,s1.heap.get? b=some o->b<s1.heap.objs.size:=fun b o e=>bQ e;let ps:List DP:=(l.zip ts).map fun z=>(z.1.1,z.1.2.1,z.1.2.2,z.2)
   have pl':ps.map (fun p=>(p.1,p.2.1,p.2.2.1))=l:=by
    show((l.zip ts).map _).map _=l;rw[cU];have:(l.zip ts).map (fun p=>p.1)=l:=Mc (by rw[hts,bL];exact b9 _);conv=>rhs;rw[<- this]
    rfl
   have hdx:Dz.pairUp (l.map fun z=>([z.1.1,z.1.2],z.2.1)) (((l.map fun z=>z.2.2).zip ts).map fun p=>uy p.1 p.2)=P6 ps:=by
    unfold Dz.pairUp P6;show _=((l.zip ts).map _).map _;rw[List.zip_map,cU,cU];have key:∀(l:List ((Int×Int)×av×Int)) (ts:List Tok),(l.zip ((l.map fun z=>z.2.2).zip ts)).map ((fun p=>(p.1.1,p.1.2,p.2))∘Prod.map (fun z=>([z.1.1,z.1.2],z.2.1)) fun p=>uy p.1 p.2)=(l.zip ts).map ((fun p=>([p.1.1,p.1.2],p.2.1,uy p.2.2.1 p.2.2.2))∘fun z=>(z.1.1,z.1.2.1,z.1.2.2,z.2)):=by
     intro l;induction l with
     | nil=>intro ts;rfl
     | cons z l ih=>
      intro ts;cases ts with
      | nil=>rfl
      | cons t ts=>simp only[bh,sG];rw[ih ts];rfl
    exact key l ts
   refine Dz.Kg (kd:=intKind X.prog X.w) (h0:=s1.heap) (j7:=l.map fun z=>([z.1.1,z.1.2],z.2.1)) (vs:=((l.map fun z=>z.2.2).zip ts).map fun p=>uy p.1 p.2) (I1.ok.hd hc) (zipApart_new lt1 lt2) hu (fun i=>?_) (fun i=>?_) ?_ ?_ (fun k QX=>?_) ?_ (fun b o e=>?_) hz ⟨SV,Ke,EH,pl1.isList.at fun o e=>hk _ _ e,pl2.isList.at fun o e=>hk _ _ e,.inl ⟨hz,_,_,QY⟩⟩ hk fun h2 tk k2 dd=>?_;rw[Me,cG,cG,cG];cases l[i]? <;> rfl;rw[Me];simp[hts];rw[bL];simpa using hz1;refine aL (aX.mp QX) fun z hz' aT=>?_;walk_at"c";exact wL I1 (ht z hz');rw[cU];have:(l.map fun z=>[z.1.1,z.1.2])=(l.map (·.1)).map fun z=>[z.1,z.2]:=by rw[cU];rfl
   show(l.map fun z=>[z.1.1,z.1.2]).Nodup;rw[this];rw[nE]at nd ⊢;refine nJ _ (fun a b rT e=>rT ?_) nd;injection e with e1 e2;injection e2 with e2 _;exact ju e1 e2;have:=lt b o e;exact⟨cu (gV this (nv _ 4)),cu (gV this (nv _ 3)),cu this,cu (gV this (nv _ 1))⟩;rw[hdx]at dd;have dx:=DX.of dd;refine⟨.ref h'.objs.size,_,I1.laid (a:=h'.objs.size) (o:=.ext (DX h'.objs.size ps)) (h':=h2) (t':=tk) (fun b o e=>k2 b o e) (by rw[hsz];lia) ⟨dx,?_,fun h1 h3 q k3=>q.keep k3⟩,rfl,fin _ ps (I1.dX.fresh (by rw[hsz];lia)) pl'⟩;refine Cp dx fun o _ _ e _=>?_;clear dx;exact⟨o,e⟩
end
end Dm
end ar9
section aN2
namespace Hk
open PySem
section
variable {K:Type}[DecidableEq K](kh:HeapKind prog w K)
def Refs(h:aN):List K->List au->Prop
 | [],vs=>vs=[]
 | k::ks,vs=>∃a r,vs = .ref a::r/\kh.is h k a/\Refs h ks r
def rm(h:aN)(ks:List K)(a:av):Prop:=∃o b6 n,h.get? a=some o/\o.cls = .type "tuple" /\o.data = .seq b6 n/\Refs kh h ks b6.toList
def Hl(ks:List K):Int:=reduceHash (Ay (ks.map kh.hash))
def fQ:List K->Nat
 | []=>0
 | k::ks=>kh.draws k+fQ ks
variable {kh}
theorem Refs.inj:∀{x y:List K} {vs:List au},Refs kh h x vs->Refs kh h y vs->x=y
 | [],[],_,_,_=>rfl
 | [],_::_,_,e,⟨_,_,z,_⟩=>by rw[Refs]at e;rw[e]at z;cases z
 | _::_,[],_,⟨_,_,z,_⟩,e=>by rw[Refs]at e;rw[e]at z;cases z
 | _::_,_::_,_,⟨_,_,z,p,r⟩,⟨_,_,z',p',r'⟩=>by rw[z]at z';cases z';rw[kh.inj p p',r.inj r']
theorem Refs.keeps{h:aN}{es ep}(ho:h.get? d=some o)(hd:o.data = .dict es ep)(hs:jh d h h'):∀{x:List K} {vs:List au},Refs kh h x vs->Refs kh h' x vs
 | [],_,e=>e
 | _::_,_,⟨a,r,z,p,q⟩=>⟨a,r,z,kh.keeps p ho hd hs,q.keeps ho hd hs⟩
theorem zD:∀(x y:List K),fQ kh (x++y)=fQ kh x+fQ kh y
 | [],y=>by rw[fQ,vm];rfl
 | k::x,y=>by rw[Af,fQ,fQ,zD x y,vn]
theorem rm.tuple{s:ay}(x:rm kh s.heap ks a):s.TypeIs (.ref a) "tuple":=x.elim fun o z=>z.elim fun _ z=>z.elim fun _ z=>⟨o,z.1,z.2.1⟩
theorem rm.inj(hx:rm kh h x a)(hy:rm kh h y a):x=y:=by
 obtain⟨o,b6,n,e,_,d,r⟩:=hx;obtain⟨o',its',n',e',_,d',r'⟩:=hy;rw[e]at e';cases e';rw[d]at d';cases d';exact r.inj r'
theorem rm.keeps{es ep}(x:rm kh h ks a)(ho:h.get? d=some o)(hd:o.data = .dict es ep)(hs:jh d h h'):rm kh h' ks a:=by
 obtain⟨u,b6,n,e,c,q,r⟩:=x;refine⟨u,b6,n,(hs.2 a fun z=>?_).trans e,c,q,r.keeps ho hd hs⟩;rw[z,ho]at e;cases e;rw[hd]at q;cases q
def T5{Q:Int->ay->Prop}(hu:A.units<cLine)(hr:kh.room A.in1)(hk:rm kh s.heap ks a)(h:Q (Hl kh ks) {s with toks:=s.toks+(fQ kh ks+1)}):aC (aF prog w) A (pyHash (.ref a)) Q E s:=by
 have hT:=hk.tuple;have sl:=MP;obtain⟨o,b6,n,ho,_,hd,hi⟩:=hk;(unfold pyHash);(first|unfold pyHashByItsType|skip);(first|refine aq (wpAny_cRoomFor_or (.inr hu) ?_)|skip);(refine aq (sj hT sl.lookup ?_));(show aC _ _ (if(some (Value.builtin "tuple.__hash__")==some gR)=true then _ else _) Q E s);(rw[aU4 (by rw[beq_builtin_none];exact iW)]);(refine aq (sj hT sl.lookup ?_));(show aC _ _ (callSpecialIfBoundUnlessNone? (.ref a) "__hash__" _>>=_) Q E s);refine aq (wpAny_callSpecialIfBoundUnlessNone?_slot hT sl (jM sl hT F.entry_tuple_hash ?_ (F.args_tuple_hash_1 _)));(show aC _ _ (Builtin.Tuple.tupleItemsOf (.ref a)>>=_) _ _ s);(refine aq (F0 ho hd (aq ?_)));(rw[<- sM]);refine q8 _ (fun rest (b:Array Int) s'=>∃x y,ks=x++y/\Refs kh s.heap y rest/\b.toList=x.map kh.hash/\s'={s with toks:=s.toks+fQ kh x}) _ ?_ ?_ _ _ ⟨[],ks,rfl,hi,rfl,rfl⟩;rintro v rest b s' ⟨x,y,rfl,hl,hb,rfl⟩;cases y with
 | nil=>rw[Refs]at hl;cases hl
 | cons k y=>
  obtain⟨c,r,z,p,q⟩:=hl;cases z;have e:fQ kh (x++[k])=fQ kh x+kh.draws k:=by rw[zD];rfl
  have nx:∃x' y',x++k::y=x'++y'/\Refs kh s.heap y' rest/\(b.push (kh.hash k)).toList=x'.map kh.hash/\({s with toks:=s.toks+fQ kh x+kh.draws k}:ay)={s with toks:=s.toks+fQ kh x'}:=⟨x++[k],y,by simp,q,by simp[hb],by rw[e,vn]⟩
  refine aq (kh.pyHash (s:={s with toks:=s.toks+fQ kh x}) hr p ?_);first
   | exact aG nx
   | exact aq (aG (aG nx))
 rintro b s' ⟨x,y,rfl,hl,hb,rfl⟩;cases y with
 | cons k y=>obtain⟨_,_,z,_⟩:=hl;cases z
 | nil=>rw[qc]at h;(show aC _ _ (retInt (Ay b.toList)) _ _ _);(rw[hb]);(refine wpAny_ret_mkInt ?_);show aC _ _ (if(decide (-(2:Int) ^ 63<=Ay (x.map kh.hash))&&decide (Ay (x.map kh.hash)<2 ^ 63))=true then _ else _) Q E _;unfold Hl reduceHash at h;split;rename_i c;rw[aU3 c]at h;exact aG (by simpa[vn]using h);rename_i c;rw[aU4 c]at h;exact aq (yM (aG (by simpa[vn]using h)))
def as1{P:Fin->ay->Prop}(hr:kh.room A)(hx:rm kh s.heap x a)(hy:rm kh s.heap y b)(h:P (.done (.ret (.bool (decide (x=y))))) s):aC (aF prog w) A (Builtin.«tuple.__eq__» ⟨[.ref a,.ref b],[]⟩) P E s:=by
 have hT:=hy.tuple;obtain⟨oa,us,na,ea,_,da,ra⟩:=hx;obtain⟨ob,vs,nb,eb,_,db,rb⟩:=hy;(show aC _ _ (isInstance (.ref b) (.type "tuple")>>=_) _ _ s);(refine aq (sf hT LF ?_));(simp only[j3,cJ,aV1]);refine aq (F0 ea da (aq (F0 eb db (aq ?_))));refine q8 _ (fun rest r s'=>r.1=none/\s'=s/\∃x' y' us' vs',rest=List.zip us' vs'/\Refs kh s.heap x' us'/\Refs kh s.heap y' vs'/\decide (x'=y')=decide (x=y)/\(us'.length==vs'.length)=(us.size==vs.size)) _ ?_ ?_ _ _ ⟨rfl,rfl,x,y,us.toList,vs.toList,rfl,ra,rb,rfl,by simp⟩;rintro⟨u,v⟩ rest r s' ⟨OJ,rfl,x',y',us',vs',hz,qO,QZ,T6,hlen⟩;cases x' with
 | nil=>rw[Refs]at qO;subst qO;simp at hz
 | cons k1 x1=>
  obtain⟨c1,r1,z1,p1,q1⟩:=qO;subst z1;cases y' with
  | nil=>rw[Refs]at QZ;subst QZ;simp at hz
  | cons k2 y1=>obtain⟨c2,r2,z2,p2,q2⟩:=QZ;subst z2;rw[sG]at hz;cases hz;refine aq (kh.eqBool (x:=k1) (y:=k2) hr p1 p2 ?_);by_cases hk:k1=k2;subst hk;(rw[aU5 rfl]);(simp only[j3,cJ,aV1]);exact aG ⟨rfl,rfl,x1,y1,r1,r2,rfl,q1,q2,by rw[<- T6];simp,by simpa using hlen⟩;(rw[aU6 hk]);(simp only[FT,aV2]);rw[show decide (x=y)=false by rw[<- T6];simp[hk]]at h;exact aq (aG (aG (aG h)))
 rintro⟨r1,r2⟩ s' ⟨OJ,rfl,x',y',us',vs',hz,qO,QZ,T6,hlen⟩;dsimp only at OJ;subst OJ;refine aG ?_;have e:(us.size==vs.size)=decide (x=y):=by
  rw[<- T6,<- hlen];cases x' with
  | nil=>
   rw[Refs]at qO;subst qO;cases y' with
   | nil=>rw[Refs]at QZ;subst QZ;rfl
   | cons k2 y1=>obtain⟨c2,r2,rfl,_⟩:=QZ;simp
  | cons k1 x1=>
   obtain⟨c1,r1,rfl,_⟩:=qO;cases y' with
   | nil=>rw[Refs]at QZ;subst QZ;simp
   | cons k2 y1=>obtain⟨c2,r2,rfl,_⟩:=QZ;simp at hz
 show P (.done (.ret (.bool (us.size==vs.size)))) s';rw[e];exact h
def Kh{Q:Bool->ay->Prop}(hu:A.units<cLine)(hr:kh.room A.in1)(hx:rm kh s.heap x a)(hy:rm kh s.heap y b)(h:Q (decide (x=y)) s):aC (aF prog w) A (eqBool (.ref a) (.ref b)) Q E s:=by
 (unfold eqBool);(try with_reducible refine jg ?_);(show aC _ _ (if(f7 a==f7 b)=true then _ else _) Q E s);by_cases c:(f7 a==f7 b)=true;rw[aU3 c];cases eq_of_beq c;obtain rfl:=hx.inj hy;exact aq (yM (aG (by simpa using h)));(rw[aU4 c]);(refine aq (wpAny_richCompare_same_room (op:=.Eq) hx.tuple hy.tuple FY (jM FY hx.tuple F.entry_tuple_eq (as1 hr hx hy ⟨_,rfl,(fun e=>nomatch e),vc h⟩) (F.args_tuple_eq_2 _ _)) hu))
def Du{Q:Bool->ay->Prop}(ho:s.heap.get? a=some o)(hc:o.cls = .type "tuple")(hd:o.data = .seq b6 m)(q:∀v∈b6.toList,∀{A:bP} {R:Bool->ay->Prop},R true s->aC (aF prog w) A (eqIsQuiet n v) R E s)(h:Q true s):aC (aF prog w) A (eqIsQuiet (n+1) (.ref a)) Q E s:=by
 have hT:s.TypeIs (.ref a) "tuple":=⟨o,ho,hc⟩
 (unfold eqIsQuiet);(refine aq (sj hT FY.lookup ?_));(show aC _ _ (isInstance (.ref a) (.type "tuple")>>=_) _ _ s);(refine aq (sf hT LF ?_));(simp only[j3,cJ,aV1]);(refine aq (su ho hd (aq ?_)));(show aC _ _ (forIn b6 _ _) _ _ s);(rw[<- sM]);refine q8 _ (fun rest r s'=>r.1=none/\s'=s/\∀v∈rest,v∈b6.toList) _ ?_ ?_ _ _ ⟨rfl,rfl,fun _ m=>m⟩;rintro v rest r s' ⟨hr,rfl,pN⟩;(refine aq (q v (pN v (.head _)) ?_));(simp only[j3,cJ,aV1]);exact aG ⟨rfl,rfl,fun u m=>pN u (.tail _ m)⟩;rintro⟨r1,r2⟩ s' ⟨hr,rfl,_⟩;dsimp only at hr;subst hr;exact aG h
end
theorem Refs.mem{prog:cP}{w:bF}{K:Type}[DecidableEq K]{kh:HeapKind prog w K}{h:aN}:∀{ks:List K} {vs:List au} {v:au},Refs kh h ks vs->v∈vs->∃k a,v = .ref a/\kh.is h k a
 | [],_,_,e,m=>by rw[Refs]at e;rw[e]at m;cases m
 | k::ks,_,v,⟨a,r,z,p,q⟩,m=>by
  rw[z]at m;rcases bD.mp m with rfl|m;exact⟨k,a,rfl,p⟩;exact q.mem m
def mE{prog:cP}{w:bF}{K:Type}[DecidableEq K](knd:KeyKind prog w K):HeapKind prog w (List (List K)) where
 is:=rm (tupleKind knd)
 hash:=Hl (tupleKind knd)
 draws:=fun ks=>fQ (tupleKind knd) ks+1
 room:=fun A=>A.units+1<cLine
 inj:=fun hx hy=>hx.inj hy
 keeps:=fun x ho hd hs=>x.keeps ho hd hs
 pyHash:=fun hu hk h=>T5 (LR hu) hu hk h
 eqBool:=fun hu hx hy h=>Kh (LR hu) hu hx hy h
 quiet:=fun {A E s k a Q} hk h=>by
  obtain⟨o,b6,n,ho,hc,hd,hi⟩:=hk;refine Du (n:=7) ho hc hd (fun v m A' R hR=>?_) h;obtain⟨k1,c,rfl,o1,aN1,n1,ho1,hc1,hd1,hi1⟩:=hi.mem m;refine Du (n:=6) ho1 hc1 hd1 (fun v m A'' R' hR'=>?_) hR;rw[eqIsQuiet_byValue _ (hi1.byValue v m)];exact aG hR'
end Hk
end aN2
section as2
namespace Dm
open PySem PySem.Spec PyProof.Rows L2
abbrev SP:=List (List Int)×av×au
def DY(a:av)(o:Obj)(ps:List SP)(h:aN):Prop:=(a==tX)=false/\ps.length<=bO/\h.get? a=some o/\o.ExactDict/\∃es ep,o.data = .dict es ep/\(∀(P:cP) (w:bF),es.toList=ps.map (Cg (Hk.mE (intKind P w))))/\(ps.map (·.1)).Nodup
def oJ(K:aD)(H:Hp)(ks:List (List Int))(a:av):Prop:=∃cs:List av,jA K H a (cs.map V.ref)/\cs.length=ks.length/\∀z∈ks.zip cs,jA K H z.2 (z.1.map V.int)
def qv(ps:List SP)(vs:List V):List V:=(ps.zip vs).flatMap fun z=>[.ref z.1.2.1,z.2]
def DYo(K:aD)(F H:Hp)(a:av)(xs:List V):Prop:=∃o ps vs,xs=qv ps vs/\Vals vs (ps.map (·.2.2))/\H a=some (.ext (DY a o ps))/\(∀p∈ps,oJ K F p.1 p.2.1)/\∀l,V.ref l∈vs->∃ys,F l=some (.lst ys)
def oJ.mono{K:aD}{H H':Hp}{ks:List (List Int)}{a:av}(e:aI H H')(h:oJ K H ks a):oJ K H' ks a:=by
 refine bK h fun cs h1 h2 h3=>?_;exact⟨cs,aI.tup e h1,h2,fun z m=>aI.tup e (h3 z m)⟩
theorem DYo.mono{K:aD}{F F' H H':Hp}{a:av}{xs:List V}(f:aI F F')(e:H' a=H a)(h:DYo K F H a xs):DYo K F' H' a xs:=by
 refine AB h fun o ps vs h1 h2 h3 h4 h5=>?_;exact⟨o,ps,vs,h1,h2,e.trans h3,fun p m=>(h4 p m).mono f,fun l m=>let⟨ys,q⟩:=h5 l m;⟨ys,f _ _ q⟩⟩
def DY.of{ps:List SP}{h:aN}(z:(a==tX)=false)(hl:ps.length<=bO)(q:h.DictOfH (Hk.mE (intKind P w)) a ps):∃o,DY a o ps h:=by
 refine Rb q fun o es ep h1 h2 h3 h4 _ h6=>?_;exact⟨o,z,hl,h1,h2,es,ep,h3,fun P' w'=>h4,h6⟩
def DY.dict(q:DY a o ps h)(k:∀p∈ps,(Hk.mE (intKind P w)).is h p.1 p.2.1):h.DictOfH (Hk.mE (intKind P w)) a ps:=by
 obtain⟨_,_,h1,h2,es,ep,h3,h4,h6⟩:=q;exact⟨o,es,ep,h1,h2,h3,h4 P w,k,h6⟩
def DY.keep{h':aN}(q:DY a o ps h)(e:∀o,h.get? a=some o->h'.get? a=some o):DY a o ps h':=⟨q.1,q.2.1,e o q.2.2.1,q.2.2.2⟩
def VR(q:DY a o ps h):i0 P w H h a (.ext (DY a o ps)):=⟨q,⟨o,q.2.2.1⟩,fun h1 h2 z e=>z.keep e⟩
section
def P7(I:L2.Inv X ak σ H s){ns:List Int}(h:jA X.K H a (ns.map V.int)):(tupleKind (intKind X.prog X.w)).is s.heap ns a:=by
 refine bK (I.tuple h) fun b6 rv aT hsz=>?_;clear hsz;obtain⟨o,e,hc,n,hd⟩:=aT;refine⟨o,b6.toArray,n,e,hc,hd,?_⟩;show ItemsAre _ ns b6;clear h e hd;induction ns generalizing b6 with
 | nil=>cases rv;exact .nil
 | cons i ns ih=>
  cases rv with
  | cons r1 t1=>obtain⟨t,rfl⟩:=r1;exact .cons (by simp[intKind,Value.isInt]) (ih _ t1)
def wM(I:L2.Inv X ak σ H s)(h:oJ X.K H ks a):(Hk.mE (intKind X.prog X.w)).is s.heap ks a:=by
 refine bK h fun cs h1 h2 h3=>?_;refine bK (I.tuple h1) fun b6 rv aT hsz=>?_;clear hsz;obtain⟨o,e,hc,n,hd⟩:=aT;refine⟨o,b6.toArray,n,e,hc,hd,?_⟩;show Hk.Refs _ s.heap ks b6;clear h h1 e hd;induction ks generalizing cs b6 with
 | nil=>
  cases cs with
  | nil=>cases rv;exact rfl
  | cons c cs=>cases h2
 | cons k ks ih=>
  cases cs with
  | nil=>cases h2
  | cons c cs=>
   cases rv with
   | cons r1 t1=>cases r1;exact⟨c,_,rfl,P7 I (h3 (k,c) (.head _)),ih cs (by simpa using h2) (fun z m=>h3 z (.tail _ m)) _ t1⟩
def IY(I:L2.Inv X ak σ H s)(ha:H a=some (.ext (DY a o ps)))(hk:∀p∈ps,oJ X.K H p.1 p.2.1):s.heap.DictOfH (Hk.mE (intKind X.prog X.w)) a ps/\(a==tX)=false/\ps.length<=bO:=by
 refine qH ((show i0 X.prog X.w H s.heap a (.ext (DY a o ps))from I.dX a _ ha)) fun dx _ _=>?_;exact⟨dx.dict fun p m=>wM I (hk p m),dx.1,dx.2.1⟩
end
end Dm
end as2
section aN3
namespace Dm
open PySem PySem.Spec PyProof.Rows L2 PySem.W
def dw(Cb:av)(gl:GL):Cfg where
 gl:=gl.p
 glM:=gl.m
 ob:=fun t K H a vs=>((t=0/\∃dx fs l,H a=some (.ins Cb dx fs)/\fs.lookup ("cells" : Str)=some (.ref l)/\H l=some (.lst vs))\/(∃c,t=OS c/\((vs=[]/\H a=some (.ext (ClsAt a (.ref c))))\/∃n dx,vs=[.int n]/\H a=some (.ext (NP a c dx))/\H dx=some (.xd [("at",.int n)]))))\/(t=1/\T4 K H a vs)\/(t=2/\DYo K H H a vs)
 mono:=fun {t K H H' a vs} e h=>by
  rcases h with(⟨h0,dx,fs,l,h1,h2,h3⟩|⟨c,h0,⟨h1,h2⟩|⟨n,dx,h1,h2,h3⟩⟩)|⟨h0,h1⟩|⟨h0,h1⟩;exact .inl (.inl ⟨h0,dx,fs,l,e _ _ h1,h2,e _ _ h3⟩);exact .inl (.inr ⟨c,h0,.inl ⟨h1,e _ _ h2⟩⟩);exact .inl (.inr ⟨c,h0,.inr ⟨n,dx,h1,e _ _ h2,e _ _ h3⟩⟩);exact .inr (.inl ⟨h0,h1.mono e⟩);exact .inr (.inr ⟨h0,h1.mono e (by
   refine AB h1 fun o ps vs _ _ z _ _=>?_;exact(e _ _ z).trans z.symm)⟩)
 own:=DYo
 IC:=fun f e h=>h.mono f e
 VI:=fun h f e=>.inr (.inr ⟨rfl,h.mono f e⟩)
 ao5:=fun h=>by
  refine AB h fun o ps vs _ _ z _ _=>?_;exact⟨_,z⟩
section
def cR:D->R D:=fun a=>match a with | .dH 0 ds=>if cV ds=true then .ok (.lst ds)else .bad|_=>.bad
def Kl{a d:D}(h:cR a = .ok d):∃ds,a = .dH 0 ds/\cV ds=true/\d = .lst ds:=by
 unfold cR at h;split at h;split at h;rename_i n;cases h;exact⟨_,rfl,n,rfl⟩;cases h;cases h
def Km{a:D}{c:av}{p:Option Int}:cR a≠ .ex c p:=by
 unfold cR;split;split <;> exact fun h=>(by cases h)
 exact fun h=>(by cases h)
def Kn{K:Frag}{H:Hp}{ds:List D}{x:V}(n:cV ds=true)(q:Rep K (dw Cb gl) H (.dH 0 ds) x):∃a dx fs l,x = .ref a/\H a=some (.ins Cb dx fs)/\fs.lookup ("cells" : Str)=some (.ref l)/\Rep K (dw Cb gl) H (.lst ds) (.ref l):=by
 rw[Rep]at q;refine b7 q fun a xs aT h2 h3=>?_;clear q;walk_at"c";rcases h2 with(⟨_,dx,fs,l,h4,h5,h6⟩|⟨c,z,_⟩)|⟨z,_⟩|⟨z,_⟩;refine⟨a,dx,fs,l,rfl,h4,h5,?_⟩;rw[Rep];exact⟨l,xs,rfl,.of h6,h3.part (.er fun b m=>by rw[eG.mp m];exact⟨_,h6,rfl⟩) _ n⟩;unfold OS at z;lia;cases z;cases z
def P8(hC:Lh X.K Cb)(hA:jv X.K Cb "cells")(ha:PE X a (tD X.K (dw Cb gl) G0 Γ E fa fL))(hb:rW a ("cells" : Str) X.env (eval a X.env)=eval a X.env:=by rfl):PE X (.Attribute a "cells" pos) (tD X.K (dw Cb gl) G0 Γ E (lV cR fa) fL.item):=(WL ha hb).imp fun σ H Q zz=>by
 walk_at"a";unfold lV R.bind at q;cases ha:fa st with
 | bad=>rw[ha]at q;exact q
 | ex c p=>rw[ha]at q;exact q
 | ok a=>
  rw[ha]at q;dsimp only at q;intro x H1 e1 w1;cases hg:cR a with
  | bad=>rw[hg]at q;exact q.elim
  | ex c p=>exact aV5 hg Km
  | ok d=>
   rw[hg]at q;refine bK (Kl hg) fun ds fW n nM=>?_;obtain rfl:=fW;obtain rfl:=nM;have fin:∀G:Hp,aI G H1->Rep X.K (dw Cb gl) G (.dH 0 ds) x->(∀v,Rep X.K (dw Cb gl) G (.lst ds) v->Val X.K (dw Cb gl) fL.item G0 A H H1 (.lst ds) v)->∃a C dx fs v,x = .ref a/\H1 a=some (.ins C dx fs)/\Lh X.K C/\jv X.K C "cells" /\fs.lookup ("cells" : Str)=some v/\Q v H1:=fun G e qa k=>by refine Wf (Kn n qa) fun a dx fs l yb h1 h2 h3=>?_;obtain rfl:=yb;exact⟨a,Cb,dx,fs,.ref l,rfl,e _ _ h1,hC,hA,h2,q _ _ e1 (k _ h3)⟩
   cases fL with
   | new=>exact fin _ (aJ _ _) (w1.le r e1 (κ':=.old) rfl) fun v z=>z
   | pB=>exact fin _ (aJ _ _) (w1.le r e1 (κ':=.old) rfl) fun v z=>z
   | loc=>exact fin _ (aJ _ _) (w1.le r e1 (κ':=.old) rfl) fun v z=>z
   | old=>exact fin _ (aJ _ _) w1 fun v z=>z
   | uU=>exact fin _ (.refl _) w1.rep fun v z=>z
   | fD=>exact fin _ (.refl _) w1 fun v z=>z
def BA(K:Frag)(Cb:av)(gl:GL)(Fc:List D->R D):Sp:=fun vs H Q E=>∃x dx ds v,vs=[.ref x,v]/\H x=some (.ins Cb dx [])/\(Rep K (dw Cb gl) H (.lst ds) v/\gl.p H)/\match Fc [.lst ds]with
 | .ok _=>cV ds=true/\∀l H' ys,H l=none->(∀b o,b≠x->H b=some o->H' b=some o)->H' x=some (.ins Cb dx [("cells",.ref l)])->H' l=some (.lst ys)->aH K (dw Cb gl) H' ds ys->Q .cH H'
 | .ex c p=>∀H',aI H H'->IE E c p H'
 | .bad=>False
def T7{P:cP}{w:bF}{K:Frag}{mg:Str->Option au}{base:aN}{x qual:Str}{st:aW}{f:av}{fd:eZ}{k:Nat}{Fc:List D->R D}(F:Im K x qual st f fd)(S:gx ["self","cells"] ["self","cells"] (aO st))(hC:Lh K Cb)(hA:jv K Cb "cells")
  (qQ:∀(ck:au) (A:bP) (outer:List Env) (s:ay) (H:Hp) (E:XK),i7 k (A.deeper (envOfC qual (aO st) s.heap.objs.size f ck))->
   mZ ((ji (kC P w) P w K mg base ["self","cells"] qual (aO st) f ck A outer s H E).cK (jw (ji (kC P w) P w K mg base ["self","cells"] qual (aO st) f ck A outer s H E) fun _=>E)) (dJ st)
    (ac6 (Vq (tD K (dw Cb gl) H [.par,.par] (fun _=>E) (aY Fc (aa (ah 1) ao)) κ)) (ag8 K (qM 0) (tD K (dw Cb gl) H [.par,.par] (fun _=>E) (aY jl (aa (ah 1) ao)) .new) "cells"))) :
  j4 P w K mg base (kC P w) (k+1) f fd ["self","cells"] (BA K Cb gl Fc):=by
 refine za F S (fun vs H Q E jz=>by obtain⟨x,dx,ds,v,h,_⟩:=jz;rw[h];rfl) fun ck _ A outer s H vs Q E hr n8=>?_;refine Wf n8 fun x dx ds v hvs hx hd q=>?_;clear n8;subst hvs;have r0:RS K (dw Cb gl) H [.par,.par] [some (.ref x),some v] H [] [none,some (.lst ds)]:=⟨by rw[jx];exact .refl _,fun a m=>(by cases m),rfl,fun i d h=>(by
  match i,h with
  | 1,h=>cases h;exact⟨.par,v,rfl,rfl,by show Rep _ _ (er H []) _ _;rw[jx];exact hd.1⟩),fun i j n m p ds es pM g1=>(by
  match i,g1 with
  | 0,g1=>cases g1
  | 1,g1=>cases g1),hd.2⟩
 refine⟨_,qQ ck A outer s H E hr,[],[none,some (.lst ds)],r0,?_⟩;have hf:aY Fc (aa (ah 1) ao) [none,some (.lst ds)]=Fc [.lst ds]:=rfl;rw[hf];cases hF:Fc [.lst ds]with
 | bad=>rw[hF]at q;exact q
 | ex c p=>rw[hF]at q;exact q
 | ok d0=>
  rw[hF]at q;obtain⟨n,q⟩:=q;intro v1 H1 e1 w1;refine⟨[],[none,some (.lst ds)],r0.mono e1,?_⟩;have hg:aY jl (aa (ah 1) ao) [none,some (.lst ds)] = .ok (.lst ds):=by show jl [.lst ds]=_;unfold jl;dsimp only;rw[aU3 n]
  rw[hg];intro y H2 e2 w2;refine bK (w2.2.1 rfl) fun l aT nl ow=>?_;refine aL ow fun ys hl rl=>?_;walk_at"c";have XU:H2 l=some (.lst ys):=cT _ _ _ _ hl;have ug:=e1.trans e2;have Iz:H2 x=some (.ins Cb dx []):=ug _ _ hx;have nlx:l≠x:=fun z=>by rw[z,e1 _ _ hx]at nl;cases nl
  refine⟨.ref x,rfl,x,Cb,dx,[],rfl,Iz,hC,hA,by show 0<1000;decide,?_⟩;have keep:aI (er H2 [x]) (upd H2 x (.ins Cb dx (nO "cells" (.ref l) []))):=fun b o z=>by by_cases hb:b=x;rw[hb,dP (.head _)]at z;cases z;rw[bq hb];rw[aZ (by simpa using hb)]at z;exact z
  refine q l _ ys (e1.free nl) (fun b o hb z=>by rw[bq hb];exact ug _ _ z) cA (by rw[bq nlx];exact XU) ?_;have rl2:aH K (dw Cb gl) H2 ds ys:=rl.same ((aJ _ _).trans (cT _ _)) _;refine aH.same keep _ (rl2.part ⟨aJ _ _,fun b xs z=>?_⟩ _ n);unfold Rd;have:b≠x:=fun w=>by subst w;rcases z with z|⟨o,z⟩;rw[Iz]at z;cases z;rw[Iz]at z;cases z
  rw[aZ (by simpa using this)];exact z
def qw(Fc:List D->R D):List D->R D:=fun ds=>match ds with
 | [.lst es]=>(match Fc [.lst es]with | .ok _=>if cV es=true then .ok (.dH 0 es)else .bad | .ex c p=>.ex c p | .bad=>.bad)
 | _=>.bad
def P9{X:Cx}(M:Mk X.K Cb fi)(Fn:j4 X.prog X.w X.K X.mg X.base (kC X.prog X.w) k fi fd ["self","cells"] (BA X.K Cb gl Fc))(hr:i7 (k+1) X.A)(hm:X.mg x=some (.ref Cb))(hb:Binds X.K fd ["self","cells"] [])
  (ha:PA (X.cK (jw X E)) [e] (Bg X.K (dw Cb gl) G0 Γ E fs κ)) (hg:Gl X x:=by rfl) (Gv:(x==("__debug__" : Str))=false:=by decide) (he:bJ [e] X.env=[(false,eval e X.env)]:=by rfl) :
  PE (X.cK (jw X E)) (.Call (.Name x p) [e] [] pos) (tD X.K (dw Cb gl) G0 Γ E (aY (qw Fc) fs) .new):=(NN M Fn hr hg hm hb ha Gv he).imp fun σ H Q zz=>by
 walk_at"a";unfold aY R.bind at q;cases hf:fs st with
 | bad=>walk_at"b"
 | ex c p=>walk_at"b"
 | ok ds=>
  rw[hf]at q;dsimp only at q;intro vs H1 e1 w1 y dx hy hdx Lm;have s0:aI H1 (upd (upd H1 dx (.own y)) y (.ins Cb dx [])):=fun b o z=>by rw[bq (bG z hy),bq (bG z hdx)];exact z
  match ds,q,w1 with
  | [.lst es],q,w1=>
   refine aL (iY w1) fun v fW wv=>?_;obtain rfl:=fW;refine⟨y,dx,es,v,rfl,cA,⟨(wv.same Kd.wA _).same s0 _,gl.m ((r.g0.trans e1).trans s0) r.gl⟩,?_⟩;unfold qw at q;dsimp only at q;cases hF:Fc [.lst es]with
   | bad=>rw[hF]at q;exact q
   | ex c p=>rw[hF]at q;exact fun H' e'=>q H' ((e1.trans s0).trans e')
   | ok d0=>rw[hF]at q;dsimp only at q;by_cases n:cV es=true;rw[aU3 n]at q;refine⟨n,fun l H' ys nl kp qO y9 rp=>⟨rfl,?_⟩⟩;have e':aI H1 H':=fun b o z=>kp b o (bG z hy) (s0 b o z);have eH:=e1.trans e';have hy0:H y=none:=e1.free hy;have Xj:H l=none:=e1.free (s0.free nl);refine q _ _ eH ⟨?_,.not rfl rfl⟩;rw[Rep];refine⟨y,ys,rfl,.inl (.inl ⟨rfl,dx,_,l,by rw[k7 hy0];exact qO,rfl,by rw[k7 Xj];exact y9⟩),rp.part (.nw eH) _ n⟩;rw[aU4 n]at q;exact q.elim
  | [],q,_=>exact q.elim
  | [.cH],q,_=>exact q.elim
  | [.bl _],q,_=>exact q.elim
  | [.int _],q,_=>exact q.elim
  | [.str _],q,_=>exact q.elim
  | [.tup _],q,_=>exact q.elim
  | [.dH _ _],q,_=>exact q.elim
  | d1::d2::dr,q,_=>
   have:qw Fc (d1::d2::dr) = .bad:=by unfold qw;cases d1 <;> rfl
   rw[this]at q;exact q.elim
end
section
variable {X:Cx}{e:bf}{rest:List bf}{pos:Pos}{s:aW}
theorem wN:∀(es:List bf) (out:Str) (m:Nat),(∀e∈es,yj X P n e)->out.length+es.length*n<=m->m<=100000->∀(ak:List (av×Obj)) (s:ay) (σ:L2.St) (H:Hp) (Q:au->ay->Prop) (Ex:au->ay->Prop),L2.Inv X ak σ H s->P σ->(∀x t s',L2.Inv X ak σ H s'->x.length<=m->Q (.str x t) s')->aC (aF X.prog X.w) X.A (joinParts out (evalEach es X.env)) Q Ex s
 | [],out,m,_,hl,hm,ak,s,σ,H,Q,Ex,I,p,q=>joinParts_nil (q _ _ _ (I.tok _) (by simp at hl;lia)) (by rw[gC];simp at hl;lia)
 | e::es,out,m,h,hl,hm,ak,s,σ,H,Q,Ex,I,p,q=>by
  show aC _ _ (joinParts out (eval e X.env::evalEach es X.env)) Q Ex s;refine joinParts_cons (h e (.head _) ak s σ H _ Ex I p fun x t s' I' hx=>?_);have hlen:(out++x).length=out.length+x.length:=strLen_append out x;rw[cI,F8,Nat.one_mul]at hl;refine⟨by rw[hlen,gC];lia,?_⟩;exact wN es (out++x) m (fun e' m'=>h e' (.tail _ m')) (by rw[hlen];lia) hm ak s' σ H Q Ex I' p q
def Pa(h:∀e∈v1::v2::rest,yj X P n e)(hm:(v1::v2::rest).length*n<=100000):yj X P ((v1::v2::rest).length*n) (.JoinedStr (v1::v2::rest) pos):=fun ak s σ H Q Ex I p q=>
 JoinedStr_many (wN (v1::v2::rest) Str.empty _ h (by show 0+_<=_;lia) hm ak s σ H Q Ex I p q)
def all_nil:∀e∈([]:List bf),yj X P n e:=fun e h=>by cases h
def all_cons(h:yj X P n e)(t:∀e∈es,yj X P n e):∀e'∈e::es,yj X P n e':=fun e' m=>by
 rcases bD.mp m with rfl|m;exact h;exact t e' m
def eo(c:av):DS:=fun st=>.ex c none st
def Ko{X:Cx}(FB:ExcBaseFacts B newId AV bm)(hh:X.A.handled=none)(hm:X.mg x=some (.ref K0))(hc:Vz X.K K0 bm newId=true)(ha:yj (X.cK (jw X E)) (fun _=>True) n AW)(hg:Gl X x:=by rfl)
  (he:bJ [AW] X.env=[(false,eval AW X.env)]:=by rfl) (hd:(x==("__debug__" : Str))=false:=by decide) :
  PS (X.cK (jw X E)) (.Raise (some (.Call (.Name x np) [AW] [] nQ)) none pos) (jD X.K C G0 Γ E gq (eo K0)):=by
 have P1:PE (X.cK (jw X E)) AW (fun σ H Q=>∀x:Str,Q (.str x) H):=fun ak s σ H Q I q=>ha ak s σ H _ _ I trivial fun x t s' I' _=>⟨.str x,H,I',⟨t,rfl⟩,q x⟩
 refine(NJ FB hh hm hc hg (jb P1 m8 he) he rfl hd).imp fun D σ H jz=>?_;refine cj jz fun A st r q=>?_;clear jz;intro x;exact⟨oq (by show 1<=100;decide),q σ H A r (.refl _)⟩
def tyD:D->Option String
 | .cH=>some "NoneType" | .bl _=>some "bool" | .int _=>some "int" | .str _=>some "str" | .tup _=>some "tuple" | .lst _=>some "list" | .dH _ _=>none
def as3{ak:List (av×Obj)}{σ:L2.St}{H:Hp}{s:ay}{d:D}{x:V}{u c:au}{t:String}{b:Bool}{Q:au->ay->Prop}{Ex:au->ay->Prop}(I:L2.Inv X ak σ H s)(q:Rep X.K C H d x)(rx:RelV x u)(ht:tyD d=some t)(e:kitOne X.K (.type t) c=some b)(h:∀tk,Q (.bool b) {s with toks:=tk}) :
  aC (aF X.prog X.w) X.A (call (.builtin "isinstance") [u,c]) Q Ex s:=by
 cases d with
 | cH=>rw[Rep]at q;subst q;cases ht;cases(show u=gR from rx);exact sA kitx_none I.Ce True.intro e (fun z=>nomatch z) h
 | bl y=>rw[Rep]at q;subst q;cases ht;cases(show u=Value.bool y from rx);exact sA kitx_bool I.Ce True.intro e (fun z=>nomatch z) h
 | int i=>rw[Rep]at q;subst q;cases ht;obtain⟨t,q⟩:=(show ∃t,u=uy i t from rx);cases q;exact sA kitx_int I.Ce True.intro e (fun z=>nomatch z) h
 | str y=>rw[Rep]at q;subst q;cases ht;obtain⟨t,q⟩:=(show ∃t,u=R6 y t from rx);cases q;exact sA kitx_str I.Ce True.intro e (fun z=>nomatch z) h
 | tup ds=>rw[Rep]at q;refine b7 q fun a xs aT h2 _=>?_;clear q;walk_at"c";cases ht;cases(show u=f7 a from rx);refine bK (I.tuple h2) fun b6 _ aT _=>?_;obtain⟨o,h1,h3,_⟩:=aT;exact sA kitx_tuple I.Ce ⟨o,h1,h3⟩ e (fun z=>nomatch z) h
 | lst ds=>refine b7 q.items fun a xs aT h2 _=>?_;walk_at"c";cases ht;cases(show u=f7 a from rx);refine bK (I.list h2) fun b6 _ aT _=>?_;obtain⟨o,n,h1,h3,_⟩:=aT;exact sA kitx_list I.Ce ⟨o,h1,h3⟩ e (fun z=>nomatch z) h
 | dH _ _=>cases ht
def T8(ans:String->Option Bool):D->R D:=fun d=>match tyD d with|some t=>(match ans t with|some b=>.ok (.bl b)|none=>.bad)|none=>.bad
def XX{T:String}{tx:Str}{p1 p2:Pos}{ans:String->Option Bool}(aN5:∀t b,ans t=some b->kitOne X.K (.type t) (.type T)=some b)(hm:X.mg "isinstance"=none)(hmT:X.mg tx=none)(hvT:gY tx=some (.type T))(ha:PE X a (tD X.K C G0 Γ E fa fL))
  (hg:Gl X "isinstance":=by rfl) (hgT:Gl X tx:=by rfl) (hnT:tx≠ "__name__":=by decide) (hdT:(tx==("__debug__" : Str))=false:=by decide)
  (h1:bJ [a,Expr.Name tx p2] X.env=[(false,eval a X.env),(false,eval (.Name tx p2) X.env)]:=by rfl) (h2:bJ [Expr.Name tx p2] X.env=[(false,eval (.Name tx p2) X.env)]:=by rfl) :
  PE X (.Call (.Name "isinstance" p1) [a,.Name tx p2] [] pos) (tD X.K C G0 Γ E (lV (T8 ans) fa) .new):=by
 have as4:jB X (.builtin "isinstance") (fun xs H Q=>∃x d t b,xs=[x,.ty T]/\Rep X.K C H d x/\tyD d=some t/\ans t=some b/\Q (.bl b) H):=fun ak s σ H xs us Q I r n8=>by refine Rc n8 fun x d t b hx hr ht hb q=>?_;clear n8;subst hx;refine b7 (vals2 r) fun u w' aT ru Jw=>?_;walk_at"c";cases(show w'=l8 T from Jw);exact as3 I hr ru ht (aN5 t b hb) fun tk=>⟨.bl b,H,I.tok _,rfl,q⟩
 have P2:PE X (.Name tx p2) (tC (.ty T)):=Rj hgT hmT hvT rfl hnT hdT;refine(iH as4 hg hm (by decide +kernel) (jb ha (jb P2 m8 h2) (by rw[h1,h2])) (by decide) (by decide) (by rw[h1,h2]) (by rw[h2];rfl)).imp fun σ H Q sX=>sX.elim fun A Io=>Io.elim fun st JI=>JI.elim fun r q=>⟨A,st,r,?_⟩
 unfold lV R.bind at q;cases hf:fa st with
 | bad=>walk_at"b"
 | ex c p=>walk_at"b"
 | ok d=>
  rw[hf]at q;dsimp only at q;intro x H1 e1 w1;unfold T8 at q;cases ht:tyD d with
  | none=>rw[ht]at q;exact q.elim
  | some t=>
   rw[ht]at q;dsimp only at q;cases hb:ans t with
   | none=>rw[hb]at q;exact q.elim
   | some b=>rw[hb]at q;exact⟨x,d,t,b,rfl,w1.rep,ht,hb,q _ H1 e1 (.flat r e1 (by rw[fU] <;> simp) Bj _)⟩
end
def fR{Γ:List SK}(i:Nat)(h:PE X e (qM i))(hk:Γ[i]?=some .par:=by rfl):PE X e (tD X.K C G0 Γ E (ah i) .old):=Bh i h hk
def T9{Γ:List SK}(i:Nat)(h:PE X e (qM i))(hk:Γ[i]?=some .loc:=by rfl):PE X e (tD X.K C G0 Γ E (ah i) .loc):=Bh i h hk
def Tc{Γ:List SK}(i:Nat)(h:PE X e (qM i))(hk:Γ[i]?=some (.own true):=by rfl):PE X e (tD X.K C G0 Γ E (ah i) .uU):=Bh i h hk
def Td{Γ:List SK}(i:Nat)(h:PE X e (qM i))(hk:Γ[i]?=some (.own false):=by rfl):PE X e (tD X.K C G0 Γ E (ah i) .fD):=Bh i h hk
def XY(ha:PE X a (tD X.K C G0 Γ E fa fL))(hb:PE X b (tD X.K C G0 Γ E fb mC))(hs:kG b)(hk:fL.item = .old:=by rfl):PE X (.Subscript a b pos) (tD X.K C G0 Γ E (aB bH fa fb) .old):=hk▸Bm ha hb hs
def XZ(ha:PE X a (tD X.K C G0 Γ E fa fL))(hb:PE X b (tD X.K C G0 Γ E fb mC))(hs:kG b)(hk:fL.item = .fD:=by rfl):PE X (.Subscript a b pos) (tD X.K C G0 Γ E (aB bH fa fb) .fD):=hk▸Bm ha hb hs
def Pb{X:Cx}(hC:Lh X.K Cb)(hA:jv X.K Cb "cells")(ha:PE X a (tD X.K (dw Cb gl) G0 Γ E fa fL))(hb:rW a ("cells" : Str) X.env (eval a X.env)=eval a X.env:=by rfl)(hk:fL.item = .old:=by rfl):PE X (.Attribute a "cells" pos) (tD X.K (dw Cb gl) G0 Γ E (lV cR fa) .old):=hk▸P8 hC hA ha hb
def kY(K:Frag)(mg:Str->Option au)(x qual:Str)(st:aW)(ps:List Str):Prop:=∃a fd,Im K x qual st a fd/\mg x=some (.ref a)/\Binds K fd ps []
def Kp(n:Nat)(P:List au->Prop):Prop:=match n with|0=>P []|n+1=>∀u,Kp n fun us=>P (u::us)
def aN7(h:Kp n P){us:List au}(hl:us.length=n):P us:=by
 subst hl;induction us generalizing P with
 | nil=>exact h
 | cons u us ih=>exact ih (h u)
def zE{K:Frag}{x qual:Str}{st:aW}{f:av}{fd:eZ}{ps:List Str}(F:Im K x qual st f fd)(h:∀(kV doc pm:au) (an:Option av) (ck ct:au),Kp ps.length fun us=>bindArgs (lY x qual (iI st) (dJ st) (aO st) .none kV doc pm an ck ct) ⟨us,[]⟩=pure (ps.zip us)):Binds K fd ps []:=F.binds fun kV doc pm an ck ct us hl=>aN7 (h kV doc pm an ck ct) hl
def Y0{K:Frag}{h:aN}{mg:Str->Option au}{x:Str}{st:aW}{ps:List Str}{f:av}{oc:au}{od an:Option av}{Cz:Array (Option au)}{kV doc pm ck ct:au}(X:K.In h)(G:h.Ns gU mg)(a:nsIn K gU x=some (some (.ref f)))(l:K.lookup f=some ⟨oc,od,.func (lY x x (iI st) (dJ st) (aO st) .none kV doc pm an ck ct),Cz⟩)
  (c:PySem.W.codeIn K ck x=true) (k:sy K (.ref f)=true) (hb:∀(kV doc pm:au) (an:Option av) (ck ct:au),Kp ps.length fun us=>bindArgs (lY x x (iI st) (dJ st) (aO st) .none kV doc pm an ck ct) ⟨us,[]⟩=pure (ps.zip us)):kY K mg x x st ps:=
 ⟨_,_,AS (st:=st) l c k,mg_of X G a,zE (AS (st:=st) l c k) hb⟩
structure FD(P:cP)(w:bF)(K:Frag)(mg:Str->Option au)(base:aN)(C:Cfg)(k:Nat)(x:Str)(ps:List Str)(n:Nat)(F:List D->R D)(κ:Option Bool):Prop where
 ex:∃a fd,j4 P w K mg base (kC P w) k a fd ps (spD K C n F κ)/\mg x=some (.ref a)/\keepIn K (.ref a)=true/\Binds K fd ps []/\∃o,K.lookup a=some o/\o.data = .func fd
def oK{K:Frag}{x qual:Str}{st:aW}{a:av}{fd:eZ}(F:Im K x qual st a fd):∃o,K.lookup a=some o/\o.data = .func fd:=by
 refine Rf F.ex fun oc od kV doc pm an ck ct Cz e lk Ge=>?_;exact⟨_,lk,rfl⟩
def as5{P:cP}{w:bF}{K:Frag}{mg:Str->Option au}{base:aN}{C:Cfg}{x qual:Str}{st:aW}{N ps:List Str}{Γ:List SK}{k n:Nat}{gq:Option Bool}{Fb:DS}(T:kY K mg x qual st ps)(S:gx N ps (aO st))(hn:ps.length=n)(uQ:∀i,i<n->Γ[i]?=some .par)
  (body:∀(f:av) (ck:au),(mg x=some (.ref f)/\∃o fd,K.lookup f=some o/\o.data = .func fd/\fd.code=ck)->∀(A:bP) (outer:List Env) (s:ay) (H:Hp) (E:XK),i7 k (A.deeper (envOfC qual (aO st) s.heap.objs.size f ck))->
   mZ ((ji (kC P w) P w K mg base N qual (aO st) f ck A outer s H E).cK (jw (ji (kC P w) P w K mg base N qual (aO st) f ck A outer s H E) fun _=>E)) (dJ st) (jD K C H Γ (fun _=>E) gq Fb)) :
  FD P w K mg base C (k+1) x ps n (bx N.length Fb) gq:=by
 refine b7 T fun a fd Fu hm hb=>?_;clear T;exact⟨a,fd,XA Fu S hn uQ (fun ck hc=>body a ck ⟨hm,let⟨o,h1,h2⟩:=oK Fu;⟨o,fd,h1,h2,hc⟩⟩),hm,Fu.kp,hb,oK Fu⟩
def lP{X:Cx}(Fn:FD X.prog X.w X.K X.mg X.base C k x ps n F (some Dc))(hr:i7 j X.A)(hj:k<=j)
  (ha:PA (X.cK (jw X E)) (e::es) (Bg X.K C G0 Γ E fs κ)) (hlen:∀st ds,fs st = .ok ds->ds.length=n) (hkc:OG Dc=aN8:=by rfl) (hg:Gl X x:=by rfl) (Gv:(x==("__debug__" : Str))=false:=by decide) (he:bJ (e::es) X.env=(false,eval e X.env)::bJ es X.env:=by rfl) (sW:(backTo pos (bJ es X.env)).any (·.1)=false:=by rfl) :
  PE (X.cK (jw X E)) (.Call (.Name x p) (e::es) [] pos) (tD X.K C G0 Γ E (aY F fs) aN8):=by
 refine G8 Fn.ex fun a fd h1 h2 h3 h4 _=>?_;subst hkc;exact Sn h1 (hr.mono hj) h2 h3 h4 ha hlen hg Gv he sW
def Ho{P:cP}{w:bF}{K:Frag}{mg:Str->Option au}{base:aN}{x qual:Str}{st:aW}{f:av}{fd:eZ}{N ps:List Str}{k:Nat}{sp:Sp}(F:Im K x qual st f fd)(S:gx N ps (aO st))(len:∀vs H Q E,sp vs H Q E->vs.length=ps.length)
  (qQ:∀(ck:au),fd.code=ck->∀(A:bP) (outer:List Env) (s:ay) (H:Hp) (vs:List V) (Q:VK) (E:XK),i7 k (A.deeper (envOfC qual (aO st) s.heap.objs.size f ck))->sp vs H Q E->
   ∃t,K4 ((ji (kC P w) P w K mg base N qual (aO st) f ck A outer s H E).cK (jw (ji (kC P w) P w K mg base N qual (aO st) f ck A outer s H E) fun _=>E)) (dJ st) t/\t {nx:=fun _ H'=>Q .cH H',rt:=Q} (L2.start N vs) H) :
  j4 P w K mg base (kC P w) (k+1) f fd ps sp:=by
 refine Rf F.ex fun oc od kV doc pm an ck ct Cz zo9 lk Ge=>?_;obtain rfl:=zo9;refine⟨len,fun A outer s H args us vs Q E hr e0 hb r Ry=>?_⟩;have hl:=len _ _ _ _ Ry;have KX:K.In s.heap:=e0.mod.QM.keeps fun b o e=>(e0.bs b o e).1;have lim:s.heap.NoLimit:=e0.mod.nolimit.keeps fun b o e=>(e0.bs b o e).1;have CA:∀y∈ps.zip us,(aO st).names.lookup y.1=some .local\/((aO st).names.lookup y.1=some .cell/\((cellsFrom (s.heap.objs.size+1) (aO st).names []).lookup y.1).isSome=true):=fun jz hy=>by obtain⟨n,v⟩:=jz;rcases S.par n (vp hy).1 with q|q;exact .inl q;exact .inr ⟨q,F3 _ _ _ (.inl q)⟩
 refine Lu hr.depth (KX _ _ lk) rfl S.co S.gen rfl (LK KX Ge) (hb _ _ _ _ ?_);refine Lv S.kind CA fun env he s1 x=>?_;subst he;refine⟨lim.keeps x.toInCall.keep,codeAny_func ?_⟩;refine aL (qQ ck rfl A outer s H vs Q E (hr.deeper _) Ry) fun t ht hq=>?_;have I:L2.Inv (ji (kC P w) P w K mg base N qual (aO st) f ck A outer s H E) [] (L2.start N vs) H s1:=yW S hr.hd e0 hl r x;refine gv (ht s1 (L2.start N vs) H _ (I.cK _) hq) (fun fl s' hs=>?_) fun e s' hs=>z9 hs;have hs:=SP.gn hs;have fin:∀{cz:L2.St} {H':Hp} {v:V} {u:au},L2.Inv (ji (kC P w) P w K mg base N qual (aO st) f ck A outer s H E) [] cz H' s'->RelV v u->Q v H'->CE outer P w H s Q u s':=
  fun {cz H' v u} J rv q=>⟨v,H',J.os,J.bare,J.base,J.dX,rv,q⟩
 cases fl with
 | ret u=>refine R8 hs fun v cz H' J rv q=>?_;clear hs;exact fin J rv q
 | next=>refine cj hs fun cz H' J q=>?_;clear hs;exact fin (v:=V.cH) (u:=gR) J rfl q
 | brk=>refine cj hs fun _ _ _ q=>?_;clear hs;exact iu q
 | cont=>refine cj hs fun _ _ _ q=>?_;clear hs;exact iu q
def Te{P:cP}{w:bF}{K:Frag}{C:Cfg}{Γ:List SK}{mg:Str->Option au}{base:aN}{x qual:Str}{st:aW}{f:av}{fd:eZ}{N ps:List Str}{k n:Nat}{gq:Option Bool}{Fb:DS}(F:Im K x qual st f fd)(S:gx N ps (aO st))(hn:ps.length=n)(uQ:∀i,i<n->Γ[i]?=some .par)
  (body:∀(ck:au),fd.code=ck->∀(A:bP) (outer:List Env) (s:ay) (H:Hp) (E:XK),i7 k (A.deeper (envOfC qual (aO st) s.heap.objs.size f ck))->
   K4 ((ji (kC P w) P w K mg base N qual (aO st) f ck A outer s H E).cK (jw (ji (kC P w) P w K mg base N qual (aO st) f ck A outer s H E) fun _=>E)) (dJ st) (jD K C H Γ (fun _=>E) gq Fb)) :
  j4 P w K mg base (kC P w) (k+1) f fd ps (spD K C n (bx N.length Fb) gq):=by
 refine Ho F S (fun vs H Q E n8=>by obtain⟨ds,h1,h2,_⟩:=n8;rw[h2.1.len,h1,hn]) fun ck hc A outer s H vs Q E hr sX=>?_;refine bK sX fun ds h1 h2 q=>?_;clear sX;refine⟨_,body ck hc A outer s H E hr,[],_,D9 h1 uQ h2.1 h2.2,?_⟩;unfold bx at q;cases hf:Fb (ds.map some++cg (N.length-ds.length) none)with
 | nx st'=>
  rw[hf]at q;intro cz H' A' r' e';refine q .cH H' (r'.g0) ?_;have R:∀H:Hp,Rep K C H .cH .cH:=fun H=>by rw[Rep]
  match gq with
  | none=>exact⟨⟨R (nw H H'),.not rfl rfl⟩,.not (fun ds z=>by cases z) rfl⟩
  | some true=>exact⟨R (nw H H'),.not rfl rfl⟩
  | some false=>exact R H'
 | bk st'=>rw[hf]at q;exact q.elim
 | ct st'=>rw[hf]at q;exact q.elim
 | rt d=>walk_at"b"
 | ex c p st'=>rw[hf]at q;exact fun cz H' A' r' e'=>q H' r'.g0
 | bad=>rw[hf]at q;exact q.elim
def Pc{P:cP}{w:bF}{K:Frag}{mg:Str->Option au}{base:aN}{C:Cfg}{x qual:Str}{st:aW}{N ps:List Str}{Γ:List SK}{k n:Nat}{gq:Option Bool}{Fb:DS}(T:kY K mg x qual st ps)(S:gx N ps (aO st))(hn:ps.length=n)(uQ:∀i,i<n->Γ[i]?=some .par)
  (body:∀(f:av) (ck:au),(mg x=some (.ref f)/\∃o fd,K.lookup f=some o/\o.data = .func fd/\fd.code=ck)->∀(A:bP) (outer:List Env) (s:ay) (H:Hp) (E:XK),i7 k (A.deeper (envOfC qual (aO st) s.heap.objs.size f ck))->
   K4 ((ji (kC P w) P w K mg base N qual (aO st) f ck A outer s H E).cK (jw (ji (kC P w) P w K mg base N qual (aO st) f ck A outer s H E) fun _=>E)) (dJ st) (jD K C H Γ (fun _=>E) gq Fb)) :
  FD P w K mg base C (k+1) x ps n (bx N.length Fb) gq:=by
 refine b7 T fun a fd Fu hm hb=>?_;clear T;exact⟨a,fd,Te Fu S hn uQ (fun ck hc=>body a ck ⟨hm,let⟨o,h1,h2⟩:=oK Fu;⟨o,fd,h1,h2,hc⟩⟩),hm,Fu.kp,hb,oK Fu⟩
def XS{cl cs:List (Str×av)}(h:∀p∈cl,cs.lookup p.1=some p.2):∀x c,cl.lookup x=some c->cs.lookup x=some c:=fun x c e=>by
 induction cl with
 | nil=>cases e
 | cons p cl ih=>obtain⟨n,a⟩:=p;rw[Mf]at e;by_cases hx:(x==n)=true;rw[hx]at e;cases e;rw[aU7.mp hx];exact h (n,c) (.head _);rw[As]at hx;rw[hx]at e;exact ih (fun q m=>h q (.tail _ m)) e
theorem lookup_mem:∀{names:List (Str×β)},names.lookup x=some k->(x,k)∈names
 | [],e=>by cases e
 | (n,k')::ns,e=>by
  rw[Mf]at e;by_cases hx:(x==n)=true;rw[hx]at e;cases e;rw[aU7.mp hx];exact .head _;rw[As]at hx;rw[hx]at e;exact .tail _ (lookup_mem e)
def SQ{names:List (Str×NameKind)}{cl:List (Str×av)}(h:(names.all fun p=>(p.2 != .cell&&p.2 != .free) || (cl.lookup p.1).isSome)=true):∀x,(names.lookup x=some .cell\/names.lookup x=some .free)->∃c,cl.lookup x=some c:=fun x e=>by
 have go:∀{k:NameKind},names.lookup x=some k->(k != .cell&&k != .free)=false->∃c,cl.lookup x=some c:=fun {k} e hk=>by have:=iZ.mp h _ (lookup_mem e);dsimp only at this;rw[hk,MG]at this;exact MI.mp this
 rcases e with e|e;exact go e rfl;exact go e rfl
def gK{X:Cx}{C:Cfg}{G0:Hp}{Γ:List SK}{E:L2.St->XK}{tg iter elt:bf}{ifs:List bf}{scope:iV}{cl:List (Str×av)}{pos:Pos}{g:TG}{bind:DB}{gi:DI}{ft fe:DF}{ng Dc:Kd}{n z:Bool}{gz:List Str}{caps:List (Nat×Str)}{kk:Nat}{fr:List Nat}
  (Bw:PI X tg iter (IT X.K C G0 Γ E z gi)) (b:Blk X C G0 Γ tg elt ifs scope cl g bind ft fe ng n z gz caps) (hs:∀x,qD iter X.env x=pure x:=by intro _;rfl) (hk:um z n=Dc:=by rfl) (h1:gz.length=kk:=by rfl) (h2:caps.map (·.1)=fr:=by rfl) :
  PE X (.ListComp elt [⟨tg,iter,ifs,0⟩] scope pos) (tD X.K C G0 Γ E (cC gi kk fr bind ft fe) Dc):=by
 subst hk;subst h1;subst h2;exact SR Bw b hs
def oM{X:Cx}{C:Cfg}{G0:Hp}{Γ:List SK}{E:L2.St->XK}{gq:Option Bool}{tg iter elt:bf}{ifs:List bf}{scope:iV}{cl:List (Str×av)}{pos:Pos}{g:TG}{bind:DB}{gi:DI}{ft fe:DF}{ng:Kd}{n z:Bool}{gz:List Str}{caps:List (Nat×Str)}{kk:Nat}{fr:List Nat}
  {i:Nat} {k:SK} {x:Str} {pos' P0:Pos} (hN:X.N.Nodup) (Bw:PI X tg iter (IT X.K C G0 Γ E z gi)) (b:Blk X C G0 Γ tg elt ifs scope cl g bind ft fe ng n z gz caps) (hk:Γ[i]?=some k:=by rfl) (hl:k.takes (um z n)=true:=by rfl) (hi:X.N[i]?=some x:=by rfl) (hx:X.env.scope.names.lookup x=some .local:=by rfl)
  (hsw:swapsWith (.ListComp elt [⟨tg,iter,ifs,0⟩] scope pos) (some (.Name x pos')) P0.line X.env=pure true:=by rfl) (hs:∀x,qD iter X.env x=pure x:=by intro _;rfl) (h1:gz.length=kk:=by rfl) (h2:caps.map (·.1)=fr:=by rfl) :
  PS X (.Assign [.Name x pos'] (.ListComp elt [⟨tg,iter,ifs,0⟩] scope pos) P0) (jD X.K C G0 Γ E gq (bC i (cC gi kk fr bind ft fe))):=by
 subst h1;subst h2;exact SS hN Bw b hk hl hi hx hsw hs
end Dm
end aN3
section aN9
namespace Dm
open PySem PySem.Spec PyProof.Rows L2
def Ite(K:aD)(a:av):It:=
 ⟨fun i H=>∃xs x,ja K H a xs/\xs[i]?=some x,fun i H x H'=>∃T y,H T=none/\H'=upd H T (.tup [.int i,y])/\x = .ref T/\∀xs,ja K H a xs->xs[i]?=some y,fun i H=>∃xs,ja K H a xs/\xs.length<=i⟩
def Kq{P:cP}{w:bF}{K:aD}{elts:List bf}{x1}{pos:Pos}(a e it:av)(hei:e≠it):Turn P w K (.Tuple elts x1 pos) (Ite K a) [e,it] e (fun i h=>(∃old,IsEnum h e it i old)/\h.IsListIter it a i) where
 mem:=by simp
 obj:=fun i h st b hb=>by
  obtain⟨⟨old,he⟩,o,ho,c,d⟩:=st;rcases bD.mp hb with rfl|hb;exact⟨_,he,fun v z=>by cases z⟩;obtain rfl:b=it:=by simpa using hb
  exact⟨o,ho,fun v z=>by rw[d]at z;cases z⟩
 keep:=fun i h h' st k=>⟨st.1.imp fun old he=>k e (by simp) _ he,st.2.at fun o z=>k it (by simp) o z⟩
 item:=by
  walk_at"e";obtain⟨⟨old,he⟩,hit⟩:=st;refine cj hg fun xs x hq hx=>?_;clear hg;refine bK (I.list hq) fun b6 rv p hz=>?_;refine aL (rv.get hx) fun u hu ru=>?_;have fe:=hf e (by simp);have fi:=hf it (by simp);have hn:H s.heap.objs.size=none:=I.dX.fresh (b9 _);refine wpAny_pyNext_enum_item he hit p.isList (x:=u) (by simpa using hu) hei fun h' ho Hq hT hsz hk=>⟨_,rfl,?_⟩
  have kp:∀b o,b∉[e,it]->s.heap.get? b=some o->h'.get? b=some o:=fun b o hb q=>hk b o (fun z=>hb (by simp[z])) (fun z=>hb (by simp[z])) q;have lt:∀b o,s.heap.get? b=some o->b≠s.heap.objs.size:=fun b o q=>cu (bQ q);have I1:L2.Inv X ak σ (upd H s.heap.objs.size (.tup [.int i,x])) {s with heap:=h',toks:=s.toks+1}:=by
   refine Inv.Cs I (s':={s with heap:=h',toks:=s.toks+1}) (ch:=[e,it]) rfl ⟨fun b o q n nf nx=>kp b o nx q,fun b o q n nf nx=>⟨o.slots,kp b o nx q⟩,fun b o q n nx=>?_,fun b o q nx=>⟨o,kp b o nx q⟩,fun b ys q=>?_,fun b o u' q=>?_,fun b zp zr q=>?_⟩ (fun b o q=>?_) I.bare (fun b hb=>?_);rw[bq (lt b o q)];exact n;rw[bq (bG q hn)];exact q;rw[bq (bG q hn)];exact q;rw[bq (bG q hn)];exact q;by_cases hb:b=s.heap.objs.size;subst hb;rw[cA]at q;cases q;exact⟨by simp only[cI,Ah];rw[gC];decide,[.int i s.toks,u],.cons ⟨_,rfl⟩ (.cons ru .nil),⟨_,hT,rfl,0,rfl⟩⟩;rw[bq hb]at q;refine(I.dX b o q).AE (fun c v rS z=>kp c v ?_ z) (fun c z=>by rw[bq (bG z hn)];exact z) (fun c ys z=>by rw[bq (bG z hn)];exact z) fun c zo ys z=>by rw[bq (bG z hn)];exact z
   intro hm;rcases bD.mp hm with rfl|hm;rcases rS with rfl|rS;rw[fe.1]at q;cases q;rw[fe.1]at rS;cases rS;obtain rfl:c=it:=by simpa using hm
   rcases rS with rfl|rS;rw[fi.1]at q;cases q;rw[fi.1]at rS;cases rS;refine vI (hf b hb) fun f0 f1 f2 f3 f4 f5=>?_;exact⟨f3,f1,f4,f5⟩
  have ne:e≠s.heap.objs.size:=lt e _ he;have ni:it≠s.heap.objs.size:=by obtain⟨o,z,_⟩:=hit;exact lt it _ z
  refine vI fe fun f0 f1 f2 f3 f4 f5=>?_;clear fe;refine wpAny_letOwnedTupleGo_enum ho fun h2 he2 QS=>?_;have I2:L2.Inv X ak σ (upd H s.heap.objs.size (.tup [.int i,x])) {s with heap:=h2,toks:=s.toks+1}:=I1.turned (t':=s.toks+1) (fun b o hb q=>(QS.2 b hb).trans q) (by rw[bq ne];exact f0) f1 f3 f4 f5;refine⟨.ref s.heap.objs.size,_,I2,rfl,⟨_,x,hn,rfl,rfl,fun ys hy=>by rw[I.Ct hy hq];exact hx⟩,⟨⟨u,by simpa using he2⟩,Hq.at fun o z=>(QS.2 it (fm hei)).trans z⟩,fun b hb=>?_⟩;rcases bD.mp hb with rfl|hb;rw[bq ne];exact f0;obtain rfl:b=it:=by simpa using hb
  rw[bq ni];exact fi.1
 done:=by
  walk_at"e";obtain⟨⟨old,he⟩,hit⟩:=st;refine aL hg fun xs hq hx=>?_;clear hg;refine bK (I.list hq) fun b6 rv p hz=>?_;refine vI (hf it (by simp)) fun f0 f1 f2 f3 f4 f5=>?_;have hl:=rv.length;exact wpAny_pyNext_enum_end (I.ok.hd hc) he hit p.isList (An (by simp;lia)) fun h' eb=>⟨rfl,I.turned (t':=s.toks) (fun b o hb e=>eb b o hb e) f0 f1 f3 f4 f5⟩
 self:=fun _ _ _ _ _ st h=>by
  obtain⟨⟨old,he⟩,_⟩:=st;exact LG he h
def iEn(K:aD)(ta:TA):TI:=fun σ H R=>ta σ H fun vs H1=>∃a,vs=[.ref a]/\(∃xs,ja K H1 a xs)/\R (Ite K a) H1
def Kr:gY "enumerate"=some (.type "enumerate"):=by decide +kernel
section
def Tf{p pos tp:Pos}{ta:TA}(hg:Gl X "enumerate")(hm:X.mg "enumerate"=none)(ha:PA X [a] ta)(hs:bJ [a] X.env=[(false,eval a X.env)]:=by rfl):PI X (.Tuple elts x1 tp) (.Call (.Name "enumerate" p) [a] [] pos) (iEn X.K ta):=by
 intro ak s σ H R I h;refine Call_ (qm I hg hm Kr (Co (gA (ha pos ak s σ H _ I h) fun us s1 jz=>?_) hs rfl));refine b7 jz fun vs H1 I1 r1 q1=>?_;clear jz;refine bK q1 fun a e aT q=>?_;clear q1;obtain⟨xs,hq⟩:=aT;subst e;cases r1 with
 | cons r rr=>
  cases rr;cases r;refine bK (I1.list hq) fun b6 rv p hz=>?_;refine call_enumerate_list p.isList fun h' he hit hsz hk=>LG he ?_;have I2:L2.Inv X ak σ H1 {s1 with heap:=h'}:=I1.kept (t':=s1.toks) hk;refine⟨s1.heap.objs.size+1,[s1.heap.objs.size+1,s1.heap.objs.size],_,_,H1,rfl,I2,Kq a _ _ (Nat.succ_ne_self _),⟨⟨.none,he⟩,hit⟩,fun b hb=>?_,q⟩;have zd:s1.heap.objs.size<=b:=by
   rcases bD.mp hb with rfl|hb;exact Ab _;obtain rfl:b=s1.heap.objs.size:=by simpa using hb
   exact b9 _
  exact I1.Ng zd (I1.dX.fresh zd)
def enD(ds:List D):List D:=ds.mapIdx fun i d=>.tup [.int i,d]
def yo(f:DF):DI:=fun st=>match f st with | .ok (.lst ds)=>.ok (enD ds) | .ok _=>.bad | .ex c p=>.ex c p | .bad=>.bad
def Tg(hm:X.mg "enumerate"=none)(ha:PE X a (tD X.K C G0 Γ E f κ))(l:z=true->κ.le .old=true)(Xz:Gl X "enumerate":=by rfl)(OI:bJ [a] X.env=[(false,eval a X.env)]:=by rfl):PI X (.Tuple elts x1 tp) (.Call (.Name "enumerate" p) [a] [] pos) (IT X.K C G0 Γ E z (yo f)):=(Tf Xz hm (jb ha m8 OI) OI).imp fun σ H Q zz=>by
 walk_at"a";unfold yo at q;cases hf:f st with
 | bad=>walk_at"b"
 | ex c p=>walk_at"b"
 | ok d=>
  rw[hf]at q;cases d with
  | lst ds=>
   dsimp only at q;intro v H1 e1 w;have w':Rep X.K C (er H1 (zB z A)) (.lst ds) v:=by
    unfold zB;cases z with
    | true=>exact w.le r e1 (κ':=.old) (l rfl)
    | false=>rw[aU4 (by decide),jx];exact w.rep
   rw[Rep]at w';refine b7 w' fun a xs aT h2 h3=>?_;clear w';walk_at"c";refine⟨a,rfl,⟨xs,(aJ _ _).seq h2⟩,q _ _ e1 fun i H3 A3 e3 nA=>⟨fun d hd=>?_,fun hd=>?_⟩⟩;unfold enD at hd;rw[Fy]at hd;cases Bp:ds[i]? with
   | none=>rw[Bp]at hd;cases hd
   | some d0=>rw[Bp]at hd;cases hd;refine aL (h3.get' Bp) fun v hv rv=>?_;have s3:ja X.K H3 a xs:=(e3.trans (aJ _ _)).seq h2;refine⟨⟨xs,v,s3,hv⟩,fun x H' n8=>?_⟩;refine qJ n8 fun T y hT hH ex hx=>?_;clear n8;subst hH ex;have:=hx xs s3;rw[hv]at this;cases this;have nT:T∉A3:=fun m=>nA T m hT;refine⟨bT hT,?_⟩;have up:aI (er H3 A3) (er (upd H3 T (.tup [.int i,v])) A3):=aK (bT hT);rw[Rep];refine⟨T,_,rfl,.inl (.inl (by rw[aZ nT,cA])),?_⟩;rw[aH];refine⟨.int i,[v],rfl,pP,?_⟩;rw[aH];refine⟨v,[],rfl,rv.same ((aJ _ _).trans (e3.trans up)) _,?_⟩;rw[aH]
   unfold enD at hd;rw[Fy]at hd;refine⟨xs,(e3.trans (aJ _ _)).seq h2,by rw[h3.len];exact lZ.mp (by cases Bp:ds[i]? with|none=>rfl|some d=>rw[Bp]at hd;cases hd)⟩
  | _=>exact q.elim
def IZ{bind:DB}{g:TG}{gi:DI}(hp:PassesOwn (aF X.prog X.w) X.A X.env X.xe)(hc:X.calm=true)(hI:PI X tg iter (IT X.K C G0 Γ E true gi))(hg:PG X tg g)(hB:pX X.K C G0 Γ g bind)(hb:mZ X ss (jD X.K C G0 Γ E gq F))(hs:∀x,qD iter X.env x=pure x:=by intro _;rfl) :
  PS X (.For tg iter ss [] pos) (jD X.K C G0 Γ E gq (cy gi bind F)):=(Gk hp hc hI hg hb hs).imp fun D σ H zz=>by
 walk_at"a";unfold cy at q;cases hg:gi st with
 | bad=>rw[hg]at q;exact q.elim
 | ex c p=>rw[hg]at q;walk_at"d"
 | ok ds=>rw[hg]at q;intro J H1 e1 hJ;exact tG hB hJ r e1 q
end
end Dm
end aN9
section aO0
namespace Dm
open PySem PySem.Spec PyProof.Rows L2 PySem.W
section
def yp:D->D->R D:=fun a b=>match a,b with
 | .lst ds,.int k=>if(cV ds&&decide (0<=k)&&decide (k<5000)&&decide (ds.length*k.toNat<=5000))=true then .ok (.lst (cg k.toNat ds).flatten)else .bad
 | _,_=>.bad
theorem Dv{K:Frag}{H:Hp}:∀{ds es:List D} {xs ys:List V},aH K C H ds xs->aH K C H es ys->aH K C H (ds++es) (xs++ys)
 | [],es,xs,ys,h,h'=>by rw[aH]at h;subst h;exact h'
 | d::ds,es,xs,ys,h,h'=>by
  rw[aH]at h;refine b7 h fun v r aT q t=>?_;clear h;walk_at"c";exact .cons q (Dv t h')
theorem Dw{K:Frag}{H:Hp}{ds:List D}{xs:List V}(h:aH K C H ds xs):∀n:Nat,aH K C H (cg n ds).flatten (cg n xs).flatten
 | 0=>.nil
 | n+1=>by
  rw[qe,qe,sE,sE];exact Dv h (Dw h n)
def Y3(ha:PE X a (tD X.K C G0 Γ E fa .new))(hb:PE X b (tD X.K C G0 Γ E fb mC)):PE X (.BinOp a .Mult b pos) (tD X.K C G0 Γ E (aB yp fa fb) .new):=(Ig WT ha hb).imp fun σ H Q zz=>by
 walk_at"a";unfold aB R.bind at q;cases ha:fa st with
 | bad=>rw[ha]at q;exact q
 | ex c p=>rw[ha]at q;exact q
 | ok a=>
  rw[ha]at q;walk_at"f";cases hb:fb st with
  | bad=>rw[hb]at q;exact q
  | ex c p=>rw[hb]at q;walk_at"g"
  | ok b=>
   rw[hb]at q;intro y H2 e2 w2;dsimp only at q;match a,b,q,w1,w2 with
   | .lst ds,.int k,q,w1,w2=>
    unfold yp at q;dsimp only at q;split at q;rename_i z hz;split at hz;rename_i hc;cases hz;simp only[bM,aU8]at hc;obtain⟨⟨⟨c1,c2⟩,c3⟩,c4⟩:=hc;obtain⟨_,tp⟩:=w1;refine bK (tp.1 rfl) fun p aT hn ow=>?_;refine aL ow fun xs hp rp=>?_;walk_at"c";have wy:=w2.rep;rw[Rep]at wy;subst wy;have Xf:H2 p=some (.lst xs):=e2 p _ (cT _ _ p _ hp);have rp2:aH X.K C H2 ds xs:=rp.same (((aJ _ _).trans (cT _ _)).trans e2) _;refine⟨p,k,xs,rfl,rfl,Xf,by lia,by lia,?_,fun l hl=>?_⟩;have:xs.length=ds.length:=rp.len;rw[this,gC];exact f9 c4 (by decide);have nf:cV (cg k.toNat ds).flatten=true:=dY fun d hd=>by refine aL (Mg.mp hd) fun l' y9 QN=>?_;rw[List.eq_of_mem_replicate y9]at QN;exact iO c1 QN
    exact q _ _ ((e1.trans e2).trans (bT hl)) (.lst r (e1.trans e2) hl ((Dw rp2 k.toNat).part (.nw (e1.trans e2)) _ nf));cases hz;rename_i z hz;split at hz <;> cases hz;exact q.elim
def rz:List D->R D:=fun ds=>match ds with | [.int i]=>.ok (.int (if i<0 then -i else i))|_=>.bad
def Y4:gY "abs"=some (.builtin "abs"):=by decide +kernel
def Pe:gY "tuple"=some (.type "tuple"):=by decide +kernel
def Th{K:Frag}:Ow K C (fun xs H Q=>∃i,xs=[.int i]/\Q (.int (if i<0 then -i else i)) H) rz .new:=fun G0 Γ E σ A st H ds xs Q r w q=>by
 unfold rz at q;split at q;rename_i z;split at z;rename_i i;cases z;refine aL (iY w) fun v fW w1=>?_;obtain rfl:=fW;rw[Rep]at w1;subst w1;exact⟨i,rfl,q _ H (.refl _) (.flat r (.refl _) (by rw[fU] <;> simp) pP _)⟩;cases z;rename_i z;split at z <;> cases z;exact q.elim
def isI:D->Bool | .int _=>true|_=>false
def as6:D->Bool | .tup (.int _::_)=>true|_=>false
def as7:D->Bool | .tup (.tup _::_)=>true|_=>false
def pY(ds:List D):Bool:=decide (ds.length<64)&&cV ds&&ds.all (fun d=>nl d&&decide (dep d<=50))&&ds.all (fun a=>ds.all fun b=>gB a b)&&(ds.all isI || ds.all as6 || ds.all as7)
def Pf(h:pY ds=true):qY ds:=by
 unfold pY at h;simp only[bM,nG,aU8,iZ]at h;obtain⟨⟨⟨⟨h1,h2⟩,h3⟩,h4⟩,h5⟩:=h;refine⟨?_,h1,fun a ha b hb=>h4 a ha b hb,fun a ha=>(h3 a ha).1,fun a ha=>(h3 a ha).2⟩;rcases h5 with(h5|h5)|h5;exact⟨_,.nums fun d hd=>by have:=h5 d hd;unfold isI at this;split at this;exact⟨_,rfl⟩;cases this⟩;exact⟨_,.ql fun d hd=>by have:=h5 d hd;unfold as6 at this;split at this;exact⟨_,_,rfl⟩;cases this⟩;exact⟨_,.X9 fun d hd=>by have:=h5 d hd;unfold as7 at this;split at this;exact⟨_,_,rfl⟩;cases this⟩
def fE:List D->R D:=fun ds=>match ds with
 | [.lst es]=>if pY es=true then .ok (.lst (gy es))else .bad
 | _=>.bad
def Ks{K:Frag}:Ow K C (Of K C) fE .new:=fun G0 Γ E σ A st H ds xs Q r w q=>by
 cases hg:fE ds with
 | bad=>rw[hg]at q;exact q.elim
 | ex c p=>unfold fE at hg;split at hg <;> (try split at hg) <;> cases hg
 | ok d=>
  rw[hg]at q;unfold fE at hg;split at hg;rename_i es;split at hg;rename_i hc;cases hg;refine aL (iY w) fun v fW w1=>?_;obtain rfl:=fW;have n:cV es=true:=by unfold pY at hc;simp only[bM]at hc;exact hc.1.1.1.2
  refine⟨v,es,rfl,w1,Pf hc,fun p ws hp Jw=>q _ _ (bT hp) (.lst r (.refl _) hp (Jw.part (.nw (.refl _)) _ ?_))⟩;exact dY fun d hd=>iO n ((dm es).mem_iff.mp hd);cases hg;cases hg
end
def Y5{K:Frag}{a b:String}{r:Bool}(h0:(l8 a==l8 b)=false)(h1:kitMeta b=true)(h2:(fastBuiltinMro a).map (·.contains (.type b))=some r):kitOne K (.type a) (.type b)=some r:=by
 unfold kitOne;rw[aU4 (by rw[h0];exact iW)];unfold kitCls;dsimp only;rw[aU3 h1];exact h2
section
def kr:List D->R D:=fun ds=>match ds with | [.lst es]=>if cV es=true then .ok (.tup es)else .bad|_=>.bad
def Ku{K:Frag}:Ow K C (fun xs H Q=>∃p ys,xs=[.ref p]/\((ja K H p ys/\∀l,H l=none->Q (.ref l) (upd H l (.tup ys)))\/(jA K H p ys/\Q (.ref p) H))) kr .new:=fun G0 Γ E σ A st H ds xs Q r w q=>by
 unfold kr at q;split at q;rename_i zz;split at zz;rename_i es;split at zz;rename_i n;cases zz;walk_at"h";walk_at"c";refine⟨p,ys,rfl,.inl ⟨s,fun l hl=>q _ _ (bT hl) (.flat r (bT hl) (by rw[fU];exact n) ?_ _)⟩⟩;rw[Rep];exact⟨l,ys,rfl,.inl (.inl cA),t.same (bT hl) _⟩;cases zz;cases zz;rename_i zz;split at zz;split at zz <;> cases zz;cases zz;exact q.elim
def iTp(f:DF):DI:=fun st=>match f st with | .ok (.tup ds)=>.ok ds | .ok _=>.bad | .ex c p=>.ex c p | .bad=>.bad
def Y6(he:PE X iter (tD X.K C G0 Γ E f κ))(l:z=true->κ.le .old=true):PI X tg iter (IT X.K C G0 Γ E z (iTp f)):=(WA he).imp fun σ H Q zz=>by
 walk_at"a";unfold iTp at q;cases hf:f st with
 | bad=>walk_at"b"
 | ex c p=>walk_at"b"
 | ok d=>
  rw[hf]at q;cases d with
  | tup ds=>
   dsimp only at q;intro v H1 e1 w;have w':Rep X.K C (er H1 (zB z A)) (.tup ds) v:=by
    unfold zB;cases z with
    | true=>exact w.le r e1 (κ':=.old) (l rfl)
    | false=>rw[aU4 (by decide),jx];exact w.rep
   rw[Rep]at w';refine b7 w' fun a xs aT h2 h3=>?_;clear w';walk_at"c";have sq:∀{F F':Hp},aI F F'->jA X.K F a xs->jA X.K F' a xs:=fun e h=>aI.tup e h;refine⟨a,rfl,⟨xs,sq (aJ _ _) h2⟩,q _ _ e1 fun i H3 A3 e3 _=>⟨fun d hd=>?_,fun hd=>?_⟩⟩;refine aL (h3.get' hd) fun v hv rv=>?_;have s3:jA X.K H3 a xs:=sq (e3.trans (aJ _ _)) h2;refine⟨⟨xs,v,s3,hv⟩,fun x H' jz=>?_⟩;obtain⟨hH,hx⟩:=jz;subst hH;have:=hx xs s3;rw[hv]at this;cases this;exact⟨.refl _,rv.same e3 _⟩;exact⟨xs,sq (e3.trans (aJ _ _)) h2,by rw[h3.len];exact lZ.mp hd⟩
  | _=>exact q.elim
end
end Dm
end aO0
section aO2
namespace Dm
open PySem PySem.Spec PyProof.Rows L2
inductive lQ(K:aD)(C:Cfg)(G0:Hp)(A:List av)(H H':Hp):List D->List V->Prop
 | nil:lQ K C G0 A H H' [] []
 | cons {d:D} {v:V} {ds:List D} {vs:List V}:Val K C .new G0 A H H' d v->lQ K C G0 A H H' ds vs->lQ K C G0 A H H' (d::ds) (v::vs)
section
variable {K:aD}{C:Cfg}{G0:Hp}{A:List av}{H H' H1:Hp}
theorem lQ.len:∀{ds:List D} {vs:List V},lQ K C G0 A H H' ds vs->vs.length=ds.length
 | _,_,.nil=>rfl
 | _,_,.cons _ t=>by rw[cI,cI,t.len]
theorem lQ.early(e:aI H H1):∀{ds:List D} {vs:List V},lQ K C G0 A H1 H' ds vs->lQ K C G0 A H H' ds vs
 | _,_,.nil=>.nil
 | _,_,.cons q t=>.cons (q.early e) (t.early e)
theorem lQ.get:∀{ds:List D} {vs:List V} {j:Nat} {d:D},lQ K C G0 A H H' ds vs->ds[j]?=some d->∃v,vs[j]?=some v/\Val K C .new G0 A H H' d v
 | _,_,_,_,.nil,h=>by simp at h
 | _,_,0,_,.cons q t,h=>by simp at h;subst h;exact⟨_,rfl,q⟩
 | _,_,j+1,_,.cons q t,h=>by
  rw[Fi]at h ⊢;exact t.get h
theorem lQ.at(q:lQ K C G0 A H H' ds vs)(h:xZ ds i=some d):∃v,xZ vs i=some v/\Val K C .new G0 A H H' d v:=by
 unfold xZ at h ⊢;rw[q.len];cases hj:AO ds.length i with
 | none=>rw[hj]at h;cases h
 | some j=>rw[hj]at h;exact q.get h
end
section
variable {X:Cx}{C:Cfg}{G0:Hp}{Γ:List SK}{E:L2.St->XK}{b c:bf}{fb:DF}{mC:Kd}{es:List bf}{fs:DA}{pos pos':Pos}
def tDN(K:aD)(C:Cfg)(G0:Hp)(Γ:List SK)(E:L2.St->XK)(f:DA):TA:=fun σ H Q=>∃A st,RS K C G0 Γ σ H A st/\match f st with
 | .ok ds=>∀vs H',aI H H'->lQ K C G0 A H H' ds vs->Q vs H'
 | .ex c p=>∀H',aI H H'->IE (E σ) c p H'
 | .bad=>False
def Y7:PA X [] (tDN X.K C G0 Γ E ao):=m8.imp fun σ H Q jz=>jz.elim fun A n8=>n8.elim fun st sX=>sX.elim fun r q=>q [] H (.refl _) .nil
def Ti(ha:PE X e (tD X.K C G0 Γ E f .new))(hr:PA X es (tDN X.K C G0 Γ E fs))(hs:bJ (e::es) X.env=(false,eval e X.env)::bJ es X.env:=by rfl):PA X (e::es) (tDN X.K C G0 Γ E (aa f fs)):=(jb ha hr hs).imp fun σ H Q zz=>by
 walk_at"a";unfold aa R.bind at q;cases hf:f st with
 | bad=>walk_at"b"
 | ex c p=>walk_at"b"
 | ok a=>
  rw[hf]at q;walk_at"f";cases hb:fs st with
  | bad=>rw[hb]at q;exact q
  | ex c p=>rw[hb]at q;walk_at"g"
  | ok b=>rw[hb]at q;intro y H2 e2 w2;exact q (x::y) H2 (e1.trans e2) (.cons (w1.later e2) (w2.early e1))
def Tj(h:PA X es (tDN X.K C G0 Γ E fs))(hb:PE X b (tD X.K C G0 Γ E fb mC))(hs:kG b):PE X (.Subscript (.List es pos') b pos) (tD X.K C G0 Γ E (aB bH (br 100 fs) fb) .new):=(Nx ap4 (Nt h) hb hs).imp fun σ H Q zz=>by
 walk_at"a";unfold aB br R.bind at q;cases hf:fs st with
 | bad=>walk_at"b"
 | ex c p=>walk_at"b"
 | ok ds=>
  rw[hf]at q;dsimp only at q;by_cases hl:ds.length<=100;rw[aU3 hl]at q;dsimp only at q;intro vs H1 e1 w1;refine⟨oq (by rw[w1.len];exact hl),fun p hp=>?_⟩;have e1':=e1.trans (bT (o:=.lst vs) hp);refine⟨A,st,r.mono e1',?_⟩;cases hb:fb st with
  | bad=>rw[hb]at q;exact q
  | ex c p=>rw[hb]at q;exact fun H' e'=>q H' (e1'.trans e')
  | ok b=>
   rw[hb]at q;dsimp only at q;intro y H2 e2 w2;cases hg:bH (.lst ds) b with
   | bad=>rw[hg]at q;exact q.elim
   | ex c p=>exact aV5 hg Ou
   | ok d=>
    rw[hg]at q;obtain⟨i,rfl⟩:=IL hg;obtain rfl:y = .int i:=by have:=w2.rep;rw[Rep]at this;exact this
    have hz:xZ ds i=some d:=by
     unfold bH at hg;dsimp only at hg;cases hz:xZ ds i with
     | none=>rw[hz]at hg;cases hg
     | some d'=>rw[hz]at hg;cases hg;rfl
    refine aL (w1.at hz) fun v hv wv=>?_;exact .inl ⟨p,vs,i,v,rfl,rfl,.of (e2 _ _ cA),hv,q v H2 (e1'.trans e2) (wv.later ((bT hp).trans e2))⟩
  rw[aU4 hl]at q;exact q.elim
end
def dD(l:List ((Int×Int)×Int)):D:=.dH 1 (l.flatMap fun q=>[.int q.1.1,.int q.1.2,.int q.2])
def cellsOf:List D->Option (List (Int×Int))
 | []=>some []
 | .tup [.int r,.int c]::ds=>(cellsOf ds).map ((r,c) :: ·)
 | _=>none
def intsOf:List D->Option (List Int)
 | []=>some []
 | .int i::ds=>(intsOf ds).map (i :: ·)
 | _=>none
def VS:D->D->R D:=fun a b=>match a,b with
 | .lst xs,.lst ys=>(match cellsOf xs,intsOf ys with
  | some cs,some ns=>if(decide (cs.length=ns.length)&&decide cs.Nodup)=true then .ok (dD (cs.zip ns))else .bad
  | _,_=>.bad)
 | _,_=>.bad
section
variable {K:aD}{C:Cfg}{H:Hp}
theorem wO:∀{ds:List D} {cs:List (Int×Int)},cellsOf ds=some cs->ds=cs.map fun c=>.tup [.int c.1,.int c.2]
 | [],cs,h=>by cases h;rfl
 | .tup [.int r,.int c]::ds,cs,h=>by
  rw[cellsOf]at h;refine aL (MK.mp h) fun cs' h1 aT=>?_;walk_at"c";rw[wO h1];rfl
theorem jK:∀{ds:List D} {cs:List Int},intsOf ds=some cs->ds=cs.map D.int
 | [],cs,h=>by cases h;rfl
 | .int r::ds,cs,h=>by
  rw[intsOf]at h;refine aL (MK.mp h) fun cs' h1 aT=>?_;walk_at"c";rw[jK h1];rfl
theorem iz:∀{ns:List Int} {vs:List V},aH K C H (ns.map D.int) vs->vs=ns.map V.int
 | [],_,h=>by rw[jq,aH]at h;exact h
 | n::ns,_,h=>by
  rw[bh,aH]at h;refine b7 h fun v r aT q t=>?_;clear h;walk_at"c";rw[Rep]at q;subst q;rw[iz t];rfl
theorem zF:∀(ns:List Int),aH K C H (ns.map D.int) (ns.map V.int)
 | []=>by rw[jq,aH];rfl
 | n::ns=>by
  rw[bh,bh,aH];exact⟨_,_,rfl,by rw[Rep],zF ns⟩
theorem wQ:∀{cs:List (Int×Int)} {vs:List V},aH K C H (cs.map fun c=>.tup [.int c.1,.int c.2]) vs->∃as:List av,as.length=cs.length/\vs=as.map V.ref/\∀z∈cs.zip as,jA K H z.2 [.int z.1.1,.int z.1.2]
 | [],_,h=>by rw[jq,aH]at h;exact⟨[],rfl,h,fun z hz=>by cases hz⟩
 | c::cs,_,h=>by
  rw[bh,aH]at h;refine b7 h fun v r aT q t=>?_;clear h;walk_at"c";rw[Rep]at q;refine b7 q fun a xs aT h2 h3=>?_;clear q;walk_at"c";refine bK (wQ t) fun as h4 aT h5=>?_;walk_at"c";have e:=iz (ns:=[c.1,c.2]) h3;subst e;refine⟨a::as,by simp[h4],rfl,fun z hz=>?_⟩;rw[sG]at hz;rcases bD.mp hz with rfl|hz;exact h2;exact h5 z hz
end
theorem as8:∀(cs:List (Int×Int)) (as:List av) (ns:List Int),as.length=cs.length->ns.length=cs.length->(cs.zip (as.zip ns)).map (fun z=>z.2.1)=as/\(cs.zip (as.zip ns)).map (fun z=>z.2.2)=ns/\(cs.zip (as.zip ns)).map (·.1)=cs/\(cs.zip (as.zip ns)).map (fun z=>(z.1,z.2.2))=cs.zip ns/\∀z∈cs.zip (as.zip ns),(z.1,z.2.1)∈cs.zip as
 | [],[],[],_,_=>⟨rfl,rfl,rfl,rfl,fun z hz=>by cases hz⟩
 | c::cs,a::as,n::ns,h1,h2=>by
  refine AA (as8 cs as ns (by simpa using h1) (by simpa using h2)) fun i1 i2 i3 i4 i5=>?_;simp only[sG,bh,i1,i2,i3,i4,true_and];intro z hz;rcases bD.mp hz with rfl|hz;exact .head _;exact .tail _ (i5 z hz)
section
variable {X:Cx}{fL mC:Kd}
def Y8{ps:List DP}(h:ps.map (fun p=>(p.1,p.2.1,p.2.2.1))=l):XW ps=(l.flatMap fun z=>[z.1.1,z.1.2,z.2.2]).map V.int:=by
 subst h;unfold XW;rw[Mh,Mi];rfl
def wR(hc:X.calm=true)(hu:X.A.units+2<cLine)(hmd:X.mg "dict"=none)(hmz:X.mg "zip"=none)(ha:PE X a (tD X.K (dw Cb gl) G0 Γ E fa fL))(hb:PE X b (tD X.K (dw Cb gl) G0 Γ E fb mC))(hgd:Gl X "dict":=by rfl)(hgz:Gl X "zip":=by rfl)(la:fL.le .fD=true:=by rfl)(lb:mC.le .fD=true:=by rfl)
  (hs0:bJ [b] X.env=[(false,eval b X.env)]:=by rfl) (hs:bJ [a,b] X.env=(false,eval a X.env)::bJ [b] X.env:=by rfl) (sW:(backTo By (bJ [b] X.env)).any (·.1)=false:=by rfl)
  (OI:bJ [Expr.Call (.Name "zip" p2) [a,b] [] By] X.env=[(false,eval (.Call (.Name "zip" p2) [a,b] [] By) X.env)]:=by rfl) :
  PE X (.Call (.Name "dict" p1) [.Call (.Name "zip" p2) [a,b] [] By] [] pos) (tD X.K (dw Cb gl) G0 Γ E (aB VS fa fb) .new):=(Hj hc hu hgd hgz hmd hmz (dZ (κ:=.fD) ha (dZ (κ:=.fD) hb mD lb hs0) la hs) hs sW OI).imp fun σ H Q zz=>by
 walk_at"a";unfold aB R.bind at q;unfold aa R.bind;cases ha:fa st with
 | bad=>rw[ha]at q;exact q
 | ex c p=>rw[ha]at q;exact q
 | ok da=>
  rw[ha]at q;dsimp only at q ⊢;cases hb:fb st with
  | bad=>rw[hb]at q;exact q
  | ex c p=>rw[hb]at q;exact q
  | ok db=>
   rw[hb]at q;dsimp only[ao]at q ⊢;intro vs H1 e1 w1;cases hg:VS da db with
   | bad=>rw[hg]at q;exact q.elim
   | ex c p=>unfold VS at hg;split at hg;split at hg;split at hg <;> cases hg;cases hg;cases hg
   | ok d=>
    rw[hg]at q;unfold VS at hg;split at hg;rename_i xs ys;split at hg;rename_i cs ns hcs hns;split at hg;rename_i VT;cases hg;rw[bM,aU8,aU8]at VT;obtain⟨hlen,hnd⟩:=VT;rw[wO hcs,jK hns]at w1;rw[aH]at w1;refine b7 w1 fun v1 r1 aT q1 t1=>?_;clear w1;walk_at"c";rw[aH]at t1;refine b7 t1 fun v2 r2 aT q2 t2=>?_;clear t1;walk_at"c";rw[aH]at t2;subst t2;refine b7 (Rep.items (show Rep X.K (dw Cb gl) H1 _ _ from q1)) fun p xs1 aT s1 t1=>?_;walk_at"c";refine b7 (Rep.items (show Rep X.K (dw Cb gl) H1 _ _ from q2)) fun p' xs2 aT s2 t2=>?_;walk_at"c";refine bK (wQ t1) fun as has aT hsq=>?_;walk_at"c";have e2:=iz t2;subst e2;refine AA (as8 cs as ns has hlen.symm) fun i1 i2 i3 i4 i5=>?_;refine⟨p,p',cs.zip (as.zip ns),rfl,?_,?_,fun z hz=>hsq _ (i5 z hz),by rw[i3];exact hnd,fun d ps hd Y9=>?_⟩;rw[show(cs.zip (as.zip ns)).map (fun z=>V.ref z.2.1)=((cs.zip (as.zip ns)).map fun z=>z.2.1).map V.ref by rw[cU];rfl,i1];exact s1;rw[show(cs.zip (as.zip ns)).map (fun z=>V.int z.2.2)=((cs.zip (as.zip ns)).map fun z=>z.2.2).map V.int by rw[cU];rfl,i2];exact s2;have e':aI H (upd H1 d (.ext (DX d ps))):=e1.trans (bT hd);have Bp:H d=none:=e1.free hd;refine q (.ref d) _ e' ⟨?_,.not rfl rfl⟩;unfold dD;rw[Rep];refine⟨d,XW ps,rfl,.inr (.inl ⟨rfl,ps,rfl,by rw[k7 Bp];exact cA,fun z hz=>?_⟩),?_⟩;refine(jC.nw e').sq (aI.tup (bT hd) (hsq (z.1,z.2.1) (i5 (z.1,z.2.1,z.2.2.1) ?_)));rw[<- Y9];exact aX.mpr ⟨z,hz,rfl⟩;rw[Y8 Y9];have:((cs.zip ns).flatMap fun q=>[D.int q.1.1,D.int q.1.2,D.int q.2])=((cs.zip (as.zip ns)).flatMap fun z=>[z.1.1,z.1.2,z.2.2]).map D.int:=by rw[Mh,<- i4,Mi];rfl
    rw[this];exact zF _;cases hg;cases hg;cases hg
end
def jF:List D->Int->Int->Option Int
 | .int r' :: .int c' :: .int n::ds,r,c=>if r'=r/\c'=c then some n else jF ds r c
 | _,_,_=>none
def mF:D->D->R D:=fun a b=>match a,b with
 | .dH 1 ds,.tup [.int r,.int c]=>(match jF ds r c with|some n=>.ok (.int n)|none=>.bad)
 | _,_=>.bad
def rDX(K:aD):R2:=fun x y H Q=>∃(a b:av) (ps:List DP) (r c:Int) (p:DP),x = .ref a/\y = .ref b/\H a=some (.ext (DX a ps))/\(∀p∈ps,jA K H p.2.1 [.int p.1.1,.int p.1.2])/\jA K H b [.int r,.int c]/\p∈ps/\p.1=(r,c)/\Q (.int p.2.2.1) H
def at0(hn:((P6 ps).map (·.1)).Nodup)(hp:p∈ps):atKey (P6 ps) [p.1.1,p.1.2]=some (p.2.1,.int p.2.2.1 p.2.2.2):=by
 obtain⟨i,hi⟩:=List.getElem?_of_mem hp;refine atKey_of_get hn (i:=i) ?_;unfold P6;rw[cG,hi];rfl
section
def at1(hu:X.A.units+1<cLine):QU X (rDX X.K):=by
 intro value slice ak s σ H x y v u Q I rx ry h hs;refine aC4 h fun a b ps r c p zo6 zo7 ha hk hb hp he q=>?_;clear h;obtain rfl:=zo6;obtain rfl:=zo7;cases rx;cases ry;refine qH ((show i0 X.prog X.w H s.heap a (.ext (DX a ps))from I.dX a _ ha)) fun dx _ _=>?_;have dd:s.heap.DictOfH (tupleKind (intKind X.prog X.w)) a (P6 ps):=dx.dict fun p hp=>wL I (hk p hp);have hT:s.TypeIs (.ref a) "dict":=dd.typeIs;have hn:((P6 ps).map (·.1)).Nodup:=by obtain⟨_,_,_,_,_,_,_,_,z⟩:=dd;exact z
 have at':=at0 hn hp;rw[he]at at';unfold subscriptTail;refine aq ?_;rw[getitemInPython_of_ne hT.not_modules];refine aq (sj hT PySem.F.slot_dict_getitem.lookup ?_);have fin:aC (aF X.prog X.w) X.A (subscripted slice false (.ref a) (.ref b)) (fun r XQ=>aC (aF X.prog X.w) X.A (letTemporaryGo value (.ref a) r>>=fun _=>pure r) (EP X ak σ Q) X.xe XQ) X.xe s:=by rw[hs];refine wpAny_operating (wpAny_getItem_heap (tupleKind_room_in1 hu) (wL I hb) dd at' ?_);exact aq (wpAny_letTemporaryGo (aG ⟨.int p.2.2.1,H,I.tok _,⟨_,rfl⟩,q⟩))
 first
  | exact aG (aq fin)
  | exact aq (aG (aq fin))
  | exact aq fin
end
theorem Dy{K:aD}{C:Cfg}{H:Hp}{r c n:Int}:∀(ps:List DP) {ds:List D},aH K C H ds (XW ps)->jF ds r c=some n->∃p∈ps,p.1=(r,c)/\p.2.2.1=n
 | [],ds,w,h=>by
  cases ds with
  | nil=>simp[jF]at h
  | cons d ds=>rw[aH]at w;obtain⟨v,r,e,_⟩:=w;cases e
 | p::ps,ds,w,h=>by
  have e:XW (p::ps) = .int p.1.1 :: .int p.1.2 :: .int p.2.2.1::XW ps:=rfl;rw[e]at w;match ds,w,h with
  | [],w,h=>simp[jF]at h
  | [_],w,h=>simp[jF]at h
  | [_,_],w,h=>simp[jF]at h
  | d1::d2::d3::ds,w,h=>
   rw[aH]at w;obtain⟨v1,r1,e1,q1,w⟩:=w;rw[aH]at w;obtain⟨v2,r2,e2,q2,w⟩:=w;rw[aH]at w;obtain⟨v3,r3,e3,q3,w⟩:=w;subst e2;subst e3;injection e1 with e1 e4;injection e4 with e2 e5;injection e5 with e3 e6;subst e1 e2 e3 e6;cases d1 with
   | int r'=>
    cases d2 with
    | int c'=>
     cases d3 with
     | int n'=>rw[Rep]at q1 q2 q3;injection q1 with q1;injection q2 with q2;injection q3 with q3;rw[jF]at h;split at h;rename_i hc;cases h;exact⟨p,.head _,ju (q1.trans hc.1) (q2.trans hc.2),q3⟩;obtain⟨p',hp,h1⟩:=Dy ps w h;exact⟨p',.tail _ hp,h1⟩
     | _=>simp[jF]at h
    | _=>simp[jF]at h
   | _=>simp[jF]at h
def Tn(h:mF a b = .ok d):∃ds r c n,a = .dH 1 ds/\b = .tup [.int r,.int c]/\jF ds r c=some n/\d = .int n:=by
 unfold mF at h;split at h;split at h;rename_i n hl;cases h;exact⟨_,_,_,n,rfl,rfl,hl,rfl⟩;cases h;cases h
def To:mF a b≠ .ex c p:=by
 unfold mF;split;split <;> exact fun h=>(by cases h)
 exact fun h=>(by cases h)
section
def Tp{K:aD}:tE K (dw Cb gl) (rDX K) mF .new:=fun G0 Γ E σ A st H a b x y Q r qa qb q=>by
 cases hg:mF a b with
 | bad=>rw[hg]at q;exact q.elim
 | ex c p=>exact aV5 hg To
 | ok d=>
  rw[hg]at q;refine Wf (Tn hg) fun ds i c n yb JE hl zo7=>?_;obtain rfl:=yb;obtain rfl:=JE;obtain rfl:=zo7;rw[Rep]at qb;have qa:=(show Rep K (dw Cb gl) H (.dH 1 ds) x from qa)
  rw[Rep]at qa;refine b7 qa fun pa xs aT ob rs=>?_;clear qa;walk_at"c";refine b7 qb fun pb ys aT hb rb=>?_;clear qb;walk_at"c";have e2:=iz (ns:=[i,c]) rb;subst e2;rcases ob with(⟨z,_⟩|⟨c',z,_⟩)|⟨_,ps,rfl,h2,h3⟩|⟨z,_⟩;cases z;unfold OS at z;lia;refine bK (Dy ps rs hl) fun p hp hp1 Xf=>?_;refine⟨pa,pb,ps,i,c,p,rfl,rfl,h2,h3,hb,hp,hp1,?_⟩;rw[Xf];exact q _ H (.refl _) (.flat r (.refl _) (by rw[fU] <;> simp) pP _);cases z
def Yb(hu:X.A.units+1<cLine)(ha:PE X a (tD X.K (dw Cb gl) G0 Γ E fa fL))(hb:PE X b (tD X.K (dw Cb gl) G0 Γ E fb mC))(hs:kG b):PE X (.Subscript a b pos) (tD X.K (dw Cb gl) G0 Γ E (aB mF fa fb) .new):=ap1 (at1 hu) Tp ha hb hs
end
def Tq(K:aD)(C:Cfg):V->List V->Hp->VK->Prop:=fun x xs H Q=>∃v es d j,xs=[v]/\Rep K C H (.lst es) x/\Rep K C H d v/\flat d=true/\bW es=true/\jT es<=60/\es.findIdx? (fun e=>gP e d)=some j/\Q (.int j) H
theorem wU:∀(es:List D) {ys:List au},bI h es ys->ys.findIdx? (pV h d)=es.findIdx? fun e=>gP e d
 | [],_,q=>by rw[bI]at q;subst q;rfl
 | e::es,_,q=>by
  rw[bI]at q;refine b7 q fun v r aT a b=>?_;clear q;walk_at"c";rw[Fz,Fz,wm a,wU es b]
section
def Kv(hu:X.A.units+64<cLine):MtR X "list.index" (Tq X.K C):=by
 intro ak s σ H x vs v us Q I rx rv h;refine aC3 h fun y es d j yb h1 h2 f1 f2 h3 hj q=>?_;clear h;obtain rfl:=yb;refine aL rv.one fun u fW ru=>?_;obtain rfl:=fW;have hd:=Inv.dat I d f1 h2 ru;have he:=Inv.dat I (.lst es) (by rw[flat];exact f2) h1 rx;rw[fM]at he;refine b7 he fun a it aT nM p=>?_;clear he;walk_at"c";obtain⟨o,n,e,hc,hdi,hda⟩:=nM;obtain⟨oc,od,oda,os⟩:=o;simp only at hc hdi hda;subst hc hdi hda;have hlen:it.size<=bO:=by refine b7 (Rep.items h1) fun a' xs ea sq _=>?_;subst ea;cases rx;refine bK (I.list sq) fun b6 rv' pl hz=>?_;refine qJ pl fun o' n' e' _ _ QN=>?_;clear pl;rw[e]at e';cases e';cases QN;have:=rv'.length;simp;lia
 rw[<- wU es p,List.findIdx?_eq_some_iff_getElem]at hj;refine aL hj fun hj1 hj2 hj3=>?_;clear hj;refine vf MS ⟨_,e,rfl⟩ PySem.F.entry_list_index (PySem.F.args_list_index_2 _ _) (PySem.SeqAt.list_indexAt a it n none os u (pV s.heap d) j (by simpa using hj1) ?_ (by simpa using hj2) (fun m hm gh=>by simpa using hj3 m gh)) ⟨e,fun y hy=>jZ f1 hd f2 p (by show X.A.units+1+_<_;lia) y (vD.mpr hy),⟨.int j,H,I.tok _,⟨_,rfl⟩,q⟩⟩;have:j<it.size:=by simpa using hj1
 have h24:bO=16777216:=by rw[gC]
 lia
end
def mG:D->D->R D:=fun a b=>match a with
 | .lst es=>if(flat b&&bW es&&decide (jT es<=60))=true then(match es.findIdx? (fun e=>gP e b)with|some j=>.ok (.int (j:Nat))|none=>.bad)else .bad
 | _=>.bad
def Kw(h:mG a b = .ok d):∃es j,a = .lst es/\flat b=true/\bW es=true/\jT es<=60/\es.findIdx? (fun e=>gP e b)=some j/\d = .int (j:Nat):=by
 unfold mG at h;split at h;split at h;rename_i hc;simp only[bM,aU8]at hc;split at h;rename_i j hj;cases h;exact⟨_,j,rfl,hc.1.1,hc.1.2,hc.2,hj,rfl⟩;cases h;cases h;cases h
def Kx:mG a b≠ .ex c p:=by
 unfold mG;split;split;split <;> exact fun h=>(by cases h)
 exact fun h=>(by cases h)
 exact fun h=>(by cases h)
def iD(fa fb:DF):DF:=fun st=>(fa st).bind fun a=>match a with | .lst es=>(fb st).bind fun b=>mG (.lst es) b|_=>.bad
section
def Pg(hu:X.A.units+64<cLine)(ho:PE X o (tD X.K C G0 Γ E fa fL))(hb:PE X b (tD X.K C G0 Γ E fb mC))(lb:mC.le .fD=true:=by rfl)(Ny:rW o "index" X.env (eval o X.env)=eval o X.env:=by rfl)
  (WS:((backTo nQ (bJ [b] X.env)).all (fun x=>!x.1)&&(backToKw nQ (keywordEach [] X.env)).all (fun x=>x.1.isSome)&&decide (([b]:List bf).length+([]:List Keyword).length+(if([]:List Keyword).isEmpty then 0 else 1)<30))=true:=by rfl)
  (Nz:(apos.endLine==nQ.line)=true:=by rfl) (hs:bJ [b] X.env=[(false,eval b X.env)]:=by rfl) :
  PE X (.Call (.Attribute o "index" apos) [b] [] nQ) (tD X.K C G0 Γ E (iD fa fb) .new):=(Vv MT MS PySem.F.type_list_index (Kv (C:=C) hu) ho (dZ (κ:=.fD) hb mD lb hs) Ny WS Nz hs rfl).imp fun σ H Q zz=>by
 walk_at"a";unfold iD R.bind at q;cases ha:fa st with
 | bad=>rw[ha]at q;exact q
 | ex c p=>rw[ha]at q;exact q
 | ok da=>
  rw[ha]at q;intro x H1 e1 w1;dsimp only at q;cases da with
  | lst es=>
   dsimp only at q;refine b7 w1.rep.items fun p xs aT sq _=>?_;walk_at"c";refine⟨.inl ⟨rfl,xs,sq⟩,A,st,r.mono e1,?_⟩;unfold aa R.bind;cases hb:fb st with
   | bad=>rw[hb]at q;exact q
   | ex c p=>rw[hb]at q;walk_at"g"
   | ok db=>
    rw[hb]at q;dsimp only[ao]at q ⊢;intro vs H2 e2 w2;cases hg:mG (.lst es) db with
    | bad=>rw[hg]at q;exact q.elim
    | ex c p=>exact aV5 hg Kx
    | ok d=>rw[hg]at q;refine Ra (Kw hg) fun Lf j e' f1 f2 h3 hj zo7=>?_;obtain rfl:=zo7;cases e';refine aL (iY w2) fun v fW w3=>?_;obtain rfl:=fW;exact⟨v,es,db,j,rfl,w1.rep.same e2 _,w3,f1,f2,h3,hj,q _ H2 (e1.trans e2) (.flat r (e1.trans e2) (by rw[fU] <;> simp) pP _)⟩
  | _=>exact q.elim
end
theorem preSum_eq(ns:List Int):∀k,k<=ns.length->preSum (fun i=>ns.getD i 0) k=(ns.take k).sum
 | 0,_=>rfl
 | k+1,h=>by
  have hk:k<ns.length:=by lia
  rw[preSum,preSum_eq ns k (by lia),List.take_succ_eq_append_getElem hk,List.sum_append];simp[hk]
def rA(ns:List Int):Int:=ns.getD (argBest (fun i j=>decide (ns.getD i 0<ns.getD j 0)) (ns.length-1)) 0
def Tr(h:n∈ns):rA ns<=n:=by
 obtain⟨i,hi,rfl⟩:=jP.mp h;have:=(argBest_lt (fun i=>ns.getD i 0) (ns.length-1)).2 i (by lia);simpa[rA,hi]using this
section
def ints_get{ns:List Int}(rv:Vals (ns.map V.int) b6){i:Nat}(h:b6.toArray[i]?=some v):∃t,v = .int (ns.getD i 0) t:=by
 have h3:b6[i]?=some v:=by simpa using h
 have hi:i<b6.length:=(fV.mp h3).1;have hl:b6.length=ns.length:=by rw[<- rv.length,bL]
 have hb:(ns.map V.int)[i]?=some (.int (ns.getD i 0)):=by
  rw[cG,c7 (by lia)];have:i<ns.length:=by lia
  simp[this]
 refine aL (rv.get hb) fun u h1 h2=>?_;rw[h1]at h3;cases h3;exact h2
def Ky(hh:X.A.handled=none):jB X (.builtin "sum") (fun xs H Q=>∃(p:av) (ns:List Int),xs=[.ref p]/\ja X.K H p (ns.map V.int)/\Q (.int ns.sum) H):=by
 intro ak s σ H xs us Q I r ⟨p,ns,e,hq,q⟩;subst e;refine aL (vals1 r) fun u fW rx=>?_;obtain rfl:=fW;cases rx;refine bK (I.list hq) fun b6 rv pl hz=>?_;have hl:b6.length=ns.length:=by rw[<- rv.length,bL]
 have gh:p<s.heap.objs.size:=by obtain⟨o,h1,_⟩:=pl.isList;exact bQ h1
 have keep:∀b o,s.heap.get? b=some o->(s.heap.push {cls:=.type "list_iterator",data:=.fields #[.ref p,.int 0 0]}).get? b=some o:=fun b o e=>bV _ e;refine call_sum_walkG (Ck pl.isList ?_);refine⟨s.heap.objs.size,_,_,_,_,_,fun i=>ns.getD i 0,rfl,G7 (A:=X.A.in1) hh _ p (cu gh) b6.toArray,⟨⟨_,fJ _ rfl,rfl,rfl⟩,pl.isList.at fun o e=>keep _ _ e⟩,?_,fun i v hP=>ints_get rv hP,fun h' tk t' hk=>?_⟩;intro b hb;simp only[bD,eK,aV3]at hb;show b<(s.heap.push _).objs.size;rw[qF];first
  | (rcases hb with rfl|rfl;exact mS _;exact ny gh)
  | (subst hb;exact mS _)
 refine⟨.int ns.sum,H,I.kept fun b o e=>hk b o (by simpa using cu (bQ e)) (keep b o e),⟨t',?_⟩,q⟩;rw[preSum_eq ns _ (by simp[hl]),qf (by simp[hl])]
def Kz(hh:X.A.handled=none):jB X (.builtin "min") (fun xs H Q=>∃(p:av) (ns:List Int),xs=[.ref p]/\ns≠[]/\ja X.K H p (ns.map V.int)/\Q (.int (rA ns)) H):=by
 intro ak s σ H xs us Q I r ⟨p,ns,e,Lm,hq,q⟩;subst e;refine aL (vals1 r) fun u fW rx=>?_;obtain rfl:=fW;cases rx;refine bK (I.list hq) fun b6 rv pl hz=>?_;have hl:b6.length=ns.length:=by rw[<- rv.length,bL]
 have gh:p<s.heap.objs.size:=by obtain⟨o,h1,_⟩:=pl.isList;exact bQ h1
 have keep:∀b o,s.heap.get? b=some o->(s.heap.push {cls:=.type "list_iterator",data:=.fields #[.ref p,.int 0 0]}).get? b=some o:=fun b o e=>bV _ e;have SH:0<ns.length:=Aj.mpr Lm;refine call_min_walk (Ck pl.isList ?_);refine⟨s.heap.objs.size,_,_,_,_,_,fun i j=>decide (ns.getD i 0<ns.getD j 0),rfl,G7 (A:=X.A.in1) hh _ p (cu gh) b6.toArray,⟨⟨_,fJ _ rfl,rfl,rfl⟩,pl.isList.at fun o e=>keep _ _ e⟩,?_,by simp;lia,CmpOf.ints_lt (fun i=>ns.getD i 0) fun i v hP=>ints_get rv hP,fun v h' tk hP hk=>?_⟩;intro b hb;simp only[bD,eK,aV3]at hb;show b<(s.heap.push _).objs.size;rw[qF];first
  | (rcases hb with rfl|rfl;exact mS _;exact ny gh)
  | (subst hb;exact mS _)
 obtain⟨t,rfl⟩:=ints_get rv hP;refine⟨.int (rA ns),H,I.kept fun b o e=>hk b o (by simpa using cu (bQ e)) (keep b o e),⟨t,?_⟩,q⟩;unfold rA;rw[show b6.toArray.size=ns.length by simp[hl]]
end
def wV:List D->R D:=fun ds=>match ds with | [.lst es]=>(match intsOf es with|some ns=>.ok (.int ns.sum)|none=>.bad)|_=>.bad
def uA:List D->R D:=fun ds=>match ds with | [.lst es]=>(match intsOf es with|some (n::ns)=>.ok (.int (rA (n::ns)))|_=>.bad)|_=>.bad
def Yc:gY "sum"=some (.builtin "sum"):=by decide +kernel
def Yd:gY "min"=some (.builtin "min"):=by decide +kernel
def Tt(h:wV ds = .ok d):∃ns:List Int,ds=[.lst (ns.map D.int)]/\d = .int ns.sum:=by
 unfold wV at h;split at h;split at h;rename_i ns hn;cases h;exact⟨ns,by rw[jK hn],rfl⟩;cases h;cases h
def Tu:wV ds≠ .ex c p:=by
 unfold wV;split;split <;> exact fun h=>(by cases h)
 exact fun h=>(by cases h)
def Tv(h:uA ds = .ok d):∃ns:List Int,ns≠[]/\ds=[.lst (ns.map D.int)]/\d = .int (rA ns):=by
 unfold uA at h;split at h;split at h;rename_i n ns hn;cases h;exact⟨n::ns,by simp,by rw[jK hn],rfl⟩;cases h;cases h
def Tw:uA ds≠ .ex c p:=by
 unfold uA;split;split <;> exact fun h=>(by cases h)
 exact fun h=>(by cases h)
section
def Tz{K:aD}:Ow K C (fun xs H Q=>∃(p:av) (ns:List Int),xs=[.ref p]/\ja K H p (ns.map V.int)/\Q (.int ns.sum) H) wV .new:=fun G0 Γ E σ A st H ds xs Q r w q=>by
 cases hg:wV ds with
 | bad=>rw[hg]at q;exact q.elim
 | ex c p=>exact aV5 hg Tu
 | ok d=>rw[hg]at q;refine aL (Tt hg) fun ns fW aT=>?_;obtain rfl:=fW;walk_at"c";walk_at"h";walk_at"c";have:=iz t;subst this;exact⟨p,ns,rfl,s,q _ H (.refl _) (.flat r (.refl _) (by rw[fU] <;> simp) pP _)⟩
def TF{K:aD}:Ow K C (fun xs H Q=>∃(p:av) (ns:List Int),xs=[.ref p]/\ns≠[]/\ja K H p (ns.map V.int)/\Q (.int (rA ns)) H) uA .new:=fun G0 Γ E σ A st H ds xs Q r w q=>by
 cases hg:uA ds with
 | bad=>rw[hg]at q;exact q.elim
 | ex c p=>exact aV5 hg Tw
 | ok d=>rw[hg]at q;refine bK (Tv hg) fun ns Lm aT nM=>?_;walk_at"c";obtain rfl:=nM;walk_at"h";walk_at"c";have:=iz t;subst this;exact⟨p,ns,rfl,Lm,s,q _ H (.refl _) (.flat r (.refl _) (by rw[fU] <;> simp) pP _)⟩
end
section
def at3(i j k:Nat)(ta:TA):TS:=fun D σ H=>ta σ H fun vs H1=>∃v w u,vs=[v,w,u]/\D.nx (((σ.set k (some u)).set j (some w)).set i (some v)) H1
def TH{kt k2 Gh}(hc:X.calm=true)(hN:X.N.Nodup)(hi:X.N[i]?=some x)(hj:X.N[j]?=some y)(hk:X.N[k]?=some z)
  (hx:X.env.scope.names.lookup x=some .local) (hy:X.env.scope.names.lookup y=some .local) (hz:X.env.scope.names.lookup z=some .local) (ha:PA X [a,b,c] ta)
  (hw:swappedStores [.Tuple [.Name x px,.Name y py,.Name z pz] kt pt] (.Tuple [a,b,c] k2 Gh) X.env=pure (some [x,y,z]))
  (hs:swapsWithSole [.Tuple [.Name x px,.Name y py,.Name z pz] kt pt] (.Tuple [a,b,c] k2 Gh) pos.line X.env=pure false:=by rfl) :
  PS X (.Assign [.Tuple [.Name x px,.Name y py,.Name z pz] kt pt] (.Tuple [a,b,c] k2 Gh) pos) (at3 i j k ta):=by
 intro ak s σ H D I h;rw[exec_Assign_arm];refine aq (yL ?_);rw[hs];refine aq (aG ?_);rw[aU4 (by decide)];refine aq (Tuple_ (gA (ha _ ak s σ H _ I h) fun us s1 jz=>?_));refine b7 jz fun vs H1 I1 r1 q1=>?_;clear jz;obtain⟨v,w,u,e1,q1⟩:=q1;subst e1;obtain⟨u1,u2,u3,rfl,rv,Jw,ru⟩:∃u1 u2 u3,us=[u1,u2,u3]/\L2.RelV v u1/\L2.RelV w u2/\L2.RelV u u3:=by
  cases r1 with
  | cons p q=>
   cases q with
   | cons p' q'=>
    cases q' with
    | cons p2 q2=>cases q2;exact⟨_,_,_,rfl,p,p',p2⟩
 refine qC ?_ (by show 3<=bO;decide);have I2:L2.Inv X ak σ H1 {s1 with heap:=s1.heap.push {cls:=.type "tuple",data:=.seq [u1,u2,u3].toArray}}:=I1.kept (t':=s1.toks) fun b o e=>bV _ e;rw[hw];refine aq (aG ?_);show aC (aF X.prog X.w) X.A (do rule "assign.swapped-stores";let items <- unpackItems (.ref s1.heap.objs.size) 3 none;assignInOrder [fun v=>bindName X.env z v,fun v=>bindName X.env y v,fun v=>bindName X.env x v] items.reverse;pure Flow.next) _ _ _;refine aq (yM (aq (Vm (items:=#[u1,u2,u3]) (I.ok.hd hc) (MF s1.heap _) fun h' qO=>?_)));have I3:=I2.kept (h':=h') (t':=s1.toks) fun b o e=>qO b o (cu (bQ e)) e;show aC _ _ (assignInOrder [fun v=>bindName X.env z v,fun v=>bindName X.env y v,fun v=>bindName X.env x v] [u3,u2,u1]>>=fun _=>pure Flow.next) _ _ _;refine aq (yO (Cj (jR I3 hN hk (.inl hz) ru (fun s2 I4=>?_) (.inr hz))));refine yO (Cj (jR I4 hN hj (.inl hy) Jw (fun s3 I5=>?_) (.inr hy)));refine yO (Cj (jR I5 hN hi (.inl hx) rv (fun s4 I6=>MD (aG ?_)) (.inr hx)));exact⟨_,H1,I6,q1⟩
end
section
def uo(i j k:Nat)(fs:DA):DS:=fun st=>match fs st with | .ok [a,b,c]=>.nx (((st.set k (some c)).set j (some b)).set i (some a)) | .ok _=>.bad | .ex c p=>.ex c p st | .bad=>.bad
def TJ{kt kk Gh}(hc:X.calm=true)(hN:X.N.Nodup)(ha:PA X [a,b,c] (Bg X.K C G0 Γ E fs .new))(hk1:Γ[i]?=some k1:=by rfl)(hk2:Γ[j]?=some k2:=by rfl)(hk3:Γ[k]?=some k3:=by rfl)
  (Ln:k1.takes .old=true:=by rfl) (XU:k2.takes .old=true:=by rfl) (hl3:k3.takes .old=true:=by rfl) (hi:X.N[i]?=some x:=by rfl) (hj:X.N[j]?=some y:=by rfl) (hk:X.N[k]?=some z:=by rfl) (hx:X.env.scope.names.lookup x=some .local:=by rfl) (hy:X.env.scope.names.lookup y=some .local:=by rfl) (hz:X.env.scope.names.lookup z=some .local:=by rfl)
  (hw:swappedStores [.Tuple [.Name x px,.Name y py,.Name z pz] kt pt] (.Tuple [a,b,c] kk Gh) X.env=pure (some [x,y,z]):=by rfl)
  (hs:swapsWithSole [.Tuple [.Name x px,.Name y py,.Name z pz] kt pt] (.Tuple [a,b,c] kk Gh) pos.line X.env=pure false:=by rfl) :
  PS X (.Assign [.Tuple [.Name x px,.Name y py,.Name z pz] kt pt] (.Tuple [a,b,c] kk Gh) pos) (jD X.K C G0 Γ E gq (uo i j k fs)):=(TH hc hN hi hj hk hx hy hz ha hw hs).imp fun D σ H zz=>by
 walk_at"a";unfold uo at q;cases hf:fs st with
 | bad=>walk_at"b"
 | ex c p=>rw[hf]at q;walk_at"d"
 | ok ds=>
  rw[hf]at q;match ds,q with
  | [a,b,c],q=>intro vs H1 e1 w;rw[aH]at w;obtain⟨v,r1,rfl,wa,w⟩:=w;rw[aH]at w;obtain⟨v2,r2,rfl,wb,w⟩:=w;obtain⟨v3,rfl,wc⟩:=iY w;refine⟨v,v2,v3,rfl,?_⟩;have wa':Rep X.K C (er H1 A) a v:=wa.same (r.nZ e1) _;have wb':Rep X.K C (er H1 A) b v2:=wb.same (r.nZ e1) _;have wc':Rep X.K C (er H1 A) c v3:=wc.same (r.nZ e1) _;refine bK ((r.mono e1).set (.refl _) hk3 hl3 (κ:=.old) wc') fun A1 s1 ee1 _=>?_;refine bK (s1.set (.refl _) hk2 XU (κ:=.old) (wb'.same ee1 _)) fun A2 s2 ee2 _=>?_;refine bK (s2.set (.refl _) hk1 Ln (κ:=.old) (wa'.same (ee1.trans ee2) _)) fun A3 s3 ee3 _=>?_;exact q _ _ A3 s3 ((((aK e1).trans ee1).trans ee2).trans ee3)
  | [],q=>exact q.elim
  | [_],q=>exact q.elim
  | [_,_],q=>exact q.elim
  | _::_::_::_::_,q=>exact q.elim
end
end Dm
namespace Dm
def BB(h:u+64<c):u+2<c:=by lia
def Ye(h:u+64<c):u+1<c:=by lia
end Dm
end aO2
section at4
namespace Dm
open PySem PySem.Spec PyProof.Rows L2
def KL(K:aD)(H:Hp)(ps:List SP)(EJ:List (List (List Int))):Prop:=EJ.length=ps.length/\∀z∈ps.zip EJ,oJ K H z.2 z.1.2.1
section
theorem keys_eq(I:L2.Inv X ak σ H s):∀{ps:List SP} {EJ:List (List (List Int))},(∀p∈ps,oJ X.K H p.1 p.2.1)->KL X.K H ps EJ->ps.map (·.1)=EJ
 | [],[],_,_=>rfl
 | [],_::_,_,h=>by cases h.1
 | _::_,[],_,h=>by cases h.1
 | p::ps,k::EJ,hk,h=>by
  rw[bh,keys_eq I (fun q m=>hk q (.tail _ m)) ⟨by simpa using h.1,fun z m=>h.2 z (.tail _ m)⟩];rw[(Hk.mE (intKind X.prog X.w)).inj (wM I (hk p (.head _))) (wM I (h.2 (p,k) (.head _)))]
def at5(K:aD)(neg:Bool):R2:=fun x y H Q=>∃a b ob ps ks EJ,x = .ref b/\y = .ref a/\H a=some (.ext (DY a ob ps))/\(∀p∈ps,oJ K H p.1 p.2.1)/\KL K H ps EJ/\oJ K H ks b/\(ps.map (·.1)=EJ->Q (.bl (if neg then !(atKey ps ks).isSome else(atKey ps ks).isSome)) H)
def KA(hu:X.A.units+2<cLine):pT X (gZ .NotIn) (at5 X.K true):=by
 intro ak s σ H x y v u Q I rx ry h;obtain⟨a,b,ob,ps,ks,EJ,rfl,rfl,ha,hk,hkl,hb,q⟩:=h;cases rx;cases ry;have q:=q (keys_eq I hk hkl);obtain⟨dd,hd,_⟩:=IY I ha hk;exact wpAny_notIn_heap (show X.A.units+1+1<cLine from hu) (wM I hb) hd dd ⟨.bl (!(atKey ps ks).isSome),H,I.tok _,rfl,q⟩
def at6(K:aD):V->V->V->Hp->(Hp->Prop)->Prop:=fun o i v H Q=>∃a b ob ps ks EJ,o = .ref a/\i = .ref b/\H a=some (.ext (DY a ob ps))/\(∀p∈ps,oJ K H p.1 p.2.1)/\KL K H ps EJ/\oJ K H ks b/\ps.length<bO/\∀u Xk,RelV v u->ps.map (·.1)=EJ->Q (upd H a (.ext (DY a Xk (storedH ps ks b u))))
def Hr{ps:List SP}{ks:List (List Int)}{b:av}{u:au}:(storedH ps ks b u).length<=ps.length+1:=by
 unfold storedH;split;rw[bL];exact Ab _;rw[fj];exact b9 _
def at7(hu:X.A.units+2<cLine):Wx X (at6 X.K):=by
 intro ak s σ H o i v ov iv u Q I ro ri rv h;obtain⟨a,b,ob,ps,ks,EJ,rfl,rfl,ha,hk,hkl,hb,hl,q⟩:=h;cases ro;cases ri;obtain⟨dd,hd,hz⟩:=IY I ha hk;refine wpAny_setItem_heap (hsz:=hz) (show X.A.units+1+1<cLine from hu) (wM I hb) dd fun h' VQ hs=>?_;have he:∃q,h'.get? a=some q:=let⟨q,_,_,hq,_⟩:=VQ;⟨q,hq⟩;obtain⟨Xk,dy⟩:=DY.of hd (f9 Hr hl) VQ;exact⟨_,I.write (x:=a) (e:=a) (by rw[ha];trivial) (.inl rfl) (fun c w hc z=>(hs.2 c hc).trans z) he (VR dy),q u _ rv (keys_eq I hk hkl)⟩
def Inv.aO6(I:L2.Inv X ak σ H s):tX<s.heap.objs.size:=
 LS (by decide) (show gU<s.heap.objs.size from(I.mod.glob.keeps I.bk).lt)
def at8:TE:=fun σ H Q=>∀p o,H p=none->Q (.ref p) (upd H p (.ext (DY p o [])))
def Yg{h:aN}(hb:(h.objs.size==tX)=false):DY h.objs.size {cls:=.type "dict",data:=.dict #[]} [] (h.push {cls:=.type "dict",data:=.dict #[]}):=
 ⟨hb,ie _,fJ _ rfl,⟨rfl,rfl,rfl⟩,#[],0,rfl,fun _ _=>rfl,Fq⟩
def TL:PE X (.Dict [] [] pos) at8:=fun ak s σ H Q I h=>
 wpAny_Dict_empty ⟨.ref s.heap.objs.size,_,I.laid (a:=s.heap.objs.size) (o:=.ext (DY s.heap.objs.size _ [])) (t':=s.toks) (fun _ _ q=>bV _ q) (b9 _) (VR (Yg (aV0.mpr (fm (cu (Inv.aO6 I)))))),rfl,h _ _ (I.dX.fresh (b9 _))⟩
end
def DC:D->Option (List Int) | .tup ds=>intsOf ds|_=>none
def kZ:List D->Option (List (List Int))
 | []=>some []
 | d::ds=>match DC d,kZ ds with|some a,some r=>some (a::r)|_,_=>none
def wW:D->Option (List (List Int)) | .tup ds=>kZ ds|_=>none
def gr:List D->Option (List (List (List Int)×D×D))
 | []=>some []
 | k::v::r=>match wW k,gr r with|some a,some l=>some ((a,k,v)::l)|_,_=>none
 | _=>none
section
variable {K:aD}{C:Cfg}{H:Hp}
def DE(h:DC d=some a):d = .tup (a.map D.int):=by
 cases d with
 | tup ds=>rw[DC]at h;rw[jK h]
 | _=>cases h
theorem uq:∀{ds:List D} {ks:List (List Int)} {xs:List V},kZ ds=some ks->aH K C H ds xs->∃cs:List av,xs=cs.map V.ref/\cs.length=ks.length/\∀z∈ks.zip cs,jA K H z.2 (z.1.map V.int)
 | [],ks,xs,h,q=>by cases h;rw[aH]at q;subst q;exact⟨[],rfl,rfl,fun z m=>nomatch m⟩
 | d::ds,ks,xs,h,q=>by
  rw[kZ]at h;cases ha:DC d with
  | none=>rw[ha]at h;cases h
  | some a=>
   cases hr:kZ ds with
   | none=>rw[ha,hr]at h;cases h
   | some r=>
    rw[ha,hr]at h;cases h;rw[aH]at q;obtain⟨v,vs,rfl,q1,q2⟩:=q;obtain⟨cs,rfl,hl,hz⟩:=uq hr q2;rw[DE ha,Rep]at q1;obtain⟨c,ys,rfl,sq,rs⟩:=q1;have e:=iz rs;subst e;exact⟨c::cs,rfl,by simp[hl],fun z m=>by
     rcases bD.mp (show z∈(a,c)::r.zip cs from m)with rfl|m;exact sq;exact hz z m⟩
def uY(h:Rep K C H d v)(hk:wW d=some ks):∃b,v = .ref b/\oJ K H ks b:=by
 cases d with
 | tup ds=>rw[Rep]at h;obtain⟨a,xs,rfl,sq,rs⟩:=h;obtain⟨cs,rfl,hl,hz⟩:=uq hk rs;exact⟨a,rfl,cs,sq,hl,hz⟩
 | _=>cases hk
def zG(p:SP)(ps:List SP)(v:V)(vs:List V):qv (p::ps) (v::vs) = .ref p.2.1::v::qv ps vs:=rfl
def DG(h:Vals vs us):vs.length=us.length:=h.length
theorem wX:∀{ps:List SP} {vs:List V} {ds:List D} {l:List (List (List Int)×D×D)},vs.length=ps.length->aH K C H ds (qv ps vs)->gr ds=some l->
  ds=l.flatMap (fun z=>[z.2.1,z.2.2])/\KL K H ps (l.map (·.1))/\aH K C H (l.map (·.2.2)) vs/\aH K C H (l.map (·.2.1)) (ps.map fun p=>.ref p.2.1)
 | [],[],ds,l,_,q,h=>by
  have:qv [] []=[]:=rfl;rw[this]at q;cases ds with
  | nil=>cases h;exact⟨rfl,⟨rfl,fun z m=>nomatch m⟩,by rw[jq,aH],by rw[jq,aH];rfl⟩
  | cons d ds=>rw[aH]at q;obtain⟨_,_,z,_⟩:=q;cases z
 | [],_::_,_,_,e,_,_=>by cases e
 | _::_,[],_,_,e,_,_=>by cases e
 | p::ps,v::vs,ds,l,e,q,h=>by
  rw[zG]at q;cases ds with
  | nil=>rw[aH]at q;cases q
  | cons k ds=>
   cases ds with
   | nil=>rw[aH]at q;obtain⟨_,_,z,_,q⟩:=q;cases z;rw[aH]at q;cases q
   | cons w ds=>
    rw[gr]at h;cases ha:wW k with
    | none=>rw[ha]at h;cases h
    | some a=>
     cases hr:gr ds with
     | none=>rw[ha,hr]at h;cases h
     | some r=>rw[ha,hr]at h;cases h;rw[aH]at q;obtain⟨_,_,z,q1,q⟩:=q;cases z;rw[aH]at q;obtain⟨_,_,z,q2,q⟩:=q;cases z;obtain⟨i1,i2,i3,i4⟩:=wX (by simpa using e) q hr;obtain⟨b,z,hb⟩:=uY q1 ha;cases z;refine⟨by rw[FA,<- i1];rfl,⟨by simpa using i2.1,fun z m=>?_⟩,?_,?_⟩;rcases bD.mp (show z∈(p,a)::ps.zip (r.map (·.1))from m)with rfl|m;exact hb;exact i2.2 z m;rw[bh];exact .cons q2 i3;rw[bh,bh];exact .cons q1 i4
def DH(h:Rep K (dw Cb gl) H (.dH 2 ds) v)(hp:gr ds=some l):∃a o ps vs,v = .ref a/\Vals vs (ps.map (·.2.2))/\H a=some (.ext (DY a o ps))/\(∀p∈ps,oJ K H p.1 p.2.1)/\(∀l,V.ref l∈vs->∃ys,H l=some (.lst ys))/\
  KL K H ps (l.map (·.1))/\aH K (dw Cb gl) H (l.map (·.2.2)) vs/\aH K (dw Cb gl) H (l.map (·.2.1)) (ps.map fun p=>.ref p.2.1):=by
 rw[Rep]at h;obtain⟨a,xs,rfl,ob,rs⟩:=h;rcases ob with(⟨z,_⟩|⟨c,z,_⟩)|⟨z,_⟩|⟨_,o,ps,vs,rfl,h2,h3,h4,h5⟩;cases z;unfold OS at z;lia;cases z;obtain⟨_,i2,i3,i4⟩:=wX (by rw[DG h2,bL]) rs hp;exact⟨a,o,ps,vs,rfl,h2,h3,h4,h5,i2,i3,i4⟩
end
def Hs{ps:List SP}(h:ps.map (·.1)=EJ)(ks:List (List Int)):(atKey ps ks).isSome=EJ.any (fun k=>decide (k=ks)):=by
 subst h;unfold atKey;rw[Option.isSome_map];induction ps with
 | nil=>rfl
 | cons p ps ih=>
  rw[List.find?_cons,bh,vB];cases decide (p.1=ks)with
  | true=>rfl
  | false=>rw[MG];exact ih
def rB(neg:Bool):D->D->R D:=fun a b=>match wW a,b with
 | some ks,.dH 2 ds=>(match gr ds with|some l=>.ok (.bl (if neg then !(l.map (·.1)).any (fun k=>decide (k=ks))else(l.map (·.1)).any (fun k=>decide (k=ks))))|none=>.bad)
 | _,_=>.bad
def TM(h:rB neg a b = .ok d):∃ks ds l,wW a=some ks/\b = .dH 2 ds/\gr ds=some l/\d = .bl (if neg then !(l.map (·.1)).any (fun k=>decide (k=ks))else(l.map (·.1)).any (fun k=>decide (k=ks))):=by
 unfold rB at h;split at h;rename_i ks ds hk;split at h;rename_i l hl;cases h;exact⟨ks,ds,l,hk,rfl,hl,rfl⟩;cases h;cases h
def TN:rB neg a b≠ .ex c p:=by
 unfold rB;split;split <;> exact fun h=>(by cases h)
 exact fun h=>(by cases h)
section
variable {Cb:av}{gl:GL}{G0:Hp}{Γ:List SK}{E:L2.St->XK}{a b:bf}
def TQ{K:aD}{neg:Bool}:tE K (dw Cb gl) (at5 K neg) (rB neg) .new:=fun G0 Γ E σ A st H a b x y Q r qa qb q=>by
 cases hg:rB neg a b with
 | bad=>rw[hg]at q;exact q.elim
 | ex c p=>exact aV5 hg TN
 | ok d=>rw[hg]at q;obtain⟨ks,ds,l,hk,rfl,hl,rfl⟩:=TM hg;obtain⟨p,o,ps,vs,rfl,h1,h2,h3,_,h4,_⟩:=DH (show Rep K (dw Cb gl) H (.dH 2 ds) y from qb) hl;obtain⟨b',rfl,hb⟩:=uY qa hk;refine⟨p,b',o,ps,ks,_,rfl,rfl,h2,h3,h4,hb,fun z=>?_⟩;rw[Hs z];exact q _ H (.refl _) (.flat r (.refl _) (by rw[fU] <;> simp) (by rw[Rep]) _)
end
def uB(f:DF)(F:DS):Nat->DS
 | 0,_=>.bad
 | n+1,st=>match f st with
  | .ok (.bl true)=>(match F st with
   | .nx st'=>uB f F n st'
   | .ct st'=>uB f F n st'
   | .bk st'=>.nx st'
   | o=>o)
  | .ok (.bl false)=>.nx st
  | .ok _=>.bad
  | .ex c p=>.ex c p st
  | .bad=>.bad
section
def Ph(n:Nat)(hp:PassesOwn (aF X.prog X.w) X.A X.env X.xe)(hc:PT X c (uW X.K C G0 Γ E f))(hb:mZ X ss (jD X.K C G0 Γ E gq F)):PS X (.While c ss [] pos) (jD X.K C G0 Γ E gq (uB f F n)):=(Nf hp hc hb).imp fun D σ H zz=>by
 refine cj zz fun A st r q=>?_;clear zz;refine⟨fun m EG H1=>∃A1 l7,RS X.K C G0 Γ EG H1 A1 l7/\aI (er H A) (er H1 A1)/\uB f F m l7=uB f F n st,⟨n,A,st,r,.refl _,rfl⟩,?_⟩;intro m EG H1 w1;refine b7 w1 fun A1 l7 r1 e1 g1=>?_;clear w1;refine⟨A1,l7,r1,?_⟩;rw[<- g1]at q;cases m with
 | zero=>exact q.elim
 | succ m=>
  rw[uB]at q g1;cases hf:f l7 with
  | bad=>walk_at"b"
  | ex cl p=>rw[hf]at q;exact fun H' e'=>q EG H' A1 (r1.mono e') (e1.trans (aK e'))
  | ok d=>
   rw[hf]at q g1;cases d with
   | bl b=>
    intro H2 e2;cases b with
    | false=>rw[aU4 iW];exact q EG H2 A1 (r1.mono e2) (e1.trans (aK e2))
    | true=>
     rw[aU3 rfl];refine⟨fun Cw H3=>∃A3 Gm,RS X.K C G0 Γ Cw H3 A3 Gm/\aI (er H A) (er H3 A3)/\uB f F m Gm=uB f F n st,fun Cw H3 w=>⟨m,mS m,w⟩,A1,l7,r1.mono e2,?_⟩;dsimp only at q g1;cases hF:F l7 with
     | nx qp=>rw[hF]at g1;exact fun Lp H4 A4 r4 e4=>⟨A4,qp,r4,(e1.trans (aK e2)).trans e4,g1⟩
     | ct qp=>rw[hF]at g1;exact fun Lp H4 A4 r4 e4=>⟨A4,qp,r4,(e1.trans (aK e2)).trans e4,g1⟩
     | bk qp=>rw[hF]at q;exact fun Lp H4 A4 r4 e4=>q Lp H4 A4 r4 ((e1.trans (aK e2)).trans e4)
     | rt d=>rw[hF]at q;exact q
     | ex cl p qp=>rw[hF]at q;exact fun Lp H4 A4 r4 e4=>q Lp H4 A4 r4 ((e1.trans (aK e2)).trans e4)
     | bad=>rw[hF]at q;exact q
   | _=>exact q.elim
end
section
variable {K:aD}{Cb:av}{gl:GL}{G0:Hp}{Γ:List SK}{σ:L2.St}{H H':Hp}{A:List av}{st:eY}{κ:Kd}
def Val.dct(r:RS K (dw Cb gl) G0 Γ σ H A st)(e:aI H H'){ps:List SP}(h:H' p=none)(rel:Vals vs (ps.map (·.2.2)))(hk:∀q∈ps,oJ K (κ.hp G0 A H H') q.1 q.2.1)
  (hl:∀l,V.ref l∈vs->∃ys,κ.hp G0 A H H' l=some (.lst ys)) (q:aH K (dw Cb gl) (κ.hp G0 A H H') ds (qv ps vs)):Val K (dw Cb gl) κ G0 A H (upd H' p (.ext (DY p o ps))) (.dH 2 ds) (.ref p):=by
 have h0:H p=none:=e.free h;have S:aI (κ.hp G0 A H H') (er (κ.hp G0 A H (upd H' p (.ext (DY p o ps)))) [p]):=fun b u z=>by
  have nb:b≠p:=fun w=>by have:=Kd.wA _ _ z;rw[w,h]at this;cases this
  rw[aZ (by simpa using nb)];exact Kd.oh (bT h) _ _ z
 have at_:κ.hp G0 A H (upd H' p (.ext (DY p o ps))) p=some (.ext (DY p o ps)):=D6 r e h;have own:mz K (dw Cb gl) (er (κ.hp G0 A H (upd H' p (.ext (DY p o ps)))) [p]) (κ.hp G0 A H (upd H' p (.ext (DY p o ps)))) p (.dH 2 ds):=
  ⟨rfl,qv ps vs,⟨o,ps,vs,rfl,rel,at_,fun x m=>(hk x m).mono S,fun l m=>let⟨ys,z⟩:=hl l m;⟨ys,S _ _ z⟩⟩,q.same S _⟩
 have R:Rep K (dw Cb gl) (κ.hp G0 A H (upd H' p (.ext (DY p o ps)))) (.dH 2 ds) (.ref p):=own.rep (.refl _) rfl;have T:∀G,G p=none->kj K (dw Cb gl) G (κ.hp G0 A H (upd H' p (.ext (DY p o ps)))) (.dH 2 ds) (.ref p):=fun G g=>⟨fun _=>⟨p,rfl,g,own⟩,.not rfl⟩
 cases κ with
 | new=>exact⟨R,T _ h0⟩
 | pB=>exact⟨R,T _ h0⟩
 | loc=>exact⟨R,T _ (r.g0.free h0)⟩
 | old=>exact R
 | uU=>exact⟨R,T _ (r.g0.free h0)⟩
 | fD=>exact R
end
section
def TR:PE X (.Dict [] [] pos) (tD X.K (dw Cb gl) G0 Γ E (dC (.dH 2 [])) .new):=TL.imp fun σ H Q zz=>by
 obtain⟨A,st,r,q⟩:=zz;intro p o hp;exact q _ _ (bT hp) (Val.dct (ps:=[]) (vs:=[]) r (.refl _) hp .nil (fun _ m=>nomatch m) (fun _ m=>nomatch m) (by rw[aH];rfl))
def l5(o:Option (Option D)):Option (List D×List (List (List Int)×D×D)):=match o with
 | some (some (.dH 2 ds))=>(gr ds).map fun l=>(ds,l)
 | _=>none
def zH(h:l5 o=some z):o=some (some (.dH 2 z.1))/\gr z.1=some z.2:=by
 unfold l5 at h;split at h;rename_i ds;cases hp:gr ds with
 | none=>rw[hp]at h;cases h
 | some l=>rw[hp]at h;cases h;exact⟨rfl,hp⟩
 cases h
def wY(h:o=some (some (.dH 2 ds)))(hp:gr ds=some l):l5 o=some (ds,l):=by
 subst h;show(gr ds).map _=_;rw[hp];rfl
def okV:D->Bool
 | .lst _=>true
 | .int _=>true
 | .bl _=>true
 | _=>false
def J0(h:wW kd=some ks):fU kd=true:=by
 cases kd with
 | tup es=>
  rw[fU];refine dY ?_;replace h:kZ es=some ks:=h;induction es generalizing ks with
  | nil=>intro x m;cases m
  | cons y es ih=>
   intro x m;rw[kZ]at h;cases h1:DC y with
   | none=>rw[h1]at h;cases h
   | some a=>
    cases h2:kZ es with
    | none=>rw[h1,h2]at h;cases h
    | some r=>
     rcases bD.mp m with rfl|m;rw[DE h1,fU];exact dY fun z hz=>by obtain⟨w,_,rfl⟩:=aX.mp hz;rw[fU] <;> simp
     exact ih h2 x m
 | _=>cases h
theorem aH.au1{K:aD}{C:Cfg}{H:Hp}:∀{ds es:List D} {xs ys:List V},aH K C H ds xs->aH K C H es ys->aH K C H (ds++es) (xs++ys)
 | [],es,xs,ys,h,h'=>by rw[aH]at h;subst h;exact h'
 | d::ds,es,xs,ys,h,h'=>by
  rw[aH]at h;obtain⟨v,r,rfl,q,t⟩:=h;exact .cons q (aH.au1 t h')
def KC{ps:List SP}{vs:List V}(h:vs.length=ps.length):qv (ps++[p]) (vs++[v])=qv ps vs++[.ref p.2.1,v]:=by
 unfold qv;rw[List.zip_append h.symm,Ak];rfl
theorem Vals.snoc:∀{vs:List V} {us:List au} {v:V} {u:au},Vals vs us->RelV v u->Vals (vs++[v]) (us++[u])
 | _,_,v,u,.nil,h=>.cons h .nil
 | _,_,v,u,.cons r t,h=>.cons r (Vals.snoc t h)
end
def DJ(ks:List (List Int))(d:D):List D->List D
 | k::v::r=>k::(if wW k=some ks then d else v)::DJ ks d r
 | l=>l
def putD(ds:List D)(l:List (List (List Int)×D×D))(ks:List (List Int))(kd d:D):List D:=if(l.map (·.1)).any (fun k=>decide (k=ks))=true then DJ ks d ds else ds++[kd,d]
def J1(i:Nat)(st:eY)(z:List D×List (List (List Int)×D×D))(kd d:D):Out:=match wW kd with
 | some ks=>if z.2.length<=5000/\okV d=true then .nx (st.set i (some (.dH 2 (putD z.1 z.2 ks kd d))))else .bad
 | none=>.bad
def zI(i:Nat)(fk f:DF):DS:=fun st=>match f st with
 | .ok d=>(match l5 st[i]? with
  | some z=>(match fk st with
   | .ok kd=>J1 i st z kd d
   | .ex c p=>.ex c p st
   | .bad=>.bad)
  | none=>.bad)
 | .ex c p=>.ex c p st
 | .bad=>.bad
def pv(ks:List (List Int))(v:V):List SP->List V->List V
 | p::ps,w::vs=>(if p.1=ks then v else w)::pv ks v ps vs
 | _,_=>[]
theorem J2{K:aD}{C:Cfg}{H:Hp}{ks:List (List Int)}{d:D}{v:V}{u:au}(wv:Rep K C H d v)(ru:RelV v u):∀{ps:List SP} {vs:List V} {ds:List D} {l:List (List (List Int)×D×D)},Vals vs (ps.map (·.2.2))->aH K C H ds (qv ps vs)->gr ds=some l->ps.map (·.1)=l.map (·.1)->
  Vals (pv ks v ps vs) ((ps.map (putAt ks u)).map (·.2.2))/\aH K C H (DJ ks d ds) (qv (ps.map (putAt ks u)) (pv ks v ps vs))/\∀w∈pv ks v ps vs,w=v\/w∈vs
 | [],_,ds,l,rel,q,h,e=>by
  cases rel;have:l=[]:=by simpa using e.symm
  subst this;rw[show qv [] []=[]from rfl]at q;cases ds with
  | nil=>exact⟨.nil,q,fun w m=>nomatch m⟩
  | cons k ds=>rw[aH]at q;obtain⟨_,_,z,_⟩:=q;cases z
 | p::ps,vs,ds,l,rel,q,h,e=>by
  rw[bh]at rel;cases rel with
  | @cons w _ vs _ r1 t1=>
   rw[zG]at q;cases ds with
   | nil=>rw[aH]at q;cases q
   | cons k ds=>
    cases ds with
    | nil=>rw[aH]at q;obtain⟨_,_,z,_,q⟩:=q;cases z;rw[aH]at q;cases q
    | cons x ds=>
     rw[gr]at h;cases ha:wW k with
     | none=>rw[ha]at h;cases h
     | some a=>
      cases hr:gr ds with
      | none=>rw[ha,hr]at h;cases h
      | some rr=>
       rw[ha,hr]at h;cases h;rw[bh,bh]at e;injection e with e1 e2;rw[aH]at q;obtain⟨_,_,z,q1,q⟩:=q;cases z;rw[aH]at q;obtain⟨_,_,z,q2,q⟩:=q;cases z;obtain⟨i1,i2,i3⟩:=J2 wv ru t1 q hr e2;have e1:p.1=a:=e1;rw[DJ,ha,pv,bh,bh];by_cases c:p.1=ks;have c':some a=some ks:=by rw[<- e1,c]
       rw[aU3 c,aU3 c',show putAt ks u p=(p.1,p.2.1,u) by unfold putAt;rw[aU3 c]];exact⟨.cons ru i1,.cons q1 (.cons wv i2),fun y m=>(bD.mp m).elim .inl fun m=>(i3 y m).imp id (.tail _)⟩;have c':¬ some a=some ks:=fun z=>c (by rw[e1];injection z);rw[aU4 c,aU4 c',show putAt ks u p=p by unfold putAt;rw[aU4 c]];exact⟨.cons r1 i1,.cons q1 (.cons q2 i2),fun y m=>(bD.mp m).elim (fun z=>.inr (z ▸ .head _)) fun m=>(i3 y m).imp id (.tail _)⟩
section
def TU{i:Nat}{n:Bool}{x:Str}{p1 p2:Pos}{ix:bf}{fi:DF}(hu:X.A.units+2<cLine)(hx:PE X (.Name x p1) (qM i))(hi:PE X ix (tD X.K (dw Cb gl) G0 Γ E fi κ'))(he:PE X e (tD X.K (dw Cb gl) G0 Γ E f κ))(na:lM Γ=true)(hk:Γ[i]?=some (.own n):=by rfl)(hl:κ = .new:=by rfl)
  (ha:∀v,assign (.Subscript (.Name x p1) ix p2) X.env v=(do
   let ov <- holding [v] (eval (.Name x p1) X.env)
   let iv <- holding [v,ov] (eval ix X.env)
   standAt p2
   holding [v,ov,iv] (setItem ov iv v)
   release [v,ov,iv] []):=by intro _;rfl)
  (hs:swapsWithSole [sQ (.Name x p1) ix p2] e pos.line X.env=pure false:=by rfl) (hw:swappedStores [sQ (.Name x p1) ix p2] e X.env=pure none:=by rfl)
  (h1:(qB [sQ (.Name x p1) ix p2] X.env).map (·.2)=[assign (.Subscript (.Name x p1) ix p2) X.env]:=by rfl) :
  PS X (.Assign [.Subscript (.Name x p1) ix p2] e pos) (jD X.K (dw Cb gl) G0 Γ E gq (zI i fi f)):=(Gg he (Nc hx hi (at7 hu) ha) hs hw h1).imp fun D σ H zz=>by
 subst hl;obtain⟨A,st,r,q⟩:=zz;refine⟨A,st,r,?_⟩;unfold zI at q;cases hf:f st with
 | bad=>walk_at"b"
 | ex c p=>rw[hf]at q;walk_at"d"
 | ok d=>
  rw[hf]at q;dsimp only at q;cases pK:l5 st[i]? with
  | none=>rw[pK]at q;exact q.elim
  | some z=>
   obtain⟨pK,Y9⟩:=zH pK;obtain⟨ds,l⟩:=z;rw[wY pK Y9]at q;dsimp only at q pK Y9;intro v H1 e1 w1;obtain⟨p,h1,h2,h3,t2,xs,ow,h5⟩:=r.OF hk pK rfl;refine⟨_,h1,A,st,r.mono e1,?_⟩;cases hi:fi st with
   | bad=>rw[hi]at q;exact q
   | ex c p=>rw[hi]at q;exact fun H' e'=>q σ H' A (r.mono (e1.trans e')) (aK (e1.trans e'))
   | ok kd=>
    rw[hi]at q;dsimp only at q;intro vi H2 e2 w2;unfold J1 at q;cases hks:wW kd with
    | none=>rw[hks]at q;exact q.elim
    | some ks=>
     rw[hks]at q;dsimp only at q;by_cases hc:l.length<=5000/\okV d=true;rw[aU3 hc]at q;have ug:=e1.trans e2;have r':=r.mono ug;have S:aI (eh n G0 A H) (eh n G0 A H2):=by unfold eh;cases n;exact aK ug;exact bS (aK ug)
     have S2:aI (eh n G0 A H2) H2:=by unfold eh;cases n;exact aJ _ _;exact(cT _ _).trans (aJ _ _)
     obtain⟨ob,ps,vs,rfl,rel,hp,kp,pl⟩:=ow;have q5:aH X.K (dw Cb gl) (eh n G0 A H2) ds (qv ps vs):=h5.same S _;have hlen:vs.length=ps.length:=by rw[DG rel,bL]
     obtain⟨_,i2,_,_⟩:=wX hlen q5 Y9;have kp2:∀x∈ps,oJ X.K (eh n G0 A H2) x.1 x.2.1:=fun x m=>(kp x m).mono S;obtain⟨b,rfl,hb⟩:=uY w2.rep hks;have wk:Rep X.K (dw Cb gl) (eh n G0 A H2) kd (.ref b):=by unfold eh;cases n;exact Rep.part r'.IF _ (J0 hks) w2.rep;exact Rep.part r'.wu _ (J0 hks) w2.rep
     obtain⟨b2,hb2,hbk⟩:=uY wk hks;cases hb2;have w1':=w1.later e2;have wv:Rep X.K (dw Cb gl) (eh n G0 A H2) d v:=w1'.Xx r ug (by cases n <;> rfl);have plv:∀l',v = .ref l'->∃ys,eh n G0 A H2 l'=some (.lst ys):=fun l' zl=>by
      cases d with
      | lst es=>
       obtain⟨p',z,h0,ys,hy,_⟩:=w1'.2.1 rfl;rw[zl]at z;cases z;have nA:l'∉A:=fun m=>by obtain⟨o,w,_⟩:=r.lists l' m;rw[h0]at w;cases w
       have hy2:H2 l'=some (.lst ys):=cT _ _ _ _ hy;refine⟨ys,?_⟩;unfold eh;cases n;show er H2 A l'=_;rw[aZ nA];exact hy2;show nw G0 (er H2 A) l'=_;rw[k7 (r.g0.free h0),aZ nA];exact hy2
      | int k=>rw[Rep]at wv;rw[wv]at zl;cases zl
      | bl k=>rw[Rep]at wv;rw[wv]at zl;cases zl
      | _=>cases hc.2
     have hlp:l.length=ps.length:=by have:=i2.1;rw[bL]at this;exact this
     refine⟨p,b,ob,ps,ks,_,rfl,rfl,ug _ _ hp,fun x m=>(kp2 x m).mono S2,⟨i2.1,fun z m=>(i2.2 z m).mono S2⟩,hb,?_,fun u Xk ru zk=>?_⟩;rw[gC];have:=hc.1;lia;have fin:∀{IG ps' vs'},putD ds l ks kd d=IG->storedH ps ks b u=ps'->Vals vs' (ps'.map (·.2.2))->(∀x∈ps',oJ X.K (eh n G0 A H2) x.1 x.2.1)->(∀w∈vs',w=v\/w∈vs)->aH X.K (dw Cb gl) (eh n G0 A H2) IG (qv ps' vs')->D.nx _ _:=fun {IG ps' vs'} z1 z2 w1 w2 w3 w4=>by
      subst z1;subst z2;have own:mz X.K (dw Cb gl) (eh n G0 A H2) (upd H2 p (.ext (DY p Xk (storedH ps ks b u)))) p (.dH 2 (putD ds l ks kd d)):=by refine⟨rfl,_,⟨_,_,vs',rfl,w1,cA,w2,fun l' m=>?_⟩,w4⟩;rcases w3 _ m with e|m;exact plv l' e.symm;obtain⟨ys,z⟩:=pl l' m;exact⟨ys,S _ _ z⟩
      obtain⟨r2,e3⟩:=r'.ap8 na hk pK h1 h2 h3 rfl rfl own;exact q _ _ A r2 ((aK ug).trans e3)
     cases hn:atKey ps ks with
     | none=>refine fin (aU4 fun z=>by rw[<- Hs zk,hn]at z;cases z) (storedH_new hn b u) (vs':=vs++[v]) (by rw[qg];exact Vals.snoc rel ru) (fun x m=>?_) (fun w m=>?_) (by rw[KC hlen];exact aH.au1 q5 (.cons wk (.cons wv (by rw[aH]))));rcases gW.mp m with m|m;exact kp2 x m;obtain rfl:=eG.mp m;exact hbk;rcases gW.mp m with m|m;exact .inr m;exact .inl (eG.mp m)
     | some p0=>obtain⟨y1,y2,y3⟩:=J2 (ks:=ks) wv ru rel q5 Y9 zk;refine fin (aU3 (by rw[<- Hs zk,hn];rfl)) (storedH_old hn b u) y1 (fun x m=>?_) y3 y2;obtain⟨y,ym,rfl⟩:=aX.mp m;unfold putAt;split;exact kp2 y ym;exact kp2 y ym
     rw[aU4 hc]at q;exact q.elim
end
end Dm
end at4
section aO8
namespace Hk
open PySem
section
def KG{Q:au->ay->Prop}(hd:(d==tX)=false)(ho:s.heap.get? d=some od)(hx:od.ExactDict)(rC:od.data = .dict es ep)
  (hQ:Q (.ref s.heap.objs.size) {s with heap:=s.heap.push {cls:=.type "dict_keyiterator",data:=.fields #[.ref d,.int 0 0,.int es.size 0,.int ep 0]}}):aC (aF prog w) A (pyIter (.ref d)) Q E s:=by
 have hT:s.TypeIs (.ref d) "dict":=⟨od,ho,hx.1⟩
 refine LA hT MU (jM MU hT F.entry_dict_iter ?_ (F.args_dict_iter_1 _));unfold Builtin.«dict.__iter__»;refine aq ?_;unfold Builtin.Dict.dictSlotNone;refine aq (LD hT ?_);show aC _ _ (pure (f7 d)) _ _ s;refine aG ?_;show aC _ _ (N6 d>>=_) _ _ s;unfold N6;rw[aU4 (by rw[hd];exact iW)];refine aq (aG (aq (F1 ho rC (aq (F2 ho rC ?_)))));refine aq (qC (aG ⟨_,rfl,"dict_keyiterator",_,⟨_,fJ _ rfl,rfl⟩,vE.lookup,?_⟩));simpa[rawInt] using hQ
def KH{Q:Option au->ay->Prop}(hit:s.heap.IsKeyIter it d i es.size ep)(ho:s.heap.get? d=some od)(rC:od.data = .dict es ep)(hx:es[i]?=some e)
  (hQ:∀h',h'.IsKeyIter it d (i+1) es.size ep->jh it s.heap h'->Q (some e.key) {s with heap:=h'}):aC (aF prog w) A (pyNext (.ref it)) Q E s:=by
 obtain⟨o,hio,hc,hd⟩:=id hit;have gh:i<es.size:=(sJ.mp hx).1;have he:es[i]=e:=(sJ.mp hx).2;have Yh:N7 "dict_keyiterator"=false:=by decide
 unfold pyNext;refine aq (s8 (sd (name:=sP "__next__") hit.typeIs vE (jM vE hit.typeIs MV ?_ (MW _))));refine aq (aG (aq (aq ?_)));first|refine aq (A8 hit.typeIs (aG ?_))|refine aq (A9 hit.typeIs (aG ?_))
 refine aq (A0 hio hd ?_);simp only[Yh,cJ,aV1];show aC _ _ (if(f7 d==gR)=true then _ else _) _ _ s;rw[aU4 (show ¬ ((f7 d==gR)=true)from iW)];refine aq (aG (aq (F1 ho rC ?_)));rw[aU4 (by simp)];refine aq (aG (aq (F2 ho rC ?_)));rw[aU4 (by simp)];refine aG ?_;simp only[show ¬ ((i:Int)<0)from by omega,aV1,qk,MC gh,he];refine aq ?_;first|refine aq (A8 hit.typeIs (aG ?_))|refine aq (A9 hit.typeIs (aG ?_))
 refine aq (LH hit.typeIs ?_);show aC _ _ (setField (.ref it) 1 (rawInt ((i:Int)+1))>>=_) _ _ s;refine aq (rZ hio hd (by simp) ?_);have Hq:(s.heap.update it (Obj.mapFields (·.setIfInBounds 1 (rawInt ((i:Int)+1))))).IsKeyIter it d (i+1) es.size ep:=
  ⟨_,nt _ hio (Au (sO hd _)),(FU ..).trans hc,by rw[sO hd];simp[rawInt]⟩
 refine aq (jg ?_);refine aq (LH (s:={s with heap:=s.heap.update it (Obj.mapFields (·.setIfInBounds 1 (rawInt ((i:Int)+1))))}) Hq.typeIs ?_);show aC _ _ (pure e.key) _ _ _;exact aG (aG ⟨_,rfl,aG (hQ _ Hq (jt ..))⟩)
def Pj{Q:Option au->ay->Prop}(hh:A.handled=none)(hit:s.heap.IsKeyIter it d i es.size ep)(ho:s.heap.get? d=some od)(rC:od.data = .dict es ep)(hx:es.size<=i)
  (hQ:∀h',Heap.ExtBut it s.heap h'->Q none {s with heap:=h'}):aC (aF prog w) A (pyNext (.ref it)) Q E s:=by
 obtain⟨o,hio,hc,hd⟩:=id hit;have Yh:N7 "dict_keyiterator"=false:=by decide
 unfold pyNext;refine aq (s8 (sd (name:=sP "__next__") hit.typeIs vE (jM vE hit.typeIs MV ?_ (MW _))));refine aq (aG (aq (aq ?_)));first|refine aq (A8 hit.typeIs (aG ?_))|refine aq (A9 hit.typeIs (aG ?_))
 refine aq (A0 hio hd ?_);simp only[Yh,cJ,aV1];show aC _ _ (if(f7 d==gR)=true then _ else _) _ _ s;rw[aU4 (show ¬ ((f7 d==gR)=true)from iW)];refine aq (aG (aq (F1 ho rC ?_)));rw[aU4 (by simp)];refine aq (aG (aq (F2 ho rC ?_)));rw[aU4 (by simp)];refine aG ?_;simp only[show ¬ ((i:Int)<0)from by omega,aV1,qk,An hx];refine aq ?_;first|refine aq (A8 hit.typeIs (aG ?_))|refine aq (A9 hit.typeIs (aG ?_))
 show aC _ _ (setField (.ref it) 0 .none>>=_) _ _ s;refine aq (rZ hio hd (by simp) ?_);show aC _ _ (newExc (.type "StopIteration") []>>=_) _ _ _;refine aq ?_;simp only[newExc,newTuple];refine aq (qC ?_ (by size_fits));refine aq (m:=A7 _ _) (vg (a:=gR) (by first|rfl|(simp only[A7];rfl)) ?_);refine qC ?_ (by size_fits);simp only[raiseNew];refine aq (wpAny_handled ?_);rw[show A.in1.handled=none from hh];refine aq (aG (wpAny_throw ?_));refine aq (sf (T:="StopIteration") (b:=true) ⟨_,fJ _ rfl,rfl⟩ EZ ?_);exact aG (hQ _ (((jt ..).extBut.push _).push _))
end
end Hk
end aO8
section au3
namespace Dm
open PySem PySem.Spec PyProof.Rows L2
def ItK(a:av)(o:Obj)(ps:List SP):It:=
 ⟨fun i H=>H a=some (.ext (DY a o ps))/\i<ps.length,fun i H x H'=>∃p,ps[i]?=some p/\H'=H/\x = .ref p.2.1,fun i H=>H a=some (.ext (DY a o ps))/\ps.length<=i⟩
def Ht{P:cP}{w:bF}{K:aD}{tg:bf}{a it:av}{o:Obj}{ps:List SP}{es:Array DictEntry}{ep:Nat}(rC:o.data = .dict es ep)(hes:∀(P:cP) (w:bF),es.toList=ps.map (Cg (Hk.mE (intKind P w)))) :
  Turn P w K tg (ItK a o ps) [it] it (fun i h=>h.IsKeyIter it a i es.size ep) where
 mem:=by simp
 obj:=fun i h st b hb=>by
  obtain⟨oi,he,_,hd⟩:=st;obtain rfl:b=it:=by simpa using hb
  exact⟨_,he,fun v z=>by rw[hd]at z;cases z⟩
 keep:=fun i h h' st k=>st.at fun o e=>k it (by simp) o e
 item:=by
  walk_at"e";obtain⟨ha,hi⟩:=hg;obtain⟨⟨hsm,hz,ho,hx,_⟩,_,_⟩:=(show i0 X.prog X.w H s.heap a (.ext (DY a o ps))from I.dX a _ ha)
  obtain⟨p,hp⟩:∃p,ps[i]?=some p:=⟨ps[i],c7 hi⟩
  have hen:es[i]?=some (Cg (Hk.mE (intKind X.prog X.w)) p):=by rw[entry_at (hes X.prog X.w),hp];rfl
  obtain⟨f0,f1,f2,f3,f4,f5⟩:=hf it (by simp);refine Hk.KH st ho rC hen fun h' Hq hs=>⟨_,rfl,?_⟩
  obtain⟨oi,he,z8,hd⟩:=id Hq;refine Ic he z8 hd (by decide) ?_;exact⟨.ref p.2.1,H,I.turned (t':=s.toks) (fun b o hb q=>(hs.2 b hb).trans q) f0 f1 f3 f4 f5,rfl,⟨p,hp,rfl,rfl⟩,Hq,fun b hb=>by
   obtain rfl:b=it:=by simpa using hb
   exact f0⟩
 done:=by
  walk_at"e";obtain⟨ha,hi⟩:=hg;obtain⟨⟨hsm,hz,ho,hx,_⟩,_,_⟩:=(show i0 X.prog X.w H s.heap a (.ext (DY a o ps))from I.dX a _ ha)
  obtain⟨f0,f1,f2,f3,f4,f5⟩:=hf it (by simp);exact Hk.Pj (I.ok.hd hc) st ho rC (by rw[size_of_entries (hes X.prog X.w)];exact hi) fun h' eb=>⟨rfl,I.turned (t':=s.toks) (fun b o hb e=>eb b o hb e) f0 f1 f3 f4 f5⟩
 self:=fun A i s Q E st h=>wpAny_pyIter_keyiter st h
def aO9(to:TE):TI:=fun σ H R=>to σ H fun x H1=>∃a o ps,x = .ref a/\H1 a=some (.ext (DY a o ps))/\R (ItK a o ps) H1
section
def Pn{to:TE}(ho:PE X o to):PI X tg o (aO9 to):=by
 intro ak s σ H R I h;refine gA (ho ak s σ H _ I h) fun v s1 zz=>?_;obtain⟨x,H1,I1,r1,a,oo,ps,rfl,hx,q1⟩:=zz;cases r1;obtain⟨⟨hsm,hz,hg,qO,es,ep,rC,hes,hn⟩,_,_⟩:=(show i0 X.prog X.w H1 s1.heap a (.ext (DY a oo ps))from I1.dX a _ hx)
 refine Hk.KG hsm hg qO rC ?_;refine⟨_,[_],_,_,H1,rfl,I1.kept (t':=s1.toks) (fun b u z=>bV _ z),Ht rC hes,⟨_,fJ _ rfl,rfl,rfl⟩,fun b hb=>?_,q1⟩;have zd:s1.heap.objs.size<=b:=by
  obtain rfl:b=_:=by simpa using hb
  exact b9 _
 exact I1.Ng zd (I1.dX.fresh zd)
def DK(f:DF):DI:=fun st=>match f st with
 | .ok d=>(match l5 (some (some d))with|some y=>.ok (y.2.map fun t=>t.2.1)|none=>.bad)
 | .ex c p=>.ex c p
 | .bad=>.bad
def TV(ha:PE X o (tD X.K (dw Cb gl) G0 Γ E f κ))(l:z=true->κ.le .old=true):PI X tg o (IT X.K (dw Cb gl) G0 Γ E z (DK f)):=(Pn ha).imp fun σ H Q zz=>by
 obtain⟨A,st,r,q⟩:=zz;refine⟨A,st,r,?_⟩;unfold DK at q;cases hf:f st with
 | bad=>walk_at"b"
 | ex c p=>walk_at"b"
 | ok d=>
  rw[hf]at q;dsimp only at q;intro v H1 e1 w;cases hy:l5 (some (some d))with
  | none=>rw[hy]at q;exact q.elim
  | some y=>
   rw[hy]at q;obtain⟨hd,hys⟩:=zH hy;obtain⟨ds,lp⟩:=y;cases hd;dsimp only at q hys;have w':Rep X.K (dw Cb gl) (er H1 (zB z A)) (.dH 2 ds) v:=by
    unfold zB;cases z with
    | true=>exact w.le r e1 (κ':=.old) (l rfl)
    | false=>rw[aU4 (by decide),jx];exact w.rep
   obtain⟨a,oo,ps,vs,rfl,g1,g2,g3,g5,g4,g6,g7⟩:=DH w' hys;have RP:ps.length=lp.length:=by rw[<- g4.1,bL]
   refine⟨a,oo,ps,rfl,aJ _ _ _ _ g2,q _ _ e1 fun i H3 A3 e3 nA=>⟨fun d hd=>?_,fun hd=>?_⟩⟩;rw[cG]at hd;cases Bp:lp[i]? with
   | none=>rw[Bp]at hd;cases hd
   | some t=>
    rw[Bp]at hd;cases hd;have hi:i<ps.length:=by rw[RP];exact(fV.mp Bp).1
    have ga:H3 a=some (.ext (DY a oo ps)):=(e3.trans (aJ _ _)) _ _ g2;refine⟨⟨ga,hi⟩,fun x H' n8=>?_⟩;obtain⟨p,hp,hH,ex⟩:=n8;subst hH ex;obtain⟨v2,hv2,rv2⟩:=g7.get' (show(lp.map (·.2.1))[i]?=some t.2.1 by rw[cG,Bp];rfl);rw[cG,hp]at hv2;cases hv2;exact⟨.refl _,rv2.same e3 _⟩
   rw[cG]at hd;have hn:lp[i]?=none:=by cases Bp:lp[i]? with|none=>rfl|some t=>rw[Bp]at hd;cases hd
   exact⟨(e3.trans (aJ _ _)) _ _ g2,by rw[RP];exact lZ.mp hn⟩
end
end Dm
end au3
section aP0
namespace Dm
open PySem PySem.W PySem.Spec PyProof.Rows L2
def KI:jB X (.type "int") (fun xs H Q=>∃b,xs=[.bl b]/\Q (.int (if b=true then 1 else 0)) H):=by
 intro ak s σ H xs us Q I r h;obtain⟨b,rfl,q⟩:=h;obtain⟨u,rfl,ru⟩:=vals1 r;cases(show u=Value.bool b from ru);exact call_int_bool ⟨.int (if b=true then 1 else 0),H,I.tok _,⟨_,rfl⟩,q⟩
def KJ:List D->R D:=fun ds=>match ds with | [.bl b]=>.ok (.int (if b=true then 1 else 0))|_=>.bad
def Yi:gY "int"=some (.type "int"):=by decide +kernel
def TX{K:Frag}{C:Cfg}:Ow K C (fun xs H Q=>∃b,xs=[.bl b]/\Q (.int (if b=true then 1 else 0)) H) KJ .new:=fun G0 Γ E σ A st H ds xs Q r w q=>by
 unfold KJ at q;split at q;rename_i z;split at z;rename_i b;cases z;obtain⟨v,rfl,w1⟩:=iY w;rw[Rep]at w1;subst w1;exact⟨b,rfl,q _ H (.refl _) (.flat r (.refl _) (by rw[fU] <;> simp) pP _)⟩;cases z;rename_i z;split at z <;> cases z;exact q.elim
end Dm
end aP0
section aP1
namespace Dm
open PySem PySem.Spec PyProof.Rows L2 PySem.W
def mW{K:Frag}{h:aN}{mg:Str->Option au}{x:Str}{st:aW}{ps:List Str}{f:av}{oc:au}{od an:Option av}{Cz:Array (Option au)}{kV doc pm ck ct:au}(X:K.In h)(G:h.Ns gU mg)(a:nsIn K gU x=some (some (.ref f)):=by k_is)(l:K.lookup f=some ⟨oc,od,.func (fnOf x x (iI st) (dJ st) (aO st) .none kV doc pm an ck ct),Cz⟩:=by k_is)
  (c:codeIn K ck x=true:=by k_is) (k:keepIn K (.ref f)=true:=by k_is) (hb:∀(kV doc pm:au) (an:Option av) (ck ct:au),Kp ps.length fun us=>bindArgs (fnOf x x (iI st) (dJ st) (aO st) .none kV doc pm an ck ct) ⟨us,[]⟩=pure (ps.zip us):=by(repeat intro _);rfl):kY K mg x x st ps:=Y0 X G a l c k hb
def R3{K:Frag}(X:K.In h)(G:h.Ns gU mg)(e:nsIn K gU x=some (some v):=by k_is):mg x=some v:=mg_of X G e
def DL{K:Frag}(X:K.In h)(G:h.Ns gU mg)(e:nsIn K gU x=some none:=by k_is):mg x=none:=mg_none_of X G e
def clS{K:Frag}{C:av}(a:plainGet K C Str.empty=true:=by k_is)(b:hasDictIn K C=true:=by k_is)(c:plainOver K C=true:=by k_is)(d:findIn K (.ref C) "__setattr__"=some (some (.builtin "object.__setattr__")):=by k_is):Lh K C:=⟨a,b,c,d⟩
def naS{K:Frag}{C:av}{x:Str}(a:findIn K (.ref C) x=some none:=by k_is):jv K C x:=a
def inS{K:Frag}{C a:av}{st:aW}{x qual:Str}{ps:List Str}{oc:au}{od an:Option av}{Cz:Array (Option au)}{kV doc pm ck ct:au}(i:findIn K (.ref C) "__init__"=some (some (.ref a)):=by k_is)(l:K.lookup a=some ⟨oc,od,.func (fnOf x qual (iI st) (dJ st) (aO st) .none kV doc pm an ck ct),Cz⟩:=by k_is)
  (c:codeIn K ck qual=true:=by k_is) (k:keepIn K (.ref a)=true:=by k_is) (m:makesIn K C=true:=by k_is) (f:isFn K (.ref a)=true:=by k_is) (q:keepIn K (.ref C)=true:=by k_is) (hb:∀(kV doc pm:au) (an:Option av) (ck ct:au),Kp ps.length fun us=>bindArgs (fnOf x qual (iI st) (dJ st) (aO st) .none kV doc pm an ck ct) ⟨us,[]⟩=pure (ps.zip us):=by(repeat intro _);rfl) :
  ∃a fd,Im K x qual st a fd/\Mk K C a/\Binds K fd ps []:=⟨a,_,AS (st:=st) l c k,⟨m,i,f,q⟩,zE (AS (st:=st) l c k) hb⟩
def scS{N P:List Str}{sc:iV}(a:sc.kind = .function:=by rfl)(b:sc.isCoroutine=false:=by rfl)(c:sc.isGenerator=false:=by rfl)(d:N.Nodup:=by decide +kernel)(e:N.take P.length=P:=by rfl)(f:∀x∈P,sc.names.lookup x=some .local\/sc.names.lookup x=some .cell:=by decide +kernel)(g:∀y∈sc.names,y.2≠ .free:=by decide +kernel):gx N P sc:=⟨a,b,c,d,e,f,g⟩
def Yj:∀{Γ:List SK} {n:Nat},Γ.take n=cg n .par->∀i,i<n->Γ[i]?=some .par:=fun {Γ n} h i hi=>by
 rw[<- Ad hi,h,List.getElem?_replicate_of_lt hi]
end Dm
end aP1
section au4
namespace L2
open PySem PySem.Spec PyProof.Rows
theorem Po{α β:Type}{g:α->Option β}{h:α->β}:∀{l:List α},(∀x∈l,g x=some (h x))->l.filterMap g=l.map h
 | [],_=>rfl
 | x::l,e=>by rw[HY,e x (.head _),bh,Po fun y m=>e y (.tail _ m)]
def Pp(vs:List au):slicePick vs.toArray none none (some (-1))=vs.reverse.toArray:=by
 unfold slicePick;apply congrArg;have hb:sliceBounds none none (some (-1)) vs.toArray.size=((vs.length:Int)-1,-1,-1):=by simp[sliceBounds]
 rw[hb];unfold sliceRange;dsimp only;rw[aU4 (by decide)];have hn:(if(vs.length:Int)-1 > -1 then((vs.length:Int)-1 - -1 - -1-1) / - -1 else 0).toNat=vs.length:=by split <;> simp <;> omega
 rw[hn,List.filterMap_map];refine Fj fun i=>?_;have key:(cY vs.length).filterMap ((fun x:Nat=>vs.toArray[x]?)∘fun i:Nat=>(((vs.length:Int)-1) + -1*(i:Int)).toNat)=(cY vs.length).map fun i=>vs.getD (vs.length-1-i) .none:=by
  refine Po fun j hj=>?_;have hj:=nB.mp hj;have e:(((vs.length:Int)-1) + -1*(j:Int)).toNat=vs.length-1-j:=by omega
  show vs.toArray[(((vs.length:Int)-1) + -1*(j:Int)).toNat]?=some (vs.getD (vs.length-1-j) .none);rw[e];have:vs.length-1-j<vs.length:=by omega
  simp[this]
 rw[key,cG];by_cases h:i<vs.length;rw[Ag h,List.getElem?_reverse h];have:vs.length-1-i<vs.length:=by omega
 simp[this];rw[nD (by simpa using h),nD (by simpa using h)];rfl
def aP2(K:aD):V->Hp->VK->Prop:=fun x H Q=>∃a xs,x = .ref a/\ja K H a xs/\∀p,H p=none->Q (.ref p) (upd H p (.lst xs.reverse))
def Yk{X:Cx}{e:bf}{te:TE}{st:bf}{tt:TO}{pos p2:Pos}(he:PE X e te)(hs:PO X (some st) tt):PE X (.Subscript e (.Slice none none (some st) p2) pos) (fun σ H Q=>te σ H fun x H1=>tt σ H1 fun o H2=>o=some (-1)/\aP2 X.K x H2 Q):=by
 intro ak s σ H Q I h;refine FJ (gA (he ak s σ H _ I h) fun v s1 CC=>?_);refine b7 CC fun x H1 I1 r1 q1=>?_;clear CC;refine wpAny_Slice ?_;rw[EL];refine aG (aG ?_);refine gA (hs ak s1 σ H1 _ I1 q1) fun vs s2 Nv=>?_;obtain⟨o,H2,I2,ps,rfl,a,xs,rfl,hx,q⟩:=Nv;cases r1;have I4:Inv X ak σ H2 {s2 with heap:=s2.heap.push {cls:=.type "slice",data:=.fields #[.none,.none,vs]}}:=I2.kept (t':=s2.toks) fun b ob q=>bV _ q;refine bK (I4.list hx) fun b6 r ht hz=>?_;have hlen:=r.length;show aC (aF X.prog X.w) X.A (subscriptTail e (.Slice none none (some st) p2) (.ref a) (.ref s2.heap.objs.size)) (EP X ak σ Q) X.xe {s2 with heap:=s2.heap.push {cls:=.type "slice",data:=.fields #[.none,.none,vs]}};refine tail_any (ops:=[.ref a,.ref s2.heap.objs.size]) ht.isList.typeIs EO.lookup ?_ (by with_unfolding_all rfl);refine Lw ht.isList (ML ..) .none .none ps (by simp) ?_ (by rw[d7] <;> lia);rw[Pp];refine⟨.ref _,_,I4.laid (t':=s2.toks) (o:=.lst xs.reverse) (fun b ob q=>bV _ q) (b9 _) ?_,rfl,q _ (I4.dX.fresh (b9 _))⟩;exact⟨by rw[Mj];exact hz,_,0,r.reverse,fJ _ rfl⟩
end L2
namespace Dm
open PySem PySem.Spec PyProof.Rows L2
def Hu(fa fs:DF):DF:=fun st=>(fa st).bind fun a=>(fs st).bind fun b=>match a,b with
 | .lst ds,.int i=>if cV ds=true/\i = -1 then .ok (.lst ds.reverse)else .bad
 | _,_=>.bad
def Pq{K:aD}{C:Cfg}{H:Hp}{ds:List D}{xs:List V}(q:aH K C H ds xs):aH K C H ds.reverse xs.reverse:=by
 induction ds generalizing xs with
 | nil=>rw[aH]at q;subst q;exact .nil
 | cons d ds ih=>rw[aH]at q;obtain⟨v,vs,rfl,a,b⟩:=q;rw[Ae,Ae];exact(ih b).app (.cons a .nil)
def Yl{X:Cx}{C:Cfg}{G0:Hp}{Γ:List SK}{E:L2.St->XK}{e st:bf}{fa fs:DF}{fL κs:Kd}{pos p2:Pos}(he:PE X e (tD X.K C G0 Γ E fa fL))(hs:PE X st (tD X.K C G0 Γ E fs κs)):PE X (.Subscript e (.Slice none none (some st) p2) pos) (tD X.K C G0 Γ E (Hu fa fs) .new):=(Yk he (IP hs)).imp fun σ H Q zz=>by
 walk_at"a";unfold Hu R.bind at q;cases ha:fa st with
 | bad=>rw[ha]at q;exact q
 | ex c p=>rw[ha]at q;exact q
 | ok a=>
  rw[ha]at q;walk_at"f";cases hb:fs st with
  | bad=>rw[hb]at q;simp only[iP,hb,R.bind];exact q
  | ex c p=>rw[hb]at q;simp only[iP,hb,R.bind];walk_at"g"
  | ok b=>
   rw[hb]at q;cases a with
   | lst ds=>
    cases b with
    | int i=>simp only[iP,hb,R.bind];intro H2 e2;dsimp only at q;by_cases n:cV ds=true/\i = -1;rw[aU3 n]at q;refine b7 ((w1.rep.same e2 _).items) fun p xs aT h2 h3=>?_;walk_at"c";have zw:=e1.trans e2;refine⟨by rw[n.2],p,xs,rfl,h2,fun l' y9=>q _ _ (zw.trans (bT y9)) (.lst r zw y9 ?_)⟩;exact(Pq h3).part (.nw zw) _ (dY fun d hd=>iO n.1 (Ml.mp hd));rw[aU4 n]at q;exact q.elim
    | _=>exact q.elim
   | _=>cases b <;> exact q.elim
section
variable {K:aD}{C:Cfg}{G0:Hp}{Γ:List SK}{σ:L2.St}{H:Hp}{A:List av}{st:eY}
def Pr(js:List Nat)(Γ:List SK):Bool:=(cY Γ.length).all fun j=>match Γ[j]? with
 | some .par=>true
 | some .loc=>true
 | some .any=>true
 | _=>js.contains j
def Pu(h:Pr js Γ=true)(hk:Γ[j]?=some k):k = .par\/k = .loc\/k = .any\/j∈js:=by
 have gh:=(fV.mp hk).1;have:=iZ.mp h j (nB.mpr gh);rw[hk]at this;cases k with
 | par=>exact .inl rfl
 | loc=>exact .inr (.inl rfl)
 | any=>exact .inr (.inr (.inl rfl))
 | _=>exact .inr (.inr (.inr (by simpa using this)))
def Hv(js:List Nat)(st:eY):Bool:=js.all fun j=>match st[j]? with|some (some _)=>false|_=>true
def pG:aI (er H A) (er H []):=by rw[jx];exact aJ _ _
def RS.clear(r:RS K C G0 Γ σ H A st)(h:Pr js Γ=true)(hn:Hv js st=true):RS K C G0 Γ σ H [] st:=by
 have pl:∀{j:Nat} {k:SK} {d:D},Γ[j]?=some k->st[j]?=some (some d)->k = .par\/k = .loc\/k = .any:=fun {j k d} g s=>by rcases Pu h g with z|z|z|z;exact .inl z;exact .inr (.inl z);exact .inr (.inr z);have:=iZ.mp hn j z;rw[s]at this;cases this
 refine⟨r.base.trans pG,fun a m=>(by cases m),r.len,fun i d g=>?_,fun i j n m p d e pM g1 g2 s1=>?_,r.gl⟩;obtain⟨k,v,h1,h2,h3⟩:=r.slot i d g;refine⟨k,v,h1,h2,?_⟩;rcases pl h1 g with rfl|rfl|rfl;exact Rep.same pG _ h3;exact⟨h3.1.same (bS pG) _,h3.2.mono (bS pG)⟩;exact h3;rcases pl g1 s1 with z|z|z <;> cases z
def RS.aP3{n:Nat}(r:RS K C G0 Γ σ H A st)(hn:st.length=n):RS K C G0 (lO n) σ H [] st:=by
 refine⟨r.base.trans pG,fun a m=>(by cases m),r.len,fun i d g=>?_,fun i j n m p d e pM g1=>(by have:=tK _ i _ g1;cases this),r.gl⟩;obtain⟨k,v,h1,h2,h3⟩:=r.slot i d g;obtain⟨v',zb,w⟩:=r.read h1 g;rw[h2]at zb;cases zb;refine⟨.par,v,?_,h2,?_⟩;have:=(fV.mp g).1;unfold lO;rw[qd,aU3 (by lia)];show Rep K C (er H []) d v;rw[jx];exact w.rep
end
section
variable {X:Cx}{C:Cfg}{G0:Hp}{Γ:List SK}{E:L2.St->XK}{gq:Option Bool}{f:DF}{κ:Kd}{e:bf}{pos:Pos}{i:Nat}
def J3(i:Nat)(js:List Nat)(f:DF):DS:=fun st=>if Hv js st=true then(match f st with
 | .ok d=>.nx (st.set i (some d))
 | .ex c p=>.ex c p st
 | .bad=>.bad)else .bad
def TY(hN:X.N.Nodup)(he:PE X e (tD X.K C G0 Γ E f κ))(hO:Pr js Γ=true)(hk:Γ[i]?=some .par:=by rfl)(hi:X.N[i]?=some x:=by rfl)(hx:Loc X.env.scope x:=by first|exact fu rfl|exact fz rfl)(hs:swapsWith e (some (.Name x pos')) pos.line X.env=pure false:=by rfl)
  (hf:X.fn x=true\/X.env.scope.names.lookup x=some .local:=by first|exact .inl rfl|exact .inr rfl|assumption):PS X (.Assign [.Name x pos'] e pos) (jD X.K C G0 Γ E gq (J3 i js f)):=(Nd hN hi hx he hs hf).imp fun D σ H zz=>by
 obtain⟨A,st,r,q⟩:=zz;unfold J3 at q;by_cases hn:Hv js st=true;rw[aU3 hn]at q;have r0:=r.clear hO hn;refine⟨[],st,r0,?_⟩;cases hf:f st with
 | bad=>walk_at"b"
 | ex c p=>rw[hf]at q;walk_at"d"
 | ok d=>
  rw[hf]at q;intro v H' e' w;have w':Val X.K C .old G0 [] H H' d v:=by show Rep X.K C (er H' []) d v;rw[jx];exact w.rep
  obtain⟨A',r',e2,_⟩:=r0.set e' hk (κ:=.old) rfl w';exact q _ _ A' r' (pG.trans e2)
 rw[aU4 hn]at q;exact q.elim
def VU(F:DS):DS:=fun st=>match F st with | .rt d=>.rt d|_=>.bad
def VV{n:Nat}(h:mZ X ss (jD X.K C G0 (lO n) E gq F))(hn:X.N.length=n:=by rfl):mZ X ss (jD X.K C G0 Γ E gq (VU F)):=fun ak s σ H D I zz=>h ak s σ H D I (by
 obtain⟨A,st,r,q⟩:=zz;refine⟨[],st,r.aP3 (by rw[<- r.len,<- hn];exact I.len),?_⟩;unfold VU at q;cases hf:F st with
 | rt d=>walk_at"b"
 | _=>rw[hf]at q;exact q.elim)
end
def llB:D->Bool
 | .lst (.lst es::ds)=>cV es&&ds.all fun d=>match d with | .lst es=>cV es|_=>false
 | _=>false
def DM(fa:DF)(lo hi:Option DF):DF:=fun st=>(fa st).bind fun a=>(iP lo st).bind fun l=>(iP hi st).bind fun h=>match a with
 | .lst ds=>.ok (.lst (cutD ds l h))
 | _=>.bad
end Dm
end au4
section au7
namespace Dm
open PySem PySem.Spec PyProof.Rows L2 PySem.W
def rD(ns:List Int):Int:=ns.getD (argBest (fun i j=>decide (ns.getD i 0 > ns.getD j 0)) (ns.length-1)) 0
def TZ(h:n∈ns):n<=rD ns:=by
 obtain⟨i,hi,rfl⟩:=jP.mp h;have:=(argBest_gt (fun i=>ns.getD i 0) (ns.length-1)).2 i (by lia);simpa[rD,hi]using this
def Pw(h:ns≠[]):rD ns∈ns:=by
 have hl:0<ns.length:=Aj.mpr h;have:=(argBest_gt (fun i=>ns.getD i 0) (ns.length-1)).1;have hi:argBest (fun i j=>decide (ns.getD i 0 > ns.getD j 0)) (ns.length-1)<ns.length:=by lia
 unfold rD;generalize argBest _ _=j at hi;rw[Mm,c7 hi];exact jQ hi
def Px(h:ns≠[]):rA ns∈ns:=by
 have hl:0<ns.length:=Aj.mpr h;have:=(argBest_lt (fun i=>ns.getD i 0) (ns.length-1)).1;have hi:argBest (fun i j=>decide (ns.getD i 0<ns.getD j 0)) (ns.length-1)<ns.length:=by lia
 unfold rA;generalize argBest _ _=j at hi;rw[Mm,c7 hi];exact jQ hi
section
def KN(hh:X.A.handled=none):jB X (.builtin "max") (fun xs H Q=>∃(p:av) (ns:List Int),xs=[.ref p]/\ns≠[]/\ja X.K H p (ns.map V.int)/\Q (.int (rD ns)) H):=by
 intro ak s σ H xs us Q I r ⟨p,ns,e,Lm,hq,q⟩;subst e;refine aL (vals1 r) fun u fW rx=>?_;obtain rfl:=fW;cases rx;refine bK (I.list hq) fun b6 rv pl hz=>?_;have hl:b6.length=ns.length:=by rw[<- rv.length,bL]
 have gh:p<s.heap.objs.size:=by obtain⟨o,h1,_⟩:=pl.isList;exact bQ h1
 have keep:∀b o,s.heap.get? b=some o->(s.heap.push {cls:=.type "list_iterator",data:=.fields #[.ref p,.int 0 0]}).get? b=some o:=fun b o e=>bV _ e;have SH:0<ns.length:=Aj.mpr Lm;refine call_max_walk (Ck pl.isList ?_);refine⟨s.heap.objs.size,_,_,_,_,_,fun i j=>decide (ns.getD i 0 > ns.getD j 0),rfl,G7 (A:=X.A.in1) hh _ p (cu gh) b6.toArray,⟨⟨_,fJ _ rfl,rfl,rfl⟩,pl.isList.at fun o e=>keep _ _ e⟩,?_,by simp;lia,CmpOf.ints_gt (fun i=>ns.getD i 0) fun i v hP=>ints_get rv hP,fun v h' tk hP hk=>?_⟩;intro b hb;simp only[bD,eK,aV3]at hb;show b<(s.heap.push _).objs.size;rw[qF];first
  | (rcases hb with rfl|rfl;exact mS _;exact ny gh)
  | (subst hb;exact mS _)
 obtain⟨t,rfl⟩:=ints_get rv hP;refine⟨.int (rD ns),H,I.kept fun b o e=>hk b o (by simpa using cu (bQ e)) (keep b o e),⟨t,?_⟩,q⟩;unfold rD;rw[show b6.toArray.size=ns.length by simp[hl]]
end
def uC:List D->R D:=fun ds=>match ds with | [.lst es]=>(match intsOf es with|some (n::ns)=>.ok (.int (rD (n::ns)))|_=>.bad)|_=>.bad
def Ym:gY "max"=some (.builtin "max"):=by decide +kernel
def U0(h:uC ds = .ok d):∃ns:List Int,ns≠[]/\ds=[.lst (ns.map D.int)]/\d = .int (rD ns):=by
 unfold uC at h;split at h;split at h;rename_i n ns hn;cases h;exact⟨n::ns,by simp,by rw[jK hn],rfl⟩;cases h;cases h
def U1:uC ds≠ .ex c p:=by
 unfold uC;split;split <;> exact fun h=>(by cases h)
 exact fun h=>(by cases h)
section
def U3{K:aD}:Ow K C (fun xs H Q=>∃(p:av) (ns:List Int),xs=[.ref p]/\ns≠[]/\ja K H p (ns.map V.int)/\Q (.int (rD ns)) H) uC .new:=fun G0 Γ E σ A st H ds xs Q r w q=>by
 cases hg:uC ds with
 | bad=>rw[hg]at q;exact q.elim
 | ex c p=>exact aV5 hg U1
 | ok d=>rw[hg]at q;refine bK (U0 hg) fun ns Lm aT nM=>?_;walk_at"c";obtain rfl:=nM;walk_at"h";walk_at"c";have:=iz t;subst this;exact⟨p,ns,rfl,Lm,s,q _ H (.refl _) (.flat r (.refl _) (by rw[fU] <;> simp) pP _)⟩
end
def gf:D->D->R D:=fun a b=>match uf a with
 | some ds=>(match uf b with|some es=>if ds.length+es.length<=5000 then .ok (.lst (ds++es))else .bad|none=>.bad)
 | none=>.bad
def DN(h:gf a b = .ok d):∃ds es,a = .lst ds/\b = .lst es/\ds.length+es.length<=5000/\d = .lst (ds++es):=by
 unfold gf at h;cases ha:uf a with
 | none=>rw[ha]at h;cases h
 | some ds=>
  cases hb:uf b with
  | none=>rw[ha,hb]at h;cases h
  | some es=>rw[ha,hb]at h;dsimp only at h;by_cases c:ds.length+es.length<=5000;rw[aU3 c]at h;cases h;exact⟨ds,es,D3 ha,D3 hb,c,rfl⟩;rw[aU4 c]at h;cases h
def DO:gf a b≠ .ex c p:=by
 unfold gf;cases uf a with
 | none=>exact fun h=>(by cases h)
 | some ds=>
  cases uf b with
  | none=>exact fun h=>(by cases h)
  | some es=>dsimp only;split <;> exact fun h=>(by cases h)
section
variable {X:Cx}{C:Cfg}{G0:Hp}{Γ:List SK}{E:L2.St->XK}{a b:bf}{fa fb:DF}{fL mC:Kd}{pos:Pos}
def Hw{K:aD}{σ:L2.St}{H H':Hp}{A:List av}{st:eY}{κ:Kd}{d:D}{v:V}(r:RS K C G0 Γ σ H A st)(e:aI H H')(l:κ.le .old=true)(w:Val K C κ G0 A H H' d v):Rep K C (er H' A) d v:=Val.le (κ':=.old) r e l w
def DQ{K:aD}{σ:L2.St}{H H2:Hp}{A:List av}{st:eY}{p p':av}{xs ys:List V}{ds es:List D}{Q:VK}(r:RS K C G0 Γ σ H A st)(e:aI H H2)(hp:ja K H2 p xs)(rx:aH K C (er H2 A) ds xs)(hq:ja K H2 p' ys)(ry:aH K C (er H2 A) es ys)(hl:ds.length+es.length<=5000)
  (q:∀v H',aI H H'->Val K C .pB G0 A H H' (.lst (ds++es)) v->Q v H'):ON K (.ref p) (.ref p') H2 Q:=by
 refine⟨p,p',xs,ys,rfl,rfl,hp,hq,?_,fun l hl=>q _ _ (e.trans (bT hl)) (Val.lst (κ:=.pB) r e hl (rx.app ry))⟩;rw[rx.len,ry.len];have:5000<=bO:=by rw[gC];decide
 lia
def uZ(ha:PE X a (tD X.K C G0 Γ E fa fL))(hb:PE X b (tD X.K C G0 Γ E fb mC))(la:fL.le .old=true:=by rfl)(lb:mC.le .old=true:=by rfl):PE X (.BinOp a .Add b pos) (tD X.K C G0 Γ E (aB gf fa fb) .pB):=(Ig Bt ha hb).imp fun σ H Q zz=>by
 obtain⟨A,st,r,q⟩:=zz;refine⟨A,st,r,?_⟩;unfold aB R.bind at q;cases hf:fa st with
 | bad=>walk_at"b"
 | ex c p=>walk_at"b"
 | ok d1=>
  rw[hf]at q;walk_at"f";cases hg:fb st with
  | bad=>rw[hg]at q;exact q
  | ex c p=>rw[hg]at q;walk_at"g"
  | ok d2=>
   rw[hg]at q;intro y H2 e2 w2;dsimp only at q;cases hc:gf d1 d2 with
   | bad=>rw[hc]at q;exact q.elim
   | ex c p=>exact aV5 hc DO
   | ok d=>rw[hc]at q;obtain⟨ds,es,rfl,rfl,hl,rfl⟩:=DN hc;have R1:=(Hw r e1 la w1).same (aK e2) _;have R2:=Hw (r.mono e1) e2 lb w2;obtain⟨p,xs,rfl,h2,h3⟩:=R1.items;obtain⟨p',ys,rfl,zb,h3'⟩:=R2.items;exact DQ r (e1.trans e2) (aI.seq (aJ _ _) h2) h3 (aI.seq (aJ _ _) zb) h3' hl q
def U4{i:Nat}{n:Bool}(hx:PE X a (qM i))(hb:PE X b (tD X.K C G0 Γ E fb mC))(hk:Γ[i]?=some (.own n):=by rfl)(lb:mC.le .old=true:=by rfl):PE X (.BinOp a .Add b pos) (tD X.K C G0 Γ E (aB gf (ah i) fb) .pB):=(Ig Bt hx hb).imp fun σ H Q zz=>by
 obtain⟨A,st,r,q⟩:=zz;unfold aB R.bind at q;cases hf:ah i st with
 | bad=>rw[hf]at q;exact q.elim
 | ex c p=>unfold ah at hf;split at hf <;> cases hf
 | ok d1=>
  rw[hf]at q;dsimp only at q;have pK:st[i]?=some (some d1):=by unfold ah at hf;split at hf <;> cases hf;assumption
  obtain⟨_,v,g1,g2,sl⟩:=r.slot i d1 pK;rw[hk]at g1;cases g1;refine⟨v,g2,A,st,r,?_⟩;cases hg:fb st with
  | bad=>rw[hg]at q;exact q
  | ex c p=>rw[hg]at q;exact q
  | ok d2=>
   rw[hg]at q;intro y H2 e2 w2;dsimp only at q;cases hc:gf d1 d2 with
   | bad=>rw[hc]at q;exact q.elim
   | ex c p=>exact aV5 hc DO
   | ok d=>
    rw[hc]at q;obtain⟨ds,es,rfl,rfl,hl,rfl⟩:=DN hc;rcases sl with⟨p,rfl,_,_,xs,hp,rx⟩|⟨z,_⟩;have R2:=Hw r e2 lb w2;obtain⟨p',ys,rfl,zb,h3'⟩:=R2.items;have S:aI (eh n G0 A H) (er H2 A):=by unfold eh;cases n;exact aK e2;exact(cT _ _).trans (aK e2)
    exact DQ r e2 (.inl (.of (e2 _ _ hp))) (rx.same S _) (aI.seq (aJ _ _) zb) h3' hl q;cases z
def Py{i:Nat}{n:Bool}{lo hi:Option bf}{fl fh:Option DF}{p2:Pos}(hx:PE X a (qM i))(hl:PO X lo (tDO X.K C G0 Γ E fl))(hu:PO X hi (tDO X.K C G0 Γ E fh))(hk:Γ[i]?=some (.own n):=by rfl):PE X (.Subscript a (.Slice lo hi none p2) pos) (tD X.K C G0 Γ E (DM (ah i) fl fh) .pB):=(CB Ik hx hl hu).imp fun σ H Q zz=>by
 obtain⟨A,st,r,q⟩:=zz;unfold DM R.bind at q;cases hf:ah i st with
 | bad=>rw[hf]at q;exact q.elim
 | ex c p=>unfold ah at hf;split at hf <;> cases hf
 | ok d1=>
  rw[hf]at q;dsimp only at q;have pK:st[i]?=some (some d1):=by unfold ah at hf;split at hf <;> cases hf;assumption
  obtain⟨_,v,g1,g2,sl⟩:=r.slot i d1 pK;rw[hk]at g1;cases g1;refine⟨v,g2,A,st,r,?_⟩;cases hb:iP fl st with
  | bad=>rw[hb]at q;exact q
  | ex c p=>rw[hb]at q;exact q
  | ok l=>
   rw[hb]at q;intro H2 e2;refine⟨A,st,r.mono e2,?_⟩;dsimp only at q;cases hc:iP fh st with
   | bad=>rw[hc]at q;exact q
   | ex c p=>rw[hc]at q;exact fun H' e'=>q H' (e2.trans e')
   | ok h=>
    rw[hc]at q;intro H3 e3;dsimp only at q;cases d1 with
    | lst ds=>
     dsimp only at q;rcases sl with⟨p,rfl,_,_,xs,hp,rx⟩|⟨z,_⟩;have e23:=e2.trans e3;have S:aI (eh n G0 A H) (er H3 A):=by unfold eh;cases n;exact aK e23;exact(cT _ _).trans (aK e23)
     exact⟨p,xs,rfl,.inl (.of (e23 _ _ hp)),fun l' y9=>q _ _ (e23.trans (bT y9)) (Val.lst (κ:=.pB) r e23 y9 (Df (rx.same S _)))⟩;cases z
    | _=>exact q.elim
def zJ(n:Nat)(f:DA):DF:=fun st=>(f st).bind fun ds=>if ds.length<=n then .ok (.tup ds)else .bad
def J4{x1}{es:List bf}{fs:DA}(h:PA X es (Bg X.K C G0 Γ E fs .old)):PE X (.Tuple es x1 pos) (tD X.K C G0 Γ E (zJ 100 fs) .old):=(Nr h).imp fun σ H Q zz=>by
 obtain⟨A,st,r,q⟩:=zz;refine⟨A,st,r,?_⟩;unfold zJ R.bind at q;cases hf:fs st with
 | bad=>walk_at"b"
 | ex c p=>walk_at"b"
 | ok ds=>
  rw[hf]at q;dsimp only at q;by_cases hl:ds.length<=100;rw[aU3 hl]at q;exact fun vs H1 e1 w1=>⟨oq (by rw[w1.len];exact hl),fun p hp=>q _ _ (e1.trans (bT hp)) (by
   show Rep X.K C (er _ A) _ _;rw[Rep];exact⟨p,vs,rfl,.of (D6 (κ:=.old) r e1 hp),w1.same (Kd.oh (κ:=.old) (bT hp)) _⟩)⟩
  rw[aU4 hl]at q;exact q.elim
end
mutual
def toP:D->PyData
 | .cH=>.none
 | .bl b=>.bool b
 | .int i=>.int i
 | .str s=>.str s
 | .tup ds=>.tuple (toPs ds)
 | .lst ds=>.list (toPs ds)
 | .dH _ _=>.none
def toPs:List D->List PyData
 | []=>[]
 | d::ds=>toP d::toPs ds
end
mutual
def R4:D->Bool
 | .tup ds=>wZ ds
 | .lst ds=>wZ ds
 | .dH _ _=>false
 | .cH=>true
 | .bl _=>true
 | .int _=>true
 | .str _=>true
def wZ:List D->Bool
 | []=>true
 | d::ds=>R4 d&&wZ ds
end
section
variable {X:Cx}{C:Cfg}{ak:List (av×Obj)}{σ:L2.St}{H:Hp}{s:ay}
mutual
theorem Pz(I:L2.Inv X ak σ H s):∀(d:D) {v:V} {u:au},R4 d=true->Rep X.K C H d v->RelV v u->∃as,Reads s.heap u (toP d) as
 | .cH,v,u,_,q,r=>by rw[Rep]at q;subst q;cases r;exact⟨[],.none⟩
 | .bl b,v,u,_,q,r=>by rw[Rep]at q;subst q;cases r;exact⟨[],.bool b⟩
 | .int i,v,u,_,q,r=>by rw[Rep]at q;subst q;obtain⟨t,rfl⟩:=r;exact⟨[],.int i t⟩
 | .str x,v,u,_,q,r=>by rw[Rep]at q;subst q;obtain⟨t,rfl⟩:=r;exact⟨[],.str x t⟩
 | .tup ds,v,u,p,q,r=>by
  rw[Rep]at q;obtain⟨a,xs,rfl,h2,h3⟩:=q;cases r;obtain⟨b6,rv,⟨o,ho,hc,n,hd⟩,_⟩:=I.tuple h2;obtain⟨as,hs⟩:=kK I ds (by rw[R4]at p;exact p) h3 rv;exact⟨as,.tuple ho hc hd (by simpa using hs)⟩
 | .lst ds,v,u,p,q,r=>by
  obtain⟨a,xs,rfl,h2,h3⟩:=q.items;cases r;obtain⟨b6,rv,pl,_⟩:=I.list h2;obtain⟨o,ho,hc,n,hd⟩:=pl.isList;obtain⟨as,hs⟩:=kK I ds (by rw[R4]at p;exact p) h3 rv;exact⟨_,.list ho hc hd (by simpa using hs)⟩
 | .dH _ _,_,_,p,_,_=>by rw[R4]at p;cases p
theorem kK(I:L2.Inv X ak σ H s):∀(ds:List D) {vs:List V} {us:List au},wZ ds=true->aH X.K C H ds vs->Vals vs us->∃as,ReadsAll s.heap us (toPs ds) as
 | [],vs,us,_,q,r=>by rw[aH]at q;subst q;cases r;exact⟨[],.nil⟩
 | d::ds,vs,us,p,q,r=>by
  rw[aH]at q;obtain⟨v,r',rfl,a,b⟩:=q;rw[wZ,bM]at p;cases r with
  | cons r1 r2=>obtain⟨as,h1⟩:=Pz I d p.1 a r1;obtain⟨bs,h2⟩:=kK I ds p.2 b r2;exact⟨_,.cons h1 h2⟩
end
end
def x9:List D->R D:=fun ds=>match ds with
 | [d]=>(match wz d with
  | some es=>if(wZ es&&PyData.showableAll (toPs es) && !PyData.hasDictAll (toPs es)&&decide ((tupleText (PyData.shownAll (toPs es))).length<=bO)&&decide (PyData.depthAll (toPs es)<=50))=true then .ok (.str (tupleText (PyData.shownAll (toPs es))))else .bad
  | none=>.bad)
 | _=>.bad
def VW(K:aD)(C:Cfg):List V->Hp->VK->Prop:=fun xs H Q=>∃v es,xs=[v]/\Rep K C H (.tup es) v/\wZ es=true/\PyData.showableAll (toPs es)=true/\PyData.hasDictAll (toPs es)=false/\(tupleText (PyData.shownAll (toPs es))).length<=bO/\PyData.depthAll (toPs es)<=50/\Q (.str (tupleText (PyData.shownAll (toPs es)))) H
def KO{X:Cx}{C:Cfg}(hu:X.A.units+64<cLine)(hg:X.A.guards=some []):jB X (.builtin "repr") (VW X.K C):=by
 intro ak s σ H xs us Q I r ⟨v,es,e,rp,p1,p2,p3,p4,p5,q⟩;subst e;obtain⟨u,rfl,rx⟩:=vals1 r;obtain⟨a,ys,rfl,h2,h3⟩:=by rw[Rep]at rp;exact rp
 cases rx;obtain⟨b6,rv,⟨o,ho,hc,n,hd⟩,_⟩:=I.tuple h2;obtain⟨as,hs⟩:=kK I es p1 h3 rv;have JN:ReadsAll s.heap b6.toArray.toList (toPs es) as:=by simpa using hs
 have hR:Reads s.heap (.ref a) (.tuple (toPs es)) as:=.tuple ho hc hd JN;obtain⟨bs,hb,hK⟩:=ReprAllK.of_readsAll (prog:=X.prog) (w:=X.w) JN p2 (fun z=>by rw[p3]at z;cases z) fun t m=>f9 (tupleText_mem_le m) p4;refine call_repr_slot (by lia) ⟨o,ho,hc⟩ PySem.F.slot_tuple_repr ?_;refine call_tuple_reprK ho hc hd (not_mem_of_deeper hR (by rw[PyData.depth];lia) hb) hK (by rw[Around.in1_guards];exact hg) (fun b _=>.nil b) (by show X.A.units+1+_<_;lia) (fun _ _ z=>z) (fun h' t tk hk=>⟨_,t,rfl,.str (tupleText (PyData.shownAll (toPs es))),H,I.kept hk,⟨t,rfl⟩,q⟩) p4
def U5:gY "repr"=some (.builtin "repr"):=by decide +kernel
theorem PC(x:D):x9 [x]=(match wz x with
  | some es=>if(wZ es&&PyData.showableAll (toPs es) && !PyData.hasDictAll (toPs es)&&decide ((tupleText (PyData.shownAll (toPs es))).length<=bO)&&decide (PyData.depthAll (toPs es)<=50))=true then .ok (.str (tupleText (PyData.shownAll (toPs es))))else .bad
  | none=>.bad):=rfl
def PD{K:aD}:Ow K C (VW K C) x9 .new:=fun G0 Γ E σ A st H ds xs Q r w q=>by
 match ds,w,q with
 | [],_,q=>exact q.elim
 | _::_::_,_,q=>exact q.elim
 | [x],w,q=>
  rw[PC]at q;obtain⟨v,rfl,w1⟩:=iY w;cases hx:wz x with
  | none=>rw[hx]at q;exact q.elim
  | some es=>rw[hx]at q;dsimp only at q;obtain rfl:=Oi hx;split at q;rename_i d' hz;split at hz;rename_i hc;cases hz;simp only[bM,aU8,Aq]at hc;obtain⟨⟨⟨⟨c1,c2⟩,c3⟩,c4⟩,c5⟩:=hc;exact⟨v,es,rfl,w1,c1,c2,c3,c4,c5,q _ H (.refl _) (.flat r (.refl _) (by rw[fU] <;> simp) (by rw[Rep]) _)⟩;cases hz;rename_i hz;split at hz <;> cases hz;exact q.elim
section
variable {X:Cx}{C:Cfg}{G0:Hp}{Γ:List SK}{E E0:L2.St->XK}{gq:Option Bool}{F G:DS}{pos np SH:Pos}
def J5{hit:av->Bool}(O:RI X)(Dl:X.calm=true)(hm:X.mg cn=some (.ref Ch))(hE:∀h,X.K.In h->IsX h Ch)(aP4:∀c,hit c=true->kitCls X.K (.ref c) (.ref Ch)=some true)
  (hb:∀E,mZ (X.cK (jw X E)) body (jD X.K C G0 Γ E gq F)) (hG:∀a,mZ (inH X (.ref a)) (aP5::av0) (jD X.K C G0 Γ (fun _ _ _ _=>False) gq G)) (hg:Gl X cn) (Gv:(cn==("__debug__" : Str))=false:=by decide) :
  PS0 (X.cK (jw X E0)) (.Try body [.ExceptHandler (some (.Name cn np)) none (aP5::av0) SH] [] [] pos) (jD X.K C G0 Γ E0 gq (wC F hit none G)):=fun s σ H D I zz=>by
 refine cj zz fun A st r q=>?_;clear zz;have ok:X.Ok:=I.ok.gn;let E1:L2.St->XK:=fun cz cls dx H'=>∃c p st' A',F st = .ex c p st'/\cls = .ref c/\(∀n,p=some n->∃d,dx=some d/\H' d=some (.xd [("at",.int n)]))/\RS X.K C G0 Γ cz H' A' st';have qQ:jD X.K C G0 Γ E1 gq F {nx:=D.nx,rt:=D.rt,bk:=D.bk,ct:=D.ct} σ H:=by
  refine⟨A,st,r,?_⟩;unfold wC at q;cases hf:F st with
  | nx st'=>walk_at"b"
  | bk st'=>walk_at"b"
  | ct st'=>walk_at"b"
  | rt d=>walk_at"b"
  | bad=>walk_at"b"
  | ex c p st'=>
   rw[hf]at q;cases p with
   | some k=>exact fun cz H' A' r' e' dx hdx=>⟨c,some k,st',A',hf,rfl,fun n z=>by cases z;exact⟨dx,rfl,hdx⟩,r'⟩
   | none=>exact fun cz H' A' r' e'=>⟨c,none,st',A',hf,rfl,fun n z=>(nomatch z),r'⟩
 refine wpAny_Try_except (gv (hb E1 [] s σ H _ (I.gn.cK _) qQ) (fun f s1 q1=>?_) fun ev s1 fly=>?_);have q1:L2.SP (X.cK (jw X E1)) [] D f s1:=q1;have q2:L2.SP (X.cK (jw X E0)) [] D f s1:=by
  have:=L2.SP.gn q1;cases f with
  | next=>obtain⟨cz,H',I',z⟩:=this;exact⟨cz,H',I'.cK _,z⟩
  | brk=>obtain⟨cz,H',I',z⟩:=this;exact⟨cz,H',I'.cK _,z⟩
  | cont=>obtain⟨cz,H',I',z⟩:=this;exact⟨cz,H',I'.cK _,z⟩
  | ret u=>obtain⟨v,cz,H',I',r',z⟩:=this;exact⟨v,cz,H',I'.cK _,r',z⟩
 cases f with
 | next=>exact Ci q2
 | brk=>exact q2
 | cont=>exact q2
 | ret u=>exact q2
 refine vQ (X:=X) O fly fun a cls dx a0 EG H1 h B h1 ea I1 e1 xd cv up hd=>?_;subst ea;refine SD hd xd fun h2 WX us2 xd2=>?_;obtain⟨c,p,st',A',hf,rfl,hp,r'⟩:=e1;obtain⟨φ,pK,hφ,hX⟩:∃φ:aN->Prop,(∀h1 h2,φ h1->(∀o,h1.get? a=some o->h2.get? a=some o)->φ h2)/\(∀h',Heap.FlyingW B X.stack a (.ref c) a0 h'->XD dx a h'->φ h')/\∀H':Hp,H' a=some (.ext φ)->(∀d fs,H1 d=some (.xd fs)->H' d=some (.xd fs))->ObX c p H' a:=by
  cases p with
  | none=>refine⟨ClsAt a (.ref c),fun h1 h2 ⟨o,h3,h4⟩ k=>⟨o,k o h3,h4⟩,fun h' f _=>f.there,fun H' z _=>z⟩
  | some n=>obtain⟨d,rfl,hd⟩:=hp n rfl;refine⟨NP a c d,fun h1 h2 ⟨o,h3,h4⟩ k=>⟨o,k o h3,h4⟩,fun h' f x=>?_,fun H' z k=>⟨d,z,k d _ hd⟩⟩;obtain⟨oe,vs,g1,g2,g3,_⟩:=f.first;obtain⟨o,g4,g5⟩:=x d rfl;rw[g1]at g4;cases g4;exact⟨oe,g1,g2,g5,vs,g3⟩
 unfold wC at q;rw[hf]at q;dsimp only at q;by_cases hc:hit c=true;rw[aU3 hc]at q;have up2:=up.trans us2;have In:L2.Inv X [] EG _ {s1 with heap:=h2}:=(OR I1 cv up2 WX (hφ h2 WX xd2) pK).2;obtain⟨nm,qn,N,bs,tl,hdct,sn,sub,ab,col,dd,k0,k1,k2,k3,k5,newId,hC,hbE⟩:=hE X.base ok.mod.QM;refine aL WX.there fun oe he hec=>?_;have Ih:L2.Inv (inH X (.ref a)) [] EG _ {s1 with heap:=h2}:=IS In;refine wpAny_handleBy_cons (codeAny_handlers_test (p9 Ih hg hm (vR Ih.Ce (In.bk _ _ hC) hbE he hec (aP4 c hc) ?_) Gv)) (by intro z;cases z);dsimp only;refine codeAny_handlers_suite ?_;refine SE WX xd2 fun h3 fl3 us3 xd3=>?_;obtain⟨nH,In3⟩:=OR I1 cv (up2.trans us3) fl3 (hφ h3 fl3 xd3) pK;have r3:RS X.K C G0 Γ EG (upd H1 a (.ext φ)) A' st':=r'.mono (bT nH);have Yn:jD X.K C G0 Γ (fun _ _ _ _=>False) gq G {nx:=fun _ _=>False,rt:=D.rt} EG (upd H1 a (.ext φ)):=by
  refine⟨A',_,r3,?_⟩;cases hgG:G st' with
  | rt d=>rw[hgG]at q;exact q
  | nx Jz=>rw[hgG]at q;exact q.elim
  | bk Jz=>rw[hgG]at q;exact q.elim
  | ct Jz=>rw[hgG]at q;exact q.elim
  | ex c p Jz=>rw[hgG]at q;exact q.elim
  | bad=>rw[hgG]at q;exact q.elim
 refine gv (hG a [] _ _ _ _ (IS In3) Yn) (fun f s5 q5=>?_) fun x s5 z=>iu z;cases f with
 | next=>obtain⟨_,_,_,z⟩:=q5;exact z.elim
 | brk=>obtain⟨_,_,_,z⟩:=q5;exact z.elim
 | cont=>obtain⟨_,_,_,z⟩:=q5;exact z.elim
 | ret u=>obtain⟨v,σ5,H5,I5,r5,z⟩:=q5;exact⟨v,_,H5,(OQ ok I5).cK _,r5,z⟩
 rw[aU4 hc]at q;exact q.elim
end
def htS{K:Frag}{C:av}{x:_}(h1:clsIn K C=some x:=by k_is)(h2:typeIn K (.ref C)=some (.type "type"):=by k_is)(h3:subIn K (.ref C) (.ref C)=some true:=by k_is):∀c,(c==C)=true->kitCls K (.ref c) (.ref C)=some true:=fun c h=>by
 obtain rfl:=aU7.mp h;unfold kitCls;dsimp only;rw[h1,h2,aU3 (show((some x).isSome&&(some (l8 "type")==some (l8 "type")))=true from by simp)];exact h3
end Dm
end au7
section av2
namespace Pk
open PySem PySem.Spec PyProof.Rows L2 PySem.W Dm
def top(i:Nat):aW:=PySem.Challenge.pw_pegleap_k11_papers_looked_at.main.body.getD i (.Pass ⟨0,0,0,0⟩)
abbrev DR:aW:=top 8
abbrev KP:aW:=top 9
abbrev yq:aW:=top 10
abbrev J6:aW:=inClass (top 11) 0
abbrev BC:aW:=top 12
abbrev DT:aW:=top 13
abbrev KQ:aW:=top 14
abbrev U6:aW:=top 15
abbrev yr:aW:=top 18
abbrev yt:aW:=top 19
abbrev PF:aW:=top 20
abbrev Hx:aW:=top 21
abbrev uD:aW:=top 25
abbrev Yo:aW:=top 26
abbrev PJ:aW:=top 27
abbrev BD:aW:=top 29
abbrev oN:aW:=top 31
abbrev mX:aW:=top 33
abbrev DU:aW:=top 34
abbrev xg:aW:=top 32
abbrev U7:aW:=top 30
abbrev xh:aW:=top 36
abbrev Hy:aW:=top 37
abbrev DV:aW:=top 38
abbrev uE:aW:=top 39
abbrev xj:aW:=top 40
abbrev xm:aW:=top 41
abbrev BE:aW:=top 42
abbrev DW:aW:=top 43
abbrev yu:aW:=top 44
abbrev BF:aW:=top 45
abbrev BG:aW:=top 46
abbrev rE:aW:=top 47
abbrev yv:aW:=top 48
abbrev DZ:aW:=top 49
abbrev yw:aW:=top 50
abbrev BH:aW:=top 51
abbrev uF:aW:=top 52
abbrev av3:aW:=top 53
structure gQ where
 Hz:av
 eT:av
 cX:av
 cM:av
 kL:av
 Yp:Tok
 BI:Tok
 U8:Tok
 Yq:Tok
 KR:Tok
def ur(t:gQ):av->Bool:=fun c=>c==t.cX
def oO(t:gQ):av->Bool:=fun c=>c==t.cM
abbrev mH(t:gQ):av->Bool:=ur t
abbrev jy(t:gQ):av->Bool:=oO t
structure Txt(K:Frag)(mg:Str->Option au)(t:gQ):Prop where
 E2:kY K mg "is_rising" "is_rising" DR ["cells"]
 KS:kY K mg "is_cell" "is_cell" KP ["cell"]
 yx:kY K mg "check_cells" "check_cells" yq ["cells"]
 BJ:kY K mg "check_pegs" "check_pegs" BC ["board","pegs"]
 E3:kY K mg "two_apart" "two_apart" DT ["cell"]
 KU:kY K mg "between" "between" KQ ["cell","other"]
 U9:kY K mg "leaps" "leaps" U6 ["board"]
 yy:kY K mg "can_be_done" "can_be_done" yr ["pegs","leap"]
 yz:kY K mg "pegs_behind" "pegs_behind" yt ["pegs","leap"]
 PK:kY K mg "odd_on" "odd_on" PF ["colours","two"]
 HA:kY K mg "class_of" "class_of" Hx ["board","pegs"]
 uG:kY K mg "check_weights" "check_weights" uD ["board","weights"]
 Yr:kY K mg "fair" "fair" Yo ["board","weights"]
 PM:kY K mg "weight" "weight" PJ ["board","weights","pegs"]
 BK:kY K mg "steps_from" "steps_from" BD ["all_leaps","standing"]
 xo:kY K mg "weights_hold" "weights_hold" oN ["board","pegs","others","weights"]
 uH:kY K mg "all_standings" "all_standings" mX ["board","standings"]
 E4:kY K mg "is_closed" "is_closed" DU ["board","standings"]
 xq:kY K mg "closed_holds" "closed_holds" xg ["board","pegs","others","standings"]
 Ua:kY K mg "holds" "holds" U7 ["board","pegs","others","paper"]
 xr:kY K mg "_law_cell_at" "_law_cell_at" xh ["script","k"]
 HB:kY K mg "_law_mix" "_law_mix" Hy ["cell","k","many"]
 E5:kY K mg "_law_told" "_law_told" DV ["found","due"]
 uI:kY K mg "_law_cells_by" "_law_cells_by" uE ["script","most"]
 xu:kY K mg "_law_pegs_by" "_law_pegs_by" xj ["cell","cells"]
 xw:kY K mg "_law_between" "_law_between" xm ["leap"]
 BL:kY K mg "_law_leaps" "_law_leaps" BE ["cells"]
 E6:kY K mg "_law_open" "_law_open" DW ["cells","pegs"]
 yC:kY K mg "_law_behind" "_law_behind" yu ["pegs","leap"]
 BN:kY K mg "_law_reach" "_law_reach" BF ["cells","pegs"]
 BO:kY K mg "_law_class" "_law_class" BG ["pegs"]
 rF:kY K mg "_law_weights_by" "_law_weights_by" rE ["cell","cells"]
 yD:kY K mg "_law_raised" "_law_raised" yv ["cells","weights"]
 E7:kY K mg "_law_fair" "_law_fair" DZ ["cells","weights"]
 yE:kY K mg "_law_weight" "_law_weight" yw ["cells","weights","pegs"]
 BP:kY K mg "_law_holds" "_law_holds" BH ["cells","pegs","others","paper"]
 uJ:kY K mg "_law_paper_by" "_law_paper_by" uF ["script","cells","pegs","others"]
 VX:kY K mg "law" "law" av3 ["script"]
 av4:mg "abs"=none
 Ys:mg "bool"=none
 PN:mg "dict"=none
 E8:mg "enumerate"=none
 av5:mg "int"=none
 BQ:mg "isinstance"=none
 av6:mg "len"=none
 PR:mg "list"=none
 av7:mg "max"=none
 av8:mg "min"=none
 J7:mg "range"=none
 Yt:mg "repr"=none
 av9:mg "set"=none
 E9:mg "sorted"=none
 aw0:mg "sum"=none
 Ub:mg "tuple"=none
 VY:mg "zip"=none
 zK:mg "COLOURS"=some (.int (3) t.KR)
 PU:mg "LAST"=some (.int (7) t.Yp)
 J8:mg "LEAST"=some (.int (-1000) t.U8)
 PV:mg "MOST"=some (.int (1000) t.Yq)
 rG:mg "MOST_CELLS"=some (.int (24) t.BI)
 Yu:mg "PegError"=some (.ref t.Hz)
 HC:mg "BadBoard"=some (.ref t.eT)
 zL:mg "BadPegs"=some (.ref t.cX)
 rH:mg "BadWeights"=some (.ref t.cM)
 Uc:mg "Board"=some (.ref t.kL)
 HD:Vz K t.eT [.type "ValueError",.type "Exception",.type "BaseException",.type "object"] "ValueError.__new__"=true
 zM:Vz K t.cX [.type "ValueError",.type "Exception",.type "BaseException",.type "object"] "ValueError.__new__"=true
 rJ:Vz K t.cM [.type "ValueError",.type "Exception",.type "BaseException",.type "object"] "ValueError.__new__"=true
 KW:∀c,mH t c=true->kitCls K (.ref c) (.ref t.cX)=some true
 BR:∀c,jy t c=true->kitCls K (.ref c) (.ref t.cM)=some true
 clB:Lh K t.kL
 naB:jv K t.kL "cells"
 iB:∃a fd,Im K "__init__" "Board.__init__" J6 a fd/\Mk K t.kL a/\Binds K fd ["self","cells"] []
def PX:ExcBaseFacts "ValueError" "ValueError.__new__" "ValueError.__init__" [.type "ValueError",.type "Exception",.type "BaseException",.type "object"] :=PySem.F.excBase_ValueError
def Yv:gY "len"=some (.builtin "len"):=by decide +kernel
def J9:gY "list"=some (.type "list"):=by decide +kernel
def rK:String->Option Bool:=fun x=>if x = "bool"then some true else if x = "int"then some false else if x = "tuple"then some false else if x = "list"then some false else if x = "str"then some false else if x = "NoneType"then some false else none
def Ea{K:Frag}:∀x b,rK x=some b->kitOne K (.type x) (.type "bool")=some b:=fun x b h=>by
 unfold rK at h
 repeat' (split at h)
 all_goals (first|cases h;done|(rename_i e;subst e;cases h;first|(unfold kitOne;rw[aU3 (by decide)])|exact Y5 (by decide) (by decide +kernel) (by decide +kernel)))
def eu(t:gQ):List D->R D:=bx 1 (bN (aB (eW false) (ah 0) (lV kq (ah 0))))
def lR(t:gQ):List D->R D:=bx 1 (bN (j6 (ko Lo Lo (dC (.int 0)) (aB bH (ah 0) (dC (.int 0))) (dC (.int (7)))) (ko Lo Lo (dC (.int 0)) (aB bH (ah 0) (dC (.int 1))) (dC (.int (7))))))
def bX(t:gQ):List D->R D:=bx 2 (aU (bz (n9 (ko Lo Lo (dC (.int 1)) (aY dQ (aa (ah 0) ao)) (dC (.int (24)))))
 (eo t.eT)
 aR)
 (aU (bz (n9 (aY (eu t) (aa (ah 0) ao)))
 (eo t.eT)
 aR)
 (cy (bU (ah 0)) (b5 1)
 (bz (n9 (aY (lR t) (aa (ah 1) ao)))
 (eo t.eT)
 aR))))
def c8(t:gQ):List D->R D:=bx 3 (aU (bz (n9 (aY (eu t) (aa (ah 1) ao)))
 (eo t.cX)
 aR)
 (cy (bU (ah 1)) (b5 2)
 (bz (aB (gI true) (ah 2) (lV cR (ah 0)))
 (eo t.cX)
 aR)))
def iA(t:gQ):List D->R D:=bx 3 (aU (bC 1 (aQ (aB bH (ah 0) (dC (.int 0)))))
 (aU (bC 2 (aQ (aB bH (ah 0) (dC (.int 1)))))
 (bN (br 100 (aa (bu 100 (aa (aB kE (ah 1) (dC (.int 2))) (aa (aQ (ah 2)) ao))) (aa (bu 100 (aa (aQ (ah 1)) (aa (aB kE (ah 2) (dC (.int 2))) ao))) (aa (bu 100 (aa (aQ (ah 1)) (aa (aB cW (ah 2) (dC (.int 2))) ao))) (aa (bu 100 (aa (aB cW (ah 1) (dC (.int 2))) (aa (aQ (ah 2)) ao))) ao))))))))
def dS(t:gQ):List D->R D:=bx 2 (bN (bu 100 (aa (aB fP (aB cW (aB bH (ah 0) (dC (.int 0))) (aB bH (ah 1) (dC (.int 0)))) (dC (.int 2))) (aa (aB fP (aB cW (aB bH (ah 0) (dC (.int 1))) (aB bH (ah 1) (dC (.int 1)))) (dC (.int 2))) ao))))
def pH(t:gQ):List D->R D:=bx 4 (aU (bC 1 (br 100 ao))
 (aU (cy (bU (lV cR (ah 0))) (b5 2)
 (cy (bU (aY (iA t) (aa (ah 2) ao))) (b5 3)
 (bz (j6 (aB (gI false) (ah 3) (lV cR (ah 0))) (aB (gI false) (aY (dS t) (aa (ah 2) (aa (ah 3) ao))) (lV cR (ah 0))))
 (iT 1 (bu 100 (aa (aQ (ah 2)) (aa (aQ (ah 3)) ao))))
 aR)))
 (bN (ah 1))))
def jd(t:gQ):List D->R D:=bx 2 (bN (j6 (aB (gI false) (aB bH (ah 1) (dC (.int 0))) (ah 0)) (j6 (aB (gI true) (aB bH (ah 1) (dC (.int 1))) (ah 0)) (aB (gI false) (aY (dS t) (aa (aB bH (ah 1) (dC (.int 0))) (aa (aB bH (ah 1) (dC (.int 1))) ao))) (ah 0)))))
def je(t:gQ):List D->R D:=bx 3 (aU (bC 2 (bu 100 (aa (aQ (aB bH (ah 1) (dC (.int 0)))) (aa (aY (dS t) (aa (aB bH (ah 1) (dC (.int 0))) (aa (aB bH (ah 1) (dC (.int 1))) ao))) ao))))
 (bN (aY fE (aa (aB iU (cC (iTp (ah 0)) 1 [2] (b5 0) (aB (gI true) (ah 0) (ah 1)) (aQ (ah 0))) (br 100 (aa (aQ (aB bH (ah 1) (dC (.int 1)))) ao))) ao))))
def ku(t:gQ):List D->R D:=bx 2 (bN (aB cB (aY dQ (aa (cC (bU (ah 0)) 1 [1] (b5 0) (aB (gI false) (ah 0) (ah 1)) (aQ (ah 0))) ao)) (dC (.int 2))))
def kB(t:gQ):List D->R D:=bx 4 (aU (jE (aY (c8 t) (aa (ah 0) (aa (ah 1) ao))))
 (aU (bC 2 (cC (bU (ah 1)) 1 [] (b5 0) (dC (.bl true)) (aB cB (aB cW (aB bH (ah 0) (dC (.int 0))) (aB bH (ah 0) (dC (.int 1)))) (dC (.int (3))))))
 (aU (bC 3 (cC (bU (ah 1)) 1 [] (b5 0) (dC (.bl true)) (aB cB (aB kE (aB bH (ah 0) (dC (.int 0))) (aB bH (ah 0) (dC (.int 1)))) (dC (.int (3))))))
 (bN (bu 100 (aa (aY (ku t) (aa (ah 2) (aa (bu 100 (aa (dC (.int 0)) (aa (dC (.int 1)) ao))) ao))) (aa (aY (ku t) (aa (ah 2) (aa (bu 100 (aa (dC (.int 1)) (aa (dC (.int 2)) ao))) ao))) (aa (aY (ku t) (aa (ah 3) (aa (bu 100 (aa (dC (.int 0)) (aa (dC (.int 1)) ao))) ao))) (aa (aY (ku t) (aa (ah 3) (aa (bu 100 (aa (dC (.int 1)) (aa (dC (.int 2)) ao))) ao))) ao)))))))))
def cQ(t:gQ):List D->R D:=bx 3 (aU (bz (aB (eW true) (aY dQ (aa (ah 1) ao)) (aY dQ (aa (lV cR (ah 0)) ao)))
 (eo t.cM)
 aR)
 (cy (bU (ah 1)) (b5 2)
 (bz (n9 (ko Lo Lo (dC (.int (-1000))) (ah 2) (dC (.int (1000)))))
 (eo t.cM)
 aR)))
def tM(t:gQ):List D->R D:=bx 4 (aU (jE (aY (cQ t) (aa (ah 0) (aa (ah 1) ao))))
 (aU (bC 2 (aB VS (lV cR (ah 0)) (ah 1)))
 (aU (cy (bU (aY (pH t) (aa (ah 0) ao))) (b5 3)
 (bz (aB rV (aB cW (aB mF (ah 2) (aB bH (ah 3) (dC (.int 0)))) (aB mF (ah 2) (aY (dS t) (aa (aB bH (ah 3) (dC (.int 0))) (aa (aB bH (ah 3) (dC (.int 1))) ao))))) (aB mF (ah 2) (aB bH (ah 3) (dC (.int 1)))))
 (bN (dC (.bl false)))
 aR))
 (bN (dC (.bl true))))))
def oQ(t:gQ):List D->R D:=bx 4 (aU (jE (aY (cQ t) (aa (ah 0) (aa (ah 1) ao))))
 (aU (jE (aY (c8 t) (aa (ah 0) (aa (ah 2) ao))))
 (aU (bC 3 (aB VS (lV cR (ah 0)) (ah 1)))
 (bN (aY wV (aa (cC (bU (ah 2)) 1 [3] (b5 0) (dC (.bl true)) (aB mF (ah 1) (ah 0))) ao))))))
def iQ(t:gQ):List D->R D:=bx 2 (bN (cC (bU (ah 0)) 1 [1] (b5 0) (aY (jd t) (aa (ah 1) (aa (ah 0) ao))) (bu 100 (aa (aQ (ah 0)) (aa (aY kr (aa (aY (je t) (aa (ah 1) (aa (ah 0) ao))) ao)) ao)))))
def gM(t:gQ):List D->R D:=bx 5 (aU (wC (bC 4 (aY (tM t) (aa (ah 0) (aa (ah 3) ao)))) (jy t) none
 (bN (dC (.bl false))))
 (bN (j6 (aQ (ah 4)) (aB rV (aY (oQ t) (aa (ah 0) (aa (ah 3) (aa (ah 1) ao)))) (aY (oQ t) (aa (ah 0) (aa (ah 3) (aa (ah 2) ao))))))))
def dz(t:gQ):List D->R D:=bx 3 (aU (wC (cy (bU (ah 1)) (b5 2)
 (jE (aY (c8 t) (aa (ah 0) (aa (ah 2) ao))))) (mH t) none
 (bN (dC (.bl false))))
 (bN (dC (.bl true))))
def jm(t:gQ):List D->R D:=bx 8 (aU (bC 2 (aY (pH t) (aa (ah 0) ao)))
 (aU (bC 3 (dC (.dH 2 [])))
 (aU (cy (bU (ah 1)) (b5 4)
 (zI 3 (aY kr (aa (ah 4) ao)) (dC (.bl true))))
 (VU (aU (cy (DK (ah 3)) (b5 5)
 (cy (bU (aY (iQ t) (aa (ah 2) (aa (ah 5) ao)))) (ef 6 7)
 (bz (aB (rB true) (ah 7) (ah 3))
 (bN (dC (.bl false)))
 aR)))
 (bN (dC (.bl true))))))))
def fF(t:gQ):List D->R D:=bx 4 (aU (bz (GV (n9 (aY (dz t) (aa (ah 0) (aa (ah 3) ao)))) (GV (aB (gI true) (ah 1) (ah 3)) (aB (gI false) (ah 2) (ah 3))))
 (bN (dC (.bl false)))
 aR)
 (bN (aY (jm t) (aa (ah 0) (aa (ah 3) ao)))))
def kM(t:gQ):List D->R D:=bx 4 (aU (jE (aY (c8 t) (aa (ah 0) (aa (ah 1) ao))))
 (aU (jE (aY (c8 t) (aa (ah 0) (aa (ah 2) ao))))
 (aU (bz (aB (eW false) (aB bH (ah 3) (dC (.int 0))) (dC (.str "class")))
 (bN (aB (eW true) (aY (kB t) (aa (ah 0) (aa (ah 1) ao))) (aY (kB t) (aa (ah 0) (aa (ah 2) ao)))))
 aR)
 (aU (bz (aB (eW false) (aB bH (ah 3) (dC (.int 0))) (dC (.str "weights")))
 (bN (aY (gM t) (aa (ah 0) (aa (ah 1) (aa (ah 2) (aa (aB bH (ah 3) (dC (.int 1))) ao))))))
 aR)
 (bN (aY (fF t) (aa (ah 0) (aa (ah 1) (aa (ah 2) (aa (aB bH (ah 3) (dC (.int 1))) ao))))))))))
def aM(t:gQ):List D->R D:=bx 2 (aU (bz (aB rV (ah 1) (aY dQ (aa (ah 0) ao)))
 (bN (aQ (aB bH (ah 0) (ah 1))))
 aR)
 (bN (dC (.int 0))))
def b8(t:gQ):List D->R D:=bx 5 (aU (bC 3 (br 100 (aa (dC (.int 48271)) (aa (dC (.int 69621)) (aa (dC (.int 16807)) (aa (dC (.int 39373)) (aa (dC (.int 30269)) (aa (dC (.int 40014)) (aa (dC (.int 40692)) (aa (dC (.int 50021)) (aa (dC (.int 61687)) (aa (dC (.int 71993)) (aa (dC (.int 83869)) (aa (dC (.int 95561)) (aa (dC (.int 30307)) ao)))))))))))))))
 (aU (bC 4 (aB oj (aB cW (aB cB (ah 0) (dC (.int 2147483647))) (dC (.int 12345))) (aB bH (ah 3) (aB cB (ah 1) (dC (.int 13))))))
 (aU (bC 4 (aB cW (aB oj (ah 4) (aB cW (aB oj (dC (.int 2)) (aB fP (ah 1) (dC (.int 13)))) (dC (.int 1)))) (aB oj (dC (.int 977)) (ah 1))))
 (bN (aB cB (aB fP (aB cB (ah 4) (dC (.int 1000000007))) (dC (.int 7))) (ah 2))))))
def kN(t:gQ):List D->R D:=bx 2 (bN (j6 (lV (T8 rK) (ah 0)) (aB (eW false) (ah 0) (ah 1))))
def dF(t:gQ):List D->R D:=bx 9 (aU (bC 2 (aY (aM t) (aa (ah 0) (aa (dC (.int 0)) ao))))
 (aU (Dj 3 4 (aa (aB cW (dC (.int 1)) (aY (b8 t) (aa (ah 2) (aa (dC (.int 1)) (aa (dC (.int 4)) ao))))) (aa (aB cW (dC (.int 1)) (aY (b8 t) (aa (ah 2) (aa (dC (.int 2)) (aa (dC (.int 6)) ao))))) ao)))
 (aU (bz (aB (eW false) (aB cB (ah 2) (dC (.int 4))) (dC (.int 1)))
 (uh (ef 3 4) (aQ (aB bH (br 100 (aa (bu 100 (aa (aB cW (dC (.int 1)) (aB cB (ah 3) (dC (.int 3)))) (aa (dC (.int 8)) ao))) (aa (bu 100 (aa (dC (.int 8)) (aa (aB cW (dC (.int 1)) (aB cB (ah 4) (dC (.int 3)))) ao))) ao))) (aB cB (aB fP (ah 2) (dC (.int 4))) (dC (.int 2))))))
 aR)
 (aU (Dj 5 6 (aa (aY (b8 t) (aa (ah 2) (aa (dC (.int 3)) (aa (aB kE (dC (.int 9)) (ah 3)) ao)))) (aa (aY (b8 t) (aa (ah 2) (aa (dC (.int 4)) (aa (aB kE (dC (.int 9)) (ah 4)) ao)))) ao)))
 (aU (bC 7 (br 100 ao))
 (aU (cy (kW (aa (aB oj (ah 3) (ah 4)) ao)) (b5 8)
 (bz (aB GW (aY (b8 t) (aa (aY (aM t) (aa (ah 0) (aa (dC (.int 1)) ao))) (aa (ah 8) (aa (dC (.int 7)) ao)))) (dC (.int 0)))
 (iT 7 (bu 100 (aa (aB cW (ah 5) (aB fP (ah 8) (ah 4))) (aa (aB cW (ah 6) (aB cB (ah 8) (ah 4))) ao))))
 aR))
 (aU (bz (aB (eW false) (aY dQ (aa (ah 7) ao)) (dC (.int 0)))
 (bC 7 (br 100 (aa (bu 100 (aa (aQ (ah 5)) (aa (aQ (ah 6)) ao))) ao)))
 aR)
 (bN (rg (ah 7) none (some (ah 1)))))))))))
def fG(t:gQ):List D->R D:=bx 4 (aU (bC 2 (aY (b8 t) (aa (ah 0) (aa (dC (.int 40)) (aa (dC (.int 4)) ao)))))
 (aU (bz (aB (eW false) (ah 2) (dC (.int 0)))
 (aU (bC 3 (aY (b8 t) (aa (ah 0) (aa (dC (.int 41)) (aa (aY dQ (aa (ah 1) ao)) ao)))))
 (bN (aB iU (rg (ah 1) none (some (ah 3))) (rg (ah 1) (some (aB cW (ah 3) (dC (.int 1)))) none))))
 aR)
 (bN (cC (yo (ah 1)) 2 [0,2] (ef 0 1) (aB GW (aY (b8 t) (aa (ah 2) (aa (ah 0) (aa (aB bH (br 100 (aa (dC (.int 0)) (aa (dC (.int 2)) (aa (dC (.int 3)) (aa (dC (.int 4)) ao))))) (ah 3)) ao)))) (dC (.int 0))) (aQ (ah 1))))))
def aV(t:gQ):List D->R D:=bx 1 (bN (bu 100 (aa (aB fP (aB cW (aB bH (aB bH (ah 0) (dC (.int 0))) (dC (.int 0))) (aB bH (aB bH (ah 0) (dC (.int 1))) (dC (.int 0)))) (dC (.int 2))) (aa (aB fP (aB cW (aB bH (aB bH (ah 0) (dC (.int 0))) (dC (.int 1))) (aB bH (aB bH (ah 0) (dC (.int 1))) (dC (.int 1)))) (dC (.int 2))) ao))))
def cN(t:gQ):List D->R D:=bx 5 (aU (bC 1 (br 100 ao))
 (aU (cy (bU (ah 0)) (b5 2)
 (cy (bU (ah 0)) (b5 3)
 (aU (bC 4 (aY fE (aa (br 100 (aa (aY rz (aa (aB kE (aB bH (ah 2) (dC (.int 0))) (aB bH (ah 3) (dC (.int 0)))) ao)) (aa (aY rz (aa (aB kE (aB bH (ah 2) (dC (.int 1))) (aB bH (ah 3) (dC (.int 1)))) ao)) ao))) ao)))
 (bz (j6 (aB (eW false) (ah 4) (br 100 (aa (dC (.int 0)) (aa (dC (.int 2)) ao)))) (aB (gI false) (aY (aV t) (aa (bu 100 (aa (aQ (ah 2)) (aa (aQ (ah 3)) ao))) ao)) (ah 0)))
 (iT 1 (bu 100 (aa (aQ (ah 2)) (aa (aQ (ah 3)) ao))))
 aR))))
 (bN (aY fE (aa (ah 1) ao)))))
def ez(t:gQ):List D->R D:=bx 5 (aU (bC 2 (br 100 ao))
 (aU (cy (bU (aY (cN t) (aa (ah 0) ao))) (ef 3 4)
 (bz (j6 (aB (gI false) (ah 3) (ah 1)) (j6 (aB (gI false) (aY (aV t) (aa (bu 100 (aa (aQ (ah 3)) (aa (aQ (ah 4)) ao))) ao)) (ah 1)) (aB (gI true) (ah 4) (ah 1))))
 (iT 2 (bu 100 (aa (aQ (ah 3)) (aa (aQ (ah 4)) ao))))
 aR))
 (bN (ah 2))))
def bY(t:gQ):List D->R D:=bx 3 (aU (bC 2 (cC (bU (ah 0)) 1 [1] (b5 0) (j6 (aB (eW true) (ah 0) (aB bH (ah 1) (dC (.int 0)))) (aB (eW true) (ah 0) (aY (aV t) (aa (ah 1) ao)))) (aQ (ah 0))))
 (bN (aY fE (aa (aB iU (ah 2) (br 100 (aa (aQ (aB bH (ah 1) (dC (.int 1)))) ao))) ao))))
def eE(t:gQ):List D->R D:=bx 6 (aU (bC 2 (br 100 (aa (aY jl (aa (ah 1) ao)) ao)))
 (aU (bC 3 (dC (.int 0)))
 (aU (uB (aB rV (ah 3) (aY dQ (aa (ah 2) ao)))
 (aU (cy (bU (aY (ez t) (aa (ah 0) (aa (aB bH (ah 2) (ah 3)) ao)))) (b5 4)
 (aU (bC 5 (aY (bY t) (aa (aB bH (ah 2) (ah 3)) (aa (ah 4) ao))))
 (bz (aB (gI true) (ah 5) (ah 2))
 (iT 2 (ah 5))
 aR)))
 (bC 3 (aB cW (ah 3) (dC (.int 1))))) 5000)
 (bN (ah 2)))))
def iR(t:gQ):List D->R D:=bx 4 (aU (bC 1 (br 100 ao))
 (aU (cy (bU (br 100 (aa (dC (.int 1)) (aa (lV yi (dC (.int 1))) ao)))) (b5 2)
 (aU (bC 3 (cC (bU (ah 0)) 2 [2] (ef 0 1) (dC (.bl true)) (aB cB (aB cW (ah 0) (aB oj (ah 2) (ah 1))) (dC (.int 3)))))
 (aU (iT 1 (aB cB (aY dQ (aa (cC (bU (ah 3)) 1 [] (b5 0) (aB rV (ah 0) (dC (.int 2))) (aQ (ah 0))) ao)) (dC (.int 2))))
 (iT 1 (aB cB (aY dQ (aa (cC (bU (ah 3)) 1 [] (b5 0) (aB GW (ah 0) (dC (.int 0))) (aQ (ah 0))) ao)) (dC (.int 2)))))))
 (bN (aY kr (aa (ah 1) ao)))))
def eF(t:gQ):List D->R D:=bx 4 (aU (uh (ef 2 3) (aQ (aB bH (br 100 (aa (bu 100 (aa (dC (.int 2)) (aa (dC (.int 0)) ao))) (aa (bu 100 (aa (dC (.int 5)) (aa (dC (.int 1)) ao))) (aa (bu 100 (aa (dC (.int 41)) (aa (dC (.int 10)) ao))) (aa (bu 100 (aa (dC (.int 2001)) (aa (dC (.int 1000)) ao))) ao))))) (aY (b8 t) (aa (ah 0) (aa (dC (.int 30)) (aa (dC (.int 4)) ao)))))))
 (bN (cC (kW (aa (aY dQ (aa (ah 1) ao)) ao)) 1 [3,0,2] (b5 0) (dC (.bl true)) (aB kE (aY (b8 t) (aa (ah 2) (aa (aB oj (dC (.int 2)) (ah 0)) (aa (ah 3) ao)))) (ah 1)))))
def gm(t:gQ):List D->R D:=bx 9 (aU (bC 2 (aY jl (aa (ah 1) ao)))
 (aU (cy (kW (aa (aY dQ (aa (ah 0) ao)) ao)) (b5 3)
 (cy (bU (aY (cN t) (aa (ah 0) ao))) (ef 4 5)
 (aU (uo 6 7 8 (aa (iD (ah 0) (ah 4)) (aa (iD (ah 0) (aY (aV t) (aa (bu 100 (aa (aQ (ah 4)) (aa (aQ (ah 5)) ao))) ao))) (aa (iD (ah 0) (ah 5)) ao))))
 (bz (aB rV (aB cW (aB bH (ah 2) (ah 6)) (aB bH (ah 2) (ah 7))) (aB bH (ah 2) (ah 8)))
 (qu 2 (ah 8) (aB cW (aB bH (ah 2) (ah 6)) (aB bH (ah 2) (ah 7))))
 aR))))
 (bN (ah 2))))
def jo(t:gQ):List D->R D:=bx 5 (aU (cy (bU (aY (cN t) (aa (ah 0) ao))) (ef 2 3)
 (aU (bC 4 (aB cW (aB bH (ah 1) (iD (ah 0) (ah 2))) (aB bH (ah 1) (iD (ah 0) (aY (aV t) (aa (bu 100 (aa (aQ (ah 2)) (aa (aQ (ah 3)) ao))) ao))))))
 (bz (aB rV (ah 4) (aB bH (ah 1) (iD (ah 0) (ah 3))))
 (bN (dC (.bl false)))
 aR)))
 (bN (dC (.bl true))))
def eU(t:gQ):List D->R D:=bx 3 (bN (aY wV (aa (cC (bU (ah 2)) 1 [1,0] (b5 0) (dC (.bl true)) (aQ (aB bH (ah 1) (iD (ah 2) (ah 0))))) ao)))
def cZ(t:gQ):List D->R D:=bx 7 (aU (bz (aB (eW false) (aB bH (ah 3) (dC (.int 0))) (dC (.str "class")))
 (bN (aB (eW true) (aY (iR t) (aa (ah 1) ao)) (aY (iR t) (aa (ah 2) ao))))
 aR)
 (aU (bz (aB (eW false) (aB bH (ah 3) (dC (.int 0))) (dC (.str "closed")))
 (aU (bz (GV (aB (gI true) (ah 1) (aB bH (ah 3) (dC (.int 1)))) (aB (gI false) (ah 2) (aB bH (ah 3) (dC (.int 1)))))
 (bN (dC (.bl false)))
 aR)
 (aU (cy (bU (aB bH (ah 3) (dC (.int 1)))) (b5 4)
 (aU (bz (aB (eW true) (ah 4) (cC (bU (ah 0)) 1 [4] (b5 0) (aB (gI false) (ah 0) (ah 1)) (aQ (ah 0))))
 (bN (dC (.bl false)))
 aR)
 (cy (bU (aY (ez t) (aa (ah 0) (aa (ah 4) ao)))) (b5 5)
 (bz (aB (gI true) (aY (bY t) (aa (ah 4) (aa (ah 5) ao))) (aB bH (ah 3) (dC (.int 1))))
 (bN (dC (.bl false)))
 aR))))
 (bN (dC (.bl true)))))
 aR)
 (aU (bC 6 (aB bH (ah 3) (dC (.int 1))))
 (aU (bz (GV (aB (eW true) (aY dQ (aa (ah 6) ao)) (aY dQ (aa (ah 0) ao))) (GV (aB rV (aY uA (aa (ah 6) ao)) (lV yi (dC (.int 1000)))) (aB GW (aY uC (aa (ah 6) ao)) (dC (.int 1000)))))
 (bN (dC (.bl false)))
 aR)
 (aU (bz (n9 (aY (jo t) (aa (ah 0) (aa (ah 6) ao))))
 (bN (dC (.bl false)))
 aR)
 (bN (aB rV (aY (eU t) (aa (ah 0) (aa (ah 6) (aa (ah 1) ao)))) (aY (eU t) (aa (ah 0) (aa (ah 6) (aa (ah 2) ao)))))))))))
def dU(t:gQ):List D->R D:=bx 10 (aU (bC 4 (aY (aM t) (aa (ah 0) (aa (dC (.int 4)) ao))))
 (aU (bz (aB (eW false) (aB cB (ah 4) (dC (.int 5))) (dC (.int 0)))
 (bN (bu 100 (aa (dC (.str "class")) ao)))
 aR)
 (aU (bz (aB rV (aB cB (ah 4) (dC (.int 5))) (dC (.int 3)))
 (aU (bC 5 (aY (eF t) (aa (aY (aM t) (aa (ah 0) (aa (dC (.int 5)) ao))) (aa (ah 1) ao))))
 (aU (bz (aB GW (aB cB (aB fP (ah 4) (dC (.int 5))) (dC (.int 4))) (dC (.int 0)))
 (bC 5 (aY (gm t) (aa (ah 1) (aa (ah 5) ao))))
 aR)
 (aU (bz (aB (eW false) (aB cB (aB fP (ah 4) (dC (.int 20))) (dC (.int 8))) (dC (.int 1)))
 (bC 5 (aB bH (br 100 (aa (aB iU (ah 5) (br 100 (aa (dC (.int 0)) ao))) (aa (aB iU (rg (ah 5) (some (dC (.int 1))) none) (br 100 (aa (dC (.int 1001)) ao))) (aa (aB yp (rg (ah 5) none (some (dC (.int 1)))) (aB cW (aY dQ (aa (ah 5) ao)) (dC (.int 1)))) ao)))) (aB cB (aB fP (ah 4) (dC (.int 160))) (dC (.int 3)))))
 aR)
 (bN (zJ 100 (aa (dC (.str "weights")) (aa (ah 5) ao)))))))
 aR)
 (aU (bC 6 (aY (eE t) (aa (ah 1) (aa (aB bH (br 100 (aa (ah 2) (aa (ah 3) ao))) (aY KJ (aa (aB (eW false) (aB cB (aB fP (ah 4) (dC (.int 5))) (dC (.int 4))) (dC (.int 1))) ao))) ao))))
 (aU (bC 7 (aB cB (aB fP (ah 4) (dC (.int 320))) (aY dQ (aa (ah 6) ao))))
 (aU (bC 8 (aB cB (aB fP (ah 4) (dC (.int 20))) (dC (.int 8))))
 (aU (bz (aB (eW false) (ah 8) (dC (.int 1)))
 (bC 6 (aB gf (DM (ah 6) none (some (ah 7))) (DM (ah 6) (some (aB cW (ah 7) (dC (.int 1)))) none)))
 aR)
 (aU (bz (aB (eW false) (ah 8) (dC (.int 2)))
 (bC 6 (aB gf (ah 6) (br 100 (aa (ah 3) ao))))
 aR)
 (aU (bz (aB (eW false) (ah 8) (dC (.int 3)))
 (qu 6 (ah 7) (Hu (aB bH (ah 6) (ah 7)) (lV yi (dC (.int 1)))))
 aR)
 (aU (bz (aB (eW false) (ah 8) (dC (.int 4)))
 (qu 6 (ah 7) (aB iU (aB bH (ah 6) (ah 7)) (br 100 (aa (bu 100 (aa (dC (.int 7)) (aa (dC (.int 7)) ao))) ao))))
 aR)
 (VU (aU (bz (aB (eW false) (ah 8) (dC (.int 5)))
 (bC 6 (aB gf (ah 6) (br 100 (aa (aY jl (aa (aB bH (ah 6) (ah 7)) ao)) ao))))
 aR)
 (aU (bC 9 (cC (yo (ah 1)) 2 [0] (ef 0 1) (aB (eW false) (aY (b8 t) (aa (aY (aM t) (aa (ah 2) (aa (dC (.int 6)) ao))) (aa (ah 0) (aa (dC (.int 2)) ao)))) (dC (.int 0))) (aQ (ah 1))))
 (aU (bz (aB (eW false) (ah 8) (dC (.int 6)))
 (bC 6 (aB gf (ah 6) (cC (bU (aY (eE t) (aa (ah 1) (aa (ah 9) ao)))) 1 [6] (b5 0) (aB (gI true) (ah 0) (ah 1)) (ah 0))))
 aR)
 (aU (bz (aB (eW false) (ah 8) (dC (.int 7)))
 (bC 6 (aB gf (br 100 (aa (ah 9) ao)) (ah 6)))
 aR)
 (bN (zJ 100 (aa (dC (.str "closed")) (aa (ah 6) ao)))))))))))))))))))
def zN(t:gQ):List D->R D:=bx 7 (aU (bC 1 (aY (dF t) (aa (ah 0) (aa (dC (.int 10)) ao))))
 (aU (bC 2 (aY (qw (bX t)) (aa (aY jl (aa (ah 1) ao)) ao)))
 (aU (bC 3 (aY (fG t) (aa (aY (aM t) (aa (ah 0) (aa (dC (.int 2)) ao))) (aa (ah 1) ao))))
 (aU (bC 4 (aY (fG t) (aa (aY (aM t) (aa (ah 0) (aa (dC (.int 3)) ao))) (aa (ah 1) ao))))
 (aU (J3 5 [] (aY (dU t) (aa (ah 0) (aa (ah 1) (aa (ah 3) (aa (ah 4) ao))))))
 (aU (bC 6 (aY x9 (aa (bu 100 (aa (ah 3) (aa (ah 4) (aa (ah 5) ao)))) ao)))
 (aU (bz (n9 (aY (kN t) (aa (aY (kM t) (aa (ah 2) (aa (ah 3) (aa (ah 4) (aa (ah 5) ao))))) (aa (aY (cZ t) (aa (ah 1) (aa (ah 3) (aa (ah 4) (aa (ah 5) ao))))) ao))))
 (bN (dC (.bl false)))
 aR)
 (bN (j6 (aB (eW false) (aY x9 (aa (bu 100 (aa (ah 3) (aa (ah 4) (aa (ah 5) ao)))) ao)) (ah 6)) (aB (eW false) (lV cR (ah 2)) (ah 1)))))))))))
abbrev mJ(t:gQ):Cfg:=dw t.kL VJ
def nj{P:cP}{w:bF}{K:Frag}{mg:Str->Option au}{base:aN}{C:Cfg}{x qual:Str}{st:aW}(N:List Str){ps:List Str}(Γ:List SK){k n:Nat}{gq:Option Bool}{Fb:DS}(T:kY K mg x qual st ps)
  (body:gx N ps (aO st)->∀(f:av) (ck:au),(mg x=some (.ref f)/\∃o fd,K.lookup f=some o/\o.data = .func fd/\fd.code=ck)->∀(A:bP) (outer:List Env) (s:ay) (H:Hp) (E:XK),i7 k (A.deeper (envOfC qual (aO st) s.heap.objs.size f ck))->
   mZ ((ji (kC P w) P w K mg base N qual (aO st) f ck A outer s H E).cK (jw (ji (kC P w) P w K mg base N qual (aO st) f ck A outer s H E) fun _=>E)) (dJ st) (jD K C H Γ (fun _=>E) gq Fb)) (S:gx N ps (aO st):=by exact scS) (hn:ps.length=n:=by rfl) (uQ:Γ.take n=cg n .par:=by rfl) :
  FD P w K mg base C (k+1) x ps n (bx N.length Fb) gq:=as5 T S hn (Yj uQ) (body S)
def PY{X:Cx}{C:Cfg}{G0:Hp}{Γ:List SK}{E:L2.St->XK}{e:bf}{es:List bf}{f:DF}{fs:DA}{fL:Kd}(ha:PE X e (tD X.K C G0 Γ E f fL))(hr:PA X es (Bg X.K C G0 Γ E fs .fD))(hs:bJ (e::es) X.env=(false,eval e X.env)::bJ es X.env:=by rfl):PA X (e::es) (Bg X.K C G0 Γ E (aa f fs) .fD):=dZ ha hr (by cases fL <;> rfl) hs
abbrev gE{X:Cx}{e:bf}{K:Frag}{C:Cfg}{G0:Hp}{Γ:List SK}{E:L2.St->XK}{κ:Kd}(f:DF):Prop:=PE X e (tD K C G0 Γ E f κ)
abbrev gS{X:Cx}{s:aW}{K:Frag}{C:Cfg}{G0:Hp}{Γ:List SK}{E:L2.St->XK}{gq:Option Bool}(f:DS):Prop:=PS X s (jD K C G0 Γ E gq f)
abbrev gT{X:Cx}{e:bf}{K:Frag}{C:Cfg}{G0:Hp}{Γ:List SK}{E:L2.St->XK}(f:DF):Prop:=PT X e (uW K C G0 Γ E f)
local macro_rules|`(tactic|walk_at"k")=>`(tactic|repeat first|((with_reducible change PE _ _ _);first|((with_reducible change gE (ah _));first|exact fR _ (pv _)|exact Tc _ (pv _)|exact Td _ (pv _)|exact T9 _ (pv _))|with_reducible exact Xo|with_reducible refine' IJ ?_|((with_reducible change gE (aY _ _));first|((with_reducible change gE (aY dQ _));refine' oz (fL:=.fD) Si (iH AR rfl T.av6 Yv ?_))|((with_reducible change gE (aY jl _));refine' oz (fL:=.fD) D8 (lC qR rfl T.PR J9 ?_))|((with_reducible change gE (aY fE _));refine' oz (fL:=.fD) Ks (iH (Bc hr.units) rfl T.E9 zy ?_))|((with_reducible change gE (aY kr _));refine' oz (fL:=.fD) Ku (lC yd rfl T.Ub Pe ?_))|((with_reducible change gE (aY wV _));refine' oz (fL:=.fD) Tz (iH (Ky hr.hd) rfl T.aw0 Yc ?_))|((with_reducible change gE (aY rz _));refine' oz (fL:=.fD) Th (iH Nn rfl T.av4 Y4 ?_))|((with_reducible change gE (aY x9 _));refine' oz (fL:=.fD) PD (iH (KO hr.units hr.gd) rfl T.Yt U5 ?_))|((with_reducible change gE (aY uA _));refine' oz (fL:=.fD) TF (iH (Kz hr.hd) rfl T.av8 Yd ?_))|((with_reducible change gE (aY uC _));refine' oz (fL:=.fD) U3 (iH (KN hr.hd) rfl T.av7 Ym ?_))|((with_reducible change gE (aY KJ _));refine' oz (fL:=.fD) TX (lC KI rfl T.av5 Yi ?_))|refine' lP (κ:=.fD) (by first|exact Eb T|exact uK T|exact uL T|exact pZ T|exact HE T|exact KY T|exact yF T|exact BS T|exact PZ T|exact Ec T|exact tN T|exact uM T|exact BU T|exact xx T|exact yG T|exact yH T|exact xy T|exact HF T|exact BV T|exact xA T|exact xB T|exact yI T|exact uN T|exact tP T|exact BW T|exact uO T|exact Q0 T|exact BX T|exact tQ T|exact qx T|exact xC T|exact BY T|exact yJ T|exact tR T) hr (by decide) ?_ (by repeat first|exact pC|refine fY ?_))|with_reducible refine' Ox ?_|((with_reducible change PE _ (.Subscript (.List _ _) _ _) (tD _ _ _ _ _ (aB bH _ _) _));focus ((with_reducible refine' Bm ?_ ?_ ?_);walk_at"k";done))|((with_reducible change gE (aB bH _ _));(fail_if_success (with_reducible change PE _ (.Subscript (.List _ _) _ _) _));first|with_reducible refine' Bm ?_ ?_ ?_|refine' XY ?_ ?_ (fun _ _=>rfl) ?_|refine' XZ ?_ ?_ (fun _ _=>rfl) ?_)|with_reducible refine' zu WG Sd ?_ ?_|with_reducible refine' zu WJ Sh ?_ ?_|with_reducible refine' zu Ro Sg ?_ ?_|with_reducible refine' zu WH Se ?_ ?_|with_reducible refine' zu WI Sf ?_ ?_|with_reducible refine' zu Bt Sw ?_ ?_|((with_reducible change gE (bu _ _));first|focus ((with_reducible refine' Bo (κ:=.new) ?_);walk_at"k";done)|focus ((with_reducible refine' Bo (κ:=.loc) ?_);walk_at"k";done)|focus ((with_reducible refine' Bo (κ:=.old) ?_);walk_at"k";done)|focus ((with_reducible refine' Bo (κ:=.uU) ?_);walk_at"k";done))|((with_reducible change gE (br _ _));first|focus ((with_reducible refine' Ov (κ:=.new) ?_);walk_at"k";done)|focus ((with_reducible refine' Ov (κ:=.old) ?_);walk_at"k";done))|((with_reducible change gE (aB (eW false) _ _));refine' tF (Oc hr.units) Bk ?_ ?_ (nN _))|((with_reducible change gE (aB rV _ _));refine' tF Nj GX ?_ ?_ (nN _))|((with_reducible change gE (aB (gI false) _ _));refine' tF (Oe hr.units) Bl ?_ ?_ (by with_unfolding_all rfl))|((with_reducible change gE (aB (gI true) _ _));refine' tF (zj hr.units) Bl ?_ ?_ (by with_unfolding_all rfl))|((with_reducible change gE (aB (eW true) _ _));refine' tF (Od hr.units) Bk ?_ ?_ (nN _))|with_reducible exact II|with_reducible exact Xp|((with_reducible change gE (lV cR _));refine' Pb T.clB T.naB ?_ (hk:=?_))|with_reducible refine' Oz ?_ ?_|((with_reducible change gE (iD _ _));refine' Pg hr.units ?_ ?_ (lb:=?_))|with_reducible refine' OM ?_ ?_ ?_|with_reducible refine' XC ?_|((with_reducible change gE (aB mF _ _));refine' Yb (Ye hr.units) ?_ ?_ (fun _ _=>rfl))|((with_reducible change gE (dC _));first|exact r8 rfl T.zK|exact r8 rfl T.PU|exact r8 rfl T.J8|exact r8 rfl T.PV|exact r8 rfl T.rG))|((with_reducible change PA _ _ _);first|((with_reducible change PA _ _ (Bg _ _ _ _ _ (aa _ _) .fD));refine' PY ?_ ?_)|with_reducible exact mD|((with_reducible change PA _ _ (Bg _ _ _ _ _ _ _));refine' dZ ?_ ?_ ?_)|((with_reducible change PA _ _ (yR _ _));refine' jb ?_ m8)|with_reducible exact Y7|refine' Ti ?_ ?_)|((with_reducible change _=_);exact rfl)|((with_reducible change List.Nodup _);exact hS.nd)|((with_reducible change kG _);exact fun _ _=>rfl)|((with_reducible change mZ _ _ _);first|((with_reducible change mZ _ _ (jD _ _ _ _ _ _ (aU _ _)));refine' Sm ?_ ?_)|refine' oA ?_)|((with_reducible change PS _ _ _);first|with_reducible refine' wB ?_ ?_|((with_reducible change gS (bC _ _));(fail_if_success (with_reducible change PS _ (.Assign _ (.ListComp _ _ _ _) _) _));refine' OA ?_ ?_ (hl:=?_))|with_reducible refine' ap7 ?_ ?_ Xw|((with_reducible change gS (jE _));refine' IM ?_)|((with_reducible change gS (iT _ _));refine' Xy (to:=qM 0) (Vv MT PySem.F.slot_list_append PySem.F.type_list_append yY (pv _) (jb ?_ m8)) rfl (hl:=?_))|((with_reducible change gS (cy (bU _) (b5 _) _));refine' oB (eS ⟨rfl,rfl⟩) rfl ?_ ?_ (by first|exact cS hS.nd rfl (fu rfl)|exact cS hS.nd rfl (fz rfl)) (r9 (k:=.par)) ?_)|((with_reducible change gS (cy (bU _) (ef _ _) _));refine' oB (eS ⟨rfl,rfl⟩) rfl ?_ ?_ (vK rfl (i6 (by first|exact cS hS.nd rfl (fu rfl)|exact cS hS.nd rfl (fz rfl)) (i6 (by first|exact cS hS.nd rfl (fu rfl)|exact cS hS.nd rfl (fz rfl)) qN))) (rf (k:=.par) (k':=.par)) ?_)|((with_reducible change gS (cy (kW _) _ _));refine' Bq (κ:=.fD) (eS ⟨rfl,rfl⟩) rfl T.J7 ?_ (by first|exact cS hS.nd rfl (fu rfl)|exact cS hS.nd rfl (fz rfl)) (r9 (k:=.par)) ?_)|((with_reducible change gS (cy _ (b5 _) _));refine' IZ (eS ⟨rfl,rfl⟩) rfl ?_ (by first|exact cS hS.nd rfl (fu rfl)|exact cS hS.nd rfl (fz rfl)) (r9 (k:=.par)) ?_)|((with_reducible change gS (cy _ (ef _ _) _));refine' IZ (eS ⟨rfl,rfl⟩) rfl ?_ (vK rfl (i6 (by first|exact cS hS.nd rfl (fu rfl)|exact cS hS.nd rfl (fz rfl)) (i6 (by first|exact cS hS.nd rfl (fu rfl)|exact cS hS.nd rfl (fz rfl)) qN))) (rf (k:=.par) (k':=.par)) ?_)|((with_reducible change gS (eo _));refine' Ko PX hr.hd (by first|exact T.HC|exact T.zL|exact T.rH) (by first|exact T.HD|exact T.zM|exact T.rJ) (by first|exact zA (n:=500) (by decide +kernel)|(refine' Pa (n:=500) ?_ (by decide);repeat first|exact all_nil|refine' all_cons ?_ ?_|exact zA (by decide +kernel)|exact oE T.zK (by decide) (by decide +kernel)|exact oE T.PU (by decide) (by decide +kernel)|exact oE T.J8 (by decide) (by decide +kernel)|exact oE T.PV (by decide) (by decide +kernel)|exact oE T.rG (by decide) (by decide +kernel)))))|((with_reducible change PT _ _ _);first|((with_reducible change gT (aB (eW false) _ _));refine' qt (Oc hr.units) Bk ?_ ?_ (nN _))|((with_reducible change gT (aB rV _ _));refine' qt Nj GX ?_ ?_ (nN _))|((with_reducible change gT (aB GW _ _));refine' qt af4 Xq ?_ ?_ (nN _))|((with_reducible change gT (aB (gI false) _ _));refine' qt (Oe hr.units) Bl ?_ ?_ (by with_unfolding_all rfl))|((with_reducible change gT (aB (gI true) _ _));refine' qt (zj hr.units) Bl ?_ ?_ (by with_unfolding_all rfl))|((with_reducible change gT (aB (eW true) _ _));refine' qt (Od hr.units) Bk ?_ ?_ (nN _))|((with_reducible change gT (aB (rB true) _ _));refine' qt (KA (BB hr.units)) TQ ?_ ?_ (by with_unfolding_all rfl))|with_reducible refine' Xs ?_|((with_reducible change PT _ (.BoolOp _ _ _) _);refine' PW.pt ?_)|((with_reducible change PT _ (.Call _ _ _ _) _);refine' VN ?_)|((with_reducible change PT _ (.Name _ _) _);refine' VN ?_))|((with_reducible change Kd);rotate_left)|((with_reducible change PW _ _ _);first|with_reducible refine' Sj ?_|with_reducible refine' Xu ?_|with_reducible refine' Xv ?_ ?_|with_reducible refine' ap5 ?_ ?_)|((with_reducible change PI _ _ _ _);first|with_reducible refine' SM ?_ ?_|with_reducible refine' Y6 ?_ ?_|((with_reducible change PI _ _ _ (IT _ _ _ _ _ _ (DK _)));refine' TV ?_ ?_)|((with_reducible change PI _ _ _ (IT _ _ _ _ _ _ (yo _)));refine' Tg T.E8 ?_ ?_)|((with_reducible change PI _ _ _ (IT _ _ _ _ _ _ (kW _)));refine' OX (κ:=.fD) T.J7 ?_))|with_reducible exact Br|with_reducible refine' IP ?_|((with_reducible change _=true->_=true);exact fun _=>rfl))
section
variable {P:cP}{w:bF}{K:Frag}{mg:Str->Option au}{base:aN}{t:gQ}
def BS(T:Txt K mg t):FD P w K mg base (mJ t) 1 "is_rising" ["cells"] 1 (eu t) (some true):=nj ["cells"] [.par] T.E2 fun hS f ck hc A outer s H E hr=>by
 walk_at"k";refine GY (κ:=.old) hr.hd hr.units T.E9 T.av9 ?_;walk_at"k"
def HF(T:Txt K mg t):FD P w K mg base (mJ t) 1 "is_cell" ["cell"] 1 (lR t) (some true):=nj ["cell"] [.par] T.KS fun hS f ck hc A outer s H E hr=>by
 walk_at"k";refine Dd (fL:=.new) (mC:=.old) (Dc:=.new) u5 u5 om om ?_ ?_ ?_;walk_at"k";refine Dd (fL:=.new) (mC:=.old) (Dc:=.new) u5 u5 om om ?_ ?_ ?_;walk_at"k"
def xD(T:Txt K mg t):FD P w K mg base (mJ t) 2 "check_cells" ["cells"] 1 (bX t) (some true):=nj ["cells","cell"] [.par,.par] T.yx fun hS f ck hc A outer s H E hr=>by
 walk_at"k";refine De (fL:=.new) (mC:=.new) (Dc:=.new) u5 u5 om om ?_ ?_ ?_;walk_at"k"
def Q2(T:Txt K mg t){fi:av}{fd:eZ}(F:Im K "__init__" "Board.__init__" J6 fi fd):j4 P w K mg base (kC P w) 3 fi fd ["self","cells"] (BA K t.kL VJ (bX t)):=
 T7 (κ:=.new) F scS T.clB T.naB fun ck A outer s H E hr=>by
 refine Cu ?_ ?_;refine AL ?_;refine lP (κ:=.fD) (xD T) hr (by decide) ?_ (fY pC);refine dZ (κ:=.fD) (fL:=.old) ?_ ?_;exact fR 1 (pv 1);exact mD (κ:=.fD);refine Ib ?_;refine WM (pv 0) ?_ rfl;refine oz (fL:=.fD) D8 ?_;refine lC qR rfl T.PR J9 ?_;refine dZ (κ:=.fD) (fL:=.old) ?_ ?_;exact fR 1 (pv 1);exact mD (κ:=.fD)
def pZ(T:Txt K mg t):FD P w K mg base (mJ t) 2 "check_pegs" ["board","pegs"] 2 (c8 t) (some true):=nj ["board","pegs","cell"] [.par,.par,.par] T.BJ fun hS f ck hc A outer s H E hr=>by
 walk_at"k"
def BV(T:Txt K mg t):FD P w K mg base (mJ t) 1 "two_apart" ["cell"] 1 (iA t) (some true):=nj ["cell","row","column"] [.par,.par,.par] T.E3 fun hS f ck hc A outer s H E hr=>by
 walk_at"k"
def HE(T:Txt K mg t):FD P w K mg base (mJ t) 1 "between" ["cell","other"] 2 (dS t) (some true):=nj ["cell","other"] [.par,.par] T.KU fun hS f ck hc A outer s H E hr=>by
 walk_at"k"
def PZ(T:Txt K mg t):FD P w K mg base (mJ t) 2 "leaps" ["board"] 1 (pH t) (some true):=nj ["board","found","first","second"] [.par,.own true,.par,.par] T.U9 fun hS f ck hc A outer s H E hr=>by
 walk_at"k"
def xA(T:Txt K mg t):FD P w K mg base (mJ t) 2 "can_be_done" ["pegs","leap"] 2 (jd t) (some true):=nj ["pegs","leap"] [.par,.par] T.yy fun hS f ck hc A outer s H E hr=>by
 walk_at"k"
def xB(T:Txt K mg t):FD P w K mg base (mJ t) 2 "pegs_behind" ["pegs","leap"] 2 (je t) (some true):=nj ["pegs","leap","taken"] [.par,.par,.par] T.yz fun hS f ck hc A outer s H E hr=>by
 walk_at"k";refine gK (n:=true) (z:=true) (gz:=["cell"]) (caps:=[(2,"taken")]) ?_ (.mk (ng:=.new) (hT:=fun _ _ _ _=>gk ?_) (hE:=fun _ _ _ _=>?_));walk_at"k"
def KY(T:Txt K mg t):FD P w K mg base (mJ t) 1 "odd_on" ["colours","two"] 2 (ku t) (some true):=nj ["colours","two"] [.par,.par] T.PK fun hS f ck hc A outer s H E hr=>by
 walk_at"k";refine gK (n:=true) (z:=true) (gz:=["colour"]) (caps:=[(1,"two")]) ?_ (.mk (ng:=.new) (hT:=fun _ _ _ _=>gk ?_) (hE:=fun _ _ _ _=>?_));walk_at"k"
def Ec(T:Txt K mg t):FD P w K mg base (mJ t) 3 "class_of" ["board","pegs"] 2 (kB t) (some true):=nj ["board","pegs","by_sum","by_difference"] [.par,.par,.par,.par] T.HA fun hS f ck hc A outer s H E hr=>by
 walk_at"k";refine oM (i:=2) (k:=.par) (n:=true) (z:=true) (gz:=["cell"]) (caps:=[]) ?_ ?_ (.mk (ng:=.new) (hE:=fun _ _ _ _=>?_));walk_at"k";refine oM (i:=3) (k:=.par) (n:=true) (z:=true) (gz:=["cell"]) (caps:=[]) ?_ ?_ (.mk (ng:=.new) (hE:=fun _ _ _ _=>?_));walk_at"k"
def tN(T:Txt K mg t):FD P w K mg base (mJ t) 1 "check_weights" ["board","weights"] 2 (cQ t) (some true):=nj ["board","weights","number"] [.par,.par,.par] T.uG fun hS f ck hc A outer s H E hr=>by
 walk_at"k";refine De (fL:=.new) (mC:=.old) (Dc:=.new) u5 u5 om om ?_ ?_ ?_;walk_at"k"
def Ud(T:Txt K mg t):FD P w K mg base (mJ t) 3 "fair" ["board","weights"] 2 (tM t) (some true):=nj ["board","weights","by_cell","leap"] [.par,.par,.par,.par] T.Yr fun hS f ck hc A outer s H E hr=>by
 walk_at"k";refine wR (fL:=.old) (mC:=.old) rfl (BB hr.units) T.PN T.VY ?_ ?_;walk_at"k"
def zO(T:Txt K mg t):FD P w K mg base (mJ t) 3 "weight" ["board","weights","pegs"] 3 (oQ t) (some true):=nj ["board","weights","pegs","by_cell"] [.par,.par,.par,.par] T.PM fun hS f ck hc A outer s H E hr=>by
 walk_at"k";refine wR (fL:=.old) (mC:=.old) rfl (BB hr.units) T.PN T.VY ?_ ?_;walk_at"k";refine gK (n:=true) (z:=true) (gz:=["cell"]) (caps:=[(3,"by_cell")]) ?_ (.mk (ng:=.new) (hE:=fun _ _ _ _=>?_));walk_at"k"
def yI(T:Txt K mg t):FD P w K mg base (mJ t) 3 "steps_from" ["all_leaps","standing"] 2 (iQ t) (some true):=nj ["all_leaps","standing"] [.par,.par] T.BK fun hS f ck hc A outer s H E hr=>by
 walk_at"k";refine gK (n:=true) (z:=true) (gz:=["leap"]) (caps:=[(1,"standing")]) ?_ (.mk (ng:=.new) (hT:=fun _ _ _ _=>gk ?_) (hE:=fun _ _ _ _=>?_));walk_at"k"
def uN(T:Txt K mg t):FD P w K mg base (mJ t) 4 "weights_hold" ["board","pegs","others","weights"] 4 (gM t) (some true):=
 have hS:gx ["board","pegs","others","weights","is_fair"] ["board","pegs","others","weights"] (aO oN):=scS;Pc (Γ:=[.par,.par,.par,.par,.par]) T.xo hS rfl (Yj rfl) fun f ck hc A outer s H E hr=>
 by
 refine zC ?_ ?_;refine J5 ⟨rfl,rfl⟩ rfl T.rH (OT PX T.rJ) T.BR (fun E=>?_) (fun a=>?_) rfl;refine oA ?_;refine OA (i:=4) (k:=.par) (κ:=.new) ?_ ?_;exact hS.nd;refine lP (κ:=.fD) (Ud T) hr (by decide) ?_ (fY (fY pC));refine dZ (κ:=.fD) (fL:=.old) ?_ ?_;exact fR 0 (pv 0);refine dZ (κ:=.fD) (fL:=.old) ?_ ?_;exact fR 3 (pv 3);exact mD (κ:=.fD);refine oA ?_;refine wB (κ:=.new) ?_;exact II;refine mZ.zero ?_;refine oA ?_;refine wB (κ:=.new) ?_;refine Oz (fL:=.new) ?_ ?_;refine IJ (κ:=.old) ?_;exact fR 4 (pv 4);refine Ox ?_;refine tF (fL:=.new) (mC:=.new) Nj GX ?_ ?_ (nN _);refine lP (κ:=.fD) (zO T) hr (by decide) ?_ (fY (fY (fY pC)));refine dZ (κ:=.fD) (fL:=.old) ?_ ?_;exact fR 0 (pv 0);refine dZ (κ:=.fD) (fL:=.old) ?_ ?_;exact fR 3 (pv 3);refine dZ (κ:=.fD) (fL:=.old) ?_ ?_;exact fR 1 (pv 1);exact mD (κ:=.fD);refine lP (κ:=.fD) (zO T) hr (by decide) ?_ (fY (fY (fY pC)));refine dZ (κ:=.fD) (fL:=.old) ?_ ?_;exact fR 0 (pv 0);refine dZ (κ:=.fD) (fL:=.old) ?_ ?_;exact fR 3 (pv 3);refine dZ (κ:=.fD) (fL:=.old) ?_ ?_;exact fR 2 (pv 2);exact mD (κ:=.fD)
def tP(T:Txt K mg t):FD P w K mg base (mJ t) 3 "all_standings" ["board","standings"] 2 (dz t) (some true):=
 have hS:gx ["board","standings","pegs"] ["board","standings"] (aO mX):=scS;Pc (Γ:=[.par,.par,.par]) T.uH hS rfl (Yj rfl) fun f ck hc A outer s H E hr=>
 by
 refine zC ?_ ?_;refine J5 ⟨rfl,rfl⟩ rfl T.zL (OT PX T.zM) T.KW (fun E=>?_) (fun a=>?_) rfl;refine oA ?_;refine oB (κ:=.old) (eS ⟨rfl,rfl⟩) rfl ?_ rfl (cS (i:=2) (by exact hS.nd) rfl (fu rfl)) (r9 (i:=2) (k:=.par)) ?_;exact fR 1 (pv 1);refine oA ?_;refine IM (κ:=.new) ?_;refine lP (κ:=.fD) (pZ T) hr (by decide) ?_ (fY (fY pC));refine dZ (κ:=.fD) (fL:=.old) ?_ ?_;exact fR 0 (pv 0);refine dZ (κ:=.fD) (fL:=.old) ?_ ?_;exact fR 2 (pv 2);exact mD (κ:=.fD);refine oA ?_;refine wB (κ:=.new) ?_;exact II;refine mZ.zero ?_;refine oA ?_;refine wB (κ:=.new) ?_;exact II
def BW(T:Txt K mg t):FD P w K mg base (mJ t) 4 "is_closed" ["board","standings"] 2 (jm t) (some true):=nj ["board","standings","all_leaps","among","pegs","standing","leap","behind"] [.par,.par,.par,.own true,.par,.par,.par,.par] T.E4 fun hS f ck hc A outer s H E hr=>by
 walk_at"k";exact TR;walk_at"k";refine TU (i:=3) (κ:=.new) (κ':=.new) (BB hr.units) (pv 3) ?_ ?_ rfl;walk_at"k";refine VV (n:=8) ?_;walk_at"k"
def uO(T:Txt K mg t):FD P w K mg base (mJ t) 5 "closed_holds" ["board","pegs","others","standings"] 4 (fF t) (some true):=nj ["board","pegs","others","standings"] [.par,.par,.par,.par] T.xq fun hS f ck hc A outer s H E hr=>by
 walk_at"k"
def Q0(T:Txt K mg t):FD P w K mg base (mJ t) 6 "holds" ["board","pegs","others","paper"] 4 (kM t) (some true):=nj ["board","pegs","others","paper"] [.par,.par,.par,.par] T.Ua fun hS f ck hc A outer s H E hr=>by
 walk_at"k"
def uK(T:Txt K mg t):FD P w K mg base (mJ t) 1 "_law_cell_at" ["script","k"] 2 (aM t) (some true):=nj ["script","k"] [.par,.par] T.xr fun hS f ck hc A outer s H E hr=>by
 walk_at"k"
def Eb(T:Txt K mg t):FD P w K mg base (mJ t) 1 "_law_mix" ["cell","k","many"] 3 (b8 t) (some true):=nj ["cell","k","many","some","number"] [.par,.par,.par,.par,.par] T.HB fun hS f ck hc A outer s H E hr=>by
 walk_at"k"
def BX(T:Txt K mg t):FD P w K mg base (mJ t) 1 "_law_told" ["found","due"] 2 (kN t) (some true):=nj ["found","due"] [.par,.par] T.E5 fun hS f ck hc A outer s H E hr=>by
 walk_at"k";refine XX (fL:=.old) (T:="bool") Ea T.BQ T.Ys (by decide +kernel) ?_;walk_at"k"
def tQ(T:Txt K mg t):FD P w K mg base (mJ t) 2 "_law_cells_by" ["script","most"] 2 (dF t) (some true):=nj ["script","most","cell","height","width","down","across","some","k"] [.par,.par,.par,.par,.par,.par,.par,.own true,.par] T.uI fun hS f ck hc A outer s H E hr=>by
 walk_at"k";refine OP (i:=3) (j:=4) (k:=.par) (k':=.par) rfl ?_ ?_ (by decide);walk_at"k";refine IQ (κ:=.new) ?_ rfl (vK rfl (i6 (cS (i:=3) (by exact hS.nd) rfl (fu rfl)) (i6 (cS (i:=4) (by exact hS.nd) rfl (fu rfl)) qN))) (rf (i:=3) (j:=4) (k:=.par) (k':=.par));walk_at"k";refine OP (i:=5) (j:=6) (k:=.par) (k':=.par) rfl ?_ ?_ (by decide);walk_at"k"
def uM(T:Txt K mg t):FD P w K mg base (mJ t) 2 "_law_pegs_by" ["cell","cells"] 2 (fG t) (some true):=nj ["cell","cells","way","gone"] [.par,.par,.par,.par] T.xu fun hS f ck hc A outer s H E hr=>by
 walk_at"k";refine gK (n:=true) (z:=true) (gz:=["k","one"]) (caps:=[(0,"cell"),(2,"way")]) ?_ (.mk (ng:=.new) (hT:=fun _ _ _ _=>gk ?_) (hE:=fun _ _ _ _=>?_));walk_at"k"
def uL(T:Txt K mg t):FD P w K mg base (mJ t) 1 "_law_between" ["leap"] 1 (aV t) (some true):=nj ["leap"] [.par] T.xw fun hS f ck hc A outer s H E hr=>by
 walk_at"k"
def yF(T:Txt K mg t):FD P w K mg base (mJ t) 2 "_law_leaps" ["cells"] 1 (cN t) (some true):=nj ["cells","found","one","two","apart"] [.par,.own true,.par,.par,.par] T.BL fun hS f ck hc A outer s H E hr=>by
 walk_at"k"
def BU(T:Txt K mg t):FD P w K mg base (mJ t) 3 "_law_open" ["cells","pegs"] 2 (ez t) (some true):=nj ["cells","pegs","found","one","two"] [.par,.par,.own true,.par,.par] T.E6 fun hS f ck hc A outer s H E hr=>by
 walk_at"k"
def xx(T:Txt K mg t):FD P w K mg base (mJ t) 2 "_law_behind" ["pegs","leap"] 2 (bY t) (some true):=nj ["pegs","leap","left"] [.par,.par,.par] T.yC fun hS f ck hc A outer s H E hr=>by
 walk_at"k";refine oM (i:=2) (k:=.par) (n:=true) (z:=true) (gz:=["one"]) (caps:=[(1,"leap")]) ?_ ?_ (.mk (ng:=.new) (hT:=fun _ _ _ _=>gk ?_) (hE:=fun _ _ _ _=>?_));walk_at"k"
def yG(T:Txt K mg t):FD P w K mg base (mJ t) 4 "_law_reach" ["cells","pegs"] 2 (eE t) (some true):=nj ["cells","pegs","found","at","leap","behind"] [.par,.par,.own true,.par,.par,.loc] T.BN fun hS f ck hc A outer s H E hr=>by
 walk_at"k";refine Ph 5000 (eS ⟨rfl,rfl⟩) ?_ ?_;walk_at"k"
def yH(T:Txt K mg t):FD P w K mg base (mJ t) 1 "_law_class" ["pegs"] 1 (iR t) (some true):=nj ["pegs","found","sign","colours"] [.par,.own true,.par,.par] T.BO fun hS f ck hc A outer s H E hr=>by
 walk_at"k";refine oM (i:=3) (k:=.par) (n:=true) (z:=true) (gz:=["r","c"]) (caps:=[(2,"sign")]) ?_ ?_ (.mk (ng:=.new) (hE:=fun _ _ _ _=>?_));walk_at"k";refine gK (n:=true) (z:=true) (gz:=["x"]) (caps:=[]) ?_ (.mk (ng:=.new) (hT:=fun _ _ _ _=>gk ?_) (hE:=fun _ _ _ _=>?_));walk_at"k";refine gK (n:=true) (z:=true) (gz:=["x"]) (caps:=[]) ?_ (.mk (ng:=.new) (hT:=fun _ _ _ _=>gk ?_) (hE:=fun _ _ _ _=>?_));walk_at"k"
def qx(T:Txt K mg t):FD P w K mg base (mJ t) 2 "_law_weights_by" ["cell","cells"] 2 (eF t) (some true):=nj ["cell","cells","most","less"] [.par,.par,.par,.par] T.rF fun hS f ck hc A outer s H E hr=>by
 walk_at"k";refine IQ (κ:=.new) ?_ rfl (vK rfl (i6 (cS (i:=2) (by exact hS.nd) rfl (fz rfl)) (i6 (cS (i:=3) (by exact hS.nd) rfl (fz rfl)) qN))) (rf (i:=2) (j:=3) (k:=.par) (k':=.par));walk_at"k";refine gK (n:=true) (z:=true) (gz:=["k"]) (caps:=[(3,"less"),(0,"cell"),(2,"most")]) ?_ (.mk (ng:=.new) (hE:=fun _ _ _ _=>?_));walk_at"k"
def xC(T:Txt K mg t):FD P w K mg base (mJ t) 3 "_law_raised" ["cells","weights"] 2 (gm t) (some true):=nj ["cells","weights","found","turn","one","two","a","b","c"] [.par,.par,.own true,.par,.par,.par,.par,.par,.par] T.yD fun hS f ck hc A outer s H E hr=>by
 walk_at"k";refine TJ (i:=6) (j:=7) (k:=8) (k1:=.par) (k2:=.par) (k3:=.par) rfl ?_ ?_;walk_at"k";refine GZ (i:=2) (κ:=.new) (κ':=.old) (pv 2) ?_ ?_ rfl;walk_at"k"
def BY(T:Txt K mg t):FD P w K mg base (mJ t) 3 "_law_fair" ["cells","weights"] 2 (jo t) (some true):=nj ["cells","weights","one","two","left"] [.par,.par,.par,.par,.par] T.E7 fun hS f ck hc A outer s H E hr=>by
 walk_at"k"
def xy(T:Txt K mg t):FD P w K mg base (mJ t) 1 "_law_weight" ["cells","weights","pegs"] 3 (eU t) (some true):=nj ["cells","weights","pegs"] [.par,.par,.par] T.yE fun hS f ck hc A outer s H E hr=>by
 walk_at"k";refine gK (n:=true) (z:=true) (gz:=["one"]) (caps:=[(1,"weights"),(0,"cells")]) ?_ (.mk (ng:=.new) (hE:=fun _ _ _ _=>?_));walk_at"k"
def yJ(T:Txt K mg t):FD P w K mg base (mJ t) 4 "_law_holds" ["cells","pegs","others","paper"] 4 (cZ t) (some true):=nj ["cells","pegs","others","paper","standing","leap","numbers"] [.par,.par,.par,.par,.par,.par,.par] T.BP fun hS f ck hc A outer s H E hr=>by
 walk_at"k";refine gK (n:=true) (z:=true) (gz:=["one"]) (caps:=[(4,"standing")]) ?_ (.mk (ng:=.new) (hT:=fun _ _ _ _=>gk ?_) (hE:=fun _ _ _ _=>?_));walk_at"k"
def tR(T:Txt K mg t):FD P w K mg base (mJ t) 5 "_law_paper_by" ["script","cells","pegs","others"] 4 (dU t) (some false):=nj ["script","cells","pegs","others","cell","numbers","some","at","way","third"] [.par,.par,.par,.par,.par,.par,.own false,.par,.par,.par] T.uJ fun hS f ck hc A outer s H E hr=>by
 walk_at"k";refine Tj (mC:=.new) ?_ ?_ (fun _ _=>rfl);walk_at"k";refine Y3 (mC:=.new) ?_ ?_;walk_at"k";refine J4 ?_;walk_at"k";refine uZ (fL:=.pB) (mC:=.pB) ?_ ?_;refine Py (pv 6) Br ?_;walk_at"k";refine Py (pv 6) ?_ Br;walk_at"k";refine U4 (mC:=.old) (pv 6) ?_;walk_at"k";refine GZ (i:=6) (κ:=.new) (κ':=.old) (pv 6) ?_ ?_ rfl;walk_at"k";refine Yl (fL:=.fD) (κs:=.new) ?_ ?_;walk_at"k";refine GZ (i:=6) (κ:=.new) (κ':=.old) (pv 6) ?_ ?_ rfl;walk_at"k";refine VV (n:=10) ?_;walk_at"k";refine uZ (fL:=.old) (mC:=.new) ?_ ?_;walk_at"k";refine oM (i:=9) (k:=.par) (n:=true) (z:=true) (gz:=["k","one"]) (caps:=[(0,"script")]) ?_ ?_ (.mk (ng:=.new) (hT:=fun _ _ _ _=>gk ?_) (hE:=fun _ _ _ _=>?_));walk_at"k";refine uZ (fL:=.old) (mC:=.pB) ?_ ?_;walk_at"k";refine gK (n:=false) (z:=true) (gz:=["one"]) (caps:=[(6,"some")]) ?_ (.mk (ng:=.old) (hT:=fun _ _ _ _=>gk ?_) (hE:=fun _ _ _ _=>?_));walk_at"k";refine uZ (fL:=.old) (mC:=.old) ?_ ?_;walk_at"k";refine J4 ?_;walk_at"k"
def Ue(T:Txt K mg t){fiB:av}{fdB:eZ}(mkB:Mk K t.kL fiB)(bB:Binds K fdB ["self","cells"] [])(Ug:j4 P w K mg base (kC P w) 3 fiB fdB ["self","cells"] (BA K t.kL VJ (bX t))):FD P w K mg base (mJ t) 7 "law" ["script"] 1 (zN t) (some true):=nj ["script","cells","board","pegs","others","paper","kept"] [.par,.par,.par,.par,.par,.par,.par] T.VX fun hS f ck hc A outer s H E hr=>by
 walk_at"k";refine P9 (κ:=.fD) mkB Ug (hr.mono (by decide)) T.Uc bB ?_;walk_at"k";refine TY (i:=5) (js:=[]) (κ:=.fD) ?_ ?_ rfl;walk_at"k"
def Yw(T:Txt K mg t):FD P w K mg base (mJ t) 7 "law" ["script"] 1 (zN t) (some true):=by
 obtain⟨fiB,fdB,FuB,mkB,bB⟩:=T.iB;exact Ue T mkB bB (Q2 T FuB)
def Ed(K:Frag)(gl:GL):Sp:=fun vs H Q _=>∃(a:av) (ns:List Int),vs=[.ref a]/\(ja K H a (ns.map V.int)/\gl.p H)/\ns.length<=63/\∀H',Q (.bl true) H'
def Yx(T:Txt K mg t)(Q3:∀ns:List Int,ns.length<=63->zN t [.lst (ns.map D.int)] = .ok (.bl true)):∃a fd,j4 P w K mg base (kC P w) 40 a fd ["script"] (Ed K VJ)/\mg "law"=some (.ref a)/\∃o,K.lookup a=some o/\o.data = .func fd:=by
 obtain⟨a,fd,h1,h2,_,_,h4⟩:=(Yw (P:=P) (w:=w) (base:=base) T).ex;refine⟨a,fd,(h1.mono (by decide)).imp fun vs H Q E jz=>?_,h2,h4⟩;obtain⟨p,ns,e,hs,hl,q⟩:=jz;subst e;refine⟨[.lst (ns.map D.int)],rfl,⟨.cons (by rw[Rep];exact⟨p,_,rfl,hs.1,aH.ints ns⟩) .nil,hs.2⟩,?_⟩;rw[Q3 ns hl];intro v H' _ r;have r':=r.1;rw[Rep]at r';subst r';exact q H'
end
def aw1{l:OpenLaw}{w:bF}{K:Frag}{h:aN}{mg:Str->Option au}{fa:av}(hfa:mg "law"=some (.ref fa))(T:∃t,Txt K mg t)(Q3:∀(t:gQ) (ns:List Int),ns.length<=63->zN t [.lst (ns.map D.int)] = .ok (.bl true)) :
  ∃fd:eZ,(∀(s:ay) (v:au),BindsTo s fd ⟨[v],[]⟩ [("script",v)])/\∀base:aN,K.In base->base.Ns gU mg->j4 l.prog w K mg base (kC l.prog w) 40 fa fd ["script"] (Ed K VJ):=by
 obtain⟨t,T⟩:=T;obtain⟨a,fd,Fu,hm,hb⟩:=T.VX;obtain rfl:a=fa:=by rw[hm]at hfa;cases hfa;rfl
 refine⟨fd,fun s v=>?_,fun base hk hn=>?_⟩;obtain⟨oc,od,kV,doc,pm,an,ck,ct,Cz,rfl,lk,Ge⟩:=Fu.ex;exact .of_eq rfl;obtain⟨a',fd',h1,h2,h3⟩:=Yx (P:=l.prog) (w:=w) (base:=base) T (Q3 t);rw[hm]at h2;cases h2;obtain⟨o,l1,d1⟩:=h3;obtain⟨o',l2,d2⟩:=oK Fu;rw[l1]at l2;cases l2;rw[d1]at d2;cases d2;exact h1
def walk{l:OpenLaw}{q:cP}{loose:List Str}{XP:(Str->Option au)->aN->Prop}{YP:bF->aN->Prop}{d:DefRec}{K:dI->Frag}(hn:l.most=some 63)(WU:d.params.defaults=[])
  (hY:∀(w:bF) (h:aN),YP w h->(K w.params).In h)
  (F:∀(w:bF) (mg:Str->Option au) (fa:av) (h:aN),(K w.params).In h->h.Ns gU mg->mg d.name=some (.ref fa)->
   ∃fd:eZ,(∀(s:ay) (u:au),BindsTo s fd ⟨[u],[]⟩ [("script",u)])/\∀base:aN,(K w.params).In base->base.Ns gU mg->j4 l.prog w (K w.params) mg base (kC l.prog w) 40 fa fd ["script"] (Ed (K w.params) VJ)) :
  WalkO q loose XP YP l.row.toRowW d [] (fun f vs=>PySem.call f vs):=
 L2.RD (n:=63) (k:=40) (x:="script") (CX:=fun w=>kC l.prog w) (sp:=fun w=>Ed (K w.params) VJ) hn (by decide) WU ⟨rfl,by decide,by decide,rfl⟩ hY F (fun _ _ a ns hl _ hS=>⟨a,ns,rfl,⟨hS,trivial⟩,hl,fun _=>rfl⟩) fun w H s e s' n8=>n8.elim fun _ sX=>sX.elim fun _ Io=>Io.elim fun _ JI=>JI.elim fun _ Li=>Li.elim fun _ Gf=>Gf.elim fun _ I8=>I8.elim fun _ Ia=>Ia.elim fun _ AK=>AK.elim fun _ GA=>GA.elim fun _ GB=>GB.elim fun _ GC=>GC.elim fun _ NO=>NO.elim fun z _=>z
def aw2{l:OpenLaw}{q:cP}{loose:List Str}{XP:(Str->Option au)->aN->Prop}{d:DefRec}{K:dI->Frag}{as:List av}(hn:l.most=some 63)(WU:d.params.defaults=[])(e:∀P,as=(K P).map (·.1))
  (F:∀(w:bF) (mg:Str->Option au) (fa:av) (h:aN),(K w.params).In h->h.Ns gU mg->mg d.name=some (.ref fa)->
   ∃fd:eZ,(∀(s:ay) (u:au),BindsTo s fd ⟨[u],[]⟩ [("script",u)])/\∀base:aN,(K w.params).In base->base.Ns gU mg->j4 l.prog w (K w.params) mg base (kC l.prog w) 40 fa fd ["script"] (Ed (K w.params) VJ)) :
  WalkX q loose XP (fun s:ay=>as.map s.heap.get?) (fun w=>(K w.params).map fun p=>some p.2) l.row.toRowW d [] (fun f vs=>PySem.call f vs):=
 fun w iG dg mg mb G y a o pm cd doc dV kV h1 h2 h3 h4 h5 h6 args vals as' L h7 h8 h9 h10 h11=>walk (YP:=fun w h=>(K w.params).In h) hn WU (fun _ _ h=>h) F w iG dg mg mb G (InK.keeps w iG.heap dg.heap (InK.of e w iG y) L.keeps) a o pm cd doc dV kV h1 h2 h3 h4 h5 h6 args vals as' h7 h8 h9 h10 h11
end Pk
end av2
section aw3
namespace Dm
open L2 HT
section
@[simp] theorem rL (a:α) (f:α->R β):R.bind (.ok a) f=f a:=rfl
@[simp] theorem aw4 (f:α->R β):R.bind (.bad:R α) f = .bad:=rfl
@[simp] theorem aB4 (c:PySem.Addr) (p:Option Int) (f:α->R β):R.bind (.ex c p:R α) f = .ex c p:=rfl
@[simp] theorem aR9 (st:eY):aU F G st=match F st with | .nx st'=>G st'|o=>o:=rfl
@[simp] theorem aP6 (st:eY):aR st = .nx st:=rfl
@[simp] theorem aS0 (st:eY):bC i f st=match f st with | .ok d=>.nx (st.set i (some d)) | .ex c p=>.ex c p st | .bad=>.bad:=rfl
@[simp] theorem aP7 (st:eY):jE f st=match f st with | .ok _=>.nx st | .ex c p=>.ex c p st | .bad=>.bad:=rfl
@[simp] theorem aS1 (st:eY):bN f st=match f st with | .ok d=>.rt d | .ex c p=>.ex c p st | .bad=>.bad:=rfl
@[simp] theorem aS2 (st:eY):Dm.bz fc F G st=match fc st with | .ok (.bl true)=>F st | .ok (.bl false)=>G st | .ok _=>.bad | .ex c p=>.ex c p st | .bad=>.bad:=rfl
@[simp] theorem aw5 (st:eY):eo c st = .ex c none st:=rfl
@[simp] theorem aS3 (st:eY):ah i st=match st[i]? with|some (some d)=>.ok d|_=>.bad:=rfl
@[simp] theorem dC_ (st:eY):dC d st = .ok d:=rfl
@[simp] theorem aP8 (st:eY):aQ f st=(f st).bind fun d=>if fU d=true then .ok d else .bad:=rfl
@[simp] theorem aT7 {g:D->D->R D} (st:eY):aB g fa fb st=(fa st).bind fun a=>(fb st).bind fun b=>g a b:=rfl
@[simp] theorem aT8 {g:D->R D} (st:eY):lV g fa st=(fa st).bind g:=rfl
@[simp] theorem aw6 (st:eY):ao st = .ok []:=rfl
@[simp] theorem Yy (st:eY):aa f fs st=(f st).bind fun d=>(fs st).bind fun ds=>.ok (d::ds):=rfl
@[simp] theorem aP9 (i:Int) (ds:List D):pO (.tup (.int i::ds))=true:=rfl
@[simp] theorem aQ0 (es ds:List D):pO (.tup (.tup es::ds))=true:=rfl
@[simp] theorem aQ1 (es ds:List D):pO (.tup (.lst es::ds))=true:=rfl
@[simp] theorem aQ2 (b:Bool) (ds:List D):pO (.tup (.bl b::ds))=true:=rfl
@[simp] theorem aS4 (st:eY):bu n fs st=(fs st).bind fun ds=>if ds.length<=n/\pO (.tup ds)=true then .ok (.tup ds)else .bad:=rfl
@[simp] theorem aS5 (st:eY):br n fs st=(fs st).bind fun ds=>if ds.length<=n then .ok (.lst ds)else .bad:=rfl
@[simp] theorem aT9 {g:List D->R D} (st:eY):aY g fs st=(fs st).bind g:=rfl
@[simp] theorem aS6 (st:eY):j6 fa fb st=(fa st).bind fun a=>match a with | .bl true=>fb st | .bl false=>.ok (.bl false)|_=>.bad:=rfl
@[simp] theorem aU0 (st:eY):GV fa fb st=(fa st).bind fun a=>match a with | .bl true=>.ok (.bl true) | .bl false=>fb st|_=>.bad:=rfl
@[simp] theorem aS7 (st:eY):n9 fa st=(fa st).bind fun a=>match a with | .bl b=>.ok (.bl (!b))|_=>.bad:=rfl
@[simp] theorem aB5 {g g':D->D->R D} (st:eY):ko g g' fa fb fc st=(fa st).bind fun a=>(fb st).bind fun b=>(g a b).bind fun z=>match z with
 | .bl true=>(fc st).bind fun c=>g' b c
 | .bl false=>.ok (.bl false)
 | _=>.bad:=rfl
@[simp] theorem aS8 (i j:Int):cW (.int i) (.int j) = .ok (.int (i+j)):=rfl
@[simp] theorem aS9 (i j:Int):kE (.int i) (.int j) = .ok (.int (i-j)):=rfl
@[simp] theorem Q4 (i j:Int):rV (.int i) (.int j) = .ok (.bl (decide (i<j))):=rfl
@[simp] theorem aU1 (i j:Int):Lo (.int i) (.int j) = .ok (.bl (decide (i<=j))):=rfl
@[simp] theorem aw7 (i j:Int):GW (.int i) (.int j) = .ok (.bl (decide (j<i))):=rfl
@[simp] theorem aT0 (i:Int):yi (.int i) = .ok (.int (-i)):=rfl
@[simp] theorem Q5 (ds:List D):dQ [.lst ds] = .ok (.int ds.length):=rfl
@[simp] theorem aQ3 (ds:List D):dQ [.tup ds] = .ok (.int ds.length):=rfl
@[simp] theorem BZ (i:Int):fU (.int i)=true:=by rw[fU] <;> simp
@[simp] theorem aQ4 (i:Bool):fU (.bl i)=true:=by rw[fU] <;> simp
@[simp] theorem lS {gi:DI} {bind:DB} (st:eY):cy gi bind F st=match gi st with | .ok ds=>dG bind F ds st | .ex c p=>.ex c p st | .bad=>.bad:=rfl
@[simp] theorem aw8 (st:eY):bU f st=match f st with | .ok (.lst ds)=>.ok ds | .ok _=>.bad | .ex c p=>.ex c p | .bad=>.bad:=rfl
def i9{j:Int}(h:0<j):cB (.int i) (.int j) = .ok (.int (i % j)):=by
 show(if decide (0<j)=true then _ else _)=_;rw[aU3 (aU5 h)]
def rM{j:Int}(h:0<j)(h2:j<1073741824):fP (.int i) (.int j) = .ok (.int (i / j)):=by
 show(if(decide (0<j)&&decide (j<1073741824))=true then _ else _)=_;rw[aU3 (by rw[aU5 h,aU5 h2];rfl)]
def qy{i:Int}(h : -(2 ^ 64)<i/\i<2 ^ 64):oj (.int i) (.int j) = .ok (.int (i*j)):=by
 show(if(sm i || sm j)=true then _ else _)=_;rw[aU3];unfold sm;rw[aU5 h.1,aU5 h.2];rfl
end
abbrev Cell:=Int×Int
def cD(c:Cell):D:=.tup [.int c.1,.int c.2]
@[simp] theorem aQ5 (c:Cell) (ds:List D):pO (.tup (cD c::ds))=true:=rfl
abbrev az(l:List Cell):D:=.lst (l.map cD)
def row(c:Cell):List Int:=[c.1,c.2]
def Uh(h:row a=row b):a=b:=by
 obtain⟨a1,a2⟩:=a;obtain⟨b1,b2⟩:=b;simp[row]at h;simp[h]
@[simp] theorem Yz (c:Cell):fU (cD c)=true:=by unfold cD;simp[fU,cV]
@[simp] theorem C1 (l:List Cell):cV (l.map cD)=true:=dY fun d hd=>by obtain⟨c,_,rfl⟩:=aX.mp hd;exact Yz c
@[simp] theorem Ui (c:Cell):flat (cD c)=true:=by unfold cD;simp[flat,bW]
@[simp] theorem aw9 (l:List Cell):bW (l.map cD)=true:=iJ fun d hd=>by obtain⟨c,_,rfl⟩:=aX.mp hd;exact Ui c
@[simp] theorem Q6 (c:Cell):dep (cD c)=1:=by unfold cD;simp[dep,jT]
def rN(l:List Cell):jT (l.map cD)<=1:=qV fun d hd=>by obtain⟨c,_,rfl⟩:=aX.mp hd;rw[Q6];exact b9 _
@[simp] theorem C2 (a b:Cell):gP (cD a) (cD b)=decide (a=b):=by
 obtain⟨a1,a2⟩:=a;obtain⟨b1,b2⟩:=b;unfold cD;simp only[gP,dM,sN];by_cases h:a1=b1 <;> by_cases h':a2=b2 <;> simp[h,h']
@[simp] theorem Uj:∀(a b:List Cell),dM (a.map cD) (b.map cD)=decide (a=b)
 | [],[]=>by simp[dM]
 | [],_::_=>by simp[dM]
 | _::_,[]=>by simp[dM]
 | x::a,y::b=>by
  rw[bh,bh,dM,C2,Uj a b];by_cases h:x=y <;> by_cases h':a=b <;> simp[h,h']
def C3(neg:Bool)(a b:List Cell):eW neg (az a) (az b) = .ok (.bl (if neg then !decide (a=b)else decide (a=b))):=by
 unfold eW;have h:=rN a;rw[aU3];simp[gP];simp[flat,dep];lia
def fS(neg:Bool)(i j:Int):eW neg (.int i) (.int j) = .ok (.bl (if neg then !decide (i=j)else decide (i=j))):=by
 unfold eW;rw[aU3 (by simp[flat,dep])];have e:gP (.int i) (.int j)=decide (i=j):=by rw[gP];by_cases h:i=j;simp[h];rw[aU6 h];exact aV0.mpr h
 rw[e]
def fH(neg:Bool)(c:Cell)(l:List Cell):gI neg (cD c) (az l) = .ok (.bl (if neg then !decide (c∈l)else decide (c∈l))):=by
 unfold gI;have h:=rN l;dsimp only;rw[aU3 (by simp;lia)];have e:(l.map cD).any (fun e=>gP e (cD c))=decide (c∈l):=by
  induction l with
  | nil=>rfl
  | cons x l ih=>rw[bh,vB,C2,ih (rN l)];by_cases hx:x=c;simp[hx];have:¬ c=x:=fun z=>hx z.symm;simp[hx,this]
 rw[e]
def Uk(c:Cell):K2 (cD c)=some (row c):=rfl
theorem Ef:∀l:List Cell,zx (l.map cD)=some (l.map row)
 | []=>rfl
 | c::l=>by
  have ih:=Ef l;unfold zx at ih ⊢;rw[bh,Fx,Uk,ih];rfl
theorem Ul:∀l:List Cell,lN (l.map row)=true
 | []=>rfl
 | c::l=>by
  unfold lN;rw[bh];simp[row]
def uu(a b:Cell):Prop:=a.1<b.1\/(a.1=b.1/\a.2<b.2)
instance (a b:Cell):Decidable (uu a b):=inferInstanceAs (Decidable (_\/_))
def bA(l:List Cell):Prop:=l.Pairwise uu
def ax0(a b:Cell):lexLt (row a) (row b)=decide (uu a b):=by
 obtain⟨a1,a2⟩:=a;obtain⟨b1,b2⟩:=b;unfold row uu;rw[dO];by_cases h2:a1=b1;subst h2;rw[aU3 rfl,dO];by_cases h3:a2=b2;subst h3;rw[aU3 rfl];simp[uT];rw[aU4 h3];simp;rw[aU4 h2];simp[h2]
def Q7(c:Cell):fl (cD c)=row c:=by unfold cD row;simp[fl,nS]
def Q8(a b:Cell):qW (fl (cD a)) (fl (cD b)) = !decide (uu b a):=by rw[Q7,Q7];unfold qW;rw[ax0]
def Ja(a b:Cell):uu a b\/a=b\/uu b a:=by
 obtain⟨a1,a2⟩:=a;obtain⟨b1,b2⟩:=b;unfold uu;by_cases h1:a1<b1;exact .inl (.inl h1);by_cases h2:b1<a1;exact .inr (.inr (.inl h2));have:a1=b1:=by lia
 subst this;by_cases h3:a2<b2;exact .inl (.inr ⟨rfl,h3⟩);by_cases h4:b2<a2;exact .inr (.inr (.inr ⟨rfl,h4⟩));have:a2=b2:=by lia
 subst this;exact .inr (.inl rfl)
def mL(a:Cell):¬ uu a a:=by unfold uu;lia
def zP(h:uu a b)(h':uu b c):uu a c:=by unfold uu at *;lia
def oR(h:uu a b):¬ uu b a:=fun h'=>mL a (zP h h')
def bA.nodup(h:bA l):l.Nodup:=h.imp fun {a b} rT e=>by subst e;exact mL _ rT
def toC:D->Cell
 | .tup [.int a,.int b]=>(a,b)
 | _=>(0,0)
def toC_cD(c:Cell):toC (cD c)=c:=rfl
theorem VZ[DecidableEq α]:∀{l:List α},l.Nodup->dd l=l
 | [],_=>rfl
 | x::l,h=>by
  rw[jN]at h;rw[dd,aU4 h.1,VZ h.2]
def KZ{l:List Cell}(h:l.Nodup):(l.map row).Nodup:=by
 rw[nE]at h ⊢;exact nJ row (fun a b rT e=>rT (Uh e)) h
def Um(h:bA l):gy (l.map cD)=l.map cD:=by
 symm;refine iK (fun a ha b hb=>?_) (.refl _) ?_;refine aL (aX.mp ha) fun x _ aT=>?_;walk_at"c";refine aL (aX.mp hb) fun y _ aT=>?_;walk_at"c";unfold cD;simp[gB,gH];refine nJ cD (fun a b rT=>?_) h;rw[Q8,aU6 (oR rT)];rfl
def Uo(l:List Cell):(l.map row).map pQ=l.map cD:=by rw[cU];rfl
def HG(l:List Cell)(hl:l.length<=50):∃m:List Cell,kq (az l) = .ok (az m)/\(l=m↔bA l):=by
 let ys:=gy ((dd (l.map row)).map pQ);have hp:ys.Perm ((dd (l.map row)).map pQ):=dm _;have hy:∀y∈ys,∃c∈l,y=cD c:=fun y h=>by refine aL (aX.mp (hp.mem_iff.mp h)) fun r hr aT=>?_;walk_at"c";refine aL (aX.mp (tH.mp hr)) fun c hc aT=>?_;walk_at"c";exact⟨c,hc,rfl⟩
 have hm:ys=(ys.map toC).map cD:=by
  rw[cU];conv=>lhs;rw[<- Al ys]
  refine vz fun y h=>?_;refine aL (hy y h) fun c _ aT=>?_;walk_at"c";rfl
 refine⟨ys.map toC,?_,?_⟩;unfold kq;dsimp only;rw[Ef];dsimp only;rw[aU3 (by rw[Ul,Ar,bL];exact aU5 hl)];show R.ok (D.lst ys)=_;exact congrArg (fun z=>R.ok (D.lst z)) hm;constructor;intro e;have hys:ys=l.map cD:=by rw[hm,<- e]
 have hnd:ys.Nodup:=by
  refine hp.nodup_iff.mpr ?_;have:=rj (l.map row);rw[nE]at this ⊢;refine nJ pQ (fun a b rT e=>rT ?_) this;unfold pQ at e;have e':a.map D.int=b.map D.int:=by injection e
  exact List.map_inj_right (fun x y h=>by injection h) |>.mp e'
 have hpw:=nU ((dd (l.map row)).map pQ);change List.Pairwise _ ys at hpw;rw[hys]at hnd hpw;rw[nE]at hnd;rw[Fg]at hnd hpw;refine(hnd.and hpw).imp fun {a b} jz=>?_;obtain⟨h1,h2⟩:=jz;rw[Q8]at h2;rcases Ja a b with h|h|h;exact h;subst h;exact aV5 rfl h1;rw[aU5 h]at h2;cases h2;intro h;have e1:dd (l.map row)=l.map row:=VZ (KZ h.nodup);have e2:ys=l.map cD:=by show gy _=_;rw[e1,Uo,Um h]
 rw[e2,cU];conv=>lhs;rw[<- Al l]
 exact vz fun c _=>(toC_cD c).symm
def aE(h:F st = .nx st'):aU F G st=G st':=by simp[h]
def eV(h:F st = .rt d):aU F G st = .rt d:=by simp[h]
def HH(h:F st = .ex c p s):aU F G st = .ex c p s:=by simp[h]
def d8(h:f st = .ok d):bC i f st = .nx (st.set i (some d)):=by simp[h]
def d9(h:f st = .ok d):bN f st = .rt d:=by simp[h]
def mO(h:f st = .ok d):jE f st = .nx st:=by simp[h]
def Jb(h:f st = .ex c p):jE f st = .ex c p st:=by simp[h]
def ia(h:fc st = .ok (.bl true)):Dm.bz fc F G st=F st:=by simp[h]
def gu(h:fc st = .ok (.bl false)):Dm.bz fc F G st=G st:=by simp[h]
def bw{ds:List D}(st:eY)(h:F st = .rt d)(e:ds.map some++cg (n-ds.length) none=st:=by rfl):bx n F ds = .ok d:=by
 subst e;unfold bx;rw[h]
def C4{ds:List D}(st:eY)(h:F st = .ex c p s)(e:ds.map some++cg (n-ds.length) none=st:=by rfl):bx n F ds = .ex c p:=by
 subst e;unfold bx;rw[h]
def Uq{ds:List D}(st:eY)(h:F st = .nx s)(e:ds.map some++cg (n-ds.length) none=st:=by rfl):bx n F ds = .ok .cH:=by
 subst e;unfold bx;rw[h]
def tT{g:List D->R D}(h1:f1 st = .ok a)(h:g [a]=r):aY g (aa f1 ao) st=r:=by simp[h1,h]
def oS{g:List D->R D}(h1:f1 st = .ok a)(h2:f2 st = .ok b)(h:g [a,b]=r):aY g (aa f1 (aa f2 ao)) st=r:=by simp[h1,h2,h]
def SJ{g:List D->R D}(h1:f1 st = .ok a)(h2:f2 st = .ok b)(h3:f3 st = .ok c)(h:g [a,b,c]=r):aY g (aa f1 (aa f2 (aa f3 ao))) st=r:=by simp[h1,h2,h3,h]
def bZ{g:D->D->R D}(h1:f1 st = .ok a)(h2:f2 st = .ok b)(h:g a b=r):aB g f1 f2 st=r:=by simp[h1,h2,h]
def un1{g:D->R D}(h1:f1 st = .ok a)(h:g a=r):lV g f1 st=r:=by simp[h1,h]
def W0(h:f st = .ok d)(n:fU d=true):aQ f st = .ok d:=by simp[h,n]
def j8(h:f st = .ok (.bl true))(h2:g st=r):j6 f g st=r:=by simp[h,h2]
def tU(h:f st = .ok (.bl false)):j6 f g st = .ok (.bl false):=by simp[h]
def Eg(h:f st = .ok (.bl true)):GV f g st = .ok (.bl true):=by simp[h]
def lU(h:f st = .ok (.bl false))(h2:g st=r):GV f g st=r:=by simp[h,h2]
def xE(h:f st = .ok (.bl b)):n9 f st = .ok (.bl (!b)):=by simp[h]
theorem gO{α:Type}{bind:DB}{ft fe:DF}{f:α->D}{p:α->Bool}{g:α->D}{S:α->eY}{P:eY->Prop}:∀(xs:List α) (hS:∀x∈xs,P (S x)) (hb:∀x∈xs,∀st,P st->bind (f x) st=some (S x)) (ht:∀x∈xs,ft (S x) = .ok (.bl (p x))) (he:∀x∈xs,p x=true->fe (S x) = .ok (g x)) (st:eY),P st->iw bind ft fe (xs.map f) st = .ok ((xs.filter p).map g)
 | [],_,_,_,_,_,_=>rfl
 | x::xs,hS,hb,ht,he,st,h=>by
  have ih:=gO xs (fun y hy=>hS y (.tail _ hy)) (fun y hy=>hb y (.tail _ hy)) (fun y hy=>ht y (.tail _ hy)) (fun y hy=>he y (.tail _ hy)) (S x) (hS x (.head _));rw[bh,iw,hb x (.head _) st h];dsimp only;rw[ht x (.head _)];cases hp:p x with
  | true=>dsimp only;rw[he x (.head _) hp,Mn hp,bh,ih]
  | false=>dsimp only;rw[Mp (by rw[hp];exact iW),ih]
def fT{gi:DI}{k:Nat}{fr:List Nat}{bind:DB}{ft fe:DF}{st:eY}{ds es:List D}(h1:gi st = .ok ds)(hl:ds.length<=5000)(h2:iw bind ft fe ds (oH k fr st) = .ok es):cC gi k fr bind ft fe st = .ok (.lst es):=by
 unfold cC;rw[h1];dsimp only;rw[aU3 hl,h2]
theorem l6{α:Type}{bind:DB}{F:DS}{f:α->D}{Q:List α->eY->Prop}:∀(xs pre:List α) (st:eY),(∀p x r,pre++xs=p++x::r->∀st,Q p st->∃l7 qp,bind (f x) st=some l7/\F l7 = .nx qp/\Q (p++[x]) qp)->Q pre st->∃st',dG bind F (xs.map f) st = .nx st'/\Q (pre++xs) st'
 | [],pre,st,_,q=>⟨st,rfl,by simpa using q⟩
 | x::xs,pre,st,h,q=>by
  refine b7 (h pre x xs rfl st q) fun l7 qp h1 h2 q2=>?_;refine aL (l6 xs (pre++[x]) qp (fun p y r e=>h p y r (by simpa using e)) q2) fun st' h3 q3=>?_;refine⟨st',?_,by simpa using q3⟩;rw[bh,dG,h1];dsimp only;rw[h2];exact h3
def Stop(o:Out):Prop:=match o with | .rt _=>True | .ex _ _ _=>True|_=>False
theorem jf{α:Type}{bind:DB}{F:DS}{f:α->D}{Q:eY->Prop}{p:α->Prop}{S:Out->Prop}(hS:∀o,S o->Stop o):∀(xs:List α) (st:eY),(∀x∈xs,∀st,Q st->∃l7,bind (f x) st=some l7/\(p x->∃qp,F l7 = .nx qp/\Q qp)/\(¬ p x->S (F l7)))->Q st->
  ((∀x∈xs,p x)->∃st',dG bind F (xs.map f) st = .nx st'/\Q st')/\(¬ (∀x∈xs,p x)->S (dG bind F (xs.map f) st))
 | [],st,_,q=>⟨fun _=>⟨st,rfl,q⟩,fun h=>aV5 (fun x hx=>by cases hx) h⟩
 | x::xs,st,h,q=>by
  refine bK (h x (.head _) st q) fun l7 h1 h2 h3=>?_;rw[bh,dG,h1];dsimp only;by_cases hp:p x;refine aL (h2 hp) fun qp e2 q2=>?_;obtain⟨i1,i2⟩:=jf hS xs qp (fun y hy=>h y (.tail _ hy)) q2;rw[e2];dsimp only;refine⟨fun z=>i1 fun y hy=>z y (.tail _ hy),fun z=>i2 fun z'=>z fun y hy=>?_⟩;rcases bD.mp hy with rfl|hy;exact hp;exact z' y hy;have s:=h3 hp;refine⟨fun z=>aV5 (z x (.head _)) hp,fun _=>?_⟩;cases hf:F l7 with
  | rt d=>rw[hf]at s;exact s
  | ex c p st=>rw[hf]at s;exact s
  | _=>rw[hf]at s;exact aV5 (hS _ s) (by simp[Stop])
def Jc(f:α->D)(l:List α):enD (l.map f)=l.zipIdx.map fun p=>.tup [.int (p.2:Nat),f p.1]:=by
 unfold enD;refine Fj fun i=>?_;rw[Fy,cG,cG,List.getElem?_zipIdx];cases l[i]? <;> simp
def rO{ds:List D}{n:Nat}(h:ds[n]?=some d):bH (.lst ds) (.int n) = .ok d:=by
 have hl:=(fV.mp h).1;have e:xZ ds (n:Int)=some d:=by unfold xZ AO;rw[aU3 (Int.natCast_nonneg n),aU3 (by lia)];simpa using h
 unfold bH;dsimp only;rw[e]
def oU(ds:List D)(m:Nat):cutD ds none (some (m:Int))=ds.take m:=by
 unfold cutD HT.yX;simp only[List.drop_zero,Nat.sub_zero];rw[aU4 (by lia)];simp only[qk];by_cases h:m<=ds.length;rw[F7 h];rw[LU (by lia),List.take_length,qf (by lia)]
def xF(ds:List D)(m:Nat):cutD ds (some (m:Int)) none=ds.drop m:=by
 unfold cutD HT.yX;dsimp only;rw[aU4 (by lia)];simp only[qk];by_cases h:m<=ds.length;rw[F7 h,qf (by simp)];rw[LU (by lia),M9,List.drop_of_length_le (by lia)];simp
def ax1{f g:DF}{a:Nat}(h1:f st = .ok (az l))(h2:g st = .ok (.int (a:Int))):rg f none (some g) st = .ok (az (l.take a)):=by
 simp[rg,iP,h1,h2,oU]
def Ur{f g:DF}{a:Nat}(h1:f st = .ok (az l))(h2:g st = .ok (.int (a:Int))):rg f (some g) none st = .ok (az (l.drop a)):=by
 simp[rg,iP,h1,h2,xF]
def C5{l m:List Cell}(h:l.length+m.length<=5000):iU (az l) (az m) = .ok (az (l++m)):=by
 unfold iU;dsimp only;rw[aU3 (by simp;lia)];simp
def Q9(a b:Cell):gB (cD a) (cD b)=true:=by unfold cD;simp[gB,gH]
def W2(a:Cell):nl (cD a)=true:=by unfold cD;simp[nl,RQ]
def Qa{l:List Cell}(h:l.length<64):pY (l.map cD)=true:=by
 unfold pY;simp only[bM,nG,aU8,iZ,bL];refine⟨⟨⟨⟨h,C1 l⟩,fun d hd=>?_⟩,fun a ha b hb=>?_⟩,.inl (.inr fun d hd=>?_)⟩;refine aL (aX.mp hd) fun c _ aT=>?_;walk_at"c";exact⟨W2 c,by rw[Q6];decide⟩;refine aL (aX.mp ha) fun c _ aT=>?_;walk_at"c";refine aL (aX.mp hb) fun c' _ aT=>?_;walk_at"c";exact Q9 c c';refine aL (aX.mp hd) fun c _ aT=>?_;walk_at"c";rfl
def tV{m:List Cell}(hp:m.Perm l)(hs:m.Pairwise (fun a b=>¬ uu b a))(hn:l.Nodup):bA m:=by
 have AJ:m.Nodup:=hp.nodup_iff.mpr hn;rw[nE]at AJ;refine(AJ.and hs).imp fun {a b} jz=>?_;obtain⟨h1,h2⟩:=jz;rcases Ja a b with h|h|h;exact h;exact aV5 h h1;exact aV5 h h2
def HJ(hl:bA l)(hm:bA m)(h:∀c,c∈l↔c∈m):l=m:=by
 have hp:l.Perm m:=(Ai hl.nodup hm.nodup).mpr h;exact hp.eq_of_pairwise (fun a b _ _ h1 h2=>aV5 h2 (oR h1)) hl hm
@[simp] theorem Us (l:List Cell):cR (.dH 0 (l.map cD)) = .ok (az l):=by simp[cR]
@[simp] theorem ax2 (l:List Cell):jl [az l] = .ok (az l):=by simp[jl]
abbrev dc:=Cell×Cell
def lD(p:dc):D:=.tup [cD p.1,cD p.2]
abbrev gJ(l:List dc):D:=.lst (l.map lD)
def mid(a b:Cell):Cell:=((a.1+b.1) / 2,(a.2+b.2) / 2)
def four(c:Cell):List Cell:=[(c.1-2,c.2),(c.1,c.2-2),(c.1,c.2+2),(c.1+2,c.2)]
def EK(af:List Cell)(a:Cell):List Cell:=(four a).filter fun b=>decide (b∈af)&&decide (mid a b∈af)
def aS(af:List Cell):List dc:=af.flatMap fun a=>(EK af a).map fun b=>(a,b)
def j9:p∈aS af↔p.1∈af/\p.2∈four p.1/\p.2∈af/\mid p.1 p.2∈af:=by
 unfold aS EK;simp only[List.mem_flatMap,aX,pS,bM,aU8];constructor;rintro⟨a,h1,b,⟨h2,h3,h4⟩,rfl⟩;exact⟨h1,h2,h3,h4⟩;rintro⟨h1,h2,h3,h4⟩;exact⟨p.1,h1,p.2,⟨h2,h3,h4⟩,rfl⟩
@[simp] theorem YC (p:dc):fU (lD p)=true:=by unfold lD;simp[fU,cV]
@[simp] theorem Ut (l:List dc):cV (l.map lD)=true:=dY fun d hd=>by obtain⟨c,_,rfl⟩:=aX.mp hd;exact YC c
@[simp] theorem Uu (p:dc):flat (lD p)=true:=by unfold lD;simp[flat,bW]
@[simp] theorem ax3 (l:List dc):bW (l.map lD)=true:=iJ fun d hd=>by obtain⟨c,_,rfl⟩:=aX.mp hd;exact Uu c
@[simp] theorem YD (p:dc):dep (lD p)=2:=by unfold lD;simp[dep,jT]
@[simp] theorem YE (a b:dc):gP (lD a) (lD b)=decide (a=b):=by
 obtain⟨a1,a2⟩:=a;obtain⟨b1,b2⟩:=b;unfold lD;simp only[gP,dM,sN,C2];by_cases h:a1=b1 <;> by_cases h':a2=b2 <;> simp[h,h']
@[simp] theorem Uv:∀(a b:List dc),dM (a.map lD) (b.map lD)=decide (a=b)
 | [],[]=>by simp[dM]
 | [],_::_=>by simp[dM]
 | _::_,[]=>by simp[dM]
 | x::a,y::b=>by
  rw[bh,bh,dM,YE,Uv a b];by_cases h:x=y <;> by_cases h':a=b <;> simp[h,h']
@[simp] theorem lx0 (p:dc):bH (lD p) (.int 0) = .ok (cD p.1):=rfl
@[simp] theorem lx1 (p:dc):bH (lD p) (.int 1) = .ok (cD p.2):=rfl
def W3(p q:dc):Prop:=uu p.1 q.1\/(p.1=q.1/\uu p.2 q.2)
def W4(p:dc):fl (lD p)=row p.1++row p.2:=by unfold lD;simp[fl,nS,Q7]
def Qc(a b:Cell)(u v:List Int):lexLt (row a++u) (row b++v)=if a=b then lexLt u v else decide (uu a b):=by
 obtain⟨a1,a2⟩:=a;obtain⟨b1,b2⟩:=b;unfold row uu;simp only[Af,gF];rw[dO];by_cases h2:a1=b1;subst h2;rw[aU3 rfl,dO];by_cases h3:a2=b2;subst h3;rw[aU3 rfl,aU3 rfl];rw[aU4 h3,aU4 (by simpa using h3)];simp;rw[aU4 h2,aU4 (by simp[h2])];simp[h2]
def ax4(p q:dc):qW (fl (lD p)) (fl (lD q))=true↔¬ W3 q p:=by
 rw[W4,W4];unfold qW W3;rw[Qc];by_cases h:q.1=p.1;rw[aU3 h,ax0];have:=mL p.1;rw[h];simp[this];rw[aU4 h];simp[h]
def Eh(h:W3 p q):¬ W3 q p:=by
 unfold W3 at *;rintro(h'|⟨e,h'⟩);rcases h with h|⟨e,h⟩;exact oR h h';rw[e]at h';exact mL _ h';rcases h with h|⟨e',h⟩;rw[e]at h;exact mL _ h;exact oR h h'
def Qd(a b:dc):gB (lD a) (lD b)=true:=by unfold lD;simp[gB,gH,Q9]
def ax5(a:dc):nl (lD a)=true:=by unfold lD;simp[nl,RQ,W2]
def Uw{l:List dc}(h:l.Pairwise W3):gy (l.map lD)=l.map lD:=by
 symm;refine iK (fun a ha b hb=>?_) (.refl _) ?_;refine aL (aX.mp ha) fun x _ aT=>?_;walk_at"c";refine aL (aX.mp hb) fun y _ aT=>?_;walk_at"c";exact Qd x y;refine nJ lD (fun a b rT=>?_) h;rw[ax4];exact Eh rT
def Qe{l:List dc}(h:l.length<64):pY (l.map lD)=true:=by
 unfold pY;simp only[bM,nG,aU8,iZ,bL];refine⟨⟨⟨⟨h,Ut l⟩,fun d hd=>?_⟩,fun a ha b hb=>?_⟩,.inr fun d hd=>?_⟩;refine aL (aX.mp hd) fun c _ aT=>?_;walk_at"c";exact⟨ax5 c,by rw[YD];decide⟩;refine aL (aX.mp ha) fun c _ aT=>?_;walk_at"c";refine aL (aX.mp hb) fun c' _ aT=>?_;walk_at"c";exact Qd c c';refine aL (aX.mp hd) fun c _ aT=>?_;walk_at"c";rfl
def Qf{l:List dc}(h:l.Pairwise W3)(hl:l.length<64):fE [gJ l] = .ok (gJ l):=by
 unfold fE;dsimp only;rw[aU3 (Qe hl),Uw h]
def uv(a:Cell):bA (four a):=by
 unfold four bA uu;simp only[vC,bD,eK,aV3,List.Pairwise.nil,and_true];refine⟨?_,?_,?_,?_⟩ <;> intro b hb
 ·rcases hb with rfl|rfl|rfl <;> first|(simp;done)|(simp;lia)
 ·rcases hb with rfl|rfl <;> first|(simp;done)|(simp;lia)
 ·obtain rfl:=hb;first|(simp;done)|(simp;lia)
 exact hb.elim
def Ei(up:bA af):(aS af).Pairwise W3:=by
 unfold aS;rw[List.pairwise_flatMap];refine⟨fun a _=>?_,up.imp fun {a b} rT x hx y hy=>?_⟩;refine nJ (R:=uu) _ (fun x y h=>.inr ⟨rfl,h⟩) ?_;exact(uv a).sublist kT;refine aL (aX.mp hx) fun _ _ aT=>?_;walk_at"c";refine aL (aX.mp hy) fun _ _ aT=>?_;walk_at"c";exact .inl rT
def Ej(up:bA af):(aS af).Nodup:=(Ei up).imp fun {a b} h e=>by subst e;exact Eh h h
theorem zQ[DecidableEq α]:∀{l m:List α},l.Nodup->(∀x∈l,x∈m)->l.length<=m.length
 | [],_,_,_=>ie _
 | x::l,m,hn,h=>by
  rw[jN]at hn;have hx:=h x (.head _);have ih:=zQ (m:=m.erase x) hn.2 fun y hy=>(Mq (fun e=>hn.1 (by rw[<- e];exact hy))).mpr (h y (.tail _ hy));have:=Mr hx;have:=FE hx;rw[cI];lia
def xG(h w:Nat):List Cell:=(cY (h*w)).map fun k=>(((k / w:Nat):Int),((k % w:Nat):Int))
def Qg{h w:Nat}{c:Cell}(h1:0<=c.1)(h2:c.1<h)(h3:0<=c.2)(h4:c.2<w):c∈xG h w:=by
 obtain⟨a,ha⟩:=G6 h1;obtain⟨b,hb⟩:=G6 h3;have zd:b<w:=by lia
 have ha':a<h:=by lia
 have hw:0<w:=by lia
 have e1:(a*w+b) / w=a:=by rw[F5,Nat.add_mul_div_right _ _ hw,LO zd];lia
 have e2:(a*w+b) % w=b:=by rw[F5,Nat.add_mul_mod_self_right,Nat.mod_eq_of_lt zd]
 refine aX.mpr ⟨a*w+b,nB.mpr ?_,?_⟩;calc a*w+b<a*w+w:=by lia
  _=(a+1)*w:=by rw[F4]
  _<=h*w:=LV w ha'
 show((((a*w+b) / w:Nat):Int),(((a*w+b) % w:Nat):Int))=c;rw[e1,e2];exact ju ha.symm hb.symm
def Box(l:List Cell)(h w:Nat):Prop:=∃dn ac:Int,∀c∈l,dn<=c.1/\c.1<dn+h/\ac<=c.2/\c.2<ac+w
def Ux(a b:Cell)(x y:Int)(h:b∈four a):(b.1-x,b.2-y)∈four (a.1-x,a.2-y):=by
 unfold four at *;simp only[bD,eK,aV3]at *;rcases h with rfl|rfl|rfl|rfl;exact .inl (ju (by simp only;lia) rfl);exact .inr (.inl (ju rfl (by simp only;lia)));exact .inr (.inr (.inl (ju rfl (by simp only;lia))));exact .inr (.inr (.inr (ju (by simp only;lia) rfl)))
def L0(up:bA l)(b:Box l h w):(aS l).length<=(aS (xG h w)).length:=by
 refine pJ b fun dn ac hb=>?_;clear b;have key:∀c∈l,(c.1-dn,c.2-ac)∈xG h w:=fun c hc=>by refine Az (hb c hc) fun h1 h2 h3 h4=>?_;exact Qg (by simp only;lia) (by simp only;lia) (by simp only;lia) (by simp only;lia)
 have:=zQ (l:=(aS l).map fun p=>(((p.1.1-dn,p.1.2-ac),(p.2.1-dn,p.2.2-ac)):dc)) (m:=aS (xG h w)) (by
  have hn:=Ej up;rw[nE]at hn ⊢;refine nJ _ (fun p q hpq e=>hpq ?_) hn;simp only[vH]at e;refine qH e fun zo0 e3 e4=>?_;clear e;obtain⟨e1,e2⟩:=zo0;exact ju (ju (by lia) (by lia)) (ju (by lia) (by lia))) (fun p hp=>by
  refine aL (aX.mp hp) fun q hq aT=>?_;walk_at"c";refine Az (j9.mp hq) fun h1 h2 h3 h4=>?_;refine j9.mpr ⟨key _ h1,Ux _ _ _ _ h2,key _ h3,?_⟩;have e:mid (q.1.1-dn,q.1.2-ac) (q.2.1-dn,q.2.2-ac)=((mid q.1 q.2).1-dn,(mid q.1 q.2).2-ac):=by unfold mid;exact ju (by simp only;lia) (by simp only;lia)
  show mid (q.1.1-dn,q.1.2-ac) (q.2.1-dn,q.2.2-ac)∈xG h w;rw[e];exact key _ h4)
 rwa [bL]at this
def small(h w:Nat):Prop:=(h<=4/\w<=6)\/(h<=3/\w=8)\/(h=8/\w<=3)
def xH:(∀h,h<=4->∀w,w<=6->(aS (xG h w)).length<=56)/\(∀h,h<=3->(aS (xG h 8)).length<=56)/\(∀w,w<=3->(aS (xG 8 w)).length<=56):=by
 refine⟨fun h hh w hw=>?_,fun h hh=>?_,fun w hw=>?_⟩;have a:∀h:Fin 5,∀w:Fin 7,(aS (xG h.1 w.1)).length<=56:=by decide +kernel
 exact a ⟨h,by lia⟩ ⟨w,by lia⟩;have a:∀h:Fin 4,(aS (xG h.1 8)).length<=56:=by decide +kernel
 exact a ⟨h,by lia⟩;have a:∀w:Fin 4,(aS (xG 8 w.1)).length<=56:=by decide +kernel
 exact a ⟨w,by lia⟩
def L1(up:bA l)(b:Box l h w)(s:small h w):(aS l).length<=56:=by
 refine f9 (L0 up b) ?_;rcases s with⟨h1,h2⟩|⟨h1,rfl⟩|⟨rfl,h2⟩;exact xH.1 h h1 w h2;exact xH.2.1 h h1;exact xH.2.2 w h2
def Qh(x y:Int):∃u v:Int,fE [.lst [.int x,.int y]] = .ok (.lst [.int u,.int v])/\((u=0/\v=2)↔(x=0/\y=2\/x=2/\y=0)):=by
 have hb:pY [.int x,.int y]=true:=by unfold pY;simp[cV,nl,dep,gB,isI]
 have g:fE [.lst [.int x,.int y]] = .ok (.lst (gy [.int x,.int y])):=by unfold fE;dsimp only;rw[if_pos hb]
 have fi:∀i:Int,fl (.int i)=[i]:=fun i=>by simp[fl]
 have le:∀i j:Int,i<=j->qW (fl (.int i)) (fl (.int j))=true:=fun i j h=>by rw[fi,fi];unfold qW;rw[B4];simp;lia
 by_cases h:x<=y;refine⟨x,y,?_,by lia⟩;rw[g];congr 2;symm;refine iK (fun a ha b hb=>?_) (.refl _) ?_;simp only[bD,eK,aV3]at ha hb;rcases ha with rfl|rfl <;> rcases hb with rfl|rfl <;> simp[gB];simp only[vC,bD,eK,aV3,List.Pairwise.nil,and_true];exact⟨fun b hb=>by subst hb;exact le _ _ h,fun b hb=>hb.elim⟩;refine⟨y,x,?_,by lia⟩;rw[g];congr 2;symm;refine iK (fun a ha b hb=>?_) (.swap _ _ _) ?_;simp only[bD,eK,aV3]at ha hb;rcases ha with rfl|rfl <;> rcases hb with rfl|rfl <;> simp[gB];simp only[vC,bD,eK,aV3,List.Pairwise.nil,and_true];exact⟨fun b hb=>by subst hb;exact le _ _ (by lia),fun b hb=>hb.elim⟩
def Qi(i:Int):Int:=if i<0 then -i else i
def ap(a b:Cell):Bool:=(decide (Qi (a.1-b.1)=0)&&decide (Qi (a.2-b.2)=2)) || (decide (Qi (a.1-b.1)=2)&&decide (Qi (a.2-b.2)=0))
def aQ6:Qi i=0↔i=0:=by unfold Qi;split <;> lia
def aQ7:Qi i=2↔i=2\/i = -2:=by unfold Qi;split <;> lia
def Uy(a b:Cell):ap a b=true↔b∈four a:=by
 unfold ap four;obtain⟨a1,a2⟩:=a;obtain⟨b1,b2⟩:=b;simp only[nG,bM,aU8,bD,eK,aV3,vH,aQ6,aQ7];constructor;rintro(⟨h1,h2|h2⟩|⟨h1|h1,h2⟩);exact .inr (.inl (by lia));exact .inr (.inr (.inl (by lia)));exact .inl (by lia);exact .inr (.inr (.inr (by lia)));rintro(⟨h1,h2⟩|⟨h1,h2⟩|⟨h1,h2⟩|⟨h1,h2⟩);exact .inr ⟨.inl (by lia),by lia⟩;exact .inl ⟨by lia,.inl (by lia)⟩;exact .inl ⟨by lia,.inr (by lia)⟩;exact .inr ⟨.inr (by lia),by lia⟩
def Uz(up:bA af)(a:Cell):(af.filter fun b=>ap a b&&decide (mid a b∈af))=EK af a:=by
 unfold EK;refine HJ (up.sublist kT) ((uv a).sublist kT) fun b=>?_;simp only[pS,bM,aU8,Uy];constructor;rintro⟨h1,h2,h3⟩;exact⟨h2,h1,h3⟩;rintro⟨h1,h2,h3⟩;exact⟨h2,h1,h3⟩
def oV(aA:List Cell)(p:dc):Bool:=decide (p.1∈aA)&&(!decide (p.2∈aA)&&decide (mid p.1 p.2∈aA))
def xJ(af aA:List Cell):List dc:=(aS af).filter (oV aA)
end Dm
end aw3
section YF
namespace Pk
open L2 Dm
variable (t:gQ)
def Ek{l:List Cell}(hl:l.length<=50):(bA l->eu t [az l] = .ok (.bl true))/\(¬ bA l->eu t [az l] = .ok (.bl false)):=by
 obtain⟨m,h1,h2⟩:=HG l hl;constructor;intro h;have e:=h2.mpr h;subst e;simp[eu,bx,h1,C3];intro h;have:¬ l=m:=fun z=>h (h2.mp z);simp[eu,bx,h1,C3,this]
def inR(c:Cell):Prop:=0<=c.1/\c.1<=7/\0<=c.2/\c.2<=7
instance (c:Cell):Decidable (inR c):=inferInstanceAs (Decidable (_/\_))
@[simp] theorem ix0 (c:Cell):bH (cD c) (.int 0) = .ok (.int c.1):=rfl
@[simp] theorem ix1 (c:Cell):bH (cD c) (.int 1) = .ok (.int c.2):=rfl
def YG(c:Cell):lR t [cD c] = .ok (.bl (decide (inR c))):=by
 unfold inR;by_cases h1:0<=c.1 <;> by_cases h2:c.1<=7 <;> by_cases h3:0<=c.2 <;> by_cases h4:c.2<=7 <;> simp[lR,bx,h1,h2,h3,h4]
def Valid(l:List Cell):Prop:=(1<=l.length/\l.length<=24)/\bA l/\∀c∈l,inR c
theorem xK{F:DS}(hF:∀(x:D) (c:Cell),F [some x,some (cD c)]=if inR c then .nx [some x,some (cD c)]else .ex t.eT none [some x,some (cD c)])(x:D):∀(l:List Cell) (y:Option D),((∀c∈l,inR c)->∃y',dG (b5 1) F (l.map cD) [some x,y] = .nx [some x,y'])/\(¬ (∀c∈l,inR c)->∃s,dG (b5 1) F (l.map cD) [some x,y] = .ex t.eT none s)
 | [],y=>⟨fun _=>⟨y,rfl⟩,fun h=>aV5 (fun c hc=>by cases hc) h⟩
 | c::l,y=>by
  obtain⟨i1,i2⟩:=xK hF x l (some (cD c));have e:b5 1 (cD c) [some x,y]=some [some x,some (cD c)]:=rfl;by_cases hc:inR c;constructor;intro h;obtain⟨y',h'⟩:=i1 fun d hd=>h d (.tail _ hd);refine⟨y',?_⟩;rw[bh,dG,e];dsimp only;rw[hF,aU3 hc];exact h';intro h;obtain⟨s,h'⟩:=i2 fun z=>h fun d hd=>by rcases bD.mp hd with rfl|hd;exact hc;exact z d hd
  refine⟨s,?_⟩;rw[bh,dG,e];dsimp only;rw[hF,aU3 hc];exact h';constructor;intro h;exact aV5 (h c (.head _)) hc;intro h;refine⟨[some x,some (cD c)],?_⟩;rw[bh,dG,e];dsimp only;rw[hF,aU4 hc]
def UA{l:List Cell}(hl:l.length<=50):(Valid l->bX t [az l] = .ok .cH)/\(¬ Valid l->bX t [az l] = .ex t.eT none):=by
 have hF:∀(x:D) (c:Cell),Dm.bz (n9 (aY (lR t) (aa (ah 1) ao))) (eo t.eT) aR [some x,some (cD c)]=if inR c then .nx [some x,some (cD c)]else .ex t.eT none [some x,some (cD c)]:=fun x c=>by by_cases h:inR c <;> simp[YG,h]
 obtain⟨i1,i2⟩:=xK t hF (az l) l none;obtain⟨r1,r2⟩:=Ek t hl;have c1:((l.map cD).length:Int)=l.length:=by simp
 by_cases h0:1<=l.length;by_cases h1:l.length<=24;by_cases h2:bA l;by_cases h3:∀c∈l,inR c;obtain⟨y,h4⟩:=i1 h3;refine⟨fun _=>?_,fun h=>aV5 ⟨⟨h0,h1⟩,h2,h3⟩ h⟩;have a1:(1:Int)<=l.length:=by lia
 have a2:(l.length:Int)<=24:=by lia
 simp[bX,bx,a1,a2,r1 h2,h4];obtain⟨y,h4⟩:=i2 h3;refine⟨fun h=>aV5 h.2.2 h3,fun _=>?_⟩;have a1:(1:Int)<=l.length:=by lia
 have a2:(l.length:Int)<=24:=by lia
 simp[bX,bx,a1,a2,r1 h2,h4];refine⟨fun h=>aV5 h.2.1 h2,fun _=>?_⟩;have a1:(1:Int)<=l.length:=by lia
 have a2:(l.length:Int)<=24:=by lia
 simp[bX,bx,a1,a2,r2 h2];refine⟨fun h=>aV5 h.1.2 h1,fun _=>?_⟩;have a1:(1:Int)<=l.length:=by lia
 have a2:¬ (l.length:Int)<=24:=by lia
 simp[bX,bx,a1,a2];refine⟨fun h=>aV5 h.1.1 h0,fun _=>?_⟩;have a1:¬ (1:Int)<=l.length:=by lia
 simp[bX,bx,a1]
def Qj(ns:List Int)(n:Nat):Int:=(ns[n]?).getD 0
abbrev iL(ns:List Int):D:=.lst (ns.map D.int)
def HK(ns:List Int)(n:Nat):aM t [iL ns,.int n] = .ok (.int (Qj ns n)):=by
 unfold Qj;by_cases h:n<ns.length;have e:bH (iL ns) (.int n) = .ok (.int ((ns[n]?).getD 0)):=rO (by rw[cG,c7 h];simp);have h':(n:Int)<ns.length:=by lia
 simp[aM,bx,h',e];have h':¬ (n:Int)<ns.length:=by lia
 rw[nD (nu h)];simp[aM,bx,h']
abbrev UB:List Int:=[48271,69621,16807,39373,30269,40014,40692,50021,61687,71993,83869,95561,30307]
def YH(k:Int):∃v:Int,0<=v/\v<=95561/\bH (.lst [.int 48271,.int 69621,.int 16807,.int 39373,.int 30269,.int 40014,.int 40692,.int 50021,.int 61687,.int 71993,.int 83869,.int 95561,.int 30307]) (.int (k % 13)) = .ok (.int v):=by
 obtain⟨n,hn,e⟩:∃n:Nat,n<UB.length/\k % 13=n:=⟨(k % 13).toNat,by show _<13;lia,by lia⟩
 rw[e];have hL:∀x∈UB,0<=x/\x<=95561:=by decide
 exact⟨UB[n],(hL _ (jQ hn)).1,(hL _ (jQ hn)).2,rO (ds:=UB.map D.int) (by rw[cG,c7 hn];rfl)⟩
def oW(c k m:Int)(hm:0<m):∃r:Int,0<=r/\r<m/\b8 t [.int c,.int k,.int m] = .ok (.int r):=by
 obtain⟨v,v0,v1,hv⟩:=YH k;have e1:cB (.int c) (.int 2147483647) = .ok (.int (c % 2147483647)):=i9 (by decide);have e2:cB (.int k) (.int 13) = .ok (.int (k % 13)):=i9 (by decide);have e3:fP (.int k) (.int 13) = .ok (.int (k / 13)):=rM (by decide) (by decide);have b0:0<=c % 2147483647+12345:=by lia
 have b1:c % 2147483647+12345<=2147495991:=by lia
 have b2:0<=(c % 2147483647+12345)*v:=N1 b0 v0;have b3:(c % 2147483647+12345)*v<=2147495991*95561:=N2 b1 v1 v0 (by decide);have e4:oj (.int (c % 2147483647+12345)) (.int v) = .ok (.int ((c % 2147483647+12345)*v)):=qy (by constructor <;> lia);have e5:oj (.int 2) (.int (k / 13)) = .ok (.int (2*(k / 13))):=qy (by decide);have e6:oj (.int ((c % 2147483647+12345)*v)) (.int (2*(k / 13)+1)) = .ok (.int ((c % 2147483647+12345)*v*(2*(k / 13)+1))):=qy (by constructor <;> lia);have e7:oj (.int 977) (.int k) = .ok (.int (977*k)):=qy (by decide);have e8:∀x:Int,cB (.int x) (.int 1000000007) = .ok (.int (x % 1000000007)):=fun x=>i9 (by decide);have e9:∀x:Int,fP (.int x) (.int 7) = .ok (.int (x / 7)):=fun x=>rM (by decide) (by decide);have e10:∀x:Int,cB (.int x) (.int m) = .ok (.int (x % m)):=fun x=>i9 hm;refine⟨(((c % 2147483647+12345)*v*(2*(k / 13)+1)+977*k) % 1000000007 / 7) % m,vG _ (by lia),Aw _ hm,?_⟩;simp[b8,bx,e1,e2,e3,hv,e4,e5,e6,e7,e8,e9,e10]
def pk(c:Int)(k:Nat):Bool:=match b8 t [.int c,.int k,.int 7]with | .ok (.int r)=>decide (0<r)|_=>false
def tW(dn ac w:Int)(k:Nat):Cell:=(dn+k / w,ac+k % w)
abbrev Jd:DS:=Dm.bz (aB GW (aY (b8 t) (aa (aY (aM t) (aa (ah 0) (aa (dC (.int 1)) ao))) (aa (ah 8) (aa (dC (.int 7)) ao)))) (dC (.int 0)))
 (iT 7 (bu 100 (aa (aB cW (ah 5) (aB fP (ah 8) (ah 4))) (aa (aB cW (ah 6) (aB cB (ah 8) (ah 4))) ao))))
 aR
theorem qz(ns:List Int)(most c h w dn ac:Int)(hw:0<w)(hw2:w<100):∀(ks:List Nat) (acc:List Cell) (y:Option D),acc.length+ks.length<=5000->
  ∃y',dG (b5 8) (Jd t) (ks.map fun i=>.int (i:Nat)) [some (iL ns),some (.int most),some (.int c),some (.int h),some (.int w),some (.int dn),some (.int ac),some (az acc),y]=
   .nx [some (iL ns),some (.int most),some (.int c),some (.int h),some (.int w),some (.int dn),some (.int ac),some (az (acc++(ks.filter (pk t (Qj ns 1))).map (tW dn ac w))),y']
 | [],acc,y,_=>⟨y,by simp[dG]⟩
 | k::ks,acc,y,hl=>by
  obtain⟨r,r0,r1,hr⟩:=oW t (Qj ns 1) k 7 (by decide);have R5:=HK t ns 1;have hp:pk t (Qj ns 1) k=decide (0<r):=by unfold pk;rw[hr]
  have e1:fP (.int (k:Int)) (.int w) = .ok (.int ((k:Int) / w)):=rM hw (by lia);have e2:cB (.int (k:Int)) (.int w) = .ok (.int ((k:Int) % w)):=i9 hw;have hb:b5 8 (.int (k:Int)) [some (iL ns),some (.int most),some (.int c),some (.int h),some (.int w),some (.int dn),some (.int ac),some (az acc),y]=some [some (iL ns),some (.int most),some (.int c),some (.int h),some (.int w),some (.int dn),some (.int ac),some (az acc),some (.int (k:Int))]:=rfl;rw[cI]at hl;rw[bh,dG,hb];dsimp only;by_cases hc:0<r;have hF:Jd t [some (iL ns),some (.int most),some (.int c),some (.int h),some (.int w),some (.int dn),some (.int ac),some (az acc),some (.int (k:Int))] = .nx [some (iL ns),some (.int most),some (.int c),some (.int h),some (.int w),some (.int dn),some (.int ac),some (az (acc++[tW dn ac w k])),some (.int (k:Int))]:=by
   have Hf:acc.length<=5000:=by lia
   have YI:aM t [iL ns,.int 1] = .ok (.int (Qj ns 1)):=R5;have OJ:b8 t [.int (Qj ns 1),.int (k:Int),.int 7] = .ok (.int r):=hr;simp[YI,OJ,hc,iT,e1,e2,tW,cD,Hf]
  rw[hF];dsimp only;obtain⟨y',ih⟩:=qz ns most c h w dn ac hw hw2 ks (acc++[tW dn ac w k]) (some (.int (k:Int))) (by simp;lia);refine⟨y',ih.trans ?_⟩;rw[Mn (by rw[hp];exact aU5 hc),bh,vq];rfl;have hF:Jd t [some (iL ns),some (.int most),some (.int c),some (.int h),some (.int w),some (.int dn),some (.int ac),some (az acc),some (.int (k:Int))] = .nx [some (iL ns),some (.int most),some (.int c),some (.int h),some (.int w),some (.int dn),some (.int ac),some (az acc),some (.int (k:Int))]:=by have YI:aM t [iL ns,.int 1] = .ok (.int (Qj ns 1)):=R5;have OJ:b8 t [.int (Qj ns 1),.int (k:Int),.int 7] = .ok (.int r):=hr;simp[YI,OJ,hc]
  rw[hF];dsimp only;obtain⟨y',ih⟩:=qz ns most c h w dn ac hw hw2 ks acc (some (.int (k:Int))) (by lia);refine⟨y',ih.trans ?_⟩;rw[Mp (by rw[hp,aU6 hc];decide)]
def UC{dn ac w:Int}(hw:0<w){j k:Nat}(h:j<k):uu (tW dn ac w j) (tW dn ac w k):=by
 unfold uu tW;dsimp only;have h1:(j:Int) / w<=(k:Int) / w:=Int.ediv_le_ediv hw (by lia);rcases Int.lt_or_eq_of_le h1 with h2|h2;exact .inl (by lia);refine .inr ⟨by lia,?_⟩;have e1:=N3 (j:Int) w;have e2:=N3 (k:Int) w;rw[h2]at e1;lia
def UD{dn ac w h:Int}(hw:0<w)(hh:0<h)(d0:0<=dn)(d1:dn<=8-h)(a0:0<=ac)(a1:ac<=8-w){k:Nat}(hk:(k:Int)<h*w):inR (tW dn ac w k):=by
 unfold inR tW;dsimp only;have h1:0<=(k:Int) / w:=N4 (by lia) (by lia);have h2:(k:Int) / w<h:=N5 hw hk;have h3:0<=(k:Int) % w:=vG _ (by lia);have h4:(k:Int) % w<w:=Aw _ hw;lia
def C6{dn ac w:Int}(hw:0<w)(p:Nat->Bool)(n:Nat):bA (((cY n).filter p).map (tW dn ac w)):=by
 unfold bA;refine nJ (R:=fun a b=>a<b) (tW dn ac w) (fun a b h=>UC hw h) ?_;exact Wd kT M3
structure Drawn(l:List Cell)(most:Nat):Prop where
 pos:1<=l.length
 le:l.length<=most
 up:bA l
 inr:∀c∈l,inR c
 box:∃h w,Box l h w/\small h w
def UE(ns:List Int)(most:Nat)(hm:1<=most):∃l,dF t [iL ns,.int most] = .ok (az l)/\Drawn l most:=by
 obtain⟨c,R5⟩:∃c:Int,aM t [iL ns,.int 0] = .ok (.int c):=⟨_,HK t ns 0⟩
 obtain⟨r1,p1,q1,h1⟩:=oW t c 1 4 (by decide);obtain⟨r2,p2,q2,h2⟩:=oW t c 2 6 (by decide);have e4:cB (.int c) (.int 4) = .ok (.int (c % 4)):=i9 (by decide);obtain⟨h,w,a1,a2,b1,b2,hw,sm,e3⟩:∃h w:Int,1<=h/\h<=8/\1<=w/\w<=8/\h*w<=64/\((h<=4/\w<=6)\/(h<=3/\w=8)\/(h=8/\w<=3))/\Dm.bz (aB (eW false) (aB cB (ah 2) (dC (.int 4))) (dC (.int 1)))
   (uh (ef 3 4) (aQ (aB bH (br 100 (aa (bu 100 (aa (aB cW (dC (.int 1)) (aB cB (ah 3) (dC (.int 3)))) (aa (dC (.int 8)) ao))) (aa (bu 100 (aa (dC (.int 8)) (aa (aB cW (dC (.int 1)) (aB cB (ah 4) (dC (.int 3)))) ao))) ao))) (aB cB (aB fP (ah 2) (dC (.int 4))) (dC (.int 2))))))
   aR [some (iL ns),some (.int most),some (.int c),some (.int (1+r1)),some (.int (1+r2)),none,none,none,none] = .nx [some (iL ns),some (.int most),some (.int c),some (.int h),some (.int w),none,none,none,none]:=by
  by_cases hc:c % 4=1
  ·have m1:cB (.int (1+r1)) (.int 3) = .ok (.int ((1+r1) % 3)):=i9 (by decide)
   have m2:cB (.int (1+r2)) (.int 3) = .ok (.int ((1+r2) % 3)):=i9 (by decide)
   have m3:fP (.int c) (.int 4) = .ok (.int (c / 4)):=rM (by decide) (by decide)
   have m4:cB (.int (c / 4)) (.int 2) = .ok (.int (c / 4 % 2)):=i9 (by decide)
   have hz:c / 4 % 2=0\/c / 4 % 2=1:=by lia
   rcases hz with hz|hz
   ·refine⟨1+(1+r1) % 3,8,by lia,by lia,by lia,by lia,by lia,by lia,?_⟩
    have ix:bH (.lst [.tup [.int (1+(1+r1) % 3),.int 8],.tup [.int 8,.int (1+(1+r2) % 3)]]) (.int 0) = .ok (.tup [.int (1+(1+r1) % 3),.int 8]):=rfl
    simp[e4,fS,hc,m1,m2,m3,m4,hz,ix,uh,fU,cV,ef]
   ·refine⟨8,1+(1+r2) % 3,by lia,by lia,by lia,by lia,by lia,by lia,?_⟩
    have ix:bH (.lst [.tup [.int (1+(1+r1) % 3),.int 8],.tup [.int 8,.int (1+(1+r2) % 3)]]) (.int 1) = .ok (.tup [.int 8,.int (1+(1+r2) % 3)]):=rfl
    simp[e4,fS,hc,m1,m2,m3,m4,hz,ix,uh,fU,cV,ef]
  ·have hb:(1+r1)*(1+r2)<=4*6:=N2 (by lia) (by lia) (by lia) (by lia)
   refine⟨1+r1,1+r2,by lia,by lia,by lia,by lia,by lia,by lia,?_⟩
   simp[e4,fS,hc]
 obtain⟨dn,d0,d1,hd⟩:=oW t c 3 (9-h) (by lia);obtain⟨ac,s0,s1,hs⟩:=oW t c 4 (9-w) (by lia);have em:oj (.int h) (.int w) = .ok (.int (h*w)):=qy (by constructor <;> lia);have hn0:0<=h*w:=N1 (by lia) (by lia);obtain⟨y',hl⟩:=qz t ns most c h w dn ac (by lia) (by lia) (cY (h*w).toNat) [] none (by simp;lia);rw[gF]at hl;have up:=C6 (dn:=dn) (ac:=ac) (w:=w) (by lia) (pk t (Qj ns 1)) (h*w).toNat
 have Vo:kW (aa (aB oj (ah 3) (ah 4)) ao) [some (iL ns),some (.int most),some (.int c),some (.int h),some (.int w),some (.int dn),some (.int ac),some (.lst []),none] = .ok ((cY (h*w).toNat).map fun i=>.int (i:Nat)):=by unfold kW;simp[em];lia
 obtain⟨L,hLd⟩:∃L,L=((cY (h*w).toNat).filter (pk t (Qj ns 1))).map (tW dn ac w):=⟨_,rfl⟩
 rw[<- hLd]at hl up;have Qk:∀x∈L,inR x:=fun x hx=>by rw[hLd]at hx;obtain⟨k,hk,rfl⟩:=aX.mp hx;have:=nB.mp (pS.mp hk).1;exact UD (h:=h) (by lia) (by lia) d0 (by lia) s0 (by lia) (by lia)
 have hbx:∀x∈L,dn<=x.1/\x.1<dn+(h.toNat:Int)/\ac<=x.2/\x.2<ac+(w.toNat:Int):=fun x hx=>by rw[hLd]at hx;obtain⟨k,hk,rfl⟩:=aX.mp hx;have QX:=nB.mp (pS.mp hk).1;have q1:0<=(k:Int) / w:=N4 (by lia) (by lia);have q2:(k:Int) / w<h:=N5 (by lia) (by lia);have q3:0<=(k:Int) % w:=vG _ (by lia);have q4:(k:Int) % w<w:=Aw _ (by lia);unfold tW;dsimp only;lia
 have sm':small h.toNat w.toNat:=by unfold small;lia
 have f1:bC 2 (aY (aM t) (aa (ah 0) (aa (dC (.int 0)) ao))) [some (iL ns),some (.int most),none,none,none,none,none,none,none] = .nx [some (iL ns),some (.int most),some (.int c),none,none,none,none,none,none]:=by simp[R5]
 have f2:Dj 3 4 (aa (aB cW (dC (.int 1)) (aY (b8 t) (aa (ah 2) (aa (dC (.int 1)) (aa (dC (.int 4)) ao))))) (aa (aB cW (dC (.int 1)) (aY (b8 t) (aa (ah 2) (aa (dC (.int 2)) (aa (dC (.int 6)) ao))))) ao)) [some (iL ns),some (.int most),some (.int c),none,none,none,none,none,none] = .nx [some (iL ns),some (.int most),some (.int c),some (.int (1+r1)),some (.int (1+r2)),none,none,none,none]:=by simp[Dj,h1,h2]
 have f4:Dj 5 6 (aa (aY (b8 t) (aa (ah 2) (aa (dC (.int 3)) (aa (aB kE (dC (.int 9)) (ah 3)) ao)))) (aa (aY (b8 t) (aa (ah 2) (aa (dC (.int 4)) (aa (aB kE (dC (.int 9)) (ah 4)) ao)))) ao)) [some (iL ns),some (.int most),some (.int c),some (.int h),some (.int w),none,none,none,none] = .nx [some (iL ns),some (.int most),some (.int c),some (.int h),some (.int w),some (.int dn),some (.int ac),none,none]:=by simp[Dj,hd,hs]
 have f5:bC 7 (br 100 ao) [some (iL ns),some (.int most),some (.int c),some (.int h),some (.int w),some (.int dn),some (.int ac),none,none] = .nx [some (iL ns),some (.int most),some (.int c),some (.int h),some (.int w),some (.int dn),some (.int ac),some (.lst []),none]:=by simp
 have f6:cy (kW (aa (aB oj (ah 3) (ah 4)) ao)) (b5 8) (Jd t) [some (iL ns),some (.int most),some (.int c),some (.int h),some (.int w),some (.int dn),some (.int ac),some (.lst []),none] = .nx [some (iL ns),some (.int most),some (.int c),some (.int h),some (.int w),some (.int dn),some (.int ac),some (az L),y']:=by rw[lS,Vo];exact hl
 have fin:∀l:List Cell,Drawn l most->(aU (Dm.bz (aB (eW false) (aY dQ (aa (ah 7) ao)) (dC (.int 0)))
   (bC 7 (br 100 (aa (bu 100 (aa (aQ (ah 5)) (aa (aQ (ah 6)) ao))) ao)))
   aR)
   (bN (rg (ah 7) none (some (ah 1))))) [some (iL ns),some (.int most),some (.int c),some (.int h),some (.int w),some (.int dn),some (.int ac),some (az L),y'] = .rt (az l)->∃l,dF t [iL ns,.int most] = .ok (az l)/\Drawn l most:=fun l dl e=>by
  refine⟨l,?_,dl⟩
  have e0:dF t [iL ns,.int most]=match(.rt (az l):Out)with | .rt d=>.ok d | .nx _=>.ok .cH | .ex c p _=>.ex c p|_=>.bad:=by
   unfold dF bx
   show(match(aU _ _ [some (iL ns),some (.int most),none,none,none,none,none,none,none])with | .rt d=>R.ok d | .nx _=>.ok .cH | .ex c p _=>.ex c p|_=>.bad)=_
   rw[aE f1,aE f2,aE e3,aE f4,aE f5,aE f6,e]
  rw[e0]
 by_cases hL:L=[]
 refine fin [(dn,ac)] ⟨by simp,by simpa using hm,by simp[bA],fun x hx=>?_,?_⟩ ?_;obtain rfl:x=(dn,ac):=by simpa using hx
 unfold inR;dsimp only;lia;refine⟨h.toNat,w.toNat,⟨dn,ac,fun x hx=>?_⟩,sm'⟩;obtain rfl:x=(dn,ac):=by simpa using hx
 dsimp only;lia;subst hL;have g1:Dm.bz (aB (eW false) (aY dQ (aa (ah 7) ao)) (dC (.int 0)))
  (bC 7 (br 100 (aa (bu 100 (aa (aQ (ah 5)) (aa (aQ (ah 6)) ao))) ao)))
  aR [some (iL ns),some (.int most),some (.int c),some (.int h),some (.int w),some (.int dn),some (.int ac),some (az []),y'] = .nx [some (iL ns),some (.int most),some (.int c),some (.int h),some (.int w),some (.int dn),some (.int ac),some (az [(dn,ac)]),y']:=by simp[fS,cD]
 rw[aE g1];have:(([(dn,ac)]:List Cell).map cD).take most=([(dn,ac)]:List Cell).map cD:=qf (by simpa using hm);simp[rg,iP,oU,this];simp[cD,fU,cV];exact this;refine fin (L.take most) ⟨?_,by simp;lia,up.sublist (LX _ _),fun x hx=>Qk x (sI hx),⟨h.toNat,w.toNat,⟨dn,ac,fun x hx=>hbx x (sI hx)⟩,sm'⟩⟩ ?_;cases hc:L with
 | nil=>exact aV5 hc hL
 | cons x r=>simp;lia
 have hL0:¬ (L.length:Int)=0:=by intro z;exact hL (M5.mp (by lia))
 have g1:Dm.bz (aB (eW false) (aY dQ (aa (ah 7) ao)) (dC (.int 0)))
  (bC 7 (br 100 (aa (bu 100 (aa (aQ (ah 5)) (aa (aQ (ah 6)) ao))) ao)))
  aR [some (iL ns),some (.int most),some (.int c),some (.int h),some (.int w),some (.int dn),some (.int ac),some (az L),y'] = .nx [some (iL ns),some (.int most),some (.int c),some (.int h),some (.int w),some (.int dn),some (.int ac),some (az L),y']:=by simp[fS,hL]
 rw[aE g1];simp[rg,iP,oU]
end Pk
end YF
section YJ
namespace Pk
open L2 Dm
variable (t:gQ)
def yK(c m:Int)(k:Nat):Bool:=match b8 t [.int c,.int k,.int m]with | .ok (.int r)=>decide (0<r)|_=>false
def Ql(c:Int){l:List Cell}(h1:1<=l.length)(h2:l.length<=500):∃p,fG t [.int c,az l] = .ok (az p)/\p.Sublist l:=by
 obtain⟨r,r0,r1,hr⟩:=oW t c 40 4 (by decide);have f1:bC 2 (aY (b8 t) (aa (ah 0) (aa (dC (.int 40)) (aa (dC (.int 4)) ao)))) [some (.int c),some (az l),none,none] = .nx [some (.int c),some (az l),some (.int r),none]:=by simp[hr]
 by_cases hz:r=0;subst hz;obtain⟨g,g0,g1,hg⟩:=oW t c 41 l.length (by lia);obtain⟨n,rfl⟩:=G6 g0;have hn:n<l.length:=by lia
 refine⟨l.take n++l.drop (n+1),?_,by rw[<- M6];exact List.eraseIdx_sublist l n⟩;unfold fG;refine bw [some (.int c),some (az l),none,none] ?_;rw[aE f1];refine eV ?_;rw[ia (by simp[fS])];have f2:bC 3 (aY (b8 t) (aa (ah 0) (aa (dC (.int 41)) (aa (aY dQ (aa (ah 1) ao)) ao)))) [some (.int c),some (az l),some (.int 0),none] = .nx [some (.int c),some (az l),some (.int 0),some (.int (n:Int))]:=by simp[hg]
 rw[aE f2];refine d9 (bZ (a:=az (l.take n)) (b:=az (l.drop (n+1))) (ax1 rfl rfl) (Ur rfl rfl) (C5 ?_));simp;lia;obtain⟨m,hm,YK⟩:∃m:Int,0<m/\bH (.lst [.int 0,.int 2,.int 3,.int 4]) (.int r) = .ok (.int m):=by
  have:r=1\/r=2\/r=3:=by lia
  rcases this with rfl|rfl|rfl;exact⟨2,by decide,rfl⟩;exact⟨3,by decide,rfl⟩;exact⟨4,by decide,rfl⟩
 refine⟨(l.zipIdx.filter fun x=>yK t c m x.2).map (·.1),?_,?_⟩;unfold fG;refine bw [some (.int c),some (az l),none,none] ?_;rw[aE f1,aE (st':=[some (.int c),some (az l),some (.int r),none]) (by rw[gu (by simp[fS,hz])];rfl)];refine d9 ?_;show _=R.ok (D.lst (List.map cD (List.map _ _)));rw[cU];refine fT (ds:=l.zipIdx.map fun p=>.tup [.int (p.2:Nat),cD p.1]) ?_ (by simp;lia) ?_;simp[yo,Jc];refine gO (S:=fun x=>[some (.int (x.2:Nat)),some (cD x.1),some (.int c),some (.int r)]) (P:=fun st=>∃y z,st=[y,z,some (.int c),some (.int r)]) l.zipIdx (fun x _=>⟨_,_,rfl⟩) (fun x _ st ⟨y,z,e⟩=>by subst e;rfl) (fun x _=>?_) (fun x _ _=>by simp) _ ⟨none,none,rfl⟩;obtain⟨v,v0,v1,hv⟩:=oW t c x.2 m hm;have e:yK t c m x.2=decide (0<v):=by unfold yK;rw[hv]
 simp[YK,hv,e];have:=(kT (p:=fun x:Cell×Nat=>yK t c m x.2) (l:=l.zipIdx)).map Prod.fst;rwa [Ms]at this
def cF(af aA:List Cell):Prop:=bA aA/\∀c∈aA,c∈af
def iS{af aA:List Cell}(hl:aA.length<=50):(cF af aA->c8 t [.dH 0 (af.map cD),az aA] = .ok .cH)/\(¬ cF af aA->c8 t [.dH 0 (af.map cD),az aA] = .ex t.cX none):=by
 obtain⟨r1,r2⟩:=Ek t hl;have loop:=jf (bind:=b5 2) (F:=Dm.bz (aB (gI true) (ah 2) (lV cR (ah 0))) (eo t.cX) aR) (f:=cD) (Q:=fun st=>∃y,st=[some (.dH 0 (af.map cD)),some (az aA),y]) (p:=fun c=>c∈af) (S:=fun o=>∃s,o = .ex t.cX none s) (fun o ⟨s,e⟩=>by subst e;trivial) aA [some (.dH 0 (af.map cD)),some (az aA),none] (fun c _ st ⟨y,e⟩=>by
  subst e;refine⟨[some (.dH 0 (af.map cD)),some (az aA),some (cD c)],rfl,fun h=>⟨_,?_,some (cD c),rfl⟩,fun h=>⟨[some (.dH 0 (af.map cD)),some (az aA),some (cD c)],?_⟩⟩;rw[gu (by simp[fH,h])];rfl;rw[ia (by simp[fH,h])];rfl) ⟨none,rfl⟩
 have key:∀o:Out,(aU (Dm.bz (n9 (aY (eu t) (aa (ah 1) ao))) (eo t.cX) aR) (cy (bU (ah 1)) (b5 2) (Dm.bz (aB (gI true) (ah 2) (lV cR (ah 0))) (eo t.cX) aR))) [some (.dH 0 (af.map cD)),some (az aA),none]=o->c8 t [.dH 0 (af.map cD),az aA]=match o with | .rt d=>.ok d | .nx _=>.ok .cH | .ex c p _=>.ex c p|_=>.bad:=fun o h=>by unfold c8 bx;subst h;rfl
 by_cases hr:bA aA;have s1:Dm.bz (n9 (aY (eu t) (aa (ah 1) ao))) (eo t.cX) aR [some (.dH 0 (af.map cD)),some (az aA),none] = .nx [some (.dH 0 (af.map cD)),some (az aA),none]:=by simp[r1 hr]
 rw[aE s1]at key;refine⟨fun h=>?_,fun h=>?_⟩;obtain⟨st',h1,_⟩:=loop.1 h.2;exact key (.nx st') (by simp[h1]);obtain⟨s,h1⟩:=loop.2 fun z=>h ⟨hr,z⟩;exact key (.ex t.cX none s) (by simp[h1]);refine⟨fun h=>aV5 h.1 hr,fun _=>key (.ex t.cX none [some (.dH 0 (af.map cD)),some (az aA),none]) (HH ?_)⟩;simp[r2 hr]
def cF.sub{af aA:List Cell}(h:bA af)(hs:aA.Sublist af):cF af aA:=⟨h.sublist hs,fun c hc=>hs.subset hc⟩
def UG{l:List Cell}(d:Drawn l 24):qw (bX t) [az l] = .ok (.dH 0 (l.map cD)):=by
 have h:=(UA t (l:=l) (by have:=d.le;lia)).1 ⟨⟨d.pos,d.le⟩,d.up,d.inr⟩;simp[qw,h]
def Drawn.mono{l:List Cell}{m n:Nat}(d:Drawn l m)(h:m<=n):Drawn l n:=⟨d.pos,f9 d.le h,d.up,d.inr,d.box⟩
end Pk
end YJ
section YL
namespace Pk
open L2 Dm
abbrev bB(af:List Cell):D:=.dH 0 (af.map cD)
variable (t:gQ)
@[simp] theorem aU2 (x:Int):fP (.int x) (.int 2) = .ok (.int (x / 2)):=rM (by decide) (by decide)
theorem v5(f:Cell->List dc)(k:Nat):∀l:List Cell,(∀a∈l,(f a).length<=k)->(l.flatMap f).length<=l.length*k
 | [],_=>by simp
 | a::l,h=>by
  rw[FA,fj,cI,F4];have:=v5 f k l fun x hx=>h x (.tail _ hx);have:=h a (.head _);lia
def Qm{bind:DB}{F:DS}{S:List dc->Option D->eY}{a:Cell}{p:Cell->Bool}(xs:List Cell)(acc:List dc)(y:Option D)(hl:acc.length+xs.length<=5000)
  (hb:∀acc y b,bind (cD b) (S acc y)=some (S acc (some (cD b)))) (hF:∀acc b,b∈xs->acc.length<=5000->∃y,F (S acc (some (cD b))) = .nx (S (acc++if p b=true then [(a,b)]else []) y)) :
  ∃y',dG bind F (xs.map cD) (S acc y) = .nx (S (acc++(xs.filter p).map fun b=>(a,b)) y'):=by
 obtain⟨st',h1,y',h2,_⟩:=l6 (bind:=bind) (F:=F) (f:=cD) (Q:=fun pre st=>∃y,st=S (acc++(pre.filter p).map fun b=>(a,b)) y/\pre.length<=xs.length) xs [] (S acc y) (fun q x r e st ⟨y,hy,hq⟩=>by
  subst hy;rw[gF]at e;have hlen:q.length+1<=xs.length:=by rw[e];simp
  have hf:(q.filter p).length<=q.length:=m6 ..;obtain⟨y2,h2⟩:=hF (acc++(q.filter p).map fun b=>(a,b)) x (by rw[e];simp) (by simp;lia);refine⟨_,_,hb _ _ _,h2,y2,?_,by simpa using hlen⟩;rw[FF,qg,<- vq];cases hp:p x <;> simp[hp]) ⟨y,by simp,by simp⟩
 exact⟨y',by rw[h1,h2,gF]⟩
def xM(p:dc):aV t [lD p] = .ok (cD (mid p.1 p.2)):=by
 simp[aV,bx,mid,cD,lD,bH,xZ,AO]
def ax6(i:Int):rz [.int i] = .ok (.int (Qi i)):=rfl
def xN{af:List Cell}(up:bA af)(hl:af.length<=30)(jJ:(aS af).length<64):cN t [az af] = .ok (gJ (aS af)):=by
 have inner:∀(acc:List dc) (a:Cell) (y z:Option D),acc.length<=900->∃y' z',(cy (bU (ah 0)) (b5 3)
   (aU (bC 4 (aY fE (aa (br 100 (aa (aY rz (aa (aB kE (aB bH (ah 2) (dC (.int 0))) (aB bH (ah 3) (dC (.int 0)))) ao)) (aa (aY rz (aa (aB kE (aB bH (ah 2) (dC (.int 1))) (aB bH (ah 3) (dC (.int 1)))) ao)) ao))) ao)))
   (Dm.bz (j6 (aB (eW false) (ah 4) (br 100 (aa (dC (.int 0)) (aa (dC (.int 2)) ao)))) (aB (gI false) (aY (aV t) (aa (bu 100 (aa (aQ (ah 2)) (aa (aQ (ah 3)) ao))) ao)) (ah 0)))
   (iT 1 (bu 100 (aa (aQ (ah 2)) (aa (aQ (ah 3)) ao))))
   aR))) [some (az af),some (gJ acc),some (cD a),y,z] = .nx [some (az af),some (gJ (acc++(EK af a).map fun b=>(a,b))),some (cD a),y',z']:=fun acc a y z ha=>by
  obtain⟨st',h1,y',z',h2,_⟩:=l6 (bind:=b5 3) (F:=aU (bC 4 (aY fE (aa (br 100 (aa (aY rz (aa (aB kE (aB bH (ah 2) (dC (.int 0))) (aB bH (ah 3) (dC (.int 0)))) ao)) (aa (aY rz (aa (aB kE (aB bH (ah 2) (dC (.int 1))) (aB bH (ah 3) (dC (.int 1)))) ao)) ao))) ao)))
   (Dm.bz (j6 (aB (eW false) (ah 4) (br 100 (aa (dC (.int 0)) (aa (dC (.int 2)) ao)))) (aB (gI false) (aY (aV t) (aa (bu 100 (aa (aQ (ah 2)) (aa (aQ (ah 3)) ao))) ao)) (ah 0)))
   (iT 1 (bu 100 (aa (aQ (ah 2)) (aa (aQ (ah 3)) ao))))
   aR)) (f:=cD) (Q:=fun pre st=>∃y z,st=[some (az af),some (gJ (acc++(pre.filter fun b=>ap a b&&decide (mid a b∈af)).map fun b=>(a,b))),some (cD a),y,z]/\pre.length<=af.length) af [] [some (az af),some (gJ acc),some (cD a),y,z] (fun q b r e st ⟨y,z,hy,hq⟩=>by
   subst hy
   rw[gF]at e
   have hlen:q.length+1<=af.length:=by rw[e];simp
   have hf:(q.filter fun b=>ap a b&&decide (mid a b∈af)).length<=q.length:=m6 ..
   obtain⟨u,v,hs,huv⟩:=Qh (Qi (a.1-b.1)) (Qi (a.2-b.2))
   have hap:ap a b=decide (u=0/\v=2):=by
    unfold ap
    rw[jr]
    simp only[nG,bM,aU8]
    exact huv.symm
   generalize hA:acc++(q.filter fun b=>ap a b&&decide (mid a b∈af)).map (fun b=>(a,b))=A
   have lA:A.length<=5000:=by rw[<- hA];simp;lia
   have s1:bC 4 (aY fE (aa (br 100 (aa (aY rz (aa (aB kE (aB bH (ah 2) (dC (.int 0))) (aB bH (ah 3) (dC (.int 0)))) ao)) (aa (aY rz (aa (aB kE (aB bH (ah 2) (dC (.int 1))) (aB bH (ah 3) (dC (.int 1)))) ao)) ao))) ao)) [some (az af),some (gJ A),some (cD a),some (cD b),z] = .nx [some (az af),some (gJ A),some (cD a),some (cD b),some (.lst [.int u,.int v])]:=by
    simp[ax6,hs]
   have ge:eW false (.lst [.int u,.int v]) (.lst [.int 0,.int 2]) = .ok (.bl (decide (u=0/\v=2))):=by
    unfold eW
    rw[aU3 (by simp[flat,bW,dep,jT])]
    simp only[gP,dM,sN,cJ,aV1]
    by_cases h:u=0 <;> by_cases h':v=2 <;> simp[h,h']
   have gb:(aY (aV t) (aa (bu 100 (aa (aQ (ah 2)) (aa (aQ (ah 3)) ao))) ao)) [some (az af),some (gJ A),some (cD a),some (cD b),some (.lst [.int u,.int v])] = .ok (cD (mid a b)):=by
    have:=xM t (a,b)
    unfold lD at this
    simp[this]
   refine⟨[some (az af),some (gJ A),some (cD a),some (cD b),z],[some (az af),some (gJ (A++if(ap a b&&decide (mid a b∈af))=true then [(a,b)]else [])),some (cD a),some (cD b),some (.lst [.int u,.int v])],rfl,?_,some (cD b),some (.lst [.int u,.int v]),?_,by simpa using hlen⟩
   ·rw[aE s1]
    by_cases h1:u=0/\v=2
    ·by_cases h2:mid a b∈af
     ·rw[ia (j8 (bZ (a:=.lst [.int u,.int v]) (b:=.lst [.int 0,.int 2]) rfl (by simp) (by rw[ge];simp[h1])) (bZ gb rfl (by rw[fH];simp[h2])))]
      rw[hap]
      simp[iT,lA,h1,h2,lD]
     ·rw[gu (j8 (bZ (a:=.lst [.int u,.int v]) (b:=.lst [.int 0,.int 2]) rfl (by simp) (by rw[ge];simp[h1])) (bZ gb rfl (by rw[fH];simp[h2])))]
      simp[h2]
    ·rw[gu (tU (bZ (a:=.lst [.int u,.int v]) (b:=.lst [.int 0,.int 2]) rfl (by simp) (by rw[ge];simp[h1])))]
     rw[hap]
     simp[h1]
   ·rw[<- hA,FF,qg,<- vq]
    cases hp:(ap a b&&decide (mid a b∈af)) <;> simp[hp]) ⟨y,z,by simp,by simp⟩
  refine⟨y',z',?_⟩
  rw[gF,Uz up]at h2
  subst h2
  simp
  exact h1
 obtain⟨st',h1,y,z,x,h2⟩:=l6 (bind:=b5 2) (F:=cy (bU (ah 0)) (b5 3)
   (aU (bC 4 (aY fE (aa (br 100 (aa (aY rz (aa (aB kE (aB bH (ah 2) (dC (.int 0))) (aB bH (ah 3) (dC (.int 0)))) ao)) (aa (aY rz (aa (aB kE (aB bH (ah 2) (dC (.int 1))) (aB bH (ah 3) (dC (.int 1)))) ao)) ao))) ao)))
   (Dm.bz (j6 (aB (eW false) (ah 4) (br 100 (aa (dC (.int 0)) (aa (dC (.int 2)) ao)))) (aB (gI false) (aY (aV t) (aa (bu 100 (aa (aQ (ah 2)) (aa (aQ (ah 3)) ao))) ao)) (ah 0)))
   (iT 1 (bu 100 (aa (aQ (ah 2)) (aa (aQ (ah 3)) ao))))
   aR))) (f:=cD) (Q:=fun pre st=>∃y z x,st=[some (az af),some (gJ (pre.flatMap fun a=>(EK af a).map fun b=>(a,b))),y,z,x]) af [] [some (az af),some (gJ []),none,none,none] (fun q a r e st ⟨y,z,x,hy⟩=>by
  subst hy
  rw[gF]at e
  have hq:q.length<=30:=by rw[e]at hl;simp at hl;lia
  have h4:∀a,((EK af a).map fun b=>(a,b)).length<=4:=fun a=>by
   rw[bL];exact f9 (m6 ..) (by simp[four])
  have:=v5 (fun a=>(EK af a).map fun b=>(a,b)) 4 q fun a _=>h4 a
  obtain⟨z',x',h⟩:=inner (q.flatMap fun a=>(EK af a).map fun b=>(a,b)) a z x (by lia)
  exact⟨_,_,rfl,h,some (cD a),z',x',by rw[Ak];simp⟩) ⟨none,none,none,rfl⟩
 subst h2;unfold cN;refine bw [some (az af),none,none,none,none] ?_;rw[aE (st':=[some (az af),some (gJ []),none,none,none]) (by simp),aE (st':=[some (az af),some (gJ (aS af)),y,z,x]) ?_];exact d9 (tT (a:=gJ (aS af)) rfl (Qf (Ei up) jJ));rw[lS];have:bU (ah 0) [some (az af),some (gJ []),none,none,none] = .ok (af.map cD):=by simp
 rw[this];exact h1
def Drawn.jJ{l:List Cell}{m:Nat}(d:Drawn l m):(aS l).length<64:=by
 obtain⟨h,w,b,s⟩:=d.box;have:=L1 d.up b s;lia
end Pk
end YL
section YM
namespace Pk
open L2 Dm
variable (t:gQ)
def ax7(c:Cell):iA t [cD c] = .ok (az (four c)):=by
 simp[iA,bx,four,cD,bH,xZ,AO]
def El(a b:Cell):dS t [cD a,cD b] = .ok (cD (mid a b)):=by
 simp[dS,bx,mid,cD,bH,xZ,AO]
def Je{af:List Cell}(hl:af.length<=200):pH t [bB af] = .ok (gJ (aS af)):=by
 have inner:∀(acc:List dc) (a:Cell) (y:Option D),acc.length<=900->∃y',(cy (bU (aY (iA t) (aa (ah 2) ao))) (b5 3)
   (Dm.bz (j6 (aB (gI false) (ah 3) (lV cR (ah 0))) (aB (gI false) (aY (dS t) (aa (ah 2) (aa (ah 3) ao))) (lV cR (ah 0))))
   (iT 1 (bu 100 (aa (aQ (ah 2)) (aa (aQ (ah 3)) ao))))
   aR)) [some (bB af),some (gJ acc),some (cD a),y] = .nx [some (bB af),some (gJ (acc++(EK af a).map fun b=>(a,b))),some (cD a),y']:=fun acc a y ha=>by
  obtain⟨y',h⟩:=Qm (bind:=b5 3) (F:=Dm.bz (j6 (aB (gI false) (ah 3) (lV cR (ah 0))) (aB (gI false) (aY (dS t) (aa (ah 2) (aa (ah 3) ao))) (lV cR (ah 0))))
   (iT 1 (bu 100 (aa (aQ (ah 2)) (aa (aQ (ah 3)) ao))))
   aR) (S:=fun acc y=>[some (bB af),some (gJ acc),some (cD a),y]) (a:=a) (p:=fun b=>decide (b∈af)&&decide (mid a b∈af)) (four a) acc y (by simp[four];lia) (fun acc y b=>rfl) (fun acc b _ Hf=>⟨some (cD b),by
    by_cases h1:b∈af
    ·by_cases h2:mid a b∈af
     ·rw[ia (j8 (bZ (a:=cD b) (b:=az af) rfl (by simp) (by rw[fH];simp[h1])) (bZ (a:=cD (mid a b)) (b:=az af) (by simp[El]) (by simp) (by rw[fH];simp[h2])))]
      simp[iT,Hf,h1,h2,lD]
     ·rw[gu (j8 (bZ (a:=cD b) (b:=az af) rfl (by simp) (by rw[fH];simp[h1])) (bZ (a:=cD (mid a b)) (b:=az af) (by simp[El]) (by simp) (by rw[fH];simp[h2])))]
      simp[h2]
    ·rw[gu (tU (bZ (a:=cD b) (b:=az af) rfl (by simp) (by rw[fH];simp[h1])))]
     simp[h1]⟩)
  exact⟨y',by simp[ax7];exact h⟩
 obtain⟨st',h1,y,z,h2⟩:=l6 (bind:=b5 2) (F:=cy (bU (aY (iA t) (aa (ah 2) ao))) (b5 3)
   (Dm.bz (j6 (aB (gI false) (ah 3) (lV cR (ah 0))) (aB (gI false) (aY (dS t) (aa (ah 2) (aa (ah 3) ao))) (lV cR (ah 0))))
   (iT 1 (bu 100 (aa (aQ (ah 2)) (aa (aQ (ah 3)) ao))))
   aR)) (f:=cD) (Q:=fun pre st=>∃y z,st=[some (bB af),some (gJ (pre.flatMap fun a=>(EK af a).map fun b=>(a,b))),y,z]) af [] [some (bB af),some (gJ []),none,none] (fun q a r e st ⟨y,z,hy⟩=>by
  subst hy
  rw[gF]at e
  have hq:q.length<=200:=by rw[e]at hl;simp at hl;lia
  have h4:∀a,((EK af a).map fun b=>(a,b)).length<=4:=fun a=>by
   rw[bL];exact f9 (m6 ..) (by simp[four])
  have:=v5 (fun a=>(EK af a).map fun b=>(a,b)) 4 q fun a _=>h4 a
  obtain⟨z',h⟩:=inner (q.flatMap fun a=>(EK af a).map fun b=>(a,b)) a z (by lia)
  exact⟨_,_,rfl,h,some (cD a),z',by rw[Ak];simp⟩) ⟨none,none,rfl⟩
 subst h2;unfold pH;refine bw [some (bB af),none,none,none] ?_;rw[aE (st':=[some (bB af),some (gJ []),none,none]) (by simp),aE (st':=[some (bB af),some (gJ (aS af)),y,z]) ?_];rfl;rw[lS];have:bU (lV cR (ah 0)) [some (bB af),some (gJ []),none,none] = .ok (af.map cD):=by simp
 rw[this];exact h1
end Pk
end YM
section YN
namespace Pk
open L2 Dm
variable (t:gQ)
def Jf{af aA:List Cell}(up:bA af)(hl:af.length<=30)(jJ:(aS af).length<64):ez t [az af,az aA] = .ok (gJ (xJ af aA)):=by
 have hL:=xN t up hl jJ;obtain⟨st',h1,y,z,h2,_⟩:=l6 (bind:=ef 3 4) (F:=Dm.bz (j6 (aB (gI false) (ah 3) (ah 1)) (j6 (aB (gI false) (aY (aV t) (aa (bu 100 (aa (aQ (ah 3)) (aa (aQ (ah 4)) ao))) ao)) (ah 1)) (aB (gI true) (ah 4) (ah 1))))
   (iT 2 (bu 100 (aa (aQ (ah 3)) (aa (aQ (ah 4)) ao))))
   aR) (f:=lD) (Q:=fun pre st=>∃y z,st=[some (az af),some (az aA),some (gJ (pre.filter (oV aA))),y,z]/\pre.length<=64) (aS af) [] [some (az af),some (az aA),some (gJ []),none,none] (fun q p r e st ⟨y,z,hy,hq⟩=>by
  subst hy
  rw[gF]at e
  have hlen:q.length+1<=64:=by rw[e]at jJ;simp at jJ;lia
  have hf:(q.filter (oV aA)).length<=q.length:=m6 ..
  generalize hA:q.filter (oV aA)=A at hf
  have lA:A.length<=5000:=by lia
  have gb:(aY (aV t) (aa (bu 100 (aa (aQ (ah 3)) (aa (aQ (ah 4)) ao))) ao)) [some (az af),some (az aA),some (gJ A),some (cD p.1),some (cD p.2)] = .ok (cD (mid p.1 p.2)):=by
   have:=xM t p
   unfold lD at this
   simp[this]
  refine⟨[some (az af),some (az aA),some (gJ A),some (cD p.1),some (cD p.2)],[some (az af),some (az aA),some (gJ (A++if oV aA p=true then [p]else [])),some (cD p.1),some (cD p.2)],rfl,?_,some (cD p.1),some (cD p.2),?_,by simpa using hlen⟩
  ·unfold oV
   by_cases h1:p.1∈aA
   ·by_cases h3:mid p.1 p.2∈aA
    ·by_cases h2:p.2∈aA
     ·rw[gu (j8 (bZ (a:=cD p.1) (b:=az aA) rfl rfl (by rw[fH];simp[h1])) (j8 (bZ gb rfl (by rw[fH];simp[h3])) (bZ (a:=cD p.2) (b:=az aA) rfl rfl (by rw[fH];simp[h2]))))]
      simp[h2]
     ·rw[ia (j8 (bZ (a:=cD p.1) (b:=az aA) rfl rfl (by rw[fH];simp[h1])) (j8 (bZ gb rfl (by rw[fH];simp[h3])) (bZ (a:=cD p.2) (b:=az aA) rfl rfl (by rw[fH];simp[h2]))))]
      simp[iT,lA,h1,h2,h3,lD]
    ·rw[gu (j8 (bZ (a:=cD p.1) (b:=az aA) rfl rfl (by rw[fH];simp[h1])) (tU (bZ gb rfl (by rw[fH];simp[h3]))))]
     simp[h3]
   ·rw[gu (tU (bZ (a:=cD p.1) (b:=az aA) rfl rfl (by rw[fH];simp[h1])))]
    simp[h1]
  ·rw[<- hA,FF]
   cases hp:oV aA p <;> simp[hp]) ⟨none,none,rfl,by simp⟩
 rw[gF]at h2;subst h2;unfold ez;refine bw [some (az af),some (az aA),none,none,none] ?_;rw[aE (st':=[some (az af),some (az aA),some (gJ []),none,none]) (by simp),aE (st':=[some (az af),some (az aA),some (gJ (xJ af aA)),y,z]) ?_];rfl;rw[lS];have:bU (aY (cN t) (aa (ah 0) ao)) [some (az af),some (az aA),some (gJ []),none,none] = .ok ((aS af).map lD):=by simp[hL]
 rw[this];exact h1
end Pk
end YN
section YO
namespace Dm
open L2 HT
def xO(l:List Cell):List Cell:=(gy (l.map cD)).map toC
def Em(l:List Cell):gy (l.map cD)=(xO l).map cD:=by
 have hp:=dm (l.map cD);unfold xO;rw[cU];conv=>lhs;rw[<- Al (gy (l.map cD))]
 refine vz fun y hy=>?_;refine aL (aX.mp (hp.mem_iff.mp hy)) fun c _ aT=>?_;walk_at"c";rfl
def mP(l:List Cell):(xO l).Perm l:=by
 have:=(dm (l.map cD)).map toC;rw[cU]at this;have e:l.map (toC∘cD)=l:=by
  conv=>rhs;rw[<- Al l]
  exact vz fun c _=>toC_cD c
 rw[e]at this;exact this
def Qn(l:List Cell):(xO l).Pairwise (fun a b=>¬ uu b a):=by
 have pw:=nU (l.map cD);rw[Em,Fg]at pw;refine pw.imp fun {a b} h=>?_;rw[Q8]at h;simpa using h
def Jg{l:List Cell}(h:l.length<64):fE [az l] = .ok (az (xO l)):=by
 unfold fE;dsimp only;rw[aU3 (Qa h),Em]
def Qo(neg:Bool)(a b:Cell):eW neg (cD a) (cD b) = .ok (.bl (if neg then !decide (a=b)else decide (a=b))):=by
 unfold eW;rw[aU3 (by simp)];simp
def Qp{l:List Cell}(h:l.Nodup):bA (xO l):=tV (mP l) (Qn l) h
def left(aA:List Cell)(p:dc):List Cell:=aA.filter fun c=>!decide (c=p.1) && !decide (c=mid p.1 p.2)
def bg(aA:List Cell)(p:dc):List Cell:=xO (left aA p++[p.2])
def oX:c∈left aA p↔c∈aA/\c≠p.1/\c≠mid p.1 p.2:=by
 unfold left;simp
def HL:c∈bg aA p↔(c∈aA/\c≠p.1/\c≠mid p.1 p.2)\/c=p.2:=by
 unfold bg;rw[(mP _).mem_iff,gW,oX];simp
def En:oV aA p=true↔p.1∈aA/\p.2∉aA/\mid p.1 p.2∈aA:=by
 unfold oV;simp
def L3{p:dc}(up:bA aA)(h:p.2∉aA):bA (bg aA p):=by
 refine Qp ?_;rw[FG];refine⟨up.nodup.sublist kT,by simp,fun a ha b hb e=>?_⟩;rw[eG]at hb;subst hb;subst e;exact h (oX.mp ha).1
def YQ{p:dc}(h:p.2∈four p.1):mid p.1 p.2≠p.1:=by
 obtain⟨⟨a1,a2⟩,b1,b2⟩:=p;unfold four at h;unfold mid;simp only[bD,eK,aV3,vH]at h;intro e;simp only[vH]at e;lia
def xP{aA:List Cell}(nd:aA.Nodup)(h:oV aA p=true)(hf:p.2∈four p.1):aA.Perm (p.1::mid p.1 p.2::left aA p):=by
 refine qH (En.mp h) fun h1 h2 h3=>?_;have Lm:=YQ hf;refine(Ai nd ?_).mpr fun c=>?_;rw[jN,jN];refine⟨?_,?_,nd.sublist kT⟩;rw[bD,oX];rintro(e|e);exact Lm e.symm;exact e.2.1 rfl;rw[oX];exact fun e=>e.2.2 rfl;rw[bD,bD,oX];by_cases e1:c=p.1;subst e1;simp[h1];by_cases e2:c=mid p.1 p.2;subst e2;simp[h3];simp[e1,e2]
def HM{aA:List Cell}(nd:aA.Nodup)(h:oV aA p=true)(hf:p.2∈four p.1):(bg aA p).length+1=aA.length:=by
 have:=(xP nd h hf).length_eq;have:=(mP (left aA p++[p.2])).length_eq;unfold bg;simp at *;lia
def UH(h:p∈xJ af aA):p.1∈af/\p.2∈four p.1/\p.2∈af/\mid p.1 p.2∈af/\oV aA p=true:=by
 unfold xJ at h;rw[pS,j9]at h;exact⟨h.1.1,h.1.2.1,h.1.2.2.1,h.1.2.2.2,h.2⟩
def zR(af:List Cell):List Cell->List dc->Prop
 | _,[]=>True
 | aA,p::r=>p∈xJ af aA/\zR af (bg aA p) r
def mY(aA:List Cell)(row:List dc):List Cell:=row.foldl bg aA
def L4(aA:List Cell)(row:List dc)(p:dc):mY aA (row++[p])=bg (mY aA row) p:=by
 unfold mY;rw[List.foldl_append];rfl
theorem Jh:∀{aA:List Cell} {row:List dc} {p:dc},zR af aA row->p∈xJ af (mY aA row)->zR af aA (row++[p])
 | aA,[],p,_,h=>⟨h,trivial⟩
 | aA,q::r,p,h,hp=>⟨h.1,Jh h.2 hp⟩
def kS(c:Cell):Int:=(c.1+c.2) % 3
def kD(c:Cell):Int:=(c.1-c.2) % 3
def par(f:Cell->Bool)(l:List Cell):Int:=((l.filter f).length:Int) % 2
def f1(c:Cell):Bool:=decide (kS c<2)
def f2(c:Cell):Bool:=decide (0<kS c)
def f3(c:Cell):Bool:=decide (kD c<2)
def f4(c:Cell):Bool:=decide (0<kD c)
def rP(l:List Cell):List Int:=[par f1 l,par f2 l,par f3 l,par f4 l]
def bi(b:Bool):Nat:=if b then 1 else 0
def Ji(f:Cell->Bool)(l:List Cell):par f l=((l.countP f:Nat):Int) % 2:=by unfold par;rw[List.countP_eq_length_filter]
def mQ{f:Cell->Bool}{aA:List Cell}(nd:aA.Nodup)(h:oV aA p=true)(hf:p.2∈four p.1)(he:(bi (f p.1)+bi (f (mid p.1 p.2))+bi (f p.2))=2):par f (bg aA p)=par f aA:=by
 have e1:=(xP nd h hf).countP_eq f;have e2:=(mP (left aA p++[p.2])).countP_eq f;rw[Ji,Ji];unfold bg;simp only[e2,e1,List.countP_append,vA,List.countP_nil];unfold bi at he;lia
def UI(P:Prop)[Decidable P]:bi (decide P)=if P then 1 else 0:=by unfold bi;simp
def Qq(c:Cell):bi (f1 c)=if(c.1+c.2) % 3<2 then 1 else 0:=UI _
def Qs(c:Cell):bi (f2 c)=if 0<(c.1+c.2) % 3 then 1 else 0:=UI _
def Qt(c:Cell):bi (f3 c)=if(c.1-c.2) % 3<2 then 1 else 0:=UI _
def Qu(c:Cell):bi (f4 c)=if 0<(c.1-c.2) % 3 then 1 else 0:=UI _
def Qv(s e:Int)(h:e=1\/e = -1):(if s % 3<2 then 1 else 0)+(if(s+e) % 3<2 then 1 else 0)+(if(s+2*e) % 3<2 then 1 else 0)=2:=by
 have h3:s % 3=0\/s % 3=1\/s % 3=2:=by lia
 rcases h with rfl|rfl <;> rcases h3 with h|h|h;rw[h,aU3 (by decide),aU3 (by lia),aU4 (by lia)];rw[h,aU3 (by decide),aU4 (by lia),aU3 (by lia)];rw[h,aU4 (by decide),aU3 (by lia),aU3 (by lia)];rw[h,aU3 (by decide),aU4 (by lia),aU3 (by lia)];rw[h,aU3 (by decide),aU3 (by lia),aU4 (by lia)];rw[h,aU4 (by decide),aU3 (by lia),aU3 (by lia)]
def Qw(s e:Int)(h:e=1\/e = -1):(if 0<s % 3 then 1 else 0)+(if 0<(s+e) % 3 then 1 else 0)+(if 0<(s+2*e) % 3 then 1 else 0)=2:=by
 have h3:s % 3=0\/s % 3=1\/s % 3=2:=by lia
 rcases h with rfl|rfl <;> rcases h3 with h|h|h;rw[h,aU4 (by decide),aU3 (by lia),aU3 (by lia)];rw[h,aU3 (by decide),aU3 (by lia),aU4 (by lia)];rw[h,aU3 (by decide),aU4 (by lia),aU3 (by lia)];rw[h,aU4 (by decide),aU3 (by lia),aU3 (by lia)];rw[h,aU3 (by decide),aU4 (by lia),aU3 (by lia)];rw[h,aU3 (by decide),aU3 (by lia),aU4 (by lia)]
def Qx{p:dc}(hf:p.2∈four p.1):∃e f:Int,(e=1\/e = -1)/\(f=1\/f = -1)/\(mid p.1 p.2).1+(mid p.1 p.2).2=p.1.1+p.1.2+e/\p.2.1+p.2.2=p.1.1+p.1.2+2*e/\(mid p.1 p.2).1-(mid p.1 p.2).2=p.1.1-p.1.2+f/\p.2.1-p.2.2=p.1.1-p.1.2+2*f:=by
 obtain⟨⟨a1,a2⟩,b1,b2⟩:=p;unfold four at hf;unfold mid;simp only[bD,eK,aV3,vH]at hf ⊢;rcases hf with⟨rfl,rfl⟩|⟨rfl,rfl⟩|⟨rfl,rfl⟩|⟨rfl,rfl⟩;exact⟨-1,-1,.inr rfl,.inr rfl,by lia,by lia,by lia,by lia⟩;exact⟨-1,1,.inr rfl,.inl rfl,by lia,by lia,by lia,by lia⟩;exact⟨1,-1,.inl rfl,.inr rfl,by lia,by lia,by lia,by lia⟩;exact⟨1,1,.inl rfl,.inl rfl,by lia,by lia,by lia,by lia⟩
def HN{aA:List Cell}(nd:aA.Nodup)(h:oV aA p=true)(hf:p.2∈four p.1):rP (bg aA p)=rP aA:=by
 refine Ra (Qx hf) fun e f he hf' s1 s2 d1 d2=>?_;unfold rP;rw[mQ nd h hf (f:=f1) (by rw[Qq,Qq,Qq,s1,s2];exact Qv _ e he),mQ nd h hf (f:=f2) (by rw[Qs,Qs,Qs,s1,s2];exact Qw _ e he),
  mQ nd h hf (f:=f3) (by rw[Qt,Qt,Qt,d1,d2];exact Qv _ f hf'),mQ nd h hf (f:=f4) (by rw[Qu,Qu,Qu,d1,d2];exact Qw _ f hf')]
theorem xQ:∀{row:List dc} {aA:List Cell},bA aA->(∀c∈aA,c∈af)->zR af aA row->bA (mY aA row)/\(∀c∈mY aA row,c∈af)/\rP (mY aA row)=rP aA/\(mY aA row).length+row.length=aA.length
 | [],aA,u,s,_=>⟨u,s,rfl,rfl⟩
 | p::r,aA,u,s,h=>by
  refine AA (UH h.1) fun m1 m2 m3 m4 m5=>?_;have c1:=HN u.nodup m5 m2;have l1:=HM u.nodup m5 m2;obtain⟨i1,i2,i3,i4⟩:=xQ (row:=r) (aA:=bg aA p) (L3 u (En.mp m5).2.1) (fun c hc=>by
   rcases HL.mp hc with h|h;exact s c h.1;rw[h];exact m3) h.2
  refine⟨i1,i2,i3.trans c1,?_⟩;rw[cI,<- l1,<- i4];show(mY (bg aA p) r).length+(r.length+1)=(mY (bg aA p) r).length+r.length+1;lia
def tI(l:List Int):D:=.tup (l.map D.int)
def lI(l:List Int):D:=.lst (l.map D.int)
def C7(l:List Cell):D:=tI (rP l)
theorem Eo:∀a b:List Int,dM (a.map D.int) (b.map D.int)=decide (a=b)
 | [],[]=>by simp[dM]
 | [],_::_=>by simp[dM]
 | _::_,[]=>by simp[dM]
 | x::a,y::b=>by
  rw[bh,bh,dM,Eo a b,gP];by_cases h:x=y <;> by_cases h':a=b <;> simp[h,h']
def zS:∀a:List Int,bW (a.map D.int)=true:=fun a=>iJ fun d hd=>by obtain⟨c,_,rfl⟩:=aX.mp hd;simp[flat]
def Ep:∀a:List Int,cV (a.map D.int)=true:=fun a=>dY fun d hd=>by obtain⟨c,_,rfl⟩:=aX.mp hd;exact BZ c
def Er:∀a:List Int,jT (a.map D.int)<=0:=fun a=>qV fun d hd=>by obtain⟨c,_,rfl⟩:=aX.mp hd;simp[dep]
def YR(neg:Bool)(a b:List Int):eW neg (tI a) (tI b) = .ok (.bl (if neg then !decide (a=b)else decide (a=b))):=by
 unfold eW tI;have h:=Er a;rw[aU3];simp[gP,Eo];simp[flat,dep,zS];lia
def YS(neg:Bool)(x:Int)(l:List Int):gI neg (.int x) (tI l) = .ok (.bl (if neg then !decide (x∈l)else decide (x∈l))):=by
 unfold gI tI;have h:=Er l;dsimp only;rw[aU3 (by simp[flat,zS];lia)];have e:(l.map D.int).any (fun e=>gP e (.int x))=decide (x∈l):=by
  clear h;induction l with
  | nil=>rfl
  | cons y l ih=>rw[bh,vB,ih,gP];by_cases hx:y=x;simp[hx];have:¬ x=y:=fun z=>hx z.symm;simp[hx,this]
 rw[e]
def Es(neg:Bool)(a b:List Cell):eW neg (C7 a) (C7 b) = .ok (.bl (if neg then !decide (rP a=rP b)else decide (rP a=rP b))):=YR neg _ _
def comp_map{α:Type}{bind:DB}{ft fe:DF}{f:α->D}{g:α->D}{S:α->eY}{P:eY->Prop}(xs:List α)(hS:∀x∈xs,P (S x))(hb:∀x∈xs,∀st,P st->bind (f x) st=some (S x))(ht:∀x∈xs,ft (S x) = .ok (.bl true))(he:∀x∈xs,fe (S x) = .ok (g x))(st:eY)(h:P st):iw bind ft fe (xs.map f) st = .ok (xs.map g):=by
 have:=gO (p:=fun _=>true) xs hS hb ht (fun x hx _=>he x hx) st h;rw[List.filter_eq_self.mpr fun _ _=>rfl]at this;exact this
def YT{bind:DB}{F:DS}(h1:bind a st=some l7)(h2:F l7 = .nx qp)(h3:bind b qp=some Gm)(h4:F Gm = .nx st4):dG bind F [a,b] st = .nx st4:=by
 rw[dG,h1];dsimp only;rw[h2];dsimp only;rw[dG,h3];dsimp only;rw[h4];rfl
end Dm
end YO
section YU
namespace Pk
open L2 Dm
variable (t:gQ)
def zT{aA:List Cell}(p:dc)(hl:aA.length<=60):bY t [az aA,lD p] = .ok (az (bg aA p)):=by
 have hb:=xM t p;have g1:(cC (bU (ah 0)) 1 [1] (b5 0) (j6 (aB (eW true) (ah 0) (aB bH (ah 1) (dC (.int 0)))) (aB (eW true) (ah 0) (aY (aV t) (aa (ah 1) ao)))) (aQ (ah 0))) [some (az aA),some (lD p),none] = .ok (az (left aA p)):=by
  refine fT (ds:=aA.map cD) (by simp) (by simp;lia) ?_;exact gO (S:=fun x=>[some (cD x),some (lD p)]) (P:=fun st=>∃y,st=[y,some (lD p)]) aA (fun x _=>⟨_,rfl⟩) (fun x _ st ⟨y,e⟩=>by subst e;rfl) (fun x _=>by
   by_cases h1:x=p.1;exact(tU (bZ (a:=cD x) (b:=cD p.1) rfl (by simp) (by rw[Qo];simp[h1]))).trans (by simp[h1]);exact(j8 (bZ (a:=cD x) (b:=cD p.1) rfl (by simp) (by rw[Qo];simp[h1])) (bZ (a:=cD x) (b:=cD (mid p.1 p.2)) rfl (by simp[hb]) (Qo ..))).trans (by simp[h1])) (fun x _ _=>by simp) _ ⟨none,rfl⟩
 have hle:(left aA p).length<=aA.length:=m6 ..;unfold bY;refine bw [some (az aA),some (lD p),none] ?_;rw[aE (st':=[some (az aA),some (lD p),some (az (left aA p))]) (d8 g1)];refine d9 (tT (a:=az (left aA p++[p.2])) (bZ (a:=az (left aA p)) (b:=az [p.2]) rfl (by simp) (C5 (by simp;lia))) ?_);exact Jg (by simp;lia)
theorem cF.row{af aA:List Cell}{row:List dc}(S:cF af aA)(h:zR af aA row):cF af (mY aA row):=by
 obtain⟨h1,h2,_⟩:=xQ S.1 S.2 h;exact⟨h1,h2⟩
end Pk
end YU
section YV
namespace Pk
open L2 Dm
variable (t:gQ)
def Jj(aA:List Cell)(k:Cell->Int)(two:List Int)(f:Cell->Bool)(h:∀c,decide (k c∈two)=f c)(hl:aA.length<=5000):ku t [.lst (aA.map fun c=>.int (k c)),tI two] = .ok (.int (par f aA)):=by
 unfold ku;refine bw [some (.lst (aA.map fun c=>.int (k c))),some (tI two)] (d9 (bZ (a:=.int ((aA.filter f).length:Nat)) (b:=.int 2) ?_ rfl (by unfold par;exact i9 (by decide))));refine tT (a:=.lst ((aA.filter f).map fun c=>.int (k c))) (fT (ds:=aA.map fun c=>.int (k c)) rfl (by simpa using hl) (gO (S:=fun x=>[some (.int (k x)),some (tI two)]) (P:=fun st=>∃y,st=[y,some (tI two)]) aA (fun x _=>⟨_,rfl⟩) (fun x _ st ⟨y,e⟩=>by subst e;rfl) (fun x _=>?_) (fun x _ _=>by simp) _ ⟨none,rfl⟩)) (by simp);rw[<- h x];exact bZ (a:=.int (k x)) (b:=tI two) rfl rfl (by rw[YS];simp)
def Jk{af aA:List Cell}(lp:aA.length<=50)(S:cF af aA):kB t [bB af,az aA] = .ok (C7 aA):=by
 have hc:=(iS t (af:=af) lp).1 S;have o1:=Jj t aA kS [0,1] f1 (fun c=>by unfold f1 kS;rw[jr];simp only[bD,eK,aV3,aU8];lia) (by lia);have o2:=Jj t aA kS [1,2] f2 (fun c=>by unfold f2 kS;rw[jr];simp only[bD,eK,aV3,aU8];lia) (by lia);have o3:=Jj t aA kD [0,1] f3 (fun c=>by unfold f3 kD;rw[jr];simp only[bD,eK,aV3,aU8];lia) (by lia);have o4:=Jj t aA kD [1,2] f4 (fun c=>by unfold f4 kD;rw[jr];simp only[bD,eK,aV3,aU8];lia) (by lia);unfold kB;refine bw [some (bB af),some (az aA),none,none] ?_;rw[aE (st':=[some (bB af),some (az aA),none,none]) (by simp[hc])];rw[aE (st':=[some (bB af),some (az aA),some (.lst (aA.map fun c=>.int (kS c))),none]) (d8 (fT (ds:=aA.map cD) rfl (by simp;lia) (comp_map (S:=fun x=>[some (cD x)]) (P:=fun st=>∃y,st=[y]) aA (fun x _=>⟨_,rfl⟩) (fun x _ st ⟨y,e⟩=>by subst e;rfl) (fun x _=>rfl) (fun x _=>bZ (a:=.int (x.1+x.2)) (b:=.int 3) (bZ (a:=.int x.1) (b:=.int x.2) rfl rfl rfl) rfl (i9 (by decide))) _ ⟨none,rfl⟩)))];rw[aE (st':=[some (bB af),some (az aA),some (.lst (aA.map fun c=>.int (kS c))),some (.lst (aA.map fun c=>.int (kD c)))]) (d8 (fT (ds:=aA.map cD) rfl (by simp;lia) (comp_map (S:=fun x=>[some (cD x)]) (P:=fun st=>∃y,st=[y]) aA (fun x _=>⟨_,rfl⟩) (fun x _ st ⟨y,e⟩=>by subst e;rfl) (fun x _=>rfl) (fun x _=>bZ (a:=.int (x.1-x.2)) (b:=.int 3) (bZ (a:=.int x.1) (b:=.int x.2) rfl rfl rfl) rfl (i9 (by decide))) _ ⟨none,rfl⟩)))];refine d9 ?_;simp[tI]at o1 o2 o3 o4;simp[o1,o2,o3,o4,C7,tI,rP]
end Pk
end YV
section YW
namespace Pk
open L2 Dm
variable (t:gQ)
def Qy{aA:List Cell}(acc:List Int)(s:Int)(hs:s=1\/s = -1)(y:Option D)(la:acc.length<=10)(hl:aA.length<=50):(aU (bC 3 (cC (bU (ah 0)) 2 [2] (ef 0 1) (dC (.bl true)) (aB cB (aB cW (ah 0) (aB oj (ah 2) (ah 1))) (dC (.int 3)))))
  (aU (iT 1 (aB cB (aY dQ (aa (cC (bU (ah 3)) 1 [] (b5 0) (aB rV (ah 0) (dC (.int 2))) (aQ (ah 0))) ao)) (dC (.int 2))))
  (iT 1 (aB cB (aY dQ (aa (cC (bU (ah 3)) 1 [] (b5 0) (aB GW (ah 0) (dC (.int 0))) (aQ (ah 0))) ao)) (dC (.int 2)))))) [some (az aA),some (lI acc),some (.int s),y]
  = .nx [some (az aA),some (lI (acc++[par (fun c=>decide ((c.1+s*c.2) % 3<2)) aA,par (fun c=>decide (0<(c.1+s*c.2) % 3)) aA])),some (.int s),some (.lst (aA.map fun c=>.int ((c.1+s*c.2) % 3)))]:=by
 rw[aE (st':=[some (az aA),some (lI acc),some (.int s),some (.lst (aA.map fun c=>.int ((c.1+s*c.2) % 3)))]) (d8 (fT (ds:=aA.map cD) rfl (by simp;lia) (comp_map (S:=fun x=>[some (.int x.1),some (.int x.2),some (.int s)]) (P:=fun st=>∃y z,st=[y,z,some (.int s)]) aA (fun x _=>⟨_,_,rfl⟩) (fun x _ st ⟨y,z,e⟩=>by subst e;rfl) (fun x _=>rfl) (fun x _=>bZ (a:=.int (x.1+s*x.2)) (b:=.int 3) (bZ (a:=.int x.1) (b:=.int (s*x.2)) rfl (bZ (a:=.int s) (b:=.int x.2) rfl rfl (qy (by lia))) rfl) rfl (i9 (by decide))) _ ⟨none,none,rfl⟩)))];have app:∀(A:List Int) (f:DF) (Gm:D) (v:Int),A.length<=100->f [some (az aA),some (lI A),some (.int s),some Gm] = .ok (.int v)->iT 1 f [some (az aA),some (lI A),some (.int s),some Gm] = .nx [some (az aA),some (lI (A++[v])),some (.int s),some Gm]:=fun A f Gm v hA hf=>by
  have:(A.map D.int).length<=5000:=by simp;lia
  unfold iT lI;unfold lI at hf;simp[hf,this];lia
 have cnt:∀(A:List Int) (ft:DF) (f:Cell->Bool),(∀x:Cell,ft [some (.int ((x.1+s*x.2) % 3))] = .ok (.bl (f x)))->(aB cB (aY dQ (aa (cC (bU (ah 3)) 1 [] (b5 0) ft (aQ (ah 0))) ao)) (dC (.int 2))) [some (az aA),some (lI A),some (.int s),some (.lst (aA.map fun c=>.int ((c.1+s*c.2) % 3)))] = .ok (.int (par f aA)):=fun A ft f hft=>
  bZ (a:=.int ((aA.filter f).length:Nat)) (b:=.int 2) (tT (a:=.lst ((aA.filter f).map fun c=>.int ((c.1+s*c.2) % 3))) (fT (ds:=aA.map fun c=>.int ((c.1+s*c.2) % 3)) rfl (by simp;lia) (gO (S:=fun x:Cell=>[some (.int ((x.1+s*x.2) % 3))]) (P:=fun st=>∃y,st=[y]) aA (fun x _=>⟨_,rfl⟩) (fun x _ st ⟨y,e⟩=>by subst e;rfl) (fun x _=>hft x) (fun x _ _=>by simp) _ ⟨none,rfl⟩)) (by simp)) rfl (by unfold par;exact i9 (by decide))
 rw[aE (app _ _ _ _ (by lia) (cnt _ _ _ fun x=>by simp;rfl)),app _ _ _ _ (by simp;lia) (cnt _ _ _ fun x=>by simp;rfl)];simp
def Et{aA:List Cell}(hl:aA.length<=50):iR t [az aA] = .ok (C7 aA):=by
 unfold iR;refine bw [some (az aA),none,none,none] ?_;rw[aE (st':=[some (az aA),some (lI []),none,none]) (by simp[lI])];rw[aE (by
  rw[lS,show bU (br 100 (aa (dC (.int 1)) (aa (lV yi (dC (.int 1))) ao))) [some (az aA),some (lI []),none,none] = .ok [.int 1,.int (-1)] by simp];exact YT rfl (Qy (aA:=aA) [] 1 (.inl rfl) _ (by simp) hl) rfl (Qy (aA:=aA) _ (-1) (.inr rfl) _ (by simp) hl))]
 refine d9 (tT (a:=lI (rP aA)) ?_ ?_);have e1:(fun c:Cell=>decide ((c.1+1*c.2) % 3<2))=f1:=by funext c;unfold f1 kS;rw[Int.one_mul]
 have e2:(fun c:Cell=>decide (0<(c.1+1*c.2) % 3))=f2:=by funext c;unfold f2 kS;rw[Int.one_mul]
 have e3:(fun c:Cell=>decide ((c.1 + -1*c.2) % 3<2))=f3:=by funext c;unfold f3 kD;rw[show c.1 + -1*c.2=c.1-c.2 by lia]
 have e4:(fun c:Cell=>decide (0<(c.1 + -1*c.2) % 3))=f4:=by funext c;unfold f4 kD;rw[show c.1 + -1*c.2=c.1-c.2 by lia]
 rw[e1,e2,e3,e4];rfl;unfold kr lI;dsimp only;rw[aU3 (Ep _)];rfl
end Pk
end YW
section YX
namespace Dm
open L2 HT
def gX(af:List Cell)(ws:List Int)(c:Cell):Int:=(ws[af.idxOf c]?).getD 0
def ux(af:List Cell)(ws:List Int):Bool:=(aS af).all fun p=>!decide (gX af ws p.1+gX af ws (mid p.1 p.2)<gX af ws p.2)
def wsum(af:List Cell)(ws:List Int)(aA:List Cell):Int:=(aA.map (gX af ws)).sum
theorem xR:∀l:List Cell,cellsOf (l.map cD)=some l
 | []=>rfl
 | c::l=>by rw[bh];show cellsOf (.tup [.int c.1,.int c.2]::l.map cD)=_;rw[cellsOf,xR l];rfl
theorem oY:∀l:List Int,intsOf (l.map D.int)=some l
 | []=>rfl
 | c::l=>by rw[bh,intsOf,oY l];rfl
def Qz{af:List Cell}{ws:List Int}(nd:af.Nodup)(hl:ws.length=af.length):VS (az af) (lI ws) = .ok (dD (af.zip ws)):=by
 unfold VS lI;dsimp only;rw[xR,oY];dsimp only;rw[aU3 (by rw[aU5 hl.symm,aU5 nd];rfl)]
def QA{a c:Cell}{l:List Cell}(e:a≠c):(a::l).idxOf c=l.idxOf c+1:=by
 rw[List.idxOf_cons];have:(a==c)=false:=aV0.mpr e;rw[this];rfl
theorem Eu(c:Cell):∀(af:List Cell) (ws:List Int),ws.length=af.length->c∈af->jF ((af.zip ws).flatMap fun q=>[D.int q.1.1,D.int q.1.2,D.int q.2]) c.1 c.2=some (gX af ws c)
 | [],_,_,h=>by cases h
 | a::l,[],h,_=>by cases h
 | a::l,w::ws,h,hc=>by
  rw[sG,FA];show jF (D.int a.1::D.int a.2::D.int w::(l.zip ws).flatMap _) c.1 c.2=_;rw[jF];unfold gX;by_cases e:a=c;subst e;rw[aU3 ⟨rfl,rfl⟩,List.idxOf_cons_self];rfl;rw[aU4 fun z=>e (ju z.1 z.2)];have rS:c∈l:=by rcases bD.mp hc with h|h;exact aV5 h.symm e;exact h
  rw[Eu c l ws (by simpa using h) rS];rw[QA e];rfl
def C8{af:List Cell}{ws:List Int}{c:Cell}(hl:ws.length=af.length)(hc:c∈af):mF (dD (af.zip ws)) (cD c) = .ok (.int (gX af ws c)):=by
 have h:=Eu c af ws hl hc;show(match jF ((af.zip ws).flatMap fun q=>[D.int q.1.1,D.int q.1.2,D.int q.2]) c.1 c.2 with|some n=>R.ok (D.int n)|none=>(R.bad:R D))=_;rw[h]
theorem Ew(c:Cell):∀l:List Cell,c∈l->(l.map cD).findIdx? (fun e=>gP e (cD c))=some (l.idxOf c)
 | [],h=>by cases h
 | a::l,h=>by
  rw[bh,Fz,C2];by_cases e:a=c;subst e;simp;have rS:c∈l:=by rcases bD.mp h with h|h;exact aV5 h.symm e;exact h
  rw[aU6 e,Ew c l rS,QA e];rfl
def L5{l:List Cell}{c:Cell}(h:c∈l):mG (az l) (cD c) = .ok (.int (l.idxOf c:Nat)):=by
 unfold mG;have hd:=rN l;dsimp only;rw[aU3 (by simp;lia),Ew c l h]
def qA{fa fb:DF}{st:eY}{l:List Cell}{c:Cell}(h1:fa st = .ok (az l))(h2:fb st = .ok (cD c))(h:c∈l):iD fa fb st = .ok (.int (l.idxOf c:Nat)):=by
 unfold iD;rw[h1,rL];show(fb st).bind (fun b=>mG (.lst (l.map cD)) b)=_;rw[h2,rL];exact L5 h
def xS{af:List Cell}{ws:List Int}{c:Cell}(hl:ws.length=af.length)(hc:c∈af):bH (lI ws) (.int (af.idxOf c:Nat)) = .ok (.int (gX af ws c)):=by
 have hi:af.idxOf c<ws.length:=by rw[hl];exact FH hc
 refine rO ?_;unfold gX;rw[cG,c7 hi];rfl
end Dm
end YX
section YY
namespace Pk
open L2 Dm
variable (t:gQ)
def goodW(af:List Cell)(ws:List Int):Prop:=ws.length=af.length/\∀n∈ws,-1000<=n/\n<=1000
@[simp] theorem C9 (l:List Cell):dQ [az l] = .ok (.int (l.length:Nat)):=by simp
@[simp] theorem v7 (l:List Int):dQ [lI l] = .ok (.int (l.length:Nat)):=by simp[lI]
def xT{af:List Cell}{ws:List Int}:(goodW af ws->cQ t [bB af,lI ws] = .ok .cH)/\(¬ goodW af ws->cQ t [bB af,lI ws] = .ex t.cM none):=by
 have loop:=jf (bind:=b5 2) (F:=Dm.bz (n9 (ko Lo Lo (dC (.int (-1000))) (ah 2) (dC (.int (1000))))) (eo t.cM) aR) (f:=D.int) (Q:=fun st=>∃y,st=[some (bB af),some (lI ws),y]) (p:=fun n=>-1000<=n/\n<=1000) (S:=fun o=>∃s,o = .ex t.cM none s) (fun o ⟨s,e⟩=>by subst e;trivial) ws [some (bB af),some (lI ws),none] (fun n _ st ⟨y,e⟩=>by
  subst e;refine⟨[some (bB af),some (lI ws),some (.int n)],rfl,fun h=>⟨_,?_,some (.int n),rfl⟩,fun h=>⟨[some (bB af),some (lI ws),some (.int n)],?_⟩⟩;rw[gu (by simp[h.1,h.2])];rfl;rw[ia (by
   by_cases h1 : -1000<=n;have h2:¬ n<=1000:=fun z=>h ⟨h1,z⟩;simp[h1,h2];simp[h1])];rfl) ⟨none,rfl⟩
 by_cases hlen:ws.length=af.length;have s1:Dm.bz (aB (eW true) (aY dQ (aa (ah 1) ao)) (aY dQ (aa (lV cR (ah 0)) ao))) (eo t.cM) aR [some (bB af),some (lI ws),none] = .nx [some (bB af),some (lI ws),none]:=by rw[gu (bZ (a:=.int (ws.length:Nat)) (b:=.int (af.length:Nat)) (tT (a:=lI ws) rfl (v7 ws)) (tT (a:=az af) (by simp) (C9 af)) (by rw[fS,hlen];simp))];rfl
 refine⟨fun h=>?_,fun h=>?_⟩;obtain⟨st',h1,_⟩:=loop.1 h.2;unfold cQ;refine Uq (s:=st') [some (bB af),some (lI ws),none] ?_;rw[aE s1,lS];exact h1;obtain⟨s,h1⟩:=loop.2 fun z=>h ⟨hlen,z⟩;unfold cQ;refine C4 (s:=s) [some (bB af),some (lI ws),none] ?_;rw[aE s1,lS];exact h1;refine⟨fun h=>aV5 h.1 hlen,fun _=>?_⟩;unfold cQ;refine C4 (s:=[some (bB af),some (lI ws),none]) [some (bB af),some (lI ws),none] (HH ?_);rw[ia (bZ (a:=.int (ws.length:Nat)) (b:=.int (af.length:Nat)) (tT (a:=lI ws) rfl (v7 ws)) (tT (a:=az af) (by simp) (C9 af)) (by rw[fS,aU6 (by lia)];simp))];rfl
def v8{α:Type}{l:List α}{p:α->Bool}:(∀x∈l,p x=true)↔l.all p=true:=iZ.symm
def YZ{af:List Cell}{ws:List Int}(hl:af.length<=200)(nd:af.Nodup)(g:goodW af ws):tM t [bB af,lI ws] = .ok (.bl (ux af ws)):=by
 have hc:=(xT t).1 g;have loop:=jf (bind:=b5 3) (F:=Dm.bz (aB rV (aB cW (aB mF (ah 2) (aB bH (ah 3) (dC (.int 0)))) (aB mF (ah 2) (aY (dS t) (aa (aB bH (ah 3) (dC (.int 0))) (aa (aB bH (ah 3) (dC (.int 1))) ao))))) (aB mF (ah 2) (aB bH (ah 3) (dC (.int 1)))))
  (bN (dC (.bl false)))
  aR) (f:=lD) (Q:=fun st=>∃y,st=[some (bB af),some (lI ws),some (dD (af.zip ws)),y]) (p:=fun p:dc=>(!decide (gX af ws p.1+gX af ws (mid p.1 p.2)<gX af ws p.2))=true) (S:=fun o=>o = .rt (.bl false)) (fun o e=>by subst e;trivial) (aS af) [some (bB af),some (lI ws),some (dD (af.zip ws)),none] (fun p hp st ⟨y,e⟩=>by
  subst e
  obtain⟨m1,m2,m3,m4⟩:=j9.mp hp
  have t1:(aB rV (aB cW (aB mF (ah 2) (aB bH (ah 3) (dC (.int 0)))) (aB mF (ah 2) (aY (dS t) (aa (aB bH (ah 3) (dC (.int 0))) (aa (aB bH (ah 3) (dC (.int 1))) ao))))) (aB mF (ah 2) (aB bH (ah 3) (dC (.int 1))))) [some (bB af),some (lI ws),some (dD (af.zip ws)),some (lD p)] = .ok (.bl (decide (gX af ws p.1+gX af ws (mid p.1 p.2)<gX af ws p.2))):=
   bZ (a:=.int (gX af ws p.1+gX af ws (mid p.1 p.2))) (b:=.int (gX af ws p.2)) (bZ (a:=.int (gX af ws p.1)) (b:=.int (gX af ws (mid p.1 p.2))) (bZ (a:=dD (af.zip ws)) (b:=cD p.1) rfl (by simp) (C8 g.1 m1)) (bZ (a:=dD (af.zip ws)) (b:=cD (mid p.1 p.2)) rfl (by simp[El]) (C8 g.1 m4)) rfl) (bZ (a:=dD (af.zip ws)) (b:=cD p.2) rfl (by simp) (C8 g.1 m3)) rfl
  refine⟨[some (bB af),some (lI ws),some (dD (af.zip ws)),some (lD p)],rfl,fun h=>⟨_,?_,some (lD p),rfl⟩,fun h=>?_⟩
  ·rw[Aq]at h
   rw[gu (by rw[t1,h])];rfl
  ·rw[As,MH]at h
   rw[ia (by rw[t1,h])];rfl) ⟨none,rfl⟩
 have hit:bU (aY (pH t) (aa (ah 0) ao)) [some (bB af),some (lI ws),some (dD (af.zip ws)),none] = .ok ((aS af).map lD):=by simp[Je t hl]
 unfold tM;refine bw [some (bB af),some (lI ws),none,none] ?_;rw[aE (st':=[some (bB af),some (lI ws),none,none]) (by simp[hc]),
  aE (st':=[some (bB af),some (lI ws),some (dD (af.zip ws)),none]) (d8 (bZ (a:=az af) (b:=lI ws) (by simp) rfl (Qz nd g.1)))]
 unfold ux;by_cases h:∀p∈aS af,(!decide (gX af ws p.1+gX af ws (mid p.1 p.2)<gX af ws p.2))=true;obtain⟨st',h1,_⟩:=loop.1 h;rw[aE (st':=st') (by rw[lS,hit];exact h1),v8.mp h];rfl;have h1:=loop.2 h;rw[eV (d:=.bl false) (by rw[lS,hit];exact h1)];have:(aS af).all (fun p=>!decide (gX af ws p.1+gX af ws (mid p.1 p.2)<gX af ws p.2))=false:=by rw[qi];exact fun z=>h (v8.mpr z)
 rw[this]
def zU(ns:List Int):wV [.lst (ns.map D.int)] = .ok (.int ns.sum):=by
 unfold wV;dsimp only;rw[oY]
def Ey{af aA:List Cell}{ws:List Int}(nd:af.Nodup)(g:goodW af ws)(lp:aA.length<=50)(S:cF af aA):oQ t [bB af,lI ws,az aA] = .ok (.int (wsum af ws aA)):=by
 have hc:=(xT t).1 g;have hp:=(iS t (af:=af) lp).1 S;unfold oQ;refine bw [some (bB af),some (lI ws),some (az aA),none] ?_;rw[aE (st':=[some (bB af),some (lI ws),some (az aA),none]) (by simp[hc]),
  aE (st':=[some (bB af),some (lI ws),some (az aA),none]) (by simp[hp]),
  aE (st':=[some (bB af),some (lI ws),some (az aA),some (dD (af.zip ws))]) (d8 (bZ (a:=az af) (b:=lI ws) (by simp) rfl (Qz nd g.1)))]
 refine d9 (tT (a:=.lst ((aA.map (gX af ws)).map D.int)) ?_ (zU _));rw[cU];refine fT (ds:=aA.map cD) rfl (by simp;lia) ?_;exact comp_map (S:=fun x=>[some (cD x),some (dD (af.zip ws))]) (P:=fun st=>∃y,st=[y,some (dD (af.zip ws))]) aA (fun x _=>⟨_,rfl⟩) (fun x _ st ⟨y,e⟩=>by subst e;rfl) (fun x _=>rfl) (fun x hx=>bZ (a:=dD (af.zip ws)) (b:=cD x) rfl rfl (C8 g.1 (S.2 x hx))) _ ⟨none,rfl⟩
def UJ{af:List Cell}{ws:List Int}(up:bA af)(hl:af.length<=30)(jJ:(aS af).length<64)(hw:ws.length=af.length):jo t [az af,lI ws] = .ok (.bl (ux af ws)):=by
 have loop:=jf (bind:=ef 2 3) (F:=aU (bC 4 (aB cW (aB bH (ah 1) (iD (ah 0) (ah 2))) (aB bH (ah 1) (iD (ah 0) (aY (aV t) (aa (bu 100 (aa (aQ (ah 2)) (aa (aQ (ah 3)) ao))) ao))))))
  (Dm.bz (aB rV (ah 4) (aB bH (ah 1) (iD (ah 0) (ah 3))))
  (bN (dC (.bl false)))
  aR)) (f:=lD) (Q:=fun st=>∃x y z,st=[some (az af),some (lI ws),x,y,z]) (p:=fun p:dc=>(!decide (gX af ws p.1+gX af ws (mid p.1 p.2)<gX af ws p.2))=true) (S:=fun o=>o = .rt (.bl false)) (fun o e=>by subst e;trivial) (aS af) [some (az af),some (lI ws),none,none,none] (fun p hp st ⟨x,y,z,e⟩=>by
  subst e
  obtain⟨m1,m2,m3,m4⟩:=j9.mp hp
  have hb:=xM t p
  unfold lD at hb
  have s1:bC 4 (aB cW (aB bH (ah 1) (iD (ah 0) (ah 2))) (aB bH (ah 1) (iD (ah 0) (aY (aV t) (aa (bu 100 (aa (aQ (ah 2)) (aa (aQ (ah 3)) ao))) ao))))) [some (az af),some (lI ws),some (cD p.1),some (cD p.2),z] = .nx [some (az af),some (lI ws),some (cD p.1),some (cD p.2),some (.int (gX af ws p.1+gX af ws (mid p.1 p.2)))]:=
   d8 (bZ (a:=.int (gX af ws p.1)) (b:=.int (gX af ws (mid p.1 p.2))) (bZ (a:=lI ws) (b:=.int (af.idxOf p.1:Nat)) rfl (qA rfl rfl m1) (xS hw m1)) (bZ (a:=lI ws) (b:=.int (af.idxOf (mid p.1 p.2):Nat)) rfl (qA rfl (by simp[hb]) m4) (xS hw m4)) rfl)
  have t1:(aB rV (ah 4) (aB bH (ah 1) (iD (ah 0) (ah 3)))) [some (az af),some (lI ws),some (cD p.1),some (cD p.2),some (.int (gX af ws p.1+gX af ws (mid p.1 p.2)))] = .ok (.bl (decide (gX af ws p.1+gX af ws (mid p.1 p.2)<gX af ws p.2))):=
   bZ (a:=.int (gX af ws p.1+gX af ws (mid p.1 p.2))) (b:=.int (gX af ws p.2)) rfl (bZ (a:=lI ws) (b:=.int (af.idxOf p.2:Nat)) rfl (qA rfl rfl m3) (xS hw m3)) rfl
  refine⟨[some (az af),some (lI ws),some (cD p.1),some (cD p.2),z],rfl,fun h=>⟨[some (az af),some (lI ws),some (cD p.1),some (cD p.2),some (.int (gX af ws p.1+gX af ws (mid p.1 p.2)))],?_,_,_,_,rfl⟩,fun h=>?_⟩
  ·rw[Aq]at h
   rw[aE s1,gu (by rw[t1,h])];rfl
  ·rw[As,MH]at h
   rw[aE s1,ia (by rw[t1,h])];rfl) ⟨none,none,none,rfl⟩
 have hit:bU (aY (cN t) (aa (ah 0) ao)) [some (az af),some (lI ws),none,none,none] = .ok ((aS af).map lD):=by simp[xN t up hl jJ]
 unfold jo;refine bw [some (az af),some (lI ws),none,none,none] ?_;unfold ux;by_cases h:∀p∈aS af,(!decide (gX af ws p.1+gX af ws (mid p.1 p.2)<gX af ws p.2))=true;obtain⟨st',h1,_⟩:=loop.1 h;rw[aE (st':=st') (by rw[lS,hit];exact h1),v8.mp h];rfl;have h1:=loop.2 h;rw[eV (d:=.bl false) (by rw[lS,hit];exact h1)];have:(aS af).all (fun p=>!decide (gX af ws p.1+gX af ws (mid p.1 p.2)<gX af ws p.2))=false:=by rw[qi];exact fun z=>h (v8.mpr z)
 rw[this]
def HP(c:Int){af:List Cell}(hl:af.length<=500):∃ws,eF t [.int c,az af] = .ok (lI ws)/\goodW af ws:=by
 obtain⟨r,r0,r1,hr⟩:=oW t c 30 4 (by decide);obtain⟨most,less,hm,hb1,hb2,YK⟩:∃most less:Int,0<most/\less<=1000/\most-1-less<=1000/\bH (.lst [.tup [.int 2,.int 0],.tup [.int 5,.int 1],.tup [.int 41,.int 10],.tup [.int 2001,.int 1000]]) (.int r) = .ok (.tup [.int most,.int less]):=by
  have:r=0\/r=1\/r=2\/r=3:=by lia
  rcases this with rfl|rfl|rfl|rfl;exact⟨2,0,by decide,by decide,by decide,rfl⟩;exact⟨5,1,by decide,by decide,by decide,rfl⟩;exact⟨41,10,by decide,by decide,by decide,rfl⟩;exact⟨2001,1000,by decide,by decide,by decide,rfl⟩
 have mx:∀k:Nat,∃v:Int,0<=v/\v<most/\b8 t [.int c,.int (2*(k:Int)),.int most] = .ok (.int v):=fun k=>oW t c (2*(k:Int)) most hm;let g:Nat->Int:=fun k=>(mx k).choose-less;refine⟨(cY af.length).map g,?_,by simp,fun n hn=>?_⟩;unfold eF;refine bw [some (.int c),some (az af),none,none] ?_;rw[aE (st':=[some (.int c),some (az af),some (.int most),some (.int less)]) (by
  have:(aQ (aB bH (br 100 (aa (bu 100 (aa (dC (.int 2)) (aa (dC (.int 0)) ao))) (aa (bu 100 (aa (dC (.int 5)) (aa (dC (.int 1)) ao))) (aa (bu 100 (aa (dC (.int 41)) (aa (dC (.int 10)) ao))) (aa (bu 100 (aa (dC (.int 2001)) (aa (dC (.int 1000)) ao))) ao))))) (aY (b8 t) (aa (ah 0) (aa (dC (.int 30)) (aa (dC (.int 4)) ao)))))) [some (.int c),some (az af),none,none] = .ok (.tup [.int most,.int less]):=
   W0 (bZ (a:=.lst [.tup [.int 2,.int 0],.tup [.int 5,.int 1],.tup [.int 41,.int 10],.tup [.int 2001,.int 1000]]) (b:=.int r) (by simp) (SJ (a:=.int c) (b:=.int 30) (c:=.int 4) rfl rfl rfl hr) YK) (by simp[fU,cV])
  unfold uh;rw[this];rfl)]
 refine d9 ?_;unfold lI;rw[cU];refine fT (ds:=(cY af.length).map fun i=>.int (i:Nat)) ?_ (by simp;lia) ?_;unfold kW;have:(aa (aY dQ (aa (ah 1) ao)) ao) [some (.int c),some (az af),some (.int most),some (.int less)] = .ok [.int (af.length:Nat)]:=by simp
 rw[this];dsimp only;rw[aU3 (by simp;lia)];rfl;refine comp_map (S:=fun k:Nat=>[some (.int (k:Nat)),some (.int less),some (.int c),some (.int most)]) (P:=fun st=>∃y,st=[y,some (.int less),some (.int c),some (.int most)]) (cY af.length) (fun x _=>⟨_,rfl⟩) (fun x _ st ⟨y,e⟩=>by subst e;rfl) (fun x _=>rfl) (fun k _=>?_) _ ⟨none,rfl⟩;exact bZ (a:=.int (mx k).choose) (b:=.int less) (SJ (a:=.int c) (b:=.int (2*(k:Int))) (c:=.int most) rfl (bZ (a:=.int 2) (b:=.int (k:Nat)) rfl rfl (qy (by decide))) rfl (mx k).choose_spec.2.2) rfl rfl;obtain⟨k,_,rfl⟩:=aX.mp hn;obtain⟨h1,h2,_⟩:=(mx k).choose_spec;show -1000<=(mx k).choose-less/\(mx k).choose-less<=1000;lia
end Pk
end YY
section Z0
namespace Pk
open L2 Dm
variable (t:gQ)
def pw_le{k m:Nat}(h:k<=m):(2:Int) ^ k<=2 ^ m:=by
 obtain⟨d,rfl⟩:=Nat.le.dest h;rw[Int.pow_add];have h1:0<(2:Int) ^ k:=Int.pow_pos (by decide);have h2:0<(2:Int) ^ d:=Int.pow_pos (by decide);have:=Int.mul_le_mul_of_nonneg_left (show(1:Int)<=2 ^ d by lia) (Int.le_of_lt h1);lia
def QB{af:List Cell}{ws:List Int}{c:Cell}(l:ws.length=af.length)(m:c∈af):gX af ws c∈ws:=by
 have hj:af.idxOf c<ws.length:=by rw[l];exact FH m
 unfold gX;rw[c7 hj];exact jQ hj
def L6{af:List Cell}{ws:List Int}(up:bA af)(hl:af.length<=30)(jJ:(aS af).length<64)(hw:ws.length=af.length)(hu:∀n∈ws,n<=1000/\ -1000<=n):∃jL,gm t [az af,lI ws] = .ok (lI jL)/\jL.length=af.length/\∀n∈jL,n<=1000/\ -(1000*2 ^ (64*af.length))<=n:=by
 let Q:Nat->eY->Prop:=fun k st=>∃jL x3 x4 x5 x6 x7 x8,jL.length=af.length/\(∀n∈jL,n<=1000/\ -(1000*2 ^ k)<=n)/\st=[some (az af),some (lI ws),some (lI jL),x3,x4,x5,x6,x7,x8]
 have up':∀{k m:Nat} {n:Int},k<=m->n<=1000/\ -(1000*2 ^ k)<=n->n<=1000/\ -(1000*2 ^ m)<=n:=fun {k m n} h z=>⟨z.1,by have:=pw_le h;have:=z.2;lia⟩
 have inner:∀k st,Q k st->∃st',(cy (bU (aY (cN t) (aa (ah 0) ao))) (ef 4 5)
   (aU (uo 6 7 8 (aa (iD (ah 0) (ah 4)) (aa (iD (ah 0) (aY (aV t) (aa (bu 100 (aa (aQ (ah 4)) (aa (aQ (ah 5)) ao))) ao))) (aa (iD (ah 0) (ah 5)) ao))))
   (Dm.bz (aB rV (aB cW (aB bH (ah 2) (ah 6)) (aB bH (ah 2) (ah 7))) (aB bH (ah 2) (ah 8)))
   (qu 2 (ah 8) (aB cW (aB bH (ah 2) (ah 6)) (aB bH (ah 2) (ah 7))))
   aR))) st = .nx st'/\Q (k+64) st':=fun k st pK=>by
  obtain⟨ws0,x3,x4,x5,x6,x7,x8,l0,u0,rfl⟩:=pK
  obtain⟨st',h1,h2⟩:=l6 (bind:=ef 4 5) (F:=aU (uo 6 7 8 (aa (iD (ah 0) (ah 4)) (aa (iD (ah 0) (aY (aV t) (aa (bu 100 (aa (aQ (ah 4)) (aa (aQ (ah 5)) ao))) ao))) (aa (iD (ah 0) (ah 5)) ao))))
   (Dm.bz (aB rV (aB cW (aB bH (ah 2) (ah 6)) (aB bH (ah 2) (ah 7))) (aB bH (ah 2) (ah 8)))
   (qu 2 (ah 8) (aB cW (aB bH (ah 2) (ah 6)) (aB bH (ah 2) (ah 7))))
   aR)) (f:=lD) (Q:=fun pre st=>Q (k+pre.length) st) (aS af) [] [some (az af),some (lI ws),some (lI ws0),x3,x4,x5,x6,x7,x8] (fun q p r e st hq=>by
    obtain⟨jL,x3,x4,x5,x6,x7,x8,l',u',rfl⟩:=hq
    have hp:p∈aS af:=by rw[gF]at e;rw[e];simp
    obtain⟨m1,m2,m3,m4⟩:=j9.mp hp
    have hb:=xM t p
    unfold lD at hb
    have s1:uo 6 7 8 (aa (iD (ah 0) (ah 4)) (aa (iD (ah 0) (aY (aV t) (aa (bu 100 (aa (aQ (ah 4)) (aa (aQ (ah 5)) ao))) ao))) (aa (iD (ah 0) (ah 5)) ao))) [some (az af),some (lI ws),some (lI jL),x3,some (cD p.1),some (cD p.2),x6,x7,x8] = .nx [some (az af),some (lI ws),some (lI jL),x3,some (cD p.1),some (cD p.2),some (.int (af.idxOf p.1:Nat)),some (.int (af.idxOf (mid p.1 p.2):Nat)),some (.int (af.idxOf p.2:Nat))]:=by
     have i1:=qA (fa:=ah 0) (fb:=ah 4) (st:=[some (az af),some (lI ws),some (lI jL),x3,some (cD p.1),some (cD p.2),x6,x7,x8]) rfl rfl m1
     have i2:=qA (fa:=ah 0) (fb:=aY (aV t) (aa (bu 100 (aa (aQ (ah 4)) (aa (aQ (ah 5)) ao))) ao)) (st:=[some (az af),some (lI ws),some (lI jL),x3,some (cD p.1),some (cD p.2),x6,x7,x8]) rfl (by simp[hb]) m4
     have i3:=qA (fa:=ah 0) (fb:=ah 5) (st:=[some (az af),some (lI ws),some (lI jL),x3,some (cD p.1),some (cD p.2),x6,x7,x8]) rfl rfl m3
     unfold uo
     simp only[Yy,aw6,i1,i2,i3,rL]
     rfl
    have t0:∀S,S=[some (az af),some (lI ws),some (lI jL),x3,some (cD p.1),some (cD p.2),some (.int (af.idxOf p.1:Nat)),some (.int (af.idxOf (mid p.1 p.2):Nat)),some (.int (af.idxOf p.2:Nat))]->(aB cW (aB bH (ah 2) (ah 6)) (aB bH (ah 2) (ah 7))) S = .ok (.int (gX af jL p.1+gX af jL (mid p.1 p.2)))/\(aB rV (aB cW (aB bH (ah 2) (ah 6)) (aB bH (ah 2) (ah 7))) (aB bH (ah 2) (ah 8))) S = .ok (.bl (decide (gX af jL p.1+gX af jL (mid p.1 p.2)<gX af jL p.2))):=fun S hS=>by
     subst hS
     have a1:=bZ (g:=cW) (f1:=aB bH (ah 2) (ah 6)) (f2:=aB bH (ah 2) (ah 7)) (st:=[some (az af),some (lI ws),some (lI jL),x3,some (cD p.1),some (cD p.2),some (.int (af.idxOf p.1:Nat)),some (.int (af.idxOf (mid p.1 p.2):Nat)),some (.int (af.idxOf p.2:Nat))]) (a:=.int (gX af jL p.1)) (b:=.int (gX af jL (mid p.1 p.2))) (bZ (a:=lI jL) (b:=.int (af.idxOf p.1:Nat)) rfl rfl (xS l' m1)) (bZ (a:=lI jL) (b:=.int (af.idxOf (mid p.1 p.2):Nat)) rfl rfl (xS l' m4)) rfl
     exact⟨a1,bZ a1 (bZ (a:=lI jL) (b:=.int (af.idxOf p.2:Nat)) rfl rfl (xS l' m3)) rfl⟩
    obtain⟨t1,t2⟩:=t0 _ rfl
    by_cases gh:gX af jL p.1+gX af jL (mid p.1 p.2)<gX af jL p.2
    ·have hj:af.idxOf p.2<jL.length:=by rw[l'];exact FH m3
     refine⟨[some (az af),some (lI ws),some (lI jL),x3,some (cD p.1),some (cD p.2),x6,x7,x8],[some (az af),some (lI ws),some (lI (jL.set (af.idxOf p.2) (gX af jL p.1+gX af jL (mid p.1 p.2)))),x3,some (cD p.1),some (cD p.2),some (.int (af.idxOf p.1:Nat)),some (.int (af.idxOf (mid p.1 p.2):Nat)),some (.int (af.idxOf p.2:Nat))],rfl,?_,jL.set (af.idxOf p.2) (gX af jL p.1+gX af jL (mid p.1 p.2)),_,_,_,_,_,_,by simpa using l',fun n hn=>?_,rfl⟩
     ·rw[aE s1,ia (by rw[t2,aU5 gh])]
      unfold qu
      rw[t1]
      have YK:AO (jL.map D.int).length ((af.idxOf p.2:Nat):Int)=some (af.idxOf p.2):=by
       unfold AO
       rw[aU3 (by lia),aU3 (by simp;lia)]
       simp
      show(match AO (jL.map D.int).length ((af.idxOf p.2:Nat):Int)with|some j=>Out.nx _|none=>Out.bad)=_
      rw[YK]
      unfold lI
      rw[Mt]
      rfl
     ·rcases FI hn with h|h
      ·exact up' (by rw[fj];lia) (u' n h)
      ·have b1:=u' _ (QB l' m1)
       have b2:=u' _ (QB l' m4)
       have b3:=u' _ (QB l' m3)
       have e1:(2:Int) ^ (k+(q++[p]).length)=2*2 ^ (k+q.length):=by rw[fj,vt,<- vn,Int.pow_succ];lia
       rw[e1]
       generalize (2:Int) ^ (k+q.length)=P at b1 b2 b3
       lia
    ·refine⟨[some (az af),some (lI ws),some (lI jL),x3,some (cD p.1),some (cD p.2),x6,x7,x8],[some (az af),some (lI ws),some (lI jL),x3,some (cD p.1),some (cD p.2),some (.int (af.idxOf p.1:Nat)),some (.int (af.idxOf (mid p.1 p.2):Nat)),some (.int (af.idxOf p.2:Nat))],rfl,?_,jL,_,_,_,_,_,_,l',fun n hn=>up' (by rw[fj];lia) (u' n hn),rfl⟩
     rw[aE s1,gu (by rw[t2,aU6 gh])]
     rfl) ⟨ws0,x3,x4,x5,x6,x7,x8,l0,u0,rfl⟩
  refine⟨st',?_,?_⟩
  rotate_left
  ·obtain⟨jL,y3,y4,y5,y6,y7,y8,l',u',e'⟩:=h2
   exact⟨jL,y3,y4,y5,y6,y7,y8,l',fun n hn=>up' (by rw[gF];lia) (u' n hn),e'⟩
  rw[lS]
  have:bU (aY (cN t) (aa (ah 0) ao)) [some (az af),some (lI ws),some (lI ws0),x3,x4,x5,x6,x7,x8] = .ok ((aS af).map lD):=by simp[xN t up hl jJ]
  rw[this]
  exact h1
 have Vo:kW (aa (aY dQ (aa (ah 0) ao)) ao) [some (az af),some (lI ws),some (lI ws),none,none,none,none,none,none] = .ok ((cY af.length).map fun i=>.int (i:Nat)):=by
  unfold kW;have:(aa (aY dQ (aa (ah 0) ao)) ao) [some (az af),some (lI ws),some (lI ws),none,none,none,none,none,none] = .ok [.int (af.length:Nat)]:=by simp
  rw[this];dsimp only;rw[aU3 (by simp;lia)];rfl
 obtain⟨st',h1,h2⟩:=l6 (bind:=b5 3) (F:=cy (bU (aY (cN t) (aa (ah 0) ao))) (ef 4 5)
   (aU (uo 6 7 8 (aa (iD (ah 0) (ah 4)) (aa (iD (ah 0) (aY (aV t) (aa (bu 100 (aa (aQ (ah 4)) (aa (aQ (ah 5)) ao))) ao))) (aa (iD (ah 0) (ah 5)) ao))))
   (Dm.bz (aB rV (aB cW (aB bH (ah 2) (ah 6)) (aB bH (ah 2) (ah 7))) (aB bH (ah 2) (ah 8)))
   (qu 2 (ah 8) (aB cW (aB bH (ah 2) (ah 6)) (aB bH (ah 2) (ah 7))))
   aR))) (f:=fun i:Nat=>D.int (i:Nat)) (Q:=fun pre st=>Q (64*pre.length) st) (cY af.length) [] [some (az af),some (lI ws),some (lI ws),none,none,none,none,none,none] (fun q k r e st hq=>by
    obtain⟨jL,x3,x4,x5,x6,x7,x8,l',u',rfl⟩:=hq
    obtain⟨st',i1,i2⟩:=inner (64*q.length) [some (az af),some (lI ws),some (lI jL),some (.int (k:Nat)),x4,x5,x6,x7,x8] ⟨jL,_,_,_,_,_,_,l',u',rfl⟩
    exact⟨_,st',rfl,i1,by rw[fj,vt,Nat.mul_add];exact i2⟩) ⟨ws,none,none,none,none,none,none,hw,fun n m=>by have:=hu n m;simpa using this,rfl⟩
 obtain⟨jL,x3,x4,x5,x6,x7,x8,l',u',rfl⟩:=h2;refine⟨jL,?_,l',fun n m=>by have:=u' n m;simpa using this⟩;unfold gm;refine bw [some (az af),some (lI ws),none,none,none,none,none,none,none] ?_;rw[aE (st':=[some (az af),some (lI ws),some (lI ws),none,none,none,none,none,none]) (by simp[jl,lI,Ep]),
  aE (by rw[lS,Vo];exact h1)]
 rfl
end Pk
end Z0
section Z1
namespace Pk
open L2 Dm
variable (t:gQ)
def zV{af aA:List Cell}{ws:List Int}(hw:ws.length=af.length)(lp:aA.length<=50)(hs:∀c∈aA,c∈af):eU t [az af,lI ws,az aA] = .ok (.int (wsum af ws aA)):=by
 unfold eU;refine bw [some (az af),some (lI ws),some (az aA)] (d9 (tT (a:=.lst ((aA.map (gX af ws)).map D.int)) ?_ (zU _)));rw[cU];refine fT (ds:=aA.map cD) rfl (by simp;lia) ?_;exact comp_map (S:=fun x=>[some (cD x),some (lI ws),some (az af)]) (P:=fun st=>∃y,st=[y,some (lI ws),some (az af)]) aA (fun x _=>⟨_,rfl⟩) (fun x _ st ⟨y,e⟩=>by subst e;rfl) (fun x _=>rfl) (fun x hx=>W0 (bZ (a:=lI ws) (b:=.int (af.idxOf x:Nat)) rfl (qA rfl rfl (hs x hx)) (xS hw (hs x hx))) (BZ _)) _ ⟨none,rfl⟩
@[simp] theorem Z2 (l:List Int):cV (l.map D.int)=true:=dY fun d hd=>by obtain⟨c,_,rfl⟩:=aX.mp hd;exact BZ c
def Z3{f g:DF}{st:eY}{l:List Int}{a:Nat}(h1:f st = .ok (lI l))(h2:g st = .ok (.int (a:Int))):rg f none (some g) st = .ok (lI (l.take a)):=by
 simp[rg,iP,h1,h2,oU,lI]
def QC{f g:DF}{st:eY}{l:List Int}{a:Nat}(h1:f st = .ok (lI l))(h2:g st = .ok (.int (a:Int))):rg f (some g) none st = .ok (lI (l.drop a)):=by
 simp[rg,iP,h1,h2,xF,lI]
def QD{l m:List Int}(h:l.length+m.length<=1000):iU (lI l) (lI m) = .ok (lI (l++m)):=by
 unfold iU lI;dsimp only;rw[aU3 (by simp;lia)];simp
def Jl(x:Int){n:Nat}(h:0<n):∃a:Nat,a<n/\x % (n:Int)=a:=⟨(x % (n:Int)).toNat,by have:=Aw x (b:=(n:Int)) (by lia);have:=vG x (b:=(n:Int)) (by lia);lia,by have:=vG x (b:=(n:Int)) (by lia);lia⟩
def aQ8{f:DF}{st:eY}{d:D}(h:f st = .ok d):br 100 (aa f ao) st = .ok (.lst [d]):=by simp[h]
def L7{ns:List Int}(h:ns≠[]):uA [lI ns] = .ok (.int (rA ns)):=by
 unfold uA lI;dsimp only;rw[oY];cases ns with
 | nil=>exact aV5 rfl h
 | cons n ns=>rfl
end Pk
end Z1
section Z4
namespace Pk
open L2 Dm
variable (t:gQ)
def tS(l:List Cell):D:=.tup (l.map cD)
def HQ(neg:Bool)(c:Cell)(l:List Cell):gI neg (cD c) (tS l) = .ok (.bl (if neg then !decide (c∈l)else decide (c∈l))):=by
 have h:=fH neg c l;unfold gI az at h;unfold gI tS;exact h
def Z5(aA:List Cell)(p:dc):jd t [tS aA,lD p] = .ok (.bl (oV aA p)):=by
 unfold jd oV;refine bw [some (tS aA),some (lD p)] (d9 ?_);have g1:=HQ false p.1 aA;have g2:=HQ true p.2 aA;have g3:=HQ false (mid p.1 p.2) aA;by_cases h1:p.1∈aA <;> by_cases h2:p.2∈aA <;> simp[El,g1,g2,g3,h1,h2]
def QE(neg:Bool)(x a b:Cell):gI neg (cD x) (.tup [cD a,cD b]) = .ok (.bl (if neg then !(decide (a=x) || decide (b=x))else(decide (a=x) || decide (b=x)))):=by
 unfold gI;dsimp only;rw[aU3 (by simp[bW,jT])];simp
def L8{aA:List Cell}(p:dc)(hl:aA.length<=60):je t [tS aA,lD p] = .ok (az (bg aA p)):=by
 have hb:=El t p.1 p.2;have g1:(cC (iTp (ah 0)) 1 [2] (b5 0) (aB (gI true) (ah 0) (ah 1)) (aQ (ah 0))) [some (tS aA),some (lD p),some (.tup [cD p.1,cD (mid p.1 p.2)])] = .ok (az (left aA p)):=by
  refine fT (ds:=aA.map cD) rfl (by simp;lia) ?_;refine gO (S:=fun x=>[some (cD x),some (.tup [cD p.1,cD (mid p.1 p.2)])]) (P:=fun st=>∃y,st=[y,some (.tup [cD p.1,cD (mid p.1 p.2)])]) aA (fun x _=>⟨_,rfl⟩) (fun x _ st ⟨y,e⟩=>by subst e;rfl) (fun x _=>?_) (fun x _ _=>by simp) _ ⟨none,rfl⟩;refine bZ (a:=cD x) (b:=.tup [cD p.1,cD (mid p.1 p.2)]) rfl rfl ?_;rw[QE];have e1:decide (p.1=x)=decide (x=p.1):=by rw[jr];simp[eq_comm]
  have e2:decide (mid p.1 p.2=x)=decide (x=mid p.1 p.2):=by rw[jr];simp[eq_comm]
  rw[e1,e2];cases decide (x=p.1) <;> cases decide (x=mid p.1 p.2) <;> rfl
 have hle:(left aA p).length<=aA.length:=m6 ..;unfold je;refine bw [some (tS aA),some (lD p),none] ?_;rw[aE (st':=[some (tS aA),some (lD p),some (.tup [cD p.1,cD (mid p.1 p.2)])]) (by simp[hb])];refine d9 (tT (a:=az (left aA p++[p.2])) (bZ (a:=az (left aA p)) (b:=az [p.2]) g1 (by simp) (C5 (by simp;lia))) ?_);exact Jg (by simp;lia)
def oZ(af:List Cell)(s:List Cell):List (dc×List Cell):=(xJ af s).map fun p=>(p,bg s p)
def QF(af:List Cell):(aS af).length<=4*af.length:=by
 have h4:∀a,((EK af a).map fun b=>(a,b)).length<=4:=fun a=>by rw[bL];exact f9 (m6 ..) (by simp[four])
 have:=v5 (fun a=>(EK af a).map fun b=>(a,b)) 4 af fun a _=>h4 a;unfold aS;lia
def zW(l:List Cell):kr [az l] = .ok (tS l):=by
 unfold kr az tS;dsimp only;rw[aU3 (dY fun d hd=>by obtain⟨c,_,rfl⟩:=aX.mp hd;unfold cD;simp[fU,cV])]
def UK{af s:List Cell}(hl:af.length<=200)(ls:s.length<=60):iQ t [gJ (aS af),tS s] = .ok (.lst ((oZ af s).map fun q=>.tup [lD q.1,tS q.2])):=by
 have e:(oZ af s).map (fun q=>D.tup [lD q.1,tS q.2])=((aS af).filter (oV s)).map fun p=>D.tup [lD p,tS (bg s p)]:=by unfold oZ xJ;rw[cU];rfl
 rw[e];unfold iQ;refine bw [some (gJ (aS af)),some (tS s)] (d9 (fT (ds:=(aS af).map lD) rfl ?_ ?_));rw[bL];have:=QF af;lia;exact gO (S:=fun x=>[some (lD x),some (tS s)]) (P:=fun st=>∃y,st=[y,some (tS s)]) (aS af) (fun x _=>⟨_,rfl⟩) (fun x _ st ⟨y,e⟩=>by subst e;rfl) (fun x _=>by simp[Z5]) (fun x _ _=>by
  have n1:fU (lD x)=true:=by unfold lD cD;simp[fU,cV]
  have n2:∀ds,pO (.tup (lD x::ds))=true:=fun _=>rfl;simp[L8 t x ls,zW,n1,n2]) _ ⟨none,rfl⟩
def kS(s:List Cell):List (List Int):=s.map fun c=>[c.1,c.2]
theorem QG:∀{a b:List Cell},kS a=kS b->a=b
 | [],[],_=>rfl
 | [],_::_,h=>by cases h
 | _::_,[],h=>by cases h
 | x::a,y::b,h=>by
  unfold kS at h;rw[bh,bh]at h;injection h with h1 h2;injection h1 with h3 h4;injection h4 with h5 _;rw[QG (a:=a) (b:=b) h2];obtain⟨x1,x2⟩:=x;obtain⟨y1,y2⟩:=y;dsimp only at h3 h5;rw[h3,h5]
theorem Ez:∀(s:List Cell),kZ (s.map cD)=some (kS s)
 | []=>rfl
 | c::s=>by
  rw[bh,kZ,Ez s];rfl
def Ca(s:List Cell):wW (tS s)=some (kS s):=Ez s
end Pk
end Z4
section Z6
namespace Pk
open L2 Dm
theorem pI:∀{af s:List Cell},bA af->bA s->(∀c∈s,c∈af)->s.Sublist af
 | _,[],_,_,_=>List.nil_sublist _
 | [],a::s,_,_,h=>by cases h a (.head _)
 | x::r,a::s,hc,hs,h=>by
  have rS:=vC.mp hc;have JN:=vC.mp hs;by_cases e:a=x;subst e;refine List.Sublist.cons_cons a (pI rS.2 JN.2 fun c m=>?_);rcases bD.mp (h c (.tail _ m))with rfl|m';exact aV5 (JN.1 _ m) (mL _);exact m';have ha:a∈r:=(bD.mp (h a (.head _))).resolve_left e;refine List.Sublist.cons x (pI rS.2 hs fun c m=>?_);rcases bD.mp (h c m)with rfl|m';rcases bD.mp m with z|m2;exact aV5 z.symm e;exact aV5 (zP (rS.1 _ ha) (JN.1 _ m2)) (mL _);exact m'
def subs:List Cell->List (List Cell)
 | []=>[[]]
 | c::l=>(subs l).map (c :: ·)++subs l
theorem EA:∀l,(subs l).length=2 ^ l.length
 | []=>rfl
 | c::l=>by rw[subs,fj,bL,EA l,cI,LN];lia
theorem xU:∀{l s:List Cell},s.Sublist l->s∈subs l
 | _,_,.slnil=>by simp[subs]
 | _,_,.cons c h=>by rw[subs];exact mT _ (xU h)
 | _,_,.cons_cons c h=>by rw[subs];exact Cm _ (aX.mpr ⟨_,xU h,rfl⟩)
theorem len_sub:∀{l m:List (List Cell)},l.Nodup->(∀x∈l,x∈m)->l.length<=m.length
 | [],_,_,_=>ie _
 | a::l,m,hn,h=>by
  have AJ:=jN.mp hn;have ha:a∈m:=h a (.head _);have:=len_sub (l:=l) (m:=m.erase a) AJ.2 fun x hx=>(Mq fun e=>AJ.1 (by rw[<- e];exact hx)).mpr (h x (.tail _ hx));rw[Mr ha]at this;have pos:0<m.length:=FE ha;rw[cI];lia
theorem xV:∀(a b:List Cell),dM (a.map cD) (b.map cD)=decide (a=b)
 | [],[]=>by simp[dM]
 | [],_::_=>by simp[dM]
 | _::_,[]=>by simp[dM]
 | x::a,y::b=>by
  rw[bh,bh,dM,xV a b];have:gP (cD x) (cD y)=decide (x=y):=by obtain⟨x1,x2⟩:=x;obtain⟨y1,y2⟩:=y;unfold cD;simp only[gP,dM,sN];rw[jr];simp
  rw[this,jr];simp
def Jm(a b:List Cell):gP (az a) (az b)=decide (a=b):=by unfold az;rw[gP];exact xV a b
def bR(F:List (List Cell)):D:=.lst (F.map az)
def mR(neg:Bool)(s:List Cell)(F:List (List Cell)):gI neg (az s) (bR F) = .ok (.bl (if neg then !decide (s∈F)else decide (s∈F))):=by
 have fl:∀a:List Cell,flat (az a)=true:=fun a=>by unfold az;rw[flat];exact iJ fun d hd=>by obtain⟨c,_,rfl⟩:=aX.mp hd;unfold cD;simp[flat,bW]
 have dp:∀a:List Cell,dep (az a)<=2:=fun a=>by have:=rN a;unfold az;rw[dep];lia
 unfold gI bR;dsimp only;rw[aU3 (by
  simp only[bM,aU8];refine⟨⟨fl s,iJ fun d hd=>by obtain⟨c,_,rfl⟩:=aX.mp hd;exact fl c⟩,f9 (qV (n:=2) fun d hd=>by obtain⟨c,_,rfl⟩:=aX.mp hd;exact dp c) (by decide)⟩)]
 have e:(F.map az).any (fun e=>gP e (az s))=decide (s∈F):=by rw[Mu,jr,Mv,decide_eq_true_iff];constructor;rintro⟨x,hx,h⟩;have h:gP (az x) (az s)=true:=h;rw[Jm,decide_eq_true_iff]at h;exact h▸hx;intro h;exact⟨s,h,by show gP (az s) (az s)=true;rw[Jm];simp⟩
 rw[e]
variable (t:gQ)
def W5(af s u:List Cell):Prop:=∃row,zR af s row/\mY s row=u
def W5.kI{af s u:List Cell}(S:cF af s)(h:W5 af s u):cF af u:=by
 obtain⟨row,ok,e⟩:=h;rw[<- e];exact S.row ok
def W5.snoc{af s u:List Cell}(h:W5 af s u){p:dc}(hp:p∈xJ af u):W5 af s (bg u p):=by
 obtain⟨row,ok,e⟩:=h;subst e;exact⟨row++[p],Jh ok hp,L4 ..⟩
def ax8(af:List Cell):Prop:=∀F:List (List Cell),F.Nodup->(∀s∈F,cF af s)->F.length<=1024
def v9{af:List Cell}(up:bA af)(hl:af.length<=10):ax8 af:=fun F nd h=>by
 have h1:=len_sub nd fun s m=>xU (pI up (h s m).1 (h s m).2);rw[EA]at h1;have h2:2 ^ af.length<=2 ^ 10:=LW (by decide) hl;have:(2:Nat) ^ 10=1024:=rfl;lia
structure La(af aA:List Cell)(F:List (List Cell)):Prop where
 nd:F.Nodup
 UL:∀s∈F,W5 af aA s
 hd:aA∈F
def EB(t:gQ):DS:=(aU (bC 5 (aY (bY t) (aa (aB bH (ah 2) (ah 3)) (aa (ah 4) ao))))
 (Dm.bz (aB (gI true) (ah 5) (ah 2))
 (iT 2 (ah 5))
 aR))
def Cc{F:List (List Cell)}{a:Nat}{s:List Cell}(h:F[a]?=some s):bH (bR F) (.int (a:Int)) = .ok (az s):=rO (by rw[cG,h];rfl)
def EC{af aA s:List Cell}(mn:ax8 af)(S:cF af aA)(ls:s.length<=60){a:Nat}(ps:List dc)(hp:∀p∈ps,p∈xJ af s){F:List (List Cell)}(hs:F[a]?=some s)(I:La af aA F)(y z:Option D) :
  ∃F' y' z',dG (b5 4) (EB t) (ps.map lD) [some (az af),some (az aA),some (bR F),some (.int (a:Nat)),y,z]=
   .nx [some (az af),some (az aA),some (bR F'),some (.int (a:Nat)),y',z']/\La af aA F'/\F <+: F'/\∀p∈ps,bg s p∈F':=by
 obtain⟨st',h1,F',y',z',h2,h3,h4,h5⟩:=l6 (bind:=b5 4) (F:=EB t) (f:=lD)
  (Q:=fun pre st=>∃F' y z,st=[some (az af),some (az aA),some (bR F'),some (.int (a:Nat)),y,z]/\La af aA F'/\F <+: F'/\∀p∈pre,bg s p∈F') ps [] [some (az af),some (az aA),some (bR F),some (.int (a:Nat)),y,z] (fun pre x r e st ⟨M,y,z,hy,hI,CG,pN⟩=>by
  subst hy
  rw[gF]at e
  have mx:x∈ps:=by rw[e];simp
  have hM:M[a]?=some s:=by
   obtain⟨T,rfl⟩:=CG
   rw[kR (fV.mp hs).1];exact hs
  have hb:(aY (bY t) (aa (aB bH (ah 2) (ah 3)) (aa (ah 4) ao))) [some (az af),some (az aA),some (bR M),some (.int (a:Nat)),some (lD x),z] = .ok (az (bg s x)):=
   oS (a:=az s) (b:=lD x) (bZ (a:=bR M) (b:=.int (a:Nat)) rfl rfl (Cc hM)) rfl (zT t x ls)
  refine⟨[some (az af),some (az aA),some (bR M),some (.int (a:Nat)),some (lD x),z],?_⟩
  have g:=mR true (bg s x) M
  by_cases Qk:bg s x∈M
  ·refine⟨[some (az af),some (az aA),some (bR M),some (.int (a:Nat)),some (lD x),some (az (bg s x))],rfl,?_,M,_,_,rfl,hI,CG,fun p m=>?_⟩
   ·unfold EB
    rw[aE (d8 hb)]
    rw[aU5 Qk]at g
    rw[gu (bZ (a:=az (bg s x)) (b:=bR M) rfl rfl g)]
    rfl
   ·rcases gW.mp m with m|m
    ·exact pN p m
    ·obtain rfl:=eG.mp m;exact Qk
  ·have JN:s∈M:=jO hM
   have hR:W5 af aA (bg s x):=(hI.UL s JN).snoc (hp x mx)
   refine⟨[some (az af),some (az aA),some (bR (M++[bg s x])),some (.int (a:Nat)),some (lD x),some (az (bg s x))],rfl,?_,M++[bg s x],_,_,rfl,⟨?_,fun u m=>?_,Cm _ hI.hd⟩,?_,fun p m=>?_⟩
   ·unfold EB
    rw[aE (d8 hb)]
    rw[aU6 Qk]at g
    rw[ia (bZ (a:=az (bg s x)) (b:=bR M) rfl rfl g)]
    have hlen:=mn M hI.nd fun u m=>(hI.UL u m).kI S
    unfold iT bR
    show(if(M.map az).length<=5000 then _ else _)=_
    rw[aU3 (by rw[bL];lia),qg]
    rfl
   ·rw[FG]
    exact⟨hI.nd,by simp,fun u hu v hv e=>by obtain rfl:=eG.mp hv;subst e;exact Qk hu⟩
   ·rcases gW.mp m with m|m
    ·exact hI.UL u m
    ·obtain rfl:=eG.mp m;exact hR
   ·exact CG.trans (List.prefix_append ..)
   ·rcases gW.mp m with m|m
    ·exact Cm _ (pN p m)
    ·obtain rfl:=eG.mp m;exact mT _ (.head _)) ⟨F,y,z,rfl,I,List.prefix_refl _,fun p m=>nomatch m⟩
 rw[gF]at h5;subst h2;exact⟨F',y',z',h1,h3,h4,h5⟩
def QH:DF:=aB rV (ah 3) (aY dQ (aa (ah 2) ao))
def UM(t:gQ):DS:=(aU (cy (bU (aY (ez t) (aa (ah 0) (aa (aB bH (ah 2) (ah 3)) ao)))) (b5 4) (EB t)) (bC 3 (aB cW (ah 3) (dC (.int 1)))))
theorem xW{af aA:List Cell}(up:bA af)(hl:af.length<=10)(jJ:(aS af).length<64)(S:cF af aA)(lp:aA.length<=60):∀(fuel a:Nat) (F:List (List Cell)) (y z:Option D),La af aA F->a<=F.length->1024<a+fuel->(∀j s,j<a->F[j]?=some s->∀p∈xJ af s,bg s p∈F)->
  ∃F' x y' z',uB QH (UM t) fuel [some (az af),some (az aA),some (bR F),some (.int (a:Nat)),y,z] = .nx [some (az af),some (az aA),some (bR F'),x,y',z']/\La af aA F'/\∀s∈F',∀p∈xJ af s,bg s p∈F'
 | 0,a,F,y,z,I,ha,hf,_=>by
  have:=v9 up hl F I.nd fun u m=>(I.UL u m).kI S;lia
 | fuel+1,a,F,y,z,I,ha,hf,hd=>by
  have ht:QH [some (az af),some (az aA),some (bR F),some (.int (a:Nat)),y,z] = .ok (.bl (decide (a<F.length))):=by
   refine(bZ (a:=.int (a:Nat)) (b:=.int (F.length:Nat)) rfl (tT (a:=bR F) rfl ?_) rfl).trans ?_;unfold bR;rw[Q5,bL];have:decide (((a:Nat):Int)<((F.length:Nat):Int))=decide (a<F.length):=by rw[jr];simp
   rw[Q4,this]
  rw[uB,ht];by_cases gh:a<F.length;rw[aU5 gh];dsimp only;have hs:F[a]?=some F[a]:=c7 gh;generalize F[a]=s at hs;have hR:W5 af aA s:=I.UL s (jO hs);have Ss:=hR.kI S;have ls:s.length<=60:=by obtain⟨row,ok,e⟩:=hR;have:=(xQ S.1 S.2 ok).2.2.2;rw[e]at this;lia
  obtain⟨F',y',z',h1,h2,h3,h4⟩:=EC t (v9 up hl) S ls (xJ af s) (fun p m=>m) hs I y z;have hi:bU (aY (ez t) (aa (ah 0) (aa (aB bH (ah 2) (ah 3)) ao))) [some (az af),some (az aA),some (bR F),some (.int (a:Nat)),y,z] = .ok ((xJ af s).map lD):=by unfold bU;rw[oS (a:=az af) (b:=az s) rfl (bZ (a:=bR F) (b:=.int (a:Nat)) rfl rfl (Cc hs)) (Jf t up (by lia) jJ)]
  have hb:UM t [some (az af),some (az aA),some (bR F),some (.int (a:Nat)),y,z] = .nx [some (az af),some (az aA),some (bR F'),some (.int ((a+1:Nat))),y',z']:=by unfold UM;rw[aE (F:=cy _ _ _) (by unfold cy;rw[hi];exact h1)];exact d8 rfl
  rw[hb];dsimp only;have sW:=h3.length_le;refine xW up hl jJ S lp fuel (a+1) F' y' z' h2 (by lia) (by lia) fun j u hj hu p hp=>?_;have hu':F[j]?=some u:=by obtain⟨T,rfl⟩:=h3;rw[kR (by lia)]at hu;exact hu
  by_cases e:j=a;subst e;rw[hs]at hu';cases hu';exact h4 p hp;exact h3.subset (hd j u (by lia) hu' p hp);rw[aU6 gh];refine⟨F,_,_,_,rfl,I,fun s m p hp=>?_⟩;obtain⟨j,hj,e⟩:=List.getElem_of_mem m;exact hd j s (by lia) (by rw[c7 hj,e]) p hp
def Jo{af aA:List Cell}(up:bA af)(hl:af.length<=10)(jJ:(aS af).length<64)(S:cF af aA)(lp:aA.length<=60):∃F,eE t [az af,az aA] = .ok (bR F)/\La af aA F/\∀s∈F,∀p∈xJ af s,bg s p∈F:=by
 obtain⟨F,x,y,z,h1,h2,h3⟩:=xW t up hl jJ S lp 5000 0 [aA] none none ⟨by simp,fun s m=>by obtain rfl:=eG.mp m;exact⟨[],trivial,rfl⟩,.head _⟩ (by simp) (by decide) (fun j s hj=>by lia);refine⟨F,?_,h2,h3⟩;unfold eE;refine bw [some (az af),some (az aA),none,none,none,none] ?_;rw[aE (st':=[some (az af),some (az aA),some (bR [aA]),none,none,none]) (d8 (by simp[bR])),
  aE (st':=[some (az af),some (az aA),some (bR [aA]),some (.int (0:Nat)),none,none]) (d8 rfl)]
 show aU (uB QH (UM t) 5000) _ _=_;rw[aE h1];exact d9 rfl
end Pk
end Z6
section Z9
namespace Pk
open L2 Dm
variable (t:gQ)
def dj(up:bA af)(S:cF af s):s.length<=af.length:=(pI up S.1 S.2).length_le
def up_eq{a b:List Cell}(ha:bA a)(hb:bA b)(h:∀c,c∈a↔c∈b):a=b:=
 FZ (fun _ _ _ _ h1 h2=>aV5 h2 (oR h1)) ha hb ((Ai ha.nodup hb.nodup).mpr h)
def ED(up:bA l):l.filter (fun c=>decide (c∈s))=s↔cF l s:=
 ⟨fun e=>by
  have h:=kT (p:=fun c=>decide (c∈s)) (l:=l);rw[e]at h;exact .sub up h,fun S=>up_eq (up.sublist kT) S.1 fun c=>by
  rw[pS,decide_eq_true_iff];exact⟨fun h=>h.2,fun h=>⟨S.2 c h,h⟩⟩⟩
def fn4{g:List D->R D}{f1 f2 f3 f4:DF}{st:eY}(h1:f1 st = .ok a)(h2:f2 st = .ok b)(h3:f3 st = .ok c)(h4:f4 st = .ok e)(h:g [a,b,c,e]=r):aY g (aa f1 (aa f2 (aa f3 (aa f4 ao)))) st=r:=by simp[h1,h2,h3,h4,h]
def xX{f:DF}(h:f st = .ok (.lst ds)):bU f st = .ok ds:=by rw[aw8,h]
def Jp(t:gQ)(l g u:List Cell)(p:D):Prop:=∃b:Bool,kM t [bB l,az g,az u,p] = .ok (.bl b)/\cZ t [az l,az g,az u,p] = .ok (.bl b)
def UN(S:cF l g)(Su:cF l u)(lg:g.length<=50)(lu:u.length<=50):Jp t l g u (.tup [.str "class"]):=by
 have c1:=(iS t (af:=l) (aA:=g) lg).1 S;have c2:=(iS t (af:=l) (aA:=u) lu).1 Su;refine⟨!decide (rP g=rP u),?_,?_⟩;unfold kM;refine bw [some (bB l),some (az g),some (az u),some (.tup [.str "class"])] ?_;rw[aE (mO (oS (a:=bB l) (b:=az g) rfl rfl c1)),aE (mO (oS (a:=bB l) (b:=az u) rfl rfl c2))];refine eV ?_;rw[ia (bZ (a:=.str "class") (b:=.str "class") rfl rfl rfl)];exact d9 (bZ (a:=C7 g) (b:=C7 u) (oS (a:=bB l) (b:=az g) rfl rfl (Jk t lg S)) (oS (a:=bB l) (b:=az u) rfl rfl (Jk t lu Su)) (by rw[Es];rfl));unfold cZ;refine bw [some (az l),some (az g),some (az u),some (.tup [.str "class"]),none,none,none] (eV ?_);rw[ia (bZ (a:=.str "class") (b:=.str "class") rfl rfl rfl)];exact d9 (bZ (a:=C7 g) (b:=C7 u) (tT (a:=az g) rfl (Et t lg)) (tT (a:=az u) rfl (Et t lu)) (by rw[Es];rfl))
def Za(hs:∀s∈G,s.length<=50):((∀s∈G,cF l s)->dz t [bB l,bR G] = .ok (.bl true))/\(¬ (∀s∈G,cF l s)->dz t [bB l,bR G] = .ok (.bl false)):=by
 have loop:=jf (bind:=b5 2) (F:=(jE (aY (c8 t) (aa (ah 0) (aa (ah 2) ao))))) (f:=az) (Q:=fun st=>∃x,st=[some (bB l),some (bR G),x]) (p:=fun s=>cF l s) (S:=fun o=>∃s,o = .ex t.cX none s) (fun o zz=>by obtain⟨s,e⟩:=zz;subst e;trivial) G [some (bB l),some (bR G),none] (fun s m st zz=>by
  obtain⟨x,rfl⟩:=zz;have hc:=iS t (af:=l) (aA:=s) (hs s m);refine⟨[some (bB l),some (bR G),some (az s)],rfl,fun h=>⟨_,mO (oS (a:=bB l) (b:=az s) rfl rfl (hc.1 h)),some (az s),rfl⟩,fun h=>⟨_,Jb (oS (a:=bB l) (b:=az s) rfl rfl (hc.2 h))⟩⟩) ⟨none,rfl⟩
 have hf:cy (bU (ah 1)) (b5 2) (jE (aY (c8 t) (aa (ah 0) (aa (ah 2) ao)))) [some (bB l),some (bR G),none]=dG (b5 2) (jE (aY (c8 t) (aa (ah 0) (aa (ah 2) ao)))) (G.map az) [some (bB l),some (bR G),none]:=by unfold cy;rw[xX (f:=ah 1) (ds:=G.map az) rfl]
 refine⟨fun h=>?_,fun h=>?_⟩;obtain⟨st',h1,_⟩:=loop.1 h;unfold dz;refine bw [some (bB l),some (bR G),none] ?_;rw[aE (F:=wC _ _ _ _) (st':=st') (by unfold wC;rw[hf,h1])];exact d9 rfl;obtain⟨st',h1⟩:=loop.2 h;unfold dz;refine bw [some (bB l),some (bR G),none] (eV ?_);unfold wC;rw[hf,h1];dsimp only;rw[aU3 (by simp[mH,ur])];rfl
def dB(G:List (List Cell)):List D:=G.flatMap fun s=>[tS s,.bl true]
def W6(G:List (List Cell)):List (List (List Int)×D×D):=G.map fun s=>(kS s,tS s,.bl true)
theorem xY:∀G,gr (dB G)=some (W6 G)
 | []=>rfl
 | s::G=>by
  show gr (tS s :: .bl true::dB G)=_;rw[gr,Ca,xY G];rfl
def zX(G:List (List Cell)):l5 (some (some (.dH 2 (dB G))))=some (dB G,W6 G):=wY rfl (xY G)
def Jq(G:List (List Cell))(b:List Cell):((W6 G).map (·.1)).any (fun k=>decide (k=kS b))=decide (b∈G):=by
 unfold W6;rw[cU,Mu,jr,Mv,decide_eq_true_iff];exact⟨fun zz=>by obtain⟨x,m,e⟩:=zz;rw[<- QG (aU9 e)];exact m,fun m=>⟨b,m,aU5 rfl⟩⟩
def UO(neg:Bool)(b:List Cell)(G:List (List Cell)):rB neg (tS b) (.dH 2 (dB G)) = .ok (.bl (if neg then !decide (b∈G)else decide (b∈G))):=by
 simp only[rB,Ca,xY,Jq]
def UP(G:List (List Cell))(s:List Cell):dB (G++[s])=dB G++[tS s,.bl true]:=by unfold dB;rw[Ak];rfl
theorem QI(b:List Cell):∀(G:List (List Cell)),DJ (kS b) (.bl true) (dB G)=dB G
 | []=>rfl
 | z::G=>by
  show DJ (kS b) (.bl true) (tS z :: .bl true::dB G)=tS z :: .bl true::dB G;rw[DJ,QI b G];split <;> rfl
def Clo(l:List Cell)(G:List (List Cell)):Prop:=∀s∈G,∀p∈xJ l s,bg s p∈G
def HR(up:bA l)(hl:l.length<=10)(lG:G.length<=4000)(hs:∀s∈G,cF l s):(Clo l G->jm t [bB l,bR G] = .ok (.bl true))/\(¬ Clo l G->jm t [bB l,bR G] = .ok (.bl false)):=by
 have kl:=Je t (af:=l) (by lia);obtain⟨st',h1,K,x,h2,nK,lK,mK⟩:=l6 (bind:=b5 4) (F:=zI 3 (aY kr (aa (ah 4) ao)) (dC (.bl true))) (f:=az) (Q:=fun pre st=>∃K x,st=[some (bB l),some (bR G),some (gJ (aS l)),some (.dH 2 (dB K)),x,none,none,none]/\K.Nodup/\K.length<=pre.length/\∀s,s∈K↔s∈pre) G [] [some (bB l),some (bR G),some (gJ (aS l)),some (.dH 2 (dB [])),none,none,none,none] (fun p s r e st zz=>by
  obtain⟨K,x,rfl,nK,lK,mK⟩:=zz;rw[gF]at e;have lp:p.length<=4000:=by have:=congrArg List.length e;rw[fj]at this;lia
  have ax9:∀y,zI 3 (aY kr (aa (ah 4) ao)) (dC (.bl true)) [some (bB l),some (bR G),some (gJ (aS l)),some (.dH 2 (dB K)),some (az s),none,none,none] = .nx [some (bB l),some (bR G),some (gJ (aS l)),some (.dH 2 y),some (az s),none,none,none]↔(if decide (s∈K)=true then DJ (kS s) (.bl true) (dB K)else dB K++[tS s,.bl true])=y:=fun y=>by unfold zI;show(match l5 (some (some (.dH 2 (dB K))))with|some z=>_|none=>_)=_↔_;rw[zX,tT (a:=az s) rfl (zW s)];show J1 3 _ (dB K,W6 K) (tS s) (.bl true)=_↔_;unfold J1 putD;rw[Ca];dsimp only;rw[aU3 ⟨by unfold W6;rw[bL];lia,rfl⟩,Jq];constructor;intro h;injection h with h;injection h with _ h;injection h with _ h;injection h with _ h;injection h with h _;injection h with h;injection h with _ h;intro h;rw[h];rfl
  by_cases Qk:s∈K;refine⟨[some (bB l),some (bR G),some (gJ (aS l)),some (.dH 2 (dB K)),some (az s),none,none,none],_,rfl,(ax9 (dB K)).mpr (by rw[aU3 (aU5 Qk),QI]),K,some (az s),rfl,nK,by rw[fj];lia,fun u=>?_⟩;rw[mK,gW,eG];exact⟨.inl,fun h=>h.elim id fun h=>by rw[h];exact(mK s).mp Qk⟩;refine⟨[some (bB l),some (bR G),some (gJ (aS l)),some (.dH 2 (dB K)),some (az s),none,none,none],_,rfl,(ax9 (dB (K++[s]))).mpr (by rw[aU4 (by rw[aU6 Qk];decide),UP]),K++[s],some (az s),rfl,?_,by rw[fj,fj];simp;lia,fun u=>?_⟩;rw[FG];exact⟨nK,by simp,fun u hu v hv e=>by rw[e,eG.mp hv]at hu;exact Qk hu⟩;rw[gW,gW,mK]) ⟨[],none,rfl,Fq,b9 _,fun s=>Iff.rfl⟩
 rw[gF]at mK;subst h2;have inner:∀s∈K,∀a b c,((∀q∈oZ l s,q.2∈K)->∃st',dG (ef 6 7) (Dm.bz (aB (rB true) (ah 7) (ah 3)) (bN (dC (.bl false))) aR) ((oZ l s).map fun q:dc×List Cell=>D.tup [lD q.1,tS q.2]) [some (bB l),some (bR G),some (gJ (aS l)),some (.dH 2 (dB K)),x,a,b,c] = .nx st'/\∃b c,st'=[some (bB l),some (bR G),some (gJ (aS l)),some (.dH 2 (dB K)),x,a,b,c])/\(¬ (∀q∈oZ l s,q.2∈K)->dG (ef 6 7) (Dm.bz (aB (rB true) (ah 7) (ah 3)) (bN (dC (.bl false))) aR) ((oZ l s).map fun q:dc×List Cell=>D.tup [lD q.1,tS q.2]) [some (bB l),some (bR G),some (gJ (aS l)),some (.dH 2 (dB K)),x,a,b,c] = .rt (.bl false)):=fun s ms a b c=>
  jf (bind:=ef 6 7) (F:=Dm.bz (aB (rB true) (ah 7) (ah 3)) (bN (dC (.bl false))) aR) (f:=fun q:dc×List Cell=>D.tup [lD q.1,tS q.2]) (Q:=fun st=>∃b c,st=[some (bB l),some (bR G),some (gJ (aS l)),some (.dH 2 (dB K)),x,a,b,c]) (p:=fun q=>q.2∈K) (S:=fun o=>o = .rt (.bl false)) (fun o e=>by subst e;trivial) (oZ l s) [some (bB l),some (bR G),some (gJ (aS l)),some (.dH 2 (dB K)),x,a,b,c] (fun q m st zz=>by
   obtain⟨b,c,rfl⟩:=zz
   have gi:=UO true q.2 K
   refine⟨[some (bB l),some (bR G),some (gJ (aS l)),some (.dH 2 (dB K)),x,a,some (lD q.1),some (tS q.2)],rfl,fun h=>⟨_,?_,some (lD q.1),some (tS q.2),rfl⟩,fun h=>?_⟩
   ·rw[aU5 h]at gi
    rw[gu (bZ (a:=tS q.2) (b:=.dH 2 (dB K)) rfl rfl gi)];rfl
   ·rw[aU6 h]at gi
    rw[ia (bZ (a:=tS q.2) (b:=.dH 2 (dB K)) rfl rfl gi)];rfl) ⟨b,c,rfl⟩
 have outer:=jf (bind:=b5 5) (F:=cy (bU (aY (iQ t) (aa (ah 2) (aa (ah 5) ao)))) (ef 6 7)
 (Dm.bz (aB (rB true) (ah 7) (ah 3))
 (bN (dC (.bl false)))
 aR)) (f:=tS) (Q:=fun st=>∃a b c,st=[some (bB l),some (bR G),some (gJ (aS l)),some (.dH 2 (dB K)),x,a,b,c]) (p:=fun s=>∀q∈oZ l s,q.2∈K) (S:=fun o=>o = .rt (.bl false)) (fun o e=>by subst e;trivial) K [some (bB l),some (bR G),some (gJ (aS l)),some (.dH 2 (dB K)),x,none,none,none] (fun s ms st zz=>by
  obtain⟨a,b,c,rfl⟩:=zz;have ls:=dj up (hs s ((mK s).mp ms));have pK:=UK t (af:=l) (s:=s) (by lia) (by lia);have hi:=xX (st:=[some (bB l),some (bR G),some (gJ (aS l)),some (.dH 2 (dB K)),x,some (tS s),b,c]) (oS (f1:=ah 2) (f2:=ah 5) (a:=gJ (aS l)) (b:=tS s) rfl rfl pK);have ii:=inner s ms (some (tS s)) b c;refine⟨[some (bB l),some (bR G),some (gJ (aS l)),some (.dH 2 (dB K)),x,some (tS s),b,c],rfl,fun h=>?_,fun h=>?_⟩;obtain⟨st',k1,b',c',rfl⟩:=ii.1 h;exact⟨_,by unfold cy;rw[hi];exact k1,some (tS s),b',c',rfl⟩;unfold cy;rw[hi];exact ii.2 h) ⟨none,none,none,rfl⟩
 have hC:Clo l G↔∀s∈K,∀q∈oZ l s,q.2∈K:=by unfold Clo oZ;refine⟨fun h s ms q mq=>?_,fun h s ms p hp=>?_⟩;obtain⟨p,hp,rfl⟩:=aX.mp mq;exact(mK _).mpr (h s ((mK s).mp ms) p hp);exact(mK _).mp (h s ((mK s).mpr ms) _ (aX.mpr ⟨p,hp,rfl⟩))
 have hi:DK (ah 3) [some (bB l),some (bR G),some (gJ (aS l)),some (.dH 2 (dB K)),x,none,none,none] = .ok (K.map tS):=by unfold DK;show(match l5 (some (some (.dH 2 (dB K))))with|some y=>_|none=>_)=_;rw[zX];show R.ok ((W6 K).map fun t=>t.2.1)=_;unfold W6;rw[cU];rfl
 rw[hC];refine⟨fun h=>?_,fun h=>?_⟩ <;> unfold jm <;> refine bw [some (bB l),some (bR G),none,none,none,none,none,none] ?_ <;>
  rw[aE (st':=[some (bB l),some (bR G),some (gJ (aS l)),none,none,none,none,none]) (d8 (tT (a:=bB l) rfl kl)),
   aE (st':=[some (bB l),some (bR G),some (gJ (aS l)),some (.dH 2 (dB [])),none,none,none,none]) (d8 rfl),
   aE (F:=cy (bU (ah 1)) (b5 4) _) (by unfold cy;rw[xX (f:=ah 1) (ds:=G.map az) rfl];exact h1)]
 obtain⟨st',k1,_⟩:=outer.1 h;unfold VU;rw[aE (F:=cy (DK (ah 3)) (b5 5) _) (by unfold cy;rw[hi];exact k1)];rfl;have k1:=outer.2 h;unfold VU;rw[eV (F:=cy (DK (ah 3)) (b5 5) _) (by unfold cy;rw[hi];exact k1)]
def Pap(l g u:List Cell)(G:List (List Cell)):Prop:=(g∈G/\u∉G)/\∀s∈G,cF l s/\∀p∈xJ l s,bg s p∈G
def Lb(up:bA l)(hl:l.length<=10)(lG:G.length<=4000)(hs:∀s∈G,s.length<=50):(Pap l g u G->fF t [bB l,az g,az u,bR G] = .ok (.bl true))/\(¬ Pap l g u G->fF t [bB l,az g,az u,bR G] = .ok (.bl false)):=by
 have hA:=Za t (l:=l) (G:=G) hs;have g1:=mR true g G;have g2:=mR false u G;unfold fF;by_cases hS:∀s∈G,cF l s;have hA:=hA.1 hS;have hC:=HR t up hl lG hS;by_cases h1:g∈G;rw[aU5 h1]at g1;by_cases h2:u∈G;rw[aU5 h2]at g2;refine⟨fun p=>aV5 h2 p.1.2,fun _=>bw [some (bB l),some (az g),some (az u),some (bR G)] (eV ?_)⟩;rw[ia (lU (xE (b:=true) (oS (a:=bB l) (b:=bR G) rfl rfl hA)) (lU (bZ (a:=az g) (b:=bR G) rfl rfl g1) (bZ (a:=az u) (b:=bR G) rfl rfl g2)))];rfl;rw[aU6 h2]at g2;have hn:∀F',aU (Dm.bz (GV (n9 (aY (dz t) (aa (ah 0) (aa (ah 3) ao)))) (GV (aB (gI true) (ah 1) (ah 3)) (aB (gI false) (ah 2) (ah 3)))) (bN (dC (.bl false))) aR) F' [some (bB l),some (az g),some (az u),some (bR G)]=F' [some (bB l),some (az g),some (az u),some (bR G)]:=fun F'=>aE (by
  rw[gu (lU (xE (b:=true) (oS (a:=bB l) (b:=bR G) rfl rfl hA)) (lU (bZ (a:=az g) (b:=bR G) rfl rfl g1) (bZ (a:=az u) (b:=bR G) rfl rfl g2)))];rfl)
 refine⟨fun p=>bw [some (bB l),some (az g),some (az u),some (bR G)] ?_,fun p=>bw [some (bB l),some (az g),some (az u),some (bR G)] ?_⟩;rw[hn];exact d9 (oS (a:=bB l) (b:=bR G) rfl rfl (hC.1 fun s m=>(p.2 s m).2));rw[hn];exact d9 (oS (a:=bB l) (b:=bR G) rfl rfl (hC.2 fun c=>p ⟨⟨h1,h2⟩,fun s m=>⟨hS s m,c s m⟩⟩));rw[aU6 h1]at g1;refine⟨fun p=>aV5 p.1.1 h1,fun _=>bw [some (bB l),some (az g),some (az u),some (bR G)] (eV ?_)⟩;rw[ia (lU (xE (b:=true) (oS (a:=bB l) (b:=bR G) rfl rfl hA)) (Eg (bZ (a:=az g) (b:=bR G) rfl rfl g1)))];rfl;have hA:=hA.2 hS;refine⟨fun p=>aV5 (fun s m=>(p.2 s m).1) hS,fun _=>bw [some (bB l),some (az g),some (az u),some (bR G)] (eV ?_)⟩;rw[ia (Eg (xE (b:=false) (oS (a:=bB l) (b:=bR G) rfl rfl hA)))];rfl
def Lc(up:bA l)(hl:l.length<=10)(jJ:(aS l).length<64):(Pap l g u G->cZ t [az l,az g,az u,.tup [.str "closed",bR G]] = .ok (.bl true))/\(¬ Pap l g u G->cZ t [az l,az g,az u,.tup [.str "closed",bR G]] = .ok (.bl false)):=by
 have g1:=mR true g G;have g2:=mR false u G;have inner:∀s,cF l s->∀(y z:Option D),((∀p∈xJ l s,bg s p∈G)->∃st',dG (b5 5) (Dm.bz (aB (gI true) (aY (bY t) (aa (ah 4) (aa (ah 5) ao))) (aB bH (ah 3) (dC (.int 1)))) (bN (dC (.bl false))) aR) ((xJ l s).map lD) [some (az l),some (az g),some (az u),some (.tup [.str "closed",bR G]),some (az s),y,z] = .nx st'/\∃y,st'=[some (az l),some (az g),some (az u),some (.tup [.str "closed",bR G]),some (az s),y,z])/\(¬ (∀p∈xJ l s,bg s p∈G)->dG (b5 5) (Dm.bz (aB (gI true) (aY (bY t) (aa (ah 4) (aa (ah 5) ao))) (aB bH (ah 3) (dC (.int 1)))) (bN (dC (.bl false))) aR) ((xJ l s).map lD) [some (az l),some (az g),some (az u),some (.tup [.str "closed",bR G]),some (az s),y,z] = .rt (.bl false)):=fun s Ss y z=>
  jf (bind:=b5 5) (F:=(Dm.bz (aB (gI true) (aY (bY t) (aa (ah 4) (aa (ah 5) ao))) (aB bH (ah 3) (dC (.int 1)))) (bN (dC (.bl false))) aR)) (f:=lD) (Q:=fun st=>∃y,st=[some (az l),some (az g),some (az u),some (.tup [.str "closed",bR G]),some (az s),y,z]) (p:=fun p=>bg s p∈G) (S:=fun o=>o = .rt (.bl false)) (fun o e=>by subst e;trivial) (xJ l s) [some (az l),some (az g),some (az u),some (.tup [.str "closed",bR G]),some (az s),y,z] (fun q mq st zz=>by
   obtain⟨y,rfl⟩:=zz
   have ls:=dj up Ss
   have gi:=mR true (bg s q) G
   have hb:=zT t (aA:=s) q (by lia)
   refine⟨[some (az l),some (az g),some (az u),some (.tup [.str "closed",bR G]),some (az s),some (lD q),z],rfl,fun h=>⟨_,?_,some (lD q),rfl⟩,fun h=>?_⟩
   ·rw[aU5 h]at gi
    rw[gu (bZ (a:=az (bg s q)) (b:=bR G) (oS (a:=az s) (b:=lD q) rfl rfl hb) rfl gi)];rfl
   ·rw[aU6 h]at gi
    rw[ia (bZ (a:=az (bg s q)) (b:=bR G) (oS (a:=az s) (b:=lD q) rfl rfl hb) rfl gi)];rfl) ⟨y,rfl⟩
 have outer:=jf (bind:=b5 4) (F:=(aU (Dm.bz (aB (eW true) (ah 4) (cC (bU (ah 0)) 1 [4] (b5 0) (aB (gI false) (ah 0) (ah 1)) (aQ (ah 0))))
 (bN (dC (.bl false)))
 aR)
 (cy (bU (aY (ez t) (aa (ah 0) (aa (ah 4) ao)))) (b5 5)
 (Dm.bz (aB (gI true) (aY (bY t) (aa (ah 4) (aa (ah 5) ao))) (aB bH (ah 3) (dC (.int 1))))
 (bN (dC (.bl false)))
 aR)))) (f:=az) (Q:=fun st=>∃x y z,st=[some (az l),some (az g),some (az u),some (.tup [.str "closed",bR G]),x,y,z]) (p:=fun s=>cF l s/\∀p∈xJ l s,bg s p∈G) (S:=fun o=>o = .rt (.bl false)) (fun o e=>by subst e;trivial) G [some (az l),some (az g),some (az u),some (.tup [.str "closed",bR G]),none,none,none] (fun s ms st zz=>by
  obtain⟨x,y,z,rfl⟩:=zz;refine⟨[some (az l),some (az g),some (az u),some (.tup [.str "closed",bR G]),some (az s),y,z],rfl,?_⟩;have ec:(cC (bU (ah 0)) 1 [4] (b5 0) (aB (gI false) (ah 0) (ah 1)) (aQ (ah 0))) [some (az l),some (az g),some (az u),some (.tup [.str "closed",bR G]),some (az s),y,z] = .ok (az (l.filter fun c=>decide (c∈s))):=by refine fT (ds:=l.map cD) rfl (by simp;lia) ?_;exact gO (S:=fun x=>[some (cD x),some (az s)]) (P:=fun st=>∃y,st=[y,some (az s)]) l (fun x _=>⟨_,rfl⟩) (fun x _ st zz=>by obtain⟨y,e⟩:=zz;subst e;rfl) (fun x _=>bZ (a:=cD x) (b:=az s) rfl rfl (by rw[fH];rfl)) (fun x _ _=>by simp) _ ⟨none,rfl⟩
  have et:(aB (eW true) (ah 4) (cC (bU (ah 0)) 1 [4] (b5 0) (aB (gI false) (ah 0) (ah 1)) (aQ (ah 0)))) [some (az l),some (az g),some (az u),some (.tup [.str "closed",bR G]),some (az s),y,z] = .ok (.bl (!decide (s=l.filter fun c=>decide (c∈s)))):=bZ (a:=az s) (b:=az _) rfl ec (by rw[C3];rfl);by_cases hS:cF l s;rw[aU5 ((ED up).mpr hS).symm]at et;have hi:=xX (st:=[some (az l),some (az g),some (az u),some (.tup [.str "closed",bR G]),some (az s),y,z]) (oS (f1:=ah 0) (f2:=ah 4) (a:=az l) (b:=az s) rfl rfl (Jf t (aA:=s) up (by lia) jJ));have ii:=inner s hS y z;refine⟨fun h=>?_,fun h=>?_⟩;obtain⟨st',k1,y',rfl⟩:=ii.1 h.2;refine⟨_,?_,some (az s),y',z,rfl⟩;rw[aE (st':=[some (az l),some (az g),some (az u),some (.tup [.str "closed",bR G]),some (az s),y,z]) (by rw[gu et];rfl)];unfold cy;rw[hi];exact k1;show _=_;rw[aE (st':=[some (az l),some (az g),some (az u),some (.tup [.str "closed",bR G]),some (az s),y,z]) (by rw[gu et];rfl)];unfold cy;rw[hi];exact ii.2 fun z=>h ⟨hS,z⟩;rw[aU6 fun e=>hS ((ED up).mp e.symm)]at et;refine⟨fun h=>aV5 h.1 hS,fun _=>eV ?_⟩;rw[ia et];rfl) ⟨none,none,none,rfl⟩
 have top:∀(F':DS) (d:D),(aU (Dm.bz (GV (aB (gI true) (ah 1) (aB bH (ah 3) (dC (.int 1)))) (aB (gI false) (ah 2) (aB bH (ah 3) (dC (.int 1)))))
 (bN (dC (.bl false)))
 aR)
 (aU (cy (bU (aB bH (ah 3) (dC (.int 1)))) (b5 4)
 (aU (Dm.bz (aB (eW true) (ah 4) (cC (bU (ah 0)) 1 [4] (b5 0) (aB (gI false) (ah 0) (ah 1)) (aQ (ah 0))))
 (bN (dC (.bl false)))
 aR)
 (cy (bU (aY (ez t) (aa (ah 0) (aa (ah 4) ao)))) (b5 5)
 (Dm.bz (aB (gI true) (aY (bY t) (aa (ah 4) (aa (ah 5) ao))) (aB bH (ah 3) (dC (.int 1))))
 (bN (dC (.bl false)))
 aR))))
 (bN (dC (.bl true))))) [some (az l),some (az g),some (az u),some (.tup [.str "closed",bR G]),none,none,none] = .rt d->cZ t [az l,az g,az u,.tup [.str "closed",bR G]] = .ok d:=fun _ d h=>by
  unfold cZ;refine bw [some (az l),some (az g),some (az u),some (.tup [.str "closed",bR G]),none,none,none] ?_;rw[aE (st':=[some (az l),some (az g),some (az u),some (.tup [.str "closed",bR G]),none,none,none]) (by rw[gu (bZ (a:=.str "closed") (b:=.str "class") rfl rfl rfl)];rfl)];refine eV ?_;rw[ia (bZ (a:=.str "closed") (b:=.str "closed") rfl rfl rfl)];exact h
 by_cases h1:g∈G;rw[aU5 h1]at g1;by_cases h2:u∈G;rw[aU5 h2]at g2;refine⟨fun p=>aV5 h2 p.1.2,fun _=>top aR _ (eV ?_)⟩;rw[ia (lU (bZ (a:=az g) (b:=bR G) rfl rfl g1) (bZ (a:=az u) (b:=bR G) rfl rfl g2))];rfl;rw[aU6 h2]at g2;refine⟨fun p=>top aR _ ?_,fun p=>top aR _ ?_⟩;obtain⟨st',k1,_⟩:=outer.1 p.2;rw[aE (st':=[some (az l),some (az g),some (az u),some (.tup [.str "closed",bR G]),none,none,none]) (by rw[gu (lU (bZ (a:=az g) (b:=bR G) rfl rfl g1) (bZ (a:=az u) (b:=bR G) rfl rfl g2))];rfl),
  aE (F:=cy (bU (aB bH (ah 3) (dC (.int 1)))) (b5 4) _) (by unfold cy;rw[xX (ds:=G.map az) (bZ (f1:=ah 3) (a:=.tup [.str "closed",bR G]) (b:=.int 1) rfl rfl rfl)];exact k1)]
 exact d9 rfl;have k1:=outer.2 fun z=>p ⟨⟨h1,h2⟩,z⟩;rw[aE (st':=[some (az l),some (az g),some (az u),some (.tup [.str "closed",bR G]),none,none,none]) (by rw[gu (lU (bZ (a:=az g) (b:=bR G) rfl rfl g1) (bZ (a:=az u) (b:=bR G) rfl rfl g2))];rfl),
  eV (F:=cy (bU (aB bH (ah 3) (dC (.int 1)))) (b5 4) _) (by unfold cy;rw[xX (ds:=G.map az) (bZ (f1:=ah 3) (a:=.tup [.str "closed",bR G]) (b:=.int 1) rfl rfl rfl)];exact k1)]
 rw[aU6 h1]at g1;refine⟨fun p=>aV5 p.1.1 h1,fun _=>top aR _ (eV ?_)⟩;rw[ia (Eg (bZ (a:=az g) (b:=bR G) rfl rfl g1))];rfl
def UQ(up:bA l)(hl:l.length<=10)(jJ:(aS l).length<64)(S:cF l g)(Su:cF l u)(lG:G.length<=4000)(hs:∀s∈G,s.length<=50):Jp t l g u (.tup [.str "closed",bR G]):=by
 have lg:=dj up S;have lu:=dj up Su;have c1:=(iS t (af:=l) (aA:=g) (by lia)).1 S;have c2:=(iS t (af:=l) (aA:=u) (by lia)).1 Su;have h1:=Lb t (g:=g) (u:=u) up hl lG hs;have h2:=Lc t (g:=g) (u:=u) (G:=G) up hl jJ;have top:∀d,fF t [bB l,az g,az u,bR G] = .ok d->kM t [bB l,az g,az u,.tup [.str "closed",bR G]] = .ok d:=fun d hK=>by
  unfold kM;refine bw [some (bB l),some (az g),some (az u),some (.tup [.str "closed",bR G])] ?_;rw[aE (mO (oS (a:=bB l) (b:=az g) rfl rfl c1)),aE (mO (oS (a:=bB l) (b:=az u) rfl rfl c2)),
   aE (st':=[some (bB l),some (az g),some (az u),some (.tup [.str "closed",bR G])]) (by rw[gu (bZ (a:=.str "closed") (b:=.str "class") rfl rfl rfl)];rfl),
   aE (st':=[some (bB l),some (az g),some (az u),some (.tup [.str "closed",bR G])]) (by rw[gu (bZ (a:=.str "closed") (b:=.str "weights") rfl rfl rfl)];rfl)]
  exact d9 (fn4 (a:=bB l) (b:=az g) (c:=az u) (e:=bR G) rfl rfl rfl rfl hK)
 by_cases h:Pap l g u G;exact⟨true,top _ (h1.1 h),h2.1 h⟩;exact⟨false,top _ (h1.2 h),h2.2 h⟩
end Pk
end Z9
section Zb
namespace Pk
open L2 Dm
variable (t:gQ)
def Ld{ns:List Int}(h:ns≠[]):uC [lI ns] = .ok (.int (rD ns)):=by
 unfold uC lI;dsimp only;rw[oY];cases ns with
 | nil=>exact aV5 rfl h
 | cons n ns=>rfl
def UR(up:bA l)(hl:l.length<=10)(jJ:(aS l).length<64)(S:cF l g)(Su:cF l u)(ne:ws≠[]):Jp t l g u (.tup [.str "weights",lI ws]):=by
 have lg:=dj up S;have lu:=dj up Su;have c1:=(iS t (af:=l) (aA:=g) (by lia)).1 S;have c2:=(iS t (af:=l) (aA:=u) (by lia)).1 Su;have aQ9:=L7 ne;have aR0:=Ld ne;have top:∀d,gM t [bB l,az g,az u,lI ws] = .ok d->kM t [bB l,az g,az u,.tup [.str "weights",lI ws]] = .ok d:=fun d hK=>by
  unfold kM;refine bw [some (bB l),some (az g),some (az u),some (.tup [.str "weights",lI ws])] ?_;rw[aE (mO (oS (a:=bB l) (b:=az g) rfl rfl c1)),aE (mO (oS (a:=bB l) (b:=az u) rfl rfl c2)),
   aE (st':=[some (bB l),some (az g),some (az u),some (.tup [.str "weights",lI ws])]) (by rw[gu (bZ (a:=.str "weights") (b:=.str "class") rfl rfl rfl)];rfl)]
  refine eV ?_;rw[ia (bZ (a:=.str "weights") (b:=.str "weights") rfl rfl rfl)];exact d9 (fn4 (a:=bB l) (b:=az g) (c:=az u) (e:=lI ws) rfl rfl rfl rfl hK)
 have ay0:∀d,(aU (Dm.bz (GV (aB (eW true) (aY dQ (aa (ah 6) ao)) (aY dQ (aa (ah 0) ao))) (GV (aB rV (aY uA (aa (ah 6) ao)) (lV yi (dC (.int 1000)))) (aB GW (aY uC (aa (ah 6) ao)) (dC (.int 1000)))))
 (bN (dC (.bl false)))
 aR)
 (aU (Dm.bz (n9 (aY (jo t) (aa (ah 0) (aa (ah 6) ao))))
 (bN (dC (.bl false)))
 aR)
 (bN (aB rV (aY (eU t) (aa (ah 0) (aa (ah 6) (aa (ah 1) ao)))) (aY (eU t) (aa (ah 0) (aa (ah 6) (aa (ah 2) ao)))))))) [some (az l),some (az g),some (az u),some (.tup [.str "weights",lI ws]),none,none,some (lI ws)] = .rt d->cZ t [az l,az g,az u,.tup [.str "weights",lI ws]] = .ok d:=fun d h=>by
  unfold cZ;refine bw [some (az l),some (az g),some (az u),some (.tup [.str "weights",lI ws]),none,none,none] ?_;rw[aE (st':=[some (az l),some (az g),some (az u),some (.tup [.str "weights",lI ws]),none,none,none]) (by rw[gu (bZ (a:=.str "weights") (b:=.str "class") rfl rfl rfl)];rfl),
   aE (st':=[some (az l),some (az g),some (az u),some (.tup [.str "weights",lI ws]),none,none,none]) (by rw[gu (bZ (a:=.str "weights") (b:=.str "closed") rfl rfl rfl)];rfl),
   aE (st':=[some (az l),some (az g),some (az u),some (.tup [.str "weights",lI ws]),none,none,some (lI ws)]) (d8 (bZ (a:=.tup [.str "weights",lI ws]) (b:=.int 1) rfl rfl rfl))]
  exact h
 have eL:(aB (eW true) (aY dQ (aa (ah 6) ao)) (aY dQ (aa (ah 0) ao))) [some (az l),some (az g),some (az u),some (.tup [.str "weights",lI ws]),none,none,some (lI ws)] = .ok (.bl (!decide (ws.length=l.length))):=bZ (a:=.int (ws.length:Nat)) (b:=.int (l.length:Nat)) (tT (a:=lI ws) rfl (v7 ws)) (tT (a:=az l) rfl (C9 l)) (by rw[fS];simp;lia);have eN:(aB rV (aY uA (aa (ah 6) ao)) (lV yi (dC (.int 1000)))) [some (az l),some (az g),some (az u),some (.tup [.str "weights",lI ws]),none,none,some (lI ws)] = .ok (.bl (decide (rA ws < -1000))):=bZ (a:=.int (rA ws)) (b:=.int (-1000)) (tT (a:=lI ws) rfl aQ9) rfl (Q4 ..);have eX:(aB GW (aY uC (aa (ah 6) ao)) (dC (.int 1000))) [some (az l),some (az g),some (az u),some (.tup [.str "weights",lI ws]),none,none,some (lI ws)] = .ok (.bl (decide (1000<rD ws))):=bZ (a:=.int (rD ws)) (b:=.int 1000) (tT (a:=lI ws) rfl aR0) rfl (aw7 ..);by_cases gw:goodW l ws;have hf:=YZ t (by lia) up.nodup gw;have w1:=Ey t up.nodup gw (aA:=g) (by lia) S;have w2:=Ey t up.nodup gw (aA:=u) (by lia) Su;have lf:=UJ t up (by lia) jJ gw.1;have v1:=zV t gw.1 (aA:=g) (by lia) S.2;have v2:=zV t gw.1 (aA:=u) (by lia) Su.2;rw[aU5 gw.1]at eL;rw[aU6 (by have:=(gw.2 _ (Px ne)).1;lia)]at eN;rw[aU6 (by have:=(gw.2 _ (Pw ne)).2;lia)]at eX;refine⟨ux l ws&&decide (wsum l ws g<wsum l ws u),top _ ?_,ay0 _ ?_⟩;unfold gM;refine bw [some (bB l),some (az g),some (az u),some (lI ws),none] ?_;rw[aE (F:=wC _ _ _ _) (st':=[some (bB l),some (az g),some (az u),some (lI ws),some (.bl (ux l ws))]) (by
  unfold wC;rw[d8 (oS (a:=bB l) (b:=lI ws) rfl rfl hf)];rfl)]
 refine d9 ?_;cases ux l ws with
 | false=>exact tU rfl
 | true=>exact j8 rfl (bZ (a:=.int (wsum l ws g)) (b:=.int (wsum l ws u)) (SJ (a:=bB l) (b:=lI ws) (c:=az g) rfl rfl rfl w1) (SJ (a:=bB l) (b:=lI ws) (c:=az u) rfl rfl rfl w2) (by rw[Q4,Ar]))
 rw[aE (st':=[some (az l),some (az g),some (az u),some (.tup [.str "weights",lI ws]),none,none,some (lI ws)]) (by rw[gu (lU eL (lU eN eX))];rfl)];cases XJ:ux l ws with
 | false=>rw[XJ]at lf;refine eV ?_;rw[ia (xE (b:=false) (oS (a:=az l) (b:=lI ws) rfl rfl lf))];rfl
 | true=>rw[XJ]at lf;rw[aE (st':=[some (az l),some (az g),some (az u),some (.tup [.str "weights",lI ws]),none,none,some (lI ws)]) (by rw[gu (xE (b:=true) (oS (a:=az l) (b:=lI ws) rfl rfl lf))];rfl)];exact d9 (bZ (a:=.int (wsum l ws g)) (b:=.int (wsum l ws u)) (SJ (a:=az l) (b:=lI ws) (c:=az g) rfl rfl rfl v1) (SJ (a:=az l) (b:=lI ws) (c:=az u) rfl rfl rfl v2) (by rw[Q4,Ar]))
 have hc:=(xT t).2 gw;have hf:tM t [bB l,lI ws] = .ex t.cM none:=by unfold tM;exact C4 (s:=[some (bB l),some (lI ws),none,none]) [some (bB l),some (lI ws),none,none] (HH (Jb (oS rfl rfl hc)))
 refine⟨false,top _ ?_,ay0 _ (eV ?_)⟩;unfold gM;refine bw [some (bB l),some (az g),some (az u),some (lI ws),none] (eV ?_);unfold wC bC;rw[oS (a:=bB l) (b:=lI ws) rfl rfl hf];dsimp only;rw[aU3 (by simp[jy,oO])];rfl;by_cases e:ws.length=l.length;rw[aU5 e]at eL;by_cases e1:rA ws < -1000;rw[aU5 e1]at eN;rw[ia (lU eL (Eg eN))];rfl;have e2:1000<rD ws:=Classical.byContradiction fun z=>gw ⟨e,fun n m=>by have:=Tr m;have:=TZ m;lia⟩;rw[aU6 e1]at eN;rw[aU5 e2]at eX;rw[ia (lU eL (lU eN eX))];rfl;rw[aU6 e]at eL;rw[ia (Eg eL)];rfl
end Pk
end Zb
section Zc
namespace Pk
open L2 Dm PySem
structure Rp(B k:Nat)(d:D):Prop where
 pl:R4 d=true
 sh:(toP d).showable=true
 hd:(toP d).hasDict=false
 le:(toP d).shown.length<=B
 dp:(toP d).depth<=k
def Rp.mono(h:Rp B k d)(b:B<=B')(c:k<=k'):Rp B' k' d:=⟨h.pl,h.sh,h.hd,f9 h.le b,f9 h.dp c⟩
theorem rps:∀{ds:List D},(∀d∈ds,Rp B k d)->wZ ds=true/\PyData.showableAll (toPs ds)=true/\PyData.hasDictAll (toPs ds)=false/\((PyData.shownAll (toPs ds)).map (fun x=>x.length)).sum<=B*ds.length/\(PyData.shownAll (toPs ds)).length=ds.length/\PyData.depthAll (toPs ds)<=k
 | [],_=>by simp[toPs,wZ,PyData.showableAll,PyData.hasDictAll,PyData.shownAll,PyData.depthAll]
 | d::ds,h=>by
  have h1:=h d (.head _);obtain⟨a1,a2,a3,a4,a5,a6⟩:=rps fun x m=>h x (.tail _ m);rw[toPs,wZ,PyData.showableAll,PyData.hasDictAll,PyData.shownAll,PyData.depthAll,h1.pl,h1.sh,h1.hd,a1,a2,a3,bh,List.sum_cons,cI,cI,a5,Nat.mul_add];have:=h1.le;have:=h1.dp;exact⟨rfl,rfl,rfl,by lia,rfl,by lia⟩
def HS{ds:List D}(h:∀d∈ds,Rp B k d)(n:ds.length<=N):Rp ((B+2)*N+3) (k+1) (.lst ds):=by
 obtain⟨a1,a2,a3,a4,a5,a6⟩:=rps h;have m:(B+2)*ds.length<=(B+2)*N:=F9 _ n;have e:(B+2)*ds.length=B*ds.length+2*ds.length:=F8 ..;refine⟨by rw[R4];exact a1,by rw[toP,PyData.showable];exact a2,by rw[toP,PyData.hasDict];exact a3,?_,by rw[toP,PyData.depth];lia⟩;rw[toP,PyData.shown];have:=listText_len_le (PyData.shownAll (toPs ds));lia
def HU{ds:List D}(h:∀d∈ds,Rp B k d)(n:ds.length<=N):Rp ((B+2)*N+3) (k+1) (.tup ds):=by
 obtain⟨a1,a2,a3,a4,a5,a6⟩:=rps h;have m:(B+2)*ds.length<=(B+2)*N:=F9 _ n;have e:(B+2)*ds.length=B*ds.length+2*ds.length:=F8 ..;refine⟨by rw[R4];exact a1,by rw[toP,PyData.showable];exact a2,by rw[toP,PyData.hasDict];exact a3,?_,by rw[toP,PyData.depth];lia⟩;rw[toP,PyData.shown];have:=LI (PyData.shownAll (toPs ds));lia
def QJ{i:Int}(h:i.natAbs<2 ^ 900):Rp 280 0 (.int i):=by
 refine⟨by rw[R4],?_,by rw[toP,PyData.hasDict],?_,by rw[toP,PyData.depth];exact b9 _⟩;rw[toP,PyData.showable,decide_eq_true_iff];by_cases z:i.natAbs=0;rw[z];decide;exact(Nat.log2_lt z).mpr (gV h (LW (by decide) (by decide)));rw[toP,PyData.shown,ofString_length];have hd:∀n:Nat,n<2 ^ 900->(Nat.toDigits 10 n).length<=271:=fun n hn=>toDigits_len_pow (by decide) (by decide) (LS hn (by decide +kernel));have hr:∀n:Nat,n<2 ^ 900->(toString n).length<=271:=fun n hn=>by rw[Nat.toString_eq_ofList_toDigits,String.length_ofList];exact hd n hn
 cases i with
 | ofNat n=>have:=hr n h;show(toString n).length<=280;lia
 | negSucc n=>have:=hr (n+1) h;show("-" ++ toString (n+1)).length<=280;rw[String.length_append];have:("-" : String).length=1:=rfl;lia
def EE{i:Int}(h:i.natAbs<8):Rp 13 0 (.int i):=by
 have p:(8:Nat)<=2 ^ 900:=by decide +kernel
 have r:=QJ (i:=i) (by lia);exact⟨r.pl,r.sh,r.hd,by rw[toP];exact PyData.shown_int_le (by lia),r.dp⟩
def US{c:Cell}(h:inR c):Rp 33 1 (cD c):=by
 refine HU (B:=13) (N:=2) (fun d m=>?_) (b9 _);obtain⟨h1,h2,h3,h4⟩:=h;simp only[bD,eK,aV3]at m;rcases m with rfl|rfl;exact EE (by lia);exact EE (by lia)
def Oks(s:List Cell):Prop:=s.length<=12/\∀c∈s,inR c
def QK{s:List Cell}(h:Oks s):Rp 423 2 (az s):=by
 refine HS (B:=33) (N:=12) (fun d m=>?_) (by rw[bL];exact h.1);obtain⟨c,hc,rfl⟩:=aX.mp m;exact US (h.2 c hc)
def Okl(G:List (List Cell)):Prop:=G.length<=2100/\∀s∈G,Oks s
def Zd{G:List (List Cell)}(h:Okl G):Rp 892503 3 (bR G):=by
 refine HS (B:=423) (N:=2100) (fun d m=>?_) (by rw[bL];exact h.1);obtain⟨s,hs,rfl⟩:=aX.mp m;exact QK (h.2 s hs)
def Okw(ws:List Int):Prop:=ws.length<=12/\∀n∈ws,n.natAbs<2 ^ 900
def ay1{ws:List Int}(h:Okw ws):Rp 3387 1 (lI ws):=by
 refine HS (B:=280) (N:=12) (fun d m=>?_) (by rw[bL];exact h.1);obtain⟨s,hs,rfl⟩:=aX.mp m;exact QJ (h.2 s hs)
def Jr{s:Str}(h:s = "class" \/s = "weights" \/s = "closed"):Rp 12 0 (.str s):=by
 rcases h with rfl|rfl|rfl <;> exact⟨by rw[R4],by rw[toP,PyData.showable],by rw[toP,PyData.hasDict],by rw[toP,PyData.shown];decide +kernel,by rw[toP,PyData.depth];exact b9 _⟩
abbrev PB:Nat:=1785013
def Js{s:Str}{d:D}(h:s = "class" \/s = "weights" \/s = "closed")(r:Rp 892503 3 d):Rp PB 4 (.tup [.str s,d]):=
 HU (B:=892503) (N:=2) (fun x m=>by
  simp only[bD,eK,aV3]at m;rcases m with rfl|rfl;exact(Jr h).mono (by decide) (by decide);exact r) (b9 _)
def Ze:Rp PB 4 (.tup [.str "class"]):=
 (HU (B:=12) (k:=0) (N:=1) (fun x m=>by
  obtain rfl:=eG.mp m;exact Jr (.inl rfl)) (b9 _)).mono (by decide) (by decide)
def Zf{g u:List Cell}{p:D}(hg:Oks g)(hu:Oks u)(hp:Rp PB 4 p):∃s:Str,x9 [.tup [az g,az u,p]] = .ok (.str s):=by
 obtain⟨a1,a2,a3,a4,a5,a6⟩:=rps (B:=PB) (k:=4) (ds:=[az g,az u,p]) fun x m=>by simp only[bD,eK,aV3]at m;rcases m with rfl|rfl|rfl;exact(QK hg).mono (by decide) (by decide);exact(QK hu).mono (by decide) (by decide);exact hp
 have h:=LI (PyData.shownAll (toPs [az g,az u,p]));rw[a5]at h;have e:PB * [az g,az u,p].length=5355039:=rfl;have e2:2 * [az g,az u,p].length=6:=rfl;have h:(tupleText (PyData.shownAll (toPs [az g,az u,p]))).length<=bO:=by have:=gC;lia
 refine⟨tupleText (PyData.shownAll (toPs [az g,az u,p])),?_⟩;rw[PC];dsimp only[wz];rw[aU3];rw[a1,a2,a3,aU5 h,aU5 (by lia:PyData.depthAll (toPs [az g,az u,p])<=50)];rfl
end Pk
end Zc
section Zg
namespace Pk
open L2 Dm
variable (t:gQ)
def zY(up:bA l)(hl:l.length<=10)(ir:∀c∈l,inR c)(S:cF l s):Oks s:=⟨by have:=dj up S;lia,fun c m=>ir c (S.2 c m)⟩
def p8{F G:List (List Cell)}(h:F.length+G.length<=5000):gf (bR F) (bR G) = .ok (bR (F++G)):=by
 unfold gf;show(if(F.map az).length+(G.map az).length<=5000 then _ else _)=_;rw[aU3 (by rw[bL,bL];exact h)];unfold bR;rw[qg]
def UT{f:DF}{st:eY}{F:List (List Cell)}(h:f st = .ok (bR F)):(aY dQ (aa f ao)) st = .ok (.int (F.length:Nat)):=tT h (by unfold bR;rw[Q5,bL])
def aR1{f1 f2 f3:DF}{st:eY}{a b c:D}(h1:f1 st = .ok a)(h2:f2 st = .ok b)(h3:f3 st = .ok c):br 100 (aa f1 (aa f2 (aa f3 ao))) st = .ok (.lst [a,b,c]):=by simp[h1,h2,h3]
def ay2{ns:List Int}{l g u:List Cell}{c c5:Int}(dl:Drawn l 10)(Zh:aM t [iL ns,.int 5] = .ok (.int c5)) :
  ∃ws,ws≠[]/\Okw ws/\(aU (bC 5 (aY (eF t) (aa (aY (aM t) (aa (ah 0) (aa (dC (.int 5)) ao))) (aa (ah 1) ao))))
 (aU (Dm.bz (aB GW (aB cB (aB fP (ah 4) (dC (.int 5))) (dC (.int 4))) (dC (.int 0)))
 (bC 5 (aY (gm t) (aa (ah 1) (aa (ah 5) ao))))
 aR)
 (aU (Dm.bz (aB (eW false) (aB cB (aB fP (ah 4) (dC (.int 20))) (dC (.int 8))) (dC (.int 1)))
 (bC 5 (aB bH (br 100 (aa (aB iU (ah 5) (br 100 (aa (dC (.int 0)) ao))) (aa (aB iU (rg (ah 5) (some (dC (.int 1))) none) (br 100 (aa (dC (.int 1001)) ao))) (aa (aB yp (rg (ah 5) none (some (dC (.int 1)))) (aB cW (aY dQ (aa (ah 5) ao)) (dC (.int 1)))) ao)))) (aB cB (aB fP (ah 4) (dC (.int 160))) (dC (.int 3)))))
 aR)
 (bN (zJ 100 (aa (dC (.str "weights")) (aa (ah 5) ao))))))) [some (iL ns),some (az l),some (az g),some (az u),some (.int c),none,none,none,none,none] = .rt (.tup [.str "weights",lI ws]):=by
 have ll:=dl.le;have lp:=dl.pos;obtain⟨w0,hw0,gw0⟩:=HP t c5 (af:=l) (by lia);obtain⟨w9,hw9,lw9,uw9⟩:=L6 t dl.up (by lia) dl.jJ gw0.1 (fun n hn=>⟨(gw0.2 n hn).2,(gw0.2 n hn).1⟩);have big:∀n:Int,n<=1000/\ -(1000*2 ^ (64*l.length))<=n->n.natAbs<2 ^ 900:=fun n h=>by
  have h1:=pw_le (show 64*l.length<=640 by lia);have h2:(1000*2 ^ 640:Int)<2 ^ 900:=by decide +kernel
  have h3:(1000:Int)<2 ^ 900:=by decide +kernel
  have h4:((2 ^ 900:Nat):Int)=2 ^ 900:=by norm_cast
  generalize (2:Int) ^ 640=P at h1 h2;generalize (2:Int) ^ (64*l.length)=R at h h1;generalize (2:Nat) ^ 900=M at h4;generalize (2:Int) ^ 900=N at h2 h3 h4;lia
 have kD:∀n:Int,0<n->n<1073741824->fP (.int c) (.int n) = .ok (.int (c / n)):=fun n h1 h2=>rM h1 h2;obtain⟨w1,lw1,uw1,hs⟩:∃w1:List Int,w1.length=l.length/\(∀n∈w1,n.natAbs<2 ^ 900)/\Dm.bz (aB GW (aB cB (aB fP (ah 4) (dC (.int 5))) (dC (.int 4))) (dC (.int 0)))
   (bC 5 (aY (gm t) (aa (ah 1) (aa (ah 5) ao))))
   aR [some (iL ns),some (az l),some (az g),some (az u),some (.int c),some (lI w0),none,none,none,none] = .nx [some (iL ns),some (az l),some (az g),some (az u),some (.int c),some (lI w1),none,none,none,none]:=by
  have e:(aB GW (aB cB (aB fP (ah 4) (dC (.int 5))) (dC (.int 4))) (dC (.int 0))) [some (iL ns),some (az l),some (az g),some (az u),some (.int c),some (lI w0),none,none,none,none] = .ok (.bl (decide (0<c / 5 % 4))):=bZ (a:=.int (c / 5 % 4)) (b:=.int 0) (bZ (a:=.int (c / 5)) (b:=.int 4) (bZ (a:=.int c) (b:=.int 5) rfl rfl (kD 5 (by decide) (by decide))) rfl (i9 (by decide))) rfl (aw7 ..)
  cases hb:decide (0<c / 5 % 4)with
  | true=>rw[hb]at e;exact⟨w9,lw9,fun n m=>big n (uw9 n m),(ia e).trans (d8 (oS (a:=az l) (b:=lI w0) rfl rfl hw9))⟩
  | false=>
   rw[hb]at e
   refine⟨w0,gw0.1,fun n m=>?_,(gu e).trans rfl⟩
   have:=gw0.2 n m
   have p:(1001:Nat)<=2 ^ 900:=by decide +kernel
   lia
 obtain⟨ws,ne,lw,uw,QS⟩:∃ws:List Int,ws≠[]/\ws.length<=12/\(∀n∈ws,n.natAbs<2 ^ 900)/\Dm.bz (aB (eW false) (aB cB (aB fP (ah 4) (dC (.int 20))) (dC (.int 8))) (dC (.int 1)))
   (bC 5 (aB bH (br 100 (aa (aB iU (ah 5) (br 100 (aa (dC (.int 0)) ao))) (aa (aB iU (rg (ah 5) (some (dC (.int 1))) none) (br 100 (aa (dC (.int 1001)) ao))) (aa (aB yp (rg (ah 5) none (some (dC (.int 1)))) (aB cW (aY dQ (aa (ah 5) ao)) (dC (.int 1)))) ao)))) (aB cB (aB fP (ah 4) (dC (.int 160))) (dC (.int 3)))))
   aR [some (iL ns),some (az l),some (az g),some (az u),some (.int c),some (lI w1),none,none,none,none] = .nx [some (iL ns),some (az l),some (az g),some (az u),some (.int c),some (lI ws),none,none,none,none]:=by
  have e:(aB (eW false) (aB cB (aB fP (ah 4) (dC (.int 20))) (dC (.int 8))) (dC (.int 1))) [some (iL ns),some (az l),some (az g),some (az u),some (.int c),some (lI w1),none,none,none,none] = .ok (.bl (decide (c / 20 % 8=1))):=bZ (a:=.int (c / 20 % 8)) (b:=.int 1) (bZ (a:=.int (c / 20)) (b:=.int 8) (bZ (a:=.int c) (b:=.int 20) rfl rfl (kD 20 (by decide) (by decide))) rfl (i9 (by decide))) rfl (by rw[fS];rfl)
  cases hb:decide (c / 20 % 8=1)with
  | false=>rw[hb]at e;exact⟨w1,fun z=>by rw[z]at lw1;simp at lw1;lia,by lia,uw1,(gu e).trans rfl⟩
  | true=>
   rw[hb]at e
   have p:(1002:Nat)<=2 ^ 900:=by decide +kernel
   obtain⟨r,hr,er⟩:=Jl (c / 160) (n:=3) (by decide)
   have k8:cB (.int (c / 160)) (.int 3) = .ok (.int (r:Nat)):=by rw[i9 (by decide)];exact congrArg (fun z=>R.ok (D.int z)) er
   have c1:iU (lI w1) (lI [0]) = .ok (lI (w1++[0])):=QD (by simp;lia)
   have c2:rg (ah 5) (some (dC (.int 1))) none [some (iL ns),some (az l),some (az g),some (az u),some (.int c),some (lI w1),none,none,none,none] = .ok (lI (w1.drop 1)):=QC (a:=1) rfl rfl
   have c3:rg (ah 5) none (some (dC (.int 1))) [some (iL ns),some (az l),some (az g),some (az u),some (.int c),some (lI w1),none,none,none,none] = .ok (lI (w1.take 1)):=Z3 (a:=1) rfl rfl
   have c4:iU (lI (w1.drop 1)) (lI [1001]) = .ok (lI (w1.drop 1++[1001])):=QD (by simp;lia)
   have c5:yp (lI (w1.take 1)) (.int ((w1.length:Nat)+1)) = .ok (lI (cg (w1.length+1) (w1.take 1)).flatten):=by
    unfold yp lI
    dsimp only
    rw[aU3 (by
     simp only[bM,aU8,bL,Z2,true_and,kP]
     have:((w1.length:Int)+1).toNat=w1.length+1:=by lia
     rw[this]
     refine⟨⟨by lia,by lia⟩,?_⟩
     have:=LV (w1.length+1) (show min 1 w1.length<=1 by lia)
     lia),show((w1.length:Int)+1).toNat=w1.length+1 by lia]
    rw[List.map_flatten,Mw]
   have e5:(br 100 (aa (aB iU (ah 5) (br 100 (aa (dC (.int 0)) ao))) (aa (aB iU (rg (ah 5) (some (dC (.int 1))) none) (br 100 (aa (dC (.int 1001)) ao))) (aa (aB yp (rg (ah 5) none (some (dC (.int 1)))) (aB cW (aY dQ (aa (ah 5) ao)) (dC (.int 1)))) ao)))) [some (iL ns),some (az l),some (az g),some (az u),some (.int c),some (lI w1),none,none,none,none] = .ok (.lst [lI (w1++[0]),lI (w1.drop 1++[1001]),lI (cg (w1.length+1) (w1.take 1)).flatten]):=by
    have d1:=bZ (g:=iU) (f1:=ah 5) (f2:=br 100 (aa (dC (.int 0)) ao)) (st:=[some (iL ns),some (az l),some (az g),some (az u),some (.int c),some (lI w1),none,none,none,none]) (a:=lI w1) (b:=lI [0]) rfl rfl c1
    have d2:=bZ (g:=iU) (f1:=rg (ah 5) (some (dC (.int 1))) none) (f2:=br 100 (aa (dC (.int 1001)) ao)) (b:=lI [1001]) c2 rfl c4
    have d3:=bZ (g:=yp) (f2:=aB cW (aY dQ (aa (ah 5) ao)) (dC (.int 1))) (b:=.int ((w1.length:Nat)+1)) c3 (bZ (a:=.int (w1.length:Nat)) (b:=.int 1) (tT (a:=lI w1) rfl (v7 w1)) rfl rfl) c5
    exact aR1 d1 d2 d3
   have fin:∀ws:List Int,([lI (w1++[0]),lI (w1.drop 1++[1001]),lI (cg (w1.length+1) (w1.take 1)).flatten]:List D)[r]?=some (lI ws)->Dm.bz (aB (eW false) (aB cB (aB fP (ah 4) (dC (.int 20))) (dC (.int 8))) (dC (.int 1)))
     (bC 5 (aB bH (br 100 (aa (aB iU (ah 5) (br 100 (aa (dC (.int 0)) ao))) (aa (aB iU (rg (ah 5) (some (dC (.int 1))) none) (br 100 (aa (dC (.int 1001)) ao))) (aa (aB yp (rg (ah 5) none (some (dC (.int 1)))) (aB cW (aY dQ (aa (ah 5) ao)) (dC (.int 1)))) ao)))) (aB cB (aB fP (ah 4) (dC (.int 160))) (dC (.int 3)))))
     aR [some (iL ns),some (az l),some (az g),some (az u),some (.int c),some (lI w1),none,none,none,none] = .nx [some (iL ns),some (az l),some (az g),some (az u),some (.int c),some (lI ws),none,none,none,none]:=fun ws h=>
    (ia e).trans (d8 (bZ (b:=.int (r:Nat)) e5 (bZ (a:=.int (c / 160)) (b:=.int 3) (bZ (a:=.int c) (b:=.int 160) rfl rfl (kD 160 (by decide) (by decide))) rfl k8) (rO h)))
   have:r=0\/r=1\/r=2:=by lia
   rcases this with z|z|z
   ·refine⟨w1++[0],by simp,by simp;lia,fun n m=>?_,fin _ (by rw[z];rfl)⟩
    rcases gW.mp m with m|m
    ·exact uw1 n m
    ·obtain rfl:=eG.mp m;show 0<_;lia
   ·refine⟨w1.drop 1++[1001],by simp,by simp;lia,fun n m=>?_,fin _ (by rw[z];rfl)⟩
    rcases gW.mp m with m|m
    ·exact uw1 n (Fw m)
    ·obtain rfl:=eG.mp m;show 1001<_;lia
   ·refine⟨(cg (w1.length+1) (w1.take 1)).flatten,?_,?_,fun n m=>?_,fin _ (by rw[z];rfl)⟩
    ·cases w1 with
     | nil=>simp at lw1;lia
     | cons a w=>simp
    ·rw[List.length_flatten,Mw,List.sum_replicate_nat,kP]
     have:=F9 (w1.length+1) (show min 1 w1.length<=1 by lia)
     lia
    ·obtain⟨x,hx,hn⟩:=Mg.mp m
     rw[(List.mem_replicate.mp hx).2]at hn
     exact uw1 n (sI hn)
 refine⟨ws,ne,⟨lw,uw⟩,?_⟩;rw[aE (st':=[some (iL ns),some (az l),some (az g),some (az u),some (.int c),some (lI w0),none,none,none,none]) (d8 (oS (a:=.int c5) (b:=az l) (oS (a:=iL ns) (b:=.int 5) rfl rfl Zh) rfl hw0)),aE hs,aE QS];rfl
end Pk
end Zg
section ay3
namespace Pk
open L2 Dm
variable (t:gQ)
def Zi(m b:Nat)(G:List (List Cell)):Prop:=G.length<=m/\∀s∈G,s.length<=b/\∀c∈s,inR c
def sS(ns:List Int)(l g u:List Cell)(c:Int)(a:Nat)(w:Int)(th:Option D)(G:List (List Cell)):eY:=[some (iL ns),some (az l),some (az g),some (az u),some (.int c),none,some (bR G),some (.int (a:Nat)),some (.int w),th]
section
variable {ns:List Int}{l g u:List Cell}{c:Int}{a:Nat}{w:Int}{th:Option D}{G:List (List Cell)}
def Zj{A:DS}{k:Int}{m n b b':Nat}(hb:b<=b')(hG:Zi m b G)(ha:k<=w->a<G.length)(hA:w=k->a<G.length->∃G',Zi (m+n) b' G'/\A (sS ns l g u c a w th G) = .nx (sS ns l g u c a w th G')) :
  ∃G',Zi (m+n) b' G'/\(k+1<=w->a<G'.length)/\Dm.bz (aB (eW false) (ah 8) (dC (.int k))) A aR (sS ns l g u c a w th G) = .nx (sS ns l g u c a w th G'):=by
 have e:(aB (eW false) (ah 8) (dC (.int k))) (sS ns l g u c a w th G) = .ok (.bl (decide (w=k))):=bZ (a:=.int w) (b:=.int k) rfl rfl (by rw[fS];rfl);by_cases h:w=k;rw[aU5 h]at e;obtain⟨G',h1,h2⟩:=hA h (ha (by lia));exact⟨G',h1,fun z=>by lia,(ia e).trans h2⟩;rw[aU6 h]at e;exact⟨G,⟨by have:=hG.1;lia,fun s m=>⟨f9 (hG.2 s m).1 hb,(hG.2 s m).2⟩⟩,fun z=>ha (by lia),(gu e).trans rfl⟩
def QL{f:DF}{G':List (List Cell)}(h:f (sS ns l g u c a w th G) = .ok (bR G')):bC 6 f (sS ns l g u c a w th G) = .nx (sS ns l g u c a w th G'):=d8 h
def Jt{f:DF}{s:List Cell}(hi:a<G.length)(hf:f (sS ns l g u c a w th G) = .ok (az s)):qu 6 (ah 7) f (sS ns l g u c a w th G) = .nx (sS ns l g u c a w th (G.set a s)):=by
 unfold qu;rw[hf];have YK:AO (G.map az).length ((a:Nat):Int)=some a:=by unfold AO;rw[aU3 (by lia),aU3 (by simp;lia)];simp
 show(match AO (G.map az).length ((a:Nat):Int)with|some j=>Out.nx _|none=>Out.bad)=_;rw[YK];unfold sS bR;rw[Mt];rfl
def HV{s:List Cell}(h:G[a]?=some s):(aB bH (ah 6) (ah 7)) (sS ns l g u c a w th G) = .ok (az s):=bZ (a:=bR G) (b:=.int (a:Nat)) rfl rfl (Cc h)
end
def Zk{f h:DF}{st:eY}{s:List Cell}(h1:f st = .ok (az s))(h2:h st = .ok (.int (-1))):Hu f h st = .ok (az s.reverse):=by
 unfold Hu;rw[h1,rL,h2,rL];show(if cV (s.map cD)=true/\(-1:Int) = -1 then _ else _)=_;rw[aU3 ⟨C1 s,rfl⟩];unfold az;rw[List.map_reverse]
def headD(t:gQ)(F:DS):DS:=(aU (Dm.bz (aB (eW false) (ah 8) (dC (.int 1)))
 (bC 6 (aB gf (DM (ah 6) none (some (ah 7))) (DM (ah 6) (some (aB cW (ah 7) (dC (.int 1)))) none)))
 aR)
 (aU (Dm.bz (aB (eW false) (ah 8) (dC (.int 2)))
 (bC 6 (aB gf (ah 6) (br 100 (aa (ah 3) ao))))
 aR)
 (aU (Dm.bz (aB (eW false) (ah 8) (dC (.int 3)))
 (qu 6 (ah 7) (Hu (aB bH (ah 6) (ah 7)) (lV yi (dC (.int 1)))))
 aR)
 (aU (Dm.bz (aB (eW false) (ah 8) (dC (.int 4)))
 (qu 6 (ah 7) (aB iU (aB bH (ah 6) (ah 7)) (br 100 (aa (bu 100 (aa (dC (.int 7)) (aa (dC (.int 7)) ao))) ao))))
 aR) F))))
def tailD(t:gQ):DS:=(VU (aU (Dm.bz (aB (eW false) (ah 8) (dC (.int 5)))
 (bC 6 (aB gf (ah 6) (br 100 (aa (aY jl (aa (aB bH (ah 6) (ah 7)) ao)) ao))))
 aR)
 (aU (bC 9 (cC (yo (ah 1)) 2 [0] (ef 0 1) (aB (eW false) (aY (b8 t) (aa (aY (aM t) (aa (ah 2) (aa (dC (.int 6)) ao))) (aa (ah 0) (aa (dC (.int 2)) ao)))) (dC (.int 0))) (aQ (ah 1))))
 (aU (Dm.bz (aB (eW false) (ah 8) (dC (.int 6)))
 (bC 6 (aB gf (ah 6) (cC (bU (aY (eE t) (aa (ah 1) (aa (ah 9) ao)))) 1 [6] (b5 0) (aB (gI true) (ah 0) (ah 1)) (ah 0))))
 aR)
 (aU (Dm.bz (aB (eW false) (ah 8) (dC (.int 7)))
 (bC 6 (aB gf (br 100 (aa (ah 9) ao)) (ah 6)))
 aR)
 (bN (zJ 100 (aa (dC (.str "closed")) (aa (ah 6) ao)))))))))
def Zl{ns:List Int}{l g u:List Cell}{c:Int}{a:Nat}{w:Int}{F:List (List Cell)}{W:DS}(ou:u.length<=10/\∀c∈u,inR c)(hF:Zi 1024 10 F)(ha:a<F.length)(w1:0<=w)
  (hR:∀G,Zi 1028 11 G->(5<=w->a<G.length)->∃G',Okl G'/\W (sS ns l g u c a w none G) = .rt (.tup [.str "closed",bR G'])):∃G',Okl G'/\headD t W (sS ns l g u c a w none F) = .rt (.tup [.str "closed",bR G']):=by
 obtain⟨G1,o1,a1,h1⟩:=Zj (ns:=ns) (l:=l) (g:=g) (u:=u) (c:=c) (a:=a) (w:=w) (th:=none) (k:=1) (n:=1) (A:=bC 6 (aB gf (DM (ah 6) none (some (ah 7))) (DM (ah 6) (some (aB cW (ah 7) (dC (.int 1)))) none))) (b9 10) hF (fun _=>ha) fun _ hi=>by refine⟨F.take a++F.drop (a+1),⟨by have:=hF.1;simp;lia,fun s m=>?_⟩,QL (bZ (a:=bR (F.take a)) (b:=bR (F.drop (a+1))) ?_ ?_ (p8 (by have:=hF.1;simp;lia)))⟩;rcases gW.mp m with m|m;exact hF.2 s (sI m);exact hF.2 s (Fw m);show Dm.R.ok (D.lst (cutD (F.map az) none (some ((a:Nat):Int))))=_;rw[oU,<- Fo];rfl;show Dm.R.ok (D.lst (cutD (F.map az) (some ((a+1:Nat):Int)) none))=_;rw[xF,<- Fp];rfl
 obtain⟨G2,o2,a2,h2⟩:=Zj (ns:=ns) (l:=l) (g:=g) (u:=u) (c:=c) (a:=a) (w:=w) (th:=none) (k:=2) (n:=1) (A:=bC 6 (aB gf (ah 6) (br 100 (aa (ah 3) ao)))) (b9 10) o1 a1 fun _ hi=>by refine⟨G1++[u],⟨by have:=o1.1;simp;lia,fun s m=>?_⟩,QL (bZ (a:=bR G1) (b:=bR [u]) rfl rfl (p8 (by have:=o1.1;simp;lia)))⟩;rcases gW.mp m with m|m;exact o1.2 s m;obtain rfl:=eG.mp m;exact ou
 obtain⟨G3,o3,a3,h3⟩:=Zj (ns:=ns) (l:=l) (g:=g) (u:=u) (c:=c) (a:=a) (w:=w) (th:=none) (k:=3) (n:=1) (A:=qu 6 (ah 7) (Hu (aB bH (ah 6) (ah 7)) (lV yi (dC (.int 1))))) (b9 10) o2 a2 fun _ hi=>by have hs:G2[a]?=some G2[a]:=c7 hi;have ms:=jQ hi;generalize G2[a]=s at hs ms;refine⟨G2.set a s.reverse,⟨by have:=o2.1;simp;lia,fun x m=>?_⟩,Jt hi (Zk (HV hs) rfl)⟩;rcases FI m with m|rfl;exact o2.2 x m;exact⟨by rw[Mj];exact(o2.2 s ms).1,fun c m=>(o2.2 s ms).2 c (Ml.mp m)⟩
 obtain⟨G4,o4,a4,h4⟩:=Zj (ns:=ns) (l:=l) (g:=g) (u:=u) (c:=c) (a:=a) (w:=w) (th:=none) (k:=4) (n:=1) (b':=11) (A:=qu 6 (ah 7) (aB iU (aB bH (ah 6) (ah 7)) (br 100 (aa (bu 100 (aa (dC (.int 7)) (aa (dC (.int 7)) ao))) ao)))) (by decide) o3 a3 fun _ hi=>by have hs:G3[a]?=some G3[a]:=c7 hi;have ms:=jQ hi;generalize G3[a]=s at hs ms;have lo:=(o3.2 s ms).1;refine⟨G3.set a (s++[(7,7)]),⟨by have:=o3.1;simp;lia,fun x m=>?_⟩,Jt hi (bZ (a:=az s) (b:=az [(7,7)]) (HV hs) rfl (C5 (by simp;lia)))⟩;rcases FI m with m|rfl;exact⟨by have:=(o3.2 x m).1;lia,(o3.2 x m).2⟩;refine⟨by simp;lia,fun c m=>?_⟩;rcases gW.mp m with m|m;exact(o3.2 s ms).2 c m;obtain rfl:=eG.mp m;exact⟨by decide,by decide,by decide,by decide⟩
 obtain⟨G',o5,h5⟩:=hR G4 o4 a4;refine⟨G',o5,?_⟩;unfold headD;rw[aE h1,aE h2,aE h3,aE h4];exact h5
def Zm{ns:List Int}{l g u:List Cell}{c:Int}{a:Nat}{w:Int}(dl:Drawn l 10)(c6:Int)(R5:aM t [iL ns,.int 6] = .ok (.int c6))(hG:Zi 1028 11 G)(ha:5<=w->a<G.length):∃G',Okl G'/\tailD t (sS ns l g u c a w none G) = .rt (.tup [.str "closed",bR G']):=by
 have ll:=dl.le;obtain⟨G1,o1,a1,h1⟩:=Zj (ns:=ns) (l:=l) (g:=g) (u:=u) (c:=c) (a:=a) (w:=w) (th:=none) (k:=5) (n:=1) (A:=bC 6 (aB gf (ah 6) (br 100 (aa (aY jl (aa (aB bH (ah 6) (ah 7)) ao)) ao)))) (b9 11) hG ha fun _ hi=>by have hs:G[a]?=some G[a]:=c7 hi;have ms:=jQ hi;generalize G[a]=s at hs ms;refine⟨G++[s],⟨by have:=hG.1;simp;lia,fun x m=>?_⟩,QL (bZ (a:=bR G) (b:=bR [s]) rfl (aQ8 (tT (a:=az s) (HV hs) ?_)) (p8 (by have:=hG.1;simp;lia)))⟩;rcases gW.mp m with m|m;exact hG.2 x m;obtain rfl:=eG.mp m;exact hG.2 _ ms;unfold jl az;dsimp only;rw[aU3 (C1 s)]
 have e1:(cC (yo (ah 1)) 2 [0] (ef 0 1) (aB (eW false) (aY (b8 t) (aa (aY (aM t) (aa (ah 2) (aa (dC (.int 6)) ao))) (aa (ah 0) (aa (dC (.int 2)) ao)))) (dC (.int 0))) (aQ (ah 1))) (sS ns l g u c a w none G1) = .ok (az ((l.zipIdx.filter fun x=>!yK t c6 2 x.2).map (·.1))):=by
  show _=R.ok (D.lst (List.map cD (List.map _ _)));rw[cU];refine fT (ds:=l.zipIdx.map fun p=>.tup [.int (p.2:Nat),cD p.1]) ?_ (by simp;lia) ?_;simp[yo,Jc,sS];refine gO (S:=fun x=>[some (.int (x.2:Nat)),some (cD x.1),some (iL ns)]) (P:=fun st=>∃y z,st=[y,z,some (iL ns)]) l.zipIdx (fun x _=>⟨_,_,rfl⟩) (fun x _ st n8=>by obtain⟨y,z,e⟩:=n8;subst e;rfl) (fun x _=>?_) (fun x _ _=>by simp) _ ⟨none,none,rfl⟩;obtain⟨v,v0,v1,hv⟩:=oW t c6 ((x.2:Nat):Int) 2 (by decide);have e:yK t c6 2 x.2=decide (0<v):=by unfold yK;rw[hv]
  refine bZ (a:=.int v) (b:=.int 0) (SJ (a:=.int c6) (b:=.int ((x.2:Nat):Int)) (c:=.int 2) (oS (a:=iL ns) (b:=.int 6) rfl rfl R5) rfl rfl hv) rfl ?_;rw[fS,e];by_cases h:v=0;simp[h];have:0<v:=by lia
  simp[h,this]
 have s1:cF l ((l.zipIdx.filter fun x=>!yK t c6 2 x.2).map (·.1)):=.sub dl.up (by
  have:=(kT (p:=fun x:Cell×Nat=>!yK t c6 2 x.2) (l:=l.zipIdx)).map Prod.fst;rwa [Ms]at this)
 generalize (l.zipIdx.filter fun x=>!yK t c6 2 x.2).map (·.1)=T at e1 s1;have lT:=dj dl.up s1;have k1:bC 9 (cC (yo (ah 1)) 2 [0] (ef 0 1) (aB (eW false) (aY (b8 t) (aa (aY (aM t) (aa (ah 2) (aa (dC (.int 6)) ao))) (aa (ah 0) (aa (dC (.int 2)) ao)))) (dC (.int 0))) (aQ (ah 1))) (sS ns l g u c a w none G1) = .nx (sS ns l g u c a w (some (az T)) G1):=d8 e1;obtain⟨F,hF,I,_⟩:=Jo t dl.up ll dl.jJ s1 (by lia);have lF:=v9 dl.up ll F I.nd fun s m=>(I.UL s m).kI s1;obtain⟨G2,o2,a2,h2⟩:=Zj (ns:=ns) (l:=l) (g:=g) (u:=u) (c:=c) (a:=a) (w:=w) (th:=some (az T)) (k:=6) (n:=1024) (A:=bC 6 (aB gf (ah 6) (cC (bU (aY (eE t) (aa (ah 1) (aa (ah 9) ao)))) 1 [6] (b5 0) (aB (gI true) (ah 0) (ah 1)) (ah 0)))) (b9 11) o1 a1 fun _ hi=>by have lq:(F.filter fun s=>!decide (s∈G1)).length<=F.length:=m6 ..;refine⟨G1++F.filter fun s=>!decide (s∈G1),⟨by have:=o1.1;rw[fj];lia,fun x m=>?_⟩,QL (bZ (a:=bR G1) (b:=bR (F.filter fun s=>!decide (s∈G1))) rfl ?_ (p8 (by have:=o1.1;lia)))⟩;rcases gW.mp m with m|m;exact o1.2 x m;have Sx:=(I.UL x (pS.mp m).1).kI s1;have:=dj dl.up Sx;exact⟨by lia,fun c m=>dl.inr c (Sx.2 c m)⟩;unfold bR;refine fT (ds:=F.map az) ?_ (by rw[bL];lia) ?_;exact xX (oS (a:=az l) (b:=az T) rfl rfl hF);exact gO (S:=fun x=>[some (az x),some (bR G1)]) (P:=fun st=>∃y,st=[y,some (bR G1)]) F (fun x _=>⟨_,rfl⟩) (fun x _ st zz=>by obtain⟨y,e⟩:=zz;subst e;rfl) (fun x _=>bZ (a:=az x) (b:=bR G1) rfl rfl (by rw[mR];rfl)) (fun x _ _=>rfl) _ ⟨none,rfl⟩
 obtain⟨G3,o3,a3,h3⟩:=Zj (ns:=ns) (l:=l) (g:=g) (u:=u) (c:=c) (a:=a) (w:=w) (th:=some (az T)) (k:=7) (n:=1) (A:=bC 6 (aB gf (br 100 (aa (ah 9) ao)) (ah 6))) (b9 11) o2 a2 fun _ hi=>by refine⟨[T]++G2,⟨by have:=o2.1;simp;lia,fun x m=>?_⟩,QL (bZ (a:=bR [T]) (b:=bR G2) rfl rfl (p8 (by have:=o2.1;simp;lia)))⟩;rcases gW.mp m with m|m;obtain rfl:=eG.mp m;exact⟨by lia,fun c m=>dl.inr c (s1.2 c m)⟩;exact o2.2 x m
 refine⟨G3,⟨by have:=o3.1;lia,fun s m=>⟨by have:=(o3.2 s m).1;lia,(o3.2 s m).2⟩⟩,?_⟩;unfold tailD VU;rw[aE h1,aE k1,aE h2,aE h3];rfl
def Zn{ns:List Int}{l g u:List Cell}{c:Int}(dl:Drawn l 10)(S:cF l g)(Su:cF l u):∃G',Okl G'/\(aU (bC 6 (aY (eE t) (aa (ah 1) (aa (aB bH (br 100 (aa (ah 2) (aa (ah 3) ao))) (aY KJ (aa (aB (eW false) (aB cB (aB fP (ah 4) (dC (.int 5))) (dC (.int 4))) (dC (.int 1))) ao))) ao))))
 (aU (bC 7 (aB cB (aB fP (ah 4) (dC (.int 320))) (aY dQ (aa (ah 6) ao))))
 (aU (bC 8 (aB cB (aB fP (ah 4) (dC (.int 20))) (dC (.int 8)))) (headD t (tailD t))))) [some (iL ns),some (az l),some (az g),some (az u),some (.int c),none,none,none,none,none] = .rt (.tup [.str "closed",bR G']):=by
 have ll:=dl.le;obtain⟨c6,aR2⟩:∃c:Int,aM t [iL ns,.int 6] = .ok (.int c):=⟨_,HK t ns 6⟩
 obtain⟨X,SX,hX⟩:∃X,cF l X/\(aB bH (br 100 (aa (ah 2) (aa (ah 3) ao))) (aY KJ (aa (aB (eW false) (aB cB (aB fP (ah 4) (dC (.int 5))) (dC (.int 4))) (dC (.int 1))) ao))) [some (iL ns),some (az l),some (az g),some (az u),some (.int c),none,none,none,none,none] = .ok (az X):=by
  have e:(aB (eW false) (aB cB (aB fP (ah 4) (dC (.int 5))) (dC (.int 4))) (dC (.int 1))) [some (iL ns),some (az l),some (az g),some (az u),some (.int c),none,none,none,none,none] = .ok (.bl (decide (c / 5 % 4=1))):=bZ (a:=.int (c / 5 % 4)) (b:=.int 1) (bZ (a:=.int (c / 5)) (b:=.int 4) (bZ (a:=.int c) (b:=.int 5) rfl rfl (rM (by decide) (by decide))) rfl (i9 (by decide))) rfl (by rw[fS];rfl);cases hb:decide (c / 5 % 4=1)with
  | true=>rw[hb]at e;exact⟨u,Su,bZ (a:=bR [g,u]) (b:=.int 1) rfl (tT e rfl) rfl⟩
  | false=>rw[hb]at e;exact⟨g,S,bZ (a:=bR [g,u]) (b:=.int 0) rfl (tT e rfl) rfl⟩
 have lX:=dj dl.up SX;obtain⟨F,hF,I,_⟩:=Jo t dl.up ll dl.jJ SX (by lia);have lF:=v9 dl.up ll F I.nd fun s m=>(I.UL s m).kI SX;have pF:0<F.length:=FE I.hd;obtain⟨a,ha,ea⟩:=Jl (c / 320) (n:=F.length) pF;have oF:Zi 1024 10 F:=⟨lF,fun s m=>by
  have Ss:=(I.UL s m).kI SX;have:=dj dl.up Ss;exact⟨by lia,fun c m=>dl.inr c (Ss.2 c m)⟩⟩
 have lu:=dj dl.up Su;obtain⟨G',oG,h⟩:=Zl t (ns:=ns) (l:=l) (g:=g) (u:=u) (c:=c) (a:=a) (w:=c / 20 % 8) (F:=F) (W:=tailD t) ⟨by lia,fun c m=>dl.inr c (Su.2 c m)⟩ oF ha (by lia) fun G o h=>Zm t dl c6 aR2 o h;refine⟨G',oG,?_⟩;rw[aE (st':=[some (iL ns),some (az l),some (az g),some (az u),some (.int c),none,some (bR F),none,none,none]) (d8 (oS (a:=az l) (b:=az X) rfl hX hF)),
  aE (st':=[some (iL ns),some (az l),some (az g),some (az u),some (.int c),none,some (bR F),some (.int (a:Nat)),none,none]) (d8 (bZ (a:=.int (c / 320)) (b:=.int (F.length:Nat)) (bZ (a:=.int c) (b:=.int 320) rfl rfl (rM (by decide) (by decide))) (UT rfl) (by rw[i9 (by lia)];exact congrArg (fun z=>R.ok (D.int z)) ea))),
  aE (st':=sS ns l g u c a (c / 20 % 8) none F) (d8 (bZ (a:=.int (c / 20)) (b:=.int 8) (bZ (a:=.int c) (b:=.int 20) rfl rfl (rM (by decide) (by decide))) rfl (i9 (by decide))))]
 exact h
def UU(ns:List Int){l g u:List Cell}(dl:Drawn l 10)(S:cF l g)(Su:cF l u):∃p,dU t [iL ns,az l,az g,az u] = .ok p/\Jp t l g u p/\Rp PB 4 p:=by
 have ll:=dl.le;have lg:=dj dl.up S;have lu:=dj dl.up Su;obtain⟨c,R5⟩:∃c:Int,aM t [iL ns,.int 4] = .ok (.int c):=⟨_,HK t ns 4⟩
 obtain⟨c5,Zh⟩:∃c:Int,aM t [iL ns,.int 5] = .ok (.int c):=⟨_,HK t ns 5⟩
 have k5:cB (.int c) (.int 5) = .ok (.int (c % 5)):=i9 (by decide);have e0:(aB (eW false) (aB cB (ah 4) (dC (.int 5))) (dC (.int 0))) [some (iL ns),some (az l),some (az g),some (az u),some (.int c),none,none,none,none,none] = .ok (.bl (decide (c % 5=0))):=bZ (a:=.int (c % 5)) (b:=.int 0) (bZ (a:=.int c) (b:=.int 5) rfl rfl k5) rfl (by rw[fS];rfl);have e3:(aB rV (aB cB (ah 4) (dC (.int 5))) (dC (.int 3))) [some (iL ns),some (az l),some (az g),some (az u),some (.int c),none,none,none,none,none] = .ok (.bl (decide (c % 5<3))):=bZ (a:=.int (c % 5)) (b:=.int 3) (bZ (a:=.int c) (b:=.int 5) rfl rfl k5) rfl (Q4 ..);have s0:bC 4 (aY (aM t) (aa (ah 0) (aa (dC (.int 4)) ao))) [some (iL ns),some (az l),some (az g),some (az u),none,none,none,none,none,none] = .nx [some (iL ns),some (az l),some (az g),some (az u),some (.int c),none,none,none,none,none]:=d8 (oS (a:=iL ns) (b:=.int 4) rfl rfl R5);cases h0:decide (c % 5=0)with
 | true=>rw[h0]at e0;refine⟨.tup [.str "class"],?_,UN t S Su (by lia) (by lia),Ze⟩;unfold dU;refine bw [some (iL ns),some (az l),some (az g),some (az u),none,none,none,none,none,none] ?_;rw[aE s0];exact eV ((ia e0).trans rfl)
 | false=>
  rw[h0]at e0;cases h3:decide (c % 5<3)with
  | true=>rw[h3]at e3;obtain⟨ws,ne,ow,hw⟩:=ay2 t (ns:=ns) (g:=g) (u:=u) (c:=c) dl Zh;refine⟨_,?_,UR t dl.up ll dl.jJ S Su ne,Js (.inr (.inl rfl)) ((ay1 ow).mono (by decide) (by decide))⟩;unfold dU;refine bw [some (iL ns),some (az l),some (az g),some (az u),none,none,none,none,none,none] ?_;rw[aE s0,aE (st':=[some (iL ns),some (az l),some (az g),some (az u),some (.int c),none,none,none,none,none]) (by rw[gu e0];rfl)];exact eV ((ia e3).trans hw)
  | false=>rw[h3]at e3;obtain⟨G,oG,hG⟩:=Zn t (ns:=ns) (c:=c) dl S Su;refine⟨_,?_,UQ t dl.up ll dl.jJ S Su (by have:=oG.1;lia) (fun s m=>by have:=(oG.2 s m).1;lia),Js (.inr (.inr rfl)) (Zd oG)⟩;unfold dU;refine bw [some (iL ns),some (az l),some (az g),some (az u),none,none,none,none,none,none] ?_;rw[aE s0,aE (st':=[some (iL ns),some (az l),some (az g),some (az u),some (.int c),none,none,none,none,none]) (by rw[gu e0];rfl),aE (st':=[some (iL ns),some (az l),some (az g),some (az u),some (.int c),none,none,none,none,none]) (by rw[gu e3];rfl)];exact hG
def ay4(ns:List Int):zN t [iL ns] = .ok (.bl true):=by
 obtain⟨c,R5⟩:∃c:Int,aM t [iL ns,.int 2] = .ok (.int c):=⟨_,HK t ns 2⟩
 obtain⟨c3,aR3⟩:∃c:Int,aM t [iL ns,.int 3] = .ok (.int c):=⟨_,HK t ns 3⟩
 obtain⟨l,hl,dl⟩:=UE t ns 10 (by decide);have hl:dF t [iL ns,.int 10] = .ok (az l):=hl;have ll:=dl.le;obtain⟨g,hg,sub⟩:=Ql t c (l:=l) dl.pos (by lia);obtain⟨u,hu,aR4⟩:=Ql t c3 (l:=l) dl.pos (by lia);have S:cF l g:=.sub dl.up sub;have Su:cF l u:=.sub dl.up aR4;have hB:=UG t (dl.mono (by decide:10<=24));obtain⟨p,hp,⟨b,s1,s2⟩,rp⟩:=UU t ns dl S Su;obtain⟨x,hx⟩:=Zf (zY dl.up ll dl.inr S) (zY dl.up ll dl.inr Su) rp;have ht:kN t [.bl b,.bl b] = .ok (.bl true):=by unfold kN;exact bw [some (.bl b),some (.bl b)] (d9 (j8 (un1 (a:=.bl b) rfl (by simp[T8,tyD,rK])) (bZ (a:=.bl b) (b:=.bl b) rfl rfl (by simp[eW,flat,dep,gP]))))
 have er:∀z,(aY x9 (aa (bu 100 (aa (ah 3) (aa (ah 4) (aa (ah 5) ao)))) ao)) [some (iL ns),some (az l),some (bB l),some (az g),some (az u),some p,z] = .ok (.str x):=fun z=>tT (a:=.tup [az g,az u,p]) rfl hx;unfold zN;refine bw [some (iL ns),none,none,none,none,none,none] ?_;rw[aE (st':=[some (iL ns),some (az l),none,none,none,none,none]) (by simp[hl]),
  aE (st':=[some (iL ns),some (az l),some (bB l),none,none,none,none]) (by simp[hB]),
  aE (st':=[some (iL ns),some (az l),some (bB l),some (az g),none,none,none]) (by simp[R5,hg]),
  aE (st':=[some (iL ns),some (az l),some (bB l),some (az g),some (az u),none,none]) (by simp[aR3,hu]),
  aE (st':=[some (iL ns),some (az l),some (bB l),some (az g),some (az u),some p,none]) (by
   unfold J3
   rw[fn4 (a:=iL ns) (b:=az l) (c:=az g) (e:=az u) rfl rfl rfl rfl hp]
   rfl),
  aE (st':=[some (iL ns),some (az l),some (bB l),some (az g),some (az u),some p,some (.str x)]) (d8 (er none)),
  aE (st':=[some (iL ns),some (az l),some (bB l),some (az g),some (az u),some p,some (.str x)]) (by
   rw[gu (xE (b:=true) (oS (a:=.bl b) (b:=.bl b) (fn4 (a:=bB l) (b:=az g) (c:=az u) (e:=p) rfl rfl rfl rfl s1) (fn4 (a:=az l) (b:=az g) (c:=az u) (e:=p) rfl rfl rfl rfl s2) ht))];rfl)]
 exact d9 (j8 (bZ (a:=.str x) (b:=.str x) (er _) rfl (by simp[eW,flat,dep,gP])) (bZ (a:=az l) (b:=az l) (un1 (a:=bB l) rfl (Us l)) rfl (by rw[C3];simp)))
end Pk
end ay3
section Zo
noncomputable section
namespace Hd
open PySem PySem.W PySem.Calls PyProof.Rows
abbrev pq:cP:=PySem.Challenge.pw_pegleap_k11_papers_looked_at
def nth:List aW → Nat → aW
  | [],_=> .Pass ⟨0,0,0,0⟩
  | s::_,0=>s
  | _::r,n+1=>nth r n
def tk:Nat → List aW → List aW
  | 0,_=>[]
  | _,[]=>[]
  | n+1,s::r=>s::tk n r
def dr:Nat → List aW → List aW
  | 0,l=>l
  | _,[]=>[]
  | n+1,_::r=>dr n r
def st(i:Nat):aW:=nth pq.main.body i
def sc(i j:Nat):aW:=match st i with | .ClassDef _ _ _ b _ _ _ _ _ _ _=>nth b j|s=>s
def fN:aW → Str | .FunctionDef n _ _ _ _ _ _ _ _ _=>n|_=>default
def fX(s:aW)(q:Str)(g:av)(cl:List (Str×av))(dv kv doc pm:au)(an:Option av)(cd ct:au)(bi:av):PySem.Data:=match s with | .FunctionDef n a b _ _ _ sc _ _ _=> .func ⟨n,q,a,.stmts b,sc,g,cl,dv,kv,doc,pm,an,cd,ct,bi⟩|_=> .plain
def en(P:dI)(x:Str)(t:Tok)(v:au):DictEntry:=⟨PyData.keyHash P x,.str x t,v⟩
def UW{tb:String → Option Builtin}{p:cP}{w:bF}{n:Nat}{a:Option au}{N:Nat}{s r:ay}{env:Env}{c:Code}{pos:Pos}{B:List Frame}{b b':List aW}(e:b=b')(k:topRun tb p w n a N s (restOf b' env c pos B)=some r):topRun tb p w n a N s (restOf b env c pos B)=some r:=e▸k
noncomputable def tO (vs:Array au):Obj:=⟨.type "tuple",none,.seq vs 0,#[]⟩
noncomputable def cO (n q:Str) (t:Tok) (L a k:Int) (r:av) (b:Bool) (c:av) (x y z:au) (u:Nat):Obj:=⟨.type "code",none,.fields #[.str n t,.str q (t+1),.str "/claim/cut.py" (t+2),.int L 0,.int a 0,.int 0 0,.int 0 0,.int k 0,.ref r,.bool b,.int 181 0,.ref c,.none,x,y,z,.int u 0,.int L 0,.str "/claim/cut.py" (u+1)],#[]⟩
noncomputable def fO (s:aW) (g:av) (m:Str) (t:Tok) (c:av):Obj:=⟨.type "function",none,fX s (fN s) g [] .none .none .none (.str m t) none (.ref c) .none 0,#[]⟩
noncomputable def fZ (s:aW):Obj:=⟨.none,none,fX s (fN s) 0 [] .none .none .none .none none .none .none 0,#[]⟩
abbrev nd(o:Obj)(l r:BT):BT:= .node o l r
abbrev ly(o:Obj):BT:= .node o .nil .nil
def o0:Obj:=tO #[]
def o1:Obj:=⟨.none,none,(.fields #[]),#[]⟩
def o2:Obj:=cO "<module>" "<module>" 182 1 0 0 11 false 12 .none .none .none 185
def o3:Obj:=⟨.type "frame",none,.plain,#[(some (.ref 13)),(some (.ref 3)),(some (.ref 3)),none,(some (.str "__main__" 164)),none,(some (.ref 0))]⟩
def lf0:Life:={}
def Ha(P:dI):aN:=⟨⟨[boot_o_0 P,boot_o_1 P,boot_o_2 P,boot_o_3 P,boot_o_4 P,boot_o_5 P,boot_o_6 P,boot_o_7 P,boot_o_8 P,boot_o_9 P,boot_o_10 P,o0,o1,o2,o3]⟩,lf0⟩
def T0(P:dI):BT:=(nd (boot_o_0 P) (nd (boot_o_1 P) (nd (boot_o_3 P) (ly (boot_o_7 P)) (ly o0)) (nd (boot_o_5 P) (ly (boot_o_9 P)) (ly o2))) (nd (boot_o_2 P) (nd (boot_o_4 P) (ly (boot_o_8 P)) (ly o1)) (nd (boot_o_6 P) (ly (boot_o_10 P)) (ly o3))))
def S0(w:bF)(os:OsState):SharedT:=⟨T0 w.params,15,lf0,#[],⟨0,0,0,0⟩,187,os⟩
def o4(P:dI):Obj:=⟨.type "dict",none,(.dict #[en P "__name__" 165 (.str "pegleap.boards" 255),en P "__doc__" 166 .none,en P "__package__" 167 .none,en P "__loader__" 168 (.builtin "__main__.__loader__#opaque"),en P "__spec__" 169 .none,en P "__annotations__" 170 (.ref 6),en P "__builtins__" 171 (.ref 4),en P "__file__" 173 (.str "/claim/cut.py" 172),en P "__cached__" 174 .none,en P "PegError" 206 (.ref 24),en P "BadBoard" 222 (.ref 37),en P "BadPegs" 238 (.ref 49),en P "BadWeights" 254 (.ref 61),en P "LAST" 258 (.int 7 257),en P "MOST_CELLS" 260 (.int 24 259),en P "is_rising" 267 (.ref 70)] 16),#[]⟩
def o5:Obj:=⟨.none,none,(.fields #[.int 2 0,.int 0 0,.ref 20,.int 4 0,.int 0 0,.ref 33,.int 6 0,.int 0 0,.ref 45,.int 8 0,.int 0 0,.ref 57,.int 13 0,.int 0 0,.ref 69]),#[]⟩
def o6:Obj:=tO #[.type "ValueError"]
def o7:Obj:=⟨.type "builtin_function_or_method",none,(.fields #[.builtin "type.__prepare__",.type "type"]),#[]⟩
def o8(P:dI):Obj:=⟨.type "dict",none,(.dict #[en P "__module__" 196 (.str "pegleap.errors" 187),en P "__qualname__" 198 (.str "PegError" 197),en P "__firstlineno__" 200 (.int 2 199),en P "__static_attributes__" 201 (.ref 22)] 4),#[]⟩
def o9:Obj:=cO "PegError" "PegError" 191 2 0 0 18 false 19 .none .none .none 194
def o10:Obj:=⟨.type "frame",none,.plain,#[(some (.ref 20)),(some (.ref 3)),(some (.ref 17)),none,(some (.str "pegleap.errors" 187)),none,(some (.ref 0))]⟩
def o11(P:dI):Obj:=⟨.type "dict",none,(.dict #[en P "__module__" 196 (.str "pegleap.errors" 187),en P "__firstlineno__" 200 (.int 2 199),en P "__static_attributes__" 201 (.ref 22),en P "__weakref__" 203 (.ref 25),en P "__doc__" 204 .none] 3),#[]⟩
def o12:Obj:=⟨.type "type",none,(.cls ⟨"PegError",[.type "ValueError"],[.ref 24,.type "ValueError",.type "Exception",.type "BaseException",.type "object"],23,"PegError",true,[],[.ref 37,.ref 49,.ref 61],false,none,false⟩),#[(some (.ref 15)),none,(some (.str "PegError" 189)),(some (.str "PegError" 197)),(some (.builtin "ValueError.__new__")),(some (.bool true))]⟩
def o13:Obj:=⟨.type "getset_descriptor",none,(.fields #[.str "__weakref__" 202,.ref 24,.builtin "ExceptionGroup.__weakref__",.none]),#[]⟩
def o14:Obj:=⟨.type "super",none,(.fields #[.ref 24,.ref 24,.ref 24]),#[]⟩
def o15:Obj:=⟨.type "builtin_function_or_method",none,(.fields #[.builtin "object.__init_subclass__",.ref 24]),#[]⟩
def Lq:Obj:=tO #[.ref 24]
def o17(P:dI):Obj:=⟨.type "dict",none,(.dict #[en P "__module__" 214 (.str "pegleap.errors" 187),en P "__qualname__" 216 (.str "BadBoard" 215),en P "__firstlineno__" 218 (.int 4 217),en P "__static_attributes__" 219 (.ref 35)] 4),#[]⟩
def o18:Obj:=cO "BadBoard" "BadBoard" 209 4 0 0 31 false 32 .none .none .none 212
def o19:Obj:=⟨.type "frame",none,.plain,#[(some (.ref 33)),(some (.ref 3)),(some (.ref 30)),none,(some (.str "pegleap.errors" 187)),none,(some (.ref 0))]⟩
def o20(P:dI):Obj:=⟨.type "dict",none,(.dict #[en P "__module__" 214 (.str "pegleap.errors" 187),en P "__firstlineno__" 218 (.int 4 217),en P "__static_attributes__" 219 (.ref 35),en P "__doc__" 220 .none] 2),#[]⟩
def o21:Obj:=⟨.type "type",none,(.cls ⟨"BadBoard",[.ref 24],[.ref 37,.ref 24,.type "ValueError",.type "Exception",.type "BaseException",.type "object"],36,"BadBoard",true,[],[],false,none,false⟩),#[(some (.ref 28)),none,(some (.str "BadBoard" 207)),(some (.str "BadBoard" 215)),(some (.builtin "ValueError.__new__")),(some (.bool true))]⟩
def o22:Obj:=⟨.type "super",none,(.fields #[.ref 37,.ref 37,.ref 37]),#[]⟩
def o23:Obj:=⟨.type "builtin_function_or_method",none,(.fields #[.builtin "object.__init_subclass__",.ref 37]),#[]⟩
def o24(P:dI):Obj:=⟨.type "dict",none,(.dict #[en P "__module__" 230 (.str "pegleap.errors" 187),en P "__qualname__" 232 (.str "BadPegs" 231),en P "__firstlineno__" 234 (.int 6 233),en P "__static_attributes__" 235 (.ref 47)] 4),#[]⟩
def o25:Obj:=cO "BadPegs" "BadPegs" 225 6 0 0 43 false 44 .none .none .none 228
def o26:Obj:=⟨.type "frame",none,.plain,#[(some (.ref 45)),(some (.ref 3)),(some (.ref 42)),none,(some (.str "pegleap.errors" 187)),none,(some (.ref 0))]⟩
def o27(P:dI):Obj:=⟨.type "dict",none,(.dict #[en P "__module__" 230 (.str "pegleap.errors" 187),en P "__firstlineno__" 234 (.int 6 233),en P "__static_attributes__" 235 (.ref 47),en P "__doc__" 236 .none] 2),#[]⟩
def o28:Obj:=⟨.type "type",none,(.cls ⟨"BadPegs",[.ref 24],[.ref 49,.ref 24,.type "ValueError",.type "Exception",.type "BaseException",.type "object"],48,"BadPegs",true,[],[],false,none,false⟩),#[(some (.ref 40)),none,(some (.str "BadPegs" 223)),(some (.str "BadPegs" 231)),(some (.builtin "ValueError.__new__")),(some (.bool true))]⟩
def o29:Obj:=⟨.type "super",none,(.fields #[.ref 49,.ref 49,.ref 49]),#[]⟩
def o30:Obj:=⟨.type "builtin_function_or_method",none,(.fields #[.builtin "object.__init_subclass__",.ref 49]),#[]⟩
def o31(P:dI):Obj:=⟨.type "dict",none,(.dict #[en P "__module__" 246 (.str "pegleap.errors" 187),en P "__qualname__" 248 (.str "BadWeights" 247),en P "__firstlineno__" 250 (.int 8 249),en P "__static_attributes__" 251 (.ref 59)] 4),#[]⟩
def o32:Obj:=cO "BadWeights" "BadWeights" 241 8 0 0 55 false 56 .none .none .none 244
def o33:Obj:=⟨.type "frame",none,.plain,#[(some (.ref 57)),(some (.ref 3)),(some (.ref 54)),none,(some (.str "pegleap.errors" 187)),none,(some (.ref 0))]⟩
def o34(P:dI):Obj:=⟨.type "dict",none,(.dict #[en P "__module__" 246 (.str "pegleap.errors" 187),en P "__firstlineno__" 250 (.int 8 249),en P "__static_attributes__" 251 (.ref 59),en P "__doc__" 252 .none] 2),#[]⟩
def o35:Obj:=⟨.type "type",none,(.cls ⟨"BadWeights",[.ref 24],[.ref 61,.ref 24,.type "ValueError",.type "Exception",.type "BaseException",.type "object"],60,"BadWeights",true,[],[],false,none,false⟩),#[(some (.ref 52)),none,(some (.str "BadWeights" 239)),(some (.str "BadWeights" 247)),(some (.builtin "ValueError.__new__")),(some (.bool true))]⟩
def o36:Obj:=⟨.type "super",none,(.fields #[.ref 61,.ref 61,.ref 61]),#[]⟩
def o37:Obj:=⟨.type "builtin_function_or_method",none,(.fields #[.builtin "object.__init_subclass__",.ref 61]),#[]⟩
def o38:Obj:=tO #[.str "cells" 264]
def o39:Obj:=fZ (st 8)
def o40:Obj:=cO "is_rising" "is_rising" 261 13 1 3 64 true 65 (.ref 66) (.ref 67) (.ref 68) 265
def o41:Obj:=fO (st 8) 3 "pegleap.boards" 255 69
def T1(P:dI):BT:=(nd (boot_o_0 P) (nd (boot_o_1 P) (nd (o4 P) (nd (boot_o_7 P) (nd o6 (nd o0 (ly o37) .nil) (ly o0)) (nd (o11 P) (ly o23) (ly o0))) (nd o0 (nd o1 (nd o0 (ly o0) .nil) (ly o30)) (nd o15 (ly o0) (ly o0)))) (nd (boot_o_5 P) (nd (boot_o_9 P) (nd (o8 P) (nd o18 (ly o1) .nil) (ly o28)) (nd o13 (ly o7) (ly o32))) (nd o2 (nd o10 (nd o21 (ly o40) .nil) (ly o7)) (nd o7 (ly o25) (ly o35))))) (nd (boot_o_2 P) (nd (boot_o_4 P) (nd (boot_o_8 P) (nd o7 (nd o1 (ly o0) .nil) (ly (o27 P))) (nd o12 (ly Lq) (ly o1))) (nd o5 (nd o9 (nd (o20 P) (ly o39) .nil) (ly Lq)) (nd Lq (ly o1) (ly (o34 P))))) (nd (boot_o_6 P) (nd (boot_o_10 P) (nd o0 (nd o19 (ly o38) .nil) (ly o29)) (nd o14 (ly (o24 P)) (ly o33))) (nd o3 (nd o0 (nd o22 (ly o41) .nil) (ly (o31 P))) (nd (o17 P) (ly o26) (ly o36))))))
def S1(w:bF)(os:OsState):SharedT:=⟨T1 w.params,71,lf0,#[],⟨0,0,0,0⟩,268,os⟩
def o42(P:dI):Obj:=⟨.type "dict",none,(.dict #[en P "__name__" 165 (.str "law_pegleap_k11_papers_looked_at" 472),en P "__doc__" 166 .none,en P "__package__" 167 .none,en P "__loader__" 168 (.builtin "__main__.__loader__#opaque"),en P "__spec__" 169 .none,en P "__annotations__" 170 (.ref 6),en P "__builtins__" 171 (.ref 4),en P "__file__" 173 (.str "/claim/cut.py" 172),en P "__cached__" 174 .none,en P "PegError" 206 (.ref 24),en P "BadBoard" 222 (.ref 37),en P "BadPegs" 238 (.ref 49),en P "BadWeights" 254 (.ref 61),en P "LAST" 258 (.int 7 257),en P "MOST_CELLS" 260 (.int 24 259),en P "is_rising" 267 (.ref 70),en P "is_cell" 274 (.ref 77),en P "check_cells" 282 (.ref 84),en P "Board" 311 (.ref 101),en P "check_pegs" 320 (.ref 112),en P "two_apart" 329 (.ref 119),en P "between" 337 (.ref 126),en P "leaps" 347 (.ref 133),en P "COLOURS" 351 (.int 3 350),en P "can_be_done" 359 (.ref 140),en P "pegs_behind" 365 (.ref 145),en P "odd_on" 371 (.ref 150),en P "class_of" 377 (.ref 155),en P "LEAST" 382 (.int (-1000) 381),en P "MOST" 384 (.int 1000 383),en P "check_weights" 393 (.ref 162),en P "fair" 403 (.ref 169),en P "weight" 409 (.ref 174),en P "steps_from" 417 (.ref 179),en P "holds" 427 (.ref 186),en P "weights_hold" 438 (.ref 193),en P "closed_holds" 448 (.ref 200),en P "all_standings" 457 (.ref 207),en P "is_closed" 471 (.ref 214),en P "_law_cell_at" 481 (.ref 221)] 40),#[]⟩
def o43:Obj:=⟨.none,none,(.fields #[.int 2 0,.int 0 0,.ref 20,.int 4 0,.int 0 0,.ref 33,.int 6 0,.int 0 0,.ref 45,.int 8 0,.int 0 0,.ref 57,.int 13 0,.int 0 0,.ref 69,.int 15 0,.int 0 0,.ref 76,.int 17 0,.int 0 0,.ref 83,.int 25 0,.int 0 0,.ref 90,.int 30 0,.int 0 0,.ref 111,.int 36 0,.int 0 0,.ref 118,.int 40 0,.int 0 0,.ref 125,.int 42 0,.int 0 0,.ref 132,.int 51 0,.int 0 0,.ref 139,.int 53 0,.int 0 0,.ref 144,.int 56 0,.int 0 0,.ref 149,.int 58 0,.int 0 0,.ref 154,.int 66 0,.int 0 0,.ref 161,.int 72 0,.int 0 0,.ref 168,.int 79 0,.int 0 0,.ref 173,.int 85 0,.int 0 0,.ref 178,.int 87 0,.int 0 0,.ref 185,.int 95 0,.int 0 0,.ref 192,.int 101 0,.int 0 0,.ref 199,.int 105 0,.int 0 0,.ref 206,.int 112 0,.int 0 0,.ref 213,.int 123 0,.int 0 0,.ref 220]),#[]⟩
def o44:Obj:=tO #[.str "cell" 271]
def o45:Obj:=fZ (st 9)
def o46:Obj:=cO "is_cell" "is_cell" 268 15 1 3 71 true 72 (.ref 73) (.ref 74) (.ref 75) 272
def o47:Obj:=fO (st 9) 3 "pegleap.boards" 255 76
def o48:Obj:=tO #[.str "cells" 278,.str "cell" 279]
def o49:Obj:=fZ (st 10)
def o50:Obj:=cO "check_cells" "check_cells" 275 17 1 3 78 true 79 (.ref 80) (.ref 81) (.ref 82) 280
def o51:Obj:=fO (st 10) 3 "pegleap.boards" 255 83
def o52(P:dI):Obj:=⟨.type "dict",none,(.dict #[en P "__module__" 290 (.str "pegleap.boards" 255),en P "__qualname__" 292 (.str "Board" 291),en P "__firstlineno__" 294 (.int 25 293),en P "__init__" 302 (.ref 98),en P "__static_attributes__" 304 (.ref 99)] 5),#[]⟩
def o53:Obj:=⟨.none,none,(.fields #[.int 27 0,.int 4 0,.ref 97]),#[]⟩
def o54:Obj:=cO "Board" "Board" 285 25 0 0 88 false 89 .none .none .none 288
def o55:Obj:=⟨.type "frame",none,.plain,#[(some (.ref 90)),(some (.ref 3)),(some (.ref 87)),none,(some (.str "pegleap.boards" 255)),none,(some (.ref 0))]⟩
def o56:Obj:=tO #[.str "self" 298,.str "cells" 299]
def o57:Obj:=⟨.none,none,(fX (sc 11 0) "Board.__init__" 0 [] .none .none .none .none none .none .none 0),#[]⟩
def o58:Obj:=cO "__init__" "Board.__init__" 295 27 2 3 92 true 93 (.ref 94) (.ref 95) (.ref 96) 300
def o59:Obj:=⟨.type "function",none,(fX (sc 11 0) "Board.__init__" 3 [] .none .none .none (.str "pegleap.boards" 255) none (.ref 97) .none 0),#[]⟩
def o60:Obj:=tO #[.str "cells" 303]
def o61(P:dI):Obj:=⟨.type "dict",none,(.dict #[en P "__module__" 290 (.str "pegleap.boards" 255),en P "__firstlineno__" 294 (.int 25 293),en P "__init__" 302 (.ref 98),en P "__static_attributes__" 304 (.ref 99),en P "__dict__" 306 (.ref 102),en P "__weakref__" 308 (.ref 103),en P "__doc__" 309 .none] 4),#[]⟩
def o62:Obj:=⟨.type "type",none,(.cls ⟨"Board",[.type "object"],[.ref 101,.type "object"],100,"Board",true,[],[],false,none,false⟩),#[none,none,(some (.str "Board" 283)),(some (.str "Board" 291)),(some (.builtin "object.__new__")),(some (.bool true))]⟩
def o63:Obj:=⟨.type "getset_descriptor",none,(.fields #[.str "__dict__" 305,.ref 101,.builtin "function.__dict__",.builtin "function.__dict__#set"]),#[]⟩
def o64:Obj:=⟨.type "getset_descriptor",none,(.fields #[.str "__weakref__" 307,.ref 101,.builtin "ExceptionGroup.__weakref__",.none]),#[]⟩
def o65:Obj:=⟨.type "super",none,(.fields #[.ref 101,.ref 101,.ref 101]),#[]⟩
def o66:Obj:=⟨.type "builtin_function_or_method",none,(.fields #[.builtin "object.__init_subclass__",.ref 101]),#[]⟩
def o67:Obj:=tO #[.str "board" 315,.str "pegs" 316,.str "cell" 317]
def o68:Obj:=fZ (st 12)
def o69:Obj:=cO "check_pegs" "check_pegs" 312 30 2 3 106 true 107 (.ref 108) (.ref 109) (.ref 110) 318
def o70:Obj:=fO (st 12) 3 "pegleap.boards" 255 111
def o71:Obj:=tO #[.str "cell" 324,.str "row" 325,.str "column" 326]
def o72:Obj:=fZ (st 13)
def o73:Obj:=cO "two_apart" "two_apart" 321 36 1 3 113 true 114 (.ref 115) (.ref 116) (.ref 117) 327
def o74:Obj:=fO (st 13) 3 "pegleap.boards" 255 118
def o75:Obj:=tO #[.str "cell" 333,.str "other" 334]
def o76:Obj:=fZ (st 14)
def o77:Obj:=cO "between" "between" 330 40 2 3 120 true 121 (.ref 122) (.ref 123) (.ref 124) 335
def o78:Obj:=fO (st 14) 3 "pegleap.boards" 255 125
def o79:Obj:=tO #[.str "board" 341,.str "found" 342,.str "first" 343,.str "second" 344]
def o80:Obj:=fZ (st 15)
def o81:Obj:=cO "leaps" "leaps" 338 42 1 3 127 true 128 (.ref 129) (.ref 130) (.ref 131) 345
def o82:Obj:=fO (st 15) 3 "pegleap.boards" 255 132
def o83:Obj:=tO #[.str "pegs" 355,.str "leap" 356]
def o84:Obj:=fZ (st 18)
def o85:Obj:=cO "can_be_done" "can_be_done" 352 51 2 3 134 true 135 (.ref 136) (.ref 137) (.ref 138) 357
def o86:Obj:=fO (st 18) 3 "pegleap.standings" 348 139
def o87:Obj:=fZ (st 19)
def o88:Obj:=cO "pegs_behind" "pegs_behind" 360 53 2 3 141 true 142 .none .none (.ref 143) 363
def o89:Obj:=fO (st 19) 3 "pegleap.standings" 348 144
def o90:Obj:=fZ (st 20)
def o91:Obj:=cO "odd_on" "odd_on" 366 56 2 3 146 true 147 .none .none (.ref 148) 369
def o92:Obj:=fO (st 20) 3 "pegleap.standings" 348 149
def o93:Obj:=fZ (st 21)
def o94:Obj:=cO "class_of" "class_of" 372 58 2 3 151 true 152 .none .none (.ref 153) 375
def o95:Obj:=fO (st 21) 3 "pegleap.standings" 348 154
def o96:Obj:=tO #[.str "board" 388,.str "weights" 389,.str "number" 390]
def o97:Obj:=fZ (st 25)
def o98:Obj:=cO "check_weights" "check_weights" 385 66 2 3 156 true 157 (.ref 158) (.ref 159) (.ref 160) 391
def o99:Obj:=fO (st 25) 3 "pegleap.weights" 378 161
def Zp:Obj:=tO #[.str "board" 397,.str "weights" 398,.str "by_cell" 399,.str "leap" 400]
def Zq:Obj:=fZ (st 26)
def UX:Obj:=cO "fair" "fair" 394 72 2 3 163 true 164 (.ref 165) (.ref 166) (.ref 167) 401
def UY:Obj:=fO (st 26) 3 "pegleap.weights" 378 168
def Zr:Obj:=fZ (st 27)
def UZ:Obj:=cO "weight" "weight" 404 79 3 3 170 true 171 .none .none (.ref 172) 407
def V0:Obj:=fO (st 27) 3 "pegleap.weights" 378 173
def Zs:Obj:=fZ (st 29)
def V1:Obj:=cO "steps_from" "steps_from" 412 85 2 3 175 true 176 .none .none (.ref 177) 415
def V2:Obj:=fO (st 29) 3 "pegleap.search" 410 178
def Zt:Obj:=tO #[.str "board" 421,.str "pegs" 422,.str "others" 423,.str "paper" 424]
def Zu:Obj:=fZ (st 30)
def V3:Obj:=cO "holds" "holds" 418 87 4 3 180 true 181 (.ref 182) (.ref 183) (.ref 184) 425
def V4:Obj:=fO (st 30) 3 "pegleap.search" 410 185
def Zv:Obj:=tO #[.str "board" 431,.str "pegs" 432,.str "others" 433,.str "weights" 434,.str "is_fair" 435]
def Zw:Obj:=fZ (st 31)
def V5:Obj:=cO "weights_hold" "weights_hold" 428 95 4 3 187 true 188 (.ref 189) (.ref 190) (.ref 191) 436
def V6:Obj:=fO (st 31) 3 "pegleap.search" 410 192
def Zx:Obj:=tO #[.str "board" 442,.str "pegs" 443,.str "others" 444,.str "standings" 445]
def Zy:Obj:=fZ (st 32)
def V7:Obj:=cO "closed_holds" "closed_holds" 439 101 4 3 194 true 195 (.ref 196) (.ref 197) (.ref 198) 446
def V8:Obj:=fO (st 32) 3 "pegleap.search" 410 199
def Zz:Obj:=tO #[.str "board" 452,.str "standings" 453,.str "pegs" 454]
def ZA:Obj:=fZ (st 33)
def V9:Obj:=cO "all_standings" "all_standings" 449 105 2 3 201 true 202 (.ref 203) (.ref 204) (.ref 205) 455
def Va:Obj:=fO (st 33) 3 "pegleap.search" 410 206
def ZC:Obj:=tO #[.str "board" 461,.str "standings" 462,.str "all_leaps" 463,.str "among" 464,.str "pegs" 465,.str "standing" 466,.str "leap" 467,.str "behind" 468]
def ZD:Obj:=fZ (st 34)
def Vb:Obj:=cO "is_closed" "is_closed" 458 112 2 3 208 true 209 (.ref 210) (.ref 211) (.ref 212) 469
def Vc:Obj:=fO (st 34) 3 "pegleap.search" 410 213
def ZE:Obj:=tO #[.str "script" 477,.str "k" 478]
def ZF:Obj:=fZ (st 36)
def Vd:Obj:=cO "_law_cell_at" "_law_cell_at" 474 123 2 3 215 true 216 (.ref 217) (.ref 218) (.ref 219) 479
def Ve:Obj:=fO (st 36) 3 "law_pegleap_k11_papers_looked_at" 472 220
def T2(P:dI):BT:=(nd (boot_o_0 P) (nd (boot_o_1 P) (nd (o42 P) (nd (boot_o_7 P) (nd o6 (nd o0 (nd o37 (ly o0) (ly Zw)) (nd o0 (ly o0) .nil)) (nd o0 (nd o1 (ly o87) (ly Va)) (nd o69 (ly o0) .nil))) (nd (o11 P) (nd o23 (nd o0 (ly o1) (ly V7)) (nd o64 (ly Zq) .nil)) (nd o0 (nd (o52 P) (ly o0) (ly o0)) (nd o74 (ly o0) .nil)))) (nd o0 (nd o1 (nd o0 (nd o0 (ly o80) (ly o1)) (nd o60 (ly o0) .nil)) (nd o30 (nd o50 (ly o1) (ly o0)) (nd o71 (ly V2) .nil))) (nd o15 (nd o0 (nd o45 (ly o85) (ly Zz)) (nd o1 (ly o1) .nil)) (nd o0 (nd o55 (ly o95) (ly ZF)) (nd o0 (ly o0) .nil))))) (nd (boot_o_5 P) (nd (boot_o_9 P) (nd (o8 P) (nd o18 (nd o1 (ly o79) (ly V6)) (nd o58 (ly o98) .nil)) (nd o28 (nd o0 (ly o89) (ly o1)) (nd o0 (ly Zs) .nil))) (nd o13 (nd o7 (nd o44 (ly o0) (ly o0)) (nd o66 (ly UY) .nil)) (nd o32 (nd o53 (ly o93) (ly ZE)) (nd o1 (ly V3) .nil)))) (nd o2 (nd o10 (nd o21 (nd o40 (ly o82) (ly o0)) (nd o62 (ly Zp) .nil)) (nd o7 (nd o0 (ly o91) (ly Vb)) (nd o72 (ly o1) .nil))) (nd o7 (nd o25 (nd o47 (ly o0) (ly ZA)) (nd o0 (ly UZ) .nil)) (nd o35 (nd o1 (ly o1) (ly Ve)) (nd o77 (ly Zv) .nil)))))) (nd (boot_o_2 P) (nd (boot_o_4 P) (nd (boot_o_8 P) (nd o7 (nd o1 (nd o0 (ly o1) (ly V5)) (nd o57 (ly o97) .nil)) (nd (o27 P) (nd o48 (ly o88) (ly o0)) (nd o70 (ly o1) .nil))) (nd o12 (nd Lq (nd o1 (ly o83) (ly V8)) (nd o65 (ly UX) .nil)) (nd o1 (nd o0 (ly o1) (ly o1)) (nd o0 (ly Zu) .nil)))) (nd o43 (nd o9 (nd (o20 P) (nd o39 (ly o81) (ly Zx)) (nd (o61 P) (ly o1) .nil)) (nd Lq (nd o51 (ly o90) (ly ZD)) (nd o0 (ly o0) .nil))) (nd Lq (nd o1 (nd o46 (ly o86) (ly o0)) (nd o67 (ly Zr) .nil)) (nd (o34 P) (nd o0 (ly o0) (ly Vd)) (nd o76 (ly o1) .nil))))) (nd (boot_o_6 P) (nd (boot_o_10 P) (nd o0 (nd o19 (nd o38 (ly o0) (ly o0)) (nd o59 (ly o99) .nil)) (nd o29 (nd o49 (ly o0) (ly ZC)) (nd o1 (ly V1) .nil))) (nd o14 (nd (o24 P) (nd o0 (ly o84) (ly o1)) (nd o0 (ly o0) .nil)) (nd o33 (nd o54 (ly o94) (ly o0)) (nd o75 (ly V4) .nil)))) (nd o3 (nd o0 (nd o22 (nd o41 (ly o0) (ly Zy)) (nd o63 (ly o0) .nil)) (nd (o31 P) (nd o7 (ly o92) (ly Vc)) (nd o73 (ly Zt) .nil))) (nd (o17 P) (nd o26 (nd o0 (ly o1) (ly V9)) (nd o68 (ly V0) .nil)) (nd o36 (nd o56 (ly o96) .nil) (nd o78 (ly o0) .nil)))))))
def S2(w:bF)(os:OsState):SharedT:=⟨T2 w.params,222,lf0,#[],⟨0,0,0,0⟩,482,os⟩
def ZG(P:dI):Obj:=⟨.type "dict",none,(.dict #[en P "__name__" 165 (.str "law_pegleap_k11_papers_looked_at" 472),en P "__doc__" 166 .none,en P "__package__" 167 .none,en P "__loader__" 168 (.builtin "__main__.__loader__#opaque"),en P "__spec__" 169 .none,en P "__annotations__" 170 (.ref 6),en P "__builtins__" 171 (.ref 4),en P "__file__" 173 (.str "/claim/cut.py" 172),en P "__cached__" 174 .none,en P "PegError" 206 (.ref 24),en P "BadBoard" 222 (.ref 37),en P "BadPegs" 238 (.ref 49),en P "BadWeights" 254 (.ref 61),en P "LAST" 258 (.int 7 257),en P "MOST_CELLS" 260 (.int 24 259),en P "is_rising" 267 (.ref 70),en P "is_cell" 274 (.ref 77),en P "check_cells" 282 (.ref 84),en P "Board" 311 (.ref 101),en P "check_pegs" 320 (.ref 112),en P "two_apart" 329 (.ref 119),en P "between" 337 (.ref 126),en P "leaps" 347 (.ref 133),en P "COLOURS" 351 (.int 3 350),en P "can_be_done" 359 (.ref 140),en P "pegs_behind" 365 (.ref 145),en P "odd_on" 371 (.ref 150),en P "class_of" 377 (.ref 155),en P "LEAST" 382 (.int (-1000) 381),en P "MOST" 384 (.int 1000 383),en P "check_weights" 393 (.ref 162),en P "fair" 403 (.ref 169),en P "weight" 409 (.ref 174),en P "steps_from" 417 (.ref 179),en P "holds" 427 (.ref 186),en P "weights_hold" 438 (.ref 193),en P "closed_holds" 448 (.ref 200),en P "all_standings" 457 (.ref 207),en P "is_closed" 471 (.ref 214),en P "_law_cell_at" 481 (.ref 221),en P "_law_mix" 492 (.ref 228),en P "_law_told" 500 (.ref 235),en P "_law_cells_by" 515 (.ref 242),en P "_law_pegs_by" 521 (.ref 247),en P "_law_between" 528 (.ref 254),en P "_law_leaps" 539 (.ref 261),en P "_law_open" 550 (.ref 268),en P "_law_behind" 556 (.ref 273),en P "_law_reach" 568 (.ref 280),en P "_law_class" 574 (.ref 285),en P "_law_weights_by" 580 (.ref 290),en P "_law_raised" 595 (.ref 297),en P "_law_fair" 606 (.ref 304),en P "_law_weight" 612 (.ref 309),en P "_law_holds" 618 (.ref 314),en P "_law_paper_by" 624 (.ref 319),en P "law" 637 (.ref 326)] 57),#[]⟩
def ay5:Obj:=⟨.none,none,(.fields #[.int 2 0,.int 0 0,.ref 20,.int 4 0,.int 0 0,.ref 33,.int 6 0,.int 0 0,.ref 45,.int 8 0,.int 0 0,.ref 57,.int 13 0,.int 0 0,.ref 69,.int 15 0,.int 0 0,.ref 76,.int 17 0,.int 0 0,.ref 83,.int 25 0,.int 0 0,.ref 90,.int 30 0,.int 0 0,.ref 111,.int 36 0,.int 0 0,.ref 118,.int 40 0,.int 0 0,.ref 125,.int 42 0,.int 0 0,.ref 132,.int 51 0,.int 0 0,.ref 139,.int 53 0,.int 0 0,.ref 144,.int 56 0,.int 0 0,.ref 149,.int 58 0,.int 0 0,.ref 154,.int 66 0,.int 0 0,.ref 161,.int 72 0,.int 0 0,.ref 168,.int 79 0,.int 0 0,.ref 173,.int 85 0,.int 0 0,.ref 178,.int 87 0,.int 0 0,.ref 185,.int 95 0,.int 0 0,.ref 192,.int 101 0,.int 0 0,.ref 199,.int 105 0,.int 0 0,.ref 206,.int 112 0,.int 0 0,.ref 213,.int 123 0,.int 0 0,.ref 220,.int 127 0,.int 0 0,.ref 227,.int 132 0,.int 0 0,.ref 234,.int 134 0,.int 0 0,.ref 241,.int 147 0,.int 0 0,.ref 246,.int 153 0,.int 0 0,.ref 253,.int 155 0,.int 0 0,.ref 260,.int 163 0,.int 0 0,.ref 267,.int 169 0,.int 0 0,.ref 272,.int 172 0,.int 0 0,.ref 279,.int 182 0,.int 0 0,.ref 284,.int 189 0,.int 0 0,.ref 289,.int 192 0,.int 0 0,.ref 296,.int 200 0,.int 0 0,.ref 303,.int 206 0,.int 0 0,.ref 308,.int 208 0,.int 0 0,.ref 313,.int 227 0,.int 0 0,.ref 318,.int 257 0,.int 0 0,.ref 325]),#[]⟩
def ay6:Obj:=tO #[.str "cell" 485,.str "k" 486,.str "many" 487,.str "some" 488,.str "number" 489]
def ay7:Obj:=fZ (st 37)
def ZH:Obj:=cO "_law_mix" "_law_mix" 482 127 3 3 222 true 223 (.ref 224) (.ref 225) (.ref 226) 490
def ZI:Obj:=fO (st 37) 3 "law_pegleap_k11_papers_looked_at" 472 227
def ay8:Obj:=tO #[.str "found" 496,.str "due" 497]
def ay9:Obj:=fZ (st 38)
def ZJ:Obj:=cO "_law_told" "_law_told" 493 132 2 3 229 true 230 (.ref 231) (.ref 232) (.ref 233) 498
def ZK:Obj:=fO (st 38) 3 "law_pegleap_k11_papers_looked_at" 472 234
def az0:Obj:=tO #[.str "script" 504,.str "most" 505,.str "cell" 506,.str "height" 507,.str "width" 508,.str "down" 509,.str "across" 510,.str "some" 511,.str "k" 512]
def az1:Obj:=fZ (st 39)
def ZL:Obj:=cO "_law_cells_by" "_law_cells_by" 501 134 2 3 236 true 237 (.ref 238) (.ref 239) (.ref 240) 513
def ZM:Obj:=fO (st 39) 3 "law_pegleap_k11_papers_looked_at" 472 241
def az2:Obj:=fZ (st 40)
def ZN:Obj:=cO "_law_pegs_by" "_law_pegs_by" 516 147 2 3 243 true 244 .none .none (.ref 245) 519
def ZO:Obj:=fO (st 40) 3 "law_pegleap_k11_papers_looked_at" 472 246
def az3:Obj:=tO #[.str "leap" 525]
def az4:Obj:=fZ (st 41)
def ZP:Obj:=cO "_law_between" "_law_between" 522 153 1 3 248 true 249 (.ref 250) (.ref 251) (.ref 252) 526
def ZQ:Obj:=fO (st 41) 3 "law_pegleap_k11_papers_looked_at" 472 253
def az5:Obj:=tO #[.str "cells" 532,.str "found" 533,.str "one" 534,.str "two" 535,.str "apart" 536]
def az6:Obj:=fZ (st 42)
def ZR:Obj:=cO "_law_leaps" "_law_leaps" 529 155 1 3 255 true 256 (.ref 257) (.ref 258) (.ref 259) 537
def ZS:Obj:=fO (st 42) 3 "law_pegleap_k11_papers_looked_at" 472 260
def az7:Obj:=tO #[.str "cells" 543,.str "pegs" 544,.str "found" 545,.str "one" 546,.str "two" 547]
def az8:Obj:=fZ (st 43)
def ZT:Obj:=cO "_law_open" "_law_open" 540 163 2 3 262 true 263 (.ref 264) (.ref 265) (.ref 266) 548
def ZU:Obj:=fO (st 43) 3 "law_pegleap_k11_papers_looked_at" 472 267
def az9:Obj:=fZ (st 44)
def ZV:Obj:=cO "_law_behind" "_law_behind" 551 169 2 3 269 true 270 .none .none (.ref 271) 554
def ZW:Obj:=fO (st 44) 3 "law_pegleap_k11_papers_looked_at" 472 272
def aA0:Obj:=tO #[.str "cells" 560,.str "pegs" 561,.str "found" 562,.str "at" 563,.str "leap" 564,.str "behind" 565]
def aA1:Obj:=fZ (st 45)
def ZX:Obj:=cO "_law_reach" "_law_reach" 557 172 2 3 274 true 275 (.ref 276) (.ref 277) (.ref 278) 566
def ZY:Obj:=fO (st 45) 3 "law_pegleap_k11_papers_looked_at" 472 279
def aA2:Obj:=fZ (st 46)
def ZZ:Obj:=cO "_law_class" "_law_class" 569 182 1 3 281 true 282 .none .none (.ref 283) 572
def aa0:Obj:=fO (st 46) 3 "law_pegleap_k11_papers_looked_at" 472 284
def aA3:Obj:=fZ (st 47)
def aa1:Obj:=cO "_law_weights_by" "_law_weights_by" 575 189 2 3 286 true 287 .none .none (.ref 288) 578
def aa2:Obj:=fO (st 47) 3 "law_pegleap_k11_papers_looked_at" 472 289
def aA4:Obj:=tO #[.str "cells" 584,.str "weights" 585,.str "found" 586,.str "turn" 587,.str "one" 588,.str "two" 589,.str "a" 590,.str "b" 591,.str "c" 592]
def aA5:Obj:=fZ (st 48)
def aa3:Obj:=cO "_law_raised" "_law_raised" 581 192 2 3 291 true 292 (.ref 293) (.ref 294) (.ref 295) 593
def aa4:Obj:=fO (st 48) 3 "law_pegleap_k11_papers_looked_at" 472 296
def aA6:Obj:=tO #[.str "cells" 599,.str "weights" 600,.str "one" 601,.str "two" 602,.str "left" 603]
def aA7:Obj:=fZ (st 49)
def aa5:Obj:=cO "_law_fair" "_law_fair" 596 200 2 3 298 true 299 (.ref 300) (.ref 301) (.ref 302) 604
def aa6:Obj:=fO (st 49) 3 "law_pegleap_k11_papers_looked_at" 472 303
def aA8:Obj:=fZ (st 50)
def aa7:Obj:=cO "_law_weight" "_law_weight" 607 206 3 3 305 true 306 .none .none (.ref 307) 610
def aa8:Obj:=fO (st 50) 3 "law_pegleap_k11_papers_looked_at" 472 308
def aA9:Obj:=fZ (st 51)
def aa9:Obj:=cO "_law_holds" "_law_holds" 613 208 4 3 310 true 311 .none .none (.ref 312) 616
def ab0:Obj:=fO (st 51) 3 "law_pegleap_k11_papers_looked_at" 472 313
def aB0:Obj:=fZ (st 52)
def ab1:Obj:=cO "_law_paper_by" "_law_paper_by" 619 227 4 3 315 true 316 .none .none (.ref 317) 622
def ab2:Obj:=fO (st 52) 3 "law_pegleap_k11_papers_looked_at" 472 318
def aB1:Obj:=tO #[.str "script" 628,.str "cells" 629,.str "board" 630,.str "pegs" 631,.str "others" 632,.str "paper" 633,.str "kept" 634]
def aB2:Obj:=fZ (st 53)
def ab3:Obj:=cO "law" "law" 625 257 1 3 320 true 321 (.ref 322) (.ref 323) (.ref 324) 635
def ab4:Obj:=fO (st 53) 3 "law_pegleap_k11_papers_looked_at" 472 325
def T3(P:dI):BT:=(nd (boot_o_0 P) (nd (boot_o_1 P) (nd (ZG P) (nd (boot_o_7 P) (nd o6 (nd o0 (nd o37 (nd o0 (ly o0) .nil) (nd Zw (ly ab2) .nil)) (nd o0 (nd o0 (ly o1) .nil) (ly o1))) (nd o0 (nd o1 (nd o87 (ly az9) .nil) (ly Va)) (nd o69 (nd o0 (ly aa5) .nil) (ly o0)))) (nd (o11 P) (nd o23 (nd o0 (nd o1 (ly o1) .nil) (ly V7)) (nd o64 (nd Zq (ly aA5) .nil) (ly ay8))) (nd o0 (nd (o52 P) (nd o0 (ly ZX) .nil) (ly o0)) (nd o74 (nd o0 (ly o1) .nil) (ly ZO))))) (nd o0 (nd o1 (nd o0 (nd o0 (nd o80 (ly az6) .nil) (nd o1 (ly o0) .nil)) (nd o60 (nd o0 (ly o0) .nil) (ly ZH))) (nd o30 (nd o50 (nd o1 (ly o1) .nil) (ly o0)) (nd o71 (nd V2 (ly aA8) .nil) (ly o0)))) (nd o15 (nd o0 (nd o45 (nd o85 (ly ZT) .nil) (ly Zz)) (nd o1 (nd o1 (ly o1) .nil) (ly ZK))) (nd o0 (nd o55 (nd o95 (ly aA2) .nil) (ly ZF)) (nd o0 (nd o0 (ly o0) .nil) (ly o0)))))) (nd (boot_o_5 P) (nd (boot_o_9 P) (nd (o8 P) (nd o18 (nd o1 (nd o79 (ly az5) .nil) (nd V6 (ly o1) .nil)) (nd o58 (nd o98 (ly aa1) .nil) (ly o0))) (nd o28 (nd o0 (nd o89 (ly ZW) .nil) (ly o1)) (nd o0 (nd Zs (ly o0) .nil) (ly ZL)))) (nd o13 (nd o7 (nd o44 (nd o0 (ly o0) .nil) (ly o0)) (nd o66 (nd UY (ly aa4) .nil) (ly ay9))) (nd o32 (nd o53 (nd o93 (ly o0) .nil) (ly ZE)) (nd o1 (nd V3 (ly aa9) .nil) (ly o1))))) (nd o2 (nd o10 (nd o21 (nd o40 (nd o82 (ly ZS) .nil) (nd o0 (ly ab3) .nil)) (nd o62 (nd Zp (ly aA4) .nil) (ly o0))) (nd o7 (nd o0 (nd o91 (ly o0) .nil) (ly Vb)) (nd o72 (nd o1 (ly aa8) .nil) (ly az2)))) (nd o7 (nd o25 (nd o47 (nd o0 (ly o0) .nil) (ly ZA)) (nd o0 (nd UZ (ly o0) .nil) (ly o1))) (nd o35 (nd o1 (nd o1 (ly aa0) .nil) (ly Ve)) (nd o77 (nd Zv (ly aB0) .nil) (ly ZP))))))) (nd (boot_o_2 P) (nd (boot_o_4 P) (nd (boot_o_8 P) (nd o7 (nd o1 (nd o0 (nd o1 (ly o1) .nil) (nd V5 (ly o0) .nil)) (nd o57 (nd o97 (ly aA3) .nil) (ly ay6))) (nd (o27 P) (nd o48 (nd o88 (ly ZV) .nil) (ly o0)) (nd o70 (nd o1 (ly aa6) .nil) (ly az1)))) (nd o12 (nd Lq (nd o1 (nd o83 (ly az7) .nil) (ly V8)) (nd o65 (nd UX (ly aa3) .nil) (ly o0))) (nd o1 (nd o0 (nd o1 (ly ZY) .nil) (ly o1)) (nd o0 (nd Zu (ly aA9) .nil) (ly o0))))) (nd ay5 (nd o9 (nd (o20 P) (nd o39 (nd o81 (ly ZR) .nil) (nd Zx (ly aB2) .nil)) (nd (o61 P) (nd o1 (ly o1) .nil) (ly ZI))) (nd Lq (nd o51 (nd o90 (ly aA0) .nil) (ly ZD)) (nd o0 (nd o0 (ly aa7) .nil) (ly o1)))) (nd Lq (nd o1 (nd o46 (nd o86 (ly ZU) .nil) (ly o0)) (nd o67 (nd Zr (ly aA6) .nil) (ly o0))) (nd (o34 P) (nd o0 (nd o0 (ly ZZ) .nil) (ly Vd)) (nd o76 (nd o1 (ly o1) .nil) (ly az4)))))) (nd (boot_o_6 P) (nd (boot_o_10 P) (nd o0 (nd o19 (nd o38 (nd o0 (ly o0) .nil) (nd o0 (ly aB1) .nil)) (nd o59 (nd o99 (ly aa2) .nil) (ly ay7))) (nd o29 (nd o49 (nd o0 (ly o0) .nil) (ly ZC)) (nd o1 (nd V1 (ly o1) .nil) (ly ZM)))) (nd o14 (nd (o24 P) (nd o0 (nd o84 (ly az8) .nil) (ly o1)) (nd o0 (nd o0 (ly o0) .nil) (ly ZJ))) (nd o33 (nd o54 (nd o94 (ly o1) .nil) (ly o0)) (nd o75 (nd V4 (ly ab0) .nil) (ly az3))))) (nd o3 (nd o0 (nd o22 (nd o41 (nd o0 (ly o0) .nil) (nd Zy (ly ab4) .nil)) (nd o63 (nd o0 (ly o0) .nil) (ly o1))) (nd (o31 P) (nd o7 (nd o92 (ly aA1) .nil) (ly Vc)) (nd o73 (nd Zt (ly o0) .nil) (ly ZN)))) (nd (o17 P) (nd o26 (nd o0 (nd o1 (ly o1) .nil) (ly V9)) (nd o68 (nd V0 (ly aA7) .nil) (ly az0))) (nd o36 (nd o56 (nd o96 (ly o0) .nil) (ly o0)) (nd o78 (nd o0 (ly ab1) .nil) (ly ZQ))))))))
def S3(w:bF)(os:OsState):SharedT:=⟨T3 w.params,327,lf0,#[],⟨0,0,0,0⟩,638,os⟩
def H1(P:dI):aN:=⟨⟨[boot_o_0 P,boot_o_1 P,boot_o_2 P,ZG P,boot_o_4 P,boot_o_5 P,boot_o_6 P,boot_o_7 P,boot_o_8 P,boot_o_9 P,boot_o_10 P,o0,ay5,o2,o3,o6,o7,o8 P,o0,o1,o9,o10,o0,o11 P,o12,o13,o14,o15,Lq,o7,o17 P,o0,o1,o18,o19,o0,o20 P,o21,o22,o23,Lq,o7,o24 P,o0,o1,o25,o26,o0,o27 P,o28,o29,o30,Lq,o7,o31 P,o0,o1,o32,o33,o0,o34 P,o35,o36,o37,o0,o1,o38,o0,o39,o40,o41,o0,o1,o44,o0,o45,o46,o47,o0,o1,o48,o0,o49,o50,o51,o0,o7,o52 P,o0,o53,o54,o55,o0,o1,o56,o0,o57,o58,o59,o60,o61 P,o62,o63,o64,o65,o66,o0,o1,o67,o0,o68,o69,o70,o0,o1,o71,o0,o72,o73,o74,o0,o1,o75,o0,o76,o77,o78,o0,o1,o79,o0,o80,o81,o82,o0,o1,o83,o0,o84,o85,o86,o0,o1,o87,o88,o89,o0,o1,o90,o91,o92,o0,o1,o93,o94,o95,o0,o1,o96,o0,o97,o98,o99,o0,o1,Zp,o0,Zq,UX,UY,o0,o1,Zr,UZ,V0,o0,o1,Zs,V1,V2,o0,o1,Zt,o0,Zu,V3,V4,o0,o1,Zv,o0,Zw,V5,V6,o0,o1,Zx,o0,Zy,V7,V8,o0,o1,Zz,o0,ZA,V9,Va,o0,o1,ZC,o0,ZD,Vb,Vc,o0,o1,ZE,o0,ZF,Vd,Ve,o0,o1,ay6,o0,ay7,ZH,ZI,o0,o1,ay8,o0,ay9,ZJ,ZK,o0,o1,az0,o0,az1,ZL,ZM,o0,o1,az2,ZN,ZO,o0,o1,az3,o0,az4,ZP,ZQ,o0,o1,az5,o0,az6,ZR,ZS,o0,o1,az7,o0,az8,ZT,ZU,o0,o1,az9,ZV,ZW,o0,o1,aA0,o0,aA1,ZX,ZY,o0,o1,aA2,ZZ,aa0,o0,o1,aA3,aa1,aa2,o0,o1,aA4,o0,aA5,aa3,aa4,o0,o1,aA6,o0,aA7,aa5,aa6,o0,o1,aA8,aa7,aa8,o0,o1,aA9,aa9,ab0,o0,o1,aB0,ab1,ab2,o0,o1,aB1,o0,aB2,ab3,ab4]⟩,lf0⟩
def env:Env:={scope:=pq.main.scope,locals:=mainNs,globals:=mainNs,cells:=[],code:=(.ref 13),frame:=some 14}
abbrev bE:List aW:=behindTheImports pq
def cE:Code:= .body bE env
abbrev fp:Pos:=⟨0,0,0,0⟩
abbrev B:List Frame:=[topFrame fp]
def pre(w:bF)(os:OsState):topGo treeTable pq w 11 (some (.ref 6)) 12 ⟨boot_heap w.params,#[],boot_drawn,boot_toks,os⟩ (topStub pq)=some (⟨Ha w.params,#[],⟨0,0,0,0⟩,187,os⟩,⟨denote treeTable cE,cE,⟨0,0,0,0⟩,B⟩):=by kernel_rfl
def block(w:bF)(os:OsState):segRun treeTable pq w 11 (some (.ref 6)) 1 1 ⟨Ha w.params,#[],⟨0,0,0,0⟩,187,os⟩ (blockOf bE env cE ⟨0,0,0,0⟩ B)=some (.next,(S0 w os).abs,cE,⟨0,0,0,0⟩):=by kernel_rfl
def g0:List aW:=tk 9 (dr 0 bE)
def r0(w:bF)(os:OsState):segRunT treeTable pq w 11 (some (.ref 6)) 1 891 (S0 w os) (piecesOf g0 env cE ⟨0,0,0,0⟩ B)=some (.next,S1 w os,cE,⟨13,0,14,38⟩):=by kernel_rfl
def g1:List aW:=tk 28 (dr 9 bE)
def r1(w:bF)(os:OsState):segRunT treeTable pq w 11 (some (.ref 6)) 1 891 (S1 w os) (piecesOf g1 env cE ⟨13,0,14,38⟩ B)=some (.next,S2 w os,cE,⟨123,0,126,12⟩):=by kernel_rfl
def g2:List aW:=tk 17 (dr 37 bE)
def r2(w:bF)(os:OsState):segRunT treeTable pq w 11 (some (.ref 6)) 1 517 (S2 w os) (piecesOf g2 env cE ⟨123,0,126,12⟩ B)=some (.next,S3 w os,cE,⟨257,0,266,71⟩):=by kernel_rfl
def fin(w:bF)(os:OsState):topRun treeTable pq w 11 (some (.ref 6)) 2 (S3 w os).abs ⟨doneF .next,cE,⟨257,0,266,71⟩,B⟩=some ⟨H1 w.params,#[],⟨0,0,0,0⟩,638,os⟩:=by kernel_rfl
def hb:bE=(g0++(g1++(g2++[]))):=by kernel_rfl
def run(w:bF)(os:OsState):topRun treeTable pq w 11 (some (.ref 6)) (12+(1+(891+(891+(517+2))))) ⟨boot_heap w.params,#[],boot_drawn,boot_toks,os⟩ (topStub pq)=some ⟨H1 w.params,#[],⟨0,0,0,0⟩,638,os⟩:=
  go_top (pre w os) (piece_block (block w os) (UW hb (piece_app (segRun_of (r0 w os)) (piece_app (segRun_of (r1 w os)) (piece_app (segRun_of (r2 w os)) (piece_nil (fin w os)))))))
def K(P:dI):Frag:=(nat_lit 0,boot_o_0 P)::(nat_lit 1,boot_o_1 P)::(nat_lit 2,boot_o_2 P)::(nat_lit 3,ZG P)::(nat_lit 4,boot_o_4 P)::(nat_lit 5,boot_o_5 P)::(nat_lit 6,boot_o_6 P)::(nat_lit 7,boot_o_7 P)::(nat_lit 8,boot_o_8 P)::(nat_lit 9,boot_o_9 P)::(nat_lit 10,boot_o_10 P)::(nat_lit 13,o2)::(nat_lit 23,o11 P)::(nat_lit 24,o12)::(nat_lit 36,o20 P)::(nat_lit 37,o21)::(nat_lit 48,o27 P)::(nat_lit 49,o28)::(nat_lit 60,o34 P)::(nat_lit 61,o35)::(nat_lit 69,o40)::(nat_lit 70,o41)::(nat_lit 76,o46)::(nat_lit 77,o47)::(nat_lit 83,o50)::(nat_lit 84,o51)::(nat_lit 97,o58)::(nat_lit 98,o59)::(nat_lit 100,o61 P)::(nat_lit 101,o62)::(nat_lit 111,o69)::(nat_lit 112,o70)::(nat_lit 118,o73)::(nat_lit 119,o74)::(nat_lit 125,o77)::(nat_lit 126,o78)::(nat_lit 132,o81)::(nat_lit 133,o82)::(nat_lit 139,o85)::(nat_lit 140,o86)::(nat_lit 144,o88)::(nat_lit 145,o89)::(nat_lit 149,o91)::(nat_lit 150,o92)::(nat_lit 154,o94)::(nat_lit 155,o95)::(nat_lit 161,o98)::(nat_lit 162,o99)::(nat_lit 168,UX)::(nat_lit 169,UY)::(nat_lit 173,UZ)::(nat_lit 174,V0)::(nat_lit 178,V1)::(nat_lit 179,V2)::(nat_lit 185,V3)::(nat_lit 186,V4)::(nat_lit 192,V5)::(nat_lit 193,V6)::(nat_lit 199,V7)::(nat_lit 200,V8)::(nat_lit 206,V9)::(nat_lit 207,Va)::(nat_lit 213,Vb)::(nat_lit 214,Vc)::(nat_lit 220,Vd)::(nat_lit 221,Ve)::(nat_lit 227,ZH)::(nat_lit 228,ZI)::(nat_lit 234,ZJ)::(nat_lit 235,ZK)::(nat_lit 241,ZL)::(nat_lit 242,ZM)::(nat_lit 246,ZN)::(nat_lit 247,ZO)::(nat_lit 253,ZP)::(nat_lit 254,ZQ)::(nat_lit 260,ZR)::(nat_lit 261,ZS)::(nat_lit 267,ZT)::(nat_lit 268,ZU)::(nat_lit 272,ZV)::(nat_lit 273,ZW)::(nat_lit 279,ZX)::(nat_lit 280,ZY)::(nat_lit 284,ZZ)::(nat_lit 285,aa0)::(nat_lit 289,aa1)::(nat_lit 290,aa2)::(nat_lit 296,aa3)::(nat_lit 297,aa4)::(nat_lit 303,aa5)::(nat_lit 304,aa6)::(nat_lit 308,aa7)::(nat_lit 309,aa8)::(nat_lit 313,aa9)::(nat_lit 314,ab0)::(nat_lit 318,ab1)::(nat_lit 319,ab2)::(nat_lit 325,ab3)::(nat_lit 326,ab4)::[]
abbrev as:List av:=[0,1,2,3,4,5,6,7,8,9,10,13,23,24,36,37,48,49,60,61,69,70,76,77,83,84,97,98,100,101,111,112,118,119,125,126,132,133,139,140,144,145,149,150,154,155,161,162,168,169,173,174,178,179,185,186,192,193,199,200,206,207,213,214,220,221,227,228,234,235,241,242,246,247,253,254,260,261,267,268,272,273,279,280,284,285,289,290,296,297,303,304,308,309,313,314,318,319,325,326]
abbrev q:cP:=view PySem.Challenge.pw_pegleap_k11_papers_looked_at [1,2,3,4,6,7,8,9,10,11,12,13,14,15,17,18,19,20,21,23,24,25,26,27,29,30,31,32,33,34,36,37,38,39,40,41,42,43,44,45,46,47,48,49,50,51,52,53]
abbrev loose:List Str:=[]
abbrev lv:List (Str×WData):=[]
def dL:DefRec:=match st 53 with | .FunctionDef n a b _ _ _ sc _ _ ps=>⟨n,a,b,sc,ps⟩|_=>⟨default,default,[],default,⟨0,0,0,0⟩⟩
theorem ws:PySem.Challenge.rw_pegleap_k11_papers_looked_at.wellSaid=true:=by kernel_rfl
theorem size(w:bF):((boot_heap w.params).isNs gU&&(#[]:Array GenState).size==0,(boot_heap w.params).objs.size,(boot_heap w.params).nsMap gU "__annotations__")=(true,11,(some (.ref 6))):=by kernel_rfl
theorem aB3(w:bF):(fun os=>((staticsOk (importedModules pq.main.body) (boot_heap w.params) (H1 w.params)&&namesBound pq (H1 w.params)&&gensDone ⟨H1 w.params,#[],⟨0,0,0,0⟩,638,os⟩&&laidKept (boot_heap w.params) (H1 w.params)),openSeen q loose (importedModules pq.main.body) (fun s=>xlAt q lv s&&recOk (RowW.records (OpenRow.toRowW (OpenLaw.row PySem.Challenge.rw_pegleap_k11_papers_looked_at))) s) true ⟨H1 w.params,#[],⟨0,0,0,0⟩,638,os⟩,(fun s:ay=>as.map s.heap.get?) ⟨H1 w.params,#[],⟨0,0,0,0⟩,638,os⟩))=fun _=>(true,openGood q loose,(fun w:bF=>(K w.params).map fun p=>some p.2) w):=by kernel_rfl
theorem hl:LeftO pq q loose (fun s=>xlAt q lv s&&recOk (RowW.records (OpenRow.toRowW (OpenLaw.row PySem.Challenge.rw_pegleap_k11_papers_looked_at))) s) (fun s:ay=>as.map s.heap.get?) (fun w:bF=>(K w.params).map fun p=>some p.2) 4718:=
  LeftO.of_pieces (boot_open (by kernel_rfl) (by kernel_rfl) (fun s=>by kernel_rfl)) size run (by kernel_rfl) aB3
end Hd
end
open PySem PySem.W PyProof.Rows
set_option maxRecDepth 100000 in
set_option maxHeartbeats 0 in
theorem PySem.Challenge.cw_pegleap_k11_papers_looked_at_holds : PySem.Challenge.rw_pegleap_k11_papers_looked_at.Holds := by
  refine holds_law Hd.ws fun aR5=> ?_
  refine holds_openX (r:=OpenLaw.row PySem.Challenge.rw_pegleap_k11_papers_looked_at) (d:=Hd.dL) (kwd:=[]) Hd.hl (fun s e=>xl_of s (Bool.and_eq_true_iff.mp e).1) XL.keeps (by kernel_rfl) (by kernel_rfl) (by kernel_rfl) (fun s e=>recFacts_of (Bool.and_eq_true_iff.mp e).2) (by kernel_rfl) aR5 (by kernel_rfl) ⟨rfl,rfl,rfl,rfl,rfl,by kernel_rfl⟩ ?hw ?hc
  (case hw=>w_on;w_witness2)
  k_fill
  refine Pk.aw2 (l:=PySem.Challenge.rw_pegleap_k11_papers_looked_at) (by kernel_rfl) (by kernel_rfl) (fun _=>by kernel_rfl) ?F
  case F=>
    intro w mg fa h KX G hmg
    exact Pk.aw1 (h:=h) hmg ⟨⟨_,_,_,_,_,_,_,_,_,_⟩,⟨Dm.mW KX G,Dm.mW KX G,Dm.mW KX G,Dm.mW KX G,Dm.mW KX G,Dm.mW KX G,Dm.mW KX G,Dm.mW KX G,Dm.mW KX G,Dm.mW KX G,Dm.mW KX G,Dm.mW KX G,Dm.mW KX G,Dm.mW KX G,Dm.mW KX G,Dm.mW KX G,Dm.mW KX G,Dm.mW KX G,Dm.mW KX G,Dm.mW KX G,Dm.mW KX G,Dm.mW KX G,Dm.mW KX G,Dm.mW KX G,Dm.mW KX G,Dm.mW KX G,Dm.mW KX G,Dm.mW KX G,Dm.mW KX G,Dm.mW KX G,Dm.mW KX G,Dm.mW KX G,Dm.mW KX G,Dm.mW KX G,Dm.mW KX G,Dm.mW KX G,Dm.mW KX G,Dm.mW KX G,Dm.DL KX G,Dm.DL KX G,Dm.DL KX G,Dm.DL KX G,Dm.DL KX G,Dm.DL KX G,Dm.DL KX G,Dm.DL KX G,Dm.DL KX G,Dm.DL KX G,Dm.DL KX G,Dm.DL KX G,Dm.DL KX G,Dm.DL KX G,Dm.DL KX G,Dm.DL KX G,Dm.DL KX G,Dm.R3 KX G,Dm.R3 KX G,Dm.R3 KX G,Dm.R3 KX G,Dm.R3 KX G,Dm.R3 KX G,Dm.R3 KX G,Dm.R3 KX G,Dm.R3 KX G,Dm.R3 KX G,by kernel_rfl,by kernel_rfl,by kernel_rfl,Dm.htS,Dm.htS,Dm.clS,Dm.naS,Dm.inS⟩⟩ (fun t ns hl=>Pk.ay4 t ns)
end Zo
